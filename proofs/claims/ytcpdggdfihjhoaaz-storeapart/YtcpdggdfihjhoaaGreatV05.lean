import Derived.Test.YtcpdggdfihjhoaaGreatV01
import Derived.Test.YtcpdggdfihjhoaaGreatV03
import Derived.Test.YtcpdggdfihjhoaaGreatV04
import Derived.Scope
import Derived.WalkMore
import Derived.Laws.AppendOwn
import Derived.Lib.AppendStr
import Derived.OwnWalk
import Derived.Deep.RegionLaw
set_option maxRecDepth 20000
set_option maxHeartbeats 8000000
set_option linter.all false
namespace Go.Proofs.YtcpdggdfihjhoaaGreat
open Go.Proofs.Tryz
open Go.RowKit Go.Maps
variable {X ms:CM} {S S':DS} {L:LG} {us:List (Nat×List Int)} {d l rc:List Int} {c c' cR cap cJ g g2 gp h0 i k n p s:Nat} {x:Nat×List Int} {UX:Nat->List Int} {F F2 Z:Nat->Prop} {a:Option Addr} {α:Type} {v:Value} {W w w' w0 w1 w2 w3:World}
section
def kv {S:DS} (b:S.fN) (s h:Nat):∀{ms:CM},(∀q∈ms,Bytes q.2)->(aE S s h ms).2.fN:=λ{ms} c=>by
 induction ms generalizing S with
 |nil=>exact b
 |cons q f e=>
  rw [jA];have a:(S.wr s ((h+q.1:Nat):Int) 512 q.2).2.fN:=b.wr s _ _ (c q List.mem_cons_self);split
  .exact a
  .exact e a (λx d=>c x (List.mem_cons_of_mem _ d))
def EB {s:Nat} (h:L.Ok s) (S:DS):(L.trim S s).2.2.Ok s/\(L.trim S s).2.2.begun=L.begun:=by
 unfold LG.trim;split
 .exact⟨h,rfl⟩
 .split
  .exact⟨h,rfl⟩
  .split
   .exact⟨h,rfl⟩
   .exact⟨⟨h.s,h.n1,h.n2,h.ep,h.top,bR _,Nat.le_add_right _ _,h.hi,h.hb⟩,rfl⟩
section
variable {w w':World} {F:Nat->Prop} {p s cR q l m t n:Nat} {S:DS} {G:SG} {T:TG}
def iw.GZ {a:LG} {PR:CM} (h:iw w F p s cR q l m S G) (hd:B.ax w' (more F w w') p s S' c') (bj:nx w' q p l m G.y G.busy) (b:cY w' l p a) (ny:Ch w' m PR) (Bl:a.Ok s) (vO:a.begun=true) (po:∀x∈PR,x.1<G.y.blocks):iw w' (more F w w') p s c' q l m S' {G with L:=a,ov:=PR}:=by
 obtain⟨c,d,f⟩:=kH h.st.lt h.lp.lt h.ch.lt;exact⟨hd,bj,b,ny,λe=>e.elim h.nq (λe=>by omega),λe=>e.elim h.nl (λe=>by omega),λe=>e.elim h.nm (λe=>by omega),h.ql,h.qm,h.lm,Bl,vO,h.hs,po⟩
def C9 (h:iw w F p s cR q l m S G) (dO:S.fN) (aU:S.puts.length+4000<=4000000000000):
  Calls prog 77 #[pQ q] w λe w'=>e= .returned (iV (G.check S s).1)/\iw w' (more F w w') p s (cR+2) q l m (G.check S s).2.1 (G.check S s).2.2/\aa (λk=>F k\/k=l\/k=m) w w':=by
 obtain⟨J,O,u,lG,N⟩:=eQ (B.Ac h.d h.lp h.nl (by omega)) (nN G.L S s) (qd dO G.L s) h.ch.small (eG (G.L.sync S s).2 s G.y.home G.ov);have t:=kv u s G.y.home (λx i=>(h.ch.len x i).2.2);have c:=EB h.lk (aE (G.L.sync S s).2 s G.y.home G.ov).2;have Ya:=h.hs;have K:=λ(w1:World) (iP:B.ax w1 F p s (G.L.sync S s).2 cR) (el:nx w1 q p l m G.y G.busy) (JF:Ch w1 m G.ov)=>sd iP el JF h.nq h.nm (λx i=>by have:=h.kb x i;omega) (by omega);have M:=λ(w1:World) (A:Nat->Prop) (iP:B.ax w1 A p s (aE (G.L.sync S s).2 s G.y.home G.ov).2 cR) (cu:cY w1 l p G.L) (iu:¬A l)=>B.Sl iP cu h.lk iu t (by omega);have W:=h.st.c1;have H:=h;obtain⟨R,b⟩:=bP (G.check S s);rw [<-b];unfold SG.check at b;generalize G.L.sync S s=Z at*;generalize aE Z.2 s G.y.home G.ov=Y at*;generalize G.L.trim Y.2 s=X at*;obtain⟨iM,Bt,KL,ym,T,Q,Wt⟩:=nD h.d.lt h.ql h.qm h.lm h.st.lt h.lp.lt h.ch.lt;go_in;go_wp2_with fail;refine pz J λw1 iP cu fh=>?_;by_cases j:Z.1=0
 .have D:(Z.1 != 0)=false:=by rw [j];rfl
  rw [aB (λh=>h j)] at b;have dE:=fh.size;have el:=H.st.aw fh H.nq;have JF:=H.ch.aw fh H.nm;have P:=K w1 iP el JF;have pd:=(aH el (aH JF (aH cu fh)));go_wp2_with fail;refine fQ P λf cI aY=>?_;obtain⟨em,br,Cu,fK,pr⟩:=eQ aY.size (pd.1.aw aY H.nq) (pd.2.1.aw aY H.nm) (pd.2.2.1.aw aY H.nl) (pd.2.2.2.trans aY (λ_ h=> .inl h));by_cases n:Y.1=0
  .have E:(Y.1 != 0)=false:=(by rw [n];rfl);rw [aB (λh=>h n)] at b;have mu:¬more F w1 f l:=λe=>e.elim H.nl (λe=>by omega);have hnq:¬more F w1 f q:=λe=>e.elim H.nq (λe=>by omega);have xH:¬more F w1 f m:=λe=>e.elim H.nm (λe=>by omega);have U:=M f (more F w1 f) cI fK mu;have C:=br.c1;have xJ:=(aH br (aH Cu pr));go_wp2_with fail;refine pz U λr v iq aZ=>?_;have lq:=aZ.size;have fM:=xJ.1.aw aZ (λe=>e.elim hnq Bt);have CA:=xJ.2.1.aw aZ (λe=>e.elim xH (λe=>ym e.symm));have qB:=v.mono (λk a=>by
    rcases a with (a|a)|a
    .exact .inl a
    .exact .inr ⟨by omega,by omega⟩
    .exact .inr ⟨by omega,a.2⟩) (cK (F:=F) (w:=w) iM (by omega))
   have adO:aa (λk=>F k\/k=l\/k=m) w r:=(xJ.2.2.mono (λ_ h=> .inl h)).trans aZ (λk a=>by
    rcases a with (a|a)|a
    .exact .inl (.inl a)
    .exact .inr (by omega)
    .exact .inl (.inr (.inl a)))
   by_cases o:X.1=0
   .have I:(X.1 != 0)=false:=(by rw [o];rfl);rw [aB (λh=>h o)] at b;obtain⟨z,yK,ny,By,eM⟩:=CA.qS;have c7:=fM.c7;have g:(iw z (more F w z) p s (cR+2) q l m X.2.1 {G with L:=X.2.2,ov:= []}/\aa (λk=>F k\/k=l\/k=m) w z):=by
     refine⟨H.GZ ((qB.aw By (λk a e=>by
      subst e;exact a.elim H.nm (λh=>by omega))).mono (λk a=>a.elim .inl (λh=> .inr ⟨h.1,by omega⟩)) (cK (F:=F) (w:=w) iM (by omega))) (fM.aw By KL) (iq.aw By ym) ny c.1 (c.2.trans H.bg) (λx i=>by cases i),adO.trans By (λ_ e=> .inl (.inr (.inr e)))⟩
    go_wp2;go_ret;rw [b];exact⟨rfl,g⟩
   .have I:(X.1 != 0)=true:=(by rw [gg];exact o);rw [aG o] at b;have g:(iw r (more F w r) p s (cR+2) q l m X.2.1 {G with L:=X.2.2}/\aa (λk=>F k\/k=l\/k=m) w r):=⟨H.GZ qB fM iq CA c.1 (c.2.trans H.bg) H.kb,adO⟩;go_wp2;go_ret;rw [b];exact⟨rfl,g⟩
  .have E:(Y.1 != 0)=true:=(by rw [gg];exact n);rw [aG n] at b;have g:(iw f (more F w f) p s (cR+2) q l m Y.2 G/\aa (λk=>F k\/k=l\/k=m) w f):=⟨H.GZ ((cI.from iM dE em).le (by omega)) br fK Cu H.lk H.bg H.kb,pr.mono (λ_ h=> .inl h)⟩;go_wp2;go_ret;rw [b];exact⟨rfl,g⟩
 .have D:(Z.1 != 0)=true:=by rw [gg];exact j
  rw [aG j] at b;have g:(iw w1 (more F w w1) p s (cR+2) q l m Z.2 G/\aa (λk=>F k\/k=l\/k=m) w w1):=⟨H.GZ (iP.more.le (by omega)) (H.st.aw fh H.nq) cu (H.ch.aw fh H.nm) H.lk H.bg H.kb,fh.mono (λ_ h=> .inl h)⟩;go_wp2;go_ret;rw [b];exact⟨rfl,g⟩
end
end
section
namespace B
def bY (w:World) (F:Nat->Prop) (p s:Nat) (S:DS) (m c:Nat):Prop:=∃r,gV w F p s (S.Ee r) m/\Rb r c
section
variable {w w':World} {F G:Nat->Prop} {p s m c:Nat} {S:DS}
def bY.old (h:bY w F p s S m c):Go.Proofs.YtcpdggdfihjhoaaGreat.bY w F p s S m:=by obtain⟨r,h,_⟩:=h;exact⟨r,h⟩
def bY.le {d:Nat} (h:bY w F p s S m c) (hd:c<=d):bY w F p s S m d:=by obtain⟨r,h,a⟩:=h;exact⟨r,h,a.le hd⟩
def bY.r (h:bY w F p s S m c):ax w F p s S c:=by obtain⟨r,h,a⟩:=h;exact⟨r,h.at,a⟩
def ax.aab (h:ax w F p s S c):∃m,bY w F p s S m c:=by
 obtain⟨r,h,a⟩:=h;obtain⟨m,h⟩:=h.m;exact⟨m,r,h,a⟩
def bY.aw (h:bY w F p s S m c) (k:aa G w w') (hd:∀k,F k->¬G k):bY w' F p s S m c:=by obtain⟨r,h,a⟩:=h;exact⟨r,h.aw k hd,a⟩
def bY.later (h:bY w F p s S m c) (a:bW w w'):bY w' F p s S m c:=h.aw (aa.ah (λ_=>False) a) (λ_ _ h=>h)
def bY.mono (h:bY w F p s S m c) (a:∀k,F k->G k) (b:∀k,G k->k<w.heap.size):bY w G p s S m c:=by obtain⟨r,h,d⟩:=h;exact⟨r,h.mono a b,d⟩
def adP (h:bY w F p s S m c) (k:Nat) (n:k<s) (aU:S.puts.length+1<=4000000000000) (l:S.fuse≠0):
  Calls prog 39 #[pQ p,iV (k:Int)] w λe w'=>∃g a,e= .returned (.tuple #[.slice (some (aD g 0)) 512 a,iV 0])/\w.heap.size<=g/\ay w' 5 g a (bs (S.now k))/\bY w' F p s S m (c+1)/\aa F w w':=by
 obtain⟨r,h,o⟩:=h;refine(FQ h k l n (by show S.puts.length<=_;omega)).mono ?_;rintro e w' ⟨g,a,b,d,f,i,j⟩;exact⟨g,a,b,d,f,⟨_,i,o.read⟩,j⟩
def aac (h:bY w F p s S m c) (k:Nat) (b:k<s) (aU:S.puts.length+1<=4000000000000) (a:S.fuse≠0) (x:Addr) (d:Nat) (l:List Int) (n:Src w (some x) 512 l):
  Calls prog 51 #[pQ p,iV (k:Int), .slice (some x) 512 d] w λe w'=>e= .returned (iV 0)/\bY w' (more F w w') p s (S.wr s (k:Int) 512 l).2 m c/\aa F w w':=by
 obtain⟨r,h,j⟩:=h;refine(Cw h k b a (by show S.puts.length+1<=_;omega) x d l n).mono ?_;rintro e w' ⟨f,g,i⟩;refine⟨f,⟨r,?_,j⟩,i⟩;rw [pf a b];exact g
end
def Wu {w:World} {F:Nat->Prop} {p s m:Nat} {S:DS} (h:bY w F p s S m cR) (f n E P i c:Nat) (a:Option Addr) (x k:Nat) (l:List Int) (U:Src w a x l) (UN:∀y,a=some y->0<x->¬F y.block) (hb:Bytes l) (hx:x<=492) (tM:a=none->k=0) (hn:1<=n) (hfn:f+2+n<=s) (aU:S.puts.length+2<=4000000000000):
  Calls prog 215 #[kJ p f n,lw E P i c a x k] w λe w'=>e= .returned (iV (j2 S s f n E P i c l).1)/\bY w' (more F w w') p s (j2 S s f n E P i c l).2 m (cR+1)/\aa F w w':=by
 obtain⟨Kw,dw,iM⟩:=kH h.r.ok.hi h.r.ok h.r.lt;have u:¬F w.heap.size:=λb=>by have:=h.r.lt _ b;omega
 have DO:¬F (w.heap.size+1):=λb=>by have:=h.r.lt _ b;omega
 have L:=(aH u DO);have ao9:P%n<n:=Nat.mod_lt _ hn;have C:=gZ w (.cells #[.pointer (some ⟨p,0,none⟩), .int .i64 f, .int .i64 n] 144) (.cells (eS E P i c a x k) 230);have PS:((w.alloc (.cells #[.pointer (some ⟨p,0,none⟩), .int .i64 f, .int .i64 n] 144)).alloc (.cells (eS E P i c a x k) 230)).heap[w.heap.size]? =some (.cells #[.pointer (some ⟨p,0,none⟩), .int .i64 f, .int .i64 n] 144 (0,0)):=(Below.heap_alloc _ _ _ (by simp)).trans (heap_alloc_new _ _);have PU:((w.alloc (.cells #[.pointer (some ⟨p,0,none⟩), .int .i64 f, .int .i64 n] 144)).alloc (.cells (eS E P i c a x k) 230)).heap[w.heap.size+1]? =some (.cells (eS E P i c a x k) 230 (0,0)):=by
  have:=heap_alloc_new (w.alloc (.cells #[.pointer (some ⟨p,0,none⟩), .int .i64 f, .int .i64 n] 144)) (.cells (eS E P i c a x k) 230);rwa [World.size_alloc] at this
 have b:=λwx=>Mk p f n P wx (by omega) (by omega) (by omega) (by omega) (by omega);obtain⟨j,o,I,D,M,H⟩:=jH C PS PU (h.later C) (U.later C) UN;clear h C PS PU U u DO UN;unfold j2;go_in;by_cases q:S.fuse=0
 .rw [aG q];go_wp2_with fail;refine(b _).mono ?_;rintro e w1 ⟨rfl,ar⟩;have PS:=(ar.block _ (by simp;omega)).trans o;have N:=aM PS;have t:=oI (D.later ar).r ((f:Int)+2+(P:Int)%(n:Int)) q;have A:=(aH ((((D.later ar).mono (G:=more F w w1) (λ_ h=> .inl h) (cK iM (j.trans (ar.mono j.size)).size))).le (by omega:cR<=cR+1)) (aa.ah F (j.trans (ar.mono j.size))));clear b ar PS;go_wp2_with fail;refine t.mono ?_;rintro e d ⟨rfl,rfl⟩;clear t;go_wp2;go_ret;exact⟨rfl,A⟩
 .rw [aB q];have mu:=bA dw (f+2+P%n) (by omega);have hlx:=M.1;have mm:=sJ (old:=S.now (f+2+P%n)) (body:=kR E P i c l) mu (by rw [vz];omega);obtain⟨Y,K⟩:=bP (gy (S.now (f+2+P%n)) (kR E P i c l));rw [<-K] at mm⊢;have X:=K;clear K;have O:(f:Int)+2+(P:Int)%(n:Int)=((f+2+P%n:Nat):Int):=by omega
  rw [O] at b;clear O;go_wp2_with fail;refine(b _).mono ?_;rintro e w1 ⟨rfl,ar⟩;have PS:=(ar.block _ (by simp;omega)).trans o;have PU:=(ar.block _ (by simp)).trans I;have N:=aM PS;obtain⟨t,cQ,pd,aiM,aiN⟩:=eQ (adP (D.later ar) (f+2+P%n) (by omega) (by omega) q) ((j.trans (ar.mono j.size))) ((M.later ar)) PS PU;clear b ar PS PU;go_wp2_with fail;refine t.mono ?_;rintro e d ⟨g,cg,rfl,hg,T,cI,aY⟩;have PS:=eF aiM aY L.1;have PU:=eF aiN aY L.2;have q0:d.cell? ⟨w.heap.size+1,0,none⟩=some (iV (E:Int)):=aM PU;have q1:d.cell? ⟨w.heap.size+1,1,none⟩=some (iV (P:Int)):=bG PU;have q2:d.cell? ⟨w.heap.size+1,2,none⟩=some (iV (i:Int)):=bM PU;have q3:d.cell? ⟨w.heap.size+1,3,none⟩=some (iV (c:Int)):=fU PU;have q4:d.cell? ⟨w.heap.size+1,4,none⟩=some (.slice a x k):=gH PU;have Q:=Rn E P i c a x k l d (pd.pg aY H) hx tM;have my:=T.src;rw [mu] at my;obtain⟨W,sG,ii,adQ⟩:=cP my cI (((aa.ah F cQ).trans aY (λ_ h=> .inl h))) PS;clear t T my cI aY PS PU;go_wp2_with fail;refine Q.mono ?_;rintro e w3 ⟨v,rfl,uj,bz⟩;obtain⟨Z,c3,rfl,fM,_,_⟩:=uj.src;have J:=Q3 (some (aD g 0)) 512 cg (S.now (f+2+P%n)) Z _ c3 (kR E P i c l) w3 (W.later bz) fM (mH hb);rw [<-X,mm.1] at J;have VJ:=(sG.later bz);have lW:=(ii.trans (aa.ah (λ_=>False) bz) (λ_ h=>h.elim));have adR:=((bz.block _ (aq adQ)).trans adQ);clear Q uj bz fM;go_wp2_with fail;refine J.mono ?_;rintro e w4 ⟨v4,rfl,⟨a4,c4,rfl,EC,_,_⟩,eJ⟩;have N:=aM ((eJ.block _ (aq adR)).trans adR);rw [mm.2] at EC⊢;obtain⟨b5,o5,rfl⟩:=cZ EC (by omega);have R:=aac (VJ.later eJ) (f+2+P%n) (by omega) (by omega) q (aD b5 o5) c4 Y.1 EC;have Mw:=(lW.trans (aa.ah (λ_=>False) eJ) (λ_ h=>h.elim));clear J eJ EC;go_wp2_with fail;refine fQ R λw5 jJ dX=>?_;have vt:=Mw.size;have pT:=dX.size;have A:=(aH ((jJ.mono (G:=more F w w5) (λk z=>by
    rcases z with z|z
    .exact .inl z
    .exact .inr ⟨by omega,z.2⟩) (cK iM (by omega)))) (Mw.trans dX (λ_ h=> .inl h)))
  clear R jJ dX;go_wp2;go_ret;rw [(pf q (show f+2+P%n<s by omega) Y.1)] at A⊢;exact⟨rfl,A⟩
end B
end
section
namespace B
def bY.narrow {w:World} {F G:Nat->Prop} {p s:Nat} {S:DS} {m a:Nat} (h:bY w F p s S m a) (b:∀k,F k->(IsC w k\/k=m)->G k) (c:∀k,G k->k<w.heap.size):bY w G p s S m a:=by
 obtain⟨r,h,d⟩:=h;exact⟨r,h.narrow b c,d⟩
def bY.fm {w:World} {F:Nat->Prop} {p s:Nat} {S:DS} {m a:Nat} (h:bY w F p s S m a):F m:=h.old.fm
def bY.fc {w:World} {F:Nat->Prop} {B p s:Nat} {S:DS} {m b:Nat} (h:bY w' (more (FC F B m w) w w') p s S m b) (e:B<=w.heap.size) (c:w0=w0):bY w' (FC F B m w') p s S m b:=
 h.narrow (λk a d=>⟨by
  rcases a with a|a
  .exact a.1
  .exact .inr (by omega),d,h.r.lt k a⟩) (λ_ a=>a.2.2)
structure ED (w W:World) (F:Nat->Prop) (l p s m M n0:Nat) (L:LG) (S:DS) (d:List Int) (xs:List Nat) (cR:Nat):Prop where
 ok:(rN L S s d xs).1=0
 dk:bY W (FC F n0 m W) p s (rN L S s d xs).2 m (cR+xs.length)
 mrk:W.heap[M]? =some (.cells #[.int .i64 (L.ep:Int), .int .i64 ((L.head+xs.length:Nat):Int), .int .i64 ((xs.length:Nat):Int), .int .i64 ((di d.length:Nat):Int)] 228 (0,0))
 bx:ik W w.heap.size l
 kp:aa F w W
 sz:n0<=W.heap.size
structure G0 (w W:World) (F:Nat->Prop) (p s m n0:Nat) (L:LG) (S:DS) (d:List Int) (xs:List Nat) (cR:Nat):Prop where
 no:(rN L S s d xs).1≠0
 dk:bY W (FC F n0 m W) p s (rN L S s d xs).2 m (cR+xs.length)
 er:W.heap[w.heap.size+1]? =some (.cells #[.int .i64 (rN L S s d xs).1] 49 (0,0))
 kp:aa F w W
 sz:n0<=W.heap.size
def bY.carry {W W':World} {F:Nat->Prop} {p s m f c:Nat} {S:DS} (h:bY W (FC F f m W) p s S m c) (e:kD W W') (g:W'.heap[m]? =W.heap[m]?) (j:W.heap.size<=W'.heap.size):bY W' (FC F f m W') p s S m c:=by
 obtain⟨r,h,i⟩:=h;refine⟨r,(h.agree j (λk a=>?_)).mono (λk a=>⟨a.1,?_,by have:=a.2.2;omega⟩) (λ_ a=>a.2.2),i⟩
 .rcases a.2.1 with ⟨cur,t,d,b⟩|rfl
  .rw [e _ _ _ _ b,b]
  .exact g
 .rcases a.2.1 with ⟨cur,t,d,b⟩|h
  .exact .inl ⟨cur,t,d,e _ _ _ _ b⟩
  .exact .inr h
section
variable {w W W':World} {F:Nat->Prop} {l p s m M n0 cR:Nat} {L:LG} {S:DS} {d:List Int} {xs:List Nat}
def ED.step (h:ED w W F l p s m M n0 L S d xs cR) (a:kD W W') (e:W'.heap[m]? =W.heap[m]?) (b:W.heap.size<=W'.heap.size) (c:aa F w W'):ED w W' F l p s m M n0 L S d xs cR:=
   ⟨h.ok,h.dk.carry a e b,a _ _ _ _ h.mrk,⟨a _ _ _ _ h.bx.1,a _ _ _ _ h.bx.2⟩,c,k9 h.sz b⟩
def G0.step (h:G0 w W F p s m n0 L S d xs cR) (a:kD W W') (e:W'.heap[m]? =W.heap[m]?) (b:W.heap.size<=W'.heap.size) (c:aa F w W'):G0 w W' F p s m n0 L S d xs cR:=
   ⟨h.no,h.dk.carry a e b,a _ _ _ _ h.er,c,k9 h.sz b⟩
def Fq (h:bY W (FC F n0 m W) p s S m cR):m<W.heap.size:=h.fm.2.2
def ED.grown {row:Option Nat} (h:ED w W F l p s m M n0 L S d xs cR) (c:m<n0) (f:w.heap.size<=n0) (a:W.grownBy W' row) (b:∀r,row=some r->n0<=r/\∃o:Obj,W.heap[r]? =some o/\o.isCells=false):ED w W' F l p s m M n0 L S d xs cR:=
 h.step (jh a (λr e=>(b r e).2)) (a.block m (Fq h.dk) (λe=>by have:=(b m e.symm).1;omega)) a.size (h.kp.grown a (λr e=>by have:=(b r e).1;omega))
def G0.grown {row:Option Nat} (h:G0 w W F p s m n0 L S d xs cR) (c:m<n0) (f:w.heap.size<=n0) (a:W.grownBy W' row) (b:∀r,row=some r->n0<=r/\∃o:Obj,W.heap[r]? =some o/\o.isCells=false):G0 w W' F p s m n0 L S d xs cR:=
 h.step (jh a (λr e=>(b r e).2)) (a.block m (Fq h.dk) (λe=>by have:=(b m e.symm).1;omega)) a.size (h.kp.grown a (λr e=>by have:=(b r e).1;omega))
end
def bY.Fr {W W':World} {F:Nat->Prop} {p s m c b d:Nat} {S:DS} (h:bY W (FC F c m W) p s S m d) (a:aa (λk=>k=b) W W') (f:¬FC F c m W b):bY W' (FC F c m W') p s S m d:=
   (h.aw a (λk a e=>f (e▸a))).mono (λk BJ=>⟨BJ.1,by
  rcases BJ.2.1 with ⟨cur,t,g,i⟩|h
  .exact .inl ⟨cur,t,g,(a.block k BJ.2.2 (λe=>f (e▸BJ))).trans i⟩
  .exact .inr h,by have:=BJ.2.2;have:=a.size;omega⟩) (λ_ a=>a.2.2)
def MQ {w W:World} {F:Nat->Prop} {p s m b M l D c:Nat} {S:DS} {L:LG} {e:Int} (n:∀j,F j->j<w.heap.size) (hd:bY W (FC F b m W) p s S m c) (u:cY W l p L) (a:aa (λk=>F k\/k=l) w W) (f:W.heap[w.heap.size+1]? =some (.cells #[.int .i64 e] 49 (0,0))) (g:W.heap[D]? =some (.deferred (some [])))
    (i:b<=D) (v:l<w.heap.size) (z:w.heap.size+2<=M) (o:M<b) (Wt:m<w.heap.size):
    (W.putObj D (.deferred none)).cell? ⟨w.heap.size+1,0,none⟩=some (iV e)/\ax (W.putObj D (.deferred none)) (more F w (W.putObj D (.deferred none))) p s S c/\cY (W.putObj D (.deferred none)) l p L/\aa (λk=>F k\/k=l) w (W.putObj D (.deferred none)):=by
 have eM:(W.putObj D (.deferred none)).heap.size=W.heap.size:=by simp [World.putObj]
 have mZ:aa (λk=>k=D) W (W.putObj D (.deferred none)):=⟨rfl,rfl,rfl,by omega,λk _ x=>World.putObj_heap_other x⟩;have q:=a.size;refine⟨aM ((mZ.block _ (aq f) (by omega)).trans f),?_,u.aw mZ (by omega),a.trans mZ (λ_ h=> .inr (by omega))⟩;refine(hd.r.aw mZ (λk a e=>?_)).mono (λk a=>?_) (λk a=>?_)
 .rcases a.2.1 with ⟨cur,t,y,d⟩|h
  .rw [e,g] at d;cases d
  .omega
 .rcases a.1 with h|h
  .exact .inl h
  .exact .inr ⟨by omega,by have:=a.2.2;omega⟩
 .rcases a with h|h
  .have:=n k h;omega
  .exact h.2
end B
end
section
namespace B
open Go.RowKit Go.Shelf
attribute [local go_sem] Oper.semAt_some
section
variable {w:World} {F:Nat->Prop} {p s l cR:Nat} {S:DS} {L:LG}
set_option maxRecDepth 100000 in
def Ov (h:ax w F p s S cR) (hl:cY w l p L) (A:L.Ok s) (hF:¬F l) (b o x k:Nat) (d:List Int) (hs:Src w (some (aD b o)) x d) (DO:¬F b) (hd:Bytes d) (hxk:x<=k) (hr:L.fY S x=0) (aU:S.puts.length+100<=4000000000000):
  Calls prog 174 #[pQ l, .slice (some (aD b o)) x k] w λe w'=>e= .returned (iV (L.append S s d).1)/\ax w' (more F w w') p s (L.append S s d).2.1 (cR+17)/\cY w' l p (L.append S s d).2.2/\aa (λk=>F k\/k=l) w w':=by
 obtain⟨k0,k1,k2,k3,k4⟩:=jM hr;obtain⟨W0,Kn⟩:=zEr ((w.alloc (.cells #[.pointer (some ⟨l,0,none⟩)] 89)).alloc (.cells #[.int .i64 0] 49));have fR:bW w W0:=by rw [<-Kn];exact gZ _ _ _
 have pP:ik W0 w.heap.size l:=by
  rw [<-Kn];refine⟨(Below.heap_alloc _ _ _ (by simp)).trans (heap_alloc_new _ _),?_⟩;have:=heap_alloc_new (w.alloc (.cells #[.pointer (some ⟨l,0,none⟩)] 89)) (.cells #[.int .i64 0] 49);rwa [World.size_alloc] at this
 have M:=jx (h.later fR) (hl.later fR);rw [k0] at M;obtain⟨eM,HW,HQ,HB,HL,hhi,HO⟩:=nD hl.lt (yh Kn) (yh pP) (yh fR) (yh (hl.later fR)) A.hi (yh A);have iP:((x:Int) == 0)=false:=by rw [fy];omega
 have cI:¬(8364:Int)<(x:Int):=by omega
 obtain⟨C,hC⟩:=bP ((x+491) / 492);have Yi:di x=C:=by rw [hC];rfl
 rw [Yi] at k3 k4;have Qs:C<=17:=by omega
 have hd3:¬(1073741824:Int)<(L.head:Int)+(C:Int):=by omega
 obtain⟨HC,HD,E,HR,iM⟩:=Ve hC h hl hr h.lt;clear hC fR pP Kn A hl h hr k0;refine(callsIn_wide (n:=6)).1 ?_;refine callsIn_of_wp_marks func174 rfl trivial ?_ rfl;simp only [ntmps174,List.size_toArray,List.length_cons,List.length_nil,Nat.reduceAdd,Nat.reduceSub,Array.replicate_succ,Array.replicate_zero,List.push_toArray,List.append_toArray,List.nil_append,List.cons_append];refine(wpIn_wide (n:=6)).2 ?_;go_wp2_with fail;rw [HW.o];refine M.mono ?_;rintro e w1 ⟨rfl,ar⟩;have iO:=ik.later HQ.o ar;have b0:w1.cell? (aD w.heap.size 0)=some (pQ l):=aM iO.1;have cu:=HL.o.later ar;have bN:=HB.o.trans (ar.mono HB.o.size);have c7:=cu.c7;have h3:=zB cu HO.o;have r:=λwx=>jf x wx (by omega);obtain⟨cQ,HQ1,BW⟩:=kI bN iO cu;clear M ar bN iO cu;go_wp2_with fail;refine(r _).mono ?_;rintro e g ⟨rfl,dN⟩;have ec:=dN.symm;subst ec;rw [<-HC.o];clear r dN;go_wp2_with fail;refine h3.mono ?_;rintro e g ⟨rfl,bd⟩;have qT:=ik.later HQ1.o bd;have eV:=cQ.o.trans (bd.mono cQ.o.size);have fK:=BW.o.later bd;have b2:g.cell? (aD w.heap.size 0)=some (pQ l):=aM qT.1;have e5:=fK.c5;have e7:=fK.c7;clear h3 bd;go_wp2_with fail;go_region_held3 (λw'=>w'.cell? (aD w.heap.size 0)=some (pQ l)/\w'.cell? (aD l 5)=some (iV (L.ep:Int))/\w'.cell? (aD l 7)=some (iV (L.head:Int))) (go_keep) (fail);have jD:w.heap.size+2<=g.heap.size:=by have:=aq qT.2;omega
 clear c7 e5 e7 b2 b0;obtain⟨I,io⟩:∃I,(g.alloc (.cells #[.int .i64 (L.ep:Int), .int .i64 (L.head:Int), .int .i64 0, .int .i64 (C:Int)] 228)).drew=I:=⟨_,rfl⟩;rw [io];have lq:I.heap.size=g.heap.size+1:=by rw [<-io];show (g.alloc _).heap.size=_;simp
 have jY:bW w I:=by rw [<-io];exact ai (eV.alloc eV.size _)
 have CA:I.heap[g.heap.size]? =some (.cells #[.int .i64 (L.ep:Int), .int .i64 (L.head:Int), .int .i64 0, .int .i64 (C:Int)] 228 (0,0)):=by rw [<-io];exact heap_alloc_new _ _
 have nc:ik I w.heap.size l:=qT.later (by rw [<-io];exact ai (aJ _ _));obtain⟨H,fS,HM3,HQ3⟩:=BH lq jY CA nc;clear io jY CA nc lq qT eV fK;go_wp2_with fail;refine(NZ (some (aD b o)) x k I).mono ?_;rintro e q ⟨rfl,pA⟩;go_wp2_with fail;refine(wpIn_wide (n:=6)).1 ?_;have eJ:bW I q:=by rw [pA];exact gZ _ _ _
 have vt:q.heap.size=g.heap.size+3:=by rw [pA];have:=H.o;simp;omega
 have EC:q.heap[g.heap.size+1]? =some (.cells #[.slice (some ⟨b,o,none⟩) x k] 36 (0,0)):=by
  rw [pA,<-H.o];exact(Below.heap_alloc _ _ _ (by simp)).trans (heap_alloc_new _ _)
 have Bz:q.heap[g.heap.size+1+1]? =some (.cells #[.int .i64 492] 3 (0,0)):=by
  rw [pA,<-H.o];have:=heap_alloc_new (I.alloc (.cells #[.slice (some ⟨b,o,none⟩) x k] 36)) (.cells #[.int .i64 492] 3);rwa [World.size_alloc] at this
 rw [H.o];rw [<-pA];clear pA;have rK:=fS.o.trans (eJ.mono fS.o.size);have US:=hs.1;have Q:di d.length=C:=by rw [US];exact Yi
 obtain⟨m,hDm⟩:=HD.o.aab;have Wt:=HD.o.lt m hDm.fm;have aad:=rK.size;have hI0:ED w q F l p s m g.heap.size q.heap.size L S d [] cR:=by
  refine⟨rfl,?_,?_,HQ3.o.later eJ,aa.ah F rK,bR _⟩
  .exact(hDm.later rK).narrow (λk A hc=>⟨.inl A,hc,by have:=HD.o.lt k A;omega⟩) (λ_ A=>A.2.2)
  .rw [Q];exact(eJ.block _ (aq HM3.o)).trans HM3.o
 refine wpIn_rangeFunc_ownH rfl (by omega) (gf:=228) (lb:= #[.pointer (some ⟨g.heap.size+1,0,none⟩), .pointer (some ⟨g.heap.size+1+1,0,none⟩)]) rfl trivial (enters_of func228 (by kernel_rfl) rfl)
    (GG (6-1) (by omega) (g.heap.size+1) (g.heap.size+1+1) b o x k C k1 k2 hxk HC.o q EC Bz) vC.t (vC.b (by omega) (by omega)) (bi _ _) (λ_=>rfl)
    (λa W=>ED w W F l p s m g.heap.size q.heap.size L S d (a.map Fin.val) cR)
    (λc a W=>c= .ret/\G0 w W F p s m q.heap.size L S d (a.map Fin.val) cR)
  ?hI ?hIx hI0
    (λy a' _=>a'={tmps:= #[Value.pointer (some (aD l 0)), .slice (some (aD b o)) x k,pQ w.heap.size,undef, .pointer (some ⟨w.heap.size+1,0,none⟩),iV 0,iV (C:Int),pQ g.heap.size, .slice (some ⟨b,o+492*y.1,none⟩) (gF x y.1) (gF x y.1),undef,pQ l,iV 0,iV 0, .bool false,undef, .slice (some (aD b o)) x k,iV (x:Int),iV (C:Int), .bool false, .slice (some (aD b o)) x k,iV (x:Int), .bool false, .bool (decide ((8364:Int)<(x:Int))), .slice (some (aD b o)) x k,iV (x:Int), .bool (decide ((8364:Int)<(x:Int))), .bool (decide ((1073741824:Int)<(L.head:Int)+(C:Int))),pQ l,pQ l, .pointer (some (aD l 7)),iV (L.head:Int),iV (C:Int),iV ((L.head:Int)+(C:Int)), .bool (decide ((1073741824:Int)<(L.head:Int)+(C:Int))), .bool (decide ((L.n:Int)-((L.head:Int)-(L.tail:Int))<(C:Int))),iV (C:Int),pQ l,iV ((L.n:Int)-((L.head:Int)-(L.tail:Int))), .bool (decide ((L.n:Int)-((L.head:Int)-(L.tail:Int))<(C:Int))),pQ l,pQ l, .pointer (some (aD l 5)),iV (L.ep:Int),pQ l,pQ l, .pointer (some (aD l 7)),iV (L.head:Int),iV (C:Int), .agg #[iV (L.ep:Int),iV (L.head:Int),iV 0,iV (C:Int)], .slice (some (aD b o)) x k, .func (.func 228) #[] #[.pointer (some ⟨g.heap.size+1,0,none⟩), .pointer (some ⟨g.heap.size+1+1,0,none⟩)], .slice (some ⟨b,o+492*y.1,none⟩) (gF x y.1) (gF x y.1),undef,undef,undef,undef,undef,undef,undef,undef,undef,undef,undef,undef,undef,undef,undef,undef,undef,undef,undef,undef,undef],defers:= []}) ?hAx ?assign ?body ?done ?stop
 case hI=>exact λ_ _ _ _ h hg hr=>h.grown (by omega) aad hg hr
 case hIx=>exact λ_ _ _ _ _ h hg hr=>⟨h.1,h.2.grown (by omega) aad hg hr⟩
 case hAx=>exact λ_ _ _ _ _ _ h _ _=>h
 case assign=>
  intro l' a y W K hI hK;simp only [VY]
  gi_wp2
  exact hK _ _ (KeepsFrom.refl _ _) (vC.refl _ _ _) hI rfl
 case body=>
  rintro l' a y a' W UB ⟨rr,Jl⟩ hI rfl bq;have hlen:(a.map Fin.val).length=a.length:=by simp
  have G1:(a ++ [y]).map Fin.val=a.map Fin.val ++ [y.1]:=by simp
  have hy:=y.2;have UU:=E.o.aw hI.kp hF;have j4:=hs.pg hI.kp (λz hz _=>by cases hz;exact DO);have hpt:=N3 L S s d (a.map Fin.val);have UL:prog.follows .mixedOrders=true:=by kernel_rfl
  have yK:gF x y.1=min 492 (x-492*y.1):=rfl;have hyx:492*y.1<x:=by have:=HC.o;omega
  have Yj:Src W (some ⟨b,o+492*y.1,none⟩) (gF x y.1) (partOf d y.1):=by
   have:=j4.sub (492*y.1) (gF x y.1) (by omega);rwa [show (d.drop (492*y.1)).take (gF x y.1)=partOf d y.1 by unfold partOf;rw [List.take_eq_take_iff,List.length_drop,US];omega] at this
  have hbP:Bytes (partOf d y.1):=oM hd _;have apd:b<w.heap.size:=hs.old _ rfl (by omega);have hFC:∀k,w.heap.size<=k->k<q.heap.size->¬FC F q.heap.size m W.drew k:=λk M r h=>by
   rcases h.1 with h|h
   .have:=iM.o k h;omega
   .omega
  have hdW:bY W.drew (FC F q.heap.size m W.drew) p s (rN L S s d (a.map Fin.val)).2 m (cR+(a.map Fin.val).length):=hI.dk.carry (λ_ _ _ _ h=>h) rfl (bR _);have Sm:=Wu hdW L.f L.n L.ep (L.head+(a.map Fin.val).length) (a.map Fin.val).length C (some ⟨b,o+492*y.1,none⟩) (gF x y.1) (gF x y.1) (partOf d y.1) (Yj.later (ai (bi _ _))) (λz hz _ h=>by
   cases hz;rcases h.1 with h|h
   .exact DO h
   .have:q.heap.size<=b:=h;omega) hbP (by omega) (λh=>by cases h) (by have:=HO.o.n1;omega) HO.o.s (by omega)
  have i7:=N2 (L:=L) (S:=S) (s:=s) (d:=d) y.1 hI.ok;rw [Q] at i7;generalize j2 (rN L S s d (a.map Fin.val)).2 s L.f L.n L.ep (L.head+(a.map Fin.val).length) (a.map Fin.val).length C (partOf d y.1)=Y at Sm i7;rw [<-G1] at i7;have b0:W.drew.cell? (aD w.heap.size 0)=some (pQ l):=aM hI.bx.1;have Yk:=hI.mrk;rw [Q] at Yk;generalize hj:(a.map Fin.val).length=j at Sm Yk;have hjC:j<17:=by omega
  have ut:((L.head+j:Nat):Int)=(L.head:Int)+(j:Int):=by omega
  rw [ut] at Sm Yk;generalize gF x y.1=cL at*;have HJ:=yh hj;clear yK ut hj;have ia:Yh (∀W':World,W'.heap[w.heap.size]? =some (.cells #[.pointer (some ⟨l,0,none⟩)] 89 (0,0))->W'.heap[g.heap.size]? =some (.cells #[.int .i64 (L.ep:Int), .int .i64 ((L.head:Int)+(j:Int)), .int .i64 (j:Int), .int .i64 (C:Int)] 228 (0,0))->cY W' l p L->
      (W'.cell? (aD w.heap.size 0)=some (pQ l)/\W'.cell? (aD g.heap.size 0)=some (iV (L.ep:Int))/\W'.cell? (aD g.heap.size 1)=some (iV ((L.head:Int)+(j:Int)))/\W'.cell? (aD g.heap.size 2)=some (iV (j:Int))/\W'.cell? (aD g.heap.size 3)=some (iV (C:Int))/\
     W'.cell? (aD l 0)=some (pQ p)/\W'.cell? (aD l 1)=some (iV (L.f:Int))/\W'.cell? (aD l 2)=some (iV (L.n:Int)))):=
   λW' g1 g2 g3=>⟨aM g1,aM g2,bG g2,bM g2,fU g2,g3.c0,g3.c1,g3.c2⟩
  obtain⟨Z,MR,aiQ,HMk,VT,U⟩:=Y5 (ia.o W.drew hI.bx.1 Yk (UU.later (ai (bi _ _)))) hI Sm Yk i7 hFC;clear hI Sm Yk i7 hFC Yj j4 UU hdW hpt b0
  gi_wp2_with fail
  refine nO (S:=λW'=>W'.cell? (aD w.heap.size 0)=some (pQ l)/\W'.cell? (aD g.heap.size 0)=some (iV (L.ep:Int))/\W'.cell? (aD g.heap.size 1)=some (iV ((L.head:Int)+(j:Int)))/\W'.cell? (aD g.heap.size 2)=some (iV (j:Int))/\W'.cell? (aD g.heap.size 3)=some (iV (C:Int))/\
     W'.cell? (aD l 0)=some (pQ p)/\W'.cell? (aD l 1)=some (iV (L.f:Int))/\W'.cell? (aD l 2)=some (iV (L.n:Int))) UL (by kernel_rfl) ?_
  refine wpAnyH_take (i:=0) (v:=pQ l) rfl (by kernel_rfl) (by kernel_rfl) (by kernel_rfl) (λ_ _ _ h=>h) (Or.inl ⟨by rfl,?_⟩) Z.out ?_
  .rintro W1 ⟨y1,y2,y3,y4,y5,y6,y7,y8⟩;go_simp
  try simp only [Act.put,jX]
  refine wpAnyH_take (i:=1) (v:=pQ l) rfl (by kernel_rfl) (by kernel_rfl) (by kernel_rfl) (λ_ _ _ h=>h) (Or.inl ⟨by rfl,?_⟩) Z.out ?_
  .rintro W1 ⟨y1,y2,y3,y4,y5,y6,y7,y8⟩;go_simp
  try simp only [Act.put]
  refine wpAnyH_take (i:=2) (v:=pQ l) rfl (by kernel_rfl) (by kernel_rfl) (by kernel_rfl) (λ_ _ _ h=>h) (Or.inl ⟨by rfl,?_⟩) Z.out ?_
  .rintro W1 ⟨y1,y2,y3,y4,y5,y6,y7,y8⟩;go_simp
  try simp only [Act.put]
  refine wpAnyH_take (i:=3) (v:=kJ p L.f L.n) rfl (by kernel_rfl) (by kernel_rfl) (by kernel_rfl) (λ_ _ _ h=>h) (Or.inl ⟨by rfl,?_⟩) Z.out ?_
  .rintro W1 ⟨y1,y2,y3,y4,y5,y6,y7,y8⟩;go_simp
  try simp only [Act.put]
  refine wpAnyH_take (i:=4) (v:=zH (L.ep:Int) ((L.head:Int)+(j:Int)) (j:Int) (C:Int)) rfl (by kernel_rfl) (by kernel_rfl) (by kernel_rfl) (λ_ _ _ h=>h) (Or.inl ⟨by rfl,?_⟩) Z.out ?_
  .rintro W1 ⟨y1,y2,y3,y4,y5,y6,y7,y8⟩;go_simp
  try simp only [Act.put]
  refine wpAnyH_take (i:=5) (v:= .slice (some ⟨b,o+492*y.1,none⟩) cL cL) rfl (by kernel_rfl) (by kernel_rfl) (by kernel_rfl) (λ_ _ _ h=>h) (Or.inl ⟨by rfl,?_⟩) Z.out ?_
  .rintro W1 ⟨y1,y2,y3,y4,y5,y6,y7,y8⟩;go_simp
  try simp only [Act.put]
  refine wpAnyH_take (i:=6) (v:=lw (L.ep:Int) ((L.head:Int)+(j:Int)) (j:Int) (C:Int) (some ⟨b,o+492*y.1,none⟩) cL cL) rfl (by kernel_rfl) (by kernel_rfl) (by kernel_rfl) (λ_ _ _ h=>h) (Or.inl ⟨by rfl,?_⟩) Z.out ?_
  .rintro W1 ⟨y1,y2,y3,y4,y5,y6,y7,y8⟩;go_simp
  try simp only [Act.put]
  refine wpAnyH_ready (rs:= [7]) (by kernel_rfl) (by simp) (AllReadyH.cons rfl (λK hK=>?_) AllReadyH.nil);go_simp;refine aiQ.o.mono ?_;rintro e u ⟨rfl,cI,aY⟩;have em:W.heap.size<=u.heap.size:=aY.size;have hd3:=cI.fc (w0:=w) (w:=W.drew) MR.o.sz rfl;have pr:=(MR.o.kp.trans (aa.ah (λ_=>False) (ai (bi W.heap.size W))) (λ_ h=>h.elim)).trans aY (λk A=>by
   rcases A.1 with h|h
   .exact .inl h
   .exact .inr (by omega))
  have rT:∀k R,w.heap.size<=k->k<q.heap.size->W.heap[k]? =some R->u.heap[k]? =some R:=λk R M r h3=>(aY.block k (aq h3) (U.o k M r)).trans h3;have ir:ik u w.heap.size l:=⟨rT _ _ (by omega) (by omega) MR.o.bx.1,rT _ _ (by omega) (by omega) MR.o.bx.2⟩;have aae:=rT g.heap.size _ (by omega) (by omega) HMk.o;have qC:KeepsFrom q.heap.size W u:=⟨em,λk R M r h3=>(aY.block k (aq r) (λh=>by
   rcases h.2.1 with ⟨cur,t,fz,hc⟩|h
   .have UJ:W.heap[k]? =some (.cells cur t fz):=hc;rw [r] at UJ;cases UJ;cases h3
   .omega)).trans r⟩
  have By:vC (g.heap.size+1) (g.heap.size+1+1) W u:=⟨aY.block _ (by have:=MR.o.sz;show _<W.heap.size;omega) (U.o _ (by omega) (by omega)),aY.block _ (by have:=MR.o.sz;show _<W.heap.size;omega) (U.o _ (by omega) (by omega))⟩;have fK:=E.o.aw pr hF;obtain⟨S2,VJ,HKw,UE,adS,X,HKc⟩:=acw (ia.o u ir.1 aae fK) hd3 pr ir aae qC By;clear cI aY hd3 pr rT ir aae qC By fK;refine hK.out _ _ S2.out (λ_=>?_);clear hK K;try simp only [Act.put,jX,ld,lT]
  refine wpAnyH_take (i:=8) (v:=iV Y.1) rfl (by kernel_rfl) (by kernel_rfl) (by kernel_rfl) (λ_ _ _ h=>h) (Or.inl ⟨by rfl,?_⟩) S2.out ?_
  .rintro W1 ⟨y1,y2,y3,y4,y5,y6,y7,y8⟩;go_simp
  try simp only [Act.put,jX]
  refine wpAnyH_done (by kernel_rfl) ?_ _;have er1:u.cell? ⟨w.heap.size+1,0,none⟩=some (iV 0):=aM UE.o.2;have ef1:=ae UE.o.2 0;by_cases kY:Y.1=0
  .have dY:(Y.1 == 0)=true:=(by rw [beq_iff_eq];exact kY);obtain⟨z1,z2,z3,z4,z5,_⟩:=S2.out;have ZK:=CallsIn.inRound l' (callsIn_wide (n:=3).2 (Rr L.ep (L.head+j) j C u (by omega) (by omega)));rw [show ((L.head+j:Nat):Int)=(L.head:Int)+(j:Int) by omega] at ZK;have UQ:=yh kY;clear kY
   gi_wp2_with fail
   refine⟨trivial,?_⟩;refine ZK.mono ?_;rintro e W5 ⟨rfl,fd⟩;have yt:=(fd.block _ (aq adS.o)).trans adS.o;have m0:W5.cell? (aD g.heap.size 0)=some (iV (L.ep:Int)):=aM yt;have m1:W5.cell? (aD g.heap.size 1)=some (iV ((L.head:Int)+(j:Int))):=bG yt;have m2:W5.cell? (aD g.heap.size 2)=some (iV (j:Int)):=bM yt;have m3:W5.cell? (aD g.heap.size 3)=some (iV (C:Int)):=fU yt;have mf:=λi=>ae yt i;obtain⟨HM5,jr⟩:=bV yt fd;clear yt fd ZK z1 z2 z3 z4 z5 er1 ef1
   gi_wp2
   obtain⟨WX,O⟩:∃WX,((((W5.setCell ⟨g.heap.size,0,none⟩ (.int .i64 (L.ep:Int))).setCell ⟨g.heap.size,1,none⟩ (.int .i64 ((L.head:Int)+(j:Int)+1))).setCell ⟨g.heap.size,2,none⟩ (.int .i64 ((j:Int)+1))).setCell ⟨g.heap.size,3,none⟩ (.int .i64 (C:Int)))=WX:=⟨_,rfl⟩;rw [O];have ez:aa (λk=>k=g.heap.size) W5 WX:=by
    rw [<-O];exact(((aL (F:=λk=>k=g.heap.size) _ rfl 0 _).trans (aL (F:=λk=>k=g.heap.size) _ rfl 1 _) (λ_ h=> .inl h)).trans (aL (F:=λk=>k=g.heap.size) _ rfl 2 _) (λ_ h=> .inl h)).trans (aL (F:=λk=>k=g.heap.size) _ rfl 3 _) (λ_ h=> .inl h)
   have hkx:KeepsFrom q.heap.size W5 WX:=by
    rw [<-O];exact((((KeepsOthers.setCell _ _ _).from _).trans ((KeepsOthers.setCell _ _ _).from _)).trans ((KeepsOthers.setCell _ _ _).from _)).trans ((KeepsOthers.setCell _ _ _).from _)
   have hmX:WX.heap[g.heap.size]? =some (.cells #[.int .i64 (L.ep:Int), .int .i64 ((L.head:Int)+(j:Int)+1), .int .i64 ((j:Int)+1), .int .i64 (C:Int)] 228 (0,0)):=by
    rw [<-O];exact(heap_setCell_same _ _ 3 _ _ _ (heap_setCell_same _ _ 2 _ _ _ (heap_setCell_same _ _ 1 _ _ _ (heap_setCell_same _ _ 0 _ _ _ HM5.o)))).trans (by simp)
   have fd:=jr.o;have ZN:=MR.o.sz;have hc5:=eB fd;have jJ:=VJ.o.carry hc5 (fd.block _ (Fq VJ.o)) fd.size;have lF:∀k R,¬k=g.heap.size->u.heap[k]? =some R->WX.heap[k]? =some R:=λk R M r=>(ez.block k (by have:=aq r;have:=fd.size;omega) M).trans ((fd.block k (aq r)).trans r);have pT:=fd.size;have hzX:=ez.size;have hIX:ED w WX F l p s m g.heap.size q.heap.size L S d ((a ++ [y]).map Fin.val) cR:=by
    have J:=VT.o;have Jg:cR+j+1<=cR+((a ++ [y]).map Fin.val).length:=(by rw [G1,ee,List.length_singleton,HJ.o];omega);refine⟨by rw [J];exact UQ.o,by rw [J];exact(jJ.Fr ez (Fo iM.o (by omega) (by omega))).le Jg,?_,⟨lF _ _ (by omega) UE.o.1,lF _ _ (by omega) UE.o.2⟩,(HKw.o.trans (aa.ah (λ_=>False) fd) (λ_ h=>h.elim)).trans ez (λ_ h=> .inr (by omega)),by omega⟩;rw [hmX,G1,ee,List.length_singleton,HJ.o,Q];rw [show ((L.head+(j+1):Nat):Int)=(L.head:Int)+(j:Int)+1 by omega,show ((j+1:Nat):Int)=(j:Int)+1 by omega]
   exact⟨(X.o.trans ⟨pT,λk R _ r _=>(fd.block k (aq r)).trans r⟩).trans hkx,HKc.o.t ⟨(ez.block _ (by omega) (by omega)).trans (fd.block _ (by omega)),(ez.block _ (by omega) (by omega)).trans (fd.block _ (by omega))⟩,hIX⟩
  .have dY:(Y.1 == 0)=false:=(by rw [fy];exact kY);have UQ:=yh kY;clear kY
   gi_wp2
   have ez:aa (λk=>k=w.heap.size+1) u (u.setCell ⟨w.heap.size+1,0,none⟩ (.int .i64 Y.1)):=aL (F:=λk=>k=w.heap.size+1) u rfl 0 _;have P:G0 w (u.setCell ⟨w.heap.size+1,0,none⟩ (.int .i64 Y.1)) F p s m q.heap.size L S d ((a ++ [y]).map Fin.val) cR:=by
    have J:=VT.o;have Jg:cR+j+1<=cR+((a ++ [y]).map Fin.val).length:=(by rw [G1,ee,List.length_singleton,HJ.o];omega);refine⟨by rw [J];exact UQ.o,by rw [J];exact(VJ.o.Fr ez (Fo iM.o (by omega) (by omega))).le Jg,by rw [J];exact(heap_setCell_same _ _ 0 _ _ _ UE.o.2).trans (by simp),HKw.o.trans ez (λ_ h=> .inr (by omega)),by have:=MR.o.sz;have:=X.o.size;have:=ez.size;omega⟩
   exact⟨X.o.trans ((KeepsOthers.setCell _ _ _).from _),rfl,P⟩
 case done=>
  intro D xs W hD oL hI Kp;have G1:xs.map Fin.val=List.range C:=oL;rw [G1] at hI;have UU:=E.o.aw hI.kp hF;have c0:W.cell? (aD w.heap.size 0)=some (pQ l):=aM hI.bx.1;have c1:W.cell? ⟨w.heap.size+1,0,none⟩=some (iV 0):=aM hI.bx.2;obtain⟨g1,c7,g7,MR,HlW⟩:=eQ (ae hI.bx.2 0) UU.c7 (UU.fz 7) (yh hI) (yh UU);clear hI UU G1 oL;have KN:¬FC F q.heap.size m W l:=λh=>by
   rcases h.1 with h|h
   .exact hF h
   .omega
  have fh:aa (λk=>k=l) W (W.setCell ⟨l,7,none⟩ (.int .i64 ((L.head:Int)+(C:Int)))):=aL (F:=λk=>k=l) W rfl 7 _;have aY:aa (λk=>k=w.heap.size+1) (W.setCell ⟨l,7,none⟩ (.int .i64 ((L.head:Int)+(C:Int)))) ((W.setCell ⟨l,7,none⟩ (.int .i64 ((L.head:Int)+(C:Int)))).setCell ⟨w.heap.size+1,0,none⟩ (.int .i64 0)):=aL (F:=λk=>k=w.heap.size+1) _ rfl 0 _;have iP:=(MR.o.dk.Fr fh KN).Fr aY (Fo iM.o (by omega) (by omega));have cu:cY ((W.setCell ⟨l,7,none⟩ (.int .i64 ((L.head:Int)+(C:Int)))).setCell ⟨w.heap.size+1,0,none⟩ (.int .i64 0)) l p {L with head:=L.head+C}:=cY.aw (G:=λk=>k=w.heap.size+1) ((heap_setCell_same _ _ 7 _ _ _ HlW.o).trans (by simp)) aY (by omega);have he1:((W.setCell ⟨l,7,none⟩ (.int .i64 ((L.head:Int)+(C:Int)))).setCell ⟨w.heap.size+1,0,none⟩ (.int .i64 0)).heap[w.heap.size+1]? =some (.cells #[.int .i64 0] 49 (0,0)):=(heap_setCell_same _ _ 0 _ _ _ ((fh.block _ (aq MR.o.bx.2) (by omega)).trans MR.o.bx.2)).trans (by simp);have aag:aa (λk=>F k\/k=l) w ((W.setCell ⟨l,7,none⟩ (.int .i64 ((L.head:Int)+(C:Int)))).setCell ⟨w.heap.size+1,0,none⟩ (.int .i64 0)):=((MR.o.kp.mono (λ_ h=> .inl h)).trans fh (λ_ h=> .inl (.inr h))).trans aY (λ_ h=> .inr (by omega));have hDl:=aq Kp;have N:=(aY.block _ (by have:=fh.size;omega) (by omega)).trans ((fh.block _ hDl (by omega)).trans Kp);have dE:=k9 fh.size aY.size;obtain⟨WZ,hWZ⟩:∃WZ,((W.setCell ⟨l,7,none⟩ (.int .i64 ((L.head:Int)+(C:Int)))).setCell ⟨w.heap.size+1,0,none⟩ (.int .i64 0))=WZ:=⟨_,rfl⟩;rw [hWZ] at iP cu he1 aag N dE;have Jg:cR+(List.range C).length<=cR+17:=by rw [List.length_range];omega
  obtain⟨T,PX,HWZ,R6⟩:=BH (MQ iM.o (iP.le Jg) cu aag he1 N (by omega) eM jD (by omega) (by omega)) MR.o.ok hWZ N;clear iP cu he1 aag N fh aY dE hWZ;go_wp2;rw [HWZ.o];refine⟨by simp, .inl ⟨_,_,rfl,run_takeDeferred R6.o,?_⟩⟩;refine⟨_,gd rfl _ _ (w.heap.size+1) 0 rfl T.o.1,?_⟩;have J:=PX.o;rw [zL] at J T;unfold LG.append;rw [US,HR.o,Yi,aB (by decide),aB (by rw [J];decide)];exact⟨rfl,T.o.2⟩
 case stop=>
  rintro D c a W hD ⟨j,hj,l8⟩ ⟨rfl,P⟩ Kp;have G1:a.map Fin.val=List.range (j+1):=l8;rw [G1] at P;have UU:=E.o.aw P.kp hF;have UO:=P.no;have T:=yh (MQ iM.o (P.dk.le (by rw [List.length_range];omega:cR+(List.range (j+1)).length<=cR+17)) UU (P.kp.mono (λ_ h=> .inl h)) P.er Kp (by omega) eM jD (by omega) (by omega));rw [zL] at T UO;have PJ:cX L S s d C=cX L S s d (j+1):=gD UO C (by omega);obtain⟨HTo,HNn⟩:=bV PJ UO;clear P UU UO PJ
  gi_wp2
  refine⟨by simp, .inl ⟨_,_,rfl,run_takeDeferred Kp,?_⟩⟩;refine⟨_,gd rfl _ _ (w.heap.size+1) _ rfl T.o.1,?_⟩;unfold LG.append;rw [US,HR.o,Yi,aB (by decide),HTo.o,aG HNn.o];exact⟨rfl,T.o.2⟩
end
def An {w:World} {F:Nat->Prop} {p s l m:Nat} {S:DS} {L:LG} (h:ax w F p s S m) (g:cY w l p L) (n:L.Ok s) (q:¬F l) (a:Option Addr) (x k:Nat) (d:List Int) (i:Src w a x d) (UN:∀y,a=some y->0<x->¬F y.block) (hd:Bytes d) (j:x<=k) (r:x<=140737488355328) (aU:S.puts.length+100<=4000000000000):
  Calls prog 174 #[pQ l, .slice a x k] w λe w'=>e= .returned (iV (L.append S s d).1)/\ax w' (more F w w') p s (L.append S s d).2.1 (m+17)/\cY w' l p (L.append S s d).2.2/\aa (λk=>F k\/k=l) w w':=by
 by_cases c:L.fY S x=0
 .have jL:=(jM c).2.1;obtain⟨b,o,rfl⟩:=cZ i jL;exact Ov h g n q b o x k d i (UN _ rfl jL) hd j c aU
 .refine(N1 h.old g n a x k r c).mono ?_;rintro e w' ⟨rfl,f⟩;unfold LG.append;rw [i.1,aG c];exact⟨rfl,((h.later f).more).le (by omega),g.later f,aa.ah _ f⟩
end B
end
section
def uu:∀{ns ms:CM} {x:Nat×List Int},x∈CM.bU ms ns->x∈ms\/x∈ns
 | [],_,_,h=> .inl h
 |q :: qs,ms,x,h=>by
  rcases uu (ns:=qs) (ms:=CM.put ms q.1 q.2) h with h|h
  .rcases CM.rg h with e|h
   .exact .inr (e▸List.mem_cons_self)
   .exact .inl h
  .exact .inr (List.mem_cons_of_mem _ h)
def vP {s:Nat} (h:L.Ok s) (S:DS) (d:List Int):(L.append S s d).2.2.Ok s/\(L.append S s d).2.2.begun=L.begun:=by
 unfold LG.append;split
 .exact⟨h,rfl⟩
 .rename_i a;obtain⟨_,_,_,b,c⟩:=jM (Decidable.byContradiction a);split
  .exact⟨h,rfl⟩
  .have:=h.th;exact⟨⟨h.s,h.n1,h.n2,h.ep,h.top,by show L.tail<=L.head+_;omega,by show L.head+_<=L.tail+L.n;omega,by show L.head+_<=1073742080;omega,λ_=>by show L.head+_<=1073741824;omega⟩,rfl⟩
def qD (h:∀q∈ms,Bytes q.2):Bytes (cw ms):=by
 unfold cw;refine(iT _ _).append (Bytes.append ?_ ?_)
 .intro v b;obtain⟨q,_,a⟩:=List.mem_flatMap.1 b;exact iT _ _ v a
 .intro v b;obtain⟨q,c,a⟩:=List.mem_flatMap.1 b;exact h q c v a
def zW.form {B:Nat} {w:World} {l:List Int} {e:Ending} (h:zW B w l e) (n:0<l.length):∃g c,e= .returned (.slice (some (aD g 0)) l.length c)/\B<=g/\Src w (some (aD g 0)) l.length l/\l.length<=c:=by
 obtain⟨v,rfl,h⟩:=h;have h0:=h;obtain⟨j8,⟨e,j⟩|⟨g,a,cur,rfl,d,m,k⟩⟩:=h
 .omega
 .obtain⟨i,c',f,RP,b,_⟩:=ay.fg h0 (by intro e;cases e);cases f;refine⟨g,a,rfl,d,?_,?_⟩
  .exact b.src
  .have:=b.le;simpa [bs] using this
def mi (S:DS) (s:Nat):(S.fl s).2.puts.length<=S.puts.length:=by
 unfold DS.fl;split
 .exact bR _
 .exact dL _
def Ao (S:DS) (s f:Nat) (x:Int):(dg S s f x).2.puts.length<=S.puts.length+1:=by
 unfold dg;split
 .exact Nat.le_succ _
 .split
  .exact Nat.le_succ _
  .split
   .exact jk _ _ _ _ _
   .exact k9 (mi _ _) (jk _ _ _ _ _)
def Ap (L:LG) (S:DS) (s:Nat):(L.trim S s).2.1.puts.length<=S.puts.length+2:=by
 have a:=nN L S s;unfold LG.trim;split
 .show (L.sync S s).2.puts.length<=_;omega
 .split
  .show (L.sync S s).2.puts.length<=_;omega
  .have b:=Ao (L.sync S s).2 s L.f ((L.ep:Int)*4294967296+(L.head:Int));split
   .show (dg _ _ _ _).2.puts.length<=_;omega
   .show (dg _ _ _ _).2.puts.length<=_;omega
def Aq (G:SG) (S:DS) (s:Nat):(G.check S s).2.1.puts.length<=S.puts.length+G.ov.length+3:=by
 have a:=nN G.L S s;have b:=eG (G.L.sync S s).2 s G.y.home G.ov;have c:=Ap G.L (aE (G.L.sync S s).2 s G.y.home G.ov).2 s;unfold SG.check;split
 .show (G.L.sync S s).2.puts.length<=_;omega
 .split
  .show (aE _ _ _ _).2.puts.length<=_;omega
  .split
   .show (LG.trim _ _ _).2.1.puts.length<=_;omega
   .show (LG.trim _ _ _).2.1.puts.length<=_;omega
def iw.reF {w:World} {F:Nat->Prop} {p s q l m:Nat} {S:DS} {G:SG} (h:iw w F p s c q l m S G) (a:∀k,F k->F2 k) (bq:∀k,F2 k->k<w.heap.size) (nq:¬F2 q) (b:¬F2 l) (e:¬F2 m):iw w F2 p s c q l m S G:=
   ⟨h.d.mono a bq,h.st,h.lp,h.ch,nq,b,e,h.ql,h.qm,h.lm,h.lk,h.bg,h.hs,h.kb⟩
def mN (G:SG) (S:DS) (s:Nat):(G.check S s).2.2.y=G.y:=by
 unfold SG.check;split
 .rfl
 .split
  .rfl
  .split <;> rfl
section
variable {w w':World} {F:Nat->Prop} {p s cR q l m n:Nat} {S:DS} {G:SG} {cs:CM}
def KU (h:iw w F p s cR q l m S G) (N:Ch w n cs) (KN:¬F n) (_hnq:n≠q) (mu:n≠l) (xH:n≠m) (po:∀x∈cs,x.1<G.y.blocks) (UV:cs.length<=16) (dO:S.fN) (aU:S.puts.length+5000<=4000000000000):
  Calls prog 139 #[pQ q, .map (some n)] w λe w'=>e= .returned (iV (G.bK S s cs).1)/\iw w' (more F w w') p s (cR+19) q l m (G.bK S s cs).2.1 (G.bK S s cs).2.2/\Ch w' n cs/\aa (λk=>F k\/k=l\/k=m) w w':=by
 have O:=Ol (λx j=>(N.len x j).2.1);have B2:=qD (λx j=>(N.len x j).2.2);have h1:=KI N;have U:=λ(w1:World) (ar:bW w w1)=>Gu (h.later ar).d.old (h.later ar).lp h.lk;obtain⟨c1,H,HC,iM,hqw,hlw,Wt,hnw,Bt,KL,ym⟩:=Mf h.st.c1 h N h.d.lt h.st.lt h.lp.lt h.ch.lt N.lt h.ql h.qm h.lm;obtain⟨R,f⟩:=bP (G.bK S s cs);rw [<-f];unfold SG.bK at f;obtain⟨D,hD⟩:=bP (cw cs);rw [<-hD] at f O B2 h1;clear hD;have Q:=(λ(r:World) (U:iw r F p s cR q l m S G)=>C9 U dO (by omega));have vB:0<D.length:=by omega
 have nW:=λ(w1:World) (a:Option Addr) (c:Nat)=>Es a D.length c w1 (by omega);have sZ:(D.length+491) / 492=di D.length:=rfl;rw [sZ] at nW;have apq:D.length<=8258:=by omega
 clear sZ O;go_in;go_wp2_with fail;by_cases X:(G.L.room S).2=0
 .rw [aB (λh=>h X)] at f;rw [X] at U;clear X;have UW:G.roomy S D.length=decide ((di D.length:Int)<=(G.L.room S).1):=rfl;refine h1.mono ?_;rintro e w1 ⟨⟨B1,bN,UW⟩,ar⟩;obtain⟨g,c,rfl,hg,lf,XL⟩:=UW.form vB;obtain⟨c1,hr,cQ,Jq⟩:=cP ((H.later ar).st.c1) (U w1 ar) ar lf;have hgw:w.heap.size<=g:=by omega
  have pB:g<w1.heap.size:=lf.old _ rfl vB;clear h1 U UW lf ar;go_wp2_with fail;refine bJ hr λr bd=>?_;have em:=bd.size;have dZ:=cQ.trans (bd.mono cQ.size);have adV:=(Jq.later bd);clear hr bd Jq;go_wp2_with fail;refine(nW r _ _).mono ?_;by_cases P:G.roomy S D.length=true
  .have k2':¬(G.L.room S).1<(di D.length:Int):=(by rw [UW] at P;have:=of_decide_eq_true P;omega);have wZ:G.made S s D.length=(0,S,G):=(by unfold SG.made;rw [aG P]);rw [wZ] at f;rw [aB (λh=>h rfl)] at f;clear h N P UW wZ Q;generalize (G.L.room S).1=E1 at*;rintro e wz ⟨rfl,dN⟩;have T:=dN.symm;subst T;clear dN nW;have ia:=(H.later dZ);have Z9:=(HC.later dZ);have aiV:¬F g:=λI=>by have:=iM _ I;omega
   have J:∀k,F k->F k\/(w.heap.size<=k/\k<r.heap.size):=λk b=> .inl b;have ii:=(aa.ah (λk=>F k\/k=l\/k=m) dZ);have BA:=B.An ia.d ia.lp ia.lk ia.nl (some (aD g 0)) D.length c D adV (λy hy _ I=>by
    cases hy;exact aiV I) B2 XL (by omega) (by omega)
   have Sn:=vP ia.lk S D;have cA:=ia.st.c1;obtain⟨A,hA⟩:=bP (G.L.append S s D);rw [<-hA] at BA Sn f;clear hA;by_cases t:A.1=0
   .rw [aB (λh=>h t)] at f;have dA:(A.1 != 0)=false:=(by rw [t];rfl);have z:=f;clear f t;go_wp2_with fail;refine pz BA λw3 i iq aZ=>?_;obtain⟨lq,fM,CA,Ni⟩:=cP aZ.size (ia.st.aw aZ (λe=>e.elim ia.nq Bt)) (ia.ch.aw aZ (λe=>e.elim ia.nm (λe=>ym e.symm))) (Z9.aw aZ (λe=>e.elim KN mu));have C:=C8 CA Ni (λe=>xH e.symm);have c7:=fM.c7;have u:=(aH i (aH iq (aH aZ (aH fM Ni))));clear BA i iq aZ fM CA Ni;go_wp2_with fail;refine fQ C λw4 Zn dW=>?_;have vt:=dW.size;have v:(iw w4 (more F w w4) p s (cR+19) q l m A.2.1 {G with L:=A.2.2,ov:=CM.bU G.ov cs}/\Ch w4 n cs/\aa (λk=>F k\/k=l\/k=m) w w4):=by
     refine⟨⟨((u.1.le (by omega:cR+17<=cR+19)).aw dW (λk b e=>?_)).mono (λk b=>?_) (cK (F:=F) (w:=w) iM (by omega)),u.2.2.2.1.aw dW KL,u.2.1.aw dW ym,Zn,λe=>e.elim H.nq (λe=>by omega),λe=>e.elim H.nl (λe=>by omega),λe=>e.elim H.nm (λe=>by omega),Bt,KL,ym,Sn.1,Sn.2.trans ia.bg,ia.hs,λx j=>?_⟩,u.2.2.2.2.aw dW xH,(ii.trans u.2.2.1 (λk b=>?_)).trans dW (λ_ e=> .inl (.inr (.inr e)))⟩
     .subst e;exact b.elim ia.nm (λh=>by omega)
     .rcases b with b|b
      .exact(J k b).elim .inl (λh=> .inr ⟨h.1,by omega⟩)
      .exact .inr ⟨by omega,by omega⟩
     .rcases uu j with j|j
      .exact ia.kb x j
      .exact po x j
     .rcases b with b|b
      .exact(J k b).elim (λh=> .inl (.inl h)) (λh=> .inr h.1)
      .exact .inl (.inr (.inl b))
    clear C Zn dW;go_wp2;go_ret;rw [z];exact⟨rfl,v⟩
   .rw [aG t] at f;have dA:(A.1 != 0)=true:=(by rw [gg];exact t);have z:=f;clear f t;go_wp2_with fail;refine pz BA λw3 i iq aZ=>?_;have lq:=aZ.size;have v:(iw w3 (more F w w3) p s (cR+19) q l m A.2.1 {G with L:=A.2.2}/\Ch w3 n cs/\aa (λk=>F k\/k=l\/k=m) w w3):=by
     refine⟨⟨(i.le (by omega:cR+17<=cR+19)).mono (λk b=>?_) (cK (F:=F) (w:=w) iM (by omega)),ia.st.aw aZ (λe=>e.elim ia.nq Bt),iq,ia.ch.aw aZ (λe=>e.elim ia.nm (λe=>ym e.symm)),λe=>e.elim H.nq (λe=>by omega),λe=>e.elim H.nl (λe=>by omega),λe=>e.elim H.nm (λe=>by omega),Bt,KL,ym,Sn.1,Sn.2.trans ia.bg,ia.hs,ia.kb⟩,Z9.aw aZ (λe=>e.elim KN mu),ii.trans aZ (λk b=>?_)⟩
     .rcases b with b|b
      .exact(J k b).elim .inl (λh=> .inr ⟨h.1,by omega⟩)
      .exact .inr ⟨by omega,b.2⟩
     .rcases b with b|b
      .exact(J k b).elim (λh=> .inl (.inl h)) (λh=> .inr h.1)
      .exact .inl (.inr (.inl b))
    clear BA i iq aZ;go_wp2;go_ret;rw [z];exact⟨rfl,v⟩
  .have k2':(G.L.room S).1<(di D.length:Int):=(by rw [UW] at P;exact Decidable.byContradiction (λh=>P (decide_eq_true (by omega))));have wZ:G.made S s D.length=G.check S s:=(by unfold SG.made;rw [aB P]);rw [wZ] at f;have PQ:=Aq G S s;have hcy:=mN G S s;have hom:=h.ch.small;obtain⟨K,hK⟩:=bP (G.check S s);rw [<-hK] at f PQ hcy Q;clear h N P UW wZ hK;generalize (G.L.room S).1=E1 at*;rintro e r ⟨rfl,dN⟩;have T:=dN.symm;subst T;clear dN nW;have M:=Q r (H.later dZ);by_cases Y:K.1=0
   .rw [aB (λh=>h Y)] at f;have dK:(K.1 != 0)=false:=(by rw [Y];rfl);clear Y;go_wp2_with fail;refine fQ M λw5 So dX=>?_;have pT:=dX.size;have ia:=So;have aiW:¬more F r w5 g:=λI=>I.elim (λI=>by have:=iM _ I;omega) (λI=>by omega);have aiX:=(adV.pg dX (λy hy _ e=>by
     cases hy;rcases e with e|e|e
     .have:g<w.heap.size:=iM _ e;omega
     .have:g=l:=e;omega
     .have:g=m:=e;omega))
    have Z:=((HC.later dZ).aw dX (λe=>by
     rcases e with e|e|e
     .exact KN e
     .exact mu e
     .exact xH e))
    have adX:¬more F r w5 n:=λe=>e.elim KN (λe=>by omega);have Sq:∀k,more F r w5 k->F k\/(w.heap.size<=k/\k<w5.heap.size):=λk b=>b.elim .inl (λh=> .inr ⟨by omega,h.2⟩);have lW:=((aa.ah (λk=>F k\/k=l\/k=m) dZ).trans dX (λ_ h=> .inl h));have aiY:∀x∈cs,x.1<K.2.2.y.blocks:=(by rw [hcy];exact po);clear M So dX;have BA:=B.An ia.d ia.lp ia.lk ia.nl (some (aD g 0)) D.length c D aiX (λy hy _ I=>by
     cases hy;exact aiW I) B2 XL (by omega) (by omega)
    have Sn:=vP ia.lk K.2.1 D;have cA:=ia.st.c1;obtain⟨A,hA⟩:=bP (K.2.2.L.append K.2.1 s D);rw [<-hA] at BA Sn f;clear hA;by_cases t:A.1=0
    .rw [aB (λh=>h t)] at f;have dA:(A.1 != 0)=false:=(by rw [t];rfl);have z:=f;clear f t;go_wp2_with fail;refine pz BA λw6 i iq aZ=>?_;obtain⟨lq,fM,CA,Ni⟩:=cP aZ.size (ia.st.aw aZ (λe=>e.elim ia.nq Bt)) (ia.ch.aw aZ (λe=>e.elim ia.nm (λe=>ym e.symm))) (Z.aw aZ (λe=>e.elim adX mu));have C:=C8 CA Ni (λe=>xH e.symm);have c7:=fM.c7;have u:=(aH i (aH iq (aH aZ (aH fM Ni))));clear BA i iq aZ fM CA Ni;go_wp2_with fail;refine fQ C λw7 Zn dW=>?_;have vt:=dW.size;have v:(iw w7 (more F w w7) p s (cR+19) q l m A.2.1 {K.2.2 with L:=A.2.2,ov:=CM.bU K.2.2.ov cs}/\Ch w7 n cs/\aa (λk=>F k\/k=l\/k=m) w w7):=by
      refine⟨⟨((u.1.le (by omega:(cR+2)+17<=cR+19)).aw dW (λk b e=>?_)).mono (λk b=>?_) (cK (F:=F) (w:=w) iM (by omega)),u.2.2.2.1.aw dW KL,u.2.1.aw dW ym,Zn,λe=>e.elim H.nq (λe=>by omega),λe=>e.elim H.nl (λe=>by omega),λe=>e.elim H.nm (λe=>by omega),Bt,KL,ym,Sn.1,Sn.2.trans ia.bg,ia.hs,λx j=>?_⟩,u.2.2.2.2.aw dW xH,(lW.trans u.2.2.1 (λk b=>?_)).trans dW (λ_ e=> .inl (.inr (.inr e)))⟩
      .subst e;exact b.elim ia.nm (λh=>by omega)
      .rcases b with b|b
       .exact(Sq k b).elim .inl (λh=> .inr ⟨h.1,by omega⟩)
       .exact .inr ⟨by omega,by omega⟩
      .rcases uu j with j|j
       .exact ia.kb x j
       .exact aiY x j
      .rcases b with b|b
       .exact(Sq k b).elim (λh=> .inl (.inl h)) (λh=> .inr h.1)
       .exact .inl (.inr (.inl b))
     clear C Zn dW;go_wp2;go_ret;rw [z];exact⟨rfl,v⟩
    .rw [aG t] at f;have dA:(A.1 != 0)=true:=(by rw [gg];exact t);have z:=f;clear f t;go_wp2_with fail;refine pz BA λw6 i iq aZ=>?_;have lq:=aZ.size;have v:(iw w6 (more F w w6) p s (cR+19) q l m A.2.1 {K.2.2 with L:=A.2.2}/\Ch w6 n cs/\aa (λk=>F k\/k=l\/k=m) w w6):=by
      refine⟨⟨(i.le (by omega:(cR+2)+17<=cR+19)).mono (λk b=>?_) (cK (F:=F) (w:=w) iM (by omega)),ia.st.aw aZ (λe=>e.elim ia.nq Bt),iq,ia.ch.aw aZ (λe=>e.elim ia.nm (λe=>ym e.symm)),λe=>e.elim H.nq (λe=>by omega),λe=>e.elim H.nl (λe=>by omega),λe=>e.elim H.nm (λe=>by omega),Bt,KL,ym,Sn.1,Sn.2.trans ia.bg,ia.hs,ia.kb⟩,Z.aw aZ (λe=>e.elim adX mu),lW.trans aZ (λk b=>?_)⟩
      .rcases b with b|b
       .exact(Sq k b).elim .inl (λh=> .inr ⟨h.1,by omega⟩)
       .exact .inr ⟨by omega,b.2⟩
      .rcases b with b|b
       .exact(Sq k b).elim (λh=> .inl (.inl h)) (λh=> .inr h.1)
       .exact .inl (.inr (.inl b))
     clear BA i iq aZ;go_wp2;go_ret;rw [z];exact⟨rfl,v⟩
   .rw [aG Y] at f;have dK:(K.1 != 0)=true:=(by rw [gg];exact Y);have z:=f;clear Y f;go_wp2_with fail;refine fQ M λw5 So dX=>?_;have pT:=dX.size;have v:(iw w5 (more F w w5) p s (cR+19) q l m K.2.1 K.2.2/\Ch w5 n cs/\aa (λk=>F k\/k=l\/k=m) w w5):=by
     have o:=So.reF (F2:=more F w w5) (λk b=>b.elim .inl (λh=> .inr ⟨by omega,h.2⟩)) (cK (F:=F) (w:=w) iM (by omega)) (λe=>e.elim H.nq (λe=>by omega)) (λe=>e.elim H.nl (λe=>by omega)) (λe=>e.elim H.nm (λe=>by omega));refine⟨⟨o.d.le (by omega),o.st,o.lp,o.ch,o.nq,o.nl,o.nm,o.ql,o.qm,o.lm,o.lk,o.bg,o.hs,o.kb⟩,(HC.later dZ).aw dX (λe=>?_),(aa.ah (λk=>F k\/k=l\/k=m) dZ).trans dX (λ_ h=> .inl h)⟩;rcases e with e|e|e
     .exact KN e
     .exact mu e
     .exact xH e
    clear M So dX;go_wp2;go_ret;rw [z];exact⟨rfl,v⟩
 .rw [aG X] at f;have d1:((G.L.room S).2 != 0)=true:=by rw [gg];exact X
  have z:=f;clear X f h N nW B2;generalize (G.L.room S).2=E at*;generalize (G.L.room S).1=E1 at*;refine h1.mono ?_;rintro e w1 ⟨⟨B1,bN,UW⟩,ar⟩;obtain⟨g,c,rfl,hg,lf,XL⟩:=UW.form vB;have c1:=(H.later ar).st.c1;have hr:=U w1 ar;have cQ:=ar;clear h1 U UW lf ar;go_wp2_with fail;refine bJ hr λr bd=>?_;have W:=cQ.trans (bd.mono cQ.size);have v:(iw r (more F w r) p s (cR+19) q l m S G/\Ch r n cs/\aa (λk=>F k\/k=l\/k=m) w r):=⟨H.GZ ((H.d.later W).more.le (by omega)) (H.st.later W) (H.lp.later W) (H.ch.later W) H.lk H.bg H.kb,HC.later W,aa.ah _ W⟩;clear hr bd W;go_wp2;go_ret;rw [z];exact⟨rfl,v⟩
end
end
section
section
variable {w w':World} {F:Nat->Prop} {p s cR q l m t n:Nat} {S:DS} {G:SG} {T:TG}
def Ow (h:iw w F p s cR q l m S G) (aU:S.puts.length+1<=4000000000000):
  Calls prog 75 #[pQ q] w λe w'=>e= .returned (iV (G.L.sync S s).1)/\iw w' F p s cR q l m (G.L.sync S s).2 G/\aa F w w':=by
 have c:=B.Ac h.d h.lp h.nl aU;have g:=h.st.c1;generalize G.L.sync S s=Z at*;go_in;go_wp2_with fail;refine pz c λw1 hd f a=>?_;have b:(iw w1 F p s cR q l m Z.2 G/\aa F w w1):=⟨⟨hd,h.st.aw a h.nq,f,h.ch.aw a h.nm,h.nq,h.nl,h.nm,h.ql,h.qm,h.lm,h.lk,h.bg,h.hs,h.kb⟩,a⟩;go_wp2;go_ret;exact⟨rfl,b⟩
def TG.news (T:TG) (G:SG) (S:DS):CM:=T.puts.filter λx=> !decide (x.2=G.block S x.1)
def TG.bK (T:TG) (G:SG) (S:DS) (s:Nat):Int×DS×SG×TG:=
 if T.state G S≠0 then (T.state G S,S,G,T) else
 if T.news G S= [] then (0,S,{G with busy:=false},T.close) else
 if (G.bK S s (T.news G S)).1≠0 then ((G.bK S s (T.news G S)).1,(G.bK S s (T.news G S)).2.1,(G.bK S s (T.news G S)).2.2,T)
 else (0,(G.bK S s (T.news G S)).2.1,{(G.bK S s (T.news G S)).2.2 with busy:=false},T.close)
end
end
def CM.Ox (h:CM.Ok ms) (P:Nat×List Int->Bool):CM.Ok (ms.filter P):=List.Pairwise.filter P h
def CM.get_filter (h:CM.Ok ms) (P:Nat×List Int->Bool) (k:Nat):CM.get (ms.filter P) k=(CM.get ms k).filter (λc=>P (k,c)):=by
 induction ms with
 |nil=>rfl
 |cons x xs d=>
  have b:=List.pairwise_cons.1 h;obtain⟨j,c⟩:=x;rw [CM.l9];by_cases e:j=k
  .subst e;rw [aG rfl];cases a:P (j,c)
   .rw [List.filter_cons_of_neg (by rw [a];decide),d b.2,CM.kT (λy f e=>by have:=b.1 y f;simp only at this;omega)];simp [a,Option.filter]
   .rw [List.filter_cons_of_pos a,CM.l9,aG rfl];simp [a,Option.filter]
  .rw [aB e];cases a:P (j,c)
   .rw [List.filter_cons_of_neg (by rw [a];decide),d b.2]
   .rw [List.filter_cons_of_pos a,CM.l9,aB e,d b.2]
def jQ (ms X:CM) (UX:Nat->List Int) (left:Lit->Bool):Prop:=∀k,CM.get X k=if left (kk k)=false then (CM.get ms k).filter (λc=> !decide (c=UX k)) else none
def jQ.start {left:Lit->Bool} (h:∀k c,CM.get ms k=some c->left (kk k)=true):jQ ms [] UX left:=λk=>by
 show none=_;split
 .rename_i e;cases a:CM.get ms k with
  |none=>rfl
  |some c=>rw [h k c a] at e;cases e
 .rfl
def jQ.done {left:Lit->Bool} (h:jQ ms X UX left) (b:CM.Ok X) (a:CM.Ok ms) (c:∀kl,left kl=false):X=ms.filter (λx=> !decide (x.2=UX x.1)):=by
 refine CM.ext b (CM.Ox a _) (λk=>?_);rw [h k,aG (c _),CM.get_filter a]
def jQ.aw {left:Lit->Bool} {c:List Int} (h:jQ ms X UX left) (b:CM.get ms k=some c) (d:left (kk k)=true) (a:c=UX k):jQ ms X UX (λz=>left z && !z.sameKey (kk k)):=λj=>by
 rw [h j];show _=if (left (kk j) && !(kk j).sameKey (kk k))=false then _ else _;rw [lI];by_cases e:j=k
 .subst e;simp [b,d,a,Option.filter]
 .simp [e]
def jQ.put {left:Lit->Bool} {c:List Int} (h:jQ ms X UX left) (a:CM.Ok X) (d:CM.get ms k=some c) (b:c≠UX k):jQ ms (CM.put X k c) UX (λz=>left z && !z.sameKey (kk k)):=λj=>by
 rw [CM.kF _ _ _ _ a,h j];show _=if (left (kk j) && !(kk j).sameKey (kk k))=false then _ else _;rw [lI];by_cases e:j=k
 .subst e;simp [d,b,Option.filter]
 .simp [e]
section
def lP {P:Program} {k:TypeId} {R:Value->Option (DataW Value×List MemPlace)} {w w':World} {b r n:Nat} {D:DataW Value} {left:Lit->Bool} {eu:Nat} (h:w.ranges P k R b r n D left eu) (g:w'.heap[b]? =w.heap[b]?) (i:w'.heap[r]? =w.heap[r]?):w'.ranges P k R b r n D left eu:=by
 obtain⟨f,a,c,d,e,m,l,p,j,o,rest⟩:=h;exact⟨f,a,c,d,e,g.trans m,l,p,j,i.trans o,rest⟩
section
variable {w w':World} {F:Nat->Prop} {p s cR q l m t n:Nat} {S:DS} {G:SG} {T:TG}
def G4 {D:DataW Value} (h:iw w F p s cR q l m S G) (ht:mL w F q l m t n G T) (hn:vG w n T.puts D) (hf:S.fuse≠0) (aU:S.puts.length+1<=4000000000000):
  Calls prog 138 #[pQ t] w λe w'=>e= .returned (.tuple #[.map (some w.heap.size),iV 0])/\Ch w' w.heap.size (T.news G S)/\B.ax w' F p s S (cR+T.puts.length)/\aa F w w':=by
 obtain⟨mu,R2,HS,HT,H,iM,Cp,hm⟩:=xA hn.lt jm (yh h) (yh ht) (yh hn) (yh h.d.lt) ( @run_makeMap prog) (Ch.made w);obtain⟨wM,UR⟩:=bP (w.alloc (.map #[] 0));rw [<-UR] at hm;have K:bW w wM:=by rw [UR];exact aJ _ _
 have Y:wM.heap.size=w.heap.size+1:=by rw [UR,World.size_alloc]
 have c1:=(ht.later K).c1;have HwM:=yh UR;have HM:=yh hm;have I:=yh K;subst UR;clear h ht hn hm K;go_in;go_wp2_with (at_range;refine wpList_range_own _ rfl _ 93 rfl 3 101 gu underlying93 Ra n T.puts.length D rfl (H.o.agree (I.o.block n mu)).own ?_;intro w0 pG vd yM;go_frame);have BC:Yh (bW w w0):=I.o.trans (((bi _ _).grown vd (bR _) (λj E=>by cases E)).mono (by omega));have R:=yh (HM.o.agree (vd.block _ HM.o.lt (λe=>by cases e)));rw [Y] at pG yM;clear vd c1 Cp HM I Y HwM;go_loopw [5] (λ_ wr=>∃(left:Lit->Bool) (eu u:Nat) (X:CM),wr.ranges prog 3 Ra n (w.heap.size+1) T.puts.length D left eu/\Ch wr w.heap.size X/\jQ T.puts X (G.block S) left/\B.ax wr F p s S (cR+u)/\u+eu<=T.puts.length/\aa F w wr/\w.heap.size+2<=wr.heap.size)
    (λ_ wr=>wr.rangeLeft n (w.heap.size+1))
 case atStart=>
  exact⟨_,_,0, [],pG,R.o,jQ.start (λk c hk=>(H.o.at' k c hk).1),HS.o.d.later BC.o,by rw [H.o.siz];omega,aa.ah _ BC.o,by omega⟩
 case round=>
  clear pG BC R yM;obtain⟨left,eu,u,X,mU,U,JV,hd,hu,fb,eM⟩:=hrel;go_wp2_with (at_next;refine wpList_next_ranges _ rfl _ rfl 3 gu Ra (Value.int .i64) Value.agg (λkey kl gW=>by obtain⟨x,rfl,_⟩:=Maps.keyOf_int_inv underlying3 gW;exact⟨x,rfl⟩) KH n (w.heap.size+1) T.puts.length _ _ _ rfl mU ?_ ?_)
  .intro _ ws;have W:X=T.news G S:=JV.done U.ok H.o.ok ws;have J:=yh (aH (W▸U) (aH (hd.le (by omega:cR+u<=cR+T.puts.length)) fb));clear mU U JV hd fb H HS HT W;go_wp2;go_ret2;exact⟨rfl,J.o⟩
  .intro x ca kl yd yp a pH gW Bl N it pj bq gh br Jb;obtain⟨k,c,rfl,rfl,Yg,tM⟩:=H.o.meets gW N it;have nU:=H.o.len _ (CM.get_mem Yg);have po:k<G.y.blocks:=HT.o.kb _ (CM.get_mem Yg);have G6:=vL HS.o k po;injection tM with tM;have bj:=eY a nU.2.1;have aW:=eU nU.2.1;have dD:=cF c;obtain⟨A,hA⟩:=bP (bs c);rw [<-hA] at tM bj aW dD;have qA:A.length=512:=(by rw [hA,bs,jF,nU.2.1]);have bX:=all_oneCell_toArray dD;subst tM;have BD:aa (λj=>j=w.heap.size+1) wr a:=⟨gh.os,gh.tape,gh.output,gh.size,λj E dM=>gh.block j E (λe=>dM (by injection e))⟩;have cI:=hd.aw BD (λj E e=>by have:=iM.o _ E;omega);have MP:=U.aw BD (λe=>by omega);obtain⟨wS,FE⟩:=bP ((a.alloc (.cells bo 101)).setCells a.heap.size 0 A);have eh:=bj.2.2;have wX:bW a wS:=(by rw [FE];exact bj.2.1);have Yl:kh wS 101 a.heap.size c:=(by rw [FE];exact bj.1);have Wv:=(fb.trans BD (λj e=> .inr (by omega))).trans (aa.ah (λ_=>False) wX) (λ_ h=>h.elim);obtain⟨c0,h2,hzS,xJ,ZV,HA,g⟩:=nD ((HT.o.asked Wv).c0) (se (HS.o.asked (cI.later wX) Wv) k po hf aU) wX.size (yh (aH (lP pj (wX.block _ pj.owns.lt) (wX.block _ pj.lt)) (aH (MP.later wX) (aH Wv Yl)))) (yh FE) (yh hA) (yh (aH Yg (aH Bl (aH JV nU))));have jD:w.heap.size+2<=a.heap.size:=(by omega);clear gW N it gh U MP fb BD hd cI wX Yl Wv dD Yg pj bj JV Bl br hA FE;have hlS:=xJ.o.2.2.2.lt
   go_upto_region 5 with (refine wpList_store_mid rfl 101 _ _ rfl a.heap.size 0 A.toArray rfl rfl ?h1 ?h2 bX ?_)
   case h1=>first|simpa using eh|(rw [qA] at eh;simpa using eh)
   have R7:=ZV.o;subst R7;generalize On:(a.alloc (.cells bo 101)).setCells a.heap.size 0 A=wS at*;clear On eh ZV Jb;unfold cV at h2;obtain⟨C,hC⟩:=bP (bs (G.block S k));rw [<-hC] at h2;have Q:=yh hC;clear hC;go_wp2_with fail;refine fQ h2 λi L aZ=>?_;obtain⟨lq,bj,mb,wY⟩:=cP aZ.size (eY i G6) (eU G6) (cF (G.block S k));rw [<-Q.o] at bj mb wY;have Z4:C.length=512:=(by rw [Q.o,bs,jF,G6]);have GY:=all_oneCell_toArray wY;have eh:=bj.2.2;obtain⟨f,Ws⟩:=bP ((i.alloc (.cells bo 101)).setCells i.heap.size 0 C);have Jp:bW i f:=(by rw [Ws];exact bj.2.1);have hzD:=Jp.size;have C7:kh f 101 i.heap.size (G.block S k):=(by rw [Ws];exact bj.1);have uv:∀j,w.heap.size<=j->¬F j:=λj E hf=>by have:=iM.o _ hf;omega
   have Am:=(xJ.o.2.2.2.aw (aZ.block _ hlS (uv _ (by omega)))).aw (Jp.block _ (by omega));have Z:f.rangeAt a.heap.size 0 A:=λj v N=>by
    have:=Am.news j v (by rw [<-HA.o];exact N);rwa [aN] at this
   have raC:f.rangeAt i.heap.size 0 C:=λj v N=>by
    have:=C7.news j v (by rw [<-Q.o];exact N);rwa [aN] at this
   have Sr:=lP (lP xJ.o.1 (aZ.block _ (by omega) HT.o.nn) (aZ.block _ xJ.o.1.lt (uv _ (by omega)))) (Jp.block _ (by omega)) (Jp.block _ (by omega));have b:=(xJ.o.2.1.aw aZ (uv _ (by omega))).later Jp;have Ww:=(xJ.o.2.2.1.trans aZ (λ_ h=> .inl h)).trans (aa.ah (λ_=>False) Jp) (λ_ h=>h.elim);have r:B.ax f F p s S (cR+(u+1)):=L.later Jp;by_cases O:c=G.block S k
   .have dv:(!decide (c=G.block S k))=false:=(by rw [decide_eq_true O];rfl);have J:Yh (f.ranges prog 3 Ra n (w.heap.size+1) T.puts.length D (λz=>left z && !z.sameKey (kk k)) pH/\Ch f w.heap.size X/\jQ T.puts X (G.block S) (λz=>left z && !z.sameKey (kk k))/\B.ax f F p s S (cR+(u+1))/\(u+1)+pH<=T.puts.length/\aa F w f/\w.heap.size+2<=f.heap.size):=⟨Sr,b,g.o.2.2.1.aw g.o.1 g.o.2.1 O,r,by omega,Ww,by omega⟩;have M:=g.o.2.2.2.2.1;clear h2 L aZ bj wY Jp C7 Am Sr b Ww r O uv;subst Ws
    go_upto_region 6 with (refine wpList_store_mid rfl 101 _ _ rfl i.heap.size 0 C.toArray rfl rfl ?h3 ?h4 GY ?_)
    case h3=>first|simpa using eh|(rw [Z4] at eh;simpa using eh)
    case h4=>simpa using mb
    go_wp2_with (first|refine wpList_load_mid rfl 101 _ rfl a.heap.size 0 rfl A _ Z underlying101 rfl aW ?_|refine wpList_load_mid rfl 101 _ rfl i.heap.size 0 rfl C _ raC underlying101 rfl mb ?_|refine sh rfl _ _ _ rfl A C c (G.block S k) HA.o Q.o rfl rfl M G6 false dv ?_)
    go_frame
    go_roundw;case rel=>exact⟨_,pH,u+1,X,J.o⟩
    case measure=>rw [J.o.1.left_eq,mU.left_eq];exact bq
   .have dv:(!decide (c=G.block S k))=true:=(by rw [decide_eq_false O];rfl);obtain⟨P,bI,ny,B5,Ot⟩:=b.store k g.o.2.2.2.1 c g.o.2.2.2.2.1 g.o.2.2.2.2.2;have Si:(Instr.mapUpdate 93 (.map (some w.heap.size)) (iV (k:Int)) (.agg A.toArray)).run prog f= .ok () P:=(by rw [HA.o];exact bI);have J:Yh (P.ranges prog 3 Ra n (w.heap.size+1) T.puts.length D (λz=>left z && !z.sameKey (kk k)) pH/\Ch P w.heap.size (CM.put X k c)/\jQ T.puts (CM.put X k c) (G.block S) (λz=>left z && !z.sameKey (kk k))/\B.ax P F p s S (cR+(u+1))/\(u+1)+pH<=T.puts.length/\aa F w P/\w.heap.size+2<=P.heap.size):=⟨lP Sr (B5.block _ (by omega) (λe=>by omega)) (B5.block _ Sr.lt (λe=>by omega)),ny,g.o.2.2.1.put b.ok g.o.1 O,r.aw B5 (λj E e=>uv _ (Nat.le_of_eq e.symm) E),by omega,Ww.trans B5 (λj e=> .inr (by omega)),by have:=B5.size;omega⟩;have M:=g.o.2.2.2.2.1;clear h2 L aZ bj wY Jp C7 Am Sr b Ww r O uv bI ny B5 Ot;subst Ws
    go_upto_region 6 with (refine wpList_store_mid rfl 101 _ _ rfl i.heap.size 0 C.toArray rfl rfl ?h3 ?h4 GY ?_)
    case h3=>first|simpa using eh|(rw [Z4] at eh;simpa using eh)
    case h4=>simpa using mb
    go_wp2_with (first|refine wpList_load_mid rfl 101 _ rfl a.heap.size 0 rfl A _ Z underlying101 rfl aW ?_|refine wpList_load_mid rfl 101 _ rfl i.heap.size 0 rfl C _ raC underlying101 rfl mb ?_|refine sh rfl _ _ _ rfl A C c (G.block S k) HA.o Q.o rfl rfl M G6 true dv ?_);go_roundw;case rel=>exact⟨_,pH,u+1,_,J.o⟩
    case measure=>rw [J.o.1.left_eq,mU.left_eq];exact bq
def G7 (h:iw w F p s cR q l m S G) (a:mL w F q l m t n G T) (b:S.fuse≠0) (aU:S.puts.length+1<=4000000000000):
  Calls prog 138 #[pQ t] w λe w'=>e= .returned (.tuple #[.map (some w.heap.size),iV 0])/\Ch w' w.heap.size (T.news G S)/\B.ax w' F p s S (cR+T.puts.length)/\aa F w w':=by
 obtain⟨D,c⟩:=a.ch;exact G4 h a c b aU
end
end
section
def Ar (G:SG) (S:DS) (s:Nat) (c:CM):(G.bK S s c).2.2.y=G.y:=by
 have a:∀x,(G.made S s x).2.2.y=G.y:=λx=>by
  unfold SG.made;split
  .rfl
  .exact mN G S s
 unfold SG.bK;split
 .rfl
 .split
  .exact a _
  .split
   .exact a _
   .exact a _
def As {T:TG} {G:SG} {S:DS} (h:T.state G S=0):G.L.dead S=false:=by
 cases hd:G.L.dead S
 .rfl
 .exfalso;have:T.bU G S=3:=by unfold TG.bU;rw [hd];rfl
  unfold TG.state at h;rw [this,aG (by decide)] at h;revert h;decide
def G8 {T:TG} {G:SG} {S:DS} (h:x∈T.news G S):x∈T.puts:=(List.mem_filter.1 h).1
def Wx (T:TG) (G:SG) (S:DS):(T.news G S).length<=T.puts.length:=List.length_filter_le _ _
section
variable {w w':World} {F:Nat->Prop} {p s cR q l m t n:Nat} {S:DS} {G:SG} {T:TG}
def iw.le (h:iw w F p s cR q l m S G) (a:cR<=c'):iw w F p s c' q l m S G:=
   ⟨h.d.le a,h.st,h.lp,h.ch,h.nq,h.nl,h.nm,h.ql,h.qm,h.lm,h.lk,h.bg,h.hs,h.kb⟩
def mL.re {H:Nat->Prop} {G':SG} (h:mL w F q l m t n G T) (a:aa H w w') (e:¬H t) (d:¬H n) (b:¬F2 t) (c:¬F2 n) (g:G'.y=G.y):mL w' F2 q l m t n G' T:=
   ⟨(a.block t (aq h.tx) e).trans h.tx,h.ch.aw a d,b,c,h.tq,h.tl,h.tm,h.tn,h.nq,h.nl,h.nm,λx f=>by rw [g];exact h.kb x f⟩
def Ss (h:iw w F p s cR q l m S G) (a:mL w F q l m t n G T):
  Calls prog 140 #[pQ t] w λe w'=>e= .returned (.tuple #[])/\iw w' F p s cR q l m S {G with busy:=false}/\mL w' F q l m t n {G with busy:=false} T.close/\aa (λk=>k=t\/k=n\/k=q) w w':=by
 refine(MN h.st a).mono ?_;rintro e w1 ⟨rfl,f,g,i,b⟩;refine⟨rfl,⟨h.d.aw b (λk c e=>?_),i,h.lp.aw b (λe=>?_),h.ch.aw b (λe=>?_),h.nq,h.nl,h.nm,h.ql,h.qm,h.lm,h.lk,h.bg,h.hs,h.kb⟩,⟨f,g,a.nt,a.nn,a.tq,a.tl,a.tm,a.tn,a.nq,a.nl,a.nm,λx j=>by cases j⟩,b⟩
 .rcases e with e|e|e
  .exact a.nt (e▸c)
  .exact a.nn (e▸c)
  .exact h.nq (e▸c)
 .rcases e with e|e|e
  .exact a.tl e.symm
  .exact a.nl e.symm
  .exact h.ql e.symm
 .rcases e with e|e|e
  .exact a.tm e.symm
  .exact a.nm e.symm
  .exact h.qm e.symm
def St (w w':World) (F:Nat->Prop) (p s c q l m t n:Nat) (r:Int×DS×SG×TG) (e:Ending):Prop:=
 e= .returned (iV r.1)/\(iw w' (more F w w') p s c q l m r.2.1 r.2.2.1/\mL w' (more F w w') q l m t n r.2.2.1 r.2.2.2)/\aa (λk=>F k\/k=l\/k=m\/k=t\/k=n\/k=q) w w'
def Fs {g:Nat->Prop} {i:DS} {f:SG} {j:TG} (h0:iw w F p s cR q l m S G) (b:mL w F q l m t n G T) (h:iw w3 g p s c q l m i f) (a:mL w3 g q l m t n f j) (o:∀k,g k->F k\/(w.heap.size<=k/\k<w3.heap.size)) (u:w.heap.size<=w3.heap.size) (r:c<=c'):iw w3 (more F w w3) p s c' q l m i f/\mL w3 (more F w w3) q l m t n f j:=by
 obtain⟨v,x,y,z,A⟩:=eQ h0.st.lt h0.lp.lt h0.ch.lt (aq b.tx) b.ch.lt;exact⟨(h.reF o (cK h0.d.lt u) (λe=>e.elim h0.nq (λe=>by omega)) (λe=>e.elim h0.nl (λe=>by omega)) (λe=>e.elim h0.nm (λe=>by omega))).le r,⟨a.tx,a.ch,λe=>e.elim b.nt (λe=>by omega),λe=>e.elim b.nn (λe=>by omega),a.tq,a.tl,a.tm,a.tn,a.nq,a.nl,a.nm,a.kb⟩⟩
def KV (h:iw w F p s cR q l m S G) (z:mL w F q l m t n G T) (UV:T.puts.length<=16) (dO:S.fN) (aU:S.puts.length+5000<=4000000000000):
  Calls prog 88 #[pQ t] w λe w'=>St w w' F p s (cR+40) q l m t n (T.bK G S s) e:=by
 obtain⟨y,i,b,iM,hqw,hlw,Wt,MI,hnw,mu,M⟩:=Mf (nV h z) (yh h) (yh z) (yh h.d.lt) h.st.lt h.lp.lt h.ch.lt (aq z.tx) z.ch.lt (Wx T G S) (yh (Ar G S s (T.news G S)));obtain⟨R,a⟩:=bP (T.bK G S s);rw [<-a];unfold TG.bK at a;go_in;go_wp2_with fail;by_cases k:T.state G S=0
 .rw [aB (λh=>h k)] at a;have FB:=vN (As k);rw [k] at y;clear k h z;refine bJ y λw1 ar=>?_;have C:=G7 (i.o.later ar) (b.o.later ar) FB (by omega);by_cases J:T.news G S= []
  .rw [aG J] at a;have r:=yh a;clear a;have dE:=ar.size;have cQ:=yh ar;clear y ar;go_wp2_with fail;refine pz C λw2 td cI aY=>?_;have em:=aY.size;rw [J] at td;have I:=λX=>td.length X;have u:=Ss ((i.o.later cQ.o).asked cI aY) ((b.o.later cQ.o).asked aY);have ii:=yh (((aa.ah F cQ.o).trans aY (λ_ h=> .inl h)).mono (λk c=> .inl c:∀k,F k->F k\/k=l\/k=m\/k=t\/k=n\/k=q));clear C td cI aY;go_wp2_with fail;refine pz u λY f g aZ=>?_;have j:=yh (aH (Fs (c':=cR+40) i.o b.o f g (λk c=> .inl c) (by have:=aZ.size;omega) (by omega)) (ii.o.trans aZ (λk c=> .inl (.inr (.inr (.inr c))))));clear u f g aZ;go_wp2;go_ret;rw [r.o];exact⟨rfl,j.o⟩
  .rw [aB J] at a;have vB:=List.length_pos_iff.2 J;obtain⟨N,L⟩:=bP (T.news G S);have P:=yh (λx (W:x∈N)=>(G8 (T:=T) (G:=G) (S:=S) (L▸W)));rw [<-L] at a vB mu M;have O:=yh L;obtain⟨K,U⟩:=bP (G.bK S s N);rw [<-U] at a M;have HK:=yh U;clear U L J;rw [<-O.o] at C;have dE:=ar.size;have cQ:=yh ar;clear y ar;go_wp2_with fail;refine pz C λw2 td cI aY=>?_;have em:=aY.size;have gh:=td.lt;have v:=(b.o.later cQ.o).asked aY;have I:=λX=>td.length X;have u:=KU ((i.o.later cQ.o).asked cI aY) td (λhf=>by have:=iM.o _ hf;omega) (by omega) (by omega) (by omega) (λx W=>b.o.kb x (P.o x W)) (by omega) dO aU;rw [<-HK.o] at u;have c0:=v.c0;have Q:=yh v;have ii:=yh (((aa.ah F cQ.o).trans aY (λ_ h=> .inl h)).mono (λk c=> .inl c:∀k,F k->F k\/k=l\/k=m\/k=t\/k=n\/k=q));clear C td cI aY v;go_wp2_with fail;refine pz u λY f _ aZ=>?_;have lq:=aZ.size;have g:mL Y (more F w2 Y) q l m t n K.2.2 T:=Q.o.re aZ (λe=>by
    rcases e with e|e|e
    .exact b.o.nt e
    .exact b.o.tl e
    .exact b.o.tm e) (λe=>by
    rcases e with e|e|e
    .exact b.o.nn e
    .exact b.o.nl e
    .exact b.o.nm e) (λe=>e.elim b.o.nt (λe=>by omega)) (λe=>e.elim b.o.nn (λe=>by omega)) M.o
   have lW:=yh (ii.o.trans aZ (λk c=> .inl (c.elim .inl (λh=> .inr (h.elim .inl (λh=> .inr (.inl h)))))));by_cases A:K.1=0
   .rw [aB (λh=>h A)] at a;have dK:(K.1 != 0)=false:=(by rw [A];rfl);have r:=yh a;clear a A;have Z:=Ss f g;clear u f g aZ;go_wp2_with fail;refine pz Z λw4 D H dW=>?_;have vt:=dW.size;have j:=yh (aH (Fs (c':=cR+40) i.o b.o D H (λk c=>c.elim .inl (λh=> .inr ⟨by omega,by omega⟩)) (by omega) (by omega)) (lW.o.trans dW (λk c=> .inl (.inr (.inr (.inr c))))));clear Z D H dW;go_wp2;go_ret;rw [r.o];exact⟨rfl,j.o⟩
   .rw [aG A] at a;have dK:(K.1 != 0)=true:=(by rw [gg];exact A);have r:=yh a;clear a A;have j:=yh (aH (Fs (c':=cR+40) i.o b.o f g (λk c=>c.elim .inl (λh=> .inr ⟨by omega,h.2⟩)) (by omega) (by omega)) lW.o);clear u f g aZ;go_wp2;go_ret;rw [r.o];exact⟨rfl,j.o⟩
 .rw [aG k] at a;generalize T.state G S=E at*;have d:(E != 0)=true:=by rw [gg];exact k
  have r:=yh a;clear k a h z;refine bJ y λw1 ar=>?_;have j:=yh (aH (Fs (c':=cR+40) i.o b.o (i.o.later ar) (b.o.later ar) (λk c=> .inl c) ar.size (by omega)) (aa.ah (λk=>F k\/k=l\/k=m\/k=t\/k=n\/k=q) ar));clear y ar;go_wp2;go_ret;rw [r.o];exact⟨rfl,j.o⟩
end
end
def fe (n:Nat):CM:=(List.range n).map λi=>(i,zs 512)
def At (n:Nat):(fe n).length=n:=by simp [fe]
def Da (n:Nat):fe (n+1)=fe n ++ [(n,zs 512)]:=by simp [fe,List.range_succ]
def Db {j:Nat} (h:j<=n):∃r,fe n=fe j ++ r:=by
 refine⟨(fe n).drop j,?_⟩;have:fe j=(fe n).take j:=by
  unfold fe;rw [<-List.map_take,List.take_range,Nat.min_eq_left h]
 rw [this,List.take_append_drop]
def eD (S:DS) (s a n:Nat):Int×DS:=if (aE S s a (fe n)).1≠0 then aE S s a (fe n) else (aE S s a (fe n)).2.fl s
def mc (S:DS) (s a n:Nat):(eD S s a n).2.puts.length<=S.puts.length+n:=by
 have h:=eG S s a (fe n);rw [At] at h;unfold eD;split
 .exact h
 .exact k9 (mi _ _) h
def Dc (hd:B.ax w F p s S c) (a b:Nat) (oN:a<=b) (M:b<=4000000000) (aU:S.puts.length+(b-a)+1<=4000000000000):
  Calls prog 49 #[pQ p,iV (a:Int),iV (b:Int)] w λe w'=>e= .returned (iV (eD S s a (b-a)).1)/\B.ax w' (more F w w') p s (eD S s a (b-a)).2 c/\aa F w w':=by
 obtain⟨n,rfl⟩:∃n,b=a+n:=⟨b-a,by omega⟩;rw [Nat.add_sub_cancel_left] at aU⊢;clear oN;obtain⟨R,t⟩:=bP (eD S s a n);rw [<-t];unfold eD at t;obtain⟨iM,H,D⟩:=kI hd.lt hd t;clear hd t;go_in;go_wp2_with (at_make;refine iW _ rfl _ _ rfl _ 512 512 rfl rfl rfl (bR _) (by omega) ?_;intro w1 aV ar);have BM:=aV.lt;have fV:Src w1 (some (aD w.heap.size 0)) 512 (zs 512):=by
  have:=aV.src (o:=0) (n:=512) (by rw [bH];omega);rwa [List.drop_zero,nC (by rw [bH];omega)] at this
 obtain⟨Jq,R6,cQ⟩:=kI fV (H.o.later ar) ar;clear aV ar fV;have K:((a+n:Nat):Int)<=4000000000:=by omega
 go_loopw [8] (λi wr=>∃j:Nat,j<=n/\i=iV ((a+j:Nat):Int)/\(aE S s a (fe j)).1=0/\B.ax wr (more F w1 wr) p s (aE S s a (fe j)).2 c/\aa F w1 wr) (λi _=>a+n-(intOf i).toNat);case atStart=>exact⟨0,dL _,rfl,rfl,R6.o.more,aa.refl _ _⟩
 case round=>
  clear R6;obtain⟨j,N,rfl,u,hd,fb⟩:=hrel;have C:=fb.size;have sT:=eG S s a (fe j);rw [At] at sT;have R8:Yh (∀k,F k->k<w1.heap.size):=λk z=>by have:=iM.o k z;omega
  have A:¬F w.heap.size:=λz=>by have:=iM.o _ z;omega
  by_cases bq:j<n
  .have cC:((a+j:Nat):Int)<((a+n:Nat):Int):=(by omega);have lf:=Jq.o.pg fb (λy L _ e=>by
    cases L;exact A e)
   have i7:aE S s a (fe (j+1))=(aE S s a (fe j)).2.wr s ((a+j:Nat):Int) 512 (zs 512):=by
    rw [Da,fw,aB (λh=>h u)];simp only [aE];split
    .rfl
    .rename_i h;generalize DS.wr _ _ _ _ _=Z at*;rw [<-(Decidable.byContradiction h)]
   have f:=B.Eu hd ((a+j:Nat):Int) (some (aD w.heap.size 0)) 512 512 (zs 512) lf (by omega);rw [<-i7] at f;obtain⟨r,G⟩:=Db (Nat.succ_le_of_lt bq);have lO:aE S s a (fe n)=if (aE S s a (fe (j+1))).1≠0 then aE S s a (fe (j+1)) else aE (aE S s a (fe (j+1))).2 s a r:=by
    rw [G];exact fw S s a _ _
   obtain⟨Y,x⟩:=bP (aE S s a (fe (j+1)));rw [<-x] at f lO;obtain⟨E,I,q⟩:=kI x lO fb;clear x lO i7 G hd fb lf u sT;by_cases l:Y.1=0
   .have J:(Y.1 != 0)=false:=(by rw [l];rfl);have UQ:=yh l;clear l;go_wp2_with fail;refine fQ f λw5 jJ dX=>?_;have pT:=dX.size;have g:Yh (B.ax w5 (more F w1 w5) p s Y.2 c/\aa F w1 w5):=⟨jJ.mono (vy C pT) (cK (F:=F) (w:=w1) R8.o (by omega)),q.o.trans dX (λk d=>d.elim .inl (λh=> .inr h.1))⟩;clear f jJ dX;go_wp2;go_roundw;case rel=>exact⟨j+1,by omega,by go_num,by rw [<-E.o];exact UQ.o,by rw [<-E.o];exact g.o.1,g.o.2⟩
    case measure=>simp [intOf];omega
   .have J:(Y.1 != 0)=true:=(by rw [gg];exact l);have UQ:=yh l;clear l;go_wp2_with fail;refine fQ f λw5 jJ dX=>?_;have pT:=dX.size;have g:Yh (B.ax w5 (more F w w5) p s Y.2 c/\aa F w w5):=⟨jJ.mono (λk d=>by
     rcases d with (d|d)|d
     .exact .inl d
     .exact .inr ⟨by omega,by omega⟩
     .exact .inr ⟨by omega,d.2⟩) (cK (F:=F) (w:=w) iM.o (by omega)),((aa.ah F cQ.o).trans q.o (λ_ h=> .inl h)).trans dX (λk d=>d.elim .inl (λh=> .inr (by omega)))⟩
    clear f jJ dX;go_wp2;go_ret;have v:R=Y:=(by rw [D.o,I.o,aG UQ.o,aG UQ.o]);rw [v];exact⟨rfl,g.o⟩
  .obtain rfl:j=n:=(by omega);have f:=B.vI hd (by omega);have q:=yh fb;have m:R=(aE S s a (fe j)).2.fl s:=(by rw [D.o,aB (λh=>h u)]);rw [<-m] at f;clear hd fb m u sT bq;go_wp2_with fail;refine fQ f λw5 jJ dX=>?_;have pT:=dX.size;have g:Yh (B.ax w5 (more F w w5) p s R.2 c/\aa F w w5):=⟨jJ.mono (λk d=>by
    rcases d with d|d
    .exact .inl d
    .exact .inr ⟨by omega,by omega⟩) (cK (F:=F) (w:=w) iM.o (by omega)),((aa.ah F cQ.o).trans q.o (λ_ h=> .inl h)).trans dX (λk d=>d.elim .inl (λh=> .inr (by omega)))⟩
   clear f jJ dX;go_wp2;go_ret;exact⟨rfl,g.o⟩
namespace B
def Su (h:ax w F p s S cR) (f n:Nat) (L:f+2+n<=s) (N:n<=256) (aU:S.puts.length+400<=4000000000000):
  Calls prog 104 #[kJ p f n] w λe w'=>e= .returned (iV (cO S s f n).1)/\ax w' (more F w w') p s (cO S s f n).2 cR/\aa F w w':=by
 obtain⟨O,l,D,x⟩:=cP h.ok.hi h.lt ((bi w.heap.size w).alloc (bR _) (.cells #[.pointer (some ⟨p,0,none⟩), .int .i64 f, .int .i64 n] 144)) ((h.boxed (.cells #[.pointer (some ⟨p,0,none⟩), .int .i64 f, .int .i64 n] 144)));have H:=D;clear h D;go_in;go_wp2_with (at_make;refine iW _ rfl _ _ rfl _ 512 512 rfl rfl ?c1 ?c2 ?c3 ?_);case c1=>rfl
 case c2=>omega
 case c3=>omega
 intro w1 aV ar;have iP:=x.later ar;have dH:w1.heap[w.heap.size]? =some (.cells #[.pointer (some ⟨p,0,none⟩), .int .i64 f, .int .i64 n] 144 (0,0)):=(ar.block _ (by simp)).trans (heap_alloc_new _ _);obtain⟨eM,J,K,R6⟩:=cP aV.lt dH aV iP;have cQ:=(H.trans (ar.mono (by simp)));have z:(¬F w.heap.size/\¬F (w.heap.size+1)):=⟨λh=>by have:=l _ h;omega,λh=>by have:=l _ h;omega⟩;have c1:=bG dH;clear aV ar iP dH;go_wp2;clear c1;go_loopw [4] (λi wr=>∃k:Nat,k<=n+2/\i=iV ((f+k:Nat):Int)/\(bF S s f k).1=0/\ax wr (more F w1 wr) p s (bF S s f k).2 cR/\aa F w1 wr) (λi _=>f+n+2-(intOf i).toNat);case atStart=>exact⟨0,dL _,by simp,rfl,R6.more,aa.refl _ _⟩
 case round=>
  obtain⟨k,b,rfl,E,hd,fb⟩:=hrel;have dH:=(fb.block _ (by omega) z.1).trans J;have Au:kh wr 5 (w.heap.size+1) (zs 512):=(fb.block _ (by omega) z.2).trans K;have A:=aM dH;have c1:=bG dH;have c2:=bM dH;obtain⟨G,y,te,Dd,t,u⟩:=jH (Gc p f n wr (by omega) (by omega) (by omega) (by omega)) E hd fb dH Au;clear E hd fb dH Au;go_wp2_with fail;refine bJ G λM bd=>?_;have dH:=(bd.block _ (aq t)).trans t;have Au:kh M 5 (w.heap.size+1) (zs 512):=(bd.block _ (aq u)).trans u;obtain⟨cI,ii,em,lq,vj⟩:=eQ (te.later bd) ((Dd.trans (aa.ah (λ_=>False) bd) (λ_ h=>h.elim))) bd.size Dd.size (p9 S s f k);clear G bd A c1 c2;have A:=aM dH;by_cases q:k<n+2
  .have bq:((f+k:Nat):Int)<(f:Int)+2+(n:Int):=(by omega);have fV:=Au.src (o:=0) (n:=512) (by rw [bH];omega);rw [List.drop_zero,nC (by rw [bH];omega)] at fV;have m:=Eu cI ((f+k:Nat):Int) (some ⟨w.heap.size+1,0,none⟩) 512 512 (zs 512) fV (by omega);have C:bF S s f (k+1)=(bF S s f k).2.wr s ((f+k:Nat):Int) 512 (zs 512):=ju y;rw [<-C] at m;clear fV C dH Au cI;go_wp2_with fail;refine fQ m λr c aZ=>?_;have a:=(c.mono (λk b=>by rcases b with (b|b)|b;exact .inl b;exact .inr ⟨b.1,by have:=aZ.size;omega⟩;exact .inr ⟨by omega,b.2⟩) (cK (F:=F) (w:=w1) (λk b=>by have:=l k b;omega) (by have:=aZ.size;omega)):ax r (more F w1 r) p s (bF S s f (k+1)).2 cR);have KD:=ii.trans aZ (λj a=>by rcases a with a|a;exact .inl a;exact .inr a.1);have PY:=a;have Jr:=KD;clear c aZ m a KD;by_cases g:(bF S s f (k+1)).1=0
   .have d:((bF S s f (k+1)).1 == 0)=true:=(by rw [beq_iff_eq];exact g);have I:=g;clear g;go_wp2;go_roundw;case rel=>exact⟨k+1,by omega,by go_num,I,PY,Jr⟩
    case measure=>simp [intOf];omega
   .have d:((bF S s f (k+1)).1 == 0)=false:=(by rw [fy];exact g);have v:cO S s f n=bF S s f (k+1):=by
     have:bF S s f (n+2)=bF S s f (k+1):=gD g (n+2) (by omega);unfold cO;rw [this,aG g]
    clear g;go_wp2;go_ret;rw [v];exact⟨rfl,PY.from (w:=w) l (by omega) Jr.size,(aa.ah F cQ).trans Jr (λ_ h=> .inl h)⟩
  .have bq:¬((f+k:Nat):Int)<(f:Int)+2+(n:Int):=(by omega);obtain rfl:k=n+2:=(by omega);have m:=vI cI (by omega);have v:cO S s f n=(bF S s f (n+2)).2.fl s:=by
    unfold cO;rw [aB (by have:=y;omega)]
   have PZ:=v;clear v dH Au cI;go_wp2_with fail;refine fQ m λr c aZ=>?_;have PY:=((c.wide (λk b=>by have:=l k b;omega) lq (by have:=aZ.size;omega):ax r (more F w1 r) p s ((bF S s f (n+2)).2.fl s).2 cR));have Jr:=(ii.trans aZ (λj a=>by rcases a with a|a;exact .inl a;exact .inr a.1):aa F w1 r);clear c aZ m;go_wp2;go_ret;rw [PZ];exact⟨rfl,PY.from (w:=w) l (by omega) Jr.size,(aa.ah F cQ).trans Jr (λ_ h=> .inl h)⟩
def KW (h:ax w F p s S cR) (dO:S.fN) (f n:Int) (aU:S.puts.length+500<=4000000000000):
  Calls prog 50 #[pQ p,iV f,iV n] w λe w'=>e= .returned (iV (cD S s f n).1)/\ax w' (more F w w') p s (cD S s f n).2 (cR+2)/\aa F w w':=by
 have C:=h.lt;have DO:¬F w.heap.size:=λi=>by have:=h.lt _ i;omega
 have r:=(aJ w (.cells #[.pointer (some ⟨p,0,none⟩), .int .i64 f, .int .i64 n] 144));have rL:(w.alloc (.cells #[.pointer (some ⟨p,0,none⟩), .int .i64 f, .int .i64 n] 144)).heap[w.heap.size]? =some (.cells #[.pointer (some ⟨p,0,none⟩), .int .i64 f, .int .i64 n] 144 (0,0)):=heap_alloc_new _ _;have xC:=h.boxed (.cells #[.pointer (some ⟨p,0,none⟩), .int .i64 f, .int .i64 n] 144);have i:=tZ xC f n;have t:=xC;unfold cD;by_cases q:cy S s f n=0
 .rw [aB (by omega)];obtain⟨ZE,a,b,rfl,rfl,oN,ar,bd⟩:=fX q;rw [q] at i;simp only [mx];have H:=sI S.take s a b;have apx:S.take.puts.length=S.puts.length:=rfl;have De:=((dO.take).Rl s a b);have A:=(λm (cI:ax m F p s S.take cR)=>Su cI a b oN bd (by simpa [DS.take] using (show S.puts.length+400<=4000000000000 by omega)));generalize cO S.take s a b=Y at*;by_cases k:Y.1=0
  .rw [aB (λh=>h k)];have d:(Y.1 == 0)=true:=(by rw [beq_iff_eq];exact k);go_in;go_wp2_with fail;refine bJ i λw1 c=>?_;have jL:w1.heap[w.heap.size]? =_:=(c.block _ (by simp)).trans rL;go_wp2_with fail;refine(zZ (t.later c)).mono ?_;rintro e m ⟨rfl,cI,aY⟩;have mq:=eF jL aY DO;have u:=aM mq;have v:=bG mq;have x:=bM mq;have ii:=((aa.ah F (r.trans (c.mono (by simp)))).trans aY (λ_ h=> .inl h));go_wp2_with fail;refine(A m cI).mono ?_;rintro e z ⟨rfl,g,aZ⟩;have tT:=eF mq aZ DO;obtain⟨u,v,x,lW,em,lq⟩:=jH (aM tT) (bG tT) (bM tT) ((ii.trans aZ (λ_ h=> .inl h))) ii.size aZ.size;have D:=KK g a b 1 0 (by omega) (by omega) (by omega) (by omega) (De.now a) (De.now (a+1));rw [show ((1:Nat):Int)*4294967296+((0:Nat):Int)=4294967296 by decide] at D;go_wp2_with fail;refine fQ D λE y dW=>?_;have vt:=dW.size;have G:=(aH ((y.mono (λk l=>by
    rcases l with (l|l)|l
    .exact .inl l
    .exact .inr ⟨by omega,by omega⟩
    .exact .inr ⟨by omega,l.2⟩) (cK (F:=F) (w:=w) C (by omega)):ax E (more F w E) p s _ (cR+2))) (lW.trans dW (λj o=>by
    rcases o with o|o
    .exact .inl o
    .exact .inr (by omega))))
   go_wp2;go_ret;exact⟨rfl,G⟩
  .rw [aG k];have d:(Y.1 == 0)=false:=(by rw [fy];exact k);go_in;go_wp2_with fail;refine bJ i λw1 c=>?_;have jL:w1.heap[w.heap.size]? =_:=(c.block _ (by simp)).trans rL;go_wp2_with fail;refine(zZ (t.later c)).mono ?_;rintro e m ⟨rfl,cI,aY⟩;have mq:=eF jL aY DO;have u:=aM mq;have v:=bG mq;have x:=bM mq;have ii:=((aa.ah F (r.trans (c.mono (by simp)))).trans aY (λ_ h=> .inl h));go_wp2_with fail;refine(A m cI).mono ?_;rintro e z ⟨rfl,g,aZ⟩;have tT:=eF mq aZ DO;have u:=aM tT;have v:=bG tT;have x:=bM tT;go_wp2;go_ret;exact⟨rfl,aH (((g.from C ii.size aZ.size).le (by omega):ax z (more F w z) p s Y.2 (cR+2))) (ii.trans aZ (λ_ h=> .inl h))⟩
 .rw [aG q];have d:(cy S s f n == 0)=false:=by rw [fy];exact q
  generalize cy S s f n=U at*;go_in;go_wp2_with fail;refine bJ i λw1 c=>?_;go_wp2;go_ret;exact⟨rfl,(aH (((t.later c).more (w:=w)).le (by omega:cR<=cR+2)) (aa.ah F (r.trans (c.mono (by simp)))))⟩
end B
def oP (m:Nat):Builtin.zeroCells (Value.int .u8 0).cells m=(bs (List.replicate m 0)).toArray:=by
 apply Array.ext';apply List.ext_getElem
 .simp [Builtin.zeroCells,bs,Value.cells]
 .intro i a b;simp [Builtin.zeroCells,bs,Nat.mod_one,Value.cells]
def EE (w:World) (base:Nat) (D:TypeId) (v:Value) (n:Nat) (l:List Int) (m:Nat) (aA:w.ownsRow base 5 1 v n (bs l)) (E:n+m<=1000000) (Df:base<=w.heap.size) (vB:0<n+m):
  ∃g c w',(Builtin.append_ #[36,3] D #[v,iV (m:Int)]).run prog w= .ok (.slice (some (aD g 0)) (n+m) c) w'/\
   w'.ownsRow base 5 1 (.slice (some (aD g 0)) (n+m) c) (n+m) (bs (l ++ List.replicate m 0))/\w.grownBy w' v.ownBlock:=by
 obtain⟨i,r,gC,dE,em⟩:=info_parts gq;have j8:(bs l).length=n:=by simpa using aA.1
 have Oy:l.length=n:=by simpa [bs] using j8
 have yx:IntKind.i64.wrap (m:Int)=(m:Int):=by rw [IntKind.wrap_i64];omega
 have h0:¬(m:Int)<0:=by omega
 have f:¬(281474976710656<(m:Int)):=by omega
 have o:∀w,(asInt (iV (m:Int))).run prog w= .ok (m:Int) w:=λ_=>rfl;have lF:(bs (l ++ List.replicate m 0))=bs l ++ bs (List.replicate m 0):=by simp [bs]
 have b:∀(old:Nat) (row:Option Nat),
     (w.drew.alloc (.cells ((bs l).toArray ++ (bs (List.replicate m 0)).toArray ++ Builtin.zeroCells (Value.int .u8 0).cells (grownCap w (n+m) old 5-(n+m))) 5)).ownsRow base 5 1
      (.slice (some (aD w.heap.size 0)) (n+m) (grownCap w (n+m) old 5)) (n+m) (bs (l ++ List.replicate m 0))/\
   w.grownBy (w.drew.alloc (.cells ((bs l).toArray ++ (bs (List.replicate m 0)).toArray ++ Builtin.zeroCells (Value.int .u8 0).cells (grownCap w (n+m) old 5-(n+m))) 5)) row:=by
  intro old row;have wK:=grownCap_ge w (n+m) old 5;have Ex:=grownCap_le_maxLen w (n+m) old 5 (by unfold maxLen;omega);refine⟨⟨by simp [bs,Oy], .inr ⟨w.heap.size,_,_,rfl,Df,heap_alloc_new w.drew _,wK,Ex,?_,?_⟩⟩,⟨rfl,rfl,rfl,by simp,λk t _=>heap_alloc_old w.drew _ t⟩⟩
  .rw [oP];simp [bs,Oy];omega
  .rw [lF];simp only [Array.toList_append,Nat.mul_one];exact List.take_left' (by simp [bs,Oy])
 rcases aA.2 with ⟨rfl,rfl⟩|⟨g,a,cur,rfl,vO,A,P0,Ex,mv,ad0⟩
 .have ws:=yH Oy;subst ws;have d:m≠0:=by omega
  have s:¬(281474976710656<Builtin.nextslicecap m 0):=by rw [nextslicecap_zero (by omega)];omega
  obtain⟨p,q⟩:=b 0 (Value.ownBlock (.slice none 0 0));simp only [Nat.zero_add] at p q⊢;refine⟨w.heap.size,_,_,?_,p,q⟩;have j:¬9223372036854775807<(m:Int):=by omega
  simp [Builtin.append_,o,sizeOf,typeInfo,zeroValue,r,gC,dE,em,yx,h0,f,d,s,j,Question.forced,run_firstCells_none,newRow,grownCap,oP]
 .have apy:cur.size=a:=by simpa using mv
  have y:cur.toList.take n=bs l:=by simpa using ad0
  by_cases d:m=0
  .subst d;have ai6:∀w,(asInt (iV 0)).run prog w= .ok 0 w:=λ_=>rfl;have ai7:IntKind.i64.wrap 0=0:=(by decide);have bj:(storeCells (aD g n) []).run prog w= .ok () w:=rfl;refine⟨g,a,w,?_,by simpa using aA,⟨rfl,rfl,rfl,bR _,λ_ _ _=>rfl⟩⟩;simp [Builtin.append_,ai6,sizeOf,typeInfo,r,dE,em,ai7,P0,Addr.add_lit,bj]
  by_cases si:n+m<=a
  .refine⟨g,a,w.setRow g (cur.toList.take n ++ bs (List.replicate m 0) ++ cur.toList.drop (n+m)).toArray,?_,⟨by simp [bs,Oy], .inr ⟨g,a,_,rfl,vO,setRow_heap w g cur _ 5 _ A,si,Ex,?_,?_⟩⟩,⟨rfl,rfl,rfl,by simp,λk _ t=>setRow_other w g k _ (λe=>t (by simp [Value.ownBlock,e]))⟩⟩
   .have bj:=run_storeCells_at prog g n 5 (bs (List.replicate m 0)) 0 cur w A (by simp [bs];omega) (by intro u C;obtain⟨x,_,rfl⟩:=List.mem_map.1 C;rfl);simp only [Nat.add_zero] at bj;have B6:(bs (List.replicate m 0)).length=m:=(by simp [bs]);rw [B6] at bj;have z:(Builtin.zeroCells (Value.int .u8 0).cells m).toList=bs (List.replicate m 0):=(by rw [oP]);simp [Builtin.append_,o,sizeOf,typeInfo,zeroValue,r,gC,dE,em,yx,h0,f,d,si,Addr.add_lit];rw [z,bj];simp [bs]
   .simp [bs];omega
   .rw [y,lF];exact List.take_left' (by simp [bs,Oy])
  .have Jg:a<n+m:=(by omega);have s:¬(281474976710656<Builtin.nextslicecap (n+m) a):=(by have:=growslice_fits (need:=n+m) (old:=a) (bytes:=1) (by omega) (by omega);omega);obtain⟨p,q⟩:=b a (Value.ownBlock (.slice (some (aD g 0)) n a));refine⟨w.heap.size,_,_,?_,p,q⟩;have j:¬9223372036854775807<(n:Int)+(m:Int):=(by omega);simp [Builtin.append_,o,sizeOf,typeInfo,zeroValue,r,gC,dE,em,yx,h0,f,d,si,s,j,Question.forced,(run_firstCells_some (P:=prog) w.drew 1 n (aD g 0) n a (bs l) (by omega) (by simpa using (aA.cells (g:=g) rfl))),newRow,grownCap,oP]
def vQ:∀k m,bD (k+1) m=bD k m ++ [((m / 256 ^ k%256:Nat):Int)]
 |0,m=>by simp [bD]
 |k+1,m=>by
  rw [bD,vQ k (m / 256),bD];simp [Nat.div_div_eq_div_mul,Nat.pow_succ,Nat.mul_comm]
def oQ:∀k m,Bytes (bD k m)
 |0,_=>by intro x a;cases a
 |k+1,m=>by
  intro x a;rcases List.mem_cons.1 a with rfl|a
  .omega
  .exact oQ k _ x a
def vS (w:World) (B p:Nat) (l:List Int):Prop:=
 B<=p/\B<=w.heap.size/\∃v,w.heap[p]? =some (.cells #[v] 140 (0,0))/\w.ownsRow B 5 1 v l.length (bs l)/\v.ownBlock≠some p
def vS.put {B:Nat} {a:List Int} (i:B<=p) (b:B<=w.heap.size) (f:w.heap[p]? =some (.cells #[v] 140 (0,0))) (l:v.ownBlock≠some p) (bq:∀k,v.ownBlock=some k->B<=k)
    (aR:w.grownBy w1 v.ownBlock) (aA:w1.ownsRow B 5 1 (.slice (some (aD g 0)) a.length c) a.length (bs a)):
  w1.cell? (aD p 0)=some v/\w1.frozen? (aD p 0)=false/\vS (w1.setCell ⟨p,0,none⟩ (.slice (some ⟨g,0,none⟩) a.length c)) B p a/\Below B w (w1.setCell ⟨p,0,none⟩ (.slice (some ⟨g,0,none⟩) a.length c)):=by
 have pk:=(aR.block p ((lY.1 f).1) (λe=>l e.symm)).trans f;have d:g≠p:=by
  obtain⟨o,c',n,_,m,_⟩:=ay.fg aA (by simp);cases n;exact m.ne pk (by decide)
 refine⟨aj pk rfl,ae pk 0,⟨i,?_,_,heap_setCell_same _ _ _ _ _ _ pk,?_,?_⟩,?_⟩
 .simp [World.setCell];exact k9 b aR.size
 .exact aA.kept (mT w1 ⟨p,0,none⟩ _) (.inr (by simpa [Value.ownBlock] using d))
 .simpa [Value.ownBlock] using d
 .exact((bi _ w).grown aR b (λk e=>bq k e)).trans ((aa.setCell (F:=λj=>j=p) (p:=⟨p,0,none⟩) w1 rfl _).below (λj q=>by omega) (k9 b aR.size))
def mO (p B:Nat) (l:List Int) (m a:Nat) (w:World) (h:vS w B p l) (P:l.length+a<=100000) (F:m<=9223372036854775807):
  Calls prog 100 #[pQ p,iV (m:Int),iV (a:Int)] w λe w'=>e= .returned (.tuple #[])/\vS w' B p (l ++ bD a m)/\Below B w w':=by
 obtain⟨N,K,gC,dE,em⟩:=info_parts gq;have H:=h;clear h;go_in;go_wp2;go_loopw [1,7] (λr i wr=>∃k:Nat,k<=a/\i=iV k/\r=iV ((m / 256 ^ k:Nat):Int)/\vS wr B p (l ++ bD k m)/\Below B w wr) (λ_ i _=>a-(intOf i).toNat);case atStart=>exact⟨0,dL _,rfl,by simp,by simpa [bD] using H,bi _ _⟩
 case round=>
  obtain⟨k,O,rfl,rfl,it,ey⟩:=hrel;by_cases bq:k<a
  .have cC:(k:Int)<(a:Int):=(by omega);obtain⟨G,M,v,j,aA,A⟩:=it;have cU:=aM j;have b:(l ++ bD k m).length=l.length+k:=(by simp [aK]);rw [b] at aA;have x:m / 256 ^ (k+1)=m / 256 ^ k / 256:=(by rw [Nat.div_div_eq_div_mul,Nat.pow_succ]);have y:=vQ k m;generalize I:m / 256 ^ k=Q at*;obtain⟨bw,d,s,t,PM,Mp⟩:=jH aA j ey A x y;clear aA j ey A I x y;go_wp2_with (at_builtin;refine wpList_append_own _ rfl _ _ 36 rfl B 5 N (.int .u8 0) 1 1 underlying36 K gC dE em rfl (by decide) _ _ _ rfl (bw.alloc _) (aD wr.heap.size 0) 1 1 [.int .u8 ((Q:Int)%256)] rfl rfl ?n1 ?n2 ?n3 ?n4 ?n5 ?_);case n1=>exact cell_one_new _ _ _
   case n2=>intro u C;simp at C;subst C;rfl
   case n3=>unfold maxLen;omega
   case n4=>omega
   case n5=>simp;omega
   intro T w1 cN lr jI;obtain⟨g,c,rfl,J,L,B6⟩:=ay.fg cN jI;have z:List.map (Value.int .u8) l ++ (List.map (Value.int .u8) (bD k m) ++ [.int .u8 ((Q:Int)%256)])=bs (l ++ bD (k+1) m):=by
    rw [Mp];simp [bs]
   have f:l.length+k+1=(l ++ bD (k+1) m).length:=(by simp [aK];omega);rw [z,f] at cN;have n:B<=(wr.alloc (.cells #[.int .u8 ((Q:Int)%256)] 5)).heap.size:=(by simp;omega);have pF:=(lY.1 d).1;obtain⟨R,S,o,q⟩:=vS.put G n ((Below.heap_alloc _ _ _ pF).trans d) t (λk e=>(bw.lt k e).1) lr cN;rw [<-f] at o q;have E:=(aH o (((s.alloc M _).trans q)));clear cN lr jI L J z f o q bw d s t Mp;go_wp2;go_roundw;case rel=>exact⟨k+1,by omega,by go_num,by rw [PM];simp,E⟩
   case measure=>simp [intOf];omega
  .have cC:¬(k:Int)<(a:Int):=(by omega);have pr:k=a:=(by omega);subst pr;have D:=(aH it ey);clear it ey;go_wp2
   go_end0
   exact⟨rfl,D⟩
def P5 (s:ByteArray):List Int:=s.data.toList.map (λb=>(b.toNat:Int))
def Wy (s:ByteArray):(P5 s).length=s.size:=by simp [P5]
def Oz (s:ByteArray):Lib.strCells s=bs (P5 s):=by simp [Lib.strCells,bs,P5]
def OA (p B:Nat) (l:List Int) (s:ByteArray) (w:World) (h:vS w B p l) (D:0<s.size) (C:l.length+s.size<=100000):
  Calls prog 99 #[pQ p, .string s] w λe w'=>e= .returned (.tuple #[])/\vS w' B p (l ++ P5 s)/\Below B w w':=by
 obtain⟨z,x,gC,dE,em⟩:=info_parts gq;obtain⟨t,q,v,b,aA,n⟩:=h;obtain⟨cU,bw,j,i⟩:=cP (aM b) aA b n;clear aA b n;go_in;go_wp2_with (at_builtin;refine Lib.wpList_append_own_string _ rfl _ _ 36 9 rfl B 5 z underlying36 underlying9 x gC dE em _ _ _ rfl bw s rfl ?n3 ?n4 ?n5 ?_);case n3=>unfold maxLen;omega
 case n4=>omega
 case n5=>exact q
 intro A w1 cN lr jI;have o:A≠ .slice none 0 0:=by rintro rfl;rcases cN.2 with ⟨_,h⟩|⟨_,_,_,h,_⟩;omega;cases h
 obtain⟨g,c,rfl,u,y,B6⟩:=ay.fg cN o;rw [Oz] at cN;have m:bs l ++ bs (P5 s)=bs (l ++ P5 s):=by simp [bs]
 have a:l.length+s.size=(l ++ P5 s).length:=by simp [Wy]
 rw [m,a] at cN;obtain⟨E,F,d,f⟩:=vS.put t q j i (λk e=>(bw.lt k e).1) lr cN;rw [<-a] at d f;have r:=(aH d f);clear cN lr jI y u m a d f bw j i o B6;go_wp2
 go_end0
 exact⟨rfl,r⟩
def KX {b:Array Oper} {o:Oper} {a:Act} {K:Act->World->Prop} {Q:Exit->Act->World->Prop} {E:Prop}
    (e:o.guard=none) (s x:Operand) (mn:o.op=Op.call {callee:=Callee.builtin Builtin.append,args:= #[s,x],argTypes:= #[36,3]})
    (base:Nat) (v:Value) (n:Nat) (l:List Int) (m:Nat) (i:a.eval s=v) (k:a.eval x=iV (m:Int)) (aA:w.ownsRow base 5 1 v n (bs l)) (f:n+m<=1000000) (Df:base<=w.heap.size) (vB:0<n+m)
    (d:∀g c w',w'.ownsRow base 5 1 (.slice (some (aD g 0)) (n+m) c) (n+m) (bs (l ++ List.replicate m 0))->w.grownBy w' v.ownBlock->K (a.put o.dst (.slice (some (aD g 0)) (n+m) c)) w'):
  if Region.wanted o (yielded b a.tmps)=true then Oper.wp prog o a w K Q else E:=by
 have j:Region.wanted o (yielded b a.tmps)=true:=by simp [Region.wanted,e]
 rw [aG j];obtain⟨g,c,w',bI,p,q⟩:=EE w base o.type v n l m aA f Df vB;unfold Oper.wp;simp [execOp,mn,resolve,invoke,builtin,i,k,bI,Result.andThen];exact d g c w' p q
def KY (p B:Nat) (l:List Int) (m:Nat) (w:World) (h:vS w B p l) (ws:0<l.length) (A:l.length+m<=100000):
  Calls prog 101 #[pQ p,iV ((l.length+m:Nat):Int)] w λe w'=>e= .returned (.tuple #[])/\vS w' B p (l ++ List.replicate m 0)/\Below B w w':=by
 obtain⟨s,o,v,n,aA,x⟩:=h;obtain⟨g,c,y,u,C,_⟩:=ay.fg aA (by rintro rfl;rcases aA.2 with ⟨_,h⟩|⟨_,_,_,h,_⟩;omega;cases h);subst y;have cU:=aM n;have kw:w.drew.ownsRow B 5 1 (.slice (some (aD g 0)) l.length c) l.length (bs l):=aA;have ad1:((l.length+m:Nat):Int)-(l.length:Int)=(m:Int):=by omega
 have ai8:∀{f d:Nat} {a:World},a.ownsRow B 5 1 (.slice (some (aD f 0)) (l.length+m) d) (l.length+m) (bs (l ++ List.replicate m 0))->w.drew.grownBy a (Value.ownBlock (.slice (some (aD g 0)) l.length c))->
   a.cell? (aD p 0)=some (.slice (some (aD g 0)) l.length c)/\a.frozen? (aD p 0)=false/\Yh (vS (a.setCell ⟨p,0,none⟩ (.slice (some ⟨f,0,none⟩) (l.length+m) d)) B p (l ++ List.replicate m 0)/\Below B w (a.setCell ⟨p,0,none⟩ (.slice (some ⟨f,0,none⟩) (l.length+m) d))):=by
  intro f d a fP j9;have j:l.length+m=(l ++ List.replicate m (0:Int)).length:=by simp
  rw [j] at fP;obtain⟨q,r,i,b⟩:=vS.put (w:=w.drew) s o n x (λk e=>(aA.lt k e).1) j9 fP;rw [<-j] at i b;exact⟨q,r,i,⟨b.os,b.tape,b.output,b.size,b.block⟩⟩
 have z:IntKind.i64.wrap (m:Int)=(m:Int):=by rw [IntKind.wrap_i64];omega
 generalize t:l.length+m=N at*;go_in;go_wp2
 go_region_law
  (first
   |(refine KX (by rfl) _ _ (by rfl) B (.slice (some (aD g 0)) l.length c) l.length l m (by rfl) (by rfl) (yh kw).out (by omega) o (by omega) ?_;intro f d a fP j9;obtain⟨q,r,i⟩:=ai8 (t▸fP) j9))
 all_goals
  go_end0
  exact⟨rfl,i.out⟩
def vT (s l n:Int):Prop:=(18<=l/\l<=256)/\(4<=n/\n<=1024)/\n%4=0/\(l+n / 4+6<=s/\s<=2048)
def yy (s l n:Int) (v:Value) (x:Int):Prop:=
   (vT s l n/\v= .agg #[iV l,iV (3+l),iV (s-(3+l)),iV n,iV (2+n / 4)]/\x=0)\/(¬vT s l n/\v= .agg #[iV 0,iV 0,iV 0,iV 0,iV 0]/\x=22)
def co (w:World) (a b:Obj):bW w ((w.alloc a).alloc b):=Below.alloc (Below.alloc (bi _ _) (bR _) _) (by simp) _
def ro (s l n:Int) (w:World) (c:18<=l) (d:l<=256) (f:4<=n) (g:n<=1024) (a:n%4=0) (s1:l+n / 4+6<=s) (s2:s<=2048):
  Calls prog 98 #[.agg #[iV s,iV l,iV n]] w λe w'=>e= .returned (.tuple #[.agg #[iV l,iV (3+l),iV (s-(3+l)),iV n,iV (2+n / 4)],iV 0])/\bW w w':=by
 have b:n.tmod 4=n%4:=yI (by omega);have hd:n.tdiv 4=n / 4:=Int.tdiv_eq_ediv_of_nonneg (by omega);have s3:3+l+(2+n / 4)+1<=s:=by omega
 go_in;go_wp2;refine bodyPost_ret (v:= .tuple #[.agg #[iV l,iV (3+l),iV (s-(3+l)),iV n,iV (2+n / 4)],iV 0]) (by simp [results,results98,go_sem]) rfl ⟨rfl,co w _ _⟩
def OB (s l n:Int) (w:World) (h:¬(18<=l/\l<=256)):
  Calls prog 98 #[.agg #[iV s,iV l,iV n]] w λe w'=>e= .returned (.tuple #[.agg #[iV 0,iV 0,iV 0,iV 0,iV 0],iV 22])/\bW w w':=by
 by_cases a:18<=l
 .have b:¬l<=256:=by omega
  go_in;go_wp2;exact bodyPost_ret (v:= .tuple #[.agg #[iV 0,iV 0,iV 0,iV 0,iV 0],iV 22]) (by simp [results,results98,go_sem]) rfl ⟨rfl,co w _ _⟩
 .have c:l<18:=by omega
  go_in;go_wp2;exact bodyPost_ret (v:= .tuple #[.agg #[iV 0,iV 0,iV 0,iV 0,iV 0],iV 22]) (by simp [results,results98,go_sem]) rfl ⟨rfl,co w _ _⟩
def OC (s l n:Int) (w:World) (d:18<=l) (f:l<=256) (h:¬(4<=n/\n<=1024)):
  Calls prog 98 #[.agg #[iV s,iV l,iV n]] w λe w'=>e= .returned (.tuple #[.agg #[iV 0,iV 0,iV 0,iV 0,iV 0],iV 22])/\bW w w':=by
 by_cases a:4<=n
 .have b:¬n<=1024:=by omega
  go_in;go_wp2;exact bodyPost_ret (v:= .tuple #[.agg #[iV 0,iV 0,iV 0,iV 0,iV 0],iV 22]) (by simp [results,results98,go_sem]) rfl ⟨rfl,co w _ _⟩
 .have c:n<4:=by omega
  go_in;go_wp2;exact bodyPost_ret (v:= .tuple #[.agg #[iV 0,iV 0,iV 0,iV 0,iV 0],iV 22]) (by simp [results,results98,go_sem]) rfl ⟨rfl,co w _ _⟩
def OD (s l n:Int) (w:World) (c:18<=l) (d:l<=256) (f:4<=n) (g:n<=1024) (h:¬n%4=0):
  Calls prog 98 #[.agg #[iV s,iV l,iV n]] w λe w'=>e= .returned (.tuple #[.agg #[iV 0,iV 0,iV 0,iV 0,iV 0],iV 22])/\bW w w':=by
 have b:n.tmod 4=n%4:=yI (by omega);have a:(n%4 != 0)=true:=by rw [gg];exact h
 go_in;go_wp2;exact bodyPost_ret (v:= .tuple #[.agg #[iV 0,iV 0,iV 0,iV 0,iV 0],iV 22]) (by simp [results,results98,go_sem]) rfl ⟨rfl,co w _ _⟩
def OE (s l n:Int) (w:World) (g:18<=l) (i:l<=256) (j:4<=n) (k:n<=1024) (c:n%4=0) (h:¬(l+n / 4+6<=s/\s<=2048)):
  Calls prog 98 #[.agg #[iV s,iV l,iV n]] w λe w'=>e= .returned (.tuple #[.agg #[iV 0,iV 0,iV 0,iV 0,iV 0],iV 22])/\bW w w':=by
 have f:n.tmod 4=n%4:=yI (by omega);have hd:n.tdiv 4=n / 4:=Int.tdiv_eq_ediv_of_nonneg (by omega);by_cases b:3+l+(2+n / 4)+1<=s
 .have a:¬s<=2048:=by omega
  go_in;go_wp2;exact bodyPost_ret (v:= .tuple #[.agg #[iV 0,iV 0,iV 0,iV 0,iV 0],iV 22]) (by simp [results,results98,go_sem]) rfl ⟨rfl,co w _ _⟩
 .have d:s<3+l+(2+n / 4)+1:=by omega
  by_cases a:2048<s
  .omega
  .clear h;go_in;go_wp2;exact bodyPost_ret (v:= .tuple #[.agg #[iV 0,iV 0,iV 0,iV 0,iV 0],iV 22]) (by simp [results,results98,go_sem]) rfl ⟨rfl,co w _ _⟩
def G9 (s l n:Int) (w:World):
  Calls prog 98 #[.agg #[iV s,iV l,iV n]] w λe w'=>∃v x,e= .returned (.tuple #[v,iV x])/\yy s l n v x/\bW w w':=by
 have b:¬vT s l n->∀(e:Ending) (w':World),(e= .returned (.tuple #[.agg #[iV 0,iV 0,iV 0,iV 0,iV 0],iV 22])/\bW w w')->∃v x,e= .returned (.tuple #[v,iV x])/\yy s l n v x/\bW w w':=
  λi e w' h=>⟨_,_,h.1, .inr ⟨i,rfl,rfl⟩,h.2⟩
 by_cases a:18<=l/\l<=256
 .by_cases c:4<=n/\n<=1024
  .by_cases d:n%4=0
   .by_cases f:l+n / 4+6<=s/\s<=2048
    .exact(ro s l n w a.1 a.2 c.1 c.2 d f.1 f.2).mono (λe w' h=>⟨_,_,h.1, .inl ⟨⟨a,c,d,f⟩,rfl,rfl⟩,h.2⟩)
    .exact(OE s l n w a.1 a.2 c.1 c.2 d f).mono (b (λg=>f g.2.2.2))
   .exact(OD s l n w a.1 a.2 c.1 c.2 d).mono (b (λg=>d g.2.2.1))
  .exact(OC s l n w a.1 a.2 c).mono (b (λg=>c g.2.1))
 .exact(OB s l n w a).mono (b (λg=>a g.1))
def vS.kZ {B:Nat} (h:vS w B p l) (a:bW w w'):vS w' B p l:=by
 obtain⟨c,f,v,b,aA,e⟩:=h;exact⟨c,k9 f a.size,v,(a.block p ((lY.1 b).1)).trans b,aA.kept (row:=none) ⟨a.os,a.tape,a.output,a.size,λk d _=>a.block k d⟩ (by cases g:v.ownBlock <;> simp),e⟩
def vS.new (w:World):vS (w.alloc (.cells #[.slice none 0 0] 140)) w.heap.size w.heap.size []:=
   ⟨bR _,by simp,_,heap_alloc_new w _,World.ownsRow_nil _ _ _ _,by simp [Value.ownBlock]⟩
def vS.row {B:Nat} (h:vS w B p l) (h0:0<l.length):∃g c,w.cell? (aD p 0)=some (.slice (some (aD g 0)) l.length c)/\B<=g/\ay w 5 g c (bs l):=by
 obtain⟨f,j,v,b,aA,i⟩:=h;obtain⟨g,c,e,a,d,_⟩:=ay.fg aA (by rintro rfl;rcases aA.2 with ⟨_,h⟩|⟨_,_,_,h,_⟩;omega;cases h);subst e;exact⟨g,c,aj b rfl,a,d⟩
def eZ (l:List Int):List Int:=l ++ bD 4 (sumOf l)
def oR (l:List Int):(eZ l).length=l.length+4:=by simp [eZ,aK]
def Ha (p B:Nat) (l:List Int) (w:World) (h:vS w B p l) (h0:0<l.length) (m:l.length+4<=100000) (d:Bytes l):
  Calls prog 102 #[pQ p] w λe w'=>∃g c,e= .returned (.slice (some (aD g 0)) (l.length+4) c)/\B<=g/\ay w' 5 g c (bs (eZ l))/\Below B w w':=by
 obtain⟨g,c,cU,q,n⟩:=h.row h0;have o:=h.2.1;have Gg:=yn (some (aD g 0)) l.length c l w d (by omega) n.src;have r:=nB d;have k:=(show eZ l=l ++ bD 4 (sumOf l) from rfl);generalize sumOf l=S at*;go_in;go_wp2_with fail;refine bJ Gg λw1 ar=>?_;have fE:Calls prog 100 #[pQ p,iV (S:Int),iV 4] w1 λe w'=>e= .returned (.tuple #[])/\vS w' B p (l ++ bD 4 S)/\Below B w1 w':=mO p B l S 4 w1 (h.kZ ar) m (by omega);have cQ:=ar.mono o;go_wp2_with fail;refine fQ fE λf vk bd=>?_;obtain⟨a,b,aan,gh,fB⟩:=vk.row (by simp [aK]);have j:(l ++ bD 4 S).length=l.length+4:=by simp [aK]
 rw [j] at aan;have i:(B<=a/\ay f 5 a b (bs (eZ l))/\Below B w f):=⟨gh,by rw [k];exact fB,cQ.trans bd⟩;go_wp2;go_ret;exact⟨a,b,rfl,i⟩
def Ym:ByteArray:=⟨#[118,101,108,108,117,109,0,1]⟩
def gA:List Int:= [118,101,108,108,117,109,0,1]
def Sv:P5 Ym=gA:=by decide+kernel
def bO (s l n:Nat):List Int:=gA ++ bD 4 s ++ bD 4 l ++ bD 4 n ++ List.replicate 488 0
def dG (s l n:Nat):(bO s l n).length=508:=by simp only [bO,gA,ee,aK,List.length_replicate,List.length_cons,List.length_nil]
def ic (s l n:Nat):Bytes (bO s l n):=by
 intro x a;simp only [bO,List.mem_append] at a;rcases a with (((h|h)|h)|h)|h
 .simp [gA] at h;omega
 .exact oQ _ _ x h
 .exact oQ _ _ x h
 .exact oQ _ _ x h
 .have:=List.eq_of_mem_replicate h;omega
def Made (w w':World) (v:Value) (l:List Int):Prop:=∃g c,v= .slice (some (aD g 0)) l.length c/\w.heap.size<=g/\ay w' 5 g c (bs l)/\bW w w'
def Hf (s l n:Nat) (w:World) (j:vT s l n):
  Calls prog 46 #[.agg #[iV (s:Int),iV (l:Int),iV (n:Int)]] w λe w'=>∃v,e= .returned (.tuple #[v,iV 0])/\Made w w' v (eZ (bO s l n)):=by
 obtain⟨⟨r,t⟩,⟨u,x⟩,p,s1,s2⟩:=j;go_in;go_wp2_with fail;refine((λw=>ro s l n w r t u x p s1 s2) _).mono ?_;rintro e w1 ⟨rfl,ar⟩;have bN:=((bi _ w).alloc (bR _) _).trans (ar.mono (by simp));have k:w1.heap[w.heap.size]? =some (.cells #[.int .i64 (s:Int), .int .i64 (l:Int), .int .i64 (n:Int)] 39 (0,0)):=(ar.block _ (by simp)).trans (heap_alloc_new _ _);have Bt:=(lY.1 k).1;have zY:=λo=>by have:=vS.new (w1.alloc o);simpa using this
 have a:∀o,bW w ((w1.alloc o).alloc (.cells #[.slice none 0 0] 140))/\((w1.alloc o).alloc (.cells #[.slice none 0 0] 140)).heap[w.heap.size]? =some (.cells #[.int .i64 (s:Int), .int .i64 (l:Int), .int .i64 (n:Int)] 39 (0,0)):=λo=>
    ⟨(bN.alloc (by omega) _).alloc (by simp;omega) _,(Below.heap_alloc _ _ _ (by simp;omega)).trans ((Below.heap_alloc _ _ _ Bt).trans k)⟩
 have bq:w.heap.size<w1.heap.size+1:=by omega
 go_wp2_with fail;refine((λo=>OA (w1.heap.size+1) (w1.heap.size+1) [] Ym _ (zY o) (by decide) (by decide)) _).mono ?_;rintro e d ⟨rfl,vk,bd⟩;obtain⟨eV,qT⟩:bW w d/\d.heap[w.heap.size]? =some (.cells #[.int .i64 (s:Int), .int .i64 (l:Int), .int .i64 (n:Int)] 39 (0,0)):=⟨(a _).1.trans (bd.mono (by omega)),(bd.block _ bq).trans (a _).2⟩;rw [Sv,List.nil_append] at vk;have A:=aM qT;have lJ:Calls prog 100 #[.pointer (some ⟨w1.heap.size+1,0,none⟩),iV (s:Int),iV 4] d λe w'=>e= .returned (.tuple #[])/\vS w' (w1.heap.size+1) (w1.heap.size+1) (gA ++ bD 4 s)/\Below (w1.heap.size+1) d w':=mO _ _ _ s 4 d vk (by decide) (by omega);go_wp2_with fail;refine fQ lJ λf ai9 bz=>?_;obtain⟨jY,nc⟩:bW w f/\f.heap[w.heap.size]? =some (.cells #[.int .i64 (s:Int), .int .i64 (l:Int), .int .i64 (n:Int)] 39 (0,0)):=⟨eV.trans (bz.mono (by omega)),(bz.block _ bq).trans qT⟩;have C:=bG nc;have pY:Calls prog 100 #[.pointer (some ⟨w1.heap.size+1,0,none⟩),iV (l:Int),iV 4] f λe w'=>e= .returned (.tuple #[])/\vS w' (w1.heap.size+1) (w1.heap.size+1) (gA ++ bD 4 s ++ bD 4 l)/\Below (w1.heap.size+1) f w':=mO _ _ _ l 4 f ai9 (by rw [ee,aK];decide) (by omega);go_wp2_with fail;refine fQ pY λi El eJ=>?_;obtain⟨rK,Js⟩:bW w i/\i.heap[w.heap.size]? =some (.cells #[.int .i64 (s:Int), .int .i64 (l:Int), .int .i64 (n:Int)] 39 (0,0)):=⟨jY.trans (eJ.mono (by omega)),(eJ.block _ bq).trans nc⟩;have D:=bM Js;have Bz:Calls prog 100 #[.pointer (some ⟨w1.heap.size+1,0,none⟩),iV (n:Int),iV 4] i λe w'=>e= .returned (.tuple #[])/\vS w' (w1.heap.size+1) (w1.heap.size+1) (gA ++ bD 4 s ++ bD 4 l ++ bD 4 n)/\Below (w1.heap.size+1) i w':=mO _ _ _ n 4 i El (by rw [ee,ee,aK,aK];decide) (by omega);go_wp2_with fail;refine fQ Bz λw5 Wz fd=>?_;have b:(gA ++ bD 4 s ++ bD 4 l ++ bD 4 n).length=20:=by rw [ee,ee,ee,aK,aK,aK];rfl
 have UF:Calls prog 101 #[.pointer (some ⟨w1.heap.size+1,0,none⟩),iV 508] w5 λe w'=>e= .returned (.tuple #[])/\vS w' (w1.heap.size+1) (w1.heap.size+1) (bO s l n)/\Below (w1.heap.size+1) w5 w':=by
  have:=KY _ _ _ 488 w5 Wz (by rw [b];decide) (by rw [b];decide);rw [b] at this;exact this
 go_wp2_with fail;refine fQ UF λy ajb nL=>?_;have UY:=Ha _ _ _ y ajb (by rw [dG];decide) (by rw [dG];decide) (ic s l n);rw [dG] at UY;go_wp2_with fail;refine UY.mono ?_;rintro e z ⟨g,c,rfl,j,q,xI⟩;have m:(Made w z (.slice (some (aD g 0)) 512 c) (eZ (bO s l n))):=⟨g,c,by rw [oR,dG],by omega,q,((rK.trans (fd.mono (by omega))).trans (nL.mono (by omega))).trans (xI.mono (by omega))⟩;go_wp2;go_ret2;exact⟨_,rfl,m⟩
def EF (s l n:Int) (w:World) (b:¬vT s l n):
  Calls prog 46 #[.agg #[iV s,iV l,iV n]] w λe w'=>e= .returned (.tuple #[.slice none 0 0,iV 22])/\bW w w':=by
 have c:∀w,Calls prog 98 #[.agg #[iV s,iV l,iV n]] w λe w'=>e= .returned (.tuple #[.agg #[iV 0,iV 0,iV 0,iV 0,iV 0],iV 22])/\bW w w':=λw=>by
  refine(G9 s l n w).mono ?_;rintro e w' ⟨v,x,rfl,⟨h,_⟩|⟨_,rfl,rfl⟩,a⟩
  .exact absurd h b
  .exact⟨rfl,a⟩
 go_in;go_wp2_with fail;refine(c _).mono ?_;rintro e w1 ⟨rfl,ar⟩;have bN:=((bi _ w).alloc (bR _) _).trans (ar.mono (by simp));go_wp2;go_ret2;exact⟨rfl,(λo=>bN.alloc bN.size o) _⟩
section
abbrev gY (s l n:Nat):List Int:=eZ (bO s l n)
def mj (S:DS) (s:Nat):Int×DS:=eD S.take s 0 1
def nr (S:DS) (s:Nat):Int×DS:=eD (mj S s).2 s 1 (s-1)
def jW (S:DS) (s l:Nat):Int×DS:=cD (nr S s).2 s 1 (l:Int)
def ml (S:DS) (s l n:Nat):Int×DS:=(jW S s l).2.wr s 0 512 (gY s l n)
def lQ (S:DS) (s l n:Nat):Int×DS:=
 if (mj S s).1≠0 then mj S s else if (nr S s).1≠0 then nr S s else if (jW S s l).1≠0 then jW S s l else if (ml S s l n).1≠0 then ml S s l n else (ml S s l n).2.fl s
def Sw (a b c:Int):Decidable (vT a b c):=by unfold vT;exact inferInstance
def bZ (S:DS) (s:Nat) (a b c:Int):Int×DS:=
 if S.fuse=0 then (3,S) else haveI:=Sw a b c;if vT a b c/\a=(s:Int) then lQ S s b.toNat c.toNat else (22,S)
section
variable {w:World} {F:Nat->Prop} {p s cR:Nat} {S:DS}
def MS {a b c:Int} (h:vT a b c):∃x y z:Nat,a=(x:Int)/\b=(y:Int)/\c=(z:Int):=by
 obtain⟨⟨e,f⟩,⟨g,i⟩,d,s1,s2⟩:=h;exact⟨a.toNat,b.toNat,c.toNat,by omega,by omega,by omega⟩
def kx {S:DS} (h:S.fN) (s a n:Nat):(eD S s a n).2.fN:=by
 have b:=kv h s a (ms:=fe n) (λx c=>by
  unfold fe at c;obtain⟨i,_,rfl⟩:=List.mem_map.1 c;intro v d;rw [zs,List.mem_replicate] at d;omega)
 unfold eD;split
 .exact b
 .exact b.fl s
def EG (b:∀k,F k->k<w0.heap.size) (xY:aa F w0 w1) (hd:B.ax w2 (more (more F w0 w1) w1 w2) p s S' c) (a:aa (more F w0 w1) w1 w2):B.ax w2 (more F w0 w2) p s S' c/\aa F w0 w2:=
   ⟨hd.mono (vy xY.size a.size) (cK b (k9 xY.size a.size)),xY.trans a (λd h=>h.elim .inl (λh=> .inr h.1))⟩
def WA (b:∀k,F k->k<w0.heap.size) (xY:aa F w0 w1) (hd:B.ax w2 (more F w0 w1) p s S' c) (a:aa (more F w0 w1) w1 w2):B.ax w2 (more F w0 w2) p s S' c/\aa F w0 w2:=by
 have d:=a.size;exact⟨hd.mono (λk h=>h.elim .inl (λh=> .inr ⟨h.1,by omega⟩)) (cK b (k9 xY.size a.size)),xY.trans a (λk h=>h.elim .inl (λh=> .inr h.1))⟩
def uw (b:∀k,F k->k<w.heap.size) (xY:aa F w w0) (h:B.ax w1 (more F w0 w1) p s S' c/\aa F w0 w1) (a:c<=c'):B.ax w1 (more F w w1) p s S' c'/\aa F w w1:=by
 have d:=xY.size;have e:=h.2.size;exact⟨(h.1.mono (λk h=>h.elim .inl (λh=> .inr ⟨by omega,h.2⟩)) (cK b (by omega))).le a,xY.trans h.2 (λk h=> .inl h)⟩
def ux (S:DS) (s:Nat) (f n:Int) (d:n<=256):(cD S s f n).2.puts.length<=S.puts.length+400:=by
 have a:=sI S.take s f.toNat n.toNat;have b:S.take.puts.length=S.puts.length:=rfl;have c:=Ao (cO S.take s f.toNat n.toNat).2 s f.toNat 4294967296;unfold cD;split
 .show S.puts.length<=_;omega
 .split
  .omega
  .omega
def xm (h:B.ax w F p s S cR) (dO:S.fN) (a b c:Int) (aU:S.puts.length+6000<=4000000000000):
  Calls prog 17 #[pQ p, .agg #[iV a,iV b,iV c]] w λe w'=>e= .returned (iV (bZ S s a b c).1)/\B.ax w' (more F w w') p s (bZ S s a b c).2 (cR+2)/\aa F w w':=by
 obtain⟨wB,Wr⟩:=bP (w.alloc (.cells #[.int .i64 a, .int .i64 b, .int .i64 c] 39));have GX:bW w wB:=by rw [Wr];exact aJ _ _
 have hzB:wB.heap.size=w.heap.size+1:=by rw [Wr,World.size_alloc]
 have dH:wB.heap[w.heap.size]? =some (.cells #[.int .i64 a, .int .i64 b, .int .i64 c] 39 (0,0)):=by rw [Wr];exact heap_alloc_new _ _
 have iP:=h.later GX;have h1:=B.zz iP;have iM:=h.lt;obtain⟨R,d⟩:=bP (bZ S s a b c);rw [<-d];unfold bZ at d;subst Wr;go_in;go_wp2_with fail;refine bJ h1 λw1 bT=>?_;subst bT;by_cases J:S.fuse=0
 .rw [aG J] at d;have d1:(S.fuse == 0)=true:=by rw [beq_iff_eq];exact J
  rw [d1] at h1;go_wp2;go_ret;rw [d];exact⟨rfl,(iP.more (w:=w)).le (by omega),aa.ah F GX⟩
 .rw [aB J] at d;have d1:(S.fuse == 0)=false:=by rw [fy];exact J
  rw [d1] at h1;by_cases C:vT a b c
  .obtain⟨x,y,z,rfl,rfl,rfl⟩:=MS C;have I:=(λw=>Hf x y z w C);have mX:(gY x y z).length=512:=(by rw [gY,oR,dG]);obtain⟨c0,c1,c2,hgx,Kw⟩:=eQ (aM dH) (bG dH) (bM dH) C.2.2.2.2 iP.ok.hi;by_cases ks:x=s
   .have ks':=ks.symm;subst ks';rw [aG ⟨C,rfl⟩] at d;simp only [mx] at d;have G:=I (w.alloc (.cells #[.int .i64 (s:Int), .int .i64 (y:Int), .int .i64 (z:Int)] 39));go_wp2_with fail;refine G.mono ?_;rintro e l ⟨v,rfl,g,cg,rfl,hg,be,bd⟩;have em:=bd.size;have E:=aM ((bd.block _ (by omega)).trans dH);have VM:=((bd.block _ (by omega)).trans dH);have sG:=(iP.later bd);have aao:=(λ(wx:World) (hb:bW l wx)=>B.p8 (sG.later hb));have m:(B.ax l.drew (more F w l.drew) p s S (cR+2)/\aa F w l.drew):=⟨((iP.later (ai bd)).more (w:=w)).le (by omega),(aa.ah F GX).trans (aa.ah (λ_=>False) (ai bd)) (λ_ h=>h.elim)⟩;go_wp2;go_region_held3 (λw'=>w'.cell? (aD w.heap.size 0)=some (iV (s:Int))) (exact E)
     (first
      |(go_at_call 47;refine(aao _ (ai (bi _ _))).mono ?_;rintro e wy ⟨rfl,MM⟩;have Ev:=MM.symm;subst Ev;clear MM))
    have hWz:=(ai (bi l.heap.size l)).size;have K:=sG.later (ai (bi _ _));have MT:=(((ai (bi l.heap.size l)).block _ (by omega)).trans VM);have aap:=be.src;rw [mX] at aap;have Vf:g<l.heap.size:=aap.old _ rfl (by omega);have M:=(aap.later (ai (bi l.heap.size l)));generalize l.drew=W at*;have h3:=B.zZ K;have Yn:=C.1.2;have el:(17:Int)<=(s:Int):=(by obtain⟨⟨l1,l2⟩,⟨n1,n2⟩,h3,s1,s2⟩:=C;omega);have pk:(mj S s).2.puts.length<=S.puts.length+1:=mc S.take s 0 1;have vj:(nr S s).2.puts.length<=(mj S s).2.puts.length+(s-1):=mc (mj S s).2 s 1 (s-1);have Qm:(jW S s y).2.puts.length<=(nr S s).2.puts.length+400:=ux _ _ _ _ Yn;have Rz:(ml S s y z).2.puts.length<=(jW S s y).2.puts.length+1:=jk _ _ _ _ _;have dZ:((nr S s).2.fN):=kx (kx dO.take s 0 1) s 1 (s-1);have N:=(λ(f:World) (hd:B.ax f F p s S.take cR)=>show Calls prog 49 #[pQ p,iV 0,iV 1] f λe w'=>e= .returned (iV (mj S s).1)/\B.ax w' (more F f w') p s (mj S s).2 cR/\aa F f w' from Dc hd 0 1 (by omega) (by omega) (by show S.puts.length+_+1<=_;omega));have O:=(λ(f:World) (n:Nat->Prop) (hd:B.ax f n p s (mj S s).2 cR)=>show Calls prog 49 #[pQ p,iV 1,iV (s:Int)] f λe w'=>e= .returned (iV (nr S s).1)/\B.ax w' (more n f w') p s (nr S s).2 cR/\aa n f w' from Dc hd 1 s (by omega) (by omega) (by omega));have P:=(λ(f:World) (n:Nat->Prop) (hd:B.ax f n p s (nr S s).2 cR)=>show Calls prog 50 #[pQ p,iV 1,iV (y:Int)] f λe w'=>e= .returned (iV (jW S s y).1)/\B.ax w' (more n f w') p s (jW S s y).2 (cR+2)/\aa n f w' from B.KW hd dZ 1 (y:Int) (by omega));have Q:=(λ(f:World) (n:Nat->Prop) (hd:B.ax f n p s (jW S s y).2 (cR+2)) (hs:Src f (some (aD g 0)) 512 (gY s y z))=>show Calls prog 51 #[pQ p,iV 0, .slice (some (aD g 0)) 512 cg] f λe w'=>e= .returned (iV (ml S s y z).1)/\B.ax w' (more n f w') p s (ml S s y z).2 (cR+2)/\aa n f w' from B.Eu hd 0 (some (aD g 0)) 512 cg (gY s y z) hs (by omega));have T:=(λ(f:World) (n:Nat->Prop) (hd:B.ax f n p s (ml S s y z).2 (cR+2))=>B.vI hd (by omega));unfold lQ at d;generalize mj S s=U at*;generalize nr S s=X at*;generalize jW S s y=Y at*;generalize ml S s y z=Z at*;go_wp2_with fail;refine fQ h3 λf hd3 aZ=>?_;have lq:=aZ.size;have h4:=N f hd3;have H:∀j,w.heap.size<=j->¬F j:=λj hj hf=>by have:=iM _ hf;omega
    have WB:(∀k,F k->k<f.heap.size):=λk hf=>by have:=iM k hf;omega
    have lW:=m.2.trans aZ (λ_ h=> .inl h);have VO:=((aZ.block _ (by omega) (H _ (by omega))).trans MT);have L:=(M.pg aZ (λy hy _ e=>by
     cases hy;exact H g (by omega) e))
    go_wp2_with fail;refine fQ h4 λw4 hd q=>?_;have Jt:=(aH hd q);by_cases r:U.1≠0
    .rw [aG r] at d;have dY:(U.1 != 0)=true:=(by rw [gg];exact r);have m:=(uw (c':=cR+2) iM lW Jt (by omega));go_wp2;go_ret;rw [d];exact⟨rfl,m⟩
    .rw [aB r] at d;have dY1:(U.1 != 0)=false:=(by rw [Decidable.byContradiction r];rfl);have cS:=aj ((Jt.2.block _ (by omega) (H _ (by omega))).trans VO) (j:=0) rfl;have h5:=O _ _ Jt.1;go_wp2_with fail;refine fQ h5 λw5 hd q=>?_;have PZ:=(EG WB Jt.2 hd q);by_cases t:X.1≠0
     .rw [aG t] at d;have dY:(X.1 != 0)=true:=(by rw [gg];exact t);have m:=(uw (c':=cR+2) iM lW PZ (by omega));go_wp2;go_ret;rw [d];exact⟨rfl,m⟩
     .rw [aB t] at d;have dY2:(X.1 != 0)=false:=(by rw [Decidable.byContradiction t];rfl);have cL:=aj ((PZ.2.block _ (by omega) (H _ (by omega))).trans VO) (j:=1) rfl;have h6:=P _ _ PZ.1;go_wp2_with fail;refine fQ h6 λw6 hd q=>?_;have o:=(EG WB PZ.2 hd q);by_cases u:Y.1≠0
      .rw [aG u] at d;have dY:(Y.1 != 0)=true:=(by rw [gg];exact u);have m:=(uw (c':=cR+2) iM lW o (by omega));go_wp2;go_ret;rw [d];exact⟨rfl,m⟩
      .rw [aB u] at d;have dY3:(Y.1 != 0)=false:=(by rw [Decidable.byContradiction u];rfl);have h7:=Q _ _ o.1 (L.pg o.2 (λy hy _ e=>by
        cases hy;exact H g (by omega) e))
       go_wp2_with fail;refine fQ h7 λw7 hd q=>?_;have D:=(EG WB o.2 hd q);by_cases A:Z.1≠0
       .rw [aG A] at d;have dY:(Z.1 != 0)=true:=(by rw [gg];exact A);have m:=(uw (c':=cR+2) iM lW D (by omega));go_wp2;go_ret;rw [d];exact⟨rfl,m⟩
       .rw [aB A] at d;have dY4:(Z.1 != 0)=false:=(by rw [Decidable.byContradiction A];rfl);have h8:=T _ _ D.1;go_wp2_with fail;refine fQ h8 λw8 hd q=>?_;have m:=(uw (c':=cR+2) iM lW (WA WB D.2 hd q) (by omega));go_wp2;go_ret;rw [d];exact⟨rfl,m⟩
   .rw [aB (λh=>ks (by have:=h.2;omega))] at d;have dM:((x:Int) != (s:Int))=true:=(by rw [gg];omega);have G:=I (w.alloc (.cells #[.int .i64 (x:Int), .int .i64 (y:Int), .int .i64 (z:Int)] 39));go_wp2_with fail;refine G.mono ?_;rintro e l ⟨v,rfl,g,cg,rfl,hg,be,bd⟩;have em:=bd.size;have E:=aM ((bd.block _ (by omega)).trans dH);have VM:=((bd.block _ (by omega)).trans dH);have sG:=(iP.later bd);have aao:=(λ(wx:World) (hb:bW l wx)=>B.p8 (sG.later hb));have m:(B.ax l.drew (more F w l.drew) p s S (cR+2)/\aa F w l.drew):=⟨((iP.later (ai bd)).more (w:=w)).le (by omega),(aa.ah F GX).trans (aa.ah (λ_=>False) (ai bd)) (λ_ h=>h.elim)⟩;go_wp2;go_region_held3 (λw'=>w'.cell? (aD w.heap.size 0)=some (iV (x:Int))) (exact E)
     (first
      |(go_at_call 47;refine(aao _ (ai (bi _ _))).mono ?_;rintro e wy ⟨rfl,MM⟩;have Ev:=MM.symm;subst Ev;clear MM))
    go_wp2;go_ret;rw [d];exact⟨rfl,m⟩
  .have G:=λw=>EF a b c w C;rw [aB (λh=>C h.1)] at d;obtain⟨I,c0,c1,c2⟩:=cP G (aM dH) (bG dH) (bM dH);have G:=I (w.alloc (.cells #[.int .i64 a, .int .i64 b, .int .i64 c] 39));go_wp2_with fail;refine bJ G λl bd=>?_;have m:(B.ax l.drew (more F w l.drew) p s S (cR+2)/\aa F w l.drew):=⟨((iP.later (ai bd)).more (w:=w)).le (by omega),(aa.ah F GX).trans (aa.ah (λ_=>False) (ai bd)) (λ_ h=>h.elim)⟩;go_wp2;refine wp_region_held_drew (S:=(λ_=>True)) (by kernel_rfl) (trivial) (λMU=>?_);refine wpAnyH_take (i:=0) (oi:={dst:=some 18,op:=Op.move (Operand.tmp 6),type:=49,pos:= "store.go:35",after:= #[],guard:=none}) (v:=iV 22) rfl (by kernel_rfl) (by kernel_rfl) (by kernel_rfl) (λ_ _ _ h=>h) (Or.inl ⟨by rfl,?_⟩) (by assumption) ?_
   .intro w vU
    (try dsimp only at vU)
    go_simp
   try simp only [Act.put,jX,ld,lT]
   refine wpAnyH_take (i:=1) (oi:={dst:=some 19,op:=Op.binOp BinOp.neq 49 (Operand.tmp 18) (Operand.const (Value.int IntKind.i64 0)) 49,type:=4,pos:= "store.go:35",after:= #[{on:=0,ground:=Ground.data}],guard:=none}) (v:= .bool true) rfl (by kernel_rfl) (by kernel_rfl) (by kernel_rfl) (λ_ _ _ h=>h) (Or.inl ⟨by rfl,?_⟩) (by assumption) ?_
   .intro w vU
    (try dsimp only at vU)
    go_simp
   try simp only [Act.put,jX,ld,lT]
   refine wpAnyH_take (i:=2) (oi:={dst:=some 20,op:=Op.move (Operand.tmp 19),type:=4,pos:= "store.go:35",after:= #[{on:=1,ground:=Ground.data}],guard:=none}) (v:= .bool true) rfl (by kernel_rfl) (by kernel_rfl) (by kernel_rfl) (λ_ _ _ h=>h) (Or.inl ⟨by rfl,?_⟩) (by assumption) ?_
   .intro w vU
    (try dsimp only at vU)
    go_simp
   try simp only [Act.put,jX,ld,lT]
   refine wpAnyH_take (i:=3) (oi:={dst:=some 21,op:=Op.fieldAddr 39 (Operand.tmp 3) 0,type:=0,pos:= "store.go:35",after:= #[{on:=2,ground:=Ground.guard}],guard:=some (2,false)}) (v:=undef) rfl (by kernel_rfl) (by kernel_rfl) (by kernel_rfl) (λ_ _ _ h=>h) (Or.inr ⟨by rfl,rfl⟩) (by assumption) ?_;try simp only [Act.put,jX,ld,lT]
   refine wpAnyH_take (i:=4) (oi:={dst:=some 22,op:=Op.load 3 (Operand.tmp 21),type:=3,pos:= "store.go:35",after:= #[{on:=3,ground:=Ground.data},{on:=2,ground:=Ground.guard}],guard:=some (2,false)}) (v:=undef) rfl (by kernel_rfl) (by kernel_rfl) (by kernel_rfl) (λ_ _ _ h=>h) (Or.inr ⟨by rfl,rfl⟩) (by assumption) ?_;try simp only [Act.put,jX,ld,lT]
   refine wpAnyH_take (i:=5) (oi:={dst:=some 23,op:=Op.move (Operand.tmp 0),type:=28,pos:= "store.go:35",after:= #[{on:=2,ground:=Ground.guard}],guard:=some (2,false)}) (v:=undef) rfl (by kernel_rfl) (by kernel_rfl) (by kernel_rfl) (λ_ _ _ h=>h) (Or.inr ⟨by rfl,rfl⟩) (by assumption) ?_;try simp only [Act.put,jX,ld,lT]
   refine wpAnyH_take (i:=6) (oi:={dst:=some 24,op:=Op.call {callee:=Callee.value (Operand.func 47),args:= #[Operand.tmp 23],argTypes:= #[28]},type:=3,pos:= "store.go:35",after:= #[{on:=5,ground:=Ground.data},{on:=2,ground:=Ground.chain},{on:=2,ground:=Ground.guard}],guard:=some (2,false)}) (v:=undef) rfl (by kernel_rfl) (by kernel_rfl) (by kernel_rfl) (λ_ _ _ h=>h) (Or.inr ⟨by rfl,rfl⟩) (by assumption) ?_;try simp only [Act.put,jX,ld,lT]
   refine wpAnyH_take (i:=7) (oi:={dst:=some 25,op:=Op.binOp BinOp.neq 3 (Operand.tmp 22) (Operand.tmp 24) 3,type:=4,pos:= "store.go:35",after:= #[{on:=4,ground:=Ground.data},{on:=6,ground:=Ground.data},{on:=2,ground:=Ground.guard}],guard:=some (2,false)}) (v:=undef) rfl (by kernel_rfl) (by kernel_rfl) (by kernel_rfl) (λ_ _ _ h=>h) (Or.inr ⟨by rfl,rfl⟩) (by assumption) ?_;try simp only [Act.put,jX,ld,lT]
   refine wpAnyH_take (i:=8) (oi:={dst:=some 26,op:=Op.pick (Operand.tmp 20) (Operand.const (Value.bool true)) (Operand.tmp 25),type:=4,pos:= "store.go:35",after:= #[{on:=2,ground:=Ground.data},{on:=7,ground:=Ground.data}],guard:=none}) (v:= .bool true) rfl (by kernel_rfl) (by kernel_rfl) (by kernel_rfl) (λ_ _ _ h=>h) (Or.inl ⟨by rfl,?_⟩) (by assumption) ?_
   .intro w vU
    (try dsimp only at vU)
    go_simp
   try simp only [Act.put,jX,ld,lT]
   refine wpAnyH_done (by kernel_rfl) ?_ _;go_wp2;go_ret;rw [d];exact⟨rfl,m⟩
end
end
section
abbrev P6 (y:LY):Value:= .agg #[iV (y.log:Int),iV (y.home:Int),iV (y.blocks:Int),iV (y.nodes:Int),iV (y.data:Int)]
def Sx:(prog.info? 86).map (·.size)=some 5:=by kernel_rfl
def Hg (w:World) (y:LY):(w.alloc (.cells #[.int .i64 (y.log:Int), .int .i64 (y.home:Int), .int .i64 (y.blocks:Int), .int .i64 (y.nodes:Int), .int .i64 (y.data:Int)] 86)).rangeAt w.heap.size 0 [iV (y.log:Int),iV (y.home:Int),iV (y.blocks:Int),iV (y.nodes:Int),iV (y.data:Int)]:=by
 have b:=heap_alloc_new w (.cells #[.int .i64 (y.log:Int), .int .i64 (y.home:Int), .int .i64 (y.blocks:Int), .int .i64 (y.nodes:Int), .int .i64 (y.data:Int)] 86);intro j v a
 match j,a with
 |0,a=>cases a;exact aM b
 |1,a=>cases a;exact bG b
 |2,a=>cases a;exact bM b
 |3,a=>cases a;exact fU b
 |4,a=>cases a;exact gH b
 |j+5,a=>simp at a
section
variable {w:World} {F:Nat->Prop} {p q l m t n:Nat} {y:LY} {busy:Bool} {G:SG} {T:TG}
def KZ (h:nx w q p l m y busy):
  Calls prog 79 #[pQ q] w λe w'=>e= .returned (P6 y)/\bW w w':=by
 have h:=h.later (aJ w (.cells #[.int .i64 0, .int .i64 0, .int .i64 0, .int .i64 0, .int .i64 0] 86));obtain⟨a,b,c,d,f⟩:=eQ (bM h) (fU h) (gH h) (sv h) (xz h);go_in;go_wp2;refine bodyPost_ret (gz (P:=prog) rfl _ _ w.heap.size _ _ rfl (Hg w y) underlying86 rfl Sx) rfl ⟨rfl,aJ _ _⟩
def Hi (h:nx w q p l m G.y busy) (b:mL w F q l m t n G T):
  Calls prog 92 #[pQ t] w λe w'=>e= .returned (P6 G.y)/\bW w w':=by
 have a:=aJ w (.cells #[.int .i64 0, .int .i64 0, .int .i64 0, .int .i64 0, .int .i64 0] 86);have c:=(b.later a).c0;have h:=h.later a;obtain⟨d,f,g,i,j⟩:=eQ (bM h) (fU h) (gH h) (sv h) (xz h);go_in;go_wp2;refine bodyPost_ret (gz (P:=prog) rfl _ _ w.heap.size _ _ rfl (Hg w G.y) underlying86 rfl Sx) rfl ⟨rfl,aJ _ _⟩
end
end
section
def OF (d:CM.Ok ms) (b:Nat):∃R,ms=below ms b ++ R:=by
 induction ms with
 |nil=>exact⟨[],rfl⟩
 |cons q g f=>
  have c:=List.pairwise_cons.1 d;by_cases h:q.1<b
  .obtain⟨R,e⟩:=f c.2;exact⟨R,by rw [sP,aG h,List.cons_append,<-e]⟩
  .exact⟨q :: g,by rw [oO (λx a=>by rcases List.mem_cons.1 a with rfl|a;exact h;have:=c.1 x a;omega)];rfl⟩
def Hk {S:DS} {s b:Nat} (a:CM.Ok ms) (h:(aE S s h0 (below ms b)).1≠0):aE S s h0 ms=aE S s h0 (below ms b):=by
 obtain⟨R,e⟩:=OF a b
 conv=>lhs;rw [e]
 rw [fw,aG h]
def qE {S:DS} {s:Nat} {a:CM} (h:(aE S s h0 a).1=0) (q:Nat×List Int):aE S s h0 (a ++ [q])=(aE S s h0 a).2.wr s ((h0+q.1:Nat):Int) 512 q.2:=by
 rw [fw,aB (λe=>e h),jA];by_cases e:((aE S s h0 a).2.wr s ((h0+q.1:Nat):Int) 512 q.2).1≠0
 .rw [aG e]
 .rw [aB e];show ((0:Int),_)=_;rw [<-Decidable.not_not.1 e]
def Ht {S:DS} {s k:Nat} (a:k<s) (l:List Int):(S.wr s (k:Int) 512 l).1=0\/(S.wr s (k:Int) 512 l).1=3:=by
 unfold DS.wr;split
 .exact .inr rfl
 .rw [aB (by omega),aB (by omega)];exact .inl rfl
def eE {s h0:Nat}:∀{ms:CM} {S:DS},S.Ok s->(∀q∈ms,h0+q.1<s/\q.2.length=512)->((aE S s h0 ms).1=0\/(aE S s h0 ms).1=3)/\(aE S s h0 ms).2.life=S.life/\(aE S s h0 ms).2.Ok s/\((aE S s h0 ms).1≠0->(aE S s h0 ms).2.fuse=0)/\(∀j,(∀q∈ms,h0+q.1≠j)->(aE S s h0 ms).2.now j=S.now j)
 | [],S,hS,_=>⟨.inl rfl,rfl,hS,λh=>absurd rfl h,λ_ _=>rfl⟩
 |q :: qs,S,hS,hk=>by
  have a:=hk q List.mem_cons_self;rw [jA];by_cases e:(S.wr s ((h0+q.1:Nat):Int) 512 q.2).1≠0
  .rw [aG e];obtain⟨b,n⟩:=RC a.1 e;refine⟨Ht a.1 _,kE _ _ _ _ _,by rw [b];exact hS,λ_=>by rw [b];exact n,λj _=>by rw [b]⟩
  .rw [aB e];have d:=MF (Decidable.not_not.1 e);obtain⟨g,i,k,l,m⟩:=eE (ms:=qs) (um hS d a.1 a.2) (λx c=>hk x (List.mem_cons_of_mem _ c));refine⟨g,i.trans (kE _ _ _ _ _),k,l,λj f=>?_⟩;rw [m j (λx c=>f x (List.mem_cons_of_mem _ c)),jN d a.1,aB (λh=>f q List.mem_cons_self h.symm)]
def Dg {s h0 b:Nat} {c:List Int}:∀{ms:CM} {S:DS},S.Ok s->CM.Ok ms->(∀q∈ms,h0+q.1<s/\q.2.length=512)->(aE S s h0 ms).1=0->CM.get ms b=some c->(aE S s h0 ms).2.now (h0+b)=c
 | [],S,_,_,_,_,h=>by cases h
 |q :: qs,S,hS,ho,hk,PG,hg=>by
  have d:=hk q List.mem_cons_self;have j:=List.pairwise_cons.1 ho;rw [jA] at PG⊢;by_cases e:(S.wr s ((h0+q.1:Nat):Int) 512 q.2).1≠0
  .rw [aG e] at PG;exact absurd PG e
  .rw [aB e] at PG⊢;have i:=MF (Decidable.not_not.1 e);have a:=um hS i d.1 d.2;have aY:=λx f=>hk x (List.mem_cons_of_mem _ f);rw [CM.l9] at hg;by_cases g:q.1=b
   .rw [aG g] at hg;cases hg;rw [(eE a aY).2.2.2.2 _ (λx f=>by have:=j.1 x f;omega),jN i d.1,aG (by omega)]
   .rw [aB g] at hg;exact Dg a j.2 aY PG hg
def OG (c:CM.Ok ms) (h:∀q∈ms,q.1<n) (b:Nat):(below ms b).length<=n:=by
 have d:(below ms b).length<=ms.length:=List.length_filter_le _ _;rcases CM.length_le c h 0 (λ_ _=>dL _) with a|a
 .omega
 .rw [a];exact dL _
def mP (ps:List (Nat×List Int)):CM.Ok (CM.bU [] ps):=CM.rh rZ ps
def eW {ps:List (Nat×List Int)} (h:x∈CM.bU [] ps):x∈ps:=by
 have a:=CM.get_of_mem (mP ps) (k:=x.1) (c:=x.2) h;rw [ib] at a;exact Fp a
section
variable {w w':World} {F X:Nat->Prop} {r s k kl t hm:Nat} {S:DS} {y:LY} {v:Value} {ps:List (Nat×List Int)}
def Hu (xY:aa F w0 w1) (hd:aC w2 (more (more F w0 w1) w1 w2) r s S') (a:aa (more F w0 w1) w1 w2):aC w2 (more F w0 w2) r s S'/\aa F w0 w2:=by
 have gC:=xY.size;have b:=a.size;refine⟨hd.mono (λk a=>?_) (λk a=>?_),xY.trans a (λk a=>?_)⟩
 .rcases a with (a|a)|a
  .exact .inl a
  .exact .inr ⟨a.1,by omega⟩
  .exact .inr ⟨by omega,a.2⟩
 .rcases a with a|a
  .exact hd.lt k (.inl (.inl a))
  .exact a.2
 .rcases a with a|a
  .exact .inl a
  .exact .inr a.1
def uy (b:bW w0 w1) (hd:aC w2 (more F w1 w2) r s S') (a:aa F w1 w2):aC w2 (more F w0 w2) r s S'/\aa F w0 w2:=by
 have gC:=b.size;refine⟨hd.mono (λk a=>a.imp id (λh=>⟨by omega,h.2⟩)) (λk a=>?_),(aa.ah F b).trans a (λ_ h=> .inl h)⟩;rcases a with a|a
 .exact hd.lt k (.inl a)
 .exact a.2
def Av (hd:aC w F r s S) (h:PV w X v ps) (fO:∀g,X g->¬F g) (hs:y.home+y.blocks<=s) (po:∀x∈ps,x.1<y.blocks) (aU:S.puts.length+3000<=4000000000000) (Wp:ps.length<=4000000000000):
  Calls prog 124 #[pQ r,P6 y,v] w λe w'=>e= .returned (iV (aE S s y.home (CM.bU [] ps)).1)/\aC w' (more F w w') r s (aE S s y.home (CM.bU [] ps)).2/\aa F w w':=by
 obtain⟨a,c,rfl,-⟩:=h.form;obtain⟨W,E⟩:∃W,W=w.alloc (.cells #[.int .i64 (y.log:Int), .int .i64 (y.home:Int), .int .i64 (y.blocks:Int), .int .i64 (y.nodes:Int), .int .i64 (y.data:Int)] 86):=⟨_,rfl⟩;have D:bW w W:=by rw [E];exact(bi w.heap.size w).alloc (bR _) _
 have hg:W.heap[w.heap.size]? =some (.cells #[.int .i64 (y.log:Int), .int .i64 (y.home:Int), .int .i64 (y.blocks:Int), .int .i64 (y.nodes:Int), .int .i64 (y.data:Int)] 86 (0,0)):=by rw [E];exact heap_alloc_new _ _
 have hWs:W.heap.size=w.heap.size+1:=by rw [E];simp
 have dw:=hd.ok;have lG:=dw.hi;have bq:=hd.lt;have R:=mP ps;have EH:∀q∈CM.bU [] ps,y.home+q.1<s/\q.2.length=512:=λq G=>⟨by have:=po q (eW G);omega,(h.len q (eW G)).1⟩;have UZ:=λq G=>po q (eW G);have ad2:=ib ps;have t:ps.length=0->CM.bU [] ps= []:=λe=>by rw [List.length_eq_zero_iff.1 e];rfl
 generalize CM.bU [] ps=M at*;obtain⟨P,HP,HF,HK,n,p,HG,HZ,I,q22⟩:=wn (yh (hd.later D)) (yh (h.later D)) (yh (eE dw EH).1) (yh EH) (yh R) (yh UZ) (yh ad2) (yh t) (yh D) RM;clear hd h EH R UZ ad2 t D;go_in;go_wp2;rw [<-E];go_loopw [7] (λi wr=>∃b:Nat,b<=y.blocks/\i=iV (b:Int)/\(aE S s y.home (below M b)).1=0/\aC wr (more F W wr) r s (aE S s y.home (below M b)).2/\aa F W wr) (λi _=>y.blocks-(intOf i).toNat);case atStart=>exact⟨0,dL _,rfl,by rw [sS];rfl,by rw [sS];exact(P.o.mono (λ_ h=> .inl h) (λk u=>by rcases u with u|u;exact P.o.lt k u;exact u.2)),aa.refl _ _⟩
 case round=>
  obtain⟨b,hb,rfl,h0,kw,BD⟩:=hrel;have dH:=(BD.block w.heap.size (by omega) (λhF=>by have:=bq _ hF;omega)).trans hg;have b1:wr.cell? (aD w.heap.size 1)=some (iV (y.home:Int)):=bG dH;have b2:wr.cell? (aD w.heap.size 2)=some (iV (y.blocks:Int)):=bM dH;have A:=HP.o.aw BD fO;obtain⟨Ju,pF,lF,m,j,f,CB⟩:=nD (ri A b (by omega)) (eG S s y.home (below M b)) (OG n.o p.o b) (yh h0) (yh kw) (yh BD) (HG.o b);clear h0 kw BD A dH;by_cases q:b<y.blocks/\0<ps.length
  .have U:(b:Int)<(y.blocks:Int):=(by omega);have q2:(0:Int)<(ps.length:Int):=(by omega);obtain⟨Y,qp⟩:=q;cases T:jC ps b with
   |none=>
    rw [T] at Ju CB;go_wp2_with fail;refine Ju.mono ?_;rintro e w1 ⟨N,O⟩;subst O;rcases N with ⟨_,rfl⟩|⟨l',g,c',L,_⟩
    .clear Ju;go_wp2;go_roundw;case rel=>exact⟨b+1,by omega,by go_num,by rw [sQ n.o CB];exact m.o,by rw [sQ n.o CB];exact j.o,f.o⟩
     case measure=>simp [intOf];omega
    .cases L
   |some l=>
    rw [T] at Ju CB;have yx:∀(g c':Nat),ay wr 5 g c' (bs l)->l.length=512->_:=λg c' H hl=>iG j.o ((y.home:Int)+(b:Int)) (some (aD g 0)) 512 c' l (by have:=H.src;rwa [hl] at this) (by omega);have HW:=yh yx;have ad4:=(HK.o (b,l) (CM.get_mem CB)).2;clear yx;go_wp2_with fail;refine Ju.mono ?_;rintro e w1 ⟨N,O⟩;subst O;rcases N with ⟨h0,_⟩|⟨l',g,c',L,rfl,hX,H⟩
    .cases h0
    cases L;have dN:=HW.o g c' H ad4;have i7:=qE m.o (b,l);rw [<-sR n.o CB] at i7;have ut:((y.home+b:Nat):Int)=(y.home:Int)+(b:Int):=(by omega);rw [ut] at i7;rw [<-i7] at dN;clear Ju H i7;by_cases z:(aE S s y.home (below M (b+1))).1=0
    .have d:((aE S s y.home (below M (b+1))).1 != 0)=false:=(by rw [z];rfl);have K:=yh z;clear z;go_wp2_with fail;refine fQ dN λw2 cI aY=>?_;have C:=yh (Hu f.o cI aY);clear dN cI aY;go_wp2;go_roundw;case rel=>exact⟨b+1,by omega,by go_num,K.o,C.o⟩
     case measure=>simp [intOf];omega
    .have d:((aE S s y.home (below M (b+1))).1 != 0)=true:=(by rw [gg];exact z);have bj:=Hk n.o z;have J:=yh bj;have Q:=HF.o.resolve_left (by rw [bj];exact z);have Z:=yh Q;clear z bj Q;go_wp2_with fail;refine fQ dN λw2 cI aY=>?_;have C:=yh (Hu f.o cI aY);clear dN cI aY;go_wp2;go_ret;refine⟨by rw [Z.o];rfl,?_⟩;rw [J.o];exact uy I.o C.o.1 C.o.2
  .have bX:below M b=M:=by
    by_cases Y:b<y.blocks
    .have:=HZ.o (by omega);subst this;rfl
    .exact C0 (λx hx=>by have:=p.o x hx;omega)
   have jK:(aE S s y.home M).1=0/\aC wr (more F W wr) r s (aE S s y.home M).2:=(by rw [<-bX];exact⟨m.o,j.o⟩);have nf:=yh jK;clear jK Ju bX;by_cases Y:b<y.blocks
   .have U:(b:Int)<(y.blocks:Int):=(by omega);have q2:¬(0:Int)<(ps.length:Int):=(by omega);clear q;go_wp2;go_ret;exact⟨by rw [nf.o.1];rfl,uy I.o nf.o.2 f.o⟩
   .have U:¬(b:Int)<(y.blocks:Int):=(by omega);clear q;go_wp2;go_ret;exact⟨by rw [nf.o.1];rfl,uy I.o nf.o.2 f.o⟩
end
end
section
def rp (w w':World) (code:Int) (c:List Int) (e:Ending):Prop:=
 if code≠0 then e= .returned (.tuple #[.slice none 0 0,iV code])
 else∃g,e= .returned (.tuple #[.slice (some (aD g 0)) 512 512,iV 0])/\w.heap.size<=g/\ay w' 5 g 512 (bs c)
section
variable {w w':World} {F X:Nat->Prop} {r s k kl t hm:Nat} {S:DS} {G:SG} {T:TG} {pv nv tv:Value} {ps us:List (Nat×List Int)}
def iN.aaq (hd:aC w F r s S) (h:iN w F X r s S k kl G pv ps hm nv) {b:Nat} (d:b<G.y.blocks):(G.block S b).length=512:=by
 unfold SG.block;cases a:CM.get G.ov b with
 |none=>rw [Option.getD_none];exact bA hd.ok _ (by have:=h.hs;omega)
 |some c=>
  rw [Option.getD_some];rw [h.ov] at a;exact(h.pl.len _ (List.mem_of_mem_drop (eW (CM.get_mem a)))).1
def Aw (hd:aC w F r s S) (h:iN w F X r s S k kl G pv ps hm nv) (m:ou w X k t G T tv us) (b:Int) (aU:S.puts.length<=4000000000000) (Wp:ps.length<=4000000000000):
  Calls prog 83 #[pQ t,iV b] w λe w'=>rp w w' (T.refusal G S b) (T.j3 G S b.toNat) e/\bW w w':=by
 have f:=ku hd h m.tx;have hz:T.refusal G S b=0->G.L.dead S=false/\T.ended=false/\T.bad=0/\0<=b/\b<(G.y.blocks:Int):=iY;by_cases q:T.state G S=0
 .have d:(T.state G S != 0)=false:=by rw [q];rfl
  by_cases P:b<0
  .have j:T.refusal G S b=11:=(by unfold TG.refusal;rw [aB (λh=>h q),aG (.inl P)]);rw [j];generalize T.state G S=E at*;go_in;go_wp2_with fail;refine bJ f λw1 ar=>?_;have a:=ar;go_wp2;go_ret2;exact⟨rfl,a⟩
  .by_cases Q:(G.y.blocks:Int)<=b
   .have j:T.refusal G S b=11:=(by unfold TG.refusal;rw [aB (λh=>h q),aG (.inr Q)]);rw [j];have v:=m.tx;have u:=h.st;generalize T.state G S=E at*;go_in;go_wp2_with fail;refine bJ f λw1 ar=>?_;have M:=(v.later ar).c0;have N:=(u.later ar).c4;have a:=ar;go_wp2;go_ret2;exact⟨rfl,a⟩
   .have j:T.refusal G S b=0:=(by unfold TG.refusal;rw [aB (λh=>h q),aB (λh=>h.elim P Q)]);obtain⟨r1,r2,_,_,_⟩:=hz j;rw [j];obtain⟨b,rfl⟩:∃b':Nat,b=(b':Int):=⟨b.toNat,by omega⟩;rw [mx];have O:b<G.y.blocks:=(by omega);have ajg:T.j3 G S b=(jC us b).getD (G.block S b):=(by unfold TG.j3;rw [m.pu r2,ib]);rw [ajg];obtain⟨lF,J,ad5,v,u⟩:=eQ (iN.aaq hd h O) m.pl.len m.Ez m h;have p:=(λ(w1:World) (f:bW w w1)=>ri (m.pl.later f).pv b (by omega));have z:=(λ(w1:World) (f:bW w w1)=>Aj (hd.later f) (h.later f) r1 b O aU Wp);generalize T.state G S=E at*;have Jm:∀(i:World) (g c:Nat) (l:List Int),bW w i->ay i 5 g c (bs l)->l.length=512->Calls prog 97 #[.slice (some (aD g 0)) 512 c] i λe w'=>∃g,e= .returned (.slice (some (aD g 0)) 512 512)/\i.heap.size<=g/\ay w' 5 g 512 (bs l)/\bW i w':=λi g c l _ o H=>lX (some (aD g 0)) 512 c l i (by omega) (by have:=o.src;rwa [H] at this);have n:=Jm;have q22:=RM;cases D:jC us b with
    |some l=>
     have H:=(J (b,l) (Fp D)).1;rw [D] at p;go_in;go_wp2_with fail;refine bJ f λw1 ar=>?_;have rP:=v.tx.later ar;obtain⟨M,W,N,x,a⟩:=eQ rP.c0 rP.c1 ((u.st.later ar).c4) (p w1 ar) ar;go_wp2_with fail;refine x.mono ?_;rintro e i ⟨I,K⟩;subst K;rcases I with ⟨h0,_⟩|⟨l',g,c,A,rfl,hX,o⟩
     .cases h0
     cases A;have C:=n i g c l a o H;go_wp2_with fail;refine C.mono ?_;rintro e R ⟨Y,rfl,Fv,Bm,bz⟩;have Jv:=Bm;have fS:=bz;go_wp2;go_ret2;exact⟨⟨Y,rfl,by have:=a.size;omega,Jv⟩,a.trans (fS.mono a.size)⟩
    |none=>
     rw [D] at p;go_in;go_wp2_with fail;refine bJ f λw1 ar=>?_;have rP:=v.tx.later ar;obtain⟨M,W,N,x,hk,a⟩:=jH rP.c0 rP.c1 ((u.st.later ar).c4) (p w1 ar) (z w1 ar) ar;go_wp2_with fail;refine x.mono ?_;rintro e i ⟨I,K⟩;subst K;rcases I with ⟨_,rfl⟩|⟨l',g,c,A,_⟩
     .clear x;go_wp2_with fail;refine hk.mono ?_;rintro e R ⟨⟨g,c,rfl,hX,o⟩,bz⟩;have C:=n R g c _ (a.trans (bz.mono a.size)) o lF;have fS:=(a.trans (bz.mono a.size));go_wp2_with fail;refine C.mono ?_;rintro e w4 ⟨Z,rfl,GE,xn,eJ⟩;have VX:=xn;have jZ:=eJ;go_wp2;go_ret2;exact⟨⟨Z,rfl,by have:=fS.size;omega,VX⟩,fS.trans (jZ.mono fS.size)⟩
     .cases A
 .have d:(T.state G S != 0)=true:=by rw [gg];exact q
  have j:T.refusal G S b=T.state G S:=by unfold TG.refusal;rw [aG q]
  rw [j];have U:=q;generalize T.state G S=E at*;go_in;go_wp2_with fail;refine bJ f λw1 ar=>?_;have a:=ar;go_wp2;go_ret2;exact⟨by unfold rp;rw [aG U];rfl,a⟩
end
end
def Hv (l:List α) (a:i<l.length):l=l.take i ++ l[i] :: l.drop (i+1):=by rw [<-List.drop_eq_getElem_cons a,List.take_append_drop]
def Ft (a c:List (Nat×List Int)) (q:Nat×List Int) (j:Nat):jC (a ++ q :: c) j=((jC c j).or (if q.1=j then some q.2 else none)).or (jC a j):=by rw [mh,jC]
def XF {b:Nat} (a:i<us.length) (c:us[i].1=b) (f:(us.map (·.1)).Nodup) (j:Nat):jC (us.set i (b,d)) j=if j=b then some d else jC us j:=by
 have g:us.set i (b,d)=us.take i ++ (b,d) :: us.drop (i+1):=by rw [List.set_eq_take_append_cons_drop,aG a]
 have k:jC us j=((jC (us.drop (i+1)) j).or (if us[i].1=j then some us[i].2 else none)).or (jC (us.take i) j):=by
  have:=Ft (us.take i) (us.drop (i+1)) us[i] j;rwa [<-(Hv us a)] at this
 rw [g,Ft,k,c];by_cases q:j=b
 .subst q;have jd:jC (us.drop (i+1)) j=none:=uY (λx l e=>by
   obtain⟨n,iu,rfl⟩:=List.mem_iff_getElem.1 l;rw [List.getElem_drop] at e;rw [List.length_drop] at iu;rw [List.nodup_iff_pairwise_ne,List.pairwise_iff_getElem] at f;have:=f i (i+1+n) (by simpa using a) (by rw [jF];omega) (by omega);simp only [List.getElem_map] at this;exact this (c.trans e.symm))
  rw [aG rfl,jd,aG rfl];rfl
 .have m:¬b=j:=λh=>q h.symm;rw [aB q];simp only [aB m]
def Sy {b:Nat} (c:i<us.length) (a:us[i].1=b) (e:(us.map (·.1)).Nodup):CM.bU [] (us.set i (b,d))=CM.put (CM.bU [] us) b d:=by
 refine CM.ext (CM.rh rZ _) (CM.vD (CM.rh rZ _) _ _) (λj=>?_);rw [ib,XF c a e,CM.kF _ _ _ _ (CM.rh rZ _),ib]
def OH (us:List (Nat×List Int)) (b:Nat) (d:List Int):CM.bU [] (us ++ [(b,d)])=CM.put (CM.bU [] us) b d:=by
 rw [qt];rfl
def qF:∀{us:List (Nat×List Int)} {ms:CM},CM.Ok ms->(us.map (·.1)).Nodup->(∀x∈us,CM.get ms x.1=none)->(CM.bU ms us).length=ms.length+us.length
 | [],ms,_,_,_=>rfl
 |q :: qs,ms,ho,hn,hd=>by
  rw [List.map_cons,List.nodup_cons] at hn;show (CM.bU (CM.put ms q.1 q.2) qs).length=_;rw [qF (CM.vD ho _ _) hn.2 (λx a=>by
   rw [CM.kF _ _ _ _ ho,aB (λ(e:x.1=q.1)=>hn.1 (e▸List.mem_map_of_mem (f:=λx=>x.1) a))];exact hd x (List.mem_cons_of_mem _ a)),CM.sO ho,hd q List.mem_cons_self]
  simp;omega
def vV (a:(us.map (·.1)).Nodup):(CM.bU [] us).length=us.length:=by rw [qF rZ a (λ_ _=>rfl)];simp
def Sz {b:Nat} (g:i<us.length) (a:us[i].1=b):(us.set i (b,d)).map (·.1)=us.map (·.1):=by
 rw [List.map_set];apply List.ext_getElem
 .simp
 .intro n c f;rw [List.getElem_set];split
  .rename_i e;subst e;simp [a]
  .rfl
def xx {b:Nat} (d:i<us.length) (c:us[i].1=b):(jC us b).isSome=true:=by
 cases h:jC us b with
 |some _=>rfl
 |none=>
  exfalso;have a:jC us b=((jC (us.drop (i+1)) b).or (if us[i].1=b then some us[i].2 else none)).or (jC (us.take i) b):=by
   have:=Ft (us.take i) (us.drop (i+1)) us[i] b;rwa [<-Hv us d] at this
  rw [aG c,h] at a;cases e:jC (us.drop (i+1)) b <;> rw [e] at a <;> simp at a
def I7 {b:Nat} (h:∀j (a:j<us.length),us[j].1≠b):jC us b=none:=uY (λq c=>by
 obtain⟨j,a,rfl⟩:=List.mem_iff_getElem.1 c;exact h j a)
section
section
variable {w w' w1 w2:World} {F X:Nat->Prop} {r s k kl t hm:Nat} {S:DS} {G:SG} {T:TG} {v pv nv tv:Value} {ps us:List (Nat×List Int)} {xs:List Value}
def PL.push (h:PL w X v ps xs) {o:Obj} {b:Nat} (A:X g) (z:ay w 5 g c (bs l)) (y:l.length=512/\Bytes l)
    (aA:w2.ownsRow 0 167 2 (.slice (some (aD g2 0)) (ps.length+1) cJ) (ps.length+1) (xs ++ [iV (b:Int), .slice (some (aD g 0)) 512 c]))
    (aR:(w.alloc o).grownBy w2 v.ownBlock) (it:v.ownBlock=some g2\/g2=w.heap.size+1):
  PL w2 (more X w w2) (.slice (some (aD g2 0)) (ps.length+1) cJ) (ps ++ [(b,l)]) (xs ++ [iV (b:Int), .slice (some (aD g 0)) 512 c])/\aa (λj=>v.ownBlock=some j) w w2:=by
 have Zb:(w.alloc o).heap.size=w.heap.size+1:=by simp
 have jD:=aR.size;have d:=λj a k=>(aR.block j (by omega) k).trans (Below.heap_alloc _ _ _ a);have MH:∀j c m,ay w 5 j c m->ay w2 5 j c m:=λj c m a=>by
  have Bk:=a;obtain⟨cur,gN,_⟩:=Bk;exact a.agree (d j a.lt (λe=>dT h.own e.symm gN (by decide) rfl))
 have RL:=qw aA (g:=g2) rfl;have Jf:=h.own.1;refine⟨⟨by rw [ee];exact aA,λj a=>?_,λi x=>?_,λq f=>?_⟩,⟨aR.os,aR.tape,aR.output,by omega,λj a k=>d j a (λe=>k e.symm)⟩⟩
 .have e:j=g2:=by simpa [Value.ownBlock] using a.symm
  subst e;rcases it with n|n
  .exact .inl (h.row _ n)
  .exact .inr ⟨by omega,RL⟩
 .by_cases nF:i<ps.length
  .obtain⟨u,c',p,r,s,t⟩:=h.put i nF;refine⟨u,c',?_,?_, .inl s,?_⟩
   .rw [u9 (by omega),p,List.getElem_append_left nF]
   .rw [u9 (by omega),r]
   .rw [List.getElem_append_left nF];exact MH _ _ _ t
  .have Fw:i=ps.length:=(by simp at x;omega);subst Fw;refine⟨g,c,?_,?_, .inl A,?_⟩
   .rw [wm (by omega),show 2*ps.length-xs.length=0 by omega];simp
   .rw [wm (by omega),show 2*ps.length+1-xs.length=1 by omega];simp
   .simpa using MH _ _ _ z
 .rcases List.mem_append.1 f with f|f
  .exact h.len q f
  .rw [List.mem_singleton.1 f];exact y
def PL.store (h:PL w X v ps xs) {b:Nat} (I:i<ps.length) (D:ps[i].1=b) {o:Nat} (H:X g) (F:ay w 5 g c (bs l)) (E:l.length=512/\Bytes l) (G:v= .slice (some (aD gp 0)) n o):
  PL (w.setCell ⟨gp,i*2+1,none⟩ (.slice (some ⟨g,0,none⟩) 512 c)) X v (ps.set i (b,l)) (xs.set (2*i+1) (.slice (some (aD g 0)) 512 c)):=by
 subst G;obtain⟨_,⟨e,_⟩|⟨p,r,cur,e,x,aV,y,z,A,C⟩⟩:=h.own
 .cases e
 cases e;have MH:∀j f m,ay w 5 j f m->ay (w.setCell ⟨gp,i*2+1,none⟩ (.slice (some ⟨g,0,none⟩) 512 c)) 5 j f m:=λj f m a=>a.agree (Below.heap_setCell _ _ _ _ (a.ne aV (by decide)));refine⟨⟨by rw [List.length_set,List.length_set];exact h.own.1, .inr ⟨gp,o,cur.setIfInBounds (i*2+1) (.slice (some (aD g 0)) 512 c),by rw [List.length_set],x,heap_setCell_same _ _ _ _ _ _ aV,by rw [List.length_set];exact y,z,by rw [Array.size_setIfInBounds];exact A,?_⟩⟩,h.row,λj a=>?_,λq d=>?_⟩
 .rw [List.length_set,Array.toList_setIfInBounds,List.take_set,C,Nat.mul_comm i 2]
 .have Y0:j<ps.length:=by rw [List.length_set] at a;exact a
  by_cases e:j=i
  .subst e;refine⟨g,c,?_,?_,H,?_⟩
   .rw [su (by omega)];obtain⟨_,_,k,_⟩:=h.put j Y0;rw [k];simp [D]
   .rw [rR (by omega)]
   .simpa using MH _ _ _ F
  .obtain⟨p,c',k,s,t,u⟩:=h.put j Y0;refine⟨p,c',?_,?_,t,?_⟩
   .rw [su (by omega),k,List.getElem_set_ne (λh=>e h.symm)]
   .rw [su (by omega),s]
   .rw [List.getElem_set_ne (λh=>e h.symm)];exact MH _ _ _ u
 .rcases List.mem_or_eq_of_mem_set d with d|d
  .exact h.len q d
  .rw [d];exact E
end
end
def tf (w:World):Calls prog 186 #[.bool true] w λe w'=>e= .returned (.tuple #[])/\w'=w:=by
 go_in;go_wp2
 go_end0
 exact⟨rfl,rfl⟩
abbrev ng:List PanicEntry:= [{v:= .iface 49 (iV 6),recovered:=false}]
def EI (w:World):Calls prog 186 #[.bool false] w λe w'=>e= .panicked ng/\w'=w:=by
 go_in;go_wp2;exact⟨rfl,rfl,rfl⟩
def vW (w:World) (p b o n c k:Nat):Prop:=w.heap[p]? =some (.cells #[.slice (some ⟨b,o,none⟩) n c, .int .i64 (k:Int)] 224 (0,0))
def yz (p b o n c k m:Nat) (w:World) (h:vW w p b o n c k) (u:k+m<=n) (v:n<=c) (By:k<c) (t:n<=1000000) (oG:c<=9223372036854775807):
  Calls prog 223 #[pQ p,iV (m:Int)] w λe w'=>e= .returned (.slice (some ⟨b,o+k,none⟩) m (c-k))/\vW w' p b o n c (k+m)/\aa (λj=>j=p) w w':=by
 have q:=aM h;have r:=bG h;have s:=ae h 1;have apJ:(m:Int)<=(n:Int)-(k:Int):=by omega
 have bT:IntKind.i64.wrap ((n:Int)-(k:Int))=(n:Int)-(k:Int):=by rw [IntKind.wrap_i64];omega
 have d:(vW (w.setCell ⟨p,1,none⟩ (.int .i64 ((k:Int)+(m:Int)))) p b o n c (k+m)):=by
  show vW _ _ _ _ _ _ _;unfold vW;rw [(heap_setCell_same _ _ 1 _ _ (iV ((k:Int)+(m:Int))) h)];simp
 have a:=(aa.setCell (F:=λj=>j=p) (p:=⟨p,1,none⟩) w rfl (iV ((k:Int)+(m:Int))));go_in;go_wp2_with fail;go_quiet (first|(go_at_call 186;exact Calls.quiet_of_same (tf _)));go_wp2;have f:(0:Int)<=(k:Int):=by omega
 have g:(k:Int)<=(k:Int)+(m:Int):=by omega
 have i:(k:Int)+(m:Int)<=(c:Int):=by omega
 have l:¬c=k:=by omega
 go_quiet (fail);go_wp2;go_ret;exact⟨congrArg (λz=>Ending.returned (Value.slice (some ⟨b,o+k,none⟩) z (c-k))) (Nat.add_sub_cancel_left k m),d,⟨a.os,a.tape,a.output,a.size,a.block⟩⟩
def WC (i A X:Nat) (c:A<2 ^ i) (h:A+2 ^ i*X<18446744073709551616):
  bits .or .i64 (wrap64 (A:Int)) (wrap64 ((2 ^ i*X:Nat):Int))=wrap64 ((A+2 ^ i*X:Nat):Int):=by
 have q:∀z:Nat,z<18446744073709551616->(BitVec.ofInt 64 (wrap64 (z:Int))).toNat=z:=by
  intro z d;rw [BitVec.toNat_ofInt];unfold wrap64;omega
 have a:A<18446744073709551616:=by omega
 have b:2 ^ i*X<18446744073709551616:=by omega
 show IntKind.i64.wrap ((BitVec.ofInt 64 (wrap64 (A:Int)) |||BitVec.ofInt 64 (wrap64 ((2 ^ i*X:Nat):Int))).toNat:Int)=_;rw [BitVec.toNat_or,q A a,q _ b,Nat.or_comm,<-Nat.two_pow_add_eq_or_of_lt c X,Nat.add_comm,IntKind.wrap_i64];unfold wrap64;rfl
def B7 (a:k<l.length) (b:Bytes l):le (l.take (k+1))=le (l.take k)+2 ^ (8*k)*(l.getD k 0).toNat:=by
 rw [List.take_succ_eq_append_getElem a,vh];have:(l.take k).length=k:=by simp;omega
 rw [this];simp [le,List.getD,a]
def part (l:List Int) (k m:Nat):List Int:=(l.drop k).take m
def fI {m:Nat} (h:k+m<=l.length):(part l k m).length=m:=by simp [part];omega
def dU (h:Bytes l) (k m:Nat):Bytes (part l k m):=λx a=>h x (List.mem_of_mem_drop (List.mem_of_mem_take a))
def uz {m:Nat} (a:i<m):(part l k m).getD i 0=l.getD (k+i) 0:=by simp [part,List.getD,a]
structure Rd (w:World) (p b o c k:Nat) (l:List Int):Prop where
 rd:vW w p b o l.length c k
 ne:b≠p
 src:∀i,i<l.length->w.cell? ⟨b,o+i,none⟩=some (.int .u8 (l.getD i 0))
 bytes:Bytes l
 small:l.length<=1000000
 cap:l.length<=c
 OI:c<=9223372036854775807
 old:0<l.length->b<w.heap.size
def Rd.aw {b o e:Nat} (h:Rd w p b o c k l) (g:vW w' p b o l.length c e) (d:aa (λj=>j=p) w w'):Rd w' p b o c e l:=
   ⟨g,h.ne,λi f=>by
  exact(World.cell?_of_block (w:=w) (a:=⟨b,o+i,none⟩) (d.block b (h.old (by omega)) h.ne)).trans (h.src i f),h.bytes,h.small,h.cap,h.OI,λh0=>iL (h.old h0) d.size⟩
def Rd.kZ {b o:Nat} (h:Rd w p b o c k l) (a:bW w w'):Rd w' p b o c k l:=by
 exact⟨(a.block p ((lY.1 h.rd).1)).trans h.rd,h.ne,λi d=>cell_later a (h.src i d),h.bytes,h.small,h.cap,h.OI,λh0=>iL (h.old h0) a.size⟩
def oS (p b o c k m:Nat) (l:List Int) (w:World) (h:Rd w p b o c k l) (s:k+m<=l.length) (By:k<c) (A:m<=8):
  Calls prog 188 #[pQ p,iV (m:Int)] w λe w'=>e= .returned (iV (wrap64 ((le (part l k m):Nat):Int)))/\Rd w' p b o c (k+m) l/\aa (λj=>j=p) w w':=by
 have t:=yz p b o l.length c k m w h.rd s h.cap By h.small h.OI;have H:=yh h;clear h;go_in;go_wp2_with fail;refine fQ t λw1 mt fh=>?_;have g:=H.o.aw mt fh;have H1:=yh (aH g fh);have pF:=fI s;clear t mt fh g;go_wp2;go_loopw [5,12] (λr i wr=>∃j:Nat,j<=m/\i=iV j/\wr=w1/\r=iV (wrap64 ((le ((part l k m).take j):Nat):Int))) (λ_ i _=>m-(intOf i).toNat);case atStart=>exact⟨0,dL _,rfl,rfl,by simp [le,wrap64]⟩
 case round=>
  obtain⟨j,z,rfl,rfl,rfl⟩:=hrel;by_cases bq:j<m
  .have cC:(j:Int)<(m:Int):=(by omega);have q:=H1.o.1.src (k+j) (by omega);rw [<-uz (l:=l) (k:=k) bq,<-Nat.add_assoc] at q;obtain⟨x,v,jL⟩:∃x:Nat,(part l k m).getD j 0=(x:Int)/\x<256:=by
    have:=dU H1.o.1.bytes k m (part l k m)[j] (List.getElem_mem (by omega));refine⟨((part l k m).getD j 0).toNat,?_,?_⟩<;> simp [List.getD,pF,bq] <;> omega
   have iB:=B7 (l:=part l k m) (k:=j) (by omega) (dU H1.o.1.bytes k m);have n:le ((part l k m).take j)<2 ^ (8*j):=by
    have:=lE (l:=(part l k m).take j) (λy f=>dU H1.o.1.bytes k m y (List.mem_of_mem_take f));have e:((part l k m).take j).length=j:=(by simp;omega);rwa [e] at this
   have d:le ((part l k m).take (j+1))<18446744073709551616:=by
    have:=lE (l:=(part l k m).take (j+1)) (λy f=>dU H1.o.1.bytes k m y (List.mem_of_mem_take f));have e:((part l k m).take (j+1)).length=j+1:=(by simp;omega);rw [e] at this;exact iL this (by have:=Nat.pow_le_pow_right (show 0<2 by omega) (show 8*(j+1)<=64 by omega);simpa using this)
   rw [v] at q iB;simp only [mx] at iB;rw [iB] at d;have Nr:=WC (8*j) _ x n d;rw [<-iB] at Nr;have Zr:((x:Int)*2 ^ (8*j))=((2 ^ (8*j)*x:Nat):Int):=(by rw [Int.natCast_mul,Int.natCast_pow,Int.mul_comm];rfl);have ut:((2 ^ (8*j)*x:Nat):Int)=2 ^ (8*j)*(x:Int):=(by rw [Int.natCast_mul,Int.natCast_pow];rfl);rw [ut] at Nr;have a:=yh Nr;clear n d iB Nr ut;go_wp2;go_roundw;case rel=>exact⟨j+1,by omega,by go_num,trivial,by rw [a.o]⟩
   case measure=>simp [intOf];omega
  .have cC:¬(j:Int)<(m:Int):=(by omega);have u:(part l k m).take j=part l k m:=nC (by omega);rw [u] at*;go_wp2;go_ret;exact⟨rfl,H1.o⟩
def uA (l:List Int):Prop:=∀x∈l,x=0
def SA (l:List Int) (e:Ending):Prop:=∃x,e= .returned (.bool x)/\(x=true↔uA l)
def Dh (b o n c:Nat) (l:List Int) (w:World) (t:l.length=n) (v:n<=1000000) (m:∀i,i<n->w.cell? ⟨b,o+i,none⟩=some (.int .u8 (l.getD i 0))):
  Calls prog 224 #[.slice (some (aD b o)) n c] w λe w'=>SA l e/\w'=w:=by
 have q:=yh m;clear m;go_in;go_wp2;go_loopw [7] (λi wr=>∃k:Nat,k<=n/\i=iV k/\wr=w/\∀j,j<k->l.getD j 0=0) (λi _=>n-(intOf i).toNat);case atStart=>exact⟨0,dL _,rfl,rfl,λj f=>by omega⟩
 case round=>
  obtain⟨k,u,rfl,rfl,p⟩:=hrel;have g:=yh p;clear p;by_cases bq:k<n
  .have cC:(k:Int)<(n:Int):=(by omega);have s:=q.o k bq;by_cases a:l.getD k 0=0
   .have r:=yh a;rw [a] at s;clear a;go_wp2;go_roundw;case rel=>
     refine⟨k+1,by omega,by go_num,trivial,λj f=>?_⟩;by_cases e:j=k
     .rw [e];exact r.o
     .exact g.o j (by omega)
    case measure=>simp [intOf];omega
   .have UC:(l.getD k 0 != 0)=true:=(by rw [gg];exact a);have d:Yh (¬uA l):=λh=>absurd (h (l.getD k 0) (by simp [List.getD,t,bq])) a;generalize l.getD k 0=X at*;clear a;go_wp2;go_ret;exact⟨⟨_,rfl,⟨(λh=>by cases h),λh=>absurd h d.o⟩⟩,rfl⟩
  .have cC:¬(k:Int)<(n:Int):=(by omega);have d:Yh (uA l):=λx a=>by
    obtain⟨j,f,e⟩:=List.mem_iff_getElem.1 a;have:=g.o j (by omega);rw [<-e];simpa [List.getD,f] using this
   go_wp2;go_ret;exact⟨⟨_,rfl,⟨λ_=>d.o,λ_=>rfl⟩⟩,rfl⟩
def Rd.part {b o:Nat} (h:Rd w p b o c k l) {q m:Nat} (d:q+m<=l.length):∀i,i<m->w.cell? ⟨b,o+q+i,none⟩=some (.int .u8 ((part l q m).getD i 0)):=λi a=>by
 rw [uz a,Nat.add_assoc];exact h.src (q+i) (by omega)
def Di (p b o c k m:Nat) (l:List Int) (w:World) (h:Rd w p b o c k l) (g:k+m<=l.length) (By:k<c) (q:uA (part l k m)):
  Calls prog 189 #[pQ p,iV ((k+m:Nat):Int)] w λe w'=>e= .returned (.tuple #[])/\Rd w' p b o c (k+m) l/\aa (λj=>j=p) w w':=by
 have r:=bG h.rd;have i:=yz p b o l.length c k m w h.rd g h.cap By h.small h.OI;have s:((k+m:Nat):Int)-(k:Int)=(m:Int):=by omega
 have Cs:(m:Int)<=1000000:=by have:=h.small;omega
 generalize t:k+m=N at*;go_in;go_wp2_with fail;refine fQ i λw1 mt fh=>?_;have d:=h.aw mt fh;have f:=Dh b (o+k) m (c-k) (part l k m) w1 (fI (by omega)) (by omega) (d.part (by omega));have H1:=(aH d fh);go_wp2_with fail;refine f.mono ?_;rintro e u ⟨⟨x,rfl,n⟩,a⟩;have eR:=a.symm;subst eR;have UC:=n.2 q;subst UC;go_wp2_with fail;refine(tf _).mono ?_;rintro e v ⟨rfl,a⟩;have eR:=a.symm;subst eR;go_wp2
 go_end0
 exact⟨rfl,H1⟩
def OJ (p b o c k m:Nat) (l:List Int) (w:World) (h:Rd w p b o c k l) (g:k+m<=l.length) (By:k<c) (q:¬uA (part l k m)):
  Calls prog 189 #[pQ p,iV ((k+m:Nat):Int)] w λe w'=>e= .panicked ng/\aa (λj=>j=p) w w':=by
 have r:=bG h.rd;have i:=yz p b o l.length c k m w h.rd g h.cap By h.small h.OI;have s:((k+m:Nat):Int)-(k:Int)=(m:Int):=by omega
 have Cs:(m:Int)<=1000000:=by have:=h.small;omega
 generalize t:k+m=N at*;go_in;go_wp2_with fail;refine fQ i λw1 mt fh=>?_;have d:=h.aw mt fh;have f:=Dh b (o+k) m (c-k) (part l k m) w1 (fI (by omega)) (by omega) (d.part (by omega));go_wp2_with fail;refine f.mono ?_;rintro e u ⟨⟨x,rfl,n⟩,a⟩;have eR:=a.symm;subst eR;have UC:x=false:=by
  cases x with
  |false=>rfl
  |true=>exact absurd (n.1 rfl) q
 subst UC;go_wp2_with fail;refine(EI _).mono ?_;rintro e v ⟨rfl,a⟩;have eR:=a.symm;subst eR;go_wp2;exact⟨rfl,rfl,(aH d fh).2⟩
def oT (a b:Nat) (e:a<4294967296) (f:b<4294967296):bits .xor .i64 (a:Int) (b:Int)=((a ^^^ b:Nat):Int):=by
 have g:a ^^^ b<2 ^ 32:=Nat.xor_lt_two_pow (by omega) (by omega);have c:(BitVec.ofInt 64 (a:Int)).toNat=a:=by rw [BitVec.ofInt_natCast,BitVec.toNat_ofNat];exact Nat.mod_eq_of_lt (by omega)
 have d:(BitVec.ofInt 64 (b:Int)).toNat=b:=by rw [BitVec.ofInt_natCast,BitVec.toNat_ofNat];exact Nat.mod_eq_of_lt (by omega)
 show IntKind.i64.wrap ((BitVec.ofInt 64 (a:Int) ^^^ BitVec.ofInt 64 (b:Int)).toNat:Int)=_;rw [BitVec.toNat_xor,c,d,IntKind.wrap_i64];omega
def OK (b o n c:Nat) (l:List Int) (w:World) (j:Bytes l) (F:l.length=n) (H:n<=140737488355328) (q:∀i,i<n->w.cell? ⟨b,o+i,none⟩=some (.int .u8 (l.getD i 0))):
  Calls prog 120 #[.slice (some (aD b o)) n c] w λe w'=>e= .returned (iV ((sumOf l:Nat):Int))/\bW w w':=by
 have t:=yh q;clear q;unfold sumOf;go_in;go_wp2;go_loopw [3,4] (λr i wr=>∃k:Nat,k<=n/\i=iV k/\wr=w/\r=iV ((nw 4294967295 (l.take k):Nat):Int)) (λ_ i _=>n-(intOf i).toNat);case atStart=>exact⟨0,dL _,rfl,rfl,by simp [tH]⟩
 case round=>
  obtain⟨k,E,rfl,rfl,rfl⟩:=hrel;by_cases bq:k<n
  .have cC:(k:Int)<(n:Int):=(by omega);have z:=t.o k bq;have ox:k<l.length:=(by omega);obtain⟨x,p,jL⟩:∃x:Nat,l.getD k 0=(x:Int)/\x<256:=by
    have:=j l[k] (List.getElem_mem ox);refine⟨(l.getD k 0).toNat,?_,?_⟩<;> simp [List.getD,ox] <;> omega
   have pO:Bytes (l.take k):=λy C=>j y (List.mem_of_mem_take C);have f:nw 4294967295 (l.take k)<4294967296:=sq (by omega) pO;have i7:nw 4294967295 (l.take (k+1))=lg 8 (nw 4294967295 (l.take k) ^^^ x):=by
    rw [List.take_succ_eq_append_getElem ox,yG _ _ pO];congr 2;have:l.getD k 0=l[k]:=(by simp [List.getD,ox]);rw [<-this,p];simp
   have g:=yh i7;rw [p] at z;generalize v:nw 4294967295 (l.take k)=R at*;have A:R ^^^ x<4294967296:=by
    have:R ^^^ x<2 ^ 32:=Nat.xor_lt_two_pow (by omega) (by omega);omega
   have u:bits .xor .i64 (R:Int) (x:Int)=((R ^^^ x:Nat):Int):=oT _ _ f (by omega);clear i7 v pO f p;go_wp2;go_loopw [3,5] (λr i wx=>∃m:Nat,m<=8/\i=iV m/\wx=wr/\r=iV ((lg m (R ^^^ x):Nat):Int)) (λ_ i _=>8-(intOf i).toNat);case atStart=>exact⟨0,dL _,rfl,rfl,rfl⟩
   case round=>
    obtain⟨m,G,rfl,rfl,rfl⟩:=hrel;have f:=vg m A;by_cases ym:m<8
    .have BQ:(m:Int)<8:=(by omega);have bz:cb (lg m (R ^^^ x))=lg (m+1) (R ^^^ x):=(by rw [tG];rfl);generalize lg m (R ^^^ x)=S at*;have d:=yh bz;clear bz;have I:(S:Int).tmod 2=((S%2:Nat):Int):=(by rw [yI (by omega)];omega);have J:(S:Int).tdiv 2=((S / 2:Nat):Int):=(by rw [Int.tdiv_eq_ediv_of_nonneg (by omega)];omega);rcases Nat.mod_two_eq_zero_or_one S with a|a
     .have D:(((S%2:Nat):Int) == 1)=false:=(by rw [a];rfl);have Zo:Yh (cb S=S / 2):=(by show cb S=S / 2;simp [cb,a]);clear a;go_wp2;go_roundw;case rel=>exact⟨m+1,by omega,by go_num,trivial,by rw [<-d.o,Zo.o];first|(rw [Int.natCast_ediv];rfl)|rw [s.out]⟩
      case measure=>simp [intOf];omega
     .have D:(((S%2:Nat):Int) == 1)=true:=(by rw [a];rfl);have s:Yh (bits .xor .i64 ((S:Int) / 2) 2197175160=((S / 2 ^^^ 2197175160:Nat):Int)):=oT (S / 2) 2197175160 (by omega) (by omega);have Zo:Yh (cb S=S / 2 ^^^ 2197175160):=(by show cb S=S / 2 ^^^ 2197175160;simp [cb,a]);clear a;go_wp2;go_roundw;case rel=>exact⟨m+1,by omega,by go_num,trivial,by rw [<-d.o,Zo.o];first|(rw [Int.natCast_ediv];rfl)|rw [s.out]⟩
      case measure=>simp [intOf];omega
    .have BQ:¬(m:Int)<8:=(by omega);have XO:m=8:=(by omega);subst XO;go_wp2;go_roundw;case rel=>exact⟨k+1,by omega,by go_num,trivial,by rw [g.o]⟩
     case measure=>simp [intOf];omega
  .have cC:¬(k:Int)<(n:Int):=(by omega);have UA:l.take k=l:=nC (by omega);have f:nw 4294967295 l<4294967296:=sq (by omega) j;have u:bits .xor .i64 ((nw 4294967295 l:Nat):Int) 4294967295=((nw 4294967295 l ^^^ 4294967295:Nat):Int):=oT (nw 4294967295 l) 4294967295 f (by omega);rw [UA] at*;go_wp2;go_ret;exact⟨rfl,(yh (bi wr.heap.size wr)).out⟩
def K0 (a:Option Addr) (c:Nat) (w:World):
  Calls prog 120 #[.slice a 0 c] w λe w'=>e= .returned (iV ((sumOf []:Nat):Int))/\bW w w':=by
 have d:bits .xor .i64 4294967295 4294967295=0:=by decide
 have b:sumOf []=0:=by decide
 rw [b];go_in;go_wp2;refine wp_loop_rounds 1 ?_;rw [rounds_succ];go_wp2;go_ret;exact⟨rfl,bi w.heap.size w⟩
def OL (a:Option Addr) (n c:Nat) (l:List Int) (w:World) (f:Bytes l) (g:n<=140737488355328) (d:Src w a n l):
  Calls prog 120 #[.slice a n c] w λe w'=>e= .returned (iV ((sumOf l:Nat):Int))/\bW w w':=by
 by_cases h0:n=0
 .subst h0;have:l= []:=yH d.1;subst this;exact K0 a c w
 .cases a with
  |none=>exact absurd (d.2.1 rfl) h0
  |some x=>
   obtain⟨b,o,rfl,k⟩:=d.spot (by omega);exact OK b o n c l w f d.1 g k
def Hw (x:Int) (h:w.heap[g]? =some (.cells (bs l).toArray 5 (0,0))):
    (w.setCell ⟨g,i,none⟩ (.int .u8 x)).heap[g]? =some (.cells (bs (l.set i x)).toArray 5 (0,0)):=by
 rw [heap_setCell_same _ _ _ _ _ _ h];congr 2;apply Array.ext';simp [bs,List.map_set]
def Full (w:World) (g:Nat) (l:List Int):Prop:=w.heap[g]? =some (.cells (bs l).toArray 5 (0,0))
def rq (g N c:Nat) (A X C:List Int) (a n v:Nat) (w:World) (h:Full w g (A ++ (X ++ C))) (t:A.length=a) (G:X.length=n) (b:(A ++ (X ++ C)).length=N) (E:N<=1000000) (x:v<=9223372036854775807):
  Calls prog 119 #[.slice (some (aD g 0)) N c,iV (a:Int),iV (n:Int),iV (v:Int)] w λe w'=>e= .returned (.tuple #[])/\Full w' g (A ++ (bD n v ++ C))/\aa (λj=>j=g) w w':=by
 have q:a+n<=N:=by simp at b;omega
 go_in;go_wp2;go_loopw [3,8] (λr i wr=>∃k:Nat,k<=n/\i=iV k/\r=iV ((v / 256 ^ k:Nat):Int)/\Full wr g (A ++ ((bD k v ++ X.drop k) ++ C))/\aa (λj=>j=g) w wr) (λ_ i _=>n-(intOf i).toNat);case atStart=>exact⟨0,dL _,rfl,by simp,by simpa [bD] using h,aa.refl _ _⟩
 case round=>
  obtain⟨k,D,rfl,rfl,aV,BD⟩:=hrel;by_cases bq:k<n
  .have cC:(k:Int)<(n:Int):=(by omega);have s:v / 256 ^ k<=9223372036854775807:=k9 (Nat.div_le_self _ _) x;have m:v / 256 ^ (k+1)=v / 256 ^ k / 256:=(by rw [Nat.div_div_eq_div_mul,Nat.pow_succ]);have d:(A ++ ((bD k v ++ X.drop k) ++ C)).length=N:=(by rw [<-b];simp [aK];omega);obtain⟨u0,y⟩:∃u,wr.cell? ⟨g,a+k,none⟩=some u:=⟨_,aj aV (j:=a+k) (u:=(bs (A ++ ((bD k v ++ X.drop k) ++ C)))[a+k]'(by simp only [bs,jF];omega)) (by simp [bs])⟩;have z:=ae aV (a+k);have pp:=Hw (i:=a+k) ((v / 256 ^ k%256:Nat):Int) aV;have o:(A ++ ((bD k v ++ X.drop k) ++ C)).set (a+k) ((v / 256 ^ k%256:Nat):Int)=A ++ ((bD (k+1) v ++ X.drop (k+1)) ++ C):=by
    rw [List.set_append_right _ _ (by omega),t,show a+k-a=k by omega,rG,List.set_append_right _ _ (by rw [aK];omega),aK,Nat.sub_self,vQ];rw [List.drop_eq_getElem_cons (show k<X.length by omega),List.cons_append,ld];simp
   rw [o] at pp;have l:=(BD.trans (aa.setCell (F:=λj=>j=g) (p:=⟨g,a+k,none⟩) wr rfl (.int .u8 ((v / 256 ^ k%256:Nat):Int))) (λ_ h=> .inl h));generalize v / 256 ^ k=Q at*;have H:(Q:Int).tmod 256=((Q%256:Nat):Int):=(by rw [yI (by omega)];omega);have I:(Q:Int).tdiv 256=((Q / 256:Nat):Int):=(by rw [Int.tdiv_eq_ediv_of_nonneg (by omega)];omega);go_wp2;go_roundw;case rel=>exact⟨k+1,by omega,by go_num,by rw [m];simp,pp,l⟩
   case measure=>simp [intOf];omega
  .have cC:¬(k:Int)<(n:Int):=(by omega);have UA:k=n:=(by omega);have f:(Full wr g (A ++ (bD n v ++ C))/\aa (λj=>j=g) w wr):=by
    refine⟨?_,BD⟩;rw [UA,List.drop_of_length_le (by omega),List.append_nil] at aV;exact aV
   go_wp2
   go_end0
   exact⟨rfl,f⟩
def tj (l q m r n c d:Nat) (b a:List Int) (w:World) (cu:b.length=n) (fK:a.length=n) (z:n<=1000000) (u:∀i,i<n->w.cell? ⟨l,q+i,none⟩=some (.int .u8 (b.getD i 0))) (v:∀i,i<n->w.cell? ⟨m,r+i,none⟩=some (.int .u8 (a.getD i 0))):
  Calls prog 134 #[.slice (some (aD l q)) n c, .slice (some (aD m r)) n d] w λe w'=>e= .returned (.bool (decide (b=a)))/\bW w w':=by
 go_in;go_wp2;go_loopw [5] (λi wr=>∃k:Nat,k<=n/\i=iV k/\bW w wr/\∀j,j<k->b.getD j 0=a.getD j 0) (λi _=>n-(intOf i).toNat);case atStart=>exact⟨0,dL _,rfl,bi _ _,λj x=>by omega⟩
 case round=>
  obtain⟨k,y,rfl,f,l8⟩:=hrel;have ad6:=yh l8;by_cases bq:k<n
  .have p:=cell_later f ((yh u).out k bq);have t:=cell_later f ((yh v).out k bq);have cC:(k:Int)<(n:Int):=(by omega);by_cases g:b.getD k 0=a.getD k 0
   .have s:=yh g;rw [g] at p;have Al:(a.getD k 0 != a.getD k 0)=false:=(by simp);generalize a.getD k 0=X at p t Al;go_wp2;go_quiet (fail);go_wp2;go_roundw;case rel=>
     refine⟨k+1,by omega,by go_num,below_drewN f _,λj x=>?_⟩;by_cases e:j=k
     .rw [e];exact s.o
     .exact ad6.o j (by omega)
    case measure=>simp [intOf];omega
   .have hd:decide (b=a)=false:=by
     rw [decide_eq_false_iff_not];intro e;exact g (by rw [e])
    have dM:(b.getD k 0 != a.getD k 0)=true:=(by rw [gg];exact g);generalize b.getD k 0=X at*;generalize a.getD k 0=Y at*;go_wp2;go_quiet (fail);go_wp2;go_ret;exact⟨by rw [(yh hd).out];rfl,below_drewN f _⟩
  .have cC:¬(k:Int)<(n:Int):=(by omega);have hd:Yh (decide (b=a)=true):=by
    show decide (b=a)=true;rw [decide_eq_true_iff];apply List.ext_getElem (by omega);intro i XH Fw;have:=ad6.o i (by omega);simpa [List.getD,XH,Fw] using this
   go_wp2;go_ret;exact⟨by rw [hd.out];rfl,f⟩
section
def fL (w:World) (X:Nat->Prop) (k t:Nat) (G:SG) (tv:Value) (r:Int×TG) (e:Ending) (w':World):Prop:=
 e= .returned (iV r.1)/\(∃tv' K1,ou w' (more X w w') k t G r.2 tv' K1/\(tv'.ownBlock=tv.ownBlock\/∀g,tv'.ownBlock=some g->w.heap.size<=g))/\aa (λj=>j=t\/tv.ownBlock=some j) w w'
section
variable {w w' w1 w2:World} {F X:Nat->Prop} {r s k kl t hm:Nat} {S:DS} {G:SG} {T:TG} {v pv nv tv:Value} {ps us:List (Nat×List Int)} {xs:List Value}
def ou.mono {Y:Nat->Prop} (h:ou w X k t G T tv us) (a:∀g,X g->Y g):ou w Y k t G T tv us:=⟨h.tx,a _ h.xt,h.pl.mono a,h.nd,h.pu,h.kb,h.Ez⟩
def fL.same (b:ou w X k t G T tv us) (a:bW w w') (x:Int):fL w X k t G tv (x,T) (.returned (iV x)) w':=
   ⟨rfl,⟨tv,us,(b.later a).mono (λ_ h=> .inl h), .inl rfl⟩,aa.ah _ a⟩
def fL.spoilt (c:ou w X k t G T tv us) (a:bW w w1) (x:Int):fL w X k t G tv (x,{T with bad:=x}) (.returned (iV x)) (w1.setCell ⟨t,3,none⟩ (.int .i64 x)):=by
 have h:=c.later a;have b:=aa.setCell (F:=λj=>j=t) w1 (p:=(aD t 3)) rfl (iV x);refine⟨rfl,⟨tv,us,⟨h.tx.bad x, .inl h.xt,(h.pl.other h.tx (by decide) (by decide) b).mono (λ_ h=> .inl h),h.nd,h.pu,h.kb,h.Ez⟩, .inl rfl⟩,(aa.ah _ a).trans b (λ_ h=> .inl (.inl h))⟩
def nz.puts (h:nz w t k tv T) (v:Value):nz (w.setCell ⟨t,1,none⟩ v) t k v T:=(heap_setCell_same _ _ 1 _ _ _ h).trans (by simp)
def fL.set (C:ou w X k t G T tv us) (s:T.ended=false) (m:bW w w1) {b:Nat} (d:i<us.length) (f:us[i].1=b) (u:w.heap.size<=g) (q:ay w1 5 g 512 (bs l)) (v:l.length=512/\Bytes l) (r:tv= .slice (some (aD gp 0)) n c):
  fL w X k t G tv (0,{T with puts:=CM.put T.puts b l}) (.returned (iV 0)) (w1.setCell ⟨gp,i*2+1,none⟩ (.slice (some ⟨g,0,none⟩) 512 512)):=by
 have h:=C.later m;obtain⟨xs,A⟩:=h.pl;have vj:=(A.mono (Y:=more X w w1) (λ_ h=> .inl h)).store d f (.inr ⟨u,q.lt⟩) q v r;have eM:(w1.setCell ⟨gp,i*2+1,none⟩ (.slice (some ⟨g,0,none⟩) 512 512)).heap.size=w1.heap.size:=by simp [World.setCell]
 have z:more X w (w1.setCell ⟨gp,i*2+1,none⟩ (.slice (some ⟨g,0,none⟩) 512 512))=more X w w1:=by unfold more;rw [eM]
 have aA:tv.ownBlock=some gp:=by rw [r];rfl
 have o:=aa.setCell (F:=λj=>tv.ownBlock=some j) w1 (p:=⟨gp,i*2+1,none⟩) aA (.slice (some (aD g 0)) 512 512);refine⟨rfl,⟨tv,us.set i (b,l),?_, .inl rfl⟩,(aa.ah _ m).trans o (λ_ h=> .inl (.inr h))⟩;rw [z];refine⟨h.tx.aw o (λe=>h.pl.ne e h.tx (by decide) rfl), .inl h.xt,⟨_,vj⟩,by rw [Sz d f];exact h.nd,λ_=>?_,λx a=>?_,by rw [List.length_set];exact h.Ez⟩
 .show CM.put T.puts b l=_;rw [Sy d f h.nd,h.pu s]
 .rcases List.mem_or_eq_of_mem_set a with a|a
  .exact h.kb x a
  .have:=h.kb _ (List.getElem_mem d);rw [a];show b<G.y.blocks;omega
def fL.push (r:ou w X k t G T tv us) (s:T.ended=false) (d:bW w w1) {o:Obj} {b:Nat} (lF:b<G.y.blocks) (z:PL w1 X tv us xs) (u:w.heap.size<=g) (n:ay w1 5 g 512 (bs l)) (v:l.length=512/\Bytes l) (jd:jC us b=none) (UV:us.length<16)
    (aA:w2.ownsRow 0 167 2 (.slice (some (aD g2 0)) (us.length+1) cJ) (us.length+1) (xs ++ [iV (b:Int), .slice (some (aD g 0)) 512 512]))
    (aR:(w1.alloc o).grownBy w2 tv.ownBlock) (it:tv.ownBlock=some g2\/g2=w1.heap.size+1):
  w2.heap[t]? =w.heap[t]?/\fL w X k t G tv (0,{T with puts:=CM.put T.puts b l}) (.returned (iV 0)) (w2.setCell ⟨t,1,none⟩ (.slice (some ⟨g2,0,none⟩) (us.length+1) cJ)):=by
 have h:=r.later d;have D:=d.size;obtain⟨vj,aY⟩:=PL.push (b:=b) (z.mono (Y:=more X w w1) (λ_ h=> .inl h)) (.inr ⟨u,n.lt⟩) n v aA aR it;have em:=aY.size;have Ax:=h.tx.aw aY (λe=>h.pl.ne e h.tx (by decide) rfl);have m:=aa.setCell (F:=λj=>j=t) w2 (p:=(aD t 1)) rfl (.slice (some (aD g2 0)) (us.length+1) cJ);have eM:(w2.setCell ⟨t,1,none⟩ (.slice (some ⟨g2,0,none⟩) (us.length+1) cJ)).heap.size=w2.heap.size:=by simp [World.setCell]
 refine⟨(aY.block t h.tx.lt (λe=>h.pl.ne e h.tx (by decide) rfl)).trans (d.block t r.tx.lt),rfl,⟨_,us ++ [(b,l)],⟨Ax.puts _, .inl h.xt,(Pl.other ⟨_,vj⟩ Ax (by decide) (by decide) m).mono (λj a=>?_),?_,λ_=>?_,λx c=>?_,by rw [ee];simp;omega⟩,?_⟩,((aa.ah _ d).trans aY (λ_ h=> .inl (.inr h))).trans m (λ_ h=> .inl (.inl h))⟩
 .rcases a with (a|a)|a
  .exact .inl a
  .exact .inr ⟨a.1,by rw [eM];omega⟩
  .exact .inr ⟨by omega,by rw [eM];exact a.2⟩
 .rw [List.map_append,List.nodup_append];refine⟨h.nd,by simp,λx c y C e=>?_⟩;obtain⟨q,A,rfl⟩:=List.mem_map.1 c;have f:y=b:=by simpa using C
  subst f;obtain⟨j,a,rfl⟩:=List.mem_iff_getElem.1 A;have:=xx a e;rw [jd] at this;cases this
 .show CM.put T.puts b l=_;rw [OH,h.pu s]
 .rcases List.mem_append.1 c with c|c
  .exact h.kb x c
  .rw [List.mem_singleton.1 c];exact lF
 .rcases it with i|i
  .exact .inl i.symm
  .refine .inr (λj a=>?_);have e:j=g2:=(by simpa [Value.ownBlock] using a.symm);omega
end
end
section
section
variable {w w' w1 w2:World} {F X:Nat->Prop} {r s k kl t hm:Nat} {S:DS} {G:SG} {T:TG} {v pv nv tv:Value} {ps us:List (Nat×List Int)} {xs:List Value}
def Pl.frz (h:Pl w X v ps) (a:v.ownBlock=some g) (j:Nat):w.frozen? (aD g j)=false:=by
 obtain⟨xs,h⟩:=h;obtain⟨_,⟨rfl,_⟩|⟨d,b,cur,rfl,_,c,_⟩⟩:=h.own
 .simp [Value.ownBlock] at a
 .simp [Value.ownBlock] at a;subst a;exact ae c j
set_option maxRecDepth 100000 in
def SB (hd:aC w F r s S) (h:iN w F X r s S k kl G pv ps hm nv) (u:ou w X k t G T tv us) (b:Int) (a:Option Addr) (x c:Nat) (d:List Int) (K:Src w a x d) (hx:x<=140737488355328) (xQ:Bytes d) (aU:S.puts.length<=4000000000000) (Wp:ps.length<=4000000000000):
  Calls prog 82 #[pQ t,iV b, .slice a x c] w λe w'=>fL w X k t G tv (T.put G S b d) e w':=by
 have z:=ku hd h u.tx;have Jf:=K.1;obtain⟨R,n⟩:=bP (T.put G S b d);rw [<-n];unfold TG.put at n;by_cases q:T.state G S=0
 .have dq:(T.state G S != 0)=false:=by rw [q];rfl
  by_cases q1:b<0
  .have A:T.refusal G S b=11:=(by unfold TG.refusal;rw [aB (λh=>h q),aG (.inl q1)]);rw [A,aG (by decide)] at n;obtain⟨C,f⟩:=bV n u;clear A n q;generalize T.state G S=E at*;clear h u hd K;go_in;go_wp2_with fail;refine bJ z λw1 ar=>?_;have M:=yh ar;clear z ar;go_wp2;go_ret;rw [C.o];exact fL.same f.o M.o 11
  .by_cases q2:(G.y.blocks:Int)<=b
   .have A:T.refusal G S b=11:=(by unfold TG.refusal;rw [aB (λh=>h q),aG (.inr q2)]);rw [A,aG (by decide)] at n;obtain⟨C,f,P⟩:=kI n u h.st;clear A n q;generalize T.state G S=E at*;clear h u hd K;go_in;go_wp2_with fail;refine bJ z λw1 ar=>?_;have c0:=(f.o.tx.later ar).c0;have c4:=(P.o.later ar).c4;have M:=yh ar;clear z ar;go_wp2;go_ret;rw [C.o];exact fL.same f.o M.o 11
   .have A:T.refusal G S b=0:=(by unfold TG.refusal;rw [aB (λh=>h q),aB (λh=>h.elim q1 q2)]);rw [A,aB (λh=>h rfl)] at n;obtain⟨r1,r2,_,_,_⟩:=iY A;obtain⟨b,rfl⟩:∃b':Nat,b=(b':Int):=⟨b.toNat,by omega⟩;rw [mx] at n;have hb:b<G.y.blocks:=(by omega);by_cases q3:x=512
    .subst q3;rw [aB (λh=>h Jf)] at n;have hG:=λ(w1:World) (ar:bW w w1)=>Aw (hd.later ar) (h.later ar) (u.later ar) (b:Int) aU Wp;rw [A,mx] at hG;have mX:(T.j3 G S b).length=512:=by
      unfold TG.j3;rw [u.pu r2,ib];cases hf:jC us b with
      |none=>exact iN.aaq hd h hb
      |some l=>exact(u.pl.len _ (Fp hf)).1
     obtain⟨ab,ao,rfl⟩:=cZ K (by omega);have Yo:=λ(H:World) (bd:bW w H) (g:Nat) (O:ay H 5 g 512 (bs (T.j3 G S b)))=>tj g 0 ab ao 512 512 c (T.j3 G S b) d H mX Jf (by omega) (λi hi=>by have:=O.src.2.2 _ rfl i (by rw [mX];exact hi);rwa [aN] at this) (λi hi=>by have:=(K.later bd).2.2 _ rfl i hi;rwa [aN] at this);have MI:=λ(H:World) (bd:bW w H)=>lX (some (aD ab ao)) 512 c d H (by omega) (K.later bd);obtain⟨f,P,HG,W,Y,sT⟩:=jH (yh u) (yh h.st) (yh hG) (yh Yo) (yh MI) (u.pu r2);have ad7:CM.get T.puts b=jC us b:=(by rw [sT,ib]);have ad8:T.puts.length=us.length:=(by rw [sT,vV u.nd]);rw [ad7,ad8] at n;clear A Yo MI hG q sT ad7 ad8 r1;generalize T.state G S=E at*;clear h u hd K;by_cases U:d=T.j3 G S b
     .have dd:decide (T.j3 G S b=d)=true:=(by rw [<-U];simp);rw [aG U] at n;have C:=yh n;clear n U;go_in;go_wp2_with fail;refine bJ z λw1 ar=>?_;have c0:=(f.o.tx.later ar).c0;have c4:=(P.o.later ar).c4;have hg:=HG.o w1 ar;have cQ:=yh ar;clear z ar;go_wp2_with fail;refine hg.mono ?_;rintro e H ⟨N,bd⟩;unfold rp at N;rw [aB (λh=>h rfl)] at N;obtain⟨g,rfl,gh,O⟩:=N;have K2:=cQ.o.trans (bd.mono cQ.o.size);have lG:=W.o H K2 g O;rw [dd] at lG;have SC:=yh K2;clear hg bd O K2;go_wp2_with fail;refine bJ lG λw3 bz=>?_;have fS:=yh (SC.o.trans (bz.mono SC.o.size));clear lG bz;go_wp2;go_ret;rw [C.o];exact fL.same f.o fS.o 0
     .have dd:decide (T.j3 G S b=d)=false:=(by rw [decide_eq_false_iff_not];exact λe=>U e.symm);rw [aB U] at n;have C:=yh n;clear n U;go_in;go_wp2_with fail;refine bJ z λw1 ar=>?_;have c0:=(f.o.tx.later ar).c0;have c4:=(P.o.later ar).c4;have hg:=HG.o w1 ar;have cQ:=yh ar;clear z ar;go_wp2_with fail;refine hg.mono ?_;rintro e H ⟨N,bd⟩;unfold rp at N;rw [aB (λh=>h rfl)] at N;obtain⟨g,rfl,gh,O⟩:=N;have K2:=cQ.o.trans (bd.mono cQ.o.size);have lG:=W.o H K2 g O;rw [dd] at lG;have SC:=yh K2;clear hg bd O K2;go_wp2_with fail;refine bJ lG λw3 bz=>?_;have fS:=yh (SC.o.trans (bz.mono SC.o.size));clear lG bz;obtain⟨ua,uc,htv,lH⟩:=(f.o.later fS.o).pl.form;subst htv;have c1:=(f.o.tx.later fS.o).c1;have ad5:=f.o.Ez;have ad9:=yh lH;clear lH c0 c4;go_wp2;go_loopw [10] (λi wr=>∃j:Nat,j<=us.length/\i=iV (j:Int)/\wr=w3/\∀m (hm:m<us.length),m<j->us[m].1≠b) (λi _=>us.length-(intOf i).toNat);case atStart=>exact⟨0,dL _,rfl,rfl,λm hm h=>by omega⟩
      case round=>
       obtain⟨j,hj,rfl,rfl,jd⟩:=hrel;have om:=yh jd;clear jd;by_cases qj:j<us.length
       .have qj':(j:Int)<(us.length:Int):=(by omega);obtain⟨J,rfl,hp⟩:=ad9.o (by omega);obtain⟨gj,cj,p1,p2,_,_⟩:=hp j qj;clear hp;by_cases Q:us[j].1=b
        .rw [Q] at p1;have nX:=f.o.tx.later fS.o;obtain⟨ve,aea,Ay,xK,HU⟩:=eQ ((f.o.pl.later fS.o).ne (g:=J) rfl nX (by decide)) ((f.o.pl.later fS.o).rlt J rfl) nX.lt (yh (xx qj Q)) (yh Q);clear nX Q;go_wp2_with fail;go_region_held3 (λw'=>w'.cell? (aD t 1)=some (.slice (some (aD J 0)) us.length uc))
          (first|exact c1|exact k1|exact k5)
            ((go_at_call 97;refine(yh (Y.o wr.drew (ai fS.o))).out.mono ?_;rintro e D ⟨g4,rfl,GE,xn,eJ⟩;have nY:bW wr D:=(ai (bi wr.heap.size wr)).trans eJ;have k1:=iH nY Ay c1;have ks:=iH nY aea p2;have fs:=(nY.frozen (p:=⟨J,j*2+1,none⟩) aea).trans ((f.o.pl.later fS.o).frz (g:=J) rfl (j*2+1));have k5:(D.setCell ⟨J,j*2+1,none⟩ (.slice (some ⟨g4,0,none⟩) 512 512)).cell? (aD t 1)=some (.slice (some (aD J 0)) us.length uc):=(dC (aa.setCell (F:=λj=>j=J) D (p:=⟨J,j*2+1,none⟩) rfl _) (λe=>ve e.symm) k1)))
         all_goals
          obtain⟨jZ,VX⟩:=bV (fS.o.trans (nY.mono fS.o.size)) xn;clear eJ nY xn k1 ks fs k5;go_wp2;go_ret;rw [C.o,aB (λh=>by rw [xK.o] at h;cases h.1)];exact fL.set f.o r2 jZ.o qj HU.o (k9 fS.o.size GE) VX.o ⟨Jf,xQ⟩ rfl
        .have dM:(((us[j].1:Nat):Int) == (b:Int))=false:=(by rw [fy];omega);have Ky:∀m (hm:m<us.length),m<j+1->us[m].1≠b:=λm hm h=>by
          by_cases e:m=j
          .subst e;exact Q
          .exact om.o m hm (by omega)
         have ZR:=yh Ky;clear Ky Q;go_wp2;go_roundw;case rel=>exact⟨j+1,by omega,by go_num,trivial,ZR.o⟩
         case measure=>simp [intOf];omega
       .have qj':¬(j:Int)<(us.length:Int):=(by omega);have Yp:=yh (I7 (us:=us) (b:=b) (λm hm=>om.o m hm (by omega)));by_cases L:us.length=16
        .have d16:((us.length:Int) == 16)=true:=(by rw [beq_iff_eq];omega);have H16:=yh L;have nX:=f.o.tx.later fS.o;have c3:=nX.c3;have f3:=nX.fz 3;clear nX L;go_wp2;go_ret;rw [C.o,Yp.out,aG ⟨rfl,H16.o⟩];exact fL.spoilt f.o fS.o 50
        .have d16:((us.length:Int) == 16)=false:=(by rw [fy];omega);have Yq:¬((jC us b).isSome=false/\us.length=16):=λh=>L h.2;have ajh:=yh Yq;have UV:us.length<16:=(by omega);obtain⟨xs,NX⟩:=f.o.pl.later fS.o;obtain⟨i0,rS,gC,dE,em⟩:=info_parts qv;have nX:=f.o.tx.later fS.o;have Ay:=nX.lt;have MI:Calls prog 97 #[.slice (some (aD ab ao)) 512 c] wr.drew λe w'=>∃v,e= .returned v/\TwR wr d v w':=
            (Y.o wr.drew (ai fS.o)).mono (by rintro e w' ⟨g,rfl,z,h2,Z⟩;exact⟨_,rfl,g,rfl,z,h2,⟨Z.os,Z.tape,Z.output,Z.size,Z.block⟩⟩)
         have cU:∀wx:World,wx.heap[t]? =wr.heap[t]?->wx.cell? (aD t 1)=some (.slice ua us.length uc):=λwx e=>bG (e.trans nX);have aeb:∀wx:World,wx.heap[t]? =wr.heap[t]?->wx.frozen? (aD t 1)=false:=λwx e=>ae (e.trans nX) 1;obtain⟨Htw,qu,Hfz,I⟩:=BH MI cU aeb NX;clear MI cU aeb NX nX L Yq;go_wp2_with fail
         go_region_law
          (first
           |(refine vE (by rfl) 97 #[.slice (some (aD ab ao)) 512 c] (by simp [go_sem]) (TwR wr d) Htw.o ?_;rintro _ D ⟨g4,rfl,GE,xn,eJ⟩;have mt:D.heap[t]? =wr.heap[t]? :=eJ.block t Ay;have k1:=qu.o D mt;have k2:=λo=>qu.o (D.alloc o) ((Below.heap_alloc D o t (iL Ay eJ.size)).trans mt))
           |(refine step_append_lies _ (by rfl) _ _ _ (by rfl) 0 167 i0 _ 2 32 underlying127 rS gC dE em rfl (by omega) (.slice ua us.length uc) us.length xs (by rfl) (aF I.o.own (λg e=>(Below.heap_alloc D _ _ (iL (qw I.o.own e) eJ.size)).trans (eJ.block g (qw I.o.own e))))
               (aD D.heap.size 0) 1 1 [iV (b:Int), .slice (some (aD g4 0)) 512 512] (by rfl) (by rfl) (World.news_of_block (cs:= #[iV (b:Int), .slice (some (aD g4 0)) 512 512]) (t:=167) (fr:=(0,0)) (heap_alloc_new D _)) (by simp [Value.oneCell']) (by omega) (by unfold maxLen;omega) (by omega) (dL _) (D.heap.size+1) (by simp) ?_;intro g2 cJ w5 fP j9 vk xB;obtain⟨Fx,jK⟩:=fL.push f.o r2 (fS.o.trans (eJ.mono fS.o.size)) hb (I.o.aw (aa.ah (λ_=>False) eJ) (λ_ _ h=>h) (λ_ _ _ _ _ h=>h)) (k9 fS.o.size GE) xn ⟨Jf,xQ⟩ Yp.out UV fP j9 vk;have aau:=Fx.trans (fS.o.block t f.o.tx.lt).symm;have k3:=qu.o w5 aau;have f3:=Hfz.o w5 aau))
         all_goals
          have nf:=yh jK;clear jK xn eJ fP j9 vk xB mt Fx aau k1 k2 k3 f3;go_wp2;go_ret;rw [C.o,aB ajh.o];exact nf.o
    .have Od:¬d.length=512:=(by rw [Jf];exact q3);rw [aG Od] at n;have dx:((x:Int) != 512)=true:=(by rw [gg];omega);obtain⟨C,f,P⟩:=kI n u h.st;clear A n q r1 r2;generalize T.state G S=E at*;clear h u hd K;go_in;go_wp2_with fail;refine bJ z λw1 ar=>?_;have c0:=(f.o.tx.later ar).c0;have c4:=(P.o.later ar).c4;have M:=yh ar;clear z ar;go_wp2;go_ret;rw [C.o];exact fL.same f.o M.o 2
 .have dq:(T.state G S != 0)=true:=by rw [gg];exact q
  have A:T.refusal G S b=T.state G S:=by unfold TG.refusal;rw [aG q]
  rw [A,aG q] at n;obtain⟨C,f⟩:=bV n u;clear A n q;generalize T.state G S=E at*;clear h u hd K;go_in;go_wp2_with fail;refine bJ z λw1 ar=>?_;have M:=yh ar;clear z ar;go_wp2;go_ret;rw [C.o];exact fL.same f.o M.o _
end
end
section
section
variable {w w':World} {F G:Nat->Prop} {r s k:Nat} {S:DS} {L:LG}
def aC.join {w:World} (h:aC w2 (Go.Proofs.YtcpdggdfihjhoaaGreat.more (Go.Proofs.YtcpdggdfihjhoaaGreat.more F w w1) w1 w2) r s S) (c:∀k,F k->k<w.heap.size) (a:w.heap.size<=w1.heap.size) (b:w1.heap.size<=w2.heap.size):aC w2 (Go.Proofs.YtcpdggdfihjhoaaGreat.more F w w2) r s S:=
 h.mono (vy a b) (cK c (by omega))
def aC.from {w:World} (h:aC w2 (Go.Proofs.YtcpdggdfihjhoaaGreat.more F w1 w2) r s S) (b:∀k,F k->k<w.heap.size) (c:w.heap.size<=w1.heap.size) (d:w1.heap.size<=w2.heap.size):aC w2 (Go.Proofs.YtcpdggdfihjhoaaGreat.more F w w2) r s S:=
 h.mono (λk a=>by
  rcases a with a|a
  .exact .inl a
  .exact .inr ⟨by omega,a.2⟩) (cK b (by omega))
def WD {f:Nat} {num:Int} (h0:(aP (S.now f) (S.now (f+1)) num []).2.2=0) (b:f+1<s):
  dg S s f num=if (S.wr s ((f:Int)+((aP (S.now f) (S.now (f+1)) num []).1:Int)) 512 (aP (S.now f) (S.now (f+1)) num []).2.1).1≠0 then (3,(S.wr s ((f:Int)+((aP (S.now f) (S.now (f+1)) num []).1:Int)) 512 (aP (S.now f) (S.now (f+1)) num []).2.1).2)
   else (S.wr s ((f:Int)+((aP (S.now f) (S.now (f+1)) num []).1:Int)) 512 (aP (S.now f) (S.now (f+1)) num []).2.1).2.fl s:=by
 have mX:=fW (S.now f) (S.now (f+1)) num [];unfold dg;by_cases a:S.fuse=0
 .rw [aG a];unfold DS.wr;simp only [aG a];rw [aG (by decide)]
 .rw [aB a,aB (by omega)];have e:(S.wr s ((f:Int)+((aP (S.now f) (S.now (f+1)) num []).1:Int)) 512 (aP (S.now f) (S.now (f+1)) num []).2.1).1=0:=by
   unfold DS.wr;rw [aB a,aB (by omega),aB (by omega)]
  rw [aB (by omega),aB (by omega)]
def oU (h:aC w F r s S) (f E T:Nat) (hE:E<=1073741824) (hT:T<=1073741824) (aU:S.puts.length+2<=4000000000000) (J:f+1<s) (dO:S.fN) (h0:(aP (S.now f) (S.now (f+1)) ((E:Int)*4294967296+T) []).2.2=0):
  Calls prog 118 #[pQ r,iV (f:Int),iV (E:Int),iV (T:Int)] w λe w'=>e= .returned (iV (dg S s f ((E:Int)*4294967296+T)).1)/\aC w' (more F w w') r s (dg S s f ((E:Int)*4294967296+T)).2/\aa F w w':=by
 have q:=jP h f (by omega) (by omega);have n:=jP h (f+1) J (by omega);rw [show ((f+1:Nat):Int)=(f:Int)+1 by omega] at n;have dw:=h.ok;have iu:=bA dw f (by omega);have lJ:=bA dw (f+1) J;have mX:=fW (S.now f) (S.now (f+1)) ((E:Int)*4294967296+T) [];have FB:=kQ (S.now f) (S.now (f+1)) ((E:Int)*4294967296+T) [] h0;rw [WD h0 J];have M:=yh (λP W k Q X m w1 c d=>Kb P W k (S.now f) Q X m (S.now (f+1)) none 0 0 [] ((E:Int)*4294967296+T) w1 c d (dO.now f) (dO.now (f+1)) ⟨rfl,λ_=>rfl,λx K=>by cases K⟩ (λx K=>by cases K) (by omega));have Kw:=dw.hi;have t:=yh h;have WE:∀(l:List Int),(S.wr s ((f:Int)+((aP (S.now f) (S.now (f+1)) ((E:Int)*4294967296+T) []).1:Int)) 512 l).2.puts.length<=S.puts.length+1:=λl=>jk _ _ _ _ _;generalize U:aP (S.now f) (S.now (f+1)) ((E:Int)*4294967296+T) []=Y at*;clear h U dO;obtain⟨Z,I⟩:∃Z,Z=S.wr s ((f:Int)+(Y.1:Int)) 512 Y.2.1:=⟨_,rfl⟩;have L:=WE Y.2.1;rw [<-I] at L⊢;obtain⟨N,iM⟩:=bV I t.o.lt;clear I WE;by_cases p:Z.1=0
 .rw [aB (by omega)];have R:(Z.1 == 0)=true:=by rw [beq_iff_eq];exact p
  clear p;go_in;go_wp2_with fail;refine q.mono ?_;rintro e w1 ⟨A,k,rfl,D,mt,bT⟩;have jR:=bT.symm;clear bT;subst jR;clear q;go_wp2_with fail;refine n.mono ?_;rintro e w2 ⟨C,m,rfl,H,fB,dN⟩;have K3:=dN.symm;clear dN;subst K3;have c:=mt.src;have d:=fB.src;rw [iu] at c;rw [lJ] at d;have g:=M.o (some (aD A 0)) 512 k (some (aD C 0)) 512 m _ c d;rw [h0] at g;clear n c d mt fB;go_wp2_with fail;refine g.mono ?_;rintro e w3 ⟨v,rfl,aA,bz⟩;obtain⟨y,z,rfl,fM,_,_⟩:=aA.src;have i:=iG (t.o.later bz) ((f:Int)+(Y.1:Int)) y _ z Y.2.1 fM (by omega);rw [FB,<-N.o] at i;rw [FB];have fS:=yh bz;clear g aA fM bz;go_wp2_with fail;refine fQ i λw4 a dW=>?_;obtain⟨O,Mw,lq,vt⟩:=cP (fH a (by omega)) (yh ((aa.ah F fS.o).trans dW (λ_ h=> .inl h))) fS.o.size dW.size;clear i a dW;go_wp2_with fail;refine fQ O λw5 jJ dX=>?_;have pT:=dX.size;have u:=yh (aH (jJ.mono (G:=more F w w5) (λj b=>by
    rcases b with b|b
    .exact .inl b
    .exact .inr ⟨by omega,by omega⟩) (cK iM.o (by omega))) (Mw.o.trans dX (λj b=>by
    rcases b with b|b
    .exact .inl b
    .exact .inr (by omega))))
  clear O jJ dX;go_wp2;go_ret;exact⟨rfl,u.o⟩
 .rw [aG p];have R:(Z.1 == 0)=false:=by rw [fy];exact p
  clear p;go_in;go_wp2_with fail;refine q.mono ?_;rintro e w1 ⟨A,k,rfl,D,mt,bT⟩;have jR:=bT.symm;clear bT;subst jR;clear q;go_wp2_with fail;refine n.mono ?_;rintro e w2 ⟨C,m,rfl,H,fB,dN⟩;have K3:=dN.symm;clear dN;subst K3;have c:=mt.src;have d:=fB.src;rw [iu] at c;rw [lJ] at d;have g:=M.o (some (aD A 0)) 512 k (some (aD C 0)) 512 m _ c d;rw [h0] at g;clear n c d mt fB;go_wp2_with fail;refine g.mono ?_;rintro e w3 ⟨v,rfl,aA,bz⟩;obtain⟨y,z,rfl,fM,_,_⟩:=aA.src;have i:=iG (t.o.later bz) ((f:Int)+(Y.1:Int)) y _ z Y.2.1 fM (by omega);rw [FB,<-N.o] at i;rw [FB];have fS:=yh bz;clear g aA fM bz;go_wp2_with fail;refine fQ i λw4 a dW=>?_;have u:=yh (aH (a.from iM.o fS.o.size dW.size) (yh ((aa.ah F fS.o).trans dW (λ_ h=> .inl h))).out);clear i a dW;go_wp2;go_ret;exact⟨rfl,u.o⟩
end
end
section
section
variable {w w':World} {F G:Nat->Prop} {r s k:Nat} {S:DS} {L:LG}
def H6 (h:aC w F r s S) (dO:S.fN) (f n:Int) (aU:S.puts.length+500<=4000000000000):
  Calls prog 66 #[pQ r,iV f,iV n] w λe w'=>e= .returned (iV (cD S s f n).1)/\aC w' (more F w w') r s (cD S s f n).2/\aa F w w':=by
 have x:=C4 h f n;have u:=yh h.lt;have Q:=yh h;unfold cD;go_in;by_cases q:cy S s f n=0
 .rw [aB (λh=>h q)];obtain⟨ZE,a,b,rfl,rfl,oN,ar,bd⟩:=fX q;rw [q] at x;simp only [mx];have L:=zP h;have Z:=h.ok.hi;have aec:S.take.Ok s:=⟨h.ok.len,h.ok.lo,h.ok.hi,h.ok.puts,h.ok.fuse⟩;obtain⟨UT,FF⟩:=bV (kS (f:=a) (n:=b) aec oN) ((dO.take).Rl s a b);have aji:∀k,(bF S.take s a k).2.puts.length<=S.puts.length+k:=λk=>p9 S.take s a k;obtain⟨P,D⟩:=bP ((if (cO S.take s a b).1≠0 then cO S.take s a b else dg (cO S.take s a b).2 s a 4294967296));rw [<-D];have C:=yh D;clear q h dO aec D;go_wp2_with fail;refine bJ x λw1 bT=>?_;have jR:=bT.symm;clear bT;subst jR;clear x;go_wp2_with fail;refine fQ L λz cI aY=>?_;have sG:=yh cI;have ii:=yh aY;have em:=aY.size;clear L cI aY;go_wp2;go_loopw [8] (λi wr=>∃k:Nat,k<=b+2/\i=iV (k:Int)/\(bF S.take s a k).1=0/\aC wr (more F z wr) r s (bF S.take s a k).2/\aa F z wr) (λi _=>b+2-(intOf i).toNat);case atStart=>exact⟨0,dL _,rfl,rfl,sG.o.more,aa.refl _ _⟩
  case round=>
   obtain⟨k,X,rfl,O,hd,fb⟩:=hrel;obtain⟨J,te,Dd,Au,PK⟩:=eQ (yh O) (yh hd) (yh fb) fb.size (aji k);clear O hd fb;by_cases q:k<b+2
   .have bq:(k:Int)<(b:Int)+2:=(by omega);go_wp2_with fail;refine(rk wr).mono ?_;rintro e T ⟨rfl,be,bz⟩;have fV:Src T (some (aD wr.heap.size 0)) 512 (zs 512):=be.src;have I:=iG (te.o.later bz) ((a+k:Nat):Int) (some (aD wr.heap.size 0)) 512 512 (zs 512) fV (by omega);have K:bF S.take s a (k+1)=(bF S.take s a k).2.wr s ((a+k:Nat):Int) 512 (zs 512):=ju J.o;rw [<-K,show ((a+k:Nat):Int)=(a:Int)+(k:Int) by omega] at I;have fS:=yh bz;have lq:=bz.size;clear be fV bz K;go_wp2_with fail;refine fQ I λU l dW=>?_;have vt:=dW.size;have c:=l.mono (λj c=>by
     rcases c with (c|c)|c
     .exact .inl c
     .exact .inr ⟨c.1,by omega⟩
     .exact .inr ⟨by omega,c.2⟩) (cK (F:=F) (w:=z) (λj c=>by have:=u.o j c;omega) (by omega))
    have KD:=(Dd.o.trans (aa.ah (λ_=>False) fS.o) (λ_ h=>h.elim)).trans dW (λj c=>by
     rcases c with c|c
     .exact .inl c
     .exact .inr c.1)
    obtain⟨PY,Jr⟩:=bV c KD;clear l dW I c KD;by_cases g:(bF S.take s a (k+1)).1=0
    .have d:((bF S.take s a (k+1)).1 == 0)=true:=(by rw [beq_iff_eq];exact g);have p:=yh g;clear g;go_wp2;go_roundw;case rel=>exact⟨k+1,by omega,by go_num,p.o,PY.o,Jr.o⟩
     case measure=>simp [intOf];omega
    .have d:((bF S.take s a (k+1)).1 == 0)=false:=(by rw [fy];exact g);have t:cO S.take s a b=bF S.take s a (k+1):=by
      have:bF S.take s a (b+2)=bF S.take s a (k+1):=gD g (b+2) (by omega);unfold cO;rw [this,aG g]
     have m:P=bF S.take s a (k+1):=(by rw [C.o,t,aG g]);have p:=yh m;clear g t m;go_wp2;go_ret;rw [p.o];exact⟨rfl,PY.o.from u.o em (by omega),ii.o.trans Jr.o (λ_ h=> .inl h)⟩
   .obtain rfl:k=b+2:=(by omega);have y:=fH te.o (by omega);have t:cO S.take s a b=(bF S.take s a (b+2)).2.fl s:=by
     unfold cO;rw [aB (by rw [J.o];decide)]
    rw [<-t] at y;have H:(cO S.take s a b).2.puts.length<=S.puts.length+(b+3):=by
     rw [t];have:=yE (bF S.take s a (b+2)).2 s;omega
    clear PK;clear t;obtain⟨Y,E⟩:=bP (cO S.take s a b);rw [<-E] at y H;have v:=yh E;clear E;go_wp2_with fail;refine fQ y λU l dW=>?_;have vt:=dW.size;have c:=l.mono (λj c=>by
     rcases c with c|c
     .exact .inl c
     .exact .inr ⟨c.1,by omega⟩) (cK (F:=F) (w:=z) (λj c=>by have:=u.o j c;omega) (by omega))
    have KD:=Dd.o.trans dW (λj c=>by
     rcases c with c|c
     .exact .inl c
     .exact .inr c.1)
    obtain⟨PY,Jr⟩:=bV c KD;clear l dW y;by_cases g:Y.1=0
    .have d:(Y.1 == 0)=true:=(by rw [beq_iff_eq];exact g);have fE:=(UT.o.2.2.2 (by rw [<-v.o];exact g)).1;have WF:=UT.o.2.1;rw [<-v.o] at fE WF;have aav:=FF.o;rw [<-v.o] at aav;have m:P=dg Y.2 s a 4294967296:=(by rw [C.o,<-v.o,aB (by rw [g];decide)]);have A:=yh m;have vv:=iF (bA WF a (by omega)) (bA WF (a+1) (by omega)) (N:=4294967296) (by omega) (by unfold DS.num at fE;omega);have M:=oU c a 1 0 (by omega) (by omega) (by omega) (by omega) aav vv;have p:=yh g;clear g vv fE WF c KD aav m;go_wp2_with fail;refine fQ M λw5 jJ dX=>?_;have pT:=dX.size;have R:=yh (aH (jJ.mono (G:=more F w w5) (λj c=>by
      rcases c with (c|c)|c
      .exact .inl c
      .exact .inr ⟨by omega,by omega⟩
      .exact .inr ⟨by omega,c.2⟩) (cK u.o (by omega))) ((ii.o.trans Jr.o (λ_ h=> .inl h)).trans dX (λj c=>by
      rcases c with c|c
      .exact .inl c
      .exact .inr (by omega))))
     clear M jJ dX;go_wp2;go_ret;rw [A.o];exact⟨rfl,R.o⟩
    .have d:(Y.1 == 0)=false:=(by rw [fy];exact g);have m:P=Y:=(by rw [C.o,<-v.o,aG g]);have p:=yh m;clear g c KD m;go_wp2;go_ret;rw [p.o];exact⟨rfl,PY.o.from u.o em (by omega),ii.o.trans Jr.o (λ_ h=> .inl h)⟩
 .rw [aG q];have W:(cy S s f n == 0)=false:=by rw [fy];exact q
  clear q dO;go_wp2_with fail;refine bJ x λw1 bT=>?_;have jR:=bT.symm;clear bT;subst jR;clear x;go_wp2;go_ret;exact⟨rfl,Q.o.more,aa.refl _ _⟩
end
end
section
section
variable {w w':World} {F G:Nat->Prop} {r s k:Nat} {S:DS} {L:LG}
def cM.started (h:cM w k r L) (E:Int) (n:Nat) (a:E=(n:Int)):cM ((((w.setCell ⟨k,8,none⟩ (.bool true)).setCell ⟨k,4,none⟩ (.int .i64 E)).setCell ⟨k,5,none⟩ (.int .i64 0)).setCell ⟨k,6,none⟩ (.int .i64 0)) k r {L with begun:=true,ep:=n,tail:=0,head:=0}:=by
 subst a;exact(heap_setCell_same _ _ 6 _ _ _ (heap_setCell_same _ _ 5 _ _ _ (heap_setCell_same _ _ 4 _ _ _ (heap_setCell_same _ _ 8 _ _ _ h)))).trans (by simp)
def cM.trimmed (h:cM w k r L):cM (w.setCell ⟨k,5,none⟩ (.int .i64 (L.head:Int))) k r {L with tail:=L.head}:=(heap_setCell_same _ _ 5 _ _ _ h).trans (by simp)
def SD {F:Nat->Prop} {l:Nat} (b:¬F l) (c:l<w3.heap.size):∀k,more F w3 w2 k->¬k=l:=λk a e=>by
 subst e;rcases a with a|a
 .exact b a
 .omega
def aC.tk {w w':World} (hd:aC w2 (Go.Proofs.YtcpdggdfihjhoaaGreat.more F w3 w2) r s S) (d:∀j,F j->j<w.heap.size) (b:aa (λj=>j=k) w2 w') (c:¬F k) (aZ:k<w3.heap.size) (f:w.heap.size<=w3.heap.size) (e:w3.heap.size<=w2.heap.size):aC w' (Go.Proofs.YtcpdggdfihjhoaaGreat.more F w w') r s S:=
   (hd.aw b (SD c aZ)).mono (λj a=>by
  rcases a with a|a
  .exact .inl a
  .exact .inr ⟨by omega,by have:=b.size;omega⟩) (cK d (by have:=b.size;omega))
def Az (h:aC w F r s S) (u:cM w k r L) (t:L.Ok s) (p:¬F k) (dO:S.fN) (aU:S.puts.length+2<=4000000000000) (D:L.dead S=false->L.begun=false->S.num L.f<(L.top+1)*4294967296):
  Calls prog 125 #[pQ k] w λe w'=>e= .returned (iV (L.start S s).1)/\aC w' (more F w w') r s (L.start S s).2.1/\cM w' k r (L.start S s).2.2/\aa (λj=>F j\/j=k) w w':=by
 obtain⟨a,i,g,iM,bq,K,D9,iu⟩:=xA (vF h u) u h h.lt u.lt t.s t.top t.n1;unfold LG.start;have dw:=h.ok;go_in;cases hd:L.dead S
 .rw [hd] at a;rw [aB (by decide)];cases vO:L.begun
  .rw [aB (by decide)];have vv:=iF (bA dw L.f (by omega)) (bA dw (L.f+1) (by omega)) (N:=(L.top+1)*4294967296) (by omega) (D hd vO);rw [show (((L.top+1)*4294967296:Nat):Int)=((L.top+1:Nat):Int)*4294967296+((0:Nat):Int) by omega] at vv;have l:=(λc (cI:aC c F r s S)=>oU cI L.f (L.top+1) 0 (by omega) (by omega) aU (by omega) dO vv);generalize J:dg S s L.f (((L.top+1:Nat):Int)*4294967296+((0:Nat):Int))=Y at*;rw [show ((L.top+1:Nat):Int)=(L.top:Int)+1 by omega,show (((0:Nat):Int))=0 from rfl,<-show IntKind.i64.wrap ((L.top:Int)+1)=(L.top:Int)+1 by rw [IntKind.wrap_i64];omega] at l;by_cases q:Y.1=0
   .rw [aB (λh=>h q)];have d:(Y.1 == 0)=true:=(by rw [beq_iff_eq];exact q);go_wp2_with fail;refine bJ a λw1 ar=>?_;have cu:=i.later ar;obtain⟨m,n,o,b⟩:=cP cu.c0 cu.c2 cu.c7 cu.c8;rw [vO] at b;go_wp2_with fail;go_region_held3 (λw'=>w'.cell? (aD k 0)=some (pQ r)/\w'.cell? (aD k 2)=some (iV (L.f:Int))/\w'.cell? (aD k 7)=some (iV (L.top:Int)))
     (first|exact⟨m,n,o⟩|exact⟨jg.c0,jg.c2,jg.c7⟩)
       ((go_at_call 118;refine(l _ (g.later (ai ar))).mono ?_;rintro e c ⟨rfl,cI,aY⟩;have aZ:=(aa.ah F ar).trans (aa.ah (λ_=>False) (ai (bi w1.heap.size w1))) (λ_ h=>h.elim);have iq:=cu.later (ai (bi w1.heap.size w1));have jg:=iq.aw aY p))
    generalize w1.drew=v at*;obtain⟨y,z,A,C,E,G,H,I,lq,em⟩:=wn jg.c4 jg.c5 jg.c6 jg.c8 (jg.fz 4) (jg.fz 5) (jg.fz 6) (jg.fz 8) aZ.size aY.size;have ez:aa (λj=>j=k) c ((((c.setCell ⟨k,8,none⟩ (.bool true)).setCell ⟨k,4,none⟩ (.int .i64 ((L.top:Int)+1))).setCell ⟨k,5,none⟩ (.int .i64 0)).setCell ⟨k,6,none⟩ (.int .i64 0)):=(((aL (F:=λj=>j=k) _ rfl 8 _).trans (aL (F:=λj=>j=k) _ rfl 4 _) (λ_ h=> .inl h)).trans (aL (F:=λj=>j=k) _ rfl 5 _) (λ_ h=> .inl h)).trans (aL (F:=λj=>j=k) _ rfl 6 _) (λ_ h=> .inl h);have x:=(aH (cI.tk (w:=w) (k:=k) iM ez p (by omega) lq em) (aH (jg.started ((L.top:Int)+1) (L.top+1) (by omega)) (((aZ.mono (λ_ h=> .inl h):aa (λj=>F j\/j=k) w v).trans aY (λ_ h=> .inl (.inl h))).trans ez (λ_ h=> .inl (.inr h)))));go_wp2;go_ret;exact⟨rfl,x⟩
   .rw [aG q];have d:(Y.1 == 0)=false:=(by rw [fy];exact q);go_wp2_with fail;refine bJ a λw1 ar=>?_;have cu:=i.later ar;obtain⟨m,n,o,b⟩:=cP cu.c0 cu.c2 cu.c7 cu.c8;rw [vO] at b;go_wp2_with fail;go_region_held3 (λw'=>w'.cell? (aD k 0)=some (pQ r)/\w'.cell? (aD k 2)=some (iV (L.f:Int))/\w'.cell? (aD k 7)=some (iV (L.top:Int)))
     (first|exact⟨m,n,o⟩|exact⟨jg.c0,jg.c2,jg.c7⟩)
       ((go_at_call 118;refine(l _ (g.later (ai ar))).mono ?_;rintro e c ⟨rfl,cI,aY⟩;have aZ:=(aa.ah F ar).trans (aa.ah (λ_=>False) (ai (bi w1.heap.size w1))) (λ_ h=>h.elim);have iq:=cu.later (ai (bi w1.heap.size w1));have jg:=iq.aw aY p))
    generalize w1.drew=v at*;go_wp2;go_ret;exact⟨rfl,(aH (cI.from iM aZ.size aY.size) (aH jg ((aZ.mono (λ_ h=> .inl h):aa (λj=>F j\/j=k) w v).trans aY (λ_ h=> .inl (.inl h)))))⟩
  .rw [aG rfl];go_wp2_with fail;refine bJ a λw1 ar=>?_;have cu:=i.later ar;have b:=cu.c8;rw [vO] at b;go_wp2;go_ret;exact⟨rfl,aH ((g.later ar).more (w:=w)) (aH cu (aa.ah (λj=>F j\/j=k) ar))⟩
 .rw [hd] at a;rw [aG rfl];go_wp2_with fail;refine bJ a λw1 ar=>?_;go_wp2;go_ret;exact⟨rfl,aH ((g.later ar).more (w:=w)) (aH (i.later ar) (aa.ah (λj=>F j\/j=k) ar))⟩
end
end
section
section
variable {w w':World} {F G:Nat->Prop} {r s k:Nat} {S:DS} {L:LG}
def OM (h:aC w F r s S) (A:cM w k r L) (p:L.Ok s) (m:¬F k) (dO:S.fN) (aU:S.puts.length+3<=4000000000000) (J:L.bm S=0->S.num L.f<=L.ep*4294967296+L.tail):
  Calls prog 132 #[pQ k] w λe w'=>e= .returned (iV (L.trim S s).1)/\aC w' (more F w w') r s (L.trim S s).2.1/\cM w' k r (L.trim S s).2.2/\aa (λj=>F j\/j=k) w w':=by
 obtain⟨g,x,v,iM,bq,hs,iu,M,eh,dw⟩:=wn (ma h A) (yh A) (yh h) (yh h.lt) A.lt p.s p.n1 p.ep p.th h.ok;unfold LG.trim;by_cases u:L.bm S=0
 .have O:L.begun=true:=by
   unfold LG.bm at u;split at u
   .omega
   .split at u
    .assumption
    .omega
  have P:=p.hb O;have z:L.sync S s=S.fl s:=by unfold LG.sync;rw [aB (by omega)]
  rw [z];rw [u] at g;have K:=J u;obtain⟨Z,n⟩:=bP (S.fl s);have aed:Z.2.Ok s:=by rw [n];exact so dw
  have ajk:Z.2.fN:=by rw [n];exact dO.fl s
  have hZp:Z.2.puts.length<=S.puts.length+1:=by rw [n];exact yE S s
  have I:Z.2.num L.f=S.num L.f:=by
   rw [n];unfold DS.num;rw [fa dw (by omega),fa dw (by omega)]
  rw [<-n];have WG:=yh n;clear h A p dO J u z n dw;by_cases t:Z.1=0
  .rw [aB (λh=>h t)];have ON:=yh t;clear t;by_cases C:L.tail=L.head
   .rw [aG C];have X:((L.tail:Int) == (L.head:Int))=true:=(by rw [beq_iff_eq];omega);clear C;go_in;go_wp2_with fail;refine bJ g λw1 ar=>?_;have cu:=x.o.later ar;have c:=cu.c0;have b:=fH (v.o.later ar) (by omega);rw [<-WG.o] at b;rw [ON.o] at b;obtain⟨cQ,BW⟩:=bV ar cu;clear g ar cu;go_wp2_with fail;refine fQ b λa cI aY=>?_;have fK:=BW.o.aw aY m;clear b c;have H:=fK.c5;have y:=fK.c6;have l:=yh (λj=>aH ((cI.later (below_drewN (bi _ _) j)).more (w:=w)) (aH (fK.later (below_drewN (bi _ _) j)) ((((aa.ah F cQ.o).trans aY (λ_ h=> .inl h)).mono (λ_ h=> .inl h):aa (λj=>F j\/j=k) w a).trans (aa.ah (λ_=>False) (below_drewN (bi a.heap.size a) j)) (λ_ h=>h.elim))));clear cI aY fK;go_wp2_with fail;go_quiet (fail);go_wp2;go_ret;exact⟨rfl,l.o _⟩
   .rw [aB C];have X:((L.tail:Int) == (L.head:Int))=false:=(by rw [fy];omega);have vv:=iF (bA aed L.f (by omega)) (bA aed (L.f+1) (by omega)) (N:=L.ep*4294967296+L.head) (by omega) (by unfold DS.num at I K;omega);rw [show ((L.ep*4294967296+L.head:Nat):Int)=(L.ep:Int)*4294967296+(L.head:Int) by omega] at vv;have T:=yh (λa (cI:aC a F r s Z.2)=>oU cI L.f L.ep L.head M P (by omega) (by omega) ajk vv);generalize hY:dg Z.2 s L.f ((L.ep:Int)*4294967296+(L.head:Int))=Y at*;clear C vv hY;by_cases q:Y.1=0
    .rw [aB (λh=>h q)];have d:(Y.1 == 0)=true:=(by rw [beq_iff_eq];exact q);have D:=yh q;clear q;go_in;go_wp2_with fail;refine bJ g λw1 ar=>?_;have cu:=x.o.later ar;have c:=cu.c0;have b:=fH (v.o.later ar) (by omega);rw [<-WG.o] at b;rw [ON.o] at b;obtain⟨cQ,BW⟩:=bV ar cu;clear g ar cu;go_wp2_with fail;refine fQ b λa cI aY=>?_;have fK:=BW.o.aw aY m;clear b c;obtain⟨c,E,G,H,y,sG,VN,lW⟩:=xA fK.c0 fK.c2 fK.c4 fK.c5 fK.c6 (yh cI) (yh fK) (yh ((aa.ah F cQ.o).trans aY (λ_ h=> .inl h)));clear cI fK aY;go_wp2_with fail;go_quiet (fail);go_wp2_with fail;go_region_held3 (λw'=>w'.cell? (aD k 0)=some (pQ r)/\w'.cell? (aD k 2)=some (iV (L.f:Int))/\w'.cell? (aD k 4)=some (iV (L.ep:Int))/\w'.cell? (aD k 6)=some (iV (L.head:Int)))
      (first|exact⟨c,E,G,y⟩|exact⟨jg.c0,jg.c2,jg.c4,jg.c6⟩)
        ((go_at_call 118;refine(T.o _ (sG.o.later (below_drewN (bi _ _) (nq+1)))).mono ?_;rintro e R ⟨rfl,i,dW⟩;have dX:=lW.o.trans (aa.ah (λ_=>False) (below_drewN (bi a.heap.size a) (nq+1))) (λ_ h=>h.elim);have iq:=VN.o.later (below_drewN (bi a.heap.size a) (nq+1));have jg:=iq.aw dW m))
     generalize a.drewN (nq+1)=Q at*;obtain⟨lq,vt,U,f5⟩:=cP dX.size dW.size jg.c5 (jg.fz 5);have ez:aa (λj=>j=k) R (R.setCell ⟨k,5,none⟩ (.int .i64 (L.head:Int))):=aL (F:=λj=>j=k) _ rfl 5 _;have l:=yh (aH (i.tk (w:=w) (k:=k) iM.o ez m (by omega) lq vt) (aH jg.trimmed (((dX.mono (λ_ h=> .inl h):aa (λj=>F j\/j=k) w Q).trans dW (λ_ h=> .inl (.inl h))).trans ez (λ_ h=> .inl (.inr h)))));clear i dW jg dX iq ez;go_wp2;go_ret;exact⟨by rw [<-D.o];rfl,l.o⟩
    .rw [aG q];have d:(Y.1 == 0)=false:=(by rw [fy];exact q);clear q;go_in;go_wp2_with fail;refine bJ g λw1 ar=>?_;have cu:=x.o.later ar;have c:=cu.c0;have b:=fH (v.o.later ar) (by omega);rw [<-WG.o] at b;rw [ON.o] at b;obtain⟨cQ,BW⟩:=bV ar cu;clear g ar cu;go_wp2_with fail;refine fQ b λa cI aY=>?_;have fK:=BW.o.aw aY m;clear b c;obtain⟨c,E,G,H,y,sG,VN,lW⟩:=xA fK.c0 fK.c2 fK.c4 fK.c5 fK.c6 (yh cI) (yh fK) (yh ((aa.ah F cQ.o).trans aY (λ_ h=> .inl h)));clear cI fK aY;go_wp2_with fail;go_quiet (fail);go_wp2_with fail;go_region_held3 (λw'=>w'.cell? (aD k 0)=some (pQ r)/\w'.cell? (aD k 2)=some (iV (L.f:Int))/\w'.cell? (aD k 4)=some (iV (L.ep:Int))/\w'.cell? (aD k 6)=some (iV (L.head:Int)))
      (first|exact⟨c,E,G,y⟩|exact⟨jg.c0,jg.c2,jg.c4,jg.c6⟩)
        ((go_at_call 118;refine(T.o _ (sG.o.later (below_drewN (bi _ _) (nq+1)))).mono ?_;rintro e R ⟨rfl,i,dW⟩;have dX:=lW.o.trans (aa.ah (λ_=>False) (below_drewN (bi a.heap.size a) (nq+1))) (λ_ h=>h.elim);have iq:=VN.o.later (below_drewN (bi a.heap.size a) (nq+1));have jg:=iq.aw dW m))
     generalize a.drewN (nq+1)=Q at*;have l:=yh (aH (i.from iM.o dX.size dW.size) (aH jg ((dX.mono (λ_ h=> .inl h):aa (λj=>F j\/j=k) w Q).trans dW (λ_ h=> .inl (.inl h)))));clear i dW jg dX iq;go_wp2;go_ret;exact⟨rfl,l.o⟩
  .rw [aG t];have W:(Z.1 == 0)=false:=(by rw [fy];exact t);have dn:(Z.1 != 0)=true:=(by rw [gg];exact t);clear t;go_in;go_wp2_with fail;refine bJ g λw1 ar=>?_;have cu:=x.o.later ar;have c:=cu.c0;have b:=fH (v.o.later ar) (by omega);rw [<-WG.o] at b;obtain⟨cQ,BW⟩:=bV ar cu;clear g ar cu;go_wp2_with fail;refine fQ b λa cI aY=>?_;have fK:=BW.o.aw aY m;clear b c;have H:=fK.c5;have y:=fK.c6;have l:=yh (λj=>aH ((cI.later (below_drewN (bi _ _) j)).more (w:=w)) (aH (fK.later (below_drewN (bi _ _) j)) ((((aa.ah F cQ.o).trans aY (λ_ h=> .inl h)).mono (λ_ h=> .inl h):aa (λj=>F j\/j=k) w a).trans (aa.ah (λ_=>False) (below_drewN (bi a.heap.size a) j)) (λ_ h=>h.elim))));clear cI aY fK;go_wp2_with fail;go_quiet (fail);go_wp2;go_ret;exact⟨rfl,l.o _⟩
 .have z:L.sync S s=(L.bm S,S):=by unfold LG.sync;rw [aG u]
  rw [z];simp only;rw [aG u];have W:(L.bm S == 0)=false:=by rw [fy];exact u
  clear h A p dO J u z dw;go_in;go_wp2_with fail;refine bJ g λw1 ar=>?_;have l:=yh (aH ((v.o.later ar).more (w:=w)) (aH (x.o.later ar) (aa.ah (λj=>F j\/j=k) ar)));clear g ar;go_wp2;go_ret;exact⟨rfl,l.o⟩
end
end
def tp (x:Nat) (w:World) (b:x<=140737488355328):Calls prog 143 #[iV (x:Int)] w λe w'=>e= .returned (iV (((x+491) / 492:Nat):Int))/\w'=w:=by
 have a:((x:Int)+492-1).tdiv 492=(((x+491) / 492:Nat):Int):=by rw [Int.tdiv_eq_ediv_of_nonneg (by omega)];omega
 go_in;go_wp2;go_ret;refine⟨?_,rfl⟩;first|rfl|(simp;omega)
def bu {P:Program} {b:Array Oper} {Q:Exit->Act->World->Prop} {o:Oper} {rest:List Oper} {a:Act} (d:o.guard=none) (s x:Operand) (t:TypeId) (e:o.op= .call {callee:= .builtin .append,args:= #[s,x],argTypes:= #[t,t]}) (v u r:Value) (g:a.eval s=v) (i:a.eval x=u)
    (f:(Builtin.append_ #[t,t] o.type #[v,u]).run P w= .ok r w') (h:wpList P b Q rest (a.put o.dst r) w'):wpList P b Q (o :: rest) a w:=
 wpList_plain d λ_ c=>eC s x t e v u r g i f (c _ _ h)
def rt {B:Nat} (aA:Own W B v rc) (c:Nat) (o:Src W a n d) (hd:0<n) (b:rc.length+n<=1000000) (i:B<=W.heap.size):
  ∃v' w',(Builtin.append_ #[36,36] 36 #[v, .slice a n c]).run prog W= .ok v' w'/\Own w' B v' (rc ++ d)/\Below B W w':=by
 obtain⟨g,j,w',l,f,m,_⟩:=rb aA c o hd b i;refine⟨_,w',l,?_,(bi B W).grown m i (λk e=>jv aA e)⟩;rw [<-iS] at f;have e:rc.length+d.length=(rc ++ d).length:=by simp
 unfold Own;rw [e] at f⊢;exact f
def lR (m n:Nat) (w:World) (j:m<=9223372036854775807) (o:n<=8):
  Calls prog 176 #[iV (m:Int),iV (n:Int)] w λe w'=>∃v,e= .returned v/\Own w' w.heap.size v (bD n m)/\bW w w':=by
 go_in;go_wp2;go_loopw [0,5,6] (λx v i wr=>∃k:Nat,k<=n/\x=iV ((m / 2 ^ (8*k):Nat):Int)/\i=iV (k:Int)/\Own wr w.heap.size v (bD k m)/\bW w wr) (λ_ _ i _=>n-(intOf i).toNat);case atStart=>exact⟨0,dL _,by simp,rfl,Own.nil _ _,bi _ _⟩
 case round=>
  obtain⟨k,l,rfl,rfl,aA,ey⟩:=hrel;obtain⟨bw,a,p,f⟩:=cP aA ey ey.size (aK k m);clear aA ey;by_cases bq:k<n
  .have cC:(k:Int)<(n:Int):=(by omega);have g:m / 2 ^ (8*k)<=9223372036854775807:=k9 (Nat.div_le_self _ _) j;have c:m / 2 ^ (8*(k+1))=m / 2 ^ (8*k) / 256:=(by rw [Nat.div_div_eq_div_mul,Nat.mul_succ,Nat.pow_add]);have Jt:=c;have PZ:=i9 k m;clear c;obtain⟨Q,d⟩:=bP (m / 2 ^ (8*k));rw [<-d] at g Jt PZ⊢;clear d;have q:(Q:Int).tmod 256=((Q%256:Nat):Int):=(by rw [yI (by omega)];omega);have r:(Q:Int).tdiv 256=((Q / 256:Nat):Int):=(by rw [Int.tdiv_eq_ediv_of_nonneg (by omega)];omega);go_wp2_with (at_builtin;refine cq rfl _ _ rfl w.heap.size u5 (bD k m) _ rfl rfl bw ?b1 ?b2 ?_);case b1=>omega
   case b2=>omega
   intro s w1 tR ar;have b:=(aH tR (a.trans ar));clear tR ar;go_wp2;go_roundw;case rel=>exact⟨k+1,by omega,by rw [Jt];first|rfl|simp,by go_num,by rw [PZ];exact b.1,b.2⟩
   case measure=>simp [intOf];omega
  .obtain rfl:k=n:=(by omega);have wK:¬(k:Int)<(k:Int):=(by omega);go_wp2;go_ret;exact⟨_,rfl,bw,a⟩
section
def MV (S:DS) (s f n E P i c:Nat) (part:List Int):j2 S s f n E P i c part=S.wr s ((f+2+P%n:Nat):Int) 512 (gy (S.now (f+2+P%n)) (kR E P i c part)).1:=by
 unfold j2;split
 .rename_i h;unfold DS.wr;rw [aG h]
 .rfl
section
variable {w w':World} {F G:Nat->Prop} {r s k:Nat} {S:DS} {L:LG}
def K4 (h:aC w F r s S) (Q:cM w k r L) (u:L.Ok s) (hF:¬F k) (dO:S.fN) (b o x c:Nat) (d:List Int) (hs:Src w (some (aD b o)) x d) (DO:¬F b) (hd:Bytes d) (hxc:x<=c) (hr:L.fY S x=0) (aU:S.puts.length+100<=4000000000000):
  Calls prog 144 #[pQ k, .slice (some (aD b o)) x c] w λe w'=>e= .returned (iV (L.append S s d).1)/\aC w' (more F w w') r s (L.append S s d).2.1/\cM w' k r (L.append S s d).2.2/\aa (λj=>F j\/j=k) w w':=by
 obtain⟨k0,k1,k2,k3,k4⟩:=jM hr;have h1:=ma h Q;rw [k0] at h1;have US:=hs.1;obtain⟨C,hC⟩:=bP ((x+491) / 492);have Yi:di x=C:=by rw [hC];rfl
 rw [Yi] at k3 k4;have Qs:C<=17:=by omega
 obtain⟨bq,hhi,eh,iu,lJ,eM,hep,Kw⟩:=xA Q.lt u.hi u.th u.n1 u.n2 u.s u.ep h.ok.hi;obtain⟨P,hP⟩:=bP (L.append S s d);rw [<-hP];have t:P=if (cX L S s d C).1≠0 then ((cX L S s d C).1,(cX L S s d C).2,L) else (0,(cX L S s d C).2,{L with head:=L.head+C}):=by
  rw [hP];unfold LG.append;rw [US,hr,Yi,aB (by decide)]
 obtain⟨HP,HC,HL,HD,iM,Yr⟩:=Y5 t hC Q h h.lt hs;have FF:=yh dO;have iP:((x:Int) == 0)=false:=by rw [fy];omega
 have hd3:¬(1073741824:Int)<(L.head:Int)+(C:Int):=by omega
 have hd4:¬(L.n:Int)-((L.head:Int)-(L.tail:Int))<(C:Int):=by omega
 clear h Q u dO hs hP t hC hr k0;go_in;go_wp2_with fail;refine bJ h1 λw1 ar=>?_;have cu:=HL.o.later ar;obtain⟨O,c5,c6⟩:=kH cu.c3 cu.c5 cu.c6;clear h1;go_wp2_with fail;refine((λwx=>tp x wx (by omega)) _).mono ?_;rintro e R ⟨rfl,dN⟩;have ec:=dN.symm;subst ec;rw [<-HC.o];obtain⟨cQ,BW⟩:=bV ar cu;clear dN ar cu;go_wp2_with fail;go_quiet (fail);obtain⟨ff,VN⟩:=bV (below_drewN cQ.o nq) (BW.o.later (below_drewN (bi w1.heap.size w1) nq));generalize w1.drewN nq=R at*;clear O c5 c6 BW cQ;go_wp2;have em:=ff.o.size;go_loopw [7] (λi wr=>∃j:Nat,j<=C/\i=iV (j:Int)/\(cX L S s d j).1=0/\aC wr (more F R wr) r s (cX L S s d j).2/\aa F R wr) (λi _=>C-(intOf i).toNat);case atStart=>exact⟨0,dL _,rfl,rfl,(HD.o.later ff.o).more,aa.refl _ _⟩
 case round=>
  obtain⟨j,hj,rfl,he,D,fb⟩:=hrel;have B6:=VN.o.aw fb hF;have HE:=yh he;have te:=yh D;have Dd:=yh fb;have R8:=yh B6;have Au:=fb.size;clear he D fb;by_cases q:j<C
  .have cC:(j:Int)<(C:Int):=(by omega);have c4:=B6.c4;have hxI:492*j<x:=(by have:=HC.o;omega);clear B6;have pF:(min (x:Int) (((j:Int)+1)*492)).toNat-j*492=gF x j:=(by unfold gF;omega);have yK:gF x j=min 492 (x-492*j):=rfl;have apT:1<=gF x j/\gF x j<=492:=(by omega);have lf:=Yr.o.pg ((aa.ah F ff.o).trans Dd.o (λ_ h=> .inl h)) (λz hz _=>by cases hz;exact DO);have Yj:Src wr (some ⟨b,o+j*492,none⟩) (gF x j) (partOf d j):=by
    have:=lf.sub (492*j) (gF x j) (by omega);rwa [show (d.drop (492*j)).take (gF x j)=partOf d j by unfold partOf;rw [List.take_eq_take_iff,List.length_drop,US];omega,Nat.mul_comm] at this
   obtain⟨HSP,HPl⟩:=bV Yj pF;clear Yj lf pF yK;go_wp2_with fail;rw [HPl.o];have iO:=lR L.ep 4 wr (by omega) (by omega);rw [show (((4:Nat)):Int)=4 from rfl] at iO;refine iO.mono ?_;rintro e wa1 ⟨v1,rfl,l,a⟩;obtain⟨a1,c1,rfl,Af,_,_⟩:=l.src;rw [aK] at Af⊢;have apX:=a.size;obtain⟨x1,J,bI,aA,iR⟩:=rt (B:=wr.heap.size) (show Own wa1 wr.heap.size (.slice none 0 0) ([]) from Own.nil _ _) c1 Af (by omega) (by simp) (by omega);have apY:=iR.size;have aee:=yh bI;have Z:=yh aA;have cQ:Yh (bW wr J):=(a.mono (by omega)).trans iR;have cc1:=(R8.o.later cQ.o).c6;clear iO l a Af bI aA iR;go_wp2_with (at_builtin;refine bu rfl _ _ 36 rfl (.slice none 0 0) (.slice a1 4 c1) _ rfl rfl aee.o ?_);have qT:=lR (L.head+j) 4 J (by omega) (by omega);rw [show (((4:Nat)):Int)=4 from rfl] at qT;rw [show ((L.head+j:Nat):Int)=(L.head:Int)+(j:Int) by omega] at qT;refine qT.mono ?_;rintro e wa2 ⟨v2,rfl,l,a⟩;obtain⟨a2,c2,rfl,Af,_,_⟩:=l.src;rw [aK] at Af⊢;have ap0:=a.size;obtain⟨x2,K,bI,aA,iR⟩:=rt (B:=wr.heap.size) (show Own wa2 wr.heap.size x1 ([] ++ bD 4 L.ep) from Z.o.later a) c2 Af (by omega) (by simp [aK]) (by omega);have ap1:=iR.size;have aef:=yh bI;have Wh:=yh aA;have dZ:Yh (bW wr K):=cQ.o.trans ((a.mono (by omega)).trans iR);clear qT l a Af bI aA iR;go_wp2_with (at_builtin;refine bu rfl _ _ 36 rfl x1 (.slice a2 4 c2) _ rfl rfl aef.o ?_);have nc:=lR j 2 K (by omega) (by omega);rw [show (((2:Nat)):Int)=2 from rfl] at nc;refine nc.mono ?_;rintro e wa3 ⟨v3,rfl,l,a⟩;obtain⟨a3,O,rfl,Af,_,_⟩:=l.src;rw [aK] at Af⊢;have ap3:=a.size;obtain⟨x3,N,bI,aA,iR⟩:=rt (B:=wr.heap.size) (show Own wa3 wr.heap.size x2 ([] ++ bD 4 L.ep ++ bD 4 (L.head+j)) from Wh.o.later a) O Af (by omega) (by simp [aK]) (by omega);have ap4:=iR.size;have aeg:=yh bI;have HO3:=yh aA;have fS:Yh (bW wr N):=dZ.o.trans ((a.mono (by omega)).trans iR);clear nc l a Af bI aA iR;go_wp2_with (at_builtin;refine bu rfl _ _ 36 rfl x2 (.slice a3 2 O) _ rfl rfl aeg.o ?_);have Js:=lR C 2 N (by omega) (by omega);rw [show (((2:Nat)):Int)=2 from rfl] at Js;refine Js.mono ?_;rintro e wa4 ⟨v4,rfl,l,a⟩;obtain⟨a4,c4,rfl,Af,_,_⟩:=l.src;rw [aK] at Af⊢;have ap6:=a.size;obtain⟨x4,wb4,bI,aA,iR⟩:=rt (B:=wr.heap.size) (show Own wa4 wr.heap.size x3 ([] ++ bD 4 L.ep ++ bD 4 (L.head+j) ++ bD 2 j) from HO3.o.later a) c4 Af (by omega) (by simp [aK]) (by omega);have ap8:=iR.size;have H7:=yh bI;have HO4:=yh aA;have jZ:Yh (bW wr wb4):=fS.o.trans ((a.mono (by omega)).trans iR);clear Js l a Af bI aA iR;obtain⟨x5,m,bI,aA,iR⟩:=rt (B:=wr.heap.size) HO4.o (c-j*492) (HSP.o.later jZ.o) (by omega) (by simp [aK];omega) (by omega);have H8:=yh bI;have HO5:Yh (Own m wr.heap.size x5 (kR L.ep (L.head+j) j C (partOf d j))):=by
    refine yh ?_;unfold kR;simpa [rG] using aA
   have jr:Yh (bW wr m):=jZ.o.trans iR;have pT:=iR.size;have KC:=R8.o.later jr.o;obtain⟨g2,g3,g6⟩:=kH KC.c2 KC.c3 KC.c6;clear bI aA iR KC;go_wp2_with (at_builtin;first|refine bu rfl _ _ 36 rfl x3 (.slice a4 2 c4) _ rfl rfl H7.o ?_|refine bu rfl _ _ 36 rfl x4 (.slice (some ⟨b,o+j*492,none⟩) (gF x j) (c-j*492)) _ rfl rfl H8.o ?_);have rP:((L.head:Int)+(j:Int)).tmod (L.n:Int)=(((L.head+j)%L.n:Nat):Int):=(by rw [yI (by omega),<-Int.natCast_add,<-Int.natCast_emod]);have SE:((L.head:Int)+(j:Int))%(L.n:Int)=(((L.head+j)%L.n:Nat):Int):=(by rw [<-Int.natCast_add,<-Int.natCast_emod]);have hmd:(L.head+j)%L.n<L.n:=Nat.mod_lt _ (by omega);obtain⟨M,hM⟩:=bP ((L.head+j)%L.n);rw [<-hM] at rP SE hmd;have HM:=yh hM;clear hM;go_quiet (fail);have p:=below_drewN (bi m.heap.size m) nq;have Bv:=jr.o.trans (p.mono jr.o.size);have MW:=R8.o.later Bv;have pK:=te.o.later Bv;have hzq:=p.size;generalize m.drewN nq=w6 at*;have hpj:=(mI (L:=L) (S:=S) (s:=s) (d:=d) (by omega) eM j).2.2.2;have aej:(cX L S s d j).2.fN:=mG FF.o (λi T hT=>by
    rw [MV];exact hT.wr s _ _ (wO (mH (oM hd _)))) j
   have mu:=bA te.o.ok (L.f+2+M) (by omega);have mm:=sJ (old:=(cX L S s d j).2.now (L.f+2+M)) (body:=kR L.ep (L.head+j) j C (partOf d j)) mu (by rw [vz,Ks,US];omega);have h3:=jP pK (L.f+2+M) (by omega) (by omega);rw [show ((L.f+2+M:Nat):Int)=(L.f:Int)+2+(M:Int) by omega] at h3;obtain⟨g0',W,xG,HO6,Y,U⟩:=jH MW.c0 (yh pK) (yh Bv) (yh (HO5.o.later p)) (yh MW) (yh (aej.now (L.f+2+M)));have E:cX L S s d (j+1)=(cX L S s d j).2.wr s ((L.f+2+M:Nat):Int) 512 (gy ((cX L S s d j).2.now (L.f+2+M)) (kR L.ep (L.head+j) j C (partOf d j))).1:=by
    have:cX L S s d (j+1)=j2 (cX L S s d j).2 s L.f L.n L.ep (L.head+j) j (di d.length) (partOf d j):=ju HE.o;rw [this,MV,US,Yi,<-HM.o]
   have X:=yh E;clear pK Bv MW aej E p;go_wp2_with fail;refine h3.mono ?_;rintro e w7 ⟨gn,cn,rfl,hFg,be,UH⟩;have ajn:=UH.symm;clear UH;subst ajn;obtain⟨a7,c7,Od,MK,_,_⟩:=HO6.o.src;subst Od;have i7:=be.src;rw [mu] at i7;have h4:=qW (some (aD gn 0)) 512 cn ((cX L S s d j).2.now (L.f+2+M)) a7 _ c7 (kR L.ep (L.head+j) j C (partOf d j)) w6 i7 MK (mH (oM hd _)) U.o;rw [mm.1] at h4;clear h3 be i7 MK;go_wp2_with fail;refine h4.mono ?_;rintro e w8 ⟨v8,rfl,I,AB⟩;obtain⟨a8,c8,rfl,Jw,_,_⟩:=I.src;have h5:=iG (W.o.later AB) ((L.f+2+M:Nat):Int) a8 _ c8 _ Jw (by omega);rw [mm.2,<-X.o,show ((L.f+2+M:Nat):Int)=(L.f:Int)+2+(M:Int) by omega] at h5;rw [mm.2];have aqe:=(Y.o.later AB).c0;have Ys:=yh (xG.o.trans (AB.mono xG.o.size));have hz8:=AB.size;clear h4 I Jw AB;go_wp2_with fail;refine fQ h5 λw9 A Br=>?_;have hz9:=Br.size;have G:=A.mono (λi g=>by
    rcases g with (g|g)|g
    .exact .inl g
    .exact .inr ⟨g.1,by omega⟩
    .exact .inr ⟨by omega,g.2⟩) (cK (F:=F) (w:=R) (λi g=>by have:=iM.o i g;omega) (by omega))
   have KD:=(Dd.o.trans (aa.ah (λ_=>False) Ys.o) (λ_ h=>h.elim)).trans Br (λi g=>by
    rcases g with g|g
    .exact .inl g
    .exact .inr g.1)
   obtain⟨PY,Jr⟩:=bV G KD;clear A Br h5 G KD;by_cases v:(cX L S s d (j+1)).1=0
   .have d9:((cX L S s d (j+1)).1 == 0)=true:=(by rw [beq_iff_eq];exact v);have y:=yh v;clear v;go_wp2;go_roundw;case rel=>exact⟨j+1,by omega,by go_num,y.o,PY.o,Jr.o⟩
    case measure=>simp [intOf];omega
   .have d9:((cX L S s d (j+1)).1 == 0)=false:=(by rw [fy];exact v);have e2:cX L S s d C=cX L S s d (j+1):=gD v C (by omega);have t:P=((cX L S s d (j+1)).1,(cX L S s d (j+1)).2,L):=(by rw [HP.o,e2,aG v]);have y:=yh t;clear v e2 t;go_wp2;go_ret;rw [y.o];exact⟨rfl,PY.o.from iM.o em (by omega),VN.o.aw Jr.o hF,((aa.ah F ff.o).trans Jr.o (λ_ h=> .inl h)).mono (λ_ h=> .inl h)⟩
  .obtain rfl:j=C:=(by omega);have wK:¬(j:Int)<(j:Int):=(by omega);have c6:=B6.c6;have f6:=B6.fz 6;have t:P=(0,(cX L S s d j).2,{L with head:=L.head+j}):=(by rw [HP.o,aB (by rw [HE.o];decide)]);have y:=yh t;have ez:aa (λi=>i=k) wr (wr.setCell ⟨k,6,none⟩ (.int .i64 ((L.head:Int)+(j:Int)))):=aL (F:=λi=>i=k) _ rfl 6 _;have H:cM (wr.setCell ⟨k,6,none⟩ (.int .i64 ((L.head:Int)+(j:Int)))) k r {L with head:=L.head+j}:=(heap_setCell_same _ _ 6 _ _ _ B6).trans (by simp);have HZ:=yh (aH (te.o.tk (w:=w) (k:=k) iM.o ez hF (by omega) em Au) (aH H ((((aa.ah F ff.o).trans Dd.o (λ_ h=> .inl h)).mono (λ_ h=> .inl h):aa (λi=>F i\/i=k) w wr).trans ez (λ_ h=> .inl (.inr h)))));clear t ez H B6;go_wp2;go_ret;rw [y.o];exact⟨rfl,HZ.o⟩
end
end
section
section
variable {w w':World} {F G:Nat->Prop} {r s k:Nat} {S:DS} {L:LG}
def K5 (h:aC w F r s S) (A:cM w k r L) (q:L.Ok s) (a:Option Addr) (x c:Nat) (J:x<=140737488355328) (d:L.fY S x≠0):
  Calls prog 144 #[pQ k, .slice a x c] w λe w'=>e= .returned (iV (L.fY S x))/\bW w w':=by
 have b:=ma h A;have f:=λwx=>tp x wx J;obtain⟨i,I,eh,lJ⟩:=cP (yh A) q.hi q.th q.n2;unfold LG.fY at d⊢;clear h A q;by_cases g:L.bm S=0
 .simp only [aB (λh:¬L.bm S=0=>h g)] at d⊢;rw [g] at b;clear g;by_cases t:x=0
  .simp only [aG t];have E:((x:Int) == 0)=true:=(by rw [beq_iff_eq];omega);clear d t;go_in;go_wp2_with fail;refine bJ b λw1 ar=>?_;have cu:=i.o.later ar;obtain⟨l,m,p⟩:=kH cu.c3 cu.c5 cu.c6;clear b;go_wp2_with fail;refine(f _).mono ?_;rintro e y ⟨rfl,dN⟩;have ec:=dN.symm;subst ec;have cQ:=yh ar;clear f dN ar cu;go_wp2;go_ret;exact⟨rfl,cQ.o⟩
  .simp only [aB t] at d⊢;have E:((x:Int) == 0)=false:=(by rw [fy];omega);clear t;by_cases u:8364<x
   .simp only [aG u];have G:(8364:Int)<(x:Int):=(by omega);clear d u;go_in;go_wp2_with fail;refine bJ b λw1 ar=>?_;have cu:=i.o.later ar;obtain⟨l,m,p⟩:=kH cu.c3 cu.c5 cu.c6;clear b;go_wp2_with fail;refine(f _).mono ?_;rintro e y ⟨rfl,dN⟩;have ec:=dN.symm;subst ec;have cQ:=yh ar;clear f dN ar cu;go_wp2;go_ret;exact⟨rfl,cQ.o⟩
   .simp only [aB u] at d⊢;have G:¬(8364:Int)<(x:Int):=(by omega);clear u;have oG:di x=(x+491) / 492:=rfl;by_cases v:1073741824<L.head+di x
    .simp only [aG v];clear d;obtain⟨C,j⟩:=bP ((x+491) / 492);have Qs:C<=17:=(by omega);have H:(1073741824:Int)<(L.head:Int)+(C:Int):=(by omega);have z:=yh j;clear v oG j;go_in;go_wp2_with fail;refine bJ b λw1 ar=>?_;have cu:=i.o.later ar;obtain⟨l,m,p⟩:=kH cu.c3 cu.c5 cu.c6;clear b;go_wp2_with fail;refine(f _).mono ?_;rintro e y ⟨rfl,dN⟩;have ec:=dN.symm;subst ec;rw [<-z.o];have cQ:=yh ar;clear f dN ar cu;go_wp2;go_ret;exact⟨rfl,cQ.o⟩
    .simp only [aB v] at d⊢;by_cases D:L.tail+L.n<L.head+di x
     .simp only [aG D];clear d;obtain⟨C,j⟩:=bP ((x+491) / 492);have Qs:C<=17:=(by omega);have H:¬(1073741824:Int)<(L.head:Int)+(C:Int):=(by omega);have M:(L.n:Int)-((L.head:Int)-(L.tail:Int))<(C:Int):=(by omega);have z:=yh j;clear v D oG j;go_in;go_wp2_with fail;refine bJ b λw1 ar=>?_;have cu:=i.o.later ar;obtain⟨l,m,p⟩:=kH cu.c3 cu.c5 cu.c6;clear b;go_wp2_with fail;refine(f _).mono ?_;rintro e y ⟨rfl,dN⟩;have ec:=dN.symm;subst ec;rw [<-z.o];have cQ:=yh ar;clear f dN ar cu;go_wp2_with fail;go_quiet (fail);go_wp2;go_ret;exact⟨rfl,below_drewN cQ.o _⟩
     .exact absurd (aB D) d
 .simp only [aG (λh=>g h:¬L.bm S=0)];have K:(L.bm S == 0)=false:=by rw [fy];exact g
  clear d g;go_in;go_wp2_with fail;refine bJ b λw1 ar=>?_;have cu:=i.o.later ar;obtain⟨l,m,p⟩:=kH cu.c3 cu.c5 cu.c6;clear b;go_wp2_with fail;refine(f _).mono ?_;rintro e y ⟨rfl,dN⟩;have ec:=dN.symm;subst ec;have cQ:=yh ar;clear f dN ar cu;go_wp2;go_ret;exact⟨rfl,cQ.o⟩
def xo (h:aC w F r s S) (i:cM w k r L) (n:L.Ok s) (p:¬F k) (dO:S.fN) (a:Option Addr) (x c:Nat) (d:List Int) (l:Src w a x d) (UN:∀y,a=some y->0<x->¬F y.block) (hd:Bytes d) (m:x<=c) (q:x<=140737488355328) (aU:S.puts.length+100<=4000000000000):
  Calls prog 144 #[pQ k, .slice a x c] w λe w'=>e= .returned (iV (L.append S s d).1)/\aC w' (more F w w') r s (L.append S s d).2.1/\cM w' k r (L.append S s d).2.2/\aa (λj=>F j\/j=k) w w':=by
 by_cases f:L.fY S x=0
 .have jL:=(jM f).2.1;obtain⟨b,o,rfl⟩:=cZ l jL;exact K4 h i n p dO b o x c d l (UN _ rfl jL) hd m f aU
 .refine(K5 h i n a x c q f).mono ?_;rintro e w' ⟨rfl,g⟩;unfold LG.append;rw [l.1,aG f];exact⟨rfl,(h.later g).more,i.later g,aa.ah _ g⟩
end
end
section
section
variable {w w' w1 w2:World} {F X Y:Nat->Prop} {r s k kl t hm:Nat} {S:DS} {G:SG} {T:TG} {L:LG} {v u pv nv tv:Value} {ps qs us:List (Nat×List Int)} {xs ys:List Value}
def PL.ael (h:PL w X v ps xs) {o:Obj} {b:Nat} (A:ay w 5 g c (bs l)) (z:l.length=512/\Bytes l)
    (aA:w2.ownsRow 0 167 2 (.slice (some (aD g2 0)) (ps.length+1) cJ) (ps.length+1) (xs ++ [iV (b:Int), .slice (some (aD g 0)) 512 c]))
    (aR:(w.alloc o).grownBy w2 v.ownBlock) (x:∀i (_hi:i<ps.length) f c',xs[2*i+1]? =some (.slice (some (aD f 0)) 512 c')->Y f) (n:Y g) (m:Y g2):
  PL w2 Y (.slice (some (aD g2 0)) (ps.length+1) cJ) (ps ++ [(b,l)]) (xs ++ [iV (b:Int), .slice (some (aD g 0)) 512 c])/\aa (λj=>v.ownBlock=some j) w w2:=by
 have Zb:(w.alloc o).heap.size=w.heap.size+1:=by simp
 have jD:=aR.size;have d:=λj a p=>(aR.block j (by omega) p).trans (Below.heap_alloc _ _ _ a);have MH:∀j c r,ay w 5 j c r->ay w2 5 j c r:=λj c r a=>by
  have Bk:=a;obtain⟨cur,gN,_⟩:=Bk;exact a.agree (d j a.lt (λe=>dT h.own e.symm gN (by decide) rfl))
 have Jf:=h.own.1;refine⟨⟨by rw [ee];exact aA,λj a=>?_,λi y=>?_,λq k=>?_⟩,⟨aR.os,aR.tape,aR.output,by omega,λj a p=>d j a (λe=>p e.symm)⟩⟩
 .have e:j=g2:=by simpa [Value.ownBlock] using a.symm
  rw [e];exact m
 .by_cases nF:i<ps.length
  .obtain⟨f,c',t,s,C,u⟩:=h.put i nF;refine⟨f,c',?_,?_,x i nF f c' s,?_⟩
   .rw [u9 (by omega),t,List.getElem_append_left nF]
   .rw [u9 (by omega),s]
   .rw [List.getElem_append_left nF];exact MH _ _ _ u
  .have Fw:i=ps.length:=(by simp at y;omega);subst Fw;refine⟨g,c,?_,?_,n,?_⟩
   .rw [wm (by omega),show 2*ps.length-xs.length=0 by omega];simp
   .rw [wm (by omega),show 2*ps.length+1-xs.length=1 by omega];simp
   .simpa using MH _ _ _ A
 .rcases List.mem_append.1 k with k|k
  .exact h.len q k
  .rw [List.mem_singleton.1 k];exact z
def Pn (w:World) (X:Nat->Prop) (B:Nat) (v:Value) (ps:List (Nat×List Int)):Prop:=
 ∃xs,PL w (λj=>X j\/v.ownBlock=some j) v ps xs/\(∀g,v.ownBlock=some g->B<=g)/\∀i (_:i<ps.length) g c,xs[2*i+1]? =some (.slice (some (aD g 0)) 512 c)->X g
def Pn.nil (w:World) (X:Nat->Prop) (B:Nat):Pn w X B (.slice none 0 0) []:=by
 obtain⟨xs,h⟩:=Pl.nil w (λj=>X j\/(Value.slice none 0 0).ownBlock=some j);exact⟨xs,h,λg e=>by simp [Value.ownBlock] at e,λi a=>by simp at a⟩
def Pn.pl {B:Nat} (h:Pn w X B v ps):Pl w (λj=>X j\/v.ownBlock=some j) v ps:=by obtain⟨xs,h,_⟩:=h;exact⟨xs,h⟩
def Pn.lo {B:Nat} (h:Pn w X B v ps):∀g,v.ownBlock=some g->B<=g:=by obtain⟨xs,_,h,_⟩:=h;exact h
def Pn.aw {B:Nat} (h:Pn w X B v ps) (e:aa Z w w') (f:∀g,v.ownBlock=some g->¬Z g) (hd:∀g c ys,(X g\/v.ownBlock=some g)->ay w 5 g c ys->¬Z g):Pn w' X B v ps:=by
 obtain⟨xs,a,b,d⟩:=h;exact⟨xs,a.aw e f hd,b,d⟩
def Pn.later {B:Nat} (h:Pn w X B v ps) (a:bW w w'):Pn w' X B v ps:=h.aw (aa.ah (λ_=>False) a) (λ_ _ h=>h) (λ_ _ _ _ _ h=>h)
def Pn.aem {B:Nat} (h:Pn w X B v ps) {b:Nat} (n:X g) (u:ay w 5 g c (bs l)) (r:l.length=512/\Bytes l) (z:ps.length<=1000000) (y:B<=w.heap.size):
  ∃g2 cJ w2,(Builtin.append_ #[127,127] 127 #[v, .slice (some (aD w.heap.size 0)) 1 1]).run prog (w.alloc (.cells #[.int .i64 (b:Int), .slice (some ⟨g,0,none⟩) 512 c] 167))= .ok (.slice (some (aD g2 0)) (ps.length+1) cJ) w2/\Pn w2 X B (.slice (some (aD g2 0)) (ps.length+1) cJ) (ps ++ [(b,l)])/\aa (λj=>v.ownBlock=some j) w w2:=by
 obtain⟨xs,a,o,k⟩:=h;obtain⟨x,rS,gC,dE,em⟩:=info_parts qv;obtain⟨g2,cJ,w2,bI,aA,aR,it,bq⟩:=run_append_lies (P:=prog) (w.alloc (.cells #[.int .i64 (b:Int), .slice (some ⟨g,0,none⟩) 512 c] 167)) 127 127 0 167 x _ 2 32 underlying127 rS gC dE em rfl (by omega) v ps.length xs (aF a.own (λj e=>Below.heap_alloc w _ _ (qw a.own e))) (aD w.heap.size 0) 1 1 [iV (b:Int), .slice (some (aD g 0)) 512 c] (by rfl) (World.news_of_block (cs:= #[iV (b:Int), .slice (some (aD g 0)) 512 c]) (t:=167) (fr:=(0,0)) (heap_alloc_new w _)) (by simp [Value.oneCell']) (by omega) (by unfold maxLen;omega) (by omega) (dL _) (w.heap.size+1) (by simp);obtain⟨s,q⟩:=a.ael (Y:=λj=>X j\/(Value.slice (some (aD g2 0)) (ps.length+1) cJ).ownBlock=some j) u r aA aR (λi f d c' e=> .inl (k i f d c' e)) (.inl n) (.inr rfl);have Jf:=a.own.1;refine⟨g2,cJ,w2,bI,⟨_,s,λj p=>?_,λi f d c' e=>?_⟩,q⟩
 .have e:j=g2:=by simpa [Value.ownBlock] using p.symm
  rcases it with m|m
  .rw [e];exact o g2 m
  .omega
 .by_cases nF:i<ps.length
  .rw [u9 (by omega)] at e;exact k i nF d c' e
  .have Fw:i=ps.length:=(by simp at f;omega);subst Fw;rw [wm (by omega),show 2*ps.length+1-xs.length=1 by omega] at e;simp at e;rw [<-e.1];exact n
def OO (d:List Int) (hd:(L.append S s d).2.2.dead (L.append S s d).2.1=false):L.dead S=false:=by
 unfold LG.append at hd;split at hd
 .exact hd
 .rename_i q;cases a:L.dead S
  .rfl
  .exfalso;apply q;unfold LG.fY LG.bm;rw [a];simp
end
end
section
section
variable {S:DS} {s f:Nat} {L:LG} {G:SG}
def nZ (h:S.Ok s) (e:f+1<s) (num:Int):(dg S s f num).2.Ok s/\∀j,f+2<=j->j<s->(dg S s f num).2.now j=S.now j:=by
 unfold dg;by_cases a:S.fuse=0
 .rw [aG a];exact⟨h,λ_ _ _=>rfl⟩
 .rw [aB a];by_cases c:(aP (S.now f) (S.now (f+1)) num []).2.2≠0
  .rw [aG c];exact⟨h,λ_ _ _=>rfl⟩
  .rw [aB c];have mX:=fW (S.now f) (S.now (f+1)) num [];have FB:=kQ (S.now f) (S.now (f+1)) num [] (by omega);generalize aP (S.now f) (S.now (f+1)) num []=Y at*;rw [show (f:Int)+(Y.1:Int)=((f+Y.1:Nat):Int) by omega];by_cases d:(S.wr s ((f+Y.1:Nat):Int) 512 Y.2.1).1≠0
   .exact absurd (RC (by omega) d).2 a
   .rw [aB d];have N5:=um h a (show f+Y.1<s by omega) FB;refine⟨so N5,λj g b=>?_⟩;rw [fa N5 b,jN a (by omega),aB (by omega)]
def qG (h:S.Ok s):(L.sync S s).2.Ok s/\(L.sync S s).2.life=S.life/\∀j,j<s->(L.sync S s).2.now j=S.now j:=by
 unfold LG.sync;split
 .exact⟨h,rfl,λ_ _=>rfl⟩
 .exact⟨so h,fZ _ _,λj a=>fa h a⟩
def H9 (h:S.Ok s) (k:L.f+1<s):(L.trim S s).2.1.Ok s/\∀j,L.f+2<=j->j<s->(L.trim S s).2.1.now j=S.now j:=by
 obtain⟨c,_,b⟩:=qG (L:=L) h;obtain⟨g,i⟩:=nZ c k ((L.ep:Int)*4294967296+(L.head:Int));unfold LG.trim;split
 .exact⟨c,λj _ e=>b j e⟩
 .split
  .exact⟨c,λj _ e=>b j e⟩
  .split
   .exact⟨g,λj d a=>(i j d a).trans (b j a)⟩
   .exact⟨g,λj d a=>(i j d a).trans (b j a)⟩
def SF {E P:Nat} (h:S.Ok s) (d:1<=n) (k:f+2+n<=s) (g:l.length<=492):(j2 S s f n E P i c l).2.Ok s/\∀j,f+2+n<=j->(j2 S s f n E P i c l).2.now j=S.now j:=by
 have:=Nat.mod_lt P d;have a:(kR E P i c l).length<=504:=by rw [vz];omega
 unfold j2;by_cases b:S.fuse=0
 .rw [aG b];exact⟨h,λ_ _=>rfl⟩
 .rw [aB b];exact⟨um h b (by omega) (sJ (bA h (f+2+P%n) (by omega)) a).2,λj e=>by rw [jN b (by omega),aB (by omega)]⟩
def Dj (h:S.Ok s) (o:1<=L.n) (p:L.f+2+L.n<=s) {d:List Int}:∀k,(cX L S s d k).2.Ok s/\∀j,L.f+2+L.n<=j->(cX L S s d k).2.now j=S.now j
 |0=>⟨h,λ_ _=>rfl⟩
 |k+1=>by
  obtain⟨b,g⟩:=Dj h o p (d:=d) k;by_cases e:(cX L S s d k).1=0
  .have a:cX L S s d (k+1)=j2 (cX L S s d k).2 s L.f L.n L.ep (L.head+k) k (di d.length) (partOf d k):=ju e;have t:(partOf d k).length<=492:=(by unfold partOf;rw [oj];omega);obtain⟨q,r⟩:=SF (n:=L.n) (f:=L.f) (E:=L.ep) (P:=L.head+k) (i:=k) (c:=di d.length) (l:=partOf d k) b o p t;rw [a];exact⟨q,λj m=>(r j m).trans (g j m)⟩
  .have a:cX L S s d (k+1)=cX L S s d k:=gD e (k+1) (by omega);rw [a];exact⟨b,g⟩
def AC (h:S.Ok s) (a:1<=L.n) (b:L.f+2+L.n<=s) (d:List Int):(L.append S s d).2.1.Ok s/\∀j,L.f+2+L.n<=j->(L.append S s d).2.1.now j=S.now j:=by
 unfold LG.append;split
 .exact⟨h,λ_ _=>rfl⟩
 .split <;> exact Dj h a b _
end
section
variable {w w':World} {F X:Nat->Prop} {r s k kl t hm:Nat} {S:DS} {G:SG} {pv nv:Value} {ps:List (Nat×List Int)}
def vX {S:DS} {f:Nat} (a:S'.now f=S.now f) (b:S'.now (f+1)=S.now (f+1)):S'.num f=S.num f:=by unfold DS.num;rw [a,b]
def lx.home {y:LY} (h:lx w k r kl y pv hm nv) (n:Nat):lx (w.setCell ⟨k,8,none⟩ (.int .i64 (n:Int))) k r kl y pv n nv:=
   (heap_setCell_same _ _ 8 _ _ _ h).trans (by simp)
def PV.drop (h:PV w X v ps) (n:Nat) (A:n<=ps.length) {b o:Nat} (u:v= .slice (some (aD b o)) ps.length c) (c':Nat):PV w X (.slice (some ⟨b,o+n*2,none⟩) (ps.length-n) c') (ps.drop n):=by
 obtain⟨⟨a,y,d,p⟩,s⟩:=h;rw [u] at d;cases d;refine⟨⟨_,_,by rw [List.length_drop],λh0=>?_⟩,λq t=>s q (List.mem_of_mem_drop t)⟩;rw [List.length_drop] at h0;obtain⟨z,C,e,x,r⟩:=p (by omega);cases e;refine⟨b,o+n*2,rfl,x,λi bq=>?_⟩;rw [List.length_drop] at bq;obtain⟨g,f,j,k,l,m⟩:=r (n+i) (by omega);refine⟨g,f,?_,?_,l,?_⟩
 .rw [List.getElem_drop,show o+n*2+i*2=o+(n+i)*2 by omega];exact j
 .rw [show o+n*2+i*2+1=o+(n+i)*2+1 by omega];exact k
 .rw [List.getElem_drop];exact m
def iN.checked (h:iN w F X r s S k kl G pv ps hm nv) (dw:S.Ok s):∃hm',hm'<=ps.length/\(hm'=if (G.check S s).1=0 then ps.length else hm)/\(G.check S s).2.2.ov=CM.bU [] (ps.drop hm')/\(G.check S s).2.2.y=G.y/\(G.check S s).2.2.L.f=G.L.f/\(G.check S s).2.2.L.n=G.L.n/\(G.check S s).2.1.Ok s/\
    ((G.check S s).2.2.L.dead (G.check S s).2.1=false->∀b,b<G.y.blocks->CM.get (G.check S s).2.2.ov b=none->∀c,jC ps b=some c->(G.check S s).2.1.now (G.y.home+b)=c):=by
 have EH:∀q∈G.ov,G.y.home+q.1<s/\q.2.length=512:=λq o=>by
  rw [h.ov] at o;have:=List.mem_of_mem_drop (eW o);exact⟨by have:=h.kb q this;have:=h.hs;omega,(h.pl.len q this).1⟩
 have g:CM.Ok G.ov:=by rw [h.ov];exact mP _
 have B8:=h.lh;have Ya:=h.hs;have I:∀b,CM.get G.ov b=jC (ps.drop hm) b:=λb=>by rw [h.ov];exact ib _ _
 have J:∀b,jC ps b=(jC (ps.drop hm) b).or (jC (ps.take hm) b):=λb=>by rw [<-mh,List.take_append_drop]
 obtain⟨p,K,D⟩:=qG (L:=G.L) dw;obtain⟨M,N,x,E,H⟩:=eE (h0:=G.y.home) (ms:=G.ov) p EH;obtain⟨z,A⟩:=H9 (L:=G.L) x (by omega);have Zg:=h.un;have u:(G.L.sync S s).1=0->G.L.dead S=false:=λa=>by
  unfold LG.sync at a;split at a
  .rename_i q;exact absurd a q
  .rename_i q;unfold LG.bm at q;cases hd:G.L.dead S
   .rfl
   .rw [hd] at q;simp at q
 have it:=λ(b:Nat) (c:List Int)=>Dg (b:=b) (c:=c) p g EH;have DU:(G.L.sync S s).1≠0->(G.L.sync S s).2=S:=λa=>by
  unfold LG.sync at a⊢;split
  .rfl
  .rename_i q;rw [aB q] at a;exact(lD a).1
 unfold SG.check;generalize G.L.sync S s=Z at*;by_cases j:Z.1≠0
 .rw [aG j];refine⟨hm,h.hm,by rw [aB j],h.ov,rfl,rfl,rfl,p,?_⟩;rw [DU j];exact Zg
 .rw [aB j];generalize aE Z.2 s G.y.home G.ov=Y at*;by_cases l:Y.1≠0
  .rw [aG l];refine⟨hm,h.hm,by rw [aB l],h.ov,rfl,rfl,rfl,x,λhd=>?_⟩;have:=E l;unfold LG.dead at hd;rw [this] at hd;simp at hd
  .rw [aB l];have kZ:∀b,b<G.y.blocks->CM.get G.ov b=none->∀c,jC ps b=some c->(G.L.trim Y.2 s).2.1.now (G.y.home+b)=c:=λb t d c i=>by
    rw [A _ (by omega) (by omega),H _ (λq o e=>?_),D _ (by omega)]
    .exact Zg (u (Decidable.not_not.1 j)) b t d c i
    .have:q.1=b:=(by omega);have C:=CM.get_of_mem g (k:=q.1) (c:=q.2) o;rw [this,d] at C;cases C
   have m:(G.L.trim Y.2 s).2.2.f=G.L.f/\(G.L.trim Y.2 s).2.2.n=G.L.n:=by
    unfold LG.trim;split
    .exact⟨rfl,rfl⟩
    .split
     .exact⟨rfl,rfl⟩
     .split <;> exact⟨rfl,rfl⟩
   by_cases v:(G.L.trim Y.2 s).1≠0
   .rw [aG v];exact⟨hm,h.hm,by rw [aB v],h.ov,rfl,m.1,m.2,z,λ_=>kZ⟩
   .rw [aB v];refine⟨ps.length,bR _,by rw [aG rfl],?_,rfl,m.1,m.2,z,λ_ b t _ c i=>?_⟩
    .rw [List.drop_length];rfl
    .cases d:CM.get G.ov b with
     |none=>exact kZ b t d c i
     |some c'=>
      have:c'=c:=by
       rw [J,<-I,d] at i;exact Option.some.inj i
      subst this;show (G.L.trim Y.2 s).2.1.now (G.y.home+b)=c';rw [A _ (by omega) (by omega)];exact it b c' (Decidable.not_not.1 l) d
end
end
section
section
variable {w w':World} {F X:Nat->Prop} {r s k kl t hm:Nat} {S:DS} {G:SG} {pv nv:Value} {ps:List (Nat×List Int)}
def Pl.shape (h:Pl w X v ps):(v= .slice none 0 0/\ps= [])\/∃g cap,v= .slice (some (aD g 0)) ps.length cap/\ps.length<=cap/\cap<=maxLen/\X g:=by
 obtain⟨xs,h⟩:=h;obtain⟨_,⟨e,c⟩|⟨g,cap,cur,e,_,_,a,b,_⟩⟩:=h.own
 .exact .inl ⟨e,List.length_eq_zero_iff.1 c⟩
 .exact .inr ⟨g,cap,e,a,b,h.row g (by rw [e];rfl)⟩
def aen (w:World) (X:Nat->Prop):PV w X (.slice none 0 0) ([]:List (Nat×List Int)):=(Pl.nil w X).pv
def PV.dropped (h:PV w X (.slice (some (aD g 0)) ps.length cap) ps) (b:hm<=ps.length) (d:ps.length<=cap):PV w X (.slice (if cap=hm then some (aD g 0) else some ⟨g,hm*2,none⟩) (ps.length-hm) (cap-hm)) (ps.drop hm):=by
 by_cases e:cap=hm
 .have a:ps.drop hm= []:=List.drop_eq_nil_of_le (by omega);rw [a];exact⟨⟨_,_,by rw [show ps.length-hm=([]:List (Nat×List Int)).length by simp;omega],λh0=>by simp at h0⟩,λq c=>by cases c⟩
 .rw [aB e];have:=h.drop hm b rfl (cap-hm);rwa [Nat.zero_add] at this
def PV.SH (h:PV w X (.slice (some (aD g 0)) ps.length cap) ps) (c:hm<=ps.length) (a:ps.length<=cap) (b:¬cap=hm):PV w X (.slice (some ⟨g,hm*2,none⟩) (ps.length-hm) (cap-hm)) (ps.drop hm):=by
 have:=h.dropped c a;rwa [aB b] at this
def PV.SI (h:PV w X (.slice (some (aD g 0)) ps.length hm) ps) (b:hm<=ps.length) (a:ps.length<=hm):PV w X (.slice (some (aD g 0)) 0 0) (ps.drop hm):=by
 have:=h.dropped b a;rwa [aG rfl,Nat.sub_self,Nat.sub_eq_zero_of_le a] at this
def SJ (b:w0.heap.size<=w1.heap.size) (hd:aC w2 (more F w1 w2) r s S'):aC w2 (more F w0 w2) r s S':=
 hd.mono (λk a=>a.imp id (λh=>⟨by omega,h.2⟩)) (λk a=>a.elim (λh=>hd.lt k (.inl h)) (λh=>h.2))
def K6 (b:w0.heap.size<=w1.heap.size) (em:w1.heap.size<=w2.heap.size) (hd:aC w2 (more (more F w0 w1) w1 w2) r s S'):aC w2 (more F w0 w2) r s S':=
 hd.mono (λk a=>by
  rcases a with (a|a)|a
  .exact .inl a
  .exact .inr ⟨a.1,by omega⟩
  .exact .inr ⟨by omega,a.2⟩) (λk a=>a.elim (λh=>hd.lt k (.inl (.inl h))) (λh=>h.2))
def aay (w:World) (F X:Nat->Prop) (r s k kl:Nat) (S:DS) (G:SG) (pv nv:Value) (ps:List (Nat×List Int)) (e:Ending) (w':World):Prop:=
 e= .returned (iV (G.check S s).1)/\aC w' (more F w w') r s (G.check S s).2.1/\(∃hm',iN w' (more F w w') X r s (G.check S s).2.1 k kl (G.check S s).2.2 pv ps hm' nv)/\aa (λj=>F j\/j=k\/j=kl) w w'
def iN.after (h:iN w F X r s S k kl G pv ps hm nv) (dw:S.Ok s) {hm':Nat} (bj:lx w' k r kl G.y pv hm' nv) (v:hm'=if (G.check S s).1=0 then ps.length else hm) (Zh:cM w' kl r (G.check S s).2.2.L) (Bl:(G.check S s).2.2.L.Ok s/\(G.check S s).2.2.L.begun=true) (i:aa (λj=>F j\/j=k\/j=kl) w w'):iN w' (more F w w') X r s (G.check S s).2.1 k kl (G.check S s).2.2 pv ps hm' nv:=by
 obtain⟨n,m,f,o,b,p,q,x,t⟩:=h.checked dw;rw [<-v] at f;subst f;refine⟨by rw [b];exact bj,Zh,h.pl.aw i (λg e a=>?_) (λg c z u l a=>?_),h.xk,h.xl,λg d a=>?_,λg d=>iL (h.lt g d) i.size,Bl.1,Bl.2,by rw [b];exact h.hs,by rw [b,p,q];exact h.lh,o,m,by rw [b];exact h.kb,by rw [b];exact t⟩
 .rcases a with a|a|a
  .exact h.fO g (h.pl.row g e) a
  .exact h.pl.ne e h.st (by decide) a
  .exact h.pl.ne e h.lp (by decide) a
 .rcases a with a|a|a
  .exact h.fO g u a
  .exact l.ne h.st (by decide) a
  .exact l.ne h.lp (by decide) a
 .rcases a with a|a
  .exact h.fO g d a
  .have:=h.lt g d;omega
def AD (hd:aC w F r s S) (h:iN w F X r s S k kl G pv ps hm nv) (dO:S.fN) (fE:G.L.bm S=0->S.num G.L.f<=G.L.ep*4294967296+G.L.tail) (aU:S.puts.length+4000<=4000000000000) (Wp:ps.length<=4000000000000):
  Calls prog 78 #[pQ k] w λe w'=>aay w F X r s k kl S G pv nv ps e w':=by
 obtain⟨dw,WH,B8,Ya,vu,iu⟩:=jH hd.ok h.lk h.lh h.hs h.lk.s h.lk.n1;have lG:=dw.hi;have EH:∀q∈G.ov,G.y.home+q.1<s/\q.2.length=512:=λq W=>by
  rw [h.ov] at W;have:=List.mem_of_mem_drop (eW W);exact⟨by have:=h.kb q this;omega,(h.pl.len q this).1⟩
 have UZ:∀q∈G.ov,Bytes q.2:=λq W=>by
  rw [h.ov] at W;exact(h.pl.len q (List.mem_of_mem_drop (eW W))).2
 have Yt:G.ov.length<=2048:=by
  have vf:CM.Ok G.ov:=by rw [h.ov];exact mP _
  have D:=CM.length_le (n:=2048) vf (λq W=>by have:=(EH q W).1;omega) 0 (λ_ _=>dL _);rcases D with D|D
  .omega
  .rw [D];simp
 obtain⟨a1,a2,a3⟩:=qG (L:=G.L) dw;obtain⟨b1,b2,b3,b4,b5⟩:=eE (h0:=G.y.home) (ms:=G.ov) a1 EH;have D:=C5 hd h.lp (h.fO _ h.xl) (by omega);have hZp:=nN G.L S s;have hZb:=qd dO G.L s;have hYp:=eG (G.L.sync S s).2 s G.y.home G.ov;have hYb:=kv hZb s G.y.home UZ;have hXk:=EB h.lk (aE (G.L.sync S s).2 s G.y.home G.ov).2;have Yu:(G.L.sync S s).1=0->(aE (G.L.sync S s).2 s G.y.home G.ov).2.num G.L.f<=G.L.ep*4294967296+G.L.tail:=λhz=>by
  have hu:G.L.bm S=0:=by
   unfold LG.sync at hz;split at hz
   .rename_i q;exact absurd hz q
   .rename_i q;exact Decidable.not_not.1 q
  rw [vX (S:=S) ((b5 _ (λq W e=>by omega)).trans (a3 _ (by omega))) ((b5 _ (λq W e=>by omega)).trans (a3 _ (by omega)))];exact fE hu
 have h2:=λ(w1:World) (iP:aC w1 F r s (G.L.sync S s).2) (v:Value) (hp:PV w1 X v (ps.drop hm))=>Av (y:=G.y) iP hp h.fO Ya (λx hx=>h.kb x (List.mem_of_mem_drop hx)) (by omega) (by rw [List.length_drop];omega);have h3:=λ(hz:(G.L.sync S s).1=0) (w1:World) (F1:Nat->Prop) (iP:aC w1 F1 r s (aE (G.L.sync S s).2 s G.y.home G.ov).2) (cu:cM w1 kl r G.L) (iu:¬F1 kl)=>OM iP cu h.lk iu hYb (by omega) (λ_=>Yu hz);rw [<-h.ov] at h2;have jK:=λ(w':World) (hm':Nat)=>iN.after (w':=w') (hm':=hm') h dw;obtain⟨R,I⟩:=bP (G.check S s);unfold aay;rw [<-I] at jK⊢;unfold SG.check at I;obtain⟨vO,c1,H,nf,Jh,pr,hlw,xZ,mu⟩:=M9 h.bg h.st.c1 (yh h) (yh jK) h.kne h.st.lt h.lp.lt (h.fO _ h.xk) (h.fO _ h.xl);generalize G.L.sync S s=Z at*;generalize aE Z.2 s G.y.home G.ov=Y at*;generalize G.L.trim Y.2 s=V at*;obtain⟨H2,H3,E⟩:=kI h2 h3 hXk;clear h h2 h3 hXk hZb hYb dO jK fE Yu EH UZ a1 a2 a3 b1 b2 b3 b4 b5 hd;by_cases k1:Z.1=0
 .have d1:(Z.1 == 0)=true:=by rw [k1];rfl
  rw [aB (λh=>h k1)] at I;have ON:=yh k1;clear k1;rcases H.o.pl.shape with ⟨xP,DT⟩|⟨gp,cap,xP,zT,aqh,hXg⟩
  .have h0:=H.o.hm;rw [DT] at h0;obtain rfl:hm=0:=(by simpa using h0);subst xP DT;obtain⟨HP,EJ⟩:=bV (λ(w1:World) (_:aa F w w1)=>aen w1 X) I;clear I;go_in;go_wp2_with fail;refine pz D λw1 iP cu fh=>?_;have el:=H.o.st.aw fh xZ;have dE:=fh.size;have pk:=HP.o w1 fh;obtain⟨K,M,N,O,P,Q,T⟩:=nD el.c0 el.c2 el.c3 el.c4 el.c5 el.c6 el.c7;have U:w1.cell? (aD k 8)=some (iV 0):=el.c8;have hb:=H2.o w1.drew (iP.later (ai (bi _ _))) _ (pk.later (ai (bi _ _)));have CT:=yh fh;have pd:=yh el;have BW:=yh cu;have HB:=yh hb;clear D iP cu fh el pk hb;go_wp2_with fail;go_region_held3 (λw'=>w'.cell? (aD k 0)=some (pQ r)/\w'.cell? (aD k 2)=some (iV (G.y.log:Int))/\w'.cell? (aD k 3)=some (iV (G.y.home:Int))/\w'.cell? (aD k 4)=some (iV (G.y.blocks:Int))/\w'.cell? (aD k 5)=some (iV (G.y.nodes:Int))/\w'.cell? (aD k 6)=some (iV (G.y.data:Int))/\w'.cell? (aD k 7)=some (.slice none 0 0)/\w'.cell? (aD k 8)=some (iV (0:Int)))
    (first|exact⟨K,M,N,O,P,Q,T,U⟩|exact⟨br.c0,br.c2,br.c3,br.c4,br.c5,br.c6,br.c7,br.c8⟩)
      ((go_at_call 124;refine HB.o.mono ?_;rintro e m ⟨rfl,cI,aY⟩;have br:=(pd.o.later (ai (bi _ _))).aw aY xZ;have fK:=(BW.o.later (ai (bi _ _))).aw aY mu))
   have pr:=(CT.o.trans (aa.ah F (ai (bi w1.heap.size w1))) (λ_ h=> .inl h)).trans aY (λ_ h=> .inl h);have uB:=SJ dE cI;by_cases l:Y.1=0
   .have d2:(Y.1 == 0)=true:=(by rw [l];rfl);have Yv:=yh l;clear l;have iu:¬more F w m kl:=λe=>e.elim mu (λe=>by omega);have SK:¬more F w m k:=λe=>e.elim xZ (λe=>by omega);obtain⟨SL,c12,xJ,SM⟩:=cP (H3.o ON.o m (more F w m) uB fK iu) br.c1 (yh br) (yh pr);clear cI aY br fK pr uB K M N O P Q T U;go_wp2_with fail;refine pz SL λc i iq aZ=>?_;have lq:=aZ.size;have fM:=xJ.o.aw aZ (λe=>e.elim SK Jh);have qB:=K6 SM.o.size lq i;have qC:=(SM.o.mono (λ_ h=> .inl h):aa (λj=>F j\/j=k\/j=kl) w m).trans aZ (λj b=>by rcases b with (b|b)|b;exact .inl (.inl b);exact .inr b.1;exact .inl (.inr (.inr b)));by_cases d:V.1=0
    .have d3:(V.1 == 0)=true:=(by rw [d];rfl);have a:=yh EJ.o;rw [aB (λh=>h Yv.o),aB (λh=>h d)] at a;have J:=yh d;clear d;have c73:=fM.c7;have c83:=fM.c8;have f83:=fM.fz 8;have ez:aa (λj=>j=k) c (c.setCell ⟨k,8,none⟩ (.int .i64 ((0:Nat):Int))):=aa.setCell (F:=λj=>j=k) c (p:=(aD k 8)) rfl _;have SN:¬more F w c k:=λe=>e.elim xZ (λe=>by omega);have C:=qB.aw ez (λj b e=>SN (e▸b));have eM:(c.setCell ⟨k,8,none⟩ (.int .i64 ((0:Nat):Int))).heap.size=c.heap.size:=(by simp [World.setCell]);have Ia:aC (c.setCell ⟨k,8,none⟩ (.int .i64 ((0:Nat):Int))) (more F w (c.setCell ⟨k,8,none⟩ (.int .i64 ((0:Nat):Int)))) r s V.2.1:=(by unfold more;rw [eM];exact C);have z:=yh (aH Ia (aH (iq.aw ez (λe=>Jh e.symm)) (aH (fM.home 0) (qC.trans ez (λ_ h=> .inl (.inr (.inl h)))))));clear i aZ fM iq qC qB SL ez C Ia eM;go_wp2;go_ret;obtain⟨t,A,u,g⟩:=z.o;exact⟨by rw [a.o];exact congrArg (λx=>Ending.returned (Value.int .i64 x)) J.o,by rw [a.o];exact t,⟨0,nf.o _ 0 u (by rw [a.o,aG rfl];rfl) (by rw [a.o];exact A) (by rw [a.o];exact⟨E.o.1,E.o.2.trans vO⟩) g⟩,g⟩
    .have d3:(V.1 == 0)=false:=(by rw [fy];exact d);have a:=yh EJ.o;rw [aB (λh=>h Yv.o),aG d] at a;have lW:=yh d;clear d;have z:=yh (aH qB (aH iq (aH fM qC)));clear i aZ fM iq qC qB SL;go_wp2;go_ret;obtain⟨t,A,u,g⟩:=z.o;exact⟨by rw [a.o];rfl,by rw [a.o];exact t,⟨0,nf.o c 0 u (by rw [a.o,aB lW.o]) (by rw [a.o];exact A) (by rw [a.o];exact⟨E.o.1,E.o.2.trans vO⟩) g⟩,g⟩
   .have d2:(Y.1 == 0)=false:=(by rw [fy];exact l);have a:=yh EJ.o;rw [aG l] at a;have ii:=yh l;clear l;have z:=yh (aH uB (aH fK (aH br pr)));clear cI aY br fK pr uB K M N O P Q T U;go_wp2;go_ret;obtain⟨t,A,u,g⟩:=z.o;have qC:aa (λj=>F j\/j=k\/j=kl) w m:=g.mono (λ_ h=> .inl h);exact⟨by rw [a.o];rfl,by rw [a.o];exact t,⟨0,nf.o m 0 u (by rw [a.o,aB ii.o]) (by rw [a.o];exact A) (by rw [a.o];exact⟨WH,vO⟩) qC⟩,qC⟩
  .subst xP;have Cp:=H.o.hm;by_cases hce:cap=hm
   .obtain rfl:hm=cap:=hce.symm;obtain⟨HP,EJ⟩:=bV (λ(w1:World) (fh:aa F w w1)=>PV.SI (H.o.pl.pv.aw fh H.o.fO) Cp zT) I;clear I;go_in;go_wp2_with fail;refine pz D λw1 iP cu fh=>?_;have el:=H.o.st.aw fh xZ;have dE:=fh.size;have pk:=HP.o w1 fh;obtain⟨K,M,N,O,P,Q,T,U,hb,CT,pd,BW⟩:=FK el.c0 el.c2 el.c3 el.c4 el.c5 el.c6 el.c7 el.c8 (H2.o w1.drew (iP.later (ai (bi _ _))) _ (pk.later (ai (bi _ _)))) (yh fh) (yh el) (yh cu);have HB:=yh hb;clear D iP cu fh el pk hb;go_wp2_with fail;go_region_held3 (λw'=>w'.cell? (aD k 0)=some (pQ r)/\w'.cell? (aD k 2)=some (iV (G.y.log:Int))/\w'.cell? (aD k 3)=some (iV (G.y.home:Int))/\w'.cell? (aD k 4)=some (iV (G.y.blocks:Int))/\w'.cell? (aD k 5)=some (iV (G.y.nodes:Int))/\w'.cell? (aD k 6)=some (iV (G.y.data:Int))/\w'.cell? (aD k 7)=some (.slice (some (aD gp 0)) ps.length hm)/\w'.cell? (aD k 8)=some (iV (hm:Int)))
     (first|exact⟨K,M,N,O,P,Q,T,U⟩|exact⟨br.c0,br.c2,br.c3,br.c4,br.c5,br.c6,br.c7,br.c8⟩)
       ((go_at_call 124;refine HB.o.mono ?_;rintro e m ⟨rfl,cI,aY⟩;have br:=(pd.o.later (ai (bi _ _))).aw aY xZ;have fK:=(BW.o.later (ai (bi _ _))).aw aY mu))
    have pr:=(CT.o.trans (aa.ah F (ai (bi w1.heap.size w1))) (λ_ h=> .inl h)).trans aY (λ_ h=> .inl h);have uB:=SJ dE cI;by_cases l:Y.1=0
    .have d2:(Y.1 == 0)=true:=(by rw [l];rfl);have Yv:=yh l;clear l;have iu:¬more F w m kl:=λe=>e.elim mu (λe=>by omega);have SK:¬more F w m k:=λe=>e.elim xZ (λe=>by omega);obtain⟨SL,c12,xJ,SM⟩:=cP (H3.o ON.o m (more F w m) uB fK iu) br.c1 (yh br) (yh pr);clear cI aY br fK pr uB K M N O P Q T U;go_wp2_with fail;refine pz SL λc i iq aZ=>?_;have lq:=aZ.size;have fM:=xJ.o.aw aZ (λe=>e.elim SK Jh);have qB:=K6 SM.o.size lq i;have qC:=(SM.o.mono (λ_ h=> .inl h):aa (λj=>F j\/j=k\/j=kl) w m).trans aZ (λj b=>by rcases b with (b|b)|b;exact .inl (.inl b);exact .inr b.1;exact .inl (.inr (.inr b)));by_cases d:V.1=0
     .have d3:(V.1 == 0)=true:=(by rw [d];rfl);have a:=yh EJ.o;rw [aB (λh=>h Yv.o),aB (λh=>h d)] at a;have J:=yh d;clear d;have c73:=fM.c7;have c83:=fM.c8;have f83:=fM.fz 8;have ez:aa (λj=>j=k) c (c.setCell ⟨k,8,none⟩ (.int .i64 (ps.length:Int))):=aa.setCell (F:=λj=>j=k) c (p:=(aD k 8)) rfl _;have SN:¬more F w c k:=λe=>e.elim xZ (λe=>by omega);have C:=qB.aw ez (λj b e=>SN (e▸b));have eM:(c.setCell ⟨k,8,none⟩ (.int .i64 (ps.length:Int))).heap.size=c.heap.size:=(by simp [World.setCell]);have Ia:aC (c.setCell ⟨k,8,none⟩ (.int .i64 (ps.length:Int))) (more F w (c.setCell ⟨k,8,none⟩ (.int .i64 (ps.length:Int)))) r s V.2.1:=(by unfold more;rw [eM];exact C);have z:=yh (aH Ia (aH (iq.aw ez (λe=>Jh e.symm)) (aH (fM.home ps.length) (qC.trans ez (λ_ h=> .inl (.inr (.inl h)))))));clear i aZ fM iq qC qB SL ez C Ia eM;go_wp2;go_ret;obtain⟨t,A,u,g⟩:=z.o;exact⟨by rw [a.o];exact congrArg (λx=>Ending.returned (Value.int .i64 x)) J.o,by rw [a.o];exact t,⟨ps.length,nf.o _ ps.length u (by rw [a.o,aG rfl]) (by rw [a.o];exact A) (by rw [a.o];exact⟨E.o.1,E.o.2.trans vO⟩) g⟩,g⟩
     .have d3:(V.1 == 0)=false:=(by rw [fy];exact d);have a:=yh EJ.o;rw [aB (λh=>h Yv.o),aG d] at a;have lW:=yh d;clear d;have z:=yh (aH qB (aH iq (aH fM qC)));clear i aZ fM iq qC qB SL;go_wp2;go_ret;obtain⟨t,A,u,g⟩:=z.o;exact⟨by rw [a.o];rfl,by rw [a.o];exact t,⟨hm,nf.o c hm u (by rw [a.o,aB lW.o]) (by rw [a.o];exact A) (by rw [a.o];exact⟨E.o.1,E.o.2.trans vO⟩) g⟩,g⟩
    .have d2:(Y.1 == 0)=false:=(by rw [fy];exact l);have a:=yh EJ.o;rw [aG l] at a;have ii:=yh l;clear l;have z:=yh (aH uB (aH fK (aH br pr)));clear cI aY br fK pr uB K M N O P Q T U;go_wp2;go_ret;obtain⟨t,A,u,g⟩:=z.o;have qC:aa (λj=>F j\/j=k\/j=kl) w m:=g.mono (λ_ h=> .inl h);exact⟨by rw [a.o];rfl,by rw [a.o];exact t,⟨hm,nf.o m hm u (by rw [a.o,aB ii.o]) (by rw [a.o];exact A) (by rw [a.o];exact⟨WH,vO⟩) qC⟩,qC⟩
   .obtain⟨HP,EJ⟩:=bV (λ(w1:World) (fh:aa F w w1)=>PV.SH (H.o.pl.pv.aw fh H.o.fO) Cp zT hce) I;clear I;go_in;go_wp2_with fail;refine pz D λw1 iP cu fh=>?_;have el:=H.o.st.aw fh xZ;have dE:=fh.size;have pk:=HP.o w1 fh;obtain⟨K,M,N,O,P,Q,T,U,hb,CT,pd,BW⟩:=FK el.c0 el.c2 el.c3 el.c4 el.c5 el.c6 el.c7 el.c8 (H2.o w1.drew (iP.later (ai (bi _ _))) _ (pk.later (ai (bi _ _)))) (yh fh) (yh el) (yh cu);have HB:=yh hb;clear D iP cu fh el pk hb;go_wp2_with fail;go_region_held3 (λw'=>w'.cell? (aD k 0)=some (pQ r)/\w'.cell? (aD k 2)=some (iV (G.y.log:Int))/\w'.cell? (aD k 3)=some (iV (G.y.home:Int))/\w'.cell? (aD k 4)=some (iV (G.y.blocks:Int))/\w'.cell? (aD k 5)=some (iV (G.y.nodes:Int))/\w'.cell? (aD k 6)=some (iV (G.y.data:Int))/\w'.cell? (aD k 7)=some (.slice (some (aD gp 0)) ps.length cap)/\w'.cell? (aD k 8)=some (iV (hm:Int)))
     (first|exact⟨K,M,N,O,P,Q,T,U⟩|exact⟨br.c0,br.c2,br.c3,br.c4,br.c5,br.c6,br.c7,br.c8⟩)
       ((go_at_call 124;refine HB.o.mono ?_;rintro e m ⟨rfl,cI,aY⟩;have br:=(pd.o.later (ai (bi _ _))).aw aY xZ;have fK:=(BW.o.later (ai (bi _ _))).aw aY mu))
    have pr:=(CT.o.trans (aa.ah F (ai (bi w1.heap.size w1))) (λ_ h=> .inl h)).trans aY (λ_ h=> .inl h);have uB:=SJ dE cI;by_cases l:Y.1=0
    .have d2:(Y.1 == 0)=true:=(by rw [l];rfl);have Yv:=yh l;clear l;have iu:¬more F w m kl:=λe=>e.elim mu (λe=>by omega);have SK:¬more F w m k:=λe=>e.elim xZ (λe=>by omega);obtain⟨SL,c12,xJ,SM⟩:=cP (H3.o ON.o m (more F w m) uB fK iu) br.c1 (yh br) (yh pr);clear cI aY br fK pr uB K M N O P Q T U;go_wp2_with fail;refine pz SL λc i iq aZ=>?_;have lq:=aZ.size;have fM:=xJ.o.aw aZ (λe=>e.elim SK Jh);have qB:=K6 SM.o.size lq i;have qC:=(SM.o.mono (λ_ h=> .inl h):aa (λj=>F j\/j=k\/j=kl) w m).trans aZ (λj b=>by rcases b with (b|b)|b;exact .inl (.inl b);exact .inr b.1;exact .inl (.inr (.inr b)));by_cases d:V.1=0
     .have d3:(V.1 == 0)=true:=(by rw [d];rfl);have a:=yh EJ.o;rw [aB (λh=>h Yv.o),aB (λh=>h d)] at a;have J:=yh d;clear d;have c73:=fM.c7;have c83:=fM.c8;have f83:=fM.fz 8;have ez:aa (λj=>j=k) c (c.setCell ⟨k,8,none⟩ (.int .i64 (ps.length:Int))):=aa.setCell (F:=λj=>j=k) c (p:=(aD k 8)) rfl _;have SN:¬more F w c k:=λe=>e.elim xZ (λe=>by omega);have C:=qB.aw ez (λj b e=>SN (e▸b));have eM:(c.setCell ⟨k,8,none⟩ (.int .i64 (ps.length:Int))).heap.size=c.heap.size:=(by simp [World.setCell]);have Ia:aC (c.setCell ⟨k,8,none⟩ (.int .i64 (ps.length:Int))) (more F w (c.setCell ⟨k,8,none⟩ (.int .i64 (ps.length:Int)))) r s V.2.1:=(by unfold more;rw [eM];exact C);have z:=yh (aH Ia (aH (iq.aw ez (λe=>Jh e.symm)) (aH (fM.home ps.length) (qC.trans ez (λ_ h=> .inl (.inr (.inl h)))))));clear i aZ fM iq qC qB SL ez C Ia eM;go_wp2;go_ret;obtain⟨t,A,u,g⟩:=z.o;exact⟨by rw [a.o];exact congrArg (λx=>Ending.returned (Value.int .i64 x)) J.o,by rw [a.o];exact t,⟨ps.length,nf.o _ ps.length u (by rw [a.o,aG rfl]) (by rw [a.o];exact A) (by rw [a.o];exact⟨E.o.1,E.o.2.trans vO⟩) g⟩,g⟩
     .have d3:(V.1 == 0)=false:=(by rw [fy];exact d);have a:=yh EJ.o;rw [aB (λh=>h Yv.o),aG d] at a;have lW:=yh d;clear d;have z:=yh (aH qB (aH iq (aH fM qC)));clear i aZ fM iq qC qB SL;go_wp2;go_ret;obtain⟨t,A,u,g⟩:=z.o;exact⟨by rw [a.o];rfl,by rw [a.o];exact t,⟨hm,nf.o c hm u (by rw [a.o,aB lW.o]) (by rw [a.o];exact A) (by rw [a.o];exact⟨E.o.1,E.o.2.trans vO⟩) g⟩,g⟩
    .have d2:(Y.1 == 0)=false:=(by rw [fy];exact l);have a:=yh EJ.o;rw [aG l] at a;have ii:=yh l;clear l;have z:=yh (aH uB (aH fK (aH br pr)));clear cI aY br fK pr uB K M N O P Q T U;go_wp2;go_ret;obtain⟨t,A,u,g⟩:=z.o;have qC:aa (λj=>F j\/j=k\/j=kl) w m:=g.mono (λ_ h=> .inl h);exact⟨by rw [a.o];rfl,by rw [a.o];exact t,⟨hm,nf.o m hm u (by rw [a.o,aB ii.o]) (by rw [a.o];exact A) (by rw [a.o];exact⟨WH,vO⟩) qC⟩,qC⟩
 .have d1:(Z.1 == 0)=false:=by rw [fy];exact k1
  rw [aG k1] at I;obtain⟨a,CT⟩:=bV I k1;clear k1 I;go_in;go_wp2_with fail;refine pz D λw1 iP cu fh=>?_;have z:=yh (aH iP (aH cu fh));clear D iP cu fh;go_wp2;go_ret;obtain⟨t,A,u⟩:=z.o;have aY:aa (λj=>F j\/j=k\/j=kl) w w1:=u.mono (λ_ h=> .inl h);refine⟨by rw [a.o];rfl,by rw [a.o];exact t.mono (λ_ h=> .inl h) (λj b=>by rcases b with b|b;exact t.lt j b;exact b.2),⟨hm,nf.o w1 hm (H.o.st.aw u xZ) (by rw [a.o,aB CT.o]) (by rw [a.o];exact A) (by rw [a.o];exact⟨WH,vO⟩) aY⟩,aY⟩
end
end
section
def uC (m n:Nat) (w:World) (j:m<=9223372036854775807) (o:n<=8):
  Calls prog 141 #[iV (m:Int),iV (n:Int)] w λe w'=>∃v,e= .returned v/\Own w' w.heap.size v (bD n m)/\bW w w':=by
 go_in;go_wp2;go_loopw [0,5,6] (λx v i wr=>∃k:Nat,k<=n/\x=iV ((m / 2 ^ (8*k):Nat):Int)/\i=iV (k:Int)/\Own wr w.heap.size v (bD k m)/\bW w wr) (λ_ _ i _=>n-(intOf i).toNat);case atStart=>exact⟨0,dL _,by simp,rfl,Own.nil _ _,bi _ _⟩
 case round=>
  obtain⟨k,l,rfl,rfl,aA,ey⟩:=hrel;obtain⟨bw,a,p,f⟩:=cP aA ey ey.size (aK k m);clear aA ey;by_cases bq:k<n
  .have cC:(k:Int)<(n:Int):=(by omega);have g:m / 2 ^ (8*k)<=9223372036854775807:=k9 (Nat.div_le_self _ _) j;have c:m / 2 ^ (8*(k+1))=m / 2 ^ (8*k) / 256:=(by rw [Nat.div_div_eq_div_mul,Nat.mul_succ,Nat.pow_add]);have Jt:=c;have PZ:=i9 k m;clear c;obtain⟨Q,d⟩:=bP (m / 2 ^ (8*k));rw [<-d] at g Jt PZ⊢;clear d;have q:(Q:Int).tmod 256=((Q%256:Nat):Int):=(by rw [yI (by omega)];omega);have r:(Q:Int).tdiv 256=((Q / 256:Nat):Int):=(by rw [Int.tdiv_eq_ediv_of_nonneg (by omega)];omega);go_wp2_with (at_builtin;refine cq rfl _ _ rfl w.heap.size u5 (bD k m) _ rfl rfl bw ?b1 ?b2 ?_);case b1=>omega
   case b2=>omega
   intro s w1 tR ar;have b:=(aH tR (a.trans ar));clear tR ar;go_wp2;go_roundw;case rel=>exact⟨k+1,by omega,by rw [Jt];first|rfl|simp,by go_num,by rw [PZ];exact b.1,b.2⟩
   case measure=>simp [intOf];omega
  .obtain rfl:k=n:=(by omega);have wK:¬(k:Int)<(k:Int):=(by omega);go_wp2;go_ret;exact⟨_,rfl,bw,a⟩
section
variable {w w' w1 w2:World} {F F' X X' Y Z:Nat->Prop} {r s k kl t hm:Nat} {S:DS} {G:SG} {T:TG} {L:LG} {v u pv pv' nv tv:Value} {ps qs us:List (Nat×List Int)} {xs ys:List Value}
def PL.one (h:PL w X v ps xs):∀x∈xs,x.oneCell'=true:=λx e=>by
 have Jf:=h.own.1;obtain⟨j,d,rfl⟩:=List.mem_iff_getElem.1 e;obtain⟨g,c,a,b,_⟩:=h.put (j / 2) (by omega);by_cases q:j%2=0
 .have:2*(j / 2)=j:=by omega
  rw [this,qQ d] at a;rw [Option.some.inj a];rfl
 .have:2*(j / 2)+1=j:=by omega
  rw [this,qQ d] at b;rw [Option.some.inj b];rfl
def PL.cat (h:PL w X v ps xs) (p:PL w Y u qs ys) (aA:w2.ownsRow 0 167 2 (.slice (some (aD g2 0)) (ps.length+qs.length) cJ) (ps.length+qs.length) (xs ++ ys)) (aR:w.grownBy w2 v.ownBlock) (r:∀j,X j->Z j) (s:∀i (_:i<qs.length) g c,ys[2*i+1]? =some (.slice (some (aD g 0)) 512 c)->Z g) (t:Z g2):
  PL w2 Z (.slice (some (aD g2 0)) (ps.length+qs.length) cJ) (ps ++ qs) (xs ++ ys)/\aa (λj=>v.ownBlock=some j) w w2:=by
 have b:=λj a n=>aR.block j a n;have MH:∀j c ys,ay w 5 j c ys->ay w2 5 j c ys:=λj c ys a=>by
  have Bk:=a;obtain⟨cur,gN,_⟩:=Bk;exact a.agree (b j a.lt (λe=>dT h.own e.symm gN (by decide) rfl))
 have Jf:=h.own.1;refine⟨⟨by rw [ee];exact aA,λj a=>?_,λi x=>?_,λq d=>?_⟩,⟨aR.os,aR.tape,aR.output,aR.size,λj a n=>b j a (λe=>n e.symm)⟩⟩
 .have e:j=g2:=by simpa [Value.ownBlock] using a.symm
  rw [e];exact t
 .by_cases nF:i<ps.length
  .obtain⟨k,c',l,f,o,m⟩:=h.put i nF;refine⟨k,c',?_,?_,r _ o,?_⟩
   .rw [u9 (by omega),l,List.getElem_append_left nF]
   .rw [u9 (by omega),f]
   .rw [List.getElem_append_left nF];exact MH _ _ _ m
  .have Fw:i-ps.length<qs.length:=(by rw [ee] at x;omega);obtain⟨k,c',l,f,o,m⟩:=p.put (i-ps.length) Fw;refine⟨k,c',?_,?_,s _ Fw k c' f,?_⟩
   .rw [wm (by omega),show 2*i-xs.length=2*(i-ps.length) by omega,l,List.getElem_append_right (by omega)]
   .rw [wm (by omega),show 2*i+1-xs.length=2*(i-ps.length)+1 by omega,f]
   .rw [List.getElem_append_right (by omega)];exact MH _ _ _ m
 .rcases List.mem_append.1 d with d|d
  .exact h.len q d
  .exact p.len q d
def OP (L:LG) (S:DS) (s:Nat) (d:List Int):(L.append S s d).2.2.f=L.f/\(L.append S s d).2.2.n=L.n:=by
 unfold LG.append;split
 .exact⟨rfl,rfl⟩
 .split <;> exact⟨rfl,rfl⟩
def iN.SO (h:iN w F X r s S k kl G pv ps hm nv) (dw:S.Ok s) (d:List Int) {ns:CM} (xZ:∀x∈ns,x.1<G.y.blocks) (bj:lx w' k r kl G.y pv' hm nv) (Zh:cM w' kl r (G.L.append S s d).2.2) (pF:Pl w' X' pv' (ps ++ ns)) (e:∀g,X g->X' g) (aaz:∀g,X' g->¬F' g) (bq:∀g,X' g->g<w'.heap.size) (b:Bool):
  iN w' F' X' r s (G.L.append S s d).2.1 k kl {G with L:=(G.L.append S s d).2.2,ov:=CM.bU G.ov ns,busy:=b} pv' (ps ++ ns) hm nv:=by
 obtain⟨Bl,j,o,v,p,q⟩:=jH (vP h.lk S d) (OP G.L S s d) h.lk.s h.lk.n1 h.lh h.hs;have kZ:=AC dw (by omega:1<=G.L.n) o d;have vf:CM.Ok G.ov:=by rw [h.ov];exact mP _
 refine⟨bj,Zh,pF,e _ h.xk,e _ h.xl,aaz,bq,Bl.1,Bl.2.trans h.bg,q,?_,?_,?_,λx a=>?_,λhd b t u c i=>?_⟩
 .show (G.L.append S s d).2.2.f+2+(G.L.append S s d).2.2.n<=G.y.home;rw [j.1,j.2];exact p
 .show CM.bU G.ov ns=_;rw [List.drop_append_of_le_length h.hm,qt,<-h.ov]
 .rw [ee];have:=h.hm;omega
 .rcases List.mem_append.1 a with a|a
  .exact h.kb x a
  .exact xZ x a
 .have yR:=OO d hd;have RP:CM.get (CM.bU G.ov ns) b=none:=u;rw [CZ b vf] at RP;obtain⟨l,m⟩:=Option.or_eq_none_iff.1 RP;rw [mh,l] at i;show (G.L.append S s d).2.1.now (G.y.home+b)=c;rw [kZ.2 _ (by omega)];exact h.un yR b t m c i
def iN.busy (h:iN w F X r s S k kl G pv ps hm nv) (b:Bool):iN w F X r s S k kl {G with busy:=b} pv ps hm nv:=⟨h.st,h.lp,h.pl,h.xk,h.xl,h.fO,h.lt,h.lk,h.bg,h.hs,h.lh,h.ov,h.hm,h.kb,h.un⟩
end
end
section
def K8 (T:TG) (G:SG) (S:DS) (b:Nat):CM:=(below T.puts b).filter λx=> !decide (x.2=G.block S x.1)
section
variable {T:TG} {G:SG} {S:DS} {b:Nat} {l:List Int}
def SP:K8 T G S 0= []:=by unfold K8;rw [sS];rfl
def SQ (a:CM.Ok T.puts) (h:CM.get T.puts b=none):K8 T G S (b+1)=K8 T G S b:=by unfold K8;rw [sQ a h]
def SR (c:CM.Ok T.puts) (h:CM.get T.puts b=some l) (a:l=G.block S b):K8 T G S (b+1)=K8 T G S b:=by
 unfold K8;rw [sR c h,List.filter_append];simp [a]
def WI (c:CM.Ok T.puts) (h:CM.get T.puts b=some l) (a:¬l=G.block S b):K8 T G S (b+1)=K8 T G S b ++ [(b,l)]:=by
 unfold K8;rw [sR c h,List.filter_append];simp [a]
def WJ (h:∀q∈T.puts,q.1<n):K8 T G S n=T.news G S:=by unfold K8 TG.news;rw [C0 h]
def WK:(K8 T G S b).length<=T.puts.length:=k9 (List.length_filter_le _ _) (List.length_filter_le _ _)
def DE {β:Type} (f:α->List β) (ns:List α) (a:i<ns.length):(ns.take (i+1)).flatMap f=(ns.take i).flatMap f ++ f ns[i]:=by
 rw [List.take_add_one,qQ a,List.flatMap_append];congr 1;simp
end
def Own.lo {w:World} {B:Nat} {l:List Int} (h:Own w B v l) (a:v.ownBlock=some g):B<=g/\∃cur,w.heap[g]? =some (.cells cur 5 (0,0)):=by
 obtain⟨_,⟨rfl,_⟩|⟨e,b,cur,rfl,d,c,_⟩⟩:=h
 .simp [Value.ownBlock] at a
 .simp [Value.ownBlock] at a;subst a;exact⟨d,cur,c⟩
def Pn.beside {w w':World} {X:Nat->Prop} {B:Nat} {u:Value} {ps:List (Nat×List Int)} {l:List Int} (h:Pn w X B v ps) (f:Own w B u l) (i:∀g,X g->g<B) (k:aa (λj=>u.ownBlock=some j) w w'):Pn w' X B v ps:=by
 refine h.aw k (λg e b=>?_) (λg c n a m b=>?_)
 .obtain⟨_,cur,d⟩:=f.lo b;exact h.pl.ne e d (by decide) rfl
 .rcases a with a|a
  .have:=(f.lo b).1;have:=i g a;omega
  .obtain⟨_,cur,d⟩:=f.lo b;exact h.pl.ne a d (by decide) rfl
def Own.aw {w w':World} {B:Nat} {l:List Int} (h:Own w B v l) (a:aa Z w w') (b:∀g,v.ownBlock=some g->¬Z g):Own w' B v l:=
 aF h (λg e=>a.block g (qw h e) (b g e))
def Ib {B:Nat} (aA:Own W B v rc) (c:Nat) (q:Src W a n d) (hd:0<n) (f:rc.length+n<=1000000) (m:B<=W.heap.size):
  ∃v' w',(Builtin.append_ #[36,36] 36 #[v, .slice a n c]).run prog W= .ok v' w'/\Own w' B v' (rc ++ d)/\aa (λj=>v.ownBlock=some j) W w':=by
 obtain⟨g,k,w',l,i,b,_⟩:=rb aA c q hd f m;refine⟨_,w',l,?_,⟨b.os,b.tape,b.output,b.size,λj o p=>b.block j o (λe=>p e.symm)⟩⟩;rw [<-iS] at i;have e:rc.length+d.length=(rc ++ d).length:=by simp
 unfold Own;rw [e] at i⊢;exact i
def ip (w:World) (F X:Nat->Prop) (r s k kl t:Nat) (pv tv nv:Value) (ps us:List (Nat×List Int)) (R:Int×DS×SG×TG) (e:Ending) (w':World):Prop:=
 ∃(F' X':Nat->Prop) (pv':Value) (ps':List (Nat×List Int)) (hm':Nat),e= .returned (iV R.1)/\(∀j,F' j->more F w w' j)/\(∀j,X' j->more X w w' j)/\(∀j,X j->X' j)/\aC w' F' r s R.2.1/\iN w' F' X' r s R.2.1 k kl R.2.2.1 pv' ps' hm' nv/\ou w' X' k t R.2.2.1 R.2.2.2 tv us/\(ps'.length<=ps.length+us.length/\(R.2.2.2.ended=false->ps'=ps))/\(pv'.ownBlock=pv.ownBlock\/∀g,pv'.ownBlock=some g->w.heap.size<=g)/\aa (λj=>F j\/j=k\/j=kl\/j=t\/pv.ownBlock=some j) w w'
section
variable {w w' w5 w6 w7:World} {F F5 X:Nat->Prop} {r s k kl t hm yt g2 cJ:Nat} {S S5:DS} {G G5:SG} {T:TG} {pv nv tv lv:Value} {ps us:List (Nat×List Int)} {ns:CM} {xs ys:List Value}
def ou.asked (h:iN w F X r s S k kl G pv ps hm nv) (b:ou w X k t G T tv us) (l:aa (λj=>F j\/j=k\/j=kl) w w'):ou w' X k t G T tv us:=by
 refine⟨b.tx.aw l (λa=>?_),b.xt,b.pl.aw l (λg e a=>?_) (λg c o n m a=>?_),b.nd,b.pu,b.kb,b.Ez⟩
 .obtain⟨d,f,i⟩:=kH b.tx h.st h.lp;unfold nz at d;unfold lx at f;unfold cM at i;rcases a with a|a|a
  .exact h.fO t b.xt a
  .rw [a,f] at d;simp at d
  .rw [a,i] at d;simp at d
 .rcases a with a|a|a
  .exact h.fO g (b.pl.row g e) a
  .exact b.pl.ne e h.st (by decide) a
  .exact b.pl.ne e h.lp (by decide) a
 .rcases a with a|a|a
  .exact h.fO g n a
  .exact m.ne h.st (by decide) a
  .exact m.ne h.lp (by decide) a
def Pn.asked {B:Nat} (h:iN w F X r s S k kl G pv ps hm nv) (f:∀j,F j->j<B) (m:k<B/\kl<B) (d:Pn w X B lv ns) (l:aa (λj=>F j\/j=k\/j=kl) w w'):Pn w' X B lv ns:=by
 refine d.aw l (λg e a=>?_) (λg c n b i a=>?_)
 .have:=d.lo g e;rcases a with a|a|a
  .have:=f g a;omega
  .omega
  .omega
 .rcases b with b|b
  .rcases a with a|a|a
   .exact h.fO g b a
   .exact i.ne h.st (by decide) a
   .exact i.ne h.lp (by decide) a
  .have:=d.lo g b;rcases a with a|a|a
   .have:=f g a;omega
   .omega
   .omega
def ip.fail (h:iN w F X r s S k kl G pv ps hm nv) (g:ou w X k t G T tv us) (c:T.ended=false) (f:∀j,F5 j->more F w w' j) (hd:aC w' F5 r s S5) (e:iN w' F5 X r s S5 k kl G5 pv ps yt nv) (i:G5.y=G.y) (d:aa (λj=>F j\/j=k\/j=kl) w w') (x:Int):ip w F X r s k kl t pv tv nv ps us (x,S5,G5,T) (.returned (iV x)) w':=by
 have a:=ou.asked h g d;exact⟨F5,X,pv,ps,yt,rfl,f,λ_ h=> .inl h,λ_ h=>h,hd,e,⟨a.tx,a.xt,a.pl,a.nd,a.pu,by rw [i];exact a.kb,a.Ez⟩,⟨by omega,λ_=>rfl⟩, .inl rfl,d.mono (λj b=>by rcases b with b|b|b;exact .inl b;exact .inr (.inl b);exact .inr (.inr (.inl b)))⟩
def ip.done (h:iN w F X r s S k kl G pv ps hm nv) (v:ou w X k t G T tv us) (BA:∀g,pv.ownBlock=some g->tv.ownBlock≠some g)
    (n:iN w5 F5 X r s S5 k kl G5 pv ps yt nv) (I:G5.y=G.y) (aaB:S5.Ok s) (qA:∀j,F5 j->more F w w5 j) (dX:aa (λj=>F j\/j=k\/j=kl) w w5) (d:List Int)
    (pK:aC w6 (more F5 w5 w6) r s (G5.L.append S5 s d).2.1) (MW:cM w6 kl r (G5.L.append S5 s d).2.2) (jE:aa (λj=>F5 j\/j=kl) w5 w6)
    (oL:PL w6 X pv ps xs) (WL:PL w6 (λj=>X j\/lv.ownBlock=some j) lv ns ys) (D:∀i (_:i<ns.length) g c,ys[2*i+1]? =some (.slice (some (aD g 0)) 512 c)->X g) (xZ:∀x∈ns,x.1<G.y.blocks) (mu:ns.length<=us.length)
    (aA:w7.ownsRow 0 167 2 (.slice (some (aD g2 0)) (ps.length+ns.length) cJ) (ps.length+ns.length) (xs ++ ys)) (aR:w6.grownBy w7 pv.ownBlock) (it:pv.ownBlock=some g2\/g2=w6.heap.size):
  w7.heap[k]? =w6.heap[k]?/\w7.heap[t]? =w6.heap[t]?/\w6.heap[t]? =w.heap[t]?/\lx w6 k r kl G5.y pv yt nv/\k≠t/\
  ip w F X r s k kl t pv tv nv ps us (0,(G5.L.append S5 s d).2.1,{G5 with L:=(G5.L.append S5 s d).2.2,ov:=CM.bU G5.ov ns,busy:=false},T.close) (.returned (iV 0)) ((w7.setCell ⟨k,7,none⟩ (.slice (some ⟨g2,0,none⟩) (ps.length+ns.length) cJ)).setCell ⟨t,2,none⟩ (.bool true)):=by
 obtain⟨l,pT,RQ,K9⟩:=cP (ou.asked h v dX) dX.size jE.size (n.st.aw jE (λe=>e.elim (n.fO _ n.xk) n.kne));have Ic:ou w6 X k t G5 T tv us:=by
  have:=ou.asked (G:=G5) n ⟨l.tx,l.xt,l.pl,l.nd,l.pu,by rw [I];exact l.kb,l.Ez⟩ (w':=w6) (jE.mono (λj a=>by rcases a with a|a;exact .inl a;exact .inr (.inr a)));exact this
 have Jn:k≠t:=λe=>by
  have b:=v.tx;have u:=h.st;unfold nz at b;unfold lx at u;rw [<-e,u] at b;simp at b
 have ajo:kl≠t:=λe=>by
  have b:=v.tx;have u:=h.lp;unfold nz at b;unfold cM at u;rw [<-e,u] at b;simp at b
 have QZ:w6.heap[t]? =w.heap[t]? :=by
  have E:=Ic.tx;have H:=v.tx;unfold nz at E H;rw [E,H]
 obtain⟨A,gS⟩:=oL.cat WL (Z:=λj=>X j\/(Value.slice (some (aD g2 0)) (ps.length+ns.length) cJ).ownBlock=some j) aA aR (λ_ h=> .inl h) (λi K g c e=> .inl (D i K g c e)) (.inr rfl);have N:=gS.size;have RL:=qw aA (g:=g2) rfl;have Id:Pl w6 X pv ps:=⟨xs,oL⟩;have xS:=K9.aw gS (λe=>Id.ne e K9 (by decide) rfl);have EK:=Ic.tx.aw gS (λe=>Id.ne e Ic.tx (by decide) rfl);have Dk:=MW.aw gS (λe=>Id.ne e MW (by decide) rfl);have o:∀g,X g->¬more F5 w5 w6 g:=λg f m=>by
  rcases m with m|m
  .exact n.fO g f m
  .have:=n.lt g f;omega
 have nS:=pK.aw gS (λj a e=>o j (oL.row j e) a);generalize J:(Value.slice (some (aD g2 0)) (ps.length+ns.length) cJ)=V at*;have q:V.ownBlock=some g2:=by rw [<-J];rfl
 have j0:=aa.setCell (F:=λj=>j=k) w7 (p:=(aD k 7)) rfl V;have WM:lx (w7.setCell ⟨k,7,none⟩ V) k r kl G5.y V yt nv:=(heap_setCell_same _ _ 7 _ _ _ xS).trans (by simp);have aaE:=EK.aw j0 (λe=>Jn e.symm);have C:Pl (w7.setCell ⟨k,7,none⟩ V) _ V (ps ++ ns):=Pl.other ⟨_,A⟩ xS (by decide) (by decide) j0;have Dl:=Dk.aw j0 (λe=>n.kne e.symm);have oV:=nS.aw j0 (λj a e=>o j (e▸n.xk) a);have ajp:=(Ic.pl.aw gS (λg e m=>BA g m e) (λg c ys _ M m=>Id.ne m (Classical.choose_spec (M.imp (λcur h=>h.1))) (by decide) rfl)).other xS (by decide) (by decide) j0;have Br:=aa.setCell (F:=λj=>j=t) (w7.setCell ⟨k,7,none⟩ V) (p:=(aD t 2)) rfl (.bool true);have aqk:(w7.setCell ⟨k,7,none⟩ V).heap.size=w7.heap.size:=by simp [World.setCell]
 have WN:((w7.setCell ⟨k,7,none⟩ V).setCell ⟨t,2,none⟩ (.bool true)).heap.size=w7.heap.size:=by simp [World.setCell]
 have z:=oV.aw Br (λj a e=>o j (e▸Ic.xt) a);refine⟨gS.block k K9.lt (λe=>Id.ne e K9 (by decide) rfl),gS.block t Ic.tx.lt (λe=>Id.ne e Ic.tx (by decide) rfl),QZ,K9,Jn,more F5 w5 w6,(λj=>X j\/V.ownBlock=some j),V,ps ++ ns,yt,rfl,λj a=>?_,λj a=>?_,λ_ h=> .inl h,z,iN.SO n aaB d (by rw [I];exact xZ) (WM.aw Br Jn) (Dl.aw Br ajo) (C.other aaE (by decide) (by decide) Br) (λ_ h=> .inl h) (λg f m=>?_) (λg f=>?_) false,⟨aaE.end_, .inl Ic.xt,(ajp.other aaE (by decide) (by decide) Br).mono (λ_ h=> .inl h),Ic.nd,λh=>(by cases h),Ic.kb,Ic.Ez⟩,⟨by rw [ee];omega,λh=>(by cases h)⟩,?_,?_⟩
 .rcases a with a|a
  .rcases qA j a with a|a
   .exact .inl a
   .exact .inr ⟨a.1,by rw [WN];omega⟩
  .exact .inr ⟨by omega,by rw [WN];omega⟩
 .rcases a with a|a
  .exact .inl a
  .rw [q] at a;cases a;rcases it with b|b
   .exact .inl (oL.row _ b)
   .exact .inr ⟨by omega,by rw [WN];exact RL⟩
 .rcases f with f|f
  .exact o g f m
  .rw [q] at f;cases f;rcases it with b|b
   .exact o _ (oL.row _ b) m
   .have:=pK.lt _ m;omega
 .rw [WN];rcases f with f|f
  .have:=n.lt g f;omega
  .rw [q] at f;cases f;exact RL
 .rw [q];rcases it with b|b
  .exact .inl b.symm
  .exact .inr (λg e=>by cases e;omega)
 .refine((((dX.mono (λj a=>?_):aa (λj=>F j\/j=k\/j=kl\/j=t\/pv.ownBlock=some j) w w5).trans jE (λj a=>?_)).trans gS (λj a=> .inl (.inr (.inr (.inr (.inr a)))))).trans j0 (λj a=> .inl (.inr (.inl a)))).trans Br (λj a=> .inl (.inr (.inr (.inr (.inl a)))))
  .rcases a with a|a|a
   .exact .inl a
   .exact .inr (.inl a)
   .exact .inr (.inr (.inl a))
  .rcases a with a|a
   .rcases qA j a with a|a
    .exact .inl (.inl a)
    .exact .inr a.1
   .exact .inl (.inr (.inr (.inl a)))
end
end
section
def EL {G:SG} {S:DS} {s:Nat} {c:CM} (b:(G.L.room S).2=0) (a:G.roomy S (cw c).length=true):G.bK S s c=if (G.L.append S s (cw c)).1≠0 then ((G.L.append S s (cw c)).1,(G.L.append S s (cw c)).2.1,{G with L:=(G.L.append S s (cw c)).2.2}) else (0,(G.L.append S s (cw c)).2.1,{G with L:=(G.L.append S s (cw c)).2.2,ov:=CM.bU G.ov c}):=by
 unfold SG.bK SG.made;rw [aB (λh=>h b),aG a];simp only [ne_eq,not_true_eq_false,if_false]
def Ie {G:SG} {S:DS} {s:Nat} {c:CM} (b:(G.L.room S).2=0) (a:¬G.roomy S (cw c).length=true):G.bK S s c=if (G.check S s).1≠0 then G.check S s else if ((G.check S s).2.2.L.append (G.check S s).2.1 s (cw c)).1≠0 then (((G.check S s).2.2.L.append (G.check S s).2.1 s (cw c)).1,((G.check S s).2.2.L.append (G.check S s).2.1 s (cw c)).2.1,{(G.check S s).2.2 with L:=((G.check S s).2.2.L.append (G.check S s).2.1 s (cw c)).2.2}) else (0,((G.check S s).2.2.L.append (G.check S s).2.1 s (cw c)).2.1,{(G.check S s).2.2 with L:=((G.check S s).2.2.L.append (G.check S s).2.1 s (cw c)).2.2,ov:=CM.bU (G.check S s).2.2.ov c}):=by
 unfold SG.bK SG.made;rw [aB (λh=>h b),aB a]
section
variable {w w' w5 w6 w7:World} {F F5 X:Nat->Prop} {r s k kl t hm yt g2 cJ:Nat} {S S5:DS} {G G5:SG} {T:TG} {pv nv tv lv:Value} {ps us:List (Nat×List Int)} {ns:CM} {xs ys:List Value}
def WO {w:World} {B:Nat} (h:Own w B (.slice a n c) d):Src w a n d:=by
 obtain⟨f,c',e,b,_⟩:=h.src;cases e;exact b
def Pn.aaF {B N:Nat} (d:Pn w X B lv ns) (h:iN w F X r s S k kl G pv ps hm nv) (l:∀j,F j->j<B\/N<=j) (m:∀g,lv.ownBlock=some g->g<N) (o:k<B/\kl<B) (n:aa (λj=>F j\/j=k\/j=kl) w w'):Pn w' X B lv ns:=by
 have row:∀g,lv.ownBlock=some g->¬(F g\/g=k\/g=kl):=λg e a=>by
  have p:=d.lo g e;have q:=m g e;rcases a with a|a|a
  .rcases l g a with i|i <;> omega
  .omega
  .omega
 refine d.aw n row (λg c t b f a=>?_);rcases b with b|b
 .rcases a with a|a|a
  .exact h.fO g b a
  .exact f.ne h.st (by decide) a
  .exact f.ne h.lp (by decide) a
 .exact row g b a
def La {S:DS} {s:Nat} (h:S.fN):(L.trim S s).2.1.fN:=by
 have a:=qd h L s;have b:=a.dg s L.f ((L.ep:Int)*4294967296+(L.head:Int));unfold LG.trim;split
 .exact a
 .split
  .exact a
  .split <;> exact b
def xp {G:SG} {S:DS} {s:Nat} (h:S.fN) (d:∀q∈G.ov,Bytes q.2):(G.check S s).2.1.fN:=by
 have a:=qd h G.L s;have b:=kv a s G.y.home d;have c:=La (L:=G.L) (s:=s) b;unfold SG.check;split
 .exact a
 .split
  .exact b
  .split <;> exact c
def iN.ST (a:iN w5 F5 X r s S5 k kl G5 pv ps yt nv) (jE:aa (λj=>F5 j\/j=kl) w5 w6):lx w6 k r kl G5.y pv yt nv/\Pl w6 X pv ps:=by
 refine⟨a.st.aw jE (λe=>e.elim (a.fO _ a.xk) a.kne),a.pl.aw jE (λg e b=>?_) (λg c i d f b=>?_)⟩
 .rcases b with b|b
  .exact a.fO g (a.pl.row g e) b
  .exact a.pl.ne e a.lp (by decide) b
 .rcases b with b|b
  .exact a.fO g d b
  .exact f.ne a.lp (by decide) b
def ip.refused (h:iN w F X r s S k kl G pv ps hm nv) (i:ou w X k t G T tv us) (Je:T.ended=false)
    (c:iN w5 F5 X r s S5 k kl G5 pv ps yt nv) (l:G5.y=G.y) (aaB:S5.Ok s) (qA:∀j,F5 j->more F w w5 j) (dX:aa (λj=>F j\/j=k\/j=kl) w w5) (d:List Int)
    (pK:aC w6 (more F5 w5 w6) r s (G5.L.append S5 s d).2.1) (MW:cM w6 kl r (G5.L.append S5 s d).2.2) (jE:aa (λj=>F5 j\/j=kl) w5 w6) (x:Int):
  ip w F X r s k kl t pv tv nv ps us (x,(G5.L.append S5 s d).2.1,{G5 with L:=(G5.L.append S5 s d).2.2},T) (.returned (iV x)) w6:=by
 have pT:=dX.size;have RQ:=jE.size;obtain⟨K9,Id⟩:=c.ST jE;have f:=iN.SO (ns:= []) (F':=more F5 w5 w6) (X':=X) (pv':=pv) c aaB d (λx b=>by cases b) K9 MW (by rw [List.append_nil];exact Id) (λ_ h=>h) (λg e b=>by rcases b with b|b;exact c.fO g e b;have:=c.lt g e;omega) (λg e=>iL (c.lt g e) RQ) G5.busy;rw [List.append_nil] at f;refine ip.fail h i Je (F5:=more F5 w5 w6) (λj a=>?_) pK f l ((dX.trans jE (λj a=>?_))) x
 .rcases a with a|a
  .rcases qA j a with a|a
   .exact .inl a
   .exact .inr ⟨a.1,by omega⟩
  .exact .inr ⟨by omega,a.2⟩
 .rcases a with a|a
  .rcases qA j a with a|a
   .exact .inl (.inl a)
   .exact .inr a.1
  .exact .inl (.inr (.inr a))
end
section
variable {w w' w1 w2:World} {F F' X X':Nat->Prop} {r s k kl t hm:Nat} {S:DS} {G:SG} {T:TG} {pv nv tv:Value} {ps us:List (Nat×List Int)}
set_option maxRecDepth 100000 in
def If (hd:aC w F r s S) (h:iN w F X r s S k kl G pv ps hm nv) (O:ou w X k t G T tv us) (BA:∀g,pv.ownBlock=some g->tv.ownBlock≠some g) (dO:S.fN) (fE:G.L.bm S=0->S.num G.L.f<=G.L.ep*4294967296+G.L.tail) (aU:S.puts.length+5000<=4000000000000) (Wp:ps.length<=4000000000000):
  Calls prog 89 #[pQ t] w λe w'=>ip w F X r s k kl t pv tv nv ps us (T.bK G S s) e w':=by
 have h1:=ku hd h O.tx;obtain⟨R,hR⟩:=bP (T.bK G S s);rw [<-hR];unfold TG.bK at hR;by_cases q:T.state G S=0
 .have dq:(T.state G S != 0)=false:=by rw [q];rfl
  rw [aB (λh=>h q)] at hR;have hz:G.L.dead S=false/\T.ended=false/\T.bad=0:=by
   unfold TG.state TG.bU at q;cases yR:G.L.dead S
   .cases hee:T.ended
    .rw [yR,hee] at q;simpa using q
    .rw [yR,hee] at q;simp at q
   .rw [yR] at q;simp at q
  obtain⟨r1,r2,r3⟩:=hz;have sT:=O.pu r2;have dw:=hd.ok;have lG:=dw.hi;have Ya:=h.hs;have ho:CM.Ok T.puts:=by rw [sT];exact mP _
  have hgp:∀b,CM.get T.puts b=jC us b:=λb=>by rw [sT];exact ib _ _
  have ajq:T.puts.length<=us.length:=by rw [sT,vV O.nd];exact bR _
  have Yw:T.puts.length<=16:=by rw [sT,vV O.nd];exact O.Ez
  have po:∀x∈T.puts,x.1<G.y.blocks:=λx D=>by rw [sT] at D;exact O.kb x (eW D)
  have hlen:∀x∈T.puts,x.2.length=512/\Bytes x.2:=λx D=>by rw [sT] at D;exact O.pl.len x (eW D)
  obtain⟨ad5,a,H,P,Ho,Hgp,Nj,HR⟩:=xA O.Ez (yh h) (yh O) (yh hd) (yh ho) (yh hgp) (yh hlen) (yh hR);have HBY:=yh dO;obtain⟨ajr,HAp⟩:=bV fE BA;have HFd:=yh (λ(w1:World) (ar:bW w w1) (b:Nat)=>ri (O.pl.later ar).pv b (by omega));obtain⟨HBl,aes⟩:=bV (λ(w1:World) (ar:bW w w1) (b:Nat) (hb:b<G.y.blocks)=>Aj (hd.later ar) (h.later ar) r1 b hb (by omega) Wp) (λ(b:Nat) (hb:b<G.y.blocks)=>iN.aaq hd h hb);clear h O hd ho hgp hlen hR dO fE BA sT q;generalize T.state G S=E at*;go_in;go_wp2_with fail;refine bJ h1 λw1 ar=>?_;have cQ:=yh ar;clear h1 ar;go_wp2;go_loopw [4,5] (λv i wr=>∃b:Nat,b<=G.y.blocks/\i=iV (b:Int)/\Pn wr X w.heap.size v (K8 T G S b)/\bW w wr) (λ_ i _=>G.y.blocks-(intOf i).toNat);case atStart=>exact⟨0,dL _,rfl,by rw [SP];exact Pn.nil _ _ _,cQ.o⟩
  case round=>
   obtain⟨b,hb,rfl,nH,ey⟩:=hrel;have rP:=H.o.tx.later ey;obtain⟨c0,c1,c4,Jy,mr,Au⟩:=jH rP.c0 rP.c1 ((a.o.st.later ey).c4) (yh nH) (yh ey) ey.size;by_cases qb:b<G.y.blocks
   .have qb':(b:Int)<(G.y.blocks:Int):=(by omega);have Ju:=HFd.o wr ey b;have tF:=HBl.o wr ey b qb;have CB:=Hgp.o b;clear nH ey rP;cases hf:jC us b with
    |none=>
     rw [hf] at Ju CB;go_wp2_with fail;refine Ju.mono ?_;rintro e w2 ⟨ho,hw⟩;subst hw;rcases ho with ⟨_,rfl⟩|⟨l',g,c',W,_⟩
     .clear Ju tF;go_wp2;go_roundw;case rel=>exact⟨b+1,by omega,by go_num,by rw [SQ Ho.o CB];exact Jy.o,mr.o⟩
      case measure=>simp [intOf];omega
     .cases W
    |some l=>
     rw [hf] at Ju CB;have hl:=Nj.o (b,l) (CM.get_mem CB);have BM:=aes.o b qb;go_wp2_with fail;refine Ju.mono ?_;rintro e w2 ⟨ho,hw⟩;subst hw;rcases ho with ⟨h0,_⟩|⟨l',g,c',W,rfl,hX,hr⟩
     .cases h0
     cases W;have EJ:=yh hr;clear Ju hr;go_wp2_with fail;refine tF.mono ?_;rintro e w3 ⟨⟨g3,c3,rfl,_,Bm⟩,bz⟩;have lG:=tj g 0 g3 0 512 c' c3 l (G.block S b) w3 hl.1 BM (by omega) (λi hi=>by have:=(EJ.o.agree (bz.block g EJ.o.lt)).src.2.2 _ rfl i (by rw [hl.1];exact hi);rwa [aN] at this) (λi hi=>by have:=Bm.src.2.2 _ rfl i (by rw [BM];exact hi);rwa [aN] at this);have fS:=yh bz;clear tF Bm bz;by_cases qs:l=G.block S b
     .have dd:decide (l=G.block S b)=true:=(by simp [qs]);rw [dd] at lG;have HQ:=yh qs;clear qs;go_wp2_with fail;refine bJ lG λw4 eJ=>?_;have jZ:=yh (fS.o.trans (eJ.mono fS.o.size));clear lG eJ;go_wp2;go_roundw;case rel=>exact⟨b+1,by omega,by go_num,by rw [SR Ho.o CB HQ.o];exact Jy.o.later jZ.o,mr.o.trans (jZ.o.mono mr.o.size)⟩
      case measure=>simp [intOf];omega
     .have dd:decide (l=G.block S b)=false:=(by simp [qs]);rw [dd] at lG;have HQ:=yh qs;clear qs;go_wp2_with fail;refine bJ lG λw4 eJ=>?_;have nY:=fS.o.trans (eJ.mono fS.o.size);have CQ:=WK (T:=T) (G:=G) (S:=S) (b:=b);obtain⟨A,cJ,w5,bI,SU,dX⟩:=(Jy.o.later nY).aem (b:=b) hX (EJ.o.agree (nY.block g EJ.o.lt)) hl (by omega) (by have:=nY.size;omega);have fd:=(mr.o.trans (nY.mono mr.o.size)).trans (dX.below (λj m=>Jy.o.lo j m) (by have:=nY.size;omega));obtain⟨C,nQ⟩:=bV (aH SU fd) bI;clear lG eJ nY bI SU dX fd;go_wp2_with (at_builtin;refine bu rfl _ _ 127 rfl u4 (.slice (some (aD w4.heap.size 0)) 1 1) _ rfl rfl nQ.o ?_);go_roundw;case rel=>exact⟨b+1,by omega,by go_num,by rw [WI Ho.o CB HQ.o];exact C.o.1,C.o.2⟩
      case measure=>simp [intOf];omega
   .have qb':¬(b:Int)<(G.y.blocks:Int):=(by omega);obtain rfl:b=G.y.blocks:=(by omega);rw [(yh (WJ (S:=S) (G:=G) po)).out] at nH;obtain⟨ns,Ms⟩:=bP (T.news G S);have zI:=HR.o;rw [<-Ms] at nH zI;have lJ:ns.length<=16:=(by rw [Ms];exact k9 (List.length_filter_le _ _) Yw);have aet:ns.length<=us.length:=(by rw [Ms];exact k9 (List.length_filter_le _ _) ajq);have xZ:∀x∈ns,x.1<G.y.blocks:=λx D=>by rw [Ms] at D;exact po x (List.mem_filter.1 D).1
    obtain⟨la,lc,hu,-⟩:=nH.pl.form;subst hu;obtain⟨HX,HNk,HPm⟩:=kI a.o.lt xZ nH;clear Jy nH Ms rP c1 HFd HBl aes Hgp Ho Nj xZ po HR Yw qb hb;by_cases q0:ns= []
    .subst q0;rw [aG rfl] at zI;have HR:=yh zI;have nX:=H.o.tx.later ey;have c2:=nX.c2;have f2:=nX.fz 2;clear zI ey nX;go_wp2;go_ret;rw [HR.o];have hk:=aa.setCell (F:=λj=>j=t) wr (p:=(aD t 2)) rfl (.bool true);have nX:=H.o.later mr.o;have pr:aa (λj=>F j\/j=k\/j=kl\/j=t\/pv.ownBlock=some j) w (wr.setCell ⟨t,2,none⟩ (.bool true)):=(aa.ah _ mr.o).trans hk (λ_ h=> .inl (.inr (.inr (.inr (.inl h)))));refine⟨F,X,pv,ps,hm,rfl,λ_ h=> .inl h,λ_ h=> .inl h,λ_ h=>h,(P.o.later mr.o).aw hk (λj m e=>a.o.fO t H.o.xt (e▸m)),((a.o.later mr.o).adC nX.tx hk).busy false,⟨nX.tx.end_,nX.xt,nX.pl.other nX.tx (by decide) (by decide) hk,nX.nd,λh=>(by cases h),nX.kb,nX.Ez⟩,⟨by omega,λ_=>rfl⟩, .inl rfl,pr⟩
    .have iu:=List.length_pos_iff.2 q0;rw [aB q0] at zI;have HR:=yh zI;have dl:((ns.length:Int) == 0)=false:=(by rw [fy];omega);clear zI ey q0;go_wp2_with fail;refine(uC ns.length 2 wr (by omega) (by omega)).mono ?_;rintro e w2 ⟨rv,rfl,aA,bd⟩;obtain⟨HO,HP2,dZ⟩:=kI (aA.down Au) (HPm.o.later bd) (mr.o.trans (bd.mono Au));clear aA bd;go_wp2;clear c0 c4;go_loopw [7,8] (λrv i wr=>∃j:Nat,j<=ns.length/\i=iV (j:Int)/\Own wr w.heap.size rv (bD 2 ns.length ++ (ns.take j).flatMap (λq=>bD 4 q.1))/\Pn wr X w.heap.size (.slice la ns.length lc) ns/\bW w wr) (λ_ i _=>ns.length-(intOf i).toNat);case atStart=>exact⟨0,dL _,rfl,by simpa using HO.o,HP2.o,dZ.o⟩
     case round=>
      obtain⟨j,m,rfl,aA,nH,SV⟩:=hrel;have ajt:=SV.size;have j1:((ns.take j).flatMap (λq=>bD 4 q.1)).length=4*j:=(by rw [nT,oj];omega);have rO:(bD 2 ns.length ++ (ns.take j).flatMap (λq=>bD 4 q.1)).length=2+4*j:=(by rw [ee,aK,j1]);by_cases qj:j<ns.length
      .have qj':(j:Int)<(ns.length:Int):=(by omega);obtain⟨la',lc',J,lH⟩:=nH.pl.form;cases J;obtain⟨gp,rfl,hp⟩:=lH iu;obtain⟨gj,cj,p1,_,_,_⟩:=hp j qj;have X9:ns[j].1<G.y.blocks:=HNk.o _ (List.getElem_mem qj);obtain⟨HOw,HPw,HBw⟩:=kI aA nH SV;clear aA nH SV lH hp;go_wp2_with fail;refine(uC ns[j].1 4 wr (by omega) (by omega)).mono ?_;rintro e w3 ⟨bv,rfl,Mq,bz⟩;obtain⟨ba,bc,rfl,UD,_,_⟩:=Mq.src;rw [aK] at UD⊢;have uj:=HOw.o.later bz;obtain⟨rv',w4,bI,Fy,dW⟩:=Ib uj bc UD (by omega) (by rw [rO];omega) (by have:=bz.size;omega);have Rz:=(HPw.o.later bz).beside uj HX.o dW;have nY:=(HBw.o.trans (bz.mono ajt)).trans (dW.below (λj m=>(uj.lo m).1) (by have:=bz.size;omega));rw [rG,<-DE (λq:Nat×List Int=>bD 4 q.1) ns qj] at Fy;obtain⟨C,nQ⟩:=bV (aH Fy (aH Rz nY)) bI;clear Mq bz UD uj bI Fy dW Rz nY;go_wp2_with (at_builtin;refine bu rfl _ _ 36 rfl u7 (.slice ba 4 bc) _ rfl rfl nQ.o ?_);go_roundw;case rel=>exact⟨j+1,by omega,by go_num,C.o⟩
       case measure=>simp [intOf];omega
      .have qj':¬(j:Int)<(ns.length:Int):=(by omega);obtain rfl:j=ns.length:=(by omega);rw [List.take_length] at aA;obtain⟨HO3,HP3,fS⟩:=kI aA nH SV;clear aA nH SV j1 rO;go_wp2;go_loopw [7,9] (λrv i wr=>∃j:Nat,j<=ns.length/\i=iV (j:Int)/\Own wr w.heap.size rv (bD 2 ns.length ++ (ns.flatMap (λq=>bD 4 q.1) ++ (ns.take j).flatMap (·.2)))/\Pn wr X w.heap.size (.slice la ns.length lc) ns/\bW w wr) (λ_ i _=>ns.length-(intOf i).toNat);case atStart=>exact⟨0,dL _,rfl,by simpa using HO3.o,HP3.o,fS.o⟩
       case round=>
        obtain⟨j,hj3,rfl,aA,nH,tt⟩:=hrel;have ajy:=tt.size;have j1:((ns.take j).flatMap (·.2)).length=512*j:=(by rw [vH (λq hq=>(nH.pl.len q (List.mem_of_mem_take hq)).1),oj];omega);have rO:(bD 2 ns.length ++ (ns.flatMap (λq=>bD 4 q.1) ++ (ns.take j).flatMap (·.2))).length=2+4*ns.length+512*j:=(by rw [ee,ee,aK,j1,nT];omega);by_cases qj:j<ns.length
        .have qj2:(j:Int)<(ns.length:Int):=(by omega);obtain⟨la',lc',J,lH⟩:=nH.pl.form;cases J;obtain⟨gp,rfl,hp⟩:=lH iu;obtain⟨gj,cj,_,p2,_,hrj⟩:=hp j qj;have hsj:Src wr (some (aD gj 0)) 512 ns[j].2:=(by have:=hrj.src;rwa [((nH.pl.len _ (List.getElem_mem qj)).1)] at this);obtain⟨rv',w4,bI,Fy,dW⟩:=Ib aA cj hsj (by omega) (by rw [rO];omega) (by omega);have Rz:=nH.beside aA HX.o dW;have nY:=tt.trans (dW.below (λj m=>(aA.lo m).1) (by omega));rw [rG,rG,<-DE (λq:Nat×List Int=>q.2) ns qj] at Fy;obtain⟨C,nQ⟩:=bV (aH Fy (aH Rz nY)) bI;clear aA nH tt lH hp hrj hsj bI Fy dW Rz nY;go_wp2_with (at_builtin;refine bu rfl _ _ 36 rfl u7 (.slice (some (aD gj 0)) 512 cj) _ rfl rfl nQ.o ?_);go_roundw;case rel=>exact⟨j+1,by omega,by go_num,C.o⟩
         case measure=>simp [intOf];omega
        .have qj2:¬(j:Int)<(ns.length:Int):=(by omega);obtain rfl:j=ns.length:=(by omega);rw [List.take_length] at aA rO;obtain⟨ra,aeu,hrv,my,FG,B2⟩:=aA.src;subst hrv;have Zg:G.L.bm S=0:=(by unfold LG.bm;rw [r1,a.o.bg];rfl);have WP:(G.L.room S).2=0:=(by unfold LG.room;rw [aB (λh=>h Zg)]);have si:=Oj (P.o.later tt) (a.o.lp.later tt) a.o.lk;have aev:bD 2 ns.length ++ (ns.flatMap (λq=>bD 4 q.1) ++ ns.flatMap (·.2))=cw ns:=rfl;rw [aev] at rO my FG aA⊢;have Vx:=qD (λq hq=>(nH.pl.len q hq).2);have SW:G.roomy S (cw ns).length=decide ((di (cw ns).length:Int)<=(G.L.room S).1):=rfl;have M:=EL (s:=s) (c:=ns) WP;have WQ:=Ie (s:=s) (c:=ns) WP;rw [WP] at si;rw [SW] at M WQ;obtain⟨d,yR⟩:=bP (cw ns);rw [<-yR] at rO my FG aA Vx M WQ⊢;obtain⟨x,D⟩:=bP d.length;rw [<-D] at rO my FG M WQ⊢;obtain⟨rm,hrm⟩:=bP ((G.L.room S).1);rw [<-hrm] at si M WQ;have rL:0<x:=(by omega);have jL:x<=10000:=(by omega);obtain⟨c0,k1,HOw,HPw,HBw,OQ,WR,HNb,HCr,HCf,HX0⟩:=Mf ((H.o.tx.later tt).c0) ((a.o.st.later tt).c1) (yh aA) (yh nH) (yh tt) (yh my) (yh B2) (yh Vx) (yh M) (yh WQ) (yh D);clear aA nH tt my B2 Vx M WQ SW aev yR hrm WP j1 D rO;go_wp2_with fail;refine bJ si λw5 fd=>?_;obtain⟨Wo,jr,HO5,HP5,ajC⟩:=eQ ((yh (λw1=>tp x w1 (by omega))).out w5) (yh (HBw.o.trans (fd.mono ajy))) (yh (HOw.o.later fd)) (yh (HPw.o.later fd)) (yh (OQ.o.later fd));have UP:=(H.o.tx.later jr.o).c0;have k15:=(a.o.st.later jr.o).c1;clear si fd c0 k1 HOw HPw OQ;by_cases qr:(di x:Int)<=rm
         .have qrr:¬rm<(((x+491) / 492:Nat):Int):=(by unfold di at qr;omega);have hC:=HCr.o (by rw [decide_eq_true_iff];exact qr);have xR:=HR.o;rw [hC] at xR;clear HCr HCf qr hC;go_wp2_with fail;refine bJ Wo λZ MX=>?_;subst MX;clear Wo;have EM:=xo (P.o.later jr.o) (a.o.later jr.o).lp (a.o.later jr.o).lk (a.o.fO _ a.o.xl) HBY.o ra x aeu d ajC.o (λy hy _ hF=>by have:=(WR.o y hy).1;have:=P.o.lt _ hF;omega) HNb.o FG (by omega) (by omega);by_cases qa:(G.L.append S s d).1=0
          .have da:((G.L.append S s d).1 != 0)=false:=(by rw [qa];rfl);have xK:R=(0,(G.L.append S s d).2.1,{G with L:=(G.L.append S s d).2.2,ov:=CM.bU G.ov ns,busy:=false},T.close):=(by rw [xR];simp only [qa,ne_eq,not_true_eq_false,if_false]);have Jv:=yh xK;clear xK xR;go_wp2_with fail;refine pz EM λK nS Dk gS=>?_;obtain⟨xS,aaH⟩:=(a.o.later jr.o).ST gS;have Lb:=gS.mono (G:=λj=>F j\/j=k\/j=kl) (λj m=>by rcases m with m|m;exact .inl m;exact .inr (.inr m));have EK:=(ou.asked (a.o.later jr.o) (H.o.later jr.o) Lb).tx;obtain⟨xs,oL⟩:=aaH;obtain⟨ys,WL,oo,Y⟩:=Pn.asked (a.o.later jr.o) (B:=w.heap.size) (λj m=>P.o.lt j m) ⟨a.o.lt _ a.o.xk,a.o.lt _ a.o.xl⟩ HP5.o Lb;obtain⟨la',lc',J,lH⟩:=WL.form;cases J;obtain⟨gp,rfl,-⟩:=lH iu;obtain⟨i0,rS,gC,dE,em⟩:=info_parts qv;obtain⟨c07,k77,Lc,EN⟩:=cP EK.c0 xS.c7 (oL.aw (aa.ah (λ_=>False) (ai (bi _ _))) (λ_ _ h=>h) (λ_ _ _ _ _ h=>h)) (WL.aw (aa.ah (λ_=>False) (ai (bi _ _))) (λ_ _ h=>h) (λ_ _ _ _ _ h=>h));have SX:aC K.drew (more F Z K.drew) r s (G.L.append S s d).2.1:=nS.later (ai (bi _ _));have zY:∀j u,ys[j]? =some u->K.drew.cell? (((aD gp 0):Addr).add j)=some u:=λj u hu=>EN.own.cells (g:=gp) rfl _ _ hu;have SY:=yh (λ(A cJ:Nat) (z:World) (uD:z.ownsRow 0 167 2 (.slice (some (aD A 0)) (ps.length+ns.length) cJ) (ps.length+ns.length) (xs ++ ys)) (oW:K.drew.grownBy z pv.ownBlock) (EO:pv.ownBlock=some A\/A=K.heap.size)=>ip.done a.o H.o HAp.o (a.o.later jr.o) rfl dw (λj m=> .inl m) (aa.ah _ jr.o) d SX (Dk.later (ai (bi _ _))) (gS.trans (aa.ah (λ_=>False) (ai (bi _ _))) (λ_ h=>h.elim)) Lc EN Y HNk.o aet uD oW EO);obtain⟨HXs,U,aaJ,Q⟩:=BH Lc EN zY EK;clear EM nS Dk gS xS Lb oL WL oo Y lH Lc EN SX zY EK;go_wp2_with fail
           go_region_law
            (first
             |(refine step_append_lies _ (by rfl) _ _ _ (by rfl) 0 167 i0 _ 2 32 underlying127 rS gC dE em rfl (by omega) pv ps.length xs (by rfl) HXs.o.own (aD gp 0) ns.length lc ys (by rfl) U.o.own.1 aaJ.o U.o.one iu (by unfold maxLen;omega) (by omega) (dL _) K.heap.size (by rfl) ?_;intro A cJ z uD oW EO aaK;obtain⟨W,e2,e3,e4,e5,jK⟩:=SY.o A cJ z uD oW EO;have k78:z.cell? (aD k 7)=some pv:=rH (W.trans e4);have f78:z.frozen? (aD k 7)=false:=ae (W.trans e4) 7;have t08:z.cell? (aD t 0)=some (pQ k):=aM (e2.trans Q.o);have I:(z.setCell ⟨k,7,none⟩ (.slice (some ⟨A,0,none⟩) (ps.length+ns.length) cJ)).heap[t]? =_:=(Below.heap_setCell z ⟨k,7,none⟩ (.slice (some (aD A 0)) (ps.length+ns.length) cJ) t (λe=>e5 e.symm)).trans (e2.trans Q.o);have t28:(z.setCell ⟨k,7,none⟩ (.slice (some ⟨A,0,none⟩) (ps.length+ns.length) cJ)).cell? (aD t 2)=some (.bool T.ended):=bM I;have f28:(z.setCell ⟨k,7,none⟩ (.slice (some ⟨A,0,none⟩) (ps.length+ns.length) cJ)).frozen? (aD t 2)=false:=ae I 2))
           all_goals
            have nf:=yh jK;clear jK uD oW EO aaK W e2 e3 e4 I;go_wp2;go_ret;rw [Jv.o];exact nf.o
          .have da:((G.L.append S s d).1 != 0)=true:=(by rw [gg];exact qa);have xK:R=((G.L.append S s d).1,(G.L.append S s d).2.1,{G with L:=(G.L.append S s d).2.2},T):=(by rw [xR];simp only [qa,ne_eq,not_false_eq_true,if_true]);have Jv:=yh xK;clear xK xR;go_wp2_with fail;refine pz EM λK nS Dk gS=>?_;have C:=yh (aH nS (aH Dk gS));clear EM nS Dk gS;go_wp2;go_ret;rw [Jv.o];exact ip.refused a.o H.o r2 (a.o.later jr.o) rfl dw (λj m=> .inl m) (aa.ah _ jr.o) d C.o.1 C.o.2.1 C.o.2.2 _
         .have qrr:rm<(((x+491) / 492:Nat):Int):=(by unfold di at qr;omega);have hC:=HCf.o (by rw [decide_eq_true_iff];exact qr);have xR:=HR.o;rw [hC] at xR;clear HCr HCf qr hC;go_wp2_with fail;refine bJ Wo λZ MX=>?_;subst MX;clear Wo;have WS:=AD (P.o.later jr.o) (a.o.later jr.o) HBY.o ajr.o (by omega) Wp;have RQ:=jr.o.size;have aey:G.ov.length<=2048:=by
           have ajD:CM.Ok G.ov:=(by rw [a.o.ov];exact mP _);rcases CM.length_le (n:=2048) ajD (λq hq=>by rw [a.o.ov] at hq;have:=a.o.kb q (List.mem_of_mem_drop (eW hq));omega) 0 (λ_ _=>dL _) with h1|h1
           .omega
           .rw [h1];simp
          have PQ:=Aq G S s;obtain⟨ajE,HY8⟩:=bV (xp HBY.o (λq hq=>by rw [a.o.ov] at hq;exact(a.o.pl.len q (List.mem_of_mem_drop (eW hq))).2) (s:=s)) (mN G S s);by_cases qc:(G.check S s).1=0
          .have dc:((G.check S s).1 == 0)=true:=(by rw [qc];rfl);go_wp2_with fail;refine WS.mono ?_;rintro e z ⟨rfl,oV,⟨XO,Jw⟩,j0⟩;have aez:=oV.ok;have hO8:=HO5.o.aw j0 (λg e D=>by have:=(HO5.o.lo e).1;rcases D with D|D|D;have:=P.o.lt _ D;omega;have:=a.o.lt _ a.o.xk;omega;have:=a.o.lt _ a.o.xl;omega);have ajF:=yh (by have:=WO hO8;rwa [<-HX0.o] at this);have aeA:∀y,ra=some y->y.block<Z.heap.size:=λy hy=>by
            obtain⟨g9,c9,e9,_,Uz⟩:=HO5.o.VC (by rw [<-HX0.o];exact rL);cases e9;cases hy;exact Uz.lt
           have HRF:Yh (∀y,ra=some y->0<x->¬more F Z z y.block):=yh (λ(y:Addr) (hy:ra=some y) (_:0<x) (hF:more F Z z y.block)=>by
            have h1:=(WR.o y hy).1;have h2:=aeA y hy;rcases hF with hF|hF
            .have:=P.o.lt _ hF;omega
            .omega)
           obtain⟨HP8,HF5⟩:=bV (Pn.asked (a.o.later jr.o) (B:=w.heap.size) (λj m=>P.o.lt j m) ⟨a.o.lt _ a.o.xk,a.o.lt _ a.o.xl⟩ HP5.o j0) (λ(j:Nat) (m:more F Z z j)=>(m.elim (λh=> .inl (P.o.lt j h)) (λh=> .inr h.1):j<w.heap.size\/Z.heap.size<=j));have aeB:=yh (λ(j:Nat) (m:more F Z z j)=>(m.elim (λh=> .inl h) (λh=> .inr ⟨by omega,h.2⟩):more F w z j));have PN:=yh ((aa.ah (λj=>F j\/j=k\/j=kl) jr.o).trans j0 (λ_ h=> .inl h));have ND:=ou.asked (a.o.later jr.o) (H.o.later jr.o) j0;have HT8:Yh (ou z X k t (G.check S s).2.2 T tv us):=yh ⟨ND.tx,ND.xt,ND.pl,ND.nd,ND.pu,by rw [HY8.o];exact ND.kb,ND.Ez⟩;have c08:=ND.tx.c0;have k18:=Jw.st.c1;clear WS j0 hO8 aeA ND UP k15;have EM:=xo (oV) (Jw).lp (Jw).lk (Jw.fO _ Jw.xl) ajE.o ra x aeu d ajF.o HRF.o HNb.o FG (by omega) (by omega);by_cases qa:((G.check S s).2.2.L.append (G.check S s).2.1 s d).1=0
           .have da:(((G.check S s).2.2.L.append (G.check S s).2.1 s d).1 != 0)=false:=(by rw [qa];rfl);have xK:R=(0,((G.check S s).2.2.L.append (G.check S s).2.1 s d).2.1,{(G.check S s).2.2 with L:=((G.check S s).2.2.L.append (G.check S s).2.1 s d).2.2,ov:=CM.bU (G.check S s).2.2.ov ns,busy:=false},T.close):=(by rw [xR];simp only [qc,qa,ne_eq,not_true_eq_false,if_false]);have Jv:=yh xK;clear xK xR;go_wp2_with fail;refine pz EM λK nS Dk gS=>?_;obtain⟨xS,aaH⟩:=(Jw).ST gS;have Lb:=gS.mono (G:=λj=>(more F Z z) j\/j=k\/j=kl) (λj m=>by rcases m with m|m;exact .inl m;exact .inr (.inr m));have EK:=(ou.asked Jw HT8.o Lb).tx;obtain⟨xs,oL⟩:=aaH;obtain⟨ys,WL,oo,Y⟩:=HP8.o.aaF Jw (N:=Z.heap.size) HF5.o (yh (HP5.o.pl.rlt)).out ⟨a.o.lt _ a.o.xk,a.o.lt _ a.o.xl⟩ Lb;obtain⟨la',lc',J,lH⟩:=WL.form;cases J;obtain⟨gp,rfl,-⟩:=lH iu;obtain⟨i0,rS,gC,dE,em⟩:=info_parts qv;obtain⟨c07,k77,Lc,EN⟩:=cP EK.c0 xS.c7 (oL.aw (aa.ah (λ_=>False) (ai (bi _ _))) (λ_ _ h=>h) (λ_ _ _ _ _ h=>h)) (WL.aw (aa.ah (λ_=>False) (ai (bi _ _))) (λ_ _ h=>h) (λ_ _ _ _ _ h=>h));have SX:aC K.drew (more (more F Z z) z K.drew) r s ((G.check S s).2.2.L.append (G.check S s).2.1 s d).2.1:=nS.later (ai (bi _ _));have zY:∀j u,ys[j]? =some u->K.drew.cell? (((aD gp 0):Addr).add j)=some u:=λj u hu=>EN.own.cells (g:=gp) rfl _ _ hu;have SY:=yh (λ(A cJ:Nat) (z:World) (uD:z.ownsRow 0 167 2 (.slice (some (aD A 0)) (ps.length+ns.length) cJ) (ps.length+ns.length) (xs ++ ys)) (oW:K.drew.grownBy z pv.ownBlock) (EO:pv.ownBlock=some A\/A=K.heap.size)=>ip.done a.o H.o HAp.o (Jw) HY8.o aez aeB.o PN.o d SX (Dk.later (ai (bi _ _))) (gS.trans (aa.ah (λ_=>False) (ai (bi _ _))) (λ_ h=>h.elim)) Lc EN Y HNk.o aet uD oW EO);obtain⟨HXs,U,aaJ,Q⟩:=BH Lc EN zY EK;clear EM nS Dk gS xS Lb oL WL oo Y lH Lc EN SX zY EK;go_wp2_with fail
            go_region_law
             (first
              |(refine step_append_lies _ (by rfl) _ _ _ (by rfl) 0 167 i0 _ 2 32 underlying127 rS gC dE em rfl (by omega) pv ps.length xs (by rfl) HXs.o.own (aD gp 0) ns.length lc ys (by rfl) U.o.own.1 aaJ.o U.o.one iu (by unfold maxLen;omega) (by omega) (dL _) K.heap.size (by rfl) ?_;intro A cJ z uD oW EO aaK;obtain⟨W,e2,e3,e4,e5,jK⟩:=SY.o A cJ z uD oW EO;have k78:z.cell? (aD k 7)=some pv:=rH (W.trans e4);have f78:z.frozen? (aD k 7)=false:=ae (W.trans e4) 7;have t08:z.cell? (aD t 0)=some (pQ k):=aM (e2.trans Q.o);have I:(z.setCell ⟨k,7,none⟩ (.slice (some ⟨A,0,none⟩) (ps.length+ns.length) cJ)).heap[t]? =_:=(Below.heap_setCell z ⟨k,7,none⟩ (.slice (some (aD A 0)) (ps.length+ns.length) cJ) t (λe=>e5 e.symm)).trans (e2.trans Q.o);have t28:(z.setCell ⟨k,7,none⟩ (.slice (some ⟨A,0,none⟩) (ps.length+ns.length) cJ)).cell? (aD t 2)=some (.bool T.ended):=bM I;have f28:(z.setCell ⟨k,7,none⟩ (.slice (some ⟨A,0,none⟩) (ps.length+ns.length) cJ)).frozen? (aD t 2)=false:=ae I 2))
            all_goals
             have nf:=yh jK;clear jK uD oW EO aaK W e2 e3 e4 I;go_wp2;go_ret;rw [Jv.o];exact nf.o
           .have da:(((G.check S s).2.2.L.append (G.check S s).2.1 s d).1 != 0)=true:=(by rw [gg];exact qa);have xK:R=(((G.check S s).2.2.L.append (G.check S s).2.1 s d).1,((G.check S s).2.2.L.append (G.check S s).2.1 s d).2.1,{(G.check S s).2.2 with L:=((G.check S s).2.2.L.append (G.check S s).2.1 s d).2.2},T):=(by rw [xR];simp only [qc,qa,ne_eq,not_true_eq_false,not_false_eq_true,if_true,if_false]);have Jv:=yh xK;clear xK xR;go_wp2_with fail;refine pz EM λK nS Dk gS=>?_;have C:=yh (aH nS (aH Dk gS));clear EM nS Dk gS;go_wp2;go_ret;rw [Jv.o];exact ip.refused a.o H.o r2 (Jw) HY8.o aez aeB.o PN.o d C.o.1 C.o.2.1 C.o.2.2 _
          .have dc:((G.check S s).1 == 0)=false:=(by rw [fy];exact qc);have dn:((G.check S s).1 != 0)=true:=(by rw [gg];exact qc);have xK:R=((G.check S s).1,(G.check S s).2.1,(G.check S s).2.2,T):=(by rw [xR];simp only [qc,ne_eq,not_false_eq_true,if_true]);have Jv:=yh xK;clear xK xR;go_wp2_with fail;refine WS.mono ?_;rintro e z ⟨rfl,oV,⟨XO,Jw⟩,j0⟩;have C:=yh (aH oV (aH Jw j0));clear WS oV Jw j0;go_wp2;go_ret;rw [Jv.o];exact ip.fail a.o H.o r2 (λj m=>m.elim (λh=> .inl h) (λh=> .inr ⟨by omega,h.2⟩)) C.o.1 C.o.2.1 HY8.o ((aa.ah _ jr.o).trans C.o.2.2 (λ_ h=> .inl h)) _
 .have dq:(T.state G S != 0)=true:=by rw [gg];exact q
  rw [aG q] at hR;obtain⟨HR,a,H,P⟩:=BH hR h O hd;clear hR q;generalize T.state G S=E at*;clear h O hd;go_in;go_wp2_with fail;refine bJ h1 λw1 ar=>?_;have HB:=yh ar;clear h1 ar;go_wp2;go_ret;rw [HR.o];exact⟨F,X,pv,ps,hm,rfl,λ_ h=> .inl h,λ_ h=> .inl h,λ_ h=>h,P.o.later HB.o,a.o.later HB.o,H.o.later HB.o,⟨by omega,λ_=>rfl⟩, .inl rfl,aa.ah _ HB.o⟩
end
end
end Go.Proofs.YtcpdggdfihjhoaaGreat
