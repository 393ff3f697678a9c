import Derived.Test.YtkiehemoiapkkaaGreatY01
import Derived.Test.YtkiehemoiapkkaaGreatY03
import Derived.Test.YtkiehemoiapkkaaGreatY04
import Derived.Scope
import Derived.WalkMore
set_option maxRecDepth 20000
set_option maxHeartbeats 8000000
set_option linter.all false
namespace Go.Proofs.YtkiehemoiapkkaaGreat
open Go.Proofs.Tryz
open Go.RowKit Go.Maps
variable {X ms ns ov:CM} {S:DS} {L:LG} {y:LY} {E N P c c' cR f i j k l n p q s:Nat} {Pg:Nat->List Int} {F F2:Nat->Prop} {G:SG} {T:TG} {w w':World}
def Jy {m:Nat} {a:Bool} (hd:B.aj w F p s S c) (i:lT w q p l m y a) (g:bO w l p L) (f:L.Ok s) (d:L.begun=true):
  Calls prog 108 #[pQ q] w λe w'=>e= .returned (.bool (L.dead S))/\bW w w':=by
 have b:=BY hd.old g f;have n:((L.room S).2 == 3)=L.dead S:=by
  unfold LG.room LG.aX;cases qd:L.dead S
  .rw [aB (show¬false=true by decide),aN d,aB (λh=>h rfl)];rfl
  .rw [aN rfl,aN (by decide)];rfl
 have k:=i.c1;generalize (L.room S).2=E at*;generalize (L.room S).1=j at*;go_in;go_wp2_with fail;refine ef b λw1 aq=>?_;go_wp2;go_ret;exact⟨rfl,aq⟩
def oL (w:World):(w.alloc (.cells aM 113)).there w.heap.size 0 512:=aZ (heap_alloc_new _ _) bL
def vh (a:Option Addr) (c:Nat) (w:World):(Instr.arrayAt 113 (.slice a 512 c)).run prog w= .ok (.pointer a) w:=by
 simp [Instr.arrayAt,run_underlying underlying113]
def iQ {g:Nat} (h:w.there g 0 n) (c:w'.heap[g]? =w.heap[g]?):w'.there g 0 n:=by
 intro j e;obtain⟨d,b⟩:=h j e;refine⟨?_,?_⟩
 .rw [World.cell?_of_block (w:=w) (w':=w') (a:=⟨g,0+j,none⟩) c];exact d
 .unfold World.frozen? at b⊢;rw [show w'.heap[g]? =w.heap[g]? from c];exact b
def Ae {m:Nat} {a:Bool} (i:lT w q p l m y a) (g:Ch w m ov) (b:Nat) {c:List Int} (f:CM.get ov b=some c):
  Calls prog 110 #[pQ q,iV (b:Int)] w λe w'=>e= .returned (.tuple #[cV c,iV 0])/\bW w w':=by
 have q5:=g.len _ (CM.get_mem f);have L0:=gO;have aH:bW w (w.alloc (.cells aM 113)):=(cW _ w).alloc (di _) _;have r:=(i.later aH).c7;have gl:=(g.later aH).look b q5.1;rw [f] at gl;have bu:=dO (w.alloc (.cells aM 113)) q5.2.1;rw [World.size_alloc] at bu;have aJ:=dH q5.2.1;have cY:=bD c;have qN:(bs c).length=512:=by rw [bs,ju,q5.2.1]
 obtain⟨A,d⟩:=cF (bs c);have qf:(Instr.lookup 94 (.map (some m)) (iV (b:Int)) true).run prog (w.alloc (.cells aM 113))= .ok (.tuple #[.agg A.toArray, .bool true]) (w.alloc (.cells aM 113)):=by rw [d];exact gl
 have oH:(((w.alloc (.cells aM 113)).alloc (.cells aM 113)).setCells (w.heap.size+1) 0 (bs c)).rangeAt (w.heap.size+1) 0 (bs c):=λj v n=>by
  have:=bu.1.news j v n;rwa [aV] at this
 rw [<-d] at aJ cY qN bu oH;have MH:=iQ (oL w) (bu.2.1.block _ (by simp));have wm:=yh (World.rangeAt_setCells_same _ w.heap.size 0 A (by rw [qN];exact MH));have bC:=all_oneCell_toArray cY;have eY:=aH.trans (bu.2.1.mono (by omega));have gP:=yh (eY.trans ((ad.setCells (F:=λj=>j=w.heap.size) rfl A 0 _).below (λj s=>by omega) eY.size));have E3:=bu.2.2;have k:=yh d;clear gl bu i g aH eY cY f q5 d;generalize aM=Z at*;go_in;go_wp2_with (first|refine wpList_load_mid rfl 113 _ rfl (w.heap.size+1) 0 rfl A _ oH underlying113 rfl aJ ?_|refine wpList_store_mid rfl 113 _ _ rfl (w.heap.size+1) 0 A.toArray rfl rfl ?h1 ?h2 bC ?_|refine wpList_store_mid rfl 113 _ _ rfl w.heap.size 0 A.toArray rfl rfl ?h3 ?h4 bC ?_);case h1=>first|simpa using E3|(rw [qN] at E3;simpa using E3)
 case h2=>simpa using aJ
 case h3=>
  have e:A.toArray.size=512:=by simpa using qN
  rw [e];exact MH
 case h4=>simpa using aJ
 refine bodyPost_ret (results_cell_tmp (P:=prog) rfl _ _ w.heap.size A _ _ rfl rfl wm.out underlying113 rfl aJ) rfl ⟨?_,gP.out⟩;show _=Ending.returned (.tuple #[.agg (bs c).toArray,iV 0]);rw [<-k.o];rfl
def wT {m:Nat} {d:Bool} (hd:B.aj w F p s S cR) (z:lT w q p l m y d) (J:Ch w m ov) (R:¬F q) (b:Nat) (f:b<2048) (I:CM.get ov b=none) (i:y.home+b<s) (O:S.fuse≠0) (bn:S.puts.length+1<=4000000000000):
  Calls prog 110 #[pQ q,iV (b:Int)] w λe w'=>e= .returned (.tuple #[cV (S.now (y.home+b)),iV 0])/\B.aj w' F p s S (cR+1)/\ad F w w':=by
 have L0:=gO;have ME:=hd.ok.hi;have aH:bW w (w.alloc (.cells aM 113)):=(cW _ w).alloc (di _) _;have H:=(z.later aH).c7;have gl:=(J.later aH).look b f;rw [I] at gl;have qf:(Instr.lookup 94 (.map (some m)) (iV (b:Int)) true).run prog (w.alloc (.cells aM 113))= .ok (.tuple #[.agg aM, .bool false]) (w.alloc (.cells aM 113)):=gl;have bu:=dO (w.alloc (.cells aM 113)) (bN 512);rw [World.size_alloc] at bu;have vi:=dH (bN 512);have Cj:=all_oneCell_toArray (bD (zs 512));have sw:=bu.2.2;have A8:(bs (zs 512)).toArray=aM:=rfl;obtain⟨c,TE⟩:=cF (bs (zs 512));rw [<-TE] at bu vi Cj sw A8;have x:c.length=512:=by rw [TE,bs,ju,bN]
 obtain⟨a,MI⟩:=cF (((w.alloc (.cells aM 113)).alloc (.cells aM 113)).setCells (w.heap.size+1) 0 c);have Qu:bW w a:=by rw [MI];exact aH.trans (bu.2.1.mono (by omega))
 have MJ:a.there w.heap.size 0 512:=by rw [MI];exact iQ (oL w) (bu.2.1.block _ (by simp))
 have TF:w.heap.size<a.heap.size:=by
  have:=bu.2.1.size;rw [MI];rw [World.size_alloc] at this;omega
 have Z5:=z.later Qu;have G:=Z5.c0;have Ci:=λ(D:World) (f:bW a D)=>Cg (Z5.later f) b (by omega);have Jz:=λ(D:World) (f:bW a D)=>B.Ce ((hd.later Qu).later f) (y.home+b) i bn O;rw [Int.natCast_add] at Jz;obtain⟨M,t,u,W9,n,iH,TH,Vu⟩:=aa5 Ci Jz Z5 MJ Qu hd.lt MI (bT hd.ok (y.home+b) i);clear gl bu z J aH Qu hd Z5 Ci Jz MJ I MI TE;rw [<-A8] at L0 H qf sw TH;clear A8;go_in;go_wp2_with (refine wpList_store_mid rfl 113 _ _ rfl (w.heap.size+1) 0 c.toArray rfl rfl ?h1 ?h2 Cj ?_);case h1=>first|simpa using sw|(rw [x] at sw;simpa using sw)
 case h2=>simpa using vi
 have TI:=TH.o;subst TI;generalize Jw:((w.alloc (.cells c.toArray 113)).alloc (.cells c.toArray 113)).setCells (w.heap.size+1) 0 c=a at*;clear Jw qf H sw TH;go_region_held3 (λw'=>w'.cell? (aD q 0)=some (pQ p))
  (first|exact G|exact RZ)
  (first
   |(go_at_call 127;refine(M.o _ (ah (cW _ _))).mono ?_;rintro e U ⟨rfl,Hc⟩;have Ad:=Hc.symm;subst Ad;clear Hc)
   |(go_at_call 102;refine(t.o _ (ah (cW _ _))).mono ?_;rintro e C ⟨v,rfl,Q,pp,cB⟩;have RZ:=((u.o.later (ah (cW _ _))).ak cB R).c0))
 obtain⟨T,N,rfl,TJ,TK⟩:=Q;rw [Vu.o] at TJ⊢;obtain⟨E,K,rfl⟩:=is TJ (by omega);have Tg:=vh (some (aD E K)) N;have oH:=l6 TJ;have aJ:=dH Vu.o;have cY:=bD (S.now (y.home+b));obtain⟨A,g⟩:=cF (bs (S.now (y.home+b)));rw [<-g] at oH aJ cY;have qN:A.length=512:=by rw [g,bs,ju,Vu.o]
 have bC:=all_oneCell_toArray cY;have tW:¬F w.heap.size:=λh=>by have:=iH.o _ h;omega
 have MK:=iQ W9.o (cB.block _ TF tW);have wm:=yh (World.rangeAt_setCells_same C w.heap.size 0 A (by rw [qN];exact MK));have iB:=ad.setCells (F:=λj=>j=w.heap.size) rfl A 0 C;have r:=yh (pp.ak iB (λk i e=>tW (e▸i)));obtain⟨G0,L⟩:=eA ((((ad.ag F n.o).trans (ad.ag (λ_=>False) (ah (cW a.heap.size a))) (λ_ h=>h.elim)).trans cB (λ_ h=> .inl h)).trans iB (λk e=> .inr (by omega)):ad F w (C.setCells w.heap.size 0 A)) g;clear pp cB TJ TK G RZ cY iB g;go_wp2_with (first|refine wpList_load_mid rfl 113 _ rfl E K rfl A _ oH underlying113 rfl aJ ?_|refine wpList_store_mid rfl 113 _ _ rfl w.heap.size 0 A.toArray rfl rfl ?h3 ?h4 bC ?_);case h3=>
  have e:A.toArray.size=512:=by simpa using qN
  rw [e];exact MK
 case h4=>simpa using aJ
 refine bodyPost_ret (results_cell_tmp (P:=prog) rfl _ _ w.heap.size A _ _ rfl rfl wm.out underlying113 rfl aJ) rfl ⟨?_,r.o,G0.o⟩;show _=Ending.returned (.tuple #[.agg (bs (S.now (y.home+b))).toArray,iV 0]);rw [<-L.o];rfl
section
structure ip (w:World) (F:Nat->Prop) (p s cR q l m:Nat) (S:DS) (G:SG):Prop where
 d:B.aj w F p s S cR
 st:lT w q p l m G.y G.busy
 lp:bO w l p G.L
 ch:Ch w m G.ov
 nq:¬F q
 nl:¬F l
 nm:¬F m
 ql:q≠l
 qm:q≠m
 lm:l≠m
 lk:G.L.Ok s
 bg:G.L.begun=true
 hs:G.y.home+G.y.blocks<=s
 kb:∀x∈G.ov,x.1<G.y.blocks
abbrev A9 (q n:Nat) (T:TG):Array Value:= #[pQ q, .map (some n),iV T.bad, .bool T.ended]
structure lU (w:World) (F:Nat->Prop) (q l m t n:Nat) (G:SG) (T:TG):Prop where
 tx:w.heap[t]? =some (.cells (A9 q n T) 106 (0,0))
 ch:Ch w n T.puts
 nt:¬F t
 nn:¬F n
 tq:t≠q
 tl:t≠l
 tm:t≠m
 tn:t≠n
 nq:n≠q
 nl:n≠l
 nm:n≠m
 kb:∀x∈T.puts,x.1<G.y.blocks
section
variable {w w':World} {F:Nat->Prop} {p s cR q l m t n:Nat} {S:DS} {G:SG} {T:TG}
def ip.later (h:ip w F p s cR q l m S G) (a:bW w w'):ip w' F p s cR q l m S G:=
   ⟨h.d.later a,h.st.later a,h.lp.later a,h.ch.later a,h.nq,h.nl,h.nm,h.ql,h.qm,h.lm,h.lk,h.bg,h.hs,h.kb⟩
def lU.later (h:lU w F q l m t n G T) (a:bW w w'):lU w' F q l m t n G T:=
   ⟨(a.block t (af h.tx)).trans h.tx,h.ch.later a,h.nt,h.nn,h.tq,h.tl,h.tm,h.tn,h.nq,h.nl,h.nm,h.kb⟩
def ip.asked (h:ip w F p s cR q l m S G) (hd:B.aj w' F p s S c') (a:ad F w w'):ip w' F p s c' q l m S G:=
   ⟨hd,h.st.ak a h.nq,h.lp.ak a h.nl,h.ch.ak a h.nm,h.nq,h.nl,h.nm,h.ql,h.qm,h.lm,h.lk,h.bg,h.hs,h.kb⟩
def lU.asked (h:lU w F q l m t n G T) (a:ad F w w'):lU w' F q l m t n G T:=
   ⟨(a.block t (af h.tx) h.nt).trans h.tx,h.ch.ak a h.nn,h.nt,h.nn,h.tq,h.tl,h.tm,h.tn,h.nq,h.nl,h.nm,h.kb⟩
def lU.c0 (h:lU w F q l m t n G T):w.cell? (aD t 0)=some (pQ q):=aL h.tx
def lU.c1 (h:lU w F q l m t n G T):w.cell? (aD t 1)=some (.map (some n)):=bY h.tx
def lU.c2 (h:lU w F q l m t n G T):w.cell? (aD t 2)=some (iV T.bad):=cJ h.tx
def lU.c3 (h:lU w F q l m t n G T):w.cell? (aD t 3)=some (.bool T.ended):=jw h.tx
def ip.dead (h:ip w F p s cR q l m S G):Calls prog 108 #[pQ q] w λe w'=>e= .returned (.bool (G.L.dead S))/\bW w w':=Jy h.d h.st h.lp h.lk h.bg
def Ck (h:ip w F p s cR q l m S G) (c:lU w F q l m t n G T):
  Calls prog 85 #[pQ t] w λe w'=>e= .returned (iV (T.dM G S))/\bW w w':=by
 have a:=h.dead;have f:=c.c0;unfold TG.dM;go_in;cases hd:G.L.dead S
 .rw [hd] at a;rw [aB (by decide)];cases d:T.ended
  .rw [aB (by decide)];go_wp2_with fail;refine ef a λw1 aq=>?_;have b:=(c.later aq).c3;rw [d] at b;go_wp2;go_ret;exact⟨rfl,aq⟩
  .rw [aN rfl];go_wp2_with fail;refine ef a λw1 aq=>?_;have b:=(c.later aq).c3;rw [d] at b;go_wp2;go_ret;exact⟨rfl,aq⟩
 .rw [hd] at a;rw [aN rfl];go_wp2_with fail;refine ef a λw1 aq=>?_;go_wp2;go_ret;exact⟨rfl,aq⟩
def gg (h:ip w F p s cR q l m S G) (b:lU w F q l m t n G T):
  Calls prog 39 #[pQ t] w λe w'=>e= .returned (iV (T.state G S))/\bW w w':=by
 have a:=Ck h b;unfold TG.state;generalize T.dM G S=E at*;go_in;by_cases k:E=0
 .have d:(E != 0)=false:=by rw [k];rfl
  rw [aB (λh=>h k)];go_wp2_with fail;refine ef a λw1 aq=>?_;have c:=(b.later aq).c2;go_wp2;go_ret;exact⟨rfl,aq⟩
 .have d:(E != 0)=true:=by rw [rO];exact k
  rw [aN k];go_wp2_with fail;refine ef a λw1 aq=>?_;go_wp2;go_ret;exact⟨rfl,aq⟩
def vj (h:ip w F p s cR q l m S G) (c:lU w F q l m t n G T) (b:Int):
  Calls prog 67 #[pQ t,iV b] w λe w'=>e= .returned (iV (T.refusal G S b))/\bW w w':=by
 have a:=gg h c;have f:=h.st;unfold TG.refusal;generalize T.state G S=E at*;go_in;by_cases k:E=0
 .have d:(E != 0)=false:=by rw [k];rfl
  rw [aB (λh=>h k)];by_cases g:b<0
  .rw [aN (.inl g)];go_wp2_with fail;refine ef a λw1 aq=>?_;go_wp2;go_ret;exact⟨rfl,aq⟩
  .by_cases i:(G.y.blocks:Int)<=b
   .rw [aN (.inr i)];go_wp2_with fail;refine ef a λw1 aq=>?_;have j:=(c.later aq).c0;have o:=(f.later aq).c4;go_wp2;go_ret;exact⟨rfl,aq⟩
   .rw [aB (λh=>h.elim g i)];go_wp2_with fail;refine ef a λw1 aq=>?_;have j:=(c.later aq).c0;have o:=(f.later aq).c4;go_wp2;go_ret;exact⟨rfl,aq⟩
 .have d:(E != 0)=true:=by rw [rO];exact k
  rw [aN k];go_wp2_with fail;refine ef a λw1 aq=>?_;go_wp2;go_ret;exact⟨rfl,aq⟩
end
end
def px {m:Nat} (h:ip w F p s cR q l m S G) (b:Nat) (g:b<G.y.blocks) (f:S.fuse≠0) (bn:S.puts.length+1<=4000000000000):
  Calls prog 110 #[pQ q,iV (b:Int)] w λe w'=>e= .returned (.tuple #[cV (G.block S b),iV 0])/\B.aj w' F p s S (cR+1)/\ad F w w':=by
 have i:=h.hs;have ME:=h.d.ok.hi;unfold SG.block;cases a:CM.get G.ov b with
 |none=>
  rw [Option.getD_none];exact wT h.d h.st h.ch h.nq b (by omega) a (by omega) f bn
 |some c=>
  rw [Option.getD_some];refine(Ae h.st h.ch b a).mono ?_;rintro e w' ⟨rfl,nh⟩;exact⟨rfl,(h.d.later nh).le (by omega),ad.ag F nh⟩
def sA {m:Nat} (h:ip w F p s cR q l m S G) (b:Nat) (e:b<G.y.blocks):(G.block S b).length=512:=by
 have f:=h.hs;unfold SG.block;cases a:CM.get G.ov b with
 |none=>rw [Option.getD_none];exact bT h.d.ok _ (by omega)
 |some c=>rw [Option.getD_some];exact(h.ch.len _ (CM.get_mem a)).2.1
def vk {m t:Nat} (h:ip w F p s cR q l m S G) (e:lU w F q l m t n G T) (b:Nat) (a:b<G.y.blocks):(T.bq G S b).length=512:=by
 unfold TG.bq;cases d:CM.get T.puts b with
 |none=>rw [Option.getD_none];exact sA h b a
 |some c=>rw [Option.getD_some];exact(e.ch.len _ (CM.get_mem d)).2.1
def Qv {m t:Nat} (g:lU w F q l m t n G T) (b:Nat) {c:List Int} (d:CM.get T.puts b=some c):
  Calls prog 68 #[pQ t,iV (b:Int)] w λe w'=>e= .returned (.tuple #[cV c,iV 0])/\bW w w':=by
 have f:=g.ch;have q5:=f.len _ (CM.get_mem d);have L0:=gO;have aH:bW w (w.alloc (.cells aM 113)):=(cW _ w).alloc (di _) _;have p:=(g.later aH).c1;have gl:=(f.later aH).look b q5.1;rw [d] at gl;have bu:=dO (w.alloc (.cells aM 113)) q5.2.1;rw [World.size_alloc] at bu;have aJ:=dH q5.2.1;have cY:=bD c;have qN:(bs c).length=512:=by rw [bs,ju,q5.2.1]
 obtain⟨A,a⟩:=cF (bs c);have qf:(Instr.lookup 94 (.map (some n)) (iV (b:Int)) true).run prog (w.alloc (.cells aM 113))= .ok (.tuple #[.agg A.toArray, .bool true]) (w.alloc (.cells aM 113)):=by rw [a];exact gl
 have oH:(((w.alloc (.cells aM 113)).alloc (.cells aM 113)).setCells (w.heap.size+1) 0 (bs c)).rangeAt (w.heap.size+1) 0 (bs c):=λj v k=>by
  have:=bu.1.news j v k;rwa [aV] at this
 rw [<-a] at aJ cY qN bu oH;have MH:=iQ (oL w) (bu.2.1.block _ (by simp));have wm:=yh (World.rangeAt_setCells_same _ w.heap.size 0 A (by rw [qN];exact MH));have bC:=all_oneCell_toArray cY;have eY:=aH.trans (bu.2.1.mono (by omega));have gP:=yh (eY.trans ((ad.setCells (F:=λj=>j=w.heap.size) rfl A 0 _).below (λj r=>by omega) eY.size));have E3:=bu.2.2;have i:=yh a;clear gl bu g f aH eY cY d q5 a;generalize aM=Z at*;go_in;go_wp2_with (first|refine wpList_load_mid rfl 113 _ rfl (w.heap.size+1) 0 rfl A _ oH underlying113 rfl aJ ?_|refine wpList_store_mid rfl 113 _ _ rfl (w.heap.size+1) 0 A.toArray rfl rfl ?h1 ?h2 bC ?_|refine wpList_store_mid rfl 113 _ _ rfl w.heap.size 0 A.toArray rfl rfl ?h3 ?h4 bC ?_);case h1=>first|simpa using E3|(rw [qN] at E3;simpa using E3)
 case h2=>simpa using aJ
 case h3=>
  have e:A.toArray.size=512:=by simpa using qN
  rw [e];exact MH
 case h4=>simpa using aJ
 refine bodyPost_ret (results_cell_tmp (P:=prog) rfl _ _ w.heap.size A _ _ rfl rfl wm.out underlying113 rfl aJ) rfl ⟨?_,gP.out⟩;show _=Ending.returned (.tuple #[.agg (bs c).toArray,iV 0]);rw [<-i.o];rfl
def ML {m t:Nat} (h:ip w F p s cR q l m S G) (f:lU w F q l m t n G T) (b:Nat) (z:b<G.y.blocks) (C:CM.get T.puts b=none) (H:S.fuse≠0) (bn:S.puts.length+1<=4000000000000):
  Calls prog 68 #[pQ t,iV (b:Int)] w λe w'=>e= .returned (.tuple #[cV (G.block S b),iV 0])/\B.aj w' F p s S (cR+1)/\ad F w w':=by
 obtain⟨L0,ME,Xa⟩:=tO gO h.d.ok.hi h.hs;have aH:bW w (w.alloc (.cells aM 113)):=(cW _ w).alloc (di _) _;have x:=(f.later aH).c1;have gl:=(f.ch.later aH).look b (by omega);rw [C] at gl;have qf:(Instr.lookup 94 (.map (some n)) (iV (b:Int)) true).run prog (w.alloc (.cells aM 113))= .ok (.tuple #[.agg aM, .bool false]) (w.alloc (.cells aM 113)):=gl;have bu:=dO (w.alloc (.cells aM 113)) (bN 512);rw [World.size_alloc] at bu;have vi:=dH (bN 512);have Cj:=all_oneCell_toArray (bD (zs 512));have sw:=bu.2.2;have A8:(bs (zs 512)).toArray=aM:=rfl;obtain⟨a,TE⟩:=cF (bs (zs 512));rw [<-TE] at bu vi Cj sw A8;have u:a.length=512:=by rw [TE,bs,ju,bN]
 obtain⟨g,MI⟩:=cF (((w.alloc (.cells aM 113)).alloc (.cells aM 113)).setCells (w.heap.size+1) 0 a);have Qu:bW w g:=by rw [MI];exact aH.trans (bu.2.1.mono (by omega))
 have MJ:g.there w.heap.size 0 512:=by rw [MI];exact iQ (oL w) (bu.2.1.block _ (by simp))
 have TF:w.heap.size<g.heap.size:=by
  have:=bu.2.1.size;rw [MI];rw [World.size_alloc] at this;omega
 obtain⟨E,Ba,W9,i,iH,TH,Vu⟩:=wG ((f.later Qu).c0) (px (h.later Qu) b z H bn) (yh MJ) (yh Qu) (yh h.d.lt) (yh MI) (yh (sA h b z));clear gl bu f aH Qu h MJ C MI TE;rw [<-A8] at L0 x qf sw TH;clear A8;go_in
 go_upto_region 4 with (refine wpList_store_mid rfl 113 _ _ rfl (w.heap.size+1) 0 a.toArray rfl rfl ?h1 ?h2 Cj ?_)
 case h1=>first|simpa using sw|(rw [u] at sw;simpa using sw)
 case h2=>simpa using vi
 have TI:=TH.o;subst TI;generalize Jw:((w.alloc (.cells a.toArray 113)).alloc (.cells a.toArray 113)).setCells (w.heap.size+1) 0 a=g at*;clear Jw qf x sw TH;obtain⟨A,c⟩:=cF (bs (G.block S b));have aJ:=dH Vu.o;have cY:=bD (G.block S b);unfold cV at Ba;rw [<-c] at aJ cY Ba;have qN:A.length=512:=by rw [c,bs,ju,Vu.o]
 have bC:=all_oneCell_toArray cY;have D:=yh c;clear cY c;go_wp2_with fail;refine j8 Ba λv pp cB=>?_;have tW:¬F w.heap.size:=λh=>by have:=iH.o _ h;omega
 have MK:=iQ W9.o (cB.block _ TF tW);have wm:=yh (World.rangeAt_setCells_same v w.heap.size 0 A (by rw [qN];exact MK));have iB:=ad.setCells (F:=λj=>j=w.heap.size) rfl A 0 v;have r:=yh (pp.ak iB (λk I e=>tW (e▸I)));have G0:=yh (((ad.ag F i.o).trans cB (λ_ h=> .inl h)).trans iB (λk e=> .inr (by omega)):ad F w (v.setCells w.heap.size 0 A));clear pp cB E iB Ba;go_wp2_with (refine wpList_store_mid rfl 113 _ _ rfl w.heap.size 0 A.toArray rfl rfl ?h3 ?h4 bC ?_);case h3=>
  have e:A.toArray.size=512:=by simpa using qN
  rw [e];exact MK
 case h4=>simpa using aJ
 refine bodyPost_ret (results_cell_tmp (P:=prog) rfl _ _ w.heap.size A _ _ rfl rfl wm.out underlying113 rfl aJ) rfl ⟨?_,r.o,G0.o⟩;show _=Ending.returned (.tuple #[.agg (bs (G.block S b)).toArray,iV 0]);rw [<-D.o];rfl
def Cl {m t:Nat} (h:ip w F p s cR q l m S G) (f:lU w F q l m t n G T) (b:Nat) (g:b<G.y.blocks) (i:S.fuse≠0) (bn:S.puts.length+1<=4000000000000):
  Calls prog 68 #[pQ t,iV (b:Int)] w λe w'=>e= .returned (.tuple #[cV (T.bq G S b),iV 0])/\B.aj w' F p s S (cR+1)/\ad F w w':=by
 unfold TG.bq;cases a:CM.get T.puts b with
 |none=>
  rw [Option.getD_none];exact ML h f b g a i bn
 |some c=>
  rw [Option.getD_some];refine(Qv f b a).mono ?_;rintro e w' ⟨rfl,nh⟩;exact⟨rfl,(h.d.later nh).le (by omega),ad.ag F nh⟩
section
def TG.aT (T:TG) (G:SG) (S:DS) (x:Int):Int×TG:=
 if T.state G S≠0 then (T.state G S,T) else if x=6\/x=50\/x=60\/x=61 then (x,{T with bad:=x}) else (1,T)
def TG.close (T:TG):TG:={T with puts:= [],ended:=true}
def TG.abort (T:TG) (G:SG) (S:DS):Int×TG×SG:=if T.dM G S≠0 then (T.dM G S,T,G) else (0,T.close,{G with busy:=false})
section
variable {w w':World} {F:Nat->Prop} {p s cR q l m t n:Nat} {S:DS} {G:SG} {T:TG}
def xX (h:ip w F p s cR q l m S G) (u:lU w F q l m t n G T) (x:Int):
  Calls prog 24 #[pQ t,iV x] w λe w'=>e= .returned (iV (T.aT G S x).1)/\w'.heap[t]? =some (.cells (A9 q n (T.aT G S x).2) 106 (0,0))/\ad (λk=>k=t) w w':=by
 have i:=gg h u;have a:=u;unfold TG.aT;generalize T.state G S=E at*;go_in;by_cases k:E=0
 .have d:(E != 0)=false:=by rw [k];rfl
  rw [aB (λh=>h k)];have b:∀(w1:World),bW w w1->(w1.setCell ⟨t,2,none⟩ (.int .i64 x)).heap[t]? =some (.cells (A9 q n {T with bad:=x}) 106 (0,0))/\ad (λk=>k=t) w (w1.setCell ⟨t,2,none⟩ (.int .i64 x)):=λw1 aq=>
     ⟨(heap_setCell_same _ _ 2 _ _ _ (a.later aq).tx).trans (by simp [A9]),(ad.ag (λk=>k=t) aq).trans (aF (F:=λk=>k=t) w1 rfl 2 _) (λ_ h=> .inl h)⟩
  by_cases r:x=6
  .subst r;rw [aN (.inl rfl)];go_wp2_with fail;refine ef i λw1 aq=>?_;have j:=(a.later aq).c2;have o:=ae (a.later aq).tx 2;go_wp2;go_ret;exact⟨rfl,b w1 aq⟩
  .have A:(x == 6)=false:=(by rw [oE];exact r);by_cases c:x=50
   .subst c;rw [aN (.inr (.inl rfl))];go_wp2_with fail;refine ef i λw1 aq=>?_;have j:=(a.later aq).c2;have o:=ae (a.later aq).tx 2;go_wp2;go_ret;exact⟨rfl,b w1 aq⟩
   .have v:(x == 50)=false:=(by rw [oE];exact c);by_cases f:x=60
    .subst f;rw [aN (.inr (.inr (.inl rfl)))];go_wp2_with fail;refine ef i λw1 aq=>?_;have j:=(a.later aq).c2;have o:=ae (a.later aq).tx 2;go_wp2;go_ret;exact⟨rfl,b w1 aq⟩
    .have y:(x == 60)=false:=(by rw [oE];exact f);by_cases g:x=61
     .subst g;rw [aN (.inr (.inr (.inr rfl)))];go_wp2_with fail;refine ef i λw1 aq=>?_;have j:=(a.later aq).c2;have o:=ae (a.later aq).tx 2;go_wp2;go_ret;exact⟨rfl,b w1 aq⟩
     .have z:(x == 61)=false:=(by rw [oE];exact g);rw [aB (λh=>h.elim r (λh=>h.elim c (λh=>h.elim f g)))];go_wp2_with fail;refine ef i λw1 aq=>?_;go_wp2;go_ret;exact⟨rfl,aQ (a.later aq).tx (ad.ag (λk=>k=t) aq)⟩
 .have d:(E != 0)=true:=by rw [rO];exact k
  rw [aN k];go_wp2_with fail;refine ef i λw1 aq=>?_;go_wp2;go_ret;exact⟨rfl,aQ (a.later aq).tx (ad.ag (λk=>k=t) aq)⟩
def He (h:lT w q p l m G.y G.busy) (b:lU w F q l m t n G T):
  Calls prog 123 #[pQ t] w λe w'=>e= .returned (.tuple #[])/\w'.heap[t]? =some (.cells (A9 q n T.close) 106 (0,0))/\Ch w' n []/\lT w' q p l m G.y false/\ad (λk=>k=t\/k=n\/k=q) w w':=by
 obtain⟨a,DW,oM,rU,fy⟩:=b.ch.qJ;have o:=b.c1;have g:=(rU.block t (af b.tx) (λe=>b.tn e)).trans b.tx;have s1:=h.ak rU (λe=>b.nq e.symm);have r:a.cell? (aD t 3)=some (.bool T.ended):=jw g;have v:=ae g 3;have c:q≠t:=λe=>b.tq e.symm;have i:(a.setCell ⟨t,3,none⟩ (.bool true)).heap[t]? =some (.cells #[.pointer (some ⟨q,0,none⟩), .map (some n), .int .i64 T.bad, .bool true] 106 (0,0)):=(heap_setCell_same _ _ 3 _ _ _ g).trans (by simp [A9]);have d:=aF (F:=λk=>k=t) a rfl 3 (.bool true);have s2:=s1.ak d c;have s:(a.setCell ⟨t,3,none⟩ (.bool true)).cell? (aD t 0)=some (pQ q):=aL i;have u:=s2.c8;have x:=ae s2 8;have f:=aF (F:=λk=>k=q) (a.setCell ⟨t,3,none⟩ (.bool true)) rfl 8 (.bool false);have s3:lT ((a.setCell ⟨t,3,none⟩ (.bool true)).setCell ⟨q,8,none⟩ (.bool false)) q p l m G.y false:=(heap_setCell_same _ _ 8 _ _ _ s2).trans (by simp [K0]);have j:(((a.setCell ⟨t,3,none⟩ (.bool true)).setCell ⟨q,8,none⟩ (.bool false)).heap[t]? =some (.cells (A9 q n T.close) 106 (0,0))/\Ch ((a.setCell ⟨t,3,none⟩ (.bool true)).setCell ⟨q,8,none⟩ (.bool false)) n []/\lT ((a.setCell ⟨t,3,none⟩ (.bool true)).setCell ⟨q,8,none⟩ (.bool false)) q p l m G.y false/\ad (λk=>k=t\/k=n\/k=q) w ((a.setCell ⟨t,3,none⟩ (.bool true)).setCell ⟨q,8,none⟩ (.bool false))):=by
  refine⟨(f.block t (af i) (λe=>c e.symm)).trans i,(oM.ak d (λe=>b.tn e.symm)).ak f b.nq,s3,?_⟩;exact((rU.mono (λ_ e=> .inr (.inl e))).trans d (λ_ e=> .inl (.inl e))).trans f (λ_ e=> .inl (.inr (.inr e)))
 go_in;go_wp2
 go_end0
 exact⟨rfl,j⟩
def xY (h:ip w F p s cR q l m S G) (f:lU w F q l m t n G T):
  Calls prog 81 #[pQ t] w λe w'=>e= .returned (iV (T.abort G S).1)/\w'.heap[t]? =some (.cells (A9 q n (T.abort G S).2.1) 106 (0,0))/\Ch w' n (T.abort G S).2.1.puts/\lT w' q p l m G.y (T.abort G S).2.2.busy/\ad (λk=>k=t\/k=n\/k=q) w w':=by
 have c:=Ck h f;have a:=f;have b:=h.st;unfold TG.abort;generalize T.dM G S=E at*;go_in;by_cases k:E=0
 .have d:(E != 0)=false:=by rw [k];rfl
  rw [aB (λh=>h k)];go_wp2_with fail;refine ef c λw1 aq=>?_;go_wp2_with fail;refine(He (b.later aq) (a.later aq)).mono ?_;rintro e r ⟨rfl,g,i,j,o⟩;go_wp2;go_ret;exact⟨rfl,(aQ g (aQ i (aQ j ((ad.ag (λk=>k=t\/k=n\/k=q) aq).trans o (λ_ h=> .inl h)))))⟩
 .have d:(E != 0)=true:=by rw [rO];exact k
  rw [aN k];go_wp2_with fail;refine ef c λw1 aq=>?_;go_wp2;go_ret;exact⟨rfl,(aQ (a.later aq).tx (aQ (a.later aq).ch (aQ (b.later aq) (ad.ag (λk=>k=t\/k=n\/k=q) aq))))⟩
def SG.begin (G:SG) (S:DS):Int:=if G.L.dead S=true then 3 else if G.busy=true then 5 else 0
def vl (w w':World) (q p l m:Nat) (y:LY) (busy:Bool) (code:Int) (e:Ending):Prop:=
 if code≠0 then e= .returned (.tuple #[.pointer none,iV code])/\lT w' q p l m y busy/\bW w w'
 else∃t n,e= .returned (.tuple #[pQ t,iV 0])/\w.heap.size<=n/\w.heap.size<=t/\t≠n/\w'.heap[t]? =some (.cells (A9 q n ⟨[],0,false⟩) 106 (0,0))/\Ch w' n []/\lT w' q p l m y true/\ad (λk=>k=q) w w'
def E4 (h:ip w F p s cR q l m S G):
  Calls prog 56 #[pQ q] w λe w'=>vl w w' q p l m G.y G.busy (G.begin S) e:=by
 have b:=h.dead;have c:=h.st;unfold SG.begin;go_in;cases hd:G.L.dead S
 .rw [hd] at b;rw [aB (by decide)];cases f:G.busy
  .rw [aB (by decide)];go_wp2_with fail;refine ef b λw1 aq=>?_;have gV:=c.later aq;rw [f] at gV;have j:=gV.c8;have o:=ae gV 8;have n:=aF (F:=λk=>k=q) w1 rfl 8 (.bool true);have s3:lT (w1.setCell ⟨q,8,none⟩ (.bool true)) q p l m G.y true:=(heap_setCell_same _ _ 8 _ _ _ gV).trans (by simp [K0]);have g:(w1.setCell ⟨q,8,none⟩ (.bool true)).heap.size=w1.heap.size:=(by simp [World.setCell]);have abR:=aq.size;have d:=Ch.made (w1.setCell ⟨q,8,none⟩ (.bool true));rw [g] at d;obtain⟨a,Pc⟩:=cF ((w1.setCell ⟨q,8,none⟩ (.bool true)).alloc (.map #[] 0));rw [<-Pc] at d;have Vv:Below (w1.setCell ⟨q,8,none⟩ (.bool true)).heap.size (w1.setCell ⟨q,8,none⟩ (.bool true)) a:=(by rw [Pc];exact an _ _);have Xb:a.heap.size=w1.heap.size+1:=(by rw [Pc,World.size_alloc,g]);have bw:=an a (.cells (A9 q w1.heap.size ⟨[],0,false⟩) 106);have i:((a.alloc (.cells (A9 q w1.heap.size ⟨[],0,false⟩) 106)).heap[w1.heap.size+1]? =some (.cells (A9 q w1.heap.size ⟨[],0,false⟩) 106 (0,0))/\Ch (a.alloc (.cells (A9 q w1.heap.size ⟨[],0,false⟩) 106)) w1.heap.size []/\lT (a.alloc (.cells (A9 q w1.heap.size ⟨[],0,false⟩) 106)) q p l m G.y true/\ad (λk=>k=q) w (a.alloc (.cells (A9 q w1.heap.size ⟨[],0,false⟩) 106))):=by
    refine⟨by rw [<-Xb];exact heap_alloc_new _ _,d.later bw,(s3.later Vv).later bw,?_⟩;exact(((ad.ag (λk=>k=q) aq).trans n (λ_ h=> .inl h)).trans (ad.ag (λ_=>False) Vv) (λ_ h=>h.elim)).trans (ad.ag (λ_=>False) bw) (λ_ h=>h.elim)
   have OZ:= @run_makeMap prog;go_wp2;rw [<-Pc];go_ret2;unfold vl;rw [aB (λh=>h rfl)];refine⟨w1.heap.size+1,w1.heap.size,?_,abR,by omega,by omega,i⟩;first|rfl|(rw [Xb];rfl)
  .rw [aN rfl];go_wp2_with fail;refine ef b λw1 aq=>?_;have gV:=c.later aq;rw [f] at gV;have j:=gV.c8;go_wp2;go_ret2;unfold vl;rw [aN (by decide)];exact⟨rfl,aQ gV aq⟩
 .rw [hd] at b;rw [aN rfl];go_wp2_with fail;refine ef b λw1 aq=>?_;go_wp2;go_ret2;unfold vl;rw [aN (by decide)];exact⟨rfl,aQ (c.later aq) aq⟩
end
end
section
def qg (w w':World) (code:Int) (c:List Int) (e:Ending):Prop:=
 if code≠0 then e= .returned (.tuple #[.slice none 0 0,iV code])
 else∃g,e= .returned (.tuple #[.slice (some (aD g 0)) 512 512,iV 0])/\w.heap.size<=g/\gA w' 113 g c
section
variable {w w':World} {F:Nat->Prop} {p s cR q l m t n:Nat} {S:DS} {G:SG} {T:TG}
def mO {b:Int} (h:T.refusal G S b=0):G.L.dead S=false/\T.ended=false/\T.bad=0/\0<=b/\b<(G.y.blocks:Int):=by
 unfold TG.refusal TG.state TG.dM at h;cases hd:G.L.dead S
 .cases c:T.ended
  .rw [hd,c] at h;simp only [Bool.false_eq_true,if_false,ne_eq,not_true_eq_false] at h;split at h
   .rename_i a;exact absurd h a
   .rename_i a;split at h
    .omega
    .refine⟨rfl,rfl,?_,by omega,by omega⟩;exact Decidable.byContradiction a
  .rw [hd,c] at h;simp at h
 .rw [hd] at h;simp at h
def sB (h:L.dead S=false):S.fuse≠0:=λe=>by
 unfold LG.dead at h;rw [show (S.fuse == 0)=true by rw [beq_iff_eq];exact e] at h;simp at h
def uk (h:ip w F p s cR q l m S G) (f:lU w F q l m t n G T) (b:Int) (bn:S.puts.length+1<=4000000000000):
  Calls prog 32 #[pQ t,iV b] w λe w'=>qg w w' (T.refusal G S b) (T.bq G S b.toNat) e/\B.aj w' F p s S (cR+1)/\ad F w w':=by
 have h1:=vj h f b;go_in;by_cases k:T.refusal G S b=0
 .obtain⟨u,C,D,H,I⟩:=mO k;obtain⟨b,rfl⟩:∃b':Nat,b=(b':Int):=⟨b.toNat,by omega⟩;have r:b<G.y.blocks:=by omega
  have a:=vk h f b r;rw [k] at h1;obtain⟨x,z,j,L0,JA⟩:=gB h f k gO (sB u);clear h f k u C D H I;go_wp2_with fail;refine ef h1 λw1 aq=>?_;have h2:=Cl (x.later aq) (z.later aq) b r JA bn;have g:=aq;have eR:=aq.size;unfold cV at h2;obtain⟨A,i⟩:=cF (bs (T.bq G S b));rw [<-i] at h2;clear h1 aq;go_wp2_with fail;refine j8 h2 λc dS aK=>?_;have bu:=dO c a;have aJ:=dH a;have cY:=bD (T.bq G S b);rw [<-i] at bu aJ cY;have qN:A.length=512:=by rw [i,bs,ju,a]
  have bC:=all_oneCell_toArray cY;have cC:=bu.2.2;have eE:=aK.size;have o:(gA ((c.alloc (.cells aM 113)).setCells c.heap.size 0 A) 113 c.heap.size (T.bq G S b)/\B.aj ((c.alloc (.cells aM 113)).setCells c.heap.size 0 A) F p s S (cR+1)/\ad F w ((c.alloc (.cells aM 113)).setCells c.heap.size 0 A)):=⟨bu.1,dS.later bu.2.1,((ad.ag F g).trans aK (λ_ h=> .inl h)).trans (ad.ag (λ_=>False) bu.2.1) (λ_ h=>h.elim)⟩;clear h2 dS aK bu cY i;generalize aM=Z at*;go_wp2_with (refine wpList_store_mid rfl 113 _ _ rfl c.heap.size 0 A.toArray rfl rfl ?h1 ?h2 bC ?_);case h1=>first|simpa using cC|(rw [qN] at cC;simpa using cC)
  case h2=>simpa using aJ
  go_ret2;refine⟨?_,o.2⟩;unfold qg;rw [aB (λh=>h j)];exact⟨c.heap.size,rfl,by omega,o.1⟩
 .have d:(T.refusal G S b != 0)=true:=by rw [rO];exact k
  have v:=h.d;have j:=k;clear h f k;generalize T.refusal G S b=E at*;go_wp2_with fail;refine ef h1 λw1 aq=>?_;have g:=aq;clear h1 aq;go_wp2;go_ret2;refine⟨?_,(v.later g).le (by omega),ad.ag F g⟩;unfold qg;rw [aN j];rfl
end
end
def Cm:prog.eqGuardType prog.depth 113=false:=by kernel_rfl
def MM (l m:List Int) (a:l.length=512) (b:m.length=512) (w:World) (x y:Operand):
    (do eqGuard .eql 113 x y (.agg (bs l).toArray) (.agg (bs m).toArray);binOp .eql 113 (.agg (bs l).toArray) (.agg (bs m).toArray)).run prog w= .ok (.bool (decide (l=m))) w:=by
 rw [Sem.run_bind,run_eqGuard_agg (P:=prog) w .eql 113 x y _ _ Cm,Result.andThen_ok];show (binOp .eql 113 (.agg (bs l).toArray) (.agg (bs m).toArray)).run prog w=_;unfold binOp Op.equal Op.maxDepth;rw [Sem.run_bind,Er 512 9998 113 l m a b w underlying113,Result.andThen_ok,Sem.run_pure]
def MN (l m:List Int) (a:l.length=512) (b:m.length=512) (w:World) (x y:Operand):
    (do eqGuard .neq 113 x y (.agg (bs l).toArray) (.agg (bs m).toArray);binOp .neq 113 (.agg (bs l).toArray) (.agg (bs m).toArray)).run prog w= .ok (.bool (!decide (l=m))) w:=by
 rw [Sem.run_bind,run_eqGuard_agg (P:=prog) w .neq 113 x y _ _ Cm,Result.andThen_ok];show (binOp .neq 113 (.agg (bs l).toArray) (.agg (bs m).toArray)).run prog w=_;unfold binOp Op.equal Op.maxDepth;rw [Sem.run_bind,Er 512 9998 113 l m a b w underlying113,Result.andThen_ok,Sem.run_pure]
def py {b:Array Oper} {rest:List Oper} {c:Oper} {a:Act} {Q:Exit->Act->World->Prop} (A3:c.guard=none) (x y:Operand) (T:TypeId) (j:c.op= .binOp .eql 113 x y T)
    (A C:List Value) (l m:List Int) (d:A=bs l) (e:C=bs m) (n:a.eval x= .agg A.toArray) (o:a.eval y= .agg C.toArray) (g:l.length=512) (i:m.length=512) (v:Bool) (k:decide (l=m)=v)
    (h:wpList prog b Q rest (a.put c.dst (.bool v)) w):wpList prog b Q (c :: rest) a w:=
 wpList_plain A3 λK f=>by
  subst d e k;unfold Oper.wp execOp;simp only [j,n,o];have:=MM l m g i w x y;rw [Sem.run_bind,this];exact f _ _ h
def pz {b:Array Oper} {rest:List Oper} {c:Oper} {a:Act} {Q:Exit->Act->World->Prop} (A3:c.guard=none) (x y:Operand) (T:TypeId) (j:c.op= .binOp .neq 113 x y T)
    (A C:List Value) (l m:List Int) (d:A=bs l) (e:C=bs m) (n:a.eval x= .agg A.toArray) (o:a.eval y= .agg C.toArray) (g:l.length=512) (i:m.length=512) (v:Bool) (k:(!decide (l=m))=v)
    (h:wpList prog b Q rest (a.put c.dst (.bool v)) w):wpList prog b Q (c :: rest) a w:=
 wpList_plain A3 λK f=>by
  subst d e k;unfold Oper.wp execOp;simp only [j,n,o];have:=MN l m g i w x y;rw [Sem.run_bind,this];exact f _ _ h
def TG.put (T:TG) (G:SG) (S:DS) (b:Int) (d:List Int):Int×TG:=
 if T.refusal G S b≠0 then (T.refusal G S b,T) else if d.length≠512 then (2,T) else if d=T.bq G S b.toNat then (0,T)
 else if (CM.get T.puts b.toNat).isSome=false/\T.puts.length=16 then (50,{T with bad:=50}) else (0,{T with puts:=CM.put T.puts b.toNat d})
section
def vm (w w':World) (F:Nat->Prop) (p s c q t n:Nat) (S:DS) (r:Int×TG) (e:Ending):Prop:=
 e= .returned (iV r.1)/\w'.heap[t]? =some (.cells (A9 q n r.2) 106 (0,0))/\Ch w' n r.2.puts/\B.aj w' F p s S c/\ad (λk=>F k\/k=t\/k=n) w w'
def E5 (g:Option (List Int)) (a:∀c,g=some c->c.length=512):∃CL:List Value,Wm g= .agg CL.toArray/\CL.length=512/\CL.toArray.all Value.oneCell'=true/\(prog.info? 113).map (·.size)=some CL.length:=by
 cases g with
 |none=>exact⟨bs (zs 512),rfl,by rw [bs,ju,bN],all_oneCell_toArray (bD _),dH (bN 512)⟩
 |some c=>exact⟨bs c,rfl,by rw [bs,ju,a c rfl],all_oneCell_toArray (bD _),dH (a c rfl)⟩
def Af (w:World) {A:List Value} (a:A.length=512):bW w ((w.alloc (.cells aM 113)).setCells w.heap.size 0 A)/\(w.alloc (.cells aM 113)).there w.heap.size 0 A.length:=by
 have bd:(w.alloc (.cells aM 113)).heap[w.heap.size]? =some (.cells aM 113 (0,0)):=heap_alloc_new _ _;have aH:bW w (w.alloc (.cells aM 113)):=(cW _ w).alloc (di _) _;refine⟨aH.trans ((ad.setCells (F:=λj=>j=w.heap.size) rfl A 0 _).below (λj b=>by omega) aH.size),?_⟩;rw [a];exact(aZ bd bL)
section
variable {w w':World} {F:Nat->Prop} {p s cR q l m t n:Nat} {S:DS} {G:SG} {T:TG}
def Ag (h:ip w F p s cR q l m S G) (O:lU w F q l m t n G T) (b:Int) (a:Option Addr) (x c:Nat) (d:List Int) (N:Src w a x d) (hx:x<=140737488355328) (TL:Bytes d) (bn:S.puts.length+1<=4000000000000):
  Calls prog 63 #[pQ t,iV b, .slice a x c] w λe w'=>vm w w' F p s (cR+1) q t n S (T.put G S b d) e:=by
 obtain⟨h1,X,Y,Xc,HX⟩:=gB (vj h O b) (yh h) (yh O) N.1 (yh N);have Cn:∀w1,bW w w1->∀z:Int,vm w w1 F p s (cR+1) q t n S (z,T) (.returned (iV z)):=λw1 aq z=>⟨rfl,(Y.o.later aq).tx,(Y.o.later aq).ch,(X.o.d.later aq).le (by omega),ad.ag _ aq⟩;have R0:=yh Cn;obtain⟨R,g⟩:=cF (T.put G S b d);rw [<-g];unfold TG.put at g;go_in;go_wp2_with fail;by_cases k:T.refusal G S b=0
 .rw [aB (λh=>h k)] at g;obtain⟨r1,r2,r3,r4,r5⟩:=mO k;obtain⟨b,rfl⟩:∃b':Nat,b=(b':Int):=⟨b.toNat,by omega⟩;rw [k] at h1;rw [t7] at g;refine ef h1 λw1 aq=>?_;by_cases u:d.length=512
  .rw [aB (λh=>h u)] at g;have qD:=yh g;clear g;obtain rfl:x=512:=(by omega);obtain⟨b0,o0,rfl⟩:=is N (by omega);have hb:b<G.y.blocks:=(by omega);obtain⟨f,L0,JA,hLt⟩:=jJ (vk h O b hb) gO (sB r1) h.d.lt;have iH:=yh hLt;have Tg:=vh (some (aD b0 o0)) c;have aJ:=dH u;have cY:=bD d;obtain⟨A,hA⟩:=cF (bs d);rw [<-hA] at aJ cY;have qN:A.length=512:=(by rw [hA,bs,ju,u]);have bC:=all_oneCell_toArray cY;have D:=yh hA;have HR:=yh (aQ r1 (aQ r2 r3));clear h O N Cn k r1 r2 r3 r4 r5 cY hA hLt;have Xd:w1.rangeAt b0 o0 A:=(by rw [D.o];exact l6 (HX.o.later aq));have bu:=dO w1 u;rw [<-D.o] at bu;have cC:=bu.2.2;obtain⟨wB,Qw⟩:=cF ((w1.alloc (.cells aM 113)).setCells w1.heap.size 0 A);have Hf:bW w wB:=aq.trans (by rw [Qw];exact bu.2.1.mono aq.size);have aA:gA wB 113 w1.heap.size d:=(by rw [Qw];exact bu.1);obtain⟨eR,h2,Vw,Xe,HwB⟩:=gB aq.size (Cl (X.o.later Hf) (Y.o.later Hf) b hb JA bn) (yh Hf) (yh aA) (yh Qw);clear h1 aq bu Hf aA Qw
   go_upto_region 7 with (first|refine wpList_load_mid rfl 113 _ rfl b0 o0 rfl A _ Xd underlying113 rfl aJ ?_|refine wpList_store_mid rfl 113 _ _ rfl w1.heap.size 0 A.toArray rfl rfl ?h1 ?h2 bC ?_)
   case h1=>first|simpa using cC|(rw [qN] at cC;simpa using cC)
   case h2=>simpa using aJ
   have abS:=HwB.o;subst abS;generalize Jw:(w1.alloc (.cells aM 113)).setCells w1.heap.size 0 A=wB at*;clear Jw Xd cC HwB Tg;unfold cV at h2;obtain⟨C,hC⟩:=cF (bs (T.bq G S b));rw [<-hC] at h2;have U:=yh hC;clear hC;go_wp2_with fail;refine j8 h2 λr dS aK=>?_;obtain⟨eE,hzB,bu,kI,ts⟩:=gB aK.size Xe.o.lt (dO r f) (dH f) (bD (T.bq G S b));rw [<-U.o] at bu kI ts;have TM:C.length=512:=(by rw [U.o,bs,ju,f]);have Co:=all_oneCell_toArray ts;have cC:=bu.2.2;have oI:¬F w1.heap.size:=λhf=>by have:=iH.o _ hf;omega
   obtain⟨i,Qx⟩:=cF ((r.alloc (.cells aM 113)).setCells r.heap.size 0 C);have D5:bW r i:=(by rw [Qx];exact bu.2.1);have xZ:gA i 113 r.heap.size (T.bq G S b):=(by rw [Qx];exact bu.1);have vn:=(Xe.o.ak (aK.block _ hzB oI)).ak (D5.block _ (by omega));have Xf:i.rangeAt w1.heap.size 0 A:=λj v L=>by
    have:=vn.news j v (by rw [<-D.o];exact L);rwa [aV] at this
   have Vx:i.rangeAt r.heap.size 0 C:=λj v L=>by
    have:=xZ.news j v (by rw [<-U.o];exact L);rwa [aV] at this
   have hsD:=((X.o.later Vw.o).asked dS aK).later D5;have htD:=((Y.o.later Vw.o).asked aK).later D5;have R3:=yh (((ad.ag F Vw.o).trans aK (λ_ h=> .inl h)).trans (ad.ag (λ_=>False) D5) (λ_ h=>h.elim):ad F w i);obtain⟨Z,Vy,K,Q,hzD⟩:=gB (yh hsD) (yh htD) (yh Qx) (yh vn) D5.size;clear h2 dS aK bu ts D5 xZ vn hsD htD Qx;by_cases P:d=T.bq G S b
   .have dv:=decide_eq_true P;have Xg:=yh P;clear P;have TN:=K.o;subst TN;go_wp2_with (first|refine wpList_store_mid rfl 113 _ _ rfl r.heap.size 0 C.toArray rfl rfl ?h1 ?h2 Co ?_|refine wpList_load_mid rfl 113 _ rfl w1.heap.size 0 rfl A _ Xf underlying113 rfl aJ ?_|refine wpList_load_mid rfl 113 _ rfl r.heap.size 0 rfl C _ Vx underlying113 rfl kI ?_|refine py rfl _ _ _ rfl A C d (T.bq G S b) D.o U.o rfl rfl u f true dv ?_);case h1=>first|simpa using cC|(rw [TM] at cC;simpa using cC)
    case h2=>simpa using kI
    go_ret;rw [qD.o,aN Xg.o];exact⟨rfl,Vy.o.tx,Vy.o.ch,Z.o.d,R3.o.mono (λ_ h=> .inl h)⟩
   .have dv:=decide_eq_false P;have Xg:=yh P;clear P;have TN:=K.o;subst TN
    go_upto_region 12 with (first|refine wpList_store_mid rfl 113 _ _ rfl r.heap.size 0 C.toArray rfl rfl ?h3 ?h4 Co ?_|refine wpList_load_mid rfl 113 _ rfl w1.heap.size 0 rfl A _ Xf underlying113 rfl aJ ?_|refine wpList_load_mid rfl 113 _ rfl r.heap.size 0 rfl C _ Vx underlying113 rfl kI ?_|refine py rfl _ _ _ rfl A C d (T.bq G S b) D.o U.o rfl rfl u f false dv ?_)
    case h3=>first|simpa using cC|(rw [TM] at cC;simpa using cC)
    case h4=>simpa using kI
    generalize Jw:(r.alloc (.cells aM 113)).setCells r.heap.size 0 C=i at*;clear Jw cC K Vx;have aG:b<2048:=(by have:=X.o.hs;have:=X.o.d.ok.hi;omega);have gl:=Vy.o.ch.look b aG;obtain⟨CL,hcv,Xh,Xi,TO⟩:=E5 (CM.get T.puts b) (λc hc=>(Vy.o.ch.len _ (CM.get_mem hc)).2.1);rw [hcv] at gl;have bu:=Af i Xh;have cC:=bu.2;have c1:=Vy.o.c1;obtain⟨H,M⟩:=cF ((i.alloc (.cells aM 113)).setCells i.heap.size 0 CL);have Xj:bW i H:=(by rw [M];exact bu.1);obtain⟨J,Hg,R4,I,HwE⟩:=PG (Z.o.later Xj) (Vy.o.later Xj) (R3.o.trans (ad.ag (λ_=>False) Xj) (λ_ h=>h.elim):ad F w H) (Q.o.ak (Xj.block _ (af Q.o)):gA H 113 w1.heap.size d) M;clear bu Xj M hcv
    go_upto_region 13 with (refine wpList_store_mid rfl 113 _ _ rfl i.heap.size 0 CL.toArray rfl rfl ?h5 ?h6 Xi ?_)
    case h5=>first|simpa using cC|(rw [Xh] at cC;simpa using cC)
    case h6=>simpa using TO
    have abY:=HwE.o;subst abY;generalize Jw:(i.alloc (.cells aM 113)).setCells i.heap.size 0 CL=H at*;clear Jw cC HwE gl c1;have c1:=Hg.o.c1;have aew:=λty=>Hg.o.ch.length ty;by_cases TP:(CM.get T.puts b).isSome=false/\T.puts.length=16
    .have ka:=TP.1;have kb:((T.puts.length:Int) == 16)=true:=(by rw [beq_iff_eq];omega);have h3:=xX J.o Hg.o 50;have e3:T.aT G S 50=(50,{T with bad:=50}):=by
      unfold TG.aT TG.state TG.dM;rw [HR.o.1,HR.o.2.1,HR.o.2.2];simp
     rw [e3] at h3;have qV:=yh TP;clear TP e3;go_wp2_with fail;refine j8 h3 λw4 h4 h5=>?_;have HN:Yh (vm w w4 F p s (cR+1) q t n S (50,{T with bad:=50}) (.returned (iV 50))):=⟨rfl,h4,Hg.o.ch.ak h5 (λe=>Hg.o.tn e.symm),J.o.d.ak h5 (λk hk e=>Hg.o.nt (e▸hk)),(R4.o.mono (λ_ h=> .inl h)).trans h5 (λ_ e=> .inl (.inr (.inl e)))⟩;clear h3 h4 h5;go_wp2;go_ret;rw [qD.o,aB Xg.o,aN qV.o];exact HN.o
    .have TQ:=Hg.o.ch.later (ah (cW _ _));obtain⟨wU,ct,oM,wV,JB⟩:=TQ.store b aG d u TL;have MQ:(Instr.mapUpdate 94 (.map (some n)) (iV (b:Int)) (.agg A.toArray)).run prog H.drew= .ok () wU:=(by rw [D.o];exact ct);have raE:H.rangeAt w1.heap.size 0 A:=λj v L=>by
      have:=I.o.news j v (by rw [<-D.o];exact L);rwa [aV] at this
     have E6:=(ad.ag (λk=>k=n) (ah (cW H.heap.size H))).trans wV (λ_ h=> .inl h);have HN:Yh (vm w wU F p s (cR+1) q t n S (0,{T with puts:=CM.put T.puts b d}) (.returned (iV 0))):=⟨rfl,(E6.block t (af Hg.o.tx) Hg.o.tn).trans Hg.o.tx,oM,J.o.d.ak E6 (λk hk e=>Hg.o.nn (e▸hk)),(R4.o.mono (λ_ h=> .inl h)).trans E6 (λ_ e=> .inl (.inr (.inr e)))⟩;have qV:=yh TP;have W:=yh c1;have ag0:=underlying113;have abZ:w1.heap.size≠n:=(by have:=Y.o.ch.lt;omega);have R5:=I.o.ak (E6.block _ (af I.o) abZ);have R6:Yh (wU.cell? (aD t 1)=some (.map (some n))/\wU.rangeAt w1.heap.size 0 A):=⟨bY ((E6.block t (af Hg.o.tx) Hg.o.tn).trans Hg.o.tx),λj v L=>by
      have:=R5.news j v (by rw [<-D.o];exact L);rwa [aV] at this⟩
     clear R5;cases hg:(CM.get T.puts b).isSome
     .have kb:((T.puts.length:Int) == 16)=false:=by
       rw [oE];intro e;exact TP ⟨hg,by omega⟩
      clear TP TQ ct oM wV E6;go_wp2_with fail;go_region_held3 (λw'=>w'.cell? (aD t 1)=some (.map (some n))/\w'.rangeAt w1.heap.size 0 A) (first|exact⟨W.o,raE⟩|exact R6.o) (fail);go_wp2;go_ret;rw [qD.o,aB Xg.o,aB qV.o];exact HN.o
     .clear TP TQ ct oM wV E6;go_wp2_with fail;go_region_held3 (λw'=>w'.cell? (aD t 1)=some (.map (some n))/\w'.rangeAt w1.heap.size 0 A) (first|exact⟨W.o,raE⟩|exact R6.o) (fail);go_wp2;go_ret;rw [qD.o,aB Xg.o,aB qV.o];exact HN.o
  .rw [aN u] at g;have qD:=yh g;clear g;have dx:((x:Int) != 512)=true:=(by rw [rO];omega);clear h O N Cn k r1 r2 r3 r4 r5 u;have HB:=yh aq;clear h1 aq;go_wp2;go_ret;rw [qD.o];exact R0.o _ HB.o 2
 .rw [aN k] at g;have qD:=yh g;clear g;have dk:(T.refusal G S b != 0)=true:=by rw [rO];exact k
  clear h O N Cn k;generalize T.refusal G S b=E at*;refine ef h1 λw1 aq=>?_;have HB:=yh aq;clear h1 aq;go_wp2;go_ret;rw [qD.o];exact R0.o _ HB.o E
end
end
def E7 (ms ns X:CM) (left:Lit->Bool):Prop:=∀k,CM.get X k=if left (kk k)=false/\(CM.get ns k).isSome=true then CM.get ns k else CM.get ms k
def JD {m:Nat} {D:DataW Value} (h:Ch w m ms) (r:sd w n ns D) (ZV:m≠n):
  Calls prog 151 #[.map (some m), .map (some n)] w λe w'=>e= .returned (.tuple #[])/\Ch w' m (CM.dM ms ns)/\ad (λk=>k=m) w w':=by
 obtain⟨Lp,L0,H,i⟩:=jJ h.lt gO r h;clear h r;go_in;go_wp2_with (at_range;refine wpList_range_own _ rfl _ 94 rfl 3 113 ft underlying94 Ra n ns.length D rfl H.own ?_;intro w0 qH ux zl;go_frame);have lJ:=(cW _ w).grown ux (di _) (λj b=>by cases b);clear ux;go_loopw [4] (λ_ wr=>∃(left:Lit->Bool) (bf:Nat) (X:CM),wr.ranges prog 3 Ra n w.heap.size ns.length D left bf/\Ch wr m X/\E7 ms ns X left/\ad (λk=>k=m) w wr/\w.heap.size+1<=wr.heap.size)
    (λ_ wr=>wr.rangeLeft n w.heap.size)
 case atStart=>
  refine⟨_,_,ms,qH,i.later lJ,λk=>?_,ad.ag _ lJ,by omega⟩;rw [aB];rintro ⟨h1,h2⟩;obtain⟨c,s⟩:=Option.isSome_iff_exists.1 h2;rw [(H.at' k c s).1] at h1;cases h1
 case round=>
  clear qH lJ zl;obtain⟨left,bf,X,jH,a,Pd,dR,fy⟩:=hrel;go_wp2_with (at_next;refine wpList_next_ranges _ rfl _ rfl 3 ft Ra (Value.int .i64) Value.agg (λt u gu=>by obtain⟨x,rfl,_⟩:=Maps.keyOf_int_inv underlying3 gu;exact⟨x,rfl⟩) Eu n w.heap.size ns.length _ _ _ rfl jH ?_ ?_)
  .intro _ oY;have Z6:X=CM.dM ms ns:=by
    refine CM.ext a.ok (CM.t8 i.ok ns) (λk=>?_);rw [Pd k,CM.uu i.ok k H.ok,oY];cases C:CM.get ns k with
    |none=>simp
    |some c=>simp
   have l:=(aQ (Z6▸a) dR);clear jH a Pd dR H i;go_wp2
   go_end0
   exact⟨rfl,l⟩
  .intro x y u E F d pL gu sX o k7 nA aS dU dQ KT;obtain⟨k,c,rfl,rfl,R7,ly⟩:=H.meets gu o k7;have q5:=H.len _ (CM.get_mem R7);injection ly with ly;have bu:=dO d q5.2.1;have aJ:=dH q5.2.1;have cY:=bD c;obtain⟨A,f⟩:=cF (bs c);rw [<-f] at ly bu aJ cY;have qN:A.length=512:=(by rw [f,bs,ju,q5.2.1]);have bC:=all_oneCell_toArray cY;subst ly;have R8:=a.agree (dU.block m a.lt (λe=>by injection e with e;omega));have MR:=dR.trans (G:=λj=>j=w.heap.size) ⟨dU.os,dU.tape,dU.output,dU.size,λj b eM=>dU.block j b (λe=>eM (by injection e))⟩ (λj e=> .inr (by omega));obtain⟨q,A4⟩:=cF ((d.alloc (.cells aM 113)).setCells d.heap.size 0 A);have cC:=bu.2.2;have td:bW d q:=(by rw [A4];exact bu.2.1);have p:q.rangeAt d.heap.size 0 A:=λj v o=>by
    rw [A4];have:=bu.1.news j v (by rw [<-f];exact o);rwa [aV] at this
   obtain⟨g,ct,oM,wV,JB⟩:=(R8.later td).store k q5.1 c q5.2.1 q5.2.2;have MQ:(Instr.mapUpdate 94 (.map (some m)) (iV (k:Int)) (.agg A.toArray)).run prog q= .ok () g:=(by rw [f];exact ct);have Xk:=(nA.kept (row:=none) ⟨td.os,td.tape,td.output,td.size,λj b _=>td.block j b⟩ (λe=>by cases e) (λe=>by cases e)).kept (row:=some m) ⟨wV.os,wV.tape,wV.output,wV.size,λj b eM=>wV.block j b (λe=>eM (by rw [e]))⟩ (λe=>ZV (by injection e with e;exact e.symm)) (λe=>by injection e with e;omega);have MS:E7 ms ns (CM.put X k c) (λz=>left z && !z.sameKey (kk k)):=λj=>by
    show CM.get (CM.put X k c) j=if (left (kk j) && !(kk j).sameKey (kk k))=false/\(CM.get ns j).isSome=true then CM.get ns j else CM.get ms j;rw [CM.jK _ _ _ _ a.ok,Pd j,lf];by_cases e:j=k
    .subst e;simp [R7]
    .simp [e]
   have l:(g.ranges prog 3 Ra n w.heap.size ns.length D (λz=>left z && !z.sameKey (kk k)) pL/\Ch g m (CM.put X k c)/\E7 ms ns (CM.put X k c) (λz=>left z && !z.sameKey (kk k))/\ad (λk=>k=m) w g/\w.heap.size+1<=g.heap.size):=⟨Xk,oM,MS,(MR.trans (ad.ag (λ_=>False) td) (λ_ h=>h.elim)).trans wV (λ_ h=> .inl h),by have:=td.size;omega⟩;have Tj:=A4;clear gu o k7 dQ dU a R8 Pd MS dR MR Xk ct oM wV JB td f cY R7 nA bu q5;subst A4;generalize aM=Z at*;go_wp2_with (first|refine wpList_store_mid rfl 113 _ _ rfl d.heap.size 0 A.toArray rfl rfl ?h1 ?h2 bC ?_|refine wpList_load_mid rfl 113 _ rfl d.heap.size 0 rfl A _ p underlying113 rfl aJ ?_);case h1=>first|simpa using cC|(rw [qN] at cC;simpa using cC)
   go_roundw;case rel=>exact⟨_,pL,_,l⟩
   case measure=>rw [l.1.left_eq,jH.left_eq];exact aS
def x0 {m:Nat} (h:Ch w m ms) (a:Ch w n ns) (ZV:m≠n):
  Calls prog 151 #[.map (some m), .map (some n)] w λe w'=>e= .returned (.tuple #[])/\Ch w' m (CM.dM ms ns)/\ad (λk=>k=m) w w':=by
 obtain⟨D,a⟩:=a;exact JD h a ZV
section
namespace B
section
variable {w:World} {F:Nat->Prop} {p s l cR:Nat} {S:DS} {L:LG}
def MT (h:aj w F p s S cR) (A:bO w l p L) (a:L.Ok s) (m:¬F l) (ey:S.fL) (bn:S.puts.length+3<=4000000000000):
  Calls prog 88 #[pQ l] w λe w'=>e= .returned (iV (L.trim S s).1)/\aj w' (more F w w') p s (L.trim S s).2.1 (cR+2)/\bO w' l p (L.trim S s).2.2/\ad (λk=>F k\/k=l) w w':=by
 obtain⟨i,iH,aS,Q,oI⟩:=gB (Cf h A m (by omega)) h.lt A.lt a.s a.n1;have x:=λ(K:(L.sync S s).1=0)=>a.hb (EN K);have v:=a.ep;have P:=oK L S s;have Xl:=qU ey L s;unfold LG.trim;generalize L.sync S s=Z at*;have D:=(λ(M:Z.1=0) b (dS:aj b F p s Z.2 cR)=>EZ dS L.f L.n L.ep L.head v (x M) (by omega) (by omega) (Xl.now _) (Xl.now _));by_cases c:Z.1=0
 .rw [aB (λh=>h c)];have I:(Z.1 == 0)=true:=by rw [beq_iff_eq];exact c
  have y:=(D c);by_cases C:L.tail=L.head
  .rw [aN C];have J:((L.tail:Int) == (L.head:Int))=true:=(by rw [beq_iff_eq];omega);go_in;go_wp2_with fail;refine zg i λw1 kE dD bo=>?_;have z:=dD.c6;have g:=dD.c7;go_wp2_with fail;go_quiet (fail);go_wp2;go_ret;exact⟨rfl,(λj=>aQ (((kE.later (below_drewN (cW _ _) j)).more (w:=w)).le (by omega:cR<=cR+2)) (aQ (dD.later (below_drewN (cW _ _) j)) ((bo.mono (λ_ h=> .inl h)).trans (ad.ag (λ_=>False) (below_drewN (cW w1.heap.size w1) j)) (λ_ h=>h.elim):ad (λk=>F k\/k=l) w (w1.drewN j)))) _⟩
  .rw [aB C];have J:((L.tail:Int) == (L.head:Int))=false:=(by rw [oE];omega);generalize O:cw Z.2 s L.f ((L.ep:Int)*4294967296+(L.head:Int))=Y at*;by_cases k:Y.1=0
   .rw [aB (λh=>h k)];have d:(Y.1 == 0)=true:=(by rw [beq_iff_eq];exact k);go_in;go_wp2_with fail;refine zg i λw1 kE dD bo=>?_;obtain⟨z,g,q,r,t,u⟩:=rY dD.c6 dD.c7 dD.c0 dD.c1 dD.c2 dD.c5;go_wp2_with fail;go_quiet (fail);go_wp2_with fail;go_region_held3 (λw'=>w'.cell? (aD l 0)=some (pQ p)/\w'.cell? (aD l 1)=some (iV (L.f:Int))/\w'.cell? (aD l 2)=some (iV (L.n:Int))/\w'.cell? (aD l 5)=some (iV (L.ep:Int))/\w'.cell? (aD l 7)=some (iV (L.head:Int)))
     (first|exact⟨q,r,t,u,g⟩|exact⟨p7.c0,p7.c1,p7.c2,p7.c5,p7.c7⟩)
       ((go_at_call 96;refine(y _ (kE.later (below_drewN (cW _ _) (nq+1)))).mono ?_;rintro e b ⟨rfl,dS,aK⟩;have aR:=bo.trans (ad.ag (λ_=>False) (below_drewN (cW w1.heap.size w1) (nq+1))) (λ_ h=>h.elim);have kX:=dD.later (below_drewN (cW w1.heap.size w1) (nq+1));have p7:=kX.ak aK m))
    generalize w1.drewN (nq+1)=o at*;obtain⟨rS,eE,N,R9,H⟩:=gB aR.size aK.size (p7.fz 6) p7.c6 p7.c7;have eM:∀k,more F o b k->¬k=l:=λk a e=>by
     subst e;rcases a with a|a
     .exact m a
     .omega
    have fy:(b.setCell ⟨l,6,none⟩ (.int .i64 (L.head:Int))).heap.size=b.heap.size:=(by simp [World.setCell]);have E:=(aQ (((dS.ak (aF (F:=λk=>k=l) b rfl 6 (iV (L.head:Int))) eM).mono (G:=more F w (b.setCell ⟨l,6,none⟩ (.int .i64 (L.head:Int)))) (λk a=>by
      rcases a with a|a
      .exact .inl a
      .exact .inr ⟨by omega,by rw [fy];exact a.2⟩) (cQ (F:=F) (w:=w) iH (by rw [fy];omega)))) (aQ p7.trimmed (((aR.mono (λ_ h=> .inl h):ad (λk=>F k\/k=l) w o).trans aK (λ_ h=> .inl (.inl h))).trans (aF (F:=λk=>k=l) b rfl 6 (iV (L.head:Int))) (λ_ h=> .inl (.inr h)))))
    go_wp2;go_ret;exact⟨rfl,E⟩
   .rw [aN k];have d:(Y.1 == 0)=false:=(by rw [oE];exact k);go_in;go_wp2_with fail;refine zg i λw1 kE dD bo=>?_;obtain⟨z,g,q,r,t,u⟩:=rY dD.c6 dD.c7 dD.c0 dD.c1 dD.c2 dD.c5;go_wp2_with fail;go_quiet (fail);go_wp2_with fail;go_region_held3 (λw'=>w'.cell? (aD l 0)=some (pQ p)/\w'.cell? (aD l 1)=some (iV (L.f:Int))/\w'.cell? (aD l 2)=some (iV (L.n:Int))/\w'.cell? (aD l 5)=some (iV (L.ep:Int))/\w'.cell? (aD l 7)=some (iV (L.head:Int)))
     (first|exact⟨q,r,t,u,g⟩|exact⟨p7.c0,p7.c1,p7.c2,p7.c5,p7.c7⟩)
       ((go_at_call 96;refine(y _ (kE.later (below_drewN (cW _ _) (nq+1)))).mono ?_;rintro e b ⟨rfl,dS,aK⟩;have aR:=bo.trans (ad.ag (λ_=>False) (below_drewN (cW w1.heap.size w1) (nq+1))) (λ_ h=>h.elim);have kX:=dD.later (below_drewN (cW w1.heap.size w1) (nq+1));have p7:=kX.ak aK m))
    generalize w1.drewN (nq+1)=o at*;go_wp2;go_ret;exact⟨rfl,(aQ (dS.from iH aR.size aK.size) (aQ p7 ((aR.mono (λ_ h=> .inl h):ad (λk=>F k\/k=l) w o).trans aK (λ_ h=> .inl (.inl h)))))⟩
 .rw [aN c];have I:(Z.1 == 0)=false:=by rw [oE];exact c
  go_in;go_wp2_with fail;refine zg i λw1 kE dD bo=>?_;go_wp2;go_ret;exact⟨rfl,aQ ((kE.more (w:=w)).le (by omega:cR<=cR+2)) (aQ dD (bo.mono (λ_ h=> .inl h):ad (λk=>F k\/k=l) w w1))⟩
end
end B
end
section
def mP {S:DS} (b:S.fL) (s h:Nat):∀{ms:CM},(∀q∈ms,Bytes q.2)->(ax S s h ms).2.fL:=λ{ms} c=>by
 induction ms generalizing S with
 |nil=>exact b
 |cons q f e=>
  rw [ii];have a:(S.wr s ((h+q.1:Nat):Int) 512 q.2).2.fL:=b.wr s _ _ (c q List.mem_cons_self);split
  .exact a
  .exact e a (λx d=>c x (List.mem_cons_of_mem _ d))
def Hh {s:Nat} (h:L.Ok s) (S:DS):(L.trim S s).2.2.Ok s/\(L.trim S s).2.2.begun=L.begun:=by
 unfold LG.trim;split
 .exact⟨h,rfl⟩
 .split
  .exact⟨h,rfl⟩
  .split
   .exact⟨h,rfl⟩
   .exact⟨⟨h.s,h.n1,h.n2,h.ep,h.top,di _,Nat.le_add_right _ _,h.hi,h.hb⟩,rfl⟩
section
variable {w w':World} {F:Nat->Prop} {p s cR q l m t n:Nat} {S:DS} {G:SG} {T:TG}
def ip.q6 {S':DS} {a:LG} {Sa:CM} (h:ip w F p s cR q l m S G) (hd:B.aj w' (more F w w') p s S' c') (bu:lT w' q p l m G.y G.busy) (c:bO w' l p a) (oM:Ch w' m Sa) (sX:a.Ok s) (b:a.begun=true) (tt:∀x∈Sa,x.1<G.y.blocks):ip w' (more F w w') p s c' q l m S' {G with L:=a,ov:=Sa}:=by
 obtain⟨d,f,g⟩:=tO h.st.lt h.lp.lt h.ch.lt;exact⟨hd,bu,c,oM,λe=>e.elim h.nq (λe=>by omega),λe=>e.elim h.nl (λe=>by omega),λe=>e.elim h.nm (λe=>by omega),h.ql,h.qm,h.lm,sX,b,h.hs,tt⟩
def sC (h:ip w F p s cR q l m S G) (ey:S.fL) (bn:S.puts.length+4000<=4000000000000):
  Calls prog 41 #[pQ q] w λe w'=>e= .returned (iV (G.check S s).1)/\ip w' (more F w w') p s (cR+2) q l m (G.check S s).2.1 (G.check S s).2.2/\ad (λk=>F k\/k=l\/k=m) w w':=by
 obtain⟨E,M,t,PT,K⟩:=gB (B.Cf h.d h.lp h.nl (by omega)) (oK G.L S s) (qU ey G.L s) h.ch.small (eZ (G.L.sync S s).2 s G.y.home G.ov);have r:=mP t s G.y.home (λx g=>(h.ch.len x g).2.2);have Z7:=Hh h.lk (ax (G.L.sync S s).2 s G.y.home G.ov).2;have Xa:=h.hs;have I:=λ(w1:World) (kE:B.aj w1 F p s (G.L.sync S s).2 cR) (gV:lT w1 q p l m G.y G.busy) (l5:Ch w1 m G.ov)=>pw kE gV l5 h.nq h.nm (λx g=>by have:=h.kb x g;omega) (by omega);have J:=λ(w1:World) (v:Nat->Prop) (kE:B.aj w1 v p s (ax (G.L.sync S s).2 s G.y.home G.ov).2 cR) (dD:bO w1 l p G.L) (oI:¬v l)=>B.MT kE dD h.lk oI r (by omega);have T:=h.st.c1;have H:=h;obtain⟨R,b⟩:=cF (G.check S s);rw [<-b];unfold SG.check at b;generalize G.L.sync S s=Z at*;generalize ax Z.2 s G.y.home G.ov=Y at*;generalize G.L.trim Y.2 s=X at*;obtain⟨iH,Hi,E0,wJ,P,O,Qy⟩:=wG h.d.lt h.ql h.qm h.lm h.st.lt h.lp.lt h.ch.lt;go_in;go_wp2_with fail;refine zg E λw1 kE dD bo=>?_;by_cases i:Z.1=0
 .have A:(Z.1 != 0)=false:=by rw [i];rfl
  rw [aB (λh=>h i)] at b;have eR:=bo.size;have gV:=H.st.ak bo H.nq;have l5:=H.ch.ak bo H.nm;have N:=I w1 kE gV l5;have KW:=(aQ gV (aQ l5 (aQ dD bo)));go_wp2_with fail;refine j8 N λc dS aK=>?_;obtain⟨eE,dQ,fi,ir,vo⟩:=gB aK.size (KW.1.ak aK H.nq) (KW.2.1.ak aK H.nm) (KW.2.2.1.ak aK H.nl) (KW.2.2.2.trans aK (λ_ h=> .inl h));by_cases j:Y.1=0
  .have C:(Y.1 != 0)=false:=(by rw [j];rfl);rw [aB (λh=>h j)] at b;have si:¬more F w1 c l:=λe=>e.elim H.nl (λe=>by omega);have hnq:¬more F w1 c q:=λe=>e.elim H.nq (λe=>by omega);have JE:¬more F w1 c m:=λe=>e.elim H.nm (λe=>by omega);have Q:=J c (more F w1 c) dS ir si;have z:=dQ.c1;have Ja:=(aQ dQ (aQ fi vo));go_wp2_with fail;refine zg Q λo eO kX aR=>?_;have rS:=aR.size;have o7:=Ja.1.ak aR (λe=>e.elim hnq Hi);have wN:=Ja.2.1.ak aR (λe=>e.elim JE (λe=>wJ e.symm));have Xm:=eO.mono (λk a=>by
    rcases a with (a|a)|a
    .exact .inl a
    .exact .inr ⟨by omega,by omega⟩
    .exact .inr ⟨by omega,a.2⟩) (cQ (F:=F) (w:=w) iH (by omega))
   have Xn:ad (λk=>F k\/k=l\/k=m) w o:=(Ja.2.2.mono (λ_ h=> .inl h)).trans aR (λk a=>by
    rcases a with (a|a)|a
    .exact .inl (.inl a)
    .exact .inr (by omega)
    .exact .inl (.inr (.inl a)))
   by_cases n:X.1=0
   .have D:(X.1 != 0)=false:=(by rw [n];rfl);rw [aB (λh=>h n)] at b;obtain⟨u,DW,oM,rU,fy⟩:=wN.qJ;have U:=o7.c7;have f:(ip u (more F w u) p s (cR+2) q l m X.2.1 {G with L:=X.2.2,ov:= []}/\ad (λk=>F k\/k=l\/k=m) w u):=by
     refine⟨H.q6 ((Xm.ak rU (λk a e=>by
      subst e;exact a.elim H.nm (λh=>by omega))).mono (λk a=>a.elim .inl (λh=> .inr ⟨h.1,by omega⟩)) (cQ (F:=F) (w:=w) iH (by omega))) (o7.ak rU E0) (kX.ak rU wJ) oM Z7.1 (Z7.2.trans H.bg) (λx g=>by cases g),Xn.trans rU (λ_ e=> .inl (.inr (.inr e)))⟩
    go_wp2;go_ret;rw [b];exact⟨rfl,f⟩
   .have D:(X.1 != 0)=true:=(by rw [rO];exact n);rw [aN n] at b;have f:(ip o (more F w o) p s (cR+2) q l m X.2.1 {G with L:=X.2.2}/\ad (λk=>F k\/k=l\/k=m) w o):=⟨H.q6 Xm o7 kX wN Z7.1 (Z7.2.trans H.bg) H.kb,Xn⟩;go_wp2;go_ret;rw [b];exact⟨rfl,f⟩
  .have C:(Y.1 != 0)=true:=(by rw [rO];exact j);rw [aN j] at b;have f:(ip c (more F w c) p s (cR+2) q l m Y.2 G/\ad (λk=>F k\/k=l\/k=m) w c):=⟨H.q6 ((dS.from iH eR eE).le (by omega)) dQ ir fi H.lk H.bg H.kb,vo.mono (λ_ h=> .inl h)⟩;go_wp2;go_ret;rw [b];exact⟨rfl,f⟩
 .have A:(Z.1 != 0)=true:=by rw [rO];exact i
  rw [aN i] at b;have f:(ip w1 (more F w w1) p s (cR+2) q l m Z.2 G/\ad (λk=>F k\/k=l\/k=m) w w1):=⟨H.q6 (kE.more.le (by omega)) (H.st.ak bo H.nq) dD (H.ch.ak bo H.nm) H.lk H.bg H.kb,bo.mono (λ_ h=> .inl h)⟩;go_wp2;go_ret;rw [b];exact⟨rfl,f⟩
end
end
section
namespace B
def bh (w:World) (F:Nat->Prop) (p s:Nat) (S:DS) (m c:Nat):Prop:=∃r,fg w F p s (S.pY r) m/\Rb r c
section
variable {w w':World} {F G:Nat->Prop} {p s m c:Nat} {S:DS}
def bh.old (h:bh w F p s S m c):Go.Proofs.YtkiehemoiapkkaaGreat.bh w F p s S m:=by obtain⟨r,h,_⟩:=h;exact⟨r,h⟩
def bh.le {d:Nat} (h:bh w F p s S m c) (hd:c<=d):bh w F p s S m d:=by obtain⟨r,h,a⟩:=h;exact⟨r,h,a.le hd⟩
def bh.r (h:bh w F p s S m c):aj w F p s S c:=by obtain⟨r,h,a⟩:=h;exact⟨r,h.at,a⟩
def aj.TR (h:aj w F p s S c):∃m,bh w F p s S m c:=by
 obtain⟨r,h,a⟩:=h;obtain⟨m,h⟩:=h.m;exact⟨m,r,h,a⟩
def bh.ak (h:bh w F p s S m c) (k:ad G w w') (hd:∀k,F k->¬G k):bh w' F p s S m c:=by obtain⟨r,h,a⟩:=h;exact⟨r,h.ak k hd,a⟩
def bh.later (h:bh w F p s S m c) (a:bW w w'):bh w' F p s S m c:=h.ak (ad.ag (λ_=>False) a) (λ_ _ h=>h)
def bh.mono (h:bh w F p s S m c) (a:∀k,F k->G k) (b:∀k,G k->k<w.heap.size):bh w G p s S m c:=by obtain⟨r,h,d⟩:=h;exact⟨r,h.mono a b,d⟩
def Xo (h:bh w F p s S m c) (k:Nat) (n:k<s) (bn:S.puts.length+1<=4000000000000) (l:S.fuse≠0):
  Calls prog 102 #[pQ p,iV (k:Int)] w λe w'=>∃g a,e= .returned (.tuple #[.slice (some (aD g 0)) 512 a,iV 0])/\w.heap.size<=g/\ao w' 5 g a (bs (S.now k))/\bh w' F p s S m (c+1)/\ad F w w':=by
 obtain⟨r,h,o⟩:=h;refine(Bi h k l n (by show S.puts.length<=_;omega)).mono ?_;rintro e w' ⟨g,a,b,d,f,i,j⟩;exact⟨g,a,b,d,f,⟨_,i,o.read⟩,j⟩
def TS (h:bh w F p s S m c) (k:Nat) (b:k<s) (bn:S.puts.length+1<=4000000000000) (a:S.fuse≠0) (x:Addr) (d:Nat) (l:List Int) (n:Src w (some x) 512 l):
  Calls prog 49 #[pQ p,iV (k:Int), .slice (some x) 512 d] w λe w'=>e= .returned (iV 0)/\bh w' (more F w w') p s (S.wr s (k:Int) 512 l).2 m c/\ad F w w':=by
 obtain⟨r,h,j⟩:=h;refine(xB h k b a (by show S.puts.length+1<=_;omega) x d l n).mono ?_;rintro e w' ⟨f,g,i⟩;refine⟨f,⟨r,?_,j⟩,i⟩;rw [n9 a b];exact g
end
def Qz {w:World} {F:Nat->Prop} {p s m:Nat} {S:DS} (h:bh w F p s S m cR) (f n E P i c:Nat) (a:Option Addr) (x k:Nat) (l:List Int) (U:Src w a x l) (Z8:∀y,a=some y->0<x->¬F y.block) (hb:Bytes l) (hx:x<=492) (ly:a=none->k=0) (hn:1<=n) (Z9:f+2+n<=s) (bn:S.puts.length+2<=4000000000000):
  Calls prog 177 #[jg p f n,jA E P i c a x k] w λe w'=>e= .returned (iV (jN S s f n E P i c l).1)/\bh w' (more F w w') p s (jN S s f n E P i c l).2 m (cR+1)/\ad F w w':=by
 obtain⟨ME,dw,iH⟩:=tO h.r.ok.hi h.r.ok h.r.lt;have u:¬F w.heap.size:=λb=>by have:=h.r.lt _ b;omega
 have E8:¬F (w.heap.size+1):=λb=>by have:=h.r.lt _ b;omega
 have L:=(aQ u E8);have ag5:P%n<n:=Nat.mod_lt _ hn;have C:=fk w (.cells #[.pointer (some ⟨p,0,none⟩), .int .i64 f, .int .i64 n] 136) (.cells (dJ E P i c a x k) 207);have K2:((w.alloc (.cells #[.pointer (some ⟨p,0,none⟩), .int .i64 f, .int .i64 n] 136)).alloc (.cells (dJ E P i c a x k) 207)).heap[w.heap.size]? =some (.cells #[.pointer (some ⟨p,0,none⟩), .int .i64 f, .int .i64 n] 136 (0,0)):=(Below.heap_alloc _ _ _ (by simp)).trans (heap_alloc_new _ _);have K3:((w.alloc (.cells #[.pointer (some ⟨p,0,none⟩), .int .i64 f, .int .i64 n] 136)).alloc (.cells (dJ E P i c a x k) 207)).heap[w.heap.size+1]? =some (.cells (dJ E P i c a x k) 207 (0,0)):=by
  have:=heap_alloc_new (w.alloc (.cells #[.pointer (some ⟨p,0,none⟩), .int .i64 f, .int .i64 n] 136)) (.cells (dJ E P i c a x k) 207);rwa [World.size_alloc] at this
 have b:=λwx=>GN p f n P wx (by omega) (by omega) (by omega) (by omega) (by omega);obtain⟨j,o,I,D,M,H⟩:=rY C K2 K3 (h.later C) (U.later C) Z8;clear h C K2 K3 U u E8 Z8;unfold jN;go_in;by_cases q:S.fuse=0
 .rw [aN q];go_wp2_with fail;refine(b _).mono ?_;rintro e w1 ⟨rfl,aq⟩;have K2:=(aq.block _ (by simp;omega)).trans o;have N:=aL K2;have t:=mK (D.later aq).r ((f:Int)+2+(P:Int)%(n:Int)) q;have A:=(aQ ((((D.later aq).mono (G:=more F w w1) (λ_ h=> .inl h) (cQ iH (j.trans (aq.mono j.size)).size))).le (by omega:cR<=cR+1)) (ad.ag F (j.trans (aq.mono j.size))));clear b aq K2;go_wp2_with fail;refine t.mono ?_;rintro e d ⟨rfl,rfl⟩;clear t;go_wp2;go_ret;exact⟨rfl,A⟩
 .rw [aB q];have si:=bT dw (f+2+P%n) (by omega);have hlx:=M.1;have Ev:=u7 (old:=S.now (f+2+P%n)) (body:=nZ E P i c l) si (by rw [xP];omega);obtain⟨Y,K⟩:=cF (ky (S.now (f+2+P%n)) (nZ E P i c l));rw [<-K] at Ev⊢;have X:=K;clear K;have O:(f:Int)+2+(P:Int)%(n:Int)=((f+2+P%n:Nat):Int):=by omega
  rw [O] at b;clear O;go_wp2_with fail;refine(b _).mono ?_;rintro e w1 ⟨rfl,aq⟩;have K2:=(aq.block _ (by simp;omega)).trans o;have K3:=(aq.block _ (by simp)).trans I;have N:=aL K2;obtain⟨t,ew,KW,ab4,ab5⟩:=gB (Xo (D.later aq) (f+2+P%n) (by omega) (by omega) q) ((j.trans (aq.mono j.size))) ((M.later aq)) K2 K3;clear b aq K2 K3;go_wp2_with fail;refine t.mono ?_;rintro e d ⟨g,cg,rfl,hg,T,dS,aK⟩;have K2:=dg ab4 aK L.1;have K3:=dg ab5 aK L.2;have q0:d.cell? ⟨w.heap.size+1,0,none⟩=some (iV (E:Int)):=aL K3;have q1:d.cell? ⟨w.heap.size+1,1,none⟩=some (iV (P:Int)):=bY K3;have q2:d.cell? ⟨w.heap.size+1,2,none⟩=some (iV (i:Int)):=cJ K3;have q3:d.cell? ⟨w.heap.size+1,3,none⟩=some (iV (c:Int)):=jw K3;have q4:d.cell? ⟨w.heap.size+1,4,none⟩=some (.slice a x k):=jI K3;have Q:=Mm E P i c a x k l d (KW.oa aK H) hx ly;have wm:=T.src;rw [si] at wm;obtain⟨W,nU,k8,Xp⟩:=jJ wm dS (((ad.ag F ew).trans aK (λ_ h=> .inl h))) K2;clear t T wm dS aK K2 K3;go_wp2_with fail;refine Q.mono ?_;rintro e w3 ⟨v,rfl,L3,bH⟩;obtain⟨Z,c3,rfl,o7,_,_⟩:=L3.src;have J:=L7 (some (aD g 0)) 512 cg (S.now (f+2+P%n)) Z _ c3 (nZ E P i c l) w3 (W.later bH) o7 (tj hb);rw [<-X,Ev.1] at J;have Mh:=(nU.later bH);have nV:=(k8.trans (ad.ag (λ_=>False) bH) (λ_ h=>h.elim));have Xq:=((bH.block _ (af Xp)).trans Xp);clear Q L3 bH o7;go_wp2_with fail;refine J.mono ?_;rintro e w4 ⟨v4,rfl,⟨a4,c4,rfl,MU,_,_⟩,eK⟩;have N:=aL ((eK.block _ (af Xq)).trans Xq);rw [Ev.2] at MU⊢;obtain⟨b5,o5,rfl⟩:=is MU (by omega);have R:=TS (Mh.later eK) (f+2+P%n) (by omega) (by omega) q (aD b5 o5) c4 Y.1 MU;have KX:=(nV.trans (ad.ag (λ_=>False) eK) (λ_ h=>h.elim));clear J eK MU;go_wp2_with fail;refine j8 R λw5 pp cB=>?_;have wt:=KX.size;have ud:=cB.size;have A:=(aQ ((pp.mono (G:=more F w w5) (λk z=>by
    rcases z with z|z
    .exact .inl z
    .exact .inr ⟨by omega,z.2⟩) (cQ iH (by omega)))) (KX.trans cB (λ_ h=> .inl h)))
  clear R pp cB;go_wp2;go_ret;rw [(n9 q (show f+2+P%n<s by omega) Y.1)] at A⊢;exact⟨rfl,A⟩
end B
end
section
namespace B
def bh.narrow {w:World} {F G:Nat->Prop} {p s:Nat} {S:DS} {m a:Nat} (h:bh w F p s S m a) (b:∀k,F k->(Z1 w k\/k=m)->G k) (c:∀k,G k->k<w.heap.size):bh w G p s S m a:=by
 obtain⟨r,h,d⟩:=h;exact⟨r,h.narrow b c,d⟩
def bh.fm {w:World} {F:Nat->Prop} {p s:Nat} {S:DS} {m a:Nat} (h:bh w F p s S m a):F m:=h.old.fm
def bh.fc {w0 w:World} {F:Nat->Prop} {B p s:Nat} {S:DS} {m b:Nat} (h:bh w' (more (FC F B m w) w w') p s S m b) (e:B<=w.heap.size) (c:w0=w0):bh w' (FC F B m w') p s S m b:=
 h.narrow (λk a d=>⟨by
  rcases a with a|a
  .exact a.1
  .exact .inr (by omega),d,h.r.lt k a⟩) (λ_ a=>a.2.2)
structure Ah (w W:World) (F:Nat->Prop) (l p s m M n0:Nat) (L:LG) (S:DS) (d:List Int) (xs:List Nat) (cR:Nat):Prop where
 ok:(pb L S s d xs).1=0
 dk:bh W (FC F n0 m W) p s (pb L S s d xs).2 m (cR+xs.length)
 mrk:W.heap[M]? =some (.cells #[.int .i64 (L.ep:Int), .int .i64 ((L.head+xs.length:Nat):Int), .int .i64 ((xs.length:Nat):Int), .int .i64 ((bI d.length:Nat):Int)] 205 (0,0))
 bx:fB W w.heap.size l
 kp:ad F w W
 sz:n0<=W.heap.size
structure Cp (w W:World) (F:Nat->Prop) (p s m n0:Nat) (L:LG) (S:DS) (d:List Int) (xs:List Nat) (cR:Nat):Prop where
 no:(pb L S s d xs).1≠0
 dk:bh W (FC F n0 m W) p s (pb L S s d xs).2 m (cR+xs.length)
 er:W.heap[w.heap.size+1]? =some (.cells #[.int .i64 (pb L S s d xs).1] 39 (0,0))
 kp:ad F w W
 sz:n0<=W.heap.size
def bh.carry {W W':World} {F:Nat->Prop} {p s m f c:Nat} {S:DS} (h:bh W (FC F f m W) p s S m c) (e:iZ W W') (g:W'.heap[m]? =W.heap[m]?) (j:W.heap.size<=W'.heap.size):bh W' (FC F f m W') p s S m c:=by
 obtain⟨r,h,i⟩:=h;refine⟨r,(h.agree j (λk a=>?_)).mono (λk a=>⟨a.1,?_,by have:=a.2.2;omega⟩) (λ_ a=>a.2.2),i⟩
 .rcases a.2.1 with ⟨cur,t,d,b⟩|rfl
  .rw [e _ _ _ _ b,b]
  .exact g
 .rcases a.2.1 with ⟨cur,t,d,b⟩|h
  .exact .inl ⟨cur,t,d,e _ _ _ _ b⟩
  .exact .inr h
section
variable {w W W':World} {F:Nat->Prop} {l p s m M n0 cR:Nat} {L:LG} {S:DS} {d:List Int} {xs:List Nat}
def Ah.step (h:Ah w W F l p s m M n0 L S d xs cR) (a:iZ W W') (e:W'.heap[m]? =W.heap[m]?) (b:W.heap.size<=W'.heap.size) (c:ad F w W'):Ah w W' F l p s m M n0 L S d xs cR:=
   ⟨h.ok,h.dk.carry a e b,a _ _ _ _ h.mrk,⟨a _ _ _ _ h.bx.1,a _ _ _ _ h.bx.2⟩,c,xv h.sz b⟩
def Cp.step (h:Cp w W F p s m n0 L S d xs cR) (a:iZ W W') (e:W'.heap[m]? =W.heap[m]?) (b:W.heap.size<=W'.heap.size) (c:ad F w W'):Cp w W' F p s m n0 L S d xs cR:=
   ⟨h.no,h.dk.carry a e b,a _ _ _ _ h.er,c,xv h.sz b⟩
def AX (h:bh W (FC F n0 m W) p s S m cR):m<W.heap.size:=h.fm.2.2
def Ah.grown {row:Option Nat} (h:Ah w W F l p s m M n0 L S d xs cR) (c:m<n0) (f:w.heap.size<=n0) (a:W.grownBy W' row) (b:∀r,row=some r->n0<=r/\∃o:Obj,W.heap[r]? =some o/\o.isCells=false):Ah w W' F l p s m M n0 L S d xs cR:=
 h.step (gG a (λr e=>(b r e).2)) (a.block m (AX h.dk) (λe=>by have:=(b m e.symm).1;omega)) a.size (h.kp.grown a (λr e=>by have:=(b r e).1;omega))
def Cp.grown {row:Option Nat} (h:Cp w W F p s m n0 L S d xs cR) (c:m<n0) (f:w.heap.size<=n0) (a:W.grownBy W' row) (b:∀r,row=some r->n0<=r/\∃o:Obj,W.heap[r]? =some o/\o.isCells=false):Cp w W' F p s m n0 L S d xs cR:=
 h.step (gG a (λr e=>(b r e).2)) (a.block m (AX h.dk) (λe=>by have:=(b m e.symm).1;omega)) a.size (h.kp.grown a (λr e=>by have:=(b r e).1;omega))
end
def bh.AY {W W':World} {F:Nat->Prop} {p s m c b d:Nat} {S:DS} (h:bh W (FC F c m W) p s S m d) (a:ad (λk=>k=b) W W') (f:¬FC F c m W b):bh W' (FC F c m W') p s S m d:=
   (h.ak a (λk a e=>f (e▸a))).mono (λk Lu=>⟨Lu.1,by
  rcases Lu.2.1 with ⟨cur,t,g,i⟩|h
  .exact .inl ⟨cur,t,g,(a.block k Lu.2.2 (λe=>f (e▸Lu))).trans i⟩
  .exact .inr h,by have:=Lu.2.2;have:=a.size;omega⟩) (λ_ a=>a.2.2)
def Hj {w W:World} {F:Nat->Prop} {p s m b M l D c:Nat} {S:DS} {L:LG} {e:Int} (n:∀j,F j->j<w.heap.size) (hd:bh W (FC F b m W) p s S m c) (q:bO W l p L) (a:ad (λk=>F k\/k=l) w W) (f:W.heap[w.heap.size+1]? =some (.cells #[.int .i64 e] 39 (0,0))) (g:W.heap[D]? =some (.deferred (some [])))
    (i:b<=D) (u:l<w.heap.size) (y:w.heap.size+2<=M) (o:M<b) (Qy:m<w.heap.size):
    (W.putObj D (.deferred none)).cell? ⟨w.heap.size+1,0,none⟩=some (iV e)/\aj (W.putObj D (.deferred none)) (more F w (W.putObj D (.deferred none))) p s S c/\bO (W.putObj D (.deferred none)) l p L/\ad (λk=>F k\/k=l) w (W.putObj D (.deferred none)):=by
 have fy:(W.putObj D (.deferred none)).heap.size=W.heap.size:=by simp [World.putObj]
 have Rw:ad (λk=>k=D) W (W.putObj D (.deferred none)):=⟨rfl,rfl,rfl,by omega,λk _ v=>World.putObj_heap_other v⟩;have Z2:=a.size;refine⟨aL ((Rw.block _ (af f) (by omega)).trans f),?_,q.ak Rw (by omega),a.trans Rw (λ_ h=> .inr (by omega))⟩;refine(hd.r.ak Rw (λk a e=>?_)).mono (λk a=>?_) (λk a=>?_)
 .rcases a.2.1 with ⟨cur,t,x,d⟩|h
  .rw [e,g] at d;cases d
  .omega
 .rcases a.1 with h|h
  .exact .inl h
  .exact .inr ⟨by omega,by have:=a.2.2;omega⟩
 .rcases a with h|h
  .have:=n k h;omega
  .exact h.2
end B
end
section
namespace B
open Go.RowKit Go.Shelf
attribute [local go_sem] Oper.semAt_some
section
variable {w:World} {F:Nat->Prop} {p s l cR:Nat} {S:DS} {L:LG}
set_option maxRecDepth 100000 in
def JF (h:aj w F p s S cR) (hl:bO w l p L) (A:L.Ok s) (hF:¬F l) (b o x k:Nat) (d:List Int) (hs:Src w (some (aD b o)) x d) (E8:¬F b) (hd:Bytes d) (Vz:x<=k) (hr:L.gd S x=0) (bn:S.puts.length+100<=4000000000000):
  Calls prog 150 #[pQ l, .slice (some (aD b o)) x k] w λe w'=>e= .returned (iV (L.append S s d).1)/\aj w' (more F w w') p s (L.append S s d).2.1 (cR+17)/\bO w' l p (L.append S s d).2.2/\ad (λk=>F k\/k=l) w w':=by
 obtain⟨k0,k1,k2,k3,k4⟩:=mN hr;obtain⟨W0,EV⟩:=zEr ((w.alloc (.cells #[.pointer (some ⟨l,0,none⟩)] 90)).alloc (.cells #[.int .i64 0] 39));have lJ:bW w W0:=by rw [<-EV];exact fk _ _ _
 have s7:fB W0 w.heap.size l:=by
  rw [<-EV];refine⟨(Below.heap_alloc _ _ _ (by simp)).trans (heap_alloc_new _ _),?_⟩;have:=heap_alloc_new (w.alloc (.cells #[.pointer (some ⟨l,0,none⟩)] 90)) (.cells #[.int .i64 0] 39);rwa [World.size_alloc] at this
 have J:=ib (h.later lJ) (hl.later lJ);rw [k0] at J;obtain⟨fy,HW,HQ,HB,HL,D0,HO⟩:=wG hl.lt (yh EV) (yh s7) (yh lJ) (yh (hl.later lJ)) A.hi (yh A);have kE:((x:Int) == 0)=false:=by rw [oE];omega
 have dS:¬(8364:Int)<(x:Int):=by omega
 obtain⟨C,hC⟩:=cF ((x+491) / 492);have Ry:bI x=C:=by rw [hC];rfl
 rw [Ry] at k3 k4;have Qq:C<=17:=by omega
 have eO:¬(1073741824:Int)<(L.head:Int)+(C:Int):=by omega
 obtain⟨HC,HD,E,HR,iH⟩:=PG hC h hl hr h.lt;clear hC lJ s7 EV A hl h hr k0;refine(callsIn_wide (n:=6)).1 ?_;refine callsIn_of_wp_marks func150 rfl trivial ?_ rfl;simp only [ntmps150,List.size_toArray,List.length_cons,List.length_nil,Nat.reduceAdd,Nat.reduceSub,Array.replicate_succ,Array.replicate_zero,List.push_toArray,List.append_toArray,List.nil_append,List.cons_append];refine(wpIn_wide (n:=6)).2 ?_;go_wp2_with fail;rw [HW.o];refine J.mono ?_;rintro e w1 ⟨rfl,aq⟩;have lj:=fB.later HQ.o aq;have b0:w1.cell? (aD w.heap.size 0)=some (pQ l):=aL lj.1;have dD:=HL.o.later aq;have aH:=HB.o.trans (aq.mono HB.o.size);have c7:=dD.c7;have h3:=u6 dD HO.o;have r:=λwx=>gF x wx (by omega);obtain⟨ew,MC,O7⟩:=pJ aH lj dD;clear J aq aH lj dD;go_wp2_with fail;refine(r _).mono ?_;rintro e g ⟨rfl,ed⟩;have kB:=ed.symm;subst kB;rw [<-HC.o];clear r ed;go_wp2_with fail;refine h3.mono ?_;rintro e g ⟨rfl,aG⟩;have xI:=fB.later MC.o aG;have eY:=ew.o.trans (aG.mono ew.o.size);have ir:=O7.o.later aG;have b2:g.cell? (aD w.heap.size 0)=some (pQ l):=aL xI.1;have e5:=ir.c5;have e7:=ir.c7;clear h3 aG;go_wp2_with fail;go_region_held3 (λw'=>w'.cell? (aD w.heap.size 0)=some (pQ l)/\w'.cell? (aD l 5)=some (iV (L.ep:Int))/\w'.cell? (aD l 7)=some (iV (L.head:Int))) (go_keep) (fail);have zm:w.heap.size+2<=g.heap.size:=by have:=af xI.2;omega
 clear c7 e5 e7 b2 b0;obtain⟨H,VA⟩:∃H,(g.alloc (.cells #[.int .i64 (L.ep:Int), .int .i64 (L.head:Int), .int .i64 0, .int .i64 (C:Int)] 205)).drew=H:=⟨_,rfl⟩;rw [VA];have rS:H.heap.size=g.heap.size+1:=by rw [<-VA];show (g.alloc _).heap.size=_;simp
 have gP:bW w H:=by rw [<-VA];exact ah (eY.alloc eY.size _)
 have wN:H.heap[g.heap.size]? =some (.cells #[.int .i64 (L.ep:Int), .int .i64 (L.head:Int), .int .i64 0, .int .i64 (C:Int)] 205 (0,0)):=by rw [<-VA];exact heap_alloc_new _ _
 have Xr:fB H w.heap.size l:=xI.later (by rw [<-VA];exact ah (an _ _));obtain⟨VB,nB,E9,HQ3⟩:=PF rS gP wN Xr;clear VA gP wN Xr rS xI eY ir;go_wp2_with fail;refine(Jr (some (aD b o)) x k H).mono ?_;rintro e q ⟨rfl,mD⟩;go_wp2_with fail;refine(wpIn_wide (n:=6)).1 ?_;have eK:bW H q:=by rw [mD];exact fk _ _ _
 have wt:q.heap.size=g.heap.size+3:=by rw [mD];have:=VB.o;simp;omega
 have MU:q.heap[g.heap.size+1]? =some (.cells #[.slice (some ⟨b,o,none⟩) x k] 44 (0,0)):=by
  rw [mD,<-VB.o];exact(Below.heap_alloc _ _ _ (by simp)).trans (heap_alloc_new _ _)
 have TT:q.heap[g.heap.size+1+1]? =some (.cells #[.int .i64 492] 3 (0,0)):=by
  rw [mD,<-VB.o];have:=heap_alloc_new (H.alloc (.cells #[.slice (some ⟨b,o,none⟩) x k] 44)) (.cells #[.int .i64 492] 3);rwa [World.size_alloc] at this
 rw [VB.o];rw [<-mD];clear mD;have mu:=nB.o.trans (eK.mono nB.o.size);have Xc:=hs.1;have Wo:bI d.length=C:=by rw [Xc];exact Ry
 obtain⟨m,hDm⟩:=HD.o.TR;have Qy:=HD.o.lt m hDm.fm;have TU:=mu.size;have hI0:Ah w q F l p s m g.heap.size q.heap.size L S d [] cR:=by
  refine⟨rfl,?_,?_,HQ3.o.later eK,ad.ag F mu,di _⟩
  .exact(hDm.later mu).narrow (λk A hc=>⟨.inl A,hc,by have:=HD.o.lt k A;omega⟩) (λ_ A=>A.2.2)
  .rw [Wo];exact(eK.block _ (af E9.o)).trans E9.o
 refine wpIn_rangeFunc_ownH rfl (by omega) (gf:=191) (lb:= #[.pointer (some ⟨g.heap.size+1,0,none⟩), .pointer (some ⟨g.heap.size+1+1,0,none⟩)]) rfl trivial (enters_of func191 (by kernel_rfl) rfl)
    (Cd (6-1) (by omega) (g.heap.size+1) (g.heap.size+1+1) b o x k C k1 k2 Vz HC.o q MU TT) su.t (su.b (by omega) (by omega)) (cW _ _) (λ_=>rfl)
    (λa W=>Ah w W F l p s m g.heap.size q.heap.size L S d (a.map Fin.val) cR)
    (λc a W=>c= .ret/\Cp w W F p s m q.heap.size L S d (a.map Fin.val) cR)
  ?hI ?hIx hI0
    (λy a' _=>a'={tmps:= #[Value.pointer (some (aD l 0)), .slice (some (aD b o)) x k,pQ w.heap.size,undef, .pointer (some ⟨w.heap.size+1,0,none⟩),iV 0,iV (C:Int),pQ g.heap.size, .slice (some ⟨b,o+492*y.1,none⟩) (kH x y.1) (kH x y.1),undef,pQ l,iV 0,iV 0, .bool false,undef, .slice (some (aD b o)) x k,iV (x:Int),iV (C:Int), .bool false, .slice (some (aD b o)) x k,iV (x:Int), .bool false, .bool (decide ((8364:Int)<(x:Int))), .slice (some (aD b o)) x k,iV (x:Int), .bool (decide ((8364:Int)<(x:Int))), .bool (decide ((1073741824:Int)<(L.head:Int)+(C:Int))),pQ l,pQ l, .pointer (some (aD l 7)),iV (L.head:Int),iV (C:Int),iV ((L.head:Int)+(C:Int)), .bool (decide ((1073741824:Int)<(L.head:Int)+(C:Int))), .bool (decide ((L.n:Int)-((L.head:Int)-(L.tail:Int))<(C:Int))),iV (C:Int),pQ l,iV ((L.n:Int)-((L.head:Int)-(L.tail:Int))), .bool (decide ((L.n:Int)-((L.head:Int)-(L.tail:Int))<(C:Int))),pQ l,pQ l, .pointer (some (aD l 5)),iV (L.ep:Int),pQ l,pQ l, .pointer (some (aD l 7)),iV (L.head:Int),iV (C:Int), .agg #[iV (L.ep:Int),iV (L.head:Int),iV 0,iV (C:Int)], .slice (some (aD b o)) x k, .func (.func 191) #[] #[.pointer (some ⟨g.heap.size+1,0,none⟩), .pointer (some ⟨g.heap.size+1+1,0,none⟩)], .slice (some ⟨b,o+492*y.1,none⟩) (kH x y.1) (kH x y.1),undef,undef,undef,undef,undef,undef,undef,undef,undef,undef,undef,undef,undef,undef,undef,undef,undef,undef,undef,undef,undef],defers:= []}) ?hAx ?assign ?body ?done ?stop
 case hI=>exact λ_ _ _ _ h hg hr=>h.grown (by omega) TU hg hr
 case hIx=>exact λ_ _ _ _ _ h hg hr=>⟨h.1,h.2.grown (by omega) TU hg hr⟩
 case hAx=>exact λ_ _ _ _ _ _ h _ _=>h
 case assign=>
  intro l' a y W K hI hK;simp only [Qp]
  gi_wp2
  exact hK _ _ (KeepsFrom.refl _ _) (su.refl _ _ _) hI rfl
 case body=>
  rintro l' a y a' W QA ⟨rr,D4⟩ hI rfl aS;have hlen:(a.map Fin.val).length=a.length:=by simp
  have Cq:(a ++ [y]).map Fin.val=a.map Fin.val ++ [y.1]:=by simp
  have hy:=y.2;have Pe:=E.o.ak hI.kp hF;have hsW:=hs.oa hI.kp (λz hz _=>by cases hz;exact E8);have hpt:=Jv L S s d (a.map Fin.val);have D3:prog.follows .mixedOrders=true:=by kernel_rfl
  have DW:kH x y.1=min 492 (x-492*y.1):=rfl;have hyx:492*y.1<x:=by have:=HC.o;omega
  have Xs:Src W (some ⟨b,o+492*y.1,none⟩) (kH x y.1) (partOf d y.1):=by
   have:=hsW.sub (492*y.1) (kH x y.1) (by omega);rwa [show (d.drop (492*y.1)).take (kH x y.1)=partOf d y.1 by unfold partOf;rw [List.take_eq_take_iff,List.length_drop,Xc];omega] at this
  have hbP:Bytes (partOf d y.1):=Ab hd _;have ag9:b<w.heap.size:=hs.old _ rfl (by omega);have hFC:∀k,w.heap.size<=k->k<q.heap.size->¬FC F q.heap.size m W.drew k:=λk J r h=>by
   rcases h.1 with h|h
   .have:=iH.o k h;omega
   .omega
  have hdW:bh W.drew (FC F q.heap.size m W.drew) p s (pb L S s d (a.map Fin.val)).2 m (cR+(a.map Fin.val).length):=hI.dk.carry (λ_ _ _ _ h=>h) rfl (di _);have kJ:=Qz hdW L.f L.n L.ep (L.head+(a.map Fin.val).length) (a.map Fin.val).length C (some ⟨b,o+492*y.1,none⟩) (kH x y.1) (kH x y.1) (partOf d y.1) (Xs.later (ah (cW _ _))) (λz hz _ h=>by
   cases hz;rcases h.1 with h|h
   .exact E8 h
   .have:q.heap.size<=b:=h;omega) hbP (by omega) (λh=>by cases h) (by have:=HO.o.n1;omega) HO.o.s (by omega)
  have nP:=Ju (L:=L) (S:=S) (s:=s) (d:=d) y.1 hI.ok;rw [Wo] at nP;generalize jN (pb L S s d (a.map Fin.val)).2 s L.f L.n L.ep (L.head+(a.map Fin.val).length) (a.map Fin.val).length C (partOf d y.1)=Y at kJ nP;rw [<-Cq] at nP;have b0:W.drew.cell? (aD w.heap.size 0)=some (pQ l):=aL hI.bx.1;have QB:=hI.mrk;rw [Wo] at QB;generalize hj:(a.map Fin.val).length=j at kJ QB;have hjC:j<17:=by omega
  have Cr:((L.head+j:Nat):Int)=(L.head:Int)+(j:Int):=by omega
  rw [Cr] at kJ QB;generalize kH x y.1=cL at*;have HJ:=yh hj;clear DW Cr hj;have ig:Yh (∀W':World,W'.heap[w.heap.size]? =some (.cells #[.pointer (some ⟨l,0,none⟩)] 90 (0,0))->W'.heap[g.heap.size]? =some (.cells #[.int .i64 (L.ep:Int), .int .i64 ((L.head:Int)+(j:Int)), .int .i64 (j:Int), .int .i64 (C:Int)] 205 (0,0))->bO W' l p L->
      (W'.cell? (aD w.heap.size 0)=some (pQ l)/\W'.cell? (aD g.heap.size 0)=some (iV (L.ep:Int))/\W'.cell? (aD g.heap.size 1)=some (iV ((L.head:Int)+(j:Int)))/\W'.cell? (aD g.heap.size 2)=some (iV (j:Int))/\W'.cell? (aD g.heap.size 3)=some (iV (C:Int))/\
     W'.cell? (aD l 0)=some (pQ p)/\W'.cell? (aD l 1)=some (iV (L.f:Int))/\W'.cell? (aD l 2)=some (iV (L.n:Int)))):=
   λW' g1 g2 g3=>⟨aL g1,aL g2,bY g2,cJ g2,jw g2,g3.c0,g3.c1,g3.c2⟩
  obtain⟨U,Hk,ab7,HMk,Ql,R⟩:=aa4 (ig.o W.drew hI.bx.1 QB (Pe.later (ah (cW _ _)))) hI kJ QB nP hFC;clear hI kJ QB nP hFC Xs hsW Pe hdW hpt b0
  gi_wp2_with fail
  refine l8 (S:=λW'=>W'.cell? (aD w.heap.size 0)=some (pQ l)/\W'.cell? (aD g.heap.size 0)=some (iV (L.ep:Int))/\W'.cell? (aD g.heap.size 1)=some (iV ((L.head:Int)+(j:Int)))/\W'.cell? (aD g.heap.size 2)=some (iV (j:Int))/\W'.cell? (aD g.heap.size 3)=some (iV (C:Int))/\
     W'.cell? (aD l 0)=some (pQ p)/\W'.cell? (aD l 1)=some (iV (L.f:Int))/\W'.cell? (aD l 2)=some (iV (L.n:Int))) D3 (by kernel_rfl) ?_
  refine wpAnyH_take (i:=0) (v:=pQ l) rfl (by kernel_rfl) (by kernel_rfl) (by kernel_rfl) (λ_ _ _ h=>h) (Or.inl ⟨by rfl,?_⟩) U.out ?_
  .rintro X ⟨y1,y2,y3,y4,y5,y6,y7,y8⟩;go_simp
  try simp only [Act.put,iA]
  refine wpAnyH_take (i:=1) (v:=pQ l) rfl (by kernel_rfl) (by kernel_rfl) (by kernel_rfl) (λ_ _ _ h=>h) (Or.inl ⟨by rfl,?_⟩) U.out ?_
  .rintro X ⟨y1,y2,y3,y4,y5,y6,y7,y8⟩;go_simp
  try simp only [Act.put]
  refine wpAnyH_take (i:=2) (v:=pQ l) rfl (by kernel_rfl) (by kernel_rfl) (by kernel_rfl) (λ_ _ _ h=>h) (Or.inl ⟨by rfl,?_⟩) U.out ?_
  .rintro X ⟨y1,y2,y3,y4,y5,y6,y7,y8⟩;go_simp
  try simp only [Act.put]
  refine wpAnyH_take (i:=3) (v:=jg p L.f L.n) rfl (by kernel_rfl) (by kernel_rfl) (by kernel_rfl) (λ_ _ _ h=>h) (Or.inl ⟨by rfl,?_⟩) U.out ?_
  .rintro X ⟨y1,y2,y3,y4,y5,y6,y7,y8⟩;go_simp
  try simp only [Act.put]
  refine wpAnyH_take (i:=4) (v:=vd (L.ep:Int) ((L.head:Int)+(j:Int)) (j:Int) (C:Int)) rfl (by kernel_rfl) (by kernel_rfl) (by kernel_rfl) (λ_ _ _ h=>h) (Or.inl ⟨by rfl,?_⟩) U.out ?_
  .rintro X ⟨y1,y2,y3,y4,y5,y6,y7,y8⟩;go_simp
  try simp only [Act.put]
  refine wpAnyH_take (i:=5) (v:= .slice (some ⟨b,o+492*y.1,none⟩) cL cL) rfl (by kernel_rfl) (by kernel_rfl) (by kernel_rfl) (λ_ _ _ h=>h) (Or.inl ⟨by rfl,?_⟩) U.out ?_
  .rintro X ⟨y1,y2,y3,y4,y5,y6,y7,y8⟩;go_simp
  try simp only [Act.put]
  refine wpAnyH_take (i:=6) (v:=jA (L.ep:Int) ((L.head:Int)+(j:Int)) (j:Int) (C:Int) (some ⟨b,o+492*y.1,none⟩) cL cL) rfl (by kernel_rfl) (by kernel_rfl) (by kernel_rfl) (λ_ _ _ h=>h) (Or.inl ⟨by rfl,?_⟩) U.out ?_
  .rintro X ⟨y1,y2,y3,y4,y5,y6,y7,y8⟩;go_simp
  try simp only [Act.put]
  refine wpAnyH_ready (rs:= [7]) (by kernel_rfl) (by simp) (AllReadyH.cons rfl (λK hK=>?_) AllReadyH.nil);go_simp;refine ab7.o.mono ?_;rintro e u ⟨rfl,dS,aK⟩;have eE:W.heap.size<=u.heap.size:=aK.size;have eO:=dS.fc (w0:=w) (w:=W.drew) Hk.o.sz rfl;have vo:=(Hk.o.kp.trans (ad.ag (λ_=>False) (ah (cW W.heap.size W))) (λ_ h=>h.elim)).trans aK (λk A=>by
   rcases A.1 with h|h
   .exact .inl h
   .exact .inr (by omega))
  have pq:∀k P,w.heap.size<=k->k<q.heap.size->W.heap[k]? =some P->u.heap[k]? =some P:=λk P J r h3=>(aK.block k (af h3) (R.o k J r)).trans h3;have bw:fB u w.heap.size l:=⟨pq _ _ (by omega) (by omega) Hk.o.bx.1,pq _ _ (by omega) (by omega) Hk.o.bx.2⟩;have TV:=pq g.heap.size _ (by omega) (by omega) HMk.o;have Hm:KeepsFrom q.heap.size W u:=⟨eE,λk P J r h3=>(aK.block k (af r) (λh=>by
   rcases h.2.1 with ⟨cur,t,fz,hc⟩|h
   .have G2:W.heap[k]? =some (.cells cur t fz):=hc;rw [r] at G2;cases G2;cases h3
   .omega)).trans r⟩
  have rU:su (g.heap.size+1) (g.heap.size+1+1) W u:=⟨aK.block _ (by have:=Hk.o.sz;show _<W.heap.size;omega) (R.o _ (by omega) (by omega)),aK.block _ (by have:=Hk.o.sz;show _<W.heap.size;omega) (R.o _ (by omega) (by omega))⟩;have ir:=E.o.ak vo hF;obtain⟨S2,Mh,HKw,ym,Xt,T,HKc⟩:=V6 (ig.o u bw.1 TV ir) eO vo bw TV Hm rU;clear dS aK eO vo pq bw TV Hm rU ir;refine hK.out _ _ S2.out (λ_=>?_);clear hK K;try simp only [Act.put,iA,jG,jZ]
  refine wpAnyH_take (i:=8) (v:=iV Y.1) rfl (by kernel_rfl) (by kernel_rfl) (by kernel_rfl) (λ_ _ _ h=>h) (Or.inl ⟨by rfl,?_⟩) S2.out ?_
  .rintro X ⟨y1,y2,y3,y4,y5,y6,y7,y8⟩;go_simp
  try simp only [Act.put,iA]
  refine wpAnyH_done (by kernel_rfl) ?_ _;have er1:u.cell? ⟨w.heap.size+1,0,none⟩=some (iV 0):=aL ym.o.2;have ef1:=ae ym.o.2 0;by_cases kY:Y.1=0
  .have dY:(Y.1 == 0)=true:=(by rw [beq_iff_eq];exact kY);obtain⟨z1,z2,z3,z4,z5,_⟩:=S2.out;have Tw:=CallsIn.inRound l' (callsIn_wide (n:=3).2 (Mq L.ep (L.head+j) j C u (by omega) (by omega)));rw [show ((L.head+j:Nat):Int)=(L.head:Int)+(j:Int) by omega] at Tw;have Pb:=yh kY;clear kY
   gi_wp2_with fail
   refine⟨trivial,?_⟩;refine Tw.mono ?_;rintro e Z ⟨rfl,gc⟩;have ws:=(gc.block _ (af Xt.o)).trans Xt.o;have m0:Z.cell? (aD g.heap.size 0)=some (iV (L.ep:Int)):=aL ws;have m1:Z.cell? (aD g.heap.size 1)=some (iV ((L.head:Int)+(j:Int))):=bY ws;have m2:Z.cell? (aD g.heap.size 2)=some (iV (j:Int)):=cJ ws;have m3:Z.cell? (aD g.heap.size 3)=some (iV (C:Int)):=jw ws;have mf:=λi=>ae ws i;obtain⟨HM5,pt⟩:=eA ws gc;clear ws gc Tw z1 z2 z3 z4 z5 er1 ef1
   gi_wp2
   obtain⟨WX,N⟩:∃WX,((((Z.setCell ⟨g.heap.size,0,none⟩ (.int .i64 (L.ep:Int))).setCell ⟨g.heap.size,1,none⟩ (.int .i64 ((L.head:Int)+(j:Int)+1))).setCell ⟨g.heap.size,2,none⟩ (.int .i64 ((j:Int)+1))).setCell ⟨g.heap.size,3,none⟩ (.int .i64 (C:Int)))=WX:=⟨_,rfl⟩;rw [N];have iB:ad (λk=>k=g.heap.size) Z WX:=by
    rw [<-N];exact(((aF (F:=λk=>k=g.heap.size) _ rfl 0 _).trans (aF (F:=λk=>k=g.heap.size) _ rfl 1 _) (λ_ h=> .inl h)).trans (aF (F:=λk=>k=g.heap.size) _ rfl 2 _) (λ_ h=> .inl h)).trans (aF (F:=λk=>k=g.heap.size) _ rfl 3 _) (λ_ h=> .inl h)
   have QC:KeepsFrom q.heap.size Z WX:=by
    rw [<-N];exact((((KeepsOthers.setCell _ _ _).from _).trans ((KeepsOthers.setCell _ _ _).from _)).trans ((KeepsOthers.setCell _ _ _).from _)).trans ((KeepsOthers.setCell _ _ _).from _)
   have hmX:WX.heap[g.heap.size]? =some (.cells #[.int .i64 (L.ep:Int), .int .i64 ((L.head:Int)+(j:Int)+1), .int .i64 ((j:Int)+1), .int .i64 (C:Int)] 205 (0,0)):=by
    rw [<-N];exact(heap_setCell_same _ _ 3 _ _ _ (heap_setCell_same _ _ 2 _ _ _ (heap_setCell_same _ _ 1 _ _ _ (heap_setCell_same _ _ 0 _ _ _ HM5.o)))).trans (by simp)
   have gc:=pt.o;have Ty:=Hk.o.sz;have hc5:=ee gc;have pp:=Mh.o.carry hc5 (gc.block _ (AX Mh.o)) gc.size;have fU:∀k P,¬k=g.heap.size->u.heap[k]? =some P->WX.heap[k]? =some P:=λk P J r=>(iB.block k (by have:=af r;have:=gc.size;omega) J).trans ((gc.block k (af r)).trans r);have ud:=gc.size;have hzX:=iB.size;have hIX:Ah w WX F l p s m g.heap.size q.heap.size L S d ((a ++ [y]).map Fin.val) cR:=by
    have I:=Ql.o;have RO:cR+j+1<=cR+((a ++ [y]).map Fin.val).length:=(by rw [Cq,gT,List.length_singleton,HJ.o];omega);refine⟨by rw [I];exact Pb.o,by rw [I];exact(pp.AY iB (AW iH.o (by omega) (by omega))).le RO,?_,⟨fU _ _ (by omega) ym.o.1,fU _ _ (by omega) ym.o.2⟩,(HKw.o.trans (ad.ag (λ_=>False) gc) (λ_ h=>h.elim)).trans iB (λ_ h=> .inr (by omega)),by omega⟩;rw [hmX,Cq,gT,List.length_singleton,HJ.o,Wo];rw [show ((L.head+(j+1):Nat):Int)=(L.head:Int)+(j:Int)+1 by omega,show ((j+1:Nat):Int)=(j:Int)+1 by omega]
   exact⟨(T.o.trans ⟨ud,λk P _ r _=>(gc.block k (af r)).trans r⟩).trans QC,HKc.o.t ⟨(iB.block _ (by omega) (by omega)).trans (gc.block _ (by omega)),(iB.block _ (by omega) (by omega)).trans (gc.block _ (by omega))⟩,hIX⟩
  .have dY:(Y.1 == 0)=false:=(by rw [oE];exact kY);have Pb:=yh kY;clear kY
   gi_wp2
   have iB:ad (λk=>k=w.heap.size+1) u (u.setCell ⟨w.heap.size+1,0,none⟩ (.int .i64 Y.1)):=aF (F:=λk=>k=w.heap.size+1) u rfl 0 _;have O:Cp w (u.setCell ⟨w.heap.size+1,0,none⟩ (.int .i64 Y.1)) F p s m q.heap.size L S d ((a ++ [y]).map Fin.val) cR:=by
    have I:=Ql.o;have RO:cR+j+1<=cR+((a ++ [y]).map Fin.val).length:=(by rw [Cq,gT,List.length_singleton,HJ.o];omega);refine⟨by rw [I];exact Pb.o,by rw [I];exact(Mh.o.AY iB (AW iH.o (by omega) (by omega))).le RO,by rw [I];exact(heap_setCell_same _ _ 0 _ _ _ ym.o.2).trans (by simp),HKw.o.trans iB (λ_ h=> .inr (by omega)),by have:=Hk.o.sz;have:=T.o.size;have:=iB.size;omega⟩
   exact⟨T.o.trans ((KeepsOthers.setCell _ _ _).from _),rfl,O⟩
 case done=>
  intro D xs W hD wR hI oc;have Cq:xs.map Fin.val=List.range C:=wR;rw [Cq] at hI;have Pe:=E.o.ak hI.kp hF;have c0:W.cell? (aD w.heap.size 0)=some (pQ l):=aL hI.bx.1;have c1:W.cell? ⟨w.heap.size+1,0,none⟩=some (iV 0):=aL hI.bx.2;obtain⟨g1,c7,g7,Hk,HlW⟩:=gB (ae hI.bx.2 0) Pe.c7 (Pe.fz 7) (yh hI) (yh Pe);clear hI Pe Cq wR;have tW:¬FC F q.heap.size m W l:=λh=>by
   rcases h.1 with h|h
   .exact hF h
   .omega
  have bo:ad (λk=>k=l) W (W.setCell ⟨l,7,none⟩ (.int .i64 ((L.head:Int)+(C:Int)))):=aF (F:=λk=>k=l) W rfl 7 _;have aK:ad (λk=>k=w.heap.size+1) (W.setCell ⟨l,7,none⟩ (.int .i64 ((L.head:Int)+(C:Int)))) ((W.setCell ⟨l,7,none⟩ (.int .i64 ((L.head:Int)+(C:Int)))).setCell ⟨w.heap.size+1,0,none⟩ (.int .i64 0)):=aF (F:=λk=>k=w.heap.size+1) _ rfl 0 _;have kE:=(Hk.o.dk.AY bo tW).AY aK (AW iH.o (by omega) (by omega));have dD:bO ((W.setCell ⟨l,7,none⟩ (.int .i64 ((L.head:Int)+(C:Int)))).setCell ⟨w.heap.size+1,0,none⟩ (.int .i64 0)) l p {L with head:=L.head+C}:=bO.ak (G:=λk=>k=w.heap.size+1) ((heap_setCell_same _ _ 7 _ _ _ HlW.o).trans (by simp)) aK (by omega);have he1:((W.setCell ⟨l,7,none⟩ (.int .i64 ((L.head:Int)+(C:Int)))).setCell ⟨w.heap.size+1,0,none⟩ (.int .i64 0)).heap[w.heap.size+1]? =some (.cells #[.int .i64 0] 39 (0,0)):=(heap_setCell_same _ _ 0 _ _ _ ((bo.block _ (af Hk.o.bx.2) (by omega)).trans Hk.o.bx.2)).trans (by simp);have TW:ad (λk=>F k\/k=l) w ((W.setCell ⟨l,7,none⟩ (.int .i64 ((L.head:Int)+(C:Int)))).setCell ⟨w.heap.size+1,0,none⟩ (.int .i64 0)):=((Hk.o.kp.mono (λ_ h=> .inl h)).trans bo (λ_ h=> .inl (.inr h))).trans aK (λ_ h=> .inr (by omega));have hDl:=af oc;have M:=(aK.block _ (by have:=bo.size;omega) (by omega)).trans ((bo.block _ hDl (by omega)).trans oc);have eR:=xv bo.size aK.size;obtain⟨WZ,TY⟩:∃WZ,((W.setCell ⟨l,7,none⟩ (.int .i64 ((L.head:Int)+(C:Int)))).setCell ⟨w.heap.size+1,0,none⟩ (.int .i64 0))=WZ:=⟨_,rfl⟩;rw [TY] at kE dD he1 TW M eR;have RO:cR+(List.range C).length<=cR+17:=by rw [List.length_range];omega
  obtain⟨Q,HOk,Xu,pd⟩:=PF (Hj iH.o (kE.le RO) dD TW he1 M (by omega) fy zm (by omega) (by omega)) Hk.o.ok TY M;clear kE dD he1 TW M bo aK eR TY;go_wp2;rw [Xu.o];refine⟨by simp, .inl ⟨_,_,rfl,run_takeDeferred pd.o,?_⟩⟩;refine⟨_,eH rfl _ _ (w.heap.size+1) 0 rfl Q.o.1,?_⟩;have I:=HOk.o;rw [vg] at I Q;unfold LG.append;rw [Xc,HR.o,Ry,aB (by decide),aB (by rw [I];decide)];exact⟨rfl,Q.o.2⟩
 case stop=>
  rintro D c a W hD ⟨j,hj,lM⟩ ⟨rfl,O⟩ oc;have Cq:a.map Fin.val=List.range (j+1):=lM;rw [Cq] at O;have Pe:=E.o.ak O.kp hF;have RL:=O.no;have Q:=yh (Hj iH.o (O.dk.le (by rw [List.length_range];omega:cR+(List.range (j+1)).length<=cR+17)) Pe (O.kp.mono (λ_ h=> .inl h)) O.er oc (by omega) fy zm (by omega) (by omega));rw [vg] at Q RL;have Vt:ei L S s d C=ei L S s d (j+1):=ic RL C (by omega);obtain⟨HTo,HNn⟩:=eA Vt RL;clear O Pe RL Vt
  gi_wp2
  refine⟨by simp, .inl ⟨_,_,rfl,run_takeDeferred oc,?_⟩⟩;refine⟨_,eH rfl _ _ (w.heap.size+1) _ rfl Q.o.1,?_⟩;unfold LG.append;rw [Xc,HR.o,Ry,aB (by decide),HTo.o,aN HNn.o];exact⟨rfl,Q.o.2⟩
end
def vp {w:World} {F:Nat->Prop} {p s l j:Nat} {S:DS} {L:LG} (h:aj w F p s S j) (g:bO w l p L) (m:L.Ok s) (n:¬F l) (a:Option Addr) (x k:Nat) (d:List Int) (i:Src w a x d) (Z8:∀y,a=some y->0<x->¬F y.block) (hd:Bytes d) (Vz:x<=k) (q:x<=140737488355328) (bn:S.puts.length+100<=4000000000000):
  Calls prog 150 #[pQ l, .slice a x k] w λe w'=>e= .returned (iV (L.append S s d).1)/\aj w' (more F w w') p s (L.append S s d).2.1 (j+17)/\bO w' l p (L.append S s d).2.2/\ad (λk=>F k\/k=l) w w':=by
 by_cases c:L.gd S x=0
 .have dj:=(mN c).2.1;obtain⟨b,o,rfl⟩:=is i dj;exact JF h g m n b o x k d i (Z8 _ rfl dj) hd Vz c bn
 .refine(Jt h.old g m a x k q c).mono ?_;rintro e w' ⟨rfl,f⟩;unfold LG.append;rw [i.1,aN c];exact⟨rfl,((h.later f).more).le (by omega),g.later f,ad.ag _ f⟩
end B
end
section
def q9:∀{ns ms:CM} {x:Nat×List Int},x∈CM.dM ms ns->x∈ms\/x∈ns
 | [],_,_,h=> .inl h
 |q :: qs,ms,x,h=>by
  rcases q9 (ns:=qs) (ms:=CM.put ms q.1 q.2) h with h|h
  .rcases CM.oG h with e|h
   .exact .inr (e▸List.mem_cons_self)
   .exact .inl h
  .exact .inr (List.mem_cons_of_mem _ h)
def yn {s:Nat} (h:L.Ok s) (S:DS) (d:List Int):(L.append S s d).2.2.Ok s/\(L.append S s d).2.2.begun=L.begun:=by
 unfold LG.append;split
 .exact⟨h,rfl⟩
 .rename_i a;obtain⟨_,_,_,b,c⟩:=mN (Decidable.byContradiction a);split
  .exact⟨h,rfl⟩
  .have:=h.th;exact⟨⟨h.s,h.n1,h.n2,h.ep,h.top,by show L.tail<=L.head+_;omega,by show L.head+_<=L.tail+L.n;omega,by show L.head+_<=1073742080;omega,λ_=>by show L.head+_<=1073741824;omega⟩,rfl⟩
def tu (h:∀q∈ms,Bytes q.2):Bytes (bA ms):=by
 unfold bA;refine(fW _ _).append (Bytes.append ?_ ?_)
 .intro v b;obtain⟨q,_,a⟩:=List.mem_flatMap.1 b;exact fW _ _ v a
 .intro v b;obtain⟨q,c,a⟩:=List.mem_flatMap.1 b;exact h q c v a
def uP.form {B:Nat} {w:World} {l:List Int} {e:Ending} (h:uP B w l e) (n:0<l.length):∃g c,e= .returned (.slice (some (aD g 0)) l.length c)/\B<=g/\Src w (some (aD g 0)) l.length l/\l.length<=c:=by
 obtain⟨v,rfl,h⟩:=h;have h0:=h;obtain⟨qI,⟨e,j⟩|⟨g,a,cur,rfl,d,m,k⟩⟩:=h
 .omega
 .obtain⟨i,c',f,VC,b,_⟩:=ao.eQ h0 (by intro e;cases e);cases f;refine⟨g,a,rfl,d,?_,?_⟩
  .exact b.src
  .have:=b.le;simpa [bs] using this
def oC (S:DS) (s:Nat):(S.fl s).2.puts.length<=S.puts.length:=by
 unfold DS.fl;split
 .exact di _
 .exact iq _
def vq (S:DS) (s f:Nat) (x:Int):(cw S s f x).2.puts.length<=S.puts.length+1:=by
 unfold cw;split
 .exact Nat.le_succ _
 .split
  .exact Nat.le_succ _
  .split
   .exact jL _ _ _ _ _
   .exact xv (oC _ _) (jL _ _ _ _ _)
def vt (L:LG) (S:DS) (s:Nat):(L.trim S s).2.1.puts.length<=S.puts.length+2:=by
 have a:=oK L S s;unfold LG.trim;split
 .show (L.sync S s).2.puts.length<=_;omega
 .split
  .show (L.sync S s).2.puts.length<=_;omega
  .have b:=vq (L.sync S s).2 s L.f ((L.ep:Int)*4294967296+(L.head:Int));split
   .show (cw _ _ _ _).2.puts.length<=_;omega
   .show (cw _ _ _ _).2.puts.length<=_;omega
def Fa (G:SG) (S:DS) (s:Nat):(G.check S s).2.1.puts.length<=S.puts.length+G.ov.length+3:=by
 have a:=oK G.L S s;have b:=eZ (G.L.sync S s).2 s G.y.home G.ov;have c:=vt G.L (ax (G.L.sync S s).2 s G.y.home G.ov).2 s;unfold SG.check;split
 .show (G.L.sync S s).2.puts.length<=_;omega
 .split
  .show (ax _ _ _ _).2.puts.length<=_;omega
  .split
   .show (LG.trim _ _ _).2.1.puts.length<=_;omega
   .show (LG.trim _ _ _).2.1.puts.length<=_;omega
def ip.reF {w:World} {F:Nat->Prop} {p s q l m:Nat} {S:DS} {G:SG} (h:ip w F p s c q l m S G) (a:∀k,F k->F2 k) (aS:∀k,F2 k->k<w.heap.size) (nq:¬F2 q) (b:¬F2 l) (e:¬F2 m):ip w F2 p s c q l m S G:=
   ⟨h.d.mono a aS,h.st,h.lp,h.ch,nq,b,e,h.ql,h.qm,h.lm,h.lk,h.bg,h.hs,h.kb⟩
def tw (G:SG) (S:DS) (s:Nat):(G.check S s).2.2.y=G.y:=by
 unfold SG.check;split
 .rfl
 .split
  .rfl
  .split <;> rfl
section
variable {w w':World} {F:Nat->Prop} {p s cR q l m n:Nat} {S:DS} {G:SG} {cs:CM}
def Fb (h:ip w F p s cR q l m S G) (N:Ch w n cs) (tW:¬F n) (_hnq:n≠q) (si:n≠l) (JE:n≠m) (tt:∀x∈cs,x.1<G.y.blocks) (rV:cs.length<=16) (ey:S.fL) (bn:S.puts.length+5000<=4000000000000):
  Calls prog 122 #[pQ q, .map (some n)] w λe w'=>e= .returned (iV (G.bi S s cs).1)/\ip w' (more F w w') p s (cR+19) q l m (G.bi S s cs).2.1 (G.bi S s cs).2.2/\Ch w' n cs/\ad (λk=>F k\/k=l\/k=m) w w':=by
 have O:=sh (λx j=>(N.len x j).2.1);have np:=tu (λx j=>(N.len x j).2.2);have h1:=Ex N;have T:=λ(w1:World) (aq:bW w w1)=>BY (h.later aq).d.old (h.later aq).lp h.lk;obtain⟨c1,H,HC,iH,hqw,hlw,Qy,hnw,Hi,E0,wJ⟩:=RC h.st.c1 h N h.d.lt h.st.lt h.lp.lt h.ch.lt N.lt h.ql h.qm h.lm;obtain⟨R,f⟩:=cF (G.bi S s cs);rw [<-f];unfold SG.bi at f;obtain⟨D,hD⟩:=cF (bA cs);rw [<-hD] at f O np h1;clear hD;have Q:=(λ(r:World) (T:ip r F p s cR q l m S G)=>sC T ey (by omega));have sq:0<D.length:=by omega
 have wW:=λ(w1:World) (a:Option Addr) (c:Nat)=>zN a D.length c w1 (by omega);have qh:(D.length+491) / 492=bI D.length:=rfl;rw [qh] at wW;have ahn:D.length<=8258:=by omega
 clear qh O;go_in;go_wp2_with fail;by_cases X:(G.L.room S).2=0
 .rw [aB (λh=>h X)] at f;rw [X] at T;clear X;have JG:G.roomy S D.length=decide ((bI D.length:Int)<=(G.L.room S).1):=rfl;refine h1.mono ?_;rintro e w1 ⟨⟨B1,aH,JG⟩,aq⟩;obtain⟨g,c,rfl,hg,nD,W⟩:=JG.form sq;obtain⟨c1,hr,ew,Pf⟩:=jJ ((H.later aq).st.c1) (T w1 aq) aq nD;have Sb:w.heap.size<=g:=by omega
  have gm:g<w1.heap.size:=nD.old _ rfl sq;clear h1 T JG nD aq;go_wp2_with fail;refine ef hr λr aG=>?_;have eE:=aG.size;have i:=ew.trans (aG.mono ew.size);have Xv:=(Pf.later aG);clear hr aG Pf;go_wp2_with fail;refine(wW r _ _).mono ?_;by_cases P:G.roomy S D.length=true
  .have k2':¬(G.L.room S).1<(bI D.length:Int):=(by rw [JG] at P;have:=of_decide_eq_true P;omega);have Cs:G.made S s D.length=(0,S,G):=(by unfold SG.made;rw [aN P]);rw [Cs] at f;rw [aB (λh=>h rfl)] at f;clear h N P JG Cs Q;generalize (G.L.room S).1=E1 at*;rintro e wz ⟨rfl,ed⟩;have Xu:=ed.symm;subst Xu;clear ed wW;have ig:=(H.later i);have R6:=(HC.later i);have ace:¬F g:=λC=>by have:=iH _ C;omega
   have J:∀k,F k->F k\/(w.heap.size<=k/\k<r.heap.size):=λk b=> .inl b;have k8:=(ad.ag (λk=>F k\/k=l\/k=m) i);have JH:=B.vp ig.d ig.lp ig.lk ig.nl (some (aD g 0)) D.length c D Xv (λy hy _ C=>by
    cases hy;exact ace C) np W (by omega) (by omega)
   have MV:=yn ig.lk S D;have cA:=ig.st.c1;obtain⟨A,hA⟩:=cF (G.L.append S s D);rw [<-hA] at JH MV f;clear hA;by_cases t:A.1=0
   .rw [aB (λh=>h t)] at f;have dA:(A.1 != 0)=false:=(by rw [t];rfl);have z:=f;clear f t;go_wp2_with fail;refine zg JH λw3 eO kX aR=>?_;obtain⟨rS,o7,wN,O2⟩:=jJ aR.size (ig.st.ak aR (λe=>e.elim ig.nq Hi)) (ig.ch.ak aR (λe=>e.elim ig.nm (λe=>wJ e.symm))) (R6.ak aR (λe=>e.elim tW si));have Xw:=x0 wN O2 (λe=>JE e.symm);have c7:=o7.c7;have u:=(aQ eO (aQ kX (aQ aR (aQ o7 O2))));clear JH eO kX aR o7 wN O2;go_wp2_with fail;refine j8 Xw λw4 wK dF=>?_;have wt:=dF.size;have v:(ip w4 (more F w w4) p s (cR+19) q l m A.2.1 {G with L:=A.2.2,ov:=CM.dM G.ov cs}/\Ch w4 n cs/\ad (λk=>F k\/k=l\/k=m) w w4):=by
     refine⟨⟨((u.1.le (by omega:cR+17<=cR+19)).ak dF (λk b e=>?_)).mono (λk b=>?_) (cQ (F:=F) (w:=w) iH (by omega)),u.2.2.2.1.ak dF E0,u.2.1.ak dF wJ,wK,λe=>e.elim H.nq (λe=>by omega),λe=>e.elim H.nl (λe=>by omega),λe=>e.elim H.nm (λe=>by omega),Hi,E0,wJ,MV.1,MV.2.trans ig.bg,ig.hs,λx j=>?_⟩,u.2.2.2.2.ak dF JE,(k8.trans u.2.2.1 (λk b=>?_)).trans dF (λ_ e=> .inl (.inr (.inr e)))⟩
     .subst e;exact b.elim ig.nm (λh=>by omega)
     .rcases b with b|b
      .exact(J k b).elim .inl (λh=> .inr ⟨h.1,by omega⟩)
      .exact .inr ⟨by omega,by omega⟩
     .rcases q9 j with j|j
      .exact ig.kb x j
      .exact tt x j
     .rcases b with b|b
      .exact(J k b).elim (λh=> .inl (.inl h)) (λh=> .inr h.1)
      .exact .inl (.inr (.inl b))
    clear Xw wK dF;go_wp2;go_ret;rw [z];exact⟨rfl,v⟩
   .rw [aN t] at f;have dA:(A.1 != 0)=true:=(by rw [rO];exact t);have z:=f;clear f t;go_wp2_with fail;refine zg JH λw3 eO kX aR=>?_;have rS:=aR.size;have v:(ip w3 (more F w w3) p s (cR+19) q l m A.2.1 {G with L:=A.2.2}/\Ch w3 n cs/\ad (λk=>F k\/k=l\/k=m) w w3):=by
     refine⟨⟨(eO.le (by omega:cR+17<=cR+19)).mono (λk b=>?_) (cQ (F:=F) (w:=w) iH (by omega)),ig.st.ak aR (λe=>e.elim ig.nq Hi),kX,ig.ch.ak aR (λe=>e.elim ig.nm (λe=>wJ e.symm)),λe=>e.elim H.nq (λe=>by omega),λe=>e.elim H.nl (λe=>by omega),λe=>e.elim H.nm (λe=>by omega),Hi,E0,wJ,MV.1,MV.2.trans ig.bg,ig.hs,ig.kb⟩,R6.ak aR (λe=>e.elim tW si),k8.trans aR (λk b=>?_)⟩
     .rcases b with b|b
      .exact(J k b).elim .inl (λh=> .inr ⟨h.1,by omega⟩)
      .exact .inr ⟨by omega,b.2⟩
     .rcases b with b|b
      .exact(J k b).elim (λh=> .inl (.inl h)) (λh=> .inr h.1)
      .exact .inl (.inr (.inl b))
    clear JH eO kX aR;go_wp2;go_ret;rw [z];exact⟨rfl,v⟩
  .have k2':(G.L.room S).1<(bI D.length:Int):=(by rw [JG] at P;exact Decidable.byContradiction (λh=>P (decide_eq_true (by omega))));have Cs:G.made S s D.length=G.check S s:=(by unfold SG.made;rw [aB P]);rw [Cs] at f;have Pd:=Fa G S s;have hcy:=tw G S s;have hom:=h.ch.small;obtain⟨K,hK⟩:=cF (G.check S s);rw [<-hK] at f Pd hcy Q;clear h N P JG Cs hK;generalize (G.L.room S).1=E1 at*;rintro e r ⟨rfl,ed⟩;have Xu:=ed.symm;subst Xu;clear ed wW;have M:=Q r (H.later i);by_cases Y:K.1=0
   .rw [aB (λh=>h Y)] at f;have dK:(K.1 != 0)=false:=(by rw [Y];rfl);clear Y;go_wp2_with fail;refine j8 M λI MW cB=>?_;have ud:=cB.size;have ig:=MW;have acf:¬more F r I g:=λC=>C.elim (λC=>by have:=iH _ C;omega) (λC=>by omega);have acg:=(Xv.oa cB (λy hy _ e=>by
     cases hy;rcases e with e|e|e
     .have:g<w.heap.size:=iH _ e;omega
     .have:g=l:=e;omega
     .have:g=m:=e;omega))
    have Z:=((HC.later i).ak cB (λe=>by
     rcases e with e|e|e
     .exact tW e
     .exact si e
     .exact JE e))
    have Xx:¬more F r I n:=λe=>e.elim tW (λe=>by omega);have TZ:∀k,more F r I k->F k\/(w.heap.size<=k/\k<I.heap.size):=λk b=>b.elim .inl (λh=> .inr ⟨by omega,h.2⟩);have nV:=((ad.ag (λk=>F k\/k=l\/k=m) i).trans cB (λ_ h=> .inl h));have ach:∀x∈cs,x.1<K.2.2.y.blocks:=(by rw [hcy];exact tt);clear M MW cB;have JH:=B.vp ig.d ig.lp ig.lk ig.nl (some (aD g 0)) D.length c D acg (λy hy _ C=>by
     cases hy;exact acf C) np W (by omega) (by omega)
    have MV:=yn ig.lk K.2.1 D;have cA:=ig.st.c1;obtain⟨A,hA⟩:=cF (K.2.2.L.append K.2.1 s D);rw [<-hA] at JH MV f;clear hA;by_cases t:A.1=0
    .rw [aB (λh=>h t)] at f;have dA:(A.1 != 0)=false:=(by rw [t];rfl);have z:=f;clear f t;go_wp2_with fail;refine zg JH λw6 eO kX aR=>?_;obtain⟨rS,o7,wN,O2⟩:=jJ aR.size (ig.st.ak aR (λe=>e.elim ig.nq Hi)) (ig.ch.ak aR (λe=>e.elim ig.nm (λe=>wJ e.symm))) (Z.ak aR (λe=>e.elim Xx si));have Xw:=x0 wN O2 (λe=>JE e.symm);have c7:=o7.c7;have u:=(aQ eO (aQ kX (aQ aR (aQ o7 O2))));clear JH eO kX aR o7 wN O2;go_wp2_with fail;refine j8 Xw λw7 wK dF=>?_;have wt:=dF.size;have v:(ip w7 (more F w w7) p s (cR+19) q l m A.2.1 {K.2.2 with L:=A.2.2,ov:=CM.dM K.2.2.ov cs}/\Ch w7 n cs/\ad (λk=>F k\/k=l\/k=m) w w7):=by
      refine⟨⟨((u.1.le (by omega:(cR+2)+17<=cR+19)).ak dF (λk b e=>?_)).mono (λk b=>?_) (cQ (F:=F) (w:=w) iH (by omega)),u.2.2.2.1.ak dF E0,u.2.1.ak dF wJ,wK,λe=>e.elim H.nq (λe=>by omega),λe=>e.elim H.nl (λe=>by omega),λe=>e.elim H.nm (λe=>by omega),Hi,E0,wJ,MV.1,MV.2.trans ig.bg,ig.hs,λx j=>?_⟩,u.2.2.2.2.ak dF JE,(nV.trans u.2.2.1 (λk b=>?_)).trans dF (λ_ e=> .inl (.inr (.inr e)))⟩
      .subst e;exact b.elim ig.nm (λh=>by omega)
      .rcases b with b|b
       .exact(TZ k b).elim .inl (λh=> .inr ⟨h.1,by omega⟩)
       .exact .inr ⟨by omega,by omega⟩
      .rcases q9 j with j|j
       .exact ig.kb x j
       .exact ach x j
      .rcases b with b|b
       .exact(TZ k b).elim (λh=> .inl (.inl h)) (λh=> .inr h.1)
       .exact .inl (.inr (.inl b))
     clear Xw wK dF;go_wp2;go_ret;rw [z];exact⟨rfl,v⟩
    .rw [aN t] at f;have dA:(A.1 != 0)=true:=(by rw [rO];exact t);have z:=f;clear f t;go_wp2_with fail;refine zg JH λw6 eO kX aR=>?_;have rS:=aR.size;have v:(ip w6 (more F w w6) p s (cR+19) q l m A.2.1 {K.2.2 with L:=A.2.2}/\Ch w6 n cs/\ad (λk=>F k\/k=l\/k=m) w w6):=by
      refine⟨⟨(eO.le (by omega:(cR+2)+17<=cR+19)).mono (λk b=>?_) (cQ (F:=F) (w:=w) iH (by omega)),ig.st.ak aR (λe=>e.elim ig.nq Hi),kX,ig.ch.ak aR (λe=>e.elim ig.nm (λe=>wJ e.symm)),λe=>e.elim H.nq (λe=>by omega),λe=>e.elim H.nl (λe=>by omega),λe=>e.elim H.nm (λe=>by omega),Hi,E0,wJ,MV.1,MV.2.trans ig.bg,ig.hs,ig.kb⟩,Z.ak aR (λe=>e.elim Xx si),nV.trans aR (λk b=>?_)⟩
      .rcases b with b|b
       .exact(TZ k b).elim .inl (λh=> .inr ⟨h.1,by omega⟩)
       .exact .inr ⟨by omega,b.2⟩
      .rcases b with b|b
       .exact(TZ k b).elim (λh=> .inl (.inl h)) (λh=> .inr h.1)
       .exact .inl (.inr (.inl b))
     clear JH eO kX aR;go_wp2;go_ret;rw [z];exact⟨rfl,v⟩
   .rw [aN Y] at f;have dK:(K.1 != 0)=true:=(by rw [rO];exact Y);have z:=f;clear Y f;go_wp2_with fail;refine j8 M λI MW cB=>?_;have ud:=cB.size;have v:(ip I (more F w I) p s (cR+19) q l m K.2.1 K.2.2/\Ch I n cs/\ad (λk=>F k\/k=l\/k=m) w I):=by
     have o:=MW.reF (F2:=more F w I) (λk b=>b.elim .inl (λh=> .inr ⟨by omega,h.2⟩)) (cQ (F:=F) (w:=w) iH (by omega)) (λe=>e.elim H.nq (λe=>by omega)) (λe=>e.elim H.nl (λe=>by omega)) (λe=>e.elim H.nm (λe=>by omega));refine⟨⟨o.d.le (by omega),o.st,o.lp,o.ch,o.nq,o.nl,o.nm,o.ql,o.qm,o.lm,o.lk,o.bg,o.hs,o.kb⟩,(HC.later i).ak cB (λe=>?_),(ad.ag (λk=>F k\/k=l\/k=m) i).trans cB (λ_ h=> .inl h)⟩;rcases e with e|e|e
     .exact tW e
     .exact si e
     .exact JE e
    clear M MW cB;go_wp2;go_ret;rw [z];exact⟨rfl,v⟩
 .rw [aN X] at f;have d1:((G.L.room S).2 != 0)=true:=by rw [rO];exact X
  have z:=f;clear X f h N wW np;generalize (G.L.room S).2=E at*;generalize (G.L.room S).1=E1 at*;refine h1.mono ?_;rintro e w1 ⟨⟨B1,aH,JG⟩,aq⟩;obtain⟨g,c,rfl,hg,nD,W⟩:=JG.form sq;have c1:=(H.later aq).st.c1;have hr:=T w1 aq;have ew:=aq;clear h1 T JG nD aq;go_wp2_with fail;refine ef hr λr aG=>?_;have U:=ew.trans (aG.mono ew.size);have v:(ip r (more F w r) p s (cR+19) q l m S G/\Ch r n cs/\ad (λk=>F k\/k=l\/k=m) w r):=⟨H.q6 ((H.d.later U).more.le (by omega)) (H.st.later U) (H.lp.later U) (H.ch.later U) H.lk H.bg H.kb,HC.later U,ad.ag _ U⟩;clear hr aG U;go_wp2;go_ret;rw [z];exact⟨rfl,v⟩
end
end
section
section
variable {w w':World} {F:Nat->Prop} {p s cR q l m t n:Nat} {S:DS} {G:SG} {T:TG}
def TG.news (T:TG) (G:SG) (S:DS):CM:=T.puts.filter λx=> !decide (x.2=G.block S x.1)
def TG.bi (T:TG) (G:SG) (S:DS) (s:Nat):Int×DS×SG×TG:=
 if T.state G S≠0 then (T.state G S,S,G,T) else
 if T.news G S= [] then (0,S,{G with busy:=false},T.close) else
 if (G.bi S s (T.news G S)).1≠0 then ((G.bi S s (T.news G S)).1,(G.bi S s (T.news G S)).2.1,(G.bi S s (T.news G S)).2.2,T)
 else (0,(G.bi S s (T.news G S)).2.1,{(G.bi S s (T.news G S)).2.2 with busy:=false},T.close)
end
end
def CM.yo (h:CM.Ok ms) (P:Nat×List Int->Bool):CM.Ok (ms.filter P):=List.Pairwise.filter P h
def CM.get_filter (h:CM.Ok ms) (P:Nat×List Int->Bool) (k:Nat):CM.get (ms.filter P) k=(CM.get ms k).filter (λc=>P (k,c)):=by
 induction ms with
 |nil=>rfl
 |cons x xs d=>
  have b:=List.pairwise_cons.1 h;obtain⟨j,c⟩:=x;rw [CM.lY];by_cases e:j=k
  .subst e;rw [aN rfl];cases a:P (j,c)
   .rw [List.filter_cons_of_neg (by rw [a];decide),d b.2,CM.je (λy f e=>by have:=b.1 y f;simp only at this;omega)];simp [a,Option.filter]
   .rw [List.filter_cons_of_pos a,CM.lY,aN rfl];simp [a,Option.filter]
  .rw [aB e];cases a:P (j,c)
   .rw [List.filter_cons_of_neg (by rw [a];decide),d b.2]
   .rw [List.filter_cons_of_pos a,CM.lY,aB e,d b.2]
def iw (ms X:CM) (Pg:Nat->List Int) (left:Lit->Bool):Prop:=∀k,CM.get X k=if left (kk k)=false then (CM.get ms k).filter (λc=> !decide (c=Pg k)) else none
def iw.start {left:Lit->Bool} (h:∀k c,CM.get ms k=some c->left (kk k)=true):iw ms [] Pg left:=λk=>by
 show none=_;split
 .rename_i e;cases a:CM.get ms k with
  |none=>rfl
  |some c=>rw [h k c a] at e;cases e
 .rfl
def iw.done {left:Lit->Bool} (h:iw ms X Pg left) (b:CM.Ok X) (a:CM.Ok ms) (c:∀kl,left kl=false):X=ms.filter (λx=> !decide (x.2=Pg x.1)):=by
 refine CM.ext b (CM.yo a _) (λk=>?_);rw [h k,aN (c _),CM.get_filter a]
def iw.ak {left:Lit->Bool} {c:List Int} (h:iw ms X Pg left) (b:CM.get ms k=some c) (d:left (kk k)=true) (a:c=Pg k):iw ms X Pg (λz=>left z && !z.sameKey (kk k)):=λj=>by
 rw [h j];show _=if (left (kk j) && !(kk j).sameKey (kk k))=false then _ else _;rw [lf];by_cases e:j=k
 .subst e;simp [b,d,a,Option.filter]
 .simp [e]
def iw.put {left:Lit->Bool} {c:List Int} (h:iw ms X Pg left) (a:CM.Ok X) (d:CM.get ms k=some c) (b:c≠Pg k):iw ms (CM.put X k c) Pg (λz=>left z && !z.sameKey (kk k)):=λj=>by
 rw [CM.jK _ _ _ _ a,h j];show _=if (left (kk j) && !(kk j).sameKey (kk k))=false then _ else _;rw [lf];by_cases e:j=k
 .subst e;simp [d,b,Option.filter]
 .simp [e]
section
def jQ {P:Program} {k:TypeId} {R:Value->Option (DataW Value×List MemPlace)} {w w':World} {b r n:Nat} {D:DataW Value} {left:Lit->Bool} {bf:Nat} (h:w.ranges P k R b r n D left bf) (g:w'.heap[b]? =w.heap[b]?) (i:w'.heap[r]? =w.heap[r]?):w'.ranges P k R b r n D left bf:=by
 obtain⟨f,a,c,d,e,m,l,p,j,o,rest⟩:=h;exact⟨f,a,c,d,e,g.trans m,l,p,j,i.trans o,rest⟩
section
variable {w w':World} {F:Nat->Prop} {p s cR q l m t n:Nat} {S:DS} {G:SG} {T:TG}
def Ct {D:DataW Value} (h:ip w F p s cR q l m S G) (ht:lU w F q l m t n G T) (hn:sd w n T.puts D) (hf:S.fuse≠0) (bn:S.puts.length+1<=4000000000000):
  Calls prog 121 #[pQ t] w λe w'=>e= .returned (.tuple #[.map (some w.heap.size),iV 0])/\Ch w' w.heap.size (T.news G S)/\B.aj w' F p s S (cR+T.puts.length)/\ad F w w':=by
 obtain⟨si,L0,R,U,H,iH,OZ,hm⟩:=PE hn.lt gO (yh h) (yh ht) (yh hn) (yh h.d.lt) ( @run_makeMap prog) (Ch.made w);obtain⟨wM,Pc⟩:=cF (w.alloc (.map #[] 0));rw [<-Pc] at hm;have Vv:bW w wM:=by rw [Pc];exact an _ _
 have Xb:wM.heap.size=w.heap.size+1:=by rw [Pc,World.size_alloc]
 have c1:=(ht.later Vv).c1;have Z:=yh Pc;have Y:=yh hm;have E:=yh Vv;subst Pc;clear h ht hn hm Vv;go_in;go_wp2_with (at_range;refine wpList_range_own _ rfl _ 94 rfl 3 113 ft underlying94 Ra n T.puts.length D rfl (H.o.agree (E.o.block n si)).own ?_;intro w0 qH ux zl;go_frame);have D6:Yh (bW w w0):=E.o.trans (((cW _ _).grown ux (di _) (λj r=>by cases r)).mono (by omega));have O:=yh (Y.o.agree (ux.block _ Y.o.lt (λe=>by cases e)));rw [Xb] at qH zl;clear ux c1 OZ Y E Xb Z;go_loopw [5] (λ_ wr=>∃(left:Lit->Bool) (bf u:Nat) (X:CM),wr.ranges prog 3 Ra n (w.heap.size+1) T.puts.length D left bf/\Ch wr w.heap.size X/\iw T.puts X (G.block S) left/\B.aj wr F p s S (cR+u)/\u+bf<=T.puts.length/\ad F w wr/\w.heap.size+2<=wr.heap.size)
    (λ_ wr=>wr.rangeLeft n (w.heap.size+1))
 case atStart=>
  exact⟨_,_,0, [],qH,O.o,iw.start (λk c hk=>(H.o.at' k c hk).1),R.o.d.later D6.o,by rw [H.o.ZN];omega,ad.ag _ D6.o,by omega⟩
 case round=>
  clear qH D6 O zl;obtain⟨left,bf,u,X,jH,P,IX,hd,hu,dR,fy⟩:=hrel;go_wp2_with (at_next;refine wpList_next_ranges _ rfl _ rfl 3 ft Ra (Value.int .i64) Value.agg (λkey kl gu=>by obtain⟨x,rfl,_⟩:=Maps.keyOf_int_inv underlying3 gu;exact⟨x,rfl⟩) Eu n (w.heap.size+1) T.puts.length _ _ _ rfl jH ?_ ?_)
  .intro _ oY;have Z6:X=T.news G S:=IX.done P.ok H.o.ok oY;have I:=yh (aQ (Z6▸P) (aQ (hd.le (by omega:cR+u<=cR+T.puts.length)) dR));clear jH P IX hd dR H R U Z6;go_wp2;go_ret2;exact⟨rfl,I.o⟩
  .intro x ca kl yd yp a pL gu sX K k7 nA aS dU dQ KT;obtain⟨k,c,rfl,rfl,R7,ly⟩:=H.o.meets gu K k7;have q5:=H.o.len _ (CM.get_mem R7);have tt:k<G.y.blocks:=U.o.kb _ (CM.get_mem R7);have Cu:=sA R.o k tt;injection ly with ly;have bu:=dO a q5.2.1;have aJ:=dH q5.2.1;have cY:=bD c;obtain⟨A,W⟩:=cF (bs c);rw [<-W] at ly bu aJ cY;have qN:A.length=512:=(by rw [W,bs,ju,q5.2.1]);have bC:=all_oneCell_toArray cY;subst ly;have Bb:ad (λj=>j=w.heap.size+1) wr a:=⟨dU.os,dU.tape,dU.output,dU.size,λj r eM=>dU.block j r (λe=>eM (by injection e))⟩;have dS:=hd.ak Bb (λj r e=>by have:=iH.o _ r;omega);have R8:=P.ak Bb (λe=>by omega);obtain⟨wS,A4⟩:=cF ((a.alloc (.cells aM 113)).setCells a.heap.size 0 A);have cC:=bu.2.2;have td:bW a wS:=(by rw [A4];exact bu.2.1);have Sc:gA wS 113 a.heap.size c:=(by rw [A4];exact bu.1);have QD:=(dR.trans Bb (λj e=> .inr (by omega))).trans (ad.ag (λ_=>False) td) (λ_ h=>h.elim);obtain⟨c0,h2,hzS,Ja,Tj,Q,f⟩:=wG ((U.o.asked QD).c0) (px (R.o.asked (dS.later td) QD) k tt hf bn) td.size (yh (aQ (jQ nA (td.block _ nA.owns.lt) (td.block _ nA.lt)) (aQ (R8.later td) (aQ QD Sc)))) (yh A4) (yh W) (yh (aQ R7 (aQ sX (aQ IX q5))));have zm:w.heap.size+2<=a.heap.size:=(by omega);clear gu K k7 dU P R8 dR Bb hd dS td Sc QD cY R7 nA bu IX sX dQ W A4;have hlS:=Ja.o.2.2.2.lt
   go_upto_region 5 with (refine wpList_store_mid rfl 113 _ _ rfl a.heap.size 0 A.toArray rfl rfl ?h1 ?h2 bC ?_)
   case h1=>first|simpa using cC|(rw [qN] at cC;simpa using cC)
   have MF:=Tj.o;subst MF;generalize Jw:(a.alloc (.cells aM 113)).setCells a.heap.size 0 A=wS at*;clear Jw cC Tj KT;unfold cV at h2;obtain⟨C,hC⟩:=cF (bs (G.block S k));rw [<-hC] at h2;have N:=yh hC;clear hC;go_wp2_with fail;refine j8 h2 λg eO aR=>?_;obtain⟨rS,bu,kI,ts⟩:=jJ aR.size (dO g Cu) (dH Cu) (bD (G.block S k));rw [<-N.o] at bu kI ts;have TM:C.length=512:=(by rw [N.o,bs,ju,Cu]);have Co:=all_oneCell_toArray ts;have cC:=bu.2.2;obtain⟨b,Qx⟩:=cF ((g.alloc (.cells aM 113)).setCells g.heap.size 0 C);have D5:bW g b:=(by rw [Qx];exact bu.2.1);have hzD:=D5.size;have xZ:gA b 113 g.heap.size (G.block S k):=(by rw [Qx];exact bu.1);have VD:∀j,w.heap.size<=j->¬F j:=λj r hf=>by have:=iH.o _ hf;omega
   have vn:=(Ja.o.2.2.2.ak (aR.block _ hlS (VD _ (by omega)))).ak (D5.block _ (by omega));have Xf:b.rangeAt a.heap.size 0 A:=λj v K=>by
    have:=vn.news j v (by rw [<-Q.o];exact K);rwa [aV] at this
   have Vx:b.rangeAt g.heap.size 0 C:=λj v K=>by
    have:=xZ.news j v (by rw [<-N.o];exact K);rwa [aV] at this
   have MY:=jQ (jQ Ja.o.1 (aR.block _ (by omega) U.o.nn) (aR.block _ Ja.o.1.lt (VD _ (by omega)))) (D5.block _ (by omega)) (D5.block _ (by omega));have Xy:=(Ja.o.2.1.ak aR (VD _ (by omega))).later D5;have QE:=(Ja.o.2.2.1.trans aR (λ_ h=> .inl h)).trans (ad.ag (λ_=>False) D5) (λ_ h=>h.elim);have i:B.aj b F p s S (cR+(u+1)):=eO.later D5;by_cases L:c=G.block S k
   .have dv:(!decide (c=G.block S k))=false:=(by rw [decide_eq_true L];rfl);have I:Yh (b.ranges prog 3 Ra n (w.heap.size+1) T.puts.length D (λz=>left z && !z.sameKey (kk k)) pL/\Ch b w.heap.size X/\iw T.puts X (G.block S) (λz=>left z && !z.sameKey (kk k))/\B.aj b F p s S (cR+(u+1))/\(u+1)+pL<=T.puts.length/\ad F w b/\w.heap.size+2<=b.heap.size):=⟨MY,Xy,f.o.2.2.1.ak f.o.1 f.o.2.1 L,i,by omega,QE,by omega⟩;have J:=f.o.2.2.2.2.1;clear h2 eO aR bu ts D5 xZ vn MY Xy QE i L VD;subst Qx
    go_upto_region 6 with (refine wpList_store_mid rfl 113 _ _ rfl g.heap.size 0 C.toArray rfl rfl ?h3 ?h4 Co ?_)
    case h3=>first|simpa using cC|(rw [TM] at cC;simpa using cC)
    case h4=>simpa using kI
    go_wp2_with (first|refine wpList_load_mid rfl 113 _ rfl a.heap.size 0 rfl A _ Xf underlying113 rfl aJ ?_|refine wpList_load_mid rfl 113 _ rfl g.heap.size 0 rfl C _ Vx underlying113 rfl kI ?_|refine pz rfl _ _ _ rfl A C c (G.block S k) Q.o N.o rfl rfl J Cu false dv ?_)
    go_frame
    go_roundw;case rel=>exact⟨_,pL,u+1,X,I.o⟩
    case measure=>rw [I.o.1.left_eq,jH.left_eq];exact aS
   .have dv:(!decide (c=G.block S k))=true:=(by rw [decide_eq_false L];rfl);obtain⟨M,ct,oM,wV,JB⟩:=Xy.store k f.o.2.2.2.1 c f.o.2.2.2.2.1 f.o.2.2.2.2.2;have MQ:(Instr.mapUpdate 94 (.map (some w.heap.size)) (iV (k:Int)) (.agg A.toArray)).run prog b= .ok () M:=(by rw [Q.o];exact ct);have I:Yh (M.ranges prog 3 Ra n (w.heap.size+1) T.puts.length D (λz=>left z && !z.sameKey (kk k)) pL/\Ch M w.heap.size (CM.put X k c)/\iw T.puts (CM.put X k c) (G.block S) (λz=>left z && !z.sameKey (kk k))/\B.aj M F p s S (cR+(u+1))/\(u+1)+pL<=T.puts.length/\ad F w M/\w.heap.size+2<=M.heap.size):=⟨jQ MY (wV.block _ (by omega) (λe=>by omega)) (wV.block _ MY.lt (λe=>by omega)),oM,f.o.2.2.1.put Xy.ok f.o.1 L,i.ak wV (λj r e=>VD _ (Nat.le_of_eq e.symm) r),by omega,QE.trans wV (λj e=> .inr (by omega)),by have:=wV.size;omega⟩;have J:=f.o.2.2.2.2.1;clear h2 eO aR bu ts D5 xZ vn MY Xy QE i L VD ct oM wV JB;subst Qx
    go_upto_region 6 with (refine wpList_store_mid rfl 113 _ _ rfl g.heap.size 0 C.toArray rfl rfl ?h3 ?h4 Co ?_)
    case h3=>first|simpa using cC|(rw [TM] at cC;simpa using cC)
    case h4=>simpa using kI
    go_wp2_with (first|refine wpList_load_mid rfl 113 _ rfl a.heap.size 0 rfl A _ Xf underlying113 rfl aJ ?_|refine wpList_load_mid rfl 113 _ rfl g.heap.size 0 rfl C _ Vx underlying113 rfl kI ?_|refine pz rfl _ _ _ rfl A C c (G.block S k) Q.o N.o rfl rfl J Cu true dv ?_);go_roundw;case rel=>exact⟨_,pL,u+1,_,I.o⟩
    case measure=>rw [I.o.1.left_eq,jH.left_eq];exact aS
def Cv (h:ip w F p s cR q l m S G) (a:lU w F q l m t n G T) (b:S.fuse≠0) (bn:S.puts.length+1<=4000000000000):
  Calls prog 121 #[pQ t] w λe w'=>e= .returned (.tuple #[.map (some w.heap.size),iV 0])/\Ch w' w.heap.size (T.news G S)/\B.aj w' F p s S (cR+T.puts.length)/\ad F w w':=by
 obtain⟨D,c⟩:=a.ch;exact Ct h a c b bn
end
end
section
def MZ (G:SG) (S:DS) (s:Nat) (c:CM):(G.bi S s c).2.2.y=G.y:=by
 have a:∀x,(G.made S s x).2.2.y=G.y:=λx=>by
  unfold SG.made;split
  .rfl
  .exact tw G S s
 unfold SG.bi;split
 .rfl
 .split
  .exact a _
  .split
   .exact a _
   .exact a _
def Fc {T:TG} {G:SG} {S:DS} (h:T.state G S=0):G.L.dead S=false:=by
 cases hd:G.L.dead S
 .rfl
 .exfalso;have:T.dM G S=3:=by unfold TG.dM;rw [hd];rfl
  unfold TG.state at h;rw [this,aN (by decide)] at h;revert h;decide
def Cw {T:TG} {G:SG} {S:DS} {x:Nat×List Int} (h:x∈T.news G S):x∈T.puts:=(List.mem_filter.1 h).1
def Ho (T:TG) (G:SG) (S:DS):(T.news G S).length<=T.puts.length:=List.length_filter_le _ _
section
variable {w w':World} {F:Nat->Prop} {p s cR q l m t n:Nat} {S:DS} {G:SG} {T:TG}
def ip.le (h:ip w F p s cR q l m S G) (a:cR<=c'):ip w F p s c' q l m S G:=
   ⟨h.d.le a,h.st,h.lp,h.ch,h.nq,h.nl,h.nm,h.ql,h.qm,h.lm,h.lk,h.bg,h.hs,h.kb⟩
def lU.re {H:Nat->Prop} {a:SG} (h:lU w F q l m t n G T) (b:ad H w w') (f:¬H t) (e:¬H n) (c:¬F2 t) (d:¬F2 n) (i:a.y=G.y):lU w' F2 q l m t n a T:=
   ⟨(b.block t (af h.tx) f).trans h.tx,h.ch.ak b e,c,d,h.tq,h.tl,h.tm,h.tn,h.nq,h.nl,h.nm,λx g=>by rw [i];exact h.kb x g⟩
def M0 (h:ip w F p s cR q l m S G) (a:lU w F q l m t n G T):
  Calls prog 123 #[pQ t] w λe w'=>e= .returned (.tuple #[])/\ip w' F p s cR q l m S {G with busy:=false}/\lU w' F q l m t n {G with busy:=false} T.close/\ad (λk=>k=t\/k=n\/k=q) w w':=by
 refine(He h.st a).mono ?_;rintro e w1 ⟨rfl,f,g,i,b⟩;refine⟨rfl,⟨h.d.ak b (λk c e=>?_),i,h.lp.ak b (λe=>?_),h.ch.ak b (λe=>?_),h.nq,h.nl,h.nm,h.ql,h.qm,h.lm,h.lk,h.bg,h.hs,h.kb⟩,⟨f,g,a.nt,a.nn,a.tq,a.tl,a.tm,a.tn,a.nq,a.nl,a.nm,λx j=>by cases j⟩,b⟩
 .rcases e with e|e|e
  .exact a.nt (e▸c)
  .exact a.nn (e▸c)
  .exact h.nq (e▸c)
 .rcases e with e|e|e
  .exact a.tl e.symm
  .exact a.nl e.symm
  .exact h.ql e.symm
 .rcases e with e|e|e
  .exact a.tm e.symm
  .exact a.nm e.symm
  .exact h.qm e.symm
def T0 (w w':World) (F:Nat->Prop) (p s c q l m t n:Nat) (r:Int×DS×SG×TG) (e:Ending):Prop:=
 e= .returned (iV r.1)/\(ip w' (more F w w') p s c q l m r.2.1 r.2.2.1/\lU w' (more F w w') q l m t n r.2.2.1 r.2.2.2)/\ad (λk=>F k\/k=l\/k=m\/k=t\/k=n\/k=q) w w'
def AZ {f:World} {i:Nat->Prop} {j:DS} {g:SG} {o:TG} (h0:ip w F p s cR q l m S G) (b:lU w F q l m t n G T) (h:ip f i p s c q l m j g) (a:lU f i q l m t n g o) (r:∀k,i k->F k\/(w.heap.size<=k/\k<f.heap.size)) (v:w.heap.size<=f.heap.size) (u:c<=c'):ip f (more F w f) p s c' q l m j g/\lU f (more F w f) q l m t n g o:=by
 obtain⟨x,y,z,A,C⟩:=gB h0.st.lt h0.lp.lt h0.ch.lt (af b.tx) b.ch.lt;exact⟨(h.reF r (cQ h0.d.lt v) (λe=>e.elim h0.nq (λe=>by omega)) (λe=>e.elim h0.nl (λe=>by omega)) (λe=>e.elim h0.nm (λe=>by omega))).le u,⟨a.tx,a.ch,λe=>e.elim b.nt (λe=>by omega),λe=>e.elim b.nn (λe=>by omega),a.tq,a.tl,a.tm,a.tn,a.nq,a.nl,a.nm,a.kb⟩⟩
def vu (h:ip w F p s cR q l m S G) (v:lU w F q l m t n G T) (rV:T.puts.length<=16) (ey:S.fL) (bn:S.puts.length+5000<=4000000000000):
  Calls prog 79 #[pQ t] w λe w'=>T0 w w' F p s (cR+40) q l m t n (T.bi G S s) e:=by
 obtain⟨u,f,b,iH,hqw,hlw,Qy,htw,hnw,si,J⟩:=RC (gg h v) (yh h) (yh v) (yh h.d.lt) h.st.lt h.lp.lt h.ch.lt (af v.tx) v.ch.lt (Ho T G S) (yh (MZ G S s (T.news G S)));obtain⟨R,a⟩:=cF (T.bi G S s);rw [<-a];unfold TG.bi at a;go_in;go_wp2_with fail;by_cases k:T.state G S=0
 .rw [aB (λh=>h k)] at a;have JA:=sB (Fc k);rw [k] at u;clear k h v;refine ef u λw1 aq=>?_;have z:=Cv (f.o.later aq) (b.o.later aq) JA (by omega);by_cases H:T.news G S= []
  .rw [aN H] at a;have i:=yh a;clear a;have eR:=aq.size;have ew:=yh aq;clear u aq;go_wp2_with fail;refine zg z λY vw dS aK=>?_;have eE:=aK.size;rw [H] at vw;have D:=λU=>vw.length U;have j:=M0 ((f.o.later ew.o).asked dS aK) ((b.o.later ew.o).asked aK);have k8:=yh (((ad.ag F ew.o).trans aK (λ_ h=> .inl h)).mono (λk c=> .inl c:∀k,F k->F k\/k=l\/k=m\/k=t\/k=n\/k=q));clear z vw dS aK;go_wp2_with fail;refine zg j λW T5 T6 aR=>?_;have g:=yh (aQ (AZ (c':=cR+40) f.o b.o T5 T6 (λk c=> .inl c) (by have:=aR.size;omega) (by omega)) (k8.o.trans aR (λk c=> .inl (.inr (.inr (.inr c))))));clear j T5 T6 aR;go_wp2;go_ret;rw [i.o];exact⟨rfl,g.o⟩
  .rw [aB H] at a;have sq:=List.length_pos_iff.2 H;obtain⟨N,I⟩:=cF (T.news G S);have M:=yh (λx (Q:x∈N)=>(Cw (T:=T) (G:=G) (S:=S) (I▸Q)));rw [<-I] at a sq si J;have L:=yh I;obtain⟨K,P⟩:=cF (G.bi S s N);rw [<-P] at a J;have Z:=yh P;clear P I H;rw [<-L.o] at z;have eR:=aq.size;have ew:=yh aq;clear u aq;go_wp2_with fail;refine zg z λY vw dS aK=>?_;have eE:=aK.size;have dU:=vw.lt;have r:=(b.o.later ew.o).asked aK;have D:=λU=>vw.length U;have j:=Fb ((f.o.later ew.o).asked dS aK) vw (λhf=>by have:=iH.o _ hf;omega) (by omega) (by omega) (by omega) (λx Q=>b.o.kb x (M.o x Q)) (by omega) ey bn;rw [<-Z.o] at j;have c0:=r.c0;have O:=yh r;have k8:=yh (((ad.ag F ew.o).trans aK (λ_ h=> .inl h)).mono (λk c=> .inl c:∀k,F k->F k\/k=l\/k=m\/k=t\/k=n\/k=q));clear z vw dS aK r;go_wp2_with fail;refine zg j λW T5 _ aR=>?_;have rS:=aR.size;have T6:lU W (more F Y W) q l m t n K.2.2 T:=O.o.re aR (λe=>by
    rcases e with e|e|e
    .exact b.o.nt e
    .exact b.o.tl e
    .exact b.o.tm e) (λe=>by
    rcases e with e|e|e
    .exact b.o.nn e
    .exact b.o.nl e
    .exact b.o.nm e) (λe=>e.elim b.o.nt (λe=>by omega)) (λe=>e.elim b.o.nn (λe=>by omega)) J.o
   have nV:=yh (k8.o.trans aR (λk c=> .inl (c.elim .inl (λh=> .inr (h.elim .inl (λh=> .inr (.inl h)))))));by_cases y:K.1=0
   .rw [aB (λh=>h y)] at a;have dK:(K.1 != 0)=false:=(by rw [y];rfl);have i:=yh a;clear a y;have X:=M0 T5 T6;clear j T5 T6 aR;go_wp2_with fail;refine zg X λw4 A C dF=>?_;have wt:=dF.size;have g:=yh (aQ (AZ (c':=cR+40) f.o b.o A C (λk c=>c.elim .inl (λh=> .inr ⟨by omega,by omega⟩)) (by omega) (by omega)) (nV.o.trans dF (λk c=> .inl (.inr (.inr (.inr c))))));clear X A C dF;go_wp2;go_ret;rw [i.o];exact⟨rfl,g.o⟩
   .rw [aN y] at a;have dK:(K.1 != 0)=true:=(by rw [rO];exact y);have i:=yh a;clear a y;have g:=yh (aQ (AZ (c':=cR+40) f.o b.o T5 T6 (λk c=>c.elim .inl (λh=> .inr ⟨by omega,h.2⟩)) (by omega) (by omega)) nV.o);clear j T5 T6 aR;go_wp2;go_ret;rw [i.o];exact⟨rfl,g.o⟩
 .rw [aN k] at a;generalize T.state G S=E at*;have d:(E != 0)=true:=by rw [rO];exact k
  have i:=yh a;clear k a h v;refine ef u λw1 aq=>?_;have g:=yh (aQ (AZ (c':=cR+40) f.o b.o (f.o.later aq) (b.o.later aq) (λk c=> .inl c) aq.size (by omega)) (ad.ag (λk=>F k\/k=l\/k=m\/k=t\/k=n\/k=q) aq));clear u aq;go_wp2;go_ret;rw [i.o];exact⟨rfl,g.o⟩
end
end
def QF (S:DS) (k:Nat) (l:List Int) (j:Nat):(S.put k l).now j=if j=k then l else S.now j:=by
 have e:au (S.put k l).puts j=if j=k then au S.puts k ++ [l] else au S.puts j:=fO _ _ _ _;by_cases h:j=k
 .subst h;simp [DS.now,DS.pM,e]
 .have a:au (S.put k l).puts j=au S.puts j:=by rw [e,aB h]
  have b:(S.put k l).im=S.im:=rfl;simp [DS.now,DS.pM,a,b,h]
def ix (a:S.fuse≠0) (b:k<s) (l:List Int) (j:Nat):(S.wr s (k:Int) 512 l).2.now j=if j=k then l else S.now j:=by
 rw [n9 a b];exact QF S k l j
def ra (h:S.Ok s) (c:S.fuse≠0) (b:k<s) {l:List Int} (d:l.length=512):(S.wr s (k:Int) 512 l).2.Ok s:=by
 rw [n9 c b];refine⟨h.len,h.lo,h.hi,λq a=>?_,?_⟩
 .have Ww:q∈S.puts ++ [(k,l)]:=a;rcases List.mem_append.1 Ww with a|a
  .exact h.puts q a
  .rw [List.mem_singleton.1 a];exact⟨b,d⟩
 .have:=h.fuse;show-1<=(if 0<S.fuse then S.fuse-1 else S.fuse)/\(if 0<S.fuse then S.fuse-1 else S.fuse)<=_;split <;> omega
def eW (h:S.Ok s) (a:j<s):(S.fl s).2.now j=S.now j:=by
 unfold DS.fl;split
 .rfl
 .show (S.flush s).now j=S.now j;rw [Bw _ _ rfl];exact Bj s S.now (λk b=>bT h k b) j a
def oD (h:S.Ok s):(S.fl s).2.Ok s:=by
 unfold DS.fl;split
 .exact h
 .refine⟨uD s _ (λk a=>bT h k a),h.lo,h.hi,(λq b=>by cases b),?_⟩;have:=h.fuse;show-1<=(if 0<S.fuse then S.fuse-1 else S.fuse)/\(if 0<S.fuse then S.fuse-1 else S.fuse)<=_;split <;> omega
def lB (S:DS) (s:Nat) (x:Int) (n:Nat) (l:List Int):(S.wr s x n l).2.life=S.life:=by
 unfold DS.wr;split
 .rfl
 .split
  .rfl
  .split <;> rfl
def ff (S:DS) (s:Nat):(S.fl s).2.life=S.life:=by
 unfold DS.fl;split <;> rfl
def gS (h:(S.fl s).1=0):(S.fl s).2.puts= []:=by
 unfold DS.fl at*;split at h
 .simp at h
 .rename_i q;rw [aB q];rfl
def jF (h:(S.fl s).1≠0):(S.fl s).2=S/\S.fuse=0/\(S.fl s).1=3:=by
 unfold DS.fl at*;split at h
 .rename_i q;rw [aN q];exact⟨rfl,q,rfl⟩
 .exact absurd rfl h
def M3 {l:List Int} (b:k<s) (h:(S.wr s (k:Int) 512 l).1≠0):(S.wr s (k:Int) 512 l).2=S/\S.fuse=0:=by
 by_cases a:S.fuse=0
 .unfold DS.wr;rw [aN a];exact⟨rfl,a⟩
 .rw [n9 a b] at h;exact absurd rfl h
def Hq {l:List Int} (h:(S.wr s (k:Int) 512 l).1=0):S.fuse≠0:=λa=>by
 unfold DS.wr at h;rw [aN a] at h;simp at h
def iy {l r:List Int} (b:l.length=512) (c:r.length=512) (a:1<=N) (h:(ai l r).2.1<N):(aW l r (N:Int) []).2.2=0:=by
 unfold aW;rw [aB (by omega),aB (by omega),aB (by simp)];simp only;rw [aB (by omega)];split <;> rfl
def Fd {l r:List Int} (c:l.length=512) (d:r.length=512) (a:1<=N) (b:N<9223372036854775808) (h:(ai l r).2.1<N):
    (ai (uH l r (aW l r (N:Int) []).1 (aW l r (N:Int) []).2.1).1 (uH l r (aW l r (N:Int) []).1 (aW l r (N:Int) []).2.1).2).2.1=N:=by
 have e:(aW l r (N:Int) [])=if (ai l r).2.2.2=0/\(ai l r).1=0 then (1,bc (cG (r.getD 0 0) (r.getD 511 0)) (bj N ++ []),0) else (0,bc (cG (l.getD 0 0) (l.getD 511 0)) (bj N ++ []),0):=by
  unfold aW;rw [aB (by omega),aB (by omega),aB (by simp)];simp only;rw [aB (by omega),t7]
 rw [e];by_cases q:(ai l r).2.2.2=0/\(ai l r).1=0
 .rw [aN q];have:=qK (data:= []) c d b a (by simp) h (t:=cG (r.getD 0 0) (r.getD 511 0)) (by have:=fj (r.getD 0 0) (r.getD 511 0);omega) 1 (by rw [aN q]);simp only;rw [this]
 .rw [aB q];have:=qK (data:= []) c d b a (by simp) h (t:=cG (l.getD 0 0) (l.getD 511 0)) (by have:=fj (l.getD 0 0) (l.getD 511 0);omega) 0 (by rw [aB q]);simp only;rw [this]
def fo (S:DS) (s f:Nat) (num:Int):(cw S s f num).2.life=S.life:=by
 unfold cw;split
 .rfl
 .split
  .rfl
  .split
   .exact lB _ _ _ _ _
   .rw [ff,lB]
def DS.num (S:DS) (f:Nat):Nat:=(ai (S.now f) (S.now (f+1))).2.1
def og (h:S.Ok s) (c:f+1<s) (b:1<=N) (g:N<9223372036854775808) (aS:S.num f<N) (h0:(cw S s f (N:Int)).1=0):(cw S s f (N:Int)).2.num f=N/\(cw S s f (N:Int)).2.puts= []:=by
 have d:=bT h f (by omega);have e:=bT h (f+1) c;have dw:=iy d e b aS;have a:=Fd d e b g aS;have kD:=jk (S.now f) (S.now (f+1)) (N:Int) [];have JA:=lz (S.now f) (S.now (f+1)) (N:Int) [] dw;unfold cw at*;split at h0
 .simp at h0
 .rename_i yq;rw [aB yq];rw [aB (by omega)] at h0⊢;generalize aW (S.now f) (S.now (f+1)) (N:Int) []=Y at*;rw [show (f:Int)+(Y.1:Int)=((f+Y.1:Nat):Int) by omega] at h0⊢;have dm:(S.wr s ((f+Y.1:Nat):Int) 512 Y.2.1).1=0:=by rw [n9 yq (by omega)]
  rw [aB (by omega)] at h0⊢;have Fe:=ra h yq (show f+Y.1<s by omega) JA;refine⟨?_,gS h0⟩;unfold DS.num;rw [eW Fe (by omega),eW Fe c,ix yq (by omega),ix yq (by omega)];unfold uH at a;by_cases q:Y.1=0
  .rw [q] at a⊢;rw [aN (by omega),aB (by omega)];rw [aN rfl] at a;exact a
  .have i:Y.1=1:=(by omega);rw [i] at a⊢;rw [aB (by omega),aN rfl];rw [aB (by omega)] at a;exact a
def kL {num:Int} (c:f+1<s) (dw:(aW (S.now f) (S.now (f+1)) num []).2.2=0) (h0:(cw S s f num).1≠0):(cw S s f num).2.fuse=0/\(cw S s f num).2.puts.length<=S.puts.length+1:=by
 have kD:=jk (S.now f) (S.now (f+1)) num [];unfold cw at*;split at h0
 .rename_i yq;rw [aN yq];exact⟨yq,Nat.le_succ _⟩
 .rename_i yq;rw [aB yq];rw [aB (by omega)] at h0⊢;generalize aW (S.now f) (S.now (f+1)) num []=Y at*;rw [show (f:Int)+(Y.1:Int)=((f+Y.1:Nat):Int) by omega] at h0⊢;have dm:(S.wr s ((f+Y.1:Nat):Int) 512 Y.2.1).1=0:=by rw [n9 yq (by omega)]
  rw [aB (by omega)] at h0⊢;obtain⟨a,b,_⟩:=jF h0;rw [a];exact⟨b,jL _ _ _ _ _⟩
def JI (S:DS) (s f n E P i c:Nat) (l:List Int):(jN S s f n E P i c l).2.life=S.life:=by
 unfold jN;split
 .rfl
 .exact lB _ _ _ _ _
def M4 {l:List Int} (b:1<=n) (e:f+2+n<=s) (d:j<f+2):(jN S s f n E P i c l).2.now j=S.now j:=by
 have:=Nat.mod_lt P b;unfold jN;split
 .rfl
 .rename_i a;rw [ix a (by omega),aB (by omega)]
def M5 {l:List Int} (b:1<=n) (d:f+2+n<=s) (h:(jN S s f n E P i c l).1≠0):(jN S s f n E P i c l).2.fuse=0:=by
 have:=Nat.mod_lt P b;unfold jN at*;split at h
 .rename_i a;rw [aN a];exact a
 .rename_i a;rw [n9 a (by omega)] at h;exact absurd rfl h
def oh {L:LG} {S:DS} {s:Nat} {d:List Int} (a:1<=L.n) (b:L.f+2+L.n<=s):∀k,(ei L S s d k).2.life=S.life/\(∀j,j<L.f+2->(ei L S s d k).2.now j=S.now j)/\((ei L S s d k).1≠0->(ei L S s d k).2.fuse=0)/\(ei L S s d k).2.puts.length<=S.puts.length+k
 |0=>⟨rfl,λ_ _=>rfl,λh=>absurd rfl h,di _⟩
 |k+1=>by
  obtain⟨c,g,l,m⟩:=oh (L:=L) (S:=S) (d:=d) a b k;by_cases e:(ei L S s d k).1=0
  .have:ei L S s d (k+1)=jN (ei L S s d k).2 s L.f L.n L.ep (L.head+k) k (bI d.length) (partOf d k):=kF e;rw [this];refine⟨(JI _ _ _ _ _ _ _ _ _).trans c,λj i=>(M4 a b i).trans (g j i),λh=>M5 a b h,?_⟩;have:=xW (ei L S s d k).2 s L.f L.n L.ep (L.head+k) k (bI d.length) (partOf d k);omega
  .have:ei L S s d (k+1)=ei L S s d k:=ic e (k+1) (by omega);rw [this];exact⟨c,g,l,by omega⟩
def jR {S:DS} {s f n:Nat} (h:S.Ok s) (o:f+n<=s):∀k,k<=n->(bE S s f k).2.life=S.life/\(bE S s f k).2.Ok s/\((bE S s f k).1≠0->(bE S s f k).2.fuse=0)/\((bE S s f k).1=0->∀j,j<k->(bE S s f k).2.now (f+j)=zs 512)
 |0,_=>⟨rfl,h,λh=>absurd rfl h,λ_ j m=>by omega⟩
 |k+1,hk=>by
  obtain⟨c,d,i,l⟩:=jR h o k (by omega);by_cases e:(bE S s f k).1=0
  .have b:bE S s f (k+1)=(bE S s f k).2.wr s ((f+k:Nat):Int) 512 (zs 512):=kF e;rw [b];by_cases a:(bE S s f k).2.fuse=0
   .have g:(bE S s f k).2.wr s ((f+k:Nat):Int) 512 (zs 512)=(3,(bE S s f k).2):=(by unfold DS.wr;rw [aN a]);rw [g];exact⟨c,d,λ_=>a,λh=>by simp at h⟩
   .refine⟨(lB _ _ _ _ _).trans c,ra d a (by omega) (bN 512),λh=>?_,λ_ j m=>?_⟩
    .rw [n9 a (by omega)] at h;exact absurd rfl h
    .rw [ix a (by omega)];by_cases q:j=k
     .rw [aN (by omega)]
     .rw [aB (by omega)];exact l e j (by omega)
  .have b:bE S s f (k+1)=bE S s f k:=ic e (k+1) (by omega);rw [b];exact⟨c,d,i,λh=>absurd h e⟩
def rb:(am (zs 512)).1=0:=by
 have a:dG (zs 512)= []:=by
  unfold dG;rw [show cM (zs 512)=0 from by unfold cM;rw [show (zs 512).getD 1 0=0 from rfl,show (zs 512).getD 2 0=0 from rfl];rfl];exact List.take_zero
 have b:am (zs 512)=(0, []):=by
  refine gE ?_;unfold fF;split
  .exact .inr ⟨_,rfl, .inl (by rw [a];decide)⟩
  .exact .inl rfl
 rw [b]
def Ai:(ai (zs 512) (zs 512)).2.1=0:=by
 rw [mE (bN 512) (bN 512),aN ⟨rb,rb⟩]
def lC (h:S.Ok s) (k:f+2+n<=s):(dq S s f n).2.life=S.life/\(dq S s f n).2.Ok s/\((dq S s f n).1≠0->(dq S s f n).2.fuse=0)/\((dq S s f n).1=0->(dq S s f n).2.num f=0/\(dq S s f n).2.puts= []):=by
 obtain⟨b,a,i,c⟩:=jR (f:=f) h (n:=n+2) (by omega) (n+2) (di _);unfold dq;by_cases e:(bE S s f (n+2)).1=0
 .rw [aB (by omega)];refine⟨(ff _ _).trans b,oD a,λh=>?_,λh=>⟨?_,gS h⟩⟩
  .obtain⟨d,g,_⟩:=jF h;rw [d];exact g
  .unfold DS.num;have j:(bE S s f (n+2)).2.now f=zs 512:=c e 0 (by omega);rw [eW a (by omega),eW a (by omega),j,(c e 1 (by omega))];exact Ai
 .rw [aN e];exact⟨b,a,i,λh=>absurd h e⟩
section
def LG.Fit (L:LG) (S:DS):Prop:=
   (L.begun=true->S.puts.length<=L.head-L.tail/\S.num L.f<=L.ep*4294967296+L.tail)/\(L.begun=false->S.puts.length=0/\S.num L.f<(L.top+1)*4294967296)
def iR {x:Int} {t:Nat} (h0:0<=x) (a:x<=t) (b:t<=1000000000000000000):wrap64 (x+1)=x+1:=by
 unfold wrap64;omega
section
variable {S S':DS} {s t i:Nat} {ls:List LG} {L L':LG}
def sD (h:S.Ok s) (a:f+1<s):(S.fl s).2.num f=S.num f:=by
 unfold DS.num;rw [eW h (by omega),eW h a]
def LG.opened (S:DS) (f n hd:Nat):LG:={LG.new S f n with ep:=(bG S f).1,tail:=(bG S f).2.1,head:=hd,top:=iC S f n}
end
end
end Go.Proofs.YtkiehemoiapkkaaGreat
