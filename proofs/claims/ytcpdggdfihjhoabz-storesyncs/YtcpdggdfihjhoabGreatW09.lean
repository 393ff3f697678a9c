import Derived.Test.YtcpdggdfihjhoabGreatW01
import Derived.Test.YtcpdggdfihjhoabGreatW05
import Derived.Test.YtcpdggdfihjhoabGreatW06
import Derived.Test.YtcpdggdfihjhoabGreatW07
import Derived.Test.YtcpdggdfihjhoabGreatW08
import Derived.Deep.RegionWith
import Derived.Deep.RegionLaw
import Derived.Laws.BytesArg
import Derived.Defers
import Derived.Recover
set_option maxRecDepth 20000
set_option maxHeartbeats 8000000
set_option linter.all false
namespace Go.Proofs.YtcpdggdfihjhoabGreat
open Go.Proofs.Tryz
open Go.RowKit Go.Maps
variable {cs:Array Value} {c:CM} {S':DS} {d l xs:List Int} {ks:List Nat} {blocks cap g g2 i k n p q:Nat} {F:Nat->Prop} {a:Option Addr} {E:Prop} {α:Type} {v:Value} {W w w0 w1 w2 wx:World}
section
section
variable {w w':World} {F X:Nat->Prop} {r s k kl t hm:Nat} {S:DS} {G:SG} {pv nv:Value} {ps:List (Nat×List Int)}
def Pl.shape (h:Pl w X v ps):(v= .slice none 0 0/\ps= [])\/∃g cap,v= .slice (some (aD g 0)) ps.length cap/\ps.length<=cap/\cap<=maxLen/\X g:=by
 obtain⟨xs,h⟩:=h;obtain⟨_,⟨e,c⟩|⟨g,cap,cur,e,_,_,a,b,_⟩⟩:=h.own
 .exact .inl ⟨e,List.length_eq_zero_iff.1 c⟩
 .exact .inr ⟨g,cap,e,a,b,h.row g (by rw [e];rfl)⟩
def aec (w:World) (X:Nat->Prop):PV w X (.slice none 0 0) ([]:List (Nat×List Int)):=(Pl.nil w X).pv
def PV.dropped (h:PV w X (.slice (some (aD g 0)) ps.length cap) ps) (b:hm<=ps.length) (d:ps.length<=cap):PV w X (.slice (if cap=hm then some (aD g 0) else some ⟨g,hm*2,none⟩) (ps.length-hm) (cap-hm)) (ps.drop hm):=by
 by_cases e:cap=hm
 .have a:ps.drop hm= []:=List.drop_eq_nil_of_le (by omega);rw [a];exact⟨⟨_,_,by rw [show ps.length-hm=([]:List (Nat×List Int)).length by simp;omega],λh0=>by simp at h0⟩,λq c=>by cases c⟩
 .rw [aB e];have:=h.drop hm b rfl (cap-hm);rwa [Nat.zero_add] at this
def PV.Sl (h:PV w X (.slice (some (aD g 0)) ps.length cap) ps) (c:hm<=ps.length) (a:ps.length<=cap) (b:¬cap=hm):PV w X (.slice (some ⟨g,hm*2,none⟩) (ps.length-hm) (cap-hm)) (ps.drop hm):=by
 have:=h.dropped c a;rwa [aB b] at this
def PV.Sm (h:PV w X (.slice (some (aD g 0)) ps.length hm) ps) (b:hm<=ps.length) (a:ps.length<=hm):PV w X (.slice (some (aD g 0)) 0 0) (ps.drop hm):=by
 have:=h.dropped b a;rwa [aG rfl,Nat.sub_self,Nat.sub_eq_zero_of_le a] at this
def Sn (b:w0.heap.size<=w1.heap.size) (hd:aC w2 (more F w1 w2) r s S'):aC w2 (more F w0 w2) r s S':=
 hd.mono (λk a=>a.imp id (λh=>⟨by omega,h.2⟩)) (λk a=>a.elim (λh=>hd.lt k (.inl h)) (λh=>h.2))
def KK (b:w0.heap.size<=w1.heap.size) (eu:w1.heap.size<=w2.heap.size) (hd:aC w2 (more (more F w0 w1) w1 w2) r s S'):aC w2 (more F w0 w2) r s S':=
 hd.mono (λk a=>by
  rcases a with (a|a)|a
  .exact .inl a
  .exact .inr ⟨a.1,by omega⟩
  .exact .inr ⟨by omega,a.2⟩) (λk a=>a.elim (λh=>hd.lt k (.inl (.inl h))) (λh=>h.2))
def aak (w:World) (F X:Nat->Prop) (r s k kl:Nat) (S:DS) (G:SG) (pv nv:Value) (ps:List (Nat×List Int)) (e:Ending) (w':World):Prop:=
 e= .returned (iV (G.check S s).1)/\aC w' (more F w w') r s (G.check S s).2.1/\(∃hm',iL w' (more F w w') X r s (G.check S s).2.1 k kl (G.check S s).2.2 pv ps hm' nv)/\aa (λj=>F j\/j=k\/j=kl) w w'
def iL.after (h:iL w F X r s S k kl G pv ps hm nv) (du:S.Ok s) {hm':Nat} (bw:lj w' k r kl G.y pv hm' nv) (v:hm'=if (G.check S s).1=0 then ps.length else hm) (Y0:cK w' kl r (G.check S s).2.2.L) (A2:(G.check S s).2.2.L.Ok s/\(G.check S s).2.2.L.begun=true) (i:aa (λj=>F j\/j=k\/j=kl) w w'):iL w' (more F w w') X r s (G.check S s).2.1 k kl (G.check S s).2.2 pv ps hm' nv:=by
 obtain⟨n,m,f,o,b,p,q,x,t⟩:=h.checked du;rw [<-v] at f;subst f;refine⟨by rw [b];exact bw,Y0,h.pl.aw i (λg e a=>?_) (λg c z u l a=>?_),h.xk,h.xl,λg d a=>?_,λg d=>i5 (h.lt g d) i.size,A2.1,A2.2,by rw [b];exact h.hs,by rw [b,p,q];exact h.lh,o,m,by rw [b];exact h.kb,by rw [b];exact t⟩
 .rcases a with a|a|a
  .exact h.fM g (h.pl.row g e) a
  .exact h.pl.ne e h.st (by decide) a
  .exact h.pl.ne e h.lp (by decide) a
 .rcases a with a|a|a
  .exact h.fM g u a
  .exact l.ne h.st (by decide) a
  .exact l.ne h.lp (by decide) a
 .rcases a with a|a
  .exact h.fM g d a
  .have:=h.lt g d;omega
def Al (hd:aC w F r s S) (h:iL w F X r s S k kl G pv ps hm nv) (dD:S.fL) (fB:G.L.bj S=0->S.num G.L.f<=G.L.ep*4294967296+G.L.tail) (aU:S.puts.length+4000<=4000000000000) (V9:ps.length<=4000000000000):
  Calls prog 75 #[pQ k] w λe w'=>aak w F X r s k kl S G pv nv ps e w':=by
 obtain⟨du,Ws,BO,XU,xw,jk⟩:=jE hd.ok h.lk h.lh h.hs h.lk.s h.lk.n1;have lz:=du.hi;have Eo:∀q∈G.ov,G.y.home+q.1<s/\q.2.length=512:=λq W=>by
  rw [h.ov] at W;have:=List.mem_of_mem_drop (eS W);exact⟨by have:=h.kb q this;omega,(h.pl.len q this).1⟩
 have UI:∀q∈G.ov,Bytes q.2:=λq W=>by
  rw [h.ov] at W;exact(h.pl.len q (List.mem_of_mem_drop (eS W))).2
 have Ye:G.ov.length<=2048:=by
  have uR:CM.Ok G.ov:=by rw [h.ov];exact mH _
  have D:=CM.length_le (n:=2048) uR (λq W=>by have:=(Eo q W).1;omega) 0 (λ_ _=>dV _);rcases D with D|D
  .omega
  .rw [D];simp
 obtain⟨a1,a2,a3⟩:=qw (L:=G.L) du;obtain⟨b1,b2,b3,b4,b5⟩:=eC (h0:=G.y.home) (ms:=G.ov) a1 Eo;have D:=CN hd h.lp (h.fM _ h.xl) (by omega);have hZp:=nG G.L S s;have hZb:=pU dD G.L s;have hYp:=eF (G.L.sync S s).2 s G.y.home G.ov;have hYb:=kr hZb s G.y.home UI;have ZY:=Ei h.lk (aE (G.L.sync S s).2 s G.y.home G.ov).2;have Yf:(G.L.sync S s).1=0->(aE (G.L.sync S s).2 s G.y.home G.ov).2.num G.L.f<=G.L.ep*4294967296+G.L.tail:=λhz=>by
  have hu:G.L.bj S=0:=by
   unfold LG.sync at hz;split at hz
   .rename_i q;exact absurd hz q
   .rename_i q;exact Decidable.not_not.1 q
  rw [vI (S:=S) ((b5 _ (λq W e=>by omega)).trans (a3 _ (by omega))) ((b5 _ (λq W e=>by omega)).trans (a3 _ (by omega)))];exact fB hu
 have h2:=λ(w1:World) (iN:aC w1 F r s (G.L.sync S s).2) (v:Value) (hp:PV w1 X v (ps.drop hm))=>Af (y:=G.y) iN hp h.fM XU (λx hx=>h.kb x (List.mem_of_mem_drop hx)) (by omega) (by rw [List.length_drop];omega);have h3:=λ(hz:(G.L.sync S s).1=0) (w1:World) (F1:Nat->Prop) (iN:aC w1 F1 r s (aE (G.L.sync S s).2 s G.y.home G.ov).2) (cq:cK w1 kl r G.L) (jk:¬F1 kl)=>Ov iN cq h.lk jk hYb (by omega) (λ_=>Yf hz);rw [<-h.ov] at h2;have jH:=λ(w':World) (hm':Nat)=>iL.after (w':=w') (hm':=hm') h du;obtain⟨R,I⟩:=bQ (G.check S s);unfold aak;rw [<-I] at jH⊢;unfold SG.check at I;obtain⟨vA,c1,H,mU,IX,pg,hlw,xN,ml⟩:=MQ h.bg h.st.c1 (yh h) (yh jH) h.kne h.st.lt h.lp.lt (h.fM _ h.xk) (h.fM _ h.xl);generalize G.L.sync S s=Z at*;generalize aE Z.2 s G.y.home G.ov=Y at*;generalize G.L.trim Y.2 s=V at*;obtain⟨H2,H3,E⟩:=kF h2 h3 ZY;clear h h2 h3 ZY hZb hYb dD jH fB Yf Eo UI a1 a2 a3 b1 b2 b3 b4 b5 hd;by_cases k1:Z.1=0
 .have d1:(Z.1 == 0)=true:=by rw [k1];rfl
  rw [aB (λh=>h k1)] at I;have Ow:=yh k1;clear k1;rcases H.o.pl.shape with ⟨xD,DA⟩|⟨gp,cap,xD,lg,ap6,hXg⟩
  .have h0:=H.o.hm;rw [DA] at h0;obtain rfl:hm=0:=(by simpa using h0);subst xD DA;obtain⟨HP,Er⟩:=bU (λ(w1:World) (_:aa F w w1)=>aec w1 X) I;clear I;go_in;go_wp2_with fail;refine pj D λw1 iN cq ff=>?_;have eh:=H.o.st.aw ff xN;have dC:=ff.size;have o9:=HP.o w1 ff;obtain⟨K,M,N,O,P,Q,T⟩:=nw eh.c0 eh.c2 eh.c3 eh.c4 eh.c5 eh.c6 eh.c7;have U:w1.cell? (aD k 8)=some (iV 0):=eh.c8;have hb:=H2.o w1.drew (iN.later (ai (bi _ _))) _ (o9.later (ai (bi _ _)));have CA:=yh ff;have oV:=yh eh;have Bz:=yh cq;have HB:=yh hb;clear D iN cq ff eh o9 hb;go_wp2_with fail;go_region_held3 (λw'=>w'.cell? (aD k 0)=some (pQ r)/\w'.cell? (aD k 2)=some (iV (G.y.log:Int))/\w'.cell? (aD k 3)=some (iV (G.y.home:Int))/\w'.cell? (aD k 4)=some (iV (G.y.blocks:Int))/\w'.cell? (aD k 5)=some (iV (G.y.nodes:Int))/\w'.cell? (aD k 6)=some (iV (G.y.data:Int))/\w'.cell? (aD k 7)=some (.slice none 0 0)/\w'.cell? (aD k 8)=some (iV (0:Int)))
    (first|exact⟨K,M,N,O,P,Q,T,U⟩|exact⟨bo.c0,bo.c2,bo.c3,bo.c4,bo.c5,bo.c6,bo.c7,bo.c8⟩)
      ((go_at_call 120;refine HB.o.mono ?_;rintro e m ⟨rfl,cI,aY⟩;have bo:=(oV.o.later (ai (bi _ _))).aw aY xN;have fH:=(Bz.o.later (ai (bi _ _))).aw aY ml))
   have pg:=(CA.o.trans (aa.ah F (ai (bi w1.heap.size w1))) (λ_ h=> .inl h)).trans aY (λ_ h=> .inl h);have um:=Sn dC cI;by_cases l:Y.1=0
   .have d2:(Y.1 == 0)=true:=(by rw [l];rfl);have Yg:=yh l;clear l;have jk:¬more F w m kl:=λe=>e.elim ml (λe=>by omega);have So:¬more F w m k:=λe=>e.elim xN (λe=>by omega);obtain⟨Sq,c12,xy,Sr⟩:=cO (H3.o Ow.o m (more F w m) um fH jk) bo.c1 (yh bo) (yh pg);clear cI aY bo fH pg um K M N O P Q T U;go_wp2_with fail;refine pj Sq λc i ip aZ=>?_;have ly:=aZ.size;have fK:=xy.o.aw aZ (λe=>e.elim So IX);have qi:=KK Sr.o.size ly i;have qq:=(Sr.o.mono (λ_ h=> .inl h):aa (λj=>F j\/j=k\/j=kl) w m).trans aZ (λj b=>by rcases b with (b|b)|b;exact .inl (.inl b);exact .inr b.1;exact .inl (.inr (.inr b)));by_cases d:V.1=0
    .have d3:(V.1 == 0)=true:=(by rw [d];rfl);have a:=yh Er.o;rw [aB (λh=>h Yg.o),aB (λh=>h d)] at a;have J:=yh d;clear d;have c73:=fK.c7;have c83:=fK.c8;have f83:=fK.fz 8;have ew:aa (λj=>j=k) c (c.setCell ⟨k,8,none⟩ (.int .i64 ((0:Nat):Int))):=aa.setCell (F:=λj=>j=k) c (p:=(aD k 8)) rfl _;have Ss:¬more F w c k:=λe=>e.elim xN (λe=>by omega);have C:=qi.aw ew (λj b e=>Ss (e▸b));have eE:(c.setCell ⟨k,8,none⟩ (.int .i64 ((0:Nat):Int))).heap.size=c.heap.size:=(by simp [World.setCell]);have G4:aC (c.setCell ⟨k,8,none⟩ (.int .i64 ((0:Nat):Int))) (more F w (c.setCell ⟨k,8,none⟩ (.int .i64 ((0:Nat):Int)))) r s V.2.1:=(by unfold more;rw [eE];exact C);have z:=yh (aH G4 (aH (ip.aw ew (λe=>IX e.symm)) (aH (fK.home 0) (qq.trans ew (λ_ h=> .inl (.inr (.inl h)))))));clear i aZ fK ip qq qi Sq ew C G4 eE;go_wp2;go_ret;obtain⟨t,A,u,g⟩:=z.o;exact⟨by rw [a.o];exact congrArg (λx=>Ending.returned (Value.int .i64 x)) J.o,by rw [a.o];exact t,⟨0,mU.o _ 0 u (by rw [a.o,aG rfl];rfl) (by rw [a.o];exact A) (by rw [a.o];exact⟨E.o.1,E.o.2.trans vA⟩) g⟩,g⟩
    .have d3:(V.1 == 0)=false:=(by rw [fJ];exact d);have a:=yh Er.o;rw [aB (λh=>h Yg.o),aG d] at a;have lO:=yh d;clear d;have z:=yh (aH qi (aH ip (aH fK qq)));clear i aZ fK ip qq qi Sq;go_wp2;go_ret;obtain⟨t,A,u,g⟩:=z.o;exact⟨by rw [a.o];rfl,by rw [a.o];exact t,⟨0,mU.o c 0 u (by rw [a.o,aB lO.o]) (by rw [a.o];exact A) (by rw [a.o];exact⟨E.o.1,E.o.2.trans vA⟩) g⟩,g⟩
   .have d2:(Y.1 == 0)=false:=(by rw [fJ];exact l);have a:=yh Er.o;rw [aG l] at a;have ig:=yh l;clear l;have z:=yh (aH um (aH fH (aH bo pg)));clear cI aY bo fH pg um K M N O P Q T U;go_wp2;go_ret;obtain⟨t,A,u,g⟩:=z.o;have qq:aa (λj=>F j\/j=k\/j=kl) w m:=g.mono (λ_ h=> .inl h);exact⟨by rw [a.o];rfl,by rw [a.o];exact t,⟨0,mU.o m 0 u (by rw [a.o,aB ig.o]) (by rw [a.o];exact A) (by rw [a.o];exact⟨Ws,vA⟩) qq⟩,qq⟩
  .subst xD;have B4:=H.o.hm;by_cases hce:cap=hm
   .obtain rfl:hm=cap:=hce.symm;obtain⟨HP,Er⟩:=bU (λ(w1:World) (ff:aa F w w1)=>PV.Sm (H.o.pl.pv.aw ff H.o.fM) B4 lg) I;clear I;go_in;go_wp2_with fail;refine pj D λw1 iN cq ff=>?_;have eh:=H.o.st.aw ff xN;have dC:=ff.size;have o9:=HP.o w1 ff;obtain⟨K,M,N,O,P,Q,T,U,hb,CA,oV,Bz⟩:=Fs eh.c0 eh.c2 eh.c3 eh.c4 eh.c5 eh.c6 eh.c7 eh.c8 (H2.o w1.drew (iN.later (ai (bi _ _))) _ (o9.later (ai (bi _ _)))) (yh ff) (yh eh) (yh cq);have HB:=yh hb;clear D iN cq ff eh o9 hb;go_wp2_with fail;go_region_held3 (λw'=>w'.cell? (aD k 0)=some (pQ r)/\w'.cell? (aD k 2)=some (iV (G.y.log:Int))/\w'.cell? (aD k 3)=some (iV (G.y.home:Int))/\w'.cell? (aD k 4)=some (iV (G.y.blocks:Int))/\w'.cell? (aD k 5)=some (iV (G.y.nodes:Int))/\w'.cell? (aD k 6)=some (iV (G.y.data:Int))/\w'.cell? (aD k 7)=some (.slice (some (aD gp 0)) ps.length hm)/\w'.cell? (aD k 8)=some (iV (hm:Int)))
     (first|exact⟨K,M,N,O,P,Q,T,U⟩|exact⟨bo.c0,bo.c2,bo.c3,bo.c4,bo.c5,bo.c6,bo.c7,bo.c8⟩)
       ((go_at_call 120;refine HB.o.mono ?_;rintro e m ⟨rfl,cI,aY⟩;have bo:=(oV.o.later (ai (bi _ _))).aw aY xN;have fH:=(Bz.o.later (ai (bi _ _))).aw aY ml))
    have pg:=(CA.o.trans (aa.ah F (ai (bi w1.heap.size w1))) (λ_ h=> .inl h)).trans aY (λ_ h=> .inl h);have um:=Sn dC cI;by_cases l:Y.1=0
    .have d2:(Y.1 == 0)=true:=(by rw [l];rfl);have Yg:=yh l;clear l;have jk:¬more F w m kl:=λe=>e.elim ml (λe=>by omega);have So:¬more F w m k:=λe=>e.elim xN (λe=>by omega);obtain⟨Sq,c12,xy,Sr⟩:=cO (H3.o Ow.o m (more F w m) um fH jk) bo.c1 (yh bo) (yh pg);clear cI aY bo fH pg um K M N O P Q T U;go_wp2_with fail;refine pj Sq λc i ip aZ=>?_;have ly:=aZ.size;have fK:=xy.o.aw aZ (λe=>e.elim So IX);have qi:=KK Sr.o.size ly i;have qq:=(Sr.o.mono (λ_ h=> .inl h):aa (λj=>F j\/j=k\/j=kl) w m).trans aZ (λj b=>by rcases b with (b|b)|b;exact .inl (.inl b);exact .inr b.1;exact .inl (.inr (.inr b)));by_cases d:V.1=0
     .have d3:(V.1 == 0)=true:=(by rw [d];rfl);have a:=yh Er.o;rw [aB (λh=>h Yg.o),aB (λh=>h d)] at a;have J:=yh d;clear d;have c73:=fK.c7;have c83:=fK.c8;have f83:=fK.fz 8;have ew:aa (λj=>j=k) c (c.setCell ⟨k,8,none⟩ (.int .i64 (ps.length:Int))):=aa.setCell (F:=λj=>j=k) c (p:=(aD k 8)) rfl _;have Ss:¬more F w c k:=λe=>e.elim xN (λe=>by omega);have C:=qi.aw ew (λj b e=>Ss (e▸b));have eE:(c.setCell ⟨k,8,none⟩ (.int .i64 (ps.length:Int))).heap.size=c.heap.size:=(by simp [World.setCell]);have G4:aC (c.setCell ⟨k,8,none⟩ (.int .i64 (ps.length:Int))) (more F w (c.setCell ⟨k,8,none⟩ (.int .i64 (ps.length:Int)))) r s V.2.1:=(by unfold more;rw [eE];exact C);have z:=yh (aH G4 (aH (ip.aw ew (λe=>IX e.symm)) (aH (fK.home ps.length) (qq.trans ew (λ_ h=> .inl (.inr (.inl h)))))));clear i aZ fK ip qq qi Sq ew C G4 eE;go_wp2;go_ret;obtain⟨t,A,u,g⟩:=z.o;exact⟨by rw [a.o];exact congrArg (λx=>Ending.returned (Value.int .i64 x)) J.o,by rw [a.o];exact t,⟨ps.length,mU.o _ ps.length u (by rw [a.o,aG rfl]) (by rw [a.o];exact A) (by rw [a.o];exact⟨E.o.1,E.o.2.trans vA⟩) g⟩,g⟩
     .have d3:(V.1 == 0)=false:=(by rw [fJ];exact d);have a:=yh Er.o;rw [aB (λh=>h Yg.o),aG d] at a;have lO:=yh d;clear d;have z:=yh (aH qi (aH ip (aH fK qq)));clear i aZ fK ip qq qi Sq;go_wp2;go_ret;obtain⟨t,A,u,g⟩:=z.o;exact⟨by rw [a.o];rfl,by rw [a.o];exact t,⟨hm,mU.o c hm u (by rw [a.o,aB lO.o]) (by rw [a.o];exact A) (by rw [a.o];exact⟨E.o.1,E.o.2.trans vA⟩) g⟩,g⟩
    .have d2:(Y.1 == 0)=false:=(by rw [fJ];exact l);have a:=yh Er.o;rw [aG l] at a;have ig:=yh l;clear l;have z:=yh (aH um (aH fH (aH bo pg)));clear cI aY bo fH pg um K M N O P Q T U;go_wp2;go_ret;obtain⟨t,A,u,g⟩:=z.o;have qq:aa (λj=>F j\/j=k\/j=kl) w m:=g.mono (λ_ h=> .inl h);exact⟨by rw [a.o];rfl,by rw [a.o];exact t,⟨hm,mU.o m hm u (by rw [a.o,aB ig.o]) (by rw [a.o];exact A) (by rw [a.o];exact⟨Ws,vA⟩) qq⟩,qq⟩
   .obtain⟨HP,Er⟩:=bU (λ(w1:World) (ff:aa F w w1)=>PV.Sl (H.o.pl.pv.aw ff H.o.fM) B4 lg hce) I;clear I;go_in;go_wp2_with fail;refine pj D λw1 iN cq ff=>?_;have eh:=H.o.st.aw ff xN;have dC:=ff.size;have o9:=HP.o w1 ff;obtain⟨K,M,N,O,P,Q,T,U,hb,CA,oV,Bz⟩:=Fs eh.c0 eh.c2 eh.c3 eh.c4 eh.c5 eh.c6 eh.c7 eh.c8 (H2.o w1.drew (iN.later (ai (bi _ _))) _ (o9.later (ai (bi _ _)))) (yh ff) (yh eh) (yh cq);have HB:=yh hb;clear D iN cq ff eh o9 hb;go_wp2_with fail;go_region_held3 (λw'=>w'.cell? (aD k 0)=some (pQ r)/\w'.cell? (aD k 2)=some (iV (G.y.log:Int))/\w'.cell? (aD k 3)=some (iV (G.y.home:Int))/\w'.cell? (aD k 4)=some (iV (G.y.blocks:Int))/\w'.cell? (aD k 5)=some (iV (G.y.nodes:Int))/\w'.cell? (aD k 6)=some (iV (G.y.data:Int))/\w'.cell? (aD k 7)=some (.slice (some (aD gp 0)) ps.length cap)/\w'.cell? (aD k 8)=some (iV (hm:Int)))
     (first|exact⟨K,M,N,O,P,Q,T,U⟩|exact⟨bo.c0,bo.c2,bo.c3,bo.c4,bo.c5,bo.c6,bo.c7,bo.c8⟩)
       ((go_at_call 120;refine HB.o.mono ?_;rintro e m ⟨rfl,cI,aY⟩;have bo:=(oV.o.later (ai (bi _ _))).aw aY xN;have fH:=(Bz.o.later (ai (bi _ _))).aw aY ml))
    have pg:=(CA.o.trans (aa.ah F (ai (bi w1.heap.size w1))) (λ_ h=> .inl h)).trans aY (λ_ h=> .inl h);have um:=Sn dC cI;by_cases l:Y.1=0
    .have d2:(Y.1 == 0)=true:=(by rw [l];rfl);have Yg:=yh l;clear l;have jk:¬more F w m kl:=λe=>e.elim ml (λe=>by omega);have So:¬more F w m k:=λe=>e.elim xN (λe=>by omega);obtain⟨Sq,c12,xy,Sr⟩:=cO (H3.o Ow.o m (more F w m) um fH jk) bo.c1 (yh bo) (yh pg);clear cI aY bo fH pg um K M N O P Q T U;go_wp2_with fail;refine pj Sq λc i ip aZ=>?_;have ly:=aZ.size;have fK:=xy.o.aw aZ (λe=>e.elim So IX);have qi:=KK Sr.o.size ly i;have qq:=(Sr.o.mono (λ_ h=> .inl h):aa (λj=>F j\/j=k\/j=kl) w m).trans aZ (λj b=>by rcases b with (b|b)|b;exact .inl (.inl b);exact .inr b.1;exact .inl (.inr (.inr b)));by_cases d:V.1=0
     .have d3:(V.1 == 0)=true:=(by rw [d];rfl);have a:=yh Er.o;rw [aB (λh=>h Yg.o),aB (λh=>h d)] at a;have J:=yh d;clear d;have c73:=fK.c7;have c83:=fK.c8;have f83:=fK.fz 8;have ew:aa (λj=>j=k) c (c.setCell ⟨k,8,none⟩ (.int .i64 (ps.length:Int))):=aa.setCell (F:=λj=>j=k) c (p:=(aD k 8)) rfl _;have Ss:¬more F w c k:=λe=>e.elim xN (λe=>by omega);have C:=qi.aw ew (λj b e=>Ss (e▸b));have eE:(c.setCell ⟨k,8,none⟩ (.int .i64 (ps.length:Int))).heap.size=c.heap.size:=(by simp [World.setCell]);have G4:aC (c.setCell ⟨k,8,none⟩ (.int .i64 (ps.length:Int))) (more F w (c.setCell ⟨k,8,none⟩ (.int .i64 (ps.length:Int)))) r s V.2.1:=(by unfold more;rw [eE];exact C);have z:=yh (aH G4 (aH (ip.aw ew (λe=>IX e.symm)) (aH (fK.home ps.length) (qq.trans ew (λ_ h=> .inl (.inr (.inl h)))))));clear i aZ fK ip qq qi Sq ew C G4 eE;go_wp2;go_ret;obtain⟨t,A,u,g⟩:=z.o;exact⟨by rw [a.o];exact congrArg (λx=>Ending.returned (Value.int .i64 x)) J.o,by rw [a.o];exact t,⟨ps.length,mU.o _ ps.length u (by rw [a.o,aG rfl]) (by rw [a.o];exact A) (by rw [a.o];exact⟨E.o.1,E.o.2.trans vA⟩) g⟩,g⟩
     .have d3:(V.1 == 0)=false:=(by rw [fJ];exact d);have a:=yh Er.o;rw [aB (λh=>h Yg.o),aG d] at a;have lO:=yh d;clear d;have z:=yh (aH qi (aH ip (aH fK qq)));clear i aZ fK ip qq qi Sq;go_wp2;go_ret;obtain⟨t,A,u,g⟩:=z.o;exact⟨by rw [a.o];rfl,by rw [a.o];exact t,⟨hm,mU.o c hm u (by rw [a.o,aB lO.o]) (by rw [a.o];exact A) (by rw [a.o];exact⟨E.o.1,E.o.2.trans vA⟩) g⟩,g⟩
    .have d2:(Y.1 == 0)=false:=(by rw [fJ];exact l);have a:=yh Er.o;rw [aG l] at a;have ig:=yh l;clear l;have z:=yh (aH um (aH fH (aH bo pg)));clear cI aY bo fH pg um K M N O P Q T U;go_wp2;go_ret;obtain⟨t,A,u,g⟩:=z.o;have qq:aa (λj=>F j\/j=k\/j=kl) w m:=g.mono (λ_ h=> .inl h);exact⟨by rw [a.o];rfl,by rw [a.o];exact t,⟨hm,mU.o m hm u (by rw [a.o,aB ig.o]) (by rw [a.o];exact A) (by rw [a.o];exact⟨Ws,vA⟩) qq⟩,qq⟩
 .have d1:(Z.1 == 0)=false:=by rw [fJ];exact k1
  rw [aG k1] at I;obtain⟨a,CA⟩:=bU I k1;clear k1 I;go_in;go_wp2_with fail;refine pj D λw1 iN cq ff=>?_;have z:=yh (aH iN (aH cq ff));clear D iN cq ff;go_wp2;go_ret;obtain⟨t,A,u⟩:=z.o;have aY:aa (λj=>F j\/j=k\/j=kl) w w1:=u.mono (λ_ h=> .inl h);refine⟨by rw [a.o];rfl,by rw [a.o];exact t.mono (λ_ h=> .inl h) (λj b=>by rcases b with b|b;exact t.lt j b;exact b.2),⟨hm,mU.o w1 hm (H.o.st.aw u xN) (by rw [a.o,aB CA.o]) (by rw [a.o];exact A) (by rw [a.o];exact⟨Ws,vA⟩) aY⟩,aY⟩
end
end
section
def uo (m n:Nat) (w:World) (j:m<=9223372036854775807) (o:n<=8):
  Calls prog 138 #[iV (m:Int),iV (n:Int)] w λe w'=>∃v,e= .returned v/\Own w' w.heap.size v (bB n m)/\bW w w':=by
 go_in;go_wp2;go_loopw [0,5,6] (λx v i wr=>∃k:Nat,k<=n/\x=iV ((m / 2 ^ (8*k):Nat):Int)/\i=iV (k:Int)/\Own wr w.heap.size v (bB k m)/\bW w wr) (λ_ _ i _=>n-(intOf i).toNat);case atStart=>exact⟨0,dV _,by simp,rfl,Own.nil _ _,bi _ _⟩
 case round=>
  obtain⟨k,l,rfl,rfl,aA,ev⟩:=hrel;obtain⟨bt,a,p,f⟩:=cO aA ev ev.size (aK k m);clear aA ev;by_cases bq:k<n
  .have cC:(k:Int)<(n:Int):=(by omega);have g:m / 2 ^ (8*k)<=9223372036854775807:=j3 (Nat.div_le_self _ _) j;have c:m / 2 ^ (8*(k+1))=m / 2 ^ (8*k) / 256:=(by rw [Nat.div_div_eq_div_mul,Nat.mul_succ,Nat.pow_add]);have Ja:=c;have Pz:=i7 k m;clear c;obtain⟨Q,d⟩:=bQ (m / 2 ^ (8*k));rw [<-d] at g Ja Pz⊢;clear d;have q:(Q:Int).tmod 256=((Q%256:Nat):Int):=(by rw [Int.tmod_eq_emod_of_nonneg (by omega)];omega);have r:(Q:Int).tdiv 256=((Q / 256:Nat):Int):=(by rw [Int.tdiv_eq_ediv_of_nonneg (by omega)];omega);go_wp2_with (at_builtin;refine co rfl _ _ rfl w.heap.size u5 (bB k m) _ rfl rfl bt ?b1 ?b2 ?_);case b1=>omega
   case b2=>omega
   intro s w1 tG ar;have b:=(aH tG (a.trans ar));clear tG ar;go_wp2;go_roundw;case rel=>exact⟨k+1,by omega,by rw [Ja];first|rfl|simp,by go_num,by rw [Pz];exact b.1,b.2⟩
   case measure=>simp [intOf];omega
  .obtain rfl:k=n:=(by omega);have wj:¬(k:Int)<(k:Int):=(by omega);go_wp2;go_ret;exact⟨_,rfl,bt,a⟩
section
variable {w w' w1 w2:World} {F F' X X' Y Z:Nat->Prop} {r s k kl t hm:Nat} {S:DS} {G:SG} {T:TG} {L:LG} {v u pv pv' nv tv:Value} {ps qs us:List (Nat×List Int)} {xs ys:List Value}
def PL.one (h:PL w X v ps xs):∀x∈xs,x.oneCell'=true:=λx e=>by
 have IV:=h.own.1;obtain⟨j,d,rfl⟩:=List.mem_iff_getElem.1 e;obtain⟨g,c,a,b,_⟩:=h.put (j / 2) (by omega);by_cases q:j%2=0
 .have:2*(j / 2)=j:=by omega
  rw [this,List.getElem?_eq_getElem d] at a;rw [Option.some.inj a];rfl
 .have:2*(j / 2)+1=j:=by omega
  rw [this,List.getElem?_eq_getElem d] at b;rw [Option.some.inj b];rfl
def PL.cat (h:PL w X v ps xs) (p:PL w Y u qs ys) {cz:Nat} (aA:w2.ownsRow 0 166 2 (.slice (some (aD g2 0)) (ps.length+qs.length) cz) (ps.length+qs.length) (xs ++ ys)) (aR:w.grownBy w2 v.ownBlock) (r:∀j,X j->Z j) (s:∀i (_:i<qs.length) g c,ys[2*i+1]? =some (.slice (some (aD g 0)) 512 c)->Z g) (t:Z g2):
  PL w2 Z (.slice (some (aD g2 0)) (ps.length+qs.length) cz) (ps ++ qs) (xs ++ ys)/\aa (λj=>v.ownBlock=some j) w w2:=by
 have b:=λj a n=>aR.block j a n;have Mn:∀j c ys,ay w 5 j c ys->ay w2 5 j c ys:=λj c ys a=>by
  have AZ:=a;obtain⟨cur,gW,_⟩:=AZ;exact a.agree (b j a.lt (λe=>dS h.own e.symm gW (by decide) rfl))
 have IV:=h.own.1;refine⟨⟨by rw [ed];exact aA,λj a=>?_,λi x=>?_,λq d=>?_⟩,⟨aR.os,aR.tape,aR.output,aR.size,λj a n=>b j a (λe=>n e.symm)⟩⟩
 .have e:j=g2:=by simpa [Value.ownBlock] using a.symm
  rw [e];exact t
 .by_cases ny:i<ps.length
  .obtain⟨k,c',l,f,o,m⟩:=h.put i ny;refine⟨k,c',?_,?_,r _ o,?_⟩
   .rw [List.getElem?_append_left (by omega),l,List.getElem_append_left ny]
   .rw [List.getElem?_append_left (by omega),f]
   .rw [List.getElem_append_left ny];exact Mn _ _ _ m
  .have Fd:i-ps.length<qs.length:=(by rw [ed] at x;omega);obtain⟨k,c',l,f,o,m⟩:=p.put (i-ps.length) Fd;refine⟨k,c',?_,?_,s _ Fd k c' f,?_⟩
   .rw [List.getElem?_append_right (by omega),show 2*i-xs.length=2*(i-ps.length) by omega,l,List.getElem_append_right (by omega)]
   .rw [List.getElem?_append_right (by omega),show 2*i+1-xs.length=2*(i-ps.length)+1 by omega,f]
   .rw [List.getElem_append_right (by omega)];exact Mn _ _ _ m
 .rcases List.mem_append.1 d with d|d
  .exact h.len q d
  .exact p.len q d
def Oy (L:LG) (S:DS) (s:Nat) (d:List Int):(L.append S s d).2.2.f=L.f/\(L.append S s d).2.2.n=L.n:=by
 unfold LG.append;split
 .exact⟨rfl,rfl⟩
 .split <;> exact⟨rfl,rfl⟩
def iL.St (h:iL w F X r s S k kl G pv ps hm nv) (du:S.Ok s) (d:List Int) {ns:CM} (xN:∀x∈ns,x.1<G.y.blocks) (bw:lj w' k r kl G.y pv' hm nv) (Y0:cK w' kl r (G.L.append S s d).2.2) (py:Pl w' X' pv' (ps ++ ns)) (e:∀g,X g->X' g) (aal:∀g,X' g->¬F' g) (bq:∀g,X' g->g<w'.heap.size) (b:Bool):
  iL w' F' X' r s (G.L.append S s d).2.1 k kl {G with L:=(G.L.append S s d).2.2,ov:=CM.bT G.ov ns,busy:=b} pv' (ps ++ ns) hm nv:=by
 obtain⟨A2,j,o,v,p,q⟩:=jE (vB h.lk S d) (Oy G.L S s d) h.lk.s h.lk.n1 h.lh h.hs;have lQ:=Ak du (by omega:1<=G.L.n) o d;have uR:CM.Ok G.ov:=by rw [h.ov];exact mH _
 refine⟨bw,Y0,py,e _ h.xk,e _ h.xl,aal,bq,A2.1,A2.2.trans h.bg,q,?_,?_,?_,λx a=>?_,λhd b t u c i=>?_⟩
 .show (G.L.append S s d).2.2.f+2+(G.L.append S s d).2.2.n<=G.y.home;rw [j.1,j.2];exact p
 .show CM.bT G.ov ns=_;rw [List.drop_append_of_le_length h.hm,p8,<-h.ov]
 .rw [ed];have:=h.hm;omega
 .rcases List.mem_append.1 a with a|a
  .exact h.kb x a
  .exact xN x a
 .have yD:=Ox d hd;have Rt:CM.get (CM.bT G.ov ns) b=none:=u;rw [CG b uR] at Rt;obtain⟨l,m⟩:=Option.or_eq_none_iff.1 Rt;rw [l8,l] at i;show (G.L.append S s d).2.1.now (G.y.home+b)=c;rw [lQ.2 _ (by omega)];exact h.un yD b t m c i
def iL.busy (h:iL w F X r s S k kl G pv ps hm nv) (b:Bool):iL w F X r s S k kl {G with busy:=b} pv ps hm nv:=⟨h.st,h.lp,h.pl,h.xk,h.xl,h.fM,h.lt,h.lk,h.bg,h.hs,h.lh,h.ov,h.hm,h.kb,h.un⟩
end
end
section
def KL (T:TG) (G:SG) (S:DS) (b:Nat):CM:=(below T.puts b).filter λx=> !decide (x.2=G.block S x.1)
section
variable {T:TG} {G:SG} {S:DS} {b:Nat} {l:List Int}
def Su:KL T G S 0= []:=by unfold KL;rw [sG];rfl
def Sv (a:CM.Ok T.puts) (h:CM.get T.puts b=none):KL T G S (b+1)=KL T G S b:=by unfold KL;rw [sE a h]
def Sw (c:CM.Ok T.puts) (h:CM.get T.puts b=some l) (a:l=G.block S b):KL T G S (b+1)=KL T G S b:=by
 unfold KL;rw [sF c h,List.filter_append];simp [a]
def Wt (c:CM.Ok T.puts) (h:CM.get T.puts b=some l) (a:¬l=G.block S b):KL T G S (b+1)=KL T G S b ++ [(b,l)]:=by
 unfold KL;rw [sF c h,List.filter_append];simp [a]
def Wu (h:∀q∈T.puts,q.1<n):KL T G S n=T.news G S:=by unfold KL TG.news;rw [CH h]
def Wv:(KL T G S b).length<=T.puts.length:=j3 (List.length_filter_le _ _) (List.length_filter_le _ _)
def Dn {β:Type} (f:α->List β) (ns:List α) (a:i<ns.length):(ns.take (i+1)).flatMap f=(ns.take i).flatMap f ++ f ns[i]:=by
 rw [List.take_add_one,List.getElem?_eq_getElem a,List.flatMap_append];congr 1;simp
end
def Own.lo {w:World} {B:Nat} {l:List Int} (h:Own w B v l) (a:v.ownBlock=some g):B<=g/\∃cur,w.heap[g]? =some (.cells cur 5 (0,0)):=by
 obtain⟨_,⟨rfl,_⟩|⟨e,b,cur,rfl,d,c,_⟩⟩:=h
 .simp [Value.ownBlock] at a
 .simp [Value.ownBlock] at a;subst a;exact⟨d,cur,c⟩
def Pn.beside {w w':World} {X:Nat->Prop} {B:Nat} {u:Value} {ps:List (Nat×List Int)} {l:List Int} (h:Pn w X B v ps) (f:Own w B u l) (i:∀g,X g->g<B) (k:aa (λj=>u.ownBlock=some j) w w'):Pn w' X B v ps:=by
 refine h.aw k (λg e b=>?_) (λg c n a m b=>?_)
 .obtain⟨_,cur,d⟩:=f.lo b;exact h.pl.ne e d (by decide) rfl
 .rcases a with a|a
  .have:=(f.lo b).1;have:=i g a;omega
  .obtain⟨_,cur,d⟩:=f.lo b;exact h.pl.ne a d (by decide) rfl
def Own.aw {w w':World} {B:Nat} {l:List Int} {Z:Nat->Prop} (h:Own w B v l) (a:aa Z w w') (b:∀g,v.ownBlock=some g->¬Z g):Own w' B v l:=
 aF h (λg e=>a.block g (qf h e) (b g e))
def G6 {B:Nat} {i:List Int} (aA:Own W B v i) (c:Nat) (r:Src W a n d) (hd:0<n) (f:i.length+n<=1000000) (o:B<=W.heap.size):
  ∃v' w',(Builtin.append_ #[22,22] 22 #[v, .slice a n c]).run prog W= .ok v' w'/\Own w' B v' (i ++ d)/\aa (λj=>v.ownBlock=some j) W w':=by
 obtain⟨g,l,w',m,k,b,_⟩:=qT aA c r hd f o;refine⟨_,w',m,?_,⟨b.os,b.tape,b.output,b.size,λj p q=>b.block j p (λe=>q e.symm)⟩⟩;rw [<-iQ] at k;have e:i.length+d.length=(i ++ d).length:=by simp
 unfold Own;rw [e] at k⊢;exact k
def il (w:World) (F X:Nat->Prop) (r s k kl t:Nat) (pv tv nv:Value) (ps us:List (Nat×List Int)) (R:Int×DS×SG×TG) (e:Ending) (w':World):Prop:=
 ∃(F' X':Nat->Prop) (pv':Value) (ps':List (Nat×List Int)) (hm':Nat),e= .returned (iV R.1)/\(∀j,F' j->more F w w' j)/\(∀j,X' j->more X w w' j)/\(∀j,X j->X' j)/\aC w' F' r s R.2.1/\iL w' F' X' r s R.2.1 k kl R.2.2.1 pv' ps' hm' nv/\nY w' X' k t R.2.2.1 R.2.2.2 tv us/\(ps'.length<=ps.length+us.length/\(R.2.2.2.ended=false->ps'=ps))/\(pv'.ownBlock=pv.ownBlock\/∀g,pv'.ownBlock=some g->w.heap.size<=g)/\aa (λj=>F j\/j=k\/j=kl\/j=t\/pv.ownBlock=some j) w w'
section
variable {w w' w5 w6 w7:World} {F F5 X:Nat->Prop} {r s k kl t hm xV g2 cz:Nat} {S S5:DS} {G G5:SG} {T:TG} {pv nv tv lv:Value} {ps us:List (Nat×List Int)} {ns:CM} {xs ys:List Value}
def nY.asked (h:iL w F X r s S k kl G pv ps hm nv) (b:nY w X k t G T tv us) (l:aa (λj=>F j\/j=k\/j=kl) w w'):nY w' X k t G T tv us:=by
 refine⟨b.tx.aw l (λa=>?_),b.xt,b.pl.aw l (λg e a=>?_) (λg c o n m a=>?_),b.nd,b.pu,b.kb,b.Eg⟩
 .obtain⟨d,f,i⟩:=kE b.tx h.st h.lp;unfold ni at d;unfold lj at f;unfold cK at i;rcases a with a|a|a
  .exact h.fM t b.xt a
  .rw [a,f] at d;simp at d
  .rw [a,i] at d;simp at d
 .rcases a with a|a|a
  .exact h.fM g (b.pl.row g e) a
  .exact b.pl.ne e h.st (by decide) a
  .exact b.pl.ne e h.lp (by decide) a
 .rcases a with a|a|a
  .exact h.fM g n a
  .exact m.ne h.st (by decide) a
  .exact m.ne h.lp (by decide) a
def Pn.asked {B:Nat} (h:iL w F X r s S k kl G pv ps hm nv) (f:∀j,F j->j<B) (m:k<B/\kl<B) (d:Pn w X B lv ns) (l:aa (λj=>F j\/j=k\/j=kl) w w'):Pn w' X B lv ns:=by
 refine d.aw l (λg e a=>?_) (λg c n b i a=>?_)
 .have:=d.lo g e;rcases a with a|a|a
  .have:=f g a;omega
  .omega
  .omega
 .rcases b with b|b
  .rcases a with a|a|a
   .exact h.fM g b a
   .exact i.ne h.st (by decide) a
   .exact i.ne h.lp (by decide) a
  .have:=d.lo g b;rcases a with a|a|a
   .have:=f g a;omega
   .omega
   .omega
def il.fail (h:iL w F X r s S k kl G pv ps hm nv) (g:nY w X k t G T tv us) (c:T.ended=false) (f:∀j,F5 j->more F w w' j) (hd:aC w' F5 r s S5) (e:iL w' F5 X r s S5 k kl G5 pv ps xV nv) (i:G5.y=G.y) (d:aa (λj=>F j\/j=k\/j=kl) w w') (x:Int):il w F X r s k kl t pv tv nv ps us (x,S5,G5,T) (.returned (iV x)) w':=by
 have a:=nY.asked h g d;exact⟨F5,X,pv,ps,xV,rfl,f,λ_ h=> .inl h,λ_ h=>h,hd,e,⟨a.tx,a.xt,a.pl,a.nd,a.pu,by rw [i];exact a.kb,a.Eg⟩,⟨by omega,λ_=>rfl⟩, .inl rfl,d.mono (λj b=>by rcases b with b|b|b;exact .inl b;exact .inr (.inl b);exact .inr (.inr (.inl b)))⟩
def il.done (h:iL w F X r s S k kl G pv ps hm nv) (v:nY w X k t G T tv us) (I8:∀g,pv.ownBlock=some g->tv.ownBlock≠some g)
    (n:iL w5 F5 X r s S5 k kl G5 pv ps xV nv) (I:G5.y=G.y) (aan:S5.Ok s) (qh:∀j,F5 j->more F w w5 j) (dX:aa (λj=>F j\/j=k\/j=kl) w w5) (d:List Int)
    (pE:aC w6 (more F5 w5 w6) r s (G5.L.append S5 s d).2.1) (MD:cK w6 kl r (G5.L.append S5 s d).2.2) (jD:aa (λj=>F5 j\/j=kl) w5 w6)
    (oC:PL w6 X pv ps xs) (Ww:PL w6 (λj=>X j\/lv.ownBlock=some j) lv ns ys) (D:∀i (_:i<ns.length) g c,ys[2*i+1]? =some (.slice (some (aD g 0)) 512 c)->X g) (xN:∀x∈ns,x.1<G.y.blocks) (ml:ns.length<=us.length)
    (aA:w7.ownsRow 0 166 2 (.slice (some (aD g2 0)) (ps.length+ns.length) cz) (ps.length+ns.length) (xs ++ ys)) (aR:w6.grownBy w7 pv.ownBlock) (is:pv.ownBlock=some g2\/g2=w6.heap.size):
  w7.heap[k]? =w6.heap[k]?/\w7.heap[t]? =w6.heap[t]?/\w6.heap[t]? =w.heap[t]?/\lj w6 k r kl G5.y pv xV nv/\k≠t/\
  il w F X r s k kl t pv tv nv ps us (0,(G5.L.append S5 s d).2.1,{G5 with L:=(G5.L.append S5 s d).2.2,ov:=CM.bT G5.ov ns,busy:=false},T.close) (.returned (iV 0)) ((w7.setCell ⟨k,7,none⟩ (.slice (some ⟨g2,0,none⟩) (ps.length+ns.length) cz)).setCell ⟨t,2,none⟩ (.bool true)):=by
 obtain⟨l,pL,Ru,KM⟩:=cO (nY.asked h v dX) dX.size jD.size (n.st.aw jD (λe=>e.elim (n.fM _ n.xk) n.kne));have G7:nY w6 X k t G5 T tv us:=by
  have:=nY.asked (G:=G5) n ⟨l.tx,l.xt,l.pl,l.nd,l.pu,by rw [I];exact l.kb,l.Eg⟩ (w':=w6) (jD.mono (λj a=>by rcases a with a|a;exact .inl a;exact .inr (.inr a)));exact this
 have I4:k≠t:=λe=>by
  have b:=v.tx;have u:=h.st;unfold ni at b;unfold lj at u;rw [<-e,u] at b;simp at b
 have ajg:kl≠t:=λe=>by
  have b:=v.tx;have u:=h.lp;unfold ni at b;unfold cK at u;rw [<-e,u] at b;simp at b
 have QF:w6.heap[t]? =w.heap[t]? :=by
  have E:=G7.tx;have H:=v.tx;unfold ni at E H;rw [E,H]
 obtain⟨A,gO⟩:=oC.cat Ww (Z:=λj=>X j\/(Value.slice (some (aD g2 0)) (ps.length+ns.length) cz).ownBlock=some j) aA aR (λ_ h=> .inl h) (λi K g c e=> .inl (D i K g c e)) (.inr rfl);have N:=gO.size;have Rn:=qf aA (g:=g2) rfl;have G8:Pl w6 X pv ps:=⟨xs,oC⟩;have xG:=KM.aw gO (λe=>G8.ne e KM (by decide) rfl);have Es:=G7.tx.aw gO (λe=>G8.ne e G7.tx (by decide) rfl);have C3:=MD.aw gO (λe=>G8.ne e MD (by decide) rfl);have o:∀g,X g->¬more F5 w5 w6 g:=λg f m=>by
  rcases m with m|m
  .exact n.fM g f m
  .have:=n.lt g f;omega
 have nL:=pE.aw gO (λj a e=>o j (oC.row j e) a);generalize J:(Value.slice (some (aD g2 0)) (ps.length+ns.length) cz)=V at*;have q:V.ownBlock=some g2:=by rw [<-J];rfl
 have jV:=aa.setCell (F:=λj=>j=k) w7 (p:=(aD k 7)) rfl V;have Wx:lj (w7.setCell ⟨k,7,none⟩ V) k r kl G5.y V xV nv:=(heap_setCell_same _ _ 7 _ _ _ xG).trans (by simp);have aaq:=Es.aw jV (λe=>I4 e.symm);have C:Pl (w7.setCell ⟨k,7,none⟩ V) _ V (ps ++ ns):=Pl.other ⟨_,A⟩ xG (by decide) (by decide) jV;have C4:=C3.aw jV (λe=>n.kne e.symm);have oM:=nL.aw jV (λj a e=>o j (e▸n.xk) a);have ajh:=(G7.pl.aw gO (λg e m=>I8 g m e) (λg c ys _ M m=>G8.ne m (Classical.choose_spec (M.imp (λcur h=>h.1))) (by decide) rfl)).other xG (by decide) (by decide) jV;have A6:=aa.setCell (F:=λj=>j=t) (w7.setCell ⟨k,7,none⟩ V) (p:=(aD t 2)) rfl (.bool true);have ap9:(w7.setCell ⟨k,7,none⟩ V).heap.size=w7.heap.size:=by simp [World.setCell]
 have Wy:((w7.setCell ⟨k,7,none⟩ V).setCell ⟨t,2,none⟩ (.bool true)).heap.size=w7.heap.size:=by simp [World.setCell]
 have z:=oM.aw A6 (λj a e=>o j (e▸G7.xt) a);refine⟨gO.block k KM.lt (λe=>G8.ne e KM (by decide) rfl),gO.block t G7.tx.lt (λe=>G8.ne e G7.tx (by decide) rfl),QF,KM,I4,more F5 w5 w6,(λj=>X j\/V.ownBlock=some j),V,ps ++ ns,xV,rfl,λj a=>?_,λj a=>?_,λ_ h=> .inl h,z,iL.St n aan d (by rw [I];exact xN) (Wx.aw A6 I4) (C4.aw A6 ajg) (C.other aaq (by decide) (by decide) A6) (λ_ h=> .inl h) (λg f m=>?_) (λg f=>?_) false,⟨aaq.end_, .inl G7.xt,(ajh.other aaq (by decide) (by decide) A6).mono (λ_ h=> .inl h),G7.nd,λh=>(by cases h),G7.kb,G7.Eg⟩,⟨by rw [ed];omega,λh=>(by cases h)⟩,?_,?_⟩
 .rcases a with a|a
  .rcases qh j a with a|a
   .exact .inl a
   .exact .inr ⟨a.1,by rw [Wy];omega⟩
  .exact .inr ⟨by omega,by rw [Wy];omega⟩
 .rcases a with a|a
  .exact .inl a
  .rw [q] at a;cases a;rcases is with b|b
   .exact .inl (oC.row _ b)
   .exact .inr ⟨by omega,by rw [Wy];exact Rn⟩
 .rcases f with f|f
  .exact o g f m
  .rw [q] at f;cases f;rcases is with b|b
   .exact o _ (oC.row _ b) m
   .have:=pE.lt _ m;omega
 .rw [Wy];rcases f with f|f
  .have:=n.lt g f;omega
  .rw [q] at f;cases f;exact Rn
 .rw [q];rcases is with b|b
  .exact .inl b.symm
  .exact .inr (λg e=>by cases e;omega)
 .refine((((dX.mono (λj a=>?_):aa (λj=>F j\/j=k\/j=kl\/j=t\/pv.ownBlock=some j) w w5).trans jD (λj a=>?_)).trans gO (λj a=> .inl (.inr (.inr (.inr (.inr a)))))).trans jV (λj a=> .inl (.inr (.inl a)))).trans A6 (λj a=> .inl (.inr (.inr (.inr (.inl a)))))
  .rcases a with a|a|a
   .exact .inl a
   .exact .inr (.inl a)
   .exact .inr (.inr (.inl a))
  .rcases a with a|a
   .rcases qh j a with a|a
    .exact .inl (.inl a)
    .exact .inr a.1
   .exact .inl (.inr (.inr (.inl a)))
end
end
section
def Et {G:SG} {S:DS} {s:Nat} (b:(G.L.room S).2=0) (a:G.roomy S (cu c).length=true):G.bI S s c=if (G.L.append S s (cu c)).1≠0 then ((G.L.append S s (cu c)).1,(G.L.append S s (cu c)).2.1,{G with L:=(G.L.append S s (cu c)).2.2}) else (0,(G.L.append S s (cu c)).2.1,{G with L:=(G.L.append S s (cu c)).2.2,ov:=CM.bT G.ov c}):=by
 unfold SG.bI SG.made;rw [aB (λh=>h b),aG a];simp only [ne_eq,not_true_eq_false,if_false]
def G9 {G:SG} {S:DS} {s:Nat} (b:(G.L.room S).2=0) (a:¬G.roomy S (cu c).length=true):G.bI S s c=if (G.check S s).1≠0 then G.check S s else if ((G.check S s).2.2.L.append (G.check S s).2.1 s (cu c)).1≠0 then (((G.check S s).2.2.L.append (G.check S s).2.1 s (cu c)).1,((G.check S s).2.2.L.append (G.check S s).2.1 s (cu c)).2.1,{(G.check S s).2.2 with L:=((G.check S s).2.2.L.append (G.check S s).2.1 s (cu c)).2.2}) else (0,((G.check S s).2.2.L.append (G.check S s).2.1 s (cu c)).2.1,{(G.check S s).2.2 with L:=((G.check S s).2.2.L.append (G.check S s).2.1 s (cu c)).2.2,ov:=CM.bT (G.check S s).2.2.ov c}):=by
 unfold SG.bI SG.made;rw [aB (λh=>h b),aB a]
section
variable {w w' w5 w6 w7:World} {F F5 X:Nat->Prop} {r s k kl t hm xV g2 cz:Nat} {S S5:DS} {G G5:SG} {T:TG} {pv nv tv lv:Value} {ps us:List (Nat×List Int)} {ns:CM} {xs ys:List Value}
def Wz {w:World} {B c:Nat} (h:Own w B (.slice a n c) d):Src w a n d:=by
 obtain⟨f,c',e,b,_⟩:=h.src;cases e;exact b
def Pn.aar {B N:Nat} (d:Pn w X B lv ns) (h:iL w F X r s S k kl G pv ps hm nv) (l:∀j,F j->j<B\/N<=j) (m:∀g,lv.ownBlock=some g->g<N) (o:k<B/\kl<B) (n:aa (λj=>F j\/j=k\/j=kl) w w'):Pn w' X B lv ns:=by
 have row:∀g,lv.ownBlock=some g->¬(F g\/g=k\/g=kl):=λg e a=>by
  have p:=d.lo g e;have q:=m g e;rcases a with a|a|a
  .rcases l g a with i|i <;> omega
  .omega
  .omega
 refine d.aw n row (λg c t b f a=>?_);rcases b with b|b
 .rcases a with a|a|a
  .exact h.fM g b a
  .exact f.ne h.st (by decide) a
  .exact f.ne h.lp (by decide) a
 .exact row g b a
def KN {L:LG} {S:DS} {s:Nat} (h:S.fL):(L.trim S s).2.1.fL:=by
 have a:=pU h L s;have b:=a.cZ s L.f ((L.ep:Int)*4294967296+(L.head:Int));unfold LG.trim;split
 .exact a
 .split
  .exact a
  .split <;> exact b
def wO {G:SG} {S:DS} {s:Nat} (h:S.fL) (d:∀q∈G.ov,Bytes q.2):(G.check S s).2.1.fL:=by
 have a:=pU h G.L s;have b:=kr a s G.y.home d;have c:=KN (L:=G.L) (s:=s) b;unfold SG.check;split
 .exact a
 .split
  .exact b
  .split <;> exact c
def iL.Sx (a:iL w5 F5 X r s S5 k kl G5 pv ps xV nv) (jD:aa (λj=>F5 j\/j=kl) w5 w6):lj w6 k r kl G5.y pv xV nv/\Pl w6 X pv ps:=by
 refine⟨a.st.aw jD (λe=>e.elim (a.fM _ a.xk) a.kne),a.pl.aw jD (λg e b=>?_) (λg c i d f b=>?_)⟩
 .rcases b with b|b
  .exact a.fM g (a.pl.row g e) b
  .exact a.pl.ne e a.lp (by decide) b
 .rcases b with b|b
  .exact a.fM g d b
  .exact f.ne a.lp (by decide) b
def il.refused (h:iL w F X r s S k kl G pv ps hm nv) (i:nY w X k t G T tv us) (IU:T.ended=false)
    (c:iL w5 F5 X r s S5 k kl G5 pv ps xV nv) (l:G5.y=G.y) (aan:S5.Ok s) (qh:∀j,F5 j->more F w w5 j) (dX:aa (λj=>F j\/j=k\/j=kl) w w5) (d:List Int)
    (pE:aC w6 (more F5 w5 w6) r s (G5.L.append S5 s d).2.1) (MD:cK w6 kl r (G5.L.append S5 s d).2.2) (jD:aa (λj=>F5 j\/j=kl) w5 w6) (x:Int):
  il w F X r s k kl t pv tv nv ps us (x,(G5.L.append S5 s d).2.1,{G5 with L:=(G5.L.append S5 s d).2.2},T) (.returned (iV x)) w6:=by
 have pL:=dX.size;have Ru:=jD.size;obtain⟨KM,G8⟩:=c.Sx jD;have f:=iL.St (ns:= []) (F':=more F5 w5 w6) (X':=X) (pv':=pv) c aan d (λx b=>by cases b) KM MD (by rw [List.append_nil];exact G8) (λ_ h=>h) (λg e b=>by rcases b with b|b;exact c.fM g e b;have:=c.lt g e;omega) (λg e=>i5 (c.lt g e) Ru) G5.busy;rw [List.append_nil] at f;refine il.fail h i IU (F5:=more F5 w5 w6) (λj a=>?_) pE f l ((dX.trans jD (λj a=>?_))) x
 .rcases a with a|a
  .rcases qh j a with a|a
   .exact .inl a
   .exact .inr ⟨a.1,by omega⟩
  .exact .inr ⟨by omega,a.2⟩
 .rcases a with a|a
  .rcases qh j a with a|a
   .exact .inl (.inl a)
   .exact .inr a.1
  .exact .inl (.inr (.inr a))
end
section
variable {w w' w1 w2:World} {F F' X X':Nat->Prop} {r s k kl t hm:Nat} {S:DS} {G:SG} {T:TG} {pv nv tv:Value} {ps us:List (Nat×List Int)}
set_option maxRecDepth 100000 in
def Ha (hd:aC w F r s S) (h:iL w F X r s S k kl G pv ps hm nv) (O:nY w X k t G T tv us) (I8:∀g,pv.ownBlock=some g->tv.ownBlock≠some g) (dD:S.fL) (fB:G.L.bj S=0->S.num G.L.f<=G.L.ep*4294967296+G.L.tail) (aU:S.puts.length+5000<=4000000000000) (V9:ps.length<=4000000000000):
  Calls prog 86 #[pQ t] w λe w'=>il w F X r s k kl t pv tv nv ps us (T.bI G S s) e w':=by
 have h1:=kq hd h O.tx;obtain⟨R,hR⟩:=bQ (T.bI G S s);rw [<-hR];unfold TG.bI at hR;by_cases q:T.state G S=0
 .have dq:(T.state G S != 0)=false:=by rw [q];rfl
  rw [aB (λh=>h q)] at hR;have hz:G.L.dead S=false/\T.ended=false/\T.bad=0:=by
   unfold TG.state TG.bT at q;cases yD:G.L.dead S
   .cases hee:T.ended
    .rw [yD,hee] at q;simpa using q
    .rw [yD,hee] at q;simp at q
   .rw [yD] at q;simp at q
  obtain⟨r1,r2,r3⟩:=hz;have sH:=O.pu r2;have du:=hd.ok;have lz:=du.hi;have XU:=h.hs;have ho:CM.Ok T.puts:=by rw [sH];exact mH _
  have hgp:∀b,CM.get T.puts b=jB us b:=λb=>by rw [sH];exact gZ _ _
  have aji:T.puts.length<=us.length:=by rw [sH,vG O.nd];exact bS _
  have Yi:T.puts.length<=16:=by rw [sH,vG O.nd];exact O.Eg
  have pb:∀x∈T.puts,x.1<G.y.blocks:=λx D=>by rw [sH] at D;exact O.kb x (eS D)
  have hlen:∀x∈T.puts,x.2.length=512/\Bytes x.2:=λx D=>by rw [sH] at D;exact O.pl.len x (eS D)
  obtain⟨adU,a,H,P,Ho,Hgp,M0,HR⟩:=xm O.Eg (yh h) (yh O) (yh hd) (yh ho) (yh hgp) (yh hlen) (yh hR);have HBY:=yh dD;obtain⟨ajj,HAp⟩:=bU fB I8;have HFd:=yh (λ(w1:World) (ar:bW w w1) (b:Nat)=>qW (O.pl.later ar).pv b (by omega));obtain⟨HBl,aeh⟩:=bU (λ(w1:World) (ar:bW w w1) (b:Nat) (hb:b<G.y.blocks)=>zR (hd.later ar) (h.later ar) r1 b hb (by omega) V9) (λ(b:Nat) (hb:b<G.y.blocks)=>iL.aad hd h hb);clear h O hd ho hgp hlen hR dD fB I8 sH q;generalize T.state G S=E at*;go_in;go_wp2_with fail;refine bM h1 λw1 ar=>?_;have cQ:=yh ar;clear h1 ar;go_wp2;go_loopw [4,5] (λv i wr=>∃b:Nat,b<=G.y.blocks/\i=iV (b:Int)/\Pn wr X w.heap.size v (KL T G S b)/\bW w wr) (λ_ i _=>G.y.blocks-(intOf i).toNat);case atStart=>exact⟨0,dV _,rfl,by rw [Su];exact Pn.nil _ _ _,cQ.o⟩
  case round=>
   obtain⟨b,hb,rfl,nA,ev⟩:=hrel;have wH:=H.o.tx.later ev;obtain⟨c0,c1,c4,Je,mh,Ae⟩:=jE wH.c0 wH.c1 ((a.o.st.later ev).c4) (yh nA) (yh ev) ev.size;by_cases qb:b<G.y.blocks
   .have qb':(b:Int)<(G.y.blocks:Int):=(by omega);have Jb:=HFd.o wr ev b;have tj:=HBl.o wr ev b qb;have Cg:=Hgp.o b;clear nA ev wH;cases hf:jB us b with
    |none=>
     rw [hf] at Jb Cg;go_wp2_with fail;refine Jb.mono ?_;rintro e w2 ⟨ho,hw⟩;subst hw;rcases ho with ⟨_,rfl⟩|⟨l',g,c',W,_⟩
     .clear Jb tj;go_wp2;go_roundw;case rel=>exact⟨b+1,by omega,by go_num,by rw [Sv Ho.o Cg];exact Je.o,mh.o⟩
      case measure=>simp [intOf];omega
     .cases W
    |some l=>
     rw [hf] at Jb Cg;have hl:=M0.o (b,l) (CM.get_mem Cg);have Bl:=aeh.o b qb;go_wp2_with fail;refine Jb.mono ?_;rintro e w2 ⟨ho,hw⟩;subst hw;rcases ho with ⟨h0,_⟩|⟨l',g,c',W,rfl,hX,hr⟩
     .cases h0
     cases W;have Er:=yh hr;clear Jb hr;go_wp2_with fail;refine tj.mono ?_;rintro e w3 ⟨⟨g3,c3,rfl,_,A3⟩,bF⟩;have lz:=sR g 0 g3 0 512 c' c3 l (G.block S b) w3 hl.1 Bl (by omega) (λi hi=>by have:=(Er.o.agree (bF.block g Er.o.lt)).src.2.2 _ rfl i (by rw [hl.1];exact hi);rwa [aN] at this) (λi hi=>by have:=A3.src.2.2 _ rfl i (by rw [Bl];exact hi);rwa [aN] at this);have gd:=yh bF;clear tj A3 bF;by_cases qs:l=G.block S b
     .have dd:decide (l=G.block S b)=true:=(by simp [qs]);rw [dd] at lz;have HQ:=yh qs;clear qs;go_wp2_with fail;refine bM lz λw4 fw=>?_;have jU:=yh (gd.o.trans (fw.mono gd.o.size));clear lz fw;go_wp2;go_roundw;case rel=>exact⟨b+1,by omega,by go_num,by rw [Sw Ho.o Cg HQ.o];exact Je.o.later jU.o,mh.o.trans (jU.o.mono mh.o.size)⟩
      case measure=>simp [intOf];omega
     .have dd:decide (l=G.block S b)=false:=(by simp [qs]);rw [dd] at lz;have HQ:=yh qs;clear qs;go_wp2_with fail;refine bM lz λw4 fw=>?_;have nR:=gd.o.trans (fw.mono gd.o.size);have Cx:=Wv (T:=T) (G:=G) (S:=S) (b:=b);obtain⟨A,cz,w5,bD,Sy,dX⟩:=(Je.o.later nR).aeb (b:=b) hX (Er.o.agree (nR.block g Er.o.lt)) hl (by omega) (by have:=nR.size;omega);have fa:=(mh.o.trans (nR.mono mh.o.size)).trans (dX.below (λj m=>Je.o.lo j m) (by have:=nR.size;omega));obtain⟨C,nJ⟩:=bU (aH Sy fa) bD;clear lz fw nR bD Sy dX fa;go_wp2_with (at_builtin;refine br rfl _ _ 126 rfl u4 (.slice (some (aD w4.heap.size 0)) 1 1) _ rfl rfl nJ.o ?_);go_roundw;case rel=>exact⟨b+1,by omega,by go_num,by rw [Wt Ho.o Cg HQ.o];exact C.o.1,C.o.2⟩
      case measure=>simp [intOf];omega
   .have qb':¬(b:Int)<(G.y.blocks:Int):=(by omega);obtain rfl:b=G.y.blocks:=(by omega);rw [(yh (Wu (S:=S) (G:=G) pb)).out] at nA;obtain⟨ns,L6⟩:=bQ (T.news G S);have zm:=HR.o;rw [<-L6] at nA zm;have mO:ns.length<=16:=(by rw [L6];exact j3 (List.length_filter_le _ _) Yi);have aei:ns.length<=us.length:=(by rw [L6];exact j3 (List.length_filter_le _ _) aji);have xN:∀x∈ns,x.1<G.y.blocks:=λx D=>by rw [L6] at D;exact pb x (List.mem_filter.1 D).1
    obtain⟨la,lc,hu,-⟩:=nA.pl.form;subst hu;obtain⟨HX,HNk,HPm⟩:=kF a.o.lt xN nA;clear Je nA L6 wH c1 HFd HBl aeh Hgp Ho M0 xN pb HR Yi qb hb;by_cases q0:ns= []
    .subst q0;rw [aG rfl] at zm;have HR:=yh zm;have nQ:=H.o.tx.later ev;have c2:=nQ.c2;have f2:=nQ.fz 2;clear zm ev nQ;go_wp2;go_ret;rw [HR.o];have hk:=aa.setCell (F:=λj=>j=t) wr (p:=(aD t 2)) rfl (.bool true);have nQ:=H.o.later mh.o;have pg:aa (λj=>F j\/j=k\/j=kl\/j=t\/pv.ownBlock=some j) w (wr.setCell ⟨t,2,none⟩ (.bool true)):=(aa.ah _ mh.o).trans hk (λ_ h=> .inl (.inr (.inr (.inr (.inl h)))));refine⟨F,X,pv,ps,hm,rfl,λ_ h=> .inl h,λ_ h=> .inl h,λ_ h=>h,(P.o.later mh.o).aw hk (λj m e=>a.o.fM t H.o.xt (e▸m)),((a.o.later mh.o).adr nQ.tx hk).busy false,⟨nQ.tx.end_,nQ.xt,nQ.pl.other nQ.tx (by decide) (by decide) hk,nQ.nd,λh=>(by cases h),nQ.kb,nQ.Eg⟩,⟨by omega,λ_=>rfl⟩, .inl rfl,pg⟩
    .have jk:=List.length_pos_iff.2 q0;rw [aB q0] at zm;have HR:=yh zm;have dl:((ns.length:Int) == 0)=false:=(by rw [fJ];omega);clear zm ev q0;go_wp2_with fail;refine(uo ns.length 2 wr (by omega) (by omega)).mono ?_;rintro e w2 ⟨rv,rfl,aA,bd⟩;obtain⟨HO,HP2,dP⟩:=kF (aA.down Ae) (HPm.o.later bd) (mh.o.trans (bd.mono Ae));clear aA bd;go_wp2;clear c0 c4;go_loopw [7,8] (λrv i wr=>∃j:Nat,j<=ns.length/\i=iV (j:Int)/\Own wr w.heap.size rv (bB 2 ns.length ++ (ns.take j).flatMap (λq=>bB 4 q.1))/\Pn wr X w.heap.size (.slice la ns.length lc) ns/\bW w wr) (λ_ i _=>ns.length-(intOf i).toNat);case atStart=>exact⟨0,dV _,rfl,by simpa using HO.o,HP2.o,dP.o⟩
     case round=>
      obtain⟨j,m,rfl,aA,nA,Sz⟩:=hrel;have ajl:=Sz.size;have jW:((ns.take j).flatMap (λq=>bB 4 q.1)).length=4*j:=(by rw [nM,List.length_take];omega);have rF:(bB 2 ns.length ++ (ns.take j).flatMap (λq=>bB 4 q.1)).length=2+4*j:=(by rw [ed,aK,jW]);by_cases qj:j<ns.length
      .have qj':(j:Int)<(ns.length:Int):=(by omega);obtain⟨la',lc',J,lA⟩:=nA.pl.form;cases J;obtain⟨gp,rfl,hp⟩:=lA jk;obtain⟨gj,cj,p1,_,_,_⟩:=hp j qj;have XT:ns[j].1<G.y.blocks:=HNk.o _ (List.getElem_mem qj);obtain⟨HOw,HPw,HBw⟩:=kF aA nA Sz;clear aA nA Sz lA hp;go_wp2_with fail;refine(uo ns[j].1 4 wr (by omega) (by omega)).mono ?_;rintro e w3 ⟨bv,rfl,L4,bF⟩;obtain⟨ba,bc,rfl,Vo,_,_⟩:=L4.src;rw [aK] at Vo⊢;have BA:=HOw.o.later bF;obtain⟨rv',w4,bD,Fg,dW⟩:=G6 BA bc Vo (by omega) (by rw [rF];omega) (by have:=bF.size;omega);have Rc:=(HPw.o.later bF).beside BA HX.o dW;have nR:=(HBw.o.trans (bF.mono ajl)).trans (dW.below (λj m=>(BA.lo m).1) (by have:=bF.size;omega));rw [List.append_assoc,<-Dn (λq:Nat×List Int=>bB 4 q.1) ns qj] at Fg;obtain⟨C,nJ⟩:=bU (aH Fg (aH Rc nR)) bD;clear L4 bF Vo BA bD Fg dW Rc nR;go_wp2_with (at_builtin;refine br rfl _ _ 22 rfl u7 (.slice ba 4 bc) _ rfl rfl nJ.o ?_);go_roundw;case rel=>exact⟨j+1,by omega,by go_num,C.o⟩
       case measure=>simp [intOf];omega
      .have qj':¬(j:Int)<(ns.length:Int):=(by omega);obtain rfl:j=ns.length:=(by omega);rw [List.take_length] at aA;obtain⟨HO3,HP3,gd⟩:=kF aA nA Sz;clear aA nA Sz jW rF;go_wp2;go_loopw [7,9] (λrv i wr=>∃j:Nat,j<=ns.length/\i=iV (j:Int)/\Own wr w.heap.size rv (bB 2 ns.length ++ (ns.flatMap (λq=>bB 4 q.1) ++ (ns.take j).flatMap (·.2)))/\Pn wr X w.heap.size (.slice la ns.length lc) ns/\bW w wr) (λ_ i _=>ns.length-(intOf i).toNat);case atStart=>exact⟨0,dV _,rfl,by simpa using HO3.o,HP3.o,gd.o⟩
       case round=>
        obtain⟨j,hj3,rfl,aA,nA,sU⟩:=hrel;have ajq:=sU.size;have jW:((ns.take j).flatMap (·.2)).length=512*j:=(by rw [vt (λq hq=>(nA.pl.len q (List.mem_of_mem_take hq)).1),List.length_take];omega);have rF:(bB 2 ns.length ++ (ns.flatMap (λq=>bB 4 q.1) ++ (ns.take j).flatMap (·.2))).length=2+4*ns.length+512*j:=(by rw [ed,ed,aK,jW,nM];omega);by_cases qj:j<ns.length
        .have qj2:(j:Int)<(ns.length:Int):=(by omega);obtain⟨la',lc',J,lA⟩:=nA.pl.form;cases J;obtain⟨gp,rfl,hp⟩:=lA jk;obtain⟨gj,cj,_,p2,_,hrj⟩:=hp j qj;have hsj:Src wr (some (aD gj 0)) 512 ns[j].2:=(by have:=hrj.src;rwa [((nA.pl.len _ (List.getElem_mem qj)).1)] at this);obtain⟨rv',w4,bD,Fg,dW⟩:=G6 aA cj hsj (by omega) (by rw [rF];omega) (by omega);have Rc:=nA.beside aA HX.o dW;have nR:=sU.trans (dW.below (λj m=>(aA.lo m).1) (by omega));rw [List.append_assoc,List.append_assoc,<-Dn (λq:Nat×List Int=>q.2) ns qj] at Fg;obtain⟨C,nJ⟩:=bU (aH Fg (aH Rc nR)) bD;clear aA nA sU lA hp hrj hsj bD Fg dW Rc nR;go_wp2_with (at_builtin;refine br rfl _ _ 22 rfl u7 (.slice (some (aD gj 0)) 512 cj) _ rfl rfl nJ.o ?_);go_roundw;case rel=>exact⟨j+1,by omega,by go_num,C.o⟩
         case measure=>simp [intOf];omega
        .have qj2:¬(j:Int)<(ns.length:Int):=(by omega);obtain rfl:j=ns.length:=(by omega);rw [List.take_length] at aA rF;obtain⟨ra,aej,hrv,pB,Fo,BG⟩:=aA.src;subst hrv;have YZ:G.L.bj S=0:=(by unfold LG.bj;rw [r1,a.o.bg];rfl);have WA:(G.L.room S).2=0:=(by unfold LG.room;rw [aB (λh=>h YZ)]);have rU:=NZ (P.o.later sU) (a.o.lp.later sU) a.o.lk;have aek:bB 2 ns.length ++ (ns.flatMap (λq=>bB 4 q.1) ++ ns.flatMap (·.2))=cu ns:=rfl;rw [aek] at rF pB Fo aA⊢;have Vg:=qt (λq hq=>(nA.pl.len q hq).2);have SA:G.roomy S (cu ns).length=decide ((dh (cu ns).length:Int)<=(G.L.room S).1):=rfl;have M:=Et (s:=s) (c:=ns) WA;have WB:=G9 (s:=s) (c:=ns) WA;rw [WA] at rU;rw [SA] at M WB;obtain⟨d,yD⟩:=bQ (cu ns);rw [<-yD] at rF pB Fo aA Vg M WB⊢;obtain⟨x,D⟩:=bQ d.length;rw [<-D] at rF pB Fo M WB⊢;obtain⟨rm,hrm⟩:=bQ ((G.L.room S).1);rw [<-hrm] at rU M WB;have rC:0<x:=(by omega);have jI:x<=10000:=(by omega);obtain⟨c0,k1,HOw,HPw,HBw,Oz,WC,HNb,HCr,HCf,HX0⟩:=LP ((H.o.tx.later sU).c0) ((a.o.st.later sU).c1) (yh aA) (yh nA) (yh sU) (yh pB) (yh BG) (yh Vg) (yh M) (yh WB) (yh D);clear aA nA sU pB BG Vg M WB SA aek yD hrm WA jW D rF;go_wp2_with fail;refine bM rU λw5 fa=>?_;obtain⟨V0,jq,HO5,HP5,aju⟩:=eK ((yh (λw1=>sT x w1 (by omega))).out w5) (yh (HBw.o.trans (fa.mono ajq))) (yh (HOw.o.later fa)) (yh (HPw.o.later fa)) (yh (Oz.o.later fa));have Uy:=(H.o.tx.later jq.o).c0;have k15:=(a.o.st.later jq.o).c1;clear rU fa c0 k1 HOw HPw Oz;by_cases qr:(dh x:Int)<=rm
         .have qrr:¬rm<(((x+491) / 492:Nat):Int):=(by unfold dh at qr;omega);have hC:=HCr.o (by rw [decide_eq_true_iff];exact qr);have xF:=HR.o;rw [hC] at xF;clear HCr HCf qr hC;go_wp2_with fail;refine bM V0 λZ ME=>?_;subst ME;clear V0;have Eu:=wN (P.o.later jq.o) (a.o.later jq.o).lp (a.o.later jq.o).lk (a.o.fM _ a.o.xl) HBY.o ra x aej d aju.o (λy hy _ hF=>by have:=(WC.o y hy).1;have:=P.o.lt _ hF;omega) HNb.o Fo (by omega) (by omega);by_cases qa:(G.L.append S s d).1=0
          .have da:((G.L.append S s d).1 != 0)=false:=(by rw [qa];rfl);have xz:R=(0,(G.L.append S s d).2.1,{G with L:=(G.L.append S s d).2.2,ov:=CM.bT G.ov ns,busy:=false},T.close):=(by rw [xF];simp only [qa,ne_eq,not_true_eq_false,if_false]);have Jc:=yh xz;clear xz xF;go_wp2_with fail;refine pj Eu λK nL C3 gO=>?_;obtain⟨xG,aat⟩:=(a.o.later jq.o).Sx gO;have KO:=gO.mono (G:=λj=>F j\/j=k\/j=kl) (λj m=>by rcases m with m|m;exact .inl m;exact .inr (.inr m));have Es:=(nY.asked (a.o.later jq.o) (H.o.later jq.o) KO).tx;obtain⟨xs,oC⟩:=aat;obtain⟨ys,Ww,mi,Y⟩:=Pn.asked (a.o.later jq.o) (B:=w.heap.size) (λj m=>P.o.lt j m) ⟨a.o.lt _ a.o.xk,a.o.lt _ a.o.xl⟩ HP5.o KO;obtain⟨la',lc',J,lA⟩:=Ww.form;cases J;obtain⟨gp,rfl,-⟩:=lA jk;obtain⟨i0,rH,gB,dC,eu⟩:=info_parts qd;obtain⟨c07,k77,KP,Ev⟩:=cO Es.c0 xG.c7 (oC.aw (aa.ah (λ_=>False) (ai (bi _ _))) (λ_ _ h=>h) (λ_ _ _ _ _ h=>h)) (Ww.aw (aa.ah (λ_=>False) (ai (bi _ _))) (λ_ _ h=>h) (λ_ _ _ _ _ h=>h));have SB:aC K.drew (more F Z K.drew) r s (G.L.append S s d).2.1:=nL.later (ai (bi _ _));have zH:∀j u,ys[j]? =some u->K.drew.cell? (((aD gp 0):Addr).add j)=some u:=λj u hu=>Ev.own.cells (g:=gp) rfl _ _ hu;have SC:=yh (λ(A cz:Nat) (z:World) (uq:z.ownsRow 0 166 2 (.slice (some (aD A 0)) (ps.length+ns.length) cz) (ps.length+ns.length) (xs ++ ys)) (oN:K.drew.grownBy z pv.ownBlock) (Ew:pv.ownBlock=some A\/A=K.heap.size)=>il.done a.o H.o HAp.o (a.o.later jq.o) rfl du (λj m=> .inl m) (aa.ah _ jq.o) d SB (C3.later (ai (bi _ _))) (gO.trans (aa.ah (λ_=>False) (ai (bi _ _))) (λ_ h=>h.elim)) KP Ev Y HNk.o aei uq oN Ew);obtain⟨HXs,U,aav,Q⟩:=Bh KP Ev zH Es;clear Eu nL C3 gO xG KO oC Ww mi Y lA KP Ev SB zH Es;go_wp2_with fail
           go_region_law
            (first
             |(refine step_append_lies _ (by rfl) _ _ _ (by rfl) 0 166 i0 _ 2 32 underlying126 rH gB dC eu rfl (by omega) pv ps.length xs (by rfl) HXs.o.own (aD gp 0) ns.length lc ys (by rfl) U.o.own.1 aav.o U.o.one jk (by unfold maxLen;omega) (by omega) (dV _) K.heap.size (by rfl) ?_;intro A cz z uq oN Ew aaw;obtain⟨W,e2,e3,e4,e5,jH⟩:=SC.o A cz z uq oN Ew;have k78:z.cell? (aD k 7)=some pv:=rt (W.trans e4);have f78:z.frozen? (aD k 7)=false:=ae (W.trans e4) 7;have t08:z.cell? (aD t 0)=some (pQ k):=aM (e2.trans Q.o);have I:(z.setCell ⟨k,7,none⟩ (.slice (some ⟨A,0,none⟩) (ps.length+ns.length) cz)).heap[t]? =_:=(Below.heap_setCell z ⟨k,7,none⟩ (.slice (some (aD A 0)) (ps.length+ns.length) cz) t (λe=>e5 e.symm)).trans (e2.trans Q.o);have t28:(z.setCell ⟨k,7,none⟩ (.slice (some ⟨A,0,none⟩) (ps.length+ns.length) cz)).cell? (aD t 2)=some (.bool T.ended):=bK I;have f28:(z.setCell ⟨k,7,none⟩ (.slice (some ⟨A,0,none⟩) (ps.length+ns.length) cz)).frozen? (aD t 2)=false:=ae I 2))
           all_goals
            have mU:=yh jH;clear jH uq oN Ew aaw W e2 e3 e4 I;go_wp2;go_ret;rw [Jc.o];exact mU.o
          .have da:((G.L.append S s d).1 != 0)=true:=(by rw [gA];exact qa);have xz:R=((G.L.append S s d).1,(G.L.append S s d).2.1,{G with L:=(G.L.append S s d).2.2},T):=(by rw [xF];simp only [qa,ne_eq,not_false_eq_true,if_true]);have Jc:=yh xz;clear xz xF;go_wp2_with fail;refine pj Eu λK nL C3 gO=>?_;have C:=yh (aH nL (aH C3 gO));clear Eu nL C3 gO;go_wp2;go_ret;rw [Jc.o];exact il.refused a.o H.o r2 (a.o.later jq.o) rfl du (λj m=> .inl m) (aa.ah _ jq.o) d C.o.1 C.o.2.1 C.o.2.2 _
         .have qrr:rm<(((x+491) / 492:Nat):Int):=(by unfold dh at qr;omega);have hC:=HCf.o (by rw [decide_eq_true_iff];exact qr);have xF:=HR.o;rw [hC] at xF;clear HCr HCf qr hC;go_wp2_with fail;refine bM V0 λZ ME=>?_;subst ME;clear V0;have WD:=Al (P.o.later jq.o) (a.o.later jq.o) HBY.o ajj.o (by omega) V9;have Ru:=jq.o.size;have aen:G.ov.length<=2048:=by
           have ajv:CM.Ok G.ov:=(by rw [a.o.ov];exact mH _);rcases CM.length_le (n:=2048) ajv (λq hq=>by rw [a.o.ov] at hq;have:=a.o.kb q (List.mem_of_mem_drop (eS hq));omega) 0 (λ_ _=>dV _) with h1|h1
           .omega
           .rw [h1];simp
          have Ps:=zZ G S s;obtain⟨ajw,HY8⟩:=bU (wO HBY.o (λq hq=>by rw [a.o.ov] at hq;exact(a.o.pl.len q (List.mem_of_mem_drop (eS hq))).2) (s:=s)) (mF G S s);by_cases qc:(G.check S s).1=0
          .have dc:((G.check S s).1 == 0)=true:=(by rw [qc];rfl);go_wp2_with fail;refine WD.mono ?_;rintro e z ⟨rfl,oM,⟨XA,Jd⟩,jV⟩;have aeo:=oM.ok;have hO8:=HO5.o.aw jV (λg e D=>by have:=(HO5.o.lo e).1;rcases D with D|D|D;have:=P.o.lt _ D;omega;have:=a.o.lt _ a.o.xk;omega;have:=a.o.lt _ a.o.xl;omega);have ajx:=yh (by have:=Wz hO8;rwa [<-HX0.o] at this);have aep:∀y,ra=some y->y.block<Z.heap.size:=λy hy=>by
            obtain⟨g9,c9,e9,_,Uj⟩:=HO5.o.Vl (by rw [<-HX0.o];exact rC);cases e9;cases hy;exact Uj.lt
           have HRF:Yh (∀y,ra=some y->0<x->¬more F Z z y.block):=yh (λ(y:Addr) (hy:ra=some y) (_:0<x) (hF:more F Z z y.block)=>by
            have h1:=(WC.o y hy).1;have h2:=aep y hy;rcases hF with hF|hF
            .have:=P.o.lt _ hF;omega
            .omega)
           obtain⟨HP8,HF5⟩:=bU (Pn.asked (a.o.later jq.o) (B:=w.heap.size) (λj m=>P.o.lt j m) ⟨a.o.lt _ a.o.xk,a.o.lt _ a.o.xl⟩ HP5.o jV) (λ(j:Nat) (m:more F Z z j)=>(m.elim (λh=> .inl (P.o.lt j h)) (λh=> .inr h.1):j<w.heap.size\/Z.heap.size<=j));have aeq:=yh (λ(j:Nat) (m:more F Z z j)=>(m.elim (λh=> .inl h) (λh=> .inr ⟨by omega,h.2⟩):more F w z j));have Pp:=yh ((aa.ah (λj=>F j\/j=k\/j=kl) jq.o).trans jV (λ_ h=> .inl h));have Nj:=nY.asked (a.o.later jq.o) (H.o.later jq.o) jV;have HT8:Yh (nY z X k t (G.check S s).2.2 T tv us):=yh ⟨Nj.tx,Nj.xt,Nj.pl,Nj.nd,Nj.pu,by rw [HY8.o];exact Nj.kb,Nj.Eg⟩;have c08:=Nj.tx.c0;have k18:=Jd.st.c1;clear WD jV hO8 aep Nj Uy k15;have Eu:=wN (oM) (Jd).lp (Jd).lk (Jd.fM _ Jd.xl) ajw.o ra x aej d ajx.o HRF.o HNb.o Fo (by omega) (by omega);by_cases qa:((G.check S s).2.2.L.append (G.check S s).2.1 s d).1=0
           .have da:(((G.check S s).2.2.L.append (G.check S s).2.1 s d).1 != 0)=false:=(by rw [qa];rfl);have xz:R=(0,((G.check S s).2.2.L.append (G.check S s).2.1 s d).2.1,{(G.check S s).2.2 with L:=((G.check S s).2.2.L.append (G.check S s).2.1 s d).2.2,ov:=CM.bT (G.check S s).2.2.ov ns,busy:=false},T.close):=(by rw [xF];simp only [qc,qa,ne_eq,not_true_eq_false,if_false]);have Jc:=yh xz;clear xz xF;go_wp2_with fail;refine pj Eu λK nL C3 gO=>?_;obtain⟨xG,aat⟩:=(Jd).Sx gO;have KO:=gO.mono (G:=λj=>(more F Z z) j\/j=k\/j=kl) (λj m=>by rcases m with m|m;exact .inl m;exact .inr (.inr m));have Es:=(nY.asked Jd HT8.o KO).tx;obtain⟨xs,oC⟩:=aat;obtain⟨ys,Ww,mi,Y⟩:=HP8.o.aar Jd (N:=Z.heap.size) HF5.o (yh (HP5.o.pl.rlt)).out ⟨a.o.lt _ a.o.xk,a.o.lt _ a.o.xl⟩ KO;obtain⟨la',lc',J,lA⟩:=Ww.form;cases J;obtain⟨gp,rfl,-⟩:=lA jk;obtain⟨i0,rH,gB,dC,eu⟩:=info_parts qd;obtain⟨c07,k77,KP,Ev⟩:=cO Es.c0 xG.c7 (oC.aw (aa.ah (λ_=>False) (ai (bi _ _))) (λ_ _ h=>h) (λ_ _ _ _ _ h=>h)) (Ww.aw (aa.ah (λ_=>False) (ai (bi _ _))) (λ_ _ h=>h) (λ_ _ _ _ _ h=>h));have SB:aC K.drew (more (more F Z z) z K.drew) r s ((G.check S s).2.2.L.append (G.check S s).2.1 s d).2.1:=nL.later (ai (bi _ _));have zH:∀j u,ys[j]? =some u->K.drew.cell? (((aD gp 0):Addr).add j)=some u:=λj u hu=>Ev.own.cells (g:=gp) rfl _ _ hu;have SC:=yh (λ(A cz:Nat) (z:World) (uq:z.ownsRow 0 166 2 (.slice (some (aD A 0)) (ps.length+ns.length) cz) (ps.length+ns.length) (xs ++ ys)) (oN:K.drew.grownBy z pv.ownBlock) (Ew:pv.ownBlock=some A\/A=K.heap.size)=>il.done a.o H.o HAp.o (Jd) HY8.o aeo aeq.o Pp.o d SB (C3.later (ai (bi _ _))) (gO.trans (aa.ah (λ_=>False) (ai (bi _ _))) (λ_ h=>h.elim)) KP Ev Y HNk.o aei uq oN Ew);obtain⟨HXs,U,aav,Q⟩:=Bh KP Ev zH Es;clear Eu nL C3 gO xG KO oC Ww mi Y lA KP Ev SB zH Es;go_wp2_with fail
            go_region_law
             (first
              |(refine step_append_lies _ (by rfl) _ _ _ (by rfl) 0 166 i0 _ 2 32 underlying126 rH gB dC eu rfl (by omega) pv ps.length xs (by rfl) HXs.o.own (aD gp 0) ns.length lc ys (by rfl) U.o.own.1 aav.o U.o.one jk (by unfold maxLen;omega) (by omega) (dV _) K.heap.size (by rfl) ?_;intro A cz z uq oN Ew aaw;obtain⟨W,e2,e3,e4,e5,jH⟩:=SC.o A cz z uq oN Ew;have k78:z.cell? (aD k 7)=some pv:=rt (W.trans e4);have f78:z.frozen? (aD k 7)=false:=ae (W.trans e4) 7;have t08:z.cell? (aD t 0)=some (pQ k):=aM (e2.trans Q.o);have I:(z.setCell ⟨k,7,none⟩ (.slice (some ⟨A,0,none⟩) (ps.length+ns.length) cz)).heap[t]? =_:=(Below.heap_setCell z ⟨k,7,none⟩ (.slice (some (aD A 0)) (ps.length+ns.length) cz) t (λe=>e5 e.symm)).trans (e2.trans Q.o);have t28:(z.setCell ⟨k,7,none⟩ (.slice (some ⟨A,0,none⟩) (ps.length+ns.length) cz)).cell? (aD t 2)=some (.bool T.ended):=bK I;have f28:(z.setCell ⟨k,7,none⟩ (.slice (some ⟨A,0,none⟩) (ps.length+ns.length) cz)).frozen? (aD t 2)=false:=ae I 2))
            all_goals
             have mU:=yh jH;clear jH uq oN Ew aaw W e2 e3 e4 I;go_wp2;go_ret;rw [Jc.o];exact mU.o
           .have da:(((G.check S s).2.2.L.append (G.check S s).2.1 s d).1 != 0)=true:=(by rw [gA];exact qa);have xz:R=(((G.check S s).2.2.L.append (G.check S s).2.1 s d).1,((G.check S s).2.2.L.append (G.check S s).2.1 s d).2.1,{(G.check S s).2.2 with L:=((G.check S s).2.2.L.append (G.check S s).2.1 s d).2.2},T):=(by rw [xF];simp only [qc,qa,ne_eq,not_true_eq_false,not_false_eq_true,if_true,if_false]);have Jc:=yh xz;clear xz xF;go_wp2_with fail;refine pj Eu λK nL C3 gO=>?_;have C:=yh (aH nL (aH C3 gO));clear Eu nL C3 gO;go_wp2;go_ret;rw [Jc.o];exact il.refused a.o H.o r2 (Jd) HY8.o aeo aeq.o Pp.o d C.o.1 C.o.2.1 C.o.2.2 _
          .have dc:((G.check S s).1 == 0)=false:=(by rw [fJ];exact qc);have dn:((G.check S s).1 != 0)=true:=(by rw [gA];exact qc);have xz:R=((G.check S s).1,(G.check S s).2.1,(G.check S s).2.2,T):=(by rw [xF];simp only [qc,ne_eq,not_false_eq_true,if_true]);have Jc:=yh xz;clear xz xF;go_wp2_with fail;refine WD.mono ?_;rintro e z ⟨rfl,oM,⟨XA,Jd⟩,jV⟩;have C:=yh (aH oM (aH Jd jV));clear WD oM Jd jV;go_wp2;go_ret;rw [Jc.o];exact il.fail a.o H.o r2 (λj m=>m.elim (λh=> .inl h) (λh=> .inr ⟨by omega,h.2⟩)) C.o.1 C.o.2.1 HY8.o ((aa.ah _ jq.o).trans C.o.2.2 (λ_ h=> .inl h)) _
 .have dq:(T.state G S != 0)=true:=by rw [gA];exact q
  rw [aG q] at hR;obtain⟨HR,a,H,P⟩:=Bh hR h O hd;clear hR q;generalize T.state G S=E at*;clear h O hd;go_in;go_wp2_with fail;refine bM h1 λw1 ar=>?_;have HB:=yh ar;clear h1 ar;go_wp2;go_ret;rw [HR.o];exact⟨F,X,pv,ps,hm,rfl,λ_ h=> .inl h,λ_ h=> .inl h,λ_ h=>h,P.o.later HB.o,a.o.later HB.o,H.o.later HB.o,⟨by omega,λ_=>rfl⟩, .inl rfl,aa.ah _ HB.o⟩
end
end
section
section
variable {S:DS} {s t i:Nat} {ls:List LG} {L:LG} {G:SG}
def C5 (L:LG) (S:DS) (s:Nat):(L.trim S s).2.1.life=S.life/\(L.trim S s).2.2.life=L.life:=by
 have a:(L.sync S s).2.life=S.life:=by
  unfold LG.sync;split
  .rfl
  .exact fX _ _
 unfold LG.trim;split
 .exact⟨a,rfl⟩
 .split
  .exact⟨a,rfl⟩
  .split
   .exact⟨(iU _ _ _ _).trans a,rfl⟩
   .exact⟨(iU _ _ _ _).trans a,rfl⟩
def SD (du:S.Ok s) (e:L.Ok s) (k:L.begun=true) (p:L.life=S.life) (t:S.num L.f<=L.ep*4294967296+L.tail) (b:(L.trim S s).2.1.fuse≠0):(L.trim S s).2.2.Fit (L.trim S s).2.1:=by
 obtain⟨u,jk,ef⟩:=kE e.s e.n1 e.th;unfold LG.trim at b⊢;by_cases a:(L.sync S s).1≠0
 .rw [aG a] at b;exfalso;apply b;unfold LG.sync at a⊢;by_cases d:L.bj S≠0
  .rw [aG d];show S.fuse=0;unfold LG.bj at d;cases hd:L.dead S
   .rw [hd,k] at d;simp at d
   .unfold LG.dead at hd;rw [p] at hd;simpa using hd
  .rw [aB d] at a⊢;obtain⟨i,j,_⟩:=lu a;rw [i];exact j
 .rw [aB a] at b⊢;have d:L.bj S=0:=by
   unfold LG.sync at a;by_cases c:L.bj S=0
   .exact c
   .rw [aG c] at a;exact absurd (Decidable.of_not_not a) c
  have l:(L.sync S s)=S.fl s:=by unfold LG.sync;rw [aB (by omega)]
  rw [l] at a b⊢;have fB:(S.fl s).2.num L.f=S.num L.f:=D6 du (by omega);have aay:=rY (s:=s) du;by_cases m:L.tail=L.head
  .rw [aG m];refine⟨λ_=>⟨by rw [(jm (Decidable.of_not_not a))];exact dV _,by rw [fB];exact t⟩,λc=>by rw [k] at c;cases c⟩
  .rw [aB m] at b⊢;have o:((L.ep:Int)*4294967296+(L.head:Int))=((L.ep*4294967296+L.head:Nat):Int):=(by omega);rw [o] at b⊢;have q:=e.ep;have r:=e.hi;obtain⟨N,n⟩:=bQ (L.ep*4294967296+L.head);have g:(S.fl s).2.num L.f<N:=(by rw [fB,n];omega);rw [<-n] at b⊢;by_cases h0:(cZ (S.fl s).2 s L.f (N:Int)).1≠0
   .rw [aG h0] at b;exact absurd (pY (by omega) (iD (bu aay L.f (by omega)) (bu aay (L.f+1) (by omega)) (N:=N) (by omega) g) h0).1 b
   .rw [aB h0];obtain⟨i,j⟩:=tY (s:=s) (f:=L.f) (N:=N) aay (by omega) (by omega) (by omega) g (Decidable.of_not_not h0);refine⟨λ_=>⟨by rw [j];exact dV _,?_⟩,λc=>by rw [show ({L with tail:=L.head}:LG).begun=L.begun from rfl,k] at c;cases c⟩;show (cZ (S.fl s).2 s L.f (N:Int)).2.num L.f<=L.ep*4294967296+L.head;rw [i];omega
def V.Inv.check (h:V.Inv S s ls t) (b:ls[i]? =some G.L) (C:G.L.begun=true) (p:∀q∈G.ov,G.y.home+q.1<s/\q.2.length=512/\Bytes q.2) (Ye:G.ov.length<=2048) (BO:G.L.f+2+G.L.n<=G.y.home):V.Inv (G.check S s).2.1 s (ls.set i (G.check S s).2.2.L) t:=by
 have g:=(h.at b).1;by_cases u:G.L.bj S=0
 .obtain⟨hd,_⟩:=km u;obtain⟨j,D⟩:=jL hd;have M:=g.s;have jk:=g.n1;obtain⟨F,l,x⟩:=qw (L:=G.L) h.ok;obtain⟨J,m,o,H,z⟩:=eC (h0:=G.y.home) (ms:=G.ov) F (λq d=>⟨(p q d).1,(p q d).2.1⟩);obtain⟨A,K⟩:=G1 (L:=G.L) o (by omega);have xH:=wO (s:=s) h.pZ (λq d=>(p q d).2.2);have aer:=Ei g (aE (G.L.sync S s).2 s G.y.home G.ov).2;have SE:=C5 G.L (aE (G.L.sync S s).2 s G.y.home G.ov).2 s;have N:=h.sync b;have k:G.L.sync S s=S.fl s:=by unfold LG.sync;rw [aB (by omega)]
  have jW:(G.L.sync S s).1=0:=by
   rw [k];apply Decidable.byContradiction;intro v;exact D (lu v).2.1
  have r:(G.L.sync S s).2.puts= []:=by rw [k] at jW⊢;exact jm jW
  have a:=eF (G.L.sync S s).2 s G.y.home G.ov;rw [r] at a;have I:=zY G.L (aE (G.L.sync S s).2 s G.y.home G.ov).2 s;have fB:(aE (G.L.sync S s).2 s G.y.home G.ov).2.num G.L.f<=G.L.ep*4294967296+G.L.tail:=by
   rw [vI (S:=S) ((z _ (λq d e=>by omega)).trans (x _ (by omega))) ((z _ (λq d e=>by omega)).trans (x _ (by omega)))];exact((h.al G.L (gz b) j D).1 C).2
  have Yj:=SD (S:=(aE (G.L.sync S s).2 s G.y.home G.ov).2) o g C (by rw [m,l];exact j) fB;unfold SG.check at xH⊢;rw [aB (λv=>v jW)] at xH⊢;generalize G.L.sync S s=Z at*;generalize aE Z.2 s G.y.home G.ov=Y at*;by_cases w:Y.1≠0
  .rw [aG w] at xH⊢;refine h.on b j o xH (m.trans l) ?_ g rfl (λc=>absurd (H w) c);show Y.2.puts.length<=6000;simp at a;omega
  .rw [aB w] at xH⊢;have Mj:(G.L.trim Y.2 s).2.1.puts.length<=6000:=(by simp at a;omega);by_cases E:(G.L.trim Y.2 s).1≠0
   .rw [aG E] at xH⊢;exact h.on b j A xH (SE.1.trans (m.trans l)) Mj aer.1 SE.2 Yj
   .rw [aB E] at xH⊢;exact h.on b j A xH (SE.1.trans (m.trans l)) Mj aer.1 SE.2 Yj
 .have e:G.check S s=(G.L.bj S,S,G):=by
   unfold SG.check LG.sync;rw [aG u,aG u]
  rw [e];exact h.same b
def C6 (l:List α) (i:Nat) (a b:α):(l.set i a).set i b=l.set i b:=by simp
def V.Inv.WE (h:V.Inv S s ls t) (e:ls[i]? =some G.L) (l:G.L.begun=true) (k:∀q∈G.ov,G.y.home+q.1<s/\q.2.length=512/\Bytes q.2) (Ye:G.ov.length<=2048) (BO:G.L.f+2+G.L.n<=G.y.home) (m:∀q∈c,Bytes q.2):V.Inv (G.bI S s c).2.1 s (ls.set i (G.bI S s c).2.2.L) t:=by
 have aes:∀{d:DS} {a:SG},V.Inv d s (ls.set i a.L) t->V.Inv (a.L.append d s (cu c)).2.1 s (ls.set i (a.L.append d s (cu c)).2.2) t:=λ{d a} g=>by
  have b:(ls.set i a.L)[i]? =some a.L:=List.getElem?_set_self ((mL.1 e).1);have Kg:=(g.at b).1;have:=g.append b (qt m) (Ak g.ok (by have:=Kg.n1;omega) Kg.s _).1;rwa [C6] at this
 have j:V.Inv (G.made S s (cu c).length).2.1 s (ls.set i (G.made S s (cu c).length).2.2.L) t:=by
  unfold SG.made;split
  .exact h.same e
  .exact h.check e l k Ye BO
 unfold SG.bI;split
 .exact h.same e
 .split
  .exact j
  .split
   .exact aes j
   .exact aes j
end
end
def WF (h:Bytes xs):PB (strOfNums xs)=xs:=by
 unfold PB strOfNums;simp only [List.map_map];apply List.ext_getElem
 .simp
 .intro i b a;have:=h xs[i] (List.getElem_mem a);simp;omega
def ur (p b o c k m:Nat) (l:List Int) (w:World) (h:Rd w p b o c k l) (a:k+m<=l.length) (Bb:k<c):
  Calls prog 184 #[pQ p,iV (m:Int)] w λe w'=>e= .returned (.string (strOfNums (part l k m)))/\Rd w' p b o c (k+m) l/\aa (λj=>j=p) w w':=by
 go_in;go_wp2_with fail;refine(x9 p b o l.length c k m w h.rd a h.cap Bb h.small h.Oo).mono ?_;rintro e w1 ⟨rfl,mj,ff⟩;have d:=h.aw mj ff;have f:=run_convert_bytes_arg (P:=prog) w1 22 5 underlying22 underlying5 b (o+k) m (c-k) (part l k m) (fD a) (d.part a) 9 underlying9;go_wp2;go_ret;exact⟨rfl,aH d ff⟩
def qx (l:List Int):Prop:=le (part l (l.length-4) 4)=sumOf (part l 0 (l.length-4))
def Am (a:k<=l.length) (i:Nat) (b:i<k):(part l 0 k).getD i 0=l.getD i 0:=by
 rw [uk b,Nat.zero_add]
def C7 (b o n c:Nat) (l:List Int) (w:World) (G:l.length=n) (I:4<n) (L:n<=1000000) (J:n<=c) (pf:c<=9223372036854775807) (u:Bytes l) (s:∀i,i<n->w.cell? ⟨b,o+i,none⟩=some (.int .u8 (l.getD i 0))) (du:qx l):
  Calls prog 149 #[.slice (some (aD b o)) n c] w λe w'=>∃p,e= .returned (pQ p)/\w.heap.size<=p/\Rd w' p b o c 0 (part l 0 (n-4))/\bW w w':=by
 have E:b<w.heap.size:=World.block_lt_of_cell? _ _ (s 0 (by omega));have adQ:(n:Int)-4=((n-4:Nat):Int):=by omega
 have M:(0:Int)<=(((n-4:Nat)):Int):=by omega
 have N:(((n-4:Nat)):Int)<=(n:Int):=by omega
 have O:(((n-4:Nat)):Int)<=(c:Int):=by omega
 obtain⟨w1,bO⟩:=bQ (w.alloc (.cells #[.slice (some ⟨b,o+(n-4),none⟩) 4 (c-(n-4)), .int .i64 0] 223));have bN:bW w w1:=by rw [bO];exact(bi _ w).alloc (bS _) _
 have o9:w1.heap[w.heap.size]? =some (.cells #[.slice (some ⟨b,o+(n-4),none⟩) 4 (c-(n-4)), .int .i64 0] 223 (0,0)):=by rw [bO];exact heap_alloc_new _ _
 have sf:w1.heap.size=w.heap.size+1:=by rw [bO];simp
 have t:(part l (n-4) 4).length=4:=fD (by omega);have vw:∀wx:World,bW w1 wx->Rd wx w.heap.size b (o+(n-4)) (c-(n-4)) 0 (part l (n-4) 4):=λwx a=>
    ⟨by show vH _ _ _ _ _ _ _;unfold vH;rw [t];exact(a.block _ (by omega)).trans o9,by omega,λi g=>by
   rw [t] at g;rw [uk g,Nat.add_assoc];exact cell_later (bN.trans (a.mono (by omega))) (s (n-4+i) (by omega)),dT u _ _,by omega,by omega,by omega,λ_=>by have:=a.size;omega⟩
 have fB:∀wx:World,bW w1 wx->Calls prog 185 #[pQ w.heap.size,iV 4] wx λe w'=>e= .returned (iV ((le (part l (n-4) 4):Nat):Int))/\bW w w':=λwx a=>by
  refine(oJ _ _ _ _ 0 4 _ wx (vw wx a) (by omega) (by omega) (by omega)).mono ?_;rintro e w' ⟨rfl,_,F⟩;have C:part (part l (n-4) 4) 0 4=part l (n-4) 4:=by
   show ((part l (n-4) 4).drop 0).take 4=_;rw [List.drop_zero,nr (by omega)]
  have z:=lw (dT u (n-4) 4);rw [t] at z;refine⟨?_,(bN.trans (a.mono (by omega))).trans (F.below (λj K=>by omega) (by have:=a.size;omega))⟩;rw [C];congr 2;unfold wrap64;have:(2:Nat) ^ (8*4)=4294967296:=rfl;omega
 have fS:∀wx:World,bW w wx->Calls prog 143 #[.slice (some (aD b o)) (n-4) c] wx λe w'=>e= .returned (iV ((sumOf (part l 0 (n-4)):Nat):Int))/\bW w w'/\(bW w1 wx->bW w1 w'):=λwx a=>
    (xR (some (aD b o)) (n-4) c _ wx (dT u _ _) (by omega) ⟨fD (l:=l) (k:=0) (m:=n-4) (by omega),(λh=>by cases h),λx Um i g=>by
   cases Um;rw [aN,Am (by omega) i g];exact cell_later a (s i (by omega))⟩).mono (by rintro e w' ⟨rfl,gW⟩;exact⟨rfl,a.trans (gW.mono a.size),λh=>h.trans (gW.mono h.size)⟩)
 have r:le (part l (n-4) 4)=sumOf (part l 0 (n-4)):=by have:=du;unfold qx at this;rw [G] at this;exact this
 rw [r] at fB;have cQ:=bN;have kW:(∀wx:World,bW w wx->Rd (wx.alloc (.cells #[.slice (some ⟨b,o,none⟩) (n-4) c, .int .i64 0] 223)) wx.heap.size b o c 0 (part l 0 (n-4))/\bW w (wx.alloc (.cells #[.slice (some ⟨b,o,none⟩) (n-4) c, .int .i64 0] 223))):=λwx a=>by
  have A:(part l 0 (n-4)).length=n-4:=fD (by omega);have H:=a.size;refine⟨⟨by show vH _ _ _ _ _ _ _;unfold vH;rw [A];exact heap_alloc_new _ _,by omega,λi g=>?_,dT u _ _,by omega,by omega,by omega,λ_=>by simp;omega⟩,a.alloc H _⟩;rw [A] at g;rw [Am (by omega) i g];exact Lib.cell?_alloc_some _ (cell_later a (s i (by omega)))
 have ajz:=fB;have QL:=fS;generalize sumOf (part l 0 (n-4))=S at*;have D:n-(n-4)=4:=by omega
 have ajA:¬c=n-4:=by omega
 clear s vw o9 t du r fB fS bN;go_in;go_wp2_with fail;rw [<-bO];clear bO;have q:=(ai (bi w1.heap.size w1));have v:=(ai cQ)
 go_region_with (first
  |(go_at_call 185;refine(ajz _ ?_).mono ?_;(first|exact q|exact y);rintro e P ⟨rfl,bd⟩;have d:=bd;clear bd)
  |(go_at_call 143;refine(QL _ ?_).mono ?_;(first|exact v|exact d);rintro e Q ⟨rfl,bF,PE⟩;have f:=bF;(try have y:=(PE q));clear bF PE)
  |(go_at_call 183;refine(sQ _).mono ?_;rintro e R ⟨rfl,rfl⟩))
 all_goals
  go_wp2;go_ret;first
   |exact⟨_,rfl,f.size,(kW _ f).1,(kW _ f).2⟩
   |exact⟨_,rfl,d.size,(kW _ d).1,(kW _ d).2⟩
def An {P:Program} {b:Array Oper} {o:Oper} {a:Act} {K:Act->World->Prop} {Q:Exit->Act->World->Prop} (FU:o.guard=none) (f:FuncId) (args:Array Value)
    (IR:(execOp a.eval o).run P w= .ok (.enter f args) w) (R:Value->World->Prop) (c:Calls P f args w λe w'=>∃v,e= .returned v/\R v w') (h:∀v w',R v w'->K (a.put o.dst v) w'):
  if Region.wanted o (yielded b a.tmps)=true then Oper.wp P o a w K Q else E:=by
 have g:Region.wanted o (yielded b a.tmps)=true:=by simp [Region.wanted,FU]
 rw [aG g];unfold Oper.wp;rw [IR,Oper.upon_enter];refine c.mono ?_;rintro e w' ⟨v,rfl,d⟩;exact h v w' d
def OA {P:Program} {c:Array Oper} {o:Oper} {a:Act} {K:Act->World->Prop} {Q:Exit->Act->World->Prop} (FU:o.guard=none) (f:FuncId) (args:Array Value)
    (IR:(execOp a.eval o).run P w= .ok (.enter f args) w) (b:List PanicEntry) (d:Calls P f args w λe w'=>e= .panicked b/\w'=w) (g:Q (.panic b) a w) (_:False->K (a.put o.dst undef) w):
  if Region.wanted o (yielded c a.tmps)=true then Oper.wp P o a w K Q else E:=by
 have i:Region.wanted o (yielded c a.tmps)=true:=by simp [Region.wanted,FU]
 rw [aG i];unfold Oper.wp;rw [IR,Oper.upon_enter];refine d.mono ?_;rintro e w' ⟨rfl,rfl⟩;exact g
def OB (b o n c:Nat) (l:List Int) (w:World) (G:l.length=n) (H:4<n) (K:n<=1000000) (I:n<=c) (pf:c<=9223372036854775807) (t:Bytes l) (y:∀i,i<n->w.cell? ⟨b,o+i,none⟩=some (.int .u8 (l.getD i 0))) (du:¬qx l):
  Calls prog 149 #[.slice (some (aD b o)) n c] w λe w'=>e= .panicked mV/\bW w w':=by
 have D:b<w.heap.size:=World.block_lt_of_cell? _ _ (y 0 (by omega));have adQ:(n:Int)-4=((n-4:Nat):Int):=by omega
 have M:(0:Int)<=(((n-4:Nat)):Int):=by omega
 have N:(((n-4:Nat)):Int)<=(n:Int):=by omega
 have O:(((n-4:Nat)):Int)<=(c:Int):=by omega
 obtain⟨w1,bO⟩:=bQ (w.alloc (.cells #[.slice (some ⟨b,o+(n-4),none⟩) 4 (c-(n-4)), .int .i64 0] 223));have bN:bW w w1:=by rw [bO];exact(bi _ w).alloc (bS _) _
 have o9:w1.heap[w.heap.size]? =some (.cells #[.slice (some ⟨b,o+(n-4),none⟩) 4 (c-(n-4)), .int .i64 0] 223 (0,0)):=by rw [bO];exact heap_alloc_new _ _
 have sf:w1.heap.size=w.heap.size+1:=by rw [bO];simp
 have p:(part l (n-4) 4).length=4:=fD (by omega);have vw:∀wx:World,bW w1 wx->Rd wx w.heap.size b (o+(n-4)) (c-(n-4)) 0 (part l (n-4) 4):=λwx a=>
    ⟨by show vH _ _ _ _ _ _ _;unfold vH;rw [p];exact(a.block _ (by omega)).trans o9,by omega,λi g=>by
   rw [p] at g;rw [uk g,Nat.add_assoc];exact cell_later (bN.trans (a.mono (by omega))) (y (n-4+i) (by omega)),dT t _ _,by omega,by omega,by omega,λ_=>by have:=a.size;omega⟩
 have fB:∀wx:World,bW w1 wx->Calls prog 185 #[pQ w.heap.size,iV 4] wx λe w'=>e= .returned (iV ((le (part l (n-4) 4):Nat):Int))/\bW w w':=λwx a=>by
  refine(oJ _ _ _ _ 0 4 _ wx (vw wx a) (by omega) (by omega) (by omega)).mono ?_;rintro e w' ⟨rfl,_,F⟩;have z:part (part l (n-4) 4) 0 4=part l (n-4) 4:=by
   show ((part l (n-4) 4).drop 0).take 4=_;rw [List.drop_zero,nr (by omega)]
  have u:=lw (dT t (n-4) 4);rw [p] at u;refine⟨?_,(bN.trans (a.mono (by omega))).trans (F.below (λj J=>by omega) (by have:=a.size;omega))⟩;rw [z];congr 2;unfold wrap64;have:(2:Nat) ^ (8*4)=4294967296:=rfl;omega
 have fS:∀wx:World,bW w wx->Calls prog 143 #[.slice (some (aD b o)) (n-4) c] wx λe w'=>e= .returned (iV ((sumOf (part l 0 (n-4)):Nat):Int))/\bW w w'/\(bW w1 wx->bW w1 w'):=λwx a=>
    (xR (some (aD b o)) (n-4) c _ wx (dT t _ _) (by omega) ⟨fD (l:=l) (k:=0) (m:=n-4) (by omega),(λh=>by cases h),λx Um i g=>by
   cases Um;rw [aN,Am (by omega) i g];exact cell_later a (y i (by omega))⟩).mono (by rintro e w' ⟨rfl,gW⟩;exact⟨rfl,a.trans (gW.mono a.size),λh=>h.trans (gW.mono h.size)⟩)
 have E:le (part l (n-4) 4)≠sumOf (part l 0 (n-4)):=by have:=du;unfold qx at this;rw [G] at this;exact this
 have zT:(((le (part l (n-4) 4):Nat):Int) == ((sumOf (part l 0 (n-4)):Nat):Int))=false:=by rw [Bool.eq_false_iff,ne_eq,beq_iff_eq];omega
 generalize sumOf (part l 0 (n-4))=S at*;generalize le (part l (n-4) 4)=L at*;have A:n-(n-4)=4:=by omega
 have ajA:¬c=n-4:=by omega
 go_in;go_wp2_with fail;rw [<-bO];have d:=(ai (bi w1.heap.size w1));have q:=(ai bN);have aev:(∀wx:World,bW w1 wx->Calls prog 185 #[pQ w.heap.size,iV 4] wx λe w'=>∃v,e= .returned v/\(v=iV (L:Int)/\bW w w')):=λwx a=>(fB wx a).mono (by rintro e w' ⟨rfl,h⟩;exact⟨_,rfl,rfl,h⟩);have aew:(∀wx:World,bW w wx->Calls prog 143 #[.slice (some (aD b o)) (n-4) c] wx λe w'=>∃v,e= .returned v/\(v=iV (S:Int)/\bW w w'/\(bW w1 wx->bW w1 w'))):=λwx a=>(fS wx a).mono (by rintro e w' ⟨rfl,h⟩;exact⟨_,rfl,rfl,h⟩)
 go_region_law
  (first
   |(refine An (by rfl) 185 #[pQ w.heap.size,iV 4] (by simp [go_sem]) _ (aev _ ?_) ?_;(first|exact d|exact r);rintro _ P ⟨rfl,bd⟩;have f:=bd;clear bd)
   |(refine An (by rfl) 143 #[.slice (some (aD b o)) (n-4) c] (by simp [go_sem]) _ (aew _ ?_) ?_;(first|exact q|exact f);rintro _ Q ⟨rfl,bF,PE⟩;have s:=bF;(try have r:=(PE d));clear bF PE)
   |(refine OA (by rfl) 183 #[.bool false] (by simp [go_sem]) mV (Ep _) ?_ ?_;(first|exact⟨rfl,rfl,s⟩|exact⟨rfl,rfl,f⟩);intro C))
 all_goals exact C.elim
def KQ (a:xs=gy):((strOfNums xs).toList == [118,101,108,108,117,109,0,1])=true:=by
 subst a;decide+kernel
def aaA (h:Bytes xs) (a:xs≠gy):((strOfNums xs).toList == [118,101,108,108,117,109,0,1])=false:=by
 rw [Bool.eq_false_iff,ne_eq,beq_iff_eq];intro e;apply a;have:=WF h;rw [<-this];unfold PB;rw [<-ByteArray.toList_eq,e];rfl
def u32 (l:List Int) (k:Nat):Nat:=le (part l k 4)
def aaB (h:Bytes l) (a:k+4<=l.length):u32 l k<4294967296:=by
 have:=lw (dT h k 4);rw [fD a] at this;exact this
def SF (h:Bytes l) (a:k+4<=l.length):wrap64 ((le (part l k 4):Nat):Int)=((u32 l k:Nat):Int):=by
 have:=aaB h a;unfold u32 at*;unfold wrap64;omega
def ut (p b o c k:Nat) (l:List Int) (w:World) (h:Rd w p b o c k l) (a:k+4<=l.length) (Bb:k<c):
  Calls prog 185 #[pQ p,iV 4] w λe w'=>e= .returned (iV ((u32 l k:Nat):Int))/\Rd w' p b o c (k+4) l/\aa (λj=>j=p) w w':=by
 refine(oJ p b o c k 4 l w h a Bb (by omega)).mono ?_;rintro e w' ⟨rfl,d,f⟩;exact⟨by rw [SF h.bytes a],d,f⟩
structure Reads (p g:Nat) (w w':World) (cs:Array Value) (t:TypeId):Prop where
 k:aa (λj=>j=p) w w'
 dI:w'.heap[g]? =some (.cells cs t (0,0))
 ne:g≠p
def Reads.step {t:TypeId} (h:Reads p g w w1 cs t) (a:aa (λj=>j=p) w1 w2):Reads p g w w2 cs t:=
   ⟨h.k.trans a (λ_ h=> .inl h),(a.block g (lR.1 h.dI).1 h.ne).trans h.dI,h.ne⟩
def Reads.below {t:TypeId} (h:Reads p g w w1 cs t) (a:bW w1 w2):Reads p g w w2 cs t:=h.step (aa.ah _ a)
def aa.put (h:aa F w wx) (a:w.heap.size<=g) (v:Value):aa F w (wx.setCell ⟨g,i,none⟩ v):=
 h.trans (aa.setCell (F:=λj=>j=g) (p:=⟨g,i,none⟩) wx rfl v) (λj b=> .inr (by omega))
def aa.more (h:aa F w wx) (o:Obj):aa F w (wx.alloc o):=h.trans (aa.alloc F wx o) (λ_ h=> .inl h)
structure Hf (l:List Int):Prop where
 head:part l 0 8=gy
 tE:ul (part l 20 488)
 geo:vE (u32 l 8) (u32 l 12) (u32 l 16)
def Ex (p b o c:Nat) (l:List Int) (w:World) (h:Rd w p b o c 0 l) (J:l.length=508) (du:Hf l):
  Calls prog 148 #[pQ p] w λe w'=>e= .returned (.agg #[iV ((u32 l 8:Nat):Int),iV ((u32 l 12:Nat):Int),iV ((u32 l 16:Nat):Int)])/\aa (λj=>j=p) w w':=by
 have I:=h.cap;have aaC:=KQ du.head;have py:=(lR.1 h.rd).1;obtain⟨w1,bO⟩:=bQ (w.alloc (.cells #[.int .i64 0, .int .i64 0, .int .i64 0] 40));have bN:bW w w1:=by rw [bO];exact(bi _ w).alloc (bS _) _
 have n:Reads p w.heap.size w w1 #[iV 0,iV 0,iV 0] 40:=⟨aa.ah _ bN,by rw [bO];exact heap_alloc_new _ _,by omega⟩;have u:Calls prog 184 #[pQ p,iV 8] w1 λe w'=>e= .returned (.string (strOfNums (part l 0 8)))/\Rd w' p b o c 8 l/\aa (λj=>j=p) w1 w':=ur p b o c 0 8 l w1 (h.lQ bN) (by omega) (by omega);generalize strOfNums (part l 0 8)=A at*;go_in;go_wp2_with fail;rw [<-bO];refine fR u λC fy aY=>?_;go_wp2_with fail;refine(sQ _).mono ?_;rintro e N ⟨rfl,i⟩;have eM:=i.symm;subst eM;go_wp2_with fail;refine(ut p b o c 8 l C fy (by omega) (by omega)).mono ?_;rintro e D ⟨rfl,wL,dW⟩;go_wp2_with fail;refine(ut p b o c 12 l D wL (by omega) (by omega)).mono ?_;rintro e w5 ⟨rfl,Fe,dX⟩;go_wp2_with fail;refine(ut p b o c 16 l w5 Fe (by omega) (by omega)).mono ?_;rintro e f ⟨rfl,IS,jD⟩;have g:=((((n.step aY).step dW).step dX).step jD);have t:=(lR.1 IS.rd).1;have y:∀wx:World,bW f wx->Calls prog 186 #[pQ p,iV 508] wx λe w'=>e= .returned (.tuple #[])/\Rd w' p b o c 508 l/\aa (λj=>j=p) wx w':=λwx x=>C0 p b o c 20 488 l wx (IS.lQ x) (by omega) (by omega) du.tE;have SH:∀o,bW f (f.alloc o):=λo=>(bi _ f).alloc (bS _) _;go_wp2_with fail;refine(y _ (SH _)).mono ?_;rintro e m ⟨rfl,_,gO⟩;have Mq:m.heap[f.heap.size]? =some (.cells #[.int .i64 ((u32 l 8:Nat):Int), .int .i64 ((u32 l 12:Nat):Int), .int .i64 ((u32 l 16:Nat):Int)] 40 (0,0)):=(gO.block _ (by simp) (by omega)).trans (heap_alloc_new _ _);obtain⟨a,z,s1,s2⟩:=cO du.geo (aM Mq) (bG Mq) (bK Mq);go_wp2_with fail;refine(rb (u32 l 8) (u32 l 12) (u32 l 16) m a.1.1 a.1.2 a.2.1.1 a.2.1.2 a.2.2.1 a.2.2.2.1 a.2.2.2.2).mono ?_;rintro e E ⟨rfl,BN⟩;obtain⟨d,K,L,M,C4⟩:=eK ((((g.below (SH _)).step gO).below BN)) (cell_later BN z) (cell_later BN s1) (cell_later BN s2) (i5 (lR.1 Mq).1 BN.size);have tj:=d.dI;have L4:=λo=>(Below.heap_alloc E o _ (lR.1 tj).1).trans tj;have q:=λo=>aM (L4 o);have r:=λo=>bG (L4 o);have s:=λo=>bK (L4 o);have F:=λo=>ae (L4 o) 0;have G:=λo=>ae (L4 o) 1;have H:=λo=>ae (L4 o) 2;go_wp2_with fail;refine(sQ _).mono ?_;rintro e O ⟨rfl,i⟩;have eM:=i.symm;subst eM;go_wp2;refine bodyPost_ret (v:= .agg #[iV ((u32 l 8:Nat):Int),iV ((u32 l 12:Nat):Int),iV ((u32 l 16:Nat):Int)]) (by simp [results,results148,go_sem,q,r,s]) rfl ⟨rfl,?_⟩;exact(((d.k.more _).put (bS _) _).put (bS _) _).put (bS _) _
def BP (p b o c:Nat) (l:List Int) (w:World) (h:Rd w p b o c 0 l) (m:l.length=508) (du:part l 0 8≠gy):
  Calls prog 148 #[pQ p] w λe w'=>e= .panicked mV/\aa (λj=>j=p) w w':=by
 have i:=h.cap;have aaC:=aaA (dT h.bytes 0 8) du;have py:=(lR.1 h.rd).1;obtain⟨w1,bO⟩:=bQ (w.alloc (.cells #[.int .i64 0, .int .i64 0, .int .i64 0] 40));have bN:bW w w1:=by rw [bO];exact(bi _ w).alloc (bS _) _
 have a:Reads p w.heap.size w w1 #[iV 0,iV 0,iV 0] 40:=⟨aa.ah _ bN,by rw [bO];exact heap_alloc_new _ _,by omega⟩;have d:Calls prog 184 #[pQ p,iV 8] w1 λe w'=>e= .returned (.string (strOfNums (part l 0 8)))/\Rd w' p b o c 8 l/\aa (λj=>j=p) w1 w':=ur p b o c 0 8 l w1 (h.lQ bN) (by omega) (by omega);generalize strOfNums (part l 0 8)=g at*;go_in;go_wp2_with fail;rw [<-bO];refine fR d λn fy aY=>?_;go_wp2_with fail;refine(Ep _).mono ?_;rintro e q ⟨rfl,f⟩;have eM:=f.symm;subst eM;go_wp2;exact⟨rfl,rfl,(a.step aY).k⟩
def BQ (p b o c:Nat) (l:List Int) (w:World) (h:Rd w p b o c 0 l) (x:l.length=508) (g:part l 0 8=gy) (i:¬ul (part l 20 488)):
  Calls prog 148 #[pQ p] w λe w'=>e= .panicked mV/\aa (λj=>j=p) w w':=by
 have v:=h.cap;have aaC:=KQ g;have py:=(lR.1 h.rd).1;obtain⟨w1,bO⟩:=bQ (w.alloc (.cells #[.int .i64 0, .int .i64 0, .int .i64 0] 40));have bN:bW w w1:=by rw [bO];exact(bi _ w).alloc (bS _) _
 have f:Reads p w.heap.size w w1 #[iV 0,iV 0,iV 0] 40:=⟨aa.ah _ bN,by rw [bO];exact heap_alloc_new _ _,by omega⟩;have m:Calls prog 184 #[pQ p,iV 8] w1 λe w'=>e= .returned (.string (strOfNums (part l 0 8)))/\Rd w' p b o c 8 l/\aa (λj=>j=p) w1 w':=ur p b o c 0 8 l w1 (h.lQ bN) (by omega) (by omega);generalize strOfNums (part l 0 8)=s at*;go_in;go_wp2_with fail;rw [<-bO];refine fR m λt fy aY=>?_;go_wp2_with fail;refine(sQ _).mono ?_;rintro e y ⟨rfl,n⟩;have eM:=n.symm;subst eM;go_wp2_with fail;refine(ut p b o c 8 l t fy (by omega) (by omega)).mono ?_;rintro e u ⟨rfl,wL,dW⟩;go_wp2_with fail;refine(ut p b o c 12 l u wL (by omega) (by omega)).mono ?_;rintro e w5 ⟨rfl,Fe,dX⟩;go_wp2_with fail;refine(ut p b o c 16 l w5 Fe (by omega) (by omega)).mono ?_;rintro e a ⟨rfl,IS,jD⟩;have d:=((((f.step aY).step dW).step dX).step jD);have r:∀wx:World,bW a wx->Calls prog 186 #[pQ p,iV 508] wx λe w'=>e= .panicked mV/\aa (λj=>j=p) wx w':=λwx q=>Oq p b o c 20 488 l wx (IS.lQ q) (by omega) (by omega) i;have SH:∀o,bW a (a.alloc o):=λo=>(bi _ a).alloc (bS _) _;go_wp2_with fail;refine(r _ (SH _)).mono ?_;rintro e z ⟨rfl,gO⟩;go_wp2;exact⟨rfl,rfl,((d.below (SH _)).step gO).k⟩
def BR (p b o c:Nat) (l:List Int) (w:World) (h:Rd w p b o c 0 l) (F:l.length=508) (m:part l 0 8=gy) (n:ul (part l 20 488)) (q:¬vE (u32 l 8) (u32 l 12) (u32 l 16)):
  Calls prog 148 #[pQ p] w λe w'=>e= .panicked mV/\aa (λj=>j=p) w w':=by
 have E:=h.cap;have aaC:=KQ m;have py:=(lR.1 h.rd).1;obtain⟨w1,bO⟩:=bQ (w.alloc (.cells #[.int .i64 0, .int .i64 0, .int .i64 0] 40));have bN:bW w w1:=by rw [bO];exact(bi _ w).alloc (bS _) _
 have i:Reads p w.heap.size w w1 #[iV 0,iV 0,iV 0] 40:=⟨aa.ah _ bN,by rw [bO];exact heap_alloc_new _ _,by omega⟩;have u:Calls prog 184 #[pQ p,iV 8] w1 λe w'=>e= .returned (.string (strOfNums (part l 0 8)))/\Rd w' p b o c 8 l/\aa (λj=>j=p) w1 w':=ur p b o c 0 8 l w1 (h.lQ bN) (by omega) (by omega);generalize strOfNums (part l 0 8)=A at*;go_in;go_wp2_with fail;rw [<-bO];refine fR u λC fy aY=>?_;go_wp2_with fail;refine(sQ _).mono ?_;rintro e H ⟨rfl,g⟩;have eM:=g.symm;subst eM;go_wp2_with fail;refine(ut p b o c 8 l C fy (by omega) (by omega)).mono ?_;rintro e D ⟨rfl,wL,dW⟩;go_wp2_with fail;refine(ut p b o c 12 l D wL (by omega) (by omega)).mono ?_;rintro e w5 ⟨rfl,Fe,dX⟩;go_wp2_with fail;refine(ut p b o c 16 l w5 Fe (by omega) (by omega)).mono ?_;rintro e a ⟨rfl,IS,jD⟩;have f:=((((i.step aY).step dW).step dX).step jD);have t:=(lR.1 IS.rd).1;have z:∀wx:World,bW a wx->Calls prog 186 #[pQ p,iV 508] wx λe w'=>e= .returned (.tuple #[])/\Rd w' p b o c 508 l/\aa (λj=>j=p) wx w':=λwx y=>C0 p b o c 20 488 l wx (IS.lQ y) (by omega) (by omega) n;have SH:∀o,bW a (a.alloc o):=λo=>(bi _ a).alloc (bS _) _;go_wp2_with fail;refine(z _ (SH _)).mono ?_;rintro e d ⟨rfl,_,gO⟩;have Mq:d.heap[a.heap.size]? =some (.cells #[.int .i64 ((u32 l 8:Nat):Int), .int .i64 ((u32 l 12:Nat):Int), .int .i64 ((u32 l 16:Nat):Int)] 40 (0,0)):=(gO.block _ (by simp) (by omega)).trans (heap_alloc_new _ _);have YR:Calls prog 92 #[.agg #[iV ((u32 l 8:Nat):Int),iV ((u32 l 12:Nat):Int),iV ((u32 l 16:Nat):Int)]] d λe w'=>e= .returned (.tuple #[.agg #[iV 0,iV 0,iV 0,iV 0,iV 0],iV 22])/\bW d w':=by
  refine(GO _ _ _ d).mono ?_;rintro e w' ⟨v,x,rfl,⟨s,_⟩|⟨_,rfl,rfl⟩,r⟩
  .exact absurd s q
  .exact⟨rfl,r⟩
 have G:=aM Mq;have s1:=bG Mq;have s2:=bK Mq;go_wp2_with fail;refine bM YR λI BN=>?_;go_wp2_with fail;refine(Ep _).mono ?_;rintro e J ⟨rfl,g⟩;have eM:=g.symm;subst eM;go_wp2;exact⟨rfl,rfl,(((f.below (SH _)).step gO).below BN).k.more _⟩
def Ey (p b o c:Nat) (l:List Int) (w:World) (h:Rd w p b o c 0 l) (f:l.length=508) (du:¬Hf l):
  Calls prog 148 #[pQ p] w λe w'=>e= .panicked mV/\aa (λj=>j=p) w w':=by
 by_cases a:part l 0 8=gy
 .by_cases d:ul (part l 20 488)
  .exact BR p b o c l w h f a d (λg=>du ⟨a,d,g⟩)
  .exact BQ p b o c l w h f a d
 .exact BP p b o c l w h f a
def SI:∀{xs:List Int},Bytes xs->bB xs.length (le xs)=xs
 | [],_=>rfl
 |x :: t,h=>by
  have d:=h x (by simp);rw [List.length_cons,bB,le];have a:(x.toNat+256*le t) / 256=le t:=by omega
  have b:(((x.toNat+256*le t)%256:Nat):Int)=x:=by omega
  rw [a,b,(SI (xs:=t) (λy c=>h y (by simp [c])))]
def Ao:∀(k m:Nat),m<256 ^ k->le (bB k m)=m
 |0,m,h=>by simp at h;simp [bB,le,h]
 |k+1,m,h=>by
  have a:m / 256<256 ^ k:=by rw [Nat.pow_succ] at h;exact Nat.div_lt_of_lt_mul (by rw [Nat.mul_comm];exact h)
  rw [bB,le,Ao k _ a];omega
def OC (h:∀x∈l,x=0):l=List.replicate l.length 0:=List.eq_replicate_iff.2 ⟨rfl,h⟩
def kv {a m:Nat} (h:q+m<=a):part (part l 0 a) q m=part l q m:=by
 unfold part;rw [List.drop_zero,List.drop_take,List.take_take];congr 1;omega
def l6 (l:List Int) (q m k:Nat):part l q (m+k)=part l q m ++ part l (q+m) k:=by
 unfold part;rw [List.take_add,List.drop_drop]
def Hg (l:List Int):part l 0 l.length=l:=by simp [part]
def qA (A B:List Int) (q m:Nat) (h:q=A.length):part (A ++ B) q m=B.take m:=by
 subst h;simp [part]
def iX (A B:List Int) (q m:Nat) (h:q+m<=A.length):part (A ++ B) q m=part A q m:=by
 unfold part;rw [List.drop_append_of_le_length (by omega),List.take_append_of_le_length (by simp;omega)]
def uu (a:Bytes l) (b:q+4<=l.length):bB 4 (u32 l q)=part l q 4:=by
 have:=SI (dT a q 4);rw [fD b] at this;exact this
def Ap (l:List Int):Prop:=vE (u32 l 8) (u32 l 12) (u32 l 16)/\eV (bP (u32 l 8) (u32 l 12) (u32 l 16))=l
def C8 (b:Bytes l) (j:l.length=512):(qx l/\Hf (part l 0 508))↔Ap l:=by
 have u1:u32 (part l 0 508) 8=u32 l 8:=by unfold u32;rw [kv (by omega)]
 have u2:u32 (part l 0 508) 12=u32 l 12:=by unfold u32;rw [kv (by omega)]
 have u3:u32 (part l 0 508) 16=u32 l 16:=by unfold u32;rw [kv (by omega)]
 have QK:part l 0 508=part l 0 8 ++ part l 8 4 ++ part l 12 4 ++ part l 16 4 ++ part l 20 488:=by
  rw [show (508:Nat)=8+4+4+4+488 from rfl,l6,l6,l6,l6]
 have aaD:l=part l 0 508 ++ part l 508 4:=by
  have:=l6 l 0 508 4;rw [show 508+4=l.length by omega,Hg] at this;exact this
 constructor
 .rintro ⟨f,i,k,c⟩;rw [u1,u2,u3] at c;rw [kv (by omega)] at i k;refine⟨c,?_⟩;have e:bP (u32 l 8) (u32 l 12) (u32 l 16)=part l 0 508:=by
   rw [QK,i,<-uu b (q:=8) (by omega),<-uu b (q:=12) (by omega),<-uu b (q:=16) (by omega)];have:=OC k;rw [fD (by omega)] at this;rw [this];rfl
  unfold eV;rw [e];unfold qx at f;rw [j] at f;have m:u32 l 508=sumOf (part l 0 508):=f;rw [<-m,(uu b (q:=508) (by omega))];exact aaD.symm
 .rintro ⟨c,g⟩;have a:=dG (u32 l 8) (u32 l 12) (u32 l 16);have SJ:part l 0 508=bP (u32 l 8) (u32 l 12) (u32 l 16):=by
   conv=>lhs;rw [<-g]
   unfold eV;rw [iX _ _ _ _ (by omega)];have:=Hg (bP (u32 l 8) (u32 l 12) (u32 l 16));rw [a] at this;exact this
  have FT:part l 508 4=bB 4 (sumOf (bP (u32 l 8) (u32 l 12) (u32 l 16))):=by
   conv=>lhs;rw [<-g]
   unfold eV;rw [qA _ _ _ _ a.symm,nr (by rw [aK];omega)]
  refine⟨?_,?_,?_,?_⟩
  .unfold qx;rw [j];show le (part l 508 4)=sumOf (part l 0 508);rw [FT,SJ,Ao _ _ (by have:=np (ia (u32 l 8) (u32 l 12) (u32 l 16));omega)]
  .rw [SJ];unfold bP;rw [List.append_assoc,List.append_assoc,List.append_assoc,iX _ _ _ _ (by decide)];rfl
  .rw [SJ];unfold bP;have d:(gy ++ bB 4 (u32 l 8) ++ bB 4 (u32 l 12) ++ bB 4 (u32 l 16)).length=20:=(by rw [ed,ed,ed,aK,aK,aK];rfl);rw [qA _ _ _ _ d.symm];intro x n;exact List.eq_of_mem_replicate (List.mem_of_mem_take n)
  .rw [u1,u2,u3];exact c
def uv (a c:Nat) (f g i:Value) (x:Value) (w:World) (b:w.heap[a]? =some (.cells #[f,g,i] 40 (0,0))) (d:w.heap[c]? =some (.cells #[x] 46 (0,0))) (dM:a≠c):
  CallsD prog 147 #[pQ a,pQ c] (.panicking mV) w λe k w'=>
   e= .returned (.tuple #[])/\k= .panicking [{v:= .iface 46 (iV 6),recovered:=true}]/\w'=(((w.setCell ⟨a,0,none⟩ (.int .i64 0)).setCell ⟨a,1,none⟩ (.int .i64 0)).setCell ⟨a,2,none⟩ (.int .i64 0)).setCell ⟨c,0,none⟩ (.int .i64 6):=by
 have ajD:¬c=a:=λe=>dM e.symm;refine callsD_of_wpS func147 rfl λl cs j=>?_;apply wpS_seq;apply wpS_region;simp [wpOpsS,go_sem,recoverD,j,ntmps147,Exit.thenS];refine wpS_cond (t:=true) (by simp [Act.eval,Array.replicate]) ?_;simp only [if_true];apply wpS_region;simp [wpOpsS,go_sem,aM b,bG b,bK b,ae b 0,ae b 1,ae b 2,aM d,ae d 0,bodyPostS,results,results147]
def Hi (b c:Nat) (w:World):
  CallsD prog 147 #[pQ b,pQ c] .returning w λe f w'=>e= .returned (.tuple #[])/\f= .returning/\w'=w:=by
 refine callsD_of_wpS func147 rfl λa cs d=>?_;apply wpS_seq;apply wpS_region;simp [wpOpsS,go_sem,recoverD,d,ntmps147,Exit.thenS];refine wpS_cond (t:=false) (by simp [Act.eval,Array.replicate]) ?_;simp only [Bool.false_eq_true,if_false];refine wpS_of_wp (wp_skip ?_);cases a
 simp_all [bodyPostS,results,results147]
def rj {B:Nat} (h:Below B w wx) (b:B<=g) (a:B<=wx.heap.size) (v:Value):Below B w (wx.setCell ⟨g,i,none⟩ v):=
 h.trans ((aa.setCell (F:=λj=>j=g) (p:=⟨g,i,none⟩) wx rfl v).below (λj c=>by omega) a)
def size_setCell (w:World) (a:Addr) (v:Value):(w.setCell a v).heap.size=w.heap.size:=by simp [World.setCell]
def KR {B:Nat} (h:Below B w wx) {a:Nat} (c:B<=a) (d:B<=g2) (b:B<=wx.heap.size) (x y z u:Value):
  Below B w ((((wx.setCell ⟨a,0,none⟩ x).setCell ⟨a,1,none⟩ y).setCell ⟨a,2,none⟩ z).setCell ⟨g2,0,none⟩ u):=
 rj (rj (rj (rj h c b x) c (by rw [size_setCell];exact b) y) c (by rw [size_setCell,size_setCell];exact b) z) d (by rw [size_setCell,size_setCell,size_setCell];exact b) u
def oO (l:List Int):Prop:=qx l/\Hf (part l 0 508)
def Hk (b o c:Nat) (l:List Int) (w:World) (u:l.length=512) (s:512<=c) (pf:c<=9223372036854775807) (r:Bytes l) (v:∀i,i<512->w.cell? ⟨b,o+i,none⟩=some (.int .u8 (l.getD i 0))) (du:oO l):
  Calls prog 104 #[.slice (some (aD b o)) 512 c] w λe w'=>e= .returned (.tuple #[.agg #[iV ((u32 l 8:Nat):Int),iV ((u32 l 12:Nat):Int),iV ((u32 l 16:Nat):Int)],iV 0])/\bW w w':=by
 obtain⟨w1,bO⟩:=bQ ((w.alloc (.cells #[.int .i64 0, .int .i64 0, .int .i64 0] 40)).alloc (.cells #[.int .i64 0] 46));have bN:bW w w1:=by rw [bO];exact cm w _ _
 have sf:w1.heap.size=w.heap.size+2:=by rw [bO];simp
 have po:w1.heap[w.heap.size]? =some (.cells #[.int .i64 0, .int .i64 0, .int .i64 0] 40 (0,0)):=by rw [bO];exact heap_alloc2_old _ _ _
 have fZ:w1.heap[w.heap.size+1]? =some (.cells #[.int .i64 0] 46 (0,0)):=by rw [bO];exact heap_alloc2_new _ _ _
 go_enter_defers func104,ntmps104
 go_wp2_with fail;rw [<-bO];refine(C7 b o 512 c l w1 u (by omega) (by omega) s pf r (λi t=>cell_later bN (v i t)) du.1).mono ?_;rintro e x ⟨p,rfl,E,vw,bd⟩;have pB:=Ex p b o c (part l 0 508) x vw (fD (by omega)) du.2;have dP:=bN.trans (bd.mono bN.size);have a:=((bd.block w.heap.size (by omega)).trans po);have d:=((bd.block (w.heap.size+1) (by omega)).trans fZ);have g:u32 (part l 0 508) 8=u32 l 8:=by unfold u32;congr 1;simp [part,List.drop_take,List.take_take]
 have ajE:u32 (part l 0 508) 12=u32 l 12:=by unfold u32;congr 1;simp [part,List.drop_take,List.take_take]
 have ajF:u32 (part l 0 508) 16=u32 l 16:=by unfold u32;congr 1;simp [part,List.drop_take,List.take_take]
 rw [g,ajE,ajF] at pB;go_wp2_with fail;refine bM pB λG aZ=>?_;have po:=(aZ.block w.heap.size (lR.1 a).1 (by omega)).trans a;have fZ:=(aZ.block (w.heap.size+1) (lR.1 d).1 (by omega)).trans d;obtain⟨gd,k,m,n,z,A,C,q,y⟩:=MQ (dP.trans (aZ.below (λj D=>by omega) dP.size)) (aM po) (bG po) (bK po) (ae po 0) (ae po 1) (ae po 2) (aM fZ) (ae fZ 0);go_wp2;refine leaves_cons (f:=147) (args:= #[pQ w.heap.size, .pointer (some ⟨w.heap.size+1,0,none⟩)]) (by simp) (by simp [go_sem]) ?_;refine(Hi _ _ _).mono ?_;rintro e F Bi ⟨rfl,rfl,rfl⟩;simp [Leaves,settle,results,results104,go_sem,k,m,n,q];exact(KR gd (bS w.heap.size) (show w.heap.size<=w.heap.size+1 by omega) gd.size (iV ((u32 l 8:Nat):Int)) (iV ((u32 l 12:Nat):Int)) (iV ((u32 l 16:Nat):Int)) (iV 0))
def Ez (b o c:Nat) (l:List Int) (w:World) (m:l.length=512) (j:512<=c) (pf:c<=9223372036854775807) (g:Bytes l) (n:∀i,i<512->w.cell? ⟨b,o+i,none⟩=some (.int .u8 (l.getD i 0))) (d:¬qx l):
  Calls prog 104 #[.slice (some (aD b o)) 512 c] w λe w'=>e= .returned (.tuple #[.agg #[iV 0,iV 0,iV 0],iV 6])/\bW w w':=by
 obtain⟨w1,bO⟩:=bQ ((w.alloc (.cells #[.int .i64 0, .int .i64 0, .int .i64 0] 40)).alloc (.cells #[.int .i64 0] 46));have bN:bW w w1:=by rw [bO];exact cm w _ _
 have sf:w1.heap.size=w.heap.size+2:=by rw [bO];simp
 have po:w1.heap[w.heap.size]? =some (.cells #[.int .i64 0, .int .i64 0, .int .i64 0] 40 (0,0)):=by rw [bO];exact heap_alloc2_old _ _ _
 have fZ:w1.heap[w.heap.size+1]? =some (.cells #[.int .i64 0] 46 (0,0)):=by rw [bO];exact heap_alloc2_new _ _ _
 go_enter_defers func104,ntmps104
 go_wp2_with fail;rw [<-bO];refine(OB b o 512 c l w1 m (by omega) (by omega) j pf g (λi k=>cell_later bN (n i k)) d).mono ?_;rintro e q ⟨rfl,bd⟩;have dP:=bN.trans (bd.mono bN.size);have a:=(aH ((bd.block w.heap.size (by omega)).trans po) ((bd.block (w.heap.size+1) (by omega)).trans fZ));go_wp2;refine leaves_cons (f:=147) (args:= #[pQ w.heap.size, .pointer (some ⟨w.heap.size+1,0,none⟩)]) (by simp) (by simp [go_sem]) ?_;refine(uv w.heap.size (w.heap.size+1) _ _ _ _ _ a.1 a.2 (by omega)).mono ?_;rintro e p Bi ⟨rfl,rfl,rfl⟩;simp [Leaves,settle,results,results104,go_sem,aM a.1,bG a.1,bK a.1,(aM a.2)];exact(KR dP (bS w.heap.size) (show w.heap.size<=w.heap.size+1 by omega) dP.size (iV 0) (iV 0) (iV 0) (iV 6))
def EA (b o c:Nat) (l:List Int) (w:World) (s:l.length=512) (q:512<=c) (pf:c<=9223372036854775807) (n:Bytes l) (t:∀i,i<512->w.cell? ⟨b,o+i,none⟩=some (.int .u8 (l.getD i 0))) (k:qx l) (m:¬Hf (part l 0 508)):
  Calls prog 104 #[.slice (some (aD b o)) 512 c] w λe w'=>e= .returned (.tuple #[.agg #[iV 0,iV 0,iV 0],iV 6])/\bW w w':=by
 obtain⟨w1,bO⟩:=bQ ((w.alloc (.cells #[.int .i64 0, .int .i64 0, .int .i64 0] 40)).alloc (.cells #[.int .i64 0] 46));have bN:bW w w1:=by rw [bO];exact cm w _ _
 have sf:w1.heap.size=w.heap.size+2:=by rw [bO];simp
 have po:w1.heap[w.heap.size]? =some (.cells #[.int .i64 0, .int .i64 0, .int .i64 0] 40 (0,0)):=by rw [bO];exact heap_alloc2_old _ _ _
 have fZ:w1.heap[w.heap.size+1]? =some (.cells #[.int .i64 0] 46 (0,0)):=by rw [bO];exact heap_alloc2_new _ _ _
 go_enter_defers func104,ntmps104
 go_wp2_with fail;rw [<-bO];refine(C7 b o 512 c l w1 s (by omega) (by omega) q pf n (λi r=>cell_later bN (t i r)) k).mono ?_;rintro e u ⟨p,rfl,x,vw,bd⟩;have dP:=bN.trans (bd.mono bN.size);have d:=((bd.block w.heap.size (by omega)).trans po);have g:=((bd.block (w.heap.size+1) (by omega)).trans fZ);go_wp2_with fail;refine(Ey p b o c (part l 0 508) u vw (fD (by omega)) m).mono ?_;rintro e z ⟨rfl,aZ⟩;have po:=(aZ.block w.heap.size (lR.1 d).1 (by omega)).trans d;have fZ:=(aZ.block (w.heap.size+1) (lR.1 g).1 (by omega)).trans g;have gd:=dP.trans (aZ.below (λj v=>by omega) dP.size);have a:=(aH po fZ);go_wp2;refine leaves_cons (f:=147) (args:= #[pQ w.heap.size, .pointer (some ⟨w.heap.size+1,0,none⟩)]) (by simp) (by simp [go_sem]) ?_;refine(uv w.heap.size (w.heap.size+1) _ _ _ _ _ a.1 a.2 (by omega)).mono ?_;rintro e y Bi ⟨rfl,rfl,rfl⟩;simp [Leaves,settle,results,results104,go_sem,aM a.1,bG a.1,bK a.1,(aM a.2)];exact(KR gd (bS w.heap.size) (show w.heap.size<=w.heap.size+1 by omega) gd.size (iV 0) (iV 0) (iV 0) (iV 6))
def Ht (b o c:Nat) (l:List Int) (w:World) (g:l.length=512) (f:512<=c) (pf:c<=9223372036854775807) (d:Bytes l) (j:∀i,i<512->w.cell? ⟨b,o+i,none⟩=some (.int .u8 (l.getD i 0))) (du:¬oO l):
  Calls prog 104 #[.slice (some (aD b o)) 512 c] w λe w'=>e= .returned (.tuple #[.agg #[iV 0,iV 0,iV 0],iV 6])/\bW w w':=by
 by_cases a:qx l
 .exact EA b o c l w g f pf d j a (λk=>du ⟨a,k⟩)
 .exact Ez b o c l w g f pf d j a
section
section
variable {w:World} {F:Nat->Prop} {p s c:Nat} {S:DS}
def OD (h:B.ax w F p s S c) (k:Nat) (j:k<s) (aU:S.puts.length+1<=4000000000000) (f:S.fuse≠0):
  Calls prog 68 #[pQ p,iV (k:Int)] w λe w'=>∃g a,e= .returned (.tuple #[.slice (some (aD g 0)) 512 a,iV 0])/\w.heap.size<=g/\ay w' 5 g a (bs (S.now k))/\B.ax w' F p s S (c+1)/\aa F w w':=by
 obtain⟨r,h,l⟩:=h;refine(LQ h k f j (by show S.puts.length<=_;omega)).mono ?_;rintro e w' ⟨g,a,rfl,i,be,b,d⟩;exact⟨g,a,rfl,i,be,⟨_,b,l.read⟩,d⟩
end
def mI (l:List Int) (s:Nat):Prop:=oO l/\u32 l 8=s
def cE (l:List Int):LY:=⟨u32 l 12,3+u32 l 12,u32 l 8-(3+u32 l 12),u32 l 16,2+u32 l 16 / 4⟩
abbrev Yk:LY:=⟨0,0,0,0,0⟩
def SK (S:DS) (s:Nat) (y:LY) (x:Int):Prop:=
   (S.fuse=0/\y=Yk/\x=3)\/(S.fuse≠0/\mI (S.now 0) s/\y=cE (S.now 0)/\x=0)\/(S.fuse≠0/\¬mI (S.now 0) s/\y=Yk/\x=6)
def oO.geo (h:oO l):vE (u32 l 8) (u32 l 12) (u32 l 16):=by
 simpa only [u32,kv (show 8+4<=508 by omega),kv (show 12+4<=508 by omega),kv (show 16+4<=508 by omega)] using h.2.geo
def SL (l:List Int) {s:Nat} (d:u32 l 8=s) (e:((u32 l 12:Nat):Int)+((u32 l 16:Nat):Int) / 4+6<=(s:Int)):
  Ending.returned (.tuple #[.agg #[iV ((u32 l 12:Nat):Int),iV (3+((u32 l 12:Nat):Int)),iV ((s:Int)-(3+((u32 l 12:Nat):Int))),iV ((u32 l 16:Nat):Int),iV (2+((u32 l 16:Nat):Int) / 4)],iV 0])=Ending.returned (.tuple #[PD (cE l),iV 0]):=by
 unfold cE PD;generalize u32 l 12=y at*;generalize u32 l 16=z at*;rw [d];have a:((3+y:Nat):Int)=3+(y:Int):=by omega
 have b:((s-(3+y):Nat):Int)=(s:Int)-(3+(y:Int)):=by omega
 have c:((2+z / 4:Nat):Int)=2+(z:Int) / 4:=by omega
 simp only [a,b,c]
def SM {j l m n o:Value} {t:TypeId} (h:W.heap[g]? =some (.cells #[j,l,m,n,o] t (0,0))) (b c d e f:Value):
    (((((W.setCell ⟨g,0,none⟩ b).setCell ⟨g,1,none⟩ c).setCell ⟨g,2,none⟩ d).setCell ⟨g,3,none⟩ e).setCell ⟨g,4,none⟩ f).heap[g]? =some (.cells #[b,c,d,e,f] t (0,0))/\aa (λk=>k=g) W (((((W.setCell ⟨g,0,none⟩ b).setCell ⟨g,1,none⟩ c).setCell ⟨g,2,none⟩ d).setCell ⟨g,3,none⟩ e).setCell ⟨g,4,none⟩ f):=by
 refine⟨PX b c d e f h,?_⟩;have a:=λ(w:World) (i:Nat) (v:Value)=>aa.setCell (F:=λk=>k=g) w (p:=(aD g i)) rfl v;exact((((a _ 0 b).trans (a _ 1 c) (λ_ h=> .inl h)).trans (a _ 2 d) (λ_ h=> .inl h)).trans (a _ 3 e) (λ_ h=> .inl h)).trans (a _ 4 f) (λ_ h=> .inl h)
def uw {w:World} {F:Nat->Prop} {p s c:Nat} {S:DS} (h:B.ax w F p s S c) (dD:S.fL) (aU:S.puts.length+1<=4000000000000):
  Calls prog 43 #[pQ p] w λe w'=>∃y x,e= .returned (.tuple #[PD y,iV x])/\SK S s y x/\B.ax w' F p s S (c+1)/\aa F w w':=by
 obtain⟨w0,VJ⟩:=bQ (w.alloc (.cells #[.int .i64 0, .int .i64 0, .int .i64 0, .int .i64 0, .int .i64 0] 75));have fO:bW w w0:=by rw [VJ];exact aJ _ _
 have dH:w0.heap[w.heap.size]? =some (.cells #[.int .i64 0, .int .i64 0, .int .i64 0, .int .i64 0, .int .i64 0] 75 (0,0)):=by rw [VJ];exact heap_alloc_new _ _
 have xn:=h.later fO;have bq:=h.lt;go_in;go_wp2_with fail;by_cases A:S.fuse=0
 .have z:=B.oz xn 0 A;have t:=(aH xn (aH fO dH));subst VJ;clear h xn fO dH;refine bM z λw1 bO=>?_;subst bO;clear z;go_wp2;exact bodyPost_ret (v:= .tuple #[PD Yk,iV 3]) (by simp [results,results43,go_sem]) rfl ⟨Yk,3,rfl, .inl ⟨A,rfl,rfl⟩,t.1.le (by omega),aa.ah F t.2.1⟩
 .have du:=h.ok;have z:=OD xn 0 (by have:=du.lo;omega) aU A;have Y:=bu du 0 (by have:=du.lo;omega);have xH:=dD.now 0;have t:=(aH fO dH);have gB:w0.heap.size=w.heap.size+1:=by rw [VJ,World.size_alloc]
  have X:=gB;rw [VJ] at t X z;clear h xn fO dH VJ gB w0;refine z.mono ?_;rintro e w1 ⟨g,J,rfl,hg,be,iN,ff⟩;clear z;have WG:=(ff.block w.heap.size (by rw [X];omega) (λo=>by have:=bq _ o;omega)).trans t.2;have Ps:=be.le;have Ee:=be.max;have kU:∀i,i<512->w1.cell? ⟨g,0+i,none⟩=some (.int .u8 ((S.now 0).getD i 0)):=λi hi=>by
   have:=be.byte (i:=i) (by omega);rwa [aN] at this
  have RZ:512<=J:=by rw [<-Y];simpa [bs] using Ps
  have aeB:J<=9223372036854775807:=by unfold maxLen at Ee;omega
  have ew:=(aa.ah F t.1).trans ff (λ_ h=> .inl h);have bO:=ff.size;rw [X] at bO;by_cases r:oO (S.now 0)
  .have C:=Hk g 0 J (S.now 0) w1 Y RZ aeB xH kU r;have n:=r.geo;have m:=(aH iN (aH ew (aH WG r)));clear be iN ff kU WG ew Ps Ee r;go_wp2_with fail;refine bM C λl bd=>?_;clear C;have eu:=bd.size;obtain⟨b,eG⟩:∃b,b=l.alloc (.cells #[.int .i64 ((u32 (S.now 0) 8:Nat):Int), .int .i64 ((u32 (S.now 0) 12:Nat):Int), .int .i64 ((u32 (S.now 0) 16:Nat):Int)] 40):=⟨_,rfl⟩;have OE:b.heap[l.heap.size]? =some (.cells #[.int .i64 ((u32 (S.now 0) 8:Nat):Int), .int .i64 ((u32 (S.now 0) 12:Nat):Int), .int .i64 ((u32 (S.now 0) 16:Nat):Int)] 40 (0,0)):=(by rw [eG];exact heap_alloc_new _ _);have bF:bW w1 b:=(by rw [eG];exact bd.alloc eu _);have ly:b.heap.size=l.heap.size+1:=(by rw [eG,World.size_alloc]);go_wp2_with fail;rw [<-eG];clear eG bd;have f:=m.1.later bF;have sU:=(bF.block w.heap.size (by omega)).trans m.2.2.1;have SN:=m.2.1.trans (aa.ah (λ_=>False) bF) (λ_ h=>h.elim);have c0:=aM OE;have nP:=λk=>B.pS (f.later (below_drewN (bi _ _) k));have a:=(aH f (aH SN (aH sU OE)));clear f SN sU OE bF;by_cases oC:u32 (S.now 0) 8=s
   .have WH:(((u32 (S.now 0) 8:Nat):Int) == ((s:Nat):Int))=true:=(by rw [oC];simp);go_quiet (first|(go_at_call 36;refine Calls.quiet_of_same (nP _)));have d:∀k,bW b (b.drewN k):=λk=>below_drewN (bi _ _) k;have fd:=(λk=>aH (a.1.later (d k)) (aH (a.2.1.trans (aa.ah (λ_=>False) (d k)) (λ_ h=>h.elim)) (aH (((d k).block w.heap.size (by omega)).trans a.2.2.1) (((d k).block l.heap.size (by omega)).trans a.2.2.2))));clear a c0 nP d;rename_i nq _;have a:=(fd nq);have Hu:(b.drewN nq).heap.size=b.heap.size:=rfl;clear fd;generalize b.drewN nq=W at*;obtain⟨P,Q,R,T,U,K,L,M,N,O,s0,s1⟩:=Fs (aM a.2.2.1) (bG a.2.2.1) (bK a.2.2.1) (fQ a.2.2.1) (gG a.2.2.1) (ae a.2.2.1 0) (ae a.2.2.1 1) (ae a.2.2.1 2) (ae a.2.2.1 3) (ae a.2.2.1 4) (aM a.2.2.2) (bG a.2.2.2);have s2:=bK a.2.2.2;have py:=rb (s:Int) ((u32 (S.now 0) 12:Nat):Int) ((u32 (S.now 0) 16:Nat):Int) W (by have:=n;rw [oC] at this;exact this.1.1) (by have:=n;rw [oC] at this;exact this.1.2) (by have:=n;rw [oC] at this;exact this.2.1.1) (by have:=n;rw [oC] at this;exact this.2.1.2) (by have:=n;rw [oC] at this;exact this.2.2.1) (by have:=n;rw [oC] at this;exact this.2.2.2.1) (by have:=n;rw [oC] at this;exact this.2.2.2.2);go_wp2_with fail;refine bM py λW3 q=>?_;clear py P Q R T U K L M N O s0 s1 s2;have Aq:=(q.block w.heap.size (by omega)).trans a.2.2.1;have HX:=(aH (a.1.later q) (a.2.1.trans (aa.ah (λ_=>False) q) (λ_ h=>h.elim)));obtain⟨P,Q,R,T,U,K,L,M,N,O⟩:=vV (aM Aq) (bG Aq) (bK Aq) (fQ Aq) (gG Aq) (ae Aq 0) (ae Aq 1) (ae Aq 2) (ae Aq 3) (ae Aq 4);have Z:Ending.returned (.tuple #[.agg #[(iV ((u32 (S.now 0) 12:Nat):Int)),(iV (3+((u32 (S.now 0) 12:Nat):Int))),(iV ((s:Int)-(3+((u32 (S.now 0) 12:Nat):Int)))),(iV ((u32 (S.now 0) 16:Nat):Int)),(iV (2+((u32 (S.now 0) 16:Nat):Int) / 4))],iV 0])=Ending.returned (.tuple #[PD (cE (S.now 0)),iV 0]):=by
     have h3:=n.2.2.2.1;rw [oC] at h3;exact SL (S.now 0) oC h3
    go_wp2;obtain⟨BS,qq⟩:=SM Aq (iV ((u32 (S.now 0) 12:Nat):Int)) (iV (3+((u32 (S.now 0) 12:Nat):Int))) (iV ((s:Int)-(3+((u32 (S.now 0) 12:Nat):Int)))) (iV ((u32 (S.now 0) 16:Nat):Int)) (iV (2+((u32 (S.now 0) 16:Nat):Int) / 4));generalize ((((W3.setCell ⟨w.heap.size,0,none⟩ (.int .i64 ((u32 (S.now 0) 12:Nat):Int))).setCell ⟨w.heap.size,1,none⟩ (.int .i64 (3+((u32 (S.now 0) 12:Nat):Int)))).setCell ⟨w.heap.size,2,none⟩ (.int .i64 ((s:Int)-(3+((u32 (S.now 0) 12:Nat):Int))))).setCell ⟨w.heap.size,3,none⟩ (.int .i64 ((u32 (S.now 0) 16:Nat):Int))).setCell ⟨w.heap.size,4,none⟩ (.int .i64 (2+((u32 (S.now 0) 16:Nat):Int) / 4))=WW at*;obtain⟨D,E,G,H,I⟩:=eK (aj BS (j:=0) (u:=(iV ((u32 (S.now 0) 12:Nat):Int))) rfl) (aj BS (j:=1) (u:=(iV (3+((u32 (S.now 0) 12:Nat):Int)))) rfl) (aj BS (j:=2) (u:=(iV ((s:Int)-(3+((u32 (S.now 0) 12:Nat):Int))))) rfl) (aj BS (j:=3) (u:=(iV ((u32 (S.now 0) 16:Nat):Int))) rfl) (aj BS (j:=4) (u:=(iV (2+((u32 (S.now 0) 16:Nat):Int) / 4))) rfl);exact bodyPost_ret (v:= .tuple #[.agg #[(iV ((u32 (S.now 0) 12:Nat):Int)),(iV (3+((u32 (S.now 0) 12:Nat):Int))),(iV ((s:Int)-(3+((u32 (S.now 0) 12:Nat):Int)))),(iV ((u32 (S.now 0) 16:Nat):Int)),(iV (2+((u32 (S.now 0) 16:Nat):Int) / 4))],iV 0]) (by simp [results,results43,go_sem,D,E,G,H,I]) rfl ⟨cE (S.now 0),0,Z, .inr (.inl ⟨A,⟨m.2.2.2,oC⟩,rfl,rfl⟩),HX.1.aw qq (λk o e=>by subst e;have:=bq _ o;omega),HX.2.trans qq (λk e=> .inr (by omega))⟩
   .have WH:(((u32 (S.now 0) 8:Nat):Int) == ((s:Nat):Int))=false:=(by rw [fJ];omega);go_quiet (first|(go_at_call 36;refine Calls.quiet_of_same (nP _)));have d:∀k,bW b (b.drewN k):=λk=>below_drewN (bi _ _) k;have fd:=(λk=>aH (a.1.later (d k)) (aH (a.2.1.trans (aa.ah (λ_=>False) (d k)) (λ_ h=>h.elim)) (aH (((d k).block w.heap.size (by omega)).trans a.2.2.1) (((d k).block l.heap.size (by omega)).trans a.2.2.2))));clear a c0 nP d;rename_i nq _;have a:=(fd nq);have Hu:(b.drewN nq).heap.size=b.heap.size:=rfl;clear fd;generalize b.drewN nq=W at*;obtain⟨P,Q,R,T,U,K,L,M,N,O⟩:=vV (aM a.2.2.1) (bG a.2.2.1) (bK a.2.2.1) (fQ a.2.2.1) (gG a.2.2.1) (ae a.2.2.1 0) (ae a.2.2.1 1) (ae a.2.2.1 2) (ae a.2.2.1 3) (ae a.2.2.1 4);have aqs:(((u32 (S.now 0) 8:Nat):Int) != ((s:Nat):Int))=true:=(by simp [bne,WH]);go_wp2;obtain⟨BS,qq⟩:=SM a.2.2.1 (iV 0) (iV 0) (iV 0) (iV 0) (iV 0);generalize ((((W.setCell ⟨w.heap.size,0,none⟩ (.int .i64 0)).setCell ⟨w.heap.size,1,none⟩ (.int .i64 0)).setCell ⟨w.heap.size,2,none⟩ (.int .i64 0)).setCell ⟨w.heap.size,3,none⟩ (.int .i64 0)).setCell ⟨w.heap.size,4,none⟩ (.int .i64 0)=WW at*;obtain⟨D,E,G,H,I⟩:=eK (aj BS (j:=0) (u:=(iV 0)) rfl) (aj BS (j:=1) (u:=(iV 0)) rfl) (aj BS (j:=2) (u:=(iV 0)) rfl) (aj BS (j:=3) (u:=(iV 0)) rfl) (aj BS (j:=4) (u:=(iV 0)) rfl);exact bodyPost_ret (v:= .tuple #[.agg #[(iV 0),iV 0,iV 0,iV 0,(iV 0)],iV 6]) (by simp [results,results43,go_sem,D,E,G,H,I]) rfl ⟨Yk,6,rfl, .inr (.inr ⟨A,λh=>oC h.2,rfl,rfl⟩),a.1.aw qq (λk o e=>by subst e;have:=bq _ o;omega),a.2.1.trans qq (λk e=> .inr (by omega))⟩
  .have C:=Ht g 0 J (S.now 0) w1 Y RZ aeB xH kU r;have m:=(aH iN (aH ew (aH WG r)));clear be iN ff kU WG ew Ps Ee r;go_wp2_with fail;refine bM C λl bd=>?_;clear C;have eu:=bd.size;obtain⟨b,eG⟩:=bQ (l.alloc (.cells #[.int .i64 0, .int .i64 0, .int .i64 0] 40));have OE:b.heap[l.heap.size]? =some (.cells #[.int .i64 0, .int .i64 0, .int .i64 0] 40 (0,0)):=(by rw [eG];exact heap_alloc_new _ _);have bF:bW w1 b:=(by rw [eG];exact bd.alloc eu _);have ly:b.heap.size=l.heap.size+1:=(by rw [eG,World.size_alloc]);go_wp2_with fail;rw [<-eG];clear eG bd;have f:=m.1.later bF;have sU:=(bF.block w.heap.size (by omega)).trans m.2.2.1;have SN:=m.2.1.trans (aa.ah (λ_=>False) bF) (λ_ h=>h.elim);have a:=(aH f (aH SN (aH sU OE)));clear f SN sU OE bF;go_quiet (fail);have d:∀k,bW b (b.drewN k):=λk=>below_drewN (bi _ _) k;have fd:=(λk=>aH (a.1.later (d k)) (aH (a.2.1.trans (aa.ah (λ_=>False) (d k)) (λ_ h=>h.elim)) (aH (((d k).block w.heap.size (by omega)).trans a.2.2.1) (((d k).block l.heap.size (by omega)).trans a.2.2.2))));clear a d;rename_i nq _;have a:=(fd nq);have Hu:(b.drewN nq).heap.size=b.heap.size:=rfl;clear fd;generalize b.drewN nq=W at*;obtain⟨P,Q,R,T,U,K,L,M,N,O⟩:=vV (aM a.2.2.1) (bG a.2.2.1) (bK a.2.2.1) (fQ a.2.2.1) (gG a.2.2.1) (ae a.2.2.1 0) (ae a.2.2.1 1) (ae a.2.2.1 2) (ae a.2.2.1 3) (ae a.2.2.1 4);go_wp2;obtain⟨BS,qq⟩:=SM a.2.2.1 (iV 0) (iV 0) (iV 0) (iV 0) (iV 0);generalize ((((W.setCell ⟨w.heap.size,0,none⟩ (.int .i64 0)).setCell ⟨w.heap.size,1,none⟩ (.int .i64 0)).setCell ⟨w.heap.size,2,none⟩ (.int .i64 0)).setCell ⟨w.heap.size,3,none⟩ (.int .i64 0)).setCell ⟨w.heap.size,4,none⟩ (.int .i64 0)=WW at*;obtain⟨D,E,G,H,I⟩:=eK (aj BS (j:=0) (u:=(iV 0)) rfl) (aj BS (j:=1) (u:=(iV 0)) rfl) (aj BS (j:=2) (u:=(iV 0)) rfl) (aj BS (j:=3) (u:=(iV 0)) rfl) (aj BS (j:=4) (u:=(iV 0)) rfl);exact bodyPost_ret (v:= .tuple #[.agg #[(iV 0),iV 0,iV 0,iV 0,(iV 0)],iV 6]) (by simp [results,results43,go_sem,D,E,G,H,I]) rfl ⟨Yk,6,rfl, .inr (.inr ⟨A,λh=>m.2.2.2 h.1,rfl,rfl⟩),a.1.aw qq (λk o e=>by subst e;have:=bq _ o;omega),a.2.1.trans qq (λk e=> .inr (by omega))⟩
end
def gQ (blocks:Nat):Nat->Nat->List Int->Option (List Nat×List Int)
 |0,_,l=>some ([],l)
 |n+1,lo,l=>if l.length<4 then none else if lo<=le (l.take 4)/\le (l.take 4)<blocks then (gQ blocks n (le (l.take 4)+1) (l.drop 4)).map (λx=>(le (l.take 4) :: x.1,x.2)) else none
def dU:List Nat->List Int->Option (CM×List Int)
 | [],l=>some ([],l)
 |k :: ks,l=>if l.length<512 then none else (dU ks (l.drop 512)).map (λx=>((k,l.take 512) :: x.1,x.2))
def jP:Option (CM×List Int)->Option CM
 |some (cs, [])=>some cs
 |_=>none
def gF (blocks:Nat) (d:List Int):Option CM:=
 if d.length<2 then none else if 1<=le (d.take 2)/\le (d.take 2)<=16 then
  match gQ blocks (le (d.take 2)) 0 (d.drop 2) with
  |none=>none
  |some (ks,r)=>jP (dU ks r)
 else none
def oP {blocks:Nat}:∀{n lo:Nat} {l r:List Int} {ks:List Nat},gQ blocks n lo l=some (ks,r)->ks.length=n/\∀k∈ks,k<blocks
 |0,lo,l,r,ks,h=>by
  simp only [gQ,Option.some.injEq,Prod.mk.injEq] at h;obtain⟨rfl,_⟩:=h;simp
 |n+1,lo,l,r,ks,h=>by
  unfold gQ at h;split at h
  .cases h
  .split at h
   .rename_i e;cases b:gQ blocks n (le (l.take 4)+1) (l.drop 4) with
    |none=>rw [b] at h;cases h
    |some x=>
     rw [b] at h;simp only [Option.map_some,Option.some.injEq,Prod.mk.injEq] at h;obtain⟨rfl,rfl⟩:=h;obtain⟨c,d⟩:=oP (ks:=x.1) (r:=x.2) b;refine⟨by simp [c],λk a=>?_⟩;rcases List.mem_cons.1 a with rfl|a
     .exact e.2
     .exact d k a
   .cases h
def aeC {S:Nat} (h:i<S) (a:i<k):S-k<S-i:=by omega
def qB (blocks n lo:Nat) (l:List Int):gQ blocks (n+1) lo l=if l.length<4 then none else if lo<=le (l.take 4)/\le (l.take 4)<blocks then (gQ blocks n (le (l.take 4)+1) (l.drop 4)).map (λx=>(le (l.take 4) :: x.1,x.2)) else none:=rfl
def jA (k:Nat) (ks:List Nat) (l:List Int):dU (k :: ks) l=if l.length<512 then none else (dU ks (l.drop 512)).map (λx=>((k,l.take 512) :: x.1,x.2)):=rfl
def OF (ms cs:CM) (k:Nat) (c:List Int):CM.bT ms (cs ++ [(k,c)])=CM.put (CM.bT ms cs) k c:=by
 unfold CM.bT;rw [List.foldl_append];rfl
def mW:List Nat->List Int->CM
 | [],_=> []
 |k :: ks,r=>(k,r.take 512) :: mW ks (r.drop 512)
def ux:∀(ks:List Nat) (r:List Int),(mW ks r).length=ks.length
 | [],_=>rfl
 |k :: ks,r=>by simp [mW,ux ks]
def C9 (k:Nat):∀(ks:List Nat) (r:List Int),mW (ks ++ [k]) r=mW ks r ++ [(k,(r.drop (512*ks.length)).take 512)]
 | [],r=>by simp [mW]
 |x :: ks,r=>by
  rw [List.cons_append,mW,mW,C9 k ks,List.cons_append,List.drop_drop,List.length_cons,show 512+512*ks.length=512*(ks.length+1) by omega]
def sV:∀(ks:List Nat) (r:List Int),512*ks.length<=r.length->dU ks r=some (mW ks r,r.drop (512*ks.length))
 | [],r,_=>rfl
 |k :: ks,r,h=>by
  rw [List.length_cons] at h;rw [jA,aB (by omega),sV ks (r.drop 512) (by rw [List.length_drop];omega),List.drop_drop,List.length_cons,show 512+512*ks.length=512*(ks.length+1) by omega];rfl
def uy:∀(ks:List Nat) (r:List Int),r.length<512*ks.length->dU ks r=none
 | [],r,h=>by simp at h
 |k :: ks,r,h=>by
  rw [List.length_cons] at h;rw [jA];split
  .rfl
  .rw [uy ks (r.drop 512) (by rw [List.length_drop];omega)];rfl
def KS {r:List Int} (h:r.length=512*ks.length):jP (dU ks r)=some (mW ks r):=by
 rw [sV ks r (by omega),List.drop_eq_nil_of_le (by omega)];rfl
def OG {r:List Int} (h:r.length≠512*ks.length):jP (dU ks r)=none:=by
 by_cases a:r.length<512*ks.length
 .rw [uy ks r a];rfl
 .rw [sV ks r (by omega)];have:0<(r.drop (512*ks.length)).length:=by rw [List.length_drop];omega
  cases hd:r.drop (512*ks.length) with
  |nil=>rw [hd] at this;simp at this
  |cons x xs=>rfl
def wP {blocks:Nat}:∀{n lo:Nat} {l r:List Int} {ks:List Nat},gQ blocks n lo l=some (ks,r)->4*n<=l.length/\r=l.drop (4*n)
 |0,lo,l,r,ks,h=>by
  simp only [gQ,Option.some.injEq,Prod.mk.injEq] at h;exact⟨by omega,by rw [<-h.2];rfl⟩
 |n+1,lo,l,r,ks,h=>by
  rw [qB] at h;split at h
  .cases h
  .split at h
   .cases a:gQ blocks n (le (l.take 4)+1) (l.drop 4) with
    |none=>rw [a] at h;cases h
    |some x=>
     rw [a] at h;simp only [Option.map_some,Option.some.injEq,Prod.mk.injEq] at h;obtain⟨rfl,rfl⟩:=h;obtain⟨b,c⟩:=wP (ks:=x.1) (r:=x.2) a;rw [List.length_drop] at b;refine⟨by omega,?_⟩;rw [c,List.drop_drop];congr 1;omega
   .cases h
def ll (blocks:Nat) (d:List Int) (c:Nat) (ks:List Nat) (lo i:Nat):Option CM:=
 match gQ blocks (c-i) lo (d.drop (2+4*i)) with
 |none=>none
 |some (js,r)=>jP (dU (ks ++ js) r)
def uz (h:d.length<2\/¬(1<=le (d.take 2)/\le (d.take 2)<=16)\/d.length≠2+516*le (d.take 2)):gF blocks d=none:=by
 unfold gF;by_cases a:d.length<2
 .rw [aG a]
 .rw [aB a];by_cases b:1<=le (d.take 2)/\le (d.take 2)<=16
  .rw [aG b];cases c:gQ blocks (le (d.take 2)) 0 (d.drop 2) with
   |none=>rfl
   |some x=>
    obtain⟨ks,r⟩:=x;obtain⟨e,f⟩:=wP c;have g:=(oP c).1;rw [List.length_drop] at e;show jP (dU ks r)=none;refine OG ?_;rw [f,g,List.length_drop,List.length_drop];omega
  .rw [aB b]
def Ar (h0:¬d.length<2) (a:1<=le (d.take 2)/\le (d.take 2)<=16):gF blocks d=ll blocks d (le (d.take 2)) [] 0 0:=by
 unfold gF ll;rw [aB h0,aG a];rfl
def As {c lo:Nat} (a:ks.length=c) (hd:d.length=2+516*c):ll blocks d c ks lo c=some (mW ks (d.drop (2+4*c))):=by
 unfold ll;rw [Nat.sub_self];show jP (dU (ks ++ []) (d.drop (2+4*c)))=_;rw [List.append_nil];exact KS (by rw [List.length_drop];omega)
def wQ {c lo:Nat} (a:i<c) (hd:d.length=2+516*c):
  ll blocks d c ks lo i=if lo<=le ((d.drop (2+4*i)).take 4)/\le ((d.drop (2+4*i)).take 4)<blocks then ll blocks d c (ks ++ [le ((d.drop (2+4*i)).take 4)]) (le ((d.drop (2+4*i)).take 4)+1) (i+1) else none:=by
 unfold ll;rw [show c-i=(c-(i+1))+1 by omega,qB,aB (by rw [List.length_drop];omega),List.drop_drop,show 2+4*i+4=2+4*(i+1) by omega];generalize le ((d.drop (2+4*i)).take 4)=K;by_cases h:lo<=K/\K<blocks
 .rw [aG h,aG h];cases gQ blocks (c-(i+1)) (K+1) (d.drop (2+4*(i+1))) with
  |none=>rfl
  |some x=>
   show jP (dU (ks ++ K :: x.1) x.2)=jP (dU ((ks ++ [K]) ++ x.1) x.2);rw [List.append_assoc];rfl
 .rw [aB h,aB h]
def wR:∀{ks:List Nat} {l r:List Int} {cs:CM},dU ks l=some (cs,r)->∀x∈cs,x.1∈ks
 | [],l,r,cs,h=>by
  simp only [dU,Option.some.injEq,Prod.mk.injEq] at h;obtain⟨rfl,_⟩:=h;simp
 |k :: ks,l,r,cs,h=>by
  rw [jA] at h;split at h
  .cases h
  .cases a:dU ks (l.drop 512) with
   |none=>rw [a] at h;cases h
   |some x=>
    rw [a] at h;simp only [Option.map_some,Option.some.injEq,Prod.mk.injEq] at h;obtain⟨rfl,rfl⟩:=h;intro z b;rcases List.mem_cons.1 b with rfl|b
    .simp
    .exact List.mem_cons_of_mem _ (wR (cs:=x.1) (r:=x.2) a z b)
def oQ {cs:CM} (h:gF blocks d=some cs):∀x∈cs,x.1<blocks:=by
 unfold gF at h;split at h
 .cases h
 .split at h
  .split at h
   .cases h
   .rename_i ks r c;cases b:dU ks r with
    |none=>rw [b] at h;cases h
    |some x=>
     obtain⟨g,f⟩:=x;rw [b] at h;cases f with
     |nil=>
      simp only [jP,Option.some.injEq] at h;subst h;intro z e;exact(oP c).2 _ (wR b z e)
     |cons a t=>cases h
  .cases h
section
open Go.RowKit Go.Shelf
attribute [local go_sem] Oper.semAt_some
def KT (a:Option Addr) (n c:Nat) (w:World):
  Calls prog 194 #[.slice a n c,iV 4] w λe w'=>e= .returned (.func (.func 225) #[] #[pQ w.heap.size, .pointer (some ⟨w.heap.size+1,0,none⟩)])/\w'=(w.alloc (.cells #[.slice a n c] 22)).alloc (.cells #[.int .i64 4] 3):=by
 go_in;go_wp2;go_ret;exact⟨rfl,rfl⟩
def mX (n k:Nat):Nat:=min 4 (n-4*k)
def MF (b o n q:Nat) (x:Fin q):Array Value:= #[.slice (some ⟨b,o+4*x.1,none⟩) (mX n x.1) (mX n x.1)]
set_option maxRecDepth 100000 in
def OH (m:Nat) (U:1<=m) (l f d b o n c q:Nat) (kZ:1<=n) (X:n<=64) (S:n<=c) (E:q=(n+3) / 4) (J A:List (Fin q)->World->Prop)
    (C:∀a (x:Fin q) W,J a W->a.length<q->YieldAt Fence.wide (m-1) prog l (MF b o n q x) W λe W'=>
     (e= .returned (.bool true)/\J (a ++ [x]) W'/\vm f d W W')\/(e= .returned (.bool false)/\A (a ++ [x]) W'))
    (W:World) (J1:W.heap[f]? =some (.cells #[.slice (some ⟨b,o,none⟩) n c] 22 (0,0))) (Re:W.heap[d]? =some (.cells #[.int .i64 4] 3 (0,0))) (s:AbidesFrom W.heap.size J) (h0:J [] W):
  CallsIn Fence.wide m prog 225 #[.func (.yield l) #[] #[],pQ f,pQ d] W λe W'=>(∃v,e= .returned v)/\
     ((∃ys,tT ys q/\J ys W')\/(∃a,(∃k,k<q/\tT a (k+1))/\A a W')):=by
 have P:=yh E;have M:n<=4*q/\4*q<n+4:=by omega
 clear E;refine callsIn_of_wp func225 rfl trivial ?_ rfl;simp only [ntmps225,List.size_toArray,List.length_cons,List.length_nil,Nat.reduceAdd,Nat.reduceSub,Array.replicate_succ,Array.replicate_zero,List.push_toArray,List.append_toArray,List.nil_append,List.cons_append]
 gi_wp2
 gi_loopw [4] (λi wr=>∃(k:Nat) (a:List (Fin q)),k<=q/\i=iV ((4*k:Nat):Int)/\tT a k/\J a wr/\vm f d W wr)
    (λi _=>4*q-(intOf i).toNat)
 case atStart=>exact⟨0, [],dV _,rfl,tT.nil,h0,vm.refl _ _ _⟩
 case round=>
  obtain⟨k,a,T,rfl,lW,Ut,eZ⟩:=hrel;have D:a.length=k:=lW.length;have eh:=aM (eZ.1.trans J1);have o9:=aM (eZ.2.trans Re);by_cases bq:k<q
  .have g:J a wr.drew:=s a wr wr.drew none Ut ⟨rfl,rfl,rfl,bS _,λ_ _ _=>rfl⟩ (λr e=>by cases e);obtain⟨R,F,j,body,u,Zx⟩:=C a ⟨k,bq⟩ wr.drew g (by omega);have Uu:prog.follows .mixedOrders=true:=by kernel_rfl
   dsimp only [MF] at u
   have yw:mX n k=min 4 (n-4*k):=rfl;obtain⟨I,p⟩:=bQ (4*k);rw [<-p] at u yw⊢;have L:I<n:=(by omega);obtain⟨z,w⟩:=bQ (mX n k);rw [<-w] at u yw;have Zf:min (4:Int) ((n-I:Nat):Int)=(z:Int):=(by omega);have Pk:((I:Int)+(z:Int)).toNat-I=z:=(by omega);have cC:(I:Int)<(n:Int):=(by omega);have K:(I:Int)<(c:Int):=(by omega);have PA:(n:Int)<=(c:Int):=(by omega);have N:(I:Int)+(z:Int)<=(n:Int):=(by omega);have dC:(1:Int)<=(z:Int):=(by omega);obtain⟨y,Q⟩:=bU p w;clear p w yw;have ZC:=sA Zx;have G:=yh eZ;have O:=yh s;have Rf:=yh lW;clear Zx C Ut g eZ s lW
   gi_wp2
   gi_region_with_o (fail)
   all_goals
    gi_wp2_with fail
    refine ZC.mono ?_;rintro e H ⟨r,rfl,mj,fy⟩;obtain⟨zm,xz⟩:=bU mj fy;clear mj fy;cases r
    .gi_wp2
     refine bodyPost_ret (results_none rfl _ _ _) rfl ?_;exact⟨⟨_,rfl⟩, .inr ⟨_,⟨k,bq,Rf.o.snoc bq⟩,xz.o (by simp)⟩⟩
    .have aZ:vm f d W H:=G.o.t (vm.t (B:=wr.drew) ⟨rfl,rfl⟩ (zm.o rfl).2);have P5:=aM (aZ.2.trans Re);have lO:=yh aZ;clear aZ
     gi_wp2
     go_roundw;case rel=>exact⟨k+1,_,by omega,by rw [y.o];go_num,Rf.o.snoc bq,(zm.o (by simp)).1,lO.o⟩
     case measure=>have:=y.o;simp [intOf];omega
  .have ZD:=yh (show k=q by omega);have wj:¬((4*k:Nat):Int)<(n:Int):=by omega
   gi_wp2
   go_end0
   exact⟨⟨_,rfl⟩, .inl ⟨a,(by rw [ZD.out] at lW;exact lW),Ut⟩⟩
def EB (m:Nat) (r:1<=m) (d a b o n c q:Nat) (kZ:1<=n) (s:n<=64) (p:n<=c) (t:q=(n+3) / 4) (w:World)
    (J1:w.heap[d]? =some (.cells #[.slice (some ⟨b,o,none⟩) n c] 22 (0,0))) (Re:w.heap[a]? =some (.cells #[.int .i64 4] 3 (0,0))):
  SeqStopsK Fence.wide m prog 225 #[pQ d,pQ a] (MF b o n q) (vm d a) (λu=>tT u q) (λe=>∃k,k<q/\tT e (k+1)) q w:=
 λl J g W f i _ j h0=>OH m r l d a b o n c q kZ s p t J g j W ((f.block _ (aq J1)).trans J1) ((f.block _ (aq Re)).trans Re) i h0
end
end Go.Proofs.YtcpdggdfihjhoabGreat
