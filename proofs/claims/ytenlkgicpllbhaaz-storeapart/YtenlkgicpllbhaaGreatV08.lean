import Derived.Test.YtenlkgicpllbhaaGreatV01
import Derived.Test.YtenlkgicpllbhaaGreatV05
import Derived.Test.YtenlkgicpllbhaaGreatV06
import Derived.Test.YtenlkgicpllbhaaGreatV07
import Derived.Deep.RegionWith
import Derived.Deep.RegionLaw
import Derived.Laws.BytesArg
import Derived.Defers
import Derived.Recover
set_option maxRecDepth 20000
set_option maxHeartbeats 8000000
set_option linter.all false
namespace Go.Proofs.YtenlkgicpllbhaaGreat
open Go.Proofs.Tryz
open Go.RowKit Go.Maps
variable {cs:Array Value} {c ms:CM} {S':DS} {rs:List (List Int)} {d l xs:List Int} {ks:List Nat} {blocks cap iN g g2 i j k n p q:Nat} {F:Nat->Prop} {a:Option Addr} {E:Prop} {α:Type} {v:Value} {W w w' w0 w1 w2 wx:World}
section
section
variable {w w':World} {F X:Nat->Prop} {r s k kl t hm:Nat} {S:DS} {G:SG} {pv nv:Value} {ps:List (Nat×List Int)}
theorem Pl.shape (h:Pl w X v ps):(v= .slice none 0 0/\ps= [])\/∃g cap,v= .slice (some (aD g 0)) ps.length cap/\ps.length<=cap/\cap<=maxLen/\X g:=by
 obtain⟨xs,h⟩:=h;obtain⟨_,⟨e,c⟩|⟨g,cap,cur,e,_,_,a,b,_⟩⟩:=h.own
 .exact .inl ⟨e,List.length_eq_zero_iff.1 c⟩
 .exact .inr ⟨g,cap,e,a,b,h.row g (by rw [e];rfl)⟩
theorem ad0 (w:World) (X:Nat->Prop):PV w X (.slice none 0 0) ([]:List (Nat×List Int)):=(Pl.nil w X).pv
theorem PV.dropped (h:PV w X (.slice (some (aD g 0)) ps.length cap) ps) (b:hm<=ps.length) (d:ps.length<=cap):PV w X (.slice (if cap=hm then some (aD g 0) else some ⟨g,hm*2,none⟩) (ps.length-hm) (cap-hm)) (ps.drop hm):=by
 by_cases e:cap=hm
 .have a:ps.drop hm= []:=List.drop_eq_nil_of_le (by omega);rw [a];exact⟨⟨_,_,by rw [show ps.length-hm=([]:List (Nat×List Int)).length by simp;omega],λh0=>by simp at h0⟩,λq c=>by cases c⟩
 .rw [aA e];have:=h.drop hm b rfl (cap-hm);rwa [Nat.zero_add] at this
theorem PV.R8 (h:PV w X (.slice (some (aD g 0)) ps.length cap) ps) (c:hm<=ps.length) (a:ps.length<=cap) (b:¬cap=hm):PV w X (.slice (some ⟨g,hm*2,none⟩) (ps.length-hm) (cap-hm)) (ps.drop hm):=by
 have:=h.dropped c a;rwa [aA b] at this
theorem PV.R9 (h:PV w X (.slice (some (aD g 0)) ps.length hm) ps) (b:hm<=ps.length) (a:ps.length<=hm):PV w X (.slice (some (aD g 0)) 0 0) (ps.drop hm):=by
 have:=h.dropped b a;rwa [aE rfl,Nat.sub_self,Nat.sub_eq_zero_of_le a] at this
theorem Sa (b:w0.heap.size<=w1.heap.size) (hd:aB w2 (more F w1 w2) r s S'):aB w2 (more F w0 w2) r s S':=
 hd.mono (λk a=>a.imp id (λh=>⟨by omega,h.2⟩)) (λk a=>a.elim (λh=>hd.lt k (.inl h)) (λh=>h.2))
theorem KF (b:w0.heap.size<=w1.heap.size) (ec:w1.heap.size<=w2.heap.size) (hd:aB w2 (more (more F w0 w1) w1 w2) r s S'):aB w2 (more F w0 w2) r s S':=
 hd.mono (λk a=>by
  rcases a with (a|a)|a
  .exact .inl a
  .exact .inr ⟨a.1,by omega⟩
  .exact .inr ⟨by omega,a.2⟩) (λk a=>a.elim (λh=>hd.lt k (.inl (.inl h))) (λh=>h.2))
def ZW (w:World) (F X:Nat->Prop) (r s k kl:Nat) (S:DS) (G:SG) (pv nv:Value) (ps:List (Nat×List Int)) (e:Ending) (w':World):Prop:=
 e= .returned (iV (G.check S s).1)/\aB w' (more F w w') r s (G.check S s).2.1/\(∃hm',iz w' (more F w w') X r s (G.check S s).2.1 k kl (G.check S s).2.2 pv ps hm' nv)/\aa (λj=>F j\/j=k\/j=kl) w w'
theorem iz.after (h:iz w F X r s S k kl G pv ps hm nv) (dh:S.Ok s) {hm':Nat} (bt:kX w' k r kl G.y pv hm' nv) (v:hm'=if (G.check S s).1=0 then ps.length else hm) (YH:cH w' kl r (G.check S s).2.2.L) (x8:(G.check S s).2.2.L.Ok s/\(G.check S s).2.2.L.begun=true) (i:aa (λj=>F j\/j=k\/j=kl) w w'):iz w' (more F w w') X r s (G.check S s).2.1 k kl (G.check S s).2.2 pv ps hm' nv:=by
 obtain⟨n,m,f,o,b,p,q,x,t⟩:=h.checked dh;rw [<-v] at f;subst f;refine⟨by rw [b];exact bt,YH,h.pl.au i (λg e a=>?_) (λg c z u l a=>?_),h.xk,h.xl,λg d a=>?_,λg d=>iP (h.lt g d) i.size,x8.1,x8.2,by rw [b];exact h.hs,by rw [b,p,q];exact h.lh,o,m,by rw [b];exact h.kb,by rw [b];exact t⟩
 .rcases a with a|a|a
  .exact h.fD g (h.pl.row g e) a
  .exact h.pl.ne e h.st (by decide) a
  .exact h.pl.ne e h.lp (by decide) a
 .rcases a with a|a|a
  .exact h.fD g u a
  .exact l.ne h.st (by decide) a
  .exact l.ne h.lp (by decide) a
 .rcases a with a|a
  .exact h.fD g d a
  .have:=h.lt g d;omega
theorem Aj (hd:aB w F r s S) (h:iz w F X r s S k kl G pv ps hm nv) (cZ:S.fC) (dP:G.L.bd S=0->S.num G.L.f<=G.L.ep*4294967296+G.L.tail) (aT:S.puts.length+4000<=4000000000000) (VE:ps.length<=4000000000000):
  Calls prog 78 #[pQ k] w λe w'=>ZW w F X r s k kl S G pv nv ps e w':=by
 obtain⟨dh,VZ,BE,XB,wQ,iQ⟩:=kQ hd.ok h.lk h.lh h.hs h.lk.s h.lk.n1;have km:=dh.hi;have Ed:∀q∈G.ov,G.y.home+q.1<s/\q.2.length=512:=λq W=>by
  rw [h.ov] at W;have:=List.mem_of_mem_drop (eO W);exact⟨by have:=h.kb q this;omega,(h.pl.len q this).1⟩
 have Un:∀q∈G.ov,Bytes q.2:=λq W=>by
  rw [h.ov] at W;exact(h.pl.len q (List.mem_of_mem_drop (eO W))).2
 have XS:G.ov.length<=2048:=by
  have uF:CM.Ok G.ov:=by rw [h.ov];exact mB _
  have D:=CM.length_le (n:=2048) uF (λq W=>by have:=(Ed q W).1;omega) 0 (λ_ _=>dU _);rcases D with D|D
  .omega
  .rw [D];simp
 obtain⟨a1,a2,a3⟩:=qd (L:=G.L) dh;obtain⟨b1,b2,b3,b4,b5⟩:=ev (h0:=G.y.home) (ms:=G.ov) a1 Ed;have D:=CE hd h.lp (h.fD _ h.xl) (by omega);have hZp:=nA G.L S s;have hZb:=pJ cZ G.L s;have hYp:=eA (G.L.sync S s).2 s G.y.home G.ov;have hYb:=j6 hZb s G.y.home Un;have Zy:=D8 h.lk (sbring (G.L.sync S s).2 s G.y.home G.ov).2;have XT:(G.L.sync S s).1=0->(sbring (G.L.sync S s).2 s G.y.home G.ov).2.num G.L.f<=G.L.ep*4294967296+G.L.tail:=λhz=>by
  have hu:G.L.bd S=0:=by
   unfold LG.sync at hz;split at hz
   .rename_i q;exact absurd hz q
   .rename_i q;exact Decidable.not_not.1 q
  rw [vw (S:=S) ((b5 _ (λq W e=>by omega)).trans (a3 _ (by omega))) ((b5 _ (λq W e=>by omega)).trans (a3 _ (by omega)))];exact dP hu
 have h2:=λ(w1:World) (iB:aB w1 F r s (G.L.sync S s).2) (v:Value) (hp:PV w1 X v (ps.drop hm))=>Ad (y:=G.y) iB hp h.fD XB (λx hx=>h.kb x (List.mem_of_mem_drop hx)) (by omega) (by rw [List.length_drop];omega);have h3:=λ(hz:(G.L.sync S s).1=0) (w1:World) (F1:Nat->Prop) (iB:aB w1 F1 r s (sbring (G.L.sync S s).2 s G.y.home G.ov).2) (cm:cH w1 kl r G.L) (iQ:¬F1 kl)=>Oi iB cm h.lk iQ hYb (by omega) (λ_=>XT hz);rw [<-h.ov] at h2;have jz:=λ(w':World) (hm':Nat)=>iz.after (w':=w') (hm':=hm') h dh;obtain⟨R,I⟩:=bQ (G.check S s);unfold ZW;rw [<-I] at jz⊢;unfold SG.check at I;obtain⟨vm,c1,H,mR,IV,oU,hlw,xr,mN⟩:=UD h.bg h.st.c1 (yh h) (yh jz) h.kne h.st.lt h.lp.lt (h.fD _ h.xk) (h.fD _ h.xl);generalize G.L.sync S s=Z at*;generalize sbring Z.2 s G.y.home G.ov=Y at*;generalize G.L.trim Y.2 s=V at*;obtain⟨H2,H3,E⟩:=jS h2 h3 Zy;clear h h2 h3 Zy hZb hYb cZ jz dP XT Ed Un a1 a2 a3 b1 b2 b3 b4 b5 hd;by_cases k1:Z.1=0
 .have d1:(Z.1 == 0)=true:=by rw [k1];rfl
  rw [aA (λh=>h k1)] at I;have Mq:=yh k1;clear k1;rcases H.o.pl.shape with ⟨wW,Dt⟩|⟨gp,cap,wW,iS,aqt,hXg⟩
  .have h0:=H.o.hm;rw [Dt] at h0;obtain rfl:hm=0:=(by simpa using h0);subst wW Dt;obtain⟨HP,Ef⟩:=bL (λ(w1:World) (_:aa F w w1)=>ad0 w1 X) I;clear I;go_in;go_wp2_with fail;refine oX D λw1 iB cm eH=>?_;have ed:=H.o.st.au eH xr;have dr:=eH.size;have oY:=HP.o w1 eH;obtain⟨K,M,N,O,P,Q,T⟩:=nW ed.c0 ed.c2 ed.c3 ed.c4 ed.c5 ed.c6 ed.c7;have U:w1.cell? (aD k 8)=some (iV 0):=ed.c8;have hb:=H2.o w1.drew (iB.later (ai (bi _ _))) _ (oY.later (ai (bi _ _)));have Cr:=yh eH;have oN:=yh ed;have Bt:=yh cm;have HB:=yh hb;clear D iB cm eH ed oY hb;go_wp2_with fail;go_region_held3 (λw'=>w'.cell? (aD k 0)=some (pQ r)/\w'.cell? (aD k 2)=some (iV (G.y.log:Int))/\w'.cell? (aD k 3)=some (iV (G.y.home:Int))/\w'.cell? (aD k 4)=some (iV (G.y.blocks:Int))/\w'.cell? (aD k 5)=some (iV (G.y.nodes:Int))/\w'.cell? (aD k 6)=some (iV (G.y.data:Int))/\w'.cell? (aD k 7)=some (.slice none 0 0)/\w'.cell? (aD k 8)=some (iV (0:Int)))
    (first|exact⟨K,M,N,O,P,Q,T,U⟩|exact⟨bo.c0,bo.c2,bo.c3,bo.c4,bo.c5,bo.c6,bo.c7,bo.c8⟩)
      ((go_at_call 123;refine HB.o.mono ?_;rintro e m ⟨rfl,cC,aX⟩;have bo:=(oN.o.later (ai (bi _ _))).au aX xr;have fy:=(Bt.o.later (ai (bi _ _))).au aX mN))
   have oU:=(Cr.o.trans (aa.ah F (ai (bi w1.heap.size w1))) (λ_ h=> .inl h)).trans aX (λ_ h=> .inl h);have uf:=Sa dr cC;by_cases l:Y.1=0
   .have d2:(Y.1 == 0)=true:=(by rw [l];rfl);have XU:=yh l;clear l;have iQ:¬more F w m kl:=λe=>e.elim mN (λe=>by omega);have Sb:¬more F w m k:=λe=>e.elim xr (λe=>by omega);obtain⟨Sc,c12,wR,Sd⟩:=cM (H3.o Mq.o m (more F w m) uf fy iQ) bo.c1 (yh bo) (yh oU);clear cC aX bo fy oU uf K M N O P Q T U;go_wp2_with fail;refine oX Sc λc i gZ aV=>?_;have kO:=aV.size;have fB:=wR.o.au aV (λe=>e.elim Sb IV);have pY:=KF Sd.o.size kO i;have pZ:=(Sd.o.mono (λ_ h=> .inl h):aa (λj=>F j\/j=k\/j=kl) w m).trans aV (λj b=>by rcases b with (b|b)|b;exact .inl (.inl b);exact .inr b.1;exact .inl (.inr (.inr b)));by_cases d:V.1=0
    .have d3:(V.1 == 0)=true:=(by rw [d];rfl);have a:=yh Ef.o;rw [aA (λh=>h XU.o),aA (λh=>h d)] at a;have J:=yh d;clear d;have c73:=fB.c7;have c83:=fB.c8;have f83:=fB.fz 8;have eF:aa (λj=>j=k) c (c.setCell ⟨k,8,none⟩ (.int .i64 ((0:Nat):Int))):=aa.setCell (F:=λj=>j=k) c (p:=(aD k 8)) rfl _;have Se:¬more F w c k:=λe=>e.elim xr (λe=>by omega);have C:=pY.au eF (λj b e=>Se (e▸b));have ef:(c.setCell ⟨k,8,none⟩ (.int .i64 ((0:Nat):Int))).heap.size=c.heap.size:=(by simp [World.setCell]);have G6:aB (c.setCell ⟨k,8,none⟩ (.int .i64 ((0:Nat):Int))) (more F w (c.setCell ⟨k,8,none⟩ (.int .i64 ((0:Nat):Int)))) r s V.2.1:=(by unfold more;rw [ef];exact C);have z:=yh (aF G6 (aF (gZ.au eF (λe=>IV e.symm)) (aF (fB.home 0) (pZ.trans eF (λ_ h=> .inl (.inr (.inl h)))))));clear i aV fB gZ pZ pY Sc eF C G6 ef;go_wp2;go_ret;obtain⟨t,A,u,g⟩:=z.o;exact⟨by rw [a.o];exact congrArg (λx=>Ending.returned (Value.int .i64 x)) J.o,by rw [a.o];exact t,⟨0,mR.o _ 0 u (by rw [a.o,aE rfl];rfl) (by rw [a.o];exact A) (by rw [a.o];exact⟨E.o.1,E.o.2.trans vm⟩) g⟩,g⟩
    .have d3:(V.1 == 0)=false:=(by rw [eG];exact d);have a:=yh Ef.o;rw [aA (λh=>h XU.o),aE d] at a;have ma:=yh d;clear d;have z:=yh (aF pY (aF gZ (aF fB pZ)));clear i aV fB gZ pZ pY Sc;go_wp2;go_ret;obtain⟨t,A,u,g⟩:=z.o;exact⟨by rw [a.o];rfl,by rw [a.o];exact t,⟨0,mR.o c 0 u (by rw [a.o,aA ma.o]) (by rw [a.o];exact A) (by rw [a.o];exact⟨E.o.1,E.o.2.trans vm⟩) g⟩,g⟩
   .have d2:(Y.1 == 0)=false:=(by rw [eG];exact l);have a:=yh Ef.o;rw [aE l] at a;have gQ:=yh l;clear l;have z:=yh (aF uf (aF fy (aF bo oU)));clear cC aX bo fy oU uf K M N O P Q T U;go_wp2;go_ret;obtain⟨t,A,u,g⟩:=z.o;have pZ:aa (λj=>F j\/j=k\/j=kl) w m:=g.mono (λ_ h=> .inl h);exact⟨by rw [a.o];rfl,by rw [a.o];exact t,⟨0,mR.o m 0 u (by rw [a.o,aA gQ.o]) (by rw [a.o];exact A) (by rw [a.o];exact⟨VZ,vm⟩) pZ⟩,pZ⟩
  .subst wW;have BV:=H.o.hm;by_cases hce:cap=hm
   .obtain rfl:hm=cap:=hce.symm;obtain⟨HP,Ef⟩:=bL (λ(w1:World) (eH:aa F w w1)=>PV.R9 (H.o.pl.pv.au eH H.o.fD) BV iS) I;clear I;go_in;go_wp2_with fail;refine oX D λw1 iB cm eH=>?_;have ed:=H.o.st.au eH xr;have dr:=eH.size;have oY:=HP.o w1 eH;obtain⟨K,M,N,O,P,Q,T,U,hb,Cr,oN,Bt⟩:=BU ed.c0 ed.c2 ed.c3 ed.c4 ed.c5 ed.c6 ed.c7 ed.c8 (H2.o w1.drew (iB.later (ai (bi _ _))) _ (oY.later (ai (bi _ _)))) (yh eH) (yh ed) (yh cm);have HB:=yh hb;clear D iB cm eH ed oY hb;go_wp2_with fail;go_region_held3 (λw'=>w'.cell? (aD k 0)=some (pQ r)/\w'.cell? (aD k 2)=some (iV (G.y.log:Int))/\w'.cell? (aD k 3)=some (iV (G.y.home:Int))/\w'.cell? (aD k 4)=some (iV (G.y.blocks:Int))/\w'.cell? (aD k 5)=some (iV (G.y.nodes:Int))/\w'.cell? (aD k 6)=some (iV (G.y.data:Int))/\w'.cell? (aD k 7)=some (.slice (some (aD gp 0)) ps.length hm)/\w'.cell? (aD k 8)=some (iV (hm:Int)))
     (first|exact⟨K,M,N,O,P,Q,T,U⟩|exact⟨bo.c0,bo.c2,bo.c3,bo.c4,bo.c5,bo.c6,bo.c7,bo.c8⟩)
       ((go_at_call 123;refine HB.o.mono ?_;rintro e m ⟨rfl,cC,aX⟩;have bo:=(oN.o.later (ai (bi _ _))).au aX xr;have fy:=(Bt.o.later (ai (bi _ _))).au aX mN))
    have oU:=(Cr.o.trans (aa.ah F (ai (bi w1.heap.size w1))) (λ_ h=> .inl h)).trans aX (λ_ h=> .inl h);have uf:=Sa dr cC;by_cases l:Y.1=0
    .have d2:(Y.1 == 0)=true:=(by rw [l];rfl);have XU:=yh l;clear l;have iQ:¬more F w m kl:=λe=>e.elim mN (λe=>by omega);have Sb:¬more F w m k:=λe=>e.elim xr (λe=>by omega);obtain⟨Sc,c12,wR,Sd⟩:=cM (H3.o Mq.o m (more F w m) uf fy iQ) bo.c1 (yh bo) (yh oU);clear cC aX bo fy oU uf K M N O P Q T U;go_wp2_with fail;refine oX Sc λc i gZ aV=>?_;have kO:=aV.size;have fB:=wR.o.au aV (λe=>e.elim Sb IV);have pY:=KF Sd.o.size kO i;have pZ:=(Sd.o.mono (λ_ h=> .inl h):aa (λj=>F j\/j=k\/j=kl) w m).trans aV (λj b=>by rcases b with (b|b)|b;exact .inl (.inl b);exact .inr b.1;exact .inl (.inr (.inr b)));by_cases d:V.1=0
     .have d3:(V.1 == 0)=true:=(by rw [d];rfl);have a:=yh Ef.o;rw [aA (λh=>h XU.o),aA (λh=>h d)] at a;have J:=yh d;clear d;have c73:=fB.c7;have c83:=fB.c8;have f83:=fB.fz 8;have eF:aa (λj=>j=k) c (c.setCell ⟨k,8,none⟩ (.int .i64 (ps.length:Int))):=aa.setCell (F:=λj=>j=k) c (p:=(aD k 8)) rfl _;have Se:¬more F w c k:=λe=>e.elim xr (λe=>by omega);have C:=pY.au eF (λj b e=>Se (e▸b));have ef:(c.setCell ⟨k,8,none⟩ (.int .i64 (ps.length:Int))).heap.size=c.heap.size:=(by simp [World.setCell]);have G6:aB (c.setCell ⟨k,8,none⟩ (.int .i64 (ps.length:Int))) (more F w (c.setCell ⟨k,8,none⟩ (.int .i64 (ps.length:Int)))) r s V.2.1:=(by unfold more;rw [ef];exact C);have z:=yh (aF G6 (aF (gZ.au eF (λe=>IV e.symm)) (aF (fB.home ps.length) (pZ.trans eF (λ_ h=> .inl (.inr (.inl h)))))));clear i aV fB gZ pZ pY Sc eF C G6 ef;go_wp2;go_ret;obtain⟨t,A,u,g⟩:=z.o;exact⟨by rw [a.o];exact congrArg (λx=>Ending.returned (Value.int .i64 x)) J.o,by rw [a.o];exact t,⟨ps.length,mR.o _ ps.length u (by rw [a.o,aE rfl]) (by rw [a.o];exact A) (by rw [a.o];exact⟨E.o.1,E.o.2.trans vm⟩) g⟩,g⟩
     .have d3:(V.1 == 0)=false:=(by rw [eG];exact d);have a:=yh Ef.o;rw [aA (λh=>h XU.o),aE d] at a;have ma:=yh d;clear d;have z:=yh (aF pY (aF gZ (aF fB pZ)));clear i aV fB gZ pZ pY Sc;go_wp2;go_ret;obtain⟨t,A,u,g⟩:=z.o;exact⟨by rw [a.o];rfl,by rw [a.o];exact t,⟨hm,mR.o c hm u (by rw [a.o,aA ma.o]) (by rw [a.o];exact A) (by rw [a.o];exact⟨E.o.1,E.o.2.trans vm⟩) g⟩,g⟩
    .have d2:(Y.1 == 0)=false:=(by rw [eG];exact l);have a:=yh Ef.o;rw [aE l] at a;have gQ:=yh l;clear l;have z:=yh (aF uf (aF fy (aF bo oU)));clear cC aX bo fy oU uf K M N O P Q T U;go_wp2;go_ret;obtain⟨t,A,u,g⟩:=z.o;have pZ:aa (λj=>F j\/j=k\/j=kl) w m:=g.mono (λ_ h=> .inl h);exact⟨by rw [a.o];rfl,by rw [a.o];exact t,⟨hm,mR.o m hm u (by rw [a.o,aA gQ.o]) (by rw [a.o];exact A) (by rw [a.o];exact⟨VZ,vm⟩) pZ⟩,pZ⟩
   .obtain⟨HP,Ef⟩:=bL (λ(w1:World) (eH:aa F w w1)=>PV.R8 (H.o.pl.pv.au eH H.o.fD) BV iS hce) I;clear I;go_in;go_wp2_with fail;refine oX D λw1 iB cm eH=>?_;have ed:=H.o.st.au eH xr;have dr:=eH.size;have oY:=HP.o w1 eH;obtain⟨K,M,N,O,P,Q,T,U,hb,Cr,oN,Bt⟩:=BU ed.c0 ed.c2 ed.c3 ed.c4 ed.c5 ed.c6 ed.c7 ed.c8 (H2.o w1.drew (iB.later (ai (bi _ _))) _ (oY.later (ai (bi _ _)))) (yh eH) (yh ed) (yh cm);have HB:=yh hb;clear D iB cm eH ed oY hb;go_wp2_with fail;go_region_held3 (λw'=>w'.cell? (aD k 0)=some (pQ r)/\w'.cell? (aD k 2)=some (iV (G.y.log:Int))/\w'.cell? (aD k 3)=some (iV (G.y.home:Int))/\w'.cell? (aD k 4)=some (iV (G.y.blocks:Int))/\w'.cell? (aD k 5)=some (iV (G.y.nodes:Int))/\w'.cell? (aD k 6)=some (iV (G.y.data:Int))/\w'.cell? (aD k 7)=some (.slice (some (aD gp 0)) ps.length cap)/\w'.cell? (aD k 8)=some (iV (hm:Int)))
     (first|exact⟨K,M,N,O,P,Q,T,U⟩|exact⟨bo.c0,bo.c2,bo.c3,bo.c4,bo.c5,bo.c6,bo.c7,bo.c8⟩)
       ((go_at_call 123;refine HB.o.mono ?_;rintro e m ⟨rfl,cC,aX⟩;have bo:=(oN.o.later (ai (bi _ _))).au aX xr;have fy:=(Bt.o.later (ai (bi _ _))).au aX mN))
    have oU:=(Cr.o.trans (aa.ah F (ai (bi w1.heap.size w1))) (λ_ h=> .inl h)).trans aX (λ_ h=> .inl h);have uf:=Sa dr cC;by_cases l:Y.1=0
    .have d2:(Y.1 == 0)=true:=(by rw [l];rfl);have XU:=yh l;clear l;have iQ:¬more F w m kl:=λe=>e.elim mN (λe=>by omega);have Sb:¬more F w m k:=λe=>e.elim xr (λe=>by omega);obtain⟨Sc,c12,wR,Sd⟩:=cM (H3.o Mq.o m (more F w m) uf fy iQ) bo.c1 (yh bo) (yh oU);clear cC aX bo fy oU uf K M N O P Q T U;go_wp2_with fail;refine oX Sc λc i gZ aV=>?_;have kO:=aV.size;have fB:=wR.o.au aV (λe=>e.elim Sb IV);have pY:=KF Sd.o.size kO i;have pZ:=(Sd.o.mono (λ_ h=> .inl h):aa (λj=>F j\/j=k\/j=kl) w m).trans aV (λj b=>by rcases b with (b|b)|b;exact .inl (.inl b);exact .inr b.1;exact .inl (.inr (.inr b)));by_cases d:V.1=0
     .have d3:(V.1 == 0)=true:=(by rw [d];rfl);have a:=yh Ef.o;rw [aA (λh=>h XU.o),aA (λh=>h d)] at a;have J:=yh d;clear d;have c73:=fB.c7;have c83:=fB.c8;have f83:=fB.fz 8;have eF:aa (λj=>j=k) c (c.setCell ⟨k,8,none⟩ (.int .i64 (ps.length:Int))):=aa.setCell (F:=λj=>j=k) c (p:=(aD k 8)) rfl _;have Se:¬more F w c k:=λe=>e.elim xr (λe=>by omega);have C:=pY.au eF (λj b e=>Se (e▸b));have ef:(c.setCell ⟨k,8,none⟩ (.int .i64 (ps.length:Int))).heap.size=c.heap.size:=(by simp [World.setCell]);have G6:aB (c.setCell ⟨k,8,none⟩ (.int .i64 (ps.length:Int))) (more F w (c.setCell ⟨k,8,none⟩ (.int .i64 (ps.length:Int)))) r s V.2.1:=(by unfold more;rw [ef];exact C);have z:=yh (aF G6 (aF (gZ.au eF (λe=>IV e.symm)) (aF (fB.home ps.length) (pZ.trans eF (λ_ h=> .inl (.inr (.inl h)))))));clear i aV fB gZ pZ pY Sc eF C G6 ef;go_wp2;go_ret;obtain⟨t,A,u,g⟩:=z.o;exact⟨by rw [a.o];exact congrArg (λx=>Ending.returned (Value.int .i64 x)) J.o,by rw [a.o];exact t,⟨ps.length,mR.o _ ps.length u (by rw [a.o,aE rfl]) (by rw [a.o];exact A) (by rw [a.o];exact⟨E.o.1,E.o.2.trans vm⟩) g⟩,g⟩
     .have d3:(V.1 == 0)=false:=(by rw [eG];exact d);have a:=yh Ef.o;rw [aA (λh=>h XU.o),aE d] at a;have ma:=yh d;clear d;have z:=yh (aF pY (aF gZ (aF fB pZ)));clear i aV fB gZ pZ pY Sc;go_wp2;go_ret;obtain⟨t,A,u,g⟩:=z.o;exact⟨by rw [a.o];rfl,by rw [a.o];exact t,⟨hm,mR.o c hm u (by rw [a.o,aA ma.o]) (by rw [a.o];exact A) (by rw [a.o];exact⟨E.o.1,E.o.2.trans vm⟩) g⟩,g⟩
    .have d2:(Y.1 == 0)=false:=(by rw [eG];exact l);have a:=yh Ef.o;rw [aE l] at a;have gQ:=yh l;clear l;have z:=yh (aF uf (aF fy (aF bo oU)));clear cC aX bo fy oU uf K M N O P Q T U;go_wp2;go_ret;obtain⟨t,A,u,g⟩:=z.o;have pZ:aa (λj=>F j\/j=k\/j=kl) w m:=g.mono (λ_ h=> .inl h);exact⟨by rw [a.o];rfl,by rw [a.o];exact t,⟨hm,mR.o m hm u (by rw [a.o,aA gQ.o]) (by rw [a.o];exact A) (by rw [a.o];exact⟨VZ,vm⟩) pZ⟩,pZ⟩
 .have d1:(Z.1 == 0)=false:=by rw [eG];exact k1
  rw [aE k1] at I;obtain⟨a,Cr⟩:=bL I k1;clear k1 I;go_in;go_wp2_with fail;refine oX D λw1 iB cm eH=>?_;have z:=yh (aF iB (aF cm eH));clear D iB cm eH;go_wp2;go_ret;obtain⟨t,A,u⟩:=z.o;have aX:aa (λj=>F j\/j=k\/j=kl) w w1:=u.mono (λ_ h=> .inl h);refine⟨by rw [a.o];rfl,by rw [a.o];exact t.mono (λ_ h=> .inl h) (λj b=>by rcases b with b|b;exact t.lt j b;exact b.2),⟨hm,mR.o w1 hm (H.o.st.au u xr) (by rw [a.o,aA Cr.o]) (by rw [a.o];exact A) (by rw [a.o];exact⟨VZ,vm⟩) aX⟩,aX⟩
end
end
section
theorem ug (m n:Nat) (w:World) (j:m<=9223372036854775807) (o:n<=8):
  Calls prog 140 #[iV (m:Int),iV (n:Int)] w λe w'=>∃v,e= .returned v/\Own w' w.heap.size v (leb n m)/\bW w w':=by
 go_in;go_wp2;go_loopw [0,5,6] (λx v i wr=>∃k:Nat,k<=n/\x=iV ((m / 2 ^ (8*k):Nat):Int)/\i=iV (k:Int)/\Own wr w.heap.size v (leb k m)/\bW w wr) (λ_ _ i _=>n-(intOf i).toNat);case atStart=>exact⟨0,dU _,by simp,rfl,Own.nil _ _,bi _ _⟩
 case round=>
  obtain⟨k,l,rfl,rfl,az,dO⟩:=hrel;obtain⟨bq,a,p,f⟩:=cM az dO dO.size (aH k m);clear az dO;by_cases bm:k<n
  .have cw:(k:Int)<(n:Int):=(by omega);have g:m / 2 ^ (8*k)<=9223372036854775807:=jQ (Nat.div_le_self _ _) j;have c:m / 2 ^ (8*(k+1))=m / 2 ^ (8*k) / 256:=(by rw [Nat.div_div_eq_div_mul,Nat.mul_succ,Nat.pow_add]);have GR:=c;have N2:=iX k m;clear c;obtain⟨Q,d⟩:=bQ (m / 2 ^ (8*k));rw [<-d] at g GR N2⊢;clear d;have q:(Q:Int).tmod 256=((Q%256:Nat):Int):=(by rw [Int.tmod_eq_emod_of_nonneg (by omega)];omega);have r:(Q:Int).tdiv 256=((Q / 256:Nat):Int):=(by rw [Int.tdiv_eq_ediv_of_nonneg (by omega)];omega);go_wp2_with (at_builtin;refine b9 rfl _ _ rfl w.heap.size u5 (leb k m) _ rfl rfl bq ?b1 ?b2 ?_);case b1=>omega
   case b2=>omega
   intro s w1 tz aq;have b:=(aF tz (a.trans aq));clear tz aq;go_wp2;go_roundw;case rel=>exact⟨k+1,by omega,by rw [GR];first|rfl|simp,by go_num,by rw [N2];exact b.1,b.2⟩
   case measure=>simp [intOf];omega
  .obtain rfl:k=n:=(by omega);have vQ:¬(k:Int)<(k:Int):=(by omega);go_wp2;go_ret;exact⟨_,rfl,bq,a⟩
section
variable {w w' w1 w2:World} {F F' X X' Y Z:Nat->Prop} {r s k kl t hm:Nat} {S:DS} {G:SG} {T:TG} {L:LG} {v u pv pv' nv tv:Value} {ps qs us:List (Nat×List Int)} {xs ys:List Value}
theorem PL.one (h:PL w X v ps xs):∀x∈xs,x.oneCell'=true:=λx e=>by
 have Fb:=h.own.1;obtain⟨j,d,rfl⟩:=List.mem_iff_getElem.1 e;obtain⟨g,c,a,b,_⟩:=h.put (j / 2) (by omega);by_cases q:j%2=0
 .have:2*(j / 2)=j:=by omega
  rw [this,List.getElem?_eq_getElem d] at a;rw [Option.some.inj a];rfl
 .have:2*(j / 2)+1=j:=by omega
  rw [this,List.getElem?_eq_getElem d] at b;rw [Option.some.inj b];rfl
theorem PL.cat (h:PL w X v ps xs) (p:PL w Y u qs ys) {bZ:Nat} (az:w2.ownsRow 0 166 2 (.slice (some (aD g2 0)) (ps.length+qs.length) bZ) (ps.length+qs.length) (xs ++ ys)) (aO:w.grownBy w2 v.ownBlock) (r:∀j,X j->Z j) (s:∀i (_:i<qs.length) g c,ys[2*i+1]? =some (.slice (some (aD g 0)) 512 c)->Z g) (t:Z g2):
  PL w2 Z (.slice (some (aD g2 0)) (ps.length+qs.length) bZ) (ps ++ qs) (xs ++ ys)/\aa (λj=>v.ownBlock=some j) w w2:=by
 have b:=λj a n=>aO.block j a n;have Md:∀j c ys,ay w 5 j c ys->ay w2 5 j c ys:=λj c ys a=>by
  have AX:=a;obtain⟨cur,ie,_⟩:=AX;exact a.agree (b j a.lt (λe=>dR h.own e.symm ie (by decide) rfl))
 have Fb:=h.own.1;refine⟨⟨by rw [dT];exact az,λj a=>?_,λi x=>?_,λq d=>?_⟩,⟨aO.os,aO.tape,aO.output,aO.size,λj a n=>b j a (λe=>n e.symm)⟩⟩
 .have e:j=g2:=by simpa [Value.ownBlock] using a.symm
  rw [e];exact t
 .by_cases nj:i<ps.length
  .obtain⟨k,c',l,f,o,m⟩:=h.put i nj;refine⟨k,c',?_,?_,r _ o,?_⟩
   .rw [List.getElem?_append_left (by omega),l,List.getElem_append_left nj]
   .rw [List.getElem?_append_left (by omega),f]
   .rw [List.getElem_append_left nj];exact Md _ _ _ m
  .have Dm:i-ps.length<qs.length:=(by rw [dT] at x;omega);obtain⟨k,c',l,f,o,m⟩:=p.put (i-ps.length) Dm;refine⟨k,c',?_,?_,s _ Dm k c' f,?_⟩
   .rw [List.getElem?_append_right (by omega),show 2*i-xs.length=2*(i-ps.length) by omega,l,List.getElem_append_right (by omega)]
   .rw [List.getElem?_append_right (by omega),show 2*i+1-xs.length=2*(i-ps.length)+1 by omega,f]
   .rw [List.getElem_append_right (by omega)];exact Md _ _ _ m
 .rcases List.mem_append.1 d with d|d
  .exact h.len q d
  .exact p.len q d
theorem Ol (L:LG) (S:DS) (s:Nat) (d:List Int):(L.append S s d).2.2.f=L.f/\(L.append S s d).2.2.n=L.n:=by
 unfold LG.append;split
 .exact⟨rfl,rfl⟩
 .split <;> exact⟨rfl,rfl⟩
theorem iz.Sf (h:iz w F X r s S k kl G pv ps hm nv) (dh:S.Ok s) (d:List Int) {ns:CM} (xr:∀x∈ns,x.1<G.y.blocks) (bt:kX w' k r kl G.y pv' hm nv) (YH:cH w' kl r (G.L.append S s d).2.2) (pf:Pl w' X' pv' (ps ++ ns)) (e:∀g,X g->X' g) (ZX:∀g,X' g->¬F' g) (bm:∀g,X' g->g<w'.heap.size) (b:Bool):
  iz w' F' X' r s (G.L.append S s d).2.1 k kl {G with L:=(G.L.append S s d).2.2,ov:=CM.bX G.ov ns,busy:=b} pv' (ps ++ ns) hm nv:=by
 obtain⟨x8,j,o,v,p,q⟩:=kQ (vn h.lk S d) (Ol G.L S s d) h.lk.s h.lk.n1 h.lh h.hs;have lI:=Ai dh (by omega:1<=G.L.n) o d;have uF:CM.Ok G.ov:=by rw [h.ov];exact mB _
 refine⟨bt,YH,pf,e _ h.xk,e _ h.xl,ZX,bm,x8.1,x8.2.trans h.bg,q,?_,?_,?_,λx a=>?_,λhd b t u c i=>?_⟩
 .show (G.L.append S s d).2.2.f+2+(G.L.append S s d).2.2.n<=G.y.home;rw [j.1,j.2];exact p
 .show CM.bX G.ov ns=_;rw [List.drop_append_of_le_length h.hm,pR,<-h.ov]
 .rw [dT];have:=h.hm;omega
 .rcases List.mem_append.1 a with a|a
  .exact h.kb x a
  .exact xr x a
 .have yq:=Oj d hd;have Rh:CM.get (CM.bX G.ov ns) b=none:=u;rw [Cy b uF] at Rh;obtain⟨l,m⟩:=Option.or_eq_none_iff.1 Rh;rw [lX,l] at i;show (G.L.append S s d).2.1.now (G.y.home+b)=c;rw [lI.2 _ (by omega)];exact h.un yq b t m c i
theorem iz.busy (h:iz w F X r s S k kl G pv ps hm nv) (b:Bool):iz w F X r s S k kl {G with busy:=b} pv ps hm nv:=⟨h.st,h.lp,h.pl,h.xk,h.xl,h.fD,h.lt,h.lk,h.bg,h.hs,h.lh,h.ov,h.hm,h.kb,h.un⟩
end
end
section
def KG (T:TG) (G:SG) (S:DS) (b:Nat):CM:=(below T.puts b).filter λx=> !decide (x.2=G.block S x.1)
section
variable {T:TG} {G:SG} {S:DS} {b:Nat} {l:List Int}
theorem Sg:KG T G S 0= []:=by unfold KG;rw [sA];rfl
theorem Sh (a:CM.Ok T.puts) (h:CM.get T.puts b=none):KG T G S (b+1)=KG T G S b:=by unfold KG;rw [sx a h]
theorem Si (c:CM.Ok T.puts) (h:CM.get T.puts b=some l) (a:l=G.block S b):KG T G S (b+1)=KG T G S b:=by
 unfold KG;rw [sy c h,List.filter_append];simp [a]
theorem V0 (c:CM.Ok T.puts) (h:CM.get T.puts b=some l) (a:¬l=G.block S b):KG T G S (b+1)=KG T G S b ++ [(b,l)]:=by
 unfold KG;rw [sy c h,List.filter_append];simp [a]
theorem V9 (h:∀q∈T.puts,q.1<n):KG T G S n=T.news G S:=by unfold KG TG.news;rw [Cz h]
theorem Wa:(KG T G S b).length<=T.puts.length:=jQ (List.length_filter_le _ _) (List.length_filter_le _ _)
theorem De {β:Type} (f:α->List β) (ns:List α) (a:i<ns.length):(ns.take (i+1)).flatMap f=(ns.take i).flatMap f ++ f ns[i]:=by
 rw [List.take_add_one,List.getElem?_eq_getElem a,List.flatMap_append];congr 1;simp
end
theorem Own.lo {w:World} {B:Nat} {l:List Int} (h:Own w B v l) (a:v.ownBlock=some g):B<=g/\∃cur,w.heap[g]? =some (.cells cur 5 (0,0)):=by
 obtain⟨_,⟨rfl,_⟩|⟨e,b,cur,rfl,d,c,_⟩⟩:=h
 .simp [Value.ownBlock] at a
 .simp [Value.ownBlock] at a;subst a;exact⟨d,cur,c⟩
theorem Pn.beside {w w':World} {X:Nat->Prop} {B:Nat} {u:Value} {ps:List (Nat×List Int)} {l:List Int} (h:Pn w X B v ps) (f:Own w B u l) (i:∀g,X g->g<B) (k:aa (λj=>u.ownBlock=some j) w w'):Pn w' X B v ps:=by
 refine h.au k (λg e b=>?_) (λg c n a m b=>?_)
 .obtain⟨_,cur,d⟩:=f.lo b;exact h.pl.ne e d (by decide) rfl
 .rcases a with a|a
  .have:=(f.lo b).1;have:=i g a;omega
  .obtain⟨_,cur,d⟩:=f.lo b;exact h.pl.ne a d (by decide) rfl
theorem Own.au {w w':World} {B:Nat} {l:List Int} {Z:Nat->Prop} (h:Own w B v l) (a:aa Z w w') (b:∀g,v.ownBlock=some g->¬Z g):Own w' B v l:=
 aC h (λg e=>a.block g (pU h e) (b g e))
theorem G7 {B:Nat} {i:List Int} (az:Own W B v i) (c:Nat) (r:Src W a n d) (hd:0<n) (f:i.length+n<=1000000) (o:B<=W.heap.size):
  ∃v' w',(Builtin.append_ #[36,36] 36 #[v, .slice a n c]).run prog W= .ok v' w'/\Own w' B v' (i ++ d)/\aa (λj=>v.ownBlock=some j) W w':=by
 obtain⟨g,l,w',m,k,b,_⟩:=qK az c r hd f o;refine⟨_,w',m,?_,⟨b.os,b.tape,b.output,b.size,λj p q=>b.block j p (λe=>q e.symm)⟩⟩;rw [<-iE] at k;have e:i.length+d.length=(i ++ d).length:=by simp
 unfold Own;rw [e] at k⊢;exact k
def gX (w:World) (F X:Nat->Prop) (r s k kl t:Nat) (pv tv nv:Value) (ps us:List (Nat×List Int)) (R:Int×DS×SG×TG) (e:Ending) (w':World):Prop:=
 ∃(F' X':Nat->Prop) (pv':Value) (ZY:List (Nat×List Int)) (hm':Nat),e= .returned (iV R.1)/\(∀j,F' j->more F w w' j)/\(∀j,X' j->more X w w' j)/\(∀j,X j->X' j)/\aB w' F' r s R.2.1/\iz w' F' X' r s R.2.1 k kl R.2.2.1 pv' ZY hm' nv/\nT w' X' k t R.2.2.1 R.2.2.2 tv us/\(ZY.length<=ps.length+us.length/\(R.2.2.2.ended=false->ZY=ps))/\(pv'.ownBlock=pv.ownBlock\/∀g,pv'.ownBlock=some g->w.heap.size<=g)/\aa (λj=>F j\/j=k\/j=kl\/j=t\/pv.ownBlock=some j) w w'
section
variable {w w' w5 w6 w7:World} {F F5 X:Nat->Prop} {r s k kl t hm xB g2 bZ:Nat} {S S5:DS} {G G5:SG} {T:TG} {pv nv tv lv:Value} {ps us:List (Nat×List Int)} {ns:CM} {xs ys:List Value}
theorem nT.asked (h:iz w F X r s S k kl G pv ps hm nv) (b:nT w X k t G T tv us) (l:aa (λj=>F j\/j=k\/j=kl) w w'):nT w' X k t G T tv us:=by
 refine⟨b.tx.au l (λa=>?_),b.xt,b.pl.au l (λg e a=>?_) (λg c o n m a=>?_),b.nd,b.pu,b.kb,b.D6⟩
 .obtain⟨d,f,i⟩:=jw b.tx h.st h.lp;unfold nf at d;unfold kX at f;unfold cH at i;rcases a with a|a|a
  .exact h.fD t b.xt a
  .rw [a,f] at d;simp at d
  .rw [a,i] at d;simp at d
 .rcases a with a|a|a
  .exact h.fD g (b.pl.row g e) a
  .exact b.pl.ne e h.st (by decide) a
  .exact b.pl.ne e h.lp (by decide) a
 .rcases a with a|a|a
  .exact h.fD g n a
  .exact m.ne h.st (by decide) a
  .exact m.ne h.lp (by decide) a
theorem Pn.asked {B:Nat} (h:iz w F X r s S k kl G pv ps hm nv) (f:∀j,F j->j<B) (m:k<B/\kl<B) (d:Pn w X B lv ns) (l:aa (λj=>F j\/j=k\/j=kl) w w'):Pn w' X B lv ns:=by
 refine d.au l (λg e a=>?_) (λg c n b i a=>?_)
 .have:=d.lo g e;rcases a with a|a|a
  .have:=f g a;omega
  .omega
  .omega
 .rcases b with b|b
  .rcases a with a|a|a
   .exact h.fD g b a
   .exact i.ne h.st (by decide) a
   .exact i.ne h.lp (by decide) a
  .have:=d.lo g b;rcases a with a|a|a
   .have:=f g a;omega
   .omega
   .omega
theorem gX.fail (h:iz w F X r s S k kl G pv ps hm nv) (g:nT w X k t G T tv us) (c:T.ended=false) (f:∀j,F5 j->more F w w' j) (hd:aB w' F5 r s S5) (e:iz w' F5 X r s S5 k kl G5 pv ps xB nv) (i:G5.y=G.y) (d:aa (λj=>F j\/j=k\/j=kl) w w') (x:Int):gX w F X r s k kl t pv tv nv ps us (x,S5,G5,T) (.returned (iV x)) w':=by
 have a:=nT.asked h g d;exact⟨F5,X,pv,ps,xB,rfl,f,λ_ h=> .inl h,λ_ h=>h,hd,e,⟨a.tx,a.xt,a.pl,a.nd,a.pu,by rw [i];exact a.kb,a.D6⟩,⟨by omega,λ_=>rfl⟩, .inl rfl,d.mono (λj b=>by rcases b with b|b|b;exact .inl b;exact .inr (.inl b);exact .inr (.inr (.inl b)))⟩
theorem gX.done (h:iz w F X r s S k kl G pv ps hm nv) (u:nT w X k t G T tv us) (I6:∀g,pv.ownBlock=some g->tv.ownBlock≠some g)
    (m:iz w5 F5 X r s S5 k kl G5 pv ps xB nv) (D:G5.y=G.y) (ZZ:S5.Ok s) (pX:∀j,F5 j->more F w w5 j) (dX:aa (λj=>F j\/j=k\/j=kl) w w5) (d:List Int)
    (po:aB w6 (more F5 w5 w6) r s (G5.L.append S5 s d).2.1) (Ms:cH w6 kl r (G5.L.append S5 s d).2.2) (ji:aa (λj=>F5 j\/j=kl) w5 w6)
    (o7:PL w6 X pv ps xs) (Wb:PL w6 (λj=>X j\/lv.ownBlock=some j) lv ns ys) (Z0:∀i (_:i<ns.length) g c,ys[2*i+1]? =some (.slice (some (aD g 0)) 512 c)->X g) (xr:∀x∈ns,x.1<G.y.blocks) (mN:ns.length<=us.length)
    (az:w7.ownsRow 0 166 2 (.slice (some (aD g2 0)) (ps.length+ns.length) bZ) (ps.length+ns.length) (xs ++ ys)) (aO:w6.grownBy w7 pv.ownBlock) (ic:pv.ownBlock=some g2\/g2=w6.heap.size):
  w7.heap[k]? =w6.heap[k]?/\w7.heap[t]? =w6.heap[t]?/\w6.heap[t]? =w.heap[t]?/\kX w6 k r kl G5.y pv xB nv/\k≠t/\
  gX w F X r s k kl t pv tv nv ps us (0,(G5.L.append S5 s d).2.1,{G5 with L:=(G5.L.append S5 s d).2.2,ov:=CM.bX G5.ov ns,busy:=false},T.close) (.returned (iV 0)) ((w7.setCell ⟨k,7,none⟩ (.slice (some ⟨g2,0,none⟩) (ps.length+ns.length) bZ)).setCell ⟨t,2,none⟩ (.bool true)):=by
 obtain⟨Z1,qE,Mf,KH⟩:=cM (nT.asked h u dX) dX.size ji.size (m.st.au ji (λe=>e.elim (m.fD _ m.xk) m.kne));have G8:nT w6 X k t G5 T tv us:=by
  have:=nT.asked (G:=G5) m ⟨Z1.tx,Z1.xt,Z1.pl,Z1.nd,Z1.pu,by rw [D];exact Z1.kb,Z1.D6⟩ (w':=w6) (ji.mono (λj a=>by rcases a with a|a;exact .inl a;exact .inr (.inr a)));exact this
 have I2:k≠t:=λe=>by
  have b:=u.tx;have q:=h.st;unfold nf at b;unfold kX at q;rw [<-e,q] at b;simp at b
 have ajo:kl≠t:=λe=>by
  have b:=u.tx;have q:=h.lp;unfold nf at b;unfold cH at q;rw [<-e,q] at b;simp at b
 have Qu:w6.heap[t]? =w.heap[t]? :=by
  have A:=G8.tx;have C:=u.tx;unfold nf at A C;rw [A,C]
 obtain⟨v,gy⟩:=o7.cat Wb (Z:=λj=>X j\/(Value.slice (some (aD g2 0)) (ps.length+ns.length) bZ).ownBlock=some j) az aO (λ_ h=> .inl h) (λi H g c e=> .inl (Z0 i H g c e)) (.inr rfl);have Z2:=gy.size;have Rc:=pU az (g:=g2) rfl;have G9:Pl w6 X pv ps:=⟨xs,o7⟩;have wY:=KH.au gy (λe=>G9.ne e KH (by decide) rfl);have Eg:=G8.tx.au gy (λe=>G9.ne e G8.tx (by decide) rfl);have CV:=Ms.au gy (λe=>G9.ne e Ms (by decide) rfl);have n:∀g,X g->¬more F5 w5 w6 g:=λg f l=>by
  rcases l with l|l
  .exact m.fD g f l
  .have:=m.lt g f;omega
 have nF:=po.au gy (λj a e=>n j (o7.row j e) a);generalize E:(Value.slice (some (aD g2 0)) (ps.length+ns.length) bZ)=V at*;have o:V.ownBlock=some g2:=by rw [<-E];rfl
 have jv:=aa.setCell (F:=λj=>j=k) w7 (p:=(aD k 7)) rfl V;have Wc:kX (w7.setCell ⟨k,7,none⟩ V) k r kl G5.y V xB nv:=(heap_setCell_same _ _ 7 _ _ _ wY).trans (by simp);have Z3:=Eg.au jv (λe=>I2 e.symm);have z:Pl (w7.setCell ⟨k,7,none⟩ V) _ V (ps ++ ns):=Pl.other ⟨_,v⟩ wY (by decide) (by decide) jv;have CW:=CV.au jv (λe=>m.kne e.symm);have nU:=nF.au jv (λj a e=>n j (e▸m.xk) a);have ajp:=(G8.pl.au gy (λg e l=>I6 g l e) (λg c ys _ I l=>G9.ne l (Classical.choose_spec (I.imp (λcur h=>h.1))) (by decide) rfl)).other wY (by decide) (by decide) jv;have A4:=aa.setCell (F:=λj=>j=t) (w7.setCell ⟨k,7,none⟩ V) (p:=(aD t 2)) rfl (.bool true);have aqw:(w7.setCell ⟨k,7,none⟩ V).heap.size=w7.heap.size:=by simp [World.setCell]
 have Wd:((w7.setCell ⟨k,7,none⟩ V).setCell ⟨t,2,none⟩ (.bool true)).heap.size=w7.heap.size:=by simp [World.setCell]
 have ZU:=nU.au A4 (λj a e=>n j (e▸G8.xt) a);refine⟨gy.block k KH.lt (λe=>G9.ne e KH (by decide) rfl),gy.block t G8.tx.lt (λe=>G9.ne e G8.tx (by decide) rfl),Qu,KH,I2,more F5 w5 w6,(λj=>X j\/V.ownBlock=some j),V,ps ++ ns,xB,rfl,λj a=>?_,λj a=>?_,λ_ h=> .inl h,ZU,iz.Sf m ZZ d (by rw [D];exact xr) (Wc.au A4 I2) (CW.au A4 ajo) (z.other Z3 (by decide) (by decide) A4) (λ_ h=> .inl h) (λg f l=>?_) (λg f=>?_) false,⟨Z3.end_, .inl G8.xt,(ajp.other Z3 (by decide) (by decide) A4).mono (λ_ h=> .inl h),G8.nd,λh=>(by cases h),G8.kb,G8.D6⟩,⟨by rw [dT];omega,λh=>(by cases h)⟩,?_,?_⟩
 .rcases a with a|a
  .rcases pX j a with a|a
   .exact .inl a
   .exact .inr ⟨a.1,by rw [Wd];omega⟩
  .exact .inr ⟨by omega,by rw [Wd];omega⟩
 .rcases a with a|a
  .exact .inl a
  .rw [o] at a;cases a;rcases ic with b|b
   .exact .inl (o7.row _ b)
   .exact .inr ⟨by omega,by rw [Wd];exact Rc⟩
 .rcases f with f|f
  .exact n g f l
  .rw [o] at f;cases f;rcases ic with b|b
   .exact n _ (o7.row _ b) l
   .have:=po.lt _ l;omega
 .rw [Wd];rcases f with f|f
  .have:=m.lt g f;omega
  .rw [o] at f;cases f;exact Rc
 .rw [o];rcases ic with b|b
  .exact .inl b.symm
  .exact .inr (λg e=>by cases e;omega)
 .refine((((dX.mono (λj a=>?_):aa (λj=>F j\/j=k\/j=kl\/j=t\/pv.ownBlock=some j) w w5).trans ji (λj a=>?_)).trans gy (λj a=> .inl (.inr (.inr (.inr (.inr a)))))).trans jv (λj a=> .inl (.inr (.inl a)))).trans A4 (λj a=> .inl (.inr (.inr (.inr (.inl a)))))
  .rcases a with a|a|a
   .exact .inl a
   .exact .inr (.inl a)
   .exact .inr (.inr (.inl a))
  .rcases a with a|a
   .rcases pX j a with a|a
    .exact .inl (.inl a)
    .exact .inr a.1
   .exact .inl (.inr (.inr (.inl a)))
end
end
section
theorem Eh {G:SG} {S:DS} {s:Nat} (b:(G.L.room S).2=0) (a:G.roomy S (co c).length=true):G.bF S s c=if (G.L.append S s (co c)).1≠0 then ((G.L.append S s (co c)).1,(G.L.append S s (co c)).2.1,{G with L:=(G.L.append S s (co c)).2.2}) else (0,(G.L.append S s (co c)).2.1,{G with L:=(G.L.append S s (co c)).2.2,ov:=CM.bX G.ov c}):=by
 unfold SG.bF SG.made;rw [aA (λh=>h b),aE a];simp only [ne_eq,not_true_eq_false,if_false]
theorem Ha {G:SG} {S:DS} {s:Nat} (b:(G.L.room S).2=0) (a:¬G.roomy S (co c).length=true):G.bF S s c=if (G.check S s).1≠0 then G.check S s else if ((G.check S s).2.2.L.append (G.check S s).2.1 s (co c)).1≠0 then (((G.check S s).2.2.L.append (G.check S s).2.1 s (co c)).1,((G.check S s).2.2.L.append (G.check S s).2.1 s (co c)).2.1,{(G.check S s).2.2 with L:=((G.check S s).2.2.L.append (G.check S s).2.1 s (co c)).2.2}) else (0,((G.check S s).2.2.L.append (G.check S s).2.1 s (co c)).2.1,{(G.check S s).2.2 with L:=((G.check S s).2.2.L.append (G.check S s).2.1 s (co c)).2.2,ov:=CM.bX (G.check S s).2.2.ov c}):=by
 unfold SG.bF SG.made;rw [aA (λh=>h b),aA a]
section
variable {w w' w5 w6 w7:World} {F F5 X:Nat->Prop} {r s k kl t hm xB g2 bZ:Nat} {S S5:DS} {G G5:SG} {T:TG} {pv nv tv lv:Value} {ps us:List (Nat×List Int)} {ns:CM} {xs ys:List Value}
theorem We {w:World} {B c:Nat} (h:Own w B (.slice a n c) d):Src w a n d:=by
 obtain⟨f,c',e,b,_⟩:=h.src;cases e;exact b
theorem Pn.Z4 {B N:Nat} (d:Pn w X B lv ns) (h:iz w F X r s S k kl G pv ps hm nv) (l:∀j,F j->j<B\/N<=j) (m:∀g,lv.ownBlock=some g->g<N) (o:k<B/\kl<B) (n:aa (λj=>F j\/j=k\/j=kl) w w'):Pn w' X B lv ns:=by
 have row:∀g,lv.ownBlock=some g->¬(F g\/g=k\/g=kl):=λg e a=>by
  have p:=d.lo g e;have q:=m g e;rcases a with a|a|a
  .rcases l g a with i|i <;> omega
  .omega
  .omega
 refine d.au n row (λg c t b f a=>?_);rcases b with b|b
 .rcases a with a|a|a
  .exact h.fD g b a
  .exact f.ne h.st (by decide) a
  .exact f.ne h.lp (by decide) a
 .exact row g b a
theorem KI {L:LG} {S:DS} {s:Nat} (h:S.fC):(L.trim S s).2.1.fC:=by
 have a:=pJ h L s;have b:=a.cW s L.f ((L.ep:Int)*4294967296+(L.head:Int));unfold LG.trim;split
 .exact a
 .split
  .exact a
  .split <;> exact b
theorem wn {G:SG} {S:DS} {s:Nat} (h:S.fC) (d:∀q∈G.ov,Bytes q.2):(G.check S s).2.1.fC:=by
 have a:=pJ h G.L s;have b:=j6 a s G.y.home d;have c:=KI (L:=G.L) (s:=s) b;unfold SG.check;split
 .exact a
 .split
  .exact b
  .split <;> exact c
theorem iz.Sj (a:iz w5 F5 X r s S5 k kl G5 pv ps xB nv) (ji:aa (λj=>F5 j\/j=kl) w5 w6):kX w6 k r kl G5.y pv xB nv/\Pl w6 X pv ps:=by
 refine⟨a.st.au ji (λe=>e.elim (a.fD _ a.xk) a.kne),a.pl.au ji (λg e b=>?_) (λg c i d f b=>?_)⟩
 .rcases b with b|b
  .exact a.fD g (a.pl.row g e) b
  .exact a.pl.ne e a.lp (by decide) b
 .rcases b with b|b
  .exact a.fD g d b
  .exact f.ne a.lp (by decide) b
theorem gX.refused (h:iz w F X r s S k kl G pv ps hm nv) (i:nT w X k t G T tv us) (IT:T.ended=false)
    (c:iz w5 F5 X r s S5 k kl G5 pv ps xB nv) (l:G5.y=G.y) (ZZ:S5.Ok s) (pX:∀j,F5 j->more F w w5 j) (dX:aa (λj=>F j\/j=k\/j=kl) w w5) (d:List Int)
    (po:aB w6 (more F5 w5 w6) r s (G5.L.append S5 s d).2.1) (Ms:cH w6 kl r (G5.L.append S5 s d).2.2) (ji:aa (λj=>F5 j\/j=kl) w5 w6) (x:Int):
  gX w F X r s k kl t pv tv nv ps us (x,(G5.L.append S5 s d).2.1,{G5 with L:=(G5.L.append S5 s d).2.2},T) (.returned (iV x)) w6:=by
 have qE:=dX.size;have Mf:=ji.size;obtain⟨KH,G9⟩:=c.Sj ji;have f:=iz.Sf (ns:= []) (F':=more F5 w5 w6) (X':=X) (pv':=pv) c ZZ d (λx b=>by cases b) KH Ms (by rw [List.append_nil];exact G9) (λ_ h=>h) (λg e b=>by rcases b with b|b;exact c.fD g e b;have:=c.lt g e;omega) (λg e=>iP (c.lt g e) Mf) G5.busy;rw [List.append_nil] at f;refine gX.fail h i IT (F5:=more F5 w5 w6) (λj a=>?_) po f l ((dX.trans ji (λj a=>?_))) x
 .rcases a with a|a
  .rcases pX j a with a|a
   .exact .inl a
   .exact .inr ⟨a.1,by omega⟩
  .exact .inr ⟨by omega,a.2⟩
 .rcases a with a|a
  .rcases pX j a with a|a
   .exact .inl (.inl a)
   .exact .inr a.1
  .exact .inl (.inr (.inr a))
end
section
variable {w w' w1 w2:World} {F F' X X':Nat->Prop} {r s k kl t hm:Nat} {S:DS} {G:SG} {T:TG} {pv nv tv:Value} {ps us:List (Nat×List Int)}
set_option maxRecDepth 100000 in
theorem Hf (hd:aB w F r s S) (h:iz w F X r s S k kl G pv ps hm nv) (M:nT w X k t G T tv us) (I6:∀g,pv.ownBlock=some g->tv.ownBlock≠some g) (cZ:S.fC) (dP:G.L.bd S=0->S.num G.L.f<=G.L.ep*4294967296+G.L.tail) (aT:S.puts.length+5000<=4000000000000) (VE:ps.length<=4000000000000):
  Calls prog 89 #[pQ t] w λe w'=>gX w F X r s k kl t pv tv nv ps us (T.bF G S s) e w':=by
 have h1:=j5 hd h M.tx;obtain⟨R,hR⟩:=bQ (T.bF G S s);rw [<-hR];unfold TG.bF at hR;by_cases q:T.state G S=0
 .have dq:(T.state G S != 0)=false:=by rw [q];rfl
  rw [aA (λh=>h q)] at hR;have hz:G.L.dead S=false/\T.ended=false/\T.bad=0:=by
   unfold TG.state TG.bX at q;cases yq:G.L.dead S
   .cases hee:T.ended
    .rw [yq,hee] at q;simpa using q
    .rw [yq,hee] at q;simp at q
   .rw [yq] at q;simp at q
  obtain⟨r1,r2,r3⟩:=hz;have sB:=M.pu r2;have dh:=hd.ok;have km:=dh.hi;have XB:=h.hs;have ho:CM.Ok T.puts:=by rw [sB];exact mB _
  have hgp:∀b,CM.get T.puts b=fnd us b:=λb=>by rw [sB];exact gL _ _
  have ajq:T.puts.length<=us.length:=by rw [sB,vu M.nd];exact bP _
  have XV:T.puts.length<=16:=by rw [sB,vu M.nd];exact M.D6
  have oZ:∀x∈T.puts,x.1<G.y.blocks:=λx D=>by rw [sB] at D;exact M.kb x (eO D)
  have hlen:∀x∈T.puts,x.2.length=512/\Bytes x.2:=λx D=>by rw [sB] at D;exact M.pl.len x (eO D)
  obtain⟨adI,a,H,O,Ho,Hgp,MM,HR⟩:=rV M.D6 (yh h) (yh M) (yh hd) (yh ho) (yh hgp) (yh hlen) (yh hR);have HBY:=yh cZ;obtain⟨ajr,HAp⟩:=bL dP I6;have HFd:=yh (λ(w1:World) (aq:bW w w1) (b:Nat)=>qN (M.pl.later aq).pv b (by omega));obtain⟨HBl,ad4⟩:=bL (λ(w1:World) (aq:bW w w1) (b:Nat) (hb:b<G.y.blocks)=>zO (hd.later aq) (h.later aq) r1 b hb (by omega) VE) (λ(b:Nat) (hb:b<G.y.blocks)=>iz.ZN hd h hb);clear h M hd ho hgp hlen hR cZ dP I6 sB q;generalize T.state G S=E at*;go_in;go_wp2_with fail;refine bE h1 λw1 aq=>?_;have cN:=yh aq;clear h1 aq;go_wp2;go_loopw [4,5] (λv i wr=>∃b:Nat,b<=G.y.blocks/\i=iV (b:Int)/\Pn wr X w.heap.size v (KG T G S b)/\bW w wr) (λ_ i _=>G.y.blocks-(intOf i).toNat);case atStart=>exact⟨0,dU _,rfl,by rw [Sg];exact Pn.nil _ _ _,cN.o⟩
  case round=>
   obtain⟨b,hb,rfl,nr,dO⟩:=hrel;have wh:=H.o.tx.later dO;obtain⟨c0,c1,c4,Jb,l9,Aa⟩:=kQ wh.c0 wh.c1 ((a.o.st.later dO).c4) (yh nr) (yh dO) dO.size;by_cases qb:b<G.y.blocks
   .have qb':(b:Int)<(G.y.blocks:Int):=(by omega);have I8:=HFd.o wr dO b;have sd:=HBl.o wr dO b qb;have E9:=Hgp.o b;clear nr dO wh;cases hf:fnd us b with
    |none=>
     rw [hf] at I8 E9;go_wp2_with fail;refine I8.mono ?_;rintro e w2 ⟨ho,hw⟩;subst hw;rcases ho with ⟨_,rfl⟩|⟨l',g,c',U,_⟩
     .clear I8 sd;go_wp2;go_roundw;case rel=>exact⟨b+1,by omega,by go_num,by rw [Sh Ho.o E9];exact Jb.o,l9.o⟩
      case measure=>simp [intOf];omega
     .cases U
    |some l=>
     rw [hf] at I8 E9;have hl:=MM.o (b,l) (CM.get_mem E9);have Bj:=ad4.o b qb;go_wp2_with fail;refine I8.mono ?_;rintro e w2 ⟨ho,hw⟩;subst hw;rcases ho with ⟨h0,_⟩|⟨l',g,c',U,rfl,hX,hr⟩
     .cases h0
     cases U;have Ef:=yh hr;clear I8 hr;go_wp2_with fail;refine sd.mono ?_;rintro e w3 ⟨⟨g3,c3,rfl,_,sV⟩,bz⟩;have km:=sJ g 0 g3 0 512 c' c3 l (G.block S b) w3 hl.1 Bj (by omega) (λi hi=>by have:=(Ef.o.agree (bz.block g Ef.o.lt)).src.2.2 _ rfl i (by rw [hl.1];exact hi);rwa [aK] at this) (λi hi=>by have:=sV.src.2.2 _ rfl i (by rw [Bj];exact hi);rwa [aK] at this);have fS:=yh bz;clear sd sV bz;by_cases qs:l=G.block S b
     .have dd:decide (l=G.block S b)=true:=(by simp [qs]);rw [dd] at km;have HQ:=yh qs;clear qs;go_wp2_with fail;refine bE km λw4 fe=>?_;have jB:=yh (fS.o.trans (fe.mono fS.o.size));clear km fe;go_wp2;go_roundw;case rel=>exact⟨b+1,by omega,by go_num,by rw [Si Ho.o E9 HQ.o];exact Jb.o.later jB.o,l9.o.trans (jB.o.mono l9.o.size)⟩
      case measure=>simp [intOf];omega
     .have dd:decide (l=G.block S b)=false:=(by simp [qs]);rw [dd] at km;have HQ:=yh qs;clear qs;go_wp2_with fail;refine bE km λw4 fe=>?_;have nL:=fS.o.trans (fe.mono fS.o.size);have A9:=Wa (T:=T) (G:=G) (S:=S) (b:=b);obtain⟨A,bZ,w5,bC,Sk,dX⟩:=(Jb.o.later nL).adZ (b:=b) hX (Ef.o.agree (nL.block g Ef.o.lt)) hl (by omega) (by have:=nL.size;omega);have ff:=(l9.o.trans (nL.mono l9.o.size)).trans (dX.below (λj m=>Jb.o.lo j m) (by have:=nL.size;omega));obtain⟨C,ro⟩:=bL (aF Sk ff) bC;clear km fe nL bC Sk dX ff;go_wp2_with (at_builtin;refine bj rfl _ _ 127 rfl u4 (.slice (some (aD w4.heap.size 0)) 1 1) _ rfl rfl ro.o ?_);go_roundw;case rel=>exact⟨b+1,by omega,by go_num,by rw [V0 Ho.o E9 HQ.o];exact C.o.1,C.o.2⟩
      case measure=>simp [intOf];omega
   .have qb':¬(b:Int)<(G.y.blocks:Int):=(by omega);obtain rfl:b=G.y.blocks:=(by omega);rw [(yh (V9 (S:=S) (G:=G) oZ)).out] at nr;obtain⟨ns,QD⟩:=bQ (T.news G S);have Cu:=HR.o;rw [<-QD] at nr Cu;have mg:ns.length<=16:=(by rw [QD];exact jQ (List.length_filter_le _ _) XV);have ad5:ns.length<=us.length:=(by rw [QD];exact jQ (List.length_filter_le _ _) ajq);have xr:∀x∈ns,x.1<G.y.blocks:=λx D=>by rw [QD] at D;exact oZ x (List.mem_filter.1 D).1
    obtain⟨la,lc,hu,-⟩:=nr.pl.form;subst hu;obtain⟨HX,HNk,HPm⟩:=jS a.o.lt xr nr;clear Jb nr QD wh c1 HFd HBl ad4 Hgp Ho MM xr oZ HR XV qb hb;by_cases q0:ns= []
    .subst q0;rw [aE rfl] at Cu;have HR:=yh Cu;have nK:=H.o.tx.later dO;have c2:=nK.c2;have f2:=nK.fz 2;clear Cu dO nK;go_wp2;go_ret;rw [HR.o];have hk:=aa.setCell (F:=λj=>j=t) wr (p:=(aD t 2)) rfl (.bool true);have nK:=H.o.later l9.o;have oU:aa (λj=>F j\/j=k\/j=kl\/j=t\/pv.ownBlock=some j) w (wr.setCell ⟨t,2,none⟩ (.bool true)):=(aa.ah _ l9.o).trans hk (λ_ h=> .inl (.inr (.inr (.inr (.inl h)))));refine⟨F,X,pv,ps,hm,rfl,λ_ h=> .inl h,λ_ h=> .inl h,λ_ h=>h,(O.o.later l9.o).au hk (λj m e=>a.o.fD t H.o.xt (e▸m)),((a.o.later l9.o).ac8 nK.tx hk).busy false,⟨nK.tx.end_,nK.xt,nK.pl.other nK.tx (by decide) (by decide) hk,nK.nd,λh=>(by cases h),nK.kb,nK.D6⟩,⟨by omega,λ_=>rfl⟩, .inl rfl,oU⟩
    .have iQ:=List.length_pos_iff.2 q0;rw [aA q0] at Cu;have HR:=yh Cu;have dl:((ns.length:Int) == 0)=false:=(by rw [eG];omega);clear Cu dO q0;go_wp2_with fail;refine(ug ns.length 2 wr (by omega) (by omega)).mono ?_;rintro e w2 ⟨rv,rfl,az,aW⟩;obtain⟨HO,HP2,dE⟩:=jS (az.down Aa) (HPm.o.later aW) (l9.o.trans (aW.mono Aa));clear az aW;go_wp2;clear c0 c4;go_loopw [7,8] (λrv i wr=>∃j:Nat,j<=ns.length/\i=iV (j:Int)/\Own wr w.heap.size rv (leb 2 ns.length ++ (ns.take j).flatMap (λq=>leb 4 q.1))/\Pn wr X w.heap.size (.slice la ns.length lc) ns/\bW w wr) (λ_ i _=>ns.length-(intOf i).toNat);case atStart=>exact⟨0,dU _,rfl,by simpa using HO.o,HP2.o,dE.o⟩
     case round=>
      obtain⟨j,m,rfl,az,nr,Sl⟩:=hrel;have ajt:=Sl.size;have jL:((ns.take j).flatMap (λq=>leb 4 q.1)).length=4*j:=(by rw [nG,List.length_take];omega);have rE:(leb 2 ns.length ++ (ns.take j).flatMap (λq=>leb 4 q.1)).length=2+4*j:=(by rw [dT,aH,jL]);by_cases qj:j<ns.length
      .have ZO:(j:Int)<(ns.length:Int):=(by omega);obtain⟨la',lc',Z5,ll⟩:=nr.pl.form;cases Z5;obtain⟨gp,rfl,hp⟩:=ll iQ;obtain⟨gj,cj,p1,_,_,_⟩:=hp j qj;have hjk:ns[j].1<G.y.blocks:=HNk.o _ (List.getElem_mem qj);obtain⟨Y,Z,HBw⟩:=jS az nr Sl;clear az nr Sl ll hp;go_wp2_with fail;refine(ug ns[j].1 4 wr (by omega) (by omega)).mono ?_;rintro e w3 ⟨bv,rfl,LU,bz⟩;obtain⟨ba,bc,rfl,U4,_,_⟩:=LU.src;rw [aH] at U4⊢;have Bu:=Y.o.later bz;obtain⟨rv',w4,bC,Fc,dV⟩:=G7 Bu bc U4 (by omega) (by rw [rE];omega) (by have:=bz.size;omega);have QZ:=(Z.o.later bz).beside Bu HX.o dV;have nL:=(HBw.o.trans (bz.mono ajt)).trans (dV.below (λj m=>(Bu.lo m).1) (by have:=bz.size;omega));rw [List.append_assoc,<-De (λq:Nat×List Int=>leb 4 q.1) ns qj] at Fc;obtain⟨C,ro⟩:=bL (aF Fc (aF QZ nL)) bC;clear LU bz U4 Bu bC Fc dV QZ nL;go_wp2_with (at_builtin;refine bj rfl _ _ 36 rfl u7 (.slice ba 4 bc) _ rfl rfl ro.o ?_);go_roundw;case rel=>exact⟨j+1,by omega,by go_num,C.o⟩
       case measure=>simp [intOf];omega
      .have ZO:¬(j:Int)<(ns.length:Int):=(by omega);obtain rfl:j=ns.length:=(by omega);rw [List.take_length] at az;obtain⟨HO3,HP3,fS⟩:=jS az nr Sl;clear az nr Sl jL rE;go_wp2;go_loopw [7,9] (λrv i wr=>∃j:Nat,j<=ns.length/\i=iV (j:Int)/\Own wr w.heap.size rv (leb 2 ns.length ++ (ns.flatMap (λq=>leb 4 q.1) ++ (ns.take j).flatMap (·.2)))/\Pn wr X w.heap.size (.slice la ns.length lc) ns/\bW w wr) (λ_ i _=>ns.length-(intOf i).toNat);case atStart=>exact⟨0,dU _,rfl,by simpa using HO3.o,HP3.o,fS.o⟩
       case round=>
        obtain⟨j,hj3,rfl,az,nr,sM⟩:=hrel;have ajy:=sM.size;have jL:((ns.take j).flatMap (·.2)).length=512*j:=(by rw [vf (λq hq=>(nr.pl.len q (List.mem_of_mem_take hq)).1),List.length_take];omega);have rE:(leb 2 ns.length ++ (ns.flatMap (λq=>leb 4 q.1) ++ (ns.take j).flatMap (·.2))).length=2+4*ns.length+512*j:=(by rw [dT,dT,aH,jL,nG];omega);by_cases qj:j<ns.length
        .have qj2:(j:Int)<(ns.length:Int):=(by omega);obtain⟨la',lc',Z5,ll⟩:=nr.pl.form;cases Z5;obtain⟨gp,rfl,hp⟩:=ll iQ;obtain⟨gj,cj,_,p2,_,hrj⟩:=hp j qj;have hsj:Src wr (some (aD gj 0)) 512 ns[j].2:=(by have:=hrj.src;rwa [((nr.pl.len _ (List.getElem_mem qj)).1)] at this);obtain⟨rv',w4,bC,Fc,dV⟩:=G7 az cj hsj (by omega) (by rw [rE];omega) (by omega);have QZ:=nr.beside az HX.o dV;have nL:=sM.trans (dV.below (λj m=>(az.lo m).1) (by omega));rw [List.append_assoc,List.append_assoc,<-De (λq:Nat×List Int=>q.2) ns qj] at Fc;obtain⟨C,ro⟩:=bL (aF Fc (aF QZ nL)) bC;clear az nr sM ll hp hrj hsj bC Fc dV QZ nL;go_wp2_with (at_builtin;refine bj rfl _ _ 36 rfl u7 (.slice (some (aD gj 0)) 512 cj) _ rfl rfl ro.o ?_);go_roundw;case rel=>exact⟨j+1,by omega,by go_num,C.o⟩
         case measure=>simp [intOf];omega
        .have qj2:¬(j:Int)<(ns.length:Int):=(by omega);obtain rfl:j=ns.length:=(by omega);rw [List.take_length] at az rE;obtain⟨ra,ad6,hrv,pi,Fj,CA⟩:=az.src;subst hrv;have YG:G.L.bd S=0:=(by unfold LG.bd;rw [r1,a.o.bg];rfl);have Wf:(G.L.room S).2=0:=(by unfold LG.room;rw [aA (λh=>h YG)]);have rL:=NN (O.o.later sM) (a.o.lp.later sM) a.o.lk;have ad7:leb 2 ns.length ++ (ns.flatMap (λq=>leb 4 q.1) ++ ns.flatMap (·.2))=co ns:=rfl;rw [ad7] at rE pi Fj az⊢;have YL:=p7 (λq hq=>(nr.pl.len q hq).2);have Sm:G.roomy S (co ns).length=decide ((cY (co ns).length:Int)<=(G.L.room S).1):=rfl;have K:=Eh (s:=s) (c:=ns) Wf;have J:=Ha (s:=s) (c:=ns) Wf;rw [Wf] at rL;rw [Sm] at K J;obtain⟨d,yq⟩:=bQ (co ns);rw [<-yq] at rE pi Fj az YL K J⊢;obtain⟨x,D⟩:=bQ d.length;rw [<-D] at rE pi Fj K J⊢;obtain⟨rm,hrm⟩:=bQ ((G.L.room S).1);rw [<-hrm] at rL K J;have rl:0<x:=(by omega);have jA:x<=10000:=(by omega);obtain⟨c0,k1,Y,Z,HBw,Om,Wg,HNb,HCr,HCf,HX0⟩:=LH ((H.o.tx.later sM).c0) ((a.o.st.later sM).c1) (yh az) (yh nr) (yh sM) (yh pi) (yh CA) (yh YL) (yh K) (yh J) (yh D);clear az nr sM pi CA YL K J Sm ad7 yq hrm Wf jL D rE;go_wp2_with fail;refine bE rL λw5 ff=>?_;obtain⟨VD,jd,ZT,HP5,ajC⟩:=ey ((yh (λw1=>sL x w1 (by omega))).out w5) (yh (HBw.o.trans (ff.mono ajy))) (yh (Y.o.later ff)) (yh (Z.o.later ff)) (yh (Om.o.later ff));have Uf:=(H.o.tx.later jd.o).c0;have k15:=(a.o.st.later jd.o).c1;clear rL ff c0 k1 Y Z Om;by_cases qr:(cY x:Int)<=rm
         .have qrr:¬rm<(((x+491) / 492:Nat):Int):=(by unfold cY at qr;omega);have hC:=HCr.o (by rw [decide_eq_true_iff];exact qr);have tU:=HR.o;rw [hC] at tU;clear HCr HCf qr hC;go_wp2_with fail;refine bE VD λW Mt=>?_;subst Mt;clear VD;have Ei:=wm (O.o.later jd.o) (a.o.later jd.o).lp (a.o.later jd.o).lk (a.o.fD _ a.o.xl) HBY.o ra x ad6 d ajC.o (λy hy _ hF=>by have:=(Wg.o y hy).1;have:=O.o.lt _ hF;omega) HNb.o Fj (by omega) (by omega);by_cases qa:(G.L.append S s d).1=0
          .have da:((G.L.append S s d).1 != 0)=false:=(by rw [qa];rfl);have zc:R=(0,(G.L.append S s d).2.1,{G with L:=(G.L.append S s d).2.2,ov:=CM.bX G.ov ns,busy:=false},T.close):=(by rw [tU];simp only [qa,ne_eq,not_true_eq_false,if_false]);have I9:=yh zc;clear zc tU;go_wp2_with fail;refine oX Ei λI nF CV gy=>?_;obtain⟨wY,Z6⟩:=(a.o.later jd.o).Sj gy;have KJ:=gy.mono (G:=λj=>F j\/j=k\/j=kl) (λj m=>by rcases m with m|m;exact .inl m;exact .inr (.inr m));have Eg:=(nT.asked (a.o.later jd.o) (H.o.later jd.o) KJ).tx;obtain⟨xs,o7⟩:=Z6;obtain⟨ys,Wb,ox,Z0⟩:=Pn.asked (a.o.later jd.o) (B:=w.heap.size) (λj m=>O.o.lt j m) ⟨a.o.lt _ a.o.xk,a.o.lt _ a.o.xl⟩ HP5.o KJ;obtain⟨la',lc',Z5,ll⟩:=Wb.form;cases Z5;obtain⟨gp,rfl,-⟩:=ll iQ;obtain⟨i0,rt,gv,dr,ec⟩:=info_parts pT;obtain⟨c07,k77,KK,Ej⟩:=cM Eg.c0 wY.c7 (o7.au (aa.ah (λ_=>False) (ai (bi _ _))) (λ_ _ h=>h) (λ_ _ _ _ _ h=>h)) (Wb.au (aa.ah (λ_=>False) (ai (bi _ _))) (λ_ _ h=>h) (λ_ _ _ _ _ h=>h));have Sn:aB I.drew (more F W I.drew) r s (G.L.append S s d).2.1:=nF.later (ai (bi _ _));have zz:∀j u,ys[j]? =some u->I.drew.cell? (((aD gp 0):Addr).add j)=some u:=λj u hu=>Ej.own.cells (g:=gp) rfl _ _ hu;have So:=yh (λ(A bZ:Nat) (z:World) (uh:z.ownsRow 0 166 2 (.slice (some (aD A 0)) (ps.length+ns.length) bZ) (ps.length+ns.length) (xs ++ ys)) (oH:I.drew.grownBy z pv.ownBlock) (Ek:pv.ownBlock=some A\/A=I.heap.size)=>gX.done a.o H.o HAp.o (a.o.later jd.o) rfl dh (λj m=> .inl m) (aa.ah _ jd.o) d Sn (CV.later (ai (bi _ _))) (gy.trans (aa.ah (λ_=>False) (ai (bi _ _))) (λ_ h=>h.elim)) KK Ej Z0 HNk.o ad5 uh oH Ek);obtain⟨Z7,Q,Z8,P⟩:=Bg KK Ej zz Eg;clear Ei nF CV gy wY KJ o7 Wb ox Z0 ll KK Ej Sn zz Eg;go_wp2_with fail
           go_region_law
            (first
             |(refine step_append_lies _ (by rfl) _ _ _ (by rfl) 0 166 i0 _ 2 32 underlying127 rt gv dr ec rfl (by omega) pv ps.length xs (by rfl) Z7.o.own (aD gp 0) ns.length lc ys (by rfl) Q.o.own.1 Z8.o Q.o.one iQ (by unfold maxLen;omega) (by omega) (dU _) I.heap.size (by rfl) ?_;intro A bZ z uh oH Ek Z9;obtain⟨U,e2,e3,e4,e5,jz⟩:=So.o A bZ z uh oH Ek;have k78:z.cell? (aD k 7)=some pv:=ri (U.trans e4);have f78:z.frozen? (aD k 7)=false:=ae (U.trans e4) 7;have t08:z.cell? (aD t 0)=some (pQ k):=aL (e2.trans P.o);have X6:(z.setCell ⟨k,7,none⟩ (.slice (some ⟨A,0,none⟩) (ps.length+ns.length) bZ)).heap[t]? =_:=(Below.heap_setCell z ⟨k,7,none⟩ (.slice (some (aD A 0)) (ps.length+ns.length) bZ) t (λe=>e5 e.symm)).trans (e2.trans P.o);have t28:(z.setCell ⟨k,7,none⟩ (.slice (some ⟨A,0,none⟩) (ps.length+ns.length) bZ)).cell? (aD t 2)=some (.bool T.ended):=bH X6;have f28:(z.setCell ⟨k,7,none⟩ (.slice (some ⟨A,0,none⟩) (ps.length+ns.length) bZ)).frozen? (aD t 2)=false:=ae X6 2))
           all_goals
            have mR:=yh jz;clear jz uh oH Ek Z9 U e2 e3 e4 X6;go_wp2;go_ret;rw [I9.o];exact mR.o
          .have da:((G.L.append S s d).1 != 0)=true:=(by rw [fT];exact qa);have zc:R=((G.L.append S s d).1,(G.L.append S s d).2.1,{G with L:=(G.L.append S s d).2.2},T):=(by rw [tU];simp only [qa,ne_eq,not_false_eq_true,if_true]);have I9:=yh zc;clear zc tU;go_wp2_with fail;refine oX Ei λI nF CV gy=>?_;have C:=yh (aF nF (aF CV gy));clear Ei nF CV gy;go_wp2;go_ret;rw [I9.o];exact gX.refused a.o H.o r2 (a.o.later jd.o) rfl dh (λj m=> .inl m) (aa.ah _ jd.o) d C.o.1 C.o.2.1 C.o.2.2 _
         .have qrr:rm<(((x+491) / 492:Nat):Int):=(by unfold cY at qr;omega);have hC:=HCf.o (by rw [decide_eq_true_iff];exact qr);have tU:=HR.o;rw [hC] at tU;clear HCr HCf qr hC;go_wp2_with fail;refine bE VD λW Mt=>?_;subst Mt;clear VD;have Wh:=Aj (O.o.later jd.o) (a.o.later jd.o) HBY.o ajr.o (by omega) VE;have Mf:=jd.o.size;have aea:G.ov.length<=2048:=by
           have ajD:CM.Ok G.ov:=(by rw [a.o.ov];exact mB _);rcases CM.length_le (n:=2048) ajD (λq hq=>by rw [a.o.ov] at hq;have:=a.o.kb q (List.mem_of_mem_drop (eO hq));omega) 0 (λ_ _=>dU _) with h1|h1
           .omega
           .rw [h1];simp
          have Pi:=zV G S s;obtain⟨ajE,HY8⟩:=bL (wn HBY.o (λq hq=>by rw [a.o.ov] at hq;exact(a.o.pl.len q (List.mem_of_mem_drop (eO hq))).2) (s:=s)) (mz G S s);by_cases qc:(G.check S s).1=0
          .have dc:((G.check S s).1 == 0)=true:=(by rw [qc];rfl);go_wp2_with fail;refine Wh.mono ?_;rintro e z ⟨rfl,nU,⟨Xi,Ja⟩,jv⟩;have aeb:=nU.ok;have hO8:=ZT.o.au jv (λg e D=>by have:=(ZT.o.lo e).1;rcases D with D|D|D;have:=O.o.lt _ D;omega;have:=a.o.lt _ a.o.xk;omega;have:=a.o.lt _ a.o.xl;omega);have ajF:=yh (by have:=We hO8;rwa [<-HX0.o] at this);have aec:∀y,ra=some y->y.block<W.heap.size:=λy hy=>by
            obtain⟨g9,c9,e9,_,TY⟩:=ZT.o.U1 (by rw [<-HX0.o];exact rl);cases e9;cases hy;exact TY.lt
           have HRF:Yh (∀y,ra=some y->0<x->¬more F W z y.block):=yh (λ(y:Addr) (hy:ra=some y) (_:0<x) (hF:more F W z y.block)=>by
            have h1:=(Wg.o y hy).1;have h2:=aec y hy;rcases hF with hF|hF
            .have:=O.o.lt _ hF;omega
            .omega)
           obtain⟨HP8,HF5⟩:=bL (Pn.asked (a.o.later jd.o) (B:=w.heap.size) (λj m=>O.o.lt j m) ⟨a.o.lt _ a.o.xk,a.o.lt _ a.o.xl⟩ HP5.o jv) (λ(j:Nat) (m:more F W z j)=>(m.elim (λh=> .inl (O.o.lt j h)) (λh=> .inr h.1):j<w.heap.size\/W.heap.size<=j));have aed:=yh (λ(j:Nat) (m:more F W z j)=>(m.elim (λh=> .inl h) (λh=> .inr ⟨by omega,h.2⟩):more F w z j));have Pd:=yh ((aa.ah (λj=>F j\/j=k\/j=kl) jd.o).trans jv (λ_ h=> .inl h));have M8:=nT.asked (a.o.later jd.o) (H.o.later jd.o) jv;have HT8:Yh (nT z X k t (G.check S s).2.2 T tv us):=yh ⟨M8.tx,M8.xt,M8.pl,M8.nd,M8.pu,by rw [HY8.o];exact M8.kb,M8.D6⟩;have c08:=M8.tx.c0;have k18:=Ja.st.c1;clear Wh jv hO8 aec M8 Uf k15;have Ei:=wm (nU) (Ja).lp (Ja).lk (Ja.fD _ Ja.xl) ajE.o ra x ad6 d ajF.o HRF.o HNb.o Fj (by omega) (by omega);by_cases qa:((G.check S s).2.2.L.append (G.check S s).2.1 s d).1=0
           .have da:(((G.check S s).2.2.L.append (G.check S s).2.1 s d).1 != 0)=false:=(by rw [qa];rfl);have zc:R=(0,((G.check S s).2.2.L.append (G.check S s).2.1 s d).2.1,{(G.check S s).2.2 with L:=((G.check S s).2.2.L.append (G.check S s).2.1 s d).2.2,ov:=CM.bX (G.check S s).2.2.ov ns,busy:=false},T.close):=(by rw [tU];simp only [qc,qa,ne_eq,not_true_eq_false,if_false]);have I9:=yh zc;clear zc tU;go_wp2_with fail;refine oX Ei λI nF CV gy=>?_;obtain⟨wY,Z6⟩:=(Ja).Sj gy;have KJ:=gy.mono (G:=λj=>(more F W z) j\/j=k\/j=kl) (λj m=>by rcases m with m|m;exact .inl m;exact .inr (.inr m));have Eg:=(nT.asked Ja HT8.o KJ).tx;obtain⟨xs,o7⟩:=Z6;obtain⟨ys,Wb,ox,Z0⟩:=HP8.o.Z4 Ja (N:=W.heap.size) HF5.o (yh (HP5.o.pl.rlt)).out ⟨a.o.lt _ a.o.xk,a.o.lt _ a.o.xl⟩ KJ;obtain⟨la',lc',Z5,ll⟩:=Wb.form;cases Z5;obtain⟨gp,rfl,-⟩:=ll iQ;obtain⟨i0,rt,gv,dr,ec⟩:=info_parts pT;obtain⟨c07,k77,KK,Ej⟩:=cM Eg.c0 wY.c7 (o7.au (aa.ah (λ_=>False) (ai (bi _ _))) (λ_ _ h=>h) (λ_ _ _ _ _ h=>h)) (Wb.au (aa.ah (λ_=>False) (ai (bi _ _))) (λ_ _ h=>h) (λ_ _ _ _ _ h=>h));have Sn:aB I.drew (more (more F W z) z I.drew) r s ((G.check S s).2.2.L.append (G.check S s).2.1 s d).2.1:=nF.later (ai (bi _ _));have zz:∀j u,ys[j]? =some u->I.drew.cell? (((aD gp 0):Addr).add j)=some u:=λj u hu=>Ej.own.cells (g:=gp) rfl _ _ hu;have So:=yh (λ(A bZ:Nat) (z:World) (uh:z.ownsRow 0 166 2 (.slice (some (aD A 0)) (ps.length+ns.length) bZ) (ps.length+ns.length) (xs ++ ys)) (oH:I.drew.grownBy z pv.ownBlock) (Ek:pv.ownBlock=some A\/A=I.heap.size)=>gX.done a.o H.o HAp.o (Ja) HY8.o aeb aed.o Pd.o d Sn (CV.later (ai (bi _ _))) (gy.trans (aa.ah (λ_=>False) (ai (bi _ _))) (λ_ h=>h.elim)) KK Ej Z0 HNk.o ad5 uh oH Ek);obtain⟨Z7,Q,Z8,P⟩:=Bg KK Ej zz Eg;clear Ei nF CV gy wY KJ o7 Wb ox Z0 ll KK Ej Sn zz Eg;go_wp2_with fail
            go_region_law
             (first
              |(refine step_append_lies _ (by rfl) _ _ _ (by rfl) 0 166 i0 _ 2 32 underlying127 rt gv dr ec rfl (by omega) pv ps.length xs (by rfl) Z7.o.own (aD gp 0) ns.length lc ys (by rfl) Q.o.own.1 Z8.o Q.o.one iQ (by unfold maxLen;omega) (by omega) (dU _) I.heap.size (by rfl) ?_;intro A bZ z uh oH Ek Z9;obtain⟨U,e2,e3,e4,e5,jz⟩:=So.o A bZ z uh oH Ek;have k78:z.cell? (aD k 7)=some pv:=ri (U.trans e4);have f78:z.frozen? (aD k 7)=false:=ae (U.trans e4) 7;have t08:z.cell? (aD t 0)=some (pQ k):=aL (e2.trans P.o);have X6:(z.setCell ⟨k,7,none⟩ (.slice (some ⟨A,0,none⟩) (ps.length+ns.length) bZ)).heap[t]? =_:=(Below.heap_setCell z ⟨k,7,none⟩ (.slice (some (aD A 0)) (ps.length+ns.length) bZ) t (λe=>e5 e.symm)).trans (e2.trans P.o);have t28:(z.setCell ⟨k,7,none⟩ (.slice (some ⟨A,0,none⟩) (ps.length+ns.length) bZ)).cell? (aD t 2)=some (.bool T.ended):=bH X6;have f28:(z.setCell ⟨k,7,none⟩ (.slice (some ⟨A,0,none⟩) (ps.length+ns.length) bZ)).frozen? (aD t 2)=false:=ae X6 2))
            all_goals
             have mR:=yh jz;clear jz uh oH Ek Z9 U e2 e3 e4 X6;go_wp2;go_ret;rw [I9.o];exact mR.o
           .have da:(((G.check S s).2.2.L.append (G.check S s).2.1 s d).1 != 0)=true:=(by rw [fT];exact qa);have zc:R=(((G.check S s).2.2.L.append (G.check S s).2.1 s d).1,((G.check S s).2.2.L.append (G.check S s).2.1 s d).2.1,{(G.check S s).2.2 with L:=((G.check S s).2.2.L.append (G.check S s).2.1 s d).2.2},T):=(by rw [tU];simp only [qc,qa,ne_eq,not_true_eq_false,not_false_eq_true,if_true,if_false]);have I9:=yh zc;clear zc tU;go_wp2_with fail;refine oX Ei λI nF CV gy=>?_;have C:=yh (aF nF (aF CV gy));clear Ei nF CV gy;go_wp2;go_ret;rw [I9.o];exact gX.refused a.o H.o r2 (Ja) HY8.o aeb aed.o Pd.o d C.o.1 C.o.2.1 C.o.2.2 _
          .have dc:((G.check S s).1 == 0)=false:=(by rw [eG];exact qc);have dn:((G.check S s).1 != 0)=true:=(by rw [fT];exact qc);have zc:R=((G.check S s).1,(G.check S s).2.1,(G.check S s).2.2,T):=(by rw [tU];simp only [qc,ne_eq,not_false_eq_true,if_true]);have I9:=yh zc;clear zc tU;go_wp2_with fail;refine Wh.mono ?_;rintro e z ⟨rfl,nU,⟨Xi,Ja⟩,jv⟩;have C:=yh (aF nU (aF Ja jv));clear Wh nU Ja jv;go_wp2;go_ret;rw [I9.o];exact gX.fail a.o H.o r2 (λj m=>m.elim (λh=> .inl h) (λh=> .inr ⟨by omega,h.2⟩)) C.o.1 C.o.2.1 HY8.o ((aa.ah _ jd.o).trans C.o.2.2 (λ_ h=> .inl h)) _
 .have dq:(T.state G S != 0)=true:=by rw [fT];exact q
  rw [aE q] at hR;obtain⟨HR,a,H,O⟩:=Bg hR h M hd;clear hR q;generalize T.state G S=E at*;clear h M hd;go_in;go_wp2_with fail;refine bE h1 λw1 aq=>?_;have HB:=yh aq;clear h1 aq;go_wp2;go_ret;rw [HR.o];exact⟨F,X,pv,ps,hm,rfl,λ_ h=> .inl h,λ_ h=> .inl h,λ_ h=>h,O.o.later HB.o,a.o.later HB.o,H.o.later HB.o,⟨by omega,λ_=>rfl⟩, .inl rfl,aa.ah _ HB.o⟩
end
end
section
section
variable {S:DS} {s t i:Nat} {ls:List LG} {L:LG} {G:SG}
theorem CX (L:LG) (S:DS) (s:Nat):(L.trim S s).2.1.life=S.life/\(L.trim S s).2.2.life=L.life:=by
 have a:(L.sync S s).2.life=S.life:=by
  unfold LG.sync;split
  .rfl
  .exact fO _ _
 unfold LG.trim;split
 .exact⟨a,rfl⟩
 .split
  .exact⟨a,rfl⟩
  .split
   .exact⟨(iJ _ _ _ _).trans a,rfl⟩
   .exact⟨(iJ _ _ _ _).trans a,rfl⟩
theorem Sq (dh:S.Ok s) (e:L.Ok s) (k:L.begun=true) (p:L.life=S.life) (t:S.num L.f<=L.ep*4294967296+L.tail) (b:(L.trim S s).2.1.fuse≠0):(L.trim S s).2.2.Fit (L.trim S s).2.1:=by
 obtain⟨u,iQ,dZ⟩:=jw e.s e.n1 e.th;unfold LG.trim at b⊢;by_cases a:(L.sync S s).1≠0
 .rw [aE a] at b;exfalso;apply b;unfold LG.sync at a⊢;by_cases d:L.bd S≠0
  .rw [aE d];show S.fuse=0;unfold LG.bd at d;cases hd:L.dead S
   .rw [hd,k] at d;simp at d
   .unfold LG.dead at hd;rw [p] at hd;simpa using hd
  .rw [aA d] at a⊢;obtain⟨i,j,_⟩:=lf a;rw [i];exact j
 .rw [aA a] at b⊢;have d:L.bd S=0:=by
   unfold LG.sync at a;by_cases c:L.bd S=0
   .exact c
   .rw [aE c] at a;exact absurd (Decidable.of_not_not a) c
  have l:(L.sync S s)=S.fl s:=by unfold LG.sync;rw [aA (by omega)]
  rw [l] at a b⊢;have dP:(S.fl s).2.num L.f=S.num L.f:=DX dh (by omega);have aab:=qx (s:=s) dh;by_cases m:L.tail=L.head
  .rw [aE m];refine⟨λ_=>⟨by rw [(jf (Decidable.of_not_not a))];exact dU _,by rw [dP];exact t⟩,λc=>by rw [k] at c;cases c⟩
  .rw [aA m] at b⊢;have o:((L.ep:Int)*4294967296+(L.head:Int))=((L.ep*4294967296+L.head:Nat):Int):=(by omega);rw [o] at b⊢;have q:=e.ep;have r:=e.hi;obtain⟨N,n⟩:=bQ (L.ep*4294967296+L.head);have g:(S.fl s).2.num L.f<N:=(by rw [dP,n];omega);rw [<-n] at b⊢;by_cases h0:(cW (S.fl s).2 s L.f (N:Int)).1≠0
   .rw [aE h0] at b;exact absurd (pN (by omega) (is (br aab L.f (by omega)) (br aab (L.f+1) (by omega)) (N:=N) (by omega) g) h0).1 b
   .rw [aA h0];obtain⟨i,j⟩:=tQ (s:=s) (f:=L.f) (N:=N) aab (by omega) (by omega) (by omega) g (Decidable.of_not_not h0);refine⟨λ_=>⟨by rw [j];exact dU _,?_⟩,λc=>by rw [show ({L with tail:=L.head}:LG).begun=L.begun from rfl,k] at c;cases c⟩;show (cW (S.fl s).2 s L.f (N:Int)).2.num L.f<=L.ep*4294967296+L.head;rw [i];omega
theorem V.Inv.check (h:V.Inv S s ls t) (b:ls[i]? =some G.L) (A:G.L.begun=true) (o:∀q∈G.ov,G.y.home+q.1<s/\q.2.length=512/\Bytes q.2) (XS:G.ov.length<=2048) (BE:G.L.f+2+G.L.n<=G.y.home):V.Inv (G.check S s).2.1 s (ls.set i (G.check S s).2.2.L) t:=by
 have g:=(h.at b).1;by_cases r:G.L.bd S=0
 .obtain⟨hd,_⟩:=j2 r;obtain⟨j,C⟩:=jE hd;have K:=g.s;have iQ:=g.n1;obtain⟨E,k,w⟩:=qd (L:=G.L) h.ok;obtain⟨I,l,m,F,x⟩:=ev (h0:=G.y.home) (ms:=G.ov) E (λq d=>⟨(o q d).1,(o q d).2.1⟩);obtain⟨z,J⟩:=G4 (L:=G.L) m (by omega);have wZ:=wn (s:=s) h.pO (λq d=>(o q d).2.2);have aee:=D8 g (sbring (G.L.sync S s).2 s G.y.home G.ov).2;have On:=CX G.L (sbring (G.L.sync S s).2 s G.y.home G.ov).2 s;have M:=h.sync b;have ZV:G.L.sync S s=S.fl s:=by unfold LG.sync;rw [aA (by omega)]
  have jL:(G.L.sync S s).1=0:=by
   rw [ZV];apply Decidable.byContradiction;intro u;exact C (lf u).2.1
  have p:(G.L.sync S s).2.puts= []:=by rw [ZV] at jL⊢;exact jf jL
  have a:=eA (G.L.sync S s).2 s G.y.home G.ov;rw [p] at a;have H:=zU G.L (sbring (G.L.sync S s).2 s G.y.home G.ov).2 s;have dP:(sbring (G.L.sync S s).2 s G.y.home G.ov).2.num G.L.f<=G.L.ep*4294967296+G.L.tail:=by
   rw [vw (S:=S) ((x _ (λq d e=>by omega)).trans (w _ (by omega))) ((x _ (λq d e=>by omega)).trans (w _ (by omega)))];exact((h.al G.L (gu b) j C).1 A).2
  have XW:=Sq (S:=(sbring (G.L.sync S s).2 s G.y.home G.ov).2) m g A (by rw [l,k];exact j) dP;unfold SG.check at wZ⊢;rw [aA (λu=>u jL)] at wZ⊢;generalize G.L.sync S s=Z at*;generalize sbring Z.2 s G.y.home G.ov=Y at*;by_cases v:Y.1≠0
  .rw [aE v] at wZ⊢;refine h.on b j m wZ (l.trans k) ?_ g rfl (λc=>absurd (F v) c);show Y.2.puts.length<=6000;simp at a;omega
  .rw [aA v] at wZ⊢;have L9:(G.L.trim Y.2 s).2.1.puts.length<=6000:=(by simp at a;omega);by_cases D:(G.L.trim Y.2 s).1≠0
   .rw [aE D] at wZ⊢;exact h.on b j z wZ (On.1.trans (l.trans k)) L9 aee.1 On.2 XW
   .rw [aA D] at wZ⊢;exact h.on b j z wZ (On.1.trans (l.trans k)) L9 aee.1 On.2 XW
 .have e:G.check S s=(G.L.bd S,S,G):=by
   unfold SG.check LG.sync;rw [aE r,aE r]
  rw [e];exact h.same b
theorem CY (l:List α) (i:Nat) (a b:α):(l.set i a).set i b=l.set i b:=by simp
theorem V.Inv.Wi (h:V.Inv S s ls t) (e:ls[i]? =some G.L) (l:G.L.begun=true) (k:∀q∈G.ov,G.y.home+q.1<s/\q.2.length=512/\Bytes q.2) (XS:G.ov.length<=2048) (BE:G.L.f+2+G.L.n<=G.y.home) (m:∀q∈c,Bytes q.2):V.Inv (G.bF S s c).2.1 s (ls.set i (G.bF S s c).2.2.L) t:=by
 have aef:∀{d:DS} {a:SG},V.Inv d s (ls.set i a.L) t->V.Inv (a.L.append d s (co c)).2.1 s (ls.set i (a.L.append d s (co c)).2.2) t:=λ{d a} g=>by
  have b:(ls.set i a.L)[i]? =some a.L:=List.getElem?_set_self ((mG.1 e).1);have I1:=(g.at b).1;have:=g.append b (p7 m) (Ai g.ok (by have:=I1.n1;omega) I1.s _).1;rwa [CY] at this
 have j:V.Inv (G.made S s (co c).length).2.1 s (ls.set i (G.made S s (co c).length).2.2.L) t:=by
  unfold SG.made;split
  .exact h.same e
  .exact h.check e l k XS BE
 unfold SG.bF;split
 .exact h.same e
 .split
  .exact j
  .split
   .exact aef j
   .exact aef j
end
end
theorem Wj (h:Bytes xs):Pq (strOfNums xs)=xs:=by
 unfold Pq strOfNums;simp only [List.map_map];apply List.ext_getElem
 .simp
 .intro i b a;have:=h xs[i] (List.getElem_mem a);simp;omega
theorem uj (p b o c k m:Nat) (l:List Int) (w:World) (h:Rd w p b o c k l) (a:k+m<=l.length) (xJ:k<c):
  Calls prog 188 #[pQ p,iV (m:Int)] w λe w'=>e= .returned (.string (strOfNums (part l k m)))/\Rd w' p b o c (k+m) l/\aa (λj=>j=p) w w':=by
 go_in;go_wp2_with fail;refine(xO p b o l.length c k m w h.rd a h.cap xJ h.small h.Oe).mono ?_;rintro e w1 ⟨rfl,lG,eH⟩;have d:=h.au lG eH;have f:=run_convert_bytes_arg (P:=prog) w1 36 5 underlying36 underlying5 b (o+k) m (c-k) (part l k m) (fx a) (d.part a) 9 underlying9;go_wp2;go_ret;exact⟨rfl,aF d eH⟩
def qf (l:List Int):Prop:=le (part l (l.length-4) 4)=sumOf (part l 0 (l.length-4))
theorem Ak (a:k<=l.length) (i:Nat) (b:i<k):(part l 0 k).getD i 0=l.getD i 0:=by
 rw [ud b,Nat.zero_add]
theorem CZ (b o n c:Nat) (l:List Int) (w:World) (G:l.length=n) (I:4<n) (L:n<=1000000) (J:n<=c) (mY:c<=9223372036854775807) (u:Bytes l) (s:∀i,i<n->w.cell? ⟨b,o+i,none⟩=some (.int .u8 (l.getD i 0))) (dh:qf l):
  Calls prog 151 #[.slice (some (aD b o)) n c] w λe w'=>∃p,e= .returned (pQ p)/\w.heap.size<=p/\Rd w' p b o c 0 (part l 0 (n-4))/\bW w w':=by
 have E:b<w.heap.size:=World.block_lt_of_cell? _ _ (s 0 (by omega));have adC:(n:Int)-4=((n-4:Nat):Int):=by omega
 have M:(0:Int)<=(((n-4:Nat)):Int):=by omega
 have N:(((n-4:Nat)):Int)<=(n:Int):=by omega
 have O:(((n-4:Nat)):Int)<=(c:Int):=by omega
 obtain⟨w1,bN⟩:=bQ (w.alloc (.cells #[.slice (some ⟨b,o+(n-4),none⟩) 4 (c-(n-4)), .int .i64 0] 224));have bK:bW w w1:=by rw [bN];exact(bi _ w).alloc (bP _) _
 have oY:w1.heap[w.heap.size]? =some (.cells #[.slice (some ⟨b,o+(n-4),none⟩) 4 (c-(n-4)), .int .i64 0] 224 (0,0)):=by rw [bN];exact heap_alloc_new _ _
 have rY:w1.heap.size=w.heap.size+1:=by rw [bN];simp
 have t:(part l (n-4) 4).length=4:=fx (by omega);have vi:∀wx:World,bW w1 wx->Rd wx w.heap.size b (o+(n-4)) (c-(n-4)) 0 (part l (n-4) 4):=λwx a=>
    ⟨by show vv _ _ _ _ _ _ _;unfold vv;rw [t];exact(a.block _ (by omega)).trans oY,by omega,λi g=>by
   rw [t] at g;rw [ud g,Nat.add_assoc];exact cell_later (bK.trans (a.mono (by omega))) (s (n-4+i) (by omega)),dS u _ _,by omega,by omega,by omega,λ_=>by have:=a.size;omega⟩
 have dP:∀wx:World,bW w1 wx->Calls prog 189 #[pQ w.heap.size,iV 4] wx λe w'=>e= .returned (iV ((le (part l (n-4) 4):Nat):Int))/\bW w w':=λwx a=>by
  refine(oE _ _ _ _ 0 4 _ wx (vi wx a) (by omega) (by omega) (by omega)).mono ?_;rintro e w' ⟨rfl,_,F⟩;have C:part (part l (n-4) 4) 0 4=part l (n-4) 4:=by
   show ((part l (n-4) 4).drop 0).take 4=_;rw [List.drop_zero,nh (by omega)]
  have z:=lg (dS u (n-4) 4);rw [t] at z;refine⟨?_,(bK.trans (a.mono (by omega))).trans (F.below (λj K=>by omega) (by have:=a.size;omega))⟩;rw [C];congr 2;unfold wrap64;have:(2:Nat) ^ (8*4)=4294967296:=rfl;omega
 have fJ:∀wx:World,bW w wx->Calls prog 145 #[.slice (some (aD b o)) (n-4) c] wx λe w'=>e= .returned (iV ((sumOf (part l 0 (n-4)):Nat):Int))/\bW w w'/\(bW w1 wx->bW w1 w'):=λwx a=>
    (xx (some (aD b o)) (n-4) c _ wx (dS u _ _) (by omega) ⟨fx (l:=l) (k:=0) (m:=n-4) (by omega),(λh=>by cases h),λx T0 i g=>by
   cases T0;rw [aK,Ak (by omega) i g];exact cell_later a (s i (by omega))⟩).mono (by rintro e w' ⟨rfl,ie⟩;exact⟨rfl,a.trans (ie.mono a.size),λh=>h.trans (ie.mono h.size)⟩)
 have r:le (part l (n-4) 4)=sumOf (part l 0 (n-4)):=by have:=dh;unfold qf at this;rw [G] at this;exact this
 rw [r] at dP;have cN:=bK;have kR:(∀wx:World,bW w wx->Rd (wx.alloc (.cells #[.slice (some ⟨b,o,none⟩) (n-4) c, .int .i64 0] 224)) wx.heap.size b o c 0 (part l 0 (n-4))/\bW w (wx.alloc (.cells #[.slice (some ⟨b,o,none⟩) (n-4) c, .int .i64 0] 224))):=λwx a=>by
  have A:(part l 0 (n-4)).length=n-4:=fx (by omega);have H:=a.size;refine⟨⟨by show vv _ _ _ _ _ _ _;unfold vv;rw [A];exact heap_alloc_new _ _,by omega,λi g=>?_,dS u _ _,by omega,by omega,by omega,λ_=>by simp;omega⟩,a.alloc H _⟩;rw [A] at g;rw [Ak (by omega) i g];exact Lib.cell?_alloc_some _ (cell_later a (s i (by omega)))
 have ajH:=dP;have QA:=fJ;generalize sumOf (part l 0 (n-4))=S at*;have D:n-(n-4)=4:=by omega
 have aeg:¬c=n-4:=by omega
 clear s vi oY t dh r dP fJ bK;go_in;go_wp2_with fail;rw [<-bN];clear bN;have q:=(ai (bi w1.heap.size w1));have v:=(ai cN)
 go_region_with (first
  |(go_at_call 189;refine(ajH _ ?_).mono ?_;(first|exact q|exact y);rintro e P ⟨rfl,aW⟩;have d:=aW;clear aW)
  |(go_at_call 145;refine(QA _ ?_).mono ?_;(first|exact v|exact d);rintro e Q ⟨rfl,bz,Ps⟩;have f:=bz;(try have y:=(Ps q));clear bz Ps)
  |(go_at_call 187;refine(sI _).mono ?_;rintro e R ⟨rfl,rfl⟩))
 all_goals
  go_wp2;go_ret;first
   |exact⟨_,rfl,f.size,(kR _ f).1,(kR _ f).2⟩
   |exact⟨_,rfl,d.size,(kR _ d).1,(kR _ d).2⟩
theorem Al {P:Program} {b:Array Oper} {o:Oper} {a:Act} {K:Act->World->Prop} {Q:Exit->Act->World->Prop} (FQ:o.guard=none) (f:FuncId) (args:Array Value)
    (IQ:(execOp a.eval o).run P w= .ok (.enter f args) w) (R:Value->World->Prop) (c:Calls P f args w λe w'=>∃v,e= .returned v/\R v w') (h:∀v w',R v w'->K (a.put o.dst v) w'):
  if Region.wanted o (yielded b a.tmps)=true then Oper.wp P o a w K Q else E:=by
 have g:Region.wanted o (yielded b a.tmps)=true:=by simp [Region.wanted,FQ]
 rw [aE g];unfold Oper.wp;rw [IQ,Oper.upon_enter];refine c.mono ?_;rintro e w' ⟨v,rfl,d⟩;exact h v w' d
theorem Oo {P:Program} {c:Array Oper} {o:Oper} {a:Act} {K:Act->World->Prop} {Q:Exit->Act->World->Prop} (FQ:o.guard=none) (f:FuncId) (args:Array Value)
    (IQ:(execOp a.eval o).run P w= .ok (.enter f args) w) (b:List PanicEntry) (d:Calls P f args w λe w'=>e= .panicked b/\w'=w) (g:Q (.panic b) a w) (_:False->K (a.put o.dst undef) w):
  if Region.wanted o (yielded c a.tmps)=true then Oper.wp P o a w K Q else E:=by
 have i:Region.wanted o (yielded c a.tmps)=true:=by simp [Region.wanted,FQ]
 rw [aE i];unfold Oper.wp;rw [IQ,Oper.upon_enter];refine d.mono ?_;rintro e w' ⟨rfl,rfl⟩;exact g
theorem Oq (b o n c:Nat) (l:List Int) (w:World) (G:l.length=n) (H:4<n) (K:n<=1000000) (I:n<=c) (mY:c<=9223372036854775807) (t:Bytes l) (y:∀i,i<n->w.cell? ⟨b,o+i,none⟩=some (.int .u8 (l.getD i 0))) (dh:¬qf l):
  Calls prog 151 #[.slice (some (aD b o)) n c] w λe w'=>e= .panicked mS/\bW w w':=by
 have D:b<w.heap.size:=World.block_lt_of_cell? _ _ (y 0 (by omega));have adC:(n:Int)-4=((n-4:Nat):Int):=by omega
 have M:(0:Int)<=(((n-4:Nat)):Int):=by omega
 have N:(((n-4:Nat)):Int)<=(n:Int):=by omega
 have O:(((n-4:Nat)):Int)<=(c:Int):=by omega
 obtain⟨w1,bN⟩:=bQ (w.alloc (.cells #[.slice (some ⟨b,o+(n-4),none⟩) 4 (c-(n-4)), .int .i64 0] 224));have bK:bW w w1:=by rw [bN];exact(bi _ w).alloc (bP _) _
 have oY:w1.heap[w.heap.size]? =some (.cells #[.slice (some ⟨b,o+(n-4),none⟩) 4 (c-(n-4)), .int .i64 0] 224 (0,0)):=by rw [bN];exact heap_alloc_new _ _
 have rY:w1.heap.size=w.heap.size+1:=by rw [bN];simp
 have p:(part l (n-4) 4).length=4:=fx (by omega);have vi:∀wx:World,bW w1 wx->Rd wx w.heap.size b (o+(n-4)) (c-(n-4)) 0 (part l (n-4) 4):=λwx a=>
    ⟨by show vv _ _ _ _ _ _ _;unfold vv;rw [p];exact(a.block _ (by omega)).trans oY,by omega,λi g=>by
   rw [p] at g;rw [ud g,Nat.add_assoc];exact cell_later (bK.trans (a.mono (by omega))) (y (n-4+i) (by omega)),dS t _ _,by omega,by omega,by omega,λ_=>by have:=a.size;omega⟩
 have dP:∀wx:World,bW w1 wx->Calls prog 189 #[pQ w.heap.size,iV 4] wx λe w'=>e= .returned (iV ((le (part l (n-4) 4):Nat):Int))/\bW w w':=λwx a=>by
  refine(oE _ _ _ _ 0 4 _ wx (vi wx a) (by omega) (by omega) (by omega)).mono ?_;rintro e w' ⟨rfl,_,F⟩;have z:part (part l (n-4) 4) 0 4=part l (n-4) 4:=by
   show ((part l (n-4) 4).drop 0).take 4=_;rw [List.drop_zero,nh (by omega)]
  have u:=lg (dS t (n-4) 4);rw [p] at u;refine⟨?_,(bK.trans (a.mono (by omega))).trans (F.below (λj J=>by omega) (by have:=a.size;omega))⟩;rw [z];congr 2;unfold wrap64;have:(2:Nat) ^ (8*4)=4294967296:=rfl;omega
 have fJ:∀wx:World,bW w wx->Calls prog 145 #[.slice (some (aD b o)) (n-4) c] wx λe w'=>e= .returned (iV ((sumOf (part l 0 (n-4)):Nat):Int))/\bW w w'/\(bW w1 wx->bW w1 w'):=λwx a=>
    (xx (some (aD b o)) (n-4) c _ wx (dS t _ _) (by omega) ⟨fx (l:=l) (k:=0) (m:=n-4) (by omega),(λh=>by cases h),λx T0 i g=>by
   cases T0;rw [aK,Ak (by omega) i g];exact cell_later a (y i (by omega))⟩).mono (by rintro e w' ⟨rfl,ie⟩;exact⟨rfl,a.trans (ie.mono a.size),λh=>h.trans (ie.mono h.size)⟩)
 have E:le (part l (n-4) 4)≠sumOf (part l 0 (n-4)):=by have:=dh;unfold qf at this;rw [G] at this;exact this
 have wi:(((le (part l (n-4) 4):Nat):Int) == ((sumOf (part l 0 (n-4)):Nat):Int))=false:=by rw [Bool.eq_false_iff,ne_eq,beq_iff_eq];omega
 generalize sumOf (part l 0 (n-4))=S at*;generalize le (part l (n-4) 4)=L at*;have A:n-(n-4)=4:=by omega
 have aeg:¬c=n-4:=by omega
 go_in;go_wp2_with fail;rw [<-bN];have d:=(ai (bi w1.heap.size w1));have q:=(ai bK);have aej:(∀wx:World,bW w1 wx->Calls prog 189 #[pQ w.heap.size,iV 4] wx λe w'=>∃v,e= .returned v/\(v=iV (L:Int)/\bW w w')):=λwx a=>(dP wx a).mono (by rintro e w' ⟨rfl,h⟩;exact⟨_,rfl,rfl,h⟩);have aek:(∀wx:World,bW w wx->Calls prog 145 #[.slice (some (aD b o)) (n-4) c] wx λe w'=>∃v,e= .returned v/\(v=iV (S:Int)/\bW w w'/\(bW w1 wx->bW w1 w'))):=λwx a=>(fJ wx a).mono (by rintro e w' ⟨rfl,h⟩;exact⟨_,rfl,rfl,h⟩)
 go_region_law
  (first
   |(refine Al (by rfl) 189 #[pQ w.heap.size,iV 4] (by simp [go_sem]) _ (aej _ ?_) ?_;(first|exact d|exact r);rintro _ P ⟨rfl,aW⟩;have f:=aW;clear aW)
   |(refine Al (by rfl) 145 #[.slice (some (aD b o)) (n-4) c] (by simp [go_sem]) _ (aek _ ?_) ?_;(first|exact q|exact f);rintro _ Q ⟨rfl,bz,Ps⟩;have s:=bz;(try have r:=(Ps d));clear bz Ps)
   |(refine Oo (by rfl) 187 #[.bool false] (by simp [go_sem]) mS (Ee _) ?_ ?_;(first|exact⟨rfl,rfl,s⟩|exact⟨rfl,rfl,f⟩);intro C))
 all_goals exact C.elim
theorem KL (a:xs=gq):((strOfNums xs).toList == [118,101,108,108,117,109,0,1])=true:=by
 subst a;decide+kernel
theorem aad (h:Bytes xs) (a:xs≠gq):((strOfNums xs).toList == [118,101,108,108,117,109,0,1])=false:=by
 rw [Bool.eq_false_iff,ne_eq,beq_iff_eq];intro e;apply a;have:=Wj h;rw [<-this];unfold Pq;rw [<-ByteArray.toList_eq,e];rfl
def u32 (l:List Int) (k:Nat):Nat:=le (part l k 4)
theorem aae (h:Bytes l) (a:k+4<=l.length):u32 l k<4294967296:=by
 have:=lg (dS h k 4);rw [fx a] at this;exact this
theorem Sr (h:Bytes l) (a:k+4<=l.length):wrap64 ((le (part l k 4):Nat):Int)=((u32 l k:Nat):Int):=by
 have:=aae h a;unfold u32 at*;unfold wrap64;omega
theorem uk (p b o c k:Nat) (l:List Int) (w:World) (h:Rd w p b o c k l) (a:k+4<=l.length) (xJ:k<c):
  Calls prog 189 #[pQ p,iV 4] w λe w'=>e= .returned (iV ((u32 l k:Nat):Int))/\Rd w' p b o c (k+4) l/\aa (λj=>j=p) w w':=by
 refine(oE p b o c k 4 l w h a xJ (by omega)).mono ?_;rintro e w' ⟨rfl,d,f⟩;exact⟨by rw [Sr h.bytes a],d,f⟩
structure Reads (p g:Nat) (w w':World) (cs:Array Value) (t:TypeId):Prop where
 k:aa (λj=>j=p) w w'
 dj:w'.heap[g]? =some (.cells cs t (0,0))
 ne:g≠p
theorem Reads.step {t:TypeId} (h:Reads p g w w1 cs t) (a:aa (λj=>j=p) w1 w2):Reads p g w w2 cs t:=
   ⟨h.k.trans a (λ_ h=> .inl h),(a.block g (kN.1 h.dj).1 h.ne).trans h.dj,h.ne⟩
theorem Reads.below {t:TypeId} (h:Reads p g w w1 cs t) (a:bW w1 w2):Reads p g w w2 cs t:=h.step (aa.ah _ a)
theorem aa.put (h:aa F w wx) (a:w.heap.size<=g) (v:Value):aa F w (wx.setCell ⟨g,i,none⟩ v):=
 h.trans (aa.setCell (F:=λj=>j=g) (p:=⟨g,i,none⟩) wx rfl v) (λj b=> .inr (by omega))
theorem aa.more (h:aa F w wx) (o:Obj):aa F w (wx.alloc o):=h.trans (aa.alloc F wx o) (λ_ h=> .inl h)
structure Hg (l:List Int):Prop where
 head:part l 0 8=gq
 tu:ue (part l 20 488)
 geo:vq (u32 l 8) (u32 l 12) (u32 l 16)
theorem El (p b o c:Nat) (l:List Int) (w:World) (h:Rd w p b o c 0 l) (I:l.length=508) (dh:Hg l):
  Calls prog 150 #[pQ p] w λe w'=>e= .returned (.agg #[iV ((u32 l 8:Nat):Int),iV ((u32 l 12:Nat):Int),iV ((u32 l 16:Nat):Int)])/\aa (λj=>j=p) w w':=by
 have H:=h.cap;have aaf:=KL dh.head;have pf:=(kN.1 h.rd).1;obtain⟨w1,bN⟩:=bQ (w.alloc (.cells #[.int .i64 0, .int .i64 0, .int .i64 0] 39));have bK:bW w w1:=by rw [bN];exact(bi _ w).alloc (bP _) _
 have m:Reads p w.heap.size w w1 #[iV 0,iV 0,iV 0] 39:=⟨aa.ah _ bK,by rw [bN];exact heap_alloc_new _ _,by omega⟩;have t:Calls prog 188 #[pQ p,iV 8] w1 λe w'=>e= .returned (.string (strOfNums (part l 0 8)))/\Rd w' p b o c 8 l/\aa (λj=>j=p) w1 w':=uj p b o c 0 8 l w1 (h.lI bK) (by omega) (by omega);generalize strOfNums (part l 0 8)=z at*;go_in;go_wp2_with fail;rw [<-bN];refine fk t λA fb aX=>?_;go_wp2_with fail;refine(sI _).mono ?_;rintro e M ⟨rfl,g⟩;have ez:=g.symm;subst ez;go_wp2_with fail;refine(uk p b o c 8 l A fb (by omega) (by omega)).mono ?_;rintro e C ⟨rfl,ub,dV⟩;go_wp2_with fail;refine(uk p b o c 12 l C ub (by omega) (by omega)).mono ?_;rintro e w5 ⟨rfl,Fa,dX⟩;go_wp2_with fail;refine(uk p b o c 16 l w5 Fa (by omega) (by omega)).mono ?_;rintro e f ⟨rfl,FB,ji⟩;have Ss:=((((m.step aX).step dV).step dX).step ji);have s:=(kN.1 FB.rd).1;have x:∀wx:World,bW f wx->Calls prog 190 #[pQ p,iV 508] wx λe w'=>e= .returned (.tuple #[])/\Rd w' p b o c 508 l/\aa (λj=>j=p) wx w':=λwx u=>CT p b o c 20 488 l wx (FB.lI u) (by omega) (by omega) dh.tu;have St:∀o,bW f (f.alloc o):=λo=>(bi _ f).alloc (bP _) _;go_wp2_with fail;refine(x _ (St _)).mono ?_;rintro e i ⟨rfl,_,gy⟩;have Mg:i.heap[f.heap.size]? =some (.cells #[.int .i64 ((u32 l 8:Nat):Int), .int .i64 ((u32 l 12:Nat):Int), .int .i64 ((u32 l 16:Nat):Int)] 39 (0,0)):=(gy.block _ (by simp) (by omega)).trans (heap_alloc_new _ _);obtain⟨a,y,s1,s2⟩:=cM dh.geo (aL Mg) (bD Mg) (bH Mg);go_wp2_with fail;refine(qS (u32 l 8) (u32 l 12) (u32 l 16) i a.1.1 a.1.2 a.2.1.1 a.2.1.2 a.2.2.1 a.2.2.2.1 a.2.2.2.2).mono ?_;rintro e D ⟨rfl,BD⟩;obtain⟨d,J,K,L,CW⟩:=ey ((((Ss.below (St _)).step gy).below BD)) (cell_later BD y) (cell_later BD s1) (cell_later BD s2) (iP (kN.1 Mg).1 BD.size);have sd:=d.dj;have LU:=λo=>(Below.heap_alloc D o _ (kN.1 sd).1).trans sd;have n:=λo=>aL (LU o);have q:=λo=>bD (LU o);have r:=λo=>bH (LU o);have E:=λo=>ae (LU o) 0;have F:=λo=>ae (LU o) 1;have G:=λo=>ae (LU o) 2;go_wp2_with fail;refine(sI _).mono ?_;rintro e N ⟨rfl,g⟩;have ez:=g.symm;subst ez;go_wp2;refine bodyPost_ret (v:= .agg #[iV ((u32 l 8:Nat):Int),iV ((u32 l 12:Nat):Int),iV ((u32 l 16:Nat):Int)]) (by simp [results,results150,go_sem,n,q,r]) rfl ⟨rfl,?_⟩;exact(((d.k.more _).put (bP _) _).put (bP _) _).put (bP _) _
theorem BF (p b o c:Nat) (l:List Int) (w:World) (h:Rd w p b o c 0 l) (m:l.length=508) (dh:part l 0 8≠gq):
  Calls prog 150 #[pQ p] w λe w'=>e= .panicked mS/\aa (λj=>j=p) w w':=by
 have i:=h.cap;have aaf:=aad (dS h.bytes 0 8) dh;have pf:=(kN.1 h.rd).1;obtain⟨w1,bN⟩:=bQ (w.alloc (.cells #[.int .i64 0, .int .i64 0, .int .i64 0] 39));have bK:bW w w1:=by rw [bN];exact(bi _ w).alloc (bP _) _
 have a:Reads p w.heap.size w w1 #[iV 0,iV 0,iV 0] 39:=⟨aa.ah _ bK,by rw [bN];exact heap_alloc_new _ _,by omega⟩;have d:Calls prog 188 #[pQ p,iV 8] w1 λe w'=>e= .returned (.string (strOfNums (part l 0 8)))/\Rd w' p b o c 8 l/\aa (λj=>j=p) w1 w':=uj p b o c 0 8 l w1 (h.lI bK) (by omega) (by omega);generalize strOfNums (part l 0 8)=g at*;go_in;go_wp2_with fail;rw [<-bN];refine fk d λn fb aX=>?_;go_wp2_with fail;refine(Ee _).mono ?_;rintro e q ⟨rfl,f⟩;have ez:=f.symm;subst ez;go_wp2;exact⟨rfl,rfl,(a.step aX).k⟩
theorem BG (p b o c:Nat) (l:List Int) (w:World) (h:Rd w p b o c 0 l) (v:l.length=508) (f:part l 0 8=gq) (g:¬ue (part l 20 488)):
  Calls prog 150 #[pQ p] w λe w'=>e= .panicked mS/\aa (λj=>j=p) w w':=by
 have u:=h.cap;have aaf:=KL f;have pf:=(kN.1 h.rd).1;obtain⟨w1,bN⟩:=bQ (w.alloc (.cells #[.int .i64 0, .int .i64 0, .int .i64 0] 39));have bK:bW w w1:=by rw [bN];exact(bi _ w).alloc (bP _) _
 have d:Reads p w.heap.size w w1 #[iV 0,iV 0,iV 0] 39:=⟨aa.ah _ bK,by rw [bN];exact heap_alloc_new _ _,by omega⟩;have i:Calls prog 188 #[pQ p,iV 8] w1 λe w'=>e= .returned (.string (strOfNums (part l 0 8)))/\Rd w' p b o c 8 l/\aa (λj=>j=p) w1 w':=uj p b o c 0 8 l w1 (h.lI bK) (by omega) (by omega);generalize strOfNums (part l 0 8)=r at*;go_in;go_wp2_with fail;rw [<-bN];refine fk i λs fb aX=>?_;go_wp2_with fail;refine(sI _).mono ?_;rintro e x ⟨rfl,m⟩;have ez:=m.symm;subst ez;go_wp2_with fail;refine(uk p b o c 8 l s fb (by omega) (by omega)).mono ?_;rintro e t ⟨rfl,ub,dV⟩;go_wp2_with fail;refine(uk p b o c 12 l t ub (by omega) (by omega)).mono ?_;rintro e w5 ⟨rfl,Fa,dX⟩;go_wp2_with fail;refine(uk p b o c 16 l w5 Fa (by omega) (by omega)).mono ?_;rintro e a ⟨rfl,FB,ji⟩;have Ss:=((((d.step aX).step dV).step dX).step ji);have q:∀wx:World,bW a wx->Calls prog 190 #[pQ p,iV 508] wx λe w'=>e= .panicked mS/\aa (λj=>j=p) wx w':=λwx n=>Of p b o c 20 488 l wx (FB.lI n) (by omega) (by omega) g;have St:∀o,bW a (a.alloc o):=λo=>(bi _ a).alloc (bP _) _;go_wp2_with fail;refine(q _ (St _)).mono ?_;rintro e y ⟨rfl,gy⟩;go_wp2;exact⟨rfl,rfl,((Ss.below (St _)).step gy).k⟩
theorem BH (p b o c:Nat) (l:List Int) (w:World) (h:Rd w p b o c 0 l) (E:l.length=508) (i:part l 0 8=gq) (m:ue (part l 20 488)) (n:¬vq (u32 l 8) (u32 l 12) (u32 l 16)):
  Calls prog 150 #[pQ p] w λe w'=>e= .panicked mS/\aa (λj=>j=p) w w':=by
 have D:=h.cap;have aaf:=KL i;have pf:=(kN.1 h.rd).1;obtain⟨w1,bN⟩:=bQ (w.alloc (.cells #[.int .i64 0, .int .i64 0, .int .i64 0] 39));have bK:bW w w1:=by rw [bN];exact(bi _ w).alloc (bP _) _
 have g:Reads p w.heap.size w w1 #[iV 0,iV 0,iV 0] 39:=⟨aa.ah _ bK,by rw [bN];exact heap_alloc_new _ _,by omega⟩;have t:Calls prog 188 #[pQ p,iV 8] w1 λe w'=>e= .returned (.string (strOfNums (part l 0 8)))/\Rd w' p b o c 8 l/\aa (λj=>j=p) w1 w':=uj p b o c 0 8 l w1 (h.lI bK) (by omega) (by omega);generalize strOfNums (part l 0 8)=z at*;go_in;go_wp2_with fail;rw [<-bN];refine fk t λA fb aX=>?_;go_wp2_with fail;refine(sI _).mono ?_;rintro e G ⟨rfl,f⟩;have ez:=f.symm;subst ez;go_wp2_with fail;refine(uk p b o c 8 l A fb (by omega) (by omega)).mono ?_;rintro e C ⟨rfl,ub,dV⟩;go_wp2_with fail;refine(uk p b o c 12 l C ub (by omega) (by omega)).mono ?_;rintro e w5 ⟨rfl,Fa,dX⟩;go_wp2_with fail;refine(uk p b o c 16 l w5 Fa (by omega) (by omega)).mono ?_;rintro e a ⟨rfl,FB,ji⟩;have Ss:=((((g.step aX).step dV).step dX).step ji);have s:=(kN.1 FB.rd).1;have y:∀wx:World,bW a wx->Calls prog 190 #[pQ p,iV 508] wx λe w'=>e= .returned (.tuple #[])/\Rd w' p b o c 508 l/\aa (λj=>j=p) wx w':=λwx u=>CT p b o c 20 488 l wx (FB.lI u) (by omega) (by omega) m;have St:∀o,bW a (a.alloc o):=λo=>(bi _ a).alloc (bP _) _;go_wp2_with fail;refine(y _ (St _)).mono ?_;rintro e d ⟨rfl,_,gy⟩;have Mg:d.heap[a.heap.size]? =some (.cells #[.int .i64 ((u32 l 8:Nat):Int), .int .i64 ((u32 l 12:Nat):Int), .int .i64 ((u32 l 16:Nat):Int)] 39 (0,0)):=(gy.block _ (by simp) (by omega)).trans (heap_alloc_new _ _);have Yx:Calls prog 98 #[.agg #[iV ((u32 l 8:Nat):Int),iV ((u32 l 12:Nat):Int),iV ((u32 l 16:Nat):Int)]] d λe w'=>e= .returned (.tuple #[.agg #[iV 0,iV 0,iV 0,iV 0,iV 0],iV 22])/\bW d w':=by
  refine(GO _ _ _ d).mono ?_;rintro e w' ⟨v,x,rfl,⟨r,_⟩|⟨_,rfl,rfl⟩,q⟩
  .exact absurd r n
  .exact⟨rfl,q⟩
 have F:=aL Mg;have s1:=bD Mg;have s2:=bH Mg;go_wp2_with fail;refine bE Yx λH BD=>?_;go_wp2_with fail;refine(Ee _).mono ?_;rintro e I ⟨rfl,f⟩;have ez:=f.symm;subst ez;go_wp2;exact⟨rfl,rfl,(((Ss.below (St _)).step gy).below BD).k.more _⟩
theorem Em (p b o c:Nat) (l:List Int) (w:World) (h:Rd w p b o c 0 l) (f:l.length=508) (dh:¬Hg l):
  Calls prog 150 #[pQ p] w λe w'=>e= .panicked mS/\aa (λj=>j=p) w w':=by
 by_cases a:part l 0 8=gq
 .by_cases d:ue (part l 20 488)
  .exact BH p b o c l w h f a d (λg=>dh ⟨a,d,g⟩)
  .exact BG p b o c l w h f a d
 .exact BF p b o c l w h f a
theorem Su:∀{xs:List Int},Bytes xs->leb xs.length (le xs)=xs
 | [],_=>rfl
 |x :: t,h=>by
  have d:=h x (by simp);rw [List.length_cons,leb,le];have a:(x.toNat+256*le t) / 256=le t:=by omega
  have b:(((x.toNat+256*le t)%256:Nat):Int)=x:=by omega
  rw [a,b,(Su (xs:=t) (λy c=>h y (by simp [c])))]
theorem Am:∀(k m:Nat),m<256 ^ k->le (leb k m)=m
 |0,m,h=>by simp at h;simp [leb,le,h]
 |k+1,m,h=>by
  have a:m / 256<256 ^ k:=by rw [Nat.pow_succ] at h;exact Nat.div_lt_of_lt_mul (by rw [Nat.mul_comm];exact h)
  rw [leb,le,Am k _ a];omega
theorem Ot (h:∀x∈l,x=0):l=List.replicate l.length 0:=List.eq_replicate_iff.2 ⟨rfl,h⟩
theorem kf {a m:Nat} (h:q+m<=a):part (part l 0 a) q m=part l q m:=by
 unfold part;rw [List.drop_zero,List.drop_take,List.take_take];congr 1;omega
theorem lS (l:List Int) (q m k:Nat):part l q (m+k)=part l q m ++ part l (q+m) k:=by
 unfold part;rw [List.take_add,List.drop_drop]
theorem Hi (l:List Int):part l 0 l.length=l:=by simp [part]
theorem qg (A B:List Int) (q m:Nat) (h:q=A.length):part (A ++ B) q m=B.take m:=by
 subst h;simp [part]
theorem iL (A B:List Int) (q m:Nat) (h:q+m<=A.length):part (A ++ B) q m=part A q m:=by
 unfold part;rw [List.drop_append_of_le_length (by omega),List.take_append_of_le_length (by simp;omega)]
theorem ul (a:Bytes l) (b:q+4<=l.length):leb 4 (u32 l q)=part l q 4:=by
 have:=Su (dS a q 4);rw [fx b] at this;exact this
def An (l:List Int):Prop:=vq (u32 l 8) (u32 l 12) (u32 l 16)/\eR (bM (u32 l 8) (u32 l 12) (u32 l 16))=l
theorem C0 (b:Bytes l) (j:l.length=512):(qf l/\Hg (part l 0 508))↔An l:=by
 have u1:u32 (part l 0 508) 8=u32 l 8:=by unfold u32;rw [kf (by omega)]
 have u2:u32 (part l 0 508) 12=u32 l 12:=by unfold u32;rw [kf (by omega)]
 have u3:u32 (part l 0 508) 16=u32 l 16:=by unfold u32;rw [kf (by omega)]
 have Qz:part l 0 508=part l 0 8 ++ part l 8 4 ++ part l 12 4 ++ part l 16 4 ++ part l 20 488:=by
  rw [show (508:Nat)=8+4+4+4+488 from rfl,lS,lS,lS,lS]
 have aag:l=part l 0 508 ++ part l 508 4:=by
  have:=lS l 0 508 4;rw [show 508+4=l.length by omega,Hi] at this;exact this
 constructor
 .rintro ⟨f,i,k,c⟩;rw [u1,u2,u3] at c;rw [kf (by omega)] at i k;refine⟨c,?_⟩;have e:bM (u32 l 8) (u32 l 12) (u32 l 16)=part l 0 508:=by
   rw [Qz,i,<-ul b (q:=8) (by omega),<-ul b (q:=12) (by omega),<-ul b (q:=16) (by omega)];have:=Ot k;rw [fx (by omega)] at this;rw [this];rfl
  unfold eR;rw [e];unfold qf at f;rw [j] at f;have m:u32 l 508=sumOf (part l 0 508):=f;rw [<-m,(ul b (q:=508) (by omega))];exact aag.symm
 .rintro ⟨c,g⟩;have a:=dD (u32 l 8) (u32 l 12) (u32 l 16);have Sv:part l 0 508=bM (u32 l 8) (u32 l 12) (u32 l 16):=by
   conv=>lhs;rw [<-g]
   unfold eR;rw [iL _ _ _ _ (by omega)];have:=Hi (bM (u32 l 8) (u32 l 12) (u32 l 16));rw [a] at this;exact this
  have FP:part l 508 4=leb 4 (sumOf (bM (u32 l 8) (u32 l 12) (u32 l 16))):=by
   conv=>lhs;rw [<-g]
   unfold eR;rw [qg _ _ _ _ a.symm,nh (by rw [aH];omega)]
  refine⟨?_,?_,?_,?_⟩
  .unfold qf;rw [j];show le (part l 508 4)=sumOf (part l 0 508);rw [FP,Sv,Am _ _ (by have:=ng (gM (u32 l 8) (u32 l 12) (u32 l 16));omega)]
  .rw [Sv];unfold bM;rw [List.append_assoc,List.append_assoc,List.append_assoc,iL _ _ _ _ (by decide)];rfl
  .rw [Sv];unfold bM;have d:(gq ++ leb 4 (u32 l 8) ++ leb 4 (u32 l 12) ++ leb 4 (u32 l 16)).length=20:=(by rw [dT,dT,dT,aH,aH,aH];rfl);rw [qg _ _ _ _ d.symm];intro x n;exact List.eq_of_mem_replicate (List.mem_of_mem_take n)
  .rw [u1,u2,u3];exact c
theorem um (a c:Nat) (f g i:Value) (x:Value) (w:World) (b:w.heap[a]? =some (.cells #[f,g,i] 39 (0,0))) (d:w.heap[c]? =some (.cells #[x] 49 (0,0))) (dG:a≠c):
  CallsD prog 149 #[pQ a,pQ c] (.panicking mS) w λe k w'=>
   e= .returned (.tuple #[])/\k= .panicking [{v:= .iface 49 (iV 6),recovered:=true}]/\w'=(((w.setCell ⟨a,0,none⟩ (.int .i64 0)).setCell ⟨a,1,none⟩ (.int .i64 0)).setCell ⟨a,2,none⟩ (.int .i64 0)).setCell ⟨c,0,none⟩ (.int .i64 6):=by
 have ajK:¬c=a:=λe=>dG e.symm;refine callsD_of_wpS func149 rfl λl cs j=>?_;apply wpS_seq;apply wpS_region;simp [wpOpsS,go_sem,recoverD,j,ntmps149,Exit.thenS];refine wpS_cond (t:=true) (by simp [Act.eval,Array.replicate]) ?_;simp only [if_true];apply wpS_region;simp [wpOpsS,go_sem,aL b,bD b,bH b,ae b 0,ae b 1,ae b 2,aL d,ae d 0,bodyPostS,results,results149]
theorem Hk (b c:Nat) (w:World):
  CallsD prog 149 #[pQ b,pQ c] .returning w λe f w'=>e= .returned (.tuple #[])/\f= .returning/\w'=w:=by
 refine callsD_of_wpS func149 rfl λa cs d=>?_;apply wpS_seq;apply wpS_region;simp [wpOpsS,go_sem,recoverD,d,ntmps149,Exit.thenS];refine wpS_cond (t:=false) (by simp [Act.eval,Array.replicate]) ?_;simp only [Bool.false_eq_true,if_false];refine wpS_of_wp (wp_skip ?_);cases a
 simp_all [bodyPostS,results,results149]
theorem qW {B:Nat} (h:Below B w wx) (b:B<=g) (a:B<=wx.heap.size) (v:Value):Below B w (wx.setCell ⟨g,i,none⟩ v):=
 h.trans ((aa.setCell (F:=λj=>j=g) (p:=⟨g,i,none⟩) wx rfl v).below (λj c=>by omega) a)
theorem size_setCell (w:World) (a:Addr) (v:Value):(w.setCell a v).heap.size=w.heap.size:=by simp [World.setCell]
theorem KM {B:Nat} (h:Below B w wx) {a:Nat} (c:B<=a) (d:B<=g2) (b:B<=wx.heap.size) (x y z u:Value):
  Below B w ((((wx.setCell ⟨a,0,none⟩ x).setCell ⟨a,1,none⟩ y).setCell ⟨a,2,none⟩ z).setCell ⟨g2,0,none⟩ u):=
 qW (qW (qW (qW h c b x) c (by rw [size_setCell];exact b) y) c (by rw [size_setCell,size_setCell];exact b) z) d (by rw [size_setCell,size_setCell,size_setCell];exact b) u
def oI (l:List Int):Prop:=qf l/\Hg (part l 0 508)
theorem Ht (b o c:Nat) (l:List Int) (w:World) (u:l.length=512) (s:512<=c) (mY:c<=9223372036854775807) (r:Bytes l) (v:∀i,i<512->w.cell? ⟨b,o+i,none⟩=some (.int .u8 (l.getD i 0))) (dh:oI l):
  Calls prog 108 #[.slice (some (aD b o)) 512 c] w λe w'=>e= .returned (.tuple #[.agg #[iV ((u32 l 8:Nat):Int),iV ((u32 l 12:Nat):Int),iV ((u32 l 16:Nat):Int)],iV 0])/\bW w w':=by
 obtain⟨w1,bN⟩:=bQ ((w.alloc (.cells #[.int .i64 0, .int .i64 0, .int .i64 0] 39)).alloc (.cells #[.int .i64 0] 49));have bK:bW w w1:=by rw [bN];exact bY w _ _
 have rY:w1.heap.size=w.heap.size+2:=by rw [bN];simp
 have o8:w1.heap[w.heap.size]? =some (.cells #[.int .i64 0, .int .i64 0, .int .i64 0] 39 (0,0)):=by rw [bN];exact heap_alloc2_old _ _ _
 have fU:w1.heap[w.heap.size+1]? =some (.cells #[.int .i64 0] 49 (0,0)):=by rw [bN];exact heap_alloc2_new _ _ _
 go_enter_defers func108,ntmps108
 go_wp2_with fail;rw [<-bN];refine(CZ b o 512 c l w1 u (by omega) (by omega) s mY r (λi t=>cell_later bK (v i t)) dh.1).mono ?_;rintro e x ⟨p,rfl,E,vi,aW⟩;have pi:=El p b o c (part l 0 508) x vi (fx (by omega)) dh.2;have dE:=bK.trans (aW.mono bK.size);have a:=((aW.block w.heap.size (by omega)).trans o8);have d:=((aW.block (w.heap.size+1) (by omega)).trans fU);have g:u32 (part l 0 508) 8=u32 l 8:=by unfold u32;congr 1;simp [part,List.drop_take,List.take_take]
 have ajL:u32 (part l 0 508) 12=u32 l 12:=by unfold u32;congr 1;simp [part,List.drop_take,List.take_take]
 have ajM:u32 (part l 0 508) 16=u32 l 16:=by unfold u32;congr 1;simp [part,List.drop_take,List.take_take]
 rw [g,ajL,ajM] at pi;go_wp2_with fail;refine bE pi λG aV=>?_;have o8:=(aV.block w.heap.size (kN.1 a).1 (by omega)).trans a;have fU:=(aV.block (w.heap.size+1) (kN.1 d).1 (by omega)).trans d;obtain⟨fS,k,m,n,z,A,C,q,y⟩:=UD (dE.trans (aV.below (λj D=>by omega) dE.size)) (aL o8) (bD o8) (bH o8) (ae o8 0) (ae o8 1) (ae o8 2) (aL fU) (ae fU 0);go_wp2;refine leaves_cons (f:=149) (args:= #[pQ w.heap.size, .pointer (some ⟨w.heap.size+1,0,none⟩)]) (by simp) (by simp [go_sem]) ?_;refine(Hk _ _ _).mono ?_;rintro e F Bh ⟨rfl,rfl,rfl⟩;simp [Leaves,settle,results,results108,go_sem,k,m,n,q];exact(KM fS (bP w.heap.size) (show w.heap.size<=w.heap.size+1 by omega) fS.size (iV ((u32 l 8:Nat):Int)) (iV ((u32 l 12:Nat):Int)) (iV ((u32 l 16:Nat):Int)) (iV 0))
theorem En (b o c:Nat) (l:List Int) (w:World) (m:l.length=512) (j:512<=c) (mY:c<=9223372036854775807) (g:Bytes l) (n:∀i,i<512->w.cell? ⟨b,o+i,none⟩=some (.int .u8 (l.getD i 0))) (d:¬qf l):
  Calls prog 108 #[.slice (some (aD b o)) 512 c] w λe w'=>e= .returned (.tuple #[.agg #[iV 0,iV 0,iV 0],iV 6])/\bW w w':=by
 obtain⟨w1,bN⟩:=bQ ((w.alloc (.cells #[.int .i64 0, .int .i64 0, .int .i64 0] 39)).alloc (.cells #[.int .i64 0] 49));have bK:bW w w1:=by rw [bN];exact bY w _ _
 have rY:w1.heap.size=w.heap.size+2:=by rw [bN];simp
 have o8:w1.heap[w.heap.size]? =some (.cells #[.int .i64 0, .int .i64 0, .int .i64 0] 39 (0,0)):=by rw [bN];exact heap_alloc2_old _ _ _
 have fU:w1.heap[w.heap.size+1]? =some (.cells #[.int .i64 0] 49 (0,0)):=by rw [bN];exact heap_alloc2_new _ _ _
 go_enter_defers func108,ntmps108
 go_wp2_with fail;rw [<-bN];refine(Oq b o 512 c l w1 m (by omega) (by omega) j mY g (λi k=>cell_later bK (n i k)) d).mono ?_;rintro e q ⟨rfl,aW⟩;have dE:=bK.trans (aW.mono bK.size);have a:=(aF ((aW.block w.heap.size (by omega)).trans o8) ((aW.block (w.heap.size+1) (by omega)).trans fU));go_wp2;refine leaves_cons (f:=149) (args:= #[pQ w.heap.size, .pointer (some ⟨w.heap.size+1,0,none⟩)]) (by simp) (by simp [go_sem]) ?_;refine(um w.heap.size (w.heap.size+1) _ _ _ _ _ a.1 a.2 (by omega)).mono ?_;rintro e p Bh ⟨rfl,rfl,rfl⟩;simp [Leaves,settle,results,results108,go_sem,aL a.1,bD a.1,bH a.1,(aL a.2)];exact(KM dE (bP w.heap.size) (show w.heap.size<=w.heap.size+1 by omega) dE.size (iV 0) (iV 0) (iV 0) (iV 6))
theorem Eo (b o c:Nat) (l:List Int) (w:World) (s:l.length=512) (q:512<=c) (mY:c<=9223372036854775807) (n:Bytes l) (t:∀i,i<512->w.cell? ⟨b,o+i,none⟩=some (.int .u8 (l.getD i 0))) (k:qf l) (m:¬Hg (part l 0 508)):
  Calls prog 108 #[.slice (some (aD b o)) 512 c] w λe w'=>e= .returned (.tuple #[.agg #[iV 0,iV 0,iV 0],iV 6])/\bW w w':=by
 obtain⟨w1,bN⟩:=bQ ((w.alloc (.cells #[.int .i64 0, .int .i64 0, .int .i64 0] 39)).alloc (.cells #[.int .i64 0] 49));have bK:bW w w1:=by rw [bN];exact bY w _ _
 have rY:w1.heap.size=w.heap.size+2:=by rw [bN];simp
 have o8:w1.heap[w.heap.size]? =some (.cells #[.int .i64 0, .int .i64 0, .int .i64 0] 39 (0,0)):=by rw [bN];exact heap_alloc2_old _ _ _
 have fU:w1.heap[w.heap.size+1]? =some (.cells #[.int .i64 0] 49 (0,0)):=by rw [bN];exact heap_alloc2_new _ _ _
 go_enter_defers func108,ntmps108
 go_wp2_with fail;rw [<-bN];refine(CZ b o 512 c l w1 s (by omega) (by omega) q mY n (λi r=>cell_later bK (t i r)) k).mono ?_;rintro e u ⟨p,rfl,x,vi,aW⟩;have dE:=bK.trans (aW.mono bK.size);have d:=((aW.block w.heap.size (by omega)).trans o8);have g:=((aW.block (w.heap.size+1) (by omega)).trans fU);go_wp2_with fail;refine(Em p b o c (part l 0 508) u vi (fx (by omega)) m).mono ?_;rintro e z ⟨rfl,aV⟩;have o8:=(aV.block w.heap.size (kN.1 d).1 (by omega)).trans d;have fU:=(aV.block (w.heap.size+1) (kN.1 g).1 (by omega)).trans g;have fS:=dE.trans (aV.below (λj v=>by omega) dE.size);have a:=(aF o8 fU);go_wp2;refine leaves_cons (f:=149) (args:= #[pQ w.heap.size, .pointer (some ⟨w.heap.size+1,0,none⟩)]) (by simp) (by simp [go_sem]) ?_;refine(um w.heap.size (w.heap.size+1) _ _ _ _ _ a.1 a.2 (by omega)).mono ?_;rintro e y Bh ⟨rfl,rfl,rfl⟩;simp [Leaves,settle,results,results108,go_sem,aL a.1,bD a.1,bH a.1,(aL a.2)];exact(KM fS (bP w.heap.size) (show w.heap.size<=w.heap.size+1 by omega) fS.size (iV 0) (iV 0) (iV 0) (iV 6))
theorem Hu (b o c:Nat) (l:List Int) (w:World) (g:l.length=512) (f:512<=c) (mY:c<=9223372036854775807) (d:Bytes l) (j:∀i,i<512->w.cell? ⟨b,o+i,none⟩=some (.int .u8 (l.getD i 0))) (dh:¬oI l):
  Calls prog 108 #[.slice (some (aD b o)) 512 c] w λe w'=>e= .returned (.tuple #[.agg #[iV 0,iV 0,iV 0],iV 6])/\bW w w':=by
 by_cases a:qf l
 .exact Eo b o c l w g f mY d j a (λk=>dh ⟨a,k⟩)
 .exact En b o c l w g f mY d j a
section
section
variable {w:World} {F:Nat->Prop} {p s c:Nat} {S:DS}
theorem Ou (h:B.ax w F p s S c) (k:Nat) (j:k<s) (aT:S.puts.length+1<=4000000000000) (f:S.fuse≠0):
  Calls prog 39 #[pQ p,iV (k:Int)] w λe w'=>∃g a,e= .returned (.tuple #[.slice (some (aD g 0)) 512 a,iV 0])/\w.heap.size<=g/\ay w' 5 g a (bs (S.now k))/\B.ax w' F p s S (c+1)/\aa F w w':=by
 obtain⟨r,h,l⟩:=h;refine(LI h k f j (by show S.puts.length<=_;omega)).mono ?_;rintro e w' ⟨g,a,rfl,i,aY,b,d⟩;exact⟨g,a,rfl,i,aY,⟨_,b,l.read⟩,d⟩
end
def lT (l:List Int) (s:Nat):Prop:=oI l/\u32 l 8=s
def cz (l:List Int):LY:=⟨u32 l 12,3+u32 l 12,u32 l 8-(3+u32 l 12),u32 l 16,2+u32 l 16 / 4⟩
abbrev XX:LY:=⟨0,0,0,0,0⟩
def Sw (S:DS) (s:Nat) (y:LY) (x:Int):Prop:=
   (S.fuse=0/\y=XX/\x=3)\/(S.fuse≠0/\lT (S.now 0) s/\y=cz (S.now 0)/\x=0)\/(S.fuse≠0/\¬lT (S.now 0) s/\y=XX/\x=6)
theorem oI.geo (h:oI l):vq (u32 l 8) (u32 l 12) (u32 l 16):=by
 simpa only [u32,kf (show 8+4<=508 by omega),kf (show 12+4<=508 by omega),kf (show 16+4<=508 by omega)] using h.2.geo
theorem Sx (l:List Int) {s:Nat} (d:u32 l 8=s) (e:((u32 l 12:Nat):Int)+((u32 l 16:Nat):Int) / 4+6<=(s:Int)):
  Ending.returned (.tuple #[.agg #[iV ((u32 l 12:Nat):Int),iV (3+((u32 l 12:Nat):Int)),iV ((s:Int)-(3+((u32 l 12:Nat):Int))),iV ((u32 l 16:Nat):Int),iV (2+((u32 l 16:Nat):Int) / 4)],iV 0])=Ending.returned (.tuple #[Pr (cz l),iV 0]):=by
 unfold cz Pr;generalize u32 l 12=y at*;generalize u32 l 16=z at*;rw [d];have a:((3+y:Nat):Int)=3+(y:Int):=by omega
 have b:((s-(3+y):Nat):Int)=(s:Int)-(3+(y:Int)):=by omega
 have c:((2+z / 4:Nat):Int)=2+(z:Int) / 4:=by omega
 simp only [a,b,c]
theorem Sy {j l m n o:Value} {t:TypeId} (h:W.heap[g]? =some (.cells #[j,l,m,n,o] t (0,0))) (b c d e f:Value):
    (((((W.setCell ⟨g,0,none⟩ b).setCell ⟨g,1,none⟩ c).setCell ⟨g,2,none⟩ d).setCell ⟨g,3,none⟩ e).setCell ⟨g,4,none⟩ f).heap[g]? =some (.cells #[b,c,d,e,f] t (0,0))/\aa (λk=>k=g) W (((((W.setCell ⟨g,0,none⟩ b).setCell ⟨g,1,none⟩ c).setCell ⟨g,2,none⟩ d).setCell ⟨g,3,none⟩ e).setCell ⟨g,4,none⟩ f):=by
 refine⟨PJ b c d e f h,?_⟩;have a:=λ(w:World) (i:Nat) (v:Value)=>aa.setCell (F:=λk=>k=g) w (p:=(aD g i)) rfl v;exact((((a _ 0 b).trans (a _ 1 c) (λ_ h=> .inl h)).trans (a _ 2 d) (λ_ h=> .inl h)).trans (a _ 3 e) (λ_ h=> .inl h)).trans (a _ 4 f) (λ_ h=> .inl h)
theorem uo {w:World} {F:Nat->Prop} {p s c:Nat} {S:DS} (h:B.ax w F p s S c) (cZ:S.fC) (aT:S.puts.length+1<=4000000000000):
  Calls prog 54 #[pQ p] w λe w'=>∃y x,e= .returned (.tuple #[Pr y,iV x])/\Sw S s y x/\B.ax w' F p s S (c+1)/\aa F w w':=by
 obtain⟨w0,J4⟩:=bQ (w.alloc (.cells #[.int .i64 0, .int .i64 0, .int .i64 0, .int .i64 0, .int .i64 0] 86));have fo:bW w w0:=by rw [J4];exact aI _ _
 have dF:w0.heap[w.heap.size]? =some (.cells #[.int .i64 0, .int .i64 0, .int .i64 0, .int .i64 0, .int .i64 0] 86 (0,0)):=by rw [J4];exact heap_alloc_new _ _
 have wI:=h.later fo;have bm:=h.lt;go_in;go_wp2_with fail;by_cases A:S.fuse=0
 .have z:=B.ot wI 0 A;have t:=(aF wI (aF fo dF));subst J4;clear h wI fo dF;refine bE z λw1 bN=>?_;subst bN;clear z;go_wp2;exact bodyPost_ret (v:= .tuple #[Pr XX,iV 3]) (by simp [results,results54,go_sem]) rfl ⟨XX,3,rfl, .inl ⟨A,rfl,rfl⟩,t.1.le (by omega),aa.ah F t.2.1⟩
 .have dh:=h.ok;have z:=Ou wI 0 (by have:=dh.lo;omega) aT A;have Y:=br dh 0 (by have:=dh.lo;omega);have wZ:=cZ.now 0;have t:=(aF fo dF);have gv:w0.heap.size=w.heap.size+1:=by rw [J4,World.size_alloc]
  have X:=gv;rw [J4] at t X z;clear h wI fo dF J4 gv w0;refine z.mono ?_;rintro e w1 ⟨g,J,rfl,hg,aY,iB,eH⟩;clear z;have Wk:=(eH.block w.heap.size (by rw [X];omega) (λo=>by have:=bm _ o;omega)).trans t.2;have Pi:=aY.le;have D4:=aY.max;have kP:∀i,i<512->w1.cell? ⟨g,0+i,none⟩=some (.int .u8 ((S.now 0).getD i 0)):=λi hi=>by
   have:=aY.byte (i:=i) (by omega);rwa [aK] at this
  have RK:512<=J:=by rw [<-Y];simpa [bs] using Pi
  have aep:J<=9223372036854775807:=by unfold maxLen at D4;omega
  have eF:=(aa.ah F t.1).trans eH (λ_ h=> .inl h);have bN:=eH.size;rw [X] at bN;by_cases r:oI (S.now 0)
  .have C:=Ht g 0 J (S.now 0) w1 Y RK aep wZ kP r;have n:=r.geo;have m:=(aF iB (aF eF (aF Wk r)));clear aY iB eH kP Wk eF Pi D4 r;go_wp2_with fail;refine bE C λl aW=>?_;clear C;have ec:=aW.size;obtain⟨b,eB⟩:∃b,b=l.alloc (.cells #[.int .i64 ((u32 (S.now 0) 8:Nat):Int), .int .i64 ((u32 (S.now 0) 12:Nat):Int), .int .i64 ((u32 (S.now 0) 16:Nat):Int)] 39):=⟨_,rfl⟩;have Ov:b.heap[l.heap.size]? =some (.cells #[.int .i64 ((u32 (S.now 0) 8:Nat):Int), .int .i64 ((u32 (S.now 0) 12:Nat):Int), .int .i64 ((u32 (S.now 0) 16:Nat):Int)] 39 (0,0)):=(by rw [eB];exact heap_alloc_new _ _);have bz:bW w1 b:=(by rw [eB];exact aW.alloc ec _);have kO:b.heap.size=l.heap.size+1:=(by rw [eB,World.size_alloc]);go_wp2_with fail;rw [<-eB];clear eB aW;have f:=m.1.later bz;have sM:=(bz.block w.heap.size (by omega)).trans m.2.2.1;have Sz:=m.2.1.trans (aa.ah (λ_=>False) bz) (λ_ h=>h.elim);have c0:=aL Ov;have nJ:=λk=>B.pH (f.later (below_drewN (bi _ _) k));have a:=(aF f (aF Sz (aF sM Ov)));clear f Sz sM Ov bz;by_cases o7:u32 (S.now 0) 8=s
   .have Wl:(((u32 (S.now 0) 8:Nat):Int) == ((s:Nat):Int))=true:=(by rw [o7];simp);go_quiet (first|(go_at_call 47;refine Calls.quiet_of_same (nJ _)));have d:∀k,bW b (b.drewN k):=λk=>below_drewN (bi _ _) k;have eV:=(λk=>aF (a.1.later (d k)) (aF (a.2.1.trans (aa.ah (λ_=>False) (d k)) (λ_ h=>h.elim)) (aF (((d k).block w.heap.size (by omega)).trans a.2.2.1) (((d k).block l.heap.size (by omega)).trans a.2.2.2))));clear a c0 nJ d;rename_i nq _;have a:=(eV nq);have Hv:(b.drewN nq).heap.size=b.heap.size:=rfl;clear eV;generalize b.drewN nq=W at*;obtain⟨P,Q,R,T,U,K,L,M,N,O,s0,s1⟩:=BU (aL a.2.2.1) (bD a.2.2.1) (bH a.2.2.1) (fI a.2.2.1) (gz a.2.2.1) (ae a.2.2.1 0) (ae a.2.2.1 1) (ae a.2.2.1 2) (ae a.2.2.1 3) (ae a.2.2.1 4) (aL a.2.2.2) (bD a.2.2.2);have s2:=bH a.2.2.2;have pf:=qS (s:Int) ((u32 (S.now 0) 12:Nat):Int) ((u32 (S.now 0) 16:Nat):Int) W (by have:=n;rw [o7] at this;exact this.1.1) (by have:=n;rw [o7] at this;exact this.1.2) (by have:=n;rw [o7] at this;exact this.2.1.1) (by have:=n;rw [o7] at this;exact this.2.1.2) (by have:=n;rw [o7] at this;exact this.2.2.1) (by have:=n;rw [o7] at this;exact this.2.2.2.1) (by have:=n;rw [o7] at this;exact this.2.2.2.2);go_wp2_with fail;refine bE pf λW3 q=>?_;clear pf P Q R T U K L M N O s0 s1 s2;have Ao:=(q.block w.heap.size (by omega)).trans a.2.2.1;have HX:=(aF (a.1.later q) (a.2.1.trans (aa.ah (λ_=>False) q) (λ_ h=>h.elim)));obtain⟨P,Q,R,T,U,K,L,M,N,O⟩:=vH (aL Ao) (bD Ao) (bH Ao) (fI Ao) (gz Ao) (ae Ao 0) (ae Ao 1) (ae Ao 2) (ae Ao 3) (ae Ao 4);have Z:Ending.returned (.tuple #[.agg #[(iV ((u32 (S.now 0) 12:Nat):Int)),(iV (3+((u32 (S.now 0) 12:Nat):Int))),(iV ((s:Int)-(3+((u32 (S.now 0) 12:Nat):Int)))),(iV ((u32 (S.now 0) 16:Nat):Int)),(iV (2+((u32 (S.now 0) 16:Nat):Int) / 4))],iV 0])=Ending.returned (.tuple #[Pr (cz (S.now 0)),iV 0]):=by
     have h3:=n.2.2.2.1;rw [o7] at h3;exact Sx (S.now 0) o7 h3
    go_wp2;obtain⟨BI,pZ⟩:=Sy Ao (iV ((u32 (S.now 0) 12:Nat):Int)) (iV (3+((u32 (S.now 0) 12:Nat):Int))) (iV ((s:Int)-(3+((u32 (S.now 0) 12:Nat):Int)))) (iV ((u32 (S.now 0) 16:Nat):Int)) (iV (2+((u32 (S.now 0) 16:Nat):Int) / 4));generalize ((((W3.setCell ⟨w.heap.size,0,none⟩ (.int .i64 ((u32 (S.now 0) 12:Nat):Int))).setCell ⟨w.heap.size,1,none⟩ (.int .i64 (3+((u32 (S.now 0) 12:Nat):Int)))).setCell ⟨w.heap.size,2,none⟩ (.int .i64 ((s:Int)-(3+((u32 (S.now 0) 12:Nat):Int))))).setCell ⟨w.heap.size,3,none⟩ (.int .i64 ((u32 (S.now 0) 16:Nat):Int))).setCell ⟨w.heap.size,4,none⟩ (.int .i64 (2+((u32 (S.now 0) 16:Nat):Int) / 4))=WW at*;obtain⟨D,E,G,H,I⟩:=ey (aj BI (j:=0) (u:=(iV ((u32 (S.now 0) 12:Nat):Int))) rfl) (aj BI (j:=1) (u:=(iV (3+((u32 (S.now 0) 12:Nat):Int)))) rfl) (aj BI (j:=2) (u:=(iV ((s:Int)-(3+((u32 (S.now 0) 12:Nat):Int))))) rfl) (aj BI (j:=3) (u:=(iV ((u32 (S.now 0) 16:Nat):Int))) rfl) (aj BI (j:=4) (u:=(iV (2+((u32 (S.now 0) 16:Nat):Int) / 4))) rfl);exact bodyPost_ret (v:= .tuple #[.agg #[(iV ((u32 (S.now 0) 12:Nat):Int)),(iV (3+((u32 (S.now 0) 12:Nat):Int))),(iV ((s:Int)-(3+((u32 (S.now 0) 12:Nat):Int)))),(iV ((u32 (S.now 0) 16:Nat):Int)),(iV (2+((u32 (S.now 0) 16:Nat):Int) / 4))],iV 0]) (by simp [results,results54,go_sem,D,E,G,H,I]) rfl ⟨cz (S.now 0),0,Z, .inr (.inl ⟨A,⟨m.2.2.2,o7⟩,rfl,rfl⟩),HX.1.au pZ (λk o e=>by subst e;have:=bm _ o;omega),HX.2.trans pZ (λk e=> .inr (by omega))⟩
   .have Wl:(((u32 (S.now 0) 8:Nat):Int) == ((s:Nat):Int))=false:=(by rw [eG];omega);go_quiet (first|(go_at_call 47;refine Calls.quiet_of_same (nJ _)));have d:∀k,bW b (b.drewN k):=λk=>below_drewN (bi _ _) k;have eV:=(λk=>aF (a.1.later (d k)) (aF (a.2.1.trans (aa.ah (λ_=>False) (d k)) (λ_ h=>h.elim)) (aF (((d k).block w.heap.size (by omega)).trans a.2.2.1) (((d k).block l.heap.size (by omega)).trans a.2.2.2))));clear a c0 nJ d;rename_i nq _;have a:=(eV nq);have Hv:(b.drewN nq).heap.size=b.heap.size:=rfl;clear eV;generalize b.drewN nq=W at*;obtain⟨P,Q,R,T,U,K,L,M,N,O⟩:=vH (aL a.2.2.1) (bD a.2.2.1) (bH a.2.2.1) (fI a.2.2.1) (gz a.2.2.1) (ae a.2.2.1 0) (ae a.2.2.1 1) (ae a.2.2.1 2) (ae a.2.2.1 3) (ae a.2.2.1 4);have aqR:(((u32 (S.now 0) 8:Nat):Int) != ((s:Nat):Int))=true:=(by simp [bne,Wl]);go_wp2;obtain⟨BI,pZ⟩:=Sy a.2.2.1 (iV 0) (iV 0) (iV 0) (iV 0) (iV 0);generalize ((((W.setCell ⟨w.heap.size,0,none⟩ (.int .i64 0)).setCell ⟨w.heap.size,1,none⟩ (.int .i64 0)).setCell ⟨w.heap.size,2,none⟩ (.int .i64 0)).setCell ⟨w.heap.size,3,none⟩ (.int .i64 0)).setCell ⟨w.heap.size,4,none⟩ (.int .i64 0)=WW at*;obtain⟨D,E,G,H,I⟩:=ey (aj BI (j:=0) (u:=(iV 0)) rfl) (aj BI (j:=1) (u:=(iV 0)) rfl) (aj BI (j:=2) (u:=(iV 0)) rfl) (aj BI (j:=3) (u:=(iV 0)) rfl) (aj BI (j:=4) (u:=(iV 0)) rfl);exact bodyPost_ret (v:= .tuple #[.agg #[(iV 0),iV 0,iV 0,iV 0,(iV 0)],iV 6]) (by simp [results,results54,go_sem,D,E,G,H,I]) rfl ⟨XX,6,rfl, .inr (.inr ⟨A,λh=>o7 h.2,rfl,rfl⟩),a.1.au pZ (λk o e=>by subst e;have:=bm _ o;omega),a.2.1.trans pZ (λk e=> .inr (by omega))⟩
  .have C:=Hu g 0 J (S.now 0) w1 Y RK aep wZ kP r;have m:=(aF iB (aF eF (aF Wk r)));clear aY iB eH kP Wk eF Pi D4 r;go_wp2_with fail;refine bE C λl aW=>?_;clear C;have ec:=aW.size;obtain⟨b,eB⟩:=bQ (l.alloc (.cells #[.int .i64 0, .int .i64 0, .int .i64 0] 39));have Ov:b.heap[l.heap.size]? =some (.cells #[.int .i64 0, .int .i64 0, .int .i64 0] 39 (0,0)):=(by rw [eB];exact heap_alloc_new _ _);have bz:bW w1 b:=(by rw [eB];exact aW.alloc ec _);have kO:b.heap.size=l.heap.size+1:=(by rw [eB,World.size_alloc]);go_wp2_with fail;rw [<-eB];clear eB aW;have f:=m.1.later bz;have sM:=(bz.block w.heap.size (by omega)).trans m.2.2.1;have Sz:=m.2.1.trans (aa.ah (λ_=>False) bz) (λ_ h=>h.elim);have a:=(aF f (aF Sz (aF sM Ov)));clear f Sz sM Ov bz;go_quiet (fail);have d:∀k,bW b (b.drewN k):=λk=>below_drewN (bi _ _) k;have eV:=(λk=>aF (a.1.later (d k)) (aF (a.2.1.trans (aa.ah (λ_=>False) (d k)) (λ_ h=>h.elim)) (aF (((d k).block w.heap.size (by omega)).trans a.2.2.1) (((d k).block l.heap.size (by omega)).trans a.2.2.2))));clear a d;rename_i nq _;have a:=(eV nq);have Hv:(b.drewN nq).heap.size=b.heap.size:=rfl;clear eV;generalize b.drewN nq=W at*;obtain⟨P,Q,R,T,U,K,L,M,N,O⟩:=vH (aL a.2.2.1) (bD a.2.2.1) (bH a.2.2.1) (fI a.2.2.1) (gz a.2.2.1) (ae a.2.2.1 0) (ae a.2.2.1 1) (ae a.2.2.1 2) (ae a.2.2.1 3) (ae a.2.2.1 4);go_wp2;obtain⟨BI,pZ⟩:=Sy a.2.2.1 (iV 0) (iV 0) (iV 0) (iV 0) (iV 0);generalize ((((W.setCell ⟨w.heap.size,0,none⟩ (.int .i64 0)).setCell ⟨w.heap.size,1,none⟩ (.int .i64 0)).setCell ⟨w.heap.size,2,none⟩ (.int .i64 0)).setCell ⟨w.heap.size,3,none⟩ (.int .i64 0)).setCell ⟨w.heap.size,4,none⟩ (.int .i64 0)=WW at*;obtain⟨D,E,G,H,I⟩:=ey (aj BI (j:=0) (u:=(iV 0)) rfl) (aj BI (j:=1) (u:=(iV 0)) rfl) (aj BI (j:=2) (u:=(iV 0)) rfl) (aj BI (j:=3) (u:=(iV 0)) rfl) (aj BI (j:=4) (u:=(iV 0)) rfl);exact bodyPost_ret (v:= .tuple #[.agg #[(iV 0),iV 0,iV 0,iV 0,(iV 0)],iV 6]) (by simp [results,results54,go_sem,D,E,G,H,I]) rfl ⟨XX,6,rfl, .inr (.inr ⟨A,λh=>m.2.2.2 h.1,rfl,rfl⟩),a.1.au pZ (λk o e=>by subst e;have:=bm _ o;omega),a.2.1.trans pZ (λk e=> .inr (by omega))⟩
end
def rdNums (blocks:Nat):Nat->Nat->List Int->Option (List Nat×List Int)
 |0,_,l=>some ([],l)
 |n+1,lo,l=>if l.length<4 then none else if lo<=le (l.take 4)/\le (l.take 4)<blocks then (rdNums blocks n (le (l.take 4)+1) (l.drop 4)).map (λx=>(le (l.take 4) :: x.1,x.2)) else none
def rdCons:List Nat->List Int->Option (CM×List Int)
 | [],l=>some ([],l)
 |k :: ks,l=>if l.length<512 then none else (rdCons ks (l.drop 512)).map (λx=>((k,l.take 512) :: x.1,x.2))
def rdTail:Option (CM×List Int)->Option CM
 |some (cs, [])=>some cs
 |_=>none
def rdRec (blocks:Nat) (d:List Int):Option CM:=
 if d.length<2 then none else if 1<=le (d.take 2)/\le (d.take 2)<=16 then
  match rdNums blocks (le (d.take 2)) 0 (d.drop 2) with
  |none=>none
  |some (ks,r)=>rdTail (rdCons ks r)
 else none
theorem lU {blocks:Nat}:∀{n c:Nat} {l r:List Int} {ks:List Nat},rdNums blocks n c l=some (ks,r)->ks.length=n/\∀k∈ks,k<blocks
 |0,c,l,r,ks,h=>by
  simp only [rdNums,Option.some.injEq,Prod.mk.injEq] at h;obtain⟨rfl,_⟩:=h;simp
 |n+1,c,l,r,ks,h=>by
  unfold rdNums at h;split at h
  .cases h
  .split at h
   .rename_i f;cases b:rdNums blocks n (le (l.take 4)+1) (l.drop 4) with
    |none=>rw [b] at h;cases h
    |some x=>
     rw [b] at h;simp only [Option.map_some,Option.some.injEq,Prod.mk.injEq] at h;obtain⟨rfl,rfl⟩:=h;obtain⟨d,e⟩:=lU (ks:=x.1) (r:=x.2) b;refine⟨by simp [d],λk a=>?_⟩;rcases List.mem_cons.1 a with rfl|a
     .exact f.2
     .exact e k a
   .cases h
def nN (w:World) (g iN:Nat) (ks:List Nat):Prop:=∃xs:List Value,w.heap[g]? =some (.cells xs.toArray 3 (0,0))/\xs.length=iN/\xs.take ks.length=yr ks/\ks.length<=iN
theorem nN.agree (h:nN w g iN ks) (c:w'.heap[g]? =w.heap[g]?):nN w' g iN ks:=by
 obtain⟨xs,a,b⟩:=h;exact⟨xs,c.trans a,b⟩
theorem nN.lt (h:nN w g iN ks):g<w.heap.size:=by
 obtain⟨xs,a,_⟩:=h;exact aw a
theorem nN.there (h:nN w g iN ks) (c:j<iN):(∃u,w.cell? (aD g j)=some u)/\w.frozen? (aD g j)=false:=by
 obtain⟨xs,a,b,_⟩:=h;exact⟨⟨xs[j]'(by omega),aj a (by simp [b,c])⟩,ae a j⟩
theorem nN.cell (h:nN w g iN ks) (b:j<ks.length):w.cell? (aD g j)=some (iV (ks[j]:Int)):=by
 obtain⟨xs,c,e,d,f⟩:=h;refine aj c ?_;have a:(xs.take ks.length)[j]? =some (iV (ks[j]:Int)):=by rw [d];simp [yr,List.getElem?_eq_getElem b]
 rw [List.getElem?_take,aE b] at a;simpa using a
theorem nN.put (h:nN w g iN ks) (i:ks.length<iN) (b:Nat):nN (w.setCell ⟨g,ks.length,none⟩ (.int .i64 (b:Int))) g iN (ks ++ [b]):=by
 obtain⟨xs,a,c,d,f⟩:=h;refine⟨xs.set ks.length (iV (b:Int)),?_,by rw [List.length_set];exact c,?_,by simp;omega⟩
 .rw [heap_setCell_same _ _ _ _ _ _ a];simp
 .rw [dT,List.length_singleton,yr,List.map_append];have e:xs.set ks.length (iV (b:Int))=xs.take ks.length ++ iV (b:Int) :: xs.drop (ks.length+1):=by
   rw [List.set_eq_take_append_cons_drop,aE (by omega)]
  rw [e,d];have:(yr ks).length=ks.length:=by simp [yr]
  rw [List.take_append,this,nh (by omega)];simp
theorem nN.made {base:Nat} (h:w.ownsRow base 3 1 (.slice (some (aD g 0)) iN iN) iN (madeCells #[Value.int .i64 0] iN).toList):nN w g iN []:=by
 obtain⟨f,c,e,_,d,i⟩:=ay.eW h (by simp);cases e;obtain⟨cur,a,b,_⟩:=d;exact⟨cur.toList,by simpa using a,by simpa using b,rfl,dU _⟩
theorem Ph.mono {d:Nat->Prop} {b:Nat} {G:Nat->Prop} (h:Ph d w b l) (f:aa G w w') (CA:¬G b) (k:∀x,d x->¬G x):Ph d w' b l:=by
 obtain⟨a,n,c,h0,o,g,i,j,e⟩:=h;exact⟨a,n,c,(f.block b (aw h0) CA).trans h0,o.nB f (λy p m=>k _ (e y p m).2),g,i,j,e⟩
theorem SA {S:Nat} (h:i<S) (a:i<k):S-k<S-i:=by omega
theorem kJ (blocks n a:Nat) (l:List Int):rdNums blocks (n+1) a l=if l.length<4 then none else if a<=le (l.take 4)/\le (l.take 4)<blocks then (rdNums blocks n (le (l.take 4)+1) (l.drop 4)).map (λx=>(le (l.take 4) :: x.1,x.2)) else none:=rfl
theorem nN.putAt (h:nN w g iN ks) (a:ks.length=i) (c:i<iN) (b:Nat):nN (w.setCell ⟨g,i,none⟩ (.int .i64 (b:Int))) g iN (ks ++ [b]):=by
 subst a;exact h.put c b
theorem iw (k:Nat) (ks:List Nat) (l:List Int):rdCons (k :: ks) l=if l.length<512 then none else (rdCons ks (l.drop 512)).map (λx=>((k,l.take 512) :: x.1,x.2)):=rfl
theorem Ow (ms cs:CM) (k:Nat) (c:List Int):CM.bX ms (cs ++ [(k,c)])=CM.put (CM.bX ms cs) k c:=by
 unfold CM.bX;rw [List.foldl_append];rfl
theorem Ox {m:Nat} (h:Ch w m ms) (a:Option Addr) (n c:Nat) (d:List Int) (hs:Src w a n d) (hd:Bytes d) (hn:n<=1000000) (XA:n<=c) (mY:c<=9223372036854775807) (ham:∀x,a=some x->0<n->x.block≠m) (blocks:Nat) (kv:blocks<=2048):
  Calls prog 110 #[.map (some m), .slice a n c,iV (blocks:Int)] w λe w'=>aa (λk=>k=m) w w'/\((∃cs,rdRec blocks d=some cs/\e= .returned (.tuple #[])/\Ch w' m (CM.bX ms cs))\/(rdRec blocks d=none/\e= .panicked CF)):=by
 have AY:=h.lt;obtain⟨Q,I⟩:∃Q:Nat->Prop,Q=λx=>x≠m/\x<w.heap.size:=⟨_,rfl⟩;obtain⟨w0,J4⟩:=bQ (w.alloc (.cells #[.slice a n c] 192));have fo:bW w w0:=by rw [J4];exact aI _ _
 have gv:w0.heap.size=w.heap.size+1:=by rw [J4,World.size_alloc]
 have Pa:Ph Q w0 w.heap.size d:=by
  refine⟨a,n,c,?_,hs.later fo,XA,mY,hn,λx L hp=>?_⟩
  .rw [J4];exact heap_alloc_new _ _
  .have y:=hs.old x L hp;rw [I];exact⟨by omega,ham x L hp,y⟩
 have sX:=hs.1;obtain⟨R,g⟩:=bQ (rdRec blocks d);rw [<-g];obtain⟨HM,T⟩:=bL (aF h AY) I;clear I;clear hs ham h XA mY;by_cases k1:d.length<2
 .have y:=zE Pa 2 k1 (by omega);obtain⟨E,HB⟩:=bL (by rw [g];unfold rdRec;rw [aE k1]:R=none) fo;subst J4;clear Pa fo g k1;go_in;go_wp2_with fail;refine bE y λw1 r=>?_;have ez:=r.symm;subst ez;exact⟨rfl,aa.ah _ HB.o, .inr ⟨E.o,rfl⟩⟩
 .have y:=zG Pa hd 2 (by omega) (by omega) (by omega);unfold rdRec at g;rw [aA k1] at g;obtain⟨iN,NZ⟩:=bQ (le (d.take 2));have aeq:iN<65536:=by
   rw [NZ];have:=lg (hd.take 2);have e:(d.take 2).length=2:=(by simp;omega);rw [e] at this;exact this
  rw [<-NZ] at y g;have HB:=yh fo;subst J4;clear Pa fo k1 NZ;by_cases k2:1<=iN/\iN<=16
  .rw [aE k2] at g;have E:=yh g;clear g;have k21:(1:Int)<=(iN:Int):=(by omega);have k22:(iN:Int)<=16:=(by omega);go_in;go_wp2_with fail;refine fk y λw1 lG eH=>?_;have aq:=HB.o.trans (eH.below (λk e=>by omega) (by omega));have dr:=eH.size;rw [gv] at dr;have hm:=xH w1;obtain⟨i0,hi,aer,aes,aet⟩:=info_parts Dh;clear y eH;go_wp2_with (first|(go_at_call 157;refine hm.mono ?_;rintro e wy ⟨rfl,rH⟩;have mP:=rH.symm;subst mP;clear rH)|(at_make;refine wpList_make_full _ rfl _ _ 23 rfl w1.heap.size 3 i0 (iV 0) 1 underlying23 hi aer aes _ _ _ _ iN rfl rfl ?c1 ?c2 ?c3 ?c4 ?c5 ?_));case c1=>rfl
   case c2=>rfl
   case c3=>rw [aet];omega
   case c4=>unfold maxLen;omega
   case c5=>exact bP _
   intro w2 az aO;have aY:=nN.made az;have aW:=(bi _ w1).grown aO (bP _) (by intro k hk;cases hk);have fb:=lG.mono (G:=λ_=>False) (aa.ah _ aW) (λh=>h) (λ_ _ h=>h);have dE:=yh (aF (aq.trans (aW.mono (by omega))) (aF aY fb));clear az aO aY aW fb lG aq hi aer aes aet;go_wp2;go_loopw [9,28] (λav M wr=>∃(i lo:Nat) (A:Int) (ks:List Nat) (l:List Int),M=iV i/\av=iV A/\A=(lo:Int)-1/\lo<=2048/\i<=iN/\ks.length=i/\Ph Q wr w.heap.size l/\Bytes l/\nN wr w1.heap.size iN ks/\bW w wr/\rdNums blocks iN 0 (d.drop 2)=(rdNums blocks (iN-i) lo l).map (λx=>(ks ++ x.1,x.2))) (λ_ M _=>iN-(intOf M).toNat);case atStart=>exact⟨0,0,-1, [],d.drop 2,rfl,rfl,by omega,by omega,by omega,rfl,dE.o.2.2,hd.drop 2,dE.o.2.1,dE.o.1,by simp⟩
   case round=>
    obtain⟨i,lo,A,ks,l,rfl,rfl,z,ox,hi,mb,K,SB,aY,H,dP⟩:=hrel;have HA:=yh z;by_cases bm:i<iN
    .have cw:(i:Int)<(iN:Int):=(by omega);obtain⟨j,hj⟩:∃j,iN-i=j+1:=⟨iN-i-1,by omega⟩;rw [hj] at dP;by_cases k4:l.length<4
     .have P:=zE K 4 k4 (by omega);obtain⟨f,u⟩:=bL (by rw [E.o,dP,kJ,aE k4];rfl:R=none) H;clear K aY H dP z;go_wp2_with fail;refine bE P λs r=>?_;have ez:=r.symm;subst ez;exact⟨rfl,aa.ah _ u.o, .inr ⟨f.o,rfl⟩⟩
     .have P:=zG K SB 4 (by omega) (by omega) (by omega);rw [kJ,aA k4] at dP;have J:=aY.lt;generalize le (l.take 4)=b at*;by_cases kb:lo<=b/\b<blocks
      .rw [aE kb] at dP;have N:A<(b:Int):=(by omega);have XY:rdNums blocks iN 0 (d.drop 2)=(rdNums blocks (iN-(i+1)) (b+1) (l.drop 4)).map (λx=>((ks ++ [b]) ++ x.1,x.2)):=by
        rw [dP,Option.map_map,show iN-(i+1)=j by omega];congr 1
        funext x
        simp
       have f:=yh (aF XY (aF H (aF aY (SB.drop 4))));clear K aY H dP XY z;go_wp2_with fail;refine fk P λs sV aV=>?_;have ml:=f.o.2.2.1.agree (aV.block _ J (by omega));obtain⟨⟨u0,q0⟩,q1⟩:=ml.there (j:=i) bm;have bz:=f.o.2.1.trans (aV.below (λk e=>by omega) f.o.2.1.size);have GJ:=ml.putAt mb bm b;have eF:=aa.setCell (F:=λk=>k=w1.heap.size) s (p:=(aD w1.heap.size i)) rfl (iV (b:Int));have ub:=sV.mono eF (by omega) (λx L e=>by rw [T.o] at L;omega);have fe:=bz.trans (eF.below (λk e=>by omega) bz.size);have HP:=yh (aF GJ (aF ub fe));clear P sV aV ml bz GJ eF ub fe;go_wp2_with fail;refine(xH s).mono ?_;rintro e wy ⟨rfl,rH⟩;have mP:=rH.symm;subst mP;have X:=yh (aF mb (aF kb kv));clear rH hj mb kb N k4 sX hd hn kv aeq k2 AY;go_wp2;go_roundw;case rel=>exact⟨i+1,b+1,_,ks ++ [b],l.drop 4,by go_num,rfl,by omega,by have:=X.o.2;omega,by omega,by rw [dT,X.o.1];rfl,HP.o.2.1,f.o.2.2.2,HP.o.1,HP.o.2.2,f.o.1⟩
       case measure=>exact SA (S:=iN) (i:=i) (k:=i+1) bm (by omega)
      .rw [aA kb] at dP;obtain⟨f,u⟩:=bL (by rw [E.o,dP];rfl:R=none) H;have O:(¬A<(b:Int))\/(A<(b:Int)/\decide (b<blocks)=false):=by
        rw [decide_eq_false_iff_not];omega
       clear K aY H dP z;rcases O with N|⟨N,kb2⟩;all_goals
        go_wp2_with fail;refine fk P λs sV aV=>?_;have bz:=u.o.trans (aV.below (λk e=>by omega) u.o.size);clear P sV aV;go_wp2_with fail;refine(xI s).mono ?_;rintro e w4 ⟨rfl,r⟩;have ez:=r.symm;subst ez;exact⟨rfl,aa.ah _ bz, .inr ⟨f.o,rfl⟩⟩
    .have cw:¬(i:Int)<(iN:Int):=(by omega);obtain rfl:i=iN:=(by omega);rw [Nat.sub_self] at dP;simp only [rdNums,Option.map_some,List.append_nil] at dP;have oZ:=(lU dP).2;have Z:R=rdTail (rdCons ks l):=(by rw [E.o,dP]);have J:=aY.lt;subst mb;obtain⟨tU,v⟩:=bL Z (aF K (aF SB (aF aY (aF H oZ))));clear K SB aY H oZ dP Z HA z E;obtain⟨W,hW⟩:=bQ wr;subst hW;go_wp2;go_loopw [49] (λM wx=>∃(i:Nat) (q:List Int) (cs:CM),M=iV i/\i<=ks.length/\Ph Q wx w.heap.size q/\Bytes q/\nN wx w1.heap.size ks.length ks/\Ch wx m (CM.bX ms cs)/\aa (λk=>k=m) w wx/\rdCons ks l=(rdCons (ks.drop i) q).map (λx=>(cs ++ x.1,x.2))) (λM _=>ks.length-(intOf M).toNat);case atStart=>exact⟨0,l, [],rfl,dU _,v.o.1,v.o.2.1,v.o.2.2.1,HM.o.1.later (v.o.2.2.2.1.mono (bP _)),aa.ah _ v.o.2.2.2.1,by simp⟩
     case round=>
      obtain⟨i,q,cs,rfl,Dm,fb,aeu,lL,nc,fP,mC⟩:=hrel;have Bc:=yh (aF fb (aF aeu (aF lL (aF nc (aF fP mC)))));clear fb aeu lL nc fP mC;by_cases oS:i<ks.length
      .have aev:(i:Int)<(ks.length:Int):=(by omega);have oZ:=v.o.2.2.2.2 _ (List.getElem_mem oS);have c0:=Bc.o.2.2.1.cell oS;have mC:=Bc.o.2.2.2.2.2;rw [List.drop_eq_getElem_cons oS,iw] at mC;generalize ks[i]=k at*;by_cases k5:q.length<512
       .have Y:=GA Bc.o.1 512 k5 (by omega);obtain⟨f,U⟩:=bL (by rw [tU.o,mC,aE k5];rfl:R=none) Bc.o.2.2.2.2.1;clear mC Bc v;go_wp2_with fail;refine bE Y λs r=>?_;have ez:=r.symm;subst ez;exact⟨rfl,U.o, .inr ⟨f.o,rfl⟩⟩
       .have Y:=Gz Bc.o.1 512 (by omega) (by omega);rw [aA k5,Option.map_map] at mC;have SC:rdCons ks l=(rdCons (ks.drop (i+1)) (q.drop 512)).map (λx=>((cs ++ [(k,q.take 512)]) ++ x.1,x.2)):=by
         rw [mC];congr 1
         funext x
         simp
        have D:(q.take 512).length=512:=(by rw [List.length_take];omega);have YD:=Bc.o.2.1.take 512;have HC:=yh (aF SC (Bc.o.2.1.drop 512));have aU:=eJ D;obtain⟨C,hC⟩:=bQ (q.take 512);rw [<-hC] at D YD aU HC Y;obtain⟨A,z⟩:=bQ (bs C);rw [<-z] at aU;have HA:=yh z;clear mC SC z hC v;go_wp2_with fail;refine Y.mono ?_;rintro e s ⟨b,o,c',rfl,fJ,dO,sV,aV⟩;have hmr:¬m=w.heap.size:=(by omega);obtain⟨wU,bC,aew,zR,NV⟩:=(Bc.o.2.2.2.1.au aV hmr).store k (by omega) C D YD;have A6:s.rangeAt b o A:=(by rw [HA.o];exact lF fJ);have RH:(Instr.mapUpdate 93 (.map (some m)) (iV (k:Int)) (.agg A.toArray)).run prog s= .ok () wU:=(by rw [HA.o];exact bC);have hrU:=sV.mono zR (by omega) (λx L e=>by rw [T.o] at L;exact L.1 e);have aah:=Bc.o.2.2.1.lt;have XZ:=(Bc.o.2.2.1.agree (aV.block _ aah (by omega))).agree (zR.block _ (iP aah aV.size) (by omega));have aex:=(Bc.o.2.2.2.2.1.trans aV (λj e=> .inr (by omega))).trans zR (λ_ h=> .inl h);have HU:=yh (aF hrU (aF XZ (aF aew aex)));clear Y fJ dO sV aV bC aew zR NV hrU XZ aex Bc oZ J aah k5 D YD hmr sX hd hn kv aeq k2;have hac:=zH;go_wp2_with (refine wpList_load_mid rfl 101 _ rfl b o rfl A _ A6 underlying101 rfl aU ?_);go_roundw;case rel=>exact⟨i+1,q.drop 512,cs ++ [(k,C)],by go_num,by omega,HU.o.1,HC.o.2,HU.o.2.1,by rw [Ow];exact HU.o.2.2.1,HU.o.2.2.2,HC.o.1⟩
        case measure=>exact SA (S:=ks.length) (i:=i) (k:=i+1) oS (by omega)
      .have aev:¬(i:Int)<(ks.length:Int):=(by omega);have mC:=Bc.o.2.2.2.2.2;rw [List.drop_eq_nil_of_le (by omega)] at mC;simp only [rdCons,Option.map_some,List.append_nil] at mC;obtain⟨a',n',c',h0,hs',_⟩:=Bc.o.1;obtain⟨MS,q0,U,YW⟩:=cM hs'.1 (aL h0) (yh (aF Bc.o.2.2.2.2.1 Bc.o.2.2.2.1)) tU.o;rw [mC] at YW;clear hs' h0 Bc v mC tU;by_cases k6:n'=0
       .have d6:(((n':Nat):Int) == 0)=true:=(by rw [k6];rfl);obtain rfl:q= []:=List.eq_nil_of_length_eq_zero (by omega);have f:=yh (show R=some cs from YW);have AZ:=xH wr;clear YW k6 MS;go_wp2_with (go_at_call 157;refine AZ.mono ?_;rintro e wy ⟨rfl,rH⟩;have mP:=rH.symm;subst mP;clear rH)
        go_end0
        exact⟨U.o.1, .inl ⟨cs,f.o,rfl,U.o.2⟩⟩
       .have d6:(((n':Nat):Int) == 0)=false:=by
         rw [eG];omega
        have f:Yh (R=none):=by
         cases q with
         |nil=>simp at MS;omega
         |cons x t=>exact YW
        clear YW k6 MS;go_wp2_with fail;refine(xI wr).mono ?_;rintro e s ⟨rfl,r⟩;have ez:=r.symm;subst ez;exact⟨rfl,U.o.1, .inr ⟨f.o,rfl⟩⟩
  .rw [aA k2] at g;have E:=yh g;clear g;have O:(¬(1:Int)<=(iN:Int))\/((1:Int)<=(iN:Int)/\decide ((iN:Int)<=16)=false):=by
    rw [decide_eq_false_iff_not];omega
   rcases O with k21|⟨k21,k22⟩;all_goals
    go_in;go_wp2_with fail;refine fk y λw1 lG eH=>?_;have aq:=HB.o.trans (eH.below (λk e=>by omega) (by omega));clear y eH lG;go_wp2_with fail;refine(xI w1).mono ?_;rintro e w2 ⟨rfl,r⟩;have ez:=r.symm;subst ez;exact⟨rfl,aa.ah _ aq, .inr ⟨E.o,rfl⟩⟩
section
def rdAll (blocks:Nat):CM->List (List Int)->Option CM
 |ms, []=>some ms
 |ms,r :: rs=>match rdRec blocks r with
  |none=>none
  |some cs=>rdAll blocks (CM.bX ms cs) rs
def ee (S:DS) (s:Nat) (y:LY) (ov:CM) (rs:List (List Int)):Int×DS:=
 if rs= [] then (0,S) else if (sbring S s y.home ov).1≠0 then sbring S s y.home ov else (sbring S s y.home ov).2.fl s
theorem wq:∀{ks:List Nat} {l r:List Int} {cs:CM},rdCons ks l=some (cs,r)->∀x∈cs,x.1∈ks
 | [],l,r,cs,h=>by
  simp only [rdCons,Option.some.injEq,Prod.mk.injEq] at h;obtain⟨rfl,_⟩:=h;simp
 |k :: ks,l,r,cs,h=>by
  rw [iw] at h;split at h
  .cases h
  .cases a:rdCons ks (l.drop 512) with
   |none=>rw [a] at h;cases h
   |some x=>
    rw [a] at h;simp only [Option.map_some,Option.some.injEq,Prod.mk.injEq] at h;obtain⟨rfl,rfl⟩:=h;intro z b;rcases List.mem_cons.1 b with rfl|b
    .simp
    .exact List.mem_cons_of_mem _ (wq (cs:=x.1) (r:=x.2) a z b)
theorem sN {cs:CM} (h:rdRec blocks d=some cs):∀x∈cs,x.1<blocks:=by
 unfold rdRec at h;split at h
 .cases h
 .split at h
  .split at h
   .cases h
   .rename_i ks r c;cases b:rdCons ks r with
    |none=>rw [b] at h;cases h
    |some x=>
     obtain⟨g,f⟩:=x;rw [b] at h;cases f with
     |nil=>
      simp only [rdTail,Option.some.injEq] at h;subst h;intro z e;exact(lU c).2 _ (wq b z e)
     |cons a t=>cases h
  .cases h
theorem Oy {P:Nat->Prop}:∀{cs:CM},(∀x∈ms,P x.1)->(∀x∈cs,P x.1)->∀x∈CM.bX ms cs,P x.1:=by
 intro cs
 induction cs generalizing ms with
 |nil=>intro h _ x a;exact h x a
 |cons q c f=>
  intro d b;have e:CM.bX ms (q :: c)=CM.bX (CM.put ms q.1 q.2) c:=rfl;rw [e];refine f (λx a=>?_) (λx a=>b x (List.mem_cons_of_mem _ a));rcases CM.qL a with rfl|a
  .exact b q (by simp)
  .exact d x a
theorem Ch.qh {w:World} {m:Nat} (h:Ch w m ms) {cur:Array Value} {t:TypeId} {c:Nat×Nat} (b:w.heap[m]? =some (.cells cur t c)):False:=by
 obtain⟨D,h⟩:=h;obtain⟨e,a,d,_⟩:=h.own;rw [d] at b;cases b
def KN (w:World) (v:Value) (rs:List (List Int)):Prop:=
 ∃vs,w.ownsRow 0 36 1 v rs.length vs/\∀i (hi:i<rs.length),∃g c,vs[i]? =some (.slice (some (aD g 0)) (rs[i]).length c)/\ay w 5 g c (bs rs[i])
theorem KN.shape {w:World} (h:KN w v rs):∃a n c,v= .slice a n c/\n=rs.length/\∀i (e:i<rs.length),∃b g c',a=some (aD b 0)/\w.cell? (aD b i)=some (.slice (some (aD g 0)) (rs[i]).length c')/\ay w 5 g c' (bs rs[i]):=by
 obtain⟨t,j,o⟩:=h;have f:=j;obtain⟨s,⟨rfl,h0⟩|⟨g,d,cur,rfl,r,q,p⟩⟩:=j
 .exact⟨none,0,0,rfl,h0.symm,λi e=>by omega⟩
 .refine⟨_,_,d,rfl,rfl,λi e=>?_⟩;obtain⟨k,c',l,m⟩:=o i e;refine⟨g,k,c',rfl,?_,m⟩;have:=f.cells (g:=g) rfl i _ l;rwa [aK,Nat.zero_add] at this
theorem KN.au {w:World} {m:Nat} (h:KN w v rs) (f:Ch w m ms) (d:aa (λk=>k=m) w w'):KN w' v rs:=by
 obtain⟨q,j,p⟩:=h;refine⟨q,we j (λg n=>?_),λi o=>?_⟩
 .obtain⟨cur,a⟩:=bJ j n;exact d.block g (aw a) (λe=>f.qh (by rw [<-e];exact a))
 .obtain⟨g,c,l,b⟩:=p i o;refine⟨g,c,l,b.agree (d.block g b.lt (λe=>?_))⟩;obtain⟨cur,a,_⟩:=b;exact f.qh (by rw [<-e];exact a)
section
variable {w:World} {F:Nat->Prop} {p s c q l m:Nat} {S:DS} {y:LY} {busy:Bool}
theorem SD (hd:B.ax w F p s S c) (hs:mZ w q p l m y busy) (hm:Ch w m []) (hq:¬F q) (TW:¬F m) (hy:y.home+y.blocks<=s) (hv:KN w v rs) (CA:∀r∈rs,Bytes r/\r.length<=1000000) (rE:rs.length<=1000000) (aT:S.puts.length+3000<=4000000000000):
  Calls prog 56 #[pQ q,v] w λe w'=>(rdAll y.blocks [] rs=none/\e= .panicked CF/\B.ax w' F p s S c/\aa (λk=>k=m) w w')\/(∃ov,rdAll y.blocks [] rs=some ov/\e= .returned (iV (ee S s y ov rs).1)/\B.ax w' (more F w w') p s (ee S s y ov rs).2 c/\aa (λk=>k=m\/F k) w w'/\((ee S s y ov rs).1=0->Ch w' m [])):=by
 obtain⟨a,n,cp,rfl,hn,du⟩:=hv.shape;have Mb:=hd.ok.hi;have t:=yh (aF hd (aF hs (aF hm (aF hv (aF CA rE)))));obtain⟨R,N⟩:=bQ (rdAll y.blocks [] rs);rw [<-N];clear hd hs hm hv CA du;go_in;by_cases Z:n=0
 .have d0:(((n:Nat):Int) == 0)=true:=by rw [Z];rfl
  obtain rfl:rs= []:=List.eq_nil_of_length_eq_zero (by omega);have D:=yh (show R=some [] from N);clear N Z hn;go_wp2;go_ret;refine .inr ⟨[],D.o,rfl,?_,aa.refl _ _,λ_=>t.o.2.2.1⟩;exact t.o.1.more
 .have d0:(((n:Nat):Int) == 0)=false:=by
   rw [eG];omega
  have D:=yh (aF N (aF hn Z));have NR:n<=1000000:=by omega
  clear N Z hn rE;go_wp2;go_loopw [14] (λiv wr=>∃(i:Nat) (ms:CM),iv=iV i/\i<=n/\Ch wr m ms/\(∀x∈ms,x.1<y.blocks)/\aa (λk=>k=m) w wr/\R=rdAll y.blocks ms (rs.drop i)) (λiv _=>n-(intOf iv).toNat);case atStart=>exact⟨0, [],rfl,dU _,t.o.2.2.1,(λx W=>by cases W),aa.refl _ _,D.o.1⟩
  case round=>
   obtain⟨i,ms,rfl,hi,nc,Mu,fP,j⟩:=hrel;have Kk:q≠m:=λe=>t.o.2.2.1.qh (by rw [<-e];exact t.o.2.1);have bt:=t.o.2.1.au fP (λe=>Kk e);have j7:=t.o.1.au fP (λk hF e=>TW (e▸hF));by_cases bm:i<n
   .have cw:(i:Int)<(n:Int):=(by omega);have uG:i<rs.length:=(by rw [<-D.o.2.1];exact bm);obtain⟨a2,n2,cp2,e2,Ro,du⟩:=(t.o.2.2.2.1.au t.o.2.2.1 fP).shape;cases e2;clear Ro;obtain⟨b,g,c',rfl,q0,aY⟩:=du i uG;have cZ:=t.o.2.2.2.2.1 _ (List.getElem_mem uG);have Q:g≠m:=λe=>by
     obtain⟨cur,hc,_⟩:=aY;exact nc.qh (by rw [<-e];exact hc)
    have h1:=λ(wx:World) (hb:bW wr wx)=>Ox (nc.later hb) (some (aD g 0)) (rs[i]).length c' rs[i] (aY.src.later hb) cZ.1 cZ.2 (by have:=aY.le;simpa [bs] using this) (by have:=aY.max;unfold maxLen at this;omega) (λx W _=>by cases W;exact Q) y.blocks (by omega);rw [List.drop_eq_getElem_cons uG] at j;have Y:=yh (aF Mu (aF fP (aF j j7)));generalize rs[i]=r at*;have M:=bt.c7;have cc4:=bt.c4;have sO:=yh (λ(I:rdRec y.blocks r=none)=>(by rw [Y.o.2.2.1];unfold rdAll;rw [I]:R=none));have Ep:bW wr wr.drew:=ai (bi _ _);have z:=yh (λ(H:World) (Uo:aa (λk=>k=m) wr.drew H)=>((Y.o.2.1.trans (aa.ah (λ_=>False) Ep) (λ_ h=>h.elim)).trans Uo (λ_ h=> .inl h):aa (λk=>k=m) w H));have L:=yh (λ(H:World) (Uo:aa (λk=>k=m) wr.drew H)=>(⟨((bt.later Ep).au Uo (λe=>Kk e)).c7,((bt.later Ep).au Uo (λe=>Kk e)).c4⟩:H.cell? (aD q 7)=some (.map (some m))/\H.cell? (aD q 4)=some (iV (y.blocks:Int))));clear Mu fP j j7 nc bt du aY cZ Q;go_wp2_with fail;refine wp_region_held_drew (S:=(λw'=>w'.cell? (aD q 7)=some (.map (some m))/\w'.cell? (aD q 4)=some (iV (y.blocks:Int)))) (by kernel_rfl) ((yh (aF M cc4)).out) (λRV=>?_);refine wpAnyH_take (i:=0) (oi:={dst:=some 18,op:=Op.move (Operand.tmp 0),type:=53,pos:= "store.go:110",after:= #[],guard:=none}) (v:=pQ q) rfl (by kernel_rfl) (by kernel_rfl) (by kernel_rfl) (λ_ _ _ h=>h) (Or.inl ⟨by rfl,?_⟩) (by assumption) ?_
    .intro w vt
     (try dsimp only at vt)
     go_simp
    try simp only [Act.put,List.setIfInBounds_toArray,List.set_cons_zero,List.set_cons_succ]
    refine wpAnyH_take (i:=1) (oi:={dst:=some 19,op:=Op.nilCheck (Operand.tmp 18),type:=0,pos:= "store.go:110",after:= #[{on:=0,ground:=Ground.data}],guard:=none}) (v:=pQ q) rfl (by kernel_rfl) (by kernel_rfl) (by kernel_rfl) (λ_ _ _ h=>h) (Or.inl ⟨by rfl,?_⟩) (by assumption) ?_
    .intro w vt
     (try dsimp only at vt)
     go_simp
    try simp only [Act.put,List.setIfInBounds_toArray,List.set_cons_zero,List.set_cons_succ]
    refine wpAnyH_take (i:=2) (oi:={dst:=some 20,op:=Op.fieldAddr 95 (Operand.tmp 19) 3,type:=0,pos:= "store.go:110",after:= #[{on:=1,ground:=Ground.data}],guard:=none}) (v:= .pointer (some (aD q 7))) rfl (by kernel_rfl) (by kernel_rfl) (by kernel_rfl) (λ_ _ _ h=>h) (Or.inl ⟨by rfl,?_⟩) (by assumption) ?_
    .intro w vt
     (try dsimp only at vt)
     go_simp
    try simp only [Act.put,List.setIfInBounds_toArray,List.set_cons_zero,List.set_cons_succ]
    refine wpAnyH_take (i:=3) (oi:={dst:=some 21,op:=Op.load 93 (Operand.tmp 20),type:=93,pos:= "store.go:110",after:= #[{on:=2,ground:=Ground.data}],guard:=none}) (v:= .map (some m)) rfl (by kernel_rfl) (by kernel_rfl) (by kernel_rfl) (λ_ _ _ h=>h) (Or.inl ⟨by rfl,?_⟩) (by assumption) ?_
    .intro w vt
     (try dsimp only at vt)
     go_simp
    try simp only [Act.put,List.setIfInBounds_toArray,List.set_cons_zero,List.set_cons_succ]
    refine wpAnyH_take (i:=4) (oi:={dst:=some 22,op:=Op.move (Operand.tmp 6),type:=36,pos:= "store.go:110",after:= #[],guard:=none}) (v:= .slice (some (aD g 0)) r.length c') rfl (by kernel_rfl) (by kernel_rfl) (by kernel_rfl) (λ_ _ _ h=>h) (Or.inl ⟨by rfl,?_⟩) (by assumption) ?_
    .intro w vt
     (try dsimp only at vt)
     go_simp
    try simp only [Act.put,List.setIfInBounds_toArray,List.set_cons_zero,List.set_cons_succ]
    refine wpAnyH_take (i:=5) (oi:={dst:=some 23,op:=Op.move (Operand.tmp 0),type:=53,pos:= "store.go:110",after:= #[],guard:=none}) (v:=pQ q) rfl (by kernel_rfl) (by kernel_rfl) (by kernel_rfl) (λ_ _ _ h=>h) (Or.inl ⟨by rfl,?_⟩) (by assumption) ?_
    .intro w vt
     (try dsimp only at vt)
     go_simp
    try simp only [Act.put,List.setIfInBounds_toArray,List.set_cons_zero,List.set_cons_succ]
    refine wpAnyH_take (i:=6) (oi:={dst:=some 24,op:=Op.nilCheck (Operand.tmp 23),type:=0,pos:= "store.go:110",after:= #[{on:=5,ground:=Ground.data}],guard:=none}) (v:=pQ q) rfl (by kernel_rfl) (by kernel_rfl) (by kernel_rfl) (λ_ _ _ h=>h) (Or.inl ⟨by rfl,?_⟩) (by assumption) ?_
    .intro w vt
     (try dsimp only at vt)
     go_simp
    try simp only [Act.put,List.setIfInBounds_toArray,List.set_cons_zero,List.set_cons_succ]
    refine wpAnyH_take (i:=7) (oi:={dst:=some 25,op:=Op.fieldAddr 95 (Operand.tmp 24) 2,type:=0,pos:= "store.go:110",after:= #[{on:=6,ground:=Ground.data}],guard:=none}) (v:= .pointer (some (aD q 2))) rfl (by kernel_rfl) (by kernel_rfl) (by kernel_rfl) (λ_ _ _ h=>h) (Or.inl ⟨by rfl,?_⟩) (by assumption) ?_
    .intro w vt
     (try dsimp only at vt)
     go_simp
    try simp only [Act.put,List.setIfInBounds_toArray,List.set_cons_zero,List.set_cons_succ]
    refine wpAnyH_take (i:=8) (oi:={dst:=some 26,op:=Op.fieldAddr 86 (Operand.tmp 25) 2,type:=0,pos:= "store.go:110",after:= #[{on:=7,ground:=Ground.data}],guard:=none}) (v:= .pointer (some (aD q 4))) rfl (by kernel_rfl) (by kernel_rfl) (by kernel_rfl) (λ_ _ _ h=>h) (Or.inl ⟨by rfl,?_⟩) (by assumption) ?_
    .intro w vt
     (try dsimp only at vt)
     go_simp
    try simp only [Act.put,List.setIfInBounds_toArray,List.set_cons_zero,List.set_cons_succ]
    refine wpAnyH_take (i:=9) (oi:={dst:=some 27,op:=Op.load 3 (Operand.tmp 26),type:=3,pos:= "store.go:110",after:= #[{on:=8,ground:=Ground.data}],guard:=none}) (v:=iV (y.blocks:Int)) rfl (by kernel_rfl) (by kernel_rfl) (by kernel_rfl) (λ_ _ _ h=>h) (Or.inl ⟨by rfl,?_⟩) (by assumption) ?_
    .intro w vt
     (try dsimp only at vt)
     go_simp
    try simp only [Act.put,List.setIfInBounds_toArray,List.set_cons_zero,List.set_cons_succ]
    refine wpAnyH_ready (rs:= [10]) (by kernel_rfl) (by simp) ?_;refine AllReadyH.cons (o:={dst:=some 28,op:=Op.call {callee:=Callee.value (Operand.func 110),args:= #[Operand.tmp 21,Operand.tmp 22,Operand.tmp 27],argTypes:= #[93,36,3]},type:=0,pos:= "store.go:110",after:= #[{on:=3,ground:=Ground.data},{on:=4,ground:=Ground.data},{on:=9,ground:=Ground.data}],guard:=none}) rfl (λK hK=>?_) AllReadyH.nil;go_simp;refine(h1 _ (ai (bi _ _))).mono ?_;rintro e H ⟨Uo,Hw⟩;rcases Hw.symm with ⟨I,rfl⟩|⟨cs,I,rfl,sG⟩
    .exact⟨rfl, .inl ⟨sO.o I,rfl,t.o.1.au (z.o _ Uo) (λk hF e=>TW (e▸hF)),z.o _ Uo⟩⟩
    refine hK.out _ _ ?_ (λRV=>?_)
    .exact L.o _ Uo
    clear hK K;try simp only [Act.put,List.setIfInBounds_toArray,List.set_cons_zero,List.set_cons_succ]
    refine wpAnyH_done (by kernel_rfl) ?_ _;clear Hw RV;have X:=yh (aF (z.o _ Uo) (aF I sG));clear Uo I sG h1 L z sO Ep q0;go_wp2;go_roundw;case rel=>exact⟨i+1,CM.bX ms cs,by go_num,by omega,X.o.2.2,Oy (P:=λk=>k<y.blocks) Y.o.1 (sN X.o.2.1),X.o.1,by
     have E:=Y.o.2.2.1;unfold rdAll at E;rw [X.o.2.1] at E;exact E⟩
    case measure=>exact SA (S:=n) (i:=i) (k:=i+1) bm (by omega)
   .have cw:¬(i:Int)<(n:Int):=(by omega);rw [List.drop_eq_nil_of_le (by have:=D.o.2.1;omega)] at j;have O:R=some ms:=j;have km:=nc.small;have E:=rG j7 bt nc hq TW (λx W=>by have:=Mu x W;omega) aT;have pf:=eA S s y.home ms;obtain⟨T,hT⟩:=bQ (sbring S s y.home ms);have kP:ee S s y ms rs=if T.1≠0 then T else T.2.fl s:=by
     unfold ee;rw [aA (λe=>by rw [e] at D;have:=D.o.2;simp at this),<-hT]
    rw [<-hT] at E pf;have d:=yh (aF O (aF kP (aF fP (aF bt (aF nc j7.lt)))));clear j O hT Mu fP bt j7 nc D kP;go_wp2_with fail;refine fk E λw2 cC aX=>?_;clear E;obtain⟨dr,ec,AY,A5⟩:=cM d.o.2.2.1.size aX.size d.o.2.2.2.2.1.lt d.o.2.2.2.1.lt;by_cases C:T.1=0
    .have d1:(T.1 == 0)=true:=(by rw [C];rfl);have d2:(T.1 != 0)=false:=(by simp [C]);have h3:=B.vg cC (by omega);have kZ:=d.o.2.2.2.1.au aX hq;have cc0:=kZ.c0;have kP:=d.o.2.1;rw [aA (λh=>h C)] at kP;obtain⟨U,hU⟩:=bQ (T.2.fl s);rw [<-hU] at h3 kP;have f:=yh (aF kP (aF aX (aF kZ (d.o.2.2.2.2.1.au aX TW))));clear hU kP kZ cC aX C;go_wp2_with fail;refine fk h3 λw3 A aV=>?_;clear h3 cc0;have kO:=aV.size;have BV:¬more F wr w2 m:=λh=>by rcases h with h|h;exact TW h;omega
     have ajU:¬more F wr w2 q:=λh=>by rcases h with h|h;exact hq h;omega
     have IV:=((d.o.2.2.1.mono (G:=λk=>k=m\/F k) (λk e=> .inl e)).trans f.o.2.1 (λk h=> .inl (.inr h))).trans aV (λk h=>by rcases h with h|h;exact .inl (.inr h);exact .inr (by omega));by_cases J:U.1=0
     .have d3:(U.1 != 0)=false:=(by simp [J]);obtain⟨w4,aqW,SE,dV,vS⟩:=(f.o.2.2.2.au aV BV).qB;have M:=(f.o.2.2.1.au aV ajU).c7;have u:=yh (aF A (aF IV (aF SE (aF dV (aF J vS)))));clear A aV IV SE dV J vS;go_wp2;go_ret;refine .inr ⟨ms,d.o.1,by rw [f.o.1,u.o.2.2.2.2.1];rfl,?_,u.o.2.1.trans u.o.2.2.2.1 (λk e=> .inl (.inl e)),λ_=>u.o.2.2.1⟩;rw [f.o.1];have vS:=u.o.2.2.2.2.2;refine(u.o.1.au u.o.2.2.2.1 (λk h e=>BV (e▸h))).mono (λk h=>?_) (λk h=>?_)
      .rcases h with h|h
       .exact .inl h
       .exact .inr (by omega)
      .rcases h with h|h
       .have:=d.o.2.2.2.2.2 k h;omega
       .omega
     .have d3:(U.1 != 0)=true:=(by simp [J]);have u:=yh (aF A (aF IV J));clear A aV IV J;go_wp2;go_ret;refine .inr ⟨ms,d.o.1,by rw [f.o.1];rfl,?_,u.o.2.1,λh=>absurd (by rw [f.o.1] at h;exact h) u.o.2.2⟩;rw [f.o.1];refine u.o.1.mono (λk h=>?_) (λk h=>?_)
      .rcases h with h|h
       .exact .inl h
       .exact .inr (by omega)
      .rcases h with h|h
       .have:=d.o.2.2.2.2.2 k h;omega
       .omega
    .have d1:(T.1 == 0)=false:=(by simpa using C);have d2:(T.1 != 0)=true:=(by simp [C]);have kP:=d.o.2.1;rw [aE C] at kP;have f:=yh (aF kP (aF aX (aF cC C)));clear kP cC aX C;go_wp2;go_ret;refine .inr ⟨ms,d.o.1,by rw [f.o.1];rfl,?_,(d.o.2.2.1.mono (G:=λk=>k=m\/F k) (λk e=> .inl e)).trans f.o.2.1 (λk h=> .inl (.inr h)),λh=>absurd (by rw [f.o.1] at h;exact h) f.o.2.2.2⟩;rw [f.o.1];refine f.o.2.2.1.mono (λk h=>?_) (λk h=>?_)
     .rcases h with h|h
      .exact .inl h
      .exact .inr (by omega)
     .rcases h with h|h
      .have:=d.o.2.2.2.2.2 k h;omega
      .omega
end
end
def zipc:List Nat->List Int->CM
 | [],_=> []
 |k :: ks,r=>(k,r.take 512) :: zipc ks (r.drop 512)
theorem Ap:∀(ks:List Nat) (r:List Int),(zipc ks r).length=ks.length
 | [],_=>rfl
 |k :: ks,r=>by simp [zipc,Ap ks]
theorem C1 (k:Nat):∀(ks:List Nat) (r:List Int),zipc (ks ++ [k]) r=zipc ks r ++ [(k,(r.drop (512*ks.length)).take 512)]
 | [],r=>by simp [zipc]
 |x :: ks,r=>by
  rw [List.cons_append,zipc,zipc,C1 k ks,List.cons_append,List.drop_drop,List.length_cons,show 512+512*ks.length=512*(ks.length+1) by omega]
theorem sP:∀(ks:List Nat) (r:List Int),512*ks.length<=r.length->rdCons ks r=some (zipc ks r,r.drop (512*ks.length))
 | [],r,_=>rfl
 |k :: ks,r,h=>by
  rw [List.length_cons] at h;rw [iw,aA (by omega),sP ks (r.drop 512) (by rw [List.length_drop];omega),List.drop_drop,List.length_cons,show 512+512*ks.length=512*(ks.length+1) by omega];rfl
theorem uq:∀(ks:List Nat) (r:List Int),r.length<512*ks.length->rdCons ks r=none
 | [],r,h=>by simp at h
 |k :: ks,r,h=>by
  rw [List.length_cons] at h;rw [iw];split
  .rfl
  .rw [uq ks (r.drop 512) (by rw [List.length_drop];omega)];rfl
theorem KO {r:List Int} (h:r.length=512*ks.length):rdTail (rdCons ks r)=some (zipc ks r):=by
 rw [sP ks r (by omega),List.drop_eq_nil_of_le (by omega)];rfl
theorem Oz {r:List Int} (h:r.length≠512*ks.length):rdTail (rdCons ks r)=none:=by
 by_cases a:r.length<512*ks.length
 .rw [uq ks r a];rfl
 .rw [sP ks r (by omega)];have:0<(r.drop (512*ks.length)).length:=by rw [List.length_drop];omega
  cases hd:r.drop (512*ks.length) with
  |nil=>rw [hd] at this;simp at this
  |cons x xs=>rfl
theorem ws {blocks:Nat}:∀{n b:Nat} {l r:List Int} {ks:List Nat},rdNums blocks n b l=some (ks,r)->4*n<=l.length/\r=l.drop (4*n)
 |0,b,l,r,ks,h=>by
  simp only [rdNums,Option.some.injEq,Prod.mk.injEq] at h;exact⟨by omega,by rw [<-h.2];rfl⟩
 |n+1,b,l,r,ks,h=>by
  rw [kJ] at h;split at h
  .cases h
  .split at h
   .cases a:rdNums blocks n (le (l.take 4)+1) (l.drop 4) with
    |none=>rw [a] at h;cases h
    |some x=>
     rw [a] at h;simp only [Option.map_some,Option.some.injEq,Prod.mk.injEq] at h;obtain⟨rfl,rfl⟩:=h;obtain⟨c,d⟩:=ws (ks:=x.1) (r:=x.2) a;rw [List.length_drop] at c;refine⟨by omega,?_⟩;rw [d,List.drop_drop];congr 1;omega
   .cases h
def qi (blocks:Nat) (d:List Int) (c:Nat) (ks:List Nat) (lo i:Nat):Option CM:=
 match rdNums blocks (c-i) lo (d.drop (2+4*i)) with
 |none=>none
 |some (js,r)=>rdTail (rdCons (ks ++ js) r)
theorem H6 (h:d.length<2\/¬(1<=le (d.take 2)/\le (d.take 2)<=16)\/d.length≠2+516*le (d.take 2)):rdRec blocks d=none:=by
 unfold rdRec;by_cases a:d.length<2
 .rw [aE a]
 .rw [aA a];by_cases b:1<=le (d.take 2)/\le (d.take 2)<=16
  .rw [aE b];cases c:rdNums blocks (le (d.take 2)) 0 (d.drop 2) with
   |none=>rfl
   |some x=>
    obtain⟨ks,r⟩:=x;obtain⟨e,f⟩:=ws c;rw [List.length_drop] at e;show rdTail (rdCons ks r)=none;refine Oz ?_;rw [f,(lU c).1,List.length_drop,List.length_drop];omega
  .rw [aA b]
theorem KP (h0:¬d.length<2) (a:1<=le (d.take 2)/\le (d.take 2)<=16):rdRec blocks d=qi blocks d (le (d.take 2)) [] 0 0:=by
 unfold rdRec qi;rw [aA h0,aE a];rfl
theorem KQ {c a:Nat} (b:ks.length=c) (hd:d.length=2+516*c):qi blocks d c ks a c=some (zipc ks (d.drop (2+4*c))):=by
 unfold qi;rw [Nat.sub_self];show rdTail (rdCons (ks ++ []) (d.drop (2+4*c)))=_;rw [List.append_nil];exact KO (by rw [List.length_drop];omega)
theorem H7 {c a:Nat} (b:i<c) (hd:d.length=2+516*c):
  qi blocks d c ks a i=if a<=le ((d.drop (2+4*i)).take 4)/\le ((d.drop (2+4*i)).take 4)<blocks then qi blocks d c (ks ++ [le ((d.drop (2+4*i)).take 4)]) (le ((d.drop (2+4*i)).take 4)+1) (i+1) else none:=by
 unfold qi;rw [show c-i=(c-(i+1))+1 by omega,kJ,aA (by rw [List.length_drop];omega),List.drop_drop,show 2+4*i+4=2+4*(i+1) by omega];generalize le ((d.drop (2+4*i)).take 4)=K;by_cases h:a<=K/\K<blocks
 .rw [aE h,aE h];cases rdNums blocks (c-(i+1)) (K+1) (d.drop (2+4*(i+1))) with
  |none=>rfl
  |some x=>
   show rdTail (rdCons (ks ++ K :: x.1) x.2)=rdTail (rdCons ((ks ++ [K]) ++ x.1) x.2);rw [List.append_assoc];rfl
 .rw [aA h,aA h]
section
theorem qq {m:Nat} (a:p<l.length):(l.drop p).take (m+1)=l.getD p 0 :: (l.drop (p+1)).take m:=by
 rw [List.drop_eq_getElem_cons a,List.take_succ_cons];simp [List.getD,List.getElem?_eq_getElem a]
theorem bw (a:Option Addr) (m c:Nat) (l:List Int) (w:World) (s:Src w a m l) (x:Bytes l) (d n:Nat) (D:n<=4) (ic:d+n<=m) (C:m<=140737488355328):
  Calls prog 199 #[.slice a m c,iV (d:Int),iV (n:Int)] w λe w'=>e= .returned (iV ((le ((l.drop d).take n):Nat):Int))/\w'=w:=by
 have A:=s.1;have t:=yh s;clear s;go_in;go_wp2;go_loopw [7,8] (λv i wr=>∃j:Nat,j<=n/\i=iV ((j:Int)-1)/\v=iV ((le ((l.drop (d+j)).take (n-j)):Nat):Int)/\wr=w) (λ_ i _=>(intOf i+1).toNat);case atStart=>exact⟨n,bP _,rfl,by simp [le],rfl⟩
 case round=>
  obtain⟨j,z,rfl,rfl,rfl⟩:=hrel;by_cases q:1<=j
  .obtain⟨i,rfl⟩:∃i,j=i+1:=⟨j-1,by omega⟩;have vQ:(0:Int)<=((i+1:Nat):Int)-1:=(by omega);have r:=qJ (x.drop (d+(i+1))|>.take (n-(i+1))) (k:=3) (by rw [List.length_take];omega);have f:=qq (l:=l) (p:=d+i) (m:=n-(i+1)) (by omega);rw [show n-(i+1)+1=n-i by omega,show d+i+1=d+(i+1) by omega] at f;obtain⟨V,g⟩:=bQ (le ((l.drop (d+(i+1))).take (n-(i+1))));rw [<-g] at r⊢;obtain⟨b,o,rfl⟩:=cT t.o (by omega);have du:wr.cell? ⟨b,o+(d+i),none⟩=some (.int .u8 (l.getD (d+i) 0)):=(by have:=t.o.2.2 _ rfl (d+i) (by omega);rwa [aK] at this);have cZ:=x.getD (d+i);have GR:=yh f;have y:=yh g;obtain⟨X,u⟩:=bQ (l.getD (d+i) 0);rw [<-u] at du cZ GR;have Xa:((i+1:Nat):Int)-1=(i:Int):=(by omega);rw [Xa] at vQ⊢;have aey:(d:Int)+(i:Int)<(m:Int):=(by omega);clear g f Xa u;go_wp2;go_roundw;case rel=>
    refine⟨i,by omega,by go_num,?_,trivial⟩;rw [GR.o];congr 1;show _=((X.toNat+256*le ((l.drop (d+(i+1))).take (n-(i+1))):Nat):Int);rw [<-y.o];omega
   case measure=>simp [intOf]
  .obtain rfl:j=0:=(by omega);have vQ:¬(0:Int)<=((0:Nat):Int)-1:=(by omega);go_wp2;go_ret;exact⟨rfl,rfl⟩
theorem vx (a:(aR l).2=0) (b:12<=(aR l).1.length):(cF l).e=le (((aR l).1.drop 0).take 4)/\(cF l).p=le (((aR l).1.drop 4).take 4)/\(cF l).i=le (((aR l).1.drop 8).take 2)/\(cF l).c=le (((aR l).1.drop 10).take 2)/\(cF l).d=(aR l).1.drop 12:=by
 unfold cF;rw [aA (by omega)];exact⟨rfl,rfl,rfl,rfl,rfl⟩
theorem xP (h:(aR l).2≠0\/(aR l).1.length<=12):(cF l).d= []:=by
 unfold cF;split
 .rfl
 .show (aR l).1.drop 12= [];exact List.drop_eq_nil_of_le (by omega)
section
variable {w w':World} {F G:Nat->Prop} {r s k:Nat} {S:DS} {L:LG}
def Wm (w w':World) (q:PC) (E P i c:Nat) (v:Value):Prop:=
   (q.ok E P i c/\∃body,Own w' w.heap.size v body/\body.drop 12=q.d/\12<body.length/\body.length<=504)\/(¬q.ok E P i c/\v= .slice none 0 0)
theorem OA (E P i c:Nat) (h:aB w F r s S) (I:cH w k r L) (cZ:Bytes (S.now (L.f+2+P%L.n))) (hs:L.f+2+L.n<=s) (iQ:1<=L.n) (aT:S.puts.length+1<=4000000000000) (W:E<=4294967296) (hP:P<=4294967296) (X:i<=65536) (hc:c<=65536) (A2:1<=c):
  Calls prog 200 #[pQ k,iV (E:Int),iV (P:Int),iV (i:Int),iV (c:Int)] w λe w'=>∃v,e= .returned v/\Wm w w' (cF (S.now (L.f+2+P%L.n))) E P i c v/\bW w w':=by
 have Mb:=h.ok.hi;have Q:P%L.n<L.n:=Nat.mod_lt _ iQ;have mN:=br h.ok (L.f+2+P%L.n) (by omega);obtain⟨A,D,G,H⟩:=cM (jF (h.later (ai (bi w.heap.size w))) (L.f+2+P%L.n) (by omega) (by omega)) I.c0 I.c2 I.c3;have wh:(P:Int).tmod (L.n:Int)=((P%L.n:Nat):Int):=by rw [Int.tmod_eq_emod_of_nonneg (by omega),<-Int.natCast_emod]
 have R6:(P:Int)%(L.n:Int)=((P%L.n:Nat):Int):=by rw [<-Int.natCast_emod]
 obtain⟨M,T⟩:=bQ (P%L.n);rw [<-T] at wh R6 Q A mN cZ⊢;rw [show ((L.f+2+M:Nat):Int)=(L.f:Int)+2+(M:Int) by omega] at A;have xL:IntKind.i64.wrap ((L.f:Int)+2)=(L.f:Int)+2:=by rw [IntKind.wrap_i64];omega
 have aez:IntKind.i64.wrap ((L.f:Int)+2+(M:Int))=(L.f:Int)+2+(M:Int):=by rw [IntKind.wrap_i64];omega
 have aeA:¬L.n=0:=by omega
 clear T h I;generalize S.now (L.f+2+M)=l at*;have C:=DN l;have ie:=pG cZ;by_cases J:(aR l).2=0
 .go_in;go_wp2_with fail;go_region_held3 (λw'=>w'.cell? (aD k 0)=some (pQ r)/\w'.cell? (aD k 2)=some (iV (L.f:Int))/\w'.cell? (aD k 3)=some (iV (L.n:Int)))
   (first|exact⟨D,G,H⟩)
     ((go_at_call 40;refine A.mono ?_;rintro e w1 ⟨g,K,rfl,O,aY,bN⟩;have j9:=bN.symm;clear bN;subst j9))
  have fZ:=aY.src;rw [mN] at fZ;have m:=qG (some (aD g 0)) 512 K l w.drew fZ cZ;rw [J] at m;clear A aY fZ D G H;go_wp2_with fail;refine m.mono ?_;rintro e a ⟨v2,rfl,jo,aW⟩;have eM:=(ai (bi w.heap.size w)).trans aW;obtain⟨b,rq,rfl,bo,_,_⟩:=jo.src;obtain⟨Vy,dE⟩:=bL (show Own a w.heap.size _ _ from jo) eM;by_cases U:(aR l).1.length<=12
  .have sO:=yh (show¬(cF l).ok E P i c from λh=>by have:=h.2.2.2.2.1;rw [xP (.inr U)] at this;simp at this);have Z:((aR l).1.length:Int)<=12:=(by omega);clear U;clear m aW eM jo bo;go_wp2;go_ret;exact⟨_,rfl, .inr ⟨sO.o,rfl⟩,dE.o⟩
  .have mT:=vx J (by omega);have Z:¬((aR l).1.length:Int)<=12:=(by omega);have wI:0<(cF l).d.length:=(by rw [mT.2.2.2.2,List.length_drop];omega);have sX:(cF l).d.length+12=(aR l).1.length:=(by rw [mT.2.2.2.2,List.length_drop];omega);by_cases q:(cF l).e=E
   .by_cases t:(cF l).p=P
    .by_cases x:(cF l).i=i
     .by_cases z:(cF l).c=c
      .by_cases N:i+1=c\/(aR l).1.length=504
       .obtain⟨Po,sH⟩:=bL (show (cF l).ok E P i c from ⟨q,t,x,z,wI,λh=>by omega⟩) mT.2.2.2.2;have UA:=yh (show 12<(aR l).1.length/\(aR l).1.length<=504 from ⟨by omega,C⟩);by_cases R:i+1=c
        .have y:((i:Int) != (c:Int)-1)=false:=(by rw [bne_eq_false_iff_eq];omega);clear N R;have vy:=bw b _ rq _ a bo ie 0 4 (by omega) (by omega) (by omega);rw [<-mT.1,q,show (((0:Nat)):Int)=0 from rfl,show (((4:Nat)):Int)=4 from rfl] at vy;have uU:=bw b _ rq _ a bo ie 4 4 (by omega) (by omega) (by omega);rw [<-mT.2.1,t,show (((4:Nat)):Int)=4 from rfl] at uU;have Er:=bw b _ rq _ a bo ie 8 2 (by omega) (by omega) (by omega);rw [<-mT.2.2.1,x,show (((8:Nat)):Int)=8 from rfl,show (((2:Nat)):Int)=2 from rfl] at Er;have KR:=bw b _ rq _ a bo ie 10 2 (by omega) (by omega) (by omega);rw [<-mT.2.2.2.1,z,show (((10:Nat)):Int)=10 from rfl,show (((2:Nat)):Int)=2 from rfl] at KR;clear m aW eM jo bo mT;go_wp2_with (first|(go_at_call 199;refine vy.mono ?_;rintro e j ⟨rfl,eB⟩;have eS:=eB.symm;clear eB vy;subst eS)|(go_at_call 199;refine uU.mono ?_;rintro e j ⟨rfl,eB⟩;have eS:=eB.symm;clear eB uU;subst eS)|(go_at_call 199;refine Er.mono ?_;rintro e j ⟨rfl,eB⟩;have eS:=eB.symm;clear eB Er;subst eS)|(go_at_call 199;refine KR.mono ?_;rintro e j ⟨rfl,eB⟩;have eS:=eB.symm;clear eB KR;subst eS));go_ret;exact⟨_,rfl, .inl ⟨Po.o,_,Vy.o,sH.o.symm,UA.o.1,UA.o.2⟩,dE.o⟩
        .have y:((i:Int) != (c:Int)-1)=true:=(by rw [fT];omega);have dl:(((aR l).1.length:Int) != 504)=false:=(by rw [bne_eq_false_iff_eq];omega);clear N R;have vy:=bw b _ rq _ a bo ie 0 4 (by omega) (by omega) (by omega);rw [<-mT.1,q,show (((0:Nat)):Int)=0 from rfl,show (((4:Nat)):Int)=4 from rfl] at vy;have uU:=bw b _ rq _ a bo ie 4 4 (by omega) (by omega) (by omega);rw [<-mT.2.1,t,show (((4:Nat)):Int)=4 from rfl] at uU;have Er:=bw b _ rq _ a bo ie 8 2 (by omega) (by omega) (by omega);rw [<-mT.2.2.1,x,show (((8:Nat)):Int)=8 from rfl,show (((2:Nat)):Int)=2 from rfl] at Er;have KR:=bw b _ rq _ a bo ie 10 2 (by omega) (by omega) (by omega);rw [<-mT.2.2.2.1,z,show (((10:Nat)):Int)=10 from rfl,show (((2:Nat)):Int)=2 from rfl] at KR;clear m aW eM jo bo mT;go_wp2_with (first|(go_at_call 199;refine vy.mono ?_;rintro e j ⟨rfl,eB⟩;have eS:=eB.symm;clear eB vy;subst eS)|(go_at_call 199;refine uU.mono ?_;rintro e j ⟨rfl,eB⟩;have eS:=eB.symm;clear eB uU;subst eS)|(go_at_call 199;refine Er.mono ?_;rintro e j ⟨rfl,eB⟩;have eS:=eB.symm;clear eB Er;subst eS)|(go_at_call 199;refine KR.mono ?_;rintro e j ⟨rfl,eB⟩;have eS:=eB.symm;clear eB KR;subst eS));go_ret;exact⟨_,rfl, .inl ⟨Po.o,_,Vy.o,sH.o.symm,UA.o.1,UA.o.2⟩,dE.o⟩
       .have sO:=yh (show¬(cF l).ok E P i c from λh=>by have:=h.2.2.2.2.2;omega);have y:((i:Int) != (c:Int)-1)=true:=(by rw [fT];omega);have dl:(((aR l).1.length:Int) != 504)=true:=(by rw [fT];omega);clear N;have vy:=bw b _ rq _ a bo ie 0 4 (by omega) (by omega) (by omega);rw [<-mT.1,q,show (((0:Nat)):Int)=0 from rfl,show (((4:Nat)):Int)=4 from rfl] at vy;have uU:=bw b _ rq _ a bo ie 4 4 (by omega) (by omega) (by omega);rw [<-mT.2.1,t,show (((4:Nat)):Int)=4 from rfl] at uU;have Er:=bw b _ rq _ a bo ie 8 2 (by omega) (by omega) (by omega);rw [<-mT.2.2.1,x,show (((8:Nat)):Int)=8 from rfl,show (((2:Nat)):Int)=2 from rfl] at Er;have KR:=bw b _ rq _ a bo ie 10 2 (by omega) (by omega) (by omega);rw [<-mT.2.2.2.1,z,show (((10:Nat)):Int)=10 from rfl,show (((2:Nat)):Int)=2 from rfl] at KR;clear m aW eM jo bo mT;go_wp2_with (first|(go_at_call 199;refine vy.mono ?_;rintro e j ⟨rfl,eB⟩;have eS:=eB.symm;clear eB vy;subst eS)|(go_at_call 199;refine uU.mono ?_;rintro e j ⟨rfl,eB⟩;have eS:=eB.symm;clear eB uU;subst eS)|(go_at_call 199;refine Er.mono ?_;rintro e j ⟨rfl,eB⟩;have eS:=eB.symm;clear eB Er;subst eS)|(go_at_call 199;refine KR.mono ?_;rintro e j ⟨rfl,eB⟩;have eS:=eB.symm;clear eB KR;subst eS));go_ret;exact⟨_,rfl, .inr ⟨sO.o,rfl⟩,dE.o⟩
      .have sO:=yh (show¬(cF l).ok E P i c from λh=>z h.2.2.2.1);have u:(((cF l).c:Int) != (c:Int))=true:=(by rw [fT];omega);have y:((cF l).c == c)=false:=(by rw [eG];exact z);have vy:=bw b _ rq _ a bo ie 0 4 (by omega) (by omega) (by omega);rw [<-mT.1,q,show (((0:Nat)):Int)=0 from rfl,show (((4:Nat)):Int)=4 from rfl] at vy;have uU:=bw b _ rq _ a bo ie 4 4 (by omega) (by omega) (by omega);rw [<-mT.2.1,t,show (((4:Nat)):Int)=4 from rfl] at uU;have Er:=bw b _ rq _ a bo ie 8 2 (by omega) (by omega) (by omega);rw [<-mT.2.2.1,x,show (((8:Nat)):Int)=8 from rfl,show (((2:Nat)):Int)=2 from rfl] at Er;have KR:=bw b _ rq _ a bo ie 10 2 (by omega) (by omega) (by omega);rw [<-mT.2.2.2.1,show (((10:Nat)):Int)=10 from rfl,show (((2:Nat)):Int)=2 from rfl] at KR;clear m aW eM jo bo mT;go_wp2_with (first|(go_at_call 199;refine vy.mono ?_;rintro e j ⟨rfl,eB⟩;have eS:=eB.symm;clear eB vy;subst eS)|(go_at_call 199;refine uU.mono ?_;rintro e j ⟨rfl,eB⟩;have eS:=eB.symm;clear eB uU;subst eS)|(go_at_call 199;refine Er.mono ?_;rintro e j ⟨rfl,eB⟩;have eS:=eB.symm;clear eB Er;subst eS)|(go_at_call 199;refine KR.mono ?_;rintro e j ⟨rfl,eB⟩;have eS:=eB.symm;clear eB KR;subst eS));go_ret;exact⟨_,rfl, .inr ⟨sO.o,rfl⟩,dE.o⟩
     .have sO:=yh (show¬(cF l).ok E P i c from λh=>x h.2.2.1);have u:(((cF l).i:Int) != (i:Int))=true:=(by rw [fT];omega);have y:((cF l).i == i)=false:=(by rw [eG];exact x);have vy:=bw b _ rq _ a bo ie 0 4 (by omega) (by omega) (by omega);rw [<-mT.1,q,show (((0:Nat)):Int)=0 from rfl,show (((4:Nat)):Int)=4 from rfl] at vy;have uU:=bw b _ rq _ a bo ie 4 4 (by omega) (by omega) (by omega);rw [<-mT.2.1,t,show (((4:Nat)):Int)=4 from rfl] at uU;have Er:=bw b _ rq _ a bo ie 8 2 (by omega) (by omega) (by omega);rw [<-mT.2.2.1,show (((8:Nat)):Int)=8 from rfl,show (((2:Nat)):Int)=2 from rfl] at Er;clear m aW eM jo bo mT;go_wp2_with (first|(go_at_call 199;refine vy.mono ?_;rintro e j ⟨rfl,eB⟩;have eS:=eB.symm;clear eB vy;subst eS)|(go_at_call 199;refine uU.mono ?_;rintro e j ⟨rfl,eB⟩;have eS:=eB.symm;clear eB uU;subst eS)|(go_at_call 199;refine Er.mono ?_;rintro e j ⟨rfl,eB⟩;have eS:=eB.symm;clear eB Er;subst eS));go_ret;exact⟨_,rfl, .inr ⟨sO.o,rfl⟩,dE.o⟩
    .have sO:=yh (show¬(cF l).ok E P i c from λh=>t h.2.1);have u:(((cF l).p:Int) != (P:Int))=true:=(by rw [fT];omega);have y:((cF l).p == P)=false:=(by rw [eG];exact t);have vy:=bw b _ rq _ a bo ie 0 4 (by omega) (by omega) (by omega);rw [<-mT.1,q,show (((0:Nat)):Int)=0 from rfl,show (((4:Nat)):Int)=4 from rfl] at vy;have uU:=bw b _ rq _ a bo ie 4 4 (by omega) (by omega) (by omega);rw [<-mT.2.1,show (((4:Nat)):Int)=4 from rfl] at uU;clear m aW eM jo bo mT;go_wp2_with (first|(go_at_call 199;refine vy.mono ?_;rintro e j ⟨rfl,eB⟩;have eS:=eB.symm;clear eB vy;subst eS)|(go_at_call 199;refine uU.mono ?_;rintro e j ⟨rfl,eB⟩;have eS:=eB.symm;clear eB uU;subst eS));go_ret;exact⟨_,rfl, .inr ⟨sO.o,rfl⟩,dE.o⟩
   .have sO:=yh (show¬(cF l).ok E P i c from λh=>q h.1);have u:(((cF l).e:Int) != (E:Int))=true:=(by rw [fT];omega);have y:((cF l).e == E)=false:=(by rw [eG];exact q);have vy:=bw b _ rq _ a bo ie 0 4 (by omega) (by omega) (by omega);rw [<-mT.1,show (((0:Nat)):Int)=0 from rfl,show (((4:Nat)):Int)=4 from rfl] at vy;clear m aW eM jo bo mT;go_wp2_with (first|(go_at_call 199;refine vy.mono ?_;rintro e j ⟨rfl,eB⟩;have eS:=eB.symm;clear eB vy;subst eS));go_ret;exact⟨_,rfl, .inr ⟨sO.o,rfl⟩,dE.o⟩
 .have sO:=yh (show¬(cF l).ok E P i c from λh=>by have:=h.2.2.2.2.1;rw [xP (.inl J)] at this;simp at this);have Y:(((aR l).2:Int) != 0)=true:=by rw [fT];omega
  clear J;go_in;go_wp2_with fail;go_region_held3 (λw'=>w'.cell? (aD k 0)=some (pQ r)/\w'.cell? (aD k 2)=some (iV (L.f:Int))/\w'.cell? (aD k 3)=some (iV (L.n:Int)))
   (first|exact⟨D,G,H⟩)
     ((go_at_call 40;refine A.mono ?_;rintro e w1 ⟨g,K,rfl,O,aY,bN⟩;have j9:=bN.symm;clear bN;subst j9))
  have fZ:=aY.src;rw [mN] at fZ;have m:=qG (some (aD g 0)) 512 K l w.drew fZ cZ;clear A aY fZ D G H;go_wp2_with fail;refine m.mono ?_;rintro e a ⟨v2,rfl,jo,aW⟩;have eM:=(ai (bi w.heap.size w)).trans aW;obtain⟨b,rq,rfl,bo,_,_⟩:=jo.src;obtain⟨Vy,dE⟩:=bL (show Own a w.heap.size _ _ from jo) eM;clear m aW eM jo bo;go_wp2;go_ret;exact⟨_,rfl, .inr ⟨sO.o,rfl⟩,dE.o⟩
end
end
theorem H8 (a:Option Addr) (m c:Nat) (l:List Int) (w:World) (s:Src w a m l) (x:Bytes l) (d n:Nat) (D:n<=4) (ic:d+n<=m) (C:m<=140737488355328):
  Calls prog 168 #[.slice a m c,iV (d:Int),iV (n:Int)] w λe w'=>e= .returned (iV ((le ((l.drop d).take n):Nat):Int))/\w'=w:=by
 have A:=s.1;have t:=s;clear s;go_in;go_wp2;go_loopw [7,8] (λv i wr=>∃j:Nat,j<=n/\i=iV ((j:Int)-1)/\v=iV ((le ((l.drop (d+j)).take (n-j)):Nat):Int)/\wr=w) (λ_ i _=>(intOf i+1).toNat);case atStart=>exact⟨n,bP _,rfl,by simp [le],rfl⟩
 case round=>
  obtain⟨j,z,rfl,rfl,rfl⟩:=hrel;by_cases q:1<=j
  .obtain⟨i,rfl⟩:∃i,j=i+1:=⟨j-1,by omega⟩;have vQ:(0:Int)<=((i+1:Nat):Int)-1:=(by omega);have r:=qJ (x.drop (d+(i+1))|>.take (n-(i+1))) (k:=3) (by rw [List.length_take];omega);have f:=qq (l:=l) (p:=d+i) (m:=n-(i+1)) (by omega);rw [show n-(i+1)+1=n-i by omega,show d+i+1=d+(i+1) by omega] at f;obtain⟨V,g⟩:=bQ (le ((l.drop (d+(i+1))).take (n-(i+1))));rw [<-g] at r⊢;obtain⟨b,o,rfl⟩:=cT t (by omega);have du:wr.cell? ⟨b,o+(d+i),none⟩=some (.int .u8 (l.getD (d+i) 0)):=(by have:=t.2.2 _ rfl (d+i) (by omega);rwa [aK] at this);have cZ:=x.getD (d+i);have GR:=f;have y:=g;obtain⟨X,u⟩:=bQ (l.getD (d+i) 0);rw [<-u] at du cZ GR;have Xa:((i+1:Nat):Int)-1=(i:Int):=(by omega);rw [Xa] at vQ⊢;have aey:(d:Int)+(i:Int)<(m:Int):=(by omega);clear g f Xa u;go_wp2;go_roundw;case rel=>
    refine⟨i,by omega,by go_num,?_,trivial⟩;rw [GR];congr 1;show _=((X.toNat+256*le ((l.drop (d+(i+1))).take (n-(i+1))):Nat):Int);rw [<-y];omega
   case measure=>simp [intOf]
  .obtain rfl:j=0:=(by omega);have vQ:¬(0:Int)<=((0:Nat):Int)-1:=(by omega);go_wp2;go_ret;exact⟨rfl,rfl⟩
def aai (w w':World) (o:Option CM) (e:Ending):Prop:=
   (o=none/\e= .returned (.tuple #[.slice none 0 0, .bool false]))\/∃cs v,o=some cs/\e= .returned (.tuple #[v, .bool true])/\Pn w' (λj=>w.heap.size<=j) w.heap.size v cs
theorem SF {m:Nat} (h:n+m<=l.length):((l.drop n).take m).length=m:=by rw [List.length_take,List.length_drop];omega
theorem H9 (a:Option Addr) (n l:Nat) (d:List Int) (w:World) (p:Src w a n d) (wX:Bytes d) (Q:n<=1000000) (XA:n<=l) (Pi:l<=9223372036854775807) (blocks:Nat) (I:blocks<=2048):
  Calls prog 122 #[.slice a n l,iV (blocks:Int)] w λe w'=>aai w w' (rdRec blocks d) e/\bW w w':=by
 have P:=p.1;by_cases S:n<2
 .have F:(n:Int)<2:=by omega
  clear p;go_in;go_wp2;go_ret2;exact⟨.inl ⟨(yh (H6 (blocks:=blocks) (d:=d) (.inl (by omega)))).out,rfl⟩,bi _ _⟩
 .have F:¬(n:Int)<2:=by omega
  obtain⟨u,x,rfl⟩:=cT p (by omega);have C2:=H8 (some (aD u x)) n l d w p wX 0 2 (by omega) (by omega) (by omega);rw [List.drop_zero] at C2;have rL:=qJ (wX.take 2) (k:=2) (by rw [List.length_take];omega);obtain⟨C,q⟩:=bQ (le (d.take 2));rw [<-q] at C2 rL;by_cases s:1<=C/\C<=16/\n=2+516*C
  .obtain⟨s,q2,T⟩:=s;have p1:¬(C:Int)<1:=(by omega);have p2:¬(16:Int)<(C:Int):=(by omega);have p3:((n:Int) != 2+516*(C:Int))=false:=(by rw [bne_eq_false_iff_eq];omega);have D:=KP (blocks:=blocks) (d:=d) (by omega) ⟨by omega,by omega⟩;rw [<-q] at D;obtain⟨y,M,Y⟩:=jS D p q;have sX:d.length=2+516*C:=(by omega);have m:=yh sX;have N:2+516*C<=l:=(by omega);subst T;clear p D q P sX S Q;go_in;go_wp2_with fail;refine bE C2 λw1 bN=>?_;subst bN
   rename World=>w
   clear C2;go_wp2;go_loopw [7,8,9] (λv R i wr=>∃(j f:Nat) (ks:List Nat),j<=C/\i=iV (j:Int)/\R=iV ((f:Int)-1)/\f<=blocks/\ks.length=j/\rdRec blocks d=qi blocks d C ks f j/\Pn wr (λj=>w.heap.size<=j) w.heap.size v (zipc ks (d.drop (2+4*C)))/\bW w wr) (λ_ _ i _=>C-(intOf i).toNat);case atStart=>exact⟨0,0, [],dU _,rfl,by simp,dU _,rfl,y.o,Pn.nil _ _ _,bi _ _⟩
   case round=>
    obtain⟨j,f,ks,hj,rfl,rfl,ox,eF,vi,nr,dO⟩:=hrel;obtain⟨Aa,Jb,l9,kP⟩:=cM dO.size (yh nr) (yh dO) (M.o.later dO);have I5:=yh kP;by_cases U:j<C
    .have ZO:(j:Int)<(C:Int):=(by omega);have dP:=H8 (some (aD u x)) (2+516*C) l d wr kP wX (2+4*j) 4 (by omega) (by omega) (by omega);rw [show ((2+4*j:Nat):Int)=2+4*(j:Int) by omega] at dP;rw [H7 U m.o] at vi;have xM:=qJ ((wX.drop (2+4*j)).take 4) (k:=4) (by rw [List.length_take,List.length_drop];omega);generalize le ((d.drop (2+4*j)).take 4)=K at dP vi xM;clear nr dO kP;by_cases G:f<=K/\K<blocks
     .rw [aE G] at vi;have k1:¬(K:Int)<=(f:Int)-1:=(by omega);have r:Src wr (some ⟨u,x+(2+4*C+512*j),none⟩) 512 ((d.drop (2+4*C+512*j)).take 512):=ky I5.o (by omega);have Ag:((d.drop (2+4*C+512*j)).take 512).length=512:=SF (by rw [m.o];omega);have Qu:Bytes ((d.drop (2+4*C+512*j)).take 512):=(wX.drop _).take _;have Zi:=C1 K ks (d.drop (2+4*C));rw [List.drop_drop,eF] at Zi;have Z:(0:Int)<=2+4*(C:Int)+512*(j:Int):=(by omega);have b2:2+4*(C:Int)+512*(j:Int)+512<=(l:Int):=(by omega);obtain⟨WU,A,VB⟩:=jS (lH (some ⟨u,x+(2+4*C+512*j),none⟩) 512 (l-(2+4*C+512*j)) _ wr (by omega) r) Zi vi;clear r Zi vi;go_wp2_with fail;refine bE dP λW dw=>?_;subst dw;clear dP;go_wp2_with fail;refine WU.o.mono ?_;rintro e X ⟨J,rfl,E7,sV,bz⟩;have kO:=bz.size;obtain⟨g2,bZ,w4,bC,Wn,dV⟩:=(Jb.o.later bz).adZ (b:=K) (g:=J) (c:=512) (by omega:w.heap.size<=J) sV ⟨Ag,Qu⟩ (by rw [Ap];omega) (by omega);rw [Ap,eF] at bC Wn;rw [<-A.o] at Wn;have fe:=(l9.o.trans (bz.mono Aa)).trans (dV.below (λi O=>Jb.o.lo i O) (by omega));obtain⟨L,ro⟩:=bL (aF Wn fe) bC;clear E7 sV bz bC Wn dV fe;go_wp2_with (at_builtin;refine bj rfl _ _ 127 rfl u7 (.slice (some (aD X.heap.size 0)) 1 1) _ rfl rfl ro.o ?_);go_roundw;case rel=>exact⟨j+1,K+1,ks ++ [K],by omega,by go_num,by congr 1;omega,by omega,by simp [eF],VB.o,L.o⟩
      case measure=>simp [intOf];omega
     .rw [aA G] at vi;have VB:=yh vi;have E:(K:Int)<=(f:Int)-1\/(¬(K:Int)<=(f:Int)-1/\(blocks:Int)<=(K:Int)):=by
       by_cases z:(K:Int)<=(f:Int)-1
       .exact .inl z
       .exact .inr ⟨z,by omega⟩
      clear G vi;rcases E with z|⟨z,t⟩;all_goals
       go_wp2_with fail;refine bE dP λW dw=>?_;subst dw;clear dP;go_wp2;go_ret2;exact⟨.inl ⟨VB.o,rfl⟩,l9.o⟩
    .have ZO:¬(j:Int)<(C:Int):=(by omega);obtain rfl:j=C:=(by omega);rw [KQ eF m.o] at vi;have VB:=yh vi;clear vi nr dO kP;go_wp2;go_ret2;exact⟨.inr ⟨_,_,VB.o,rfl,Jb.o⟩,l9.o⟩
  .have y:=yh (H6 (blocks:=blocks) (d:=d) (.inr (by
    by_cases z:1<=le (d.take 2)/\le (d.take 2)<=16
    .exact .inr (λe=>s ⟨by omega,by omega,by omega⟩)
    .exact .inl z)))
   have E:(C:Int)<1\/(¬(C:Int)<1/\(16:Int)<(C:Int))\/(¬(C:Int)<1/\¬(16:Int)<(C:Int)/\((n:Int) != 2+516*(C:Int))=true):=by
    by_cases H:(C:Int)<1
    .exact .inl H
    .by_cases t:(16:Int)<(C:Int)
     .exact .inr (.inl ⟨H,t⟩)
     .exact .inr (.inr ⟨H,t,by rw [fT];intro e;exact s ⟨by omega,by omega,by omega⟩⟩)
   clear q s p;rcases E with z|⟨z,t⟩|⟨z,t,z3⟩;all_goals
    go_in;go_wp2_with fail;refine bE C2 λw1 bN=>?_;subst bN;clear C2;go_wp2;go_ret2;exact⟨.inl ⟨y.o,rfl⟩,bi _ _⟩
end Go.Proofs.YtenlkgicpllbhaaGreat
