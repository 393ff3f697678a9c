import Derived.Test.YtcpdggdfihjhoaaGreatW01
import Derived.Test.YtcpdggdfihjhoaaGreatW05
import Derived.Test.YtcpdggdfihjhoaaGreatW06
import Derived.Test.YtcpdggdfihjhoaaGreatW07
import Derived.Test.YtcpdggdfihjhoaaGreatW08
import Derived.Deep.RegionWith
import Derived.Deep.RegionLaw
import Derived.Laws.BytesArg
import Derived.Defers
import Derived.Recover
set_option maxRecDepth 20000
set_option maxHeartbeats 8000000
set_option linter.all false
namespace Go.Proofs.YtcpdggdfihjhoaaGreat
open Go.Proofs.Tryz
open Go.RowKit Go.Maps
variable {cs:Array Value} {c:CM} {S':DS} {d l xs:List Int} {ks:List Nat} {blocks cap g g2 i k n p q:Nat} {F:Nat->Prop} {a:Option Addr} {E:Prop} {α:Type} {v:Value} {W w w0 w1 w2 wx:World}
section
section
variable {w w':World} {F X:Nat->Prop} {r s k kl t hm:Nat} {S:DS} {G:SG} {pv nv:Value} {ps:List (Nat×List Int)}
def Pl.shape (h:Pl w X v ps):(v= .slice none 0 0/\ps= [])\/∃g cap,v= .slice (some (aD g 0)) ps.length cap/\ps.length<=cap/\cap<=maxLen/\X g:=by
 obtain⟨xs,h⟩:=h;obtain⟨_,⟨e,c⟩|⟨g,cap,cur,e,_,_,a,b,_⟩⟩:=h.own
 .exact .inl ⟨e,List.length_eq_zero_iff.1 c⟩
 .exact .inr ⟨g,cap,e,a,b,h.row g (by rw [e];rfl)⟩
def aen (w:World) (X:Nat->Prop):PV w X (.slice none 0 0) ([]:List (Nat×List Int)):=(Pl.nil w X).pv
def PV.dropped (h:PV w X (.slice (some (aD g 0)) ps.length cap) ps) (b:hm<=ps.length) (d:ps.length<=cap):PV w X (.slice (if cap=hm then some (aD g 0) else some ⟨g,hm*2,none⟩) (ps.length-hm) (cap-hm)) (ps.drop hm):=by
 by_cases e:cap=hm
 .have a:ps.drop hm= []:=List.drop_eq_nil_of_le (by omega);rw [a];exact⟨⟨_,_,by rw [show ps.length-hm=([]:List (Nat×List Int)).length by simp;omega],λh0=>by simp at h0⟩,λq c=>by cases c⟩
 .rw [aB e];have:=h.drop hm b rfl (cap-hm);rwa [Nat.zero_add] at this
def PV.Sx (h:PV w X (.slice (some (aD g 0)) ps.length cap) ps) (c:hm<=ps.length) (a:ps.length<=cap) (b:¬cap=hm):PV w X (.slice (some ⟨g,hm*2,none⟩) (ps.length-hm) (cap-hm)) (ps.drop hm):=by
 have:=h.dropped c a;rwa [aB b] at this
def PV.Sy (h:PV w X (.slice (some (aD g 0)) ps.length hm) ps) (b:hm<=ps.length) (a:ps.length<=hm):PV w X (.slice (some (aD g 0)) 0 0) (ps.drop hm):=by
 have:=h.dropped b a;rwa [aG rfl,Nat.sub_self,Nat.sub_eq_zero_of_le a] at this
def Sz (b:w0.heap.size<=w1.heap.size) (hd:aC w2 (more F w1 w2) r s S'):aC w2 (more F w0 w2) r s S':=
 hd.mono (λk a=>a.imp id (λh=>⟨by omega,h.2⟩)) (λk a=>a.elim (λh=>hd.lt k (.inl h)) (λh=>h.2))
def KV (b:w0.heap.size<=w1.heap.size) (ev:w1.heap.size<=w2.heap.size) (hd:aC w2 (more (more F w0 w1) w1 w2) r s S'):aC w2 (more F w0 w2) r s S':=
 hd.mono (λk a=>by
  rcases a with (a|a)|a
  .exact .inl a
  .exact .inr ⟨a.1,by omega⟩
  .exact .inr ⟨by omega,a.2⟩) (λk a=>a.elim (λh=>hd.lt k (.inl (.inl h))) (λh=>h.2))
def aav (w:World) (F X:Nat->Prop) (r s k kl:Nat) (S:DS) (G:SG) (pv nv:Value) (ps:List (Nat×List Int)) (e:Ending) (w':World):Prop:=
 e= .returned (iV (G.check S s).1)/\aC w' (more F w w') r s (G.check S s).2.1/\(∃hm',iL w' (more F w w') X r s (G.check S s).2.1 k kl (G.check S s).2.2 pv ps hm' nv)/\aa (λj=>F j\/j=k\/j=kl) w w'
def iL.after (h:iL w F X r s S k kl G pv ps hm nv) (du:S.Ok s) {hm':Nat} (bw:lq w' k r kl G.y pv hm' nv) (v:hm'=if (G.check S s).1=0 then ps.length else hm) (Zf:cK w' kl r (G.check S s).2.2.L) (A7:(G.check S s).2.2.L.Ok s/\(G.check S s).2.2.L.begun=true) (i:aa (λj=>F j\/j=k\/j=kl) w w'):iL w' (more F w w') X r s (G.check S s).2.1 k kl (G.check S s).2.2 pv ps hm' nv:=by
 obtain⟨n,m,f,o,b,p,q,x,t⟩:=h.checked du;rw [<-v] at f;subst f;refine⟨by rw [b];exact bw,Zf,h.pl.aw i (λg e a=>?_) (λg c z u l a=>?_),h.xk,h.xl,λg d a=>?_,λg d=>i6 (h.lt g d) i.size,A7.1,A7.2,by rw [b];exact h.hs,by rw [b,p,q];exact h.lh,o,m,by rw [b];exact h.kb,by rw [b];exact t⟩
 .rcases a with a|a|a
  .exact h.fM g (h.pl.row g e) a
  .exact h.pl.ne e h.st (by decide) a
  .exact h.pl.ne e h.lp (by decide) a
 .rcases a with a|a|a
  .exact h.fM g u a
  .exact l.ne h.st (by decide) a
  .exact l.ne h.lp (by decide) a
 .rcases a with a|a
  .exact h.fM g d a
  .have:=h.lt g d;omega
def Aq (hd:aC w F r s S) (h:iL w F X r s S k kl G pv ps hm nv) (dC:S.fL) (fB:G.L.bj S=0->S.num G.L.f<=G.L.ep*4294967296+G.L.tail) (aU:S.puts.length+4000<=4000000000000) (Wg:ps.length<=4000000000000):
  Calls prog 78 #[pQ k] w λe w'=>aav w F X r s k kl S G pv nv ps e w':=by
 obtain⟨du,Wz,BT,X9,xA,jl⟩:=jF hd.ok h.lk h.lh h.hs h.lk.s h.lk.n1;have lC:=du.hi;have Ev:∀q∈G.ov,G.y.home+q.1<s/\q.2.length=512:=λq W=>by
  rw [h.ov] at W;have:=List.mem_of_mem_drop (eS W);exact⟨by have:=h.kb q this;omega,(h.pl.len q this).1⟩
 have UM:∀q∈G.ov,Bytes q.2:=λq W=>by
  rw [h.ov] at W;exact(h.pl.len q (List.mem_of_mem_drop (eS W))).2
 have Ys:G.ov.length<=2048:=by
  have uW:CM.Ok G.ov:=by rw [h.ov];exact mL _
  have D:=CM.length_le (n:=2048) uW (λq W=>by have:=(Ev q W).1;omega) 0 (λ_ _=>dV _);rcases D with D|D
  .omega
  .rw [D];simp
 obtain⟨a1,a2,a3⟩:=qD (L:=G.L) du;obtain⟨b1,b2,b3,b4,b5⟩:=eD (h0:=G.y.home) (ms:=G.ov) a1 Ev;have D:=CT hd h.lp (h.fM _ h.xl) (by omega);have hZp:=nK G.L S s;have hZb:=p7 dC G.L s;have hYp:=eF (G.L.sync S s).2 s G.y.home G.ov;have hYb:=ku hZb s G.y.home UM;have Z9:=Eo h.lk (aE (G.L.sync S s).2 s G.y.home G.ov).2;have Yt:(G.L.sync S s).1=0->(aE (G.L.sync S s).2 s G.y.home G.ov).2.num G.L.f<=G.L.ep*4294967296+G.L.tail:=λhz=>by
  have hu:G.L.bj S=0:=by
   unfold LG.sync at hz;split at hz
   .rename_i q;exact absurd hz q
   .rename_i q;exact Decidable.not_not.1 q
  rw [vN (S:=S) ((b5 _ (λq W e=>by omega)).trans (a3 _ (by omega))) ((b5 _ (λq W e=>by omega)).trans (a3 _ (by omega)))];exact fB hu
 have h2:=λ(w1:World) (iN:aC w1 F r s (G.L.sync S s).2) (v:Value) (hp:PV w1 X v (ps.drop hm))=>Ak (y:=G.y) iN hp h.fM X9 (λx hx=>h.kb x (List.mem_of_mem_drop hx)) (by omega) (by rw [List.length_drop];omega);have h3:=λ(hz:(G.L.sync S s).1=0) (w1:World) (F1:Nat->Prop) (iN:aC w1 F1 r s (aE (G.L.sync S s).2 s G.y.home G.ov).2) (cu:cK w1 kl r G.L) (jl:¬F1 kl)=>OE iN cu h.lk jl hYb (by omega) (λ_=>Yt hz);rw [<-h.ov] at h2;have jI:=λ(w':World) (hm':Nat)=>iL.after (w':=w') (hm':=hm') h du;obtain⟨R,I⟩:=bQ (G.check S s);unfold aav;rw [<-I] at jI⊢;unfold SG.check at I;obtain⟨vF,c1,H,mY,I9,pk,hlw,xR,mr⟩:=MZ h.bg h.st.c1 (yh h) (yh jI) h.kne h.st.lt h.lp.lt (h.fM _ h.xk) (h.fM _ h.xl);generalize G.L.sync S s=Z at*;generalize aE Z.2 s G.y.home G.ov=Y at*;generalize G.L.trim Y.2 s=V at*;obtain⟨H2,H3,E⟩:=kI h2 h3 Z9;clear h h2 h3 Z9 hZb hYb dC jI fB Yt Ev UM a1 a2 a3 b1 b2 b3 b4 b5 hd;by_cases k1:Z.1=0
 .have d1:(Z.1 == 0)=true:=by rw [k1];rfl
  rw [aB (λh=>h k1)] at I;have OF:=yh k1;clear k1;rcases H.o.pl.shape with ⟨xH,DG⟩|⟨gp,cap,xH,iZ,aqc,hXg⟩
  .have h0:=H.o.hm;rw [DG] at h0;obtain rfl:hm=0:=(by simpa using h0);subst xH DG;obtain⟨HP,Ex⟩:=bU (λ(w1:World) (_:aa F w w1)=>aen w1 X) I;clear I;go_in;go_wp2_with fail;refine pr D λw1 iN cu ff=>?_;have el:=H.o.st.aw ff xR;have dE:=ff.size;have pg:=HP.o w1 ff;obtain⟨K,M,N,O,P,Q,T⟩:=nA el.c0 el.c2 el.c3 el.c4 el.c5 el.c6 el.c7;have U:w1.cell? (aD k 8)=some (iV 0):=el.c8;have hb:=H2.o w1.drew (iN.later (ai (bi _ _))) _ (pg.later (ai (bi _ _)));have CG:=yh ff;have o7:=yh el;have BG:=yh cu;have HB:=yh hb;clear D iN cu ff el pg hb;go_wp2_with fail;go_region_held3 (λw'=>w'.cell? (aD k 0)=some (pQ r)/\w'.cell? (aD k 2)=some (iV (G.y.log:Int))/\w'.cell? (aD k 3)=some (iV (G.y.home:Int))/\w'.cell? (aD k 4)=some (iV (G.y.blocks:Int))/\w'.cell? (aD k 5)=some (iV (G.y.nodes:Int))/\w'.cell? (aD k 6)=some (iV (G.y.data:Int))/\w'.cell? (aD k 7)=some (.slice none 0 0)/\w'.cell? (aD k 8)=some (iV (0:Int)))
    (first|exact⟨K,M,N,O,P,Q,T,U⟩|exact⟨bo.c0,bo.c2,bo.c3,bo.c4,bo.c5,bo.c6,bo.c7,bo.c8⟩)
      ((go_at_call 124;refine HB.o.mono ?_;rintro e m ⟨rfl,cI,aY⟩;have bo:=(o7.o.later (ai (bi _ _))).aw aY xR;have fH:=(BG.o.later (ai (bi _ _))).aw aY mr))
   have pk:=(CG.o.trans (aa.ah F (ai (bi w1.heap.size w1))) (λ_ h=> .inl h)).trans aY (λ_ h=> .inl h);have uw:=Sz dE cI;by_cases l:Y.1=0
   .have d2:(Y.1 == 0)=true:=(by rw [l];rfl);have Yu:=yh l;clear l;have jl:¬more F w m kl:=λe=>e.elim mr (λe=>by omega);have SA:¬more F w m k:=λe=>e.elim xR (λe=>by omega);obtain⟨SB,c12,xC,SC⟩:=cO (H3.o OF.o m (more F w m) uw fH jl) bo.c1 (yh bo) (yh pk);clear cI aY bo fH pk uw K M N O P Q T U;go_wp2_with fail;refine pr SB λc i ip aZ=>?_;have lB:=aZ.size;have fK:=xC.o.aw aZ (λe=>e.elim SA I9);have qw:=KV SC.o.size lB i;have qx:=(SC.o.mono (λ_ h=> .inl h):aa (λj=>F j\/j=k\/j=kl) w m).trans aZ (λj b=>by rcases b with (b|b)|b;exact .inl (.inl b);exact .inr b.1;exact .inl (.inr (.inr b)));by_cases d:V.1=0
    .have d3:(V.1 == 0)=true:=(by rw [d];rfl);have a:=yh Ex.o;rw [aB (λh=>h Yu.o),aB (λh=>h d)] at a;have J:=yh d;clear d;have c73:=fK.c7;have c83:=fK.c8;have f83:=fK.fz 8;have ey:aa (λj=>j=k) c (c.setCell ⟨k,8,none⟩ (.int .i64 ((0:Nat):Int))):=aa.setCell (F:=λj=>j=k) c (p:=(aD k 8)) rfl _;have SD:¬more F w c k:=λe=>e.elim xR (λe=>by omega);have C:=qw.aw ey (λj b e=>SD (e▸b));have ee:(c.setCell ⟨k,8,none⟩ (.int .i64 ((0:Nat):Int))).heap.size=c.heap.size:=(by simp [World.setCell]);have Hu:aC (c.setCell ⟨k,8,none⟩ (.int .i64 ((0:Nat):Int))) (more F w (c.setCell ⟨k,8,none⟩ (.int .i64 ((0:Nat):Int)))) r s V.2.1:=(by unfold more;rw [ee];exact C);have z:=yh (aH Hu (aH (ip.aw ey (λe=>I9 e.symm)) (aH (fK.home 0) (qx.trans ey (λ_ h=> .inl (.inr (.inl h)))))));clear i aZ fK ip qx qw SB ey C Hu ee;go_wp2;go_ret;obtain⟨t,A,u,g⟩:=z.o;exact⟨by rw [a.o];exact congrArg (λx=>Ending.returned (Value.int .i64 x)) J.o,by rw [a.o];exact t,⟨0,mY.o _ 0 u (by rw [a.o,aG rfl];rfl) (by rw [a.o];exact A) (by rw [a.o];exact⟨E.o.1,E.o.2.trans vF⟩) g⟩,g⟩
    .have d3:(V.1 == 0)=false:=(by rw [fJ];exact d);have a:=yh Ex.o;rw [aB (λh=>h Yu.o),aG d] at a;have lS:=yh d;clear d;have z:=yh (aH qw (aH ip (aH fK qx)));clear i aZ fK ip qx qw SB;go_wp2;go_ret;obtain⟨t,A,u,g⟩:=z.o;exact⟨by rw [a.o];rfl,by rw [a.o];exact t,⟨0,mY.o c 0 u (by rw [a.o,aB lS.o]) (by rw [a.o];exact A) (by rw [a.o];exact⟨E.o.1,E.o.2.trans vF⟩) g⟩,g⟩
   .have d2:(Y.1 == 0)=false:=(by rw [fJ];exact l);have a:=yh Ex.o;rw [aG l] at a;have ig:=yh l;clear l;have z:=yh (aH uw (aH fH (aH bo pk)));clear cI aY bo fH pk uw K M N O P Q T U;go_wp2;go_ret;obtain⟨t,A,u,g⟩:=z.o;have qx:aa (λj=>F j\/j=k\/j=kl) w m:=g.mono (λ_ h=> .inl h);exact⟨by rw [a.o];rfl,by rw [a.o];exact t,⟨0,mY.o m 0 u (by rw [a.o,aB ig.o]) (by rw [a.o];exact A) (by rw [a.o];exact⟨Wz,vF⟩) qx⟩,qx⟩
  .subst xH;have B9:=H.o.hm;by_cases hce:cap=hm
   .obtain rfl:hm=cap:=hce.symm;obtain⟨HP,Ex⟩:=bU (λ(w1:World) (ff:aa F w w1)=>PV.Sy (H.o.pl.pv.aw ff H.o.fM) B9 iZ) I;clear I;go_in;go_wp2_with fail;refine pr D λw1 iN cu ff=>?_;have el:=H.o.st.aw ff xR;have dE:=ff.size;have pg:=HP.o w1 ff;obtain⟨K,M,N,O,P,Q,T,U,hb,CG,o7,BG⟩:=FE el.c0 el.c2 el.c3 el.c4 el.c5 el.c6 el.c7 el.c8 (H2.o w1.drew (iN.later (ai (bi _ _))) _ (pg.later (ai (bi _ _)))) (yh ff) (yh el) (yh cu);have HB:=yh hb;clear D iN cu ff el pg hb;go_wp2_with fail;go_region_held3 (λw'=>w'.cell? (aD k 0)=some (pQ r)/\w'.cell? (aD k 2)=some (iV (G.y.log:Int))/\w'.cell? (aD k 3)=some (iV (G.y.home:Int))/\w'.cell? (aD k 4)=some (iV (G.y.blocks:Int))/\w'.cell? (aD k 5)=some (iV (G.y.nodes:Int))/\w'.cell? (aD k 6)=some (iV (G.y.data:Int))/\w'.cell? (aD k 7)=some (.slice (some (aD gp 0)) ps.length hm)/\w'.cell? (aD k 8)=some (iV (hm:Int)))
     (first|exact⟨K,M,N,O,P,Q,T,U⟩|exact⟨bo.c0,bo.c2,bo.c3,bo.c4,bo.c5,bo.c6,bo.c7,bo.c8⟩)
       ((go_at_call 124;refine HB.o.mono ?_;rintro e m ⟨rfl,cI,aY⟩;have bo:=(o7.o.later (ai (bi _ _))).aw aY xR;have fH:=(BG.o.later (ai (bi _ _))).aw aY mr))
    have pk:=(CG.o.trans (aa.ah F (ai (bi w1.heap.size w1))) (λ_ h=> .inl h)).trans aY (λ_ h=> .inl h);have uw:=Sz dE cI;by_cases l:Y.1=0
    .have d2:(Y.1 == 0)=true:=(by rw [l];rfl);have Yu:=yh l;clear l;have jl:¬more F w m kl:=λe=>e.elim mr (λe=>by omega);have SA:¬more F w m k:=λe=>e.elim xR (λe=>by omega);obtain⟨SB,c12,xC,SC⟩:=cO (H3.o OF.o m (more F w m) uw fH jl) bo.c1 (yh bo) (yh pk);clear cI aY bo fH pk uw K M N O P Q T U;go_wp2_with fail;refine pr SB λc i ip aZ=>?_;have lB:=aZ.size;have fK:=xC.o.aw aZ (λe=>e.elim SA I9);have qw:=KV SC.o.size lB i;have qx:=(SC.o.mono (λ_ h=> .inl h):aa (λj=>F j\/j=k\/j=kl) w m).trans aZ (λj b=>by rcases b with (b|b)|b;exact .inl (.inl b);exact .inr b.1;exact .inl (.inr (.inr b)));by_cases d:V.1=0
     .have d3:(V.1 == 0)=true:=(by rw [d];rfl);have a:=yh Ex.o;rw [aB (λh=>h Yu.o),aB (λh=>h d)] at a;have J:=yh d;clear d;have c73:=fK.c7;have c83:=fK.c8;have f83:=fK.fz 8;have ey:aa (λj=>j=k) c (c.setCell ⟨k,8,none⟩ (.int .i64 (ps.length:Int))):=aa.setCell (F:=λj=>j=k) c (p:=(aD k 8)) rfl _;have SD:¬more F w c k:=λe=>e.elim xR (λe=>by omega);have C:=qw.aw ey (λj b e=>SD (e▸b));have ee:(c.setCell ⟨k,8,none⟩ (.int .i64 (ps.length:Int))).heap.size=c.heap.size:=(by simp [World.setCell]);have Hu:aC (c.setCell ⟨k,8,none⟩ (.int .i64 (ps.length:Int))) (more F w (c.setCell ⟨k,8,none⟩ (.int .i64 (ps.length:Int)))) r s V.2.1:=(by unfold more;rw [ee];exact C);have z:=yh (aH Hu (aH (ip.aw ey (λe=>I9 e.symm)) (aH (fK.home ps.length) (qx.trans ey (λ_ h=> .inl (.inr (.inl h)))))));clear i aZ fK ip qx qw SB ey C Hu ee;go_wp2;go_ret;obtain⟨t,A,u,g⟩:=z.o;exact⟨by rw [a.o];exact congrArg (λx=>Ending.returned (Value.int .i64 x)) J.o,by rw [a.o];exact t,⟨ps.length,mY.o _ ps.length u (by rw [a.o,aG rfl]) (by rw [a.o];exact A) (by rw [a.o];exact⟨E.o.1,E.o.2.trans vF⟩) g⟩,g⟩
     .have d3:(V.1 == 0)=false:=(by rw [fJ];exact d);have a:=yh Ex.o;rw [aB (λh=>h Yu.o),aG d] at a;have lS:=yh d;clear d;have z:=yh (aH qw (aH ip (aH fK qx)));clear i aZ fK ip qx qw SB;go_wp2;go_ret;obtain⟨t,A,u,g⟩:=z.o;exact⟨by rw [a.o];rfl,by rw [a.o];exact t,⟨hm,mY.o c hm u (by rw [a.o,aB lS.o]) (by rw [a.o];exact A) (by rw [a.o];exact⟨E.o.1,E.o.2.trans vF⟩) g⟩,g⟩
    .have d2:(Y.1 == 0)=false:=(by rw [fJ];exact l);have a:=yh Ex.o;rw [aG l] at a;have ig:=yh l;clear l;have z:=yh (aH uw (aH fH (aH bo pk)));clear cI aY bo fH pk uw K M N O P Q T U;go_wp2;go_ret;obtain⟨t,A,u,g⟩:=z.o;have qx:aa (λj=>F j\/j=k\/j=kl) w m:=g.mono (λ_ h=> .inl h);exact⟨by rw [a.o];rfl,by rw [a.o];exact t,⟨hm,mY.o m hm u (by rw [a.o,aB ig.o]) (by rw [a.o];exact A) (by rw [a.o];exact⟨Wz,vF⟩) qx⟩,qx⟩
   .obtain⟨HP,Ex⟩:=bU (λ(w1:World) (ff:aa F w w1)=>PV.Sx (H.o.pl.pv.aw ff H.o.fM) B9 iZ hce) I;clear I;go_in;go_wp2_with fail;refine pr D λw1 iN cu ff=>?_;have el:=H.o.st.aw ff xR;have dE:=ff.size;have pg:=HP.o w1 ff;obtain⟨K,M,N,O,P,Q,T,U,hb,CG,o7,BG⟩:=FE el.c0 el.c2 el.c3 el.c4 el.c5 el.c6 el.c7 el.c8 (H2.o w1.drew (iN.later (ai (bi _ _))) _ (pg.later (ai (bi _ _)))) (yh ff) (yh el) (yh cu);have HB:=yh hb;clear D iN cu ff el pg hb;go_wp2_with fail;go_region_held3 (λw'=>w'.cell? (aD k 0)=some (pQ r)/\w'.cell? (aD k 2)=some (iV (G.y.log:Int))/\w'.cell? (aD k 3)=some (iV (G.y.home:Int))/\w'.cell? (aD k 4)=some (iV (G.y.blocks:Int))/\w'.cell? (aD k 5)=some (iV (G.y.nodes:Int))/\w'.cell? (aD k 6)=some (iV (G.y.data:Int))/\w'.cell? (aD k 7)=some (.slice (some (aD gp 0)) ps.length cap)/\w'.cell? (aD k 8)=some (iV (hm:Int)))
     (first|exact⟨K,M,N,O,P,Q,T,U⟩|exact⟨bo.c0,bo.c2,bo.c3,bo.c4,bo.c5,bo.c6,bo.c7,bo.c8⟩)
       ((go_at_call 124;refine HB.o.mono ?_;rintro e m ⟨rfl,cI,aY⟩;have bo:=(o7.o.later (ai (bi _ _))).aw aY xR;have fH:=(BG.o.later (ai (bi _ _))).aw aY mr))
    have pk:=(CG.o.trans (aa.ah F (ai (bi w1.heap.size w1))) (λ_ h=> .inl h)).trans aY (λ_ h=> .inl h);have uw:=Sz dE cI;by_cases l:Y.1=0
    .have d2:(Y.1 == 0)=true:=(by rw [l];rfl);have Yu:=yh l;clear l;have jl:¬more F w m kl:=λe=>e.elim mr (λe=>by omega);have SA:¬more F w m k:=λe=>e.elim xR (λe=>by omega);obtain⟨SB,c12,xC,SC⟩:=cO (H3.o OF.o m (more F w m) uw fH jl) bo.c1 (yh bo) (yh pk);clear cI aY bo fH pk uw K M N O P Q T U;go_wp2_with fail;refine pr SB λc i ip aZ=>?_;have lB:=aZ.size;have fK:=xC.o.aw aZ (λe=>e.elim SA I9);have qw:=KV SC.o.size lB i;have qx:=(SC.o.mono (λ_ h=> .inl h):aa (λj=>F j\/j=k\/j=kl) w m).trans aZ (λj b=>by rcases b with (b|b)|b;exact .inl (.inl b);exact .inr b.1;exact .inl (.inr (.inr b)));by_cases d:V.1=0
     .have d3:(V.1 == 0)=true:=(by rw [d];rfl);have a:=yh Ex.o;rw [aB (λh=>h Yu.o),aB (λh=>h d)] at a;have J:=yh d;clear d;have c73:=fK.c7;have c83:=fK.c8;have f83:=fK.fz 8;have ey:aa (λj=>j=k) c (c.setCell ⟨k,8,none⟩ (.int .i64 (ps.length:Int))):=aa.setCell (F:=λj=>j=k) c (p:=(aD k 8)) rfl _;have SD:¬more F w c k:=λe=>e.elim xR (λe=>by omega);have C:=qw.aw ey (λj b e=>SD (e▸b));have ee:(c.setCell ⟨k,8,none⟩ (.int .i64 (ps.length:Int))).heap.size=c.heap.size:=(by simp [World.setCell]);have Hu:aC (c.setCell ⟨k,8,none⟩ (.int .i64 (ps.length:Int))) (more F w (c.setCell ⟨k,8,none⟩ (.int .i64 (ps.length:Int)))) r s V.2.1:=(by unfold more;rw [ee];exact C);have z:=yh (aH Hu (aH (ip.aw ey (λe=>I9 e.symm)) (aH (fK.home ps.length) (qx.trans ey (λ_ h=> .inl (.inr (.inl h)))))));clear i aZ fK ip qx qw SB ey C Hu ee;go_wp2;go_ret;obtain⟨t,A,u,g⟩:=z.o;exact⟨by rw [a.o];exact congrArg (λx=>Ending.returned (Value.int .i64 x)) J.o,by rw [a.o];exact t,⟨ps.length,mY.o _ ps.length u (by rw [a.o,aG rfl]) (by rw [a.o];exact A) (by rw [a.o];exact⟨E.o.1,E.o.2.trans vF⟩) g⟩,g⟩
     .have d3:(V.1 == 0)=false:=(by rw [fJ];exact d);have a:=yh Ex.o;rw [aB (λh=>h Yu.o),aG d] at a;have lS:=yh d;clear d;have z:=yh (aH qw (aH ip (aH fK qx)));clear i aZ fK ip qx qw SB;go_wp2;go_ret;obtain⟨t,A,u,g⟩:=z.o;exact⟨by rw [a.o];rfl,by rw [a.o];exact t,⟨hm,mY.o c hm u (by rw [a.o,aB lS.o]) (by rw [a.o];exact A) (by rw [a.o];exact⟨E.o.1,E.o.2.trans vF⟩) g⟩,g⟩
    .have d2:(Y.1 == 0)=false:=(by rw [fJ];exact l);have a:=yh Ex.o;rw [aG l] at a;have ig:=yh l;clear l;have z:=yh (aH uw (aH fH (aH bo pk)));clear cI aY bo fH pk uw K M N O P Q T U;go_wp2;go_ret;obtain⟨t,A,u,g⟩:=z.o;have qx:aa (λj=>F j\/j=k\/j=kl) w m:=g.mono (λ_ h=> .inl h);exact⟨by rw [a.o];rfl,by rw [a.o];exact t,⟨hm,mY.o m hm u (by rw [a.o,aB ig.o]) (by rw [a.o];exact A) (by rw [a.o];exact⟨Wz,vF⟩) qx⟩,qx⟩
 .have d1:(Z.1 == 0)=false:=by rw [fJ];exact k1
  rw [aG k1] at I;obtain⟨a,CG⟩:=bU I k1;clear k1 I;go_in;go_wp2_with fail;refine pr D λw1 iN cu ff=>?_;have z:=yh (aH iN (aH cu ff));clear D iN cu ff;go_wp2;go_ret;obtain⟨t,A,u⟩:=z.o;have aY:aa (λj=>F j\/j=k\/j=kl) w w1:=u.mono (λ_ h=> .inl h);refine⟨by rw [a.o];rfl,by rw [a.o];exact t.mono (λ_ h=> .inl h) (λj b=>by rcases b with b|b;exact t.lt j b;exact b.2),⟨hm,mY.o w1 hm (H.o.st.aw u xR) (by rw [a.o,aB CG.o]) (by rw [a.o];exact A) (by rw [a.o];exact⟨Wz,vF⟩) aY⟩,aY⟩
end
end
section
def ux (m n:Nat) (w:World) (j:m<=9223372036854775807) (o:n<=8):
  Calls prog 141 #[iV (m:Int),iV (n:Int)] w λe w'=>∃v,e= .returned v/\Own w' w.heap.size v (bB n m)/\bW w w':=by
 go_in;go_wp2;go_loopw [0,5,6] (λx v i wr=>∃k:Nat,k<=n/\x=iV ((m / 2 ^ (8*k):Nat):Int)/\i=iV (k:Int)/\Own wr w.heap.size v (bB k m)/\bW w wr) (λ_ _ i _=>n-(intOf i).toNat);case atStart=>exact⟨0,dV _,by simp,rfl,Own.nil _ _,bi _ _⟩
 case round=>
  obtain⟨k,l,rfl,rfl,aA,ew⟩:=hrel;obtain⟨bt,a,p,f⟩:=cO aA ew ew.size (aK k m);clear aA ew;by_cases bq:k<n
  .have cC:(k:Int)<(n:Int):=(by omega);have g:m / 2 ^ (8*k)<=9223372036854775807:=j4 (Nat.div_le_self _ _) j;have c:m / 2 ^ (8*(k+1))=m / 2 ^ (8*k) / 256:=(by rw [Nat.div_div_eq_div_mul,Nat.mul_succ,Nat.pow_add]);have Jl:=c;have PN:=i8 k m;clear c;obtain⟨Q,d⟩:=bQ (m / 2 ^ (8*k));rw [<-d] at g Jl PN⊢;clear d;have q:(Q:Int).tmod 256=((Q%256:Nat):Int):=(by rw [Int.tmod_eq_emod_of_nonneg (by omega)];omega);have r:(Q:Int).tdiv 256=((Q / 256:Nat):Int):=(by rw [Int.tdiv_eq_ediv_of_nonneg (by omega)];omega);go_wp2_with (at_builtin;refine co rfl _ _ rfl w.heap.size u5 (bB k m) _ rfl rfl bt ?b1 ?b2 ?_);case b1=>omega
   case b2=>omega
   intro s w1 tN ar;have b:=(aH tN (a.trans ar));clear tN ar;go_wp2;go_roundw;case rel=>exact⟨k+1,by omega,by rw [Jl];first|rfl|simp,by go_num,by rw [PN];exact b.1,b.2⟩
   case measure=>simp [intOf];omega
  .obtain rfl:k=n:=(by omega);have wq:¬(k:Int)<(k:Int):=(by omega);go_wp2;go_ret;exact⟨_,rfl,bt,a⟩
section
variable {w w' w1 w2:World} {F F' X X' Y Z:Nat->Prop} {r s k kl t hm:Nat} {S:DS} {G:SG} {T:TG} {L:LG} {v u pv pv' nv tv:Value} {ps qs us:List (Nat×List Int)} {xs ys:List Value}
def PL.one (h:PL w X v ps xs):∀x∈xs,x.oneCell'=true:=λx e=>by
 have I7:=h.own.1;obtain⟨j,d,rfl⟩:=List.mem_iff_getElem.1 e;obtain⟨g,c,a,b,_⟩:=h.put (j / 2) (by omega);by_cases q:j%2=0
 .have:2*(j / 2)=j:=by omega
  rw [this,List.getElem?_eq_getElem d] at a;rw [Option.some.inj a];rfl
 .have:2*(j / 2)+1=j:=by omega
  rw [this,List.getElem?_eq_getElem d] at b;rw [Option.some.inj b];rfl
def PL.cat (h:PL w X v ps xs) (p:PL w Y u qs ys) {cq:Nat} (aA:w2.ownsRow 0 167 2 (.slice (some (aD g2 0)) (ps.length+qs.length) cq) (ps.length+qs.length) (xs ++ ys)) (aR:w.grownBy w2 v.ownBlock) (r:∀j,X j->Z j) (s:∀i (_:i<qs.length) g c,ys[2*i+1]? =some (.slice (some (aD g 0)) 512 c)->Z g) (t:Z g2):
  PL w2 Z (.slice (some (aD g2 0)) (ps.length+qs.length) cq) (ps ++ qs) (xs ++ ys)/\aa (λj=>v.ownBlock=some j) w w2:=by
 have b:=λj a n=>aR.block j a n;have Mw:∀j c ys,ay w 5 j c ys->ay w2 5 j c ys:=λj c ys a=>by
  have A6:=a;obtain⟨cur,gX,_⟩:=A6;exact a.agree (b j a.lt (λe=>dS h.own e.symm gX (by decide) rfl))
 have I7:=h.own.1;refine⟨⟨by rw [ed];exact aA,λj a=>?_,λi x=>?_,λq d=>?_⟩,⟨aR.os,aR.tape,aR.output,aR.size,λj a n=>b j a (λe=>n e.symm)⟩⟩
 .have e:j=g2:=by simpa [Value.ownBlock] using a.symm
  rw [e];exact t
 .by_cases nC:i<ps.length
  .obtain⟨k,c',l,f,o,m⟩:=h.put i nC;refine⟨k,c',?_,?_,r _ o,?_⟩
   .rw [List.getElem?_append_left (by omega),l,List.getElem_append_left nC]
   .rw [List.getElem?_append_left (by omega),f]
   .rw [List.getElem_append_left nC];exact Mw _ _ _ m
  .have Fq:i-ps.length<qs.length:=(by rw [ed] at x;omega);obtain⟨k,c',l,f,o,m⟩:=p.put (i-ps.length) Fq;refine⟨k,c',?_,?_,s _ Fq k c' f,?_⟩
   .rw [List.getElem?_append_right (by omega),show 2*i-xs.length=2*(i-ps.length) by omega,l,List.getElem_append_right (by omega)]
   .rw [List.getElem?_append_right (by omega),show 2*i+1-xs.length=2*(i-ps.length)+1 by omega,f]
   .rw [List.getElem_append_right (by omega)];exact Mw _ _ _ m
 .rcases List.mem_append.1 d with d|d
  .exact h.len q d
  .exact p.len q d
def OH (L:LG) (S:DS) (s:Nat) (d:List Int):(L.append S s d).2.2.f=L.f/\(L.append S s d).2.2.n=L.n:=by
 unfold LG.append;split
 .exact⟨rfl,rfl⟩
 .split <;> exact⟨rfl,rfl⟩
def iL.SE (h:iL w F X r s S k kl G pv ps hm nv) (du:S.Ok s) (d:List Int) {ns:CM} (xR:∀x∈ns,x.1<G.y.blocks) (bw:lq w' k r kl G.y pv' hm nv) (Zf:cK w' kl r (G.L.append S s d).2.2) (pC:Pl w' X' pv' (ps ++ ns)) (e:∀g,X g->X' g) (aaw:∀g,X' g->¬F' g) (bq:∀g,X' g->g<w'.heap.size) (b:Bool):
  iL w' F' X' r s (G.L.append S s d).2.1 k kl {G with L:=(G.L.append S s d).2.2,ov:=CM.bT G.ov ns,busy:=b} pv' (ps ++ ns) hm nv:=by
 obtain⟨A7,j,o,v,p,q⟩:=jF (vG h.lk S d) (OH G.L S s d) h.lk.s h.lk.n1 h.lh h.hs;have lU:=Ap du (by omega:1<=G.L.n) o d;have uW:CM.Ok G.ov:=by rw [h.ov];exact mL _
 refine⟨bw,Zf,pC,e _ h.xk,e _ h.xl,aaw,bq,A7.1,A7.2.trans h.bg,q,?_,?_,?_,λx a=>?_,λhd b t u c i=>?_⟩
 .show (G.L.append S s d).2.2.f+2+(G.L.append S s d).2.2.n<=G.y.home;rw [j.1,j.2];exact p
 .show CM.bT G.ov ns=_;rw [List.drop_append_of_le_length h.hm,qh,<-h.ov]
 .rw [ed];have:=h.hm;omega
 .rcases List.mem_append.1 a with a|a
  .exact h.kb x a
  .exact xR x a
 .have yI:=OG d hd;have RE:CM.get (CM.bT G.ov ns) b=none:=u;rw [CO b uW] at RE;obtain⟨l,m⟩:=Option.or_eq_none_iff.1 RE;rw [mc,l] at i;show (G.L.append S s d).2.1.now (G.y.home+b)=c;rw [lU.2 _ (by omega)];exact h.un yI b t m c i
def iL.busy (h:iL w F X r s S k kl G pv ps hm nv) (b:Bool):iL w F X r s S k kl {G with busy:=b} pv ps hm nv:=⟨h.st,h.lp,h.pl,h.xk,h.xl,h.fM,h.lt,h.lk,h.bg,h.hs,h.lh,h.ov,h.hm,h.kb,h.un⟩
end
end
section
def KW (T:TG) (G:SG) (S:DS) (b:Nat):CM:=(below T.puts b).filter λx=> !decide (x.2=G.block S x.1)
section
variable {T:TG} {G:SG} {S:DS} {b:Nat} {l:List Int}
def SF:KW T G S 0= []:=by unfold KW;rw [sN];rfl
def SH (a:CM.Ok T.puts) (h:CM.get T.puts b=none):KW T G S (b+1)=KW T G S b:=by unfold KW;rw [sL a h]
def SI (c:CM.Ok T.puts) (h:CM.get T.puts b=some l) (a:l=G.block S b):KW T G S (b+1)=KW T G S b:=by
 unfold KW;rw [sM c h,List.filter_append];simp [a]
def WA (c:CM.Ok T.puts) (h:CM.get T.puts b=some l) (a:¬l=G.block S b):KW T G S (b+1)=KW T G S b ++ [(b,l)]:=by
 unfold KW;rw [sM c h,List.filter_append];simp [a]
def WB (h:∀q∈T.puts,q.1<n):KW T G S n=T.news G S:=by unfold KW TG.news;rw [CP h]
def WC:(KW T G S b).length<=T.puts.length:=j4 (List.length_filter_le _ _) (List.length_filter_le _ _)
def Dt {β:Type} (f:α->List β) (ns:List α) (a:i<ns.length):(ns.take (i+1)).flatMap f=(ns.take i).flatMap f ++ f ns[i]:=by
 rw [List.take_add_one,List.getElem?_eq_getElem a,List.flatMap_append];congr 1;simp
end
def Own.lo {w:World} {B:Nat} {l:List Int} (h:Own w B v l) (a:v.ownBlock=some g):B<=g/\∃cur,w.heap[g]? =some (.cells cur 5 (0,0)):=by
 obtain⟨_,⟨rfl,_⟩|⟨e,b,cur,rfl,d,c,_⟩⟩:=h
 .simp [Value.ownBlock] at a
 .simp [Value.ownBlock] at a;subst a;exact⟨d,cur,c⟩
def Pn.beside {w w':World} {X:Nat->Prop} {B:Nat} {u:Value} {ps:List (Nat×List Int)} {l:List Int} (h:Pn w X B v ps) (f:Own w B u l) (i:∀g,X g->g<B) (k:aa (λj=>u.ownBlock=some j) w w'):Pn w' X B v ps:=by
 refine h.aw k (λg e b=>?_) (λg c n a m b=>?_)
 .obtain⟨_,cur,d⟩:=f.lo b;exact h.pl.ne e d (by decide) rfl
 .rcases a with a|a
  .have:=(f.lo b).1;have:=i g a;omega
  .obtain⟨_,cur,d⟩:=f.lo b;exact h.pl.ne a d (by decide) rfl
def Own.aw {w w':World} {B:Nat} {l:List Int} {Z:Nat->Prop} (h:Own w B v l) (a:aa Z w w') (b:∀g,v.ownBlock=some g->¬Z g):Own w' B v l:=
 aF h (λg e=>a.block g (qt h e) (b g e))
def Hv {B:Nat} {i:List Int} (aA:Own W B v i) (c:Nat) (r:Src W a n d) (hd:0<n) (f:i.length+n<=1000000) (o:B<=W.heap.size):
  ∃v' w',(Builtin.append_ #[36,36] 36 #[v, .slice a n c]).run prog W= .ok v' w'/\Own w' B v' (i ++ d)/\aa (λj=>v.ownBlock=some j) W w':=by
 obtain⟨g,l,w',m,k,b,_⟩:=qX aA c r hd f o;refine⟨_,w',m,?_,⟨b.os,b.tape,b.output,b.size,λj p q=>b.block j p (λe=>q e.symm)⟩⟩;rw [<-iQ] at k;have e:i.length+d.length=(i ++ d).length:=by simp
 unfold Own;rw [e] at k⊢;exact k
def il (w:World) (F X:Nat->Prop) (r s k kl t:Nat) (pv tv nv:Value) (ps us:List (Nat×List Int)) (R:Int×DS×SG×TG) (e:Ending) (w':World):Prop:=
 ∃(F' X':Nat->Prop) (pv':Value) (ps':List (Nat×List Int)) (hm':Nat),e= .returned (iV R.1)/\(∀j,F' j->more F w w' j)/\(∀j,X' j->more X w w' j)/\(∀j,X j->X' j)/\aC w' F' r s R.2.1/\iL w' F' X' r s R.2.1 k kl R.2.2.1 pv' ps' hm' nv/\oj w' X' k t R.2.2.1 R.2.2.2 tv us/\(ps'.length<=ps.length+us.length/\(R.2.2.2.ended=false->ps'=ps))/\(pv'.ownBlock=pv.ownBlock\/∀g,pv'.ownBlock=some g->w.heap.size<=g)/\aa (λj=>F j\/j=k\/j=kl\/j=t\/pv.ownBlock=some j) w w'
section
variable {w w' w5 w6 w7:World} {F F5 X:Nat->Prop} {r s k kl t hm xZ g2 cq:Nat} {S S5:DS} {G G5:SG} {T:TG} {pv nv tv lv:Value} {ps us:List (Nat×List Int)} {ns:CM} {xs ys:List Value}
def oj.asked (h:iL w F X r s S k kl G pv ps hm nv) (b:oj w X k t G T tv us) (l:aa (λj=>F j\/j=k\/j=kl) w w'):oj w' X k t G T tv us:=by
 refine⟨b.tx.aw l (λa=>?_),b.xt,b.pl.aw l (λg e a=>?_) (λg c o n m a=>?_),b.nd,b.pu,b.kb,b.Em⟩
 .obtain⟨d,f,i⟩:=kH b.tx h.st h.lp;unfold nw at d;unfold lq at f;unfold cK at i;rcases a with a|a|a
  .exact h.fM t b.xt a
  .rw [a,f] at d;simp at d
  .rw [a,i] at d;simp at d
 .rcases a with a|a|a
  .exact h.fM g (b.pl.row g e) a
  .exact b.pl.ne e h.st (by decide) a
  .exact b.pl.ne e h.lp (by decide) a
 .rcases a with a|a|a
  .exact h.fM g n a
  .exact m.ne h.st (by decide) a
  .exact m.ne h.lp (by decide) a
def Pn.asked {B:Nat} (h:iL w F X r s S k kl G pv ps hm nv) (f:∀j,F j->j<B) (m:k<B/\kl<B) (d:Pn w X B lv ns) (l:aa (λj=>F j\/j=k\/j=kl) w w'):Pn w' X B lv ns:=by
 refine d.aw l (λg e a=>?_) (λg c n b i a=>?_)
 .have:=d.lo g e;rcases a with a|a|a
  .have:=f g a;omega
  .omega
  .omega
 .rcases b with b|b
  .rcases a with a|a|a
   .exact h.fM g b a
   .exact i.ne h.st (by decide) a
   .exact i.ne h.lp (by decide) a
  .have:=d.lo g b;rcases a with a|a|a
   .have:=f g a;omega
   .omega
   .omega
def il.fail (h:iL w F X r s S k kl G pv ps hm nv) (g:oj w X k t G T tv us) (c:T.ended=false) (f:∀j,F5 j->more F w w' j) (hd:aC w' F5 r s S5) (e:iL w' F5 X r s S5 k kl G5 pv ps xZ nv) (i:G5.y=G.y) (d:aa (λj=>F j\/j=k\/j=kl) w w') (x:Int):il w F X r s k kl t pv tv nv ps us (x,S5,G5,T) (.returned (iV x)) w':=by
 have a:=oj.asked h g d;exact⟨F5,X,pv,ps,xZ,rfl,f,λ_ h=> .inl h,λ_ h=>h,hd,e,⟨a.tx,a.xt,a.pl,a.nd,a.pu,by rw [i];exact a.kb,a.Em⟩,⟨by omega,λ_=>rfl⟩, .inl rfl,d.mono (λj b=>by rcases b with b|b|b;exact .inl b;exact .inr (.inl b);exact .inr (.inr (.inl b)))⟩
def il.done (h:iL w F X r s S k kl G pv ps hm nv) (v:oj w X k t G T tv us) (Jj:∀g,pv.ownBlock=some g->tv.ownBlock≠some g)
    (n:iL w5 F5 X r s S5 k kl G5 pv ps xZ nv) (I:G5.y=G.y) (aay:S5.Ok s) (qv:∀j,F5 j->more F w w5 j) (dX:aa (λj=>F j\/j=k\/j=kl) w w5) (d:List Int)
    (pI:aC w6 (more F5 w5 w6) r s (G5.L.append S5 s d).2.1) (MM:cK w6 kl r (G5.L.append S5 s d).2.2) (jE:aa (λj=>F5 j\/j=kl) w5 w6)
    (oH:PL w6 X pv ps xs) (WD:PL w6 (λj=>X j\/lv.ownBlock=some j) lv ns ys) (D:∀i (_:i<ns.length) g c,ys[2*i+1]? =some (.slice (some (aD g 0)) 512 c)->X g) (xR:∀x∈ns,x.1<G.y.blocks) (mr:ns.length<=us.length)
    (aA:w7.ownsRow 0 167 2 (.slice (some (aD g2 0)) (ps.length+ns.length) cq) (ps.length+ns.length) (xs ++ ys)) (aR:w6.grownBy w7 pv.ownBlock) (is:pv.ownBlock=some g2\/g2=w6.heap.size):
  w7.heap[k]? =w6.heap[k]?/\w7.heap[t]? =w6.heap[t]?/\w6.heap[t]? =w.heap[t]?/\lq w6 k r kl G5.y pv xZ nv/\k≠t/\
  il w F X r s k kl t pv tv nv ps us (0,(G5.L.append S5 s d).2.1,{G5 with L:=(G5.L.append S5 s d).2.2,ov:=CM.bT G5.ov ns,busy:=false},T.close) (.returned (iV 0)) ((w7.setCell ⟨k,7,none⟩ (.slice (some ⟨g2,0,none⟩) (ps.length+ns.length) cq)).setCell ⟨t,2,none⟩ (.bool true)):=by
 obtain⟨l,pR,RF,KX⟩:=cO (oj.asked h v dX) dX.size jE.size (n.st.aw jE (λe=>e.elim (n.fM _ n.xk) n.kne));have Hw:oj w6 X k t G5 T tv us:=by
  have:=oj.asked (G:=G5) n ⟨l.tx,l.xt,l.pl,l.nd,l.pu,by rw [I];exact l.kb,l.Em⟩ (w':=w6) (jE.mono (λj a=>by rcases a with a|a;exact .inl a;exact .inr (.inr a)));exact this
 have Jf:k≠t:=λe=>by
  have b:=v.tx;have u:=h.st;unfold nw at b;unfold lq at u;rw [<-e,u] at b;simp at b
 have ajs:kl≠t:=λe=>by
  have b:=v.tx;have u:=h.lp;unfold nw at b;unfold cK at u;rw [<-e,u] at b;simp at b
 have QQ:w6.heap[t]? =w.heap[t]? :=by
  have E:=Hw.tx;have H:=v.tx;unfold nw at E H;rw [E,H]
 obtain⟨A,gQ⟩:=oH.cat WD (Z:=λj=>X j\/(Value.slice (some (aD g2 0)) (ps.length+ns.length) cq).ownBlock=some j) aA aR (λ_ h=> .inl h) (λi K g c e=> .inl (D i K g c e)) (.inr rfl);have N:=gQ.size;have RA:=qt aA (g:=g2) rfl;have H6:Pl w6 X pv ps:=⟨xs,oH⟩;have xK:=KX.aw gQ (λe=>H6.ne e KX (by decide) rfl);have Ey:=Hw.tx.aw gQ (λe=>H6.ne e Hw.tx (by decide) rfl);have C9:=MM.aw gQ (λe=>H6.ne e MM (by decide) rfl);have o:∀g,X g->¬more F5 w5 w6 g:=λg f m=>by
  rcases m with m|m
  .exact n.fM g f m
  .have:=n.lt g f;omega
 have nP:=pI.aw gQ (λj a e=>o j (oH.row j e) a);generalize J:(Value.slice (some (aD g2 0)) (ps.length+ns.length) cq)=V at*;have q:V.ownBlock=some g2:=by rw [<-J];rfl
 have jW:=aa.setCell (F:=λj=>j=k) w7 (p:=(aD k 7)) rfl V;have WE:lq (w7.setCell ⟨k,7,none⟩ V) k r kl G5.y V xZ nv:=(heap_setCell_same _ _ 7 _ _ _ xK).trans (by simp);have aaB:=Ey.aw jW (λe=>Jf e.symm);have C:Pl (w7.setCell ⟨k,7,none⟩ V) _ V (ps ++ ns):=Pl.other ⟨_,A⟩ xK (by decide) (by decide) jW;have Da:=C9.aw jW (λe=>n.kne e.symm);have oR:=nP.aw jW (λj a e=>o j (e▸n.xk) a);have ajt:=(Hw.pl.aw gQ (λg e m=>Jj g m e) (λg c ys _ M m=>H6.ne m (Classical.choose_spec (M.imp (λcur h=>h.1))) (by decide) rfl)).other xK (by decide) (by decide) jW;have Bb:=aa.setCell (F:=λj=>j=t) (w7.setCell ⟨k,7,none⟩ V) (p:=(aD t 2)) rfl (.bool true);have aqf:(w7.setCell ⟨k,7,none⟩ V).heap.size=w7.heap.size:=by simp [World.setCell]
 have WF:((w7.setCell ⟨k,7,none⟩ V).setCell ⟨t,2,none⟩ (.bool true)).heap.size=w7.heap.size:=by simp [World.setCell]
 have z:=oR.aw Bb (λj a e=>o j (e▸Hw.xt) a);refine⟨gQ.block k KX.lt (λe=>H6.ne e KX (by decide) rfl),gQ.block t Hw.tx.lt (λe=>H6.ne e Hw.tx (by decide) rfl),QQ,KX,Jf,more F5 w5 w6,(λj=>X j\/V.ownBlock=some j),V,ps ++ ns,xZ,rfl,λj a=>?_,λj a=>?_,λ_ h=> .inl h,z,iL.SE n aay d (by rw [I];exact xR) (WE.aw Bb Jf) (Da.aw Bb ajs) (C.other aaB (by decide) (by decide) Bb) (λ_ h=> .inl h) (λg f m=>?_) (λg f=>?_) false,⟨aaB.end_, .inl Hw.xt,(ajt.other aaB (by decide) (by decide) Bb).mono (λ_ h=> .inl h),Hw.nd,λh=>(by cases h),Hw.kb,Hw.Em⟩,⟨by rw [ed];omega,λh=>(by cases h)⟩,?_,?_⟩
 .rcases a with a|a
  .rcases qv j a with a|a
   .exact .inl a
   .exact .inr ⟨a.1,by rw [WF];omega⟩
  .exact .inr ⟨by omega,by rw [WF];omega⟩
 .rcases a with a|a
  .exact .inl a
  .rw [q] at a;cases a;rcases is with b|b
   .exact .inl (oH.row _ b)
   .exact .inr ⟨by omega,by rw [WF];exact RA⟩
 .rcases f with f|f
  .exact o g f m
  .rw [q] at f;cases f;rcases is with b|b
   .exact o _ (oH.row _ b) m
   .have:=pI.lt _ m;omega
 .rw [WF];rcases f with f|f
  .have:=n.lt g f;omega
  .rw [q] at f;cases f;exact RA
 .rw [q];rcases is with b|b
  .exact .inl b.symm
  .exact .inr (λg e=>by cases e;omega)
 .refine((((dX.mono (λj a=>?_):aa (λj=>F j\/j=k\/j=kl\/j=t\/pv.ownBlock=some j) w w5).trans jE (λj a=>?_)).trans gQ (λj a=> .inl (.inr (.inr (.inr (.inr a)))))).trans jW (λj a=> .inl (.inr (.inl a)))).trans Bb (λj a=> .inl (.inr (.inr (.inr (.inl a)))))
  .rcases a with a|a|a
   .exact .inl a
   .exact .inr (.inl a)
   .exact .inr (.inr (.inl a))
  .rcases a with a|a
   .rcases qv j a with a|a
    .exact .inl (.inl a)
    .exact .inr a.1
   .exact .inl (.inr (.inr (.inl a)))
end
end
section
def Ez {G:SG} {S:DS} {s:Nat} (b:(G.L.room S).2=0) (a:G.roomy S (cw c).length=true):G.bI S s c=if (G.L.append S s (cw c)).1≠0 then ((G.L.append S s (cw c)).1,(G.L.append S s (cw c)).2.1,{G with L:=(G.L.append S s (cw c)).2.2}) else (0,(G.L.append S s (cw c)).2.1,{G with L:=(G.L.append S s (cw c)).2.2,ov:=CM.bT G.ov c}):=by
 unfold SG.bI SG.made;rw [aB (λh=>h b),aG a];simp only [ne_eq,not_true_eq_false,if_false]
def H7 {G:SG} {S:DS} {s:Nat} (b:(G.L.room S).2=0) (a:¬G.roomy S (cw c).length=true):G.bI S s c=if (G.check S s).1≠0 then G.check S s else if ((G.check S s).2.2.L.append (G.check S s).2.1 s (cw c)).1≠0 then (((G.check S s).2.2.L.append (G.check S s).2.1 s (cw c)).1,((G.check S s).2.2.L.append (G.check S s).2.1 s (cw c)).2.1,{(G.check S s).2.2 with L:=((G.check S s).2.2.L.append (G.check S s).2.1 s (cw c)).2.2}) else (0,((G.check S s).2.2.L.append (G.check S s).2.1 s (cw c)).2.1,{(G.check S s).2.2 with L:=((G.check S s).2.2.L.append (G.check S s).2.1 s (cw c)).2.2,ov:=CM.bT (G.check S s).2.2.ov c}):=by
 unfold SG.bI SG.made;rw [aB (λh=>h b),aB a]
section
variable {w w' w5 w6 w7:World} {F F5 X:Nat->Prop} {r s k kl t hm xZ g2 cq:Nat} {S S5:DS} {G G5:SG} {T:TG} {pv nv tv lv:Value} {ps us:List (Nat×List Int)} {ns:CM} {xs ys:List Value}
def WG {w:World} {B c:Nat} (h:Own w B (.slice a n c) d):Src w a n d:=by
 obtain⟨f,c',e,b,_⟩:=h.src;cases e;exact b
def Pn.aaC {B N:Nat} (d:Pn w X B lv ns) (h:iL w F X r s S k kl G pv ps hm nv) (l:∀j,F j->j<B\/N<=j) (m:∀g,lv.ownBlock=some g->g<N) (o:k<B/\kl<B) (n:aa (λj=>F j\/j=k\/j=kl) w w'):Pn w' X B lv ns:=by
 have row:∀g,lv.ownBlock=some g->¬(F g\/g=k\/g=kl):=λg e a=>by
  have p:=d.lo g e;have q:=m g e;rcases a with a|a|a
  .rcases l g a with i|i <;> omega
  .omega
  .omega
 refine d.aw n row (λg c t b f a=>?_);rcases b with b|b
 .rcases a with a|a|a
  .exact h.fM g b a
  .exact f.ne h.st (by decide) a
  .exact f.ne h.lp (by decide) a
 .exact row g b a
def KY {L:LG} {S:DS} {s:Nat} (h:S.fL):(L.trim S s).2.1.fL:=by
 have a:=p7 h L s;have b:=a.cZ s L.f ((L.ep:Int)*4294967296+(L.head:Int));unfold LG.trim;split
 .exact a
 .split
  .exact a
  .split <;> exact b
def wV {G:SG} {S:DS} {s:Nat} (h:S.fL) (d:∀q∈G.ov,Bytes q.2):(G.check S s).2.1.fL:=by
 have a:=p7 h G.L s;have b:=ku a s G.y.home d;have c:=KY (L:=G.L) (s:=s) b;unfold SG.check;split
 .exact a
 .split
  .exact b
  .split <;> exact c
def iL.SJ (a:iL w5 F5 X r s S5 k kl G5 pv ps xZ nv) (jE:aa (λj=>F5 j\/j=kl) w5 w6):lq w6 k r kl G5.y pv xZ nv/\Pl w6 X pv ps:=by
 refine⟨a.st.aw jE (λe=>e.elim (a.fM _ a.xk) a.kne),a.pl.aw jE (λg e b=>?_) (λg c i d f b=>?_)⟩
 .rcases b with b|b
  .exact a.fM g (a.pl.row g e) b
  .exact a.pl.ne e a.lp (by decide) b
 .rcases b with b|b
  .exact a.fM g d b
  .exact f.ne a.lp (by decide) b
def il.refused (h:iL w F X r s S k kl G pv ps hm nv) (i:oj w X k t G T tv us) (I6:T.ended=false)
    (c:iL w5 F5 X r s S5 k kl G5 pv ps xZ nv) (l:G5.y=G.y) (aay:S5.Ok s) (qv:∀j,F5 j->more F w w5 j) (dX:aa (λj=>F j\/j=k\/j=kl) w w5) (d:List Int)
    (pI:aC w6 (more F5 w5 w6) r s (G5.L.append S5 s d).2.1) (MM:cK w6 kl r (G5.L.append S5 s d).2.2) (jE:aa (λj=>F5 j\/j=kl) w5 w6) (x:Int):
  il w F X r s k kl t pv tv nv ps us (x,(G5.L.append S5 s d).2.1,{G5 with L:=(G5.L.append S5 s d).2.2},T) (.returned (iV x)) w6:=by
 have pR:=dX.size;have RF:=jE.size;obtain⟨KX,H6⟩:=c.SJ jE;have f:=iL.SE (ns:= []) (F':=more F5 w5 w6) (X':=X) (pv':=pv) c aay d (λx b=>by cases b) KX MM (by rw [List.append_nil];exact H6) (λ_ h=>h) (λg e b=>by rcases b with b|b;exact c.fM g e b;have:=c.lt g e;omega) (λg e=>i6 (c.lt g e) RF) G5.busy;rw [List.append_nil] at f;refine il.fail h i I6 (F5:=more F5 w5 w6) (λj a=>?_) pI f l ((dX.trans jE (λj a=>?_))) x
 .rcases a with a|a
  .rcases qv j a with a|a
   .exact .inl a
   .exact .inr ⟨a.1,by omega⟩
  .exact .inr ⟨by omega,a.2⟩
 .rcases a with a|a
  .rcases qv j a with a|a
   .exact .inl (.inl a)
   .exact .inr a.1
  .exact .inl (.inr (.inr a))
end
section
variable {w w' w1 w2:World} {F F' X X':Nat->Prop} {r s k kl t hm:Nat} {S:DS} {G:SG} {T:TG} {pv nv tv:Value} {ps us:List (Nat×List Int)}
set_option maxRecDepth 100000 in
def H8 (hd:aC w F r s S) (h:iL w F X r s S k kl G pv ps hm nv) (O:oj w X k t G T tv us) (Jj:∀g,pv.ownBlock=some g->tv.ownBlock≠some g) (dC:S.fL) (fB:G.L.bj S=0->S.num G.L.f<=G.L.ep*4294967296+G.L.tail) (aU:S.puts.length+5000<=4000000000000) (Wg:ps.length<=4000000000000):
  Calls prog 89 #[pQ t] w λe w'=>il w F X r s k kl t pv tv nv ps us (T.bI G S s) e w':=by
 have h1:=kt hd h O.tx;obtain⟨R,hR⟩:=bQ (T.bI G S s);rw [<-hR];unfold TG.bI at hR;by_cases q:T.state G S=0
 .have dq:(T.state G S != 0)=false:=by rw [q];rfl
  rw [aB (λh=>h q)] at hR;have hz:G.L.dead S=false/\T.ended=false/\T.bad=0:=by
   unfold TG.state TG.bT at q;cases yI:G.L.dead S
   .cases hee:T.ended
    .rw [yI,hee] at q;simpa using q
    .rw [yI,hee] at q;simp at q
   .rw [yI] at q;simp at q
  obtain⟨r1,r2,r3⟩:=hz;have sO:=O.pu r2;have du:=hd.ok;have lC:=du.hi;have X9:=h.hs;have ho:CM.Ok T.puts:=by rw [sO];exact mL _
  have hgp:∀b,CM.get T.puts b=jC us b:=λb=>by rw [sO];exact ia _ _
  have aju:T.puts.length<=us.length:=by rw [sO,vL O.nd];exact bS _
  have Yv:T.puts.length<=16:=by rw [sO,vL O.nd];exact O.Em
  have ph:∀x∈T.puts,x.1<G.y.blocks:=λx D=>by rw [sO] at D;exact O.kb x (eS D)
  have hlen:∀x∈T.puts,x.2.length=512/\Bytes x.2:=λx D=>by rw [sO] at D;exact O.pl.len x (eS D)
  obtain⟨ad5,a,H,P,Ho,Hgp,M9,HR⟩:=xq O.Em (yh h) (yh O) (yh hd) (yh ho) (yh hgp) (yh hlen) (yh hR);have HBY:=yh dC;obtain⟨ajv,HAp⟩:=bU fB Jj;have HFd:=yh (λ(w1:World) (ar:bW w w1) (b:Nat)=>q9 (O.pl.later ar).pv b (by omega));obtain⟨HBl,aes⟩:=bU (λ(w1:World) (ar:bW w w1) (b:Nat) (hb:b<G.y.blocks)=>zW (hd.later ar) (h.later ar) r1 b hb (by omega) Wg) (λ(b:Nat) (hb:b<G.y.blocks)=>iL.aao hd h hb);clear h O hd ho hgp hlen hR dC fB Jj sO q;generalize T.state G S=E at*;go_in;go_wp2_with fail;refine bN h1 λw1 ar=>?_;have cQ:=yh ar;clear h1 ar;go_wp2;go_loopw [4,5] (λv i wr=>∃b:Nat,b<=G.y.blocks/\i=iV (b:Int)/\Pn wr X w.heap.size v (KW T G S b)/\bW w wr) (λ_ i _=>G.y.blocks-(intOf i).toNat);case atStart=>exact⟨0,dV _,rfl,by rw [SF];exact Pn.nil _ _ _,cQ.o⟩
  case round=>
   obtain⟨b,hb,rfl,nE,ew⟩:=hrel;have wN:=H.o.tx.later ew;obtain⟨c0,c1,c4,Jp,mm,Aj⟩:=jF wN.c0 wN.c1 ((a.o.st.later ew).c4) (yh nE) (yh ew) ew.size;by_cases qb:b<G.y.blocks
   .have qb':(b:Int)<(G.y.blocks:Int):=(by omega);have Jm:=HFd.o wr ew b;have tA:=HBl.o wr ew b qb;have Co:=Hgp.o b;clear nE ew wN;cases hf:jC us b with
    |none=>
     rw [hf] at Jm Co;go_wp2_with fail;refine Jm.mono ?_;rintro e w2 ⟨ho,hw⟩;subst hw;rcases ho with ⟨_,rfl⟩|⟨l',g,c',W,_⟩
     .clear Jm tA;go_wp2;go_roundw;case rel=>exact⟨b+1,by omega,by go_num,by rw [SH Ho.o Co];exact Jp.o,mm.o⟩
      case measure=>simp [intOf];omega
     .cases W
    |some l=>
     rw [hf] at Jm Co;have hl:=M9.o (b,l) (CM.get_mem Co);have Bu:=aes.o b qb;go_wp2_with fail;refine Jm.mono ?_;rintro e w2 ⟨ho,hw⟩;subst hw;rcases ho with ⟨h0,_⟩|⟨l',g,c',W,rfl,hX,hr⟩
     .cases h0
     cases W;have Ex:=yh hr;clear Jm hr;go_wp2_with fail;refine tA.mono ?_;rintro e w3 ⟨⟨g3,c3,rfl,_,A8⟩,bF⟩;have lC:=sY g 0 g3 0 512 c' c3 l (G.block S b) w3 hl.1 Bu (by omega) (λi hi=>by have:=(Ex.o.agree (bF.block g Ex.o.lt)).src.2.2 _ rfl i (by rw [hl.1];exact hi);rwa [aN] at this) (λi hi=>by have:=A8.src.2.2 _ rfl i (by rw [Bu];exact hi);rwa [aN] at this);have gd:=yh bF;clear tA A8 bF;by_cases qs:l=G.block S b
     .have dd:decide (l=G.block S b)=true:=(by simp [qs]);rw [dd] at lC;have HQ:=yh qs;clear qs;go_wp2_with fail;refine bN lC λw4 fw=>?_;have jV:=yh (gd.o.trans (fw.mono gd.o.size));clear lC fw;go_wp2;go_roundw;case rel=>exact⟨b+1,by omega,by go_num,by rw [SI Ho.o Co HQ.o];exact Jp.o.later jV.o,mm.o.trans (jV.o.mono mm.o.size)⟩
      case measure=>simp [intOf];omega
     .have dd:decide (l=G.block S b)=false:=(by simp [qs]);rw [dd] at lC;have HQ:=yh qs;clear qs;go_wp2_with fail;refine bN lC λw4 fw=>?_;have nV:=gd.o.trans (fw.mono gd.o.size);have CC:=WC (T:=T) (G:=G) (S:=S) (b:=b);obtain⟨A,cq,w5,bD,SK,dX⟩:=(Jp.o.later nV).aem (b:=b) hX (Ex.o.agree (nV.block g Ex.o.lt)) hl (by omega) (by have:=nV.size;omega);have fa:=(mm.o.trans (nV.mono mm.o.size)).trans (dX.below (λj m=>Jp.o.lo j m) (by have:=nV.size;omega));obtain⟨C,nN⟩:=bU (aH SK fa) bD;clear lC fw nV bD SK dX fa;go_wp2_with (at_builtin;refine br rfl _ _ 127 rfl u4 (.slice (some (aD w4.heap.size 0)) 1 1) _ rfl rfl nN.o ?_);go_roundw;case rel=>exact⟨b+1,by omega,by go_num,by rw [WA Ho.o Co HQ.o];exact C.o.1,C.o.2⟩
      case measure=>simp [intOf];omega
   .have qb':¬(b:Int)<(G.y.blocks:Int):=(by omega);obtain rfl:b=G.y.blocks:=(by omega);rw [(yh (WB (S:=S) (G:=G) ph)).out] at nE;obtain⟨ns,Mg⟩:=bQ (T.news G S);have zv:=HR.o;rw [<-Mg] at nE zv;have mS:ns.length<=16:=(by rw [Mg];exact j4 (List.length_filter_le _ _) Yv);have aet:ns.length<=us.length:=(by rw [Mg];exact j4 (List.length_filter_le _ _) aju);have xR:∀x∈ns,x.1<G.y.blocks:=λx D=>by rw [Mg] at D;exact ph x (List.mem_filter.1 D).1
    obtain⟨la,lc,hu,-⟩:=nE.pl.form;subst hu;obtain⟨HX,HNk,HPm⟩:=kI a.o.lt xR nE;clear Jp nE Mg wN c1 HFd HBl aes Hgp Ho M9 xR ph HR Yv qb hb;by_cases q0:ns= []
    .subst q0;rw [aG rfl] at zv;have HR:=yh zv;have nU:=H.o.tx.later ew;have c2:=nU.c2;have f2:=nU.fz 2;clear zv ew nU;go_wp2;go_ret;rw [HR.o];have hk:=aa.setCell (F:=λj=>j=t) wr (p:=(aD t 2)) rfl (.bool true);have nU:=H.o.later mm.o;have pk:aa (λj=>F j\/j=k\/j=kl\/j=t\/pv.ownBlock=some j) w (wr.setCell ⟨t,2,none⟩ (.bool true)):=(aa.ah _ mm.o).trans hk (λ_ h=> .inl (.inr (.inr (.inr (.inl h)))));refine⟨F,X,pv,ps,hm,rfl,λ_ h=> .inl h,λ_ h=> .inl h,λ_ h=>h,(P.o.later mm.o).aw hk (λj m e=>a.o.fM t H.o.xt (e▸m)),((a.o.later mm.o).adC nU.tx hk).busy false,⟨nU.tx.end_,nU.xt,nU.pl.other nU.tx (by decide) (by decide) hk,nU.nd,λh=>(by cases h),nU.kb,nU.Em⟩,⟨by omega,λ_=>rfl⟩, .inl rfl,pk⟩
    .have jl:=List.length_pos_iff.2 q0;rw [aB q0] at zv;have HR:=yh zv;have dl:((ns.length:Int) == 0)=false:=(by rw [fJ];omega);clear zv ew q0;go_wp2_with fail;refine(ux ns.length 2 wr (by omega) (by omega)).mono ?_;rintro e w2 ⟨rv,rfl,aA,bd⟩;obtain⟨HO,HP2,dP⟩:=kI (aA.down Aj) (HPm.o.later bd) (mm.o.trans (bd.mono Aj));clear aA bd;go_wp2;clear c0 c4;go_loopw [7,8] (λrv i wr=>∃j:Nat,j<=ns.length/\i=iV (j:Int)/\Own wr w.heap.size rv (bB 2 ns.length ++ (ns.take j).flatMap (λq=>bB 4 q.1))/\Pn wr X w.heap.size (.slice la ns.length lc) ns/\bW w wr) (λ_ i _=>ns.length-(intOf i).toNat);case atStart=>exact⟨0,dV _,rfl,by simpa using HO.o,HP2.o,dP.o⟩
     case round=>
      obtain⟨j,m,rfl,aA,nE,SL⟩:=hrel;have ajx:=SL.size;have jX:((ns.take j).flatMap (λq=>bB 4 q.1)).length=4*j:=(by rw [nQ,List.length_take];omega);have rJ:(bB 2 ns.length ++ (ns.take j).flatMap (λq=>bB 4 q.1)).length=2+4*j:=(by rw [ed,aK,jX]);by_cases qj:j<ns.length
      .have qj':(j:Int)<(ns.length:Int):=(by omega);obtain⟨la',lc',J,lD⟩:=nE.pl.form;cases J;obtain⟨gp,rfl,hp⟩:=lD jl;obtain⟨gj,cj,p1,_,_,_⟩:=hp j qj;have X8:ns[j].1<G.y.blocks:=HNk.o _ (List.getElem_mem qj);obtain⟨HOw,HPw,HBw⟩:=kI aA nE SL;clear aA nE SL lD hp;go_wp2_with fail;refine(ux ns[j].1 4 wr (by omega) (by omega)).mono ?_;rintro e w3 ⟨bv,rfl,Me,bF⟩;obtain⟨ba,bc,rfl,Vv,_,_⟩:=Me.src;rw [aK] at Vv⊢;have BH:=HOw.o.later bF;obtain⟨rv',w4,bD,Fs,dW⟩:=Hv BH bc Vv (by omega) (by rw [rJ];omega) (by have:=bF.size;omega);have Ro:=(HPw.o.later bF).beside BH HX.o dW;have nV:=(HBw.o.trans (bF.mono ajx)).trans (dW.below (λj m=>(BH.lo m).1) (by have:=bF.size;omega));rw [List.append_assoc,<-Dt (λq:Nat×List Int=>bB 4 q.1) ns qj] at Fs;obtain⟨C,nN⟩:=bU (aH Fs (aH Ro nV)) bD;clear Me bF Vv BH bD Fs dW Ro nV;go_wp2_with (at_builtin;refine br rfl _ _ 36 rfl u7 (.slice ba 4 bc) _ rfl rfl nN.o ?_);go_roundw;case rel=>exact⟨j+1,by omega,by go_num,C.o⟩
       case measure=>simp [intOf];omega
      .have qj':¬(j:Int)<(ns.length:Int):=(by omega);obtain rfl:j=ns.length:=(by omega);rw [List.take_length] at aA;obtain⟨HO3,HP3,gd⟩:=kI aA nE SL;clear aA nE SL jX rJ;go_wp2;go_loopw [7,9] (λrv i wr=>∃j:Nat,j<=ns.length/\i=iV (j:Int)/\Own wr w.heap.size rv (bB 2 ns.length ++ (ns.flatMap (λq=>bB 4 q.1) ++ (ns.take j).flatMap (·.2)))/\Pn wr X w.heap.size (.slice la ns.length lc) ns/\bW w wr) (λ_ i _=>ns.length-(intOf i).toNat);case atStart=>exact⟨0,dV _,rfl,by simpa using HO3.o,HP3.o,gd.o⟩
       case round=>
        obtain⟨j,hj3,rfl,aA,nE,te⟩:=hrel;have ajC:=te.size;have jX:((ns.take j).flatMap (·.2)).length=512*j:=(by rw [vy (λq hq=>(nE.pl.len q (List.mem_of_mem_take hq)).1),List.length_take];omega);have rJ:(bB 2 ns.length ++ (ns.flatMap (λq=>bB 4 q.1) ++ (ns.take j).flatMap (·.2))).length=2+4*ns.length+512*j:=(by rw [ed,ed,aK,jX,nQ];omega);by_cases qj:j<ns.length
        .have qj2:(j:Int)<(ns.length:Int):=(by omega);obtain⟨la',lc',J,lD⟩:=nE.pl.form;cases J;obtain⟨gp,rfl,hp⟩:=lD jl;obtain⟨gj,cj,_,p2,_,hrj⟩:=hp j qj;have hsj:Src wr (some (aD gj 0)) 512 ns[j].2:=(by have:=hrj.src;rwa [((nE.pl.len _ (List.getElem_mem qj)).1)] at this);obtain⟨rv',w4,bD,Fs,dW⟩:=Hv aA cj hsj (by omega) (by rw [rJ];omega) (by omega);have Ro:=nE.beside aA HX.o dW;have nV:=te.trans (dW.below (λj m=>(aA.lo m).1) (by omega));rw [List.append_assoc,List.append_assoc,<-Dt (λq:Nat×List Int=>q.2) ns qj] at Fs;obtain⟨C,nN⟩:=bU (aH Fs (aH Ro nV)) bD;clear aA nE te lD hp hrj hsj bD Fs dW Ro nV;go_wp2_with (at_builtin;refine br rfl _ _ 36 rfl u7 (.slice (some (aD gj 0)) 512 cj) _ rfl rfl nN.o ?_);go_roundw;case rel=>exact⟨j+1,by omega,by go_num,C.o⟩
         case measure=>simp [intOf];omega
        .have qj2:¬(j:Int)<(ns.length:Int):=(by omega);obtain rfl:j=ns.length:=(by omega);rw [List.take_length] at aA rJ;obtain⟨ra,aeu,hrv,pF,Fz,BM⟩:=aA.src;subst hrv;have Ze:G.L.bj S=0:=(by unfold LG.bj;rw [r1,a.o.bg];rfl);have WH:(G.L.room S).2=0:=(by unfold LG.room;rw [aB (λh=>h Ze)]);have rY:=N9 (P.o.later te) (a.o.lp.later te) a.o.lk;have aev:bB 2 ns.length ++ (ns.flatMap (λq=>bB 4 q.1) ++ ns.flatMap (·.2))=cw ns:=rfl;rw [aev] at rJ pF Fz aA⊢;have Vn:=qA (λq hq=>(nE.pl.len q hq).2);have SM:G.roomy S (cw ns).length=decide ((dh (cw ns).length:Int)<=(G.L.room S).1):=rfl;have M:=Ez (s:=s) (c:=ns) WH;have WI:=H7 (s:=s) (c:=ns) WH;rw [WH] at rY;rw [SM] at M WI;obtain⟨d,yI⟩:=bQ (cw ns);rw [<-yI] at rJ pF Fz aA Vn M WI⊢;obtain⟨x,D⟩:=bQ d.length;rw [<-D] at rJ pF Fz M WI⊢;obtain⟨rm,hrm⟩:=bQ ((G.L.room S).1);rw [<-hrm] at rY M WI;have rG:0<x:=(by omega);have jJ:x<=10000:=(by omega);obtain⟨c0,k1,HOw,HPw,HBw,OI,WJ,HNb,HCr,HCf,HX0⟩:=L3 ((H.o.tx.later te).c0) ((a.o.st.later te).c1) (yh aA) (yh nE) (yh te) (yh pF) (yh BM) (yh Vn) (yh M) (yh WI) (yh D);clear aA nE te pF BM Vn M WI SM aev yI hrm WH jX D rJ;go_wp2_with fail;refine bN rY λw5 fa=>?_;obtain⟨Wf,jr,HO5,HP5,ajG⟩:=eK ((yh (λw1=>td x w1 (by omega))).out w5) (yh (HBw.o.trans (fa.mono ajC))) (yh (HOw.o.later fa)) (yh (HPw.o.later fa)) (yh (OI.o.later fa));have UC:=(H.o.tx.later jr.o).c0;have k15:=(a.o.st.later jr.o).c1;clear rY fa c0 k1 HOw HPw OI;by_cases qr:(dh x:Int)<=rm
         .have qrr:¬rm<(((x+491) / 492:Nat):Int):=(by unfold dh at qr;omega);have hC:=HCr.o (by rw [decide_eq_true_iff];exact qr);have xJ:=HR.o;rw [hC] at xJ;clear HCr HCf qr hC;go_wp2_with fail;refine bN Wf λZ MN=>?_;subst MN;clear Wf;have EA:=wT (P.o.later jr.o) (a.o.later jr.o).lp (a.o.later jr.o).lk (a.o.fM _ a.o.xl) HBY.o ra x aeu d ajG.o (λy hy _ hF=>by have:=(WJ.o y hy).1;have:=P.o.lt _ hF;omega) HNb.o Fz (by omega) (by omega);by_cases qa:(G.L.append S s d).1=0
          .have da:((G.L.append S s d).1 != 0)=false:=(by rw [qa];rfl);have xD:R=(0,(G.L.append S s d).2.1,{G with L:=(G.L.append S s d).2.2,ov:=CM.bT G.ov ns,busy:=false},T.close):=(by rw [xJ];simp only [qa,ne_eq,not_true_eq_false,if_false]);have Jn:=yh xD;clear xD xJ;go_wp2_with fail;refine pr EA λK nP C9 gQ=>?_;obtain⟨xK,aaE⟩:=(a.o.later jr.o).SJ gQ;have KZ:=gQ.mono (G:=λj=>F j\/j=k\/j=kl) (λj m=>by rcases m with m|m;exact .inl m;exact .inr (.inr m));have Ey:=(oj.asked (a.o.later jr.o) (H.o.later jr.o) KZ).tx;obtain⟨xs,oH⟩:=aaE;obtain⟨ys,WD,mn,Y⟩:=Pn.asked (a.o.later jr.o) (B:=w.heap.size) (λj m=>P.o.lt j m) ⟨a.o.lt _ a.o.xk,a.o.lt _ a.o.xl⟩ HP5.o KZ;obtain⟨la',lc',J,lD⟩:=WD.form;cases J;obtain⟨gp,rfl,-⟩:=lD jl;obtain⟨i0,rL,gC,dE,ev⟩:=info_parts qq;obtain⟨c07,k77,K0,EB⟩:=cO Ey.c0 xK.c7 (oH.aw (aa.ah (λ_=>False) (ai (bi _ _))) (λ_ _ h=>h) (λ_ _ _ _ _ h=>h)) (WD.aw (aa.ah (λ_=>False) (ai (bi _ _))) (λ_ _ h=>h) (λ_ _ _ _ _ h=>h));have SN:aC K.drew (more F Z K.drew) r s (G.L.append S s d).2.1:=nP.later (ai (bi _ _));have zM:∀j u,ys[j]? =some u->K.drew.cell? (((aD gp 0):Addr).add j)=some u:=λj u hu=>EB.own.cells (g:=gp) rfl _ _ hu;have SO:=yh (λ(A cq:Nat) (z:World) (uy:z.ownsRow 0 167 2 (.slice (some (aD A 0)) (ps.length+ns.length) cq) (ps.length+ns.length) (xs ++ ys)) (oS:K.drew.grownBy z pv.ownBlock) (EC:pv.ownBlock=some A\/A=K.heap.size)=>il.done a.o H.o HAp.o (a.o.later jr.o) rfl du (λj m=> .inl m) (aa.ah _ jr.o) d SN (C9.later (ai (bi _ _))) (gQ.trans (aa.ah (λ_=>False) (ai (bi _ _))) (λ_ h=>h.elim)) K0 EB Y HNk.o aet uy oS EC);obtain⟨HXs,U,aaG,Q⟩:=Bo K0 EB zM Ey;clear EA nP C9 gQ xK KZ oH WD mn Y lD K0 EB SN zM Ey;go_wp2_with fail
           go_region_law
            (first
             |(refine step_append_lies _ (by rfl) _ _ _ (by rfl) 0 167 i0 _ 2 32 underlying127 rL gC dE ev rfl (by omega) pv ps.length xs (by rfl) HXs.o.own (aD gp 0) ns.length lc ys (by rfl) U.o.own.1 aaG.o U.o.one jl (by unfold maxLen;omega) (by omega) (dV _) K.heap.size (by rfl) ?_;intro A cq z uy oS EC aaH;obtain⟨W,e2,e3,e4,e5,jI⟩:=SO.o A cq z uy oS EC;have k78:z.cell? (aD k 7)=some pv:=rC (W.trans e4);have f78:z.frozen? (aD k 7)=false:=ae (W.trans e4) 7;have t08:z.cell? (aD t 0)=some (pQ k):=aM (e2.trans Q.o);have I:(z.setCell ⟨k,7,none⟩ (.slice (some ⟨A,0,none⟩) (ps.length+ns.length) cq)).heap[t]? =_:=(Below.heap_setCell z ⟨k,7,none⟩ (.slice (some (aD A 0)) (ps.length+ns.length) cq) t (λe=>e5 e.symm)).trans (e2.trans Q.o);have t28:(z.setCell ⟨k,7,none⟩ (.slice (some ⟨A,0,none⟩) (ps.length+ns.length) cq)).cell? (aD t 2)=some (.bool T.ended):=bK I;have f28:(z.setCell ⟨k,7,none⟩ (.slice (some ⟨A,0,none⟩) (ps.length+ns.length) cq)).frozen? (aD t 2)=false:=ae I 2))
           all_goals
            have mY:=yh jI;clear jI uy oS EC aaH W e2 e3 e4 I;go_wp2;go_ret;rw [Jn.o];exact mY.o
          .have da:((G.L.append S s d).1 != 0)=true:=(by rw [gB];exact qa);have xD:R=((G.L.append S s d).1,(G.L.append S s d).2.1,{G with L:=(G.L.append S s d).2.2},T):=(by rw [xJ];simp only [qa,ne_eq,not_false_eq_true,if_true]);have Jn:=yh xD;clear xD xJ;go_wp2_with fail;refine pr EA λK nP C9 gQ=>?_;have C:=yh (aH nP (aH C9 gQ));clear EA nP C9 gQ;go_wp2;go_ret;rw [Jn.o];exact il.refused a.o H.o r2 (a.o.later jr.o) rfl du (λj m=> .inl m) (aa.ah _ jr.o) d C.o.1 C.o.2.1 C.o.2.2 _
         .have qrr:rm<(((x+491) / 492:Nat):Int):=(by unfold dh at qr;omega);have hC:=HCf.o (by rw [decide_eq_true_iff];exact qr);have xJ:=HR.o;rw [hC] at xJ;clear HCr HCf qr hC;go_wp2_with fail;refine bN Wf λZ MN=>?_;subst MN;clear Wf;have WK:=Aq (P.o.later jr.o) (a.o.later jr.o) HBY.o ajv.o (by omega) Wg;have RF:=jr.o.size;have aey:G.ov.length<=2048:=by
           have ajH:CM.Ok G.ov:=(by rw [a.o.ov];exact mL _);rcases CM.length_le (n:=2048) ajH (λq hq=>by rw [a.o.ov] at hq;have:=a.o.kb q (List.mem_of_mem_drop (eS hq));omega) 0 (λ_ _=>dV _) with h1|h1
           .omega
           .rw [h1];simp
          have PF:=Af G S s;obtain⟨ajI,HY8⟩:=bU (wV HBY.o (λq hq=>by rw [a.o.ov] at hq;exact(a.o.pl.len q (List.mem_of_mem_drop (eS hq))).2) (s:=s)) (mJ G S s);by_cases qc:(G.check S s).1=0
          .have dc:((G.check S s).1 == 0)=true:=(by rw [qc];rfl);go_wp2_with fail;refine WK.mono ?_;rintro e z ⟨rfl,oR,⟨XO,Jo⟩,jW⟩;have aez:=oR.ok;have hO8:=HO5.o.aw jW (λg e D=>by have:=(HO5.o.lo e).1;rcases D with D|D|D;have:=P.o.lt _ D;omega;have:=a.o.lt _ a.o.xk;omega;have:=a.o.lt _ a.o.xl;omega);have ajJ:=yh (by have:=WG hO8;rwa [<-HX0.o] at this);have aeA:∀y,ra=some y->y.block<Z.heap.size:=λy hy=>by
            obtain⟨g9,c9,e9,_,Un⟩:=HO5.o.Vs (by rw [<-HX0.o];exact rG);cases e9;cases hy;exact Un.lt
           have HRF:Yh (∀y,ra=some y->0<x->¬more F Z z y.block):=yh (λ(y:Addr) (hy:ra=some y) (_:0<x) (hF:more F Z z y.block)=>by
            have h1:=(WJ.o y hy).1;have h2:=aeA y hy;rcases hF with hF|hF
            .have:=P.o.lt _ hF;omega
            .omega)
           obtain⟨HP8,HF5⟩:=bU (Pn.asked (a.o.later jr.o) (B:=w.heap.size) (λj m=>P.o.lt j m) ⟨a.o.lt _ a.o.xk,a.o.lt _ a.o.xl⟩ HP5.o jW) (λ(j:Nat) (m:more F Z z j)=>(m.elim (λh=> .inl (P.o.lt j h)) (λh=> .inr h.1):j<w.heap.size\/Z.heap.size<=j));have aeB:=yh (λ(j:Nat) (m:more F Z z j)=>(m.elim (λh=> .inl h) (λh=> .inr ⟨by omega,h.2⟩):more F w z j));have PB:=yh ((aa.ah (λj=>F j\/j=k\/j=kl) jr.o).trans jW (λ_ h=> .inl h));have Ns:=oj.asked (a.o.later jr.o) (H.o.later jr.o) jW;have HT8:Yh (oj z X k t (G.check S s).2.2 T tv us):=yh ⟨Ns.tx,Ns.xt,Ns.pl,Ns.nd,Ns.pu,by rw [HY8.o];exact Ns.kb,Ns.Em⟩;have c08:=Ns.tx.c0;have k18:=Jo.st.c1;clear WK jW hO8 aeA Ns UC k15;have EA:=wT (oR) (Jo).lp (Jo).lk (Jo.fM _ Jo.xl) ajI.o ra x aeu d ajJ.o HRF.o HNb.o Fz (by omega) (by omega);by_cases qa:((G.check S s).2.2.L.append (G.check S s).2.1 s d).1=0
           .have da:(((G.check S s).2.2.L.append (G.check S s).2.1 s d).1 != 0)=false:=(by rw [qa];rfl);have xD:R=(0,((G.check S s).2.2.L.append (G.check S s).2.1 s d).2.1,{(G.check S s).2.2 with L:=((G.check S s).2.2.L.append (G.check S s).2.1 s d).2.2,ov:=CM.bT (G.check S s).2.2.ov ns,busy:=false},T.close):=(by rw [xJ];simp only [qc,qa,ne_eq,not_true_eq_false,if_false]);have Jn:=yh xD;clear xD xJ;go_wp2_with fail;refine pr EA λK nP C9 gQ=>?_;obtain⟨xK,aaE⟩:=(Jo).SJ gQ;have KZ:=gQ.mono (G:=λj=>(more F Z z) j\/j=k\/j=kl) (λj m=>by rcases m with m|m;exact .inl m;exact .inr (.inr m));have Ey:=(oj.asked Jo HT8.o KZ).tx;obtain⟨xs,oH⟩:=aaE;obtain⟨ys,WD,mn,Y⟩:=HP8.o.aaC Jo (N:=Z.heap.size) HF5.o (yh (HP5.o.pl.rlt)).out ⟨a.o.lt _ a.o.xk,a.o.lt _ a.o.xl⟩ KZ;obtain⟨la',lc',J,lD⟩:=WD.form;cases J;obtain⟨gp,rfl,-⟩:=lD jl;obtain⟨i0,rL,gC,dE,ev⟩:=info_parts qq;obtain⟨c07,k77,K0,EB⟩:=cO Ey.c0 xK.c7 (oH.aw (aa.ah (λ_=>False) (ai (bi _ _))) (λ_ _ h=>h) (λ_ _ _ _ _ h=>h)) (WD.aw (aa.ah (λ_=>False) (ai (bi _ _))) (λ_ _ h=>h) (λ_ _ _ _ _ h=>h));have SN:aC K.drew (more (more F Z z) z K.drew) r s ((G.check S s).2.2.L.append (G.check S s).2.1 s d).2.1:=nP.later (ai (bi _ _));have zM:∀j u,ys[j]? =some u->K.drew.cell? (((aD gp 0):Addr).add j)=some u:=λj u hu=>EB.own.cells (g:=gp) rfl _ _ hu;have SO:=yh (λ(A cq:Nat) (z:World) (uy:z.ownsRow 0 167 2 (.slice (some (aD A 0)) (ps.length+ns.length) cq) (ps.length+ns.length) (xs ++ ys)) (oS:K.drew.grownBy z pv.ownBlock) (EC:pv.ownBlock=some A\/A=K.heap.size)=>il.done a.o H.o HAp.o (Jo) HY8.o aez aeB.o PB.o d SN (C9.later (ai (bi _ _))) (gQ.trans (aa.ah (λ_=>False) (ai (bi _ _))) (λ_ h=>h.elim)) K0 EB Y HNk.o aet uy oS EC);obtain⟨HXs,U,aaG,Q⟩:=Bo K0 EB zM Ey;clear EA nP C9 gQ xK KZ oH WD mn Y lD K0 EB SN zM Ey;go_wp2_with fail
            go_region_law
             (first
              |(refine step_append_lies _ (by rfl) _ _ _ (by rfl) 0 167 i0 _ 2 32 underlying127 rL gC dE ev rfl (by omega) pv ps.length xs (by rfl) HXs.o.own (aD gp 0) ns.length lc ys (by rfl) U.o.own.1 aaG.o U.o.one jl (by unfold maxLen;omega) (by omega) (dV _) K.heap.size (by rfl) ?_;intro A cq z uy oS EC aaH;obtain⟨W,e2,e3,e4,e5,jI⟩:=SO.o A cq z uy oS EC;have k78:z.cell? (aD k 7)=some pv:=rC (W.trans e4);have f78:z.frozen? (aD k 7)=false:=ae (W.trans e4) 7;have t08:z.cell? (aD t 0)=some (pQ k):=aM (e2.trans Q.o);have I:(z.setCell ⟨k,7,none⟩ (.slice (some ⟨A,0,none⟩) (ps.length+ns.length) cq)).heap[t]? =_:=(Below.heap_setCell z ⟨k,7,none⟩ (.slice (some (aD A 0)) (ps.length+ns.length) cq) t (λe=>e5 e.symm)).trans (e2.trans Q.o);have t28:(z.setCell ⟨k,7,none⟩ (.slice (some ⟨A,0,none⟩) (ps.length+ns.length) cq)).cell? (aD t 2)=some (.bool T.ended):=bK I;have f28:(z.setCell ⟨k,7,none⟩ (.slice (some ⟨A,0,none⟩) (ps.length+ns.length) cq)).frozen? (aD t 2)=false:=ae I 2))
            all_goals
             have mY:=yh jI;clear jI uy oS EC aaH W e2 e3 e4 I;go_wp2;go_ret;rw [Jn.o];exact mY.o
           .have da:(((G.check S s).2.2.L.append (G.check S s).2.1 s d).1 != 0)=true:=(by rw [gB];exact qa);have xD:R=(((G.check S s).2.2.L.append (G.check S s).2.1 s d).1,((G.check S s).2.2.L.append (G.check S s).2.1 s d).2.1,{(G.check S s).2.2 with L:=((G.check S s).2.2.L.append (G.check S s).2.1 s d).2.2},T):=(by rw [xJ];simp only [qc,qa,ne_eq,not_true_eq_false,not_false_eq_true,if_true,if_false]);have Jn:=yh xD;clear xD xJ;go_wp2_with fail;refine pr EA λK nP C9 gQ=>?_;have C:=yh (aH nP (aH C9 gQ));clear EA nP C9 gQ;go_wp2;go_ret;rw [Jn.o];exact il.refused a.o H.o r2 (Jo) HY8.o aez aeB.o PB.o d C.o.1 C.o.2.1 C.o.2.2 _
          .have dc:((G.check S s).1 == 0)=false:=(by rw [fJ];exact qc);have dn:((G.check S s).1 != 0)=true:=(by rw [gB];exact qc);have xD:R=((G.check S s).1,(G.check S s).2.1,(G.check S s).2.2,T):=(by rw [xJ];simp only [qc,ne_eq,not_false_eq_true,if_true]);have Jn:=yh xD;clear xD xJ;go_wp2_with fail;refine WK.mono ?_;rintro e z ⟨rfl,oR,⟨XO,Jo⟩,jW⟩;have C:=yh (aH oR (aH Jo jW));clear WK oR Jo jW;go_wp2;go_ret;rw [Jn.o];exact il.fail a.o H.o r2 (λj m=>m.elim (λh=> .inl h) (λh=> .inr ⟨by omega,h.2⟩)) C.o.1 C.o.2.1 HY8.o ((aa.ah _ jr.o).trans C.o.2.2 (λ_ h=> .inl h)) _
 .have dq:(T.state G S != 0)=true:=by rw [gB];exact q
  rw [aG q] at hR;obtain⟨HR,a,H,P⟩:=Bo hR h O hd;clear hR q;generalize T.state G S=E at*;clear h O hd;go_in;go_wp2_with fail;refine bN h1 λw1 ar=>?_;have HB:=yh ar;clear h1 ar;go_wp2;go_ret;rw [HR.o];exact⟨F,X,pv,ps,hm,rfl,λ_ h=> .inl h,λ_ h=> .inl h,λ_ h=>h,P.o.later HB.o,a.o.later HB.o,H.o.later HB.o,⟨by omega,λ_=>rfl⟩, .inl rfl,aa.ah _ HB.o⟩
end
end
section
section
variable {S:DS} {s t i:Nat} {ls:List LG} {L:LG} {G:SG}
def Db (L:LG) (S:DS) (s:Nat):(L.trim S s).2.1.life=S.life/\(L.trim S s).2.2.life=L.life:=by
 have a:(L.sync S s).2.life=S.life:=by
  unfold LG.sync;split
  .rfl
  .exact fX _ _
 unfold LG.trim;split
 .exact⟨a,rfl⟩
 .split
  .exact⟨a,rfl⟩
  .split
   .exact⟨(iU _ _ _ _).trans a,rfl⟩
   .exact⟨(iU _ _ _ _).trans a,rfl⟩
def SP (du:S.Ok s) (e:L.Ok s) (k:L.begun=true) (p:L.life=S.life) (t:S.num L.f<=L.ep*4294967296+L.tail) (b:(L.trim S s).2.1.fuse≠0):(L.trim S s).2.2.Fit (L.trim S s).2.1:=by
 obtain⟨u,jl,eh⟩:=kH e.s e.n1 e.th;unfold LG.trim at b⊢;by_cases a:(L.sync S s).1≠0
 .rw [aG a] at b;exfalso;apply b;unfold LG.sync at a⊢;by_cases d:L.bj S≠0
  .rw [aG d];show S.fuse=0;unfold LG.bj at d;cases hd:L.dead S
   .rw [hd,k] at d;simp at d
   .unfold LG.dead at hd;rw [p] at hd;simpa using hd
  .rw [aB d] at a⊢;obtain⟨i,j,_⟩:=ly a;rw [i];exact j
 .rw [aB a] at b⊢;have d:L.bj S=0:=by
   unfold LG.sync at a;by_cases c:L.bj S=0
   .exact c
   .rw [aG c] at a;exact absurd (Decidable.of_not_not a) c
  have l:(L.sync S s)=S.fl s:=by unfold LG.sync;rw [aB (by omega)]
  rw [l] at a b⊢;have fB:(S.fl s).2.num L.f=S.num L.f:=Ec du (by omega);have aaJ:=si (s:=s) du;by_cases m:L.tail=L.head
  .rw [aG m];refine⟨λ_=>⟨by rw [(jn (Decidable.of_not_not a))];exact dV _,by rw [fB];exact t⟩,λc=>by rw [k] at c;cases c⟩
  .rw [aB m] at b⊢;have o:((L.ep:Int)*4294967296+(L.head:Int))=((L.ep*4294967296+L.head:Nat):Int):=(by omega);rw [o] at b⊢;have q:=e.ep;have r:=e.hi;obtain⟨N,n⟩:=bQ (L.ep*4294967296+L.head);have g:(S.fl s).2.num L.f<N:=(by rw [fB,n];omega);rw [<-n] at b⊢;by_cases h0:(cZ (S.fl s).2 s L.f (N:Int)).1≠0
   .rw [aG h0] at b;exact absurd (qd (by omega) (iD (bu aaJ L.f (by omega)) (bu aaJ (L.f+1) (by omega)) (N:=N) (by omega) g) h0).1 b
   .rw [aB h0];obtain⟨i,j⟩:=uh (s:=s) (f:=L.f) (N:=N) aaJ (by omega) (by omega) (by omega) g (Decidable.of_not_not h0);refine⟨λ_=>⟨by rw [j];exact dV _,?_⟩,λc=>by rw [show ({L with tail:=L.head}:LG).begun=L.begun from rfl,k] at c;cases c⟩;show (cZ (S.fl s).2 s L.f (N:Int)).2.num L.f<=L.ep*4294967296+L.head;rw [i];omega
def V.Inv.check (h:V.Inv S s ls t) (b:ls[i]? =some G.L) (C:G.L.begun=true) (p:∀q∈G.ov,G.y.home+q.1<s/\q.2.length=512/\Bytes q.2) (Ys:G.ov.length<=2048) (BT:G.L.f+2+G.L.n<=G.y.home):V.Inv (G.check S s).2.1 s (ls.set i (G.check S s).2.2.L) t:=by
 have g:=(h.at b).1;by_cases u:G.L.bj S=0
 .obtain⟨hd,_⟩:=ko u;obtain⟨j,D⟩:=jM hd;have M:=g.s;have jl:=g.n1;obtain⟨F,l,x⟩:=qD (L:=G.L) h.ok;obtain⟨J,m,o,H,z⟩:=eD (h0:=G.y.home) (ms:=G.ov) F (λq d=>⟨(p q d).1,(p q d).2.1⟩);obtain⟨A,K⟩:=Ht (L:=G.L) o (by omega);have xL:=wV (s:=s) h.qf (λq d=>(p q d).2.2);have aeC:=Eo g (aE (G.L.sync S s).2 s G.y.home G.ov).2;have SQ:=Db G.L (aE (G.L.sync S s).2 s G.y.home G.ov).2 s;have N:=h.sync b;have k:G.L.sync S s=S.fl s:=by unfold LG.sync;rw [aB (by omega)]
  have jX:(G.L.sync S s).1=0:=by
   rw [k];apply Decidable.byContradiction;intro v;exact D (ly v).2.1
  have r:(G.L.sync S s).2.puts= []:=by rw [k] at jX⊢;exact jn jX
  have a:=eF (G.L.sync S s).2 s G.y.home G.ov;rw [r] at a;have I:=Ae G.L (aE (G.L.sync S s).2 s G.y.home G.ov).2 s;have fB:(aE (G.L.sync S s).2 s G.y.home G.ov).2.num G.L.f<=G.L.ep*4294967296+G.L.tail:=by
   rw [vN (S:=S) ((z _ (λq d e=>by omega)).trans (x _ (by omega))) ((z _ (λq d e=>by omega)).trans (x _ (by omega)))];exact((h.al G.L (gA b) j D).1 C).2
  have Yw:=SP (S:=(aE (G.L.sync S s).2 s G.y.home G.ov).2) o g C (by rw [m,l];exact j) fB;unfold SG.check at xL⊢;rw [aB (λv=>v jX)] at xL⊢;generalize G.L.sync S s=Z at*;generalize aE Z.2 s G.y.home G.ov=Y at*;by_cases w:Y.1≠0
  .rw [aG w] at xL⊢;refine h.on b j o xL (m.trans l) ?_ g rfl (λc=>absurd (H w) c);show Y.2.puts.length<=6000;simp at a;omega
  .rw [aB w] at xL⊢;have Ms:(G.L.trim Y.2 s).2.1.puts.length<=6000:=(by simp at a;omega);by_cases E:(G.L.trim Y.2 s).1≠0
   .rw [aG E] at xL⊢;exact h.on b j A xL (SQ.1.trans (m.trans l)) Ms aeC.1 SQ.2 Yw
   .rw [aB E] at xL⊢;exact h.on b j A xL (SQ.1.trans (m.trans l)) Ms aeC.1 SQ.2 Yw
 .have e:G.check S s=(G.L.bj S,S,G):=by
   unfold SG.check LG.sync;rw [aG u,aG u]
  rw [e];exact h.same b
def Dc (l:List α) (i:Nat) (a b:α):(l.set i a).set i b=l.set i b:=by simp
def V.Inv.WL (h:V.Inv S s ls t) (e:ls[i]? =some G.L) (l:G.L.begun=true) (k:∀q∈G.ov,G.y.home+q.1<s/\q.2.length=512/\Bytes q.2) (Ys:G.ov.length<=2048) (BT:G.L.f+2+G.L.n<=G.y.home) (m:∀q∈c,Bytes q.2):V.Inv (G.bI S s c).2.1 s (ls.set i (G.bI S s c).2.2.L) t:=by
 have aeD:∀{d:DS} {a:SG},V.Inv d s (ls.set i a.L) t->V.Inv (a.L.append d s (cw c)).2.1 s (ls.set i (a.L.append d s (cw c)).2.2) t:=λ{d a} g=>by
  have b:(ls.set i a.L)[i]? =some a.L:=List.getElem?_set_self ((mP.1 e).1);have Kr:=(g.at b).1;have:=g.append b (qA m) (Ap g.ok (by have:=Kr.n1;omega) Kr.s _).1;rwa [Dc] at this
 have j:V.Inv (G.made S s (cw c).length).2.1 s (ls.set i (G.made S s (cw c).length).2.2.L) t:=by
  unfold SG.made;split
  .exact h.same e
  .exact h.check e l k Ys BT
 unfold SG.bI;split
 .exact h.same e
 .split
  .exact j
  .split
   .exact aeD j
   .exact aeD j
end
end
def WM (h:Bytes xs):PP (strOfNums xs)=xs:=by
 unfold PP strOfNums;simp only [List.map_map];apply List.ext_getElem
 .simp
 .intro i b a;have:=h xs[i] (List.getElem_mem a);simp;omega
def uz (p b o c k m:Nat) (l:List Int) (w:World) (h:Rd w p b o c k l) (a:k+m<=l.length) (Bh:k<c):
  Calls prog 187 #[pQ p,iV (m:Int)] w λe w'=>e= .returned (.string (strOfNums (part l k m)))/\Rd w' p b o c (k+m) l/\aa (λj=>j=p) w w':=by
 go_in;go_wp2_with fail;refine(yq p b o l.length c k m w h.rd a h.cap Bh h.small h.OA).mono ?_;rintro e w1 ⟨rfl,mq,ff⟩;have d:=h.aw mq ff;have f:=run_convert_bytes_arg (P:=prog) w1 36 5 underlying36 underlying5 b (o+k) m (c-k) (part l k m) (fD a) (d.part a) 9 underlying9;go_wp2;go_ret;exact⟨rfl,aH d ff⟩
def qE (l:List Int):Prop:=le (part l (l.length-4) 4)=sumOf (part l 0 (l.length-4))
def Ar (a:k<=l.length) (i:Nat) (b:i<k):(part l 0 k).getD i 0=l.getD i 0:=by
 rw [uu b,Nat.zero_add]
def Dd (b o n c:Nat) (l:List Int) (w:World) (G:l.length=n) (I:4<n) (L:n<=1000000) (J:n<=c) (pj:c<=9223372036854775807) (u:Bytes l) (s:∀i,i<n->w.cell? ⟨b,o+i,none⟩=some (.int .u8 (l.getD i 0))) (du:qE l):
  Calls prog 152 #[.slice (some (aD b o)) n c] w λe w'=>∃p,e= .returned (pQ p)/\w.heap.size<=p/\Rd w' p b o c 0 (part l 0 (n-4))/\bW w w':=by
 have E:b<w.heap.size:=World.block_lt_of_cell? _ _ (s 0 (by omega));have ad1:(n:Int)-4=((n-4:Nat):Int):=by omega
 have M:(0:Int)<=(((n-4:Nat)):Int):=by omega
 have N:(((n-4:Nat)):Int)<=(n:Int):=by omega
 have O:(((n-4:Nat)):Int)<=(c:Int):=by omega
 obtain⟨w1,bL⟩:=bQ (w.alloc (.cells #[.slice (some ⟨b,o+(n-4),none⟩) 4 (c-(n-4)), .int .i64 0] 224));have bO:bW w w1:=by rw [bL];exact(bi _ w).alloc (bS _) _
 have pg:w1.heap[w.heap.size]? =some (.cells #[.slice (some ⟨b,o+(n-4),none⟩) 4 (c-(n-4)), .int .i64 0] 224 (0,0)):=by rw [bL];exact heap_alloc_new _ _
 have sq:w1.heap.size=w.heap.size+1:=by rw [bL];simp
 have t:(part l (n-4) 4).length=4:=fD (by omega);have vB:∀wx:World,bW w1 wx->Rd wx w.heap.size b (o+(n-4)) (c-(n-4)) 0 (part l (n-4) 4):=λwx a=>
    ⟨by show vM _ _ _ _ _ _ _;unfold vM;rw [t];exact(a.block _ (by omega)).trans pg,by omega,λi g=>by
   rw [t] at g;rw [uu g,Nat.add_assoc];exact cell_later (bO.trans (a.mono (by omega))) (s (n-4+i) (by omega)),dT u _ _,by omega,by omega,by omega,λ_=>by have:=a.size;omega⟩
 have fB:∀wx:World,bW w1 wx->Calls prog 188 #[pQ w.heap.size,iV 4] wx λe w'=>e= .returned (iV ((le (part l (n-4) 4):Nat):Int))/\bW w w':=λwx a=>by
  refine(oO _ _ _ _ 0 4 _ wx (vB wx a) (by omega) (by omega) (by omega)).mono ?_;rintro e w' ⟨rfl,_,F⟩;have C:part (part l (n-4) 4) 0 4=part l (n-4) 4:=by
   show ((part l (n-4) 4).drop 0).take 4=_;rw [List.drop_zero,nz (by omega)]
  have z:=lz (dT u (n-4) 4);rw [t] at z;refine⟨?_,(bO.trans (a.mono (by omega))).trans (F.below (λj K=>by omega) (by have:=a.size;omega))⟩;rw [C];congr 2;unfold wrap64;have:(2:Nat) ^ (8*4)=4294967296:=rfl;omega
 have fS:∀wx:World,bW w wx->Calls prog 146 #[.slice (some (aD b o)) (n-4) c] wx λe w'=>e= .returned (iV ((sumOf (part l 0 (n-4)):Nat):Int))/\bW w w'/\(bW w1 wx->bW w1 w'):=λwx a=>
    (xV (some (aD b o)) (n-4) c _ wx (dT u _ _) (by omega) ⟨fD (l:=l) (k:=0) (m:=n-4) (by omega),(λh=>by cases h),λx Uq i g=>by
   cases Uq;rw [aN,Ar (by omega) i g];exact cell_later a (s i (by omega))⟩).mono (by rintro e w' ⟨rfl,gX⟩;exact⟨rfl,a.trans (gX.mono a.size),λh=>h.trans (gX.mono h.size)⟩)
 have r:le (part l (n-4) 4)=sumOf (part l 0 (n-4)):=by have:=du;unfold qE at this;rw [G] at this;exact this
 rw [r] at fB;have cQ:=bO;have ld:(∀wx:World,bW w wx->Rd (wx.alloc (.cells #[.slice (some ⟨b,o,none⟩) (n-4) c, .int .i64 0] 224)) wx.heap.size b o c 0 (part l 0 (n-4))/\bW w (wx.alloc (.cells #[.slice (some ⟨b,o,none⟩) (n-4) c, .int .i64 0] 224))):=λwx a=>by
  have A:(part l 0 (n-4)).length=n-4:=fD (by omega);have H:=a.size;refine⟨⟨by show vM _ _ _ _ _ _ _;unfold vM;rw [A];exact heap_alloc_new _ _,by omega,λi g=>?_,dT u _ _,by omega,by omega,by omega,λ_=>by simp;omega⟩,a.alloc H _⟩;rw [A] at g;rw [Ar (by omega) i g];exact Lib.cell?_alloc_some _ (cell_later a (s i (by omega)))
 have ajL:=fB;have QW:=fS;generalize sumOf (part l 0 (n-4))=S at*;have D:n-(n-4)=4:=by omega
 have ajM:¬c=n-4:=by omega
 clear s vB pg t du r fB fS bO;go_in;go_wp2_with fail;rw [<-bL];clear bL;have q:=(ai (bi w1.heap.size w1));have v:=(ai cQ)
 go_region_with (first
  |(go_at_call 188;refine(ajL _ ?_).mono ?_;(first|exact q|exact y);rintro e P ⟨rfl,bd⟩;have d:=bd;clear bd)
  |(go_at_call 146;refine(QW _ ?_).mono ?_;(first|exact v|exact d);rintro e Q ⟨rfl,bF,PR⟩;have f:=bF;(try have y:=(PR q));clear bF PR)
  |(go_at_call 186;refine(sX _).mono ?_;rintro e R ⟨rfl,rfl⟩))
 all_goals
  go_wp2;go_ret;first
   |exact⟨_,rfl,f.size,(ld _ f).1,(ld _ f).2⟩
   |exact⟨_,rfl,d.size,(ld _ d).1,(ld _ d).2⟩
def As {P:Program} {b:Array Oper} {o:Oper} {a:Act} {K:Act->World->Prop} {Q:Exit->Act->World->Prop} (Gb:o.guard=none) (f:FuncId) (args:Array Value)
    (I2:(execOp a.eval o).run P w= .ok (.enter f args) w) (R:Value->World->Prop) (c:Calls P f args w λe w'=>∃v,e= .returned v/\R v w') (h:∀v w',R v w'->K (a.put o.dst v) w'):
  if Region.wanted o (yielded b a.tmps)=true then Oper.wp P o a w K Q else E:=by
 have g:Region.wanted o (yielded b a.tmps)=true:=by simp [Region.wanted,Gb]
 rw [aG g];unfold Oper.wp;rw [I2,Oper.upon_enter];refine c.mono ?_;rintro e w' ⟨v,rfl,d⟩;exact h v w' d
def OJ {P:Program} {c:Array Oper} {o:Oper} {a:Act} {K:Act->World->Prop} {Q:Exit->Act->World->Prop} (Gb:o.guard=none) (f:FuncId) (args:Array Value)
    (I2:(execOp a.eval o).run P w= .ok (.enter f args) w) (b:List PanicEntry) (d:Calls P f args w λe w'=>e= .panicked b/\w'=w) (g:Q (.panic b) a w) (_:False->K (a.put o.dst undef) w):
  if Region.wanted o (yielded c a.tmps)=true then Oper.wp P o a w K Q else E:=by
 have i:Region.wanted o (yielded c a.tmps)=true:=by simp [Region.wanted,Gb]
 rw [aG i];unfold Oper.wp;rw [I2,Oper.upon_enter];refine d.mono ?_;rintro e w' ⟨rfl,rfl⟩;exact g
def OK (b o n c:Nat) (l:List Int) (w:World) (G:l.length=n) (H:4<n) (K:n<=1000000) (I:n<=c) (pj:c<=9223372036854775807) (t:Bytes l) (y:∀i,i<n->w.cell? ⟨b,o+i,none⟩=some (.int .u8 (l.getD i 0))) (du:¬qE l):
  Calls prog 152 #[.slice (some (aD b o)) n c] w λe w'=>e= .panicked mZ/\bW w w':=by
 have D:b<w.heap.size:=World.block_lt_of_cell? _ _ (y 0 (by omega));have ad1:(n:Int)-4=((n-4:Nat):Int):=by omega
 have M:(0:Int)<=(((n-4:Nat)):Int):=by omega
 have N:(((n-4:Nat)):Int)<=(n:Int):=by omega
 have O:(((n-4:Nat)):Int)<=(c:Int):=by omega
 obtain⟨w1,bL⟩:=bQ (w.alloc (.cells #[.slice (some ⟨b,o+(n-4),none⟩) 4 (c-(n-4)), .int .i64 0] 224));have bO:bW w w1:=by rw [bL];exact(bi _ w).alloc (bS _) _
 have pg:w1.heap[w.heap.size]? =some (.cells #[.slice (some ⟨b,o+(n-4),none⟩) 4 (c-(n-4)), .int .i64 0] 224 (0,0)):=by rw [bL];exact heap_alloc_new _ _
 have sq:w1.heap.size=w.heap.size+1:=by rw [bL];simp
 have p:(part l (n-4) 4).length=4:=fD (by omega);have vB:∀wx:World,bW w1 wx->Rd wx w.heap.size b (o+(n-4)) (c-(n-4)) 0 (part l (n-4) 4):=λwx a=>
    ⟨by show vM _ _ _ _ _ _ _;unfold vM;rw [p];exact(a.block _ (by omega)).trans pg,by omega,λi g=>by
   rw [p] at g;rw [uu g,Nat.add_assoc];exact cell_later (bO.trans (a.mono (by omega))) (y (n-4+i) (by omega)),dT t _ _,by omega,by omega,by omega,λ_=>by have:=a.size;omega⟩
 have fB:∀wx:World,bW w1 wx->Calls prog 188 #[pQ w.heap.size,iV 4] wx λe w'=>e= .returned (iV ((le (part l (n-4) 4):Nat):Int))/\bW w w':=λwx a=>by
  refine(oO _ _ _ _ 0 4 _ wx (vB wx a) (by omega) (by omega) (by omega)).mono ?_;rintro e w' ⟨rfl,_,F⟩;have z:part (part l (n-4) 4) 0 4=part l (n-4) 4:=by
   show ((part l (n-4) 4).drop 0).take 4=_;rw [List.drop_zero,nz (by omega)]
  have u:=lz (dT t (n-4) 4);rw [p] at u;refine⟨?_,(bO.trans (a.mono (by omega))).trans (F.below (λj J=>by omega) (by have:=a.size;omega))⟩;rw [z];congr 2;unfold wrap64;have:(2:Nat) ^ (8*4)=4294967296:=rfl;omega
 have fS:∀wx:World,bW w wx->Calls prog 146 #[.slice (some (aD b o)) (n-4) c] wx λe w'=>e= .returned (iV ((sumOf (part l 0 (n-4)):Nat):Int))/\bW w w'/\(bW w1 wx->bW w1 w'):=λwx a=>
    (xV (some (aD b o)) (n-4) c _ wx (dT t _ _) (by omega) ⟨fD (l:=l) (k:=0) (m:=n-4) (by omega),(λh=>by cases h),λx Uq i g=>by
   cases Uq;rw [aN,Ar (by omega) i g];exact cell_later a (y i (by omega))⟩).mono (by rintro e w' ⟨rfl,gX⟩;exact⟨rfl,a.trans (gX.mono a.size),λh=>h.trans (gX.mono h.size)⟩)
 have E:le (part l (n-4) 4)≠sumOf (part l 0 (n-4)):=by have:=du;unfold qE at this;rw [G] at this;exact this
 have zZ:(((le (part l (n-4) 4):Nat):Int) == ((sumOf (part l 0 (n-4)):Nat):Int))=false:=by rw [Bool.eq_false_iff,ne_eq,beq_iff_eq];omega
 generalize sumOf (part l 0 (n-4))=S at*;generalize le (part l (n-4) 4)=L at*;have A:n-(n-4)=4:=by omega
 have ajM:¬c=n-4:=by omega
 go_in;go_wp2_with fail;rw [<-bL];have d:=(ai (bi w1.heap.size w1));have q:=(ai bO);have aeG:(∀wx:World,bW w1 wx->Calls prog 188 #[pQ w.heap.size,iV 4] wx λe w'=>∃v,e= .returned v/\(v=iV (L:Int)/\bW w w')):=λwx a=>(fB wx a).mono (by rintro e w' ⟨rfl,h⟩;exact⟨_,rfl,rfl,h⟩);have aeH:(∀wx:World,bW w wx->Calls prog 146 #[.slice (some (aD b o)) (n-4) c] wx λe w'=>∃v,e= .returned v/\(v=iV (S:Int)/\bW w w'/\(bW w1 wx->bW w1 w'))):=λwx a=>(fS wx a).mono (by rintro e w' ⟨rfl,h⟩;exact⟨_,rfl,rfl,h⟩)
 go_region_law
  (first
   |(refine As (by rfl) 188 #[pQ w.heap.size,iV 4] (by simp [go_sem]) _ (aeG _ ?_) ?_;(first|exact d|exact r);rintro _ P ⟨rfl,bd⟩;have f:=bd;clear bd)
   |(refine As (by rfl) 146 #[.slice (some (aD b o)) (n-4) c] (by simp [go_sem]) _ (aeH _ ?_) ?_;(first|exact q|exact f);rintro _ Q ⟨rfl,bF,PR⟩;have s:=bF;(try have r:=(PR d));clear bF PR)
   |(refine OJ (by rfl) 186 #[.bool false] (by simp [go_sem]) mZ (Ew _) ?_ ?_;(first|exact⟨rfl,rfl,s⟩|exact⟨rfl,rfl,f⟩);intro C))
 all_goals exact C.elim
def K1 (a:xs=gz):((strOfNums xs).toList == [118,101,108,108,117,109,0,1])=true:=by
 subst a;decide+kernel
def aaL (h:Bytes xs) (a:xs≠gz):((strOfNums xs).toList == [118,101,108,108,117,109,0,1])=false:=by
 rw [Bool.eq_false_iff,ne_eq,beq_iff_eq];intro e;apply a;have:=WM h;rw [<-this];unfold PP;rw [<-ByteArray.toList_eq,e];rfl
def u32 (l:List Int) (k:Nat):Nat:=le (part l k 4)
def aaM (h:Bytes l) (a:k+4<=l.length):u32 l k<4294967296:=by
 have:=lz (dT h k 4);rw [fD a] at this;exact this
def SR (h:Bytes l) (a:k+4<=l.length):wrap64 ((le (part l k 4):Nat):Int)=((u32 l k:Nat):Int):=by
 have:=aaM h a;unfold u32 at*;unfold wrap64;omega
def uA (p b o c k:Nat) (l:List Int) (w:World) (h:Rd w p b o c k l) (a:k+4<=l.length) (Bh:k<c):
  Calls prog 188 #[pQ p,iV 4] w λe w'=>e= .returned (iV ((u32 l k:Nat):Int))/\Rd w' p b o c (k+4) l/\aa (λj=>j=p) w w':=by
 refine(oO p b o c k 4 l w h a Bh (by omega)).mono ?_;rintro e w' ⟨rfl,d,f⟩;exact⟨by rw [SR h.bytes a],d,f⟩
structure Reads (p g:Nat) (w w':World) (cs:Array Value) (t:TypeId):Prop where
 k:aa (λj=>j=p) w w'
 dI:w'.heap[g]? =some (.cells cs t (0,0))
 ne:g≠p
def Reads.step {t:TypeId} (h:Reads p g w w1 cs t) (a:aa (λj=>j=p) w1 w2):Reads p g w w2 cs t:=
   ⟨h.k.trans a (λ_ h=> .inl h),(a.block g (lV.1 h.dI).1 h.ne).trans h.dI,h.ne⟩
def Reads.below {t:TypeId} (h:Reads p g w w1 cs t) (a:bW w1 w2):Reads p g w w2 cs t:=h.step (aa.ah _ a)
def aa.put (h:aa F w wx) (a:w.heap.size<=g) (v:Value):aa F w (wx.setCell ⟨g,i,none⟩ v):=
 h.trans (aa.setCell (F:=λj=>j=g) (p:=⟨g,i,none⟩) wx rfl v) (λj b=> .inr (by omega))
def aa.more (h:aa F w wx) (o:Obj):aa F w (wx.alloc o):=h.trans (aa.alloc F wx o) (λ_ h=> .inl h)
structure H9 (l:List Int):Prop where
 head:part l 0 8=gz
 tL:uv (part l 20 488)
 geo:vJ (u32 l 8) (u32 l 12) (u32 l 16)
def ED (p b o c:Nat) (l:List Int) (w:World) (h:Rd w p b o c 0 l) (J:l.length=508) (du:H9 l):
  Calls prog 151 #[pQ p] w λe w'=>e= .returned (.agg #[iV ((u32 l 8:Nat):Int),iV ((u32 l 12:Nat):Int),iV ((u32 l 16:Nat):Int)])/\aa (λj=>j=p) w w':=by
 have I:=h.cap;have aaN:=K1 du.head;have pC:=(lV.1 h.rd).1;obtain⟨w1,bL⟩:=bQ (w.alloc (.cells #[.int .i64 0, .int .i64 0, .int .i64 0] 39));have bO:bW w w1:=by rw [bL];exact(bi _ w).alloc (bS _) _
 have n:Reads p w.heap.size w w1 #[iV 0,iV 0,iV 0] 39:=⟨aa.ah _ bO,by rw [bL];exact heap_alloc_new _ _,by omega⟩;have u:Calls prog 187 #[pQ p,iV 8] w1 λe w'=>e= .returned (.string (strOfNums (part l 0 8)))/\Rd w' p b o c 8 l/\aa (λj=>j=p) w1 w':=uz p b o c 0 8 l w1 (h.lU bO) (by omega) (by omega);generalize strOfNums (part l 0 8)=A at*;go_in;go_wp2_with fail;rw [<-bL];refine fR u λC fy aY=>?_;go_wp2_with fail;refine(sX _).mono ?_;rintro e N ⟨rfl,i⟩;have eM:=i.symm;subst eM;go_wp2_with fail;refine(uA p b o c 8 l C fy (by omega) (by omega)).mono ?_;rintro e D ⟨rfl,wR,dW⟩;go_wp2_with fail;refine(uA p b o c 12 l D wR (by omega) (by omega)).mono ?_;rintro e w5 ⟨rfl,Fr,dX⟩;go_wp2_with fail;refine(uA p b o c 16 l w5 Fr (by omega) (by omega)).mono ?_;rintro e f ⟨rfl,I3,jE⟩;have g:=((((n.step aY).step dW).step dX).step jE);have t:=(lV.1 I3.rd).1;have y:∀wx:World,bW f wx->Calls prog 189 #[pQ p,iV 508] wx λe w'=>e= .returned (.tuple #[])/\Rd w' p b o c 508 l/\aa (λj=>j=p) wx w':=λwx x=>C7 p b o c 20 488 l wx (I3.lU x) (by omega) (by omega) du.tL;have ST:∀o,bW f (f.alloc o):=λo=>(bi _ f).alloc (bS _) _;go_wp2_with fail;refine(y _ (ST _)).mono ?_;rintro e m ⟨rfl,_,gQ⟩;have Mz:m.heap[f.heap.size]? =some (.cells #[.int .i64 ((u32 l 8:Nat):Int), .int .i64 ((u32 l 12:Nat):Int), .int .i64 ((u32 l 16:Nat):Int)] 39 (0,0)):=(gQ.block _ (by simp) (by omega)).trans (heap_alloc_new _ _);obtain⟨a,z,s1,s2⟩:=cO du.geo (aM Mz) (bG Mz) (bK Mz);go_wp2_with fail;refine(rj (u32 l 8) (u32 l 12) (u32 l 16) m a.1.1 a.1.2 a.2.1.1 a.2.1.2 a.2.2.1 a.2.2.2.1 a.2.2.2.2).mono ?_;rintro e E ⟨rfl,BS⟩;obtain⟨d,K,L,M,Da⟩:=eK ((((g.below (ST _)).step gQ).below BS)) (cell_later BS z) (cell_later BS s1) (cell_later BS s2) (i6 (lV.1 Mz).1 BS.size);have tA:=d.dI;have Me:=λo=>(Below.heap_alloc E o _ (lV.1 tA).1).trans tA;have q:=λo=>aM (Me o);have r:=λo=>bG (Me o);have s:=λo=>bK (Me o);have F:=λo=>ae (Me o) 0;have G:=λo=>ae (Me o) 1;have H:=λo=>ae (Me o) 2;go_wp2_with fail;refine(sX _).mono ?_;rintro e O ⟨rfl,i⟩;have eM:=i.symm;subst eM;go_wp2;refine bodyPost_ret (v:= .agg #[iV ((u32 l 8:Nat):Int),iV ((u32 l 12:Nat):Int),iV ((u32 l 16:Nat):Int)]) (by simp [results,results151,go_sem,q,r,s]) rfl ⟨rfl,?_⟩;exact(((d.k.more _).put (bS _) _).put (bS _) _).put (bS _) _
def BU (p b o c:Nat) (l:List Int) (w:World) (h:Rd w p b o c 0 l) (m:l.length=508) (du:part l 0 8≠gz):
  Calls prog 151 #[pQ p] w λe w'=>e= .panicked mZ/\aa (λj=>j=p) w w':=by
 have i:=h.cap;have aaN:=aaL (dT h.bytes 0 8) du;have pC:=(lV.1 h.rd).1;obtain⟨w1,bL⟩:=bQ (w.alloc (.cells #[.int .i64 0, .int .i64 0, .int .i64 0] 39));have bO:bW w w1:=by rw [bL];exact(bi _ w).alloc (bS _) _
 have a:Reads p w.heap.size w w1 #[iV 0,iV 0,iV 0] 39:=⟨aa.ah _ bO,by rw [bL];exact heap_alloc_new _ _,by omega⟩;have d:Calls prog 187 #[pQ p,iV 8] w1 λe w'=>e= .returned (.string (strOfNums (part l 0 8)))/\Rd w' p b o c 8 l/\aa (λj=>j=p) w1 w':=uz p b o c 0 8 l w1 (h.lU bO) (by omega) (by omega);generalize strOfNums (part l 0 8)=g at*;go_in;go_wp2_with fail;rw [<-bL];refine fR d λn fy aY=>?_;go_wp2_with fail;refine(Ew _).mono ?_;rintro e q ⟨rfl,f⟩;have eM:=f.symm;subst eM;go_wp2;exact⟨rfl,rfl,(a.step aY).k⟩
def BV (p b o c:Nat) (l:List Int) (w:World) (h:Rd w p b o c 0 l) (x:l.length=508) (g:part l 0 8=gz) (i:¬uv (part l 20 488)):
  Calls prog 151 #[pQ p] w λe w'=>e= .panicked mZ/\aa (λj=>j=p) w w':=by
 have v:=h.cap;have aaN:=K1 g;have pC:=(lV.1 h.rd).1;obtain⟨w1,bL⟩:=bQ (w.alloc (.cells #[.int .i64 0, .int .i64 0, .int .i64 0] 39));have bO:bW w w1:=by rw [bL];exact(bi _ w).alloc (bS _) _
 have f:Reads p w.heap.size w w1 #[iV 0,iV 0,iV 0] 39:=⟨aa.ah _ bO,by rw [bL];exact heap_alloc_new _ _,by omega⟩;have m:Calls prog 187 #[pQ p,iV 8] w1 λe w'=>e= .returned (.string (strOfNums (part l 0 8)))/\Rd w' p b o c 8 l/\aa (λj=>j=p) w1 w':=uz p b o c 0 8 l w1 (h.lU bO) (by omega) (by omega);generalize strOfNums (part l 0 8)=s at*;go_in;go_wp2_with fail;rw [<-bL];refine fR m λt fy aY=>?_;go_wp2_with fail;refine(sX _).mono ?_;rintro e y ⟨rfl,n⟩;have eM:=n.symm;subst eM;go_wp2_with fail;refine(uA p b o c 8 l t fy (by omega) (by omega)).mono ?_;rintro e u ⟨rfl,wR,dW⟩;go_wp2_with fail;refine(uA p b o c 12 l u wR (by omega) (by omega)).mono ?_;rintro e w5 ⟨rfl,Fr,dX⟩;go_wp2_with fail;refine(uA p b o c 16 l w5 Fr (by omega) (by omega)).mono ?_;rintro e a ⟨rfl,I3,jE⟩;have d:=((((f.step aY).step dW).step dX).step jE);have r:∀wx:World,bW a wx->Calls prog 189 #[pQ p,iV 508] wx λe w'=>e= .panicked mZ/\aa (λj=>j=p) wx w':=λwx q=>OB p b o c 20 488 l wx (I3.lU q) (by omega) (by omega) i;have ST:∀o,bW a (a.alloc o):=λo=>(bi _ a).alloc (bS _) _;go_wp2_with fail;refine(r _ (ST _)).mono ?_;rintro e z ⟨rfl,gQ⟩;go_wp2;exact⟨rfl,rfl,((d.below (ST _)).step gQ).k⟩
def BW (p b o c:Nat) (l:List Int) (w:World) (h:Rd w p b o c 0 l) (F:l.length=508) (m:part l 0 8=gz) (n:uv (part l 20 488)) (q:¬vJ (u32 l 8) (u32 l 12) (u32 l 16)):
  Calls prog 151 #[pQ p] w λe w'=>e= .panicked mZ/\aa (λj=>j=p) w w':=by
 have E:=h.cap;have aaN:=K1 m;have pC:=(lV.1 h.rd).1;obtain⟨w1,bL⟩:=bQ (w.alloc (.cells #[.int .i64 0, .int .i64 0, .int .i64 0] 39));have bO:bW w w1:=by rw [bL];exact(bi _ w).alloc (bS _) _
 have i:Reads p w.heap.size w w1 #[iV 0,iV 0,iV 0] 39:=⟨aa.ah _ bO,by rw [bL];exact heap_alloc_new _ _,by omega⟩;have u:Calls prog 187 #[pQ p,iV 8] w1 λe w'=>e= .returned (.string (strOfNums (part l 0 8)))/\Rd w' p b o c 8 l/\aa (λj=>j=p) w1 w':=uz p b o c 0 8 l w1 (h.lU bO) (by omega) (by omega);generalize strOfNums (part l 0 8)=A at*;go_in;go_wp2_with fail;rw [<-bL];refine fR u λC fy aY=>?_;go_wp2_with fail;refine(sX _).mono ?_;rintro e H ⟨rfl,g⟩;have eM:=g.symm;subst eM;go_wp2_with fail;refine(uA p b o c 8 l C fy (by omega) (by omega)).mono ?_;rintro e D ⟨rfl,wR,dW⟩;go_wp2_with fail;refine(uA p b o c 12 l D wR (by omega) (by omega)).mono ?_;rintro e w5 ⟨rfl,Fr,dX⟩;go_wp2_with fail;refine(uA p b o c 16 l w5 Fr (by omega) (by omega)).mono ?_;rintro e a ⟨rfl,I3,jE⟩;have f:=((((i.step aY).step dW).step dX).step jE);have t:=(lV.1 I3.rd).1;have z:∀wx:World,bW a wx->Calls prog 189 #[pQ p,iV 508] wx λe w'=>e= .returned (.tuple #[])/\Rd w' p b o c 508 l/\aa (λj=>j=p) wx w':=λwx y=>C7 p b o c 20 488 l wx (I3.lU y) (by omega) (by omega) n;have ST:∀o,bW a (a.alloc o):=λo=>(bi _ a).alloc (bS _) _;go_wp2_with fail;refine(z _ (ST _)).mono ?_;rintro e d ⟨rfl,_,gQ⟩;have Mz:d.heap[a.heap.size]? =some (.cells #[.int .i64 ((u32 l 8:Nat):Int), .int .i64 ((u32 l 12:Nat):Int), .int .i64 ((u32 l 16:Nat):Int)] 39 (0,0)):=(gQ.block _ (by simp) (by omega)).trans (heap_alloc_new _ _);have Y6:Calls prog 98 #[.agg #[iV ((u32 l 8:Nat):Int),iV ((u32 l 12:Nat):Int),iV ((u32 l 16:Nat):Int)]] d λe w'=>e= .returned (.tuple #[.agg #[iV 0,iV 0,iV 0,iV 0,iV 0],iV 22])/\bW d w':=by
  refine(GZ _ _ _ d).mono ?_;rintro e w' ⟨v,x,rfl,⟨s,_⟩|⟨_,rfl,rfl⟩,r⟩
  .exact absurd s q
  .exact⟨rfl,r⟩
 have G:=aM Mz;have s1:=bG Mz;have s2:=bK Mz;go_wp2_with fail;refine bN Y6 λI BS=>?_;go_wp2_with fail;refine(Ew _).mono ?_;rintro e J ⟨rfl,g⟩;have eM:=g.symm;subst eM;go_wp2;exact⟨rfl,rfl,(((f.below (ST _)).step gQ).below BS).k.more _⟩
def EE (p b o c:Nat) (l:List Int) (w:World) (h:Rd w p b o c 0 l) (f:l.length=508) (du:¬H9 l):
  Calls prog 151 #[pQ p] w λe w'=>e= .panicked mZ/\aa (λj=>j=p) w w':=by
 by_cases a:part l 0 8=gz
 .by_cases d:uv (part l 20 488)
  .exact BW p b o c l w h f a d (λg=>du ⟨a,d,g⟩)
  .exact BV p b o c l w h f a d
 .exact BU p b o c l w h f a
def SU:∀{xs:List Int},Bytes xs->bB xs.length (le xs)=xs
 | [],_=>rfl
 |x :: t,h=>by
  have d:=h x (by simp);rw [List.length_cons,bB,le];have a:(x.toNat+256*le t) / 256=le t:=by omega
  have b:(((x.toNat+256*le t)%256:Nat):Int)=x:=by omega
  rw [a,b,(SU (xs:=t) (λy c=>h y (by simp [c])))]
def At:∀(k m:Nat),m<256 ^ k->le (bB k m)=m
 |0,m,h=>by simp at h;simp [bB,le,h]
 |k+1,m,h=>by
  have a:m / 256<256 ^ k:=by rw [Nat.pow_succ] at h;exact Nat.div_lt_of_lt_mul (by rw [Nat.mul_comm];exact h)
  rw [bB,le,At k _ a];omega
def OL (h:∀x∈l,x=0):l=List.replicate l.length 0:=List.eq_replicate_iff.2 ⟨rfl,h⟩
def kx {a m:Nat} (h:q+m<=a):part (part l 0 a) q m=part l q m:=by
 unfold part;rw [List.drop_zero,List.drop_take,List.take_take];congr 1;omega
def ma (l:List Int) (q m k:Nat):part l q (m+k)=part l q m ++ part l (q+m) k:=by
 unfold part;rw [List.take_add,List.drop_drop]
def Ia (l:List Int):part l 0 l.length=l:=by simp [part]
def qF (A B:List Int) (q m:Nat) (h:q=A.length):part (A ++ B) q m=B.take m:=by
 subst h;simp [part]
def iX (A B:List Int) (q m:Nat) (h:q+m<=A.length):part (A ++ B) q m=part A q m:=by
 unfold part;rw [List.drop_append_of_le_length (by omega),List.take_append_of_le_length (by simp;omega)]
def uB (a:Bytes l) (b:q+4<=l.length):bB 4 (u32 l q)=part l q 4:=by
 have:=SU (dT a q 4);rw [fD b] at this;exact this
def Au (l:List Int):Prop:=vJ (u32 l 8) (u32 l 12) (u32 l 16)/\eV (bP (u32 l 8) (u32 l 12) (u32 l 16))=l
def De (b:Bytes l) (j:l.length=512):(qE l/\H9 (part l 0 508))↔Au l:=by
 have u1:u32 (part l 0 508) 8=u32 l 8:=by unfold u32;rw [kx (by omega)]
 have u2:u32 (part l 0 508) 12=u32 l 12:=by unfold u32;rw [kx (by omega)]
 have u3:u32 (part l 0 508) 16=u32 l 16:=by unfold u32;rw [kx (by omega)]
 have QV:part l 0 508=part l 0 8 ++ part l 8 4 ++ part l 12 4 ++ part l 16 4 ++ part l 20 488:=by
  rw [show (508:Nat)=8+4+4+4+488 from rfl,ma,ma,ma,ma]
 have aaO:l=part l 0 508 ++ part l 508 4:=by
  have:=ma l 0 508 4;rw [show 508+4=l.length by omega,Ia] at this;exact this
 constructor
 .rintro ⟨f,i,k,c⟩;rw [u1,u2,u3] at c;rw [kx (by omega)] at i k;refine⟨c,?_⟩;have e:bP (u32 l 8) (u32 l 12) (u32 l 16)=part l 0 508:=by
   rw [QV,i,<-uB b (q:=8) (by omega),<-uB b (q:=12) (by omega),<-uB b (q:=16) (by omega)];have:=OL k;rw [fD (by omega)] at this;rw [this];rfl
  unfold eV;rw [e];unfold qE at f;rw [j] at f;have m:u32 l 508=sumOf (part l 0 508):=f;rw [<-m,(uB b (q:=508) (by omega))];exact aaO.symm
 .rintro ⟨c,g⟩;have a:=dG (u32 l 8) (u32 l 12) (u32 l 16);have SV:part l 0 508=bP (u32 l 8) (u32 l 12) (u32 l 16):=by
   conv=>lhs;rw [<-g]
   unfold eV;rw [iX _ _ _ _ (by omega)];have:=Ia (bP (u32 l 8) (u32 l 12) (u32 l 16));rw [a] at this;exact this
  have Ga:part l 508 4=bB 4 (sumOf (bP (u32 l 8) (u32 l 12) (u32 l 16))):=by
   conv=>lhs;rw [<-g]
   unfold eV;rw [qF _ _ _ _ a.symm,nz (by rw [aK];omega)]
  refine⟨?_,?_,?_,?_⟩
  .unfold qE;rw [j];show le (part l 508 4)=sumOf (part l 0 508);rw [Ga,SV,At _ _ (by have:=ny (ib (u32 l 8) (u32 l 12) (u32 l 16));omega)]
  .rw [SV];unfold bP;rw [List.append_assoc,List.append_assoc,List.append_assoc,iX _ _ _ _ (by decide)];rfl
  .rw [SV];unfold bP;have d:(gz ++ bB 4 (u32 l 8) ++ bB 4 (u32 l 12) ++ bB 4 (u32 l 16)).length=20:=(by rw [ed,ed,ed,aK,aK,aK];rfl);rw [qF _ _ _ _ d.symm];intro x n;exact List.eq_of_mem_replicate (List.mem_of_mem_take n)
  .rw [u1,u2,u3];exact c
def uC (a c:Nat) (f g i:Value) (x:Value) (w:World) (b:w.heap[a]? =some (.cells #[f,g,i] 39 (0,0))) (d:w.heap[c]? =some (.cells #[x] 49 (0,0))) (dM:a≠c):
  CallsD prog 150 #[pQ a,pQ c] (.panicking mZ) w λe k w'=>
   e= .returned (.tuple #[])/\k= .panicking [{v:= .iface 49 (iV 6),recovered:=true}]/\w'=(((w.setCell ⟨a,0,none⟩ (.int .i64 0)).setCell ⟨a,1,none⟩ (.int .i64 0)).setCell ⟨a,2,none⟩ (.int .i64 0)).setCell ⟨c,0,none⟩ (.int .i64 6):=by
 have ajP:¬c=a:=λe=>dM e.symm;refine callsD_of_wpS func150 rfl λl cs j=>?_;apply wpS_seq;apply wpS_region;simp [wpOpsS,go_sem,recoverD,j,ntmps150,Exit.thenS];refine wpS_cond (t:=true) (by simp [Act.eval,Array.replicate]) ?_;simp only [if_true];apply wpS_region;simp [wpOpsS,go_sem,aM b,bG b,bK b,ae b 0,ae b 1,ae b 2,aM d,ae d 0,bodyPostS,results,results150]
def Ib (b c:Nat) (w:World):
  CallsD prog 150 #[pQ b,pQ c] .returning w λe f w'=>e= .returned (.tuple #[])/\f= .returning/\w'=w:=by
 refine callsD_of_wpS func150 rfl λa cs d=>?_;apply wpS_seq;apply wpS_region;simp [wpOpsS,go_sem,recoverD,d,ntmps150,Exit.thenS];refine wpS_cond (t:=false) (by simp [Act.eval,Array.replicate]) ?_;simp only [Bool.false_eq_true,if_false];refine wpS_of_wp (wp_skip ?_);cases a
 simp_all [bodyPostS,results,results150]
def ro {B:Nat} (h:Below B w wx) (b:B<=g) (a:B<=wx.heap.size) (v:Value):Below B w (wx.setCell ⟨g,i,none⟩ v):=
 h.trans ((aa.setCell (F:=λj=>j=g) (p:=⟨g,i,none⟩) wx rfl v).below (λj c=>by omega) a)
def size_setCell (w:World) (a:Addr) (v:Value):(w.setCell a v).heap.size=w.heap.size:=by simp [World.setCell]
def K2 {B:Nat} (h:Below B w wx) {a:Nat} (c:B<=a) (d:B<=g2) (b:B<=wx.heap.size) (x y z u:Value):
  Below B w ((((wx.setCell ⟨a,0,none⟩ x).setCell ⟨a,1,none⟩ y).setCell ⟨a,2,none⟩ z).setCell ⟨g2,0,none⟩ u):=
 ro (ro (ro (ro h c b x) c (by rw [size_setCell];exact b) y) c (by rw [size_setCell,size_setCell];exact b) z) d (by rw [size_setCell,size_setCell,size_setCell];exact b) u
def oT (l:List Int):Prop:=qE l/\H9 (part l 0 508)
def Ic (b o c:Nat) (l:List Int) (w:World) (u:l.length=512) (s:512<=c) (pj:c<=9223372036854775807) (r:Bytes l) (v:∀i,i<512->w.cell? ⟨b,o+i,none⟩=some (.int .u8 (l.getD i 0))) (du:oT l):
  Calls prog 108 #[.slice (some (aD b o)) 512 c] w λe w'=>e= .returned (.tuple #[.agg #[iV ((u32 l 8:Nat):Int),iV ((u32 l 12:Nat):Int),iV ((u32 l 16:Nat):Int)],iV 0])/\bW w w':=by
 obtain⟨w1,bL⟩:=bQ ((w.alloc (.cells #[.int .i64 0, .int .i64 0, .int .i64 0] 39)).alloc (.cells #[.int .i64 0] 49));have bO:bW w w1:=by rw [bL];exact cm w _ _
 have sq:w1.heap.size=w.heap.size+2:=by rw [bL];simp
 have py:w1.heap[w.heap.size]? =some (.cells #[.int .i64 0, .int .i64 0, .int .i64 0] 39 (0,0)):=by rw [bL];exact heap_alloc2_old _ _ _
 have fZ:w1.heap[w.heap.size+1]? =some (.cells #[.int .i64 0] 49 (0,0)):=by rw [bL];exact heap_alloc2_new _ _ _
 go_enter_defers func108,ntmps108
 go_wp2_with fail;rw [<-bL];refine(Dd b o 512 c l w1 u (by omega) (by omega) s pj r (λi t=>cell_later bO (v i t)) du.1).mono ?_;rintro e x ⟨p,rfl,E,vB,bd⟩;have pF:=ED p b o c (part l 0 508) x vB (fD (by omega)) du.2;have dP:=bO.trans (bd.mono bO.size);have a:=((bd.block w.heap.size (by omega)).trans py);have d:=((bd.block (w.heap.size+1) (by omega)).trans fZ);have g:u32 (part l 0 508) 8=u32 l 8:=by unfold u32;congr 1;simp [part,List.drop_take,List.take_take]
 have ajQ:u32 (part l 0 508) 12=u32 l 12:=by unfold u32;congr 1;simp [part,List.drop_take,List.take_take]
 have ajR:u32 (part l 0 508) 16=u32 l 16:=by unfold u32;congr 1;simp [part,List.drop_take,List.take_take]
 rw [g,ajQ,ajR] at pF;go_wp2_with fail;refine bN pF λG aZ=>?_;have py:=(aZ.block w.heap.size (lV.1 a).1 (by omega)).trans a;have fZ:=(aZ.block (w.heap.size+1) (lV.1 d).1 (by omega)).trans d;obtain⟨gd,k,m,n,z,A,C,q,y⟩:=MZ (dP.trans (aZ.below (λj D=>by omega) dP.size)) (aM py) (bG py) (bK py) (ae py 0) (ae py 1) (ae py 2) (aM fZ) (ae fZ 0);go_wp2;refine leaves_cons (f:=150) (args:= #[pQ w.heap.size, .pointer (some ⟨w.heap.size+1,0,none⟩)]) (by simp) (by simp [go_sem]) ?_;refine(Ib _ _ _).mono ?_;rintro e F Bq ⟨rfl,rfl,rfl⟩;simp [Leaves,settle,results,results108,go_sem,k,m,n,q];exact(K2 gd (bS w.heap.size) (show w.heap.size<=w.heap.size+1 by omega) gd.size (iV ((u32 l 8:Nat):Int)) (iV ((u32 l 12:Nat):Int)) (iV ((u32 l 16:Nat):Int)) (iV 0))
def EF (b o c:Nat) (l:List Int) (w:World) (m:l.length=512) (j:512<=c) (pj:c<=9223372036854775807) (g:Bytes l) (n:∀i,i<512->w.cell? ⟨b,o+i,none⟩=some (.int .u8 (l.getD i 0))) (d:¬qE l):
  Calls prog 108 #[.slice (some (aD b o)) 512 c] w λe w'=>e= .returned (.tuple #[.agg #[iV 0,iV 0,iV 0],iV 6])/\bW w w':=by
 obtain⟨w1,bL⟩:=bQ ((w.alloc (.cells #[.int .i64 0, .int .i64 0, .int .i64 0] 39)).alloc (.cells #[.int .i64 0] 49));have bO:bW w w1:=by rw [bL];exact cm w _ _
 have sq:w1.heap.size=w.heap.size+2:=by rw [bL];simp
 have py:w1.heap[w.heap.size]? =some (.cells #[.int .i64 0, .int .i64 0, .int .i64 0] 39 (0,0)):=by rw [bL];exact heap_alloc2_old _ _ _
 have fZ:w1.heap[w.heap.size+1]? =some (.cells #[.int .i64 0] 49 (0,0)):=by rw [bL];exact heap_alloc2_new _ _ _
 go_enter_defers func108,ntmps108
 go_wp2_with fail;rw [<-bL];refine(OK b o 512 c l w1 m (by omega) (by omega) j pj g (λi k=>cell_later bO (n i k)) d).mono ?_;rintro e q ⟨rfl,bd⟩;have dP:=bO.trans (bd.mono bO.size);have a:=(aH ((bd.block w.heap.size (by omega)).trans py) ((bd.block (w.heap.size+1) (by omega)).trans fZ));go_wp2;refine leaves_cons (f:=150) (args:= #[pQ w.heap.size, .pointer (some ⟨w.heap.size+1,0,none⟩)]) (by simp) (by simp [go_sem]) ?_;refine(uC w.heap.size (w.heap.size+1) _ _ _ _ _ a.1 a.2 (by omega)).mono ?_;rintro e p Bq ⟨rfl,rfl,rfl⟩;simp [Leaves,settle,results,results108,go_sem,aM a.1,bG a.1,bK a.1,(aM a.2)];exact(K2 dP (bS w.heap.size) (show w.heap.size<=w.heap.size+1 by omega) dP.size (iV 0) (iV 0) (iV 0) (iV 6))
def EG (b o c:Nat) (l:List Int) (w:World) (s:l.length=512) (q:512<=c) (pj:c<=9223372036854775807) (n:Bytes l) (t:∀i,i<512->w.cell? ⟨b,o+i,none⟩=some (.int .u8 (l.getD i 0))) (k:qE l) (m:¬H9 (part l 0 508)):
  Calls prog 108 #[.slice (some (aD b o)) 512 c] w λe w'=>e= .returned (.tuple #[.agg #[iV 0,iV 0,iV 0],iV 6])/\bW w w':=by
 obtain⟨w1,bL⟩:=bQ ((w.alloc (.cells #[.int .i64 0, .int .i64 0, .int .i64 0] 39)).alloc (.cells #[.int .i64 0] 49));have bO:bW w w1:=by rw [bL];exact cm w _ _
 have sq:w1.heap.size=w.heap.size+2:=by rw [bL];simp
 have py:w1.heap[w.heap.size]? =some (.cells #[.int .i64 0, .int .i64 0, .int .i64 0] 39 (0,0)):=by rw [bL];exact heap_alloc2_old _ _ _
 have fZ:w1.heap[w.heap.size+1]? =some (.cells #[.int .i64 0] 49 (0,0)):=by rw [bL];exact heap_alloc2_new _ _ _
 go_enter_defers func108,ntmps108
 go_wp2_with fail;rw [<-bL];refine(Dd b o 512 c l w1 s (by omega) (by omega) q pj n (λi r=>cell_later bO (t i r)) k).mono ?_;rintro e u ⟨p,rfl,x,vB,bd⟩;have dP:=bO.trans (bd.mono bO.size);have d:=((bd.block w.heap.size (by omega)).trans py);have g:=((bd.block (w.heap.size+1) (by omega)).trans fZ);go_wp2_with fail;refine(EE p b o c (part l 0 508) u vB (fD (by omega)) m).mono ?_;rintro e z ⟨rfl,aZ⟩;have py:=(aZ.block w.heap.size (lV.1 d).1 (by omega)).trans d;have fZ:=(aZ.block (w.heap.size+1) (lV.1 g).1 (by omega)).trans g;have gd:=dP.trans (aZ.below (λj v=>by omega) dP.size);have a:=(aH py fZ);go_wp2;refine leaves_cons (f:=150) (args:= #[pQ w.heap.size, .pointer (some ⟨w.heap.size+1,0,none⟩)]) (by simp) (by simp [go_sem]) ?_;refine(uC w.heap.size (w.heap.size+1) _ _ _ _ _ a.1 a.2 (by omega)).mono ?_;rintro e y Bq ⟨rfl,rfl,rfl⟩;simp [Leaves,settle,results,results108,go_sem,aM a.1,bG a.1,bK a.1,(aM a.2)];exact(K2 gd (bS w.heap.size) (show w.heap.size<=w.heap.size+1 by omega) gd.size (iV 0) (iV 0) (iV 0) (iV 6))
def Id (b o c:Nat) (l:List Int) (w:World) (g:l.length=512) (f:512<=c) (pj:c<=9223372036854775807) (d:Bytes l) (j:∀i,i<512->w.cell? ⟨b,o+i,none⟩=some (.int .u8 (l.getD i 0))) (du:¬oT l):
  Calls prog 108 #[.slice (some (aD b o)) 512 c] w λe w'=>e= .returned (.tuple #[.agg #[iV 0,iV 0,iV 0],iV 6])/\bW w w':=by
 by_cases a:qE l
 .exact EG b o c l w g f pj d j a (λk=>du ⟨a,k⟩)
 .exact EF b o c l w g f pj d j a
section
section
variable {w:World} {F:Nat->Prop} {p s c:Nat} {S:DS}
def OM (h:B.ax w F p s S c) (k:Nat) (j:k<s) (aU:S.puts.length+1<=4000000000000) (f:S.fuse≠0):
  Calls prog 39 #[pQ p,iV (k:Int)] w λe w'=>∃g a,e= .returned (.tuple #[.slice (some (aD g 0)) 512 a,iV 0])/\w.heap.size<=g/\ay w' 5 g a (bs (S.now k))/\B.ax w' F p s S (c+1)/\aa F w w':=by
 obtain⟨r,h,l⟩:=h;refine(L4 h k f j (by show S.puts.length<=_;omega)).mono ?_;rintro e w' ⟨g,a,rfl,i,be,b,d⟩;exact⟨g,a,rfl,i,be,⟨_,b,l.read⟩,d⟩
end
def mM (l:List Int) (s:Nat):Prop:=oT l/\u32 l 8=s
def cE (l:List Int):LY:=⟨u32 l 12,3+u32 l 12,u32 l 8-(3+u32 l 12),u32 l 16,2+u32 l 16 / 4⟩
abbrev Yx:LY:=⟨0,0,0,0,0⟩
def SW (S:DS) (s:Nat) (y:LY) (x:Int):Prop:=
   (S.fuse=0/\y=Yx/\x=3)\/(S.fuse≠0/\mM (S.now 0) s/\y=cE (S.now 0)/\x=0)\/(S.fuse≠0/\¬mM (S.now 0) s/\y=Yx/\x=6)
def oT.geo (h:oT l):vJ (u32 l 8) (u32 l 12) (u32 l 16):=by
 simpa only [u32,kx (show 8+4<=508 by omega),kx (show 12+4<=508 by omega),kx (show 16+4<=508 by omega)] using h.2.geo
def SX (l:List Int) {s:Nat} (d:u32 l 8=s) (e:((u32 l 12:Nat):Int)+((u32 l 16:Nat):Int) / 4+6<=(s:Int)):
  Ending.returned (.tuple #[.agg #[iV ((u32 l 12:Nat):Int),iV (3+((u32 l 12:Nat):Int)),iV ((s:Int)-(3+((u32 l 12:Nat):Int))),iV ((u32 l 16:Nat):Int),iV (2+((u32 l 16:Nat):Int) / 4)],iV 0])=Ending.returned (.tuple #[PQ (cE l),iV 0]):=by
 unfold cE PQ;generalize u32 l 12=y at*;generalize u32 l 16=z at*;rw [d];have a:((3+y:Nat):Int)=3+(y:Int):=by omega
 have b:((s-(3+y):Nat):Int)=(s:Int)-(3+(y:Int)):=by omega
 have c:((2+z / 4:Nat):Int)=2+(z:Int) / 4:=by omega
 simp only [a,b,c]
def SY {j l m n o:Value} {t:TypeId} (h:W.heap[g]? =some (.cells #[j,l,m,n,o] t (0,0))) (b c d e f:Value):
    (((((W.setCell ⟨g,0,none⟩ b).setCell ⟨g,1,none⟩ c).setCell ⟨g,2,none⟩ d).setCell ⟨g,3,none⟩ e).setCell ⟨g,4,none⟩ f).heap[g]? =some (.cells #[b,c,d,e,f] t (0,0))/\aa (λk=>k=g) W (((((W.setCell ⟨g,0,none⟩ b).setCell ⟨g,1,none⟩ c).setCell ⟨g,2,none⟩ d).setCell ⟨g,3,none⟩ e).setCell ⟨g,4,none⟩ f):=by
 refine⟨Qc b c d e f h,?_⟩;have a:=λ(w:World) (i:Nat) (v:Value)=>aa.setCell (F:=λk=>k=g) w (p:=(aD g i)) rfl v;exact((((a _ 0 b).trans (a _ 1 c) (λ_ h=> .inl h)).trans (a _ 2 d) (λ_ h=> .inl h)).trans (a _ 3 e) (λ_ h=> .inl h)).trans (a _ 4 f) (λ_ h=> .inl h)
def uD {w:World} {F:Nat->Prop} {p s c:Nat} {S:DS} (h:B.ax w F p s S c) (dC:S.fL) (aU:S.puts.length+1<=4000000000000):
  Calls prog 54 #[pQ p] w λe w'=>∃y x,e= .returned (.tuple #[PQ y,iV x])/\SW S s y x/\B.ax w' F p s S (c+1)/\aa F w w':=by
 obtain⟨w0,VQ⟩:=bQ (w.alloc (.cells #[.int .i64 0, .int .i64 0, .int .i64 0, .int .i64 0, .int .i64 0] 86));have fO:bW w w0:=by rw [VQ];exact aJ _ _
 have dH:w0.heap[w.heap.size]? =some (.cells #[.int .i64 0, .int .i64 0, .int .i64 0, .int .i64 0, .int .i64 0] 86 (0,0)):=by rw [VQ];exact heap_alloc_new _ _
 have xr:=h.later fO;have bq:=h.lt;go_in;go_wp2_with fail;by_cases A:S.fuse=0
 .have z:=B.oE xr 0 A;have t:=(aH xr (aH fO dH));subst VQ;clear h xr fO dH;refine bN z λw1 bL=>?_;subst bL;clear z;go_wp2;exact bodyPost_ret (v:= .tuple #[PQ Yx,iV 3]) (by simp [results,results54,go_sem]) rfl ⟨Yx,3,rfl, .inl ⟨A,rfl,rfl⟩,t.1.le (by omega),aa.ah F t.2.1⟩
 .have du:=h.ok;have z:=OM xr 0 (by have:=du.lo;omega) aU A;have Y:=bu du 0 (by have:=du.lo;omega);have xL:=dC.now 0;have t:=(aH fO dH);have gC:w0.heap.size=w.heap.size+1:=by rw [VQ,World.size_alloc]
  have X:=gC;rw [VQ] at t X z;clear h xr fO dH VQ gC w0;refine z.mono ?_;rintro e w1 ⟨g,J,rfl,hg,be,iN,ff⟩;clear z;have WN:=(ff.block w.heap.size (by rw [X];omega) (λo=>by have:=bq _ o;omega)).trans t.2;have PF:=be.le;have Ek:=be.max;have kZ:∀i,i<512->w1.cell? ⟨g,0+i,none⟩=some (.int .u8 ((S.now 0).getD i 0)):=λi hi=>by
   have:=be.byte (i:=i) (by omega);rwa [aN] at this
  have Sb:512<=J:=by rw [<-Y];simpa [bs] using PF
  have aeM:J<=9223372036854775807:=by unfold maxLen at Ek;omega
  have ey:=(aa.ah F t.1).trans ff (λ_ h=> .inl h);have bL:=ff.size;rw [X] at bL;by_cases r:oT (S.now 0)
  .have C:=Ic g 0 J (S.now 0) w1 Y Sb aeM xL kZ r;have n:=r.geo;have m:=(aH iN (aH ey (aH WN r)));clear be iN ff kZ WN ey PF Ek r;go_wp2_with fail;refine bN C λl bd=>?_;clear C;have ev:=bd.size;obtain⟨b,eG⟩:∃b,b=l.alloc (.cells #[.int .i64 ((u32 (S.now 0) 8:Nat):Int), .int .i64 ((u32 (S.now 0) 12:Nat):Int), .int .i64 ((u32 (S.now 0) 16:Nat):Int)] 39):=⟨_,rfl⟩;have ON:b.heap[l.heap.size]? =some (.cells #[.int .i64 ((u32 (S.now 0) 8:Nat):Int), .int .i64 ((u32 (S.now 0) 12:Nat):Int), .int .i64 ((u32 (S.now 0) 16:Nat):Int)] 39 (0,0)):=(by rw [eG];exact heap_alloc_new _ _);have bF:bW w1 b:=(by rw [eG];exact bd.alloc ev _);have lB:b.heap.size=l.heap.size+1:=(by rw [eG,World.size_alloc]);go_wp2_with fail;rw [<-eG];clear eG bd;have f:=m.1.later bF;have te:=(bF.block w.heap.size (by omega)).trans m.2.2.1;have SZ:=m.2.1.trans (aa.ah (λ_=>False) bF) (λ_ h=>h.elim);have c0:=aM ON;have nT:=λk=>B.pY (f.later (below_drewN (bi _ _) k));have a:=(aH f (aH SZ (aH te ON)));clear f SZ te ON bF;by_cases oH:u32 (S.now 0) 8=s
   .have WO:(((u32 (S.now 0) 8:Nat):Int) == ((s:Nat):Int))=true:=(by rw [oH];simp);go_quiet (first|(go_at_call 47;refine Calls.quiet_of_same (nT _)));have d:∀k,bW b (b.drewN k):=λk=>below_drewN (bi _ _) k;have fd:=(λk=>aH (a.1.later (d k)) (aH (a.2.1.trans (aa.ah (λ_=>False) (d k)) (λ_ h=>h.elim)) (aH (((d k).block w.heap.size (by omega)).trans a.2.2.1) (((d k).block l.heap.size (by omega)).trans a.2.2.2))));clear a c0 nT d;rename_i nq _;have a:=(fd nq);have Ie:(b.drewN nq).heap.size=b.heap.size:=rfl;clear fd;generalize b.drewN nq=W at*;obtain⟨P,Q,R,T,U,K,L,M,N,O,s0,s1⟩:=FE (aM a.2.2.1) (bG a.2.2.1) (bK a.2.2.1) (fQ a.2.2.1) (gH a.2.2.1) (ae a.2.2.1 0) (ae a.2.2.1 1) (ae a.2.2.1 2) (ae a.2.2.1 3) (ae a.2.2.1 4) (aM a.2.2.2) (bG a.2.2.2);have s2:=bK a.2.2.2;have pC:=rj (s:Int) ((u32 (S.now 0) 12:Nat):Int) ((u32 (S.now 0) 16:Nat):Int) W (by have:=n;rw [oH] at this;exact this.1.1) (by have:=n;rw [oH] at this;exact this.1.2) (by have:=n;rw [oH] at this;exact this.2.1.1) (by have:=n;rw [oH] at this;exact this.2.1.2) (by have:=n;rw [oH] at this;exact this.2.2.1) (by have:=n;rw [oH] at this;exact this.2.2.2.1) (by have:=n;rw [oH] at this;exact this.2.2.2.2);go_wp2_with fail;refine bN pC λW3 q=>?_;clear pC P Q R T U K L M N O s0 s1 s2;have Av:=(q.block w.heap.size (by omega)).trans a.2.2.1;have HX:=(aH (a.1.later q) (a.2.1.trans (aa.ah (λ_=>False) q) (λ_ h=>h.elim)));obtain⟨P,Q,R,T,U,K,L,M,N,O⟩:=wc (aM Av) (bG Av) (bK Av) (fQ Av) (gH Av) (ae Av 0) (ae Av 1) (ae Av 2) (ae Av 3) (ae Av 4);have Z:Ending.returned (.tuple #[.agg #[(iV ((u32 (S.now 0) 12:Nat):Int)),(iV (3+((u32 (S.now 0) 12:Nat):Int))),(iV ((s:Int)-(3+((u32 (S.now 0) 12:Nat):Int)))),(iV ((u32 (S.now 0) 16:Nat):Int)),(iV (2+((u32 (S.now 0) 16:Nat):Int) / 4))],iV 0])=Ending.returned (.tuple #[PQ (cE (S.now 0)),iV 0]):=by
     have h3:=n.2.2.2.1;rw [oH] at h3;exact SX (S.now 0) oH h3
    go_wp2;obtain⟨BX,qx⟩:=SY Av (iV ((u32 (S.now 0) 12:Nat):Int)) (iV (3+((u32 (S.now 0) 12:Nat):Int))) (iV ((s:Int)-(3+((u32 (S.now 0) 12:Nat):Int)))) (iV ((u32 (S.now 0) 16:Nat):Int)) (iV (2+((u32 (S.now 0) 16:Nat):Int) / 4));generalize ((((W3.setCell ⟨w.heap.size,0,none⟩ (.int .i64 ((u32 (S.now 0) 12:Nat):Int))).setCell ⟨w.heap.size,1,none⟩ (.int .i64 (3+((u32 (S.now 0) 12:Nat):Int)))).setCell ⟨w.heap.size,2,none⟩ (.int .i64 ((s:Int)-(3+((u32 (S.now 0) 12:Nat):Int))))).setCell ⟨w.heap.size,3,none⟩ (.int .i64 ((u32 (S.now 0) 16:Nat):Int))).setCell ⟨w.heap.size,4,none⟩ (.int .i64 (2+((u32 (S.now 0) 16:Nat):Int) / 4))=WW at*;obtain⟨D,E,G,H,I⟩:=eK (aj BX (j:=0) (u:=(iV ((u32 (S.now 0) 12:Nat):Int))) rfl) (aj BX (j:=1) (u:=(iV (3+((u32 (S.now 0) 12:Nat):Int)))) rfl) (aj BX (j:=2) (u:=(iV ((s:Int)-(3+((u32 (S.now 0) 12:Nat):Int))))) rfl) (aj BX (j:=3) (u:=(iV ((u32 (S.now 0) 16:Nat):Int))) rfl) (aj BX (j:=4) (u:=(iV (2+((u32 (S.now 0) 16:Nat):Int) / 4))) rfl);exact bodyPost_ret (v:= .tuple #[.agg #[(iV ((u32 (S.now 0) 12:Nat):Int)),(iV (3+((u32 (S.now 0) 12:Nat):Int))),(iV ((s:Int)-(3+((u32 (S.now 0) 12:Nat):Int)))),(iV ((u32 (S.now 0) 16:Nat):Int)),(iV (2+((u32 (S.now 0) 16:Nat):Int) / 4))],iV 0]) (by simp [results,results54,go_sem,D,E,G,H,I]) rfl ⟨cE (S.now 0),0,Z, .inr (.inl ⟨A,⟨m.2.2.2,oH⟩,rfl,rfl⟩),HX.1.aw qx (λk o e=>by subst e;have:=bq _ o;omega),HX.2.trans qx (λk e=> .inr (by omega))⟩
   .have WO:(((u32 (S.now 0) 8:Nat):Int) == ((s:Nat):Int))=false:=(by rw [fJ];omega);go_quiet (first|(go_at_call 47;refine Calls.quiet_of_same (nT _)));have d:∀k,bW b (b.drewN k):=λk=>below_drewN (bi _ _) k;have fd:=(λk=>aH (a.1.later (d k)) (aH (a.2.1.trans (aa.ah (λ_=>False) (d k)) (λ_ h=>h.elim)) (aH (((d k).block w.heap.size (by omega)).trans a.2.2.1) (((d k).block l.heap.size (by omega)).trans a.2.2.2))));clear a c0 nT d;rename_i nq _;have a:=(fd nq);have Ie:(b.drewN nq).heap.size=b.heap.size:=rfl;clear fd;generalize b.drewN nq=W at*;obtain⟨P,Q,R,T,U,K,L,M,N,O⟩:=wc (aM a.2.2.1) (bG a.2.2.1) (bK a.2.2.1) (fQ a.2.2.1) (gH a.2.2.1) (ae a.2.2.1 0) (ae a.2.2.1 1) (ae a.2.2.1 2) (ae a.2.2.1 3) (ae a.2.2.1 4);have aqy:(((u32 (S.now 0) 8:Nat):Int) != ((s:Nat):Int))=true:=(by simp [bne,WO]);go_wp2;obtain⟨BX,qx⟩:=SY a.2.2.1 (iV 0) (iV 0) (iV 0) (iV 0) (iV 0);generalize ((((W.setCell ⟨w.heap.size,0,none⟩ (.int .i64 0)).setCell ⟨w.heap.size,1,none⟩ (.int .i64 0)).setCell ⟨w.heap.size,2,none⟩ (.int .i64 0)).setCell ⟨w.heap.size,3,none⟩ (.int .i64 0)).setCell ⟨w.heap.size,4,none⟩ (.int .i64 0)=WW at*;obtain⟨D,E,G,H,I⟩:=eK (aj BX (j:=0) (u:=(iV 0)) rfl) (aj BX (j:=1) (u:=(iV 0)) rfl) (aj BX (j:=2) (u:=(iV 0)) rfl) (aj BX (j:=3) (u:=(iV 0)) rfl) (aj BX (j:=4) (u:=(iV 0)) rfl);exact bodyPost_ret (v:= .tuple #[.agg #[(iV 0),iV 0,iV 0,iV 0,(iV 0)],iV 6]) (by simp [results,results54,go_sem,D,E,G,H,I]) rfl ⟨Yx,6,rfl, .inr (.inr ⟨A,λh=>oH h.2,rfl,rfl⟩),a.1.aw qx (λk o e=>by subst e;have:=bq _ o;omega),a.2.1.trans qx (λk e=> .inr (by omega))⟩
  .have C:=Id g 0 J (S.now 0) w1 Y Sb aeM xL kZ r;have m:=(aH iN (aH ey (aH WN r)));clear be iN ff kZ WN ey PF Ek r;go_wp2_with fail;refine bN C λl bd=>?_;clear C;have ev:=bd.size;obtain⟨b,eG⟩:=bQ (l.alloc (.cells #[.int .i64 0, .int .i64 0, .int .i64 0] 39));have ON:b.heap[l.heap.size]? =some (.cells #[.int .i64 0, .int .i64 0, .int .i64 0] 39 (0,0)):=(by rw [eG];exact heap_alloc_new _ _);have bF:bW w1 b:=(by rw [eG];exact bd.alloc ev _);have lB:b.heap.size=l.heap.size+1:=(by rw [eG,World.size_alloc]);go_wp2_with fail;rw [<-eG];clear eG bd;have f:=m.1.later bF;have te:=(bF.block w.heap.size (by omega)).trans m.2.2.1;have SZ:=m.2.1.trans (aa.ah (λ_=>False) bF) (λ_ h=>h.elim);have a:=(aH f (aH SZ (aH te ON)));clear f SZ te ON bF;go_quiet (fail);have d:∀k,bW b (b.drewN k):=λk=>below_drewN (bi _ _) k;have fd:=(λk=>aH (a.1.later (d k)) (aH (a.2.1.trans (aa.ah (λ_=>False) (d k)) (λ_ h=>h.elim)) (aH (((d k).block w.heap.size (by omega)).trans a.2.2.1) (((d k).block l.heap.size (by omega)).trans a.2.2.2))));clear a d;rename_i nq _;have a:=(fd nq);have Ie:(b.drewN nq).heap.size=b.heap.size:=rfl;clear fd;generalize b.drewN nq=W at*;obtain⟨P,Q,R,T,U,K,L,M,N,O⟩:=wc (aM a.2.2.1) (bG a.2.2.1) (bK a.2.2.1) (fQ a.2.2.1) (gH a.2.2.1) (ae a.2.2.1 0) (ae a.2.2.1 1) (ae a.2.2.1 2) (ae a.2.2.1 3) (ae a.2.2.1 4);go_wp2;obtain⟨BX,qx⟩:=SY a.2.2.1 (iV 0) (iV 0) (iV 0) (iV 0) (iV 0);generalize ((((W.setCell ⟨w.heap.size,0,none⟩ (.int .i64 0)).setCell ⟨w.heap.size,1,none⟩ (.int .i64 0)).setCell ⟨w.heap.size,2,none⟩ (.int .i64 0)).setCell ⟨w.heap.size,3,none⟩ (.int .i64 0)).setCell ⟨w.heap.size,4,none⟩ (.int .i64 0)=WW at*;obtain⟨D,E,G,H,I⟩:=eK (aj BX (j:=0) (u:=(iV 0)) rfl) (aj BX (j:=1) (u:=(iV 0)) rfl) (aj BX (j:=2) (u:=(iV 0)) rfl) (aj BX (j:=3) (u:=(iV 0)) rfl) (aj BX (j:=4) (u:=(iV 0)) rfl);exact bodyPost_ret (v:= .tuple #[.agg #[(iV 0),iV 0,iV 0,iV 0,(iV 0)],iV 6]) (by simp [results,results54,go_sem,D,E,G,H,I]) rfl ⟨Yx,6,rfl, .inr (.inr ⟨A,λh=>m.2.2.2 h.1,rfl,rfl⟩),a.1.aw qx (λk o e=>by subst e;have:=bq _ o;omega),a.2.1.trans qx (λk e=> .inr (by omega))⟩
end
def gS (blocks:Nat):Nat->Nat->List Int->Option (List Nat×List Int)
 |0,_,l=>some ([],l)
 |n+1,lo,l=>if l.length<4 then none else if lo<=le (l.take 4)/\le (l.take 4)<blocks then (gS blocks n (le (l.take 4)+1) (l.drop 4)).map (λx=>(le (l.take 4) :: x.1,x.2)) else none
def dU:List Nat->List Int->Option (CM×List Int)
 | [],l=>some ([],l)
 |k :: ks,l=>if l.length<512 then none else (dU ks (l.drop 512)).map (λx=>((k,l.take 512) :: x.1,x.2))
def jQ:Option (CM×List Int)->Option CM
 |some (cs, [])=>some cs
 |_=>none
def gG (blocks:Nat) (d:List Int):Option CM:=
 if d.length<2 then none else if 1<=le (d.take 2)/\le (d.take 2)<=16 then
  match gS blocks (le (d.take 2)) 0 (d.drop 2) with
  |none=>none
  |some (ks,r)=>jQ (dU ks r)
 else none
def oU {blocks:Nat}:∀{n lo:Nat} {l r:List Int} {ks:List Nat},gS blocks n lo l=some (ks,r)->ks.length=n/\∀k∈ks,k<blocks
 |0,lo,l,r,ks,h=>by
  simp only [gS,Option.some.injEq,Prod.mk.injEq] at h;obtain⟨rfl,_⟩:=h;simp
 |n+1,lo,l,r,ks,h=>by
  unfold gS at h;split at h
  .cases h
  .split at h
   .rename_i e;cases b:gS blocks n (le (l.take 4)+1) (l.drop 4) with
    |none=>rw [b] at h;cases h
    |some x=>
     rw [b] at h;simp only [Option.map_some,Option.some.injEq,Prod.mk.injEq] at h;obtain⟨rfl,rfl⟩:=h;obtain⟨c,d⟩:=oU (ks:=x.1) (r:=x.2) b;refine⟨by simp [c],λk a=>?_⟩;rcases List.mem_cons.1 a with rfl|a
     .exact e.2
     .exact d k a
   .cases h
def aeN {S:Nat} (h:i<S) (a:i<k):S-k<S-i:=by omega
def qG (blocks n lo:Nat) (l:List Int):gS blocks (n+1) lo l=if l.length<4 then none else if lo<=le (l.take 4)/\le (l.take 4)<blocks then (gS blocks n (le (l.take 4)+1) (l.drop 4)).map (λx=>(le (l.take 4) :: x.1,x.2)) else none:=rfl
def jB (k:Nat) (ks:List Nat) (l:List Int):dU (k :: ks) l=if l.length<512 then none else (dU ks (l.drop 512)).map (λx=>((k,l.take 512) :: x.1,x.2)):=rfl
def OO (ms cs:CM) (k:Nat) (c:List Int):CM.bT ms (cs ++ [(k,c)])=CM.put (CM.bT ms cs) k c:=by
 unfold CM.bT;rw [List.foldl_append];rfl
def nc:List Nat->List Int->CM
 | [],_=> []
 |k :: ks,r=>(k,r.take 512) :: nc ks (r.drop 512)
def uE:∀(ks:List Nat) (r:List Int),(nc ks r).length=ks.length
 | [],_=>rfl
 |k :: ks,r=>by simp [nc,uE ks]
def Df (k:Nat):∀(ks:List Nat) (r:List Int),nc (ks ++ [k]) r=nc ks r ++ [(k,(r.drop (512*ks.length)).take 512)]
 | [],r=>by simp [nc]
 |x :: ks,r=>by
  rw [List.cons_append,nc,nc,Df k ks,List.cons_append,List.drop_drop,List.length_cons,show 512+512*ks.length=512*(ks.length+1) by omega]
def tf:∀(ks:List Nat) (r:List Int),512*ks.length<=r.length->dU ks r=some (nc ks r,r.drop (512*ks.length))
 | [],r,_=>rfl
 |k :: ks,r,h=>by
  rw [List.length_cons] at h;rw [jB,aB (by omega),tf ks (r.drop 512) (by rw [List.length_drop];omega),List.drop_drop,List.length_cons,show 512+512*ks.length=512*(ks.length+1) by omega];rfl
def uF:∀(ks:List Nat) (r:List Int),r.length<512*ks.length->dU ks r=none
 | [],r,h=>by simp at h
 |k :: ks,r,h=>by
  rw [List.length_cons] at h;rw [jB];split
  .rfl
  .rw [uF ks (r.drop 512) (by rw [List.length_drop];omega)];rfl
def K3 {r:List Int} (h:r.length=512*ks.length):jQ (dU ks r)=some (nc ks r):=by
 rw [tf ks r (by omega),List.drop_eq_nil_of_le (by omega)];rfl
def OP {r:List Int} (h:r.length≠512*ks.length):jQ (dU ks r)=none:=by
 by_cases a:r.length<512*ks.length
 .rw [uF ks r a];rfl
 .rw [tf ks r (by omega)];have:0<(r.drop (512*ks.length)).length:=by rw [List.length_drop];omega
  cases hd:r.drop (512*ks.length) with
  |nil=>rw [hd] at this;simp at this
  |cons x xs=>rfl
def wW {blocks:Nat}:∀{n lo:Nat} {l r:List Int} {ks:List Nat},gS blocks n lo l=some (ks,r)->4*n<=l.length/\r=l.drop (4*n)
 |0,lo,l,r,ks,h=>by
  simp only [gS,Option.some.injEq,Prod.mk.injEq] at h;exact⟨by omega,by rw [<-h.2];rfl⟩
 |n+1,lo,l,r,ks,h=>by
  rw [qG] at h;split at h
  .cases h
  .split at h
   .cases a:gS blocks n (le (l.take 4)+1) (l.drop 4) with
    |none=>rw [a] at h;cases h
    |some x=>
     rw [a] at h;simp only [Option.map_some,Option.some.injEq,Prod.mk.injEq] at h;obtain⟨rfl,rfl⟩:=h;obtain⟨b,c⟩:=wW (ks:=x.1) (r:=x.2) a;rw [List.length_drop] at b;refine⟨by omega,?_⟩;rw [c,List.drop_drop];congr 1;omega
   .cases h
def lr (blocks:Nat) (d:List Int) (c:Nat) (ks:List Nat) (lo i:Nat):Option CM:=
 match gS blocks (c-i) lo (d.drop (2+4*i)) with
 |none=>none
 |some (js,r)=>jQ (dU (ks ++ js) r)
def uG (h:d.length<2\/¬(1<=le (d.take 2)/\le (d.take 2)<=16)\/d.length≠2+516*le (d.take 2)):gG blocks d=none:=by
 unfold gG;by_cases a:d.length<2
 .rw [aG a]
 .rw [aB a];by_cases b:1<=le (d.take 2)/\le (d.take 2)<=16
  .rw [aG b];cases c:gS blocks (le (d.take 2)) 0 (d.drop 2) with
   |none=>rfl
   |some x=>
    obtain⟨ks,r⟩:=x;obtain⟨e,f⟩:=wW c;have g:=(oU c).1;rw [List.length_drop] at e;show jQ (dU ks r)=none;refine OP ?_;rw [f,g,List.length_drop,List.length_drop];omega
  .rw [aB b]
def Aw (h0:¬d.length<2) (a:1<=le (d.take 2)/\le (d.take 2)<=16):gG blocks d=lr blocks d (le (d.take 2)) [] 0 0:=by
 unfold gG lr;rw [aB h0,aG a];rfl
def Ax {c lo:Nat} (a:ks.length=c) (hd:d.length=2+516*c):lr blocks d c ks lo c=some (nc ks (d.drop (2+4*c))):=by
 unfold lr;rw [Nat.sub_self];show jQ (dU (ks ++ []) (d.drop (2+4*c)))=_;rw [List.append_nil];exact K3 (by rw [List.length_drop];omega)
def wX {c lo:Nat} (a:i<c) (hd:d.length=2+516*c):
  lr blocks d c ks lo i=if lo<=le ((d.drop (2+4*i)).take 4)/\le ((d.drop (2+4*i)).take 4)<blocks then lr blocks d c (ks ++ [le ((d.drop (2+4*i)).take 4)]) (le ((d.drop (2+4*i)).take 4)+1) (i+1) else none:=by
 unfold lr;rw [show c-i=(c-(i+1))+1 by omega,qG,aB (by rw [List.length_drop];omega),List.drop_drop,show 2+4*i+4=2+4*(i+1) by omega];generalize le ((d.drop (2+4*i)).take 4)=K;by_cases h:lo<=K/\K<blocks
 .rw [aG h,aG h];cases gS blocks (c-(i+1)) (K+1) (d.drop (2+4*(i+1))) with
  |none=>rfl
  |some x=>
   show jQ (dU (ks ++ K :: x.1) x.2)=jQ (dU ((ks ++ [K]) ++ x.1) x.2);rw [List.append_assoc];rfl
 .rw [aB h,aB h]
def wY:∀{ks:List Nat} {l r:List Int} {cs:CM},dU ks l=some (cs,r)->∀x∈cs,x.1∈ks
 | [],l,r,cs,h=>by
  simp only [dU,Option.some.injEq,Prod.mk.injEq] at h;obtain⟨rfl,_⟩:=h;simp
 |k :: ks,l,r,cs,h=>by
  rw [jB] at h;split at h
  .cases h
  .cases a:dU ks (l.drop 512) with
   |none=>rw [a] at h;cases h
   |some x=>
    rw [a] at h;simp only [Option.map_some,Option.some.injEq,Prod.mk.injEq] at h;obtain⟨rfl,rfl⟩:=h;intro z b;rcases List.mem_cons.1 b with rfl|b
    .simp
    .exact List.mem_cons_of_mem _ (wY (cs:=x.1) (r:=x.2) a z b)
def oV {cs:CM} (h:gG blocks d=some cs):∀x∈cs,x.1<blocks:=by
 unfold gG at h;split at h
 .cases h
 .split at h
  .split at h
   .cases h
   .rename_i ks r c;cases b:dU ks r with
    |none=>rw [b] at h;cases h
    |some x=>
     obtain⟨g,f⟩:=x;rw [b] at h;cases f with
     |nil=>
      simp only [jQ,Option.some.injEq] at h;subst h;intro z e;exact(oU c).2 _ (wY b z e)
     |cons a t=>cases h
  .cases h
section
open Go.RowKit Go.Shelf
attribute [local go_sem] Oper.semAt_some
def K4 (a:Option Addr) (n c:Nat) (w:World):
  Calls prog 197 #[.slice a n c,iV 4] w λe w'=>e= .returned (.func (.func 228) #[] #[pQ w.heap.size, .pointer (some ⟨w.heap.size+1,0,none⟩)])/\w'=(w.alloc (.cells #[.slice a n c] 36)).alloc (.cells #[.int .i64 4] 3):=by
 go_in;go_wp2;go_ret;exact⟨rfl,rfl⟩
def nf (n k:Nat):Nat:=min 4 (n-4*k)
def MO (b o n q:Nat) (x:Fin q):Array Value:= #[.slice (some ⟨b,o+4*x.1,none⟩) (nf n x.1) (nf n x.1)]
set_option maxRecDepth 100000 in
def OQ (m:Nat) (U:1<=m) (l f d b o n c q:Nat) (lg:1<=n) (X:n<=64) (S:n<=c) (E:q=(n+3) / 4) (J A:List (Fin q)->World->Prop)
    (C:∀a (x:Fin q) W,J a W->a.length<q->YieldAt Fence.wide (m-1) prog l (MO b o n q x) W λe W'=>
     (e= .returned (.bool true)/\J (a ++ [x]) W'/\vt f d W W')\/(e= .returned (.bool false)/\A (a ++ [x]) W'))
    (W:World) (Kc:W.heap[f]? =some (.cells #[.slice (some ⟨b,o,none⟩) n c] 36 (0,0))) (Rq:W.heap[d]? =some (.cells #[.int .i64 4] 3 (0,0))) (s:AbidesFrom W.heap.size J) (h0:J [] W):
  CallsIn Fence.wide m prog 228 #[.func (.yield l) #[] #[],pQ f,pQ d] W λe W'=>(∃v,e= .returned v)/\
     ((∃ys,ub ys q/\J ys W')\/(∃a,(∃k,k<q/\ub a (k+1))/\A a W')):=by
 have P:=yh E;have M:n<=4*q/\4*q<n+4:=by omega
 clear E;refine callsIn_of_wp func228 rfl trivial ?_ rfl;simp only [ntmps228,List.size_toArray,List.length_cons,List.length_nil,Nat.reduceAdd,Nat.reduceSub,Array.replicate_succ,Array.replicate_zero,List.push_toArray,List.append_toArray,List.nil_append,List.cons_append]
 gi_wp2
 gi_loopw [4] (λi wr=>∃(k:Nat) (a:List (Fin q)),k<=q/\i=iV ((4*k:Nat):Int)/\ub a k/\J a wr/\vt f d W wr)
    (λi _=>4*q-(intOf i).toNat)
 case atStart=>exact⟨0, [],dV _,rfl,ub.nil,h0,vt.refl _ _ _⟩
 case round=>
  obtain⟨k,a,T,rfl,l5,Ux,eZ⟩:=hrel;have D:a.length=k:=l5.length;have el:=aM (eZ.1.trans Kc);have pg:=aM (eZ.2.trans Rq);by_cases bq:k<q
  .have g:J a wr.drew:=s a wr wr.drew none Ux ⟨rfl,rfl,rfl,bS _,λ_ _ _=>rfl⟩ (λr e=>by cases e);obtain⟨R,F,j,body,u,ZI⟩:=C a ⟨k,bq⟩ wr.drew g (by omega);have Uy:prog.follows .mixedOrders=true:=by kernel_rfl
   dsimp only [MO] at u
   have yB:nf n k=min 4 (n-4*k):=rfl;obtain⟨I,p⟩:=bQ (4*k);rw [<-p] at u yB⊢;have L:I<n:=(by omega);obtain⟨z,w⟩:=bQ (nf n k);rw [<-w] at u yB;have Zq:min (4:Int) ((n-I:Nat):Int)=(z:Int):=(by omega);have Px:((I:Int)+(z:Int)).toNat-I=z:=(by omega);have cC:(I:Int)<(n:Int):=(by omega);have K:(I:Int)<(c:Int):=(by omega);have PO:(n:Int)<=(c:Int):=(by omega);have N:(I:Int)+(z:Int)<=(n:Int):=(by omega);have dE:(1:Int)<=(z:Int):=(by omega);obtain⟨y,Q⟩:=bU p w;clear p w yB;have ZO:=sH ZI;have G:=yh eZ;have O:=yh s;have Rr:=yh l5;clear ZI C Ux g eZ s l5
   gi_wp2
   gi_region_with_o (fail)
   all_goals
    gi_wp2_with fail
    refine ZO.mono ?_;rintro e H ⟨r,rfl,mq,fy⟩;obtain⟨zv,xD⟩:=bU mq fy;clear mq fy;cases r
    .gi_wp2
     refine bodyPost_ret (results_none rfl _ _ _) rfl ?_;exact⟨⟨_,rfl⟩, .inr ⟨_,⟨k,bq,Rr.o.snoc bq⟩,xD.o (by simp)⟩⟩
    .have aZ:vt f d W H:=G.o.t (vt.t (B:=wr.drew) ⟨rfl,rfl⟩ (zv.o rfl).2);have Qg:=aM (aZ.2.trans Rq);have lS:=yh aZ;clear aZ
     gi_wp2
     go_roundw;case rel=>exact⟨k+1,_,by omega,by rw [y.o];go_num,Rr.o.snoc bq,(zv.o (by simp)).1,lS.o⟩
     case measure=>have:=y.o;simp [intOf];omega
  .have ZP:=yh (show k=q by omega);have wq:¬((4*k:Nat):Int)<(n:Int):=by omega
   gi_wp2
   go_end0
   exact⟨⟨_,rfl⟩, .inl ⟨a,(by rw [ZP.out] at l5;exact l5),Ux⟩⟩
def EH (m:Nat) (r:1<=m) (d a b o n c q:Nat) (lg:1<=n) (s:n<=64) (p:n<=c) (t:q=(n+3) / 4) (w:World)
    (Kc:w.heap[d]? =some (.cells #[.slice (some ⟨b,o,none⟩) n c] 36 (0,0))) (Rq:w.heap[a]? =some (.cells #[.int .i64 4] 3 (0,0))):
  SeqStopsK Fence.wide m prog 228 #[pQ d,pQ a] (MO b o n q) (vt d a) (λu=>ub u q) (λe=>∃k,k<q/\ub e (k+1)) q w:=
 λl J g W f i _ j h0=>OQ m r l d a b o n c q lg s p t J g j W ((f.block _ (aq Kc)).trans Kc) ((f.block _ (aq Rq)).trans Rq) i h0
end
end Go.Proofs.YtcpdggdfihjhoaaGreat
