import Derived.Test.YtenlkgicpllbhaaGreatW01
import Derived.Test.YtenlkgicpllbhaaGreatW09
import Derived.Test.YtenlkgicpllbhaaGreatW13
import Derived.Test.YtenlkgicpllbhaaGreatW14
import Derived.Test.YtenlkgicpllbhaaGreatW15
set_option maxRecDepth 20000
set_option maxHeartbeats 8000000
set_option linter.all false
namespace Go.Proofs.YtenlkgicpllbhaaGreat
open Go.Proofs.Tryz
open Go.RowKit Go.Maps
variable {S':DS} {d:List Int} {c cap g i n:Nat} {a:Option Addr} {v:Value} {w0 w1 w2:World}
section
section
variable {S:DS} {s f:Nat} {L:LG} {G:SG}
theorem nM (h:S.Ok s) (e:f+1<s) (num:Int):(cW S s f num).2.Ok s/\∀j,f+2<=j->j<s->(cW S s f num).2.now j=S.now j:=by
 unfold cW;by_cases a:S.fuse=0
 .rw [aE a];exact⟨h,λ_ _ _=>rfl⟩
 .rw [aA a];by_cases c:(aN (S.now f) (S.now (f+1)) num []).2.2≠0
  .rw [aE c];exact⟨h,λ_ _ _=>rfl⟩
  .rw [aA c];have mL:=fL (S.now f) (S.now (f+1)) num [];have Ff:=kD (S.now f) (S.now (f+1)) num [] (by omega);generalize aN (S.now f) (S.now (f+1)) num []=Y at*;rw [show (f:Int)+(Y.1:Int)=((f+Y.1:Nat):Int) by omega];by_cases d:(S.wr s ((f+Y.1:Nat):Int) 512 Y.2.1).1≠0
   .exact absurd (Q2 (by omega) d).2 a
   .rw [aA d];have Nz:=tP h a (show f+Y.1<s by omega) Ff;refine⟨qx Nz,λj g b=>?_⟩;rw [eU Nz b,jD a (by omega),aA (by omega)]
theorem qd (h:S.Ok s):(L.sync S s).2.Ok s/\(L.sync S s).2.life=S.life/\∀j,j<s->(L.sync S s).2.now j=S.now j:=by
 unfold LG.sync;split
 .exact⟨h,rfl,λ_ _=>rfl⟩
 .exact⟨qx h,fO _ _,λj a=>eU h a⟩
theorem G4 (h:S.Ok s) (k:L.f+1<s):(L.trim S s).2.1.Ok s/\∀j,L.f+2<=j->j<s->(L.trim S s).2.1.now j=S.now j:=by
 obtain⟨c,_,b⟩:=qd (L:=L) h;obtain⟨g,i⟩:=nM c k ((L.ep:Int)*4294967296+(L.head:Int));unfold LG.trim;split
 .exact⟨c,λj _ e=>b j e⟩
 .split
  .exact⟨c,λj _ e=>b j e⟩
  .split
   .exact⟨g,λj d a=>(i j d a).trans (b j a)⟩
   .exact⟨g,λj d a=>(i j d a).trans (b j a)⟩
theorem R7 {E P:Nat} {l:List Int} (h:S.Ok s) (d:1<=n) (k:f+2+n<=s) (g:l.length<=492):(jM S s f n E P i c l).2.Ok s/\∀j,f+2+n<=j->(jM S s f n E P i c l).2.now j=S.now j:=by
 have:=Nat.mod_lt P d;have a:(kE E P i c l).length<=504:=by rw [uW];omega
 unfold jM;by_cases b:S.fuse=0
 .rw [aE b];exact⟨h,λ_ _=>rfl⟩
 .rw [aA b];exact⟨tP h b (by omega) (so (br h (f+2+P%n) (by omega)) a).2,λj e=>by rw [jD b (by omega),aA (by omega)]⟩
theorem CU (h:S.Ok s) (o:1<=L.n) (p:L.f+2+L.n<=s) {d:List Int}:∀k,(cP L S s d k).2.Ok s/\∀j,L.f+2+L.n<=j->(cP L S s d k).2.now j=S.now j
 |0=>⟨h,λ_ _=>rfl⟩
 |k+1=>by
  obtain⟨b,g⟩:=CU h o p (d:=d) k;by_cases e:(cP L S s d k).1=0
  .have a:cP L S s d (k+1)=jM (cP L S s d k).2 s L.f L.n L.ep (L.head+k) k (cY d.length) (partOf d k):=jm e;have t:(partOf d k).length<=492:=(by unfold partOf;rw [List.length_take];omega);obtain⟨q,r⟩:=R7 (n:=L.n) (f:=L.f) (E:=L.ep) (P:=L.head+k) (i:=k) (c:=cY d.length) (l:=partOf d k) b o p t;rw [a];exact⟨q,λj m=>(r j m).trans (g j m)⟩
  .have a:cP L S s d (k+1)=cP L S s d k:=gw e (k+1) (by omega);rw [a];exact⟨b,g⟩
theorem Ai (h:S.Ok s) (a:1<=L.n) (b:L.f+2+L.n<=s) (d:List Int):(L.append S s d).2.1.Ok s/\∀j,L.f+2+L.n<=j->(L.append S s d).2.1.now j=S.now j:=by
 unfold LG.append;split
 .exact⟨h,λ_ _=>rfl⟩
 .split <;> exact CU h a b _
end
section
variable {w w':World} {F X:Nat->Prop} {r s k kl t hm:Nat} {S:DS} {G:SG} {pv nv:Value} {ps:List (Nat×List Int)}
theorem vw {S:DS} {f:Nat} (a:S'.now f=S.now f) (b:S'.now (f+1)=S.now (f+1)):S'.num f=S.num f:=by unfold DS.num;rw [a,b]
theorem kX.home {y:LY} (h:kX w k r kl y pv hm nv) (n:Nat):kX (w.setCell ⟨k,8,none⟩ (.int .i64 (n:Int))) k r kl y pv n nv:=
   (heap_setCell_same _ _ 8 _ _ _ h).trans (by simp)
theorem PV.drop (h:PV w X v ps) (n:Nat) (A:n<=ps.length) {b o:Nat} (u:v= .slice (some (aD b o)) ps.length c) (c':Nat):PV w X (.slice (some ⟨b,o+n*2,none⟩) (ps.length-n) c') (ps.drop n):=by
 obtain⟨⟨a,y,d,p⟩,s⟩:=h;rw [u] at d;cases d;refine⟨⟨_,_,by rw [List.length_drop],λh0=>?_⟩,λq t=>s q (List.mem_of_mem_drop t)⟩;rw [List.length_drop] at h0;obtain⟨z,C,e,x,r⟩:=p (by omega);cases e;refine⟨b,o+n*2,rfl,x,λi bm=>?_⟩;rw [List.length_drop] at bm;obtain⟨g,f,j,k,l,m⟩:=r (n+i) (by omega);refine⟨g,f,?_,?_,l,?_⟩
 .rw [List.getElem_drop,show o+n*2+i*2=o+(n+i)*2 by omega];exact j
 .rw [show o+n*2+i*2+1=o+(n+i)*2+1 by omega];exact k
 .rw [List.getElem_drop];exact m
theorem iz.checked (h:iz w F X r s S k kl G pv ps hm nv) (dh:S.Ok s):∃hm',hm'<=ps.length/\(hm'=if (G.check S s).1=0 then ps.length else hm)/\(G.check S s).2.2.ov=CM.bX [] (ps.drop hm')/\(G.check S s).2.2.y=G.y/\(G.check S s).2.2.L.f=G.L.f/\(G.check S s).2.2.L.n=G.L.n/\(G.check S s).2.1.Ok s/\
    ((G.check S s).2.2.L.dead (G.check S s).2.1=false->∀b,b<G.y.blocks->CM.get (G.check S s).2.2.ov b=none->∀c,fnd ps b=some c->(G.check S s).2.1.now (G.y.home+b)=c):=by
 have Ed:∀q∈G.ov,G.y.home+q.1<s/\q.2.length=512:=λq o=>by
  rw [h.ov] at o;have:=List.mem_of_mem_drop (eO o);exact⟨by have:=h.kb q this;have:=h.hs;omega,(h.pl.len q this).1⟩
 have g:CM.Ok G.ov:=by rw [h.ov];exact mB _
 have BE:=h.lh;have XB:=h.hs;have H:∀b,CM.get G.ov b=fnd (ps.drop hm) b:=λb=>by rw [h.ov];exact gL _ _
 have I:∀b,fnd ps b=(fnd (ps.drop hm) b).or (fnd (ps.take hm) b):=λb=>by rw [<-lX,List.take_append_drop]
 obtain⟨p,J,C⟩:=qd (L:=G.L) dh;obtain⟨K,M,v,D,E⟩:=ev (h0:=G.y.home) (ms:=G.ov) p Ed;obtain⟨x,z⟩:=G4 (L:=G.L) v (by omega);have YG:=h.un;have ZV:(G.L.sync S s).1=0->G.L.dead S=false:=λa=>by
  unfold LG.sync at a;split at a
  .rename_i q;exact absurd a q
  .rename_i q;unfold LG.bd at q;cases hd:G.L.dead S
   .rfl
   .rw [hd] at q;simp at q
 have ic:=λ(b:Nat) (c:List Int)=>CR (b:=b) (c:=c) p g Ed;have Du:(G.L.sync S s).1≠0->(G.L.sync S s).2=S:=λa=>by
  unfold LG.sync at a⊢;split
  .rfl
  .rename_i q;rw [aA q] at a;exact(lf a).1
 unfold SG.check;generalize G.L.sync S s=Z at*;by_cases j:Z.1≠0
 .rw [aE j];refine⟨hm,h.hm,by rw [aA j],h.ov,rfl,rfl,rfl,p,?_⟩;rw [Du j];exact YG
 .rw [aA j];generalize sbring Z.2 s G.y.home G.ov=Y at*;by_cases l:Y.1≠0
  .rw [aE l];refine⟨hm,h.hm,by rw [aA l],h.ov,rfl,rfl,rfl,v,λhd=>?_⟩;have:=D l;unfold LG.dead at hd;rw [this] at hd;simp at hd
  .rw [aA l];have lI:∀b,b<G.y.blocks->CM.get G.ov b=none->∀c,fnd ps b=some c->(G.L.trim Y.2 s).2.1.now (G.y.home+b)=c:=λb t d c i=>by
    rw [z _ (by omega) (by omega),E _ (λq o e=>?_),C _ (by omega)]
    .exact YG (ZV (Decidable.not_not.1 j)) b t d c i
    .have:q.1=b:=(by omega);have A:=CM.get_of_mem g (k:=q.1) (c:=q.2) o;rw [this,d] at A;cases A
   have m:(G.L.trim Y.2 s).2.2.f=G.L.f/\(G.L.trim Y.2 s).2.2.n=G.L.n:=by
    unfold LG.trim;split
    .exact⟨rfl,rfl⟩
    .split
     .exact⟨rfl,rfl⟩
     .split <;> exact⟨rfl,rfl⟩
   by_cases u:(G.L.trim Y.2 s).1≠0
   .rw [aE u];exact⟨hm,h.hm,by rw [aA u],h.ov,rfl,m.1,m.2,x,λ_=>lI⟩
   .rw [aA u];refine⟨ps.length,bP _,by rw [aE rfl],?_,rfl,m.1,m.2,x,λ_ b t _ c i=>?_⟩
    .rw [List.drop_length];rfl
    .cases d:CM.get G.ov b with
     |none=>exact lI b t d c i
     |some c'=>
      have:c'=c:=by
       rw [I,<-H,d] at i;exact Option.some.inj i
      subst this;show (G.L.trim Y.2 s).2.1.now (G.y.home+b)=c';rw [z _ (by omega) (by omega)];exact ic b c' (Decidable.not_not.1 l) d
end
end
section
section
variable {w w':World} {F X:Nat->Prop} {r s k kl t hm:Nat} {S:DS} {G:SG} {pv nv:Value} {ps:List (Nat×List Int)}
theorem Pl.shape (h:Pl w X v ps):(v= .slice none 0 0/\ps= [])\/∃g cap,v= .slice (some (aD g 0)) ps.length cap/\ps.length<=cap/\cap<=maxLen/\X g:=by
 obtain⟨xs,h⟩:=h;obtain⟨_,⟨e,c⟩|⟨g,cap,cur,e,_,_,a,b,_⟩⟩:=h.own
 .exact .inl ⟨e,List.length_eq_zero_iff.1 c⟩
 .exact .inr ⟨g,cap,e,a,b,h.row g (by rw [e];rfl)⟩
theorem ad0 (w:World) (X:Nat->Prop):PV w X (.slice none 0 0) ([]:List (Nat×List Int)):=(Pl.nil w X).pv
theorem PV.dropped (h:PV w X (.slice (some (aD g 0)) ps.length cap) ps) (b:hm<=ps.length) (d:ps.length<=cap):PV w X (.slice (if cap=hm then some (aD g 0) else some ⟨g,hm*2,none⟩) (ps.length-hm) (cap-hm)) (ps.drop hm):=by
 by_cases e:cap=hm
 .have a:ps.drop hm= []:=List.drop_eq_nil_of_le (by omega);rw [a];exact⟨⟨_,_,by rw [show ps.length-hm=([]:List (Nat×List Int)).length by simp;omega],λh0=>by simp at h0⟩,λq c=>by cases c⟩
 .rw [aA e];have:=h.drop hm b rfl (cap-hm);rwa [Nat.zero_add] at this
theorem PV.R8 (h:PV w X (.slice (some (aD g 0)) ps.length cap) ps) (c:hm<=ps.length) (a:ps.length<=cap) (b:¬cap=hm):PV w X (.slice (some ⟨g,hm*2,none⟩) (ps.length-hm) (cap-hm)) (ps.drop hm):=by
 have:=h.dropped c a;rwa [aA b] at this
theorem PV.R9 (h:PV w X (.slice (some (aD g 0)) ps.length hm) ps) (b:hm<=ps.length) (a:ps.length<=hm):PV w X (.slice (some (aD g 0)) 0 0) (ps.drop hm):=by
 have:=h.dropped b a;rwa [aE rfl,Nat.sub_self,Nat.sub_eq_zero_of_le a] at this
theorem Sa (b:w0.heap.size<=w1.heap.size) (hd:aB w2 (more F w1 w2) r s S'):aB w2 (more F w0 w2) r s S':=
 hd.mono (λk a=>a.imp id (λh=>⟨by omega,h.2⟩)) (λk a=>a.elim (λh=>hd.lt k (.inl h)) (λh=>h.2))
theorem KF (b:w0.heap.size<=w1.heap.size) (ec:w1.heap.size<=w2.heap.size) (hd:aB w2 (more (more F w0 w1) w1 w2) r s S'):aB w2 (more F w0 w2) r s S':=
 hd.mono (λk a=>by
  rcases a with (a|a)|a
  .exact .inl a
  .exact .inr ⟨a.1,by omega⟩
  .exact .inr ⟨by omega,a.2⟩) (λk a=>a.elim (λh=>hd.lt k (.inl (.inl h))) (λh=>h.2))
def ZW (w:World) (F X:Nat->Prop) (r s k kl:Nat) (S:DS) (G:SG) (pv nv:Value) (ps:List (Nat×List Int)) (e:Ending) (w':World):Prop:=
 e= .returned (iV (G.check S s).1)/\aB w' (more F w w') r s (G.check S s).2.1/\(∃hm',iz w' (more F w w') X r s (G.check S s).2.1 k kl (G.check S s).2.2 pv ps hm' nv)/\aa (λj=>F j\/j=k\/j=kl) w w'
theorem iz.after (h:iz w F X r s S k kl G pv ps hm nv) (dh:S.Ok s) {hm':Nat} (bt:kX w' k r kl G.y pv hm' nv) (v:hm'=if (G.check S s).1=0 then ps.length else hm) (YH:cH w' kl r (G.check S s).2.2.L) (x8:(G.check S s).2.2.L.Ok s/\(G.check S s).2.2.L.begun=true) (i:aa (λj=>F j\/j=k\/j=kl) w w'):iz w' (more F w w') X r s (G.check S s).2.1 k kl (G.check S s).2.2 pv ps hm' nv:=by
 obtain⟨n,m,f,o,b,p,q,x,t⟩:=h.checked dh;rw [<-v] at f;subst f;refine⟨by rw [b];exact bt,YH,h.pl.au i (λg e a=>?_) (λg c z u l a=>?_),h.xk,h.xl,λg d a=>?_,λg d=>iP (h.lt g d) i.size,x8.1,x8.2,by rw [b];exact h.hs,by rw [b,p,q];exact h.lh,o,m,by rw [b];exact h.kb,by rw [b];exact t⟩
 .rcases a with a|a|a
  .exact h.fD g (h.pl.row g e) a
  .exact h.pl.ne e h.st (by decide) a
  .exact h.pl.ne e h.lp (by decide) a
 .rcases a with a|a|a
  .exact h.fD g u a
  .exact l.ne h.st (by decide) a
  .exact l.ne h.lp (by decide) a
 .rcases a with a|a
  .exact h.fD g d a
  .have:=h.lt g d;omega
theorem Aj (hd:aB w F r s S) (h:iz w F X r s S k kl G pv ps hm nv) (cZ:S.fC) (dP:G.L.bd S=0->S.num G.L.f<=G.L.ep*4294967296+G.L.tail) (aT:S.puts.length+4000<=4000000000000) (VE:ps.length<=4000000000000):
  Calls prog 78 #[pQ k] w λe w'=>ZW w F X r s k kl S G pv nv ps e w':=by
 obtain⟨dh,VZ,BE,XB,wQ,iQ⟩:=kQ hd.ok h.lk h.lh h.hs h.lk.s h.lk.n1;have km:=dh.hi;have Ed:∀q∈G.ov,G.y.home+q.1<s/\q.2.length=512:=λq W=>by
  rw [h.ov] at W;have:=List.mem_of_mem_drop (eO W);exact⟨by have:=h.kb q this;omega,(h.pl.len q this).1⟩
 have Un:∀q∈G.ov,Bytes q.2:=λq W=>by
  rw [h.ov] at W;exact(h.pl.len q (List.mem_of_mem_drop (eO W))).2
 have XS:G.ov.length<=2048:=by
  have uF:CM.Ok G.ov:=by rw [h.ov];exact mB _
  have D:=CM.length_le (n:=2048) uF (λq W=>by have:=(Ed q W).1;omega) 0 (λ_ _=>dU _);rcases D with D|D
  .omega
  .rw [D];simp
 obtain⟨a1,a2,a3⟩:=qd (L:=G.L) dh;obtain⟨b1,b2,b3,b4,b5⟩:=ev (h0:=G.y.home) (ms:=G.ov) a1 Ed;have D:=CE hd h.lp (h.fD _ h.xl) (by omega);have hZp:=nA G.L S s;have hZb:=pJ cZ G.L s;have hYp:=eA (G.L.sync S s).2 s G.y.home G.ov;have hYb:=j6 hZb s G.y.home Un;have Zy:=D8 h.lk (sbring (G.L.sync S s).2 s G.y.home G.ov).2;have XT:(G.L.sync S s).1=0->(sbring (G.L.sync S s).2 s G.y.home G.ov).2.num G.L.f<=G.L.ep*4294967296+G.L.tail:=λhz=>by
  have hu:G.L.bd S=0:=by
   unfold LG.sync at hz;split at hz
   .rename_i q;exact absurd hz q
   .rename_i q;exact Decidable.not_not.1 q
  rw [vw (S:=S) ((b5 _ (λq W e=>by omega)).trans (a3 _ (by omega))) ((b5 _ (λq W e=>by omega)).trans (a3 _ (by omega)))];exact dP hu
 have h2:=λ(w1:World) (iB:aB w1 F r s (G.L.sync S s).2) (v:Value) (hp:PV w1 X v (ps.drop hm))=>Ad (y:=G.y) iB hp h.fD XB (λx hx=>h.kb x (List.mem_of_mem_drop hx)) (by omega) (by rw [List.length_drop];omega);have h3:=λ(hz:(G.L.sync S s).1=0) (w1:World) (F1:Nat->Prop) (iB:aB w1 F1 r s (sbring (G.L.sync S s).2 s G.y.home G.ov).2) (cm:cH w1 kl r G.L) (iQ:¬F1 kl)=>Oi iB cm h.lk iQ hYb (by omega) (λ_=>XT hz);rw [<-h.ov] at h2;have jz:=λ(w':World) (hm':Nat)=>iz.after (w':=w') (hm':=hm') h dh;obtain⟨R,I⟩:=bQ (G.check S s);unfold ZW;rw [<-I] at jz⊢;unfold SG.check at I;obtain⟨vm,c1,H,mR,IV,oU,hlw,xr,mN⟩:=UD h.bg h.st.c1 (yh h) (yh jz) h.kne h.st.lt h.lp.lt (h.fD _ h.xk) (h.fD _ h.xl);generalize G.L.sync S s=Z at*;generalize sbring Z.2 s G.y.home G.ov=Y at*;generalize G.L.trim Y.2 s=V at*;obtain⟨H2,H3,E⟩:=jS h2 h3 Zy;clear h h2 h3 Zy hZb hYb cZ jz dP XT Ed Un a1 a2 a3 b1 b2 b3 b4 b5 hd;by_cases k1:Z.1=0
 .have d1:(Z.1 == 0)=true:=by rw [k1];rfl
  rw [aA (λh=>h k1)] at I;have Mq:=yh k1;clear k1;rcases H.o.pl.shape with ⟨wW,Dt⟩|⟨gp,cap,wW,iS,aqt,hXg⟩
  .have h0:=H.o.hm;rw [Dt] at h0;obtain rfl:hm=0:=(by simpa using h0);subst wW Dt;obtain⟨HP,Ef⟩:=bL (λ(w1:World) (_:aa F w w1)=>ad0 w1 X) I;clear I;go_in;go_wp2_with fail;refine oX D λw1 iB cm eH=>?_;have ed:=H.o.st.au eH xr;have dr:=eH.size;have oY:=HP.o w1 eH;obtain⟨K,M,N,O,P,Q,T⟩:=nW ed.c0 ed.c2 ed.c3 ed.c4 ed.c5 ed.c6 ed.c7;have U:w1.cell? (aD k 8)=some (iV 0):=ed.c8;have hb:=H2.o w1.drew (iB.later (ai (bi _ _))) _ (oY.later (ai (bi _ _)));have Cr:=yh eH;have oN:=yh ed;have Bt:=yh cm;have HB:=yh hb;clear D iB cm eH ed oY hb;go_wp2_with fail;go_region_held3 (λw'=>w'.cell? (aD k 0)=some (pQ r)/\w'.cell? (aD k 2)=some (iV (G.y.log:Int))/\w'.cell? (aD k 3)=some (iV (G.y.home:Int))/\w'.cell? (aD k 4)=some (iV (G.y.blocks:Int))/\w'.cell? (aD k 5)=some (iV (G.y.nodes:Int))/\w'.cell? (aD k 6)=some (iV (G.y.data:Int))/\w'.cell? (aD k 7)=some (.slice none 0 0)/\w'.cell? (aD k 8)=some (iV (0:Int)))
    (first|exact⟨K,M,N,O,P,Q,T,U⟩|exact⟨bo.c0,bo.c2,bo.c3,bo.c4,bo.c5,bo.c6,bo.c7,bo.c8⟩)
      ((go_at_call 123;refine HB.o.mono ?_;rintro e m ⟨rfl,cC,aX⟩;have bo:=(oN.o.later (ai (bi _ _))).au aX xr;have fy:=(Bt.o.later (ai (bi _ _))).au aX mN))
   have oU:=(Cr.o.trans (aa.ah F (ai (bi w1.heap.size w1))) (λ_ h=> .inl h)).trans aX (λ_ h=> .inl h);have uf:=Sa dr cC;by_cases l:Y.1=0
   .have d2:(Y.1 == 0)=true:=(by rw [l];rfl);have XU:=yh l;clear l;have iQ:¬more F w m kl:=λe=>e.elim mN (λe=>by omega);have Sb:¬more F w m k:=λe=>e.elim xr (λe=>by omega);obtain⟨Sc,c12,wR,Sd⟩:=cM (H3.o Mq.o m (more F w m) uf fy iQ) bo.c1 (yh bo) (yh oU);clear cC aX bo fy oU uf K M N O P Q T U;go_wp2_with fail;refine oX Sc λc i gZ aV=>?_;have kO:=aV.size;have fB:=wR.o.au aV (λe=>e.elim Sb IV);have pY:=KF Sd.o.size kO i;have pZ:=(Sd.o.mono (λ_ h=> .inl h):aa (λj=>F j\/j=k\/j=kl) w m).trans aV (λj b=>by rcases b with (b|b)|b;exact .inl (.inl b);exact .inr b.1;exact .inl (.inr (.inr b)));by_cases d:V.1=0
    .have d3:(V.1 == 0)=true:=(by rw [d];rfl);have a:=yh Ef.o;rw [aA (λh=>h XU.o),aA (λh=>h d)] at a;have J:=yh d;clear d;have c73:=fB.c7;have c83:=fB.c8;have f83:=fB.fz 8;have eF:aa (λj=>j=k) c (c.setCell ⟨k,8,none⟩ (.int .i64 ((0:Nat):Int))):=aa.setCell (F:=λj=>j=k) c (p:=(aD k 8)) rfl _;have Se:¬more F w c k:=λe=>e.elim xr (λe=>by omega);have C:=pY.au eF (λj b e=>Se (e▸b));have ef:(c.setCell ⟨k,8,none⟩ (.int .i64 ((0:Nat):Int))).heap.size=c.heap.size:=(by simp [World.setCell]);have G6:aB (c.setCell ⟨k,8,none⟩ (.int .i64 ((0:Nat):Int))) (more F w (c.setCell ⟨k,8,none⟩ (.int .i64 ((0:Nat):Int)))) r s V.2.1:=(by unfold more;rw [ef];exact C);have z:=yh (aF G6 (aF (gZ.au eF (λe=>IV e.symm)) (aF (fB.home 0) (pZ.trans eF (λ_ h=> .inl (.inr (.inl h)))))));clear i aV fB gZ pZ pY Sc eF C G6 ef;go_wp2;go_ret;obtain⟨t,A,u,g⟩:=z.o;exact⟨by rw [a.o];exact congrArg (λx=>Ending.returned (Value.int .i64 x)) J.o,by rw [a.o];exact t,⟨0,mR.o _ 0 u (by rw [a.o,aE rfl];rfl) (by rw [a.o];exact A) (by rw [a.o];exact⟨E.o.1,E.o.2.trans vm⟩) g⟩,g⟩
    .have d3:(V.1 == 0)=false:=(by rw [eG];exact d);have a:=yh Ef.o;rw [aA (λh=>h XU.o),aE d] at a;have ma:=yh d;clear d;have z:=yh (aF pY (aF gZ (aF fB pZ)));clear i aV fB gZ pZ pY Sc;go_wp2;go_ret;obtain⟨t,A,u,g⟩:=z.o;exact⟨by rw [a.o];rfl,by rw [a.o];exact t,⟨0,mR.o c 0 u (by rw [a.o,aA ma.o]) (by rw [a.o];exact A) (by rw [a.o];exact⟨E.o.1,E.o.2.trans vm⟩) g⟩,g⟩
   .have d2:(Y.1 == 0)=false:=(by rw [eG];exact l);have a:=yh Ef.o;rw [aE l] at a;have gQ:=yh l;clear l;have z:=yh (aF uf (aF fy (aF bo oU)));clear cC aX bo fy oU uf K M N O P Q T U;go_wp2;go_ret;obtain⟨t,A,u,g⟩:=z.o;have pZ:aa (λj=>F j\/j=k\/j=kl) w m:=g.mono (λ_ h=> .inl h);exact⟨by rw [a.o];rfl,by rw [a.o];exact t,⟨0,mR.o m 0 u (by rw [a.o,aA gQ.o]) (by rw [a.o];exact A) (by rw [a.o];exact⟨VZ,vm⟩) pZ⟩,pZ⟩
  .subst wW;have BV:=H.o.hm;by_cases hce:cap=hm
   .obtain rfl:hm=cap:=hce.symm;obtain⟨HP,Ef⟩:=bL (λ(w1:World) (eH:aa F w w1)=>PV.R9 (H.o.pl.pv.au eH H.o.fD) BV iS) I;clear I;go_in;go_wp2_with fail;refine oX D λw1 iB cm eH=>?_;have ed:=H.o.st.au eH xr;have dr:=eH.size;have oY:=HP.o w1 eH;obtain⟨K,M,N,O,P,Q,T,U,hb,Cr,oN,Bt⟩:=BU ed.c0 ed.c2 ed.c3 ed.c4 ed.c5 ed.c6 ed.c7 ed.c8 (H2.o w1.drew (iB.later (ai (bi _ _))) _ (oY.later (ai (bi _ _)))) (yh eH) (yh ed) (yh cm);have HB:=yh hb;clear D iB cm eH ed oY hb;go_wp2_with fail;go_region_held3 (λw'=>w'.cell? (aD k 0)=some (pQ r)/\w'.cell? (aD k 2)=some (iV (G.y.log:Int))/\w'.cell? (aD k 3)=some (iV (G.y.home:Int))/\w'.cell? (aD k 4)=some (iV (G.y.blocks:Int))/\w'.cell? (aD k 5)=some (iV (G.y.nodes:Int))/\w'.cell? (aD k 6)=some (iV (G.y.data:Int))/\w'.cell? (aD k 7)=some (.slice (some (aD gp 0)) ps.length hm)/\w'.cell? (aD k 8)=some (iV (hm:Int)))
     (first|exact⟨K,M,N,O,P,Q,T,U⟩|exact⟨bo.c0,bo.c2,bo.c3,bo.c4,bo.c5,bo.c6,bo.c7,bo.c8⟩)
       ((go_at_call 123;refine HB.o.mono ?_;rintro e m ⟨rfl,cC,aX⟩;have bo:=(oN.o.later (ai (bi _ _))).au aX xr;have fy:=(Bt.o.later (ai (bi _ _))).au aX mN))
    have oU:=(Cr.o.trans (aa.ah F (ai (bi w1.heap.size w1))) (λ_ h=> .inl h)).trans aX (λ_ h=> .inl h);have uf:=Sa dr cC;by_cases l:Y.1=0
    .have d2:(Y.1 == 0)=true:=(by rw [l];rfl);have XU:=yh l;clear l;have iQ:¬more F w m kl:=λe=>e.elim mN (λe=>by omega);have Sb:¬more F w m k:=λe=>e.elim xr (λe=>by omega);obtain⟨Sc,c12,wR,Sd⟩:=cM (H3.o Mq.o m (more F w m) uf fy iQ) bo.c1 (yh bo) (yh oU);clear cC aX bo fy oU uf K M N O P Q T U;go_wp2_with fail;refine oX Sc λc i gZ aV=>?_;have kO:=aV.size;have fB:=wR.o.au aV (λe=>e.elim Sb IV);have pY:=KF Sd.o.size kO i;have pZ:=(Sd.o.mono (λ_ h=> .inl h):aa (λj=>F j\/j=k\/j=kl) w m).trans aV (λj b=>by rcases b with (b|b)|b;exact .inl (.inl b);exact .inr b.1;exact .inl (.inr (.inr b)));by_cases d:V.1=0
     .have d3:(V.1 == 0)=true:=(by rw [d];rfl);have a:=yh Ef.o;rw [aA (λh=>h XU.o),aA (λh=>h d)] at a;have J:=yh d;clear d;have c73:=fB.c7;have c83:=fB.c8;have f83:=fB.fz 8;have eF:aa (λj=>j=k) c (c.setCell ⟨k,8,none⟩ (.int .i64 (ps.length:Int))):=aa.setCell (F:=λj=>j=k) c (p:=(aD k 8)) rfl _;have Se:¬more F w c k:=λe=>e.elim xr (λe=>by omega);have C:=pY.au eF (λj b e=>Se (e▸b));have ef:(c.setCell ⟨k,8,none⟩ (.int .i64 (ps.length:Int))).heap.size=c.heap.size:=(by simp [World.setCell]);have G6:aB (c.setCell ⟨k,8,none⟩ (.int .i64 (ps.length:Int))) (more F w (c.setCell ⟨k,8,none⟩ (.int .i64 (ps.length:Int)))) r s V.2.1:=(by unfold more;rw [ef];exact C);have z:=yh (aF G6 (aF (gZ.au eF (λe=>IV e.symm)) (aF (fB.home ps.length) (pZ.trans eF (λ_ h=> .inl (.inr (.inl h)))))));clear i aV fB gZ pZ pY Sc eF C G6 ef;go_wp2;go_ret;obtain⟨t,A,u,g⟩:=z.o;exact⟨by rw [a.o];exact congrArg (λx=>Ending.returned (Value.int .i64 x)) J.o,by rw [a.o];exact t,⟨ps.length,mR.o _ ps.length u (by rw [a.o,aE rfl]) (by rw [a.o];exact A) (by rw [a.o];exact⟨E.o.1,E.o.2.trans vm⟩) g⟩,g⟩
     .have d3:(V.1 == 0)=false:=(by rw [eG];exact d);have a:=yh Ef.o;rw [aA (λh=>h XU.o),aE d] at a;have ma:=yh d;clear d;have z:=yh (aF pY (aF gZ (aF fB pZ)));clear i aV fB gZ pZ pY Sc;go_wp2;go_ret;obtain⟨t,A,u,g⟩:=z.o;exact⟨by rw [a.o];rfl,by rw [a.o];exact t,⟨hm,mR.o c hm u (by rw [a.o,aA ma.o]) (by rw [a.o];exact A) (by rw [a.o];exact⟨E.o.1,E.o.2.trans vm⟩) g⟩,g⟩
    .have d2:(Y.1 == 0)=false:=(by rw [eG];exact l);have a:=yh Ef.o;rw [aE l] at a;have gQ:=yh l;clear l;have z:=yh (aF uf (aF fy (aF bo oU)));clear cC aX bo fy oU uf K M N O P Q T U;go_wp2;go_ret;obtain⟨t,A,u,g⟩:=z.o;have pZ:aa (λj=>F j\/j=k\/j=kl) w m:=g.mono (λ_ h=> .inl h);exact⟨by rw [a.o];rfl,by rw [a.o];exact t,⟨hm,mR.o m hm u (by rw [a.o,aA gQ.o]) (by rw [a.o];exact A) (by rw [a.o];exact⟨VZ,vm⟩) pZ⟩,pZ⟩
   .obtain⟨HP,Ef⟩:=bL (λ(w1:World) (eH:aa F w w1)=>PV.R8 (H.o.pl.pv.au eH H.o.fD) BV iS hce) I;clear I;go_in;go_wp2_with fail;refine oX D λw1 iB cm eH=>?_;have ed:=H.o.st.au eH xr;have dr:=eH.size;have oY:=HP.o w1 eH;obtain⟨K,M,N,O,P,Q,T,U,hb,Cr,oN,Bt⟩:=BU ed.c0 ed.c2 ed.c3 ed.c4 ed.c5 ed.c6 ed.c7 ed.c8 (H2.o w1.drew (iB.later (ai (bi _ _))) _ (oY.later (ai (bi _ _)))) (yh eH) (yh ed) (yh cm);have HB:=yh hb;clear D iB cm eH ed oY hb;go_wp2_with fail;go_region_held3 (λw'=>w'.cell? (aD k 0)=some (pQ r)/\w'.cell? (aD k 2)=some (iV (G.y.log:Int))/\w'.cell? (aD k 3)=some (iV (G.y.home:Int))/\w'.cell? (aD k 4)=some (iV (G.y.blocks:Int))/\w'.cell? (aD k 5)=some (iV (G.y.nodes:Int))/\w'.cell? (aD k 6)=some (iV (G.y.data:Int))/\w'.cell? (aD k 7)=some (.slice (some (aD gp 0)) ps.length cap)/\w'.cell? (aD k 8)=some (iV (hm:Int)))
     (first|exact⟨K,M,N,O,P,Q,T,U⟩|exact⟨bo.c0,bo.c2,bo.c3,bo.c4,bo.c5,bo.c6,bo.c7,bo.c8⟩)
       ((go_at_call 123;refine HB.o.mono ?_;rintro e m ⟨rfl,cC,aX⟩;have bo:=(oN.o.later (ai (bi _ _))).au aX xr;have fy:=(Bt.o.later (ai (bi _ _))).au aX mN))
    have oU:=(Cr.o.trans (aa.ah F (ai (bi w1.heap.size w1))) (λ_ h=> .inl h)).trans aX (λ_ h=> .inl h);have uf:=Sa dr cC;by_cases l:Y.1=0
    .have d2:(Y.1 == 0)=true:=(by rw [l];rfl);have XU:=yh l;clear l;have iQ:¬more F w m kl:=λe=>e.elim mN (λe=>by omega);have Sb:¬more F w m k:=λe=>e.elim xr (λe=>by omega);obtain⟨Sc,c12,wR,Sd⟩:=cM (H3.o Mq.o m (more F w m) uf fy iQ) bo.c1 (yh bo) (yh oU);clear cC aX bo fy oU uf K M N O P Q T U;go_wp2_with fail;refine oX Sc λc i gZ aV=>?_;have kO:=aV.size;have fB:=wR.o.au aV (λe=>e.elim Sb IV);have pY:=KF Sd.o.size kO i;have pZ:=(Sd.o.mono (λ_ h=> .inl h):aa (λj=>F j\/j=k\/j=kl) w m).trans aV (λj b=>by rcases b with (b|b)|b;exact .inl (.inl b);exact .inr b.1;exact .inl (.inr (.inr b)));by_cases d:V.1=0
     .have d3:(V.1 == 0)=true:=(by rw [d];rfl);have a:=yh Ef.o;rw [aA (λh=>h XU.o),aA (λh=>h d)] at a;have J:=yh d;clear d;have c73:=fB.c7;have c83:=fB.c8;have f83:=fB.fz 8;have eF:aa (λj=>j=k) c (c.setCell ⟨k,8,none⟩ (.int .i64 (ps.length:Int))):=aa.setCell (F:=λj=>j=k) c (p:=(aD k 8)) rfl _;have Se:¬more F w c k:=λe=>e.elim xr (λe=>by omega);have C:=pY.au eF (λj b e=>Se (e▸b));have ef:(c.setCell ⟨k,8,none⟩ (.int .i64 (ps.length:Int))).heap.size=c.heap.size:=(by simp [World.setCell]);have G6:aB (c.setCell ⟨k,8,none⟩ (.int .i64 (ps.length:Int))) (more F w (c.setCell ⟨k,8,none⟩ (.int .i64 (ps.length:Int)))) r s V.2.1:=(by unfold more;rw [ef];exact C);have z:=yh (aF G6 (aF (gZ.au eF (λe=>IV e.symm)) (aF (fB.home ps.length) (pZ.trans eF (λ_ h=> .inl (.inr (.inl h)))))));clear i aV fB gZ pZ pY Sc eF C G6 ef;go_wp2;go_ret;obtain⟨t,A,u,g⟩:=z.o;exact⟨by rw [a.o];exact congrArg (λx=>Ending.returned (Value.int .i64 x)) J.o,by rw [a.o];exact t,⟨ps.length,mR.o _ ps.length u (by rw [a.o,aE rfl]) (by rw [a.o];exact A) (by rw [a.o];exact⟨E.o.1,E.o.2.trans vm⟩) g⟩,g⟩
     .have d3:(V.1 == 0)=false:=(by rw [eG];exact d);have a:=yh Ef.o;rw [aA (λh=>h XU.o),aE d] at a;have ma:=yh d;clear d;have z:=yh (aF pY (aF gZ (aF fB pZ)));clear i aV fB gZ pZ pY Sc;go_wp2;go_ret;obtain⟨t,A,u,g⟩:=z.o;exact⟨by rw [a.o];rfl,by rw [a.o];exact t,⟨hm,mR.o c hm u (by rw [a.o,aA ma.o]) (by rw [a.o];exact A) (by rw [a.o];exact⟨E.o.1,E.o.2.trans vm⟩) g⟩,g⟩
    .have d2:(Y.1 == 0)=false:=(by rw [eG];exact l);have a:=yh Ef.o;rw [aE l] at a;have gQ:=yh l;clear l;have z:=yh (aF uf (aF fy (aF bo oU)));clear cC aX bo fy oU uf K M N O P Q T U;go_wp2;go_ret;obtain⟨t,A,u,g⟩:=z.o;have pZ:aa (λj=>F j\/j=k\/j=kl) w m:=g.mono (λ_ h=> .inl h);exact⟨by rw [a.o];rfl,by rw [a.o];exact t,⟨hm,mR.o m hm u (by rw [a.o,aA gQ.o]) (by rw [a.o];exact A) (by rw [a.o];exact⟨VZ,vm⟩) pZ⟩,pZ⟩
 .have d1:(Z.1 == 0)=false:=by rw [eG];exact k1
  rw [aE k1] at I;obtain⟨a,Cr⟩:=bL I k1;clear k1 I;go_in;go_wp2_with fail;refine oX D λw1 iB cm eH=>?_;have z:=yh (aF iB (aF cm eH));clear D iB cm eH;go_wp2;go_ret;obtain⟨t,A,u⟩:=z.o;have aX:aa (λj=>F j\/j=k\/j=kl) w w1:=u.mono (λ_ h=> .inl h);refine⟨by rw [a.o];rfl,by rw [a.o];exact t.mono (λ_ h=> .inl h) (λj b=>by rcases b with b|b;exact t.lt j b;exact b.2),⟨hm,mR.o w1 hm (H.o.st.au u xr) (by rw [a.o,aA Cr.o]) (by rw [a.o];exact A) (by rw [a.o];exact⟨VZ,vm⟩) aX⟩,aX⟩
end
end
section
theorem ug (m n:Nat) (w:World) (j:m<=9223372036854775807) (o:n<=8):
  Calls prog 140 #[iV (m:Int),iV (n:Int)] w λe w'=>∃v,e= .returned v/\Own w' w.heap.size v (leb n m)/\bW w w':=by
 go_in;go_wp2;go_loopw [0,5,6] (λx v i wr=>∃k:Nat,k<=n/\x=iV ((m / 2 ^ (8*k):Nat):Int)/\i=iV (k:Int)/\Own wr w.heap.size v (leb k m)/\bW w wr) (λ_ _ i _=>n-(intOf i).toNat);case atStart=>exact⟨0,dU _,by simp,rfl,Own.nil _ _,bi _ _⟩
 case round=>
  obtain⟨k,l,rfl,rfl,az,dO⟩:=hrel;obtain⟨bq,a,p,f⟩:=cM az dO dO.size (aH k m);clear az dO;by_cases bm:k<n
  .have cw:(k:Int)<(n:Int):=(by omega);have g:m / 2 ^ (8*k)<=9223372036854775807:=jQ (Nat.div_le_self _ _) j;have c:m / 2 ^ (8*(k+1))=m / 2 ^ (8*k) / 256:=(by rw [Nat.div_div_eq_div_mul,Nat.mul_succ,Nat.pow_add]);have GR:=c;have N2:=iX k m;clear c;obtain⟨Q,d⟩:=bQ (m / 2 ^ (8*k));rw [<-d] at g GR N2⊢;clear d;have q:(Q:Int).tmod 256=((Q%256:Nat):Int):=(by rw [Int.tmod_eq_emod_of_nonneg (by omega)];omega);have r:(Q:Int).tdiv 256=((Q / 256:Nat):Int):=(by rw [Int.tdiv_eq_ediv_of_nonneg (by omega)];omega);go_wp2_with (at_builtin;refine b9 rfl _ _ rfl w.heap.size u5 (leb k m) _ rfl rfl bq ?b1 ?b2 ?_);case b1=>omega
   case b2=>omega
   intro s w1 tz aq;have b:=(aF tz (a.trans aq));clear tz aq;go_wp2;go_roundw;case rel=>exact⟨k+1,by omega,by rw [GR];first|rfl|simp,by go_num,by rw [N2];exact b.1,b.2⟩
   case measure=>simp [intOf];omega
  .obtain rfl:k=n:=(by omega);have vQ:¬(k:Int)<(k:Int):=(by omega);go_wp2;go_ret;exact⟨_,rfl,bq,a⟩
section
variable {w w' w1 w2:World} {F F' X X' Y Z:Nat->Prop} {r s k kl t hm:Nat} {S:DS} {G:SG} {T:TG} {L:LG} {v u pv pv' nv tv:Value} {ps qs us:List (Nat×List Int)} {xs ys:List Value}
theorem PL.one (h:PL w X v ps xs):∀x∈xs,x.oneCell'=true:=λx e=>by
 have Fb:=h.own.1;obtain⟨j,d,rfl⟩:=List.mem_iff_getElem.1 e;obtain⟨g,c,a,b,_⟩:=h.put (j / 2) (by omega);by_cases q:j%2=0
 .have:2*(j / 2)=j:=by omega
  rw [this,List.getElem?_eq_getElem d] at a;rw [Option.some.inj a];rfl
 .have:2*(j / 2)+1=j:=by omega
  rw [this,List.getElem?_eq_getElem d] at b;rw [Option.some.inj b];rfl
theorem PL.cat (h:PL w X v ps xs) (r:PL w Y u qs ys) {l bZ:Nat} (az:w2.ownsRow 0 166 2 (.slice (some (aD l 0)) (ps.length+qs.length) bZ) (ps.length+qs.length) (xs ++ ys)) (aO:w.grownBy w2 v.ownBlock) (s:∀j,X j->Z j) (t:∀i (_:i<qs.length) g c,ys[2*i+1]? =some (.slice (some (aD g 0)) 512 c)->Z g) (x:Z l):
  PL w2 Z (.slice (some (aD l 0)) (ps.length+qs.length) bZ) (ps ++ qs) (xs ++ ys)/\aa (λj=>v.ownBlock=some j) w w2:=by
 have b:=λj a o=>aO.block j a o;have Md:∀j c ys,ay w 5 j c ys->ay w2 5 j c ys:=λj c ys a=>by
  have AX:=a;obtain⟨cur,ie,_⟩:=AX;exact a.agree (b j a.lt (λe=>dR h.own e.symm ie (by decide) rfl))
 have Fb:=h.own.1;refine⟨⟨by rw [dT];exact az,λj a=>?_,λi y=>?_,λq d=>?_⟩,⟨aO.os,aO.tape,aO.output,aO.size,λj a o=>b j a (λe=>o e.symm)⟩⟩
 .have e:j=l:=by simpa [Value.ownBlock] using a.symm
  rw [e];exact x
 .by_cases nj:i<ps.length
  .obtain⟨k,c',m,f,p,n⟩:=h.put i nj;refine⟨k,c',?_,?_,s _ p,?_⟩
   .rw [List.getElem?_append_left (by omega),m,List.getElem_append_left nj]
   .rw [List.getElem?_append_left (by omega),f]
   .rw [List.getElem_append_left nj];exact Md _ _ _ n
  .have Dm:i-ps.length<qs.length:=(by rw [dT] at y;omega);obtain⟨k,c',m,f,p,n⟩:=r.put (i-ps.length) Dm;refine⟨k,c',?_,?_,t _ Dm k c' f,?_⟩
   .rw [List.getElem?_append_right (by omega),show 2*i-xs.length=2*(i-ps.length) by omega,m,List.getElem_append_right (by omega)]
   .rw [List.getElem?_append_right (by omega),show 2*i+1-xs.length=2*(i-ps.length)+1 by omega,f]
   .rw [List.getElem_append_right (by omega)];exact Md _ _ _ n
 .rcases List.mem_append.1 d with d|d
  .exact h.len q d
  .exact r.len q d
theorem Ol (L:LG) (S:DS) (s:Nat) (d:List Int):(L.append S s d).2.2.f=L.f/\(L.append S s d).2.2.n=L.n:=by
 unfold LG.append;split
 .exact⟨rfl,rfl⟩
 .split <;> exact⟨rfl,rfl⟩
theorem iz.Sf (h:iz w F X r s S k kl G pv ps hm nv) (dh:S.Ok s) (d:List Int) {ns:CM} (xr:∀x∈ns,x.1<G.y.blocks) (bt:kX w' k r kl G.y pv' hm nv) (YH:cH w' kl r (G.L.append S s d).2.2) (pf:Pl w' X' pv' (ps ++ ns)) (e:∀g,X g->X' g) (ZX:∀g,X' g->¬F' g) (bm:∀g,X' g->g<w'.heap.size) (b:Bool):
  iz w' F' X' r s (G.L.append S s d).2.1 k kl {G with L:=(G.L.append S s d).2.2,ov:=CM.bX G.ov ns,busy:=b} pv' (ps ++ ns) hm nv:=by
 obtain⟨x8,j,o,v,p,q⟩:=kQ (vn h.lk S d) (Ol G.L S s d) h.lk.s h.lk.n1 h.lh h.hs;have lI:=Ai dh (by omega:1<=G.L.n) o d;have uF:CM.Ok G.ov:=by rw [h.ov];exact mB _
 refine⟨bt,YH,pf,e _ h.xk,e _ h.xl,ZX,bm,x8.1,x8.2.trans h.bg,q,?_,?_,?_,λx a=>?_,λhd b t u c i=>?_⟩
 .show (G.L.append S s d).2.2.f+2+(G.L.append S s d).2.2.n<=G.y.home;rw [j.1,j.2];exact p
 .show CM.bX G.ov ns=_;rw [List.drop_append_of_le_length h.hm,pR,<-h.ov]
 .rw [dT];have:=h.hm;omega
 .rcases List.mem_append.1 a with a|a
  .exact h.kb x a
  .exact xr x a
 .have yq:=Oj d hd;have Rh:CM.get (CM.bX G.ov ns) b=none:=u;rw [Cy b uF] at Rh;obtain⟨l,m⟩:=Option.or_eq_none_iff.1 Rh;rw [lX,l] at i;show (G.L.append S s d).2.1.now (G.y.home+b)=c;rw [lI.2 _ (by omega)];exact h.un yq b t m c i
theorem iz.busy (h:iz w F X r s S k kl G pv ps hm nv) (b:Bool):iz w F X r s S k kl {G with busy:=b} pv ps hm nv:=⟨h.st,h.lp,h.pl,h.xk,h.xl,h.fD,h.lt,h.lk,h.bg,h.hs,h.lh,h.ov,h.hm,h.kb,h.un⟩
end
end
section
def KG (T:TG) (G:SG) (S:DS) (b:Nat):CM:=(below T.puts b).filter λx=> !decide (x.2=G.block S x.1)
section
variable {T:TG} {G:SG} {S:DS} {b:Nat} {l:List Int}
theorem Sg:KG T G S 0= []:=by unfold KG;rw [sA];rfl
theorem Sh (a:CM.Ok T.puts) (h:CM.get T.puts b=none):KG T G S (b+1)=KG T G S b:=by unfold KG;rw [sx a h]
theorem Si (c:CM.Ok T.puts) (h:CM.get T.puts b=some l) (a:l=G.block S b):KG T G S (b+1)=KG T G S b:=by
 unfold KG;rw [sy c h,List.filter_append];simp [a]
theorem V0 (c:CM.Ok T.puts) (h:CM.get T.puts b=some l) (a:¬l=G.block S b):KG T G S (b+1)=KG T G S b ++ [(b,l)]:=by
 unfold KG;rw [sy c h,List.filter_append];simp [a]
theorem V9 (h:∀q∈T.puts,q.1<n):KG T G S n=T.news G S:=by unfold KG TG.news;rw [Cz h]
theorem Wa:(KG T G S b).length<=T.puts.length:=jQ (List.length_filter_le _ _) (List.length_filter_le _ _)
theorem De {α β:Type} (f:α->List β) (ns:List α) (a:i<ns.length):(ns.take (i+1)).flatMap f=(ns.take i).flatMap f ++ f ns[i]:=by
 rw [List.take_add_one,List.getElem?_eq_getElem a,List.flatMap_append];congr 1;simp
end
theorem Own.lo {w:World} {B:Nat} {l:List Int} (h:Own w B v l) (a:v.ownBlock=some g):B<=g/\∃cur,w.heap[g]? =some (.cells cur 5 (0,0)):=by
 obtain⟨_,⟨rfl,_⟩|⟨e,b,cur,rfl,d,c,_⟩⟩:=h
 .simp [Value.ownBlock] at a
 .simp [Value.ownBlock] at a;subst a;exact⟨d,cur,c⟩
theorem Pn.beside {w w':World} {X:Nat->Prop} {B:Nat} {u:Value} {ps:List (Nat×List Int)} {l:List Int} (h:Pn w X B v ps) (f:Own w B u l) (i:∀g,X g->g<B) (k:aa (λj=>u.ownBlock=some j) w w'):Pn w' X B v ps:=by
 refine h.au k (λg e b=>?_) (λg c n a m b=>?_)
 .obtain⟨_,cur,d⟩:=f.lo b;exact h.pl.ne e d (by decide) rfl
 .rcases a with a|a
  .have:=(f.lo b).1;have:=i g a;omega
  .obtain⟨_,cur,d⟩:=f.lo b;exact h.pl.ne a d (by decide) rfl
theorem Own.au {w w':World} {B:Nat} {l:List Int} {Z:Nat->Prop} (h:Own w B v l) (a:aa Z w w') (b:∀g,v.ownBlock=some g->¬Z g):Own w' B v l:=
 aC h (λg e=>a.block g (pU h e) (b g e))
theorem G7 {W:World} {B:Nat} {i:List Int} (az:Own W B v i) (c:Nat) (r:Src W a n d) (hd:0<n) (f:i.length+n<=1000000) (o:B<=W.heap.size):
  ∃v' w',(Builtin.append_ #[36,36] 36 #[v, .slice a n c]).run prog W= .ok v' w'/\Own w' B v' (i ++ d)/\aa (λj=>v.ownBlock=some j) W w':=by
 obtain⟨g,l,w',m,k,b,_⟩:=qK az c r hd f o;refine⟨_,w',m,?_,⟨b.os,b.tape,b.output,b.size,λj p q=>b.block j p (λe=>q e.symm)⟩⟩;rw [<-iE] at k;have e:i.length+d.length=(i ++ d).length:=by simp
 unfold Own;rw [e] at k⊢;exact k
def gX (w:World) (F X:Nat->Prop) (r s k kl t:Nat) (pv tv nv:Value) (ps us:List (Nat×List Int)) (R:Int×DS×SG×TG) (e:Ending) (w':World):Prop:=
 ∃(F' X':Nat->Prop) (pv':Value) (ZY:List (Nat×List Int)) (hm':Nat),e= .returned (iV R.1)/\(∀j,F' j->more F w w' j)/\(∀j,X' j->more X w w' j)/\(∀j,X j->X' j)/\aB w' F' r s R.2.1/\iz w' F' X' r s R.2.1 k kl R.2.2.1 pv' ZY hm' nv/\nT w' X' k t R.2.2.1 R.2.2.2 tv us/\(ZY.length<=ps.length+us.length/\(R.2.2.2.ended=false->ZY=ps))/\(pv'.ownBlock=pv.ownBlock\/∀g,pv'.ownBlock=some g->w.heap.size<=g)/\aa (λj=>F j\/j=k\/j=kl\/j=t\/pv.ownBlock=some j) w w'
section
variable {w w' w5 w6 w7:World} {F F5 X:Nat->Prop} {r s k kl t hm xB g2 bZ:Nat} {S S5:DS} {G G5:SG} {T:TG} {pv nv tv lv:Value} {ps us:List (Nat×List Int)} {ns:CM} {xs ys:List Value}
theorem nT.asked (h:iz w F X r s S k kl G pv ps hm nv) (b:nT w X k t G T tv us) (l:aa (λj=>F j\/j=k\/j=kl) w w'):nT w' X k t G T tv us:=by
 refine⟨b.tx.au l (λa=>?_),b.xt,b.pl.au l (λg e a=>?_) (λg c o n m a=>?_),b.nd,b.pu,b.kb,b.D6⟩
 .obtain⟨d,f,i⟩:=jw b.tx h.st h.lp;unfold nf at d;unfold kX at f;unfold cH at i;rcases a with a|a|a
  .exact h.fD t b.xt a
  .rw [a,f] at d;simp at d
  .rw [a,i] at d;simp at d
 .rcases a with a|a|a
  .exact h.fD g (b.pl.row g e) a
  .exact b.pl.ne e h.st (by decide) a
  .exact b.pl.ne e h.lp (by decide) a
 .rcases a with a|a|a
  .exact h.fD g n a
  .exact m.ne h.st (by decide) a
  .exact m.ne h.lp (by decide) a
theorem Pn.asked {B:Nat} (h:iz w F X r s S k kl G pv ps hm nv) (f:∀j,F j->j<B) (m:k<B/\kl<B) (d:Pn w X B lv ns) (l:aa (λj=>F j\/j=k\/j=kl) w w'):Pn w' X B lv ns:=by
 refine d.au l (λg e a=>?_) (λg c n b i a=>?_)
 .have:=d.lo g e;rcases a with a|a|a
  .have:=f g a;omega
  .omega
  .omega
 .rcases b with b|b
  .rcases a with a|a|a
   .exact h.fD g b a
   .exact i.ne h.st (by decide) a
   .exact i.ne h.lp (by decide) a
  .have:=d.lo g b;rcases a with a|a|a
   .have:=f g a;omega
   .omega
   .omega
theorem gX.fail (h:iz w F X r s S k kl G pv ps hm nv) (g:nT w X k t G T tv us) (c:T.ended=false) (f:∀j,F5 j->more F w w' j) (hd:aB w' F5 r s S5) (e:iz w' F5 X r s S5 k kl G5 pv ps xB nv) (i:G5.y=G.y) (d:aa (λj=>F j\/j=k\/j=kl) w w') (x:Int):gX w F X r s k kl t pv tv nv ps us (x,S5,G5,T) (.returned (iV x)) w':=by
 have a:=nT.asked h g d;exact⟨F5,X,pv,ps,xB,rfl,f,λ_ h=> .inl h,λ_ h=>h,hd,e,⟨a.tx,a.xt,a.pl,a.nd,a.pu,by rw [i];exact a.kb,a.D6⟩,⟨by omega,λ_=>rfl⟩, .inl rfl,d.mono (λj b=>by rcases b with b|b|b;exact .inl b;exact .inr (.inl b);exact .inr (.inr (.inl b)))⟩
theorem gX.done (h:iz w F X r s S k kl G pv ps hm nv) (u:nT w X k t G T tv us) (I6:∀g,pv.ownBlock=some g->tv.ownBlock≠some g)
    (m:iz w5 F5 X r s S5 k kl G5 pv ps xB nv) (D:G5.y=G.y) (ZZ:S5.Ok s) (pX:∀j,F5 j->more F w w5 j) (dX:aa (λj=>F j\/j=k\/j=kl) w w5) (d:List Int)
    (po:aB w6 (more F5 w5 w6) r s (G5.L.append S5 s d).2.1) (Ms:cH w6 kl r (G5.L.append S5 s d).2.2) (ji:aa (λj=>F5 j\/j=kl) w5 w6)
    (o7:PL w6 X pv ps xs) (Wb:PL w6 (λj=>X j\/lv.ownBlock=some j) lv ns ys) (Z0:∀i (_:i<ns.length) g c,ys[2*i+1]? =some (.slice (some (aD g 0)) 512 c)->X g) (xr:∀x∈ns,x.1<G.y.blocks) (mN:ns.length<=us.length)
    (az:w7.ownsRow 0 166 2 (.slice (some (aD g2 0)) (ps.length+ns.length) bZ) (ps.length+ns.length) (xs ++ ys)) (aO:w6.grownBy w7 pv.ownBlock) (ic:pv.ownBlock=some g2\/g2=w6.heap.size):
  w7.heap[k]? =w6.heap[k]?/\w7.heap[t]? =w6.heap[t]?/\w6.heap[t]? =w.heap[t]?/\kX w6 k r kl G5.y pv xB nv/\k≠t/\
  gX w F X r s k kl t pv tv nv ps us (0,(G5.L.append S5 s d).2.1,{G5 with L:=(G5.L.append S5 s d).2.2,ov:=CM.bX G5.ov ns,busy:=false},T.close) (.returned (iV 0)) ((w7.setCell ⟨k,7,none⟩ (.slice (some ⟨g2,0,none⟩) (ps.length+ns.length) bZ)).setCell ⟨t,2,none⟩ (.bool true)):=by
 obtain⟨Z1,qE,Mf,KH⟩:=cM (nT.asked h u dX) dX.size ji.size (m.st.au ji (λe=>e.elim (m.fD _ m.xk) m.kne));have G8:nT w6 X k t G5 T tv us:=by
  have:=nT.asked (G:=G5) m ⟨Z1.tx,Z1.xt,Z1.pl,Z1.nd,Z1.pu,by rw [D];exact Z1.kb,Z1.D6⟩ (w':=w6) (ji.mono (λj a=>by rcases a with a|a;exact .inl a;exact .inr (.inr a)));exact this
 have I2:k≠t:=λe=>by
  have b:=u.tx;have q:=h.st;unfold nf at b;unfold kX at q;rw [<-e,q] at b;simp at b
 have ajo:kl≠t:=λe=>by
  have b:=u.tx;have q:=h.lp;unfold nf at b;unfold cH at q;rw [<-e,q] at b;simp at b
 have Qu:w6.heap[t]? =w.heap[t]? :=by
  have A:=G8.tx;have C:=u.tx;unfold nf at A C;rw [A,C]
 obtain⟨v,gy⟩:=o7.cat Wb (Z:=λj=>X j\/(Value.slice (some (aD g2 0)) (ps.length+ns.length) bZ).ownBlock=some j) az aO (λ_ h=> .inl h) (λi H g c e=> .inl (Z0 i H g c e)) (.inr rfl);have Z2:=gy.size;have Rc:=pU az (g:=g2) rfl;have G9:Pl w6 X pv ps:=⟨xs,o7⟩;have wY:=KH.au gy (λe=>G9.ne e KH (by decide) rfl);have Eg:=G8.tx.au gy (λe=>G9.ne e G8.tx (by decide) rfl);have CV:=Ms.au gy (λe=>G9.ne e Ms (by decide) rfl);have n:∀g,X g->¬more F5 w5 w6 g:=λg f l=>by
  rcases l with l|l
  .exact m.fD g f l
  .have:=m.lt g f;omega
 have nF:=po.au gy (λj a e=>n j (o7.row j e) a);generalize E:(Value.slice (some (aD g2 0)) (ps.length+ns.length) bZ)=V at*;have o:V.ownBlock=some g2:=by rw [<-E];rfl
 have jv:=aa.setCell (F:=λj=>j=k) w7 (p:=(aD k 7)) rfl V;have Wc:kX (w7.setCell ⟨k,7,none⟩ V) k r kl G5.y V xB nv:=(heap_setCell_same _ _ 7 _ _ _ wY).trans (by simp);have Z3:=Eg.au jv (λe=>I2 e.symm);have z:Pl (w7.setCell ⟨k,7,none⟩ V) _ V (ps ++ ns):=Pl.other ⟨_,v⟩ wY (by decide) (by decide) jv;have CW:=CV.au jv (λe=>m.kne e.symm);have nU:=nF.au jv (λj a e=>n j (e▸m.xk) a);have ajp:=(G8.pl.au gy (λg e l=>I6 g l e) (λg c ys _ I l=>G9.ne l (Classical.choose_spec (I.imp (λcur h=>h.1))) (by decide) rfl)).other wY (by decide) (by decide) jv;have A4:=aa.setCell (F:=λj=>j=t) (w7.setCell ⟨k,7,none⟩ V) (p:=(aD t 2)) rfl (.bool true);have aqw:(w7.setCell ⟨k,7,none⟩ V).heap.size=w7.heap.size:=by simp [World.setCell]
 have Wd:((w7.setCell ⟨k,7,none⟩ V).setCell ⟨t,2,none⟩ (.bool true)).heap.size=w7.heap.size:=by simp [World.setCell]
 have ZU:=nU.au A4 (λj a e=>n j (e▸G8.xt) a);refine⟨gy.block k KH.lt (λe=>G9.ne e KH (by decide) rfl),gy.block t G8.tx.lt (λe=>G9.ne e G8.tx (by decide) rfl),Qu,KH,I2,more F5 w5 w6,(λj=>X j\/V.ownBlock=some j),V,ps ++ ns,xB,rfl,λj a=>?_,λj a=>?_,λ_ h=> .inl h,ZU,iz.Sf m ZZ d (by rw [D];exact xr) (Wc.au A4 I2) (CW.au A4 ajo) (z.other Z3 (by decide) (by decide) A4) (λ_ h=> .inl h) (λg f l=>?_) (λg f=>?_) false,⟨Z3.end_, .inl G8.xt,(ajp.other Z3 (by decide) (by decide) A4).mono (λ_ h=> .inl h),G8.nd,λh=>(by cases h),G8.kb,G8.D6⟩,⟨by rw [dT];omega,λh=>(by cases h)⟩,?_,?_⟩
 .rcases a with a|a
  .rcases pX j a with a|a
   .exact .inl a
   .exact .inr ⟨a.1,by rw [Wd];omega⟩
  .exact .inr ⟨by omega,by rw [Wd];omega⟩
 .rcases a with a|a
  .exact .inl a
  .rw [o] at a;cases a;rcases ic with b|b
   .exact .inl (o7.row _ b)
   .exact .inr ⟨by omega,by rw [Wd];exact Rc⟩
 .rcases f with f|f
  .exact n g f l
  .rw [o] at f;cases f;rcases ic with b|b
   .exact n _ (o7.row _ b) l
   .have:=po.lt _ l;omega
 .rw [Wd];rcases f with f|f
  .have:=m.lt g f;omega
  .rw [o] at f;cases f;exact Rc
 .rw [o];rcases ic with b|b
  .exact .inl b.symm
  .exact .inr (λg e=>by cases e;omega)
 .refine((((dX.mono (λj a=>?_):aa (λj=>F j\/j=k\/j=kl\/j=t\/pv.ownBlock=some j) w w5).trans ji (λj a=>?_)).trans gy (λj a=> .inl (.inr (.inr (.inr (.inr a)))))).trans jv (λj a=> .inl (.inr (.inl a)))).trans A4 (λj a=> .inl (.inr (.inr (.inr (.inl a)))))
  .rcases a with a|a|a
   .exact .inl a
   .exact .inr (.inl a)
   .exact .inr (.inr (.inl a))
  .rcases a with a|a
   .rcases pX j a with a|a
    .exact .inl (.inl a)
    .exact .inr a.1
   .exact .inl (.inr (.inr (.inl a)))
end
end
section
theorem Eh {G:SG} {S:DS} {s:Nat} {c:CM} (b:(G.L.room S).2=0) (a:G.roomy S (co c).length=true):G.bF S s c=if (G.L.append S s (co c)).1≠0 then ((G.L.append S s (co c)).1,(G.L.append S s (co c)).2.1,{G with L:=(G.L.append S s (co c)).2.2}) else (0,(G.L.append S s (co c)).2.1,{G with L:=(G.L.append S s (co c)).2.2,ov:=CM.bX G.ov c}):=by
 unfold SG.bF SG.made;rw [aA (λh=>h b),aE a];simp only [ne_eq,not_true_eq_false,if_false]
theorem Ha {G:SG} {S:DS} {s:Nat} {c:CM} (b:(G.L.room S).2=0) (a:¬G.roomy S (co c).length=true):G.bF S s c=if (G.check S s).1≠0 then G.check S s else if ((G.check S s).2.2.L.append (G.check S s).2.1 s (co c)).1≠0 then (((G.check S s).2.2.L.append (G.check S s).2.1 s (co c)).1,((G.check S s).2.2.L.append (G.check S s).2.1 s (co c)).2.1,{(G.check S s).2.2 with L:=((G.check S s).2.2.L.append (G.check S s).2.1 s (co c)).2.2}) else (0,((G.check S s).2.2.L.append (G.check S s).2.1 s (co c)).2.1,{(G.check S s).2.2 with L:=((G.check S s).2.2.L.append (G.check S s).2.1 s (co c)).2.2,ov:=CM.bX (G.check S s).2.2.ov c}):=by
 unfold SG.bF SG.made;rw [aA (λh=>h b),aA a]
section
variable {w w' w5 w6 w7:World} {F F5 X:Nat->Prop} {r s k kl t hm xB g2 bZ:Nat} {S S5:DS} {G G5:SG} {T:TG} {pv nv tv lv:Value} {ps us:List (Nat×List Int)} {ns:CM} {xs ys:List Value}
theorem We {w:World} {B:Nat} (h:Own w B (.slice a n c) d):Src w a n d:=by
 obtain⟨f,c',e,b,_⟩:=h.src;cases e;exact b
theorem Pn.Z4 {B N:Nat} (d:Pn w X B lv ns) (h:iz w F X r s S k kl G pv ps hm nv) (l:∀j,F j->j<B\/N<=j) (m:∀g,lv.ownBlock=some g->g<N) (o:k<B/\kl<B) (n:aa (λj=>F j\/j=k\/j=kl) w w'):Pn w' X B lv ns:=by
 have row:∀g,lv.ownBlock=some g->¬(F g\/g=k\/g=kl):=λg e a=>by
  have p:=d.lo g e;have q:=m g e;rcases a with a|a|a
  .rcases l g a with i|i <;> omega
  .omega
  .omega
 refine d.au n row (λg c t b f a=>?_);rcases b with b|b
 .rcases a with a|a|a
  .exact h.fD g b a
  .exact f.ne h.st (by decide) a
  .exact f.ne h.lp (by decide) a
 .exact row g b a
theorem KI {L:LG} {S:DS} {s:Nat} (h:S.fC):(L.trim S s).2.1.fC:=by
 have a:=pJ h L s;have b:=a.cW s L.f ((L.ep:Int)*4294967296+(L.head:Int));unfold LG.trim;split
 .exact a
 .split
  .exact a
  .split <;> exact b
theorem wn {G:SG} {S:DS} {s:Nat} (h:S.fC) (d:∀q∈G.ov,Bytes q.2):(G.check S s).2.1.fC:=by
 have a:=pJ h G.L s;have b:=j6 a s G.y.home d;have c:=KI (L:=G.L) (s:=s) b;unfold SG.check;split
 .exact a
 .split
  .exact b
  .split <;> exact c
theorem iz.Sj (a:iz w5 F5 X r s S5 k kl G5 pv ps xB nv) (ji:aa (λj=>F5 j\/j=kl) w5 w6):kX w6 k r kl G5.y pv xB nv/\Pl w6 X pv ps:=by
 refine⟨a.st.au ji (λe=>e.elim (a.fD _ a.xk) a.kne),a.pl.au ji (λg e b=>?_) (λg c i d f b=>?_)⟩
 .rcases b with b|b
  .exact a.fD g (a.pl.row g e) b
  .exact a.pl.ne e a.lp (by decide) b
 .rcases b with b|b
  .exact a.fD g d b
  .exact f.ne a.lp (by decide) b
theorem gX.refused (h:iz w F X r s S k kl G pv ps hm nv) (i:nT w X k t G T tv us) (IT:T.ended=false)
    (c:iz w5 F5 X r s S5 k kl G5 pv ps xB nv) (l:G5.y=G.y) (ZZ:S5.Ok s) (pX:∀j,F5 j->more F w w5 j) (dX:aa (λj=>F j\/j=k\/j=kl) w w5) (d:List Int)
    (po:aB w6 (more F5 w5 w6) r s (G5.L.append S5 s d).2.1) (Ms:cH w6 kl r (G5.L.append S5 s d).2.2) (ji:aa (λj=>F5 j\/j=kl) w5 w6) (x:Int):
  gX w F X r s k kl t pv tv nv ps us (x,(G5.L.append S5 s d).2.1,{G5 with L:=(G5.L.append S5 s d).2.2},T) (.returned (iV x)) w6:=by
 have qE:=dX.size;have Mf:=ji.size;obtain⟨KH,G9⟩:=c.Sj ji;have f:=iz.Sf (ns:= []) (F':=more F5 w5 w6) (X':=X) (pv':=pv) c ZZ d (λx b=>by cases b) KH Ms (by rw [List.append_nil];exact G9) (λ_ h=>h) (λg e b=>by rcases b with b|b;exact c.fD g e b;have:=c.lt g e;omega) (λg e=>iP (c.lt g e) Mf) G5.busy;rw [List.append_nil] at f;refine gX.fail h i IT (F5:=more F5 w5 w6) (λj a=>?_) po f l ((dX.trans ji (λj a=>?_))) x
 .rcases a with a|a
  .rcases pX j a with a|a
   .exact .inl a
   .exact .inr ⟨a.1,by omega⟩
  .exact .inr ⟨by omega,a.2⟩
 .rcases a with a|a
  .rcases pX j a with a|a
   .exact .inl (.inl a)
   .exact .inr a.1
  .exact .inl (.inr (.inr a))
end
section
variable {w w' w1 w2:World} {F F' X X':Nat->Prop} {r s k kl t hm:Nat} {S:DS} {G:SG} {T:TG} {pv nv tv:Value} {ps us:List (Nat×List Int)}
set_option maxRecDepth 100000 in
theorem Hf (hd:aB w F r s S) (h:iz w F X r s S k kl G pv ps hm nv) (M:nT w X k t G T tv us) (I6:∀g,pv.ownBlock=some g->tv.ownBlock≠some g) (cZ:S.fC) (dP:G.L.bd S=0->S.num G.L.f<=G.L.ep*4294967296+G.L.tail) (aT:S.puts.length+5000<=4000000000000) (VE:ps.length<=4000000000000):
  Calls prog 89 #[pQ t] w λe w'=>gX w F X r s k kl t pv tv nv ps us (T.bF G S s) e w':=by
 have h1:=j5 hd h M.tx;obtain⟨R,hR⟩:=bQ (T.bF G S s);rw [<-hR];unfold TG.bF at hR;by_cases q:T.state G S=0
 .have dq:(T.state G S != 0)=false:=by rw [q];rfl
  rw [aA (λh=>h q)] at hR;have hz:G.L.dead S=false/\T.ended=false/\T.bad=0:=by
   unfold TG.state TG.bX at q;cases yq:G.L.dead S
   .cases hee:T.ended
    .rw [yq,hee] at q;simpa using q
    .rw [yq,hee] at q;simp at q
   .rw [yq] at q;simp at q
  obtain⟨r1,r2,r3⟩:=hz;have sB:=M.pu r2;have dh:=hd.ok;have km:=dh.hi;have XB:=h.hs;have ho:CM.Ok T.puts:=by rw [sB];exact mB _
  have hgp:∀b,CM.get T.puts b=fnd us b:=λb=>by rw [sB];exact gL _ _
  have ajq:T.puts.length<=us.length:=by rw [sB,vu M.nd];exact bP _
  have XV:T.puts.length<=16:=by rw [sB,vu M.nd];exact M.D6
  have oZ:∀x∈T.puts,x.1<G.y.blocks:=λx D=>by rw [sB] at D;exact M.kb x (eO D)
  have hlen:∀x∈T.puts,x.2.length=512/\Bytes x.2:=λx D=>by rw [sB] at D;exact M.pl.len x (eO D)
  obtain⟨adI,a,H,O,Ho,Hgp,MM,HR⟩:=rV M.D6 (yh h) (yh M) (yh hd) (yh ho) (yh hgp) (yh hlen) (yh hR);have HBY:=yh cZ;obtain⟨ajr,HAp⟩:=bL dP I6;have HFd:=yh (λ(w1:World) (aq:bW w w1) (b:Nat)=>qN (M.pl.later aq).pv b (by omega));obtain⟨HBl,ad4⟩:=bL (λ(w1:World) (aq:bW w w1) (b:Nat) (hb:b<G.y.blocks)=>zO (hd.later aq) (h.later aq) r1 b hb (by omega) VE) (λ(b:Nat) (hb:b<G.y.blocks)=>iz.ZN hd h hb);clear h M hd ho hgp hlen hR cZ dP I6 sB q;generalize T.state G S=E at*;go_in;go_wp2_with fail;refine bE h1 λw1 aq=>?_;have cN:=yh aq;clear h1 aq;go_wp2;go_loopw [4,5] (λv i wr=>∃b:Nat,b<=G.y.blocks/\i=iV (b:Int)/\Pn wr X w.heap.size v (KG T G S b)/\bW w wr) (λ_ i _=>G.y.blocks-(intOf i).toNat);case atStart=>exact⟨0,dU _,rfl,by rw [Sg];exact Pn.nil _ _ _,cN.o⟩
  case round=>
   obtain⟨b,hb,rfl,nr,dO⟩:=hrel;have wh:=H.o.tx.later dO;obtain⟨c0,c1,c4,Jb,l9,Aa⟩:=kQ wh.c0 wh.c1 ((a.o.st.later dO).c4) (yh nr) (yh dO) dO.size;by_cases qb:b<G.y.blocks
   .have qb':(b:Int)<(G.y.blocks:Int):=(by omega);have I8:=HFd.o wr dO b;have sd:=HBl.o wr dO b qb;have E9:=Hgp.o b;clear nr dO wh;cases hf:fnd us b with
    |none=>
     rw [hf] at I8 E9;go_wp2_with fail;refine I8.mono ?_;rintro e w2 ⟨ho,hw⟩;subst hw;rcases ho with ⟨_,rfl⟩|⟨l',g,c',U,_⟩
     .clear I8 sd;go_wp2;go_roundw;case rel=>exact⟨b+1,by omega,by go_num,by rw [Sh Ho.o E9];exact Jb.o,l9.o⟩
      case measure=>simp [intOf];omega
     .cases U
    |some l=>
     rw [hf] at I8 E9;have hl:=MM.o (b,l) (CM.get_mem E9);have Bj:=ad4.o b qb;go_wp2_with fail;refine I8.mono ?_;rintro e w2 ⟨ho,hw⟩;subst hw;rcases ho with ⟨h0,_⟩|⟨l',g,c',U,rfl,hX,hr⟩
     .cases h0
     cases U;have Ef:=yh hr;clear I8 hr;go_wp2_with fail;refine sd.mono ?_;rintro e w3 ⟨⟨g3,c3,rfl,_,sV⟩,bz⟩;have km:=sJ g 0 g3 0 512 c' c3 l (G.block S b) w3 hl.1 Bj (by omega) (λi hi=>by have:=(Ef.o.agree (bz.block g Ef.o.lt)).src.2.2 _ rfl i (by rw [hl.1];exact hi);rwa [aK] at this) (λi hi=>by have:=sV.src.2.2 _ rfl i (by rw [Bj];exact hi);rwa [aK] at this);have fS:=yh bz;clear sd sV bz;by_cases qs:l=G.block S b
     .have dd:decide (l=G.block S b)=true:=(by simp [qs]);rw [dd] at km;have HQ:=yh qs;clear qs;go_wp2_with fail;refine bE km λw4 fe=>?_;have jB:=yh (fS.o.trans (fe.mono fS.o.size));clear km fe;go_wp2;go_roundw;case rel=>exact⟨b+1,by omega,by go_num,by rw [Si Ho.o E9 HQ.o];exact Jb.o.later jB.o,l9.o.trans (jB.o.mono l9.o.size)⟩
      case measure=>simp [intOf];omega
     .have dd:decide (l=G.block S b)=false:=(by simp [qs]);rw [dd] at km;have HQ:=yh qs;clear qs;go_wp2_with fail;refine bE km λw4 fe=>?_;have nL:=fS.o.trans (fe.mono fS.o.size);have A9:=Wa (T:=T) (G:=G) (S:=S) (b:=b);obtain⟨A,bZ,w5,bC,Sk,dX⟩:=(Jb.o.later nL).adZ (b:=b) hX (Ef.o.agree (nL.block g Ef.o.lt)) hl (by omega) (by have:=nL.size;omega);have ff:=(l9.o.trans (nL.mono l9.o.size)).trans (dX.below (λj m=>Jb.o.lo j m) (by have:=nL.size;omega));obtain⟨C,ro⟩:=bL (aF Sk ff) bC;clear km fe nL bC Sk dX ff;go_wp2_with (at_builtin;refine bj rfl _ _ 127 rfl u4 (.slice (some (aD w4.heap.size 0)) 1 1) _ rfl rfl ro.o ?_);go_roundw;case rel=>exact⟨b+1,by omega,by go_num,by rw [V0 Ho.o E9 HQ.o];exact C.o.1,C.o.2⟩
      case measure=>simp [intOf];omega
   .have qb':¬(b:Int)<(G.y.blocks:Int):=(by omega);obtain rfl:b=G.y.blocks:=(by omega);rw [(yh (V9 (S:=S) (G:=G) oZ)).out] at nr;obtain⟨ns,QD⟩:=bQ (T.news G S);have Cu:=HR.o;rw [<-QD] at nr Cu;have mg:ns.length<=16:=(by rw [QD];exact jQ (List.length_filter_le _ _) XV);have ad5:ns.length<=us.length:=(by rw [QD];exact jQ (List.length_filter_le _ _) ajq);have xr:∀x∈ns,x.1<G.y.blocks:=λx D=>by rw [QD] at D;exact oZ x (List.mem_filter.1 D).1
    obtain⟨la,lc,hu,-⟩:=nr.pl.form;subst hu;obtain⟨HX,HNk,HPm⟩:=jS a.o.lt xr nr;clear Jb nr QD wh c1 HFd HBl ad4 Hgp Ho MM xr oZ HR XV qb hb;by_cases q0:ns= []
    .subst q0;rw [aE rfl] at Cu;have HR:=yh Cu;have nK:=H.o.tx.later dO;have c2:=nK.c2;have f2:=nK.fz 2;clear Cu dO nK;go_wp2;go_ret;rw [HR.o];have hk:=aa.setCell (F:=λj=>j=t) wr (p:=(aD t 2)) rfl (.bool true);have nK:=H.o.later l9.o;have oU:aa (λj=>F j\/j=k\/j=kl\/j=t\/pv.ownBlock=some j) w (wr.setCell ⟨t,2,none⟩ (.bool true)):=(aa.ah _ l9.o).trans hk (λ_ h=> .inl (.inr (.inr (.inr (.inl h)))));refine⟨F,X,pv,ps,hm,rfl,λ_ h=> .inl h,λ_ h=> .inl h,λ_ h=>h,(O.o.later l9.o).au hk (λj m e=>a.o.fD t H.o.xt (e▸m)),((a.o.later l9.o).ac8 nK.tx hk).busy false,⟨nK.tx.end_,nK.xt,nK.pl.other nK.tx (by decide) (by decide) hk,nK.nd,λh=>(by cases h),nK.kb,nK.D6⟩,⟨by omega,λ_=>rfl⟩, .inl rfl,oU⟩
    .have iQ:=List.length_pos_iff.2 q0;rw [aA q0] at Cu;have HR:=yh Cu;have dl:((ns.length:Int) == 0)=false:=(by rw [eG];omega);clear Cu dO q0;go_wp2_with fail;refine(ug ns.length 2 wr (by omega) (by omega)).mono ?_;rintro e w2 ⟨rv,rfl,az,aW⟩;obtain⟨HO,HP2,dE⟩:=jS (az.down Aa) (HPm.o.later aW) (l9.o.trans (aW.mono Aa));clear az aW;go_wp2;clear c0 c4;go_loopw [7,8] (λrv i wr=>∃j:Nat,j<=ns.length/\i=iV (j:Int)/\Own wr w.heap.size rv (leb 2 ns.length ++ (ns.take j).flatMap (λq=>leb 4 q.1))/\Pn wr X w.heap.size (.slice la ns.length lc) ns/\bW w wr) (λ_ i _=>ns.length-(intOf i).toNat);case atStart=>exact⟨0,dU _,rfl,by simpa using HO.o,HP2.o,dE.o⟩
     case round=>
      obtain⟨j,m,rfl,az,nr,Sl⟩:=hrel;have ajt:=Sl.size;have jL:((ns.take j).flatMap (λq=>leb 4 q.1)).length=4*j:=(by rw [nG,List.length_take];omega);have rE:(leb 2 ns.length ++ (ns.take j).flatMap (λq=>leb 4 q.1)).length=2+4*j:=(by rw [dT,aH,jL]);by_cases qj:j<ns.length
      .have ZO:(j:Int)<(ns.length:Int):=(by omega);obtain⟨la',lc',Z5,ll⟩:=nr.pl.form;cases Z5;obtain⟨gp,rfl,hp⟩:=ll iQ;obtain⟨gj,cj,p1,_,_,_⟩:=hp j qj;have hjk:ns[j].1<G.y.blocks:=HNk.o _ (List.getElem_mem qj);obtain⟨Y,Z,HBw⟩:=jS az nr Sl;clear az nr Sl ll hp;go_wp2_with fail;refine(ug ns[j].1 4 wr (by omega) (by omega)).mono ?_;rintro e w3 ⟨bv,rfl,LU,bz⟩;obtain⟨ba,bc,rfl,U4,_,_⟩:=LU.src;rw [aH] at U4⊢;have Bu:=Y.o.later bz;obtain⟨rv',w4,bC,Fc,dV⟩:=G7 Bu bc U4 (by omega) (by rw [rE];omega) (by have:=bz.size;omega);have QZ:=(Z.o.later bz).beside Bu HX.o dV;have nL:=(HBw.o.trans (bz.mono ajt)).trans (dV.below (λj m=>(Bu.lo m).1) (by have:=bz.size;omega));rw [List.append_assoc,<-De (λq:Nat×List Int=>leb 4 q.1) ns qj] at Fc;obtain⟨C,ro⟩:=bL (aF Fc (aF QZ nL)) bC;clear LU bz U4 Bu bC Fc dV QZ nL;go_wp2_with (at_builtin;refine bj rfl _ _ 36 rfl u7 (.slice ba 4 bc) _ rfl rfl ro.o ?_);go_roundw;case rel=>exact⟨j+1,by omega,by go_num,C.o⟩
       case measure=>simp [intOf];omega
      .have ZO:¬(j:Int)<(ns.length:Int):=(by omega);obtain rfl:j=ns.length:=(by omega);rw [List.take_length] at az;obtain⟨HO3,HP3,fS⟩:=jS az nr Sl;clear az nr Sl jL rE;go_wp2;go_loopw [7,9] (λrv i wr=>∃j:Nat,j<=ns.length/\i=iV (j:Int)/\Own wr w.heap.size rv (leb 2 ns.length ++ (ns.flatMap (λq=>leb 4 q.1) ++ (ns.take j).flatMap (·.2)))/\Pn wr X w.heap.size (.slice la ns.length lc) ns/\bW w wr) (λ_ i _=>ns.length-(intOf i).toNat);case atStart=>exact⟨0,dU _,rfl,by simpa using HO3.o,HP3.o,fS.o⟩
       case round=>
        obtain⟨j,hj3,rfl,az,nr,sM⟩:=hrel;have ajy:=sM.size;have jL:((ns.take j).flatMap (·.2)).length=512*j:=(by rw [vf (λq hq=>(nr.pl.len q (List.mem_of_mem_take hq)).1),List.length_take];omega);have rE:(leb 2 ns.length ++ (ns.flatMap (λq=>leb 4 q.1) ++ (ns.take j).flatMap (·.2))).length=2+4*ns.length+512*j:=(by rw [dT,dT,aH,jL,nG];omega);by_cases qj:j<ns.length
        .have qj2:(j:Int)<(ns.length:Int):=(by omega);obtain⟨la',lc',Z5,ll⟩:=nr.pl.form;cases Z5;obtain⟨gp,rfl,hp⟩:=ll iQ;obtain⟨gj,cj,_,p2,_,hrj⟩:=hp j qj;have hsj:Src wr (some (aD gj 0)) 512 ns[j].2:=(by have:=hrj.src;rwa [((nr.pl.len _ (List.getElem_mem qj)).1)] at this);obtain⟨rv',w4,bC,Fc,dV⟩:=G7 az cj hsj (by omega) (by rw [rE];omega) (by omega);have QZ:=nr.beside az HX.o dV;have nL:=sM.trans (dV.below (λj m=>(az.lo m).1) (by omega));rw [List.append_assoc,List.append_assoc,<-De (λq:Nat×List Int=>q.2) ns qj] at Fc;obtain⟨C,ro⟩:=bL (aF Fc (aF QZ nL)) bC;clear az nr sM ll hp hrj hsj bC Fc dV QZ nL;go_wp2_with (at_builtin;refine bj rfl _ _ 36 rfl u7 (.slice (some (aD gj 0)) 512 cj) _ rfl rfl ro.o ?_);go_roundw;case rel=>exact⟨j+1,by omega,by go_num,C.o⟩
         case measure=>simp [intOf];omega
        .have qj2:¬(j:Int)<(ns.length:Int):=(by omega);obtain rfl:j=ns.length:=(by omega);rw [List.take_length] at az rE;obtain⟨ra,ad6,hrv,pi,Fj,CA⟩:=az.src;subst hrv;have YG:G.L.bd S=0:=(by unfold LG.bd;rw [r1,a.o.bg];rfl);have Wf:(G.L.room S).2=0:=(by unfold LG.room;rw [aA (λh=>h YG)]);have rL:=NN (O.o.later sM) (a.o.lp.later sM) a.o.lk;have ad7:leb 2 ns.length ++ (ns.flatMap (λq=>leb 4 q.1) ++ ns.flatMap (·.2))=co ns:=rfl;rw [ad7] at rE pi Fj az⊢;have YL:=p7 (λq hq=>(nr.pl.len q hq).2);have Sm:G.roomy S (co ns).length=decide ((cY (co ns).length:Int)<=(G.L.room S).1):=rfl;have K:=Eh (s:=s) (c:=ns) Wf;have J:=Ha (s:=s) (c:=ns) Wf;rw [Wf] at rL;rw [Sm] at K J;obtain⟨d,yq⟩:=bQ (co ns);rw [<-yq] at rE pi Fj az YL K J⊢;obtain⟨x,D⟩:=bQ d.length;rw [<-D] at rE pi Fj K J⊢;obtain⟨rm,hrm⟩:=bQ ((G.L.room S).1);rw [<-hrm] at rL K J;have rl:0<x:=(by omega);have jA:x<=10000:=(by omega);obtain⟨c0,k1,Y,Z,HBw,Om,Wg,HNb,HCr,HCf,HX0⟩:=LH ((H.o.tx.later sM).c0) ((a.o.st.later sM).c1) (yh az) (yh nr) (yh sM) (yh pi) (yh CA) (yh YL) (yh K) (yh J) (yh D);clear az nr sM pi CA YL K J Sm ad7 yq hrm Wf jL D rE;go_wp2_with fail;refine bE rL λw5 ff=>?_;obtain⟨VD,jd,ZT,HP5,ajC⟩:=ey ((yh (λw1=>sL x w1 (by omega))).out w5) (yh (HBw.o.trans (ff.mono ajy))) (yh (Y.o.later ff)) (yh (Z.o.later ff)) (yh (Om.o.later ff));have Uf:=(H.o.tx.later jd.o).c0;have k15:=(a.o.st.later jd.o).c1;clear rL ff c0 k1 Y Z Om;by_cases qr:(cY x:Int)<=rm
         .have qrr:¬rm<(((x+491) / 492:Nat):Int):=(by unfold cY at qr;omega);have hC:=HCr.o (by rw [decide_eq_true_iff];exact qr);have tU:=HR.o;rw [hC] at tU;clear HCr HCf qr hC;go_wp2_with fail;refine bE VD λW Mt=>?_;subst Mt;clear VD;have Ei:=wm (O.o.later jd.o) (a.o.later jd.o).lp (a.o.later jd.o).lk (a.o.fD _ a.o.xl) HBY.o ra x ad6 d ajC.o (λy hy _ hF=>by have:=(Wg.o y hy).1;have:=O.o.lt _ hF;omega) HNb.o Fj (by omega) (by omega);by_cases qa:(G.L.append S s d).1=0
          .have da:((G.L.append S s d).1 != 0)=false:=(by rw [qa];rfl);have zc:R=(0,(G.L.append S s d).2.1,{G with L:=(G.L.append S s d).2.2,ov:=CM.bX G.ov ns,busy:=false},T.close):=(by rw [tU];simp only [qa,ne_eq,not_true_eq_false,if_false]);have I9:=yh zc;clear zc tU;go_wp2_with fail;refine oX Ei λI nF CV gy=>?_;obtain⟨wY,Z6⟩:=(a.o.later jd.o).Sj gy;have KJ:=gy.mono (G:=λj=>F j\/j=k\/j=kl) (λj m=>by rcases m with m|m;exact .inl m;exact .inr (.inr m));have Eg:=(nT.asked (a.o.later jd.o) (H.o.later jd.o) KJ).tx;obtain⟨xs,o7⟩:=Z6;obtain⟨ys,Wb,ox,Z0⟩:=Pn.asked (a.o.later jd.o) (B:=w.heap.size) (λj m=>O.o.lt j m) ⟨a.o.lt _ a.o.xk,a.o.lt _ a.o.xl⟩ HP5.o KJ;obtain⟨la',lc',Z5,ll⟩:=Wb.form;cases Z5;obtain⟨gp,rfl,-⟩:=ll iQ;obtain⟨i0,rt,gv,dr,ec⟩:=info_parts pT;obtain⟨c07,k77,KK,Ej⟩:=cM Eg.c0 wY.c7 (o7.au (aa.ah (λ_=>False) (ai (bi _ _))) (λ_ _ h=>h) (λ_ _ _ _ _ h=>h)) (Wb.au (aa.ah (λ_=>False) (ai (bi _ _))) (λ_ _ h=>h) (λ_ _ _ _ _ h=>h));have Sn:aB I.drew (more F W I.drew) r s (G.L.append S s d).2.1:=nF.later (ai (bi _ _));have zz:∀j u,ys[j]? =some u->I.drew.cell? (((aD gp 0):Addr).add j)=some u:=λj u hu=>Ej.own.cells (g:=gp) rfl _ _ hu;have So:=yh (λ(A bZ:Nat) (z:World) (uh:z.ownsRow 0 166 2 (.slice (some (aD A 0)) (ps.length+ns.length) bZ) (ps.length+ns.length) (xs ++ ys)) (oH:I.drew.grownBy z pv.ownBlock) (Ek:pv.ownBlock=some A\/A=I.heap.size)=>gX.done a.o H.o HAp.o (a.o.later jd.o) rfl dh (λj m=> .inl m) (aa.ah _ jd.o) d Sn (CV.later (ai (bi _ _))) (gy.trans (aa.ah (λ_=>False) (ai (bi _ _))) (λ_ h=>h.elim)) KK Ej Z0 HNk.o ad5 uh oH Ek);obtain⟨Z7,Q,Z8,P⟩:=Bg KK Ej zz Eg;clear Ei nF CV gy wY KJ o7 Wb ox Z0 ll KK Ej Sn zz Eg;go_wp2_with fail
           go_region_law
            (first
             |(refine step_append_lies _ (by rfl) _ _ _ (by rfl) 0 166 i0 _ 2 32 underlying127 rt gv dr ec rfl (by omega) pv ps.length xs (by rfl) Z7.o.own (aD gp 0) ns.length lc ys (by rfl) Q.o.own.1 Z8.o Q.o.one iQ (by unfold maxLen;omega) (by omega) (dU _) I.heap.size (by rfl) ?_;intro A bZ z uh oH Ek Z9;obtain⟨U,e2,e3,e4,e5,jz⟩:=So.o A bZ z uh oH Ek;have k78:z.cell? (aD k 7)=some pv:=ri (U.trans e4);have f78:z.frozen? (aD k 7)=false:=ae (U.trans e4) 7;have t08:z.cell? (aD t 0)=some (pQ k):=aL (e2.trans P.o);have X6:(z.setCell ⟨k,7,none⟩ (.slice (some ⟨A,0,none⟩) (ps.length+ns.length) bZ)).heap[t]? =_:=(Below.heap_setCell z ⟨k,7,none⟩ (.slice (some (aD A 0)) (ps.length+ns.length) bZ) t (λe=>e5 e.symm)).trans (e2.trans P.o);have t28:(z.setCell ⟨k,7,none⟩ (.slice (some ⟨A,0,none⟩) (ps.length+ns.length) bZ)).cell? (aD t 2)=some (.bool T.ended):=bH X6;have f28:(z.setCell ⟨k,7,none⟩ (.slice (some ⟨A,0,none⟩) (ps.length+ns.length) bZ)).frozen? (aD t 2)=false:=ae X6 2))
           all_goals
            have mR:=yh jz;clear jz uh oH Ek Z9 U e2 e3 e4 X6;go_wp2;go_ret;rw [I9.o];exact mR.o
          .have da:((G.L.append S s d).1 != 0)=true:=(by rw [fT];exact qa);have zc:R=((G.L.append S s d).1,(G.L.append S s d).2.1,{G with L:=(G.L.append S s d).2.2},T):=(by rw [tU];simp only [qa,ne_eq,not_false_eq_true,if_true]);have I9:=yh zc;clear zc tU;go_wp2_with fail;refine oX Ei λI nF CV gy=>?_;have C:=yh (aF nF (aF CV gy));clear Ei nF CV gy;go_wp2;go_ret;rw [I9.o];exact gX.refused a.o H.o r2 (a.o.later jd.o) rfl dh (λj m=> .inl m) (aa.ah _ jd.o) d C.o.1 C.o.2.1 C.o.2.2 _
         .have qrr:rm<(((x+491) / 492:Nat):Int):=(by unfold cY at qr;omega);have hC:=HCf.o (by rw [decide_eq_true_iff];exact qr);have tU:=HR.o;rw [hC] at tU;clear HCr HCf qr hC;go_wp2_with fail;refine bE VD λW Mt=>?_;subst Mt;clear VD;have Wh:=Aj (O.o.later jd.o) (a.o.later jd.o) HBY.o ajr.o (by omega) VE;have Mf:=jd.o.size;have aea:G.ov.length<=2048:=by
           have ajD:CM.Ok G.ov:=(by rw [a.o.ov];exact mB _);rcases CM.length_le (n:=2048) ajD (λq hq=>by rw [a.o.ov] at hq;have:=a.o.kb q (List.mem_of_mem_drop (eO hq));omega) 0 (λ_ _=>dU _) with h1|h1
           .omega
           .rw [h1];simp
          have Pi:=zV G S s;obtain⟨ajE,HY8⟩:=bL (wn HBY.o (λq hq=>by rw [a.o.ov] at hq;exact(a.o.pl.len q (List.mem_of_mem_drop (eO hq))).2) (s:=s)) (mz G S s);by_cases qc:(G.check S s).1=0
          .have dc:((G.check S s).1 == 0)=true:=(by rw [qc];rfl);go_wp2_with fail;refine Wh.mono ?_;rintro e z ⟨rfl,nU,⟨Xi,Ja⟩,jv⟩;have aeb:=nU.ok;have hO8:=ZT.o.au jv (λg e D=>by have:=(ZT.o.lo e).1;rcases D with D|D|D;have:=O.o.lt _ D;omega;have:=a.o.lt _ a.o.xk;omega;have:=a.o.lt _ a.o.xl;omega);have ajF:=yh (by have:=We hO8;rwa [<-HX0.o] at this);have aec:∀y,ra=some y->y.block<W.heap.size:=λy hy=>by
            obtain⟨g9,c9,e9,_,TY⟩:=ZT.o.U1 (by rw [<-HX0.o];exact rl);cases e9;cases hy;exact TY.lt
           have HRF:Yh (∀y,ra=some y->0<x->¬more F W z y.block):=yh (λ(y:Addr) (hy:ra=some y) (_:0<x) (hF:more F W z y.block)=>by
            have h1:=(Wg.o y hy).1;have h2:=aec y hy;rcases hF with hF|hF
            .have:=O.o.lt _ hF;omega
            .omega)
           obtain⟨HP8,HF5⟩:=bL (Pn.asked (a.o.later jd.o) (B:=w.heap.size) (λj m=>O.o.lt j m) ⟨a.o.lt _ a.o.xk,a.o.lt _ a.o.xl⟩ HP5.o jv) (λ(j:Nat) (m:more F W z j)=>(m.elim (λh=> .inl (O.o.lt j h)) (λh=> .inr h.1):j<w.heap.size\/W.heap.size<=j));have aed:=yh (λ(j:Nat) (m:more F W z j)=>(m.elim (λh=> .inl h) (λh=> .inr ⟨by omega,h.2⟩):more F w z j));have Pd:=yh ((aa.ah (λj=>F j\/j=k\/j=kl) jd.o).trans jv (λ_ h=> .inl h));have M8:=nT.asked (a.o.later jd.o) (H.o.later jd.o) jv;have HT8:Yh (nT z X k t (G.check S s).2.2 T tv us):=yh ⟨M8.tx,M8.xt,M8.pl,M8.nd,M8.pu,by rw [HY8.o];exact M8.kb,M8.D6⟩;have c08:=M8.tx.c0;have k18:=Ja.st.c1;clear Wh jv hO8 aec M8 Uf k15;have Ei:=wm (nU) (Ja).lp (Ja).lk (Ja.fD _ Ja.xl) ajE.o ra x ad6 d ajF.o HRF.o HNb.o Fj (by omega) (by omega);by_cases qa:((G.check S s).2.2.L.append (G.check S s).2.1 s d).1=0
           .have da:(((G.check S s).2.2.L.append (G.check S s).2.1 s d).1 != 0)=false:=(by rw [qa];rfl);have zc:R=(0,((G.check S s).2.2.L.append (G.check S s).2.1 s d).2.1,{(G.check S s).2.2 with L:=((G.check S s).2.2.L.append (G.check S s).2.1 s d).2.2,ov:=CM.bX (G.check S s).2.2.ov ns,busy:=false},T.close):=(by rw [tU];simp only [qc,qa,ne_eq,not_true_eq_false,if_false]);have I9:=yh zc;clear zc tU;go_wp2_with fail;refine oX Ei λI nF CV gy=>?_;obtain⟨wY,Z6⟩:=(Ja).Sj gy;have KJ:=gy.mono (G:=λj=>(more F W z) j\/j=k\/j=kl) (λj m=>by rcases m with m|m;exact .inl m;exact .inr (.inr m));have Eg:=(nT.asked Ja HT8.o KJ).tx;obtain⟨xs,o7⟩:=Z6;obtain⟨ys,Wb,ox,Z0⟩:=HP8.o.Z4 Ja (N:=W.heap.size) HF5.o (yh (HP5.o.pl.rlt)).out ⟨a.o.lt _ a.o.xk,a.o.lt _ a.o.xl⟩ KJ;obtain⟨la',lc',Z5,ll⟩:=Wb.form;cases Z5;obtain⟨gp,rfl,-⟩:=ll iQ;obtain⟨i0,rt,gv,dr,ec⟩:=info_parts pT;obtain⟨c07,k77,KK,Ej⟩:=cM Eg.c0 wY.c7 (o7.au (aa.ah (λ_=>False) (ai (bi _ _))) (λ_ _ h=>h) (λ_ _ _ _ _ h=>h)) (Wb.au (aa.ah (λ_=>False) (ai (bi _ _))) (λ_ _ h=>h) (λ_ _ _ _ _ h=>h));have Sn:aB I.drew (more (more F W z) z I.drew) r s ((G.check S s).2.2.L.append (G.check S s).2.1 s d).2.1:=nF.later (ai (bi _ _));have zz:∀j u,ys[j]? =some u->I.drew.cell? (((aD gp 0):Addr).add j)=some u:=λj u hu=>Ej.own.cells (g:=gp) rfl _ _ hu;have So:=yh (λ(A bZ:Nat) (z:World) (uh:z.ownsRow 0 166 2 (.slice (some (aD A 0)) (ps.length+ns.length) bZ) (ps.length+ns.length) (xs ++ ys)) (oH:I.drew.grownBy z pv.ownBlock) (Ek:pv.ownBlock=some A\/A=I.heap.size)=>gX.done a.o H.o HAp.o (Ja) HY8.o aeb aed.o Pd.o d Sn (CV.later (ai (bi _ _))) (gy.trans (aa.ah (λ_=>False) (ai (bi _ _))) (λ_ h=>h.elim)) KK Ej Z0 HNk.o ad5 uh oH Ek);obtain⟨Z7,Q,Z8,P⟩:=Bg KK Ej zz Eg;clear Ei nF CV gy wY KJ o7 Wb ox Z0 ll KK Ej Sn zz Eg;go_wp2_with fail
            go_region_law
             (first
              |(refine step_append_lies _ (by rfl) _ _ _ (by rfl) 0 166 i0 _ 2 32 underlying127 rt gv dr ec rfl (by omega) pv ps.length xs (by rfl) Z7.o.own (aD gp 0) ns.length lc ys (by rfl) Q.o.own.1 Z8.o Q.o.one iQ (by unfold maxLen;omega) (by omega) (dU _) I.heap.size (by rfl) ?_;intro A bZ z uh oH Ek Z9;obtain⟨U,e2,e3,e4,e5,jz⟩:=So.o A bZ z uh oH Ek;have k78:z.cell? (aD k 7)=some pv:=ri (U.trans e4);have f78:z.frozen? (aD k 7)=false:=ae (U.trans e4) 7;have t08:z.cell? (aD t 0)=some (pQ k):=aL (e2.trans P.o);have X6:(z.setCell ⟨k,7,none⟩ (.slice (some ⟨A,0,none⟩) (ps.length+ns.length) bZ)).heap[t]? =_:=(Below.heap_setCell z ⟨k,7,none⟩ (.slice (some (aD A 0)) (ps.length+ns.length) bZ) t (λe=>e5 e.symm)).trans (e2.trans P.o);have t28:(z.setCell ⟨k,7,none⟩ (.slice (some ⟨A,0,none⟩) (ps.length+ns.length) bZ)).cell? (aD t 2)=some (.bool T.ended):=bH X6;have f28:(z.setCell ⟨k,7,none⟩ (.slice (some ⟨A,0,none⟩) (ps.length+ns.length) bZ)).frozen? (aD t 2)=false:=ae X6 2))
            all_goals
             have mR:=yh jz;clear jz uh oH Ek Z9 U e2 e3 e4 X6;go_wp2;go_ret;rw [I9.o];exact mR.o
           .have da:(((G.check S s).2.2.L.append (G.check S s).2.1 s d).1 != 0)=true:=(by rw [fT];exact qa);have zc:R=(((G.check S s).2.2.L.append (G.check S s).2.1 s d).1,((G.check S s).2.2.L.append (G.check S s).2.1 s d).2.1,{(G.check S s).2.2 with L:=((G.check S s).2.2.L.append (G.check S s).2.1 s d).2.2},T):=(by rw [tU];simp only [qc,qa,ne_eq,not_true_eq_false,not_false_eq_true,if_true,if_false]);have I9:=yh zc;clear zc tU;go_wp2_with fail;refine oX Ei λI nF CV gy=>?_;have C:=yh (aF nF (aF CV gy));clear Ei nF CV gy;go_wp2;go_ret;rw [I9.o];exact gX.refused a.o H.o r2 (Ja) HY8.o aeb aed.o Pd.o d C.o.1 C.o.2.1 C.o.2.2 _
          .have dc:((G.check S s).1 == 0)=false:=(by rw [eG];exact qc);have dn:((G.check S s).1 != 0)=true:=(by rw [fT];exact qc);have zc:R=((G.check S s).1,(G.check S s).2.1,(G.check S s).2.2,T):=(by rw [tU];simp only [qc,ne_eq,not_false_eq_true,if_true]);have I9:=yh zc;clear zc tU;go_wp2_with fail;refine Wh.mono ?_;rintro e z ⟨rfl,nU,⟨Xi,Ja⟩,jv⟩;have C:=yh (aF nU (aF Ja jv));clear Wh nU Ja jv;go_wp2;go_ret;rw [I9.o];exact gX.fail a.o H.o r2 (λj m=>m.elim (λh=> .inl h) (λh=> .inr ⟨by omega,h.2⟩)) C.o.1 C.o.2.1 HY8.o ((aa.ah _ jd.o).trans C.o.2.2 (λ_ h=> .inl h)) _
 .have dq:(T.state G S != 0)=true:=by rw [fT];exact q
  rw [aE q] at hR;obtain⟨HR,a,H,O⟩:=Bg hR h M hd;clear hR q;generalize T.state G S=E at*;clear h M hd;go_in;go_wp2_with fail;refine bE h1 λw1 aq=>?_;have HB:=yh aq;clear h1 aq;go_wp2;go_ret;rw [HR.o];exact⟨F,X,pv,ps,hm,rfl,λ_ h=> .inl h,λ_ h=> .inl h,λ_ h=>h,O.o.later HB.o,a.o.later HB.o,H.o.later HB.o,⟨by omega,λ_=>rfl⟩, .inl rfl,aa.ah _ HB.o⟩
end
end
end Go.Proofs.YtenlkgicpllbhaaGreat
