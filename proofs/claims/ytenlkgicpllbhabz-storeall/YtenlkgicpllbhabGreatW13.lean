import Derived.Test.YtenlkgicpllbhabGreatW01
import Derived.Test.YtenlkgicpllbhabGreatW07
import Derived.Test.YtenlkgicpllbhabGreatW09
import Derived.Test.YtenlkgicpllbhabGreatW12
import Derived.Scope
import Derived.WalkMore
import Derived.Laws.AppendOwn
import Derived.Lib.AppendStr
set_option maxRecDepth 20000
set_option maxHeartbeats 8000000
set_option linter.all false
namespace Go.Proofs.YtenlkgicpllbhabGreat
open Go.Proofs.Tryz
open Go.RowKit Go.Maps
variable {X ms:CM} {S:DS} {c c' cR k p s:Nat} {Um:Nat->List Int} {F F2:Nat->Prop} {w:World}
section
namespace B
open Go.RowKit Go.Shelf
attribute [local go_sem] Oper.semAt_some
section
variable {w:World} {F:Nat->Prop} {p s l cR:Nat} {S:DS} {L:LG}
set_option maxRecDepth 100000 in
theorem NX (h:ax w F p s S cR) (hl:cQ w l p L) (A:L.Ok s) (hF:¬F l) (b o x k:Nat) (d:List Int) (hs:Src w (some (aD b o)) x d) (Dp:¬F b) (hd:Bytes d) (hxk:x<=k) (hr:L.fN S x=0) (aT:S.puts.length+100<=4000000000000):
  Calls prog 172 #[pQ l, .slice (some (aD b o)) x k] w λe w'=>e= .returned (iV (L.append S s d).1)/\ax w' (more F w w') p s (L.append S s d).2.1 (cR+17)/\cQ w' l p (L.append S s d).2.2/\aa (λk=>F k\/k=l) w w':=by
 obtain⟨k0,k1,k2,k3,k4⟩:=jC hr;obtain⟨W0,JX⟩:=zEr ((w.alloc (.cells #[.pointer (some ⟨l,0,none⟩)] 78)).alloc (.cells #[.int .i64 0] 46));have fo:bW w W0:=by rw [<-JX];exact iI _ _ _
 have Xh:gT W0 w.heap.size l:=by
  rw [<-JX];refine⟨(Below.heap_alloc _ _ _ (by simp)).trans (heap_alloc_new _ _),?_⟩;have:=heap_alloc_new (w.alloc (.cells #[.pointer (some ⟨l,0,none⟩)] 78)) (.cells #[.int .i64 0] 46);rwa [World.size_alloc] at this
 have M:=jp (h.later fo) (hl.later fo);rw [k0] at M;obtain⟨ef,HW,HQ,HB,HL,hhi,HO⟩:=nW hl.lt (yh JX) (yh Xh) (yh fo) (yh (hl.later fo)) A.hi (yh A);have iB:((x:Int) == 0)=false:=by rw [eG];omega
 have cC:¬(8364:Int)<(x:Int):=by omega
 obtain⟨C,hC⟩:=bQ ((x+491) / 492);have XI:cY x=C:=by rw [hC];rfl
 rw [XI] at k3 k4;have YE:C<=17:=by omega
 have hd3:¬(1073741824:Int)<(L.head:Int)+(C:Int):=by omega
 obtain⟨HC,HD,E,HR,ib⟩:=UE hC h hl hr h.lt;clear hC fo Xh JX A hl h hr k0;refine(callsIn_wide (n:=6)).1 ?_;refine callsIn_of_wp_marks func172 rfl trivial ?_ rfl;simp only [ntmps172,List.size_toArray,List.length_cons,List.length_nil,Nat.reduceAdd,Nat.reduceSub,Array.replicate_succ,Array.replicate_zero,List.push_toArray,List.append_toArray,List.nil_append,List.cons_append];refine(wpIn_wide (n:=6)).2 ?_;go_wp2_with fail;rw [HW.o];refine M.mono ?_;rintro e w1 ⟨rfl,aq⟩;have iA:=gT.later HQ.o aq;have b0:w1.cell? (aD w.heap.size 0)=some (pQ l):=aL iA.1;have cm:=HL.o.later aq;have bK:=HB.o.trans (aq.mono HB.o.size);have c7:=cm.c7;have h3:=yV cm HO.o;have r:=λwx=>i5 x wx (by omega);obtain⟨cN,HQ1,Bt⟩:=jS bK iA cm;clear M aq bK iA cm;go_wp2_with fail;refine(r _).mono ?_;rintro e g ⟨rfl,dw⟩;have eB:=dw.symm;subst eB;rw [<-HC.o];clear r dw;go_wp2_with fail;refine h3.mono ?_;rintro e g ⟨rfl,aW⟩;have qC:=gT.later HQ1.o aW;have eM:=cN.o.trans (aW.mono cN.o.size);have fy:=Bt.o.later aW;have b2:g.cell? (aD w.heap.size 0)=some (pQ l):=aL qC.1;have e5:=fy.c5;have e7:=fy.c7;clear h3 aW;go_wp2_with fail;go_region_held3 (λw'=>w'.cell? (aD w.heap.size 0)=some (pQ l)/\w'.cell? (aD l 5)=some (iV (L.ep:Int))/\w'.cell? (aD l 7)=some (iV (L.head:Int))) (go_keep) (fail);have ju:w.heap.size+2<=g.heap.size:=by have:=aw qC.2;omega
 clear c7 e5 e7 b2 b0;obtain⟨I,gW⟩:∃I,(g.alloc (.cells #[.int .i64 (L.ep:Int), .int .i64 (L.head:Int), .int .i64 0, .int .i64 (C:Int)] 227)).drew=I:=⟨_,rfl⟩;rw [gW];have kO:I.heap.size=g.heap.size+1:=by rw [<-gW];show (g.alloc _).heap.size=_;simp
 have jK:bW w I:=by rw [<-gW];exact ai (eM.alloc eM.size _)
 have AZ:I.heap[g.heap.size]? =some (.cells #[.int .i64 (L.ep:Int), .int .i64 (L.head:Int), .int .i64 0, .int .i64 (C:Int)] 227 (0,0)):=by rw [<-gW];exact heap_alloc_new _ _
 have NY:gT I w.heap.size l:=qC.later (by rw [<-gW];exact ai (aI _ _));obtain⟨H,fS,HM3,HQ3⟩:=Bg kO jK AZ NY;clear gW jK AZ NY kO qC eM fy;go_wp2_with fail;refine(Nt (some (aD b o)) x k I).mono ?_;rintro e q ⟨rfl,tD⟩;go_wp2_with fail;refine(wpIn_wide (n:=6)).1 ?_;have fe:bW I q:=by rw [tD];exact iI _ _ _
 have vS:q.heap.size=g.heap.size+3:=by rw [tD];have:=H.o;simp;omega
 have GH:q.heap[g.heap.size+1]? =some (.cells #[.slice (some ⟨b,o,none⟩) x k] 22 (0,0)):=by
  rw [tD,<-H.o];exact(Below.heap_alloc _ _ _ (by simp)).trans (heap_alloc_new _ _)
 have ZB:q.heap[g.heap.size+1+1]? =some (.cells #[.int .i64 492] 3 (0,0)):=by
  rw [tD,<-H.o];have:=heap_alloc_new (I.alloc (.cells #[.slice (some ⟨b,o,none⟩) x k] 22)) (.cells #[.int .i64 492] 3);rwa [World.size_alloc] at this
 rw [H.o];rw [<-tD];clear tD;have sW:=fS.o.trans (fe.mono fS.o.size);have Ui:=hs.1;have Q:cY d.length=C:=by rw [Ui];exact XI
 obtain⟨m,hDm⟩:=HD.o.Zz;have VI:=HD.o.lt m hDm.fm;have adr:=sW.size;have hI0:D9 w q F l p s m g.heap.size q.heap.size L S d [] cR:=by
  refine⟨rfl,?_,?_,HQ3.o.later fe,aa.ah F sW,bP _⟩
  .exact(hDm.later sW).narrow (λk A hc=>⟨.inl A,hc,by have:=HD.o.lt k A;omega⟩) (λ_ A=>A.2.2)
  .rw [Q];exact(fe.block _ (aw HM3.o)).trans HM3.o
 refine wpIn_rangeFunc_ownH rfl (by omega) (gf:=232) (lb:= #[.pointer (some ⟨g.heap.size+1,0,none⟩), .pointer (some ⟨g.heap.size+1+1,0,none⟩)]) rfl trivial (enters_of func232 (by kernel_rfl) rfl)
    (Gl (6-1) (by omega) (g.heap.size+1) (g.heap.size+1+1) b o x k C k1 k2 hxk HC.o q GH ZB) Gk.t (Gk.b (by omega) (by omega)) (bi _ _) (λ_=>rfl)
    (λa W=>D9 w W F l p s m g.heap.size q.heap.size L S d (a.map Fin.val) cR)
    (λc a W=>c= .ret/\GI w W F p s m q.heap.size L S d (a.map Fin.val) cR)
  ?hI ?hIx hI0
    (λy a' _=>a'={tmps:= #[Value.pointer (some (aD l 0)), .slice (some (aD b o)) x k,pQ w.heap.size,undef, .pointer (some ⟨w.heap.size+1,0,none⟩),iV 0,iV (C:Int),pQ g.heap.size, .slice (some ⟨b,o+492*y.1,none⟩) (gk x y.1) (gk x y.1),undef,pQ l,iV 0,iV 0, .bool false,undef, .slice (some (aD b o)) x k,iV (x:Int),iV (C:Int), .bool false, .slice (some (aD b o)) x k,iV (x:Int), .bool false, .bool (decide ((8364:Int)<(x:Int))), .slice (some (aD b o)) x k,iV (x:Int), .bool (decide ((8364:Int)<(x:Int))), .bool (decide ((1073741824:Int)<(L.head:Int)+(C:Int))),pQ l,pQ l, .pointer (some (aD l 7)),iV (L.head:Int),iV (C:Int),iV ((L.head:Int)+(C:Int)), .bool (decide ((1073741824:Int)<(L.head:Int)+(C:Int))), .bool (decide ((L.n:Int)-((L.head:Int)-(L.tail:Int))<(C:Int))),iV (C:Int),pQ l,iV ((L.n:Int)-((L.head:Int)-(L.tail:Int))), .bool (decide ((L.n:Int)-((L.head:Int)-(L.tail:Int))<(C:Int))),pQ l,pQ l, .pointer (some (aD l 5)),iV (L.ep:Int),pQ l,pQ l, .pointer (some (aD l 7)),iV (L.head:Int),iV (C:Int), .agg #[iV (L.ep:Int),iV (L.head:Int),iV 0,iV (C:Int)], .slice (some (aD b o)) x k, .func (.func 232) #[] #[.pointer (some ⟨g.heap.size+1,0,none⟩), .pointer (some ⟨g.heap.size+1+1,0,none⟩)], .slice (some ⟨b,o+492*y.1,none⟩) (gk x y.1) (gk x y.1),undef,undef,undef,undef,undef,undef,undef,undef,undef,undef,undef,undef,undef,undef,undef,undef,undef,undef,undef,undef,undef],defers:= []}) ?hAx ?assign ?body ?done ?stop
 case hI=>exact λ_ _ _ _ h hg hr=>h.grown (by omega) adr hg hr
 case hIx=>exact λ_ _ _ _ _ h hg hr=>⟨h.1,h.2.grown (by omega) adr hg hr⟩
 case hAx=>exact λ_ _ _ _ _ _ h _ _=>h
 case assign=>
  intro l' a y W K hI hK;simp only [Vp]
  gi_wp2
  exact hK _ _ (KeepsFrom.refl _ _) (Gk.refl _ _ _) hI rfl
 case body=>
  rintro l' a y a' W MS ⟨rr,JY⟩ hI rfl bm;have hlen:(a.map Fin.val).length=a.length:=by simp
  have VK:(a ++ [y]).map Fin.val=a.map Fin.val ++ [y.1]:=by simp
  have hy:=y.2;have Uk:=E.o.au hI.kp hF;have jO:=hs.nB hI.kp (λz hz _=>by cases hz;exact Dp);have hpt:=Ny L S s d (a.map Fin.val);have Zb:prog.follows .mixedOrders=true:=by kernel_rfl
  have Fr:gk x y.1=min 492 (x-492*y.1):=rfl;have hyx:492*y.1<x:=by have:=HC.o;omega
  have hsP:Src W (some ⟨b,o+492*y.1,none⟩) (gk x y.1) (partOf d y.1):=by
   have:=jO.sub (492*y.1) (gk x y.1) (by omega);rwa [show (d.drop (492*y.1)).take (gk x y.1)=partOf d y.1 by unfold partOf;rw [List.take_eq_take_iff,List.length_drop,Ui];omega] at this
  have hbP:Bytes (partOf d y.1):=oy hd _;have aiM:b<w.heap.size:=hs.old _ rfl (by omega);have hFC:∀k,w.heap.size<=k->k<q.heap.size->¬FC F q.heap.size m W.drew k:=λk M r h=>by
   rcases h.1 with h|h
   .have:=ib.o k h;omega
   .omega
  have hdW:bS W.drew (FC F q.heap.size m W.drew) p s (rp L S s d (a.map Fin.val)).2 m (cR+(a.map Fin.val).length):=hI.dk.carry (λ_ _ _ _ h=>h) rfl (bP _);have GJ:=VJ hdW L.f L.n L.ep (L.head+(a.map Fin.val).length) (a.map Fin.val).length C (some ⟨b,o+492*y.1,none⟩) (gk x y.1) (gk x y.1) (partOf d y.1) (hsP.later (ai (bi _ _))) (λz hz _ h=>by
   cases hz;rcases h.1 with h|h
   .exact Dp h
   .have:q.heap.size<=b:=h;omega) hbP (by omega) (λh=>by cases h) (by have:=HO.o.n1;omega) HO.o.s (by omega)
  have fZ:=Nx (L:=L) (S:=S) (s:=s) (d:=d) y.1 hI.ok;rw [Q] at fZ;generalize jM (rp L S s d (a.map Fin.val)).2 s L.f L.n L.ep (L.head+(a.map Fin.val).length) (a.map Fin.val).length C (partOf d y.1)=Y at GJ fZ;rw [<-VK] at fZ;have b0:W.drew.cell? (aD w.heap.size 0)=some (pQ l):=aL hI.bx.1;have XJ:=hI.mrk;rw [Q] at XJ;generalize hj:(a.map Fin.val).length=j at GJ XJ;have hjC:j<17:=by omega
  have tT:((L.head+j:Nat):Int)=(L.head:Int)+(j:Int):=by omega
  rw [tT] at GJ XJ;generalize gk x y.1=cL at*;have HJ:=yh hj;clear Fr tT hj;have gV:Yh (∀W':World,W'.heap[w.heap.size]? =some (.cells #[.pointer (some ⟨l,0,none⟩)] 78 (0,0))->W'.heap[g.heap.size]? =some (.cells #[.int .i64 (L.ep:Int), .int .i64 ((L.head:Int)+(j:Int)), .int .i64 (j:Int), .int .i64 (C:Int)] 227 (0,0))->cQ W' l p L->
      (W'.cell? (aD w.heap.size 0)=some (pQ l)/\W'.cell? (aD g.heap.size 0)=some (iV (L.ep:Int))/\W'.cell? (aD g.heap.size 1)=some (iV ((L.head:Int)+(j:Int)))/\W'.cell? (aD g.heap.size 2)=some (iV (j:Int))/\W'.cell? (aD g.heap.size 3)=some (iV (C:Int))/\
     W'.cell? (aD l 0)=some (pQ p)/\W'.cell? (aD l 1)=some (iV (L.f:Int))/\W'.cell? (aD l 2)=some (iV (L.n:Int)))):=
   λW' g1 g2 g3=>⟨aL g1,aL g2,bD g2,bH g2,fI g2,g3.c0,g3.c1,g3.c2⟩
  obtain⟨X,Mn,aiN,HMk,Vk,U⟩:=Yu (gV.o W.drew hI.bx.1 XJ (Uk.later (ai (bi _ _)))) hI GJ XJ fZ hFC;clear hI GJ XJ fZ hFC hsP jO Uk hdW hpt b0
  gi_wp2_with fail
  refine nC (S:=λW'=>W'.cell? (aD w.heap.size 0)=some (pQ l)/\W'.cell? (aD g.heap.size 0)=some (iV (L.ep:Int))/\W'.cell? (aD g.heap.size 1)=some (iV ((L.head:Int)+(j:Int)))/\W'.cell? (aD g.heap.size 2)=some (iV (j:Int))/\W'.cell? (aD g.heap.size 3)=some (iV (C:Int))/\
     W'.cell? (aD l 0)=some (pQ p)/\W'.cell? (aD l 1)=some (iV (L.f:Int))/\W'.cell? (aD l 2)=some (iV (L.n:Int))) Zb (by kernel_rfl) ?_
  refine wpAnyH_take (i:=0) (v:=pQ l) rfl (by kernel_rfl) (by kernel_rfl) (by kernel_rfl) (λ_ _ _ h=>h) (Or.inl ⟨by rfl,?_⟩) X.out ?_
  .rintro Z ⟨y1,y2,y3,y4,y5,y6,y7,y8⟩;go_simp
  try simp only [Act.put,List.setIfInBounds_toArray]
  refine wpAnyH_take (i:=1) (v:=pQ l) rfl (by kernel_rfl) (by kernel_rfl) (by kernel_rfl) (λ_ _ _ h=>h) (Or.inl ⟨by rfl,?_⟩) X.out ?_
  .rintro Z ⟨y1,y2,y3,y4,y5,y6,y7,y8⟩;go_simp
  try simp only [Act.put]
  refine wpAnyH_take (i:=2) (v:=pQ l) rfl (by kernel_rfl) (by kernel_rfl) (by kernel_rfl) (λ_ _ _ h=>h) (Or.inl ⟨by rfl,?_⟩) X.out ?_
  .rintro Z ⟨y1,y2,y3,y4,y5,y6,y7,y8⟩;go_simp
  try simp only [Act.put]
  refine wpAnyH_take (i:=3) (v:=kw p L.f L.n) rfl (by kernel_rfl) (by kernel_rfl) (by kernel_rfl) (λ_ _ _ h=>h) (Or.inl ⟨by rfl,?_⟩) X.out ?_
  .rintro Z ⟨y1,y2,y3,y4,y5,y6,y7,y8⟩;go_simp
  try simp only [Act.put]
  refine wpAnyH_take (i:=4) (v:=y9 (L.ep:Int) ((L.head:Int)+(j:Int)) (j:Int) (C:Int)) rfl (by kernel_rfl) (by kernel_rfl) (by kernel_rfl) (λ_ _ _ h=>h) (Or.inl ⟨by rfl,?_⟩) X.out ?_
  .rintro Z ⟨y1,y2,y3,y4,y5,y6,y7,y8⟩;go_simp
  try simp only [Act.put]
  refine wpAnyH_take (i:=5) (v:= .slice (some ⟨b,o+492*y.1,none⟩) cL cL) rfl (by kernel_rfl) (by kernel_rfl) (by kernel_rfl) (λ_ _ _ h=>h) (Or.inl ⟨by rfl,?_⟩) X.out ?_
  .rintro Z ⟨y1,y2,y3,y4,y5,y6,y7,y8⟩;go_simp
  try simp only [Act.put]
  refine wpAnyH_take (i:=6) (v:=kW (L.ep:Int) ((L.head:Int)+(j:Int)) (j:Int) (C:Int) (some ⟨b,o+492*y.1,none⟩) cL cL) rfl (by kernel_rfl) (by kernel_rfl) (by kernel_rfl) (λ_ _ _ h=>h) (Or.inl ⟨by rfl,?_⟩) X.out ?_
  .rintro Z ⟨y1,y2,y3,y4,y5,y6,y7,y8⟩;go_simp
  try simp only [Act.put]
  refine wpAnyH_ready (rs:= [7]) (by kernel_rfl) (by simp) (AllReadyH.cons rfl (λK hK=>?_) AllReadyH.nil);go_simp;refine aiN.o.mono ?_;rintro e u ⟨rfl,cC,aX⟩;have ec:W.heap.size<=u.heap.size:=aX.size;have hd3:=cC.fc (w0:=w) (w:=W.drew) Mn.o.sz rfl;have oU:=(Mn.o.kp.trans (aa.ah (λ_=>False) (ai (bi W.heap.size W))) (λ_ h=>h.elim)).trans aX (λk A=>by
   rcases A.1 with h|h
   .exact .inl h
   .exact .inr (by omega))
  have ru:∀k R,w.heap.size<=k->k<q.heap.size->W.heap[k]? =some R->u.heap[k]? =some R:=λk R M r h3=>(aX.block k (aw h3) (U.o k M r)).trans h3;have lj:gT u w.heap.size l:=⟨ru _ _ (by omega) (by omega) Mn.o.bx.1,ru _ _ (by omega) (by omega) Mn.o.bx.2⟩;have ZC:=ru g.heap.size _ (by omega) (by omega) HMk.o;have pZ:KeepsFrom q.heap.size W u:=⟨ec,λk R M r h3=>(aX.block k (aw r) (λh=>by
   rcases h.2.1 with ⟨cur,t,fz,hc⟩|h
   .have T9:W.heap[k]? =some (.cells cur t fz):=hc;rw [r] at T9;cases T9;cases h3
   .omega)).trans r⟩
  have xJ:Gk (g.heap.size+1) (g.heap.size+1+1) W u:=⟨aX.block _ (by have:=Mn.o.sz;show _<W.heap.size;omega) (U.o _ (by omega) (by omega)),aX.block _ (by have:=Mn.o.sz;show _<W.heap.size;omega) (U.o _ (by omega) (by omega))⟩;have fy:=E.o.au oU hF;obtain⟨S2,U9,HKw,T5,adt,XK,HKc⟩:=abW (gV.o u lj.1 ZC fy) hd3 oU lj ZC pZ xJ;clear cC aX hd3 oU ru lj ZC pZ xJ fy;refine hK.out _ _ S2.out (λ_=>?_);clear hK K;try simp only [Act.put,List.setIfInBounds_toArray,List.set_cons_zero,List.set_cons_succ]
  refine wpAnyH_take (i:=8) (v:=iV Y.1) rfl (by kernel_rfl) (by kernel_rfl) (by kernel_rfl) (λ_ _ _ h=>h) (Or.inl ⟨by rfl,?_⟩) S2.out ?_
  .rintro Z ⟨y1,y2,y3,y4,y5,y6,y7,y8⟩;go_simp
  try simp only [Act.put,List.setIfInBounds_toArray]
  refine wpAnyH_done (by kernel_rfl) ?_ _;have er1:u.cell? ⟨w.heap.size+1,0,none⟩=some (iV 0):=aL T5.o.2;have ef1:=ae T5.o.2 0;by_cases kY:Y.1=0
  .have dY:(Y.1 == 0)=true:=(by rw [beq_iff_eq];exact kY);obtain⟨z1,z2,z3,z4,z5,_⟩:=S2.out;have Zc:=CallsIn.inRound l' (callsIn_wide (n:=3).2 (QS L.ep (L.head+j) j C u (by omega) (by omega)));rw [show ((L.head+j:Nat):Int)=(L.head:Int)+(j:Int) by omega] at Zc;have Ug:=yh kY;clear kY
   gi_wp2_with fail
   refine⟨trivial,?_⟩;refine Zc.mono ?_;rintro e W5 ⟨rfl,ff⟩;have xB:=(ff.block _ (aw adt.o)).trans adt.o;have m0:W5.cell? (aD g.heap.size 0)=some (iV (L.ep:Int)):=aL xB;have m1:W5.cell? (aD g.heap.size 1)=some (iV ((L.head:Int)+(j:Int))):=bD xB;have m2:W5.cell? (aD g.heap.size 2)=some (iV (j:Int)):=bH xB;have m3:W5.cell? (aD g.heap.size 3)=some (iV (C:Int)):=fI xB;have mf:=λi=>ae xB i;obtain⟨HM5,jd⟩:=bL xB ff;clear xB ff Zc z1 z2 z3 z4 z5 er1 ef1
   gi_wp2
   obtain⟨WX,O⟩:∃WX,((((W5.setCell ⟨g.heap.size,0,none⟩ (.int .i64 (L.ep:Int))).setCell ⟨g.heap.size,1,none⟩ (.int .i64 ((L.head:Int)+(j:Int)+1))).setCell ⟨g.heap.size,2,none⟩ (.int .i64 ((j:Int)+1))).setCell ⟨g.heap.size,3,none⟩ (.int .i64 (C:Int)))=WX:=⟨_,rfl⟩;rw [O];have eF:aa (λk=>k=g.heap.size) W5 WX:=by
    rw [<-O];exact(((aJ (F:=λk=>k=g.heap.size) _ rfl 0 _).trans (aJ (F:=λk=>k=g.heap.size) _ rfl 1 _) (λ_ h=> .inl h)).trans (aJ (F:=λk=>k=g.heap.size) _ rfl 2 _) (λ_ h=> .inl h)).trans (aJ (F:=λk=>k=g.heap.size) _ rfl 3 _) (λ_ h=> .inl h)
   have hkx:KeepsFrom q.heap.size W5 WX:=by
    rw [<-O];exact((((KeepsOthers.setCell _ _ _).from _).trans ((KeepsOthers.setCell _ _ _).from _)).trans ((KeepsOthers.setCell _ _ _).from _)).trans ((KeepsOthers.setCell _ _ _).from _)
   have hmX:WX.heap[g.heap.size]? =some (.cells #[.int .i64 (L.ep:Int), .int .i64 ((L.head:Int)+(j:Int)+1), .int .i64 ((j:Int)+1), .int .i64 (C:Int)] 227 (0,0)):=by
    rw [<-O];exact(heap_setCell_same _ _ 3 _ _ _ (heap_setCell_same _ _ 2 _ _ _ (heap_setCell_same _ _ 1 _ _ _ (heap_setCell_same _ _ 0 _ _ _ HM5.o)))).trans (by simp)
   have ff:=jd.o;have Ze:=Mn.o.sz;have hc5:=el ff;have jy:=U9.o.carry hc5 (ff.block _ (E0 U9.o)) ff.size;have kv:∀k R,¬k=g.heap.size->u.heap[k]? =some R->WX.heap[k]? =some R:=λk R M r=>(eF.block k (by have:=aw r;have:=ff.size;omega) M).trans ((ff.block k (aw r)).trans r);have qE:=ff.size;have hzX:=eF.size;have hIX:D9 w WX F l p s m g.heap.size q.heap.size L S d ((a ++ [y]).map Fin.val) cR:=by
    have J:=Vk.o;have IU:cR+j+1<=cR+((a ++ [y]).map Fin.val).length:=(by rw [VK,dT,List.length_singleton,HJ.o];omega);refine⟨by rw [J];exact Ug.o,by rw [J];exact(jy.E2 eF (EY ib.o (by omega) (by omega))).le IU,?_,⟨kv _ _ (by omega) T5.o.1,kv _ _ (by omega) T5.o.2⟩,(HKw.o.trans (aa.ah (λ_=>False) ff) (λ_ h=>h.elim)).trans eF (λ_ h=> .inr (by omega)),by omega⟩;rw [hmX,VK,dT,List.length_singleton,HJ.o,Q];rw [show ((L.head+(j+1):Nat):Int)=(L.head:Int)+(j:Int)+1 by omega,show ((j+1:Nat):Int)=(j:Int)+1 by omega]
   exact⟨(XK.o.trans ⟨qE,λk R _ r _=>(ff.block k (aw r)).trans r⟩).trans hkx,HKc.o.t ⟨(eF.block _ (by omega) (by omega)).trans (ff.block _ (by omega)),(eF.block _ (by omega) (by omega)).trans (ff.block _ (by omega))⟩,hIX⟩
  .have dY:(Y.1 == 0)=false:=(by rw [eG];exact kY);have Ug:=yh kY;clear kY
   gi_wp2
   have eF:aa (λk=>k=w.heap.size+1) u (u.setCell ⟨w.heap.size+1,0,none⟩ (.int .i64 Y.1)):=aJ (F:=λk=>k=w.heap.size+1) u rfl 0 _;have P:GI w (u.setCell ⟨w.heap.size+1,0,none⟩ (.int .i64 Y.1)) F p s m q.heap.size L S d ((a ++ [y]).map Fin.val) cR:=by
    have J:=Vk.o;have IU:cR+j+1<=cR+((a ++ [y]).map Fin.val).length:=(by rw [VK,dT,List.length_singleton,HJ.o];omega);refine⟨by rw [J];exact Ug.o,by rw [J];exact(U9.o.E2 eF (EY ib.o (by omega) (by omega))).le IU,by rw [J];exact(heap_setCell_same _ _ 0 _ _ _ T5.o.2).trans (by simp),HKw.o.trans eF (λ_ h=> .inr (by omega)),by have:=Mn.o.sz;have:=XK.o.size;have:=eF.size;omega⟩
   exact⟨XK.o.trans ((KeepsOthers.setCell _ _ _).from _),rfl,P⟩
 case done=>
  intro D xs W hD o7 hI Q0;have VK:xs.map Fin.val=List.range C:=o7;rw [VK] at hI;have Uk:=E.o.au hI.kp hF;have c0:W.cell? (aD w.heap.size 0)=some (pQ l):=aL hI.bx.1;have c1:W.cell? ⟨w.heap.size+1,0,none⟩=some (iV 0):=aL hI.bx.2;obtain⟨g1,c7,g7,Mn,HlW⟩:=ey (ae hI.bx.2 0) Uk.c7 (Uk.fz 7) (yh hI) (yh Uk);clear hI Uk VK o7;have Km:¬FC F q.heap.size m W l:=λh=>by
   rcases h.1 with h|h
   .exact hF h
   .omega
  have eH:aa (λk=>k=l) W (W.setCell ⟨l,7,none⟩ (.int .i64 ((L.head:Int)+(C:Int)))):=aJ (F:=λk=>k=l) W rfl 7 _;have aX:aa (λk=>k=w.heap.size+1) (W.setCell ⟨l,7,none⟩ (.int .i64 ((L.head:Int)+(C:Int)))) ((W.setCell ⟨l,7,none⟩ (.int .i64 ((L.head:Int)+(C:Int)))).setCell ⟨w.heap.size+1,0,none⟩ (.int .i64 0)):=aJ (F:=λk=>k=w.heap.size+1) _ rfl 0 _;have iB:=(Mn.o.dk.E2 eH Km).E2 aX (EY ib.o (by omega) (by omega));have cm:cQ ((W.setCell ⟨l,7,none⟩ (.int .i64 ((L.head:Int)+(C:Int)))).setCell ⟨w.heap.size+1,0,none⟩ (.int .i64 0)) l p {L with head:=L.head+C}:=cQ.au (G:=λk=>k=w.heap.size+1) ((heap_setCell_same _ _ 7 _ _ _ HlW.o).trans (by simp)) aX (by omega);have he1:((W.setCell ⟨l,7,none⟩ (.int .i64 ((L.head:Int)+(C:Int)))).setCell ⟨w.heap.size+1,0,none⟩ (.int .i64 0)).heap[w.heap.size+1]? =some (.cells #[.int .i64 0] 46 (0,0)):=(heap_setCell_same _ _ 0 _ _ _ ((eH.block _ (aw Mn.o.bx.2) (by omega)).trans Mn.o.bx.2)).trans (by simp);have ZD:aa (λk=>F k\/k=l) w ((W.setCell ⟨l,7,none⟩ (.int .i64 ((L.head:Int)+(C:Int)))).setCell ⟨w.heap.size+1,0,none⟩ (.int .i64 0)):=((Mn.o.kp.mono (λ_ h=> .inl h)).trans eH (λ_ h=> .inl (.inr h))).trans aX (λ_ h=> .inr (by omega));have hDl:=aw Q0;have N:=(aX.block _ (by have:=eH.size;omega) (by omega)).trans ((eH.block _ hDl (by omega)).trans Q0);have dr:=jQ eH.size aX.size;obtain⟨WZ,hWZ⟩:∃WZ,((W.setCell ⟨l,7,none⟩ (.int .i64 ((L.head:Int)+(C:Int)))).setCell ⟨w.heap.size+1,0,none⟩ (.int .i64 0))=WZ:=⟨_,rfl⟩;rw [hWZ] at iB cm he1 ZD N dr;have IU:cR+(List.range C).length<=cR+17:=by rw [List.length_range];omega
  obtain⟨T,Po,HWZ,Rx⟩:=Bg (Mm ib.o (iB.le IU) cm ZD he1 N (by omega) ef ju (by omega) (by omega)) Mn.o.ok hWZ N;clear iB cm he1 ZD N eH aX dr hWZ;go_wp2;rw [HWZ.o];refine⟨by simp, .inl ⟨_,_,rfl,run_takeDeferred Rx.o,?_⟩⟩;refine⟨_,fR rfl _ _ (w.heap.size+1) 0 rfl T.o.1,?_⟩;have J:=Po.o;rw [zh] at J T;unfold LG.append;rw [Ui,HR.o,XI,aA (by decide),aA (by rw [J];decide)];exact⟨rfl,T.o.2⟩
 case stop=>
  rintro D c a W hD ⟨j,hj,pK⟩ ⟨rfl,P⟩ Q0;have VK:a.map Fin.val=List.range (j+1):=pK;rw [VK] at P;have Uk:=E.o.au P.kp hF;have Ro:=P.no;have T:=yh (Mm ib.o (P.dk.le (by rw [List.length_range];omega:cR+(List.range (j+1)).length<=cR+17)) Uk (P.kp.mono (λ_ h=> .inl h)) P.er Q0 (by omega) ef ju (by omega) (by omega));rw [zh] at T Ro;have PZ:cP L S s d C=cP L S s d (j+1):=gw Ro C (by omega);obtain⟨HTo,HNn⟩:=bL PZ Ro;clear P Uk Ro PZ
  gi_wp2
  refine⟨by simp, .inl ⟨_,_,rfl,run_takeDeferred Q0,?_⟩⟩;refine⟨_,fR rfl _ _ (w.heap.size+1) _ rfl T.o.1,?_⟩;unfold LG.append;rw [Ui,HR.o,XI,aA (by decide),HTo.o,aE HNn.o];exact⟨rfl,T.o.2⟩
end
theorem zS {w:World} {F:Nat->Prop} {p s l m:Nat} {S:DS} {L:LG} (h:ax w F p s S m) (g:cQ w l p L) (n:L.Ok s) (q:¬F l) (a:Option Addr) (x k:Nat) (d:List Int) (i:Src w a x d) (Ue:∀y,a=some y->0<x->¬F y.block) (hd:Bytes d) (j:x<=k) (r:x<=140737488355328) (aT:S.puts.length+100<=4000000000000):
  Calls prog 172 #[pQ l, .slice a x k] w λe w'=>e= .returned (iV (L.append S s d).1)/\ax w' (more F w w') p s (L.append S s d).2.1 (m+17)/\cQ w' l p (L.append S s d).2.2/\aa (λk=>F k\/k=l) w w':=by
 by_cases c:L.fN S x=0
 .have jA:=(jC c).2.1;obtain⟨b,o,rfl⟩:=cT i jA;exact NX h g n q b o x k d i (Ue _ rfl jA) hd j c aT
 .refine(Nv h.old g n a x k r c).mono ?_;rintro e w' ⟨rfl,f⟩;unfold LG.append;rw [i.1,aE c];exact⟨rfl,((h.later f).more).le (by omega),g.later f,aa.ah _ f⟩
end B
end
section
theorem tV:∀{ns ms:CM} {x:Nat×List Int},x∈CM.bX ms ns->x∈ms\/x∈ns
 | [],_,_,h=> .inl h
 |q :: qs,ms,x,h=>by
  rcases tV (ns:=qs) (ms:=CM.put ms q.1 q.2) h with h|h
  .rcases CM.qL h with e|h
   .exact .inr (e▸List.mem_cons_self)
   .exact .inl h
  .exact .inr (List.mem_cons_of_mem _ h)
theorem vn {L:LG} {s:Nat} (h:L.Ok s) (S:DS) (d:List Int):(L.append S s d).2.2.Ok s/\(L.append S s d).2.2.begun=L.begun:=by
 unfold LG.append;split
 .exact⟨h,rfl⟩
 .rename_i a;obtain⟨_,_,_,b,c⟩:=jC (Decidable.byContradiction a);split
  .exact⟨h,rfl⟩
  .have:=h.th;exact⟨⟨h.s,h.n1,h.n2,h.ep,h.top,by show L.tail<=L.head+_;omega,by show L.head+_<=L.tail+L.n;omega,by show L.head+_<=1073742080;omega,λ_=>by show L.head+_<=1073741824;omega⟩,rfl⟩
theorem p7 (h:∀q∈ms,Bytes q.2):Bytes (co ms):=by
 unfold co;refine(iF _ _).append (Bytes.append ?_ ?_)
 .intro v b;obtain⟨q,_,a⟩:=List.mem_flatMap.1 b;exact iF _ _ v a
 .intro v b;obtain⟨q,c,a⟩:=List.mem_flatMap.1 b;exact h q c v a
theorem zy.form {B:Nat} {w:World} {l:List Int} {e:Ending} (h:zy B w l e) (n:0<l.length):∃g c,e= .returned (.slice (some (aD g 0)) l.length c)/\B<=g/\Src w (some (aD g 0)) l.length l/\l.length<=c:=by
 obtain⟨v,rfl,h⟩:=h;have h0:=h;obtain⟨jT,⟨e,j⟩|⟨g,a,cur,rfl,d,m,k⟩⟩:=h
 .omega
 .obtain⟨i,c',f,Rh,b,_⟩:=ay.eW h0 (by intro e;cases e);cases f;refine⟨g,a,rfl,d,?_,?_⟩
  .exact b.src
  .have:=b.le;simpa [bs] using this
theorem lY (S:DS) (s:Nat):(S.fl s).2.puts.length<=S.puts.length:=by
 unfold DS.fl;split
 .exact bP _
 .exact dU _
theorem zT (S:DS) (s f:Nat) (x:Int):(cW S s f x).2.puts.length<=S.puts.length+1:=by
 unfold cW;split
 .exact Nat.le_succ _
 .split
  .exact Nat.le_succ _
  .split
   .exact i9 _ _ _ _ _
   .exact jQ (lY _ _) (i9 _ _ _ _ _)
theorem zU (L:LG) (S:DS) (s:Nat):(L.trim S s).2.1.puts.length<=S.puts.length+2:=by
 have a:=nA L S s;unfold LG.trim;split
 .show (L.sync S s).2.puts.length<=_;omega
 .split
  .show (L.sync S s).2.puts.length<=_;omega
  .have b:=zT (L.sync S s).2 s L.f ((L.ep:Int)*4294967296+(L.head:Int));split
   .show (cW _ _ _ _).2.puts.length<=_;omega
   .show (cW _ _ _ _).2.puts.length<=_;omega
theorem zV (G:SG) (S:DS) (s:Nat):(G.check S s).2.1.puts.length<=S.puts.length+G.ov.length+3:=by
 have a:=nA G.L S s;have b:=eA (G.L.sync S s).2 s G.y.home G.ov;have c:=zU G.L (sbring (G.L.sync S s).2 s G.y.home G.ov).2 s;unfold SG.check;split
 .show (G.L.sync S s).2.puts.length<=_;omega
 .split
  .show (sbring _ _ _ _).2.puts.length<=_;omega
  .split
   .show (LG.trim _ _ _).2.1.puts.length<=_;omega
   .show (LG.trim _ _ _).2.1.puts.length<=_;omega
theorem ig.reF {w:World} {F:Nat->Prop} {p s q l m:Nat} {S:DS} {G:SG} (h:ig w F p s c q l m S G) (a:∀k,F k->F2 k) (bm:∀k,F2 k->k<w.heap.size) (nq:¬F2 q) (b:¬F2 l) (e:¬F2 m):ig w F2 p s c q l m S G:=
   ⟨h.d.mono a bm,h.st,h.lp,h.ch,nq,b,e,h.ql,h.qm,h.lm,h.lk,h.bg,h.hs,h.kb⟩
theorem mz (G:SG) (S:DS) (s:Nat):(G.check S s).2.2.y=G.y:=by
 unfold SG.check;split
 .rfl
 .split
  .rfl
  .split <;> rfl
section
variable {w w':World} {F:Nat->Prop} {p s cR q l m n:Nat} {S:DS} {G:SG} {cs:CM}
theorem Ku (h:ig w F p s cR q l m S G) (M:Ch w n cs) (Km:¬F n) (_hnq:n≠q) (mN:n≠l) (wP:n≠m) (oZ:∀x∈cs,x.1<G.y.blocks) (ZE:cs.length<=16) (cZ:S.fC) (aT:S.puts.length+5000<=4000000000000):
  Calls prog 135 #[pQ q, .map (some n)] w λe w'=>e= .returned (iV (G.bF S s cs).1)/\ig w' (more F w w') p s (cR+19) q l m (G.bF S s cs).2.1 (G.bF S s cs).2.2/\Ch w' n cs/\aa (λk=>F k\/k=l\/k=m) w w':=by
 have N:=NO (λx j=>(M.len x j).2.1);have CA:=p7 (λx j=>(M.len x j).2.2);have Z:=Kh M;have T:=λ(w1:World) (aq:bW w w1)=>F9 (h.later aq).d.old (h.later aq).lp h.lk;obtain⟨c1,H,HC,ib,hqw,hlw,VI,hnw,A5,Kk,xw⟩:=LH h.st.c1 h M h.d.lt h.st.lt h.lp.lt h.ch.lt M.lt h.ql h.qm h.lm;obtain⟨R,f⟩:=bQ (G.bF S s cs);rw [<-f];unfold SG.bF at f;obtain⟨D,hD⟩:=bQ (co cs);rw [<-hD] at f N CA Z;clear hD;have P:=(λ(r:World) (T:ig r F p s cR q l m S G)=>CJ T cZ (by omega));have uY:0<D.length:=by omega
 have nJ:=λ(w1:World) (a:Option Addr) (c:Nat)=>D0 a D.length c w1 (by omega);have NZ:(D.length+491) / 492=cY D.length:=rfl;rw [NZ] at nJ;have apz:D.length<=8258:=by omega
 clear NZ N;go_in;go_wp2_with fail;by_cases W:(G.L.room S).2=0
 .rw [aA (λh=>h W)] at f;rw [W] at T;clear W;have Ul:G.roomy S D.length=decide ((cY D.length:Int)<=(G.L.room S).1):=rfl;refine Z.mono ?_;rintro e w1 ⟨⟨B1,bK,Ul⟩,aq⟩;obtain⟨g,c,rfl,hg,kP,Xe⟩:=Ul.form uY;obtain⟨c1,hr,cN,I5⟩:=cM ((H.later aq).st.c1) (T w1 aq) aq kP;have hgw:w.heap.size<=g:=by omega
  have o8:g<w1.heap.size:=kP.old _ rfl uY;clear Z T Ul kP aq;go_wp2_with fail;refine bE hr λr aW=>?_;have ec:=aW.size;have dE:=cN.trans (aW.mono cN.size);have adw:=(I5.later aW);clear hr aW I5;go_wp2_with fail;refine(nJ r _ _).mono ?_;by_cases O:G.roomy S D.length=true
  .have k2':¬(G.L.room S).1<(cY D.length:Int):=(by rw [Ul] at O;have:=of_decide_eq_true O;omega);have wk:G.made S s D.length=(0,S,G):=(by unfold SG.made;rw [aE O]);rw [wk] at f;rw [aA (λh=>h rfl)] at f;clear h M O Ul wk P;generalize (G.L.room S).1=E1 at*;rintro e wz ⟨rfl,dw⟩;have Q:=dw.symm;subst Q;clear dw nJ;have gV:=(H.later dE);have Zx:=(HC.later dE);have aiS:¬F g:=λI=>by have:=ib _ I;omega
   have J:∀k,F k->F k\/(w.heap.size<=k/\k<r.heap.size):=λk b=> .inl b;have gQ:=(aa.ah (λk=>F k\/k=l\/k=m) dE);have I6:=B.zS gV.d gV.lp gV.lk gV.nl (some (aD g 0)) D.length c D adw (λy hy _ I=>by
    cases hy;exact aiS I) CA Xe (by omega) (by omega)
   have RM:=vn gV.lk S D;have cA:=gV.st.c1;obtain⟨A,hA⟩:=bQ (G.L.append S s D);rw [<-hA] at I6 RM f;clear hA;by_cases t:A.1=0
   .rw [aA (λh=>h t)] at f;have dA:(A.1 != 0)=false:=(by rw [t];rfl);have z:=f;clear f t;go_wp2_with fail;refine oX I6 λw3 i gZ aV=>?_;obtain⟨kO,fB,AZ,ML⟩:=cM aV.size (gV.st.au aV (λe=>e.elim gV.nq A5)) (gV.ch.au aV (λe=>e.elim gV.nm (λe=>xw e.symm))) (Zx.au aV (λe=>e.elim Km mN));have C:=CI AZ ML (λe=>wP e.symm);have c7:=fB.c7;have u:=(aF i (aF gZ (aF aV (aF fB ML))));clear I6 i gZ aV fB AZ ML;go_wp2_with fail;refine fk C λw4 YK dV=>?_;have vS:=dV.size;have v:(ig w4 (more F w w4) p s (cR+19) q l m A.2.1 {G with L:=A.2.2,ov:=CM.bX G.ov cs}/\Ch w4 n cs/\aa (λk=>F k\/k=l\/k=m) w w4):=by
     refine⟨⟨((u.1.le (by omega:cR+17<=cR+19)).au dV (λk b e=>?_)).mono (λk b=>?_) (cG (F:=F) (w:=w) ib (by omega)),u.2.2.2.1.au dV Kk,u.2.1.au dV xw,YK,λe=>e.elim H.nq (λe=>by omega),λe=>e.elim H.nl (λe=>by omega),λe=>e.elim H.nm (λe=>by omega),A5,Kk,xw,RM.1,RM.2.trans gV.bg,gV.hs,λx j=>?_⟩,u.2.2.2.2.au dV wP,(gQ.trans u.2.2.1 (λk b=>?_)).trans dV (λ_ e=> .inl (.inr (.inr e)))⟩
     .subst e;exact b.elim gV.nm (λh=>by omega)
     .rcases b with b|b
      .exact(J k b).elim .inl (λh=> .inr ⟨h.1,by omega⟩)
      .exact .inr ⟨by omega,by omega⟩
     .rcases tV j with j|j
      .exact gV.kb x j
      .exact oZ x j
     .rcases b with b|b
      .exact(J k b).elim (λh=> .inl (.inl h)) (λh=> .inr h.1)
      .exact .inl (.inr (.inl b))
    clear C YK dV;go_wp2;go_ret;rw [z];exact⟨rfl,v⟩
   .rw [aE t] at f;have dA:(A.1 != 0)=true:=(by rw [fT];exact t);have z:=f;clear f t;go_wp2_with fail;refine oX I6 λw3 i gZ aV=>?_;have kO:=aV.size;have v:(ig w3 (more F w w3) p s (cR+19) q l m A.2.1 {G with L:=A.2.2}/\Ch w3 n cs/\aa (λk=>F k\/k=l\/k=m) w w3):=by
     refine⟨⟨(i.le (by omega:cR+17<=cR+19)).mono (λk b=>?_) (cG (F:=F) (w:=w) ib (by omega)),gV.st.au aV (λe=>e.elim gV.nq A5),gZ,gV.ch.au aV (λe=>e.elim gV.nm (λe=>xw e.symm)),λe=>e.elim H.nq (λe=>by omega),λe=>e.elim H.nl (λe=>by omega),λe=>e.elim H.nm (λe=>by omega),A5,Kk,xw,RM.1,RM.2.trans gV.bg,gV.hs,gV.kb⟩,Zx.au aV (λe=>e.elim Km mN),gQ.trans aV (λk b=>?_)⟩
     .rcases b with b|b
      .exact(J k b).elim .inl (λh=> .inr ⟨h.1,by omega⟩)
      .exact .inr ⟨by omega,b.2⟩
     .rcases b with b|b
      .exact(J k b).elim (λh=> .inl (.inl h)) (λh=> .inr h.1)
      .exact .inl (.inr (.inl b))
    clear I6 i gZ aV;go_wp2;go_ret;rw [z];exact⟨rfl,v⟩
  .have k2':(G.L.room S).1<(cY D.length:Int):=(by rw [Ul] at O;exact Decidable.byContradiction (λh=>O (decide_eq_true (by omega))));have wk:G.made S s D.length=G.check S s:=(by unfold SG.made;rw [aA O]);rw [wk] at f;have Pi:=zV G S s;have hcy:=mz G S s;have hom:=h.ch.small;obtain⟨K,hK⟩:=bQ (G.check S s);rw [<-hK] at f Pi hcy P;clear h M O Ul wk hK;generalize (G.L.room S).1=E1 at*;rintro e r ⟨rfl,dw⟩;have Q:=dw.symm;subst Q;clear dw nJ;have ZF:=P r (H.later dE);by_cases X:K.1=0
   .rw [aA (λh=>h X)] at f;have dK:(K.1 != 0)=false:=(by rw [X];rfl);clear X;go_wp2_with fail;refine fk ZF λw5 RN dX=>?_;have qE:=dX.size;have gV:=RN;have aiT:¬more F r w5 g:=λI=>I.elim (λI=>by have:=ib _ I;omega) (λI=>by omega);have aiU:=(adw.nB dX (λy hy _ e=>by
     cases hy;rcases e with e|e|e
     .have:g<w.heap.size:=ib _ e;omega
     .have:g=l:=e;omega
     .have:g=m:=e;omega))
    have Y:=((HC.later dE).au dX (λe=>by
     rcases e with e|e|e
     .exact Km e
     .exact mN e
     .exact wP e))
    have ady:¬more F r w5 n:=λe=>e.elim Km (λe=>by omega);have RO:∀k,more F r w5 k->F k\/(w.heap.size<=k/\k<w5.heap.size):=λk b=>b.elim .inl (λh=> .inr ⟨by omega,h.2⟩);have ma:=((aa.ah (λk=>F k\/k=l\/k=m) dE).trans dX (λ_ h=> .inl h));have aiV:∀x∈cs,x.1<K.2.2.y.blocks:=(by rw [hcy];exact oZ);clear ZF RN dX;have I6:=B.zS gV.d gV.lp gV.lk gV.nl (some (aD g 0)) D.length c D aiU (λy hy _ I=>by
     cases hy;exact aiT I) CA Xe (by omega) (by omega)
    have RM:=vn gV.lk K.2.1 D;have cA:=gV.st.c1;obtain⟨A,hA⟩:=bQ (K.2.2.L.append K.2.1 s D);rw [<-hA] at I6 RM f;clear hA;by_cases t:A.1=0
    .rw [aA (λh=>h t)] at f;have dA:(A.1 != 0)=false:=(by rw [t];rfl);have z:=f;clear f t;go_wp2_with fail;refine oX I6 λw6 i gZ aV=>?_;obtain⟨kO,fB,AZ,ML⟩:=cM aV.size (gV.st.au aV (λe=>e.elim gV.nq A5)) (gV.ch.au aV (λe=>e.elim gV.nm (λe=>xw e.symm))) (Y.au aV (λe=>e.elim ady mN));have C:=CI AZ ML (λe=>wP e.symm);have c7:=fB.c7;have u:=(aF i (aF gZ (aF aV (aF fB ML))));clear I6 i gZ aV fB AZ ML;go_wp2_with fail;refine fk C λw7 YK dV=>?_;have vS:=dV.size;have v:(ig w7 (more F w w7) p s (cR+19) q l m A.2.1 {K.2.2 with L:=A.2.2,ov:=CM.bX K.2.2.ov cs}/\Ch w7 n cs/\aa (λk=>F k\/k=l\/k=m) w w7):=by
      refine⟨⟨((u.1.le (by omega:(cR+2)+17<=cR+19)).au dV (λk b e=>?_)).mono (λk b=>?_) (cG (F:=F) (w:=w) ib (by omega)),u.2.2.2.1.au dV Kk,u.2.1.au dV xw,YK,λe=>e.elim H.nq (λe=>by omega),λe=>e.elim H.nl (λe=>by omega),λe=>e.elim H.nm (λe=>by omega),A5,Kk,xw,RM.1,RM.2.trans gV.bg,gV.hs,λx j=>?_⟩,u.2.2.2.2.au dV wP,(ma.trans u.2.2.1 (λk b=>?_)).trans dV (λ_ e=> .inl (.inr (.inr e)))⟩
      .subst e;exact b.elim gV.nm (λh=>by omega)
      .rcases b with b|b
       .exact(RO k b).elim .inl (λh=> .inr ⟨h.1,by omega⟩)
       .exact .inr ⟨by omega,by omega⟩
      .rcases tV j with j|j
       .exact gV.kb x j
       .exact aiV x j
      .rcases b with b|b
       .exact(RO k b).elim (λh=> .inl (.inl h)) (λh=> .inr h.1)
       .exact .inl (.inr (.inl b))
     clear C YK dV;go_wp2;go_ret;rw [z];exact⟨rfl,v⟩
    .rw [aE t] at f;have dA:(A.1 != 0)=true:=(by rw [fT];exact t);have z:=f;clear f t;go_wp2_with fail;refine oX I6 λw6 i gZ aV=>?_;have kO:=aV.size;have v:(ig w6 (more F w w6) p s (cR+19) q l m A.2.1 {K.2.2 with L:=A.2.2}/\Ch w6 n cs/\aa (λk=>F k\/k=l\/k=m) w w6):=by
      refine⟨⟨(i.le (by omega:(cR+2)+17<=cR+19)).mono (λk b=>?_) (cG (F:=F) (w:=w) ib (by omega)),gV.st.au aV (λe=>e.elim gV.nq A5),gZ,gV.ch.au aV (λe=>e.elim gV.nm (λe=>xw e.symm)),λe=>e.elim H.nq (λe=>by omega),λe=>e.elim H.nl (λe=>by omega),λe=>e.elim H.nm (λe=>by omega),A5,Kk,xw,RM.1,RM.2.trans gV.bg,gV.hs,gV.kb⟩,Y.au aV (λe=>e.elim ady mN),ma.trans aV (λk b=>?_)⟩
      .rcases b with b|b
       .exact(RO k b).elim .inl (λh=> .inr ⟨h.1,by omega⟩)
       .exact .inr ⟨by omega,b.2⟩
      .rcases b with b|b
       .exact(RO k b).elim (λh=> .inl (.inl h)) (λh=> .inr h.1)
       .exact .inl (.inr (.inl b))
     clear I6 i gZ aV;go_wp2;go_ret;rw [z];exact⟨rfl,v⟩
   .rw [aE X] at f;have dK:(K.1 != 0)=true:=(by rw [fT];exact X);have z:=f;clear X f;go_wp2_with fail;refine fk ZF λw5 RN dX=>?_;have qE:=dX.size;have v:(ig w5 (more F w w5) p s (cR+19) q l m K.2.1 K.2.2/\Ch w5 n cs/\aa (λk=>F k\/k=l\/k=m) w w5):=by
     have o:=RN.reF (F2:=more F w w5) (λk b=>b.elim .inl (λh=> .inr ⟨by omega,h.2⟩)) (cG (F:=F) (w:=w) ib (by omega)) (λe=>e.elim H.nq (λe=>by omega)) (λe=>e.elim H.nl (λe=>by omega)) (λe=>e.elim H.nm (λe=>by omega));refine⟨⟨o.d.le (by omega),o.st,o.lp,o.ch,o.nq,o.nl,o.nm,o.ql,o.qm,o.lm,o.lk,o.bg,o.hs,o.kb⟩,(HC.later dE).au dX (λe=>?_),(aa.ah (λk=>F k\/k=l\/k=m) dE).trans dX (λ_ h=> .inl h)⟩;rcases e with e|e|e
     .exact Km e
     .exact mN e
     .exact wP e
    clear ZF RN dX;go_wp2;go_ret;rw [z];exact⟨rfl,v⟩
 .rw [aE W] at f;have d1:((G.L.room S).2 != 0)=true:=by rw [fT];exact W
  have z:=f;clear W f h M nJ CA;generalize (G.L.room S).2=E at*;generalize (G.L.room S).1=E1 at*;refine Z.mono ?_;rintro e w1 ⟨⟨B1,bK,Ul⟩,aq⟩;obtain⟨g,c,rfl,hg,kP,Xe⟩:=Ul.form uY;have c1:=(H.later aq).st.c1;have hr:=T w1 aq;have cN:=aq;clear Z T Ul kP aq;go_wp2_with fail;refine bE hr λr aW=>?_;have U:=cN.trans (aW.mono cN.size);have v:(ig r (more F w r) p s (cR+19) q l m S G/\Ch r n cs/\aa (λk=>F k\/k=l\/k=m) w r):=⟨H.GG ((H.d.later U).more.le (by omega)) (H.st.later U) (H.lp.later U) (H.ch.later U) H.lk H.bg H.kb,HC.later U,aa.ah _ U⟩;clear hr aW U;go_wp2;go_ret;rw [z];exact⟨rfl,v⟩
end
end
section
section
variable {w w':World} {F:Nat->Prop} {p s cR q l m t n:Nat} {S:DS} {G:SG} {T:TG}
theorem N0 (h:ig w F p s cR q l m S G) (aT:S.puts.length+1<=4000000000000):
  Calls prog 72 #[pQ q] w λe w'=>e= .returned (iV (G.L.sync S s).1)/\ig w' F p s cR q l m (G.L.sync S s).2 G/\aa F w w':=by
 have c:=B.zD h.d h.lp h.nl aT;have g:=h.st.c1;generalize G.L.sync S s=Z at*;go_in;go_wp2_with fail;refine oX c λw1 hd f a=>?_;have b:(ig w1 F p s cR q l m Z.2 G/\aa F w w1):=⟨⟨hd,h.st.au a h.nq,f,h.ch.au a h.nm,h.nq,h.nl,h.nm,h.ql,h.qm,h.lm,h.lk,h.bg,h.hs,h.kb⟩,a⟩;go_wp2;go_ret;exact⟨rfl,b⟩
def TG.news (T:TG) (G:SG) (S:DS):CM:=T.puts.filter λx=> !decide (x.2=G.block S x.1)
def TG.bF (T:TG) (G:SG) (S:DS) (s:Nat):Int×DS×SG×TG:=
 if T.state G S≠0 then (T.state G S,S,G,T) else
 if T.news G S= [] then (0,S,{G with busy:=false},T.close) else
 if (G.bF S s (T.news G S)).1≠0 then ((G.bF S s (T.news G S)).1,(G.bF S s (T.news G S)).2.1,(G.bF S s (T.news G S)).2.2,T)
 else (0,(G.bF S s (T.news G S)).2.1,{(G.bF S s (T.news G S)).2.2 with busy:=false},T.close)
end
end
theorem CM.N1 (h:CM.Ok ms) (P:Nat×List Int->Bool):CM.Ok (ms.filter P):=List.Pairwise.filter P h
theorem CM.get_filter (h:CM.Ok ms) (P:Nat×List Int->Bool) (k:Nat):CM.get (ms.filter P) k=(CM.get ms k).filter (λc=>P (k,c)):=by
 induction ms with
 |nil=>rfl
 |cons x xs d=>
  have b:=List.pairwise_cons.1 h;obtain⟨j,c⟩:=x;rw [CM.lO];by_cases e:j=k
  .subst e;rw [aE rfl];cases a:P (j,c)
   .rw [List.filter_cons_of_neg (by rw [a];decide),d b.2,CM.kG (λy f e=>by have:=b.1 y f;simp only at this;omega)];simp [a,Option.filter]
   .rw [List.filter_cons_of_pos a,CM.lO,aE rfl];simp [a,Option.filter]
  .rw [aA e];cases a:P (j,c)
   .rw [List.filter_cons_of_neg (by rw [a];decide),d b.2]
   .rw [List.filter_cons_of_pos a,CM.lO,aA e,d b.2]
def jG (ms X:CM) (Um:Nat->List Int) (left:Lit->Bool):Prop:=∀k,CM.get X k=if left (kk k)=false then (CM.get ms k).filter (λc=> !decide (c=Um k)) else none
theorem jG.start {left:Lit->Bool} (h:∀k c,CM.get ms k=some c->left (kk k)=true):jG ms [] Um left:=λk=>by
 show none=_;split
 .rename_i e;cases a:CM.get ms k with
  |none=>rfl
  |some c=>rw [h k c a] at e;cases e
 .rfl
theorem jG.done {left:Lit->Bool} (h:jG ms X Um left) (b:CM.Ok X) (a:CM.Ok ms) (c:∀kl,left kl=false):X=ms.filter (λx=> !decide (x.2=Um x.1)):=by
 refine CM.ext b (CM.N1 a _) (λk=>?_);rw [h k,aE (c _),CM.get_filter a]
theorem jG.au {left:Lit->Bool} {c:List Int} (h:jG ms X Um left) (b:CM.get ms k=some c) (d:left (kk k)=true) (a:c=Um k):jG ms X Um (λz=>left z && !z.sameKey (kk k)):=λj=>by
 rw [h j];show _=if (left (kk j) && !(kk j).sameKey (kk k))=false then _ else _;rw [ln];by_cases e:j=k
 .subst e;simp [b,d,a,Option.filter]
 .simp [e]
theorem jG.put {left:Lit->Bool} {c:List Int} (h:jG ms X Um left) (a:CM.Ok X) (d:CM.get ms k=some c) (b:c≠Um k):jG ms (CM.put X k c) Um (λz=>left z && !z.sameKey (kk k)):=λj=>by
 rw [CM.kr _ _ _ _ a,h j];show _=if (left (kk j) && !(kk j).sameKey (kk k))=false then _ else _;rw [ln];by_cases e:j=k
 .subst e;simp [d,b,Option.filter]
 .simp [e]
section
theorem lx {P:Program} {k:TypeId} {R:Value->Option (DataW Value×List MemPlace)} {w w':World} {b r n:Nat} {D:DataW Value} {left:Lit->Bool} {iN:Nat} (h:w.ranges P k R b r n D left iN) (g:w'.heap[b]? =w.heap[b]?) (i:w'.heap[r]? =w.heap[r]?):w'.ranges P k R b r n D left iN:=by
 obtain⟨f,a,c,d,e,m,l,p,j,o,rest⟩:=h;exact⟨f,a,c,d,e,g.trans m,l,p,j,i.trans o,rest⟩
section
variable {w w':World} {F:Nat->Prop} {p s cR q l m t n:Nat} {S:DS} {G:SG} {T:TG}
theorem GK {D:DataW Value} (h:ig w F p s cR q l m S G) (ht:mx w F q l m t n G T) (hn:ve w n T.puts D) (hf:S.fuse≠0) (aT:S.puts.length+1<=4000000000000):
  Calls prog 134 #[pQ t] w λe w'=>e= .returned (.tuple #[.map (some w.heap.size),iV 0])/\Ch w' w.heap.size (T.news G S)/\B.ax w' F p s S (cR+T.puts.length)/\aa F w w':=by
 obtain⟨mN,Pf,HS,HT,H,ib,BV,hm⟩:=rV hn.lt je (yh h) (yh ht) (yh hn) (yh h.d.lt) ( @run_makeMap prog) (Ch.made w);obtain⟨wM,Uh⟩:=bQ (w.alloc (.map #[] 0));rw [<-Uh] at hm;have K:bW w wM:=by rw [Uh];exact aI _ _
 have Z:wM.heap.size=w.heap.size+1:=by rw [Uh,World.size_alloc]
 have c1:=(ht.later K).c1;have HwM:=yh Uh;have HM:=yh hm;have I:=yh K;subst Uh;clear h ht hn hm K;go_in;go_wp2_with (at_range;refine wpList_range_own _ rfl _ 83 rfl 3 91 fX underlying83 Ra n T.puts.length D rfl (H.o.agree (I.o.block n mN)).own ?_;intro w0 pg uD xZ;go_frame);have Bb:Yh (bW w w0):=I.o.trans (((bi _ _).grown uD (bP _) (λj E=>by cases E)).mono (by omega));have R:=yh (HM.o.agree (uD.block _ HM.o.lt (λe=>by cases e)));rw [Z] at pg xZ;clear uD c1 BV HM I Z HwM;go_loopw [5] (λ_ wr=>∃(left:Lit->Bool) (iN u:Nat) (X:CM),wr.ranges prog 3 Ra n (w.heap.size+1) T.puts.length D left iN/\Ch wr w.heap.size X/\jG T.puts X (G.block S) left/\B.ax wr F p s S (cR+u)/\u+iN<=T.puts.length/\aa F w wr/\w.heap.size+2<=wr.heap.size)
    (λ_ wr=>wr.rangeLeft n (w.heap.size+1))
 case atStart=>
  exact⟨_,_,0, [],pg,R.o,jG.start (λk c hk=>(H.o.MX k c hk).1),HS.o.d.later Bb.o,by rw [H.o.siz];omega,aa.ah _ Bb.o,by omega⟩
 case round=>
  clear pg Bb R xZ;obtain⟨left,iN,u,X,mI,W,Jv,hd,hu,fP,ef⟩:=hrel;go_wp2_with (at_next;refine wpList_next_ranges _ rfl _ rfl 3 fX Ra (Value.int .i64) Value.agg (λkey kl gF=>by obtain⟨x,rfl,_⟩:=Maps.keyOf_int_inv underlying3 gF;exact⟨x,rfl⟩) Kg n (w.heap.size+1) T.puts.length _ _ _ rfl mI ?_ ?_)
  .intro _ vJ;have Y:X=T.news G S:=Jv.done W.ok H.o.ok vJ;have J:=yh (aF (Y▸W) (aF (hd.le (by omega:cR+u<=cR+T.puts.length)) fP));clear mI W Jv hd fP H HS HT Y;go_wp2;go_ret2;exact⟨rfl,J.o⟩
  .intro x ca kl yd yp a ph gF x8 N ic oR bm fU bo IQ;obtain⟨k,c,rfl,rfl,XH,tk⟩:=H.o.meets gF N ic;have nH:=H.o.len _ (CM.get_mem XH);have oZ:k<G.y.blocks:=HT.o.kb _ (CM.get_mem XH);have GL:=vj HS.o k oZ;injection tk with tk;have bt:=eQ a nH.2.1;have aU:=eJ nH.2.1;have dI:=cB c;obtain⟨A,hA⟩:=bQ (bs c);rw [<-hA] at tk bt aU dI;have pX:A.length=512:=(by rw [hA,bs,List.length_map,nH.2.1]);have bR:=all_oneCell_toArray dI;subst tk;have xM:aa (λj=>j=w.heap.size+1) wr a:=⟨fU.os,fU.tape,fU.output,fU.size,λj E dG=>fU.block j E (λe=>dG (by injection e))⟩;have cC:=hd.au xM (λj E e=>by have:=ib.o _ E;omega);have Ml:=W.au xM (λe=>by omega);obtain⟨wS,Fh⟩:=bQ ((a.alloc (.cells bh 91)).setCells a.heap.size 0 A);have dZ:=bt.2.2;have wg:bW a wS:=(by rw [Fh];exact bt.2.1);have XL:jX wS 91 a.heap.size c:=(by rw [Fh];exact bt.1);have VL:=(fP.trans xM (λj e=> .inr (by omega))).trans (aa.ah (λ_=>False) wg) (λ_ h=>h.elim);obtain⟨c0,h2,hzS,wR,Zk,HA,g⟩:=nW ((HT.o.asked VL).c0) (rI (HS.o.asked (cC.later wg) VL) k oZ hf aT) wg.size (yh (aF (lx oR (wg.block _ oR.owns.lt) (wg.block _ oR.lt)) (aF (Ml.later wg) (aF VL XL)))) (yh Fh) (yh hA) (yh (aF XH (aF x8 (aF Jv nH))));have ju:w.heap.size+2<=a.heap.size:=(by omega);clear gF N ic fU W Ml fP xM hd cC wg XL VL dI XH oR bt Jv x8 bo hA Fh;have hlS:=wR.o.2.2.2.lt
   go_upto_region 5 with (refine wpList_store_mid rfl 91 _ _ rfl a.heap.size 0 A.toArray rfl rfl ?h1 ?h2 bR ?_)
   case h1=>first|simpa using dZ|(rw [pX] at dZ;simpa using dZ)
   have Ry:=Zk.o;subst Ry;generalize NS:(a.alloc (.cells bh 91)).setCells a.heap.size 0 A=wS at*;clear NS dZ Zk IQ;unfold cV at h2;obtain⟨C,hC⟩:=bQ (bs (G.block S k));rw [<-hC] at h2;have Q:=yh hC;clear hC;go_wp2_with fail;refine fk h2 λi L aV=>?_;obtain⟨kO,bt,lQ,wj⟩:=cM aV.size (eQ i GL) (eJ GL) (cB (G.block S k));rw [<-Q.o] at bt lQ wj;have U:C.length=512:=(by rw [Q.o,bs,List.length_map,GL]);have GF:=all_oneCell_toArray wj;have dZ:=bt.2.2;obtain⟨f,VH⟩:=bQ ((i.alloc (.cells bh 91)).setCells i.heap.size 0 C);have I4:bW i f:=(by rw [VH];exact bt.2.1);have hzD:=I4.size;have CH:jX f 91 i.heap.size (G.block S k):=(by rw [VH];exact bt.1);have tW:∀j,w.heap.size<=j->¬F j:=λj E hf=>by have:=ib.o _ hf;omega
   have zQ:=(wR.o.2.2.2.au (aV.block _ hlS (tW _ (by omega)))).au (I4.block _ (by omega));have raA:f.rangeAt a.heap.size 0 A:=λj v N=>by
    have:=zQ.news j v (by rw [<-HA.o];exact N);rwa [aK] at this
   have raC:f.rangeAt i.heap.size 0 C:=λj v N=>by
    have:=CH.news j v (by rw [<-Q.o];exact N);rwa [aK] at this
   have RP:=lx (lx wR.o.1 (aV.block _ (by omega) HT.o.nn) (aV.block _ wR.o.1.lt (tW _ (by omega)))) (I4.block _ (by omega)) (I4.block _ (by omega));have b:=(wR.o.2.1.au aV (tW _ (by omega))).later I4;have VM:=(wR.o.2.2.1.trans aV (λ_ h=> .inl h)).trans (aa.ah (λ_=>False) I4) (λ_ h=>h.elim);have r:B.ax f F p s S (cR+(u+1)):=L.later I4;by_cases O:c=G.block S k
   .have dv:(!decide (c=G.block S k))=false:=(by rw [decide_eq_true O];rfl);have J:Yh (f.ranges prog 3 Ra n (w.heap.size+1) T.puts.length D (λz=>left z && !z.sameKey (kk k)) ph/\Ch f w.heap.size X/\jG T.puts X (G.block S) (λz=>left z && !z.sameKey (kk k))/\B.ax f F p s S (cR+(u+1))/\(u+1)+ph<=T.puts.length/\aa F w f/\w.heap.size+2<=f.heap.size):=⟨RP,b,g.o.2.2.1.au g.o.1 g.o.2.1 O,r,by omega,VM,by omega⟩;have M:=g.o.2.2.2.2.1;clear h2 L aV bt wj I4 CH zQ RP b VM r O tW;subst VH
    go_upto_region 6 with (refine wpList_store_mid rfl 91 _ _ rfl i.heap.size 0 C.toArray rfl rfl ?h3 ?h4 GF ?_)
    case h3=>first|simpa using dZ|(rw [U] at dZ;simpa using dZ)
    case h4=>simpa using lQ
    go_wp2_with (first|refine wpList_load_mid rfl 91 _ rfl a.heap.size 0 rfl A _ raA underlying91 rfl aU ?_|refine wpList_load_mid rfl 91 _ rfl i.heap.size 0 rfl C _ raC underlying91 rfl lQ ?_|refine rK rfl _ _ _ rfl A C c (G.block S k) HA.o Q.o rfl rfl M GL false dv ?_)
    go_frame
    go_roundw;case rel=>exact⟨_,ph,u+1,X,J.o⟩
    case measure=>rw [J.o.1.left_eq,mI.left_eq];exact bm
   .have dv:(!decide (c=G.block S k))=true:=(by rw [decide_eq_false O];rfl);obtain⟨P,bC,nc,zR,NV⟩:=b.store k g.o.2.2.2.1 c g.o.2.2.2.2.1 g.o.2.2.2.2.2;have RH:(Instr.mapUpdate 83 (.map (some w.heap.size)) (iV (k:Int)) (.agg A.toArray)).run prog f= .ok () P:=(by rw [HA.o];exact bC);have J:Yh (P.ranges prog 3 Ra n (w.heap.size+1) T.puts.length D (λz=>left z && !z.sameKey (kk k)) ph/\Ch P w.heap.size (CM.put X k c)/\jG T.puts (CM.put X k c) (G.block S) (λz=>left z && !z.sameKey (kk k))/\B.ax P F p s S (cR+(u+1))/\(u+1)+ph<=T.puts.length/\aa F w P/\w.heap.size+2<=P.heap.size):=⟨lx RP (zR.block _ (by omega) (λe=>by omega)) (zR.block _ RP.lt (λe=>by omega)),nc,g.o.2.2.1.put b.ok g.o.1 O,r.au zR (λj E e=>tW _ (Nat.le_of_eq e.symm) E),by omega,VM.trans zR (λj e=> .inr (by omega)),by have:=zR.size;omega⟩;have M:=g.o.2.2.2.2.1;clear h2 L aV bt wj I4 CH zQ RP b VM r O tW bC nc zR NV;subst VH
    go_upto_region 6 with (refine wpList_store_mid rfl 91 _ _ rfl i.heap.size 0 C.toArray rfl rfl ?h3 ?h4 GF ?_)
    case h3=>first|simpa using dZ|(rw [U] at dZ;simpa using dZ)
    case h4=>simpa using lQ
    go_wp2_with (first|refine wpList_load_mid rfl 91 _ rfl a.heap.size 0 rfl A _ raA underlying91 rfl aU ?_|refine wpList_load_mid rfl 91 _ rfl i.heap.size 0 rfl C _ raC underlying91 rfl lQ ?_|refine rK rfl _ _ _ rfl A C c (G.block S k) HA.o Q.o rfl rfl M GL true dv ?_);go_roundw;case rel=>exact⟨_,ph,u+1,_,J.o⟩
    case measure=>rw [J.o.1.left_eq,mI.left_eq];exact bm
theorem GM (h:ig w F p s cR q l m S G) (a:mx w F q l m t n G T) (b:S.fuse≠0) (aT:S.puts.length+1<=4000000000000):
  Calls prog 134 #[pQ t] w λe w'=>e= .returned (.tuple #[.map (some w.heap.size),iV 0])/\Ch w' w.heap.size (T.news G S)/\B.ax w' F p s S (cR+T.puts.length)/\aa F w w':=by
 obtain⟨D,c⟩:=a.ch;exact GK h a c b aT
end
end
section
theorem zW (G:SG) (S:DS) (s:Nat) (c:CM):(G.bF S s c).2.2.y=G.y:=by
 have a:∀x,(G.made S s x).2.2.y=G.y:=λx=>by
  unfold SG.made;split
  .rfl
  .exact mz G S s
 unfold SG.bF;split
 .rfl
 .split
  .exact a _
  .split
   .exact a _
   .exact a _
theorem zY {T:TG} {G:SG} {S:DS} (h:T.state G S=0):G.L.dead S=false:=by
 cases hd:G.L.dead S
 .rfl
 .exfalso;have:T.bX G S=3:=by unfold TG.bX;rw [hd];rfl
  unfold TG.state at h;rw [this,aE (by decide)] at h;revert h;decide
theorem GN {T:TG} {G:SG} {S:DS} {x:Nat×List Int} (h:x∈T.news G S):x∈T.puts:=(List.mem_filter.1 h).1
theorem VN (T:TG) (G:SG) (S:DS):(T.news G S).length<=T.puts.length:=List.length_filter_le _ _
section
variable {w w':World} {F:Nat->Prop} {p s cR q l m t n:Nat} {S:DS} {G:SG} {T:TG}
theorem ig.le (h:ig w F p s cR q l m S G) (a:cR<=c'):ig w F p s c' q l m S G:=
   ⟨h.d.le a,h.st,h.lp,h.ch,h.nq,h.nl,h.nm,h.ql,h.qm,h.lm,h.lk,h.bg,h.hs,h.kb⟩
theorem mx.re {H:Nat->Prop} {G':SG} (h:mx w F q l m t n G T) (a:aa H w w') (e:¬H t) (d:¬H n) (b:¬F2 t) (c:¬F2 n) (g:G'.y=G.y):mx w' F2 q l m t n G' T:=
   ⟨(a.block t (aw h.tx) e).trans h.tx,h.ch.au a d,b,c,h.tq,h.tl,h.tm,h.tn,h.nq,h.nl,h.nm,λx f=>by rw [g];exact h.kb x f⟩
theorem RQ (h:ig w F p s cR q l m S G) (a:mx w F q l m t n G T):
  Calls prog 136 #[pQ t] w λe w'=>e= .returned (.tuple #[])/\ig w' F p s cR q l m S {G with busy:=false}/\mx w' F q l m t n {G with busy:=false} T.close/\aa (λk=>k=t\/k=n\/k=q) w w':=by
 refine(Mj h.st a).mono ?_;rintro e w1 ⟨rfl,f,g,i,b⟩;refine⟨rfl,⟨h.d.au b (λk c e=>?_),i,h.lp.au b (λe=>?_),h.ch.au b (λe=>?_),h.nq,h.nl,h.nm,h.ql,h.qm,h.lm,h.lk,h.bg,h.hs,h.kb⟩,⟨f,g,a.nt,a.nn,a.tq,a.tl,a.tm,a.tn,a.nq,a.nl,a.nm,λx j=>by cases j⟩,b⟩
 .rcases e with e|e|e
  .exact a.nt (e▸c)
  .exact a.nn (e▸c)
  .exact h.nq (e▸c)
 .rcases e with e|e|e
  .exact a.tl e.symm
  .exact a.nl e.symm
  .exact h.ql e.symm
 .rcases e with e|e|e
  .exact a.tm e.symm
  .exact a.nm e.symm
  .exact h.qm e.symm
def RR (w w':World) (F:Nat->Prop) (p s c q l m t n:Nat) (r:Int×DS×SG×TG) (e:Ending):Prop:=
 e= .returned (iV r.1)/\(ig w' (more F w w') p s c q l m r.2.1 r.2.2.1/\mx w' (more F w w') q l m t n r.2.2.1 r.2.2.2)/\aa (λk=>F k\/k=l\/k=m\/k=t\/k=n\/k=q) w w'
theorem E3 {f:World} {i:Nat->Prop} {j:DS} {g:SG} {o:TG} (h0:ig w F p s cR q l m S G) (b:mx w F q l m t n G T) (h:ig f i p s c q l m j g) (a:mx f i q l m t n g o) (r:∀k,i k->F k\/(w.heap.size<=k/\k<f.heap.size)) (v:w.heap.size<=f.heap.size) (u:c<=c'):ig f (more F w f) p s c' q l m j g/\mx f (more F w f) q l m t n g o:=by
 obtain⟨x,y,z,A,C⟩:=ey h0.st.lt h0.lp.lt h0.ch.lt (aw b.tx) b.ch.lt;exact⟨(h.reF r (cG h0.d.lt v) (λe=>e.elim h0.nq (λe=>by omega)) (λe=>e.elim h0.nl (λe=>by omega)) (λe=>e.elim h0.nm (λe=>by omega))).le u,⟨a.tx,a.ch,λe=>e.elim b.nt (λe=>by omega),λe=>e.elim b.nn (λe=>by omega),a.tq,a.tl,a.tm,a.tn,a.nq,a.nl,a.nm,a.kb⟩⟩
theorem Kv (h:ig w F p s cR q l m S G) (v:mx w F q l m t n G T) (ZE:T.puts.length<=16) (cZ:S.fC) (aT:S.puts.length+5000<=4000000000000):
  Calls prog 85 #[pQ t] w λe w'=>RR w w' F p s (cR+40) q l m t n (T.bF G S s) e:=by
 obtain⟨u,f,b,ib,hqw,hlw,VI,Me,hnw,mN,J⟩:=LH (nI h v) (yh h) (yh v) (yh h.d.lt) h.st.lt h.lp.lt h.ch.lt (aw v.tx) v.ch.lt (VN T G S) (yh (zW G S s (T.news G S)));obtain⟨R,a⟩:=bQ (T.bF G S s);rw [<-a];unfold TG.bF at a;go_in;go_wp2_with fail;by_cases k:T.state G S=0
 .rw [aA (λh=>h k)] at a;have Ff:=vl (zY k);rw [k] at u;clear k h v;refine bE u λw1 aq=>?_;have z:=GM (f.o.later aq) (b.o.later aq) Ff (by omega);by_cases H:T.news G S= []
  .rw [aE H] at a;have i:=yh a;clear a;have dr:=aq.size;have cN:=yh aq;clear u aq;go_wp2_with fail;refine oX z λY sG cC aX=>?_;have ec:=aX.size;rw [H] at sG;have D:=λU=>sG.length U;have j:=RQ ((f.o.later cN.o).asked cC aX) ((b.o.later cN.o).asked aX);have gQ:=yh (((aa.ah F cN.o).trans aX (λ_ h=> .inl h)).mono (λk c=> .inl c:∀k,F k->F k\/k=l\/k=m\/k=t\/k=n\/k=q));clear z sG cC aX;go_wp2_with fail;refine oX j λW ZG ZH aV=>?_;have g:=yh (aF (E3 (c':=cR+40) f.o b.o ZG ZH (λk c=> .inl c) (by have:=aV.size;omega) (by omega)) (gQ.o.trans aV (λk c=> .inl (.inr (.inr (.inr c))))));clear j ZG ZH aV;go_wp2;go_ret;rw [i.o];exact⟨rfl,g.o⟩
  .rw [aA H] at a;have uY:=List.length_pos_iff.2 H;obtain⟨N,I⟩:=bQ (T.news G S);have M:=yh (λx (Q:x∈N)=>(GN (T:=T) (G:=G) (S:=S) (I▸Q)));rw [<-I] at a uY mN J;have L:=yh I;obtain⟨K,P⟩:=bQ (G.bF S s N);rw [<-P] at a J;have Z:=yh P;clear P I H;rw [<-L.o] at z;have dr:=aq.size;have cN:=yh aq;clear u aq;go_wp2_with fail;refine oX z λY sG cC aX=>?_;have ec:=aX.size;have fU:=sG.lt;have r:=(b.o.later cN.o).asked aX;have D:=λU=>sG.length U;have j:=Ku ((f.o.later cN.o).asked cC aX) sG (λhf=>by have:=ib.o _ hf;omega) (by omega) (by omega) (by omega) (λx Q=>b.o.kb x (M.o x Q)) (by omega) cZ aT;rw [<-Z.o] at j;have c0:=r.c0;have O:=yh r;have gQ:=yh (((aa.ah F cN.o).trans aX (λ_ h=> .inl h)).mono (λk c=> .inl c:∀k,F k->F k\/k=l\/k=m\/k=t\/k=n\/k=q));clear z sG cC aX r;go_wp2_with fail;refine oX j λW ZG _ aV=>?_;have kO:=aV.size;have ZH:mx W (more F Y W) q l m t n K.2.2 T:=O.o.re aV (λe=>by
    rcases e with e|e|e
    .exact b.o.nt e
    .exact b.o.tl e
    .exact b.o.tm e) (λe=>by
    rcases e with e|e|e
    .exact b.o.nn e
    .exact b.o.nl e
    .exact b.o.nm e) (λe=>e.elim b.o.nt (λe=>by omega)) (λe=>e.elim b.o.nn (λe=>by omega)) J.o
   have ma:=yh (gQ.o.trans aV (λk c=> .inl (c.elim .inl (λh=> .inr (h.elim .inl (λh=> .inr (.inl h)))))));by_cases y:K.1=0
   .rw [aA (λh=>h y)] at a;have dK:(K.1 != 0)=false:=(by rw [y];rfl);have i:=yh a;clear a y;have X:=RQ ZG ZH;clear j ZG ZH aV;go_wp2_with fail;refine oX X λw4 A C dV=>?_;have vS:=dV.size;have g:=yh (aF (E3 (c':=cR+40) f.o b.o A C (λk c=>c.elim .inl (λh=> .inr ⟨by omega,by omega⟩)) (by omega) (by omega)) (ma.o.trans dV (λk c=> .inl (.inr (.inr (.inr c))))));clear X A C dV;go_wp2;go_ret;rw [i.o];exact⟨rfl,g.o⟩
   .rw [aE y] at a;have dK:(K.1 != 0)=true:=(by rw [fT];exact y);have i:=yh a;clear a y;have g:=yh (aF (E3 (c':=cR+40) f.o b.o ZG ZH (λk c=>c.elim .inl (λh=> .inr ⟨by omega,h.2⟩)) (by omega) (by omega)) ma.o);clear j ZG ZH aV;go_wp2;go_ret;rw [i.o];exact⟨rfl,g.o⟩
 .rw [aE k] at a;generalize T.state G S=E at*;have d:(E != 0)=true:=by rw [fT];exact k
  have i:=yh a;clear k a h v;refine bE u λw1 aq=>?_;have g:=yh (aF (E3 (c':=cR+40) f.o b.o (f.o.later aq) (b.o.later aq) (λk c=> .inl c) aq.size (by omega)) (aa.ah (λk=>F k\/k=l\/k=m\/k=t\/k=n\/k=q) aq));clear u aq;go_wp2;go_ret;rw [i.o];exact⟨rfl,g.o⟩
end
end
def eK (n:Nat):CM:=(List.range n).map λi=>(i,zs 512)
theorem zZ (n:Nat):(eK n).length=n:=by simp [eK]
theorem CK (n:Nat):eK (n+1)=eK n ++ [(n,zs 512)]:=by simp [eK,List.range_succ]
theorem CN {j n:Nat} (h:j<=n):∃r,eK n=eK j ++ r:=by
 refine⟨(eK n).drop j,?_⟩;have:eK j=(eK n).take j:=by
  unfold eK;rw [<-List.map_take,List.take_range,Nat.min_eq_left h]
 rw [this,List.take_append_drop]
def eu (S:DS) (s a n:Nat):Int×DS:=if (sbring S s a (eK n)).1≠0 then sbring S s a (eK n) else (sbring S s a (eK n)).2.fl s
theorem lR (S:DS) (s a n:Nat):(eu S s a n).2.puts.length<=S.puts.length+n:=by
 have h:=eA S s a (eK n);rw [zZ] at h;unfold eu;split
 .exact h
 .exact jQ (lY _ _) h
theorem CO (hd:B.ax w F p s S c) (a b:Nat) (oz:a<=b) (M:b<=4000000000) (aT:S.puts.length+(b-a)+1<=4000000000000):
  Calls prog 38 #[pQ p,iV (a:Int),iV (b:Int)] w λe w'=>e= .returned (iV (eu S s a (b-a)).1)/\B.ax w' (more F w w') p s (eu S s a (b-a)).2 c/\aa F w w':=by
 obtain⟨n,rfl⟩:∃n,b=a+n:=⟨b-a,by omega⟩;rw [Nat.add_sub_cancel_left] at aT⊢;clear oz;obtain⟨R,t⟩:=bQ (eu S s a n);rw [<-t];unfold eu at t;obtain⟨ib,H,D⟩:=jS hd.lt hd t;clear hd t;go_in;go_wp2_with (at_make;refine iH _ rfl _ _ rfl _ 512 512 rfl rfl rfl (bP _) (by omega) ?_;intro w1 aZ aq);have Bj:=aZ.lt;have fJ:Src w1 (some (aD w.heap.size 0)) 512 (zs 512):=by
  have:=aZ.src (o:=0) (n:=512) (by rw [bB];omega);rwa [List.drop_zero,nh (by rw [bB];omega)] at this
 obtain⟨I5,Rx,cN⟩:=jS fJ (H.o.later aq) aq;clear aZ aq fJ;have K:((a+n:Nat):Int)<=4000000000:=by omega
 go_loopw [8] (λi wr=>∃j:Nat,j<=n/\i=iV ((a+j:Nat):Int)/\(sbring S s a (eK j)).1=0/\B.ax wr (more F w1 wr) p s (sbring S s a (eK j)).2 c/\aa F w1 wr) (λi _=>a+n-(intOf i).toNat);case atStart=>exact⟨0,dU _,rfl,rfl,Rx.o.more,aa.refl _ _⟩
 case round=>
  clear Rx;obtain⟨j,N,rfl,u,hd,fP⟩:=hrel;have C:=fP.size;have sB:=eA S s a (eK j);rw [zZ] at sB;have Mi:Yh (∀k,F k->k<w1.heap.size):=λk z=>by have:=ib.o k z;omega
  have A:¬F w.heap.size:=λz=>by have:=ib.o _ z;omega
  by_cases bm:j<n
  .have cw:((a+j:Nat):Int)<((a+n:Nat):Int):=(by omega);have kP:=I5.o.nB fP (λy L _ e=>by
    cases L;exact A e)
   have fZ:sbring S s a (eK (j+1))=(sbring S s a (eK j)).2.wr s ((a+j:Nat):Int) 512 (zs 512):=by
    rw [CK,fi,aA (λh=>h u)];simp only [sbring];split
    .rfl
    .rename_i h;generalize DS.wr _ _ _ _ _=Z at*;rw [<-(Decidable.byContradiction h)]
   have f:=B.D2 hd ((a+j:Nat):Int) (some (aD w.heap.size 0)) 512 512 (zs 512) kP (by omega);rw [<-fZ] at f;obtain⟨r,G⟩:=CN (Nat.succ_le_of_lt bm);have mO:sbring S s a (eK n)=if (sbring S s a (eK (j+1))).1≠0 then sbring S s a (eK (j+1)) else sbring (sbring S s a (eK (j+1))).2 s a r:=by
    rw [G];exact fi S s a _ _
   obtain⟨Y,x⟩:=bQ (sbring S s a (eK (j+1)));rw [<-x] at f mO;obtain⟨E,I,q⟩:=jS x mO fP;clear x mO fZ G hd fP kP u sB;by_cases l:Y.1=0
   .have J:(Y.1 != 0)=false:=(by rw [l];rfl);have Ug:=yh l;clear l;go_wp2_with fail;refine fk f λw5 jy dX=>?_;have qE:=dX.size;have g:Yh (B.ax w5 (more F w1 w5) p s Y.2 c/\aa F w1 w5):=⟨jy.mono (uV C qE) (cG (F:=F) (w:=w1) Mi.o (by omega)),q.o.trans dX (λk d=>d.elim .inl (λh=> .inr h.1))⟩;clear f jy dX;go_wp2;go_roundw;case rel=>exact⟨j+1,by omega,by go_num,by rw [<-E.o];exact Ug.o,by rw [<-E.o];exact g.o.1,g.o.2⟩
    case measure=>simp [intOf];omega
   .have J:(Y.1 != 0)=true:=(by rw [fT];exact l);have Ug:=yh l;clear l;go_wp2_with fail;refine fk f λw5 jy dX=>?_;have qE:=dX.size;have g:Yh (B.ax w5 (more F w w5) p s Y.2 c/\aa F w w5):=⟨jy.mono (λk d=>by
     rcases d with (d|d)|d
     .exact .inl d
     .exact .inr ⟨by omega,by omega⟩
     .exact .inr ⟨by omega,d.2⟩) (cG (F:=F) (w:=w) ib.o (by omega)),((aa.ah F cN.o).trans q.o (λ_ h=> .inl h)).trans dX (λk d=>d.elim .inl (λh=> .inr (by omega)))⟩
    clear f jy dX;go_wp2;go_ret;have v:R=Y:=(by rw [D.o,I.o,aE Ug.o,aE Ug.o]);rw [v];exact⟨rfl,g.o⟩
  .obtain rfl:j=n:=(by omega);have f:=B.vg hd (by omega);have q:=yh fP;have m:R=(sbring S s a (eK j)).2.fl s:=(by rw [D.o,aA (λh=>h u)]);rw [<-m] at f;clear hd fP m u sB bm;go_wp2_with fail;refine fk f λw5 jy dX=>?_;have qE:=dX.size;have g:Yh (B.ax w5 (more F w w5) p s R.2 c/\aa F w w5):=⟨jy.mono (λk d=>by
    rcases d with d|d
    .exact .inl d
    .exact .inr ⟨by omega,by omega⟩) (cG (F:=F) (w:=w) ib.o (by omega)),((aa.ah F cN.o).trans q.o (λ_ h=> .inl h)).trans dX (λk d=>d.elim .inl (λh=> .inr (by omega)))⟩
   clear f jy dX;go_wp2;go_ret;exact⟨rfl,g.o⟩
namespace B
theorem RS (h:ax w F p s S cR) (f n:Nat) (L:f+2+n<=s) (N:n<=256) (aT:S.puts.length+400<=4000000000000):
  Calls prog 98 #[kw p f n] w λe w'=>e= .returned (iV (cK S s f n).1)/\ax w' (more F w w') p s (cK S s f n).2 cR/\aa F w w':=by
 obtain⟨O,l,D,x⟩:=cM h.ok.hi h.lt ((bi w.heap.size w).alloc (bP _) (.cells #[.pointer (some ⟨p,0,none⟩), .int .i64 f, .int .i64 n] 141)) ((h.boxed (.cells #[.pointer (some ⟨p,0,none⟩), .int .i64 f, .int .i64 n] 141)));have H:=D;clear h D;go_in;go_wp2_with (at_make;refine iH _ rfl _ _ rfl _ 512 512 rfl rfl ?c1 ?c2 ?c3 ?_);case c1=>rfl
 case c2=>omega
 case c3=>omega
 intro w1 aZ aq;have iB:=x.later aq;have dF:w1.heap[w.heap.size]? =some (.cells #[.pointer (some ⟨p,0,none⟩), .int .i64 f, .int .i64 n] 141 (0,0)):=(aq.block _ (by simp)).trans (heap_alloc_new _ _);obtain⟨ef,J,K,Rx⟩:=cM aZ.lt dF aZ iB;have cN:=(H.trans (aq.mono (by simp)));have z:(¬F w.heap.size/\¬F (w.heap.size+1)):=⟨λh=>by have:=l _ h;omega,λh=>by have:=l _ h;omega⟩;have c1:=bD dF;clear aZ aq iB dF;go_wp2;clear c1;go_loopw [4] (λi wr=>∃k:Nat,k<=n+2/\i=iV ((f+k:Nat):Int)/\(bA S s f k).1=0/\ax wr (more F w1 wr) p s (bA S s f k).2 cR/\aa F w1 wr) (λi _=>f+n+2-(intOf i).toNat);case atStart=>exact⟨0,dU _,by simp,rfl,Rx.more,aa.refl _ _⟩
 case round=>
  obtain⟨k,b,rfl,E,hd,fP⟩:=hrel;have dF:=(fP.block _ (by omega) z.1).trans J;have Aa:jX wr 5 (w.heap.size+1) (zs 512):=(fP.block _ (by omega) z.2).trans K;have A:=aL dF;have c1:=bD dF;have c2:=bH dF;obtain⟨G,y,sH,CP,t,u⟩:=kQ (FL p f n wr (by omega) (by omega) (by omega) (by omega)) E hd fP dF Aa;clear E hd fP dF Aa;go_wp2_with fail;refine bE G λM aW=>?_;have dF:=(aW.block _ (aw t)).trans t;have Aa:jX M 5 (w.heap.size+1) (zs 512):=(aW.block _ (aw u)).trans u;obtain⟨cC,gQ,ec,kO,uK⟩:=ey (sH.later aW) ((CP.trans (aa.ah (λ_=>False) aW) (λ_ h=>h.elim))) aW.size CP.size (pI S s f k);clear G aW A c1 c2;have A:=aL dF;by_cases q:k<n+2
  .have bm:((f+k:Nat):Int)<(f:Int)+2+(n:Int):=(by omega);have fJ:=Aa.src (o:=0) (n:=512) (by rw [bB];omega);rw [List.drop_zero,nh (by rw [bB];omega)] at fJ;have m:=D2 cC ((f+k:Nat):Int) (some ⟨w.heap.size+1,0,none⟩) 512 512 (zs 512) fJ (by omega);have C:bA S s f (k+1)=(bA S s f k).2.wr s ((f+k:Nat):Int) 512 (zs 512):=jm y;rw [<-C] at m;clear fJ C dF Aa cC;go_wp2_with fail;refine fk m λr c aV=>?_;have a:=(c.mono (λk b=>by rcases b with (b|b)|b;exact .inl b;exact .inr ⟨b.1,by have:=aV.size;omega⟩;exact .inr ⟨by omega,b.2⟩) (cG (F:=F) (w:=w1) (λk b=>by have:=l k b;omega) (by have:=aV.size;omega)):ax r (more F w1 r) p s (bA S s f (k+1)).2 cR);have Kc:=gQ.trans aV (λj a=>by rcases a with a|a;exact .inl a;exact .inr a.1);have Pp:=a;have I7:=Kc;clear c aV m a Kc;by_cases g:(bA S s f (k+1)).1=0
   .have d:((bA S s f (k+1)).1 == 0)=true:=(by rw [beq_iff_eq];exact g);have I:=g;clear g;go_wp2;go_roundw;case rel=>exact⟨k+1,by omega,by go_num,I,Pp,I7⟩
    case measure=>simp [intOf];omega
   .have d:((bA S s f (k+1)).1 == 0)=false:=(by rw [eG];exact g);have v:cK S s f n=bA S s f (k+1):=by
     have:bA S s f (n+2)=bA S s f (k+1):=gw g (n+2) (by omega);unfold cK;rw [this,aE g]
    clear g;go_wp2;go_ret;rw [v];exact⟨rfl,Pp.from (w:=w) l (by omega) I7.size,(aa.ah F cN).trans I7 (λ_ h=> .inl h)⟩
  .have bm:¬((f+k:Nat):Int)<(f:Int)+2+(n:Int):=(by omega);obtain rfl:k=n+2:=(by omega);have m:=vg cC (by omega);have v:cK S s f n=(bA S s f (n+2)).2.fl s:=by
    unfold cK;rw [aA (by have:=y;omega)]
   have N2:=v;clear v dF Aa cC;go_wp2_with fail;refine fk m λr c aV=>?_;have Pp:=((c.wide (λk b=>by have:=l k b;omega) kO (by have:=aV.size;omega):ax r (more F w1 r) p s ((bA S s f (n+2)).2.fl s).2 cR));have I7:=(gQ.trans aV (λj a=>by rcases a with a|a;exact .inl a;exact .inr a.1):aa F w1 r);clear c aV m;go_wp2;go_ret;rw [N2];exact⟨rfl,Pp.from (w:=w) l (by omega) I7.size,(aa.ah F cN).trans I7 (λ_ h=> .inl h)⟩
theorem Kw (h:ax w F p s S cR) (cZ:S.fC) (f n:Int) (aT:S.puts.length+500<=4000000000000):
  Calls prog 39 #[pQ p,iV f,iV n] w λe w'=>e= .returned (iV (cy S s f n).1)/\ax w' (more F w w') p s (cy S s f n).2 (cR+2)/\aa F w w':=by
 have C:=h.lt;have Dp:¬F w.heap.size:=λi=>by have:=h.lt _ i;omega
 have r:=(aI w (.cells #[.pointer (some ⟨p,0,none⟩), .int .i64 f, .int .i64 n] 141));have rl:(w.alloc (.cells #[.pointer (some ⟨p,0,none⟩), .int .i64 f, .int .i64 n] 141)).heap[w.heap.size]? =some (.cells #[.pointer (some ⟨p,0,none⟩), .int .i64 f, .int .i64 n] 141 (0,0)):=heap_alloc_new _ _;have wI:=h.boxed (.cells #[.pointer (some ⟨p,0,none⟩), .int .i64 f, .int .i64 n] 141);have i:=tI wI f n;have t:=wI;unfold cy;by_cases q:cq S s f n=0
 .rw [aA (by omega)];obtain⟨Y6,a,b,rfl,rfl,oz,aq,aW⟩:=fM q;rw [q] at i;simp only [Int.toNat_natCast];have H:=sm S.take s a b;have apG:S.take.puts.length=S.puts.length:=rfl;have CQ:=((cZ.take).QM s a b);have A:=(λm (cC:ax m F p s S.take cR)=>RS cC a b oz aW (by simpa [DS.take] using (show S.puts.length+400<=4000000000000 by omega)));generalize cK S.take s a b=Y at*;by_cases k:Y.1=0
  .rw [aA (λh=>h k)];have d:(Y.1 == 0)=true:=(by rw [beq_iff_eq];exact k);go_in;go_wp2_with fail;refine bE i λw1 c=>?_;have jA:w1.heap[w.heap.size]? =_:=(c.block _ (by simp)).trans rl;go_wp2_with fail;refine(zB (t.later c)).mono ?_;rintro e m ⟨rfl,cC,aX⟩;have l8:=ew jA aX Dp;have u:=aL l8;have v:=bD l8;have x:=bH l8;have gQ:=((aa.ah F (r.trans (c.mono (by simp)))).trans aX (λ_ h=> .inl h));go_wp2_with fail;refine(A m cC).mono ?_;rintro e z ⟨rfl,g,aV⟩;have tB:=ew l8 aV Dp;obtain⟨u,v,x,ma,ec,kO⟩:=kQ (aL tB) (bD tB) (bH tB) ((gQ.trans aV (λ_ h=> .inl h))) gQ.size aV.size;have D:=Kj g a b 1 0 (by omega) (by omega) (by omega) (by omega) (CQ.now a) (CQ.now (a+1));rw [show ((1:Nat):Int)*4294967296+((0:Nat):Int)=4294967296 by decide] at D;go_wp2_with fail;refine fk D λE y dV=>?_;have vS:=dV.size;have G:=(aF ((y.mono (λk l=>by
    rcases l with (l|l)|l
    .exact .inl l
    .exact .inr ⟨by omega,by omega⟩
    .exact .inr ⟨by omega,l.2⟩) (cG (F:=F) (w:=w) C (by omega)):ax E (more F w E) p s _ (cR+2))) (ma.trans dV (λj o=>by
    rcases o with o|o
    .exact .inl o
    .exact .inr (by omega))))
   go_wp2;go_ret;exact⟨rfl,G⟩
  .rw [aE k];have d:(Y.1 == 0)=false:=(by rw [eG];exact k);go_in;go_wp2_with fail;refine bE i λw1 c=>?_;have jA:w1.heap[w.heap.size]? =_:=(c.block _ (by simp)).trans rl;go_wp2_with fail;refine(zB (t.later c)).mono ?_;rintro e m ⟨rfl,cC,aX⟩;have l8:=ew jA aX Dp;have u:=aL l8;have v:=bD l8;have x:=bH l8;have gQ:=((aa.ah F (r.trans (c.mono (by simp)))).trans aX (λ_ h=> .inl h));go_wp2_with fail;refine(A m cC).mono ?_;rintro e z ⟨rfl,g,aV⟩;have tB:=ew l8 aV Dp;have u:=aL tB;have v:=bD tB;have x:=bH tB;go_wp2;go_ret;exact⟨rfl,aF (((g.from C gQ.size aV.size).le (by omega):ax z (more F w z) p s Y.2 (cR+2))) (gQ.trans aV (λ_ h=> .inl h))⟩
 .rw [aE q];have d:(cq S s f n == 0)=false:=by rw [eG];exact q
  generalize cq S s f n=U at*;go_in;go_wp2_with fail;refine bE i λw1 c=>?_;go_wp2;go_ret;exact⟨rfl,(aF (((t.later c).more (w:=w)).le (by omega:cR<=cR+2)) (aa.ah F (r.trans (c.mono (by simp)))))⟩
end B
theorem oB (m:Nat):Builtin.zeroCells (Value.int .u8 0).cells m=(bs (List.replicate m 0)).toArray:=by
 apply Array.ext';apply List.ext_getElem
 .simp [Builtin.zeroCells,bs,Value.cells]
 .intro i a b;simp [Builtin.zeroCells,bs,Nat.mod_one,Value.cells]
theorem Ea (w:World) (base:Nat) (C:TypeId) (v:Value) (n:Nat) (l:List Int) (m:Nat) (az:w.ownsRow base 5 1 v n (bs l)) (D:n+m<=1000000) (Ac:base<=w.heap.size) (uY:0<n+m):
  ∃g c w',(Builtin.append_ #[22,3] C #[v,iV (m:Int)]).run prog w= .ok (.slice (some (aD g 0)) (n+m) c) w'/\
   w'.ownsRow base 5 1 (.slice (some (aD g 0)) (n+m) c) (n+m) (bs (l ++ List.replicate m 0))/\w.grownBy w' v.ownBlock:=by
 obtain⟨i,q,gv,dr,ec⟩:=info_parts fW;have jT:(bs l).length=n:=by simpa using az.1
 have N3:l.length=n:=by simpa [bs] using jT
 have xL:IntKind.i64.wrap (m:Int)=(m:Int):=by rw [IntKind.wrap_i64];omega
 have h0:¬(m:Int)<0:=by omega
 have d:¬(281474976710656<(m:Int)):=by omega
 have j:∀w,(asInt (iV (m:Int))).run prog w= .ok (m:Int) w:=λ_=>rfl;have kv:(bs (l ++ List.replicate m 0))=bs l ++ bs (List.replicate m 0):=by simp [bs]
 have b:∀(old:Nat) (row:Option Nat),
     (w.drew.alloc (.cells ((bs l).toArray ++ (bs (List.replicate m 0)).toArray ++ Builtin.zeroCells (Value.int .u8 0).cells (grownCap w (n+m) old 5-(n+m))) 5)).ownsRow base 5 1
      (.slice (some (aD w.heap.size 0)) (n+m) (grownCap w (n+m) old 5)) (n+m) (bs (l ++ List.replicate m 0))/\
   w.grownBy (w.drew.alloc (.cells ((bs l).toArray ++ (bs (List.replicate m 0)).toArray ++ Builtin.zeroCells (Value.int .u8 0).cells (grownCap w (n+m) old 5-(n+m))) 5)) row:=by
  intro old row;have vQ:=grownCap_ge w (n+m) old 5;have D4:=grownCap_le_maxLen w (n+m) old 5 (by unfold maxLen;omega);refine⟨⟨by simp [bs,N3], .inr ⟨w.heap.size,_,_,rfl,Ac,heap_alloc_new w.drew _,vQ,D4,?_,?_⟩⟩,⟨rfl,rfl,rfl,by simp,λk s _=>heap_alloc_old w.drew _ s⟩⟩
  .rw [oB];simp [bs,N3];omega
  .rw [kv];simp only [Array.toList_append,Nat.mul_one];exact List.take_left' (by simp [bs,N3])
 rcases az.2 with ⟨rfl,rfl⟩|⟨g,a,cur,rfl,vm,z,XA,D4,nY,adB⟩
 .have vJ:=List.eq_nil_of_length_eq_zero N3;subst vJ;have ZI:m≠0:=by omega
  have r:¬(281474976710656<Builtin.nextslicecap m 0):=by rw [nextslicecap_zero (by omega)];omega
  obtain⟨o,p⟩:=b 0 (Value.ownBlock (.slice none 0 0));simp only [Nat.zero_add] at o p⊢;refine⟨w.heap.size,_,_,?_,o,p⟩;have f:¬9223372036854775807<(m:Int):=by omega
  simp [Builtin.append_,j,sizeOf,typeInfo,zeroValue,q,gv,dr,ec,xL,h0,d,ZI,r,f,Question.forced,run_firstCells_none,newRow,grownCap,oB]
 .have apH:cur.size=a:=by simpa using nY
  have t:cur.toList.take n=bs l:=by simpa using adB
  by_cases ZI:m=0
  .subst ZI;have ai3:∀w,(asInt (iV 0)).run prog w= .ok 0 w:=λ_=>rfl;have ai4:IntKind.i64.wrap 0=0:=(by decide);have bt:(storeCells (aD g n) []).run prog w= .ok () w:=rfl;refine⟨g,a,w,?_,by simpa using az,⟨rfl,rfl,rfl,bP _,λ_ _ _=>rfl⟩⟩;simp [Builtin.append_,ai3,sizeOf,typeInfo,q,dr,ec,ai4,XA,Addr.add_lit,bt]
  by_cases rL:n+m<=a
  .refine⟨g,a,w.setRow g (cur.toList.take n ++ bs (List.replicate m 0) ++ cur.toList.drop (n+m)).toArray,?_,⟨by simp [bs,N3], .inr ⟨g,a,_,rfl,vm,setRow_heap w g cur _ 5 _ z,rL,D4,?_,?_⟩⟩,⟨rfl,rfl,rfl,by simp,λk _ s=>setRow_other w g k _ (λe=>s (by simp [Value.ownBlock,e]))⟩⟩
   .have bt:=run_storeCells_at prog g n 5 (bs (List.replicate m 0)) 0 cur w z (by simp [bs];omega) (by intro u A;obtain⟨x,_,rfl⟩:=List.mem_map.1 A;rfl);simp only [Nat.add_zero] at bt;have BA:(bs (List.replicate m 0)).length=m:=(by simp [bs]);rw [BA] at bt;have y:(Builtin.zeroCells (Value.int .u8 0).cells m).toList=bs (List.replicate m 0):=(by rw [oB]);simp [Builtin.append_,j,sizeOf,typeInfo,zeroValue,q,gv,dr,ec,xL,h0,d,ZI,rL,Addr.add_lit];rw [y,bt];simp [bs]
   .simp [bs];omega
   .rw [t,kv];exact List.take_left' (by simp [bs,N3])
  .have IU:a<n+m:=(by omega);have r:¬(281474976710656<Builtin.nextslicecap (n+m) a):=(by have:=growslice_fits (need:=n+m) (old:=a) (bytes:=1) (by omega) (by omega);omega);obtain⟨o,p⟩:=b a (Value.ownBlock (.slice (some (aD g 0)) n a));refine⟨w.heap.size,_,_,?_,o,p⟩;have f:¬9223372036854775807<(n:Int)+(m:Int):=(by omega);simp [Builtin.append_,j,sizeOf,typeInfo,zeroValue,q,gv,dr,ec,xL,h0,d,ZI,rL,r,f,Question.forced,(run_firstCells_some (P:=prog) w.drew 1 n (aD g 0) n a (bs l) (by omega) (by simpa using (az.cells (g:=g) rfl))),newRow,grownCap,oB]
end Go.Proofs.YtenlkgicpllbhabGreat
