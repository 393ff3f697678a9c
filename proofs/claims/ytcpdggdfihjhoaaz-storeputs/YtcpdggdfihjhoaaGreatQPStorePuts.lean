import Derived.Test.YtcpdggdfihjhoaaGreatW13

namespace Go.Proofs.YtcpdggdfihjhoaaGreat
open Go.Proofs.Tryz
open Go.ChangeShapes Go.WideShapes Go.ChangeAt Go.RowKit Go.Deep
theorem storePuts_any (sec:Int) (a:Option Addr) (n c:Nat) (l:List Int) (sa:Option Addr) (sn sc:Nat) (w:World) (hs:Src w a n l) (hl:Bytes l) (hn:n<=140737488355328) (iZ:n<=c) (vY:kF w w.heap.size sa sn) (gu:104*sn<=140737488355328):
  Calls prog 7 #[iV sec, .slice a n c, .slice sa sn sc] w λe w'=>e= .returned (.bool true)/\bW w w':=by
 have hp:=λk1 k2 k3=>kX sec k1 k2 k3 a n c l sa sn sc w hs hl hn iZ vY gu
 clear hs vY hl
 go_in
 go_wp2_with fail
 refine(hp _ _ _).mono ?_
 rintro e w1 ⟨rfl,hb⟩
 clear hp
 go_wp2
 go_ret
 exact⟨rfl,hb⟩
set_option maxRecDepth 100000 in
theorem lifted_storePuts (os:Os) (started:os.Started) (H:Type) (enc:TypeId×Value->H):
  ReturnsInHanded {} Tryz.checked os 7 .any (Rows.storePutsSpec.pre6 enc prog Tryz.f7 Rows.storePutsRow.domain false) (Rows.storePutsSpec.post enc prog Tryz.f7 false true false false):=by
 refine returnsInHanded_of_change_sized (C:=Tryz.checked) pL started (by kernel_rfl) func7
    (ChangeSpec.witness6 (enc:=enc) (C:=Tryz.checked) false ⟨#[], #[iV 0, .slice none 0 0, .slice none 0 0], []⟩ 8 (by kernel_rfl) (by kernel_rfl) (by kernel_rfl) (by kernel_rfl)) ?_
 intro W base args ds gs before mO hW Xu Fb _
 have lP:∀(j:Nat) t v,Tryz.f7.params[j]? =some t->args[j]? =some v->Value.okWide prog W .any base t v:=mO
 have ee:(DataW.weightsEach prog (Tryz.f7.params.toList ++ Rows.storePutsSpec.plain.varTypes prog) (ds ++ gs)).all (·<=reachBytes)=true:=Fb
 have Xv:=hW
 obtain⟨p,q,CE,hV,rfl,zz,I4⟩:=hW
 have hA:DataW.TrodAll enc prog W 0 (λ_=>true) true Tryz.f7.params.toList args.toList ds p:=CE
 rw [params7] at hA lP ee
 obtain⟨v0,vs0,d0,ds0,p0,q0,MY,rfl,rfl,h0,r0⟩:=trodAll_cons hA
 obtain⟨v1,vs1,d1,ds1,p1,q1,Fc,rfl,rfl,h1,r1⟩:=trodAll_cons r0
 obtain⟨v2,vs2,d2,ds2,p2,q2,Fd,rfl,rfl,h2,r2⟩:=trodAll_cons r1
 obtain⟨rfl,rfl,rfl⟩:=trodAll_nil r2
 obtain rfl:args= #[v0,v1,v2]:=by cases args;simp_all
 obtain⟨rfl,rfl⟩:=trodVars_none hV
 obtain⟨s0,rfl⟩:=okWide_int underlying3 (lP 0 3 v0 rfl rfl)
 obtain⟨a1,Fe,Ff,rfl⟩:=okWide_slice underlying36 (lP 1 36 v1 rfl rfl)
 obtain⟨a2,Fg,cq,rfl⟩:=okWide_slice underlying22 (lP 2 22 v2 rfl rfl)
 have k0:=h0
 have k1:=h1
 have k2:=h2
 have Xw:∀x∈p0,x.block<W.heap.size:=by obtain⟨m,hm⟩:=k0;exact DataW.trod_lt m _ _ _ hm
 have Xx:∀x∈p1,x.block<W.heap.size:=by obtain⟨m,hm⟩:=k1;exact DataW.trod_lt m _ _ _ hm
 have Xy:∀x∈p2,x.block<W.heap.size:=by obtain⟨m,hm⟩:=k2;exact DataW.trod_lt m _ _ _ hm
 have bL:∀n∈d1.weights prog 36,n<=reachBytes:=λn hn=>by
  have:=List.all_eq_true.1 ee n (DataW.weights_mem_each (j:=1) (t:=36) (d:=d1) rfl rfl n hn)
  simpa using this
 have dD:∀n∈d2.weights prog 22,n<=reachBytes:=λn hn=>by
  have:=List.all_eq_true.1 ee n (DataW.weights_mem_each (j:=2) (t:=22) (d:=d2) rfl rfl n hn)
  simpa using this
 obtain⟨fuel1,PA⟩:=h1
 obtain⟨a,n,c,l,e1,hs,dC,iZ,hn⟩:=j8 PA bL
 cases e1
 obtain⟨fuel2,Be⟩:=h2
 obtain⟨sa,sn,sc,e2,vY,gu⟩:=oe Be dD
 cases e2
 clear CE mO
 refine(storePuts_any s0 a1 Fe Ff l a2 Fg cq W hs dC hn iZ vY gu).mono λe W' ⟨he,yw⟩=>?_
 subst he
 exact⟨_,rfl,_,_,_, [],_, [],Xv,trodAll_mk1 (shut_bool underlying4 _),
    (trodAll_cons_mk (Below.trod laidOut (by kernel_rfl) (of_decide_eq_true (by kernel_rfl)) k0 yw Xw) (trodAll_cons_mk (Below.trod laidOut (by kernel_rfl) (of_decide_eq_true (by kernel_rfl)) k1 yw Xx) (trodAll_cons_mk (Below.trod laidOut (by kernel_rfl) (of_decide_eq_true (by kernel_rfl)) k2 yw Xy) trodAll_mk0))),rfl,yw.frame _,λh=>by cases h⟩
theorem storePuts_holds:Rows.StorePutsSaid:=
 OpenClaim.holds_of_wide 7 Tryz.f7 rfl rfl rfl rfl rfl rfl rfl ⟨rfl,rfl,rfl,rfl,rfl⟩ rfl rfl rfl rfl rfl (by kernel_rfl) func7 (by kernel_rfl)
    (of_decide_eq_true (by kernel_rfl)) (by unfold Func.isWrapper;first|(rw [aG (by decide+kernel)];kernel_rfl)|(rw [aB (by decide+kernel)];exact⟨rfl,rfl⟩))
    (λos started H enc _=>lifted_storePuts os started H enc)
#print axioms storePuts_holds
end Go.Proofs.YtcpdggdfihjhoaaGreat
