import Derived.Test.YtkiehemoiapkkaaGreatY12

namespace Go.Proofs.YtkiehemoiapkkaaGreat
open Go.Proofs.Tryz
open Go.ChangeShapes Go.WideShapes Go.ChangeAt Go.RowKit Go.Deep
set_option maxRecDepth 100000 in
theorem lifted_poolDrops (os:Os) (started:os.Started) (H:Type) (enc:TypeId×Value->H):
  ReturnsInHanded {} Tryz.checked os 4 .any (Rows.poolDropsSpec.pre6 enc prog Tryz.f4 Rows.poolDropsRow.domain false) (Rows.poolDropsSpec.post enc prog Tryz.f4 false true false false):=by
 refine returnsInHanded_of_change_sized (C:=Tryz.checked) Bo started (by kernel_rfl) func4
    (ChangeSpec.witness6 (enc:=enc) (C:=Tryz.checked) false ⟨#[], #[.agg #[.int .i64 0, .int .i64 0, .int .i64 0], .agg #[.int .i64 0, .int .i64 0, .int .i64 0], .slice none 0 0], []⟩ 8 (by kernel_rfl) (by kernel_rfl) (by kernel_rfl) (by kernel_rfl)) ?_
 intro W base args ds gs before DU hW adS Vf _
 have vA:∀(j:Nat) t v,Tryz.f4.params[j]? =some t->args[j]? =some v->Value.okWide prog W .any base t v:=DU
 have fy:(DataW.weightsEach prog (Tryz.f4.params.toList ++ Rows.poolDropsSpec.plain.varTypes prog) (ds ++ gs)).all (·<=reachBytes)=true:=Vf
 have hW':=hW
 obtain⟨p,q,Zz,hV,rfl,yq,PY⟩:=hW
 have hA:DataW.TrodAll enc prog W 0 (λ_=>true) true Tryz.f4.params.toList args.toList ds p:=Zz
 rw [params4] at hA vA fy
 obtain⟨v0,vs0,d0,ds0,p0,q0,Vg,rfl,rfl,h0,r0⟩:=trodAll_cons hA
 obtain⟨v1,vs1,d1,ds1,p1,q1,Vh,rfl,rfl,h1,r1⟩:=trodAll_cons r0
 obtain⟨v2,vs2,d2,ds2,p2,q2,Vi,rfl,rfl,h2,r2⟩:=trodAll_cons r1
 obtain⟨rfl,rfl,rfl⟩:=trodAll_nil r2
 obtain rfl:args= #[v0,v1,v2]:=by cases args;simp_all
 obtain⟨rfl,rfl⟩:=trodVars_none hV
 have k0:=h0
 obtain⟨cs0,rfl,_⟩:=okWide_struct underlying23 (vA 0 23 v0 rfl rfl)
 have lt0:∀x∈p0,x.block<W.heap.size:=by obtain⟨m,hm⟩:=k0;exact DataW.trod_lt m _ _ _ hm
 obtain⟨fuel0,KV⟩:=h0
 obtain⟨ZA,ZB,ZC,e0,i0,j0,m0⟩:=oB KV
 obtain rfl:cs0= #[.int .i64 ZA, .int .i64 ZB, .int .i64 ZC]:=Array.ext' e0
 have k1:=h1
 obtain⟨cs1,rfl,_⟩:=okWide_struct underlying23 (vA 1 23 v1 rfl rfl)
 have lt1:∀x∈p1,x.block<W.heap.size:=by obtain⟨m,hm⟩:=k1;exact DataW.trod_lt m _ _ _ hm
 obtain⟨fuel1,Vn⟩:=h1
 obtain⟨ZD,ZE,ZF,e1,i1,j1,m1⟩:=oB Vn
 obtain rfl:cs1= #[.int .i64 ZD, .int .i64 ZE, .int .i64 ZF]:=Array.ext' e1
 have k2:=h2
 obtain⟨a2,Vj,gw,rfl⟩:=okWide_slice underlying24 (vA 2 24 v2 rfl rfl)
 have lt2:∀x∈p2,x.block<W.heap.size:=by obtain⟨m,hm⟩:=k2;exact DataW.trod_lt m _ _ _ hm
 have ed:∀n∈d2.weights prog 24,n<=reachBytes:=λn hn=>by
  have:=List.all_eq_true.1 fy n (DataW.weights_mem_each (j:=2) (t:=24) (d:=d2) rfl rfl n hn)
  simpa using this
 obtain⟨fuel2,IZ⟩:=h2
 obtain⟨_,_,_,e2,dQ,zJ⟩:=wd IZ ed
 cases e2
 clear Zz DU
 refine(xr ZA ZB ZC ZD ZE ZF i0 j0 m0 i1 j1 m1 a2 Vj gw W dQ zJ).mono λe W' ⟨he,Rx⟩=>?_
 subst he
 exact⟨_,rfl,_,_,_, [],_, [],hW',trodAll_mk1 (shut_bool underlying4 _),
    (trodAll_cons_mk (Below.trod laidOut (by kernel_rfl) (of_decide_eq_true (by kernel_rfl)) k0 Rx lt0) (trodAll_cons_mk (Below.trod laidOut (by kernel_rfl) (of_decide_eq_true (by kernel_rfl)) k1 Rx lt1) (trodAll_cons_mk (Below.trod laidOut (by kernel_rfl) (of_decide_eq_true (by kernel_rfl)) k2 Rx lt2) trodAll_mk0))),rfl,Rx.frame _,λh=>by cases h⟩
theorem poolDrops_holds:Rows.PoolDropsSaid:=
 OpenClaim.holds_of_wide 4 Tryz.f4 rfl rfl rfl rfl rfl rfl rfl ⟨rfl,rfl,rfl,rfl,rfl⟩ rfl rfl rfl rfl rfl (by kernel_rfl) func4 (by kernel_rfl)
    (of_decide_eq_true (by kernel_rfl)) (by unfold Func.isWrapper;first|(rw [if_pos (by decide+kernel)];kernel_rfl)|(rw [if_neg (by decide+kernel)];exact⟨rfl,rfl⟩))
    (λos started H enc _=>lifted_poolDrops os started H enc)
#print axioms poolDrops_holds
end Go.Proofs.YtkiehemoiapkkaaGreat
