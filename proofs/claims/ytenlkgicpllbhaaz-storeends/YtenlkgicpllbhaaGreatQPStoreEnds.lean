import Derived.Test.YtenlkgicpllbhaaGreatW25

namespace Go.Proofs.YtenlkgicpllbhaaGreat
open Go.Proofs.Tryz
open Go.ChangeShapes Go.WideShapes Go.ChangeAt Go.RowKit Go.Deep
theorem storeEnds_any (sec:Int) (a:Option Addr) (n c:Nat) (l:List Int) (sa:Option Addr) (sn sc:Nat) (w:World) (hs:Src w a n l) (hl:Bytes l) (hn:n<=140737488355328) (iS:n<=c) (vF:kt w w.heap.size sa sn) (fZ:104*sn<=140737488355328):
  Calls prog 8 #[iV sec, .slice a n c, .slice sa sn sc] w λe w'=>e= .returned (.bool true)/\bW w w':=by
 have hp:=λk1 k2 k3=>kM sec k1 k2 k3 a n c l sa sn sc w hs hl hn iS vF fZ
 clear hs vF hl
 go_in
 go_wp2_with fail
 refine(hp _ _ _).mono ?_
 rintro e w1 ⟨rfl,hb⟩
 clear hp
 go_wp2
 go_ret
 exact⟨rfl,hb⟩
set_option maxRecDepth 100000 in
theorem lifted_storeEnds (os:Os) (started:os.Started) (H:Type) (enc:TypeId×Value->H):
  ReturnsInHanded {} Tryz.checked os 8 .any (Rows.storeEndsSpec.pre6 enc prog Tryz.f8 Rows.storeEndsRow.domain false) (Rows.storeEndsSpec.post enc prog Tryz.f8 false true false false):=by
 refine returnsInHanded_of_change_sized (C:=Tryz.checked) px started (by kernel_rfl) func8
    (ChangeSpec.witness6 (enc:=enc) (C:=Tryz.checked) false ⟨#[], #[iV 0, .slice none 0 0, .slice none 0 0], []⟩ 8 (by kernel_rfl) (by kernel_rfl) (by kernel_rfl) (by kernel_rfl)) ?_
 intro W base args ds gs before mF hW WN ES _
 have lC:∀(j:Nat) t v,Tryz.f8.params[j]? =some t->args[j]? =some v->Value.okWide prog W .any base t v:=mF
 have ef:(DataW.weightsEach prog (Tryz.f8.params.toList ++ Rows.storeEndsSpec.plain.varTypes prog) (ds ++ gs)).all (·<=reachBytes)=true:=ES
 have WO:=hW
 obtain⟨p,q,Cp,hV,rfl,zi,IR⟩:=hW
 have hA:DataW.TrodAll enc prog W 0 (λ_=>true) true Tryz.f8.params.toList args.toList ds p:=Cp
 rw [params8] at hA lC ef
 obtain⟨v0,vs0,d0,ds0,p0,q0,MC,rfl,rfl,h0,r0⟩:=trodAll_cons hA
 obtain⟨v1,vs1,d1,ds1,p1,q1,ET,rfl,rfl,h1,r1⟩:=trodAll_cons r0
 obtain⟨v2,vs2,d2,ds2,p2,q2,EU,rfl,rfl,h2,r2⟩:=trodAll_cons r1
 obtain⟨rfl,rfl,rfl⟩:=trodAll_nil r2
 obtain rfl:args= #[v0,v1,v2]:=by cases args;simp_all
 obtain⟨rfl,rfl⟩:=trodVars_none hV
 obtain⟨s0,rfl⟩:=okWide_int underlying3 (lC 0 3 v0 rfl rfl)
 obtain⟨a1,EV,EW,rfl⟩:=okWide_slice underlying36 (lC 1 36 v1 rfl rfl)
 obtain⟨a2,EX,bZ,rfl⟩:=okWide_slice underlying22 (lC 2 22 v2 rfl rfl)
 have k0:=h0
 have k1:=h1
 have k2:=h2
 have WP:∀x∈p0,x.block<W.heap.size:=by obtain⟨m,hm⟩:=k0;exact DataW.trod_lt m _ _ _ hm
 have WQ:∀x∈p1,x.block<W.heap.size:=by obtain⟨m,hm⟩:=k1;exact DataW.trod_lt m _ _ _ hm
 have WR:∀x∈p2,x.block<W.heap.size:=by obtain⟨m,hm⟩:=k2;exact DataW.trod_lt m _ _ _ hm
 have bN:∀n∈d1.weights prog 36,n<=reachBytes:=λn hn=>by
  have:=List.all_eq_true.1 ef n (DataW.weights_mem_each (j:=1) (t:=36) (d:=d1) rfl rfl n hn)
  simpa using this
 have dw:∀n∈d2.weights prog 22,n<=reachBytes:=λn hn=>by
  have:=List.all_eq_true.1 ef n (DataW.weights_mem_each (j:=2) (t:=22) (d:=d2) rfl rfl n hn)
  simpa using this
 obtain⟨fuel1,Pc⟩:=h1
 obtain⟨a,n,c,l,e1,hs,cZ,iS,hn⟩:=jV Pc bN
 cases e1
 obtain⟨fuel2,A7⟩:=h2
 obtain⟨sa,sn,sc,e2,vF,fZ⟩:=nQ A7 dw
 cases e2
 clear Cp mF
 refine(storeEnds_any s0 a1 EV EW l a2 EX bZ W hs cZ hn iS vF fZ).mono λe W' ⟨he,xT⟩=>?_
 subst he
 exact⟨_,rfl,_,_,_, [],_, [],WO,trodAll_mk1 (shut_bool underlying4 _),
    (trodAll_cons_mk (Below.trod laidOut (by kernel_rfl) (of_decide_eq_true (by kernel_rfl)) k0 xT WP) (trodAll_cons_mk (Below.trod laidOut (by kernel_rfl) (of_decide_eq_true (by kernel_rfl)) k1 xT WQ) (trodAll_cons_mk (Below.trod laidOut (by kernel_rfl) (of_decide_eq_true (by kernel_rfl)) k2 xT WR) trodAll_mk0))),rfl,xT.frame _,λh=>by cases h⟩
theorem storeEnds_holds:Rows.StoreEndsSaid:=
 OpenClaim.holds_of_wide 8 Tryz.f8 rfl rfl rfl rfl rfl rfl rfl ⟨rfl,rfl,rfl,rfl,rfl⟩ rfl rfl rfl rfl rfl (by kernel_rfl) func8 (by kernel_rfl)
    (of_decide_eq_true (by kernel_rfl)) (by unfold Func.isWrapper;first|(rw [aE (by decide+kernel)];kernel_rfl)|(rw [aA (by decide+kernel)];exact⟨rfl,rfl⟩))
    (λos started H enc _=>lifted_storeEnds os started H enc)
#print axioms storeEnds_holds
end Go.Proofs.YtenlkgicpllbhaaGreat
