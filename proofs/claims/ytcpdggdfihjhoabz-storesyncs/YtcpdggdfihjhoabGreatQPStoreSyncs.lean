import Derived.Test.YtcpdggdfihjhoabGreatW13

namespace Go.Proofs.YtcpdggdfihjhoabGreat
open Go.Proofs.Tryz
open Go.ChangeShapes Go.WideShapes Go.ChangeAt Go.RowKit Go.Deep
theorem storeSyncs_any (sec:Int) (a:Option Addr) (n c:Nat) (l:List Int) (sa:Option Addr) (sn sc:Nat) (w:World) (hs:Src w a n l) (hl:Bytes l) (hn:n<=140737488355328) (lg:n<=c) (IJ:mK w w.heap.size sa sn) (ie:104*sn<=140737488355328):
  Calls prog 3 #[iV sec, .slice a n c, .slice sa sn sc] w λe w'=>e= .returned (.bool true)/\bW w w':=by
 have hp:=λk1 k2 k3=>qH sec k1 k2 k3 a n c l sa sn sc w hs hl hn lg IJ ie
 clear hs IJ hl
 go_in
 go_wp2_with fail
 refine(hp _ _ _).mono ?_
 rintro e w1 ⟨rfl,hb⟩
 clear hp
 go_wp2
 go_ret
 exact⟨rfl,hb⟩
set_option maxRecDepth 100000 in
theorem lifted_storeSyncs (os:Os) (started:os.Started) (H:Type) (enc:TypeId×Value->H):
  ReturnsInHanded {} Tryz.checked os 3 .any (Rows.storeSyncsSpec.pre6 enc prog Tryz.f3 Rows.storeSyncsRow.domain false) (Rows.storeSyncsSpec.post enc prog Tryz.f3 false true false false):=by
 refine returnsInHanded_of_change_sized (C:=Tryz.checked) yO started (by kernel_rfl) func3
    (ChangeSpec.witness6 (enc:=enc) (C:=Tryz.checked) false ⟨#[], #[iV 0, .slice none 0 0, .slice none 0 0], []⟩ 8 (by kernel_rfl) (by kernel_rfl) (by kernel_rfl) (by kernel_rfl)) ?_
 intro W base args ds gs before wW hW afZ TX _
 have uL:∀(j:Nat) t v,Tryz.f3.params[j]? =some t->args[j]? =some v->Value.okWide prog W .any base t v:=wW
 have eE:(DataW.weightsEach prog (Tryz.f3.params.toList ++ Rows.storeSyncsSpec.plain.varTypes prog) (ds ++ gs)).all (·<=reachBytes)=true:=TX
 have hW':=hW
 obtain⟨p,q,L9,hV,rfl,BD,LV⟩:=hW
 have hA:DataW.TrodAll enc prog W 0 (λ_=>true) true Tryz.f3.params.toList args.toList ds p:=L9
 rw [params3] at hA uL eE
 obtain⟨v0,vs0,d0,ds0,p0,q0,YK,rfl,rfl,h0,r0⟩:=trodAll_cons hA
 obtain⟨v1,vs1,d1,ds1,p1,q1,TY,rfl,rfl,h1,r1⟩:=trodAll_cons r0
 obtain⟨v2,vs2,d2,ds2,p2,q2,TZ,rfl,rfl,h2,r2⟩:=trodAll_cons r1
 obtain⟨rfl,rfl,rfl⟩:=trodAll_nil r2
 obtain rfl:args= #[v0,v1,v2]:=by cases args;simp_all
 obtain⟨rfl,rfl⟩:=trodVars_none hV
 obtain⟨s0,rfl⟩:=okWide_int underlying3 (uL 0 3 v0 rfl rfl)
 obtain⟨a1,T0,T5,rfl⟩:=okWide_slice underlying22 (uL 1 22 v1 rfl rfl)
 obtain⟨a2,T6,cz,rfl⟩:=okWide_slice underlying23 (uL 2 23 v2 rfl rfl)
 have k0:=h0
 have k1:=h1
 have k2:=h2
 have lt0:∀x∈p0,x.block<W.heap.size:=by obtain⟨m,hm⟩:=k0;exact DataW.trod_lt m _ _ _ hm
 have lt1:∀x∈p1,x.block<W.heap.size:=by obtain⟨m,hm⟩:=k1;exact DataW.trod_lt m _ _ _ hm
 have lt2:∀x∈p2,x.block<W.heap.size:=by obtain⟨m,hm⟩:=k2;exact DataW.trod_lt m _ _ _ hm
 have bO:∀n∈d1.weights prog 22,n<=reachBytes:=λn hn=>by
  have:=List.all_eq_true.1 eE n (DataW.weights_mem_each (j:=1) (t:=22) (d:=d1) rfl rfl n hn)
  simpa using this
 have dE:∀n∈d2.weights prog 23,n<=reachBytes:=λn hn=>by
  have:=List.all_eq_true.1 eE n (DataW.weights_mem_each (j:=2) (t:=23) (d:=d2) rfl rfl n hn)
  simpa using this
 obtain⟨fuel1,XJ⟩:=h1
 obtain⟨a,n,c,l,e1,hs,dD,lg,hn⟩:=om XJ bO
 cases e1
 obtain⟨fuel2,Ff⟩:=h2
 obtain⟨sa,sn,sc,e2,IJ,ie⟩:=vT Ff dE
 cases e2
 clear L9 wW
 refine(storeSyncs_any s0 a1 T0 T5 l a2 T6 cz W hs dD hn lg IJ ie).mono λe W' ⟨he,MP⟩=>?_
 subst he
 exact⟨_,rfl,_,_,_, [],_, [],hW',trodAll_mk1 (shut_bool underlying4 _),
    (trodAll_cons_mk (Below.trod laidOut (by kernel_rfl) (of_decide_eq_true (by kernel_rfl)) k0 MP lt0) (trodAll_cons_mk (Below.trod laidOut (by kernel_rfl) (of_decide_eq_true (by kernel_rfl)) k1 MP lt1) (trodAll_cons_mk (Below.trod laidOut (by kernel_rfl) (of_decide_eq_true (by kernel_rfl)) k2 MP lt2) trodAll_mk0))),rfl,MP.frame _,λh=>by cases h⟩
theorem storeSyncs_holds:Rows.StoreSyncsSaid:=
 OpenClaim.holds_of_wide 3 Tryz.f3 rfl rfl rfl rfl rfl rfl rfl ⟨rfl,rfl,rfl,rfl,rfl⟩ rfl rfl rfl rfl rfl (by kernel_rfl) func3 (by kernel_rfl)
    (of_decide_eq_true (by kernel_rfl)) (by unfold Func.isWrapper;first|(rw [aG (by decide+kernel)];kernel_rfl)|(rw [aB (by decide+kernel)];exact⟨rfl,rfl⟩))
    (λos started H enc _=>lifted_storeSyncs os started H enc)
#print axioms storeSyncs_holds
end Go.Proofs.YtcpdggdfihjhoabGreat
