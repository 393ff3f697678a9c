import Derived.Test.YtcpdggdfihjhoaaGreatV07

namespace Go.Proofs.YtcpdggdfihjhoaaGreat
open Go.Proofs.Tryz
open Go.ChangeShapes Go.WideShapes Go.ChangeAt Go.RowKit Go.Deep
theorem open_turns {H:Type} {enc:TypeId×Value->H} {W:World} {base:Nat} {spare:Nat->Bool} {held:Bool} {fuel:Nat} {v:Value} {d:DataW H} {pl:List MemPlace} (h:DataW.trod enc prog W base spare held fuel 23 [v]=some (d,pl)) (hw:∀n∈d.weights prog 23,n<=reachBytes):
  ∃a n c,v= .slice a n c/\Ul W W.heap.size a n/\n<=140737488355328:=by
 have AB:prog.bytesOf 3=8:=by kernel_rfl
 rcases open_ints underlying23 underlying3 fD h with ⟨mv,_⟩|⟨x,l,c,zs,mv,_,hl,hm,hz,hd,cU,hwz⟩
 .simp only [List.cons.injEq,and_true] at mv
  exact⟨none,0,0,mv,⟨λ_=>rfl,λx hx=>by cases hx⟩,dL _⟩
 .simp only [List.cons.injEq,and_true] at mv
  simp only [Prod.mk.injEq] at hd
  obtain⟨rfl,rfl⟩:=hd
  have hzl:l<=zs.length:=by rw [hz];split <;> omega
  have h1:=hw ((((lits IntKind.i64 (zs.take l):List (DataW H))).length+((lits IntKind.i64 (zs.drop l):List (DataW H))).length)*prog.bytesOf 3) (by simp [DataW.weights,underlying23])
  rw [AB] at h1
  simp only [lits,jF,oj,List.length_drop,reachBytes] at h1
  refine⟨some x,l,c,mv,⟨(λh=>by cases h),λy hy i hi=>?_⟩,by omega⟩
  cases hy
  have z0:=cU 0 (by omega)
  have zi:=cU i (by omega)
  obtain⟨b,o,spot⟩:=x
  have I4:spot=none:=by simpa [Addr.add] using World.cell?_spot z0
  subst I4
  rw [aN] at zi
  exact⟨b,o,rfl,World.block_lt_of_cell? _ _ zi,_,zi⟩
set_option maxRecDepth 100000 in
theorem lifted_storeApart (os:Os) (started:os.Started) (H:Type) (enc:TypeId×Value->H):
  ReturnsInHanded {} Tryz.checked os 3 .any (Rows.storeApartSpec.pre6 enc prog Tryz.f3 Rows.storeApartRow.domain false) (Rows.storeApartSpec.post enc prog Tryz.f3 false true false false):=by
 refine returnsInHanded_of_change_sized (C:=Tryz.checked) QB started (by kernel_rfl) func3
    (ChangeSpec.witness6 (enc:=enc) (C:=Tryz.checked) false ⟨#[], #[iV 0,iV 0, .slice none 0 0, .slice none 0 0], []⟩ 8 (by kernel_rfl) (by kernel_rfl) (by kernel_rfl) (by kernel_rfl)) ?_
 intro W base args ds gs before YY hW ase ak7 _
 have Un:∀(j:Nat) t v,Tryz.f3.params[j]? =some t->args[j]? =some v->Value.okWide prog W .any base t v:=YY
 have eM:(DataW.weightsEach prog (Tryz.f3.params.toList ++ Rows.storeApartSpec.plain.varTypes prog) (ds ++ gs)).all (·<=reachBytes)=true:=ak7
 have hW':=hW
 obtain⟨p,q,hA0,hV,rfl,xO,PH⟩:=hW
 have hA:DataW.TrodAll enc prog W 0 (λ_=>true) true Tryz.f3.params.toList args.toList ds p:=hA0
 rw [params3] at hA Un eM
 obtain⟨v0,vs0,d0,ds0,p0,q0,an7,rfl,rfl,h0,r0⟩:=trodAll_cons hA
 obtain⟨v1,vs1,d1,ds1,p1,q1,ak8,rfl,rfl,h1,r1⟩:=trodAll_cons r0
 obtain⟨v2,vs2,d2,ds2,p2,q2,ak9,rfl,rfl,h2,r2⟩:=trodAll_cons r1
 obtain⟨v3,vs3,d3,ds3,p3,q3,ala,rfl,rfl,h3,r3⟩:=trodAll_cons r2
 obtain⟨rfl,rfl,rfl⟩:=trodAll_nil r3
 obtain rfl:args= #[v0,v1,v2,v3]:=by cases args;simp_all
 obtain⟨rfl,rfl⟩:=trodVars_none hV
 obtain⟨s0,rfl⟩:=okWide_int underlying3 (Un 0 3 v0 rfl rfl)
 obtain⟨s1,rfl⟩:=okWide_int underlying3 (Un 1 3 v1 rfl rfl)
 obtain⟨a2,alb,cJ,rfl⟩:=okWide_slice underlying22 (Un 2 22 v2 rfl rfl)
 obtain⟨a3,alc,ald,rfl⟩:=okWide_slice underlying23 (Un 3 23 v3 rfl rfl)
 have k0:=h0
 have k1:=h1
 have k2:=h2
 have k3:=h3
 have lt0:∀x∈p0,x.block<W.heap.size:=by obtain⟨m,hm⟩:=k0;exact DataW.trod_lt m _ _ _ hm
 have lt1:∀x∈p1,x.block<W.heap.size:=by obtain⟨m,hm⟩:=k1;exact DataW.trod_lt m _ _ _ hm
 have lt2:∀x∈p2,x.block<W.heap.size:=by obtain⟨m,hm⟩:=k2;exact DataW.trod_lt m _ _ _ hm
 have lt3:∀x∈p3,x.block<W.heap.size:=by obtain⟨m,hm⟩:=k3;exact DataW.trod_lt m _ _ _ hm
 have dN:∀n∈d2.weights prog 22,n<=reachBytes:=λn hn=>by
  have:=List.all_eq_true.1 eM n (DataW.weights_mem_each (j:=2) (t:=22) (d:=d2) rfl rfl n hn)
  simpa using this
 have ec:∀n∈d3.weights prog 23,n<=reachBytes:=λn hn=>by
  have:=List.all_eq_true.1 eM n (DataW.weights_mem_each (j:=3) (t:=23) (d:=d3) rfl rfl n hn)
  simpa using this
 obtain⟨fuel2,wI⟩:=h2
 obtain⟨sa,sn,sc,e2,hsc,i7⟩:=Pz wI dN
 cases e2
 obtain⟨fuel3,M1⟩:=h3
 obtain⟨ta,tn,tc,e3,hts,TD⟩:=open_turns M1 ec
 cases e3
 clear hA0 YY
 refine(Bf s0 s1 a2 alb cJ a3 alc ald W hsc i7 hts TD).mono λe W' ⟨he,bel⟩=>?_
 subst he
 exact⟨_,rfl,_,_,_, [],_, [],hW',trodAll_mk1 (shut_bool underlying4 _),
    (trodAll_cons_mk (Below.trod laidOut (by kernel_rfl) (of_decide_eq_true (by kernel_rfl)) k0 bel lt0) (trodAll_cons_mk (Below.trod laidOut (by kernel_rfl) (of_decide_eq_true (by kernel_rfl)) k1 bel lt1) (trodAll_cons_mk (Below.trod laidOut (by kernel_rfl) (of_decide_eq_true (by kernel_rfl)) k2 bel lt2) (trodAll_cons_mk (Below.trod laidOut (by kernel_rfl) (of_decide_eq_true (by kernel_rfl)) k3 bel lt3) trodAll_mk0)))),rfl,bel.frame _,λh=>by cases h⟩
theorem storeApart_holds:Rows.StoreApartSaid:=
 OpenClaim.holds_of_wide 3 Tryz.f3 rfl rfl rfl rfl rfl rfl rfl ⟨rfl,rfl,rfl,rfl,rfl⟩ rfl rfl rfl rfl rfl (by kernel_rfl) func3 (by kernel_rfl)
    (of_decide_eq_true (by kernel_rfl)) (by unfold Func.isWrapper;first|(rw [aG (by decide+kernel)];kernel_rfl)|(rw [aB (by decide+kernel)];exact⟨rfl,rfl⟩))
    (λos started H enc _=>lifted_storeApart os started H enc)
#print axioms storeApart_holds
end Go.Proofs.YtcpdggdfihjhoaaGreat
