import Derived.Test.YtkiehemoiapkkaaGreatU06
section
namespace Go.Proofs.YtkiehemoiapkkaaGreat
open Go.ChangeShapes Go.WideShapes Go.ChangeAt Go.RowKit Go.Deep
theorem cellsGeo:Tryz.prog.cellsOf 23=3:=by kernel_rfl
theorem open_geo {H:Type} {enc:TypeId×Value→H} {W:World} {base:Nat} {spare:Nat→Bool} {held:Bool} {fuel:Nat} {cs:List Value} {y:DataW H×List MemPlace} (h:DataW.trod enc Tryz.prog W base spare held fuel 23 cs=some y):∃s l n,cs= [.int .i64 s, .int .i64 l, .int .i64 n]∧I64 s∧I64 l∧I64 n:=by
 obtain⟨v0,v1,v2,y0,y1,y2,k',rfl,_,g0,g1,g2⟩:=trod3 Tryz.underlying23 cellsGeo rfl rfl rfl cellsInt cellsInt cellsInt h
 obtain⟨n0,q0,_,w0⟩:=DataW.trod_int Tryz.underlying3 g0
 obtain⟨n1,q1,_,w1⟩:=DataW.trod_int Tryz.underlying3 g1
 obtain⟨n2,q2,_,w2⟩:=DataW.trod_int Tryz.underlying3 g2
 simp only [List.cons.injEq,and_true] at q0 q1 q2
 subst q0 q1 q2
 exact⟨n0,n1,n2,rfl,int_wf w0,int_wf w1,int_wf w2⟩
def kdBudget (j:Nat):Int:=if j=0 then 1 else if j=1 then 2 else if j=2 then 3 else if j=3 then 4 else if j=4 then 5 else if j=5 then 9 else if j=6 then 10 else if j=7 then 11 else if j=8 then 12 else 13
theorem kdBudget_in:∀kd,inK kdBudget kd 10=true→KdA kd:=fun kd h=>by
 simp [inK,kdBudget] at h
 unfold KdA
 omega
set_option maxRecDepth 20000 in
set_option maxHeartbeats 4000000 in
theorem poolBudget_any (B1 L1 N1 B2 L2 N2:Int) (i1:I64 B1) (i2:I64 L1) (i3:I64 N1) (i4:I64 B2) (i5:I64 L2) (i6:I64 N2) (sa:Option Addr) (sn sc:Nat) (w:World) (hst:Steps6 w w.heap.size sa sn) (hsn:48*sn≤140737488355328):
  Calls Tryz.prog 6 #[.agg #[.int .i64 B1, .int .i64 L1, .int .i64 N1], .agg #[.int .i64 B2, .int .i64 L2, .int .i64 N2], .slice sa sn sc] w fun e w'=>e= .returned (.bool true)∧Below w.heap.size w w':=by
 have b1:=below_box w (.cells #[.int .i64 B1, .int .i64 L1, .int .i64 N1] 23)
 have b2:=below_box (w.alloc (.cells #[.int .i64 B1, .int .i64 L1, .int .i64 N1] 23)) (.cells #[.int .i64 B2, .int .i64 L2, .int .i64 N2] 23)
 have n1:=heap_alloc_new w (.cells #[.int .i64 B1, .int .i64 L1, .int .i64 N1] 23)
 have n2:=heap_alloc_new (w.alloc (.cells #[.int .i64 B1, .int .i64 L1, .int .i64 N1] 23)) (.cells #[.int .i64 B2, .int .i64 L2, .int .i64 N2] 23)
 have z1:(w.alloc (.cells #[.int .i64 B1, .int .i64 L1, .int .i64 N1] 23)).heap.size=w.heap.size+1:=by rw [World.size_alloc]
 have z2:((w.alloc (.cells #[.int .i64 B1, .int .i64 L1, .int .i64 N1] 23)).alloc (.cells #[.int .i64 B2, .int .i64 L2, .int .i64 N2] 23)).heap.size=w.heap.size+2:=by rw [World.size_alloc,z1]
 rw [z1] at n2
 have n1':=(b2.block _ (lt_there n1)).trans n1
 have b12:Below w.heap.size w _:=b1.trans (b2.mono b1.size)
 have g0:=cell_of_block n1' (j:=0) rfl
 have g1:=cell_of_block n1' (j:=1) rfl
 have g2:=cell_of_block n1' (j:=2) rfl
 have g3:=cell_of_block n2 (j:=0) rfl
 have g4:=cell_of_block n2 (j:=1) rfl
 have g5:=cell_of_block n2 (j:=2) rfl
 have b3:=below_box ((w.alloc (.cells #[.int .i64 B1, .int .i64 L1, .int .i64 N1] 23)).alloc (.cells #[.int .i64 B2, .int .i64 L2, .int .i64 N2] 23)) (.cells #[.int .i64 1, .int .i64 2, .int .i64 3, .int .i64 4, .int .i64 5, .int .i64 9, .int .i64 10, .int .i64 11, .int .i64 12, .int .i64 13] 3)
 have n3:=heap_alloc_new ((w.alloc (.cells #[.int .i64 B1, .int .i64 L1, .int .i64 N1] 23)).alloc (.cells #[.int .i64 B2, .int .i64 L2, .int .i64 N2] 23)) (.cells #[.int .i64 1, .int .i64 2, .int .i64 3, .int .i64 4, .int .i64 5, .int .i64 9, .int .i64 10, .int .i64 11, .int .i64 12, .int .i64 13] 3)
 rw [z2] at n3
 have b123:Below w.heap.size w _:=b12.trans (b3.mono b12.size)
 have kp:=playsL_any B1 L1 N1 B2 L2 N2 i1 i2 i3 i4 i5 i6 sa sn sc (w.heap.size+2) 10 kdBudget 10 (by decide) kdBudget_in (((w.alloc (.cells #[.int .i64 B1, .int .i64 L1, .int .i64 N1] 23)).alloc (.cells #[.int .i64 B2, .int .i64 L2, .int .i64 N2] 23)).alloc (.cells #[.int .i64 1, .int .i64 2, .int .i64 3, .int .i64 4, .int .i64 5, .int .i64 9, .int .i64 10, .int .i64 11, .int .i64 12, .int .i64 13] 3)) ((hst.far b123).mono b123.size) hsn (lt_there n3) (fun j hj=>cell_of_block n3 (j:=j) (by
  match j,hj with
  |0,_=>rfl
  |1,_=>rfl
  |2,_=>rfl
  |3,_=>rfl
  |4,_=>rfl
  |5,_=>rfl
  |6,_=>rfl
  |7,_=>rfl
  |8,_=>rfl
  |9,_=>rfl))
 have HB:=Hid.mk b123
 clear i1 i2 i3 i4 i5 i6 b1 b2 n1 n2 n1' b12 b3 n3 b123 hst z1 z2
 go_enter Tryz.func6,Tryz.ntmps6
 go_wp2_with fail
 refine kp.mono ?_
 rintro e w4 ⟨rfl,hb4⟩
 have HE:=Hid.mk (HB.out.trans (hb4.mono HB.out.size))
 clear kp hb4 g0 g1 g2 g3 g4 g5
 go_wp2
 go_ret
 exact⟨rfl,HE.out⟩
end Go.Proofs.YtkiehemoiapkkaaGreat
end
