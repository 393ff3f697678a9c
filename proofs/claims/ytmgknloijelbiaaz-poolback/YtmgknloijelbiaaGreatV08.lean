import Derived.Test.YtmgknloijelbiaaGreatW24
import Derived.Test.YtmgknloijelbiaaGreatV01
import Derived.Test.YtmgknloijelbiaaGreatV03
section
namespace Go.Proofs.YtmgknloijelbiaaGreat
open Go.ChangeShapes Go.WideShapes Go.ChangeAt Go.RowKit Go.Deep
theorem cellsGeo:Tryz.prog.cellsOf 23=3:=by kernel_rfl
theorem open_geo {H:Type} {enc:TypeId×Value→H} {W:World} {base:Nat} {spare:Nat→Bool} {held:Bool} {fuel:Nat} {cs:List Value} {y:DataW H×List MemPlace} (h:DataW.trod enc Tryz.prog W base spare held fuel 23 cs=some y):∃s l n,cs= [.int .i64 s, .int .i64 l, .int .i64 n]∧I64 s∧I64 l∧I64 n:=by
 obtain⟨v0,v1,v2,y0,y1,y2,k',rfl,_,g0,g1,g2⟩:=trod3 Tryz.underlying23 cellsGeo rfl rfl rfl cellsInt cellsInt cellsInt h
 obtain⟨n0,q0,_,w0⟩:=DataW.trod_int Tryz.underlying3 g0
 obtain⟨n1,q1,_,w1⟩:=DataW.trod_int Tryz.underlying3 g1
 obtain⟨n2,q2,_,w2⟩:=DataW.trod_int Tryz.underlying3 g2
 simp only [List.cons.injEq,and_true] at q0 q1 q2
 subst q0 q1 q2
 exact⟨n0,n1,n2,rfl,int_wf w0,int_wf w1,int_wf w2⟩
end Go.Proofs.YtmgknloijelbiaaGreat
end
