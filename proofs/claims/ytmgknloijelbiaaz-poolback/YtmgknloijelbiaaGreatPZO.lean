import Derived.Test.YtmgknloijelbiaaGreatV06
namespace Go.Proofs.YtmgknloijelbiaaGreat
open Go.ChangeShapes Go.WideShapes Go.ChangeAt Go.RowKit Go.Deep
def Nums6 (w:World) (B:Nat) (a:Option Addr) (n:Nat):Prop:=(a=none→n=0)∧∀y,a=some y→∀i,i<n→∃b o,y=⟨b,o,none⟩∧b<B∧∃t:Int,w.cell? ⟨b,o+i,none⟩=some (.int .i64 t)∧I64 t
theorem Nums6.far {w w':World} {B:Nat} {a:Option Addr} {n:Nat} (h:Nums6 w B a n) (hb:Below B w w'):Nums6 w' B a n:=by
 refine⟨h.1,fun y hy i hi=>?_⟩
 obtain⟨b,o,rfl,hbB,t,c0,c1⟩:=h.2 y hy i hi
 exact⟨b,o,rfl,hbB,t,(World.cell?_of_block (w:=w) (a:=⟨b,_,none⟩) (hb.block b hbB)).trans c0,c1⟩
theorem open_nums {H:Type} {enc:TypeId×Value→H} {W:World} {base:Nat} {spare:Nat→Bool} {held:Bool} {fuel:Nat} {v:Value} {d:DataW H} {pl:List MemPlace} (h:DataW.trod enc Tryz.prog W base spare held fuel 49 [v]=some (d,pl)) (hw:∀n∈d.weights Tryz.prog 49,n≤reachBytes):
  ∃a n c,v= .slice a n c∧Nums6 W W.heap.size a n∧n≤140737488355328:=by
 have hb8:Tryz.prog.bytesOf 3=8:=by kernel_rfl
 rcases open_ints Tryz.underlying49 Tryz.underlying3 cellsInt h with ⟨hcs,_⟩|⟨x,l,c,zs,hcs,_,hl,hm,hz,hd,hcell,hwz⟩
 ·simp only [List.cons.injEq,and_true] at hcs
  exact⟨none,0,0,hcs,⟨fun _=>rfl,fun x hx=>by cases hx⟩,Nat.zero_le _⟩
 ·simp only [List.cons.injEq,and_true] at hcs
  simp only [Prod.mk.injEq] at hd
  obtain⟨rfl,rfl⟩:=hd
  have hzl:l≤zs.length:=by rw [hz];split <;> omega
  have h1:=hw ((((lits IntKind.i64 (zs.take l):List (DataW H))).length+((lits IntKind.i64 (zs.drop l):List (DataW H))).length)*Tryz.prog.bytesOf 3) (by simp [DataW.weights,Tryz.underlying49])
  rw [hb8] at h1
  simp only [lits,List.length_map,List.length_take,List.length_drop,reachBytes] at h1
  refine⟨some x,l,c,hcs,⟨(fun h=>by cases h),fun y hy i hi=>?_⟩,by omega⟩
  cases hy
  have z0:=hcell 0 (by omega)
  have hzi:i<zs.length:=by omega
  have zi:=hcell i hzi
  have ei:zs.getD i 0=zs[i]:=by simp [List.getD,hzi]
  obtain⟨b,o,spot⟩:=x
  have hspot:spot=none:=by simpa [Addr.add] using World.cell?_spot z0
  subst hspot
  rw [addr_add,ei] at zi
  exact⟨b,o,rfl,World.block_lt_of_cell? _ _ zi,_,zi,int_wf (hwz _ (List.getElem_mem hzi))⟩
end Go.Proofs.YtmgknloijelbiaaGreat
