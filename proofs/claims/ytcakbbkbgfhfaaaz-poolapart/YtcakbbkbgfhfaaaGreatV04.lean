import Derived.Test.YtcakbbkbgfhfaaaGreatW27
import Derived.Test.YtcakbbkbgfhfaaaGreatV03
section
namespace Go.Proofs.YtcakbbkbgfhfaaaGreat
open Go.ChangeShapes Go.WideShapes Go.ChangeAt Go.RowKit Go.Deep
theorem bytesAct:Tryz.prog.bytesOf 53=16:=by kernel_rfl
theorem cellsAct:Tryz.prog.cellsOf 53=4:=by kernel_rfl
theorem cellsBool:Tryz.prog.cellsOf 4=1:=by kernel_rfl
def Acts6 (w:World) (B:Nat) (a:Option Addr) (n:Nat):Prop:=
   (a=none→n=0)∧∀x,a=some x→∀i,i<n→∃b o,x=⟨b,o,none⟩∧b<B∧∃(s l y:Bool) (m:Int),w.cell? ⟨b,o+i*4,none⟩=some (.bool s)∧w.cell? ⟨b,o+i*4+1,none⟩=some (.bool l)∧w.cell? ⟨b,o+i*4+2,none⟩=some (.bool y)∧w.cell? ⟨b,o+i*4+3,none⟩=some (.int .i64 m)∧I64 m
theorem Acts6.far {w w':World} {B:Nat} {a:Option Addr} {n:Nat} (h:Acts6 w B a n) (hb:Below B w w'):Acts6 w' B a n:=
   ⟨h.1,fun x hx i hi=>by
  obtain⟨b,o,rfl,h0,s,l,y,m,h1,h2,h3,h3',h4⟩:=h.2 x hx i hi
  have e:=hb.block b h0
  exact⟨b,o,rfl,h0,s,l,y,m,(World.cell?_of_block (w:=w) (a:=⟨b,_,none⟩) e).trans h1,(World.cell?_of_block (w:=w) (a:=⟨b,_,none⟩) e).trans h2,(World.cell?_of_block (w:=w) (a:=⟨b,_,none⟩) e).trans h3,(World.cell?_of_block (w:=w) (a:=⟨b,_,none⟩) e).trans h3',h4⟩⟩
section
variable {H:Type} {enc:TypeId×Value→H} {W:World} {base:Nat} {spare:Nat→Bool} {held:Bool}
theorem trod4 {P:Program} {e:TypeId} {f0 f1 f2 f3:Field} {n:Nat} {cs:List Value} {x:DataW H×List MemPlace} (he:P.underlying e=some (.struct #[f0,f1,f2,f3])) (ce:P.cellsOf e=4) (o0:f0.offset=0) (o1:f1.offset=1) (o2:f2.offset=2) (o3:f3.offset=3)
    (c0:P.cellsOf f0.type=1) (c1:P.cellsOf f1.type=1) (c2:P.cellsOf f2.type=1) (c3:P.cellsOf f3.type=1) (h:DataW.trod enc P W base spare held n e cs=some x):
  ∃v0 v1 v2 v3 y0 y1 y2 y3 k,cs= [v0,v1,v2,v3]∧x.1= .agg [y0.1,y1.1,y2.1,y3.1]∧DataW.trod enc P W base spare held k f0.type [v0]=some y0∧DataW.trod enc P W base spare held k f1.type [v1]=some y1∧DataW.trod enc P W base spare held k f2.type [v2]=some y2∧DataW.trod enc P W base spare held k f3.type [v3]=some y3:=by
 obtain⟨xs,k,_,hxy,hlen,hxl,hf⟩:=DataW.trod_struct he h
 rw [ce] at hlen
 match xs,hxl,cs,hlen with
 | [y0,y1,y2,y3],_, [v0,v1,v2,v3],_=>
  have g0:=hf 0 f0 rfl
  have g1:=hf 1 f1 rfl
  have g2:=hf 2 f2 rfl
  have g3:=hf 3 f3 rfl
  simp [o0,o1,o2,o3,c0,c1,c2,c3] at g0 g1 g2 g3
  exact⟨v0,v1,v2,v3,y0,y1,y2,y3,k,rfl,by rw [hxy];rfl,g0,g1,g2,g3⟩
theorem open_acts {fuel:Nat} {v:Value} {d:DataW H} {pl:List MemPlace} (h:DataW.trod enc Tryz.prog W base spare held fuel 46 [v]=some (d,pl)) (hw:∀n∈d.weights Tryz.prog 46,n≤reachBytes):
  ∃a n c,v= .slice a n c∧Acts6 W W.heap.size a n∧16*n≤140737488355328:=by
 rcases open_slice Tryz.underlying46 h with ⟨hcs,_⟩|⟨x,len,cap,m,k,D,Pl,hcs,_,hl,hm,hmm,hd,hx⟩
 ·simp only [List.cons.injEq,and_true] at hcs
  exact⟨none,0,0,hcs,⟨fun _=>rfl,(fun x hx=>by cases hx)⟩,Nat.zero_le _⟩
 ·simp only [List.cons.injEq,and_true] at hcs
  simp only [Prod.mk.injEq] at hd
  replace hd:=hd.1
  subst hd
  have hlm:len≤m:=by rw [hmm];split <;> omega
  have h1:=hw ((((List.range len).map D).length+((List.range (m-len)).map fun j=>D (len+j)).length)*Tryz.prog.bytesOf 53) (by simp [DataW.weights,Tryz.underlying46])
  rw [bytesAct] at h1
  simp only [List.length_map,List.length_range,reachBytes] at h1
  rw [cellsAct] at hx
  refine⟨some x,len,cap,hcs,⟨(fun h=>by cases h),fun y hy i hi=>?_⟩,by omega⟩
  cases hy
  obtain⟨cs',e1,e2⟩:=hx i (by omega)
  obtain⟨_,hlen,hcell⟩:=World.cells?_some e1
  obtain⟨v0,v1,v2,v3,y0,y1,y2,y3,k',rfl,_,g0,g1,g2,g3⟩:=trod4 Tryz.underlying53 cellsAct rfl rfl rfl rfl cellsBool cellsBool cellsBool cellsInt e2
  obtain⟨n0,q0,_⟩:=DataW.trod_bool Tryz.underlying4 g0
  obtain⟨n1,q1,_⟩:=DataW.trod_bool Tryz.underlying4 g1
  obtain⟨n2,q2,_⟩:=DataW.trod_bool Tryz.underlying4 g2
  obtain⟨n3,q3,_,w3⟩:=DataW.trod_int Tryz.underlying3 g3
  simp only [List.cons.injEq,and_true] at q0 q1 q2 q3
  subst q0 q1 q2 q3
  have c0:=hcell 0 (by omega)
  have c1:=hcell 1 (by omega)
  have c2:=hcell 2 (by omega)
  have c3:=hcell 3 (by omega)
  rw [add_add] at c0 c1 c2 c3
  obtain⟨cs0,z1,z2⟩:=hx 0 (by omega)
  obtain⟨u0,u1,u2,u3,_,_,_,_,_,rfl,_⟩:=trod4 Tryz.underlying53 cellsAct rfl rfl rfl rfl cellsBool cellsBool cellsBool cellsInt z2
  obtain⟨_,_,zcell⟩:=World.cells?_some z1
  have z0:=zcell 0 (by omega)
  rw [add_add] at z0
  obtain⟨b,o,spot⟩:=x
  have hspot:spot=none:=by simpa [Addr.add] using World.cell?_spot z0
  subst hspot
  rw [addr_add] at c0 c1 c2 c3
  simp at c0 c1 c2 c3
  exact⟨b,o,rfl,World.block_lt_of_cell? _ _ c0,n0,n1,n2,n3,c0,by simpa [Nat.add_assoc] using c1,by simpa [Nat.add_assoc] using c2,by simpa [Nat.add_assoc] using c3,int_wf w3⟩
end
end Go.Proofs.YtcakbbkbgfhfaaaGreat
end
