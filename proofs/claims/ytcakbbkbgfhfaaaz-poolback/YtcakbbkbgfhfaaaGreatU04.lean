import Derived.Test.YtcakbbkbgfhfaaaGreatW27
import Derived.Test.YtcakbbkbgfhfaaaGreatU03
import Derived.Test.YtcakbbkbgfhfaaaGreatU02
section
namespace Go.Proofs.YtcakbbkbgfhfaaaGreat
open Go.ChangeShapes Go.WideShapes Go.ChangeAt Go.RowKit Go.Deep
theorem bytesAct:Tryz.prog.bytesOf 53=16:=by kernel_rfl
theorem cellsAct:Tryz.prog.cellsOf 53=4:=by kernel_rfl
theorem cellsBool:Tryz.prog.cellsOf 4=1:=by kernel_rfl
def Acts6 (w:World) (B:Nat) (a:Option Addr) (n:Nat):Prop:=
   (a=none→n=0)∧∀x,a=some x→∀i,i<n→∃b o,x=⟨b,o,none⟩∧b<B∧∃(s l y:Bool) (m:Int),w.cell? ⟨b,o+i*4,none⟩=some (.bool s)∧w.cell? ⟨b,o+i*4+1,none⟩=some (.bool l)∧w.cell? ⟨b,o+i*4+2,none⟩=some (.bool y)∧w.cell? ⟨b,o+i*4+3,none⟩=some (.int .i64 m)∧I64 m
theorem Acts6.far {w w':World} {B:Nat} {a:Option Addr} {n:Nat} (h:Acts6 w B a n) (hb:Below B w w'):Acts6 w' B a n:=
   ⟨h.1,fun x hx i hi=>by
  obtain⟨b,o,rfl,h0,s,l,y,m,h1,h2,h3,h3',h4⟩:=h.2 x hx i hi
  have e:=hb.block b h0
  exact⟨b,o,rfl,h0,s,l,y,m,(World.cell?_of_block (w:=w) (a:=⟨b,_,none⟩) e).trans h1,(World.cell?_of_block (w:=w) (a:=⟨b,_,none⟩) e).trans h2,(World.cell?_of_block (w:=w) (a:=⟨b,_,none⟩) e).trans h3,(World.cell?_of_block (w:=w) (a:=⟨b,_,none⟩) e).trans h3',h4⟩⟩
section
variable {H:Type} {enc:TypeId×Value→H} {W:World} {base:Nat} {spare:Nat→Bool} {held:Bool}
theorem trod4 {P:Program} {e:TypeId} {f0 f1 f2 f3:Field} {n:Nat} {cs:List Value} {x:DataW H×List MemPlace} (he:P.underlying e=some (.struct #[f0,f1,f2,f3])) (ce:P.cellsOf e=4) (o0:f0.offset=0) (o1:f1.offset=1) (o2:f2.offset=2) (o3:f3.offset=3)
    (c0:P.cellsOf f0.type=1) (c1:P.cellsOf f1.type=1) (c2:P.cellsOf f2.type=1) (c3:P.cellsOf f3.type=1) (h:DataW.trod enc P W base spare held n e cs=some x):
  ∃v0 v1 v2 v3 y0 y1 y2 y3 k,cs= [v0,v1,v2,v3]∧x.1= .agg [y0.1,y1.1,y2.1,y3.1]∧DataW.trod enc P W base spare held k f0.type [v0]=some y0∧DataW.trod enc P W base spare held k f1.type [v1]=some y1∧DataW.trod enc P W base spare held k f2.type [v2]=some y2∧DataW.trod enc P W base spare held k f3.type [v3]=some y3:=by
 obtain⟨xs,k,_,hxy,hlen,hxl,hf⟩:=DataW.trod_struct he h
 rw [ce] at hlen
 match xs,hxl,cs,hlen with
 | [y0,y1,y2,y3],_, [v0,v1,v2,v3],_=>
  have g0:=hf 0 f0 rfl
  have g1:=hf 1 f1 rfl
  have g2:=hf 2 f2 rfl
  have g3:=hf 3 f3 rfl
  simp [o0,o1,o2,o3,c0,c1,c2,c3] at g0 g1 g2 g3
  exact⟨v0,v1,v2,v3,y0,y1,y2,y3,k,rfl,by rw [hxy];rfl,g0,g1,g2,g3⟩
theorem open_acts {fuel:Nat} {v:Value} {d:DataW H} {pl:List MemPlace} (h:DataW.trod enc Tryz.prog W base spare held fuel 46 [v]=some (d,pl)) (hw:∀n∈d.weights Tryz.prog 46,n≤reachBytes):
  ∃a n c,v= .slice a n c∧Acts6 W W.heap.size a n∧16*n≤140737488355328:=by
 rcases open_slice Tryz.underlying46 h with ⟨hcs,_⟩|⟨x,len,cap,m,k,D,Pl,hcs,_,hl,hm,hmm,hd,hx⟩
 ·simp only [List.cons.injEq,and_true] at hcs
  exact⟨none,0,0,hcs,⟨fun _=>rfl,(fun x hx=>by cases hx)⟩,Nat.zero_le _⟩
 ·simp only [List.cons.injEq,and_true] at hcs
  simp only [Prod.mk.injEq] at hd
  replace hd:=hd.1
  subst hd
  have hlm:len≤m:=by rw [hmm];split <;> omega
  have h1:=hw ((((List.range len).map D).length+((List.range (m-len)).map fun j=>D (len+j)).length)*Tryz.prog.bytesOf 53) (by simp [DataW.weights,Tryz.underlying46])
  rw [bytesAct] at h1
  simp only [List.length_map,List.length_range,reachBytes] at h1
  rw [cellsAct] at hx
  refine⟨some x,len,cap,hcs,⟨(fun h=>by cases h),fun y hy i hi=>?_⟩,by omega⟩
  cases hy
  obtain⟨cs',e1,e2⟩:=hx i (by omega)
  obtain⟨_,hlen,hcell⟩:=World.cells?_some e1
  obtain⟨v0,v1,v2,v3,y0,y1,y2,y3,k',rfl,_,g0,g1,g2,g3⟩:=trod4 Tryz.underlying53 cellsAct rfl rfl rfl rfl cellsBool cellsBool cellsBool cellsInt e2
  obtain⟨n0,q0,_⟩:=DataW.trod_bool Tryz.underlying4 g0
  obtain⟨n1,q1,_⟩:=DataW.trod_bool Tryz.underlying4 g1
  obtain⟨n2,q2,_⟩:=DataW.trod_bool Tryz.underlying4 g2
  obtain⟨n3,q3,_,w3⟩:=DataW.trod_int Tryz.underlying3 g3
  simp only [List.cons.injEq,and_true] at q0 q1 q2 q3
  subst q0 q1 q2 q3
  have c0:=hcell 0 (by omega)
  have c1:=hcell 1 (by omega)
  have c2:=hcell 2 (by omega)
  have c3:=hcell 3 (by omega)
  rw [add_add] at c0 c1 c2 c3
  obtain⟨cs0,z1,z2⟩:=hx 0 (by omega)
  obtain⟨u0,u1,u2,u3,_,_,_,_,_,rfl,_⟩:=trod4 Tryz.underlying53 cellsAct rfl rfl rfl rfl cellsBool cellsBool cellsBool cellsInt z2
  obtain⟨_,_,zcell⟩:=World.cells?_some z1
  have z0:=zcell 0 (by omega)
  rw [add_add] at z0
  obtain⟨b,o,spot⟩:=x
  have hspot:spot=none:=by simpa [Addr.add] using World.cell?_spot z0
  subst hspot
  rw [addr_add] at c0 c1 c2 c3
  simp at c0 c1 c2 c3
  exact⟨b,o,rfl,World.block_lt_of_cell? _ _ c0,n0,n1,n2,n3,c0,by simpa [Nat.add_assoc] using c1,by simpa [Nat.add_assoc] using c2,by simpa [Nat.add_assoc] using c3,int_wf w3⟩
end
end Go.Proofs.YtcakbbkbgfhfaaaGreat
end

section
namespace Go.Proofs.YtcakbbkbgfhfaaaGreat
open Go.RowKit Go.Maps
theorem PF.qf2 {G:SG} {S:DS} {T:TG} (h:PF G S T (bSt G.y).first 0) (hy:YOk G.y):QF G S T [] []:=by
 refine⟨h.bad,h.en,h.ks,KN.empty (bSt_ok hy) (fun j h1 h2=>?_),KN.empty (nSt_ok hy) (fun j h1 h2=>?_)⟩
 ·have h3:=(bSt_ok hy).hi
  have h4:(bSt G.y).zero=0:=rfl
  rw [h.s0,ebm_bit _ (by omega)]
  simp
  omega
 ·rw [h.s1,ebm_bit _ (by omega)]
  simp
theorem TXlt_le {B B':Nat} {F:Nat→Prop} {q l m t n:Nat} (h:TXlt B F q l m t n) (hb:B≤B'):TXlt B' F q l m t n:=by
 obtain⟨o1,o2,o3,o4,o5,o6⟩:=h
 exact⟨fun k hk=>Nat.lt_of_lt_of_le (o1 k hk) hb,by omega,by omega,by omega,by omega,by omega⟩
theorem TX.maps {w:World} {F:Nat→Prop} {p s cR q l m t n:Nat} {S:DS} {G:SG} {T:TG} (h:TX w F p s cR q l m t n S G T):(T.maps G S).length=1024:=by
 have h2:=h.yk.b2
 unfold TG.maps
 rw [List.length_append,h.len 0 (by omega),h.len 1 (by omega)]
theorem back_same {w:World} {a b c d:Nat} {l l':List Int} (h:RowAt w 5 a c (bs l)) (h':RowAt w 5 b d (bs l')) (hl:l.length=1024) (hl':l'.length=1024):Calls Tryz.prog 18 #[.slice (some ⟨a,0,none⟩) 1024 c, .slice (some ⟨b,0,none⟩) 1024 d] w fun e w'=>e= .returned (.bool (decide (l=l')))∧Below w.heap.size w w':=
 same6_any a 0 b 0 1024 c d l l' w (by omega) hl hl' (fun i hi=>by rw [Nat.zero_add];exact h.get (by omega)) (fun i hi=>by rw [Nat.zero_add];exact h'.get (by omega))
def ApJ (w0 wr:World) (g:GEO) (F:Nat→Prop) (B0 p q l m t n a1:Nat) (S:DS) (L:LG) (K7 K13:Nat) (vb vn:Value) (tb tn:List Nat) (T:TG):Prop:=
 ∃cR,TX wr F p g.s cR q l m t n S ⟨lyG g,L, [],true⟩ T∧PoolAt wr F a1 t n∧IL wr (fun j=>B0≤j) vb tb∧IL wr (fun j=>B0≤j) vn tn∧(∀j,vb.ownBlock=some j→vn.ownBlock≠some j)∧wr.heap[K7]? =some (.cells #[.int .i64 (g.s:Int), .int .i64 (g.l:Int), .int .i64 (g.n:Int)] 31 (0,0))∧wr.heap[K13]? =some (.cells #[vb,vn] 51 (0,0))∧Below w0.heap.size w0 wr
def Hd7 (w':World) (g:GEO) (K7 b o j:Nat) (dr nd wh:Bool) (at_:Int):Prop:=
 w'.cell? ⟨K7,0,none⟩=some (.int .i64 (g.s:Int))∧w'.cell? ⟨K7,1,none⟩=some (.int .i64 (g.l:Int))∧w'.cell? ⟨K7,2,none⟩=some (.int .i64 (g.n:Int))∧w'.cell? ⟨b,o+j*4,none⟩=some (.bool dr)∧w'.cell? ⟨b,o+j*4+1,none⟩=some (.bool nd)∧w'.cell? ⟨b,o+j*4+2,none⟩=some (.bool wh)∧w'.cell? ⟨b,o+j*4+3,none⟩=some (.int .i64 at_)
section
variable {w0 wr w6 w':World} {g:GEO} {F:Nat→Prop} {B0 B1 p q l m t n a1 c6 b o j:Nat} {S:DS} {L:LG} {K7 K13:Nat} {vb vn vb2 vn2:Value} {tb tn tb2 tn2:List Nat} {T T2:TG} {dr nd wh:Bool} {at_:Int}
theorem Hd7.of (h:Hd7 wr g K7 b o j dr nd wh at_) (h7:w'.heap[K7]? =some (.cells #[.int .i64 (g.s:Int), .int .i64 (g.l:Int), .int .i64 (g.n:Int)] 31 (0,0))) (hb:w'.heap[b]? =wr.heap[b]?):Hd7 w' g K7 b o j dr nd wh at_:=
   ⟨cell_of_block h7 (j:=0) rfl,cell_of_block h7 (j:=1) rfl,cell_of_block h7 (j:=2) rfl,(World.cell?_of_block (a:=⟨b,_,none⟩) hb).trans h.2.2.2.1,(World.cell?_of_block (a:=⟨b,_,none⟩) hb).trans h.2.2.2.2.1,(World.cell?_of_block (a:=⟨b,_,none⟩) hb).trans h.2.2.2.2.2.1,(World.cell?_of_block (a:=⟨b,_,none⟩) hb).trans h.2.2.2.2.2.2⟩
theorem ApJ.later (h:ApJ w0 wr g F B0 p q l m t n a1 S L K7 K13 vb vn tb tn T) (hb:Below wr.heap.size wr w'):ApJ w0 w' g F B0 p q l m t n a1 S L K7 K13 vb vn tb tn T:=by
 obtain⟨cR,hx,hp,hib,hin,hsep,u7,u13,hbw⟩:=h
 exact⟨cR,hx.later hb,hp.later hb,hib.later hb,hin.later hb,hsep,(hb.block _ (lt_there u7)).trans u7,(hb.block _ (lt_there u13)).trans u13,hbw.trans (hb.mono hbw.size)⟩
theorem puts6 {K:Nat} {x y:Value} (u:wr.heap[K]? =some (.cells #[vb,vn] 51 (0,0))):
  wr.cell? ⟨K,0,none⟩=some vb∧wr.frozen? ⟨K,0,none⟩=false∧(wr.setCell ⟨K,0,none⟩ x).cell? ⟨K,1,none⟩=some vn∧(wr.setCell ⟨K,0,none⟩ x).frozen? ⟨K,1,none⟩=false∧((wr.setCell ⟨K,0,none⟩ x).setCell ⟨K,1,none⟩ y).heap[K]? =some (.cells #[x,y] 51 (0,0))∧Keeps (fun j=>j=K) wr ((wr.setCell ⟨K,0,none⟩ x).setCell ⟨K,1,none⟩ y):=by
 have r4:(wr.setCell ⟨K,0,none⟩ x).heap[K]? =some (.cells #[x,vn] 51 (0,0)):=heap_setCell_same _ _ _ _ _ _ u
 have r5:((wr.setCell ⟨K,0,none⟩ x).setCell ⟨K,1,none⟩ y).heap[K]? =some (.cells #[x,y] 51 (0,0)):=heap_setCell_same _ _ _ _ _ _ r4
 have k4:=Keeps.setCell (F:=fun k=>k=K) wr (p:=⟨K,0,none⟩) rfl x
 have k5:=Keeps.setCell (F:=fun k=>k=K) (wr.setCell ⟨K,0,none⟩ x) (p:=⟨K,1,none⟩) rfl y
 exact⟨cell_of_block u (j:=0) rfl,frozen_of_block u 0,cell_of_block r4 (j:=1) rfl,frozen_of_block r4 1,r5,k4.trans k5 (fun j hj=> .inl hj)⟩
theorem ApJ.step (h:ApJ w0 wr g F B0 p q l m t n a1 S L K7 K13 vb vn tb tn T) (hlow:TXlt B1 F q l m t n) (e1:B1≤K7) (e2:B1≤K13) (e3:K7≠K13) (e4:K7<B0) (e5:K13<B0) (hlo:∀j,OwT F t n j→w0.heap.size≤j) (e6:w0.heap.size≤K13) (e7:a1<B1)
    (hx6:TX w6 F p g.s c6 q l m t n S ⟨lyG g,L, [],true⟩ T2) (hk6:Keeps (fun j=>OwT F t n j∨vb.ownBlock=some j∨vn.ownBlock=some j) wr.drew w6) (hib6:IL w6 (fun j=>B0≤j) vb2 tb2) (hin6:IL w6 (fun j=>B0≤j) vn2 tn2) (hsep6:∀j,vb2.ownBlock=some j→vn2.ownBlock≠some j):
  w6.heap[K7]? =some (.cells #[.int .i64 (g.s:Int), .int .i64 (g.l:Int), .int .i64 (g.n:Int)] 31 (0,0))∧w6.heap[K13]? =some (.cells #[vb,vn] 51 (0,0))∧(∀b,b<w0.heap.size→w6.heap[b]? =wr.heap[b]?)∧
    ((w6.setCell ⟨K13,0,none⟩ vb2).setCell ⟨K13,1,none⟩ vn2).heap[K7]? =some (.cells #[.int .i64 (g.s:Int), .int .i64 (g.l:Int), .int .i64 (g.n:Int)] 31 (0,0))∧(∀b,b<w0.heap.size→((w6.setCell ⟨K13,0,none⟩ vb2).setCell ⟨K13,1,none⟩ vn2).heap[b]? =wr.heap[b]?)∧
  ApJ w0 ((w6.setCell ⟨K13,0,none⟩ vb2).setCell ⟨K13,1,none⟩ vn2) g F B0 p q l m t n a1 S L K7 K13 vb2 vn2 tb2 tn2 T2:=by
 obtain⟨cR,hx,hp,hib,hin,hsep,u7,u13,hbw⟩:=h
 have hO:∀i,OwT F t n i→i<B1:=fun i hi=>by
  obtain⟨o1,o2,o3,o4,o5,o6⟩:=hlow
  rcases hi with hi|hi|hi
  ·exact o1 _ hi
  ·omega
  ·omega
 have kk:∀i,i<wr.heap.size→i<B0→¬OwT F t n i→w6.heap[i]? =wr.heap[i]? :=fun i i1 i2 i3=>hk6.block i i1 (fun e=>by
  rcases e with e|e|e
  ·exact i3 e
  ·have:=hib.x i e;omega
  ·have:=hin.x i e;omega)
 have v7:=(kk K7 (lt_there u7) e4 (fun e=>by have:=hO _ e;omega)).trans u7
 have v13:=(kk K13 (lt_there u13) e5 (fun e=>by have:=hO _ e;omega)).trans u13
 have hB0:w0.heap.size≤B0:=by omega
 have vb0:∀b,b<w0.heap.size→w6.heap[b]? =wr.heap[b]? :=fun b hb=>kk b (Nat.lt_of_lt_of_le hb hbw.size) (by omega) (fun e=>by have:=hlo _ e;omega)
 obtain⟨_,_,_,_,q4,q5⟩:=puts6 (x:=vb2) (y:=vn2) v13
 have z6:=hk6.size
 have z6':wr.heap.size≤w6.heap.size:=z6
 have va:=(kk a1 hp.lt (by omega) hp.nf).trans hp.b
 have vb7:∀b,b<w0.heap.size→((w6.setCell ⟨K13,0,none⟩ vb2).setCell ⟨K13,1,none⟩ vn2).heap[b]? =wr.heap[b]? :=fun b hb=>(q5.block b (Nat.lt_of_lt_of_le (Nat.lt_of_lt_of_le hb hbw.size) z6') (by omega)).trans (vb0 b hb)
 refine⟨v7,v13,vb0,(q5.block _ (lt_there v7) e3).trans v7,vb7,c6,hx6.side hlow q5 (fun i hi=>by omega),⟨(q5.block _ (lt_there va) (by omega)).trans va,hp.nf⟩,hib6.keep q5 (fun i hi e=>by have:=hib6.x i hi;omega),hin6.keep q5 (fun i hi e=>by have:=hin6.x i hi;omega),hsep6,(q5.block _ (lt_there v7) e3).trans v7,q4,?_⟩
 have hk7:Keeps (fun i=>(OwT F t n i∨vb.ownBlock=some i∨vn.ownBlock=some i)∨i=K13) wr ((w6.setCell ⟨K13,0,none⟩ vb2).setCell ⟨K13,1,none⟩ vn2):=((Keeps.of_below _ (below_drew (Below.refl _ _))).trans (hk6.mono (fun _ h=> .inl h)) (fun _ h=> .inl h)).trans q5 (fun i hi=> .inl (.inr hi))
 exact hbw.trans (hk7.below (fun i hi=>by
  rcases hi with (hi|hi|hi)|hi
  ·exact hlo i hi
  ·have:=hib.x i hi;omega
  ·have:=hin.x i hi;omega
  ·omega) hbw.size)
end
end Go.Proofs.YtcakbbkbgfhfaaaGreat
end

section
namespace Go.Proofs.YtcakbbkbgfhfaaaGreat
open Go.ChangeShapes Go.WideShapes Go.ChangeAt Go.RowKit Go.Deep
def Nums6 (w:World) (B:Nat) (a:Option Addr) (n:Nat):Prop:=(a=none→n=0)∧∀y,a=some y→∀i,i<n→∃b o,y=⟨b,o,none⟩∧b<B∧∃t:Int,w.cell? ⟨b,o+i,none⟩=some (.int .i64 t)∧I64 t
theorem Nums6.far {w w':World} {B:Nat} {a:Option Addr} {n:Nat} (h:Nums6 w B a n) (hb:Below B w w'):Nums6 w' B a n:=by
 refine⟨h.1,fun y hy i hi=>?_⟩
 obtain⟨b,o,rfl,hbB,t,c0,c1⟩:=h.2 y hy i hi
 exact⟨b,o,rfl,hbB,t,(World.cell?_of_block (w:=w) (a:=⟨b,_,none⟩) (hb.block b hbB)).trans c0,c1⟩
theorem open_nums {H:Type} {enc:TypeId×Value→H} {W:World} {base:Nat} {spare:Nat→Bool} {held:Bool} {fuel:Nat} {v:Value} {d:DataW H} {pl:List MemPlace} (h:DataW.trod enc Tryz.prog W base spare held fuel 49 [v]=some (d,pl)) (hw:∀n∈d.weights Tryz.prog 49,n≤reachBytes):
  ∃a n c,v= .slice a n c∧Nums6 W W.heap.size a n∧n≤140737488355328:=by
 have hb8:Tryz.prog.bytesOf 3=8:=by kernel_rfl
 rcases open_ints Tryz.underlying49 Tryz.underlying3 cellsInt h with ⟨hcs,_⟩|⟨x,l,c,zs,hcs,_,hl,hm,hz,hd,hcell,hwz⟩
 ·simp only [List.cons.injEq,and_true] at hcs
  exact⟨none,0,0,hcs,⟨fun _=>rfl,fun x hx=>by cases hx⟩,Nat.zero_le _⟩
 ·simp only [List.cons.injEq,and_true] at hcs
  simp only [Prod.mk.injEq] at hd
  obtain⟨rfl,rfl⟩:=hd
  have hzl:l≤zs.length:=by rw [hz];split <;> omega
  have h1:=hw ((((lits IntKind.i64 (zs.take l):List (DataW H))).length+((lits IntKind.i64 (zs.drop l):List (DataW H))).length)*Tryz.prog.bytesOf 3) (by simp [DataW.weights,Tryz.underlying49])
  rw [hb8] at h1
  simp only [lits,List.length_map,List.length_take,List.length_drop,reachBytes] at h1
  refine⟨some x,l,c,hcs,⟨(fun h=>by cases h),fun y hy i hi=>?_⟩,by omega⟩
  cases hy
  have z0:=hcell 0 (by omega)
  have hzi:i<zs.length:=by omega
  have zi:=hcell i hzi
  have ei:zs.getD i 0=zs[i]:=by simp [List.getD,hzi]
  obtain⟨b,o,spot⟩:=x
  have hspot:spot=none:=by simpa [Addr.add] using World.cell?_spot z0
  subst hspot
  rw [addr_add,ei] at zi
  exact⟨b,o,rfl,World.block_lt_of_cell? _ _ zi,_,zi,int_wf (hwz _ (List.getElem_mem hzi))⟩
end Go.Proofs.YtcakbbkbgfhfaaaGreat
end
