import Derived.Test.YtkiehemoiapkkaaGreatW07
import Derived.Deep.RegionHeld3
import Derived.RangeFuncNested
import Derived.RangeFuncBound
import Derived.RangeFuncCalls
import Derived.RangeFuncLeaves
import Derived.Shelf.Abstract
import Derived.Shelf.RegionOpen
import Derived.OwnWalkIn
import Derived.TacticsInMore
import Derived.LoopNIn
import Derived.LoopIn
section
namespace Go.Proofs.YtkiehemoiapkkaaGreat
open Go.RowKit
theorem src_at {w:World} {b o n:Nat} {l:List Int} (h:Src w (some ⟨b,o,none⟩) n l) (x y:Nat) (hxy:x+y≤n):∀i,i<y→w.cell? ⟨b,o+x+i,none⟩=some (.int .u8 (((l.drop x).take y).getD i 0)):=by
 intro i hi
 have:=h.2.2 _ rfl (x+i) (by omega)
 rw [addr_add] at this
 rw [Nat.add_assoc,this]
 congr 2
 simp [List.getD,hi,List.getElem?_drop]
theorem src_piece {w:World} {b o n:Nat} {l:List Int} (h:Src w (some ⟨b,o,none⟩) n l) (x y:Nat) (hxy:x+y≤n):Src w (some ⟨b,o+x,none⟩) y ((l.drop x).take y):=
   ⟨by have:=h.1;simp;omega,(fun e=>by cases e),fun z hz i hi=>by cases hz;rw [addr_add];exact src_at h x y hxy i hi⟩
theorem keeps_set5 (w1:World) (b:Nat) (v0 v1 v2 v3 v4:Value):Keeps (fun k=>k=b) w1 (((((w1.setCell ⟨b,0,none⟩ v0).setCell ⟨b,1,none⟩ v1).setCell ⟨b,2,none⟩ v2).setCell ⟨b,3,none⟩ v3).setCell ⟨b,4,none⟩ v4):=
   ((((keeps_set (F:=fun k=>k=b) w1 rfl 0 v0).trans (keeps_set (F:=fun k=>k=b) _ rfl 1 v1) (fun _ h=> .inl h)).trans (keeps_set (F:=fun k=>k=b) _ rfl 2 v2) (fun _ h=> .inl h)).trans (keeps_set (F:=fun k=>k=b) _ rfl 3 v3) (fun _ h=> .inl h)).trans (keeps_set (F:=fun k=>k=b) _ rfl 4 v4) (fun _ h=> .inl h)
theorem heap_drewn (w:World) (b:Nat):(World.drew w).heap[b]? =w.heap[b]? :=rfl
theorem set5_drew {w:World} {b:Nat} {t:TypeId} {a0 a1 a2 a3 a4:Value} (v0 v1 v2 v3 v4:Value) (h:w.heap[b]? =some (.cells #[a0,a1,a2,a3,a4] t (0,0))):
    (World.drew (((((w.setCell ⟨b,0,none⟩ v0).setCell ⟨b,1,none⟩ v1).setCell ⟨b,2,none⟩ v2).setCell ⟨b,3,none⟩ v3).setCell ⟨b,4,none⟩ v4)).heap[b]? =some (.cells #[v0,v1,v2,v3,v4] t (0,0)):=(heap_drewn _ _).trans (set5 v0 v1 v2 v3 v4 h)
theorem infoPiece:(Tryz.prog.info? 207).map (·.size)=some 5:=by kernel_rfl
theorem below_set5 {B:Nat} {w w1:World} (h:Below B w w1) {b:Nat} (hb:B≤b) (v0 v1 v2 v3 v4:Value):Below B w (((((w1.setCell ⟨b,0,none⟩ v0).setCell ⟨b,1,none⟩ v1).setCell ⟨b,2,none⟩ v2).setCell ⟨b,3,none⟩ v3).setCell ⟨b,4,none⟩ v4):=
   ((((h.setCell (p:=⟨b,0,none⟩) hb _).setCell (p:=⟨b,1,none⟩) hb _).setCell (p:=⟨b,2,none⟩) hb _).setCell (p:=⟨b,3,none⟩) hb _).setCell (p:=⟨b,4,none⟩) hb _
set_option maxRecDepth 20000 in
set_option maxHeartbeats 4000000 in
theorem pieceOf_no (a:Option Addr) (n c:Nat) (l:List Int) (w:World) (hs:Src w a n l) (hb:Bytes l) (hq:(sopens l).2≠0∨(sopens l).1.length<12):
  Calls Tryz.prog 167 #[.slice a n c] w fun e w'=>e= .returned (pieceV 0 0 0 0 none 0 0)∧Below w.heap.size w w':=by
 have h1:=sopen_any a n c l (w.alloc (.cells (pieceC 0 0 0 0 none 0 0) 207)) (hs.later (below_box _ _)) hb
 generalize sopens l=Y at*
 go_enter Tryz.func167,Tryz.ntmps167
 go_wp2_with fail
 refine h1.mono ?_
 rintro e w1 ⟨v,rfl,⟨a1,c1,rfl,hs1,_,_⟩,hb1⟩
 have hx:=(hb1.block _ (by simp)).trans (heap_alloc_new _ _)
 have HB1:=((below_box w (.cells (pieceC 0 0 0 0 none 0 0) 207)).trans (hb1.mono (by simp)))
 have f:=fun j=>frozen_of_block hx j
 have k0:=cell_of_block hx (j:=0) rfl
 have k1:=cell_of_block hx (j:=1) rfl
 have k2:=cell_of_block hx (j:=2) rfl
 have k3:=cell_of_block hx (j:=3) rfl
 have k4:=cell_of_block hx (j:=4) rfl
 by_cases q:Y.2=0
 ·have q2:(Y.1.length:Int)<12:=by omega
  rw [q] at h1
  go_wp2
  exact bodyPost_ret (results_cell_row (P:=Tryz.prog) rfl _ _ w.heap.size 207 _ (0,0) _ rfl (set5 _ _ _ _ _ hx) Tryz.underlying207 rfl infoPiece) rfl ⟨rfl,below_set5 HB1 (Nat.le_refl _) _ _ _ _ _⟩
 ·have q2:(((Y.2:Nat):Int) == 0)=false:=by rw [beq_eq_false_iff_ne];omega
  go_wp2
  exact bodyPost_ret (results_cell_row (P:=Tryz.prog) rfl _ _ w.heap.size 207 _ (0,0) _ rfl (set5 _ _ _ _ _ hx) Tryz.underlying207 rfl infoPiece) rfl ⟨rfl,below_set5 HB1 (Nat.le_refl _) _ _ _ _ _⟩
set_option maxRecDepth 20000 in
set_option maxHeartbeats 4000000 in
theorem pieceOf_ok (a:Option Addr) (n c:Nat) (l:List Int) (w:World) (hs:Src w a n l) (hb:Bytes l) (hq:(sopens l).2=0) (hq2:12≤(sopens l).1.length):
  Calls Tryz.prog 167 #[.slice a n c] w fun e w'=>∃a' k,e= .returned (pieceV ((pcBody (sopens l).1).e:Int) ((pcBody (sopens l).1).p:Int) ((pcBody (sopens l).1).i:Int) ((pcBody (sopens l).1).c:Int) a' (pcBody (sopens l).1).d.length k)∧Src w' a' (pcBody (sopens l).1).d.length (pcBody (sopens l).1).d∧(∀y,a'=some y→w.heap.size<y.block)∧Below w.heap.size w w':=by
 have h1:=sopen_any a n c l (w.alloc (.cells (pieceC 0 0 0 0 none 0 0) 207)) (hs.later (below_box _ _)) hb
 have hyb:=so_bytes hb
 rw [hq] at h1
 generalize (sopens l).1=Y at*
 have hx12:¬(Y.length:Int)<12:=by omega
 go_enter Tryz.func167,Tryz.ntmps167
 go_wp2_with fail
 refine h1.mono ?_
 rintro e w1 ⟨v,rfl,⟨a1,c1,rfl,hs1,hc1,hlo⟩,hb1⟩
 obtain⟨b,o,rfl⟩:=src_spot hs1 (by omega)
 have hlo':=hlo _ rfl
 have hx:=(hb1.block _ (by simp)).trans (heap_alloc_new _ _)
 have HB1:=((below_box w (.cells (pieceC 0 0 0 0 none 0 0) 207)).trans (hb1.mono (by simp)))
 have f:=fun j=>frozen_of_block hx j
 have k0:=cell_of_block hx (j:=0) rfl
 have k1:=cell_of_block hx (j:=1) rfl
 have k2:=cell_of_block hx (j:=2) rfl
 have k3:=cell_of_block hx (j:=3) rfl
 have k4:=cell_of_block hx (j:=4) rfl
 have t1:=fun wx (hw:∀a,World.cell? wx a=w1.cell? a) cp=>wtaken_any b o 4 cp (Y.take 4) wx (hyb.take 4) (by simp;omega) (by omega) (fun i hi=>(hw _).trans (by have:=src_at hs1 0 4 (by omega) i hi;rwa [List.drop_zero,Nat.add_zero] at this))
 have t2:=fun wx (hw:∀a,World.cell? wx a=w1.cell? a) cp=>wtaken_any b (o+4) 4 cp ((Y.drop 4).take 4) wx ((hyb.drop 4).take 4) (by simp;omega) (by omega) (fun i hi=>(hw _).trans (src_at hs1 4 4 (by omega) i hi))
 have t3:=fun wx (hw:∀a,World.cell? wx a=w1.cell? a) cp=>wtaken_any b (o+8) 2 cp ((Y.drop 8).take 2) wx ((hyb.drop 8).take 2) (by simp;omega) (by omega) (fun i hi=>(hw _).trans (src_at hs1 8 2 (by omega) i hi))
 have t4:=fun wx (hw:∀a,World.cell? wx a=w1.cell? a) cp=>wtaken_any b (o+10) 2 cp ((Y.drop 10).take 2) wx ((hyb.drop 10).take 2) (by simp;omega) (by omega) (fun i hi=>(hw _).trans (src_at hs1 10 2 (by omega) i hi))
 have b4:(4:Int)≤(c1:Int):=by omega
 have b8:(8:Int)≤(c1:Int):=by omega
 have b10:(10:Int)≤(c1:Int):=by omega
 have b12:(12:Int)≤(c1:Int):=by omega
 have dl:(Y.length:Int)≤(c1:Int):=by omega
 have n0:¬c1=0:=by omega
 have n4:¬c1=4:=by omega
 have n8:¬c1=8:=by omega
 have n10:¬c1=10:=by omega
 have T1:=t1
 have T2:=t2
 have T3:=t3
 have T4:=t4
 have HX:=hx
 by_cases n12:c1=12
 ·have hl12:Y.length=12:=by omega
  have HLen:((pcBody Y).d= []):=List.eq_nil_of_length_eq_zero (by simp [pcBody,hl12])
  subst n12
  rw [hl12] at*
  go_wp2_with fail
  go_region_held3 (fun _=>True) (trivial)
   (first
    |(go_at_call 189;refine(T1 w1.drew (fun _=>rfl) 12).mono ?_;clear T1;rintro e w2 ⟨rfl,hw⟩;subst hw)
    |(go_at_call 189;refine(T2 w1.drew (fun _=>rfl) (8)).mono ?_;clear T2;rintro e w2 ⟨rfl,hw⟩;subst hw)
    |(go_at_call 189;refine(T3 w1.drew (fun _=>rfl) (4)).mono ?_;clear T3;rintro e w2 ⟨rfl,hw⟩;subst hw)
    |(go_at_call 189;refine(T4 w1.drew (fun _=>rfl) (2)).mono ?_;clear T4;rintro e w2 ⟨rfl,hw⟩;subst hw))
  go_wp2
  refine bodyPost_ret (results_cell_row (P:=Tryz.prog) rfl _ _ w.heap.size 207 _ (0,0) _ rfl (set5_drew _ _ _ _ _ HX) Tryz.underlying207 rfl infoPiece) rfl ⟨some ⟨b,o,none⟩,0,?_,?_,?_,below_drew (below_set5 HB1 (Nat.le_refl _) _ _ _ _ _)⟩
  ·rw [HLen]
   rfl
  ·rw [HLen]
   exact⟨rfl,fun _=>rfl,fun x hx i hi=>by cases hi⟩
  ·intro y hy
   cases hy
   simp at hlo'
   show w.heap.size<b
   omega
 ·go_wp2_with fail
  go_region_held3 (fun _=>True) (trivial)
   (first
    |(go_at_call 189;refine(T1 w1.drew (fun _=>rfl) c1).mono ?_;clear T1;rintro e w2 ⟨rfl,hw⟩;subst hw)
    |(go_at_call 189;refine(T2 w1.drew (fun _=>rfl) (c1-4)).mono ?_;clear T2;rintro e w2 ⟨rfl,hw⟩;subst hw)
    |(go_at_call 189;refine(T3 w1.drew (fun _=>rfl) (c1-8)).mono ?_;clear T3;rintro e w2 ⟨rfl,hw⟩;subst hw)
    |(go_at_call 189;refine(T4 w1.drew (fun _=>rfl) (c1-10)).mono ?_;clear T4;rintro e w2 ⟨rfl,hw⟩;subst hw))
  go_wp2
  have hdl:(pcBody Y).d.length=Y.length-12:=by simp [pcBody]
  refine bodyPost_ret (results_cell_row (P:=Tryz.prog) rfl _ _ w.heap.size 207 _ (0,0) _ rfl (set5_drew _ _ _ _ _ HX) Tryz.underlying207 rfl infoPiece) rfl ⟨some ⟨b,o+12,none⟩,c1-12,?_,?_,?_,below_drew (below_set5 HB1 (Nat.le_refl _) _ _ _ _ _)⟩
  ·rw [hdl]
   rfl
  ·rw [hdl]
   have h1:=src_piece hs1 12 (Y.length-12) (by omega)
   rw [List.take_of_length_le (by simp)] at h1
   have h2:=h1.avoid (keeps_set5 w1 w.heap.size (.int .i64 ((le (Y.take 4):Nat):Int)) (.int .i64 ((le ((Y.drop 4).take 4):Nat):Int)) (.int .i64 ((le ((Y.drop 8).take 2):Nat):Int)) (.int .i64 ((le ((Y.drop 10).take 2):Nat):Int)) (.slice (some ⟨b,o+12,none⟩) (Y.length-12) (c1-12))) (fun y hy _ e=>by cases hy;simp at hlo' e;omega)
   exact h2.later (below_drew (Below.refl _ _))
  ·intro y hy
   cases hy
   simp at hlo'
   show w.heap.size<b
   omega
end Go.Proofs.YtkiehemoiapkkaaGreat
end
section
namespace Go.Proofs.YtkiehemoiapkkaaGreat
open Go.RowKit
theorem pieceOf_any (a:Option Addr) (n c:Nat) (l:List Int) (w:World) (hs:Src w a n l) (hb:Bytes l):
  Calls Tryz.prog 167 #[.slice a n c] w fun e w'=>∃a' k,e= .returned (pieceV ((pcOf l).e:Int) ((pcOf l).p:Int) ((pcOf l).i:Int) ((pcOf l).c:Int) a' (pcOf l).d.length k)∧Src w' a' (pcOf l).d.length (pcOf l).d∧(∀y,a'=some y→w.heap.size<y.block)∧Below w.heap.size w w':=by
 by_cases q:(sopens l).2≠0∨(sopens l).1.length<12
 ·refine(pieceOf_no a n c l w hs hb q).mono ?_
  rintro e w' ⟨rfl,hb'⟩
  unfold pcOf
  rw [if_pos q]
  exact⟨none,0,rfl,⟨rfl,fun _=>rfl,fun x hx=>by cases hx⟩,fun y hy=>(by cases hy),hb'⟩
 ·refine(pieceOf_ok a n c l w hs hb (by omega) (by omega)).mono ?_
  rintro e w' h
  unfold pcOf
  rw [if_neg q]
  exact h
def PieceAt (w:World) (B g i:Nat) (q:PC):Prop:=
 ∃a k,w.cell? ⟨g,i*5,none⟩=some (.int .i64 (q.e:Int))∧w.cell? ⟨g,i*5+1,none⟩=some (.int .i64 (q.p:Int))∧w.cell? ⟨g,i*5+2,none⟩=some (.int .i64 (q.i:Int))∧w.cell? ⟨g,i*5+3,none⟩=some (.int .i64 (q.c:Int))∧
  w.cell? ⟨g,i*5+4,none⟩=some (.slice a q.d.length k)∧Src w a q.d.length q.d∧∀y,a=some y→B≤y.block
theorem PieceAt.keep {w w':World} {B g i:Nat} {q:PC} {F:Nat→Prop} (h:PieceAt w B g i q) (hk:Keeps F w w') (hg:¬F g) (hF:∀k,F k→k<B):PieceAt w' B g i q:=by
 obtain⟨a,k,h0,h1,h2,h3,h4,h5,h6⟩:=h
 have e:∀o v,w.cell? ⟨g,o,none⟩=some v→w'.cell? ⟨g,o,none⟩=some v:=fun o v hv=>by
  have hb:=World.block_lt_of_cell? _ _ hv
  exact(World.cell?_of_block (w:=w) (a:=⟨g,o,none⟩) (hk.block g hb hg)).trans hv
 exact⟨a,k,e _ _ h0,e _ _ h1,e _ _ h2,e _ _ h3,e _ _ h4,h5.avoid hk (fun y hy _ hf=>by have:=h6 y hy;have:=hF _ hf;omega),h6⟩
theorem PieceAt.later {w w':World} {B g i:Nat} {q:PC} (h:PieceAt w B g i q) (hb:Below w.heap.size w w'):PieceAt w' B g i q:=h.keep (Keeps.of_below (fun _=>False) hb) (fun h=>h) (fun _ h=>h.elim)
theorem infoPiece3:(Tryz.prog.info? 207).map (fun i=>(i.zero,i.size,i.bytes))=some (some (pieceV 0 0 0 0 none 0 0),5,56):=by kernel_rfl
theorem cell_set5 {w:World} {g j:Nat} {T:TypeId} {cur:Array Value} (hg:w.heap[g]? =some (.cells cur T (0,0))) (hj:j+5≤cur.size) (v0 v1 v2 v3 v4:Value):
  ∃cur',(((((w.setCell ⟨g,j,none⟩ v0).setCell ⟨g,j+1,none⟩ v1).setCell ⟨g,j+2,none⟩ v2).setCell ⟨g,j+3,none⟩ v3).setCell ⟨g,j+4,none⟩ v4).heap[g]? =some (.cells cur' T (0,0))∧cur'.size=cur.size∧
   cur'[j]? =some v0∧cur'[j+1]? =some v1∧cur'[j+2]? =some v2∧cur'[j+3]? =some v3∧cur'[j+4]? =some v4∧∀o,o<j∨j+5≤o→cur'[o]? =cur[o]? :=by
 have h0:=heap_setCell_same w g j _ T v0 hg
 have h1:=heap_setCell_same _ g (j+1) _ T v1 h0
 have h2:=heap_setCell_same _ g (j+2) _ T v2 h1
 have h3:=heap_setCell_same _ g (j+3) _ T v3 h2
 have h4:=heap_setCell_same _ g (j+4) _ T v4 h3
 refine⟨_,h4,by simp,?_,?_,?_,?_,?_,?_⟩
 ·rw [Array.getElem?_setIfInBounds_ne (by omega),Array.getElem?_setIfInBounds_ne (by omega),Array.getElem?_setIfInBounds_ne (by omega),Array.getElem?_setIfInBounds_ne (by omega),Array.getElem?_setIfInBounds_self_of_lt (by omega)]
 ·rw [Array.getElem?_setIfInBounds_ne (by omega),Array.getElem?_setIfInBounds_ne (by omega),Array.getElem?_setIfInBounds_ne (by omega),Array.getElem?_setIfInBounds_self_of_lt (by simp;omega)]
 ·rw [Array.getElem?_setIfInBounds_ne (by omega),Array.getElem?_setIfInBounds_ne (by omega),Array.getElem?_setIfInBounds_self_of_lt (by simp;omega)]
 ·rw [Array.getElem?_setIfInBounds_ne (by omega),Array.getElem?_setIfInBounds_self_of_lt (by simp;omega)]
 ·rw [Array.getElem?_setIfInBounds_self_of_lt (by simp;omega)]
 ·intro o ho
  rw [Array.getElem?_setIfInBounds_ne (by omega),Array.getElem?_setIfInBounds_ne (by omega),Array.getElem?_setIfInBounds_ne (by omega),Array.getElem?_setIfInBounds_ne (by omega),Array.getElem?_setIfInBounds_ne (by omega)]
theorem keeps_set5at (w1:World) (b j:Nat) (v0 v1 v2 v3 v4:Value):Keeps (fun k=>k=b) w1 (((((w1.setCell ⟨b,j,none⟩ v0).setCell ⟨b,j+1,none⟩ v1).setCell ⟨b,j+2,none⟩ v2).setCell ⟨b,j+3,none⟩ v3).setCell ⟨b,j+4,none⟩ v4):=
   ((((keeps_set (F:=fun k=>k=b) w1 rfl j v0).trans (keeps_set (F:=fun k=>k=b) _ rfl (j+1) v1) (fun _ h=> .inl h)).trans (keeps_set (F:=fun k=>k=b) _ rfl (j+2) v2) (fun _ h=> .inl h)).trans (keeps_set (F:=fun k=>k=b) _ rfl (j+3) v3) (fun _ h=> .inl h)).trans (keeps_set (F:=fun k=>k=b) _ rfl (j+4) v4) (fun _ h=> .inl h)
def RingTo (w:World) (B g n k:Nat) (R:Nat→PC):Prop:=(∃cur,w.heap[g]? =some (.cells cur 207 (0,0))∧cur.size=n*5)∧∀i,i<k→PieceAt w B g i (R i)
theorem RingTo.keep {w w':World} {B g n k:Nat} {R:Nat→PC} {F:Nat→Prop} (h:RingTo w B g n k R) (hk:Keeps F w w') (hg:¬F g) (hF:∀k,F k→k<B):RingTo w' B g n k R:=by
 obtain⟨⟨cur,hc,hs⟩,h2⟩:=h
 exact⟨⟨cur,(hk.block g (lt_there hc) hg).trans hc,hs⟩,fun i hi=>(h2 i hi).keep hk hg hF⟩
theorem RingTo.lt {w:World} {B g n k:Nat} {R:Nat→PC} (h:RingTo w B g n k R):g<w.heap.size:=by
 obtain⟨⟨cur,hc,hs⟩,h2⟩:=h
 exact lt_there hc
theorem RingTo.spot {w:World} {B g n k:Nat} {R:Nat→PC} (h:RingTo w B g n k R) (hk:k<n):∀j,j<5→∃v,w.cell? ⟨g,k*5+j,none⟩=some v:=by
 obtain⟨⟨cur,hc,hs⟩,h2⟩:=h
 intro j hj
 have hlt:k*5+j<cur.size:=by omega
 exact⟨cur[k*5+j],cell_of_block hc (by simp [hlt])⟩
theorem RingTo.fz {w:World} {B g n k:Nat} {R:Nat→PC} (h:RingTo w B g n k R) (j:Nat):w.frozen? ⟨g,j,none⟩=false:=by
 obtain⟨⟨cur,hc,hs⟩,h2⟩:=h
 exact frozen_of_block hc j
theorem RingTo.snoc {w:World} {B g n k:Nat} {R:Nat→PC} (h:RingTo w B g n k R) (hk:k<n) (hgB:g<B) (a:Option Addr) (c:Nat) (hs:Src w a (R k).d.length (R k).d) (ha:∀y,a=some y→B≤y.block):
  RingTo (((((w.setCell ⟨g,k*5,none⟩ (.int .i64 ((R k).e:Int))).setCell ⟨g,k*5+1,none⟩ (.int .i64 ((R k).p:Int))).setCell ⟨g,k*5+2,none⟩ (.int .i64 ((R k).i:Int))).setCell ⟨g,k*5+3,none⟩ (.int .i64 ((R k).c:Int))).setCell ⟨g,k*5+4,none⟩ (.slice a (R k).d.length c)) B g n (k+1) R:=by
 obtain⟨⟨cur,hc,hsz⟩,h2⟩:=h
 obtain⟨cur',hc',hsz',g0,g1,g2,g3,g4,go⟩:=cell_set5 hc (j:=k*5) (by omega) (.int .i64 ((R k).e:Int)) (.int .i64 ((R k).p:Int)) (.int .i64 ((R k).i:Int)) (.int .i64 ((R k).c:Int)) (.slice a (R k).d.length c)
 have hkp:=keeps_set5at w g (k*5) (.int .i64 ((R k).e:Int)) (.int .i64 ((R k).p:Int)) (.int .i64 ((R k).i:Int)) (.int .i64 ((R k).c:Int)) (.slice a (R k).d.length c)
 refine⟨⟨cur',hc',by omega⟩,fun i hi=>?_⟩
 by_cases e:i=k
 ·subst e
  exact⟨a,c,cell_of_block hc' g0,cell_of_block hc' g1,cell_of_block hc' g2,cell_of_block hc' g3,cell_of_block hc' g4,hs.avoid hkp (fun y hy _ e=>by have:=ha y hy;omega),ha⟩
 ·obtain⟨a',c',p0,p1,p2,p3,p4,p5,p6⟩:=h2 i (by omega)
  have q:∀o v,o<k*5∨k*5+5≤o→w.cell? ⟨g,o,none⟩=some v→(((((w.setCell ⟨g,k*5,none⟩ (.int .i64 ((R k).e:Int))).setCell ⟨g,k*5+1,none⟩ (.int .i64 ((R k).p:Int))).setCell ⟨g,k*5+2,none⟩ (.int .i64 ((R k).i:Int))).setCell ⟨g,k*5+3,none⟩ (.int .i64 ((R k).c:Int))).setCell ⟨g,k*5+4,none⟩ (.slice a (R k).d.length c)).cell? ⟨g,o,none⟩=some v:=fun o v ho hv=>by
   refine cell_of_block hc' ((go o ho).trans ?_)
   simpa [World.cell?,hc] using hv
  exact⟨a',c',q _ _ (by omega) p0,q _ _ (by omega) p1,q _ _ (by omega) p2,q _ _ (by omega) p3,q _ _ (by omega) p4,p5.avoid hkp (fun y hy _ e=>by have:=p6 y hy;omega),p6⟩
end Go.Proofs.YtkiehemoiapkkaaGreat
end
section
namespace Go.Proofs.YtkiehemoiapkkaaGreat
open Go.RowKit
def RingOut (lo:Nat) (w:World) (n:Nat) (R:Nat→PC) (v:Value):Prop:=∃g B,v= .slice (some ⟨g,0,none⟩) n n∧lo≤g∧g<B∧RingTo w B g n n R
theorem PieceAt.range {w:World} {B g i:Nat} {q:PC} (h:PieceAt w B g i q):∃a k,w.rangeAt g (i*5) (pieceC (q.e:Int) (q.p:Int) (q.i:Int) (q.c:Int) a q.d.length k).toList∧Src w a q.d.length q.d∧∀y,a=some y→B≤y.block:=by
 obtain⟨a,k,h0,h1,h2,h3,h4,h5,h6⟩:=h
 refine⟨a,k,fun j v hv=>?_,h5,h6⟩
 match j,hv with
 |0,hv=>cases hv;exact h0
 |1,hv=>cases hv;exact h1
 |2,hv=>cases hv;exact h2
 |3,hv=>cases hv;exact h3
 |4,hv=>cases hv;exact h4
 |j+5,hv=>simp at hv
set_option maxRecDepth 20000 in
set_option maxHeartbeats 4000000 in
theorem top_any {w:World} {B g n:Nat} {R:Nat→PC} (h:RingTo w B g n n R) (hn:n≤256):
  Calls Tryz.prog 139 #[.slice (some ⟨g,0,none⟩) n n] w fun e w'=>e= .returned (.int .i64 ((rtop R n:Nat):Int))∧Below w.heap.size w w':=by
 have H:=Hid.mk h
 go_enter Tryz.func139,Tryz.ntmps139
 go_wp2
 go_loopw [3,8] (fun r i wr=>∃k:Nat,k≤n∧i= .int .i64 k∧r= .int .i64 ((rtop R k:Nat):Int)∧Below w.heap.size w wr) (fun _ i _=>n-(intOf i).toNat)
 case atStart=>exact⟨0,Nat.zero_le _,rfl,rfl,Below.refl _ _⟩
 case round=>
  obtain⟨k,hk,rfl,rfl,hb⟩:=hrel
  by_cases q:k<n
  ·have q':(k:Int)<(n:Int):=by omega
   have q0:(0:Int)≤(k:Int):=by omega
   obtain⟨a,c,hrg,_,_⟩:=((H.out.2 k q).later hb).range
   have HRg:=Hid.mk hrg
   have hle:=rtop_le R k
   have HB:=Hid.mk (fun o=>hb.trans ((below_box wr o).mono hb.size))
   by_cases m:(R k).e≤1073741824
   ·have m':((R k).e:Int)≤1073741824:=by omega
    have hr:Hid (rtop R (k+1)=max (rtop R k) (R k).e):=by rw [rtop,if_pos m];exact rfl
    go_wp2_with (refine wpList_load_mid rfl 207 _ rfl g (k*5) rfl (pieceC ((R k).e:Int) ((R k).p:Int) ((R k).i:Int) ((R k).c:Int) a (R k).d.length c).toList _ HRg.out Tryz.underlying207 rfl infoPiece ?_)
    go_roundw
    case rel=>exact⟨k+1,by omega,by go_num,by rw [hr.out];congr 1;omega,HB.out _⟩
    case measure=>simp [intOf];omega
   ·have m':¬((R k).e:Int)≤1073741824:=by omega
    have hr:Hid (rtop R (k+1)=rtop R k):=by rw [rtop,if_neg m];exact rfl
    go_wp2_with (refine wpList_load_mid rfl 207 _ rfl g (k*5) rfl (pieceC ((R k).e:Int) ((R k).p:Int) ((R k).i:Int) ((R k).c:Int) a (R k).d.length c).toList _ HRg.out Tryz.underlying207 rfl infoPiece ?_)
    go_roundw
    case rel=>exact⟨k+1,by omega,by go_num,by rw [hr.out],HB.out _⟩
    case measure=>simp [intOf];omega
  ·have q':¬(k:Int)<(n:Int):=by omega
   obtain rfl:k=n:=by omega
   have HB:=Hid.mk hb
   go_wp2
   go_ret
   exact⟨rfl,HB.out⟩
end Go.Proofs.YtkiehemoiapkkaaGreat
end
section
namespace Go.Proofs.YtkiehemoiapkkaaGreat
def isB (q:PC) (E P i c:Nat):Bool:=decide (q.e=E∧q.p=P∧q.i=i∧q.c=c∧0<q.d.length∧(i+1≠c→q.d.length=492)∧1≤c∧c≤17)
theorem isB_iff {q:PC} {E P i c:Nat}:isB q E P i c=true↔q.ok E P i c∧1≤c∧c≤17:=by
 unfold isB PC.ok
 rw [decide_eq_true_iff]
 constructor
 ·rintro ⟨h1,h2,h3,h4,h5,h6,h7,h8⟩;exact⟨⟨h1,h2,h3,h4,h5,h6⟩,h7,h8⟩
 ·rintro ⟨⟨h1,h2,h3,h4,h5,h6⟩,h7,h8⟩;exact⟨h1,h2,h3,h4,h5,h6,h7,h8⟩
structure SS where
 rs:List (List Int)
 rc:List Int
 hd:Nat
 ps:Nat
 j:Nat
 c:Nat
section
variable (R:Nat→PC) (E T n:Nat)
def SS.due (st:SS) (x:Nat):Nat:=if st.j=0 then (R ((T+x)%n)).c else st.c
def SS.goes (st:SS) (x:Nat):Bool:=isB (R ((T+x)%n)) E (T+x) st.j (st.due R T n x)
def SS.next (st:SS) (x:Nat):SS:=
 if (R ((T+x)%n)).i+1=(R ((T+x)%n)).c then ⟨st.rs ++ [st.rc ++ (R ((T+x)%n)).d], [],T+x+1,T+x,0,st.due R T n x⟩
 else ⟨st.rs,st.rc ++ (R ((T+x)%n)).d,st.hd,T+x,st.j+1,st.due R T n x⟩
def SS.start:SS:=⟨[], [],T,0,0,0⟩
def srun:List Nat→SS→Option SS
 | [],st=>some st
 |x :: xs,st=>if st.goes R E T n x=true then srun xs (st.next R T n x) else none
end
theorem srun_snoc (R:Nat→PC) (E T n:Nat):∀(xs:List Nat) (st st':SS) (x:Nat),srun R E T n xs st=some st'→st'.goes R E T n x=true→srun R E T n (xs ++ [x]) st=some (st'.next R T n x)
 | [],st,st',x,h,hg=>by
  cases h
  show (if _ then _ else _)=_
  rw [if_pos hg]
  rfl
 |y :: ys,st,st',x,h,hg=>by
  show (if st.goes R E T n y=true then srun R E T n (ys ++ [x]) (st.next R T n y) else none)=_
  unfold srun at h
  split at h
  ·rename_i h1
   rw [if_pos h1]
   exact srun_snoc R E T n ys _ st' x h hg
  ·cases h
theorem srun_split (R:Nat→PC) (E T n:Nat):∀(xs:List Nat) (st st':SS) (x:Nat),srun R E T n (xs ++ [x]) st=some st'→∃s1,srun R E T n xs st=some s1∧s1.goes R E T n x=true∧st'=s1.next R T n x
 | [],st,st',x,h=>by
  have h:(if st.goes R E T n x=true then srun R E T n [] (st.next R T n x) else none)=some st':=h
  split at h
  ·rename_i h1
   cases h
   exact⟨st,rfl,h1,rfl⟩
  ·cases h
 |y :: ys,st,st',x,h=>by
  have h:(if st.goes R E T n y=true then srun R E T n (ys ++ [x]) (st.next R T n y) else none)=some st':=h
  split at h
  ·rename_i h1
   obtain⟨s1,h2,h3,h4⟩:=srun_split R E T n ys _ st' x h
   refine⟨s1,?_,h3,h4⟩
   show (if _ then _ else _)=_
   rw [if_pos h1]
   exact h2
  ·cases h
theorem srun_small (R:Nat→PC) (E T n:Nat) (hd:∀i,(R i).d.length≤492) (hc:∀i,(R i).c≤65536):∀(k:Nat) (xs:List Nat) (st:SS),xs.length=k→srun R E T n xs (SS.start T)=some st→st.rs.length≤k∧st.rc.length≤492*k∧st.j≤k∧st.c≤65536
 |0,xs,st,hl,h=>by
  obtain rfl:=List.eq_nil_of_length_eq_zero hl
  cases h
  exact⟨Nat.le_refl _,Nat.le_refl _,Nat.le_refl _,Nat.zero_le _⟩
 |k+1,xs,st,hl,h=>by
  obtain⟨ys,x,rfl⟩:∃ys x,xs=ys ++ [x]:=by
   have hne:xs≠ []:=by intro e;rw [e] at hl;cases hl
   exact⟨xs.dropLast,xs.getLast hne,(List.dropLast_concat_getLast hne).symm⟩
  obtain⟨s1,h1,h2,rfl⟩:=srun_split R E T n ys _ st x h
  have ih:=srun_small R E T n hd hc k ys s1 (by simpa using hl) h1
  have h3:=hd ((T+x)%n)
  have h4:=hc ((T+x)%n)
  have h5:s1.due R T n x≤65536:=by unfold SS.due;split <;> omega
  unfold SS.next
  split
  ·refine⟨?_,?_,?_,h5⟩
   ·simp;omega
   ·simp
   ·simp
  ·refine⟨?_,?_,?_,h5⟩
   ·show s1.rs.length≤_;omega
   ·show (s1.rc ++ _).length≤_;rw [List.length_append];omega
   ·show s1.j+1≤_;omega
def Rp (R:Nat→PC) (n:Nat) (P:Nat):PC:=R (P%n)
theorem Rp_round (R:Nat→PC) (n:Nat) (q:Nat):Rp R n (q+n)=Rp R n q:=by unfold Rp;rw [Nat.add_mod_right]
theorem SS.due_eq (R:Nat→PC) (T n:Nat) {st:SS} {k:Nat} (hk:st.hd+st.j=T+k):st.due R T n k=dueC (Rp R n) st.hd st.j st.c:=by
 unfold SS.due dueC
 split
 ·rename_i h
  rw [show T+k=st.hd by omega]
  rfl
 ·rfl
theorem srun_scan (R:Nat→PC) (E T n:Nat):∀(k:Nat) (st:SS),srun R E T n (List.range k) (SS.start T)=some st→Scan (Rp R n) E T st.rs st.hd st.j st.c st.rc∧st.hd+st.j=T+k
 |0,st,h=>by
  cases h
  exact⟨Scan.start _ _ _ _,rfl⟩
 |k+1,st,h=>by
  rw [List.range_succ] at h
  obtain⟨s1,h1,h2,rfl⟩:=srun_split R E T n _ _ st k h
  obtain⟨hs,hp⟩:=srun_scan R E T n k s1 h1
  have hd:=SS.due_eq R T n hp
  unfold SS.goes at h2
  rw [isB_iff,hd,←hp] at h2
  have hq:R ((s1.hd+s1.j)%n)=Rp R n (s1.hd+s1.j):=rfl
  rw [hq] at h2
  unfold SS.next
  rw [hd,←hp,hq,h2.1.2.2.1,h2.1.2.2.2.1]
  split
  ·rename_i h3
   refine⟨hs.full h2.1 h2.2.2 h3 _,by show s1.hd+s1.j+1+0=_;omega⟩
  ·rename_i h3
   have hlt:s1.j<dueC (Rp R n) s1.hd s1.j s1.c:=by
    by_cases e:s1.j=0
    ·rw [e] at h2⊢;omega
    ·have:=(hs.c (by omega)).2.2
     unfold dueC
     rw [if_neg e]
     exact this
   refine⟨hs.grow h2.1 h2.2.1 h2.2.2 h3 hlt,by show s1.hd+(s1.j+1)=_;omega⟩
theorem scan_stop (R:Nat→PC) (E T n k:Nat) (st:SS) (h:srun R E T n (List.range k) (SS.start T)=some st) (hg:st.goes R E T n k=false):Tells (Rp R n) E T st.rs st.hd∧∀c d,¬Rec (Rp R n) E st.hd c d:=by
 obtain⟨hs,hp⟩:=srun_scan R E T n k st h
 refine⟨hs.t,hs.ends (fun hk=>?_)⟩
 unfold SS.goes at hg
 rw [(SS.due_eq R T n hp),←hp] at hg
 have:=(isB_iff (q:=Rp R n (st.hd+st.j))).2 hk
 rw [show R ((st.hd+st.j)%n)=Rp R n (st.hd+st.j) from rfl,this] at hg
 cases hg
theorem scan_done (R:Nat→PC) (E T n:Nat) (hn:1≤n) (st:SS) (h:srun R E T n (List.range n) (SS.start T)=some st):Tells (Rp R n) E T st.rs st.hd∧∀c d,¬Rec (Rp R n) E st.hd c d:=by
 obtain⟨hs,hp⟩:=srun_scan R E T n n st h
 exact⟨hs.t,hs.round hn (Rp_round R n) hp⟩
end Go.Proofs.YtkiehemoiapkkaaGreat
end
section
namespace Go.Proofs.YtkiehemoiapkkaaGreat
open Go.RowKit
abbrev markV (e q i c:Int):Value:= .agg #[.int .i64 e, .int .i64 q, .int .i64 i, .int .i64 c]
set_option maxRecDepth 20000 in
set_option maxHeartbeats 4000000 in
theorem last_any (e q i c:Nat) (w:World) (hc:c≤100000):
  Calls Tryz.prog 170 #[markV e q i c] w fun r w'=>r= .returned (.bool (decide (i+1=c)))∧Below w.heap.size w w':=by
 have hd:decide (i+1=c)=((i:Int) == (c:Int)-1):=by
  rw [Bool.eq_iff_iff]
  simp only [decide_eq_true_eq,beq_iff_eq]
  omega
 rw [hd]
 go_enter Tryz.func170,Tryz.ntmps170
 go_wp2
 go_ret
 exact⟨rfl,(Hid.mk (below_box w (.cells #[.int .i64 (e:Int), .int .i64 (q:Int), .int .i64 (i:Int), .int .i64 (c:Int)] 205))).out⟩
set_option maxRecDepth 20000 in
set_option maxHeartbeats 4000000 in
theorem is_no (q:PC) (a:Option Addr) (n k:Nat) (E P i c:Nat) (w:World) (h:¬(q.e=E∧q.p=P∧q.i=i∧q.c=c)):
  Calls Tryz.prog 169 #[pieceV q.e q.p q.i q.c a n k,markV E P i c] w fun r w'=>r= .returned (.bool false)∧Below w.heap.size w w':=by
 go_enter Tryz.func169,Tryz.ntmps169
 go_wp2
 all_goals first|(go_ret;exact⟨rfl,below_two _ _ _⟩)|(exfalso;omega)
set_option maxRecDepth 20000 in
set_option maxHeartbeats 4000000 in
theorem is_yes (e p i c:Nat) (d:List Int) (a:Option Addr) (k:Nat) (w:World):
  Calls Tryz.prog 169 #[pieceV e p i c a d.length k,markV e p i c] w fun r w'=>r= .returned (.bool (isB ⟨e,p,i,c,d⟩ e p i c))∧Below w.heap.size w w':=by
 by_cases h1:c<1
 ·have h1':(c:Int)<1:=by omega
  rw [show isB ⟨e,p,i,c,d⟩ e p i c=false by unfold isB;rw [decide_eq_false_iff_not];omega]
  go_enter Tryz.func169,Tryz.ntmps169
  go_wp2
  go_ret
  exact⟨rfl,below_two _ _ _⟩
 ·have h1':¬(c:Int)<1:=by omega
  by_cases h2:17<c
  ·have h2':17<(c:Int):=by omega
   rw [show isB ⟨e,p,i,c,d⟩ e p i c=false by unfold isB;rw [decide_eq_false_iff_not];omega]
   go_enter Tryz.func169,Tryz.ntmps169
   go_wp2
   go_ret
   exact⟨rfl,below_two _ _ _⟩
  ·have h2':¬17<(c:Int):=by omega
   have hl:=fun wx=>last_any e p i c wx (by omega)
   have HB:=Hid.mk (below_two w (.cells (pieceC e p i c a d.length k) 207) (.cells #[.int .i64 (e:Int), .int .i64 (p:Int), .int .i64 (i:Int), .int .i64 (c:Int)] 205))
   have hx0:((w.alloc (.cells (pieceC e p i c a d.length k) 207)).alloc (.cells #[.int .i64 (e:Int), .int .i64 (p:Int), .int .i64 (i:Int), .int .i64 (c:Int)] 205)).heap[w.heap.size]? =some (.cells (pieceC e p i c a d.length k) 207 (0,0)):=(Below.heap_alloc _ _ _ (by simp)).trans (heap_alloc_new _ _)
   have HX:=Hid.mk hx0
   by_cases h3:i+1=c
   ·rw [show isB ⟨e,p,i,c,d⟩ e p i c=decide (0<d.length) by unfold isB;rw [decide_eq_decide];constructor;(intro h;exact h.2.2.2.2.1);(intro h;exact⟨rfl,rfl,rfl,rfl,h,fun h'=>absurd h3 h',by omega,by omega⟩)]
    rw [show decide (i+1=c)=true by rw [decide_eq_true_eq];exact h3] at hl
    go_enter Tryz.func169,Tryz.ntmps169
    go_wp2_with fail
    refine(hl _).mono ?_
    rintro r w1 ⟨rfl,hb1⟩
    have c4:w1.cell? ⟨w.heap.size,4,none⟩=some (.slice a d.length k):=cell_of_block ((hb1.block _ (by simp;omega)).trans HX.out) (j:=4) rfl
    go_wp2
    go_ret
    exact⟨rfl,(Hid.mk (HB.out.trans (hb1.mono HB.out.size))).out⟩
   ·rw [show isB ⟨e,p,i,c,d⟩ e p i c=((d.length:Int) == 492) by unfold isB;rw [Bool.eq_iff_iff];rw [decide_eq_true_iff,beq_iff_eq];constructor;(intro h;have:d.length=492:=h.2.2.2.2.2.1 h3;omega);(intro h;exact⟨rfl,rfl,rfl,rfl,by show 0<d.length;omega,fun _=>by show d.length=492;omega,by omega,by omega⟩)]
    rw [show decide (i+1=c)=false by rw [decide_eq_false_iff_not];exact h3] at hl
    go_enter Tryz.func169,Tryz.ntmps169
    go_wp2_with fail
    refine(hl _).mono ?_
    rintro r w1 ⟨rfl,hb1⟩
    have c4:w1.cell? ⟨w.heap.size,4,none⟩=some (.slice a d.length k):=cell_of_block ((hb1.block _ (by simp;omega)).trans HX.out) (j:=4) rfl
    go_wp2
    go_ret
    exact⟨rfl,(Hid.mk (HB.out.trans (hb1.mono HB.out.size))).out⟩
theorem is_any (q:PC) (a:Option Addr) (k:Nat) (E P i c:Nat) (w:World):
  Calls Tryz.prog 169 #[pieceV q.e q.p q.i q.c a q.d.length k,markV E P i c] w fun r w'=>r= .returned (.bool (isB q E P i c))∧Below w.heap.size w w':=by
 by_cases h:q.e=E∧q.p=P∧q.i=i∧q.c=c
 ·obtain⟨rfl,rfl,rfl,rfl⟩:=h
  exact is_yes q.e q.p q.i q.c q.d a k w
 ·rw [show isB q E P i c=false by unfold isB;rw [decide_eq_false_iff_not];exact fun h'=>h ⟨h'.1,h'.2.1,h'.2.2.1,h'.2.2.2.1⟩]
  exact is_no q a q.d.length k E P i c w h
end Go.Proofs.YtkiehemoiapkkaaGreat
end
section
namespace Go.Proofs.YtkiehemoiapkkaaGreat
open Go.RowKit Go.Shelf
attribute [local go_sem] Oper.semAt_some
def KpB (n₀ b c:Nat) (W W':World):Prop:=Below n₀ W W'∧W'.heap[b]? =W.heap[b]?∧W'.heap[c]? =W.heap[c]?
theorem KpB.t {n₀ b c:Nat} {A B C:World} (h:KpB n₀ b c A B) (k:KpB n₀ b c B C):KpB n₀ b c A C:=⟨h.1.trans k.1,k.2.1.trans h.2.1,k.2.2.trans h.2.2⟩
theorem KpB.b {n₀ b c:Nat} {w:World} (hn:n₀≤w.heap.size) (hb:b<w.heap.size) (hc:c<w.heap.size) (W:World) (l:Nat) (o o':Obj) (hl:w.heap.size≤l) (h:W.heap[l]? =some o) (h1:o.isCells=false) (h2:o.isWalk=false):KpB n₀ b c W (W.putObj l o'):=
   ⟨belowK_b hn W l o o' hl h h1 h2,World.putObj_heap_other (by omega),World.putObj_heap_other (by omega)⟩
theorem KpB.refl (n₀ b c:Nat) (W:World):KpB n₀ b c W W:=⟨Below.refl _ _,rfl,rfl⟩
structure RingV (w:World) (n₀ g n:Nat) (R:Nat→PC) (A:Nat→Option Addr) (C:Nat→Nat):Prop where
 lt:g<n₀
 p:∀i,i<n→w.rangeAt g (i*5) (pieceC ((R i).e:Int) ((R i).p:Int) ((R i).i:Int) ((R i).c:Int) (A i) (R i).d.length (C i)).toList
theorem RingV.below {w w':World} {n₀ g n:Nat} {R:Nat→PC} {A:Nat→Option Addr} {C:Nat→Nat} (h:RingV w n₀ g n R A C) (hb:Below n₀ w w'):RingV w' n₀ g n R A C:=
   ⟨h.lt,fun i hi j v hv=>(hb.cell (p:=⟨g,i*5+j,none⟩) h.lt).trans (h.p i hi j v hv)⟩
set_option maxRecDepth 20000 in
set_option maxHeartbeats 4000000 in
theorem from_any (g n T:Nat) (w:World):
  Calls Tryz.prog 168 #[.slice (some ⟨g,0,none⟩) n n, .int .i64 (T:Int)] w fun e w'=>e= .returned (.func (.func 190) #[] #[.pointer (some ⟨w.heap.size,0,none⟩), .pointer (some ⟨w.heap.size+1,0,none⟩)])∧w'=(w.alloc (.cells #[.slice (some ⟨g,0,none⟩) n n] 171)).alloc (.cells #[.int .i64 (T:Int)] 3):=by
 go_enter Tryz.func168,Tryz.ntmps168
 go_wp2
 go_ret
 exact⟨rfl,rfl⟩
def encR (n T:Nat) (R:Nat→PC) (A:Nat→Option Addr) (C:Nat→Nat) (x:Fin n):Array Value:=
   #[.int .i64 ((T:Int)+(x.1:Int)),pieceV ((R ((T+x.1)%n)).e:Int) ((R ((T+x.1)%n)).p:Int) ((R ((T+x.1)%n)).i:Int) ((R ((T+x.1)%n)).c:Int) (A ((T+x.1)%n)) (R ((T+x.1)%n)).d.length (C ((T+x.1)%n))]
def InO {n:Nat} (xs:List (Fin n)) (k:Nat):Prop:=xs.map Fin.val=List.range k
theorem InO.nil {n:Nat}:InO ([]:List (Fin n)) 0:=rfl
theorem InO.length {n:Nat} {xs:List (Fin n)} {k:Nat} (h:InO xs k):xs.length=k:=by have:=congrArg List.length h;simpa using this
theorem InO.snoc {n:Nat} {xs:List (Fin n)} {k:Nat} (h:InO xs k) (hk:k<n):InO (xs ++ [⟨k,hk⟩]) (k+1):=by
 unfold InO at*
 rw [List.map_append,h,List.range_succ]
 rfl
theorem round_bool {F:Fence} {n:Nat} {P:Program} {l f:Nat} {tmps:Array Value} {assign body:Code} {w:World} {A B:World→Prop}
    (h:RoundIn F n P l f tmps assign body w fun e W'=>(e= .returned (.bool true)∧A W')∨(e= .returned (.bool false)∧B W')):
  RoundIn F n P l f tmps assign body w fun e W'=>∃r,e= .returned (.bool r)∧(r=true→A W')∧(r=false→B W'):=
 h.mono fun e W' h=>by
  rcases h with ⟨rfl,h⟩|⟨rfl,h⟩
  ·exact⟨true,rfl,fun _=>h,fun e=>by cases e⟩
  ·exact⟨false,rfl,fun e=>(by cases e),fun _=>h⟩
set_option maxRecDepth 100000 in
set_option maxHeartbeats 4000000 in
theorem from1_in (m:Nat) (hm:1≤m) (l Bs Bp n₀ g n T:Nat) (R:Nat→PC) (A:Nat→Option Addr) (C:Nat→Nat) (hn:1≤n) (hn2:n≤256) (hT:T≤1073741824) (J Jx:List (Fin n)→World→Prop)
    (hY:∀pre (x:Fin n) W,J pre W→pre.length<n→YieldAt Fence.wide (m-1) Tryz.prog l (encR n T R A C x) W fun e W'=>
     (e= .returned (.bool true)∧J (pre ++ [x]) W'∧KpB n₀ Bs Bp W W')∨(e= .returned (.bool false)∧Jx (pre ++ [x]) W'))
    (W:World) (hBs:W.heap[Bs]? =some (.cells #[.slice (some ⟨g,0,none⟩) n n] 171 (0,0))) (hBp:W.heap[Bp]? =some (.cells #[.int .i64 (T:Int)] 3 (0,0))) (hR:RingV W n₀ g n R A C) (hJ:AbidesFrom W.heap.size J) (h0:J [] W):
  CallsIn Fence.wide m Tryz.prog 190 #[.func (.yield l) #[] #[], .pointer (some ⟨Bs,0,none⟩), .pointer (some ⟨Bp,0,none⟩)] W fun e W'=>(∃v,e= .returned v)∧
     ((∃ys,InO ys n∧J ys W')∨(∃pre,(∃k,k<n∧InO pre (k+1))∧Jx pre W')):=by
 have hs0:=cell_of_block hBs (j:=0) rfl
 refine callsIn_of_wp Tryz.func190 rfl trivial ?_ rfl
 simp only [Tryz.ntmps190,List.size_toArray,List.length_cons,List.length_nil,Nat.reduceAdd,Nat.reduceSub,Array.replicate_succ,Array.replicate_zero,List.push_toArray,List.append_toArray,List.nil_append,List.cons_append]
 gi_wp2
 gi_loopw [8] (fun i wr=>∃(k:Nat) (pre:List (Fin n)),k≤n∧i= .int .i64 k∧InO pre k∧J pre wr∧KpB n₀ Bs Bp W wr)
    (fun i _=>n-(intOf i).toNat)
 case atStart=>exact⟨0, [],Nat.zero_le _,rfl,InO.nil,h0,KpB.refl _ _ _ _⟩
 case round=>
  obtain⟨k,pre,hk,rfl,hpre,hJs,hkp⟩:=hrel
  have hlen:=hpre.length
  by_cases hlt:k<n
  ·have hs1:=cell_of_block (hkp.2.1.trans hBs) (j:=0) rfl
   have hp1:=cell_of_block (hkp.2.2.trans hBp) (j:=0) rfl
   obtain⟨fn,tmps,assign,body,hy,hRo⟩:=hY pre ⟨k,hlt⟩ wr.drew (hJ pre wr wr.drew none hJs ⟨rfl,rfl,rfl,Nat.le_refl _,fun _ _ _=>rfl⟩ (fun r e=>by cases e)) (by omega)
   have hmx:Tryz.prog.follows .mixedOrders=true:=by kernel_rfl
   have hlt':(k:Int)<(n:Int):=by omega
   have hrg:=(hR.below hkp.1).p ((T+k)%n) (Nat.mod_lt _ hn)
   have hxn:=Nat.mod_lt (T+k) hn
   have hx:((T:Int)+(k:Int)).tmod (n:Int)=(((T+k)%n:Nat):Int):=by rw [Int.tmod_eq_emod_of_nonneg (by omega),←Int.natCast_add,←Int.natCast_emod]
   have hx2:((T:Int)+(k:Int))%(n:Int)=(((T+k)%n:Nat):Int):=by rw [←Int.natCast_add,←Int.natCast_emod]
   dsimp only [encR] at hy
   generalize (T+k)%n=x at*
   have e0:=hrg 0 _ rfl
   have e1:=hrg 1 _ rfl
   have e2:=hrg 2 _ rfl
   have e3:=hrg 3 _ rfl
   have e4:=hrg 4 _ rfl
   rw [Nat.add_zero] at e0
   have hxn':(x:Int)<(n:Int):=by omega
   have hx0:(0:Int)≤(x:Int):=by omega
   gi_wp2
   gi_region_with_o ((refine(round_bool hRo).mono ?_;rintro e W3 ⟨r,rfl,hr1,hr2⟩;have HR1:=hr1;have HR2:=hr2;clear hr1 hr2))
   all_goals
    cases r
    ·gi_wp2
     refine bodyPost_ret (results_none rfl _ _ _) rfl ?_
     exact⟨⟨_,rfl⟩, .inr ⟨_,⟨k,hlt,hpre.snoc hlt⟩,HR2 (by simp)⟩⟩
    ·gi_wp2
     go_roundw
     case rel=>exact⟨k+1,_,by omega,by go_num,hpre.snoc hlt,(HR1 (by simp)).1,hkp.t (KpB.t (B:=wr.drew) ⟨below_drew (Below.refl _ _),rfl,rfl⟩ (HR1 (by simp)).2)⟩
     case measure=>simp [intOf];omega
  ·obtain rfl:k=n:=by omega
   gi_wp2
   go_end0
   exact⟨⟨_,rfl⟩, .inl ⟨pre,hpre,hJs⟩⟩
theorem from_stops (m:Nat) (hm:1≤m) (Bs Bp n₀ g n T:Nat) (R:Nat→PC) (A:Nat→Option Addr) (C:Nat→Nat) (hn:1≤n) (hn2:n≤256) (hT:T≤1073741824) (w:World) (hn0:n₀≤w.heap.size)
    (hBs:w.heap[Bs]? =some (.cells #[.slice (some ⟨g,0,none⟩) n n] 171 (0,0))) (hBp:w.heap[Bp]? =some (.cells #[.int .i64 (T:Int)] 3 (0,0))) (hR:RingV w n₀ g n R A C):
  SeqStopsK Fence.wide m Tryz.prog 190 #[.pointer (some ⟨Bs,0,none⟩), .pointer (some ⟨Bp,0,none⟩)] (encR n T R A C) (KpB n₀ Bs Bp) (fun ys=>InO ys n) (fun pre=>∃k,k<n∧InO pre (k+1)) n w:=
 fun l J Jx W hW hJ _ hY h0=>from1_in m hm l Bs Bp n₀ g n T R A C hn hn2 hT J Jx hY W ((hW.block _ (lt_there hBs)).trans hBs) ((hW.block _ (lt_there hBp)).trans hBp) (hR.below (hW.mono hn0)) hJ h0
end Go.Proofs.YtkiehemoiapkkaaGreat
end
