import Derived.Test.YtkiehemoiapkkaaGreatW08
import Derived.Deep.AppendLies
import Derived.OrdersHeld
import Derived.Deep.RegionHeld
section
namespace Go.Proofs.YtkiehemoiapkkaaGreat
open Go.RowKit
def RecsAt (W:World) (B:Nat) (v:Value) (rs:List (List Int)) (X:Nat→Prop):Prop:=
 ∃vs,W.ownsRow B 44 1 v rs.length vs∧∀i (hi:i<rs.length),∃g c,vs[i]? =some (.slice (some ⟨g,0,none⟩) (rs[i]).length c)∧RowAt W 5 g c (bs rs[i])∧B≤g∧¬X g
theorem RecsAt.nil (W:World) (B:Nat) (X:Nat→Prop):RecsAt W B (.slice none 0 0) [] X:=⟨[],World.ownsRow_nil _ _ _ _,fun i hi=>by cases hi⟩
def CellsIn (W W':World):Prop:=∀(b:Nat) (cur:Array Value) (t:TypeId) (fz:Nat×Nat),W.heap[b]? =some (Obj.cells cur t fz)→W'.heap[b]? =some (Obj.cells cur t fz)
theorem owns_block {W:World} {B:Nat} {e:TypeId} {v:Value} {n:Nat} {xs:List Value} {g:Nat} (h:W.ownsRow B e 1 v n xs) (hv:v.ownBlock=some g):∃cur,W.heap[g]? =some (.cells cur e (0,0)):=by
 obtain⟨_,⟨rfl,_⟩|⟨g',cap,cur,rfl,_,hb,_⟩⟩:=h
 ·simp [Value.ownBlock] at hv
 ·simp [Value.ownBlock] at hv
  subst hv
  exact⟨cur,hb⟩
theorem owns_agree {W W':World} {B:Nat} {e:TypeId} {v:Value} {n:Nat} {xs:List Value} (h:W.ownsRow B e 1 v n xs) (hb:∀g,v.ownBlock=some g→W'.heap[g]? =W.heap[g]?):W'.ownsRow B e 1 v n xs:=by
 obtain⟨hl,h|⟨g,cap,cur,rfl,hg,hbk,h1⟩⟩:=h
 ·exact⟨hl, .inl h⟩
 ·exact⟨hl, .inr ⟨g,cap,cur,rfl,hg,(hb g rfl).trans hbk,h1⟩⟩
theorem RecsAt.step {W W':World} {B:Nat} {v:Value} {rs:List (List Int)} {X X':Nat→Prop} (h:RecsAt W B v rs X) (hrow:∀g,v.ownBlock=some g→W'.heap[g]? =W.heap[g]?)
    (hrec:∀g cur,W.heap[g]? =some (.cells cur 5 (0,0))→¬X g→W'.heap[g]? =W.heap[g]?) (hX:∀g,g<W.heap.size→X' g→X g):RecsAt W' B v rs X':=by
 obtain⟨vs,h1,h2⟩:=h
 refine⟨vs,owns_agree h1 hrow,fun i hi=>?_⟩
 obtain⟨g,c,e,hr,hB,hx⟩:=h2 i hi
 have hlt:=hr.lt
 obtain⟨cur,hc,hrest⟩:=hr
 exact⟨g,c,e,⟨cur,(hrec g cur hc hx).trans hc,hrest⟩,hB,fun h=>hx (hX g hlt h)⟩
theorem RecsAt.cells {W W':World} {B:Nat} {v:Value} {rs:List (List Int)} {X:Nat→Prop} (h:RecsAt W B v rs X) (hc:CellsIn W W'):RecsAt W' B v rs X:=by
 obtain⟨vs,h1,h2⟩:=h
 refine⟨vs,owns_agree h1 (fun g hg=>?_),fun i hi=>?_⟩
 ·obtain⟨cur,hb⟩:=owns_block h1 hg
  rw [hc _ _ _ _ hb,hb]
 ·obtain⟨g,c,e,⟨cur,hb,hrest⟩,hB,hx⟩:=h2 i hi
  exact⟨g,c,e,⟨cur,hc _ _ _ _ hb,hrest⟩,hB,hx⟩
theorem Own.cells {W W':World} {B:Nat} {v:Value} {l:List Int} (h:Own W B v l) (hc:CellsIn W W'):Own W' B v l:=
 owns_agree h (fun g hg=>by
  obtain⟨cur,hb⟩:=owns_block h hg
  rw [hc _ _ _ _ hb,hb])
structure Boxes (W:World) (B0 B E:Nat) (st:SS) (vR vr:Value):Prop where
 r:Boxed W B0 70 vR
 c:Boxed W (B0+1) 44 vr
 h:Boxed W (B0+2) 3 (.int .i64 (st.hd:Int))
 d:W.heap[B0+3]? =some (.cells #[.int .i64 (E:Int), .int .i64 (st.ps:Int), .int .i64 (st.j:Int), .int .i64 (st.c:Int)] 205 (0,0))
 rs:RecsAt W B vR st.rs (fun k=>vr.ownBlock=some k)
 rc:Own W B vr st.rc
 lo:B0+6≤B
theorem Boxes.cells {W W':World} {B0 B E:Nat} {st:SS} {vR vr:Value} (h:Boxes W B0 B E st vR vr) (hc:CellsIn W W'):Boxes W' B0 B E st vR vr:=
   ⟨hc _ _ _ _ h.r,hc _ _ _ _ h.c,hc _ _ _ _ h.h,hc _ _ _ _ h.d,h.rs.cells hc,h.rc.cells hc,h.lo⟩
theorem cellsIn_below {W W':World} (hb:Below W.heap.size W W'):CellsIn W W':=fun b _ _ _ h=>(hb.block b (lt_there h)).trans h
theorem cellsIn_grown {W W':World} {row:Option Nat} (hg:W.grownBy W' row) (hr:∀r,row=some r→∃o:Obj,W.heap[r]? =some o∧o.isCells=false):CellsIn W W':=fun b cur t fz h=>by
 refine(hg.block b (lt_there h) (fun e=>?_)).trans h
 obtain⟨o,ho,hc⟩:=hr b e.symm
 rw [h] at ho
 cases ho
 cases hc
theorem own_lo {W:World} {B:Nat} {e:TypeId} {v:Value} {n:Nat} {xs:List Value} {g:Nat} (h:W.ownsRow B e 1 v n xs) (hv:v.ownBlock=some g):B≤g:=by
 obtain⟨_,⟨rfl,_⟩|⟨g',cap,cur,rfl,hg,hb,_⟩⟩:=h
 ·simp [Value.ownBlock] at hv
 ·simp [Value.ownBlock] at hv
  omega
theorem type_ne {W:World} {g:Nat} {cur cur':Array Value} {t t':TypeId} {fz fz':Nat×Nat} (h:W.heap[g]? =some (.cells cur t fz)) (h':W.heap[g]? =some (.cells cur' t' fz')) (ht:t≠t'):False:=by
 rw [h] at h'
 cases h'
 exact ht rfl
theorem Boxes.grow {W w2:World} {B0 B E:Nat} {st:SS} {vR vr:Value} (h:Boxes W B0 B E st vR vr) {d:List Int} {g cap:Nat}
    (ho:w2.ownsRow B 5 1 (.slice (some ⟨g,0,none⟩) (st.rc.length+d.length) cap) (st.rc.length+d.length) (bs st.rc ++ bs d)) (hg:W.grownBy w2 vr.ownBlock) (hat:vr.ownBlock=some g∨g=W.heap.size):
  Boxed w2 B0 70 vR∧Boxed w2 (B0+1) 44 vr∧Boxed w2 (B0+2) 3 (.int .i64 (st.hd:Int))∧w2.heap[B0+3]? =W.heap[B0+3]?∧
   RecsAt w2 B vR st.rs (fun k=>k=g)∧Own w2 B (.slice (some ⟨g,0,none⟩) (st.rc.length+d.length) cap) (st.rc ++ d):=by
 have hlo:=h.lo
 have hne:∀k,k<B→vr.ownBlock≠some k:=fun k hk e=>by have:=own_lo h.rc e;omega
 have hb:∀k,k<B→k<W.heap.size→w2.heap[k]? =W.heap[k]? :=fun k hk hl=>hg.block k hl (fun e=>hne k hk e.symm)
 refine⟨(hb _ (by omega) h.r.lt).trans h.r,(hb _ (by omega) h.c.lt).trans h.c,(hb _ (by omega) h.h.lt).trans h.h,hb _ (by omega) (lt_there h.d),?_,?_⟩
 ·refine h.rs.step (fun k hk=>?_) (fun k cur hc hx=>?_) (fun k hk e=>?_)
  ·obtain⟨vs,h1,_⟩:=h.rs
   obtain⟨cur,hb1⟩:=owns_block h1 hk
   refine hg.block k (lt_there hb1) (fun e=>?_)
   obtain⟨cur2,hb2⟩:=owns_block h.rc e.symm
   exact type_ne hb1 hb2 (by decide)
  ·exact hg.block k (lt_there hc) (fun e=>hx e.symm)
  ·rcases hat with hat|hat
   ·rw [e];exact hat
   ·omega
 ·rw [←bs_append] at ho
  have:st.rc.length+d.length=(st.rc ++ d).length:=by simp
  unfold Own
  rw [this] at ho⊢
  exact ho
theorem recs_push {W W':World} {B:Nat} {v:Value} {rs:List (List Int)} {vs:List Value} {g c g' cap':Nat} {r:List Int} (hrow:W.ownsRow B 44 1 v rs.length vs)
    (hvs:∀i (hi:i<rs.length),∃g c,vs[i]? =some (.slice (some ⟨g,0,none⟩) (rs[i]).length c)∧RowAt W 5 g c (bs rs[i])∧B≤g) (hr:RowAt W 5 g c (bs r)) (hB:B≤g)
    (ho:W'.ownsRow B 44 1 (.slice (some ⟨g',0,none⟩) (rs.length+1) cap') (rs.length+1) (vs ++ [.slice (some ⟨g,0,none⟩) r.length c])) (hg:W.grownBy W' v.ownBlock):
  RecsAt W' B (.slice (some ⟨g',0,none⟩) (rs.length+1) cap') (rs ++ [r]) (fun _=>False):=by
 have hl:vs.length=rs.length:=by have:=hrow.1;simpa using this
 have keep:∀{x y:Nat} {l:List Int},RowAt W 5 x y (bs l)→RowAt W' 5 x y (bs l):=fun {x y l} h=>by
  obtain⟨cur,hc,hrest⟩:=h
  refine⟨cur,(hg.block x (lt_there hc) (fun e=>?_)).trans hc,hrest⟩
  obtain⟨cur2,hb2⟩:=owns_block hrow e.symm
  exact type_ne hc hb2 (by decide)
 refine⟨vs ++ [.slice (some ⟨g,0,none⟩) r.length c],by rw [List.length_append];exact ho,fun i hi=>?_⟩
 by_cases e:i<rs.length
 ·obtain⟨x,y,h1,h2,h3⟩:=hvs i e
  refine⟨x,y,?_,?_,h3,fun h=>h⟩
  ·rw [List.getElem?_append_left (by omega),h1,List.getElem_append_left e]
  ·rw [List.getElem_append_left e];exact keep h2
 ·have hi':i=rs.length:=by simp at hi;omega
  subst hi'
  refine⟨g,c,?_,?_,hB,fun h=>h⟩
  ·rw [List.getElem?_append_right (by omega),hl,Nat.sub_self]
   simp
  ·simp;exact keep hr
theorem Boxes.set {W W1:World} {B0 B E:Nat} {st:SS} {vR vr:Value} (h:Boxes W B0 B E st vR vr) (hk:Keeps (fun k=>k=B0+3) W W1) (ps j c:Nat)
    (hd:W1.heap[B0+3]? =some (.cells #[.int .i64 (E:Int), .int .i64 (ps:Int), .int .i64 (j:Int), .int .i64 (c:Int)] 205 (0,0))):Boxes W1 B0 B E {st with ps:=ps,j:=j,c:=c} vR vr:=by
 have hlo:=h.lo
 refine⟨(hk.block _ h.r.lt (by omega)).trans h.r,(hk.block _ h.c.lt (by omega)).trans h.c,(hk.block _ h.h.lt (by omega)).trans h.h,hd,?_,?_,hlo⟩
 ·refine h.rs.step (fun g hg=>?_) (fun g cur hc _=>?_) (fun _ _ e=>e)
  ·obtain⟨vs,h1,_⟩:=h.rs
   obtain⟨cur,hb⟩:=owns_block h1 hg
   exact hk.block g (lt_there hb) (by have:=own_lo h1 hg;omega)
  ·exact hk.block g (lt_there hc) (fun e=>type_ne hc (e▸h.d) (by decide))
 ·exact owns_agree h.rc (fun g hg=>by
   obtain⟨cur,hb⟩:=owns_block h.rc hg
   exact hk.block g (lt_there hb) (by have:=own_lo h.rc hg;omega))
structure RoundK (B0:Nat) (w W W':World):Prop where
 b:Below w.heap.size w W'
 k:KeepsFrom (B0+6) W W'
 p:KpB B0 (B0+1+1+1+1) (B0+1+1+1+1+1) W W'
theorem RoundK.below {B0:Nat} {w W W' W'':World} (h:RoundK B0 w W W') (_hB:w.heap.size=B0) (hz:B0+6≤W.heap.size) (hb:Below W'.heap.size W' W''):RoundK B0 w W W'':=by
 have hz':=h.k.size
 refine⟨h.b.trans (hb.mono h.b.size),⟨Nat.le_trans h.k.size hb.size,fun k o h1 h2 h3=>?_⟩,h.p.1.trans (hb.mono (by omega)),(hb.block _ (by omega)).trans h.p.2.1,(hb.block _ (by omega)).trans h.p.2.2⟩
 have:=h.k.same k o h1 h2 h3
 exact(hb.block k (lt_there this)).trans this
theorem RoundK.set {B0:Nat} {w W W':World} (h:RoundK B0 w W W') (hB:w.heap.size=B0) {b:Nat} (hb:B0≤b) (hb2:b<B0+4) (j:Nat) (v:Value):RoundK B0 w W (W'.setCell ⟨b,j,none⟩ v):=by
 refine⟨h.b.setCell (p:=⟨b,j,none⟩) (by rw [hB];exact hb) v,h.k.trans ((KeepsOthers.setCell _ _ _).from _),h.p.1.setCell (p:=⟨b,j,none⟩) hb v,?_,?_⟩
 ·exact(Below.heap_setCell W' ⟨b,j,none⟩ v _ (by show _≠b;omega)).trans h.p.2.1
 ·exact(Below.heap_setCell W' ⟨b,j,none⟩ v _ (by show _≠b;omega)).trans h.p.2.2
theorem RoundK.start {B0:Nat} {w W:World} (hb:Below w.heap.size w W):RoundK B0 w W W:=⟨hb,KeepsFrom.refl _ _,KpB.refl _ _ _ _⟩
theorem RoundK.grown {B0:Nat} {w W W' W'':World} {row:Option Nat} (h:RoundK B0 w W W') (hB:w.heap.size=B0) (hz:B0+6≤W.heap.size) (hg:W'.grownBy W'' row) (hr:∀r,row=some r→B0+6≤r∧∃cur t,W'.heap[r]? =some (.cells cur t (0,0))):RoundK B0 w W W'':=by
 have hz':=h.k.size
 have hne:∀k,k<B0+6→some k≠row:=fun k hk e=>by have:=(hr k e.symm).1;omega
 refine⟨h.b.grown hg h.b.size (fun k e=>by have:=(hr k e).1;omega),⟨Nat.le_trans h.k.size hg.size,fun k o h1 h2 h3=>?_⟩,h.p.1.grown hg (by omega) (fun k e=>by have:=(hr k e).1;omega),(hg.block _ (by omega) (hne _ (by omega))).trans h.p.2.1,(hg.block _ (by omega) (hne _ (by omega))).trans h.p.2.2⟩
 have h4:=h.k.same k o h1 h2 h3
 refine(hg.block k (lt_there h4) (fun e=>?_)).trans h4
 obtain⟨cur,t,hc⟩:=(hr k e.symm).2
 rw [h4] at hc
 cases hc
 cases h3
theorem RecsAt.low {W:World} {B B':Nat} {v:Value} {rs:List (List Int)} {X X':Nat→Prop} (h:RecsAt W B v rs X) (hB:B'≤B) (hX:∀k,X' k→X k):RecsAt W B' v rs X':=by
 obtain⟨vs,⟨h1,h2⟩,h3⟩:=h
 refine⟨vs,⟨h1,?_⟩,fun i hi=>?_⟩
 ·rcases h2 with h2|⟨g,cap,cur,e,hg,hrest⟩
  ·exact .inl h2
  ·exact .inr ⟨g,cap,cur,e,by omega,hrest⟩
 ·obtain⟨g,c,e,hr,hb,hx⟩:=h3 i hi
  exact⟨g,c,e,hr,by omega,fun h=>hx (hX _ h)⟩
theorem RecsAt.setb {W:World} {B:Nat} {v:Value} {rs:List (List Int)} {X:Nat→Prop} (h:RecsAt W B v rs X) {b:Nat} (hb:b<B) (j:Nat) (u:Value):RecsAt (W.setCell ⟨b,j,none⟩ u) B v rs X:=by
 obtain⟨vs,h1,h2⟩:=h
 refine⟨vs,owns_agree h1 (fun g hg=>Below.heap_setCell W ⟨b,j,none⟩ u g (by have:=own_lo h1 hg;show g≠b;omega)),fun i hi=>?_⟩
 obtain⟨g,c,e,⟨cur,hc,hrest⟩,hB,hx⟩:=h2 i hi
 exact⟨g,c,e,⟨cur,(Below.heap_setCell W ⟨b,j,none⟩ u g (by show g≠b;omega)).trans hc,hrest⟩,hB,hx⟩
theorem Own.setb {W:World} {B:Nat} {v:Value} {l:List Int} (h:Own W B v l) {b:Nat} (hb:b<B) (j:Nat) (u:Value):Own (W.setCell ⟨b,j,none⟩ u) B v l:=
 owns_agree h (fun g hg=>Below.heap_setCell W ⟨b,j,none⟩ u g (by have:=own_lo h hg;show g≠b;omega))
theorem heap_other {W:World} {b c j:Nat} {u:Value} {o:Obj} (h:W.heap[c]? =some o) (hne:c≠b):(W.setCell ⟨b,j,none⟩ u).heap[c]? =some o:=(Below.heap_setCell W ⟨b,j,none⟩ u c hne).trans h
theorem Boxes.more {W w2:World} {B0 B E:Nat} {st:SS} {vR vr:Value} (h:Boxes W B0 B E st vR vr) {d:List Int} {g cap:Nat}
    (ho:w2.ownsRow B 5 1 (.slice (some ⟨g,0,none⟩) (st.rc.length+d.length) cap) (st.rc.length+d.length) (bs st.rc ++ bs d)) (hg:W.grownBy w2 vr.ownBlock) (hat:vr.ownBlock=some g∨g=W.heap.size) (J:Int) (hJ:J=((st.j+1:Nat):Int)):
  Boxes ((w2.setCell ⟨B0+1,0,none⟩ (.slice (some ⟨g,0,none⟩) (st.rc.length+d.length) cap)).setCell ⟨B0+3,2,none⟩ (.int .i64 J)) B0 B E {st with rc:=st.rc ++ d,j:=st.j+1} vR (.slice (some ⟨g,0,none⟩) (st.rc.length+d.length) cap):=by
 subst hJ
 have hlo:=h.lo
 obtain⟨h1,h2,h3,h4,h5,h6⟩:=h.grow ho hg hat
 refine⟨heap_other (heap_other h1 (by omega)) (by omega),heap_other ((heap_setCell_same _ _ 0 _ _ _ h2).trans (by simp)) (by omega),heap_other (heap_other h3 (by omega)) (by omega),?_,?_,?_,hlo⟩
 ·have:=heap_setCell_same _ _ 2 _ _ (.int .i64 ((st.j+1:Nat):Int)) (heap_other (b:=B0+1) (j:=0) (u:= .slice (some ⟨g,0,none⟩) (st.rc.length+d.length) cap) (h4.trans h.d) (by omega))
  exact this.trans (by simp)
 ·refine((h5.setb (b:=B0+1) (by omega) 0 _).setb (b:=B0+3) (by omega) 2 _).low (Nat.le_refl _) (fun k hk=>?_)
  simp [Value.ownBlock] at hk
  exact hk.symm
 ·exact(h6.setb (by omega) 0 _).setb (by omega) 2 _
theorem Boxes.whole {W w2 w3:World} {B0 B E:Nat} {st:SS} {vR vr:Value} (h:Boxes W B0 B E st vR vr) {d:List Int} {g cap g' cap':Nat} {vs:List Value}
    (ho:w2.ownsRow B 5 1 (.slice (some ⟨g,0,none⟩) (st.rc.length+d.length) cap) (st.rc.length+d.length) (bs st.rc ++ bs d)) (hg:W.grownBy w2 vr.ownBlock) (hat:vr.ownBlock=some g∨g=W.heap.size) (hz:B≤W.heap.size)
    (hrow:w2.ownsRow B 44 1 vR st.rs.length vs) (hvs:∀i (hi:i<st.rs.length),∃g c,vs[i]? =some (.slice (some ⟨g,0,none⟩) (st.rs[i]).length c)∧RowAt w2 5 g c (bs st.rs[i])∧B≤g)
    (ho3:w3.ownsRow B 44 1 (.slice (some ⟨g',0,none⟩) (st.rs.length+1) cap') (st.rs.length+1) (vs ++ [.slice (some ⟨g,0,none⟩) (st.rc.length+d.length) cap])) (hd0:0<d.length) (o:Obj) (hg3:(w2.alloc o).grownBy w3 vR.ownBlock) (P:Nat) (Q:Int) (hQ:Q=(P:Int)):
  Boxes ((((w3.setCell ⟨B0,0,none⟩ (.slice (some ⟨g',0,none⟩) (st.rs.length+1) cap')).setCell ⟨B0+1,0,none⟩ (.slice none 0 0)).setCell ⟨B0+2,0,none⟩ (.int .i64 Q)).setCell ⟨B0+3,2,none⟩ (.int .i64 0)) B0 B E {st with rs:=st.rs ++ [st.rc ++ d],rc:= [],hd:=P,j:=0} (.slice (some ⟨g',0,none⟩) (st.rs.length+1) cap') (.slice none 0 0):=by
 subst hQ
 have hlo:=h.lo
 obtain⟨h1,h2,h3,h4,h5,h6⟩:=h.grow ho hg hat
 have hne:∀k,k<B→vR.ownBlock≠some k:=fun k hk e=>by have:=own_lo hrow e;omega
 have hb:∀k o',k<B→w2.heap[k]? =some o'→w3.heap[k]? =some o':=fun k o' hk hl=>(hg3.block k (by have:=lt_there hl;simp;omega) (fun e=>hne k hk e.symm)).trans ((Below.heap_alloc _ _ _ (lt_there hl)).trans hl)
 have hBg:B≤g:=by
  rcases hat with hat|hat
  ·exact own_lo h.rc hat
  ·omega
 have hrg:RowAt w2 5 g cap (bs (st.rc ++ d)):=by
  obtain⟨g1,e,_,_,hr⟩:=h6.row (by simp;omega)
  cases e
  exact hr
 have hl:st.rc.length+d.length=(st.rc ++ d).length:=by simp
 rw [hl] at ho3
 have hpush:=recs_push (W:=w2.alloc o) (W':=w3) (r:=st.rc ++ d) (owns_agree hrow (fun g hg=>by
   obtain⟨cur,hc⟩:=owns_block hrow hg
   exact Below.heap_alloc _ _ _ (lt_there hc))) (fun i hi=>by
   obtain⟨x,y,e1,e2,e3⟩:=hvs i hi
   exact⟨x,y,e1,e2.agree (Below.heap_alloc _ _ _ e2.lt),e3⟩) (hrg.agree (Below.heap_alloc _ _ _ hrg.lt)) hBg ho3 hg3
 have q0:=hb _ _ (by omega) h1
 have q1:=hb _ _ (by omega) h2
 have q2:=hb _ _ (by omega) h3
 have q3:=hb _ _ (by omega) (h4.trans h.d)
 refine⟨?_,?_,?_,?_,?_,Own.nil _ _,hlo⟩
 ·exact heap_other (heap_other (heap_other ((heap_setCell_same _ _ 0 _ _ _ q0).trans (by simp)) (by omega)) (by omega)) (by omega)
 ·exact heap_other (heap_other ((heap_setCell_same _ _ 0 _ _ _ (heap_other q1 (by omega))).trans (by simp)) (by omega)) (by omega)
 ·exact heap_other ((heap_setCell_same _ _ 0 _ _ _ (heap_other (heap_other q2 (by omega)) (by omega))).trans (by simp)) (by omega)
 ·exact(heap_setCell_same _ _ 2 _ _ _ (heap_other (heap_other (heap_other q3 (by omega)) (by omega)) (by omega))).trans (by simp)
 ·exact((((hpush.setb (b:=B0) (by omega) 0 _).setb (b:=B0+1) (by omega) 0 _).setb (b:=B0+2) (by omega) 0 _).setb (b:=B0+3) (by omega) 2 _).low (Nat.le_refl _) (fun k hk=>by simp [Value.ownBlock] at hk)
end Go.Proofs.YtkiehemoiapkkaaGreat
end
section
namespace Go.Proofs.YtkiehemoiapkkaaGreat
open Go.RowKit
def noDefer (ops:Array Oper):Bool:=ops.all fun o=>match o.op with| .defer _=>false|_=>true
theorem noDefer_spec {ops:Array Oper} (h:noDefer ops=true) {i:Nat} {o:Oper} (hi:ops[i]? =some o):∀c,o.op≠ .defer c:=by
 intro c e
 have:=Array.all_eq_true_iff_forall_mem.1 h o (Array.mem_of_getElem? hi)
 rw [e] at this
 cases this
section
variable {P:Program} {ops:Array Oper} {Q:Exit→Act→World→Prop} {l n:Nat}
theorem rows_wide {row:String} {args:Array Value} {w:World} {R:Value→World→Prop} (h:Rows P row args w R):RowsIn (Fence.wide.inRound l) n P row args w R:=fun c cs _=>by
 obtain⟨v,w',hr,hs⟩:=h c cs
 exact⟨v,w',hr,stepsIn_wide.2 hs⟩
theorem wpIn_of_wp {o:Oper} {a:Act} {w:World} {K:Act→World→Prop} (hnd:∀c,o.op≠ .defer c) (h:o.wp P a w K Q):o.wpIn (Fence.wide.inRound l) n P a w K Q:=by
 unfold Oper.wpIn
 refine⟨fun _ _=>trivial,?_⟩
 rw [Oper.semAt_eq _ _ _ hnd]
 unfold Oper.wp at h
 generalize (execOp a.eval o).run P w=r at*
 cases r with
 |ok x w'=>
  cases x <;> simp only [Oper.upon,Oper.uponIn] at h⊢<;>
   first
    |exact h
    |exact⟨fun h=>(by cases h),CallsIn.inRound l (callsIn_wide.2 h)⟩
    |exact⟨fun h=>(by cases h),rows_wide h⟩
    |exact h.elim
 |halt x w'=>cases x <;> simp only [Oper.upon,Oper.uponIn] at h⊢<;> exact h
theorem wpOpIn_of {i:Nat} {a:Act} {w:World} {K:Act→World→Prop} (hd:noDefer ops=true) (hQ:¬LetsOut Q) (h:wpOp P ops Q i K a w):wpOpIn (Fence.wide.inRound l) n P ops Q i K a w:=by
 unfold wpOp at h
 unfold wpOpIn
 cases hi:ops[i]? with
 |none=>simp only [hi] at h;exact h
 |some o=>
  simp only [hi] at h⊢
  split
  ·rename_i hw
   simp only [hw,if_true] at h
   rcases h with h|h
   ·exact wpIn_of_wp (noDefer_spec hd hi) h
   ·exact absurd h.2 hQ
  ·rename_i hw
   simp only [hw] at h
   exact⟨fun _ _=>trivial,h⟩
theorem wpAnyIn_of {md:Region.Mode} (hd:noDefer ops=true) (hQ:¬LetsOut Q):∀(fuel:Nat) (listed:Array Bool) (a:Act) (w:World),wpAny P md ops Q fuel listed a w→wpAnyIn (Fence.wide.inRound l) n P md ops Q fuel listed a w
 |0,_,_,_,h=>h
 |fuel+1,_listed,_a,_w,h=>⟨h.1,fun i hi=>wpOpIn_mono (fun a w h=>wpAnyIn_of hd hQ fuel _ a w h) (wpOpIn_of hd hQ (h.2 i hi))⟩
theorem wpIn_region_held {id:Nat} {a:Act} {w:World} {K:Act→World→Prop} {S:World→Prop} (hm:P.follows .mixedOrders=true) (hd:noDefer ops=true) (h:wpAnyH P .any ops (Exit.then K (fun _ _ _=>False)) S ops.size (Array.replicate ops.size false) a w.drew):
    (Code.region id ops true).wpIn (Fence.wide.inRound l) n P (Exit.then K Q) a w:=
 wpIn_mono (wpIn_region_any hm (wpAnyIn_of hd (fun ⟨_,_,h⟩=>h) _ _ _ _ (wpAny_of_held _ _ _ _ h))) (fun e a w h=>by cases e <;> first|exact h|exact h.elim)
theorem wp_append_run {o:Oper} {a:Act} {w w':World} {K:Act→World→Prop} (s x:Operand) (t:TypeId) (ho:o.op= .call {callee:= .builtin .append,args:= #[s,x],argTypes:= #[t,t]}) (v u r:Value) (hs:a.eval s=v) (hx:a.eval x=u)
    (hr:(Builtin.append_ #[t,t] o.type #[v,u]).run P w= .ok r w') (h:K (a.put o.dst r) w'):o.wp P a w K Q:=by
 unfold Oper.wp execOp
 simp only [ho,resolve,invoke,builtin,Sem.run_bind,Sem.run_pure,Result.andThen_ok,List.map_toArray,List.map_cons,List.map_nil,hs,hx,hr]
 exact h
theorem wpListIn_append_run {o:Oper} {rest:List Oper} {a:Act} {w w':World} (hg:o.guard=none) (s x:Operand) (t:TypeId) (ho:o.op= .call {callee:= .builtin .append,args:= #[s,x],argTypes:= #[t,t]}) (v u r:Value) (hs:a.eval s=v) (hx:a.eval x=u)
    (hr:(Builtin.append_ #[t,t] o.type #[v,u]).run P w= .ok r w') (h:wpListIn (Fence.wide.inRound l) n P ops Q rest (a.put o.dst r) w'):wpListIn (Fence.wide.inRound l) n P ops Q (o :: rest) a w:=
 wpListIn_plain hg fun _ hK=>wpIn_of_wp (by rw [ho];intro c hc;cases hc) (wp_append_run s x t ho v u r hs hx hr (hK _ _ h))
end
end Go.Proofs.YtkiehemoiapkkaaGreat
end
