import Derived.Test.YtkiehemoiapkkaaGreatW01
import Derived.Test.YtkiehemoiapkkaaGreatW03
import Derived.Test.YtkiehemoiapkkaaGreatW04
import Derived.Test.YtkiehemoiapkkaaGreatW09
import Derived.Test.YtkiehemoiapkkaaGreatW10
import Derived.Test.YtkiehemoiapkkaaGreatW14
import Derived.Test.YtkiehemoiapkkaaGreatW16
import Derived.Test.YtkiehemoiapkkaaGreatW20
import Derived.Deep.RegionHeld3
section
namespace Go.Proofs.YtkiehemoiapkkaaGreat
open Go.RowKit Go.Maps
theorem ocatch_panic (g1 g2:Nat) (a0:Value) (x:Value) (w:World) (h1:w.heap[g1]? =some (.cells #[a0] 34 (0,0))) (h2:w.heap[g2]? =some (.cells #[x] 39 (0,0))) (hne:g1≠g2):
  CallsD Tryz.prog 51 #[.pointer (some ⟨g1,0,none⟩), .pointer (some ⟨g2,0,none⟩)] (.panicking sGave) w fun e u' w'=>
   e= .returned (.tuple #[])∧u'= .panicking [{v:= .iface 39 (.int .i64 6),recovered:=true}]∧w'=(w.setCell ⟨g1,0,none⟩ (.pointer none)).setCell ⟨g2,0,none⟩ (.int .i64 6):=by
 have hne':¬g2=g1:=fun e=>hne e.symm
 refine callsD_of_wpS Tryz.func51 rfl fun c₀ cs hu=>?_
 apply wpS_seq
 apply wpS_region
 simp [wpOpsS,go_sem,recoverD,hu,Tryz.ntmps51,Exit.thenS]
 refine wpS_cond (t:=true) (by simp [Act.eval,Array.replicate]) ?_
 simp only [if_true]
 apply wpS_region
 simp [wpOpsS,go_sem,(cell_of_block h1 (j:=0) rfl),(frozen_of_block h1 0),(cell_of_block h2 (j:=0) rfl),(frozen_of_block h2 0),bodyPostS,results,Tryz.results51]
theorem ocatch_idle (g1 g2:Nat) (w:World):
  CallsD Tryz.prog 51 #[.pointer (some ⟨g1,0,none⟩), .pointer (some ⟨g2,0,none⟩)] .returning w fun e u' w'=>e= .returned (.tuple #[])∧u'= .returning∧w'=w:=by
 refine callsD_of_wpS Tryz.func51 rfl fun c₀ cs hu=>?_
 apply wpS_seq
 apply wpS_region
 simp [wpOpsS,go_sem,recoverD,hu,Tryz.ntmps51,Exit.thenS]
 refine wpS_cond (t:=false) (by simp [Act.eval,Array.replicate]) ?_
 simp only [Bool.false_eq_true,if_false]
 refine wpS_of_wp (wp_skip ?_)
 cases c₀
 simp_all [bodyPostS,results,Tryz.results51]
def SOut (S:DS) (s:Nat) (x:Int) (S':DS):Prop:=
   (LayOut S s ly0 x∧x≠0∧S'=S)∨
   (SupAt (S.now 0) s∧S.fuse≠0∧(((lopen S s 1 ((lyOf (S.now 0)).log:Nat)).1=x∧x≠0∧S'=(lopen S s 1 ((lyOf (S.now 0)).log:Nat)).2)∨
    ((lopen S s 1 ((lyOf (S.now 0)).log:Nat)).1=0∧∃rs hd,TellsAt S 1 (lyOf (S.now 0)).log rs hd∧
     ((rdAll (lyOf (S.now 0)).blocks [] rs=none∧x=6∧S'=(lopen S s 1 ((lyOf (S.now 0)).log:Nat)).2)∨
    ∃ov,rdAll (lyOf (S.now 0)).blocks [] rs=some ov∧
       (((sredo (lopen S s 1 ((lyOf (S.now 0)).log:Nat)).2 s (lyOf (S.now 0)) ov rs).1=x∧x≠0∧S'=(sredo (lopen S s 1 ((lyOf (S.now 0)).log:Nat)).2 s (lyOf (S.now 0)) ov rs).2)∨
        ((sredo (lopen S s 1 ((lyOf (S.now 0)).log:Nat)).2 s (lyOf (S.now 0)) ov rs).1=0∧((lgOf S 1 (lyOf (S.now 0)).log hd).start (sredo (lopen S s 1 ((lyOf (S.now 0)).log:Nat)).2 s (lyOf (S.now 0)) ov rs).2 s).1=x∧S'=((lgOf S 1 (lyOf (S.now 0)).log hd).start (sredo (lopen S s 1 ((lyOf (S.now 0)).log:Nat)).2 s (lyOf (S.now 0)) ov rs).2 s).2.1))))))
theorem obox {w w2:World} {F:Nat→Prop} {p s c:Nat} {S:DS} (hlt:∀k,F k→k<w.heap.size) (hl2:w.heap.size+1<w2.heap.size) (hg1:w2.heap[w.heap.size]? =some (.cells #[.pointer none] 34 (0,0))) (hg2:w2.heap[w.heap.size+1]? =some (.cells #[.int .i64 0] 39 (0,0))) (hd:B.DiskR w2 F p s S c) (hk:Keeps F w w2) (x:Int) (o:Obj):
    ((w2.setCell ⟨w.heap.size+1,0,none⟩ (.int .i64 x)).alloc o).heap[w.heap.size]? =some (.cells #[.pointer none] 34 (0,0))∧((w2.setCell ⟨w.heap.size+1,0,none⟩ (.int .i64 x)).alloc o).heap[w.heap.size+1]? =some (.cells #[.int .i64 x] 39 (0,0))∧((w2.setCell ⟨w.heap.size+1,0,none⟩ (.int .i64 x)).alloc o).heap[w2.heap.size]? =some o∧B.DiskR ((w2.setCell ⟨w.heap.size+1,0,none⟩ (.int .i64 x)).alloc o) F p s S c∧Keeps F w ((w2.setCell ⟨w.heap.size+1,0,none⟩ (.int .i64 x)).alloc o)∧((w2.setCell ⟨w.heap.size+1,0,none⟩ (.int .i64 x)).alloc o).heap.size=w2.heap.size+1:=by
 have k1:=Keeps.setCell (F:=fun k=>k=w.heap.size+1) w2 (p:=⟨w.heap.size+1,0,none⟩) rfl (.int .i64 x)
 have hs:=size_setCell w2 ⟨w.heap.size+1,0,none⟩ (.int .i64 x)
 have b1:=Below.heap_alloc (w2.setCell ⟨w.heap.size+1,0,none⟩ (.int .i64 x)) o
 refine⟨(b1 _ (by omega)).trans ((k1.block _ (by omega) (by omega)).trans hg1),(b1 _ (by omega)).trans ?_,?_,?_,?_,by rw [World.size_alloc,hs]⟩
 ·rw [heap_setCell_same _ _ _ _ _ _ hg2]
  rfl
 ·rw [←hs]
  exact heap_alloc_new _ _
 ·exact(hd.keep k1 (fun k hF e=>by have:=hlt _ hF;omega)).boxed o
 ·exact(hk.trans k1 (fun k e=> .inr (by omega))).trans (Keeps.alloc (fun _=>False) _ o) (fun _ h=>h.elim)
theorem oset {w w3:World} {F:Nat→Prop} {p s c:Nat} {S:DS} {u v:Value} {y x:Int} (hlt:∀k,F k→k<w.heap.size∨w.heap.size+2≤k) (hg1:w3.heap[w.heap.size]? =some (.cells #[u] 34 (0,0))) (hg2:w3.heap[w.heap.size+1]? =some (.cells #[.int .i64 y] 39 (0,0))) (hd:B.DiskR w3 F p s S c):
    ((w3.setCell ⟨w.heap.size,0,none⟩ v).setCell ⟨w.heap.size+1,0,none⟩ (.int .i64 x)).heap[w.heap.size]? =some (.cells #[v] 34 (0,0))∧((w3.setCell ⟨w.heap.size,0,none⟩ v).setCell ⟨w.heap.size+1,0,none⟩ (.int .i64 x)).heap[w.heap.size+1]? =some (.cells #[.int .i64 x] 39 (0,0))∧B.DiskR ((w3.setCell ⟨w.heap.size,0,none⟩ v).setCell ⟨w.heap.size+1,0,none⟩ (.int .i64 x)) F p s S c∧Keeps (fun k=>k=w.heap.size∨k=w.heap.size+1) w3 ((w3.setCell ⟨w.heap.size,0,none⟩ v).setCell ⟨w.heap.size+1,0,none⟩ (.int .i64 x)):=by
 have k1:=Keeps.setCell (F:=fun k=>k=w.heap.size∨k=w.heap.size+1) w3 (p:=⟨w.heap.size,0,none⟩) (.inl rfl) v
 have k2:=Keeps.setCell (F:=fun k=>k=w.heap.size∨k=w.heap.size+1) (w3.setCell ⟨w.heap.size,0,none⟩ v) (p:=⟨w.heap.size+1,0,none⟩) (.inr rfl) (.int .i64 x)
 have h1:(w3.setCell ⟨w.heap.size,0,none⟩ v).heap[w.heap.size]? =some (.cells #[v] 34 (0,0)):=by
  rw [heap_setCell_same _ _ _ _ _ _ hg1]
  rfl
 have h2:(w3.setCell ⟨w.heap.size,0,none⟩ v).heap[w.heap.size+1]? =some (.cells #[.int .i64 y] 39 (0,0)):=(Below.heap_setCell _ _ _ _ (by simp)).trans hg2
 refine⟨(Below.heap_setCell _ _ _ _ (by simp)).trans h1,?_,?_,k1.trans k2 (fun _ h=> .inl h)⟩
 ·rw [heap_setCell_same _ _ _ _ _ _ h2]
  rfl
 ·exact hd.keep (k1.trans k2 (fun _ h=> .inl h)) (fun k hF e=>by have:=hlt _ hF;omega)
set_option maxRecDepth 20000 in
set_option maxHeartbeats 8000000 in
theorem stOpen_no {w:World} {F:Nat→Prop} {p s c:Nat} {S:DS} (h:B.DiskR w F p s S c) (hby:S.Byt) (hbig:S.puts.length+1≤4000000000000) (hno:S.fuse=0∨¬SupAt (S.now 0) s):
  Calls Tryz.prog 19 #[.pointer (some ⟨p,0,none⟩)] w fun e w'=>∃x,e= .returned (.tuple #[.pointer none, .int .i64 x])∧SOut S s x S∧B.DiskR w' F p s S (c+1)∧Keeps F w w':=by
 obtain⟨w1,hw1⟩:∃w1,w1=(w.alloc (.cells #[.pointer none] 34)).alloc (.cells #[.int .i64 0] 39):=⟨_,rfl⟩
 have hB1:Below w.heap.size w w1:=by rw [hw1];exact cbelow_two w _ _
 have hsz1:w1.heap.size=w.heap.size+2:=by rw [hw1];simp
 have hg1:w1.heap[w.heap.size]? =some (.cells #[.pointer none] 34 (0,0)):=by rw [hw1];exact heap_alloc2_old _ _ _
 have hg2:w1.heap[w.heap.size+1]? =some (.cells #[.int .i64 0] 39 (0,0)):=by rw [hw1];exact heap_alloc2_new _ _ _
 have hlt:=h.lt
 go_enter_defers Tryz.func19,Tryz.ntmps19
 go_wp2_with fail
 rw [←hw1]
 refine(layoutOf_any (h.later hB1) hby hbig).mono ?_
 rintro e w2 ⟨y,x,rfl,hlo,hd2,hk2⟩
 have hz2:=hk2.size
 have hx0:x≠0∧y=ly0:=by
  rcases hlo with ⟨_,h2,h3⟩|⟨h1,h2,_⟩|⟨_,_,h2,h3⟩
  ·exact⟨by omega,h2⟩
  ·rcases hno with h|h
   ·exact absurd h h1
   ·exact absurd h2 h
  ·exact⟨by omega,h2⟩
 obtain⟨hx,rfl⟩:=hx0
 have HO:(SOut S s x S):= .inl ⟨hlo,hx,rfl⟩
 have hgg1:=(hk2.block w.heap.size (by omega) (fun hF=>by have:=hlt _ hF;omega)).trans hg1
 have hgg2:=(hk2.block (w.heap.size+1) (by omega) (fun hF=>by have:=hlt _ hF;omega)).trans hg2
 have HK:(B.DiskR w2 F p s S (c+1)∧Keeps F w w2):=⟨hd2,(Keeps.of_below F hB1).trans hk2 (fun _ h=> .inl h)⟩
 have d0:=cell_of_block hgg2 (j:=0) rfl
 have e0:=frozen_of_block hgg2 0
 have dx2:(x != 0)=true:=by simp [hx]
 have hl2:w.heap.size+1<w2.heap.size:=by omega
 obtain⟨o1,o2,_,o4,o5,_⟩:=obox hlt hl2 hgg1 hgg2 HK.1 HK.2 x (.cells #[.int .i64 0, .int .i64 0, .int .i64 0, .int .i64 0, .int .i64 0] 87)
 dsimp only [lyV]
 go_upto_region 3 with fail
 generalize (w2.setCell ⟨w.heap.size+1,0,none⟩ (.int .i64 x)).alloc (.cells #[.int .i64 0, .int .i64 0, .int .i64 0, .int .i64 0, .int .i64 0] 87)=w3 at*
 have HW:=(And.intro o1 (And.intro o2 (And.intro o4 o5)))
 have c1:=cell_of_block o1 (j:=0) rfl
 have f1:=frozen_of_block o1 0
 have c2:=cell_of_block o2 (j:=0) (u:= .int .i64 x) rfl
 have f2:=frozen_of_block o2 0
 go_upto_region 4 with fail
 go_region
 obtain⟨p1,p2,p3,p4⟩:=oset (w:=w) (v:= .pointer none) (x:=x) (fun k hF=> .inl (hlt k hF)) HW.1 HW.2.1 HW.2.2.1
 generalize (w3.setCell ⟨w.heap.size,0,none⟩ (.pointer none)).setCell ⟨w.heap.size+1,0,none⟩ (.int .i64 x)=w4 at*
 have hdw:Below w4.heap.size w4 w4.drew:=below_drew (Below.refl _ _)
 have HF:(B.DiskR w4.drew F p s S (c+1)∧Keeps F w w4.drew):=⟨p3.later hdw,(HW.2.2.2.trans p4 (fun k e=> .inr (by omega))).trans (Keeps.of_below (fun _=>False) hdw) (fun _ h=>h.elim)⟩
 have q1:=cell_of_block ((hdw.block _ (lt_there p1)).trans p1) (j:=0) (u:= .pointer none) rfl
 have q2:=cell_of_block ((hdw.block _ (lt_there p2)).trans p2) (j:=0) (u:= .int .i64 x) rfl
 generalize w4.drew=w5 at*
 go_wp2
 refine leaves_cons (f:=51) (args:= #[.pointer (some ⟨w.heap.size,0,none⟩), .pointer (some ⟨w.heap.size+1,0,none⟩)]) (by simp) (by simp [go_sem]) ?_
 refine(ocatch_idle _ _ _).mono ?_
 rintro e u' w'' ⟨rfl,rfl,rfl⟩
 simp [Leaves,settle,results,Tryz.results19,go_sem,q1,q2]
 exact⟨HO,HF⟩
end Go.Proofs.YtkiehemoiapkkaaGreat
end
section
namespace Go.Proofs.YtkiehemoiapkkaaGreat
open Go.RowKit
theorem infoMaps:(Tryz.prog.info? 69).map (·.size)=some 2:=by kernel_rfl
theorem maps_range {w:World} {g:Nat} {a b:Value} (hx:w.heap[g]? =some (.cells #[a,b] 69 (0,0))):w.rangeAt g 0 [a,b]:=by
 intro j v hv
 match j,hv with
 |0,hv=>cases hv;exact cell_of_block hx (j:=0) rfl
 |1,hv=>cases hv;exact cell_of_block hx (j:=1) rfl
 |j+2,hv=>simp at hv
theorem set2 {w:World} {b:Nat} {t:TypeId} {a0 a1:Value} (v0 v1:Value) (h:w.heap[b]? =some (.cells #[a0,a1] t (0,0))):
    (w.setCells b 0 [v0,v1]).heap[b]? =some (.cells #[v0,v1] t (0,0)):=by
 have h0:=(heap_setCell_same w b 0 _ t v0 h).trans (by rfl:_=some (.cells #[v0,a1] t (0,0)))
 exact(heap_setCell_same _ b 1 _ t v1 h0).trans rfl
section
variable {w:World} {l1 l2:List Bool}
set_option maxRecDepth 20000 in
set_option maxHeartbeats 4000000 in
theorem twin6_any {g1 c1 g2 c2:Nat} (h1:RowAt w 4 g1 c1 (bls l1)) (h2:RowAt w 4 g2 c2 (bls l2)) (hl1:l1.length=4096) (hl2:l2.length=4096):
  Calls Tryz.prog 109 #[.agg #[.slice (some ⟨g1,0,none⟩) 4096 c1, .slice (some ⟨g2,0,none⟩) 4096 c2]] w fun e w'=>∃u1 u2:Nat,∃d1 d2,e= .returned (.agg #[.slice (some ⟨u1,0,none⟩) 4096 d1, .slice (some ⟨u2,0,none⟩) 4096 d2])∧w.heap.size≤u1∧w.heap.size≤u2∧u1≠u2∧RowAt w' 4 u1 d1 (bls l1)∧RowAt w' 4 u2 d2 (bls l2)∧Below w.heap.size w w':=by
 obtain⟨w1,hw1⟩:∃w1,w1=(w.alloc (.cells #[.slice (some ⟨g1,0,none⟩) 4096 c1, .slice (some ⟨g2,0,none⟩) 4096 c2] 69)).alloc (.cells #[.slice none 0 0, .slice none 0 0] 69):=⟨_,rfl⟩
 have hB1:Below w.heap.size w w1:=by rw [hw1];exact cbelow_two w _ _
 have hx1:w1.heap[w.heap.size]? =some (.cells #[.slice (some ⟨g1,0,none⟩) 4096 c1, .slice (some ⟨g2,0,none⟩) 4096 c2] 69 (0,0)):=by rw [hw1];exact heap_alloc2_old _ _ _
 have hx2:w1.heap[w.heap.size+1]? =some (.cells #[.slice none 0 0, .slice none 0 0] 69 (0,0)):=by rw [hw1];exact heap_alloc2_new _ _ _
 have hsz:w1.heap.size=w.heap.size+2:=by rw [hw1];simp
 have hBd:Below w.heap.size w w1.drew:=below_drew hB1
 have c0:w1.drew.cell? ⟨w.heap.size,0,none⟩=some (.slice (some ⟨g1,0,none⟩) 4096 c1):=cell_of_block (w:=w1.drew) hx1 (j:=0) rfl
 have c1':w1.drew.cell? ⟨w.heap.size,1,none⟩=some (.slice (some ⟨g2,0,none⟩) 4096 c2):=cell_of_block (w:=w1.drew) hx1 (j:=1) rfl
 have k1:=copied_any (h1.agree (hBd.block _ h1.lt)) (by omega)
 rw [hl1] at k1
 have HK2:Hid (∀w2,Below w1.drew.heap.size w1.drew w2→Calls Tryz.prog 144 #[.slice (some ⟨g2,0,none⟩) 4096 c2] w2 fun e w'=>∃v,e= .returned v∧BL w' w2.heap.size v l2∧Below w2.heap.size w2 w'):=fun w2 hb=>by
  have:=copied_any (w:=w2) ((h2.agree (hBd.block _ h2.lt)).agree (hb.block _ (h2.agree (hBd.block _ h2.lt)).lt)) (by omega)
  rwa [hl2] at this
 have HB:=Hid.mk hBd
 have HX2:Hid (w1.drew.heap[w.heap.size+1]? =some (.cells #[.slice none 0 0, .slice none 0 0] 69 (0,0))):=hx2
 have HL1:=Hid.mk hl1
 have HL2:=Hid.mk hl2
 have hszd:w1.drew.heap.size=w.heap.size+2:=hsz
 clear h1 h2 hB1 hBd hx1 hx2 hl1 hl2 hsz
 go_enter Tryz.func109,Tryz.ntmps109
 go_wp2_with fail
 rw [←hw1]
 clear hw1
 refine wp_region_held_drew (S:=(fun w'=>w'.cell? ⟨w.heap.size,0,none⟩=some (.slice (some ⟨g1,0,none⟩) 4096 c1)∧w'.cell? ⟨w.heap.size,1,none⟩=some (.slice (some ⟨g2,0,none⟩) 4096 c2))) (by kernel_rfl) (⟨c0,c1'⟩) (fun hHeld=>?_)
 refine wpAnyH_take (i:=0) (oi:={dst:=some 3,op:=Op.fieldAddr 69 (Operand.tmp 1) 0,type:=0,pos:= "ref.go:53",after:= #[],guard:=none}) (v:= .pointer (some ⟨w.heap.size,0,none⟩)) rfl (by kernel_rfl) (by kernel_rfl) (by kernel_rfl) (fun _ _ _ h=>h) (Or.inl ⟨by rfl,?_⟩) (by assumption) ?_
 ·intro w hSw
  (try dsimp only at hSw)
  go_simp
 try simp only [Act.put,List.setIfInBounds_toArray,List.set_cons_zero,List.set_cons_succ]
 refine wpAnyH_take (i:=1) (oi:={dst:=some 4,op:=Op.load 66 (Operand.tmp 3),type:=66,pos:= "ref.go:53",after:= #[{on:=0,ground:=Ground.data}],guard:=none}) (v:= .slice (some ⟨g1,0,none⟩) 4096 c1) rfl (by kernel_rfl) (by kernel_rfl) (by kernel_rfl) (fun _ _ _ h=>h) (Or.inl ⟨by rfl,?_⟩) (by assumption) ?_
 ·intro w hSw
  (try dsimp only at hSw)
  go_simp
 try simp only [Act.put,List.setIfInBounds_toArray,List.set_cons_zero,List.set_cons_succ]
 refine wpAnyH_take (i:=3) (oi:={dst:=some 6,op:=Op.fieldAddr 69 (Operand.tmp 1) 1,type:=0,pos:= "ref.go:53",after:= #[],guard:=none}) (v:= .pointer (some ⟨w.heap.size,1,none⟩)) rfl (by kernel_rfl) (by kernel_rfl) (by kernel_rfl) (fun _ _ _ h=>h) (Or.inl ⟨by rfl,?_⟩) (by assumption) ?_
 ·intro w hSw
  (try dsimp only at hSw)
  go_simp
 try simp only [Act.put,List.setIfInBounds_toArray,List.set_cons_zero,List.set_cons_succ]
 refine wpAnyH_take (i:=4) (oi:={dst:=some 7,op:=Op.load 66 (Operand.tmp 6),type:=66,pos:= "ref.go:53",after:= #[{on:=3,ground:=Ground.data}],guard:=none}) (v:= .slice (some ⟨g2,0,none⟩) 4096 c2) rfl (by kernel_rfl) (by kernel_rfl) (by kernel_rfl) (fun _ _ _ h=>h) (Or.inl ⟨by rfl,?_⟩) (by assumption) ?_
 ·intro w hSw
  (try dsimp only at hSw)
  go_simp
 try simp only [Act.put,List.setIfInBounds_toArray,List.set_cons_zero,List.set_cons_succ]
 refine wpAnyH_ready (rs:= [2]) (by kernel_rfl) (by simp) ?_
 refine AllReadyH.cons (o:={dst:=some 5,op:=Op.call {callee:=Callee.value (Operand.func 144),args:= #[Operand.tmp 4],argTypes:= #[66]},type:=66,pos:= "ref.go:53",after:= #[{on:=1,ground:=Ground.data}],guard:=none}) rfl (fun K hK=>?_) AllReadyH.nil
 go_simp
 refine k1.mono ?_
 rintro e w2 ⟨v1,rfl,hbl1,hb2⟩
 have d0:=cell_later hb2 c0
 have d1:=cell_later hb2 c1'
 obtain⟨u1,d1c,rfl,hu1,hr1⟩:=hbl1.row (by rw [HL1.out];omega)
 rw [HL1.out]
 refine hK.out _ _ ?_ (fun hHeld=>?_)
 ·exact⟨d0,d1⟩
 clear hK K
 try simp only [Act.put,List.setIfInBounds_toArray,List.set_cons_zero,List.set_cons_succ]
 refine wpAnyH_ready (rs:= [5]) (by kernel_rfl) (by simp) ?_
 refine AllReadyH.cons (o:={dst:=some 8,op:=Op.call {callee:=Callee.value (Operand.func 144),args:= #[Operand.tmp 7],argTypes:= #[66]},type:=66,pos:= "ref.go:53",after:= #[{on:=4,ground:=Ground.data},{on:=2,ground:=Ground.chain}],guard:=none}) rfl (fun K hK=>?_) AllReadyH.nil
 go_simp
 refine(HK2.out w2 hb2).mono ?_
 rintro e w3 ⟨v2,rfl,hbl2,hb3⟩
 have i0:=cell_later hb3 d0
 have i1:=cell_later hb3 d1
 obtain⟨u2,d2c,rfl,hu2,hr2⟩:=hbl2.row (by rw [HL2.out];omega)
 rw [HL2.out]
 refine hK.out _ _ ?_ (fun hHeld=>?_)
 ·exact⟨i0,i1⟩
 clear hK K
 try simp only [Act.put,List.setIfInBounds_toArray,List.set_cons_zero,List.set_cons_succ]
 refine wpAnyH_take (i:=6) (oi:={dst:=some 9,op:=Op.build 69 #[(0,Operand.tmp 5),(1,Operand.tmp 8)],type:=69,pos:= "ref.go:53",after:= #[{on:=2,ground:=Ground.data},{on:=5,ground:=Ground.data}],guard:=none}) (v:= .agg #[.slice (some ⟨u1,0,none⟩) 4096 d1c, .slice (some ⟨u2,0,none⟩) 4096 d2c]) rfl (by kernel_rfl) (by kernel_rfl) (by kernel_rfl) (fun _ _ _ h=>h) (Or.inl ⟨by rfl,?_⟩) (by assumption) ?_
 ·intro w hSw
  (try dsimp only at hSw)
  go_simp
 try simp only [Act.put,List.setIfInBounds_toArray,List.set_cons_zero,List.set_cons_succ]
 have hbx3:=(hb3.block _ (Nat.lt_of_lt_of_le (lt_there HX2.out) hb2.size)).trans ((hb2.block _ (lt_there HX2.out)).trans HX2.out)
 have hr1':=hr1.agree (hb3.block _ hr1.lt)
 have hz2:=hb2.size
 have hz3:=hb3.size
 have hlt1:=hr1.lt
 have hk:Keeps (fun k=>k=w.heap.size+1) w3 (w3.setCells (w.heap.size+1) 0 [.slice (some ⟨u1,0,none⟩) 4096 d1c, .slice (some ⟨u2,0,none⟩) 4096 d2c]):=Keeps.setCells (F:=fun k=>k=w.heap.size+1) rfl _ 0 _
 have hra:=maps_range (set2 (.slice (some ⟨u1,0,none⟩) 4096 d1c) (.slice (some ⟨u2,0,none⟩) 4096 d2c) hbx3)
 have HN:Hid (w.heap.size≤u1∧w.heap.size≤u2∧u1≠u2∧RowAt (w3.setCells (w.heap.size+1) 0 [.slice (some ⟨u1,0,none⟩) 4096 d1c, .slice (some ⟨u2,0,none⟩) 4096 d2c]) 4 u1 d1c (bls l1)∧RowAt (w3.setCells (w.heap.size+1) 0 [.slice (some ⟨u1,0,none⟩) 4096 d1c, .slice (some ⟨u2,0,none⟩) 4096 d2c]) 4 u2 d2c (bls l2)∧Below w.heap.size w (w3.setCells (w.heap.size+1) 0 [.slice (some ⟨u1,0,none⟩) 4096 d1c, .slice (some ⟨u2,0,none⟩) 4096 d2c])):=⟨by omega,by omega,by omega,hr1'.agree (hk.block _ hr1'.lt (by omega)),hr2.agree (hk.block _ hr2.lt (by omega)),(HB.out.trans ((hb2.mono (by omega)).trans (hb3.mono (by omega)))).trans (hk.below (fun k e=>by omega) (by omega))⟩
 have cc0:(w3.setCells (w.heap.size+1) 0 [.slice (some ⟨u1,0,none⟩) 4096 d1c, .slice (some ⟨u2,0,none⟩) 4096 d2c]).cell? ⟨w.heap.size,0,none⟩=some (.slice (some ⟨g1,0,none⟩) 4096 c1):=by rw [World.cell?_of_block (hk.block _ (World.block_lt_of_cell? _ _ i0) (by show¬w.heap.size=w.heap.size+1;omega))];exact i0
 have cc1:(w3.setCells (w.heap.size+1) 0 [.slice (some ⟨u1,0,none⟩) 4096 d1c, .slice (some ⟨u2,0,none⟩) 4096 d2c]).cell? ⟨w.heap.size,1,none⟩=some (.slice (some ⟨g2,0,none⟩) 4096 c2):=by rw [World.cell?_of_block (hk.block _ (World.block_lt_of_cell? _ _ i1) (by show¬w.heap.size=w.heap.size+1;omega))];exact i1
 refine wpAnyH_ready (rs:= [7]) (by kernel_rfl) (by simp) ?_
 refine AllReadyH.cons (o:={dst:=none,op:=Op.store 69 (Operand.tmp 2) (Operand.tmp 9),type:=0,pos:= "ref.go:53",after:= #[{on:=6,ground:=Ground.data},{on:=5,ground:=Ground.chain},{on:=0,ground:=Ground.phase},{on:=1,ground:=Ground.phase},{on:=2,ground:=Ground.phase},{on:=3,ground:=Ground.phase},{on:=4,ground:=Ground.phase},{on:=5,ground:=Ground.phase},{on:=6,ground:=Ground.phase}],guard:=none}) rfl (fun K hK=>?_) AllReadyH.nil
 rw [if_pos (by rfl)]
 refine wp_store_mid _ _ _ rfl (w.heap.size+1) 0 #[.slice (some ⟨u1,0,none⟩) 4096 d1c, .slice (some ⟨u2,0,none⟩) 4096 d2c] rfl rfl (there_of hbx3 (n:=2) rfl) infoMaps (by simp [Value.oneCell']) ?_
 refine hK.out _ _ ?_ (fun hHeld=>?_)
 ·exact⟨cc0,cc1⟩
 clear hK K
 refine wpAnyH_done (by kernel_rfl) ?_ _
 have HRa:=Hid.mk hra
 clear hra hk hbx3 hr1 hr1' hr2 hbl1 hbl2 hb2 hb3 i0 i1 d0 d1 c0 c1' cc0 cc1 k1 hHeld
 go_wp2
 refine bodyPost_ret (results_cell_mid (P:=Tryz.prog) rfl _ _ (w.heap.size+1) _ _ rfl HRa.out Tryz.underlying69 rfl infoMaps) rfl ⟨u1,u2,d1c,d2c,rfl,HN.out⟩
end
end Go.Proofs.YtkiehemoiapkkaaGreat
end
section
namespace Go.Proofs.YtkiehemoiapkkaaGreat
open Go.RowKit
structure MP where
 blocks:Nat
 nodes:Nat
 ob:List Bool
 on:List Bool
 nb:List Bool
 nn:List Bool
 oraw:List (List Int)
 raw:List (List Int)
 put:List Nat
 bad:Int
 opn:Bool
 dead:Bool
def RWs (w:World) (X:Nat→Prop) (v:Value) (rs:List (List Int)):Prop:=
 ∃xs,w.ownsRow 0 44 1 v rs.length xs∧(∀g,v.ownBlock=some g→X g)∧∀i (hi:i<rs.length),∃g c,xs[i]? =some (.slice (some ⟨g,0,none⟩) 512 c)∧X g∧RowAt w 5 g c (bs rs[i])
def BX (w:World) (X:Nat→Prop) (g c:Nat) (l:List Bool):Prop:=X g∧RowAt w 4 g c (bls l)∧l.length=4096
section
variable {w w':World} {X Y Z:Nat→Prop} {v:Value} {rs:List (List Int)} {g c:Nat} {l:List Bool}
theorem RWs.nil (w:World) (X:Nat→Prop):RWs w X (.slice none 0 0) []:=⟨[],World.ownsRow_nil _ _ _ _,(fun g h=>by simp [Value.ownBlock] at h),fun i hi=>by cases hi⟩
theorem RWs.mono (h:RWs w X v rs) (hX:∀g,X g→Y g):RWs w Y v rs:=by
 obtain⟨xs,h1,h2,h3⟩:=h
 refine⟨xs,h1,fun g hg=>hX g (h2 g hg),fun i hi=>?_⟩
 obtain⟨g,c,e1,e2,e3⟩:=h3 i hi
 exact⟨g,c,e1,hX g e2,e3⟩
theorem RWs.keep (h:RWs w X v rs) (hk:Keeps Z w w') (hZ:∀g,Z g→∃cur t fz,w.heap[g]? =some (.cells cur t fz)∧t≠5∧t≠44):RWs w' X v rs:=by
 obtain⟨xs,h1,h2,h3⟩:=h
 refine⟨xs,owns_agree h1 (fun g hg=>?_),h2,fun i hi=>?_⟩
 ·obtain⟨cur,hc⟩:=owns_block h1 hg
  refine hk.block g (lt_there hc) (fun hq=>?_)
  obtain⟨cur',t,fz,hc',_,ht⟩:=hZ g hq
  exact type_ne hc' hc ht
 ·obtain⟨g,c,e1,e2,e3⟩:=h3 i hi
  refine⟨g,c,e1,e2,e3.agree (hk.block g e3.lt (fun hq=>?_))⟩
  obtain⟨cur',t,fz,hc',ht,_⟩:=hZ g hq
  obtain⟨cur,hb,_⟩:=e3
  exact type_ne hc' hb ht
theorem RWs.later (h:RWs w X v rs) (hb:Below w.heap.size w w'):RWs w' X v rs:=h.keep (Keeps.of_below (fun _=>False) hb) (fun _ h=>h.elim)
theorem RWs.app (h:RWs w X v rs) {l:List Int} (hx:X g) (hr:RowAt w 5 g c (bs l)) (hn:rs.length≤1000000):
  ∃g2 cap2 w2,(Builtin.append_ #[70,70] 70 #[v, .slice (some ⟨w.heap.size,0,none⟩) 1 1]).run Tryz.prog (w.alloc (.cells #[.slice (some ⟨g,0,none⟩) 512 c] 44))= .ok (.slice (some ⟨g2,0,none⟩) (rs.length+1) cap2) w2∧RWs w2 (fun j=>X j∨w.heap.size≤j) (.slice (some ⟨g2,0,none⟩) (rs.length+1) cap2) (rs ++ [l])∧Keeps (fun j=>v.ownBlock=some j) w w2∧(v.ownBlock=some g2∨w.heap.size≤g2):=by
 obtain⟨xs,h1,h2,h3⟩:=h
 obtain⟨i0,hi,hz0,hz1,hz2⟩:=info_parts infoRow
 obtain⟨g2,cap2,w2,hrun,hown,hgrow,hat,_⟩:=run_append_lies (P:=Tryz.prog) (w.alloc (.cells #[.slice (some ⟨g,0,none⟩) 512 c] 44)) 70 70 0 44 i0 (.slice none 0 0) 1 24 Tryz.underlying70 hi hz0 hz1 hz2 rfl (by decide) v rs.length xs (owns_agree h1 (fun g hg=>by
   obtain⟨cur,hc⟩:=owns_block h1 hg
   exact Below.heap_alloc _ _ _ (lt_there hc))) ⟨w.heap.size,0,none⟩ 1 1 [.slice (some ⟨g,0,none⟩) 512 c] rfl (World.news_of_block (cs:= #[.slice (some ⟨g,0,none⟩) 512 c]) (t:=44) (fr:=(0,0)) (heap_alloc_new w _)) (by simp [Value.oneCell']) (by omega) (by unfold maxLen;omega) (by omega) (Nat.zero_le _) _ rfl
 have hbx:=below_box w (.cells #[.slice (some ⟨g,0,none⟩) 512 c] 44)
 have hk:Keeps (fun j=>v.ownBlock=some j) w w2:=⟨hgrow.os.trans hbx.os,hgrow.tape.trans hbx.tape,hgrow.output.trans hbx.output,Nat.le_trans hbx.size hgrow.size,fun k hk hq=>(hgrow.block k (Nat.lt_of_lt_of_le hk hbx.size) (fun e=>hq e.symm)).trans (hbx.block k hk)⟩
 have hvl:xs.length=rs.length:=by have:=h1.1;simpa using this
 have hat':v.ownBlock=some g2∨w.heap.size≤g2:=hat.imp (fun e=>e) (fun e=>by simp at e;omega)
 refine⟨g2,cap2,w2,hrun,⟨xs ++ [.slice (some ⟨g,0,none⟩) 512 c],by rw [List.length_append];exact hown,fun g' hq=>?_,fun i hi=>?_⟩,hk,hat'⟩
 ·have eg:g2=g':=by simpa [Value.ownBlock] using hq
  subst eg
  exact hat'.imp (fun e=>h2 _ e) (fun e=>e)
 ·have stay:∀j cj ys,RowAt w 5 j cj ys→RowAt w2 5 j cj ys:=fun j cj ys hj=>by
   refine hj.agree (hk.block j hj.lt (fun e=>?_))
   obtain⟨cur,hc⟩:=owns_block h1 e
   obtain⟨cur',hb,_⟩:=hj
   exact type_ne hb hc (by decide)
  by_cases e:i<rs.length
  ·obtain⟨g',c',e1,e2,e3⟩:=h3 i e
   refine⟨g',c',?_, .inl e2,?_⟩
   ·rw [List.getElem?_append_left (by omega),e1]
   ·rw [List.getElem_append_left e]
    exact stay _ _ _ e3
  ·have hi2:i=rs.length:=by simp at hi;omega
   subst hi2
   refine⟨g,c,?_, .inl hx,?_⟩
   ·rw [List.getElem?_append_right (by omega),show rs.length-xs.length=0 by omega]
    rfl
   ·simpa using stay _ _ _ hr
end
abbrev mpC (M:MP) (v1 v2 v3 v4 v5 v6 v7:Value):Array Value:= #[.int .i64 (M.blocks:Int), .int .i64 (M.nodes:Int), .int .i64 ((2+M.nodes / 4:Nat):Int),v1,v2,v3,v4,v5,v6,v7, .int .i64 M.bad, .bool M.opn, .bool M.dead]
end Go.Proofs.YtkiehemoiapkkaaGreat
end
section
namespace Go.Proofs.YtkiehemoiapkkaaGreat
theorem now_put (S:DS) (k:Nat) (l:List Int) (j:Nat):(S.put k l).now j=if j=k then l else S.now j:=by
 have e:pendOf (S.put k l).puts j=if j=k then pendOf S.puts k ++ [l] else pendOf S.puts j:=pendOf_snoc _ _ _ _
 by_cases h:j=k
 ·subst h
  simp [DS.now,DS.cand,e]
 ·have e2:pendOf (S.put k l).puts j=pendOf S.puts j:=by rw [e,if_neg h]
  have e3:(S.put k l).im=S.im:=rfl
  simp [DS.now,DS.cand,e2,e3,h]
theorem wr_now {S:DS} {s k:Nat} (hf:S.fuse≠0) (hk:k<s) (l:List Int) (j:Nat):(S.wr s (k:Int) 512 l).2.now j=if j=k then l else S.now j:=by
 rw [wr_in hf hk]
 exact now_put S k l j
theorem wr_ok {S:DS} {s k:Nat} (h:S.Ok s) (hf:S.fuse≠0) (hk:k<s) {l:List Int} (hl:l.length=512):(S.wr s (k:Int) 512 l).2.Ok s:=by
 rw [wr_in hf hk]
 refine⟨h.len,h.lo,h.hi,fun q hq=>?_,?_⟩
 ·have hq':q∈S.puts ++ [(k,l)]:=hq
  rcases List.mem_append.1 hq' with hq|hq
  ·exact h.puts q hq
  ·rw [List.mem_singleton.1 hq];exact⟨hk,hl⟩
 ·have:=h.fuse
  show-1≤(if 0<S.fuse then S.fuse-1 else S.fuse)∧(if 0<S.fuse then S.fuse-1 else S.fuse)≤_
  split <;> omega
theorem fl_now {S:DS} {s:Nat} (h:S.Ok s) {j:Nat} (hj:j<s):(S.fl s).2.now j=S.now j:=by
 unfold DS.fl
 split
 ·rfl
 ·show (S.flush s).now j=S.now j
  rw [now_none _ _ rfl]
  exact sec_imOf s S.now (fun k hk=>now_len h k hk) j hj
theorem fl_ok {S:DS} {s:Nat} (h:S.Ok s):(S.fl s).2.Ok s:=by
 unfold DS.fl
 split
 ·exact h
 ·refine⟨imOf_len s _ (fun k hk=>now_len h k hk),h.lo,h.hi,(fun q hq=>by cases hq),?_⟩
  have:=h.fuse
  show-1≤(if 0<S.fuse then S.fuse-1 else S.fuse)∧(if 0<S.fuse then S.fuse-1 else S.fuse)≤_
  split <;> omega
theorem wr_life (S:DS) (s:Nat) (x:Int) (n:Nat) (l:List Int):(S.wr s x n l).2.life=S.life:=by
 unfold DS.wr
 split
 ·rfl
 ·split
  ·rfl
  ·split <;> rfl
theorem fl_life (S:DS) (s:Nat):(S.fl s).2.life=S.life:=by
 unfold DS.fl
 split <;> rfl
theorem fl_zero {S:DS} {s:Nat} (h:(S.fl s).1=0):(S.fl s).2.puts= []:=by
 unfold DS.fl at*
 split at h
 ·simp at h
 ·rename_i q;rw [if_neg q];rfl
theorem fl_err {S:DS} {s:Nat} (h:(S.fl s).1≠0):(S.fl s).2=S∧S.fuse=0∧(S.fl s).1=3:=by
 unfold DS.fl at*
 split at h
 ·rename_i q;rw [if_pos q];exact⟨rfl,q,rfl⟩
 ·exact absurd rfl h
theorem wr_err {S:DS} {s k:Nat} {l:List Int} (hk:k<s) (h:(S.wr s (k:Int) 512 l).1≠0):(S.wr s (k:Int) 512 l).2=S∧S.fuse=0:=by
 by_cases hf:S.fuse=0
 ·unfold DS.wr
  rw [if_pos hf]
  exact⟨rfl,hf⟩
 ·rw [wr_in hf hk] at h
  exact absurd rfl h
theorem wr_zero {S:DS} {s k:Nat} {l:List Int} (h:(S.wr s (k:Int) 512 l).1=0):S.fuse≠0:=fun hf=>by
 unfold DS.wr at h
 rw [if_pos hf] at h
 simp at h
theorem renew_ok {l r:List Int} (hl:l.length=512) (hr:r.length=512) {N:Nat} (h1:1≤N) (h:(snewest l r).2.1<N):(srenew l r (N:Int) []).2.2=0:=by
 unfold srenew
 rw [if_neg (by omega),if_neg (by omega),if_neg (by simp)]
 simp only
 rw [if_neg (by omega)]
 split <;> rfl
theorem renew_pair {l r:List Int} (hl:l.length=512) (hr:r.length=512) {N:Nat} (h1:1≤N) (hN:N<9223372036854775808) (h:(snewest l r).2.1<N):
    (snewest (sput l r (srenew l r (N:Int) []).1 (srenew l r (N:Int) []).2.1).1 (sput l r (srenew l r (N:Int) []).1 (srenew l r (N:Int) []).2.1).2).2.1=N:=by
 have e:(srenew l r (N:Int) [])=if (snewest l r).2.2.2=0∧(snewest l r).1=0 then (1,sform (turnOf (r.getD 0 0) (r.getD 511 0)) (bytes8 N ++ []),0) else (0,sform (turnOf (l.getD 0 0) (l.getD 511 0)) (bytes8 N ++ []),0):=by
  unfold srenew
  rw [if_neg (by omega),if_neg (by omega),if_neg (by simp)]
  simp only
  rw [if_neg (by omega),Int.toNat_natCast]
 rw [e]
 by_cases q:(snewest l r).2.2.2=0∧(snewest l r).1=0
 ·rw [if_pos q]
  have:=pair_new (data:= []) hl hr hN h1 (by simp) h (t:=turnOf (r.getD 0 0) (r.getD 511 0)) (by have:=turnOf_le (r.getD 0 0) (r.getD 511 0);omega) 1 (by rw [if_pos q])
  simp only
  rw [this]
 ·rw [if_neg q]
  have:=pair_new (data:= []) hl hr hN h1 (by simp) h (t:=turnOf (l.getD 0 0) (l.getD 511 0)) (by have:=turnOf_le (l.getD 0 0) (l.getD 511 0);omega) 0 (by rw [if_neg q])
  simp only
  rw [this]
theorem anew_life (S:DS) (s f:Nat) (num:Int):(anew S s f num).2.life=S.life:=by
 unfold anew
 split
 ·rfl
 ·split
  ·rfl
  ·split
   ·exact wr_life _ _ _ _ _
   ·rw [fl_life,wr_life]
def DS.num (S:DS) (f:Nat):Nat:=(snewest (S.now f) (S.now (f+1))).2.1
theorem anew_num {S:DS} {s f N:Nat} (h:S.Ok s) (hf:f+1<s) (h1:1≤N) (hN:N<9223372036854775808) (hlt:S.num f<N) (h0:(anew S s f (N:Int)).1=0):(anew S s f (N:Int)).2.num f=N∧(anew S s f (N:Int)).2.puts= []:=by
 have hl:=now_len h f (by omega)
 have hr:=now_len h (f+1) hf
 have hok:=renew_ok hl hr h1 hlt
 have hp:=renew_pair hl hr h1 hN hlt
 have hsl:=srenew_slot (S.now f) (S.now (f+1)) (N:Int) []
 have hfu:=srenew_full (S.now f) (S.now (f+1)) (N:Int) [] hok
 unfold anew at*
 split at h0
 ·simp at h0
 ·rename_i hfz
  rw [if_neg hfz]
  rw [if_neg (by omega)] at h0⊢
  generalize srenew (S.now f) (S.now (f+1)) (N:Int) []=Y at*
  rw [show (f:Int)+(Y.1:Int)=((f+Y.1:Nat):Int) by omega] at h0⊢
  have hw0:(S.wr s ((f+Y.1:Nat):Int) 512 Y.2.1).1=0:=by rw [wr_in hfz (by omega)]
  rw [if_neg (by omega)] at h0⊢
  have hwo:=wr_ok h hfz (show f+Y.1<s by omega) hfu
  refine⟨?_,fl_zero h0⟩
  unfold DS.num
  rw [fl_now hwo (by omega),fl_now hwo hf,wr_now hfz (by omega),wr_now hfz (by omega)]
  unfold sput at hp
  by_cases q:Y.1=0
  ·rw [q] at hp⊢
   rw [if_pos (by omega),if_neg (by omega)]
   rw [if_pos rfl] at hp
   exact hp
  ·have q1:Y.1=1:=by omega
   rw [q1] at hp⊢
   rw [if_neg (by omega),if_pos rfl]
   rw [if_neg (by omega)] at hp
   exact hp
theorem anew_err {S:DS} {s f:Nat} {num:Int} (hf:f+1<s) (hok:(srenew (S.now f) (S.now (f+1)) num []).2.2=0) (h0:(anew S s f num).1≠0):(anew S s f num).2.fuse=0∧(anew S s f num).2.puts.length≤S.puts.length+1:=by
 have hsl:=srenew_slot (S.now f) (S.now (f+1)) num []
 unfold anew at*
 split at h0
 ·rename_i hfz;rw [if_pos hfz];exact⟨hfz,Nat.le_succ _⟩
 ·rename_i hfz
  rw [if_neg hfz]
  rw [if_neg (by omega)] at h0⊢
  generalize srenew (S.now f) (S.now (f+1)) num []=Y at*
  rw [show (f:Int)+(Y.1:Int)=((f+Y.1:Nat):Int) by omega] at h0⊢
  have hw0:(S.wr s ((f+Y.1:Nat):Int) 512 Y.2.1).1=0:=by rw [wr_in hfz (by omega)]
  rw [if_neg (by omega)] at h0⊢
  obtain⟨e1,e2,_⟩:=fl_err h0
  rw [e1]
  exact⟨e2,wr_puts _ _ _ _ _⟩
theorem aput_life (S:DS) (s f n E P i c:Nat) (l:List Int):(aput S s f n E P i c l).2.life=S.life:=by
 unfold aput
 split
 ·rfl
 ·exact wr_life _ _ _ _ _
theorem aput_now {S:DS} {s f n E P i c:Nat} {l:List Int} (hn:1≤n) (hs:f+2+n≤s) {j:Nat} (hj:j<f+2):(aput S s f n E P i c l).2.now j=S.now j:=by
 have:=Nat.mod_lt P hn
 unfold aput
 split
 ·rfl
 ·rename_i hf
  rw [wr_now hf (by omega),if_neg (by omega)]
theorem aput_err {S:DS} {s f n E P i c:Nat} {l:List Int} (hn:1≤n) (hs:f+2+n≤s) (h:(aput S s f n E P i c l).1≠0):(aput S s f n E P i c l).2.fuse=0:=by
 have:=Nat.mod_lt P hn
 unfold aput at*
 split at h
 ·rename_i hf;rw [if_pos hf];exact hf
 ·rename_i hf
  rw [wr_in hf (by omega)] at h
  exact absurd rfl h
theorem appTo_keeps {L:LG} {S:DS} {s:Nat} {d:List Int} (hn:1≤L.n) (hs:L.f+2+L.n≤s):∀k,(appTo L S s d k).2.life=S.life∧(∀j,j<L.f+2→(appTo L S s d k).2.now j=S.now j)∧((appTo L S s d k).1≠0→(appTo L S s d k).2.fuse=0)∧(appTo L S s d k).2.puts.length≤S.puts.length+k
 |0=>⟨rfl,fun _ _=>rfl,fun h=>absurd rfl h,Nat.le_refl _⟩
 |k+1=>by
  obtain⟨h1,h2,h3,h4⟩:=appTo_keeps (L:=L) (S:=S) (d:=d) hn hs k
  by_cases e:(appTo L S s d k).1=0
  ·have:appTo L S s d (k+1)=aput (appTo L S s d k).2 s L.f L.n L.ep (L.head+k) k (cntOf d.length) (partOf d k):=stepsTo_ok e
   rw [this]
   refine⟨(aput_life _ _ _ _ _ _ _ _ _).trans h1,fun j hj=>(aput_now hn hs hj).trans (h2 j hj),fun h=>aput_err hn hs h,?_⟩
   have:=aput_puts (appTo L S s d k).2 s L.f L.n L.ep (L.head+k) k (cntOf d.length) (partOf d k)
   omega
  ·have:appTo L S s d (k+1)=appTo L S s d k:=stepsTo_err e (k+1) (by omega)
   rw [this]
   exact⟨h1,h2,h3,by omega⟩
theorem wipeTo_keeps {S:DS} {s f n:Nat} (h:S.Ok s) (hs:f+n≤s):∀k,k≤n→(wipeTo S s f k).2.life=S.life∧(wipeTo S s f k).2.Ok s∧((wipeTo S s f k).1≠0→(wipeTo S s f k).2.fuse=0)∧((wipeTo S s f k).1=0→∀j,j<k→(wipeTo S s f k).2.now (f+j)=zs 512)
 |0,_=>⟨rfl,h,fun h=>absurd rfl h,fun _ j hj=>by omega⟩
 |k+1,hk=>by
  obtain⟨h1,h2,h3,h4⟩:=wipeTo_keeps h hs k (by omega)
  by_cases e:(wipeTo S s f k).1=0
  ·have e1:wipeTo S s f (k+1)=(wipeTo S s f k).2.wr s ((f+k:Nat):Int) 512 (zs 512):=stepsTo_ok e
   rw [e1]
   by_cases hf:(wipeTo S s f k).2.fuse=0
   ·have e2:(wipeTo S s f k).2.wr s ((f+k:Nat):Int) 512 (zs 512)=(3,(wipeTo S s f k).2):=by unfold DS.wr;rw [if_pos hf]
    rw [e2]
    exact⟨h1,h2,fun _=>hf,fun h=>by simp at h⟩
   ·refine⟨(wr_life _ _ _ _ _).trans h1,wr_ok h2 hf (by omega) (zs_len 512),fun h=>?_,fun _ j hj=>?_⟩
    ·rw [wr_in hf (by omega)] at h;exact absurd rfl h
    ·rw [wr_now hf (by omega)]
     by_cases q:j=k
     ·rw [if_pos (by omega)]
     ·rw [if_neg (by omega)];exact h4 e j (by omega)
  ·have e1:wipeTo S s f (k+1)=wipeTo S s f k:=stepsTo_err e (k+1) (by omega)
   rw [e1]
   exact⟨h1,h2,h3,fun h=>absurd h e⟩
theorem sanchor_zero:(sanchor (zs 512)).1=0:=by
 have hb:sbody (zs 512)= []:=by
  unfold sbody
  rw [show slen (zs 512)=0 from by unfold slen;rw [show (zs 512).getD 1 0=0 from rfl,show (zs 512).getD 2 0=0 from rfl];rfl]
  exact List.take_zero
 have hs:sanchor (zs 512)=(0, []):=by
  refine sanchor_short ?_
  unfold sopen
  split
  ·exact .inr ⟨_,rfl, .inl (by rw [hb];decide)⟩
  ·exact .inl rfl
 rw [hs]
theorem snewest_zero:(snewest (zs 512) (zs 512)).2.1=0:=by
 rw [snewest_eq (zs_len 512) (zs_len 512),if_pos ⟨sanchor_zero,sanchor_zero⟩]
theorem awipe_keeps {S:DS} {s f n:Nat} (h:S.Ok s) (hs:f+2+n≤s):(awipe S s f n).2.life=S.life∧(awipe S s f n).2.Ok s∧((awipe S s f n).1≠0→(awipe S s f n).2.fuse=0)∧((awipe S s f n).1=0→(awipe S s f n).2.num f=0∧(awipe S s f n).2.puts= []):=by
 obtain⟨h1,h2,h3,h4⟩:=wipeTo_keeps (f:=f) h (n:=n+2) (by omega) (n+2) (Nat.le_refl _)
 unfold awipe
 by_cases e:(wipeTo S s f (n+2)).1=0
 ·rw [if_neg (by omega)]
  refine⟨(fl_life _ _).trans h1,fl_ok h2,fun h=>?_,fun h=>⟨?_,fl_zero h⟩⟩
  ·obtain⟨e1,e2,_⟩:=fl_err h
   rw [e1];exact e2
  ·unfold DS.num
   have z0:(wipeTo S s f (n+2)).2.now f=zs 512:=h4 e 0 (by omega)
   rw [fl_now h2 (by omega),fl_now h2 (by omega),z0,(h4 e 1 (by omega))]
   exact snewest_zero
 ·rw [if_pos e]
  exact⟨h1,h2,h3,fun h=>absurd h e⟩
end Go.Proofs.YtkiehemoiapkkaaGreat
end
section
namespace Go.Proofs.YtkiehemoiapkkaaGreat
open Go.RowKit Go.Maps
end Go.Proofs.YtkiehemoiapkkaaGreat
end
section
namespace Go.Proofs.YtkiehemoiapkkaaGreat
open Go.RowKit Go.Maps
end Go.Proofs.YtkiehemoiapkkaaGreat
end
section
namespace Go.Proofs.YtkiehemoiapkkaaGreat
open Go.RowKit Go.Maps
end Go.Proofs.YtkiehemoiapkkaaGreat
end
section
namespace Go.Proofs.YtkiehemoiapkkaaGreat
open Go.RowKit Go.Maps
end Go.Proofs.YtkiehemoiapkkaaGreat
end
section
namespace Go.Proofs.YtkiehemoiapkkaaGreat
open Go.RowKit Go.Maps
end Go.Proofs.YtkiehemoiapkkaaGreat
end
section
namespace Go.Proofs.YtkiehemoiapkkaaGreat
open Go.RowKit Go.Maps
end Go.Proofs.YtkiehemoiapkkaaGreat
end
section
namespace Go.Proofs.YtkiehemoiapkkaaGreat
open Go.RowKit Go.Maps
end Go.Proofs.YtkiehemoiapkkaaGreat
end
section
namespace Go.Proofs.YtkiehemoiapkkaaGreat
open Go.RowKit Go.Maps
end Go.Proofs.YtkiehemoiapkkaaGreat
end
section
namespace Go.Proofs.YtkiehemoiapkkaaGreat
open Go.RowKit Go.Maps
end Go.Proofs.YtkiehemoiapkkaaGreat
end
section
namespace Go.Proofs.YtkiehemoiapkkaaGreat
open Go.RowKit
section
variable {w w':World} {F G:Nat→Prop} {r s k:Nat} {S:DS} {L:LG}
end
end Go.Proofs.YtkiehemoiapkkaaGreat
end
section
namespace Go.Proofs.YtkiehemoiapkkaaGreat
open Go.RowKit
section
variable {w w':World} {F G:Nat→Prop} {r s k:Nat} {S:DS} {L:LG}
end
end Go.Proofs.YtkiehemoiapkkaaGreat
end
section
namespace Go.Proofs.YtkiehemoiapkkaaGreat
open Go.RowKit
section
variable {w w':World} {F G:Nat→Prop} {r s k:Nat} {S:DS} {L:LG}
end
end Go.Proofs.YtkiehemoiapkkaaGreat
end
section
namespace Go.Proofs.YtkiehemoiapkkaaGreat
open Go.RowKit
section
variable {w w':World} {F G:Nat→Prop} {r s k:Nat} {S:DS} {L:LG}
end
end Go.Proofs.YtkiehemoiapkkaaGreat
end
section
namespace Go.Proofs.YtkiehemoiapkkaaGreat
open Go.RowKit
section
variable {w w':World} {F G:Nat→Prop} {r s k:Nat} {S:DS} {L:LG}
end
end Go.Proofs.YtkiehemoiapkkaaGreat
end
section
namespace Go.Proofs.YtkiehemoiapkkaaGreat
open Go.RowKit
theorem wpList_append_run {P:Program} {ops:Array Oper} {Q:Exit→Act→World→Prop} {o:Oper} {rest:List Oper} {a:Act} {w w':World} (hg:o.guard=none) (s x:Operand) (t:TypeId) (ho:o.op= .call {callee:= .builtin .append,args:= #[s,x],argTypes:= #[t,t]}) (v u r:Value) (hs:a.eval s=v) (hx:a.eval x=u)
    (hr:(Builtin.append_ #[t,t] o.type #[v,u]).run P w= .ok r w') (h:wpList P ops Q rest (a.put o.dst r) w'):wpList P ops Q (o :: rest) a w:=
 wpList_plain hg fun _ hK=>wp_append_run s x t ho v u r hs hx hr (hK _ _ h)
end Go.Proofs.YtkiehemoiapkkaaGreat
end
section
namespace Go.Proofs.YtkiehemoiapkkaaGreat
open Go.RowKit
abbrev slB (g c:Nat):Value:= .slice (some ⟨g,0,none⟩) 4096 c
def NX (w:World) (X:Nat→Prop) (v:Value) (l:List Nat):Prop:=w.ownsRow 0 3 1 v l.length (l.map fun (i:Nat)=>Value.int .i64 (i:Int))∧∀g,v.ownBlock=some g→X g
structure MAt (w:World) (X:Nat→Prop) (k g1 c1 g2 c2 g3 c3 g4 c4:Nat) (v5 v6 v7:Value) (M:MP):Prop where
 b:w.heap[k]? =some (.cells (mpC M (slB g1 c1) (slB g2 c2) (slB g3 c3) (slB g4 c4) v5 v6 v7) 72 (0,0))
 xk:X k
 ob:BX w X g1 c1 M.ob
 on:BX w X g2 c2 M.on
 nb:BX w X g3 c3 M.nb
 nn:BX w X g4 c4 M.nn
 n12:g1≠g2
 n13:g1≠g3
 n14:g1≠g4
 n23:g2≠g3
 n24:g2≠g4
 n34:g3≠g4
 oraw:RWs w X v5 M.oraw
 raw:RWs w X v6 M.raw
 put:NX w X v7 M.put
 own:M.opn=true→∀g,v5.ownBlock=some g→v6.ownBlock≠some g
theorem NX.nil (w:World) (X:Nat→Prop):NX w X (.slice none 0 0) []:=⟨World.ownsRow_nil _ _ _ _,fun g h=>by simp [Value.ownBlock] at h⟩
theorem accB_none (a:Nat):∀c,accB (List.replicate 4096 false) a c=0
 |0=>rfl
 |c+1=>by
  show 2*accB (List.replicate 4096 false) a c+_=0
  rw [accB_none a c]
  have:(List.replicate 4096 false).getD (a+7-c) false=false:=by
   simp only [List.getD,List.getElem?_replicate]
   split <;> rfl
  rw [this]
  rfl
theorem bmOf_none:bmOf (List.replicate 4096 false)=zs 512:=by
 unfold bmOf zs
 apply List.ext_getElem
 ·rw [List.length_map,List.length_range,List.length_replicate]
 ·intro i h1 h2
  rw [List.getElem_map,accB_none,List.getElem_replicate]
  rfl
theorem div4 (i:Nat):(i:Int).tdiv 4=((i / 4:Nat):Int):=by
 rw [Int.tdiv_eq_ediv_of_nonneg (by omega)]
 omega
theorem RWs.bound {w:World} {X:Nat→Prop} {v:Value} {rs:List (List Int)} (h:RWs w X v rs):RWs w (fun j=>X j∧j<w.heap.size) v rs:=by
 obtain⟨xs,h1,h2,h3⟩:=h
 refine⟨xs,h1,fun g hg=>⟨h2 g hg,?_⟩,fun i hi=>?_⟩
 ·obtain⟨cur,hc⟩:=owns_block h1 hg
  exact lt_there hc
 ·obtain⟨g,c,e1,e2,e3⟩:=h3 i hi
  exact⟨g,c,e1,⟨e2,e3.lt⟩,e3⟩
theorem RWs.form {w:World} {X:Nat→Prop} {v:Value} {rs:List (List Int)} (h:RWs w X v rs):∃a c,v= .slice a rs.length c:=by
 obtain⟨xs,⟨_,⟨rfl,h0⟩|⟨g,c,cur,rfl,_⟩⟩,_⟩:=h
 ·exact⟨none,0,by rw [h0]⟩
 ·exact⟨_,_,rfl⟩
theorem RowAt.unlike {w w':World} {Z:Nat→Prop} {e:TypeId} {g c:Nat} {xs:List Value} (h:RowAt w e g c xs) (hk:Keeps Z w w') (hZ:∀g',Z g'→∃cur t fz,w.heap[g']? =some (.cells cur t fz)∧t≠e):RowAt w' e g c xs:=by
 refine h.agree (hk.block g h.lt (fun hz=>?_))
 obtain⟨cur,t,fz,h1,h2⟩:=hZ g hz
 obtain⟨cur',hb,_⟩:=h
 exact type_ne h1 hb h2
theorem rep_snocZ (j:Nat):List.replicate j (zs 512) ++ [zs 512]=List.replicate (j+1) (zs 512):=by rw [List.replicate_succ']
def NewOut (w w':World) (blocks nodes:Nat) (e:Ending):Prop:=∃k g1 c1 g2 c2 g3 c3 g4 c4 v5,e= .returned (.pointer (some ⟨k,0,none⟩))∧MAt w' (fun j=>w.heap.size≤j∧j<w'.heap.size) k g1 c1 g2 c2 g3 c3 g4 c4 v5 (.slice none 0 0) (.slice none 0 0) ⟨blocks,nodes,List.replicate 4096 false,List.replicate 4096 false,List.replicate 4096 false,List.replicate 4096 false,List.replicate blocks (zs 512), [], [],0,false,false⟩∧Below w.heap.size w w'
set_option maxRecDepth 20000 in
set_option maxHeartbeats 8000000 in
theorem new6_any (w:World) (blocks nodes:Nat) (hb:blocks≤2048) (hn:nodes≤4096):Calls Tryz.prog 16 #[.int .i64 (blocks:Int), .int .i64 (nodes:Int)] w fun e w'=>NewOut w w' blocks nodes e:=by
 have e1:=div4 nodes
 obtain⟨D,hD⟩:∃D:Nat,D=2+nodes / 4:=⟨_,rfl⟩
 have e2:wrap64 (((nodes / 4:Nat):Int))=((nodes / 4:Nat):Int):=wrapS (by omega) (by omega)
 have e3:wrap64 (2+((nodes / 4:Nat):Int))=(D:Int):=(wrapS (by omega) (by omega)).trans (by omega)
 obtain⟨E,hE⟩:∃E:Nat,E=nodes / 4:=⟨_,rfl⟩
 rw [←hE] at e1 e2 e3
 have HD:=Hid.mk hD
 clear hD hE
 have k1:=none_any w
 obtain⟨RR,hRR⟩:∃RR,RR=List.replicate 4096 false:=⟨_,rfl⟩
 rw [←hRR] at k1
 have HR:=Hid.mk hRR
 have hRl:RR.length=4096:=by rw [hRR,List.length_replicate]
 have HRl:=Hid.mk hRl
 have HNo:Hid (∀w,Calls Tryz.prog 30 #[] w fun e w'=>∃v,e= .returned v∧BL w' w.heap.size v RR∧Below w.heap.size w w'):=fun w=>by rw [hRR];exact none_any w
 clear hRR hRl
 go_enter Tryz.func16,Tryz.ntmps16
 go_wp2_with fail
 refine k1.mono ?_
 rintro e w1 ⟨v1,rfl,hl1,hb1⟩
 obtain⟨g1,c1,rfl,hg1,hr1⟩:=hl1.row (by rw [HRl.out];omega)
 rw [HRl.out]
 have k2:=HNo.out w1
 clear k1 hl1
 go_wp2_with fail
 refine k2.mono ?_
 rintro e w2 ⟨v2,rfl,hl2,hb2⟩
 obtain⟨g2,c2,rfl,hg2,hr2⟩:=hl2.row (by rw [HRl.out];omega)
 rw [HRl.out]
 have k3:=HNo.out w2
 clear k2 hl2
 go_wp2_with fail
 refine k3.mono ?_
 rintro e w3 ⟨v3,rfl,hl3,hb3⟩
 obtain⟨g3,c3,rfl,hg3,hr3⟩:=hl3.row (by rw [HRl.out];omega)
 rw [HRl.out]
 have k4:=HNo.out w3
 clear k3 hl3
 go_wp2_with fail
 refine k4.mono ?_
 rintro e w4 ⟨v4,rfl,hl4,hb4⟩
 obtain⟨g4,c4,rfl,hg4,hr4⟩:=hl4.row (by rw [HRl.out];omega)
 rw [HRl.out]
 have z1:=hb1.size
 have z2:=hb2.size
 have z3:=hb3.size
 have z4:=hb4.size
 have y1:=hr1.lt
 have y2:=hr2.lt
 have y3:=hr3.lt
 have y4:=hr4.lt
 have s1:=((hr1.agree (hb2.block _ y1)).agree (hb3.block _ (by omega))).agree (hb4.block _ (by omega))
 have s2:=(hr2.agree (hb3.block _ y2)).agree (hb4.block _ (by omega))
 have s3:=hr3.agree (hb4.block _ y3)
 have hB4:Below w.heap.size w w4:=hb1.trans ((hb2.mono z1).trans ((hb3.mono (by omega)).trans (hb4.mono (by omega))))
 have HS:=Hid.mk (And.intro s1 (And.intro s2 (And.intro s3 (And.intro hr4 hB4))))
 clear k4 hl4 hr1 hr2 hr3 hr4 hb1 hb2 hb3 hb4 s1 s2 s3 hB4
 obtain⟨O5,hO5⟩:∃O5:Obj,O5= .cells #[.int .i64 (blocks:Int), .int .i64 (nodes:Int), .int .i64 (D:Int),slB g1 c1,slB g2 c2,slB g3 c3,slB g4 c4, .slice none 0 0, .slice none 0 0, .slice none 0 0, .int .i64 0, .bool false, .bool false] 72 (0,0):=⟨_,rfl⟩
 have hbx:=heap_alloc_new w4 O5
 have hbb:=below_box w4 O5
 have hzP:(w4.alloc O5).heap.size=w4.heap.size+1:=by rw [World.size_alloc]
 have k5:=HNo.out (w4.alloc O5)
 rw [hO5] at k5
 go_wp2_with fail
 refine k5.mono ?_
 rintro e w5 ⟨v5,rfl,hl5,hb5⟩
 rw [←hO5] at hb5 hl5
 obtain⟨g5,c5,rfl,hg5,hr5⟩:=hl5.row (by rw [HRl.out];omega)
 rw [HRl.out]
 have k6:=bytes6_any hr5 HRl.out
 have z5:=hb5.size
 rw [hzP] at z5
 have hbx5:=(hb5.block _ (lt_there (by rw [hO5] at hbx;rw [hO5];exact hbx))).trans hbx
 rw [hO5] at hbx5
 have HB5:Hid (Below w4.heap.size w4 w5):=hbb.trans (hb5.mono (by omega))
 have HBX:=Hid.mk hbx5
 clear k5 hl5 hr5 hb5 hbx hbb hO5 hzP hbx5 HNo
 go_wp2_with fail
 refine k6.mono ?_
 rintro e w6 ⟨v6,rfl,hown6,hb6⟩
 obtain⟨az,cz,rfl,hsz,hcz,haz⟩:=hown6.src
 rw [bmOf_len] at hown6 hsz
 obtain⟨gz,rfl,_,hgz,hrz⟩:=Own.row hown6 (by rw [bmOf_len];omega)
 rw [HR.out,bmOf_none] at hrz
 rw [bmOf_len]
 have z6:=hb6.size
 have hB6:=HB5.out.trans (hb6.mono (by omega))
 have hbx6:=(hb6.block _ (lt_there HBX.out)).trans HBX.out
 have HT:Hid (RowAt w6 4 g1 c1 (bls RR)∧RowAt w6 4 g2 c2 (bls RR)∧RowAt w6 4 g3 c3 (bls RR)∧RowAt w6 4 g4 c4 (bls RR)∧RowAt w6 5 gz cz (bs (zs 512))∧Below w.heap.size w w6∧w6.heap[w4.heap.size]? =some (.cells #[.int .i64 (blocks:Int), .int .i64 (nodes:Int), .int .i64 (D:Int),slB g1 c1,slB g2 c2,slB g3 c3,slB g4 c4, .slice none 0 0, .slice none 0 0, .slice none 0 0, .int .i64 0, .bool false, .bool false] 72 (0,0))):=
    ⟨HS.out.1.agree (hB6.block _ HS.out.1.lt),HS.out.2.1.agree (hB6.block _ HS.out.2.1.lt),HS.out.2.2.1.agree (hB6.block _ HS.out.2.2.1.lt),HS.out.2.2.2.1.agree (hB6.block _ HS.out.2.2.2.1.lt),hrz,HS.out.2.2.2.2.trans (hB6.mono (by omega)),hbx6⟩
 clear k6 hown6 hsz hrz haz hb6 hB6 hbx6 HBX HB5
 go_wp2
 go_loopw [7] (fun iv wr=>∃(j:Nat) (v5:Value),j≤blocks∧iv= .int .i64 (j:Int)∧wr.heap[w4.heap.size]? =some (.cells #[.int .i64 (blocks:Int), .int .i64 (nodes:Int), .int .i64 (D:Int),slB g1 c1,slB g2 c2,slB g3 c3,slB g4 c4,v5, .slice none 0 0, .slice none 0 0, .int .i64 0, .bool false, .bool false] 72 (0,0))∧RWs wr (fun j=>w.heap.size≤j) v5 (List.replicate j (zs 512))∧RowAt wr 4 g1 c1 (bls RR)∧RowAt wr 4 g2 c2 (bls RR)∧RowAt wr 4 g3 c3 (bls RR)∧RowAt wr 4 g4 c4 (bls RR)∧RowAt wr 5 gz cz (bs (zs 512))∧Below w.heap.size w wr) (fun iv _=>blocks-(intOf iv).toNat)
 case atStart=>exact⟨0,_,Nat.zero_le _,rfl,HT.out.2.2.2.2.2.2,RWs.nil _ _,HT.out.1,HT.out.2.1,HT.out.2.2.1,HT.out.2.2.2.1,HT.out.2.2.2.2.1,HT.out.2.2.2.2.2.1⟩
 case round=>
  obtain⟨j,v5,hj,rfl,hbk,hrw,t1,t2,t3,t4,tz,hbw⟩:=hrel
  by_cases hlt:j<blocks
  ·have hlt':(j:Int)<(blocks:Int):=by omega
   have hgz':w.heap.size≤gz:=by omega
   obtain⟨gn,cn,w7,hrun,hrw7,hk7,hat7⟩:=hrw.app (l:=zs 512) hgz' tz (by rw [List.length_replicate];omega)
   obtain⟨a5,c5',rfl⟩:=hrw.form
   rw [List.length_replicate] at hbk hrw hrun hrw7 hk7 hat7
   rw [rep_snocZ] at hrw7
   have hrw0:=hrw
   obtain⟨xs0,ho0,hX0,_⟩:=hrw0
   have hZ:∀q,(Value.slice a5 j c5').ownBlock=some q→∃cur t fz,wr.heap[q]? =some (.cells cur t fz)∧t=44:=fun q hq=>by
    obtain⟨cur,hc⟩:=owns_block ho0 hq
    exact⟨cur,_,_,hc,rfl⟩
   have hZ1:∀(e:TypeId),44≠e→∀q,(Value.slice a5 j c5').ownBlock=some q→∃cur t fz,wr.heap[q]? =some (.cells cur t fz)∧t≠e:=fun e he q hq=>by
    obtain⟨cur,t,fz,h1,h2⟩:=hZ q hq
    exact⟨cur,t,fz,h1,by rw [h2];exact he⟩
   have hbk7:w7.heap[w4.heap.size]? =_:=(hk7.block _ (lt_there hbk) (fun hq=>by
    obtain⟨cur,t,fz,h1,h2⟩:=hZ _ hq
    exact type_ne hbk h1 (by rw [h2];decide))).trans hbk
   have c7:wr.cell? ⟨w4.heap.size,7,none⟩=some (.slice a5 j c5'):=cell_of_block hbk (j:=7) rfl
   have d7:w7.cell? ⟨w4.heap.size,7,none⟩=some (.slice a5 j c5'):=cell_of_block hbk7 (j:=7) rfl
   have f7:=frozen_of_block hbk7 7
   have hk8:=Keeps.setCell (F:=fun q=>q=w4.heap.size) w7 (p:=⟨w4.heap.size,7,none⟩) rfl (.slice (some ⟨gn,0,none⟩) (j+1) cn)
   have hbk8:(w7.setCell ⟨w4.heap.size,7,none⟩ (.slice (some ⟨gn,0,none⟩) (j+1) cn)).heap[w4.heap.size]? =some (.cells #[.int .i64 (blocks:Int), .int .i64 (nodes:Int), .int .i64 (D:Int),slB g1 c1,slB g2 c2,slB g3 c3,slB g4 c4, .slice (some ⟨gn,0,none⟩) (j+1) cn, .slice none 0 0, .slice none 0 0, .int .i64 0, .bool false, .bool false] 72 (0,0)):=(heap_setCell_same _ _ 7 _ _ _ hbk7).trans rfl
   have hP:∀(e:TypeId),72≠e→∀q,q=w4.heap.size→∃cur t fz,w7.heap[q]? =some (.cells cur t fz)∧t≠e:=fun e he q hq=>by subst hq;exact⟨_,_,_,hbk7,he⟩
   have mv:∀{e:TypeId} {g c:Nat} {xs:List Value},44≠e→72≠e→RowAt wr e g c xs→RowAt (w7.setCell ⟨w4.heap.size,7,none⟩ (.slice (some ⟨gn,0,none⟩) (j+1) cn)) e g c xs:=fun he hp hr=>(hr.unlike hk7 (hZ1 _ he)).unlike hk8 (hP _ hp)
   have HE:Hid (RWs (w7.setCell ⟨w4.heap.size,7,none⟩ (.slice (some ⟨gn,0,none⟩) (j+1) cn)) (fun j=>w.heap.size≤j) (.slice (some ⟨gn,0,none⟩) (j+1) cn) (List.replicate (j+1) (zs 512))∧RowAt (w7.setCell ⟨w4.heap.size,7,none⟩ (.slice (some ⟨gn,0,none⟩) (j+1) cn)) 4 g1 c1 (bls RR)∧RowAt (w7.setCell ⟨w4.heap.size,7,none⟩ (.slice (some ⟨gn,0,none⟩) (j+1) cn)) 4 g2 c2 (bls RR)∧RowAt (w7.setCell ⟨w4.heap.size,7,none⟩ (.slice (some ⟨gn,0,none⟩) (j+1) cn)) 4 g3 c3 (bls RR)∧RowAt (w7.setCell ⟨w4.heap.size,7,none⟩ (.slice (some ⟨gn,0,none⟩) (j+1) cn)) 4 g4 c4 (bls RR)∧RowAt (w7.setCell ⟨w4.heap.size,7,none⟩ (.slice (some ⟨gn,0,none⟩) (j+1) cn)) 5 gz cz (bs (zs 512))∧Below w.heap.size w (w7.setCell ⟨w4.heap.size,7,none⟩ (.slice (some ⟨gn,0,none⟩) (j+1) cn))):=
      ⟨(hrw7.keep hk8 (fun q hq=>by subst hq;exact⟨_,_,_,hbk7,by decide,by decide⟩)).mono (fun q hq=>by have:=hbw.size;omega),mv (by decide) (by decide) t1,mv (by decide) (by decide) t2,mv (by decide) (by decide) t3,mv (by decide) (by decide) t4,mv (by decide) (by decide) tz,
       (hbw.trans (hk7.below (fun q hq=>hX0 q hq) hbw.size)).trans (hk8.below (fun q hq=>by omega) (by have:=hbw.size;have:=hk7.size;omega))⟩
   have HBK:=Hid.mk hbk8
   have HRun:=Hid.mk hrun
   clear hbk hrw t1 t2 t3 t4 tz hbw hrw7 hk7 hat7 ho0 hX0 hZ hZ1 hbk7 hk8 hbk8 hP mv hrun HT HS
   go_wp2_with (at_builtin;refine wpList_append_run rfl _ _ 70 rfl (.slice a5 j c5') (.slice (some ⟨wr.heap.size,0,none⟩) 1 1) _ rfl rfl HRun.out ?_)
   go_roundw
   case rel=>exact⟨j+1,_,by omega,by go_num,HBK.out,HE.out⟩
   case measure=>simp [intOf];omega
  ·have hlt':¬(j:Int)<(blocks:Int):=by omega
   obtain rfl:j=blocks:=by omega
   have HE:=Hid.mk (And.intro hbk (And.intro hrw (And.intro t1 (And.intro t2 (And.intro t3 (And.intro t4 hbw))))))
   clear hbk hrw t1 t2 t3 t4 tz hbw HT HS
   go_wp2
   go_ret
   refine⟨w4.heap.size,g1,c1,g2,c2,g3,c3,g4,c4,v5,rfl,⟨?_,⟨by omega,lt_there HE.out.1⟩,⟨⟨by omega,HE.out.2.2.1.lt⟩,?_,List.length_replicate ..⟩,⟨⟨by omega,HE.out.2.2.2.1.lt⟩,?_,List.length_replicate ..⟩,⟨⟨by omega,HE.out.2.2.2.2.1.lt⟩,?_,List.length_replicate ..⟩,⟨⟨by omega,HE.out.2.2.2.2.2.1.lt⟩,?_,List.length_replicate ..⟩,by omega,by omega,by omega,by omega,by omega,by omega,HE.out.2.1.bound,RWs.nil _ _,NX.nil _ _,fun h=>by cases h⟩,HE.out.2.2.2.2.2.2⟩
   ·have:=HE.out.1
    rw [HD.out] at this
    exact this
   ·have:=HE.out.2.2.1;rwa [HR.out] at this
   ·have:=HE.out.2.2.2.1;rwa [HR.out] at this
   ·have:=HE.out.2.2.2.2.1;rwa [HR.out] at this
   ·have:=HE.out.2.2.2.2.2.1;rwa [HR.out] at this
end Go.Proofs.YtkiehemoiapkkaaGreat
end
