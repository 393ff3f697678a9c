import Derived.Test.YtcakbbkbgfhfaaaGreatW27
import Derived.Test.YtcakbbkbgfhfaaaGreatU02
section
namespace Go.Proofs.YtcakbbkbgfhfaaaGreat
open Go.RowKit Go.Maps
section
variable {w w':World} {F:Nat→Prop} {B0 p cR q l m t n a1:Nat} {S:DS} {T:TG} {g:GEO} {L:LG} {tb tn:List Nat} {vb vn:Value}
set_option maxRecDepth 20000 in
set_option maxHeartbeats 8000000 in
theorem act_drop0 (h:TX w F p g.s cR q l m t n S ⟨lyG g,L, [],true⟩ T) (hp:PoolAt w F a1 t n) (hd:L.dead S=false) (hq:QF ⟨lyG g,L, [],true⟩ S T tb tn) (hib:IL w (fun j=>B0≤j) vb tb) (hin:IL w (fun j=>B0≤j) vn tn) (hsep:∀j,vb.ownBlock=some j→vn.ownBlock≠some j) (hlo:TXlt B0 F q l m t n) (hBw:B0≤w.heap.size) (wh:Bool) (at_:Int) (hat:I64 at_) (hne:0<tb.length):
  Calls Tryz.prog 16 #[.pointer (some ⟨a1,0,none⟩),supV g, .agg #[vb,vn], .agg #[.bool true, .bool false, .bool wh, .int .i64 at_]] w fun e w'=>ActO w w' F B0 p g.s q l m t n S ⟨lyG g,L, [],true⟩ T tb tn vb vn e:=by
 obtain⟨ab,cb,rfl⟩:=hib.form
 obtain⟨an,cn,rfl⟩:=hin.form
 obtain⟨hB1,g1,g2,g3,g4,hz1⟩:=heap4 w (.cells #[.int .i64 (g.s:Int), .int .i64 (g.l:Int), .int .i64 (g.n:Int)] 31) (.cells #[.slice ab tb.length cb, .slice an tn.length cn] 51) (.cells #[.bool true, .bool false, .bool wh, .int .i64 at_] 53) (.cells #[.slice none 0 0, .slice none 0 0] 51)
 have hb2:2≤(⟨lyG g,L, [],true⟩:SG).y.blocks:=h.yk.b2
 have hbm:(stB false (⟨lyG g,L, [],true⟩:SG).y).bm<(⟨lyG g,L, [],true⟩:SG).y.blocks:=by have:=(stB_ok h.yk false).bm;omega
 have hll:tb.length≤4096:=by
  have h5:=(hq.of false).fr
  have h6:=(stB_ok h.yk false).hi
  have h7:freeN (T.sees ⟨lyG g,L, [],true⟩ S (stB false (⟨lyG g,L, [],true⟩:SG).y).bm) ((stB false (⟨lyG g,L, [],true⟩:SG).y).first-(stB false (⟨lyG g,L, [],true⟩:SG).y).zero) (stB false (⟨lyG g,L, [],true⟩:SG).y).cnt+tb.length=(stB false (⟨lyG g,L, [],true⟩:SG).y).cnt:=h5
  omega
 obtain⟨A,hA⟩:∃A,A=wthn at_ 0 (tb.length-1):=⟨_,rfl⟩
 have hAl:A<tb.length:=by
  have:=(wthn_in at_ (lo:=0) (hi:=tb.length-1) (Nat.zero_le _)).2
  omega
 have ecast:((tb.length-1:Nat):Int)=wrap64 ((tb.length:Int)-1):=((wrapS (by omega) (by omega)).trans (by omega)).symm
 have kw:∀w,Calls Tryz.prog 19 #[.int .i64 at_, .int .i64 0, .int .i64 (wrap64 ((tb.length:Int)-1))] w fun e w'=>e= .returned (.int .i64 (A:Int))∧w'=w:=fun w=>by
  have k:=within6_any at_ 0 (tb.length-1) (Nat.zero_le _) (by omega) ⟨hat.1,hat.2⟩ w
  rw [←hA,ecast] at k
  exact k
 obtain⟨x,hx0⟩:∃x,tb[A]? =some x:=⟨_,List.getElem?_eq_getElem hAl⟩
 obtain⟨T',p1,p2,hq'⟩:=hq.drop hd hb2 h.tx.ch.ok h.yk false (h.bytes _) (h.len _ hbm) (a:=A) (x:=x) hAl hx0
 have hca:=caught_ok hd hq'
 have hx:∀j,B0≤j→¬OwT F t n j:=fun j hj ho=>by
  obtain⟨o1,o2,o3,o4,o5,o6⟩:=hlo
  rcases ho with ho|ho|ho
  ·have:=o1 j ho;omega
  ·omega
  ·omega
 have HD1:Hid (∀w2,Below w.heap.size w w2→Calls Tryz.prog 20 #[.pointer (some ⟨a1,0,none⟩), .bool false, .int .i64 (x:Int)] w2 fun e w'=>e= .returned (.int .i64 0)∧TX w' F p g.s (cR+2) q l m t n S ⟨lyG g,L, [],true⟩ T'∧Keeps (OwT F t n) w2 w'):=fun w2 hb=>by
  have:=drops6_any (h.later hb) (hp.later hb) false (x:Int)
  rw [p1] at this
  dsimp only at this
  rw [hca.1] at this
  exact this
 have HD2:Hid (∀w2 c,TX w2 F p g.s c q l m t n S ⟨lyG g,L, [],true⟩ T'→PoolAt w2 F a1 t n→Calls Tryz.prog 20 #[.pointer (some ⟨a1,0,none⟩), .bool false, .int .i64 (x:Int)] w2 fun e w'=>e= .returned (.int .i64 62)∧TX w' F p g.s (c+2) q l m t n S ⟨lyG g,L, [],true⟩ T'∧Keeps (OwT F t n) w2 w'):=fun w2 c hx hp=>by
  have:=drops6_any hx hp false (x:Int)
  rw [p2] at this
  dsimp only at this
  rw [hca.2] at this
  exact this
 have HQ:Hid (QF ⟨lyG g,L, [],true⟩ S T' (tb.eraseIdx A) tn):=hq'
 obtain⟨gl,cl,el,ecl⟩:=(hib.later hB1).at hx0
 obtain⟨rfl,rfl⟩:ab=some ⟨gl,0,none⟩∧cb=cl:=by cases el;exact⟨rfl,rfl⟩
 have hgl:B0≤gl∧gl<w.heap.size:=⟨hib.x gl rfl,hib.lt rfl⟩
 have HOW:Hid (IL w (fun j=>B0≤j) _ tb):=hib
 have HOT:Hid (IL w (fun j=>B0≤j) _ tn):=hin
 have HX:=Hid.mk hx
 have HB:=Hid.mk hB1
 have HG:=Hid.mk (And.intro g2 (And.intro g3 g4))
 have HLO:=Hid.mk hlo
 have HP:=Hid.mk hp
 have HX0:=Hid.mk hx0
 have hne':0<(tb.length:Int):=by omega
 have hAl':(A:Int)<(tb.length:Int):=by omega
 have HLL:=Hid.mk hll
 have c1:=cell_of_block g3 (j:=1) (u:= .bool false) rfl
 have ecl':=ecl
 obtain⟨w1,hw1⟩:∃w1,w1=((((w.alloc (.cells #[.int .i64 (g.s:Int), .int .i64 (g.l:Int), .int .i64 (g.n:Int)] 31)).alloc (.cells #[.slice (some ⟨gl,0,none⟩) tb.length cb, .slice an tn.length cn] 51)).alloc (.cells #[.bool true, .bool false, .bool wh, .int .i64 at_] 53)).alloc (.cells #[.slice none 0 0, .slice none 0 0] 51)):=⟨_,rfl⟩
 rw [←hw1] at c1 ecl ecl' HB HG hz1
 clear h hp hd hq hib hin hsep hlo hx hq' p1 p2 hca hb2 hbm hA hx0 g1 g2 g3 g4 hB1 el hll ecl' hat ecast hne
 go_enter Tryz.func16,Tryz.ntmps16
 go_wp2_with fail
 refine(kw _).mono ?_
 rintro e w9 ⟨rfl,hw9⟩
 have hw:w1=w9:=hw1.trans hw9.symm
 clear hw9 hw1 kw
 subst hw
 go_wp2_with fail
 refine wp_region_held_drew (S:=(fun w'=>w'.cell? ⟨w.heap.size+1+1,1,none⟩=some (.bool false)∧w'.cell? ⟨gl,A,none⟩=some (.int .i64 (x:Int)))) (by kernel_rfl) (⟨c1,ecl⟩) (fun hHeld=>?_)
 refine wpAnyH_take (i:=0) (oi:={dst:=some 34,op:=Op.move (Operand.tmp 0),type:=25,pos:= "outright.go:136",after:= #[],guard:=none}) (v:= .pointer (some ⟨a1,0,none⟩)) rfl (by kernel_rfl) (by kernel_rfl) (by kernel_rfl) (fun _ _ _ h=>h) (Or.inl ⟨by rfl,?_⟩) (by assumption) ?_
 ·intro w hSw
  (try dsimp only at hSw)
  go_simp
 try simp only [Act.put,List.setIfInBounds_toArray,List.set_cons_zero,List.set_cons_succ]
 refine wpAnyH_take (i:=1) (oi:={dst:=some 35,op:=Op.fieldAddr 53 (Operand.tmp 7) 1,type:=0,pos:= "outright.go:136",after:= #[],guard:=none}) (v:= .pointer (some ⟨w.heap.size+1+1,1,none⟩)) rfl (by kernel_rfl) (by kernel_rfl) (by kernel_rfl) (fun _ _ _ h=>h) (Or.inl ⟨by rfl,?_⟩) (by assumption) ?_
 ·intro w hSw
  (try dsimp only at hSw)
  go_simp
 try simp only [Act.put,List.setIfInBounds_toArray,List.set_cons_zero,List.set_cons_succ]
 refine wpAnyH_take (i:=2) (oi:={dst:=some 36,op:=Op.load 4 (Operand.tmp 35),type:=4,pos:= "outright.go:136",after:= #[{on:=1,ground:=Ground.data}],guard:=none}) (v:= .bool false) rfl (by kernel_rfl) (by kernel_rfl) (by kernel_rfl) (fun _ _ _ h=>h) (Or.inl ⟨by rfl,?_⟩) (by assumption) ?_
 ·intro w hSw
  (try dsimp only at hSw)
  go_simp
 try simp only [Act.put,List.setIfInBounds_toArray,List.set_cons_zero,List.set_cons_succ]
 refine wpAnyH_take (i:=3) (oi:={dst:=some 37,op:=Op.move (Operand.tmp 10),type:=49,pos:= "outright.go:136",after:= #[],guard:=none}) (v:= .slice (some ⟨gl,0,none⟩) tb.length cb) rfl (by kernel_rfl) (by kernel_rfl) (by kernel_rfl) (fun _ _ _ h=>h) (Or.inl ⟨by rfl,?_⟩) (by assumption) ?_
 ·intro w hSw
  (try dsimp only at hSw)
  go_simp
 try simp only [Act.put,List.setIfInBounds_toArray,List.set_cons_zero,List.set_cons_succ]
 refine wpAnyH_take (i:=4) (oi:={dst:=some 38,op:=Op.move (Operand.tmp 12),type:=3,pos:= "outright.go:136",after:= #[],guard:=none}) (v:= .int .i64 (A:Int)) rfl (by kernel_rfl) (by kernel_rfl) (by kernel_rfl) (fun _ _ _ h=>h) (Or.inl ⟨by rfl,?_⟩) (by assumption) ?_
 ·intro w hSw
  (try dsimp only at hSw)
  go_simp
 try simp only [Act.put,List.setIfInBounds_toArray,List.set_cons_zero,List.set_cons_succ]
 refine wpAnyH_take (i:=5) (oi:={dst:=some 39,op:=Op.indexAddr 49 (Operand.tmp 37) (Operand.tmp 38),type:=0,pos:= "outright.go:136",after:= #[{on:=3,ground:=Ground.data},{on:=4,ground:=Ground.data}],guard:=none}) (v:= .pointer (some ⟨gl,A,none⟩)) rfl (by kernel_rfl) (by kernel_rfl) (by kernel_rfl) (fun _ _ _ h=>h) (Or.inl ⟨by rfl,?_⟩) (by assumption) ?_
 ·intro w hSw
  (try dsimp only at hSw)
  go_simp
 try simp only [Act.put,List.setIfInBounds_toArray,List.set_cons_zero,List.set_cons_succ]
 refine wpAnyH_take (i:=6) (oi:={dst:=some 40,op:=Op.load 3 (Operand.tmp 39),type:=3,pos:= "outright.go:136",after:= #[{on:=5,ground:=Ground.data}],guard:=none}) (v:= .int .i64 (x:Int)) rfl (by kernel_rfl) (by kernel_rfl) (by kernel_rfl) (fun _ _ _ h=>h) (Or.inl ⟨by rfl,?_⟩) (by assumption) ?_
 ·intro w hSw
  (try dsimp only at hSw)
  go_simp
 try simp only [Act.put,List.setIfInBounds_toArray,List.set_cons_zero,List.set_cons_succ]
 refine wpAnyH_ready (rs:= [7]) (by kernel_rfl) (by simp) ?_
 refine AllReadyH.cons (o:={dst:=some 41,op:=Op.call {callee:=Callee.value (Operand.func 20),args:= #[Operand.tmp 34,Operand.tmp 36,Operand.tmp 40],argTypes:= #[25,4,3]},type:=3,pos:= "outright.go:136",after:= #[{on:=0,ground:=Ground.data},{on:=2,ground:=Ground.data},{on:=6,ground:=Ground.data}],guard:=none}) rfl (fun K hK=>?_) AllReadyH.nil
 go_simp
 refine(HD1.out w1.drew (below_drew HB.out)).mono ?_
 rintro e w2 ⟨rfl,hx2,hk2⟩
 have u2:w2.heap[w.heap.size+1]? =_:=(hk2.block _ (lt_there HG.out.1) (HX.out _ (by omega))).trans HG.out.1
 have v2:w2.heap[w.heap.size+1+1]? =_:=(hk2.block _ (lt_there HG.out.2.1) (HX.out _ (by omega))).trans HG.out.2.1
 have x2:w2.heap[w.heap.size+1+1+1]? =_:=(hk2.block _ (lt_there HG.out.2.2) (HX.out _ (by omega))).trans HG.out.2.2
 have hkw2:Keeps (OwT F t n) w w2:=(Keeps.of_below _ (below_drew HB.out)).trans hk2 (fun _ h=> .inl h)
 have c2:w2.cell? ⟨w.heap.size+1+1,1,none⟩=some (.bool false):=cell_of_block v2 (j:=1) rfl
 have ecl2:w2.cell? ⟨gl,A,none⟩=some (.int .i64 (x:Int)):=(World.cell?_of_block (w:=w1.drew) (a:=⟨gl,A,none⟩) (hk2.block gl (by have:=HB.out.size;show gl<w1.heap.size;omega) (HX.out gl hgl.1))).trans ecl
 have HW2:Hid (TX w2 F p g.s (cR+2) q l m t n S ⟨lyG g,L, [],true⟩ T'∧Keeps (OwT F t n) w w2):=⟨hx2,hkw2⟩
 have HG2:=Hid.mk (And.intro u2 (And.intro v2 x2))
 have hz2:w.heap.size+4≤w2.heap.size:=by have:=hk2.size;rw [←hz1];exact this
 have hk2z:=Hid.mk hk2
 clear c1 ecl hx2 hk2 u2 v2 x2 hkw2 HD1 HG
 refine hK.out _ _ ?_ (fun hHeld=>?_)
 ·exact⟨c2,ecl2⟩
 clear hK K
 try simp only [Act.put,List.setIfInBounds_toArray,List.set_cons_zero,List.set_cons_succ]
 refine wpAnyH_ready (rs:= [8]) (by kernel_rfl) (by simp) ?_
 refine AllReadyH.cons (o:={dst:=some 13,op:=Op.assign (Operand.tmp 41),type:=3,pos:= "outright.go:136",after:= #[{on:=7,ground:=Ground.data},{on:=7,ground:=Ground.chain},{on:=0,ground:=Ground.phase},{on:=1,ground:=Ground.phase},{on:=2,ground:=Ground.phase},{on:=3,ground:=Ground.phase},{on:=4,ground:=Ground.phase},{on:=5,ground:=Ground.phase},{on:=6,ground:=Ground.phase},{on:=7,ground:=Ground.phase}],guard:=none}) rfl (fun K hK=>?_) AllReadyH.nil
 go_simp
 refine hK.out _ _ ?_ (fun hHeld=>?_)
 ·exact⟨c2,ecl2⟩
 clear hK K
 try simp only [Act.put,List.setIfInBounds_toArray,List.set_cons_zero,List.set_cons_succ]
 refine wpAnyH_done (by kernel_rfl) ?_ _
 go_wp2_with fail
 refine wp_region_held_drew (S:=(fun w'=>w'.cell? ⟨w.heap.size+1+1,1,none⟩=some (.bool false)∧w'.cell? ⟨gl,A,none⟩=some (.int .i64 (x:Int)))) (by kernel_rfl) (⟨c2,ecl2⟩) (fun hHeld=>?_)
 refine wpAnyH_take (i:=0) (oi:={dst:=some 42,op:=Op.move (Operand.tmp 0),type:=25,pos:= "outright.go:137",after:= #[],guard:=none}) (v:= .pointer (some ⟨a1,0,none⟩)) rfl (by kernel_rfl) (by kernel_rfl) (by kernel_rfl) (fun _ _ _ h=>h) (Or.inl ⟨by rfl,?_⟩) (by assumption) ?_
 ·intro w hSw
  (try dsimp only at hSw)
  go_simp
 try simp only [Act.put,List.setIfInBounds_toArray,List.set_cons_zero,List.set_cons_succ]
 refine wpAnyH_take (i:=1) (oi:={dst:=some 43,op:=Op.fieldAddr 53 (Operand.tmp 7) 1,type:=0,pos:= "outright.go:137",after:= #[],guard:=none}) (v:= .pointer (some ⟨w.heap.size+1+1,1,none⟩)) rfl (by kernel_rfl) (by kernel_rfl) (by kernel_rfl) (fun _ _ _ h=>h) (Or.inl ⟨by rfl,?_⟩) (by assumption) ?_
 ·intro w hSw
  (try dsimp only at hSw)
  go_simp
 try simp only [Act.put,List.setIfInBounds_toArray,List.set_cons_zero,List.set_cons_succ]
 refine wpAnyH_take (i:=2) (oi:={dst:=some 44,op:=Op.load 4 (Operand.tmp 43),type:=4,pos:= "outright.go:137",after:= #[{on:=1,ground:=Ground.data}],guard:=none}) (v:= .bool false) rfl (by kernel_rfl) (by kernel_rfl) (by kernel_rfl) (fun _ _ _ h=>h) (Or.inl ⟨by rfl,?_⟩) (by assumption) ?_
 ·intro w hSw
  (try dsimp only at hSw)
  go_simp
 try simp only [Act.put,List.setIfInBounds_toArray,List.set_cons_zero,List.set_cons_succ]
 refine wpAnyH_take (i:=3) (oi:={dst:=some 45,op:=Op.move (Operand.tmp 10),type:=49,pos:= "outright.go:137",after:= #[],guard:=none}) (v:= .slice (some ⟨gl,0,none⟩) tb.length cb) rfl (by kernel_rfl) (by kernel_rfl) (by kernel_rfl) (fun _ _ _ h=>h) (Or.inl ⟨by rfl,?_⟩) (by assumption) ?_
 ·intro w hSw
  (try dsimp only at hSw)
  go_simp
 try simp only [Act.put,List.setIfInBounds_toArray,List.set_cons_zero,List.set_cons_succ]
 refine wpAnyH_take (i:=4) (oi:={dst:=some 46,op:=Op.move (Operand.tmp 12),type:=3,pos:= "outright.go:137",after:= #[],guard:=none}) (v:= .int .i64 (A:Int)) rfl (by kernel_rfl) (by kernel_rfl) (by kernel_rfl) (fun _ _ _ h=>h) (Or.inl ⟨by rfl,?_⟩) (by assumption) ?_
 ·intro w hSw
  (try dsimp only at hSw)
  go_simp
 try simp only [Act.put,List.setIfInBounds_toArray,List.set_cons_zero,List.set_cons_succ]
 refine wpAnyH_take (i:=5) (oi:={dst:=some 47,op:=Op.indexAddr 49 (Operand.tmp 45) (Operand.tmp 46),type:=0,pos:= "outright.go:137",after:= #[{on:=3,ground:=Ground.data},{on:=4,ground:=Ground.data}],guard:=none}) (v:= .pointer (some ⟨gl,A,none⟩)) rfl (by kernel_rfl) (by kernel_rfl) (by kernel_rfl) (fun _ _ _ h=>h) (Or.inl ⟨by rfl,?_⟩) (by assumption) ?_
 ·intro w hSw
  (try dsimp only at hSw)
  go_simp
 try simp only [Act.put,List.setIfInBounds_toArray,List.set_cons_zero,List.set_cons_succ]
 refine wpAnyH_take (i:=6) (oi:={dst:=some 48,op:=Op.load 3 (Operand.tmp 47),type:=3,pos:= "outright.go:137",after:= #[{on:=5,ground:=Ground.data}],guard:=none}) (v:= .int .i64 (x:Int)) rfl (by kernel_rfl) (by kernel_rfl) (by kernel_rfl) (fun _ _ _ h=>h) (Or.inl ⟨by rfl,?_⟩) (by assumption) ?_
 ·intro w hSw
  (try dsimp only at hSw)
  go_simp
 try simp only [Act.put,List.setIfInBounds_toArray,List.set_cons_zero,List.set_cons_succ]
 refine wpAnyH_ready (rs:= [7]) (by kernel_rfl) (by simp) ?_
 refine AllReadyH.cons (o:={dst:=some 49,op:=Op.call {callee:=Callee.value (Operand.func 20),args:= #[Operand.tmp 42,Operand.tmp 44,Operand.tmp 48],argTypes:= #[25,4,3]},type:=3,pos:= "outright.go:137",after:= #[{on:=0,ground:=Ground.data},{on:=2,ground:=Ground.data},{on:=6,ground:=Ground.data}],guard:=none}) rfl (fun K hK=>?_) AllReadyH.nil
 go_simp
 refine(HD2.out w2.drew _ (HW2.out.1.later (below_drew (Below.refl _ _))) ((HP.out.keep HW2.out.2).later (below_drew (Below.refl _ _)))).mono ?_
 rintro e w3 ⟨rfl,hx3,hk3⟩
 have u3:w3.heap[w.heap.size+1]? =_:=(hk3.block _ (lt_there HG2.out.1) (HX.out _ (by omega))).trans HG2.out.1
 have v3:w3.heap[w.heap.size+1+1]? =_:=(hk3.block _ (lt_there HG2.out.2.1) (HX.out _ (by omega))).trans HG2.out.2.1
 have x3:w3.heap[w.heap.size+1+1+1]? =_:=(hk3.block _ (lt_there HG2.out.2.2) (HX.out _ (by omega))).trans HG2.out.2.2
 have hkw3:Keeps (OwT F t n) w w3:=(HW2.out.2.trans (Keeps.of_below (OwT F t n) (below_drew (Below.refl _ _))) (fun _ h=> .inl h)).trans hk3 (fun _ h=> .inl h)
 have c3:w3.cell? ⟨w.heap.size+1+1,1,none⟩=some (.bool false):=cell_of_block v3 (j:=1) rfl
 have ecl3:w3.cell? ⟨gl,A,none⟩=some (.int .i64 (x:Int)):=(World.cell?_of_block (w:=w2.drew) (a:=⟨gl,A,none⟩) (hk3.block gl (by show gl<w2.heap.size;omega) (HX.out gl hgl.1))).trans ecl2
 have hil3:=HOW.out.keep hkw3 (fun j hj=>HX.out j (HOW.out.x j hj))
 have kx:=without_any hil3 A (by have:=HLL.out;omega)
 have HW3:Hid (TX w3 F p g.s (cR+2+2) q l m t n S ⟨lyG g,L, [],true⟩ T'∧Keeps (OwT F t n) w w3):=⟨hx3,hkw3⟩
 have HG3:=Hid.mk (And.intro u3 (And.intro v3 x3))
 have hz3:w.heap.size+4≤w3.heap.size:=by have:w2.heap.size≤w3.heap.size:=hk3.size;omega
 clear c2 ecl2 hx3 hk3 u3 v3 x3 hkw3 HD2 HG2 HW2 hil3
 refine hK.out _ _ ?_ (fun hHeld=>?_)
 ·exact⟨c3,ecl3⟩
 clear hK K
 try simp only [Act.put,List.setIfInBounds_toArray,List.set_cons_zero,List.set_cons_succ]
 refine wpAnyH_ready (rs:= [8]) (by kernel_rfl) (by simp) ?_
 refine AllReadyH.cons (o:={dst:=some 14,op:=Op.assign (Operand.tmp 49),type:=3,pos:= "outright.go:137",after:= #[{on:=7,ground:=Ground.data},{on:=7,ground:=Ground.chain},{on:=0,ground:=Ground.phase},{on:=1,ground:=Ground.phase},{on:=2,ground:=Ground.phase},{on:=3,ground:=Ground.phase},{on:=4,ground:=Ground.phase},{on:=5,ground:=Ground.phase},{on:=6,ground:=Ground.phase},{on:=7,ground:=Ground.phase}],guard:=none}) rfl (fun K hK=>?_) AllReadyH.nil
 go_simp
 refine hK.out _ _ ?_ (fun hHeld=>?_)
 ·exact⟨c3,ecl3⟩
 clear hK K
 try simp only [Act.put,List.setIfInBounds_toArray,List.set_cons_zero,List.set_cons_succ]
 refine wpAnyH_done (by kernel_rfl) ?_ _
 go_wp2_with fail
 refine kx.mono ?_
 rintro e w4 ⟨v4,rfl,hil4,hb4⟩
 obtain⟨a4,c4,rfl⟩:=hil4.form
 have t4:w4.heap[w.heap.size+1]? =_:=(hb4.block _ (lt_there HG3.out.1)).trans HG3.out.1
 have s4:w4.heap[w.heap.size+1+1]? =_:=(hb4.block _ (lt_there HG3.out.2.1)).trans HG3.out.2.1
 have r4:w4.heap[w.heap.size+1+1+1]? =_:=(hb4.block _ (lt_there HG3.out.2.2)).trans HG3.out.2.2
 have cc:w4.cell? ⟨w.heap.size+1+1,1,none⟩=some (.bool false):=cell_of_block s4 (j:=1) rfl
 have ct:=cell_of_block t4 (j:=0) rfl
 have ft:=frozen_of_block t4 0
 obtain⟨d0,d1,d2,d3,d4,d5,d6,d7,d8⟩:=ends t4 r4 0 (u:=(.slice a4 (tb.eraseIdx A).length c4)) (x:= .slice a4 (tb.eraseIdx A).length c4) (y:= .slice an tn.length cn) rfl
 have hE:ActO w (((w4.setCell ⟨w.heap.size+1,0,none⟩ (.slice a4 (tb.eraseIdx A).length c4)).setCell ⟨w.heap.size+1+1+1,0,none⟩ (.slice a4 (tb.eraseIdx A).length c4)).setCell ⟨w.heap.size+1+1+1,1,none⟩ (.slice an tn.length cn)) F B0 p g.s q l m t n S ⟨lyG g,L, [],true⟩ T tb tn (.slice (some ⟨gl,0,none⟩) tb.length cb) (.slice an tn.length cn) (.returned (.tuple #[.agg #[.slice a4 (tb.eraseIdx A).length c4, .slice an tn.length cn], .bool true])):=by
  have hkw4:Keeps (OwT F t n) w w4:=HW3.out.2.trans (Keeps.of_below (OwT F t n) hb4) (fun _ h=> .inl h)
  have ho4:=HOT.out.keep hkw4 (fun j hj=>HX.out j (HOT.out.x j hj))
  have ho5:=ho4.keep d8 (fun j hj e=>by have:=HOT.out.lt hj;omega)
  have hn5:=hil4.keep d8 (fun j hj e=>by have:=hil4.x j hj;omega)
  refine⟨_,_,(tb.eraseIdx A),tn,T',cR+2+2,rfl,(HW3.out.1.later hb4).side HLO.out d8 (fun j hj=>by omega),(hkw4.mono (fun _ h=> .inl h)).trans d8 (fun j hj=> .inr (by omega)),?_,?_,fun j hj e=>?_, .inl HQ.out⟩
  ·exact hn5.mono (fun j hj=>by omega)
  ·exact ho5
  ·have e1:=HOT.out.lt e
   have e2:=hil4.x j hj
   omega
 have HEE:=Hid.mk hE
 clear kx hil4 hb4 t4 s4 r4 d8 hE HG3 HW3 HOW HOT HQ c3 ecl3
 go_wp2
 refine bodyPost_ret (v:= .tuple #[.agg #[.slice a4 (tb.eraseIdx A).length c4, .slice an tn.length cn], .bool true]) (by simp [results,Tryz.results16,go_sem,d6,d7]) rfl ?_
 exact HEE.out
set_option maxRecDepth 20000 in
set_option maxHeartbeats 8000000 in
theorem act_drop1 (h:TX w F p g.s cR q l m t n S ⟨lyG g,L, [],true⟩ T) (hp:PoolAt w F a1 t n) (hd:L.dead S=false) (hq:QF ⟨lyG g,L, [],true⟩ S T tb tn) (hib:IL w (fun j=>B0≤j) vb tb) (hin:IL w (fun j=>B0≤j) vn tn) (hsep:∀j,vb.ownBlock=some j→vn.ownBlock≠some j) (hlo:TXlt B0 F q l m t n) (hBw:B0≤w.heap.size) (wh:Bool) (at_:Int) (hat:I64 at_) (hne:0<tn.length):
  Calls Tryz.prog 16 #[.pointer (some ⟨a1,0,none⟩),supV g, .agg #[vb,vn], .agg #[.bool true, .bool true, .bool wh, .int .i64 at_]] w fun e w'=>ActO w w' F B0 p g.s q l m t n S ⟨lyG g,L, [],true⟩ T tb tn vb vn e:=by
 obtain⟨ab,cb,rfl⟩:=hib.form
 obtain⟨an,cn,rfl⟩:=hin.form
 obtain⟨hB1,g1,g2,g3,g4,hz1⟩:=heap4 w (.cells #[.int .i64 (g.s:Int), .int .i64 (g.l:Int), .int .i64 (g.n:Int)] 31) (.cells #[.slice ab tb.length cb, .slice an tn.length cn] 51) (.cells #[.bool true, .bool true, .bool wh, .int .i64 at_] 53) (.cells #[.slice none 0 0, .slice none 0 0] 51)
 have hb2:2≤(⟨lyG g,L, [],true⟩:SG).y.blocks:=h.yk.b2
 have hbm:(stB true (⟨lyG g,L, [],true⟩:SG).y).bm<(⟨lyG g,L, [],true⟩:SG).y.blocks:=by have:=(stB_ok h.yk true).bm;omega
 have hll:tn.length≤4096:=by
  have h5:=(hq.of true).fr
  have h6:=(stB_ok h.yk true).hi
  have h7:freeN (T.sees ⟨lyG g,L, [],true⟩ S (stB true (⟨lyG g,L, [],true⟩:SG).y).bm) ((stB true (⟨lyG g,L, [],true⟩:SG).y).first-(stB true (⟨lyG g,L, [],true⟩:SG).y).zero) (stB true (⟨lyG g,L, [],true⟩:SG).y).cnt+tn.length=(stB true (⟨lyG g,L, [],true⟩:SG).y).cnt:=h5
  omega
 obtain⟨A,hA⟩:∃A,A=wthn at_ 0 (tn.length-1):=⟨_,rfl⟩
 have hAl:A<tn.length:=by
  have:=(wthn_in at_ (lo:=0) (hi:=tn.length-1) (Nat.zero_le _)).2
  omega
 have ecast:((tn.length-1:Nat):Int)=wrap64 ((tn.length:Int)-1):=((wrapS (by omega) (by omega)).trans (by omega)).symm
 have kw:∀w,Calls Tryz.prog 19 #[.int .i64 at_, .int .i64 0, .int .i64 (wrap64 ((tn.length:Int)-1))] w fun e w'=>e= .returned (.int .i64 (A:Int))∧w'=w:=fun w=>by
  have k:=within6_any at_ 0 (tn.length-1) (Nat.zero_le _) (by omega) ⟨hat.1,hat.2⟩ w
  rw [←hA,ecast] at k
  exact k
 obtain⟨x,hx0⟩:∃x,tn[A]? =some x:=⟨_,List.getElem?_eq_getElem hAl⟩
 obtain⟨T',p1,p2,hq'⟩:=hq.drop hd hb2 h.tx.ch.ok h.yk true (h.bytes _) (h.len _ hbm) (a:=A) (x:=x) hAl hx0
 have hca:=caught_ok hd hq'
 have hx:∀j,B0≤j→¬OwT F t n j:=fun j hj ho=>by
  obtain⟨o1,o2,o3,o4,o5,o6⟩:=hlo
  rcases ho with ho|ho|ho
  ·have:=o1 j ho;omega
  ·omega
  ·omega
 have HD1:Hid (∀w2,Below w.heap.size w w2→Calls Tryz.prog 20 #[.pointer (some ⟨a1,0,none⟩), .bool true, .int .i64 (x:Int)] w2 fun e w'=>e= .returned (.int .i64 0)∧TX w' F p g.s (cR+2) q l m t n S ⟨lyG g,L, [],true⟩ T'∧Keeps (OwT F t n) w2 w'):=fun w2 hb=>by
  have:=drops6_any (h.later hb) (hp.later hb) true (x:Int)
  rw [p1] at this
  dsimp only at this
  rw [hca.1] at this
  exact this
 have HD2:Hid (∀w2 c,TX w2 F p g.s c q l m t n S ⟨lyG g,L, [],true⟩ T'→PoolAt w2 F a1 t n→Calls Tryz.prog 20 #[.pointer (some ⟨a1,0,none⟩), .bool true, .int .i64 (x:Int)] w2 fun e w'=>e= .returned (.int .i64 62)∧TX w' F p g.s (c+2) q l m t n S ⟨lyG g,L, [],true⟩ T'∧Keeps (OwT F t n) w2 w'):=fun w2 c hx hp=>by
  have:=drops6_any hx hp true (x:Int)
  rw [p2] at this
  dsimp only at this
  rw [hca.2] at this
  exact this
 have HQ:Hid (QF ⟨lyG g,L, [],true⟩ S T' tb (tn.eraseIdx A)):=hq'
 obtain⟨gl,cl,el,ecl⟩:=(hin.later hB1).at hx0
 obtain⟨rfl,rfl⟩:an=some ⟨gl,0,none⟩∧cn=cl:=by cases el;exact⟨rfl,rfl⟩
 have hgl:B0≤gl∧gl<w.heap.size:=⟨hin.x gl rfl,hin.lt rfl⟩
 have HOW:Hid (IL w (fun j=>B0≤j) _ tn):=hin
 have HOT:Hid (IL w (fun j=>B0≤j) _ tb):=hib
 have HX:=Hid.mk hx
 have HB:=Hid.mk hB1
 have HG:=Hid.mk (And.intro g2 (And.intro g3 g4))
 have HLO:=Hid.mk hlo
 have HP:=Hid.mk hp
 have HX0:=Hid.mk hx0
 have hne':0<(tn.length:Int):=by omega
 have hAl':(A:Int)<(tn.length:Int):=by omega
 have HLL:=Hid.mk hll
 have c1:=cell_of_block g3 (j:=1) (u:= .bool true) rfl
 have ecl':=ecl
 obtain⟨w1,hw1⟩:∃w1,w1=((((w.alloc (.cells #[.int .i64 (g.s:Int), .int .i64 (g.l:Int), .int .i64 (g.n:Int)] 31)).alloc (.cells #[.slice ab tb.length cb, .slice (some ⟨gl,0,none⟩) tn.length cn] 51)).alloc (.cells #[.bool true, .bool true, .bool wh, .int .i64 at_] 53)).alloc (.cells #[.slice none 0 0, .slice none 0 0] 51)):=⟨_,rfl⟩
 rw [←hw1] at c1 ecl ecl' HB HG hz1
 clear h hp hd hq hib hin hsep hlo hx hq' p1 p2 hca hb2 hbm hA hx0 g1 g2 g3 g4 hB1 el hll ecl' hat ecast hne
 go_enter Tryz.func16,Tryz.ntmps16
 go_wp2_with fail
 refine(kw _).mono ?_
 rintro e w9 ⟨rfl,hw9⟩
 have hw:w1=w9:=hw1.trans hw9.symm
 clear hw9 hw1 kw
 subst hw
 go_wp2_with fail
 refine wp_region_held_drew (S:=(fun w'=>w'.cell? ⟨w.heap.size+1+1,1,none⟩=some (.bool true)∧w'.cell? ⟨gl,A,none⟩=some (.int .i64 (x:Int)))) (by kernel_rfl) (⟨c1,ecl⟩) (fun hHeld=>?_)
 refine wpAnyH_take (i:=0) (oi:={dst:=some 34,op:=Op.move (Operand.tmp 0),type:=25,pos:= "outright.go:136",after:= #[],guard:=none}) (v:= .pointer (some ⟨a1,0,none⟩)) rfl (by kernel_rfl) (by kernel_rfl) (by kernel_rfl) (fun _ _ _ h=>h) (Or.inl ⟨by rfl,?_⟩) (by assumption) ?_
 ·intro w hSw
  (try dsimp only at hSw)
  go_simp
 try simp only [Act.put,List.setIfInBounds_toArray,List.set_cons_zero,List.set_cons_succ]
 refine wpAnyH_take (i:=1) (oi:={dst:=some 35,op:=Op.fieldAddr 53 (Operand.tmp 7) 1,type:=0,pos:= "outright.go:136",after:= #[],guard:=none}) (v:= .pointer (some ⟨w.heap.size+1+1,1,none⟩)) rfl (by kernel_rfl) (by kernel_rfl) (by kernel_rfl) (fun _ _ _ h=>h) (Or.inl ⟨by rfl,?_⟩) (by assumption) ?_
 ·intro w hSw
  (try dsimp only at hSw)
  go_simp
 try simp only [Act.put,List.setIfInBounds_toArray,List.set_cons_zero,List.set_cons_succ]
 refine wpAnyH_take (i:=2) (oi:={dst:=some 36,op:=Op.load 4 (Operand.tmp 35),type:=4,pos:= "outright.go:136",after:= #[{on:=1,ground:=Ground.data}],guard:=none}) (v:= .bool true) rfl (by kernel_rfl) (by kernel_rfl) (by kernel_rfl) (fun _ _ _ h=>h) (Or.inl ⟨by rfl,?_⟩) (by assumption) ?_
 ·intro w hSw
  (try dsimp only at hSw)
  go_simp
 try simp only [Act.put,List.setIfInBounds_toArray,List.set_cons_zero,List.set_cons_succ]
 refine wpAnyH_take (i:=3) (oi:={dst:=some 37,op:=Op.move (Operand.tmp 10),type:=49,pos:= "outright.go:136",after:= #[],guard:=none}) (v:= .slice (some ⟨gl,0,none⟩) tn.length cn) rfl (by kernel_rfl) (by kernel_rfl) (by kernel_rfl) (fun _ _ _ h=>h) (Or.inl ⟨by rfl,?_⟩) (by assumption) ?_
 ·intro w hSw
  (try dsimp only at hSw)
  go_simp
 try simp only [Act.put,List.setIfInBounds_toArray,List.set_cons_zero,List.set_cons_succ]
 refine wpAnyH_take (i:=4) (oi:={dst:=some 38,op:=Op.move (Operand.tmp 12),type:=3,pos:= "outright.go:136",after:= #[],guard:=none}) (v:= .int .i64 (A:Int)) rfl (by kernel_rfl) (by kernel_rfl) (by kernel_rfl) (fun _ _ _ h=>h) (Or.inl ⟨by rfl,?_⟩) (by assumption) ?_
 ·intro w hSw
  (try dsimp only at hSw)
  go_simp
 try simp only [Act.put,List.setIfInBounds_toArray,List.set_cons_zero,List.set_cons_succ]
 refine wpAnyH_take (i:=5) (oi:={dst:=some 39,op:=Op.indexAddr 49 (Operand.tmp 37) (Operand.tmp 38),type:=0,pos:= "outright.go:136",after:= #[{on:=3,ground:=Ground.data},{on:=4,ground:=Ground.data}],guard:=none}) (v:= .pointer (some ⟨gl,A,none⟩)) rfl (by kernel_rfl) (by kernel_rfl) (by kernel_rfl) (fun _ _ _ h=>h) (Or.inl ⟨by rfl,?_⟩) (by assumption) ?_
 ·intro w hSw
  (try dsimp only at hSw)
  go_simp
 try simp only [Act.put,List.setIfInBounds_toArray,List.set_cons_zero,List.set_cons_succ]
 refine wpAnyH_take (i:=6) (oi:={dst:=some 40,op:=Op.load 3 (Operand.tmp 39),type:=3,pos:= "outright.go:136",after:= #[{on:=5,ground:=Ground.data}],guard:=none}) (v:= .int .i64 (x:Int)) rfl (by kernel_rfl) (by kernel_rfl) (by kernel_rfl) (fun _ _ _ h=>h) (Or.inl ⟨by rfl,?_⟩) (by assumption) ?_
 ·intro w hSw
  (try dsimp only at hSw)
  go_simp
 try simp only [Act.put,List.setIfInBounds_toArray,List.set_cons_zero,List.set_cons_succ]
 refine wpAnyH_ready (rs:= [7]) (by kernel_rfl) (by simp) ?_
 refine AllReadyH.cons (o:={dst:=some 41,op:=Op.call {callee:=Callee.value (Operand.func 20),args:= #[Operand.tmp 34,Operand.tmp 36,Operand.tmp 40],argTypes:= #[25,4,3]},type:=3,pos:= "outright.go:136",after:= #[{on:=0,ground:=Ground.data},{on:=2,ground:=Ground.data},{on:=6,ground:=Ground.data}],guard:=none}) rfl (fun K hK=>?_) AllReadyH.nil
 go_simp
 refine(HD1.out w1.drew (below_drew HB.out)).mono ?_
 rintro e w2 ⟨rfl,hx2,hk2⟩
 have u2:w2.heap[w.heap.size+1]? =_:=(hk2.block _ (lt_there HG.out.1) (HX.out _ (by omega))).trans HG.out.1
 have v2:w2.heap[w.heap.size+1+1]? =_:=(hk2.block _ (lt_there HG.out.2.1) (HX.out _ (by omega))).trans HG.out.2.1
 have x2:w2.heap[w.heap.size+1+1+1]? =_:=(hk2.block _ (lt_there HG.out.2.2) (HX.out _ (by omega))).trans HG.out.2.2
 have hkw2:Keeps (OwT F t n) w w2:=(Keeps.of_below _ (below_drew HB.out)).trans hk2 (fun _ h=> .inl h)
 have c2:w2.cell? ⟨w.heap.size+1+1,1,none⟩=some (.bool true):=cell_of_block v2 (j:=1) rfl
 have ecl2:w2.cell? ⟨gl,A,none⟩=some (.int .i64 (x:Int)):=(World.cell?_of_block (w:=w1.drew) (a:=⟨gl,A,none⟩) (hk2.block gl (by have:=HB.out.size;show gl<w1.heap.size;omega) (HX.out gl hgl.1))).trans ecl
 have HW2:Hid (TX w2 F p g.s (cR+2) q l m t n S ⟨lyG g,L, [],true⟩ T'∧Keeps (OwT F t n) w w2):=⟨hx2,hkw2⟩
 have HG2:=Hid.mk (And.intro u2 (And.intro v2 x2))
 have hz2:w.heap.size+4≤w2.heap.size:=by have:=hk2.size;rw [←hz1];exact this
 have hk2z:=Hid.mk hk2
 clear c1 ecl hx2 hk2 u2 v2 x2 hkw2 HD1 HG
 refine hK.out _ _ ?_ (fun hHeld=>?_)
 ·exact⟨c2,ecl2⟩
 clear hK K
 try simp only [Act.put,List.setIfInBounds_toArray,List.set_cons_zero,List.set_cons_succ]
 refine wpAnyH_ready (rs:= [8]) (by kernel_rfl) (by simp) ?_
 refine AllReadyH.cons (o:={dst:=some 13,op:=Op.assign (Operand.tmp 41),type:=3,pos:= "outright.go:136",after:= #[{on:=7,ground:=Ground.data},{on:=7,ground:=Ground.chain},{on:=0,ground:=Ground.phase},{on:=1,ground:=Ground.phase},{on:=2,ground:=Ground.phase},{on:=3,ground:=Ground.phase},{on:=4,ground:=Ground.phase},{on:=5,ground:=Ground.phase},{on:=6,ground:=Ground.phase},{on:=7,ground:=Ground.phase}],guard:=none}) rfl (fun K hK=>?_) AllReadyH.nil
 go_simp
 refine hK.out _ _ ?_ (fun hHeld=>?_)
 ·exact⟨c2,ecl2⟩
 clear hK K
 try simp only [Act.put,List.setIfInBounds_toArray,List.set_cons_zero,List.set_cons_succ]
 refine wpAnyH_done (by kernel_rfl) ?_ _
 go_wp2_with fail
 refine wp_region_held_drew (S:=(fun w'=>w'.cell? ⟨w.heap.size+1+1,1,none⟩=some (.bool true)∧w'.cell? ⟨gl,A,none⟩=some (.int .i64 (x:Int)))) (by kernel_rfl) (⟨c2,ecl2⟩) (fun hHeld=>?_)
 refine wpAnyH_take (i:=0) (oi:={dst:=some 42,op:=Op.move (Operand.tmp 0),type:=25,pos:= "outright.go:137",after:= #[],guard:=none}) (v:= .pointer (some ⟨a1,0,none⟩)) rfl (by kernel_rfl) (by kernel_rfl) (by kernel_rfl) (fun _ _ _ h=>h) (Or.inl ⟨by rfl,?_⟩) (by assumption) ?_
 ·intro w hSw
  (try dsimp only at hSw)
  go_simp
 try simp only [Act.put,List.setIfInBounds_toArray,List.set_cons_zero,List.set_cons_succ]
 refine wpAnyH_take (i:=1) (oi:={dst:=some 43,op:=Op.fieldAddr 53 (Operand.tmp 7) 1,type:=0,pos:= "outright.go:137",after:= #[],guard:=none}) (v:= .pointer (some ⟨w.heap.size+1+1,1,none⟩)) rfl (by kernel_rfl) (by kernel_rfl) (by kernel_rfl) (fun _ _ _ h=>h) (Or.inl ⟨by rfl,?_⟩) (by assumption) ?_
 ·intro w hSw
  (try dsimp only at hSw)
  go_simp
 try simp only [Act.put,List.setIfInBounds_toArray,List.set_cons_zero,List.set_cons_succ]
 refine wpAnyH_take (i:=2) (oi:={dst:=some 44,op:=Op.load 4 (Operand.tmp 43),type:=4,pos:= "outright.go:137",after:= #[{on:=1,ground:=Ground.data}],guard:=none}) (v:= .bool true) rfl (by kernel_rfl) (by kernel_rfl) (by kernel_rfl) (fun _ _ _ h=>h) (Or.inl ⟨by rfl,?_⟩) (by assumption) ?_
 ·intro w hSw
  (try dsimp only at hSw)
  go_simp
 try simp only [Act.put,List.setIfInBounds_toArray,List.set_cons_zero,List.set_cons_succ]
 refine wpAnyH_take (i:=3) (oi:={dst:=some 45,op:=Op.move (Operand.tmp 10),type:=49,pos:= "outright.go:137",after:= #[],guard:=none}) (v:= .slice (some ⟨gl,0,none⟩) tn.length cn) rfl (by kernel_rfl) (by kernel_rfl) (by kernel_rfl) (fun _ _ _ h=>h) (Or.inl ⟨by rfl,?_⟩) (by assumption) ?_
 ·intro w hSw
  (try dsimp only at hSw)
  go_simp
 try simp only [Act.put,List.setIfInBounds_toArray,List.set_cons_zero,List.set_cons_succ]
 refine wpAnyH_take (i:=4) (oi:={dst:=some 46,op:=Op.move (Operand.tmp 12),type:=3,pos:= "outright.go:137",after:= #[],guard:=none}) (v:= .int .i64 (A:Int)) rfl (by kernel_rfl) (by kernel_rfl) (by kernel_rfl) (fun _ _ _ h=>h) (Or.inl ⟨by rfl,?_⟩) (by assumption) ?_
 ·intro w hSw
  (try dsimp only at hSw)
  go_simp
 try simp only [Act.put,List.setIfInBounds_toArray,List.set_cons_zero,List.set_cons_succ]
 refine wpAnyH_take (i:=5) (oi:={dst:=some 47,op:=Op.indexAddr 49 (Operand.tmp 45) (Operand.tmp 46),type:=0,pos:= "outright.go:137",after:= #[{on:=3,ground:=Ground.data},{on:=4,ground:=Ground.data}],guard:=none}) (v:= .pointer (some ⟨gl,A,none⟩)) rfl (by kernel_rfl) (by kernel_rfl) (by kernel_rfl) (fun _ _ _ h=>h) (Or.inl ⟨by rfl,?_⟩) (by assumption) ?_
 ·intro w hSw
  (try dsimp only at hSw)
  go_simp
 try simp only [Act.put,List.setIfInBounds_toArray,List.set_cons_zero,List.set_cons_succ]
 refine wpAnyH_take (i:=6) (oi:={dst:=some 48,op:=Op.load 3 (Operand.tmp 47),type:=3,pos:= "outright.go:137",after:= #[{on:=5,ground:=Ground.data}],guard:=none}) (v:= .int .i64 (x:Int)) rfl (by kernel_rfl) (by kernel_rfl) (by kernel_rfl) (fun _ _ _ h=>h) (Or.inl ⟨by rfl,?_⟩) (by assumption) ?_
 ·intro w hSw
  (try dsimp only at hSw)
  go_simp
 try simp only [Act.put,List.setIfInBounds_toArray,List.set_cons_zero,List.set_cons_succ]
 refine wpAnyH_ready (rs:= [7]) (by kernel_rfl) (by simp) ?_
 refine AllReadyH.cons (o:={dst:=some 49,op:=Op.call {callee:=Callee.value (Operand.func 20),args:= #[Operand.tmp 42,Operand.tmp 44,Operand.tmp 48],argTypes:= #[25,4,3]},type:=3,pos:= "outright.go:137",after:= #[{on:=0,ground:=Ground.data},{on:=2,ground:=Ground.data},{on:=6,ground:=Ground.data}],guard:=none}) rfl (fun K hK=>?_) AllReadyH.nil
 go_simp
 refine(HD2.out w2.drew _ (HW2.out.1.later (below_drew (Below.refl _ _))) ((HP.out.keep HW2.out.2).later (below_drew (Below.refl _ _)))).mono ?_
 rintro e w3 ⟨rfl,hx3,hk3⟩
 have u3:w3.heap[w.heap.size+1]? =_:=(hk3.block _ (lt_there HG2.out.1) (HX.out _ (by omega))).trans HG2.out.1
 have v3:w3.heap[w.heap.size+1+1]? =_:=(hk3.block _ (lt_there HG2.out.2.1) (HX.out _ (by omega))).trans HG2.out.2.1
 have x3:w3.heap[w.heap.size+1+1+1]? =_:=(hk3.block _ (lt_there HG2.out.2.2) (HX.out _ (by omega))).trans HG2.out.2.2
 have hkw3:Keeps (OwT F t n) w w3:=(HW2.out.2.trans (Keeps.of_below (OwT F t n) (below_drew (Below.refl _ _))) (fun _ h=> .inl h)).trans hk3 (fun _ h=> .inl h)
 have c3:w3.cell? ⟨w.heap.size+1+1,1,none⟩=some (.bool true):=cell_of_block v3 (j:=1) rfl
 have ecl3:w3.cell? ⟨gl,A,none⟩=some (.int .i64 (x:Int)):=(World.cell?_of_block (w:=w2.drew) (a:=⟨gl,A,none⟩) (hk3.block gl (by show gl<w2.heap.size;omega) (HX.out gl hgl.1))).trans ecl2
 have hil3:=HOW.out.keep hkw3 (fun j hj=>HX.out j (HOW.out.x j hj))
 have kx:=without_any hil3 A (by have:=HLL.out;omega)
 have HW3:Hid (TX w3 F p g.s (cR+2+2) q l m t n S ⟨lyG g,L, [],true⟩ T'∧Keeps (OwT F t n) w w3):=⟨hx3,hkw3⟩
 have HG3:=Hid.mk (And.intro u3 (And.intro v3 x3))
 have hz3:w.heap.size+4≤w3.heap.size:=by have:w2.heap.size≤w3.heap.size:=hk3.size;omega
 clear c2 ecl2 hx3 hk3 u3 v3 x3 hkw3 HD2 HG2 HW2 hil3
 refine hK.out _ _ ?_ (fun hHeld=>?_)
 ·exact⟨c3,ecl3⟩
 clear hK K
 try simp only [Act.put,List.setIfInBounds_toArray,List.set_cons_zero,List.set_cons_succ]
 refine wpAnyH_ready (rs:= [8]) (by kernel_rfl) (by simp) ?_
 refine AllReadyH.cons (o:={dst:=some 14,op:=Op.assign (Operand.tmp 49),type:=3,pos:= "outright.go:137",after:= #[{on:=7,ground:=Ground.data},{on:=7,ground:=Ground.chain},{on:=0,ground:=Ground.phase},{on:=1,ground:=Ground.phase},{on:=2,ground:=Ground.phase},{on:=3,ground:=Ground.phase},{on:=4,ground:=Ground.phase},{on:=5,ground:=Ground.phase},{on:=6,ground:=Ground.phase},{on:=7,ground:=Ground.phase}],guard:=none}) rfl (fun K hK=>?_) AllReadyH.nil
 go_simp
 refine hK.out _ _ ?_ (fun hHeld=>?_)
 ·exact⟨c3,ecl3⟩
 clear hK K
 try simp only [Act.put,List.setIfInBounds_toArray,List.set_cons_zero,List.set_cons_succ]
 refine wpAnyH_done (by kernel_rfl) ?_ _
 go_wp2_with fail
 refine kx.mono ?_
 rintro e w4 ⟨v4,rfl,hil4,hb4⟩
 obtain⟨a4,c4,rfl⟩:=hil4.form
 have t4:w4.heap[w.heap.size+1]? =_:=(hb4.block _ (lt_there HG3.out.1)).trans HG3.out.1
 have s4:w4.heap[w.heap.size+1+1]? =_:=(hb4.block _ (lt_there HG3.out.2.1)).trans HG3.out.2.1
 have r4:w4.heap[w.heap.size+1+1+1]? =_:=(hb4.block _ (lt_there HG3.out.2.2)).trans HG3.out.2.2
 have cc:w4.cell? ⟨w.heap.size+1+1,1,none⟩=some (.bool true):=cell_of_block s4 (j:=1) rfl
 have ct:=cell_of_block t4 (j:=1) rfl
 have ft:=frozen_of_block t4 1
 obtain⟨d0,d1,d2,d3,d4,d5,d6,d7,d8⟩:=ends t4 r4 1 (u:=(.slice a4 (tn.eraseIdx A).length c4)) (x:= .slice ab tb.length cb) (y:= .slice a4 (tn.eraseIdx A).length c4) rfl
 have hE:ActO w (((w4.setCell ⟨w.heap.size+1,1,none⟩ (.slice a4 (tn.eraseIdx A).length c4)).setCell ⟨w.heap.size+1+1+1,0,none⟩ (.slice ab tb.length cb)).setCell ⟨w.heap.size+1+1+1,1,none⟩ (.slice a4 (tn.eraseIdx A).length c4)) F B0 p g.s q l m t n S ⟨lyG g,L, [],true⟩ T tb tn (.slice ab tb.length cb) (.slice (some ⟨gl,0,none⟩) tn.length cn) (.returned (.tuple #[.agg #[.slice ab tb.length cb, .slice a4 (tn.eraseIdx A).length c4], .bool true])):=by
  have hkw4:Keeps (OwT F t n) w w4:=HW3.out.2.trans (Keeps.of_below (OwT F t n) hb4) (fun _ h=> .inl h)
  have ho4:=HOT.out.keep hkw4 (fun j hj=>HX.out j (HOT.out.x j hj))
  have ho5:=ho4.keep d8 (fun j hj e=>by have:=HOT.out.lt hj;omega)
  have hn5:=hil4.keep d8 (fun j hj e=>by have:=hil4.x j hj;omega)
  refine⟨_,_,tb,(tn.eraseIdx A),T',cR+2+2,rfl,(HW3.out.1.later hb4).side HLO.out d8 (fun j hj=>by omega),(hkw4.mono (fun _ h=> .inl h)).trans d8 (fun j hj=> .inr (by omega)),?_,?_,fun j hj e=>?_, .inl HQ.out⟩
  ·exact ho5
  ·exact hn5.mono (fun j hj=>by omega)
  ·have e1:=HOT.out.lt hj
   have e2:=hil4.x j e
   omega
 have HEE:=Hid.mk hE
 clear kx hil4 hb4 t4 s4 r4 d8 hE HG3 HW3 HOW HOT HQ c3 ecl3
 go_wp2
 refine bodyPost_ret (v:= .tuple #[.agg #[.slice ab tb.length cb, .slice a4 (tn.eraseIdx A).length c4], .bool true]) (by simp [results,Tryz.results16,go_sem,d6,d7]) rfl ?_
 exact HEE.out
end
end Go.Proofs.YtcakbbkbgfhfaaaGreat
end

section
namespace Go.Proofs.YtcakbbkbgfhfaaaGreat
open Go.RowKit Go.Maps
section
variable {w w':World} {F:Nat→Prop} {B0 p cR q l m t n a1:Nat} {S:DS} {T:TG} {g:GEO} {L:LG} {tb tn:List Nat} {vb vn:Value}
set_option maxRecDepth 20000 in
set_option maxHeartbeats 8000000 in
theorem act_idle0 (h:TX w F p g.s cR q l m t n S ⟨lyG g,L, [],true⟩ T) (hq:QF ⟨lyG g,L, [],true⟩ S T tb tn) (hib:IL w (fun j=>B0≤j) vb tb) (hin:IL w (fun j=>B0≤j) vn tn) (hsep:∀j,vb.ownBlock=some j→vn.ownBlock≠some j) (wh:Bool) (at_:Int) (hne:tb.length=0):
  Calls Tryz.prog 16 #[.pointer (some ⟨a1,0,none⟩),supV g, .agg #[vb,vn], .agg #[.bool true, .bool false, .bool wh, .int .i64 at_]] w fun e w'=>ActO w w' F B0 p g.s q l m t n S ⟨lyG g,L, [],true⟩ T tb tn vb vn e:=by
 obtain⟨ab,cb,rfl⟩:=hib.form
 obtain⟨an,cn,rfl⟩:=hin.form
 obtain⟨hB1,g1,g2,g3,g4,hz1⟩:=heap4 w (.cells #[.int .i64 (g.s:Int), .int .i64 (g.l:Int), .int .i64 (g.n:Int)] 31) (.cells #[.slice ab tb.length cb, .slice an tn.length cn] 51) (.cells #[.bool true, .bool false, .bool wh, .int .i64 at_] 53) (.cells #[.slice ab tb.length cb, .slice an tn.length cn] 51)
 have d6:=cell_of_block g4 (j:=0) (u:= .slice ab tb.length cb) rfl
 have d7:=cell_of_block g4 (j:=1) (u:= .slice an tn.length cn) rfl
 have hnl:¬(0:Int)<(tb.length:Int):=by omega
 have hE:ActO w ((((w.alloc (.cells #[.int .i64 (g.s:Int), .int .i64 (g.l:Int), .int .i64 (g.n:Int)] 31)).alloc (.cells #[.slice ab tb.length cb, .slice an tn.length cn] 51)).alloc (.cells #[.bool true, .bool false, .bool wh, .int .i64 at_] 53)).alloc (.cells #[.slice ab tb.length cb, .slice an tn.length cn] 51)) F B0 p g.s q l m t n S ⟨lyG g,L, [],true⟩ T tb tn (.slice ab tb.length cb) (.slice an tn.length cn) (.returned (.tuple #[.agg #[.slice ab tb.length cb, .slice an tn.length cn], .bool true])):=by
  refine⟨_,_,tb,tn,T,cR,rfl,h.later hB1,Keeps.of_below _ hB1,hib.later hB1,hin.later hB1,hsep, .inl hq⟩
 have HEE:=Hid.mk hE
 clear h hq hib hin hsep hB1 g1 g2 g3 g4 hz1 hE hne
 go_enter Tryz.func16,Tryz.ntmps16
 go_wp2
 refine bodyPost_ret (v:= .tuple #[.agg #[.slice ab tb.length cb, .slice an tn.length cn], .bool true]) (by simp [results,Tryz.results16,go_sem,d6,d7]) rfl ?_
 exact HEE.out
set_option maxRecDepth 20000 in
set_option maxHeartbeats 8000000 in
theorem act_idle1 (h:TX w F p g.s cR q l m t n S ⟨lyG g,L, [],true⟩ T) (hq:QF ⟨lyG g,L, [],true⟩ S T tb tn) (hib:IL w (fun j=>B0≤j) vb tb) (hin:IL w (fun j=>B0≤j) vn tn) (hsep:∀j,vb.ownBlock=some j→vn.ownBlock≠some j) (wh:Bool) (at_:Int) (hne:tn.length=0):
  Calls Tryz.prog 16 #[.pointer (some ⟨a1,0,none⟩),supV g, .agg #[vb,vn], .agg #[.bool true, .bool true, .bool wh, .int .i64 at_]] w fun e w'=>ActO w w' F B0 p g.s q l m t n S ⟨lyG g,L, [],true⟩ T tb tn vb vn e:=by
 obtain⟨ab,cb,rfl⟩:=hib.form
 obtain⟨an,cn,rfl⟩:=hin.form
 obtain⟨hB1,g1,g2,g3,g4,hz1⟩:=heap4 w (.cells #[.int .i64 (g.s:Int), .int .i64 (g.l:Int), .int .i64 (g.n:Int)] 31) (.cells #[.slice ab tb.length cb, .slice an tn.length cn] 51) (.cells #[.bool true, .bool true, .bool wh, .int .i64 at_] 53) (.cells #[.slice ab tb.length cb, .slice an tn.length cn] 51)
 have d6:=cell_of_block g4 (j:=0) (u:= .slice ab tb.length cb) rfl
 have d7:=cell_of_block g4 (j:=1) (u:= .slice an tn.length cn) rfl
 have hnl:¬(0:Int)<(tn.length:Int):=by omega
 have hE:ActO w ((((w.alloc (.cells #[.int .i64 (g.s:Int), .int .i64 (g.l:Int), .int .i64 (g.n:Int)] 31)).alloc (.cells #[.slice ab tb.length cb, .slice an tn.length cn] 51)).alloc (.cells #[.bool true, .bool true, .bool wh, .int .i64 at_] 53)).alloc (.cells #[.slice ab tb.length cb, .slice an tn.length cn] 51)) F B0 p g.s q l m t n S ⟨lyG g,L, [],true⟩ T tb tn (.slice ab tb.length cb) (.slice an tn.length cn) (.returned (.tuple #[.agg #[.slice ab tb.length cb, .slice an tn.length cn], .bool true])):=by
  refine⟨_,_,tb,tn,T,cR,rfl,h.later hB1,Keeps.of_below _ hB1,hib.later hB1,hin.later hB1,hsep, .inl hq⟩
 have HEE:=Hid.mk hE
 clear h hq hib hin hsep hB1 g1 g2 g3 g4 hz1 hE hne
 go_enter Tryz.func16,Tryz.ntmps16
 go_wp2
 refine bodyPost_ret (v:= .tuple #[.agg #[.slice ab tb.length cb, .slice an tn.length cn], .bool true]) (by simp [results,Tryz.results16,go_sem,d6,d7]) rfl ?_
 exact HEE.out
theorem act_any (h:TX w F p g.s cR q l m t n S ⟨lyG g,L, [],true⟩ T) (hp:PoolAt w F a1 t n) (hd:L.dead S=false) (h1:g.s≤2048) (h2:g.l≤256) (h3:g.n≤1024) (h4:3+g.l+2+g.n / 4+1≤g.s) (hq:QF ⟨lyG g,L, [],true⟩ S T tb tn) (hib:IL w (fun j=>B0≤j) vb tb) (hin:IL w (fun j=>B0≤j) vn tn) (hsep:∀j,vb.ownBlock=some j→vn.ownBlock≠some j) (hlo:TXlt B0 F q l m t n) (hBw:B0≤w.heap.size) (dr nd wh:Bool) (at_:Int) (hat:I64 at_):
  Calls Tryz.prog 16 #[.pointer (some ⟨a1,0,none⟩),supV g, .agg #[vb,vn], .agg #[.bool dr, .bool nd, .bool wh, .int .i64 at_]] w fun e w'=>ActO w w' F B0 p g.s q l m t n S ⟨lyG g,L, [],true⟩ T tb tn vb vn e:=by
 cases dr
 ·cases nd
  ·exact act_give0 h hp hd h1 h2 h3 h4 hq hib hin hsep hlo hBw wh at_
  ·exact act_give1 h hp hd h1 h2 h3 h4 hq hib hin hsep hlo hBw wh at_
 ·cases nd
  ·by_cases hl:tb.length=0
   ·exact act_idle0 h hq hib hin hsep wh at_ hl
   ·exact act_drop0 h hp hd hq hib hin hsep hlo hBw wh at_ hat (by omega)
  ·by_cases hl:tn.length=0
   ·exact act_idle1 h hq hib hin hsep wh at_ hl
   ·exact act_drop1 h hp hd hq hib hin hsep hlo hBw wh at_ hat (by omega)
end
end Go.Proofs.YtcakbbkbgfhfaaaGreat
end
