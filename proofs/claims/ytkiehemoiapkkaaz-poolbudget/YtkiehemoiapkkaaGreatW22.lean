import Derived.Test.YtkiehemoiapkkaaGreatW21
import Derived.Deep.RegionHeld3
section
namespace Go.Proofs.YtkiehemoiapkkaaGreat
open Go.RowKit
theorem cell13 {w:World} {k:Nat} {M:MP} {v1 v2 v3 v4 v5 v6 v7:Value} (h:w.heap[k]? =some (.cells (mpC M v1 v2 v3 v4 v5 v6 v7) 72 (0,0))):
  w.cell? ⟨k,3,none⟩=some v1∧w.cell? ⟨k,4,none⟩=some v2∧w.cell? ⟨k,5,none⟩=some v3∧w.cell? ⟨k,6,none⟩=some v4∧w.cell? ⟨k,7,none⟩=some v5∧w.cell? ⟨k,8,none⟩=some v6∧w.cell? ⟨k,9,none⟩=some v7:=
   ⟨cell_of_block h (j:=3) rfl,cell_of_block h (j:=4) rfl,cell_of_block h (j:=5) rfl,cell_of_block h (j:=6) rfl,cell_of_block h (j:=7) rfl,cell_of_block h (j:=8) rfl,cell_of_block h (j:=9) rfl⟩
section
variable {w w':World} {X:Nat→Prop} {k g1 c1 g2 c2 g3 c3 g4 c4:Nat} {v5 v6 v7:Value} {M:MP}
theorem RWs.at {rs:List (List Int)} (h:RWs w X v5 rs) {j:Nat} (hj:j<rs.length):∃gv cv g c,v5= .slice (some ⟨gv,0,none⟩) rs.length cv∧w.cell? ⟨gv,j,none⟩=some (.slice (some ⟨g,0,none⟩) 512 c)∧X g∧RowAt w 5 g c (bs rs[j])∧(∃cur,w.heap[gv]? =some (.cells cur 44 (0,0))∧X gv):=by
 obtain⟨xs,h1,h2,h3⟩:=h
 obtain⟨g,c,e1,e2,e3⟩:=h3 j hj
 obtain⟨gv,cv,rfl,hg,hr,_⟩:=RowAt.of_owns h1 (by
  intro e
  obtain⟨_,⟨_,hn⟩|⟨g,c,cur,e',_⟩⟩:=h1
  ·omega
  ·rw [e] at e';cases e')
 obtain⟨cur,hb,_⟩:=hr
 exact⟨gv,cv,g,c,rfl,RowAt.cell ⟨cur,hb,by assumption⟩ e1,e2,e3,cur,hb,h2 gv rfl⟩
theorem take_snocL (l:List (List Int)) (j:Nat) (h:j<l.length):l.take j ++ [l[j]]=l.take (j+1):=(List.take_succ_eq_append_getElem h).symm
def MP.begun (M:MP):MP:={M with nb:=M.ob,nn:=M.on,raw:=M.oraw,put:= [],bad:=0,opn:=true}
def BegO (w w':World) (X:Nat→Prop) (k g1 c1 g2 c2:Nat) (v5:Value) (M:MP):Prop:=∃g3 c3 g4 c4 v6,MAt w' (more X w w') k g1 c1 g2 c2 g3 c3 g4 c4 v5 v6 (.slice none 0 0) M.begun∧Keeps (fun j=>j=k) w w'
set_option maxRecDepth 20000 in
set_option maxHeartbeats 8000000 in
theorem begin6_any (h:MAt w X k g1 c1 g2 c2 g3 c3 g4 c4 v5 v6 v7 M) (hX:∀j,X j→j<w.heap.size) (hn:M.oraw.length≤2048):
  Calls Tryz.prog 59 #[.pointer (some ⟨k,0,none⟩)] w fun e w'=>e= .returned (.tuple #[])∧BegO w w' X k g1 c1 g2 c2 v5 M:=by
 have k1:=twin6_any h.ob.2.1 h.on.2.1 h.ob.2.2 h.on.2.2
 obtain⟨e3,e4,e5,e6,e7,e8,e9⟩:=cell13 h.b
 have H:=Hid.mk h
 have hkw:=lt_there h.b
 clear h
 go_enter Tryz.func59,Tryz.ntmps59
 go_wp2_with fail
 refine k1.mono ?_
 rintro e w1 ⟨u1,u2,d1,d2,rfl,hu1,hu2,hu12,hr1,hr2,hb1⟩
 have hbk:=(hb1.block _ hkw).trans H.out.b
 obtain⟨i3,i4,i5,i6,i7,i8,i9⟩:=cell13 hbk
 have f5:=frozen_of_block hbk 5
 have f6:=frozen_of_block hbk 6
 have f8:=frozen_of_block hbk 8
 have hz1:=hb1.size
 have m1:=(heap_setCell_same w1 k 5 _ _ (slB u1 d1) hbk).trans (by rfl:_=some (.cells (mpC M (slB g1 c1) (slB g2 c2) (slB u1 d1) (slB g4 c4) v5 v6 v7) 72 (0,0)))
 have m2:=(heap_setCell_same _ k 6 _ _ (slB u2 d2) m1).trans (by rfl:_=some (.cells (mpC M (slB g1 c1) (slB g2 c2) (slB u1 d1) (slB u2 d2) v5 v6 v7) 72 (0,0)))
 have m3:=(heap_setCell_same _ k 8 _ _ (.slice none 0 0) m2).trans (by rfl:_=some (.cells (mpC M (slB g1 c1) (slB g2 c2) (slB u1 d1) (slB u2 d2) v5 (.slice none 0 0) v7) 72 (0,0)))
 have hkk:Keeps (fun j=>j=k) w1 (((w1.setCell ⟨k,5,none⟩ (slB u1 d1)).setCell ⟨k,6,none⟩ (slB u2 d2)).setCell ⟨k,8,none⟩ (.slice none 0 0)):=((Keeps.setCell (F:=fun j=>j=k) w1 (p:=⟨k,5,none⟩) rfl _).trans (Keeps.setCell (F:=fun j=>j=k) _ (p:=⟨k,6,none⟩) rfl _) (fun _ h=> .inl h)).trans (Keeps.setCell (F:=fun j=>j=k) _ (p:=⟨k,8,none⟩) rfl _) (fun _ h=> .inl h)
 have hP1:∀q,q=k→∃cur t fz,w1.heap[q]? =some (.cells cur t fz)∧t≠4:=fun q hq=>by subst hq;exact⟨_,_,_,hbk,by decide⟩
 have HA:Hid ((((w1.setCell ⟨k,5,none⟩ (slB u1 d1)).setCell ⟨k,6,none⟩ (slB u2 d2)).setCell ⟨k,8,none⟩ (.slice none 0 0)).heap[k]? =some (.cells (mpC M (slB g1 c1) (slB g2 c2) (slB u1 d1) (slB u2 d2) v5 (.slice none 0 0) v7) 72 (0,0))∧Keeps (fun j=>j=k) w (((w1.setCell ⟨k,5,none⟩ (slB u1 d1)).setCell ⟨k,6,none⟩ (slB u2 d2)).setCell ⟨k,8,none⟩ (.slice none 0 0))∧RowAt (((w1.setCell ⟨k,5,none⟩ (slB u1 d1)).setCell ⟨k,6,none⟩ (slB u2 d2)).setCell ⟨k,8,none⟩ (.slice none 0 0)) 4 u1 d1 (bls M.ob)∧RowAt (((w1.setCell ⟨k,5,none⟩ (slB u1 d1)).setCell ⟨k,6,none⟩ (slB u2 d2)).setCell ⟨k,8,none⟩ (.slice none 0 0)) 4 u2 d2 (bls M.on)):=
    ⟨m3,(Keeps.of_below _ hb1).trans hkk (fun _ h=> .inl h),hr1.unlike hkk hP1,hr2.unlike hkk hP1⟩
 clear k1 e3 e4 e5 e6 e7 e8 e9 hb1 hr1 hr2 hkk m1 m2 m3 hbk hP1
 go_wp2
 obtain⟨w2,hw2⟩:∃w2,w2=((w1.setCell ⟨k,5,none⟩ (slB u1 d1)).setCell ⟨k,6,none⟩ (slB u2 d2)).setCell ⟨k,8,none⟩ (.slice none 0 0):=⟨_,rfl⟩
 rw [←hw2] at HA
 dsimp only [slB] at hw2
 rw [←hw2]
 clear hw2 i3 i4 i5 i6 i7 i8 i9 f5 f6 f8
 obtain⟨a5,c5,hv5⟩:=H.out.oraw.form
 have HV5:=Hid.mk hv5
 clear hv5
 go_loopw [2] (fun iv wr=>∃(j:Nat) (v6:Value),j≤M.oraw.length∧iv= .int .i64 (j:Int)∧wr.heap[k]? =some (.cells (mpC M (slB g1 c1) (slB g2 c2) (slB u1 d1) (slB u2 d2) v5 v6 v7) 72 (0,0))∧RWs wr (fun j=>X j∨w.heap.size≤j) v6 (M.oraw.take j)∧(∀g,v6.ownBlock=some g→w.heap.size≤g)∧Keeps (fun j=>j=k) w wr∧RowAt wr 4 u1 d1 (bls M.ob)∧RowAt wr 4 u2 d2 (bls M.on)) (fun iv _=>M.oraw.length-(intOf iv).toNat)
 case atStart=>exact⟨0,_,Nat.zero_le _,rfl,HA.out.1,RWs.nil _ _,(fun g h=>by simp [Value.ownBlock] at h),HA.out.2⟩
 case round=>
  clear HA
  obtain⟨j,v6',hj,rfl,hbk,hrw,how,hkp,t1,t2⟩:=hrel
  obtain⟨i3,i4,i5,i6,i7,i8,i9⟩:=cell13 hbk
  have hkT:∀(e:TypeId),72≠e→∀q,q=k→∃cur t fz,w.heap[q]? =some (.cells cur t fz)∧t≠e:=fun e he q hq=>by subst hq;exact⟨_,_,_,H.out.b,he⟩
  have hv5r:RWs wr X v5 M.oraw:=H.out.oraw.keep hkp (fun q hq=>by subst hq;exact⟨_,_,_,H.out.b,by decide,by decide⟩)
  obtain⟨a6,c6,rfl⟩:=hrw.form
  have hl6:(M.oraw.take j).length=j:=by rw [List.length_take];omega
  rw [hl6] at hbk hrw how i8
  have hvv:=HV5.out
  by_cases hlt:j<M.oraw.length
  ·obtain⟨gv,cv,ge,ce,hve,hce,hxe,hre,cur5,hcur5,hxv⟩:=hv5r.at hlt
   subst hve
   obtain⟨N,hN⟩:∃N,N=M.oraw.length:=⟨_,rfl⟩
   rw [←hN] at i7 hbk hlt
   have hlt':(j:Int)<(N:Int):=by omega
   have hj0:(0:Int)≤(j:Int):=by omega
   have HNN:=Hid.mk hN
   have hdw:Below wr.heap.size wr wr.drew:=below_drew (Below.refl _ _)
   obtain⟨gn,cn,w7,hrun,hrw7,hk7,hat7⟩:=(hrw.later hdw).app (l:=M.oraw[j]'(by rw [←hN];exact hlt)) (.inl hxe) (hre.agree (hdw.block _ hre.lt)) (by rw [hl6];omega)
   rw [hl6] at hrun hrw7
   rw [take_snocL _ _ (by rw [←hN];exact hlt)] at hrw7
   obtain⟨xs0,ho0,_,_⟩:=hrw.later hdw
   rw [hl6] at ho0
   have hZ:∀q,(Value.slice a6 j c6).ownBlock=some q→∃cur,wr.drew.heap[q]? =some (.cells cur 44 (0,0)):=fun q hq=>owns_block ho0 hq
   have hbkd:wr.drew.heap[k]? =_:=hbk
   have hbk7:w7.heap[k]? =_:=(hk7.block _ (lt_there hbkd) (fun hq=>by
    obtain⟨cur,h1⟩:=hZ _ hq
    exact type_ne hbkd h1 (by decide))).trans hbkd
   have hk8:=Keeps.setCell (F:=fun q=>q=k) w7 (p:=⟨k,8,none⟩) rfl (.slice (some ⟨gn,0,none⟩) (j+1) cn)
   have hbk8:=(heap_setCell_same w7 k 8 _ _ (.slice (some ⟨gn,0,none⟩) (j+1) cn) hbk7).trans (by rfl:_=some (.cells (mpC M (slB g1 c1) (slB g2 c2) (slB u1 d1) (slB u2 d2) (.slice (some ⟨gv,0,none⟩) N cv) (.slice (some ⟨gn,0,none⟩) (j+1) cn) v7) 72 (0,0)))
   have mv:∀{g c:Nat} {xs:List Value},RowAt wr 4 g c xs→RowAt (w7.setCell ⟨k,8,none⟩ (.slice (some ⟨gn,0,none⟩) (j+1) cn)) 4 g c xs:=fun hr=>((hr.agree (hdw.block _ hr.lt)).unlike hk7 (fun q hq=>by obtain⟨cur,h1⟩:=hZ q hq;exact⟨cur,_,_,h1,by decide⟩)).unlike hk8 (fun q hq=>by subst hq;exact⟨_,_,_,hbk7,by decide⟩)
   have hgvk:gv≠k:=fun e=>by subst e;exact type_ne hcur5 hbk (by decide)
   have hzz:=hkp.size
   have HE:Hid ((w7.setCell ⟨k,8,none⟩ (.slice (some ⟨gn,0,none⟩) (j+1) cn)).heap[k]? =some (.cells (mpC M (slB g1 c1) (slB g2 c2) (slB u1 d1) (slB u2 d2) (.slice (some ⟨gv,0,none⟩) M.oraw.length cv) (.slice (some ⟨gn,0,none⟩) (j+1) cn) v7) 72 (0,0))∧RWs (w7.setCell ⟨k,8,none⟩ (.slice (some ⟨gn,0,none⟩) (j+1) cn)) (fun j=>X j∨w.heap.size≤j) (.slice (some ⟨gn,0,none⟩) (j+1) cn) (M.oraw.take (j+1))∧(∀g,(Value.slice (some ⟨gn,0,none⟩) (j+1) cn).ownBlock=some g→w.heap.size≤g)∧Keeps (fun j=>j=k) w (w7.setCell ⟨k,8,none⟩ (.slice (some ⟨gn,0,none⟩) (j+1) cn))∧RowAt (w7.setCell ⟨k,8,none⟩ (.slice (some ⟨gn,0,none⟩) (j+1) cn)) 4 u1 d1 (bls M.ob)∧RowAt (w7.setCell ⟨k,8,none⟩ (.slice (some ⟨gn,0,none⟩) (j+1) cn)) 4 u2 d2 (bls M.on)):=
      ⟨by rw [←hN];exact hbk8,(hrw7.keep hk8 (fun q hq=>by subst hq;exact⟨_,_,_,hbk7,by decide,by decide⟩)).mono (fun q hq=>by
     rcases hq with (hq|hq)|hq
     ·exact .inl hq
     ·exact .inr hq
     ·exact .inr (Nat.le_trans hzz hq)),fun g hg=>by
      have eg:gn=g:=by simpa [Value.ownBlock] using hg
      subst eg
      rcases hat7 with h9|h9
      ·exact how _ h9
      ·exact Nat.le_trans hzz h9,((hkp.trans (Keeps.of_below (fun _=>False) hdw) (fun _ h=>h.elim)).trans hk7 (fun q hq=> .inr (how q hq))).trans hk8 (fun _ h=> .inl h),mv t1,mv t2⟩
   have d8:(wr.alloc (.cells #[.slice (some ⟨ge,0,none⟩) 512 ce] 44)).cell? ⟨k,8,none⟩=some (.slice a6 j c6):=cell_of_block ((Below.heap_alloc _ _ _ (lt_there hbk)).trans hbk) (j:=8) rfl
   have q8:wr.drew.cell? ⟨k,8,none⟩=some (.slice a6 j c6):=i8
   have y7:w7.cell? ⟨k,7,none⟩=some (.slice (some ⟨gv,0,none⟩) N cv):=cell_of_block hbk7 (j:=7) rfl
   have y8:w7.cell? ⟨k,8,none⟩=some (.slice a6 j c6):=cell_of_block hbk7 (j:=8) rfl
   have f8:=frozen_of_block hbk7 8
   have q7:wr.drew.cell? ⟨k,7,none⟩=some (.slice (some ⟨gv,0,none⟩) N cv):=i7
   have qe:wr.drew.cell? ⟨gv,j,none⟩=some (.slice (some ⟨ge,0,none⟩) 512 ce):=hce
   have b7:(wr.drew.alloc (.cells #[.slice (some ⟨ge,0,none⟩) 512 ce] 44)).cell? ⟨k,7,none⟩=some (.slice (some ⟨gv,0,none⟩) N cv):=cell_later (below_box _ _) q7
   have be:(wr.drew.alloc (.cells #[.slice (some ⟨ge,0,none⟩) 512 ce] 44)).cell? ⟨gv,j,none⟩=some (.slice (some ⟨ge,0,none⟩) 512 ce):=cell_later (below_box _ _) qe
   have hZn:(Value.slice a6 j c6).ownBlock≠some gv:=fun e=>by have h8:=how _ e;have h9:=hX _ hxv;omega
   have ye:w7.cell? ⟨gv,j,none⟩=some (.slice (some ⟨ge,0,none⟩) 512 ce):=by rw [World.cell?_of_block (hk7.block _ (World.block_lt_of_cell? _ _ qe) (fun e=>hZn e))];exact qe
   have HRun:Hid ((Builtin.append_ #[70,70] 70 #[.slice a6 j c6, .slice (some ⟨wr.heap.size,0,none⟩) 1 1]).run Tryz.prog (wr.alloc (.cells #[.slice (some ⟨ge,0,none⟩) 512 ce] 44)).drew= .ok (.slice (some ⟨gn,0,none⟩) (j+1) cn) w7):=hrun
   have HZ:Hid ((w7.setCell ⟨k,8,none⟩ (.slice (some ⟨gn,0,none⟩) (j+1) cn)).cell? ⟨k,7,none⟩=some (.slice (some ⟨gv,0,none⟩) N cv)∧(w7.setCell ⟨k,8,none⟩ (.slice (some ⟨gn,0,none⟩) (j+1) cn)).cell? ⟨gv,j,none⟩=some (.slice (some ⟨ge,0,none⟩) 512 ce)):=⟨cell_of_block hbk8 (j:=7) rfl,by rw [World.cell?_of_block (hk8.block _ (World.block_lt_of_cell? _ _ ye) hgvk)];exact ye⟩
   clear i3 i4 i5 i6 i8 i9 hkT hv5r hbk hrw how hkp t1 t2 hre hxe hcur5 hdw hrw7 hk7 hat7 ho0 hZ hbkd hbk7 hk8 hbk8 mv hN hvv hZn hce hrun
   go_wp2_with fail
   refine wp_region_held_drew (S:=(fun w'=>w'.cell? ⟨k,7,none⟩=some (.slice (some ⟨gv,0,none⟩) N cv)∧w'.cell? ⟨gv,j,none⟩=some (.slice (some ⟨ge,0,none⟩) 512 ce))) (by kernel_rfl) (⟨q7,qe⟩) (fun hHeld=>?_)
   refine wpAnyH_take (i:=0) (oi:={dst:=some 23,op:=Op.move (Operand.tmp 0),type:=36,pos:= "ref.go:70",after:= #[],guard:=none}) (v:= .pointer (some ⟨k,0,none⟩)) rfl (by kernel_rfl) (by kernel_rfl) (by kernel_rfl) (fun _ _ _ h=>h) (Or.inl ⟨by rfl,?_⟩) (by assumption) ?_
   ·intro w hSw
    (try dsimp only at hSw)
    go_simp
   try simp only [Act.put,List.setIfInBounds_toArray,List.set_cons_zero,List.set_cons_succ]
   refine wpAnyH_take (i:=1) (oi:={dst:=some 24,op:=Op.move (Operand.tmp 0),type:=36,pos:= "ref.go:70",after:= #[],guard:=none}) (v:= .pointer (some ⟨k,0,none⟩)) rfl (by kernel_rfl) (by kernel_rfl) (by kernel_rfl) (fun _ _ _ h=>h) (Or.inl ⟨by rfl,?_⟩) (by assumption) ?_
   ·intro w hSw
    (try dsimp only at hSw)
    go_simp
   try simp only [Act.put,List.setIfInBounds_toArray,List.set_cons_zero,List.set_cons_succ]
   refine wpAnyH_take (i:=2) (oi:={dst:=some 25,op:=Op.nilCheck (Operand.tmp 24),type:=0,pos:= "ref.go:70",after:= #[{on:=1,ground:=Ground.data}],guard:=none}) (v:= .pointer (some ⟨k,0,none⟩)) rfl (by kernel_rfl) (by kernel_rfl) (by kernel_rfl) (fun _ _ _ h=>h) (Or.inl ⟨by rfl,?_⟩) (by assumption) ?_
   ·intro w hSw
    (try dsimp only at hSw)
    go_simp
   try simp only [Act.put,List.setIfInBounds_toArray,List.set_cons_zero,List.set_cons_succ]
   refine wpAnyH_take (i:=3) (oi:={dst:=some 26,op:=Op.fieldAddr 72 (Operand.tmp 25) 6,type:=0,pos:= "ref.go:70",after:= #[{on:=2,ground:=Ground.data}],guard:=none}) (v:= .pointer (some ⟨k,8,none⟩)) rfl (by kernel_rfl) (by kernel_rfl) (by kernel_rfl) (fun _ _ _ h=>h) (Or.inl ⟨by rfl,?_⟩) (by assumption) ?_
   ·intro w hSw
    (try dsimp only at hSw)
    go_simp
   try simp only [Act.put,List.setIfInBounds_toArray,List.set_cons_zero,List.set_cons_succ]
   refine wpAnyH_take (i:=5) (oi:={dst:=some 28,op:=Op.move (Operand.tmp 0),type:=36,pos:= "ref.go:70",after:= #[],guard:=none}) (v:= .pointer (some ⟨k,0,none⟩)) rfl (by kernel_rfl) (by kernel_rfl) (by kernel_rfl) (fun _ _ _ h=>h) (Or.inl ⟨by rfl,?_⟩) (by assumption) ?_
   ·intro w hSw
    (try dsimp only at hSw)
    go_simp
   try simp only [Act.put,List.setIfInBounds_toArray,List.set_cons_zero,List.set_cons_succ]
   refine wpAnyH_take (i:=6) (oi:={dst:=some 29,op:=Op.nilCheck (Operand.tmp 28),type:=0,pos:= "ref.go:70",after:= #[{on:=5,ground:=Ground.data}],guard:=none}) (v:= .pointer (some ⟨k,0,none⟩)) rfl (by kernel_rfl) (by kernel_rfl) (by kernel_rfl) (fun _ _ _ h=>h) (Or.inl ⟨by rfl,?_⟩) (by assumption) ?_
   ·intro w hSw
    (try dsimp only at hSw)
    go_simp
   try simp only [Act.put,List.setIfInBounds_toArray,List.set_cons_zero,List.set_cons_succ]
   refine wpAnyH_take (i:=7) (oi:={dst:=some 30,op:=Op.fieldAddr 72 (Operand.tmp 29) 5,type:=0,pos:= "ref.go:70",after:= #[{on:=6,ground:=Ground.data}],guard:=none}) (v:= .pointer (some ⟨k,7,none⟩)) rfl (by kernel_rfl) (by kernel_rfl) (by kernel_rfl) (fun _ _ _ h=>h) (Or.inl ⟨by rfl,?_⟩) (by assumption) ?_
   ·intro w hSw
    (try dsimp only at hSw)
    go_simp
   try simp only [Act.put,List.setIfInBounds_toArray,List.set_cons_zero,List.set_cons_succ]
   refine wpAnyH_take (i:=8) (oi:={dst:=some 31,op:=Op.load 70 (Operand.tmp 30),type:=70,pos:= "ref.go:70",after:= #[{on:=7,ground:=Ground.data}],guard:=none}) (v:= .slice (some ⟨gv,0,none⟩) N cv) rfl (by kernel_rfl) (by kernel_rfl) (by kernel_rfl) (fun _ _ _ h=>h) (Or.inl ⟨by rfl,?_⟩) (by assumption) ?_
   ·intro w hSw
    (try dsimp only at hSw)
    go_simp
   try simp only [Act.put,List.setIfInBounds_toArray,List.set_cons_zero,List.set_cons_succ]
   refine wpAnyH_take (i:=9) (oi:={dst:=some 32,op:=Op.move (Operand.tmp 2),type:=3,pos:= "ref.go:70",after:= #[],guard:=none}) (v:= .int .i64 (j:Int)) rfl (by kernel_rfl) (by kernel_rfl) (by kernel_rfl) (fun _ _ _ h=>h) (Or.inl ⟨by rfl,?_⟩) (by assumption) ?_
   ·intro w hSw
    (try dsimp only at hSw)
    go_simp
   try simp only [Act.put,List.setIfInBounds_toArray,List.set_cons_zero,List.set_cons_succ]
   refine wpAnyH_take (i:=10) (oi:={dst:=some 33,op:=Op.indexAddr 70 (Operand.tmp 31) (Operand.tmp 32),type:=0,pos:= "ref.go:70",after:= #[{on:=8,ground:=Ground.data},{on:=9,ground:=Ground.data}],guard:=none}) (v:= .pointer (some ⟨gv,j,none⟩)) rfl (by kernel_rfl) (by kernel_rfl) (by kernel_rfl) (fun _ _ _ h=>h) (Or.inl ⟨by rfl,?_⟩) (by assumption) ?_
   ·intro w hSw
    (try dsimp only at hSw)
    go_simp
   try simp only [Act.put,List.setIfInBounds_toArray,List.set_cons_zero,List.set_cons_succ]
   refine wpAnyH_take (i:=11) (oi:={dst:=some 34,op:=Op.load 44 (Operand.tmp 33),type:=44,pos:= "ref.go:70",after:= #[{on:=10,ground:=Ground.data}],guard:=none}) (v:= .slice (some ⟨ge,0,none⟩) 512 ce) rfl (by kernel_rfl) (by kernel_rfl) (by kernel_rfl) (fun _ _ _ h=>h) (Or.inl ⟨by rfl,?_⟩) (by assumption) ?_
   ·intro w hSw
    (try dsimp only at hSw)
    go_simp
   try simp only [Act.put,List.setIfInBounds_toArray,List.set_cons_zero,List.set_cons_succ]
   refine wpAnyH_ready (rs:= [4,12]) (by kernel_rfl) (by simp) ?_
   refine AllReadyH.cons (o:={dst:=some 27,op:=Op.load 70 (Operand.tmp 26),type:=70,pos:= "ref.go:70",after:= #[{on:=3,ground:=Ground.data}],guard:=none}) rfl (fun K hK=>?_) (AllReadyH.cons (o:={dst:=some 35,op:=Op.buildSlice 70 1 #[(0,Operand.tmp 34)],type:=70,pos:= "ref.go:70",after:= #[{on:=11,ground:=Ground.data}],guard:=none}) rfl (fun K hK=>?_) AllReadyH.nil)
   ·go_simp
    refine hK.out _ _ ?_ (fun hHeld=>?_)
    ·exact⟨q7,qe⟩
    clear hK K
    try simp only [Act.put,List.setIfInBounds_toArray,List.set_cons_zero,List.set_cons_succ]
    refine wpAnyH_ready (rs:= [12]) (by kernel_rfl) (by simp) ?_
    refine AllReadyH.cons (o:={dst:=some 35,op:=Op.buildSlice 70 1 #[(0,Operand.tmp 34)],type:=70,pos:= "ref.go:70",after:= #[{on:=11,ground:=Ground.data}],guard:=none}) rfl (fun K hK=>?_) AllReadyH.nil
    go_simp
    refine hK.out _ _ ?_ (fun hHeld=>?_)
    ·exact⟨b7,be⟩
    clear hK K
    try simp only [Act.put,List.setIfInBounds_toArray,List.set_cons_zero,List.set_cons_succ]
    refine wpAnyH_ready (rs:= [13]) (by kernel_rfl) (by simp) ?_
    refine AllReadyH.cons (o:={dst:=some 36,op:=Op.call {callee:=Callee.builtin Builtin.append,args:= #[Operand.tmp 27,Operand.tmp 35],argTypes:= #[70,70]},type:=70,pos:= "ref.go:70",after:= #[{on:=4,ground:=Ground.data},{on:=12,ground:=Ground.data}],guard:=none}) rfl (fun K hK=>?_) AllReadyH.nil
    rw [if_pos (by rfl)]
    refine wp_append_run _ _ 70 rfl (.slice a6 j c6) (.slice (some ⟨wr.heap.size,0,none⟩) 1 1) _ rfl rfl HRun.out ?_
    refine hK.out _ _ ?_ (fun hHeld=>?_)
    ·exact⟨y7,ye⟩
    clear hK K
    try simp only [Act.put,List.setIfInBounds_toArray,List.set_cons_zero,List.set_cons_succ]
    have z7:(w7.setCell ⟨k,8,none⟩ (.slice (some ⟨gn,0,none⟩) (j+1) cn)).cell? ⟨k,7,none⟩=some (.slice (some ⟨gv,0,none⟩) N cv):=HZ.out.1
    have ze:(w7.setCell ⟨k,8,none⟩ (.slice (some ⟨gn,0,none⟩) (j+1) cn)).cell? ⟨gv,j,none⟩=some (.slice (some ⟨ge,0,none⟩) 512 ce):=HZ.out.2
    refine wpAnyH_take (i:=14) (oi:={dst:=some 37,op:=Op.nilCheck (Operand.tmp 23),type:=0,pos:= "ref.go:70",after:= #[{on:=0,ground:=Ground.data},{on:=0,ground:=Ground.phase},{on:=1,ground:=Ground.phase},{on:=2,ground:=Ground.phase},{on:=3,ground:=Ground.phase},{on:=4,ground:=Ground.phase},{on:=5,ground:=Ground.phase},{on:=6,ground:=Ground.phase},{on:=7,ground:=Ground.phase},{on:=8,ground:=Ground.phase},{on:=9,ground:=Ground.phase},{on:=10,ground:=Ground.phase},{on:=11,ground:=Ground.phase},{on:=12,ground:=Ground.phase},{on:=13,ground:=Ground.phase}],guard:=none}) (v:= .pointer (some ⟨k,0,none⟩)) rfl (by kernel_rfl) (by kernel_rfl) (by kernel_rfl) (fun _ _ _ h=>h) (Or.inl ⟨by rfl,?_⟩) (by assumption) ?_
    ·intro w hSw
     (try dsimp only at hSw)
     go_simp
    try simp only [Act.put,List.setIfInBounds_toArray,List.set_cons_zero,List.set_cons_succ]
    refine wpAnyH_take (i:=15) (oi:={dst:=some 38,op:=Op.fieldAddr 72 (Operand.tmp 37) 6,type:=0,pos:= "ref.go:70",after:= #[{on:=14,ground:=Ground.data},{on:=0,ground:=Ground.phase},{on:=1,ground:=Ground.phase},{on:=2,ground:=Ground.phase},{on:=3,ground:=Ground.phase},{on:=4,ground:=Ground.phase},{on:=5,ground:=Ground.phase},{on:=6,ground:=Ground.phase},{on:=7,ground:=Ground.phase},{on:=8,ground:=Ground.phase},{on:=9,ground:=Ground.phase},{on:=10,ground:=Ground.phase},{on:=11,ground:=Ground.phase},{on:=12,ground:=Ground.phase},{on:=13,ground:=Ground.phase}],guard:=none}) (v:= .pointer (some ⟨k,8,none⟩)) rfl (by kernel_rfl) (by kernel_rfl) (by kernel_rfl) (fun _ _ _ h=>h) (Or.inl ⟨by rfl,?_⟩) (by assumption) ?_
    ·intro w hSw
     (try dsimp only at hSw)
     go_simp
    try simp only [Act.put,List.setIfInBounds_toArray,List.set_cons_zero,List.set_cons_succ]
    refine wpAnyH_ready (rs:= [16]) (by kernel_rfl) (by simp) ?_
    refine AllReadyH.cons (o:={dst:=none,op:=Op.store 70 (Operand.tmp 38) (Operand.tmp 36),type:=0,pos:= "ref.go:70",after:= #[{on:=15,ground:=Ground.data},{on:=13,ground:=Ground.data},{on:=13,ground:=Ground.chain},{on:=0,ground:=Ground.phase},{on:=1,ground:=Ground.phase},{on:=2,ground:=Ground.phase},{on:=3,ground:=Ground.phase},{on:=4,ground:=Ground.phase},{on:=5,ground:=Ground.phase},{on:=6,ground:=Ground.phase},{on:=7,ground:=Ground.phase},{on:=8,ground:=Ground.phase},{on:=9,ground:=Ground.phase},{on:=10,ground:=Ground.phase},{on:=11,ground:=Ground.phase},{on:=12,ground:=Ground.phase},{on:=13,ground:=Ground.phase}],guard:=none}) rfl (fun K hK=>?_) AllReadyH.nil
    go_simp
    refine hK.out _ _ ?_ (fun hHeld=>?_)
    ·exact⟨z7,ze⟩
    clear hK K
    try simp only [Act.put,List.setIfInBounds_toArray,List.set_cons_zero,List.set_cons_succ]
    refine wpAnyH_done (by kernel_rfl) ?_ _
    clear hHeld z7 ze y7 ye y8 f8 d8 q8 q7 qe b7 be
    go_wp2
    go_roundw
    case rel=>exact⟨j+1,_,by omega,by go_num,HE.out⟩
    case measure=>simp [intOf];omega
   ·go_simp
    refine hK.out _ _ ?_ (fun hHeld=>?_)
    ·exact⟨b7,be⟩
    clear hK K
    try simp only [Act.put,List.setIfInBounds_toArray,List.set_cons_zero,List.set_cons_succ]
    refine wpAnyH_ready (rs:= [4]) (by kernel_rfl) (by simp) ?_
    refine AllReadyH.cons (o:={dst:=some 27,op:=Op.load 70 (Operand.tmp 26),type:=70,pos:= "ref.go:70",after:= #[{on:=3,ground:=Ground.data}],guard:=none}) rfl (fun K hK=>?_) AllReadyH.nil
    go_simp
    refine hK.out _ _ ?_ (fun hHeld=>?_)
    ·exact⟨b7,be⟩
    clear hK K
    try simp only [Act.put,List.setIfInBounds_toArray,List.set_cons_zero,List.set_cons_succ]
    refine wpAnyH_ready (rs:= [13]) (by kernel_rfl) (by simp) ?_
    refine AllReadyH.cons (o:={dst:=some 36,op:=Op.call {callee:=Callee.builtin Builtin.append,args:= #[Operand.tmp 27,Operand.tmp 35],argTypes:= #[70,70]},type:=70,pos:= "ref.go:70",after:= #[{on:=4,ground:=Ground.data},{on:=12,ground:=Ground.data}],guard:=none}) rfl (fun K hK=>?_) AllReadyH.nil
    rw [if_pos (by rfl)]
    refine wp_append_run _ _ 70 rfl (.slice a6 j c6) (.slice (some ⟨wr.heap.size,0,none⟩) 1 1) _ rfl rfl HRun.out ?_
    refine hK.out _ _ ?_ (fun hHeld=>?_)
    ·exact⟨y7,ye⟩
    clear hK K
    try simp only [Act.put,List.setIfInBounds_toArray,List.set_cons_zero,List.set_cons_succ]
    have z7:(w7.setCell ⟨k,8,none⟩ (.slice (some ⟨gn,0,none⟩) (j+1) cn)).cell? ⟨k,7,none⟩=some (.slice (some ⟨gv,0,none⟩) N cv):=HZ.out.1
    have ze:(w7.setCell ⟨k,8,none⟩ (.slice (some ⟨gn,0,none⟩) (j+1) cn)).cell? ⟨gv,j,none⟩=some (.slice (some ⟨ge,0,none⟩) 512 ce):=HZ.out.2
    refine wpAnyH_take (i:=14) (oi:={dst:=some 37,op:=Op.nilCheck (Operand.tmp 23),type:=0,pos:= "ref.go:70",after:= #[{on:=0,ground:=Ground.data},{on:=0,ground:=Ground.phase},{on:=1,ground:=Ground.phase},{on:=2,ground:=Ground.phase},{on:=3,ground:=Ground.phase},{on:=4,ground:=Ground.phase},{on:=5,ground:=Ground.phase},{on:=6,ground:=Ground.phase},{on:=7,ground:=Ground.phase},{on:=8,ground:=Ground.phase},{on:=9,ground:=Ground.phase},{on:=10,ground:=Ground.phase},{on:=11,ground:=Ground.phase},{on:=12,ground:=Ground.phase},{on:=13,ground:=Ground.phase}],guard:=none}) (v:= .pointer (some ⟨k,0,none⟩)) rfl (by kernel_rfl) (by kernel_rfl) (by kernel_rfl) (fun _ _ _ h=>h) (Or.inl ⟨by rfl,?_⟩) (by assumption) ?_
    ·intro w hSw
     (try dsimp only at hSw)
     go_simp
    try simp only [Act.put,List.setIfInBounds_toArray,List.set_cons_zero,List.set_cons_succ]
    refine wpAnyH_take (i:=15) (oi:={dst:=some 38,op:=Op.fieldAddr 72 (Operand.tmp 37) 6,type:=0,pos:= "ref.go:70",after:= #[{on:=14,ground:=Ground.data},{on:=0,ground:=Ground.phase},{on:=1,ground:=Ground.phase},{on:=2,ground:=Ground.phase},{on:=3,ground:=Ground.phase},{on:=4,ground:=Ground.phase},{on:=5,ground:=Ground.phase},{on:=6,ground:=Ground.phase},{on:=7,ground:=Ground.phase},{on:=8,ground:=Ground.phase},{on:=9,ground:=Ground.phase},{on:=10,ground:=Ground.phase},{on:=11,ground:=Ground.phase},{on:=12,ground:=Ground.phase},{on:=13,ground:=Ground.phase}],guard:=none}) (v:= .pointer (some ⟨k,8,none⟩)) rfl (by kernel_rfl) (by kernel_rfl) (by kernel_rfl) (fun _ _ _ h=>h) (Or.inl ⟨by rfl,?_⟩) (by assumption) ?_
    ·intro w hSw
     (try dsimp only at hSw)
     go_simp
    try simp only [Act.put,List.setIfInBounds_toArray,List.set_cons_zero,List.set_cons_succ]
    refine wpAnyH_ready (rs:= [16]) (by kernel_rfl) (by simp) ?_
    refine AllReadyH.cons (o:={dst:=none,op:=Op.store 70 (Operand.tmp 38) (Operand.tmp 36),type:=0,pos:= "ref.go:70",after:= #[{on:=15,ground:=Ground.data},{on:=13,ground:=Ground.data},{on:=13,ground:=Ground.chain},{on:=0,ground:=Ground.phase},{on:=1,ground:=Ground.phase},{on:=2,ground:=Ground.phase},{on:=3,ground:=Ground.phase},{on:=4,ground:=Ground.phase},{on:=5,ground:=Ground.phase},{on:=6,ground:=Ground.phase},{on:=7,ground:=Ground.phase},{on:=8,ground:=Ground.phase},{on:=9,ground:=Ground.phase},{on:=10,ground:=Ground.phase},{on:=11,ground:=Ground.phase},{on:=12,ground:=Ground.phase},{on:=13,ground:=Ground.phase}],guard:=none}) rfl (fun K hK=>?_) AllReadyH.nil
    go_simp
    refine hK.out _ _ ?_ (fun hHeld=>?_)
    ·exact⟨z7,ze⟩
    clear hK K
    try simp only [Act.put,List.setIfInBounds_toArray,List.set_cons_zero,List.set_cons_succ]
    refine wpAnyH_done (by kernel_rfl) ?_ _
    clear hHeld z7 ze y7 ye y8 f8 d8 q8 q7 qe b7 be
    go_wp2
    go_roundw
    case rel=>exact⟨j+1,_,by omega,by go_num,HE.out⟩
    case measure=>simp [intOf];omega
  ·obtain rfl:j=M.oraw.length:=by omega
   rw [List.take_of_length_le (Nat.le_refl _)] at hrw
   subst hvv
   obtain⟨N,hN⟩:∃N,N=M.oraw.length:=⟨_,rfl⟩
   have hsp:=hrw
   have hb9:=hbk
   rw [←hN] at i7 i8 hbk hrw how
   rw [←hN]
   have hlt':¬(N:Int)<(N:Int):=by omega
   have f9:=frozen_of_block hbk 9
   have f10:=frozen_of_block hbk 10
   have f11:=frozen_of_block hbk 11
   have i10:wr.cell? ⟨k,10,none⟩=some (.int .i64 M.bad):=cell_of_block hbk (j:=10) rfl
   have i11:wr.cell? ⟨k,11,none⟩=some (.bool M.opn):=cell_of_block hbk (j:=11) rfl
   have m1:=(heap_setCell_same wr k 9 _ _ (.slice none 0 0) hbk).trans (by rfl:_=some (.cells (mpC M (slB g1 c1) (slB g2 c2) (slB u1 d1) (slB u2 d2) (.slice a5 N c5) (.slice a6 N c6) (.slice none 0 0)) 72 (0,0)))
   have m2:=(heap_setCell_same _ k 10 _ _ (.int .i64 0) m1).trans (by rfl:_=some (.cells (mpC {M with bad:=0} (slB g1 c1) (slB g2 c2) (slB u1 d1) (slB u2 d2) (.slice a5 N c5) (.slice a6 N c6) (.slice none 0 0)) 72 (0,0)))
   have m3:=(heap_setCell_same _ k 11 _ _ (.bool true) m2).trans (by rfl:_=some (.cells (mpC {M with bad:=0,opn:=true} (slB g1 c1) (slB g2 c2) (slB u1 d1) (slB u2 d2) (.slice a5 N c5) (.slice a6 N c6) (.slice none 0 0)) 72 (0,0)))
   have hkk:Keeps (fun j=>j=k) wr (((wr.setCell ⟨k,9,none⟩ (.slice none 0 0)).setCell ⟨k,10,none⟩ (.int .i64 0)).setCell ⟨k,11,none⟩ (.bool true)):=((Keeps.setCell (F:=fun j=>j=k) wr (p:=⟨k,9,none⟩) rfl _).trans (Keeps.setCell (F:=fun j=>j=k) _ (p:=⟨k,10,none⟩) rfl _) (fun _ h=> .inl h)).trans (Keeps.setCell (F:=fun j=>j=k) _ (p:=⟨k,11,none⟩) rfl _) (fun _ h=> .inl h)
   have hwk:=hkp.trans hkk (fun _ h=> .inl h)
   have pB:∀q,q=k→∃cur t fz,wr.heap[q]? =some (.cells cur t fz)∧t≠4:=fun q hq=>by subst hq;exact⟨_,_,_,hbk,by decide⟩
   have pW:∀q,q=k→∃cur t fz,wr.heap[q]? =some (.cells cur t fz)∧t≠5∧t≠44:=fun q hq=>by subst hq;exact⟨_,_,_,hbk,by decide,by decide⟩
   have zz:=hkp.size
   have zk:=hkk.size
   have hXm:∀q,X q→more X w (((wr.setCell ⟨k,9,none⟩ (.slice none 0 0)).setCell ⟨k,10,none⟩ (.int .i64 0)).setCell ⟨k,11,none⟩ (.bool true)) q:=fun q hq=> .inl hq
   have y1:=t1.lt
   have y2:=t2.lt
   have x1:=H.out.ob.1
   have x2:=H.out.on.1
   have w1x:=hX _ x1
   have w2x:=hX _ x2
   have hBB:∀{g c:Nat} {l:List Bool},BX w X g c l→BX (((wr.setCell ⟨k,9,none⟩ (.slice none 0 0)).setCell ⟨k,10,none⟩ (.int .i64 0)).setCell ⟨k,11,none⟩ (.bool true)) (more X w (((wr.setCell ⟨k,9,none⟩ (.slice none 0 0)).setCell ⟨k,10,none⟩ (.int .i64 0)).setCell ⟨k,11,none⟩ (.bool true))) g c l:=fun h=>⟨.inl h.1,h.2.1.unlike hwk (hkT _ (by decide)),h.2.2⟩
   have HE:Hid (BegO w (((wr.setCell ⟨k,9,none⟩ (.slice none 0 0)).setCell ⟨k,10,none⟩ (.int .i64 0)).setCell ⟨k,11,none⟩ (.bool true)) X k g1 c1 g2 c2 (.slice a5 N c5) M):=by
    refine⟨u1,d1,u2,d2, .slice a6 N c6,⟨m3, .inl H.out.xk,hBB H.out.ob,hBB H.out.on,⟨.inr ⟨hu1,by omega⟩,t1.unlike hkk pB,H.out.ob.2.2⟩,⟨.inr ⟨hu2,by omega⟩,t2.unlike hkk pB,H.out.on.2.2⟩,H.out.n12,by omega,by omega,by omega,by omega,hu12,?_,?_,NX.nil _ _,fun _ g hg hg'=>?_⟩,hwk⟩
    ·have:=(H.out.oraw.keep hwk (fun q hq=>by subst hq;exact⟨_,_,_,H.out.b,by decide,by decide⟩)).mono hXm
     rw [←hN] at this
     exact this
    ·refine((hrw.keep hkk pW).bound).mono (fun q hq=>?_)
     rcases hq with ⟨hq|hq,h9⟩
     ·exact .inl hq
     ·exact .inr ⟨hq,h9⟩
    ·have h1:=how _ hg'
     have h2:X g:=by
      obtain⟨xs,_,h2,_⟩:=H.out.oraw
      rw [←hN] at h2
      exact h2 g hg
     have:=hX _ h2
     omega
   have HN2:=Hid.mk hN
   clear hbk hrw how hkp t1 t2 hv5r hkT m1 m2 m3 hkk hwk pB pW hXm hBB hsp hb9 hN
   go_wp2
   go_end0
   refine⟨rfl,?_⟩
   rw [←HN2.out]
   exact HE.out
end
end Go.Proofs.YtkiehemoiapkkaaGreat
end
section
namespace Go.Proofs.YtkiehemoiapkkaaGreat
open Go.RowKit Go.Maps
theorem start_good {L:LG} {S:DS} {s:Nat} (h:L.Ok s) (h0:(L.start S s).1=0):(L.start S s).2.2.Ok s∧(L.start S s).2.2.begun=true:=by
 unfold LG.start at*
 split
 ·rename_i k;rw [if_pos k] at h0;cases h0
 ·rename_i k
  rw [if_neg k] at h0
  split
  ·rename_i k2;rw [if_pos k2] at h0;cases h0
  ·rename_i k2
   rw [if_neg k2] at h0
   split
   ·rename_i k3;rw [if_pos k3] at h0;exact absurd h0 k3
   ·have ht:=h.top
    exact⟨⟨h.s,h.n1,h.n2,by show L.top+1≤_;omega,h.top,Nat.le_refl _,by show 0≤_;omega,by show 0≤_;omega,fun _=>by show 0≤_;omega⟩,rfl⟩
theorem rdCons_bytes:∀{ks:List Nat} {l r:List Int} {cs:CM},rdCons ks l=some (cs,r)→Bytes l→∀x∈cs,Bytes x.2
 | [],l,r,cs,h,_=>by
  simp only [rdCons,Option.some.injEq,Prod.mk.injEq] at h
  obtain⟨rfl,_⟩:=h
  simp
 |k :: ks,l,r,cs,h,hb=>by
  rw [rdCons_cons] at h
  split at h
  ·cases h
  ·cases hr:rdCons ks (l.drop 512) with
   |none=>rw [hr] at h;cases h
   |some x=>
    rw [hr] at h
    simp only [Option.map_some,Option.some.injEq,Prod.mk.injEq] at h
    obtain⟨rfl,rfl⟩:=h
    intro z hz
    rcases List.mem_cons.1 hz with rfl|hz
    ·exact hb.take 512
    ·exact rdCons_bytes (cs:=x.1) (r:=x.2) hr (hb.drop 512) z hz
theorem rdNums_bytes {blocks:Nat}:∀{n lo:Nat} {l r:List Int} {ks:List Nat},rdNums blocks n lo l=some (ks,r)→Bytes l→Bytes r
 |0,lo,l,r,ks,h,hb=>by
  simp only [rdNums,Option.some.injEq,Prod.mk.injEq] at h
  obtain⟨_,rfl⟩:=h
  exact hb
 |n+1,lo,l,r,ks,h,hb=>by
  rw [rdNums_succ] at h
  split at h
  ·cases h
  ·split at h
   ·cases hr:rdNums blocks n (le (l.take 4)+1) (l.drop 4) with
    |none=>rw [hr] at h;cases h
    |some x=>
     rw [hr] at h
     simp only [Option.map_some,Option.some.injEq,Prod.mk.injEq] at h
     obtain⟨_,rfl⟩:=h
     exact rdNums_bytes (ks:=x.1) (r:=x.2) hr (hb.drop 4)
   ·cases h
theorem rdRec_bytes {blocks:Nat} {d:List Int} {cs:CM} (h:rdRec blocks d=some cs) (hb:Bytes d):∀x∈cs,Bytes x.2:=by
 unfold rdRec at h
 split at h
 ·cases h
 ·split at h
  ·split at h
   ·cases h
   ·rename_i ks r hn
    cases hc:rdCons ks r with
    |none=>rw [hc] at h;cases h
    |some x=>
     obtain⟨x1,x2⟩:=x
     rw [hc] at h
     cases x2 with
     |nil=>
      simp only [rdTail,Option.some.injEq] at h
      subst h
      exact rdCons_bytes hc (rdNums_bytes hn (hb.drop 2))
     |cons a t=>cases h
  ·cases h
theorem over_bytes {ms:CM}:∀{cs:CM},(∀x∈ms,Bytes x.2)→(∀x∈cs,Bytes x.2)→∀x∈CM.over ms cs,Bytes x.2:=by
 intro cs
 induction cs generalizing ms with
 |nil=>intro h _ x hx;exact h x hx
 |cons q qs ih=>
  intro h1 h2
  have e:CM.over ms (q :: qs)=CM.over (CM.put ms q.1 q.2) qs:=rfl
  rw [e]
  refine ih (fun x hx=>?_) (fun x hx=>h2 x (List.mem_cons_of_mem _ hx))
  rcases CM.put_key hx with rfl|hx
  ·exact h2 q (by simp)
  ·exact h1 x hx
theorem rdAll_bytes {blocks:Nat}:∀{rs:List (List Int)} {ms ov:CM},rdAll blocks ms rs=some ov→(∀x∈ms,Bytes x.2)→(∀r∈rs,Bytes r)→∀x∈ov,Bytes x.2
 | [],ms,ov,h,hm,_=>by
  simp only [rdAll,Option.some.injEq] at h
  subst h
  exact hm
 |r :: rs,ms,ov,h,hm,hr=>by
  unfold rdAll at h
  cases hc:rdRec blocks r with
  |none=>rw [hc] at h;cases h
  |some cs=>
   rw [hc] at h
   exact rdAll_bytes h (over_bytes hm (rdRec_bytes hc (hr r (by simp)))) (fun x hx=>hr x (List.mem_cons_of_mem _ hx))
theorem sredo_byt {S:DS} {s:Nat} {y:LY} {ov:CM} {rs:List (List Int)} (h:S.Byt) (ho:∀x∈ov,Bytes x.2):(sredo S s y ov rs).2.Byt:=by
 unfold sredo
 split
 ·exact h
 ·have h1:=sbring_byt h s y.home (ms:=ov) ho
  split
  ·exact h1
  ·exact h1.fl s
theorem sredo_puts {S:DS} {s:Nat} {y:LY} {ov:CM} {rs:List (List Int)} (h0:(sredo S s y ov rs).1=0):(sredo S s y ov rs).2.puts.length≤S.puts.length:=by
 unfold sredo at*
 split
 ·exact Nat.le_refl _
 ·rename_i k
  rw [if_neg k] at h0
  split
  ·rename_i k2;rw [if_pos k2] at h0;exact absurd h0 k2
  ·rename_i k2
   rw [if_neg k2] at h0
   rw [fl_zero h0]
   exact Nat.zero_le _
theorem stOpen_geo {S:DS} {s:Nat} (h:SupAt (S.now 0) s):(lyOf (S.now 0)).home+(lyOf (S.now 0)).blocks≤s∧1+2+(lyOf (S.now 0)).log≤s∧18≤(lyOf (S.now 0)).log∧(lyOf (S.now 0)).log≤256∧(lyOf (S.now 0)).blocks≤2048:=by
 have hg:=h.1.geo
 have hs:=h.2
 unfold Geo at hg
 unfold lyOf
 simp only
 generalize u32 (S.now 0) 8=a at*
 generalize u32 (S.now 0) 12=b at*
 generalize u32 (S.now 0) 16=c at*
 omega
def SLog (S:DS) (s:Nat) (L:LG):Prop:=∃rs hd ov,TellsAt S 1 (lyOf (S.now 0)).log rs hd∧rdAll (lyOf (S.now 0)).blocks [] rs=some ov∧L=((lgOf S 1 (lyOf (S.now 0)).log hd).start (sredo (lopen S s 1 ((lyOf (S.now 0)).log:Nat)).2 s (lyOf (S.now 0)) ov rs).2 s).2.2
def StOpened (w:World) (F:Nat→Prop) (p s c:Nat) (S:DS) (e:Ending) (w':World):Prop:=∃x S' cR,cR≤c+5+(lyOf (S.now 0)).log∧SOut S s x S'∧Keeps F w w'∧((x≠0∧e= .returned (.tuple #[.pointer none, .int .i64 x])∧B.DiskR w' (more F w w') p s S' cR)∨(x=0∧∃q l m L F',SLog S s L∧e= .returned (.tuple #[.pointer (some ⟨q,0,none⟩), .int .i64 0])∧(∀k,F' k→more F w w' k)∧w.heap.size≤q∧w.heap.size≤l∧w.heap.size≤m∧StW w' F' p s cR q l m S' ⟨lyOf (S.now 0),L, [],false⟩))
theorem oerr {w w4:World} {F:Nat→Prop} {p s c:Nat} {S:DS} {u:Value} {y:Int} (x:Int) (hlt:∀k,F k→k<w.heap.size∨w.heap.size+2≤k) (hg1:w4.heap[w.heap.size]? =some (.cells #[u] 34 (0,0))) (hg2:w4.heap[w.heap.size+1]? =some (.cells #[.int .i64 y] 39 (0,0))) (hd:B.DiskR w4 F p s S c):
    (w4.setCell ⟨w.heap.size+1,0,none⟩ (.int .i64 x)).heap[w.heap.size]? =some (.cells #[u] 34 (0,0))∧(w4.setCell ⟨w.heap.size+1,0,none⟩ (.int .i64 x)).heap[w.heap.size+1]? =some (.cells #[.int .i64 x] 39 (0,0))∧B.DiskR (w4.setCell ⟨w.heap.size+1,0,none⟩ (.int .i64 x)) F p s S c∧Keeps (fun k=>k=w.heap.size+1) w4 (w4.setCell ⟨w.heap.size+1,0,none⟩ (.int .i64 x)):=by
 have k1:=Keeps.setCell (F:=fun k=>k=w.heap.size+1) w4 (p:=⟨w.heap.size+1,0,none⟩) rfl (.int .i64 x)
 refine⟨(Below.heap_setCell _ _ _ _ (by simp)).trans hg1,?_,hd.keep k1 (fun k hF e=>by have:=hlt _ hF;omega),k1⟩
 rw [heap_setCell_same _ _ _ _ _ _ hg2]
 rfl
theorem oRd_le (S:DS) (s n:Nat):B.oRd S s 1 (n:Int)≤n+2:=by
 unfold B.oRd
 split <;> simp
theorem omade {w w5:World} {F:Nat→Prop} {p s c l:Nat} {S:DS} {y:LY} (hlt:∀k,F k→k<w.heap.size) (hg1:w5.heap[w.heap.size]? =some (.cells #[.pointer none] 34 (0,0))) (hg2:w5.heap[w.heap.size+1]? =some (.cells #[.int .i64 0] 39 (0,0))) (hd:B.DiskR w5 F p s S c) {w6:World} (hw6:w6=((w5.setCell ⟨w.heap.size,0,none⟩ (.pointer (some ⟨w5.heap.size+1,0,none⟩))).alloc (.map #[] 0)).alloc (.cells (stC p l w5.heap.size y false) 96)):
  w6.heap[w.heap.size]? =some (.cells #[.pointer (some ⟨w5.heap.size+1,0,none⟩)] 34 (0,0))∧w6.heap[w.heap.size+1]? =some (.cells #[.int .i64 0] 39 (0,0))∧StP w6 (w5.heap.size+1) p l w5.heap.size y false∧Ch w6 w5.heap.size []∧B.DiskR w6 F p s S c∧Keeps (fun k=>k=w.heap.size) w5 w6∧w6.heap.size=w5.heap.size+2:=by
 have k1:=Keeps.setCell (F:=fun k=>k=w.heap.size) w5 (p:=⟨w.heap.size,0,none⟩) rfl (.pointer (some ⟨w5.heap.size+1,0,none⟩))
 have hs:=size_setCell w5 ⟨w.heap.size,0,none⟩ (.pointer (some ⟨w5.heap.size+1,0,none⟩))
 have h1:(w5.setCell ⟨w.heap.size,0,none⟩ (.pointer (some ⟨w5.heap.size+1,0,none⟩))).heap[w.heap.size]? =some (.cells #[.pointer (some ⟨w5.heap.size+1,0,none⟩)] 34 (0,0)):=by
  rw [heap_setCell_same _ _ _ _ _ _ hg1]
  rfl
 have h2:(w5.setCell ⟨w.heap.size,0,none⟩ (.pointer (some ⟨w5.heap.size+1,0,none⟩))).heap[w.heap.size+1]? =some (.cells #[.int .i64 0] 39 (0,0)):=(Below.heap_setCell _ _ _ _ (by simp)).trans hg2
 generalize w5.setCell ⟨w.heap.size,0,none⟩ (.pointer (some ⟨w5.heap.size+1,0,none⟩))=wa at*
 have hb:=cbelow_two wa (.map #[] 0) (.cells (stC p l w5.heap.size y false) 96)
 have hch:=(Ch.made wa).later (below_box (wa.alloc (.map #[] 0)) (.cells (stC p l w5.heap.size y false) 96))
 have hst:((wa.alloc (.map #[] 0)).alloc (.cells (stC p l w5.heap.size y false) 96)).heap[wa.heap.size+1]? =some (.cells (stC p l w5.heap.size y false) 96 (0,0)):=by
  have:=heap_alloc_new (wa.alloc (.map #[] 0)) (.cells (stC p l w5.heap.size y false) 96)
  rwa [World.size_alloc] at this
 rw [hs] at hch hst
 have hz:((wa.alloc (.map #[] 0)).alloc (.cells (stC p l w5.heap.size y false) 96)).heap.size=w5.heap.size+2:=by rw [World.size_alloc,World.size_alloc,hs]
 rw [←hw6] at hb hch hst hz
 exact⟨(hb.block _ (lt_there h1)).trans h1,(hb.block _ (lt_there h2)).trans h2,hst,hch,(hd.keep k1 (fun k hF e=>by have:=hlt _ hF;omega)).later hb,k1.trans (Keeps.of_below (fun _=>False) hb) (fun _ h=>h.elim),hz⟩
theorem RecsAt.recs {w:World} {B:Nat} {v:Value} {rs:List (List Int)} {X:Nat→Prop} (h:RecsAt w B v rs X):Recs w v rs:=by
 obtain⟨vs,ho,hr⟩:=h
 refine⟨vs,?_,fun i hi=>?_⟩
 ·obtain⟨hl,h|⟨g,cap,cur,rfl,hg,hbk,h1⟩⟩:=ho
  ·exact⟨hl, .inl h⟩
  ·exact⟨hl, .inr ⟨g,cap,cur,rfl,Nat.zero_le _,hbk,h1⟩⟩
 ·obtain⟨g,c,h1,h2,_⟩:=hr i hi
  exact⟨g,c,h1,h2⟩
end Go.Proofs.YtkiehemoiapkkaaGreat
end
