import Derived.Test.YtkiehemoiapkkaaGreatW24
section
namespace Go.Proofs.YtkiehemoiapkkaaGreat
open Go.RowKit Go.Maps
theorem on6_any (t:Nat) (w:World):Calls Tryz.prog 58 #[.pointer (some ⟨t,0,none⟩)] w fun e w'=>e= .returned (.pointer (some ⟨w.heap.size,0,none⟩))∧w'=w.alloc (.cells #[.pointer (some ⟨t,0,none⟩)] 59):=by
 go_enter Tryz.func58,Tryz.ntmps58
 go_wp2
 go_ret
 exact⟨rfl,rfl⟩
abbrev rigC (p q:Nat) (x2 x3:Value) (k:Nat) (b:Bool):Array Value:= #[.pointer (some ⟨p,0,none⟩), .pointer (some ⟨q,0,none⟩),x2,x3, .pointer (some ⟨k,0,none⟩), .bool b]
def MX (w:World) (X:Nat→Prop) (k:Nat) (M:MP):Prop:=∃g1 c1 g2 c2 g3 c3 g4 c4 v5 v6 v7,MAt w X k g1 c1 g2 c2 g3 c3 g4 c4 v5 v6 v7 M
theorem BX.keep {w w':World} {X Z:Nat→Prop} {g c:Nat} {l:List Bool} (h:BX w X g c l) (hk:Keeps Z w w') (hZ:∀j,Z j→¬X j):BX w' X g c l:=⟨h.1,h.2.1.agree (hk.block g h.2.1.lt (fun e=>hZ g e h.1)),h.2.2⟩
theorem RWs.apart {w w':World} {X Z:Nat→Prop} {v:Value} {rs:List (List Int)} (h:RWs w X v rs) (hk:Keeps Z w w') (hZ:∀j,Z j→¬X j):RWs w' X v rs:=by
 obtain⟨xs,h1,h2,h3⟩:=h
 refine⟨xs,owns_agree h1 (fun g hg=>?_),h2,fun i hi=>?_⟩
 ·obtain⟨cur,hc⟩:=owns_block h1 hg
  exact hk.block g (lt_there hc) (fun e=>hZ g e (h2 g hg))
 ·obtain⟨g,c,e1,e2,e3⟩:=h3 i hi
  exact⟨g,c,e1,e2,e3.agree (hk.block g e3.lt (fun e=>hZ g e e2))⟩
theorem NX.apart {w w':World} {X Z:Nat→Prop} {v:Value} {l:List Nat} (h:NX w X v l) (hk:Keeps Z w w') (hZ:∀j,Z j→¬X j):NX w' X v l:=
   ⟨owns_agree h.1 (fun g hg=>by obtain⟨cur,hc⟩:=owns_block h.1 hg;exact hk.block g (lt_there hc) (fun e=>hZ g e (h.2 g hg))),h.2⟩
theorem MX.apart {w w':World} {X Z:Nat→Prop} {k:Nat} {M:MP} (h:MX w X k M) (hk:Keeps Z w w') (hZ:∀j,Z j→¬X j):MX w' X k M:=by
 obtain⟨g1,c1,g2,c2,g3,c3,g4,c4,v5,v6,v7,h⟩:=h
 exact⟨g1,c1,g2,c2,g3,c3,g4,c4,v5,v6,v7,⟨(hk.block k (lt_there h.b) (fun e=>hZ k e h.xk)).trans h.b,h.xk,h.ob.keep hk hZ,h.on.keep hk hZ,h.nb.keep hk hZ,h.nn.keep hk hZ,h.n12,h.n13,h.n14,h.n23,h.n24,h.n34,h.oraw.apart hk hZ,h.raw.apart hk hZ,h.put.apart hk hZ,h.own⟩⟩
structure BG (w0 w:World) (F X:Nat→Prop) (kr p s q l m t n k:Nat) (x2 x3:Value) (S:DS) (G:SG) (M:MP) (r:Int):Prop where
 b:w.heap[kr]? =some (.cells (rigC p q x2 x3 k true) 38 (0,0))
 d:DiskAt w F p s (S.rds r)
 st:StP w q p l m G.y true
 lp:LogP w l p G.L
 ch:Ch w m G.ov
 tx:w.heap[t]? =some (.cells (txC q n ⟨[],0,false⟩) 106 (0,0))
 cn:Ch w n []
 mm:MX w X k M
 kp:Keeps (fun j=>j=kr∨j=q) w0 w
theorem BG.keep {w0 w w':World} {F X Z:Nat→Prop} {kr p s q l m t n k:Nat} {x2 x3:Value} {S:DS} {G:SG} {M:MP} {r:Int} (h:BG w0 w F X kr p s q l m t n k x2 x3 S G M r) (hk:Keeps Z w w') (hZ:∀j,Z j→¬F j∧j≠kr∧j≠q∧j≠l∧j≠m∧j≠t∧j≠n∧¬X j∧w0.heap.size≤j):BG w0 w' F X kr p s q l m t n k x2 x3 S G M r:=
   ⟨(hk.block _ (lt_there h.b) (fun e=>(hZ _ e).2.1 rfl)).trans h.b,h.d.keep hk (fun j hj e=>(hZ j e).1 hj),h.st.keep hk (fun e=>(hZ _ e).2.2.1 rfl),h.lp.keep hk (fun e=>(hZ _ e).2.2.2.1 rfl),h.ch.keep hk (fun e=>(hZ _ e).2.2.2.2.1 rfl),(hk.block _ (lt_there h.tx) (fun e=>(hZ _ e).2.2.2.2.2.1 rfl)).trans h.tx,h.cn.keep hk (fun e=>(hZ _ e).2.2.2.2.2.2.1 rfl),h.mm.apart hk (fun j e=>(hZ j e).2.2.2.2.2.2.2.1),h.kp.trans hk (fun j e=> .inr (hZ j e).2.2.2.2.2.2.2.2)⟩
theorem BG.later {w0 w w':World} {F X:Nat→Prop} {kr p s q l m t n k:Nat} {x2 x3:Value} {S:DS} {G:SG} {M:MP} {r:Int} (h:BG w0 w F X kr p s q l m t n k x2 x3 S G M r) (hb:Below w.heap.size w w'):BG w0 w' F X kr p s q l m t n k x2 x3 S G M r:=h.keep (Keeps.of_below (fun _=>False) hb) (fun _ h=>h.elim)
theorem BG.set {w0 w w':World} {F X:Nat→Prop} {kr p s q l m t n k:Nat} {x2 x3 y2 y3:Value} {S:DS} {G:SG} {M:MP} {r:Int} (h:BG w0 w F X kr p s q l m t n k x2 x3 S G M r) (hk:Keeps (fun j=>j=kr) w w') (hb:w'.heap[kr]? =some (.cells (rigC p q y2 y3 k true) 38 (0,0))) (n1:¬F kr) (n2:kr≠q) (n3:kr≠l) (n4:kr≠m) (n5:kr≠t) (n6:kr≠n) (n7:¬X kr):BG w0 w' F X kr p s q l m t n k y2 y3 S G M r:=
   ⟨hb,h.d.keep hk (fun _j hj e=>n1 (e▸hj)),h.st.keep hk (fun e=>n2 e.symm),h.lp.keep hk (fun e=>n3 e.symm),h.ch.keep hk (fun e=>n4 e.symm),(hk.block _ (lt_there h.tx) (fun e=>n5 e.symm)).trans h.tx,h.cn.keep hk (fun e=>n6 e.symm),h.mm.apart hk (fun _j e hx=>n7 (e▸hx)),h.kp.trans hk (fun _j e=> .inl (.inl e))⟩
theorem BG.cells {w0 w:World} {F X:Nat→Prop} {kr p s q l m t n k:Nat} {x2 x3:Value} {S:DS} {G:SG} {M:MP} {r:Int} (h:BG w0 w F X kr p s q l m t n k x2 x3 S G M r):w.cell? ⟨kr,0,none⟩=some (.pointer (some ⟨p,0,none⟩))∧w.cell? ⟨kr,2,none⟩=some x2∧w.cell? ⟨kr,3,none⟩=some x3∧w.cell? ⟨kr,4,none⟩=some (.pointer (some ⟨k,0,none⟩))∧w.cell? ⟨kr,5,none⟩=some (.bool true):=
   ⟨cell_of_block h.b (j:=0) rfl,cell_of_block h.b (j:=2) rfl,cell_of_block h.b (j:=3) rfl,cell_of_block h.b (j:=4) rfl,cell_of_block h.b (j:=5) rfl⟩
structure RgW (w:World) (F X:Nat→Prop) (kr p s cR q l m t n a1 a2 k:Nat) (S:DS) (G:SG) (T:TG) (M:MP):Prop where
 b:w.heap[kr]? =some (.cells (rigC p q (.pointer (some ⟨a1,0,none⟩)) (.pointer (some ⟨a2,0,none⟩)) k true) 38 (0,0))
 x:TX w F p s cR q l m t n S G T
 p1:PoolAt w F a1 t n
 p2:PoolAt w F a2 t n
 mm:MX w X k M
 xl:∀j,X j→j<w.heap.size
 nk:¬F kr∧kr≠q∧kr≠l∧kr≠m∧kr≠t∧kr≠n
 xa:∀j,X j→¬F j∧j≠q∧j≠l∧j≠m∧j≠t∧j≠n∧j≠kr∧j≠a1∧j≠a2
set_option maxRecDepth 20000 in
set_option maxHeartbeats 8000000 in
theorem rbegin_any {w:World} {F X:Nat→Prop} {kr p s cR q l m k:Nat} {x2 x3:Value} {S:DS} {G:SG} {M:MP}
    (hb:w.heap[kr]? =some (.cells (rigC p q x2 x3 k true) 38 (0,0))) (hst:StW w F p s cR q l m S G) (hbusy:G.busy=false) (hdead:G.L.dead S=false) (hby:S.Byt) (hpu:S.puts.length≤6000) (hyk:YOk G.y)
    (hm:MX w X k M) (hX:∀j,X j→j<w.heap.size) (hn:M.oraw.length≤2048) (nk:¬F kr∧kr≠q∧kr≠l∧kr≠m) (hXa:∀j,X j→¬F j∧j≠q∧j≠l∧j≠m∧j≠kr):
  Calls Tryz.prog 20 #[.pointer (some ⟨kr,0,none⟩)] w fun e w'=>e= .returned (.tuple #[])∧∃t n a1 a2 X',RgW w' F X' kr p s cR q l m t n a1 a2 k S {G with busy:=true} ⟨[],0,false⟩ M.begun∧(∀j,X' j→X j∨w.heap.size≤j)∧Keeps (fun j=>j=kr∨j=q∨j=k) w w'∧w.heap.size≤t∧w.heap.size≤n∧w.heap.size≤a1∧w.heap.size≤a2:=by
 have k1:=(sbegin_any hst).mono (fun e w' h=>by unfold BegOut at h;rw [if_neg (fun h=>h (by unfold SG.begin;rw [hdead,hbusy];rfl))] at h;exact h)
 obtain⟨r,hdr,hrb⟩:=hst.d
 have c1:w.cell? ⟨kr,1,none⟩=some (.pointer (some ⟨q,0,none⟩)):=cell_of_block hb (j:=1) rfl
 have hlt:=hst.d.lt
 have hql:=hst.st.lt
 have hll:=hst.lp.lt
 have hml:=hst.ch.lt
 have hkrl:=lt_there hb
 have HSt:=Hid.mk hst
 have HBk:=Hid.mk hb
 have HM:=Hid.mk hm
 have HD:=Hid.mk hdr
 have HXa:=Hid.mk hXa
 have HRb:=Hid.mk hrb
 clear hst hb hm hdr hdead hbusy hXa hrb
 go_enter Tryz.func20,Tryz.ntmps20
 go_wp2_with fail
 refine k1.mono ?_
 rintro e w1 ⟨t,n,rfl,hn1,ht1,htn,htx,hch,hstp,hk1⟩
 have hz1:=hk1.size
 have htl:t<w1.heap.size:=lt_there htx
 have hnl:n<w1.heap.size:=hch.lt
 have hBG1:BG w w1 F X kr p s q l m t n k x2 x3 S G M r:=⟨(hk1.block _ hkrl nk.2.1).trans HBk.out,HD.out.keep hk1 (fun j hj e=>HSt.out.nq (e▸hj)),hstp,HSt.out.lp.keep hk1 (fun e=>HSt.out.ql e.symm),HSt.out.ch.keep hk1 (fun e=>HSt.out.qm e.symm),htx,hch,HM.out.apart hk1 (fun j e hx=>(HXa.out j hx).2.1 e),hk1.mono (fun j e=> .inr e)⟩
 obtain⟨i0,i2,i3,i4,i5⟩:=hBG1.cells
 have f5:=frozen_of_block hBG1.b 5
 have nkt:kr≠t:=by omega
 have nkn:kr≠n:=by omega
 have nkx:¬X kr:=fun h=>(HXa.out kr h).2.2.2.2 rfl
 have hs5:=hBG1.set (Keeps.setCell (F:=fun j=>j=kr) w1 (p:=⟨kr,5,none⟩) rfl (.bool true)) ((heap_setCell_same _ _ 5 _ _ (.bool true) hBG1.b).trans rfl) nk.1 nk.2.1 nk.2.2.1 nk.2.2.2 nkt nkn nkx
 have kn:=num6_any 0 w1
 have HB2:=Hid.mk hs5
 have hz2:(w1.setCell ⟨kr,5,none⟩ (.bool true)).heap.size=w1.heap.size:=by simp [World.setCell]
 clear k1 c1 htx hch hstp hk1 hBG1 hs5
 go_wp2_with fail
 refine kn.mono ?_
 rintro e w9 ⟨rfl,hw9⟩
 have hw9':=hw9.symm
 subst hw9'
 clear kn hw9
 obtain⟨w2,hw2⟩:∃w2,w2=w1.setCell ⟨kr,5,none⟩ (.bool true):=⟨_,rfl⟩
 rw [←hw2] at HB2 hz2
 go_wp2_with fail
 rw [←hw2]
 clear hw2 i0 i2 i3 i4 i5 f5
 have kc:=counts_any p s F (S.rds r) w2 HB2.out.d (by show S.puts.length≤_;omega)
 have kca:∀w',DiskAt w' F p s (S.rds r)→Calls Tryz.prog 57 #[.pointer (some ⟨p,0,none⟩)] w' fun e w''=>e= .returned (.agg (cnCells (S.rds r).reads (S.rds r).writes (S.rds r).flushes (S.rds r).refused (S.rds r).puts.length))∧Below w'.heap.size w' w'':=fun w' h=>counts_any p s F (S.rds r) w' h (by show S.puts.length≤_;omega)
 generalize (S.rds r).reads=n0 at kc kca
 generalize (S.rds r).writes=n1' at kc kca
 generalize (S.rds r).flushes=n2' at kc kca
 generalize (S.rds r).refused=n3' at kc kca
 generalize ((S.rds r).puts.length:Int)=n4' at kc kca
 have HKC:=Hid.mk kca
 clear kca
 refine kc.mono ?_
 rintro e w3 ⟨rfl,hb3⟩
 have hz3:=hb3.size
 have hB3:=HB2.out.later hb3
 have hbw:=below_box w3 (.cells (cnCells n0 n1' n2' n3' n4') 101)
 have hB4:=hB3.later hbw
 have hwas:=heap_alloc_new w3 (.cells (cnCells n0 n1' n2' n3' n4') 101)
 have hz4:(w3.alloc (.cells (cnCells n0 n1' n2' n3' n4') 101)).heap.size=w3.heap.size+1:=by rw [World.size_alloc]
 have HB4:=Hid.mk hB4
 have HW4:=Hid.mk hwas
 clear kc hb3 hB3 hbw hB4 hwas
 go_wp2_with fail
 refine(on6_any t _).mono ?_
 rintro e w5 ⟨rfl,hw5⟩
 have hb5:Below (w3.alloc (.cells (cnCells n0 n1' n2' n3' n4') 101)).heap.size (w3.alloc (.cells (cnCells n0 n1' n2' n3' n4') 101)) w5:=by rw [hw5];exact below_box _ _
 have hp5:w5.heap[w3.heap.size+1]? =some (.cells #[.pointer (some ⟨t,0,none⟩)] 59 (0,0)):=by rw [hw5,←hz4];exact heap_alloc_new _ _
 have hz5:w5.heap.size=w3.heap.size+2:=by rw [hw5,World.size_alloc,hz4]
 have hB5:=HB4.out.later hb5
 have hwas5:=(hb5.block _ (lt_there HW4.out)).trans HW4.out
 obtain⟨i0,i2,i3,i4,i5⟩:=hB5.cells
 have f2:=frozen_of_block hB5.b 2
 have hs5:=hB5.set (y2:= .pointer (some ⟨w3.heap.size+1,0,none⟩)) (Keeps.setCell (F:=fun j=>j=kr) w5 (p:=⟨kr,2,none⟩) rfl (.pointer (some ⟨w3.heap.size+1,0,none⟩))) ((heap_setCell_same _ _ 2 _ _ (.pointer (some ⟨w3.heap.size+1,0,none⟩)) hB5.b).trans rfl) nk.1 nk.2.1 nk.2.2.1 nk.2.2.2 nkt nkn nkx
 have hk5:=Keeps.setCell (F:=fun j=>j=kr) w5 (p:=⟨kr,2,none⟩) rfl (.pointer (some ⟨w3.heap.size+1,0,none⟩))
 have HB5:Hid (BG w (w5.setCell ⟨kr,2,none⟩ (.pointer (some ⟨w3.heap.size+1,0,none⟩))) F X kr p s q l m t n k (.pointer (some ⟨w3.heap.size+1,0,none⟩)) x3 S G M r∧(w5.setCell ⟨kr,2,none⟩ (.pointer (some ⟨w3.heap.size+1,0,none⟩))).heap[w3.heap.size]? =some (.cells (cnCells n0 n1' n2' n3' n4') 101 (0,0))∧(w5.setCell ⟨kr,2,none⟩ (.pointer (some ⟨w3.heap.size+1,0,none⟩))).heap[w3.heap.size+1]? =some (.cells #[.pointer (some ⟨t,0,none⟩)] 59 (0,0))):=⟨hs5,(hk5.block _ (lt_there hwas5) (by omega)).trans hwas5,(hk5.block _ (lt_there hp5) (by omega)).trans hp5⟩
 have hz6:(w5.setCell ⟨kr,2,none⟩ (.pointer (some ⟨w3.heap.size+1,0,none⟩))).heap.size=w3.heap.size+2:=by rw [←hz5];simp [World.setCell]
 rw [hz4]
 clear hw5 hb5 hp5 hB5 hwas5 hs5 hk5 HB4 HW4 hz4
 go_wp2_with fail
 refine(on6_any t _).mono ?_
 rintro e w7 ⟨rfl,hw7⟩
 have hb7:Below (w5.setCell ⟨kr,2,none⟩ (.pointer (some ⟨w3.heap.size+1,0,none⟩))).heap.size (w5.setCell ⟨kr,2,none⟩ (.pointer (some ⟨w3.heap.size+1,0,none⟩))) w7:=by rw [hw7];exact below_box _ _
 have hp7:w7.heap[w3.heap.size+2]? =some (.cells #[.pointer (some ⟨t,0,none⟩)] 59 (0,0)):=by rw [hw7,←hz6];exact heap_alloc_new _ _
 have hz7:w7.heap.size=w3.heap.size+3:=by rw [hw7,World.size_alloc,hz6]
 have hB7:=HB5.out.1.later hb7
 have hwas7:=(hb7.block _ (lt_there HB5.out.2.1)).trans HB5.out.2.1
 have hp17:=(hb7.block _ (lt_there HB5.out.2.2)).trans HB5.out.2.2
 clear i0 i2 i3 i4 i5 f2
 obtain⟨i0,i2,i3,i4,i5⟩:=hB7.cells
 have f3:=frozen_of_block hB7.b 3
 have hk7:=Keeps.setCell (F:=fun j=>j=kr) w7 (p:=⟨kr,3,none⟩) rfl (.pointer (some ⟨w3.heap.size+2,0,none⟩))
 have hs7:=hB7.set (y2:= .pointer (some ⟨w3.heap.size+1,0,none⟩)) (y3:= .pointer (some ⟨w3.heap.size+2,0,none⟩)) hk7 ((heap_setCell_same _ _ 3 _ _ (.pointer (some ⟨w3.heap.size+2,0,none⟩)) hB7.b).trans rfl) nk.1 nk.2.1 nk.2.2.1 nk.2.2.2 nkt nkn nkx
 obtain⟨w8,hw8⟩:∃w8,w8=w7.setCell ⟨kr,3,none⟩ (.pointer (some ⟨w3.heap.size+2,0,none⟩)):=⟨_,rfl⟩
 have HB8:Hid (BG w w8 F X kr p s q l m t n k (.pointer (some ⟨w3.heap.size+1,0,none⟩)) (.pointer (some ⟨w3.heap.size+2,0,none⟩)) S G M r∧w8.heap[w3.heap.size]? =some (.cells (cnCells n0 n1' n2' n3' n4') 101 (0,0))∧w8.heap[w3.heap.size+1]? =some (.cells #[.pointer (some ⟨t,0,none⟩)] 59 (0,0))∧w8.heap[w3.heap.size+2]? =some (.cells #[.pointer (some ⟨t,0,none⟩)] 59 (0,0))):=by
  rw [hw8]
  exact⟨hs7,(hk7.block _ (lt_there hwas7) (by omega)).trans hwas7,(hk7.block _ (lt_there hp17) (by omega)).trans hp17,(hk7.block _ (lt_there hp7) (by omega)).trans hp7⟩
 have hz8:w8.heap.size=w3.heap.size+3:=by rw [←hz7,hw8];simp [World.setCell]
 rw [hz6]
 clear hw7 hb7 hp7 hB7 hwas7 hp17 hs7 hk7 HB5
 go_wp2_with fail
 rw [←hw8]
 clear hw8 i0 i2 i3 i4 i5 f3 hz6 hz5 hz7
 have hdw:Below w8.heap.size w8 w8.drew:=below_drew (Below.refl _ _)
 have hBd:=HB8.out.1.later hdw
 obtain⟨i0,i2,i3,i4,i5⟩:=hBd.cells
 have hwd:w8.drew.heap[w3.heap.size]? =some (.cells (cnCells n0 n1' n2' n3' n4') 101 (0,0)):=HB8.out.2.1
 have q0:w8.drew.cell? ⟨w3.heap.size,0,none⟩=some (.int .i64 n0):=cell_of_block hwd (j:=0) rfl
 have q1:w8.drew.cell? ⟨w3.heap.size,1,none⟩=some (.int .i64 n1'):=cell_of_block hwd (j:=1) rfl
 have q2:w8.drew.cell? ⟨w3.heap.size,2,none⟩=some (.int .i64 n2'):=cell_of_block hwd (j:=2) rfl
 have q3:w8.drew.cell? ⟨w3.heap.size,3,none⟩=some (.int .i64 n3'):=cell_of_block hwd (j:=3) rfl
 have q4:w8.drew.cell? ⟨w3.heap.size,4,none⟩=some (.int .i64 n4'):=cell_of_block hwd (j:=4) rfl
 have kd:=HKC.out w8.drew hBd.d
 have HBd:=Hid.mk hBd
 have hzd:w8.drew.heap.size=w3.heap.size+3:=hz8
 clear hBd hwd HKC
 refine wp_region_held_drew (S:=(fun w'=>w'.cell? ⟨kr,0,none⟩=some (.pointer (some ⟨p,0,none⟩))∧w'.cell? ⟨kr,2,none⟩=some (.pointer (some ⟨w3.heap.size+1,0,none⟩))∧w'.cell? ⟨kr,3,none⟩=some (.pointer (some ⟨w3.heap.size+2,0,none⟩))∧w'.cell? ⟨w3.heap.size,0,none⟩=some (.int .i64 n0)∧w'.cell? ⟨w3.heap.size,1,none⟩=some (.int .i64 n1')∧w'.cell? ⟨w3.heap.size,2,none⟩=some (.int .i64 n2')∧w'.cell? ⟨w3.heap.size,3,none⟩=some (.int .i64 n3')∧w'.cell? ⟨w3.heap.size,4,none⟩=some (.int .i64 n4'))) (by kernel_rfl) (⟨i0,i2,i3,q0,q1,q2,q3,q4⟩) (fun hHeld=>?_)
 refine wpAnyH_take (i:=0) (oi:={dst:=some 49,op:=Op.move (Operand.tmp 0),type:=28,pos:= "exact.go:76",after:= #[],guard:=none}) (v:= .pointer (some ⟨kr,0,none⟩)) rfl (by kernel_rfl) (by kernel_rfl) (by kernel_rfl) (fun _ _ _ h=>h) (Or.inl ⟨by rfl,?_⟩) (by assumption) ?_
 ·intro w hSw
  (try dsimp only at hSw)
  go_simp
 try simp only [Act.put,List.setIfInBounds_toArray,List.set_cons_zero,List.set_cons_succ]
 refine wpAnyH_take (i:=1) (oi:={dst:=some 50,op:=Op.move (Operand.tmp 0),type:=28,pos:= "exact.go:76",after:= #[],guard:=none}) (v:= .pointer (some ⟨kr,0,none⟩)) rfl (by kernel_rfl) (by kernel_rfl) (by kernel_rfl) (fun _ _ _ h=>h) (Or.inl ⟨by rfl,?_⟩) (by assumption) ?_
 ·intro w hSw
  (try dsimp only at hSw)
  go_simp
 try simp only [Act.put,List.setIfInBounds_toArray,List.set_cons_zero,List.set_cons_succ]
 refine wpAnyH_take (i:=2) (oi:={dst:=some 51,op:=Op.nilCheck (Operand.tmp 50),type:=0,pos:= "exact.go:76",after:= #[{on:=1,ground:=Ground.data}],guard:=none}) (v:= .pointer (some ⟨kr,0,none⟩)) rfl (by kernel_rfl) (by kernel_rfl) (by kernel_rfl) (fun _ _ _ h=>h) (Or.inl ⟨by rfl,?_⟩) (by assumption) ?_
 ·intro w hSw
  (try dsimp only at hSw)
  go_simp
 try simp only [Act.put,List.setIfInBounds_toArray,List.set_cons_zero,List.set_cons_succ]
 refine wpAnyH_take (i:=3) (oi:={dst:=some 52,op:=Op.fieldAddr 38 (Operand.tmp 51) 2,type:=0,pos:= "exact.go:76",after:= #[{on:=2,ground:=Ground.data}],guard:=none}) (v:= .pointer (some ⟨kr,2,none⟩)) rfl (by kernel_rfl) (by kernel_rfl) (by kernel_rfl) (fun _ _ _ h=>h) (Or.inl ⟨by rfl,?_⟩) (by assumption) ?_
 ·intro w hSw
  (try dsimp only at hSw)
  go_simp
 try simp only [Act.put,List.setIfInBounds_toArray,List.set_cons_zero,List.set_cons_succ]
 refine wpAnyH_take (i:=4) (oi:={dst:=some 53,op:=Op.load 35 (Operand.tmp 52),type:=35,pos:= "exact.go:76",after:= #[{on:=3,ground:=Ground.data}],guard:=none}) (v:= .pointer (some ⟨w3.heap.size+1,0,none⟩)) rfl (by kernel_rfl) (by kernel_rfl) (by kernel_rfl) (fun _ _ _ h=>h) (Or.inl ⟨by rfl,?_⟩) (by assumption) ?_
 ·intro w hSw
  (try dsimp only at hSw)
  go_simp
 try simp only [Act.put,List.setIfInBounds_toArray,List.set_cons_zero,List.set_cons_succ]
 refine wpAnyH_take (i:=5) (oi:={dst:=some 54,op:=Op.binOp BinOp.neq 35 (Operand.tmp 53) (Operand.const (Value.pointer none)) 35,type:=4,pos:= "exact.go:76",after:= #[{on:=4,ground:=Ground.data}],guard:=none}) (v:= .bool true) rfl (by kernel_rfl) (by kernel_rfl) (by kernel_rfl) (fun _ _ _ h=>h) (Or.inl ⟨by rfl,?_⟩) (by assumption) ?_
 ·intro w hSw
  (try dsimp only at hSw)
  go_simp
 try simp only [Act.put,List.setIfInBounds_toArray,List.set_cons_zero,List.set_cons_succ]
 refine wpAnyH_take (i:=6) (oi:={dst:=some 55,op:=Op.move (Operand.tmp 54),type:=4,pos:= "exact.go:76",after:= #[{on:=5,ground:=Ground.data}],guard:=none}) (v:= .bool true) rfl (by kernel_rfl) (by kernel_rfl) (by kernel_rfl) (fun _ _ _ h=>h) (Or.inl ⟨by rfl,?_⟩) (by assumption) ?_
 ·intro w hSw
  (try dsimp only at hSw)
  go_simp
 try simp only [Act.put,List.setIfInBounds_toArray,List.set_cons_zero,List.set_cons_succ]
 refine wpAnyH_take (i:=7) (oi:={dst:=some 56,op:=Op.move (Operand.tmp 0),type:=28,pos:= "exact.go:76",after:= #[{on:=6,ground:=Ground.guard}],guard:=some (6,true)}) (v:= .pointer (some ⟨kr,0,none⟩)) rfl (by kernel_rfl) (by kernel_rfl) (by kernel_rfl) (fun _ _ _ h=>h) (Or.inl ⟨by rfl,?_⟩) (by assumption) ?_
 ·intro w hSw
  (try dsimp only at hSw)
  go_simp
 try simp only [Act.put,List.setIfInBounds_toArray,List.set_cons_zero,List.set_cons_succ]
 refine wpAnyH_take (i:=8) (oi:={dst:=some 57,op:=Op.nilCheck (Operand.tmp 56),type:=0,pos:= "exact.go:76",after:= #[{on:=7,ground:=Ground.data},{on:=6,ground:=Ground.guard}],guard:=some (6,true)}) (v:= .pointer (some ⟨kr,0,none⟩)) rfl (by kernel_rfl) (by kernel_rfl) (by kernel_rfl) (fun _ _ _ h=>h) (Or.inl ⟨by rfl,?_⟩) (by assumption) ?_
 ·intro w hSw
  (try dsimp only at hSw)
  go_simp
 try simp only [Act.put,List.setIfInBounds_toArray,List.set_cons_zero,List.set_cons_succ]
 refine wpAnyH_take (i:=9) (oi:={dst:=some 58,op:=Op.fieldAddr 38 (Operand.tmp 57) 3,type:=0,pos:= "exact.go:76",after:= #[{on:=8,ground:=Ground.data},{on:=6,ground:=Ground.guard}],guard:=some (6,true)}) (v:= .pointer (some ⟨kr,3,none⟩)) rfl (by kernel_rfl) (by kernel_rfl) (by kernel_rfl) (fun _ _ _ h=>h) (Or.inl ⟨by rfl,?_⟩) (by assumption) ?_
 ·intro w hSw
  (try dsimp only at hSw)
  go_simp
 try simp only [Act.put,List.setIfInBounds_toArray,List.set_cons_zero,List.set_cons_succ]
 refine wpAnyH_take (i:=10) (oi:={dst:=some 59,op:=Op.load 35 (Operand.tmp 58),type:=35,pos:= "exact.go:76",after:= #[{on:=9,ground:=Ground.data},{on:=6,ground:=Ground.guard}],guard:=some (6,true)}) (v:= .pointer (some ⟨w3.heap.size+2,0,none⟩)) rfl (by kernel_rfl) (by kernel_rfl) (by kernel_rfl) (fun _ _ _ h=>h) (Or.inl ⟨by rfl,?_⟩) (by assumption) ?_
 ·intro w hSw
  (try dsimp only at hSw)
  go_simp
 try simp only [Act.put,List.setIfInBounds_toArray,List.set_cons_zero,List.set_cons_succ]
 refine wpAnyH_take (i:=11) (oi:={dst:=some 60,op:=Op.binOp BinOp.neq 35 (Operand.tmp 59) (Operand.const (Value.pointer none)) 35,type:=4,pos:= "exact.go:76",after:= #[{on:=10,ground:=Ground.data},{on:=6,ground:=Ground.guard}],guard:=some (6,true)}) (v:= .bool true) rfl (by kernel_rfl) (by kernel_rfl) (by kernel_rfl) (fun _ _ _ h=>h) (Or.inl ⟨by rfl,?_⟩) (by assumption) ?_
 ·intro w hSw
  (try dsimp only at hSw)
  go_simp
 try simp only [Act.put,List.setIfInBounds_toArray,List.set_cons_zero,List.set_cons_succ]
 refine wpAnyH_take (i:=12) (oi:={dst:=some 61,op:=Op.pick (Operand.tmp 55) (Operand.tmp 60) (Operand.const (Value.bool false)),type:=4,pos:= "exact.go:76",after:= #[{on:=6,ground:=Ground.data},{on:=11,ground:=Ground.data}],guard:=none}) (v:= .bool true) rfl (by kernel_rfl) (by kernel_rfl) (by kernel_rfl) (fun _ _ _ h=>h) (Or.inl ⟨by rfl,?_⟩) (by assumption) ?_
 ·intro w hSw
  (try dsimp only at hSw)
  go_simp
 try simp only [Act.put,List.setIfInBounds_toArray,List.set_cons_zero,List.set_cons_succ]
 refine wpAnyH_take (i:=13) (oi:={dst:=some 62,op:=Op.move (Operand.tmp 61),type:=4,pos:= "exact.go:76",after:= #[{on:=12,ground:=Ground.data},{on:=6,ground:=Ground.chain}],guard:=none}) (v:= .bool true) rfl (by kernel_rfl) (by kernel_rfl) (by kernel_rfl) (fun _ _ _ h=>h) (Or.inl ⟨by rfl,?_⟩) (by assumption) ?_
 ·intro w hSw
  (try dsimp only at hSw)
  go_simp
 try simp only [Act.put,List.setIfInBounds_toArray,List.set_cons_zero,List.set_cons_succ]
 refine wpAnyH_take (i:=14) (oi:={dst:=some 63,op:=Op.move (Operand.tmp 0),type:=28,pos:= "exact.go:76",after:= #[{on:=13,ground:=Ground.guard}],guard:=some (13,true)}) (v:= .pointer (some ⟨kr,0,none⟩)) rfl (by kernel_rfl) (by kernel_rfl) (by kernel_rfl) (fun _ _ _ h=>h) (Or.inl ⟨by rfl,?_⟩) (by assumption) ?_
 ·intro w hSw
  (try dsimp only at hSw)
  go_simp
 try simp only [Act.put,List.setIfInBounds_toArray,List.set_cons_zero,List.set_cons_succ]
 refine wpAnyH_take (i:=15) (oi:={dst:=some 64,op:=Op.nilCheck (Operand.tmp 63),type:=0,pos:= "exact.go:76",after:= #[{on:=14,ground:=Ground.data},{on:=13,ground:=Ground.guard}],guard:=some (13,true)}) (v:= .pointer (some ⟨kr,0,none⟩)) rfl (by kernel_rfl) (by kernel_rfl) (by kernel_rfl) (fun _ _ _ h=>h) (Or.inl ⟨by rfl,?_⟩) (by assumption) ?_
 ·intro w hSw
  (try dsimp only at hSw)
  go_simp
 try simp only [Act.put,List.setIfInBounds_toArray,List.set_cons_zero,List.set_cons_succ]
 refine wpAnyH_take (i:=16) (oi:={dst:=some 65,op:=Op.fieldAddr 38 (Operand.tmp 64) 0,type:=0,pos:= "exact.go:76",after:= #[{on:=15,ground:=Ground.data},{on:=13,ground:=Ground.guard}],guard:=some (13,true)}) (v:= .pointer (some ⟨kr,0,none⟩)) rfl (by kernel_rfl) (by kernel_rfl) (by kernel_rfl) (fun _ _ _ h=>h) (Or.inl ⟨by rfl,?_⟩) (by assumption) ?_
 ·intro w hSw
  (try dsimp only at hSw)
  go_simp
 try simp only [Act.put,List.setIfInBounds_toArray,List.set_cons_zero,List.set_cons_succ]
 refine wpAnyH_take (i:=17) (oi:={dst:=some 66,op:=Op.load 33 (Operand.tmp 65),type:=33,pos:= "exact.go:76",after:= #[{on:=16,ground:=Ground.data},{on:=13,ground:=Ground.guard}],guard:=some (13,true)}) (v:= .pointer (some ⟨p,0,none⟩)) rfl (by kernel_rfl) (by kernel_rfl) (by kernel_rfl) (fun _ _ _ h=>h) (Or.inl ⟨by rfl,?_⟩) (by assumption) ?_
 ·intro w hSw
  (try dsimp only at hSw)
  go_simp
 try simp only [Act.put,List.setIfInBounds_toArray,List.set_cons_zero,List.set_cons_succ]
 refine wpAnyH_take (i:=19) (oi:={dst:=some 68,op:=Op.load 101 (Operand.tmp 4),type:=101,pos:= "exact.go:76",after:= #[{on:=13,ground:=Ground.guard}],guard:=some (13,true)}) (v:= .agg #[.int .i64 n0, .int .i64 n1', .int .i64 n2', .int .i64 n3', .int .i64 n4']) rfl (by kernel_rfl) (by kernel_rfl) (by kernel_rfl) (fun _ _ _ h=>h) (Or.inl ⟨by rfl,?_⟩) (by assumption) ?_
 ·intro w hSw
  (try dsimp only at hSw)
  go_simp
 try simp only [Act.put,List.setIfInBounds_toArray,List.set_cons_zero,List.set_cons_succ]
 refine wpAnyH_ready (rs:= [18]) (by kernel_rfl) (by simp) ?_
 refine AllReadyH.cons (o:={dst:=some 67,op:=Op.call {callee:=Callee.value (Operand.func 57),args:= #[Operand.tmp 66],argTypes:= #[33]},type:=101,pos:= "exact.go:76",after:= #[{on:=17,ground:=Ground.data},{on:=13,ground:=Ground.chain},{on:=13,ground:=Ground.guard}],guard:=some (13,true)}) rfl (fun K hK=>?_) AllReadyH.nil
 go_simp
 refine kd.mono ?_
 rintro e w9 ⟨rfl,hb9⟩
 have j0:=cell_later hb9 i0
 have j1:=cell_later hb9 i2
 have j2:=cell_later hb9 i3
 have j3:=cell_later hb9 q0
 have j4:=cell_later hb9 q1
 have j5:=cell_later hb9 q2
 have j6:=cell_later hb9 q3
 have j7:=cell_later hb9 q4
 refine hK.out _ _ ?_ (fun hHeld=>?_)
 ·exact⟨j0,j1,j2,j3,j4,j5,j6,j7⟩
 clear hK K
 try simp only [Act.put,List.setIfInBounds_toArray,List.set_cons_zero,List.set_cons_succ]
 refine wpAnyH_take (i:=20) (oi:={dst:=some 69,op:=Op.binOp BinOp.eql 101 (Operand.tmp 67) (Operand.tmp 68) 101,type:=4,pos:= "exact.go:76",after:= #[{on:=18,ground:=Ground.data},{on:=19,ground:=Ground.data},{on:=13,ground:=Ground.guard}],guard:=some (13,true)}) (v:= .bool true) rfl (by kernel_rfl) (by kernel_rfl) (by kernel_rfl) (fun _ _ _ h=>h) (Or.inl ⟨by rfl,?_⟩) (by assumption) ?_
 ·intro w hSw
  (try dsimp only at hSw)
  go_simp
 try simp only [Act.put,List.setIfInBounds_toArray,List.set_cons_zero,List.set_cons_succ]
 refine wpAnyH_take (i:=21) (oi:={dst:=some 70,op:=Op.pick (Operand.tmp 62) (Operand.tmp 69) (Operand.const (Value.bool false)),type:=4,pos:= "exact.go:76",after:= #[{on:=13,ground:=Ground.data},{on:=20,ground:=Ground.data}],guard:=none}) (v:= .bool true) rfl (by kernel_rfl) (by kernel_rfl) (by kernel_rfl) (fun _ _ _ h=>h) (Or.inl ⟨by rfl,?_⟩) (by assumption) ?_
 ·intro w hSw
  (try dsimp only at hSw)
  go_simp
 try simp only [Act.put,List.setIfInBounds_toArray,List.set_cons_zero,List.set_cons_succ]
 refine wpAnyH_take (i:=22) (oi:={dst:=some 71,op:=Op.nilCheck (Operand.tmp 49),type:=0,pos:= "exact.go:76",after:= #[{on:=0,ground:=Ground.data},{on:=0,ground:=Ground.phase},{on:=1,ground:=Ground.phase},{on:=2,ground:=Ground.phase},{on:=3,ground:=Ground.phase},{on:=4,ground:=Ground.phase},{on:=5,ground:=Ground.phase},{on:=6,ground:=Ground.phase},{on:=7,ground:=Ground.phase},{on:=8,ground:=Ground.phase},{on:=9,ground:=Ground.phase},{on:=10,ground:=Ground.phase},{on:=11,ground:=Ground.phase},{on:=12,ground:=Ground.phase},{on:=13,ground:=Ground.phase},{on:=14,ground:=Ground.phase},{on:=15,ground:=Ground.phase},{on:=16,ground:=Ground.phase},{on:=17,ground:=Ground.phase},{on:=18,ground:=Ground.phase},{on:=19,ground:=Ground.phase},{on:=20,ground:=Ground.phase},{on:=21,ground:=Ground.phase}],guard:=none}) (v:= .pointer (some ⟨kr,0,none⟩)) rfl (by kernel_rfl) (by kernel_rfl) (by kernel_rfl) (fun _ _ _ h=>h) (Or.inl ⟨by rfl,?_⟩) (by assumption) ?_
 ·intro w hSw
  (try dsimp only at hSw)
  go_simp
 try simp only [Act.put,List.setIfInBounds_toArray,List.set_cons_zero,List.set_cons_succ]
 refine wpAnyH_take (i:=23) (oi:={dst:=some 72,op:=Op.fieldAddr 38 (Operand.tmp 71) 5,type:=0,pos:= "exact.go:76",after:= #[{on:=22,ground:=Ground.data},{on:=0,ground:=Ground.phase},{on:=1,ground:=Ground.phase},{on:=2,ground:=Ground.phase},{on:=3,ground:=Ground.phase},{on:=4,ground:=Ground.phase},{on:=5,ground:=Ground.phase},{on:=6,ground:=Ground.phase},{on:=7,ground:=Ground.phase},{on:=8,ground:=Ground.phase},{on:=9,ground:=Ground.phase},{on:=10,ground:=Ground.phase},{on:=11,ground:=Ground.phase},{on:=12,ground:=Ground.phase},{on:=13,ground:=Ground.phase},{on:=14,ground:=Ground.phase},{on:=15,ground:=Ground.phase},{on:=16,ground:=Ground.phase},{on:=17,ground:=Ground.phase},{on:=18,ground:=Ground.phase},{on:=19,ground:=Ground.phase},{on:=20,ground:=Ground.phase},{on:=21,ground:=Ground.phase}],guard:=none}) (v:= .pointer (some ⟨kr,5,none⟩)) rfl (by kernel_rfl) (by kernel_rfl) (by kernel_rfl) (fun _ _ _ h=>h) (Or.inl ⟨by rfl,?_⟩) (by assumption) ?_
 ·intro w hSw
  (try dsimp only at hSw)
  go_simp
 try simp only [Act.put,List.setIfInBounds_toArray,List.set_cons_zero,List.set_cons_succ]
 have hB9:=HBd.out.later hb9
 have f5:=frozen_of_block hB9.b 5
 have c5:w9.cell? ⟨kr,5,none⟩=some (.bool true):=cell_of_block hB9.b (j:=5) rfl
 have hk9:=Keeps.setCell (F:=fun j=>j=kr) w9 (p:=⟨kr,5,none⟩) rfl (.bool true)
 have hs9:=hB9.set (y2:= .pointer (some ⟨w3.heap.size+1,0,none⟩)) (y3:= .pointer (some ⟨w3.heap.size+2,0,none⟩)) hk9 ((heap_setCell_same _ _ 5 _ _ (.bool true) hB9.b).trans rfl) nk.1 nk.2.1 nk.2.2.1 nk.2.2.2 nkt nkn nkx
 obtain⟨u0,u2,u3,u4,u5⟩:=hs9.cells
 have far:∀(g i:Nat) (v:Value),g≠kr→w9.cell? ⟨g,i,none⟩=some v→(w9.setCell ⟨kr,5,none⟩ (.bool true)).cell? ⟨g,i,none⟩=some v:=fun g i v hg hc=>by rw [World.cell?_of_block (hk9.block g (World.block_lt_of_cell? _ _ hc) hg)];exact hc
 have gk:w3.heap.size≠kr:=by omega
 have HF5:Hid ((w9.setCell ⟨kr,5,none⟩ (.bool true)).cell? ⟨w3.heap.size,0,none⟩=some (.int .i64 n0)∧(w9.setCell ⟨kr,5,none⟩ (.bool true)).cell? ⟨w3.heap.size,1,none⟩=some (.int .i64 n1')∧(w9.setCell ⟨kr,5,none⟩ (.bool true)).cell? ⟨w3.heap.size,2,none⟩=some (.int .i64 n2')∧(w9.setCell ⟨kr,5,none⟩ (.bool true)).cell? ⟨w3.heap.size,3,none⟩=some (.int .i64 n3')∧(w9.setCell ⟨kr,5,none⟩ (.bool true)).cell? ⟨w3.heap.size,4,none⟩=some (.int .i64 n4')):=⟨far _ _ _ gk j3,far _ _ _ gk j4,far _ _ _ gk j5,far _ _ _ gk j6,far _ _ _ gk j7⟩
 have hz9:=hb9.size
 have mp:∀g,w3.heap.size<g→∀o,w8.drew.heap[g]? =some o→(w9.setCell ⟨kr,5,none⟩ (.bool true)).heap[g]? =some o:=fun g hg o ho=>(hk9.block g (Nat.lt_of_lt_of_le (Array.getElem?_eq_some_iff.1 ho).1 hz9) (by omega)).trans ((hb9.block g (Array.getElem?_eq_some_iff.1 ho).1).trans ho)
 have HP:Hid ((w9.setCell ⟨kr,5,none⟩ (.bool true)).heap[w3.heap.size+1]? =some (.cells #[.pointer (some ⟨t,0,none⟩)] 59 (0,0))∧(w9.setCell ⟨kr,5,none⟩ (.bool true)).heap[w3.heap.size+2]? =some (.cells #[.pointer (some ⟨t,0,none⟩)] 59 (0,0))):=⟨mp _ (by omega) _ HB8.out.2.2.1,mp _ (by omega) _ HB8.out.2.2.2⟩
 have HS9:=Hid.mk hs9
 clear far mp hs9 hk9 hB9 j0 j1 j2 j3 j4 j5 j6 j7
 refine wpAnyH_ready (rs:= [24]) (by kernel_rfl) (by simp) ?_
 refine AllReadyH.cons (o:={dst:=none,op:=Op.store 4 (Operand.tmp 72) (Operand.tmp 70),type:=0,pos:= "exact.go:76",after:= #[{on:=23,ground:=Ground.data},{on:=21,ground:=Ground.data},{on:=18,ground:=Ground.chain},{on:=0,ground:=Ground.phase},{on:=1,ground:=Ground.phase},{on:=2,ground:=Ground.phase},{on:=3,ground:=Ground.phase},{on:=4,ground:=Ground.phase},{on:=5,ground:=Ground.phase},{on:=6,ground:=Ground.phase},{on:=7,ground:=Ground.phase},{on:=8,ground:=Ground.phase},{on:=9,ground:=Ground.phase},{on:=10,ground:=Ground.phase},{on:=11,ground:=Ground.phase},{on:=12,ground:=Ground.phase},{on:=13,ground:=Ground.phase},{on:=14,ground:=Ground.phase},{on:=15,ground:=Ground.phase},{on:=16,ground:=Ground.phase},{on:=17,ground:=Ground.phase},{on:=18,ground:=Ground.phase},{on:=19,ground:=Ground.phase},{on:=20,ground:=Ground.phase},{on:=21,ground:=Ground.phase}],guard:=none}) rfl (fun K hK=>?_) AllReadyH.nil
 go_simp
 refine hK.out _ _ ?_ (fun hHeld=>?_)
 ·exact⟨u0,u2,u3,HF5.out.1,HF5.out.2.1,HF5.out.2.2.1,HF5.out.2.2.2.1,HF5.out.2.2.2.2⟩
 clear hK K
 try simp only [Act.put,List.setIfInBounds_toArray,List.set_cons_zero,List.set_cons_succ]
 refine wpAnyH_done (by kernel_rfl) ?_ _
 clear hHeld c5 f5 u0 u2 u3 u4 u5 i0 i2 i3 i4 i5 q0 q1 q2 q3 q4 kd hb9
 obtain⟨w10,hw10⟩:∃w10,w10=w9.setCell ⟨kr,5,none⟩ (.bool true):=⟨_,rfl⟩
 rw [←hw10] at HP HS9
 rw [←hw10]
 have hz10:w10.heap.size=w9.heap.size:=by rw [hw10];simp [World.setCell]
 clear hw10 HF5
 obtain⟨i0,i2,i3,i4,i5⟩:=HS9.out.cells
 have p1c:w10.cell? ⟨w3.heap.size+1,0,none⟩=some (.pointer (some ⟨t,0,none⟩)):=cell_of_block HP.out.1 (j:=0) rfl
 have p2c:w10.cell? ⟨w3.heap.size+2,0,none⟩=some (.pointer (some ⟨t,0,none⟩)):=cell_of_block HP.out.2 (j:=0) rfl
 have f5:=frozen_of_block HS9.out.b 5
 have hk10:=Keeps.setCell (F:=fun j=>j=kr) w10 (p:=⟨kr,5,none⟩) rfl (.bool true)
 have hs10:=HS9.out.set (y2:= .pointer (some ⟨w3.heap.size+1,0,none⟩)) (y3:= .pointer (some ⟨w3.heap.size+2,0,none⟩)) hk10 ((heap_setCell_same _ _ 5 _ _ (.bool true) HS9.out.b).trans rfl) nk.1 nk.2.1 nk.2.2.1 nk.2.2.2 nkt nkn nkx
 have ha1:=(hk10.block _ (lt_there HP.out.1) (by omega)).trans HP.out.1
 have ha2:=(hk10.block _ (lt_there HP.out.2) (by omega)).trans HP.out.2
 obtain⟨w11,hw11⟩:∃w11,w11=w10.setCell ⟨kr,5,none⟩ (.bool true):=⟨_,rfl⟩
 rw [←hw11] at hs10 ha1 ha2
 have hz11:w11.heap.size=w10.heap.size:=by rw [hw11];simp [World.setCell]
 obtain⟨g1,c1,g2,c2,g3,c3,g4,c4,v5,v6,v7,hmat⟩:=hs10.mm
 have hXw:∀j,X j→j<w11.heap.size:=fun j hj=>by have:=hX j hj;omega
 have kb:=begin6_any hmat hXw hn
 have hxk:=hmat.xk
 have HS11:=Hid.mk hs10
 have HA11:=Hid.mk (And.intro ha1 ha2)
 clear hs10 ha1 ha2 hk10 hmat
 go_wp2_with fail
 rw [←hw11]
 clear hw11
 refine kb.mono ?_
 rintro e w12 ⟨rfl,g3',c3',g4',c4',v6',hm12,hk12⟩
 have hz12:=hk12.size
 have hB:=HS11.out
 have nx:=HXa.out
 obtain⟨y1,y2,y3,y4,y5⟩:=nx k hxk
 have hkl:=hX k hxk
 have hXm:∀j,more X w11 w12 j→X j∨w.heap.size≤j:=fun j hj=>hj.imp (fun h=>h) (fun h=>by omega)
 have d12:DiskAt w12 F p s (S.rds r):=hB.d.keep hk12 (fun j hj e=>y1 (e▸hj))
 have st12:StP w12 q p l m G.y true:=hB.st.keep hk12 (fun e=>y2 e.symm)
 have b12:=(hk12.block _ (lt_there hB.b) (fun e=>y5 e.symm)).trans hB.b
 have tx12:=(hk12.block _ (lt_there hB.tx) (fun e=>by omega)).trans hB.tx
 have cn12:=hB.cn.keep hk12 (fun e=>by omega)
 have a12:=(hk12.block _ (lt_there HA11.out.1) (by omega)).trans HA11.out.1
 have a22:=(hk12.block _ (lt_there HA11.out.2) (by omega)).trans HA11.out.2
 have hs:=HSt.out
 have hstW:StW w12 F p s cR q l m S {G with busy:=true}:=⟨⟨r,d12,HRb.out⟩,st12,hB.lp.keep hk12 (fun e=>y3 e.symm),hB.ch.keep hk12 (fun e=>y4 e.symm),hs.nq,hs.nl,hs.nm,hs.ql,hs.qm,hs.lm,hs.lk,hs.bg,hs.hs,hs.kb⟩
 have htW:TxW w12 F q l m t n {G with busy:=true} ⟨[],0,false⟩:=⟨tx12,cn12,fun hx=>by have:=hlt _ hx;omega,fun hx=>by have:=hlt _ hx;omega,by omega,by omega,by omega,htn,by omega,by omega,by omega,fun x hx=>by cases hx⟩
 have no:∀g,w3.heap.size≤g→g≠t→g≠n→¬OwT F t n g:=fun g hg h1 h2 hx=>by
  rcases hx with hx|hx|hx
  ·have:=hlt _ hx;omega
  ·exact h1 hx
  ·exact h2 hx
 have HE:Hid (∃t n a1 a2 X',RgW w12 F X' kr p s cR q l m t n a1 a2 k S {G with busy:=true} ⟨[],0,false⟩ M.begun∧(∀j,X' j→X j∨w.heap.size≤j)∧Keeps (fun j=>j=kr∨j=q∨j=k) w w12∧w.heap.size≤t∧w.heap.size≤n∧w.heap.size≤a1∧w.heap.size≤a2):=by
  refine⟨t,n,w3.heap.size+1,w3.heap.size+2,more X w11 w12,⟨b12,⟨hstW,htW,hby,hpu,hyk⟩,⟨a12,no _ (by omega) (by omega) (by omega)⟩,⟨a22,no _ (by omega) (by omega) (by omega)⟩,⟨g1,c1,g2,c2,g3',c3',g4',c4',v5,v6',_,hm12⟩,fun j hj=>?_,⟨nk.1,nk.2.1,nk.2.2.1,nk.2.2.2,nkt,nkn⟩,fun j hj=>?_⟩,hXm,(hB.kp.mono (fun j e=>e.imp (fun h=>h) (fun h=> .inl h))).trans hk12 (fun j e=> .inl (.inr (.inr e))),ht1,hn1,by omega,by omega⟩
  ·rcases hj with hj|hj
   ·have:=hX j hj;omega
   ·exact hj.2
  ·rcases hj with hj|hj
   ·obtain⟨z1,z2,z3,z4,z5⟩:=nx j hj
    have:=hX j hj
    exact⟨z1,z2,z3,z4,by omega,by omega,z5,by omega,by omega⟩
   ·exact⟨fun hf=>by have:=hlt _ hf;omega,by omega,by omega,by omega,by omega,by omega,by omega,by omega,by omega⟩
 clear hB nx d12 st12 b12 tx12 cn12 a12 a22 hs hstW htW no hXm hm12 hk12 kb i0 i2 i3 i4 i5 p1c p2c f5
 go_wp2
 go_end0
 exact⟨rfl,HE.out⟩
end Go.Proofs.YtkiehemoiapkkaaGreat
end
section
namespace Go.Proofs.YtkiehemoiapkkaaGreat
open Go.RowKit Go.Maps
theorem sup_lay {a b c:Nat} (hg:Geo a b c):lyOf (supOf a b c)=⟨b,3+b,a-(3+b),c,2+c / 4⟩:=by
 obtain⟨_,h1,h2,h3⟩:=sup_read hg
 have hhead:headL.length=8:=rfl
 obtain⟨⟨g1,g2⟩,⟨g3,g4⟩,g5,g6,g7⟩:=hg
 have hp:∀q m,q+m≤508→part (sealed (supBody a b c)) q m=part (supBody a b c) q m:=fun q m h=>part_appl _ _ _ _ (by rw [supBody_len];exact h)
 have q16:u32 (sealed (supBody a b c)) 16=c:=by
  unfold u32
  rw [hp 16 4 (by omega)]
  unfold supBody
  rw [part_appl _ _ _ _ (by simp only [List.length_append,leb_len,hhead];omega),part_app _ _ _ _ (by simp only [List.length_append,leb_len,hhead]),lebTake,le_leb _ _ (by omega)]
 unfold lyOf at h1 h2 h3⊢
 dsimp only at h1 h2 h3
 have q16':u32 (supOf a b c) 16=c:=q16
 rw [q16',h3,h1]
theorem fresh_nowG {s j:Nat} (hj:j<s):(DS.fresh (List.replicate (s*512) 0)).now j=zs 512:=by
 show dsec (List.replicate (s*512) 0) j=zs 512
 unfold dsec zs
 rw [List.drop_replicate,List.take_replicate]
 congr 1
 have:(j+1)*512≤s*512:=Nat.mul_le_mul_right _ hj
 omega
structure MadeG (S:DS) (g:GEO):Prop where
 c:(sformat S g.s g.s g.l g.n).1=0
 f:(sformat S g.s g.s g.l g.n).2.fuse= -1
 i:V.Inv (sformat S g.s g.s g.l g.n).2 g.s [] 3
 u:SupAt ((sformat S g.s g.s g.l g.n).2.now 0) g.s
 y:lyOf ((sformat S g.s g.s g.l g.n).2.now 0)=⟨g.l,3+g.l,g.s-(3+g.l),g.n,2+g.n / 4⟩
 n:oNew (sformat S g.s g.s g.l g.n).2 1=(1,0,0)
 z:∀j,3≤j→j<g.s→(sformat S g.s g.s g.l g.n).2.now j=zs 512
theorem made_geo {S:DS} {g:GEO} (hg:Geo g.s g.l g.n) (hok:S.Ok g.s) (hby:S.Byt) (hp:S.puts.length=0) (hf:S.fuse= -1) (hl:S.life=1) (hz:∀j,j<g.s→S.now j=zs 512):MadeG S g:=by
 obtain⟨a1,a2,a3,a4,a5,a6,a7⟩:=sformat_calm (a:=g.s) (b:=g.l) (c:=g.n) hok hby hf (by omega) (by omega) hg hz
 obtain⟨b1,b2,b3,b4⟩:=sup_read hg
 have hi:V.Inv S g.s [] 1:=V.Inv.zero hok hby hp (by omega) (by omega)
 exact⟨a1,a2,hi.sfmt (by omega) g.s g.l g.n,by rw [a5];exact b1,by rw [a5];exact sup_lay hg,a6,a7⟩
structure FreshG (g:GEO) (S:DS) (L:LG):Prop where
 f:S.fuse= -1
 z:∀j,3≤j→j<g.s→S.now j=zs 512
 life:L.life=S.life
 inv:V.Inv S g.s [L] 4
 dead:L.dead S=false
abbrev lyG (g:GEO):LY:=⟨g.l,3+g.l,g.s-(3+g.l),g.n,2+g.n / 4⟩
theorem lyG_ok {g:GEO} (h1:g.s≤2048) (h2:g.n≤1024) (h3:3+g.l+2+g.n / 4+1≤g.s):YOk (lyG g):=
   ⟨by show 2≤g.s-(3+g.l);omega,by show g.s-(3+g.l)≤2048;omega,by show 2+g.n / 4≤g.s-(3+g.l);omega,by show g.n≤4096;omega⟩
abbrev MP.new (g:GEO):MP:=⟨g.s-3-g.l,g.n,List.replicate 4096 false,List.replicate 4096 false,List.replicate 4096 false,List.replicate 4096 false,List.replicate (g.s-3-g.l) (zs 512), [], [],0,false,false⟩
def RigO (w w':World) (g:GEO) (e:Ending):Prop:=∃F X kr p cR q l m t n a1 a2 k S L,e= .returned (.pointer (some ⟨kr,0,none⟩))∧w.heap.size≤kr∧RgW w' F X kr p g.s cR q l m t n a1 a2 k S ⟨lyG g,L, [],true⟩ ⟨[],0,false⟩ (MP.new g).begun∧FreshG g S L∧(∀j,F j→w.heap.size≤j)∧(∀j,X j→w.heap.size≤j)∧w.heap.size≤q∧w.heap.size≤l∧w.heap.size≤m∧w.heap.size≤t∧w.heap.size≤n∧w.heap.size≤a1∧w.heap.size≤a2∧Below w.heap.size w w'
theorem rigFacts {g:GEO} (h1:g.s≤2048) (h2:g.l≤256) (h4:3+g.l+2+g.n / 4+1≤g.s):∃x1 x2:Nat,x2=g.s-3-g.l∧wrap64 ((g.s:Int)-3)=(x1:Int)∧wrap64 ((x1:Int)-(g.l:Int))=(x2:Int)∧x2≤2048:=
   ⟨g.s-3,g.s-3-g.l,rfl,(wrapS (by omega) (by omega)).trans (by omega),(wrapS (by omega) (by omega)).trans (by omega),by omega⟩
set_option maxRecDepth 20000 in
set_option maxHeartbeats 8000000 in
theorem rig_any (g:GEO) (hg:Geo g.s g.l g.n) (w:World):Calls Tryz.prog 9 #[supV g] w fun e w'=>RigO w w' g e:=by
 have hG:=hg
 obtain⟨⟨g1,g2⟩,⟨g3,g4⟩,g5,g6,g7⟩:=hg
 have h1:g.s≤2048:=by omega
 have h2:g.l≤256:=by omega
 have h3:g.n≤1024:=by omega
 have h4:3+g.l+2+g.n / 4+1≤g.s:=by omega
 obtain⟨x1,x2,hx2,f1,f2,hx2b⟩:=rigFacts h1 h2 h4
 have hb0:=below_box w (.cells #[.int .i64 (g.s:Int), .int .i64 (g.l:Int), .int .i64 (g.n:Int)] 31)
 have hbx:=heap_alloc_new w (.cells #[.int .i64 (g.s:Int), .int .i64 (g.l:Int), .int .i64 (g.n:Int)] 31)
 have hz0:(w.alloc (.cells #[.int .i64 (g.s:Int), .int .i64 (g.l:Int), .int .i64 (g.n:Int)] 31)).heap.size=w.heap.size+1:=by rw [World.size_alloc]
 have k1:=new6_any (w.alloc (.cells #[.int .i64 (g.s:Int), .int .i64 (g.l:Int), .int .i64 (g.n:Int)] 31)) x2 g.n hx2b (by omega)
 have ex2:((x2:Nat):Int)=(g.s:Int)-3-(g.l:Int):=by omega
 rw [ex2] at k1
 have HX2:=Hid.mk hx2
 have HB0:=Hid.mk hb0
 have HBX:=Hid.mk hbx
 clear f1 f2 ex2 hx2 hb0 hbx g1 g2 g3 g4 g5 g6 g7
 go_enter Tryz.func9,Tryz.ntmps9
 go_wp2_with fail
 refine k1.mono ?_
 rintro e w1 ⟨k,q1,c1,q2,c2,q3,c3,q4,c4,v5,rfl,hmat,hb1⟩
 have hz1:=hb1.size
 rw [hz0] at hz1
 have hbx1:=(hb1.block _ (lt_there HBX.out)).trans HBX.out
 have hbr:=below_box w1 (.cells #[.pointer none, .pointer none, .pointer none, .pointer none, .pointer (some ⟨k,0,none⟩), .bool false] 38)
 have hrg:=heap_alloc_new w1 (.cells #[.pointer none, .pointer none, .pointer none, .pointer none, .pointer (some ⟨k,0,none⟩), .bool false] 38)
 have hzr:(w1.alloc (.cells #[.pointer none, .pointer none, .pointer none, .pointer none, .pointer (some ⟨k,0,none⟩), .bool false] 38)).heap.size=w1.heap.size+1:=by rw [World.size_alloc]
 have k2:=new_ok g.s (w1.alloc (.cells #[.pointer none, .pointer none, .pointer none, .pointer none, .pointer (some ⟨k,0,none⟩), .bool false] 38)) (by omega) h1
 have HM:Hid (MX w1 (fun j=>w.heap.size+1≤j∧j<w1.heap.size) k ⟨x2,g.n,List.replicate 4096 false,List.replicate 4096 false,List.replicate 4096 false,List.replicate 4096 false,List.replicate x2 (zs 512), [], [],0,false,false⟩):=by rw [hz0] at hmat;exact⟨_,_,_,_,_,_,_,_,_,_,_,hmat⟩
 have HB1:Hid (Below w.heap.size w w1):=HB0.out.trans (hb1.mono (by omega))
 have HBR:=Hid.mk (And.intro hbr (And.intro hrg hbx1))
 have hbxr:=(hbr.block _ (lt_there hbx1)).trans hbx1
 have s0:(w1.alloc (.cells #[.pointer none, .pointer none, .pointer none, .pointer none, .pointer (some ⟨k,0,none⟩), .bool false] 38)).cell? ⟨w.heap.size,0,none⟩=some (.int .i64 (g.s:Int)):=cell_of_block hbxr (j:=0) rfl
 have HBXR:=Hid.mk hbxr
 clear k1 hb1 hbr hrg hbx1 hmat HB0 HBX hbxr
 go_wp2_with fail
 refine k2.mono ?_
 rintro e w2 ⟨p,rfl,hd2,hb2⟩
 rw [hzr] at hd2 hb2
 have hz2:=hb2.size
 rw [hzr] at hz2
 have hbx2:=(hb2.block _ (by rw [←hzr];exact lt_there HBXR.out)).trans HBXR.out
 have hrg2:=(hb2.block _ (by omega)).trans HBR.out.2.1
 have hm2:=(HM.out.apart (Keeps.of_below (fun _=>False) HBR.out.1) (fun _ h=>h.elim)).apart (Keeps.of_below (fun _=>False) (show Below (w1.alloc (.cells #[.pointer none, .pointer none, .pointer none, .pointer none, .pointer (some ⟨k,0,none⟩), .bool false] 38)).heap.size _ w2 by rw [hzr];exact hb2)) (fun _ h=>h.elim)
 have hB2:Below w.heap.size w w2:=HB1.out.trans ((HBR.out.1.mono (by omega)).trans (hb2.mono (by omega)))
 have e0:w2.cell? ⟨w.heap.size,0,none⟩=some (.int .i64 (g.s:Int)):=cell_of_block hbx2 (j:=0) rfl
 have e1:w2.cell? ⟨w.heap.size,1,none⟩=some (.int .i64 (g.l:Int)):=cell_of_block hbx2 (j:=1) rfl
 have e2:w2.cell? ⟨w.heap.size,2,none⟩=some (.int .i64 (g.n:Int)):=cell_of_block hbx2 (j:=2) rfl
 have hmd:MadeG (DS.fresh (List.replicate (g.s*512) 0)) g:=made_geo hG hd2.ok ⟨Bytes.zeros _,fun q hq=>by cases hq⟩ rfl rfl rfl (fun j hj=>fresh_nowG hj)
 have hby:(DS.fresh (List.replicate (g.s*512) 0)).Byt:=⟨Bytes.zeros _,fun q hq=>by cases hq⟩
 have hpu:(DS.fresh (List.replicate (g.s*512) 0)).puts.length=0:=rfl
 have hd2':B.DiskR w2 (fun j=>w1.heap.size+1≤j∧j<w2.heap.size) p g.s (DS.fresh (List.replicate (g.s*512) 0)) 0:=⟨0,hd2,fun _=>⟨Int.le_refl _,Int.le_refl _⟩⟩
 generalize DS.fresh (List.replicate (g.s*512) 0)=S0 at*
 have k3:=sformat_any hd2' hby (g.s:Int) (g.l:Int) (g.n:Int) (by omega)
 rw [hmd.c] at k3
 have HMd:=Hid.mk hmd
 have HH:=Hid.mk (And.intro hm2 (And.intro hB2 (And.intro hrg2 hbx2)))
 have kn:=num6_any 0 w2
 clear k2 hd2 hd2' hb2 hbx2 hrg2 hm2 hB2 hmd hby hpu HM HB1 HBR HBXR s0
 go_wp2_with fail
 refine kn.mono ?_
 rintro e w9 ⟨rfl,hw9⟩
 have hw9':=hw9.symm
 subst hw9'
 clear kn hw9
 go_wp2_with fail
 refine k3.mono ?_
 rintro e w3 ⟨rfl,hd3,hk3⟩
 have hz3:=hk3.size
 obtain⟨m1,m2,m3,m4,m5,m6,m7⟩:=HMd.out
 generalize (sformat S0 g.s g.s g.l g.n).2=S1 at*
 have k4:=stOpen_any hd3 m3.byt (by have:=m3.p6;omega)
 have kn:=num6_any 0 w3
 have HM3:=Hid.mk (And.intro m2 (And.intro m3 (And.intro m4 (And.intro m5 (And.intro m6 m7)))))
 have hF3:∀j,more (fun j=>w1.heap.size+1≤j∧j<w2.heap.size) w2 w3 j→w1.heap.size+1≤j∧j<w3.heap.size:=fun j hj=>by rcases hj with hj|hj <;> omega
 have HF3:=Hid.mk hF3
 have HK3:=Hid.mk hk3
 have HD3:=Hid.mk hd3.lt
 clear k3 hd3 hk3 m1 m2 m3 m4 m5 m6 m7 e0 e1 e2 HMd hF3
 go_wp2_with fail
 refine kn.mono ?_
 rintro e w9 ⟨rfl,hw9⟩
 have hw9':=hw9.symm
 subst hw9'
 clear kn hw9
 go_wp2_with fail
 refine k4.mono ?_
 rintro e w4 ⟨x,S2,cR,_,hso,hk4,hcase⟩
 obtain⟨n1,n2,n3⟩:=sopen_calm HM3.out.2.1.ok HM3.out.2.1.byt HM3.out.1 HM3.out.2.2.1 HM3.out.2.2.2.2.1 (fun j hj=>HM3.out.2.2.2.2.2 (1+2+j) (by omega) (by rw [HM3.out.2.2.2.1] at hj;have hj':j<g.l:=hj;omega)) hso
 rcases hcase with ⟨hx,_⟩|⟨_,q,l,m,L,F',hsl,rfl,hF',hq,hl,hm',hst⟩
 ·exact absurd n1 hx
 ·have hlf:L.life=S2.life:=by
   rw [hsl.life]
   rcases hso.life with ⟨_,h9⟩|h9
   ·exact absurd n1 h9
   ·exact h9.symm
  have hdead:L.dead S2=false:=by
   unfold LG.dead
   rw [hlf,n2]
   simp
  have hinv:V.Inv S2 g.s [L] 4:=(HM3.out.2.1.sopen (by omega) hso).2 n1 L hsl
  have hz4:=hk4.size
  rw [HM3.out.2.2.2.1] at hst
  have hFr:FreshG g S2 L:=⟨n2,fun j h1 h2=>(n3 j h1 h2).trans (HM3.out.2.2.2.2.2 j h1 h2),hlf,hinv,hdead⟩
  have ge4:∀j,F' j→w1.heap.size+1≤j:=fun j hj=>by
   rcases hF' j hj with h9|h9
   ·exact(HF3.out j h9).1
   ·omega
  have hrg3:=(HK3.out.block _ (lt_there HH.out.2.2.1) (fun e=>by omega)).trans HH.out.2.2.1
  have hrg4:=(hk4.block _ (lt_there hrg3) (fun e=>by have:=(HF3.out _ e).1;omega)).trans hrg3
  have hm4:=(HH.out.1.apart HK3.out (fun j e hx=>by omega)).apart hk4 (fun j e hx=>by have:=(HF3.out _ e).1;omega)
  have hB4:Below w.heap.size w w4:=(HH.out.2.1.trans (HK3.out.below (fun j e=>by omega) (by omega))).trans (hk4.below (fun j e=>by have:=(HF3.out j e).1;omega) (by omega))
  have kn:=num6_any 0 w4
  have v0:w4.cell? ⟨w1.heap.size,0,none⟩=some (.pointer none):=cell_of_block hrg4 (j:=0) rfl
  have v1:w4.cell? ⟨w1.heap.size,1,none⟩=some (.pointer none):=cell_of_block hrg4 (j:=1) rfl
  have v5:w4.cell? ⟨w1.heap.size,5,none⟩=some (.bool false):=cell_of_block hrg4 (j:=5) rfl
  have fz0:=frozen_of_block hrg4 0
  have fz1:=frozen_of_block hrg4 1
  have fz5:=frozen_of_block hrg4 5
  obtain⟨w5,hw5⟩:∃w5,w5=((w4.setCell ⟨w1.heap.size,0,none⟩ (.pointer (some ⟨p,0,none⟩))).setCell ⟨w1.heap.size,1,none⟩ (.pointer (some ⟨q,0,none⟩))).setCell ⟨w1.heap.size,5,none⟩ (.bool true):=⟨_,rfl⟩
  have hk5:Keeps (fun j=>j=w1.heap.size) w4 w5:=by rw [hw5];exact((Keeps.setCell (F:=fun j=>j=w1.heap.size) w4 (p:=⟨w1.heap.size,0,none⟩) rfl _).trans (Keeps.setCell (F:=fun j=>j=w1.heap.size) _ (p:=⟨w1.heap.size,1,none⟩) rfl _) (fun _ h=> .inl h)).trans (Keeps.setCell (F:=fun j=>j=w1.heap.size) _ (p:=⟨w1.heap.size,5,none⟩) rfl _) (fun _ h=> .inl h)
  have hrg5:w5.heap[w1.heap.size]? =some (.cells (rigC p q (.pointer none) (.pointer none) k true) 38 (0,0)):=by
   rw [hw5]
   have m1:=(heap_setCell_same w4 w1.heap.size 0 _ _ (.pointer (some ⟨p,0,none⟩)) hrg4).trans (by rfl:_=some (Obj.cells #[.pointer (some ⟨p,0,none⟩), .pointer none, .pointer none, .pointer none, .pointer (some ⟨k,0,none⟩), .bool false] 38 (0,0)))
   have m2:=(heap_setCell_same _ w1.heap.size 1 _ _ (.pointer (some ⟨q,0,none⟩)) m1).trans (by rfl:_=some (Obj.cells #[.pointer (some ⟨p,0,none⟩), .pointer (some ⟨q,0,none⟩), .pointer none, .pointer none, .pointer (some ⟨k,0,none⟩), .bool false] 38 (0,0)))
   exact(heap_setCell_same _ w1.heap.size 5 _ _ (.bool true) m2).trans rfl
  have nF:¬F' w1.heap.size:=fun e=>by have:=ge4 _ e;omega
  have hst5:StW w5 F' p g.s cR q l m S2 ⟨lyG g,L, [],false⟩:=⟨hst.d.keep hk5 (fun j hj e=>nF (e▸hj)),hst.st.keep hk5 (fun e=>by omega),hst.lp.keep hk5 (fun e=>by omega),hst.ch.keep hk5 (fun e=>by omega),hst.nq,hst.nl,hst.nm,hst.ql,hst.qm,hst.lm,hst.lk,hst.bg,hst.hs,hst.kb⟩
  have hm5:=hm4.apart hk5 (fun j e hx=>by omega)
  have hkX:w.heap.size+1≤k:=by obtain⟨_,_,_,_,_,_,_,_,_,_,_,h9⟩:=hm5;exact h9.xk.1
  have hz5:=hk5.size
  have hB5:=hB4.trans (hk5.below (fun j e=>by omega) (by omega))
  have kb:=rbegin_any hrg5 hst5 rfl hdead hinv.byt hinv.p6 (lyG_ok h1 h3 h4) hm5 (fun j hj=>by omega) (by rw [List.length_replicate];omega) ⟨nF,by omega,by omega,by omega⟩ (fun j hj=>⟨fun e=>by have:=ge4 _ e;omega,by omega,by omega,by omega,by omega⟩)
  have HB5:=Hid.mk hB5
  have HG4:=Hid.mk ge4
  have HFr:=Hid.mk hFr
  clear k4 hst hso hk4 hF' hsl n1 n2 n3 hlf hdead hinv hrg3 hrg4 hm4 hB4 hk5 hrg5 hst5 hm5 hB5 ge4 hFr HH HM3 HF3 HK3 HD3 nF
  go_wp2_with fail
  refine kn.mono ?_
  rintro e w9 ⟨rfl,hw9⟩
  have hw9':=hw9.symm
  subst hw9'
  clear kn hw9
  go_wp2_with fail
  rw [←hw5]
  clear hw5
  refine kb.mono ?_
  rintro e w6 ⟨rfl,t,n,a1,a2,X',hrg,hX',hk6,ht6,hn6,ha6,hb6⟩
  have hz6:=hk6.size
  have HE:Hid (RigO w w6 g (.returned (.pointer (some ⟨w1.heap.size,0,none⟩)))):=by
   rw [HX2.out] at hrg
   refine⟨F',X',w1.heap.size,p,cR,q,l,m,t,n,a1,a2,k,S2,L,rfl,by omega,hrg,HFr.out,fun j hj=>by have:=HG4.out j hj;omega,fun j hj=>by rcases hX' j hj with h9|h9 <;> omega,by omega,by omega,by omega,by omega,by omega,by omega,by omega,HB5.out.trans (hk6.below (fun j e=>?_) (by omega))⟩
   rcases e with e|e|e
   ·omega
   ·omega
   ·omega
  clear kb hrg hX' hk6
  go_wp2
  go_ret
  exact HE.out
end Go.Proofs.YtkiehemoiapkkaaGreat
end
