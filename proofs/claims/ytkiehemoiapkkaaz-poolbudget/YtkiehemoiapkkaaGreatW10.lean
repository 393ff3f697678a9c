import Derived.Test.YtkiehemoiapkkaaGreatW04
import Derived.Test.YtkiehemoiapkkaaGreatW07
import Derived.Test.YtkiehemoiapkkaaGreatW09
import Derived.Scope
import Derived.WalkMore
section
namespace Go.Proofs.YtkiehemoiapkkaaGreat
open Go.RowKit Go.Shelf
attribute [local go_sem] Oper.semAt_some
theorem ring_some {w:World} {B g n:Nat} {R:Nat→PC} (h:RingTo w B g n n R):∃(A:Nat→Option Addr) (C:Nat→Nat),∀i,i<n→w.rangeAt g (i*5) (pieceC ((R i).e:Int) ((R i).p:Int) ((R i).i:Int) ((R i).c:Int) (A i) (R i).d.length (C i)).toList∧Src w (A i) (R i).d.length (R i).d:=by
 have hx:=fun i (hi:i<n)=>(h.2 i hi).range
 refine⟨fun i=>if hi:i<n then Classical.choose (hx i hi) else none,fun i=>if hi:i<n then Classical.choose (Classical.choose_spec (hx i hi)) else 0,fun i hi=>?_⟩
 simp only [hi,dite_true]
 have:=Classical.choose_spec (Classical.choose_spec (hx i hi))
 exact⟨this.1,this.2.1⟩
theorem six_alloc (w:World) (o1 o2 o3 o4 o5 o6:Obj):((((((w.alloc o1).alloc o2).alloc o3).alloc o4).alloc o5).alloc o6).heap[w.heap.size]? =some o1∧((((((w.alloc o1).alloc o2).alloc o3).alloc o4).alloc o5).alloc o6).heap[w.heap.size+1]? =some o2∧((((((w.alloc o1).alloc o2).alloc o3).alloc o4).alloc o5).alloc o6).heap[w.heap.size+2]? =some o3∧
    ((((((w.alloc o1).alloc o2).alloc o3).alloc o4).alloc o5).alloc o6).heap[w.heap.size+3]? =some o4∧((((((w.alloc o1).alloc o2).alloc o3).alloc o4).alloc o5).alloc o6).heap[w.heap.size+1+1+1+1]? =some o5∧((((((w.alloc o1).alloc o2).alloc o3).alloc o4).alloc o5).alloc o6).heap[w.heap.size+1+1+1+1+1]? =some o6:=by
 have e:((((((w.alloc o1).alloc o2).alloc o3).alloc o4).alloc o5).alloc o6).heap=(((((w.heap.push o1).push o2).push o3).push o4).push o5).push o6:=rfl
 rw [e]
 refine⟨?_,?_,?_,?_,?_,?_⟩
 ·rw [Array.getElem?_push,if_neg (by simp;omega),Array.getElem?_push,if_neg (by simp;omega),Array.getElem?_push,if_neg (by simp;omega),Array.getElem?_push,if_neg (by simp;omega),Array.getElem?_push,if_neg (by simp),Array.getElem?_push,if_pos rfl]
 ·rw [Array.getElem?_push,if_neg (by simp),Array.getElem?_push,if_neg (by simp),Array.getElem?_push,if_neg (by simp),Array.getElem?_push,if_neg (by simp),Array.getElem?_push,if_pos (by simp)]
 ·rw [Array.getElem?_push,if_neg (by simp),Array.getElem?_push,if_neg (by simp),Array.getElem?_push,if_neg (by simp),Array.getElem?_push,if_pos (by simp)]
 ·rw [Array.getElem?_push,if_neg (by simp),Array.getElem?_push,if_neg (by simp),Array.getElem?_push,if_pos (by simp)]
 ·rw [Array.getElem?_push,if_neg (by simp),Array.getElem?_push,if_pos (by simp)]
 ·rw [Array.getElem?_push,if_pos (by simp)]
theorem InO.split {n:Nat} {xs:List (Fin n)} {x:Fin n} {k:Nat} (h:InO (xs ++ [x]) (k+1)):xs.map Fin.val=List.range k∧x.1=k:=by
 unfold InO at h
 rw [List.map_append,List.range_succ] at h
 obtain⟨h1,h2⟩:=List.append_inj' h rfl
 exact⟨h1,by simpa using h2⟩
def ScanOut (w w':World) (R:Nat→PC) (E T n:Nat) (e:Ending):Prop:=∃v h rs,e= .returned (.tuple #[v, .int .i64 ((h:Nat):Int)])∧RecsAt w' w.heap.size v rs (fun _=>False)∧Tells (Rp R n) E T rs h∧(∀c d,¬Rec (Rp R n) E h c d)∧Below w.heap.size w w'
theorem scan_end {w W:World} {B D E T n hd:Nat} {R:Nat→PC} {rs:List (List Int)} {v:Value} {X:Nat→Prop} {ds:List Deferred} (h:RecsAt W B v rs X) (hB:w.heap.size≤B) (hb:Below w.heap.size w W) (hD:W.heap[D]? =some (.deferred (some ds))) (hl:w.heap.size≤D) (ht:Tells (Rp R n) E T rs hd∧∀c d,¬Rec (Rp R n) E hd c d):
  ScanOut w (W.drew.putObj D (.deferred none)) R E T n (.returned (.tuple #[v, .int .i64 ((hd:Nat):Int)])):=by
 have hc:CellsIn W (W.drew.putObj D (.deferred none)):=fun b cur t fz hb=>by
  have hne:b≠D:=fun e=>by rw [e,hD] at hb;cases hb
  exact(World.putObj_heap_other hne).trans hb
 refine⟨v,hd,rs,rfl,(h.cells hc).low hB (fun _ h=>h.elim),ht.1,ht.2,?_⟩
 exact(below_drew hb).trans (belowK_b (w:=w) (Nat.le_refl _) W.drew D (.deferred (some ds)) (.deferred none) hl hD rfl rfl)
theorem app_bytes {W:World} {B:Nat} {v:Value} {rc:List Int} (hown:Own W B v rc) {a:Option Addr} {n:Nat} (c:Nat) {d:List Int} (hs:Src W a n d) (hd:0<n) (hlen:rc.length+n≤1000000) (hB:B≤W.heap.size):
  ∃g cap w',(Builtin.append_ #[44,44] 44 #[v, .slice a n c]).run Tryz.prog W= .ok (.slice (some ⟨g,0,none⟩) (rc.length+d.length) cap) w'∧w'.ownsRow B 5 1 (.slice (some ⟨g,0,none⟩) (rc.length+d.length) cap) (rc.length+d.length) (bs rc ++ bs d)∧W.grownBy w' v.ownBlock∧(v.ownBlock=some g∨g=W.heap.size):=by
 obtain⟨i0,hi,hz0,hz1,hz2⟩:=info_parts infoU8
 obtain⟨b,o,rfl⟩:=src_spot hs hd
 have hl:=hs.1
 obtain⟨g,cap,w',h1,h2,h3,h4,_⟩:=run_append_lies (P:=Tryz.prog) W 44 44 B 5 i0 (.int .u8 0) 1 1 Tryz.underlying44 hi hz0 hz1 hz2 rfl (by decide) v rc.length (bs rc) hown ⟨b,o,none⟩ n c (bs d) (by simp [bs,hl]) (fun j u hj=>by
   obtain⟨hj1,rfl⟩:=bs_getElem hj
   exact hs.2.2 _ rfl j (by omega)) (bs_one d) hd (by unfold maxLen;omega) (by omega) hB W.heap.size rfl
 rw [hl]
 exact⟨g,cap,w',h1,h2,h3,h4⟩
theorem app_rec {W:World} {B k:Nat} {v:Value} {vs:List Value} (hrow:W.ownsRow B 44 1 v k vs) (x:Value) (hx:x.oneCell'=true) (hk:k≤1000000) (hB:B≤W.heap.size):
  ∃g cap w',(Builtin.append_ #[70,70] 70 #[v, .slice (some ⟨W.heap.size,0,none⟩) 1 1]).run Tryz.prog (W.alloc (.cells #[x] 44))= .ok (.slice (some ⟨g,0,none⟩) (k+1) cap) w'∧w'.ownsRow B 44 1 (.slice (some ⟨g,0,none⟩) (k+1) cap) (k+1) (vs ++ [x])∧(W.alloc (.cells #[x] 44)).grownBy w' v.ownBlock:=by
 obtain⟨i0,hi,hz0,hz1,hz2⟩:=info_parts infoRow
 obtain⟨g,cap,w',h1,h2,h3,_,_⟩:=run_append_lies (P:=Tryz.prog) (W.alloc (.cells #[x] 44)) 70 70 B 44 i0 (.slice none 0 0) 1 24 Tryz.underlying70 hi hz0 hz1 hz2 rfl (by decide) v k vs (owns_agree hrow (fun g hg=>by
   obtain⟨cur,hc⟩:=owns_block hrow hg
   exact Below.heap_alloc _ _ _ (lt_there hc))) ⟨W.heap.size,0,none⟩ 1 1 [x] rfl (World.news_of_block (cs:= #[x]) (t:=44) (fr:=(0,0)) (heap_alloc_new W _)) (by simpa using hx) (by omega) (by unfold maxLen;omega) (by omega) (by simp;omega) _ rfl
 exact⟨g,cap,w',h1,h2,h3⟩
def IsOut (R:Nat→PC) (E T n x:Nat) (st:SS) (y Bx:Nat) (a:Option Addr) (k:Nat) (vR vr:Value) (w W:World) (e:Ending) (W2:World):Prop:=
 ∃(b:Bool) (c:Nat),e= .returned (.bool b)∧b=st.goes R E T n x∧c=st.due R T n x∧Boxes W2 w.heap.size (w.heap.size+6) E {st with ps:=T+x,j:=st.j,c:=c} vR vr∧RoundK w.heap.size w W W2∧W2.heap[Bx]? =some (.cells (pieceC ((R y).e:Int) ((R y).p:Int) ((R y).i:Int) ((R y).c:Int) a (R y).d.length k) 207 (0,0))
theorem wpIn_calm {F:Fence} {n:Nat} {P:Program} {c:Code} {K:Act→World→Prop} {Q:Exit→Act→World→Prop} {a:Act} {w:World} (h:c.wpIn F n P (Exit.then K (fun _ _ _=>False)) a w):c.wpIn F n P (Exit.then K Q) a w:=
 wpIn_mono h (fun e a w h=>by cases e <;> first|exact h|exact h.elim)
theorem below_more {w W W':World} {row:Option Nat} (h:Below w.heap.size w W) (hg:W.grownBy W' row) (hr:∀r,row=some r→w.heap.size≤r):Below w.heap.size w W':=h.grown hg h.size (fun k e=>hr k e)
theorem grown_other {W W':World} {row:Option Nat} {t t':TypeId} (hg:W.grownBy W' row) (hr:∀r,row=some r→∃cur,W.heap[r]? =some (.cells cur t (0,0))) {b:Nat} {cur':Array Value} {fz:Nat×Nat} (h:W.heap[b]? =some (.cells cur' t' fz)) (hne:t≠t'):W'.heap[b]? =some (.cells cur' t' fz):=
   (hg.block b (lt_there h) (fun e=>by
  obtain⟨cur,hc⟩:=hr b e.symm
  exact type_ne hc h hne)).trans h
set_option maxRecDepth 100000 in
set_option maxHeartbeats 8000000 in
theorem scan_any (g n E T:Nat) (R:Nat→PC) (w:World) (B:Nat) (hr:RingTo w B g n n R) (hn1:1≤n) (hn:n≤256) (hT:T≤1073741824) (_hE:E≤1073741824) (hR1:∀i,(R i).d.length≤492) (hR2:∀i,(R i).c≤65536):
  Calls Tryz.prog 140 #[.slice (some ⟨g,0,none⟩) n n, .int .i64 (E:Int), .int .i64 (T:Int)] w fun e w'=>ScanOut w w' R E T n e:=by
 refine(callsIn_wide (n:=6)).1 ?_
 refine callsIn_of_wp_marks Tryz.func140 rfl trivial ?_ rfl
 simp only [Tryz.ntmps140,List.size_toArray,List.length_cons,List.length_nil,Nat.reduceAdd,Nat.reduceSub,Array.replicate_succ,Array.replicate_zero,List.push_toArray,List.append_toArray,List.nil_append,List.cons_append]
 gi_wp2
 refine(wpIn_wide (n:=6)).2 (wp_scope_straight ((wpIn_wide (n:=6)).1 ?_))
 gi_wp2
 refine wpIn_label ?_
 gi_wp2_with (refine⟨trivial,?_⟩;gi_at_call 168;refine(callsIn_wide.2 (from_any g n T _)).mono ?_;rintro e w' ⟨rfl,rfl⟩)
 obtain⟨W0,hW0⟩:∃W0,((((((w.alloc (.cells #[.slice none 0 0] 70)).alloc (.cells #[.slice none 0 0] 44)).alloc (.cells #[.int .i64 (T:Int)] 3)).alloc (.cells #[.int .i64 (E:Int), .int .i64 0, .int .i64 0, .int .i64 0] 205)).alloc (.cells #[.slice (some ⟨g,0,none⟩) n n] 171)).alloc (.cells #[.int .i64 (T:Int)] 3))=W0:=⟨_,rfl⟩
 rw [hW0]
 have hsz:W0.heap.size=w.heap.size+6:=by rw [←hW0];simp
 have hb0:Below w.heap.size w W0:=by rw [←hW0];exact((((((Below.refl _ w).alloc (Nat.le_refl _) _).alloc (by simp) _).alloc (by simp;omega) _).alloc (by simp;omega) _).alloc (by simp;omega) _).alloc (by simp;omega) _
 have hbx:Boxes W0 w.heap.size (w.heap.size+6) E (SS.start T) (.slice none 0 0) (.slice none 0 0)∧W0.heap[w.heap.size+1+1+1+1]? =some (.cells #[.slice (some ⟨g,0,none⟩) n n] 171 (0,0))∧W0.heap[w.heap.size+1+1+1+1+1]? =some (.cells #[.int .i64 (T:Int)] 3 (0,0)):=by
  rw [←hW0]
  obtain⟨s1,s2,s3,s4,s5,s6⟩:=six_alloc w (.cells #[.slice none 0 0] 70) (.cells #[.slice none 0 0] 44) (.cells #[.int .i64 (T:Int)] 3) (.cells #[.int .i64 (E:Int), .int .i64 0, .int .i64 0, .int .i64 0] 205) (.cells #[.slice (some ⟨g,0,none⟩) n n] 171) (.cells #[.int .i64 (T:Int)] 3)
  exact⟨⟨s1,s2,s3,s4,RecsAt.nil _ _ _,Own.nil _ _,Nat.le_refl _⟩,s5,s6⟩
 obtain⟨A,C,hAC⟩:=ring_some hr
 clear hW0
 refine wpIn_rangeFunc_ownH rfl (by omega) (gf:=190) (lb:= #[.pointer (some ⟨w.heap.size+1+1+1+1,0,none⟩), .pointer (some ⟨w.heap.size+1+1+1+1+1,0,none⟩)]) rfl trivial (enters_of Tryz.func190 (by kernel_rfl) rfl)
    (from_stops (6-1) (by omega) (w.heap.size+1+1+1+1) (w.heap.size+1+1+1+1+1) w.heap.size g n T R A C hn1 hn hT W0 (by omega) hbx.2.1 hbx.2.2 ⟨hr.lt,fun i hi j v hv=>(hb0.cell (p:=⟨g,i*5+j,none⟩) hr.lt).trans ((hAC i hi).1 j v hv)⟩) KpB.t (KpB.b (by omega) (by omega) (by omega)) (Below.refl _ _) (fun _=>rfl)
    (fun pre W=>∃st vR vr,srun R E T n (pre.map Fin.val) (SS.start T)=some st∧Boxes W w.heap.size (w.heap.size+6) E st vR vr∧Below w.heap.size w W∧w.heap.size+6≤W.heap.size)
    (fun c pre W=>c= .exit 0∧∃pre' x st ps c' vR vr,pre=pre' ++ [x]∧srun R E T n (pre'.map Fin.val) (SS.start T)=some st∧st.goes R E T n x.1=false∧Boxes W w.heap.size (w.heap.size+6) E {st with ps:=ps,c:=c'} vR vr∧Below w.heap.size w W)
  ?hI ?hIx ⟨_,_,_,rfl,hbx.1,hb0,by omega⟩
    (fun x a' W=>∃Bx,w.heap.size+6≤Bx∧W.heap[Bx]? =some (.cells (pieceC ((R ((T+x.1)%n)).e:Int) ((R ((T+x.1)%n)).p:Int) ((R ((T+x.1)%n)).i:Int) ((R ((T+x.1)%n)).c:Int) (A ((T+x.1)%n)) (R ((T+x.1)%n)).d.length (C ((T+x.1)%n))) 207 (0,0))∧a'={tmps:= #[Value.slice (some ⟨g,0,none⟩) n n, .int .i64 (E:Int), .int .i64 (T:Int),undef,undef,undef, .slice none 0 0, .int .i64 0, .pointer (some ⟨w.heap.size,0,none⟩), .pointer (some ⟨w.heap.size+1,0,none⟩), .pointer (some ⟨w.heap.size+1+1,0,none⟩), .pointer (some ⟨w.heap.size+1+1+1,0,none⟩), .int .i64 ((T:Int)+(x.1:Int)), .pointer (some ⟨Bx,0,none⟩), .int .i64 (T:Int), .int .i64 (E:Int), .agg #[.int .i64 (E:Int), .int .i64 0, .int .i64 0, .int .i64 0], .slice (some ⟨g,0,none⟩) n n, .int .i64 (T:Int), .func (.func 190) #[] #[.pointer (some ⟨w.heap.size+1+1+1+1,0,none⟩), .pointer (some ⟨w.heap.size+1+1+1+1+1,0,none⟩)], .int .i64 ((T:Int)+(x.1:Int)),pieceV ((R ((T+x.1)%n)).e:Int) ((R ((T+x.1)%n)).p:Int) ((R ((T+x.1)%n)).i:Int) ((R ((T+x.1)%n)).c:Int) (A ((T+x.1)%n)) (R ((T+x.1)%n)).d.length (C ((T+x.1)%n)),undef,undef,undef,undef,undef,undef,undef,undef,undef,undef,undef,undef,undef,undef,undef,undef,undef,undef,undef,undef,undef,undef,undef,undef,undef,undef,undef,undef,undef,undef,undef,undef,undef,undef,undef,undef,undef,undef],defers:= []}) ?hAx ?assign ?body ?done ?stop
 case hI=>
  rintro s X Y row ⟨st,vR,vr,h1,h2,h3,h4⟩ hg hrow
  exact⟨st,vR,vr,h1,h2.cells (cellsIn_grown hg (fun r e=>(hrow r e).2)),below_more h3 hg (fun r e=>by have:=(hrow r e).1;omega),Nat.le_trans h4 hg.size⟩
 case hIx=>
  rintro c s X Y row ⟨hc,pre',x,st,ps,c',vR,vr,h0,h1,h2,h3,h4⟩ hg hrow
  exact⟨hc,pre',x,st,ps,c',vR,vr,h0,h1,h2,h3.cells (cellsIn_grown hg (fun r e=>(hrow r e).2)),below_more h4 hg (fun r e=>by have:=(hrow r e).1;omega)⟩
 case hAx=>
  rintro x a' s X Y row ⟨Bx,h1,h2,h3⟩ hg hrow
  exact⟨Bx,h1,cellsIn_grown hg (fun r e=>(hrow r e).2) _ _ _ _ h2,h3⟩
 case assign=>
  rintro l pre x W K ⟨st,vR,vr,h1,h2,h3,h4⟩ hK
  simp only [encR]
  gi_wp2
  exact hK _ _ ((KeepsOthers.alloc _ _).from _) ⟨(Below.refl _ W).alloc (by omega) _,Below.heap_alloc _ _ _ (by omega),Below.heap_alloc _ _ _ (by omega)⟩ ⟨st,vR,vr,h1,h2.cells (cellsIn_below (below_box _ _)),h3.trans ((below_box _ _).mono (by omega)),by simp;omega⟩ ⟨W.heap.size,by omega,heap_alloc_new _ _,rfl⟩
 case body=>
  rintro l pre x a' W hl ⟨rr,hrr⟩ ⟨st,vR,vr,h1,h2,h3,h4⟩ ⟨Bx,hBx,hpx,rfl⟩ hlt
  have hsm:=srun_small R E T n hR1 hR2 pre.length (pre.map Fin.val) st (by simp) h1
  have hx:=x.2
  have hyn:(T+x.1)%n<n:=Nat.mod_lt _ hn1
  obtain⟨y,hy⟩:∃y,y=(T+x.1)%n:=⟨_,rfl⟩
  have hgo:st.goes R E T n x.1=isB (R y) E (T+x.1) st.j (st.due R T n x.1):=by unfold SS.goes;rw [←hy]
  have hdue:st.due R T n x.1=if st.j=0 then (R y).c else st.c:=by unfold SS.due;rw [←hy]
  have hnx:st.next R T n x.1=if (R y).i+1=(R y).c then ⟨st.rs ++ [st.rc ++ (R y).d], [],T+x.1+1,T+x.1,0,st.due R T n x.1⟩ else ⟨st.rs,st.rc ++ (R y).d,st.hd,T+x.1,st.j+1,st.due R T n x.1⟩:=by unfold SS.next;rw [←hy]
  rw [←hy] at hyn hpx
  simp only [←hy]
  have HNx:=Hid.mk hnx
  have HGoes:Hid (∀c,c=st.due R T n x.1→st.goes R E T n x.1=isB (R y) E (T+x.1) st.j c):=fun c hc=>by rw [hc];exact hgo
  have hpos:((T+x.1:Nat):Int)=(T:Int)+(x.1:Int):=by omega
  have d1:W.cell? ⟨w.heap.size+1+1+1,1,none⟩=some (.int .i64 (st.ps:Int)):=cell_of_block h2.d (j:=1) rfl
  have d2:W.cell? ⟨w.heap.size+1+1+1,2,none⟩=some (.int .i64 (st.j:Int)):=cell_of_block h2.d (j:=2) rfl
  have d0:W.cell? ⟨w.heap.size+1+1+1,0,none⟩=some (.int .i64 (E:Int)):=cell_of_block h2.d (j:=0) rfl
  have d3:W.cell? ⟨w.heap.size+1+1+1,3,none⟩=some (.int .i64 (st.c:Int)):=cell_of_block h2.d (j:=3) rfl
  have df:∀j,W.frozen? ⟨w.heap.size+1+1+1,j,none⟩=false:=fun j=>frozen_of_block h2.d j
  have p0:W.cell? ⟨Bx,0,none⟩=some (.int .i64 ((R y).e:Int)):=cell_of_block hpx (j:=0) rfl
  have p1:W.cell? ⟨Bx,1,none⟩=some (.int .i64 ((R y).p:Int)):=cell_of_block hpx (j:=1) rfl
  have p2:W.cell? ⟨Bx,2,none⟩=some (.int .i64 ((R y).i:Int)):=cell_of_block hpx (j:=2) rfl
  have p3:W.cell? ⟨Bx,3,none⟩=some (.int .i64 ((R y).c:Int)):=cell_of_block hpx (j:=3) rfl
  have p4:W.cell? ⟨Bx,4,none⟩=some (.slice (A y) (R y).d.length (C y)):=cell_of_block hpx (j:=4) rfl
  have hne:Bx≠w.heap.size+1+1+1:=by omega
  have HS:=Hid.mk hsz
  by_cases hj:st.j=0
  case' pos=>
   have d2':W.cell? ⟨w.heap.size+1+1+1,2,none⟩=some (.int .i64 0):=by rw [d2,hj];rfl
   clear d2
   have hdc:st.due R T n x.1=(R y).c:=by rw [hdue,if_pos hj]
   have hB1:Boxes ((W.setCell ⟨w.heap.size+1+1+1,1,none⟩ (.int .i64 ((T:Int)+(x.1:Int)))).setCell ⟨w.heap.size+1+1+1,3,none⟩ (.int .i64 ((R y).c:Int))) w.heap.size (w.heap.size+6) E {st with ps:=T+x.1,j:=st.j,c:=(R y).c} vR vr:=h2.set ((keeps_set (F:=fun k=>k=w.heap.size+3) W rfl 1 _).trans (keeps_set (F:=fun k=>k=w.heap.size+3) _ rfl 3 _) (fun _ h=> .inl h)) (T+x.1) st.j (R y).c ((heap_setCell_same _ _ 3 _ _ _ (heap_setCell_same _ _ 1 _ _ _ h2.d)).trans (by simp [hj]))
   have hk1:RoundK w.heap.size w W ((W.setCell ⟨w.heap.size+1+1+1,1,none⟩ (.int .i64 ((T:Int)+(x.1:Int)))).setCell ⟨w.heap.size+1+1+1,3,none⟩ (.int .i64 ((R y).c:Int))):=((RoundK.start h3).set rfl (by omega) (by omega) 1 _).set rfl (by omega) (by omega) 3 _
   have hp1:(((W.setCell ⟨w.heap.size+1+1+1,1,none⟩ (.int .i64 ((T:Int)+(x.1:Int)))).setCell ⟨w.heap.size+1+1+1,3,none⟩ (.int .i64 ((R y).c:Int)))).heap[Bx]? =some (.cells (pieceC ((R y).e:Int) ((R y).p:Int) ((R y).i:Int) ((R y).c:Int) (A y) (R y).d.length (C y)) 207 (0,0)):=heap_other (heap_other hpx (by omega)) (by omega)
   rw [hdc] at hgo
   have his:=CallsIn.inRound l (callsIn_wide (n:=3).2 ((is_any (R y) (A y) (C y) E (T+x.1) st.j (R y).c ((W.setCell ⟨w.heap.size+1+1+1,1,none⟩ (.int .i64 ((T:Int)+(x.1:Int)))).setCell ⟨w.heap.size+1+1+1,3,none⟩ (.int .i64 ((R y).c:Int)))).mono (fun e W2 h=>show IsOut R E T n x.1 st y Bx (A y) (C y) vR vr w W e W2 from ⟨_,_,h.1,hgo.symm,hdc.symm,hB1.cells (cellsIn_below h.2),hk1.below rfl h4 h.2,(h.2.block _ (lt_there hp1)).trans hp1⟩)))
   rw [hpos] at his
   rw [show (st.j:Int)=0 by omega] at his
   clear h2 h3 hpx hB1 hk1 hp1 hgo hdue hdc hy hj hrr hnx hsz hbx hb0 hpos hr
   gi_wp2_with fail
   refine⟨trivial,?_⟩
   refine his.mono ?_
   rintro e W2 ⟨b,c,rfl,hgo,hdc,hB2,hk2,hp2⟩
   clear his
  case' neg=>
   have hj':((st.j:Int) == 0)=false:=by rw [beq_eq_false_iff_ne];omega
   have hdc:st.due R T n x.1=st.c:=by rw [hdue,if_neg hj]
   have hB1:Boxes (W.setCell ⟨w.heap.size+1+1+1,1,none⟩ (.int .i64 ((T:Int)+(x.1:Int)))) w.heap.size (w.heap.size+6) E {st with ps:=T+x.1,j:=st.j,c:=st.c} vR vr:=h2.set (keeps_set (F:=fun k=>k=w.heap.size+3) W rfl 1 _) (T+x.1) st.j st.c ((heap_setCell_same _ _ 1 _ _ _ h2.d).trans (by simp))
   have hk1:RoundK w.heap.size w W (W.setCell ⟨w.heap.size+1+1+1,1,none⟩ (.int .i64 ((T:Int)+(x.1:Int)))):=(RoundK.start h3).set rfl (by omega) (by omega) 1 _
   have hp1:((W.setCell ⟨w.heap.size+1+1+1,1,none⟩ (.int .i64 ((T:Int)+(x.1:Int))))).heap[Bx]? =some (.cells (pieceC ((R y).e:Int) ((R y).p:Int) ((R y).i:Int) ((R y).c:Int) (A y) (R y).d.length (C y)) 207 (0,0)):=heap_other hpx (by omega)
   rw [hdc] at hgo
   have his:=CallsIn.inRound l (callsIn_wide (n:=3).2 ((is_any (R y) (A y) (C y) E (T+x.1) st.j st.c (W.setCell ⟨w.heap.size+1+1+1,1,none⟩ (.int .i64 ((T:Int)+(x.1:Int))))).mono (fun e W2 h=>show IsOut R E T n x.1 st y Bx (A y) (C y) vR vr w W e W2 from ⟨_,_,h.1,hgo.symm,hdc.symm,hB1.cells (cellsIn_below h.2),hk1.below rfl h4 h.2,(h.2.block _ (lt_there hp1)).trans hp1⟩)))
   rw [hpos] at his
   clear h2 h3 hpx hB1 hk1 hp1 hgo hdue hdc hy hj hrr hnx hsz hbx hb0 hpos hr
   gi_wp2_with fail
   refine⟨trivial,?_⟩
   refine his.mono ?_
   rintro e W2 ⟨b,c,rfl,hgo,hdc,hB2,hk2,hp2⟩
   clear his
  all_goals
   have HB2:=Hid.mk hB2
   have HK2:=Hid.mk hk2
   have HP2:=Hid.mk hp2
   have HGo:=Hid.mk hgo
   have HDc:=Hid.mk hdc
   have q0:W2.cell? ⟨Bx,0,none⟩=some (.int .i64 ((R y).e:Int)):=cell_of_block hp2 (j:=0) rfl
   have q1:W2.cell? ⟨Bx,1,none⟩=some (.int .i64 ((R y).p:Int)):=cell_of_block hp2 (j:=1) rfl
   have q2:W2.cell? ⟨Bx,2,none⟩=some (.int .i64 ((R y).i:Int)):=cell_of_block hp2 (j:=2) rfl
   have q3:W2.cell? ⟨Bx,3,none⟩=some (.int .i64 ((R y).c:Int)):=cell_of_block hp2 (j:=3) rfl
   clear hB2 hk2 hp2 hgo hdc d0 d1 d3 df p0 p1 p2 p3 p4
   cases b
   ·gi_wp2
    exact⟨HS.out▸HK2.out.k,rfl,pre,x,st,T+x.1,c,vR,vr,rfl,h1,HGo.out.symm,HB2.out,HK2.out.b⟩
   ·have hq:=isB_iff.1 (HGo.out.trans (HGoes.out c HDc.out)).symm
    have hd0:=hq.1.2.2.2.2.1
    have hdl:=hR1 y
    have hcl:=hR2 y
    have hla:=CallsIn.inRound l (callsIn_wide (n:=3).2 (last_any (R y).e (R y).p (R y).i (R y).c W2 (by omega)))
    have hsn:=srun_snoc R E T n _ _ _ x.1 h1 HGo.out.symm
    rw [HNx.out,←HDc.out,show pre.map Fin.val ++ [x.1]=(pre ++ [x]).map Fin.val by simp] at hsn
    have HSn:=Hid.mk hsn
    clear hsn hq
    by_cases hi:(R y).i+1=(R y).c
    ·rw [if_pos hi] at HSn
     rw [show decide ((R y).i+1=(R y).c)=true by rw [decide_eq_true_eq];exact hi] at hla
     clear hi
     gi_wp2_with fail
     refine⟨trivial,?_⟩
     refine hla.mono ?_
     rintro e W3 ⟨rfl,hb3⟩
     have hk3:=HK2.out.below rfl h4 hb3
     have hz3:=hk3.k.size
     have hB3d:=(HB2.out.cells (cellsIn_below hb3)).cells (cellsIn_below (below_drew (Below.refl W3.heap.size W3)))
     have hk3d:=hk3.below rfl h4 (below_drew (Below.refl W3.heap.size W3))
     obtain⟨W4,hW4⟩:∃W4,W4=W3.drew:=⟨_,rfl⟩
     have hp4:W4.heap[Bx]? =W3.heap[Bx]? :=by rw [hW4];rfl
     rw [((hb3.block _ (lt_there HP2.out)).trans HP2.out)] at hp4
     rw [←hW4] at hB3d hk3d
     have hz3d:w.heap.size+6≤W4.heap.size:=by rw [hW4];show _≤W3.heap.size;omega
     obtain⟨g4,cap4,w4,hrun4,ho4,hg4,hat4⟩:=app_bytes hB3d.rc (C y) ((hAC y hyn).2.later hk3d.b) hd0 (by show st.rc.length+_≤_;omega) hz3d
     have hgr:=hB3d.grow ho4 hg4 hat4
     have hz4:=hg4.size
     have hk4:=hk3d.grown rfl h4 hg4 (fun r e=>by
      obtain⟨cur,hc⟩:=owns_block hB3d.rc e
      exact⟨own_lo hB3d.rc e,cur,_,hc⟩)
     have hp5:=grown_other hg4 (fun r e=>owns_block hB3d.rc e) hp4 (by decide)
     obtain⟨vs,hrow,hvs⟩:=hgr.2.2.2.2.1
     have hrsl:st.rs.length≤1000000:=by omega
     obtain⟨g5,cap5,w5,hrun5,ho5,hg5⟩:=app_rec hrow (.slice (some ⟨g4,0,none⟩) (st.rc.length+(R y).d.length) cap4) rfl hrsl (by omega)
     obtain⟨W6,hW6⟩:∃W6,W6=w4.alloc (.cells #[.slice (some ⟨g4,0,none⟩) (st.rc.length+(R y).d.length) cap4] 44):=⟨_,rfl⟩
     have hk6:RoundK w.heap.size w W W6:=hk4.below rfl h4 (by rw [hW6];exact below_box _ _)
     have hci6:CellsIn w4 W6:=by rw [hW6];exact cellsIn_below (below_box _ _)
     have hp6:=hci6 _ _ _ _ hp5
     have hrow6:=owns_agree (W':=W6) hrow (fun g hg=>by
      obtain⟨cur,hc⟩:=owns_block hrow hg
      rw [hci6 _ _ _ _ hc,hc])
     rw [←hW6] at hrun5
     have hg5':W6.grownBy w5 vR.ownBlock:=by rw [hW6];exact hg5
     have hk7:=hk6.grown rfl h4 hg5' (fun r e=>by
      obtain⟨cur,hc⟩:=owns_block hrow6 e
      exact⟨own_lo hrow6 e,cur,_,hc⟩)
     have hp7:=grown_other hg5' (fun r e=>owns_block hrow6 e) hp6 (by decide)
     have box5:∀k cur t fz,k<w.heap.size+6→w4.heap[k]? =some (Obj.cells cur t fz)→w5.heap[k]? =some (Obj.cells cur t fz):=fun k cur t fz hk hl=>(hg5'.block k (lt_there (hci6 _ _ _ _ hl)) (fun e=>by have:=own_lo hrow6 e.symm;omega)).trans (hci6 _ _ _ _ hl)
     have hwh:=hB3d.whole ho4 hg4 hat4 hz3d hrow (fun i hi=>by
      obtain⟨x1,x2,x3,x4,x5,_⟩:=hvs i hi
      exact⟨x1,x2,x3,x4,x5⟩) ho5 hd0 _ hg5 (T+x.1+1) ((T:Int)+(x.1:Int)+1) (by omega)
     have hk8:=((((hk7.set rfl (b:=w.heap.size) (by omega) (by omega) 0 (.slice (some ⟨g5,0,none⟩) (st.rs.length+1) cap5)).set rfl (b:=w.heap.size+1) (by omega) (by omega) 0 (.slice none 0 0)).set rfl (b:=w.heap.size+1+1) (by omega) (by omega) 0 (.int .i64 ((T:Int)+(x.1:Int)+1))).set rfl (b:=w.heap.size+1+1+1) (by omega) (by omega) 2 (.int .i64 0))
     have HSt:Hid (∀W':World,W'.heap[w.heap.size+1]? =some (.cells #[vr] 44 (0,0))→W'.heap[Bx]? =some (.cells (pieceC ((R y).e:Int) ((R y).p:Int) ((R y).i:Int) ((R y).c:Int) (A y) (R y).d.length (C y)) 207 (0,0))→(W'.cell? ⟨w.heap.size+1,0,none⟩=some vr∧W'.cell? ⟨Bx,4,none⟩=some (.slice (A y) (R y).d.length (C y)))):=fun W' h1 h2=>⟨cell_of_block h1 (j:=0) rfl,cell_of_block h2 (j:=4) rfl⟩
     have S4:=Hid.mk (HSt.out W4 hB3d.c hp4)
     have S5:=Hid.mk (HSt.out w4 hgr.2.1 hp5)
     have S6:=Hid.mk (HSt.out W6 (hci6 _ _ _ _ hgr.2.1) hp6)
     have S7:=Hid.mk (HSt.out w5 (box5 _ _ _ _ (by omega) hgr.2.1) hp7)
     have S8:=Hid.mk (HSt.out (w5.setCell ⟨w.heap.size,0,none⟩ (.slice (some ⟨g5,0,none⟩) (st.rs.length+1) cap5)) (heap_other (box5 _ _ _ _ (by omega) hgr.2.1) (by omega)) (heap_other hp7 (by omega)))
     have b4:=hB3d.r.cell
     have b5:=hgr.1.cell
     have b6:W6.cell? ⟨w.heap.size,0,none⟩=some vR:=cell_of_block (hci6 _ _ _ _ hgr.1) (j:=0) rfl
     have b7:w5.cell? ⟨w.heap.size,0,none⟩=some vR:=cell_of_block (box5 _ _ _ _ (by omega) hgr.1) (j:=0) rfl
     have f7:=frozen_of_block (box5 _ _ _ _ (by omega) hgr.1) 0
     have cf7:=frozen_of_block (box5 _ _ _ _ (by omega) hgr.2.1) 0
     have d7:w5.cell? ⟨w.heap.size+1+1,0,none⟩=some (.int .i64 (st.hd:Int)):=cell_of_block (box5 _ _ _ _ (by omega) hgr.2.2.1) (j:=0) rfl
     have df7:w5.frozen? ⟨w.heap.size+1+1,0,none⟩=false:=frozen_of_block (box5 _ _ _ _ (by omega) hgr.2.2.1) 0
     have e7:w5.cell? ⟨w.heap.size+1+1+1,2,none⟩=some (.int .i64 (st.j:Int)):=cell_of_block (box5 _ _ _ _ (by omega) (hgr.2.2.2.1.trans hB3d.d)) (j:=2) rfl
     have ef7:w5.frozen? ⟨w.heap.size+1+1+1,2,none⟩=false:=frozen_of_block (box5 _ _ _ _ (by omega) (hgr.2.2.2.1.trans hB3d.d)) 2
     have hmx:Tryz.prog.follows .mixedOrders=true:=by kernel_rfl
     have HW:=Hid.mk hwh
     have HK8:=Hid.mk hk8
     have HZ8:=Hid.mk (Nat.le_trans h4 hk8.k.size)
     have HR4:=Hid.mk hrun4
     have HR5:=Hid.mk hrun5
     have HW6:=Hid.mk hW6
     have HW4:=Hid.mk hW4
     clear hb3 hk3 hk3d hk4 hk6 hk7 hk8 hwh hgr ho4 hg4 hat4 hla hrun4 hrun5 ho5 hg5 hg5' hrow hrow6 hvs hci6 box5 hp4 hp5 hp6 hp7 hB3d hW4 hW6 HSt
     gi_wp2_with fail
     refine wpIn_region_held (S:=fun W'=>W'.cell? ⟨w.heap.size+1,0,none⟩=some vr∧W'.cell? ⟨Bx,4,none⟩=some (.slice (A y) (R y).d.length (C y))) hmx (by kernel_rfl) ?_
     rw [←HW4.out]
     refine wpAnyH_take (i:=1) (v:=vr) rfl (by kernel_rfl) (by kernel_rfl) (by kernel_rfl) (fun _ _ _ h=>h) (Or.inl ⟨by rfl,?_⟩) S4.out ?_
     ·rintro W1 ⟨y1,y2⟩
      go_simp
     try simp only [Act.put,List.setIfInBounds_toArray]
     refine wpAnyH_take (i:=2) (v:= .pointer (some ⟨Bx,4,none⟩)) rfl (by kernel_rfl) (by kernel_rfl) (by kernel_rfl) (fun _ _ _ h=>h) (Or.inl ⟨by rfl,?_⟩) S4.out ?_
     ·rintro W1 ⟨y1,y2⟩
      go_simp
     try simp only [Act.put]
     refine wpAnyH_take (i:=3) (v:= .slice (A y) (R y).d.length (C y)) rfl (by kernel_rfl) (by kernel_rfl) (by kernel_rfl) (fun _ _ _ h=>h) (Or.inl ⟨by rfl,?_⟩) S4.out ?_
     ·rintro W1 ⟨y1,y2⟩
      go_simp
     try simp only [Act.put]
     refine wpAnyH_ready (rs:= [0,4]) (by kernel_rfl) (by simp) (AllReadyH.cons rfl (fun K hK=>?_) (AllReadyH.cons rfl (fun K hK=>?_) AllReadyH.nil))
     ·skip
      go_simp
      refine hK.out _ _ S4.out (fun _=>?_)
      clear hK K
      try simp only [Act.put,List.setIfInBounds_toArray,List.set_cons_zero,List.set_cons_succ]
      refine wpAnyH_ready (rs:= [4]) (by kernel_rfl) (by simp) (AllReadyH.cons rfl (fun K hK=>?_) AllReadyH.nil)
      rw [if_pos (by rfl)]
      refine wp_append_run _ _ 44 rfl _ _ _ rfl rfl HR4.out ?_
      refine hK.out _ _ S5.out (fun _=>?_)
      clear hK K
      try simp only [Act.put,List.setIfInBounds_toArray]
      refine wpAnyH_ready (rs:= [5]) (by kernel_rfl) (by simp) (AllReadyH.cons rfl (fun K hK=>?_) AllReadyH.nil)
      go_simp
      rw [←HW6.out]
      refine hK.out _ _ S6.out (fun _=>?_)
      clear hK K
      try simp only [Act.put,List.setIfInBounds_toArray,List.set_cons_zero,List.set_cons_succ]
      refine wpAnyH_ready (rs:= [6]) (by kernel_rfl) (by simp) (AllReadyH.cons rfl (fun K hK=>?_) AllReadyH.nil)
      rw [if_pos (by rfl)]
      refine wp_append_run _ _ 70 rfl _ _ _ rfl rfl HR5.out ?_
      refine hK.out _ _ S7.out (fun _=>?_)
      clear hK K
      try simp only [Act.put,List.setIfInBounds_toArray]
      refine wpAnyH_ready (rs:= [7]) (by kernel_rfl) (by simp) (AllReadyH.cons rfl (fun K hK=>?_) AllReadyH.nil)
      go_simp
      refine hK.out _ _ S8.out (fun _=>?_)
      clear hK K
      try simp only [Act.put,List.setIfInBounds_toArray,List.set_cons_zero,List.set_cons_succ]
      refine wpAnyH_done (by kernel_rfl) ?_ _
      (gi_wp2;exact⟨HS.out▸HK8.out.k,HK8.out.p,_,_,_,HSn.out,HW.out,HK8.out.b,HZ8.out⟩)
     ·skip
      rw [if_pos (by rfl)]
      refine wp_append_run _ _ 44 rfl _ _ _ rfl rfl HR4.out ?_
      refine hK.out _ _ S5.out (fun _=>?_)
      clear hK K
      try simp only [Act.put]
      refine wpAnyH_ready (rs:= [0,5]) (by kernel_rfl) (by simp) (AllReadyH.cons rfl (fun K hK=>?_) (AllReadyH.cons rfl (fun K hK=>?_) AllReadyH.nil))
      ·skip
       go_simp
       refine hK.out _ _ S5.out (fun _=>?_)
       clear hK K
       try simp only [Act.put,List.setIfInBounds_toArray,List.set_cons_zero,List.set_cons_succ]
       refine wpAnyH_ready (rs:= [5]) (by kernel_rfl) (by simp) (AllReadyH.cons rfl (fun K hK=>?_) AllReadyH.nil)
       go_simp
       rw [←HW6.out]
       refine hK.out _ _ S6.out (fun _=>?_)
       clear hK K
       try simp only [Act.put,List.setIfInBounds_toArray,List.set_cons_zero,List.set_cons_succ]
       refine wpAnyH_ready (rs:= [6]) (by kernel_rfl) (by simp) (AllReadyH.cons rfl (fun K hK=>?_) AllReadyH.nil)
       rw [if_pos (by rfl)]
       refine wp_append_run _ _ 70 rfl _ _ _ rfl rfl HR5.out ?_
       refine hK.out _ _ S7.out (fun _=>?_)
       clear hK K
       try simp only [Act.put,List.setIfInBounds_toArray]
       refine wpAnyH_ready (rs:= [7]) (by kernel_rfl) (by simp) (AllReadyH.cons rfl (fun K hK=>?_) AllReadyH.nil)
       go_simp
       refine hK.out _ _ S8.out (fun _=>?_)
       clear hK K
       try simp only [Act.put,List.setIfInBounds_toArray,List.set_cons_zero,List.set_cons_succ]
       refine wpAnyH_done (by kernel_rfl) ?_ _
       (gi_wp2;exact⟨HS.out▸HK8.out.k,HK8.out.p,_,_,_,HSn.out,HW.out,HK8.out.b,HZ8.out⟩)
      ·skip
       go_simp
       rw [←HW6.out]
       refine hK.out _ _ S6.out (fun _=>?_)
       clear hK K
       try simp only [Act.put,List.setIfInBounds_toArray,List.set_cons_zero,List.set_cons_succ]
       refine wpAnyH_ready (rs:= [0]) (by kernel_rfl) (by simp) (AllReadyH.cons rfl (fun K hK=>?_) AllReadyH.nil)
       go_simp
       refine hK.out _ _ S6.out (fun _=>?_)
       clear hK K
       try simp only [Act.put,List.setIfInBounds_toArray,List.set_cons_zero,List.set_cons_succ]
       refine wpAnyH_ready (rs:= [6]) (by kernel_rfl) (by simp) (AllReadyH.cons rfl (fun K hK=>?_) AllReadyH.nil)
       rw [if_pos (by rfl)]
       refine wp_append_run _ _ 70 rfl _ _ _ rfl rfl HR5.out ?_
       refine hK.out _ _ S7.out (fun _=>?_)
       clear hK K
       try simp only [Act.put,List.setIfInBounds_toArray]
       refine wpAnyH_ready (rs:= [7]) (by kernel_rfl) (by simp) (AllReadyH.cons rfl (fun K hK=>?_) AllReadyH.nil)
       go_simp
       refine hK.out _ _ S8.out (fun _=>?_)
       clear hK K
       try simp only [Act.put,List.setIfInBounds_toArray,List.set_cons_zero,List.set_cons_succ]
       refine wpAnyH_done (by kernel_rfl) ?_ _
       (gi_wp2;exact⟨HS.out▸HK8.out.k,HK8.out.p,_,_,_,HSn.out,HW.out,HK8.out.b,HZ8.out⟩)
    ·rw [if_neg hi] at HSn
     rw [show decide ((R y).i+1=(R y).c)=false by rw [decide_eq_false_iff_not];exact hi] at hla
     clear hi
     gi_wp2_with fail
     refine⟨trivial,?_⟩
     refine hla.mono ?_
     rintro e W3 ⟨rfl,hb3⟩
     have hB3:=HB2.out.cells (cellsIn_below hb3)
     have hk3:=HK2.out.below rfl h4 hb3
     have r4:W3.cell? ⟨Bx,4,none⟩=some (.slice (A y) (R y).d.length (C y)):=cell_of_block ((hb3.block _ (lt_there HP2.out)).trans HP2.out) (j:=4) rfl
     have r9:=hB3.c.cell
     have hz3:=hk3.k.size
     obtain⟨g4,cap4,w4,hrun,ho4,hg4,hat4⟩:=app_bytes hB3.rc (C y) ((hAC y hyn).2.later hk3.b) hd0 (by show st.rc.length+_≤_;omega) (by omega)
     have hgr:=hB3.grow ho4 hg4 hat4
     have s9:=hgr.2.1.cell
     have f9:=hgr.2.1.frozen
     have s11:w4.cell? ⟨w.heap.size+1+1+1,2,none⟩=some (.int .i64 (st.j:Int)):=cell_of_block (hgr.2.2.2.1.trans hB3.d) (j:=2) rfl
     have f11:w4.frozen? ⟨w.heap.size+1+1+1,2,none⟩=false:=frozen_of_block (hgr.2.2.2.1.trans hB3.d) 2
     have hmo:=hB3.more ho4 hg4 hat4 ((st.j:Int)+1) (by show _=((st.j+1:Nat):Int);omega)
     have hk4:=hk3.grown rfl h4 hg4 (fun r e=>by
      obtain⟨cur,hc⟩:=owns_block hB3.rc e
      exact⟨own_lo hB3.rc e,cur,_,hc⟩)
     have hk5:=(hk4.set rfl (b:=w.heap.size+1) (by omega) (by omega) 0 (.slice (some ⟨g4,0,none⟩) (st.rc.length+(R y).d.length) cap4)).set rfl (b:=w.heap.size+1+1+1) (by omega) (by omega) 2 (.int .i64 ((st.j:Int)+1))
     have hjb:(st.j:Int)<1000000:=by omega
     have hsz5:w.heap.size+6≤((w4.setCell ⟨w.heap.size+1,0,none⟩ (.slice (some ⟨g4,0,none⟩) (st.rc.length+(R y).d.length) cap4)).setCell ⟨w.heap.size+1+1+1,2,none⟩ (.int .i64 ((st.j:Int)+1))).heap.size:=by have:=hk5.k.size;omega
     have HM:=Hid.mk hmo
     have HK5:=Hid.mk hk5
     have HZ5:=Hid.mk hsz5
     have HRun:=Hid.mk hrun
     clear hb3 hB3 hk3 hk4 hk5 hmo hgr ho4 hg4 hat4 hla hrun hsz5
     gi_wp2_with (gi_at_builtin;refine wpListIn_append_run rfl _ _ 44 rfl _ _ _ rfl rfl HRun.out ?_)
     exact⟨HS.out▸HK5.out.k,HK5.out.p,_,_,_,HSn.out,HM.out,HK5.out.b,HZ5.out⟩
 case done=>
  rintro D xs W hD hxs ⟨st,vR,vr,h1,h2,h3,h4⟩ hDD
  have q1:=h2.r.cell
  have q2:W.cell? ⟨w.heap.size+1+1,0,none⟩=some (.int .i64 (st.hd:Int)):=h2.h.cell
  have hmx:Tryz.prog.follows .mixedOrders=true:=by kernel_rfl
  have ht:=scan_done R E T n hn1 st (by rw [←hxs];exact h1)
  have HZ:=Hid.mk (scan_end h2.rs (by omega) h3 hDD (by omega) ht)
  clear h2 h3 h4 h1 ht hxs
  gi_wp2
  refine wpIn_calm ?_
  gi_region_with_o (fail)
  all_goals
   gi_wp2
   rw [Exit.noGoto_ret]
   refine⟨by simp, .inl ⟨_,_,rfl,run_takeDeferred hDD,?_⟩⟩
   refine⟨_,results_tmp2 rfl _ _ _,?_⟩
   simp only [Act.put,List.getElem_toArray,List.getElem_cons_zero,List.getElem_cons_succ,List.setIfInBounds_toArray,List.set_cons_zero,List.set_cons_succ]
   exact HZ.out
 case stop=>
  rintro D c pre W hD ⟨k,hk,hpre⟩ ⟨rfl,pre',x,st,ps,c',vR,vr,h0,h1,hgo,h2,h3⟩ hDD
  have q1:=h2.r.cell
  have q2:W.cell? ⟨w.heap.size+1+1,0,none⟩=some (.int .i64 (st.hd:Int)):=h2.h.cell
  have hmx:Tryz.prog.follows .mixedOrders=true:=by kernel_rfl
  have ht:Tells (Rp R n) E T st.rs st.hd∧∀c d,¬Rec (Rp R n) E st.hd c d:=by
   subst h0
   obtain⟨hp1,hp2⟩:=hpre.split
   exact scan_stop R E T n k st (by rw [←hp1];exact h1) (by rw [←hp2];exact hgo)
  have HZ:=Hid.mk (scan_end h2.rs (by omega) h3 hDD (by omega) ht)
  clear h2 h3 h1 ht hpre h0 hgo
  gi_wp2
  refine wpIn_calm ?_
  gi_region_with_o (fail)
  all_goals
   gi_wp2
   rw [Exit.noGoto_ret]
   refine⟨by simp, .inl ⟨_,_,rfl,run_takeDeferred hDD,?_⟩⟩
   refine⟨_,results_tmp2 rfl _ _ _,?_⟩
   simp only [Act.put,List.getElem_toArray,List.getElem_cons_zero,List.getElem_cons_succ,List.setIfInBounds_toArray,List.set_cons_zero,List.set_cons_succ]
   exact HZ.out
end Go.Proofs.YtkiehemoiapkkaaGreat
end
section
namespace Go.Proofs.YtkiehemoiapkkaaGreat
open Go.RowKit
def oRing (S:DS) (f:Nat):Nat→PC:=fun i=>pcOf (S.now (f+2+i))
def oNew (S:DS) (f:Nat):Nat×Nat×Nat:=lnewest (S.now f) (S.now (f+1))
def oTop (S:DS) (f n:Nat):Nat:=max (oNew S f).1 (rtop (oRing S f) n)
theorem oNew_ok {S:DS} {f:Nat} (h:(oNew S f).2.2=0):1≤(oNew S f).1∧(oNew S f).1≤1073741824∧(oNew S f).2.1≤1073741824:=by
 unfold oNew lnewest at*
 split at h
 ·cases h
 ·rename_i h1
  rw [if_neg h1]
  refine⟨?_,?_,?_⟩<;> simp only <;> omega
theorem oTop_le {S:DS} {f n:Nat} (h:(oNew S f).2.2=0):oTop S f n≤1073741824:=by
 unfold oTop
 have:=oNew_ok h
 have:=rtop_le (oRing S f) n
 omega
structure Told (w':World) (B l p:Nat) (L:LG) (S:DS) (v:Value) (rs:List (List Int)) (hd:Nat):Prop where
 r:RecsAt w' B v rs (fun _=>False)
 t:Tells (Rp (oRing S L.f) L.n) (oNew S L.f).1 (oNew S L.f).2.1 rs hd
 x:∀c d,¬Rec (Rp (oRing S L.f) L.n) (oNew S L.f).1 hd c d
 p:LogP w' l p {L with ep:=(oNew S L.f).1,tail:=(oNew S L.f).2.1,head:=hd,top:=oTop S L.f L.n}
def Recalled (w':World) (B l p:Nat) (L:LG) (S:DS) (e:Ending):Prop:=
 if (oNew S L.f).2.2≠0 then e= .returned (.tuple #[.slice none 0 0, .int .i64 ((oNew S L.f).2.2:Int)])
 else if oTop S L.f L.n=1073741824 then e= .returned (.tuple #[.slice none 0 0, .int .i64 41])
 else∃v rs hd,e= .returned (.tuple #[v, .int .i64 0])∧Told w' B l p L S v rs hd
theorem LogP.topped {w:World} {l p:Nat} {L:LG} (h:LogP w l p L) (T:Int) (n:Nat) (hT:T=(n:Int)):LogP (w.setCell ⟨l,8,none⟩ (.int .i64 T)) l p {L with top:=n}:=by
 subst hT
 exact(heap_setCell_same _ _ 8 _ _ _ h).trans (by simp)
theorem LogP.marked {w:World} {l p:Nat} {L:LG} (h:LogP w l p L) (E T H:Nat):LogP (((w.setCell ⟨l,5,none⟩ (.int .i64 (E:Int))).setCell ⟨l,6,none⟩ (.int .i64 (T:Int))).setCell ⟨l,7,none⟩ (.int .i64 (H:Int))) l p {L with ep:=E,tail:=T,head:=H}:=
   (heap_setCell_same _ _ 7 _ _ _ (heap_setCell_same _ _ 6 _ _ _ (heap_setCell_same _ _ 5 _ _ _ h))).trans (by simp)
section
variable {w:World} {F:Nat→Prop} {p s l:Nat} {S:DS} {L:LG}
end
end Go.Proofs.YtkiehemoiapkkaaGreat
end
section
namespace Go.Proofs.YtkiehemoiapkkaaGreat
open Go.RowKit
def lopen (S:DS) (s:Nat) (f n:Int):Int×DS:=
 if lrefuse S s f n≠0 then (lrefuse S s f n,S) else if (oNew S f.toNat).2.2≠0 then (((oNew S f.toNat).2.2:Int),S.take)
 else if oTop S f.toNat n.toNat=1073741824 then (41,S.take) else S.take.fl s
def LG.new (S:DS) (f n:Nat):LG:=⟨f,n,wrap64 (S.life+1),false,0,0,0,0⟩
def Opened (w w':World) (p s:Nat) (S:DS) (f n:Int) (e:Ending):Prop:=
 if (lopen S s f n).1≠0 then e= .returned (.tuple #[.pointer none, .slice none 0 0, .int .i64 (lopen S s f n).1])
 else∃l v rs hd,e= .returned (.tuple #[.pointer (some ⟨l,0,none⟩),v, .int .i64 0])∧w.heap.size≤l∧Told w' w.heap.size l p (LG.new S f.toNat n.toNat) S v rs hd
theorem Told.low {w:World} {B B' l p:Nat} {L:LG} {S:DS} {v:Value} {rs:List (List Int)} {hd:Nat} (h:Told w B l p L S v rs hd) (hB:B'≤B):Told w B' l p L S v rs hd:=⟨h.r.low hB (fun _ h=>h),h.t,h.x,h.p⟩
theorem Told.keep {w w':World} {B l p:Nat} {L:LG} {S:DS} {v:Value} {rs:List (List Int)} {hd:Nat} {F:Nat→Prop} (h:Told w B l p L S v rs hd) (hk:Keeps F w w') (hF:∀k,F k→k<B) (hl:¬F l):Told w' B l p L S v rs hd:=by
 refine⟨?_,h.t,h.x,h.p.keep hk hl⟩
 obtain⟨vs,h1,h2⟩:=h.r
 refine⟨vs,owns_agree h1 (fun g hg=>?_),fun i hi=>?_⟩
 ·obtain⟨cur,hc⟩:=owns_block h1 hg
  exact hk.block g (lt_there hc) (fun hf=>by have:=own_lo h1 hg;have:=hF _ hf;omega)
 ·obtain⟨g,c,e,hr,hb,hx⟩:=h2 i hi
  exact⟨g,c,e,hr.agree (hk.block g hr.lt (fun hf=>by have:=hF _ hf;omega)),hb,hx⟩
section
variable {w:World} {F:Nat→Prop} {p s:Nat} {S:DS}
theorem Told.took {w:World} {B l p:Nat} {L:LG} {v:Value} {rs:List (List Int)} {hd:Nat} (h:Told w B l p L S.take v rs hd):Told w B l p L S v rs hd:=⟨h.r,h.t,h.x,h.p⟩
theorem Recalled.took {w':World} {B l a b:Nat} {e:Ending} (h:Recalled w' B l p (LG.new S a b) S.take e):if (oNew S a).2.2≠0 then e= .returned (.tuple #[.slice none 0 0, .int .i64 ((oNew S a).2.2:Int)])
 else if oTop S a b=1073741824 then e= .returned (.tuple #[.slice none 0 0, .int .i64 41])
 else∃v rs hd,e= .returned (.tuple #[v, .int .i64 0])∧Told w' B l p (LG.new S a b) S v rs hd:=by
 unfold Recalled at h
 change if (oNew S a).2.2≠0 then e= .returned (.tuple #[.slice none 0 0, .int .i64 ((oNew S a).2.2:Int)])
  else if oTop S a b=1073741824 then e= .returned (.tuple #[.slice none 0 0, .int .i64 41])
  else∃v rs hd,e= .returned (.tuple #[v, .int .i64 0])∧Told w' B l p (LG.new S a b) S.take v rs hd at h
 split at h
 ·rename_i h1;rw [if_pos h1];exact h
 ·rename_i h1
  rw [if_neg h1]
  split at h
  ·rename_i h2;rw [if_pos h2];exact h
  ·rename_i h2
   rw [if_neg h2]
   obtain⟨v,rs,hd,e,ht⟩:=h
   exact⟨v,rs,hd,e,ht.took⟩
end
end Go.Proofs.YtkiehemoiapkkaaGreat
end
section
namespace Go.Proofs.YtkiehemoiapkkaaGreat
open Go.RowKit Go.Shelf
attribute [local go_sem] Oper.semAt_some
def KpC (b c:Nat) (W W':World):Prop:=W'.heap[b]? =W.heap[b]?∧W'.heap[c]? =W.heap[c]?
theorem KpC.t {b c:Nat} {A B C:World} (h:KpC b c A B) (k:KpC b c B C):KpC b c A C:=⟨k.1.trans h.1,k.2.trans h.2⟩
theorem KpC.b {b c:Nat} {w:World} (hb:b<w.heap.size) (hc:c<w.heap.size) (W:World) (l:Nat) (o o':Obj) (hl:w.heap.size≤l) (_h:W.heap[l]? =some o) (_h1:o.isCells=false) (_h2:o.isWalk=false):KpC b c W (W.putObj l o'):=
   ⟨World.putObj_heap_other (by omega),World.putObj_heap_other (by omega)⟩
theorem KpC.refl (b c:Nat) (W:World):KpC b c W W:=⟨rfl,rfl⟩
end Go.Proofs.YtkiehemoiapkkaaGreat
end
section
namespace Go.Proofs.YtkiehemoiapkkaaGreat
open Go.RowKit
def partOf (d:List Int) (k:Nat):List Int:=(d.drop (492*k)).take 492
def cntOf (x:Nat):Nat:=(x+491) / 492
def appTo (L:LG) (S:DS) (s:Nat) (d:List Int) (k:Nat):Int×DS:=stepsTo S (fun j T=>aput T s L.f L.n L.ep (L.head+j) j (cntOf d.length) (partOf d j)) k
def LG.refuses (L:LG) (S:DS) (x:Nat):Int:=
 if L.unready S≠0 then L.unready S else if x=0 then 2 else if 8364<x then 7 else if 1073741824<L.head+cntOf x then 41 else if L.tail+L.n<L.head+cntOf x then 40 else 0
def LG.append (L:LG) (S:DS) (s:Nat) (d:List Int):Int×DS×LG:=
 if L.refuses S d.length≠0 then (L.refuses S d.length,S,L)
 else if (appTo L S s d (cntOf d.length)).1≠0 then ((appTo L S s d (cntOf d.length)).1,(appTo L S s d (cntOf d.length)).2,L)
 else (0,(appTo L S s d (cntOf d.length)).2,{L with head:=L.head+cntOf d.length})
section
variable {w:World} {F:Nat→Prop} {p s l:Nat} {S:DS} {L:LG}
end
end Go.Proofs.YtkiehemoiapkkaaGreat
end
section
namespace Go.Proofs.YtkiehemoiapkkaaGreat
open Go.RowKit
theorem aput_puts (S:DS) (s f n E P i c:Nat) (l:List Int):(aput S s f n E P i c l).2.puts.length≤S.puts.length+1:=by
 unfold aput
 split
 ·simp
 ·exact wr_puts _ _ _ _ _
section
variable {w W W':World} {F:Nat→Prop} {l p s m M n0:Nat} {L:LG} {S:DS} {d:List Int} {xs:List Nat}
end
end Go.Proofs.YtkiehemoiapkkaaGreat
end
section
namespace Go.Proofs.YtkiehemoiapkkaaGreat
open Go.RowKit Go.Shelf
attribute [local go_sem] Oper.semAt_some
theorem Src.sub {w:World} {b o n:Nat} {l:List Int} (h:Src w (some ⟨b,o,none⟩) n l) (i k:Nat) (hk:i+k≤n):Src w (some ⟨b,o+i,none⟩) k ((l.drop i).take k):=by
 have hl:=h.1
 refine⟨by simp;omega,by simp,?_⟩
 intro z hz t ht
 cases hz
 have h0:=h.2.2 _ rfl (i+t) (by omega)
 have e1:(Addr.add ⟨b,o,none⟩ (i+t))=Addr.add ⟨b,o+i,none⟩ t:=by
  unfold Addr.add
  by_cases h1:i+t=0
  ·obtain⟨rfl,rfl⟩:i=0∧t=0:=by omega
   simp
  ·by_cases h2:t=0
   ·subst h2
    rw [if_neg h1,if_pos rfl]
    rfl
   ·simp [h2,Nat.add_assoc]
 rw [e1] at h0
 rw [h0]
 congr 2
 simp [List.getD,ht]
section
variable {w:World} {F:Nat→Prop} {p s l:Nat} {S:DS} {L:LG}
end
end Go.Proofs.YtkiehemoiapkkaaGreat
end
section
namespace Go.Proofs.YtkiehemoiapkkaaGreat
open Go.RowKit
end Go.Proofs.YtkiehemoiapkkaaGreat
end
section
namespace Go.Proofs.YtkiehemoiapkkaaGreat
open Go.RowKit
def sbring (S:DS) (s home:Nat):CM→Int×DS
 | []=>(0,S)
 |q :: qs=>if (S.wr s ((home+q.1:Nat):Int) 512 q.2).1≠0 then S.wr s ((home+q.1:Nat):Int) 512 q.2 else sbring (S.wr s ((home+q.1:Nat):Int) 512 q.2).2 s home qs
structure LY where
 log:Nat
 home:Nat
 blocks:Nat
 nodes:Nat
 data:Nat
structure SG where
 y:LY
 L:LG
 ov:CM
 busy:Bool
structure TG where
 puts:CM
 bad:Int
 ended : Bool
def SG.block (G:SG) (S:DS) (b:Nat):List Int:=(CM.get G.ov b).getD (S.now (G.y.home+b))
def TG.sees (T:TG) (G:SG) (S:DS) (b:Nat):List Int:=(CM.get T.puts b).getD (G.block S b)
def TG.over (T:TG) (G:SG) (S:DS):Int:=if G.L.dead S=true then 3 else if T.ended=true then 4 else 0
def TG.state (T:TG) (G:SG) (S:DS):Int:=if T.over G S≠0 then T.over G S else T.bad
def TG.refusal (T:TG) (G:SG) (S:DS) (b:Int):Int:=if T.state G S≠0 then T.state G S else if b<0∨(G.y.blocks:Int)≤b then 11 else 0
end Go.Proofs.YtkiehemoiapkkaaGreat
end
section
namespace Go.Proofs.YtkiehemoiapkkaaGreat
open Go.RowKit Go.Maps
theorem Ra_agg (v:Value) (y:DataW Value×List MemPlace) (h:Ra v=some y):∃c,v=Value.agg c:=by
 unfold Ra at h
 split at h
 ·exact⟨_,rfl⟩
 ·cases h
theorem ChAt.met {w:World} {m:Nat} {ms:CM} {D:DataW Value} (h:ChAt w m ms D) {x:Int} {kl:Lit} {y:DataW Value} (hkey:keyOf Tryz.prog 3 (.int .i64 x)=some kl) (hat:∀zd,D.atKey kl zd=y):
  ∃k:Nat,x=(k:Int)∧kl=kk k∧(CM.get ms k).isSome=true:=by
 obtain⟨k,rfl,hp⟩:=h.key kl (Maps.has_true_of_atKey hat)
 obtain⟨x',ex,ek,_⟩:=Maps.keyOf_int_inv Tryz.underlying3 hkey
 have hx:x=(k:Int):=by cases ex;simpa [kk] using ek.symm
 exact⟨k,hx,rfl,hp⟩
theorem mem_keys {ms:CM} (ho:CM.Ok ms) (k:Nat):k∈CM.keys ms↔(CM.get ms k).isSome=true:=by
 constructor
 ·intro h
  obtain⟨q,hq,e⟩:=List.mem_map.1 h
  rw [CM.get_of_mem ho (k:=k) (c:=q.2) (by rw [←e];exact hq)]
  rfl
 ·intro h
  obtain⟨c,hc⟩:=Option.isSome_iff_exists.1 h
  exact List.mem_map.2 ⟨_,CM.get_mem hc,rfl⟩
theorem sorted_cm {ms:CM} (ho:CM.Ok ms) {ks:List Nat} (hn:ks.Nodup) (hm:∀k,k∈ks↔(CM.get ms k).isSome=true):
    ((ks.map (fun k:Nat=>(k:Int))).mergeSort fun x y=>decide (x≤y))=(CM.keys ms).map (fun k:Nat=>(k:Int)):=by
 have hlt:=CM.keys_ok ho
 have hn2:(CM.keys ms).Nodup:=hlt.imp (fun h=>Nat.ne_of_lt h)
 have hperm:=(List.perm_ext_iff_of_nodup hn hn2).2 (fun k=>by rw [hm,mem_keys ho])
 have hs2:((CM.keys ms).map (fun k:Nat=>(k:Int))).Pairwise (fun x y=>decide (x≤y)=true):=by
  refine List.pairwise_map.2 ?_
  exact hlt.imp (fun h=>by simp;omega)
 have tr:∀a b c:Int,decide (a≤b)=true→decide (b≤c)=true→decide (a≤c)=true:=fun a b c h1 h2=>by simp only [decide_eq_true_eq] at*;omega
 have to:∀a b:Int,(decide (a≤b) || decide (b≤a))=true:=fun a b=>by simp only [Bool.or_eq_true,decide_eq_true_eq];omega
 refine List.Perm.eq_of_pairwise (le:=fun a b=>decide (a≤b)=true) (fun a b _ _ h1 h2=>?_) (List.pairwise_mergeSort tr to _) hs2 ((List.mergeSort_perm _ _).trans (hperm.map _))
 simp only [decide_eq_true_eq] at h1 h2
 omega
set_option maxRecDepth 20000 in
set_option maxHeartbeats 8000000 in
theorem inOrder_low {w:World} {m:Nat} {ms:CM} {D:DataW Value} (h:ChAt w m ms D):
  Calls Tryz.prog 126 #[.map (some m)] w fun e w'=>∃a c,e= .returned (.slice a (CM.keys ms).length c)∧(CM.keys ms≠ []→∃g,a=some ⟨g,0,none⟩∧w.heap.size≤g∧RowAt w' 3 g c (is_ (CM.keys ms)))∧Below w.heap.size w w':=by
 obtain⟨i0,hi0,hz0,hz1,hz2⟩:=info_parts infoInt
 have hml:=h.lt
 have hsm:=Ch.small ⟨D,h⟩
 have H:=Hid.mk h
 clear h
 go_enter Tryz.func126,Tryz.ntmps126
 go_wp2_with (at_range;refine wpList_range_own _ rfl _ 94 rfl 3 113 keyInt Tryz.underlying94 Ra m ms.length D rfl H.out.own ?_;intro w0 hrg0 hg0 hs0;go_frame)
 have hb0:=(Below.refl _ w).grown hg0 (Nat.le_refl _) (fun j hj=>by cases hj)
 clear hg0
 go_loopw [3,4] (fun v _ wr=>∃(left:Lit→Bool) (cnt:Nat) (ks:List Nat),wr.ranges Tryz.prog 3 Ra m w.heap.size ms.length D left cnt∧wr.ownsRow (w.heap.size+1) 3 1 v ks.length (is_ ks)∧
   ks.Nodup∧(∀k,k∈ks↔(CM.get ms k).isSome=true∧left (kk k)=false)∧Below w.heap.size w wr∧ks.length+cnt≤ms.length∧w.heap.size+1≤wr.heap.size)
    (fun _ _ wr=>wr.rangeLeft m w.heap.size)
 case atStart=>
  refine⟨_,_, [],hrg0,World.ownsRow_nil _ _ _ _,List.nodup_nil,fun k=>?_,hb0,by simpa using H.out.own.size_le,by omega⟩
  constructor
  ·intro hk;cases hk
  ·rintro ⟨hp,hl⟩;obtain⟨c,hc⟩:=Option.isSome_iff_exists.1 hp;rw [(H.out.at' k c hc).1] at hl;cases hl
 case round=>
  clear hrg0 hb0 hs0
  obtain⟨left,cnt,ks,hrg,hrow,hnd,hmem,hb,hcs,hsz⟩:=hrel
  go_wp2_with (at_next;refine wpList_next_ranges _ rfl _ rfl 3 keyInt Ra (Value.int .i64) Value.agg (fun key kl hkey=>by obtain⟨x,rfl,_⟩:=Maps.keyOf_int_inv Tryz.underlying3 hkey;exact⟨x,rfl⟩) Ra_agg m w.heap.size ms.length _ _ _ rfl hrg ?_ ?_)
  ·intro _ hl0
   have hmem':∀k,k∈ks↔(CM.get ms k).isSome=true:=fun k=>by rw [hmem,hl0];simp
   have hsk:=sorted_cm H.out.ok hnd hmem'
   have hlen:ks.length=(CM.keys ms).length:=by
    have:=congrArg List.length hsk
    rw [List.length_mergeSort] at this
    simpa using this
   have hnil2:ks= []→CM.keys ms= []:=fun e=>by rw [e] at hlen;exact List.eq_nil_of_length_eq_zero hlen.symm
   rcases hrow.2 with ⟨rfl,hz⟩|⟨g,cap,cur,rfl,hg,hbk,h1,h2,h3,h4⟩
   ·have hks:=hnil2 (List.eq_nil_of_length_eq_zero hz)
    have hsn:=sortn wr
    clear hrow hmem hmem' hsk hrg H
    go_wp2_with (go_at_call 152;refine hsn.mono ?_;rintro e w9 ⟨rfl,hb9⟩)
    go_ret
    exact⟨none,0,by simp [hks],fun h=>absurd hks h,hb.trans (hb9.mono hb.size)⟩
   ·have hr9:RowAt wr 3 g cap ((ks.map (fun k:Nat=>(k:Int))).map (Value.int .i64)):=by
     rw [is_eq]
     refine⟨cur,hbk,by simpa using h3,?_,h2⟩
     simp only [Nat.mul_one] at h4
     rw [show (is_ ks).length=ks.length by simp [is_]]
     exact h4
    have hso:=sorts g cap _ wr hr9 (by simp;omega)
    simp only [List.length_map] at hso
    rw [hsk] at hso
    have Hlen:=Hid.mk hlen
    clear hrow hmem hmem' hsk hrg H hr9 hlen h4
    go_wp2_with (go_at_call 152;refine hso.mono ?_;rintro e w9 ⟨rfl,hr10,hk9⟩)
    go_ret
    refine⟨some ⟨g,0,none⟩,cap,?_,fun _=>⟨g,rfl,by omega,?_⟩,hb.trans (hk9.below (fun j hj=>by omega) hb.size)⟩
    ·rw [←Hlen.out];rfl
    ·rw [←is_eq];exact hr10
  ·intro x ca kl yd yp w2 cnt2 hkey hlk hv hat hrg2 hlt hg2 hs2 hen
   obtain⟨k,rfl,rfl,hp⟩:=H.out.met hkey hat
   have hnk:k∉ks:=fun hk=>by rw [((hmem k).1 hk).2] at hlk;cases hlk
   have hrow2:=hrow.kept hg2 (.inr (fun e=>by have:=hrow.lt _ e;omega))
   have hb2:=hb.grown hg2 hb.size (fun j hj=>by cases hj;exact Nat.le_refl _)
   have hsz2:w.heap.size+1≤w2.heap.size:=by omega
   have hmem2:∀j,j∈ks ++ [k]↔(CM.get ms j).isSome=true∧(left (kk j) && !(kk j).sameKey (kk k))=false:=fun j=>by
    rw [List.mem_append,List.mem_singleton,hmem,same_kk]
    by_cases e:j=k
    ·subst e;simp [hp]
    ·simp [e]
   have hlen:ks.length+1≤5000000000000:=by omega
   have Hmem2:=Hid.mk hmem2
   have Hrow2:=Hid.mk hrow2
   clear hkey hv hat hs2 hg2 hmem hmem2 hrow2
   go_wp2_with (at_builtin;refine wpList_append_own _ rfl _ _ 26 rfl (w.heap.size+1) 3 i0 (.int .i64 0) 1 8 Tryz.underlying26 hi0 hz0 hz1 hz2 rfl (by decide) _ _ _ rfl (Hrow2.out.alloc _) ⟨w2.heap.size,0,none⟩ 1 1 [.int .i64 (k:Int)] rfl rfl (cell_one_new _ _ _) (ints_oneCell .i64 [(k:Int)]) (by unfold maxLen;omega) (by omega) (by simp;omega) ?_)
   intro v' w3 hown' hgrow hnil
   have hgr2:=fun j e=>(hrow.lt j e).1
   have hrg3:=(hrg2.alloc (.cells #[.int .i64 (k:Int)] 3)).kept hgrow (fun e=>by have:=hgr2 m e.symm;omega) (fun e=>by have:=hgr2 _ e.symm;omega)
   have hb3:=(hb2.alloc (by omega) _).grown hgrow (by simp;omega) (fun j e=>by have:=hgr2 j e;omega)
   have hsz3:w.heap.size+1≤w3.heap.size:=by have:=hgrow.size;simp at this;omega
   have hnd2:(ks ++ [k]).Nodup:=List.nodup_append.2 ⟨hnd,by simp,by intro a ha b hb' e;simp at hb';subst hb';exact hnk (e▸ha)⟩
   have hown2:w3.ownsRow (w.heap.size+1) 3 1 v' (ks ++ [k]).length (is_ (ks ++ [k])):=by simpa [is_] using hown'
   have Hown2:=Hid.mk hown2
   have Hrg3:=Hid.mk hrg3
   clear hown' hgrow hnil hown2 hrg3 hrow Hrow2 hrg2 hen
   go_wp2
   go_roundw
   case rel=>exact⟨_,cnt2,ks ++ [k],Hrg3.out,Hown2.out,hnd2,Hmem2.out,hb3,by simp;omega,hsz3⟩
   case measure=>rw [Hrg3.out.left_eq,hrg.left_eq];exact hlt
theorem inOrder_any {w:World} {m:Nat} {ms:CM} (h:Ch w m ms):
  Calls Tryz.prog 126 #[.map (some m)] w fun e w'=>∃a c,e= .returned (.slice a (CM.keys ms).length c)∧(CM.keys ms≠ []→∃g,a=some ⟨g,0,none⟩∧w.heap.size≤g∧RowAt w' 3 g c (is_ (CM.keys ms)))∧Below w.heap.size w w':=by
 obtain⟨D,h⟩:=h
 exact inOrder_low h
end Go.Proofs.YtkiehemoiapkkaaGreat
end
