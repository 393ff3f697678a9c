import Derived.Test.YtkiehemoiapkkaaGreatW10
import Derived.Test.YtkiehemoiapkkaaGreatW11
import Derived.Test.YtkiehemoiapkkaaGreatW18
import Derived.Scope
import Derived.WalkMore
section
namespace Go.Proofs.YtkiehemoiapkkaaGreat
open Go.RowKit Go.Shelf
attribute [local go_sem] Oper.semAt_some
def numAt (d:List Int) (i:Nat):Nat:=le ((d.drop (2+4*i)).take 4)
structure PtI (w W:World) (n0:Nat) (ns:List Nat):Prop where
 bx:∃v,W.heap[w.heap.size]? =some (.cells #[v] 26 (0,0))∧W.ownsRow n0 3 1 v ns.length (is_ ns)
 kp:Below w.heap.size w W
 sz:n0≤W.heap.size
theorem PtI.grown {w W W':World} {n0:Nat} {ns:List Nat} {row:Option Nat} (h:PtI w W n0 ns) (hw:w.heap.size<n0) (hg:W.grownBy W' row) (hr:∀r,row=some r→n0≤r∧∃o:Obj,W.heap[r]? =some o∧o.isCells=false):PtI w W' n0 ns:=by
 obtain⟨⟨v,h1,h2⟩,h3,h4⟩:=h
 have hne:∀k cur t fz,W.heap[k]? =some (.cells cur t fz)→some k≠row:=fun k cur t fz hk e=>by
  obtain⟨_,o,ho,hc⟩:=hr k e.symm
  rw [hk] at ho
  cases ho
  cases hc
 refine⟨⟨v,(hg.block _ (lt_there h1) (hne _ _ _ _ h1)).trans h1,owns_agreeS h2 (fun g hgb=>?_)⟩,h3.grown hg h3.size (fun j e=>by have:=(hr j e).1;omega),Nat.le_trans h4 hg.size⟩
 obtain⟨cur,hc⟩:=owns_block h2 hgb
 exact hg.block g (lt_there hc) (hne _ _ _ _ hc)
theorem wpIn_region_heldQ {P:Program} {ops:Array Oper} {l n:Nat} {id:Nat} {a:Act} {w:World} {K:Act→World→Prop} {S:World→Prop} {Q:Exit→Act→World→Prop} (hm:P.follows .mixedOrders=true) (hd:noDefer ops=true) (h:wpAnyH P .any ops (Exit.then K (fun _ _ _=>False)) S ops.size (Array.replicate ops.size false) a w.drew) (hQ:∀a w,K a w→Q .normal a w):
    (Code.region id ops true).wpIn (Fence.wide.inRound l) n P Q a w:=
 wpIn_mono (wpIn_region_any hm (wpAnyIn_of hd (fun ⟨_,_,h⟩=>h) _ _ _ _ (wpAny_of_held _ _ _ _ h))) (fun e a w h=>by cases e <;> first|exact hQ _ _ h|exact h.elim)
theorem app_int {W:World} {B k:Nat} {v:Value} {vs:List Value} (hrow:W.ownsRow B 3 1 v k vs) (x:Int) (hk:k≤1000000) (hB:B≤W.heap.size):
  ∃g cap w',(Builtin.append_ #[26,26] 26 #[v, .slice (some ⟨W.heap.size,0,none⟩) 1 1]).run Tryz.prog (W.alloc (.cells #[.int .i64 x] 3))= .ok (.slice (some ⟨g,0,none⟩) (k+1) cap) w'∧w'.ownsRow B 3 1 (.slice (some ⟨g,0,none⟩) (k+1) cap) (k+1) (vs ++ [.int .i64 x])∧(W.alloc (.cells #[.int .i64 x] 3)).grownBy w' v.ownBlock∧(v.ownBlock=some g∨g=W.heap.size+1):=by
 obtain⟨i0,hi,hz0,hz1,hz2⟩:=info_parts infoInt
 obtain⟨g,cap,w',h1,h2,h3,h4,_⟩:=run_append_lies (P:=Tryz.prog) (W.alloc (.cells #[.int .i64 x] 3)) 26 26 B 3 i0 (.int .i64 0) 1 8 Tryz.underlying26 hi hz0 hz1 hz2 rfl (by decide) v k vs (owns_agree hrow (fun g hg=>by
   obtain⟨cur,hc⟩:=owns_block hrow hg
   exact Below.heap_alloc _ _ _ (lt_there hc))) ⟨W.heap.size,0,none⟩ 1 1 [.int .i64 x] rfl (World.news_of_block (cs:= #[.int .i64 x]) (t:=3) (fr:=(0,0)) (heap_alloc_new W _)) (by simp [Value.oneCell']) (by omega) (by unfold maxLen;omega) (by omega) (by simp;omega) _ rfl
 exact⟨g,cap,w',h1,h2,h3,h4.imp (fun e=>e) (fun e=>e.trans (by simp))⟩
theorem results_part {fn:Func} {p q r:Tmp} (h:fn.results= #[.cell p 26, .tmp q, .tmp r]) (tmps:Array Value) (w:World) (g:Nat) (a:Option Addr) (n c:Nat) (u v:Value)
    (hp:tmps.getD p undef= .pointer (some ⟨g,0,none⟩)) (hq:tmps.getD q undef=u) (hr:tmps.getD r undef=v) (hv:w.cell? ⟨g,0,none⟩=some (.slice a n c)):(results fn tmps).run Tryz.prog w= .ok (.tuple #[.slice a n c,u,v]) w:=by
 have hp':tmps[p]?.getD undef= .pointer (some ⟨g,0,none⟩):=by simpa using hp
 have hq':tmps[q]?.getD undef=u:=by simpa using hq
 have hr':tmps[r]?.getD undef=v:=by simpa using hr
 have h2:(loadVar 26 ⟨g,0,none⟩).run Tryz.prog w= .ok (.slice a n c) w:=by simp [go_sem,hv]
 simp [results,h,hp',hq',hr',asAddr,h2]
set_option maxRecDepth 20000 in
set_option maxHeartbeats 4000000 in
theorem parts_short (a:Option Addr) (n c:Nat) (w:World) (hn:n<2):
  Calls Tryz.prog 141 #[.slice a n c] w fun e w'=>e= .returned (.tuple #[.slice none 0 0, .slice none 0 0, .bool false])∧Below w.heap.size w w':=by
 have h1:(n:Int)<2:=by omega
 have hb:=below_box w (.cells #[.slice none 0 0] 26)
 have hbx:=heap_alloc_new w (.cells #[.slice none 0 0] 26)
 have c0:=cell_of_block hbx (j:=0) rfl
 have f0:=frozen_of_block hbx 0
 have HH:=(And.intro c0 hb)
 go_enter Tryz.func141,Tryz.ntmps141
 go_wp2
 refine bodyPost_ret (results_part rfl _ _ w.heap.size none 0 0 (.slice none 0 0) (.bool false) rfl rfl rfl HH.1) rfl ⟨rfl,HH.2⟩
set_option maxRecDepth 20000 in
set_option maxHeartbeats 4000000 in
theorem parts_bad (b o n c:Nat) (d:List Int) (w:World) (hs:Src w (some ⟨b,o,none⟩) n d) (hd:Bytes d) (hn:2≤n) (hnc:n≤c) (hn6:n≤1000000) (hbad:¬(1≤le (d.take 2)∧le (d.take 2)≤16)∨n≠2+516*le (d.take 2)):
  Calls Tryz.prog 141 #[.slice (some ⟨b,o,none⟩) n c] w fun e w'=>e= .returned (.tuple #[.slice none 0 0, .slice none 0 0, .bool false])∧Below w.heap.size w w':=by
 have h1:¬(n:Int)<2:=by omega
 have hdl:=hs.1
 have hb:=below_box w (.cells #[.slice none 0 0] 26)
 have hbx:=heap_alloc_new w (.cells #[.slice none 0 0] 26)
 have c0:=cell_of_block hbx (j:=0) rfl
 have f0:=frozen_of_block hbx 0
 have HH:=(And.intro c0 hb)
 have hs2:=(hs.sub 0 2 (by omega)).later hb
 rw [List.drop_zero,Nat.add_zero] at hs2
 have k1:=staken_any b o 2 c (d.take 2) _ hs2 (hd.take 2) (by omega)
 obtain⟨cnt,hcnt⟩:∃cnt,cnt=le (d.take 2):=⟨_,rfl⟩
 have hc65:cnt<65536:=by
  rw [hcnt]
  have:=le_lt (hd.take 2)
  have e:(d.take 2).length=2:=by simp;omega
  rw [e] at this
  exact this
 rw [←hcnt] at k1 hbad
 have hc2:(2:Int)≤(c:Int):=by omega
 have key:((cnt:Int)<1)∨(¬(cnt:Int)<1∧(16:Int)<(cnt:Int))∨(¬(cnt:Int)<1∧¬(16:Int)<(cnt:Int)∧((n:Int) != 2+(cnt:Int)*4+(cnt:Int)*512)=true):=by
  rw [bne_iff_ne]
  omega
 clear hb hbx hs2 hcnt hs hd hdl hbad hn
 rcases key with q|⟨q,q2⟩|⟨q,q2,q3⟩
 all_goals
  go_enter Tryz.func141,Tryz.ntmps141
  go_wp2_with fail
  refine k1.mono ?_
  rintro e w1 ⟨rfl,hw1⟩
  subst hw1
  go_wp2
  refine bodyPost_ret (results_part rfl _ _ w.heap.size none 0 0 (.slice none 0 0) (.bool false) rfl rfl rfl HH.1) rfl ⟨rfl,HH.2⟩
set_option maxRecDepth 100000 in
set_option maxHeartbeats 8000000 in
theorem parts_ok (b o n c cnt:Nat) (d:List Int) (w:World) (hs:Src w (some ⟨b,o,none⟩) n d) (hd:Bytes d) (hnc:n≤c) (hc6:c≤9223372036854775807) (hcnt:le (d.take 2)=cnt) (h1:1≤cnt) (h16:cnt≤16) (hn:n=2+516*cnt):
  Calls Tryz.prog 141 #[.slice (some ⟨b,o,none⟩) n c] w fun e w'=>∃g cap cc,e= .returned (.tuple #[.slice (some ⟨g,0,none⟩) cnt cap, .slice (some ⟨b,o+(2+4*cnt),none⟩) (512*cnt) cc, .bool true])∧512*cnt≤cc∧w.heap.size≤g∧RowAt w' 3 g cap (is_ ((List.range cnt).map (numAt d)))∧Below w.heap.size w w':=by
 have g1:¬(n:Int)<2:=by omega
 have hdl:=hs.1
 have hb:=below_box w (.cells #[.slice none 0 0] 26)
 have hbx:=heap_alloc_new w (.cells #[.slice none 0 0] 26)
 obtain⟨W1,hW1⟩:∃W1,W1=w.alloc (.cells #[.slice none 0 0] 26):=⟨_,rfl⟩
 have hz1:W1.heap.size=w.heap.size+1:=by rw [hW1,World.size_alloc]
 rw [←hW1] at hb hbx
 have hs2:=(hs.sub 0 2 (by omega)).later hb
 rw [List.drop_zero,Nat.add_zero] at hs2
 have k1:=staken_any b o 2 c (d.take 2) _ hs2 (hd.take 2) (by omega)
 rw [hcnt] at k1
 have g2:(2:Int)≤(c:Int):=by omega
 have q1:¬(cnt:Int)<1:=by omega
 have q2:¬(16:Int)<(cnt:Int):=by omega
 have q3:((n:Int) != 2+(cnt:Int)*4+(cnt:Int)*512)=false:=by
  rw [bne_eq_false_iff_eq]
  omega
 have HH:=Hid.mk (And.intro hb hbx)
 have HW:=Hid.mk hW1
 have HN:=Hid.mk (And.intro hn hcnt)
 have HS:=Hid.mk (And.intro hs hd)
 clear hb hbx hs2 hcnt hs hd hdl hn hW1
 refine(callsIn_wide (n:=6)).1 ?_
 refine callsIn_of_wp_marks Tryz.func141 rfl trivial ?_ rfl
 simp only [Tryz.ntmps141,List.size_toArray,List.length_cons,List.length_nil,Nat.reduceAdd,Nat.reduceSub,Array.replicate_succ,Array.replicate_zero,List.push_toArray,List.append_toArray,List.nil_append,List.cons_append]
 refine(wpIn_wide (n:=6)).2 ?_
 go_wp2_with fail
 rw [←HW.out]
 refine k1.mono ?_
 rintro e w1 ⟨rfl,hw1⟩
 have hw1':=hw1.symm
 subst hw1'
 clear hw1 k1
 obtain⟨fr,hfr⟩:∃fr:Nat,fr=2+4*cnt:=⟨_,rfl⟩
 have e1:(2:Int)+(cnt:Int)*4=(fr:Int):=by omega
 have e2:(2:Int)≤(fr:Int):=by omega
 have e3:(fr:Int)≤(c:Int):=by have:=HN.out.1;omega
 have e4:(2:Int)<(c:Int):=by have:=HN.out.1;omega
 rw [e1] at q3
 have HFr:=Hid.mk hfr
 clear hfr
 go_wp2_with fail
 obtain⟨N4,hN4⟩:∃N4,N4=fr-2:=⟨_,rfl⟩
 obtain⟨C2,hC2⟩:∃C2,C2=c-2:=⟨_,rfl⟩
 rw [←hN4,←hC2]
 have HX:=Hid.mk (And.intro hN4 hC2)
 have hN5:N4=4*cnt:=by have:=HFr.out;omega
 have hC5:N4≤C2:=by have:=HFr.out;have:=HN.out.1;omega
 have HN5:=Hid.mk hN5
 clear hN4 hC2 hN5
 refine(chunk4_any (some ⟨b,o+2,none⟩) N4 C2 W1).mono ?_
 rintro e w4 ⟨rfl,hw4⟩
 go_wp2_with fail
 refine(wpIn_wide (n:=6)).1 ?_
 have hb4:Below W1.heap.size W1 w4:=by rw [hw4];exact below_two _ _ _
 have hz4:w4.heap.size=w.heap.size+3:=by rw [hw4];simp;omega
 have hs4:w4.heap[w.heap.size+1]? =some (.cells #[.slice (some ⟨b,o+2,none⟩) N4 C2] 44 (0,0)):=by
  rw [hw4,←hz1]
  exact(Below.heap_alloc _ _ _ (by simp)).trans (heap_alloc_new _ _)
 have hn4:w4.heap[w.heap.size+1+1]? =some (.cells #[.int .i64 4] 3 (0,0)):=by
  rw [hw4,←hz1]
  have:=heap_alloc_new (W1.alloc (.cells #[.slice (some ⟨b,o+2,none⟩) N4 C2] 44)) (.cells #[.int .i64 4] 3)
  rwa [World.size_alloc] at this
 rw [←hw4]
 clear hw4
 have hB4:=HH.out.1.trans (hb4.mono HH.out.1.size)
 have hw4z:=hB4.size
 have hI0:PtI w w4 w4.heap.size ([]:List Nat):=⟨⟨.slice none 0 0,(hb4.block _ (by omega)).trans HH.out.2,World.ownsRow_nil _ _ _ _⟩,hB4,Nat.le_refl _⟩
 refine wpIn_rangeFunc_ownH rfl (by omega) (gf:=191) (lb:= #[.pointer (some ⟨w.heap.size+1,0,none⟩), .pointer (some ⟨w.heap.size+1+1,0,none⟩)]) rfl trivial (enters_of Tryz.func191 (by kernel_rfl) rfl)
    (chunk4_stops (6-1) (by omega) (w.heap.size+1) (w.heap.size+1+1) b (o+2) N4 C2 cnt (by have:=HN5.out;omega) (by have:=HN5.out;omega) hC5 (by have:=HN5.out;omega) w4 hs4 hn4) KpC.t (KpC.b (by omega) (by omega)) (Below.refl _ _) (fun _=>rfl)
    (fun pre W=>PtI w W w4.heap.size (pre.map (fun x:Fin cnt=>numAt d x.1)))
    (fun _ _ _=>False)
  ?hI ?hIx hI0
    (fun y a' _=>a'={tmps:= #[.slice (some ⟨b,o,none⟩) n c,undef, .pointer (some ⟨w.heap.size,0,none⟩), .slice none 0 0, .bool false, .int .i64 (cnt:Int), .int .i64 (fr:Int), .slice (some ⟨b,o+2+4*y.1,none⟩) (chLen4 N4 y.1) (chLen4 N4 y.1), .slice (some ⟨b,o,none⟩) n c, .int .i64 (n:Int), .bool false, .slice (some ⟨b,o,none⟩) n c, .slice (some ⟨b,o,none⟩) 2 c, .int .i64 (cnt:Int), .int .i64 (cnt:Int), .int .i64 ((cnt:Int)*4), .int .i64 (fr:Int), .int .i64 (cnt:Int), .bool (decide ((cnt:Int)<1)), .bool (decide ((cnt:Int)<1)), .int .i64 (cnt:Int), .bool (decide ((16:Int)<(cnt:Int))), .bool (decide ((cnt:Int)<1) || decide ((16:Int)<(cnt:Int))), .bool (decide ((cnt:Int)<1) || decide ((16:Int)<(cnt:Int))), .slice (some ⟨b,o,none⟩) n c, .int .i64 (n:Int), .int .i64 (fr:Int), .int .i64 (cnt:Int), .int .i64 ((cnt:Int)*512), .int .i64 ((fr:Int)+(cnt:Int)*512), .bool false, .bool (decide ((cnt:Int)<1) || decide ((16:Int)<(cnt:Int))), .slice (some ⟨b,o,none⟩) n c, .int .i64 (fr:Int), .slice (some ⟨b,o+2,none⟩) N4 C2, .func (.func 191) #[] #[.pointer (some ⟨w.heap.size+1,0,none⟩), .pointer (some ⟨w.heap.size+1+1,0,none⟩)], .slice (some ⟨b,o+2+4*y.1,none⟩) (chLen4 N4 y.1) (chLen4 N4 y.1),undef,undef,undef,undef,undef,undef,undef,undef,undef],defers:= []}) ?hAx ?assign ?body ?done ?stop
 case hI=>exact fun _ _ _ _ h hg hr=>h.grown (by omega) hg hr
 case hIx=>exact fun _ _ _ _ _ h _ _=>h.elim
 case hAx=>exact fun _ _ _ _ _ _ h _ _=>h
 case assign=>
  intro l' pre y W K hI hK
  simp only [encC4]
  gi_wp2
  exact hK _ _ (KeepsFrom.refl _ _) (KpC.refl _ _ _) hI rfl
 case body=>
  rintro l' pre y a' W hl' ⟨rr,hrr⟩ hI rfl hlt
  obtain⟨⟨v,hbx,hown⟩,hkp,hsz⟩:=hI
  have hy:=y.2
  have hmx:Tryz.prog.follows .mixedOrders=true:=by kernel_rfl
  have hcl:chLen4 N4 y.1=4:=by unfold chLen4;have:=HN5.out;omega
  have hsP:Src W (some ⟨b,o+2+4*y.1,none⟩) 4 ((d.drop (2+4*y.1)).take 4):=by
   have:=(HS.out.1.sub (2+4*y.1) 4 (by have:=HN.out.1;omega)).later (hkp.mono (Nat.le_refl _))
   rwa [←Nat.add_assoc] at this
  have hbP:Bytes ((d.drop (2+4*y.1)).take 4):=(HS.out.2.drop _).take 4
  have hk1:=staken_any b (o+2+4*y.1) 4 4 _ W.drew (hsP.later (below_drew (Below.refl _ _))) hbP (by omega)
  have hmp:(pre ++ [y]).map (fun x:Fin cnt=>numAt d x.1)=pre.map (fun x:Fin cnt=>numAt d x.1) ++ [numAt d y.1]:=by simp
  have hx:le ((d.drop (2+4*y.1)).take 4)=numAt d y.1:=rfl
  rw [hx] at hk1
  have hle:(pre.map (fun x:Fin cnt=>numAt d x.1)).length≤1000000:=by rw [List.length_map];omega
  generalize hX:numAt d y.1=X at hk1 hmp
  generalize hNs:pre.map (fun x:Fin cnt=>numAt d x.1)=ns at hmp hle hown
  obtain⟨g,cap,W5,hrun,ho5,hg5,hat5⟩:=app_int (W:=W.drew) hown (X:Int) hle hsz
  have hbb:=below_box W.drew (.cells #[.int .i64 (X:Int)] 3)
  have hzb:(W.drew.alloc (.cells #[.int .i64 (X:Int)] 3)).heap.size=W.heap.size+1:=by simp
  have hlo:∀k,v.ownBlock=some k→w4.heap.size≤k:=fun k e=>(hown.lt k e).1
  have hcell:∀k,v.ownBlock=some k→∃cur,W.heap[k]? =some (.cells cur 3 (0,0)):=fun k e=>owns_block hown e
  have hblk:∀k,k<W.heap.size→¬v.ownBlock=some k→W5.heap[k]? =W.heap[k]? :=fun k h1 h2=>(hg5.block k (by rw [hzb];omega) (fun e=>h2 e.symm)).trans (hbb.block k h1)
  have hz5:W.heap.size+1≤W5.heap.size:=by have:=hg5.size;rw [hzb] at this;exact this
  have hwl:=lt_there hbx
  have hnb:¬v.ownBlock=some w.heap.size:=fun e=>by have:=hlo _ e;omega
  have hbx5:=(hblk _ hwl hnb).trans hbx
  have s0:W.drew.cell? ⟨w.heap.size,0,none⟩=some v:=cell_of_block (w:=W) hbx (j:=0) rfl
  have s1:(W.drew.alloc (.cells #[.int .i64 (X:Int)] 3)).cell? ⟨w.heap.size,0,none⟩=some v:=cell_of_block ((hbb.block _ hwl).trans hbx) (j:=0) rfl
  have s5:W5.cell? ⟨w.heap.size,0,none⟩=some v:=cell_of_block hbx5 (j:=0) rfl
  have f5:W5.frozen? ⟨w.heap.size,0,none⟩=false:=frozen_of_block hbx5 0
  have hks:=keeps_set (F:=fun k=>k=w.heap.size) W5 rfl 0 (.slice (some ⟨g,0,none⟩) (ns.length+1) cap)
  have hb5:Below w.heap.size w W5:=⟨(hg5.os.trans hbb.os).trans hkp.os,(hg5.tape.trans hbb.tape).trans hkp.tape,(hg5.output.trans hbb.output).trans hkp.output,by have:=hkp.size;omega,fun k hk=>(hblk k (by have:=hkp.size;omega) (fun e=>by have:=hlo k e;omega)).trans (hkp.block k hk)⟩
  have HE:Hid (KeepsFrom w4.heap.size W (W5.setCell ⟨w.heap.size,0,none⟩ (.slice (some ⟨g,0,none⟩) (ns.length+1) cap))∧KpC (w.heap.size+1) (w.heap.size+1+1) W (W5.setCell ⟨w.heap.size,0,none⟩ (.slice (some ⟨g,0,none⟩) (ns.length+1) cap))∧PtI w (W5.setCell ⟨w.heap.size,0,none⟩ (.slice (some ⟨g,0,none⟩) (ns.length+1) cap)) w4.heap.size (ns ++ [X])):=by
   have hk5:KeepsFrom w4.heap.size W W5:=⟨by omega,fun k ob h1 h2 h3=>(hblk k (lt_there h2) (fun e=>by
    obtain⟨cur,hc⟩:=hcell k e
    rw [hc] at h2
    cases h2
    cases h3)).trans h2⟩
   refine⟨hk5.trans ((KeepsOthers.setCell _ _ _).from _),⟨(hks.block _ (by omega) (by omega)).trans (hblk _ (by omega) (fun e=>by have:=hlo _ e;omega)),(hks.block _ (by omega) (by omega)).trans (hblk _ (by omega) (fun e=>by have:=hlo _ e;omega))⟩,⟨⟨.slice (some ⟨g,0,none⟩) (ns.length+1) cap,(heap_setCell_same _ _ 0 _ _ _ hbx5).trans (by simp),?_⟩,hb5.trans (hks.below (fun k e=>by omega) hb5.size),by have:=hks.size;omega⟩⟩
   have e1:(ns ++ [X]).length=ns.length+1:=by simp
   have e2:is_ (ns ++ [X])=is_ ns ++ [.int .i64 (X:Int)]:=by simp [is_]
   rw [e1,e2]
   refine owns_agreeS ho5 (fun k e=>hks.block k ?_ ?_)
   ·obtain⟨cur,hc⟩:=owns_block ho5 e
    exact lt_there hc
   ·intro e2
    have h8:g=k:=by simpa [Value.ownBlock] using e
    rcases hat5 with h9|h9
    ·have:=hlo _ h9;omega
    ·have h10:g=W.heap.size+1:=h9
     omega
  rw [hcl]
  have HMp:=Hid.mk hmp
  clear hmp hsP hbP hown hbx hkp hb5 hks hblk hcell hlo hbb ho5 hg5 hat5 hbx5
  gi_wp2_with fail
  have HRun:=Hid.mk hrun
  have s2:(W.alloc (.cells #[.int .i64 (X:Int)] 3)).drew.cell? ⟨w.heap.size,0,none⟩=some v:=s1
  clear hrun
  refine wpIn_region_heldQ (S:=fun _=>True) (K:=fun _ W'=>W'=W5.setCell ⟨w.heap.size,0,none⟩ (.slice (some ⟨g,0,none⟩) (ns.length+1) cap)) hmx (by kernel_rfl) ?_ (fun a1 w1 e1=>by rw [e1];exact⟨HE.out.1,HE.out.2.1,by have h9:=HE.out.2.2;rw [←HMp.out] at h9;exact h9⟩)
  refine wpAnyH_take (i:=1) (v:= .slice (some ⟨b,o+2+4*y.1,none⟩) 4 4) rfl (by kernel_rfl) (by kernel_rfl) (by kernel_rfl) (fun _ _ _ h=>h) (Or.inl ⟨by rfl,?_⟩) trivial ?_
  ·intro W1 hS
   go_simp
  try simp only [Act.put,List.setIfInBounds_toArray]
  refine wpAnyH_ready (rs:= [0,2]) (by kernel_rfl) (by simp) (AllReadyH.cons rfl (fun K hK=>?_) (AllReadyH.cons rfl (fun K hK=>?_) AllReadyH.nil))
  ·skip
   go_simp
   refine hK.out _ _ trivial (fun _=>?_)
   clear hK K
   try simp only [Act.put,List.setIfInBounds_toArray,List.set_cons_zero,List.set_cons_succ]
   refine wpAnyH_ready (rs:= [2]) (by kernel_rfl) (by simp) (AllReadyH.cons rfl (fun K hK=>?_) AllReadyH.nil)
   go_simp
   refine hk1.mono ?_
   rintro e W2 ⟨rfl,hw2⟩
   have hw2':=hw2.symm
   subst hw2'
   refine hK.out _ _ trivial (fun _=>?_)
   clear hK K
   try simp only [Act.put,List.setIfInBounds_toArray,List.set_cons_zero,List.set_cons_succ]
   refine wpAnyH_ready (rs:= [3]) (by kernel_rfl) (by simp) (AllReadyH.cons rfl (fun K hK=>?_) AllReadyH.nil)
   go_simp
   refine hK.out _ _ trivial (fun _=>?_)
   clear hK K
   try simp only [Act.put,List.setIfInBounds_toArray,List.set_cons_zero,List.set_cons_succ]
   refine wpAnyH_ready (rs:= [4]) (by kernel_rfl) (by simp) (AllReadyH.cons rfl (fun K hK=>?_) AllReadyH.nil)
   rw [if_pos (by rfl)]
   refine wp_append_run _ _ 26 rfl _ _ _ rfl rfl HRun.out ?_
   refine hK.out _ _ trivial (fun _=>?_)
   clear hK K
   try simp only [Act.put,List.setIfInBounds_toArray]
   refine wpAnyH_ready (rs:= [5]) (by kernel_rfl) (by simp) (AllReadyH.cons rfl (fun K hK=>?_) AllReadyH.nil)
   go_simp
   refine hK.out _ _ trivial (fun _=>?_)
   clear hK K
   try simp only [Act.put,List.setIfInBounds_toArray,List.set_cons_zero,List.set_cons_succ]
   exact wpAnyH_done (by kernel_rfl) rfl _
  ·skip
   go_simp
   refine hk1.mono ?_
   rintro e W2 ⟨rfl,hw2⟩
   have hw2':=hw2.symm
   subst hw2'
   refine hK.out _ _ trivial (fun _=>?_)
   clear hK K
   try simp only [Act.put,List.setIfInBounds_toArray,List.set_cons_zero,List.set_cons_succ]
   refine wpAnyH_ready (rs:= [0,3]) (by kernel_rfl) (by simp) (AllReadyH.cons rfl (fun K hK=>?_) (AllReadyH.cons rfl (fun K hK=>?_) AllReadyH.nil))
   ·skip
    go_simp
    refine hK.out _ _ trivial (fun _=>?_)
    clear hK K
    try simp only [Act.put,List.setIfInBounds_toArray,List.set_cons_zero,List.set_cons_succ]
    refine wpAnyH_ready (rs:= [3]) (by kernel_rfl) (by simp) (AllReadyH.cons rfl (fun K hK=>?_) AllReadyH.nil)
    go_simp
    refine hK.out _ _ trivial (fun _=>?_)
    clear hK K
    try simp only [Act.put,List.setIfInBounds_toArray,List.set_cons_zero,List.set_cons_succ]
    refine wpAnyH_ready (rs:= [4]) (by kernel_rfl) (by simp) (AllReadyH.cons rfl (fun K hK=>?_) AllReadyH.nil)
    rw [if_pos (by rfl)]
    refine wp_append_run _ _ 26 rfl _ _ _ rfl rfl HRun.out ?_
    refine hK.out _ _ trivial (fun _=>?_)
    clear hK K
    try simp only [Act.put,List.setIfInBounds_toArray]
    refine wpAnyH_ready (rs:= [5]) (by kernel_rfl) (by simp) (AllReadyH.cons rfl (fun K hK=>?_) AllReadyH.nil)
    go_simp
    refine hK.out _ _ trivial (fun _=>?_)
    clear hK K
    try simp only [Act.put,List.setIfInBounds_toArray,List.set_cons_zero,List.set_cons_succ]
    exact wpAnyH_done (by kernel_rfl) rfl _
   ·skip
    go_simp
    refine hK.out _ _ trivial (fun _=>?_)
    clear hK K
    try simp only [Act.put,List.setIfInBounds_toArray,List.set_cons_zero,List.set_cons_succ]
    refine wpAnyH_ready (rs:= [0]) (by kernel_rfl) (by simp) (AllReadyH.cons rfl (fun K hK=>?_) AllReadyH.nil)
    go_simp
    refine hK.out _ _ trivial (fun _=>?_)
    clear hK K
    try simp only [Act.put,List.setIfInBounds_toArray,List.set_cons_zero,List.set_cons_succ]
    refine wpAnyH_ready (rs:= [4]) (by kernel_rfl) (by simp) (AllReadyH.cons rfl (fun K hK=>?_) AllReadyH.nil)
    rw [if_pos (by rfl)]
    refine wp_append_run _ _ 26 rfl _ _ _ rfl rfl HRun.out ?_
    refine hK.out _ _ trivial (fun _=>?_)
    clear hK K
    try simp only [Act.put,List.setIfInBounds_toArray]
    refine wpAnyH_ready (rs:= [5]) (by kernel_rfl) (by simp) (AllReadyH.cons rfl (fun K hK=>?_) AllReadyH.nil)
    go_simp
    refine hK.out _ _ trivial (fun _=>?_)
    clear hK K
    try simp only [Act.put,List.setIfInBounds_toArray,List.set_cons_zero,List.set_cons_succ]
    exact wpAnyH_done (by kernel_rfl) rfl _
 case done=>
  intro D xs W hD hxs hI hDD
  have hmp:xs.map Fin.val=List.range cnt:=hxs
  have hns:xs.map (fun x:Fin cnt=>numAt d x.1)=(List.range cnt).map (numAt d):=by
   rw [←hmp,List.map_map]
   rfl
  rw [hns] at hI
  obtain⟨⟨v,hbx,hown⟩,hkp,hsz⟩:=hI
  have hl:((List.range cnt).map (numAt d)).length=cnt:=by simp
  rw [hl] at hown
  obtain⟨g,cap,rfl,hg,hrow,_⟩:=RowAt.of_owns hown (fun e=>by
   rw [e] at hown
   obtain⟨_,⟨_,h0⟩|⟨g,cap,cur,h0,_⟩⟩:=hown
   ·omega
   ·cases h0)
  have c0:W.cell? ⟨w.heap.size,0,none⟩=some (.slice (some ⟨g,0,none⟩) cnt cap):=cell_of_block hbx (j:=0) rfl
  have f0:W.frozen? ⟨w.heap.size,0,none⟩=false:=frozen_of_block hbx 0
  have e6:(fr:Int)≤(n:Int):=by have:=HN.out.1;have:=HFr.out;omega
  have e7:¬c=fr:=by have:=HN.out.1;have:=HFr.out;omega
  have e8:(0:Int)≤(fr:Int):=by omega
  have c1:(W.setCell ⟨w.heap.size,0,none⟩ (.slice (some ⟨g,0,none⟩) cnt cap)).drew.cell? ⟨w.heap.size,0,none⟩=some (.slice (some ⟨g,0,none⟩) cnt cap):=cell_of_block (w:=W.setCell ⟨w.heap.size,0,none⟩ (.slice (some ⟨g,0,none⟩) cnt cap)) (heap_setCell_same _ _ 0 _ _ _ hbx) (j:=0) (by simp)
  have HR:=Hid.mk (And.intro hrow (And.intro hkp (And.intro hg hbx)))
  clear hown hmp hns hxs hrow hkp hbx
  go_wp2_with fail
  go_region_held3 (fun w'=>w'.cell? ⟨w.heap.size,0,none⟩=some (.slice (some ⟨g,0,none⟩) cnt cap)∧w'.frozen? ⟨w.heap.size,0,none⟩=false) (first|exact⟨c1,by go_simp⟩|go_keep) (fail)
  have hks:=keeps_set (F:=fun k=>k=w.heap.size) W rfl 0 (.slice (some ⟨g,0,none⟩) cnt cap)
  have hbz:(W.setCell ⟨w.heap.size,0,none⟩ (.slice (some ⟨g,0,none⟩) cnt cap)).heap[w.heap.size]? =some (.cells #[.slice (some ⟨g,0,none⟩) cnt cap] 26 (0,0)):=(heap_setCell_same _ _ 0 _ _ _ HR.out.2.2.2).trans (by simp)
  have hDl:D<W.heap.size:=lt_there hDD
  have hDD2:(W.setCell ⟨w.heap.size,0,none⟩ (.slice (some ⟨g,0,none⟩) cnt cap)).drew.heap[D]? =some (.deferred (some [])):=(hks.block D hDl (by omega)).trans hDD
  have hkb:Below w.heap.size w (W.setCell ⟨w.heap.size,0,none⟩ (.slice (some ⟨g,0,none⟩) cnt cap)).drew:=HR.out.2.1.trans (below_drew (hks.below (fun k e=>by omega) HR.out.2.1.size))
  have hrz:RowAt (W.setCell ⟨w.heap.size,0,none⟩ (.slice (some ⟨g,0,none⟩) cnt cap)).drew 3 g cap (is_ ((List.range cnt).map (numAt d))):=HR.out.1.agree (hks.block g HR.out.1.lt (by have:=HR.out.2.2.1;omega))
  obtain⟨WZ,hWZ⟩:∃WZ,WZ=(W.setCell ⟨w.heap.size,0,none⟩ (.slice (some ⟨g,0,none⟩) cnt cap)).drew:=⟨_,rfl⟩
  have hbz':WZ.heap[w.heap.size]? =some (.cells #[.slice (some ⟨g,0,none⟩) cnt cap] 26 (0,0)):=by rw [hWZ];exact hbz
  rw [←hWZ] at hDD2 hkb hrz⊢
  have hgD:g≠D:=fun e=>by
   obtain⟨cur,hc,_⟩:=hrz
   rw [e,hDD2] at hc
   cases hc
  have hpo:∀k,k≠D→(WZ.putObj D (.deferred none)).heap[k]? =WZ.heap[k]? :=fun k hk=>World.putObj_heap_other hk
  have hcz:(WZ.putObj D (.deferred none)).cell? ⟨w.heap.size,0,none⟩=some (.slice (some ⟨g,0,none⟩) cnt cap):=cell_of_block ((hpo _ (by omega)).trans hbz') (j:=0) rfl
  have hnf:n-fr=512*cnt:=by have:=HN.out.1;have:=HFr.out;omega
  have hcf:512*cnt≤c-fr:=by have:=HN.out.1;have:=HFr.out;omega
  have hkp2:Keeps (fun k=>k=D) WZ (WZ.putObj D (.deferred none)):=⟨rfl,rfl,rfl,by simp [World.putObj],fun k _ hn=>hpo k hn⟩
  have HZ:=Hid.mk (And.intro hDD2 (And.intro hcz (And.intro hnf (And.intro hcf (And.intro (hrz.agree (hpo g hgD)) (hkb.trans (hkp2.below (fun k e=>by omega) hkb.size)))))))
  clear hDD2 hcz hnf hcf hrz hkb hbz hbz' hks hpo hWZ c0 f0 c1 hkp2
  go_wp2
  refine⟨by simp, .inl ⟨_,_,rfl,run_takeDeferred HZ.out.1,?_⟩⟩
  refine⟨_,results_part rfl _ _ w.heap.size (some ⟨g,0,none⟩) cnt cap (.slice (some ⟨b,o+fr,none⟩) (n-fr) (c-fr)) (.bool true) rfl rfl rfl HZ.out.2.1,?_⟩
  refine⟨g,cap,c-fr,?_,HZ.out.2.2.2.1,by have:=HR.out.2.2.1;omega,HZ.out.2.2.2.2.1,HZ.out.2.2.2.2.2⟩
  rw [HZ.out.2.2.1,HFr.out]
 case stop=>
  rintro D c pre W hD _ h hDD
  exact h.elim
end Go.Proofs.YtkiehemoiapkkaaGreat
end
section
namespace Go.Proofs.YtkiehemoiapkkaaGreat
open Go.RowKit Go.Maps
theorem numAt_lt {d:List Int} (hd:Bytes d) (i:Nat):numAt d i<4294967296:=by
 have:=le_lt ((hd.drop (2+4*i)).take 4)
 have e:((d.drop (2+4*i)).take 4).length≤4:=by rw [List.length_take];omega
 have h2:2 ^ (8*((d.drop (2+4*i)).take 4).length)≤2 ^ 32:=Nat.pow_le_pow_right (by omega) (by omega)
 have h3:(2:Nat) ^ 32=4294967296:=rfl
 unfold numAt
 omega
theorem nums_succ (d:List Int) (i:Nat):(List.range (i+1)).map (numAt d)=(List.range i).map (numAt d) ++ [numAt d i]:=by
 rw [List.range_succ,List.map_append]
 rfl
theorem zipc_at:∀(ks:List Nat) (r:List Int) (i:Nat) (hi:i<ks.length),(zipc ks r).take (i+1)=(zipc ks r).take i ++ [(ks[i],(r.drop (512*i)).take 512)]
 | [],_,i,hi=>by simp at hi
 |k :: ks,r,0,_=>by simp [zipc]
 |k :: ks,r,i+1,hi=>by
  rw [zipc,List.take_succ_cons,List.take_succ_cons,zipc_at ks (r.drop 512) i (by simpa using hi),List.drop_drop,show 512+512*i=512*(i+1) by omega]
  rfl
set_option maxRecDepth 20000 in
set_option maxHeartbeats 8000000 in
theorem sread_no {w:World} {m:Nat} (_hml:m<w.heap.size) (a:Option Addr) (n c:Nat) (blocks:Nat)
    (hp:Calls Tryz.prog 141 #[.slice a n c] w fun e w'=>e= .returned (.tuple #[.slice none 0 0, .slice none 0 0, .bool false])∧Below w.heap.size w w'):
  Calls Tryz.prog 106 #[.map (some m), .slice a n c, .int .i64 (blocks:Int)] w fun e w'=>e= .returned (.bool false)∧Below w.heap.size w w':=by
 go_enter Tryz.func106,Tryz.ntmps106
 go_wp2_with fail
 refine hp.mono ?_
 rintro e w1 ⟨rfl,hb⟩
 go_wp2
 go_loopw [9,23] (fun wv iv wr=>wv= .bool false∧iv= .int .i64 0∧wr=w1) (fun _ _ _=>0)
 case atStart=>exact⟨rfl,rfl,rfl⟩
 case round=>
  obtain⟨rfl,rfl,hw⟩:=hrel
  have hw':=hw.symm
  subst hw'
  go_wp2
  go_ret
  exact⟨rfl,hb⟩
set_option maxRecDepth 20000 in
set_option maxHeartbeats 8000000 in
theorem sread_ok {w:World} {m:Nat} {ms:CM} (h:Ch w m ms) (b o n c cnt:Nat) (d:List Int) (hs:Src w (some ⟨b,o,none⟩) n d) (hd:Bytes d) (hnc:n≤c) (hcc:c≤9223372036854775807) (ham:b≠m) (blocks:Nat) (hbl:blocks≤2048) (hcnt:le (d.take 2)=cnt) (h1:1≤cnt) (h16:cnt≤16) (hn:n=2+516*cnt):
  Calls Tryz.prog 106 #[.map (some m), .slice (some ⟨b,o,none⟩) n c, .int .i64 (blocks:Int)] w fun e w'=>Keeps (fun k=>k=m) w w'∧((∃cs,rdRec blocks d=some cs∧e= .returned (.bool true)∧Ch w' m (CM.over ms cs))∨(rdRec blocks d=none∧e= .returned (.bool false)∧Ch w' m ms)):=by
 have hml:=h.lt
 have hdl:d.length=n:=hs.1
 have k1:=parts_ok b o n c cnt d w hs hd hnc hcc hcnt h1 h16 hn
 have hR:=rdRec_from (blocks:=blocks) (d:=d) (by omega) (by rw [hcnt];omega)
 rw [hcnt] at hR
 have hsC:=hs.sub (2+4*cnt) (512*cnt) (by omega)
 have hstep:∀lo i,i<cnt→rdFrom blocks d cnt ((List.range i).map (numAt d)) lo i=if lo≤numAt d i∧numAt d i<blocks then rdFrom blocks d cnt ((List.range (i+1)).map (numAt d)) (numAt d i+1) (i+1) else none:=fun lo i hi=>by
  have:=rdFrom_step (blocks:=blocks) (d:=d) (c:=cnt) (lo:=lo) (i:=i) (ks:=(List.range i).map (numAt d)) hi (by omega)
  rw [nums_succ]
  exact this
 obtain⟨rest,hrest⟩:∃rest,rest=d.drop (2+4*cnt):=⟨_,rfl⟩
 have hrl:rest.length=512*cnt:=by rw [hrest,List.length_drop];omega
 have hrb:Bytes rest:=by rw [hrest];exact hd.drop _
 rw [←hrest,List.take_of_length_le (by omega)] at hsC
 have hend:∀lo,rdFrom blocks d cnt ((List.range cnt).map (numAt d)) lo cnt=some (zipc ((List.range cnt).map (numAt d)) rest):=fun lo=>by
  rw [hrest]
  exact rdFrom_end (by simp) (by omega)
 have hnl:=fun i=>numAt_lt hd i
 obtain⟨R,hRR⟩:∃R,R=rdRec blocks d:=⟨_,rfl⟩
 rw [←hRR] at hR⊢
 have hkeys:∀cs,R=some cs→∀x∈cs,x.1<blocks:=fun cs h=>rdRec_keys (by rw [←hRR];exact h)
 have HM:=Hid.mk (And.intro h (And.intro hsC (And.intro hR (And.intro hend (And.intro hstep (And.intro hrb (And.intro hrl hkeys)))))))
 clear hs hd hRR hR hend hstep hrest hdl hn hcnt hsC h hrb hrl hkeys
 go_enter Tryz.func106,Tryz.ntmps106
 go_wp2_with fail
 refine k1.mono ?_
 rintro e w1 ⟨g,cap,cc,rfl,hcc2,hg,hrow,hb1⟩
 have hz1:=hb1.size
 have HW:=Hid.mk (And.intro hrow (And.intro hb1 (And.intro hcc2 (And.intro hnc hcc))))
 clear k1 hrow hb1 hcc2 hnc hcc
 go_wp2
 go_loopw [9,10,23] (fun wv av iv wr=>∃(i lo:Nat) (A:Int) (wh:Bool),iv= .int .i64 i∧av= .int .i64 A∧wv= .bool wh∧A=(lo:Int)-1∧lo≤4294967297∧i≤cnt∧wr=w1∧(wh=true→R=rdFrom blocks d cnt ((List.range i).map (numAt d)) lo i)∧(wh=false→R=none)) (fun _ _ iv _=>cnt-(intOf iv).toNat)
 case atStart=>exact⟨0,0,-1,true,rfl,rfl,rfl,by omega,by omega,by omega,rfl,fun _=>HM.out.2.2.1,fun h=>by cases h⟩
 case round=>
  obtain⟨i,lo,A,wh,rfl,rfl,rfl,hA,hlo,hi,hw,hT,hF⟩:=hrel
  have hw':=hw.symm
  subst hw'
  have HA:=Hid.mk (And.intro hA (And.intro hT hF))
  clear hw hA hT hF
  by_cases hlt:i<cnt
  ·have hlt':(i:Int)<(cnt:Int):=by omega
   have hil:i<((List.range cnt).map (numAt d)).length:=by simpa using hlt
   have q0:w1.cell? ⟨g,i,none⟩=some (.int .i64 (numAt d i:Int)):=HW.out.1.cell (j:=i) (by simp [is_,hlt])
   have hnK:=hnl i
   have hst:=HM.out.2.2.2.2.1 lo i hlt
   generalize hK:numAt d i=K at*
   have HK:=Hid.mk hK
   have HSt:=Hid.mk hst
   clear hK hst hnl
   cases wh with
   |false=>
    have hF:=HA.out.2.2 rfl
    have HF:=Hid.mk hF
    clear hF
    go_wp2
    go_roundw
    case rel=>exact⟨i+1,K+1,_,false,by go_num,rfl,rfl,by omega,by omega,by omega,trivial,(fun h=>by cases h),fun _=>HF.out⟩
    case measure=>simp [intOf];omega
   |true=>
    have hT:=HA.out.2.1 rfl
    rw [HSt.out] at hT
    by_cases kb:lo≤K∧K<blocks
    ·rw [if_pos kb] at hT
     have kb1:A<(K:Int):=by have:=HA.out.1;omega
     have kb2:(K:Int)<(blocks:Int):=by omega
     have HF:=Hid.mk hT
     clear hT kb
     go_wp2
     go_roundw
     case rel=>exact⟨i+1,K+1,_,true,by go_num,rfl,rfl,by omega,by omega,by omega,trivial,(fun _=>HF.out),fun h=>by cases h⟩
     case measure=>simp [intOf];omega
    ·rw [if_neg kb] at hT
     have key:(¬A<(K:Int))∨(A<(K:Int)∧¬(K:Int)<(blocks:Int)):=by have:=HA.out.1;omega
     have HF:=Hid.mk hT
     clear hT kb
     rcases key with kb1|⟨kb1,kb2⟩
     all_goals
      go_wp2
      go_roundw
      case rel=>exact⟨i+1,K+1,_,false,by go_num,rfl,rfl,by omega,by omega,by omega,trivial,(fun h=>by cases h),fun _=>HF.out⟩
      case measure=>simp [intOf];omega
  ·have hlt':¬(i:Int)<(cnt:Int):=by omega
   obtain rfl:i=cnt:=by omega
   cases wh with
   |false=>
    have HF:=Hid.mk (HA.out.2.2 rfl)
    clear HA
    go_wp2
    go_ret
    exact⟨Keeps.of_below _ HW.out.2.1, .inr ⟨HF.out,rfl,HM.out.1.later HW.out.2.1⟩⟩
   |true=>
    have hT:=HA.out.2.1 rfl
    rw [HM.out.2.2.2.1 lo] at hT
    have HF:=Hid.mk hT
    obtain⟨ks,hks⟩:∃ks,ks=(List.range i).map (numAt d):=⟨_,rfl⟩
    have hkl:ks.length=i:=by rw [hks];simp
    have HKs:=Hid.mk (And.intro hks hkl)
    clear HA hT hks hkl hnl
    go_wp2
    go_loopw [44] (fun iv wx=>∃j:Nat,iv= .int .i64 j∧j≤i∧Ch wx m (CM.over ms ((zipc ks rest).take j))∧Keeps (fun k=>k=m) w1 wx) (fun iv _=>i-(intOf iv).toNat)
    case atStart=>exact⟨0,rfl,Nat.zero_le _,HM.out.1.later HW.out.2.1,Keeps.refl _ _⟩
    case round=>
     obtain⟨j,rfl,hj,hch,hkp⟩:=hrel
     have HI:=Hid.mk (And.intro hch hkp)
     clear hch hkp
     by_cases hlt2:j<i
     ·have hlt2':(j:Int)<(i:Int):=by omega
      have hgm:g≠m:=by omega
      have hjk:j<ks.length:=by rw [HKs.out.2];exact hlt2
      have hrowx:=HW.out.1.agree (HI.out.2.block g HW.out.1.lt hgm)
      have q0:wr.cell? ⟨g,j,none⟩=some (.int .i64 (ks[j]:Int)):=by
       refine hrowx.cell (j:=j) ?_
       rw [←HKs.out.1]
       simp [is_,hjk]
      obtain⟨J,hJ⟩:∃J:Nat,J=512*j:=⟨_,rfl⟩
      have e1:(j:Int)*512=(J:Int):=by omega
      have e2:((j:Int)+1)*512=((J+512:Nat):Int):=by omega
      have e3:(J:Int)≤((J+512:Nat):Int):=by omega
      have e4:((J+512:Nat):Int)≤(cc:Int):=by have:=HW.out.2.2.1;omega
      have e5:(0:Int)≤(J:Int):=by omega
      have e6:¬cc=J:=by have:=HW.out.2.2.1;omega
      have hC:((rest.drop J).take 512).length=512:=by rw [List.length_take,List.length_drop,HM.out.2.2.2.2.2.2.1];omega
      have hCb:Bytes ((rest.drop J).take 512):=(HM.out.2.2.2.2.2.1.drop _).take 512
      have hsx:Src wr (some ⟨b,o+(2+4*i),none⟩) (512*i) rest:=(HM.out.2.1.later HW.out.2.1).avoid HI.out.2 (fun y hy _=>by cases hy;exact ham)
      have hsrc:=hsx.sub J 512 (by omega)
      have hz:=zipc_at ks rest j hjk
      rw [show 512*j=J from hJ.symm] at hz
      have hinfo:=infoConL hC
      generalize (rest.drop J).take 512=C at*
      have hkb:ks[j] <2048:=by
       have h8:(ks[j],C)∈zipc ks rest:=List.mem_of_mem_take (i:=j+1) (by rw [hz];exact List.mem_append_right _ (List.mem_singleton.2 rfl))
       have h9:=HM.out.2.2.2.2.2.2.2 _ (by rw [HF.out,←HKs.out.1]) _ h8
       have h10:ks[j] <blocks:=h9
       omega
      obtain⟨wU,hrun,hchU,hkU,hszU⟩:=HI.out.1.store ks[j] hkb C hC hCb
      generalize ks[j]=K at*
      obtain⟨A,hA⟩:∃A,A=bs C:=⟨_,rfl⟩
      have hra:wr.rangeAt b (o+(2+4*i)+J) A:=by rw [hA];exact src_range hsrc
      rw [←hA] at hinfo
      have hrun':(Instr.mapUpdate 94 (.map (some m)) (.int .i64 (K:Int)) (.agg A.toArray)).run Tryz.prog wr= .ok () wU:=by rw [hA];exact hrun
      have HU:Hid (Ch wU m (CM.over ms ((zipc ks rest).take (j+1)))∧Keeps (fun k=>k=m) w1 wU):=⟨by rw [hz,over_snoc];exact hchU,HI.out.2.trans hkU (fun _ h=> .inl h)⟩
      have hac:=arrayCon
      clear hrun hchU hkU hszU hsrc hsx hz hC hCb hA hJ hrowx hgm hjk HI
      go_wp2_with (refine wpList_load_mid rfl 113 _ rfl b _ rfl A _ hra Tryz.underlying113 rfl hinfo ?_)
      go_roundw
      case rel=>exact⟨j+1,by go_num,by omega,HU.out⟩
      case measure=>simp [intOf];omega
     ·have hlt2':¬(j:Int)<(i:Int):=by omega
      obtain rfl:j=i:=by omega
      have HE:Hid (Ch wr m (CM.over ms (zipc ks rest))∧Keeps (fun k=>k=m) w wr):=⟨by
       have:=HI.out.1
       rwa [List.take_of_length_le (by rw [zipc_len,HKs.out.2];omega)] at this,(Keeps.of_below (fun k=>k=m) HW.out.2.1).trans HI.out.2 (fun _ h=> .inl h)⟩
      clear HI
      go_wp2
      go_ret
      exact⟨HE.out.2, .inl ⟨_,HF.out,rfl,by rw [←HKs.out.1];exact HE.out.1⟩⟩
theorem sread_any {w:World} {m:Nat} {ms:CM} (h:Ch w m ms) (a:Option Addr) (n c:Nat) (d:List Int) (hs:Src w a n d) (hd:Bytes d) (hn:n≤1000000) (hnc:n≤c) (hcc:c≤9223372036854775807) (ham:∀x,a=some x→0<n→x.block≠m) (blocks:Nat) (hbl:blocks≤2048):
  Calls Tryz.prog 106 #[.map (some m), .slice a n c, .int .i64 (blocks:Int)] w fun e w'=>Keeps (fun k=>k=m) w w'∧((∃cs,rdRec blocks d=some cs∧e= .returned (.bool true)∧Ch w' m (CM.over ms cs))∨(rdRec blocks d=none∧e= .returned (.bool false)∧Ch w' m ms)):=by
 have hdl:=hs.1
 by_cases h2:n<2
 ·refine(sread_no h.lt a n c blocks (parts_short a n c w h2)).mono ?_
  rintro e w' ⟨rfl,hb⟩
  exact⟨Keeps.of_below _ hb, .inr ⟨rdRec_no (.inl (by omega)),rfl,h.later hb⟩⟩
 ·obtain⟨b,o,rfl⟩:=src_spot hs (by omega)
  by_cases hg:1≤le (d.take 2)∧le (d.take 2)≤16∧n=2+516*le (d.take 2)
  ·exact sread_ok h b o n c (le (d.take 2)) d hs hd hnc hcc (ham _ rfl (by omega)) blocks hbl rfl hg.1 hg.2.1 hg.2.2
  ·refine(sread_no h.lt (some ⟨b,o,none⟩) n c blocks (parts_bad b o n c d w hs hd (by omega) hnc hn (by omega))).mono ?_
   rintro e w' ⟨rfl,hb⟩
   refine⟨Keeps.of_below _ hb, .inr ⟨rdRec_no (.inr ?_),rfl,h.later hb⟩⟩
   by_cases h3:1≤le (d.take 2)∧le (d.take 2)≤16
   ·exact .inr (fun e=>hg ⟨h3.1,h3.2,by omega⟩)
   ·exact .inl h3
end Go.Proofs.YtkiehemoiapkkaaGreat
end
