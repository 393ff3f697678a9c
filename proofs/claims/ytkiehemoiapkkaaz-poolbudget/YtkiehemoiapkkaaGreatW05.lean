import Derived.Test.YtkiehemoiapkkaaGreatW04
import Derived.OwnWalk
import Derived.Laws.AppendOwnNone
section
namespace Go.Proofs.YtkiehemoiapkkaaGreat
open Go.RowKit
set_option maxRecDepth 20000 in
set_option maxHeartbeats 4000000 in
theorem sopen_no1 (a:Option Addr) (n c:Nat) (w:World) (hn:n≠512):
  Calls Tryz.prog 188 #[.slice a n c] w fun e w'=>e= .returned (.tuple #[.slice none 0 0, .int .i64 2])∧Below w.heap.size w w':=by
 have hz:=zeroSec
 have hs:=sectorOf_no a n c w hn
 have hinfo:=infoSecZ
 have hone:=zsec_one
 generalize zsec=Z at*
 have hall:Z.all Value.oneCell'=true:=all_oneCell_toArray hone
 go_enter Tryz.func188,Tryz.ntmps188
 go_wp2_with fail
 refine hs.mono ?_
 rintro e w1 ⟨rfl,hb1⟩
 have hw1:(w1.alloc (.cells Z 188)).heap[w1.heap.size]? =some (.cells Z 188 (0,0)):=heap_alloc_new _ _
 have hth:(w1.alloc (.cells Z 188)).there w1.heap.size 0 Z.toList.length:=there_of hw1 (by simp)
 have hB1:Below w.heap.size w (w1.alloc (.cells Z 188)):=hb1.alloc hb1.size _
 have hsz:=hb1.size
 have hB6:=(hB1.trans ((Keeps.setCells (F:=fun j=>j=w1.heap.size) rfl Z.toList 0 _).below (fun j hj=>by omega) hB1.size))
 go_wp2_with (refine wpList_store_mid rfl 188 _ _ rfl w1.heap.size 0 Z rfl rfl ?h1 ?h2 hall ?_)
 case h1=>simpa using hth
 case h2=>simpa using hinfo
 go_ret2
 exact⟨rfl,hB6⟩
set_option maxRecDepth 20000 in
set_option maxHeartbeats 4000000 in
theorem sopen_all (b o c:Nat) (s:List Int) (w:World) (hs:Src w (some ⟨b,o,none⟩) 512 s) (hbs:Bytes s):
  Calls Tryz.prog 188 #[.slice (some ⟨b,o,none⟩) 512 c] w fun e w'=>∃v,e= .returned (.tuple #[v, .int .i64 (((sopens s).2:Nat):Int)])∧Lst w' w.heap.size v (sopens s).1∧Below w.heap.size w w':=by
 have hz:=zeroSec
 have hs1:=sectorOf_ok b o c s w hs
 have hinfo:=infoSecL (l:=s) hs.1
 have hone:=bs_one s
 have hll:(bs s).length=512:=by rw [bs,List.length_map,hs.1]
 have hsl:=hs.1
 have hall:=all_oneCell_toArray hone
 obtain⟨F,hF⟩:∃F,F=bs s:=⟨_,rfl⟩
 rw [←hF] at hs1 hinfo hone hll hall
 have HF:=Hid.mk hF
 clear hone hs hF
 go_enter Tryz.func188,Tryz.ntmps188
 go_wp2_with fail
 refine hs1.mono ?_
 rintro e w1 ⟨rfl,hb1⟩
 have hw1:(w1.alloc (.cells zsec 188)).heap[w1.heap.size]? =some (.cells zsec 188 (0,0)):=heap_alloc_new _ _
 have hth:=there_of hw1 zsec_size
 rw [←hll] at hth
 have hB1:Below w.heap.size w (w1.alloc (.cells zsec 188)):=hb1.alloc hb1.size _
 have hsz:=hb1.size
 have hB2:=hB1.trans ((Keeps.setCells (F:=fun j=>j=w1.heap.size) rfl F 0 _).below (fun j hj=>by omega) hB1.size)
 have hblk:=blk_stored (l:=s) hw1 (by rw [zsec_size,hsl])
 rw [←HF.out] at hblk
 obtain⟨w2,hw2⟩:∃w2,w2=(w1.alloc (.cells zsec 188)).setCells w1.heap.size 0 F:=⟨_,rfl⟩
 rw [←hw2] at hblk hB2
 have hsrc:Src w2 (some ⟨w1.heap.size,0,none⟩) 512 s:=by
  have:=hblk.src (o:=0) (n:=512) (by omega)
  rwa [List.drop_zero,List.take_of_length_le (by omega)] at this
 have HB2:=Hid.mk hB2
 have Hsrc:=Hid.mk hsrc
 clear hs1 hw1 hB1 hb1 hblk hB2 hsrc
 go_wp2_with (refine wpList_store_mid rfl 188 _ _ rfl w1.heap.size 0 F.toArray rfl rfl ?h1 ?h2 hall ?_)
 case h1=>simpa using hth
 case h2=>simpa using hinfo
 rw [←hw2]
 clear hw2 hth hinfo hall
 by_cases hbad:504<slen s∨2<s.getD 0 0
 ·have hno:=sopens_none hsl (sopen_no (fun h=>by omega))
  have Hno:=Hid.mk hno
  refine(open_no w1.heap.size 0 s w2 Hsrc.out hbs hbad).mono ?_
  rintro e w' ⟨rfl,hw⟩
  have hw':=hw.symm
  subst hw'
  clear hw hno hbad
  go_wp2
  go_ret2
  exact⟨_,by rw [Hno.out];rfl,by rw [Hno.out];exact Lst.nil _ _,HB2.out⟩
 ·refine(open_yes w1.heap.size 0 s w2 Hsrc.out hbs (by omega) (by omega)).mono ?_
  rintro e w3 ⟨k,rfl,hk,hb3⟩
  have hsb:Src w3 (some ⟨w1.heap.size,k,none⟩) (slen s) (sbody s):=by
   by_cases h0:slen s=0
   ·exact⟨sbody_len (by omega) hsl,(fun e=>by cases e),fun x hx i hi=>by omega⟩
   ·rw [hk (by omega)]
    exact src_part (Hsrc.out.later hb3) (i:=7) (m:=slen s) (by omega)
  have HB3:=Hid.mk (HB2.out.trans (hb3.mono HB2.out.size))
  have hbl:=sbody_len (s:=s) (by omega) hsl
  have hlst:Lst w3 w.heap.size (.slice (some ⟨w1.heap.size,k,none⟩) (slen s) (slen s)) (sbody s):=⟨some ⟨w1.heap.size,k,none⟩,slen s,by rw [hbl],by rw [hbl];exact hsb,by omega,fun x hx=>by cases hx;exact hsz⟩
  have Hlst:=Hid.mk hlst
  clear hsb hlst hk hb3 hbl
  by_cases heq:sform (s.getD 0 0) (sbody s)=s
  ·have hy:=sopens_some hsl (sopen_yes (by omega) (by omega) heq)
   have Hy:=Hid.mk hy
   rw [decide_eq_true heq]
   clear heq hy
   go_wp2
   go_ret2
   exact⟨_,by rw [Hy.out];rfl,by rw [Hy.out];exact Hlst.out,HB3.out⟩
  ·have hy:=sopens_none hsl (sopen_no (fun h=>heq h.2.2))
   have Hy:=Hid.mk hy
   rw [decide_eq_false heq]
   clear heq hy
   go_wp2
   go_ret2
   exact⟨_,by rw [Hy.out];rfl,by rw [Hy.out];exact Lst.nil _ _,HB3.out⟩
theorem sopen_any (a:Option Addr) (n c:Nat) (s:List Int) (w:World) (hs:Src w a n s) (hb:Bytes s):
  Calls Tryz.prog 188 #[.slice a n c] w fun e w'=>∃v,e= .returned (.tuple #[v, .int .i64 (((sopens s).2:Nat):Int)])∧Lst w' w.heap.size v (sopens s).1∧Below w.heap.size w w':=by
 by_cases hn:n=512
 ·subst hn
  obtain⟨b,o,rfl⟩:=src_spot hs (by omega)
  exact sopen_all b o c s w hs hb
 ·refine(sopen_no1 a n c w hn).mono ?_
  rintro e w' ⟨rfl,hbel⟩
  rw [sopens_no1 (by rw [hs.1];exact hn)]
  exact⟨_,rfl,Lst.nil _ _,hbel⟩
end Go.Proofs.YtkiehemoiapkkaaGreat
end
section
namespace Go.Proofs.YtkiehemoiapkkaaGreat
open Go.RowKit
def secOf (l:List Int):List Int:=if l.length=512 then l else zs 512
theorem secOf_len (l:List Int):(secOf l).length=512:=by unfold secOf;split;assumption;exact zs_len 512
theorem secOf_self {l:List Int} (h:l.length=512):secOf l=l:=by unfold secOf;rw [if_pos h]
theorem sectorOf_any (a:Option Addr) (n c:Nat) (l:List Int) (w:World) (hs:Src w a n l):
  Calls Tryz.prog 181 #[.slice a n c] w fun e w'=>e= .returned (.tuple #[.agg (bs (secOf l)).toArray, .bool (decide (n=512))])∧Below w.heap.size w w':=by
 by_cases hn:n=512
 ·subst hn
  cases a with
  |none=>have:=hs.2.1 rfl;omega
  |some x=>
   obtain⟨b,o,rfl,_⟩:=hs.spot (by omega)
   rw [secOf_self hs.1]
   exact sectorOf_ok b o c l w hs
 ·have e:secOf l=zs 512:=by unfold secOf;rw [if_neg (by rw [hs.1];exact hn)]
  rw [e,decide_eq_false hn]
  exact sectorOf_no a n c w hn
def zpair:Array Value:=(bs (zs 1024)).toArray
theorem infoPair:(Tryz.prog.info? 190).map (fun i=>(i.zero,i.size))=some (some (.agg zpair),1024):=by kernel_rfl
theorem zeroPair (w:World):(zeroValue 190).run Tryz.prog w= .ok (.agg zpair) w:=by
 obtain⟨i,hi,he⟩:=Option.map_eq_some_iff.1 infoPair
 simp only [Prod.mk.injEq] at he
 simp [zeroValue,typeInfo,hi,he.1]
theorem sizePair:(Tryz.prog.info? 190).map (·.size)=some 1024:=by
 obtain⟨i,hi,he⟩:=Option.map_eq_some_iff.1 infoPair
 simp only [Prod.mk.injEq] at he
 rw [hi,←he.2];rfl
theorem zpair_size:zpair.size=1024:=by unfold zpair;simp only [List.size_toArray,bs,List.length_map,zs_len]
theorem foldl_put:∀(vs:List Value) (k off:Nat) (cells:Array Value),off+k+vs.length≤cells.size→
    ((vs.zipIdx k).foldl (fun cs (x:Value×Nat)=>cs.setIfInBounds (off+x.2) x.1) cells).toList=cells.toList.take (off+k) ++ vs ++ cells.toList.drop (off+k+vs.length)
 | [],k,off,cells,h=>by simp
 |v :: r,k,off,cells,h=>by
  have h1:off+k<cells.toList.length:=by simp at h⊢;omega
  rw [List.zipIdx_cons,List.foldl_cons,foldl_put r (k+1) off _ (by simp at h⊢;omega)]
  simp only [Array.toList_setIfInBounds]
  rw [show off+(k+1)=off+k+1 by omega,List.take_set,List.drop_set]
  rw [if_pos (by omega),List.take_succ_eq_append_getElem h1,List.set_append_right _ _ (by simp;omega)]
  have:(off+k)-(cells.toList.take (off+k)).length=0:=by simp;omega
  rw [this,List.set_cons_zero]
  simp only [List.length_cons,List.append_assoc,List.cons_append,List.nil_append]
  congr 4
  omega
theorem fold_cells (F cells:Array Value) (off:Nat) (h:off+F.size≤cells.size):
    (F.zipIdx.foldl (fun cs (x:Value×Nat)=>cs.setIfInBounds (off+x.2) x.1) cells).toList=cells.toList.take off ++ F.toList ++ cells.toList.drop (off+F.size):=by
 rw [←Array.foldl_toList,Array.toList_zipIdx]
 have:=foldl_put F.toList 0 off cells (by simpa using h)
 simpa using this
theorem build_pair (F G:Array Value) (hF:F.size=512) (hG:G.size=512) (w:World):
    (Instr.build 190 #[(0, .agg F),(1, .agg G)]).run Tryz.prog w= .ok (.agg (F ++ G)) w:=by
 obtain⟨i,hi,he⟩:=Option.map_eq_some_iff.1 sizeSec
 have hz:=zpair_size
 have e1:=fold_cells F zpair (0*512) (by omega)
 have s1:(F.zipIdx.foldl (fun cs (x:Value×Nat)=>cs.setIfInBounds (0*512+x.2) x.1) zpair).size=1024:=by
  rw [←Array.length_toList,e1];simp;omega
 have e2:=fold_cells G (F.zipIdx.foldl (fun cs (x:Value×Nat)=>cs.setIfInBounds (0*512+x.2) x.1) zpair) (1*512) (by omega)
 have key:Instr.fill (fun i=>some (i*512,512)) zpair [(0, .agg F),(1, .agg G)]=some (F ++ G):=by
  have c1:(Value.agg F).cells=F:=rfl
  have c2:(Value.agg G).cells=G:=rfl
  simp only [Instr.fill,c1,c2,hF,hG,hz]
  rw [if_neg (by simp),if_neg (by simp only [ne_eq,not_true,decide_false,Bool.false_or,decide_eq_true_eq];omega)]
  refine congrArg some ?_
  apply Array.ext'
  rw [e2,e1]
  have hFl:F.toList.length=512:=by simpa using hF
  simp only [Nat.zero_mul,List.take_zero,List.nil_append,Nat.zero_add,Nat.one_mul,hF,hG]
  rw [List.take_left' hFl,List.drop_eq_nil_of_le (by simp;omega)]
  simp
 have c3:(Value.agg zpair).cells=zpair:=rfl
 simp only [Instr.build,Sem.run_bind,zeroPair,Result.andThen_ok,run_underlying Tryz.underlying190,c3]
 have hsz:(sizeOf 188).run Tryz.prog w= .ok 512 w:=by simp [sizeOf,typeInfo,hi,he]
 rw [hsz,Result.andThen_ok,key]
 rfl
end Go.Proofs.YtkiehemoiapkkaaGreat
end
section
namespace Go.Proofs.YtkiehemoiapkkaaGreat
open Go.RowKit
theorem infoSec512 {F:List Value} (h:F.length=512):(Tryz.prog.info? 188).map (·.size)=some F.length:=by rw [sizeSec,h]
theorem wpList_build_pair {ops:Array Oper} {rest:List Oper} {op:Oper} {a:Act} {w:World} {Q:Exit→Act→World→Prop} (hgd:op.guard=none) (x y:Operand) (ho:op.op= .build 190 #[(0,x),(1,y)])
    (F G P:Array Value) (hx:a.eval x= .agg F) (hy:a.eval y= .agg G) (hF:F.size=512) (hG:G.size=512) (hP:P=F ++ G)
    (h:wpList Tryz.prog ops Q rest (a.put op.dst (.agg P)) w):wpList Tryz.prog ops Q (op :: rest) a w:=
 wpList_plain hgd fun K hK=>by
  subst hP
  unfold Oper.wp execOp
  simp only [ho]
  have e:(#[(0,x),(1,y)]:Array (Nat×Operand)).map (fun (i,o)=>(i,a.eval o))= #[(0, .agg F),(1, .agg G)]:=by simp [hx,hy]
  rw [e,Sem.run_bind,(build_pair F G hF hG w)]
  exact hK _ _ h
set_option maxRecDepth 20000 in
set_option maxHeartbeats 4000000 in
theorem pairOf_low (b1 b2:Bool) (F G:List Value) (hF:F.length=512) (hG:G.length=512) (h1F:∀v∈F,v.oneCell'=true) (h1G:∀v∈G,v.oneCell'=true) (x y:Value) (w:World)
    (hc1:∀w':World,Below w.heap.size w w'→Calls Tryz.prog 181 #[x] w' fun e w''=>e= .returned (.tuple #[.agg F.toArray, .bool b1])∧Below w'.heap.size w' w'')
    (hc2:∀w':World,Below w.heap.size w w'→Calls Tryz.prog 181 #[y] w' fun e w''=>e= .returned (.tuple #[.agg G.toArray, .bool b2])∧Below w'.heap.size w' w''):
  Calls Tryz.prog 155 #[x,y] w fun e w'=>e= .returned (.tuple #[.agg (F.toArray ++ G.toArray), .bool (b1 && b2)])∧Below w.heap.size w w':=by
 cases b1
 ·have hz:=zeroSec
  have hsF:F.toArray.size=512:=by simpa using hF
  have hsG:G.toArray.size=512:=by simpa using hG
  have hinfoF:=infoSec512 hF
  have hinfoG:=infoSec512 hG
  have hinfoP:(Tryz.prog.info? 190).map (·.size)=some (F.toArray ++ G.toArray).size:=by rw [sizePair];simp;omega
  have hallF:=all_oneCell_toArray h1F
  have hallG:=all_oneCell_toArray h1G
  have hallP:(F.toArray ++ G.toArray).all (·.oneCell')=true:=by
   have:=all_oneCell_toArray (cs:=F ++ G) (fun v hv=>(List.mem_append.1 hv).elim (h1F v) (h1G v))
   simpa using this
  have hB1:Below w.heap.size w (w.alloc (.cells zpair 190)):=(Below.refl _ w).alloc (Nat.le_refl _) _
  have k1:=hc1 _ hB1
  have HB1:=Hid.mk hB1
  have hres0:(w.alloc (.cells zpair 190)).heap[w.heap.size]? =some (.cells zpair 190 (0,0)):=heap_alloc_new _ _
  have Hres0:=Hid.mk hres0
  have Hc2:=Hid.mk hc2
  have hw1:w.heap.size<(w.alloc (.cells zpair 190)).heap.size:=by simp
  clear hB1 hc1 hc2 hres0
  go_enter Tryz.func155,Tryz.ntmps155
  go_wp2_with fail
  refine k1.mono ?_
  rintro e w1 ⟨rfl,hb1⟩
  have hB2:=HB1.out.trans (hb1.mono HB1.out.size)
  have hres1:=(hb1.block w.heap.size hw1).trans Hres0.out
  have hz1:=hB2.size
  have hsz1:=Nat.lt_of_lt_of_le hw1 hb1.size
  have hn1:(w1.alloc (.cells zsec 188)).heap[w1.heap.size]? =some (.cells zsec 188 (0,0)):=heap_alloc_new _ _
  have hth:=there_of hn1 zsec_size
  rw [←hF] at hth
  have hB3:Below w.heap.size w (w1.alloc (.cells zsec 188)):=hB2.alloc hz1 _
  have hB4:=hB3.trans ((Keeps.setCells (F:=fun j=>j=w1.heap.size) rfl F 0 _).below (fun j hj=>by omega) hB3.size)
  have hrF:=World.rangeAt_setCells_same (w1.alloc (.cells zsec 188)) w1.heap.size 0 F hth
  have hres2:((w1.alloc (.cells zsec 188)).setCells w1.heap.size 0 F).heap[w.heap.size]? =some (.cells zpair 190 (0,0)):=
     ((Keeps.setCells (F:=fun j=>j=w1.heap.size) rfl F 0 _).block w.heap.size (by simp;omega) (by omega)).trans ((heap_alloc_old w1 _ hsz1).trans hres1)
  have hsz2:((w1.alloc (.cells zsec 188)).setCells w1.heap.size 0 F).heap.size=w1.heap.size+1:=by rw [size_setCells];simp
  obtain⟨w2,hw2⟩:∃w2,w2=(w1.alloc (.cells zsec 188)).setCells w1.heap.size 0 F:=⟨_,rfl⟩
  rw [←hw2] at hB4 hrF hres2 hsz2
  have k2:=Hc2.out w2 hB4
  have HW2:=Hid.mk hw2
  have HB4:=Hid.mk hB4
  have HrF:=Hid.mk hrF
  have Hres2:=Hid.mk hres2
  clear k1 hb1 hB2 hres1 hn1 hB3 hB4 hrF hres2 hw2 Hc2 HB1 Hres0
  go_wp2_with (refine wpList_store_mid rfl 188 _ _ rfl w1.heap.size 0 F.toArray rfl rfl ?h1 ?h2 hallF ?_)
  case h1=>simpa using hth
  case h2=>simpa using hinfoF
  rw [←HW2.out]
  refine k2.mono ?_
  rintro e w3 ⟨rfl,hb3⟩
  have hB5:=HB4.out.trans (hb3.mono HB4.out.size)
  have hres3:=(hb3.block w.heap.size (by omega)).trans Hres2.out
  have hz3:=hB5.size
  have hsz3:=hb3.size
  have hn3:(w3.alloc (.cells zsec 188)).heap[w3.heap.size]? =some (.cells zsec 188 (0,0)):=heap_alloc_new _ _
  have hth3:=there_of hn3 zsec_size
  rw [←hG] at hth3
  have hB6:Below w.heap.size w (w3.alloc (.cells zsec 188)):=hB5.alloc hz3 _
  have hB7:=hB6.trans ((Keeps.setCells (F:=fun j=>j=w3.heap.size) rfl G 0 _).below (fun j hj=>by omega) hB6.size)
  have hrG:=World.rangeAt_setCells_same (w3.alloc (.cells zsec 188)) w3.heap.size 0 G hth3
  have hrF3:((w3.alloc (.cells zsec 188)).setCells w3.heap.size 0 G).rangeAt w1.heap.size 0 F:=by
   intro j v hv
   rw [World.cell?_of_block (w:=w2) (a:=⟨w1.heap.size,0+j,none⟩)]
   ·exact(HrF.out j v hv)
   ·exact((Keeps.setCells (F:=fun j=>j=w3.heap.size) rfl G 0 _).block w1.heap.size (by simp;omega) (by omega)).trans ((heap_alloc_old w3 _ (show w1.heap.size<w3.heap.size by omega)).trans (hb3.block w1.heap.size (by omega)))
  have hres4:((w3.alloc (.cells zsec 188)).setCells w3.heap.size 0 G).heap[w.heap.size]? =some (.cells zpair 190 (0,0)):=
     ((Keeps.setCells (F:=fun j=>j=w3.heap.size) rfl G 0 _).block w.heap.size (by simp;omega) (by omega)).trans ((heap_alloc_old w3 _ (show w.heap.size<w3.heap.size by omega)).trans hres3)
  obtain⟨w4,hw4⟩:∃w4,w4=(w3.alloc (.cells zsec 188)).setCells w3.heap.size 0 G:=⟨_,rfl⟩
  rw [←hw4] at hB7 hrG hrF3 hres4
  have hthP:w4.there w.heap.size 0 (F.toArray ++ G.toArray).toList.length:=there_of hres4 (by rw [zpair_size];simp;omega)
  have hrP:=Hid.mk (World.rangeAt_setCells_same w4 w.heap.size 0 (F.toArray ++ G.toArray).toList hthP)
  have hB8:=Hid.mk (hB7.trans ((Keeps.setCells (F:=fun j=>j=w.heap.size) rfl (F.toArray ++ G.toArray).toList 0 w4).below (fun j hj=>by omega) hB7.size))
  have HW4:=Hid.mk hw4
  have hinfoP':(Tryz.prog.info? 190).map (·.size)=some (F.toArray ++ G.toArray).toList.length:=by rw [sizePair];simp;omega
  obtain⟨P,hP⟩:∃P,P=F.toArray ++ G.toArray:=⟨_,rfl⟩
  rw [←hP] at hinfoP hallP hthP hrP hB8 hinfoP'
  have HP:=Hid.mk hP
  clear k2 hb3 hB5 hres3 hn3 hB6 hB7 hres4 hw4 hP HB4 HrF Hres2 HW2
  go_wp2_with (first|refine wpList_build_pair rfl _ _ rfl F.toArray G.toArray P rfl rfl hsF hsG HP.out ?_|refine wpList_store_mid rfl 188 _ _ rfl w3.heap.size 0 G.toArray rfl rfl ?h1 ?h2 hallG ?_|(rw [←HW4.out];first|refine wpList_load_mid rfl 188 _ rfl w1.heap.size 0 rfl F _ hrF3 Tryz.underlying188 rfl hinfoF ?_|refine wpList_load_mid rfl 188 _ rfl w3.heap.size 0 rfl G _ hrG Tryz.underlying188 rfl hinfoG ?_)|refine wpList_load_mid rfl 188 _ rfl w1.heap.size 0 rfl F _ hrF3 Tryz.underlying188 rfl hinfoF ?_|refine wpList_load_mid rfl 188 _ rfl w3.heap.size 0 rfl G _ hrG Tryz.underlying188 rfl hinfoG ?_|refine wpList_store_mid rfl 190 _ _ rfl w.heap.size 0 P rfl rfl ?h3 ?h4 hallP ?_)
  case h1=>simpa using hth3
  case h2=>simpa using hinfoG
  case h3=>simpa using hthP
  case h4=>simpa using hinfoP
  have eP:P.toList.toArray=(F ++ G).toArray:=by rw [HP.out];simp
  exact bodyPost_ret (results_cell_tmp (P:=Tryz.prog) rfl _ _ w.heap.size P.toList _ _ rfl rfl hrP.out Tryz.underlying190 rfl hinfoP') rfl ⟨by rw [eP];rfl,hB8.out⟩
 ·have hz:=zeroSec
  have hsF:F.toArray.size=512:=by simpa using hF
  have hsG:G.toArray.size=512:=by simpa using hG
  have hinfoF:=infoSec512 hF
  have hinfoG:=infoSec512 hG
  have hinfoP:(Tryz.prog.info? 190).map (·.size)=some (F.toArray ++ G.toArray).size:=by rw [sizePair];simp;omega
  have hallF:=all_oneCell_toArray h1F
  have hallG:=all_oneCell_toArray h1G
  have hallP:(F.toArray ++ G.toArray).all (·.oneCell')=true:=by
   have:=all_oneCell_toArray (cs:=F ++ G) (fun v hv=>(List.mem_append.1 hv).elim (h1F v) (h1G v))
   simpa using this
  have hB1:Below w.heap.size w (w.alloc (.cells zpair 190)):=(Below.refl _ w).alloc (Nat.le_refl _) _
  have k1:=hc1 _ hB1
  have HB1:=Hid.mk hB1
  have hres0:(w.alloc (.cells zpair 190)).heap[w.heap.size]? =some (.cells zpair 190 (0,0)):=heap_alloc_new _ _
  have Hres0:=Hid.mk hres0
  have Hc2:=Hid.mk hc2
  have hw1:w.heap.size<(w.alloc (.cells zpair 190)).heap.size:=by simp
  clear hB1 hc1 hc2 hres0
  go_enter Tryz.func155,Tryz.ntmps155
  go_wp2_with fail
  refine k1.mono ?_
  rintro e w1 ⟨rfl,hb1⟩
  have hB2:=HB1.out.trans (hb1.mono HB1.out.size)
  have hres1:=(hb1.block w.heap.size hw1).trans Hres0.out
  have hz1:=hB2.size
  have hsz1:=Nat.lt_of_lt_of_le hw1 hb1.size
  have hn1:(w1.alloc (.cells zsec 188)).heap[w1.heap.size]? =some (.cells zsec 188 (0,0)):=heap_alloc_new _ _
  have hth:=there_of hn1 zsec_size
  rw [←hF] at hth
  have hB3:Below w.heap.size w (w1.alloc (.cells zsec 188)):=hB2.alloc hz1 _
  have hB4:=hB3.trans ((Keeps.setCells (F:=fun j=>j=w1.heap.size) rfl F 0 _).below (fun j hj=>by omega) hB3.size)
  have hrF:=World.rangeAt_setCells_same (w1.alloc (.cells zsec 188)) w1.heap.size 0 F hth
  have hres2:((w1.alloc (.cells zsec 188)).setCells w1.heap.size 0 F).heap[w.heap.size]? =some (.cells zpair 190 (0,0)):=
     ((Keeps.setCells (F:=fun j=>j=w1.heap.size) rfl F 0 _).block w.heap.size (by simp;omega) (by omega)).trans ((heap_alloc_old w1 _ hsz1).trans hres1)
  have hsz2:((w1.alloc (.cells zsec 188)).setCells w1.heap.size 0 F).heap.size=w1.heap.size+1:=by rw [size_setCells];simp
  obtain⟨w2,hw2⟩:∃w2,w2=(w1.alloc (.cells zsec 188)).setCells w1.heap.size 0 F:=⟨_,rfl⟩
  rw [←hw2] at hB4 hrF hres2 hsz2
  have k2:=Hc2.out w2 hB4
  have HW2:=Hid.mk hw2
  have HB4:=Hid.mk hB4
  have HrF:=Hid.mk hrF
  have Hres2:=Hid.mk hres2
  clear k1 hb1 hB2 hres1 hn1 hB3 hB4 hrF hres2 hw2 Hc2 HB1 Hres0
  go_wp2_with (refine wpList_store_mid rfl 188 _ _ rfl w1.heap.size 0 F.toArray rfl rfl ?h1 ?h2 hallF ?_)
  case h1=>simpa using hth
  case h2=>simpa using hinfoF
  rw [←HW2.out]
  refine k2.mono ?_
  rintro e w3 ⟨rfl,hb3⟩
  have hB5:=HB4.out.trans (hb3.mono HB4.out.size)
  have hres3:=(hb3.block w.heap.size (by omega)).trans Hres2.out
  have hz3:=hB5.size
  have hsz3:=hb3.size
  have hn3:(w3.alloc (.cells zsec 188)).heap[w3.heap.size]? =some (.cells zsec 188 (0,0)):=heap_alloc_new _ _
  have hth3:=there_of hn3 zsec_size
  rw [←hG] at hth3
  have hB6:Below w.heap.size w (w3.alloc (.cells zsec 188)):=hB5.alloc hz3 _
  have hB7:=hB6.trans ((Keeps.setCells (F:=fun j=>j=w3.heap.size) rfl G 0 _).below (fun j hj=>by omega) hB6.size)
  have hrG:=World.rangeAt_setCells_same (w3.alloc (.cells zsec 188)) w3.heap.size 0 G hth3
  have hrF3:((w3.alloc (.cells zsec 188)).setCells w3.heap.size 0 G).rangeAt w1.heap.size 0 F:=by
   intro j v hv
   rw [World.cell?_of_block (w:=w2) (a:=⟨w1.heap.size,0+j,none⟩)]
   ·exact(HrF.out j v hv)
   ·exact((Keeps.setCells (F:=fun j=>j=w3.heap.size) rfl G 0 _).block w1.heap.size (by simp;omega) (by omega)).trans ((heap_alloc_old w3 _ (show w1.heap.size<w3.heap.size by omega)).trans (hb3.block w1.heap.size (by omega)))
  have hres4:((w3.alloc (.cells zsec 188)).setCells w3.heap.size 0 G).heap[w.heap.size]? =some (.cells zpair 190 (0,0)):=
     ((Keeps.setCells (F:=fun j=>j=w3.heap.size) rfl G 0 _).block w.heap.size (by simp;omega) (by omega)).trans ((heap_alloc_old w3 _ (show w.heap.size<w3.heap.size by omega)).trans hres3)
  obtain⟨w4,hw4⟩:∃w4,w4=(w3.alloc (.cells zsec 188)).setCells w3.heap.size 0 G:=⟨_,rfl⟩
  rw [←hw4] at hB7 hrG hrF3 hres4
  have hthP:w4.there w.heap.size 0 (F.toArray ++ G.toArray).toList.length:=there_of hres4 (by rw [zpair_size];simp;omega)
  have hrP:=Hid.mk (World.rangeAt_setCells_same w4 w.heap.size 0 (F.toArray ++ G.toArray).toList hthP)
  have hB8:=Hid.mk (hB7.trans ((Keeps.setCells (F:=fun j=>j=w.heap.size) rfl (F.toArray ++ G.toArray).toList 0 w4).below (fun j hj=>by omega) hB7.size))
  have HW4:=Hid.mk hw4
  have hinfoP':(Tryz.prog.info? 190).map (·.size)=some (F.toArray ++ G.toArray).toList.length:=by rw [sizePair];simp;omega
  obtain⟨P,hP⟩:∃P,P=F.toArray ++ G.toArray:=⟨_,rfl⟩
  rw [←hP] at hinfoP hallP hthP hrP hB8 hinfoP'
  have HP:=Hid.mk hP
  clear k2 hb3 hB5 hres3 hn3 hB6 hB7 hres4 hw4 hP HB4 HrF Hres2 HW2
  go_wp2_with (first|refine wpList_build_pair rfl _ _ rfl F.toArray G.toArray P rfl rfl hsF hsG HP.out ?_|refine wpList_store_mid rfl 188 _ _ rfl w3.heap.size 0 G.toArray rfl rfl ?h1 ?h2 hallG ?_|(rw [←HW4.out];first|refine wpList_load_mid rfl 188 _ rfl w1.heap.size 0 rfl F _ hrF3 Tryz.underlying188 rfl hinfoF ?_|refine wpList_load_mid rfl 188 _ rfl w3.heap.size 0 rfl G _ hrG Tryz.underlying188 rfl hinfoG ?_)|refine wpList_load_mid rfl 188 _ rfl w1.heap.size 0 rfl F _ hrF3 Tryz.underlying188 rfl hinfoF ?_|refine wpList_load_mid rfl 188 _ rfl w3.heap.size 0 rfl G _ hrG Tryz.underlying188 rfl hinfoG ?_|refine wpList_store_mid rfl 190 _ _ rfl w.heap.size 0 P rfl rfl ?h3 ?h4 hallP ?_)
  case h1=>simpa using hth3
  case h2=>simpa using hinfoG
  case h3=>simpa using hthP
  case h4=>simpa using hinfoP
  have eP:P.toList.toArray=(F ++ G).toArray:=by rw [HP.out];simp
  exact bodyPost_ret (results_cell_tmp (P:=Tryz.prog) rfl _ _ w.heap.size P.toList _ _ rfl rfl hrP.out Tryz.underlying190 rfl hinfoP') rfl ⟨by rw [eP];rfl,hB8.out⟩
theorem pairOf_any (a:Option Addr) (n c:Nat) (l:List Int) (a2:Option Addr) (m d:Nat) (r:List Int) (w:World) (hs:Src w a n l) (hs2:Src w a2 m r):
  Calls Tryz.prog 155 #[.slice a n c, .slice a2 m d] w fun e w'=>e= .returned (.tuple #[.agg (bs (secOf l ++ secOf r)).toArray, .bool (decide (n=512) && decide (m=512))])∧Below w.heap.size w w':=by
 have h:=pairOf_low (decide (n=512)) (decide (m=512)) (bs (secOf l)) (bs (secOf r)) (by rw [bs,List.length_map,secOf_len]) (by rw [bs,List.length_map,secOf_len]) (bs_one _) (bs_one _) (.slice a n c) (.slice a2 m d) w
    (fun w' hb=>sectorOf_any a n c l w' (hs.later hb)) (fun w' hb=>sectorOf_any a2 m d r w' (hs2.later hb))
 rw [List.append_toArray,←bs_append] at h
 exact h
end Go.Proofs.YtkiehemoiapkkaaGreat
end
section
namespace Go.Proofs.YtkiehemoiapkkaaGreat
open Go.RowKit
def LstIn (w:World) (g:Nat) (v:Value) (l:List Int):Prop:=∃a c,v= .slice a l.length c∧Src w a l.length l∧l.length≤c∧∀x,a=some x→x.block=g
theorem LstIn.nil (w:World) (g:Nat):LstIn w g (.slice none 0 0) []:=⟨none,0,rfl,⟨rfl,fun _=>rfl,fun x hx=>by cases hx⟩,Nat.le_refl _,fun x hx=>by cases hx⟩
theorem LstIn.later {w w':World} {g:Nat} {v:Value} {l:List Int} (h:LstIn w g v l) (hb:Below w.heap.size w w'):LstIn w' g v l:=by
 obtain⟨a,c,rfl,hs,hc,hx⟩:=h
 exact⟨a,c,rfl,hs.later hb,hc,hx⟩
theorem LstIn.lst {w:World} {g B:Nat} {v:Value} {l:List Int} (h:LstIn w g v l) (hg:B≤g):Lst w B v l:=by
 obtain⟨a,c,rfl,hs,hc,hx⟩:=h
 exact⟨a,c,rfl,hs,hc,fun x e=>by rw [hx x e];exact hg⟩
theorem sanchor_short {s:List Int} (h:sopen s=none∨∃b,sopen s=some b∧(b.length<8∨9223372036854775808≤le (b.take 8))):sanchor s=(0, []):=by
 rcases h with h|⟨b,h,h2⟩
 ·simp [sanchor,h]
 ·simp only [sanchor,h]
  rw [if_neg (by omega)]
theorem sanchor_good {s b:List Int} (h:sopen s=some b) (h1:8≤b.length) (h2:le (b.take 8)<9223372036854775808):sanchor s=(le (b.take 8),b.drop 8):=by
 simp only [sanchor,h]
 rw [if_pos ⟨h1,h2⟩]
set_option maxRecDepth 20000 in
set_option maxHeartbeats 4000000 in
theorem anchor_any (g o:Nat) (s:List Int) (w:World) (hs:Src w (some ⟨g,o,none⟩) 512 s) (hb:Bytes s):
  Calls Tryz.prog 182 #[.pointer (some ⟨g,o,none⟩)] w fun e w'=>∃v,e= .returned (.tuple #[.int .i64 (((sanchor s).1:Nat):Int),v])∧LstIn w' g v (sanchor s).2∧Below w.heap.size w w':=by
 have hsl:=hs.1
 go_enter Tryz.func182,Tryz.ntmps182
 go_wp2_with fail
 by_cases hbad:504<slen s∨2<s.getD 0 0
 ·have hno:sanchor s=(0, []):=sanchor_short (.inl (by unfold sopen;rw [if_neg (fun h=>by omega)]))
  have Hno:=Hid.mk hno
  have h1:=open_no g o s w hs hb hbad
  clear hno hs
  refine h1.mono ?_
  rintro e w' ⟨rfl,hw⟩
  have hw':=hw.symm
  subst hw'
  clear hw h1
  go_wp2
  go_ret2
  exact⟨_,by rw [Hno.out];rfl,by rw [Hno.out];exact LstIn.nil _ _,Below.refl _ _⟩
 ·have h1:=open_yes g o s w hs hb (by omega) (by omega)
  have hbl:=sbody_len (s:=s) (by omega) hsl
  have hbb:Bytes (sbody s):=(hb.drop _).take _
  by_cases heq:sform (s.getD 0 0) (sbody s)=s
  ·have hop:sopen s=some (sbody s):=by unfold sopen;rw [if_pos ⟨by omega,by omega,heq⟩]
   rw [decide_eq_true heq] at h1
   refine h1.mono ?_
   by_cases h8:slen s<8
   ·have hno:=sanchor_short (.inr ⟨_,hop, .inl (by omega)⟩)
    have Hno:=Hid.mk hno
    have h8':(slen s:Int)<8:=by omega
    clear hno hs hop heq hbb
    generalize slen s=N at*
    rintro e w1 ⟨k,rfl,_,hb1⟩
    have HB1:=Hid.mk hb1
    clear hb1 h1
    go_wp2
    go_ret2
    exact⟨_,by rw [Hno.out];rfl,by rw [Hno.out];exact LstIn.nil _ _,HB1.out⟩
   ·have h8':¬(slen s:Int)<8:=by omega
    have hsb:∀w1:World,Below w.heap.size w w1→Src w1 (some ⟨g,o+7,none⟩) (slen s) (sbody s):=fun w1 h=>src_part (hs.later h) (i:=7) (m:=slen s) (by omega)
    have ht8:((sbody s).take 8).length=8:=by rw [List.length_take];omega
    have hsmall:=le_small (hbb.take 8) (by omega)
    have htk:=fun w1 h=>by
     have hp:=src_part (hsb w1 h) (i:=0) (m:=8) (by omega)
     rw [List.drop_zero] at hp
     exact taken_any g (o+7) 8 8 ((sbody s).take 8) w1 (hbb.take 8) ht8 (by omega) (fun i hi=>by have:=hp.2.2 _ rfl i hi;rwa [addr_add,Nat.add_zero] at this)
    have Htk:=Hid.mk htk
    clear htk
    obtain⟨M,hM⟩:∃M,M=le ((sbody s).take 8):=⟨_,rfl⟩
    rw [←hM] at hsmall Htk
    rintro e w1 ⟨k,rfl,hk,hb1⟩
    have hk':=hk (by omega)
    subst hk'
    have HB1:=Hid.mk hb1
    have ht:=Htk.out w1 hb1
    clear hb1 h1 Htk hk
    go_wp2_with fail
    refine ht.mono ?_
    rintro e w' ⟨rfl,hw⟩
    have hw':=hw.symm
    subst hw'
    clear hw ht
    by_cases hbig:9223372036854775807<M
    ·have hno:=sanchor_short (.inr ⟨_,hop, .inr (by omega)⟩)
     have Hno:=Hid.mk hno
     have hbig':9223372036854775807<(M:Int):=by omega
     clear hno hs hop heq hbb hM
     generalize slen s=N at*
     have c8:(8:Int)≤(N:Int):=by omega
     go_wp2
     go_ret2
     exact⟨_,by rw [Hno.out];rfl,by rw [Hno.out];exact LstIn.nil _ _,HB1.out⟩
    ·have hyes:sanchor s=(M,(sbody s).drop 8):=by rw [hM];exact sanchor_good hop (by omega) (by omega)
     have Hyes:=Hid.mk hyes
     have hbig':¬9223372036854775807<(M:Int):=by omega
     have hdl:((sbody s).drop 8).length=slen s-8:=by simp;omega
     have hfin:∀(w1:World) (k:Nat),Below w.heap.size w w1→(8<slen s→k=o+7+8)→LstIn w1 g (.slice (some ⟨g,k,none⟩) (slen s-8) (slen s-8)) ((sbody s).drop 8):=by
      intro w1 k h hk
      refine⟨some ⟨g,k,none⟩,slen s-8,by rw [hdl],?_,by omega,fun x hx=>by cases hx;rfl⟩
      rw [hdl]
      by_cases h9:8<slen s
      ·rw [hk h9]
       have:=src_part (hsb w1 h) (i:=8) (m:=slen s-8) (by omega)
       rwa [List.take_of_length_le (by omega)] at this
      ·exact⟨by omega,(fun e=>by cases e),fun x hx i hi=>by omega⟩
     have Hfin:=Hid.mk hfin
     clear hyes hs hop heq hbb hM hfin hsb hdl ht8 hbl
     generalize slen s=N at*
     have c8:(8:Int)≤(N:Int):=by omega
     go_wp2
     go_quiet (fail)
     by_cases h9:N=8
     ·subst h9
      go_wp2
      go_ret2
      exact⟨_,by rw [Hyes.out];rfl,by rw [Hyes.out];exact Hfin.out _ _ (below_drewN HB1.out _) (fun h=>by omega),below_drewN HB1.out _⟩
     ·have h9':¬(N:Int)=8:=by omega
      go_wp2
      go_ret2
      exact⟨_,by rw [Hyes.out];rfl,by rw [Hyes.out];exact Hfin.out _ _ (below_drewN HB1.out _) (fun h=>by omega),below_drewN HB1.out _⟩
  ·have hno:=sanchor_short (.inl (by unfold sopen;rw [if_neg (fun h=>heq h.2.2)]))
   have Hno:=Hid.mk hno
   rw [decide_eq_false heq] at h1
   clear hno hs heq hbb
   generalize slen s=N at*
   refine h1.mono ?_
   rintro e w1 ⟨k,rfl,_,hb1⟩
   have HB1:=Hid.mk hb1
   clear hb1 h1
   go_wp2
   go_ret2
   exact⟨_,by rw [Hno.out];rfl,by rw [Hno.out];exact LstIn.nil _ _,HB1.out⟩
end Go.Proofs.YtkiehemoiapkkaaGreat
end
section
namespace Go.Proofs.YtkiehemoiapkkaaGreat
open Go.RowKit
theorem snewest_eq {l r:List Int} (hl:l.length=512) (hr:r.length=512):snewest l r=if (sanchor l).1=0∧(sanchor r).1=0 then (0,0, [],30) else if (sanchor l).1<(sanchor r).1 then (1,(sanchor r).1,(sanchor r).2,0) else (0,(sanchor l).1,(sanchor l).2,0):=by
 unfold snewest;rw [if_neg (by omega)]
theorem sanchor_small (s:List Int):(sanchor s).1≤9223372036854775807:=by
 unfold sanchor
 split
 ·simp
 ·split
  ·next h=>simp only;omega
  ·simp
def nst (l r:List Int):Nat→Nat×Nat×List Int
 |0=>(0,0, [])
 |1=>if 0<(sanchor l).1 then (0,(sanchor l).1,(sanchor l).2) else (0,0, [])
 |_+2=>if (if 0<(sanchor l).1 then (0,(sanchor l).1,(sanchor l).2) else (0,0,([]:List Int))).2.1<(sanchor r).1 then (1,(sanchor r).1,(sanchor r).2) else if 0<(sanchor l).1 then (0,(sanchor l).1,(sanchor l).2) else (0,0, [])
theorem nst_two {l r:List Int} (hl:l.length=512) (hr:r.length=512):nst l r 2=((snewest l r).1,(snewest l r).2.1,(snewest l r).2.2.1):=by
 rw [snewest_eq hl hr]
 unfold nst
 by_cases h1:0<(sanchor l).1
 ·simp only [if_pos h1]
  rw [if_neg (show¬((sanchor l).1=0∧(sanchor r).1=0) by omega)]
  by_cases h2:(sanchor l).1<(sanchor r).1
  ·simp only [if_pos h2]
  ·simp only [if_neg h2]
 ·simp only [if_neg h1]
  by_cases h2:0<(sanchor r).1
  ·simp only [if_pos h2]
   rw [if_neg (show¬((sanchor l).1=0∧(sanchor r).1=0) by omega),if_pos (show (sanchor l).1<(sanchor r).1 by omega)]
  ·simp only [if_neg h2]
   rw [if_pos (show (sanchor l).1=0∧(sanchor r).1=0 by omega)]
theorem LstIn.agree {w w':World} {g:Nat} {v:Value} {l:List Int} (h:LstIn w g v l) (hb:w'.heap[g]? =w.heap[g]?):LstIn w' g v l:=by
 obtain⟨a,c,rfl,hs,hc,hx⟩:=h
 refine⟨a,c,rfl,⟨hs.1,hs.2.1,fun x e i hi=>?_⟩,hc,hx⟩
 rw [World.cell?_of_block (w:=w) (by rw [blockOf_add,(hx x e)];exact hb)]
 exact hs.2.2 x e i hi
theorem set3 {w:World} {g:Nat} {T:TypeId} {a b c x y z:Value} (h:w.heap[g]? =some (.cells #[a,b,c] T (0,0))):
    (((w.setCell ⟨g,0,none⟩ x).setCell ⟨g,1,none⟩ y).setCell ⟨g,2,none⟩ z).heap[g]? =some (.cells #[x,y,z] T (0,0)):=by
 rw [heap_setCell_same _ _ _ _ _ _ (heap_setCell_same _ _ _ _ _ _ (heap_setCell_same _ _ _ _ _ _ h))]
 rfl
theorem range3 {w:World} {g:Nat} {T:TypeId} {x y z:Value} (h:w.heap[g]? =some (.cells #[x,y,z] T (0,0))):w.rangeAt g 0 [x,y,z]:=by
 intro j v hv
 rw [Nat.zero_add]
 exact cell_of_block h (by simpa using hv)
theorem infoAnchor:(Tryz.prog.info? 194).map (·.size)=some 3:=by kernel_rfl
theorem keeps3 (w:World) (g:Nat) (x y z:Value):Keeps (fun j=>j=g) w (((w.setCell ⟨g,0,none⟩ x).setCell ⟨g,1,none⟩ y).setCell ⟨g,2,none⟩ z):=
   ((Keeps.setCell (F:=fun j=>j=g) (p:=⟨g,0,none⟩) w rfl x).trans (Keeps.setCell (F:=fun j=>j=g) (p:=⟨g,1,none⟩) _ rfl y) (fun _ h=> .inl h)).trans (Keeps.setCell (F:=fun j=>j=g) (p:=⟨g,2,none⟩) _ rfl z) (fun _ h=> .inl h)
def Nw (w:World) (g:Nat) (l r:List Int) (k:Nat) (wr:World):Prop:=
 ∃v,wr.heap[w.heap.size+1]? =some (.cells #[.int .i64 (((nst l r k).1:Nat):Int), .int .i64 (((nst l r k).2.1:Nat):Int),v] 194 (0,0))∧LstIn wr g v (nst l r k).2.2∧
    (∃x y z,wr.heap[w.heap.size]? =some (.cells #[x,y,z] 194 (0,0)))∧Below w.heap.size w wr
set_option maxRecDepth 20000 in
set_option maxHeartbeats 4000000 in
theorem newest_any (g:Nat) (l r:List Int) (w:World) (hs:Src w (some ⟨g,0,none⟩) 512 l) (hs2:Src w (some ⟨g,512,none⟩) 512 r) (hl:Bytes l) (hr:Bytes r):
  Calls Tryz.prog 156 #[.pointer (some ⟨g,0,none⟩)] w fun e w'=>∃v,e= .returned (.agg #[.int .i64 (((snewest l r).1:Nat):Int), .int .i64 (((snewest l r).2.1:Nat):Int),v])∧LstIn w' g v (snewest l r).2.2.1∧Below w.heap.size w w':=by
 have h1:=Hid.mk (fun w' (hb:Below w.heap.size w w')=>anchor_any g 0 l w' (hs.later hb) hl)
 have h2:=Hid.mk (fun w' (hb:Below w.heap.size w w')=>anchor_any g 512 r w' (hs2.later hb) hr)
 have hg:g<w.heap.size:=hs.old _ rfl (by omega)
 have Hfin:=Hid.mk (nst_two hs.1 hs2.1)
 clear hs hs2
 go_enter Tryz.func156,Tryz.ntmps156
 go_wp2
 go_loopw [8] (fun i wr=>∃k:Nat,k≤2∧i= .int .i64 k∧Nw w g l r k wr) (fun i _=>2-(intOf i).toNat)
 case atStart=>exact⟨0,Nat.zero_le _,rfl, .slice none 0 0,heap_alloc2_new _ _ _,LstIn.nil _ _,⟨_,_,_,heap_alloc2_old _ _ _⟩,((Below.refl _ w).alloc (Nat.le_refl _) _).alloc (by simp) _⟩
 case round=>
  obtain⟨k,hk,rfl,hN⟩:=hrel
  obtain rfl|rfl|rfl:k=0∨k=1∨k=2:=by omega
  ·obtain⟨v,hblk,hlst,hres,hbr⟩:=hN
   have k1:=h1.out wr hbr
   have HN:=Hid.mk (And.intro hblk (And.intro hlst (And.intro hres hbr)))
   clear hblk hlst hres hbr
   generalize hns:nst l r 0=S at*
   go_wp2_with fail
   refine k1.mono ?_
   rintro e w1 ⟨v1,rfl,hl1,hb1⟩
   obtain⟨a1,c1,hv1,hq1⟩:=hl1
   subst hv1
   have hl1:LstIn w1 g _ _:=⟨a1,c1,rfl,hq1⟩
   clear hq1
   obtain⟨hblk,hlst,⟨rx,ry,rz,hres⟩,hbr⟩:=HN.out
   have hblk1:=(hb1.block _ (Array.getElem?_eq_some_iff.1 hblk).1).trans hblk
   have hres1:=(hb1.block _ (Array.getElem?_eq_some_iff.1 hres).1).trans hres
   have hB1:=hbr.trans (hb1.mono hbr.size)
   have hlst1:=hlst.later hb1
   have hc0:=cell_of_block hblk1 (j:=0) rfl
   have hc1:=cell_of_block hblk1 (j:=1) rfl
   have hc2:=cell_of_block hblk1 (j:=2) rfl
   have hf0:=frozen_of_block hblk1 0
   have hf1:=frozen_of_block hblk1 1
   have hf2:=frozen_of_block hblk1 2
   have hz:=hB1.size
   by_cases h0:S.2.1<(sanchor l).1
   ·have h0':((S.2.1:Nat):Int)<(((sanchor l).1:Nat):Int):=by omega
    have hn:nst l r 1=(0,(sanchor l).1,(sanchor l).2):=by
     rw [←hns] at h0
     have h0:0<(sanchor l).1:=h0
     unfold nst;rw [if_pos h0]
    have hkp:=keeps3 w1 (w.heap.size+1) (.int .i64 0) (.int .i64 (((sanchor l).1:Nat):Int)) (.slice a1 (sanchor l).2.length c1)
    have hNw:Nw w g l r 1 (((w1.setCell ⟨w.heap.size+1,0,none⟩ (.int .i64 0)).setCell ⟨w.heap.size+1,1,none⟩ (.int .i64 (((sanchor l).1:Nat):Int))).setCell ⟨w.heap.size+1,2,none⟩ (.slice a1 (sanchor l).2.length c1)):=by
     refine⟨_,by rw [hn];exact(set3 (x:= .int .i64 0) (y:= .int .i64 (((sanchor l).1:Nat):Int)) (z:= .slice a1 (sanchor l).2.length c1) hblk1),by rw [hn];exact hl1.agree (hkp.block g (by omega) (by omega)),⟨rx,ry,rz,(hkp.block _ (Array.getElem?_eq_some_iff.1 hres1).1 (by omega)).trans hres1⟩,hB1.trans (hkp.below (fun j hj=>by omega) hB1.size)⟩
    have HNw:=Hid.mk hNw
    generalize (sanchor l).1=A at*
    generalize (sanchor l).2.length=D at*
    clear k1 HN hblk hlst hres hbr hblk1 hres1 hB1 hlst1 hkp hNw hl1 hb1 hn
    go_wp2
    go_roundw
    case rel=>exact⟨1,by omega,by go_num,HNw.out⟩
    case measure=>simp [intOf]
   ·have h0':¬((S.2.1:Nat):Int)<(((sanchor l).1:Nat):Int):=by omega
    have hn:nst l r 1=S:=by
     rw [←hns] at h0⊢
     have h0:¬0<(sanchor l).1:=h0
     unfold nst;rw [if_neg h0]
    have hNw:Nw w g l r 1 w1:=⟨v,by rw [hn];exact hblk1,by rw [hn];exact hlst1,⟨rx,ry,rz,hres1⟩,hB1⟩
    have HNw:=Hid.mk hNw
    generalize (sanchor l).1=A at*
    generalize (sanchor l).2.length=D at*
    clear k1 HN hblk hlst hres hbr hblk1 hres1 hB1 hlst1 hNw hl1 hb1 hn
    go_wp2
    go_roundw
    case rel=>exact⟨1,by omega,by go_num,HNw.out⟩
    case measure=>simp [intOf]
  ·obtain⟨v,hblk,hlst,hres,hbr⟩:=hN
   have k1:=h2.out wr hbr
   have HN:=Hid.mk (And.intro hblk (And.intro hlst (And.intro hres hbr)))
   clear hblk hlst hres hbr
   generalize hns:nst l r 1=S at*
   go_wp2_with fail
   refine k1.mono ?_
   rintro e w1 ⟨v1,rfl,hl1,hb1⟩
   obtain⟨a1,c1,hv1,hq1⟩:=hl1
   subst hv1
   have hl1:LstIn w1 g _ _:=⟨a1,c1,rfl,hq1⟩
   clear hq1
   obtain⟨hblk,hlst,⟨rx,ry,rz,hres⟩,hbr⟩:=HN.out
   have hblk1:=(hb1.block _ (Array.getElem?_eq_some_iff.1 hblk).1).trans hblk
   have hres1:=(hb1.block _ (Array.getElem?_eq_some_iff.1 hres).1).trans hres
   have hB1:=hbr.trans (hb1.mono hbr.size)
   have hlst1:=hlst.later hb1
   have hc0:=cell_of_block hblk1 (j:=0) rfl
   have hc1:=cell_of_block hblk1 (j:=1) rfl
   have hc2:=cell_of_block hblk1 (j:=2) rfl
   have hf0:=frozen_of_block hblk1 0
   have hf1:=frozen_of_block hblk1 1
   have hf2:=frozen_of_block hblk1 2
   have hz:=hB1.size
   by_cases h0:S.2.1<(sanchor r).1
   ·have h0':((S.2.1:Nat):Int)<(((sanchor r).1:Nat):Int):=by omega
    have hn:nst l r 2=(1,(sanchor r).1,(sanchor r).2):=by
     rw [←hns] at h0
     unfold nst at h0⊢;rw [if_pos h0]
    have hkp:=keeps3 w1 (w.heap.size+1) (.int .i64 1) (.int .i64 (((sanchor r).1:Nat):Int)) (.slice a1 (sanchor r).2.length c1)
    have hNw:Nw w g l r 2 (((w1.setCell ⟨w.heap.size+1,0,none⟩ (.int .i64 1)).setCell ⟨w.heap.size+1,1,none⟩ (.int .i64 (((sanchor r).1:Nat):Int))).setCell ⟨w.heap.size+1,2,none⟩ (.slice a1 (sanchor r).2.length c1)):=by
     refine⟨_,by rw [hn];exact(set3 (x:= .int .i64 1) (y:= .int .i64 (((sanchor r).1:Nat):Int)) (z:= .slice a1 (sanchor r).2.length c1) hblk1),by rw [hn];exact hl1.agree (hkp.block g (by omega) (by omega)),⟨rx,ry,rz,(hkp.block _ (Array.getElem?_eq_some_iff.1 hres1).1 (by omega)).trans hres1⟩,hB1.trans (hkp.below (fun j hj=>by omega) hB1.size)⟩
    have HNw:=Hid.mk hNw
    generalize (sanchor r).1=A at*
    generalize (sanchor r).2.length=D at*
    clear k1 HN hblk hlst hres hbr hblk1 hres1 hB1 hlst1 hkp hNw hl1 hb1 hn
    go_wp2
    go_roundw
    case rel=>exact⟨2,by omega,by go_num,HNw.out⟩
    case measure=>simp [intOf]
   ·have h0':¬((S.2.1:Nat):Int)<(((sanchor r).1:Nat):Int):=by omega
    have hn:nst l r 2=S:=by
     rw [←hns] at h0⊢
     unfold nst at h0⊢;rw [if_neg h0]
    have hNw:Nw w g l r 2 w1:=⟨v,by rw [hn];exact hblk1,by rw [hn];exact hlst1,⟨rx,ry,rz,hres1⟩,hB1⟩
    have HNw:=Hid.mk hNw
    generalize (sanchor r).1=A at*
    generalize (sanchor r).2.length=D at*
    clear k1 HN hblk hlst hres hbr hblk1 hres1 hB1 hlst1 hNw hl1 hb1 hn
    go_wp2
    go_roundw
    case rel=>exact⟨2,by omega,by go_num,HNw.out⟩
    case measure=>simp [intOf]
  ·obtain⟨v,hblk,hlst,⟨rx,ry,rz,hres⟩,hbr⟩:=hN
   rw [Hfin.out] at hblk hlst
   obtain⟨a1,c1,hv1,hq1⟩:=hlst
   subst hv1
   have hlst:LstIn wr g _ _:=⟨a1,c1,rfl,hq1⟩
   clear hq1
   dsimp only at hblk hlst
   generalize hD:(snewest l r).2.2.1.length=D at*
   have hc0:=cell_of_block hblk (j:=0) rfl
   have hc1:=cell_of_block hblk (j:=1) rfl
   have hc2:=cell_of_block hblk (j:=2) rfl
   have hd0:=cell_of_block hres (j:=0) rfl
   have hd1:=cell_of_block hres (j:=1) rfl
   have hd2:=cell_of_block hres (j:=2) rfl
   have hf0:=frozen_of_block hres 0
   have hf1:=frozen_of_block hres 1
   have hf2:=frozen_of_block hres 2
   have hset:=set3 (x:= .int .i64 (((snewest l r).1:Nat):Int)) (y:= .int .i64 (((snewest l r).2.1:Nat):Int)) (z:= .slice a1 D c1) hres
   have hkp:=keeps3 wr w.heap.size (.int .i64 (((snewest l r).1:Nat):Int)) (.int .i64 (((snewest l r).2.1:Nat):Int)) (.slice a1 D c1)
   have hz:=hbr.size
   have hl2:=hlst.agree (hkp.block g (by omega) (by omega))
   have hB2:=hbr.trans (hkp.below (fun j hj=>by omega) hbr.size)
   have HH:=Hid.mk (And.intro hl2 hB2)
   have e0:=cell_of_block hset (j:=0) rfl
   have e1:=cell_of_block hset (j:=1) rfl
   have e2:=cell_of_block hset (j:=2) rfl
   clear hblk hlst hres hbr hkp hl2 hB2 Hfin h1 h2
   have hr3:=Hid.mk (range3 hset)
   obtain⟨A,hA⟩:∃A,A=(snewest l r).1:=⟨_,rfl⟩
   obtain⟨B,hB⟩:∃B,B=(snewest l r).2.1:=⟨_,rfl⟩
   rw [←hA] at hc0 hset HH e0 e1 e2 hr3
   rw [←hB] at hc1 hset HH e0 e1 e2 hr3
   have HA:=Hid.mk hA
   have HB:=Hid.mk hB
   clear hA hB hD hset
   go_wp2
   exact bodyPost_ret (results_cell_mid (P:=Tryz.prog) rfl _ _ w.heap.size _ _ rfl hr3.out Tryz.underlying194 rfl infoAnchor) rfl ⟨.slice a1 D c1,by rw [←HA.out,←HB.out],HH.out⟩
end Go.Proofs.YtkiehemoiapkkaaGreat
end
section
namespace Go.Proofs.YtkiehemoiapkkaaGreat
open Go.RowKit
theorem results_tmp4 {P:Program} {fn:Func} {p q r s:Tmp} (h:fn.results= #[.tmp p, .tmp q, .tmp r, .tmp s]) (tmps:Array Value) (w:World):
    (results fn tmps).run P w= .ok (.tuple #[tmps.getD p undef,tmps.getD q undef,tmps.getD r undef,tmps.getD s undef]) w:=by
 simp [results,h]
theorem infoPairL {l r:List Int} (h:l.length=512) (h2:r.length=512):(Tryz.prog.info? 190).map (·.size)=some (bs (l ++ r)).length:=by
 rw [sizePair,bs,List.length_map,List.length_append,h,h2]
theorem pair_srcs {w:World} {T:TypeId} {g:Nat} {l r:List Int} (h:Blk w T g (l ++ r)) (hl:l.length=512) (hr:r.length=512):Src w (some ⟨g,0,none⟩) 512 l∧Src w (some ⟨g,512,none⟩) 512 r:=by
 have hll:(l ++ r).length=1024:=by simp;omega
 have h1:=h.src (o:=0) (n:=512) (by omega)
 have h2:=h.src (o:=512) (n:=512) (by omega)
 rw [List.drop_zero,List.take_left' hl] at h1
 rw [List.drop_left' hl,List.take_of_length_le (by omega)] at h2
 exact⟨h1,h2⟩
set_option maxRecDepth 20000 in
set_option maxHeartbeats 4000000 in
theorem pnewest_any (a:Option Addr) (n c:Nat) (l:List Int) (a2:Option Addr) (m d:Nat) (r:List Int) (w:World) (hs:Src w a n l) (hs2:Src w a2 m r) (hl:Bytes l) (hr:Bytes r):
  Calls Tryz.prog 165 #[.slice a n c, .slice a2 m d] w fun e w'=>∃v,e= .returned (.tuple #[.int .i64 (((snewest l r).1:Nat):Int), .int .i64 (((snewest l r).2.1:Nat):Int),v, .int .i64 (((snewest l r).2.2.2:Nat):Int)])∧Lst w' w.heap.size v (snewest l r).2.2.1∧Below w.heap.size w w':=by
 have hz:=zeroPair
 have h1:=pairOf_any a n c l a2 m d r w hs hs2
 have hln:=hs.1
 have hrn:=hs2.1
 have hinfo:=infoPairL (secOf_len l) (secOf_len r)
 have hall:=all_oneCell_toArray (bs_one (secOf l ++ secOf r))
 have hFl:(bs (secOf l ++ secOf r)).length=1024:=by rw [bs,List.length_map,List.length_append,secOf_len,secOf_len]
 obtain⟨F,hF⟩:∃F,F=bs (secOf l ++ secOf r):=⟨_,rfl⟩
 rw [←hF] at h1 hinfo hall hFl
 have HF:=Hid.mk hF
 clear hF hs hs2
 go_enter Tryz.func165,Tryz.ntmps165
 go_wp2_with fail
 refine h1.mono ?_
 rintro e w1 ⟨rfl,hb1⟩
 have hw1:(w1.alloc (.cells zpair 190)).heap[w1.heap.size]? =some (.cells zpair 190 (0,0)):=heap_alloc_new _ _
 have hth:=there_of hw1 zpair_size
 rw [←hFl] at hth
 have hB1:Below w.heap.size w (w1.alloc (.cells zpair 190)):=hb1.alloc hb1.size _
 have hsz:=hb1.size
 have hB2:=hB1.trans ((Keeps.setCells (F:=fun j=>j=w1.heap.size) rfl F 0 _).below (fun j hj=>by omega) hB1.size)
 have hblk:=blk_stored (l:=secOf l ++ secOf r) hw1 (by rw [zpair_size,List.length_append,secOf_len,secOf_len])
 rw [←HF.out] at hblk
 obtain⟨w2,hw2⟩:∃w2,w2=(w1.alloc (.cells zpair 190)).setCells w1.heap.size 0 F:=⟨_,rfl⟩
 rw [←hw2] at hB2 hblk
 have HB2:=Hid.mk hB2
 have Hblk:=Hid.mk hblk
 have HW2:=Hid.mk hw2
 clear h1 hw1 hB1 hb1 hB2 hblk hw2
 by_cases hwh:n=512∧m=512
 ·obtain⟨rfl,rfl⟩:=hwh
  rw [(secOf_self hln),(secOf_self hrn)] at Hblk
  obtain⟨s1,s2⟩:=pair_srcs Hblk.out hln hrn
  have k1:=newest_any w1.heap.size l r w2 s1 s2 hl hr
  have hse:=snewest_eq hln hrn
  have hsm:(snewest l r).2.1≤9223372036854775807:=by
   have sl:=sanchor_small l
   have sr:=sanchor_small r
   rw [hse];split
   ·simp
   ·split <;> simp only <;> omega
  have herr:((snewest l r).2.1=0∧(snewest l r).1=0∧(snewest l r).2.2.1= []∧(snewest l r).2.2.2=30)∨(0<(snewest l r).2.1∧(snewest l r).2.2.2=0):=by
   rw [hse]
   by_cases q:(sanchor l).1=0∧(sanchor r).1=0
   ·rw [if_pos q];exact .inl ⟨rfl,rfl,rfl,rfl⟩
   ·rw [if_neg q]
    by_cases q2:(sanchor l).1<(sanchor r).1
    ·rw [if_pos q2];exact .inr ⟨by simp only;omega,rfl⟩
    ·rw [if_neg q2];exact .inr ⟨by simp only;omega,rfl⟩
  clear hse Hblk s1 s2
  go_wp2_with (refine wpList_store_mid rfl 190 _ _ rfl w1.heap.size 0 F.toArray rfl rfl ?h1 ?h2 hall ?_)
  case h1=>simpa using hth
  case h2=>simpa using hinfo
  rw [←HW2.out]
  refine k1.mono ?_
  rintro e w3 ⟨v,rfl,hlst,hb3⟩
  obtain⟨va,vc,hv,hq⟩:=hlst
  subst hv
  have hlst:LstIn w3 w1.heap.size _ _:=⟨va,vc,rfl,hq⟩
  have hB3:=HB2.out.trans (hb3.mono HB2.out.size)
  have HL:=Hid.mk (fun w' (h:Below w3.heap.size w3 w')=>And.intro ((hlst.lst hsz).later h) (hB3.trans (h.mono hB3.size)))
  obtain⟨A,hA⟩:∃A,A=(snewest l r).1:=⟨_,rfl⟩
  obtain⟨B,hB⟩:∃B,B=(snewest l r).2.1:=⟨_,rfl⟩
  obtain⟨D,hD⟩:∃D,D=(snewest l r).2.2.1:=⟨_,rfl⟩
  obtain⟨E,hE⟩:∃E,E=(snewest l r).2.2.2:=⟨_,rfl⟩
  rw [←hA,←hB,←hD,←hE] at herr
  rw [←hB] at hsm
  rw [←hD] at HL
  rw [←hA,←hB,←hD]
  have HE:=Hid.mk (And.intro hA (And.intro hB (And.intro hD hE)))
  clear k1 hq hlst hb3 HW2 hth hinfo hall hB3 HB2 hA hB hD hE
  rcases herr with ⟨rfl,rfl,rfl,rfl⟩|⟨hB0,rfl⟩
  ·go_wp2
   exact bodyPost_ret (results_tmp4 (P:=Tryz.prog) rfl _ _) rfl ⟨.slice none 0 0,by rw [←HE.out.1,←HE.out.2.1,←HE.out.2.2.2];rfl,by rw [←HE.out.2.2.1];exact Lst.nil _ _,(HL.out _ ((Below.refl _ w3).alloc (Nat.le_refl _) _)).2⟩
  ·have hB0':((B:Int) == 0)=false:=by rw [beq_eq_false_iff_ne];omega
   generalize hDL:D.length=DL at*
   clear hDL
   go_wp2
   go_quiet (fail)
   go_wp2
   exact bodyPost_ret (results_tmp4 (P:=Tryz.prog) rfl _ _) rfl ⟨.slice va DL vc,by rw [←HE.out.1,←HE.out.2.1,←HE.out.2.2.2];rfl,by rw [←HE.out.2.2.1];exact(HL.out _ (below_drewN ((Below.refl _ w3).alloc (Nat.le_refl _) _) _)).1,(HL.out _ (below_drewN ((Below.refl _ w3).alloc (Nat.le_refl _) _) _)).2⟩
 ·have e1:snewest l r=(0,0, [],2):=by unfold snewest;rw [if_pos (by omega)]
  have hbb:(decide (n=512) && decide (m=512))=false:=by
   rw [←Bool.decide_and,decide_eq_false hwh]
  have He1:=Hid.mk e1
  rw [hbb]
  clear e1 hbb hwh
  go_wp2_with (refine wpList_store_mid rfl 190 _ _ rfl w1.heap.size 0 F.toArray rfl rfl ?h1 ?h2 hall ?_)
  case h1=>simpa using hth
  case h2=>simpa using hinfo
  rw [←HW2.out]
  exact bodyPost_ret (results_tmp4 (P:=Tryz.prog) rfl _ _) rfl ⟨.slice none 0 0,by rw [He1.out];rfl,by rw [He1.out];exact Lst.nil _ _,HB2.out⟩
end Go.Proofs.YtkiehemoiapkkaaGreat
end
section
namespace Go.Proofs.YtkiehemoiapkkaaGreat
open Go.RowKit
end Go.Proofs.YtkiehemoiapkkaaGreat
end
section
namespace Go.Proofs.YtkiehemoiapkkaaGreat
open Go.RowKit
end Go.Proofs.YtkiehemoiapkkaaGreat
end
section
namespace Go.Proofs.YtkiehemoiapkkaaGreat
open Go.RowKit
end Go.Proofs.YtkiehemoiapkkaaGreat
end
section
namespace Go.Proofs.YtkiehemoiapkkaaGreat
open Go.RowKit
end Go.Proofs.YtkiehemoiapkkaaGreat
end
section
namespace Go.Proofs.YtkiehemoiapkkaaGreat
open Go.RowKit
theorem wpList_make_part (w:World) {ops:Array Oper} {rest:List Oper} {o:Oper} {a:Act} {Q:Exit→Act→World→Prop}
    (hg:o.guard=none) (l c:Operand) (hop:o.op=Op.makeSlice 44 l c) (C:Int) (m n:Nat) (hl:a.eval l= .int .i64 (m:Int)) (hc:a.eval c= .int .i64 C) (hC:C=(n:Int)) (hmn:m≤n) (hn:n≤140737488355328)
    (hK:∀w',Blk w' 5 w.heap.size (zs n)→Below w.heap.size w w'→wpList Tryz.prog ops Q rest (a.put o.dst (.slice (some ⟨w.heap.size,0,none⟩) m n)) w'):
  wpList Tryz.prog ops Q (o :: rest) a w:=by
 refine wpList_plain hg fun K hK'=>?_
 obtain⟨i,hi,hz0,hz1,hz2⟩:=info_parts infoU8
 subst hC
 have hr:=run_make (P:=Tryz.prog) w 44 5 i (.int .u8 0) Tryz.underlying44 hi hz0 .i64 .i64 (m:Int) (n:Int) (by omega) (by omega) (by rw [hz2];omega) (by omega)
 simp only [Int.toNat_natCast,hz1,Nat.mul_one] at hr
 unfold Oper.wp
 simp [execOp,hop,hl,hc,hr,Result.andThen]
 refine hK' _ _ (hK _ ?_ ?_)
 ·have h1:=heap_alloc_new w (.cells (madeCells (Value.int .u8 0).cells n) 5)
  have e:madeCells (Value.int .u8 0).cells n=(bs (zs n)).toArray:=by
   apply Array.ext'
   have:(Value.int .u8 0).cells= #[Value.int .u8 0]:=rfl
   rw [this,toList_madeCells_one]
   simp [bs,zs]
  rw [e] at h1
  unfold Blk
  rw [←h1]
  simp [e]
 ·exact(Below.refl _ w).alloc (Nat.le_refl _) _
end Go.Proofs.YtkiehemoiapkkaaGreat
end
section
namespace Go.Proofs.YtkiehemoiapkkaaGreat
open Go.RowKit
theorem leb8 (n:Nat):leb 8 n=bytes8 n:=by
 rw [bytes8_eq]
 simp only [leb,Nat.div_div_eq_div_mul]
theorem own_blk {w:World} {B g n:Nat} {p q:List Int} (h:Blk w 5 g (p ++ q)) (hg:B≤g) (hn:n=(p ++ q).length) (hm:n≤maxLen):Own w B (.slice (some ⟨g,0,none⟩) p.length n) p:=by
 subst hn
 refine⟨by simp [bs], .inr ⟨g,(p ++ q).length,_,rfl,hg,h,by simp,hm,by simp [bs],?_⟩⟩
 rw [bs_append]
 simp [bs]
set_option maxRecDepth 20000 in
set_option maxHeartbeats 4000000 in
theorem anchorBody_any (N:Nat) (a:Option Addr) (n c:Nat) (l:List Int) (w:World) (hN:N<9223372036854775808) (hs:Src w a n l) (hn:n≤496) (hca:a=none→c=0):
  Calls Tryz.prog 160 #[.int .i64 (N:Int), .slice a n c] w fun e w'=>∃v,e= .returned v∧Own w' w.heap.size v (bytes8 N ++ l)∧Below w.heap.size w w':=by
 obtain⟨i0,hi,hz0,hz1,hz2⟩:=info_parts infoU8
 have hl:=hs.1
 go_enter Tryz.func160,Tryz.ntmps160
 go_wp2_with (at_make;refine wpList_make_part _ rfl _ _ rfl _ 8 (8+n) rfl rfl ?c1 ?c2 ?c3 ?_)
 case c1=>omega
 case c2=>omega
 case c3=>omega
 intro w1 hblk hb1
 have hl1:=lay_any w.heap.size 0 8 (8+n) N 5 (zs (8+n)) w1 hblk (by omega) (by rw [zs_len];omega)
 have e1:put (zs (8+n)) 0 (leb 8 N)=bytes8 N ++ zs n:=by
  rw [leb8,put,zs_add,bytes8_len]
  simp only [List.take_zero,List.nil_append,Nat.zero_add]
  rw [List.drop_left' (zs_len 8)]
 rw [e1] at hl1
 go_wp2_with fail
 refine hl1.mono ?_
 rintro e w2 ⟨rfl,hblk2,hk2,hz2'⟩
 have hB2:=hb1.trans (hk2.below (fun j hj=>by omega) hb1.size)
 have hown:=own_blk hblk2 (Nat.le_refl _) (by rw [List.length_append,bytes8_len,zs_len]) (by unfold maxLen;omega)
 rw [bytes8_len] at hown
 have hrow:w2.ownsRow w.heap.size 5 1 (.slice (some ⟨w.heap.size,0,none⟩) 8 (8+n)) 8 (bs (bytes8 N)):=by
  have:=hown
  unfold Own at this
  rwa [bytes8_len] at this
 have hz:=hB2.size
 cases a with
 |none=>
  have hn0:=hs.2.1 rfl
  subst hn0
  have hl0:=List.eq_nil_of_length_eq_zero hl
  subst hl0
  have hc0:=hca rfl
  subst hc0
  go_wp2_with (at_builtin;refine wpList_append_own_none rfl _ _ 44 rfl w.heap.size 5 i0 1 Tryz.underlying44 hi _ 8 (bs (bytes8 N)) rfl hrow rfl ?_)
  go_ret
  exact⟨_,rfl,by rw [List.append_nil];exact hown,hB2⟩
 |some x=>
  have hcells:=(fun j u (hj:(bs l)[j]? =some u)=>show w2.cell? (x.add j)=some u by
   obtain⟨hj1,rfl⟩:=bs_getElem hj
   exact cell_later hB2 (hs.2.2 _ rfl j (by omega)))
  have hll:(bs l).length=n:=by rw [bs,List.length_map,hl]
  go_wp2_with (at_builtin;refine wpList_append_own _ rfl _ _ 44 rfl w.heap.size 5 i0 (.int .u8 0) 1 1 Tryz.underlying44 hi hz0 hz1 hz2 rfl (by decide) _ 8 (bs (bytes8 N)) rfl hrow x n c (bs l) rfl ?n0 hcells ?n2 ?n3 ?n4 ?n5 ?_)
  case n0=>omega
  case n2=>exact bs_one _
  case n3=>unfold maxLen;omega
  case n4=>omega
  case n5=>exact hz
  intro v' w3 hown' hgrow' _
  rw [←bs_append] at hown'
  have HO:=(own_of (m:=bytes8 N ++ l) hown' (by rw [List.length_append,bytes8_len];omega) rfl)
  go_wp2
  go_ret
  exact⟨_,rfl,HO,(hB2.grown hgrow' hz (fun q e=>(hrow.lt q e).1))⟩
end Go.Proofs.YtkiehemoiapkkaaGreat
end
