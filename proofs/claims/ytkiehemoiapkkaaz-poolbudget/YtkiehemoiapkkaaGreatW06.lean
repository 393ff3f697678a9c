import Derived.Test.YtkiehemoiapkkaaGreatW04
import Derived.Test.YtkiehemoiapkkaaGreatW05
section
namespace Go.Proofs.YtkiehemoiapkkaaGreat
open Go.RowKit
set_option maxRecDepth 20000 in
set_option maxHeartbeats 2000000 in
theorem other_any (s n:Nat) (v:Value) (w:World) (hs:s≤1):
  Calls Tryz.prog 157 #[.agg #[.int .i64 (s:Int), .int .i64 (n:Int),v]] w fun e w'=>e= .returned (.int .i64 ((if n=0 then 0 else 1-s:Nat):Int))∧Below w.heap.size w w':=by
 have HB:=((Below.refl w.heap.size w).alloc (Nat.le_refl _) (.cells #[.int .i64 (s:Int), .int .i64 (n:Int),v] 194))
 go_enter Tryz.func157,Tryz.ntmps157
 by_cases h:n=0
 ·subst h
  go_wp2
  go_ret
  exact⟨rfl,HB⟩
 ·have h':((n:Int) == 0)=false:=by rw [beq_eq_false_iff_ne];omega
  have e:((if n=0 then 0 else 1-s:Nat):Int)=1-(s:Int):=by rw [if_neg h];omega
  rw [e]
  go_wp2
  go_ret
  exact⟨rfl,HB⟩
end Go.Proofs.YtkiehemoiapkkaaGreat
end
section
namespace Go.Proofs.YtkiehemoiapkkaaGreat
open Go.RowKit
set_option maxRecDepth 20000 in
set_option maxHeartbeats 4000000 in
theorem renew_no1 (a:Option Addr) (n c:Nat) (l:List Int) (a2:Option Addr) (m d:Nat) (r:List Int) (a3:Option Addr) (q e3:Nat) (num:Int) (w:World) (hs:Src w a n l) (hs2:Src w a2 m r) (hno:¬(n=512∧m=512)):
  Calls Tryz.prog 132 #[.slice a n c, .slice a2 m d, .int .i64 num, .slice a3 q e3] w fun e w'=>e= .returned (.tuple #[.int .i64 0, .slice none 0 0, .int .i64 2])∧Below w.heap.size w w':=by
 have hwh:(decide (n=512) && decide (m=512))=false:=by rw [←Bool.decide_and,decide_eq_false hno]
 clear hno
 have hz:=zeroPair
 have h1:=pairOf_any a n c l a2 m d r w hs hs2
 have hinfo:=infoPairL (secOf_len l) (secOf_len r)
 have hall:=all_oneCell_toArray (bs_one (secOf l ++ secOf r))
 have hFl:(bs (secOf l ++ secOf r)).length=1024:=by rw [bs,List.length_map,List.length_append,secOf_len,secOf_len]
 obtain⟨F,hF⟩:∃F,F=bs (secOf l ++ secOf r):=⟨_,rfl⟩
 rw [←hF] at h1 hinfo hall hFl
 have HF:=Hid.mk hF
 clear hF hs hs2
 go_enter Tryz.func132,Tryz.ntmps132
 go_wp2_with fail
 refine h1.mono ?_
 rintro e w1 ⟨rfl,hb1⟩
 have hw1:(w1.alloc (.cells zpair 190)).heap[w1.heap.size]? =some (.cells zpair 190 (0,0)):=heap_alloc_new _ _
 have hth:=there_of hw1 zpair_size
 rw [←hFl] at hth
 have hB1:Below w.heap.size w (w1.alloc (.cells zpair 190)):=hb1.alloc hb1.size _
 have hsz:=hb1.size
 have hB2:=hB1.trans ((Keeps.setCells (F:=fun j=>j=w1.heap.size) rfl F 0 _).below (fun j hj=>by omega) hB1.size)
 have hblk:=blk_stored (l:=secOf l ++ secOf r) hw1 (by rw [zpair_size,List.length_append,secOf_len,secOf_len])
 rw [←HF.out] at hblk
 obtain⟨w2,hw2⟩:∃w2,w2=(w1.alloc (.cells zpair 190)).setCells w1.heap.size 0 F:=⟨_,rfl⟩
 rw [←hw2] at hB2 hblk
 have HB2:=Hid.mk hB2
 have HW2:=Hid.mk hw2
 clear h1 hw1 hB1 hb1 hB2 hblk hw2
 rw [hwh]
 go_wp2_with (refine wpList_store_mid rfl 190 _ _ rfl w1.heap.size 0 F.toArray rfl rfl ?h1 ?h2 hall ?_)
 case h1=>simpa using hth
 case h2=>simpa using hinfo
 rw [←HW2.out]
 go_ret3
 exact⟨rfl,HB2.out⟩
set_option maxRecDepth 20000 in
set_option maxHeartbeats 4000000 in
theorem renew_no2 (a:Option Addr) (n c:Nat) (l:List Int) (a2:Option Addr) (m d:Nat) (r:List Int) (a3:Option Addr) (q e3:Nat) (num:Int) (w:World) (hs:Src w a n l) (hs2:Src w a2 m r) (hyes:n=512∧m=512) (h1n:num<1):
  Calls Tryz.prog 132 #[.slice a n c, .slice a2 m d, .int .i64 num, .slice a3 q e3] w fun e w'=>e= .returned (.tuple #[.int .i64 0, .slice none 0 0, .int .i64 1])∧Below w.heap.size w w':=by
 have hwh:(decide (n=512) && decide (m=512))=true:=by rw [←Bool.decide_and,decide_eq_true hyes]
 clear hyes
 have hz:=zeroPair
 have h1:=pairOf_any a n c l a2 m d r w hs hs2
 have hinfo:=infoPairL (secOf_len l) (secOf_len r)
 have hall:=all_oneCell_toArray (bs_one (secOf l ++ secOf r))
 have hFl:(bs (secOf l ++ secOf r)).length=1024:=by rw [bs,List.length_map,List.length_append,secOf_len,secOf_len]
 obtain⟨F,hF⟩:∃F,F=bs (secOf l ++ secOf r):=⟨_,rfl⟩
 rw [←hF] at h1 hinfo hall hFl
 have HF:=Hid.mk hF
 clear hF hs hs2
 go_enter Tryz.func132,Tryz.ntmps132
 go_wp2_with fail
 refine h1.mono ?_
 rintro e w1 ⟨rfl,hb1⟩
 have hw1:(w1.alloc (.cells zpair 190)).heap[w1.heap.size]? =some (.cells zpair 190 (0,0)):=heap_alloc_new _ _
 have hth:=there_of hw1 zpair_size
 rw [←hFl] at hth
 have hB1:Below w.heap.size w (w1.alloc (.cells zpair 190)):=hb1.alloc hb1.size _
 have hsz:=hb1.size
 have hB2:=hB1.trans ((Keeps.setCells (F:=fun j=>j=w1.heap.size) rfl F 0 _).below (fun j hj=>by omega) hB1.size)
 have hblk:=blk_stored (l:=secOf l ++ secOf r) hw1 (by rw [zpair_size,List.length_append,secOf_len,secOf_len])
 rw [←HF.out] at hblk
 obtain⟨w2,hw2⟩:∃w2,w2=(w1.alloc (.cells zpair 190)).setCells w1.heap.size 0 F:=⟨_,rfl⟩
 rw [←hw2] at hB2 hblk
 have HB2:=Hid.mk hB2
 have HW2:=Hid.mk hw2
 clear h1 hw1 hB1 hb1 hB2 hblk hw2
 rw [hwh]
 go_wp2_with (refine wpList_store_mid rfl 190 _ _ rfl w1.heap.size 0 F.toArray rfl rfl ?h1 ?h2 hall ?_)
 case h1=>simpa using hth
 case h2=>simpa using hinfo
 rw [←HW2.out]
 go_ret3
 exact⟨rfl,HB2.out⟩
set_option maxRecDepth 20000 in
set_option maxHeartbeats 4000000 in
theorem renew_no3 (a:Option Addr) (n c:Nat) (l:List Int) (a2:Option Addr) (m d:Nat) (r:List Int) (a3:Option Addr) (q e3:Nat) (num:Int) (w:World) (hs:Src w a n l) (hs2:Src w a2 m r) (hyes:n=512∧m=512) (h1n:¬num<1) (h2n:496<q):
  Calls Tryz.prog 132 #[.slice a n c, .slice a2 m d, .int .i64 num, .slice a3 q e3] w fun e w'=>e= .returned (.tuple #[.int .i64 0, .slice none 0 0, .int .i64 7])∧Below w.heap.size w w':=by
 have hwh:(decide (n=512) && decide (m=512))=true:=by rw [←Bool.decide_and,decide_eq_true hyes]
 have h2n':496<(q:Int):=by omega
 clear hyes
 have hz:=zeroPair
 have h1:=pairOf_any a n c l a2 m d r w hs hs2
 have hinfo:=infoPairL (secOf_len l) (secOf_len r)
 have hall:=all_oneCell_toArray (bs_one (secOf l ++ secOf r))
 have hFl:(bs (secOf l ++ secOf r)).length=1024:=by rw [bs,List.length_map,List.length_append,secOf_len,secOf_len]
 obtain⟨F,hF⟩:∃F,F=bs (secOf l ++ secOf r):=⟨_,rfl⟩
 rw [←hF] at h1 hinfo hall hFl
 have HF:=Hid.mk hF
 clear hF hs hs2
 go_enter Tryz.func132,Tryz.ntmps132
 go_wp2_with fail
 refine h1.mono ?_
 rintro e w1 ⟨rfl,hb1⟩
 have hw1:(w1.alloc (.cells zpair 190)).heap[w1.heap.size]? =some (.cells zpair 190 (0,0)):=heap_alloc_new _ _
 have hth:=there_of hw1 zpair_size
 rw [←hFl] at hth
 have hB1:Below w.heap.size w (w1.alloc (.cells zpair 190)):=hb1.alloc hb1.size _
 have hsz:=hb1.size
 have hB2:=hB1.trans ((Keeps.setCells (F:=fun j=>j=w1.heap.size) rfl F 0 _).below (fun j hj=>by omega) hB1.size)
 have hblk:=blk_stored (l:=secOf l ++ secOf r) hw1 (by rw [zpair_size,List.length_append,secOf_len,secOf_len])
 rw [←HF.out] at hblk
 obtain⟨w2,hw2⟩:∃w2,w2=(w1.alloc (.cells zpair 190)).setCells w1.heap.size 0 F:=⟨_,rfl⟩
 rw [←hw2] at hB2 hblk
 have HB2:=Hid.mk hB2
 have HW2:=Hid.mk hw2
 clear h1 hw1 hB1 hb1 hB2 hblk hw2
 rw [hwh]
 go_wp2_with (refine wpList_store_mid rfl 190 _ _ rfl w1.heap.size 0 F.toArray rfl rfl ?h1 ?h2 hall ?_)
 case h1=>simpa using hth
 case h2=>simpa using hinfo
 rw [←HW2.out]
 go_ret3
 exact⟨rfl,HB2.out⟩
set_option maxRecDepth 20000 in
set_option maxHeartbeats 4000000 in
theorem renew_no4 (a:Option Addr) (n c:Nat) (l:List Int) (a2:Option Addr) (m d:Nat) (r:List Int) (a3:Option Addr) (q e3:Nat) (num:Int) (w:World) (hs:Src w a n l) (hs2:Src w a2 m r) (hl:Bytes l) (hr:Bytes r) (hyes:n=512∧m=512) (h1n:¬num<1) (h2n:q≤496) (h3n:num≤(((snewest l r).2.1:Nat):Int)):
  Calls Tryz.prog 132 #[.slice a n c, .slice a2 m d, .int .i64 num, .slice a3 q e3] w fun e w'=>e= .returned (.tuple #[.int .i64 0, .slice none 0 0, .int .i64 31])∧Below w.heap.size w w':=by
 obtain⟨hn5,hm5⟩:=hyes
 subst hn5
 subst hm5
 have hwh:(decide (512=512) && decide (512=512))=true:=rfl
 have H3n:=Hid.mk h3n
 clear h3n
 have hz:=zeroPair
 have h1:=pairOf_any a 512 c l a2 512 d r w hs hs2
 have hln:=hs.1
 have hrn:=hs2.1
 have hinfo:=infoPairL (secOf_len l) (secOf_len r)
 have hall:=all_oneCell_toArray (bs_one (secOf l ++ secOf r))
 have hFl:(bs (secOf l ++ secOf r)).length=1024:=by rw [bs,List.length_map,List.length_append,secOf_len,secOf_len]
 obtain⟨F,hF⟩:∃F,F=bs (secOf l ++ secOf r):=⟨_,rfl⟩
 rw [←hF] at h1 hinfo hall hFl
 have HF:=Hid.mk hF
 clear hF hs hs2
 go_enter Tryz.func132,Tryz.ntmps132
 go_wp2_with fail
 refine h1.mono ?_
 rintro e w1 ⟨rfl,hb1⟩
 have hw1:(w1.alloc (.cells zpair 190)).heap[w1.heap.size]? =some (.cells zpair 190 (0,0)):=heap_alloc_new _ _
 have hth:=there_of hw1 zpair_size
 rw [←hFl] at hth
 have hB1:Below w.heap.size w (w1.alloc (.cells zpair 190)):=hb1.alloc hb1.size _
 have hsz:=hb1.size
 have hB2:=hB1.trans ((Keeps.setCells (F:=fun j=>j=w1.heap.size) rfl F 0 _).below (fun j hj=>by omega) hB1.size)
 have hblk:=blk_stored (l:=secOf l ++ secOf r) hw1 (by rw [zpair_size,List.length_append,secOf_len,secOf_len])
 rw [←HF.out] at hblk
 obtain⟨w2,hw2⟩:∃w2,w2=(w1.alloc (.cells zpair 190)).setCells w1.heap.size 0 F:=⟨_,rfl⟩
 rw [←hw2] at hB2 hblk
 have HB2:=Hid.mk hB2
 have Hblk:=Hid.mk hblk
 have HW2:=Hid.mk hw2
 clear h1 hw1 hB1 hb1 hB2 hblk hw2
 rw [hwh]
 rw [(secOf_self hln),(secOf_self hrn)] at Hblk
 obtain⟨s1,s2⟩:=pair_srcs Hblk.out hln hrn
 have k1:=newest_any w1.heap.size l r w2 s1 s2 hl hr
 clear s1 s2 Hblk
 go_wp2_with (refine wpList_store_mid rfl 190 _ _ rfl w1.heap.size 0 F.toArray rfl rfl ?h1 ?h2 hall ?_)
 case h1=>simpa using hth
 case h2=>simpa using hinfo
 rw [←HW2.out]
 refine k1.mono ?_
 rintro e w3 ⟨v,rfl,hlst,hb3⟩
 obtain⟨va,vc,hv,hq⟩:=hlst
 subst hv
 have HB3:=Hid.mk ((HB2.out.trans (hb3.mono HB2.out.size)).alloc (Nat.le_trans HB2.out.size hb3.size) (.cells #[.int .i64 (((snewest l r).1:Nat):Int), .int .i64 (((snewest l r).2.1:Nat):Int), .slice va (snewest l r).2.2.1.length vc] 194))
 clear k1 hq hb3 HW2 hth hinfo hall HB2
 have h3n:=H3n.out
 clear H3n
 generalize (snewest l r).1=A at*
 generalize (snewest l r).2.1=B at*
 generalize (snewest l r).2.2.1.length=D at*
 go_wp2
 go_ret3
 exact⟨rfl,HB3.out⟩
set_option maxRecDepth 20000 in
set_option maxHeartbeats 4000000 in
theorem renew_ok0 (a:Option Addr) (n c:Nat) (l:List Int) (a2:Option Addr) (m d:Nat) (r:List Int) (a3:Option Addr) (q e3:Nat) (dt:List Int) (num:Int) (w:World) (hs:Src w a n l) (hs2:Src w a2 m r) (hl:Bytes l) (hr:Bytes r) (hyes:n=512∧m=512) (N:Nat) (hnum:num=(N:Int)) (hN1:1≤N) (hNm:N<9223372036854775808) (hs3:Src w a3 q dt) (hdt:Bytes dt) (h2n:q≤496) (hca:a3=none→e3=0) (h3n:(snewest l r).2.1<N) (hA:(snewest l r).1≤1) (hslot:(if (snewest l r).2.1=0 then 0 else 1-(snewest l r).1)=0):
  Calls Tryz.prog 132 #[.slice a n c, .slice a2 m d, .int .i64 num, .slice a3 q e3] w fun e w'=>∃g,e= .returned (.tuple #[.int .i64 0, .slice (some ⟨g,0,none⟩) 512 512, .int .i64 0])∧Blk w' 188 g (sform (turnOf (l.getD 0 0) (l.getD 511 0)) (bytes8 N ++ dt))∧w.heap.size≤g∧Below w.heap.size w w':=by
 subst hnum
 obtain⟨hn5,hm5⟩:=hyes
 subst hn5
 subst hm5
 have hwh:(decide (512=512) && decide (512=512))=true:=rfl
 have H3n:=Hid.mk h3n
 have HA:=Hid.mk hA
 have Hslot:=Hid.mk hslot
 clear h3n hA hslot
 have H3:=Hid.mk hs3
 have hdl:=hs3.1
 have hz2:=zeroSec
 have hz:=zeroPair
 have h1:=pairOf_any a 512 c l a2 512 d r w hs hs2
 have hln:=hs.1
 have hrn:=hs2.1
 have hinfo:=infoPairL (secOf_len l) (secOf_len r)
 have hall:=all_oneCell_toArray (bs_one (secOf l ++ secOf r))
 have hFl:(bs (secOf l ++ secOf r)).length=1024:=by rw [bs,List.length_map,List.length_append,secOf_len,secOf_len]
 obtain⟨F,hF⟩:∃F,F=bs (secOf l ++ secOf r):=⟨_,rfl⟩
 rw [←hF] at h1 hinfo hall hFl
 have HF:=Hid.mk hF
 clear hF hs hs2 hs3
 go_enter Tryz.func132,Tryz.ntmps132
 go_wp2_with fail
 refine h1.mono ?_
 rintro e w1 ⟨rfl,hb1⟩
 have hw1:(w1.alloc (.cells zpair 190)).heap[w1.heap.size]? =some (.cells zpair 190 (0,0)):=heap_alloc_new _ _
 have hth:=there_of hw1 zpair_size
 rw [←hFl] at hth
 have hB1:Below w.heap.size w (w1.alloc (.cells zpair 190)):=hb1.alloc hb1.size _
 have hsz:=hb1.size
 have hB2:=hB1.trans ((Keeps.setCells (F:=fun j=>j=w1.heap.size) rfl F 0 _).below (fun j hj=>by omega) hB1.size)
 have hblk:=blk_stored (l:=secOf l ++ secOf r) hw1 (by rw [zpair_size,List.length_append,secOf_len,secOf_len])
 rw [←HF.out] at hblk
 obtain⟨w2,hw2⟩:∃w2,w2=(w1.alloc (.cells zpair 190)).setCells w1.heap.size 0 F:=⟨_,rfl⟩
 rw [←hw2] at hB2 hblk
 have HB2:=Hid.mk hB2
 have Hblk:=Hid.mk hblk
 have HW2:=Hid.mk hw2
 clear h1 hw1 hB1 hb1 hB2 hblk hw2
 rw [hwh]
 rw [(secOf_self hln),(secOf_self hrn)] at Hblk
 obtain⟨s1,s2⟩:=pair_srcs Hblk.out hln hrn
 have k1:=newest_any w1.heap.size l r w2 s1 s2 hl hr
 have HS1:=Hid.mk s1
 clear s1 s2 Hblk
 go_wp2_with (refine wpList_store_mid rfl 190 _ _ rfl w1.heap.size 0 F.toArray rfl rfl ?h1 ?h2 hall ?_)
 case h1=>simpa using hth
 case h2=>simpa using hinfo
 rw [←HW2.out]
 refine k1.mono ?_
 rintro e w3 ⟨v,rfl,hlst,hb3⟩
 obtain⟨va,vc,hv,hq⟩:=hlst
 subst hv
 have hB3:=HB2.out.trans (hb3.mono HB2.out.size)
 have hb4:Below w3.heap.size w3 (w3.alloc (.cells #[.int .i64 (((snewest l r).1:Nat):Int), .int .i64 (((snewest l r).2.1:Nat):Int), .slice va (snewest l r).2.2.1.length vc] 194)):=(Below.refl _ w3).alloc (Nat.le_refl _) _
 have HB4:=Hid.mk (hB3.trans (hb4.mono hB3.size))
 have HX:=Hid.mk ((HS1.out.later hb3).later hb4)
 have ho:=Hid.mk (fun w'=>other_any (snewest l r).1 (snewest l r).2.1 (.slice va (snewest l r).2.2.1.length vc) w' HA.out)
 rw [Hslot.out] at ho
 have h3n':¬(N:Int)≤(((snewest l r).2.1:Nat):Int):=by have:=H3n.out;omega
 clear H3n HA Hslot
 clear k1 hq hb3 HW2 hth hinfo hall HB2 hB3 hb4 HS1
 generalize (snewest l r).1=A at*
 generalize (snewest l r).2.1=B at*
 generalize (snewest l r).2.2.1.length=D at*
 go_wp2_with fail
 refine(ho.out _).mono ?_
 rintro e w5 ⟨rfl,hb5⟩
 have HB5:=Hid.mk (HB4.out.trans (hb5.mono HB4.out.size))
 have HX5:=Hid.mk (HX.out.later hb5)
 have c0:=HX5.out.2.2 _ rfl 0 (by omega)
 have c1:=HX5.out.2.2 _ rfl 511 (by omega)
 rw [addr_add] at c0 c1
 have k2:=nextTurn_any w1.heap.size 0 (l.getD 0 0) (l.getD 511 0) w5 c0 c1
 have ht:=turnOf_le (l.getD 0 0) (l.getD 511 0)
 obtain⟨t,hteq⟩:∃t,t=turnOf (l.getD 0 0) (l.getD 511 0):=⟨_,rfl⟩
 rw [←hteq] at ht k2
 have Hteq:=Hid.mk hteq
 clear ho hb5 HB4 HX c0 c1 hteq
 go_wp2_with fail
 refine k2.mono ?_
 rintro e w' ⟨rfl,hw⟩
 have hw':=hw.symm
 subst hw'
 clear hw k2
 go_wp2_with fail
 refine(anchorBody_any N a3 q e3 dt w5 hNm (H3.out.later HB5.out) h2n hca).mono ?_
 rintro e w6 ⟨v6,rfl,ho6,hb6⟩
 obtain⟨p6,c6,rfl,hs6,_,_⟩:=ho6.src
 have hbl:(bytes8 N ++ dt).length=8+q:=by rw [List.length_append,bytes8_len,hdl]
 rw [hbl] at hs6⊢
 have HB6:=Hid.mk (HB5.out.trans (hb6.mono HB5.out.size))
 have k4:=sealed_any t p6 (8+q) c6 (bytes8 N ++ dt) w6 (by omega) hs6 (by omega) ((bytes8_bytes N).append hdt)
 have hfl:(sform t (bytes8 N ++ dt)).length=512:=sform_len (by omega)
 have hinfoS:=infoSecL (l:=sform t (bytes8 N ++ dt)) hfl
 have hallS:=all_oneCell_toArray (bs_one (sform t (bytes8 N ++ dt)))
 have hll2:(bs (sform t (bytes8 N ++ dt))).length=512:=by rw [bs,List.length_map,hfl]
 obtain⟨G,hG⟩:∃G,G=bs (sform t (bytes8 N ++ dt)):=⟨_,rfl⟩
 rw [←hG] at k4 hinfoS hallS hll2
 have HG:=Hid.mk hG
 clear ho6 hb6 hs6 HB5 hG
 generalize 8+q=Q8 at*
 go_wp2_with fail
 refine k4.mono ?_
 rintro e w7 ⟨rfl,hb7⟩
 have hB7:=HB6.out.trans (hb7.mono HB6.out.size)
 have hw7:(w7.alloc (.cells zsec 188)).heap[w7.heap.size]? =some (.cells zsec 188 (0,0)):=heap_alloc_new _ _
 have hth:=there_of hw7 zsec_size
 rw [←hll2] at hth
 have hblk:=blk_stored (l:=sform t (bytes8 N ++ dt)) hw7 (by rw [zsec_size,hfl])
 rw [←HG.out] at hblk
 have hsz7:=hB7.size
 have hB8:Below w.heap.size w (w7.alloc (.cells zsec 188)):=hB7.alloc hB7.size _
 have hB9:=hB8.trans ((Keeps.setCells (F:=fun j=>j=w7.heap.size) rfl G 0 _).below (fun j hj=>by omega) hB8.size)
 rw [Hteq.out] at hblk
 have HH:=Hid.mk (fun j=>And.intro (hblk.keep (w':=((w7.alloc (.cells zsec 188)).setCells w7.heap.size 0 G).drewN j) rfl) (And.intro hB7.size (below_drewN hB9 j)))
 clear k4 hb7 hB7 hw7 hblk hB8 hB9 HB6
 go_wp2_with (refine wpList_store_mid rfl 188 _ _ rfl w7.heap.size 0 G.toArray rfl rfl ?h1 ?h2 hallS ?_)
 case h1=>simpa using hth
 case h2=>simpa using hinfoS
 go_quiet (fail)
 go_wp2
 go_ret3
 exact⟨w7.heap.size,rfl,HH.out _⟩
set_option maxRecDepth 20000 in
set_option maxHeartbeats 4000000 in
theorem renew_ok1 (a:Option Addr) (n c:Nat) (l:List Int) (a2:Option Addr) (m d:Nat) (r:List Int) (a3:Option Addr) (q e3:Nat) (dt:List Int) (num:Int) (w:World) (hs:Src w a n l) (hs2:Src w a2 m r) (hl:Bytes l) (hr:Bytes r) (hyes:n=512∧m=512) (N:Nat) (hnum:num=(N:Int)) (hN1:1≤N) (hNm:N<9223372036854775808) (hs3:Src w a3 q dt) (hdt:Bytes dt) (h2n:q≤496) (hca:a3=none→e3=0) (h3n:(snewest l r).2.1<N) (hA:(snewest l r).1≤1) (hslot:(if (snewest l r).2.1=0 then 0 else 1-(snewest l r).1)=1):
  Calls Tryz.prog 132 #[.slice a n c, .slice a2 m d, .int .i64 num, .slice a3 q e3] w fun e w'=>∃g,e= .returned (.tuple #[.int .i64 1, .slice (some ⟨g,0,none⟩) 512 512, .int .i64 0])∧Blk w' 188 g (sform (turnOf (r.getD 0 0) (r.getD 511 0)) (bytes8 N ++ dt))∧w.heap.size≤g∧Below w.heap.size w w':=by
 subst hnum
 obtain⟨hn5,hm5⟩:=hyes
 subst hn5
 subst hm5
 have hwh:(decide (512=512) && decide (512=512))=true:=rfl
 have H3n:=Hid.mk h3n
 have HA:=Hid.mk hA
 have Hslot:=Hid.mk hslot
 clear h3n hA hslot
 have H3:=Hid.mk hs3
 have hdl:=hs3.1
 have hz2:=zeroSec
 have hz:=zeroPair
 have h1:=pairOf_any a 512 c l a2 512 d r w hs hs2
 have hln:=hs.1
 have hrn:=hs2.1
 have hinfo:=infoPairL (secOf_len l) (secOf_len r)
 have hall:=all_oneCell_toArray (bs_one (secOf l ++ secOf r))
 have hFl:(bs (secOf l ++ secOf r)).length=1024:=by rw [bs,List.length_map,List.length_append,secOf_len,secOf_len]
 obtain⟨F,hF⟩:∃F,F=bs (secOf l ++ secOf r):=⟨_,rfl⟩
 rw [←hF] at h1 hinfo hall hFl
 have HF:=Hid.mk hF
 clear hF hs hs2 hs3
 go_enter Tryz.func132,Tryz.ntmps132
 go_wp2_with fail
 refine h1.mono ?_
 rintro e w1 ⟨rfl,hb1⟩
 have hw1:(w1.alloc (.cells zpair 190)).heap[w1.heap.size]? =some (.cells zpair 190 (0,0)):=heap_alloc_new _ _
 have hth:=there_of hw1 zpair_size
 rw [←hFl] at hth
 have hB1:Below w.heap.size w (w1.alloc (.cells zpair 190)):=hb1.alloc hb1.size _
 have hsz:=hb1.size
 have hB2:=hB1.trans ((Keeps.setCells (F:=fun j=>j=w1.heap.size) rfl F 0 _).below (fun j hj=>by omega) hB1.size)
 have hblk:=blk_stored (l:=secOf l ++ secOf r) hw1 (by rw [zpair_size,List.length_append,secOf_len,secOf_len])
 rw [←HF.out] at hblk
 obtain⟨w2,hw2⟩:∃w2,w2=(w1.alloc (.cells zpair 190)).setCells w1.heap.size 0 F:=⟨_,rfl⟩
 rw [←hw2] at hB2 hblk
 have HB2:=Hid.mk hB2
 have Hblk:=Hid.mk hblk
 have HW2:=Hid.mk hw2
 clear h1 hw1 hB1 hb1 hB2 hblk hw2
 rw [hwh]
 rw [(secOf_self hln),(secOf_self hrn)] at Hblk
 obtain⟨s1,s2⟩:=pair_srcs Hblk.out hln hrn
 have k1:=newest_any w1.heap.size l r w2 s1 s2 hl hr
 have HS2:=Hid.mk s2
 clear s1 s2 Hblk
 go_wp2_with (refine wpList_store_mid rfl 190 _ _ rfl w1.heap.size 0 F.toArray rfl rfl ?h1 ?h2 hall ?_)
 case h1=>simpa using hth
 case h2=>simpa using hinfo
 rw [←HW2.out]
 refine k1.mono ?_
 rintro e w3 ⟨v,rfl,hlst,hb3⟩
 obtain⟨va,vc,hv,hq⟩:=hlst
 subst hv
 have hB3:=HB2.out.trans (hb3.mono HB2.out.size)
 have hb4:Below w3.heap.size w3 (w3.alloc (.cells #[.int .i64 (((snewest l r).1:Nat):Int), .int .i64 (((snewest l r).2.1:Nat):Int), .slice va (snewest l r).2.2.1.length vc] 194)):=(Below.refl _ w3).alloc (Nat.le_refl _) _
 have HB4:=Hid.mk (hB3.trans (hb4.mono hB3.size))
 have HX:=Hid.mk ((HS2.out.later hb3).later hb4)
 have ho:=Hid.mk (fun w'=>other_any (snewest l r).1 (snewest l r).2.1 (.slice va (snewest l r).2.2.1.length vc) w' HA.out)
 rw [Hslot.out] at ho
 have h3n':¬(N:Int)≤(((snewest l r).2.1:Nat):Int):=by have:=H3n.out;omega
 clear H3n HA Hslot
 clear k1 hq hb3 HW2 hth hinfo hall HB2 hB3 hb4 HS2
 generalize (snewest l r).1=A at*
 generalize (snewest l r).2.1=B at*
 generalize (snewest l r).2.2.1.length=D at*
 go_wp2_with fail
 refine(ho.out _).mono ?_
 rintro e w5 ⟨rfl,hb5⟩
 have HB5:=Hid.mk (HB4.out.trans (hb5.mono HB4.out.size))
 have HX5:=Hid.mk (HX.out.later hb5)
 have c0:=HX5.out.2.2 _ rfl 0 (by omega)
 have c1:=HX5.out.2.2 _ rfl 511 (by omega)
 rw [addr_add] at c0 c1
 have k2:=nextTurn_any w1.heap.size 512 (r.getD 0 0) (r.getD 511 0) w5 c0 c1
 have ht:=turnOf_le (r.getD 0 0) (r.getD 511 0)
 obtain⟨t,hteq⟩:∃t,t=turnOf (r.getD 0 0) (r.getD 511 0):=⟨_,rfl⟩
 rw [←hteq] at ht k2
 have Hteq:=Hid.mk hteq
 clear ho hb5 HB4 HX c0 c1 hteq
 go_wp2_with fail
 refine k2.mono ?_
 rintro e w' ⟨rfl,hw⟩
 have hw':=hw.symm
 subst hw'
 clear hw k2
 go_wp2_with fail
 refine(anchorBody_any N a3 q e3 dt w5 hNm (H3.out.later HB5.out) h2n hca).mono ?_
 rintro e w6 ⟨v6,rfl,ho6,hb6⟩
 obtain⟨p6,c6,rfl,hs6,_,_⟩:=ho6.src
 have hbl:(bytes8 N ++ dt).length=8+q:=by rw [List.length_append,bytes8_len,hdl]
 rw [hbl] at hs6⊢
 have HB6:=Hid.mk (HB5.out.trans (hb6.mono HB5.out.size))
 have k4:=sealed_any t p6 (8+q) c6 (bytes8 N ++ dt) w6 (by omega) hs6 (by omega) ((bytes8_bytes N).append hdt)
 have hfl:(sform t (bytes8 N ++ dt)).length=512:=sform_len (by omega)
 have hinfoS:=infoSecL (l:=sform t (bytes8 N ++ dt)) hfl
 have hallS:=all_oneCell_toArray (bs_one (sform t (bytes8 N ++ dt)))
 have hll2:(bs (sform t (bytes8 N ++ dt))).length=512:=by rw [bs,List.length_map,hfl]
 obtain⟨G,hG⟩:∃G,G=bs (sform t (bytes8 N ++ dt)):=⟨_,rfl⟩
 rw [←hG] at k4 hinfoS hallS hll2
 have HG:=Hid.mk hG
 clear ho6 hb6 hs6 HB5 hG
 generalize 8+q=Q8 at*
 go_wp2_with fail
 refine k4.mono ?_
 rintro e w7 ⟨rfl,hb7⟩
 have hB7:=HB6.out.trans (hb7.mono HB6.out.size)
 have hw7:(w7.alloc (.cells zsec 188)).heap[w7.heap.size]? =some (.cells zsec 188 (0,0)):=heap_alloc_new _ _
 have hth:=there_of hw7 zsec_size
 rw [←hll2] at hth
 have hblk:=blk_stored (l:=sform t (bytes8 N ++ dt)) hw7 (by rw [zsec_size,hfl])
 rw [←HG.out] at hblk
 have hsz7:=hB7.size
 have hB8:Below w.heap.size w (w7.alloc (.cells zsec 188)):=hB7.alloc hB7.size _
 have hB9:=hB8.trans ((Keeps.setCells (F:=fun j=>j=w7.heap.size) rfl G 0 _).below (fun j hj=>by omega) hB8.size)
 rw [Hteq.out] at hblk
 have HH:=Hid.mk (fun j=>And.intro (hblk.keep (w':=((w7.alloc (.cells zsec 188)).setCells w7.heap.size 0 G).drewN j) rfl) (And.intro hB7.size (below_drewN hB9 j)))
 clear k4 hb7 hB7 hw7 hblk hB8 hB9 HB6
 go_wp2_with (refine wpList_store_mid rfl 188 _ _ rfl w7.heap.size 0 G.toArray rfl rfl ?h1 ?h2 hallS ?_)
 case h1=>simpa using hth
 case h2=>simpa using hinfoS
 go_quiet (fail)
 go_wp2
 go_ret3
 exact⟨w7.heap.size,rfl,HH.out _⟩
end Go.Proofs.YtkiehemoiapkkaaGreat
end
section
namespace Go.Proofs.YtkiehemoiapkkaaGreat
open Go.RowKit
theorem snewest_slot (l r:List Int):(snewest l r).1≤1:=by
 unfold snewest
 split
 ·simp
 ·split
  ·simp
  ·split <;> simp
theorem snewest_none {l r:List Int} (hl:l.length=512) (hr:r.length=512):((snewest l r).2.2.2=0∧0<(snewest l r).2.1)∨((snewest l r).2.2.2=30∧(snewest l r).2.1=0∧(snewest l r).1=0):=by
 rw [snewest_eq hl hr]
 by_cases q:(sanchor l).1=0∧(sanchor r).1=0
 ·rw [if_pos q];exact .inr ⟨rfl,rfl,rfl⟩
 ·rw [if_neg q]
  by_cases q2:(sanchor l).1<(sanchor r).1
  ·rw [if_pos q2];exact .inl ⟨rfl,by simp only;omega⟩
  ·rw [if_neg q2];exact .inl ⟨rfl,by simp only;omega⟩
theorem renew_any (a:Option Addr) (n c:Nat) (l:List Int) (a2:Option Addr) (m d:Nat) (r:List Int) (a3:Option Addr) (q e3:Nat) (dt:List Int) (num:Int) (w:World) (hs:Src w a n l) (hs2:Src w a2 m r) (hl:Bytes l) (hr:Bytes r)
    (hs3:Src w a3 q dt) (hdt:Bytes dt) (hca:a3=none→e3=0) (hhi:num≤9223372036854775807):
  Calls Tryz.prog 132 #[.slice a n c, .slice a2 m d, .int .i64 num, .slice a3 q e3] w fun e w'=>∃v,e= .returned (.tuple #[.int .i64 (((srenew l r num dt).1:Nat):Int),v, .int .i64 (((srenew l r num dt).2.2:Nat):Int)])∧Lst w' w.heap.size v (srenew l r num dt).2.1∧Below w.heap.size w w':=by
 have hln:=hs.1
 have hrn:=hs2.1
 have hdn:=hs3.1
 by_cases hyes:n=512∧m=512
 ·by_cases h1:num<1
  ·refine(renew_no2 a n c l a2 m d r a3 q e3 num w hs hs2 hyes h1).mono ?_
   rintro e w' ⟨rfl,hb⟩
   have e1:srenew l r num dt=(0, [],1):=by unfold srenew;rw [if_neg (by omega),if_pos h1]
   rw [e1];exact⟨_,rfl,Lst.nil _ _,hb⟩
  ·by_cases h2:496<q
   ·refine(renew_no3 a n c l a2 m d r a3 q e3 num w hs hs2 hyes h1 h2).mono ?_
    rintro e w' ⟨rfl,hb⟩
    have e1:srenew l r num dt=(0, [],7):=by unfold srenew;rw [if_neg (by omega),if_neg h1,if_pos (by omega)]
    rw [e1];exact⟨_,rfl,Lst.nil _ _,hb⟩
   ·by_cases h3:num≤(((snewest l r).2.1:Nat):Int)
    ·refine(renew_no4 a n c l a2 m d r a3 q e3 num w hs hs2 hl hr hyes h1 (by omega) h3).mono ?_
     rintro e w' ⟨rfl,hb⟩
     have e1:srenew l r num dt=(0, [],31):=by unfold srenew;rw [if_neg (by omega),if_neg h1,if_neg (by omega)];simp only;rw [if_pos h3]
     rw [e1];exact⟨_,rfl,Lst.nil _ _,hb⟩
    ·obtain⟨N,hN⟩:∃N:Nat,num=(N:Int):=⟨num.toNat,by omega⟩
     have hA:=snewest_slot l r
     have hno:=snewest_none (l:=l) (r:=r) (by omega) (by omega)
     have hdl:(bytes8 N ++ dt).length≤504:=by rw [List.length_append,bytes8_len];omega
     by_cases hs0:(snewest l r).2.2.2=0∧(snewest l r).1=0
     ·refine(renew_ok1 a n c l a2 m d r a3 q e3 dt num w hs hs2 hl hr hyes N hN (by omega) (by omega) hs3 hdt (by omega) hca (by omega) hA (by rw [if_neg (by omega)];omega)).mono ?_
      rintro e w' ⟨g,rfl,hblk,hg,hb⟩
      have e1:srenew l r num dt=(1,sform (turnOf (r.getD 0 0) (r.getD 511 0)) (bytes8 N ++ dt),0):=by unfold srenew;rw [if_neg (by omega),if_neg h1,if_neg (by omega)];simp only;rw [if_neg h3,if_pos hs0,hN,Int.toNat_natCast]
      rw [e1]
      have:=hblk.lst hg
      rw [sform_len hdl] at this
      exact⟨_,rfl,this,hb⟩
     ·refine(renew_ok0 a n c l a2 m d r a3 q e3 dt num w hs hs2 hl hr hyes N hN (by omega) (by omega) hs3 hdt (by omega) hca (by omega) hA (by split <;> omega)).mono ?_
      rintro e w' ⟨g,rfl,hblk,hg,hb⟩
      have e1:srenew l r num dt=(0,sform (turnOf (l.getD 0 0) (l.getD 511 0)) (bytes8 N ++ dt),0):=by unfold srenew;rw [if_neg (by omega),if_neg h1,if_neg (by omega)];simp only;rw [if_neg h3,if_neg hs0,hN,Int.toNat_natCast]
      rw [e1]
      have:=hblk.lst hg
      rw [sform_len hdl] at this
      exact⟨_,rfl,this,hb⟩
 ·refine(renew_no1 a n c l a2 m d r a3 q e3 num w hs hs2 hyes).mono ?_
  rintro e w' ⟨rfl,hb⟩
  have e1:srenew l r num dt=(0, [],2):=by unfold srenew;rw [if_pos (by omega)]
  rw [e1];exact⟨_,rfl,Lst.nil _ _,hb⟩
end Go.Proofs.YtkiehemoiapkkaaGreat
end
section
namespace Go.Proofs.YtkiehemoiapkkaaGreat
open Go.RowKit
end Go.Proofs.YtkiehemoiapkkaaGreat
end
section
namespace Go.Proofs.YtkiehemoiapkkaaGreat
open Go.RowKit
theorem snewest_small (l r:List Int):(snewest l r).2.1≤9223372036854775807:=by
 have sl:=sanchor_small l
 have sr:=sanchor_small r
 unfold snewest
 split
 ·simp
 ·split
  ·simp
  ·split <;> simp only <;> omega
end Go.Proofs.YtkiehemoiapkkaaGreat
end
section
namespace Go.Proofs.YtkiehemoiapkkaaGreat
open Go.RowKit
theorem rd_dead {S:DS} (s:Nat) (x:Int) (h:S.fuse=0):S.rd s x=(3,S, []):=if_pos h
theorem rd_in {S:DS} {s k:Nat} (h:S.fuse≠0) (hk:k<s):S.rd s (k:Int)=(0,S.read,S.now k):=by
 unfold DS.rd
 rw [if_neg h,if_neg (by omega)]
 simp
theorem Out.low {lo lo':Nat} {w:World} {l:List Int} {v:Value} (h:Out lo w l v) (hl:lo'≤lo):Out lo' w l v:=by
 obtain⟨a,c,rfl,h1,h2⟩:=h
 exact⟨a,c,rfl,h1,fun x e=>Nat.le_trans hl (h2 x e)⟩
theorem Keeps.boxed {w:World} (F:Nat→Prop) (o:Obj):Keeps F w (w.alloc o):=Keeps.alloc F w o
set_option maxRecDepth 20000 in
set_option maxHeartbeats 4000000 in
theorem pair_dead {w:World} {F:Nat→Prop} {p s:Nat} {S:DS} (h:DiskAt w F p s S) (f n:Int) (hbig:S.puts.length+1≤4000000000000) (hf:S.fuse=0):
  Calls Tryz.prog 131 #[areaV p f n] w fun e w'=>e= .returned (.tuple #[.slice none 0 0, .slice none 0 0, .int .i64 3])∧DiskAt w' F p s S∧Keeps F w w':=by
 have h1:=read_all (h.boxed (.cells #[.pointer (some ⟨p,0,none⟩), .int .i64 f, .int .i64 n] 136)) f hbig
 rw [rd_dead _ _ hf] at h1
 go_enter Tryz.func131,Tryz.ntmps131
 go_wp2_with fail
 refine h1.mono ?_
 rintro e w1 ⟨v,rfl,_,hd,hk⟩
 go_wp2
 go_ret3
 exact⟨rfl,hd,((Keeps.boxed (w:=w) F (.cells #[.pointer (some ⟨p,0,none⟩), .int .i64 f, .int .i64 n] 136)).trans hk (fun _ h=> .inl h))⟩
theorem box_kept {w w1:World} {F:Nat→Prop} {o:Obj} (hl:∀k,F k→k<w.heap.size) (hk:Keeps F (w.alloc o) w1):w1.heap[w.heap.size]? =some o:=by
 rw [hk.block w.heap.size (by simp) (fun h=>by have:=hl _ h;omega)]
 exact heap_alloc_new _ _
set_option maxRecDepth 20000 in
set_option maxHeartbeats 4000000 in
theorem pair_ok {w:World} {F:Nat→Prop} {p s:Nat} {S:DS} (h:DiskAt w F p s S) (f:Nat) (n:Int) (hbig:S.puts.length+1≤4000000000000) (hf:S.fuse≠0) (hs:f+1<s):
  Calls Tryz.prog 131 #[areaV p f n] w fun e w'=>∃v1 v2,e= .returned (.tuple #[v1,v2, .int .i64 0])∧Out w.heap.size w' (S.now f) v1∧Out w.heap.size w' (S.now (f+1)) v2∧DiskAt w' F p s S.read.read∧Keeps F w w':=by
 have h1:=read_all (h.boxed (.cells #[.pointer (some ⟨p,0,none⟩), .int .i64 f, .int .i64 n] 136)) f hbig
 rw [rd_in hf (by omega)] at h1
 have hs2:=h.ok.hi
 have HL:=h.lt
 go_enter Tryz.func131,Tryz.ntmps131
 go_wp2_with fail
 refine h1.mono ?_
 rintro e w1 ⟨v,rfl,ho,hd,hk⟩
 have hbox:=box_kept HL hk
 have hc0:=cell_of_block hbox (j:=0) rfl
 have hc1:=cell_of_block hbox (j:=1) rfl
 have h2:=read_all hd ((f+1:Nat):Int) (by simpa [DS.read] using hbig)
 rw [rd_in (S:=S.read) hf hs] at h2
 have HK:=((Keeps.boxed (w:=w) F (.cells #[.pointer (some ⟨p,0,none⟩), .int .i64 f, .int .i64 n] 136)).trans hk (fun _ h=> .inl h))
 go_wp2_with fail
 refine h2.mono ?_
 rintro e w2 ⟨v2,rfl,ho2,hd2,hk2⟩
 have HO1:=(ho.keeps hk2 (fun k hk=>by have:=HL k hk;simp;omega))
 go_wp2
 go_ret3
 exact⟨_,_,rfl,HO1.low (by simp),ho2.low HK.size,hd2,(HK.trans hk2 (fun _ h=> .inl h))⟩
end Go.Proofs.YtkiehemoiapkkaaGreat
end
section
namespace Go.Proofs.YtkiehemoiapkkaaGreat
open Go.RowKit
def lnewest (l r:List Int):Nat×Nat×Nat:=
 if (snewest l r).2.2.2≠0∨0<(snewest l r).2.2.1.length∨(snewest l r).2.1 / 4294967296<1∨1073741824<(snewest l r).2.1 / 4294967296∨1073741824<(snewest l r).2.1%4294967296 then (0,0,6)
 else ((snewest l r).2.1 / 4294967296,(snewest l r).2.1%4294967296,0)
theorem i64_low32 (a:Nat) (ha:a<9223372036854775808):bits .and .i64 (a:Int) 4294967295=((a%4294967296:Nat):Int):=by
 have ea:(BitVec.ofInt 64 (a:Int)).toNat=a:=by rw [BitVec.ofInt_natCast,BitVec.toNat_ofNat];exact Nat.mod_eq_of_lt (by omega)
 have eb:(BitVec.ofInt 64 (4294967295:Int)).toNat=2 ^ 32-1:=by decide
 show IntKind.i64.wrap ((BitVec.ofInt 64 (a:Int) &&& BitVec.ofInt 64 (4294967295:Int)).toNat:Int)=_
 rw [BitVec.toNat_and,ea,eb,IntKind.wrap_i64,Nat.and_two_pow_sub_one_eq_mod]
 omega
set_option maxRecDepth 20000 in
set_option maxHeartbeats 4000000 in
theorem anewest_ok {w:World} {F:Nat→Prop} {p s:Nat} {S:DS} (h:DiskAt w F p s S) (f:Nat) (n:Int) (hbig:S.puts.length+1≤4000000000000) (hf:S.fuse≠0) (hs:f+1<s) (hb1:Bytes (S.now f)) (hb2:Bytes (S.now (f+1))):
  Calls Tryz.prog 137 #[areaV p f n] w fun e w'=>e= .returned (.tuple #[.int .i64 ((lnewest (S.now f) (S.now (f+1))).1:Int), .int .i64 ((lnewest (S.now f) (S.now (f+1))).2.1:Int), .int .i64 ((lnewest (S.now f) (S.now (f+1))).2.2:Int)])∧DiskAt w' F p s S.read.read∧Keeps F w w':=by
 have hB:=Keeps.boxed (w:=w) F (.cells #[.pointer (some ⟨p,0,none⟩), .int .i64 f, .int .i64 n] 136)
 have h1:=pair_ok (h.boxed (.cells #[.pointer (some ⟨p,0,none⟩), .int .i64 f, .int .i64 n] 136)) f n hbig hf hs
 have hN:=snewest_small (l:=S.now f) (r:=S.now (f+1))
 have hP:=fun a1 n1 c1 a2 n2 c2 w1 hs1 hs2=>pnewest_any a1 n1 c1 (S.now f) a2 n2 c2 (S.now (f+1)) w1 hs1 hs2 hb1 hb2
 unfold lnewest
 generalize (snewest (S.now f) (S.now (f+1))).2.1=N at*
 generalize (snewest (S.now f) (S.now (f+1))).2.2.2=E at*
 generalize (snewest (S.now f) (S.now (f+1))).2.2.1=D at*
 generalize (snewest (S.now f) (S.now (f+1))).1=K at*
 have hsh:(N:Int) / 4294967296=((N / 4294967296:Nat):Int):=by omega
 have hand:=i64_low32 N (by omega)
 have hM:N%4294967296<4294967296:=Nat.mod_lt _ (by omega)
 have hQ:N / 4294967296<2147483648:=by omega
 generalize N / 4294967296=Q at*
 generalize N%4294967296=M at*
 by_cases k0:E≠0
 ·rw [if_pos (by omega)]
  go_enter Tryz.func137,Tryz.ntmps137
  go_wp2_with fail
  refine h1.mono ?_
  rintro e w1 ⟨v1,v2,rfl,ho1,ho2,hd,hk⟩
  obtain⟨a1,c1,rfl,hs1,_⟩:=ho1
  obtain⟨a2,c2,rfl,hs2,_⟩:=ho2
  have HK:=(hB.trans hk (fun _ h=> .inl h))
  go_wp2_with fail
  refine(hP a1 _ c1 a2 _ c2 w1 hs1 hs2).mono ?_
  rintro e w2 ⟨v,rfl,⟨a3,c3,rfl,_,_,_⟩,hb⟩
  have HD2:=(hd.keep (Keeps.of_below (fun _=>False) hb) (fun _ _ h=>h))
  go_wp2
  go_ret3
  exact⟨rfl,HD2,(HK.trans (Keeps.of_below (fun _=>False) hb) (fun _ h=>h.elim))⟩
 ·obtain rfl:E=0:=by omega
  by_cases k1:0<D.length
  ·rw [if_pos (by omega)]
   go_enter Tryz.func137,Tryz.ntmps137
   go_wp2_with fail
   refine h1.mono ?_
   rintro e w1 ⟨v1,v2,rfl,ho1,ho2,hd,hk⟩
   obtain⟨a1,c1,rfl,hs1,_⟩:=ho1
   obtain⟨a2,c2,rfl,hs2,_⟩:=ho2
   have HK:=(hB.trans hk (fun _ h=> .inl h))
   go_wp2_with fail
   refine(hP a1 _ c1 a2 _ c2 w1 hs1 hs2).mono ?_
   rintro e w2 ⟨v,rfl,⟨a3,c3,rfl,_,_,_⟩,hb⟩
   have HD2:=(hd.keep (Keeps.of_below (fun _=>False) hb) (fun _ _ h=>h))
   go_wp2
   go_ret3
   exact⟨rfl,HD2,(HK.trans (Keeps.of_below (fun _=>False) hb) (fun _ h=>h.elim))⟩
  ·obtain rfl:D= []:=List.length_eq_zero_iff.mp (by omega)
   by_cases k2:Q<1
   ·rw [if_pos (by omega)]
    obtain rfl:Q=0:=by omega
    go_enter Tryz.func137,Tryz.ntmps137
    go_wp2_with fail
    refine h1.mono ?_
    rintro e w1 ⟨v1,v2,rfl,ho1,ho2,hd,hk⟩
    obtain⟨a1,c1,rfl,hs1,_⟩:=ho1
    obtain⟨a2,c2,rfl,hs2,_⟩:=ho2
    have HK:=(hB.trans hk (fun _ h=> .inl h))
    go_wp2_with fail
    refine(hP a1 _ c1 a2 _ c2 w1 hs1 hs2).mono ?_
    rintro e w2 ⟨v,rfl,⟨a3,c3,rfl,_,_,_⟩,hb⟩
    have HD2:=(hd.keep (Keeps.of_below (fun _=>False) hb) (fun _ _ h=>h))
    go_wp2
    go_ret3
    exact⟨rfl,HD2,(HK.trans (Keeps.of_below (fun _=>False) hb) (fun _ h=>h.elim))⟩
   ·skip
    by_cases k3:1073741824<Q
    ·rw [if_pos (by omega)]
     go_enter Tryz.func137,Tryz.ntmps137
     go_wp2_with fail
     refine h1.mono ?_
     rintro e w1 ⟨v1,v2,rfl,ho1,ho2,hd,hk⟩
     obtain⟨a1,c1,rfl,hs1,_⟩:=ho1
     obtain⟨a2,c2,rfl,hs2,_⟩:=ho2
     have HK:=(hB.trans hk (fun _ h=> .inl h))
     go_wp2_with fail
     refine(hP a1 _ c1 a2 _ c2 w1 hs1 hs2).mono ?_
     rintro e w2 ⟨v,rfl,⟨a3,c3,rfl,_,_,_⟩,hb⟩
     have HD2:=(hd.keep (Keeps.of_below (fun _=>False) hb) (fun _ _ h=>h))
     go_wp2
     go_ret3
     exact⟨rfl,HD2,(HK.trans (Keeps.of_below (fun _=>False) hb) (fun _ h=>h.elim))⟩
    ·skip
     by_cases k4:1073741824<M
     ·rw [if_pos (by omega)]
      go_enter Tryz.func137,Tryz.ntmps137
      go_wp2_with fail
      refine h1.mono ?_
      rintro e w1 ⟨v1,v2,rfl,ho1,ho2,hd,hk⟩
      obtain⟨a1,c1,rfl,hs1,_⟩:=ho1
      obtain⟨a2,c2,rfl,hs2,_⟩:=ho2
      have HK:=(hB.trans hk (fun _ h=> .inl h))
      go_wp2_with fail
      refine(hP a1 _ c1 a2 _ c2 w1 hs1 hs2).mono ?_
      rintro e w2 ⟨v,rfl,⟨a3,c3,rfl,_,_,_⟩,hb⟩
      have HD2:=(hd.keep (Keeps.of_below (fun _=>False) hb) (fun _ _ h=>h))
      go_wp2
      go_ret3
      exact⟨rfl,HD2,(HK.trans (Keeps.of_below (fun _=>False) hb) (fun _ h=>h.elim))⟩
     ·skip
      rw [if_neg (by simp;omega)]
      go_enter Tryz.func137,Tryz.ntmps137
      go_wp2_with fail
      refine h1.mono ?_
      rintro e w1 ⟨v1,v2,rfl,ho1,ho2,hd,hk⟩
      obtain⟨a1,c1,rfl,hs1,_⟩:=ho1
      obtain⟨a2,c2,rfl,hs2,_⟩:=ho2
      have HK:=(hB.trans hk (fun _ h=> .inl h))
      go_wp2_with fail
      refine(hP a1 _ c1 a2 _ c2 w1 hs1 hs2).mono ?_
      rintro e w2 ⟨v,rfl,⟨a3,c3,rfl,_,_,_⟩,hb⟩
      have HD2:=(hd.keep (Keeps.of_below (fun _=>False) hb) (fun _ _ h=>h))
      go_wp2
      go_ret3
      exact⟨rfl,HD2,(HK.trans (Keeps.of_below (fun _=>False) hb) (fun _ h=>h.elim))⟩
end Go.Proofs.YtkiehemoiapkkaaGreat
end
section
namespace Go.Proofs.YtkiehemoiapkkaaGreat
open Go.RowKit
def arenew (S:DS) (s f:Nat) (num:Int):Int×DS:=
 let R:=srenew (S.now f) (S.now (f+1)) num []
 if R.2.2≠0 then ((R.2.2:Int),S.read.read) else
 let W:=S.read.read.wr s ((f:Int)+(R.1:Int)) 512 R.2.1
 if W.1≠0 then W else W.2.fl s
theorem lt_there {w:World} {b:Nat} {o:Obj} (h:w.heap[b]? =some o):b<w.heap.size:=by
 rcases Nat.lt_or_ge b w.heap.size with h8|h8
 ·exact h8
 ·rw [Array.getElem?_eq_none h8] at h;cases h
theorem disk_more2 {w w2 w3 w4:World} {F:Nat→Prop} {p s:Nat} {S:DS} (hl:∀k,F k→k<w.heap.size) (h2:Keeps F w w2) (h3:Keeps F w2 w3) (h4:w3.heap.size≤w4.heap.size) (h:DiskAt w4 (more F w2 w3) p s S):DiskAt w4 (more F w w4) p s S:=by
 have a2:=h2.size
 have a3:=h3.size
 refine h.mono (fun k hk=>?_) (fun k hk=>?_)
 ·rcases hk with hk|hk
  ·exact .inl hk
  ·exact .inr ⟨by omega,by omega⟩
 ·rcases hk with hk|hk
  ·have:=hl k hk;omega
  ·exact hk.2
theorem disk_more {w w2 w3:World} {F:Nat→Prop} {p s:Nat} {S:DS} (hl:∀k,F k→k<w.heap.size) (h2:Keeps F w w2) (h3:Keeps F w2 w3) (h:DiskAt w3 (more F w2 w3) p s S):DiskAt w3 (more F w w3) p s S:=
 disk_more2 hl h2 h3 (Nat.le_refl _) h
theorem srenew_full (l r:List Int) (num:Int) (dt:List Int) (h0:(srenew l r num dt).2.2=0):(srenew l r num dt).2.1.length=512:=by
 have h:∀(t:Int) (N:Nat),dt.length≤496→(sform t (bytes8 N ++ dt)).length=512:=fun t N hd=>by rw [sform_len (by rw [List.length_append,bytes8_len];omega)]
 revert h0
 unfold srenew
 split
 ·intro h0;cases h0
 ·split
  ·intro h0;cases h0
  ·split
   ·intro h0;cases h0
   ·dsimp only
    split
    ·intro h0;cases h0
    ·split
     ·intro _;exact h _ _ (by omega)
     ·intro _;exact h _ _ (by omega)
theorem srenew_slot (l r:List Int) (num:Int) (dt:List Int):(srenew l r num dt).1≤1:=by
 unfold srenew
 split
 ·exact Nat.zero_le _
 ·split
  ·exact Nat.zero_le _
  ·split
   ·exact Nat.zero_le _
   ·dsimp only
    split
    ·exact Nat.zero_le _
    ·split
     ·exact Nat.le_refl _
     ·exact Nat.zero_le _
set_option maxRecDepth 20000 in
set_option maxHeartbeats 4000000 in
theorem arenew_ok {w:World} {F:Nat→Prop} {p s:Nat} {S:DS} (h:DiskAt w F p s S) (f:Nat) (n:Int) (E T:Nat) (hE:E≤1073741824) (hT:T≤1073741824) (hbig:S.puts.length+2≤4000000000000) (hf:S.fuse≠0) (hs:f+1<s) (hb1:Bytes (S.now f)) (hb2:Bytes (S.now (f+1))):
  Calls Tryz.prog 96 #[areaV p f n, .int .i64 (E:Int), .int .i64 (T:Int)] w fun e w'=>e= .returned (.int .i64 (arenew S s f ((E:Int)*4294967296+T)).1)∧DiskAt w' (more F w w') p s (arenew S s f ((E:Int)*4294967296+T)).2∧Keeps F w w':=by
 have h1:=pair_ok (h.boxed (.cells #[.pointer (some ⟨p,0,none⟩), .int .i64 f, .int .i64 n] 136)) f n (by omega) hf hs
 have hs2:=h.ok.hi
 have HL:=Hid.mk h.lt
 have HB:=Hid.mk (Keeps.boxed (w:=w) F (.cells #[.pointer (some ⟨p,0,none⟩), .int .i64 f, .int .i64 n] 136))
 have hP:=fun a1 n1 c1 a2 n2 c2 w1 hs1 hs2=>renew_any a1 n1 c1 (S.now f) a2 n2 c2 (S.now (f+1)) none 0 0 [] ((E:Int)*4294967296+T) w1 hs1 hs2 hb1 hb2 ⟨rfl,fun _=>rfl,fun x hx=>by cases hx⟩ (by intro x hx;cases hx) (fun _=>rfl) (by omega)
 have hsl:=srenew_slot (S.now f) (S.now (f+1)) ((E:Int)*4294967296+T) []
 have hln:=srenew_full (S.now f) (S.now (f+1)) ((E:Int)*4294967296+T) []
 unfold arenew
 clear h hf hb1 hb2
 obtain⟨R,hR⟩:∃R,R=srenew (S.now f) (S.now (f+1)) ((E:Int)*4294967296+T) []:=⟨_,rfl⟩
 rw [←hR] at hsl hln⊢
 simp only [←hR] at hP
 clear hR
 obtain⟨K,L,X⟩:=R
 simp only at hsl hln hP⊢
 by_cases k0:X≠0
 ·rw [if_pos k0]
  have d0:((X:Int) == 0)=false:=by rw [beq_eq_false_iff_ne];omega
  go_enter Tryz.func96,Tryz.ntmps96
  go_wp2_with fail
  refine h1.mono ?_
  rintro e w1 ⟨v1,v2,rfl,ho1,ho2,hd,hk⟩
  obtain⟨a1,c1,rfl,hs1,_⟩:=ho1
  obtain⟨a2,c2,rfl,hs2,_⟩:=ho2
  have h2:=hP a1 _ c1 a2 _ c2 w1 hs1 hs2
  have HD:=Hid.mk hd
  have HK:=Hid.mk (HB.out.trans hk (fun _ h=> .inl h))
  clear h1 hs1 hs2 hd hk hP
  go_wp2_with fail
  refine h2.mono ?_
  rintro e w2 ⟨v,rfl,⟨a3,c3,rfl,_,_,_⟩,hb⟩
  have HD2:=Hid.mk (HD.out.keep (Keeps.of_below (fun _=>False) hb) (fun _ _ h=>h))
  have HK2:=Hid.mk (HK.out.trans (Keeps.of_below (fun _=>False) hb) (fun _ h=>h.elim))
  clear h2 hb
  go_wp2
  go_ret
  exact⟨rfl,HD2.out.more,HK2.out⟩
 ·obtain rfl:X=0:=by omega
  rw [if_neg k0]
  clear k0
  have hlen:=hln rfl
  clear hln
  obtain⟨Y,hY⟩:∃Y,Y=(S.read.read.wr s ((f:Int)+(K:Int)) 512 L):=⟨_,rfl⟩
  rw [←hY]
  have HY:=Hid.mk hY
  clear hY
  by_cases k1:Y.1≠0
  ·rw [if_pos k1]
   go_enter Tryz.func96,Tryz.ntmps96
   go_wp2_with fail
   refine h1.mono ?_
   rintro e w1 ⟨v1,v2,rfl,ho1,ho2,hd,hk⟩
   obtain⟨a1,c1,rfl,hs1,_⟩:=ho1
   obtain⟨a2,c2,rfl,hs2,_⟩:=ho2
   have h2:=hP a1 _ c1 a2 _ c2 w1 hs1 hs2
   have hbox:=box_kept HL.out hk
   have HK:=Hid.mk (HB.out.trans hk (fun _ h=> .inl h))
   have HD:=Hid.mk hd
   have HX:=Hid.mk hbox
   clear h1 hs1 hs2 hd hk hP hbox
   go_wp2_with fail
   refine h2.mono ?_
   rintro e w2 ⟨v,rfl,⟨a3,c3,rfl,hs3,_,_⟩,hb⟩
   have hd2:=HD.out.keep (Keeps.of_below (fun _=>False) hb) (fun _ _ h=>h)
   have HK2:=Hid.mk (HK.out.trans (Keeps.of_below (fun _=>False) hb) (fun _ h=>h.elim))
   have hbox:=(hb.block _ (lt_there HX.out)).trans HX.out
   have hc0:=cell_of_block hbox (j:=0) rfl
   have hc1:=cell_of_block hbox (j:=1) rfl
   have h3:=write_all hd2 ((f:Int)+(K:Int)) a3 _ c3 L hs3 (by simpa [DS.read] using (show S.puts.length+1≤4000000000000 by omega))
   rw [hlen] at h3
   have HBX:=Hid.mk hbox
   clear h2 hb hd2 hs3 hbox
   rw [hlen]
   go_wp2_with fail
   refine h3.mono ?_
   rintro e w3 ⟨rfl,hd3,hk3⟩
   have HK3:=Hid.mk (HK2.out.trans hk3 (fun _ h=> .inl h))
   rw [←HY.out] at hd3⊢
   have HD3:=Hid.mk (disk_more HL.out HK2.out hk3 hd3)
   have d1:(Y.1 == 0)=false:=by rw [beq_eq_false_iff_ne];exact k1
   clear hd3 hk3 h3
   go_wp2
   go_ret
   exact⟨rfl,HD3.out,HK3.out⟩
  ·rw [if_neg k1]
   go_enter Tryz.func96,Tryz.ntmps96
   go_wp2_with fail
   refine h1.mono ?_
   rintro e w1 ⟨v1,v2,rfl,ho1,ho2,hd,hk⟩
   obtain⟨a1,c1,rfl,hs1,_⟩:=ho1
   obtain⟨a2,c2,rfl,hs2,_⟩:=ho2
   have h2:=hP a1 _ c1 a2 _ c2 w1 hs1 hs2
   have hbox:=box_kept HL.out hk
   have HK:=Hid.mk (HB.out.trans hk (fun _ h=> .inl h))
   have HD:=Hid.mk hd
   have HX:=Hid.mk hbox
   clear h1 hs1 hs2 hd hk hP hbox
   go_wp2_with fail
   refine h2.mono ?_
   rintro e w2 ⟨v,rfl,⟨a3,c3,rfl,hs3,_,_⟩,hb⟩
   have hd2:=HD.out.keep (Keeps.of_below (fun _=>False) hb) (fun _ _ h=>h)
   have HK2:=Hid.mk (HK.out.trans (Keeps.of_below (fun _=>False) hb) (fun _ h=>h.elim))
   have hbox:=(hb.block _ (lt_there HX.out)).trans HX.out
   have hc0:=cell_of_block hbox (j:=0) rfl
   have hc1:=cell_of_block hbox (j:=1) rfl
   have h3:=write_all hd2 ((f:Int)+(K:Int)) a3 _ c3 L hs3 (by simpa [DS.read] using (show S.puts.length+1≤4000000000000 by omega))
   rw [hlen] at h3
   have HBX:=Hid.mk hbox
   clear h2 hb hd2 hs3 hbox
   rw [hlen]
   go_wp2_with fail
   refine h3.mono ?_
   rintro e w3 ⟨rfl,hd3,hk3⟩
   have HK3:=Hid.mk (HK2.out.trans hk3 (fun _ h=> .inl h))
   rw [←HY.out] at hd3⊢
   have h4:=flush_all hd3 (by have:=wr_puts S.read.read s ((f:Int)+(K:Int)) 512 L;rw [←HY.out] at this;simp only [DS.read] at this;omega)
   have hbox:=(hk3.block _ (lt_there HBX.out) (fun h=>by have:=HL.out _ h;omega)).trans HBX.out
   have hc0:=cell_of_block hbox (j:=0) rfl
   have HK3':=Hid.mk hk3
   have k1':Y.1=0:=by simpa using k1
   rw [k1']
   clear hd3 hk3 h3 hbox k1 k1'
   go_wp2_with fail
   refine h4.mono ?_
   rintro e w4 ⟨rfl,hd4,hk4⟩
   have HK4:=Hid.mk (HK3.out.trans hk4 (fun j h=>h.elim .inl (fun h=> .inr (Nat.le_trans HK2.out.size h.1))))
   have HD4:=Hid.mk (disk_more2 HL.out HK2.out HK3'.out hk4.size hd4)
   clear hd4 hk4 h4
   go_wp2
   go_ret
   exact⟨rfl,HD4.out,HK4.out⟩
end Go.Proofs.YtkiehemoiapkkaaGreat
end
section
namespace Go.Proofs.YtkiehemoiapkkaaGreat
open Go.RowKit
theorem or_i64 (i A X:Nat) (hA:A<2 ^ i) (h:A+2 ^ i*X<9223372036854775808):
  bits .or .i64 (A:Int) ((2 ^ i*X:Nat):Int)=((A+2 ^ i*X:Nat):Int):=by
 have q:∀z:Nat,z<18446744073709551616→(BitVec.ofInt 64 (z:Int)).toNat=z:=by
  intro z hz
  rw [BitVec.toNat_ofInt]
  omega
 have h1:A<18446744073709551616:=by omega
 have h2:2 ^ i*X<18446744073709551616:=by omega
 show IntKind.i64.wrap ((BitVec.ofInt 64 (A:Int) |||BitVec.ofInt 64 ((2 ^ i*X:Nat):Int)).toNat:Int)=_
 rw [BitVec.toNat_or,q A h1,q _ h2,Nat.or_comm,←Nat.two_pow_add_eq_or_of_lt hA X,Nat.add_comm]
 generalize A+2 ^ i*X=Z at*
 rw [IntKind.wrap_i64]
 omega
theorem le_small4 {l:List Int} (hb:Bytes l) (h:l.length≤4):le l<9223372036854775808:=by
 have:=le_lt hb
 exact Nat.lt_of_lt_of_le this (by have:=Nat.pow_le_pow_right (show 0<2 by omega) (show 8*l.length≤32 by omega);omega)
set_option maxHeartbeats 4000000 in
theorem wtaken_any (b o n c:Nat) (l:List Int) (w:World) (hb:Bytes l) (hl:l.length=n) (hn:n≤4) (hs:∀i,i<n→w.cell? ⟨b,o+i,none⟩=some (.int .u8 (l.getD i 0))):
  Calls Tryz.prog 189 #[.slice (some ⟨b,o,none⟩) n c] w fun e w'=>e= .returned (.int .i64 ((le l:Nat):Int))∧w'=w:=by
 have Hs:=Hid.mk hs
 clear hs
 go_enter Tryz.func189,Tryz.ntmps189
 go_wp2
 go_loopw [3,8] (fun r i wr=>∃j:Nat,j≤n∧i= .int .i64 j∧wr=w∧r= .int .i64 ((le (l.take j):Nat):Int)) (fun _ i _=>n-(intOf i).toNat)
 case atStart=>exact⟨0,Nat.zero_le _,rfl,rfl,by simp [le]⟩
 case round=>
  obtain⟨j,hj,rfl,rfl,rfl⟩:=hrel
  by_cases hlt:j<n
  ·have hlt':(j:Int)<(n:Int):=by omega
   have hc:=Hs.out j hlt
   obtain⟨x,hx,hx1⟩:∃x:Nat,l.getD j 0=(x:Int)∧x<256:=by
    have:=hb.getD j
    exact⟨(l.getD j 0).toNat,by omega,by omega⟩
   have hsucc:=le_take_succ (l:=l) (k:=j) (by omega)
   have hA:le (l.take j)<2 ^ (8*j):=by
    have:=le_lt (hb.take j)
    have e:(l.take j).length=j:=by simp;omega
    rwa [e] at this
   have hB:le (l.take (j+1))<9223372036854775808:=le_small4 (hb.take _) (by simp;omega)
   rw [hx] at hc hsucc
   simp only [Int.toNat_natCast] at hsucc
   rw [hsucc] at hB
   have hor:=or_i64 (8*j) _ x hA hB
   rw [←hsucc] at hor
   have hsh2:((x:Int)*2 ^ (8*j))=((2 ^ (8*j)*x:Nat):Int):=by rw [Int.natCast_mul,Int.natCast_pow,Int.mul_comm];rfl
   have hlt2:((2 ^ (8*j)*x:Nat):Int)<9223372036854775808:=by omega
   generalize 2 ^ (8*j)*x=Y at*
   generalize le (l.take j)=A at*
   clear hA hB hsucc
   go_wp2
   go_roundw
   case rel=>exact⟨j+1,by omega,by go_num,trivial,by rw [←(Hid.mk hor).out]⟩
   case measure=>simp [intOf];omega
  ·have hlt':¬(j:Int)<(n:Int):=by omega
   have ej:l.take j=l:=List.take_of_length_le (by omega)
   rw [ej] at*
   go_wp2
   go_ret
   exact⟨rfl,rfl⟩
end Go.Proofs.YtkiehemoiapkkaaGreat
end
