import Derived.Test.YtkiehemoiapkkaaGreatW01
import Derived.Test.YtkiehemoiapkkaaGreatW10
import Derived.Test.YtkiehemoiapkkaaGreatW13
import Derived.Deep.RegionWith
import Derived.Deep.RegionLaw
import Derived.Laws.BytesArg
import Derived.Defers
import Derived.Recover
section
namespace Go.Proofs.YtkiehemoiapkkaaGreat
open Go.RowKit
theorem must_t (w:World):Calls Tryz.prog 161 #[.bool true] w fun e w'=>e= .returned (.tuple #[])∧w'=w:=by
 go_enter Tryz.func161,Tryz.ntmps161
 go_wp2
 go_end0
 exact⟨rfl,rfl⟩
abbrev gaveUp:List PanicEntry:= [{v:= .iface 39 (.int .i64 6),recovered:=false}]
theorem must_f (w:World):Calls Tryz.prog 161 #[.bool false] w fun e w'=>e= .panicked gaveUp∧w'=w:=by
 go_enter Tryz.func161,Tryz.ntmps161
 go_wp2
 exact⟨rfl,rfl,rfl⟩
def RdAt (w:World) (p b o n c k:Nat):Prop:=w.heap[p]? =some (.cells #[.slice (some ⟨b,o,none⟩) n c, .int .i64 (k:Int)] 201 (0,0))
set_option maxHeartbeats 2000000 in
theorem take_ok (p b o n c k m:Nat) (w:World) (h:RdAt w p b o n c k) (hk:k+m≤n) (hn:n≤c) (hkc:k<c) (hc:n≤1000000) (hcc:c≤9223372036854775807):
  Calls Tryz.prog 186 #[.pointer (some ⟨p,0,none⟩), .int .i64 (m:Int)] w fun e w'=>e= .returned (.slice (some ⟨b,o+k,none⟩) m (c-k))∧RdAt w' p b o n c (k+m)∧Keeps (fun j=>j=p) w w':=by
 have c0:=cell_of_block h (j:=0) rfl
 have c1:=cell_of_block h (j:=1) rfl
 have f1:=frozen_of_block h 1
 have hle':(m:Int)≤(n:Int)-(k:Int):=by omega
 have hw1:IntKind.i64.wrap ((n:Int)-(k:Int))=(n:Int)-(k:Int):=by rw [IntKind.wrap_i64];omega
 have HR:(RdAt (w.setCell ⟨p,1,none⟩ (.int .i64 ((k:Int)+(m:Int)))) p b o n c (k+m)):=by
  show RdAt _ _ _ _ _ _ _
  unfold RdAt
  rw [(heap_setCell_same _ _ 1 _ _ (.int .i64 ((k:Int)+(m:Int))) h)]
  simp
 have HK:=(Keeps.setCell (F:=fun j=>j=p) (p:=⟨p,1,none⟩) w rfl (.int .i64 ((k:Int)+(m:Int))))
 go_enter Tryz.func186,Tryz.ntmps186
 go_wp2_with fail
 go_quiet (first|(go_at_call 161;exact Calls.quiet_of_same (must_t _)))
 go_wp2
 have b1:(0:Int)≤(k:Int):=by omega
 have b2:(k:Int)≤(k:Int)+(m:Int):=by omega
 have b3:(k:Int)+(m:Int)≤(c:Int):=by omega
 have b4:¬c=k:=by omega
 go_quiet (fail)
 go_wp2
 go_ret
 exact⟨congrArg (fun z=>Ending.returned (Value.slice (some ⟨b,o+k,none⟩) z (c-k))) (Nat.add_sub_cancel_left k m),HR,⟨HK.os,HK.tape,HK.output,HK.size,HK.block⟩⟩
theorem or_wrap (i A X:Nat) (hA:A<2 ^ i) (h:A+2 ^ i*X<18446744073709551616):
  bits .or .i64 (wrap64 (A:Int)) (wrap64 ((2 ^ i*X:Nat):Int))=wrap64 ((A+2 ^ i*X:Nat):Int):=by
 have q:∀z:Nat,z<18446744073709551616→(BitVec.ofInt 64 (wrap64 (z:Int))).toNat=z:=by
  intro z hz
  rw [BitVec.toNat_ofInt]
  unfold wrap64
  omega
 have h1:A<18446744073709551616:=by omega
 have h2:2 ^ i*X<18446744073709551616:=by omega
 show IntKind.i64.wrap ((BitVec.ofInt 64 (wrap64 (A:Int)) |||BitVec.ofInt 64 (wrap64 ((2 ^ i*X:Nat):Int))).toNat:Int)=_
 rw [BitVec.toNat_or,q A h1,q _ h2,Nat.or_comm,←Nat.two_pow_add_eq_or_of_lt hA X,Nat.add_comm,IntKind.wrap_i64]
 unfold wrap64
 rfl
theorem cle_take_succ {l:List Int} {k:Nat} (hk:k<l.length) (_hb:Bytes l):le (l.take (k+1))=le (l.take k)+2 ^ (8*k)*(l.getD k 0).toNat:=by
 rw [List.take_succ_eq_append_getElem hk,le_append]
 have:(l.take k).length=k:=by simp;omega
 rw [this]
 simp [le,List.getD,hk]
def part (l:List Int) (k m:Nat):List Int:=(l.drop k).take m
theorem part_len {l:List Int} {k m:Nat} (h:k+m≤l.length):(part l k m).length=m:=by simp [part];omega
theorem part_bytes {l:List Int} (h:Bytes l) (k m:Nat):Bytes (part l k m):=fun x hx=>h x (List.mem_of_mem_drop (List.mem_of_mem_take hx))
theorem part_at {l:List Int} {k m i:Nat} (hi:i<m):(part l k m).getD i 0=l.getD (k+i) 0:=by simp [part,List.getD,hi]
structure Rd (w:World) (p b o c k:Nat) (l:List Int):Prop where
 rd:RdAt w p b o l.length c k
 ne:b≠p
 src:∀i,i<l.length→w.cell? ⟨b,o+i,none⟩=some (.int .u8 (l.getD i 0))
 bytes:Bytes l
 small:l.length≤1000000
 cap:l.length≤c
 huge:c≤9223372036854775807
 old:0<l.length→b<w.heap.size
theorem Rd.keep {w w':World} {p b o c k k':Nat} {l:List Int} (h:Rd w p b o c k l) (hr:RdAt w' p b o l.length c k') (hk:Keeps (fun j=>j=p) w w'):Rd w' p b o c k' l:=
   ⟨hr,h.ne,fun i hi=>by
  exact(World.cell?_of_block (w:=w) (a:=⟨b,o+i,none⟩) (hk.block b (h.old (by omega)) h.ne)).trans (h.src i hi),h.bytes,h.small,h.cap,h.huge,fun h0=>Nat.lt_of_lt_of_le (h.old h0) hk.size⟩
theorem Rd.far {w w':World} {p b o c k:Nat} {l:List Int} (h:Rd w p b o c k l) (hb:Below w.heap.size w w'):Rd w' p b o c k l:=by
 exact⟨(hb.block p ((Array.getElem?_eq_some_iff.1 h.rd).1)).trans h.rd,h.ne,fun i hi=>cell_later hb (h.src i hi),h.bytes,h.small,h.cap,h.huge,fun h0=>Nat.lt_of_lt_of_le (h.old h0) hb.size⟩
set_option maxHeartbeats 2000000 in
theorem crnumber_any (p b o c k m:Nat) (l:List Int) (w:World) (h:Rd w p b o c k l) (hk:k+m≤l.length) (hkc:k<c) (hm:m≤8):
  Calls Tryz.prog 163 #[.pointer (some ⟨p,0,none⟩), .int .i64 (m:Int)] w fun e w'=>e= .returned (.int .i64 (wrap64 ((le (part l k m):Nat):Int)))∧Rd w' p b o c (k+m) l∧Keeps (fun j=>j=p) w w':=by
 have ht:=take_ok p b o l.length c k m w h.rd hk h.cap hkc h.small h.huge
 have H:=Hid.mk h
 clear h
 go_enter Tryz.func163,Tryz.ntmps163
 go_wp2_with fail
 refine ht.mono ?_
 rintro e w1 ⟨rfl,hr1,hk1⟩
 have h1:=H.out.keep hr1 hk1
 have H1:=Hid.mk (And.intro h1 hk1)
 have hpl:=part_len hk
 clear ht hr1 hk1 h1
 go_wp2
 go_loopw [5,12] (fun r i wr=>∃j:Nat,j≤m∧i= .int .i64 j∧wr=w1∧r= .int .i64 (wrap64 ((le ((part l k m).take j):Nat):Int))) (fun _ i _=>m-(intOf i).toNat)
 case atStart=>exact⟨0,Nat.zero_le _,rfl,rfl,by simp [le,wrap64]⟩
 case round=>
  obtain⟨j,hj,rfl,rfl,rfl⟩:=hrel
  by_cases hlt:j<m
  ·have hlt':(j:Int)<(m:Int):=by omega
   have hc:=H1.out.1.src (k+j) (by omega)
   rw [←part_at (l:=l) (k:=k) hlt,←Nat.add_assoc] at hc
   obtain⟨x,hx,hx1⟩:∃x:Nat,(part l k m).getD j 0=(x:Int)∧x<256:=by
    have:=part_bytes H1.out.1.bytes k m (part l k m)[j] (List.getElem_mem (by omega))
    refine⟨((part l k m).getD j 0).toNat,?_,?_⟩<;> simp [List.getD,hpl,hlt] <;> omega
   have hsucc:=cle_take_succ (l:=part l k m) (k:=j) (by omega) (part_bytes H1.out.1.bytes k m)
   have hA:le ((part l k m).take j)<2 ^ (8*j):=by
    have:=le_lt (l:=(part l k m).take j) (fun y hy=>part_bytes H1.out.1.bytes k m y (List.mem_of_mem_take hy))
    have e:((part l k m).take j).length=j:=by simp;omega
    rwa [e] at this
   have hB:le ((part l k m).take (j+1))<18446744073709551616:=by
    have:=le_lt (l:=(part l k m).take (j+1)) (fun y hy=>part_bytes H1.out.1.bytes k m y (List.mem_of_mem_take hy))
    have e:((part l k m).take (j+1)).length=j+1:=by simp;omega
    rw [e] at this
    exact Nat.lt_of_lt_of_le this (by have:=Nat.pow_le_pow_right (show 0<2 by omega) (show 8*(j+1)≤64 by omega);simpa using this)
   rw [hx] at hc hsucc
   simp only [Int.toNat_natCast] at hsucc
   rw [hsucc] at hB
   have hor:=or_wrap (8*j) _ x hA hB
   rw [←hsucc] at hor
   have hsh2:((x:Int)*2 ^ (8*j))=((2 ^ (8*j)*x:Nat):Int):=by rw [Int.natCast_mul,Int.natCast_pow,Int.mul_comm];rfl
   have hcast:((2 ^ (8*j)*x:Nat):Int)=2 ^ (8*j)*(x:Int):=by rw [Int.natCast_mul,Int.natCast_pow];rfl
   rw [hcast] at hor
   have Hor:=Hid.mk hor
   clear hA hB hsucc hor hcast
   go_wp2
   go_roundw
   case rel=>exact⟨j+1,by omega,by go_num,trivial,by rw [Hor.out]⟩
   case measure=>simp [intOf];omega
  ·have hlt':¬(j:Int)<(m:Int):=by omega
   have ej:(part l k m).take j=part l k m:=List.take_of_length_le (by omega)
   rw [ej] at*
   go_wp2
   go_ret
   exact⟨rfl,H1.out⟩
def Zeros (l:List Int):Prop:=∀x∈l,x=0
def EmptyOut (l:List Int) (e:Ending):Prop:=∃x,e= .returned (.bool x)∧(x=true↔Zeros l)
set_option maxHeartbeats 2000000 in
theorem empty_low (b o n c:Nat) (l:List Int) (w:World) (hl:l.length=n) (hn:n≤1000000) (hs:∀i,i<n→w.cell? ⟨b,o+i,none⟩=some (.int .u8 (l.getD i 0))):
  Calls Tryz.prog 187 #[.slice (some ⟨b,o,none⟩) n c] w fun e w'=>EmptyOut l e∧w'=w:=by
 have Hs:=Hid.mk hs
 clear hs
 go_enter Tryz.func187,Tryz.ntmps187
 go_wp2
 go_loopw [7] (fun i wr=>∃k:Nat,k≤n∧i= .int .i64 k∧wr=w∧∀j,j<k→l.getD j 0=0) (fun i _=>n-(intOf i).toNat)
 case atStart=>exact⟨0,Nat.zero_le _,rfl,rfl,fun j hj=>by omega⟩
 case round=>
  obtain⟨k,hk,rfl,rfl,hz⟩:=hrel
  have Hz:=Hid.mk hz
  clear hz
  by_cases hlt:k<n
  ·have hlt':(k:Int)<(n:Int):=by omega
   have hc:=Hs.out k hlt
   by_cases hx:l.getD k 0=0
   ·have Hx:=Hid.mk hx
    rw [hx] at hc
    clear hx
    go_wp2
    go_roundw
    case rel=>
     refine⟨k+1,by omega,by go_num,trivial,fun j hj=>?_⟩
     by_cases e:j=k
     ·rw [e];exact Hx.out
     ·exact Hz.out j (by omega)
    case measure=>simp [intOf];omega
   ·have hx':(l.getD k 0 != 0)=true:=by rw [bne_iff_ne];exact hx
    have HF:Hid (¬Zeros l):=fun h=>absurd (h (l.getD k 0) (by simp [List.getD,hl,hlt])) hx
    generalize l.getD k 0=X at*
    clear hx
    go_wp2
    go_ret
    exact⟨⟨_,rfl,⟨(fun h=>by cases h),fun h=>absurd h HF.out⟩⟩,rfl⟩
  ·have hlt':¬(k:Int)<(n:Int):=by omega
   have HF:Hid (Zeros l):=fun x hx=>by
    obtain⟨j,hj,e⟩:=List.mem_iff_getElem.1 hx
    have:=Hz.out j (by omega)
    rw [←e]
    simpa [List.getD,hj] using this
   go_wp2
   go_ret
   exact⟨⟨_,rfl,⟨fun _=>HF.out,fun _=>rfl⟩⟩,rfl⟩
theorem Rd.part {w:World} {p b o c k:Nat} {l:List Int} (h:Rd w p b o c k l) {q m:Nat} (hq:q+m≤l.length):∀i,i<m→w.cell? ⟨b,o+q+i,none⟩=some (.int .u8 ((part l q m).getD i 0)):=fun i hi=>by
 rw [part_at hi,Nat.add_assoc]
 exact h.src (q+i) (by omega)
set_option maxHeartbeats 2000000 in
theorem rzeros_ok (p b o c k m:Nat) (l:List Int) (w:World) (h:Rd w p b o c k l) (hk:k+m≤l.length) (hkc:k<c) (hz:Zeros (part l k m)):
  Calls Tryz.prog 164 #[.pointer (some ⟨p,0,none⟩), .int .i64 ((k+m:Nat):Int)] w fun e w'=>e= .returned (.tuple #[])∧Rd w' p b o c (k+m) l∧Keeps (fun j=>j=p) w w':=by
 have c1:=cell_of_block h.rd (j:=1) rfl
 have ht:=take_ok p b o l.length c k m w h.rd hk h.cap hkc h.small h.huge
 have es:((k+m:Nat):Int)-(k:Int)=(m:Int):=by omega
 have hml:(m:Int)≤1000000:=by have:=h.small;omega
 generalize hN:k+m=N at*
 go_enter Tryz.func164,Tryz.ntmps164
 go_wp2_with fail
 refine ht.mono ?_
 rintro e w1 ⟨rfl,hr1,hk1⟩
 have h1:=h.keep hr1 hk1
 have he:=empty_low b (o+k) m (c-k) (part l k m) w1 (part_len (by omega)) (by omega) (h1.part (by omega))
 have H1:=(And.intro h1 hk1)
 go_wp2_with fail
 refine he.mono ?_
 rintro e w2 ⟨⟨x,rfl,hx⟩,hw⟩
 have hw':=hw.symm
 subst hw'
 have hx':=hx.2 hz
 subst hx'
 go_wp2_with fail
 refine(must_t _).mono ?_
 rintro e w3 ⟨rfl,hw⟩
 have hw':=hw.symm
 subst hw'
 go_wp2
 go_end0
 exact⟨rfl,H1⟩
set_option maxHeartbeats 2000000 in
theorem rzeros_no (p b o c k m:Nat) (l:List Int) (w:World) (h:Rd w p b o c k l) (hk:k+m≤l.length) (hkc:k<c) (hz:¬Zeros (part l k m)):
  Calls Tryz.prog 164 #[.pointer (some ⟨p,0,none⟩), .int .i64 ((k+m:Nat):Int)] w fun e w'=>e= .panicked gaveUp∧Keeps (fun j=>j=p) w w':=by
 have c1:=cell_of_block h.rd (j:=1) rfl
 have ht:=take_ok p b o l.length c k m w h.rd hk h.cap hkc h.small h.huge
 have es:((k+m:Nat):Int)-(k:Int)=(m:Int):=by omega
 have hml:(m:Int)≤1000000:=by have:=h.small;omega
 generalize hN:k+m=N at*
 go_enter Tryz.func164,Tryz.ntmps164
 go_wp2_with fail
 refine ht.mono ?_
 rintro e w1 ⟨rfl,hr1,hk1⟩
 have h1:=h.keep hr1 hk1
 have he:=empty_low b (o+k) m (c-k) (part l k m) w1 (part_len (by omega)) (by omega) (h1.part (by omega))
 go_wp2_with fail
 refine he.mono ?_
 rintro e w2 ⟨⟨x,rfl,hx⟩,hw⟩
 have hw':=hw.symm
 subst hw'
 have hx':x=false:=by
  cases x with
  |false=>rfl
  |true=>exact absurd (hx.1 rfl) hz
 subst hx'
 go_wp2_with fail
 refine(must_f _).mono ?_
 rintro e w3 ⟨rfl,hw⟩
 have hw':=hw.symm
 subst hw'
 go_wp2
 exact⟨rfl,rfl,(And.intro h1 hk1).2⟩
end Go.Proofs.YtkiehemoiapkkaaGreat
end
section
namespace Go.Proofs.YtkiehemoiapkkaaGreat
open Go.RowKit
theorem txt_str {xs:List Int} (h:Bytes xs):txt (strOfNums xs)=xs:=by
 unfold txt strOfNums
 simp only [List.map_map]
 apply List.ext_getElem
 ·simp
 ·intro i h1 h2
  have:=h xs[i] (List.getElem_mem h2)
  simp
  omega
set_option maxRecDepth 20000 in
set_option maxHeartbeats 2000000 in
theorem rtext_ok (p b o c k m:Nat) (l:List Int) (w:World) (h:Rd w p b o c k l) (hk:k+m≤l.length) (hkc:k<c):
  Calls Tryz.prog 162 #[.pointer (some ⟨p,0,none⟩), .int .i64 (m:Int)] w fun e w'=>e= .returned (.string (strOfNums (part l k m)))∧Rd w' p b o c (k+m) l∧Keeps (fun j=>j=p) w w':=by
 go_enter Tryz.func162,Tryz.ntmps162
 go_wp2_with fail
 refine(take_ok p b o l.length c k m w h.rd hk h.cap hkc h.small h.huge).mono ?_
 rintro e w1 ⟨rfl,hr1,hk1⟩
 have h1:=h.keep hr1 hk1
 have hcv:=run_convert_bytes_arg (P:=Tryz.prog) w1 44 5 Tryz.underlying44 Tryz.underlying5 b (o+k) m (c-k) (part l k m) (part_len hk) (h1.part hk) 9 Tryz.underlying9
 go_wp2
 go_ret
 exact⟨rfl,(And.intro h1 hk1)⟩
def SumOk (l:List Int):Prop:=le (part l (l.length-4) 4)=sumOf (part l 0 (l.length-4))
theorem part_low {l:List Int} {k:Nat} (_hk:k≤l.length) (i:Nat) (hi:i<k):(part l 0 k).getD i 0=l.getD i 0:=by
 rw [part_at hi,Nat.zero_add]
set_option maxRecDepth 20000 in
set_option maxHeartbeats 4000000 in
theorem summed_ok (b o n c:Nat) (l:List Int) (w:World) (hl:l.length=n) (h4:4<n) (hn:n≤1000000) (hc:n≤c) (hcc:c≤9223372036854775807) (hb:Bytes l) (hs:∀i,i<n→w.cell? ⟨b,o+i,none⟩=some (.int .u8 (l.getD i 0))) (hok:SumOk l):
  Calls Tryz.prog 136 #[.slice (some ⟨b,o,none⟩) n c] w fun e w'=>∃p,e= .returned (.pointer (some ⟨p,0,none⟩))∧w.heap.size≤p∧Rd w' p b o c 0 (part l 0 (n-4))∧Below w.heap.size w w':=by
 have hbw:b<w.heap.size:=World.block_lt_of_cell? _ _ (hs 0 (by omega))
 have esub:(n:Int)-4=((n-4:Nat):Int):=by omega
 have i1:(0:Int)≤(((n-4:Nat)):Int):=by omega
 have i2:(((n-4:Nat)):Int)≤(n:Int):=by omega
 have i3:(((n-4:Nat)):Int)≤(c:Int):=by omega
 obtain⟨w1,hw1⟩:∃w1,w1=w.alloc (.cells #[.slice (some ⟨b,o+(n-4),none⟩) 4 (c-(n-4)), .int .i64 0] 201):=⟨_,rfl⟩
 have hB1:Below w.heap.size w w1:=by rw [hw1];exact(Below.refl _ w).alloc (Nat.le_refl _) _
 have hp1:w1.heap[w.heap.size]? =some (.cells #[.slice (some ⟨b,o+(n-4),none⟩) 4 (c-(n-4)), .int .i64 0] 201 (0,0)):=by rw [hw1];exact heap_alloc_new _ _
 have hsz1:w1.heap.size=w.heap.size+1:=by rw [hw1];simp
 have e4:(part l (n-4) 4).length=4:=part_len (by omega)
 have hrd:∀wx:World,Below w1.heap.size w1 wx→Rd wx w.heap.size b (o+(n-4)) (c-(n-4)) 0 (part l (n-4) 4):=fun wx hx=>
    ⟨by show RdAt _ _ _ _ _ _ _;unfold RdAt;rw [e4];exact(hx.block _ (by omega)).trans hp1,by omega,fun i hi=>by
   rw [e4] at hi
   rw [part_at hi,Nat.add_assoc]
   exact cell_later (hB1.trans (hx.mono (by omega))) (hs (n-4+i) (by omega)),part_bytes hb _ _,by omega,by omega,by omega,fun _=>by have:=hx.size;omega⟩
 have hnum:∀wx:World,Below w1.heap.size w1 wx→Calls Tryz.prog 163 #[.pointer (some ⟨w.heap.size,0,none⟩), .int .i64 4] wx fun e w'=>e= .returned (.int .i64 ((le (part l (n-4) 4):Nat):Int))∧Below w.heap.size w w':=fun wx hx=>by
  refine(crnumber_any _ _ _ _ 0 4 _ wx (hrd wx hx) (by omega) (by omega) (by omega)).mono ?_
  rintro e w' ⟨rfl,_,hk⟩
  have e0:part (part l (n-4) 4) 0 4=part l (n-4) 4:=by
   show ((part l (n-4) 4).drop 0).take 4=_
   rw [List.drop_zero,List.take_of_length_le (by omega)]
  have hle:=le_lt (part_bytes hb (n-4) 4)
  rw [e4] at hle
  refine⟨?_,(hB1.trans (hx.mono (by omega))).trans (hk.below (fun j hj=>by omega) (by have:=hx.size;omega))⟩
  rw [e0]
  congr 2
  unfold wrap64
  have:(2:Nat) ^ (8*4)=4294967296:=rfl
  omega
 have hsrc:∀wx:World,Below w.heap.size w wx→Calls Tryz.prog 129 #[.slice (some ⟨b,o,none⟩) (n-4) c] wx fun e w'=>e= .returned (.int .i64 ((sumOf (part l 0 (n-4)):Nat):Int))∧Below w.heap.size w w'∧(Below w1.heap.size w1 wx→Below w1.heap.size w1 w'):=fun wx hx=>
    (sum_any (some ⟨b,o,none⟩) (n-4) c _ wx (part_bytes hb _ _) (by omega) ⟨part_len (l:=l) (k:=0) (m:=n-4) (by omega),(fun h=>by cases h),fun x hx' i hi=>by
   cases hx'
   rw [addr_add,part_low (by omega) i hi]
   exact cell_later hx (hs i (by omega))⟩).mono (by rintro e w' ⟨rfl,hbb⟩;exact⟨rfl,hx.trans (hbb.mono hx.size),fun h=>h.trans (hbb.mono h.size)⟩)
 have heq:le (part l (n-4) 4)=sumOf (part l 0 (n-4)):=by have:=hok;unfold SumOk at this;rw [hl] at this;exact this
 rw [heq] at hnum
 have HB1:=hB1
 have Hfin:(∀wx:World,Below w.heap.size w wx→Rd (wx.alloc (.cells #[.slice (some ⟨b,o,none⟩) (n-4) c, .int .i64 0] 201)) wx.heap.size b o c 0 (part l 0 (n-4))∧Below w.heap.size w (wx.alloc (.cells #[.slice (some ⟨b,o,none⟩) (n-4) c, .int .i64 0] 201))):=fun wx hx=>by
  have ep:(part l 0 (n-4)).length=n-4:=part_len (by omega)
  have hz:=hx.size
  refine⟨⟨by show RdAt _ _ _ _ _ _ _;unfold RdAt;rw [ep];exact heap_alloc_new _ _,by omega,fun i hi=>?_,part_bytes hb _ _,by omega,by omega,by omega,fun _=>by simp;omega⟩,hx.alloc hz _⟩
  rw [ep] at hi
  rw [part_low (by omega) i hi]
  exact Lib.cell?_alloc_some _ (cell_later hx (hs i (by omega)))
 have Hnum:=hnum
 have Hsrc:=hsrc
 generalize sumOf (part l 0 (n-4))=S at*
 have h44:n-(n-4)=4:=by omega
 have hcne:¬c=n-4:=by omega
 clear hs hrd hp1 e4 hok heq hnum hsrc hB1
 go_enter Tryz.func136,Tryz.ntmps136
 go_wp2_with fail
 rw [←hw1]
 clear hw1
 have hP1:=(below_drew (Below.refl w1.heap.size w1))
 have hP0:=(below_drew HB1)
 go_region_with (first
  |(go_at_call 163;refine(Hnum _ ?_).mono ?_;(first|exact hP1|exact hP3);rintro e w2 ⟨rfl,hb2⟩;have hP2:=hb2;clear hb2)
  |(go_at_call 129;refine(Hsrc _ ?_).mono ?_;(first|exact hP0|exact hP2);rintro e w3 ⟨rfl,hb3,hi3⟩;have hP4:=hb3;(try have hP3:=(hi3 hP1));clear hb3 hi3)
  |(go_at_call 161;refine(must_t _).mono ?_;rintro e w4 ⟨rfl,rfl⟩))
 all_goals
  go_wp2
  go_ret
  first
   |exact⟨_,rfl,hP4.size,(Hfin _ hP4).1,(Hfin _ hP4).2⟩
   |exact⟨_,rfl,hP2.size,(Hfin _ hP2).1,(Hfin _ hP2).2⟩
theorem cstep_call {P:Program} {w:World} {ops:Array Oper} {o:Oper} {a:Act} {K:Act→World→Prop} {Q:Exit→Act→World→Prop} {E:Prop} (hgd:o.guard=none) (f:FuncId) (args:Array Value)
    (hen:(execOp a.eval o).run P w= .ok (.enter f args) w) (R:Value→World→Prop) (hc:Calls P f args w fun e w'=>∃v,e= .returned v∧R v w') (h:∀v w',R v w'→K (a.put o.dst v) w'):
  if Region.wanted o (yielded ops a.tmps)=true then Oper.wp P o a w K Q else E:=by
 have hw:Region.wanted o (yielded ops a.tmps)=true:=by simp [Region.wanted,hgd]
 rw [if_pos hw]
 unfold Oper.wp
 rw [hen,Oper.upon_enter]
 refine hc.mono ?_
 rintro e w' ⟨v,rfl,hr⟩
 exact h v w' hr
theorem step_dies {P:Program} {w:World} {ops:Array Oper} {o:Oper} {a:Act} {K:Act→World→Prop} {Q:Exit→Act→World→Prop} {E:Prop} (hgd:o.guard=none) (f:FuncId) (args:Array Value)
    (hen:(execOp a.eval o).run P w= .ok (.enter f args) w) (chain:List PanicEntry) (hc:Calls P f args w fun e w'=>e= .panicked chain∧w'=w) (hq:Q (.panic chain) a w) (_:False→K (a.put o.dst undef) w):
  if Region.wanted o (yielded ops a.tmps)=true then Oper.wp P o a w K Q else E:=by
 have hw:Region.wanted o (yielded ops a.tmps)=true:=by simp [Region.wanted,hgd]
 rw [if_pos hw]
 unfold Oper.wp
 rw [hen,Oper.upon_enter]
 refine hc.mono ?_
 rintro e w' ⟨rfl,rfl⟩
 exact hq
set_option maxRecDepth 20000 in
set_option maxHeartbeats 4000000 in
theorem summed_no (b o n c:Nat) (l:List Int) (w:World) (hl:l.length=n) (h4:4<n) (hn:n≤1000000) (hc:n≤c) (hcc:c≤9223372036854775807) (hb:Bytes l) (hs:∀i,i<n→w.cell? ⟨b,o+i,none⟩=some (.int .u8 (l.getD i 0))) (hok:¬SumOk l):
  Calls Tryz.prog 136 #[.slice (some ⟨b,o,none⟩) n c] w fun e w'=>e= .panicked gaveUp∧Below w.heap.size w w':=by
 have hbw:b<w.heap.size:=World.block_lt_of_cell? _ _ (hs 0 (by omega))
 have esub:(n:Int)-4=((n-4:Nat):Int):=by omega
 have i1:(0:Int)≤(((n-4:Nat)):Int):=by omega
 have i2:(((n-4:Nat)):Int)≤(n:Int):=by omega
 have i3:(((n-4:Nat)):Int)≤(c:Int):=by omega
 obtain⟨w1,hw1⟩:∃w1,w1=w.alloc (.cells #[.slice (some ⟨b,o+(n-4),none⟩) 4 (c-(n-4)), .int .i64 0] 201):=⟨_,rfl⟩
 have hB1:Below w.heap.size w w1:=by rw [hw1];exact(Below.refl _ w).alloc (Nat.le_refl _) _
 have hp1:w1.heap[w.heap.size]? =some (.cells #[.slice (some ⟨b,o+(n-4),none⟩) 4 (c-(n-4)), .int .i64 0] 201 (0,0)):=by rw [hw1];exact heap_alloc_new _ _
 have hsz1:w1.heap.size=w.heap.size+1:=by rw [hw1];simp
 have e4:(part l (n-4) 4).length=4:=part_len (by omega)
 have hrd:∀wx:World,Below w1.heap.size w1 wx→Rd wx w.heap.size b (o+(n-4)) (c-(n-4)) 0 (part l (n-4) 4):=fun wx hx=>
    ⟨by show RdAt _ _ _ _ _ _ _;unfold RdAt;rw [e4];exact(hx.block _ (by omega)).trans hp1,by omega,fun i hi=>by
   rw [e4] at hi
   rw [part_at hi,Nat.add_assoc]
   exact cell_later (hB1.trans (hx.mono (by omega))) (hs (n-4+i) (by omega)),part_bytes hb _ _,by omega,by omega,by omega,fun _=>by have:=hx.size;omega⟩
 have hnum:∀wx:World,Below w1.heap.size w1 wx→Calls Tryz.prog 163 #[.pointer (some ⟨w.heap.size,0,none⟩), .int .i64 4] wx fun e w'=>e= .returned (.int .i64 ((le (part l (n-4) 4):Nat):Int))∧Below w.heap.size w w':=fun wx hx=>by
  refine(crnumber_any _ _ _ _ 0 4 _ wx (hrd wx hx) (by omega) (by omega) (by omega)).mono ?_
  rintro e w' ⟨rfl,_,hk⟩
  have e0:part (part l (n-4) 4) 0 4=part l (n-4) 4:=by
   show ((part l (n-4) 4).drop 0).take 4=_
   rw [List.drop_zero,List.take_of_length_le (by omega)]
  have hle:=le_lt (part_bytes hb (n-4) 4)
  rw [e4] at hle
  refine⟨?_,(hB1.trans (hx.mono (by omega))).trans (hk.below (fun j hj=>by omega) (by have:=hx.size;omega))⟩
  rw [e0]
  congr 2
  unfold wrap64
  have:(2:Nat) ^ (8*4)=4294967296:=rfl
  omega
 have hsrc:∀wx:World,Below w.heap.size w wx→Calls Tryz.prog 129 #[.slice (some ⟨b,o,none⟩) (n-4) c] wx fun e w'=>e= .returned (.int .i64 ((sumOf (part l 0 (n-4)):Nat):Int))∧Below w.heap.size w w'∧(Below w1.heap.size w1 wx→Below w1.heap.size w1 w'):=fun wx hx=>
    (sum_any (some ⟨b,o,none⟩) (n-4) c _ wx (part_bytes hb _ _) (by omega) ⟨part_len (l:=l) (k:=0) (m:=n-4) (by omega),(fun h=>by cases h),fun x hx' i hi=>by
   cases hx'
   rw [addr_add,part_low (by omega) i hi]
   exact cell_later hx (hs i (by omega))⟩).mono (by rintro e w' ⟨rfl,hbb⟩;exact⟨rfl,hx.trans (hbb.mono hx.size),fun h=>h.trans (hbb.mono h.size)⟩)
 have heq:le (part l (n-4) 4)≠sumOf (part l 0 (n-4)):=by have:=hok;unfold SumOk at this;rw [hl] at this;exact this
 have hself:(((le (part l (n-4) 4):Nat):Int) == ((sumOf (part l 0 (n-4)):Nat):Int))=false:=by rw [Bool.eq_false_iff,ne_eq,beq_iff_eq];omega
 generalize sumOf (part l 0 (n-4))=S at*
 generalize le (part l (n-4) 4)=L at*
 have h44:n-(n-4)=4:=by omega
 have hcne:¬c=n-4:=by omega
 go_enter Tryz.func136,Tryz.ntmps136
 go_wp2_with fail
 rw [←hw1]
 have hP1:=(below_drew (Below.refl w1.heap.size w1))
 have hP0:=(below_drew hB1)
 have Hnum2:(∀wx:World,Below w1.heap.size w1 wx→Calls Tryz.prog 163 #[.pointer (some ⟨w.heap.size,0,none⟩), .int .i64 4] wx fun e w'=>∃v,e= .returned v∧(v= .int .i64 (L:Int)∧Below w.heap.size w w')):=fun wx hx=>(hnum wx hx).mono (by rintro e w' ⟨rfl,h⟩;exact⟨_,rfl,rfl,h⟩)
 have Hsrc2:(∀wx:World,Below w.heap.size w wx→Calls Tryz.prog 129 #[.slice (some ⟨b,o,none⟩) (n-4) c] wx fun e w'=>∃v,e= .returned v∧(v= .int .i64 (S:Int)∧Below w.heap.size w w'∧(Below w1.heap.size w1 wx→Below w1.heap.size w1 w'))):=fun wx hx=>(hsrc wx hx).mono (by rintro e w' ⟨rfl,h⟩;exact⟨_,rfl,rfl,h⟩)
 go_region_law
  (first
   |(refine cstep_call (by rfl) 163 #[.pointer (some ⟨w.heap.size,0,none⟩), .int .i64 4] (by simp [go_sem]) _ (Hnum2 _ ?_) ?_;(first|exact hP1|exact hP3);rintro _ w2 ⟨rfl,hb2⟩;have hP2:=hb2;clear hb2)
   |(refine cstep_call (by rfl) 129 #[.slice (some ⟨b,o,none⟩) (n-4) c] (by simp [go_sem]) _ (Hsrc2 _ ?_) ?_;(first|exact hP0|exact hP2);rintro _ w3 ⟨rfl,hb3,hi3⟩;have hP4:=hb3;(try have hP3:=(hi3 hP1));clear hb3 hi3)
   |(refine step_dies (by rfl) 161 #[.bool false] (by simp [go_sem]) gaveUp (must_f _) ?_ ?_;(first|exact⟨rfl,rfl,hP4⟩|exact⟨rfl,rfl,hP2⟩);intro hF))
 all_goals exact hF.elim
end Go.Proofs.YtkiehemoiapkkaaGreat
end
section
namespace Go.Proofs.YtkiehemoiapkkaaGreat
open Go.RowKit
theorem str_eq {xs:List Int} (hx:xs=headL):((strOfNums xs).toList == [118,101,108,108,117,109,0,1])=true:=by
 subst hx
 decide+kernel
theorem str_ne {xs:List Int} (h:Bytes xs) (hx:xs≠headL):((strOfNums xs).toList == [118,101,108,108,117,109,0,1])=false:=by
 rw [Bool.eq_false_iff,ne_eq,beq_iff_eq]
 intro e
 apply hx
 have:=txt_str h
 rw [←this]
 unfold txt
 rw [←ByteArray.toList_eq,e]
 rfl
def u32 (l:List Int) (k:Nat):Nat:=le (part l k 4)
theorem u32_lt {l:List Int} (h:Bytes l) {k:Nat} (hk:k+4≤l.length):u32 l k<4294967296:=by
 have:=le_lt (part_bytes h k 4)
 rw [part_len hk] at this
 exact this
theorem u32_wrap {l:List Int} (h:Bytes l) {k:Nat} (hk:k+4≤l.length):wrap64 ((le (part l k 4):Nat):Int)=((u32 l k:Nat):Int):=by
 have:=u32_lt h hk
 unfold u32 at*
 unfold wrap64
 omega
theorem rnum4 (p b o c k:Nat) (l:List Int) (w:World) (h:Rd w p b o c k l) (hk:k+4≤l.length) (hkc:k<c):
  Calls Tryz.prog 163 #[.pointer (some ⟨p,0,none⟩), .int .i64 4] w fun e w'=>e= .returned (.int .i64 ((u32 l k:Nat):Int))∧Rd w' p b o c (k+4) l∧Keeps (fun j=>j=p) w w':=by
 refine(crnumber_any p b o c k 4 l w h hk hkc (by omega)).mono ?_
 rintro e w' ⟨rfl,h1,h2⟩
 exact⟨by rw [u32_wrap h.bytes hk],h1,h2⟩
structure Reads (p g:Nat) (w w':World) (cs:Array Value) (t:TypeId):Prop where
 k:Keeps (fun j=>j=p) w w'
 blk:w'.heap[g]? =some (.cells cs t (0,0))
 ne:g≠p
theorem Reads.step {p g:Nat} {w w1 w2:World} {cs:Array Value} {t:TypeId} (h:Reads p g w w1 cs t) (hk:Keeps (fun j=>j=p) w1 w2):Reads p g w w2 cs t:=
   ⟨h.k.trans hk (fun _ h=> .inl h),(hk.block g (Array.getElem?_eq_some_iff.1 h.blk).1 h.ne).trans h.blk,h.ne⟩
theorem Reads.below {p g:Nat} {w w1 w2:World} {cs:Array Value} {t:TypeId} (h:Reads p g w w1 cs t) (hb:Below w1.heap.size w1 w2):Reads p g w w2 cs t:=h.step (Keeps.of_below _ hb)
theorem Keeps.put {F:Nat→Prop} {w wx:World} (h:Keeps F w wx) {g i:Nat} (hg:w.heap.size≤g) (v:Value):Keeps F w (wx.setCell ⟨g,i,none⟩ v):=
 h.trans (Keeps.setCell (F:=fun j=>j=g) (p:=⟨g,i,none⟩) wx rfl v) (fun j hj=> .inr (by omega))
theorem Keeps.more {F:Nat→Prop} {w wx:World} (h:Keeps F w wx) (o:Obj):Keeps F w (wx.alloc o):=h.trans (Keeps.alloc F wx o) (fun _ h=> .inl h)
structure SupOk (l:List Int):Prop where
 head:part l 0 8=headL
 zeros:Zeros (part l 20 488)
 geo:Geo (u32 l 8) (u32 l 12) (u32 l 16)
set_option maxRecDepth 20000 in
set_option maxHeartbeats 4000000 in
theorem readsuper_ok (p b o c:Nat) (l:List Int) (w:World) (h:Rd w p b o c 0 l) (hl:l.length=508) (hok:SupOk l):
  Calls Tryz.prog 135 #[.pointer (some ⟨p,0,none⟩)] w fun e w'=>e= .returned (.agg #[.int .i64 ((u32 l 8:Nat):Int), .int .i64 ((u32 l 12:Nat):Int), .int .i64 ((u32 l 16:Nat):Int)])∧Keeps (fun j=>j=p) w w':=by
 have hc:=h.cap
 have hseq:=str_eq hok.head
 have hpl:=(Array.getElem?_eq_some_iff.1 h.rd).1
 obtain⟨w1,hw1⟩:∃w1,w1=w.alloc (.cells #[.int .i64 0, .int .i64 0, .int .i64 0] 31):=⟨_,rfl⟩
 have hB1:Below w.heap.size w w1:=by rw [hw1];exact(Below.refl _ w).alloc (Nat.le_refl _) _
 have R1:Reads p w.heap.size w w1 #[.int .i64 0, .int .i64 0, .int .i64 0] 31:=⟨Keeps.of_below _ hB1,by rw [hw1];exact heap_alloc_new _ _,by omega⟩
 have ht:Calls Tryz.prog 162 #[.pointer (some ⟨p,0,none⟩), .int .i64 8] w1 fun e w'=>e= .returned (.string (strOfNums (part l 0 8)))∧Rd w' p b o c 8 l∧Keeps (fun j=>j=p) w1 w':=rtext_ok p b o c 0 8 l w1 (h.far hB1) (by omega) (by omega)
 generalize strOfNums (part l 0 8)=str at*
 go_enter Tryz.func135,Tryz.ntmps135
 go_wp2_with fail
 rw [←hw1]
 refine ht.mono ?_
 rintro e w2 ⟨rfl,hr2,hk2⟩
 go_wp2_with fail
 refine(must_t _).mono ?_
 rintro e w3 ⟨rfl,hw⟩
 have hw':=hw.symm
 subst hw'
 go_wp2_with fail
 refine(rnum4 p b o c 8 l w2 hr2 (by omega) (by omega)).mono ?_
 rintro e w4 ⟨rfl,hr4,hk4⟩
 go_wp2_with fail
 refine(rnum4 p b o c 12 l w4 hr4 (by omega) (by omega)).mono ?_
 rintro e w5 ⟨rfl,hr5,hk5⟩
 go_wp2_with fail
 refine(rnum4 p b o c 16 l w5 hr5 (by omega) (by omega)).mono ?_
 rintro e w6 ⟨rfl,hr6,hk6⟩
 have HR6:=((((R1.step hk2).step hk4).step hk5).step hk6)
 have hpg:=(Array.getElem?_eq_some_iff.1 hr6.rd).1
 have hz:∀wx:World,Below w6.heap.size w6 wx→Calls Tryz.prog 164 #[.pointer (some ⟨p,0,none⟩), .int .i64 508] wx fun e w'=>e= .returned (.tuple #[])∧Rd w' p b o c 508 l∧Keeps (fun j=>j=p) wx w':=fun wx hx=>rzeros_ok p b o c 20 488 l wx (hr6.far hx) (by omega) (by omega) hok.zeros
 have hal:∀o,Below w6.heap.size w6 (w6.alloc o):=fun o=>(Below.refl _ w6).alloc (Nat.le_refl _) _
 go_wp2_with fail
 refine(hz _ (hal _)).mono ?_
 rintro e w7 ⟨rfl,_,hk7⟩
 have hs7:w7.heap[w6.heap.size]? =some (.cells #[.int .i64 ((u32 l 8:Nat):Int), .int .i64 ((u32 l 12:Nat):Int), .int .i64 ((u32 l 16:Nat):Int)] 31 (0,0)):=(hk7.block _ (by simp) (by omega)).trans (heap_alloc_new _ _)
 have hg:=hok.geo
 have s0:=cell_of_block hs7 (j:=0) rfl
 have s1:=cell_of_block hs7 (j:=1) rfl
 have s2:=cell_of_block hs7 (j:=2) rfl
 go_wp2_with fail
 refine(plan_good (u32 l 8) (u32 l 12) (u32 l 16) w7 hg.1.1 hg.1.2 hg.2.1.1 hg.2.1.2 hg.2.2.1 hg.2.2.2.1 hg.2.2.2.2).mono ?_
 rintro e w8 ⟨rfl,hb8⟩
 have HR8:=(((HR6.below (hal _)).step hk7).below hb8)
 have t0:=cell_later hb8 s0
 have t1:=cell_later hb8 s1
 have t2:=cell_later hb8 s2
 have hl8:=Nat.lt_of_lt_of_le (Array.getElem?_eq_some_iff.1 hs7).1 hb8.size
 have hbk:=HR8.blk
 have hbo:=fun o=>(Below.heap_alloc w8 o _ (Array.getElem?_eq_some_iff.1 hbk).1).trans hbk
 have d0:=fun o=>cell_of_block (hbo o) (j:=0) rfl
 have d1:=fun o=>cell_of_block (hbo o) (j:=1) rfl
 have d2:=fun o=>cell_of_block (hbo o) (j:=2) rfl
 have f0:=fun o=>frozen_of_block (hbo o) 0
 have f1:=fun o=>frozen_of_block (hbo o) 1
 have f2:=fun o=>frozen_of_block (hbo o) 2
 go_wp2_with fail
 refine(must_t _).mono ?_
 rintro e w9 ⟨rfl,hw⟩
 have hw':=hw.symm
 subst hw'
 go_wp2
 refine bodyPost_ret (v:= .agg #[.int .i64 ((u32 l 8:Nat):Int), .int .i64 ((u32 l 12:Nat):Int), .int .i64 ((u32 l 16:Nat):Int)]) (by simp [results,Tryz.results135,go_sem,d0,d1,d2]) rfl ⟨rfl,?_⟩
 exact(((HR8.k.more _).put (Nat.le_refl _) _).put (Nat.le_refl _) _).put (Nat.le_refl _) _
set_option maxRecDepth 20000 in
set_option maxHeartbeats 4000000 in
theorem readsuper_no1 (p b o c:Nat) (l:List Int) (w:World) (h:Rd w p b o c 0 l) (hl:l.length=508) (hok:part l 0 8≠headL):
  Calls Tryz.prog 135 #[.pointer (some ⟨p,0,none⟩)] w fun e w'=>e= .panicked gaveUp∧Keeps (fun j=>j=p) w w':=by
 have hc:=h.cap
 have hseq:=str_ne (part_bytes h.bytes 0 8) hok
 have hpl:=(Array.getElem?_eq_some_iff.1 h.rd).1
 obtain⟨w1,hw1⟩:∃w1,w1=w.alloc (.cells #[.int .i64 0, .int .i64 0, .int .i64 0] 31):=⟨_,rfl⟩
 have hB1:Below w.heap.size w w1:=by rw [hw1];exact(Below.refl _ w).alloc (Nat.le_refl _) _
 have R1:Reads p w.heap.size w w1 #[.int .i64 0, .int .i64 0, .int .i64 0] 31:=⟨Keeps.of_below _ hB1,by rw [hw1];exact heap_alloc_new _ _,by omega⟩
 have ht:Calls Tryz.prog 162 #[.pointer (some ⟨p,0,none⟩), .int .i64 8] w1 fun e w'=>e= .returned (.string (strOfNums (part l 0 8)))∧Rd w' p b o c 8 l∧Keeps (fun j=>j=p) w1 w':=rtext_ok p b o c 0 8 l w1 (h.far hB1) (by omega) (by omega)
 generalize strOfNums (part l 0 8)=str at*
 go_enter Tryz.func135,Tryz.ntmps135
 go_wp2_with fail
 rw [←hw1]
 refine ht.mono ?_
 rintro e w2 ⟨rfl,hr2,hk2⟩
 go_wp2_with fail
 refine(must_f _).mono ?_
 rintro e w3 ⟨rfl,hw⟩
 have hw':=hw.symm
 subst hw'
 go_wp2
 exact⟨rfl,rfl,(R1.step hk2).k⟩
set_option maxRecDepth 20000 in
set_option maxHeartbeats 4000000 in
theorem readsuper_no2 (p b o c:Nat) (l:List Int) (w:World) (h:Rd w p b o c 0 l) (hl:l.length=508) (h1:part l 0 8=headL) (h2:¬Zeros (part l 20 488)):
  Calls Tryz.prog 135 #[.pointer (some ⟨p,0,none⟩)] w fun e w'=>e= .panicked gaveUp∧Keeps (fun j=>j=p) w w':=by
 have hc:=h.cap
 have hseq:=str_eq h1
 have hpl:=(Array.getElem?_eq_some_iff.1 h.rd).1
 obtain⟨w1,hw1⟩:∃w1,w1=w.alloc (.cells #[.int .i64 0, .int .i64 0, .int .i64 0] 31):=⟨_,rfl⟩
 have hB1:Below w.heap.size w w1:=by rw [hw1];exact(Below.refl _ w).alloc (Nat.le_refl _) _
 have R1:Reads p w.heap.size w w1 #[.int .i64 0, .int .i64 0, .int .i64 0] 31:=⟨Keeps.of_below _ hB1,by rw [hw1];exact heap_alloc_new _ _,by omega⟩
 have ht:Calls Tryz.prog 162 #[.pointer (some ⟨p,0,none⟩), .int .i64 8] w1 fun e w'=>e= .returned (.string (strOfNums (part l 0 8)))∧Rd w' p b o c 8 l∧Keeps (fun j=>j=p) w1 w':=rtext_ok p b o c 0 8 l w1 (h.far hB1) (by omega) (by omega)
 generalize strOfNums (part l 0 8)=str at*
 go_enter Tryz.func135,Tryz.ntmps135
 go_wp2_with fail
 rw [←hw1]
 refine ht.mono ?_
 rintro e w2 ⟨rfl,hr2,hk2⟩
 go_wp2_with fail
 refine(must_t _).mono ?_
 rintro e w3 ⟨rfl,hw⟩
 have hw':=hw.symm
 subst hw'
 go_wp2_with fail
 refine(rnum4 p b o c 8 l w2 hr2 (by omega) (by omega)).mono ?_
 rintro e w4 ⟨rfl,hr4,hk4⟩
 go_wp2_with fail
 refine(rnum4 p b o c 12 l w4 hr4 (by omega) (by omega)).mono ?_
 rintro e w5 ⟨rfl,hr5,hk5⟩
 go_wp2_with fail
 refine(rnum4 p b o c 16 l w5 hr5 (by omega) (by omega)).mono ?_
 rintro e w6 ⟨rfl,hr6,hk6⟩
 have HR6:=((((R1.step hk2).step hk4).step hk5).step hk6)
 have hz:∀wx:World,Below w6.heap.size w6 wx→Calls Tryz.prog 164 #[.pointer (some ⟨p,0,none⟩), .int .i64 508] wx fun e w'=>e= .panicked gaveUp∧Keeps (fun j=>j=p) wx w':=fun wx hx=>rzeros_no p b o c 20 488 l wx (hr6.far hx) (by omega) (by omega) h2
 have hal:∀o,Below w6.heap.size w6 (w6.alloc o):=fun o=>(Below.refl _ w6).alloc (Nat.le_refl _) _
 go_wp2_with fail
 refine(hz _ (hal _)).mono ?_
 rintro e w7 ⟨rfl,hk7⟩
 go_wp2
 exact⟨rfl,rfl,((HR6.below (hal _)).step hk7).k⟩
set_option maxRecDepth 20000 in
set_option maxHeartbeats 4000000 in
theorem readsuper_no3 (p b o c:Nat) (l:List Int) (w:World) (h:Rd w p b o c 0 l) (hl:l.length=508) (h1:part l 0 8=headL) (h2:Zeros (part l 20 488)) (h3:¬Geo (u32 l 8) (u32 l 12) (u32 l 16)):
  Calls Tryz.prog 135 #[.pointer (some ⟨p,0,none⟩)] w fun e w'=>e= .panicked gaveUp∧Keeps (fun j=>j=p) w w':=by
 have hc:=h.cap
 have hseq:=str_eq h1
 have hpl:=(Array.getElem?_eq_some_iff.1 h.rd).1
 obtain⟨w1,hw1⟩:∃w1,w1=w.alloc (.cells #[.int .i64 0, .int .i64 0, .int .i64 0] 31):=⟨_,rfl⟩
 have hB1:Below w.heap.size w w1:=by rw [hw1];exact(Below.refl _ w).alloc (Nat.le_refl _) _
 have R1:Reads p w.heap.size w w1 #[.int .i64 0, .int .i64 0, .int .i64 0] 31:=⟨Keeps.of_below _ hB1,by rw [hw1];exact heap_alloc_new _ _,by omega⟩
 have ht:Calls Tryz.prog 162 #[.pointer (some ⟨p,0,none⟩), .int .i64 8] w1 fun e w'=>e= .returned (.string (strOfNums (part l 0 8)))∧Rd w' p b o c 8 l∧Keeps (fun j=>j=p) w1 w':=rtext_ok p b o c 0 8 l w1 (h.far hB1) (by omega) (by omega)
 generalize strOfNums (part l 0 8)=str at*
 go_enter Tryz.func135,Tryz.ntmps135
 go_wp2_with fail
 rw [←hw1]
 refine ht.mono ?_
 rintro e w2 ⟨rfl,hr2,hk2⟩
 go_wp2_with fail
 refine(must_t _).mono ?_
 rintro e w3 ⟨rfl,hw⟩
 have hw':=hw.symm
 subst hw'
 go_wp2_with fail
 refine(rnum4 p b o c 8 l w2 hr2 (by omega) (by omega)).mono ?_
 rintro e w4 ⟨rfl,hr4,hk4⟩
 go_wp2_with fail
 refine(rnum4 p b o c 12 l w4 hr4 (by omega) (by omega)).mono ?_
 rintro e w5 ⟨rfl,hr5,hk5⟩
 go_wp2_with fail
 refine(rnum4 p b o c 16 l w5 hr5 (by omega) (by omega)).mono ?_
 rintro e w6 ⟨rfl,hr6,hk6⟩
 have HR6:=((((R1.step hk2).step hk4).step hk5).step hk6)
 have hpg:=(Array.getElem?_eq_some_iff.1 hr6.rd).1
 have hz:∀wx:World,Below w6.heap.size w6 wx→Calls Tryz.prog 164 #[.pointer (some ⟨p,0,none⟩), .int .i64 508] wx fun e w'=>e= .returned (.tuple #[])∧Rd w' p b o c 508 l∧Keeps (fun j=>j=p) wx w':=fun wx hx=>rzeros_ok p b o c 20 488 l wx (hr6.far hx) (by omega) (by omega) h2
 have hal:∀o,Below w6.heap.size w6 (w6.alloc o):=fun o=>(Below.refl _ w6).alloc (Nat.le_refl _) _
 go_wp2_with fail
 refine(hz _ (hal _)).mono ?_
 rintro e w7 ⟨rfl,_,hk7⟩
 have hs7:w7.heap[w6.heap.size]? =some (.cells #[.int .i64 ((u32 l 8:Nat):Int), .int .i64 ((u32 l 12:Nat):Int), .int .i64 ((u32 l 16:Nat):Int)] 31 (0,0)):=(hk7.block _ (by simp) (by omega)).trans (heap_alloc_new _ _)
 have hpl2:Calls Tryz.prog 89 #[.agg #[.int .i64 ((u32 l 8:Nat):Int), .int .i64 ((u32 l 12:Nat):Int), .int .i64 ((u32 l 16:Nat):Int)]] w7 fun e w'=>e= .returned (.tuple #[.agg #[.int .i64 0, .int .i64 0, .int .i64 0, .int .i64 0, .int .i64 0], .int .i64 22])∧Below w7.heap.size w7 w':=by
  refine(plan_any _ _ _ w7).mono ?_
  rintro e w' ⟨v,x,rfl,⟨hg,_⟩|⟨_,rfl,rfl⟩,hb⟩
  ·exact absurd hg h3
  ·exact⟨rfl,hb⟩
 have s0:=cell_of_block hs7 (j:=0) rfl
 have s1:=cell_of_block hs7 (j:=1) rfl
 have s2:=cell_of_block hs7 (j:=2) rfl
 go_wp2_with fail
 refine hpl2.mono ?_
 rintro e w8 ⟨rfl,hb8⟩
 go_wp2_with fail
 refine(must_f _).mono ?_
 rintro e w9 ⟨rfl,hw⟩
 have hw':=hw.symm
 subst hw'
 go_wp2
 exact⟨rfl,rfl,(((HR6.below (hal _)).step hk7).below hb8).k.more _⟩
theorem readsuper_no (p b o c:Nat) (l:List Int) (w:World) (h:Rd w p b o c 0 l) (hl:l.length=508) (hok:¬SupOk l):
  Calls Tryz.prog 135 #[.pointer (some ⟨p,0,none⟩)] w fun e w'=>e= .panicked gaveUp∧Keeps (fun j=>j=p) w w':=by
 by_cases h1:part l 0 8=headL
 ·by_cases h2:Zeros (part l 20 488)
  ·exact readsuper_no3 p b o c l w h hl h1 h2 (fun h3=>hok ⟨h1,h2,h3⟩)
  ·exact readsuper_no2 p b o c l w h hl h1 h2
 ·exact readsuper_no1 p b o c l w h hl h1
end Go.Proofs.YtkiehemoiapkkaaGreat
end
section
namespace Go.Proofs.YtkiehemoiapkkaaGreat
theorem leb_le:∀{xs:List Int},Bytes xs→leb xs.length (le xs)=xs
 | [],_=>rfl
 |x :: t,h=>by
  have h1:=h x (by simp)
  rw [List.length_cons,leb,le]
  have e1:(x.toNat+256*le t) / 256=le t:=by omega
  have e2:(((x.toNat+256*le t)%256:Nat):Int)=x:=by omega
  rw [e1,e2,(leb_le (xs:=t) (fun y hy=>h y (by simp [hy])))]
theorem le_leb:∀(k m:Nat),m<256 ^ k→le (leb k m)=m
 |0,m,h=>by simp at h;simp [leb,le,h]
 |k+1,m,h=>by
  have h2:m / 256<256 ^ k:=by rw [Nat.pow_succ] at h;exact Nat.div_lt_of_lt_mul (by rw [Nat.mul_comm];exact h)
  rw [leb,le,le_leb k _ h2]
  omega
theorem zeros_rep {l:List Int} (h:∀x∈l,x=0):l=List.replicate l.length 0:=List.eq_replicate_iff.2 ⟨rfl,h⟩
theorem part_take {l:List Int} {a q m:Nat} (h:q+m≤a):part (part l 0 a) q m=part l q m:=by
 unfold part
 rw [List.drop_zero,List.drop_take,List.take_take]
 congr 1
 omega
theorem part_split (l:List Int) (q m k:Nat):part l q (m+k)=part l q m ++ part l (q+m) k:=by
 unfold part
 rw [List.take_add,List.drop_drop]
theorem part_all (l:List Int):part l 0 l.length=l:=by simp [part]
theorem part_app (A B:List Int) (q m:Nat) (h:q=A.length):part (A ++ B) q m=B.take m:=by
 subst h
 simp [part]
theorem part_appl (A B:List Int) (q m:Nat) (h:q+m≤A.length):part (A ++ B) q m=part A q m:=by
 unfold part
 rw [List.drop_append_of_le_length (by omega),List.take_append_of_le_length (by simp;omega)]
theorem leb_part {l:List Int} (hb:Bytes l) {q:Nat} (hq:q+4≤l.length):leb 4 (u32 l q)=part l q 4:=by
 have:=leb_le (part_bytes hb q 4)
 rw [part_len hq] at this
 exact this
def SuperRef (l:List Int):Prop:=Geo (u32 l 8) (u32 l 12) (u32 l 16)∧sealed (supBody (u32 l 8) (u32 l 12) (u32 l 16))=l
theorem super_iff {l:List Int} (hb:Bytes l) (hl:l.length=512):(SumOk l∧SupOk (part l 0 508))↔SuperRef l:=by
 have u1:u32 (part l 0 508) 8=u32 l 8:=by unfold u32;rw [part_take (by omega)]
 have u2:u32 (part l 0 508) 12=u32 l 12:=by unfold u32;rw [part_take (by omega)]
 have u3:u32 (part l 0 508) 16=u32 l 16:=by unfold u32;rw [part_take (by omega)]
 have hbody:part l 0 508=part l 0 8 ++ part l 8 4 ++ part l 12 4 ++ part l 16 4 ++ part l 20 488:=by
  rw [show (508:Nat)=8+4+4+4+488 from rfl,part_split,part_split,part_split,part_split]
 have hwhole:l=part l 0 508 ++ part l 508 4:=by
  have:=part_split l 0 508 4
  rw [show 508+4=l.length by omega,part_all] at this
  exact this
 constructor
 ·rintro ⟨hs,hh,hz,hg⟩
  rw [u1,u2,u3] at hg
  rw [part_take (by omega)] at hh hz
  refine⟨hg,?_⟩
  have e:supBody (u32 l 8) (u32 l 12) (u32 l 16)=part l 0 508:=by
   rw [hbody,hh,←leb_part hb (q:=8) (by omega),←leb_part hb (q:=12) (by omega),←leb_part hb (q:=16) (by omega)]
   have:=zeros_rep hz
   rw [part_len (by omega)] at this
   rw [this]
   rfl
  unfold sealed
  rw [e]
  unfold SumOk at hs
  rw [hl] at hs
  have h5:u32 l 508=sumOf (part l 0 508):=hs
  rw [←h5,(leb_part hb (q:=508) (by omega))]
  exact hwhole.symm
 ·rintro ⟨hg,he⟩
  have hlen:=supBody_len (u32 l 8) (u32 l 12) (u32 l 16)
  have hb508:part l 0 508=supBody (u32 l 8) (u32 l 12) (u32 l 16):=by
   conv=>lhs;rw [←he]
   unfold sealed
   rw [part_appl _ _ _ _ (by omega)]
   have:=part_all (supBody (u32 l 8) (u32 l 12) (u32 l 16))
   rw [hlen] at this
   exact this
  have hsum:part l 508 4=leb 4 (sumOf (supBody (u32 l 8) (u32 l 12) (u32 l 16))):=by
   conv=>lhs;rw [←he]
   unfold sealed
   rw [part_app _ _ _ _ hlen.symm,List.take_of_length_le (by rw [leb_len];omega)]
  refine⟨?_,?_,?_,?_⟩
  ·unfold SumOk
   rw [hl]
   show le (part l 508 4)=sumOf (part l 0 508)
   rw [hsum,hb508,le_leb _ _ (by have:=sumOf_lt (supBody_bytes (u32 l 8) (u32 l 12) (u32 l 16));omega)]
  ·rw [hb508]
   unfold supBody
   rw [List.append_assoc,List.append_assoc,List.append_assoc,part_appl _ _ _ _ (by decide)]
   rfl
  ·rw [hb508]
   unfold supBody
   have h20:(headL ++ leb 4 (u32 l 8) ++ leb 4 (u32 l 12) ++ leb 4 (u32 l 16)).length=20:=by rw [List.length_append,List.length_append,List.length_append,leb_len,leb_len,leb_len];rfl
   rw [part_app _ _ _ _ h20.symm]
   intro x hx
   exact List.eq_of_mem_replicate (List.mem_of_mem_take hx)
  ·rw [u1,u2,u3]
   exact hg
end Go.Proofs.YtkiehemoiapkkaaGreat
end
section
namespace Go.Proofs.YtkiehemoiapkkaaGreat
open Go.RowKit
theorem scatch_panic (g1 g2:Nat) (a0 a1 a2:Value) (x:Value) (w:World) (h1:w.heap[g1]? =some (.cells #[a0,a1,a2] 31 (0,0))) (h2:w.heap[g2]? =some (.cells #[x] 39 (0,0))) (hne:g1≠g2):
  CallsD Tryz.prog 134 #[.pointer (some ⟨g1,0,none⟩), .pointer (some ⟨g2,0,none⟩)] (.panicking gaveUp) w fun e u' w'=>
   e= .returned (.tuple #[])∧u'= .panicking [{v:= .iface 39 (.int .i64 6),recovered:=true}]∧w'=(((w.setCell ⟨g1,0,none⟩ (.int .i64 0)).setCell ⟨g1,1,none⟩ (.int .i64 0)).setCell ⟨g1,2,none⟩ (.int .i64 0)).setCell ⟨g2,0,none⟩ (.int .i64 6):=by
 have hne':¬g2=g1:=fun e=>hne e.symm
 refine callsD_of_wpS Tryz.func134 rfl fun c₀ cs hu=>?_
 apply wpS_seq
 apply wpS_region
 simp [wpOpsS,go_sem,recoverD,hu,Tryz.ntmps134,Exit.thenS]
 refine wpS_cond (t:=true) (by simp [Act.eval,Array.replicate]) ?_
 simp only [if_true]
 apply wpS_region
 simp [wpOpsS,go_sem,(cell_of_block h1 (j:=0) rfl),(cell_of_block h1 (j:=1) rfl),(cell_of_block h1 (j:=2) rfl),(frozen_of_block h1 0),(frozen_of_block h1 1),(frozen_of_block h1 2),(cell_of_block h2 (j:=0) rfl),(frozen_of_block h2 0),bodyPostS,results,Tryz.results134]
theorem scatch_idle (g1 g2:Nat) (w:World):
  CallsD Tryz.prog 134 #[.pointer (some ⟨g1,0,none⟩), .pointer (some ⟨g2,0,none⟩)] .returning w fun e u' w'=>e= .returned (.tuple #[])∧u'= .returning∧w'=w:=by
 refine callsD_of_wpS Tryz.func134 rfl fun c₀ cs hu=>?_
 apply wpS_seq
 apply wpS_region
 simp [wpOpsS,go_sem,recoverD,hu,Tryz.ntmps134,Exit.thenS]
 refine wpS_cond (t:=false) (by simp [Act.eval,Array.replicate]) ?_
 simp only [Bool.false_eq_true,if_false]
 refine wpS_of_wp (wp_skip ?_)
 cases c₀
 simp_all [bodyPostS,results,Tryz.results134]
theorem below_put {B:Nat} {w wx:World} (h:Below B w wx) {g i:Nat} (hg:B≤g) (hB:B≤wx.heap.size) (v:Value):Below B w (wx.setCell ⟨g,i,none⟩ v):=
 h.trans ((Keeps.setCell (F:=fun j=>j=g) (p:=⟨g,i,none⟩) wx rfl v).below (fun j hj=>by omega) hB)
theorem size_setCell (w:World) (a:Addr) (v:Value):(w.setCell a v).heap.size=w.heap.size:=by simp [World.setCell]
theorem below4 {B:Nat} {w wx:World} (h:Below B w wx) {g1 g2:Nat} (h1:B≤g1) (h2:B≤g2) (hB:B≤wx.heap.size) (x y z u:Value):
  Below B w ((((wx.setCell ⟨g1,0,none⟩ x).setCell ⟨g1,1,none⟩ y).setCell ⟨g1,2,none⟩ z).setCell ⟨g2,0,none⟩ u):=
 below_put (below_put (below_put (below_put h h1 hB x) h1 (by rw [size_setCell];exact hB) y) h1 (by rw [size_setCell,size_setCell];exact hB) z) h2 (by rw [size_setCell,size_setCell,size_setCell];exact hB) u
def SuperOk (l:List Int):Prop:=SumOk l∧SupOk (part l 0 508)
set_option maxRecDepth 20000 in
set_option maxHeartbeats 4000000 in
theorem decsuper_ok (b o c:Nat) (l:List Int) (w:World) (hl:l.length=512) (hc:512≤c) (hcc:c≤9223372036854775807) (hb:Bytes l) (hs:∀i,i<512→w.cell? ⟨b,o+i,none⟩=some (.int .u8 (l.getD i 0))) (hok:SuperOk l):
  Calls Tryz.prog 103 #[.slice (some ⟨b,o,none⟩) 512 c] w fun e w'=>e= .returned (.tuple #[.agg #[.int .i64 ((u32 l 8:Nat):Int), .int .i64 ((u32 l 12:Nat):Int), .int .i64 ((u32 l 16:Nat):Int)], .int .i64 0])∧Below w.heap.size w w':=by
 obtain⟨w1,hw1⟩:∃w1,w1=(w.alloc (.cells #[.int .i64 0, .int .i64 0, .int .i64 0] 31)).alloc (.cells #[.int .i64 0] 39):=⟨_,rfl⟩
 have hB1:Below w.heap.size w w1:=by rw [hw1];exact cbelow_two w _ _
 have hsz1:w1.heap.size=w.heap.size+2:=by rw [hw1];simp
 have hg1:w1.heap[w.heap.size]? =some (.cells #[.int .i64 0, .int .i64 0, .int .i64 0] 31 (0,0)):=by rw [hw1];exact heap_alloc2_old _ _ _
 have hg2:w1.heap[w.heap.size+1]? =some (.cells #[.int .i64 0] 39 (0,0)):=by rw [hw1];exact heap_alloc2_new _ _ _
 go_enter_defers Tryz.func103,Tryz.ntmps103
 go_wp2_with fail
 rw [←hw1]
 refine(summed_ok b o 512 c l w1 hl (by omega) (by omega) hc hcc hb (fun i hi=>cell_later hB1 (hs i hi)) hok.1).mono ?_
 rintro e w2 ⟨p,rfl,hp,hrd,hb2⟩
 have hrs:=readsuper_ok p b o c (part l 0 508) w2 hrd (part_len (by omega)) hok.2
 have HB2:=hB1.trans (hb2.mono hB1.size)
 have HG1:=((hb2.block w.heap.size (by omega)).trans hg1)
 have HG2:=((hb2.block (w.heap.size+1) (by omega)).trans hg2)
 have u8':u32 (part l 0 508) 8=u32 l 8:=by unfold u32;congr 1;simp [part,List.drop_take,List.take_take]
 have u12':u32 (part l 0 508) 12=u32 l 12:=by unfold u32;congr 1;simp [part,List.drop_take,List.take_take]
 have u16':u32 (part l 0 508) 16=u32 l 16:=by unfold u32;congr 1;simp [part,List.drop_take,List.take_take]
 rw [u8',u12',u16'] at hrs
 go_wp2_with fail
 refine hrs.mono ?_
 rintro e w3 ⟨rfl,hk3⟩
 have hg1:=(hk3.block w.heap.size (Array.getElem?_eq_some_iff.1 HG1).1 (by omega)).trans HG1
 have hg2:=(hk3.block (w.heap.size+1) (Array.getElem?_eq_some_iff.1 HG2).1 (by omega)).trans HG2
 have HB3:=HB2.trans (hk3.below (fun j hj=>by omega) HB2.size)
 have c0:=cell_of_block hg1 (j:=0) rfl
 have c1:=cell_of_block hg1 (j:=1) rfl
 have c2:=cell_of_block hg1 (j:=2) rfl
 have f0:=frozen_of_block hg1 0
 have f1:=frozen_of_block hg1 1
 have f2:=frozen_of_block hg1 2
 have d0:=cell_of_block hg2 (j:=0) rfl
 have e0:=frozen_of_block hg2 0
 go_wp2
 refine leaves_cons (f:=134) (args:= #[.pointer (some ⟨w.heap.size,0,none⟩), .pointer (some ⟨w.heap.size+1,0,none⟩)]) (by simp) (by simp [go_sem]) ?_
 refine(scatch_idle _ _ _).mono ?_
 rintro e u' w'' ⟨rfl,rfl,rfl⟩
 simp [Leaves,settle,results,Tryz.results103,go_sem,c0,c1,c2,d0]
 exact(below4 HB3 (Nat.le_refl w.heap.size) (show w.heap.size≤w.heap.size+1 by omega) HB3.size (.int .i64 ((u32 l 8:Nat):Int)) (.int .i64 ((u32 l 12:Nat):Int)) (.int .i64 ((u32 l 16:Nat):Int)) (.int .i64 0))
set_option maxRecDepth 20000 in
set_option maxHeartbeats 4000000 in
theorem decsuper_no1 (b o c:Nat) (l:List Int) (w:World) (hl:l.length=512) (hc:512≤c) (hcc:c≤9223372036854775807) (hb:Bytes l) (hs:∀i,i<512→w.cell? ⟨b,o+i,none⟩=some (.int .u8 (l.getD i 0))) (h1:¬SumOk l):
  Calls Tryz.prog 103 #[.slice (some ⟨b,o,none⟩) 512 c] w fun e w'=>e= .returned (.tuple #[.agg #[.int .i64 0, .int .i64 0, .int .i64 0], .int .i64 6])∧Below w.heap.size w w':=by
 obtain⟨w1,hw1⟩:∃w1,w1=(w.alloc (.cells #[.int .i64 0, .int .i64 0, .int .i64 0] 31)).alloc (.cells #[.int .i64 0] 39):=⟨_,rfl⟩
 have hB1:Below w.heap.size w w1:=by rw [hw1];exact cbelow_two w _ _
 have hsz1:w1.heap.size=w.heap.size+2:=by rw [hw1];simp
 have hg1:w1.heap[w.heap.size]? =some (.cells #[.int .i64 0, .int .i64 0, .int .i64 0] 31 (0,0)):=by rw [hw1];exact heap_alloc2_old _ _ _
 have hg2:w1.heap[w.heap.size+1]? =some (.cells #[.int .i64 0] 39 (0,0)):=by rw [hw1];exact heap_alloc2_new _ _ _
 go_enter_defers Tryz.func103,Tryz.ntmps103
 go_wp2_with fail
 rw [←hw1]
 refine(summed_no b o 512 c l w1 hl (by omega) (by omega) hc hcc hb (fun i hi=>cell_later hB1 (hs i hi)) h1).mono ?_
 rintro e w2 ⟨rfl,hb2⟩
 have HB2:=hB1.trans (hb2.mono hB1.size)
 have HG:=(And.intro ((hb2.block w.heap.size (by omega)).trans hg1) ((hb2.block (w.heap.size+1) (by omega)).trans hg2))
 go_wp2
 refine leaves_cons (f:=134) (args:= #[.pointer (some ⟨w.heap.size,0,none⟩), .pointer (some ⟨w.heap.size+1,0,none⟩)]) (by simp) (by simp [go_sem]) ?_
 refine(scatch_panic w.heap.size (w.heap.size+1) _ _ _ _ _ HG.1 HG.2 (by omega)).mono ?_
 rintro e u' w'' ⟨rfl,rfl,rfl⟩
 simp [Leaves,settle,results,Tryz.results103,go_sem,(cell_of_block HG.1 (j:=0) rfl),(cell_of_block HG.1 (j:=1) rfl),(cell_of_block HG.1 (j:=2) rfl),(cell_of_block HG.2 (j:=0) rfl)]
 exact(below4 HB2 (Nat.le_refl w.heap.size) (show w.heap.size≤w.heap.size+1 by omega) HB2.size (.int .i64 0) (.int .i64 0) (.int .i64 0) (.int .i64 6))
set_option maxRecDepth 20000 in
set_option maxHeartbeats 4000000 in
theorem decsuper_no2 (b o c:Nat) (l:List Int) (w:World) (hl:l.length=512) (hc:512≤c) (hcc:c≤9223372036854775807) (hb:Bytes l) (hs:∀i,i<512→w.cell? ⟨b,o+i,none⟩=some (.int .u8 (l.getD i 0))) (h1:SumOk l) (h2:¬SupOk (part l 0 508)):
  Calls Tryz.prog 103 #[.slice (some ⟨b,o,none⟩) 512 c] w fun e w'=>e= .returned (.tuple #[.agg #[.int .i64 0, .int .i64 0, .int .i64 0], .int .i64 6])∧Below w.heap.size w w':=by
 obtain⟨w1,hw1⟩:∃w1,w1=(w.alloc (.cells #[.int .i64 0, .int .i64 0, .int .i64 0] 31)).alloc (.cells #[.int .i64 0] 39):=⟨_,rfl⟩
 have hB1:Below w.heap.size w w1:=by rw [hw1];exact cbelow_two w _ _
 have hsz1:w1.heap.size=w.heap.size+2:=by rw [hw1];simp
 have hg1:w1.heap[w.heap.size]? =some (.cells #[.int .i64 0, .int .i64 0, .int .i64 0] 31 (0,0)):=by rw [hw1];exact heap_alloc2_old _ _ _
 have hg2:w1.heap[w.heap.size+1]? =some (.cells #[.int .i64 0] 39 (0,0)):=by rw [hw1];exact heap_alloc2_new _ _ _
 go_enter_defers Tryz.func103,Tryz.ntmps103
 go_wp2_with fail
 rw [←hw1]
 refine(summed_ok b o 512 c l w1 hl (by omega) (by omega) hc hcc hb (fun i hi=>cell_later hB1 (hs i hi)) h1).mono ?_
 rintro e w2 ⟨p,rfl,hp,hrd,hb2⟩
 have HB2:=hB1.trans (hb2.mono hB1.size)
 have HG1:=((hb2.block w.heap.size (by omega)).trans hg1)
 have HG2:=((hb2.block (w.heap.size+1) (by omega)).trans hg2)
 go_wp2_with fail
 refine(readsuper_no p b o c (part l 0 508) w2 hrd (part_len (by omega)) h2).mono ?_
 rintro e w3 ⟨rfl,hk3⟩
 have hg1:=(hk3.block w.heap.size (Array.getElem?_eq_some_iff.1 HG1).1 (by omega)).trans HG1
 have hg2:=(hk3.block (w.heap.size+1) (Array.getElem?_eq_some_iff.1 HG2).1 (by omega)).trans HG2
 have HB3:=HB2.trans (hk3.below (fun j hj=>by omega) HB2.size)
 have HG:=(And.intro hg1 hg2)
 go_wp2
 refine leaves_cons (f:=134) (args:= #[.pointer (some ⟨w.heap.size,0,none⟩), .pointer (some ⟨w.heap.size+1,0,none⟩)]) (by simp) (by simp [go_sem]) ?_
 refine(scatch_panic w.heap.size (w.heap.size+1) _ _ _ _ _ HG.1 HG.2 (by omega)).mono ?_
 rintro e u' w'' ⟨rfl,rfl,rfl⟩
 simp [Leaves,settle,results,Tryz.results103,go_sem,(cell_of_block HG.1 (j:=0) rfl),(cell_of_block HG.1 (j:=1) rfl),(cell_of_block HG.1 (j:=2) rfl),(cell_of_block HG.2 (j:=0) rfl)]
 exact(below4 HB3 (Nat.le_refl w.heap.size) (show w.heap.size≤w.heap.size+1 by omega) HB3.size (.int .i64 0) (.int .i64 0) (.int .i64 0) (.int .i64 6))
theorem decsuper_no (b o c:Nat) (l:List Int) (w:World) (hl:l.length=512) (hc:512≤c) (hcc:c≤9223372036854775807) (hb:Bytes l) (hs:∀i,i<512→w.cell? ⟨b,o+i,none⟩=some (.int .u8 (l.getD i 0))) (hok:¬SuperOk l):
  Calls Tryz.prog 103 #[.slice (some ⟨b,o,none⟩) 512 c] w fun e w'=>e= .returned (.tuple #[.agg #[.int .i64 0, .int .i64 0, .int .i64 0], .int .i64 6])∧Below w.heap.size w w':=by
 by_cases h1:SumOk l
 ·exact decsuper_no2 b o c l w hl hc hcc hb hs h1 (fun h2=>hok ⟨h1,h2⟩)
 ·exact decsuper_no1 b o c l w hl hc hcc hb hs h1
end Go.Proofs.YtkiehemoiapkkaaGreat
end
