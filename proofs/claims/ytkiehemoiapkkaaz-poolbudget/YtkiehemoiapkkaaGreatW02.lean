import Derived.Test.YtkiehemoiapkkaaGreatW01
import Derived.Deep.RegionLaw
import Derived.Laws.BitsAllLaws
import Derived.Test.YtkiehemoiapkkaaGreatRows
import Derived.WalkKit
import Derived.WalkSpells
import Derived.WalkLawsBesides
import Derived.Below
import Derived.Maps.RangeWalk
import Derived.Laws.CopyOwn
import Derived.Lib.SliceRun
import Derived.Deep.QuietTactic
import Derived.BigQuiet
section
namespace Go.Proofs.YtkiehemoiapkkaaGreat
open Go.RowKit
set_option maxRecDepth 20000 in
set_option maxHeartbeats 2000000 in
theorem cut_any (g o i j:Nat) (w:World) (hij:i<j) (hj:j≤512):
  Calls Tryz.prog 184 #[.pointer (some ⟨g,o,none⟩), .int .i64 (i:Int), .int .i64 (j:Int)] w fun e w'=>e= .returned (.slice (some ⟨g,o+i,none⟩) (j-i) (j-i))∧w'=w:=by
 have h1:(i:Int)≤(j:Int):=by omega
 have h2:(j:Int)≤512:=by omega
 have h3:¬j=i:=by omega
 go_enter Tryz.func184,Tryz.ntmps184
 go_wp2
 go_ret
 exact⟨rfl,rfl⟩
set_option maxRecDepth 20000 in
set_option maxHeartbeats 2000000 in
theorem cut_none (g o i:Nat) (w:World) (hj:i≤512):
  Calls Tryz.prog 184 #[.pointer (some ⟨g,o,none⟩), .int .i64 (i:Int), .int .i64 (i:Int)] w fun e w'=>e= .returned (.slice (some ⟨g,o,none⟩) 0 0)∧w'=w:=by
 have h2:(i:Int)≤512:=by omega
 go_enter Tryz.func184,Tryz.ntmps184
 go_wp2
 go_ret
 exact⟨rfl,rfl⟩
def leb:Nat→Nat→List Int
 |0,_=> []
 |k+1,m=>((m%256:Nat):Int) :: leb k (m / 256)
theorem leb_len:∀k m,(leb k m).length=k
 |0,_=>rfl
 |k+1,m=>by simp [leb,leb_len k]
theorem leb_snoc:∀k m,leb (k+1) m=leb k m ++ [((m / 2 ^ (8*k)%256:Nat):Int)]
 |0,m=>by simp [leb]
 |k+1,m=>by
  rw [leb,leb_snoc k (m / 256),leb]
  have:m / 256 / 2 ^ (8*k)=m / 2 ^ (8*(k+1)):=by
   rw [Nat.div_div_eq_div_mul,show 8*(k+1)=8+8*k by omega,Nat.pow_add]
  simp [this]
theorem leb_bytes:∀k m,Bytes (leb k m)
 |0,_=>by intro x hx;cases hx
 |k+1,m=> .cons (by omega) (leb_bytes k _)
def put (l:List Int) (o:Nat) (xs:List Int):List Int:=l.take o ++ (xs ++ l.drop (o+xs.length))
theorem put_len {l xs:List Int} {o:Nat} (h:o+xs.length≤l.length):(put l o xs).length=l.length:=by simp [put];omega
theorem put_nil (l:List Int) (o:Nat):put l o []=l:=by simp [put]
theorem put_snoc {l xs:List Int} {o:Nat} (h:o+xs.length<l.length) (x:Int):(put l o xs).set (o+xs.length) x=put l o (xs ++ [x]):=by
 unfold put
 have h1:(l.take o).length=o:=by simp;omega
 rw [List.set_append_right _ _ (by omega),h1,List.set_append_right _ _ (by omega),show o+xs.length-o-xs.length=0 by omega]
 have:l.drop (o+xs.length)=l[o+xs.length] :: l.drop (o+xs.length+1):=List.drop_eq_getElem_cons h
 rw [this,List.set_cons_zero]
 simp [Nat.add_assoc]
def Blk (w:World) (T:TypeId) (g:Nat) (l:List Int):Prop:=w.heap[g]? =some (.cells (bs l).toArray T (0,0))
theorem Blk.lt {w:World} {T:TypeId} {g:Nat} {l:List Int} (h:Blk w T g l):g<w.heap.size:=(Array.getElem?_eq_some_iff.1 h).1
theorem Blk.cell {w:World} {T:TypeId} {g:Nat} {l:List Int} (h:Blk w T g l) {i:Nat} (hi:i<l.length):w.cell? ⟨g,i,none⟩=some (.int .u8 (l.getD i 0)):=
 cell_of_block h (by simp [bs,List.getD,hi])
theorem Blk.frozen {w:World} {T:TypeId} {g:Nat} {l:List Int} (h:Blk w T g l) (i:Nat):w.frozen? ⟨g,i,none⟩=false:=frozen_of_block h i
theorem Blk.set {w:World} {T:TypeId} {g:Nat} {l:List Int} (h:Blk w T g l) (i:Nat) (x:Int):Blk (w.setCell ⟨g,i,none⟩ (.int .u8 x)) T g (l.set i x):=by
 unfold Blk
 rw [heap_setCell_same _ _ _ _ _ _ h]
 congr 2
 apply Array.ext'
 simp [bs,List.map_set]
theorem Blk.keep {w w':World} {T:TypeId} {g:Nat} {l:List Int} (h:Blk w T g l) (hb:w'.heap[g]? =w.heap[g]?):Blk w' T g l:=hb.trans h
theorem Blk.src {w:World} {T:TypeId} {g:Nat} {l:List Int} (h:Blk w T g l) {o n:Nat} (hn:o+n≤l.length):Src w (some ⟨g,o,none⟩) n ((l.drop o).take n):=
   ⟨by simp;omega,(fun e=>by cases e),fun x hx i hi=>by
  cases hx
  rw [addr_add,h.cell (by omega)]
  simp [List.getD,hi]⟩
set_option maxRecDepth 20000 in
set_option maxHeartbeats 4000000 in
theorem lay_any (g o k c N:Nat) (T:TypeId) (l:List Int) (w:World) (hb:Blk w T g l) (hk:k≤8) (ho:o+k≤l.length):
  Calls Tryz.prog 183 #[.slice (some ⟨g,o,none⟩) k c, .int .u64 (N:Int)] w fun e w'=>e= .returned (.tuple #[])∧Blk w' T g (put l o (leb k N))∧Keeps (fun j=>j=g) w w'∧w'.heap.size=w.heap.size:=by
 go_enter Tryz.func183,Tryz.ntmps183
 go_wp2
 go_loopw [7] (fun i wr=>∃j:Nat,j≤k∧i= .int .i64 j∧Blk wr T g (put l o (leb j N))∧Keeps (fun j=>j=g) w wr∧wr.heap.size=w.heap.size) (fun i _=>k-(intOf i).toNat)
 case atStart=>exact⟨0,Nat.zero_le _,rfl,by rw [leb,put_nil];exact hb,Keeps.refl _ _,rfl⟩
 case round=>
  obtain⟨j,hj,rfl,hblk,hkeep,hsz⟩:=hrel
  by_cases hlt:j<k
  ·have hlt':(j:Int)<(k:Int):=by omega
   have hlen:=leb_len j N
   have hpl:=put_len (l:=l) (xs:=leb j N) (o:=o) (by omega)
   have hc:=hblk.cell (i:=o+j) (by omega)
   have hf:=hblk.frozen (o+j)
   have hset:=hblk.set (o+j) ((N / 2 ^ (8*j)%256:Nat):Int)
   have e:=put_snoc (l:=l) (xs:=leb j N) (o:=o) (by omega) ((N / 2 ^ (8*j)%256:Nat):Int)
   rw [hlen] at e
   rw [e,←leb_snoc] at hset
   have HK:=(hkeep.trans (Keeps.setCell (F:=fun j=>j=g) (p:=⟨g,o+j,none⟩) wr rfl (.int .u8 ((N / 2 ^ (8*j)%256:Nat):Int))) (fun _ h=> .inl h))
   go_wp2
   go_roundw
   case rel=>exact⟨j+1,by omega,by go_num,hset,HK,by simpa [World.setCell] using hsz⟩
   case measure=>simp [intOf];omega
  ·have hlt':¬(j:Int)<(k:Int):=by omega
   obtain rfl:j=k:=by omega
   go_wp2
   go_end0
   exact⟨rfl,hblk,hkeep,hsz⟩
end Go.Proofs.YtkiehemoiapkkaaGreat
end
section
namespace Go.Proofs.YtkiehemoiapkkaaGreat
open Go.RowKit
def bitIn (x:Int) (k:Nat):Bool:=decide (x / 2 ^ k%2=1)
def turnOne (x:Int) (k:Nat):Int:=if bitIn x k=true then x-2 ^ k else x+2 ^ k
def bitOf (l:List Int) (i:Nat):Bool:=bitIn (l.getD (i / 8) 0) (i%8)
def turnBit (l:List Int) (i:Nat):List Int:=l.set (i / 8) (turnOne (l.getD (i / 8) 0) (i%8))
theorem all_bytes {p:Nat→Nat→Bool} (h:((List.range 256).all fun x=>(List.range 8).all fun k=>p x k)=true) {x k:Nat} (hx:x<256) (hk:k<8):p x k=true:=by
 rw [List.all_eq_true] at h
 have:=h x (List.mem_range.2 hx)
 rw [List.all_eq_true] at this
 exact this k (List.mem_range.2 hk)
theorem pow_cast (k:Nat):((2 ^ k:Nat):Int)=2 ^ k:=by simp
theorem bitIn_nat (x k:Nat):bitIn (x:Int) k=decide (x / 2 ^ k%2=1):=by
 unfold bitIn
 rw [←pow_cast,←Int.natCast_ediv]
 apply decide_eq_decide.2
 omega
def turnN (x k:Nat):Nat:=if x / 2 ^ k%2=1 then x-2 ^ k else x+2 ^ k
theorem turn_cases {x k:Nat} (hx:x<256) (hk:k<8):turnN x k<256∧(x ^^^ 2 ^ k)=turnN x k∧(x / 2 ^ k%2=1→2 ^ k≤x):=by
 have:=all_bytes (p:=fun x k=>decide (turnN x k<256∧(x ^^^ 2 ^ k)=turnN x k∧(x / 2 ^ k%2=1→2 ^ k≤x))) (by decide+kernel) hx hk
 exact of_decide_eq_true this
theorem turnOne_nat {x k:Nat} (hx:x<256) (hk:k<8):turnOne (x:Int) k=(turnN x k:Int):=by
 have h:=(turn_cases hx hk).2.2
 unfold turnOne turnN
 rw [bitIn_nat]
 by_cases h1:x / 2 ^ k%2=1
 ·rw [if_pos (by simpa using h1),if_pos h1,←pow_cast]
  have:=h h1
  omega
 ·rw [if_neg (by simpa using h1),if_neg h1,←pow_cast]
  omega
theorem turn_bit {x k j:Nat} (hx:x<256) (hk:k<8) (hj:j<8):decide (turnN x k / 2 ^ j%2=1)=if j=k then !decide (x / 2 ^ k%2=1) else decide (x / 2 ^ j%2=1):=by
 have:=all_bytes (p:=fun x k=>(List.range 8).all fun j=>decide (turnN x k / 2 ^ j%2=1) == if j=k then !decide (x / 2 ^ k%2=1) else decide (x / 2 ^ j%2=1)) (by decide+kernel) hx hk
 rw [List.all_eq_true] at this
 simpa using this j (List.mem_range.2 hj)
theorem nat_of {x:Int} (h:0≤x∧x<256):∃n:Nat,x=(n:Int)∧n<256:=⟨x.toNat,by omega,by omega⟩
theorem getD_byte {l:List Int} (h:Bytes l) (i:Nat):0≤l.getD i 0∧l.getD i 0<256:=by
 by_cases hi:i<l.length
 ·have e:l.getD i 0=l[i]:=by simp [List.getD,hi]
  rw [e]
  exact h _ (List.getElem_mem hi)
 ·have e:l.getD i 0=0:=by simp [List.getD,List.getElem?_eq_none (Nat.le_of_not_lt hi)]
  rw [e]
  omega
theorem turn_byte {x:Int} {k:Nat} (h:0≤x∧x<256) (hk:k<8):0≤turnOne x k∧turnOne x k<256:=by
 obtain⟨n,rfl,hn⟩:=nat_of h
 rw [turnOne_nat hn hk]
 have:=(turn_cases hn hk).1
 omega
theorem turn_xor {x:Int} {k:Nat} (h:0≤x∧x<256) (hk:k<8):bits .xor .u8 x (2 ^ k)=turnOne x k:=by
 obtain⟨n,rfl,hn⟩:=nat_of h
 have h2:2 ^ k<256:=by
  have:2 ^ k≤2 ^ 7:=Nat.pow_le_pow_right (by omega) (by omega)
  omega
 rw [turnOne_nat hn hk,←pow_cast,u8_xor_nat _ _ hn h2,(turn_cases hn hk).2.1]
theorem bit_and {x:Int} {k:Nat} (h:0≤x∧x<256):(bits .and .u8 (x / 2 ^ k) 1 == 1)=bitIn x k:=by
 obtain⟨n,rfl,hn⟩:=nat_of h
 have h2:n / 2 ^ k<256:=Nat.lt_of_le_of_lt (Nat.div_le_self _ _) hn
 have e:(n:Int) / 2 ^ k=((n / 2 ^ k:Nat):Int):=by rw [←pow_cast,←Int.natCast_ediv]
 rw [bitIn_nat,e,show (1:Int)=((1:Nat):Int) from rfl,u8_and_nat _ _ h2 (by omega),Nat.and_one_is_mod]
 rw [Bool.eq_iff_iff,beq_iff_eq,decide_eq_true_iff]
 omega
theorem turn_bitIn {x:Int} {k j:Nat} (h:0≤x∧x<256) (hk:k<8) (hj:j<8):bitIn (turnOne x k) j=if j=k then !bitIn x k else bitIn x j:=by
 obtain⟨n,rfl,hn⟩:=nat_of h
 rw [turnOne_nat hn hk,bitIn_nat,bitIn_nat,bitIn_nat]
 exact turn_bit hn hk hj
section
variable {l l':List Int} {i j k n a:Nat}
theorem turnBit_len:(turnBit l i).length=l.length:=by unfold turnBit;rw [List.length_set]
theorem turnBit_bytes (h:Bytes l):Bytes (turnBit l i):=fun x hx=>by
 unfold turnBit at hx
 rcases List.mem_or_eq_of_mem_set hx with h1|h1
 ·exact h x h1
 ·rw [h1];exact turn_byte (getD_byte h _) (by omega)
theorem getD_set (x:Int) (hi:i<l.length) (j:Nat):(l.set i x).getD j 0=if j=i then x else l.getD j 0:=by
 by_cases e:j=i
 ·subst e;simp [List.getD,hi]
 ·simp only [List.getD]
  rw [List.getElem?_set_ne (fun h=>e h.symm),if_neg e]
theorem turnBit_bit (h:Bytes l) (hi:i<8*l.length):bitOf (turnBit l i) j=if j=i then !bitOf l i else bitOf l j:=by
 unfold bitOf turnBit
 rw [getD_set _ (by omega)]
 by_cases e:j / 8=i / 8
 ·rw [if_pos e,turn_bitIn (getD_byte h _) (by omega) (by omega)]
  by_cases e2:j=i
  ·rw [if_pos e2,if_pos (by omega)]
  ·rw [if_neg e2,if_neg (by omega),e]
 ·rw [if_neg e,if_neg (fun h=>e (by rw [h]))]
theorem byte_sum {x:Nat} (hx:x<256):x=(List.range 8).foldr (fun k s=>(if decide (x / 2 ^ k%2=1) then 2 ^ k else 0)+s) 0:=by
 have:=all_bytes (p:=fun x _=>decide (x=(List.range 8).foldr (fun k s=>(if decide (x / 2 ^ k%2=1) then 2 ^ k else 0)+s) 0)) (by decide+kernel) hx (show 0<8 by omega)
 exact of_decide_eq_true this
theorem bits_byte {x y:Int} (hx:0≤x∧x<256) (hy:0≤y∧y<256) (h:∀k,k<8→bitIn x k=bitIn y k):x=y:=by
 obtain⟨n,rfl,hn⟩:=nat_of hx
 obtain⟨m,rfl,hm⟩:=nat_of hy
 have g:∀k,k<8→decide (n / 2 ^ k%2=1)=decide (m / 2 ^ k%2=1):=fun k hk=>by
  have:=h k hk
  rwa [bitIn_nat,bitIn_nat] at this
 rw [byte_sum hn,byte_sum hm]
 simp only [show List.range 8= [0,1,2,3,4,5,6,7] from rfl,List.foldr]
 rw [g 0 (by omega),g 1 (by omega),g 2 (by omega),g 3 (by omega),g 4 (by omega),g 5 (by omega),g 6 (by omega),g 7 (by omega)]
theorem bits_same (h:Bytes l) (h':Bytes l') (hl:l.length=l'.length) (hb:∀i,i<8*l.length→bitOf l i=bitOf l' i):l=l':=by
 apply List.ext_getElem hl
 intro j h1 h2
 have e1:l.getD j 0=l[j]:=by simp [List.getD,h1]
 have e2:l'.getD j 0=l'[j]:=by simp [List.getD,h2]
 rw [←e1,←e2]
 refine bits_byte (getD_byte h _) (getD_byte h' _) (fun k hk=>?_)
 have:=hb (8*j+k) (by omega)
 unfold bitOf at this
 rwa [show (8*j+k) / 8=j by omega,show (8*j+k)%8=k by omega] at this
end
end Go.Proofs.YtkiehemoiapkkaaGreat
end
section
namespace Go.Proofs.YtkiehemoiapkkaaGreat
open Go.RowKit Go.Maps
theorem infoRow:(Tryz.prog.info? 44).map (fun i=>(i.zero,i.size,i.bytes))=some (some (.slice none 0 0),1,24):=by kernel_rfl
theorem infoInt:(Tryz.prog.info? 3).map (fun i=>(i.zero,i.size,i.bytes))=some (some (.int .i64 0),1,8):=by kernel_rfl
abbrev dkCells (im pend:Value) (fuse life r wr fl rf:Int):Array Value:=
   #[im,pend, .int .i64 fuse, .int .i64 life, .int .i64 r, .int .i64 wr, .int .i64 fl, .int .i64 rf, .int .i64 0]
set_option maxHeartbeats 400000 in
theorem over_low (a:Option Addr) (n c:Nat) (w:World):
  Calls Tryz.prog 43 #[.slice a n c] w fun e w'=>e= .returned (.pointer (some ⟨w.heap.size+1,0,none⟩))∧
   w'=(w.alloc (.map #[] 0)).alloc (.cells (dkCells (.slice a n c) (.map (some w.heap.size)) (-1) 1 0 0 0 0) 128):=by
 have hmm:= @run_makeMap Tryz.prog
 go_enter Tryz.func43,Tryz.ntmps43
 go_wp2
 go_ret
 exact⟨rfl,rfl⟩
theorem burnt_low (p:Nat) (fuse:Int) (w:World) (c2:w.cell? ⟨p,2,none⟩=some (.int .i64 fuse)):
  Calls Tryz.prog 44 #[.pointer (some ⟨p,0,none⟩)] w fun e w'=>e= .returned (.bool (fuse == 0))∧w'=w:=by
 go_enter Tryz.func44,Tryz.ntmps44
 go_wp2
 go_ret
 exact⟨rfl,rfl⟩
theorem life_low (p:Nat) (life:Int) (w:World) (c3:w.cell? ⟨p,3,none⟩=some (.int .i64 life)):
  Calls Tryz.prog 142 #[.pointer (some ⟨p,0,none⟩)] w fun e w'=>e= .returned (.int .i64 life)∧w'=w:=by
 go_enter Tryz.func142,Tryz.ntmps142
 go_wp2
 go_ret
 exact⟨rfl,rfl⟩
theorem sectors_low (p:Nat) (a:Option Addr) (n c:Nat) (w:World) (hn:n≤1048576) (c0:w.cell? ⟨p,0,none⟩=some (.slice a n c)):
  Calls Tryz.prog 46 #[.pointer (some ⟨p,0,none⟩)] w fun e w'=>e= .returned (.int .i64 ((n / 512:Nat):Int))∧w'=w:=by
 go_enter Tryz.func46,Tryz.ntmps46
 go_wp2
 go_ret
 exact⟨by go_num,rfl⟩
theorem has_low (p:Nat) (a:Option Addr) (n c:Nat) (at_:Int) (w:World) (hn:n≤1048576) (c0:w.cell? ⟨p,0,none⟩=some (.slice a n c)):
  Calls Tryz.prog 97 #[.pointer (some ⟨p,0,none⟩), .int .i64 at_] w fun e w'=>e= .returned (.bool (decide (0≤at_) && decide (at_<((n / 512:Nat):Int))))∧w'=w:=by
 by_cases h0:0≤at_
 ·go_enter Tryz.func97,Tryz.ntmps97
  go_wp2_with (go_at_call 46;refine(sectors_low _ _ _ _ _ hn c0).mono ?_;rintro e w' ⟨rfl,rfl⟩)
  go_ret
  exact⟨by simp [h0],rfl⟩
 ·go_enter Tryz.func97,Tryz.ntmps97
  go_wp2
  go_ret
  exact⟨by simp;omega,rfl⟩
theorem refuse_low (p:Nat) (rf er:Int) (w:World) (c7:w.cell? ⟨p,7,none⟩=some (.int .i64 rf)) (f7:w.frozen? ⟨p,7,none⟩=false):
  Calls Tryz.prog 98 #[.pointer (some ⟨p,0,none⟩), .int .i64 er] w fun e w'=>e= .returned (.int .i64 er)∧w'=w.setCell ⟨p,7,none⟩ (.int .i64 (wrap64 (rf+1))):=by
 go_enter Tryz.func98,Tryz.ntmps98
 go_wp2
 go_ret
 exact⟨rfl,rfl⟩
theorem spend_low (p:Nat) (fuse:Int) (w:World) (c2:w.cell? ⟨p,2,none⟩=some (.int .i64 fuse)) (f2:w.frozen? ⟨p,2,none⟩=false) (hf: -1≤fuse):
  Calls Tryz.prog 100 #[.pointer (some ⟨p,0,none⟩)] w fun e w'=>e= .returned (.tuple #[])∧w'=if 0<fuse then w.setCell ⟨p,2,none⟩ (.int .i64 (wrap64 (fuse-1))) else w:=by
 by_cases h:0<fuse
 ·go_enter Tryz.func100,Tryz.ntmps100
  go_wp2
  go_end0
  exact⟨rfl,rfl⟩
 ·go_enter Tryz.func100,Tryz.ntmps100
  go_wp2
  go_end0
  exact⟨rfl,rfl⟩
theorem take_low (p:Nat) (life:Int) (w:World) (c3:w.cell? ⟨p,3,none⟩=some (.int .i64 life)) (f3:w.frozen? ⟨p,3,none⟩=false):
  Calls Tryz.prog 42 #[.pointer (some ⟨p,0,none⟩)] w fun e w'=>e= .returned (.int .i64 (wrap64 (life+1)))∧w'=w.setCell ⟨p,3,none⟩ (.int .i64 (wrap64 (life+1))):=by
 go_enter Tryz.func42,Tryz.ntmps42
 go_wp2
 go_ret
 exact⟨rfl,rfl⟩
theorem durable_low (p gi n c s:Nat) (at_:Int) (k:Nat) (w:World) (c0:w.cell? ⟨p,0,none⟩=some (.slice (some ⟨gi,0,none⟩) n c)) (hk:at_=(k:Int)) (hks:k<s) (hn:n=s*512) (hs:s≤2048) (hc:n≤c):
  Calls Tryz.prog 101 #[.pointer (some ⟨p,0,none⟩), .int .i64 at_] w fun e w'=>e= .returned (.slice (some ⟨gi,k*512,none⟩) 512 512)∧w'=w:=by
 subst hk
 go_enter Tryz.func101,Tryz.ntmps101
 have e:(k+1)*512-k*512=512:=by omega
 go_wp2
 go_ret
 exact⟨congrArg (fun z=>Ending.returned (Value.slice (some ⟨gi,k*512,none⟩) z z)) e,rfl⟩
end Go.Proofs.YtkiehemoiapkkaaGreat
end
section
namespace Go.Proofs.YtkiehemoiapkkaaGreat
open Go.RowKit Go.Maps
structure DS where
 im:List Int
 puts:List (Nat×List Int)
 fuse:Int
 life:Int
 reads:Int
 writes:Int
 flushes:Int
 refused:Int
def pendOf (puts:List (Nat×List Int)) (k:Nat):List (List Int):=(puts.filter (fun q=>q.1 == k)).map (·.2)
structure DS.Ok (S:DS) (s:Nat):Prop where
 len:S.im.length=s*512
 lo:1≤s
 hi:s≤2048
 puts:∀q∈S.puts,q.1<s∧q.2.length=512
 fuse: -1≤S.fuse∧S.fuse≤9223372036854775807
def Rows' (w:World) (F:Nat→Prop) (gi:Nat):List Value→List (List Int)→Prop
 | [], []=>True
 |v :: vs,l :: ls=>(∃g c,v= .slice (some ⟨g,0,none⟩) 512 c∧F g∧g≠gi∧RowAt w 5 g c (bs l))∧Rows' w F gi vs ls
 |_,_=>False
def Rs (v:Value):Option (DataW Value×List MemPlace):=
 match v with
 | .slice _ _ _=>some (.held v, [])
 |_=>none
theorem keyInt:Keyed Tryz.prog 3:=int_keyed Tryz.underlying3
abbrev kk (k:Nat):Lit:= .int .i64 (k:Int)
structure PendAt (w:World) (F:Nat→Prop) (gi:Nat) (D:DataW Value) (gr cr:Nat→Nat) (pend:Nat→List (List Int)):Prop where
 keys:∀kl,has D kl=true→∃k:Nat,kl=kk k∧pend k≠ []
 nope:∀k,pend k= []→has D (kk k)=false
 look:∀k,pend k≠ []→∀z,D.atKey (kk k) z= .held (.slice (some ⟨gr k,0,none⟩) (pend k).length (cr k))
 row:∀k,pend k≠ []→F (gr k)∧∃xs,RowAt w 44 (gr k) (cr k) xs∧Rows' w F gi xs (pend k)
 inj:∀k k',pend k≠ []→pend k'≠ []→gr k=gr k'→k=k'
structure DiskRaw (w:World) (F:Nat→Prop) (p s:Nat) (S:DS) (gi ci m:Nat) (D:DataW Value) (gr cr:Nat→Nat):Prop where
 fp:F p
 fgi:F gi
 fm:F m
 lt:∀k,F k→k<w.heap.size
 blk:w.heap[p]? =some (.cells (dkCells (.slice (some ⟨gi,0,none⟩) (s*512) ci) (.map (some m)) S.fuse S.life S.reads S.writes S.flushes S.refused) 128 (0,0))
 img:RowAt w 5 gi ci (bs S.im)
 map:w.ownsMap Tryz.prog 3 Rs m S.puts.length D
 pend:PendAt w F gi D gr cr (pendOf S.puts)
 ok:S.Ok s
def DiskAt (w:World) (F:Nat→Prop) (p s:Nat) (S:DS):Prop:=∃gi ci m D gr cr,DiskRaw w F p s S gi ci m D gr cr
theorem Rows'.agree {w w':World} {F:Nat→Prop} {gi:Nat} (hb:∀k,F k→w'.heap[k]? =w.heap[k]?):∀{xs:List Value} {ls:List (List Int)},Rows' w F gi xs ls→Rows' w' F gi xs ls
 | [], [],_=>trivial
 |_ :: _,_ :: _,⟨⟨g,c,h1,h2,h3,h4⟩,h5⟩=>⟨⟨g,c,h1,h2,h3,h4.agree (hb g h2)⟩,Rows'.agree hb h5⟩
 | [],_ :: _,h=>h.elim
 |_ :: _, [],h=>h.elim
theorem Rows'.carry {w w':World} {F:Nat→Prop} {gi:Nat} (hb:∀g c xs,F g→g≠gi→RowAt w 5 g c xs→RowAt w' 5 g c xs):∀{xs:List Value} {ls:List (List Int)},Rows' w F gi xs ls→Rows' w' F gi xs ls
 | [], [],_=>trivial
 |_ :: _,_ :: _,⟨⟨g,c,h1,h2,h3,h4⟩,h5⟩=>⟨⟨g,c,h1,h2,h3,hb g c _ h2 h3 h4⟩,Rows'.carry hb h5⟩
 | [],_ :: _,h=>h.elim
 |_ :: _, [],h=>h.elim
theorem Rows'.mono {w:World} {F G:Nat→Prop} {gi:Nat} (hG:∀k,F k→G k):∀{xs:List Value} {ls:List (List Int)},Rows' w F gi xs ls→Rows' w G gi xs ls
 | [], [],_=>trivial
 |_ :: _,_ :: _,⟨⟨g,c,h1,h2,h3,h4⟩,h5⟩=>⟨⟨g,c,h1,hG g h2,h3,h4⟩,Rows'.mono hG h5⟩
 | [],_ :: _,h=>h.elim
 |_ :: _, [],h=>h.elim
theorem Rows'.length {w:World} {F:Nat→Prop} {gi:Nat}:∀{xs:List Value} {ls:List (List Int)},Rows' w F gi xs ls→xs.length=ls.length
 | [], [],_=>rfl
 |_ :: _,_ :: _,⟨_,h5⟩=>by simp [Rows'.length h5]
 | [],_ :: _,h=>h.elim
 |_ :: _, [],h=>h.elim
theorem Rows'.snoc {w:World} {F:Nat→Prop} {gi:Nat} {v:Value} {l:List Int} (hv:∃g c,v= .slice (some ⟨g,0,none⟩) 512 c∧F g∧g≠gi∧RowAt w 5 g c (bs l)):
  ∀{xs:List Value} {ls:List (List Int)},Rows' w F gi xs ls→Rows' w F gi (xs ++ [v]) (ls ++ [l])
 | [], [],_=>⟨hv,trivial⟩
 |_ :: _,_ :: _,⟨h,h5⟩=>⟨h,Rows'.snoc hv h5⟩
 | [],_ :: _,h=>h.elim
 |_ :: _, [],h=>h.elim
theorem Rows'.get {w:World} {F:Nat→Prop} {gi:Nat}:∀{xs:List Value} {ls:List (List Int)},Rows' w F gi xs ls→∀j (hj:j<ls.length),∃g c,xs[j]? =some (.slice (some ⟨g,0,none⟩) 512 c)∧F g∧g≠gi∧RowAt w 5 g c (bs ls[j])
 | [], [],_,j,hj=>by simp at hj
 |v :: vs,l :: ls,⟨⟨g,c,h1,h2,h3,h4⟩,h5⟩,j,hj=>by
  cases j with
  |zero=>exact⟨g,c,by simp [h1],h2,h3,h4⟩
  |succ j=>simpa using Rows'.get h5 j (by simpa using hj)
 | [],_ :: _,h,_,_=>h.elim
 |_ :: _, [],h,_,_=>h.elim
theorem DiskAt.lt {w:World} {F:Nat→Prop} {p s:Nat} {S:DS} (h:DiskAt w F p s S):∀k,F k→k<w.heap.size:=by
 obtain⟨gi,ci,m,D,gr,cr,_,_,_,h,_⟩:=h;exact h
theorem DiskAt.ok {w:World} {F:Nat→Prop} {p s:Nat} {S:DS} (h:DiskAt w F p s S):S.Ok s:=by
 obtain⟨gi,ci,m,D,gr,cr,_,_,_,_,_,_,_,_,h⟩:=h;exact h
theorem ownsMap_agree {w w':World} {m n:Nat} {D:DataW Value} (h:w.ownsMap Tryz.prog 3 Rs m n D) (hb:w'.heap[m]? =w.heap[m]?):w'.ownsMap Tryz.prog 3 Rs m n D:=by
 obtain⟨es,clock,h1,h2⟩:=h
 exact⟨es,clock,hb.trans h1,h2⟩
theorem PendAt.agree {w w':World} {F:Nat→Prop} {gi:Nat} {D:DataW Value} {gr cr:Nat→Nat} {pend:Nat→List (List Int)} (h:PendAt w F gi D gr cr pend) (hb:∀k,F k→w'.heap[k]? =w.heap[k]?):
  PendAt w' F gi D gr cr pend:=
   ⟨h.keys,h.nope,h.look,fun k hk=>by
  obtain⟨h1,xs,h2,h3⟩:=h.row k hk
  exact⟨h1,xs,h2.agree (hb _ h1),h3.agree hb⟩,h.inj⟩
theorem PendAt.carry {w w':World} {F:Nat→Prop} {gi:Nat} {D:DataW Value} {gr cr:Nat→Nat} {pend:Nat→List (List Int)} (h:PendAt w F gi D gr cr pend)
    (hb:∀g c xs,F g→g≠gi→RowAt w 5 g c xs→RowAt w' 5 g c xs) (hr:∀g c xs,F g→RowAt w 44 g c xs→RowAt w' 44 g c xs):PendAt w' F gi D gr cr pend:=
   ⟨h.keys,h.nope,h.look,fun k hk=>by
  obtain⟨h1,xs,h2,h3⟩:=h.row k hk
  exact⟨h1,xs,hr _ _ _ h1 h2,h3.carry hb⟩,h.inj⟩
theorem RowAt.other {w w':World} {e e':TypeId} {g c q:Nat} {xs:List Value} {cur:Array Value} {fz:Nat×Nat} (h:RowAt w e g c xs) (hk:Keeps (fun k=>k=q) w w') (hq:w.heap[q]? =some (.cells cur e' fz)) (he:e'≠e):RowAt w' e g c xs:=by
 refine h.agree (hk.block g h.lt (fun e1=>?_))
 obtain⟨cur',hb,_⟩:=h
 rw [e1,hq] at hb
 simp at hb
 exact he hb.2.1
theorem RowAt.ne {w:World} {e e':TypeId} {g c q:Nat} {xs:List Value} {cur:Array Value} {fz:Nat×Nat} (h:RowAt w e g c xs) (hq:w.heap[q]? =some (.cells cur e' fz)) (he:e'≠e):g≠q:=by
 intro e1
 obtain⟨cur',hb,_⟩:=h
 rw [e1,hq] at hb
 simp at hb
 exact he hb.2.1
theorem ownsMap_ne {w:World} {m n q:Nat} {D:DataW Value} {cur:Array Value} {e:TypeId} {fz:Nat×Nat} (h:w.ownsMap Tryz.prog 3 Rs m n D) (hq:w.heap[q]? =some (.cells cur e fz)):m≠q:=by
 obtain⟨es,clock,h1,_⟩:=h
 intro e1
 rw [e1,hq] at h1
 simp at h1
theorem PendAt.mono {w:World} {F G:Nat→Prop} {gi:Nat} {D:DataW Value} {gr cr:Nat→Nat} {pend:Nat→List (List Int)} (h:PendAt w F gi D gr cr pend) (hG:∀k,F k→G k):
  PendAt w G gi D gr cr pend:=
   ⟨h.keys,h.nope,h.look,fun k hk=>by
  obtain⟨h1,xs,h2,h3⟩:=h.row k hk
  exact⟨hG _ h1,xs,h2,h3.mono hG⟩,h.inj⟩
theorem DiskAt.agree {w w':World} {F:Nat→Prop} {p s:Nat} {S:DS} (h:DiskAt w F p s S) (hs:w.heap.size≤w'.heap.size) (hb:∀k,F k→w'.heap[k]? =w.heap[k]?):DiskAt w' F p s S:=by
 obtain⟨gi,ci,m,D,gr,cr,h1,h2,h3,h4,h5,h6,h7,h8,h9⟩:=h
 exact⟨gi,ci,m,D,gr,cr,h1,h2,h3,fun k hk=>Nat.lt_of_lt_of_le (h4 k hk) hs,(hb p h1).trans h5,h6.agree (hb gi h2),ownsMap_agree h7 (hb m h3),h8.agree hb,h9⟩
theorem DiskAt.keep {w w':World} {F G:Nat→Prop} {p s:Nat} {S:DS} (h:DiskAt w F p s S) (k:Keeps G w w') (hd:∀k,F k→¬G k):DiskAt w' F p s S:=
 h.agree k.size (fun j hj=>k.block j (h.lt j hj) (hd j hj))
theorem DiskAt.mono {w:World} {F G:Nat→Prop} {p s:Nat} {S:DS} (h:DiskAt w F p s S) (hG:∀k,F k→G k) (hl:∀k,G k→k<w.heap.size):DiskAt w G p s S:=by
 obtain⟨gi,ci,m,D,gr,cr,h1,h2,h3,h4,h5,h6,h7,h8,h9⟩:=h
 exact⟨gi,ci,m,D,gr,cr,hG _ h1,hG _ h2,hG _ h3,hl,h5,h6,h7,h8.mono hG,h9⟩
def DiskM (w:World) (F:Nat→Prop) (p s:Nat) (S:DS) (m:Nat):Prop:=∃gi ci D gr cr,DiskRaw w F p s S gi ci m D gr cr
theorem DiskM.at {w:World} {F:Nat→Prop} {p s:Nat} {S:DS} {m:Nat} (h:DiskM w F p s S m):DiskAt w F p s S:=by
 obtain⟨gi,ci,D,gr,cr,h⟩:=h
 exact⟨gi,ci,m,D,gr,cr,h⟩
theorem DiskAt.m {w:World} {F:Nat→Prop} {p s:Nat} {S:DS} (h:DiskAt w F p s S):∃m,DiskM w F p s S m:=by
 obtain⟨gi,ci,m,D,gr,cr,h⟩:=h
 exact⟨m,gi,ci,D,gr,cr,h⟩
theorem DiskM.agree {w w':World} {F:Nat→Prop} {p s:Nat} {S:DS} {m:Nat} (h:DiskM w F p s S m) (hs:w.heap.size≤w'.heap.size) (hb:∀k,F k→w'.heap[k]? =w.heap[k]?):DiskM w' F p s S m:=by
 obtain⟨gi,ci,D,gr,cr,h1,h2,h3,h4,h5,h6,h7,h8,h9⟩:=h
 exact⟨gi,ci,D,gr,cr,h1,h2,h3,fun k hk=>Nat.lt_of_lt_of_le (h4 k hk) hs,(hb p h1).trans h5,h6.agree (hb gi h2),ownsMap_agree h7 (hb m h3),h8.agree hb,h9⟩
theorem DiskM.keep {w w':World} {F G:Nat→Prop} {p s:Nat} {S:DS} {m:Nat} (h:DiskM w F p s S m) (k:Keeps G w w') (hd:∀k,F k→¬G k):DiskM w' F p s S m:=
 h.agree k.size (fun j hj=>k.block j (h.at.lt j hj) (hd j hj))
theorem DiskM.mono {w:World} {F G:Nat→Prop} {p s:Nat} {S:DS} {m:Nat} (h:DiskM w F p s S m) (hG:∀k,F k→G k) (hl:∀k,G k→k<w.heap.size):DiskM w G p s S m:=by
 obtain⟨gi,ci,D,gr,cr,h1,h2,h3,h4,h5,h6,h7,h8,h9⟩:=h
 exact⟨gi,ci,D,gr,cr,hG _ h1,hG _ h2,hG _ h3,hl,h5,h6,h7,h8.mono hG,h9⟩
theorem DiskRaw.turn {w w':World} {F:Nat→Prop} {p s:Nat} {S S':DS} {gi ci m:Nat} {D:DataW Value} {gr cr:Nat→Nat} (h:DiskRaw w F p s S gi ci m D gr cr) (hk:Keeps (fun k=>k=p) w w')
    (hb:w'.heap[p]? =some (.cells (dkCells (.slice (some ⟨gi,0,none⟩) (s*512) ci) (.map (some m)) S'.fuse S'.life S'.reads S'.writes S'.flushes S'.refused) 128 (0,0))) (h1:S'.im=S.im) (h2:S'.puts=S.puts) (h3: -1≤S'.fuse∧S'.fuse≤9223372036854775807):
  DiskRaw w' F p s S' gi ci m D gr cr:=by
 refine⟨h.fp,h.fgi,h.fm,fun k hf=>Nat.lt_of_lt_of_le (h.lt k hf) hk.size,hb,?_,?_,?_,⟨?_,h.ok.lo,h.ok.hi,?_,h3⟩⟩
 ·rw [h1];exact h.img.other hk h.blk (by decide)
 ·rw [h2];exact ownsMap_agree h.map (hk.block m (h.lt m h.fm) (ownsMap_ne h.map h.blk))
 ·rw [h2];exact h.pend.carry (fun g c xs _ _ hr=>hr.other hk h.blk (by decide)) (fun g c xs _ hr=>hr.other hk h.blk (by decide))
 ·rw [h1];exact h.ok.len
 ·rw [h2];exact h.ok.puts
theorem PendAt.empty (w:World) (F:Nat→Prop) (gi:Nat) (gr cr:Nat→Nat):PendAt w F gi (.map []) gr cr (pendOf []):=
   ⟨fun kl h=>by simp [has] at h,fun _ _=>rfl,fun k h=>absurd rfl h,fun k h=>absurd rfl h,fun k _ h=>absurd rfl h⟩
end Go.Proofs.YtkiehemoiapkkaaGreat
end
section
namespace Go.Proofs.YtkiehemoiapkkaaGreat
open Go.RowKit Go.Maps
set_option maxHeartbeats 2000000 in
theorem clone_low (a:Addr) (n c:Nat) (l:List Int) (w:World) (hx:l.length=n) (hbig:n≤140737488355328) (hc:∀i,i<n→w.cell? (a.add i)=some (.int .u8 (l.getD i 0))):
  Calls Tryz.prog 99 #[.slice (some a) n c] w fun e w'=>∃g c',e= .returned (.slice (some ⟨g,0,none⟩) n c')∧w.heap.size≤g∧RowAt w' 5 g c' (bs l)∧Below w.heap.size w w':=by
 obtain⟨i0,hi,hz0,hz1,hz2⟩:=info_parts infoU8
 have q22:∀(w:World) (a:Option Addr) (n c n' c':Nat),(binOp .eql 44 (.slice a n c) (.slice none n' c')).run Tryz.prog w= .ok (.bool a.isNone) w:=fun w a n c n' c'=>Lib.run_eql_slice_nil w _ _ a n c n' c' Tryz.underlying44
 go_enter Tryz.func99,Tryz.ntmps99
 go_wp2_with (at_builtin;refine wpList_append_own _ rfl _ _ 44 rfl w.heap.size 5 i0 (.int .u8 0) 1 1 Tryz.underlying44 hi hz0 hz1 hz2 rfl (by decide) _ _ _ rfl (World.ownsRow_made w #[] 0 (Nat.le_refl _) (Nat.zero_le _) rfl) a n c (bs l) rfl ?qc1 ?qc2 ?qc3 ?qc4 ?qc5 ?qc6 ?_)
 case qc1=>simp;omega
 case qc2=>
  intro j u hj
  have hjn:j<n:=by
   have:=(List.getElem?_eq_some_iff.1 hj).1
   simp at this
   omega
  refine Lib.cell?_alloc_some _ ?_
  rw [hc j hjn]
  have e:(bs l)[j]? =some (Value.int .u8 (l.getD j 0)):=by simp [bs,List.getD,List.getElem?_eq_getElem (show j<l.length by omega)]
  rw [e] at hj
  exact hj
 case qc3=>intro u hu;obtain⟨x,_,rfl⟩:=List.mem_map.1 hu;rfl
 case qc4=>unfold maxLen;omega
 case qc5=>omega
 case qc6=>simp
 intro v' w1 hown hgrow hnil
 have hb:=((Below.refl _ w).alloc (Nat.le_refl _) _).grown hgrow (by simp) (by intro k hk;simp [Value.ownBlock] at hk;omega)
 have hv:v'≠ .slice none 0 0:=by first|exact hnil|(intro e;exact absurd (hnil.1 e).1 (by simp))
 have hown':w1.ownsRow w.heap.size 5 1 v' n (bs l):=by simpa using hown
 obtain⟨g,c',rfl,hg,hr,_⟩:=RowAt.of_owns hown' hv
 go_wp2
 go_ret
 exact⟨g,c',rfl,hg,hr,hb⟩
def DS.fresh (l:List Int):DS:={im:=l,puts:= [],fuse:= -1,life:=1,reads:=0,writes:=0,flushes:=0,refused:=0}
theorem fresh_at {w0 w1:World} {g c s:Nat} {l:List Int} (hb:Below w0.heap.size w0 w1) (hg:w0.heap.size≤g) (hr:RowAt w1 5 g c (bs l)) (hl:l.length=s*512) (h1:1≤s) (h2:s≤2048):
  let w':=(w1.alloc (.map #[] 0)).alloc (.cells (dkCells (.slice (some ⟨g,0,none⟩) (s*512) c) (.map (some w1.heap.size)) (-1) 1 0 0 0 0) 128)
  DiskAt w' (fun k=>w0.heap.size≤k∧k<w'.heap.size) (w1.heap.size+1) s (DS.fresh l)∧Below w0.heap.size w0 w':=by
 intro w'
 have hgl:=hr.lt
 have hz:=hb.size
 have hsz:w'.heap.size=w1.heap.size+2:=by simp [w']
 have e0:∀k,k<w1.heap.size→w'.heap[k]? =w1.heap[k]? :=fun k hk=>by
  rw [Below.heap_alloc _ _ _ (by simp;omega),Below.heap_alloc _ _ _ hk]
 have e1:w'.heap[w1.heap.size]? =some (.map #[] 0):=by
  rw [Below.heap_alloc _ _ _ (by simp)];exact heap_alloc_new _ _
 have e2:w'.heap[w1.heap.size+1]? =some (.cells (dkCells (.slice (some ⟨g,0,none⟩) (s*512) c) (.map (some w1.heap.size)) (-1) 1 0 0 0 0) 128 (0,0)):=by
  have:=heap_alloc_new (w1.alloc (.map #[] 0)) (.cells (dkCells (.slice (some ⟨g,0,none⟩) (s*512) c) (.map (some w1.heap.size)) (-1) 1 0 0 0 0) 128)
  have hs1:(w1.alloc (.map #[] 0)).heap.size=w1.heap.size+1:=by simp
  rw [hs1] at this
  exact this
 refine⟨⟨g,c,w1.heap.size, .map [],fun _=>0,fun _=>0,⟨by omega,by omega⟩,⟨by omega,by omega⟩,⟨by omega,by omega⟩,fun k hk=>hk.2,e2,hr.agree (e0 g hgl),?_,PendAt.empty _ _ _ _ _,⟨hl,h1,h2,by simp [DS.fresh],by simp [DS.fresh]⟩⟩,?_⟩
 ·have:=World.ownsMap_made w1 Tryz.prog 3 Rs
  exact ownsMap_agree this (by rw [e1];exact(heap_alloc_new _ _).symm)
 ·exact(hb.alloc (by omega) _).alloc (by simp;omega) _
end Go.Proofs.YtkiehemoiapkkaaGreat
end
section
namespace Go.Proofs.YtkiehemoiapkkaaGreat
open Go.RowKit Go.Maps
set_option maxHeartbeats 1000000 in
theorem new_ok (s:Nat) (w:World) (h1:1≤s) (h2:s≤2048):
  Calls Tryz.prog 17 #[.int .i64 s] w fun e w'=>∃p,e= .returned (.tuple #[.pointer (some ⟨p,0,none⟩), .int .i64 0])∧
   DiskAt w' (fun k=>w.heap.size≤k∧k<w'.heap.size) p s (DS.fresh (List.replicate (s*512) 0))∧Below w.heap.size w w':=by
 obtain⟨i0,hi,hz0,hz1,hz2⟩:=info_parts infoU8
 have h1':¬(s:Int)<1:=by omega
 have h2':¬(2048:Int)<(s:Int):=by omega
 go_enter Tryz.func17,Tryz.ntmps17
 go_wp2_with (at_make;refine wpList_make_full _ rfl _ _ 44 rfl w.heap.size 5 i0 (.int .u8 0) 1 Tryz.underlying44 hi hz0 hz1 _ _ _ _ (s*512) rfl rfl ?c1 ?c2 ?c3 ?c4 ?c5 ?_)
 case c3=>omega
 case c4=>unfold maxLen;omega
 intro w1 hown hgrow
 have hb:=(Below.refl _ w).grown hgrow (Nat.le_refl _) (by intro k hk;cases hk)
 go_wp2_with (go_at_call 43;refine(over_low _ _ _ _).mono ?_;rintro e w' ⟨rfl,rfl⟩)
 go_ret2
 exact⟨_,rfl,(fresh_at hb (Nat.le_refl _) (made_row hown) (by simp) h1 h2)⟩
end Go.Proofs.YtkiehemoiapkkaaGreat
end
section
namespace Go.Proofs.YtkiehemoiapkkaaGreat
open Go.RowKit Go.Maps
end Go.Proofs.YtkiehemoiapkkaaGreat
end
section
namespace Go.Proofs.YtkiehemoiapkkaaGreat
open Go.RowKit Go.Maps
def metIn (left:Lit→Bool) (puts:List (Nat×List Int)):Nat:=(puts.filter (fun q=> !left (kk q.1))).length
theorem same_kk (a b:Nat):(kk a).sameKey (kk b)=(a == b):=by
 by_cases h:a=b
 ·subst h
  simp [WideAt.sameKey_self (show WideAt.IsKeyLit (kk a) from trivial)]
 ·rw [Maps.sameKey_ne (by intro e;simp [kk] at e;omega)]
  simp [h]
theorem metIn_step (left:Lit→Bool) (k:Nat) (hk:left (kk k)=true):∀puts:List (Nat×List Int),metIn (fun z=>left z && !z.sameKey (kk k)) puts=metIn left puts+(pendOf puts k).length
 | []=>by simp [metIn,pendOf]
 |q :: r=>by
  have ih:=metIn_step left k hk r
  unfold metIn pendOf at*
  by_cases h:q.1=k
  ·simp [h,hk,same_kk] at*
   omega
  ·by_cases hl:left (kk q.1)=true
   ·simp [h,hl,same_kk] at*
    omega
   ·simp [h,hl,same_kk] at*
    omega
theorem metIn_start {D:DataW Value} {puts:List (Nat×List Int)} (h:∀q∈puts,has D (kk q.1)=true):metIn (has D) puts=0:=by
 unfold metIn
 rw [List.length_eq_zero_iff,List.filter_eq_nil_iff]
 intro q hq
 simp [h q hq]
theorem metIn_end {left:Lit→Bool} {puts:List (Nat×List Int)} (h:∀kl,left kl=false):metIn left puts=puts.length:=by
 unfold metIn
 rw [List.filter_eq_self.2 (fun q _=>by simp [h])]
theorem metIn_le (left:Lit→Bool) (puts:List (Nat×List Int)):metIn left puts≤puts.length:=List.length_filter_le _ _
theorem pend_mem {puts:List (Nat×List Int)} {q:Nat×List Int} (h:q∈puts):pendOf puts q.1≠ []:=by
 unfold pendOf
 intro e
 rw [List.map_eq_nil_iff,List.filter_eq_nil_iff] at e
 exact e q h (by simp)
theorem PendAt.has {w:World} {F:Nat→Prop} {gi:Nat} {D:DataW Value} {gr cr:Nat→Nat} {pend:Nat→List (List Int)} (h:PendAt w F gi D gr cr pend) {k:Nat} (hk:pend k≠ []):Maps.has D (kk k)=true:=
 Maps.has_true_of_atKey (h.look k hk)
abbrev mkS (c:Option Addr×Nat×Nat):Value:= .slice c.1 c.2.1 c.2.2
theorem Rs_inv (v:Value) (y:DataW Value×List MemPlace) (h:Rs v=some y):∃c,v=mkS c:=by
 unfold Rs at h
 split at h
 ·exact⟨(_,_,_),rfl⟩
 ·cases h
theorem Rs_mk (c:Option Addr×Nat×Nat):Rs (mkS c)=some (.held (mkS c), []):=rfl
theorem PendAt.met {w:World} {F:Nat→Prop} {gi:Nat} {D:DataW Value} {gr cr:Nat→Nat} {pend:Nat→List (List Int)} (h:PendAt w F gi D gr cr pend) {x:Int} {c:Option Addr×Nat×Nat} {kl:Lit} {y:DataW Value×List MemPlace}
    (hkey:keyOf Tryz.prog 3 (.int .i64 x)=some kl) (hv:Rs (mkS c)=some y) (hat:∀zd,D.atKey kl zd=y.1):
  ∃k:Nat,x=(k:Int)∧kl=kk k∧pend k≠ []∧c=(some ⟨gr k,0,none⟩,(pend k).length,cr k):=by
 obtain⟨k,rfl,hp⟩:=h.keys kl (Maps.has_true_of_atKey hat)
 obtain⟨x',ex,ek,_⟩:=Maps.keyOf_int_inv Tryz.underlying3 hkey
 have hx:x=(k:Int):=by cases ex;simpa [kk] using ek.symm
 rw [Rs_mk] at hv
 cases hv
 have h1:=hat .nil
 rw [h.look k hp] at h1
 obtain⟨a,n,cc⟩:=c
 simp [mkS] at h1
 exact⟨k,hx,rfl,hp,by simp [h1]⟩
theorem set5 {w:World} {b:Nat} {t:TypeId} {a0 a1 a2 a3 a4:Value} (v0 v1 v2 v3 v4:Value) (h:w.heap[b]? =some (.cells #[a0,a1,a2,a3,a4] t (0,0))):
    (((((w.setCell ⟨b,0,none⟩ v0).setCell ⟨b,1,none⟩ v1).setCell ⟨b,2,none⟩ v2).setCell ⟨b,3,none⟩ v3).setCell ⟨b,4,none⟩ v4).heap[b]? =some (.cells #[v0,v1,v2,v3,v4] t (0,0)):=by
 simpa using (heap_setCell_same _ b 4 _ t v4 (heap_setCell_same _ b 3 _ t v3 (heap_setCell_same _ b 2 _ t v2 (heap_setCell_same _ b 1 _ t v1 (heap_setCell_same w b 0 _ t v0 h)))))
abbrev cnCells (r wr fl rf pe:Int):Array Value:= #[.int .i64 r, .int .i64 wr, .int .i64 fl, .int .i64 rf, .int .i64 pe]
set_option maxHeartbeats 2000000 in
theorem counts_any (p s:Nat) (F:Nat→Prop) (S:DS) (w:World) (h:DiskAt w F p s S) (hbig:S.puts.length≤140737488355328):
  Calls Tryz.prog 57 #[.pointer (some ⟨p,0,none⟩)] w fun e w'=>e= .returned (.agg (cnCells S.reads S.writes S.flushes S.refused S.puts.length))∧Below w.heap.size w w':=by
 obtain⟨gi,ci,m,D,gr,cr,h1,h2,h3,h4,h5,h6,h7,h8,h9⟩:=h
 have c1:=cell_of_block h5 (j:=1) rfl
 have c4:=cell_of_block h5 (j:=4) rfl
 have c5:=cell_of_block h5 (j:=5) rfl
 have c6:=cell_of_block h5 (j:=6) rfl
 have c7:=cell_of_block h5 (j:=7) rfl
 have c8:=cell_of_block h5 (j:=8) rfl
 have hpl:=h4 p h1
 have hml:=h4 m h3
 go_enter Tryz.func57,Tryz.ntmps57
 go_wp2_with (at_range;refine wpList_range_own _ rfl _ 126 rfl 3 70 keyInt Tryz.underlying126 Rs m S.puts.length D rfl ((h7.alloc _).alloc _) ?_;intro w0 hrg0 hg0 hs0;go_frame)
 have e2:((w.alloc (Obj.cells (cnCells 0 0 0 0 0) 101)).alloc (Obj.cells (cnCells S.reads S.writes S.flushes S.refused 0) 101)).heap.size=w.heap.size+2:=by simp
 rw [e2] at hrg0 hs0⊢
 have hB0:=(hg0.block w.heap.size (by rw [e2];omega) (by simp)).trans ((Below.heap_alloc _ _ _ (by simp)).trans (heap_alloc_new w (Obj.cells (cnCells 0 0 0 0 0) 101)))
 have hB1:w0.heap[w.heap.size+1]? =some (Obj.cells (cnCells S.reads S.writes S.flushes S.refused 0) 101 (0,0)):=by
  refine(hg0.block (w.heap.size+1) (by rw [e2];omega) (by simp)).trans ?_
  have:=heap_alloc_new (w.alloc (Obj.cells (cnCells 0 0 0 0 0) 101)) (Obj.cells (cnCells S.reads S.writes S.flushes S.refused 0) 101)
  have e1:(w.alloc (Obj.cells (cnCells 0 0 0 0 0) 101)).heap.size=w.heap.size+1:=by simp
  rw [e1] at this
  exact this
 have hbl:=(((Below.refl _ w).alloc (Nat.le_refl _) _).alloc (by simp) _).grown hg0 (by rw [e2];omega) (fun j hj=>by cases hj)
 go_loopw [5] (fun _ wr=>∃(left:Lit→Bool) (cnt:Nat),wr.ranges Tryz.prog 3 Rs m (w.heap.size+2) S.puts.length D left cnt∧
   wr.heap[w.heap.size]? =some (Obj.cells (cnCells 0 0 0 0 0) 101 (0,0))∧
   wr.heap[w.heap.size+1]? =some (Obj.cells (cnCells S.reads S.writes S.flushes S.refused (metIn left S.puts:Nat)) 101 (0,0))∧Below w.heap.size w wr)
    (fun _ wr=>wr.rangeLeft m (w.heap.size+2))
 case atStart=>exact⟨_,_,hrg0,hB0,by rw [(metIn_start (fun q hq=>h8.has (pend_mem hq)))];exact hB1,hbl⟩
 case round=>
  obtain⟨left,cnt,hrg,hB0,hB1,hb⟩:=hrel
  go_wp2_with (at_next;refine wpList_next_ranges _ rfl _ rfl 3 keyInt Rs (Value.int .i64) mkS (fun key kl hkey=>by obtain⟨x,rfl,_⟩:=Maps.keyOf_int_inv Tryz.underlying3 hkey;exact⟨x,rfl⟩) Rs_inv m (w.heap.size+2) S.puts.length _ _ _ rfl hrg ?_ ?_)
  ·intro _ hl0
   rw [metIn_end hl0] at hB1
   have k0:=cell_of_block hB1 (j:=0) rfl
   have k1:=cell_of_block hB1 (j:=1) rfl
   have k2:=cell_of_block hB1 (j:=2) rfl
   have k3:=cell_of_block hB1 (j:=3) rfl
   have k4:=cell_of_block hB1 (j:=4) rfl
   have r0:=cell_of_block hB0 (j:=0) rfl
   have r1:=cell_of_block hB0 (j:=1) rfl
   have r2:=cell_of_block hB0 (j:=2) rfl
   have r3:=cell_of_block hB0 (j:=3) rfl
   have r4:=cell_of_block hB0 (j:=4) rfl
   have g0:=frozen_of_block hB0 0
   have g1:=frozen_of_block hB0 1
   have g2:=frozen_of_block hB0 2
   have g3:=frozen_of_block hB0 3
   have g4:=frozen_of_block hB0 4
   go_wp2
   have h5:=set5 (.int .i64 S.reads) (.int .i64 S.writes) (.int .i64 S.flushes) (.int .i64 S.refused) (.int .i64 S.puts.length) hB0
   refine bodyPost_ret (v:= .agg (cnCells S.reads S.writes S.flushes S.refused S.puts.length)) (by simp [results,Tryz.results57,go_sem,cnCells,(cell_of_block h5 (j:=0) rfl),(cell_of_block h5 (j:=1) rfl),(cell_of_block h5 (j:=2) rfl),(cell_of_block h5 (j:=3) rfl),(cell_of_block h5 (j:=4) rfl)]) rfl ⟨rfl,?_⟩
   exact((((hb.setCell (Nat.le_refl _) _).setCell (Nat.le_refl _) _).setCell (Nat.le_refl _) _).setCell (Nat.le_refl _) _).setCell (Nat.le_refl _) _
  ·intro x ca cn cc kl yd yp w2 cnt2 hkey hlk hv hat hrg2 hlt hg2 hs2 hen
   obtain⟨k,rfl,rfl,hp,hc⟩:=h8.met hkey hv hat
   obtain⟨rfl,rfl,rfl⟩:ca=_∧cn=_∧cc=_:=by simpa using hc
   have hst:=(metIn_step left k hlk S.puts)
   have hpl2:metIn left S.puts+(pendOf S.puts k).length≤S.puts.length:=by have:=metIn_le (fun z=>left z && !z.sameKey (kk k)) S.puts;rw [hst] at this;exact this
   have hB0':=(hg2.block w.heap.size (by have:=(Array.getElem?_eq_some_iff.1 hB0).1;omega) (by simp)).trans hB0
   have hB1':=(hg2.block (w.heap.size+1) (by have:=(Array.getElem?_eq_some_iff.1 hB1).1;omega) (by simp)).trans hB1
   have hb':=hb.grown hg2 hb.size (fun j hj=>by cases hj;omega)
   have k4:=cell_of_block hB1' (j:=4) rfl
   have g4:=frozen_of_block hB1' 4
   go_wp2
   go_roundw
   case rel=>
    refine⟨_,cnt2,hrg2.kept (grown_setCell _ _ _) (fun e=>by have:=Option.some.inj e;simp only at this;omega) (fun e=>by have:=Option.some.inj e;simp only at this;omega),?_,?_,hb'.setCell (Nat.le_succ _) _⟩
    ·rw [Below.heap_setCell _ _ _ _ (by simp)];exact hB0'
    ·rw [hst,heap_setCell_same _ _ _ _ _ _ hB1']
     simp [cnCells]
   case measure=>
    rw [(hrg2.kept (grown_setCell _ _ _) (fun e=>by have:=Option.some.inj e;simp only at this;omega) (fun e=>by have:=Option.some.inj e;simp only at this;omega)).left_eq,hrg.left_eq]
    exact hlt
end Go.Proofs.YtkiehemoiapkkaaGreat
end
section
namespace Go.Proofs.YtkiehemoiapkkaaGreat
open Go.RowKit Go.Maps
theorem DiskAt.cells {w:World} {F:Nat→Prop} {p s:Nat} {S:DS} (h:DiskAt w F p s S):w.cell? ⟨p,2,none⟩=some (.int .i64 S.fuse)∧w.cell? ⟨p,3,none⟩=some (.int .i64 S.life)∧(∀j,w.frozen? ⟨p,j,none⟩=false)∧
  ∃gi ci,w.cell? ⟨p,0,none⟩=some (.slice (some ⟨gi,0,none⟩) (s*512) ci):=by
 obtain⟨gi,ci,m,D,gr,cr,h1,h2,h3,h4,h5,h6,h7,h8,h9⟩:=h
 exact⟨cell_of_block h5 (j:=2) rfl,cell_of_block h5 (j:=3) rfl,frozen_of_block h5,gi,ci,cell_of_block h5 (j:=0) rfl⟩
theorem sectors_at {w:World} {F:Nat→Prop} {p s:Nat} {S:DS} (h:DiskAt w F p s S):
  Calls Tryz.prog 46 #[.pointer (some ⟨p,0,none⟩)] w fun e w'=>e= .returned (.int .i64 s)∧w'=w:=by
 obtain⟨_,_,_,gi,ci,c0⟩:=h.cells
 have:=h.ok.hi
 have e:s*512 / 512=s:=by omega
 have hc:=sectors_low p _ (s*512) ci w (by omega) c0
 rw [e] at hc
 exact hc
theorem burnt_at {w:World} {F:Nat→Prop} {p s:Nat} {S:DS} (h:DiskAt w F p s S):
  Calls Tryz.prog 44 #[.pointer (some ⟨p,0,none⟩)] w fun e w'=>e= .returned (.bool (S.fuse == 0))∧w'=w:=burnt_low p _ w h.cells.1
theorem life_at {w:World} {F:Nat→Prop} {p s:Nat} {S:DS} (h:DiskAt w F p s S):
  Calls Tryz.prog 142 #[.pointer (some ⟨p,0,none⟩)] w fun e w'=>e= .returned (.int .i64 S.life)∧w'=w:=life_low p _ w h.cells.2.1
end Go.Proofs.YtkiehemoiapkkaaGreat
end
section
namespace Go.Proofs.YtkiehemoiapkkaaGreat
open Go.RowKit Go.Maps
end Go.Proofs.YtkiehemoiapkkaaGreat
end
