import Derived.Test.YtkiehemoiapkkaaGreatW01
import Derived.Test.YtkiehemoiapkkaaGreatW02
import Derived.Test.YtkiehemoiapkkaaGreatW03
import Derived.Shelf.Lays
import Derived.Test.YtkiehemoiapkkaaGreatProg
import Derived.Shelf.Sort.AssemblyIn
import Derived.Sort.EveryDepth
import Derived.Sort.OwnSortedInts
import Derived.RegionTactic
import Derived.OwnWalk
import Derived.ArgAppend
section
namespace Go.Proofs
open Go.Shelf
def Tryz.lays189_ren:Go.Shelf.Ren:=⟨fun|189=>152|125=>180|257=>179|128=>203|129=>204|294=>194|295=>195|296=>196|297=>197|298=>198|299=>199|216=>200|300=>201|301=>202|328=>208|329=>209|330=>210|331=>211|332=>212|215=>213|343=>214|n=>n,fun|28=>26|3=>3|46=>160|0=>0|51=>184|53=>228|4=>4|183=>236|182=>235|131=>241|5=>5|9=>9|218=>249|222=>253|228=>255|229=>118|n=>n,fun|n=>n⟩
theorem Tryz.lays189:Go.Proofs.Lays.n189 Tryz.prog Tryz.lays189_ren:={
 mixed:=by kernel_rfl
 f125:=Tryz.func180.trans (congrArg some (by kernel_rfl))
 f128:=Tryz.func203.trans (congrArg some (by kernel_rfl))
 f129:=Tryz.func204.trans (congrArg some (by kernel_rfl))
 f189:=Tryz.func152.trans (congrArg some (by kernel_rfl))
 f215:=Tryz.func213.trans (congrArg some (by kernel_rfl))
 f216:=Tryz.func200.trans (congrArg some (by kernel_rfl))
 f257:=Tryz.func179.trans (congrArg some (by kernel_rfl))
 f294:=Tryz.func194.trans (congrArg some (by kernel_rfl))
 f295:=Tryz.func195.trans (congrArg some (by kernel_rfl))
 f296:=Tryz.func196.trans (congrArg some (by kernel_rfl))
 f297:=Tryz.func197.trans (congrArg some (by kernel_rfl))
 f298:=Tryz.func198.trans (congrArg some (by kernel_rfl))
 f299:=Tryz.func199.trans (congrArg some (by kernel_rfl))
 f300:=Tryz.func201.trans (congrArg some (by kernel_rfl))
 f301:=Tryz.func202.trans (congrArg some (by kernel_rfl))
 f328:=Tryz.func208.trans (congrArg some (by kernel_rfl))
 f329:=Tryz.func209.trans (congrArg some (by kernel_rfl))
 f330:=Tryz.func210.trans (congrArg some (by kernel_rfl))
 f331:=Tryz.func211.trans (congrArg some (by kernel_rfl))
 f332:=Tryz.func212.trans (congrArg some (by kernel_rfl))
 f343:=Tryz.func214.trans (congrArg some (by kernel_rfl))
 t0:=Tryz.underlying0
 a0:=Tryz.isAgg0
 z0:=Tryz.sizeOf0
 v0:=Tryz.zeroValue0
 t3:=Tryz.underlying3
 a3:=Tryz.isAgg3
 z3:=Tryz.sizeOf3
 v3:=Tryz.zeroValue3
 t4:=Tryz.underlying4
 a4:=Tryz.isAgg4
 z4:=Tryz.sizeOf4
 v4:=Tryz.zeroValue4
 t5:=Tryz.underlying5
 a5:=Tryz.isAgg5
 z5:=Tryz.sizeOf5
 v5:=Tryz.zeroValue5
 t9:=Tryz.underlying9
 a9:=Tryz.isAgg9
 z9:=Tryz.sizeOf9
 v9:=Tryz.zeroValue9
 t28:=Tryz.underlying26
 a28:=Tryz.isAgg26
 z28:=Tryz.sizeOf26
 v28:=Tryz.zeroValue26
 t46:=Tryz.underlying160
 a46:=Tryz.isAgg160
 z46:=Tryz.sizeOf160
 v46:=Tryz.zeroValue160
 t51:=Tryz.underlying184
 a51:=Tryz.isAgg184
 z51:=Tryz.sizeOf184
 v51:=Tryz.zeroValue184
 t53:=Tryz.underlying228
 a53:=Tryz.isAgg228
 z53:=Tryz.sizeOf228
 v53:=Tryz.zeroValue228
 t131:=Tryz.underlying241
 a131:=Tryz.isAgg241
 z131:=Tryz.sizeOf241
 v131:=Tryz.zeroValue241
 t182:=Tryz.underlying235
 a182:=Tryz.isAgg235
 z182:=Tryz.sizeOf235
 v182:=Tryz.zeroValue235
 t183:=Tryz.underlying236
 a183:=Tryz.isAgg236
 z183:=Tryz.sizeOf236
 v183:=Tryz.zeroValue236
 t218:=Tryz.underlying249
 a218:=Tryz.isAgg249
 z218:=Tryz.sizeOf249
 v218:=Tryz.zeroValue249
 t222:=Tryz.underlying253
 a222:=Tryz.isAgg253
 z222:=Tryz.sizeOf253
 v222:=Tryz.zeroValue253
 t228:=Tryz.underlying255
 a228:=Tryz.isAgg255
 z228:=Tryz.sizeOf255
 v228:=Tryz.zeroValue255
 t229:=Tryz.underlying118
 a229:=Tryz.isAgg118
 z229:=Tryz.sizeOf118
 v229:=Tryz.zeroValue118}
end Go.Proofs
end
section
namespace Go.Proofs.YtkiehemoiapkkaaGreat
open Go.RowKit Go.Maps Go.Shelf Go.Sort
theorem sorts:SortSaid:=by
 intro g cap zs w hr hsz
 have hle:=hr.le
 have hr0:=hr
 obtain⟨cur,hb,hc,ht,hm⟩:=hr0
 have hlz:(zs.map (Value.int .i64)).length=zs.length:=by simp
 rw [hlz] at hle ht
 have hH:=holds_of_blockI hb ht
 refine(calls_of_every_depth fun D=>AnyS.slices_Sort_int_in Tryz.lays189 D g 0 cap zs w hH hr.lt hsz).mono ?_
 rintro e w' ⟨rfl,n,os,rfl⟩
 have hl:(zs.mergeSort fun x y=>decide (x≤y)).length=zs.length:=List.length_mergeSort _
 have hg:=grownBy_sortedI (w:=w) (g:=g) (n:=n) (os:=os) (zs.mergeSort fun x y=>decide (x≤y)).toArray
 refine⟨rfl,⟨_,heap_sortedI _ hb,by simp [putCells,hc],?_,hm⟩,⟨hg.os,hg.tape,hg.output,hg.size,fun k hk hne=>hg.block k hk (by simpa using hne)⟩⟩
 rw [List.length_map]
 exact take_putCellsI cur _ (by omega)
theorem ins_nil (w:World):Calls Tryz.prog 194 #[.slice none 0 0, .int .i64 0, .int .i64 0] w fun e w'=>e= .returned (.tuple #[])∧w'=w:=by
 go_enter Tryz.func194,Tryz.ntmps194
 go_wp2
 refine wp_loop_rounds 1 ?_
 rw [rounds_succ]
 go_wp2
 go_end0
 exact⟨rfl,rfl⟩
theorem pdq_nil (n:Int) (w:World):Calls Tryz.prog 179 #[.slice none 0 0, .int .i64 0, .int .i64 0, .int .i64 n] w fun e w'=>e= .returned (.tuple #[])∧w'=w:=by
 go_enter Tryz.func179,Tryz.ntmps179
 go_wp2
 refine wp_loop_rounds 1 ?_
 rw [rounds_succ]
 go_wp2_with (go_at_call 194;refine(ins_nil _).mono ?_;rintro e w' ⟨rfl,rfl⟩)
 exact bodyPost_ret (results_none rfl _ _ _) rfl ⟨rfl,rfl⟩
theorem sortn:SortNil:=by
 intro w
 go_enter Tryz.func152,Tryz.ntmps152
 go_wp2_with (first|(go_at_call 179;refine(pdq_nil _ _).mono ?_;rintro e w' ⟨rfl,rfl⟩)|go_in)
 go_end0
 exact⟨rfl,RowKit.Below.refl _ _⟩
end Go.Proofs.YtkiehemoiapkkaaGreat
end
section
namespace Go.Proofs.YtkiehemoiapkkaaGreat
open Go.RowKit Go.Maps
def DS.wr (S:DS) (s:Nat) (x:Int) (n:Nat) (l:List Int):Int×DS:=
 if S.fuse=0 then (3,S) else if x<0∨(s:Int)≤x then (11,S.refuse) else if n≠512 then (2,S.refuse) else (0,(S.put x.toNat l).wrote.spend)
def DS.rd (S:DS) (s:Nat) (x:Int):Int×DS×List Int:=
 if S.fuse=0 then (3,S, []) else if x<0∨(s:Int)≤x then (11,S.refuse, []) else (0,S.read,S.now x.toNat)
def DS.fl (S:DS) (s:Nat):Int×DS:=if S.fuse=0 then (3,S) else (0,(S.flush s).spend)
theorem DiskAt.more {w w':World} {F:Nat→Prop} {p s:Nat} {S:DS} (h:DiskAt w' F p s S):DiskAt w' (more F w w') p s S:=
 h.mono (fun _ hk=> .inl hk) (fun k hk=>by rcases hk with hk|hk;exact h.lt k hk;exact hk.2)
theorem write_all {w:World} {F:Nat→Prop} {p s:Nat} {S:DS} (h:DiskAt w F p s S) (x:Int) (a:Option Addr) (n c:Nat) (l:List Int) (hs:Src w a n l) (hbig:S.puts.length+1≤4000000000000):
  Calls Tryz.prog 49 #[.pointer (some ⟨p,0,none⟩), .int .i64 x, .slice a n c] w fun e w'=>e= .returned (.int .i64 (S.wr s x n l).1)∧DiskAt w' (more F w w') p s (S.wr s x n l).2∧Keeps F w w':=by
 by_cases hf:S.fuse=0
 ·simp only [DS.wr,hf,if_true]
  refine(write_dead h x a n c hf).mono ?_
  rintro e w' ⟨rfl,rfl⟩
  exact⟨rfl,h.more,Keeps.refl _ _⟩
 ·by_cases hx:x<0∨(s:Int)≤x
  ·simp only [DS.wr,hf,if_false,hx,if_true]
   refine(write_range h x a n c hf hx).mono ?_
   rintro e w' ⟨rfl,h1,h2⟩
   exact⟨rfl,h1.more,h2⟩
  ·obtain⟨k,rfl⟩:∃k:Nat,x=(k:Int):=⟨x.toNat,by omega⟩
   have hk:k<s:=by omega
   by_cases hn:n=512
   ·subst hn
    simp only [DS.wr,hf,if_false,hx,ne_eq,not_true_eq_false,Int.toNat_natCast]
    obtain⟨y,rfl⟩:∃y,a=some y:=by
     cases a with
     |none=>have:=hs.2.1 rfl;omega
     |some y=>exact⟨y,rfl⟩
    exact write_ok h k hk hf (by omega) y c l hs
   ·simp only [DS.wr,hf,if_false,hx,ne_eq,hn,not_false_eq_true,if_true]
    refine(write_length h k a n c hf hk hn).mono ?_
    rintro e w' ⟨rfl,h1,h2⟩
    exact⟨rfl,h1.more,h2⟩
def Out (lo:Nat) (w:World) (l:List Int) (v:Value):Prop:=∃a c,v= .slice a l.length c∧Src w a l.length l∧∀x,a=some x→lo≤x.block
theorem Out.nil (lo:Nat) (w:World):Out lo w [] (.slice none 0 0):=⟨none,0,rfl,⟨rfl,fun _=>rfl,fun x hx=>by cases hx⟩,fun x hx=>by cases hx⟩
theorem Out.row {lo:Nat} {w:World} {g c:Nat} {l:List Int} (h:RowAt w 5 g c (bs l)) (hg:lo≤g):Out lo w l (.slice (some ⟨g,0,none⟩) l.length c):=⟨_,c,rfl,h.src,fun x hx=>by cases hx;exact hg⟩
theorem read_all {w:World} {F:Nat→Prop} {p s:Nat} {S:DS} (h:DiskAt w F p s S) (x:Int) (hbig:S.puts.length+1≤4000000000000):
  Calls Tryz.prog 102 #[.pointer (some ⟨p,0,none⟩), .int .i64 x] w fun e w'=>∃v,e= .returned (.tuple #[v, .int .i64 (S.rd s x).1])∧Out w.heap.size w' (S.rd s x).2.2 v∧DiskAt w' F p s (S.rd s x).2.1∧Keeps F w w':=by
 by_cases hf:S.fuse=0
 ·simp only [DS.rd,hf,if_true]
  refine(read_dead h x hf).mono ?_
  rintro e w' ⟨rfl,rfl⟩
  exact⟨_,rfl,Out.nil _ _,h,Keeps.refl _ _⟩
 ·by_cases hx:x<0∨(s:Int)≤x
  ·simp only [DS.rd,hf,if_false,hx,if_true]
   refine(read_range h x hf hx).mono ?_
   rintro e w' ⟨rfl,h1,h2⟩
   exact⟨_,rfl,Out.nil _ _,h1,h2⟩
  ·obtain⟨k,rfl⟩:∃k:Nat,x=(k:Int):=⟨x.toNat,by omega⟩
   have hk:k<s:=by omega
   simp only [DS.rd,hf,if_false,hx,Int.toNat_natCast]
   refine(read_ok h k hf hk (by omega)).mono ?_
   rintro e w' ⟨g,c,rfl,hg,hr,h1,h2⟩
   have:=Out.row hr hg
   rw [now_len h.ok k hk] at this
   exact⟨_,rfl,this,h1,h2⟩
theorem flush_all {w:World} {F:Nat→Prop} {p s:Nat} {S:DS} (h:DiskAt w F p s S) (hbig:S.puts.length+1≤4000000000000):
  Calls Tryz.prog 50 #[.pointer (some ⟨p,0,none⟩)] w fun e w'=>e= .returned (.int .i64 (S.fl s).1)∧DiskAt w' F p s (S.fl s).2∧Keeps F w w':=by
 by_cases hf:S.fuse=0
 ·simp only [DS.fl,hf,if_true]
  refine(flush_dead h hf).mono ?_
  rintro e w' ⟨rfl,rfl⟩
  exact⟨rfl,h,Keeps.refl _ _⟩
 ·simp only [DS.fl,hf,if_false]
  exact flush_ok h hf (by omega)
theorem Src.far {w w':World} {B:Nat} {a:Option Addr} {n:Nat} {l:List Int} (h:Src w a n l) (hb:Below B w w') (ha:∀x,a=some x→0<n→x.block<B):Src w' a n l:=
   ⟨h.1,h.2.1,fun x hx i hi=>(World.cell?_of_block (w:=w) (by rw [blockOf_add];exact hb.block _ (ha x hx (by omega)))).trans (h.2.2 x hx i hi)⟩
theorem Out.keeps {lo:Nat} {w w':World} {l:List Int} {v:Value} {F:Nat→Prop} (h:Out lo w l v) (hk:Keeps F w w') (hF:∀k,F k→k<lo):Out lo w' l v:=by
 obtain⟨a,c,rfl,hs,hl⟩:=h
 refine⟨a,c,rfl,⟨hs.1,hs.2.1,fun x hx i hi=>?_⟩,hl⟩
 have h1:=hs.2.2 x hx i hi
 have hb:=World.block_lt_of_cell? _ _ h1
 rw [blockOf_add] at hb
 exact(World.cell?_of_block (w:=w) (by rw [blockOf_add];exact hk.block _ hb (fun hf=>by have:=hF _ hf;have:=hl x hx;omega))).trans h1
theorem wr_puts (S:DS) (s:Nat) (x:Int) (n:Nat) (l:List Int):(S.wr s x n l).2.puts.length≤S.puts.length+1:=by
 unfold DS.wr
 split
 ·simp
 ·split
  ·simp [DS.refuse]
  ·split
   ·simp [DS.refuse]
   ·simp [DS.put,DS.wrote,DS.spend]
theorem fl_puts (S:DS) (s:Nat):(S.fl s).2.puts.length≤S.puts.length+1:=by
 unfold DS.fl
 split
 ·simp
 ·simp [DS.flush,DS.spend]
theorem below_box (w:World) (o:Obj):Below w.heap.size w (w.alloc o):=(Below.refl _ _).alloc (Nat.le_refl _) _
end Go.Proofs.YtkiehemoiapkkaaGreat
end
section
namespace Go.Proofs.YtkiehemoiapkkaaGreat
open Go.RowKit
abbrev areaV (p:Nat) (f n:Int):Value:= .agg #[.pointer (some ⟨p,0,none⟩), .int .i64 f, .int .i64 n]
set_option maxRecDepth 20000 in
set_option maxHeartbeats 2000000 in
theorem aend_any (p:Nat) (f n:Int) (w:World) (hf:0≤f) (hf2:f≤100000) (hn:0≤n) (hn2:n≤100000):
  Calls Tryz.prog 130 #[areaV p f n] w fun e w'=>e= .returned (.int .i64 (f+2+n))∧Below w.heap.size w w':=by
 go_enter Tryz.func130,Tryz.ntmps130
 go_wp2
 go_ret
 exact⟨rfl,((Below.refl w.heap.size w).alloc (Nat.le_refl _) (.cells #[.pointer (some ⟨p,0,none⟩), .int .i64 f, .int .i64 n] 136))⟩
set_option maxRecDepth 20000 in
set_option maxHeartbeats 2000000 in
theorem aat_any (p:Nat) (f n x:Int) (w:World) (hf:0≤f) (hf2:f≤100000) (hn:1≤n) (hn2:n≤100000) (hx:0≤x):
  Calls Tryz.prog 166 #[areaV p f n, .int .i64 x] w fun e w'=>e= .returned (.int .i64 (f+2+x%n))∧Below w.heap.size w w':=by
 have h1:0≤x%n:=Int.emod_nonneg _ (by omega)
 have h2:x%n<n:=Int.emod_lt_of_pos _ (by omega)
 have h3:x.tmod n=x%n:=Int.tmod_eq_emod_of_nonneg hx
 generalize x%n=y at*
 go_enter Tryz.func166,Tryz.ntmps166
 go_wp2
 go_region
 go_wp2
 go_ret
 exact⟨rfl,below_drew ((Below.refl w.heap.size w).alloc (Nat.le_refl _) (.cells #[.pointer (some ⟨p,0,none⟩), .int .i64 f, .int .i64 n] 136))⟩
def lrefuse (S:DS) (s:Nat) (f n:Int):Int:=
 if S.fuse=0 then 3 else if f<0∨(s:Int)≤f then 11 else if n<18∨256<n then 1 else if (s:Int)<f+2+n then 11 else 0
theorem DiskAt.boxed {w:World} {F:Nat→Prop} {p s:Nat} {S:DS} (h:DiskAt w F p s S) (o:Obj):DiskAt (w.alloc o) F p s S:=
 h.keep (Keeps.of_below (fun _=>False) ((Below.refl w.heap.size w).alloc (Nat.le_refl _) o)) (fun _ _ h=>h)
set_option maxRecDepth 20000 in
set_option maxHeartbeats 4000000 in
theorem refusal_any {w:World} {F:Nat→Prop} {p s:Nat} {S:DS} (h:DiskAt w F p s S) (f n:Int) (hs:s≤2048):
  Calls Tryz.prog 94 #[areaV p f n] w fun e w'=>e= .returned (.int .i64 (lrefuse S s f n))∧Below w.heap.size w w':=by
 have hB:=(Below.refl w.heap.size w).alloc (Nat.le_refl _) (.cells #[.pointer (some ⟨p,0,none⟩), .int .i64 f, .int .i64 n] 136)
 have h1:=sectors_at (h.boxed (.cells #[.pointer (some ⟨p,0,none⟩), .int .i64 f, .int .i64 n] 136))
 have h2:=burnt_at (h.boxed (.cells #[.pointer (some ⟨p,0,none⟩), .int .i64 f, .int .i64 n] 136))
 have h3:=aend_any p f n (w.alloc (.cells #[.pointer (some ⟨p,0,none⟩), .int .i64 f, .int .i64 n] 136))
 unfold lrefuse
 go_enter Tryz.func94,Tryz.ntmps94
 by_cases c1:S.fuse=0
 ·rw [show (S.fuse == 0)=true by simp [c1]] at h2
  rw [if_pos c1]
  go_wp2_with (first|(go_at_call 46;refine h1.mono ?_;rintro e w' ⟨rfl,hw⟩;subst hw)|(go_at_call 44;refine h2.mono ?_;rintro e w' ⟨rfl,hw⟩;subst hw))
  go_ret
  exact⟨rfl,hB⟩
 ·rw [show (S.fuse == 0)=false by simp [c1]] at h2
  rw [if_neg c1]
  by_cases c2:f<0∨(s:Int)≤f
  ·rw [if_pos c2]
   by_cases c3:f<0
   ·clear c2
    go_wp2_with (first|(go_at_call 46;refine h1.mono ?_;rintro e w' ⟨rfl,hw⟩;subst hw)|(go_at_call 44;refine h2.mono ?_;rintro e w' ⟨rfl,hw⟩;subst hw))
    go_ret
    exact⟨rfl,hB⟩
   ·have c4:(s:Int)≤f:=by omega
    go_wp2_with (first|(go_at_call 46;refine h1.mono ?_;rintro e w' ⟨rfl,hw⟩;subst hw)|(go_at_call 44;refine h2.mono ?_;rintro e w' ⟨rfl,hw⟩;subst hw))
    go_ret
    exact⟨rfl,hB⟩
  ·rw [if_neg c2]
   have c3:¬f<0:=by omega
   have c4:¬(s:Int)≤f:=by omega
   by_cases c5:n<18∨256<n
   ·rw [if_pos c5]
    by_cases c6:n<18
    ·clear c5
     go_wp2_with (first|(go_at_call 46;refine h1.mono ?_;rintro e w' ⟨rfl,hw⟩;subst hw)|(go_at_call 44;refine h2.mono ?_;rintro e w' ⟨rfl,hw⟩;subst hw))
     go_ret
     exact⟨rfl,hB⟩
    ·have c7:256<n:=by omega
     go_wp2_with (first|(go_at_call 46;refine h1.mono ?_;rintro e w' ⟨rfl,hw⟩;subst hw)|(go_at_call 44;refine h2.mono ?_;rintro e w' ⟨rfl,hw⟩;subst hw))
     go_ret
     exact⟨rfl,hB⟩
   ·rw [if_neg c5]
    have c6:¬n<18:=by omega
    have c7:¬256<n:=by omega
    have h3:=h3 (by omega) (by omega) (by omega) (by omega)
    by_cases c8:(s:Int)<f+2+n
    ·rw [if_pos c8]
     go_wp2_with (first|(go_at_call 46;refine h1.mono ?_;rintro e w' ⟨rfl,hw⟩;subst hw)|(go_at_call 44;refine h2.mono ?_;rintro e w' ⟨rfl,hw⟩;subst hw))
     refine h3.mono ?_
     rintro e w2 ⟨rfl,hb⟩
     go_wp2
     go_ret
     exact⟨rfl,(hB.trans (hb.mono hB.size))⟩
    ·rw [if_neg c8]
     go_wp2_with (first|(go_at_call 46;refine h1.mono ?_;rintro e w' ⟨rfl,hw⟩;subst hw)|(go_at_call 44;refine h2.mono ?_;rintro e w' ⟨rfl,hw⟩;subst hw))
     refine h3.mono ?_
     rintro e w2 ⟨rfl,hb⟩
     go_wp2
     go_ret
     exact⟨rfl,(hB.trans (hb.mono hB.size))⟩
end Go.Proofs.YtkiehemoiapkkaaGreat
end
section
namespace Go.Proofs.YtkiehemoiapkkaaGreat
open Go.RowKit
theorem or_u64 (i A X:Nat) (hA:A<2 ^ i) (h:A+2 ^ i*X<18446744073709551616):
  bits .or .u64 (A:Int) ((2 ^ i*X:Nat):Int)=((A+2 ^ i*X:Nat):Int):=by
 have q:∀z:Nat,z<18446744073709551616→(BitVec.ofInt 64 (z:Int)).toNat=z:=by
  intro z hz
  rw [BitVec.toNat_ofInt]
  omega
 have h1:A<18446744073709551616:=by omega
 have h2:2 ^ i*X<18446744073709551616:=by omega
 show IntKind.u64.wrap ((BitVec.ofInt 64 (A:Int) |||BitVec.ofInt 64 ((2 ^ i*X:Nat):Int)).toNat:Int)=_
 rw [BitVec.toNat_or,q A h1,q _ h2,Nat.or_comm,←Nat.two_pow_add_eq_or_of_lt hA X,Nat.add_comm]
 generalize A+2 ^ i*X=Z at*
 simp only [IntKind.wrap,IntKind.bits,IntKind.signed]
 simp
 omega
theorem shl_pow (x:Int) (k:Nat) (hk:k<8):(x*2 ^ min ((8*(k:Int)).toNat) 64)=x*2 ^ (8*k):=by
 congr 2
 omega
theorem le_take_succ {l:List Int} {k:Nat} (hk:k<l.length):le (l.take (k+1))=le (l.take k)+2 ^ (8*k)*(l.getD k 0).toNat:=by
 rw [List.take_succ_eq_append_getElem hk,le_append]
 have:(l.take k).length=k:=by simp;omega
 rw [this]
 simp [le,List.getD,hk]
theorem le_small {l:List Int} (hb:Bytes l) (h:l.length≤8):le l<18446744073709551616:=by
 have:=le_lt hb
 exact Nat.lt_of_lt_of_le this (by have:=Nat.pow_le_pow_right (show 0<2 by omega) (show 8*l.length≤64 by omega);simpa using this)
set_option maxHeartbeats 4000000 in
theorem taken_any (b o n c:Nat) (l:List Int) (w:World) (hb:Bytes l) (hl:l.length=n) (hn:n≤8) (hs:∀i,i<n→w.cell? ⟨b,o+i,none⟩=some (.int .u8 (l.getD i 0))):
  Calls Tryz.prog 206 #[.slice (some ⟨b,o,none⟩) n c] w fun e w'=>e= .returned (.int .u64 ((le l:Nat):Int))∧w'=w:=by
 have Hs:=Hid.mk hs
 clear hs
 go_enter Tryz.func206,Tryz.ntmps206
 go_wp2
 go_loopw [3,8] (fun r i wr=>∃j:Nat,j≤n∧i= .int .i64 j∧wr=w∧r= .int .u64 ((le (l.take j):Nat):Int)) (fun _ i _=>n-(intOf i).toNat)
 case atStart=>exact⟨0,Nat.zero_le _,rfl,rfl,by simp [le]⟩
 case round=>
  obtain⟨j,hj,rfl,rfl,rfl⟩:=hrel
  by_cases hlt:j<n
  ·have hlt':(j:Int)<(n:Int):=by omega
   have hc:=Hs.out j hlt
   obtain⟨x,hx,hx1⟩:∃x:Nat,l.getD j 0=(x:Int)∧x<256:=by
    have:=hb.getD j
    exact⟨(l.getD j 0).toNat,by omega,by omega⟩
   have hsucc:=le_take_succ (l:=l) (k:=j) (by omega)
   have hA:le (l.take j)<2 ^ (8*j):=by
    have:=le_lt (hb.take j)
    have e:(l.take j).length=j:=by simp;omega
    rwa [e] at this
   have hB:le (l.take (j+1))<18446744073709551616:=le_small (hb.take _) (by simp;omega)
   rw [hx] at hc hsucc
   simp only [Int.toNat_natCast] at hsucc
   rw [hsucc] at hB
   have hor:=or_u64 (8*j) _ x hA hB
   rw [←hsucc] at hor
   have hsh2:((x:Int)*2 ^ (8*j))=((2 ^ (8*j)*x:Nat):Int):=by rw [Int.natCast_mul,Int.natCast_pow,Int.mul_comm];rfl
   have hlt2:((2 ^ (8*j)*x:Nat):Int)%18446744073709551616=((2 ^ (8*j)*x:Nat):Int):=by omega
   generalize 2 ^ (8*j)*x=Y at*
   generalize le (l.take j)=A at*
   clear hA hB hsucc
   go_wp2
   go_roundw
   case rel=>exact⟨j+1,by omega,by go_num,trivial,by rw [←(Hid.mk hor).out]⟩
   case measure=>simp [intOf];omega
  ·have hlt':¬(j:Int)<(n:Int):=by omega
   have ej:l.take j=l:=List.take_of_length_le (by omega)
   rw [ej] at*
   go_wp2
   go_ret
   exact⟨rfl,rfl⟩
set_option maxHeartbeats 4000000 in
theorem nextTurn_any (g o:Nat) (a b:Int) (w:World) (ha:w.cell? ⟨g,o,none⟩=some (.int .u8 a)) (hb:w.cell? ⟨g,o+511,none⟩=some (.int .u8 b)):
  Calls Tryz.prog 159 #[.pointer (some ⟨g,o,none⟩)] w fun e w'=>e= .returned (.int .u8 ((turnOf a b:Nat):Int))∧w'=w:=by
 have hle:=turnOf_le a b
 have hmin:∀k:Nat,k<turnOf a b→(k:Int)=a∨(k:Int)=b:=by
  intro k hk
  unfold turnOf at hk
  split at hk
  ·omega
  ·split at hk
   ·next h1 h2=>omega
   ·next h1 h2=>omega
 have hne:=turnOf_ne a b
 generalize turnOf a b=t at*
 go_enter Tryz.func159,Tryz.ntmps159
 go_wp2
 go_loopw [3] (fun i wr=>∃k:Nat,k≤t∧i= .int .u8 k∧wr=w) (fun i _=>t-(intOf i).toNat)
 case atStart=>exact⟨0,Nat.zero_le _,rfl,rfl⟩
 case round=>
  obtain⟨k,hk,rfl,rfl⟩:=hrel
  by_cases hlt:k<t
  ·by_cases h1:(k:Int)=a
   ·have q1:((k:Int) == a)=true:=by simpa using h1
    go_wp2
    go_roundw
    case rel=>exact⟨k+1,by omega,by go_num,trivial⟩
    case measure=>simp [intOf];omega
   ·have h2:=(hmin k hlt).resolve_left h1
    have q1:((k:Int) == a)=false:=by simpa using h1
    have q2:((k:Int) == b)=true:=by simpa using h2
    go_wp2
    go_roundw
    case rel=>exact⟨k+1,by omega,by go_num,trivial⟩
    case measure=>simp [intOf];omega
  ·obtain rfl:k=t:=by omega
   have q1:((k:Int) == a)=false:=by simpa using hne.1
   have q2:((k:Int) == b)=false:=by simpa using hne.2
   go_wp2
   go_ret
   exact⟨rfl,rfl⟩
set_option maxRecDepth 20000 in
set_option maxHeartbeats 4000000 in
theorem ssum_any (g:Nat) (T:TypeId) (l:List Int) (w:World) (hb:Blk w T g l) (hl:l.length=512) (hby:Bytes l):
  Calls Tryz.prog 185 #[.pointer (some ⟨g,0,none⟩)] w fun e w'=>e= .returned (.int .i64 ((sumOf (stextOf l):Nat):Int))∧Below w.heap.size w w':=by
 obtain⟨i0,hi,hz0,hz1,hz2⟩:=info_parts infoU8
 have s1:=hb.src (o:=1) (n:=2) (by omega)
 have s2:=hb.src (o:=7) (n:=504) (by omega)
 have b1:Bytes ((l.drop 1).take 2):=(hby.drop _).take _
 have b2:Bytes ((l.drop 7).take 504):=(hby.drop _).take _
 unfold stextOf
 generalize (l.drop 1).take 2=X at*
 generalize (l.drop 7).take 504=Y at*
 go_enter Tryz.func185,Tryz.ntmps185
 go_wp2_with fail
 refine(cut_any g 0 1 3 w (by omega) (by omega)).mono ?_
 rintro e w1 ⟨rfl,hw⟩
 have hw':=hw.symm
 subst hw'
 go_wp2_with fail
 refine(cut_any g 0 7 511 w (by omega) (by omega)).mono ?_
 rintro e w1 ⟨rfl,hw⟩
 have hw':=hw.symm
 subst hw'
 go_wp2_with (at_builtin;refine wpList_append_grows _ rfl _ _ 44 rfl 5 i0 (.int .u8 0) 1 1 Tryz.underlying44 hi hz0 hz1 hz2 rfl (by decide) (some ⟨g,1,none⟩) 2 2 (bs X) rfl ?m0 ?m1 ?m2 ⟨g,7,none⟩ 504 504 (bs Y) rfl ?m3 ?m4 ?m5 ?m6 ?m7 ?m8 ?_)
 case m0=>intro h;cases h
 case m1=>have:=s1.1;simpa [bs] using this
 case m2=>
  intro b hb j u hj
  cases hb
  obtain⟨hj1,rfl⟩:=bs_getElem hj
  have:=s1.1
  exact s1.2.2 _ rfl j (by omega)
 case m3=>have:=s2.1;simpa [bs] using this
 case m4=>
  intro j u hj
  obtain⟨hj1,rfl⟩:=bs_getElem hj
  have:=s2.1
  exact s2.2.2 _ rfl j (by omega)
 case m5=>exact bs_one _
 case m6=>omega
 case m7=>unfold maxLen;omega
 case m8=>omega
 intro v' w1 hown hgrow
 have hO:=own_of (l:=X ++ Y) (by rw [bs_append];exact hown) (by have:=s1.1;have:=s2.1;simp;omega) rfl
 obtain⟨a,c,rfl,hsrc,_,_⟩:=hO.src
 have hs:=sum_any a (X ++ Y).length c (X ++ Y) w1 (b1.append b2) (by have:=s1.1;have:=s2.1;simp;omega) hsrc
 have HB:=(Below.refl _ w).grown hgrow (Nat.le_refl _) (by intro k hk;cases hk)
 generalize (X ++ Y).length=N at*
 obtain⟨E,hE⟩:∃E,E=sumOf (X ++ Y):=⟨_,rfl⟩
 rw [←hE] at hs
 go_wp2_with fail
 refine hs.mono ?_
 rintro e w2 ⟨rfl,hb2⟩
 go_wp2
 go_ret
 exact⟨by rw [←hE];rfl,(HB.trans (hb2.mono HB.size))⟩
end Go.Proofs.YtkiehemoiapkkaaGreat
end
section
namespace Go.Proofs.YtkiehemoiapkkaaGreat
open Go.RowKit
def zs (n:Nat):List Int:=List.replicate n 0
theorem zs_len (n:Nat):(zs n).length=n:=List.length_replicate
theorem zs_succ (n:Nat):zs (n+1)=0 :: zs n:=List.replicate_succ
theorem zs_add (n m:Nat):zs (n+m)=zs n ++ zs m:=by unfold zs;rw [List.replicate_append_replicate]
def zsec:Array Value:=(bs (zs 512)).toArray
theorem infoSec:(Tryz.prog.info? 188).map (fun i=>(i.zero,i.size))=some (some (.agg zsec),512):=by kernel_rfl
theorem zeroSec (w:World):(zeroValue 188).run Tryz.prog w= .ok (.agg zsec) w:=by
 obtain⟨i,hi,he⟩:=Option.map_eq_some_iff.1 infoSec
 simp only [Prod.mk.injEq] at he
 simp [zeroValue,typeInfo,hi,he.1]
theorem sizeSec:(Tryz.prog.info? 188).map (·.size)=some 512:=by
 obtain⟨i,hi,he⟩:=Option.map_eq_some_iff.1 infoSec
 simp only [Prod.mk.injEq] at he
 rw [hi,←he.2];rfl
theorem leb2 (n:Nat) (h:n<65536):leb 2 n= [((n%256:Nat):Int),((n / 256:Nat):Int)]:=by
 simp only [leb]
 congr 3
 omega
theorem leb4 (s:Nat):leb 4 s=bytes4 s:=by
 simp only [leb,bytes4,Nat.div_div_eq_div_mul]
theorem set_last (l:List Int) (x y:Int):(l ++ [x]).set l.length y=l ++ [y]:=by
 rw [List.set_append_right _ _ (Nat.le_refl _),Nat.sub_self];rfl
def s1 (t:Int):List Int:=t :: (zs 510 ++ [t])
theorem s1_len (t:Int):(s1 t).length=512:=by simp only [s1,List.length_cons,List.length_append,zs_len,List.length_nil]
def s2 (t:Int) (n:Nat):List Int:=t :: ((n%256:Nat):Int) :: ((n / 256:Nat):Int) :: (zs 508 ++ [t])
theorem s2_len (t:Int) (n:Nat):(s2 t n).length=512:=by simp only [s2,List.length_cons,List.length_append,zs_len,List.length_nil]
theorem s2_of (t:Int) (n:Nat) (h:n<65536):put (s1 t) 1 (leb 2 n)=s2 t n:=by
 rw [leb2 n h]
 unfold s1 s2
 rw [zs_succ 509,zs_succ 508]
 simp only [put,List.take_succ_cons,List.take_zero,List.length_cons,List.length_nil,List.cons_append,List.nil_append,List.drop_succ_cons,List.drop_zero]
def s3 (t:Int) (body:List Int):List Int:=t :: ((body.length%256:Nat):Int) :: ((body.length / 256:Nat):Int) :: 0 :: 0 :: 0 :: 0 :: (body ++ (List.replicate (504-body.length) 0 ++ [t]))
theorem s3_len (t:Int) {body:List Int} (h:body.length≤504):(s3 t body).length=512:=by simp [s3];omega
theorem s3_of (t:Int) (body:List Int) (h:body.length≤504):put (s2 t body.length) 7 body=s3 t body:=by
 unfold s2 s3
 have e:(zs 508 ++ [t])=0 :: 0 :: 0 :: 0 :: (zs body.length ++ (zs (504-body.length) ++ [t])):=by
  rw [←List.append_assoc,←zs_add,show body.length+(504-body.length)=504 by omega,zs_succ 507,zs_succ 506,zs_succ 505,zs_succ 504]
  rfl
 rw [e]
 simp only [put,List.take_succ_cons,List.take_zero,List.cons_append,List.nil_append]
 rw [show 7+body.length=body.length+7 by omega]
 simp only [List.drop_succ_cons]
 rw [List.drop_left' (zs_len _)]
 rfl
theorem s3_bytes {t:Int} {body:List Int} (ht:0≤t∧t<256) (hb:Bytes body) (h:body.length≤504):Bytes (s3 t body):=
   .cons ht (.cons (by omega) (.cons (by omega) (.cons (by omega) (.cons (by omega) (.cons (by omega) (.cons (by omega) (hb.append ((Bytes.zeros _).append (.cons ht .nil)))))))))
theorem s3_text (t:Int) (body:List Int) (h:body.length≤504):stextOf (s3 t body)=stext body:=by
 unfold stextOf s3 stext
 simp only [List.drop_succ_cons,List.drop_zero,List.take_succ_cons,List.take_zero,List.cons_append,List.nil_append]
 rw [←List.append_assoc,List.take_left' (by simp;omega)]
theorem s4_of (t:Int) (body:List Int):put (s3 t body) 3 (leb 4 (sumOf (stext body)))=sform t body:=by
 rw [leb4]
 unfold s3 sform
 simp only [put,List.take_succ_cons,List.take_zero,bytes4_len,List.cons_append,List.nil_append,List.drop_succ_cons,List.drop_zero]
theorem bs_put (l xs:List Int) (o:Nat):splice (bs l) o (bs xs)=bs (put l o xs):=by
 simp [splice,bs,put,List.map_take,List.map_drop]
theorem copy_blk (w:World) (ty T:TypeId) (g off dLen dCap:Nat) (a:Option Addr) (sLen sCap:Nat) (cur l:List Int) (hg:Blk w T g cur)
    (hs:Src w a sLen l) (hle:sLen≤dLen) (hfit:off+dLen≤cur.length):
  ∃w2,(Builtin.copy_ #[44,44] ty #[.slice (some ⟨g,off,none⟩) dLen dCap, .slice a sLen sCap]).run Tryz.prog w= .ok (goInt sLen) w2∧
   Blk w2 T g (put cur off l)∧Keeps (fun k=>k=g) w w2∧w2.heap.size=w.heap.size:=by
 have hl:=hs.1
 by_cases h0:sLen=0
 ·refine⟨w,?_,?_,Keeps.refl _ _,rfl⟩
  ·have:=run_copy_none (P:=Tryz.prog) w 44 44 ty 5 (some ⟨g,off,none⟩) a dLen dCap sLen sCap Tryz.underlying44 sizeU8 (by rw [h0];exact Nat.zero_min _)
   rw [h0] at this⊢
   exact this
  ·have:l= []:=List.eq_nil_of_length_eq_zero (by omega)
   rw [this,put_nil];exact hg
 ·cases a with
  |none=>have:=hs.2.1 rfl;omega
  |some x=>
   have hlen:(bs l).length=Nat.min sLen dLen:=by
    have e:Nat.min sLen dLen=sLen:=Nat.min_eq_left hle
    simp only [bs,List.length_map,e];omega
   have hrun:=run_copy_row (P:=Tryz.prog) w 44 44 ty 5 g off dLen dCap x sLen sCap (bs cur).toArray T (bs l) Tryz.underlying44 sizeU8 hg hlen
      (fun j v hj=>by
     obtain⟨hj',rfl⟩:=bs_getElem hj
     rw [hs.2.2 x rfl j (by omega)]) (by simp only [List.size_toArray];simp [bs];omega) (bs_one _)
   have e:(bs l).length=sLen:=by simp only [bs,List.length_map];omega
   rw [e] at hrun
   refine⟨_,hrun,?_,⟨rfl,rfl,rfl,by simp,fun k _ hk=>setRow_other w g k _ hk⟩,by simp⟩
   unfold Blk
   rw [setRow_heap w g _ _ T _ hg,←bs_put]
   simp only [splice,List.append_assoc,e]
theorem s1_of (t:Int):(zsec.setIfInBounds 0 (Value.int .u8 t)).setIfInBounds 511 (Value.int .u8 t)=(bs (s1 t)).toArray:=by
 apply Array.ext'
 rw [Array.toList_setIfInBounds,Array.toList_setIfInBounds]
 unfold zsec s1
 show ((bs (zs 512)).set 0 (Value.int .u8 t)).set 511 (Value.int .u8 t)=bs (t :: (zs 510 ++ [t]))
 rw [bs,bs,←List.map_set,←List.map_set,zs_succ 511,List.set_cons_zero,List.set_cons_succ,zs_add 510 1]
 have:=set_last (zs 510) 0 t
 rw [zs_len] at this
 have e:zs 1= [0]:=rfl
 rw [e,this]
end Go.Proofs.YtkiehemoiapkkaaGreat
end
section
namespace Go.Proofs.YtkiehemoiapkkaaGreat
open Go.RowKit
theorem blk_range {w:World} {T:TypeId} {g:Nat} {l:List Int} (h:Blk w T g l):w.rangeAt g 0 (bs l):=by
 intro j v hv
 obtain⟨hj,rfl⟩:=bs_getElem hv
 rw [Nat.zero_add]
 exact h.cell hj
theorem there_of {w:World} {T:TypeId} {g n:Nat} {cur:Array Value} (h:w.heap[g]? =some (.cells cur T (0,0))) (hn:cur.size=n):w.there g 0 n:=by
 intro j hj
 rw [Nat.zero_add]
 exact⟨by rw [cell_of_block h (j:=j) (u:=cur[j]'(by omega)) (by simp [show j<cur.size by omega])];rfl,frozen_of_block h j⟩
theorem zsec_size:zsec.size=512:=by unfold zsec;simp only [List.size_toArray,bs,List.length_map,zs_len]
theorem infoSecL {l:List Int} (h:l.length=512):(Tryz.prog.info? 188).map (·.size)=some (bs l).length:=by
 rw [sizeSec,bs,List.length_map,h]
set_option maxRecDepth 20000 in
set_option maxHeartbeats 4000000 in
theorem sealed_any (t:Nat) (a:Option Addr) (n c:Nat) (body:List Int) (w:World) (ht:t<256) (hs:Src w a n body) (hn:n≤504) (hb:Bytes body):
  Calls Tryz.prog 158 #[.int .u8 (t:Int), .slice a n c] w fun e w'=>e= .returned (.agg (bs (sform t body)).toArray)∧Below w.heap.size w w':=by
 have H:=hs
 have hz:=zeroSec
 have hlb:=hs.1
 have hc1:=(fun w1=>cut_any (w.heap.size+1) 0 1 3 w1 (by omega) (by omega))
 have hc2:=(fun w1=>cut_any (w.heap.size+1) 0 7 511 w1 (by omega) (by omega))
 have hc3:=(fun w1=>cut_any (w.heap.size+1) 0 3 7 w1 (by omega) (by omega))
 clear hs
 go_enter Tryz.func158,Tryz.ntmps158
 go_wp2_with fail
 rw [s1_of]
 obtain⟨w1,hw1⟩:∃w1,w1=(w.alloc (.cells zsec 188)).alloc (.cells (bs (s1 t)).toArray 188):=⟨_,rfl⟩
 have hB1:Below w.heap.size w w1:=by rw [hw1];exact((Below.refl _ w).alloc (Nat.le_refl _) _).alloc (by simp) _
 have hblk:Blk w1 188 (w.heap.size+1) (s1 t):=by rw [hw1];exact heap_alloc2_new _ _ _
 have hres:w1.heap[w.heap.size]? =some (.cells zsec 188 (0,0)):=by rw [hw1];exact heap_alloc2_old _ _ _
 rw [←hw1]
 clear hw1 hz
 refine(hc1 w1).mono ?_
 rintro e w' ⟨rfl,hw⟩
 have hw':=hw.symm
 subst hw'
 clear hw hc1
 have hl:=lay_any (w.heap.size+1) 1 2 2 n 188 (s1 t) w1 hblk (by omega) (by rw [s1_len];omega)
 rw [s2_of t n (by omega)] at hl
 have Hres:=hres
 have HB1:=hB1
 clear hblk hres hB1
 go_wp2_with fail
 refine hl.mono ?_
 rintro e w2 ⟨rfl,hblk,hk,hz2⟩
 have hB2:=HB1.trans (hk.below (fun j hj=>by omega) HB1.size)
 have hres:=(hk.block _ (Array.getElem?_eq_some_iff.1 Hres).1 (by omega)).trans Hres
 obtain⟨w3,hrun,hblk3,hk3,hz3⟩:=copy_blk w2 3 188 (w.heap.size+1) 7 504 504 a n c (s2 t n) body hblk (H.later hB2) hn (by rw [s2_len];omega)
 have hB3:=hB2.trans (hk3.below (fun j hj=>by omega) hB2.size)
 have hres3:=(hk3.block _ (Array.getElem?_eq_some_iff.1 hres).1 (by omega)).trans hres
 have e3:=s3_of t body (by omega)
 rw [hlb] at e3
 rw [e3] at hblk3
 have Hblk3:=hblk3
 have Hres3:=hres3
 have HB3:=hB3
 clear hl hblk hk hB2 hres hk3 hB3 hres3 hblk3 HB1 Hres hz2 hz3 e3
 go_wp2_with fail
 refine(hc2 w2).mono ?_
 rintro e w' ⟨rfl,hw⟩
 have hw':=hw.symm
 subst hw'
 clear hw hc2
 go_wp2_with fail
 refine(hc3 w3).mono ?_
 rintro e w' ⟨rfl,hw⟩
 have hw':=hw.symm
 subst hw'
 clear hw hc3 hrun
 have hsum:=ssum_any (w.heap.size+1) 188 (s3 t body) w3 Hblk3 (s3_len t (by omega)) (s3_bytes (by omega) hb (by omega))
 rw [s3_text t body (by omega)] at hsum
 have hS:=sumOf_lt (stext_bytes hb (show body.length≤504 by omega))
 have e4:=s4_of t body
 obtain⟨E,hE⟩:∃E,E=sumOf (stext body):=⟨_,rfl⟩
 rw [←hE] at hsum hS e4
 have He4:=e4
 clear hE e4
 go_wp2_with fail
 refine hsum.mono ?_
 rintro e w4 ⟨rfl,hb4⟩
 have hblk4:=Hblk3.keep (hb4.block _ Hblk3.lt)
 have hres4:=(hb4.block _ (Array.getElem?_eq_some_iff.1 Hres3).1).trans Hres3
 have hB4:=HB3.trans (hb4.mono HB3.size)
 have hl:=lay_any (w.heap.size+1) 3 4 4 E 188 (s3 t body) w4 hblk4 (by omega) (by rw [s3_len t (by omega)];omega)
 rw [He4] at hl
 have Hres4:=hres4
 have HB4:=hB4
 clear hsum hb4 hblk4 hres4 hB4 Hblk3 Hres3 HB3 He4
 go_wp2_with fail
 refine hl.mono ?_
 rintro e w5 ⟨rfl,hblk5,hk5,hz5⟩
 have hres5:=(hk5.block _ (Array.getElem?_eq_some_iff.1 Hres4).1 (by omega)).trans Hres4
 have hB5:=HB4.trans (hk5.below (fun j hj=>by omega) HB4.size)
 have hfl:(sform t body).length=512:=sform_len (by omega)
 have hra:=blk_range hblk5
 have hth:=there_of hres5 zsec_size
 have hinfo:=infoSecL hfl
 have hll:(bs (sform t body)).length=512:=by rw [bs,List.length_map,hfl]
 have hone:=bs_one (sform t body)
 generalize hF:bs (sform t body)=F at*
 rw [←hll] at hth
 have hrs:=(World.rangeAt_setCells_same w5 w.heap.size 0 F hth)
 have hall:=all_oneCell_toArray hone
 have hB6:=hB5.trans ((Keeps.setCells (F:=fun j=>j=w.heap.size) rfl F 0 w5).below (fun j hj=>by omega) hB5.size)
 have HF:=hF
 clear hl hblk5 hk5 hz5 hres5 hB5 hfl Hres4 HB4 hone hF
 go_wp2_with (first|refine wpList_load_mid rfl 188 _ rfl (w.heap.size+1) 0 rfl F _ hra Tryz.underlying188 rfl hinfo ?_|refine wpList_store_mid rfl 188 _ _ rfl w.heap.size 0 F.toArray rfl rfl ?h1 ?h2 hall ?_)
 case h1=>simpa using hth
 case h2=>simpa using hinfo
 exact bodyPost_ret (results_cell_mid (P:=Tryz.prog) rfl _ _ w.heap.size F _ rfl hrs Tryz.underlying188 rfl hinfo) rfl ⟨by rw [HF],hB6⟩
end Go.Proofs.YtkiehemoiapkkaaGreat
end
section
namespace Go.Proofs.YtkiehemoiapkkaaGreat
open Go.RowKit
theorem results_cell_tmp {P:Program} {fn:Func} {p q:Tmp} {ty:TypeId} (h:fn.results= #[.cell p ty, .tmp q]) (tmps:Array Value) (w:World) (g:Nat) (cs:List Value) (d:TypeDesc) (v:Value)
    (hp:tmps.getD p undef= .pointer (some ⟨g,0,none⟩)) (hq:tmps.getD q undef=v) (hg:w.rangeAt g 0 cs) (hu:P.underlying ty=some d) (hd:d.isRow=true) (hi:(P.info? ty).map (·.size)=some cs.length):
    (results fn tmps).run P w= .ok (.tuple #[.agg cs.toArray,v]) w:=by
 have hp':tmps[p]?.getD undef= .pointer (some ⟨g,0,none⟩):=by simpa using hp
 have hq':tmps[q]?.getD undef=v:=by simpa using hq
 simp [results,h,hp',hq',asAddr,run_loadVar_mid w g 0 ty cs d hg hu hd hi]
theorem src_range {w:World} {b o n:Nat} {l:List Int} (h:Src w (some ⟨b,o,none⟩) n l):w.rangeAt b o (bs l):=by
 intro j v hv
 obtain⟨hj,rfl⟩:=bs_getElem hv
 have:=h.2.2 _ rfl j (by have:=h.1;omega)
 rwa [addr_add] at this
theorem arraySec (a:Option Addr) (c:Nat) (w:World):(Instr.arrayAt 188 (.slice a 512 c)).run Tryz.prog w= .ok (.pointer a) w:=by
 simp [Instr.arrayAt,run_underlying Tryz.underlying188]
theorem zsec_one:∀v∈zsec.toList,v.oneCell'=true:=bs_one (zs 512)
theorem infoSecZ:(Tryz.prog.info? 188).map (·.size)=some zsec.toList.length:=infoSecL (l:=zs 512) (zs_len 512)
set_option maxRecDepth 20000 in
set_option maxHeartbeats 4000000 in
theorem sectorOf_no (a:Option Addr) (n c:Nat) (w:World) (hn:n≠512):
  Calls Tryz.prog 181 #[.slice a n c] w fun e w'=>e= .returned (.tuple #[.agg zsec, .bool false])∧Below w.heap.size w w':=by
 have hz:=zeroSec
 have h1:(((n:Int)) != 512)=true:=by rw [bne_iff_ne];omega
 have hinfo:=infoSecZ
 have hone:=zsec_one
 generalize zsec=Z at*
 have hw1:(w.alloc (.cells Z 188)).heap[w.heap.size]? =some (.cells Z 188 (0,0)):=heap_alloc_new _ _
 have hth:(w.alloc (.cells Z 188)).there w.heap.size 0 Z.toList.length:=there_of hw1 (by simp)
 have hall:Z.all Value.oneCell'=true:=all_oneCell_toArray hone
 have hB1:Below w.heap.size w (w.alloc (.cells Z 188)):=(Below.refl _ w).alloc (Nat.le_refl _) _
 go_enter Tryz.func181,Tryz.ntmps181
 go_wp2_with (refine wpList_store_mid rfl 188 _ _ rfl w.heap.size 0 Z rfl rfl ?h1 ?h2 hall ?_)
 case h1=>simpa using hth
 case h2=>simpa using hinfo
 exact bodyPost_ret (results_cell_tmp (P:=Tryz.prog) rfl _ _ w.heap.size Z.toList _ _ rfl rfl (World.rangeAt_setCells_same _ w.heap.size 0 Z.toList hth) Tryz.underlying188 rfl hinfo) rfl ⟨rfl,(hB1.trans ((Keeps.setCells (F:=fun j=>j=w.heap.size) rfl Z.toList 0 _).below (fun j hj=>by omega) hB1.size))⟩
set_option maxRecDepth 20000 in
set_option maxHeartbeats 4000000 in
theorem sectorOf_ok (b o c:Nat) (l:List Int) (w:World) (hs:Src w (some ⟨b,o,none⟩) 512 l):
  Calls Tryz.prog 181 #[.slice (some ⟨b,o,none⟩) 512 c] w fun e w'=>e= .returned (.tuple #[.agg (bs l).toArray, .bool true])∧Below w.heap.size w w':=by
 have hz:=zeroSec
 have harr:=arraySec (some ⟨b,o,none⟩) c
 have hB1:Below w.heap.size w (w.alloc (.cells zsec 188)):=(Below.refl _ w).alloc (Nat.le_refl _) _
 have hra:=src_range (hs.later hB1)
 have hinfo:=infoSecL (l:=l) hs.1
 have hone:=bs_one l
 have hw1:(w.alloc (.cells zsec 188)).heap[w.heap.size]? =some (.cells zsec 188 (0,0)):=heap_alloc_new _ _
 have hth:=there_of hw1 zsec_size
 have hll:(bs l).length=512:=by rw [bs,List.length_map,hs.1]
 generalize bs l=F at*
 rw [←hll] at hth
 have hrs:=(World.rangeAt_setCells_same _ w.heap.size 0 F hth)
 have hall:=all_oneCell_toArray hone
 have hB6:=(hB1.trans ((Keeps.setCells (F:=fun j=>j=w.heap.size) rfl F 0 _).below (fun j hj=>by omega) hB1.size))
 go_enter Tryz.func181,Tryz.ntmps181
 go_wp2_with (first|refine wpList_load_mid rfl 188 _ rfl b o rfl F _ hra Tryz.underlying188 rfl hinfo ?_|refine wpList_store_mid rfl 188 _ _ rfl w.heap.size 0 F.toArray rfl rfl ?h1 ?h2 hall ?_)
 case h1=>simpa using hth
 case h2=>simpa using hinfo
 exact bodyPost_ret (results_cell_tmp (P:=Tryz.prog) rfl _ _ w.heap.size F _ _ rfl rfl hrs Tryz.underlying188 rfl hinfo) rfl ⟨rfl,hB6⟩
end Go.Proofs.YtkiehemoiapkkaaGreat
end
section
namespace Go.Proofs.YtkiehemoiapkkaaGreat
open Go.RowKit
def Lst (w:World) (B:Nat) (v:Value) (l:List Int):Prop:=∃a c,v= .slice a l.length c∧Src w a l.length l∧l.length≤c∧∀x,a=some x→B≤x.block
theorem Lst.nil (w:World) (B:Nat):Lst w B (.slice none 0 0) []:=⟨none,0,rfl,⟨rfl,fun _=>rfl,fun x hx=>by cases hx⟩,Nat.le_refl _,fun x hx=>by cases hx⟩
theorem Lst.later {w w':World} {B:Nat} {v:Value} {l:List Int} (h:Lst w B v l) (hb:Below w.heap.size w w'):Lst w' B v l:=by
 obtain⟨a,c,rfl,hs,hc,hx⟩:=h
 exact⟨a,c,rfl,hs.later hb,hc,hx⟩
theorem Blk.lst {w:World} {T:TypeId} {g B:Nat} {l:List Int} (h:Blk w T g l) (hg:B≤g):Lst w B (.slice (some ⟨g,0,none⟩) l.length l.length) l:=by
 refine⟨some ⟨g,0,none⟩,l.length,rfl,?_,Nat.le_refl _,fun x hx=>by cases hx;exact hg⟩
 have:=h.src (o:=0) (n:=l.length) (by omega)
 simpa using this
theorem heap_setCells_full {w:World} {T:TypeId} {g:Nat}:∀(vs pre:List Value) (cur:Array Value),w.heap[g]? =some (.cells cur T (0,0))→(∃post,cur.toList=pre ++ post∧post.length=vs.length)→
    (w.setCells g pre.length vs).heap[g]? =some (.cells (pre ++ vs).toArray T (0,0)):=by
 intro vs
 induction vs generalizing w with
 |nil=>
  intro pre cur hg ⟨post,he,hl⟩
  have:post= []:=List.eq_nil_of_length_eq_zero hl
  subst this
  simp only [List.append_nil] at he⊢
  show w.heap[g]? =_
  rw [hg,←he]
 |cons v r ih=>
  intro pre cur hg ⟨post,he,hl⟩
  cases post with
  |nil=>simp at hl
  |cons u post=>
   have e:(cur.setIfInBounds pre.length v).toList=(pre ++ [v]) ++ post:=by
    rw [Array.toList_setIfInBounds,he,List.set_append_right _ _ (Nat.le_refl _),Nat.sub_self]
    simp
   have:=ih (w:=w.setCell ⟨g,pre.length,none⟩ v) (pre ++ [v]) _ (heap_setCell_same w g pre.length cur T v hg) ⟨post,e,by simpa using hl⟩
   simp only [World.setCells]
   simpa using this
theorem blk_stored {w:World} {T:TypeId} {g:Nat} {cur:Array Value} {l:List Int} (hg:w.heap[g]? =some (.cells cur T (0,0))) (hl:cur.size=l.length):Blk (w.setCells g 0 (bs l)) T g l:=
 heap_setCells_full (bs l) [] cur hg ⟨cur.toList,rfl,by simp [bs,hl]⟩
end Go.Proofs.YtkiehemoiapkkaaGreat
end
section
namespace Go.Proofs.YtkiehemoiapkkaaGreat
open Go.RowKit
end Go.Proofs.YtkiehemoiapkkaaGreat
end
section
namespace Go.Proofs.YtkiehemoiapkkaaGreat
open Go.RowKit
theorem wpList_app1 {ops:Array Oper} {rest:List Oper} {o:Oper} {a:Act} {Q:Exit→Act→World→Prop} {w:World} (hgd:o.guard=none) (s x:Operand)
    (hop:o.op=Op.call {callee:=Callee.builtin Builtin.append,args:= #[s,x],argTypes:= #[44,44]})
    (B:Nat) (v:Value) (l:List Int) (y:Int) (hs:a.eval s=v) (hx:a.eval x= .slice (some ⟨w.heap.size,0,none⟩) 1 1) (hown:Own w B v l) (hlen:l.length≤140737488355327) (hB:B≤w.heap.size)
    (hK:∀v' w',Own w' B v' (l ++ [y])→Below B w w'→wpList Tryz.prog ops Q rest (a.put o.dst v') w'):
  wpList Tryz.prog ops Q (o :: rest) a (w.alloc (.cells #[.int .u8 y] 5)):=by
 obtain⟨i0,hi,hz0,hz1,hz2⟩:=info_parts infoU8
 have ho:w.ownsRow B 5 1 v l.length (bs l):=hown
 refine wpList_append_own _ hgd s x 44 hop B 5 i0 (.int .u8 0) 1 1 Tryz.underlying44 hi hz0 hz1 hz2 rfl (by decide) v l.length (bs l) hs (ho.alloc _) ⟨w.heap.size,0,none⟩ 1 1 [.int .u8 y] hx rfl (cell_one_new _ _ _) (by intro u hu;simp at hu;subst hu;rfl) (by unfold maxLen;omega) (by omega) (by simp;omega) ?_
 intro v' w1 hown' hgrow' _
 refine hK v' w1 ?_ (((Below.refl _ w).alloc hB _).grown hgrow' (by simp;omega) (fun q e=>(ho.lt q e).1))
 rw [bs_snoc] at hown'
 exact own_of hown' (by simp) rfl
theorem Own.row' {w:World} {B:Nat} {v:Value} {l:List Int} (h:Own w B v l) (h0:0<l.length):∃g c,v= .slice (some ⟨g,0,none⟩) l.length c∧B≤g∧RowAt w 5 g c (bs l):=by
 obtain⟨a,c,rfl,_,_,_⟩:=h.src
 obtain⟨g,rfl,_,hg,hr⟩:=h.row h0
 exact⟨g,c,rfl,hg,hr⟩
theorem RowAt.get {w:World} {e:TypeId} {g c:Nat} {l:List Int} (h:RowAt w e g c (bs l)) {i:Nat} (hi:i<l.length):w.cell? ⟨g,i,none⟩=some (.int .u8 (l.getD i 0)):=by
 have:=h.byte hi
 rwa [addr_add,Nat.zero_add] at this
end Go.Proofs.YtkiehemoiapkkaaGreat
end
section
namespace Go.Proofs.YtkiehemoiapkkaaGreat
open Go.RowKit
end Go.Proofs.YtkiehemoiapkkaaGreat
end
section
namespace Go.Proofs.YtkiehemoiapkkaaGreat
open Go.RowKit
end Go.Proofs.YtkiehemoiapkkaaGreat
end
section
namespace Go.Proofs.YtkiehemoiapkkaaGreat
open Go.RowKit
theorem src_spot {w:World} {a:Option Addr} {n:Nat} {l:List Int} (h:Src w a n l) (hn:0<n):∃b o,a=some ⟨b,o,none⟩:=by
 cases a with
 |none=>have:=h.2.1 rfl;omega
 |some x=>
  obtain⟨b,o,rfl,_⟩:=h.spot hn
  exact⟨b,o,rfl⟩
end Go.Proofs.YtkiehemoiapkkaaGreat
end
section
namespace Go.Proofs.YtkiehemoiapkkaaGreat
open Go.RowKit
end Go.Proofs.YtkiehemoiapkkaaGreat
end
section
namespace Go.Proofs.YtkiehemoiapkkaaGreat
open Go.RowKit
theorem sopens_no1 {s:List Int} (h:s.length≠512):sopens s=([],2):=by unfold sopens;rw [if_pos h]
theorem sopens_none {s:List Int} (h:s.length=512) (h2:sopen s=none):sopens s=([],30):=by unfold sopens;rw [if_neg (by omega),h2]
theorem sopens_some {s b:List Int} (h:s.length=512) (h2:sopen s=some b):sopens s=(b,0):=by unfold sopens;rw [if_neg (by omega),h2]
theorem sopen_yes {s:List Int} (h1:slen s≤504) (h2:s.getD 0 0≤2) (h3:sform (s.getD 0 0) (sbody s)=s):sopen s=some (sbody s):=by unfold sopen;rw [if_pos ⟨h1,h2,h3⟩]
theorem sopen_no {s:List Int} (h:¬(slen s≤504∧s.getD 0 0≤2∧sform (s.getD 0 0) (sbody s)=s)):sopen s=none:=by unfold sopen;rw [if_neg h]
theorem slen_eq {s:List Int} (h:Bytes s):((slen s:Nat):Int)=s.getD 1 0+256*s.getD 2 0:=by
 have h1:=h.getD 1
 have h2:=h.getD 2
 unfold slen
 omega
end Go.Proofs.YtkiehemoiapkkaaGreat
end
section
namespace Go.Proofs.YtkiehemoiapkkaaGreat
open Go.RowKit
theorem le2 {a b:Int} (ha:0≤a) (hb:0≤b):((le [a,b]:Nat):Int)=a+256*b:=by
 simp only [le]
 omega
theorem take2 {s:List Int} (h:s.length=512):(s.drop 1).take 2= [s.getD 1 0,s.getD 2 0]:=by
 match s,h with
 |a :: b :: c :: r,_=>rfl
theorem src_part {w:World} {b o n:Nat} {l:List Int} (h:Src w (some ⟨b,o,none⟩) n l) {i m:Nat} (hm:i+m≤n):Src w (some ⟨b,o+i,none⟩) m ((l.drop i).take m):=
   ⟨by have:=h.1;simp;omega,(fun e=>by cases e),fun x hx j hj=>by
  cases hx
  have:=h.2.2 _ rfl (i+j) (by omega)
  rw [addr_add] at this⊢
  rw [Nat.add_assoc,this]
  simp [List.getD,hj]⟩
set_option maxRecDepth 20000 in
set_option maxHeartbeats 4000000 in
theorem open_no (g o:Nat) (s:List Int) (w:World) (hs:Src w (some ⟨g,o,none⟩) 512 s) (hb:Bytes s) (hbad:504<slen s∨2<s.getD 0 0):
  Calls Tryz.prog 205 #[.pointer (some ⟨g,o,none⟩)] w fun e w'=>e= .returned (.tuple #[.slice none 0 0, .bool false])∧w'=w:=by
 have hp:=src_part hs (i:=1) (m:=2) (by omega)
 have h2:=taken_any g (o+1) 2 2 ((s.drop 1).take 2) w ((hb.drop _).take _) hp.1 (by omega) (fun i hi=>by have:=hp.2.2 _ rfl i hi;rwa [addr_add] at this)
 rw [take2 hs.1,le2 (hb.getD 1).1 (hb.getD 2).1,←(slen_eq hb)] at h2
 have c0:=hs.2.2 _ rfl 0 (by omega)
 rw [addr_add,Nat.add_zero] at c0
 have g0:=hb.getD 0
 have h00:=g0.1
 have h01:=g0.2
 generalize s.getD 0 0=x at*
 generalize slen s=N at*
 clear hs hp g0
 go_enter Tryz.func205,Tryz.ntmps205
 go_wp2_with fail
 refine(cut_any g o 1 3 w (by omega) (by omega)).mono ?_
 rintro e w' ⟨rfl,hw⟩
 have hw':=hw.symm
 subst hw'
 clear hw
 go_wp2_with fail
 refine h2.mono ?_
 rintro e w' ⟨rfl,hw⟩
 have hw':=hw.symm
 subst hw'
 clear hw h2
 by_cases hx:2<x
 ·have hx':3≤x:=by omega
  go_wp2
  go_ret2
  exact⟨rfl,rfl⟩
 ·have hx':¬3≤x:=by omega
  have hN:504<(N:Int):=by omega
  go_wp2
  go_ret2
  exact⟨rfl,rfl⟩
theorem quiet_load_mid {P:Program} {C:World→Prop} {a:Act} {op:Oper} {K:Act→Prop} (ty:TypeId) (x:Operand) (ho:op.op= .load ty x)
    (b o:Nat) (hx:a.eval x= .pointer (some ⟨b,o,none⟩)) (cs:List Value) (d:TypeDesc) (hc:∀w,C w→w.rangeAt b o cs)
    (hu:P.underlying ty=some d) (hd:d.isRow=true) (hi:(P.info? ty).map (·.size)=some cs.length) (hk:K (a.put op.dst (.agg cs.toArray))):op.quiet P a C K:=
   ⟨_,fun w hw=>by
  unfold Oper.quietAt execOp
  simp only [ho,hx,Instr.loadAt,Instr.sureAddr,Sem.run_bind,Sem.run_pure,Result.andThen_ok,run_loadVar_mid w b o ty cs d (hc w hw) hu hd hi]
  exact⟨rfl,rfl⟩,hk⟩
theorem quiet_eq_sec {C:World→Prop} {a:Act} {op:Oper} {K:Act→Prop} (x y:Operand) (T:TypeId) (ho:op.op= .binOp .eql 188 x y T)
    (l m:List Int) (hx:a.eval x= .agg (bs l).toArray) (hy:a.eval y= .agg (bs m).toArray) (hl:l.length=512) (hm:m.length=512) (hk:K (a.put op.dst (.bool (decide (l=m))))):op.quiet Tryz.prog a C K:=
   ⟨_,fun w _=>by
  unfold Oper.quietAt execOp
  simp only [ho,hx,hy]
  have:=eqop_sec l m hl hm w x y
  rw [Sem.run_bind,this]
  exact⟨rfl,rfl⟩,hk⟩
set_option maxRecDepth 20000 in
set_option maxHeartbeats 4000000 in
theorem open_yes (g o:Nat) (s:List Int) (w:World) (hs:Src w (some ⟨g,o,none⟩) 512 s) (hb:Bytes s) (hN:slen s≤504) (hx:s.getD 0 0≤2):
  Calls Tryz.prog 205 #[.pointer (some ⟨g,o,none⟩)] w fun e w'=>∃k,e= .returned (.tuple #[.slice (some ⟨g,k,none⟩) (slen s) (slen s), .bool (decide (sform (s.getD 0 0) (sbody s)=s))])∧(0<slen s→k=o+7)∧Below w.heap.size w w':=by
 have hp:=src_part hs (i:=1) (m:=2) (by omega)
 have h2:=taken_any g (o+1) 2 2 ((s.drop 1).take 2) w ((hb.drop _).take _) hp.1 (by omega) (fun i hi=>by have:=hp.2.2 _ rfl i hi;rwa [addr_add] at this)
 rw [take2 hs.1,le2 (hb.getD 1).1 (hb.getD 2).1,←(slen_eq hb)] at h2
 have c0:=hs.2.2 _ rfl 0 (by omega)
 rw [addr_add,Nat.add_zero] at c0
 have g0:=hb.getD 0
 have hbody:∃k,Src w (some ⟨g,k,none⟩) (slen s) (sbody s)∧(0<slen s→k=o+7)∧Calls Tryz.prog 184 #[.pointer (some ⟨g,o,none⟩), .int .i64 7, .int .i64 (7+(slen s:Int))] w fun e w'=>e= .returned (.slice (some ⟨g,k,none⟩) (slen s) (slen s))∧w'=w:=by
  by_cases h0:slen s=0
  ·have hcn:=cut_none g o 7 w (by omega)
   refine⟨o,⟨by rw [sbody_len hN hs.1],(fun e=>by cases e),fun x hx i hi=>by omega⟩,fun h=>by omega,?_⟩
   rw [h0]
   exact hcn
  ·have hc:=cut_any g o 7 (7+slen s) w (by omega) (by omega)
   refine⟨o+7,src_part hs (i:=7) (m:=slen s) (by omega),fun _=>rfl,?_⟩
   have e1:7+slen s-7=slen s:=by omega
   rw [e1] at hc
   have e2:((7+slen s:Nat):Int)=7+(slen s:Int):=by omega
   rw [e2] at hc
   exact hc
 obtain⟨k,hk,hkk,hc⟩:=hbody
 obtain⟨t,ht⟩:∃t:Nat,s.getD 0 0=(t:Int):=⟨(s.getD 0 0).toNat,by omega⟩
 have hbb:Bytes (sbody s):=(hb.drop _).take _
 rw [ht] at c0 hx⊢
 have p1:(∀q:Later w,Calls Tryz.prog 158 #[.int .u8 (t:Int), .slice (some ⟨g,k,none⟩) (slen s) (slen s)] q.to fun e w'=>e= .returned (.agg (bs (sform t (sbody s))).toArray)∧Below q.to.heap.size q.to w'):=
  fun q=>sealed_any t (some ⟨g,k,none⟩) (slen s) (slen s) (sbody s) q.to (by omega) (hk.later q.h) hN hbb
 have hfl:(sform t (sbody s)).length=512:=sform_len (by rw [(sbody_len hN hs.1)];exact hN)
 have hra:∀w',(∃q:Later w,w'=q.to)→w'.rangeAt g o (bs s):=fun w' ⟨q,e⟩=>by rw [e];exact src_range (hs.later q.h)
 have c0q:∀q:Later w,q.to.cell? ⟨g,o,none⟩=some (.int .u8 (t:Int)):=fun q=>cell_later q.h c0
 have Hkk:=hkk
 have Hra:=hra
 have Hfl:=hfl
 have Hsl:=hs.1
 have Hinfo:=infoSecL (l:=s) hs.1
 clear hs hp g0 hk hkk hbb hfl hra
 obtain⟨R,hR⟩:∃R,R=sform t (sbody s):=⟨_,rfl⟩
 rw [←hR] at p1 Hfl⊢
 clear hR
 generalize slen s=N at*
 have hx3:¬3≤(t:Int):=by omega
 go_enter Tryz.func205,Tryz.ntmps205
 go_wp2_with fail
 refine(cut_any g o 1 3 w (by omega) (by omega)).mono ?_
 rintro e w' ⟨rfl,hw⟩
 have hw':=hw.symm
 subst hw'
 clear hw
 go_wp2_with fail
 refine h2.mono ?_
 rintro e w' ⟨rfl,hw⟩
 have hw':=hw.symm
 subst hw'
 clear hw h2
 go_wp2_with fail
 refine hc.mono ?_
 rintro e w' ⟨rfl,hw⟩
 have hw':=hw.symm
 subst hw'
 clear hw hc
 go_wp2_with fail
 have hne:=Later.some w
 refine wp_region_later (by kernel_rfl) (by kernel_rfl) ?_
 repeat (first|go_big_quiet_skip|(go_big_quiet_want;go_big_quiet_op;first|go_big_quiet_on|(apply Exists.intro;refine⟨fun q=>?_,?_⟩;exact Calls.later_of (p1 q);go_big_quiet_on)))
 go_big_quiet_want
 refine quiet_load_mid 188 _ rfl g o rfl (bs s) _ Hra Tryz.underlying188 rfl Hinfo ?_
 simp only [Act.put,List.setIfInBounds_toArray,List.set_cons_succ,List.set_cons_zero]
 go_big_quiet_on
 go_big_quiet_want
 refine quiet_eq_sec _ _ _ rfl R s rfl rfl Hfl Hsl ?_
 simp only [Act.put,List.setIfInBounds_toArray,List.set_cons_succ,List.set_cons_zero]
 go_big_quiet_on
 repeat (go_big_quiet_want;go_big_quiet_op;go_big_quiet_on)
 refine wpQuiet_nil ?_
 rintro _ ⟨q,rfl⟩
 go_wp2
 go_ret2
 exact⟨k,rfl,Hkk,q.h⟩
end Go.Proofs.YtkiehemoiapkkaaGreat
end
