import Derived.Test.YthohoicgidjpfabGreatW01
import Derived.Test.YthohoicgidjpfabGreatW02
import Derived.RegionTactic
import Derived.OwnWalk
import Derived.ArgAppend
section
namespace Go.Proofs.YthohoicgidjpfabGreat
open Go.RowKit
abbrev areaV (p:Nat) (f n:Int):Value:= .agg #[.pointer (some ⟨p,0,none⟩), .int .i64 f, .int .i64 n]
set_option maxRecDepth 20000 in
set_option maxHeartbeats 2000000 in
theorem aend_any (p:Nat) (f n:Int) (w:World) (hf:0≤f) (hf2:f≤100000) (hn:0≤n) (hn2:n≤100000):
  Calls Tryz.prog 126 #[areaV p f n] w fun e w'=>e= .returned (.int .i64 (f+2+n))∧Below w.heap.size w w':=by
 go_enter Tryz.func126,Tryz.ntmps126
 go_wp2
 go_ret
 exact⟨rfl,((Below.refl w.heap.size w).alloc (Nat.le_refl _) (.cells #[.pointer (some ⟨p,0,none⟩), .int .i64 f, .int .i64 n] 135))⟩
set_option maxRecDepth 20000 in
set_option maxHeartbeats 2000000 in
theorem aat_any (p:Nat) (f n x:Int) (w:World) (hf:0≤f) (hf2:f≤100000) (hn:1≤n) (hn2:n≤100000) (hx:0≤x):
  Calls Tryz.prog 164 #[areaV p f n, .int .i64 x] w fun e w'=>e= .returned (.int .i64 (f+2+x%n))∧Below w.heap.size w w':=by
 have h1:0≤x%n:=Int.emod_nonneg _ (by omega)
 have h2:x%n<n:=Int.emod_lt_of_pos _ (by omega)
 have h3:x.tmod n=x%n:=Int.tmod_eq_emod_of_nonneg hx
 generalize x%n=y at*
 go_enter Tryz.func164,Tryz.ntmps164
 go_wp2
 go_region
 go_wp2
 go_ret
 exact⟨rfl,below_drew ((Below.refl w.heap.size w).alloc (Nat.le_refl _) (.cells #[.pointer (some ⟨p,0,none⟩), .int .i64 f, .int .i64 n] 135))⟩
def lrefuse (S:DS) (s:Nat) (f n:Int):Int:=
 if S.fuse=0 then 3 else if f<0∨(s:Int)≤f then 11 else if n<18∨256<n then 1 else if (s:Int)<f+2+n then 11 else 0
theorem DiskAt.boxed {w:World} {F:Nat→Prop} {p s:Nat} {S:DS} (h:DiskAt w F p s S) (o:Obj):DiskAt (w.alloc o) F p s S:=
 h.keep (Keeps.of_below (fun _=>False) ((Below.refl w.heap.size w).alloc (Nat.le_refl _) o)) (fun _ _ h=>h)
set_option maxRecDepth 20000 in
set_option maxHeartbeats 4000000 in
theorem refusal_any {w:World} {F:Nat→Prop} {p s:Nat} {S:DS} (h:DiskAt w F p s S) (f n:Int) (hs:s≤2048):
  Calls Tryz.prog 91 #[areaV p f n] w fun e w'=>e= .returned (.int .i64 (lrefuse S s f n))∧Below w.heap.size w w':=by
 have hB:=(Below.refl w.heap.size w).alloc (Nat.le_refl _) (.cells #[.pointer (some ⟨p,0,none⟩), .int .i64 f, .int .i64 n] 135)
 have h1:=sectors_at (h.boxed (.cells #[.pointer (some ⟨p,0,none⟩), .int .i64 f, .int .i64 n] 135))
 have h2:=burnt_at (h.boxed (.cells #[.pointer (some ⟨p,0,none⟩), .int .i64 f, .int .i64 n] 135))
 have h3:=aend_any p f n (w.alloc (.cells #[.pointer (some ⟨p,0,none⟩), .int .i64 f, .int .i64 n] 135))
 unfold lrefuse
 go_enter Tryz.func91,Tryz.ntmps91
 by_cases c1:S.fuse=0
 ·rw [show (S.fuse == 0)=true by simp [c1]] at h2
  rw [if_pos c1]
  go_wp2_with (first|(go_at_call 44;refine h1.mono ?_;rintro e w' ⟨rfl,hw⟩;subst hw)|(go_at_call 42;refine h2.mono ?_;rintro e w' ⟨rfl,hw⟩;subst hw))
  go_ret
  exact⟨rfl,hB⟩
 ·rw [show (S.fuse == 0)=false by simp [c1]] at h2
  rw [if_neg c1]
  by_cases c2:f<0∨(s:Int)≤f
  ·rw [if_pos c2]
   by_cases c3:f<0
   ·clear c2
    go_wp2_with (first|(go_at_call 44;refine h1.mono ?_;rintro e w' ⟨rfl,hw⟩;subst hw)|(go_at_call 42;refine h2.mono ?_;rintro e w' ⟨rfl,hw⟩;subst hw))
    go_ret
    exact⟨rfl,hB⟩
   ·have c4:(s:Int)≤f:=by omega
    go_wp2_with (first|(go_at_call 44;refine h1.mono ?_;rintro e w' ⟨rfl,hw⟩;subst hw)|(go_at_call 42;refine h2.mono ?_;rintro e w' ⟨rfl,hw⟩;subst hw))
    go_ret
    exact⟨rfl,hB⟩
  ·rw [if_neg c2]
   have c3:¬f<0:=by omega
   have c4:¬(s:Int)≤f:=by omega
   by_cases c5:n<18∨256<n
   ·rw [if_pos c5]
    by_cases c6:n<18
    ·clear c5
     go_wp2_with (first|(go_at_call 44;refine h1.mono ?_;rintro e w' ⟨rfl,hw⟩;subst hw)|(go_at_call 42;refine h2.mono ?_;rintro e w' ⟨rfl,hw⟩;subst hw))
     go_ret
     exact⟨rfl,hB⟩
    ·have c7:256<n:=by omega
     go_wp2_with (first|(go_at_call 44;refine h1.mono ?_;rintro e w' ⟨rfl,hw⟩;subst hw)|(go_at_call 42;refine h2.mono ?_;rintro e w' ⟨rfl,hw⟩;subst hw))
     go_ret
     exact⟨rfl,hB⟩
   ·rw [if_neg c5]
    have c6:¬n<18:=by omega
    have c7:¬256<n:=by omega
    have h3:=h3 (by omega) (by omega) (by omega) (by omega)
    by_cases c8:(s:Int)<f+2+n
    ·rw [if_pos c8]
     go_wp2_with (first|(go_at_call 44;refine h1.mono ?_;rintro e w' ⟨rfl,hw⟩;subst hw)|(go_at_call 42;refine h2.mono ?_;rintro e w' ⟨rfl,hw⟩;subst hw))
     refine h3.mono ?_
     rintro e w2 ⟨rfl,hb⟩
     go_wp2
     go_ret
     exact⟨rfl,(hB.trans (hb.mono hB.size))⟩
    ·rw [if_neg c8]
     go_wp2_with (first|(go_at_call 44;refine h1.mono ?_;rintro e w' ⟨rfl,hw⟩;subst hw)|(go_at_call 42;refine h2.mono ?_;rintro e w' ⟨rfl,hw⟩;subst hw))
     refine h3.mono ?_
     rintro e w2 ⟨rfl,hb⟩
     go_wp2
     go_ret
     exact⟨rfl,(hB.trans (hb.mono hB.size))⟩
end Go.Proofs.YthohoicgidjpfabGreat
end
section
namespace Go.Proofs.YthohoicgidjpfabGreat
open Go.RowKit
theorem or_u64 (i A X:Nat) (hA:A<2 ^ i) (h:A+2 ^ i*X<18446744073709551616):
  bits .or .u64 (A:Int) ((2 ^ i*X:Nat):Int)=((A+2 ^ i*X:Nat):Int):=by
 have q:∀z:Nat,z<18446744073709551616→(BitVec.ofInt 64 (z:Int)).toNat=z:=by
  intro z hz
  rw [BitVec.toNat_ofInt]
  omega
 have h1:A<18446744073709551616:=by omega
 have h2:2 ^ i*X<18446744073709551616:=by omega
 show IntKind.u64.wrap ((BitVec.ofInt 64 (A:Int) |||BitVec.ofInt 64 ((2 ^ i*X:Nat):Int)).toNat:Int)=_
 rw [BitVec.toNat_or,q A h1,q _ h2,Nat.or_comm,←Nat.two_pow_add_eq_or_of_lt hA X,Nat.add_comm]
 generalize A+2 ^ i*X=Z at*
 simp only [IntKind.wrap,IntKind.bits,IntKind.signed]
 simp
 omega
theorem le_take_succ {l:List Int} {k:Nat} (hk:k<l.length):le (l.take (k+1))=le (l.take k)+2 ^ (8*k)*(l.getD k 0).toNat:=by
 rw [List.take_succ_eq_append_getElem hk,le_append]
 have:(l.take k).length=k:=by simp;omega
 rw [this]
 simp [le,List.getD,hk]
theorem le_small {l:List Int} (hb:Bytes l) (h:l.length≤8):le l<18446744073709551616:=by
 have:=le_lt hb
 exact Nat.lt_of_lt_of_le this (by have:=Nat.pow_le_pow_right (show 0<2 by omega) (show 8*l.length≤64 by omega);simpa using this)
set_option maxHeartbeats 4000000 in
theorem taken_any (b o n c:Nat) (l:List Int) (w:World) (hb:Bytes l) (hl:l.length=n) (hn:n≤8) (hs:∀i,i<n→w.cell? ⟨b,o+i,none⟩=some (.int .u8 (l.getD i 0))):
  Calls Tryz.prog 203 #[.slice (some ⟨b,o,none⟩) n c] w fun e w'=>e= .returned (.int .u64 ((le l:Nat):Int))∧w'=w:=by
 have Hs:=Hid.mk hs
 clear hs
 go_enter Tryz.func203,Tryz.ntmps203
 go_wp2
 go_loopw [3,8] (fun r i wr=>∃j:Nat,j≤n∧i= .int .i64 j∧wr=w∧r= .int .u64 ((le (l.take j):Nat):Int)) (fun _ i _=>n-(intOf i).toNat)
 case atStart=>exact⟨0,Nat.zero_le _,rfl,rfl,by simp [le]⟩
 case round=>
  obtain⟨j,hj,rfl,rfl,rfl⟩:=hrel
  by_cases hlt:j<n
  ·have hlt':(j:Int)<(n:Int):=by omega
   have hc:=Hs.out j hlt
   obtain⟨x,hx,hx1⟩:∃x:Nat,l.getD j 0=(x:Int)∧x<256:=by
    have:=hb.getD j
    exact⟨(l.getD j 0).toNat,by omega,by omega⟩
   have hsucc:=le_take_succ (l:=l) (k:=j) (by omega)
   have hA:le (l.take j)<2 ^ (8*j):=by
    have:=le_lt (hb.take j)
    have e:(l.take j).length=j:=by simp;omega
    rwa [e] at this
   have hB:le (l.take (j+1))<18446744073709551616:=le_small (hb.take _) (by simp;omega)
   rw [hx] at hc hsucc
   simp only [Int.toNat_natCast] at hsucc
   rw [hsucc] at hB
   have hor:=or_u64 (8*j) _ x hA hB
   rw [←hsucc] at hor
   have hsh2:((x:Int)*2 ^ (8*j))=((2 ^ (8*j)*x:Nat):Int):=by rw [Int.natCast_mul,Int.natCast_pow,Int.mul_comm];rfl
   have hlt2:((2 ^ (8*j)*x:Nat):Int)%18446744073709551616=((2 ^ (8*j)*x:Nat):Int):=by omega
   generalize 2 ^ (8*j)*x=Y at*
   generalize le (l.take j)=A at*
   clear hA hB hsucc
   go_wp2
   go_roundw
   case rel=>exact⟨j+1,by omega,by go_num,trivial,by rw [←(Hid.mk hor).out]⟩
   case measure=>simp [intOf];omega
  ·have hlt':¬(j:Int)<(n:Int):=by omega
   have ej:l.take j=l:=List.take_of_length_le (by omega)
   rw [ej] at*
   go_wp2
   go_ret
   exact⟨rfl,rfl⟩
set_option maxHeartbeats 4000000 in
theorem nextTurn_any (g o:Nat) (a b:Int) (w:World) (ha:w.cell? ⟨g,o,none⟩=some (.int .u8 a)) (hb:w.cell? ⟨g,o+511,none⟩=some (.int .u8 b)):
  Calls Tryz.prog 157 #[.pointer (some ⟨g,o,none⟩)] w fun e w'=>e= .returned (.int .u8 ((turnOf a b:Nat):Int))∧w'=w:=by
 have hle:=turnOf_le a b
 have hmin:∀k:Nat,k<turnOf a b→(k:Int)=a∨(k:Int)=b:=by
  intro k hk
  unfold turnOf at hk
  split at hk
  ·omega
  ·split at hk
   ·next h1 h2=>omega
   ·next h1 h2=>omega
 have hne:=turnOf_ne a b
 generalize turnOf a b=t at*
 go_enter Tryz.func157,Tryz.ntmps157
 go_wp2
 go_loopw [3] (fun i wr=>∃k:Nat,k≤t∧i= .int .u8 k∧wr=w) (fun i _=>t-(intOf i).toNat)
 case atStart=>exact⟨0,Nat.zero_le _,rfl,rfl⟩
 case round=>
  obtain⟨k,hk,rfl,rfl⟩:=hrel
  by_cases hlt:k<t
  ·by_cases h1:(k:Int)=a
   ·have q1:((k:Int) == a)=true:=by simpa using h1
    go_wp2
    go_roundw
    case rel=>exact⟨k+1,by omega,by go_num,trivial⟩
    case measure=>simp [intOf];omega
   ·have h2:=(hmin k hlt).resolve_left h1
    have q1:((k:Int) == a)=false:=by simpa using h1
    have q2:((k:Int) == b)=true:=by simpa using h2
    go_wp2
    go_roundw
    case rel=>exact⟨k+1,by omega,by go_num,trivial⟩
    case measure=>simp [intOf];omega
  ·obtain rfl:k=t:=by omega
   have q1:((k:Int) == a)=false:=by simpa using hne.1
   have q2:((k:Int) == b)=false:=by simpa using hne.2
   go_wp2
   go_ret
   exact⟨rfl,rfl⟩
set_option maxRecDepth 20000 in
set_option maxHeartbeats 4000000 in
theorem ssum_any (g:Nat) (T:TypeId) (l:List Int) (w:World) (hb:Blk w T g l) (hl:l.length=512) (hby:Bytes l):
  Calls Tryz.prog 182 #[.pointer (some ⟨g,0,none⟩)] w fun e w'=>e= .returned (.int .i64 ((sumOf (stextOf l):Nat):Int))∧Below w.heap.size w w':=by
 obtain⟨i0,hi,hz0,hz1,hz2⟩:=info_parts infoU8
 have s1:=hb.src (o:=1) (n:=2) (by omega)
 have s2:=hb.src (o:=7) (n:=504) (by omega)
 have b1:Bytes ((l.drop 1).take 2):=(hby.drop _).take _
 have b2:Bytes ((l.drop 7).take 504):=(hby.drop _).take _
 unfold stextOf
 generalize (l.drop 1).take 2=X at*
 generalize (l.drop 7).take 504=Y at*
 go_enter Tryz.func182,Tryz.ntmps182
 go_wp2_with fail
 refine(cut_any g 0 1 3 w (by omega) (by omega)).mono ?_
 rintro e w1 ⟨rfl,hw⟩
 have hw':=hw.symm
 subst hw'
 go_wp2_with fail
 refine(cut_any g 0 7 511 w (by omega) (by omega)).mono ?_
 rintro e w1 ⟨rfl,hw⟩
 have hw':=hw.symm
 subst hw'
 go_wp2_with (at_builtin;refine wpList_append_grows _ rfl _ _ 44 rfl 5 i0 (.int .u8 0) 1 1 Tryz.underlying44 hi hz0 hz1 hz2 rfl (by decide) (some ⟨g,1,none⟩) 2 2 (bs X) rfl ?m0 ?m1 ?m2 ⟨g,7,none⟩ 504 504 (bs Y) rfl ?m3 ?m4 ?m5 ?m6 ?m7 ?m8 ?_)
 case m0=>intro h;cases h
 case m1=>have:=s1.1;simpa [bs] using this
 case m2=>
  intro b hb j u hj
  cases hb
  obtain⟨hj1,rfl⟩:=bs_getElem hj
  have:=s1.1
  exact s1.2.2 _ rfl j (by omega)
 case m3=>have:=s2.1;simpa [bs] using this
 case m4=>
  intro j u hj
  obtain⟨hj1,rfl⟩:=bs_getElem hj
  have:=s2.1
  exact s2.2.2 _ rfl j (by omega)
 case m5=>exact bs_one _
 case m6=>omega
 case m7=>unfold maxLen;omega
 case m8=>omega
 intro v' w1 hown hgrow
 have hO:=own_of (l:=X ++ Y) (by rw [bs_append];exact hown) (by have:=s1.1;have:=s2.1;simp;omega) rfl
 obtain⟨a,c,rfl,hsrc,_,_⟩:=hO.src
 have hs:=sum_any a (X ++ Y).length c (X ++ Y) w1 (b1.append b2) (by have:=s1.1;have:=s2.1;simp;omega) hsrc
 have HB:=(Below.refl _ w).grown hgrow (Nat.le_refl _) (by intro k hk;cases hk)
 generalize (X ++ Y).length=N at*
 obtain⟨E,hE⟩:∃E,E=sumOf (X ++ Y):=⟨_,rfl⟩
 rw [←hE] at hs
 go_wp2_with fail
 refine hs.mono ?_
 rintro e w2 ⟨rfl,hb2⟩
 go_wp2
 go_ret
 exact⟨by rw [←hE];rfl,(HB.trans (hb2.mono HB.size))⟩
end Go.Proofs.YthohoicgidjpfabGreat
end
section
namespace Go.Proofs.YthohoicgidjpfabGreat
open Go.RowKit
def zs (n:Nat):List Int:=List.replicate n 0
theorem zs_len (n:Nat):(zs n).length=n:=List.length_replicate
theorem zs_succ (n:Nat):zs (n+1)=0 :: zs n:=List.replicate_succ
theorem zs_add (n m:Nat):zs (n+m)=zs n ++ zs m:=by unfold zs;rw [List.replicate_append_replicate]
def zsec:Array Value:=(bs (zs 512)).toArray
theorem infoSec:(Tryz.prog.info? 187).map (fun i=>(i.zero,i.size))=some (some (.agg zsec),512):=by kernel_rfl
theorem zeroSec (w:World):(zeroValue 187).run Tryz.prog w= .ok (.agg zsec) w:=by
 obtain⟨i,hi,he⟩:=Option.map_eq_some_iff.1 infoSec
 simp only [Prod.mk.injEq] at he
 simp [zeroValue,typeInfo,hi,he.1]
theorem sizeSec:(Tryz.prog.info? 187).map (·.size)=some 512:=by
 obtain⟨i,hi,he⟩:=Option.map_eq_some_iff.1 infoSec
 simp only [Prod.mk.injEq] at he
 rw [hi,←he.2];rfl
theorem leb2 (n:Nat) (h:n<65536):leb 2 n= [((n%256:Nat):Int),((n / 256:Nat):Int)]:=by
 simp only [leb]
 congr 3
 omega
theorem leb4 (s:Nat):leb 4 s=bytes4 s:=by
 simp only [leb,bytes4,Nat.div_div_eq_div_mul]
theorem set_last (l:List Int) (x y:Int):(l ++ [x]).set l.length y=l ++ [y]:=by
 rw [List.set_append_right _ _ (Nat.le_refl _),Nat.sub_self];rfl
def s1 (t:Int):List Int:=t :: (zs 510 ++ [t])
theorem s1_len (t:Int):(s1 t).length=512:=by simp only [s1,List.length_cons,List.length_append,zs_len,List.length_nil]
def s2 (t:Int) (n:Nat):List Int:=t :: ((n%256:Nat):Int) :: ((n / 256:Nat):Int) :: (zs 508 ++ [t])
theorem s2_len (t:Int) (n:Nat):(s2 t n).length=512:=by simp only [s2,List.length_cons,List.length_append,zs_len,List.length_nil]
theorem s2_of (t:Int) (n:Nat) (h:n<65536):put (s1 t) 1 (leb 2 n)=s2 t n:=by
 rw [leb2 n h]
 unfold s1 s2
 rw [zs_succ 509,zs_succ 508]
 simp only [put,List.take_succ_cons,List.take_zero,List.length_cons,List.length_nil,List.cons_append,List.nil_append,List.drop_succ_cons,List.drop_zero]
def s3 (t:Int) (body:List Int):List Int:=t :: ((body.length%256:Nat):Int) :: ((body.length / 256:Nat):Int) :: 0 :: 0 :: 0 :: 0 :: (body ++ (List.replicate (504-body.length) 0 ++ [t]))
theorem s3_len (t:Int) {body:List Int} (h:body.length≤504):(s3 t body).length=512:=by simp [s3];omega
theorem s3_of (t:Int) (body:List Int) (h:body.length≤504):put (s2 t body.length) 7 body=s3 t body:=by
 unfold s2 s3
 have e:(zs 508 ++ [t])=0 :: 0 :: 0 :: 0 :: (zs body.length ++ (zs (504-body.length) ++ [t])):=by
  rw [←List.append_assoc,←zs_add,show body.length+(504-body.length)=504 by omega,zs_succ 507,zs_succ 506,zs_succ 505,zs_succ 504]
  rfl
 rw [e]
 simp only [put,List.take_succ_cons,List.take_zero,List.cons_append,List.nil_append]
 rw [show 7+body.length=body.length+7 by omega]
 simp only [List.drop_succ_cons]
 rw [List.drop_left' (zs_len _)]
 rfl
theorem s3_bytes {t:Int} {body:List Int} (ht:0≤t∧t<256) (hb:Bytes body) (h:body.length≤504):Bytes (s3 t body):=
   .cons ht (.cons (by omega) (.cons (by omega) (.cons (by omega) (.cons (by omega) (.cons (by omega) (.cons (by omega) (hb.append ((Bytes.zeros _).append (.cons ht .nil)))))))))
theorem s3_text (t:Int) (body:List Int) (h:body.length≤504):stextOf (s3 t body)=stext body:=by
 unfold stextOf s3 stext
 simp only [List.drop_succ_cons,List.drop_zero,List.take_succ_cons,List.take_zero,List.cons_append,List.nil_append]
 rw [←List.append_assoc,List.take_left' (by simp;omega)]
theorem s4_of (t:Int) (body:List Int):put (s3 t body) 3 (leb 4 (sumOf (stext body)))=sform t body:=by
 rw [leb4]
 unfold s3 sform
 simp only [put,List.take_succ_cons,List.take_zero,bytes4_len,List.cons_append,List.nil_append,List.drop_succ_cons,List.drop_zero]
theorem bs_put (l xs:List Int) (o:Nat):splice (bs l) o (bs xs)=bs (put l o xs):=by
 simp [splice,bs,put,List.map_take,List.map_drop]
theorem copy_blk (w:World) (ty T:TypeId) (g off dLen dCap:Nat) (a:Option Addr) (sLen sCap:Nat) (cur l:List Int) (hg:Blk w T g cur)
    (hs:Src w a sLen l) (hle:sLen≤dLen) (hfit:off+dLen≤cur.length):
  ∃w2,(Builtin.copy_ #[44,44] ty #[.slice (some ⟨g,off,none⟩) dLen dCap, .slice a sLen sCap]).run Tryz.prog w= .ok (goInt sLen) w2∧
   Blk w2 T g (put cur off l)∧Keeps (fun k=>k=g) w w2∧w2.heap.size=w.heap.size:=by
 have hl:=hs.1
 by_cases h0:sLen=0
 ·refine⟨w,?_,?_,Keeps.refl _ _,rfl⟩
  ·have:=run_copy_none (P:=Tryz.prog) w 44 44 ty 5 (some ⟨g,off,none⟩) a dLen dCap sLen sCap Tryz.underlying44 sizeU8 (by rw [h0];exact Nat.zero_min _)
   rw [h0] at this⊢
   exact this
  ·have:l= []:=List.eq_nil_of_length_eq_zero (by omega)
   rw [this,put_nil];exact hg
 ·cases a with
  |none=>have:=hs.2.1 rfl;omega
  |some x=>
   have hlen:(bs l).length=Nat.min sLen dLen:=by
    have e:Nat.min sLen dLen=sLen:=Nat.min_eq_left hle
    simp only [bs,List.length_map,e];omega
   have hrun:=run_copy_row (P:=Tryz.prog) w 44 44 ty 5 g off dLen dCap x sLen sCap (bs cur).toArray T (bs l) Tryz.underlying44 sizeU8 hg hlen
      (fun j v hj=>by
     obtain⟨hj',rfl⟩:=bs_getElem hj
     rw [hs.2.2 x rfl j (by omega)]) (by simp only [List.size_toArray];simp [bs];omega) (bs_one _)
   have e:(bs l).length=sLen:=by simp only [bs,List.length_map];omega
   rw [e] at hrun
   refine⟨_,hrun,?_,⟨rfl,rfl,rfl,by simp,fun k _ hk=>setRow_other w g k _ hk⟩,by simp⟩
   unfold Blk
   rw [setRow_heap w g _ _ T _ hg,←bs_put]
   simp only [splice,List.append_assoc,e]
theorem s1_of (t:Int):(zsec.setIfInBounds 0 (Value.int .u8 t)).setIfInBounds 511 (Value.int .u8 t)=(bs (s1 t)).toArray:=by
 apply Array.ext'
 rw [Array.toList_setIfInBounds,Array.toList_setIfInBounds]
 unfold zsec s1
 show ((bs (zs 512)).set 0 (Value.int .u8 t)).set 511 (Value.int .u8 t)=bs (t :: (zs 510 ++ [t]))
 rw [bs,bs,←List.map_set,←List.map_set,zs_succ 511,List.set_cons_zero,List.set_cons_succ,zs_add 510 1]
 have:=set_last (zs 510) 0 t
 rw [zs_len] at this
 have e:zs 1= [0]:=rfl
 rw [e,this]
end Go.Proofs.YthohoicgidjpfabGreat
end
section
namespace Go.Proofs.YthohoicgidjpfabGreat
open Go.RowKit
theorem blk_range {w:World} {T:TypeId} {g:Nat} {l:List Int} (h:Blk w T g l):w.rangeAt g 0 (bs l):=by
 intro j v hv
 obtain⟨hj,rfl⟩:=bs_getElem hv
 rw [Nat.zero_add]
 exact h.cell hj
theorem there_of {w:World} {T:TypeId} {g n:Nat} {cur:Array Value} (h:w.heap[g]? =some (.cells cur T (0,0))) (hn:cur.size=n):w.there g 0 n:=by
 intro j hj
 rw [Nat.zero_add]
 exact⟨by rw [cell_of_block h (j:=j) (u:=cur[j]'(by omega)) (by simp [show j<cur.size by omega])];rfl,frozen_of_block h j⟩
theorem zsec_size:zsec.size=512:=by unfold zsec;simp only [List.size_toArray,bs,List.length_map,zs_len]
theorem infoSecL {l:List Int} (h:l.length=512):(Tryz.prog.info? 187).map (·.size)=some (bs l).length:=by
 rw [sizeSec,bs,List.length_map,h]
set_option maxRecDepth 20000 in
set_option maxHeartbeats 4000000 in
theorem sealed_any (t:Nat) (a:Option Addr) (n c:Nat) (body:List Int) (w:World) (ht:t<256) (hs:Src w a n body) (hn:n≤504) (hb:Bytes body):
  Calls Tryz.prog 156 #[.int .u8 (t:Int), .slice a n c] w fun e w'=>e= .returned (.agg (bs (sform t body)).toArray)∧Below w.heap.size w w':=by
 have H:=hs
 have hz:=zeroSec
 have hlb:=hs.1
 have hc1:=(fun w1=>cut_any (w.heap.size+1) 0 1 3 w1 (by omega) (by omega))
 have hc2:=(fun w1=>cut_any (w.heap.size+1) 0 7 511 w1 (by omega) (by omega))
 have hc3:=(fun w1=>cut_any (w.heap.size+1) 0 3 7 w1 (by omega) (by omega))
 clear hs
 go_enter Tryz.func156,Tryz.ntmps156
 go_wp2_with fail
 rw [s1_of]
 obtain⟨w1,hw1⟩:∃w1,w1=(w.alloc (.cells zsec 187)).alloc (.cells (bs (s1 t)).toArray 187):=⟨_,rfl⟩
 have hB1:Below w.heap.size w w1:=by rw [hw1];exact((Below.refl _ w).alloc (Nat.le_refl _) _).alloc (by simp) _
 have hblk:Blk w1 187 (w.heap.size+1) (s1 t):=by rw [hw1];exact heap_alloc2_new _ _ _
 have hres:w1.heap[w.heap.size]? =some (.cells zsec 187 (0,0)):=by rw [hw1];exact heap_alloc2_old _ _ _
 rw [←hw1]
 clear hw1 hz
 refine(hc1 w1).mono ?_
 rintro e w' ⟨rfl,hw⟩
 have hw':=hw.symm
 subst hw'
 clear hw hc1
 have hl:=lay_any (w.heap.size+1) 1 2 2 n 187 (s1 t) w1 hblk (by omega) (by rw [s1_len];omega)
 rw [s2_of t n (by omega)] at hl
 have Hres:=hres
 have HB1:=hB1
 clear hblk hres hB1
 go_wp2_with fail
 refine hl.mono ?_
 rintro e w2 ⟨rfl,hblk,hk,hz2⟩
 have hB2:=HB1.trans (hk.below (fun j hj=>by omega) HB1.size)
 have hres:=(hk.block _ (Array.getElem?_eq_some_iff.1 Hres).1 (by omega)).trans Hres
 obtain⟨w3,hrun,hblk3,hk3,hz3⟩:=copy_blk w2 3 187 (w.heap.size+1) 7 504 504 a n c (s2 t n) body hblk (H.later hB2) hn (by rw [s2_len];omega)
 have hB3:=hB2.trans (hk3.below (fun j hj=>by omega) hB2.size)
 have hres3:=(hk3.block _ (Array.getElem?_eq_some_iff.1 hres).1 (by omega)).trans hres
 have e3:=s3_of t body (by omega)
 rw [hlb] at e3
 rw [e3] at hblk3
 have Hblk3:=hblk3
 have Hres3:=hres3
 have HB3:=hB3
 clear hl hblk hk hB2 hres hk3 hB3 hres3 hblk3 HB1 Hres hz2 hz3 e3
 go_wp2_with fail
 refine(hc2 w2).mono ?_
 rintro e w' ⟨rfl,hw⟩
 have hw':=hw.symm
 subst hw'
 clear hw hc2
 go_wp2_with fail
 refine(hc3 w3).mono ?_
 rintro e w' ⟨rfl,hw⟩
 have hw':=hw.symm
 subst hw'
 clear hw hc3 hrun
 have hsum:=ssum_any (w.heap.size+1) 187 (s3 t body) w3 Hblk3 (s3_len t (by omega)) (s3_bytes (by omega) hb (by omega))
 rw [s3_text t body (by omega)] at hsum
 have hS:=sumOf_lt (stext_bytes hb (show body.length≤504 by omega))
 have e4:=s4_of t body
 obtain⟨E,hE⟩:∃E,E=sumOf (stext body):=⟨_,rfl⟩
 rw [←hE] at hsum hS e4
 have He4:=e4
 clear hE e4
 go_wp2_with fail
 refine hsum.mono ?_
 rintro e w4 ⟨rfl,hb4⟩
 have hblk4:=Hblk3.keep (hb4.block _ Hblk3.lt)
 have hres4:=(hb4.block _ (Array.getElem?_eq_some_iff.1 Hres3).1).trans Hres3
 have hB4:=HB3.trans (hb4.mono HB3.size)
 have hl:=lay_any (w.heap.size+1) 3 4 4 E 187 (s3 t body) w4 hblk4 (by omega) (by rw [s3_len t (by omega)];omega)
 rw [He4] at hl
 have Hres4:=hres4
 have HB4:=hB4
 clear hsum hb4 hblk4 hres4 hB4 Hblk3 Hres3 HB3 He4
 go_wp2_with fail
 refine hl.mono ?_
 rintro e w5 ⟨rfl,hblk5,hk5,hz5⟩
 have hres5:=(hk5.block _ (Array.getElem?_eq_some_iff.1 Hres4).1 (by omega)).trans Hres4
 have hB5:=HB4.trans (hk5.below (fun j hj=>by omega) HB4.size)
 have hfl:(sform t body).length=512:=sform_len (by omega)
 have hra:=blk_range hblk5
 have hth:=there_of hres5 zsec_size
 have hinfo:=infoSecL hfl
 have hll:(bs (sform t body)).length=512:=by rw [bs,List.length_map,hfl]
 have hone:=bs_one (sform t body)
 generalize hF:bs (sform t body)=F at*
 rw [←hll] at hth
 have hrs:=(World.rangeAt_setCells_same w5 w.heap.size 0 F hth)
 have hall:=all_oneCell_toArray hone
 have hB6:=hB5.trans ((Keeps.setCells (F:=fun j=>j=w.heap.size) rfl F 0 w5).below (fun j hj=>by omega) hB5.size)
 have HF:=hF
 clear hl hblk5 hk5 hz5 hres5 hB5 hfl Hres4 HB4 hone hF
 go_wp2_with (first|refine wpList_load_mid rfl 187 _ rfl (w.heap.size+1) 0 rfl F _ hra Tryz.underlying187 rfl hinfo ?_|refine wpList_store_mid rfl 187 _ _ rfl w.heap.size 0 F.toArray rfl rfl ?h1 ?h2 hall ?_)
 case h1=>simpa using hth
 case h2=>simpa using hinfo
 exact bodyPost_ret (results_cell_mid (P:=Tryz.prog) rfl _ _ w.heap.size F _ rfl hrs Tryz.underlying187 rfl hinfo) rfl ⟨by rw [HF],hB6⟩
end Go.Proofs.YthohoicgidjpfabGreat
end
section
namespace Go.Proofs.YthohoicgidjpfabGreat
open Go.RowKit
theorem results_cell_tmp {P:Program} {fn:Func} {p q:Tmp} {ty:TypeId} (h:fn.results= #[.cell p ty, .tmp q]) (tmps:Array Value) (w:World) (g:Nat) (cs:List Value) (d:TypeDesc) (v:Value)
    (hp:tmps.getD p undef= .pointer (some ⟨g,0,none⟩)) (hq:tmps.getD q undef=v) (hg:w.rangeAt g 0 cs) (hu:P.underlying ty=some d) (hd:d.isRow=true) (hi:(P.info? ty).map (·.size)=some cs.length):
    (results fn tmps).run P w= .ok (.tuple #[.agg cs.toArray,v]) w:=by
 have hp':tmps[p]?.getD undef= .pointer (some ⟨g,0,none⟩):=by simpa using hp
 have hq':tmps[q]?.getD undef=v:=by simpa using hq
 simp [results,h,hp',hq',asAddr,run_loadVar_mid w g 0 ty cs d hg hu hd hi]
theorem src_range {w:World} {b o n:Nat} {l:List Int} (h:Src w (some ⟨b,o,none⟩) n l):w.rangeAt b o (bs l):=by
 intro j v hv
 obtain⟨hj,rfl⟩:=bs_getElem hv
 have:=h.2.2 _ rfl j (by have:=h.1;omega)
 rwa [addr_add] at this
theorem arraySec (a:Option Addr) (c:Nat) (w:World):(Instr.arrayAt 187 (.slice a 512 c)).run Tryz.prog w= .ok (.pointer a) w:=by
 simp [Instr.arrayAt,run_underlying Tryz.underlying187]
theorem zsec_one:∀v∈zsec.toList,v.oneCell'=true:=bs_one (zs 512)
theorem infoSecZ:(Tryz.prog.info? 187).map (·.size)=some zsec.toList.length:=infoSecL (l:=zs 512) (zs_len 512)
set_option maxRecDepth 20000 in
set_option maxHeartbeats 4000000 in
theorem sectorOf_no (a:Option Addr) (n c:Nat) (w:World) (hn:n≠512):
  Calls Tryz.prog 178 #[.slice a n c] w fun e w'=>e= .returned (.tuple #[.agg zsec, .bool false])∧Below w.heap.size w w':=by
 have hz:=zeroSec
 have h1:(((n:Int)) != 512)=true:=by rw [bne_iff_ne];omega
 have hinfo:=infoSecZ
 have hone:=zsec_one
 generalize zsec=Z at*
 have hw1:(w.alloc (.cells Z 187)).heap[w.heap.size]? =some (.cells Z 187 (0,0)):=heap_alloc_new _ _
 have hth:(w.alloc (.cells Z 187)).there w.heap.size 0 Z.toList.length:=there_of hw1 (by simp)
 have hall:Z.all Value.oneCell'=true:=all_oneCell_toArray hone
 have hB1:Below w.heap.size w (w.alloc (.cells Z 187)):=(Below.refl _ w).alloc (Nat.le_refl _) _
 go_enter Tryz.func178,Tryz.ntmps178
 go_wp2_with (refine wpList_store_mid rfl 187 _ _ rfl w.heap.size 0 Z rfl rfl ?h1 ?h2 hall ?_)
 case h1=>simpa using hth
 case h2=>simpa using hinfo
 exact bodyPost_ret (results_cell_tmp (P:=Tryz.prog) rfl _ _ w.heap.size Z.toList _ _ rfl rfl (World.rangeAt_setCells_same _ w.heap.size 0 Z.toList hth) Tryz.underlying187 rfl hinfo) rfl ⟨rfl,(hB1.trans ((Keeps.setCells (F:=fun j=>j=w.heap.size) rfl Z.toList 0 _).below (fun j hj=>by omega) hB1.size))⟩
set_option maxRecDepth 20000 in
set_option maxHeartbeats 4000000 in
theorem sectorOf_ok (b o c:Nat) (l:List Int) (w:World) (hs:Src w (some ⟨b,o,none⟩) 512 l):
  Calls Tryz.prog 178 #[.slice (some ⟨b,o,none⟩) 512 c] w fun e w'=>e= .returned (.tuple #[.agg (bs l).toArray, .bool true])∧Below w.heap.size w w':=by
 have hz:=zeroSec
 have harr:=arraySec (some ⟨b,o,none⟩) c
 have hB1:Below w.heap.size w (w.alloc (.cells zsec 187)):=(Below.refl _ w).alloc (Nat.le_refl _) _
 have hra:=src_range (hs.later hB1)
 have hinfo:=infoSecL (l:=l) hs.1
 have hone:=bs_one l
 have hw1:(w.alloc (.cells zsec 187)).heap[w.heap.size]? =some (.cells zsec 187 (0,0)):=heap_alloc_new _ _
 have hth:=there_of hw1 zsec_size
 have hll:(bs l).length=512:=by rw [bs,List.length_map,hs.1]
 generalize bs l=F at*
 rw [←hll] at hth
 have hrs:=(World.rangeAt_setCells_same _ w.heap.size 0 F hth)
 have hall:=all_oneCell_toArray hone
 have hB6:=(hB1.trans ((Keeps.setCells (F:=fun j=>j=w.heap.size) rfl F 0 _).below (fun j hj=>by omega) hB1.size))
 go_enter Tryz.func178,Tryz.ntmps178
 go_wp2_with (first|refine wpList_load_mid rfl 187 _ rfl b o rfl F _ hra Tryz.underlying187 rfl hinfo ?_|refine wpList_store_mid rfl 187 _ _ rfl w.heap.size 0 F.toArray rfl rfl ?h1 ?h2 hall ?_)
 case h1=>simpa using hth
 case h2=>simpa using hinfo
 exact bodyPost_ret (results_cell_tmp (P:=Tryz.prog) rfl _ _ w.heap.size F _ _ rfl rfl hrs Tryz.underlying187 rfl hinfo) rfl ⟨rfl,hB6⟩
end Go.Proofs.YthohoicgidjpfabGreat
end
section
namespace Go.Proofs.YthohoicgidjpfabGreat
open Go.RowKit
def Lst (w:World) (B:Nat) (v:Value) (l:List Int):Prop:=∃a c,v= .slice a l.length c∧Src w a l.length l∧l.length≤c∧∀x,a=some x→B≤x.block
theorem Lst.nil (w:World) (B:Nat):Lst w B (.slice none 0 0) []:=⟨none,0,rfl,⟨rfl,fun _=>rfl,fun x hx=>by cases hx⟩,Nat.le_refl _,fun x hx=>by cases hx⟩
theorem Lst.later {w w':World} {B:Nat} {v:Value} {l:List Int} (h:Lst w B v l) (hb:Below w.heap.size w w'):Lst w' B v l:=by
 obtain⟨a,c,rfl,hs,hc,hx⟩:=h
 exact⟨a,c,rfl,hs.later hb,hc,hx⟩
theorem Blk.lst {w:World} {T:TypeId} {g B:Nat} {l:List Int} (h:Blk w T g l) (hg:B≤g):Lst w B (.slice (some ⟨g,0,none⟩) l.length l.length) l:=by
 refine⟨some ⟨g,0,none⟩,l.length,rfl,?_,Nat.le_refl _,fun x hx=>by cases hx;exact hg⟩
 have:=h.src (o:=0) (n:=l.length) (by omega)
 simpa using this
theorem heap_setCells_full {w:World} {T:TypeId} {g:Nat}:∀(vs pre:List Value) (cur:Array Value),w.heap[g]? =some (.cells cur T (0,0))→(∃post,cur.toList=pre ++ post∧post.length=vs.length)→
    (w.setCells g pre.length vs).heap[g]? =some (.cells (pre ++ vs).toArray T (0,0)):=by
 intro vs
 induction vs generalizing w with
 |nil=>
  intro pre cur hg ⟨post,he,hl⟩
  have:post= []:=List.eq_nil_of_length_eq_zero hl
  subst this
  simp only [List.append_nil] at he⊢
  show w.heap[g]? =_
  rw [hg,←he]
 |cons v r ih=>
  intro pre cur hg ⟨post,he,hl⟩
  cases post with
  |nil=>simp at hl
  |cons u post=>
   have e:(cur.setIfInBounds pre.length v).toList=(pre ++ [v]) ++ post:=by
    rw [Array.toList_setIfInBounds,he,List.set_append_right _ _ (Nat.le_refl _),Nat.sub_self]
    simp
   have:=ih (w:=w.setCell ⟨g,pre.length,none⟩ v) (pre ++ [v]) _ (heap_setCell_same w g pre.length cur T v hg) ⟨post,e,by simpa using hl⟩
   simp only [World.setCells]
   simpa using this
theorem blk_stored {w:World} {T:TypeId} {g:Nat} {cur:Array Value} {l:List Int} (hg:w.heap[g]? =some (.cells cur T (0,0))) (hl:cur.size=l.length):Blk (w.setCells g 0 (bs l)) T g l:=
 heap_setCells_full (bs l) [] cur hg ⟨cur.toList,rfl,by simp [bs,hl]⟩
end Go.Proofs.YthohoicgidjpfabGreat
end
section
namespace Go.Proofs.YthohoicgidjpfabGreat
open Go.RowKit
end Go.Proofs.YthohoicgidjpfabGreat
end
section
namespace Go.Proofs.YthohoicgidjpfabGreat
open Go.RowKit
end Go.Proofs.YthohoicgidjpfabGreat
end
section
namespace Go.Proofs.YthohoicgidjpfabGreat
open Go.RowKit
end Go.Proofs.YthohoicgidjpfabGreat
end
section
namespace Go.Proofs.YthohoicgidjpfabGreat
open Go.RowKit
end Go.Proofs.YthohoicgidjpfabGreat
end
section
namespace Go.Proofs.YthohoicgidjpfabGreat
open Go.RowKit
theorem src_spot {w:World} {a:Option Addr} {n:Nat} {l:List Int} (h:Src w a n l) (hn:0<n):∃b o,a=some ⟨b,o,none⟩:=by
 cases a with
 |none=>have:=h.2.1 rfl;omega
 |some x=>
  obtain⟨b,o,rfl,_⟩:=h.spot hn
  exact⟨b,o,rfl⟩
end Go.Proofs.YthohoicgidjpfabGreat
end
section
namespace Go.Proofs.YthohoicgidjpfabGreat
open Go.RowKit
end Go.Proofs.YthohoicgidjpfabGreat
end
section
namespace Go.Proofs.YthohoicgidjpfabGreat
open Go.RowKit
theorem sopens_no1 {s:List Int} (h:s.length≠512):sopens s=([],2):=by unfold sopens;rw [if_pos h]
theorem sopens_none {s:List Int} (h:s.length=512) (h2:sopen s=none):sopens s=([],30):=by unfold sopens;rw [if_neg (by omega),h2]
theorem sopens_some {s b:List Int} (h:s.length=512) (h2:sopen s=some b):sopens s=(b,0):=by unfold sopens;rw [if_neg (by omega),h2]
theorem sopen_yes {s:List Int} (h1:slen s≤504) (h2:s.getD 0 0≤2) (h3:sform (s.getD 0 0) (sbody s)=s):sopen s=some (sbody s):=by unfold sopen;rw [if_pos ⟨h1,h2,h3⟩]
theorem sopen_no {s:List Int} (h:¬(slen s≤504∧s.getD 0 0≤2∧sform (s.getD 0 0) (sbody s)=s)):sopen s=none:=by unfold sopen;rw [if_neg h]
theorem slen_eq {s:List Int} (h:Bytes s):((slen s:Nat):Int)=s.getD 1 0+256*s.getD 2 0:=by
 have h1:=h.getD 1
 have h2:=h.getD 2
 unfold slen
 omega
end Go.Proofs.YthohoicgidjpfabGreat
end
section
namespace Go.Proofs.YthohoicgidjpfabGreat
open Go.RowKit
theorem le2 {a b:Int} (ha:0≤a) (hb:0≤b):((le [a,b]:Nat):Int)=a+256*b:=by
 simp only [le]
 omega
theorem take2 {s:List Int} (h:s.length=512):(s.drop 1).take 2= [s.getD 1 0,s.getD 2 0]:=by
 match s,h with
 |a :: b :: c :: r,_=>rfl
theorem src_part {w:World} {b o n:Nat} {l:List Int} (h:Src w (some ⟨b,o,none⟩) n l) {i m:Nat} (hm:i+m≤n):Src w (some ⟨b,o+i,none⟩) m ((l.drop i).take m):=
   ⟨by have:=h.1;simp;omega,(fun e=>by cases e),fun x hx j hj=>by
  cases hx
  have:=h.2.2 _ rfl (i+j) (by omega)
  rw [addr_add] at this⊢
  rw [Nat.add_assoc,this]
  simp [List.getD,hj]⟩
set_option maxRecDepth 20000 in
set_option maxHeartbeats 4000000 in
theorem open_no (g o:Nat) (s:List Int) (w:World) (hs:Src w (some ⟨g,o,none⟩) 512 s) (hb:Bytes s) (hbad:504<slen s∨2<s.getD 0 0):
  Calls Tryz.prog 202 #[.pointer (some ⟨g,o,none⟩)] w fun e w'=>e= .returned (.tuple #[.slice none 0 0, .bool false])∧w'=w:=by
 have hp:=src_part hs (i:=1) (m:=2) (by omega)
 have h2:=taken_any g (o+1) 2 2 ((s.drop 1).take 2) w ((hb.drop _).take _) hp.1 (by omega) (fun i hi=>by have:=hp.2.2 _ rfl i hi;rwa [addr_add] at this)
 rw [take2 hs.1,le2 (hb.getD 1).1 (hb.getD 2).1,←(slen_eq hb)] at h2
 have c0:=hs.2.2 _ rfl 0 (by omega)
 rw [addr_add,Nat.add_zero] at c0
 have g0:=hb.getD 0
 have h00:=g0.1
 have h01:=g0.2
 generalize s.getD 0 0=x at*
 generalize slen s=N at*
 clear hs hp g0
 go_enter Tryz.func202,Tryz.ntmps202
 go_wp2_with fail
 refine(cut_any g o 1 3 w (by omega) (by omega)).mono ?_
 rintro e w' ⟨rfl,hw⟩
 have hw':=hw.symm
 subst hw'
 clear hw
 go_wp2_with fail
 refine h2.mono ?_
 rintro e w' ⟨rfl,hw⟩
 have hw':=hw.symm
 subst hw'
 clear hw h2
 by_cases hx:2<x
 ·have hx':3≤x:=by omega
  go_wp2
  go_ret2
  exact⟨rfl,rfl⟩
 ·have hx':¬3≤x:=by omega
  have hN:504<(N:Int):=by omega
  go_wp2
  go_ret2
  exact⟨rfl,rfl⟩
theorem quiet_load_mid {P:Program} {C:World→Prop} {a:Act} {op:Oper} {K:Act→Prop} (ty:TypeId) (x:Operand) (ho:op.op= .load ty x)
    (b o:Nat) (hx:a.eval x= .pointer (some ⟨b,o,none⟩)) (cs:List Value) (d:TypeDesc) (hc:∀w,C w→w.rangeAt b o cs)
    (hu:P.underlying ty=some d) (hd:d.isRow=true) (hi:(P.info? ty).map (·.size)=some cs.length) (hk:K (a.put op.dst (.agg cs.toArray))):op.quiet P a C K:=
   ⟨_,fun w hw=>by
  unfold Oper.quietAt execOp
  simp only [ho,hx,Instr.loadAt,Instr.sureAddr,Sem.run_bind,Sem.run_pure,Result.andThen_ok,run_loadVar_mid w b o ty cs d (hc w hw) hu hd hi]
  exact⟨rfl,rfl⟩,hk⟩
theorem quiet_eq_sec {C:World→Prop} {a:Act} {op:Oper} {K:Act→Prop} (x y:Operand) (T:TypeId) (ho:op.op= .binOp .eql 187 x y T)
    (l m:List Int) (hx:a.eval x= .agg (bs l).toArray) (hy:a.eval y= .agg (bs m).toArray) (hl:l.length=512) (hm:m.length=512) (hk:K (a.put op.dst (.bool (decide (l=m))))):op.quiet Tryz.prog a C K:=
   ⟨_,fun w _=>by
  unfold Oper.quietAt execOp
  simp only [ho,hx,hy]
  have:=eqop_sec l m hl hm w x y
  rw [Sem.run_bind,this]
  exact⟨rfl,rfl⟩,hk⟩
set_option maxRecDepth 20000 in
set_option maxHeartbeats 4000000 in
theorem open_yes (g o:Nat) (s:List Int) (w:World) (hs:Src w (some ⟨g,o,none⟩) 512 s) (hb:Bytes s) (hN:slen s≤504) (hx:s.getD 0 0≤2):
  Calls Tryz.prog 202 #[.pointer (some ⟨g,o,none⟩)] w fun e w'=>∃k,e= .returned (.tuple #[.slice (some ⟨g,k,none⟩) (slen s) (slen s), .bool (decide (sform (s.getD 0 0) (sbody s)=s))])∧(0<slen s→k=o+7)∧Below w.heap.size w w':=by
 have hp:=src_part hs (i:=1) (m:=2) (by omega)
 have h2:=taken_any g (o+1) 2 2 ((s.drop 1).take 2) w ((hb.drop _).take _) hp.1 (by omega) (fun i hi=>by have:=hp.2.2 _ rfl i hi;rwa [addr_add] at this)
 rw [take2 hs.1,le2 (hb.getD 1).1 (hb.getD 2).1,←(slen_eq hb)] at h2
 have c0:=hs.2.2 _ rfl 0 (by omega)
 rw [addr_add,Nat.add_zero] at c0
 have g0:=hb.getD 0
 have hbody:∃k,Src w (some ⟨g,k,none⟩) (slen s) (sbody s)∧(0<slen s→k=o+7)∧Calls Tryz.prog 181 #[.pointer (some ⟨g,o,none⟩), .int .i64 7, .int .i64 (7+(slen s:Int))] w fun e w'=>e= .returned (.slice (some ⟨g,k,none⟩) (slen s) (slen s))∧w'=w:=by
  by_cases h0:slen s=0
  ·have hcn:=cut_none g o 7 w (by omega)
   refine⟨o,⟨by rw [sbody_len hN hs.1],(fun e=>by cases e),fun x hx i hi=>by omega⟩,fun h=>by omega,?_⟩
   rw [h0]
   exact hcn
  ·have hc:=cut_any g o 7 (7+slen s) w (by omega) (by omega)
   refine⟨o+7,src_part hs (i:=7) (m:=slen s) (by omega),fun _=>rfl,?_⟩
   have e1:7+slen s-7=slen s:=by omega
   rw [e1] at hc
   have e2:((7+slen s:Nat):Int)=7+(slen s:Int):=by omega
   rw [e2] at hc
   exact hc
 obtain⟨k,hk,hkk,hc⟩:=hbody
 obtain⟨t,ht⟩:∃t:Nat,s.getD 0 0=(t:Int):=⟨(s.getD 0 0).toNat,by omega⟩
 have hbb:Bytes (sbody s):=(hb.drop _).take _
 rw [ht] at c0 hx⊢
 have p1:(∀q:Later w,Calls Tryz.prog 156 #[.int .u8 (t:Int), .slice (some ⟨g,k,none⟩) (slen s) (slen s)] q.to fun e w'=>e= .returned (.agg (bs (sform t (sbody s))).toArray)∧Below q.to.heap.size q.to w'):=
  fun q=>sealed_any t (some ⟨g,k,none⟩) (slen s) (slen s) (sbody s) q.to (by omega) (hk.later q.h) hN hbb
 have hfl:(sform t (sbody s)).length=512:=sform_len (by rw [(sbody_len hN hs.1)];exact hN)
 have hra:∀w',(∃q:Later w,w'=q.to)→w'.rangeAt g o (bs s):=fun w' ⟨q,e⟩=>by rw [e];exact src_range (hs.later q.h)
 have c0q:∀q:Later w,q.to.cell? ⟨g,o,none⟩=some (.int .u8 (t:Int)):=fun q=>cell_later q.h c0
 have Hkk:=hkk
 have Hra:=hra
 have Hfl:=hfl
 have Hsl:=hs.1
 have Hinfo:=infoSecL (l:=s) hs.1
 clear hs hp g0 hk hkk hbb hfl hra
 obtain⟨R,hR⟩:∃R,R=sform t (sbody s):=⟨_,rfl⟩
 rw [←hR] at p1 Hfl⊢
 clear hR
 generalize slen s=N at*
 have hx3:¬3≤(t:Int):=by omega
 go_enter Tryz.func202,Tryz.ntmps202
 go_wp2_with fail
 refine(cut_any g o 1 3 w (by omega) (by omega)).mono ?_
 rintro e w' ⟨rfl,hw⟩
 have hw':=hw.symm
 subst hw'
 clear hw
 go_wp2_with fail
 refine h2.mono ?_
 rintro e w' ⟨rfl,hw⟩
 have hw':=hw.symm
 subst hw'
 clear hw h2
 go_wp2_with fail
 refine hc.mono ?_
 rintro e w' ⟨rfl,hw⟩
 have hw':=hw.symm
 subst hw'
 clear hw hc
 go_wp2_with fail
 have hne:=Later.some w
 refine wp_region_later (by kernel_rfl) (by kernel_rfl) ?_
 repeat (first|go_big_quiet_skip|(go_big_quiet_want;go_big_quiet_op;first|go_big_quiet_on|(apply Exists.intro;refine⟨fun q=>?_,?_⟩;exact Calls.later_of (p1 q);go_big_quiet_on)))
 go_big_quiet_want
 refine quiet_load_mid 187 _ rfl g o rfl (bs s) _ Hra Tryz.underlying187 rfl Hinfo ?_
 simp only [Act.put,List.setIfInBounds_toArray,List.set_cons_succ,List.set_cons_zero]
 go_big_quiet_on
 go_big_quiet_want
 refine quiet_eq_sec _ _ _ rfl R s rfl rfl Hfl Hsl ?_
 simp only [Act.put,List.setIfInBounds_toArray,List.set_cons_succ,List.set_cons_zero]
 go_big_quiet_on
 repeat (go_big_quiet_want;go_big_quiet_op;go_big_quiet_on)
 refine wpQuiet_nil ?_
 rintro _ ⟨q,rfl⟩
 go_wp2
 go_ret2
 exact⟨k,rfl,Hkk,q.h⟩
end Go.Proofs.YthohoicgidjpfabGreat
end
section
namespace Go.Proofs.YthohoicgidjpfabGreat
open Go.RowKit
set_option maxRecDepth 20000 in
set_option maxHeartbeats 4000000 in
theorem sopen_no1 (a:Option Addr) (n c:Nat) (w:World) (hn:n≠512):
  Calls Tryz.prog 185 #[.slice a n c] w fun e w'=>e= .returned (.tuple #[.slice none 0 0, .int .i64 2])∧Below w.heap.size w w':=by
 have hz:=zeroSec
 have hs:=sectorOf_no a n c w hn
 have hinfo:=infoSecZ
 have hone:=zsec_one
 generalize zsec=Z at*
 have hall:Z.all Value.oneCell'=true:=all_oneCell_toArray hone
 go_enter Tryz.func185,Tryz.ntmps185
 go_wp2_with fail
 refine hs.mono ?_
 rintro e w1 ⟨rfl,hb1⟩
 have hw1:(w1.alloc (.cells Z 187)).heap[w1.heap.size]? =some (.cells Z 187 (0,0)):=heap_alloc_new _ _
 have hth:(w1.alloc (.cells Z 187)).there w1.heap.size 0 Z.toList.length:=there_of hw1 (by simp)
 have hB1:Below w.heap.size w (w1.alloc (.cells Z 187)):=hb1.alloc hb1.size _
 have hsz:=hb1.size
 have hB6:=(hB1.trans ((Keeps.setCells (F:=fun j=>j=w1.heap.size) rfl Z.toList 0 _).below (fun j hj=>by omega) hB1.size))
 go_wp2_with (refine wpList_store_mid rfl 187 _ _ rfl w1.heap.size 0 Z rfl rfl ?h1 ?h2 hall ?_)
 case h1=>simpa using hth
 case h2=>simpa using hinfo
 go_ret2
 exact⟨rfl,hB6⟩
set_option maxRecDepth 20000 in
set_option maxHeartbeats 4000000 in
theorem sopen_all (b o c:Nat) (s:List Int) (w:World) (hs:Src w (some ⟨b,o,none⟩) 512 s) (hbs:Bytes s):
  Calls Tryz.prog 185 #[.slice (some ⟨b,o,none⟩) 512 c] w fun e w'=>∃v,e= .returned (.tuple #[v, .int .i64 (((sopens s).2:Nat):Int)])∧Lst w' w.heap.size v (sopens s).1∧Below w.heap.size w w':=by
 have hz:=zeroSec
 have hs1:=sectorOf_ok b o c s w hs
 have hinfo:=infoSecL (l:=s) hs.1
 have hone:=bs_one s
 have hll:(bs s).length=512:=by rw [bs,List.length_map,hs.1]
 have hsl:=hs.1
 have hall:=all_oneCell_toArray hone
 obtain⟨F,hF⟩:∃F,F=bs s:=⟨_,rfl⟩
 rw [←hF] at hs1 hinfo hone hll hall
 have HF:=Hid.mk hF
 clear hone hs hF
 go_enter Tryz.func185,Tryz.ntmps185
 go_wp2_with fail
 refine hs1.mono ?_
 rintro e w1 ⟨rfl,hb1⟩
 have hw1:(w1.alloc (.cells zsec 187)).heap[w1.heap.size]? =some (.cells zsec 187 (0,0)):=heap_alloc_new _ _
 have hth:=there_of hw1 zsec_size
 rw [←hll] at hth
 have hB1:Below w.heap.size w (w1.alloc (.cells zsec 187)):=hb1.alloc hb1.size _
 have hsz:=hb1.size
 have hB2:=hB1.trans ((Keeps.setCells (F:=fun j=>j=w1.heap.size) rfl F 0 _).below (fun j hj=>by omega) hB1.size)
 have hblk:=blk_stored (l:=s) hw1 (by rw [zsec_size,hsl])
 rw [←HF.out] at hblk
 obtain⟨w2,hw2⟩:∃w2,w2=(w1.alloc (.cells zsec 187)).setCells w1.heap.size 0 F:=⟨_,rfl⟩
 rw [←hw2] at hblk hB2
 have hsrc:Src w2 (some ⟨w1.heap.size,0,none⟩) 512 s:=by
  have:=hblk.src (o:=0) (n:=512) (by omega)
  rwa [List.drop_zero,List.take_of_length_le (by omega)] at this
 have HB2:=Hid.mk hB2
 have Hsrc:=Hid.mk hsrc
 clear hs1 hw1 hB1 hb1 hblk hB2 hsrc
 go_wp2_with (refine wpList_store_mid rfl 187 _ _ rfl w1.heap.size 0 F.toArray rfl rfl ?h1 ?h2 hall ?_)
 case h1=>simpa using hth
 case h2=>simpa using hinfo
 rw [←hw2]
 clear hw2 hth hinfo hall
 by_cases hbad:504<slen s∨2<s.getD 0 0
 ·have hno:=sopens_none hsl (sopen_no (fun h=>by omega))
  have Hno:=Hid.mk hno
  refine(open_no w1.heap.size 0 s w2 Hsrc.out hbs hbad).mono ?_
  rintro e w' ⟨rfl,hw⟩
  have hw':=hw.symm
  subst hw'
  clear hw hno hbad
  go_wp2
  go_ret2
  exact⟨_,by rw [Hno.out];rfl,by rw [Hno.out];exact Lst.nil _ _,HB2.out⟩
 ·refine(open_yes w1.heap.size 0 s w2 Hsrc.out hbs (by omega) (by omega)).mono ?_
  rintro e w3 ⟨k,rfl,hk,hb3⟩
  have hsb:Src w3 (some ⟨w1.heap.size,k,none⟩) (slen s) (sbody s):=by
   by_cases h0:slen s=0
   ·exact⟨sbody_len (by omega) hsl,(fun e=>by cases e),fun x hx i hi=>by omega⟩
   ·rw [hk (by omega)]
    exact src_part (Hsrc.out.later hb3) (i:=7) (m:=slen s) (by omega)
  have HB3:=Hid.mk (HB2.out.trans (hb3.mono HB2.out.size))
  have hbl:=sbody_len (s:=s) (by omega) hsl
  have hlst:Lst w3 w.heap.size (.slice (some ⟨w1.heap.size,k,none⟩) (slen s) (slen s)) (sbody s):=⟨some ⟨w1.heap.size,k,none⟩,slen s,by rw [hbl],by rw [hbl];exact hsb,by omega,fun x hx=>by cases hx;exact hsz⟩
  have Hlst:=Hid.mk hlst
  clear hsb hlst hk hb3 hbl
  by_cases heq:sform (s.getD 0 0) (sbody s)=s
  ·have hy:=sopens_some hsl (sopen_yes (by omega) (by omega) heq)
   have Hy:=Hid.mk hy
   rw [decide_eq_true heq]
   clear heq hy
   go_wp2
   go_ret2
   exact⟨_,by rw [Hy.out];rfl,by rw [Hy.out];exact Hlst.out,HB3.out⟩
  ·have hy:=sopens_none hsl (sopen_no (fun h=>heq h.2.2))
   have Hy:=Hid.mk hy
   rw [decide_eq_false heq]
   clear heq hy
   go_wp2
   go_ret2
   exact⟨_,by rw [Hy.out];rfl,by rw [Hy.out];exact Lst.nil _ _,HB3.out⟩
theorem sopen_any (a:Option Addr) (n c:Nat) (s:List Int) (w:World) (hs:Src w a n s) (hb:Bytes s):
  Calls Tryz.prog 185 #[.slice a n c] w fun e w'=>∃v,e= .returned (.tuple #[v, .int .i64 (((sopens s).2:Nat):Int)])∧Lst w' w.heap.size v (sopens s).1∧Below w.heap.size w w':=by
 by_cases hn:n=512
 ·subst hn
  obtain⟨b,o,rfl⟩:=src_spot hs (by omega)
  exact sopen_all b o c s w hs hb
 ·refine(sopen_no1 a n c w hn).mono ?_
  rintro e w' ⟨rfl,hbel⟩
  rw [sopens_no1 (by rw [hs.1];exact hn)]
  exact⟨_,rfl,Lst.nil _ _,hbel⟩
end Go.Proofs.YthohoicgidjpfabGreat
end
section
namespace Go.Proofs.YthohoicgidjpfabGreat
open Go.RowKit
def secOf (l:List Int):List Int:=if l.length=512 then l else zs 512
theorem secOf_len (l:List Int):(secOf l).length=512:=by unfold secOf;split;assumption;exact zs_len 512
theorem secOf_self {l:List Int} (h:l.length=512):secOf l=l:=by unfold secOf;rw [if_pos h]
theorem sectorOf_any (a:Option Addr) (n c:Nat) (l:List Int) (w:World) (hs:Src w a n l):
  Calls Tryz.prog 178 #[.slice a n c] w fun e w'=>e= .returned (.tuple #[.agg (bs (secOf l)).toArray, .bool (decide (n=512))])∧Below w.heap.size w w':=by
 by_cases hn:n=512
 ·subst hn
  cases a with
  |none=>have:=hs.2.1 rfl;omega
  |some x=>
   obtain⟨b,o,rfl,_⟩:=hs.spot (by omega)
   rw [secOf_self hs.1]
   exact sectorOf_ok b o c l w hs
 ·have e:secOf l=zs 512:=by unfold secOf;rw [if_neg (by rw [hs.1];exact hn)]
  rw [e,decide_eq_false hn]
  exact sectorOf_no a n c w hn
def zpair:Array Value:=(bs (zs 1024)).toArray
theorem infoPair:(Tryz.prog.info? 189).map (fun i=>(i.zero,i.size))=some (some (.agg zpair),1024):=by kernel_rfl
theorem zeroPair (w:World):(zeroValue 189).run Tryz.prog w= .ok (.agg zpair) w:=by
 obtain⟨i,hi,he⟩:=Option.map_eq_some_iff.1 infoPair
 simp only [Prod.mk.injEq] at he
 simp [zeroValue,typeInfo,hi,he.1]
theorem sizePair:(Tryz.prog.info? 189).map (·.size)=some 1024:=by
 obtain⟨i,hi,he⟩:=Option.map_eq_some_iff.1 infoPair
 simp only [Prod.mk.injEq] at he
 rw [hi,←he.2];rfl
theorem zpair_size:zpair.size=1024:=by unfold zpair;simp only [List.size_toArray,bs,List.length_map,zs_len]
theorem foldl_put:∀(vs:List Value) (k off:Nat) (cells:Array Value),off+k+vs.length≤cells.size→
    ((vs.zipIdx k).foldl (fun cs (x:Value×Nat)=>cs.setIfInBounds (off+x.2) x.1) cells).toList=cells.toList.take (off+k) ++ vs ++ cells.toList.drop (off+k+vs.length)
 | [],k,off,cells,h=>by simp
 |v :: r,k,off,cells,h=>by
  have h1:off+k<cells.toList.length:=by simp at h⊢;omega
  rw [List.zipIdx_cons,List.foldl_cons,foldl_put r (k+1) off _ (by simp at h⊢;omega)]
  simp only [Array.toList_setIfInBounds]
  rw [show off+(k+1)=off+k+1 by omega,List.take_set,List.drop_set]
  rw [if_pos (by omega),List.take_succ_eq_append_getElem h1,List.set_append_right _ _ (by simp;omega)]
  have:(off+k)-(cells.toList.take (off+k)).length=0:=by simp;omega
  rw [this,List.set_cons_zero]
  simp only [List.length_cons,List.append_assoc,List.cons_append,List.nil_append]
  congr 4
  omega
theorem fold_cells (F cells:Array Value) (off:Nat) (h:off+F.size≤cells.size):
    (F.zipIdx.foldl (fun cs (x:Value×Nat)=>cs.setIfInBounds (off+x.2) x.1) cells).toList=cells.toList.take off ++ F.toList ++ cells.toList.drop (off+F.size):=by
 rw [←Array.foldl_toList,Array.toList_zipIdx]
 have:=foldl_put F.toList 0 off cells (by simpa using h)
 simpa using this
theorem build_pair (F G:Array Value) (hF:F.size=512) (hG:G.size=512) (w:World):
    (Instr.build 189 #[(0, .agg F),(1, .agg G)]).run Tryz.prog w= .ok (.agg (F ++ G)) w:=by
 obtain⟨i,hi,he⟩:=Option.map_eq_some_iff.1 sizeSec
 have hz:=zpair_size
 have e1:=fold_cells F zpair (0*512) (by omega)
 have s1:(F.zipIdx.foldl (fun cs (x:Value×Nat)=>cs.setIfInBounds (0*512+x.2) x.1) zpair).size=1024:=by
  rw [←Array.length_toList,e1];simp;omega
 have e2:=fold_cells G (F.zipIdx.foldl (fun cs (x:Value×Nat)=>cs.setIfInBounds (0*512+x.2) x.1) zpair) (1*512) (by omega)
 have key:Instr.fill (fun i=>some (i*512,512)) zpair [(0, .agg F),(1, .agg G)]=some (F ++ G):=by
  have c1:(Value.agg F).cells=F:=rfl
  have c2:(Value.agg G).cells=G:=rfl
  simp only [Instr.fill,c1,c2,hF,hG,hz]
  rw [if_neg (by simp),if_neg (by simp only [ne_eq,not_true,decide_false,Bool.false_or,decide_eq_true_eq];omega)]
  refine congrArg some ?_
  apply Array.ext'
  rw [e2,e1]
  have hFl:F.toList.length=512:=by simpa using hF
  simp only [Nat.zero_mul,List.take_zero,List.nil_append,Nat.zero_add,Nat.one_mul,hF,hG]
  rw [List.take_left' hFl,List.drop_eq_nil_of_le (by simp;omega)]
  simp
 have c3:(Value.agg zpair).cells=zpair:=rfl
 simp only [Instr.build,Sem.run_bind,zeroPair,Result.andThen_ok,run_underlying Tryz.underlying189,c3]
 have hsz:(sizeOf 187).run Tryz.prog w= .ok 512 w:=by simp [sizeOf,typeInfo,hi,he]
 rw [hsz,Result.andThen_ok,key]
 rfl
end Go.Proofs.YthohoicgidjpfabGreat
end
