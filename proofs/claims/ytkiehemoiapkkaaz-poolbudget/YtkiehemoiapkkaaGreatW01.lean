import Derived.Laws.BitsAllLaws
import Derived.Test.YtkiehemoiapkkaaGreatRows
import Derived.WalkKit
import Derived.WalkSpells
import Derived.WalkLawsBesides
import Derived.Below
import Derived.Laws.CopyOwn
import Derived.Lib.SliceRun
import Derived.Deep.QuietTactic
import Derived.BigQuiet
import Derived.ProofKit
import Derived.OpenShut
import Derived.ShutString
import Derived.ChangeOld
import Derived.SizedLaws
import Derived.Deep.Slices
import Derived.Deep.Light
import Derived.Deep.MidRow
import Derived.Deep.Quiet
import Derived.OwnWalk
import Derived.RegionTactic
import Derived.BigRegion
import Derived.Deep.RegionLaw
import Derived.ChangeKeysEq
section
namespace Go.Proofs.YtkiehemoiapkkaaGreat
def cb (r:Nat):Nat:=r / 2 ^^^ (if r%2=1 then 2197175160 else 0)
def cbs:Nat→Nat→Nat
 |0,r=>r
 |n+1,r=>cbs n (cb r)
def le:List Int→Nat
 | []=>0
 |x :: t=>x.toNat+256*le t
def Bytes (l:List Int):Prop:=∀x∈l,0≤x∧x<256
theorem cb_xor (a b:Nat):cb (a ^^^ b)=cb a ^^^ cb b:=by
 unfold cb
 have h:(a ^^^ b)%2=(a+b)%2:=by
  have e:=Nat.testBit_xor a b 0
  simp only [Nat.testBit_zero] at e
  rcases Nat.mod_two_eq_zero_or_one a with ha|ha <;> rcases Nat.mod_two_eq_zero_or_one b with hb|hb <;> rcases Nat.mod_two_eq_zero_or_one (a ^^^ b) with hc|hc <;> rw [ha,hb,hc] at e <;> first|omega|exact absurd e (by decide)
 have hd:(a ^^^ b) / 2=a / 2 ^^^ b / 2:=Nat.xor_div_two
 rw [hd]
 rcases Nat.mod_two_eq_zero_or_one a with ha|ha <;> rcases Nat.mod_two_eq_zero_or_one b with hb|hb
 ·have:(a ^^^ b)%2=0:=by omega
  simp [ha,hb,this]
 ·have:(a ^^^ b)%2=1:=by omega
  simp [ha,hb,this,Nat.xor_assoc]
 ·have:(a ^^^ b)%2=1:=by omega
  simp only [ha,hb,this,if_true]
  rw [Nat.xor_assoc,Nat.xor_assoc,Nat.xor_comm (b / 2)]
  simp
 ·have:(a ^^^ b)%2=0:=by omega
  simp only [ha,hb,this,if_true]
  rw [Nat.xor_assoc,Nat.xor_assoc,←Nat.xor_assoc (2197175160) (b / 2),Nat.xor_comm 2197175160 (b / 2),Nat.xor_assoc (b / 2),Nat.xor_self]
  simp
theorem cbs_xor (n a b:Nat):cbs n (a ^^^ b)=cbs n a ^^^ cbs n b:=by
 induction n generalizing a b with
 |zero=>rfl
 |succ n ih=>simp only [cbs,cb_xor,ih]
theorem cb_lt {r:Nat} (h:r<4294967296):cb r<4294967296:=by
 unfold cb
 have:r / 2 ^^^ (if r%2=1 then 2197175160 else 0)<2 ^ 32:=Nat.xor_lt_two_pow (by omega) (by split <;> omega)
 omega
theorem cbs_lt (n:Nat) {r:Nat} (h:r<4294967296):cbs n r<4294967296:=by
 induction n generalizing r with
 |zero=>exact h
 |succ n ih=>exact ih (cb_lt h)
theorem cbs_add (n m r:Nat):cbs (n+m) r=cbs m (cbs n r):=by
 induction n generalizing r with
 |zero=>simp [cbs]
 |succ n ih=>rw [Nat.succ_add];simp only [cbs];exact ih (cb r)
theorem cb_even (m:Nat):cb (2*m)=m:=by
 unfold cb
 have h1:2*m / 2=m:=by omega
 have h2:2*m%2=0:=by omega
 rw [h1,h2]
 simp
theorem cbs_pow (n m:Nat):cbs n (2 ^ n*m)=m:=by
 induction n generalizing m with
 |zero=>simp [cbs]
 |succ n ih=>
  rw [Nat.pow_succ,show 2 ^ n*2*m=2*(2 ^ n*m) by rw [Nat.mul_comm (2 ^ n) 2,Nat.mul_assoc],cbs,cb_even,ih]
theorem add_xor (i a b:Nat) (h:b<2 ^ i):b+2 ^ i*a=b ^^^ 2 ^ i*a:=by
 apply Nat.eq_of_testBit_eq
 intro j
 rw [Nat.add_comm,Nat.testBit_two_pow_mul_add a h j,Nat.testBit_xor,Nat.testBit_two_pow_mul]
 by_cases hj:j<i
 ·simp [hj,show¬i≤j by omega]
 ·have:b.testBit j=false:=Nat.testBit_lt_two_pow (Nat.lt_of_lt_of_le h (Nat.pow_le_pow_right (by decide) (by omega)))
  simp [hj,this,show i≤j by omega]
theorem cbs_nib (r:Nat):cbs 4 r=r / 16 ^^^ cbs 4 (r%16):=by
 have h:r=r%16 ^^^ 2 ^ 4*(r / 16):=by
  rw [←add_xor 4 (r / 16) (r%16) (by omega)]
  omega
 conv=>lhs;rw [h,cbs_xor,cbs_pow]
 exact Nat.xor_comm _ _
def crc (r:Nat) (l:List Int):Nat:=cbs (8*l.length) (r ^^^ le l)
def sumOf (l:List Int):Nat:=crc 4294967295 l ^^^ 4294967295
theorem le_lt {l:List Int} (h:Bytes l):le l<2 ^ (8*l.length):=by
 induction l with
 |nil=>simp [le]
 |cons x t ih=>
  have h1:=h x (by simp)
  have h2:=ih (fun y hy=>h y (by simp [hy]))
  simp only [le,List.length_cons]
  rw [show 8*(t.length+1)=8*t.length+8 by omega,Nat.pow_add]
  have:x.toNat<256:=by omega
  omega
theorem le_append (a b:List Int):le (a ++ b)=le a+2 ^ (8*a.length)*le b:=by
 induction a with
 |nil=>simp [le]
 |cons x t ih=>
  simp only [List.cons_append,le,ih,List.length_cons]
  rw [show 8*(t.length+1)=8*t.length+8 by omega,Nat.pow_add,Nat.mul_add]
  rw [show 2 ^ (8*t.length)*2 ^ 8*le b=256*(2 ^ (8*t.length)*le b) by rw [Nat.mul_comm (2 ^ (8*t.length)) (2 ^ 8),Nat.mul_assoc]]
  omega
theorem le_xappend {a:List Int} (b:List Int) (h:Bytes a):le (a ++ b)=le a ^^^ 2 ^ (8*a.length)*le b:=by
 rw [le_append,add_xor _ _ _ (le_lt h)]
theorem crc_nil (r:Nat):crc r []=r:=by simp [crc,cbs,le]
theorem crc_append (r:Nat) {a:List Int} (b:List Int) (h:Bytes a):crc r (a ++ b)=crc (crc r a) b:=by
 unfold crc
 rw [le_xappend b h,List.length_append,Nat.mul_add,cbs_add,←Nat.xor_assoc,cbs_xor (8*a.length),cbs_pow]
theorem crc_snoc (r:Nat) {a:List Int} (x:Int) (h:Bytes a):crc r (a ++ [x])=cbs 8 (crc r a ^^^ x.toNat):=by
 rw [crc_append r _ h]
 simp [crc,le]
theorem crc_lt {r:Nat} {l:List Int} (hr:r<4294967296) (h:Bytes l):crc r l<4294967296:=by
 induction l generalizing r with
 |nil=>simpa [crc_nil] using hr
 |cons x t ih=>
  have hx:=h x (by simp)
  have h1:Bytes [x]:=fun y hy=>by simp at hy;subst hy;exact hx
  rw [show x :: t= [x] ++ t from rfl,crc_append r t h1]
  refine ih ?_ (fun y hy=>h y (by simp [hy]))
  have:r ^^^ x.toNat<2 ^ 32:=Nat.xor_lt_two_pow (by omega) (by omega)
  simpa [crc,le] using cbs_lt 8 (r:=r ^^^ x.toNat) (by omega)
theorem sumOf_lt {l:List Int} (h:Bytes l):sumOf l<4294967296:=by
 have:crc 4294967295 l ^^^ 4294967295<2 ^ 32:=Nat.xor_lt_two_pow (by have:=crc_lt (r:=4294967295) (by omega) h;omega) (by omega)
 unfold sumOf
 omega
def bytes4 (s:Nat):List Int:= [((s%256:Nat):Int),((s / 256%256:Nat):Int),((s / 65536%256:Nat):Int),((s / 16777216%256:Nat):Int)]
end Go.Proofs.YtkiehemoiapkkaaGreat
end
section
namespace Go.Proofs.YtkiehemoiapkkaaGreat
def stext (body:List Int):List Int:=((body.length%256:Nat):Int) :: ((body.length / 256:Nat):Int) :: (body ++ List.replicate (504-body.length) 0)
def sform (t:Int) (body:List Int):List Int:=
 t :: ((body.length%256:Nat):Int) :: ((body.length / 256:Nat):Int) :: (bytes4 (sumOf (stext body)) ++ (body ++ (List.replicate (504-body.length) 0 ++ [t])))
def turnOf (a b:Int):Nat:=if a≠0∧b≠0 then 0 else if a≠1∧b≠1 then 1 else 2
theorem turnOf_le (a b:Int):turnOf a b≤2:=by unfold turnOf;split <;> (try split) <;> omega
theorem turnOf_ne (a b:Int):((turnOf a b:Nat):Int)≠a∧((turnOf a b:Nat):Int)≠b:=by
 unfold turnOf
 by_cases h:a≠0∧b≠0
 ·rw [if_pos h];omega
 ·rw [if_neg h]
  by_cases h1:a≠1∧b≠1
  ·rw [if_pos h1];omega
  ·rw [if_neg h1];omega
theorem bytes4_len (s:Nat):(bytes4 s).length=4:=rfl
theorem bytes4_bytes (s:Nat):Bytes (bytes4 s):=by
 intro x hx
 simp only [bytes4,List.mem_cons,List.not_mem_nil,or_false] at hx
 omega
theorem sform_len {t:Int} {body:List Int} (h:body.length≤504):(sform t body).length=512:=by simp [sform,bytes4_len];omega
theorem Bytes.append {a b:List Int} (ha:Bytes a) (hb:Bytes b):Bytes (a ++ b):=fun x hx=>(List.mem_append.1 hx).elim (ha x) (hb x)
theorem Bytes.cons {a:Int} {b:List Int} (ha:0≤a∧a<256) (hb:Bytes b):Bytes (a :: b):=fun x hx=>(List.mem_cons.1 hx).elim (fun h=>h▸ha) (hb x)
theorem Bytes.nil:Bytes []:=fun _ hx=>by cases hx
theorem Bytes.zeros (n:Nat):Bytes (List.replicate n 0):=fun x hx=>by rw [List.eq_of_mem_replicate hx];omega
theorem Bytes.take {l:List Int} (h:Bytes l) (n:Nat):Bytes (l.take n):=fun x hx=>h x (List.mem_of_mem_take hx)
theorem Bytes.drop {l:List Int} (h:Bytes l) (n:Nat):Bytes (l.drop n):=fun x hx=>h x (List.mem_of_mem_drop hx)
theorem Bytes.getD {l:List Int} (h:Bytes l) (i:Nat):0≤l.getD i 0∧l.getD i 0<256:=by
 by_cases hi:i<l.length
 ·have:=h l[i] (List.getElem_mem hi)
  simpa [List.getD,hi] using this
 ·simp [List.getD,List.getElem?_eq_none (Nat.le_of_not_lt hi)]
theorem stext_bytes {body:List Int} (h:Bytes body) (hl:body.length≤504):Bytes (stext body):=
   .cons (by omega) (.cons (by omega) (h.append (.zeros _)))
theorem sform_bytes {t:Int} {body:List Int} (h:Bytes body) (hl:body.length≤504) (ht:0≤t∧t<256):Bytes (sform t body):=
   .cons ht (.cons (by omega) (.cons (by omega) ((bytes4_bytes _).append (h.append ((Bytes.zeros _).append (.cons ht .nil))))))
def slen (s:List Int):Nat:=(s.getD 1 0+256*s.getD 2 0).toNat
def sbody (s:List Int):List Int:=(s.drop 7).take (slen s)
def sopen (s:List Int):Option (List Int):=if slen s≤504∧s.getD 0 0≤2∧sform (s.getD 0 0) (sbody s)=s then some (sbody s) else none
theorem slen_form (t:Int) (body:List Int) (h:body.length≤504):slen (sform t body)=body.length:=by
 simp [slen,sform,List.getD];omega
theorem sform_drop (t:Int) (body:List Int):(sform t body).drop 7=body ++ (List.replicate (504-body.length) 0 ++ [t]):=by
 simp [sform,bytes4]
theorem sbody_form (t:Int) (body:List Int) (h:body.length≤504):sbody (sform t body)=body:=by
 rw [sbody,slen_form t body h,sform_drop]
 simp
theorem sform_first (t:Int) (body:List Int):(sform t body).getD 0 0=t:=rfl
theorem sopen_form (t:Int) (body:List Int) (h:body.length≤504) (ht:t≤2):sopen (sform t body)=some body:=by
 unfold sopen
 rw [slen_form t body h,sform_first,sbody_form t body h,if_pos ⟨h,ht,rfl⟩]
theorem sopen_some {s body:List Int} (h:sopen s=some body):slen s≤504∧s.getD 0 0≤2∧sform (s.getD 0 0) (sbody s)=s∧body=sbody s:=by
 unfold sopen at h
 split at h
 ·next hc=>exact⟨hc.1,hc.2.1,hc.2.2,(Option.some.inj h).symm⟩
 ·cases h
theorem sbody_len {s:List Int} (h:slen s≤504) (hs:s.length=512):(sbody s).length=slen s:=by
 simp [sbody];omega
theorem sopen_len {s body:List Int} (h:sopen s=some body) (hs:s.length=512):body.length≤504:=by
 obtain⟨h1,_,_,rfl⟩:=sopen_some h
 rw [sbody_len h1 hs];exact h1
def stextOf (s:List Int):List Int:=(s.drop 1).take 2 ++ (s.drop 7).take 504
def sanchor (s:List Int):Nat×List Int:=
 match sopen s with
 |none=>(0, [])
 |some body=>if 8≤body.length∧le (body.take 8)<9223372036854775808 then (le (body.take 8),body.drop 8) else (0, [])
def snewest (l r:List Int):Nat×Nat×List Int×Nat:=
 if l.length≠512∨r.length≠512 then (0,0, [],2) else
 if (sanchor l).1=0∧(sanchor r).1=0 then (0,0, [],30) else
 if (sanchor l).1<(sanchor r).1 then (1,(sanchor r).1,(sanchor r).2,0) else (0,(sanchor l).1,(sanchor l).2,0)
def bytes8 (n:Nat):List Int:=(List.range 8).map (fun k=>((n / 256 ^ k%256:Nat):Int))
def sseal (old body:List Int):List Int×Nat:=
 if old.length≠512 then ([],2) else if 504<body.length then ([],7) else (sform (turnOf (old.getD 0 0) (old.getD 511 0)) body,0)
def sopens (s:List Int):List Int×Nat:=
 if s.length≠512 then ([],2) else match sopen s with|none=>([],30)|some b=>(b,0)
def srenew (l r:List Int) (number:Int) (data:List Int):Nat×List Int×Nat:=
 if l.length≠512∨r.length≠512 then (0, [],2) else
 if number<1 then (0, [],1) else
 if 496<data.length then (0, [],7) else
 let a:=snewest l r
 if number≤a.2.1 then (0, [],31) else
 if a.2.2.2=0∧a.1=0 then (1,sform (turnOf (r.getD 0 0) (r.getD 511 0)) (bytes8 number.toNat ++ data),0)
 else (0,sform (turnOf (l.getD 0 0) (l.getD 511 0)) (bytes8 number.toNat ++ data),0)
end Go.Proofs.YtkiehemoiapkkaaGreat
end
section
namespace Go.Proofs.YtkiehemoiapkkaaGreat
def away:Nat→Nat→Bool
 |0,_=>true
 |n+1,s=>if cb s=1 then false else away n (cb s)
theorem away_spec:∀(n s:Nat),away n s=true→∀a,a<n→cbs (a+1) s≠1
 |0,_,_,a,ha=>by omega
 |n+1,s,h,a,ha=>by
  unfold away at h
  split at h
  ·cases h
  ·next hc=>
   cases a with
   |zero=>exact hc
   |succ a=>exact away_spec n (cb s) h a (by omega)
theorem order {a:Nat} (h0:0<a) (h1:a≤4080):cbs a 1≠1:=by
 have h:away 4080 1=true:=by decide+kernel
 have:=away_spec 4080 1 h (a-1) (by omega)
 rwa [show a-1+1=a by omega] at this
end Go.Proofs.YtkiehemoiapkkaaGreat
end
section
namespace Go.Proofs.YtkiehemoiapkkaaGreat
theorem bytes8_eq (n:Nat):bytes8 n= [((n%256:Nat):Int),((n / 256%256:Nat):Int),((n / 65536%256:Nat):Int),((n / 16777216%256:Nat):Int),((n / 4294967296%256:Nat):Int),((n / 1099511627776%256:Nat):Int),((n / 281474976710656%256:Nat):Int),((n / 72057594037927936%256:Nat):Int)]:=by
 simp [bytes8,List.range,List.range.loop]
theorem bytes8_len (n:Nat):(bytes8 n).length=8:=by simp [bytes8]
theorem bytes8_bytes (n:Nat):Bytes (bytes8 n):=by
 intro x hx
 obtain⟨j,_,rfl⟩:=List.mem_map.1 hx
 omega
theorem le_bytes8 {n:Nat} (h:n<18446744073709551616):le (bytes8 n)=n:=by
 rw [bytes8_eq]
 simp only [le,Int.toNat_natCast]
 omega
theorem sanchor_form {t:Int} (ht:t≤2) {n:Nat} (hn:n<9223372036854775808) {data:List Int} (hd:data.length≤496):sanchor (sform t (bytes8 n ++ data))=(n,data):=by
 have h8:=bytes8_len n
 unfold sanchor
 rw [sopen_form _ _ (by simp [h8];omega) ht]
 simp only [List.take_left' h8,List.drop_left' h8,le_bytes8 (show n<18446744073709551616 by omega)]
 rw [if_pos ⟨by simp [h8],hn⟩]
def sput (l r:List Int) (slot:Nat) (s:List Int):List Int×List Int:=if slot=0 then (s,r) else (l,s)
theorem pair_new {l r data:List Int} (hl:l.length=512) (hr:r.length=512) {n:Nat} (hn:n<9223372036854775808) (h1:1≤n) (hd:data.length≤496) (hgt:(snewest l r).2.1<n) {t:Int} (ht:t≤2) (slot:Nat)
    (hs:slot=if (snewest l r).2.2.2=0∧(snewest l r).1=0 then 1 else 0):
  snewest (sput l r slot (sform t (bytes8 n ++ data))).1 (sput l r slot (sform t (bytes8 n ++ data))).2=(slot,n,data,0):=by
 have ha:=sanchor_form ht hn hd
 have hf:(sform t (bytes8 n ++ data)).length=512:=sform_len (by simp [bytes8_len];omega)
 generalize sform t (bytes8 n ++ data)=s at*
 have e:snewest l r=if (sanchor l).1=0∧(sanchor r).1=0 then (0,0, [],30) else if (sanchor l).1<(sanchor r).1 then (1,(sanchor r).1,(sanchor r).2,0) else (0,(sanchor l).1,(sanchor l).2,0):=by
  unfold snewest;rw [if_neg (by omega)]
 rw [e] at hs hgt
 by_cases z:(sanchor l).1=0∧(sanchor r).1=0
 ·rw [if_pos z] at hs hgt
  have:slot=0:=by rw [hs];rfl
  subst this
  simp only [sput,if_true,snewest]
  rw [if_neg (by omega),ha,if_neg (by simp;omega),if_neg (by simp;omega)]
 ·rw [if_neg z] at hs hgt
  by_cases q:(sanchor l).1<(sanchor r).1
  ·rw [if_pos q] at hs hgt
   have:slot=0:=by rw [hs];rfl
   subst this
   simp only [sput,if_true,snewest]
   rw [if_neg (by omega),ha,if_neg (by simp;omega),if_neg (by simp at hgt⊢;omega)]
  ·rw [if_neg q] at hs hgt
   have:slot=1:=by rw [hs];rfl
   subst this
   have h10:¬(1:Nat)=0:=by omega
   simp only [sput,if_neg h10,snewest]
   rw [if_neg (by omega),ha,if_neg (by simp;omega),if_pos (by simp at hgt⊢;omega)]
end Go.Proofs.YtkiehemoiapkkaaGreat
end
section
namespace Go.Proofs.YtkiehemoiapkkaaGreat
open Go.RowKit
theorem infoU8:(Tryz.prog.info? 5).map (fun i=>(i.zero,i.size,i.bytes))=some (some (.int .u8 0),1,1):=by kernel_rfl
theorem addr_add (g o i:Nat):(⟨g,o,none⟩:Addr).add i=⟨g,o+i,none⟩:=by
 unfold Addr.add
 split <;> simp_all
abbrev bs (l:List Int):List Value:=l.map (Value.int .u8)
def RowAt (w:World) (e:TypeId) (g c:Nat) (xs:List Value):Prop:=
 ∃cur,w.heap[g]? =some (.cells cur e (0,0))∧cur.size=c∧cur.toList.take xs.length=xs∧c≤maxLen
theorem RowAt.lt {w:World} {e:TypeId} {g c:Nat} {xs:List Value} (h:RowAt w e g c xs):g<w.heap.size:=by
 obtain⟨cur,hb,_⟩:=h
 exact(Array.getElem?_eq_some_iff.1 hb).1
theorem RowAt.le {w:World} {e:TypeId} {g c:Nat} {xs:List Value} (h:RowAt w e g c xs):xs.length≤c:=by
 obtain⟨cur,_,rfl,ht,_⟩:=h
 have:=congrArg List.length ht
 simp at this
 omega
theorem RowAt.max {w:World} {e:TypeId} {g c:Nat} {xs:List Value} (h:RowAt w e g c xs):c≤maxLen:=by
 obtain⟨cur,_,_,_,h⟩:=h;exact h
theorem RowAt.cell {w:World} {e:TypeId} {g c:Nat} {xs:List Value} (h:RowAt w e g c xs) {j:Nat} {u:Value} (hu:xs[j]? =some u):w.cell? ⟨g,j,none⟩=some u:=by
 obtain⟨cur,hb,_,ht,_⟩:=h
 simp only [World.cell?,hb]
 have hj:=(List.getElem?_eq_some_iff.1 hu).1
 rw [←ht,List.getElem?_take] at hu
 rw [if_pos hj] at hu
 simpa using hu
theorem RowAt.byte {w:World} {e:TypeId} {g c:Nat} {l:List Int} (h:RowAt w e g c (bs l)) {i:Nat} (hi:i<l.length):w.cell? ((⟨g,0,none⟩:Addr).add i)=some (.int .u8 (l.getD i 0)):=by
 rw [addr_add,Nat.zero_add]
 exact h.cell (by simp [bs,List.getD,List.getElem?_eq_getElem hi])
theorem RowAt.agree {w w':World} {e:TypeId} {g c:Nat} {xs:List Value} (h:RowAt w e g c xs) (hb:w'.heap[g]? =w.heap[g]?):RowAt w' e g c xs:=by
 obtain⟨cur,h1,h2⟩:=h
 exact⟨cur,hb.trans h1,h2⟩
theorem RowAt.owns {w:World} {e:TypeId} {g c:Nat} {xs:List Value} (h:RowAt w e g c xs):w.ownsRow 0 e 1 (.slice (some ⟨g,0,none⟩) xs.length c) xs.length xs:=by
 have hle:=h.le
 obtain⟨cur,hb,hc,ht,hm⟩:=h
 exact⟨by simp, .inr ⟨g,c,cur,rfl,Nat.zero_le _,hb,hle,hm,by simpa using hc,by simpa using ht⟩⟩
theorem RowAt.of_owns {w:World} {base:Nat} {e:TypeId} {v:Value} {n:Nat} {xs:List Value} (h:w.ownsRow base e 1 v n xs) (hv:v≠ .slice none 0 0):
  ∃g c,v= .slice (some ⟨g,0,none⟩) n c∧base≤g∧RowAt w e g c xs∧xs.length=n:=by
 obtain⟨hl,⟨rfl,_⟩|⟨g,c,cur,rfl,hg,hb,hn,hm,hc,ht⟩⟩:=h
 ·exact absurd rfl hv
 ·simp only [Nat.mul_one] at hl hc ht
  exact⟨g,c,rfl,hg,⟨cur,hb,hc,by rw [hl];exact ht,hm⟩,hl⟩
structure Keeps (F:Nat→Prop) (w w':World):Prop where
 os:w'.os=w.os
 tape:w'.tape=w.tape
 output:w'.output=w.output
 size:w.heap.size≤w'.heap.size
 block:∀k,k<w.heap.size→¬F k→w'.heap[k]? =w.heap[k]?
def more (F:Nat→Prop) (w w':World):Nat→Prop:=fun k=>F k∨(w.heap.size≤k∧k<w'.heap.size)
theorem Keeps.refl (F:Nat→Prop) (w:World):Keeps F w w:=⟨rfl,rfl,rfl,Nat.le_refl _,fun _ _ _=>rfl⟩
theorem Keeps.trans {F G:Nat→Prop} {a b c:World} (h:Keeps F a b) (k:Keeps G b c) (hG:∀j,G j→F j∨a.heap.size≤j):Keeps F a c:=
   ⟨k.os.trans h.os,k.tape.trans h.tape,k.output.trans h.output,Nat.le_trans h.size k.size,fun i hi hn=>
    (k.block i (Nat.lt_of_lt_of_le hi h.size) (fun hg=>by rcases hG i hg with h1|h1;exact hn h1;omega)).trans (h.block i hi hn)⟩
theorem Keeps.of_below {w w':World} (F:Nat→Prop) (h:Below w.heap.size w w'):Keeps F w w':=⟨h.os,h.tape,h.output,h.size,fun k hk _=>h.block k hk⟩
theorem Keeps.below {B:Nat} {F:Nat→Prop} {w w':World} (h:Keeps F w w') (hF:∀k,F k→B≤k) (hB:B≤w.heap.size):Below B w w':=
   ⟨h.os,h.tape,h.output,h.size,fun k hk=>h.block k (by omega) (fun hf=>by have:=hF k hf;omega)⟩
theorem Keeps.mono {F G:Nat→Prop} {w w':World} (h:Keeps F w w') (hG:∀k,F k→G k):Keeps G w w':=⟨h.os,h.tape,h.output,h.size,fun k hk hn=>h.block k hk (fun hf=>hn (hG k hf))⟩
theorem Keeps.setCell {F:Nat→Prop} (w:World) {p:Addr} (hp:F p.block) (u:Value):Keeps F w (w.setCell p u):=
   ⟨rfl,rfl,rfl,by simp [World.setCell],fun k _ hn=>Below.heap_setCell w p u k (fun e=>hn (e▸hp))⟩
theorem Keeps.alloc (F:Nat→Prop) (w:World) (o:Obj):Keeps F w (w.alloc o):=Keeps.of_below F ((Below.refl _ _).alloc (Nat.le_refl _) _)
theorem Keeps.drew (F:Nat→Prop) (w:World):Keeps F w w.drew:=⟨rfl,rfl,rfl,Nat.le_refl _,fun _ _ _=>rfl⟩
theorem grown_setCell (w:World) (a:Addr) (v:Value):w.grownBy (w.setCell a v) (some a.block):=
   ⟨rfl,rfl,rfl,by simp [World.setCell],fun k _ hn=>Below.heap_setCell w a v k (fun e=>hn (by rw [e]))⟩
theorem cell_of_block {w:World} {g:Nat} {cur:Array Value} {e:TypeId} (hb:w.heap[g]? =some (.cells cur e (0,0))) {j:Nat} {u:Value} (hu:cur[j]? =some u):w.cell? ⟨g,j,none⟩=some u:=by
 simp only [World.cell?,hb]
 simpa using hu
theorem frozen_of_block {w:World} {g:Nat} {cur:Array Value} {e:TypeId} (hb:w.heap[g]? =some (.cells cur e (0,0))) (j:Nat):w.frozen? ⟨g,j,none⟩=false:=by
 simp [World.frozen?,hb]
def Src (w:World) (a:Option Addr) (n:Nat) (l:List Int):Prop:=
 l.length=n∧(a=none→n=0)∧∀x,a=some x→∀i,i<n→w.cell? (x.add i)=some (.int .u8 (l.getD i 0))
theorem Src.at {w:World} {x:Addr} {n:Nat} {l:List Int} (h:Src w (some x) n l) {i:Nat} (hi:i<n):w.cell? (x.add i)=some (.int .u8 (l.getD i 0)):=h.2.2 x rfl i hi
theorem RowAt.src {w:World} {e:TypeId} {g c:Nat} {l:List Int} (h:RowAt w e g c (bs l)):Src w (some ⟨g,0,none⟩) l.length l:=
   ⟨rfl,(fun h=>by cases h),fun x hx i hi=>by cases hx;exact h.byte hi⟩
theorem Src.spot {w:World} {x:Addr} {n:Nat} {l:List Int} (h:Src w (some x) n l) (hn:0<n):∃b o,x=⟨b,o,none⟩∧∀i,i<n→w.cell? ⟨b,o+i,none⟩=some (.int .u8 (l.getD i 0)):=by
 obtain⟨b,o,sp⟩:=x
 have h0:=h.2.2 _ rfl 0 hn
 have hs:sp=none:=by simpa [Addr.add] using World.cell?_spot h0
 subst hs
 exact⟨b,o,rfl,fun i hi=>by have:=h.2.2 _ rfl i hi;rwa [addr_add] at this⟩
theorem Src.later {w w':World} {a:Option Addr} {n:Nat} {l:List Int} (h:Src w a n l) (hb:Below w.heap.size w w'):Src w' a n l:=
   ⟨h.1,h.2.1,fun x hx i hi=>cell_later hb (h.2.2 x hx i hi)⟩
theorem Hid.mk {p:Prop} (h:p):Hid p:=h
theorem made_row {w1:World} {g n:Nat} {base:Nat} (hown:w1.ownsRow base 5 1 (.slice (some ⟨g,0,none⟩) n n) n (madeCells #[Value.int .u8 0] n).toList):
  RowAt w1 5 g n (bs (List.replicate n 0)):=by
 obtain⟨g',c,hv,_,hr,_⟩:=RowAt.of_owns hown (by simp)
 cases hv
 have e:(madeCells #[Value.int .u8 0] n).toList=bs (List.replicate n 0):=by rw [toList_madeCells_one];simp [bs]
 rw [e] at hr
 exact hr
theorem sizeU8:(Tryz.prog.info? 5).map (·.size)=some 1:=by kernel_rfl
theorem bs_getElem {l:List Int} {j:Nat} {v:Value} (h:(bs l)[j]? =some v):j<l.length∧v= .int .u8 (l.getD j 0):=by
 have hj:j<l.length:=by
  have:=(List.getElem?_eq_some_iff.1 h).1
  simpa [bs] using this
 simp [bs,List.getElem?_eq_getElem hj] at h
 exact⟨hj,by simp [List.getD,List.getElem?_eq_getElem hj,h]⟩
theorem bs_one (l:List Int):∀v∈bs l,v.oneCell'=true:=by
 intro v hv
 obtain⟨x,_,rfl⟩:=List.mem_map.1 hv
 rfl
theorem RowAt.full {w:World} {e:TypeId} {g c:Nat} {xs:List Value} (h:RowAt w e g c xs) (hc:xs.length=c):w.heap[g]? =some (.cells xs.toArray e (0,0)):=by
 obtain⟨cur,hb,hs,ht,_⟩:=h
 have:cur.toList=xs:=by
  rw [←ht,List.take_of_length_le (by simp;omega)]
 rw [hb,←this]
theorem copy_run (w:World) (ty:TypeId) (dp:Option Addr) (g off dLen dCap:Nat) (a:Option Addr) (sLen sCap:Nat) (cur:List Value) (l:List Int) (hg:w.heap[g]? =some (.cells cur.toArray 5 (0,0)))
    (hs:Src w a sLen l) (hd:0<dLen→dp=some ⟨g,off,none⟩) (hfit:off+dLen≤cur.length):
  ∃w2,(Builtin.copy_ #[44,44] ty #[.slice dp dLen dCap, .slice a sLen sCap]).run Tryz.prog w= .ok (goInt (Nat.min sLen dLen)) w2∧
   w2.heap[g]? =some (.cells (splice cur off (bs (l.take dLen))).toArray 5 (0,0))∧Keeps (fun k=>k=g) w w2∧w2.heap.size=w.heap.size:=by
 have hl:=hs.1
 have hm:Nat.min sLen dLen=min sLen dLen:=rfl
 by_cases h0:min sLen dLen=0
 ·refine⟨w,?_,?_,Keeps.refl _ _,rfl⟩
  ·rw [hm,h0]
   exact run_copy_none (P:=Tryz.prog) w _ _ ty 5 dp a dLen dCap sLen sCap Tryz.underlying44 sizeU8 h0
  ·have e:bs (l.take dLen)= []:=by
    have:(bs (l.take dLen)).length=0:=by simp only [bs,List.length_map,List.length_take];omega
    exact List.eq_nil_of_length_eq_zero this
   rw [e,hg]
   simp [splice]
 ·have h1:0<sLen∧0<dLen:=by omega
  obtain rfl:=hd h1.2
  cases a with
  |none=>have:=hs.2.1 rfl;omega
  |some x=>
   have hlen:(bs (l.take dLen)).length=Nat.min sLen dLen:=by
    simp only [bs,List.length_map,List.length_take];omega
   have hrun:=run_copy_row (P:=Tryz.prog) w 44 44 ty 5 g off dLen dCap x sLen sCap cur.toArray 5 (bs (l.take dLen)) Tryz.underlying44 sizeU8 hg hlen
      (fun j v hj=>by
     obtain⟨hj',rfl⟩:=bs_getElem hj
     have hj2:j<dLen∧j<l.length:=by simp only [List.length_take] at hj';omega
     rw [hs.2.2 x rfl j (by omega)]
     simp [List.getD,hj2.1]) (by simp only [List.size_toArray,hlen];omega) (bs_one _)
   rw [hlen] at hrun
   refine⟨_,hrun,?_,⟨rfl,rfl,rfl,by simp,fun k _ hk=>setRow_other w g k _ hk⟩,by simp⟩
   rw [setRow_heap w g _ _ 5 _ hg]
   simp only [splice,hlen,List.append_assoc]
theorem blockOf_add (x:Addr) (n:Nat):(x.add n).block=x.block:=by unfold Addr.add;split <;> rfl
theorem Src.old {W:World} {a:Option Addr} {n:Nat} {l:List Int} (h:Src W a n l):∀x,a=some x→0<n→x.block<W.heap.size:=fun x hx hn=>by
 have:=World.block_lt_of_cell? _ _ (h.2.2 x hx 0 hn)
 rwa [blockOf_add] at this
end Go.Proofs.YtkiehemoiapkkaaGreat
end
section
namespace Go.Proofs.YtkiehemoiapkkaaGreat
open Go.ChangeShapes Go.WideShapes Go.ChangeAt Go.RowKit Go.Deep
theorem ownKnobs:ownKnob Tryz.prog.godebug=none:=by kernel_rfl
theorem laidOut:laidOutB Tryz.prog=true:=by kernel_rfl
theorem bytesU8:Tryz.prog.bytesOf 5=1:=by kernel_rfl
theorem cellsU8:Tryz.prog.cellsOf 5=1:=by kernel_rfl
theorem cellsInt:Tryz.prog.cellsOf 3=1:=by kernel_rfl
theorem cellsBytes:Tryz.prog.cellsOf 44=1:=by kernel_rfl
def I64 (n:Int):Prop:= -9223372036854775808≤n∧n≤9223372036854775807
theorem int_wf {n:Int} (h:(Lit.int .i64 n).wf=true):I64 n:=by
 have:=h
 simp [Lit.wf,IntKind.min,IntKind.max,IntKind.bits,IntKind.signed] at this
 unfold I64
 omega
theorem u8_wf {n:Int} (h:(Lit.int .u8 n).wf=true):0≤n∧n<256:=by
 have:=h
 simp [Lit.wf,IntKind.min,IntKind.max,IntKind.bits,IntKind.signed] at this
 omega
section
variable {H:Type} {enc:TypeId×Value→H} {W:World} {base:Nat} {spare:Nat→Bool} {held:Bool}
theorem weightsAll_mem {P:Program} {e:TypeId} {n:Nat}:∀{ds:List (DataW H)} {d:DataW H},d∈ds→n∈d.weights P e→n∈DataW.weightsAll P e ds
 |d :: r,d',hd,hn=>by
  rw [DataW.weightsAll]
  rcases List.mem_cons.1 hd with rfl|h
  ·exact List.mem_append_left _ hn
  ·exact List.mem_append_right _ (weightsAll_mem h hn)
theorem trod3 {P:Program} {e:TypeId} {f0 f1 f2:Field} {n:Nat} {cs:List Value} {x:DataW H×List MemPlace} (he:P.underlying e=some (.struct #[f0,f1,f2])) (ce:P.cellsOf e=3) (o0:f0.offset=0) (o1:f1.offset=1) (o2:f2.offset=2)
    (c0:P.cellsOf f0.type=1) (c1:P.cellsOf f1.type=1) (c2:P.cellsOf f2.type=1) (h:DataW.trod enc P W base spare held n e cs=some x):
  ∃v0 v1 v2 y0 y1 y2 k,cs= [v0,v1,v2]∧x.1= .agg [y0.1,y1.1,y2.1]∧DataW.trod enc P W base spare held k f0.type [v0]=some y0∧DataW.trod enc P W base spare held k f1.type [v1]=some y1∧DataW.trod enc P W base spare held k f2.type [v2]=some y2:=by
 obtain⟨xs,k,_,hxy,hlen,hxl,hf⟩:=DataW.trod_struct he h
 rw [ce] at hlen
 match xs,hxl,cs,hlen with
 | [y0,y1,y2],_, [v0,v1,v2],_=>
  have g0:=hf 0 f0 rfl
  have g1:=hf 1 f1 rfl
  have g2:=hf 2 f2 rfl
  simp [o0,o1,o2,c0,c1,c2] at g0 g1 g2
  exact⟨v0,v1,v2,y0,y1,y2,k,rfl,by rw [hxy];rfl,g0,g1,g2⟩
theorem open_bytes {fuel:Nat} {v:Value} {d:DataW H} {pl:List MemPlace} (h:DataW.trod enc Tryz.prog W base spare held fuel 44 [v]=some (d,pl)) (hw:∀n∈d.weights Tryz.prog 44,n≤reachBytes):
  ∃a n c l,v= .slice a n c∧Src W a n l∧Bytes l∧n≤c∧n≤140737488355328:=by
 rcases open_ints Tryz.underlying44 Tryz.underlying5 cellsU8 h with ⟨hcs,_⟩|⟨x,l,c,zs,hcs,_,hl,hm,hz,hd,hcell,hwz⟩
 ·simp only [List.cons.injEq,and_true] at hcs
  exact⟨none,0,0, [],hcs,⟨rfl,fun _=>rfl,fun x hx=>by cases hx⟩,(fun x hx=>by cases hx),Nat.le_refl _,Nat.zero_le _⟩
 ·simp only [List.cons.injEq,and_true] at hcs
  simp only [Prod.mk.injEq] at hd
  obtain⟨rfl,rfl⟩:=hd
  have hzl:l≤zs.length:=by rw [hz];split <;> omega
  have h1:=hw ((((lits IntKind.u8 (zs.take l):List (DataW H))).length+((lits IntKind.u8 (zs.drop l):List (DataW H))).length)*Tryz.prog.bytesOf 5) (by simp [DataW.weights,Tryz.underlying44])
  rw [bytesU8] at h1
  simp only [lits,List.length_map,List.length_take,List.length_drop,reachBytes] at h1
  refine⟨some x,l,c,zs.take l,hcs,⟨by simp;omega,(fun h=>by cases h),fun y hy i hi=>?_⟩,fun z hz=>u8_wf (hwz z (List.mem_of_mem_take hz)),hl,by omega⟩
  cases hy
  rw [hcell i (by omega)]
  simp [List.getD,hi]
end
end Go.Proofs.YtkiehemoiapkkaaGreat
end
section
namespace Go.Proofs.YtkiehemoiapkkaaGreat
open Go.RowKit
def tab:List Value:=(List.range 16).map (fun j=>Value.int .u32 ((cbs 4 j:Nat):Int))
theorem tab_len:tab.length=16:=by simp [tab]
theorem tab_one:∀v∈tab,v.oneCell'=true:=by
 intro v hv
 obtain⟨j,_,rfl⟩:=List.mem_map.1 hv
 rfl
theorem infoTab:(Tryz.prog.info? 186).map (·.size)=some tab.length:=by rw [tab_len];kernel_rfl
theorem bit1 (r:Nat) (hr:r<4294967296):bits .and .u32 (r:Int) 1=((r%2:Nat):Int):=by
 have:=u32_and_nat r 1 hr (by omega)
 rw [Nat.and_one_is_mod] at this
 exact this
theorem cb_bits (r:Nat) (hr:r<4294967296):bits .xor .u32 ((r:Int) / 2) (2197175160*((r:Int)%2))=((cb r:Nat):Int):=by
 have e1:((r:Int) / 2)=((r / 2:Nat):Int):=by omega
 have e2:(2197175160*((r:Int)%2))=(((if r%2=1 then 2197175160 else 0):Nat):Int):=by
  split <;> omega
 rw [e1,e2,u32_xor_nat _ _ (by omega) (by split <;> omega)]
 rfl
theorem Keeps.setCells {F:Nat→Prop} {b:Nat} (hb:F b):∀(vs:List Value) (o:Nat) (w:World),Keeps F w (w.setCells b o vs)
 | [],_,w=>Keeps.refl F w
 |v :: r,o,w=>(Keeps.setCell (p:=⟨b,o,none⟩) w hb v).trans (Keeps.setCells hb r (o+1) _) (fun _ h=> .inl h)
theorem size_setCells {b:Nat}:∀(vs:List Value) (o:Nat) (w:World),(w.setCells b o vs).heap.size=w.heap.size
 | [],_,_=>rfl
 |v :: r,o,w=>by simp only [World.setCells];rw [size_setCells r];simp [World.setCell]
theorem results_cell_mid {P:Program} {fn:Func} {p:Tmp} {ty:TypeId} (h:fn.results= #[.cell p ty]) (tmps:Array Value) (w:World) (g:Nat) (cs:List Value) (d:TypeDesc)
    (hp:tmps.getD p undef= .pointer (some ⟨g,0,none⟩)) (hg:w.rangeAt g 0 cs) (hu:P.underlying ty=some d) (hd:d.isRow=true) (hi:(P.info? ty).map (·.size)=some cs.length):
    (results fn tmps).run P w= .ok (.agg cs.toArray) w:=by
 have hp':tmps[p]?.getD undef= .pointer (some ⟨g,0,none⟩):=by simpa using hp
 simp [results,h,hp',asAddr,run_loadVar_mid w g 0 ty cs d hg hu hd hi]
def Half (w wr:World) (k:Nat):Prop:=
 Below w.heap.size w wr∧wr.heap.size=w.heap.size+2∧(∃cur:Array Value,cur.size=16∧wr.heap[w.heap.size]? =some (.cells cur 186 (0,0)))∧
  ∃cs:List Int,cs.length=16∧wr.heap[w.heap.size+1]? =some (.cells (cs.map (Value.int .u32)).toArray 186 (0,0))∧∀j,j<k→cs[j]? =some ((cbs 4 j:Nat):Int)
theorem Half.next {w wr:World} {k:Nat} (h:Half w wr k) (hk:k<16):(∃v,wr.cell? ⟨w.heap.size+1,k,none⟩=some (.int .u32 v))∧wr.frozen? ⟨w.heap.size+1,k,none⟩=false∧
  Half w (wr.setCell ⟨w.heap.size+1,k,none⟩ (.int .u32 ((cbs 4 k:Nat):Int))) (k+1):=by
 obtain⟨hb,hs,⟨cur,hc,hcb⟩,cs,hl,hblk,hcs⟩:=h
 have hkl:k<cs.length:=by omega
 refine⟨⟨cs[k],cell_of_block hblk (by simp [hkl])⟩,frozen_of_block hblk k,?_,?_,⟨cur,hc,?_⟩,cs.set k ((cbs 4 k:Nat):Int),by simp [hl],?_,?_⟩
 ·exact hb.trans ((Keeps.setCell (F:=fun j=>j=w.heap.size+1) (p:=⟨w.heap.size+1,k,none⟩) wr rfl _).below (fun j hj=>by omega) (by omega))
 ·simpa [World.setCell] using hs
 ·rw [Below.heap_setCell _ _ _ _ (by simp)];exact hcb
 ·rw [heap_setCell_same _ _ _ _ _ _ hblk]
  congr 2
  apply Array.ext'
  simp [List.map_set]
 ·intro j hj
  by_cases e:j=k
  ·subst e;simp [hkl]
  ·rw [List.getElem?_set_ne (by omega)];exact hcs j (by omega)
theorem Half.done {w wr:World} (h:Half w wr 16):wr.rangeAt (w.heap.size+1) 0 tab∧wr.there w.heap.size 0 tab.length:=by
 obtain⟨hb,hs,⟨cur,hc,hcb⟩,cs,hl,hblk,hcs⟩:=h
 constructor
 ·intro j v hv
  have hj:j<16:=by
   have:=(List.getElem?_eq_some_iff.1 hv).1
   rwa [tab_len] at this
  rw [Nat.zero_add]
  refine cell_of_block hblk ?_
  rw [←hv]
  simp [tab,hcs j hj,hj]
 ·intro j hj
  rw [tab_len] at hj
  rw [Nat.zero_add]
  exact⟨by rw [cell_of_block hcb (j:=j) (u:=cur[j]'(by omega)) (by simp [show j<cur.size by omega])];rfl,frozen_of_block hcb j⟩
set_option maxHeartbeats 2000000 in
theorem halves_any (w:World):
  Calls Tryz.prog 154 #[] w fun e w'=>e= .returned (.agg tab.toArray)∧Below w.heap.size w w':=by
 go_enter Tryz.func154,Tryz.ntmps154
 go_wp2
 go_loopw [5] (fun i wr=>∃k:Nat,k≤16∧i= .int .i64 k∧Half w wr k) (fun i _=>16-(intOf i).toNat)
 case atStart=>
  refine⟨0,Nat.zero_le _,rfl,Below.alloc (Below.alloc (Below.refl _ _) (Nat.le_refl _) _) (by simp) _,by simp,⟨_,?_,heap_alloc2_old _ _ _⟩,List.replicate 16 0,by simp,?_,fun j hj=>by omega⟩
  ·rfl
  ·rw [heap_alloc2_new];rfl
 case round=>
  obtain⟨k,hk,rfl,hhalf⟩:=hrel
  by_cases hlt:k<16
  ·have hlt':(k:Int)<16:=by omega
   obtain⟨⟨v0,hc⟩,hf,hnext⟩:=hhalf.next hlt
   go_wp2
   go_loopw [3,10] (fun r i wx=>∃m:Nat,m≤4∧i= .int .i64 m∧wx=wr∧r= .int .u32 ((cbs m k:Nat):Int)) (fun _ i _=>4-(intOf i).toNat)
   case atStart=>exact⟨0,Nat.zero_le _,rfl,rfl,rfl⟩
   case round=>
    obtain⟨m,hm,rfl,rfl,rfl⟩:=hrel
    have hr:cbs m k<4294967296:=cbs_lt m (by omega)
    by_cases hlm:m<4
    ·have hlm':(m:Int)<4:=by omega
     have hb1:=bit1 (cbs m k) hr
     have hb3:cb (cbs m k)=cbs (m+1) k:=by rw [cbs_add];rfl
     go_wp2
     go_roundw
     case rel=>exact⟨m+1,by omega,by go_num,trivial,by rw [←hb3,←(cb_bits (cbs m k) hr)]⟩
     case measure=>simp [intOf];omega
    ·have hlm':¬(m:Int)<4:=by omega
     have hm4:m=4:=by omega
     subst hm4
     go_wp2
     go_roundw
     case rel=>exact⟨k+1,by omega,by go_num,hnext⟩
     case measure=>simp [intOf];omega
  ·have hlt':¬(k:Int)<16:=by omega
   have hk16:k=16:=by omega
   subst hk16
   obtain⟨hra,hth⟩:=hhalf.done
   have hbel:=hhalf.1
   have hall:=all_oneCell_toArray tab_one
   go_wp2_with (first|refine wpList_load_mid rfl 186 _ rfl (w.heap.size+1) 0 rfl tab _ hra Tryz.underlying186 rfl infoTab ?_|refine wpList_store_mid rfl 186 _ _ rfl w.heap.size 0 tab.toArray rfl rfl ?h1 ?h2 hall ?_)
   case h2=>exact Option.map_eq_some_iff.1 infoTab
   exact bodyPost_ret (results_cell_mid (P:=Tryz.prog) rfl _ _ w.heap.size tab _ rfl (World.rangeAt_setCells_same wr w.heap.size 0 tab hth) Tryz.underlying186 rfl infoTab) rfl ⟨rfl,(hbel.trans ((Keeps.setCells (F:=fun j=>j=w.heap.size) rfl tab 0 wr).below (fun j hj=>by omega) hbel.size))⟩
theorem tab_at {w:World} {g:Nat} (hg:w.heap[g]? =some (.cells tab.toArray 186 (0,0))) (i:Nat) (hi:i<16):w.cell? ⟨g,i,none⟩=some (.int .u32 ((cbs 4 i:Nat):Int)):=
 cell_of_block hg (by simp [tab,hi])
theorem and15 (r:Nat) (hr:r<4294967296):bits .and .u32 (r:Int) 15=((r%16:Nat):Int):=by
 have:=u32_and_nat r 15 hr (by omega)
 rw [show (15:Nat)=2 ^ 4-1 from rfl,Nat.and_two_pow_sub_one_eq_mod] at this
 exact this
theorem nib_bits (r:Nat) (hr:r<4294967296):bits .xor .u32 ((r:Int) / 16) ((cbs 4 (r%16):Nat):Int)=((cbs 4 r:Nat):Int):=by
 have e1:((r:Int) / 16)=((r / 16:Nat):Int):=by omega
 rw [e1,u32_xor_nat _ _ (by omega) (cbs_lt 4 (by omega)),←cbs_nib]
set_option maxHeartbeats 2000000 in
theorem through_low (b o n c:Nat) (l:List Int) (w:World) (hb:Bytes l) (hl:l.length=n) (hn:n≤140737488355328) (hs:∀i,i<n→w.cell? ⟨b,o+i,none⟩=some (.int .u8 (l.getD i 0))):
  Calls Tryz.prog 153 #[.agg tab.toArray, .int .u32 4294967295, .slice (some ⟨b,o,none⟩) n c] w fun e w'=>e= .returned (.int .u32 ((crc 4294967295 l:Nat):Int))∧Below w.heap.size w w':=by
 go_enter Tryz.func153,Tryz.ntmps153
 go_wp2
 go_loopw [1,11] (fun r i wr=>∃k:Nat,k≤n∧i= .int .i64 k∧wr=w.alloc (.cells tab.toArray 186)∧r= .int .u32 ((crc 4294967295 (l.take k):Nat):Int)) (fun _ i _=>n-(intOf i).toNat)
 case atStart=>exact⟨0,Nat.zero_le _,rfl,rfl,by simp [crc_nil]⟩
 case round=>
  obtain⟨k,hk,rfl,rfl,rfl⟩:=hrel
  by_cases hlt:k<n
  ·have hlt':(k:Int)<(n:Int):=by omega
   have hc:(w.alloc (.cells tab.toArray 186)).cell? ⟨b,o+k,none⟩=some (.int .u8 (l.getD k 0)):=Lib.cell?_alloc_some _ (hs k hlt)
   have htab:(w.alloc (.cells tab.toArray 186)).heap[w.heap.size]? =some (.cells tab.toArray 186 (0,0)):=heap_alloc_new _ _
   have hkl:k<l.length:=by omega
   obtain⟨x,hx,hx1⟩:∃x:Nat,l.getD k 0=(x:Int)∧x<256:=by
    have:=hb l[k] (List.getElem_mem hkl)
    refine⟨(l.getD k 0).toNat,?_,?_⟩<;> simp [List.getD,hkl] <;> omega
   have htk:Bytes (l.take k):=fun y hy=>hb y (List.mem_of_mem_take hy)
   have hr:crc 4294967295 (l.take k)<4294967296:=crc_lt (by omega) htk
   have hsn:crc 4294967295 (l.take (k+1))=cbs 8 (crc 4294967295 (l.take k) ^^^ x):=by
    rw [List.take_succ_eq_append_getElem hkl,crc_snoc _ _ htk]
    congr 2
    have:l.getD k 0=l[k]:=by simp [List.getD,hkl]
    rw [←this,hx];simp
   rw [hx] at hc
   generalize hR:crc 4294967295 (l.take k)=R at*
   have hq:R ^^^ x<4294967296:=by
    have:R ^^^ x<2 ^ 32:=Nat.xor_lt_two_pow (by omega) (by omega)
    omega
   have e1:bits .xor .u32 (R:Int) (x:Int)=((R ^^^ x:Nat):Int):=u32_xor_nat _ _ hr (by omega)
   have t1:=tab_at htab ((R ^^^ x)%16) (by omega)
   have e2:=and15 (R ^^^ x) hq
   have e3:=nib_bits (R ^^^ x) hq
   have hq2:=cbs_lt 4 hq
   have t2:=tab_at htab (cbs 4 (R ^^^ x)%16) (by omega)
   have e4:=and15 (cbs 4 (R ^^^ x)) hq2
   have e5:=nib_bits (cbs 4 (R ^^^ x)) hq2
   have e6:cbs 4 (cbs 4 (R ^^^ x))=cbs 8 (R ^^^ x):=(cbs_add 4 4 _).symm
   have hxw:IntKind.u32.wrap (x:Int)=(x:Int):=by rw [IntKind.wrap_u32];omega
   go_wp2
   go_roundw
   case rel=>exact⟨k+1,by omega,by go_num,trivial,by rw [hsn]⟩
   case measure=>simp [intOf];omega
  ·have hlt':¬(k:Int)<(n:Int):=by omega
   have hkn:l.take k=l:=List.take_of_length_le (by omega)
   have HB:(Below w.heap.size w (w.alloc (.cells tab.toArray 186))):=(Below.refl _ w).alloc (Nat.le_refl _) _
   rw [hkn] at*
   go_wp2
   go_ret
   exact⟨rfl,HB⟩
set_option maxHeartbeats 1000000 in
theorem through_none (a:Option Addr) (c:Nat) (w:World):
  Calls Tryz.prog 153 #[.agg tab.toArray, .int .u32 4294967295, .slice a 0 c] w fun e w'=>e= .returned (.int .u32 ((crc 4294967295 []:Nat):Int))∧Below w.heap.size w w':=by
 have HB:(Below w.heap.size w (w.alloc (.cells tab.toArray 186))):=(Below.refl _ w).alloc (Nat.le_refl _) _
 rw [crc_nil]
 go_enter Tryz.func153,Tryz.ntmps153
 go_wp2
 refine wp_loop_rounds 1 ?_;rw [rounds_succ];go_wp2
 go_ret
 exact⟨rfl,HB⟩
theorem through_any (a:Option Addr) (n c:Nat) (l:List Int) (w:World) (hb:Bytes l) (hn:n≤140737488355328) (hs:Src w a n l):
  Calls Tryz.prog 153 #[.agg tab.toArray, .int .u32 4294967295, .slice a n c] w fun e w'=>e= .returned (.int .u32 ((crc 4294967295 l:Nat):Int))∧Below w.heap.size w w':=by
 by_cases h0:n=0
 ·subst h0
  have:l= []:=List.eq_nil_of_length_eq_zero hs.1
  subst this
  exact through_none a c w
 ·cases a with
  |none=>exact absurd (hs.2.1 rfl) h0
  |some x=>
   obtain⟨b,o,rfl,k⟩:=hs.spot (by omega)
   exact through_low b o n c l w hb hs.1 hn k
theorem not_bits (r:Nat) (hr:r<4294967296):bits .xor .u32 IntKind.u32.max (r:Int)=((r ^^^ 4294967295:Nat):Int):=by
 have e:IntKind.u32.max=((4294967295:Nat):Int):=by decide
 rw [e,u32_xor_nat _ _ (by omega) hr,Nat.xor_comm]
set_option maxHeartbeats 1000000 in
theorem sum_any (a:Option Addr) (n c:Nat) (l:List Int) (w:World) (hb:Bytes l) (hn:n≤140737488355328) (hs:Src w a n l):
  Calls Tryz.prog 129 #[.slice a n c] w fun e w'=>e= .returned (.int .i64 ((sumOf l:Nat):Int))∧Below w.heap.size w w':=by
 have hnb:=not_bits _ (crc_lt (r:=4294967295) (by omega) hb)
 have hq0:crc 4294967295 l ^^^ 4294967295<4294967296:=sumOf_lt hb
 have hq:wrap64 ((crc 4294967295 l ^^^ 4294967295:Nat):Int)=((crc 4294967295 l ^^^ 4294967295:Nat):Int):=by unfold wrap64;omega
 unfold sumOf
 go_enter Tryz.func129,Tryz.ntmps129
 go_wp2_with fail
 refine(halves_any w).mono ?_
 rintro e w1 ⟨rfl,hb1⟩
 go_wp2_with fail
 refine(through_any a n c l w1 hb hn (hs.later hb1)).mono ?_
 rintro e w2 ⟨rfl,hb2⟩
 go_wp2
 go_ret
 exact⟨rfl,(hb1.trans (hb2.mono hb1.size))⟩
end Go.Proofs.YtkiehemoiapkkaaGreat
end
section
namespace Go.Proofs.YtkiehemoiapkkaaGreat
open Go.RowKit
structure Later (w:World) where
 to:World
 h:Below w.heap.size w to
theorem below_drew {B:Nat} {a w:World} (h:Below B a w):Below B a w.drew:=⟨h.os,h.tape,h.output,h.size,h.block⟩
theorem Later.some (w:World):Nonempty (Later w):=⟨⟨w,Below.refl _ _⟩⟩
theorem wp_region_later {P:Program} {id:Nat} {Q:Exit→Act→World→Prop} {a:Act} {w:World} {l:List Oper} (hm:P.follows .mixedOrders=true) (hB:Region.lexB .any l.toArray=true)
    (h:wpQuiet P l.toArray (fun w'=>∃q:Later w,w'=q.to) (fun a'=>∀w',(∃q:Later w,w'=q.to)→Q .normal a' w') l a):(Code.region id l.toArray true).wp P Q a w:=
 wp_region_quiet (C:=fun w'=>∃q:Later w,w'=q.to) hm hB ⟨⟨w.drew,below_drew (Below.refl _ _)⟩,rfl⟩ (by simpa using h)
theorem Calls.later_of {P:Program} {f:FuncId} {args:Array Value} {w:World} {q:Later w} {v:Value}
    (h:Calls P f args q.to fun e w'=>e= .returned v∧Below q.to.heap.size q.to w'):Calls P f args q.to fun e w''=>e= .returned v∧∃q':Later w,w''=q'.to:=
 h.mono fun _ w' ⟨he,hm⟩=>⟨he,⟨w',q.h.trans (hm.mono q.h.size)⟩,rfl⟩
end Go.Proofs.YtkiehemoiapkkaaGreat
end
section
namespace Go.Proofs.YtkiehemoiapkkaaGreat
open Go.RowKit
def Own (w:World) (B:Nat) (v:Value) (l:List Int):Prop:=w.ownsRow B 5 1 v l.length (bs l)
theorem Own.nil (w:World) (B:Nat):Own w B (.slice none 0 0) []:=⟨by simp, .inl ⟨rfl,rfl⟩⟩
theorem Own.src {w:World} {B:Nat} {v:Value} {l:List Int} (h:Own w B v l):∃a c,v= .slice a l.length c∧Src w a l.length l∧l.length≤c∧(∀x,a=some x→B≤x.block∧x.off=0):=by
 by_cases hv:v= .slice none 0 0
 ·subst hv
  have h0:l.length=0:=by
   obtain⟨_,⟨_,hn⟩|⟨g,c,cur,e,_⟩⟩:=h
   ·exact hn
   ·cases e
  obtain rfl:=List.eq_nil_of_length_eq_zero h0
  exact⟨none,0,rfl,⟨rfl,fun _=>rfl,fun x hx=>by cases hx⟩,Nat.le_refl _,fun x hx=>by cases hx⟩
 ·obtain⟨g,c,rfl,hg,hr,_⟩:=RowAt.of_owns h hv
  refine⟨some ⟨g,0,none⟩,c,rfl,hr.src,?_,fun x hx=>by cases hx;exact⟨hg,rfl⟩⟩
  have:=hr.le
  simpa [bs] using this
theorem Own.row {w:World} {B:Nat} {a:Option Addr} {n c:Nat} {l:List Int} (h:Own w B (.slice a n c) l) (h0:0<l.length):∃g,a=some ⟨g,0,none⟩∧n=l.length∧B≤g∧RowAt w 5 g c (bs l):=by
 obtain⟨g,c',e,hg,hr,_⟩:=RowAt.of_owns h (by
  intro e
  cases e
  obtain⟨_,⟨_,hn⟩|⟨g,c,cur,e,_⟩⟩:=h
  ·omega
  ·cases e)
 cases e
 exact⟨g,rfl,rfl,hg,hr⟩
theorem bs_append (a b:List Int):bs (a ++ b)=bs a ++ bs b:=List.map_append
theorem bs_snoc (a:List Int) (x:Int):bs a ++ [.int .u8 x]=bs (a ++ [x]):=by rw [bs_append];rfl
theorem take_snoc (l:List Int) (k:Nat) (h:k<l.length):l.take k ++ [l.getD k 0]=l.take (k+1):=by
 rw [List.take_succ_eq_append_getElem h]
 simp [List.getD,h]
end Go.Proofs.YtkiehemoiapkkaaGreat
end
section
namespace Go.Proofs.YtkiehemoiapkkaaGreat
open Go.RowKit
theorem take_eq_next {l l':List Int} {k:Nat} (h:l.take k=l'.take k) (h1:k<l.length) (h2:k<l'.length) (e:l.getD k 0=l'.getD k 0):l.take (k+1)=l'.take (k+1):=by
 rw [List.take_succ_eq_append_getElem h1,List.take_succ_eq_append_getElem h2,h]
 simp [List.getD,h1,h2] at e
 rw [e]
theorem ne_of_getD {l l':List Int} {k:Nat} (e:l.getD k 0≠l'.getD k 0):l≠l':=fun h=>e (by rw [h])
theorem own_of {w:World} {B k:Nat} {v:Value} {l m:List Int} (h:w.ownsRow B 5 1 v k (bs l)) (hk:m.length=k) (e:m=l):Own w B v m:=by
 subst e;subst hk;exact h
end Go.Proofs.YtkiehemoiapkkaaGreat
end
section
namespace Go.Proofs.YtkiehemoiapkkaaGreat
open Go.RowKit
end Go.Proofs.YtkiehemoiapkkaaGreat
end
section
namespace Go.Proofs.YtkiehemoiapkkaaGreat
open Go.RowKit
theorem eq_u8 (n:Nat) (a b:Int) (w:World):(Op.equalIn (n+1) 5 (.int .u8 a) (.int .u8 b)).run Tryz.prog w= .ok (a == b) w:=by
 simp [Op.equalIn,go_sem]
theorem part_u8 (xs:Array Value) (off:Nat) (v:Value) (w:World) (h:xs[off]? =some v):(part 5 xs off).run Tryz.prog w= .ok v w:=run_part_plain (P:=Tryz.prog) w (by kernel_rfl) h
theorem eqStep_u8 (n:Nat) (w:World) (xs ys:Array Value) (j:Nat) (a b:Int) (js:List Nat) (h1:xs[j]? =some (.int .u8 a)) (h2:ys[j]? =some (.int .u8 b)):
    (Op.eqItems (n+1) 5 1 xs ys (j :: js)).run Tryz.prog w=if a=b then (Op.eqItems (n+1) 5 1 xs ys js).run Tryz.prog w else .ok false w:=by
 simp only [Op.eqItems,Nat.mul_one,Sem.run_bind,part_u8 xs j _ w h1,part_u8 ys j _ w h2,Result.andThen_ok,eq_u8]
 by_cases h:a=b
 ·simp [h]
 ·simp [h]
theorem eqItems_u8 (n:Nat) (l m:List Int) (w:World):∀js:List Nat,(∀j∈js,j<l.length∧j<m.length)→
    (Op.eqItems (n+1) 5 1 (bs l).toArray (bs m).toArray js).run Tryz.prog w= .ok (decide (∀j∈js,l.getD j 0=m.getD j 0)) w
 | [],_=>by simp [Op.eqItems]
 |j :: js,h=>by
  obtain⟨h1,h2⟩:=h j (by simp)
  have e1:(bs l).toArray[j]? =some (.int .u8 (l.getD j 0)):=by simp [bs,List.getD,h1]
  have e2:(bs m).toArray[j]? =some (.int .u8 (m.getD j 0)):=by simp [bs,List.getD,h2]
  rw [eqStep_u8 n w _ _ j _ _ js e1 e2]
  by_cases hx:l.getD j 0=m.getD j 0
  ·rw [if_pos hx,(eqItems_u8 n l m w js (fun i hi=>h i (by simp [hi])))]
   refine congrArg (fun b=>Result.ok b w) ?_
   rw [decide_eq_decide]
   exact⟨fun k i hi=>by rcases List.mem_cons.1 hi with rfl|hi;exact hx;exact k i hi,fun k i hi=>k i (by simp [hi])⟩
  ·rw [if_neg hx]
   refine congrArg (fun b=>Result.ok b w) ?_
   symm
   rw [decide_eq_false_iff_not]
   exact fun k=>hx (k j (by simp))
theorem getD_ext {l m:List Int} (hl:l.length=m.length) (h:∀i,i<l.length→l.getD i 0=m.getD i 0):l=m:=by
 apply List.ext_getElem?
 intro i
 by_cases hi:i<l.length
 ·have:=h i hi
  simp only [List.getD,List.getElem?_eq_getElem hi,List.getElem?_eq_getElem (show i<m.length by omega),Option.getD_some] at this
  rw [List.getElem?_eq_getElem hi,List.getElem?_eq_getElem (show i<m.length by omega),this]
 ·rw [List.getElem?_eq_none (by omega),List.getElem?_eq_none (by omega)]
theorem eq_row (N n:Nat) (T:TypeId) (l m:List Int) (hl:l.length=N) (hm:m.length=N) (w:World) (hu:Tryz.prog.underlying T=some (.array N 5)):
    (Op.equalIn (n+2) T (.agg (bs l).toArray) (.agg (bs m).toArray)).run Tryz.prog w= .ok (decide (l=m)) w:=by
 obtain⟨i0,hi⟩:=info_of_underlying (P:=Tryz.prog) Tryz.underlying5
 rw [run_equalIn_array (P:=Tryz.prog) w (n+1) _ _ hu hi]
 have hce:Tryz.prog.cellsOf 5=1:=by kernel_rfl
 rw [hce,eqItems_u8 n l m w _ (fun j hj=>by rw [List.mem_range] at hj;omega)]
 refine congrArg (fun b=>Result.ok b w) ?_
 rw [decide_eq_decide]
 constructor
 ·intro h
  exact getD_ext (by omega) (fun i hi=>h i (List.mem_range.2 (by omega)))
 ·rintro rfl _ _;rfl
theorem eq_sec (n:Nat) (l m:List Int) (hl:l.length=512) (hm:m.length=512) (w:World):
    (Op.equalIn (n+2) 188 (.agg (bs l).toArray) (.agg (bs m).toArray)).run Tryz.prog w= .ok (decide (l=m)) w:=
 eq_row 512 n 188 l m hl hm w Tryz.underlying188
theorem guardSec:Tryz.prog.eqGuardType Tryz.prog.depth 188=false:=by kernel_rfl
theorem eqop_sec (l m:List Int) (hl:l.length=512) (hm:m.length=512) (w:World) (x y:Operand):
    (do eqGuard .eql 188 x y (.agg (bs l).toArray) (.agg (bs m).toArray);binOp .eql 188 (.agg (bs l).toArray) (.agg (bs m).toArray)).run Tryz.prog w= .ok (.bool (decide (l=m))) w:=by
 rw [Sem.run_bind,run_eqGuard_agg (P:=Tryz.prog) w .eql 188 x y _ _ guardSec,Result.andThen_ok]
 show (binOp .eql 188 (.agg (bs l).toArray) (.agg (bs m).toArray)).run Tryz.prog w=_
 unfold binOp Op.equal Op.maxDepth
 rw [Sem.run_bind,(eq_sec 9998 l m hl hm w),Result.andThen_ok,Sem.run_pure]
end Go.Proofs.YtkiehemoiapkkaaGreat
end
