import Derived.Laws.BitsAllLaws
import Derived.Test.YtkiehemoiapkkaaGreatRows
import Derived.WalkKit
import Derived.WalkSpells
import Derived.WalkLawsBesides
import Derived.Below
import Derived.Laws.CopyOwn
import Derived.Lib.SliceRun
import Derived.Deep.QuietTactic
import Derived.BigQuiet
import Derived.Maps.RangeWalk
import Derived.Maps.OwnOps
import Derived.Deep.RegionHeld3
import Derived.Deep.AppendLies
import Derived.ProofKit
import Derived.OpenShut
import Derived.ShutString
import Derived.ChangeOld
import Derived.SizedLaws
import Derived.Deep.Slices
import Derived.Deep.Light
import Derived.Deep.MidRow
import Derived.Deep.Quiet
import Derived.OwnWalk
import Derived.RegionTactic
import Derived.BigRegion
import Derived.Deep.RegionLaw
import Derived.ChangeKeysEq
import Derived.ArgAppend
set_option maxRecDepth 20000
set_option maxHeartbeats 8000000
set_option linter.all false
namespace Go.Proofs.YtkiehemoiapkkaaGreat
open Go.Proofs.Tryz
open Go.RowKit Go.Maps
variable {x:Addr} {cur:Array Value} {K:Ending->World->Prop} {body data im l l':List Int} {xs:List Value} {base c gw cg ci g g2 gi i j k n p q s:Nat} {dE:Nat->List (List Int)} {cr gr:Nat->Nat} {F G:Nat->Prop} {xa xb xc xd xe xf xg xh xi xj xk:Prop} {α:Type} {T e e':TypeId} {u v:Value} {w w' w1 w3:World} {A:World->Prop}
def Yh (p:Prop):Prop:=p
def Yh.o {p:Prop} (h:Yh p):p:=h
def Yh.out {p:Prop} (h:Yh p):p:=h
def yh {p:Prop} (h:p):Yh p:=h
def cb (r:Nat):Nat:=r / 2 ^^^ (if r%2=1 then 2197175160 else 0)
def lX:Nat->Nat->Nat
 |0,r=>r
 |n+1,r=>lX n (cb r)
def le:List Int->Nat
 | []=>0
 |x :: t=>x.toNat+256*le t
def Bytes (l:List Int):Prop:=∀x∈l,0<=x/\x<256
def SK (a b:Nat):cb (a ^^^ b)=cb a ^^^ cb b:=by
 unfold cb;have h:(a ^^^ b)%2=(a+b)%2:=by
  have e:=Nat.testBit_xor a b 0;simp only [Nat.testBit_zero] at e;rcases Nat.mod_two_eq_zero_or_one a with c|c <;> rcases Nat.mod_two_eq_zero_or_one b with d|d <;> rcases Nat.mod_two_eq_zero_or_one (a ^^^ b) with f|f <;> rw [c,d,f] at e <;> first|omega|exact absurd e (by decide)
 have hd:(a ^^^ b) / 2=a / 2 ^^^ b / 2:=Nat.xor_div_two;rw [hd];rcases Nat.mod_two_eq_zero_or_one a with c|c <;> rcases Nat.mod_two_eq_zero_or_one b with d|d
 .have:(a ^^^ b)%2=0:=by omega
  simp [c,d,this]
 .have:(a ^^^ b)%2=1:=by omega
  simp [c,d,this,Nat.xor_assoc]
 .have:(a ^^^ b)%2=1:=by omega
  simp only [c,d,this,if_true];rw [Nat.xor_assoc,Nat.xor_assoc,Nat.xor_comm (b / 2)];simp
 .have:(a ^^^ b)%2=0:=by omega
  simp only [c,d,this,if_true];rw [Nat.xor_assoc,Nat.xor_assoc,<-Nat.xor_assoc (2197175160) (b / 2),Nat.xor_comm 2197175160 (b / 2),Nat.xor_assoc (b / 2),Nat.xor_self];simp
def Gz (n a b:Nat):lX n (a ^^^ b)=lX n a ^^^ lX n b:=by
 induction n generalizing a b with
 |zero=>rfl
 |succ n c=>simp only [lX,SK,c]
def V4 {r:Nat} (h:r<4294967296):cb r<4294967296:=by
 unfold cb;have:r / 2 ^^^ (if r%2=1 then 2197175160 else 0)<2 ^ 32:=Nat.xor_lt_two_pow (by omega) (by split <;> omega);omega
def y9 (n:Nat) {r:Nat} (h:r<4294967296):lX n r<4294967296:=by
 induction n generalizing r with
 |zero=>exact h
 |succ n a=>exact a (V4 h)
def zb (n m r:Nat):lX (n+m) r=lX m (lX n r):=by
 induction n generalizing r with
 |zero=>simp [lX]
 |succ n a=>rw [Nat.succ_add];simp only [lX];exact a (cb r)
def Pz (m:Nat):cb (2*m)=m:=by
 unfold cb;have a:2*m / 2=m:=by omega
 have b:2*m%2=0:=by omega
 rw [a,b];simp
def GA (n m:Nat):lX n (2 ^ n*m)=m:=by
 induction n generalizing m with
 |zero=>simp [lX]
 |succ n a=>
  rw [Nat.pow_succ,show 2 ^ n*2*m=2*(2 ^ n*m) by rw [Nat.mul_comm (2 ^ n) 2,Nat.mul_assoc],lX,Pz,a]
def GB (i a b:Nat) (h:b<2 ^ i):b+2 ^ i*a=b ^^^ 2 ^ i*a:=by
 apply Nat.eq_of_testBit_eq;intro j;rw [Nat.add_comm,Nat.testBit_two_pow_mul_add a h j,Nat.testBit_xor,Nat.testBit_two_pow_mul];by_cases c:j<i
 .simp [c,show¬i<=j by omega]
 .have:b.testBit j=false:=Nat.testBit_lt_two_pow (Nat.lt_of_lt_of_le h (Nat.pow_le_pow_right (by decide) (by omega)));simp [c,this,show i<=j by omega]
def PA (r:Nat):lX 4 r=r / 16 ^^^ lX 4 (r%16):=by
 have h:r=r%16 ^^^ 2 ^ 4*(r / 16):=by
  rw [<-GB 4 (r / 16) (r%16) (by omega)];omega
 conv=>lhs;rw [h,Gz,GA]
 exact Nat.xor_comm _ _
def t6 (r:Nat) (l:List Int):Nat:=lX (8*l.length) (r ^^^ le l)
def sumOf (l:List Int):Nat:=t6 4294967295 l ^^^ 4294967295
def ld (h:Bytes l):le l<2 ^ (8*l.length):=by
 induction l with
 |nil=>simp [le]
 |cons x t b=>
  have c:=h x (by simp);have d:=b (λy a=>h y (by simp [a]));simp only [le,List.length_cons];rw [show 8*(t.length+1)=8*t.length+8 by omega,Nat.pow_add];have:x.toNat<256:=by omega
  omega
def rX (a b:List Int):le (a ++ b)=le a+2 ^ (8*a.length)*le b:=by
 induction a with
 |nil=>simp [le]
 |cons x t c=>
  simp only [List.cons_append,le,c,List.length_cons];rw [show 8*(t.length+1)=8*t.length+8 by omega,Nat.pow_add,Nat.mul_add];rw [show 2 ^ (8*t.length)*2 ^ 8*le b=256*(2 ^ (8*t.length)*le b) by rw [Nat.mul_comm (2 ^ (8*t.length)) (2 ^ 8),Nat.mul_assoc]];omega
def Ed {a:List Int} (b:List Int) (h:Bytes a):le (a ++ b)=le a ^^^ 2 ^ (8*a.length)*le b:=by
 rw [rX,GB _ _ _ (ld h)]
def zc (r:Nat):t6 r []=r:=by simp [t6,lX,le]
def ut (r:Nat) {a:List Int} (b:List Int) (h:Bytes a):t6 r (a ++ b)=t6 (t6 r a) b:=by
 unfold t6;rw [Ed b h,List.length_append,Nat.mul_add,zb,<-Nat.xor_assoc,Gz (8*a.length),GA]
def Lh (r:Nat) {a:List Int} (x:Int) (h:Bytes a):t6 r (a ++ [x])=lX 8 (t6 r a ^^^ x.toNat):=by
 rw [ut r _ h];simp [t6,le]
def Ee {r:Nat} (c:r<4294967296) (h:Bytes l):t6 r l<4294967296:=by
 induction l generalizing r with
 |nil=>simpa [zc] using c
 |cons x t e=>
  have d:=h x (by simp);have b:Bytes [x]:=λy a=>by simp at a;subst a;exact d
  rw [show x :: t= [x] ++ t from rfl,ut r t b];refine e ?_ (λy a=>h y (by simp [a]));have:r ^^^ x.toNat<2 ^ 32:=Nat.xor_lt_two_pow (by omega) (by omega);simpa [t6,le] using y9 8 (r:=r ^^^ x.toNat) (by omega)
def qE (h:Bytes l):sumOf l<4294967296:=by
 have:t6 4294967295 l ^^^ 4294967295<2 ^ 32:=Nat.xor_lt_two_pow (by have:=Ee (r:=4294967295) (by omega) h;omega) (by omega);unfold sumOf;omega
def pI (s:Nat):List Int:= [((s%256:Nat):Int),((s / 256%256:Nat):Int),((s / 65536%256:Nat):Int),((s / 16777216%256:Nat):Int)]
abbrev iV (x:Int):Value:= .int .i64 x
abbrev pQ (b:Nat):Value:= .pointer (some ⟨b,0,none⟩)
abbrev aD (b o:Nat):Addr:=⟨b,o,none⟩
abbrev bW (w v:World):Prop:=Below w.heap.size w v
def aQ {a b:Prop} (x:a) (y:b):a/\b:=⟨x,y⟩
def RA {l:List α} {a:α} (h:l[i]? =some a):a∈l:=List.mem_of_getElem? h
def gT {a b:List α}:(a++b).length=a.length+b.length:=List.length_append
def di (n:Nat):n<=n:=Nat.le_refl n
def wu {m:Nat} (h:n<m) (g:m<=k):n<k:=Nat.lt_of_lt_of_le h g
def RB {l:List α} {a:α}:l[i]? =some a↔∃h:i<l.length,l[i]=a:=List.getElem?_eq_some_iff
def iq (n:Nat):0<=n:=Nat.zero_le n
def cW (B:Nat) (w:World):Below B w w:=Below.refl B w
def zGm {β:Type} {f:α->β} {l:List α}:(l.map f)[i]? =Option.map f l[i]? :=List.getElem?_map
def aN {c:Prop} {i:Decidable c} {a b:α} (h:c):(if c then a else b)=a:=if_pos h
def aB {c:Prop} {i:Decidable c} {a b:α} (h:¬c):(if c then a else b)=b:=if_neg h
def oE [BEq α] [LawfulBEq α] {a b:α}:(a==b)=false↔a≠b:=beq_eq_false_iff_ne
def rO [BEq α] [LawfulBEq α] {a b:α}:(a !=b)=true↔a≠b:=bne_iff_ne
def oF {l:Array α} {a:α}:l[i]? =some a↔∃h:i<l.size,l[i]=a:=Array.getElem?_eq_some_iff
def wl {l:List α} (h:l.length<=i):l.take i=l:=List.take_of_length_le h
def xv {m:Nat} (h:n<=m) (g:m<=k):n<=k:=Nat.le_trans h g
def iA:=@List.setIfInBounds_toArray
def jG:=@List.set_cons_zero
def jZ:=@List.set_cons_succ
def KR:=@List.getElem?_eq_getElem
def ju:=@List.length_map
def t7:=@Int.toNat_natCast
def ZG:=@List.getElem?_append_left
def zS8:=@List.getElem?_set_self
def zS9:=@List.getElem?_append_right
def Ef:=@List.eq_nil_of_length_eq_zero
def V5:=@Int.tmod_eq_emod_of_nonneg
def ZH:=@List.getElem?_set_ne
def Iz:=@List.length_take
def GC:=@List.append_assoc
def Eg:=@Array.getElem?_setIfInBounds_ne
def gU:(prog.info? 5).map (λi=>(i.zero,i.size,i.bytes))=some (some (.int .u8 0),1,1):=by kernel_rfl
def aV (g o i:Nat):((aD g o):Addr).add i=⟨g,o+i,none⟩:=by
 unfold Addr.add;split <;> simp_all
abbrev bs (l:List Int):List Value:=l.map (Value.int .u8)
def ao (w:World) (e:TypeId) (g c:Nat) (xs:List Value):Prop:=
 ∃cur,w.heap[g]? =some (.cells cur e (0,0))/\cur.size=c/\cur.toList.take xs.length=xs/\c<=maxLen
def ao.lt (h:ao w e g c xs):g<w.heap.size:=by
 obtain⟨cur,a,_⟩:=h;exact(oF.1 a).1
def ao.le (h:ao w e g c xs):xs.length<=c:=by
 obtain⟨cur,_,rfl,a,_⟩:=h;have:=congrArg List.length a;simp at this;omega
def ao.max (h:ao w e g c xs):c<=maxLen:=by
 obtain⟨cur,_,_,_,h⟩:=h;exact h
def ao.cell (h:ao w e g c xs) (a:xs[j]? =some u):w.cell? (aD g j)=some u:=by
 obtain⟨cur,b,_,f,_⟩:=h;simp only [World.cell?,b];have d:=(RB.1 a).1;rw [<-f,List.getElem?_take] at a;rw [aN d] at a;simpa using a
def ao.byte (h:ao w e g c (bs l)) (hi:i<l.length):w.cell? (((aD g 0):Addr).add i)=some (.int .u8 (l.getD i 0)):=by
 rw [aV,Nat.zero_add];exact h.cell (by simp [bs,List.getD,KR hi])
def ao.agree (h:ao w e g c xs) (d:w'.heap[g]? =w.heap[g]?):ao w' e g c xs:=by
 obtain⟨cur,a,b⟩:=h;exact⟨cur,d.trans a,b⟩
def ao.owns (h:ao w e g c xs):w.ownsRow 0 e 1 (.slice (some (aD g 0)) xs.length c) xs.length xs:=by
 have a:=h.le;obtain⟨cur,b,d,i,f⟩:=h;exact⟨by simp, .inr ⟨g,c,cur,rfl,iq _,b,a,f,by simpa using d,by simpa using i⟩⟩
def ao.eQ (h:w.ownsRow base e 1 v n xs) (k:v≠ .slice none 0 0):
  ∃g c,v= .slice (some (aD g 0)) n c/\base<=g/\ao w e g c xs/\xs.length=n:=by
 obtain⟨a,⟨rfl,_⟩|⟨g,c,cur,rfl,i,f,l,j,b,d⟩⟩:=h
 .exact absurd rfl k
 .simp only [Nat.mul_one] at a b d;exact⟨g,c,rfl,i,⟨cur,f,b,by rw [a];exact d,j⟩,a⟩
structure ad (F:Nat->Prop) (w w':World):Prop where
 os:w'.os=w.os
 tape:w'.tape=w.tape
 output:w'.output=w.output
 size:w.heap.size<=w'.heap.size
 block:∀k,k<w.heap.size->¬F k->w'.heap[k]? =w.heap[k]?
def more (F:Nat->Prop) (w w':World):Nat->Prop:=λk=>F k\/(w.heap.size<=k/\k<w'.heap.size)
def ad.refl (F:Nat->Prop) (w:World):ad F w w:=⟨rfl,rfl,rfl,di _,λ_ _ _=>rfl⟩
def ad.trans {a b c:World} (h:ad F a b) (k:ad G b c) (f:∀j,G j->F j\/a.heap.size<=j):ad F a c:=
   ⟨k.os.trans h.os,k.tape.trans h.tape,k.output.trans h.output,xv h.size k.size,λi hi e=>
    (k.block i (wu hi h.size) (λg=>by rcases f i g with d|d;exact e d;omega)).trans (h.block i hi e)⟩
def ad.ag (F:Nat->Prop) (h:bW w w'):ad F w w':=⟨h.os,h.tape,h.output,h.size,λk a _=>h.block k a⟩
def ad.below {B:Nat} (h:ad F w w') (a:∀k,F k->B<=k) (c:B<=w.heap.size):Below B w w':=
   ⟨h.os,h.tape,h.output,h.size,λk d=>h.block k (by omega) (λb=>by have:=a k b;omega)⟩
def ad.mono (h:ad F w w') (a:∀k,F k->G k):ad G w w':=⟨h.os,h.tape,h.output,h.size,λk c d=>h.block k c (λb=>d (a k b))⟩
def ad.setCell (w:World) {p:Addr} (b:F p.block) (u:Value):ad F w (w.setCell p u):=
   ⟨rfl,rfl,rfl,by simp [World.setCell],λk _ a=>Below.heap_setCell w p u k (λe=>a (e▸b))⟩
def ad.alloc (F:Nat->Prop) (w:World) (o:Obj):ad F w (w.alloc o):=ad.ag F ((cW _ _).alloc (di _) _)
def ad.drew (F:Nat->Prop) (w:World):ad F w w.drew:=⟨rfl,rfl,rfl,di _,λ_ _ _=>rfl⟩
def lI (w:World) (a:Addr) (v:Value):w.grownBy (w.setCell a v) (some a.block):=
   ⟨rfl,rfl,rfl,by simp [World.setCell],λk _ b=>Below.heap_setCell w a v k (λe=>b (by rw [e]))⟩
def aa (a:w.heap[g]? =some (.cells cur e (0,0))) (b:cur[j]? =some u):w.cell? (aD g j)=some u:=by
 simp only [World.cell?,a];simpa using b
def ae (a:w.heap[g]? =some (.cells cur e (0,0))) (j:Nat):w.frozen? (aD g j)=false:=by
 simp [World.frozen?,a]
def Src (w:World) (a:Option Addr) (n:Nat) (l:List Int):Prop:=
 l.length=n/\(a=none->n=0)/\∀x,a=some x->∀i,i<n->w.cell? (x.add i)=some (.int .u8 (l.getD i 0))
def Src.at (h:Src w (some x) n l) (hi:i<n):w.cell? (x.add i)=some (.int .u8 (l.getD i 0)):=h.2.2 x rfl i hi
def ao.src (h:ao w e g c (bs l)):Src w (some (aD g 0)) l.length l:=
   ⟨rfl,(λh=>by cases h),λx a i hi=>by cases a;exact h.byte hi⟩
def Src.spot (h:Src w (some x) n l) (a:0<n):∃b o,x=(aD b o)/\∀i,i<n->w.cell? ⟨b,o+i,none⟩=some (.int .u8 (l.getD i 0)):=by
 obtain⟨b,o,d⟩:=x;have h0:=h.2.2 _ rfl 0 a;have c:d=none:=by simpa [Addr.add] using World.cell?_spot h0
 subst c;exact⟨b,o,rfl,λi hi=>by have:=h.2.2 _ rfl i hi;rwa [aV] at this⟩
def Src.later {a:Option Addr} (h:Src w a n l) (b:bW w w'):Src w' a n l:=
   ⟨h.1,h.2.1,λx c i hi=>cell_later b (h.2.2 x c i hi)⟩
def Bd (bB:w1.ownsRow base 5 1 (.slice (some (aD g 0)) n n) n (madeCells #[Value.int .u8 0] n).toList):
  ao w1 5 g n (bs (List.replicate n 0)):=by
 obtain⟨d,c,b,_,a,_⟩:=ao.eQ bB (by simp);cases b;have e:(madeCells #[Value.int .u8 0] n).toList=bs (List.replicate n 0):=by rw [toList_madeCells_one];simp [bs]
 rw [e] at a;exact a
def zf:(prog.info? 5).map (·.size)=some 1:=by kernel_rfl
def eG (h:(bs l)[j]? =some v):j<l.length/\v= .int .u8 (l.getD j 0):=by
 have a:j<l.length:=by
  have:=(RB.1 h).1;simpa [bs] using this
 simp [bs,KR a] at h;exact⟨a,by simp [List.getD,KR a,h]⟩
def bD (l:List Int):∀v∈bs l,v.oneCell'=true:=by
 intro v a;obtain⟨x,_,rfl⟩:=List.mem_map.1 a;rfl
def ao.full (h:ao w e g c xs) (d:xs.length=c):w.heap[g]? =some (.cells xs.toArray e (0,0)):=by
 obtain⟨cur,a,f,b,_⟩:=h;have:cur.toList=xs:=by
  rw [<-b,wl (by simp;omega)]
 rw [a,<-this]
def Li (w:World) (n:TypeId) (d:Option Addr) (g c fs ww:Nat) (a:Option Addr) (iL wF:Nat) (cur:List Value) (l:List Int) (f:w.heap[g]? =some (.cells cur.toArray 5 (0,0)))
    (m:Src w a iL l) (hd:0<fs->d=some (aD g c)) (oX:c+fs<=cur.length):
  ∃w2,(Builtin.copy_ #[44,44] n #[.slice d fs ww, .slice a iL wF]).run prog w= .ok (goInt (Nat.min iL fs)) w2/\
   w2.heap[g]? =some (.cells (splice cur c (bs (l.take fs))).toArray 5 (0,0))/\ad (λk=>k=g) w w2/\w2.heap.size=w.heap.size:=by
 have s:=m.1;have r:Nat.min iL fs=min iL fs:=rfl;by_cases h0:min iL fs=0
 .refine⟨w,?_,?_,ad.refl _ _,rfl⟩
  .rw [r,h0];exact run_copy_none (P:=prog) w _ _ n 5 d a fs ww iL wF underlying44 zf h0
  .have e:bs (l.take fs)= []:=by
    have:(bs (l.take fs)).length=0:=(by simp only [bs,ju,Iz];omega);exact Ef this
   rw [e,f];simp [splice]
 .have o:0<iL/\0<fs:=by omega
  obtain rfl:=hd o.2;cases a with
  |none=>have:=m.2.1 rfl;omega
  |some x=>
   have b:(bs (l.take fs)).length=Nat.min iL fs:=by
    simp only [bs,ju,Iz];omega
   have ct:=run_copy_row (P:=prog) w 44 44 n 5 g c fs ww x iL wF cur.toArray 5 (bs (l.take fs)) underlying44 zf f b
      (λj v p=>by
     obtain⟨GD,rfl⟩:=eG p;have i:j<fs/\j<l.length:=(by simp only [Iz] at GD;omega);rw [m.2.2 x rfl j (by omega)];simp [List.getD,i.1]) (by simp only [List.size_toArray,b];omega) (bD _)
   rw [b] at ct;refine⟨_,ct,?_,⟨rfl,rfl,rfl,by simp,λk _ q=>setRow_other w g k _ q⟩,by simp⟩;rw [setRow_heap w g _ _ 5 _ f];simp only [splice,b,GC]
def jd (x:Addr) (n:Nat):(x.add n).block=x.block:=by unfold Addr.add;split <;> rfl
def Src.old {W:World} {a:Option Addr} (h:Src W a n l):∀x,a=some x->0<n->x.block<W.heap.size:=λx c b=>by
 have:=World.block_lt_of_cell? _ _ (h.2.2 x c 0 b);rwa [jd] at this
def aL {a:Value} {l:List Value} (h:w.heap[g]? =some (.cells (List.toArray (a::l)) e (0,0))):w.cell? (aD g 0)=some a:=aa h rfl
def bY {b a:Value} {l:List Value} (h:w.heap[g]? =some (.cells (List.toArray (b::a::l)) e (0,0))):w.cell? (aD g 1)=some a:=aa h rfl
def cJ {b c a:Value} {l:List Value} (h:w.heap[g]? =some (.cells (List.toArray (b::c::a::l)) e (0,0))):w.cell? (aD g 2)=some a:=aa h rfl
def jw {b c d a:Value} {l:List Value} (h:w.heap[g]? =some (.cells (List.toArray (b::c::d::a::l)) e (0,0))):w.cell? (aD g 3)=some a:=aa h rfl
def jI {b c d f a:Value} {l:List Value} (h:w.heap[g]? =some (.cells (List.toArray (b::c::d::f::a::l)) e (0,0))):w.cell? (aD g 4)=some a:=aa h rfl
def PB {b c d f i a:Value} {l:List Value} (h:w.heap[g]? =some (.cells (List.toArray (b::c::d::f::i::a::l)) e (0,0))):w.cell? (aD g 5)=some a:=aa h rfl
def PD {b c d f i j a:Value} {l:List Value} (h:w.heap[g]? =some (.cells (List.toArray (b::c::d::f::i::j::a::l)) e (0,0))):w.cell? (aD g 6)=some a:=aa h rfl
def IA {b c d f i j k a:Value} {l:List Value} (h:w.heap[g]? =some (.cells (List.toArray (b::c::d::f::i::j::k::a::l)) e (0,0))):w.cell? (aD g 7)=some a:=aa h rfl
def SL {b c d f i j k m a:Value} {l:List Value} (h:w.heap[g]? =some (.cells (List.toArray (b::c::d::f::i::j::k::m::a::l)) e (0,0))):w.cell? (aD g 8)=some a:=aa h rfl
def agu {b c d f i j k m n a:Value} {l:List Value} (h:w.heap[g]? =some (.cells (List.toArray (b::c::d::f::i::j::k::m::n::a::l)) e (0,0))):w.cell? (aD g 9)=some a:=aa h rfl
def cF (a:α):∃x,x=a:=⟨_,rfl⟩
def zEr (a:α):∃x,a=x:=⟨_,rfl⟩
def ef {P:Program} {f:FuncId} {a:Array Value} {V:Ending} (h:Calls P f a w λe v=>e=V/\A v) (k:∀v,A v->K V v):Calls P f a w K:=h.mono (by rintro e v ⟨rfl,x⟩;exact k v x)
def j8 {P:Program} {f:FuncId} {a:Array Value} {V:Ending} {B:World->Prop} (h:Calls P f a w λe v=>e=V/\A v/\B v) (k:∀v,A v->B v->K V v):Calls P f a w K:=h.mono (by rintro e v ⟨rfl,x,y⟩;exact k v x y)
def zg {P:Program} {f:FuncId} {a:Array Value} {V:Ending} {B C:World->Prop} (h:Calls P f a w λe v=>e=V/\A v/\B v/\C v) (k:∀v,A v->B v->C v->K V v):Calls P f a w K:=h.mono (by rintro e v ⟨rfl,x,y,z⟩;exact k v x y z)
def tO (a:xa) (b:xb) (c:xc):xa/\xb/\xc:=⟨a,b,c⟩
def jJ (a:xa) (b:xb) (c:xc) (d:xd):xa/\xb/\xc/\xd:=⟨a,b,c,d⟩
def gB (a:xa) (b:xb) (c:xc) (d:xd) (e:xe):xa/\xb/\xc/\xd/\xe:=⟨a,b,c,d,e⟩
def rY (a:xa) (b:xb) (c:xc) (d:xd) (e:xe) (f:xf):xa/\xb/\xc/\xd/\xe/\xf:=⟨a,b,c,d,e,f⟩
def wG (a:xa) (b:xb) (c:xc) (d:xd) (e:xe) (f:xf) (g:xg):xa/\xb/\xc/\xd/\xe/\xf/\xg:=⟨a,b,c,d,e,f,g⟩
def PE (a:xa) (b:xb) (c:xc) (d:xd) (e:xe) (f:xf) (g:xg) (i:xh):xa/\xb/\xc/\xd/\xe/\xf/\xg/\xh:=⟨a,b,c,d,e,f,g,i⟩
def SM (a:xa) (b:xb) (c:xc) (d:xd) (e:xe) (f:xf) (g:xg) (i:xh) (j:xi):xa/\xb/\xc/\xd/\xe/\xf/\xg/\xh/\xi:=⟨a,b,c,d,e,f,g,i,j⟩
def GE (a:xa) (b:xb) (c:xc) (d:xd) (e:xe) (f:xf) (g:xg) (i:xh) (j:xi) (k:xj):xa/\xb/\xc/\xd/\xe/\xf/\xg/\xh/\xi/\xj:=⟨a,b,c,d,e,f,g,i,j,k⟩
def RC (a:xa) (b:xb) (c:xc) (d:xd) (e:xe) (f:xf) (g:xg) (i:xh) (j:xi) (k:xj) (l:xk):xa/\xb/\xc/\xd/\xe/\xf/\xg/\xh/\xi/\xj/\xk:=⟨a,b,c,d,e,f,g,i,j,k,l⟩
def Lj {a:Prop} (b:xa) (c:xb) (d:xc) (e:xd) (f:xe) (g:xf) (i:xg) (j:xh) (k:xi) (l:xj) (m:xk) (n:a):xa/\xb/\xc/\xd/\xe/\xf/\xg/\xh/\xi/\xj/\xk/\a:=⟨b,c,d,e,f,g,i,j,k,l,m,n⟩
def eA (a:xa) (b:xb):Yh xa/\Yh xb:=⟨a,b⟩
def pJ (a:xa) (b:xb) (c:xc):Yh xa/\Yh xb/\Yh xc:=⟨a,b,c⟩
def PF (a:xa) (b:xb) (c:xc) (d:xd):Yh xa/\Yh xb/\Yh xc/\Yh xd:=⟨a,b,c,d⟩
def PG (a:xa) (b:xb) (c:xc) (d:xd) (e:xe):Yh xa/\Yh xb/\Yh xc/\Yh xd/\Yh xe:=⟨a,b,c,d,e⟩
def aa4 (a:xa) (b:xb) (c:xc) (d:xd) (e:xe) (f:xf):Yh xa/\Yh xb/\Yh xc/\Yh xd/\Yh xe/\Yh xf:=⟨a,b,c,d,e,f⟩
def V6 (a:xa) (b:xb) (c:xc) (d:xd) (e:xe) (f:xf) (g:xg):Yh xa/\Yh xb/\Yh xc/\Yh xd/\Yh xe/\Yh xf/\Yh xg:=⟨a,b,c,d,e,f,g⟩
def aa5 (a:xa) (b:xb) (c:xc) (d:xd) (e:xe) (f:xf) (g:xg) (i:xh):Yh xa/\Yh xb/\Yh xc/\Yh xd/\Yh xe/\Yh xf/\Yh xg/\Yh xh:=⟨a,b,c,d,e,f,g,i⟩
abbrev CM:=List (Nat×List Int)
def CM.get:CM->Nat->Option (List Int)
 | [],_=>none
 |q :: qs,k=>if q.1=k then some q.2 else CM.get qs k
def CM.put:CM->Nat->List Int->CM
 | [],k,c=> [(k,c)]
 |q :: qs,k,c=>if k<q.1 then (k,c) :: q :: qs else if k=q.1 then (k,c) :: qs else q :: CM.put qs k c
def CM.Ok (ms:CM):Prop:=ms.Pairwise (λa b=>a.1<b.1)
def CM.keys (ms:CM):List Nat:=ms.map (·.1)
namespace CM
def lY (q:Nat×List Int) (a:CM) (k:Nat):get (q :: a) k=if q.1=k then some q.2 else get a k:=rfl
def je {ms:CM} (h:∀q∈ms,q.1≠k):get ms k=none:=by
 induction ms with
 |nil=>rfl
 |cons q c b=>
  unfold get;rw [aB (h q List.mem_cons_self)];exact b (λx a=>h x (List.mem_cons_of_mem _ a))
def get_mem {ms:CM} {c:List Int} (h:get ms k=some c):(k,c)∈ms:=by
 induction ms with
 |nil=>cases h
 |cons q b a=>
  unfold get at h;split at h
  .rename_i e;cases h;rw [<-e];exact List.mem_cons_self
  .exact List.mem_cons_of_mem _ (a h)
def get_of_mem {ms:CM} (b:Ok ms) {c:List Int} (h:(k,c)∈ms):get ms k=some c:=by
 induction ms with
 |nil=>cases h
 |cons q f d=>
  unfold get;rcases List.mem_cons.1 h with e|a
  .rw [<-e,aN rfl]
  .have:=(List.pairwise_cons.1 b).1 (k,c) a;rw [aB (by simp only at this;omega)];exact d (List.pairwise_cons.1 b).2 a
def jK (ms:CM) (k:Nat) (c:List Int) (j:Nat) (d:Ok ms):get (put ms k c) j=if j=k then some c else get ms j:=by
 induction ms with
 |nil=>
  unfold put;simp only [get];by_cases e:j=k
  .rw [aN e.symm,aN e]
  .rw [aB (λh=>e h.symm),aB e]
 |cons q g f=>
  unfold put;by_cases b:k<q.1
  .rw [aN b];by_cases e:j=k
   .rw [aN e];unfold get;rw [aN e.symm]
   .rw [aB e]
    conv=>lhs;unfold get
    rw [aB (λh=>e h.symm)]
  .rw [aB b];by_cases a:k=q.1
   .rw [aN a];by_cases e:j=k
    .rw [aN e];unfold get;rw [aN e.symm]
    .rw [aB e]
     conv=>lhs;unfold get
     conv=>rhs;unfold get
     rw [aB (λh=>e h.symm),aB (λh=>e (a▸h.symm))]
   .rw [aB a]
    conv=>lhs;unfold get
    by_cases e:q.1=j
    .rw [aN e,aB (λh=>a (h.symm.trans e.symm))]
     conv=>rhs;unfold get
     rw [aN e]
    .rw [aB e,f (List.pairwise_cons.1 d).2]
     conv=>rhs;rhs;unfold get
     rw [aB e]
def oG {ms:CM} {c:List Int} {q:Nat×List Int} (h:q∈put ms k c):q=(k,c)\/q∈ms:=by
 induction ms with
 |nil=>
  unfold put at h;exact .inl (List.mem_singleton.1 h)
 |cons x xs a=>
  unfold put at h;split at h
  .rcases List.mem_cons.1 h with h|h
   .exact .inl h
   .exact .inr h
  .split at h
   .rcases List.mem_cons.1 h with h|h
    .exact .inl h
    .exact .inr (List.mem_cons_of_mem _ h)
   .rcases List.mem_cons.1 h with h|h
    .exact .inr (h▸List.mem_cons_self)
    .exact(a h).imp id (List.mem_cons_of_mem _)
def zh {ms:CM} (d:Ok ms) (k:Nat) (c:List Int):Ok (put ms k c):=by
 induction ms with
 |nil=>exact List.pairwise_singleton _ _
 |cons x xs e=>
  have b:=List.pairwise_cons.1 d;unfold put;split
  .rename_i h;refine List.pairwise_cons.2 ⟨λy a=>?_,d⟩;rcases List.mem_cons.1 a with rfl|a
   .exact h
   .exact Nat.lt_trans h (b.1 y a)
  .split
   .rename_i h;exact List.pairwise_cons.2 ⟨λy a=>by show k<y.1;rw [h];exact b.1 y a,b.2⟩
   .rename_i f g;refine List.pairwise_cons.2 ⟨λy a=>?_,e b.2⟩;rcases oG a with rfl|a
    .show x.1<k;omega
    .exact b.1 y a
def Eh {ms:CM} (g:Ok ms) (k:Nat) (c:List Int):(put ms k c).length=if (get ms k).isSome then ms.length else ms.length+1:=by
 induction ms with
 |nil=>rfl
 |cons x xs i=>
  have f:=List.pairwise_cons.1 g;unfold put;by_cases d:k<x.1
  .rw [aN d,je (λq b=>by
    rcases List.mem_cons.1 b with rfl|b
    .omega
    .have:=f.1 q b;omega)]
   rfl
  .rw [aB d];by_cases a:k=x.1
   .rw [aN a];unfold get;rw [aN a.symm];rfl
   .rw [aB a];have e:get (x :: xs) k=get xs k:=(by rw [lY,aB (λh=>a h.symm)]);rw [e,List.length_cons,i f.2,List.length_cons];split <;> rfl
def ext:∀{ms ns:CM},Ok ms->Ok ns->(∀k,get ms k=get ns k)->ms=ns
 | [], [],_,_,_=>rfl
 | [],q :: qs,_,_,h=>by
  have:=h q.1;unfold get at this;rw [aN rfl] at this;cases this
 |q :: qs, [],_,_,h=>by
  have:=h q.1;unfold get at this;rw [aN rfl] at this;cases this
 |(a,c) :: qs,(b,d) :: rs,h1,h2,h=>by
  have l:=List.pairwise_cons.1 h1;have m:=List.pairwise_cons.1 h2;have f:=h a;have i:=h b;unfold get at f i;rw [aN rfl] at f;by_cases e:a=b
  .subst e;rw [aN rfl] at f;cases f;congr 1;refine ext l.2 m.2 (λk=>?_);by_cases g:k=a
   .subst g;rw [je (λq j=>by have:=l.1 q j;simp only at this;omega),je (λq j=>by have:=m.1 q j;simp only at this;omega)]
   .have:=h k;unfold get at this;rwa [aB (λh=>g h.symm),aB (λh=>g h.symm)] at this
  .exfalso;rw [aB (λh=>e h.symm)] at f;rw [aB e,aN rfl] at i;have n:=m.1 _ (get_mem f.symm);have o:=l.1 _ (get_mem i);simp only at n o;omega
def PH {ms:CM} (a:Ok ms):(keys ms).Pairwise (·< ·):=List.Pairwise.map _ (λ_ _ h=>h) a
def dM (ms ns:CM):CM:=ns.foldl (λm q=>put m q.1 q.2) ms
def t8 {ms:CM} (a:Ok ms):∀(ns:CM),Ok (dM ms ns):=λns=>by
 induction ns generalizing ms with
 |nil=>exact a
 |cons q c b=>exact b (zh a _ _)
def uu {ms:CM} (a:Ok ms) (k:Nat):∀{ns:CM},Ok ns->get (dM ms ns) k=(get ns k).or (get ms k):=λ{ns} b=>by
 induction ns generalizing ms with
 |nil=>rfl
 |cons q f d=>
  have p:=List.pairwise_cons.1 b;show get (dM (put ms q.1 q.2) f) k=_;rw [d (zh a _ _) p.2,jK _ _ _ _ a];rw [lY];by_cases e:k=q.1
  .rw [aN e,aN e.symm,je (λx c=>by have:=p.1 x c;omega)];rfl
  .rw [aB e,aB (λh=>e h.symm)]
end CM
def zi:(prog.info? 44).map (λi=>(i.zero,i.size,i.bytes))=some (some (.slice none 0 0),1,24):=by kernel_rfl
def zj:(prog.info? 3).map (λi=>(i.zero,i.size,i.bytes))=some (some (iV 0),1,8):=by kernel_rfl
abbrev fV (im dE:Value) (fuse life r wr fl rf:Int):Array Value:=
   #[im,dE,iV fuse,iV life,iV r,iV wr,iV fl,iV rf,iV 0]
def Lk (a:Option Addr) (n c:Nat) (w:World):
  Calls prog 43 #[.slice a n c] w λe w'=>e= .returned (.pointer (some ⟨w.heap.size+1,0,none⟩))/\
   w'=(w.alloc (.map #[] 0)).alloc (.cells (fV (.slice a n c) (.map (some w.heap.size)) (-1) 1 0 0 0 0) 128):=by
 have OZ:= @run_makeMap prog;go_in;go_wp2;go_ret;exact⟨rfl,rfl⟩
def IB (p:Nat) (a:Int) (w:World) (b:w.cell? (aD p 2)=some (iV a)):
  Calls prog 44 #[pQ p] w λe w'=>e= .returned (.bool (a == 0))/\w'=w:=by
 go_in;go_wp2;go_ret;exact⟨rfl,rfl⟩
def Ll (p:Nat) (a:Int) (w:World) (b:w.cell? (aD p 3)=some (iV a)):
  Calls prog 142 #[pQ p] w λe w'=>e= .returned (iV a)/\w'=w:=by
 go_in;go_wp2;go_ret;exact⟨rfl,rfl⟩
def sV (p:Nat) (a:Option Addr) (n c:Nat) (w:World) (d:n<=1048576) (b:w.cell? (aD p 0)=some (.slice a n c)):
  Calls prog 46 #[pQ p] w λe w'=>e= .returned (iV ((n / 512:Nat):Int))/\w'=w:=by
 go_in;go_wp2;go_ret;exact⟨by go_num,rfl⟩
def qF (p:Nat) (a:Option Addr) (n c:Nat) (b:Int) (w:World) (f:n<=1048576) (d:w.cell? (aD p 0)=some (.slice a n c)):
  Calls prog 97 #[pQ p,iV b] w λe w'=>e= .returned (.bool (decide (0<=b) && decide (b<((n / 512:Nat):Int))))/\w'=w:=by
 by_cases h0:0<=b
 .go_in;go_wp2_with (go_at_call 46;refine(sV _ _ _ _ _ f d).mono ?_;rintro e w' ⟨rfl,rfl⟩);go_ret;exact⟨by simp [h0],rfl⟩
 .go_in;go_wp2;go_ret;exact⟨by simp;omega,rfl⟩
def pK (p:Nat) (b a:Int) (w:World) (c:w.cell? (aD p 7)=some (iV b)) (d:w.frozen? (aD p 7)=false):
  Calls prog 98 #[pQ p,iV a] w λe w'=>e= .returned (iV a)/\w'=w.setCell ⟨p,7,none⟩ (.int .i64 (wrap64 (b+1))):=by
 go_in;go_wp2;go_ret;exact⟨rfl,rfl⟩
def xw (p:Nat) (a:Int) (w:World) (b:w.cell? (aD p 2)=some (iV a)) (c:w.frozen? (aD p 2)=false) (d: -1<=a):
  Calls prog 100 #[pQ p] w λe w'=>e= .returned (.tuple #[])/\w'=if 0<a then w.setCell ⟨p,2,none⟩ (.int .i64 (wrap64 (a-1))) else w:=by
 by_cases h:0<a
 .go_in;go_wp2
  go_end0
  exact⟨rfl,rfl⟩
 .go_in;go_wp2
  go_end0
  exact⟨rfl,rfl⟩
def Lm (p:Nat) (a:Int) (w:World) (b:w.cell? (aD p 3)=some (iV a)) (c:w.frozen? (aD p 3)=false):
  Calls prog 42 #[pQ p] w λe w'=>e= .returned (iV (wrap64 (a+1)))/\w'=w.setCell ⟨p,3,none⟩ (.int .i64 (wrap64 (a+1))):=by
 go_in;go_wp2;go_ret;exact⟨rfl,rfl⟩
def sW (p b n c s:Nat) (a:Int) (k:Nat) (w:World) (f:w.cell? (aD p 0)=some (.slice (some (aD b 0)) n c)) (d:a=(k:Int)) (iB:k<s) (i:n=s*512) (j:s<=2048) (g:n<=c):
  Calls prog 101 #[pQ p,iV a] w λe w'=>e= .returned (.slice (some ⟨b,k*512,none⟩) 512 512)/\w'=w:=by
 subst d;go_in;have e:(k+1)*512-k*512=512:=by omega
 go_wp2;go_ret;exact⟨congrArg (λz=>Ending.returned (Value.slice (some ⟨b,k*512,none⟩) z z)) e,rfl⟩
structure DS where
 im:List Int
 puts:List (Nat×List Int)
 fuse:Int
 life:Int
 reads:Int
 writes:Int
 flushes:Int
 refused:Int
def au (puts:List (Nat×List Int)) (k:Nat):List (List Int):=(puts.filter (λq=>q.1 == k)).map (·.2)
structure DS.Ok (S:DS) (s:Nat):Prop where
 len:S.im.length=s*512
 lo:1<=s
 hi:s<=2048
 puts:∀q∈S.puts,q.1<s/\q.2.length=512
 fuse: -1<=S.fuse/\S.fuse<=9223372036854775807
def ec (w:World) (F:Nat->Prop) (gi:Nat):List Value->List (List Int)->Prop
 | [], []=>True
 |v :: vs,l :: ls=>(∃g c,v= .slice (some (aD g 0)) 512 c/\F g/\g≠gi/\ao w 5 g c (bs l))/\ec w F gi vs ls
 |_,_=>False
def Rs (v:Value):Option (DataW Value×List MemPlace):=
 match v with
 | .slice _ _ _=>some (.held v, [])
 |_=>none
def ft:Keyed prog 3:=int_keyed underlying3
abbrev kk (k:Nat):Lit:= .int .i64 (k:Int)
structure fw (w:World) (F:Nat->Prop) (gi:Nat) (D:DataW Value) (gr cr:Nat->Nat) (dE:Nat->List (List Int)):Prop where
 keys:∀kl,has D kl=true->∃k:Nat,kl=kk k/\dE k≠ []
 Be:∀k,dE k= []->has D (kk k)=false
 look:∀k,dE k≠ []->∀z,D.atKey (kk k) z= .held (.slice (some ⟨gr k,0,none⟩) (dE k).length (cr k))
 row:∀k,dE k≠ []->F (gr k)/\∃xs,ao w 44 (gr k) (cr k) xs/\ec w F gi xs (dE k)
 inj:∀k k',dE k≠ []->dE k'≠ []->gr k=gr k'->k=k'
structure aO (w:World) (F:Nat->Prop) (p s:Nat) (S:DS) (gi ci m:Nat) (D:DataW Value) (gr cr:Nat->Nat):Prop where
 fp:F p
 Py:F gi
 fm:F m
 lt:∀k,F k->k<w.heap.size
 j9:w.heap[p]? =some (.cells (fV (.slice (some ⟨gi,0,none⟩) (s*512) ci) (.map (some m)) S.fuse S.life S.reads S.writes S.flushes S.refused) 128 (0,0))
 IC:ao w 5 gi ci (bs S.im)
 map:w.ownsMap prog 3 Rs m S.puts.length D
 dE:fw w F gi D gr cr (au S.puts)
 ok:S.Ok s
def aI (w:World) (F:Nat->Prop) (p s:Nat) (S:DS):Prop:=∃gi ci m D gr cr,aO w F p s S gi ci m D gr cr
def ec.agree {w w':World} {F:Nat->Prop} {a:Nat} (b:∀k,F k->w'.heap[k]? =w.heap[k]?):∀{xs:List Value} {d:List (List Int)},ec w F a xs d->ec w' F a xs d
 | [], [],_=>trivial
 |_ :: _,_ :: _,⟨⟨g,c,h1,h2,h3,h4⟩,h5⟩=>⟨⟨g,c,h1,h2,h3,h4.agree (b g h2)⟩,ec.agree b h5⟩
 | [],_ :: _,h=>h.elim
 |_ :: _, [],h=>h.elim
def ec.carry {w w':World} {F:Nat->Prop} {a:Nat} (b:∀g c xs,F g->g≠a->ao w 5 g c xs->ao w' 5 g c xs):∀{xs:List Value} {d:List (List Int)},ec w F a xs d->ec w' F a xs d
 | [], [],_=>trivial
 |_ :: _,_ :: _,⟨⟨g,c,h1,h2,h3,h4⟩,h5⟩=>⟨⟨g,c,h1,h2,h3,b g c _ h2 h3 h4⟩,ec.carry b h5⟩
 | [],_ :: _,h=>h.elim
 |_ :: _, [],h=>h.elim
def ec.mono {w:World} {F G:Nat->Prop} {a:Nat} (b:∀k,F k->G k):∀{xs:List Value} {d:List (List Int)},ec w F a xs d->ec w G a xs d
 | [], [],_=>trivial
 |_ :: _,_ :: _,⟨⟨g,c,h1,h2,h3,h4⟩,h5⟩=>⟨⟨g,c,h1,b g h2,h3,h4⟩,ec.mono b h5⟩
 | [],_ :: _,h=>h.elim
 |_ :: _, [],h=>h.elim
def ec.length {w:World} {F:Nat->Prop} {b:Nat}:∀{xs:List Value} {a:List (List Int)},ec w F b xs a->xs.length=a.length
 | [], [],_=>rfl
 |_ :: _,_ :: _,⟨_,h5⟩=>by simp [ec.length h5]
 | [],_ :: _,h=>h.elim
 |_ :: _, [],h=>h.elim
def ec.snoc {w:World} {F:Nat->Prop} {a:Nat} {v:Value} {l:List Int} (b:∃g c,v= .slice (some (aD g 0)) 512 c/\F g/\g≠a/\ao w 5 g c (bs l)):
  ∀{xs:List Value} {d:List (List Int)},ec w F a xs d->ec w F a (xs ++ [v]) (d ++ [l])
 | [], [],_=>⟨b,trivial⟩
 |_ :: _,_ :: _,⟨h,h5⟩=>⟨h,ec.snoc b h5⟩
 | [],_ :: _,h=>h.elim
 |_ :: _, [],h=>h.elim
def ec.get {w:World} {F:Nat->Prop} {b:Nat}:∀{xs:List Value} {a:List (List Int)},ec w F b xs a->∀j (hj:j<a.length),∃g c,xs[j]? =some (.slice (some (aD g 0)) 512 c)/\F g/\g≠b/\ao w 5 g c (bs a[j])
 | [], [],_,j,hj=>by simp at hj
 |v :: vs,l :: a,⟨⟨g,c,h1,h2,h3,h4⟩,h5⟩,j,hj=>by
  cases j with
  |zero=>exact⟨g,c,by simp [h1],h2,h3,h4⟩
  |succ j=>simpa using ec.get h5 j (by simpa using hj)
 | [],_ :: _,h,_,_=>h.elim
 |_ :: _, [],h,_,_=>h.elim
def aI.lt {S:DS} (h:aI w F p s S):∀k,F k->k<w.heap.size:=by
 obtain⟨c,a,m,D,d,b,_,_,_,h,_⟩:=h;exact h
def aI.ok {S:DS} (h:aI w F p s S):S.Ok s:=by
 obtain⟨c,a,m,D,d,b,_,_,_,_,_,_,_,_,h⟩:=h;exact h
def cX {m:Nat} {D:DataW Value} (h:w.ownsMap prog 3 Rs m n D) (e:w'.heap[m]? =w.heap[m]?):w'.ownsMap prog 3 Rs m n D:=by
 obtain⟨b,a,c,d⟩:=h;exact⟨b,a,e.trans c,d⟩
def fw.agree {D:DataW Value} (h:fw w F gi D gr cr dE) (b:∀k,F k->w'.heap[k]? =w.heap[k]?):
  fw w' F gi D gr cr dE:=
   ⟨h.keys,h.Be,h.look,λk e=>by
  obtain⟨a,xs,c,d⟩:=h.row k e;exact⟨a,xs,c.agree (b _ a),d.agree b⟩,h.inj⟩
def fw.carry {D:DataW Value} (h:fw w F gi D gr cr dE)
    (e:∀g c xs,F g->g≠gi->ao w 5 g c xs->ao w' 5 g c xs) (i:∀g c xs,F g->ao w 44 g c xs->ao w' 44 g c xs):fw w' F gi D gr cr dE:=
   ⟨h.keys,h.Be,h.look,λk f=>by
  obtain⟨a,xs,b,d⟩:=h.row k f;exact⟨a,xs,i _ _ _ a b,d.carry e⟩,h.inj⟩
def ao.other {f:Nat×Nat} (h:ao w e g c xs) (j:ad (λk=>k=q) w w') (l:w.heap[q]? =some (.cells cur e' f)) (i:e'≠e):ao w' e g c xs:=by
 refine h.agree (j.block g h.lt (λd=>?_));obtain⟨b,a,_⟩:=h;rw [d,l] at a;simp at a;exact i a.2.1
def ao.ne {f:Nat×Nat} (h:ao w e g c xs) (j:w.heap[q]? =some (.cells cur e' f)) (i:e'≠e):g≠q:=by
 intro d;obtain⟨b,a,_⟩:=h;rw [d,j] at a;simp at a;exact i a.2.1
def fa {m:Nat} {D:DataW Value} {d:Nat×Nat} (h:w.ownsMap prog 3 Rs m n D) (f:w.heap[q]? =some (.cells cur e d)):m≠q:=by
 obtain⟨g,a,b,_⟩:=h;intro c;rw [c,f] at b;simp at b
def fw.mono {D:DataW Value} (h:fw w F gi D gr cr dE) (a:∀k,F k->G k):
  fw w G gi D gr cr dE:=
   ⟨h.keys,h.Be,h.look,λk e=>by
  obtain⟨b,xs,c,d⟩:=h.row k e;exact⟨a _ b,xs,c,d.mono a⟩,h.inj⟩
def aI.agree {S:DS} (h:aI w F p s S) (u:w.heap.size<=w'.heap.size) (a:∀k,F k->w'.heap[k]? =w.heap[k]?):aI w' F p s S:=by
 obtain⟨b,f,m,D,i,g,c,d,e,j,l,n,o,q,r⟩:=h;exact⟨b,f,m,D,i,g,c,d,e,λk t=>wu (j k t) u,(a p c).trans l,n.agree (a b d),cX o (a m e),q.agree a,r⟩
def aI.ak {S:DS} (h:aI w F p s S) (k:ad G w w') (hd:∀k,F k->¬G k):aI w' F p s S:=
 h.agree k.size (λj a=>k.block j (h.lt j a) (hd j a))
def aI.mono {S:DS} (h:aI w F p s S) (a:∀k,F k->G k) (r:∀k,G k->k<w.heap.size):aI w G p s S:=by
 obtain⟨d,b,m,D,e,c,f,g,i,t,j,l,n,o,q⟩:=h;exact⟨d,b,m,D,e,c,a _ f,a _ g,a _ i,r,j,l,n,o.mono a,q⟩
def fg (w:World) (F:Nat->Prop) (p s:Nat) (S:DS) (m:Nat):Prop:=∃gi ci D gr cr,aO w F p s S gi ci m D gr cr
def fg.at {S:DS} {m:Nat} (h:fg w F p s S m):aI w F p s S:=by
 obtain⟨c,a,D,d,b,h⟩:=h;exact⟨c,a,m,D,d,b,h⟩
def aI.m {S:DS} (h:aI w F p s S):∃m,fg w F p s S m:=by
 obtain⟨c,a,m,D,d,b,h⟩:=h;exact⟨m,c,a,D,d,b,h⟩
def fg.agree {S:DS} {m:Nat} (h:fg w F p s S m) (u:w.heap.size<=w'.heap.size) (a:∀k,F k->w'.heap[k]? =w.heap[k]?):fg w' F p s S m:=by
 obtain⟨b,f,D,i,g,c,d,e,j,l,n,o,q,r⟩:=h;exact⟨b,f,D,i,g,c,d,e,λk t=>wu (j k t) u,(a p c).trans l,n.agree (a b d),cX o (a m e),q.agree a,r⟩
def fg.ak {S:DS} {m:Nat} (h:fg w F p s S m) (k:ad G w w') (hd:∀k,F k->¬G k):fg w' F p s S m:=
 h.agree k.size (λj a=>k.block j (h.at.lt j a) (hd j a))
def fg.mono {S:DS} {m:Nat} (h:fg w F p s S m) (a:∀k,F k->G k) (r:∀k,G k->k<w.heap.size):fg w G p s S m:=by
 obtain⟨d,b,D,e,c,f,g,i,t,j,l,n,o,q⟩:=h;exact⟨d,b,D,e,c,a _ f,a _ g,a _ i,r,j,l,n,o.mono a,q⟩
def aO.qG {S S':DS} {m:Nat} {D:DataW Value} (h:aO w F p s S gi ci m D gr cr) (a:ad (λk=>k=p) w w')
    (i:w'.heap[p]? =some (.cells (fV (.slice (some ⟨gi,0,none⟩) (s*512) ci) (.map (some m)) S'.fuse S'.life S'.reads S'.writes S'.flushes S'.refused) 128 (0,0))) (e:S'.im=S.im) (b:S'.puts=S.puts) (f: -1<=S'.fuse/\S'.fuse<=9223372036854775807):
  aO w' F p s S' gi ci m D gr cr:=by
 refine⟨h.fp,h.Py,h.fm,λk j=>wu (h.lt k j) a.size,i,?_,?_,?_,⟨?_,h.ok.lo,h.ok.hi,?_,f⟩⟩
 .rw [e];exact h.IC.other a h.j9 (by decide)
 .rw [b];exact cX h.map (a.block m (h.lt m h.fm) (fa h.map h.j9))
 .rw [b];exact h.dE.carry (λg c xs _ _ d=>d.other a h.j9 (by decide)) (λg c xs _ d=>d.other a h.j9 (by decide))
 .rw [e];exact h.ok.len
 .rw [b];exact h.ok.puts
def fw.empty (w:World) (F:Nat->Prop) (b:Nat) (c a:Nat->Nat):fw w F b (.map []) c a (au []):=
   ⟨λd h=>by simp [has] at h,λ_ _=>rfl,λk h=>absurd rfl h,λk h=>absurd rfl h,λk _ h=>absurd rfl h⟩
def xy (a:Addr) (n c:Nat) (l:List Int) (w:World) (z:l.length=n) (bn:n<=140737488355328) (o:∀i,i<n->w.cell? (a.add i)=some (.int .u8 (l.getD i 0))):
  Calls prog 99 #[.slice (some a) n c] w λe w'=>∃g c',e= .returned (.slice (some (aD g 0)) n c')/\w.heap.size<=g/\ao w' 5 g c' (bs l)/\bW w w':=by
 obtain⟨v,hi,iX,eR,eE⟩:=info_parts gU;have y:∀(w:World) (a:Option Addr) (n c d c':Nat),(binOp .eql 44 (.slice a n c) (.slice none d c')).run prog w= .ok (.bool a.isNone) w:=λw a n c d c'=>Lib.run_eql_slice_nil w _ _ a n c d c' underlying44;go_in;go_wp2_with (at_builtin;refine wpList_append_own _ rfl _ _ 44 rfl w.heap.size 5 v (.int .u8 0) 1 1 underlying44 hi iX eR eE rfl (by decide) _ _ _ rfl (World.ownsRow_made w #[] 0 (di _) (iq _) rfl) a n c (bs l) rfl ?qc1 ?qc2 ?qc3 ?qc4 ?qc5 ?qc6 ?_);case qc1=>simp;omega
 case qc2=>
  intro j u b;have V7:j<n:=by
   have:=(RB.1 b).1;simp at this;omega
  refine Lib.cell?_alloc_some _ ?_;rw [o j V7];have e:(bs l)[j]? =some (Value.int .u8 (l.getD j 0)):=by simp [bs,List.getD,KR (show j<l.length by omega)]
  rw [e] at b;exact b
 case qc3=>intro u s;obtain⟨x,_,rfl⟩:=List.mem_map.1 s;rfl
 case qc4=>unfold maxLen;omega
 case qc5=>omega
 case qc6=>simp
 intro f w1 bB bS lZ;have m:=((cW _ w).alloc (di _) _).grown bS (by simp) (by intro k q;simp [Value.ownBlock] at q;omega);have t:f≠ .slice none 0 0:=by first|exact lZ|(intro e;exact absurd (lZ.1 e).1 (by simp))
 have cK:w1.ownsRow w.heap.size 5 1 f n (bs l):=by simpa using bB
 obtain⟨g,c',rfl,p,r,_⟩:=ao.eQ cK t;go_wp2;go_ret;exact⟨g,c',rfl,p,r,m⟩
def DS.fresh (l:List Int):DS:={im:=l,puts:= [],fuse:= -1,life:=1,reads:=0,writes:=0,flushes:=0,refused:=0}
def OU {w0:World} (b:bW w0 w1) (o:w0.heap.size<=g) (d:ao w1 5 g c (bs l)) (n:l.length=s*512) (j:1<=s) (m:s<=2048):
  let w':=(w1.alloc (.map #[] 0)).alloc (.cells (fV (.slice (some ⟨g,0,none⟩) (s*512) c) (.map (some w1.heap.size)) (-1) 1 0 0 0 0) 128)
  aI w' (λk=>w0.heap.size<=k/\k<w'.heap.size) (w1.heap.size+1) s (DS.fresh l)/\bW w0 w':=by
 intro w';have ZI:=d.lt;have p:=b.size;have fy:w'.heap.size=w1.heap.size+2:=by simp [w']
 have e:∀k,k<w1.heap.size->w'.heap[k]? =w1.heap[k]? :=λk a=>by
  rw [Below.heap_alloc _ _ _ (by simp;omega),Below.heap_alloc _ _ _ a]
 have f:w'.heap[w1.heap.size]? =some (.map #[] 0):=by
  rw [Below.heap_alloc _ _ _ (by simp)];exact heap_alloc_new _ _
 have i:w'.heap[w1.heap.size+1]? =some (.cells (fV (.slice (some ⟨g,0,none⟩) (s*512) c) (.map (some w1.heap.size)) (-1) 1 0 0 0 0) 128 (0,0)):=by
  have:=heap_alloc_new (w1.alloc (.map #[] 0)) (.cells (fV (.slice (some ⟨g,0,none⟩) (s*512) c) (.map (some w1.heap.size)) (-1) 1 0 0 0 0) 128);have gV:(w1.alloc (.map #[] 0)).heap.size=w1.heap.size+1:=by simp
  rw [gV] at this;exact this
 refine⟨⟨g,c,w1.heap.size, .map [],λ_=>0,λ_=>0,⟨by omega,by omega⟩,⟨by omega,by omega⟩,⟨by omega,by omega⟩,λk a=>a.2,i,d.agree (e g ZI),?_,fw.empty _ _ _ _ _,⟨n,j,m,by simp [DS.fresh],by simp [DS.fresh]⟩⟩,?_⟩
 .have:=World.ownsMap_made w1 prog 3 Rs;exact cX this (by rw [f];exact(heap_alloc_new _ _).symm)
 .exact(b.alloc (by omega) _).alloc (by simp;omega) _
def SN (s:Nat) (w:World) (a:1<=s) (c:s<=2048):
  Calls prog 17 #[iV s] w λe w'=>∃p,e= .returned (.tuple #[pQ p,iV 0])/\
   aI w' (λk=>w.heap.size<=k/\k<w'.heap.size) p s (DS.fresh (List.replicate (s*512) 0))/\bW w w':=by
 obtain⟨i,hi,iX,eR,eE⟩:=info_parts gU;have b:¬(s:Int)<1:=by omega
 have d:¬(2048:Int)<(s:Int):=by omega
 go_in;go_wp2_with (at_make;refine wpList_make_full _ rfl _ _ 44 rfl w.heap.size 5 i (.int .u8 0) 1 underlying44 hi iX eR _ _ _ _ (s*512) rfl rfl ?c1 ?c2 ?c3 ?c4 ?c5 ?_);case c3=>omega
 case c4=>unfold maxLen;omega
 intro w1 bB bS;have f:=(cW _ w).grown bS (di _) (by intro k g;cases g);go_wp2_with (go_at_call 43;refine(Lk _ _ _ _).mono ?_;rintro e w' ⟨rfl,rfl⟩);go_ret2;exact⟨_,rfl,OU f (di _) (Bd bB) (by simp) a c⟩
def nK (left:Lit->Bool) (puts:List (Nat×List Int)):Nat:=(puts.filter (λq=> !left (kk q.1))).length
def lf (a b:Nat):(kk a).sameKey (kk b)=(a == b):=by
 by_cases h:a=b
 .subst h;simp [WideAt.sameKey_self (show WideAt.IsKeyLit (kk a) from trivial)]
 .rw [Maps.sameKey_ne (by intro e;simp [kk] at e;omega)];simp [h]
def uv (left:Lit->Bool) (k:Nat) (a:left (kk k)=true):∀puts:List (Nat×List Int),nK (λz=>left z && !z.sameKey (kk k)) puts=nK left puts+(au puts k).length
 | []=>by simp [nK,au]
 |q :: r=>by
  have c:=uv left k a r;unfold nK au at*;by_cases h:q.1=k
  .simp [h,a,lf] at*;omega
  .by_cases b:left (kk q.1)=true
   .simp [h,b,lf] at*;omega
   .simp [h,b,lf] at*;omega
def Bf {D:DataW Value} {a:List (Nat×List Int)} (h:∀q∈a,has D (kk q.1)=true):nK (has D) a=0:=by
 unfold nK;rw [List.length_eq_zero_iff,List.filter_eq_nil_iff];intro q b;simp [h q b]
def ID {left:Lit->Bool} {a:List (Nat×List Int)} (h:∀kl,left kl=false):nK left a=a.length:=by
 unfold nK;rw [List.filter_eq_self.2 (λq _=>by simp [h])]
def Ln (left:Lit->Bool) (a:List (Nat×List Int)):nK left a<=a.length:=List.length_filter_le _ _
def Lo {a:List (Nat×List Int)} {q:Nat×List Int} (h:q∈a):au a q.1≠ []:=by
 unfold au;intro e;rw [List.map_eq_nil_iff,List.filter_eq_nil_iff] at e;exact e q h (by simp)
def fw.has {D:DataW Value} (h:fw w F gi D gr cr dE) (a:dE k≠ []):Maps.has D (kk k)=true:=
 Maps.has_true_of_atKey (h.look k a)
abbrev KS (c:Option Addr×Nat×Nat):Value:= .slice c.1 c.2.1 c.2.2
def rZ (v:Value) (y:DataW Value×List MemPlace) (h:Rs v=some y):∃c,v=KS c:=by
 unfold Rs at h;split at h
 .exact⟨(_,_,_),rfl⟩
 .cases h
def Bg (c:Option Addr×Nat×Nat):Rs (KS c)=some (.held (KS c), []):=rfl
def fw.met {D:DataW Value} (h:fw w F gi D gr cr dE) {x:Int} {c:Option Addr×Nat×Nat} {b:Lit} {y:DataW Value×List MemPlace}
    (gu:keyOf prog 3 (iV x)=some b) (f:Rs (KS c)=some y) (k7:∀zd,D.atKey b zd=y.1):
  ∃k:Nat,x=(k:Int)/\b=kk k/\dE k≠ []/\c=(some ⟨gr k,0,none⟩,(dE k).length,cr k):=by
 obtain⟨k,rfl,e⟩:=h.keys b (Maps.has_true_of_atKey k7);obtain⟨m,i,g,_⟩:=Maps.keyOf_int_inv underlying3 gu;have j:x=(k:Int):=by cases i;simpa [kk] using g.symm
 rw [Bg] at f;cases f;have d:=k7 .nil;rw [h.look k e] at d;obtain⟨a,n,l⟩:=c;simp [KS] at d;exact⟨k,j,rfl,e,by simp [d]⟩
def IE {b:Nat} {t:TypeId} {g a1 a2 i j:Value} (a c d e f:Value) (h:w.heap[b]? =some (.cells #[g,a1,a2,i,j] t (0,0))):
    (((((w.setCell ⟨b,0,none⟩ a).setCell ⟨b,1,none⟩ c).setCell ⟨b,2,none⟩ d).setCell ⟨b,3,none⟩ e).setCell ⟨b,4,none⟩ f).heap[b]? =some (.cells #[a,c,d,e,f] t (0,0)):=by
 simpa using (heap_setCell_same _ b 4 _ t f (heap_setCell_same _ b 3 _ t e (heap_setCell_same _ b 2 _ t d (heap_setCell_same _ b 1 _ t c (heap_setCell_same w b 0 _ t a h)))))
abbrev du (r wr fl rf pe:Int):Array Value:= #[iV r,iV wr,iV fl,iV rf,iV pe]
def uw (p s:Nat) (F:Nat->Prop) (S:DS) (w:World) (h:aI w F p s S) (bn:S.puts.length<=140737488355328):
  Calls prog 57 #[pQ p] w λe w'=>e= .returned (.agg (du S.reads S.writes S.flushes S.refused S.puts.length))/\bW w w':=by
 obtain⟨X,P,m,D,Y,Q,t,Z,u,f,a,h6,y,g,h9⟩:=h;obtain⟨J,K,L,M,N,O,tP,Lp⟩:=PE (bY a) (jI a) (PB a) (PD a) (IA a) (SL a) (f p t) (f m u);go_in;go_wp2_with (at_range;refine wpList_range_own _ rfl _ 126 rfl 3 70 ft underlying126 Rs m S.puts.length D rfl ((y.alloc _).alloc _) ?_;intro w0 qH ux zl;go_frame);have b:((w.alloc (Obj.cells (du 0 0 0 0 0) 101)).alloc (Obj.cells (du S.reads S.writes S.flushes S.refused 0) 101)).heap.size=w.heap.size+2:=by simp
 rw [b] at qH zl⊢;have fD:=(ux.block w.heap.size (by rw [b];omega) (by simp)).trans ((Below.heap_alloc _ _ _ (by simp)).trans (heap_alloc_new w (Obj.cells (du 0 0 0 0 0) 101)));have aH:w0.heap[w.heap.size+1]? =some (Obj.cells (du S.reads S.writes S.flushes S.refused 0) 101 (0,0)):=by
  refine(ux.block (w.heap.size+1) (by rw [b];omega) (by simp)).trans ?_;have:=heap_alloc_new (w.alloc (Obj.cells (du 0 0 0 0 0) 101)) (Obj.cells (du S.reads S.writes S.flushes S.refused 0) 101);have o:(w.alloc (Obj.cells (du 0 0 0 0 0) 101)).heap.size=w.heap.size+1:=by simp
  rw [o] at this;exact this
 have fU:=(((cW _ w).alloc (di _) _).alloc (by simp) _).grown ux (by rw [b];omega) (λj d=>by cases d);go_loopw [5] (λ_ wr=>∃(left:Lit->Bool) (bf:Nat),wr.ranges prog 3 Rs m (w.heap.size+2) S.puts.length D left bf/\
   wr.heap[w.heap.size]? =some (Obj.cells (du 0 0 0 0 0) 101 (0,0))/\
   wr.heap[w.heap.size+1]? =some (Obj.cells (du S.reads S.writes S.flushes S.refused (nK left S.puts:Nat)) 101 (0,0))/\bW w wr)
    (λ_ wr=>wr.rangeLeft m (w.heap.size+2))
 case atStart=>exact⟨_,_,qH,fD,by rw [(Bf (λq C=>g.has (Lo C)))];exact aH,fU⟩
 case round=>
  obtain⟨left,bf,jH,fD,aH,c⟩:=hrel;go_wp2_with (at_next;refine wpList_next_ranges _ rfl _ rfl 3 ft Rs (Value.int .i64) KS (λH I gu=>by obtain⟨x,rfl,_⟩:=Maps.keyOf_int_inv underlying3 gu;exact⟨x,rfl⟩) rZ m (w.heap.size+2) S.puts.length _ _ _ rfl jH ?_ ?_)
  .intro _ oY;rw [ID oY] at aH;obtain⟨k0,k1,k2,k3,G,r0,r1,r2,r3,r4,R,T⟩:=Lj (aL aH) (bY aH) (cJ aH) (jw aH) (jI aH) (aL fD) (bY fD) (cJ fD) (jw fD) (jI fD) (ae fD 0) (ae fD 1);have U:=ae fD 2;have W:=ae fD 3;have r:=ae fD 4;go_wp2;have a:=IE (iV S.reads) (iV S.writes) (iV S.flushes) (iV S.refused) (iV S.puts.length) fD;refine bodyPost_ret (v:= .agg (du S.reads S.writes S.flushes S.refused S.puts.length)) (by simp [results,results57,go_sem,du,aL a,bY a,cJ a,jw a,(jI a)]) rfl ⟨rfl,?_⟩;exact((((c.setCell (di _) _).setCell (di _) _).setCell (di _) _).setCell (di _) _).setCell (di _) _
  .intro x i n l I yd yp w2 pL gu sX E k7 nA aS dU dQ KT;obtain⟨k,rfl,rfl,hp,A⟩:=g.met gu E k7;obtain⟨rfl,rfl,rfl⟩:i=_/\n=_/\l=_:=(by simpa using A);have bu:=(uv left k sX S.puts);have V8:nK left S.puts+(au S.puts k).length<=S.puts.length:=(by have:=Ln (λz=>left z && !z.sameKey (kk k)) S.puts;rw [bu] at this;exact this);have V9:=(dU.block w.heap.size (by have:=(oF.1 fD).1;omega) (by simp)).trans fD;have SO:=(dU.block (w.heap.size+1) (by have:=(oF.1 aH).1;omega) (by simp)).trans aH;have nh:=c.grown dU c.size (λj d=>by cases d;omega);have G:=jI SO;have r:=ae SO 4;go_wp2;go_roundw;case rel=>
    refine⟨_,pL,nA.kept (lI _ _ _) (λe=>by have:=Option.some.inj e;simp only at this;omega) (λe=>by have:=Option.some.inj e;simp only at this;omega),?_,?_,nh.setCell (Nat.le_succ _) _⟩
    .rw [Below.heap_setCell _ _ _ _ (by simp)];exact V9
    .rw [bu,heap_setCell_same _ _ _ _ _ _ SO];simp [du]
   case measure=>
    rw [(nA.kept (lI _ _ _) (λe=>by have:=Option.some.inj e;simp only at this;omega) (λe=>by have:=Option.some.inj e;simp only at this;omega)).left_eq,jH.left_eq];exact aS
def aI.cells {S:DS} (h:aI w F p s S):w.cell? (aD p 2)=some (iV S.fuse)/\w.cell? (aD p 3)=some (iV S.life)/\(∀j,w.frozen? (aD p j)=false)/\
  ∃gi ci,w.cell? (aD p 0)=some (.slice (some (aD gi 0)) (s*512) ci):=by
 obtain⟨gi,ci,m,D,c,b,d,e,f,g,a,i,k,l,n⟩:=h;exact⟨cJ a,jw a,ae a,gi,ci,aL a⟩
def uy {S:DS} (h:aI w F p s S):
  Calls prog 46 #[pQ p] w λe w'=>e= .returned (iV s)/\w'=w:=by
 obtain⟨_,_,_,d,c,b⟩:=h.cells;have:=h.ok.hi;have e:s*512 / 512=s:=by omega
 have a:=sV p _ (s*512) c w (by omega) b;rw [e] at a;exact a
def fM {S:DS} (h:aI w F p s S):
  Calls prog 44 #[pQ p] w λe w'=>e= .returned (.bool (S.fuse == 0))/\w'=w:=IB p _ w h.cells.1
def PI {S:DS} (h:aI w F p s S):
  Calls prog 142 #[pQ p] w λe w'=>e= .returned (iV S.life)/\w'=w:=Ll p _ w h.cells.2.1
def gW (im:List Int) (k:Nat):List Int:=(im.drop (k*512)).take 512
def DS.pM (S:DS) (k j:Nat):List Int:=if j=0 then gW S.im k else (au S.puts k).getD (j-1) []
def uz (w:World):(zeroValue 70).run prog w= .ok (.slice none 0 0) w:=by kernel_rfl
def kh (k:Nat) (a:k<2048):keyOf prog 3 (iV (k:Int))=some (kk k):=
 keyOf_int_mk underlying3 (WalkArith.wf_i64 (by omega))
def aO.look {S:DS} {m:Nat} {D:DataW Value} (h:aO w F p s S gi ci m D gr cr) (e:k<s):
  ∃a c,(Instr.lookup 126 (.map (some m)) (iV (k:Int)) false).run prog w= .ok (.slice a (au S.puts k).length c) w/\
     (au S.puts k≠ []->a=some ⟨gr k,0,none⟩/\c=cr k)/\(au S.puts k= []->a=none/\c=0):=by
 have f:=h.ok.hi;obtain⟨v,g,ct,b⟩:=h.map.lookup ft underlying126 (uz w) (zd:= .held (.slice none 0 0)) (zp:= []) rfl (kh k (by omega));by_cases d:au S.puts k= []
 .rw [Maps.atKey_of_not_has (h.dE.Be k d)] at b;obtain⟨⟨a,n,c⟩,rfl⟩:=rZ v _ b;rw [Bg] at b;simp [KS] at b;obtain⟨⟨rfl,rfl,rfl⟩,_⟩:=b;exact⟨none,0,by rw [d];exact ct,λh=>absurd d h,λ_=>⟨rfl,rfl⟩⟩
 .rw [h.dE.look k d] at b;obtain⟨⟨a,n,c⟩,rfl⟩:=rZ v _ b;rw [Bg] at b;simp [KS] at b;obtain⟨⟨rfl,rfl,rfl⟩,_⟩:=b;exact⟨_,_,ct,λ_=>⟨rfl,rfl⟩,λh=>absurd h d⟩
def PJ (h:ao w 5 gi ci (bs im)) (c:im.length=s*512) (b:k<s):Src w (some ⟨gi,k*512,none⟩) 512 (gW im k):=by
 refine⟨by simp [gW];omega,(λh=>by cases h),λx a i hi=>?_⟩;cases a;rw [aV];have:=h.byte (i:=k*512+i) (by omega);rw [aV,Nat.zero_add] at this;rw [this];simp [gW,List.getD,hi]
def uA {S:DS} (h:S.Ok s) (b:j<(au S.puts k).length):((au S.puts k)[j]).length=512:=by
 have a:=List.getElem_mem b;unfold au at a;obtain⟨q,c,e⟩:=List.mem_map.1 a;have:=(h.puts q (List.mem_filter.1 c).1).2;unfold au;rw [<-e];exact this
def IF {S:DS} {m:Nat} {D:DataW Value} (h:aO w F p s S gi ci m D gr cr) (k:Nat) (a:k<s):
  Calls prog 133 #[pQ p,iV (k:Int),iV 0] w λe w'=>e= .returned (.slice (some ⟨gi,k*512,none⟩) 512 512)/\w'=w:=by
 have b:=h.IC.le;have hd:=sW p gi (s*512) ci s k k w (aL h.j9) rfl a rfl h.ok.hi (by simp [bs,h.ok.len] at b;omega);go_in;go_wp2_with (go_at_call 101;refine hd.mono ?_;rintro e w' ⟨rfl,rfl⟩);go_ret;exact⟨rfl,rfl⟩
def IG {S:DS} {m:Nat} {D:DataW Value} (h:aO w F p s S gi ci m D gr cr) (k:Nat) (q:k<s) (i:Nat) (d:Int) (o:d=(i:Int)+1) (hi:i<(au S.puts k).length) (bn:S.puts.length<=140737488355328):
  Calls prog 133 #[pQ p,iV (k:Int),iV d] w λe w'=>∃g c,e= .returned (.slice (some (aD g 0)) 512 c)/\F g/\g≠gi/\ao w 5 g c (bs (au S.puts k)[i])/\w'=w:=by
 subst o;have u:=bY h.j9;have b:au S.puts k≠ []:=by intro e;rw [e] at hi;simp at hi
 obtain⟨a,c,ct,j,_⟩:=h.look q;obtain⟨rfl,rfl⟩:=j b;obtain⟨_,xs,aU,ni⟩:=h.dE.row k b;obtain⟨g,f,t,l,eM,r⟩:=ni.get i hi;have v:=aU.cell t;have y:(au S.puts k).length<=S.puts.length:=by unfold au;rw [ju];exact List.length_filter_le _ _
 have x:((i:Int)+1 == 0)=false:=by rw [Bool.eq_false_iff,ne_eq,beq_iff_eq];omega
 have n:(i:Int)<((au S.puts k).length:Int):=by omega
 go_in;go_wp2;go_ret;exact⟨g,f,rfl,l,eM,r,rfl⟩
def DS.now (S:DS) (k:Nat):List Int:=S.pM k (au S.puts k).length
def DS.Bh {S:DS} (h:S.Ok s) (b:k<s) (a:j<=(au S.puts k).length):(S.pM k j).length=512:=by
 unfold DS.pM;split
 .simp [gW];have:=h.len;omega
 .have GD:j-1<(au S.puts k).length:=by omega
  rw [List.getD,KR GD,Option.getD_some];exact uA h GD
def Lq {S:DS} {m:Nat} {D:DataW Value} (h:aO w F p s S gi ci m D gr cr) (k:Nat) (a:k<s) (j:Nat) (q:j<=(au S.puts k).length) (bn:S.puts.length<=140737488355328):
  Calls prog 133 #[pQ p,iV (k:Int),iV (j:Int)] w λe w'=>∃g o c,e= .returned (.slice (some (aD g o)) 512 c)/\F g/\512<=c/\(g=gi->o=k*512/\S.pM k j=gW S.im k)/\Src w (some (aD g o)) 512 (S.pM k j)/\w'=w:=by
 cases j with
 |zero=>exact(IF h k a).mono (by rintro e w' ⟨rfl,rfl⟩;exact⟨gi,k*512,512,rfl,h.Py,di _,λ_=>⟨rfl,rfl⟩,PJ h.IC h.ok.len a,rfl⟩)
 |succ i=>
  refine(IG h k a i ((i+1:Nat):Int) (by omega) (by omega) bn).mono ?_;rintro e w' ⟨g,c,rfl,l,eM,d,rfl⟩;have f:S.pM k (i+1)=(au S.puts k)[i]:=by simp [DS.pM,List.getD,KR (show i<(au S.puts k).length by omega)]
  have n:=uA h.ok (k:=k) (j:=i) (by omega);have b:=d.le;refine⟨g,0,c,rfl,l,by simp [bs] at b;omega,λe=>absurd e eM,?_,rfl⟩;rw [f];have:=d.src;rw [n] at this;exact this
def DS.read (S:DS):DS:={S with reads:=wrap64 (S.reads+1)}
def DS.refuse (S:DS):DS:={S with refused:=wrap64 (S.refused+1)}
def aO.set {S:DS} {m:Nat} {D:DataW Value} (h:aO w F p s S gi ci m D gr cr) (i:Nat) (v:Value):
    (w.setCell ⟨p,i,none⟩ v).heap[p]? =some (.cells ((fV (.slice (some ⟨gi,0,none⟩) (s*512) ci) (.map (some m)) S.fuse S.life S.reads S.writes S.flushes S.refused).setIfInBounds i v) 128 (0,0))/\ad (λk=>k=p) w (w.setCell ⟨p,i,none⟩ v):=
   ⟨heap_setCell_same _ _ _ _ _ _ h.j9,ad.setCell (F:=λk=>k=p) w (p:=(aD p i)) rfl v⟩
def aO.refused {S:DS} {m:Nat} {D:DataW Value} (h:aO w F p s S gi ci m D gr cr):
  aO (w.setCell ⟨p,7,none⟩ (.int .i64 (wrap64 (S.refused+1)))) F p s S.refuse gi ci m D gr cr:=
 h.qG (h.set 7 _).2 ((h.set 7 _).1.trans (by simp [fV,DS.refuse])) rfl rfl h.ok.fuse
def aO.reads {S:DS} {m:Nat} {D:DataW Value} (h:aO w F p s S gi ci m D gr cr):
  aO (w.setCell ⟨p,4,none⟩ (.int .i64 (wrap64 (S.reads+1)))) F p s S.read gi ci m D gr cr:=
 h.qG (h.set 4 _).2 ((h.set 4 _).1.trans (by simp [fV,DS.read])) rfl rfl h.ok.fuse
def xz {S:DS} (h:aI w F p s S) (a:Int) (c:S.fuse=0):
  Calls prog 102 #[pQ p,iV a] w λe w'=>e= .returned (.tuple #[.slice none 0 0,iV 3])/\w'=w:=by
 have b:=fM h;rw [c] at b;go_in;go_wp2_with (go_at_call 44;refine b.mono ?_;rintro e w' ⟨rfl,rfl⟩);go_ret2;exact⟨rfl,rfl⟩
def Ei {S:DS} (h:aI w F p s S) (a:Int) (k:S.fuse≠0) (o:a<0\/(s:Int)<=a):
  Calls prog 102 #[pQ p,iV a] w λe w'=>e= .returned (.tuple #[.slice none 0 0,iV 11])/\aI w' F p s S.refuse/\ad F w w':=by
 have d:=fM h;rw [show (S.fuse == 0)=false by simp [k]] at d;obtain⟨i,c,m,D,j,g,h⟩:=h;have q:=h.ok.hi;have f:=qF p _ (s*512) c a w (by omega) (aL h.j9);rw [show s*512 / 512=s by omega,show (decide (0<=a) && decide (a<(s:Int)))=false by simp;omega] at f;have n:=pK p S.refused 11 w (IA h.j9) (ae h.j9 7);have l:ad F w (w.setCell ⟨p,7,none⟩ (.int .i64 (wrap64 (S.refused+1)))):=ad.setCell w h.fp _;go_in;go_wp2_with (first|(go_at_call 44;refine d.mono ?_;rintro e w' ⟨rfl,b⟩;subst b)|(go_at_call 97;refine f.mono ?_;rintro e w' ⟨rfl,b⟩;subst b)|(go_at_call 98;refine n.mono ?_;rintro e w' ⟨rfl,rfl⟩));go_ret2;exact⟨rfl,⟨i,c,m,D,j,g,h.refused⟩,l⟩
def Bi {S:DS} {m:Nat} (h:fg w F p s S m) (k:Nat) (z:S.fuse≠0) (d:k<s) (bn:S.puts.length<=140737488355328):
  Calls prog 102 #[pQ p,iV (k:Int)] w λe w'=>∃g c,e= .returned (.tuple #[.slice (some (aD g 0)) 512 c,iV 0])/\w.heap.size<=g/\ao w' 5 g c (bs (S.now k))/\
   fg w' F p s S.read m/\ad F w w':=by
 have l:=fM h.at;rw [show (S.fuse == 0)=false by simp [z]] at l;obtain⟨v,j,D,x,t,h⟩:=h;have H:=h.ok.hi;have n:=qF p _ (s*512) j k w (by omega) (aL h.j9);rw [show s*512 / 512=s by omega,show (decide (0<=(k:Int)) && decide ((k:Int)<(s:Int)))=true by simp;omega] at n;have C:=jI h.j9;have E:=ae h.j9 4;have hd:=h.reads;have dR:ad F w (w.setCell ⟨p,4,none⟩ (.int .i64 (wrap64 (S.reads+1)))):=ad.setCell w h.fp _;have fy:(w.setCell ⟨p,4,none⟩ (.int .i64 (wrap64 (S.reads+1)))).heap.size=w.heap.size:=by simp [World.setCell]
 have A:=bY hd.j9;obtain⟨a,c,ct,eM,lZ⟩:=hd.look d;have DW:(S.read.pM k (au S.puts k).length).length=512:=DS.Bh hd.ok d (di _);go_in;go_wp2_with (first|(go_at_call 44;refine l.mono ?_;rintro e w' ⟨rfl,f⟩;subst f)|(go_at_call 97;refine n.mono ?_;rintro e w' ⟨rfl,f⟩;subst f));refine(Lq hd k d (au S.puts k).length (di _) bn).mono ?_;rintro e w1 ⟨g,o,r,rfl,G,y,_,fN,rfl⟩;go_wp2_with fail;refine(xy (aD g o) 512 r _ _ DW (by omega) (λi hi=>fN.2.2 _ rfl i hi)).mono ?_;rintro e I ⟨u,q,rfl,dU,eB,aG⟩;have b:=fg.ak ⟨v,j,D,x,t,hd⟩ (ad.ag (λ_=>False) aG) (λ_ _ h=>h);rw [fy] at dU;go_wp2;go_ret2;exact⟨u,q,rfl,dU,eB,b,dR.trans (ad.ag (λ_=>False) aG) (λ_ h=>h.elim)⟩
def GF {S:DS} (h:aI w F p s S) (k:Nat) (j:S.fuse≠0) (l:k<s) (bn:S.puts.length<=140737488355328):
  Calls prog 102 #[pQ p,iV (k:Int)] w λe w'=>∃g c,e= .returned (.tuple #[.slice (some (aD g 0)) 512 c,iV 0])/\w.heap.size<=g/\ao w' 5 g c (bs (S.now k))/\
   aI w' F p s S.read/\ad F w w':=by
 obtain⟨m,h⟩:=h.m;refine(Bi h k j l bn).mono ?_;rintro e w' ⟨g,c,a,b,d,f,i⟩;exact⟨g,c,a,b,d,f.at,i⟩
def DS.iG (S:DS):DS:={S with fuse:=if 0<S.fuse then S.fuse-1 else S.fuse}
def DS.put (S:DS) (k:Nat) (l:List Int):DS:={S with puts:=S.puts ++ [(k,l)]}
def fO (a:List (Nat×List Int)) (k:Nat) (l:List Int) (j:Nat):au (a ++ [(k,l)]) j=if j=k then au a k ++ [l] else au a j:=by
 unfold au;by_cases h:j=k
 .subst h;simp
 .have:(k == j)=false:=by simp;omega
  simp [h,List.filter_append,this]
def uB (a:List (Nat×List Int)) (k:Nat):(au a k).length<=a.length:=by unfold au;rw [ju];exact List.length_filter_le _ _
def aO.SP {S:DS} {m:Nat} {D:DataW Value} (h:aO w F p s S gi ci m D gr cr) (j:k<s):
  ∃a cc xs,(∀b:World,b.heap[m]? =w.heap[m]?->(Instr.lookup 126 (.map (some m)) (iV (k:Int)) false).run prog b= .ok (.slice a (au S.puts k).length cc) b)/\
     (∀b:World,(au S.puts k≠ []->b.heap[gr k]? =w.heap[gr k]?)->b.ownsRow 0 44 1 (.slice a (au S.puts k).length cc) (au S.puts k).length xs)/\
   ec w F gi xs (au S.puts k)/\(au S.puts k= []->a=none/\cc=0)/\(au S.puts k≠ []->a=some ⟨gr k,0,none⟩/\cc=cr k):=by
 have l:=h.ok.hi;have g:=kh k (by omega);by_cases e:au S.puts k= []
 .refine⟨none,0, [],λb f=>?_,λb _=>?_,?_,λ_=>⟨rfl,rfl⟩,λh=>absurd e h⟩
  .obtain⟨v,i,ct,d⟩:=(cX h.map f).lookup ft underlying126 (uz b) (zd:= .held (.slice none 0 0)) (zp:= []) rfl g;rw [Maps.atKey_of_not_has (h.dE.Be k e)] at d;obtain⟨⟨a,n,c⟩,rfl⟩:=rZ v _ d;rw [Bg] at d;simp [KS] at d;obtain⟨⟨rfl,rfl,rfl⟩,_⟩:=d;rw [e];exact ct
  .rw [e];exact World.ownsRow_nil _ _ _ _
  .rw [e];trivial
 .obtain⟨_,xs,aU,ni⟩:=h.dE.row k e;refine⟨some ⟨gr k,0,none⟩,cr k,xs,λb f=>?_,λb f=>?_,ni,λh=>absurd h e,λ_=>⟨rfl,rfl⟩⟩
  .obtain⟨v,i,ct,d⟩:=(cX h.map f).lookup ft underlying126 (uz b) (zd:= .held (.slice none 0 0)) (zp:= []) rfl g;rw [h.dE.look k e] at d;obtain⟨⟨a,n,c⟩,rfl⟩:=rZ v _ d;rw [Bg] at d;simp [KS] at d;obtain⟨⟨rfl,rfl,rfl⟩,_⟩:=d;exact ct
  .have:=(aU.agree (f e)).owns;rw [ni.length] at this;exact this
def aO.wrote {S:DS} {m:Nat} {D:DataW Value} (h:aO w F p s S gi ci m D gr cr) (L:k<s) (M:l.length=512)
    (ni:ec w F gi xs (au S.puts k)) (Vk:ad (λb=>b=m\/(au S.puts k≠ []/\b=gr k)) w w3) (K:w.heap.size<=g) (E:ao w3 5 g cg (bs l))
    (bB:w3.ownsRow 0 44 1 (.slice (some (aD g2 0)) ((au S.puts k).length+1) gw) ((au S.puts k).length+1) (xs ++ [.slice (some (aD g 0)) 512 cg]))
    (dU:(au S.puts k≠ []/\g2=gr k)\/w.heap.size<=g2) (SQ:w3.ownsMap prog 3 Rs m (S.puts.length+1) (D.put (kk k) (.held (.slice (some (aD g2 0)) ((au S.puts k).length+1) gw)))):
  aO w3 (more F w w3) p s (S.put k l) gi ci m (D.put (kk k) (.held (.slice (some (aD g2 0)) ((au S.puts k).length+1) gw))) (λj=>if j=k then g2 else gr j) (λj=>if j=k then gw else cr j):=by
 obtain⟨PK,H,N,_,eB,C⟩:=ao.eQ bB (by simp);cases N;have gu:WideAt.IsKeyLit (kk k):=trivial;have Wa:∀b,au S.puts k≠ []->b=gr k->∃cur,w.heap[b]? =some (.cells cur 44 (0,0)):=λb n e=>by
  obtain⟨_,o,⟨cur,a,_⟩,_⟩:=h.dE.row k n;exact⟨cur,by rw [e];exact a⟩
 have r:∀(b:Nat) (cur:Array Value) (e:TypeId),w.heap[b]? =some (Obj.cells cur e (0,0))->e≠44->w3.heap[b]? =w.heap[b]? :=λb cur e a f=>by
  refine Vk.block b ((oF.1 a).1) (λi=>?_);rcases i with i|⟨n,i⟩
  .exact fa h.map (i▸a) rfl
  .obtain⟨A,nh⟩:=Wa b n i;rw [a] at nh;simp at nh;exact f nh.2
 have Lr:∀b c o,ao w 5 b c o->ao w3 5 b c o:=λb c o a=>by
  have nh:=a;obtain⟨cur,aq,_⟩:=nh;exact a.agree (r b cur _ aq (by decide))
 have O0:∀b,F b->more F w w3 b:=λb a=> .inl a;refine⟨.inl h.fp, .inl h.Py, .inl h.fm,λb a=>?_,?_,Lr _ _ _ h.IC,by simpa [DS.put] using SQ,⟨?_,?_,?_,?_,?_⟩,⟨h.ok.len,h.ok.lo,h.ok.hi,λq v=>?_,h.ok.fuse⟩⟩
 .rcases a with a|a
  .exact wu (h.lt b a) Vk.size
  .exact a.2
 .rw [r p _ _ h.j9 (by decide)];exact h.j9
 .intro G rP;by_cases f:G=kk k
  .exact⟨k,f,by rw [DS.put,fO,aN rfl];simp⟩
  .rw [Maps.has_put_other f] at rP;obtain⟨j,rfl,d⟩:=h.dE.keys G rP;exact⟨j,rfl,by rw [DS.put,fO];split;simp;exact d⟩
 .intro j d;rw [DS.put,fO] at d;split at d
  .simp at d
  .rename_i eM;rw [Maps.has_put_other (by simp [kk];omega)];exact h.dE.Be j d
 .intro j d z;rw [DS.put,fO] at d⊢;by_cases f:j=k
  .subst f;simp only [if_true];rw [Maps.atKey_put_same h.map.isMap gu];simp
  .simp only [f,if_false] at d⊢;rw [Maps.atKey_put_other (by simp [kk];omega)];exact h.dE.look j d z
 .intro j d;rw [DS.put,fO] at d⊢;by_cases f:j=k
  .subst f;simp only [if_true];refine⟨?_,_,eB,?_⟩
   .rcases dU with ⟨n,e⟩|dU
    .rw [e];exact .inl (h.dE.row j n).1
    .exact .inr ⟨dU,eB.lt⟩
   .refine ec.snoc ⟨g,cg,rfl, .inr ⟨K,E.lt⟩,?_,E⟩ ((ni.carry (λb c o _ _ a=>Lr b c o a)).mono O0);intro e;have:=h.lt gi h.Py;omega
  .simp only [f,if_false] at d⊢;obtain⟨J,o,t,wm⟩:=h.dE.row j d;refine⟨.inl J,o,t.agree (Vk.block _ t.lt (λi=>?_)),(wm.carry (λb c o _ _ a=>Lr b c o a)).mono O0⟩;rcases i with i|⟨n,i⟩
   .obtain⟨cur,a,_⟩:=t;exact fa h.map (i▸a) rfl
   .exact f (h.dE.inj j k d n i)
 .intro j u d GD e;rw [DS.put,fO] at d GD;by_cases x:j=k <;> by_cases y:u=k
  .omega
  .subst x;simp only [if_true,y,if_false] at e GD;rcases dU with ⟨n,I⟩|dU
   .exact(h.dE.inj j u n GD (by omega))
   .have:=h.lt _ (h.dE.row u GD).1;omega
  .subst y;simp only [if_true,x,if_false] at e d;rcases dU with ⟨n,I⟩|dU
   .exact(h.dE.inj j u d n (by omega))
   .have:=h.lt _ (h.dE.row j d).1;omega
  .simp only [x,y,if_false] at e d GD;exact h.dE.inj j u d GD e
 .simp only [DS.put,List.mem_append,List.mem_singleton] at v;rcases v with v|rfl
  .exact h.ok.puts q v
  .exact⟨L,M⟩
def IH {n:World} {S:DS} {m:Nat} {D:DataW Value} (h:aO w F p s S gi ci m D gr cr) (v:k<s) (x:l.length=512)
  {a:Option Addr} {q:Nat} (ni:ec w F gi xs (au S.puts k)) (lZ:au S.puts k= []->a=none/\q=0) (Ls:au S.puts k≠ []->a=some ⟨gr k,0,none⟩/\q=cr k) {o:Obj}
    (aq:bW w w1) (u:w.heap.size<=g) (r:ao w1 5 g cg (bs l))
    (bB:n.ownsRow 0 44 1 (.slice (some (aD g2 0)) ((au S.puts k).length+1) gw) ((au S.puts k).length+1) (xs ++ [.slice (some (aD g 0)) 512 cg]))
    (bS:(w1.alloc o).grownBy n (Value.slice a (au S.puts k).length q).ownBlock) (k7:(Value.slice a (au S.puts k).length q).ownBlock=some g2\/g2=w1.heap.size+1) (bn:S.puts.length+1<=5000000000000):
  n.heap[p]? =w.heap[p]?/\n.heap[m]? =w.heap[m]?/\∃w3,(Instr.mapUpdate 126 (.map (some m)) (iV (k:Int)) (.slice (some (aD g2 0)) ((au S.puts k).length+1) gw)).run prog n= .ok () w3/\
   aO w3 (more F w w3) p s (S.put k l) gi ci m (D.put (kk k) (.held (.slice (some (aD g2 0)) ((au S.puts k).length+1) gw))) (λj=>if j=k then g2 else gr j) (λj=>if j=k then gw else cr j)/\ad F w w3/\w3.heap[p]? =w.heap[p]? :=by
 have A:=h.ok.hi;have aG:=aq.alloc aq.size o;have cK:∀b,some b=(Value.slice a (au S.puts k).length q).ownBlock->au S.puts k≠ []/\b=gr k:=λb e=>by
  by_cases i:au S.puts k= []
  .rw [(lZ i).1] at e;simp [Value.ownBlock] at e
  .rw [(Ls i).1] at e;simp [Value.ownBlock] at e;exact⟨i,e⟩
 have d:∀b,b<w.heap.size->¬(au S.puts k≠ []/\b=gr k)->n.heap[b]? =w.heap[b]? :=λb c f=>
    (bS.block b (wu c aG.size) (λe=>f (cK b e))).trans (aG.block b c)
 have aU:∀b,au S.puts k≠ []/\b=gr k->∃cur,w.heap[b]? =some (.cells cur 44 (0,0)):=λb i=>by
  obtain⟨_,C,⟨cur,c,_⟩,_⟩:=h.dE.row k i.1;exact⟨cur,by rw [i.2];exact c⟩
 have A1:=d p (h.lt p h.fp) (λf=>by
  obtain⟨cur,c⟩:=aU p f;rw [h.j9] at c;simp at c)
 have fi:=d m (h.lt m h.fm) (λf=>by
  obtain⟨cur,c⟩:=aU m f;exact fa h.map c rfl)
 obtain⟨w3,ct,SQ,xA⟩:=(cX h.map fi).update ft underlying126 (by unfold maxLen;omega) (kh k (by omega)) (show Rs (.slice (some (aD g2 0)) ((au S.puts k).length+1) gw)=some (.held _, []) from rfl);have Lp:=h.lt m h.fm;have ZI:=r.lt;have jx:=aq.size;have agw:(w1.alloc o).heap.size=w1.heap.size+1:=by simp
 have zm:=bS.size;have II:=xA.size;have SR:g≠m:=by omega
 obtain⟨PK,t,y,_,eB,_⟩:=ao.eQ bB (by simp);cases y;have aa9:g2≠m:=λe=>by
  obtain⟨cur,c,_⟩:=eB;rw [e] at c;exact fa (cX h.map fi) c rfl
 have rQ:ao w3 5 g cg (bs l):=by
  refine(r.agree ?_);rw [xA.block g (by omega) (by simpa using SR),bS.block g (by omega) (λe=>?_),Below.heap_alloc _ _ _ ZI];have:=cK g e;have:=h.lt _ (h.dE.row k this.1).1;omega
 have Vk:ad (λb=>b=m\/(au S.puts k≠ []/\b=gr k)) w w3:=
    ⟨xA.os.trans (bS.os.trans aG.os),xA.tape.trans (bS.tape.trans aG.tape),xA.output.trans (bS.output.trans aG.output),by omega,λb c f=>
     (xA.block b (by omega) (λe=>f (.inl (by simpa using e)))).trans (d b c (λz=>f (.inr z)))⟩
 refine⟨A1,fi,w3,ct,h.wrote v x ni Vk u rQ (bB.kept xA (.inr (by simpa [Value.ownBlock] using aa9))) ?_ SQ,Vk.mono (λb c=>?_),(xA.block p (by have:=h.lt p h.fp;omega) (λe=>fa h.map h.j9 (by simpa using e.symm))).trans A1⟩
 .rcases k7 with e|e
  .exact .inl (cK g2 e.symm)
  .exact .inr (by omega)
 .rcases c with rfl|⟨i,rfl⟩
  .exact h.fm
  .exact(h.dE.row k i).1
def aO.ST {S:DS} {m:Nat} {D:DataW Value} (h:aO w F p s S gi ci m D gr cr):
  aO (w.setCell ⟨p,5,none⟩ (.int .i64 (wrap64 (S.writes+1)))) F p s {S with writes:=wrap64 (S.writes+1)} gi ci m D gr cr:=
 h.qG (h.set 5 _).2 ((h.set 5 _).1.trans (by simp [fV])) rfl rfl h.ok.fuse
def aO.Lt {S:DS} {m:Nat} {D:DataW Value} (h:aO w F p s S gi ci m D gr cr):
  aO (if 0<S.fuse then w.setCell ⟨p,2,none⟩ (.int .i64 (wrap64 (S.fuse-1))) else w) F p s S.iG gi ci m D gr cr/\ad F w (if 0<S.fuse then w.setCell ⟨p,2,none⟩ (.int .i64 (wrap64 (S.fuse-1))) else w):=by
 have b:=h.ok.fuse;by_cases a:0<S.fuse
 .rw [aN a];have e:wrap64 (S.fuse-1)=S.fuse-1:=by unfold wrap64;omega
  refine⟨h.qG (h.set 2 _).2 ((h.set 2 _).1.trans ?_) rfl rfl ?_,ad.setCell w h.fp _⟩
  .rw [e];simp [fV,DS.iG,a]
  .simp only [DS.iG,aN a];omega
 .rw [aB a];have e:S.iG=S:=by simp [DS.iG,a]
  rw [e];exact⟨h,ad.refl _ _⟩
def DS.wrote (S:DS):DS:={S with writes:=wrap64 (S.writes+1)}
def IJ {zn:World} (h:w'.heap.size<=zn.heap.size):∀k,more F w w' k->more F w zn k:=λk a=>by
 rcases a with a|a
 .exact .inl a
 .exact .inr ⟨a.1,by omega⟩
def IK {a:World} {S:DS} {m:Nat} {D:DataW Value} (d:F p) (h:aO a (more F w a) p s S gi ci m D gr cr) (f:ad F w a):
  fg (if 0<S.fuse then a.setCell ⟨p,2,none⟩ (.int .i64 (wrap64 (S.fuse-1))) else a) (more F w (if 0<S.fuse then a.setCell ⟨p,2,none⟩ (.int .i64 (wrap64 (S.fuse-1))) else a)) p s S.iG m/\
   ad F w (if 0<S.fuse then a.setCell ⟨p,2,none⟩ (.int .i64 (wrap64 (S.fuse-1))) else a):=by
 obtain⟨c,_⟩:=h.Lt;have fy:(if 0<S.fuse then a.setCell ⟨p,2,none⟩ (.int .i64 (wrap64 (S.fuse-1))) else a).heap.size=a.heap.size:=by split <;> simp [World.setCell]
 have aK:ad (λk=>k=p) a (if 0<S.fuse then a.setCell ⟨p,2,none⟩ (.int .i64 (wrap64 (S.fuse-1))) else a):=by
  split
  .exact ad.setCell (F:=λk=>k=p) a (p:=(aD p 2)) rfl _
  .exact ad.refl _ _
 refine⟨fg.mono ⟨gi,ci,D,gr,cr,c⟩ (IJ (Nat.le_of_eq fy.symm)) (λk Lu=>?_),f.trans aK (λj e=> .inl (e▸d))⟩;rw [fy];rcases Lu with b|b
 .exact h.lt k (.inl b)
 .rw [fy] at b;exact b.2
set_option maxRecDepth 100000 in
def xB {S:DS} {m:Nat} (hd:fg w F p s S m) (k:Nat) (y:k<s) (G:S.fuse≠0) (bn:S.puts.length+1<=5000000000000)
    (x:Addr) (c:Nat) (l:List Int) (fN:Src w (some x) 512 l):
  Calls prog 49 #[pQ p,iV (k:Int), .slice (some x) 512 c] w λe w'=>e= .returned (iV 0)/\fg w' (more F w w') p s ((S.put k l).wrote.iG) m/\ad F w w':=by
 have u:=fM hd.at;rw [show (S.fuse == 0)=false by simp [G]] at u;obtain⟨Q,C,D,R,N,h⟩:=hd;have T:=h.ok.hi;have v:=qF p _ (s*512) C k w (by omega) (aL h.j9);rw [show s*512 / 512=s by omega,show (decide (0<=(k:Int)) && decide ((k:Int)<(s:Int)))=true by simp;omega] at v;obtain⟨a,A,xs,gl,Wb,ni,lZ,Ls⟩:=h.SP y;obtain⟨L,zo,iX,eR,eE⟩:=info_parts zi;have tP:=h.lt p h.fp;have Lp:=h.lt m h.fm;have J:=uB S.puts k;have fE:∀q:World,q.heap[p]? =w.heap[p]?->q.cell? (aD p 1)=some (.map (some m)):=λq e=>bY (e.trans h.j9);have qI:=fN.1;have oY:=gl w.drew rfl;go_in;go_wp2_with (first|(go_at_call 44;refine u.mono ?_;rintro e w' ⟨rfl,n⟩;have fJ:=n.symm;subst fJ)|(go_at_call 97;refine v.mono ?_;rintro e w' ⟨rfl,n⟩;have fJ:=n.symm;subst fJ));go_region_held3 (λw'=>w'.cell? (aD p 1)=some (.map (some m)))
    ((refine fE _ ?_;first|rfl|assumption|(refine(Below.heap_alloc _ _ _ (wu ?_ aq.size)).trans ?_ <;> assumption)))
  (first
   |(go_at_call 99;refine(xy x 512 c l w.drew qI (by omega) (λi hi=>fN.2.2 _ rfl i hi)).mono ?_;rintro e w1 ⟨g,r,rfl,H,K,lJ⟩;have aq:bW w w1:=⟨lJ.os,lJ.tape,lJ.output,lJ.size,lJ.block⟩;clear lJ;have gM:w1.heap[p]? =w.heap[p]? :=aq.block p tP;have l5:w1.heap[m]? =w.heap[m]? :=aq.block m Lp;have dD:=gl w1 l5;have ir:=λo=>gl (w1.alloc o) ((Below.heap_alloc w1 o m (wu Lp aq.size)).trans l5))
   |(refine step_append_lies _ (by rfl) _ _ _ (by rfl) 0 44 L _ 1 24 underlying70 zo iX eR eE rfl (by omega) (.slice a (au S.puts k).length A) (au S.puts k).length xs (by rfl) (Wb _ (λz=>(Below.heap_alloc w1 _ _ (wu (h.lt _ (h.dE.row k z).1) aq.size)).trans (aq.block _ (h.lt _ (h.dE.row k z).1))))
       (aD w1.heap.size 0) 1 1 [.slice (some (aD g 0)) 512 r] (by rfl) (by rfl) (World.news_of_block (cs:= #[.slice (some (aD g 0)) 512 r]) (t:=44) (fr:=(0,0)) (heap_alloc_new w1 _)) (by simp [Value.oneCell']) (by omega) (by unfold maxLen;omega) (by omega) (iq _) (w1.heap.size+1) (by simp) ?_;intro P gw U g9 uC IM r8;obtain⟨A1,fi,b,Wc,eO,aR,nL⟩:=IH h y qI ni lZ Ls aq H K g9 uC IM bn))
 all_goals
  obtain⟨d,M,O,tQ⟩:=jJ h.fp (PB eO.j9) (ae eO.j9 5) eO.ST;have dF:ad F w (b.setCell ⟨p,5,none⟩ (.int .i64 (wrap64 ((S.put k l).writes+1)))):=aR.trans (ad.setCell (F:=λk=>k=p) b (p:=(aD p 5)) rfl _) (λj I=> .inl (I▸d));have f:=xw p (S.put k l).fuse _ (cJ tQ.j9) (ae tQ.j9 2) tQ.ok.fuse.1;have fy:(b.setCell ⟨p,5,none⟩ (.int .i64 (wrap64 ((S.put k l).writes+1)))).heap.size=b.heap.size:=by simp [World.setCell]
  have E:more F w (b.setCell ⟨p,5,none⟩ (.int .i64 (wrap64 ((S.put k l).writes+1))))=more F w b:=by unfold more;rw [fy]
  rw [<-E] at tQ;have dQ:Calls prog 100 #[pQ p] (b.setCell ⟨p,5,none⟩ (.int .i64 (wrap64 ((S.put k l).writes+1)))) λe w'=>e= .returned (.tuple #[])/\fg w' (more F w w') p s ((S.put k l).wrote.iG) m/\ad F w w':=
   f.mono (by rintro e w' ⟨rfl,rfl⟩;exact⟨rfl,IK d tQ dF⟩)
  go_wp2_with (go_at_call 100;refine dQ.mono ?_;rintro e W ⟨rfl,pp,cB⟩);go_ret;exact⟨rfl,pp,cB⟩
def Lv {S:DS} (hd:aI w F p s S) (k:Nat) (g:k<s) (f:S.fuse≠0) (bn:S.puts.length+1<=5000000000000)
    (x:Addr) (c:Nat) (l:List Int) (fN:Src w (some x) 512 l):
  Calls prog 49 #[pQ p,iV (k:Int), .slice (some x) 512 c] w λe w'=>e= .returned (iV 0)/\aI w' (more F w w') p s ((S.put k l).wrote.iG)/\ad F w w':=by
 obtain⟨m,hd⟩:=hd.m;refine(xB hd k g f bn x c l fN).mono ?_;rintro e w' ⟨a,b,d⟩;exact⟨a,b.at,d⟩
def zq (s:Nat) (f:Nat->List Int):List Int:=(List.range s).flatMap f
def xC (s:Nat) (f:Nat->List Int):zq (s+1) f=zq s f ++ f s:=by simp [zq,List.range_succ]
def uD (s:Nat) (f:Nat->List Int) (h:∀k,k<s->(f k).length=512):(zq s f).length=s*512:=by
 induction s with
 |zero=>simp [zq]
 |succ s a=>rw [xC,gT,a (λk b=>h k (by omega)),h s (by omega)];omega
def zt (a b:List Int) (c:a.length=s*512) (d:k<s):gW (a ++ b) k=gW a k:=by
 unfold gW;rw [List.drop_append_of_le_length (by omega),List.take_append_of_le_length (by simp;omega)]
def wH (a b:List Int) (c:a.length=s*512) (d:b.length=512):gW (a ++ b) s=b:=by
 unfold gW;rw [<-c,List.drop_left,wl (by omega)]
def Bj (s:Nat) (f:Nat->List Int) (h:∀k,k<s->(f k).length=512) (k:Nat) (a:k<s):gW (zq s f) k=f k:=by
 induction s with
 |zero=>omega
 |succ s c=>
  have b:=uD s f (λk a=>h k (by omega));rw [xC];by_cases e:k=s
  .subst e;exact wH _ _ b (h k (by omega))
  .rw [zt _ _ b (by omega)];exact c (λk a=>h k (by omega)) (by omega)
def Lw:∀(s:Nat) {a b:List Int},a.length=s*512->b.length=s*512->(∀k,k<s->gW a k=gW b k)->a=b
 |0,a,b,ha,hb,_=>by
  rw [Ef (by omega:a.length=0),Ef (by omega:b.length=0)]
 |s+1,a,b,ha,hb,h=>by
  have h0:=h 0 (by omega);simp [gW] at h0;have c:=Lw s (a:=a.drop 512) (b:=b.drop 512) (by simp;omega) (by simp;omega) (λk d=>by
   have:=h (k+1) (by omega);simp only [gW,List.drop_drop] at this⊢;rw [show 512+k*512=(k+1)*512 by omega];exact this)
  rw [<-List.take_append_drop 512 a,<-List.take_append_drop 512 b,h0,c]
def pN (L:List α) (o:Nat) (cs:List α) (h:o+cs.length<=L.length):(splice L o cs).length=L.length:=by simp [splice];omega
def xD (a l:List Int) (o:Nat):splice (bs a) o (bs l)=bs (splice a o l):=by simp [splice,bs]
def uE (L:List Int) (o:Nat) (cs:List Int) (h:o+cs.length<=L.length) (i:Nat):(splice L o cs)[i]? =if o<=i/\i<o+cs.length then cs[i-o]? else L[i]? :=by
 unfold splice;by_cases a:i<o
 .rw [ZG (by simp;omega),List.getElem?_take,aN a,aB (by omega)]
 .rw [zS9 (by simp;omega)];have e:(L.take o).length=o:=by simp;omega
  rw [e];by_cases b:i<o+cs.length
  .rw [ZG (by omega),aN ⟨by omega,b⟩]
  .rw [zS9 (by omega),List.getElem?_drop,aB (by omega)];congr 1;omega
def nM (a:List Int) (k i:Nat):(gW a k)[i]? =if i<512 then a[k*512+i]? else none:=by
 unfold gW;rw [List.getElem?_take];split
 .rw [List.getElem?_drop]
 .rfl
def Ej (a:im.length=s*512) (c:l.length=512) (b:k<s):gW (splice im (k*512) l) j=if j=k then l else gW im j:=by
 apply List.ext_getElem?;intro i;rw [nM];by_cases hi:i<512
 .rw [aN hi,uE _ _ _ (by omega)];by_cases e:j=k
  .subst e;rw [aN (by omega),aN rfl];congr 1;omega
  .rw [aB (by omega),aB e,nM,aN hi]
 .rw [aB hi];split
  .rw [List.getElem?_eq_none (by omega)]
  .rw [nM,aB hi]
def Bk (L:List α) (o n:Nat) (cs:List α) (h:o+cs.length<=n) (b:n<=L.length):(splice L o cs).take n=splice (L.take n) o cs:=by
 have a:(L.take o).length=o:=by rw [Iz];omega
 unfold splice;rw [List.take_append,List.take_append,a,wl (l:=L.take o) (by omega),wl (l:=cs) (by omega),List.drop_take,List.take_take,Nat.min_eq_left (by omega:o<=n),Nat.sub_sub]
def ao.copied (h:ao w 5 g c (bs im)) (n:TypeId) (i:Option Addr) (d fs ww:Nat) (a:Option Addr) (iL wF:Nat) (l:List Int) (t:Src w a iL l)
    (hd:0<fs->i=some (aD g d)) (oX:d+fs<=im.length):
  ∃f,(Builtin.copy_ #[44,44] n #[.slice i fs ww, .slice a iL wF]).run prog w= .ok (goInt (Nat.min iL fs)) f/\
   ao f 5 g c (bs (splice im d (l.take fs)))/\ad (λk=>k=g) w f/\f.heap.size=w.heap.size:=by
 have j:=h.le;obtain⟨cur,o,p,m,s⟩:=h;have b:(bs im).length=im.length:=by simp [bs]
 rw [b] at j m;obtain⟨f,ct,q,r,fy⟩:=Li w n i g d fs ww a iL wF cur.toList l (by simpa using o) t hd (by simp;omega);have ir:(bs (l.take fs)).length<=fs:=by simp [bs];omega
 have ZJ:(bs (l.take fs)).length=(l.take fs).length:=by simp [bs]
 refine⟨f,ct,⟨_,q,?_,?_,s⟩,r,fy⟩
 .rw [List.size_toArray,pN _ _ _ (by simp only [Array.length_toList];omega)];simpa using p
 .have e:(bs (splice im d (l.take fs))).length=im.length:=by
   rw [<-xD,pN _ _ _ (by rw [b];omega),b]
  rw [e,List.toList_toArray,Bk _ _ _ _ (by omega) (by simp;omega),m,xD]
section
open Go.ChangeMaps (setBlock heap_setBlock_same heap_setBlock_other)
def IN {m:Nat} {D:DataW Value} (h:w.ownsMap prog 3 Rs m n D):
  ∃w',(∀c,(Builtin.clear_ #[126] c #[.map (some m)]).run prog w= .ok (.tuple #[]) w')/\w'.ownsMap prog 3 Rs m 0 (.map [])/\ad (λk=>k=m) w w'/\w'.heap.size=w.heap.size:=by
 obtain⟨e,a,b,F,_,_⟩:=h;refine⟨setBlock w m (.map #[] a),?_,⟨#[],a,heap_setBlock_same b _,⟨by simp,?_,by simp⟩,by simp,by simp⟩,⟨rfl,rfl,rfl,by simp [setBlock],λk _ d=>heap_setBlock_other b _ d⟩,by simp [setBlock]⟩
 .intro c;simp [Builtin.clear_,go_sem,MapKept.run_getObj_map b,MapKept.run_setObj_map _ b,setBlock]
 .exact MapKept.stamped_empty _
def aO.qJ {S:DS} {m:Nat} {D:DataW Value} (h:aO w F p s S gi ci m D gr cr) (i:w'.ownsMap prog 3 Rs m 0 (.map [])) (d:ad (λk=>k=m) w w'):
  aO w' F p s {S with puts:= []} gi ci m (.map []) gr cr:=by
 have eM:∀(b:Nat) (cur:Array Value) (e:TypeId) (c:Nat×Nat),w.heap[b]? =some (Obj.cells cur e c)->w'.heap[b]? =w.heap[b]? :=λb cur e c a=>
  d.block b (oF.1 a).1 (λf=>fa h.map (f▸a) rfl)
 refine⟨h.fp,h.Py,h.fm,λk g=>wu (h.lt k g) d.size,(eM p _ _ _ h.j9).trans h.j9,?_,i,fw.empty _ _ _ _ _,⟨h.ok.len,h.ok.lo,h.ok.hi,by simp,h.ok.fuse⟩⟩;obtain⟨cur,a,_⟩:=h.IC;exact h.IC.agree (eM gi _ _ _ a)
def aO.agree {S:DS} {m:Nat} {D:DataW Value} (h:aO w F p s S gi ci m D gr cr) (c:w.heap.size<=w'.heap.size) (a:∀k,F k->w'.heap[k]? =w.heap[k]?):
  aO w' F p s S gi ci m D gr cr:=
   ⟨h.fp,h.Py,h.fm,λk b=>wu (h.lt k b) c,(a p h.fp).trans h.j9,h.IC.agree (a gi h.Py),cX h.map (a m h.fm),h.dE.agree a,h.ok⟩
def aO.Rz {S:DS} {m:Nat} {D:DataW Value} (h:aO w F p s S gi ci m D gr cr):
  aO (w.setCell ⟨p,6,none⟩ (.int .i64 (wrap64 (S.flushes+1)))) F p s {S with flushes:=wrap64 (S.flushes+1)} gi ci m D gr cr:=
 h.qG (h.set 6 _).2 ((h.set 6 _).1.trans (by simp [fV])) rfl rfl h.ok.fuse
def aO.SU {S:DS} {m:Nat} {D:DataW Value} (h:aO w F p s S gi ci m D gr cr) (a:ao w' 5 gi ci (bs im)) (i:im.length=s*512) (b:ad (λk=>k=gi) w w'):
  aO w' F p s {S with im:=im} gi ci m D gr cr:=by
 obtain⟨cur,d,_⟩:=h.IC;refine⟨h.fp,h.Py,h.fm,λk f=>wu (h.lt k f) b.size,(b.block p (h.lt p h.fp) (λe=>(h.IC.ne h.j9 (by decide)) e.symm)).trans h.j9,a,cX h.map (b.block m (h.lt m h.fm) (fa h.map d)),
  h.dE.carry (λg c xs _ eM a=>a.agree (b.block g a.lt eM)) (λg c xs _ a=>a.other b d (by decide)),⟨i,h.ok.lo,h.ok.hi,h.ok.puts,h.ok.fuse⟩⟩
end
def xE (body:List Int):List Int:=((body.length%256:Nat):Int) :: ((body.length / 256:Nat):Int) :: (body ++ List.replicate (504-body.length) 0)
def bc (t:Int) (body:List Int):List Int:=
 t :: ((body.length%256:Nat):Int) :: ((body.length / 256:Nat):Int) :: (pI (sumOf (xE body)) ++ (body ++ (List.replicate (504-body.length) 0 ++ [t])))
def cG (a b:Int):Nat:=if a≠0/\b≠0 then 0 else if a≠1/\b≠1 then 1 else 2
def fj (a b:Int):cG a b<=2:=by unfold cG;split <;> (try split) <;> omega
def IP (a b:Int):((cG a b:Nat):Int)≠a/\((cG a b:Nat):Int)≠b:=by
 unfold cG;by_cases h:a≠0/\b≠0
 .rw [aN h];omega
 .rw [aB h];by_cases c:a≠1/\b≠1
  .rw [aN c];omega
  .rw [aB c];omega
def uF (s:Nat):(pI s).length=4:=rfl
def zu (s:Nat):Bytes (pI s):=by
 intro x a;simp only [pI,List.mem_cons,List.not_mem_nil,or_false] at a;omega
def eS {t:Int} (h:body.length<=504):(bc t body).length=512:=by simp [bc,uF];omega
def Bytes.append {a b:List Int} (c:Bytes a) (d:Bytes b):Bytes (a ++ b):=λx e=>(List.mem_append.1 e).elim (c x) (d x)
def Bytes.cons {a:Int} {b:List Int} (c:0<=a/\a<256) (d:Bytes b):Bytes (a :: b):=λx e=>(List.mem_cons.1 e).elim (λh=>h▸c) (d x)
def Bytes.nil:Bytes []:=λ_ a=>by cases a
def Bytes.sY (n:Nat):Bytes (List.replicate n 0):=λx a=>by rw [List.eq_of_mem_replicate a];omega
def Bytes.take (h:Bytes l) (n:Nat):Bytes (l.take n):=λx a=>h x (List.mem_of_mem_take a)
def Bytes.drop (h:Bytes l) (n:Nat):Bytes (l.drop n):=λx a=>h x (List.mem_of_mem_drop a)
def Bytes.getD (h:Bytes l) (i:Nat):0<=l.getD i 0/\l.getD i 0<256:=by
 by_cases hi:i<l.length
 .have:=h l[i] (List.getElem_mem hi);simpa [List.getD,hi] using this
 .simp [List.getD,List.getElem?_eq_none (Nat.le_of_not_lt hi)]
def Bl (h:Bytes body) (a:body.length<=504):Bytes (xE body):=
   .cons (by omega) (.cons (by omega) (h.append (.sY _)))
def sZ {t:Int} (h:Bytes body) (b:body.length<=504) (a:0<=t/\t<256):Bytes (bc t body):=
   .cons a (.cons (by omega) (.cons (by omega) ((zu _).append (h.append ((Bytes.sY _).append (.cons a .nil))))))
def cM (s:List Int):Nat:=(s.getD 1 0+256*s.getD 2 0).toNat
def dG (s:List Int):List Int:=(s.drop 7).take (cM s)
def fF (s:List Int):Option (List Int):=if cM s<=504/\s.getD 0 0<=2/\bc (s.getD 0 0) (dG s)=s then some (dG s) else none
def xF (t:Int) (body:List Int) (h:body.length<=504):cM (bc t body)=body.length:=by
 simp [cM,bc,List.getD];omega
def Ek (t:Int) (body:List Int):(bc t body).drop 7=body ++ (List.replicate (504-body.length) 0 ++ [t]):=by
 simp [bc,pI]
def El (t:Int) (body:List Int) (h:body.length<=504):dG (bc t body)=body:=by
 rw [dG,xF t body h,Ek];simp
def Bm (t:Int) (body:List Int):(bc t body).getD 0 0=t:=rfl
def Em (t:Int) (body:List Int) (h:body.length<=504) (a:t<=2):fF (bc t body)=some body:=by
 unfold fF;rw [xF t body h,Bm,El t body h,aN ⟨h,a,rfl⟩]
def uG {s:List Int} (h:fF s=some body):cM s<=504/\s.getD 0 0<=2/\bc (s.getD 0 0) (dG s)=s/\body=dG s:=by
 unfold fF at h;split at h
 .next hc=>exact⟨hc.1,hc.2.1,hc.2.2,(Option.some.inj h).symm⟩
 .cases h
def ki {s:List Int} (h:cM s<=504) (a:s.length=512):(dG s).length=cM s:=by
 simp [dG];omega
def IQ {s:List Int} (h:fF s=some body) (b:s.length=512):body.length<=504:=by
 obtain⟨a,_,_,rfl⟩:=uG h;rw [ki a b];exact a
def ua (s:List Int):List Int:=(s.drop 1).take 2 ++ (s.drop 7).take 504
def am (s:List Int):Nat×List Int:=
 match fF s with
 |none=>(0, [])
 |some body=>if 8<=body.length/\le (body.take 8)<9223372036854775808 then (le (body.take 8),body.drop 8) else (0, [])
def ai (l r:List Int):Nat×Nat×List Int×Nat:=
 if l.length≠512\/r.length≠512 then (0,0, [],2) else
 if (am l).1=0/\(am r).1=0 then (0,0, [],30) else
 if (am l).1<(am r).1 then (1,(am r).1,(am r).2,0) else (0,(am l).1,(am l).2,0)
def bj (n:Nat):List Int:=(List.range 8).map (λk=>((n / 256 ^ k%256:Nat):Int))
def ky (old body:List Int):List Int×Nat:=
 if old.length≠512 then ([],2) else if 504<body.length then ([],7) else (bc (cG (old.getD 0 0) (old.getD 511 0)) body,0)
def bZ (s:List Int):List Int×Nat:=
 if s.length≠512 then ([],2) else match fF s with|none=>([],30)|some b=>(b,0)
def aW (l r:List Int) (number:Int) (data:List Int):Nat×List Int×Nat:=
 if l.length≠512\/r.length≠512 then (0, [],2) else
 if number<1 then (0, [],1) else
 if 496<data.length then (0, [],7) else
 let a:=ai l r
 if number<=a.2.1 then (0, [],31) else
 if a.2.2.2=0/\a.1=0 then (1,bc (cG (r.getD 0 0) (r.getD 511 0)) (bj number.toNat ++ data),0)
 else (0,bc (cG (l.getD 0 0) (l.getD 511 0)) (bj number.toNat ++ data),0)
def PL:Nat->Nat->Bool
 |0,_=>true
 |n+1,s=>if cb s=1 then false else PL n (cb s)
def xG:∀(n s:Nat),PL n s=true->∀a,a<n->lX (a+1) s≠1
 |0,_,_,a,ha=>by omega
 |n+1,s,h,a,ha=>by
  unfold PL at h;split at h
  .cases h
  .next hc=>
   cases a with
   |zero=>exact hc
   |succ a=>exact xG n (cb s) h a (by omega)
def order {a:Nat} (h0:0<a) (b:a<=4080):lX a 1≠1:=by
 have h:PL 4080 1=true:=by decide+kernel
 have:=xG 4080 1 h (a-1) (by omega);rwa [show a-1+1=a by omega] at this
def xH (n:Nat):bj n= [((n%256:Nat):Int),((n / 256%256:Nat):Int),((n / 65536%256:Nat):Int),((n / 16777216%256:Nat):Int),((n / 4294967296%256:Nat):Int),((n / 1099511627776%256:Nat):Int),((n / 281474976710656%256:Nat):Int),((n / 72057594037927936%256:Nat):Int)]:=by
 simp [bj,List.range,List.range.loop]
def dN (n:Nat):(bj n).length=8:=by simp [bj]
def mw (n:Nat):Bytes (bj n):=by
 intro x a;obtain⟨j,_,rfl⟩:=List.mem_map.1 a;omega
def IR (h:n<18446744073709551616):le (bj n)=n:=by
 rw [xH];simp only [le,t7];omega
def zv {t:Int} (c:t<=2) (b:n<9223372036854775808) (hd:data.length<=496):am (bc t (bj n ++ data))=(n,data):=by
 have a:=dN n;unfold am;rw [Em _ _ (by simp [a];omega) c];simp only [List.take_left' a,List.drop_left' a,IR (show n<18446744073709551616 by omega)];rw [aN ⟨by simp [a],b⟩]
def uH (l r:List Int) (slot:Nat) (s:List Int):List Int×List Int:=if slot=0 then (s,r) else (l,s)
def qK {r:List Int} (j:l.length=512) (k:r.length=512) (d:n<9223372036854775808) (g:1<=n) (hd:data.length<=496) (zw:(ai l r).2.1<n) {t:Int} (f:t<=2) (a:Nat)
    (b:a=if (ai l r).2.2.2=0/\(ai l r).1=0 then 1 else 0):
  ai (uH l r a (bc t (bj n ++ data))).1 (uH l r a (bc t (bj n ++ data))).2=(a,n,data,0):=by
 have c:=zv f d hd;have i:(bc t (bj n ++ data)).length=512:=eS (by simp [dN];omega);generalize bc t (bj n ++ data)=s at*;have e:ai l r=if (am l).1=0/\(am r).1=0 then (0,0, [],30) else if (am l).1<(am r).1 then (1,(am r).1,(am r).2,0) else (0,(am l).1,(am l).2,0):=by
  unfold ai;rw [aB (by omega)]
 rw [e] at b zw;by_cases z:(am l).1=0/\(am r).1=0
 .rw [aN z] at b zw;have:a=0:=by rw [b];rfl
  subst this;simp only [uH,if_true,ai];rw [aB (by omega),c,aB (by simp;omega),aB (by simp;omega)]
 .rw [aB z] at b zw;by_cases q:(am l).1<(am r).1
  .rw [aN q] at b zw;have:a=0:=(by rw [b];rfl);subst this;simp only [uH,if_true,ai];rw [aB (by omega),c,aB (by simp;omega),aB (by simp at zw⊢;omega)]
  .rw [aB q] at b zw;have:a=1:=(by rw [b];rfl);subst this;have Wd:¬(1:Nat)=0:=(by omega);simp only [uH,aB Wd,ai];rw [aB (by omega),c,aB (by simp;omega),aN (by simp at zw⊢;omega)]
section
open Go.ChangeShapes Go.WideShapes Go.ChangeAt Go.RowKit Go.Deep
def Bo:ownKnob prog.godebug=none:=by kernel_rfl
def laidOut:laidOutB prog=true:=by kernel_rfl
def PM:prog.bytesOf 5=1:=by kernel_rfl
def PN:prog.cellsOf 5=1:=by kernel_rfl
def gC:prog.cellsOf 3=1:=by kernel_rfl
def uI:prog.cellsOf 44=1:=by kernel_rfl
def nN (n:Int):Prop:= -9223372036854775808<=n/\n<=9223372036854775807
def pO {n:Int} (h:(Lit.int .i64 n).wf=true):nN n:=by
 have:=h;simp [Lit.wf,IntKind.min,IntKind.max,IntKind.bits,IntKind.signed] at this;unfold nN;omega
def We {n:Int} (h:(Lit.int .u8 n).wf=true):0<=n/\n<256:=by
 have:=h;simp [Lit.wf,IntKind.min,IntKind.max,IntKind.bits,IntKind.signed] at this;omega
section
variable {H:Type} {enc:TypeId×Value->H} {W:World} {base:Nat} {spare:Nat->Bool} {held:Bool}
def nO {P:Program} {e:TypeId} {n:Nat}:∀{a:List (DataW H)} {d:DataW H},d∈a->n∈d.weights P e->n∈DataW.weightsAll P e a
 |d :: r,d',hd,hn=>by
  rw [DataW.weightsAll];rcases List.mem_cons.1 hd with rfl|h
  .exact List.mem_append_left _ hn
  .exact List.mem_append_right _ (nO h hn)
def RD {P:Program} {b c d:Field} {cs:List Value} {x:DataW H×List MemPlace} (q:P.underlying e=some (.struct #[b,c,d])) (p:P.cellsOf e=3) (r:b.offset=0) (s:c.offset=1) (t:d.offset=2)
    (l:P.cellsOf b.type=1) (m:P.cellsOf c.type=1) (o:P.cellsOf d.type=1) (h:DataW.trod enc P W base spare held n e cs=some x):
  ∃v0 v1 v2 y0 y1 y2 k,cs= [v0,v1,v2]/\x.1= .agg [y0.1,y1.1,y2.1]/\DataW.trod enc P W base spare held k b.type [v0]=some y0/\DataW.trod enc P W base spare held k c.type [v1]=some y1/\DataW.trod enc P W base spare held k d.type [v2]=some y2:=by
 obtain⟨xs,k,_,Vl,a,PO,f⟩:=DataW.trod_struct q h;rw [p] at a
 match xs,PO,cs,a with
 | [y0,y1,y2],_, [v0,v1,v2],_=>
  have g:=f 0 b rfl;have i:=f 1 c rfl;have j:=f 2 d rfl;simp [r,s,t,l,m,o] at g i j;exact⟨v0,v1,v2,y0,y1,y2,k,rfl,by rw [Vl];rfl,g,i,j⟩
def En {fuel:Nat} {d:DataW H} {p:List MemPlace} (h:DataW.trod enc prog W base spare held fuel 44 [v]=some (d,p)) (k:∀n∈d.weights prog 44,n<=reachBytes):
  ∃a n c l,v= .slice a n c/\Src W a n l/\Bytes l/\n<=c/\n<=140737488355328:=by
 rcases open_ints underlying44 underlying5 PN h with ⟨wI,_⟩|⟨x,l,c,zs,wI,_,j,q,f,hd,fE,b⟩
 .simp only [List.cons.injEq,and_true] at wI;exact⟨none,0,0, [],wI,⟨rfl,λ_=>rfl,λx e=>by cases e⟩,(λx e=>by cases e),di _,iq _⟩
 .simp only [List.cons.injEq,and_true] at wI;simp only [Prod.mk.injEq] at hd;obtain⟨rfl,rfl⟩:=hd;have o:l<=zs.length:=by rw [f];split <;> omega
  have g:=k ((((lits IntKind.u8 (zs.take l):List (DataW H))).length+((lits IntKind.u8 (zs.drop l):List (DataW H))).length)*prog.bytesOf 5) (by simp [DataW.weights,underlying44]);rw [PM] at g;simp only [lits,ju,Iz,List.length_drop,reachBytes] at g;refine⟨some x,l,c,zs.take l,wI,⟨by simp;omega,(λh=>by cases h),λy m i hi=>?_⟩,λz f=>We (b z (List.mem_of_mem_take f)),j,by omega⟩;cases m;rw [fE i (by omega)];simp [List.getD,hi]
end
end
def ub:List Value:=(List.range 16).map (λj=>Value.int .u32 ((lX 4 j:Nat):Int))
def zx:ub.length=16:=by simp [ub]
def PP:∀v∈ub,v.oneCell'=true:=by
 intro v a;obtain⟨j,_,rfl⟩:=List.mem_map.1 a;rfl
def zy:(prog.info? 186).map (·.size)=some ub.length:=by rw [zx];kernel_rfl
def aba (r:Nat) (a:r<4294967296):bits .and .u32 (r:Int) 1=((r%2:Nat):Int):=by
 have:=u32_and_nat r 1 a (by omega);rw [Nat.and_one_is_mod] at this;exact this
def PQ (r:Nat) (c:r<4294967296):bits .xor .u32 ((r:Int) / 2) (2197175160*((r:Int)%2))=((cb r:Nat):Int):=by
 have a:((r:Int) / 2)=((r / 2:Nat):Int):=by omega
 have b:(2197175160*((r:Int)%2))=(((if r%2=1 then 2197175160 else 0):Nat):Int):=by
  split <;> omega
 rw [a,b,u32_xor_nat _ _ (by omega) (by split <;> omega)];rfl
def ad.setCells {F:Nat->Prop} {b:Nat} (a:F b):∀(c:List Value) (o:Nat) (w:World),ad F w (w.setCells b o c)
 | [],_,w=>ad.refl F w
 |v :: r,o,w=>(ad.setCell (p:=⟨b,o,none⟩) w a v).trans (ad.setCells a r (o+1) _) (λ_ h=> .inl h)
def lK {b:Nat}:∀(a:List Value) (o:Nat) (w:World),(w.setCells b o a).heap.size=w.heap.size
 | [],_,_=>rfl
 |v :: r,o,w=>by simp only [World.setCells];rw [lK r];simp [World.setCell]
def cN {P:Program} {c:Func} {p:Tmp} {b:TypeId} (h:c.results= #[.cell p b]) (a:Array Value) (w:World) (g:Nat) (cs:List Value) (d:TypeDesc)
    (f:a.getD p undef=pQ g) (e:w.rangeAt g 0 cs) (i:P.underlying b=some d) (hd:d.isRow=true) (hi:(P.info? b).map (·.size)=some cs.length):
    (results c a).run P w= .ok (.agg cs.toArray) w:=by
 have SV:a[p]?.getD undef=pQ g:=by simpa using f
 simp [results,h,SV,asAddr,run_loadVar_mid w g 0 b cs d e i hd hi]
def IS (w wr:World) (k:Nat):Prop:=
 bW w wr/\wr.heap.size=w.heap.size+2/\(∃cur:Array Value,cur.size=16/\wr.heap[w.heap.size]? =some (.cells cur 186 (0,0)))/\
  ∃cs:List Int,cs.length=16/\wr.heap[w.heap.size+1]? =some (.cells (cs.map (Value.int .u32)).toArray 186 (0,0))/\∀j,j<k->cs[j]? =some ((lX 4 j:Nat):Int)
def IS.next {wr:World} (h:IS w wr k) (g:k<16):(∃v,wr.cell? ⟨w.heap.size+1,k,none⟩=some (.int .u32 v))/\wr.frozen? ⟨w.heap.size+1,k,none⟩=false/\
  IS w (wr.setCell ⟨w.heap.size+1,k,none⟩ (.int .u32 ((lX 4 k:Nat):Int))) (k+1):=by
 obtain⟨a,f,⟨cur,b,Vm⟩,cs,d,aA,wI⟩:=h;have rP:k<cs.length:=by omega
 refine⟨⟨cs[k],aa aA (by simp [rP])⟩,ae aA k,?_,?_,⟨cur,b,?_⟩,cs.set k ((lX 4 k:Nat):Int),by simp [d],?_,?_⟩
 .exact a.trans ((ad.setCell (F:=λj=>j=w.heap.size+1) (p:=⟨w.heap.size+1,k,none⟩) wr rfl _).below (λj c=>by omega) (by omega))
 .simpa [World.setCell] using f
 .rw [Below.heap_setCell _ _ _ _ (by simp)];exact Vm
 .rw [heap_setCell_same _ _ _ _ _ _ aA];congr 2;apply Array.ext';simp [List.map_set]
 .intro j c;by_cases e:j=k
  .subst e;simp [rP]
  .rw [ZH (by omega)];exact wI j (by omega)
def IS.done {wr:World} (h:IS w wr 16):wr.rangeAt (w.heap.size+1) 0 ub/\wr.there w.heap.size 0 ub.length:=by
 obtain⟨c,f,⟨cur,d,Vm⟩,cs,e,aA,wI⟩:=h;constructor
 .intro j v b;have a:j<16:=by
   have:=(RB.1 b).1;rwa [zx] at this
  rw [Nat.zero_add];refine aa aA ?_;rw [<-b];simp [ub,wI j a,a]
 .intro j a;rw [zx] at a;rw [Nat.zero_add];exact⟨by rw [aa Vm (j:=j) (u:=cur[j]'(by omega)) (by simp [show j<cur.size by omega])];rfl,ae Vm j⟩
def Eo (w:World):
  Calls prog 154 #[] w λe w'=>e= .returned (.agg ub.toArray)/\bW w w':=by
 go_in;go_wp2;go_loopw [5] (λi wr=>∃k:Nat,k<=16/\i=iV k/\IS w wr k) (λi _=>16-(intOf i).toNat);case atStart=>
  refine⟨0,iq _,rfl,Below.alloc (Below.alloc (cW _ _) (di _) _) (by simp) _,by simp,⟨_,?_,heap_alloc2_old _ _ _⟩,List.replicate 16 0,by simp,?_,λj b=>by omega⟩
  .rfl
  .rw [heap_alloc2_new];rfl
 case round=>
  obtain⟨k,g,rfl,Lx⟩:=hrel;by_cases aS:k<16
  .have cH:(k:Int)<16:=(by omega);obtain⟨⟨n,d⟩,f,Wf⟩:=Lx.next aS;go_wp2;go_loopw [3,10] (λr i c=>∃m:Nat,m<=4/\i=iV m/\c=wr/\r= .int .u32 ((lX m k:Nat):Int)) (λ_ i _=>4-(intOf i).toNat);case atStart=>exact⟨0,iq _,rfl,rfl,rfl⟩
   case round=>
    obtain⟨m,l,rfl,rfl,rfl⟩:=hrel;have a:lX m k<4294967296:=y9 m (by omega);by_cases wJ:m<4
    .have SW:(m:Int)<4:=(by omega);have aq:=aba (lX m k) a;have bH:cb (lX m k)=lX (m+1) k:=(by rw [zb];rfl);go_wp2;go_roundw;case rel=>exact⟨m+1,by omega,by go_num,trivial,by rw [<-bH,<-(PQ (lX m k) a)]⟩
     case measure=>simp [intOf];omega
    .have SW:¬(m:Int)<4:=(by omega);have wK:m=4:=(by omega);subst wK;go_wp2;go_roundw;case rel=>exact⟨k+1,by omega,by go_num,Wf⟩
     case measure=>simp [intOf];omega
  .have cH:¬(k:Int)<16:=(by omega);have abb:k=16:=(by omega);subst abb;obtain⟨oH,cC⟩:=Lx.done;have wL:=Lx.1;have bC:=all_oneCell_toArray PP;go_wp2_with (first|refine wpList_load_mid rfl 186 _ rfl (w.heap.size+1) 0 rfl ub _ oH underlying186 rfl zy ?_|refine wpList_store_mid rfl 186 _ _ rfl w.heap.size 0 ub.toArray rfl rfl ?h1 ?h2 bC ?_);case h2=>exact Option.map_eq_some_iff.1 zy
   exact bodyPost_ret (cN (P:=prog) rfl _ _ w.heap.size ub _ rfl (World.rangeAt_setCells_same wr w.heap.size 0 ub cC) underlying186 rfl zy) rfl ⟨rfl,wL.trans ((ad.setCells (F:=λj=>j=w.heap.size) rfl ub 0 wr).below (λj b=>by omega) wL.size)⟩
def Ly (a:w.heap[g]? =some (.cells ub.toArray 186 (0,0))) (i:Nat) (hi:i<16):w.cell? (aD g i)=some (.int .u32 ((lX 4 i:Nat):Int)):=
 aa a (by simp [ub,hi])
def RE (r:Nat) (a:r<4294967296):bits .and .u32 (r:Int) 15=((r%16:Nat):Int):=by
 have:=u32_and_nat r 15 a (by omega);rw [show (15:Nat)=2 ^ 4-1 from rfl,Nat.and_two_pow_sub_one_eq_mod] at this;exact this
def Bq (r:Nat) (b:r<4294967296):bits .xor .u32 ((r:Int) / 16) ((lX 4 (r%16):Nat):Int)=((lX 4 r:Nat):Int):=by
 have a:((r:Int) / 16)=((r / 16:Nat):Int):=by omega
 rw [a,u32_xor_nat _ _ (by omega) (y9 4 (by omega)),<-PA]
def Br (b o n c:Nat) (l:List Int) (w:World) (f:Bytes l) (G:l.length=n) (H:n<=140737488355328) (q:∀i,i<n->w.cell? ⟨b,o+i,none⟩=some (.int .u8 (l.getD i 0))):
  Calls prog 153 #[.agg ub.toArray, .int .u32 4294967295, .slice (some (aD b o)) n c] w λe w'=>e= .returned (.int .u32 ((t6 4294967295 l:Nat):Int))/\bW w w':=by
 go_in;go_wp2;go_loopw [1,11] (λr i wr=>∃k:Nat,k<=n/\i=iV k/\wr=w.alloc (.cells ub.toArray 186)/\r= .int .u32 ((t6 4294967295 (l.take k):Nat):Int)) (λ_ i _=>n-(intOf i).toNat);case atStart=>exact⟨0,iq _,rfl,rfl,by simp [zc]⟩
 case round=>
  obtain⟨k,F,rfl,rfl,rfl⟩:=hrel;by_cases aS:k<n
  .have cH:(k:Int)<(n:Int):=(by omega);have m:(w.alloc (.cells ub.toArray 186)).cell? ⟨b,o+k,none⟩=some (.int .u8 (l.getD k 0)):=Lib.cell?_alloc_some _ (q k aS);have Wg:(w.alloc (.cells ub.toArray 186)).heap[w.heap.size]? =some (.cells ub.toArray 186 (0,0)):=heap_alloc_new _ _;have rP:k<l.length:=(by omega);obtain⟨x,g,dj⟩:∃x:Nat,l.getD k 0=(x:Int)/\x<256:=by
    have:=f l[k] (List.getElem_mem rP);refine⟨(l.getD k 0).toNat,?_,?_⟩<;> simp [List.getD,rP] <;> omega
   have rR:Bytes (l.take k):=λy t=>f y (List.mem_of_mem_take t);have p:t6 4294967295 (l.take k)<4294967296:=Ee (by omega) rR;have nP:t6 4294967295 (l.take (k+1))=lX 8 (t6 4294967295 (l.take k) ^^^ x):=by
    rw [List.take_succ_eq_append_getElem rP,Lh _ _ rR];congr 2;have:l.getD k 0=l[k]:=(by simp [List.getD,rP]);rw [<-this,g];simp
   rw [g] at m;generalize E:t6 4294967295 (l.take k)=R at*;have d:R ^^^ x<4294967296:=by
    have:R ^^^ x<2 ^ 32:=Nat.xor_lt_two_pow (by omega) (by omega);omega
   have u:bits .xor .u32 (R:Int) (x:Int)=((R ^^^ x:Nat):Int):=u32_xor_nat _ _ p (by omega);have I:=Ly Wg ((R ^^^ x)%16) (by omega);have v:=RE (R ^^^ x) d;have z:=Bq (R ^^^ x) d;have xI:=y9 4 d;have J:=Ly Wg (lX 4 (R ^^^ x)%16) (by omega);have A:=RE (lX 4 (R ^^^ x)) xI;have C:=Bq (lX 4 (R ^^^ x)) xI;have D:lX 4 (lX 4 (R ^^^ x))=lX 8 (R ^^^ x):=(zb 4 4 _).symm;have s:IntKind.u32.wrap (x:Int)=(x:Int):=(by rw [IntKind.wrap_u32];omega);go_wp2;go_roundw;case rel=>exact⟨k+1,by omega,by go_num,trivial,by rw [nP]⟩
   case measure=>simp [intOf];omega
  .have cH:¬(k:Int)<(n:Int):=(by omega);have a:l.take k=l:=wl (by omega);have j:(bW w (w.alloc (.cells ub.toArray 186))):=(cW _ w).alloc (di _) _;rw [a] at*;go_wp2;go_ret;exact⟨rfl,j⟩
def zA (a:Option Addr) (c:Nat) (w:World):
  Calls prog 153 #[.agg ub.toArray, .int .u32 4294967295, .slice a 0 c] w λe w'=>e= .returned (.int .u32 ((t6 4294967295 []:Nat):Int))/\bW w w':=by
 have b:(bW w (w.alloc (.cells ub.toArray 186))):=(cW _ w).alloc (di _) _;rw [zc];go_in;go_wp2;refine wp_loop_rounds 1 ?_;rw [rounds_succ];go_wp2;go_ret;exact⟨rfl,b⟩
def Bt (a:Option Addr) (n c:Nat) (l:List Int) (w:World) (f:Bytes l) (g:n<=140737488355328) (d:Src w a n l):
  Calls prog 153 #[.agg ub.toArray, .int .u32 4294967295, .slice a n c] w λe w'=>e= .returned (.int .u32 ((t6 4294967295 l:Nat):Int))/\bW w w':=by
 by_cases h0:n=0
 .subst h0;have:l= []:=Ef d.1;subst this;exact zA a c w
 .cases a with
  |none=>exact absurd (d.2.1 rfl) h0
  |some x=>
   obtain⟨b,o,rfl,k⟩:=d.spot (by omega);exact Br b o n c l w f d.1 g k
def Lz (r:Nat) (a:r<4294967296):bits .xor .u32 IntKind.u32.max (r:Int)=((r ^^^ 4294967295:Nat):Int):=by
 have e:IntKind.u32.max=((4294967295:Nat):Int):=by decide
 rw [e,u32_xor_nat _ _ (by omega) a,Nat.xor_comm]
def uc (a:Option Addr) (n c:Nat) (l:List Int) (w:World) (b:Bytes l) (d:n<=140737488355328) (f:Src w a n l):
  Calls prog 129 #[.slice a n c] w λe w'=>e= .returned (iV ((sumOf l:Nat):Int))/\bW w w':=by
 have O1:=Lz _ (Ee (r:=4294967295) (by omega) b);have s7:t6 4294967295 l ^^^ 4294967295<4294967296:=qE b;have g:wrap64 ((t6 4294967295 l ^^^ 4294967295:Nat):Int)=((t6 4294967295 l ^^^ 4294967295:Nat):Int):=by unfold wrap64;omega
 unfold sumOf;go_in;go_wp2_with fail;refine(Eo w).mono ?_;rintro e w1 ⟨rfl,aq⟩;go_wp2_with fail;refine(Bt a n c l w1 b d (f.later aq)).mono ?_;rintro e i ⟨rfl,aG⟩;go_wp2;go_ret;exact⟨rfl,aq.trans (aG.mono aq.size)⟩
structure nQ (w:World) where
 to:World
 h:bW w to
def ah {B:Nat} {a:World} (h:Below B a w):Below B a w.drew:=⟨h.os,h.tape,h.output,h.size,h.block⟩
theorem nQ.some (w:World):Nonempty (nQ w):=⟨⟨w,cW _ _⟩⟩
def tR {P:Program} {d:Nat} {Q:Exit->Act->World->Prop} {a:Act} {l:List Oper} (c:P.follows .mixedOrders=true) (b:Region.lexB .any l.toArray=true)
    (h:wpQuiet P l.toArray (λw'=>∃q:nQ w,w'=q.to) (λa'=>∀w',(∃q:nQ w,w'=q.to)->Q .normal a' w') l a):(Code.region d l.toArray true).wp P Q a w:=
 wp_region_quiet (C:=λw'=>∃q:nQ w,w'=q.to) c b ⟨⟨w.drew,ah (cW _ _)⟩,rfl⟩ (by simpa using h)
def Calls.LA {P:Program} {f:FuncId} {args:Array Value} {q:nQ w}
    (h:Calls P f args q.to λe w'=>e= .returned v/\Below q.to.heap.size q.to w'):Calls P f args q.to λe zn=>e= .returned v/\∃q':nQ w,zn=q'.to:=
 h.mono λ_ w' ⟨a,b⟩=>⟨a,⟨w',q.h.trans (b.mono q.h.size)⟩,rfl⟩
def Own (w:World) (B:Nat) (v:Value) (l:List Int):Prop:=w.ownsRow B 5 1 v l.length (bs l)
def Own.nil (w:World) (B:Nat):Own w B (.slice none 0 0) []:=⟨by simp, .inl ⟨rfl,rfl⟩⟩
def Own.src {B:Nat} (h:Own w B v l):∃a c,v= .slice a l.length c/\Src w a l.length l/\l.length<=c/\(∀x,a=some x->B<=x.block/\x.off=0):=by
 by_cases f:v= .slice none 0 0
 .subst f;have h0:l.length=0:=by
   obtain⟨_,⟨_,j⟩|⟨g,c,cur,e,_⟩⟩:=h
   .exact j
   .cases e
  obtain rfl:=Ef h0;exact⟨none,0,rfl,⟨rfl,λ_=>rfl,λx b=>by cases b⟩,di _,λx b=>by cases b⟩
 .obtain⟨g,c,rfl,i,d,_⟩:=ao.eQ h f;refine⟨some (aD g 0),c,rfl,d.src,?_,λx b=>by cases b;exact⟨i,rfl⟩⟩;have:=d.le;simpa [bs] using this
def Own.row {B:Nat} {a:Option Addr} (h:Own w B (.slice a n c) l) (h0:0<l.length):∃g,a=some (aD g 0)/\n=l.length/\B<=g/\ao w 5 g c (bs l):=by
 obtain⟨g,c',e,b,d,_⟩:=ao.eQ h (by
  intro e;cases e;obtain⟨_,⟨_,f⟩|⟨g,c,cur,e,_⟩⟩:=h
  .omega
  .cases e)
 cases e;exact⟨g,rfl,rfl,b,d⟩
def iM (a b:List Int):bs (a ++ b)=bs a ++ bs b:=List.map_append
def GG (a:List Int) (x:Int):bs a ++ [.int .u8 x]=bs (a ++ [x]):=by rw [iM];rfl
def xJ (l:List Int) (k:Nat) (h:k<l.length):l.take k ++ [l.getD k 0]=l.take (k+1):=by
 rw [List.take_succ_eq_append_getElem h];simp [List.getD,h]
def zB (h:l.take k=l'.take k) (a:k<l.length) (b:k<l'.length) (e:l.getD k 0=l'.getD k 0):l.take (k+1)=l'.take (k+1):=by
 rw [List.take_succ_eq_append_getElem a,List.take_succ_eq_append_getElem b,h];simp [List.getD,a,b] at e;rw [e]
def Ep (e:l.getD k 0≠l'.getD k 0):l≠l':=λh=>e (by rw [h])
def zC {B:Nat} {m:List Int} (h:w.ownsRow B 5 1 v k (bs l)) (a:m.length=k) (e:m=l):Own w B v m:=by
 subst e;subst a;exact h
def Wh (n:Nat) (a b:Int) (w:World):(Op.equalIn (n+1) 5 (.int .u8 a) (.int .u8 b)).run prog w= .ok (a == b) w:=by
 simp [Op.equalIn,go_sem]
def GH (xs:Array Value) (a:Nat) (v:Value) (w:World) (h:xs[a]? =some v):(part 5 xs a).run prog w= .ok v w:=run_part_plain (P:=prog) w (by kernel_rfl) h
def IT (n:Nat) (w:World) (xs c:Array Value) (j:Nat) (a b:Int) (d:List Nat) (e:xs[j]? =some (.int .u8 a)) (f:c[j]? =some (.int .u8 b)):
    (Op.eqItems (n+1) 5 1 xs c (j :: d)).run prog w=if a=b then (Op.eqItems (n+1) 5 1 xs c d).run prog w else .ok false w:=by
 simp only [Op.eqItems,Nat.mul_one,Sem.run_bind,GH xs j _ w e,GH c j _ w f,Result.andThen_ok,Wh];by_cases h:a=b
 .simp [h]
 .simp [h]
def uJ (n:Nat) (l m:List Int) (w:World):∀js:List Nat,(∀j∈js,j<l.length/\j<m.length)->
    (Op.eqItems (n+1) 5 1 (bs l).toArray (bs m).toArray js).run prog w= .ok (decide (∀j∈js,l.getD j 0=m.getD j 0)) w
 | [],_=>by simp [Op.eqItems]
 |j :: js,h=>by
  obtain⟨e,f⟩:=h j (by simp);have c:(bs l).toArray[j]? =some (.int .u8 (l.getD j 0)):=by simp [bs,List.getD,e]
  have d:(bs m).toArray[j]? =some (.int .u8 (m.getD j 0)):=by simp [bs,List.getD,f]
  rw [IT n w _ _ j _ _ js c d];by_cases a:l.getD j 0=m.getD j 0
  .rw [aN a,(uJ n l m w js (λi hi=>h i (by simp [hi])))];refine congrArg (λb=>Result.ok b w) ?_;rw [decide_eq_decide];exact⟨λk i hi=>by rcases List.mem_cons.1 hi with rfl|hi;exact a;exact k i hi,λk i hi=>k i (by simp [hi])⟩
  .rw [aB a];refine congrArg (λb=>Result.ok b w) ?_;symm;rw [decide_eq_false_iff_not];exact λk=>a (k j (by simp))
def LB {m:List Int} (a:l.length=m.length) (h:∀i,i<l.length->l.getD i 0=m.getD i 0):l=m:=by
 apply List.ext_getElem?;intro i;by_cases hi:i<l.length
 .have:=h i hi;simp only [List.getD,KR hi,KR (show i<m.length by omega),Option.getD_some] at this;rw [KR hi,KR (show i<m.length by omega),this]
 .rw [List.getElem?_eq_none (by omega),List.getElem?_eq_none (by omega)]
def Er (N n:Nat) (T:TypeId) (l m:List Int) (d:l.length=N) (e:m.length=N) (w:World) (c:prog.underlying T=some (.array N 5)):
    (Op.equalIn (n+2) T (.agg (bs l).toArray) (.agg (bs m).toArray)).run prog w= .ok (decide (l=m)) w:=by
 obtain⟨f,hi⟩:=info_of_underlying (P:=prog) underlying5;rw [run_equalIn_array (P:=prog) w (n+1) _ _ c hi];have ZK:prog.cellsOf 5=1:=by kernel_rfl
 rw [ZK,uJ n l m w _ (λj a=>by rw [List.mem_range] at a;omega)];refine congrArg (λb=>Result.ok b w) ?_;rw [decide_eq_decide];constructor
 .intro h;exact LB (by omega) (λi hi=>h i (List.mem_range.2 (by omega)))
 .rintro rfl _ _;rfl
def SX (n:Nat) (l m:List Int) (a:l.length=512) (b:m.length=512) (w:World):
    (Op.equalIn (n+2) 188 (.agg (bs l).toArray) (.agg (bs m).toArray)).run prog w= .ok (decide (l=m)) w:=
 Er 512 n 188 l m a b w underlying188
def LC:prog.eqGuardType prog.depth 188=false:=by kernel_rfl
def LD (l m:List Int) (a:l.length=512) (b:m.length=512) (w:World) (x y:Operand):
    (do eqGuard .eql 188 x y (.agg (bs l).toArray) (.agg (bs m).toArray);binOp .eql 188 (.agg (bs l).toArray) (.agg (bs m).toArray)).run prog w= .ok (.bool (decide (l=m))) w:=by
 rw [Sem.run_bind,run_eqGuard_agg (P:=prog) w .eql 188 x y _ _ LC,Result.andThen_ok];show (binOp .eql 188 (.agg (bs l).toArray) (.agg (bs m).toArray)).run prog w=_;unfold binOp Op.equal Op.maxDepth;rw [Sem.run_bind,SX 9998 l m a b w,Result.andThen_ok,Sem.run_pure]
def lg (g o i j:Nat) (w:World) (a:i<j) (f:j<=512):
  Calls prog 184 #[.pointer (some (aD g o)),iV (i:Int),iV (j:Int)] w λe w'=>e= .returned (.slice (some ⟨g,o+i,none⟩) (j-i) (j-i))/\w'=w:=by
 have b:(i:Int)<=(j:Int):=by omega
 have c:(j:Int)<=512:=by omega
 have d:¬j=i:=by omega
 go_in;go_wp2;go_ret;exact⟨rfl,rfl⟩
def LE (g o i:Nat) (w:World) (b:i<=512):
  Calls prog 184 #[.pointer (some (aD g o)),iV (i:Int),iV (i:Int)] w λe w'=>e= .returned (.slice (some (aD g o)) 0 0)/\w'=w:=by
 have a:(i:Int)<=512:=by omega
 go_in;go_wp2;go_ret;exact⟨rfl,rfl⟩
def br:Nat->Nat->List Int
 |0,_=> []
 |k+1,m=>((m%256:Nat):Int) :: br k (m / 256)
def aP:∀k m,(br k m).length=k
 |0,_=>rfl
 |k+1,m=>by simp [br,aP k]
def qL:∀k m,br (k+1) m=br k m ++ [((m / 2 ^ (8*k)%256:Nat):Int)]
 |0,m=>by simp [br]
 |k+1,m=>by
  rw [br,qL k (m / 256),br];have:m / 256 / 2 ^ (8*k)=m / 2 ^ (8*(k+1)):=by
   rw [Nat.div_div_eq_div_mul,show 8*(k+1)=8+8*k by omega,Nat.pow_add]
  simp [this]
def fW:∀k m,Bytes (br k m)
 |0,_=>by intro x a;cases a
 |k+1,m=> .cons (by omega) (fW k _)
def put (l:List Int) (o:Nat) (xs:List Int):List Int:=l.take o ++ (xs ++ l.drop (o+xs.length))
def GI {xs:List Int} {o:Nat} (h:o+xs.length<=l.length):(put l o xs).length=l.length:=by simp [put];omega
def zD (l:List Int) (o:Nat):put l o []=l:=by simp [put]
def Bu {xs:List Int} {o:Nat} (h:o+xs.length<l.length) (x:Int):(put l o xs).set (o+xs.length) x=put l o (xs ++ [x]):=by
 unfold put;have a:(l.take o).length=o:=by simp;omega
 rw [List.set_append_right _ _ (by omega),a,List.set_append_right _ _ (by omega),show o+xs.length-o-xs.length=0 by omega];have:l.drop (o+xs.length)=l[o+xs.length] :: l.drop (o+xs.length+1):=List.drop_eq_getElem_cons h;rw [this,jG];simp [Nat.add_assoc]
def gA (w:World) (T:TypeId) (g:Nat) (l:List Int):Prop:=w.heap[g]? =some (.cells (bs l).toArray T (0,0))
def gA.lt (h:gA w T g l):g<w.heap.size:=(oF.1 h).1
def gA.cell (h:gA w T g l) (hi:i<l.length):w.cell? (aD g i)=some (.int .u8 (l.getD i 0)):=
 aa h (by simp [bs,List.getD,hi])
def gA.frozen (h:gA w T g l) (i:Nat):w.frozen? (aD g i)=false:=ae h i
def gA.set (h:gA w T g l) (i:Nat) (x:Int):gA (w.setCell ⟨g,i,none⟩ (.int .u8 x)) T g (l.set i x):=by
 unfold gA;rw [heap_setCell_same _ _ _ _ _ _ h];congr 2;apply Array.ext';simp [bs,List.map_set]
def gA.ak (h:gA w T g l) (a:w'.heap[g]? =w.heap[g]?):gA w' T g l:=a.trans h
def gA.src (h:gA w T g l) {o:Nat} (b:o+n<=l.length):Src w (some (aD g o)) n ((l.drop o).take n):=
   ⟨by simp;omega,(λe=>by cases e),λx a i hi=>by
  cases a;rw [aV,h.cell (by omega)];simp [List.getD,hi]⟩
def zE (g o k c N:Nat) (T:TypeId) (l:List Int) (w:World) (d:gA w T g l) (q:k<=8) (r:o+k<=l.length):
  Calls prog 183 #[.slice (some (aD g o)) k c, .int .u64 (N:Int)] w λe w'=>e= .returned (.tuple #[])/\gA w' T g (put l o (br k N))/\ad (λj=>j=g) w w'/\w'.heap.size=w.heap.size:=by
 go_in;go_wp2;go_loopw [7] (λi wr=>∃j:Nat,j<=k/\i=iV j/\gA wr T g (put l o (br j N))/\ad (λj=>j=g) w wr/\wr.heap.size=w.heap.size) (λi _=>k-(intOf i).toNat);case atStart=>exact⟨0,iq _,rfl,by rw [br,zD];exact d,ad.refl _ _,rfl⟩
 case round=>
  obtain⟨j,n,rfl,aA,pq,fy⟩:=hrel;by_cases aS:j<k
  .have cH:(j:Int)<(k:Int):=(by omega);have a:=aP j N;have tP:=GI (l:=l) (xs:=br j N) (o:=o) (by omega);have f:=aA.cell (i:=o+j) (by omega);have m:=aA.frozen (o+j);have jf:=aA.set (o+j) ((N / 2 ^ (8*j)%256:Nat):Int);have e:=Bu (l:=l) (xs:=br j N) (o:=o) (by omega) ((N / 2 ^ (8*j)%256:Nat):Int);rw [a] at e;rw [e,<-qL] at jf;have b:=(pq.trans (ad.setCell (F:=λj=>j=g) (p:=⟨g,o+j,none⟩) wr rfl (.int .u8 ((N / 2 ^ (8*j)%256:Nat):Int))) (λ_ h=> .inl h));go_wp2;go_roundw;case rel=>exact⟨j+1,by omega,by go_num,jf,b,by simpa [World.setCell] using fy⟩
   case measure=>simp [intOf];omega
  .have cH:¬(j:Int)<(k:Int):=(by omega);obtain rfl:j=k:=(by omega);go_wp2
   go_end0
   exact⟨rfl,aA,pq,fy⟩
def SY (i A X:Nat) (c:A<2 ^ i) (h:A+2 ^ i*X<18446744073709551616):
  bits .or .u64 (A:Int) ((2 ^ i*X:Nat):Int)=((A+2 ^ i*X:Nat):Int):=by
 have q:∀z:Nat,z<18446744073709551616->(BitVec.ofInt 64 (z:Int)).toNat=z:=by
  intro z d;rw [BitVec.toNat_ofInt];omega
 have a:A<18446744073709551616:=by omega
 have b:2 ^ i*X<18446744073709551616:=by omega
 show IntKind.u64.wrap ((BitVec.ofInt 64 (A:Int) |||BitVec.ofInt 64 ((2 ^ i*X:Nat):Int)).toNat:Int)=_;rw [BitVec.toNat_or,q A a,q _ b,Nat.or_comm,<-Nat.two_pow_add_eq_or_of_lt c X,Nat.add_comm];generalize A+2 ^ i*X=Z at*;simp only [IntKind.wrap,IntKind.bits,IntKind.signed];simp;omega
def PR (x:Int) (k:Nat) (a:k<8):(x*2 ^ min ((8*(k:Int)).toNat) 64)=x*2 ^ (8*k):=by
 congr 2;omega
def mx (a:k<l.length):le (l.take (k+1))=le (l.take k)+2 ^ (8*k)*(l.getD k 0).toNat:=by
 rw [List.take_succ_eq_append_getElem a,rX];have:(l.take k).length=k:=by simp;omega
 rw [this];simp [le,List.getD,a]
def Bv (a:Bytes l) (h:l.length<=8):le l<18446744073709551616:=by
 have:=ld a;exact wu this (by have:=Nat.pow_le_pow_right (show 0<2 by omega) (show 8*l.length<=64 by omega);simpa using this)
def sb (b o n c:Nat) (l:List Int) (w:World) (d:Bytes l) (u:l.length=n) (v:n<=8) (g:∀i,i<n->w.cell? ⟨b,o+i,none⟩=some (.int .u8 (l.getD i 0))):
  Calls prog 206 #[.slice (some (aD b o)) n c] w λe w'=>e= .returned (.int .u64 ((le l:Nat):Int))/\w'=w:=by
 have m:=yh g;clear g;go_in;go_wp2;go_loopw [3,8] (λr i wr=>∃j:Nat,j<=n/\i=iV j/\wr=w/\r= .int .u64 ((le (l.take j):Nat):Int)) (λ_ i _=>n-(intOf i).toNat);case atStart=>exact⟨0,iq _,rfl,rfl,by simp [le]⟩
 case round=>
  obtain⟨j,t,rfl,rfl,rfl⟩:=hrel;by_cases aS:j<n
  .have cH:(j:Int)<(n:Int):=(by omega);have q:=m.o j aS;obtain⟨x,s,dj⟩:∃x:Nat,l.getD j 0=(x:Int)/\x<256:=by
    have:=d.getD j;exact⟨(l.getD j 0).toNat,by omega,by omega⟩
   have fP:=mx (l:=l) (k:=j) (by omega);have f:le (l.take j)<2 ^ (8*j):=by
    have:=ld (d.take j);have e:(l.take j).length=j:=(by simp;omega);rwa [e] at this
   have a:le (l.take (j+1))<18446744073709551616:=Bv (d.take _) (by simp;omega);rw [s] at q fP;simp only [t7] at fP;rw [fP] at a;have IU:=SY (8*j) _ x f a;rw [<-fP] at IU;have SZ:((x:Int)*2 ^ (8*j))=((2 ^ (8*j)*x:Nat):Int):=(by rw [Int.natCast_mul,Int.natCast_pow,Int.mul_comm];rfl);have r8:((2 ^ (8*j)*x:Nat):Int)%18446744073709551616=((2 ^ (8*j)*x:Nat):Int):=(by omega);generalize 2 ^ (8*j)*x=Y at*;generalize le (l.take j)=A at*;clear f a fP;go_wp2;go_roundw;case rel=>exact⟨j+1,by omega,by go_num,trivial,by rw [<-(yh IU).out]⟩
   case measure=>simp [intOf];omega
  .have cH:¬(j:Int)<(n:Int):=(by omega);have p:l.take j=l:=wl (by omega);rw [p] at*;go_wp2;go_ret;exact⟨rfl,rfl⟩
def my (g o:Nat) (a b:Int) (w:World) (n:w.cell? (aD g o)=some (.int .u8 a)) (p:w.cell? ⟨g,o+511,none⟩=some (.int .u8 b)):
  Calls prog 159 #[.pointer (some (aD g o))] w λe w'=>e= .returned (.int .u8 ((cG a b:Nat):Int))/\w'=w:=by
 have l:=fj a b;have S9:∀k:Nat,k<cG a b->(k:Int)=a\/(k:Int)=b:=by
  intro k d;unfold cG at d;split at d
  .omega
  .split at d
   .next c f=>omega
   .next c f=>omega
 have eM:=IP a b;generalize cG a b=t at*;go_in;go_wp2;go_loopw [3] (λi wr=>∃k:Nat,k<=t/\i= .int .u8 k/\wr=w) (λi _=>t-(intOf i).toNat);case atStart=>exact⟨0,iq _,rfl,rfl⟩
 case round=>
  obtain⟨k,d,rfl,rfl⟩:=hrel;by_cases aS:k<t
  .by_cases c:(k:Int)=a
   .have j:((k:Int) == a)=true:=(by simpa using c);go_wp2;go_roundw;case rel=>exact⟨k+1,by omega,by go_num,trivial⟩
    case measure=>simp [intOf];omega
   .have f:=(S9 k aS).resolve_left c;have j:((k:Int) == a)=false:=(by simpa using c);have m:((k:Int) == b)=true:=(by simpa using f);go_wp2;go_roundw;case rel=>exact⟨k+1,by omega,by go_num,trivial⟩
    case measure=>simp [intOf];omega
  .obtain rfl:k=t:=(by omega);have j:((k:Int) == a)=false:=(by simpa using eM.1);have m:((k:Int) == b)=false:=(by simpa using eM.2);go_wp2;go_ret;exact⟨rfl,rfl⟩
def LF (g:Nat) (T:TypeId) (l:List Int) (w:World) (d:gA w T g l) (y:l.length=512) (ey:Bytes l):
  Calls prog 185 #[pQ g] w λe w'=>e= .returned (iV ((sumOf (ua l):Nat):Int))/\bW w w':=by
 obtain⟨x,hi,iX,eR,eE⟩:=info_parts gU;have s1:=d.src (o:=1) (n:=2) (by omega);have s2:=d.src (o:=7) (n:=504) (by omega);have r:Bytes ((l.drop 1).take 2):=(ey.drop _).take _;have s:Bytes ((l.drop 7).take 504):=(ey.drop _).take _;unfold ua;generalize (l.drop 1).take 2=X at*;generalize (l.drop 7).take 504=Y at*;go_in;go_wp2_with fail;refine(lg g 0 1 3 w (by omega) (by omega)).mono ?_;rintro e w1 ⟨rfl,i⟩;have fJ:=i.symm;subst fJ;go_wp2_with fail;refine(lg g 0 7 511 w (by omega) (by omega)).mono ?_;rintro e w1 ⟨rfl,i⟩;have fJ:=i.symm;subst fJ;go_wp2_with (at_builtin;refine wpList_append_grows _ rfl _ _ 44 rfl 5 x (.int .u8 0) 1 1 underlying44 hi iX eR eE rfl (by decide) (some (aD g 1)) 2 2 (bs X) rfl ?m0 ?m1 ?m2 (aD g 7) 504 504 (bs Y) rfl ?m3 ?m4 ?m5 ?m6 ?m7 ?m8 ?_);case m0=>intro h;cases h
 case m1=>have:=s1.1;simpa [bs] using this
 case m2=>
  intro b d j u f;cases d;obtain⟨ZM,rfl⟩:=eG f;have:=s1.1;exact s1.2.2 _ rfl j (by omega)
 case m3=>have:=s2.1;simpa [bs] using this
 case m4=>
  intro j u f;obtain⟨ZM,rfl⟩:=eG f;have:=s2.1;exact s2.2.2 _ rfl j (by omega)
 case m5=>exact bD _
 case m6=>omega
 case m7=>unfold maxLen;omega
 case m8=>omega
 intro z w1 bB bS;have t:=zC (l:=X ++ Y) (by rw [iM];exact bB) (by have:=s1.1;have:=s2.1;simp;omega) rfl;obtain⟨a,c,rfl,fN,_,_⟩:=t.src;have q:=uc a (X ++ Y).length c (X ++ Y) w1 (r.append s) (by have:=s1.1;have:=s2.1;simp;omega) fN;have m:=(cW _ w).grown bS (di _) (by intro k v;cases v);generalize (X ++ Y).length=N at*;obtain⟨E,p⟩:=cF (sumOf (X ++ Y));rw [<-p] at q;go_wp2_with fail;refine ef q λA aG=>?_;go_wp2;go_ret;exact⟨by rw [<-p];rfl,m.trans (aG.mono m.size)⟩
def zs (n:Nat):List Int:=List.replicate n 0
def bN (n:Nat):(zs n).length=n:=List.length_replicate
def mz (n:Nat):zs (n+1)=0 :: zs n:=List.replicate_succ
def zF (n m:Nat):zs (n+m)=zs n ++ zs m:=by unfold zs;rw [List.replicate_append_replicate]
def aM:Array Value:=(bs (zs 512)).toArray
def GJ:(prog.info? 188).map (λi=>(i.zero,i.size))=some (some (.agg aM),512):=by kernel_rfl
def gN (w:World):(zeroValue 188).run prog w= .ok (.agg aM) w:=by
 obtain⟨i,hi,a⟩:=Option.map_eq_some_iff.1 GJ;simp only [Prod.mk.injEq] at a;simp [zeroValue,typeInfo,hi,a.1]
def zG:(prog.info? 188).map (·.size)=some 512:=by
 obtain⟨i,hi,a⟩:=Option.map_eq_some_iff.1 GJ;simp only [Prod.mk.injEq] at a;rw [hi,<-a.2];rfl
def abc (n:Nat) (h:n<65536):br 2 n= [((n%256:Nat):Int),((n / 256:Nat):Int)]:=by
 simp only [br];congr 3;omega
def abd (s:Nat):br 4 s=pI s:=by
 simp only [br,pI,Nat.div_div_eq_div_mul]
def LH (l:List Int) (x y:Int):(l ++ [x]).set l.length y=l ++ [y]:=by
 rw [List.set_append_right _ _ (di _),Nat.sub_self];rfl
def s1 (t:Int):List Int:=t :: (zs 510 ++ [t])
def Ta (t:Int):(s1 t).length=512:=by simp only [s1,List.length_cons,gT,bN,List.length_nil]
def s2 (t:Int) (n:Nat):List Int:=t :: ((n%256:Nat):Int) :: ((n / 256:Nat):Int) :: (zs 508 ++ [t])
def Tb (t:Int) (n:Nat):(s2 t n).length=512:=by simp only [s2,List.length_cons,gT,bN,List.length_nil]
def Wi (t:Int) (n:Nat) (h:n<65536):put (s1 t) 1 (br 2 n)=s2 t n:=by
 rw [abc n h];unfold s1 s2;rw [mz 509,mz 508];simp only [put,List.take_succ_cons,List.take_zero,List.length_cons,List.length_nil,List.cons_append,List.nil_append,List.drop_succ_cons,List.drop_zero]
def s3 (t:Int) (body:List Int):List Int:=t :: ((body.length%256:Nat):Int) :: ((body.length / 256:Nat):Int) :: 0 :: 0 :: 0 :: 0 :: (body ++ (List.replicate (504-body.length) 0 ++ [t]))
def LI (t:Int) (h:body.length<=504):(s3 t body).length=512:=by simp [s3];omega
def Wj (t:Int) (body:List Int) (h:body.length<=504):put (s2 t body.length) 7 body=s3 t body:=by
 unfold s2 s3;have e:(zs 508 ++ [t])=0 :: 0 :: 0 :: 0 :: (zs body.length ++ (zs (504-body.length) ++ [t])):=by
  rw [<-GC,<-zF,show body.length+(504-body.length)=504 by omega,mz 507,mz 506,mz 505,mz 504];rfl
 rw [e];simp only [put,List.take_succ_cons,List.take_zero,List.cons_append,List.nil_append];rw [show 7+body.length=body.length+7 by omega];simp only [List.drop_succ_cons];rw [List.drop_left' (bN _)];rfl
def LJ {t:Int} (a:0<=t/\t<256) (b:Bytes body) (h:body.length<=504):Bytes (s3 t body):=
   .cons a (.cons (by omega) (.cons (by omega) (.cons (by omega) (.cons (by omega) (.cons (by omega) (.cons (by omega) (b.append ((Bytes.sY _).append (.cons a .nil)))))))))
def PS (t:Int) (body:List Int) (h:body.length<=504):ua (s3 t body)=xE body:=by
 unfold ua s3 xE;simp only [List.drop_succ_cons,List.drop_zero,List.take_succ_cons,List.take_zero,List.cons_append,List.nil_append];rw [<-GC,List.take_left' (by simp;omega)]
def Wk (t:Int) (body:List Int):put (s3 t body) 3 (br 4 (sumOf (xE body)))=bc t body:=by
 rw [abd];unfold s3 bc;simp only [put,List.take_succ_cons,List.take_zero,uF,List.cons_append,List.nil_append,List.drop_succ_cons,List.drop_zero]
def Tc (l xs:List Int) (o:Nat):splice (bs l) o (bs xs)=bs (put l o xs):=by
 simp [splice,bs,put,List.map_take,List.map_drop]
def LL (w:World) (m T:TypeId) (g b fs ww:Nat) (a:Option Addr) (iL wF:Nat) (cur l:List Int) (d:gA w T g cur)
    (i:Src w a iL l) (f:iL<=fs) (oX:b+fs<=cur.length):
  ∃w2,(Builtin.copy_ #[44,44] m #[.slice (some (aD g b)) fs ww, .slice a iL wF]).run prog w= .ok (goInt iL) w2/\
   gA w2 T g (put cur b l)/\ad (λk=>k=g) w w2/\w2.heap.size=w.heap.size:=by
 have p:=i.1;by_cases h0:iL=0
 .refine⟨w,?_,?_,ad.refl _ _,rfl⟩
  .have:=run_copy_none (P:=prog) w 44 44 m 5 (some (aD g b)) a fs ww iL wF underlying44 zf (by rw [h0];exact Nat.zero_min _);rw [h0] at this⊢;exact this
  .have:l= []:=Ef (by omega);rw [this,zD];exact d
 .cases a with
  |none=>have:=i.2.1 rfl;omega
  |some x=>
   have c:(bs l).length=Nat.min iL fs:=by
    have e:Nat.min iL fs=iL:=Nat.min_eq_left f;simp only [bs,ju,e];omega
   have ct:=run_copy_row (P:=prog) w 44 44 m 5 g b fs ww x iL wF (bs cur).toArray T (bs l) underlying44 zf d c
      (λj v n=>by
     obtain⟨GD,rfl⟩:=eG n;rw [i.2.2 x rfl j (by omega)]) (by simp only [List.size_toArray];simp [bs];omega) (bD _)
   have e:(bs l).length=iL:=(by simp only [bs,ju];omega);rw [e] at ct;refine⟨_,ct,?_,⟨rfl,rfl,rfl,by simp,λk _ o=>setRow_other w g k _ o⟩,by simp⟩;unfold gA;rw [setRow_heap w g _ _ T _ d,<-Tc];simp only [splice,GC,e]
def Wl (t:Int):(aM.setIfInBounds 0 (Value.int .u8 t)).setIfInBounds 511 (Value.int .u8 t)=(bs (s1 t)).toArray:=by
 apply Array.ext';rw [Array.toList_setIfInBounds,Array.toList_setIfInBounds];unfold aM s1;show ((bs (zs 512)).set 0 (Value.int .u8 t)).set 511 (Value.int .u8 t)=bs (t :: (zs 510 ++ [t]));rw [bs,bs,<-List.map_set,<-List.map_set,mz 511,jG,jZ,zF 510 1];have:=LH (zs 510) 0 t;rw [bN] at this;have e:zs 1= [0]:=rfl;rw [e,this]
section
open Go.ChangeMaps (setBlock heap_setBlock_same heap_setBlock_other)
def Ra (v:Value):Option (DataW Value×List MemPlace):=
 match v with
 | .agg _=>some (.held v, [])
 |_=>none
def zH {d:DataW Value} {a:List MemPlace} (h:Ra v=some (d,a)):d= .held v/\a= []:=by
 unfold Ra at h;split at h
 .simp only [Option.some.injEq,Prod.mk.injEq] at h;exact⟨h.1.symm,h.2.symm⟩
 .cases h
abbrev cV (c:List Int):Value:= .agg (bs c).toArray
def Wm:Option (List Int)->Value
 |some c=>cV c
 |none=> .agg aM
def qM {a b:Value} (h:(DataW.held a:DataW Value)= .held b):a=b:=by injection h
def uK {a b:Value} (x:Bool) (w:World) (h:a=b):(Result.ok (Value.tuple #[a, .bool x]) w:Result Value)= .ok (.tuple #[b, .bool x]) w:=by rw [h]
def GK:(prog.info? 113).map (λi=>(i.zero,i.size))=some (some (.agg aM),512):=by kernel_rfl
def gO (w:World):(zeroValue 113).run prog w= .ok (.agg aM) w:=by
 obtain⟨i,hi,a⟩:=Option.map_eq_some_iff.1 GK;simp only [Prod.mk.injEq] at a;simp [zeroValue,typeInfo,hi,a.1]
structure sd (w:World) (m:Nat) (ms:CM) (D:DataW Value):Prop where
 own:w.ownsMap prog 3 Ra m ms.length D
 ZN:Maps.size D=ms.length
 key:∀kl,Maps.has D kl=true->∃k:Nat,kl=kk k/\(CM.get ms k).isSome=true
 at':∀k c,CM.get ms k=some c->Maps.has D (kk k)=true/\∀z,D.atKey (kk k) z= .held (cV c)
 no:∀k,CM.get ms k=none->Maps.has D (kk k)=false/\∀z,D.atKey (kk k) z=z
 ok:CM.Ok ms
 len:∀q∈ms,q.1<2048/\q.2.length=512/\Bytes q.2
def Ch (w:World) (m:Nat) (ms:CM):Prop:=∃D,sd w m ms D
section
variable {w w':World} {m:Nat} {ms:CM} {D:DataW Value}
def LM {a b:Nat} (h:kk a=kk b):a=b:=by
 unfold kk at h;injection h with _ h;omega
def uL (h:w.ownsMap prog 3 Ra m n D) (e:w'.heap[m]? =w.heap[m]?):w'.ownsMap prog 3 Ra m n D:=by
 obtain⟨b,a,c,d⟩:=h;exact⟨b,a,e.trans c,d⟩
def sd.agree (h:sd w m ms D) (a:w'.heap[m]? =w.heap[m]?):sd w' m ms D:=⟨uL h.own a,h.ZN,h.key,h.at',h.no,h.ok,h.len⟩
def sd.lt (h:sd w m ms D):m<w.heap.size:=h.own.lt
def Ch.lt (h:Ch w m ms):m<w.heap.size:=by obtain⟨D,h⟩:=h;exact h.lt
def Ch.ok (h:Ch w m ms):CM.Ok ms:=by obtain⟨D,h⟩:=h;exact h.ok
def Ch.len (h:Ch w m ms):∀q∈ms,q.1<2048/\q.2.length=512/\Bytes q.2:=by obtain⟨D,h⟩:=h;exact h.len
def Ch.agree (h:Ch w m ms) (a:w'.heap[m]? =w.heap[m]?):Ch w' m ms:=by obtain⟨D,h⟩:=h;exact⟨D,h.agree a⟩
def Ch.ak (h:Ch w m ms) (a:ad G w w') (b:¬G m):Ch w' m ms:=h.agree (a.block m h.lt b)
def Ch.later (h:Ch w m ms) (a:bW w w'):Ch w' m ms:=h.agree (a.block m h.lt)
def Ch.made (w:World):Ch (w.alloc (.map #[] 0)) w.heap.size []:=
   ⟨.map [],World.ownsMap_made w _ _ _,rfl,(λb h=>by simp [Maps.has] at h),(λk c h=>by cases h),(λk _=>⟨rfl,λz=>rfl⟩),List.Pairwise.nil,(λq a=>by cases a)⟩
def CM.length_le:∀{ms:CM} {n:Nat},CM.Ok ms->(∀q∈ms,q.1<n)->(∀a,(∀q∈ms,a<=q.1)->ms.length+a<=n\/ms= [])
 | [],_,_,_,_,_=> .inr rfl
 |q :: qs,n,ho,hl,a,ha=>by
  have p:=List.pairwise_cons.1 ho;have c:=hl q List.mem_cons_self;have d:=ha q List.mem_cons_self;rcases CM.length_le (n:=n) p.2 (λx b=>hl x (List.mem_cons_of_mem _ b)) (q.1+1) (λx b=>p.1 x b) with h|h
  .left;rw [List.length_cons];omega
  .left;rw [h];simp only [List.length_cons,List.length_nil];omega
def Ch.small (h:Ch w m ms):ms.length<=2048:=by
 rcases CM.length_le h.ok (λq b=>(h.len q b).1) 0 (λ_ _=>iq _) with a|a
 .omega
 .rw [a];exact iq _
def Ch.look (h:Ch w m ms) (k:Nat) (g:k<2048):
    (Instr.lookup 94 (.map (some m)) (iV (k:Int)) true).run prog w= .ok (.tuple #[Wm (CM.get ms k), .bool (CM.get ms k).isSome]) w:=by
 obtain⟨D,h⟩:=h;obtain⟨v,i,ct,a⟩:=h.own.look_ok ft underlying94 (gO w) (zd:= .held (.agg aM)) (zp:= []) rfl (kh k g);rw [ct];cases f:CM.get ms k with
 |none=>
  obtain⟨b,d⟩:=h.no k f;rw [d] at a;obtain⟨e,_⟩:=zH a;rw [b];exact uK _ _ (qM e).symm
 |some c=>
  obtain⟨b,d⟩:=h.at' k c f;rw [d] at a;obtain⟨e,_⟩:=zH a;rw [b];exact uK _ _ (qM e).symm
def Ch.read (h:Ch w m ms) (k:Nat) {c:List Int} (a:CM.get ms k=some c):
    (Instr.lookup 94 (.map (some m)) (iV (k:Int)) false).run prog w= .ok (cV c) w:=by
 obtain⟨D,h⟩:=h;obtain⟨v,e,ct,b⟩:=h.own.lookup ft underlying94 (gO w) (zd:= .held (.agg aM)) (zp:= []) rfl (kh k ((h.len _ (CM.get_mem a)).1));rw [ct];rw [(h.at' k c a).2] at b;obtain⟨d,_⟩:=zH b;exact congrArg (λz=>Result.ok z w) (qM d).symm
def Ch.store (h:Ch w m ms) (k:Nat) (r:k<2048) (c:List Int) (A:c.length=512) (y:Bytes c):
  ∃w',(Instr.mapUpdate 94 (.map (some m)) (iV (k:Int)) (cV c)).run prog w= .ok () w'/\Ch w' m (CM.put ms k c)/\ad (λb=>b=m) w w'/\w'.heap.size=w.heap.size:=by
 have PT:=h.small;obtain⟨D,h⟩:=h;obtain⟨w',ct,C,p⟩:=h.own.store ft underlying94 (by unfold maxLen;omega) (kh k r) (show Ra (cV c)=some (.held (cV c), []) from rfl);have o:=h.own.isMap;have gu:WideAt.IsKeyLit (kk k):=trivial;have se:=p.grown;have fy:Maps.size (D.put (kk k) (.held (cV c)))=(CM.put ms k c).length:=by
  rw [size_put (h.own.tidy ft),CM.Eh h.ok,h.ZN];cases f:CM.get ms k with
  |none=>rw [(h.no k f).1];rfl
  |some x=>rw [(h.at' k x f).1];rfl
 refine⟨w',ct,⟨D.put (kk k) (.held (cV c)),?_,fy,λs rP=>?_,λj x a=>?_,λj a=>?_,CM.zh h.ok _ _,λq i=>?_⟩,⟨se.os,se.tape,se.output,se.size,λb nh E=>se.block b nh (λe=>E (by injection e))⟩,?_⟩
 .obtain⟨l,d,u,v,F,n⟩:=C;refine⟨l,d,u,v,?_,n⟩;rw [<-fy,n];simp [Maps.size,length_sorted]
 .by_cases g:s=kk k
  .exact⟨k,g,by rw [CM.jK _ _ _ _ h.ok,aN rfl];rfl⟩
  .rw [has_put_other g] at rP;obtain⟨j,rfl,a⟩:=h.key s rP;refine⟨j,rfl,?_⟩;rw [CM.jK _ _ _ _ h.ok,aB (λe=>g (by rw [e]))];exact a
 .rw [CM.jK _ _ _ _ h.ok] at a;by_cases e:j=k
  .rw [aN e] at a;cases a;subst e;exact⟨has_put_same o gu _,λz=>atKey_put_same o gu _ z⟩
  .rw [aB e] at a;have eM:kk j≠kk k:=λe'=>e (LM e');exact⟨by rw [has_put_other eM];exact(h.at' j x a).1,λz=>by rw [atKey_put_other eM];exact(h.at' j x a).2 z⟩
 .rw [CM.jK _ _ _ _ h.ok] at a;by_cases e:j=k
  .rw [aN e] at a;cases a
  .rw [aB e] at a;have eM:kk j≠kk k:=λe'=>e (LM e');exact⟨by rw [has_put_other eM];exact(h.no j a).1,λz=>by rw [atKey_put_other eM];exact(h.no j a).2 z⟩
 .rcases CM.oG i with rfl|i
  .exact⟨r,A,y⟩
  .exact h.len q i
 .obtain⟨l,d,t,abe,_,e⟩:=p;rw [e];simp [setBlock]
def Ch.length (h:Ch w m ms) (a:TypeId):(Builtin.len_ #[94] a #[.map (some m)]).run prog w= .ok (iV (ms.length:Int)) w:=by
 obtain⟨D,h⟩:=h;rw [h.own.len underlying94 a,h.ZN]
def Ch.qJ (h:Ch w m ms):∃w',(∀d,(Builtin.clear_ #[94] d #[.map (some m)]).run prog w= .ok (.tuple #[]) w')/\Ch w' m []/\ad (λk=>k=m) w w'/\w'.heap.size=w.heap.size:=by
 obtain⟨D,h⟩:=h;obtain⟨g,a,b,F,_,_⟩:=h.own;refine⟨setBlock w m (.map #[] a),?_,⟨.map [],⟨#[],a,heap_setBlock_same b _,⟨by simp,?_,by simp⟩,by simp,by simp⟩,rfl,(λi h=>by simp [Maps.has] at h),(λk c h=>by cases h),(λk _=>⟨rfl,λz=>rfl⟩),List.Pairwise.nil,(λq f=>by cases f)⟩,⟨rfl,rfl,rfl,by simp [setBlock],λk _ e=>heap_setBlock_other b _ e⟩,by simp [setBlock]⟩
 .intro d;simp [Builtin.clear_,go_sem,MapKept.run_getObj_map b,MapKept.run_setObj_map _ b,setBlock]
 .exact MapKept.stamped_empty _
end
end
def DS.flush (S:DS) (s:Nat):DS:={S with im:=zq s S.now,puts:= [],flushes:=wrap64 (S.flushes+1)}
def Gv {S:DS} (h:aI w F p s S) (b:S.fuse=0):
  Calls prog 50 #[pQ p] w λe w'=>e= .returned (iV 3)/\w'=w:=by
 have a:=fM h;rw [b] at a;go_in;go_wp2_with (go_at_call 44;refine a.mono ?_;rintro e w' ⟨rfl,rfl⟩);go_ret;exact⟨rfl,rfl⟩
def Gw {S:DS} {m:Nat} {D:DataW Value} (h:aO w F p s S gi ci m D gr cr) (e:au S.puts k≠ []):
  k<s/\∃g cg,w.cell? ⟨gr k,(au S.puts k).length-1,none⟩=some (.slice (some (aD g 0)) 512 cg)/\
   ∃a,(Builtin.copy_ #[44,44] 3 #[.slice (some ⟨gi,k*512,none⟩) 512 512, .slice (some (aD g 0)) 512 cg]).run prog w= .ok (goInt 512) a/\
    aO a F p s {S with im:=splice S.im (k*512) (S.now k)} gi ci m D gr cr/\ad (λb=>b=gi) w a/\a.heap.size=w.heap.size:=by
 have iB:k<s:=by
  obtain⟨l,d⟩:=List.exists_mem_of_ne_nil _ e;unfold au at d;obtain⟨q,f,_⟩:=List.mem_map.1 d;obtain⟨lj,xI⟩:=List.mem_filter.1 f;have:=(h.ok.puts q lj).1;simp at xI;omega
 have r:=List.length_pos_iff.2 e;obtain⟨_,xs,aU,ni⟩:=h.dE.row k e;obtain⟨g,cg,n,o,eM,i⟩:=ni.get ((au S.puts k).length-1) (by omega);have d:=uA h.ok (k:=k) (j:=(au S.puts k).length-1) (by omega);have zI:S.now k=(au S.puts k)[(au S.puts k).length-1]:=by
  simp [DS.now,DS.pM,List.getD,show¬(au S.puts k).length=0 by omega,KR (show (au S.puts k).length-1<(au S.puts k).length by omega)]
 have fN:=i.src;rw [d] at fN;have c:=h.ok.len;obtain⟨a,ct,eB,aK,fy⟩:=h.IC.copied 3 (some ⟨gi,k*512,none⟩) (k*512) 512 512 (some (aD g 0)) 512 cg _ fN (λ_=>rfl) (by omega);rw [wl (by omega),<-zI] at eB;exact⟨iB,g,cg,aU.cell n,a,ct,h.SU eB (by rw [pN _ _ _ (by rw [zI];omega)];exact c) aK,aK,fy⟩
def Td (S:DS) (im:List Int) (k:Nat) (a:au S.puts k≠ []):DS.now {S with im:=im} k=S.now k:=by
 have b:=List.length_pos_iff.2 a;simp [DS.now,DS.pM,show¬(au S.puts k).length=0 by omega]
def Bw (S:DS) (k:Nat) (a:au S.puts k= []):S.now k=gW S.im k:=by simp [DS.now,DS.pM,a]
def bT {S:DS} (h:S.Ok s):∀k,k<s->(S.now k).length=512:=λ_ a=>DS.Bh h a (di _)
def KQ {wr:World} {S:DS} {m:Nat} {D:DataW Value} (h:aO w F p s S gi ci m D gr cr) (hd:aO wr F p s {S with im:=im} gi ci m D gr cr)
    (d:∀k,k<s->gW im k=S.now k) (b:ad F w wr) (wN:w3.ownsMap prog 3 Rs m 0 (.map [])) (aR:ad (λk=>k=m) wr w3):
  w3.cell? (aD p 6)=some (iV S.flushes)/\w3.frozen? (aD p 6)=false/\
  Calls prog 100 #[pQ p] (w3.setCell ⟨p,6,none⟩ (.int .i64 (wrap64 (S.flushes+1)))) λe w'=>e= .returned (.tuple #[])/\aI w' F p s ((S.flush s).iG)/\ad F w w':=by
 have e:im=zq s S.now:=Lw s hd.ok.len (uD s _ (bT h.ok)) (λk b=>by
  rw [d k b,Bj s _ (bT h.ok) k b])
 subst e;have eO:=hd.qJ wN aR;have tQ:=eO.Rz;have dF:ad F w (w3.setCell ⟨p,6,none⟩ (.int .i64 (wrap64 (S.flushes+1)))):=(b.trans aR (λj a=> .inl (a▸h.fm))).trans (ad.setCell (F:=λk=>k=p) w3 (p:=(aD p 6)) rfl _) (λj a=> .inl (a▸h.fp));refine⟨PD eO.j9,ae eO.j9 6,(xw p S.fuse _ (cJ tQ.j9) (ae tQ.j9 2) tQ.ok.fuse.1).mono ?_⟩;rintro e w' ⟨rfl,rfl⟩;have c:=tQ.Lt;exact⟨rfl,⟨gi,ci,m,_,gr,cr,c.1⟩,dF.trans c.2 (λj a=> .inl a)⟩
set_option maxRecDepth 100000 in
def OV {S:DS} (hd:aI w F p s S) (M:S.fuse≠0) (bn:S.puts.length+1<=5000000000000):
  Calls prog 50 #[pQ p] w λe w'=>e= .returned (iV 0)/\aI w' F p s ((S.flush s).iG)/\ad F w w':=by
 have C:=fM hd;rw [show (S.fuse == 0)=false by simp [M]] at C;obtain⟨o,t,m,D,f,A,h⟩:=hd;have E:=bY h.j9;have H:=h;go_in;go_wp2_with (first|(go_at_call 44;refine C.mono ?_;rintro e w' ⟨rfl,Q⟩;have fJ:=Q.symm;subst fJ)|(at_range;refine wpList_range_own _ rfl _ 126 rfl 3 70 ft underlying126 Rs m S.puts.length D rfl H.map ?_;intro w0 qH ux zl;go_frame));have Es:ad F w w0:=⟨ux.os,ux.tape,ux.output,ux.size,λk i _=>ux.block k i (by simp)⟩;have uM:=H.agree ux.size (λk i=>ux.block k (H.lt k i) (by simp));have oY:∀k,k<s->gW S.im k=if has D (kk k) then gW S.im k else S.now k:=λk _=>by
  by_cases l:au S.puts k= []
  .rw [H.dE.Be k l];simp [Bw S k l]
  .rw [H.dE.has l];simp
 go_loopw [3,4] (λ_ _ wr=>∃(left:Lit->Bool) (bf:Nat) (im:List Int),wr.ranges prog 3 Rs m w.heap.size S.puts.length D left bf/\aO wr F p s {S with im:=im} o t m D f A/\
     (∀k,k<s->gW im k=if left (kk k) then gW S.im k else S.now k)/\ad F w wr)
    (λ_ _ wr=>wr.rangeLeft m w.heap.size)
 case atStart=>exact⟨_,_,S.im,qH,uM,oY,Es⟩
 case round=>
  obtain⟨left,bf,im,jH,hd,O,i⟩:=hrel;have n:=hd;have z:=O;go_wp2_with (at_next;refine wpList_next_ranges _ rfl _ rfl 3 ft Rs (Value.int .i64) KS (λR T gu=>by obtain⟨x,rfl,_⟩:=Maps.keyOf_int_inv underlying3 gu;exact⟨x,rfl⟩) rZ m w.heap.size S.puts.length _ _ _ rfl jH ?_ ?_)
  .intro _ oY;obtain⟨y,Wc,wN,aR,_⟩:=IN n.map;have E:=bY n.j9;obtain⟨U,W,dQ⟩:=KQ H n (λk i=>by rw [z k i,oY];simp) i wN aR;go_wp2_with (go_at_call 100;refine dQ.mono ?_;rintro e X ⟨rfl,pp,cB⟩);go_ret;exact⟨rfl,pp,cB⟩
  .intro x I K J T Y Z q pL gu sX P k7 nA aS dU dQ KT;obtain⟨k,rfl,rfl,v,L⟩:=n.dE.met gu P k7;have l:au S.puts k≠ []:=v;obtain⟨d,ZO⟩:∃d,(au S.puts k).length=d+1:=⟨(au S.puts k).length-1,by have:=List.length_pos_iff.2 l;omega⟩;have abg:∀j,F j->j≠w.heap.size:=λj c e=>by have:=H.lt j c;omega
   have dS:aO q.drew F p s {S with im:=im} o t m D f A:=n.agree dU.size (λj c=>dU.block j (n.lt j c) (by simpa using abg j c));obtain⟨iB,g,r,fE,y,ct,eO,aR,II⟩:=Gw dS l;have abh:=dS.IC.le;have u:=sW p o (s*512) t s k k q.drew (aL dS.j9) rfl iB rfl dS.ok.hi (by simp [bs,dS.ok.len] at abh;omega);obtain⟨rfl,rfl,rfl⟩:I=_/\K=_/\J=_:=(by simpa using L);simp only [ZO] at KT fE;have LN:q.cell? ⟨f k,d,none⟩=some (.slice (some (aD g 0)) 512 r):=(by simpa using fE);have zJ:d+1<=S.puts.length:=(by rw [<-ZO];exact uB S.puts k);have bH:y.cell? ⟨f k,d,none⟩=some (.slice (some (aD g 0)) 512 r):=by
    obtain⟨xs,aU,_⟩:=(dS.dE.row k l).2;obtain⟨cur,Wn,_⟩:=dS.IC;exact(World.cell?_of_block (w:=q.drew) (a:=⟨f k,d,none⟩) (aR.block (f k) aU.lt (aU.ne Wn (by decide)))).trans LN
   rw [(Td S im k l)] at eO;have kX:∀j,j<s->gW (splice im (k*512) (S.now k)) j=if (left (kk j) && !(kk j).sameKey (kk k)) then gW S.im j else S.now j:=λj c=>by
    rw [Ej n.ok.len (bT H.ok k iB) iB,lf];by_cases e:j=k
    .subst e;simp
    .rw [aB e,z j c];simp [e]
   have N:=H.lt o H.Py;have xA:q.grownBy y (some o):=⟨aR.os,aR.tape,aR.output,aR.size,λj c eM=>aR.block j c (λe=>eM (by rw [e]))⟩;have Te:m≠o:=by
    obtain⟨cur,Wn,_⟩:=H.IC;exact fa H.map Wn
   have By:=nA.kept xA (by simpa using Te) (by simp;omega);have LO:=By;have Wo:q.drew.cell? ⟨f k,d,none⟩=some (.slice (some (aD g 0)) 512 r):=LN
   dsimp only [KS] at KT⊢
   have zo:(0:Int)<=(d:Int):=(by omega);have ZP:(d:Int)<(d:Int)+1:=(by omega);have LP:IntKind.i64.wrap (d:Int)=(d:Int):=(by rw [IntKind.wrap_i64];omega);go_wp2_with fail;go_region_held3 (λw'=>w'.cell? ⟨f k,d,none⟩=some (.slice (some (aD g 0)) 512 r)) (assumption) (first|(go_at_call 101;refine u.mono ?_;rintro e w' ⟨rfl,rfl⟩));all_goals
    go_wp2;go_roundw;case rel=>exact⟨_,pL,_,LO,eO,kX,(i.trans (G:=λj=>j=w.heap.size) ⟨dU.os,dU.tape,dU.output,dU.size,λj c eM=>dU.block j c (by simpa using eM)⟩ (λj c=> .inr (by omega))).trans (b:=q) (G:=λj=>j=o) ⟨aR.os,aR.tape,aR.output,aR.size,aR.block⟩ (λj c=> .inl (c▸H.Py))⟩
    case measure=>rw [LO.left_eq,jH.left_eq];exact aS
def Et {S:DS} (h:aI w F p s S) (b:Int) (a:Option Addr) (n c:Nat) (f:S.fuse=0):
  Calls prog 49 #[pQ p,iV b, .slice a n c] w λe w'=>e= .returned (iV 3)/\w'=w:=by
 have d:=fM h;rw [f] at d;go_in;go_wp2_with (go_at_call 44;refine d.mono ?_;rintro e w' ⟨rfl,rfl⟩);go_ret;exact⟨rfl,rfl⟩
def Bz {S:DS} (h:aI w F p s S) (a:Int) (i:Option Addr) (n c:Nat) (o:S.fuse≠0) (r:a<0\/(s:Int)<=a):
  Calls prog 49 #[pQ p,iV a, .slice i n c] w λe w'=>e= .returned (iV 11)/\aI w' F p s S.refuse/\ad F w w':=by
 have f:=fM h;rw [show (S.fuse == 0)=false by simp [o]] at f;obtain⟨k,d,m,D,l,j,h⟩:=h;have t:=h.ok.hi;have g:=qF p _ (s*512) d a w (by omega) (aL h.j9);rw [show s*512 / 512=s by omega,show (decide (0<=a) && decide (a<(s:Int)))=false by simp;omega] at g;have eB:Calls prog 98 #[pQ p,iV 11] w λe w'=>e= .returned (iV 11)/\aI w' F p s S.refuse/\ad F w w':=
    (pK p S.refused 11 w (IA h.j9) (ae h.j9 7)).mono (by rintro e w' ⟨rfl,rfl⟩;exact⟨rfl,⟨k,d,m,D,l,j,h.refused⟩,ad.setCell w h.fp _⟩)
 go_in;go_wp2_with (first|(go_at_call 44;refine f.mono ?_;rintro e w' ⟨rfl,b⟩;have fJ:=b.symm;subst fJ)|(go_at_call 97;refine g.mono ?_;rintro e w' ⟨rfl,b⟩;have fJ:=b.symm;subst fJ)|(go_at_call 98;refine eB.mono ?_;rintro e w' ⟨rfl,hd,q⟩));go_ret;exact⟨rfl,hd,q⟩
def zK {S:DS} (h:aI w F p s S) (k:Nat) (i:Option Addr) (n c:Nat) (q:S.fuse≠0) (g:k<s) (r:n≠512):
  Calls prog 49 #[pQ p,iV (k:Int), .slice i n c] w λe w'=>e= .returned (iV 2)/\aI w' F p s S.refuse/\ad F w w':=by
 have d:=fM h;rw [show (S.fuse == 0)=false by simp [q]] at d;obtain⟨l,b,m,D,o,j,h⟩:=h;have t:=h.ok.hi;have f:=qF p _ (s*512) b k w (by omega) (aL h.j9);rw [show s*512 / 512=s by omega,show (decide (0<=(k:Int)) && decide ((k:Int)<(s:Int)))=true by simp;omega] at f;have eB:Calls prog 98 #[pQ p,iV 2] w λe w'=>e= .returned (iV 2)/\aI w' F p s S.refuse/\ad F w w':=
    (pK p S.refused 2 w (IA h.j9) (ae h.j9 7)).mono (by rintro e w' ⟨rfl,rfl⟩;exact⟨rfl,⟨l,b,m,D,o,j,h.refused⟩,ad.setCell w h.fp _⟩)
 have eM:((n:Int) != 512)=true:=by rw [rO];omega
 go_in;go_wp2_with (first|(go_at_call 44;refine d.mono ?_;rintro e w' ⟨rfl,a⟩;have fJ:=a.symm;subst fJ)|(go_at_call 97;refine f.mono ?_;rintro e w' ⟨rfl,a⟩;have fJ:=a.symm;subst fJ)|(go_at_call 98;refine eB.mono ?_;rintro e w' ⟨rfl,hd,g⟩));go_ret;exact⟨rfl,hd,g⟩
def DS.take (S:DS):DS:={S with life:=wrap64 (S.life+1)}
def PU {S:DS} (h:aI w F p s S):
  Calls prog 42 #[pQ p] w λe w'=>e= .returned (iV (wrap64 (S.life+1)))/\aI w' F p s S.take/\ad F w w':=by
 obtain⟨c,a,m,D,d,b,h⟩:=h;refine(Lm p S.life w (jw h.j9) (ae h.j9 3)).mono ?_;rintro e w' ⟨rfl,rfl⟩;exact⟨rfl,⟨c,a,m,D,d,b,h.qG (h.set 3 _).2 ((h.set 3 _).1.trans (by simp [fV,DS.take])) rfl rfl h.ok.fuse⟩,ad.setCell w h.fp _⟩
abbrev A2 (l:List Nat):List Value:=l.map (λk:Nat=>Value.int .i64 (k:Int))
def RF (l:List Nat):(l.map (λk:Nat=>(k:Int))).map (Value.int .i64)=A2 l:=by rw [List.map_map];rfl
def LQ:Prop:=∀(g cap:Nat) (zs:List Int) (w:World),ao w 3 g cap (zs.map (Value.int .i64))->zs.length<4611686018427387904->
 Calls prog 152 #[.slice (some (aD g 0)) zs.length cap] w λe w'=>e= .returned (.tuple #[])/\ao w' 3 g cap ((zs.mergeSort λx y=>decide (x<=y)).map (Value.int .i64))/\ad (λk=>k=g) w w'
def PV:Prop:=∀(w:World),Calls prog 152 #[.slice none 0 0] w λe w'=>e= .returned (.tuple #[])/\bW w w'
end Go.Proofs.YtkiehemoiapkkaaGreat
