import Derived.Laws.BitsAllLaws
import Derived.Test.YtenlkgicpllbhaaGreatRows
import Derived.WalkKit
import Derived.WalkSpells
import Derived.WalkLawsBesides
import Derived.Below
import Derived.Laws.CopyOwn
import Derived.Lib.SliceRun
import Derived.Deep.QuietTactic
import Derived.BigQuiet
import Derived.Maps.RangeWalk
import Derived.Maps.OwnOps
import Derived.Deep.RegionHeld3
import Derived.Deep.AppendLies
set_option maxRecDepth 20000
set_option maxHeartbeats 8000000
set_option linter.all false
namespace Go.Proofs.YtenlkgicpllbhaaGreat
open Go.Proofs.Tryz
open Go.RowKit Go.Maps
variable {x:Addr} {cur:Array Value} {K:Ending->World->Prop} {im l:List Int} {ks:List Nat} {xs:List Value} {base c bZ cg ci g g2 gi i j k k0 n p q s:Nat} {db:Nat->List (List Int)} {cr gr:Nat->Nat} {F G:Nat->Prop} {a:Option Addr} {xa xb xc xd xe xf xg xh xi xj xk:Prop} {α:Type} {e e':TypeId} {u v:Value} {w w' w1 w3:World} {A:World->Prop}
def Yh (p:Prop):Prop:=p
theorem Yh.o {p:Prop} (h:Yh p):p:=h
theorem Yh.out {p:Prop} (h:Yh p):p:=h
theorem yh {p:Prop} (h:p):Yh p:=h
def cb (r:Nat):Nat:=r / 2 ^^^ (if r%2=1 then 2197175160 else 0)
def cbs:Nat->Nat->Nat
 |0,r=>r
 |n+1,r=>cbs n (cb r)
def le:List Int->Nat
 | []=>0
 |x :: t=>x.toNat+256*le t
def Bytes (l:List Int):Prop:=∀x∈l,0<=x/\x<256
theorem Ys (a b:Nat):cb (a ^^^ b)=cb a ^^^ cb b:=by
 unfold cb;have h:(a ^^^ b)%2=(a+b)%2:=by
  have e:=Nat.testBit_xor a b 0;simp only [Nat.testBit_zero] at e;rcases Nat.mod_two_eq_zero_or_one a with c|c <;> rcases Nat.mod_two_eq_zero_or_one b with d|d <;> rcases Nat.mod_two_eq_zero_or_one (a ^^^ b) with f|f <;> rw [c,d,f] at e <;> first|omega|exact absurd e (by decide)
 have hd:(a ^^^ b) / 2=a / 2 ^^^ b / 2:=Nat.xor_div_two;rw [hd];rcases Nat.mod_two_eq_zero_or_one a with c|c <;> rcases Nat.mod_two_eq_zero_or_one b with d|d
 .have:(a ^^^ b)%2=0:=by omega
  simp [c,d,this]
 .have:(a ^^^ b)%2=1:=by omega
  simp [c,d,this,Nat.xor_assoc]
 .have:(a ^^^ b)%2=1:=by omega
  simp only [c,d,this,if_true];rw [Nat.xor_assoc,Nat.xor_assoc,Nat.xor_comm (b / 2)];simp
 .have:(a ^^^ b)%2=0:=by omega
  simp only [c,d,this,if_true];rw [Nat.xor_assoc,Nat.xor_assoc,<-Nat.xor_assoc (2197175160) (b / 2),Nat.xor_comm 2197175160 (b / 2),Nat.xor_assoc (b / 2),Nat.xor_self];simp
theorem LD (n a b:Nat):cbs n (a ^^^ b)=cbs n a ^^^ cbs n b:=by
 induction n generalizing a b with
 |zero=>rfl
 |succ n c=>simp only [cbs,Ys,c]
theorem abV {r:Nat} (h:r<4294967296):cb r<4294967296:=by
 unfold cb;have:r / 2 ^^^ (if r%2=1 then 2197175160 else 0)<2 ^ 32:=Nat.xor_lt_two_pow (by omega) (by split <;> omega);omega
theorem uH (n:Nat) {r:Nat} (h:r<4294967296):cbs n r<4294967296:=by
 induction n generalizing r with
 |zero=>exact h
 |succ n a=>exact a (abV h)
theorem sY (n m r:Nat):cbs (n+m) r=cbs m (cbs n r):=by
 induction n generalizing r with
 |zero=>simp [cbs]
 |succ n a=>rw [Nat.succ_add];simp only [cbs];exact a (cb r)
theorem UB (m:Nat):cb (2*m)=m:=by
 unfold cb;have a:2*m / 2=m:=by omega
 have b:2*m%2=0:=by omega
 rw [a,b];simp
theorem LE (n m:Nat):cbs n (2 ^ n*m)=m:=by
 induction n generalizing m with
 |zero=>simp [cbs]
 |succ n a=>
  rw [Nat.pow_succ,show 2 ^ n*2*m=2*(2 ^ n*m) by rw [Nat.mul_comm (2 ^ n) 2,Nat.mul_assoc],cbs,UB,a]
theorem LF (i a b:Nat) (h:b<2 ^ i):b+2 ^ i*a=b ^^^ 2 ^ i*a:=by
 apply Nat.eq_of_testBit_eq;intro j;rw [Nat.add_comm,Nat.testBit_two_pow_mul_add a h j,Nat.testBit_xor,Nat.testBit_two_pow_mul];by_cases c:j<i
 .simp [c,show¬i<=j by omega]
 .have:b.testBit j=false:=Nat.testBit_lt_two_pow (Nat.lt_of_lt_of_le h (Nat.pow_le_pow_right (by decide) (by omega)));simp [c,this,show i<=j by omega]
theorem UC (r:Nat):cbs 4 r=r / 16 ^^^ cbs 4 (r%16):=by
 have h:r=r%16 ^^^ 2 ^ 4*(r / 16):=by
  rw [<-LF 4 (r / 16) (r%16) (by omega)];omega
 conv=>lhs;rw [h,LD,LE]
 exact Nat.xor_comm _ _
def mX (r:Nat) (l:List Int):Nat:=cbs (8*l.length) (r ^^^ le l)
def sumOf (l:List Int):Nat:=mX 4294967295 l ^^^ 4294967295
theorem lg (h:Bytes l):le l<2 ^ (8*l.length):=by
 induction l with
 |nil=>simp [le]
 |cons x t b=>
  have c:=h x (by simp);have d:=b (λy a=>h y (by simp [a]));simp only [le,List.length_cons];rw [show 8*(t.length+1)=8*t.length+8 by omega,Nat.pow_add];have:x.toNat<256:=by omega
  omega
theorem uI (a b:List Int):le (a ++ b)=le a+2 ^ (8*a.length)*le b:=by
 induction a with
 |nil=>simp [le]
 |cons x t c=>
  simp only [List.cons_append,le,c,List.length_cons];rw [show 8*(t.length+1)=8*t.length+8 by omega,Nat.pow_add,Nat.mul_add];rw [show 2 ^ (8*t.length)*2 ^ 8*le b=256*(2 ^ (8*t.length)*le b) by rw [Nat.mul_comm (2 ^ (8*t.length)) (2 ^ 8),Nat.mul_assoc]];omega
theorem Jc {a:List Int} (b:List Int) (h:Bytes a):le (a ++ b)=le a ^^^ 2 ^ (8*a.length)*le b:=by
 rw [uI,LF _ _ _ (lg h)]
theorem sZ (r:Nat):mX r []=r:=by simp [mX,cbs,le]
theorem xV (r:Nat) {a:List Int} (b:List Int) (h:Bytes a):mX r (a ++ b)=mX (mX r a) b:=by
 unfold mX;rw [Jc b h,List.length_append,Nat.mul_add,sY,<-Nat.xor_assoc,LD (8*a.length),LE]
theorem xW (r:Nat) {a:List Int} (x:Int) (h:Bytes a):mX r (a ++ [x])=cbs 8 (mX r a ^^^ x.toNat):=by
 rw [xV r _ h];simp [mX,le]
theorem rT {r:Nat} (c:r<4294967296) (h:Bytes l):mX r l<4294967296:=by
 induction l generalizing r with
 |nil=>simpa [sZ] using c
 |cons x t e=>
  have d:=h x (by simp);have b:Bytes [x]:=λy a=>by simp at a;subst a;exact d
  rw [show x :: t= [x] ++ t from rfl,xV r t b];refine e ?_ (λy a=>h y (by simp [a]));have:r ^^^ x.toNat<2 ^ 32:=Nat.xor_lt_two_pow (by omega) (by omega);simpa [mX,le] using uH 8 (r:=r ^^^ x.toNat) (by omega)
theorem ng (h:Bytes l):sumOf l<4294967296:=by
 have:mX 4294967295 l ^^^ 4294967295<2 ^ 32:=Nat.xor_lt_two_pow (by have:=rT (r:=4294967295) (by omega) h;omega) (by omega);unfold sumOf;omega
def nV (s:Nat):List Int:= [((s%256:Nat):Int),((s / 256%256:Nat):Int),((s / 65536%256:Nat):Int),((s / 16777216%256:Nat):Int)]
abbrev iV (x:Int):Value:= .int .i64 x
abbrev pQ (b:Nat):Value:= .pointer (some ⟨b,0,none⟩)
abbrev aD (b o:Nat):Addr:=⟨b,o,none⟩
abbrev bW (w v:World):Prop:=Below w.heap.size w v
theorem aF {a b:Prop} (x:a) (y:b):a/\b:=⟨x,y⟩
theorem gu {l:List α} {a:α} (h:l[i]? =some a):a∈l:=List.mem_of_getElem? h
theorem dT {a b:List α}:(a++b).length=a.length+b.length:=List.length_append
theorem bP (n:Nat):n<=n:=Nat.le_refl n
theorem iP {m:Nat} (h:n<m) (g:m<=k):n<k:=Nat.lt_of_lt_of_le h g
theorem mG {l:List α} {a:α}:l[i]? =some a↔∃h:i<l.length,l[i]=a:=List.getElem?_eq_some_iff
theorem dU (n:Nat):0<=n:=Nat.zero_le n
theorem bi (B:Nat) (w:World):Below B w w:=Below.refl B w
theorem Bd {β:Type} {f:α->β} {l:List α}:(l.map f)[i]? =Option.map f l[i]? :=List.getElem?_map
theorem aE {c:Prop} {i:Decidable c} {a b:α} (h:c):(if c then a else b)=a:=if_pos h
theorem aA {c:Prop} {i:Decidable c} {a b:α} (h:¬c):(if c then a else b)=b:=if_neg h
theorem eG [BEq α] [LawfulBEq α] {a b:α}:(a==b)=false↔a≠b:=beq_eq_false_iff_ne
theorem fT [BEq α] [LawfulBEq α] {a b:α}:(a !=b)=true↔a≠b:=bne_iff_ne
theorem kN {l:Array α} {a:α}:l[i]? =some a↔∃h:i<l.size,l[i]=a:=Array.getElem?_eq_some_iff
theorem nh {l:List α} (h:l.length<=i):l.take i=l:=List.take_of_length_le h
theorem jQ {m:Nat} (h:n<=m) (g:m<=k):n<=k:=Nat.le_trans h g
theorem fW:(prog.info? 5).map (λi=>(i.zero,i.size,i.bytes))=some (some (.int .u8 0),1,1):=by kernel_rfl
theorem aK (g o i:Nat):((aD g o):Addr).add i=⟨g,o+i,none⟩:=by
 unfold Addr.add;split <;> simp_all
abbrev bs (l:List Int):List Value:=l.map (Value.int .u8)
def ay (w:World) (e:TypeId) (g c:Nat) (xs:List Value):Prop:=
 ∃cur,w.heap[g]? =some (.cells cur e (0,0))/\cur.size=c/\cur.toList.take xs.length=xs/\c<=maxLen
theorem ay.lt (h:ay w e g c xs):g<w.heap.size:=by
 obtain⟨cur,a,_⟩:=h;exact(kN.1 a).1
theorem ay.le (h:ay w e g c xs):xs.length<=c:=by
 obtain⟨cur,_,rfl,a,_⟩:=h;have:=congrArg List.length a;simp at this;omega
theorem ay.max (h:ay w e g c xs):c<=maxLen:=by
 obtain⟨cur,_,_,_,h⟩:=h;exact h
theorem ay.cell (h:ay w e g c xs) (a:xs[j]? =some u):w.cell? (aD g j)=some u:=by
 obtain⟨cur,b,_,f,_⟩:=h;simp only [World.cell?,b];have d:=(mG.1 a).1;rw [<-f,List.getElem?_take] at a;rw [aE d] at a;simpa using a
theorem ay.byte (h:ay w e g c (bs l)) (a:i<l.length):w.cell? (((aD g 0):Addr).add i)=some (.int .u8 (l.getD i 0)):=by
 rw [aK,Nat.zero_add];exact h.cell (by simp [bs,List.getD,List.getElem?_eq_getElem a])
theorem ay.frozen (h:ay w e g c xs) (j:Nat):w.frozen? (aD g j)=false:=by
 obtain⟨cur,a,_⟩:=h;simp [World.frozen?,a]
theorem ay.agree (h:ay w e g c xs) (d:w'.heap[g]? =w.heap[g]?):ay w' e g c xs:=by
 obtain⟨cur,a,b⟩:=h;exact⟨cur,d.trans a,b⟩
theorem ay.owns (h:ay w e g c xs):w.ownsRow 0 e 1 (.slice (some (aD g 0)) xs.length c) xs.length xs:=by
 have a:=h.le;obtain⟨cur,b,d,i,f⟩:=h;exact⟨by simp, .inr ⟨g,c,cur,rfl,dU _,b,a,f,by simpa using d,by simpa using i⟩⟩
theorem ay.eW (h:w.ownsRow base e 1 v n xs) (k:v≠ .slice none 0 0):
  ∃g c,v= .slice (some (aD g 0)) n c/\base<=g/\ay w e g c xs/\xs.length=n:=by
 obtain⟨a,⟨rfl,_⟩|⟨g,c,cur,rfl,i,f,l,j,b,d⟩⟩:=h
 .exact absurd rfl k
 .simp only [Nat.mul_one] at a b d;exact⟨g,c,rfl,i,⟨cur,f,b,by rw [a];exact d,j⟩,a⟩
structure aa (F:Nat->Prop) (w w':World):Prop where
 os:w'.os=w.os
 tape:w'.tape=w.tape
 output:w'.output=w.output
 size:w.heap.size<=w'.heap.size
 block:∀k,k<w.heap.size->¬F k->w'.heap[k]? =w.heap[k]?
def more (F:Nat->Prop) (w w':World):Nat->Prop:=λk=>F k\/(w.heap.size<=k/\k<w'.heap.size)
theorem aa.refl (F:Nat->Prop) (w:World):aa F w w:=⟨rfl,rfl,rfl,bP _,λ_ _ _=>rfl⟩
theorem aa.trans {a b c:World} (h:aa F a b) (k:aa G b c) (g:∀j,G j->F j\/a.heap.size<=j):aa F a c:=
   ⟨k.os.trans h.os,k.tape.trans h.tape,k.output.trans h.output,jQ h.size k.size,λi e f=>
    (k.block i (iP e h.size) (λl=>by rcases g i l with d|d;exact f d;omega)).trans (h.block i e f)⟩
theorem aa.ah (F:Nat->Prop) (h:bW w w'):aa F w w':=⟨h.os,h.tape,h.output,h.size,λk a _=>h.block k a⟩
theorem aa.below {B:Nat} (h:aa F w w') (a:∀k,F k->B<=k) (c:B<=w.heap.size):Below B w w':=
   ⟨h.os,h.tape,h.output,h.size,λk d=>h.block k (by omega) (λb=>by have:=a k b;omega)⟩
theorem aa.mono (h:aa F w w') (a:∀k,F k->G k):aa G w w':=⟨h.os,h.tape,h.output,h.size,λk c d=>h.block k c (λb=>d (a k b))⟩
theorem aa.setCell (w:World) {p:Addr} (b:F p.block) (u:Value):aa F w (w.setCell p u):=
   ⟨rfl,rfl,rfl,by simp [World.setCell],λk _ a=>Below.heap_setCell w p u k (λe=>a (e▸b))⟩
theorem aa.alloc (F:Nat->Prop) (w:World) (o:Obj):aa F w (w.alloc o):=aa.ah F ((bi _ _).alloc (bP _) _)
theorem mH (w:World) (a:Addr) (v:Value):w.grownBy (w.setCell a v) (some a.block):=
   ⟨rfl,rfl,rfl,by simp [World.setCell],λk _ b=>Below.heap_setCell w a v k (λe=>b (by rw [e]))⟩
theorem aj (a:w.heap[g]? =some (.cells cur e (0,0))) (b:cur[j]? =some u):w.cell? (aD g j)=some u:=by
 simp only [World.cell?,a];simpa using b
theorem ae (a:w.heap[g]? =some (.cells cur e (0,0))) (j:Nat):w.frozen? (aD g j)=false:=by
 simp [World.frozen?,a]
def Src (w:World) (a:Option Addr) (n:Nat) (l:List Int):Prop:=
 l.length=n/\(a=none->n=0)/\∀x,a=some x->∀i,i<n->w.cell? (x.add i)=some (.int .u8 (l.getD i 0))
theorem Src.at (h:Src w (some x) n l) (a:i<n):w.cell? (x.add i)=some (.int .u8 (l.getD i 0)):=h.2.2 x rfl i a
theorem ay.src (h:ay w e g c (bs l)):Src w (some (aD g 0)) l.length l:=
   ⟨rfl,(λh=>by cases h),λx b i a=>by cases b;exact h.byte a⟩
theorem Src.spot (h:Src w (some x) n l) (c:0<n):∃b o,x=(aD b o)/\∀i,i<n->w.cell? ⟨b,o+i,none⟩=some (.int .u8 (l.getD i 0)):=by
 obtain⟨b,o,e⟩:=x;have h0:=h.2.2 _ rfl 0 c;have d:e=none:=by simpa [Addr.add] using World.cell?_spot h0
 subst d;exact⟨b,o,rfl,λi a=>by have:=h.2.2 _ rfl i a;rwa [aK] at this⟩
theorem Src.later (h:Src w a n l) (b:bW w w'):Src w' a n l:=
   ⟨h.1,h.2.1,λx d i c=>cell_later b (h.2.2 x d i c)⟩
theorem lJ (az:w1.ownsRow base 5 1 (.slice (some (aD g 0)) n n) n (madeCells #[Value.int .u8 0] n).toList):
  ay w1 5 g n (bs (List.replicate n 0)):=by
 obtain⟨d,c,b,_,a,_⟩:=ay.eW az (by simp);cases b;have e:(madeCells #[Value.int .u8 0] n).toList=bs (List.replicate n 0):=by rw [toList_madeCells_one];simp [bs]
 rw [e] at a;exact a
theorem Df:(prog.info? 5).map (·.size)=some 1:=by kernel_rfl
theorem fq (h:(bs l)[j]? =some v):j<l.length/\v= .int .u8 (l.getD j 0):=by
 have a:j<l.length:=by
  have:=(mG.1 h).1;simpa [bs] using this
 simp [bs,List.getElem?_eq_getElem a] at h;exact⟨a,by simp [List.getD,List.getElem?_eq_getElem a,h]⟩
theorem cB (l:List Int):∀v∈bs l,v.oneCell'=true:=by
 intro v a;obtain⟨x,_,rfl⟩:=List.mem_map.1 a;rfl
theorem ay.full (h:ay w e g c xs) (d:xs.length=c):w.heap[g]? =some (.cells xs.toArray e (0,0)):=by
 obtain⟨cur,a,f,b,_⟩:=h;have:cur.toList=xs:=by
  rw [<-b,nh (by simp;omega)]
 rw [a,<-this]
theorem ay.xp (h:w.heap[g]? =some (.cells xs.toArray e (0,0))) (a:xs.length<=maxLen):ay w e g xs.length xs:=
   ⟨xs.toArray,h,by simp,by simp,a⟩
theorem xX (w:World) (m:TypeId) (d:Option Addr) (g c gN Be:Nat) (a:Option Addr) (jR Bf:Nat) (cur:List Value) (l:List Int) (f:w.heap[g]? =some (.cells cur.toArray 5 (0,0)))
    (i:Src w a jR l) (hd:0<gN->d=some (aD g c)) (Fo:c+gN<=cur.length):
  ∃w2,(Builtin.copy_ #[36,36] m #[.slice d gN Be, .slice a jR Bf]).run prog w= .ok (goInt (Nat.min jR gN)) w2/\
   w2.heap[g]? =some (.cells (splice cur c (bs (l.take gN))).toArray 5 (0,0))/\aa (λk=>k=g) w w2/\w2.heap.size=w.heap.size:=by
 have r:=i.1;have q:Nat.min jR gN=min jR gN:=rfl;by_cases h0:min jR gN=0
 .refine⟨w,?_,?_,aa.refl _ _,rfl⟩
  .rw [q,h0];exact run_copy_none (P:=prog) w _ _ m 5 d a gN Be jR Bf underlying36 Df h0
  .have e:bs (l.take gN)= []:=by
    have:(bs (l.take gN)).length=0:=(by simp only [bs,List.length_map,List.length_take];omega);exact List.eq_nil_of_length_eq_zero this
   rw [e,f];simp [splice]
 .have n:0<jR/\0<gN:=by omega
  obtain rfl:=hd n.2;cases a with
  |none=>have:=i.2.1 rfl;omega
  |some x=>
   have b:(bs (l.take gN)).length=Nat.min jR gN:=by
    simp only [bs,List.length_map,List.length_take];omega
   have bC:=run_copy_row (P:=prog) w 36 36 m 5 g c gN Be x jR Bf cur.toArray 5 (bs (l.take gN)) underlying36 Df f b
      (λj v o=>by
     obtain⟨AX,rfl⟩:=fq o;have Yt:j<gN/\j<l.length:=(by simp only [List.length_take] at AX;omega);rw [i.2.2 x rfl j (by omega)];simp [List.getD,Yt.1]) (by simp only [List.size_toArray,b];omega) (cB _)
   rw [b] at bC;refine⟨_,bC,?_,⟨rfl,rfl,rfl,by simp,λk _ p=>setRow_other w g k _ p⟩,by simp⟩;rw [setRow_heap w g _ _ 5 _ f];simp only [splice,b,List.append_assoc]
theorem ku (x:Addr) (n:Nat):(x.add n).block=x.block:=by unfold Addr.add;split <;> rfl
theorem Src.old {W:World} (h:Src W a n l):∀x,a=some x->0<n->x.block<W.heap.size:=λx c b=>by
 have:=World.block_lt_of_cell? _ _ (h.2.2 x c 0 b);rwa [ku] at this
theorem aL {a:Value} {l:List Value} (h:w.heap[g]? =some (.cells (List.toArray (a::l)) e (0,0))):w.cell? (aD g 0)=some a:=aj h rfl
theorem bD {b a:Value} {l:List Value} (h:w.heap[g]? =some (.cells (List.toArray (b::a::l)) e (0,0))):w.cell? (aD g 1)=some a:=aj h rfl
theorem bH {b c a:Value} {l:List Value} (h:w.heap[g]? =some (.cells (List.toArray (b::c::a::l)) e (0,0))):w.cell? (aD g 2)=some a:=aj h rfl
theorem fI {b c d a:Value} {l:List Value} (h:w.heap[g]? =some (.cells (List.toArray (b::c::d::a::l)) e (0,0))):w.cell? (aD g 3)=some a:=aj h rfl
theorem gz {b c d f a:Value} {l:List Value} (h:w.heap[g]? =some (.cells (List.toArray (b::c::d::f::a::l)) e (0,0))):w.cell? (aD g 4)=some a:=aj h rfl
theorem rU {b c d f i a:Value} {l:List Value} (h:w.heap[g]? =some (.cells (List.toArray (b::c::d::f::i::a::l)) e (0,0))):w.cell? (aD g 5)=some a:=aj h rfl
theorem wG {b c d f i j a:Value} {l:List Value} (h:w.heap[g]? =some (.cells (List.toArray (b::c::d::f::i::j::a::l)) e (0,0))):w.cell? (aD g 6)=some a:=aj h rfl
theorem ri {b c d f i j k a:Value} {l:List Value} (h:w.heap[g]? =some (.cells (List.toArray (b::c::d::f::i::j::k::a::l)) e (0,0))):w.cell? (aD g 7)=some a:=aj h rfl
theorem Dg {b c d f i j k m a:Value} {l:List Value} (h:w.heap[g]? =some (.cells (List.toArray (b::c::d::f::i::j::k::m::a::l)) e (0,0))):w.cell? (aD g 8)=some a:=aj h rfl
theorem ahp {b c d f i j k m n a:Value} {l:List Value} (h:w.heap[g]? =some (.cells (List.toArray (b::c::d::f::i::j::k::m::n::a::l)) e (0,0))):w.cell? (aD g 9)=some a:=aj h rfl
theorem bQ (a:α):∃x,x=a:=⟨_,rfl⟩
theorem zEr (a:α):∃x,a=x:=⟨_,rfl⟩
theorem bE {P:Program} {f:FuncId} {a:Array Value} {V:Ending} (h:Calls P f a w λe v=>e=V/\A v) (k:∀v,A v->K V v):Calls P f a w K:=h.mono (by rintro e v ⟨rfl,x⟩;exact k v x)
theorem fk {P:Program} {f:FuncId} {a:Array Value} {V:Ending} {B:World->Prop} (h:Calls P f a w λe v=>e=V/\A v/\B v) (k:∀v,A v->B v->K V v):Calls P f a w K:=h.mono (by rintro e v ⟨rfl,x,y⟩;exact k v x y)
theorem oX {P:Program} {f:FuncId} {a:Array Value} {V:Ending} {B C:World->Prop} (h:Calls P f a w λe v=>e=V/\A v/\B v/\C v) (k:∀v,A v->B v->C v->K V v):Calls P f a w K:=h.mono (by rintro e v ⟨rfl,x,y,z⟩;exact k v x y z)
theorem jw (a:xa) (b:xb) (c:xc):xa/\xb/\xc:=⟨a,b,c⟩
theorem cM (a:xa) (b:xb) (c:xc) (d:xd):xa/\xb/\xc/\xd:=⟨a,b,c,d⟩
theorem ey (a:xa) (b:xb) (c:xc) (d:xd) (e:xe):xa/\xb/\xc/\xd/\xe:=⟨a,b,c,d,e⟩
theorem kQ (a:xa) (b:xb) (c:xc) (d:xd) (e:xe) (f:xf):xa/\xb/\xc/\xd/\xe/\xf:=⟨a,b,c,d,e,f⟩
theorem nW (a:xa) (b:xb) (c:xc) (d:xd) (e:xe) (f:xf) (g:xg):xa/\xb/\xc/\xd/\xe/\xf/\xg:=⟨a,b,c,d,e,f,g⟩
theorem rV (a:xa) (b:xb) (c:xc) (d:xd) (e:xe) (f:xf) (g:xg) (i:xh):xa/\xb/\xc/\xd/\xe/\xf/\xg/\xh:=⟨a,b,c,d,e,f,g,i⟩
theorem UD (a:xa) (b:xb) (c:xc) (d:xd) (e:xe) (f:xf) (g:xg) (i:xh) (j:xi):xa/\xb/\xc/\xd/\xe/\xf/\xg/\xh/\xi:=⟨a,b,c,d,e,f,g,i,j⟩
theorem vH (a:xa) (b:xb) (c:xc) (d:xd) (e:xe) (f:xf) (g:xg) (i:xh) (j:xi) (k:xj):xa/\xb/\xc/\xd/\xe/\xf/\xg/\xh/\xi/\xj:=⟨a,b,c,d,e,f,g,i,j,k⟩
theorem LH (a:xa) (b:xb) (c:xc) (d:xd) (e:xe) (f:xf) (g:xg) (i:xh) (j:xi) (k:xj) (l:xk):xa/\xb/\xc/\xd/\xe/\xf/\xg/\xh/\xi/\xj/\xk:=⟨a,b,c,d,e,f,g,i,j,k,l⟩
theorem BU {a:Prop} (b:xa) (c:xb) (d:xc) (e:xd) (f:xe) (g:xf) (i:xg) (j:xh) (k:xi) (l:xj) (m:xk) (n:a):xa/\xb/\xc/\xd/\xe/\xf/\xg/\xh/\xi/\xj/\xk/\a:=⟨b,c,d,e,f,g,i,j,k,l,m,n⟩
theorem bL (a:xa) (b:xb):Yh xa/\Yh xb:=⟨a,b⟩
theorem jS (a:xa) (b:xb) (c:xc):Yh xa/\Yh xb/\Yh xc:=⟨a,b,c⟩
theorem Bg (a:xa) (b:xb) (c:xc) (d:xd):Yh xa/\Yh xb/\Yh xc/\Yh xd:=⟨a,b,c,d⟩
theorem UE (a:xa) (b:xb) (c:xc) (d:xd) (e:xe):Yh xa/\Yh xb/\Yh xc/\Yh xd/\Yh xe:=⟨a,b,c,d,e⟩
theorem Yu (a:xa) (b:xb) (c:xc) (d:xd) (e:xe) (f:xf):Yh xa/\Yh xb/\Yh xc/\Yh xd/\Yh xe/\Yh xf:=⟨a,b,c,d,e,f⟩
theorem abW (a:xa) (b:xb) (c:xc) (d:xd) (e:xe) (f:xf) (g:xg):Yh xa/\Yh xb/\Yh xc/\Yh xd/\Yh xe/\Yh xf/\Yh xg:=⟨a,b,c,d,e,f,g⟩
theorem ahq (a:xa) (b:xb) (c:xc) (d:xd) (e:xe) (f:xf) (g:xg) (i:xh):Yh xa/\Yh xb/\Yh xc/\Yh xd/\Yh xe/\Yh xf/\Yh xg/\Yh xh:=⟨a,b,c,d,e,f,g,i⟩
theorem abX (a:xa) (b:xb) (c:xc) (d:xd) (e:xe) (f:xf) (g:xg) (i:xh) (j:xi) (k:xj):Yh xa/\Yh xb/\Yh xc/\Yh xd/\Yh xe/\Yh xf/\Yh xg/\Yh xh/\Yh xi/\Yh xj:=⟨a,b,c,d,e,f,g,i,j,k⟩
theorem td:(prog.info? 36).map (λi=>(i.zero,i.size,i.bytes))=some (some (.slice none 0 0),1,24):=by kernel_rfl
theorem Dh:(prog.info? 3).map (λi=>(i.zero,i.size,i.bytes))=some (some (iV 0),1,8):=by kernel_rfl
abbrev bG (im db:Value) (fuse life r wr fl rf:Int):Array Value:=
   #[im,db,iV fuse,iV life,iV r,iV wr,iV fl,iV rf,iV 0]
theorem Fp (a:Option Addr) (n c:Nat) (w:World):
  Calls prog 45 #[.slice a n c] w λe w'=>e= .returned (.pointer (some ⟨w.heap.size+1,0,none⟩))/\
   w'=(w.alloc (.map #[] 0)).alloc (.cells (bG (.slice a n c) (.map (some w.heap.size)) (-1) 1 0 0 0 0) 106):=by
 have BV:= @run_makeMap prog;go_in;go_wp2;go_ret;exact⟨rfl,rfl⟩
theorem uJ (p:Nat) (a:Int) (w:World) (b:w.cell? (aD p 2)=some (iV a)):
  Calls prog 35 #[pQ p] w λe w'=>e= .returned (.bool (a == 0))/\w'=w:=by
 go_in;go_wp2;go_ret;exact⟨rfl,rfl⟩
theorem PA (p:Nat) (a:Int) (w:World) (b:w.cell? (aD p 3)=some (iV a)):
  Calls prog 22 #[pQ p] w λe w'=>e= .returned (iV a)/\w'=w:=by
 go_in;go_wp2;go_ret;exact⟨rfl,rfl⟩
theorem vI (p:Nat) (a:Option Addr) (n c:Nat) (w:World) (d:n<=1048576) (b:w.cell? (aD p 0)=some (.slice a n c)):
  Calls prog 47 #[pQ p] w λe w'=>e= .returned (iV ((n / 512:Nat):Int))/\w'=w:=by
 go_in;go_wp2;go_ret;exact⟨by go_num,rfl⟩
theorem te (p:Nat) (a:Option Addr) (n c:Nat) (b:Int) (w:World) (f:n<=1048576) (d:w.cell? (aD p 0)=some (.slice a n c)):
  Calls prog 94 #[pQ p,iV b] w λe w'=>e= .returned (.bool (decide (0<=b) && decide (b<((n / 512:Nat):Int))))/\w'=w:=by
 by_cases h0:0<=b
 .go_in;go_wp2_with (go_at_call 47;refine(vI _ _ _ _ _ f d).mono ?_;rintro e w' ⟨rfl,rfl⟩);go_ret;exact⟨by simp [h0],rfl⟩
 .go_in;go_wp2;go_ret;exact⟨by simp;omega,rfl⟩
theorem rW (p:Nat) (b a:Int) (w:World) (c:w.cell? (aD p 7)=some (iV b)) (d:w.frozen? (aD p 7)=false):
  Calls prog 95 #[pQ p,iV a] w λe w'=>e= .returned (iV a)/\w'=w.setCell ⟨p,7,none⟩ (.int .i64 (wrap64 (b+1))):=by
 go_in;go_wp2;go_ret;exact⟨rfl,rfl⟩
theorem BW (p:Nat) (a:Int) (w:World) (b:w.cell? (aD p 2)=some (iV a)) (c:w.frozen? (aD p 2)=false) (d: -1<=a):
  Calls prog 106 #[pQ p] w λe w'=>e= .returned (.tuple #[])/\w'=if 0<a then w.setCell ⟨p,2,none⟩ (.int .i64 (wrap64 (a-1))) else w:=by
 by_cases h:0<a
 .go_in;go_wp2
  go_end0
  exact⟨rfl,rfl⟩
 .go_in;go_wp2
  go_end0
  exact⟨rfl,rfl⟩
theorem PB (p:Nat) (a:Int) (w:World) (b:w.cell? (aD p 3)=some (iV a)) (c:w.frozen? (aD p 3)=false):
  Calls prog 48 #[pQ p] w λe w'=>e= .returned (iV (wrap64 (a+1)))/\w'=w.setCell ⟨p,3,none⟩ (.int .i64 (wrap64 (a+1))):=by
 go_in;go_wp2;go_ret;exact⟨rfl,rfl⟩
theorem TN (p:Nat) (b a:Int) (w:World) (c:w.cell? (aD p 2)=some (iV b)) (f:w.frozen? (aD p 2)=false):
  Calls prog 26 #[pQ p,iV a] w λe w'=>e= .returned (.tuple #[])/\w'=if b=0 then w else w.setCell ⟨p,2,none⟩ (.int .i64 (max a (-1))):=by
 by_cases h:b=0
 .have d:(b == 0)=true:=by simp [h]
  go_in;go_wp2_with (go_at_call 35;refine(uJ _ _ _ c).mono ?_;rintro e w' ⟨rfl,rfl⟩);exact bodyPost_ret (results_none rfl _ _ _) rfl ⟨rfl,rfl⟩
 .have d:(b == 0)=false:=by simp [h]
  go_in;go_wp2_with (go_at_call 35;refine(uJ _ _ _ c).mono ?_;rintro e w' ⟨rfl,rfl⟩);all_goals
   go_end0
   refine⟨rfl,?_⟩;first|rw [show max a (-1)=a by omega]|rw [show max a (-1)= -1 by omega]
theorem o9 (p b n c s:Nat) (a:Int) (k:Nat) (w:World) (f:w.cell? (aD p 0)=some (.slice (some (aD b 0)) n c)) (d:a=(k:Int)) (eF:k<s) (i:n=s*512) (j:s<=2048) (g:n<=c):
  Calls prog 107 #[pQ p,iV a] w λe w'=>e= .returned (.slice (some ⟨b,k*512,none⟩) 512 512)/\w'=w:=by
 subst d;go_in;have e:(k+1)*512-k*512=512:=by omega
 go_wp2;go_ret;exact⟨congrArg (λz=>Ending.returned (Value.slice (some ⟨b,k*512,none⟩) z z)) e,rfl⟩
structure DS where
 im:List Int
 puts:List (Nat×List Int)
 fuse:Int
 life:Int
 reads:Int
 writes:Int
 flushes:Int
 refused:Int
def ar (puts:List (Nat×List Int)) (k:Nat):List (List Int):=(puts.filter (λq=>q.1 == k)).map (·.2)
structure DS.Ok (S:DS) (s:Nat):Prop where
 len:S.im.length=s*512
 lo:1<=s
 hi:s<=2048
 puts:∀q∈S.puts,q.1<s/\q.2.length=512
 fuse: -1<=S.fuse/\S.fuse<=9223372036854775807
def fa (w:World) (F:Nat->Prop) (gi:Nat):List Value->List (List Int)->Prop
 | [], []=>True
 |v :: vs,l :: ls=>(∃g c,v= .slice (some (aD g 0)) 512 c/\F g/\g≠gi/\ay w 5 g c (bs l))/\fa w F gi vs ls
 |_,_=>False
def Rs (v:Value):Option (DataW Value×List MemPlace):=
 match v with
 | .slice _ _ _=>some (.held v, [])
 |_=>none
theorem fX:Keyed prog 3:=int_keyed underlying3
abbrev kk (k:Nat):Lit:= .int .i64 (k:Int)
structure gO (w:World) (F:Nat->Prop) (gi:Nat) (D:DataW Value) (gr cr:Nat->Nat) (db:Nat->List (List Int)):Prop where
 keys:∀kl,has D kl=true->∃k:Nat,kl=kk k/\db k≠ []
 Fq:∀k,db k= []->has D (kk k)=false
 look:∀k,db k≠ []->∀z,D.atKey (kk k) z= .held (.slice (some ⟨gr k,0,none⟩) (db k).length (cr k))
 row:∀k,db k≠ []->F (gr k)/\∃xs,ay w 36 (gr k) (cr k) xs/\fa w F gi xs (db k)
 inj:∀k k',db k≠ []->db k'≠ []->gr k=gr k'->k=k'
structure aM (w:World) (F:Nat->Prop) (p s:Nat) (S:DS) (gi ci m:Nat) (D:DataW Value) (gr cr:Nat->Nat):Prop where
 fp:F p
 TO:F gi
 fm:F m
 lt:∀k,F k->k<w.heap.size
 dj:w.heap[p]? =some (.cells (bG (.slice (some ⟨gi,0,none⟩) (s*512) ci) (.map (some m)) S.fuse S.life S.reads S.writes S.flushes S.refused) 106 (0,0))
 Jd:ay w 5 gi ci (bs S.im)
 map:w.ownsMap prog 3 Rs m S.puts.length D
 db:gO w F gi D gr cr (ar S.puts)
 ok:S.Ok s
def aP (w:World) (F:Nat->Prop) (p s:Nat) (S:DS):Prop:=∃gi ci m D gr cr,aM w F p s S gi ci m D gr cr
theorem fa.agree {w w':World} {F:Nat->Prop} {a:Nat} (b:∀k,F k->w'.heap[k]? =w.heap[k]?):∀{xs:List Value} {d:List (List Int)},fa w F a xs d->fa w' F a xs d
 | [], [],_=>trivial
 |_ :: _,_ :: _,⟨⟨g,c,h1,h2,h3,h4⟩,h5⟩=>⟨⟨g,c,h1,h2,h3,h4.agree (b g h2)⟩,fa.agree b h5⟩
 | [],_ :: _,h=>h.elim
 |_ :: _, [],h=>h.elim
theorem fa.carry {w w':World} {F:Nat->Prop} {a:Nat} (b:∀g c xs,F g->g≠a->ay w 5 g c xs->ay w' 5 g c xs):∀{xs:List Value} {d:List (List Int)},fa w F a xs d->fa w' F a xs d
 | [], [],_=>trivial
 |_ :: _,_ :: _,⟨⟨g,c,h1,h2,h3,h4⟩,h5⟩=>⟨⟨g,c,h1,h2,h3,b g c _ h2 h3 h4⟩,fa.carry b h5⟩
 | [],_ :: _,h=>h.elim
 |_ :: _, [],h=>h.elim
theorem fa.mono {w:World} {F G:Nat->Prop} {a:Nat} (b:∀k,F k->G k):∀{xs:List Value} {d:List (List Int)},fa w F a xs d->fa w G a xs d
 | [], [],_=>trivial
 |_ :: _,_ :: _,⟨⟨g,c,h1,h2,h3,h4⟩,h5⟩=>⟨⟨g,c,h1,b g h2,h3,h4⟩,fa.mono b h5⟩
 | [],_ :: _,h=>h.elim
 |_ :: _, [],h=>h.elim
theorem fa.length {w:World} {F:Nat->Prop} {b:Nat}:∀{xs:List Value} {a:List (List Int)},fa w F b xs a->xs.length=a.length
 | [], [],_=>rfl
 |_ :: _,_ :: _,⟨_,h5⟩=>by simp [fa.length h5]
 | [],_ :: _,h=>h.elim
 |_ :: _, [],h=>h.elim
theorem fa.snoc {w:World} {F:Nat->Prop} {a:Nat} {v:Value} {l:List Int} (b:∃g c,v= .slice (some (aD g 0)) 512 c/\F g/\g≠a/\ay w 5 g c (bs l)):
  ∀{xs:List Value} {d:List (List Int)},fa w F a xs d->fa w F a (xs ++ [v]) (d ++ [l])
 | [], [],_=>⟨b,trivial⟩
 |_ :: _,_ :: _,⟨h,h5⟩=>⟨h,fa.snoc b h5⟩
 | [],_ :: _,h=>h.elim
 |_ :: _, [],h=>h.elim
theorem fa.get {w:World} {F:Nat->Prop} {b:Nat}:∀{xs:List Value} {a:List (List Int)},fa w F b xs a->∀j (hj:j<a.length),∃g c,xs[j]? =some (.slice (some (aD g 0)) 512 c)/\F g/\g≠b/\ay w 5 g c (bs a[j])
 | [], [],_,j,hj=>by simp at hj
 |v :: vs,l :: a,⟨⟨g,c,h1,h2,h3,h4⟩,h5⟩,j,hj=>by
  cases j with
  |zero=>exact⟨g,c,by simp [h1],h2,h3,h4⟩
  |succ j=>simpa using fa.get h5 j (by simpa using hj)
 | [],_ :: _,h,_,_=>h.elim
 |_ :: _, [],h,_,_=>h.elim
theorem aP.lt {S:DS} (h:aP w F p s S):∀k,F k->k<w.heap.size:=by
 obtain⟨c,a,m,D,d,b,_,_,_,h,_⟩:=h;exact h
theorem aP.ok {S:DS} (h:aP w F p s S):S.Ok s:=by
 obtain⟨c,a,m,D,d,b,_,_,_,_,_,_,_,_,h⟩:=h;exact h
theorem eh {m:Nat} {D:DataW Value} (h:w.ownsMap prog 3 Rs m n D) (e:w'.heap[m]? =w.heap[m]?):w'.ownsMap prog 3 Rs m n D:=by
 obtain⟨b,a,c,d⟩:=h;exact⟨b,a,e.trans c,d⟩
theorem gO.agree {D:DataW Value} (h:gO w F gi D gr cr db) (b:∀k,F k->w'.heap[k]? =w.heap[k]?):
  gO w' F gi D gr cr db:=
   ⟨h.keys,h.Fq,h.look,λk e=>by
  obtain⟨a,xs,c,d⟩:=h.row k e;exact⟨a,xs,c.agree (b _ a),d.agree b⟩,h.inj⟩
theorem gO.carry {D:DataW Value} (h:gO w F gi D gr cr db)
    (e:∀g c xs,F g->g≠gi->ay w 5 g c xs->ay w' 5 g c xs) (i:∀g c xs,F g->ay w 36 g c xs->ay w' 36 g c xs):gO w' F gi D gr cr db:=
   ⟨h.keys,h.Fq,h.look,λk f=>by
  obtain⟨a,xs,b,d⟩:=h.row k f;exact⟨a,xs,i _ _ _ a b,d.carry e⟩,h.inj⟩
theorem ay.other {f:Nat×Nat} (h:ay w e g c xs) (j:aa (λk=>k=q) w w') (l:w.heap[q]? =some (.cells cur e' f)) (i:e'≠e):ay w' e g c xs:=by
 refine h.agree (j.block g h.lt (λd=>?_));obtain⟨b,a,_⟩:=h;rw [d,l] at a;simp at a;exact i a.2.1
theorem ay.ne {f:Nat×Nat} (h:ay w e g c xs) (j:w.heap[q]? =some (.cells cur e' f)) (i:e'≠e):g≠q:=by
 intro d;obtain⟨b,a,_⟩:=h;rw [d,j] at a;simp at a;exact i a.2.1
theorem gA {m:Nat} {D:DataW Value} {d:Nat×Nat} (h:w.ownsMap prog 3 Rs m n D) (f:w.heap[q]? =some (.cells cur e d)):m≠q:=by
 obtain⟨g,a,b,_⟩:=h;intro c;rw [c,f] at b;simp at b
theorem gO.mono {D:DataW Value} (h:gO w F gi D gr cr db) (a:∀k,F k->G k):
  gO w G gi D gr cr db:=
   ⟨h.keys,h.Fq,h.look,λk e=>by
  obtain⟨b,xs,c,d⟩:=h.row k e;exact⟨a _ b,xs,c,d.mono a⟩,h.inj⟩
theorem aP.agree {S:DS} (h:aP w F p s S) (u:w.heap.size<=w'.heap.size) (a:∀k,F k->w'.heap[k]? =w.heap[k]?):aP w' F p s S:=by
 obtain⟨b,f,m,D,i,g,c,d,e,j,l,n,o,q,r⟩:=h;exact⟨b,f,m,D,i,g,c,d,e,λk t=>iP (j k t) u,(a p c).trans l,n.agree (a b d),eh o (a m e),q.agree a,r⟩
theorem aP.au {S:DS} (h:aP w F p s S) (k:aa G w w') (hd:∀k,F k->¬G k):aP w' F p s S:=
 h.agree k.size (λj a=>k.block j (h.lt j a) (hd j a))
theorem aP.mono {S:DS} (h:aP w F p s S) (a:∀k,F k->G k) (r:∀k,G k->k<w.heap.size):aP w G p s S:=by
 obtain⟨d,b,m,D,e,c,f,g,i,t,j,l,n,o,q⟩:=h;exact⟨d,b,m,D,e,c,a _ f,a _ g,a _ i,r,j,l,n,o.mono a,q⟩
def gD (w:World) (F:Nat->Prop) (p s:Nat) (S:DS) (m:Nat):Prop:=∃gi ci D gr cr,aM w F p s S gi ci m D gr cr
theorem gD.at {S:DS} {m:Nat} (h:gD w F p s S m):aP w F p s S:=by
 obtain⟨c,a,D,d,b,h⟩:=h;exact⟨c,a,m,D,d,b,h⟩
theorem aP.m {S:DS} (h:aP w F p s S):∃m,gD w F p s S m:=by
 obtain⟨c,a,m,D,d,b,h⟩:=h;exact⟨m,c,a,D,d,b,h⟩
theorem gD.agree {S:DS} {m:Nat} (h:gD w F p s S m) (u:w.heap.size<=w'.heap.size) (a:∀k,F k->w'.heap[k]? =w.heap[k]?):gD w' F p s S m:=by
 obtain⟨b,f,D,i,g,c,d,e,j,l,n,o,q,r⟩:=h;exact⟨b,f,D,i,g,c,d,e,λk t=>iP (j k t) u,(a p c).trans l,n.agree (a b d),eh o (a m e),q.agree a,r⟩
theorem gD.au {S:DS} {m:Nat} (h:gD w F p s S m) (k:aa G w w') (hd:∀k,F k->¬G k):gD w' F p s S m:=
 h.agree k.size (λj a=>k.block j (h.at.lt j a) (hd j a))
theorem gD.mono {S:DS} {m:Nat} (h:gD w F p s S m) (a:∀k,F k->G k) (r:∀k,G k->k<w.heap.size):gD w G p s S m:=by
 obtain⟨d,b,D,e,c,f,g,i,t,j,l,n,o,q⟩:=h;exact⟨d,b,D,e,c,a _ f,a _ g,a _ i,r,j,l,n,o.mono a,q⟩
theorem aM.ni {S S':DS} {m:Nat} {D:DataW Value} (h:aM w F p s S gi ci m D gr cr) (a:aa (λk=>k=p) w w')
    (i:w'.heap[p]? =some (.cells (bG (.slice (some ⟨gi,0,none⟩) (s*512) ci) (.map (some m)) S'.fuse S'.life S'.reads S'.writes S'.flushes S'.refused) 106 (0,0))) (e:S'.im=S.im) (b:S'.puts=S.puts) (f: -1<=S'.fuse/\S'.fuse<=9223372036854775807):
  aM w' F p s S' gi ci m D gr cr:=by
 refine⟨h.fp,h.TO,h.fm,λk j=>iP (h.lt k j) a.size,i,?_,?_,?_,⟨?_,h.ok.lo,h.ok.hi,?_,f⟩⟩
 .rw [e];exact h.Jd.other a h.dj (by decide)
 .rw [b];exact eh h.map (a.block m (h.lt m h.fm) (gA h.map h.dj))
 .rw [b];exact h.db.carry (λg c xs _ _ d=>d.other a h.dj (by decide)) (λg c xs _ d=>d.other a h.dj (by decide))
 .rw [e];exact h.ok.len
 .rw [b];exact h.ok.puts
theorem gO.empty (w:World) (F:Nat->Prop) (b:Nat) (c a:Nat->Nat):gO w F b (.map []) c a (ar []):=
   ⟨λd h=>by simp [has] at h,λ_ _=>rfl,λk h=>absurd rfl h,λk h=>absurd rfl h,λk _ h=>absurd rfl h⟩
theorem qA (a:Addr) (n c:Nat) (l:List Int) (w:World) (C:l.length=n) (aT:n<=140737488355328) (p:∀i,i<n->w.cell? (a.add i)=some (.int .u8 (l.getD i 0))):
  Calls prog 93 #[.slice (some a) n c] w λe w'=>∃g c',e= .returned (.slice (some (aD g 0)) n c')/\w.heap.size<=g/\ay w' 5 g c' (bs l)/\bW w w':=by
 obtain⟨z,r,gv,dr,ec⟩:=info_parts fW;have A:∀(w:World) (a:Option Addr) (n c f c':Nat),(binOp .eql 36 (.slice a n c) (.slice none f c')).run prog w= .ok (.bool a.isNone) w:=λw a n c f c'=>Lib.run_eql_slice_nil w _ _ a n c f c' underlying36;go_in;go_wp2_with (at_builtin;refine wpList_append_own _ rfl _ _ 36 rfl w.heap.size 5 z (.int .u8 0) 1 1 underlying36 r gv dr ec rfl (by decide) _ _ _ rfl (World.ownsRow_made w #[] 0 (bP _) (dU _) rfl) a n c (bs l) rfl ?qc1 ?qc2 ?qc3 ?qc4 ?qc5 ?qc6 ?_);case qc1=>simp;omega
 case qc2=>
  intro j u b;have d:j<n:=by
   have:=(mG.1 b).1;simp at this;omega
  refine Lib.cell?_alloc_some _ ?_;rw [p j d];have e:(bs l)[j]? =some (Value.int .u8 (l.getD j 0)):=by simp [bs,List.getD,List.getElem?_eq_getElem (show j<l.length by omega)]
  rw [e] at b;exact b
 case qc3=>intro u v;obtain⟨x,_,rfl⟩:=List.mem_map.1 v;rfl
 case qc4=>unfold maxLen;omega
 case qc5=>omega
 case qc6=>simp
 intro m w1 az aO jx;have o:=((bi _ w).alloc (bP _) _).grown aO (by simp) (by intro k s;simp [Value.ownBlock] at s;omega);have y:m≠ .slice none 0 0:=by first|exact jx|(intro e;exact absurd (jx.1 e).1 (by simp))
 have cJ:w1.ownsRow w.heap.size 5 1 m n (bs l):=by simpa using az
 obtain⟨g,c',rfl,q,t,_⟩:=ay.eW cJ y;go_wp2;go_ret;exact⟨g,c',rfl,q,t,o⟩
def DS.fresh (l:List Int):DS:={im:=l,puts:= [],fuse:= -1,life:=1,reads:=0,writes:=0,flushes:=0,refused:=0}
theorem IK {w0:World} (b:bW w0 w1) (o:w0.heap.size<=g) (d:ay w1 5 g c (bs l)) (n:l.length=s*512) (j:1<=s) (m:s<=2048):
  let w':=(w1.alloc (.map #[] 0)).alloc (.cells (bG (.slice (some ⟨g,0,none⟩) (s*512) c) (.map (some w1.heap.size)) (-1) 1 0 0 0 0) 106)
  aP w' (λk=>w0.heap.size<=k/\k<w'.heap.size) (w1.heap.size+1) s (DS.fresh l)/\bW w0 w':=by
 intro w';have UF:=d.lt;have p:=b.size;have ef:w'.heap.size=w1.heap.size+2:=by simp [w']
 have e:∀k,k<w1.heap.size->w'.heap[k]? =w1.heap[k]? :=λk a=>by
  rw [Below.heap_alloc _ _ _ (by simp;omega),Below.heap_alloc _ _ _ a]
 have f:w'.heap[w1.heap.size]? =some (.map #[] 0):=by
  rw [Below.heap_alloc _ _ _ (by simp)];exact heap_alloc_new _ _
 have i:w'.heap[w1.heap.size+1]? =some (.cells (bG (.slice (some ⟨g,0,none⟩) (s*512) c) (.map (some w1.heap.size)) (-1) 1 0 0 0 0) 106 (0,0)):=by
  have:=heap_alloc_new (w1.alloc (.map #[] 0)) (.cells (bG (.slice (some ⟨g,0,none⟩) (s*512) c) (.map (some w1.heap.size)) (-1) 1 0 0 0 0) 106);have ed:(w1.alloc (.map #[] 0)).heap.size=w1.heap.size+1:=by simp
  rw [ed] at this;exact this
 refine⟨⟨g,c,w1.heap.size, .map [],λ_=>0,λ_=>0,⟨by omega,by omega⟩,⟨by omega,by omega⟩,⟨by omega,by omega⟩,λk a=>a.2,i,d.agree (e g UF),?_,gO.empty _ _ _ _ _,⟨n,j,m,by simp [DS.fresh],by simp [DS.fresh]⟩⟩,?_⟩
 .have:=World.ownsMap_made w1 prog 3 Rs;exact eh this (by rw [f];exact(heap_alloc_new _ _).symm)
 .exact(b.alloc (by omega) _).alloc (by simp;omega) _
theorem Yv (s:Int) (w:World) (h:s<1\/2048<s):
  Calls prog 16 #[iV s] w λe w'=>e= .returned (.tuple #[.pointer none,iV 10])/\w'=w:=by
 go_in;rcases h with h|h
 .go_wp2;go_ret2;exact⟨rfl,rfl⟩
 .have a:¬s<1:=by omega
  go_wp2;go_ret2;exact⟨rfl,rfl⟩
theorem PD (s:Nat) (w:World) (a:1<=s) (b:s<=2048):
  Calls prog 16 #[iV s] w λe w'=>∃p,e= .returned (.tuple #[pQ p,iV 0])/\
   aP w' (λk=>w.heap.size<=k/\k<w'.heap.size) p s (DS.fresh (List.replicate (s*512) 0))/\bW w w':=by
 obtain⟨i,f,gv,dr,ec⟩:=info_parts fW;have Yw:¬(s:Int)<1:=by omega
 have c:¬(2048:Int)<(s:Int):=by omega
 go_in;go_wp2_with (at_make;refine wpList_make_full _ rfl _ _ 36 rfl w.heap.size 5 i (.int .u8 0) 1 underlying36 f gv dr _ _ _ _ (s*512) rfl rfl ?c1 ?c2 ?c3 ?c4 ?c5 ?_);case c3=>omega
 case c4=>unfold maxLen;omega
 intro w1 az aO;have d:=(bi _ w).grown aO (bP _) (by intro k g;cases g);go_wp2_with (go_at_call 45;refine(Fp _ _ _ _).mono ?_;rintro e w' ⟨rfl,rfl⟩);go_ret2;exact⟨_,rfl,IK d (bP _) (lJ az) (by simp) a b⟩
theorem PE (a:Option Addr) (n c:Nat) (w:World) (h:n%512≠0) (d:n<=140737488355328):
  Calls prog 41 #[.slice a n c] w λe w'=>e= .returned (.tuple #[.pointer none,iV 2])/\w'=w:=by
 have b:(((n:Int)%512) != 0)=true:=by rw [fT];omega
 go_in;go_wp2;go_ret2;exact⟨rfl,rfl⟩
theorem UG (a:Option Addr) (n c:Nat) (w:World) (h:n%512=0) (b:n=0\/1048576<n) (f:n<=140737488355328):
  Calls prog 41 #[.slice a n c] w λe w'=>e= .returned (.tuple #[.pointer none,iV 10])/\w'=w:=by
 have d:(((n:Int)%512) != 0)=false:=by rw [Bool.eq_false_iff,ne_eq,fT];omega
 go_in;rcases b with h0|h0
 .have O8:((n:Int) == 0)=true:=by rw [beq_iff_eq];omega
  go_wp2;go_ret2;exact⟨rfl,rfl⟩
 .have O8:((n:Int) == 0)=false:=by rw [Bool.eq_false_iff,ne_eq,beq_iff_eq];omega
  go_wp2;go_ret2;exact⟨rfl,rfl⟩
theorem UH (a:Addr) (n c s:Nat) (l:List Int) (w:World) (q:n=s*512) (t:1<=s) (u:s<=2048) (r:l.length=n) (j:∀i,i<n->w.cell? (a.add i)=some (.int .u8 (l.getD i 0))):
  Calls prog 41 #[.slice (some a) n c] w λe w'=>∃p,e= .returned (.tuple #[pQ p,iV 0])/\
   aP w' (λk=>w.heap.size<=k/\k<w'.heap.size) p s (DS.fresh l)/\bW w w':=by
 have x:(((n:Int)%512) != 0)=false:=by rw [Bool.eq_false_iff,ne_eq,fT];omega
 have O8:((n:Int) == 0)=false:=by rw [Bool.eq_false_iff,ne_eq,beq_iff_eq];omega
 have y:¬(1048576:Int)<(n:Int):=by omega
 have H:Yh (∀i,i<n->w.cell? (a.add i)=some (.int .u8 (l.getD i 0))):=j;have d:Yh (n=s*512):=q;clear j q;go_in;go_wp2_with fail;refine(qA a n c l w r (by omega) H.o).mono ?_;rintro e w1 ⟨g,c',rfl,v,m,f⟩;have b:=yh (IK f v m (r.trans d.o) t u);rw [<-d.o] at b;clear m f;go_wp2_with (go_at_call 45;refine(Fp _ _ _ _).mono ?_;rintro e w' ⟨rfl,rfl⟩);go_ret2;exact⟨_,rfl,b.o⟩
theorem MD (p s:Nat) (F:Nat->Prop) (S:DS) (w:World) (h:aP w F p s S):
  Calls prog 33 #[pQ p] w λe w'=>∃g c,e= .returned (.slice (some (aD g 0)) (s*512) c)/\w.heap.size<=g/\ay w' 5 g c (bs S.im)/\bW w w':=by
 obtain⟨d,b,m,D,u,t,v,x,y,z,f,j,A,C,a⟩:=h;have r:=aL f;have o:=a.len;have n:=a.hi;have Fr:=qA (aD d 0) (s*512) b S.im w o (by omega) (λi n=>j.byte (by omega));go_in;go_wp2_with (go_at_call 93;refine Fr.mono ?_;rintro e w' ⟨g,c,rfl,l,q,k⟩);go_ret;exact⟨g,c,rfl,l,q,k⟩
theorem PF (b o f g:Nat) (n c d:Nat) (l:List Int) (w:World) (s:n<=140737488355328) (j:∀i,i<n->w.cell? ⟨b,o+i,none⟩=some (.int .u8 (l.getD i 0))) (m:∀i,i<n->w.cell? ⟨f,g+i,none⟩=some (.int .u8 (l.getD i 0))):
  Calls prog 21 #[.slice (some (aD b o)) n c, .slice (some (aD f g)) n d] w λe w'=>e= .returned (.bool true)/\bW w w':=by
 go_in;go_wp2;go_loopw [5] (λi wr=>∃k:Nat,k<=n/\i=iV k/\bW w wr) (λi _=>n-(intOf i).toNat);case atStart=>exact⟨0,dU _,rfl,bi _ _⟩
 case round=>
  obtain⟨k,r,rfl,a⟩:=hrel;by_cases bm:k<n
  .have p:=cell_later a (j k bm);have q:=cell_later a (m k bm);have cw:(k:Int)<(n:Int):=(by omega);go_wp2;go_quiet (fail);go_wp2;go_roundw;case rel=>exact⟨k+1,by omega,by go_num,below_drewN a _⟩
   case measure=>simp [intOf];omega
  .have cw:¬(k:Int)<(n:Int):=(by omega);go_wp2;go_ret;exact⟨rfl,a⟩
theorem BX (a b:Option Addr) (c d:Nat) (w:World):
  Calls prog 21 #[.slice a 0 c, .slice b 0 d] w λe w'=>e= .returned (.bool true)/\w'=w:=by
 go_in;go_wp2;refine wp_loop_rounds 1 ?_;rw [rounds_succ];go_wp2;go_ret;exact⟨rfl,rfl⟩
theorem pb (a b:Option Addr) (n c d:Nat) (l:List Int) (w:World) (k:n<=140737488355328) (f:Src w a n l) (g:Src w b n l):
  Calls prog 21 #[.slice a n c, .slice b n d] w λe w'=>e= .returned (.bool true)/\bW w w':=by
 by_cases h0:n=0
 .subst h0;exact(BX a b c d w).mono (by rintro e w' ⟨rfl,rfl⟩;exact⟨rfl,bi _ _⟩)
 .cases a with
  |none=>exact absurd (f.2.1 rfl) h0
  |some x=>
   cases b with
   |none=>exact absurd (g.2.1 rfl) h0
   |some y=>
    obtain⟨i,p,rfl,m⟩:=f.spot (by omega);obtain⟨j,q,rfl,o⟩:=g.spot (by omega);exact PF i p j q n c d l w k m o
def pd (left:Lit->Bool) (puts:List (Nat×List Int)):Nat:=(puts.filter (λq=> !left (kk q.1))).length
theorem ln (a b:Nat):(kk a).sameKey (kk b)=(a == b):=by
 by_cases h:a=b
 .subst h;simp [WideAt.sameKey_self (show WideAt.IsKeyLit (kk a) from trivial)]
 .rw [Maps.sameKey_ne (by intro e;simp [kk] at e;omega)];simp [h]
theorem xY (left:Lit->Bool) (k:Nat) (a:left (kk k)=true):∀puts:List (Nat×List Int),pd (λz=>left z && !z.sameKey (kk k)) puts=pd left puts+(ar puts k).length
 | []=>by simp [pd,ar]
 |q :: r=>by
  have c:=xY left k a r;unfold pd ar at*;by_cases h:q.1=k
  .simp [h,a,ln] at*;omega
  .by_cases b:left (kk q.1)=true
   .simp [h,b,ln] at*;omega
   .simp [h,b,ln] at*;omega
theorem Fs {D:DataW Value} {puts:List (Nat×List Int)} (h:∀q∈puts,has D (kk q.1)=true):pd (has D) puts=0:=by
 unfold pd;rw [List.length_eq_zero_iff,List.filter_eq_nil_iff];intro q a;simp [h q a]
theorem ME {left:Lit->Bool} {puts:List (Nat×List Int)} (h:∀kl,left kl=false):pd left puts=puts.length:=by
 unfold pd;rw [List.filter_eq_self.2 (λq _=>by simp [h])]
theorem PG (left:Lit->Bool) (puts:List (Nat×List Int)):pd left puts<=puts.length:=List.length_filter_le _ _
theorem PH {puts:List (Nat×List Int)} {q:Nat×List Int} (h:q∈puts):ar puts q.1≠ []:=by
 unfold ar;intro e;rw [List.map_eq_nil_iff,List.filter_eq_nil_iff] at e;exact e q h (by simp)
theorem gO.has {D:DataW Value} (h:gO w F gi D gr cr db) (a:db k≠ []):Maps.has D (kk k)=true:=
 Maps.has_true_of_atKey (h.look k a)
abbrev MF (c:Option Addr×Nat×Nat):Value:= .slice c.1 c.2.1 c.2.2
theorem rX (v:Value) (y:DataW Value×List MemPlace) (h:Rs v=some y):∃c,v=MF c:=by
 unfold Rs at h;split at h
 .exact⟨(_,_,_),rfl⟩
 .cases h
theorem Ft (c:Option Addr×Nat×Nat):Rs (MF c)=some (.held (MF c), []):=rfl
theorem gO.met {D:DataW Value} (h:gO w F gi D gr cr db) {x:Int} {c:Option Addr×Nat×Nat} {b:Lit} {y:DataW Value×List MemPlace}
    (gF:keyOf prog 3 (iV x)=some b) (f:Rs (MF c)=some y) (ic:∀zd,D.atKey b zd=y.1):
  ∃k:Nat,x=(k:Int)/\b=kk k/\db k≠ []/\c=(some ⟨gr k,0,none⟩,(db k).length,cr k):=by
 obtain⟨k,rfl,e⟩:=h.keys b (Maps.has_true_of_atKey ic);obtain⟨m,i,g,_⟩:=Maps.keyOf_int_inv underlying3 gF;have j:x=(k:Int):=by cases i;simpa [kk] using g.symm
 rw [Ft] at f;cases f;have d:=ic .nil;rw [h.look k e] at d;obtain⟨a,n,l⟩:=c;simp [MF] at d;exact⟨k,j,rfl,e,by simp [d]⟩
theorem PJ {b:Nat} {t:TypeId} {g i j k l:Value} (a c d e f:Value) (h:w.heap[b]? =some (.cells #[g,i,j,k,l] t (0,0))):
    (((((w.setCell ⟨b,0,none⟩ a).setCell ⟨b,1,none⟩ c).setCell ⟨b,2,none⟩ d).setCell ⟨b,3,none⟩ e).setCell ⟨b,4,none⟩ f).heap[b]? =some (.cells #[a,c,d,e,f] t (0,0)):=by
 simpa using (heap_setCell_same _ b 4 _ t f (heap_setCell_same _ b 3 _ t e (heap_setCell_same _ b 2 _ t d (heap_setCell_same _ b 1 _ t c (heap_setCell_same w b 0 _ t a h)))))
abbrev dL (r wr fl rf pe:Int):Array Value:= #[iV r,iV wr,iV fl,iV rf,iV pe]
theorem Je (p s:Nat) (F:Nat->Prop) (S:DS) (w:World) (h:aP w F p s S) (aT:S.puts.length<=140737488355328):
  Calls prog 37 #[pQ p] w λe w'=>e= .returned (.agg (dL S.reads S.writes S.flushes S.refused S.puts.length))/\bW w w':=by
 obtain⟨W,O,m,D,X,P,r,Y,t,f,a,Z,u,g,h9⟩:=h;obtain⟨I,J,K,L,M,N,pf,AY⟩:=rV (bD a) (gz a) (rU a) (wG a) (ri a) (Dg a) (f p r) (f m t);go_in;go_wp2_with (at_range;refine wpList_range_own _ rfl _ 104 rfl 3 62 fX underlying104 Rs m S.puts.length D rfl ((u.alloc _).alloc _) ?_;intro w0 pg uD xZ;go_frame);have b:((w.alloc (Obj.cells (dL 0 0 0 0 0) 65)).alloc (Obj.cells (dL S.reads S.writes S.flushes S.refused 0) 65)).heap.size=w.heap.size+2:=by simp
 rw [b] at pg xZ⊢;have Di:=(uD.block w.heap.size (by rw [b];omega) (by simp)).trans ((Below.heap_alloc _ _ _ (by simp)).trans (heap_alloc_new w (Obj.cells (dL 0 0 0 0 0) 65)));have bK:w0.heap[w.heap.size+1]? =some (Obj.cells (dL S.reads S.writes S.flushes S.refused 0) 65 (0,0)):=by
  refine(uD.block (w.heap.size+1) (by rw [b];omega) (by simp)).trans ?_;have:=heap_alloc_new (w.alloc (Obj.cells (dL 0 0 0 0 0) 65)) (Obj.cells (dL S.reads S.writes S.flushes S.refused 0) 65);have n:(w.alloc (Obj.cells (dL 0 0 0 0 0) 65)).heap.size=w.heap.size+1:=by simp
  rw [n] at this;exact this
 have kv:=(((bi _ w).alloc (bP _) _).alloc (by simp) _).grown uD (by rw [b];omega) (λj d=>by cases d);go_loopw [5] (λ_ wr=>∃(left:Lit->Bool) (iN:Nat),wr.ranges prog 3 Rs m (w.heap.size+2) S.puts.length D left iN/\
   wr.heap[w.heap.size]? =some (Obj.cells (dL 0 0 0 0 0) 65 (0,0))/\
   wr.heap[w.heap.size+1]? =some (Obj.cells (dL S.reads S.writes S.flushes S.refused (pd left S.puts:Nat)) 65 (0,0))/\bW w wr)
    (λ_ wr=>wr.rangeLeft m (w.heap.size+2))
 case atStart=>exact⟨_,_,pg,Di,by rw [(Fs (λq A=>g.has (PH A)))];exact bK,kv⟩
 case round=>
  obtain⟨left,iN,mI,Di,bK,c⟩:=hrel;go_wp2_with (at_next;refine wpList_next_ranges _ rfl _ rfl 3 fX Rs (Value.int .i64) MF (λG H gF=>by obtain⟨x,rfl,_⟩:=Maps.keyOf_int_inv underlying3 gF;exact⟨x,rfl⟩) rX m (w.heap.size+2) S.puts.length _ _ _ rfl mI ?_ ?_)
  .intro _ vJ;rw [ME vJ] at bK;obtain⟨k0,k1,k2,k3,E,r0,r1,r2,r3,r4,Q,R⟩:=BU (aL bK) (bD bK) (bH bK) (fI bK) (gz bK) (aL Di) (bD Di) (bH Di) (fI Di) (gz Di) (ae Di 0) (ae Di 1);have T:=ae Di 2;have U:=ae Di 3;have o:=ae Di 4;go_wp2;have a:=PJ (iV S.reads) (iV S.writes) (iV S.flushes) (iV S.refused) (iV S.puts.length) Di;refine bodyPost_ret (v:= .agg (dL S.reads S.writes S.flushes S.refused S.puts.length)) (by simp [results,results37,go_sem,dL,aL a,bD a,bH a,fI a,(gz a)]) rfl ⟨rfl,?_⟩;exact((((c.setCell (bP _) _).setCell (bP _) _).setCell (bP _) _).setCell (bP _) _).setCell (bP _) _
  .intro x ca l i H yd yp w2 ph gF x8 C ic oR bm fU bo IQ;obtain⟨k,rfl,rfl,hp,y⟩:=g.met gF C ic;obtain⟨rfl,rfl,rfl⟩:ca=_/\l=_/\i=_:=(by simpa using y);have bt:=(xY left k x8 S.puts);have Yx:pd left S.puts+(ar S.puts k).length<=S.puts.length:=(by have:=PG (λz=>left z && !z.sameKey (kk k)) S.puts;rw [bt] at this;exact this);have abY:=(fU.block w.heap.size (by have:=(kN.1 Di).1;omega) (by simp)).trans Di;have Yy:=(fU.block (w.heap.size+1) (by have:=(kN.1 bK).1;omega) (by simp)).trans bK;have eC:=c.grown fU c.size (λj d=>by cases d;omega);have E:=gz Yy;have o:=ae Yy 4;go_wp2;go_roundw;case rel=>
    refine⟨_,ph,oR.kept (mH _ _ _) (λe=>by have:=Option.some.inj e;simp only at this;omega) (λe=>by have:=Option.some.inj e;simp only at this;omega),?_,?_,eC.setCell (Nat.le_succ _) _⟩
    .rw [Below.heap_setCell _ _ _ _ (by simp)];exact abY
    .rw [bt,heap_setCell_same _ _ _ _ _ _ Yy];simp [dL]
   case measure=>
    rw [(oR.kept (mH _ _ _) (λe=>by have:=Option.some.inj e;simp only at this;omega) (λe=>by have:=Option.some.inj e;simp only at this;omega)).left_eq,mI.left_eq];exact bm
theorem aP.cells {S:DS} (h:aP w F p s S):w.cell? (aD p 2)=some (iV S.fuse)/\w.cell? (aD p 3)=some (iV S.life)/\(∀j,w.frozen? (aD p j)=false)/\
  ∃gi ci,w.cell? (aD p 0)=some (.slice (some (aD gi 0)) (s*512) ci):=by
 obtain⟨gi,ci,m,D,c,b,d,e,f,g,a,i,k,l,n⟩:=h;exact⟨bH a,fI a,ae a,gi,ci,aL a⟩
theorem x9 {S:DS} (h:aP w F p s S):
  Calls prog 47 #[pQ p] w λe w'=>e= .returned (iV s)/\w'=w:=by
 obtain⟨_,_,_,d,c,b⟩:=h.cells;have:=h.ok.hi;have e:s*512 / 512=s:=by omega
 have a:=vI p _ (s*512) c w (by omega) b;rw [e] at a;exact a
theorem ii {S:DS} (h:aP w F p s S):
  Calls prog 35 #[pQ p] w λe w'=>e= .returned (.bool (S.fuse == 0))/\w'=w:=uJ p _ w h.cells.1
theorem UI {S:DS} (h:aP w F p s S):
  Calls prog 22 #[pQ p] w λe w'=>e= .returned (iV S.life)/\w'=w:=PA p _ w h.cells.2.1
theorem tf (a:Option Addr) (n c:Nat) (l:List Int) (w:World) (s:n<=140737488355328) (i:Src w a n l):
  Calls prog 42 #[.slice a n c] w λe w'=>∃g,e= .returned (.slice (some (aD g 0)) n n)/\w.heap.size<=g/\ay w' 5 g n (bs l)/\bW w w':=by
 obtain⟨q,m,gv,dr,ec⟩:=info_parts fW;go_in;go_wp2_with (at_make;refine wpList_make_full _ rfl _ _ 36 rfl w.heap.size 5 q (.int .u8 0) 1 underlying36 m gv dr _ _ _ _ n rfl rfl ?c1 ?c2 ?c3 ?c4 ?c5 ?_);case c1=>rfl
 case c2=>rfl
 case c3=>rw [ec];omega
 case c4=>unfold maxLen;omega
 case c5=>exact bP _
 intro w1 az aO;have p:=lJ az;have b:=(bi _ w).grown aO (bP _) (by intro k d;cases d);have j:=p.full (by simp [bs]);have ed:=i.later b;have o:=i.1;obtain⟨r,bC,f,d,_⟩:=xX w1 3 (some (aD w.heap.size 0)) w.heap.size 0 n n a n c (bs (List.replicate n 0)) l j ed (λ_=>rfl) (by simp [bs]);have aW:=b.trans (d.below (λk h=>by omega) b.size);have fb:ay r 5 w.heap.size n (bs l):=by
  have e:splice (bs (List.replicate n 0)) 0 (bs (l.take n))=bs l:=by
   rw [nh (by omega)];simp [splice,bs];omega
  rw [e] at f;have:=ay.xp f (by simp [bs,maxLen];omega);simpa [bs,o] using this
 go_wp2;go_ret;exact⟨w.heap.size,rfl,bP _,fb,aW⟩
def bI (im:List Int) (k:Nat):List Int:=(im.drop (k*512)).take 512
def DS.gB (S:DS) (k j:Nat):List Int:=if j=0 then bI S.im k else (ar S.puts k).getD (j-1) []
theorem ym (w:World):(zeroValue 62).run prog w= .ok (.slice none 0 0) w:=by kernel_rfl
theorem lD (k:Nat) (a:k<2048):keyOf prog 3 (iV (k:Int))=some (kk k):=
 keyOf_int_mk underlying3 (WalkArith.wf_i64 (by omega))
theorem aM.look {S:DS} {m:Nat} {D:DataW Value} (h:aM w F p s S gi ci m D gr cr) (e:k<s):
  ∃a c,(Instr.lookup 104 (.map (some m)) (iV (k:Int)) false).run prog w= .ok (.slice a (ar S.puts k).length c) w/\
     (ar S.puts k≠ []->a=some ⟨gr k,0,none⟩/\c=cr k)/\(ar S.puts k= []->a=none/\c=0):=by
 have f:=h.ok.hi;obtain⟨v,ps,bC,b⟩:=h.map.lookup fX underlying104 (ym w) (zd:= .held (.slice none 0 0)) (zp:= []) rfl (lD k (by omega));by_cases d:ar S.puts k= []
 .rw [Maps.atKey_of_not_has (h.db.Fq k d)] at b;obtain⟨⟨a,n,c⟩,rfl⟩:=rX v _ b;rw [Ft] at b;simp [MF] at b;obtain⟨⟨rfl,rfl,rfl⟩,_⟩:=b;exact⟨none,0,by rw [d];exact bC,λh=>absurd d h,λ_=>⟨rfl,rfl⟩⟩
 .rw [h.db.look k d] at b;obtain⟨⟨a,n,c⟩,rfl⟩:=rX v _ b;rw [Ft] at b;simp [MF] at b;obtain⟨⟨rfl,rfl,rfl⟩,_⟩:=b;exact⟨_,_,bC,λ_=>⟨rfl,rfl⟩,λh=>absurd h d⟩
theorem UJ (h:ay w 5 gi ci (bs im)) (d:im.length=s*512) (c:k<s):Src w (some ⟨gi,k*512,none⟩) 512 (bI im k):=by
 refine⟨by simp [bI];omega,(λh=>by cases h),λx b i a=>?_⟩;cases b;rw [aK];have:=h.byte (i:=k*512+i) (by omega);rw [aK,Nat.zero_add] at this;rw [this];simp [bI,List.getD,a]
theorem yn {S:DS} (h:S.Ok s) (b:j<(ar S.puts k).length):((ar S.puts k)[j]).length=512:=by
 have a:=List.getElem_mem b;unfold ar at a;obtain⟨q,c,e⟩:=List.mem_map.1 a;have:=(h.puts q (List.mem_filter.1 c).1).2;unfold ar;rw [<-e];exact this
theorem MG {S:DS} {m:Nat} {D:DataW Value} (h:aM w F p s S gi ci m D gr cr) (k:Nat) (a:k<s):
  Calls prog 96 #[pQ p,iV (k:Int),iV 0] w λe w'=>e= .returned (.slice (some ⟨gi,k*512,none⟩) 512 512)/\w'=w:=by
 have b:=h.Jd.le;have hd:=o9 p gi (s*512) ci s k k w (aL h.dj) rfl a rfl h.ok.hi (by simp [bs,h.ok.len] at b;omega);go_in;go_wp2_with (go_at_call 107;refine hd.mono ?_;rintro e w' ⟨rfl,rfl⟩);go_ret;exact⟨rfl,rfl⟩
theorem MH {S:DS} {m:Nat} {D:DataW Value} (h:aM w F p s S gi ci m D gr cr) (k:Nat) (q:k<s) (i:Nat) (f:Int) (o:f=(i:Int)+1) (b:i<(ar S.puts k).length) (aT:S.puts.length<=140737488355328):
  Calls prog 96 #[pQ p,iV (k:Int),iV f] w λe w'=>∃g c,e= .returned (.slice (some (aD g 0)) 512 c)/\F g/\g≠gi/\ay w 5 g c (bs (ar S.puts k)[i])/\w'=w:=by
 subst o;have u:=bD h.dj;have d:ar S.puts k≠ []:=by intro e;rw [e] at b;simp at b
 obtain⟨a,c,bC,l,_⟩:=h.look q;obtain⟨rfl,rfl⟩:=l d;obtain⟨_,xs,aY,oL⟩:=h.db.row k d;obtain⟨g,j,t,n,dG,r⟩:=oL.get i b;have v:=aY.cell t;have y:(ar S.puts k).length<=S.puts.length:=by unfold ar;rw [List.length_map];exact List.length_filter_le _ _
 have x:((i:Int)+1 == 0)=false:=by rw [Bool.eq_false_iff,ne_eq,beq_iff_eq];omega
 have nj:(i:Int)<((ar S.puts k).length:Int):=by omega
 go_in;go_wp2;go_ret;exact⟨g,j,rfl,n,dG,r,rfl⟩
def DS.now (S:DS) (k:Nat):List Int:=S.gB k (ar S.puts k).length
theorem DS.np {S:DS} (h:S.Ok s) (b:k<s) (a:j<=(ar S.puts k).length):(S.gB k j).length=512:=by
 unfold DS.gB;split
 .simp [bI];have:=h.len;omega
 .have AX:j-1<(ar S.puts k).length:=by omega
  rw [List.getD,List.getElem?_eq_getElem AX,Option.getD_some];exact yn h AX
theorem Fu {S:DS} {m:Nat} {D:DataW Value} (h:aM w F p s S gi ci m D gr cr) (k:Nat) (a:k<s) (j:Nat) (q:j<=(ar S.puts k).length) (aT:S.puts.length<=140737488355328):
  Calls prog 96 #[pQ p,iV (k:Int),iV (j:Int)] w λe w'=>∃g o c,e= .returned (.slice (some (aD g o)) 512 c)/\F g/\512<=c/\(g=gi->o=k*512/\S.gB k j=bI S.im k)/\Src w (some (aD g o)) 512 (S.gB k j)/\w'=w:=by
 cases j with
 |zero=>exact(MG h k a).mono (by rintro e w' ⟨rfl,rfl⟩;exact⟨gi,k*512,512,rfl,h.TO,bP _,λ_=>⟨rfl,rfl⟩,UJ h.Jd h.ok.len a,rfl⟩)
 |succ i=>
  refine(MH h k a i ((i+1:Nat):Int) (by omega) (by omega) aT).mono ?_;rintro e w' ⟨g,c,rfl,l,dG,d,rfl⟩;have f:S.gB k (i+1)=(ar S.puts k)[i]:=by simp [DS.gB,List.getD,List.getElem?_eq_getElem (show i<(ar S.puts k).length by omega)]
  have n:=yn h.ok (k:=k) (j:=i) (by omega);have b:=d.le;refine⟨g,0,c,rfl,l,by simp [bs] at b;omega,λe=>absurd e dG,?_,rfl⟩;rw [f];have:=d.src;rw [n] at this;exact this
def DS.read (S:DS):DS:={S with reads:=wrap64 (S.reads+1)}
def DS.refuse (S:DS):DS:={S with refused:=wrap64 (S.refused+1)}
theorem aM.set {S:DS} {m:Nat} {D:DataW Value} (h:aM w F p s S gi ci m D gr cr) (i:Nat) (v:Value):
    (w.setCell ⟨p,i,none⟩ v).heap[p]? =some (.cells ((bG (.slice (some ⟨gi,0,none⟩) (s*512) ci) (.map (some m)) S.fuse S.life S.reads S.writes S.flushes S.refused).setIfInBounds i v) 106 (0,0))/\aa (λk=>k=p) w (w.setCell ⟨p,i,none⟩ v):=
   ⟨heap_setCell_same _ _ _ _ _ _ h.dj,aa.setCell (F:=λk=>k=p) w (p:=(aD p i)) rfl v⟩
theorem aM.refused {S:DS} {m:Nat} {D:DataW Value} (h:aM w F p s S gi ci m D gr cr):
  aM (w.setCell ⟨p,7,none⟩ (.int .i64 (wrap64 (S.refused+1)))) F p s S.refuse gi ci m D gr cr:=
 h.ni (h.set 7 _).2 ((h.set 7 _).1.trans (by simp [bG,DS.refuse])) rfl rfl h.ok.fuse
theorem aM.reads {S:DS} {m:Nat} {D:DataW Value} (h:aM w F p s S gi ci m D gr cr):
  aM (w.setCell ⟨p,4,none⟩ (.int .i64 (wrap64 (S.reads+1)))) F p s S.read gi ci m D gr cr:=
 h.ni (h.set 4 _).2 ((h.set 4 _).1.trans (by simp [bG,DS.read])) rfl rfl h.ok.fuse
theorem BY {S:DS} (h:aP w F p s S) (a:Int) (c:S.fuse=0):
  Calls prog 39 #[pQ p,iV a] w λe w'=>e= .returned (.tuple #[.slice none 0 0,iV 3])/\w'=w:=by
 have b:=ii h;rw [c] at b;go_in;go_wp2_with (go_at_call 35;refine b.mono ?_;rintro e w' ⟨rfl,rfl⟩);go_ret2;exact⟨rfl,rfl⟩
theorem Jf {S:DS} (h:aP w F p s S) (a:Int) (k:S.fuse≠0) (o:a<0\/(s:Int)<=a):
  Calls prog 39 #[pQ p,iV a] w λe w'=>e= .returned (.tuple #[.slice none 0 0,iV 11])/\aP w' F p s S.refuse/\aa F w w':=by
 have d:=ii h;rw [show (S.fuse == 0)=false by simp [k]] at d;obtain⟨i,c,m,D,j,g,h⟩:=h;have q:=h.ok.hi;have f:=te p _ (s*512) c a w (by omega) (aL h.dj);rw [show s*512 / 512=s by omega,show (decide (0<=a) && decide (a<(s:Int)))=false by simp;omega] at f;have n:=rW p S.refused 11 w (ri h.dj) (ae h.dj 7);have l:aa F w (w.setCell ⟨p,7,none⟩ (.int .i64 (wrap64 (S.refused+1)))):=aa.setCell w h.fp _;go_in;go_wp2_with (first|(go_at_call 35;refine d.mono ?_;rintro e w' ⟨rfl,b⟩;subst b)|(go_at_call 94;refine f.mono ?_;rintro e w' ⟨rfl,b⟩;subst b)|(go_at_call 95;refine n.mono ?_;rintro e w' ⟨rfl,rfl⟩));go_ret2;exact⟨rfl,⟨i,c,m,D,j,g,h.refused⟩,l⟩
theorem Fv {S:DS} {m:Nat} (h:gD w F p s S m) (k:Nat) (z:S.fuse≠0) (d:k<s) (aT:S.puts.length<=140737488355328):
  Calls prog 39 #[pQ p,iV (k:Int)] w λe w'=>∃g c,e= .returned (.tuple #[.slice (some (aD g 0)) 512 c,iV 0])/\w.heap.size<=g/\ay w' 5 g c (bs (S.now k))/\
   gD w' F p s S.read m/\aa F w w':=by
 have l:=ii h.at;rw [show (S.fuse == 0)=false by simp [z]] at l;obtain⟨v,j,D,x,t,h⟩:=h;have I:=h.ok.hi;have n:=te p _ (s*512) j k w (by omega) (aL h.dj);rw [show s*512 / 512=s by omega,show (decide (0<=(k:Int)) && decide ((k:Int)<(s:Int)))=true by simp;omega] at n;have E:=gz h.dj;have G:=ae h.dj 4;have hd:=h.reads;have fP:aa F w (w.setCell ⟨p,4,none⟩ (.int .i64 (wrap64 (S.reads+1)))):=aa.setCell w h.fp _;have ef:(w.setCell ⟨p,4,none⟩ (.int .i64 (wrap64 (S.reads+1)))).heap.size=w.heap.size:=by simp [World.setCell]
 have C:=bD hd.dj;obtain⟨a,c,bC,dG,jx⟩:=hd.look d;have Fr:(S.read.gB k (ar S.puts k).length).length=512:=DS.np hd.ok d (bP _);go_in;go_wp2_with (first|(go_at_call 35;refine l.mono ?_;rintro e w' ⟨rfl,f⟩;subst f)|(go_at_call 94;refine n.mono ?_;rintro e w' ⟨rfl,f⟩;subst f));refine(Fu hd k d (ar S.puts k).length (bP _) aT).mono ?_;rintro e w1 ⟨g,o,r,rfl,H,y,_,fJ,rfl⟩;go_wp2_with fail;refine(qA (aD g o) 512 r _ _ Fr (by omega) (λi A=>fJ.2.2 _ rfl i A)).mono ?_;rintro e J ⟨u,q,rfl,fU,fb,aW⟩;have b:=gD.au ⟨v,j,D,x,t,hd⟩ (aa.ah (λ_=>False) aW) (λ_ _ h=>h);rw [ef] at fU;go_wp2;go_ret2;exact⟨u,q,rfl,fU,fb,b,fP.trans (aa.ah (λ_=>False) aW) (λ_ h=>h.elim)⟩
theorem LI {S:DS} (h:aP w F p s S) (k:Nat) (j:S.fuse≠0) (l:k<s) (aT:S.puts.length<=140737488355328):
  Calls prog 39 #[pQ p,iV (k:Int)] w λe w'=>∃g c,e= .returned (.tuple #[.slice (some (aD g 0)) 512 c,iV 0])/\w.heap.size<=g/\ay w' 5 g c (bs (S.now k))/\
   aP w' F p s S.read/\aa F w w':=by
 obtain⟨m,h⟩:=h.m;refine(Fv h k j l aT).mono ?_;rintro e w' ⟨g,c,a,b,d,f,i⟩;exact⟨g,c,a,b,d,f.at,i⟩
def DS.fY (S:DS):DS:={S with fuse:=if 0<S.fuse then S.fuse-1 else S.fuse}
def DS.put (S:DS) (k:Nat) (l:List Int):DS:={S with puts:=S.puts ++ [(k,l)]}
theorem ij (puts:List (Nat×List Int)) (k:Nat) (l:List Int) (j:Nat):ar (puts ++ [(k,l)]) j=if j=k then ar puts k ++ [l] else ar puts j:=by
 unfold ar;by_cases h:j=k
 .subst h;simp
 .have:(k == j)=false:=by simp;omega
  simp [h,List.filter_append,this]
theorem lK (puts:List (Nat×List Int)) (k:Nat):(ar puts k).length<=puts.length:=by unfold ar;rw [List.length_map];exact List.length_filter_le _ _
theorem aM.PK {S:DS} {m:Nat} {D:DataW Value} (h:aM w F p s S gi ci m D gr cr) (g:k<s):
  ∃a cc xs,(∀wx:World,wx.heap[m]? =w.heap[m]?->(Instr.lookup 104 (.map (some m)) (iV (k:Int)) false).run prog wx= .ok (.slice a (ar S.puts k).length cc) wx)/\
     (∀wx:World,(ar S.puts k≠ []->wx.heap[gr k]? =w.heap[gr k]?)->wx.ownsRow 0 36 1 (.slice a (ar S.puts k).length cc) (ar S.puts k).length xs)/\
   fa w F gi xs (ar S.puts k)/\(ar S.puts k= []->a=none/\cc=0)/\(ar S.puts k≠ []->a=some ⟨gr k,0,none⟩/\cc=cr k):=by
 have i:=h.ok.hi;have f:=lD k (by omega);by_cases d:ar S.puts k= []
 .refine⟨none,0, [],λwx e=>?_,λwx _=>?_,?_,λ_=>⟨rfl,rfl⟩,λh=>absurd d h⟩
  .obtain⟨v,ps,bC,b⟩:=(eh h.map e).lookup fX underlying104 (ym wx) (zd:= .held (.slice none 0 0)) (zp:= []) rfl f;rw [Maps.atKey_of_not_has (h.db.Fq k d)] at b;obtain⟨⟨a,n,c⟩,rfl⟩:=rX v _ b;rw [Ft] at b;simp [MF] at b;obtain⟨⟨rfl,rfl,rfl⟩,_⟩:=b;rw [d];exact bC
  .rw [d];exact World.ownsRow_nil _ _ _ _
  .rw [d];trivial
 .obtain⟨_,xs,aY,oL⟩:=h.db.row k d;refine⟨some ⟨gr k,0,none⟩,cr k,xs,λwx e=>?_,λwx e=>?_,oL,λh=>absurd h d,λ_=>⟨rfl,rfl⟩⟩
  .obtain⟨v,ps,bC,b⟩:=(eh h.map e).lookup fX underlying104 (ym wx) (zd:= .held (.slice none 0 0)) (zp:= []) rfl f;rw [h.db.look k d] at b;obtain⟨⟨a,n,c⟩,rfl⟩:=rX v _ b;rw [Ft] at b;simp [MF] at b;obtain⟨⟨rfl,rfl,rfl⟩,_⟩:=b;exact bC
  .have:=(aY.agree (e d)).owns;rw [oL.length] at this;exact this
theorem aM.wrote {S:DS} {m:Nat} {D:DataW Value} (h:aM w F p s S gi ci m D gr cr) (M:k<s) (N:l.length=512)
    (oL:fa w F gi xs (ar S.puts k)) (LJ:aa (λb=>b=m\/(ar S.puts k≠ []/\b=gr k)) w w3) (L:w.heap.size<=g) (E:ay w3 5 g cg (bs l))
    (az:w3.ownsRow 0 36 1 (.slice (some (aD g2 0)) ((ar S.puts k).length+1) bZ) ((ar S.puts k).length+1) (xs ++ [.slice (some (aD g 0)) 512 cg]))
    (fU:(ar S.puts k≠ []/\g2=gr k)\/w.heap.size<=g2) (Yz:w3.ownsMap prog 3 Rs m (S.puts.length+1) (D.put (kk k) (.held (.slice (some (aD g2 0)) ((ar S.puts k).length+1) bZ)))):
  aM w3 (more F w w3) p s (S.put k l) gi ci m (D.put (kk k) (.held (.slice (some (aD g2 0)) ((ar S.puts k).length+1) bZ))) (λj=>if j=k then g2 else gr j) (λj=>if j=k then bZ else cr j):=by
 obtain⟨J,H,O,_,fb,C⟩:=ay.eW az (by simp);cases O;have gF:WideAt.IsKeyLit (kk k):=trivial;have abZ:∀b,ar S.puts k≠ []->b=gr k->∃cur,w.heap[b]? =some (.cells cur 36 (0,0)):=λb n e=>by
  obtain⟨_,o,⟨cur,a,_⟩,_⟩:=h.db.row k n;exact⟨cur,by rw [e];exact a⟩
 have r:∀(b:Nat) (cur:Array Value) (e:TypeId),w.heap[b]? =some (Obj.cells cur e (0,0))->e≠36->w3.heap[b]? =w.heap[b]? :=λb cur e a f=>by
  refine LJ.block b ((kN.1 a).1) (λi=>?_);rcases i with i|⟨n,i⟩
  .exact gA h.map (i▸a) rfl
  .obtain⟨A,eC⟩:=abZ b n i;rw [a] at eC;simp at eC;exact f eC.2
 have PM:∀b c o,ay w 5 b c o->ay w3 5 b c o:=λb c o a=>by
  have eC:=a;obtain⟨cur,aq,_⟩:=eC;exact a.agree (r b cur _ aq (by decide))
 have TW:∀b,F b->more F w w3 b:=λb a=> .inl a;refine⟨.inl h.fp, .inl h.TO, .inl h.fm,λb a=>?_,?_,PM _ _ _ h.Jd,by simpa [DS.put] using Yz,⟨?_,?_,?_,?_,?_⟩,⟨h.ok.len,h.ok.lo,h.ok.hi,λq v=>?_,h.ok.fuse⟩⟩
 .rcases a with a|a
  .exact iP (h.lt b a) LJ.size
  .exact a.2
 .rw [r p _ _ h.dj (by decide)];exact h.dj
 .intro G mb;by_cases f:G=kk k
  .exact⟨k,f,by rw [DS.put,ij,aE rfl];simp⟩
  .rw [Maps.has_put_other f] at mb;obtain⟨j,rfl,d⟩:=h.db.keys G mb;exact⟨j,rfl,by rw [DS.put,ij];split;simp;exact d⟩
 .intro j d;rw [DS.put,ij] at d;split at d
  .simp at d
  .rename_i dG;rw [Maps.has_put_other (by simp [kk];omega)];exact h.db.Fq j d
 .intro j d z;rw [DS.put,ij] at d⊢;by_cases f:j=k
  .subst f;simp only [if_true];rw [Maps.atKey_put_same h.map.isMap gF];simp
  .simp only [f,if_false] at d⊢;rw [Maps.atKey_put_other (by simp [kk];omega)];exact h.db.look j d z
 .intro j d;rw [DS.put,ij] at d⊢;by_cases f:j=k
  .subst f;simp only [if_true];refine⟨?_,_,fb,?_⟩
   .rcases fU with ⟨n,e⟩|fU
    .rw [e];exact .inl (h.db.row j n).1
    .exact .inr ⟨fU,fb.lt⟩
   .refine fa.snoc ⟨g,cg,rfl, .inr ⟨L,E.lt⟩,?_,E⟩ ((oL.carry (λb c o _ _ a=>PM b c o a)).mono TW);intro e;have:=h.lt gi h.TO;omega
  .simp only [f,if_false] at d⊢;obtain⟨K,o,t,pi⟩:=h.db.row j d;refine⟨.inl K,o,t.agree (LJ.block _ t.lt (λi=>?_)),(pi.carry (λb c o _ _ a=>PM b c o a)).mono TW⟩;rcases i with i|⟨n,i⟩
   .obtain⟨cur,a,_⟩:=t;exact gA h.map (i▸a) rfl
   .exact f (h.db.inj j k d n i)
 .intro j u d AX e;rw [DS.put,ij] at d AX;by_cases x:j=k <;> by_cases y:u=k
  .omega
  .subst x;simp only [if_true,y,if_false] at e AX;rcases fU with ⟨n,I⟩|fU
   .exact(h.db.inj j u n AX (by omega))
   .have:=h.lt _ (h.db.row u AX).1;omega
  .subst y;simp only [if_true,x,if_false] at e d;rcases fU with ⟨n,I⟩|fU
   .exact(h.db.inj j u d n (by omega))
   .have:=h.lt _ (h.db.row j d).1;omega
  .simp only [x,y,if_false] at e d AX;exact h.db.inj j u d AX e
 .simp only [DS.put,List.mem_append,List.mem_singleton] at v;rcases v with v|rfl
  .exact h.ok.puts q v
  .exact⟨M,N⟩
theorem MI {n:World} {S:DS} {m:Nat} {D:DataW Value} (h:aM w F p s S gi ci m D gr cr) (y:k<s) (z:l.length=512)
  {q:Nat} (oL:fa w F gi xs (ar S.puts k)) (jx:ar S.puts k= []->a=none/\q=0) (PN:ar S.puts k≠ []->a=some ⟨gr k,0,none⟩/\q=cr k) {o:Obj}
    (aq:bW w w1) (x:w.heap.size<=g) (t:ay w1 5 g cg (bs l))
    (az:n.ownsRow 0 36 1 (.slice (some (aD g2 0)) ((ar S.puts k).length+1) bZ) ((ar S.puts k).length+1) (xs ++ [.slice (some (aD g 0)) 512 cg]))
    (aO:(w1.alloc o).grownBy n (Value.slice a (ar S.puts k).length q).ownBlock) (ic:(Value.slice a (ar S.puts k).length q).ownBlock=some g2\/g2=w1.heap.size+1) (aT:S.puts.length+1<=5000000000000):
  n.heap[p]? =w.heap[p]?/\n.heap[m]? =w.heap[m]?/\∃w3,(Instr.mapUpdate 104 (.map (some m)) (iV (k:Int)) (.slice (some (aD g2 0)) ((ar S.puts k).length+1) bZ)).run prog n= .ok () w3/\
   aM w3 (more F w w3) p s (S.put k l) gi ci m (D.put (kk k) (.held (.slice (some (aD g2 0)) ((ar S.puts k).length+1) bZ))) (λj=>if j=k then g2 else gr j) (λj=>if j=k then bZ else cr j)/\aa F w w3/\w3.heap[p]? =w.heap[p]? :=by
 have E:=h.ok.hi;have aW:=aq.alloc aq.size o;have cJ:∀b,some b=(Value.slice a (ar S.puts k).length q).ownBlock->ar S.puts k≠ []/\b=gr k:=λb e=>by
  by_cases i:ar S.puts k= []
  .rw [(jx i).1] at e;simp [Value.ownBlock] at e
  .rw [(PN i).1] at e;simp [Value.ownBlock] at e;exact⟨i,e⟩
 have d:∀b,b<w.heap.size->¬(ar S.puts k≠ []/\b=gr k)->n.heap[b]? =w.heap[b]? :=λb c f=>
    (aO.block b (iP c aW.size) (λe=>f (cJ b e))).trans (aW.block b c)
 have aY:∀b,ar S.puts k≠ []/\b=gr k->∃cur,w.heap[b]? =some (.cells cur 36 (0,0)):=λb i=>by
  obtain⟨_,G,⟨cur,c,_⟩,_⟩:=h.db.row k i.1;exact⟨cur,by rw [i.2];exact c⟩
 have uK:=d p (h.lt p h.fp) (λf=>by
  obtain⟨cur,c⟩:=aY p f;rw [h.dj] at c;simp at c)
 have BZ:=d m (h.lt m h.fm) (λf=>by
  obtain⟨cur,c⟩:=aY m f;exact gA h.map c rfl)
 obtain⟨w3,bC,Yz,E7⟩:=(eh h.map BZ).update fX underlying104 (by unfold maxLen;omega) (lD k (by omega)) (show Rs (.slice (some (aD g2 0)) ((ar S.puts k).length+1) bZ)=some (.held _, []) from rfl);have AY:=h.lt m h.fm;have UF:=t.lt;have rY:=aq.size;have YA:(w1.alloc o).heap.size=w1.heap.size+1:=by simp
 have ju:=aO.size;have Dj:=E7.size;have r:g≠m:=by omega
 obtain⟨v,u,A,_,fb,_⟩:=ay.eW az (by simp);cases A;have ahs:g2≠m:=λe=>by
  obtain⟨cur,c,_⟩:=fb;rw [e] at c;exact gA (eh h.map BZ) c rfl
 have sV:ay w3 5 g cg (bs l):=by
  refine(t.agree ?_);rw [E7.block g (by omega) (by simpa using r),aO.block g (by omega) (λe=>?_),Below.heap_alloc _ _ _ UF];have:=cJ g e;have:=h.lt _ (h.db.row k this.1).1;omega
 have LJ:aa (λb=>b=m\/(ar S.puts k≠ []/\b=gr k)) w w3:=
    ⟨E7.os.trans (aO.os.trans aW.os),E7.tape.trans (aO.tape.trans aW.tape),E7.output.trans (aO.output.trans aW.output),by omega,λb c f=>
     (E7.block b (by omega) (λe=>f (.inl (by simpa using e)))).trans (d b c (λC=>f (.inr C)))⟩
 refine⟨uK,BZ,w3,bC,h.wrote y z oL LJ x sV (az.kept E7 (.inr (by simpa [Value.ownBlock] using ahs))) ?_ Yz,LJ.mono (λb c=>?_),(E7.block p (by have:=h.lt p h.fp;omega) (λe=>gA h.map h.dj (by simpa using e.symm))).trans uK⟩
 .rcases ic with e|e
  .exact .inl (cJ g2 e.symm)
  .exact .inr (by omega)
 .rcases c with rfl|⟨i,rfl⟩
  .exact h.fm
  .exact(h.db.row k i).1
theorem aM.Jg {S:DS} {m:Nat} {D:DataW Value} (h:aM w F p s S gi ci m D gr cr):
  aM (w.setCell ⟨p,5,none⟩ (.int .i64 (wrap64 (S.writes+1)))) F p s {S with writes:=wrap64 (S.writes+1)} gi ci m D gr cr:=
 h.ni (h.set 5 _).2 ((h.set 5 _).1.trans (by simp [bG])) rfl rfl h.ok.fuse
theorem aM.yo {S:DS} {m:Nat} {D:DataW Value} (h:aM w F p s S gi ci m D gr cr):
  aM (if 0<S.fuse then w.setCell ⟨p,2,none⟩ (.int .i64 (wrap64 (S.fuse-1))) else w) F p s S.fY gi ci m D gr cr/\aa F w (if 0<S.fuse then w.setCell ⟨p,2,none⟩ (.int .i64 (wrap64 (S.fuse-1))) else w):=by
 have b:=h.ok.fuse;by_cases a:0<S.fuse
 .rw [aE a];have e:wrap64 (S.fuse-1)=S.fuse-1:=by unfold wrap64;omega
  refine⟨h.ni (h.set 2 _).2 ((h.set 2 _).1.trans ?_) rfl rfl ?_,aa.setCell w h.fp _⟩
  .rw [e];simp [bG,DS.fY,a]
  .simp only [DS.fY,aE a];omega
 .rw [aA a];have e:S.fY=S:=by simp [DS.fY,a]
  rw [e];exact⟨h,aa.refl _ _⟩
def DS.wrote (S:DS):DS:={S with writes:=wrap64 (S.writes+1)}
theorem B2 {Bh:World} (h:w'.heap.size<=Bh.heap.size):∀k,more F w w' k->more F w Bh k:=λk a=>by
 rcases a with a|a
 .exact .inl a
 .exact .inr ⟨a.1,by omega⟩
theorem MJ {a:World} {S:DS} {m:Nat} {D:DataW Value} (d:F p) (h:aM a (more F w a) p s S gi ci m D gr cr) (f:aa F w a):
  gD (if 0<S.fuse then a.setCell ⟨p,2,none⟩ (.int .i64 (wrap64 (S.fuse-1))) else a) (more F w (if 0<S.fuse then a.setCell ⟨p,2,none⟩ (.int .i64 (wrap64 (S.fuse-1))) else a)) p s S.fY m/\
   aa F w (if 0<S.fuse then a.setCell ⟨p,2,none⟩ (.int .i64 (wrap64 (S.fuse-1))) else a):=by
 obtain⟨c,_⟩:=h.yo;have ef:(if 0<S.fuse then a.setCell ⟨p,2,none⟩ (.int .i64 (wrap64 (S.fuse-1))) else a).heap.size=a.heap.size:=by split <;> simp [World.setCell]
 have aX:aa (λk=>k=p) a (if 0<S.fuse then a.setCell ⟨p,2,none⟩ (.int .i64 (wrap64 (S.fuse-1))) else a):=by
  split
  .exact aa.setCell (F:=λk=>k=p) a (p:=(aD p 2)) rfl _
  .exact aa.refl _ _
 refine⟨gD.mono ⟨gi,ci,D,gr,cr,c⟩ (B2 (Nat.le_of_eq ef.symm)) (λk xq=>?_),f.trans aX (λj e=> .inl (e▸d))⟩;rw [ef];rcases xq with b|b
 .exact h.lt k (.inl b)
 .rw [ef] at b;exact b.2
set_option maxRecDepth 100000 in
theorem B3 {S:DS} {m:Nat} (hd:gD w F p s S m) (k:Nat) (z:k<s) (H:S.fuse≠0) (aT:S.puts.length+1<=5000000000000)
    (x:Addr) (c:Nat) (l:List Int) (fJ:Src w (some x) 512 l):
  Calls prog 51 #[pQ p,iV (k:Int), .slice (some x) 512 c] w λe w'=>e= .returned (iV 0)/\gD w' (more F w w') p s ((S.put k l).wrote.fY) m/\aa F w w':=by
 have v:=ii hd.at;rw [show (S.fuse == 0)=false by simp [H]] at v;obtain⟨R,E,D,T,O,h⟩:=hd;have U:=h.ok.hi;have y:=te p _ (s*512) E k w (by omega) (aL h.dj);rw [show s*512 / 512=s by omega,show (decide (0<=(k:Int)) && decide ((k:Int)<(s:Int)))=true by simp;omega] at y;obtain⟨a,C,xs,gG,ab0,oL,jx,PN⟩:=h.PK z;obtain⟨M,rt,gv,dr,ec⟩:=info_parts td;have pf:=h.lt p h.fp;have AY:=h.lt m h.fm;have nr:=lK S.puts k;have du:∀wx:World,wx.heap[p]? =w.heap[p]?->wx.cell? (aD p 1)=some (.map (some m)):=λwx e=>bD (e.trans h.dj);have jT:=fJ.1;have vJ:=gG w.drew rfl;go_in;go_wp2_with (first|(go_at_call 35;refine v.mono ?_;rintro e w' ⟨rfl,r⟩;have ez:=r.symm;subst ez)|(go_at_call 94;refine y.mono ?_;rintro e w' ⟨rfl,r⟩;have ez:=r.symm;subst ez));go_region_held3 (λw'=>w'.cell? (aD p 1)=some (.map (some m)))
    ((refine du _ ?_;first|rfl|assumption|(refine(Below.heap_alloc _ _ _ (iP ?_ aq.size)).trans ?_ <;> assumption)))
  (first
   |(go_at_call 93;refine(qA x 512 c l w.drew jT (by omega) (λi J=>fJ.2.2 _ rfl i J)).mono ?_;rintro e w1 ⟨g,u,rfl,I,L,fo⟩;have aq:bW w w1:=⟨fo.os,fo.tape,fo.output,fo.size,fo.block⟩;clear fo;have oY:w1.heap[p]? =w.heap[p]? :=aq.block p pf;have Jh:w1.heap[m]? =w.heap[m]? :=aq.block m AY;have cm:=gG w1 Jh;have fy:=λo=>gG (w1.alloc o) ((Below.heap_alloc w1 o m (iP AY aq.size)).trans Jh))
   |(refine step_append_lies _ (by rfl) _ _ _ (by rfl) 0 36 M _ 1 24 underlying62 rt gv dr ec rfl (by omega) (.slice a (ar S.puts k).length C) (ar S.puts k).length xs (by rfl) (ab0 _ (λA=>(Below.heap_alloc w1 _ _ (iP (h.lt _ (h.db.row k A).1) aq.size)).trans (aq.block _ (h.lt _ (h.db.row k A).1))))
       (aD w1.heap.size 0) 1 1 [.slice (some (aD g 0)) 512 u] (by rfl) (by rfl) (World.news_of_block (cs:= #[.slice (some (aD g 0)) 512 u]) (t:=36) (fr:=(0,0)) (heap_alloc_new w1 _)) (by simp [Value.oneCell']) (by omega) (by unfold maxLen;omega) (by omega) (dU _) (w1.heap.size+1) (by simp) ?_;intro Q bZ W fE jU uL oS;obtain⟨uK,BZ,f,LK,d,aV,TX⟩:=MI h z jT oL jx PN aq I L fE jU uL aT))
 all_goals
  obtain⟨n,N,P,b⟩:=cM h.fp (rU d.dj) (ae d.dj 5) d.Jg;have dV:aa F w (f.setCell ⟨p,5,none⟩ (.int .i64 (wrap64 ((S.put k l).writes+1)))):=aV.trans (aa.setCell (F:=λk=>k=p) f (p:=(aD p 5)) rfl _) (λj K=> .inl (K▸n));have q:=BW p (S.put k l).fuse _ (bH b.dj) (ae b.dj 2) b.ok.fuse.1;have ef:(f.setCell ⟨p,5,none⟩ (.int .i64 (wrap64 ((S.put k l).writes+1)))).heap.size=f.heap.size:=by simp [World.setCell]
  have G:more F w (f.setCell ⟨p,5,none⟩ (.int .i64 (wrap64 ((S.put k l).writes+1))))=more F w f:=by unfold more;rw [ef]
  rw [<-G] at b;have bo:Calls prog 106 #[pQ p] (f.setCell ⟨p,5,none⟩ (.int .i64 (wrap64 ((S.put k l).writes+1)))) λe w'=>e= .returned (.tuple #[])/\gD w' (more F w w') p s ((S.put k l).wrote.fY) m/\aa F w w':=
   q.mono (by rintro e w' ⟨rfl,rfl⟩;exact⟨rfl,MJ n b dV⟩)
  go_wp2_with (go_at_call 106;refine bo.mono ?_;rintro e w5 ⟨rfl,jy,dX⟩);go_ret;exact⟨rfl,jy,dX⟩
theorem PO {S:DS} (hd:aP w F p s S) (k:Nat) (g:k<s) (f:S.fuse≠0) (aT:S.puts.length+1<=5000000000000)
    (x:Addr) (c:Nat) (l:List Int) (fJ:Src w (some x) 512 l):
  Calls prog 51 #[pQ p,iV (k:Int), .slice (some x) 512 c] w λe w'=>e= .returned (iV 0)/\aP w' (more F w w') p s ((S.put k l).wrote.fY)/\aa F w w':=by
 obtain⟨m,hd⟩:=hd.m;refine(B3 hd k g f aT x c l fJ).mono ?_;rintro e w' ⟨a,b,d⟩;exact⟨a,b.at,d⟩
def pj (s:Nat) (f:Nat->List Int):List Int:=(List.range s).flatMap f
theorem B4 (s:Nat) (f:Nat->List Int):pj (s+1) f=pj s f ++ f s:=by simp [pj,List.range_succ]
theorem pk (s:Nat) (f:Nat->List Int) (h:∀k,k<s->(f k).length=512):(pj s f).length=s*512:=by
 induction s with
 |zero=>simp [pj]
 |succ s a=>rw [B4,dT,a (λk b=>h k (by omega)),h s (by omega)];omega
theorem PP (h:im.length=s*512) (a:k<s):(bI im k).length=512:=by simp [bI];omega
theorem Dk (a b:List Int) (c:a.length=s*512) (d:k<s):bI (a ++ b) k=bI a k:=by
 unfold bI;rw [List.drop_append_of_le_length (by omega),List.take_append_of_le_length (by simp;omega)]
theorem Bi (a b:List Int) (c:a.length=s*512) (d:b.length=512):bI (a ++ b) s=b:=by
 unfold bI;rw [<-c,List.drop_left,nh (by omega)]
theorem nw (s:Nat) (f:Nat->List Int) (h:∀k,k<s->(f k).length=512) (k:Nat) (a:k<s):bI (pj s f) k=f k:=by
 induction s with
 |zero=>omega
 |succ s c=>
  have b:=pk s f (λk a=>h k (by omega));rw [B4];by_cases e:k=s
  .subst e;exact Bi _ _ b (h k (by omega))
  .rw [Dk _ _ b (by omega)];exact c (λk a=>h k (by omega)) (by omega)
theorem Dl:∀(s:Nat) {a b:List Int},a.length=s*512->b.length=s*512->(∀k,k<s->bI a k=bI b k)->a=b
 |0,a,b,ha,hb,_=>by
  rw [List.eq_nil_of_length_eq_zero (by omega:a.length=0),List.eq_nil_of_length_eq_zero (by omega:b.length=0)]
 |s+1,a,b,ha,hb,h=>by
  have h0:=h 0 (by omega);simp [bI] at h0;have c:=Dl s (a:=a.drop 512) (b:=b.drop 512) (by simp;omega) (by simp;omega) (λk d=>by
   have:=h (k+1) (by omega);simp only [bI,List.drop_drop] at this⊢;rw [show 512+k*512=(k+1)*512 by omega];exact this)
  rw [<-List.take_append_drop 512 a,<-List.take_append_drop 512 b,h0,c]
theorem jg (L:List α) (o:Nat) (cs:List α) (h:o+cs.length<=L.length):(splice L o cs).length=L.length:=by simp [splice];omega
theorem B5 (im l:List Int) (o:Nat):splice (bs im) o (bs l)=bs (splice im o l):=by simp [splice,bs]
theorem ik (L:List Int) (o:Nat) (cs:List Int) (h:o+cs.length<=L.length) (i:Nat):(splice L o cs)[i]? =if o<=i/\i<o+cs.length then cs[i-o]? else L[i]? :=by
 unfold splice;by_cases a:i<o
 .rw [List.getElem?_append_left (by simp;omega),List.getElem?_take,aE a,aA (by omega)]
 .rw [List.getElem?_append_right (by simp;omega)];have e:(L.take o).length=o:=by simp;omega
  rw [e];by_cases b:i<o+cs.length
  .rw [List.getElem?_append_left (by omega),aE ⟨by omega,b⟩]
  .rw [List.getElem?_append_right (by omega),List.getElem?_drop,aA (by omega)];congr 1;omega
theorem me (im:List Int) (k i:Nat):(bI im k)[i]? =if i<512 then im[k*512+i]? else none:=by
 unfold bI;rw [List.getElem?_take];split
 .rw [List.getElem?_drop]
 .rfl
theorem rZ (YB:im.length=s*512) (c:l.length=512) (b:k<s):bI (splice im (k*512) l) j=if j=k then l else bI im j:=by
 apply List.ext_getElem?;intro i;rw [me];by_cases a:i<512
 .rw [aE a,ik _ _ _ (by omega)];by_cases e:j=k
  .subst e;rw [aE (by omega),aE rfl];congr 1;omega
  .rw [aA (by omega),aA e,me,aE a]
 .rw [aA a];split
  .rw [List.getElem?_eq_none (by omega)]
  .rw [me,aA a]
theorem Fw (L:List α) (o n:Nat) (cs:List α) (h:o+cs.length<=n) (b:n<=L.length):(splice L o cs).take n=splice (L.take n) o cs:=by
 have a:(L.take o).length=o:=by rw [List.length_take];omega
 unfold splice;rw [List.take_append,List.take_append,a,nh (l:=L.take o) (by omega),nh (l:=cs) (by omega),List.drop_take,List.take_take,Nat.min_eq_left (by omega:o<=n),Nat.sub_sub]
theorem ay.copied (h:ay w 5 g c (bs im)) (n:TypeId) (i:Option Addr) (d gN Be:Nat) (a:Option Addr) (jR Bf:Nat) (l:List Int) (t:Src w a jR l)
    (hd:0<gN->i=some (aD g d)) (Fo:d+gN<=im.length):
  ∃f,(Builtin.copy_ #[36,36] n #[.slice i gN Be, .slice a jR Bf]).run prog w= .ok (goInt (Nat.min jR gN)) f/\
   ay f 5 g c (bs (splice im d (l.take gN)))/\aa (λk=>k=g) w f/\f.heap.size=w.heap.size:=by
 have j:=h.le;obtain⟨cur,o,p,m,s⟩:=h;have b:(bs im).length=im.length:=by simp [bs]
 rw [b] at j m;obtain⟨f,bC,q,r,ef⟩:=xX w n i g d gN Be a jR Bf cur.toList l (by simpa using o) t hd (by simp;omega);have fy:(bs (l.take gN)).length<=gN:=by simp [bs];omega
 have Bj:(bs (l.take gN)).length=(l.take gN).length:=by simp [bs]
 refine⟨f,bC,⟨_,q,?_,?_,s⟩,r,ef⟩
 .rw [List.size_toArray,jg _ _ _ (by simp only [Array.length_toList];omega)];simpa using p
 .have e:(bs (splice im d (l.take gN))).length=im.length:=by
   rw [<-B5,jg _ _ _ (by rw [b];omega),b]
  rw [e,List.toList_toArray,Fw _ _ _ _ (by omega) (by simp;omega),m,B5]
section
open Go.ChangeMaps (setBlock heap_setBlock_same heap_setBlock_other)
theorem B6 {m:Nat} {D:DataW Value} (h:w.ownsMap prog 3 Rs m n D):
  ∃w',(∀c,(Builtin.clear_ #[104] c #[.map (some m)]).run prog w= .ok (.tuple #[]) w')/\w'.ownsMap prog 3 Rs m 0 (.map [])/\aa (λk=>k=m) w w'/\w'.heap.size=w.heap.size:=by
 obtain⟨e,a,b,F,_,_⟩:=h;refine⟨setBlock w m (.map #[] a),?_,⟨#[],a,heap_setBlock_same b _,⟨by simp,?_,by simp⟩,by simp,by simp⟩,⟨rfl,rfl,rfl,by simp [setBlock],λk _ d=>heap_setBlock_other b _ d⟩,by simp [setBlock]⟩
 .intro c;simp [Builtin.clear_,go_sem,MapKept.run_getObj_map b,MapKept.run_setObj_map _ b,setBlock]
 .exact MapKept.stamped_empty _
theorem aM.qB {S:DS} {m:Nat} {D:DataW Value} (h:aM w F p s S gi ci m D gr cr) (i:w'.ownsMap prog 3 Rs m 0 (.map [])) (d:aa (λk=>k=m) w w'):
  aM w' F p s {S with puts:= []} gi ci m (.map []) gr cr:=by
 have dG:∀(b:Nat) (cur:Array Value) (e:TypeId) (c:Nat×Nat),w.heap[b]? =some (Obj.cells cur e c)->w'.heap[b]? =w.heap[b]? :=λb cur e c a=>
  d.block b (kN.1 a).1 (λf=>gA h.map (f▸a) rfl)
 refine⟨h.fp,h.TO,h.fm,λk g=>iP (h.lt k g) d.size,(dG p _ _ _ h.dj).trans h.dj,?_,i,gO.empty _ _ _ _ _,⟨h.ok.len,h.ok.lo,h.ok.hi,by simp,h.ok.fuse⟩⟩;obtain⟨cur,a,_⟩:=h.Jd;exact h.Jd.agree (dG gi _ _ _ a)
theorem aM.agree {S:DS} {m:Nat} {D:DataW Value} (h:aM w F p s S gi ci m D gr cr) (c:w.heap.size<=w'.heap.size) (a:∀k,F k->w'.heap[k]? =w.heap[k]?):
  aM w' F p s S gi ci m D gr cr:=
   ⟨h.fp,h.TO,h.fm,λk b=>iP (h.lt k b) c,(a p h.fp).trans h.dj,h.Jd.agree (a gi h.TO),eh h.map (a m h.fm),h.db.agree a,h.ok⟩
theorem aM.WV {S:DS} {m:Nat} {D:DataW Value} (h:aM w F p s S gi ci m D gr cr):
  aM (w.setCell ⟨p,6,none⟩ (.int .i64 (wrap64 (S.flushes+1)))) F p s {S with flushes:=wrap64 (S.flushes+1)} gi ci m D gr cr:=
 h.ni (h.set 6 _).2 ((h.set 6 _).1.trans (by simp [bG])) rfl rfl h.ok.fuse
theorem aM.PQ {S:DS} {m:Nat} {D:DataW Value} (h:aM w F p s S gi ci m D gr cr) (a:ay w' 5 gi ci (bs im)) (i:im.length=s*512) (b:aa (λk=>k=gi) w w'):
  aM w' F p s {S with im:=im} gi ci m D gr cr:=by
 obtain⟨cur,d,_⟩:=h.Jd;refine⟨h.fp,h.TO,h.fm,λk f=>iP (h.lt k f) b.size,(b.block p (h.lt p h.fp) (λe=>(h.Jd.ne h.dj (by decide)) e.symm)).trans h.dj,a,eh h.map (b.block m (h.lt m h.fm) (gA h.map d)),
  h.db.carry (λg c xs _ dG a=>a.agree (b.block g a.lt dG)) (λg c xs _ a=>a.other b d (by decide)),⟨i,h.ok.lo,h.ok.hi,h.ok.puts,h.ok.fuse⟩⟩
end
def DS.flush (S:DS) (s:Nat):DS:={S with im:=pj s S.now,puts:= [],flushes:=wrap64 (S.flushes+1)}
theorem Ly {S:DS} (h:aP w F p s S) (b:S.fuse=0):
  Calls prog 52 #[pQ p] w λe w'=>e= .returned (iV 3)/\w'=w:=by
 have a:=ii h;rw [b] at a;go_in;go_wp2_with (go_at_call 35;refine a.mono ?_;rintro e w' ⟨rfl,rfl⟩);go_ret;exact⟨rfl,rfl⟩
theorem Lz {S:DS} {m:Nat} {D:DataW Value} (h:aM w F p s S gi ci m D gr cr) (e:ar S.puts k≠ []):
  k<s/\∃g cg,w.cell? ⟨gr k,(ar S.puts k).length-1,none⟩=some (.slice (some (aD g 0)) 512 cg)/\
   ∃a,(Builtin.copy_ #[36,36] 3 #[.slice (some ⟨gi,k*512,none⟩) 512 512, .slice (some (aD g 0)) 512 cg]).run prog w= .ok (goInt 512) a/\
    aM a F p s {S with im:=splice S.im (k*512) (S.now k)} gi ci m D gr cr/\aa (λb=>b=gi) w a/\a.heap.size=w.heap.size:=by
 have eF:k<s:=by
  obtain⟨l,d⟩:=List.exists_mem_of_ne_nil _ e;unfold ar at d;obtain⟨q,f,_⟩:=List.mem_map.1 d;obtain⟨iA,qC⟩:=List.mem_filter.1 f;have:=(h.ok.puts q iA).1;simp at qC;omega
 have r:=List.length_pos_iff.2 e;obtain⟨_,xs,aY,oL⟩:=h.db.row k e;obtain⟨g,cg,n,o,dG,i⟩:=oL.get ((ar S.puts k).length-1) (by omega);have d:=yn h.ok (k:=k) (j:=(ar S.puts k).length-1) (by omega);have MK:S.now k=(ar S.puts k)[(ar S.puts k).length-1]:=by
  simp [DS.now,DS.gB,List.getD,show¬(ar S.puts k).length=0 by omega,List.getElem?_eq_getElem (show (ar S.puts k).length-1<(ar S.puts k).length by omega)]
 have fJ:=i.src;rw [d] at fJ;have c:=h.ok.len;obtain⟨a,bC,fb,aX,ef⟩:=h.Jd.copied 3 (some ⟨gi,k*512,none⟩) (k*512) 512 512 (some (aD g 0)) 512 cg _ fJ (λ_=>rfl) (by omega);rw [nh (by omega),<-MK] at fb;exact⟨eF,g,cg,aY.cell n,a,bC,h.PQ fb (by rw [jg _ _ _ (by rw [MK];omega)];exact c) aX,aX,ef⟩
theorem YC (S:DS) (im:List Int) (k:Nat) (a:ar S.puts k≠ []):DS.now {S with im:=im} k=S.now k:=by
 have b:=List.length_pos_iff.2 a;simp [DS.now,DS.gB,show¬(ar S.puts k).length=0 by omega]
theorem tj (S:DS) (k:Nat) (a:ar S.puts k= []):S.now k=bI S.im k:=by simp [DS.now,DS.gB,a]
theorem br {S:DS} (h:S.Ok s):∀k,k<s->(S.now k).length=512:=λ_ a=>DS.np h a (bP _)
theorem O5 {wr:World} {S:DS} {m:Nat} {D:DataW Value} (h:aM w F p s S gi ci m D gr cr) (hd:aM wr F p s {S with im:=im} gi ci m D gr cr)
    (g:∀k,k<s->bI im k=S.now k) (d:aa F w wr) (AZ:w3.ownsMap prog 3 Rs m 0 (.map [])) (aV:aa (λk=>k=m) wr w3):
  w3.cell? (aD p 6)=some (iV S.flushes)/\w3.frozen? (aD p 6)=false/\
  Calls prog 106 #[pQ p] (w3.setCell ⟨p,6,none⟩ (.int .i64 (wrap64 (S.flushes+1)))) λe w'=>e= .returned (.tuple #[])/\aP w' F p s ((S.flush s).fY)/\aa F w w':=by
 have e:im=pj s S.now:=Dl s hd.ok.len (pk s _ (br h.ok)) (λk d=>by
  rw [g k d,nw s _ (br h.ok) k d])
 subst e;have b:=hd.qB AZ aV;have a:=b.WV;have dV:aa F w (w3.setCell ⟨p,6,none⟩ (.int .i64 (wrap64 (S.flushes+1)))):=(d.trans aV (λj c=> .inl (c▸h.fm))).trans (aa.setCell (F:=λk=>k=p) w3 (p:=(aD p 6)) rfl _) (λj c=> .inl (c▸h.fp));refine⟨wG b.dj,ae b.dj 6,(BW p S.fuse _ (bH a.dj) (ae a.dj 2) a.ok.fuse.1).mono ?_⟩;rintro e w' ⟨rfl,rfl⟩;have f:=a.yo;exact⟨rfl,⟨gi,ci,m,_,gr,cr,f.1⟩,dV.trans f.2 (λj c=> .inl c)⟩
set_option maxRecDepth 100000 in
theorem TP {S:DS} (hd:aP w F p s S) (P:S.fuse≠0) (aT:S.puts.length+1<=5000000000000):
  Calls prog 52 #[pQ p] w λe w'=>e= .returned (iV 0)/\aP w' F p s ((S.flush s).fY)/\aa F w w':=by
 have J:=ii hd;rw [show (S.fuse == 0)=false by simp [P]] at J;obtain⟨o,v,m,D,f,I,h⟩:=hd;have K:=bD h.dj;have H:=h;go_in;go_wp2_with (first|(go_at_call 35;refine J.mono ?_;rintro e w' ⟨rfl,U⟩;have ez:=U.symm;subst ez)|(at_range;refine wpList_range_own _ rfl _ 104 rfl 3 62 fX underlying104 Rs m S.puts.length D rfl H.map ?_;intro w0 pg uD xZ;go_frame));have wH:aa F w w0:=⟨uD.os,uD.tape,uD.output,uD.size,λk i _=>uD.block k i (by simp)⟩;have wI:=H.agree uD.size (λk i=>uD.block k (H.lt k i) (by simp));have vJ:∀k,k<s->bI S.im k=if has D (kk k) then bI S.im k else S.now k:=λk _=>by
  by_cases l:ar S.puts k= []
  .rw [H.db.Fq k l];simp [tj S k l]
  .rw [H.db.has l];simp
 go_loopw [3,4] (λ_ _ wr=>∃(left:Lit->Bool) (iN:Nat) (im:List Int),wr.ranges prog 3 Rs m w.heap.size S.puts.length D left iN/\aM wr F p s {S with im:=im} o v m D f I/\
     (∀k,k<s->bI im k=if left (kk k) then bI S.im k else S.now k)/\aa F w wr)
    (λ_ _ wr=>wr.rangeLeft m w.heap.size)
 case atStart=>exact⟨_,_,S.im,pg,wI,vJ,wH⟩
 case round=>
  obtain⟨left,iN,im,mI,hd,R,i⟩:=hrel;have n:=hd;have E:=R;go_wp2_with (at_next;refine wpList_next_ranges _ rfl _ rfl 3 fX Rs (Value.int .i64) MF (λW X gF=>by obtain⟨x,rfl,_⟩:=Maps.keyOf_int_inv underlying3 gF;exact⟨x,rfl⟩) rX m w.heap.size S.puts.length _ _ _ rfl mI ?_ ?_)
  .intro _ vJ;obtain⟨C,LK,AZ,aV,_⟩:=B6 n.map;have K:=bD n.dj;obtain⟨Y,Z,bo⟩:=O5 H n (λk i=>by rw [E k i,vJ];simp) i AZ aV;go_wp2_with (go_at_call 106;refine bo.mono ?_;rintro e w5 ⟨rfl,jy,dX⟩);go_ret;exact⟨rfl,jy,dX⟩
  .intro x ca M L X yd yp r ph gF x8 T ic oR bm fU bo IQ;obtain⟨k,rfl,rfl,A,N⟩:=n.db.met gF T ic;have l:ar S.puts k≠ []:=A;obtain⟨d,Bk⟩:∃d,(ar S.puts k).length=d+1:=⟨(ar S.puts k).length-1,by have:=List.length_pos_iff.2 l;omega⟩;have aht:∀j,F j->j≠w.heap.size:=λj c e=>by have:=H.lt j c;omega
   have cC:aM r.drew F p s {S with im:=im} o v m D f I:=n.agree fU.size (λj c=>fU.block j (n.lt j c) (by simpa using aht j c));obtain⟨eF,g,u,du,C,bC,t,aV,Dj⟩:=Lz cC l;have ahu:=cC.Jd.le;have y:=o9 p o (s*512) v s k k r.drew (aL cC.dj) rfl eF rfl cC.ok.hi (by simp [bs,cC.ok.len] at ahu;omega);obtain⟨rfl,rfl,rfl⟩:ca=_/\M=_/\L=_:=(by simpa using N);simp only [Bk] at IQ du;have PR:r.cell? ⟨f k,d,none⟩=some (.slice (some (aD g 0)) 512 u):=(by simpa using du);have mg:d+1<=S.puts.length:=(by rw [<-Bk];exact lK S.puts k);have bz:C.cell? ⟨f k,d,none⟩=some (.slice (some (aD g 0)) 512 u):=by
    obtain⟨xs,aY,_⟩:=(cC.db.row k l).2;obtain⟨cur,q,_⟩:=cC.Jd;exact(World.cell?_of_block (w:=r.drew) (a:=⟨f k,d,none⟩) (aV.block (f k) aY.lt (aY.ne q (by decide)))).trans PR
   rw [(YC S im k l)] at t;have gZ:∀j,j<s->bI (splice im (k*512) (S.now k)) j=if (left (kk j) && !(kk j).sameKey (kk k)) then bI S.im j else S.now j:=λj c=>by
    rw [rZ n.ok.len (br H.ok k eF) eF,ln];by_cases e:j=k
    .subst e;simp
    .rw [aA e,E j c];simp [e]
   have Q:=H.lt o H.TO;have E7:r.grownBy C (some o):=⟨aV.os,aV.tape,aV.output,aV.size,λj c dG=>aV.block j c (λe=>dG (by rw [e]))⟩;have z:m≠o:=by
    obtain⟨cur,q,_⟩:=H.Jd;exact gA H.map q
   have Ji:=oR.kept E7 (by simpa using z) (by simp;omega);have Fx:=Ji;have O:r.drew.cell? ⟨f k,d,none⟩=some (.slice (some (aD g 0)) 512 u):=PR
   dsimp only [MF] at IQ⊢
   have rt:(0:Int)<=(d:Int):=(by omega);have Xa:(d:Int)<(d:Int)+1:=(by omega);have Dm:IntKind.i64.wrap (d:Int)=(d:Int):=(by rw [IntKind.wrap_i64];omega);go_wp2_with fail;go_region_held3 (λw'=>w'.cell? ⟨f k,d,none⟩=some (.slice (some (aD g 0)) 512 u)) (assumption) (first|(go_at_call 107;refine y.mono ?_;rintro e w' ⟨rfl,rfl⟩));all_goals
    go_wp2;go_roundw;case rel=>exact⟨_,ph,_,Fx,t,gZ,(i.trans (G:=λj=>j=w.heap.size) ⟨fU.os,fU.tape,fU.output,fU.size,λj c dG=>fU.block j c (by simpa using dG)⟩ (λj c=> .inr (by omega))).trans (b:=r) (G:=λj=>j=o) ⟨aV.os,aV.tape,aV.output,aV.size,aV.block⟩ (λj c=> .inl (c▸H.TO))⟩
    case measure=>rw [Fx.left_eq,mI.left_eq];exact bm
theorem Jj {S:DS} (h:aP w F p s S) (b:Int) (a:Option Addr) (n c:Nat) (f:S.fuse=0):
  Calls prog 51 #[pQ p,iV b, .slice a n c] w λe w'=>e= .returned (iV 3)/\w'=w:=by
 have d:=ii h;rw [f] at d;go_in;go_wp2_with (go_at_call 35;refine d.mono ?_;rintro e w' ⟨rfl,rfl⟩);go_ret;exact⟨rfl,rfl⟩
theorem Fy {S:DS} (h:aP w F p s S) (a:Int) (i:Option Addr) (n c:Nat) (o:S.fuse≠0) (r:a<0\/(s:Int)<=a):
  Calls prog 51 #[pQ p,iV a, .slice i n c] w λe w'=>e= .returned (iV 11)/\aP w' F p s S.refuse/\aa F w w':=by
 have f:=ii h;rw [show (S.fuse == 0)=false by simp [o]] at f;obtain⟨k,d,m,D,l,j,h⟩:=h;have t:=h.ok.hi;have g:=te p _ (s*512) d a w (by omega) (aL h.dj);rw [show s*512 / 512=s by omega,show (decide (0<=a) && decide (a<(s:Int)))=false by simp;omega] at g;have fb:Calls prog 95 #[pQ p,iV 11] w λe w'=>e= .returned (iV 11)/\aP w' F p s S.refuse/\aa F w w':=
    (rW p S.refused 11 w (ri h.dj) (ae h.dj 7)).mono (by rintro e w' ⟨rfl,rfl⟩;exact⟨rfl,⟨k,d,m,D,l,j,h.refused⟩,aa.setCell w h.fp _⟩)
 go_in;go_wp2_with (first|(go_at_call 35;refine f.mono ?_;rintro e w' ⟨rfl,b⟩;have ez:=b.symm;subst ez)|(go_at_call 94;refine g.mono ?_;rintro e w' ⟨rfl,b⟩;have ez:=b.symm;subst ez)|(go_at_call 95;refine fb.mono ?_;rintro e w' ⟨rfl,hd,q⟩));go_ret;exact⟨rfl,hd,q⟩
theorem Dn {S:DS} (h:aP w F p s S) (k:Nat) (i:Option Addr) (n c:Nat) (q:S.fuse≠0) (g:k<s) (r:n≠512):
  Calls prog 51 #[pQ p,iV (k:Int), .slice i n c] w λe w'=>e= .returned (iV 2)/\aP w' F p s S.refuse/\aa F w w':=by
 have d:=ii h;rw [show (S.fuse == 0)=false by simp [q]] at d;obtain⟨l,b,m,D,o,j,h⟩:=h;have t:=h.ok.hi;have f:=te p _ (s*512) b k w (by omega) (aL h.dj);rw [show s*512 / 512=s by omega,show (decide (0<=(k:Int)) && decide ((k:Int)<(s:Int)))=true by simp;omega] at f;have fb:Calls prog 95 #[pQ p,iV 2] w λe w'=>e= .returned (iV 2)/\aP w' F p s S.refuse/\aa F w w':=
    (rW p S.refused 2 w (ri h.dj) (ae h.dj 7)).mono (by rintro e w' ⟨rfl,rfl⟩;exact⟨rfl,⟨l,b,m,D,o,j,h.refused⟩,aa.setCell w h.fp _⟩)
 have dG:((n:Int) != 512)=true:=by rw [fT];omega
 go_in;go_wp2_with (first|(go_at_call 35;refine d.mono ?_;rintro e w' ⟨rfl,a⟩;have ez:=a.symm;subst ez)|(go_at_call 94;refine f.mono ?_;rintro e w' ⟨rfl,a⟩;have ez:=a.symm;subst ez)|(go_at_call 95;refine fb.mono ?_;rintro e w' ⟨rfl,hd,g⟩));go_ret;exact⟨rfl,hd,g⟩
def DS.lay (S:DS) (calls:Int):DS:=if S.fuse=0 then S else {S with fuse:=max calls (-1)}
def DS.take (S:DS):DS:={S with life:=wrap64 (S.life+1)}
theorem WY {S:DS} (h:aP w F p s S) (a:Int) (i:a<=9223372036854775807):
  Calls prog 26 #[pQ p,iV a] w λe w'=>e= .returned (.tuple #[])/\aP w' F p s (S.lay a)/\aa F w w':=by
 obtain⟨d,b,m,D,f,c,h⟩:=h;refine(TN p S.fuse a w (bH h.dj) (ae h.dj 2)).mono ?_;rintro e w' ⟨rfl,rfl⟩;by_cases g:S.fuse=0
 .simp only [g,if_true,DS.lay];exact⟨trivial,⟨d,b,m,D,f,c,h⟩,aa.refl _ _⟩
 .simp only [g,if_false,DS.lay];exact⟨trivial,⟨d,b,m,D,f,c,h.ni (h.set 2 _).2 ((h.set 2 _).1.trans (by simp [bG])) rfl rfl (by simp only;omega)⟩,aa.setCell w h.fp _⟩
theorem UK {S:DS} (h:aP w F p s S):
  Calls prog 48 #[pQ p] w λe w'=>e= .returned (iV (wrap64 (S.life+1)))/\aP w' F p s S.take/\aa F w w':=by
 obtain⟨c,a,m,D,d,b,h⟩:=h;refine(PB p S.life w (fI h.dj) (ae h.dj 3)).mono ?_;rintro e w' ⟨rfl,rfl⟩;exact⟨rfl,⟨c,a,m,D,d,b,h.ni (h.set 3 _).2 ((h.set 3 _).1.trans (by simp [bG,DS.take])) rfl rfl h.ok.fuse⟩,aa.setCell w h.fp _⟩
def jh (S:DS) (k:Nat) (A B C:Nat):List Int:=
   (S.gB k (A%((ar S.puts k).length+1))).take (C%513) ++ (S.gB k (B%((ar S.puts k).length+1))).drop (C%513)
theorem Fz {S:DS} {m:Nat} {D:DataW Value} (h:aM w F p s S gi ci m D gr cr) (k:Nat) (f:k<s) (j:Nat) (b:Int) (a:b=(j:Int)) (d:j<=(ar S.puts k).length) (aT:S.puts.length<=140737488355328):
  Calls prog 96 #[pQ p,iV (k:Int),iV b] w λe w'=>∃g o c,e= .returned (.slice (some (aD g o)) 512 c)/\F g/\512<=c/\(g=gi->o=k*512/\S.gB k j=bI S.im k)/\Src w (some (aD g o)) 512 (S.gB k j)/\w'=w:=by
 subst a;exact Fu h k f j d aT
theorem Do (x:Int) (y:Nat) (h:max x 0=(y:Int)) (w:World):(Builtin.max_ #[3,3] 3 #[iV x,iV 0]).run prog w= .ok (iV (y:Int)) w:=by
 rw [<-h];by_cases a:x<0
 .simp [Builtin.max_,Builtin.max2,a,show max x 0=0 by omega]
 .simp [Builtin.max_,Builtin.max2,a,show max x 0=x by omega]
theorem Src.front (h:Src w (some x) n l) (c:j<=n):Src w (some x) j (l.take j):=by
 have d:=h.1;refine⟨by rw [List.length_take];omega,(λh=>by cases h),λy b i a=>?_⟩;rw [h.2.2 y b i (by omega)];simp [List.getD,a]
theorem Jk (im b lb:List Int) (o a n:Nat) (l:a<=n) (E8:b.length=n) (Bj:lb.length=n) (k:o+n<=im.length):
  splice (splice im o (b.take a)) (o+a) (lb.drop a)=splice im o (b.take a ++ lb.drop a):=by
 have c:(b.take a).length=a:=by rw [List.length_take];omega
 have d:(lb.drop a).length=n-a:=by rw [List.length_drop];omega
 have e:(b.take a ++ lb.drop a).length=n:=by rw [dT,c,d];omega
 have f:(splice im o (b.take a)).length=im.length:=jg _ _ _ (by omega);apply List.ext_getElem?;intro i;rw [ik _ _ _ (by omega),ik _ _ _ (by omega),ik _ _ _ (by omega),c,d,e];by_cases g:o<=i/\i<o+a
 .rw [aA (by omega),aE (by omega),aE (by omega),List.getElem?_append_left (by omega)]
 .by_cases j:o+a<=i/\i<o+n
  .rw [aE (by omega),aE (by omega),List.getElem?_append_right (by omega),c,show i-(o+a)=i-o-a by omega]
  .rw [aA (by omega),aA (by omega),aA (by omega)]
theorem FA (im b:List Int) (k a i:Nat) (E8:(b.take a).length=a) (d:k*512+a<=im.length) (c:a+i<512):
    (splice im (k*512) (b.take a)).getD (k*512+(a+i)) 0=(bI im k).getD (a+i) 0:=by
 rw [List.getD,List.getD,ik _ _ _ (by omega),aA (by omega),me,aE c]
theorem PS {S:DS} {m:Nat} {D:DataW Value} (h:aM w F p s S gi ci m D gr cr) (M:k<s) {c:Nat} (Bl:c<=512) {o lb:List Int}
  {z C ca n u:Nat} (UL:Src w (some (aD z C)) 512 o) (sb:Src w (some (aD n u)) 512 lb) (E9:n=gi->u=k*512/\lb=bI S.im k):
  ∃d,(Builtin.copy_ #[36,36] 3 #[.slice (some ⟨gi,k*512,none⟩) c 512, .slice (some (aD z C)) c ca]).run prog w= .ok (goInt (Nat.min c c)) d/\d.heap.size=w.heap.size/\
     (∀r q v x,(c<512->r=some ⟨gi,k*512+c,none⟩/\q=some ⟨n,u+c,none⟩)->
    ∃w3,(Builtin.copy_ #[36,36] 3 #[.slice r (512-c) v, .slice q (512-c) x]).run prog d.drew= .ok (goInt (Nat.min (512-c) (512-c))) w3/\
     aM w3 F p s {S with im:=splice S.im (k*512) (o.take c ++ lb.drop c)} gi ci m D gr cr/\aa F w w3):=by
 obtain⟨f,E8,Bj⟩:=jw h.ok.len UL.1 sb.1;obtain⟨d,bC,fb,aX,ef⟩:=h.Jd.copied 3 (some ⟨gi,k*512,none⟩) (k*512) c 512 (some (aD z C)) c ca (o.take c) (UL.front Bl) (λ_=>rfl) (by omega);rw [List.take_take,Nat.min_self] at fb;have fy:(splice S.im (k*512) (o.take c)).length=s*512:=by rw [jg _ _ _ (by rw [List.length_take];omega)];exact f
 refine⟨d,bC,ef,λr q v x g=>?_⟩;have ab2:ay d.drew 5 gi ci (bs (splice S.im (k*512) (o.take c))):=fb;have fJ:Src d.drew q (512-c) (lb.drop c):=by
  refine⟨by rw [List.length_drop];omega,λe=>?_,λy H i L=>?_⟩
  .by_cases t:c<512
   .rw [(g t).2] at e;cases e
   .omega
  .have t:c<512:=(by omega);rw [(g t).2] at H;cases H;rw [aK];have h0:=sb.2.2 _ rfl (c+i) (by omega);rw [aK] at h0;have K:(lb.drop c).getD i 0=lb.getD (c+i) 0:=(by simp [List.getD]);rw [K];by_cases A:n=gi
   .obtain⟨rfl,rfl⟩:=E9 A;subst A;have E:=ab2.byte (i:=k*512+(c+i)) (by omega);rw [aK,Nat.zero_add] at E;rw [Nat.add_assoc,E,FA _ _ _ _ _ (by rw [List.length_take];omega) (by omega) (by omega)]
   .have:=World.cell?_of_block (w:=w) (w':=d) (a:=⟨n,u+(c+i),none⟩) (aX.block n (World.block_lt_of_cell? _ _ h0) A);rw [Nat.add_assoc];exact this.trans h0
 obtain⟨w3,LK,sV,aV,_⟩:=ab2.copied 3 r (k*512+c) (512-c) v q (512-c) x (lb.drop c) fJ (λt=>(g (by omega)).1) (by omega);rw [nh (l:=lb.drop c) (by rw [List.length_drop];omega)] at sV;have e:=Jk S.im o lb (k*512) c 512 Bl E8 Bj (by omega);rw [e] at sV;have ab3:=aX.trans (b:=d) (G:=λb=>b=gi) ⟨aV.os,aV.tape,aV.output,aV.size,aV.block⟩ (λj J=> .inl J);exact⟨w3,LK,h.PQ sV (by rw [jg _ _ _ (by rw [dT,List.length_take,List.length_drop];omega)];exact f) ab3,ab3.mono (λb I=>I▸h.TO)⟩
set_option maxRecDepth 100000 in
theorem UM {S:DS} {m:Nat} {D:DataW Value} (h:aM w F p s S gi ci m D gr cr) (k:Nat) (y:k<s) (aT:S.puts.length+1<=5000000000000)
    (A B C:Int) (A' B' f:Nat) (R:max A 0=(A':Int)) (T:max B 0=(B':Int)) (U:max C 0=(f:Int)) (J:A<=9223372036854775807) (K:B<=9223372036854775807) (YD:C<=9223372036854775807):
  Calls prog 70 #[pQ p,iV (k:Int), .agg #[iV A,iV B,iV C]] w λe w'=>e= .returned (.tuple #[])/\aM w' F p s {S with im:=splice S.im (k*512) (jh S k A' B' f)} gi ci m D gr cr/\aa F w w':=by
 have N:=Do A A' R;have O:=Do B B' T;have P:=Do C f U;have Y:(A':Int)<=9223372036854775807:=by omega
 have eM:(B':Int)<=9223372036854775807:=by omega
 have YE:(f:Int)<=9223372036854775807:=by omega
 have nr:=lK S.puts k;have hd:aM (w.alloc (.cells #[.int .i64 A, .int .i64 B, .int .i64 C] 115)) F p s S gi ci m D gr cr:=h.agree (by simp) (λj M=>Below.heap_alloc _ _ _ (h.lt j M));have oZ:aa F w (w.alloc (.cells #[.int .i64 A, .int .i64 B, .int .i64 C] 115)):=aa.alloc _ _ _;obtain⟨a,cc,xs,gG,_⟩:=hd.PK y;have W:=bD hd.dj;have cm:=gG _ rfl;have E:=hd.Jd.le;have x:=o9 p gi (s*512) ci s k k _ (aL hd.dj) rfl y rfl h.ok.hi (by simp [bs,hd.ok.len] at E;omega);have Jh:∀j:Nat,(j:Int)%(((ar S.puts k).length:Int)+1)=((j%((ar S.puts k).length+1):Nat):Int):=λj=>by push_cast;rfl
 have BZ:∀j:Nat,j%((ar S.puts k).length+1)<=(ar S.puts k).length:=λj=>Nat.le_of_lt_succ (Nat.mod_lt _ (by omega));have u:=Fz hd k y (A'%((ar S.puts k).length+1)) _ (Jh A') (BZ A') (by omega);have v:=Fz hd k y (B'%((ar S.puts k).length+1)) _ (Jh B') (BZ B') (by omega);have t:(f:Int)%513=((f%513:Nat):Int):=by push_cast;rfl
 obtain⟨c,Bl⟩:=bQ (f%513);rw [<-Bl] at t;have Xb:c<=512:=by omega
 obtain⟨Q,ab4⟩:=bL hd Bl;clear h R T U hd gG J K YD Jh BZ E Bl;go_in;go_wp2_with fail;refine u.mono ?_;rintro e w2 ⟨ga,oa,ca,rfl,Z,tk,L,UL,g⟩;have ez:=g.symm;subst ez;clear u g;have n:=yh UL;clear UL L;go_wp2_with fail;refine v.mono ?_;rintro e w3 ⟨H,I,cb,rfl,Dp,hcb,E9,sb,g⟩;have ez:=g.symm;subst ez;clear v g;obtain⟨q,l⟩:=bL sb E9;clear sb E9;go_wp2_with fail;refine bE x λw4 g=>?_;have ez:=g.symm;subst ez;clear x g;have yq:aM (w.alloc (.cells #[.int .i64 A, .int .i64 B, .int .i64 C] 115)).drew F p s S gi ci m D gr cr:=Q.o.agree (bP _) (λ_ _=>rfl);obtain⟨w5,ab5,_,oM⟩:=PS (ca:=ca) yq y Xb n.o q.o l.o;have vK:=yh oM;have Jl:(0:Int)<=(c:Int):=by omega
 have A2:(c:Int)<=512:=by omega
 have B7:(c:Int)<=(ca:Int):=by omega
 have ML:(c:Int)<=(cb:Int):=by omega
 clear yq oM;go_wp2_with fail;go_region_held3 (λ_=>True) (trivial) (fail);go_wp2_with fail;have jz:∀d,aM d F p s {S with im:=splice S.im (k*512) (List.take c (S.gB k (A'%((ar S.puts k).length+1))) ++ List.drop c (S.gB k (B'%((ar S.puts k).length+1))))} gi ci m D gr cr->
   aa F (w.alloc (.cells #[.int .i64 A, .int .i64 B, .int .i64 C] 115)).drew d->aM d F p s {S with im:=splice S.im (k*512) (jh S k A' B' f)} gi ci m D gr cr/\aa F w d:=λd X r=>by
  refine⟨?_,oZ.trans (b:=w.alloc (.cells #[.int .i64 A, .int .i64 B, .int .i64 C] 115)) (G:=F) ⟨r.os,r.tape,r.output,r.size,r.block⟩ (λj M=> .inl M)⟩;unfold jh;rw [<-ab4.o];exact X
 have kR:=yh jz;clear jz oZ ab5 N O P cm W Q n q l ab4 t;rcases(show c=0\/(0<c/\c<512)\/c=512 by omega) with h5|h5|h5
 .subst h5;obtain⟨d,FB,po,ji⟩:=vK.o (some ⟨gi,k*512,none⟩) (some (aD H I)) 512 cb (λ_=>⟨rfl,rfl⟩);simp only [Nat.sub_zero] at FB;have i:=kR.o d po ji;clear po ji vK kR;go_region_held3 (λ_=>True) (trivial) (fail);all_goals
   go_end0
   exact⟨rfl,i⟩
 .obtain⟨d,FB,po,ji⟩:=vK.o (some ⟨gi,k*512+c,none⟩) (some ⟨H,I+c,none⟩) (512-c) (cb-c) (λ_=>⟨rfl,rfl⟩);have i:=kR.o d po ji;have z1:¬512=c:=by omega
  have z2:¬cb=c:=by omega
  clear po ji vK kR;go_region_held3 (λ_=>True) (trivial) (fail);all_goals
   go_end0
   exact⟨rfl,i⟩
 .subst h5;by_cases z:cb=512
  .subst z;obtain⟨d,FB,po,ji⟩:=vK.o (some ⟨gi,k*512,none⟩) (some (aD H I)) 0 0 (λh=>by omega);simp only [Nat.sub_self] at FB;have i:=kR.o d po ji;clear po ji vK kR;go_region_held3 (λ_=>True) (trivial) (fail);all_goals
    go_end0
    exact⟨rfl,i⟩
  .obtain⟨d,FB,po,ji⟩:=vK.o (some ⟨gi,k*512,none⟩) (some ⟨H,I+512,none⟩) 0 (cb-512) (λh=>by omega);simp only [Nat.sub_self] at FB;have i:=kR.o d po ji;clear po ji vK kR;go_region_held3 (λ_=>True) (trivial) (fail);all_goals
    go_end0
    exact⟨rfl,i⟩
abbrev yr (l:List Nat):List Value:=l.map (λk:Nat=>Value.int .i64 (k:Int))
def aG (S:DS) (s:Nat):List Nat:=(List.range s).filter (λk=> !(ar S.puts k).isEmpty)
theorem nX {S:DS}:k∈aG S s↔k<s/\ar S.puts k≠ []:=by
 simp [aG,List.mem_filter]
theorem LL (l:List Nat):(l.map (λk:Nat=>(k:Int))).map (Value.int .i64)=yr l:=by rw [List.map_map];rfl
def yt:Prop:=∀(g cap:Nat) (zs:List Int) (w:World),ay w 3 g cap (zs.map (Value.int .i64))->zs.length<4611686018427387904->
 Calls prog 125 #[.slice (some (aD g 0)) zs.length cap] w λe w'=>e= .returned (.tuple #[])/\ay w' 3 g cap ((zs.mergeSort λx y=>decide (x<=y)).map (Value.int .i64))/\aa (λk=>k=g) w w'
def Dq:Prop:=∀(w:World),Calls prog 125 #[.slice none 0 0] w λe w'=>e= .returned (.tuple #[])/\bW w w'
theorem FD {S:DS} (dh:S.Ok s) (i:ks.Nodup) (g:∀k,k∈ks↔ar S.puts k≠ []):
    ((ks.map (λk:Nat=>(k:Int))).mergeSort λx y=>decide (x<=y))=(aG S s).map (λk:Nat=>(k:Int)):=by
 have bm:∀k,ar S.puts k≠ []->k<s:=λk j=>by
  obtain⟨l,f⟩:=List.exists_mem_of_ne_nil _ j;unfold ar at f;obtain⟨q,m,_⟩:=List.mem_map.1 f;obtain⟨iA,qC⟩:=List.mem_filter.1 m;have:=(dh.puts q iA).1;simp at qC;omega
 have mg:(aG S s).Nodup:=List.Pairwise.filter _ List.nodup_range;have PU:=(List.perm_ext_iff_of_nodup i mg).2 (λk=>by
  rw [g,nX];exact⟨λh=>⟨bm k h,h⟩,λh=>h.2⟩)
 have bo:((aG S s).map (λk:Nat=>(k:Int))).Pairwise (λx y=>decide (x<=y)=true):=by
  refine List.pairwise_map.2 ?_;have:(aG S s).Pairwise (λx y=>x<y):=List.Pairwise.filter _ List.pairwise_lt_range;exact this.imp (λh=>by simp;omega)
 have o:∀a b c:Int,decide (a<=b)=true->decide (b<=c)=true->decide (a<=c)=true:=λa b c d e=>by simp only [decide_eq_true_eq] at*;omega
 have n:∀a b:Int,(decide (a<=b) || decide (b<=a))=true:=λa b=>by simp only [Bool.or_eq_true,decide_eq_true_eq];omega
 refine List.Perm.eq_of_pairwise (le:=λa b=>decide (a<=b)=true) (λa b _ _ d e=>?_) (List.pairwise_mergeSort o n _) bo ((List.mergeSort_perm _ _).trans (PU.map _));simp only [decide_eq_true_eq] at d e;omega
theorem UN (vL:yt) (vM:Dq) {S:DS} {m:Nat} {D:DataW Value} (h:aM w F p s S gi ci m D gr cr) (aT:S.puts.length+1<=5000000000000):
  Calls prog 69 #[pQ p] w λe w'=>∃a c,e= .returned (.slice a (aG S s).length c)/\(aG S s≠ []->∃g,a=some (aD g 0)/\w.heap.size<=g/\ay w' 3 g c (yr (aG S s)))/\bW w w':=by
 obtain⟨J,rt,gv,dr,ec⟩:=info_parts Dh;have O:=bD h.dj;have AY:=h.lt m h.fm;have H:=yh h;clear h;go_in;go_wp2_with (at_range;refine wpList_range_own _ rfl _ 104 rfl 3 62 fX underlying104 Rs m S.puts.length D rfl H.o.map ?_;intro w0 pg uD xZ;go_frame);have fo:=(bi _ w).grown uD (bP _) (λj l=>by cases l);clear uD;go_loopw [3,4] (λv _ wr=>∃(left:Lit->Bool) (iN:Nat) (ks:List Nat),wr.ranges prog 3 Rs m w.heap.size S.puts.length D left iN/\wr.ownsRow (w.heap.size+1) 3 1 v ks.length (yr ks)/\
   ks.Nodup/\(∀k,k∈ks↔ar S.puts k≠ []/\left (kk k)=false)/\bW w wr/\ks.length+iN<=S.puts.length/\w.heap.size+1<=wr.heap.size)
    (λ_ _ wr=>wr.rangeLeft m w.heap.size)
 case atStart=>
  refine⟨_,_, [],pg,World.ownsRow_nil _ _ _ _,List.nodup_nil,λk=>?_,fo,by simpa using H.o.map.size_le,by omega⟩;constructor
  .intro q;cases q
  .rintro ⟨r,t⟩;rw [H.o.db.has r] at t;cases t
 case round=>
  clear pg fo xZ;obtain⟨left,iN,ks,mI,aY,IR,rj,i,nY,ef⟩:=hrel;go_wp2_with (at_next;refine wpList_next_ranges _ rfl _ rfl 3 fX Rs (Value.int .i64) MF (λK L gF=>by obtain⟨x,rfl,_⟩:=Maps.keyOf_int_inv underlying3 gF;exact⟨x,rfl⟩) rX m w.heap.size S.puts.length _ _ _ rfl mI ?_ ?_)
  .intro _ vJ;have yu:∀k,k∈ks↔ar S.puts k≠ []:=λk=>by rw [rj,vJ];simp
   have Jm:=FD H.o.ok IR yu;have d:ks.length=(aG S s).length:=by
    have:=congrArg List.length Jm;rw [List.length_mergeSort] at this;simpa using this
   have B8:ks= []->aG S s= []:=λe=>by rw [e] at d;exact List.eq_nil_of_length_eq_zero d.symm
   rcases aY.2 with ⟨rfl,I⟩|⟨g,f,cur,rfl,T,sd,R,A,C,n⟩
   .have eF:=B8 (List.eq_nil_of_length_eq_zero I);have fZ:=vM wr;clear aY rj yu Jm mI H vL vM;go_wp2_with (go_at_call 125;refine fZ.mono ?_;rintro e N ⟨rfl,A3⟩);go_ret;exact⟨none,0,by simp [eF],λh=>absurd eF h,i.trans (A3.mono i.size)⟩
   .have TY:ay wr 3 g f ((ks.map (λk:Nat=>(k:Int))).map (Value.int .i64)):=by
     rw [LL];refine⟨cur,sd,by simpa using C,?_,A⟩;simp only [Nat.mul_one] at n;rw [show (yr ks).length=ks.length by simp [yr]];exact n
    have l6:=vL g f _ wr TY (by simp;omega);simp only [List.length_map] at l6;rw [Jm] at l6;have MM:=yh d;clear aY rj yu Jm mI H vL vM TY d n;go_wp2_with (go_at_call 125;refine l6.mono ?_;rintro e N ⟨rfl,Dr,A4⟩);go_ret;refine⟨some (aD g 0),f,?_,λ_=>⟨g,rfl,by omega,?_⟩,i.trans (A4.below (λj l=>by omega) i.size)⟩
    .rw [<-MM.o];rfl
    .rw [<-LL];exact Dr
  .intro x ca Q P L U W y ph gF x8 u ic oR bm fU bo IQ;obtain⟨k,rfl,rfl,r,G⟩:=H.o.db.met gF u ic;have xr:k∉ks:=λq=>by rw [((rj k).1 q).2] at x8;cases x8
   have lL:=aY.kept fU (.inr (λe=>by have:=aY.lt _ e;omega));have aW:=i.grown fU i.size (λj l=>by cases l;exact bP _);have ju:w.heap.size+1<=y.heap.size:=(by omega);have FE:∀j,j∈ks ++ [k]↔ar S.puts j≠ []/\(left (kk j) && !(kk j).sameKey (kk k))=false:=λj=>by
    rw [List.mem_append,List.mem_singleton,rj,ln];by_cases e:j=k
    .subst e;simp [r]
    .simp [e]
   have d:ks.length+1<=5000000000000:=(by omega);obtain⟨PX,yv⟩:=bL FE lL;clear gF u ic bo fU G rj FE lL;go_wp2_with (at_builtin;refine wpList_append_own _ rfl _ _ 23 rfl (w.heap.size+1) 3 J (iV 0) 1 8 underlying23 rt gv dr ec rfl (by decide) _ _ _ rfl (yv.o.alloc _) (aD y.heap.size 0) 1 1 [iV (k:Int)] rfl rfl (cell_one_new _ _ _) (ints_oneCell .i64 [(k:Int)]) (by unfold maxLen;omega) (by omega) (by simp;omega) ?_);intro M z cJ aO jx;have uM:=λj e=>(aY.lt j e).1;have Ji:=(oR.alloc (.cells #[.int .i64 (k:Int)] 3)).kept aO (λe=>by have:=uM m e.symm;omega) (λe=>by have:=uM _ e.symm;omega);have bz:=(aW.alloc (by omega) _).grown aO (by simp;omega) (λj e=>by have:=uM j e;omega);have Dj:w.heap.size+1<=z.heap.size:=(by have:=aO.size;simp at this;omega);have YF:(ks ++ [k]).Nodup:=List.nodup_append.2 ⟨IR,by simp,by intro a E b eC e;simp at eC;subst eC;exact xr (e▸E)⟩;have fE:z.ownsRow (w.heap.size+1) 3 1 M (ks ++ [k]).length (yr (ks ++ [k])):=(by simpa [yr] using cJ);obtain⟨iW,Fx⟩:=bL fE Ji;clear cJ aO jx fE Ji aY yv oR IQ;go_wp2;go_roundw;case rel=>exact⟨_,ph,ks ++ [k],Fx.o,iW.o,YF,PX.o,bz,by simp;omega,Dj⟩
   case measure=>rw [Fx.o.left_eq,mI.left_eq];exact bm
abbrev P3:=Int×Int×Int
def kS (w:World) (a:Option Addr) (n:Nat) (l:List P3):Prop:=
 l.length=n/\(a=none->n=0)/\(∀x,a=some x->∀i (hi:i<l.length),∃b o,x=(aD b o)/\w.cell? ⟨b,o+i*3,none⟩=some (iV l[i].1)/\w.cell? ⟨b,o+i*3+1,none⟩=some (iV l[i].2.1)/\w.cell? ⟨b,o+i*3+2,none⟩=some (iV l[i].2.2))/\
  ∀q∈l,q.1<=9223372036854775807/\q.2.1<=9223372036854775807/\q.2.2<=9223372036854775807
def mh (l:List P3) (i:Nat):P3:=if h:0<l.length then l[i%l.length]'(Nat.mod_lt _ h) else (0,0,0)
def uN (S:DS) (k:Nat) (q:P3):List Int:=jh S k (max q.1 0).toNat (max q.2.1 0).toNat (max q.2.2 0).toNat
def fd (S:DS) (l:List P3) (k:Nat):List Int:=if ar S.puts k= [] then bI S.im k else uN S k (mh l (aG S k).length)
def DS.il (S:DS) (s:Nat) (l:List P3):DS:={S with im:=pj s (fd S l),puts:= [],fuse:= -1,life:=wrap64 (S.life+1)}
theorem pp (S:DS) (s:Nat):aG S (s+1)=aG S s ++ (if ar S.puts s= [] then [] else [s]):=by
 unfold aG;rw [List.range_succ,List.filter_append];congr 1;by_cases h:ar S.puts s= [] <;> simp [h]
theorem yw (S:DS):∀(s j k:Nat),(aG S s)[j]? =some k->(aG S k).length=j
 |0,j,k,h=>by simp [aG] at h
 |s+1,j,k,h=>by
  rw [pp] at h;by_cases a:j<(aG S s).length
  .rw [List.getElem?_append_left a] at h;exact yw S s j k h
  .rw [List.getElem?_append_right (by omega)] at h;split at h
   .simp at h
   .have Xc:j-(aG S s).length=0:=by
     have:=(mG.1 h).1;simp at this;omega
    rw [Xc] at h;simp at h;subst h;omega
theorem PY {S:DS} (h:S.Ok s) (a:k<s) (A B C:Nat):(jh S k A B C).length=512:=by
 unfold jh;rw [dT,List.length_take,List.length_drop,(DS.np h a (j:=A%((ar S.puts k).length+1)) (Nat.le_of_lt_succ (Nat.mod_lt _ (by omega)))),(DS.np h a (j:=B%((ar S.puts k).length+1)) (Nat.le_of_lt_succ (Nat.mod_lt _ (by omega))))];omega
theorem tp {S:DS} (h:S.Ok s) (l:List P3):∀k,k<s->(fd S l k).length=512:=λk a=>by
 unfold fd;split
 .exact PP h.len a
 .exact PY h a _ _ _
theorem UO (S:DS) (im:List Int) (k A B C:Nat) (h:bI im k=bI S.im k):jh {S with im:=im} k A B C=jh S k A B C:=by
 have e:∀j,DS.gB {S with im:=im} k j=S.gB k j:=λj=>by
  unfold DS.gB;split
  .exact h
  .rfl
 unfold jh;rw [e,e]
theorem mJ (h:ks[j]? =some k0) (k:Nat):k∈ks.take (j+1)↔k∈ks.take j\/k=k0:=by
 rw [List.take_add_one,h];simp
theorem Ds (f:ks.Nodup) (h:ks[j]? =some k0):k0∉ks.take j:=by
 obtain⟨c,e⟩:=mG.1 h;intro d;obtain⟨i,b,a⟩:=List.mem_iff_getElem.1 d;rw [List.getElem_take] at a;have:=List.getElem_inj (h₀:=by simp at b;omega) (h₁:=c) f |>.1 (a.trans e.symm);simp at b;omega
theorem yx {S:DS} (dh:S.Ok s) (l:List P3) (YB:im.length=s*512) (a:(aG S s)[j]? =some k)
    (f:∀i,i<s->bI im i=if i∈(aG S s).take j then fd S l i else bI S.im i):
  k<s/\ar S.puts k≠ []/\uN {S with im:=im} k (mh l j)=fd S l k/\∀i,i<s->bI (splice im (k*512) (fd S l k)) i=if i∈(aG S s).take (j+1) then fd S l i else bI S.im i:=by
 obtain⟨eF,d⟩:=nX.1 (gu a);have IR:(aG S s).Nodup:=List.Pairwise.filter _ List.nodup_range;have Jm:=f k eF;rw [aA (Ds IR a)] at Jm;have e:uN {S with im:=im} k (mh l j)=fd S l k:=by
  unfold uN fd;rw [aA d,yw S s j k a,UO S im k _ _ _ Jm];rfl
 refine⟨eF,d,e,λi g=>?_⟩;rw [rZ YB (tp dh l k eF) eF];by_cases c:i=k
 .subst c;rw [aE rfl,aE ((mJ a i).2 (.inr rfl))]
 .rw [aA c,f i g];by_cases b:i∈(aG S s).take j
  .rw [aE b,aE ((mJ a i).2 (.inl b))]
  .rw [aA b,aA (λh=>by rcases(mJ a i).1 h with h|h;exact b h;exact c h)]
theorem uO {S:DS} (dh:S.Ok s) (l:List P3) (YB:im.length=s*512) (c:∀i,i<s->bI im i=if i∈(aG S s).take (aG S s).length then fd S l i else bI S.im i):im=pj s (fd S l):=by
 refine Dl s YB (pk s _ (tp dh l)) (λk a=>?_);rw [c k a,nw s _ (tp dh l) k a,List.take_length];by_cases b:ar S.puts k= []
 .rw [aA (λh=>(nX.1 h).2 b)];simp [fd,b]
 .rw [aE (nX.2 ⟨a,b⟩)]
theorem kS.keeps {l:List P3} (h:kS w a n l) (m:aa F w w') (j:∀x,a=some x->¬F x.block):kS w' a n l:=by
 refine⟨h.1,h.2.1,λx d i k=>?_,h.2.2.2⟩;obtain⟨b,o,rfl,c,f,g⟩:=h.2.2.1 x d i k;have e:=m.block b (World.block_lt_of_cell? _ _ c) (j _ d);exact⟨b,o,rfl,(World.cell?_of_block (w:=w) (a:=(aD b _)) e).trans c,(World.cell?_of_block (w:=w) (a:=(aD b _)) e).trans f,(World.cell?_of_block (w:=w) (a:=(aD b _)) e).trans g⟩
theorem MN {wr:World} {S:DS} {m:Nat} {D:DataW Value} {l:List P3} (h:aM w F p s S gi ci m D gr cr) (hd:aM wr F p s {S with im:=im} gi ci m D gr cr)
    (d:im=pj s (fd S l)) (e:aa F w wr) (AZ:w3.ownsMap prog 3 Rs m 0 (.map [])) (aV:aa (λk=>k=m) wr w3):
  w3.cell? (aD p 2)=some (iV S.fuse)/\w3.frozen? (aD p 2)=false/\w3.cell? (aD p 3)=some (iV S.life)/\w3.frozen? (aD p 3)=false/\
  aP ((w3.setCell ⟨p,2,none⟩ (.int .i64 (-1))).setCell ⟨p,3,none⟩ (.int .i64 (wrap64 (S.life+1)))) F p s (S.il s l)/\aa F w ((w3.setCell ⟨p,2,none⟩ (.int .i64 (-1))).setCell ⟨p,3,none⟩ (.int .i64 (wrap64 (S.life+1)))):=by
 subst d;have a:=hd.qB AZ aV;have b:aM (w3.setCell ⟨p,2,none⟩ (.int .i64 (-1))) F p s {S with im:=pj s (fd S l),puts:= [],fuse:= -1} gi ci m (.map []) gr cr:=
  a.ni (a.set 2 _).2 ((a.set 2 _).1.trans (by simp [bG])) rfl rfl (by simp)
 have jy:aM ((w3.setCell ⟨p,2,none⟩ (.int .i64 (-1))).setCell ⟨p,3,none⟩ (.int .i64 (wrap64 (S.life+1)))) F p s (S.il s l) gi ci m (.map []) gr cr:=
  b.ni (b.set 3 _).2 ((b.set 3 _).1.trans (by simp [bG,DS.il])) rfl rfl (by simp [DS.il])
 refine⟨bH a.dj,ae a.dj 2,fI a.dj,ae a.dj 3,⟨gi,ci,m,_,gr,cr,jy⟩,?_⟩;exact((e.trans aV (λj c=> .inl (c▸h.fm))).trans (aa.setCell (F:=λk=>k=p) w3 (p:=(aD p 2)) rfl _) (λj c=> .inl (c▸h.fp))).trans (aa.setCell (F:=λk=>k=p) _ (p:=(aD p 3)) rfl _) (λj c=> .inl (c▸h.fp))
theorem yy {wr wx:World} {S:DS} {m:Nat} {D:DataW Value} {l:List P3} (aT:S.puts.length+1<=5000000000000) (hd:aM wr F p s {S with im:=im} gi ci m D gr cr)
    (a:bW wr wx) (eF:k<s) (PZ:uN {S with im:=im} k (mh l j)=fd S l k) (A B C:Int) (o:mh l j=(A,B,C)) (f:A<=9223372036854775807) (g:B<=9223372036854775807) (n:C<=9223372036854775807):
  Calls prog 70 #[pQ p,iV (k:Int), .agg #[iV A,iV B,iV C]] wx λe w'=>e= .returned (.tuple #[])/\aM w' F p s {S with im:=splice im (k*512) (fd S l k)} gi ci m D gr cr/\aa F wr w':=by
 refine(UM (hd.agree a.size (λi b=>a.block i (hd.lt i b))) k eF aT A B C (max A 0).toNat (max B 0).toNat (max C 0).toNat (by omega) (by omega) (by omega) f g n).mono ?_;rintro e w' ⟨rfl,c,d⟩;refine⟨rfl,?_,(aa.ah F a).trans d (λi b=> .inl b)⟩;rw [<-PZ,o];exact c
set_option maxRecDepth 100000 in
theorem P0 (vL:yt) (vM:Dq) {S:DS} (hd:aP w F p s S) (aT:S.puts.length+1<=5000000000000) (a:Option Addr) (n c:Nat) (l:List P3) (Dt:kS w a n l) (hn:n<=140737488355328) (X:∀x,a=some x->¬F x.block):
  Calls prog 28 #[pQ p, .slice a n c] w λe w'=>e= .returned (.tuple #[])/\aP w' F p s (S.il s l)/\aa F w w':=by
 obtain⟨U,P,m,D,W,R,h⟩:=hd;have YG:=UN vL vM h aT;have mb:(aG S s).length<=2048:=by
  have:=List.length_filter_le (λk=> !(ar S.puts k).isEmpty) (List.range s);rw [List.length_range] at this;exact jQ this h.ok.hi
 have H:=h;have y:=Dt;clear h Dt;go_in;go_wp2_with (go_at_call 69;refine YG.mono ?_;rintro e w1 ⟨L,Q,rfl,aY,aq⟩);have uP:=aY;have iB:=H.agree aq.size (λj I=>aq.block j (H.lt j I));have eH:=aa.ah F aq;clear YG aY;go_loopw [4,5,6,10] (λ_ _ _ i wr=>∃j:Nat,j<=(aG S s).length/\i=iV (j:Int)/\∃im,aM wr F p s {S with im:=im} U P m D W R/\(∀i,i<s->bI im i=if i∈(aG S s).take j then fd S l i else bI S.im i)/\aa F w wr/\
     (aG S s≠ []->∃g,L=some (aD g 0)/\ay wr 3 g Q (yr (aG S s))/\w.heap.size<=g)) (λ_ _ _ i _=>(aG S s).length-(intOf i).toNat)
 case atStart=>exact⟨0,dU _,rfl,S.im,iB,λi _=>by simp,eH,λh=>by obtain⟨g,e,A,v⟩:=uP h;exact⟨g,e,v,A⟩⟩
 case round=>
  clear iB eH uP;obtain⟨j,I,rfl,im,hd,Du,u,aY⟩:=hrel;have d:=hd;have IS:=Du;clear hd Du;by_cases bm:j<(aG S s).length
  .have cw:(j:Int)<((aG S s).length:Int):=(by omega);obtain⟨g,rfl,v,A⟩:=aY (by intro e;rw [e] at bm;simp at bm);obtain⟨k0,wH⟩:∃k,(aG S s)[j]? =some k:=⟨_,List.getElem?_eq_getElem bm⟩;have Jl:wr.cell? (aD g j)=some (iV (k0:Int)):=v.cell (by simp [yr,wH]);obtain⟨eF,hp,PZ,P5⟩:=yx H.ok l d.ok.len wH IS;have z:=v;have ab6:=P5;clear v P5;by_cases kT:n=0
   .subst kT;have t:mh l j=(0,0,0):=(by simp [mh,y.1]);have IT:=λo=>yy aT d ((bi wr.heap.size wr).alloc (bP _) o) eF PZ 0 0 0 t (by omega) (by omega) (by omega);go_wp2_with (go_at_call 70;refine(IT _).mono ?_;rintro e w5 ⟨rfl,jy,dX⟩);have Fa:=z.agree (dX.block g z.lt (λC=>by have:=H.lt g C;omega));have f:=jy;have ji:=u.trans dX (λi E=> .inl E);clear jy dX IT Jl;go_roundw;case rel=>exact⟨j+1,by omega,by go_num,_,f,ab6,ji,λ_=>⟨g,rfl,Fa,A⟩⟩
    case measure=>simp [intOf];omega
   .obtain⟨x,rfl⟩:∃x,a=some x:=by
     cases a with
     |none=>exact absurd (y.2.1 rfl) kT
     |some x=>exact⟨x,rfl⟩
    have jT:=y.1;have YH:0<l.length:=(by omega);obtain⟨q,t⟩:=bQ (j%n);have Z:q<n:=(by rw [t];exact Nat.mod_lt _ (by omega));have A5:q<l.length:=(by omega);have r:=y.keeps u X;obtain⟨b,o,rfl,J,p1,p2⟩:=r.2.2.1 x rfl q A5;have O9:mh l j=(l[q].1,l[q].2.1,l[q].2.2):=by
     have T:j%l.length=q:=(by rw [jT,t]);simp only [mh,YH,dif_pos,T]
    obtain⟨M,N,O⟩:=r.2.2.2 l[q] (List.getElem_mem A5);have IT:=λwx hx=>yy (wx:=wx) aT d hx eF PZ _ _ _ O9 M N O;have Pz:(j:Int)%(n:Int)=(q:Int):=(by rw [t];push_cast;rfl);have iA:(q:Int)<(n:Int):=(by omega);have Y:=World.block_lt_of_cell? _ _ J;have Xd:=IT;clear IT O9 r t PZ;generalize l[q].1=qa at*;generalize l[q].2.1=qb at*;generalize l[q].2.2=qc at*;go_wp2_with fail;refine(Xd _ ((bi wr.heap.size wr).alloc (bP _) _)).mono ?_;rintro e w5 ⟨rfl,jy,dX⟩;have Fa:=z.agree (dX.block g z.lt (λC=>by have:=H.lt g C;omega));have f:=jy;have ji:=u.trans dX (λi E=> .inl E);clear jy dX Xd Jl J p1 p2;go_wp2;go_roundw;case rel=>exact⟨j+1,by omega,by go_num,_,f,ab6,ji,λ_=>⟨g,rfl,Fa,A⟩⟩
    case measure=>simp [intOf];omega
  .have cw:¬(j:Int)<((aG S s).length:Int):=(by omega);obtain⟨w3,LK,AZ,aV,_⟩:=B6 d.map;have c1:=bD d.dj;have G:j=(aG S s).length:=(by omega);rw [G] at IS;have bR:=uO H.ok l d.ok.len IS;clear G;obtain⟨c2,f2,c3,f3,jy,dX⟩:=MN H d bR u AZ aV;have K:=(aF jy dX);clear jy dX bR AZ aV d IS H u aY;go_wp2
   go_end0
   exact⟨rfl,K⟩
theorem FF:(prog.info? 115).map (λi=>(i.zero,i.size,i.bytes))=some (some (.agg #[iV 0,iV 0,iV 0]),3,24):=by kernel_rfl
def p3 (l:List P3):List Value:=l.flatMap (λq=> [iV q.1,iV q.2.1,iV q.2.2])
theorem yz:∀l:List P3,(p3 l).length=l.length*3
 | []=>rfl
 |q :: l=>by have:=yz l;simp only [p3,List.flatMap_cons,dT,List.length_cons,List.length_nil] at this⊢;omega
theorem YI (l:List P3):∀v∈p3 l,v.oneCell'=true:=by
 intro v a;simp only [p3,List.mem_flatMap] at a;obtain⟨q,_,h⟩:=a;simp at h;rcases h with rfl|rfl|rfl <;> rfl
theorem P6:∀(l:List P3) (i:Nat) (a:i<l.length),(p3 l)[i*3]? =some (iV l[i].1)/\(p3 l)[i*3+1]? =some (iV l[i].2.1)/\(p3 l)[i*3+2]? =some (iV l[i].2.2)
 |q :: l,0,_=>by simp [p3]
 |q :: l,i+1,a=>by
  have:=P6 l i (by simpa using a);have e:p3 (q :: l)= [iV q.1,iV q.2.1,iV q.2.2] ++ p3 l:=rfl;rw [e,List.getElem?_append_right (by simp;omega),List.getElem?_append_right (by simp;omega),List.getElem?_append_right (by simp;omega)];simp only [List.length_cons,List.length_nil,List.getElem_cons_succ];rw [show (i+1)*3-(0+1+1+1)=i*3 by omega,show (i+1)*3+1-(0+1+1+1)=i*3+1 by omega,show (i+1)*3+2-(0+1+1+1)=i*3+2 by omega];exact this
theorem YJ {b o:Nat} {l:List P3} (h:kS w (some (aD b o)) n l) (j:Nat) (v:Value) (a:(p3 l)[j]? =some v):w.cell? (((aD b o):Addr).add j)=some v:=by
 rw [aK];have p:=(mG.1 a).1;rw [yz] at p;obtain⟨i,t,q,rfl⟩:∃i t,t<3/\j=i*3+t:=⟨j / 3,j%3,by omega,by omega⟩;have c:i<l.length:=by omega
 obtain⟨g,k,m⟩:=P6 l i c;obtain⟨s,u,r,d,e,f⟩:=h.2.2.1 _ rfl i c;cases r;rw [<-Nat.add_assoc]
 match t,q with
 |0,_=>rw [Nat.add_zero] at a⊢;rw [g] at a;rw [d];exact a
 |1,_=>rw [k] at a;rw [e];exact a
 |2,_=>rw [m] at a;rw [f];exact a
theorem ab7 {l:List P3} (c:l.length=n) (a:∀q∈l,q.1<=9223372036854775807/\q.2.1<=9223372036854775807/\q.2.2<=9223372036854775807) (h:w.heap[g]? =some (.cells (p3 l).toArray 115 (0,0))):kS w (some (aD g 0)) n l:=by
 refine⟨c,(λh=>by cases h),λx d i b=>?_,a⟩;cases d;obtain⟨e,f,j⟩:=P6 l i b;refine⟨g,0,rfl,?_,?_,?_⟩<;> (simp only [World.cell?,h,Nat.zero_add];simpa using ‹_›)
theorem MO (w:World) (s:TypeId) (g n:Nat) (a:Option Addr) (c d:Nat) (cur:Array Value) (l:List P3) (j:w.heap[g]? =some (.cells cur 115 (0,0))) (aor:cur.size=n*3) (f:kS w a n l):
  ∃w2,(Builtin.copy_ #[37,37] s #[.slice (some (aD g 0)) n d, .slice a n c]).run prog w= .ok (goInt n) w2/\
   w2.heap[g]? =some (.cells (p3 l).toArray 115 (0,0))/\aa (λk=>k=g) w w2/\w2.heap.size=w.heap.size:=by
 have m:=f.1;have BV:Nat.min n n=n:=Nat.min_self n;obtain⟨t,p,_,q,_⟩:=info_parts FF;by_cases h0:n=0
 .subst h0;obtain rfl:l= []:=List.eq_nil_of_length_eq_zero m;have i:cur= #[]:=Array.eq_empty_of_size_eq_zero (by omega);subst i;have Xe:=λx=>by simpa using run_loadCells_list (P:=prog) w x [] (by simp)
  refine⟨w,?_,j,aa.refl _ _,rfl⟩;cases a <;> simp [Builtin.copy_,run_underlying underlying37,Builtin.lenOf,Builtin.firstCells,sizeOf,typeInfo,p,storeCells,Xe]
 .obtain⟨x,rfl⟩:∃x,a=some x:=by
   cases a with
   |none=>exact absurd (f.2.1 rfl) h0
   |some x=>exact⟨x,rfl⟩
  obtain⟨b,o,rfl,_⟩:=f.2.2.1 x rfl 0 (by omega);have Xe:=run_loadCells_list (P:=prog) w (aD b o) (p3 l) (YJ f);rw [yz,m] at Xe;have bt:=run_storeCells_at prog g 0 115 (p3 l) 0 cur w j (by rw [yz];omega) (YI l);have e:(List.take (0+0) cur.toList ++ p3 l ++ List.drop (0+0+(p3 l).length) cur.toList).toArray=(p3 l).toArray:=by
   rw [yz,List.drop_of_length_le (by simp;omega)];simp
  rw [e] at bt;refine⟨w.setRow g (p3 l).toArray,?_,?_,⟨rfl,rfl,rfl,by simp,λk _ r=>setRow_other w g k _ r⟩,by simp⟩
  .simp [Builtin.copy_,run_underlying underlying37,Builtin.lenOf,Builtin.firstCells,sizeOf,typeInfo,p,q,BV,Xe,bt]
  .exact setRow_heap w g _ _ 115 _ j
theorem kS.later {l:List P3} (h:kS w a n l) (b:bW w w'):kS w' a n l:=h.keeps (aa.ah (λ_=>False) b) (λ_ _ h=>h)
theorem MP (a:Option Addr) (n c:Nat) (l:List P3) (w:World) (s:24*n<=140737488355328) (i:kS w a n l):
  Calls prog 29 #[.slice a n c] w λe w'=>∃g,e= .returned (.slice (some (aD g 0)) n n)/\w.heap.size<=g/\kS w' (some (aD g 0)) n l/\bW w w':=by
 obtain⟨q,p,gv,dr,ec⟩:=info_parts FF;go_in;go_wp2_with (at_make;refine wpList_make_full _ rfl _ _ 37 rfl w.heap.size 115 q _ 3 underlying37 p gv dr _ _ _ _ n rfl rfl ?c1 ?c2 ?c3 ?c4 ?c5 ?_);case c1=>rfl
 case c2=>rfl
 case c3=>rw [ec];omega
 case c4=>unfold maxLen;omega
 case c5=>exact bP _
 intro w1 az aO;have b:=(bi _ w).grown aO (bP _) (by intro k d;cases d);have ed:=i.later b;obtain⟨_,⟨f,_⟩|⟨r,j,cur,f,_,m,_,_,nY,_⟩⟩:=az
 .cases f
 cases f;obtain⟨t,bC,o,d,_⟩:=MO w1 3 w.heap.size n a c n cur l m nY ed;go_wp2;go_ret;exact⟨w.heap.size,rfl,bP _,ab7 (n:=n) i.1 ed.2.2.2 o,b.trans (d.below (λk h=>by omega) b.size)⟩
end Go.Proofs.YtenlkgicpllbhaaGreat
