import Derived.Laws.BitsAllLaws
import Derived.Test.YtenlkgicpllbhaaGreatRows
import Derived.WalkKit
import Derived.WalkSpells
import Derived.WalkLawsBesides
import Derived.Below
import Derived.Laws.CopyOwn
import Derived.Lib.SliceRun
import Derived.Deep.QuietTactic
import Derived.BigQuiet
import Derived.Maps.RangeWalk
import Derived.Maps.OwnOps
set_option maxRecDepth 20000
set_option maxHeartbeats 8000000
set_option linter.all false
namespace Go.Proofs.YtenlkgicpllbhaaGreat
open Go.Proofs.Tryz
open Go.RowKit Go.Maps
variable {x:Addr} {cur:Array Value} {K:Ending->World->Prop} {a l:List Int} {xs:List Value} {base c bZ cg ci g g2 gi i j k n p q s:Nat} {db:Nat->List (List Int)} {cr gr:Nat->Nat} {F G:Nat->Prop} {xa xb xc xd xe xf xg xh xi xj xk:Prop} {α:Type} {e e':TypeId} {u v:Value} {w w' w1:World} {A:World->Prop}
def Yh (p:Prop):Prop:=p
theorem Yh.o {p:Prop} (h:Yh p):p:=h
theorem Yh.out {p:Prop} (h:Yh p):p:=h
theorem yh {p:Prop} (h:p):Yh p:=h
def cb (r:Nat):Nat:=r / 2 ^^^ (if r%2=1 then 2197175160 else 0)
def cbs:Nat->Nat->Nat
 |0,r=>r
 |n+1,r=>cbs n (cb r)
def le:List Int->Nat
 | []=>0
 |x :: t=>x.toNat+256*le t
def Bytes (l:List Int):Prop:=∀x∈l,0<=x/\x<256
theorem Ys (a b:Nat):cb (a ^^^ b)=cb a ^^^ cb b:=by
 unfold cb;have h:(a ^^^ b)%2=(a+b)%2:=by
  have e:=Nat.testBit_xor a b 0;simp only [Nat.testBit_zero] at e;rcases Nat.mod_two_eq_zero_or_one a with c|c <;> rcases Nat.mod_two_eq_zero_or_one b with d|d <;> rcases Nat.mod_two_eq_zero_or_one (a ^^^ b) with f|f <;> rw [c,d,f] at e <;> first|omega|exact absurd e (by decide)
 have hd:(a ^^^ b) / 2=a / 2 ^^^ b / 2:=Nat.xor_div_two;rw [hd];rcases Nat.mod_two_eq_zero_or_one a with c|c <;> rcases Nat.mod_two_eq_zero_or_one b with d|d
 .have:(a ^^^ b)%2=0:=by omega
  simp [c,d,this]
 .have:(a ^^^ b)%2=1:=by omega
  simp [c,d,this,Nat.xor_assoc]
 .have:(a ^^^ b)%2=1:=by omega
  simp only [c,d,this,if_true];rw [Nat.xor_assoc,Nat.xor_assoc,Nat.xor_comm (b / 2)];simp
 .have:(a ^^^ b)%2=0:=by omega
  simp only [c,d,this,if_true];rw [Nat.xor_assoc,Nat.xor_assoc,<-Nat.xor_assoc (2197175160) (b / 2),Nat.xor_comm 2197175160 (b / 2),Nat.xor_assoc (b / 2),Nat.xor_self];simp
theorem LD (n a b:Nat):cbs n (a ^^^ b)=cbs n a ^^^ cbs n b:=by
 induction n generalizing a b with
 |zero=>rfl
 |succ n c=>simp only [cbs,Ys,c]
theorem abV {r:Nat} (h:r<4294967296):cb r<4294967296:=by
 unfold cb;have:r / 2 ^^^ (if r%2=1 then 2197175160 else 0)<2 ^ 32:=Nat.xor_lt_two_pow (by omega) (by split <;> omega);omega
theorem uH (n:Nat) {r:Nat} (h:r<4294967296):cbs n r<4294967296:=by
 induction n generalizing r with
 |zero=>exact h
 |succ n a=>exact a (abV h)
theorem sY (n m r:Nat):cbs (n+m) r=cbs m (cbs n r):=by
 induction n generalizing r with
 |zero=>simp [cbs]
 |succ n a=>rw [Nat.succ_add];simp only [cbs];exact a (cb r)
theorem UB (m:Nat):cb (2*m)=m:=by
 unfold cb;have a:2*m / 2=m:=by omega
 have b:2*m%2=0:=by omega
 rw [a,b];simp
theorem LE (n m:Nat):cbs n (2 ^ n*m)=m:=by
 induction n generalizing m with
 |zero=>simp [cbs]
 |succ n a=>
  rw [Nat.pow_succ,show 2 ^ n*2*m=2*(2 ^ n*m) by rw [Nat.mul_comm (2 ^ n) 2,Nat.mul_assoc],cbs,UB,a]
theorem LF (i a b:Nat) (h:b<2 ^ i):b+2 ^ i*a=b ^^^ 2 ^ i*a:=by
 apply Nat.eq_of_testBit_eq;intro j;rw [Nat.add_comm,Nat.testBit_two_pow_mul_add a h j,Nat.testBit_xor,Nat.testBit_two_pow_mul];by_cases c:j<i
 .simp [c,show¬i<=j by omega]
 .have:b.testBit j=false:=Nat.testBit_lt_two_pow (Nat.lt_of_lt_of_le h (Nat.pow_le_pow_right (by decide) (by omega)));simp [c,this,show i<=j by omega]
theorem UC (r:Nat):cbs 4 r=r / 16 ^^^ cbs 4 (r%16):=by
 have h:r=r%16 ^^^ 2 ^ 4*(r / 16):=by
  rw [<-LF 4 (r / 16) (r%16) (by omega)];omega
 conv=>lhs;rw [h,LD,LE]
 exact Nat.xor_comm _ _
def mX (r:Nat) (l:List Int):Nat:=cbs (8*l.length) (r ^^^ le l)
def sumOf (l:List Int):Nat:=mX 4294967295 l ^^^ 4294967295
theorem lg (h:Bytes l):le l<2 ^ (8*l.length):=by
 induction l with
 |nil=>simp [le]
 |cons x t b=>
  have c:=h x (by simp);have d:=b (λy a=>h y (by simp [a]));simp only [le,List.length_cons];rw [show 8*(t.length+1)=8*t.length+8 by omega,Nat.pow_add];have:x.toNat<256:=by omega
  omega
theorem uI (a b:List Int):le (a ++ b)=le a+2 ^ (8*a.length)*le b:=by
 induction a with
 |nil=>simp [le]
 |cons x t c=>
  simp only [List.cons_append,le,c,List.length_cons];rw [show 8*(t.length+1)=8*t.length+8 by omega,Nat.pow_add,Nat.mul_add];rw [show 2 ^ (8*t.length)*2 ^ 8*le b=256*(2 ^ (8*t.length)*le b) by rw [Nat.mul_comm (2 ^ (8*t.length)) (2 ^ 8),Nat.mul_assoc]];omega
theorem Jc (b:List Int) (h:Bytes a):le (a ++ b)=le a ^^^ 2 ^ (8*a.length)*le b:=by
 rw [uI,LF _ _ _ (lg h)]
theorem sZ (r:Nat):mX r []=r:=by simp [mX,cbs,le]
theorem xV (r:Nat) (b:List Int) (h:Bytes a):mX r (a ++ b)=mX (mX r a) b:=by
 unfold mX;rw [Jc b h,List.length_append,Nat.mul_add,sY,<-Nat.xor_assoc,LD (8*a.length),LE]
theorem xW (r:Nat) (x:Int) (h:Bytes a):mX r (a ++ [x])=cbs 8 (mX r a ^^^ x.toNat):=by
 rw [xV r _ h];simp [mX,le]
theorem rT {r:Nat} (c:r<4294967296) (h:Bytes l):mX r l<4294967296:=by
 induction l generalizing r with
 |nil=>simpa [sZ] using c
 |cons x t e=>
  have d:=h x (by simp);have b:Bytes [x]:=λy a=>by simp at a;subst a;exact d
  rw [show x :: t= [x] ++ t from rfl,xV r t b];refine e ?_ (λy a=>h y (by simp [a]));have:r ^^^ x.toNat<2 ^ 32:=Nat.xor_lt_two_pow (by omega) (by omega);simpa [mX,le] using uH 8 (r:=r ^^^ x.toNat) (by omega)
theorem ng (h:Bytes l):sumOf l<4294967296:=by
 have:mX 4294967295 l ^^^ 4294967295<2 ^ 32:=Nat.xor_lt_two_pow (by have:=rT (r:=4294967295) (by omega) h;omega) (by omega);unfold sumOf;omega
def nV (s:Nat):List Int:= [((s%256:Nat):Int),((s / 256%256:Nat):Int),((s / 65536%256:Nat):Int),((s / 16777216%256:Nat):Int)]
abbrev iV (x:Int):Value:= .int .i64 x
abbrev pQ (b:Nat):Value:= .pointer (some ⟨b,0,none⟩)
abbrev aD (b o:Nat):Addr:=⟨b,o,none⟩
abbrev bW (w v:World):Prop:=Below w.heap.size w v
theorem aF {a b:Prop} (x:a) (y:b):a/\b:=⟨x,y⟩
theorem gu {l:List α} {a:α} (h:l[i]? =some a):a∈l:=List.mem_of_getElem? h
theorem dT {a b:List α}:(a++b).length=a.length+b.length:=List.length_append
theorem bP (n:Nat):n<=n:=Nat.le_refl n
theorem iP {m:Nat} (h:n<m) (g:m<=k):n<k:=Nat.lt_of_lt_of_le h g
theorem mG {l:List α} {a:α}:l[i]? =some a↔∃h:i<l.length,l[i]=a:=List.getElem?_eq_some_iff
theorem dU (n:Nat):0<=n:=Nat.zero_le n
theorem bi (B:Nat) (w:World):Below B w w:=Below.refl B w
theorem Bd {β:Type} {f:α->β} {l:List α}:(l.map f)[i]? =Option.map f l[i]? :=List.getElem?_map
theorem aE {c:Prop} {i:Decidable c} {a b:α} (h:c):(if c then a else b)=a:=if_pos h
theorem aA {c:Prop} {i:Decidable c} {a b:α} (h:¬c):(if c then a else b)=b:=if_neg h
theorem eG [BEq α] [LawfulBEq α] {a b:α}:(a==b)=false↔a≠b:=beq_eq_false_iff_ne
theorem fT [BEq α] [LawfulBEq α] {a b:α}:(a !=b)=true↔a≠b:=bne_iff_ne
theorem kN {l:Array α} {a:α}:l[i]? =some a↔∃h:i<l.size,l[i]=a:=Array.getElem?_eq_some_iff
theorem nh {l:List α} (h:l.length<=i):l.take i=l:=List.take_of_length_le h
theorem jQ {m:Nat} (h:n<=m) (g:m<=k):n<=k:=Nat.le_trans h g
theorem fW:(prog.info? 5).map (λi=>(i.zero,i.size,i.bytes))=some (some (.int .u8 0),1,1):=by kernel_rfl
theorem aK (g o i:Nat):((aD g o):Addr).add i=⟨g,o+i,none⟩:=by
 unfold Addr.add;split <;> simp_all
abbrev bs (l:List Int):List Value:=l.map (Value.int .u8)
def ay (w:World) (e:TypeId) (g c:Nat) (xs:List Value):Prop:=
 ∃cur,w.heap[g]? =some (.cells cur e (0,0))/\cur.size=c/\cur.toList.take xs.length=xs/\c<=maxLen
theorem ay.lt (h:ay w e g c xs):g<w.heap.size:=by
 obtain⟨cur,a,_⟩:=h;exact(kN.1 a).1
theorem ay.le (h:ay w e g c xs):xs.length<=c:=by
 obtain⟨cur,_,rfl,a,_⟩:=h;have:=congrArg List.length a;simp at this;omega
theorem ay.max (h:ay w e g c xs):c<=maxLen:=by
 obtain⟨cur,_,_,_,h⟩:=h;exact h
theorem ay.cell (h:ay w e g c xs) (a:xs[j]? =some u):w.cell? (aD g j)=some u:=by
 obtain⟨cur,b,_,f,_⟩:=h;simp only [World.cell?,b];have d:=(mG.1 a).1;rw [<-f,List.getElem?_take] at a;rw [aE d] at a;simpa using a
theorem ay.byte (h:ay w e g c (bs l)) (a:i<l.length):w.cell? (((aD g 0):Addr).add i)=some (.int .u8 (l.getD i 0)):=by
 rw [aK,Nat.zero_add];exact h.cell (by simp [bs,List.getD,List.getElem?_eq_getElem a])
theorem ay.frozen (h:ay w e g c xs) (j:Nat):w.frozen? (aD g j)=false:=by
 obtain⟨cur,a,_⟩:=h;simp [World.frozen?,a]
theorem ay.agree (h:ay w e g c xs) (d:w'.heap[g]? =w.heap[g]?):ay w' e g c xs:=by
 obtain⟨cur,a,b⟩:=h;exact⟨cur,d.trans a,b⟩
theorem ay.owns (h:ay w e g c xs):w.ownsRow 0 e 1 (.slice (some (aD g 0)) xs.length c) xs.length xs:=by
 have a:=h.le;obtain⟨cur,b,d,i,f⟩:=h;exact⟨by simp, .inr ⟨g,c,cur,rfl,dU _,b,a,f,by simpa using d,by simpa using i⟩⟩
theorem ay.eW (h:w.ownsRow base e 1 v n xs) (k:v≠ .slice none 0 0):
  ∃g c,v= .slice (some (aD g 0)) n c/\base<=g/\ay w e g c xs/\xs.length=n:=by
 obtain⟨a,⟨rfl,_⟩|⟨g,c,cur,rfl,i,f,l,j,b,d⟩⟩:=h
 .exact absurd rfl k
 .simp only [Nat.mul_one] at a b d;exact⟨g,c,rfl,i,⟨cur,f,b,by rw [a];exact d,j⟩,a⟩
structure aa (F:Nat->Prop) (w w':World):Prop where
 os:w'.os=w.os
 tape:w'.tape=w.tape
 output:w'.output=w.output
 size:w.heap.size<=w'.heap.size
 block:∀k,k<w.heap.size->¬F k->w'.heap[k]? =w.heap[k]?
def more (F:Nat->Prop) (w w':World):Nat->Prop:=λk=>F k\/(w.heap.size<=k/\k<w'.heap.size)
theorem aa.refl (F:Nat->Prop) (w:World):aa F w w:=⟨rfl,rfl,rfl,bP _,λ_ _ _=>rfl⟩
theorem aa.trans {a b c:World} (h:aa F a b) (k:aa G b c) (g:∀j,G j->F j\/a.heap.size<=j):aa F a c:=
   ⟨k.os.trans h.os,k.tape.trans h.tape,k.output.trans h.output,jQ h.size k.size,λi e f=>
    (k.block i (iP e h.size) (λl=>by rcases g i l with d|d;exact f d;omega)).trans (h.block i e f)⟩
theorem aa.ah (F:Nat->Prop) (h:bW w w'):aa F w w':=⟨h.os,h.tape,h.output,h.size,λk a _=>h.block k a⟩
theorem aa.below {B:Nat} (h:aa F w w') (a:∀k,F k->B<=k) (c:B<=w.heap.size):Below B w w':=
   ⟨h.os,h.tape,h.output,h.size,λk d=>h.block k (by omega) (λb=>by have:=a k b;omega)⟩
theorem aa.mono (h:aa F w w') (a:∀k,F k->G k):aa G w w':=⟨h.os,h.tape,h.output,h.size,λk c d=>h.block k c (λb=>d (a k b))⟩
theorem aa.setCell (w:World) {p:Addr} (b:F p.block) (u:Value):aa F w (w.setCell p u):=
   ⟨rfl,rfl,rfl,by simp [World.setCell],λk _ a=>Below.heap_setCell w p u k (λe=>a (e▸b))⟩
theorem aa.alloc (F:Nat->Prop) (w:World) (o:Obj):aa F w (w.alloc o):=aa.ah F ((bi _ _).alloc (bP _) _)
theorem mH (w:World) (a:Addr) (v:Value):w.grownBy (w.setCell a v) (some a.block):=
   ⟨rfl,rfl,rfl,by simp [World.setCell],λk _ b=>Below.heap_setCell w a v k (λe=>b (by rw [e]))⟩
theorem aj (a:w.heap[g]? =some (.cells cur e (0,0))) (b:cur[j]? =some u):w.cell? (aD g j)=some u:=by
 simp only [World.cell?,a];simpa using b
theorem ae (a:w.heap[g]? =some (.cells cur e (0,0))) (j:Nat):w.frozen? (aD g j)=false:=by
 simp [World.frozen?,a]
def Src (w:World) (a:Option Addr) (n:Nat) (l:List Int):Prop:=
 l.length=n/\(a=none->n=0)/\∀x,a=some x->∀i,i<n->w.cell? (x.add i)=some (.int .u8 (l.getD i 0))
theorem Src.at (h:Src w (some x) n l) (a:i<n):w.cell? (x.add i)=some (.int .u8 (l.getD i 0)):=h.2.2 x rfl i a
theorem ay.src (h:ay w e g c (bs l)):Src w (some (aD g 0)) l.length l:=
   ⟨rfl,(λh=>by cases h),λx b i a=>by cases b;exact h.byte a⟩
theorem Src.spot (h:Src w (some x) n l) (c:0<n):∃b o,x=(aD b o)/\∀i,i<n->w.cell? ⟨b,o+i,none⟩=some (.int .u8 (l.getD i 0)):=by
 obtain⟨b,o,e⟩:=x;have h0:=h.2.2 _ rfl 0 c;have d:e=none:=by simpa [Addr.add] using World.cell?_spot h0
 subst d;exact⟨b,o,rfl,λi a=>by have:=h.2.2 _ rfl i a;rwa [aK] at this⟩
theorem Src.later {a:Option Addr} (h:Src w a n l) (b:bW w w'):Src w' a n l:=
   ⟨h.1,h.2.1,λx d i c=>cell_later b (h.2.2 x d i c)⟩
theorem lJ (az:w1.ownsRow base 5 1 (.slice (some (aD g 0)) n n) n (madeCells #[Value.int .u8 0] n).toList):
  ay w1 5 g n (bs (List.replicate n 0)):=by
 obtain⟨d,c,b,_,a,_⟩:=ay.eW az (by simp);cases b;have e:(madeCells #[Value.int .u8 0] n).toList=bs (List.replicate n 0):=by rw [toList_madeCells_one];simp [bs]
 rw [e] at a;exact a
theorem Df:(prog.info? 5).map (·.size)=some 1:=by kernel_rfl
theorem fq (h:(bs l)[j]? =some v):j<l.length/\v= .int .u8 (l.getD j 0):=by
 have a:j<l.length:=by
  have:=(mG.1 h).1;simpa [bs] using this
 simp [bs,List.getElem?_eq_getElem a] at h;exact⟨a,by simp [List.getD,List.getElem?_eq_getElem a,h]⟩
theorem cB (l:List Int):∀v∈bs l,v.oneCell'=true:=by
 intro v a;obtain⟨x,_,rfl⟩:=List.mem_map.1 a;rfl
theorem ay.full (h:ay w e g c xs) (d:xs.length=c):w.heap[g]? =some (.cells xs.toArray e (0,0)):=by
 obtain⟨cur,a,f,b,_⟩:=h;have:cur.toList=xs:=by
  rw [<-b,nh (by simp;omega)]
 rw [a,<-this]
theorem ay.xp (h:w.heap[g]? =some (.cells xs.toArray e (0,0))) (a:xs.length<=maxLen):ay w e g xs.length xs:=
   ⟨xs.toArray,h,by simp,by simp,a⟩
theorem xX (w:World) (m:TypeId) (d:Option Addr) (g c gN Be:Nat) (a:Option Addr) (jR Bf:Nat) (cur:List Value) (l:List Int) (f:w.heap[g]? =some (.cells cur.toArray 5 (0,0)))
    (i:Src w a jR l) (hd:0<gN->d=some (aD g c)) (Fo:c+gN<=cur.length):
  ∃w2,(Builtin.copy_ #[36,36] m #[.slice d gN Be, .slice a jR Bf]).run prog w= .ok (goInt (Nat.min jR gN)) w2/\
   w2.heap[g]? =some (.cells (splice cur c (bs (l.take gN))).toArray 5 (0,0))/\aa (λk=>k=g) w w2/\w2.heap.size=w.heap.size:=by
 have r:=i.1;have q:Nat.min jR gN=min jR gN:=rfl;by_cases h0:min jR gN=0
 .refine⟨w,?_,?_,aa.refl _ _,rfl⟩
  .rw [q,h0];exact run_copy_none (P:=prog) w _ _ m 5 d a gN Be jR Bf underlying36 Df h0
  .have e:bs (l.take gN)= []:=by
    have:(bs (l.take gN)).length=0:=(by simp only [bs,List.length_map,List.length_take];omega);exact List.eq_nil_of_length_eq_zero this
   rw [e,f];simp [splice]
 .have n:0<jR/\0<gN:=by omega
  obtain rfl:=hd n.2;cases a with
  |none=>have:=i.2.1 rfl;omega
  |some x=>
   have b:(bs (l.take gN)).length=Nat.min jR gN:=by
    simp only [bs,List.length_map,List.length_take];omega
   have bC:=run_copy_row (P:=prog) w 36 36 m 5 g c gN Be x jR Bf cur.toArray 5 (bs (l.take gN)) underlying36 Df f b
      (λj v o=>by
     obtain⟨AX,rfl⟩:=fq o;have Yt:j<gN/\j<l.length:=(by simp only [List.length_take] at AX;omega);rw [i.2.2 x rfl j (by omega)];simp [List.getD,Yt.1]) (by simp only [List.size_toArray,b];omega) (cB _)
   rw [b] at bC;refine⟨_,bC,?_,⟨rfl,rfl,rfl,by simp,λk _ p=>setRow_other w g k _ p⟩,by simp⟩;rw [setRow_heap w g _ _ 5 _ f];simp only [splice,b,List.append_assoc]
theorem ku (x:Addr) (n:Nat):(x.add n).block=x.block:=by unfold Addr.add;split <;> rfl
theorem Src.old {W:World} {a:Option Addr} (h:Src W a n l):∀x,a=some x->0<n->x.block<W.heap.size:=λx c b=>by
 have:=World.block_lt_of_cell? _ _ (h.2.2 x c 0 b);rwa [ku] at this
theorem aL {a:Value} {l:List Value} (h:w.heap[g]? =some (.cells (List.toArray (a::l)) e (0,0))):w.cell? (aD g 0)=some a:=aj h rfl
theorem bD {b a:Value} {l:List Value} (h:w.heap[g]? =some (.cells (List.toArray (b::a::l)) e (0,0))):w.cell? (aD g 1)=some a:=aj h rfl
theorem bH {b c a:Value} {l:List Value} (h:w.heap[g]? =some (.cells (List.toArray (b::c::a::l)) e (0,0))):w.cell? (aD g 2)=some a:=aj h rfl
theorem fI {b c d a:Value} {l:List Value} (h:w.heap[g]? =some (.cells (List.toArray (b::c::d::a::l)) e (0,0))):w.cell? (aD g 3)=some a:=aj h rfl
theorem gz {b c d f a:Value} {l:List Value} (h:w.heap[g]? =some (.cells (List.toArray (b::c::d::f::a::l)) e (0,0))):w.cell? (aD g 4)=some a:=aj h rfl
theorem rU {b c d f i a:Value} {l:List Value} (h:w.heap[g]? =some (.cells (List.toArray (b::c::d::f::i::a::l)) e (0,0))):w.cell? (aD g 5)=some a:=aj h rfl
theorem wG {b c d f i j a:Value} {l:List Value} (h:w.heap[g]? =some (.cells (List.toArray (b::c::d::f::i::j::a::l)) e (0,0))):w.cell? (aD g 6)=some a:=aj h rfl
theorem ri {b c d f i j k a:Value} {l:List Value} (h:w.heap[g]? =some (.cells (List.toArray (b::c::d::f::i::j::k::a::l)) e (0,0))):w.cell? (aD g 7)=some a:=aj h rfl
theorem Dg {b c d f i j k m a:Value} {l:List Value} (h:w.heap[g]? =some (.cells (List.toArray (b::c::d::f::i::j::k::m::a::l)) e (0,0))):w.cell? (aD g 8)=some a:=aj h rfl
theorem ahp {b c d f i j k m n a:Value} {l:List Value} (h:w.heap[g]? =some (.cells (List.toArray (b::c::d::f::i::j::k::m::n::a::l)) e (0,0))):w.cell? (aD g 9)=some a:=aj h rfl
theorem bQ (a:α):∃x,x=a:=⟨_,rfl⟩
theorem zEr (a:α):∃x,a=x:=⟨_,rfl⟩
theorem bE {P:Program} {f:FuncId} {a:Array Value} {V:Ending} (h:Calls P f a w λe v=>e=V/\A v) (k:∀v,A v->K V v):Calls P f a w K:=h.mono (by rintro e v ⟨rfl,x⟩;exact k v x)
theorem fk {P:Program} {f:FuncId} {a:Array Value} {V:Ending} {B:World->Prop} (h:Calls P f a w λe v=>e=V/\A v/\B v) (k:∀v,A v->B v->K V v):Calls P f a w K:=h.mono (by rintro e v ⟨rfl,x,y⟩;exact k v x y)
theorem oX {P:Program} {f:FuncId} {a:Array Value} {V:Ending} {B C:World->Prop} (h:Calls P f a w λe v=>e=V/\A v/\B v/\C v) (k:∀v,A v->B v->C v->K V v):Calls P f a w K:=h.mono (by rintro e v ⟨rfl,x,y,z⟩;exact k v x y z)
theorem jw (a:xa) (b:xb) (c:xc):xa/\xb/\xc:=⟨a,b,c⟩
theorem cM (a:xa) (b:xb) (c:xc) (d:xd):xa/\xb/\xc/\xd:=⟨a,b,c,d⟩
theorem ey (a:xa) (b:xb) (c:xc) (d:xd) (e:xe):xa/\xb/\xc/\xd/\xe:=⟨a,b,c,d,e⟩
theorem kQ (a:xa) (b:xb) (c:xc) (d:xd) (e:xe) (f:xf):xa/\xb/\xc/\xd/\xe/\xf:=⟨a,b,c,d,e,f⟩
theorem nW (a:xa) (b:xb) (c:xc) (d:xd) (e:xe) (f:xf) (g:xg):xa/\xb/\xc/\xd/\xe/\xf/\xg:=⟨a,b,c,d,e,f,g⟩
theorem rV (a:xa) (b:xb) (c:xc) (d:xd) (e:xe) (f:xf) (g:xg) (i:xh):xa/\xb/\xc/\xd/\xe/\xf/\xg/\xh:=⟨a,b,c,d,e,f,g,i⟩
theorem UD (a:xa) (b:xb) (c:xc) (d:xd) (e:xe) (f:xf) (g:xg) (i:xh) (j:xi):xa/\xb/\xc/\xd/\xe/\xf/\xg/\xh/\xi:=⟨a,b,c,d,e,f,g,i,j⟩
theorem vH (a:xa) (b:xb) (c:xc) (d:xd) (e:xe) (f:xf) (g:xg) (i:xh) (j:xi) (k:xj):xa/\xb/\xc/\xd/\xe/\xf/\xg/\xh/\xi/\xj:=⟨a,b,c,d,e,f,g,i,j,k⟩
theorem LH (a:xa) (b:xb) (c:xc) (d:xd) (e:xe) (f:xf) (g:xg) (i:xh) (j:xi) (k:xj) (l:xk):xa/\xb/\xc/\xd/\xe/\xf/\xg/\xh/\xi/\xj/\xk:=⟨a,b,c,d,e,f,g,i,j,k,l⟩
theorem BU {a:Prop} (b:xa) (c:xb) (d:xc) (e:xd) (f:xe) (g:xf) (i:xg) (j:xh) (k:xi) (l:xj) (m:xk) (n:a):xa/\xb/\xc/\xd/\xe/\xf/\xg/\xh/\xi/\xj/\xk/\a:=⟨b,c,d,e,f,g,i,j,k,l,m,n⟩
theorem bL (a:xa) (b:xb):Yh xa/\Yh xb:=⟨a,b⟩
theorem jS (a:xa) (b:xb) (c:xc):Yh xa/\Yh xb/\Yh xc:=⟨a,b,c⟩
theorem Bg (a:xa) (b:xb) (c:xc) (d:xd):Yh xa/\Yh xb/\Yh xc/\Yh xd:=⟨a,b,c,d⟩
theorem UE (a:xa) (b:xb) (c:xc) (d:xd) (e:xe):Yh xa/\Yh xb/\Yh xc/\Yh xd/\Yh xe:=⟨a,b,c,d,e⟩
theorem Yu (a:xa) (b:xb) (c:xc) (d:xd) (e:xe) (f:xf):Yh xa/\Yh xb/\Yh xc/\Yh xd/\Yh xe/\Yh xf:=⟨a,b,c,d,e,f⟩
theorem abW (a:xa) (b:xb) (c:xc) (d:xd) (e:xe) (f:xf) (g:xg):Yh xa/\Yh xb/\Yh xc/\Yh xd/\Yh xe/\Yh xf/\Yh xg:=⟨a,b,c,d,e,f,g⟩
theorem ahq (a:xa) (b:xb) (c:xc) (d:xd) (e:xe) (f:xf) (g:xg) (i:xh):Yh xa/\Yh xb/\Yh xc/\Yh xd/\Yh xe/\Yh xf/\Yh xg/\Yh xh:=⟨a,b,c,d,e,f,g,i⟩
theorem abX (a:xa) (b:xb) (c:xc) (d:xd) (e:xe) (f:xf) (g:xg) (i:xh) (j:xi) (k:xj):Yh xa/\Yh xb/\Yh xc/\Yh xd/\Yh xe/\Yh xf/\Yh xg/\Yh xh/\Yh xi/\Yh xj:=⟨a,b,c,d,e,f,g,i,j,k⟩
theorem td:(prog.info? 36).map (λi=>(i.zero,i.size,i.bytes))=some (some (.slice none 0 0),1,24):=by kernel_rfl
theorem Dh:(prog.info? 3).map (λi=>(i.zero,i.size,i.bytes))=some (some (iV 0),1,8):=by kernel_rfl
abbrev bG (im db:Value) (fuse life r wr fl rf:Int):Array Value:=
   #[im,db,iV fuse,iV life,iV r,iV wr,iV fl,iV rf,iV 0]
theorem Fp (a:Option Addr) (n c:Nat) (w:World):
  Calls prog 45 #[.slice a n c] w λe w'=>e= .returned (.pointer (some ⟨w.heap.size+1,0,none⟩))/\
   w'=(w.alloc (.map #[] 0)).alloc (.cells (bG (.slice a n c) (.map (some w.heap.size)) (-1) 1 0 0 0 0) 106):=by
 have BV:= @run_makeMap prog;go_in;go_wp2;go_ret;exact⟨rfl,rfl⟩
theorem uJ (p:Nat) (a:Int) (w:World) (b:w.cell? (aD p 2)=some (iV a)):
  Calls prog 35 #[pQ p] w λe w'=>e= .returned (.bool (a == 0))/\w'=w:=by
 go_in;go_wp2;go_ret;exact⟨rfl,rfl⟩
theorem PA (p:Nat) (a:Int) (w:World) (b:w.cell? (aD p 3)=some (iV a)):
  Calls prog 22 #[pQ p] w λe w'=>e= .returned (iV a)/\w'=w:=by
 go_in;go_wp2;go_ret;exact⟨rfl,rfl⟩
theorem vI (p:Nat) (a:Option Addr) (n c:Nat) (w:World) (d:n<=1048576) (b:w.cell? (aD p 0)=some (.slice a n c)):
  Calls prog 47 #[pQ p] w λe w'=>e= .returned (iV ((n / 512:Nat):Int))/\w'=w:=by
 go_in;go_wp2;go_ret;exact⟨by go_num,rfl⟩
theorem te (p:Nat) (a:Option Addr) (n c:Nat) (b:Int) (w:World) (f:n<=1048576) (d:w.cell? (aD p 0)=some (.slice a n c)):
  Calls prog 94 #[pQ p,iV b] w λe w'=>e= .returned (.bool (decide (0<=b) && decide (b<((n / 512:Nat):Int))))/\w'=w:=by
 by_cases h0:0<=b
 .go_in;go_wp2_with (go_at_call 47;refine(vI _ _ _ _ _ f d).mono ?_;rintro e w' ⟨rfl,rfl⟩);go_ret;exact⟨by simp [h0],rfl⟩
 .go_in;go_wp2;go_ret;exact⟨by simp;omega,rfl⟩
theorem rW (p:Nat) (b a:Int) (w:World) (c:w.cell? (aD p 7)=some (iV b)) (d:w.frozen? (aD p 7)=false):
  Calls prog 95 #[pQ p,iV a] w λe w'=>e= .returned (iV a)/\w'=w.setCell ⟨p,7,none⟩ (.int .i64 (wrap64 (b+1))):=by
 go_in;go_wp2;go_ret;exact⟨rfl,rfl⟩
theorem BW (p:Nat) (a:Int) (w:World) (b:w.cell? (aD p 2)=some (iV a)) (c:w.frozen? (aD p 2)=false) (d: -1<=a):
  Calls prog 106 #[pQ p] w λe w'=>e= .returned (.tuple #[])/\w'=if 0<a then w.setCell ⟨p,2,none⟩ (.int .i64 (wrap64 (a-1))) else w:=by
 by_cases h:0<a
 .go_in;go_wp2
  go_end0
  exact⟨rfl,rfl⟩
 .go_in;go_wp2
  go_end0
  exact⟨rfl,rfl⟩
theorem PB (p:Nat) (a:Int) (w:World) (b:w.cell? (aD p 3)=some (iV a)) (c:w.frozen? (aD p 3)=false):
  Calls prog 48 #[pQ p] w λe w'=>e= .returned (iV (wrap64 (a+1)))/\w'=w.setCell ⟨p,3,none⟩ (.int .i64 (wrap64 (a+1))):=by
 go_in;go_wp2;go_ret;exact⟨rfl,rfl⟩
theorem TN (p:Nat) (b a:Int) (w:World) (c:w.cell? (aD p 2)=some (iV b)) (f:w.frozen? (aD p 2)=false):
  Calls prog 26 #[pQ p,iV a] w λe w'=>e= .returned (.tuple #[])/\w'=if b=0 then w else w.setCell ⟨p,2,none⟩ (.int .i64 (max a (-1))):=by
 by_cases h:b=0
 .have d:(b == 0)=true:=by simp [h]
  go_in;go_wp2_with (go_at_call 35;refine(uJ _ _ _ c).mono ?_;rintro e w' ⟨rfl,rfl⟩);exact bodyPost_ret (results_none rfl _ _ _) rfl ⟨rfl,rfl⟩
 .have d:(b == 0)=false:=by simp [h]
  go_in;go_wp2_with (go_at_call 35;refine(uJ _ _ _ c).mono ?_;rintro e w' ⟨rfl,rfl⟩);all_goals
   go_end0
   refine⟨rfl,?_⟩;first|rw [show max a (-1)=a by omega]|rw [show max a (-1)= -1 by omega]
theorem o9 (p b n c s:Nat) (a:Int) (k:Nat) (w:World) (f:w.cell? (aD p 0)=some (.slice (some (aD b 0)) n c)) (d:a=(k:Int)) (eF:k<s) (i:n=s*512) (j:s<=2048) (g:n<=c):
  Calls prog 107 #[pQ p,iV a] w λe w'=>e= .returned (.slice (some ⟨b,k*512,none⟩) 512 512)/\w'=w:=by
 subst d;go_in;have e:(k+1)*512-k*512=512:=by omega
 go_wp2;go_ret;exact⟨congrArg (λz=>Ending.returned (Value.slice (some ⟨b,k*512,none⟩) z z)) e,rfl⟩
structure DS where
 im:List Int
 puts:List (Nat×List Int)
 fuse:Int
 life:Int
 reads:Int
 writes:Int
 flushes:Int
 refused:Int
def ar (puts:List (Nat×List Int)) (k:Nat):List (List Int):=(puts.filter (λq=>q.1 == k)).map (·.2)
structure DS.Ok (S:DS) (s:Nat):Prop where
 len:S.im.length=s*512
 lo:1<=s
 hi:s<=2048
 puts:∀q∈S.puts,q.1<s/\q.2.length=512
 fuse: -1<=S.fuse/\S.fuse<=9223372036854775807
def fa (w:World) (F:Nat->Prop) (gi:Nat):List Value->List (List Int)->Prop
 | [], []=>True
 |v :: vs,l :: ls=>(∃g c,v= .slice (some (aD g 0)) 512 c/\F g/\g≠gi/\ay w 5 g c (bs l))/\fa w F gi vs ls
 |_,_=>False
def Rs (v:Value):Option (DataW Value×List MemPlace):=
 match v with
 | .slice _ _ _=>some (.held v, [])
 |_=>none
theorem fX:Keyed prog 3:=int_keyed underlying3
abbrev kk (k:Nat):Lit:= .int .i64 (k:Int)
structure gO (w:World) (F:Nat->Prop) (gi:Nat) (D:DataW Value) (gr cr:Nat->Nat) (db:Nat->List (List Int)):Prop where
 keys:∀kl,has D kl=true->∃k:Nat,kl=kk k/\db k≠ []
 Fq:∀k,db k= []->has D (kk k)=false
 look:∀k,db k≠ []->∀z,D.atKey (kk k) z= .held (.slice (some ⟨gr k,0,none⟩) (db k).length (cr k))
 row:∀k,db k≠ []->F (gr k)/\∃xs,ay w 36 (gr k) (cr k) xs/\fa w F gi xs (db k)
 inj:∀k k',db k≠ []->db k'≠ []->gr k=gr k'->k=k'
structure aM (w:World) (F:Nat->Prop) (p s:Nat) (S:DS) (gi ci m:Nat) (D:DataW Value) (gr cr:Nat->Nat):Prop where
 fp:F p
 TO:F gi
 fm:F m
 lt:∀k,F k->k<w.heap.size
 dj:w.heap[p]? =some (.cells (bG (.slice (some ⟨gi,0,none⟩) (s*512) ci) (.map (some m)) S.fuse S.life S.reads S.writes S.flushes S.refused) 106 (0,0))
 Jd:ay w 5 gi ci (bs S.im)
 map:w.ownsMap prog 3 Rs m S.puts.length D
 db:gO w F gi D gr cr (ar S.puts)
 ok:S.Ok s
def aP (w:World) (F:Nat->Prop) (p s:Nat) (S:DS):Prop:=∃gi ci m D gr cr,aM w F p s S gi ci m D gr cr
theorem fa.agree {w w':World} {F:Nat->Prop} {a:Nat} (b:∀k,F k->w'.heap[k]? =w.heap[k]?):∀{xs:List Value} {d:List (List Int)},fa w F a xs d->fa w' F a xs d
 | [], [],_=>trivial
 |_ :: _,_ :: _,⟨⟨g,c,h1,h2,h3,h4⟩,h5⟩=>⟨⟨g,c,h1,h2,h3,h4.agree (b g h2)⟩,fa.agree b h5⟩
 | [],_ :: _,h=>h.elim
 |_ :: _, [],h=>h.elim
theorem fa.carry {w w':World} {F:Nat->Prop} {a:Nat} (b:∀g c xs,F g->g≠a->ay w 5 g c xs->ay w' 5 g c xs):∀{xs:List Value} {d:List (List Int)},fa w F a xs d->fa w' F a xs d
 | [], [],_=>trivial
 |_ :: _,_ :: _,⟨⟨g,c,h1,h2,h3,h4⟩,h5⟩=>⟨⟨g,c,h1,h2,h3,b g c _ h2 h3 h4⟩,fa.carry b h5⟩
 | [],_ :: _,h=>h.elim
 |_ :: _, [],h=>h.elim
theorem fa.mono {w:World} {F G:Nat->Prop} {a:Nat} (b:∀k,F k->G k):∀{xs:List Value} {d:List (List Int)},fa w F a xs d->fa w G a xs d
 | [], [],_=>trivial
 |_ :: _,_ :: _,⟨⟨g,c,h1,h2,h3,h4⟩,h5⟩=>⟨⟨g,c,h1,b g h2,h3,h4⟩,fa.mono b h5⟩
 | [],_ :: _,h=>h.elim
 |_ :: _, [],h=>h.elim
theorem fa.length {w:World} {F:Nat->Prop} {b:Nat}:∀{xs:List Value} {a:List (List Int)},fa w F b xs a->xs.length=a.length
 | [], [],_=>rfl
 |_ :: _,_ :: _,⟨_,h5⟩=>by simp [fa.length h5]
 | [],_ :: _,h=>h.elim
 |_ :: _, [],h=>h.elim
theorem fa.snoc {w:World} {F:Nat->Prop} {a:Nat} {v:Value} {l:List Int} (b:∃g c,v= .slice (some (aD g 0)) 512 c/\F g/\g≠a/\ay w 5 g c (bs l)):
  ∀{xs:List Value} {d:List (List Int)},fa w F a xs d->fa w F a (xs ++ [v]) (d ++ [l])
 | [], [],_=>⟨b,trivial⟩
 |_ :: _,_ :: _,⟨h,h5⟩=>⟨h,fa.snoc b h5⟩
 | [],_ :: _,h=>h.elim
 |_ :: _, [],h=>h.elim
theorem fa.get {w:World} {F:Nat->Prop} {b:Nat}:∀{xs:List Value} {a:List (List Int)},fa w F b xs a->∀j (hj:j<a.length),∃g c,xs[j]? =some (.slice (some (aD g 0)) 512 c)/\F g/\g≠b/\ay w 5 g c (bs a[j])
 | [], [],_,j,hj=>by simp at hj
 |v :: vs,l :: a,⟨⟨g,c,h1,h2,h3,h4⟩,h5⟩,j,hj=>by
  cases j with
  |zero=>exact⟨g,c,by simp [h1],h2,h3,h4⟩
  |succ j=>simpa using fa.get h5 j (by simpa using hj)
 | [],_ :: _,h,_,_=>h.elim
 |_ :: _, [],h,_,_=>h.elim
theorem aP.lt {S:DS} (h:aP w F p s S):∀k,F k->k<w.heap.size:=by
 obtain⟨c,a,m,D,d,b,_,_,_,h,_⟩:=h;exact h
theorem aP.ok {S:DS} (h:aP w F p s S):S.Ok s:=by
 obtain⟨c,a,m,D,d,b,_,_,_,_,_,_,_,_,h⟩:=h;exact h
theorem eh {m:Nat} {D:DataW Value} (h:w.ownsMap prog 3 Rs m n D) (e:w'.heap[m]? =w.heap[m]?):w'.ownsMap prog 3 Rs m n D:=by
 obtain⟨b,a,c,d⟩:=h;exact⟨b,a,e.trans c,d⟩
theorem gO.agree {D:DataW Value} (h:gO w F gi D gr cr db) (b:∀k,F k->w'.heap[k]? =w.heap[k]?):
  gO w' F gi D gr cr db:=
   ⟨h.keys,h.Fq,h.look,λk e=>by
  obtain⟨a,xs,c,d⟩:=h.row k e;exact⟨a,xs,c.agree (b _ a),d.agree b⟩,h.inj⟩
theorem gO.carry {D:DataW Value} (h:gO w F gi D gr cr db)
    (e:∀g c xs,F g->g≠gi->ay w 5 g c xs->ay w' 5 g c xs) (i:∀g c xs,F g->ay w 36 g c xs->ay w' 36 g c xs):gO w' F gi D gr cr db:=
   ⟨h.keys,h.Fq,h.look,λk f=>by
  obtain⟨a,xs,b,d⟩:=h.row k f;exact⟨a,xs,i _ _ _ a b,d.carry e⟩,h.inj⟩
theorem ay.other {f:Nat×Nat} (h:ay w e g c xs) (j:aa (λk=>k=q) w w') (l:w.heap[q]? =some (.cells cur e' f)) (i:e'≠e):ay w' e g c xs:=by
 refine h.agree (j.block g h.lt (λd=>?_));obtain⟨b,a,_⟩:=h;rw [d,l] at a;simp at a;exact i a.2.1
theorem ay.ne {f:Nat×Nat} (h:ay w e g c xs) (j:w.heap[q]? =some (.cells cur e' f)) (i:e'≠e):g≠q:=by
 intro d;obtain⟨b,a,_⟩:=h;rw [d,j] at a;simp at a;exact i a.2.1
theorem gA {m:Nat} {D:DataW Value} {d:Nat×Nat} (h:w.ownsMap prog 3 Rs m n D) (f:w.heap[q]? =some (.cells cur e d)):m≠q:=by
 obtain⟨g,a,b,_⟩:=h;intro c;rw [c,f] at b;simp at b
theorem gO.mono {D:DataW Value} (h:gO w F gi D gr cr db) (a:∀k,F k->G k):
  gO w G gi D gr cr db:=
   ⟨h.keys,h.Fq,h.look,λk e=>by
  obtain⟨b,xs,c,d⟩:=h.row k e;exact⟨a _ b,xs,c,d.mono a⟩,h.inj⟩
theorem aP.agree {S:DS} (h:aP w F p s S) (u:w.heap.size<=w'.heap.size) (a:∀k,F k->w'.heap[k]? =w.heap[k]?):aP w' F p s S:=by
 obtain⟨b,f,m,D,i,g,c,d,e,j,l,n,o,q,r⟩:=h;exact⟨b,f,m,D,i,g,c,d,e,λk t=>iP (j k t) u,(a p c).trans l,n.agree (a b d),eh o (a m e),q.agree a,r⟩
theorem aP.au {S:DS} (h:aP w F p s S) (k:aa G w w') (hd:∀k,F k->¬G k):aP w' F p s S:=
 h.agree k.size (λj a=>k.block j (h.lt j a) (hd j a))
theorem aP.mono {S:DS} (h:aP w F p s S) (a:∀k,F k->G k) (r:∀k,G k->k<w.heap.size):aP w G p s S:=by
 obtain⟨d,b,m,D,e,c,f,g,i,t,j,l,n,o,q⟩:=h;exact⟨d,b,m,D,e,c,a _ f,a _ g,a _ i,r,j,l,n,o.mono a,q⟩
def gD (w:World) (F:Nat->Prop) (p s:Nat) (S:DS) (m:Nat):Prop:=∃gi ci D gr cr,aM w F p s S gi ci m D gr cr
theorem gD.at {S:DS} {m:Nat} (h:gD w F p s S m):aP w F p s S:=by
 obtain⟨c,a,D,d,b,h⟩:=h;exact⟨c,a,m,D,d,b,h⟩
theorem aP.m {S:DS} (h:aP w F p s S):∃m,gD w F p s S m:=by
 obtain⟨c,a,m,D,d,b,h⟩:=h;exact⟨m,c,a,D,d,b,h⟩
theorem gD.agree {S:DS} {m:Nat} (h:gD w F p s S m) (u:w.heap.size<=w'.heap.size) (a:∀k,F k->w'.heap[k]? =w.heap[k]?):gD w' F p s S m:=by
 obtain⟨b,f,D,i,g,c,d,e,j,l,n,o,q,r⟩:=h;exact⟨b,f,D,i,g,c,d,e,λk t=>iP (j k t) u,(a p c).trans l,n.agree (a b d),eh o (a m e),q.agree a,r⟩
theorem gD.au {S:DS} {m:Nat} (h:gD w F p s S m) (k:aa G w w') (hd:∀k,F k->¬G k):gD w' F p s S m:=
 h.agree k.size (λj a=>k.block j (h.at.lt j a) (hd j a))
theorem gD.mono {S:DS} {m:Nat} (h:gD w F p s S m) (a:∀k,F k->G k) (r:∀k,G k->k<w.heap.size):gD w G p s S m:=by
 obtain⟨d,b,D,e,c,f,g,i,t,j,l,n,o,q⟩:=h;exact⟨d,b,D,e,c,a _ f,a _ g,a _ i,r,j,l,n,o.mono a,q⟩
theorem aM.ni {S S':DS} {m:Nat} {D:DataW Value} (h:aM w F p s S gi ci m D gr cr) (a:aa (λk=>k=p) w w')
    (i:w'.heap[p]? =some (.cells (bG (.slice (some ⟨gi,0,none⟩) (s*512) ci) (.map (some m)) S'.fuse S'.life S'.reads S'.writes S'.flushes S'.refused) 106 (0,0))) (e:S'.im=S.im) (b:S'.puts=S.puts) (f: -1<=S'.fuse/\S'.fuse<=9223372036854775807):
  aM w' F p s S' gi ci m D gr cr:=by
 refine⟨h.fp,h.TO,h.fm,λk j=>iP (h.lt k j) a.size,i,?_,?_,?_,⟨?_,h.ok.lo,h.ok.hi,?_,f⟩⟩
 .rw [e];exact h.Jd.other a h.dj (by decide)
 .rw [b];exact eh h.map (a.block m (h.lt m h.fm) (gA h.map h.dj))
 .rw [b];exact h.db.carry (λg c xs _ _ d=>d.other a h.dj (by decide)) (λg c xs _ d=>d.other a h.dj (by decide))
 .rw [e];exact h.ok.len
 .rw [b];exact h.ok.puts
theorem gO.empty (w:World) (F:Nat->Prop) (b:Nat) (c a:Nat->Nat):gO w F b (.map []) c a (ar []):=
   ⟨λd h=>by simp [has] at h,λ_ _=>rfl,λk h=>absurd rfl h,λk h=>absurd rfl h,λk _ h=>absurd rfl h⟩
theorem qA (a:Addr) (n c:Nat) (l:List Int) (w:World) (C:l.length=n) (aT:n<=140737488355328) (p:∀i,i<n->w.cell? (a.add i)=some (.int .u8 (l.getD i 0))):
  Calls prog 93 #[.slice (some a) n c] w λe w'=>∃g c',e= .returned (.slice (some (aD g 0)) n c')/\w.heap.size<=g/\ay w' 5 g c' (bs l)/\bW w w':=by
 obtain⟨z,r,gv,dr,ec⟩:=info_parts fW;have A:∀(w:World) (a:Option Addr) (n c f c':Nat),(binOp .eql 36 (.slice a n c) (.slice none f c')).run prog w= .ok (.bool a.isNone) w:=λw a n c f c'=>Lib.run_eql_slice_nil w _ _ a n c f c' underlying36;go_in;go_wp2_with (at_builtin;refine wpList_append_own _ rfl _ _ 36 rfl w.heap.size 5 z (.int .u8 0) 1 1 underlying36 r gv dr ec rfl (by decide) _ _ _ rfl (World.ownsRow_made w #[] 0 (bP _) (dU _) rfl) a n c (bs l) rfl ?qc1 ?qc2 ?qc3 ?qc4 ?qc5 ?qc6 ?_);case qc1=>simp;omega
 case qc2=>
  intro j u b;have d:j<n:=by
   have:=(mG.1 b).1;simp at this;omega
  refine Lib.cell?_alloc_some _ ?_;rw [p j d];have e:(bs l)[j]? =some (Value.int .u8 (l.getD j 0)):=by simp [bs,List.getD,List.getElem?_eq_getElem (show j<l.length by omega)]
  rw [e] at b;exact b
 case qc3=>intro u v;obtain⟨x,_,rfl⟩:=List.mem_map.1 v;rfl
 case qc4=>unfold maxLen;omega
 case qc5=>omega
 case qc6=>simp
 intro m w1 az aO jx;have o:=((bi _ w).alloc (bP _) _).grown aO (by simp) (by intro k s;simp [Value.ownBlock] at s;omega);have y:m≠ .slice none 0 0:=by first|exact jx|(intro e;exact absurd (jx.1 e).1 (by simp))
 have cJ:w1.ownsRow w.heap.size 5 1 m n (bs l):=by simpa using az
 obtain⟨g,c',rfl,q,t,_⟩:=ay.eW cJ y;go_wp2;go_ret;exact⟨g,c',rfl,q,t,o⟩
def DS.fresh (l:List Int):DS:={im:=l,puts:= [],fuse:= -1,life:=1,reads:=0,writes:=0,flushes:=0,refused:=0}
theorem IK {w0:World} (b:bW w0 w1) (o:w0.heap.size<=g) (d:ay w1 5 g c (bs l)) (n:l.length=s*512) (j:1<=s) (m:s<=2048):
  let w':=(w1.alloc (.map #[] 0)).alloc (.cells (bG (.slice (some ⟨g,0,none⟩) (s*512) c) (.map (some w1.heap.size)) (-1) 1 0 0 0 0) 106)
  aP w' (λk=>w0.heap.size<=k/\k<w'.heap.size) (w1.heap.size+1) s (DS.fresh l)/\bW w0 w':=by
 intro w';have UF:=d.lt;have p:=b.size;have ef:w'.heap.size=w1.heap.size+2:=by simp [w']
 have e:∀k,k<w1.heap.size->w'.heap[k]? =w1.heap[k]? :=λk a=>by
  rw [Below.heap_alloc _ _ _ (by simp;omega),Below.heap_alloc _ _ _ a]
 have f:w'.heap[w1.heap.size]? =some (.map #[] 0):=by
  rw [Below.heap_alloc _ _ _ (by simp)];exact heap_alloc_new _ _
 have i:w'.heap[w1.heap.size+1]? =some (.cells (bG (.slice (some ⟨g,0,none⟩) (s*512) c) (.map (some w1.heap.size)) (-1) 1 0 0 0 0) 106 (0,0)):=by
  have:=heap_alloc_new (w1.alloc (.map #[] 0)) (.cells (bG (.slice (some ⟨g,0,none⟩) (s*512) c) (.map (some w1.heap.size)) (-1) 1 0 0 0 0) 106);have ed:(w1.alloc (.map #[] 0)).heap.size=w1.heap.size+1:=by simp
  rw [ed] at this;exact this
 refine⟨⟨g,c,w1.heap.size, .map [],λ_=>0,λ_=>0,⟨by omega,by omega⟩,⟨by omega,by omega⟩,⟨by omega,by omega⟩,λk a=>a.2,i,d.agree (e g UF),?_,gO.empty _ _ _ _ _,⟨n,j,m,by simp [DS.fresh],by simp [DS.fresh]⟩⟩,?_⟩
 .have:=World.ownsMap_made w1 prog 3 Rs;exact eh this (by rw [f];exact(heap_alloc_new _ _).symm)
 .exact(b.alloc (by omega) _).alloc (by simp;omega) _
theorem Yv (s:Int) (w:World) (h:s<1\/2048<s):
  Calls prog 16 #[iV s] w λe w'=>e= .returned (.tuple #[.pointer none,iV 10])/\w'=w:=by
 go_in;rcases h with h|h
 .go_wp2;go_ret2;exact⟨rfl,rfl⟩
 .have a:¬s<1:=by omega
  go_wp2;go_ret2;exact⟨rfl,rfl⟩
theorem PD (s:Nat) (w:World) (a:1<=s) (b:s<=2048):
  Calls prog 16 #[iV s] w λe w'=>∃p,e= .returned (.tuple #[pQ p,iV 0])/\
   aP w' (λk=>w.heap.size<=k/\k<w'.heap.size) p s (DS.fresh (List.replicate (s*512) 0))/\bW w w':=by
 obtain⟨i,f,gv,dr,ec⟩:=info_parts fW;have Yw:¬(s:Int)<1:=by omega
 have c:¬(2048:Int)<(s:Int):=by omega
 go_in;go_wp2_with (at_make;refine wpList_make_full _ rfl _ _ 36 rfl w.heap.size 5 i (.int .u8 0) 1 underlying36 f gv dr _ _ _ _ (s*512) rfl rfl ?c1 ?c2 ?c3 ?c4 ?c5 ?_);case c3=>omega
 case c4=>unfold maxLen;omega
 intro w1 az aO;have d:=(bi _ w).grown aO (bP _) (by intro k g;cases g);go_wp2_with (go_at_call 45;refine(Fp _ _ _ _).mono ?_;rintro e w' ⟨rfl,rfl⟩);go_ret2;exact⟨_,rfl,IK d (bP _) (lJ az) (by simp) a b⟩
theorem PE (a:Option Addr) (n c:Nat) (w:World) (h:n%512≠0) (d:n<=140737488355328):
  Calls prog 41 #[.slice a n c] w λe w'=>e= .returned (.tuple #[.pointer none,iV 2])/\w'=w:=by
 have b:(((n:Int)%512) != 0)=true:=by rw [fT];omega
 go_in;go_wp2;go_ret2;exact⟨rfl,rfl⟩
theorem UG (a:Option Addr) (n c:Nat) (w:World) (h:n%512=0) (b:n=0\/1048576<n) (f:n<=140737488355328):
  Calls prog 41 #[.slice a n c] w λe w'=>e= .returned (.tuple #[.pointer none,iV 10])/\w'=w:=by
 have d:(((n:Int)%512) != 0)=false:=by rw [Bool.eq_false_iff,ne_eq,fT];omega
 go_in;rcases b with h0|h0
 .have O8:((n:Int) == 0)=true:=by rw [beq_iff_eq];omega
  go_wp2;go_ret2;exact⟨rfl,rfl⟩
 .have O8:((n:Int) == 0)=false:=by rw [Bool.eq_false_iff,ne_eq,beq_iff_eq];omega
  go_wp2;go_ret2;exact⟨rfl,rfl⟩
theorem UH (a:Addr) (n c s:Nat) (l:List Int) (w:World) (q:n=s*512) (t:1<=s) (u:s<=2048) (r:l.length=n) (j:∀i,i<n->w.cell? (a.add i)=some (.int .u8 (l.getD i 0))):
  Calls prog 41 #[.slice (some a) n c] w λe w'=>∃p,e= .returned (.tuple #[pQ p,iV 0])/\
   aP w' (λk=>w.heap.size<=k/\k<w'.heap.size) p s (DS.fresh l)/\bW w w':=by
 have x:(((n:Int)%512) != 0)=false:=by rw [Bool.eq_false_iff,ne_eq,fT];omega
 have O8:((n:Int) == 0)=false:=by rw [Bool.eq_false_iff,ne_eq,beq_iff_eq];omega
 have y:¬(1048576:Int)<(n:Int):=by omega
 have H:Yh (∀i,i<n->w.cell? (a.add i)=some (.int .u8 (l.getD i 0))):=j;have d:Yh (n=s*512):=q;clear j q;go_in;go_wp2_with fail;refine(qA a n c l w r (by omega) H.o).mono ?_;rintro e w1 ⟨g,c',rfl,v,m,f⟩;have b:=yh (IK f v m (r.trans d.o) t u);rw [<-d.o] at b;clear m f;go_wp2_with (go_at_call 45;refine(Fp _ _ _ _).mono ?_;rintro e w' ⟨rfl,rfl⟩);go_ret2;exact⟨_,rfl,b.o⟩
theorem MD (p s:Nat) (F:Nat->Prop) (S:DS) (w:World) (h:aP w F p s S):
  Calls prog 33 #[pQ p] w λe w'=>∃g c,e= .returned (.slice (some (aD g 0)) (s*512) c)/\w.heap.size<=g/\ay w' 5 g c (bs S.im)/\bW w w':=by
 obtain⟨d,b,m,D,u,t,v,x,y,z,f,j,A,C,a⟩:=h;have r:=aL f;have o:=a.len;have n:=a.hi;have Fr:=qA (aD d 0) (s*512) b S.im w o (by omega) (λi n=>j.byte (by omega));go_in;go_wp2_with (go_at_call 93;refine Fr.mono ?_;rintro e w' ⟨g,c,rfl,l,q,k⟩);go_ret;exact⟨g,c,rfl,l,q,k⟩
theorem PF (b o f g:Nat) (n c d:Nat) (l:List Int) (w:World) (s:n<=140737488355328) (j:∀i,i<n->w.cell? ⟨b,o+i,none⟩=some (.int .u8 (l.getD i 0))) (m:∀i,i<n->w.cell? ⟨f,g+i,none⟩=some (.int .u8 (l.getD i 0))):
  Calls prog 21 #[.slice (some (aD b o)) n c, .slice (some (aD f g)) n d] w λe w'=>e= .returned (.bool true)/\bW w w':=by
 go_in;go_wp2;go_loopw [5] (λi wr=>∃k:Nat,k<=n/\i=iV k/\bW w wr) (λi _=>n-(intOf i).toNat);case atStart=>exact⟨0,dU _,rfl,bi _ _⟩
 case round=>
  obtain⟨k,r,rfl,a⟩:=hrel;by_cases bm:k<n
  .have p:=cell_later a (j k bm);have q:=cell_later a (m k bm);have cw:(k:Int)<(n:Int):=(by omega);go_wp2;go_quiet (fail);go_wp2;go_roundw;case rel=>exact⟨k+1,by omega,by go_num,below_drewN a _⟩
   case measure=>simp [intOf];omega
  .have cw:¬(k:Int)<(n:Int):=(by omega);go_wp2;go_ret;exact⟨rfl,a⟩
theorem BX (a b:Option Addr) (c d:Nat) (w:World):
  Calls prog 21 #[.slice a 0 c, .slice b 0 d] w λe w'=>e= .returned (.bool true)/\w'=w:=by
 go_in;go_wp2;refine wp_loop_rounds 1 ?_;rw [rounds_succ];go_wp2;go_ret;exact⟨rfl,rfl⟩
theorem pb (a b:Option Addr) (n c d:Nat) (l:List Int) (w:World) (k:n<=140737488355328) (f:Src w a n l) (g:Src w b n l):
  Calls prog 21 #[.slice a n c, .slice b n d] w λe w'=>e= .returned (.bool true)/\bW w w':=by
 by_cases h0:n=0
 .subst h0;exact(BX a b c d w).mono (by rintro e w' ⟨rfl,rfl⟩;exact⟨rfl,bi _ _⟩)
 .cases a with
  |none=>exact absurd (f.2.1 rfl) h0
  |some x=>
   cases b with
   |none=>exact absurd (g.2.1 rfl) h0
   |some y=>
    obtain⟨i,p,rfl,m⟩:=f.spot (by omega);obtain⟨j,q,rfl,o⟩:=g.spot (by omega);exact PF i p j q n c d l w k m o
def pd (left:Lit->Bool) (puts:List (Nat×List Int)):Nat:=(puts.filter (λq=> !left (kk q.1))).length
theorem ln (a b:Nat):(kk a).sameKey (kk b)=(a == b):=by
 by_cases h:a=b
 .subst h;simp [WideAt.sameKey_self (show WideAt.IsKeyLit (kk a) from trivial)]
 .rw [Maps.sameKey_ne (by intro e;simp [kk] at e;omega)];simp [h]
theorem xY (left:Lit->Bool) (k:Nat) (a:left (kk k)=true):∀puts:List (Nat×List Int),pd (λz=>left z && !z.sameKey (kk k)) puts=pd left puts+(ar puts k).length
 | []=>by simp [pd,ar]
 |q :: r=>by
  have c:=xY left k a r;unfold pd ar at*;by_cases h:q.1=k
  .simp [h,a,ln] at*;omega
  .by_cases b:left (kk q.1)=true
   .simp [h,b,ln] at*;omega
   .simp [h,b,ln] at*;omega
theorem Fs {D:DataW Value} {puts:List (Nat×List Int)} (h:∀q∈puts,has D (kk q.1)=true):pd (has D) puts=0:=by
 unfold pd;rw [List.length_eq_zero_iff,List.filter_eq_nil_iff];intro q a;simp [h q a]
theorem ME {left:Lit->Bool} {puts:List (Nat×List Int)} (h:∀kl,left kl=false):pd left puts=puts.length:=by
 unfold pd;rw [List.filter_eq_self.2 (λq _=>by simp [h])]
theorem PG (left:Lit->Bool) (puts:List (Nat×List Int)):pd left puts<=puts.length:=List.length_filter_le _ _
theorem PH {puts:List (Nat×List Int)} {q:Nat×List Int} (h:q∈puts):ar puts q.1≠ []:=by
 unfold ar;intro e;rw [List.map_eq_nil_iff,List.filter_eq_nil_iff] at e;exact e q h (by simp)
theorem gO.has {D:DataW Value} (h:gO w F gi D gr cr db) (a:db k≠ []):Maps.has D (kk k)=true:=
 Maps.has_true_of_atKey (h.look k a)
abbrev MF (c:Option Addr×Nat×Nat):Value:= .slice c.1 c.2.1 c.2.2
theorem rX (v:Value) (y:DataW Value×List MemPlace) (h:Rs v=some y):∃c,v=MF c:=by
 unfold Rs at h;split at h
 .exact⟨(_,_,_),rfl⟩
 .cases h
theorem Ft (c:Option Addr×Nat×Nat):Rs (MF c)=some (.held (MF c), []):=rfl
theorem gO.met {D:DataW Value} (h:gO w F gi D gr cr db) {x:Int} {c:Option Addr×Nat×Nat} {b:Lit} {y:DataW Value×List MemPlace}
    (gF:keyOf prog 3 (iV x)=some b) (f:Rs (MF c)=some y) (ic:∀zd,D.atKey b zd=y.1):
  ∃k:Nat,x=(k:Int)/\b=kk k/\db k≠ []/\c=(some ⟨gr k,0,none⟩,(db k).length,cr k):=by
 obtain⟨k,rfl,e⟩:=h.keys b (Maps.has_true_of_atKey ic);obtain⟨m,i,g,_⟩:=Maps.keyOf_int_inv underlying3 gF;have j:x=(k:Int):=by cases i;simpa [kk] using g.symm
 rw [Ft] at f;cases f;have d:=ic .nil;rw [h.look k e] at d;obtain⟨a,n,l⟩:=c;simp [MF] at d;exact⟨k,j,rfl,e,by simp [d]⟩
theorem PJ {b:Nat} {t:TypeId} {g i j k l:Value} (a c d e f:Value) (h:w.heap[b]? =some (.cells #[g,i,j,k,l] t (0,0))):
    (((((w.setCell ⟨b,0,none⟩ a).setCell ⟨b,1,none⟩ c).setCell ⟨b,2,none⟩ d).setCell ⟨b,3,none⟩ e).setCell ⟨b,4,none⟩ f).heap[b]? =some (.cells #[a,c,d,e,f] t (0,0)):=by
 simpa using (heap_setCell_same _ b 4 _ t f (heap_setCell_same _ b 3 _ t e (heap_setCell_same _ b 2 _ t d (heap_setCell_same _ b 1 _ t c (heap_setCell_same w b 0 _ t a h)))))
abbrev dL (r wr fl rf pe:Int):Array Value:= #[iV r,iV wr,iV fl,iV rf,iV pe]
theorem Je (p s:Nat) (F:Nat->Prop) (S:DS) (w:World) (h:aP w F p s S) (aT:S.puts.length<=140737488355328):
  Calls prog 37 #[pQ p] w λe w'=>e= .returned (.agg (dL S.reads S.writes S.flushes S.refused S.puts.length))/\bW w w':=by
 obtain⟨W,O,m,D,X,P,r,Y,t,f,a,Z,u,g,h9⟩:=h;obtain⟨I,J,K,L,M,N,pf,AY⟩:=rV (bD a) (gz a) (rU a) (wG a) (ri a) (Dg a) (f p r) (f m t);go_in;go_wp2_with (at_range;refine wpList_range_own _ rfl _ 104 rfl 3 62 fX underlying104 Rs m S.puts.length D rfl ((u.alloc _).alloc _) ?_;intro w0 pg uD xZ;go_frame);have b:((w.alloc (Obj.cells (dL 0 0 0 0 0) 65)).alloc (Obj.cells (dL S.reads S.writes S.flushes S.refused 0) 65)).heap.size=w.heap.size+2:=by simp
 rw [b] at pg xZ⊢;have Di:=(uD.block w.heap.size (by rw [b];omega) (by simp)).trans ((Below.heap_alloc _ _ _ (by simp)).trans (heap_alloc_new w (Obj.cells (dL 0 0 0 0 0) 65)));have bK:w0.heap[w.heap.size+1]? =some (Obj.cells (dL S.reads S.writes S.flushes S.refused 0) 65 (0,0)):=by
  refine(uD.block (w.heap.size+1) (by rw [b];omega) (by simp)).trans ?_;have:=heap_alloc_new (w.alloc (Obj.cells (dL 0 0 0 0 0) 65)) (Obj.cells (dL S.reads S.writes S.flushes S.refused 0) 65);have n:(w.alloc (Obj.cells (dL 0 0 0 0 0) 65)).heap.size=w.heap.size+1:=by simp
  rw [n] at this;exact this
 have kv:=(((bi _ w).alloc (bP _) _).alloc (by simp) _).grown uD (by rw [b];omega) (λj d=>by cases d);go_loopw [5] (λ_ wr=>∃(left:Lit->Bool) (iN:Nat),wr.ranges prog 3 Rs m (w.heap.size+2) S.puts.length D left iN/\
   wr.heap[w.heap.size]? =some (Obj.cells (dL 0 0 0 0 0) 65 (0,0))/\
   wr.heap[w.heap.size+1]? =some (Obj.cells (dL S.reads S.writes S.flushes S.refused (pd left S.puts:Nat)) 65 (0,0))/\bW w wr)
    (λ_ wr=>wr.rangeLeft m (w.heap.size+2))
 case atStart=>exact⟨_,_,pg,Di,by rw [(Fs (λq A=>g.has (PH A)))];exact bK,kv⟩
 case round=>
  obtain⟨left,iN,mI,Di,bK,c⟩:=hrel;go_wp2_with (at_next;refine wpList_next_ranges _ rfl _ rfl 3 fX Rs (Value.int .i64) MF (λG H gF=>by obtain⟨x,rfl,_⟩:=Maps.keyOf_int_inv underlying3 gF;exact⟨x,rfl⟩) rX m (w.heap.size+2) S.puts.length _ _ _ rfl mI ?_ ?_)
  .intro _ vJ;rw [ME vJ] at bK;obtain⟨k0,k1,k2,k3,E,r0,r1,r2,r3,r4,Q,R⟩:=BU (aL bK) (bD bK) (bH bK) (fI bK) (gz bK) (aL Di) (bD Di) (bH Di) (fI Di) (gz Di) (ae Di 0) (ae Di 1);have T:=ae Di 2;have U:=ae Di 3;have o:=ae Di 4;go_wp2;have a:=PJ (iV S.reads) (iV S.writes) (iV S.flushes) (iV S.refused) (iV S.puts.length) Di;refine bodyPost_ret (v:= .agg (dL S.reads S.writes S.flushes S.refused S.puts.length)) (by simp [results,results37,go_sem,dL,aL a,bD a,bH a,fI a,(gz a)]) rfl ⟨rfl,?_⟩;exact((((c.setCell (bP _) _).setCell (bP _) _).setCell (bP _) _).setCell (bP _) _).setCell (bP _) _
  .intro x ca l i H yd yp w2 ph gF x8 C ic oR bm fU bo IQ;obtain⟨k,rfl,rfl,hp,y⟩:=g.met gF C ic;obtain⟨rfl,rfl,rfl⟩:ca=_/\l=_/\i=_:=(by simpa using y);have bt:=(xY left k x8 S.puts);have Yx:pd left S.puts+(ar S.puts k).length<=S.puts.length:=(by have:=PG (λz=>left z && !z.sameKey (kk k)) S.puts;rw [bt] at this;exact this);have abY:=(fU.block w.heap.size (by have:=(kN.1 Di).1;omega) (by simp)).trans Di;have Yy:=(fU.block (w.heap.size+1) (by have:=(kN.1 bK).1;omega) (by simp)).trans bK;have eC:=c.grown fU c.size (λj d=>by cases d;omega);have E:=gz Yy;have o:=ae Yy 4;go_wp2;go_roundw;case rel=>
    refine⟨_,ph,oR.kept (mH _ _ _) (λe=>by have:=Option.some.inj e;simp only at this;omega) (λe=>by have:=Option.some.inj e;simp only at this;omega),?_,?_,eC.setCell (Nat.le_succ _) _⟩
    .rw [Below.heap_setCell _ _ _ _ (by simp)];exact abY
    .rw [bt,heap_setCell_same _ _ _ _ _ _ Yy];simp [dL]
   case measure=>
    rw [(oR.kept (mH _ _ _) (λe=>by have:=Option.some.inj e;simp only at this;omega) (λe=>by have:=Option.some.inj e;simp only at this;omega)).left_eq,mI.left_eq];exact bm
theorem aP.cells {S:DS} (h:aP w F p s S):w.cell? (aD p 2)=some (iV S.fuse)/\w.cell? (aD p 3)=some (iV S.life)/\(∀j,w.frozen? (aD p j)=false)/\
  ∃gi ci,w.cell? (aD p 0)=some (.slice (some (aD gi 0)) (s*512) ci):=by
 obtain⟨gi,ci,m,D,c,b,d,e,f,g,a,i,k,l,n⟩:=h;exact⟨bH a,fI a,ae a,gi,ci,aL a⟩
theorem x9 {S:DS} (h:aP w F p s S):
  Calls prog 47 #[pQ p] w λe w'=>e= .returned (iV s)/\w'=w:=by
 obtain⟨_,_,_,d,c,b⟩:=h.cells;have:=h.ok.hi;have e:s*512 / 512=s:=by omega
 have a:=vI p _ (s*512) c w (by omega) b;rw [e] at a;exact a
theorem ii {S:DS} (h:aP w F p s S):
  Calls prog 35 #[pQ p] w λe w'=>e= .returned (.bool (S.fuse == 0))/\w'=w:=uJ p _ w h.cells.1
theorem UI {S:DS} (h:aP w F p s S):
  Calls prog 22 #[pQ p] w λe w'=>e= .returned (iV S.life)/\w'=w:=PA p _ w h.cells.2.1
theorem tf (a:Option Addr) (n c:Nat) (l:List Int) (w:World) (s:n<=140737488355328) (i:Src w a n l):
  Calls prog 42 #[.slice a n c] w λe w'=>∃g,e= .returned (.slice (some (aD g 0)) n n)/\w.heap.size<=g/\ay w' 5 g n (bs l)/\bW w w':=by
 obtain⟨q,m,gv,dr,ec⟩:=info_parts fW;go_in;go_wp2_with (at_make;refine wpList_make_full _ rfl _ _ 36 rfl w.heap.size 5 q (.int .u8 0) 1 underlying36 m gv dr _ _ _ _ n rfl rfl ?c1 ?c2 ?c3 ?c4 ?c5 ?_);case c1=>rfl
 case c2=>rfl
 case c3=>rw [ec];omega
 case c4=>unfold maxLen;omega
 case c5=>exact bP _
 intro w1 az aO;have p:=lJ az;have b:=(bi _ w).grown aO (bP _) (by intro k d;cases d);have j:=p.full (by simp [bs]);have ed:=i.later b;have o:=i.1;obtain⟨r,bC,f,d,_⟩:=xX w1 3 (some (aD w.heap.size 0)) w.heap.size 0 n n a n c (bs (List.replicate n 0)) l j ed (λ_=>rfl) (by simp [bs]);have aW:=b.trans (d.below (λk h=>by omega) b.size);have fb:ay r 5 w.heap.size n (bs l):=by
  have e:splice (bs (List.replicate n 0)) 0 (bs (l.take n))=bs l:=by
   rw [nh (by omega)];simp [splice,bs];omega
  rw [e] at f;have:=ay.xp f (by simp [bs,maxLen];omega);simpa [bs,o] using this
 go_wp2;go_ret;exact⟨w.heap.size,rfl,bP _,fb,aW⟩
def bI (im:List Int) (k:Nat):List Int:=(im.drop (k*512)).take 512
def DS.gB (S:DS) (k j:Nat):List Int:=if j=0 then bI S.im k else (ar S.puts k).getD (j-1) []
theorem ym (w:World):(zeroValue 62).run prog w= .ok (.slice none 0 0) w:=by kernel_rfl
theorem lD (k:Nat) (a:k<2048):keyOf prog 3 (iV (k:Int))=some (kk k):=
 keyOf_int_mk underlying3 (WalkArith.wf_i64 (by omega))
theorem aM.look {S:DS} {m:Nat} {D:DataW Value} (h:aM w F p s S gi ci m D gr cr) (e:k<s):
  ∃a c,(Instr.lookup 104 (.map (some m)) (iV (k:Int)) false).run prog w= .ok (.slice a (ar S.puts k).length c) w/\
     (ar S.puts k≠ []->a=some ⟨gr k,0,none⟩/\c=cr k)/\(ar S.puts k= []->a=none/\c=0):=by
 have f:=h.ok.hi;obtain⟨v,ps,bC,b⟩:=h.map.lookup fX underlying104 (ym w) (zd:= .held (.slice none 0 0)) (zp:= []) rfl (lD k (by omega));by_cases d:ar S.puts k= []
 .rw [Maps.atKey_of_not_has (h.db.Fq k d)] at b;obtain⟨⟨a,n,c⟩,rfl⟩:=rX v _ b;rw [Ft] at b;simp [MF] at b;obtain⟨⟨rfl,rfl,rfl⟩,_⟩:=b;exact⟨none,0,by rw [d];exact bC,λh=>absurd d h,λ_=>⟨rfl,rfl⟩⟩
 .rw [h.db.look k d] at b;obtain⟨⟨a,n,c⟩,rfl⟩:=rX v _ b;rw [Ft] at b;simp [MF] at b;obtain⟨⟨rfl,rfl,rfl⟩,_⟩:=b;exact⟨_,_,bC,λ_=>⟨rfl,rfl⟩,λh=>absurd h d⟩
theorem UJ {im:List Int} (h:ay w 5 gi ci (bs im)) (d:im.length=s*512) (c:k<s):Src w (some ⟨gi,k*512,none⟩) 512 (bI im k):=by
 refine⟨by simp [bI];omega,(λh=>by cases h),λx b i a=>?_⟩;cases b;rw [aK];have:=h.byte (i:=k*512+i) (by omega);rw [aK,Nat.zero_add] at this;rw [this];simp [bI,List.getD,a]
theorem yn {S:DS} (h:S.Ok s) (b:j<(ar S.puts k).length):((ar S.puts k)[j]).length=512:=by
 have a:=List.getElem_mem b;unfold ar at a;obtain⟨q,c,e⟩:=List.mem_map.1 a;have:=(h.puts q (List.mem_filter.1 c).1).2;unfold ar;rw [<-e];exact this
theorem MG {S:DS} {m:Nat} {D:DataW Value} (h:aM w F p s S gi ci m D gr cr) (k:Nat) (a:k<s):
  Calls prog 96 #[pQ p,iV (k:Int),iV 0] w λe w'=>e= .returned (.slice (some ⟨gi,k*512,none⟩) 512 512)/\w'=w:=by
 have b:=h.Jd.le;have hd:=o9 p gi (s*512) ci s k k w (aL h.dj) rfl a rfl h.ok.hi (by simp [bs,h.ok.len] at b;omega);go_in;go_wp2_with (go_at_call 107;refine hd.mono ?_;rintro e w' ⟨rfl,rfl⟩);go_ret;exact⟨rfl,rfl⟩
theorem MH {S:DS} {m:Nat} {D:DataW Value} (h:aM w F p s S gi ci m D gr cr) (k:Nat) (q:k<s) (i:Nat) (f:Int) (o:f=(i:Int)+1) (b:i<(ar S.puts k).length) (aT:S.puts.length<=140737488355328):
  Calls prog 96 #[pQ p,iV (k:Int),iV f] w λe w'=>∃g c,e= .returned (.slice (some (aD g 0)) 512 c)/\F g/\g≠gi/\ay w 5 g c (bs (ar S.puts k)[i])/\w'=w:=by
 subst o;have u:=bD h.dj;have d:ar S.puts k≠ []:=by intro e;rw [e] at b;simp at b
 obtain⟨a,c,bC,l,_⟩:=h.look q;obtain⟨rfl,rfl⟩:=l d;obtain⟨_,xs,aY,oL⟩:=h.db.row k d;obtain⟨g,j,t,n,dG,r⟩:=oL.get i b;have v:=aY.cell t;have y:(ar S.puts k).length<=S.puts.length:=by unfold ar;rw [List.length_map];exact List.length_filter_le _ _
 have x:((i:Int)+1 == 0)=false:=by rw [Bool.eq_false_iff,ne_eq,beq_iff_eq];omega
 have nj:(i:Int)<((ar S.puts k).length:Int):=by omega
 go_in;go_wp2;go_ret;exact⟨g,j,rfl,n,dG,r,rfl⟩
def DS.now (S:DS) (k:Nat):List Int:=S.gB k (ar S.puts k).length
theorem DS.np {S:DS} (h:S.Ok s) (b:k<s) (a:j<=(ar S.puts k).length):(S.gB k j).length=512:=by
 unfold DS.gB;split
 .simp [bI];have:=h.len;omega
 .have AX:j-1<(ar S.puts k).length:=by omega
  rw [List.getD,List.getElem?_eq_getElem AX,Option.getD_some];exact yn h AX
theorem Fu {S:DS} {m:Nat} {D:DataW Value} (h:aM w F p s S gi ci m D gr cr) (k:Nat) (a:k<s) (j:Nat) (q:j<=(ar S.puts k).length) (aT:S.puts.length<=140737488355328):
  Calls prog 96 #[pQ p,iV (k:Int),iV (j:Int)] w λe w'=>∃g o c,e= .returned (.slice (some (aD g o)) 512 c)/\F g/\512<=c/\(g=gi->o=k*512/\S.gB k j=bI S.im k)/\Src w (some (aD g o)) 512 (S.gB k j)/\w'=w:=by
 cases j with
 |zero=>exact(MG h k a).mono (by rintro e w' ⟨rfl,rfl⟩;exact⟨gi,k*512,512,rfl,h.TO,bP _,λ_=>⟨rfl,rfl⟩,UJ h.Jd h.ok.len a,rfl⟩)
 |succ i=>
  refine(MH h k a i ((i+1:Nat):Int) (by omega) (by omega) aT).mono ?_;rintro e w' ⟨g,c,rfl,l,dG,d,rfl⟩;have f:S.gB k (i+1)=(ar S.puts k)[i]:=by simp [DS.gB,List.getD,List.getElem?_eq_getElem (show i<(ar S.puts k).length by omega)]
  have n:=yn h.ok (k:=k) (j:=i) (by omega);have b:=d.le;refine⟨g,0,c,rfl,l,by simp [bs] at b;omega,λe=>absurd e dG,?_,rfl⟩;rw [f];have:=d.src;rw [n] at this;exact this
def DS.read (S:DS):DS:={S with reads:=wrap64 (S.reads+1)}
def DS.refuse (S:DS):DS:={S with refused:=wrap64 (S.refused+1)}
theorem aM.set {S:DS} {m:Nat} {D:DataW Value} (h:aM w F p s S gi ci m D gr cr) (i:Nat) (v:Value):
    (w.setCell ⟨p,i,none⟩ v).heap[p]? =some (.cells ((bG (.slice (some ⟨gi,0,none⟩) (s*512) ci) (.map (some m)) S.fuse S.life S.reads S.writes S.flushes S.refused).setIfInBounds i v) 106 (0,0))/\aa (λk=>k=p) w (w.setCell ⟨p,i,none⟩ v):=
   ⟨heap_setCell_same _ _ _ _ _ _ h.dj,aa.setCell (F:=λk=>k=p) w (p:=(aD p i)) rfl v⟩
theorem aM.refused {S:DS} {m:Nat} {D:DataW Value} (h:aM w F p s S gi ci m D gr cr):
  aM (w.setCell ⟨p,7,none⟩ (.int .i64 (wrap64 (S.refused+1)))) F p s S.refuse gi ci m D gr cr:=
 h.ni (h.set 7 _).2 ((h.set 7 _).1.trans (by simp [bG,DS.refuse])) rfl rfl h.ok.fuse
theorem aM.reads {S:DS} {m:Nat} {D:DataW Value} (h:aM w F p s S gi ci m D gr cr):
  aM (w.setCell ⟨p,4,none⟩ (.int .i64 (wrap64 (S.reads+1)))) F p s S.read gi ci m D gr cr:=
 h.ni (h.set 4 _).2 ((h.set 4 _).1.trans (by simp [bG,DS.read])) rfl rfl h.ok.fuse
theorem BY {S:DS} (h:aP w F p s S) (a:Int) (c:S.fuse=0):
  Calls prog 39 #[pQ p,iV a] w λe w'=>e= .returned (.tuple #[.slice none 0 0,iV 3])/\w'=w:=by
 have b:=ii h;rw [c] at b;go_in;go_wp2_with (go_at_call 35;refine b.mono ?_;rintro e w' ⟨rfl,rfl⟩);go_ret2;exact⟨rfl,rfl⟩
theorem Jf {S:DS} (h:aP w F p s S) (a:Int) (k:S.fuse≠0) (o:a<0\/(s:Int)<=a):
  Calls prog 39 #[pQ p,iV a] w λe w'=>e= .returned (.tuple #[.slice none 0 0,iV 11])/\aP w' F p s S.refuse/\aa F w w':=by
 have d:=ii h;rw [show (S.fuse == 0)=false by simp [k]] at d;obtain⟨i,c,m,D,j,g,h⟩:=h;have q:=h.ok.hi;have f:=te p _ (s*512) c a w (by omega) (aL h.dj);rw [show s*512 / 512=s by omega,show (decide (0<=a) && decide (a<(s:Int)))=false by simp;omega] at f;have n:=rW p S.refused 11 w (ri h.dj) (ae h.dj 7);have l:aa F w (w.setCell ⟨p,7,none⟩ (.int .i64 (wrap64 (S.refused+1)))):=aa.setCell w h.fp _;go_in;go_wp2_with (first|(go_at_call 35;refine d.mono ?_;rintro e w' ⟨rfl,b⟩;subst b)|(go_at_call 94;refine f.mono ?_;rintro e w' ⟨rfl,b⟩;subst b)|(go_at_call 95;refine n.mono ?_;rintro e w' ⟨rfl,rfl⟩));go_ret2;exact⟨rfl,⟨i,c,m,D,j,g,h.refused⟩,l⟩
theorem Fv {S:DS} {m:Nat} (h:gD w F p s S m) (k:Nat) (z:S.fuse≠0) (d:k<s) (aT:S.puts.length<=140737488355328):
  Calls prog 39 #[pQ p,iV (k:Int)] w λe w'=>∃g c,e= .returned (.tuple #[.slice (some (aD g 0)) 512 c,iV 0])/\w.heap.size<=g/\ay w' 5 g c (bs (S.now k))/\
   gD w' F p s S.read m/\aa F w w':=by
 have l:=ii h.at;rw [show (S.fuse == 0)=false by simp [z]] at l;obtain⟨v,j,D,x,t,h⟩:=h;have I:=h.ok.hi;have n:=te p _ (s*512) j k w (by omega) (aL h.dj);rw [show s*512 / 512=s by omega,show (decide (0<=(k:Int)) && decide ((k:Int)<(s:Int)))=true by simp;omega] at n;have E:=gz h.dj;have G:=ae h.dj 4;have hd:=h.reads;have fP:aa F w (w.setCell ⟨p,4,none⟩ (.int .i64 (wrap64 (S.reads+1)))):=aa.setCell w h.fp _;have ef:(w.setCell ⟨p,4,none⟩ (.int .i64 (wrap64 (S.reads+1)))).heap.size=w.heap.size:=by simp [World.setCell]
 have C:=bD hd.dj;obtain⟨a,c,bC,dG,jx⟩:=hd.look d;have Fr:(S.read.gB k (ar S.puts k).length).length=512:=DS.np hd.ok d (bP _);go_in;go_wp2_with (first|(go_at_call 35;refine l.mono ?_;rintro e w' ⟨rfl,f⟩;subst f)|(go_at_call 94;refine n.mono ?_;rintro e w' ⟨rfl,f⟩;subst f));refine(Fu hd k d (ar S.puts k).length (bP _) aT).mono ?_;rintro e w1 ⟨g,o,r,rfl,H,y,_,fJ,rfl⟩;go_wp2_with fail;refine(qA (aD g o) 512 r _ _ Fr (by omega) (λi A=>fJ.2.2 _ rfl i A)).mono ?_;rintro e J ⟨u,q,rfl,fU,fb,aW⟩;have b:=gD.au ⟨v,j,D,x,t,hd⟩ (aa.ah (λ_=>False) aW) (λ_ _ h=>h);rw [ef] at fU;go_wp2;go_ret2;exact⟨u,q,rfl,fU,fb,b,fP.trans (aa.ah (λ_=>False) aW) (λ_ h=>h.elim)⟩
theorem LI {S:DS} (h:aP w F p s S) (k:Nat) (j:S.fuse≠0) (l:k<s) (aT:S.puts.length<=140737488355328):
  Calls prog 39 #[pQ p,iV (k:Int)] w λe w'=>∃g c,e= .returned (.tuple #[.slice (some (aD g 0)) 512 c,iV 0])/\w.heap.size<=g/\ay w' 5 g c (bs (S.now k))/\
   aP w' F p s S.read/\aa F w w':=by
 obtain⟨m,h⟩:=h.m;refine(Fv h k j l aT).mono ?_;rintro e w' ⟨g,c,a,b,d,f,i⟩;exact⟨g,c,a,b,d,f.at,i⟩
def DS.fY (S:DS):DS:={S with fuse:=if 0<S.fuse then S.fuse-1 else S.fuse}
def DS.put (S:DS) (k:Nat) (l:List Int):DS:={S with puts:=S.puts ++ [(k,l)]}
theorem ij (puts:List (Nat×List Int)) (k:Nat) (l:List Int) (j:Nat):ar (puts ++ [(k,l)]) j=if j=k then ar puts k ++ [l] else ar puts j:=by
 unfold ar;by_cases h:j=k
 .subst h;simp
 .have:(k == j)=false:=by simp;omega
  simp [h,List.filter_append,this]
theorem lK (puts:List (Nat×List Int)) (k:Nat):(ar puts k).length<=puts.length:=by unfold ar;rw [List.length_map];exact List.length_filter_le _ _
theorem aM.PK {S:DS} {m:Nat} {D:DataW Value} (h:aM w F p s S gi ci m D gr cr) (g:k<s):
  ∃a cc xs,(∀wx:World,wx.heap[m]? =w.heap[m]?->(Instr.lookup 104 (.map (some m)) (iV (k:Int)) false).run prog wx= .ok (.slice a (ar S.puts k).length cc) wx)/\
     (∀wx:World,(ar S.puts k≠ []->wx.heap[gr k]? =w.heap[gr k]?)->wx.ownsRow 0 36 1 (.slice a (ar S.puts k).length cc) (ar S.puts k).length xs)/\
   fa w F gi xs (ar S.puts k)/\(ar S.puts k= []->a=none/\cc=0)/\(ar S.puts k≠ []->a=some ⟨gr k,0,none⟩/\cc=cr k):=by
 have i:=h.ok.hi;have f:=lD k (by omega);by_cases d:ar S.puts k= []
 .refine⟨none,0, [],λwx e=>?_,λwx _=>?_,?_,λ_=>⟨rfl,rfl⟩,λh=>absurd d h⟩
  .obtain⟨v,ps,bC,b⟩:=(eh h.map e).lookup fX underlying104 (ym wx) (zd:= .held (.slice none 0 0)) (zp:= []) rfl f;rw [Maps.atKey_of_not_has (h.db.Fq k d)] at b;obtain⟨⟨a,n,c⟩,rfl⟩:=rX v _ b;rw [Ft] at b;simp [MF] at b;obtain⟨⟨rfl,rfl,rfl⟩,_⟩:=b;rw [d];exact bC
  .rw [d];exact World.ownsRow_nil _ _ _ _
  .rw [d];trivial
 .obtain⟨_,xs,aY,oL⟩:=h.db.row k d;refine⟨some ⟨gr k,0,none⟩,cr k,xs,λwx e=>?_,λwx e=>?_,oL,λh=>absurd h d,λ_=>⟨rfl,rfl⟩⟩
  .obtain⟨v,ps,bC,b⟩:=(eh h.map e).lookup fX underlying104 (ym wx) (zd:= .held (.slice none 0 0)) (zp:= []) rfl f;rw [h.db.look k d] at b;obtain⟨⟨a,n,c⟩,rfl⟩:=rX v _ b;rw [Ft] at b;simp [MF] at b;obtain⟨⟨rfl,rfl,rfl⟩,_⟩:=b;exact bC
  .have:=(aY.agree (e d)).owns;rw [oL.length] at this;exact this
theorem aM.wrote {r:World} {S:DS} {m:Nat} {D:DataW Value} (h:aM w F p s S gi ci m D gr cr) (N:k<s) (O:l.length=512)
    (oL:fa w F gi xs (ar S.puts k)) (LJ:aa (λb=>b=m\/(ar S.puts k≠ []/\b=gr k)) w r) (M:w.heap.size<=g) (G:ay r 5 g cg (bs l))
    (az:r.ownsRow 0 36 1 (.slice (some (aD g2 0)) ((ar S.puts k).length+1) bZ) ((ar S.puts k).length+1) (xs ++ [.slice (some (aD g 0)) 512 cg]))
    (fU:(ar S.puts k≠ []/\g2=gr k)\/w.heap.size<=g2) (Yz:r.ownsMap prog 3 Rs m (S.puts.length+1) (D.put (kk k) (.held (.slice (some (aD g2 0)) ((ar S.puts k).length+1) bZ)))):
  aM r (more F w r) p s (S.put k l) gi ci m (D.put (kk k) (.held (.slice (some (aD g2 0)) ((ar S.puts k).length+1) bZ))) (λj=>if j=k then g2 else gr j) (λj=>if j=k then bZ else cr j):=by
 obtain⟨K,I,P,_,fb,E⟩:=ay.eW az (by simp);cases P;have gF:WideAt.IsKeyLit (kk k):=trivial;have abZ:∀b,ar S.puts k≠ []->b=gr k->∃cur,w.heap[b]? =some (.cells cur 36 (0,0)):=λb n e=>by
  obtain⟨_,o,⟨cur,a,_⟩,_⟩:=h.db.row k n;exact⟨cur,by rw [e];exact a⟩
 have t:∀(b:Nat) (cur:Array Value) (e:TypeId),w.heap[b]? =some (Obj.cells cur e (0,0))->e≠36->r.heap[b]? =w.heap[b]? :=λb cur e a f=>by
  refine LJ.block b ((kN.1 a).1) (λi=>?_);rcases i with i|⟨n,i⟩
  .exact gA h.map (i▸a) rfl
  .obtain⟨C,eC⟩:=abZ b n i;rw [a] at eC;simp at eC;exact f eC.2
 have PM:∀b c o,ay w 5 b c o->ay r 5 b c o:=λb c o a=>by
  have eC:=a;obtain⟨cur,aq,_⟩:=eC;exact a.agree (t b cur _ aq (by decide))
 have TW:∀b,F b->more F w r b:=λb a=> .inl a;refine⟨.inl h.fp, .inl h.TO, .inl h.fm,λb a=>?_,?_,PM _ _ _ h.Jd,by simpa [DS.put] using Yz,⟨?_,?_,?_,?_,?_⟩,⟨h.ok.len,h.ok.lo,h.ok.hi,λq x=>?_,h.ok.fuse⟩⟩
 .rcases a with a|a
  .exact iP (h.lt b a) LJ.size
  .exact a.2
 .rw [t p _ _ h.dj (by decide)];exact h.dj
 .intro H mb;by_cases f:H=kk k
  .exact⟨k,f,by rw [DS.put,ij,aE rfl];simp⟩
  .rw [Maps.has_put_other f] at mb;obtain⟨j,rfl,d⟩:=h.db.keys H mb;exact⟨j,rfl,by rw [DS.put,ij];split;simp;exact d⟩
 .intro j d;rw [DS.put,ij] at d;split at d
  .simp at d
  .rename_i dG;rw [Maps.has_put_other (by simp [kk];omega)];exact h.db.Fq j d
 .intro j d z;rw [DS.put,ij] at d⊢;by_cases f:j=k
  .subst f;simp only [if_true];rw [Maps.atKey_put_same h.map.isMap gF];simp
  .simp only [f,if_false] at d⊢;rw [Maps.atKey_put_other (by simp [kk];omega)];exact h.db.look j d z
 .intro j d;rw [DS.put,ij] at d⊢;by_cases f:j=k
  .subst f;simp only [if_true];refine⟨?_,_,fb,?_⟩
   .rcases fU with ⟨n,e⟩|fU
    .rw [e];exact .inl (h.db.row j n).1
    .exact .inr ⟨fU,fb.lt⟩
   .refine fa.snoc ⟨g,cg,rfl, .inr ⟨M,G.lt⟩,?_,G⟩ ((oL.carry (λb c o _ _ a=>PM b c o a)).mono TW);intro e;have:=h.lt gi h.TO;omega
  .simp only [f,if_false] at d⊢;obtain⟨L,o,u,pi⟩:=h.db.row j d;refine⟨.inl L,o,u.agree (LJ.block _ u.lt (λi=>?_)),(pi.carry (λb c o _ _ a=>PM b c o a)).mono TW⟩;rcases i with i|⟨n,i⟩
   .obtain⟨cur,a,_⟩:=u;exact gA h.map (i▸a) rfl
   .exact f (h.db.inj j k d n i)
 .intro j v d AX e;rw [DS.put,ij] at d AX;by_cases y:j=k <;> by_cases A:v=k
  .omega
  .subst y;simp only [if_true,A,if_false] at e AX;rcases fU with ⟨n,J⟩|fU
   .exact(h.db.inj j v n AX (by omega))
   .have:=h.lt _ (h.db.row v AX).1;omega
  .subst A;simp only [if_true,y,if_false] at e d;rcases fU with ⟨n,J⟩|fU
   .exact(h.db.inj j v d n (by omega))
   .have:=h.lt _ (h.db.row j d).1;omega
  .simp only [y,A,if_false] at e d AX;exact h.db.inj j v d AX e
 .simp only [DS.put,List.mem_append,List.mem_singleton] at x;rcases x with x|rfl
  .exact h.ok.puts q x
  .exact⟨N,O⟩
theorem MI {q:World} {S:DS} {m:Nat} {D:DataW Value} (h:aM w F p s S gi ci m D gr cr) (z:k<s) (A:l.length=512)
  {a:Option Addr} {r:Nat} (oL:fa w F gi xs (ar S.puts k)) (jx:ar S.puts k= []->a=none/\r=0) (PN:ar S.puts k≠ []->a=some ⟨gr k,0,none⟩/\r=cr k) {o:Obj}
    (aq:bW w w1) (y:w.heap.size<=g) (u:ay w1 5 g cg (bs l))
    (az:q.ownsRow 0 36 1 (.slice (some (aD g2 0)) ((ar S.puts k).length+1) bZ) ((ar S.puts k).length+1) (xs ++ [.slice (some (aD g 0)) 512 cg]))
    (aO:(w1.alloc o).grownBy q (Value.slice a (ar S.puts k).length r).ownBlock) (ic:(Value.slice a (ar S.puts k).length r).ownBlock=some g2\/g2=w1.heap.size+1) (aT:S.puts.length+1<=5000000000000):
  q.heap[p]? =w.heap[p]?/\q.heap[m]? =w.heap[m]?/\∃f,(Instr.mapUpdate 104 (.map (some m)) (iV (k:Int)) (.slice (some (aD g2 0)) ((ar S.puts k).length+1) bZ)).run prog q= .ok () f/\
   aM f (more F w f) p s (S.put k l) gi ci m (D.put (kk k) (.held (.slice (some (aD g2 0)) ((ar S.puts k).length+1) bZ))) (λj=>if j=k then g2 else gr j) (λj=>if j=k then bZ else cr j)/\aa F w f/\f.heap[p]? =w.heap[p]? :=by
 have G:=h.ok.hi;have aW:=aq.alloc aq.size o;have cJ:∀b,some b=(Value.slice a (ar S.puts k).length r).ownBlock->ar S.puts k≠ []/\b=gr k:=λb e=>by
  by_cases n:ar S.puts k= []
  .rw [(jx n).1] at e;simp [Value.ownBlock] at e
  .rw [(PN n).1] at e;simp [Value.ownBlock] at e;exact⟨n,e⟩
 have d:∀b,b<w.heap.size->¬(ar S.puts k≠ []/\b=gr k)->q.heap[b]? =w.heap[b]? :=λb c i=>
    (aO.block b (iP c aW.size) (λe=>i (cJ b e))).trans (aW.block b c)
 have aY:∀b,ar S.puts k≠ []/\b=gr k->∃cur,w.heap[b]? =some (.cells cur 36 (0,0)):=λb n=>by
  obtain⟨_,H,⟨cur,c,_⟩,_⟩:=h.db.row k n.1;exact⟨cur,by rw [n.2];exact c⟩
 have uK:=d p (h.lt p h.fp) (λi=>by
  obtain⟨cur,c⟩:=aY p i;rw [h.dj] at c;simp at c)
 have BZ:=d m (h.lt m h.fm) (λi=>by
  obtain⟨cur,c⟩:=aY m i;exact gA h.map c rfl)
 obtain⟨f,bC,Yz,E7⟩:=(eh h.map BZ).update fX underlying104 (by unfold maxLen;omega) (lD k (by omega)) (show Rs (.slice (some (aD g2 0)) ((ar S.puts k).length+1) bZ)=some (.held _, []) from rfl);have AY:=h.lt m h.fm;have UF:=u.lt;have rY:=aq.size;have YA:(w1.alloc o).heap.size=w1.heap.size+1:=by simp
 have ju:=aO.size;have Dj:=E7.size;have t:g≠m:=by omega
 obtain⟨x,v,C,_,fb,_⟩:=ay.eW az (by simp);cases C;have ahs:g2≠m:=λe=>by
  obtain⟨cur,c,_⟩:=fb;rw [e] at c;exact gA (eh h.map BZ) c rfl
 have sV:ay f 5 g cg (bs l):=by
  refine(u.agree ?_);rw [E7.block g (by omega) (by simpa using t),aO.block g (by omega) (λe=>?_),Below.heap_alloc _ _ _ UF];have:=cJ g e;have:=h.lt _ (h.db.row k this.1).1;omega
 have LJ:aa (λb=>b=m\/(ar S.puts k≠ []/\b=gr k)) w f:=
    ⟨E7.os.trans (aO.os.trans aW.os),E7.tape.trans (aO.tape.trans aW.tape),E7.output.trans (aO.output.trans aW.output),by omega,λb c i=>
     (E7.block b (by omega) (λe=>i (.inl (by simpa using e)))).trans (d b c (λE=>i (.inr E)))⟩
 refine⟨uK,BZ,f,bC,h.wrote z A oL LJ y sV (az.kept E7 (.inr (by simpa [Value.ownBlock] using ahs))) ?_ Yz,LJ.mono (λb c=>?_),(E7.block p (by have:=h.lt p h.fp;omega) (λe=>gA h.map h.dj (by simpa using e.symm))).trans uK⟩
 .rcases ic with e|e
  .exact .inl (cJ g2 e.symm)
  .exact .inr (by omega)
 .rcases c with rfl|⟨n,rfl⟩
  .exact h.fm
  .exact(h.db.row k n).1
theorem aM.Jg {S:DS} {m:Nat} {D:DataW Value} (h:aM w F p s S gi ci m D gr cr):
  aM (w.setCell ⟨p,5,none⟩ (.int .i64 (wrap64 (S.writes+1)))) F p s {S with writes:=wrap64 (S.writes+1)} gi ci m D gr cr:=
 h.ni (h.set 5 _).2 ((h.set 5 _).1.trans (by simp [bG])) rfl rfl h.ok.fuse
theorem aM.yo {S:DS} {m:Nat} {D:DataW Value} (h:aM w F p s S gi ci m D gr cr):
  aM (if 0<S.fuse then w.setCell ⟨p,2,none⟩ (.int .i64 (wrap64 (S.fuse-1))) else w) F p s S.fY gi ci m D gr cr/\aa F w (if 0<S.fuse then w.setCell ⟨p,2,none⟩ (.int .i64 (wrap64 (S.fuse-1))) else w):=by
 have b:=h.ok.fuse;by_cases a:0<S.fuse
 .rw [aE a];have e:wrap64 (S.fuse-1)=S.fuse-1:=by unfold wrap64;omega
  refine⟨h.ni (h.set 2 _).2 ((h.set 2 _).1.trans ?_) rfl rfl ?_,aa.setCell w h.fp _⟩
  .rw [e];simp [bG,DS.fY,a]
  .simp only [DS.fY,aE a];omega
 .rw [aA a];have e:S.fY=S:=by simp [DS.fY,a]
  rw [e];exact⟨h,aa.refl _ _⟩
end Go.Proofs.YtenlkgicpllbhaaGreat
