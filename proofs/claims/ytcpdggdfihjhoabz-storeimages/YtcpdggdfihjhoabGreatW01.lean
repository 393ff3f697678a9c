import Derived.Laws.BitsAllLaws
import Derived.Test.YtcpdggdfihjhoabGreatRows
import Derived.WalkKit
import Derived.WalkSpells
import Derived.WalkLawsBesides
import Derived.Below
import Derived.Laws.CopyOwn
import Derived.Lib.SliceRun
import Derived.Deep.QuietTactic
import Derived.BigQuiet
import Derived.Maps.RangeWalk
import Derived.Maps.OwnOps
import Derived.Deep.RegionHeld3
import Derived.Deep.AppendLies
set_option maxRecDepth 20000
set_option maxHeartbeats 8000000
set_option linter.all false
namespace Go.Proofs.YtcpdggdfihjhoabGreat
open Go.Proofs.Tryz
open Go.RowKit Go.Maps
variable {x:Addr} {cur:Array Value} {K:Ending->World->Prop} {im l:List Int} {ks:List Nat} {xs:List Value} {base c cz cg ci g g2 gi i j k k0 n p q s:Nat} {di:Nat->List (List Int)} {cr gr:Nat->Nat} {F G:Nat->Prop} {a:Option Addr} {xa xb xc xd xe xf xg xh xi xj xk:Prop} {α:Type} {e e':TypeId} {u v:Value} {w w' w1 w3:World} {A:World->Prop}
def Yh (p:Prop):Prop:=p
def Yh.o {p:Prop} (h:Yh p):p:=h
def Yh.out {p:Prop} (h:Yh p):p:=h
def yh {p:Prop} (h:p):Yh p:=h
def cb (r:Nat):Nat:=r / 2 ^^^ (if r%2=1 then 2197175160 else 0)
def kV:Nat->Nat->Nat
 |0,r=>r
 |n+1,r=>kV n (cb r)
def le:List Int->Nat
 | []=>0
 |x :: t=>x.toNat+256*le t
def Bytes (l:List Int):Prop:=∀x∈l,0<=x/\x<256
def YM (a b:Nat):cb (a ^^^ b)=cb a ^^^ cb b:=by
 unfold cb;have h:(a ^^^ b)%2=(a+b)%2:=by
  have e:=Nat.testBit_xor a b 0;simp only [Nat.testBit_zero] at e;rcases Nat.mod_two_eq_zero_or_one a with c|c <;> rcases Nat.mod_two_eq_zero_or_one b with d|d <;> rcases Nat.mod_two_eq_zero_or_one (a ^^^ b) with f|f <;> rw [c,d,f] at e <;> first|omega|exact absurd e (by decide)
 have hd:(a ^^^ b) / 2=a / 2 ^^^ b / 2:=Nat.xor_div_two;rw [hd];rcases Nat.mod_two_eq_zero_or_one a with c|c <;> rcases Nat.mod_two_eq_zero_or_one b with d|d
 .have:(a ^^^ b)%2=0:=by omega
  simp [c,d,this]
 .have:(a ^^^ b)%2=1:=by omega
  simp [c,d,this,Nat.xor_assoc]
 .have:(a ^^^ b)%2=1:=by omega
  simp only [c,d,this,if_true];rw [Nat.xor_assoc,Nat.xor_assoc,Nat.xor_comm (b / 2)];simp
 .have:(a ^^^ b)%2=0:=by omega
  simp only [c,d,this,if_true];rw [Nat.xor_assoc,Nat.xor_assoc,<-Nat.xor_assoc (2197175160) (b / 2),Nat.xor_comm 2197175160 (b / 2),Nat.xor_assoc (b / 2),Nat.xor_self];simp
def LL (n a b:Nat):kV n (a ^^^ b)=kV n a ^^^ kV n b:=by
 induction n generalizing a b with
 |zero=>rfl
 |succ n c=>simp only [kV,YM,c]
def ack {r:Nat} (h:r<4294967296):cb r<4294967296:=by
 unfold cb;have:r / 2 ^^^ (if r%2=1 then 2197175160 else 0)<2 ^ 32:=Nat.xor_lt_two_pow (by omega) (by split <;> omega);omega
def uS (n:Nat) {r:Nat} (h:r<4294967296):kV n r<4294967296:=by
 induction n generalizing r with
 |zero=>exact h
 |succ n a=>exact a (ack h)
def tk (n m r:Nat):kV (n+m) r=kV m (kV n r):=by
 induction n generalizing r with
 |zero=>simp [kV]
 |succ n a=>rw [Nat.succ_add];simp only [kV];exact a (cb r)
def UT (m:Nat):cb (2*m)=m:=by
 unfold cb;have a:2*m / 2=m:=by omega
 have b:2*m%2=0:=by omega
 rw [a,b];simp
def LM (n m:Nat):kV n (2 ^ n*m)=m:=by
 induction n generalizing m with
 |zero=>simp [kV]
 |succ n a=>
  rw [Nat.pow_succ,show 2 ^ n*2*m=2*(2 ^ n*m) by rw [Nat.mul_comm (2 ^ n) 2,Nat.mul_assoc],kV,UT,a]
def LN (i a b:Nat) (h:b<2 ^ i):b+2 ^ i*a=b ^^^ 2 ^ i*a:=by
 apply Nat.eq_of_testBit_eq;intro j;rw [Nat.add_comm,Nat.testBit_two_pow_mul_add a h j,Nat.testBit_xor,Nat.testBit_two_pow_mul];by_cases c:j<i
 .simp [c,show¬i<=j by omega]
 .have:b.testBit j=false:=Nat.testBit_lt_two_pow (Nat.lt_of_lt_of_le h (Nat.pow_le_pow_right (by decide) (by omega)));simp [c,this,show i<=j by omega]
def UU (r:Nat):kV 4 r=r / 16 ^^^ kV 4 (r%16):=by
 have h:r=r%16 ^^^ 2 ^ 4*(r / 16):=by
  rw [<-LN 4 (r / 16) (r%16) (by omega)];omega
 conv=>lhs;rw [h,LL,LM]
 exact Nat.xor_comm _ _
def nf (r:Nat) (l:List Int):Nat:=kV (8*l.length) (r ^^^ le l)
def sumOf (l:List Int):Nat:=nf 4294967295 l ^^^ 4294967295
def lw (h:Bytes l):le l<2 ^ (8*l.length):=by
 induction l with
 |nil=>simp [le]
 |cons x t b=>
  have c:=h x (by simp);have d:=b (λy a=>h y (by simp [a]));simp only [le,List.length_cons];rw [show 8*(t.length+1)=8*t.length+8 by omega,Nat.pow_add];have:x.toNat<256:=by omega
  omega
def uT (a b:List Int):le (a ++ b)=le a+2 ^ (8*a.length)*le b:=by
 induction a with
 |nil=>simp [le]
 |cons x t c=>
  simp only [List.cons_append,le,c,List.length_cons];rw [show 8*(t.length+1)=8*t.length+8 by omega,Nat.pow_add,Nat.mul_add];rw [show 2 ^ (8*t.length)*2 ^ 8*le b=256*(2 ^ (8*t.length)*le b) by rw [Nat.mul_comm (2 ^ (8*t.length)) (2 ^ 8),Nat.mul_assoc]];omega
def Jf {a:List Int} (b:List Int) (h:Bytes a):le (a ++ b)=le a ^^^ 2 ^ (8*a.length)*le b:=by
 rw [uT,LN _ _ _ (lw h)]
def tp (r:Nat):nf r []=r:=by simp [nf,kV,le]
def yt (r:Nat) {a:List Int} (b:List Int) (h:Bytes a):nf r (a ++ b)=nf (nf r a) b:=by
 unfold nf;rw [Jf b h,List.length_append,Nat.mul_add,tk,<-Nat.xor_assoc,LL (8*a.length),LM]
def yu (r:Nat) {a:List Int} (x:Int) (h:Bytes a):nf r (a ++ [x])=kV 8 (nf r a ^^^ x.toNat):=by
 rw [yt r _ h];simp [nf,le]
def rZ {r:Nat} (c:r<4294967296) (h:Bytes l):nf r l<4294967296:=by
 induction l generalizing r with
 |nil=>simpa [tp] using c
 |cons x t e=>
  have d:=h x (by simp);have b:Bytes [x]:=λy a=>by simp at a;subst a;exact d
  rw [show x :: t= [x] ++ t from rfl,yt r t b];refine e ?_ (λy a=>h y (by simp [a]));have:r ^^^ x.toNat<2 ^ 32:=Nat.xor_lt_two_pow (by omega) (by omega);simpa [nf,le] using uS 8 (r:=r ^^^ x.toNat) (by omega)
def np (h:Bytes l):sumOf l<4294967296:=by
 have:nf 4294967295 l ^^^ 4294967295<2 ^ 32:=Nat.xor_lt_two_pow (by have:=rZ (r:=4294967295) (by omega) h;omega) (by omega);unfold sumOf;omega
def nZ (s:Nat):List Int:= [((s%256:Nat):Int),((s / 256%256:Nat):Int),((s / 65536%256:Nat):Int),((s / 16777216%256:Nat):Int)]
abbrev iV (x:Int):Value:= .int .i64 x
abbrev pQ (b:Nat):Value:= .pointer (some ⟨b,0,none⟩)
abbrev aD (b o:Nat):Addr:=⟨b,o,none⟩
abbrev bW (w v:World):Prop:=Below w.heap.size w v
def aH {a b:Prop} (x:a) (y:b):a/\b:=⟨x,y⟩
def gz {l:List α} {a:α} (h:l[i]? =some a):a∈l:=List.mem_of_getElem? h
def ed {a b:List α}:(a++b).length=a.length+b.length:=List.length_append
def bS (n:Nat):n<=n:=Nat.le_refl n
def i5 {m:Nat} (h:n<m) (g:m<=k):n<k:=Nat.lt_of_lt_of_le h g
def mL {l:List α} {a:α}:l[i]? =some a↔∃h:i<l.length,l[i]=a:=List.getElem?_eq_some_iff
def dV (n:Nat):0<=n:=Nat.zero_le n
def bi (B:Nat) (w:World):Below B w w:=Below.refl B w
def Be {β:Type} {f:α->β} {l:List α}:(l.map f)[i]? =Option.map f l[i]? :=List.getElem?_map
def aG {c:Prop} {i:Decidable c} {a b:α} (h:c):(if c then a else b)=a:=if_pos h
def aB {c:Prop} {i:Decidable c} {a b:α} (h:¬c):(if c then a else b)=b:=if_neg h
def fJ [BEq α] [LawfulBEq α] {a b:α}:(a==b)=false↔a≠b:=beq_eq_false_iff_ne
def gA [BEq α] [LawfulBEq α] {a b:α}:(a !=b)=true↔a≠b:=bne_iff_ne
def lR {l:Array α} {a:α}:l[i]? =some a↔∃h:i<l.size,l[i]=a:=Array.getElem?_eq_some_iff
def nr {l:List α} (h:l.length<=i):l.take i=l:=List.take_of_length_le h
def j3 {m:Nat} (h:n<=m) (g:m<=k):n<=k:=Nat.le_trans h g
def gh:(prog.info? 5).map (λi=>(i.zero,i.size,i.bytes))=some (some (.int .u8 0),1,1):=by kernel_rfl
def aN (g o i:Nat):((aD g o):Addr).add i=⟨g,o+i,none⟩:=by
 unfold Addr.add;split <;> simp_all
abbrev bs (l:List Int):List Value:=l.map (Value.int .u8)
def ay (w:World) (e:TypeId) (g c:Nat) (xs:List Value):Prop:=
 ∃cur,w.heap[g]? =some (.cells cur e (0,0))/\cur.size=c/\cur.toList.take xs.length=xs/\c<=maxLen
def ay.lt (h:ay w e g c xs):g<w.heap.size:=by
 obtain⟨cur,a,_⟩:=h;exact(lR.1 a).1
def ay.le (h:ay w e g c xs):xs.length<=c:=by
 obtain⟨cur,_,rfl,a,_⟩:=h;have:=congrArg List.length a;simp at this;omega
def ay.max (h:ay w e g c xs):c<=maxLen:=by
 obtain⟨cur,_,_,_,h⟩:=h;exact h
def ay.cell (h:ay w e g c xs) (a:xs[j]? =some u):w.cell? (aD g j)=some u:=by
 obtain⟨cur,b,_,f,_⟩:=h;simp only [World.cell?,b];have d:=(mL.1 a).1;rw [<-f,List.getElem?_take] at a;rw [aG d] at a;simpa using a
def ay.byte (h:ay w e g c (bs l)) (a:i<l.length):w.cell? (((aD g 0):Addr).add i)=some (.int .u8 (l.getD i 0)):=by
 rw [aN,Nat.zero_add];exact h.cell (by simp [bs,List.getD,List.getElem?_eq_getElem a])
def ay.frozen (h:ay w e g c xs) (j:Nat):w.frozen? (aD g j)=false:=by
 obtain⟨cur,a,_⟩:=h;simp [World.frozen?,a]
def ay.agree (h:ay w e g c xs) (d:w'.heap[g]? =w.heap[g]?):ay w' e g c xs:=by
 obtain⟨cur,a,b⟩:=h;exact⟨cur,d.trans a,b⟩
def ay.owns (h:ay w e g c xs):w.ownsRow 0 e 1 (.slice (some (aD g 0)) xs.length c) xs.length xs:=by
 have a:=h.le;obtain⟨cur,b,d,i,f⟩:=h;exact⟨by simp, .inr ⟨g,c,cur,rfl,dV _,b,a,f,by simpa using d,by simpa using i⟩⟩
def ay.fe (h:w.ownsRow base e 1 v n xs) (k:v≠ .slice none 0 0):
  ∃g c,v= .slice (some (aD g 0)) n c/\base<=g/\ay w e g c xs/\xs.length=n:=by
 obtain⟨a,⟨rfl,_⟩|⟨g,c,cur,rfl,i,f,l,j,b,d⟩⟩:=h
 .exact absurd rfl k
 .simp only [Nat.mul_one] at a b d;exact⟨g,c,rfl,i,⟨cur,f,b,by rw [a];exact d,j⟩,a⟩
structure aa (F:Nat->Prop) (w w':World):Prop where
 os:w'.os=w.os
 tape:w'.tape=w.tape
 output:w'.output=w.output
 size:w.heap.size<=w'.heap.size
 block:∀k,k<w.heap.size->¬F k->w'.heap[k]? =w.heap[k]?
def more (F:Nat->Prop) (w w':World):Nat->Prop:=λk=>F k\/(w.heap.size<=k/\k<w'.heap.size)
def aa.refl (F:Nat->Prop) (w:World):aa F w w:=⟨rfl,rfl,rfl,bS _,λ_ _ _=>rfl⟩
def aa.trans {a b c:World} (h:aa F a b) (k:aa G b c) (g:∀j,G j->F j\/a.heap.size<=j):aa F a c:=
   ⟨k.os.trans h.os,k.tape.trans h.tape,k.output.trans h.output,j3 h.size k.size,λi e f=>
    (k.block i (i5 e h.size) (λl=>by rcases g i l with d|d;exact f d;omega)).trans (h.block i e f)⟩
def aa.ah (F:Nat->Prop) (h:bW w w'):aa F w w':=⟨h.os,h.tape,h.output,h.size,λk a _=>h.block k a⟩
def aa.below {B:Nat} (h:aa F w w') (a:∀k,F k->B<=k) (c:B<=w.heap.size):Below B w w':=
   ⟨h.os,h.tape,h.output,h.size,λk d=>h.block k (by omega) (λb=>by have:=a k b;omega)⟩
def aa.mono (h:aa F w w') (a:∀k,F k->G k):aa G w w':=⟨h.os,h.tape,h.output,h.size,λk c d=>h.block k c (λb=>d (a k b))⟩
def aa.setCell (w:World) {p:Addr} (b:F p.block) (u:Value):aa F w (w.setCell p u):=
   ⟨rfl,rfl,rfl,by simp [World.setCell],λk _ a=>Below.heap_setCell w p u k (λe=>a (e▸b))⟩
def aa.alloc (F:Nat->Prop) (w:World) (o:Obj):aa F w (w.alloc o):=aa.ah F ((bi _ _).alloc (bS _) _)
def mM (w:World) (a:Addr) (v:Value):w.grownBy (w.setCell a v) (some a.block):=
   ⟨rfl,rfl,rfl,by simp [World.setCell],λk _ b=>Below.heap_setCell w a v k (λe=>b (by rw [e]))⟩
def aj (a:w.heap[g]? =some (.cells cur e (0,0))) (b:cur[j]? =some u):w.cell? (aD g j)=some u:=by
 simp only [World.cell?,a];simpa using b
def ae (a:w.heap[g]? =some (.cells cur e (0,0))) (j:Nat):w.frozen? (aD g j)=false:=by
 simp [World.frozen?,a]
def Src (w:World) (a:Option Addr) (n:Nat) (l:List Int):Prop:=
 l.length=n/\(a=none->n=0)/\∀x,a=some x->∀i,i<n->w.cell? (x.add i)=some (.int .u8 (l.getD i 0))
def Src.at (h:Src w (some x) n l) (a:i<n):w.cell? (x.add i)=some (.int .u8 (l.getD i 0)):=h.2.2 x rfl i a
def ay.src (h:ay w e g c (bs l)):Src w (some (aD g 0)) l.length l:=
   ⟨rfl,(λh=>by cases h),λx b i a=>by cases b;exact h.byte a⟩
def Src.spot (h:Src w (some x) n l) (c:0<n):∃b o,x=(aD b o)/\∀i,i<n->w.cell? ⟨b,o+i,none⟩=some (.int .u8 (l.getD i 0)):=by
 obtain⟨b,o,e⟩:=x;have h0:=h.2.2 _ rfl 0 c;have d:e=none:=by simpa [Addr.add] using World.cell?_spot h0
 subst d;exact⟨b,o,rfl,λi a=>by have:=h.2.2 _ rfl i a;rwa [aN] at this⟩
def Src.later (h:Src w a n l) (b:bW w w'):Src w' a n l:=
   ⟨h.1,h.2.1,λx d i c=>cell_later b (h.2.2 x d i c)⟩
def lS (aA:w1.ownsRow base 5 1 (.slice (some (aD g 0)) n n) n (madeCells #[Value.int .u8 0] n).toList):
  ay w1 5 g n (bs (List.replicate n 0)):=by
 obtain⟨d,c,b,_,a,_⟩:=ay.fe aA (by simp);cases b;have e:(madeCells #[Value.int .u8 0] n).toList=bs (List.replicate n 0):=by rw [toList_madeCells_one];simp [bs]
 rw [e] at a;exact a
def Do:(prog.info? 5).map (·.size)=some 1:=by kernel_rfl
def fx (h:(bs l)[j]? =some v):j<l.length/\v= .int .u8 (l.getD j 0):=by
 have a:j<l.length:=by
  have:=(mL.1 h).1;simpa [bs] using this
 simp [bs,List.getElem?_eq_getElem a] at h;exact⟨a,by simp [List.getD,List.getElem?_eq_getElem a,h]⟩
def cF (l:List Int):∀v∈bs l,v.oneCell'=true:=by
 intro v a;obtain⟨x,_,rfl⟩:=List.mem_map.1 a;rfl
def ay.full (h:ay w e g c xs) (d:xs.length=c):w.heap[g]? =some (.cells xs.toArray e (0,0)):=by
 obtain⟨cur,a,f,b,_⟩:=h;have:cur.toList=xs:=by
  rw [<-b,nr (by simp;omega)]
 rw [a,<-this]
def ay.xL (h:w.heap[g]? =some (.cells xs.toArray e (0,0))) (a:xs.length<=maxLen):ay w e g xs.length xs:=
   ⟨xs.toArray,h,by simp,by simp,a⟩
def yv (w:World) (m:TypeId) (d:Option Addr) (g c ib Bf:Nat) (a:Option Addr) (j4 Bg:Nat) (cur:List Value) (l:List Int) (f:w.heap[g]? =some (.cells cur.toArray 5 (0,0)))
    (i:Src w a j4 l) (hd:0<ib->d=some (aD g c)) (Fr:c+ib<=cur.length):
  ∃w2,(Builtin.copy_ #[22,22] m #[.slice d ib Bf, .slice a j4 Bg]).run prog w= .ok (goInt (Nat.min j4 ib)) w2/\
   w2.heap[g]? =some (.cells (splice cur c (bs (l.take ib))).toArray 5 (0,0))/\aa (λk=>k=g) w w2/\w2.heap.size=w.heap.size:=by
 have r:=i.1;have q:Nat.min j4 ib=min j4 ib:=rfl;by_cases h0:min j4 ib=0
 .refine⟨w,?_,?_,aa.refl _ _,rfl⟩
  .rw [q,h0];exact run_copy_none (P:=prog) w _ _ m 5 d a ib Bf j4 Bg underlying22 Do h0
  .have e:bs (l.take ib)= []:=by
    have:(bs (l.take ib)).length=0:=(by simp only [bs,List.length_map,List.length_take];omega);exact List.eq_nil_of_length_eq_zero this
   rw [e,f];simp [splice]
 .have n:0<j4/\0<ib:=by omega
  obtain rfl:=hd n.2;cases a with
  |none=>have:=i.2.1 rfl;omega
  |some x=>
   have b:(bs (l.take ib)).length=Nat.min j4 ib:=by
    simp only [bs,List.length_map,List.length_take];omega
   have bD:=run_copy_row (P:=prog) w 22 22 m 5 g c ib Bf x j4 Bg cur.toArray 5 (bs (l.take ib)) underlying22 Do f b
      (λj v o=>by
     obtain⟨AZ,rfl⟩:=fx o;have YN:j<ib/\j<l.length:=(by simp only [List.length_take] at AZ;omega);rw [i.2.2 x rfl j (by omega)];simp [List.getD,YN.1]) (by simp only [List.size_toArray,b];omega) (cF _)
   rw [b] at bD;refine⟨_,bD,?_,⟨rfl,rfl,rfl,by simp,λk _ p=>setRow_other w g k _ p⟩,by simp⟩;rw [setRow_heap w g _ _ 5 _ f];simp only [splice,b,List.append_assoc]
def kD (x:Addr) (n:Nat):(x.add n).block=x.block:=by unfold Addr.add;split <;> rfl
def Src.old {W:World} (h:Src W a n l):∀x,a=some x->0<n->x.block<W.heap.size:=λx c b=>by
 have:=World.block_lt_of_cell? _ _ (h.2.2 x c 0 b);rwa [kD] at this
def aM {a:Value} {l:List Value} (h:w.heap[g]? =some (.cells (List.toArray (a::l)) e (0,0))):w.cell? (aD g 0)=some a:=aj h rfl
def bG {b a:Value} {l:List Value} (h:w.heap[g]? =some (.cells (List.toArray (b::a::l)) e (0,0))):w.cell? (aD g 1)=some a:=aj h rfl
def bK {b c a:Value} {l:List Value} (h:w.heap[g]? =some (.cells (List.toArray (b::c::a::l)) e (0,0))):w.cell? (aD g 2)=some a:=aj h rfl
def fQ {b c d a:Value} {l:List Value} (h:w.heap[g]? =some (.cells (List.toArray (b::c::d::a::l)) e (0,0))):w.cell? (aD g 3)=some a:=aj h rfl
def gG {b c d f a:Value} {l:List Value} (h:w.heap[g]? =some (.cells (List.toArray (b::c::d::f::a::l)) e (0,0))):w.cell? (aD g 4)=some a:=aj h rfl
def sb {b c d f i a:Value} {l:List Value} (h:w.heap[g]? =some (.cells (List.toArray (b::c::d::f::i::a::l)) e (0,0))):w.cell? (aD g 5)=some a:=aj h rfl
def wZ {b c d f i j a:Value} {l:List Value} (h:w.heap[g]? =some (.cells (List.toArray (b::c::d::f::i::j::a::l)) e (0,0))):w.cell? (aD g 6)=some a:=aj h rfl
def rt {b c d f i j k a:Value} {l:List Value} (h:w.heap[g]? =some (.cells (List.toArray (b::c::d::f::i::j::k::a::l)) e (0,0))):w.cell? (aD g 7)=some a:=aj h rfl
def Dp {b c d f i j k m a:Value} {l:List Value} (h:w.heap[g]? =some (.cells (List.toArray (b::c::d::f::i::j::k::m::a::l)) e (0,0))):w.cell? (aD g 8)=some a:=aj h rfl
def ahn {b c d f i j k m n a:Value} {l:List Value} (h:w.heap[g]? =some (.cells (List.toArray (b::c::d::f::i::j::k::m::n::a::l)) e (0,0))):w.cell? (aD g 9)=some a:=aj h rfl
def bQ (a:α):∃x,x=a:=⟨_,rfl⟩
def zEr (a:α):∃x,a=x:=⟨_,rfl⟩
def bM {P:Program} {f:FuncId} {a:Array Value} {V:Ending} (h:Calls P f a w λe v=>e=V/\A v) (k:∀v,A v->K V v):Calls P f a w K:=h.mono (by rintro e v ⟨rfl,x⟩;exact k v x)
def fR {P:Program} {f:FuncId} {a:Array Value} {V:Ending} {B:World->Prop} (h:Calls P f a w λe v=>e=V/\A v/\B v) (k:∀v,A v->B v->K V v):Calls P f a w K:=h.mono (by rintro e v ⟨rfl,x,y⟩;exact k v x y)
def pj {P:Program} {f:FuncId} {a:Array Value} {V:Ending} {B C:World->Prop} (h:Calls P f a w λe v=>e=V/\A v/\B v/\C v) (k:∀v,A v->B v->C v->K V v):Calls P f a w K:=h.mono (by rintro e v ⟨rfl,x,y,z⟩;exact k v x y z)
def kE (a:xa) (b:xb) (c:xc):xa/\xb/\xc:=⟨a,b,c⟩
def cO (a:xa) (b:xb) (c:xc) (d:xd):xa/\xb/\xc/\xd:=⟨a,b,c,d⟩
def eK (a:xa) (b:xb) (c:xc) (d:xd) (e:xe):xa/\xb/\xc/\xd/\xe:=⟨a,b,c,d,e⟩
def jE (a:xa) (b:xb) (c:xc) (d:xd) (e:xe) (f:xf):xa/\xb/\xc/\xd/\xe/\xf:=⟨a,b,c,d,e,f⟩
def nw (a:xa) (b:xb) (c:xc) (d:xd) (e:xe) (f:xf) (g:xg):xa/\xb/\xc/\xd/\xe/\xf/\xg:=⟨a,b,c,d,e,f,g⟩
def xm (a:xa) (b:xb) (c:xc) (d:xd) (e:xe) (f:xf) (g:xg) (i:xh):xa/\xb/\xc/\xd/\xe/\xf/\xg/\xh:=⟨a,b,c,d,e,f,g,i⟩
def MQ (a:xa) (b:xb) (c:xc) (d:xd) (e:xe) (f:xf) (g:xg) (i:xh) (j:xi):xa/\xb/\xc/\xd/\xe/\xf/\xg/\xh/\xi:=⟨a,b,c,d,e,f,g,i,j⟩
def vV (a:xa) (b:xb) (c:xc) (d:xd) (e:xe) (f:xf) (g:xg) (i:xh) (j:xi) (k:xj):xa/\xb/\xc/\xd/\xe/\xf/\xg/\xh/\xi/\xj:=⟨a,b,c,d,e,f,g,i,j,k⟩
def LP (a:xa) (b:xb) (c:xc) (d:xd) (e:xe) (f:xf) (g:xg) (i:xh) (j:xi) (k:xj) (l:xk):xa/\xb/\xc/\xd/\xe/\xf/\xg/\xh/\xi/\xj/\xk:=⟨a,b,c,d,e,f,g,i,j,k,l⟩
def Fs {a:Prop} (b:xa) (c:xb) (d:xc) (e:xd) (f:xe) (g:xf) (i:xg) (j:xh) (k:xi) (l:xj) (m:xk) (n:a):xa/\xb/\xc/\xd/\xe/\xf/\xg/\xh/\xi/\xj/\xk/\a:=⟨b,c,d,e,f,g,i,j,k,l,m,n⟩
def bU (a:xa) (b:xb):Yh xa/\Yh xb:=⟨a,b⟩
def kF (a:xa) (b:xb) (c:xc):Yh xa/\Yh xb/\Yh xc:=⟨a,b,c⟩
def Bh (a:xa) (b:xb) (c:xc) (d:xd):Yh xa/\Yh xb/\Yh xc/\Yh xd:=⟨a,b,c,d⟩
def UV (a:xa) (b:xb) (c:xc) (d:xd) (e:xe):Yh xa/\Yh xb/\Yh xc/\Yh xd/\Yh xe:=⟨a,b,c,d,e⟩
def YO (a:xa) (b:xb) (c:xc) (d:xd) (e:xe) (f:xf):Yh xa/\Yh xb/\Yh xc/\Yh xd/\Yh xe/\Yh xf:=⟨a,b,c,d,e,f⟩
def acl (a:xa) (b:xb) (c:xc) (d:xd) (e:xe) (f:xf) (g:xg):Yh xa/\Yh xb/\Yh xc/\Yh xd/\Yh xe/\Yh xf/\Yh xg:=⟨a,b,c,d,e,f,g⟩
def aho (a:xa) (b:xb) (c:xc) (d:xd) (e:xe) (f:xf) (g:xg) (i:xh):Yh xa/\Yh xb/\Yh xc/\Yh xd/\Yh xe/\Yh xf/\Yh xg/\Yh xh:=⟨a,b,c,d,e,f,g,i⟩
def acm (a:xa) (b:xb) (c:xc) (d:xd) (e:xe) (f:xf) (g:xg) (i:xh) (j:xi) (k:xj):Yh xa/\Yh xb/\Yh xc/\Yh xd/\Yh xe/\Yh xf/\Yh xg/\Yh xh/\Yh xi/\Yh xj:=⟨a,b,c,d,e,f,g,i,j,k⟩
def tt:(prog.info? 22).map (λi=>(i.zero,i.size,i.bytes))=some (some (.slice none 0 0),1,24):=by kernel_rfl
def Dq:(prog.info? 3).map (λi=>(i.zero,i.size,i.bytes))=some (some (iV 0),1,8):=by kernel_rfl
abbrev bJ (im di:Value) (fuse life r wr fl rf:Int):Array Value:=
   #[im,di,iV fuse,iV life,iV r,iV wr,iV fl,iV rf,iV 0]
def Ft (a:Option Addr) (n c:Nat) (w:World):
  Calls prog 33 #[.slice a n c] w λe w'=>e= .returned (.pointer (some ⟨w.heap.size+1,0,none⟩))/\
   w'=(w.alloc (.map #[] 0)).alloc (.cells (bJ (.slice a n c) (.map (some w.heap.size)) (-1) 1 0 0 0 0) 98):=by
 have B4:= @run_makeMap prog;go_in;go_wp2;go_ret;exact⟨rfl,rfl⟩
def uU (p:Nat) (a:Int) (w:World) (b:w.cell? (aD p 2)=some (iV a)):
  Calls prog 34 #[pQ p] w λe w'=>e= .returned (.bool (a == 0))/\w'=w:=by
 go_in;go_wp2;go_ret;exact⟨rfl,rfl⟩
def PN (p:Nat) (a:Int) (w:World) (b:w.cell? (aD p 3)=some (iV a)):
  Calls prog 17 #[pQ p] w λe w'=>e= .returned (iV a)/\w'=w:=by
 go_in;go_wp2;go_ret;exact⟨rfl,rfl⟩
def vW (p:Nat) (a:Option Addr) (n c:Nat) (w:World) (d:n<=1048576) (b:w.cell? (aD p 0)=some (.slice a n c)):
  Calls prog 36 #[pQ p] w λe w'=>e= .returned (iV ((n / 512:Nat):Int))/\w'=w:=by
 go_in;go_wp2;go_ret;exact⟨by go_num,rfl⟩
def tu (p:Nat) (a:Option Addr) (n c:Nat) (b:Int) (w:World) (f:n<=1048576) (d:w.cell? (aD p 0)=some (.slice a n c)):
  Calls prog 100 #[pQ p,iV b] w λe w'=>e= .returned (.bool (decide (0<=b) && decide (b<((n / 512:Nat):Int))))/\w'=w:=by
 by_cases h0:0<=b
 .go_in;go_wp2_with (go_at_call 36;refine(vW _ _ _ _ _ f d).mono ?_;rintro e w' ⟨rfl,rfl⟩);go_ret;exact⟨by simp [h0],rfl⟩
 .go_in;go_wp2;go_ret;exact⟨by simp;omega,rfl⟩
def sd (p:Nat) (b a:Int) (w:World) (c:w.cell? (aD p 7)=some (iV b)) (d:w.frozen? (aD p 7)=false):
  Calls prog 101 #[pQ p,iV a] w λe w'=>e= .returned (iV a)/\w'=w.setCell ⟨p,7,none⟩ (.int .i64 (wrap64 (b+1))):=by
 go_in;go_wp2;go_ret;exact⟨rfl,rfl⟩
def B5 (p:Nat) (a:Int) (w:World) (b:w.cell? (aD p 2)=some (iV a)) (c:w.frozen? (aD p 2)=false) (d: -1<=a):
  Calls prog 102 #[pQ p] w λe w'=>e= .returned (.tuple #[])/\w'=if 0<a then w.setCell ⟨p,2,none⟩ (.int .i64 (wrap64 (a-1))) else w:=by
 by_cases h:0<a
 .go_in;go_wp2
  go_end0
  exact⟨rfl,rfl⟩
 .go_in;go_wp2
  go_end0
  exact⟨rfl,rfl⟩
def PO (p:Nat) (a:Int) (w:World) (b:w.cell? (aD p 3)=some (iV a)) (c:w.frozen? (aD p 3)=false):
  Calls prog 37 #[pQ p] w λe w'=>e= .returned (iV (wrap64 (a+1)))/\w'=w.setCell ⟨p,3,none⟩ (.int .i64 (wrap64 (a+1))):=by
 go_in;go_wp2;go_ret;exact⟨rfl,rfl⟩
def T9 (p:Nat) (b a:Int) (w:World) (c:w.cell? (aD p 2)=some (iV b)) (f:w.frozen? (aD p 2)=false):
  Calls prog 21 #[pQ p,iV a] w λe w'=>e= .returned (.tuple #[])/\w'=if b=0 then w else w.setCell ⟨p,2,none⟩ (.int .i64 (max a (-1))):=by
 by_cases h:b=0
 .have d:(b == 0)=true:=by simp [h]
  go_in;go_wp2_with (go_at_call 34;refine(uU _ _ _ c).mono ?_;rintro e w' ⟨rfl,rfl⟩);exact bodyPost_ret (results_none rfl _ _ _) rfl ⟨rfl,rfl⟩
 .have d:(b == 0)=false:=by simp [h]
  go_in;go_wp2_with (go_at_call 34;refine(uU _ _ _ c).mono ?_;rintro e w' ⟨rfl,rfl⟩);all_goals
   go_end0
   refine⟨rfl,?_⟩;first|rw [show max a (-1)=a by omega]|rw [show max a (-1)= -1 by omega]
def pp (p b n c s:Nat) (a:Int) (k:Nat) (w:World) (f:w.cell? (aD p 0)=some (.slice (some (aD b 0)) n c)) (d:a=(k:Int)) (ew:k<s) (i:n=s*512) (j:s<=2048) (g:n<=c):
  Calls prog 103 #[pQ p,iV a] w λe w'=>e= .returned (.slice (some ⟨b,k*512,none⟩) 512 512)/\w'=w:=by
 subst d;go_in;have e:(k+1)*512-k*512=512:=by omega
 go_wp2;go_ret;exact⟨congrArg (λz=>Ending.returned (Value.slice (some ⟨b,k*512,none⟩) z z)) e,rfl⟩
structure DS where
 im:List Int
 puts:List (Nat×List Int)
 fuse:Int
 life:Int
 reads:Int
 writes:Int
 flushes:Int
 refused:Int
def au (puts:List (Nat×List Int)) (k:Nat):List (List Int):=(puts.filter (λq=>q.1 == k)).map (·.2)
structure DS.Ok (S:DS) (s:Nat):Prop where
 len:S.im.length=s*512
 lo:1<=s
 hi:s<=2048
 puts:∀q∈S.puts,q.1<s/\q.2.length=512
 fuse: -1<=S.fuse/\S.fuse<=9223372036854775807
def fi (w:World) (F:Nat->Prop) (gi:Nat):List Value->List (List Int)->Prop
 | [], []=>True
 |v :: vs,l :: ls=>(∃g c,v= .slice (some (aD g 0)) 512 c/\F g/\g≠gi/\ay w 5 g c (bs l))/\fi w F gi vs ls
 |_,_=>False
def Rs (v:Value):Option (DataW Value×List MemPlace):=
 match v with
 | .slice _ _ _=>some (.held v, [])
 |_=>none
def gk:Keyed prog 3:=int_keyed underlying3
abbrev kk (k:Nat):Lit:= .int .i64 (k:Int)
structure ic (w:World) (F:Nat->Prop) (gi:Nat) (D:DataW Value) (gr cr:Nat->Nat) (di:Nat->List (List Int)):Prop where
 keys:∀kl,has D kl=true->∃k:Nat,kl=kk k/\di k≠ []
 Fu:∀k,di k= []->has D (kk k)=false
 look:∀k,di k≠ []->∀z,D.atKey (kk k) z= .held (.slice (some ⟨gr k,0,none⟩) (di k).length (cr k))
 row:∀k,di k≠ []->F (gr k)/\∃xs,ay w 22 (gr k) (cr k) xs/\fi w F gi xs (di k)
 inj:∀k k',di k≠ []->di k'≠ []->gr k=gr k'->k=k'
structure aO (w:World) (F:Nat->Prop) (p s:Nat) (S:DS) (gi ci m:Nat) (D:DataW Value) (gr cr:Nat->Nat):Prop where
 fp:F p
 Ua:F gi
 fm:F m
 lt:∀k,F k->k<w.heap.size
 dI:w.heap[p]? =some (.cells (bJ (.slice (some ⟨gi,0,none⟩) (s*512) ci) (.map (some m)) S.fuse S.life S.reads S.writes S.flushes S.refused) 98 (0,0))
 Jg:ay w 5 gi ci (bs S.im)
 map:w.ownsMap prog 3 Rs m S.puts.length D
 di:ic w F gi D gr cr (au S.puts)
 ok:S.Ok s
def aQ (w:World) (F:Nat->Prop) (p s:Nat) (S:DS):Prop:=∃gi ci m D gr cr,aO w F p s S gi ci m D gr cr
def fi.agree {w w':World} {F:Nat->Prop} {a:Nat} (b:∀k,F k->w'.heap[k]? =w.heap[k]?):∀{xs:List Value} {d:List (List Int)},fi w F a xs d->fi w' F a xs d
 | [], [],_=>trivial
 |_ :: _,_ :: _,⟨⟨g,c,h1,h2,h3,h4⟩,h5⟩=>⟨⟨g,c,h1,h2,h3,h4.agree (b g h2)⟩,fi.agree b h5⟩
 | [],_ :: _,h=>h.elim
 |_ :: _, [],h=>h.elim
def fi.carry {w w':World} {F:Nat->Prop} {a:Nat} (b:∀g c xs,F g->g≠a->ay w 5 g c xs->ay w' 5 g c xs):∀{xs:List Value} {d:List (List Int)},fi w F a xs d->fi w' F a xs d
 | [], [],_=>trivial
 |_ :: _,_ :: _,⟨⟨g,c,h1,h2,h3,h4⟩,h5⟩=>⟨⟨g,c,h1,h2,h3,b g c _ h2 h3 h4⟩,fi.carry b h5⟩
 | [],_ :: _,h=>h.elim
 |_ :: _, [],h=>h.elim
def fi.mono {w:World} {F G:Nat->Prop} {a:Nat} (b:∀k,F k->G k):∀{xs:List Value} {d:List (List Int)},fi w F a xs d->fi w G a xs d
 | [], [],_=>trivial
 |_ :: _,_ :: _,⟨⟨g,c,h1,h2,h3,h4⟩,h5⟩=>⟨⟨g,c,h1,b g h2,h3,h4⟩,fi.mono b h5⟩
 | [],_ :: _,h=>h.elim
 |_ :: _, [],h=>h.elim
def fi.length {w:World} {F:Nat->Prop} {b:Nat}:∀{xs:List Value} {a:List (List Int)},fi w F b xs a->xs.length=a.length
 | [], [],_=>rfl
 |_ :: _,_ :: _,⟨_,h5⟩=>by simp [fi.length h5]
 | [],_ :: _,h=>h.elim
 |_ :: _, [],h=>h.elim
def fi.snoc {w:World} {F:Nat->Prop} {a:Nat} {v:Value} {l:List Int} (b:∃g c,v= .slice (some (aD g 0)) 512 c/\F g/\g≠a/\ay w 5 g c (bs l)):
  ∀{xs:List Value} {d:List (List Int)},fi w F a xs d->fi w F a (xs ++ [v]) (d ++ [l])
 | [], [],_=>⟨b,trivial⟩
 |_ :: _,_ :: _,⟨h,h5⟩=>⟨h,fi.snoc b h5⟩
 | [],_ :: _,h=>h.elim
 |_ :: _, [],h=>h.elim
def fi.get {w:World} {F:Nat->Prop} {b:Nat}:∀{xs:List Value} {a:List (List Int)},fi w F b xs a->∀j (hj:j<a.length),∃g c,xs[j]? =some (.slice (some (aD g 0)) 512 c)/\F g/\g≠b/\ay w 5 g c (bs a[j])
 | [], [],_,j,hj=>by simp at hj
 |v :: vs,l :: a,⟨⟨g,c,h1,h2,h3,h4⟩,h5⟩,j,hj=>by
  cases j with
  |zero=>exact⟨g,c,by simp [h1],h2,h3,h4⟩
  |succ j=>simpa using fi.get h5 j (by simpa using hj)
 | [],_ :: _,h,_,_=>h.elim
 |_ :: _, [],h,_,_=>h.elim
def aQ.lt {S:DS} (h:aQ w F p s S):∀k,F k->k<w.heap.size:=by
 obtain⟨c,a,m,D,d,b,_,_,_,h,_⟩:=h;exact h
def aQ.ok {S:DS} (h:aQ w F p s S):S.Ok s:=by
 obtain⟨c,a,m,D,d,b,_,_,_,_,_,_,_,_,h⟩:=h;exact h
def ey {m:Nat} {D:DataW Value} (h:w.ownsMap prog 3 Rs m n D) (e:w'.heap[m]? =w.heap[m]?):w'.ownsMap prog 3 Rs m n D:=by
 obtain⟨b,a,c,d⟩:=h;exact⟨b,a,e.trans c,d⟩
def ic.agree {D:DataW Value} (h:ic w F gi D gr cr di) (b:∀k,F k->w'.heap[k]? =w.heap[k]?):
  ic w' F gi D gr cr di:=
   ⟨h.keys,h.Fu,h.look,λk e=>by
  obtain⟨a,xs,c,d⟩:=h.row k e;exact⟨a,xs,c.agree (b _ a),d.agree b⟩,h.inj⟩
def ic.carry {D:DataW Value} (h:ic w F gi D gr cr di)
    (e:∀g c xs,F g->g≠gi->ay w 5 g c xs->ay w' 5 g c xs) (i:∀g c xs,F g->ay w 22 g c xs->ay w' 22 g c xs):ic w' F gi D gr cr di:=
   ⟨h.keys,h.Fu,h.look,λk f=>by
  obtain⟨a,xs,b,d⟩:=h.row k f;exact⟨a,xs,i _ _ _ a b,d.carry e⟩,h.inj⟩
def ay.other {f:Nat×Nat} (h:ay w e g c xs) (j:aa (λk=>k=q) w w') (l:w.heap[q]? =some (.cells cur e' f)) (i:e'≠e):ay w' e g c xs:=by
 refine h.agree (j.block g h.lt (λd=>?_));obtain⟨b,a,_⟩:=h;rw [d,l] at a;simp at a;exact i a.2.1
def ay.ne {f:Nat×Nat} (h:ay w e g c xs) (j:w.heap[q]? =some (.cells cur e' f)) (i:e'≠e):g≠q:=by
 intro d;obtain⟨b,a,_⟩:=h;rw [d,j] at a;simp at a;exact i a.2.1
def gH {m:Nat} {D:DataW Value} {d:Nat×Nat} (h:w.ownsMap prog 3 Rs m n D) (f:w.heap[q]? =some (.cells cur e d)):m≠q:=by
 obtain⟨g,a,b,_⟩:=h;intro c;rw [c,f] at b;simp at b
def ic.mono {D:DataW Value} (h:ic w F gi D gr cr di) (a:∀k,F k->G k):
  ic w G gi D gr cr di:=
   ⟨h.keys,h.Fu,h.look,λk e=>by
  obtain⟨b,xs,c,d⟩:=h.row k e;exact⟨a _ b,xs,c,d.mono a⟩,h.inj⟩
def aQ.agree {S:DS} (h:aQ w F p s S) (u:w.heap.size<=w'.heap.size) (a:∀k,F k->w'.heap[k]? =w.heap[k]?):aQ w' F p s S:=by
 obtain⟨b,f,m,D,i,g,c,d,e,j,l,n,o,q,r⟩:=h;exact⟨b,f,m,D,i,g,c,d,e,λk t=>i5 (j k t) u,(a p c).trans l,n.agree (a b d),ey o (a m e),q.agree a,r⟩
def aQ.aw {S:DS} (h:aQ w F p s S) (k:aa G w w') (hd:∀k,F k->¬G k):aQ w' F p s S:=
 h.agree k.size (λj a=>k.block j (h.lt j a) (hd j a))
def aQ.mono {S:DS} (h:aQ w F p s S) (a:∀k,F k->G k) (r:∀k,G k->k<w.heap.size):aQ w G p s S:=by
 obtain⟨d,b,m,D,e,c,f,g,i,t,j,l,n,o,q⟩:=h;exact⟨d,b,m,D,e,c,a _ f,a _ g,a _ i,r,j,l,n,o.mono a,q⟩
def gS (w:World) (F:Nat->Prop) (p s:Nat) (S:DS) (m:Nat):Prop:=∃gi ci D gr cr,aO w F p s S gi ci m D gr cr
def gS.at {S:DS} {m:Nat} (h:gS w F p s S m):aQ w F p s S:=by
 obtain⟨c,a,D,d,b,h⟩:=h;exact⟨c,a,m,D,d,b,h⟩
def aQ.m {S:DS} (h:aQ w F p s S):∃m,gS w F p s S m:=by
 obtain⟨c,a,m,D,d,b,h⟩:=h;exact⟨m,c,a,D,d,b,h⟩
def gS.agree {S:DS} {m:Nat} (h:gS w F p s S m) (u:w.heap.size<=w'.heap.size) (a:∀k,F k->w'.heap[k]? =w.heap[k]?):gS w' F p s S m:=by
 obtain⟨b,f,D,i,g,c,d,e,j,l,n,o,q,r⟩:=h;exact⟨b,f,D,i,g,c,d,e,λk t=>i5 (j k t) u,(a p c).trans l,n.agree (a b d),ey o (a m e),q.agree a,r⟩
def gS.aw {S:DS} {m:Nat} (h:gS w F p s S m) (k:aa G w w') (hd:∀k,F k->¬G k):gS w' F p s S m:=
 h.agree k.size (λj a=>k.block j (h.at.lt j a) (hd j a))
def gS.mono {S:DS} {m:Nat} (h:gS w F p s S m) (a:∀k,F k->G k) (r:∀k,G k->k<w.heap.size):gS w G p s S m:=by
 obtain⟨d,b,D,e,c,f,g,i,t,j,l,n,o,q⟩:=h;exact⟨d,b,D,e,c,a _ f,a _ g,a _ i,r,j,l,n,o.mono a,q⟩
def aO.nx {S S':DS} {m:Nat} {D:DataW Value} (h:aO w F p s S gi ci m D gr cr) (a:aa (λk=>k=p) w w')
    (i:w'.heap[p]? =some (.cells (bJ (.slice (some ⟨gi,0,none⟩) (s*512) ci) (.map (some m)) S'.fuse S'.life S'.reads S'.writes S'.flushes S'.refused) 98 (0,0))) (e:S'.im=S.im) (b:S'.puts=S.puts) (f: -1<=S'.fuse/\S'.fuse<=9223372036854775807):
  aO w' F p s S' gi ci m D gr cr:=by
 refine⟨h.fp,h.Ua,h.fm,λk j=>i5 (h.lt k j) a.size,i,?_,?_,?_,⟨?_,h.ok.lo,h.ok.hi,?_,f⟩⟩
 .rw [e];exact h.Jg.other a h.dI (by decide)
 .rw [b];exact ey h.map (a.block m (h.lt m h.fm) (gH h.map h.dI))
 .rw [b];exact h.di.carry (λg c xs _ _ d=>d.other a h.dI (by decide)) (λg c xs _ d=>d.other a h.dI (by decide))
 .rw [e];exact h.ok.len
 .rw [b];exact h.ok.puts
def ic.empty (w:World) (F:Nat->Prop) (b:Nat) (c a:Nat->Nat):ic w F b (.map []) c a (au []):=
   ⟨λd h=>by simp [has] at h,λ_ _=>rfl,λk h=>absurd rfl h,λk h=>absurd rfl h,λk _ h=>absurd rfl h⟩
def qJ (a:Addr) (n c:Nat) (l:List Int) (w:World) (C:l.length=n) (aU:n<=140737488355328) (p:∀i,i<n->w.cell? (a.add i)=some (.int .u8 (l.getD i 0))):
  Calls prog 90 #[.slice (some a) n c] w λe w'=>∃g c',e= .returned (.slice (some (aD g 0)) n c')/\w.heap.size<=g/\ay w' 5 g c' (bs l)/\bW w w':=by
 obtain⟨z,r,gB,dC,eu⟩:=info_parts gh;have A:∀(w:World) (a:Option Addr) (n c f c':Nat),(binOp .eql 22 (.slice a n c) (.slice none f c')).run prog w= .ok (.bool a.isNone) w:=λw a n c f c'=>Lib.run_eql_slice_nil w _ _ a n c f c' underlying22;go_in;go_wp2_with (at_builtin;refine wpList_append_own _ rfl _ _ 22 rfl w.heap.size 5 z (.int .u8 0) 1 1 underlying22 r gB dC eu rfl (by decide) _ _ _ rfl (World.ownsRow_made w #[] 0 (bS _) (dV _) rfl) a n c (bs l) rfl ?qc1 ?qc2 ?qc3 ?qc4 ?qc5 ?qc6 ?_);case qc1=>simp;omega
 case qc2=>
  intro j u b;have d:j<n:=by
   have:=(mL.1 b).1;simp at this;omega
  refine Lib.cell?_alloc_some _ ?_;rw [p j d];have e:(bs l)[j]? =some (Value.int .u8 (l.getD j 0)):=by simp [bs,List.getD,List.getElem?_eq_getElem (show j<l.length by omega)]
  rw [e] at b;exact b
 case qc3=>intro u v;obtain⟨x,_,rfl⟩:=List.mem_map.1 v;rfl
 case qc4=>unfold maxLen;omega
 case qc5=>omega
 case qc6=>simp
 intro m w1 aA aR jF;have o:=((bi _ w).alloc (bS _) _).grown aR (by simp) (by intro k s;simp [Value.ownBlock] at s;omega);have y:m≠ .slice none 0 0:=by first|exact jF|(intro e;exact absurd (jF.1 e).1 (by simp))
 have cM:w1.ownsRow w.heap.size 5 1 m n (bs l):=by simpa using aA
 obtain⟨g,c',rfl,q,t,_⟩:=ay.fe cM y;go_wp2;go_ret;exact⟨g,c',rfl,q,t,o⟩
def DS.fresh (l:List Int):DS:={im:=l,puts:= [],fuse:= -1,life:=1,reads:=0,writes:=0,flushes:=0,refused:=0}
def IK {w0:World} (b:bW w0 w1) (o:w0.heap.size<=g) (d:ay w1 5 g c (bs l)) (n:l.length=s*512) (j:1<=s) (m:s<=2048):
  let w':=(w1.alloc (.map #[] 0)).alloc (.cells (bJ (.slice (some ⟨g,0,none⟩) (s*512) c) (.map (some w1.heap.size)) (-1) 1 0 0 0 0) 98)
  aQ w' (λk=>w0.heap.size<=k/\k<w'.heap.size) (w1.heap.size+1) s (DS.fresh l)/\bW w0 w':=by
 intro w';have UW:=d.lt;have p:=b.size;have eE:w'.heap.size=w1.heap.size+2:=by simp [w']
 have e:∀k,k<w1.heap.size->w'.heap[k]? =w1.heap[k]? :=λk a=>by
  rw [Below.heap_alloc _ _ _ (by simp;omega),Below.heap_alloc _ _ _ a]
 have f:w'.heap[w1.heap.size]? =some (.map #[] 0):=by
  rw [Below.heap_alloc _ _ _ (by simp)];exact heap_alloc_new _ _
 have i:w'.heap[w1.heap.size+1]? =some (.cells (bJ (.slice (some ⟨g,0,none⟩) (s*512) c) (.map (some w1.heap.size)) (-1) 1 0 0 0 0) 98 (0,0)):=by
  have:=heap_alloc_new (w1.alloc (.map #[] 0)) (.cells (bJ (.slice (some ⟨g,0,none⟩) (s*512) c) (.map (some w1.heap.size)) (-1) 1 0 0 0 0) 98);have eh:(w1.alloc (.map #[] 0)).heap.size=w1.heap.size+1:=by simp
  rw [eh] at this;exact this
 refine⟨⟨g,c,w1.heap.size, .map [],λ_=>0,λ_=>0,⟨by omega,by omega⟩,⟨by omega,by omega⟩,⟨by omega,by omega⟩,λk a=>a.2,i,d.agree (e g UW),?_,ic.empty _ _ _ _ _,⟨n,j,m,by simp [DS.fresh],by simp [DS.fresh]⟩⟩,?_⟩
 .have:=World.ownsMap_made w1 prog 3 Rs;exact ey this (by rw [f];exact(heap_alloc_new _ _).symm)
 .exact(b.alloc (by omega) _).alloc (by simp;omega) _
def YP (s:Int) (w:World) (h:s<1\/2048<s):
  Calls prog 11 #[iV s] w λe w'=>e= .returned (.tuple #[.pointer none,iV 10])/\w'=w:=by
 go_in;rcases h with h|h
 .go_wp2;go_ret2;exact⟨rfl,rfl⟩
 .have a:¬s<1:=by omega
  go_wp2;go_ret2;exact⟨rfl,rfl⟩
def PP (s:Nat) (w:World) (a:1<=s) (b:s<=2048):
  Calls prog 11 #[iV s] w λe w'=>∃p,e= .returned (.tuple #[pQ p,iV 0])/\
   aQ w' (λk=>w.heap.size<=k/\k<w'.heap.size) p s (DS.fresh (List.replicate (s*512) 0))/\bW w w':=by
 obtain⟨i,f,gB,dC,eu⟩:=info_parts gh;have YQ:¬(s:Int)<1:=by omega
 have c:¬(2048:Int)<(s:Int):=by omega
 go_in;go_wp2_with (at_make;refine wpList_make_full _ rfl _ _ 22 rfl w.heap.size 5 i (.int .u8 0) 1 underlying22 f gB dC _ _ _ _ (s*512) rfl rfl ?c1 ?c2 ?c3 ?c4 ?c5 ?_);case c3=>omega
 case c4=>unfold maxLen;omega
 intro w1 aA aR;have d:=(bi _ w).grown aR (bS _) (by intro k g;cases g);go_wp2_with (go_at_call 33;refine(Ft _ _ _ _).mono ?_;rintro e w' ⟨rfl,rfl⟩);go_ret2;exact⟨_,rfl,IK d (bS _) (lS aA) (by simp) a b⟩
def PQ (a:Option Addr) (n c:Nat) (w:World) (h:n%512≠0) (d:n<=140737488355328):
  Calls prog 29 #[.slice a n c] w λe w'=>e= .returned (.tuple #[.pointer none,iV 2])/\w'=w:=by
 have b:(((n:Int)%512) != 0)=true:=by rw [gA];omega
 go_in;go_wp2;go_ret2;exact⟨rfl,rfl⟩
def UX (a:Option Addr) (n c:Nat) (w:World) (h:n%512=0) (b:n=0\/1048576<n) (f:n<=140737488355328):
  Calls prog 29 #[.slice a n c] w λe w'=>e= .returned (.tuple #[.pointer none,iV 10])/\w'=w:=by
 have d:(((n:Int)%512) != 0)=false:=by rw [Bool.eq_false_iff,ne_eq,gA];omega
 go_in;rcases b with h0|h0
 .have Pj:((n:Int) == 0)=true:=by rw [beq_iff_eq];omega
  go_wp2;go_ret2;exact⟨rfl,rfl⟩
 .have Pj:((n:Int) == 0)=false:=by rw [Bool.eq_false_iff,ne_eq,beq_iff_eq];omega
  go_wp2;go_ret2;exact⟨rfl,rfl⟩
def UY (a:Addr) (n c s:Nat) (l:List Int) (w:World) (q:n=s*512) (t:1<=s) (u:s<=2048) (r:l.length=n) (j:∀i,i<n->w.cell? (a.add i)=some (.int .u8 (l.getD i 0))):
  Calls prog 29 #[.slice (some a) n c] w λe w'=>∃p,e= .returned (.tuple #[pQ p,iV 0])/\
   aQ w' (λk=>w.heap.size<=k/\k<w'.heap.size) p s (DS.fresh l)/\bW w w':=by
 have x:(((n:Int)%512) != 0)=false:=by rw [Bool.eq_false_iff,ne_eq,gA];omega
 have Pj:((n:Int) == 0)=false:=by rw [Bool.eq_false_iff,ne_eq,beq_iff_eq];omega
 have y:¬(1048576:Int)<(n:Int):=by omega
 have H:Yh (∀i,i<n->w.cell? (a.add i)=some (.int .u8 (l.getD i 0))):=j;have d:Yh (n=s*512):=q;clear j q;go_in;go_wp2_with fail;refine(qJ a n c l w r (by omega) H.o).mono ?_;rintro e w1 ⟨g,c',rfl,v,m,f⟩;have b:=yh (IK f v m (r.trans d.o) t u);rw [<-d.o] at b;clear m f;go_wp2_with (go_at_call 33;refine(Ft _ _ _ _).mono ?_;rintro e w' ⟨rfl,rfl⟩);go_ret2;exact⟨_,rfl,b.o⟩
def MR (p s:Nat) (F:Nat->Prop) (S:DS) (w:World) (h:aQ w F p s S):
  Calls prog 64 #[pQ p] w λe w'=>∃g c,e= .returned (.slice (some (aD g 0)) (s*512) c)/\w.heap.size<=g/\ay w' 5 g c (bs S.im)/\bW w w':=by
 obtain⟨d,b,m,D,u,t,v,x,y,z,f,j,A,C,a⟩:=h;have r:=aM f;have o:=a.len;have n:=a.hi;have yw:=qJ (aD d 0) (s*512) b S.im w o (by omega) (λi n=>j.byte (by omega));go_in;go_wp2_with (go_at_call 90;refine yw.mono ?_;rintro e w' ⟨g,c,rfl,l,q,k⟩);go_ret;exact⟨g,c,rfl,l,q,k⟩
def PR (b o f g:Nat) (n c d:Nat) (l:List Int) (w:World) (s:n<=140737488355328) (j:∀i,i<n->w.cell? ⟨b,o+i,none⟩=some (.int .u8 (l.getD i 0))) (m:∀i,i<n->w.cell? ⟨f,g+i,none⟩=some (.int .u8 (l.getD i 0))):
  Calls prog 16 #[.slice (some (aD b o)) n c, .slice (some (aD f g)) n d] w λe w'=>e= .returned (.bool true)/\bW w w':=by
 go_in;go_wp2;go_loopw [5] (λi wr=>∃k:Nat,k<=n/\i=iV k/\bW w wr) (λi _=>n-(intOf i).toNat);case atStart=>exact⟨0,dV _,rfl,bi _ _⟩
 case round=>
  obtain⟨k,r,rfl,a⟩:=hrel;by_cases bq:k<n
  .have p:=cell_later a (j k bq);have q:=cell_later a (m k bq);have cC:(k:Int)<(n:Int):=(by omega);go_wp2;go_quiet (fail);go_wp2;go_roundw;case rel=>exact⟨k+1,by omega,by go_num,below_drewN a _⟩
   case measure=>simp [intOf];omega
  .have cC:¬(k:Int)<(n:Int):=(by omega);go_wp2;go_ret;exact⟨rfl,a⟩
def B6 (a b:Option Addr) (c d:Nat) (w:World):
  Calls prog 16 #[.slice a 0 c, .slice b 0 d] w λe w'=>e= .returned (.bool true)/\w'=w:=by
 go_in;go_wp2;refine wp_loop_rounds 1 ?_;rw [rounds_succ];go_wp2;go_ret;exact⟨rfl,rfl⟩
def pr (a b:Option Addr) (n c d:Nat) (l:List Int) (w:World) (k:n<=140737488355328) (f:Src w a n l) (g:Src w b n l):
  Calls prog 16 #[.slice a n c, .slice b n d] w λe w'=>e= .returned (.bool true)/\bW w w':=by
 by_cases h0:n=0
 .subst h0;exact(B6 a b c d w).mono (by rintro e w' ⟨rfl,rfl⟩;exact⟨rfl,bi _ _⟩)
 .cases a with
  |none=>exact absurd (f.2.1 rfl) h0
  |some x=>
   cases b with
   |none=>exact absurd (g.2.1 rfl) h0
   |some y=>
    obtain⟨i,p,rfl,m⟩:=f.spot (by omega);obtain⟨j,q,rfl,o⟩:=g.spot (by omega);exact PR i p j q n c d l w k m o
def px (left:Lit->Bool) (puts:List (Nat×List Int)):Nat:=(puts.filter (λq=> !left (kk q.1))).length
def lB (a b:Nat):(kk a).sameKey (kk b)=(a == b):=by
 by_cases h:a=b
 .subst h;simp [WideAt.sameKey_self (show WideAt.IsKeyLit (kk a) from trivial)]
 .rw [Maps.sameKey_ne (by intro e;simp [kk] at e;omega)];simp [h]
def yx (left:Lit->Bool) (k:Nat) (a:left (kk k)=true):∀puts:List (Nat×List Int),px (λz=>left z && !z.sameKey (kk k)) puts=px left puts+(au puts k).length
 | []=>by simp [px,au]
 |q :: r=>by
  have c:=yx left k a r;unfold px au at*;by_cases h:q.1=k
  .simp [h,a,lB] at*;omega
  .by_cases b:left (kk q.1)=true
   .simp [h,b,lB] at*;omega
   .simp [h,b,lB] at*;omega
def Fv {D:DataW Value} {puts:List (Nat×List Int)} (h:∀q∈puts,has D (kk q.1)=true):px (has D) puts=0:=by
 unfold px;rw [List.length_eq_zero_iff,List.filter_eq_nil_iff];intro q a;simp [h q a]
def MS {left:Lit->Bool} {puts:List (Nat×List Int)} (h:∀kl,left kl=false):px left puts=puts.length:=by
 unfold px;rw [List.filter_eq_self.2 (λq _=>by simp [h])]
def PS (left:Lit->Bool) (puts:List (Nat×List Int)):px left puts<=puts.length:=List.length_filter_le _ _
def PU {puts:List (Nat×List Int)} {q:Nat×List Int} (h:q∈puts):au puts q.1≠ []:=by
 unfold au;intro e;rw [List.map_eq_nil_iff,List.filter_eq_nil_iff] at e;exact e q h (by simp)
def ic.has {D:DataW Value} (h:ic w F gi D gr cr di) (a:di k≠ []):Maps.has D (kk k)=true:=
 Maps.has_true_of_atKey (h.look k a)
abbrev MT (c:Option Addr×Nat×Nat):Value:= .slice c.1 c.2.1 c.2.2
def se (v:Value) (y:DataW Value×List MemPlace) (h:Rs v=some y):∃c,v=MT c:=by
 unfold Rs at h;split at h
 .exact⟨(_,_,_),rfl⟩
 .cases h
def Fw (c:Option Addr×Nat×Nat):Rs (MT c)=some (.held (MT c), []):=rfl
def ic.met {D:DataW Value} (h:ic w F gi D gr cr di) {x:Int} {c:Option Addr×Nat×Nat} {b:Lit} {y:DataW Value×List MemPlace}
    (gT:keyOf prog 3 (iV x)=some b) (f:Rs (MT c)=some y) (is:∀zd,D.atKey b zd=y.1):
  ∃k:Nat,x=(k:Int)/\b=kk k/\di k≠ []/\c=(some ⟨gr k,0,none⟩,(di k).length,cr k):=by
 obtain⟨k,rfl,e⟩:=h.keys b (Maps.has_true_of_atKey is);obtain⟨m,i,g,_⟩:=Maps.keyOf_int_inv underlying3 gT;have j:x=(k:Int):=by cases i;simpa [kk] using g.symm
 rw [Fw] at f;cases f;have d:=is .nil;rw [h.look k e] at d;obtain⟨a,n,l⟩:=c;simp [MT] at d;exact⟨k,j,rfl,e,by simp [d]⟩
def PX {b:Nat} {t:TypeId} {g i j k l:Value} (a c d e f:Value) (h:w.heap[b]? =some (.cells #[g,i,j,k,l] t (0,0))):
    (((((w.setCell ⟨b,0,none⟩ a).setCell ⟨b,1,none⟩ c).setCell ⟨b,2,none⟩ d).setCell ⟨b,3,none⟩ e).setCell ⟨b,4,none⟩ f).heap[b]? =some (.cells #[a,c,d,e,f] t (0,0)):=by
 simpa using (heap_setCell_same _ b 4 _ t f (heap_setCell_same _ b 3 _ t e (heap_setCell_same _ b 2 _ t d (heap_setCell_same _ b 1 _ t c (heap_setCell_same w b 0 _ t a h)))))
abbrev ee (r wr fl rf pe:Int):Array Value:= #[iV r,iV wr,iV fl,iV rf,iV pe]
def Jh (p s:Nat) (F:Nat->Prop) (S:DS) (w:World) (h:aQ w F p s S) (aU:S.puts.length<=140737488355328):
  Calls prog 66 #[pQ p] w λe w'=>e= .returned (.agg (ee S.reads S.writes S.flushes S.refused S.puts.length))/\bW w w':=by
 obtain⟨W,O,m,D,X,P,r,Y,t,f,a,Z,u,g,h9⟩:=h;obtain⟨I,J,K,L,M,N,py,B7⟩:=xm (bG a) (gG a) (sb a) (wZ a) (rt a) (Dp a) (f p r) (f m t);go_in;go_wp2_with (at_range;refine wpList_range_own _ rfl _ 94 rfl 3 79 gk underlying94 Rs m S.puts.length D rfl ((u.alloc _).alloc _) ?_;intro w0 pz uP yy;go_frame);have b:((w.alloc (Obj.cells (ee 0 0 0 0 0) 96)).alloc (Obj.cells (ee S.reads S.writes S.flushes S.refused 0) 96)).heap.size=w.heap.size+2:=by simp
 rw [b] at pz yy⊢;have Dr:=(uP.block w.heap.size (by rw [b];omega) (by simp)).trans ((Below.heap_alloc _ _ _ (by simp)).trans (heap_alloc_new w (Obj.cells (ee 0 0 0 0 0) 96)));have bN:w0.heap[w.heap.size+1]? =some (Obj.cells (ee S.reads S.writes S.flushes S.refused 0) 96 (0,0)):=by
  refine(uP.block (w.heap.size+1) (by rw [b];omega) (by simp)).trans ?_;have:=heap_alloc_new (w.alloc (Obj.cells (ee 0 0 0 0 0) 96)) (Obj.cells (ee S.reads S.writes S.flushes S.refused 0) 96);have n:(w.alloc (Obj.cells (ee 0 0 0 0 0) 96)).heap.size=w.heap.size+1:=by simp
  rw [n] at this;exact this
 have lx:=(((bi _ w).alloc (bS _) _).alloc (by simp) _).grown uP (by rw [b];omega) (λj d=>by cases d);go_loopw [5] (λ_ wr=>∃(left:Lit->Bool) (el:Nat),wr.ranges prog 3 Rs m (w.heap.size+2) S.puts.length D left el/\
   wr.heap[w.heap.size]? =some (Obj.cells (ee 0 0 0 0 0) 96 (0,0))/\
   wr.heap[w.heap.size+1]? =some (Obj.cells (ee S.reads S.writes S.flushes S.refused (px left S.puts:Nat)) 96 (0,0))/\bW w wr)
    (λ_ wr=>wr.rangeLeft m (w.heap.size+2))
 case atStart=>exact⟨_,_,pz,Dr,by rw [(Fv (λq A=>g.has (PU A)))];exact bN,lx⟩
 case round=>
  obtain⟨left,el,mN,Dr,bN,c⟩:=hrel;go_wp2_with (at_next;refine wpList_next_ranges _ rfl _ rfl 3 gk Rs (Value.int .i64) MT (λG H gT=>by obtain⟨x,rfl,_⟩:=Maps.keyOf_int_inv underlying3 gT;exact⟨x,rfl⟩) se m (w.heap.size+2) S.puts.length _ _ _ rfl mN ?_ ?_)
  .intro _ vX;rw [MS vX] at bN;obtain⟨k0,k1,k2,k3,E,r0,r1,r2,r3,r4,Q,R⟩:=Fs (aM bN) (bG bN) (bK bN) (fQ bN) (gG bN) (aM Dr) (bG Dr) (bK Dr) (fQ Dr) (gG Dr) (ae Dr 0) (ae Dr 1);have T:=ae Dr 2;have U:=ae Dr 3;have o:=ae Dr 4;go_wp2;have a:=PX (iV S.reads) (iV S.writes) (iV S.flushes) (iV S.refused) (iV S.puts.length) Dr;refine bodyPost_ret (v:= .agg (ee S.reads S.writes S.flushes S.refused S.puts.length)) (by simp [results,results66,go_sem,ee,aM a,bG a,bK a,fQ a,(gG a)]) rfl ⟨rfl,?_⟩;exact((((c.setCell (bS _) _).setCell (bS _) _).setCell (bS _) _).setCell (bS _) _).setCell (bS _) _
  .intro x ca l i H yd yp w2 pA gT A2 C is o8 bq fZ bo IR;obtain⟨k,rfl,rfl,hp,y⟩:=g.met gT C is;obtain⟨rfl,rfl,rfl⟩:ca=_/\l=_/\i=_:=(by simpa using y);have bw:=(yx left k A2 S.puts);have YR:px left S.puts+(au S.puts k).length<=S.puts.length:=(by have:=PS (λz=>left z && !z.sameKey (kk k)) S.puts;rw [bw] at this;exact this);have acn:=(fZ.block w.heap.size (by have:=(lR.1 Dr).1;omega) (by simp)).trans Dr;have YS:=(fZ.block (w.heap.size+1) (by have:=(lR.1 bN).1;omega) (by simp)).trans bN;have eH:=c.grown fZ c.size (λj d=>by cases d;omega);have E:=gG YS;have o:=ae YS 4;go_wp2;go_roundw;case rel=>
    refine⟨_,pA,o8.kept (mM _ _ _) (λe=>by have:=Option.some.inj e;simp only at this;omega) (λe=>by have:=Option.some.inj e;simp only at this;omega),?_,?_,eH.setCell (Nat.le_succ _) _⟩
    .rw [Below.heap_setCell _ _ _ _ (by simp)];exact acn
    .rw [bw,heap_setCell_same _ _ _ _ _ _ YS];simp [ee]
   case measure=>
    rw [(o8.kept (mM _ _ _) (λe=>by have:=Option.some.inj e;simp only at this;omega) (λe=>by have:=Option.some.inj e;simp only at this;omega)).left_eq,mN.left_eq];exact bq
def aQ.cells {S:DS} (h:aQ w F p s S):w.cell? (aD p 2)=some (iV S.fuse)/\w.cell? (aD p 3)=some (iV S.life)/\(∀j,w.frozen? (aD p j)=false)/\
  ∃gi ci,w.cell? (aD p 0)=some (.slice (some (aD gi 0)) (s*512) ci):=by
 obtain⟨gi,ci,m,D,c,b,d,e,f,g,a,i,k,l,n⟩:=h;exact⟨bK a,fQ a,ae a,gi,ci,aM a⟩
def yz {S:DS} (h:aQ w F p s S):
  Calls prog 36 #[pQ p] w λe w'=>e= .returned (iV s)/\w'=w:=by
 obtain⟨_,_,_,d,c,b⟩:=h.cells;have:=h.ok.hi;have e:s*512 / 512=s:=by omega
 have a:=vW p _ (s*512) c w (by omega) b;rw [e] at a;exact a
def iu {S:DS} (h:aQ w F p s S):
  Calls prog 34 #[pQ p] w λe w'=>e= .returned (.bool (S.fuse == 0))/\w'=w:=uU p _ w h.cells.1
def UZ {S:DS} (h:aQ w F p s S):
  Calls prog 17 #[pQ p] w λe w'=>e= .returned (iV S.life)/\w'=w:=PN p _ w h.cells.2.1
def tw (a:Option Addr) (n c:Nat) (l:List Int) (w:World) (s:n<=140737488355328) (i:Src w a n l):
  Calls prog 30 #[.slice a n c] w λe w'=>∃g,e= .returned (.slice (some (aD g 0)) n n)/\w.heap.size<=g/\ay w' 5 g n (bs l)/\bW w w':=by
 obtain⟨q,m,gB,dC,eu⟩:=info_parts gh;go_in;go_wp2_with (at_make;refine wpList_make_full _ rfl _ _ 22 rfl w.heap.size 5 q (.int .u8 0) 1 underlying22 m gB dC _ _ _ _ n rfl rfl ?c1 ?c2 ?c3 ?c4 ?c5 ?_);case c1=>rfl
 case c2=>rfl
 case c3=>rw [eu];omega
 case c4=>unfold maxLen;omega
 case c5=>exact bS _
 intro w1 aA aR;have p:=lS aA;have b:=(bi _ w).grown aR (bS _) (by intro k d;cases d);have j:=p.full (by simp [bs]);have eh:=i.later b;have o:=i.1;obtain⟨r,bD,f,d,_⟩:=yv w1 3 (some (aD w.heap.size 0)) w.heap.size 0 n n a n c (bs (List.replicate n 0)) l j eh (λ_=>rfl) (by simp [bs]);have bd:=b.trans (d.below (λk h=>by omega) b.size);have fy:ay r 5 w.heap.size n (bs l):=by
  have e:splice (bs (List.replicate n 0)) 0 (bs (l.take n))=bs l:=by
   rw [nr (by omega)];simp [splice,bs];omega
  rw [e] at f;have:=ay.xL f (by simp [bs,maxLen];omega);simpa [bs,o] using this
 go_wp2;go_ret;exact⟨w.heap.size,rfl,bS _,fy,bd⟩
def bL (im:List Int) (k:Nat):List Int:=(im.drop (k*512)).take 512
def DS.gL (S:DS) (k j:Nat):List Int:=if j=0 then bL S.im k else (au S.puts k).getD (j-1) []
def yA (w:World):(zeroValue 79).run prog w= .ok (.slice none 0 0) w:=by kernel_rfl
def lM (k:Nat) (a:k<2048):keyOf prog 3 (iV (k:Int))=some (kk k):=
 keyOf_int_mk underlying3 (WalkArith.wf_i64 (by omega))
def aO.look {S:DS} {m:Nat} {D:DataW Value} (h:aO w F p s S gi ci m D gr cr) (e:k<s):
  ∃a c,(Instr.lookup 94 (.map (some m)) (iV (k:Int)) false).run prog w= .ok (.slice a (au S.puts k).length c) w/\
     (au S.puts k≠ []->a=some ⟨gr k,0,none⟩/\c=cr k)/\(au S.puts k= []->a=none/\c=0):=by
 have f:=h.ok.hi;obtain⟨v,ps,bD,b⟩:=h.map.lookup gk underlying94 (yA w) (zd:= .held (.slice none 0 0)) (zp:= []) rfl (lM k (by omega));by_cases d:au S.puts k= []
 .rw [Maps.atKey_of_not_has (h.di.Fu k d)] at b;obtain⟨⟨a,n,c⟩,rfl⟩:=se v _ b;rw [Fw] at b;simp [MT] at b;obtain⟨⟨rfl,rfl,rfl⟩,_⟩:=b;exact⟨none,0,by rw [d];exact bD,λh=>absurd d h,λ_=>⟨rfl,rfl⟩⟩
 .rw [h.di.look k d] at b;obtain⟨⟨a,n,c⟩,rfl⟩:=se v _ b;rw [Fw] at b;simp [MT] at b;obtain⟨⟨rfl,rfl,rfl⟩,_⟩:=b;exact⟨_,_,bD,λ_=>⟨rfl,rfl⟩,λh=>absurd h d⟩
def U1 (h:ay w 5 gi ci (bs im)) (d:im.length=s*512) (c:k<s):Src w (some ⟨gi,k*512,none⟩) 512 (bL im k):=by
 refine⟨by simp [bL];omega,(λh=>by cases h),λx b i a=>?_⟩;cases b;rw [aN];have:=h.byte (i:=k*512+i) (by omega);rw [aN,Nat.zero_add] at this;rw [this];simp [bL,List.getD,a]
def yB {S:DS} (h:S.Ok s) (b:j<(au S.puts k).length):((au S.puts k)[j]).length=512:=by
 have a:=List.getElem_mem b;unfold au at a;obtain⟨q,c,e⟩:=List.mem_map.1 a;have:=(h.puts q (List.mem_filter.1 c).1).2;unfold au;rw [<-e];exact this
def MU {S:DS} {m:Nat} {D:DataW Value} (h:aO w F p s S gi ci m D gr cr) (k:Nat) (a:k<s):
  Calls prog 123 #[pQ p,iV (k:Int),iV 0] w λe w'=>e= .returned (.slice (some ⟨gi,k*512,none⟩) 512 512)/\w'=w:=by
 have b:=h.Jg.le;have hd:=pp p gi (s*512) ci s k k w (aM h.dI) rfl a rfl h.ok.hi (by simp [bs,h.ok.len] at b;omega);go_in;go_wp2_with (go_at_call 103;refine hd.mono ?_;rintro e w' ⟨rfl,rfl⟩);go_ret;exact⟨rfl,rfl⟩
def MV {S:DS} {m:Nat} {D:DataW Value} (h:aO w F p s S gi ci m D gr cr) (k:Nat) (q:k<s) (i:Nat) (f:Int) (o:f=(i:Int)+1) (b:i<(au S.puts k).length) (aU:S.puts.length<=140737488355328):
  Calls prog 123 #[pQ p,iV (k:Int),iV f] w λe w'=>∃g c,e= .returned (.slice (some (aD g 0)) 512 c)/\F g/\g≠gi/\ay w 5 g c (bs (au S.puts k)[i])/\w'=w:=by
 subst o;have u:=bG h.dI;have d:au S.puts k≠ []:=by intro e;rw [e] at b;simp at b
 obtain⟨a,c,bD,l,_⟩:=h.look q;obtain⟨rfl,rfl⟩:=l d;obtain⟨_,xs,be,oT⟩:=h.di.row k d;obtain⟨g,j,t,n,dM,r⟩:=oT.get i b;have v:=be.cell t;have y:(au S.puts k).length<=S.puts.length:=by unfold au;rw [List.length_map];exact List.length_filter_le _ _
 have x:((i:Int)+1 == 0)=false:=by rw [Bool.eq_false_iff,ne_eq,beq_iff_eq];omega
 have ny:(i:Int)<((au S.puts k).length:Int):=by omega
 go_in;go_wp2;go_ret;exact⟨g,j,rfl,n,dM,r,rfl⟩
def DS.now (S:DS) (k:Nat):List Int:=S.gL k (au S.puts k).length
def DS.nz {S:DS} (h:S.Ok s) (b:k<s) (a:j<=(au S.puts k).length):(S.gL k j).length=512:=by
 unfold DS.gL;split
 .simp [bL];have:=h.len;omega
 .have AZ:j-1<(au S.puts k).length:=by omega
  rw [List.getD,List.getElem?_eq_getElem AZ,Option.getD_some];exact yB h AZ
def Fx {S:DS} {m:Nat} {D:DataW Value} (h:aO w F p s S gi ci m D gr cr) (k:Nat) (a:k<s) (j:Nat) (q:j<=(au S.puts k).length) (aU:S.puts.length<=140737488355328):
  Calls prog 123 #[pQ p,iV (k:Int),iV (j:Int)] w λe w'=>∃g o c,e= .returned (.slice (some (aD g o)) 512 c)/\F g/\512<=c/\(g=gi->o=k*512/\S.gL k j=bL S.im k)/\Src w (some (aD g o)) 512 (S.gL k j)/\w'=w:=by
 cases j with
 |zero=>exact(MU h k a).mono (by rintro e w' ⟨rfl,rfl⟩;exact⟨gi,k*512,512,rfl,h.Ua,bS _,λ_=>⟨rfl,rfl⟩,U1 h.Jg h.ok.len a,rfl⟩)
 |succ i=>
  refine(MV h k a i ((i+1:Nat):Int) (by omega) (by omega) aU).mono ?_;rintro e w' ⟨g,c,rfl,l,dM,d,rfl⟩;have f:S.gL k (i+1)=(au S.puts k)[i]:=by simp [DS.gL,List.getD,List.getElem?_eq_getElem (show i<(au S.puts k).length by omega)]
  have n:=yB h.ok (k:=k) (j:=i) (by omega);have b:=d.le;refine⟨g,0,c,rfl,l,by simp [bs] at b;omega,λe=>absurd e dM,?_,rfl⟩;rw [f];have:=d.src;rw [n] at this;exact this
def DS.read (S:DS):DS:={S with reads:=wrap64 (S.reads+1)}
def DS.refuse (S:DS):DS:={S with refused:=wrap64 (S.refused+1)}
def aO.set {S:DS} {m:Nat} {D:DataW Value} (h:aO w F p s S gi ci m D gr cr) (i:Nat) (v:Value):
    (w.setCell ⟨p,i,none⟩ v).heap[p]? =some (.cells ((bJ (.slice (some ⟨gi,0,none⟩) (s*512) ci) (.map (some m)) S.fuse S.life S.reads S.writes S.flushes S.refused).setIfInBounds i v) 98 (0,0))/\aa (λk=>k=p) w (w.setCell ⟨p,i,none⟩ v):=
   ⟨heap_setCell_same _ _ _ _ _ _ h.dI,aa.setCell (F:=λk=>k=p) w (p:=(aD p i)) rfl v⟩
def aO.refused {S:DS} {m:Nat} {D:DataW Value} (h:aO w F p s S gi ci m D gr cr):
  aO (w.setCell ⟨p,7,none⟩ (.int .i64 (wrap64 (S.refused+1)))) F p s S.refuse gi ci m D gr cr:=
 h.nx (h.set 7 _).2 ((h.set 7 _).1.trans (by simp [bJ,DS.refuse])) rfl rfl h.ok.fuse
def aO.reads {S:DS} {m:Nat} {D:DataW Value} (h:aO w F p s S gi ci m D gr cr):
  aO (w.setCell ⟨p,4,none⟩ (.int .i64 (wrap64 (S.reads+1)))) F p s S.read gi ci m D gr cr:=
 h.nx (h.set 4 _).2 ((h.set 4 _).1.trans (by simp [bJ,DS.read])) rfl rfl h.ok.fuse
def B8 {S:DS} (h:aQ w F p s S) (a:Int) (c:S.fuse=0):
  Calls prog 68 #[pQ p,iV a] w λe w'=>e= .returned (.tuple #[.slice none 0 0,iV 3])/\w'=w:=by
 have b:=iu h;rw [c] at b;go_in;go_wp2_with (go_at_call 34;refine b.mono ?_;rintro e w' ⟨rfl,rfl⟩);go_ret2;exact⟨rfl,rfl⟩
def Ji {S:DS} (h:aQ w F p s S) (a:Int) (k:S.fuse≠0) (o:a<0\/(s:Int)<=a):
  Calls prog 68 #[pQ p,iV a] w λe w'=>e= .returned (.tuple #[.slice none 0 0,iV 11])/\aQ w' F p s S.refuse/\aa F w w':=by
 have d:=iu h;rw [show (S.fuse == 0)=false by simp [k]] at d;obtain⟨i,c,m,D,j,g,h⟩:=h;have q:=h.ok.hi;have f:=tu p _ (s*512) c a w (by omega) (aM h.dI);rw [show s*512 / 512=s by omega,show (decide (0<=a) && decide (a<(s:Int)))=false by simp;omega] at f;have n:=sd p S.refused 11 w (rt h.dI) (ae h.dI 7);have l:aa F w (w.setCell ⟨p,7,none⟩ (.int .i64 (wrap64 (S.refused+1)))):=aa.setCell w h.fp _;go_in;go_wp2_with (first|(go_at_call 34;refine d.mono ?_;rintro e w' ⟨rfl,b⟩;subst b)|(go_at_call 100;refine f.mono ?_;rintro e w' ⟨rfl,b⟩;subst b)|(go_at_call 101;refine n.mono ?_;rintro e w' ⟨rfl,rfl⟩));go_ret2;exact⟨rfl,⟨i,c,m,D,j,g,h.refused⟩,l⟩
def Fy {S:DS} {m:Nat} (h:gS w F p s S m) (k:Nat) (z:S.fuse≠0) (d:k<s) (aU:S.puts.length<=140737488355328):
  Calls prog 68 #[pQ p,iV (k:Int)] w λe w'=>∃g c,e= .returned (.tuple #[.slice (some (aD g 0)) 512 c,iV 0])/\w.heap.size<=g/\ay w' 5 g c (bs (S.now k))/\
   gS w' F p s S.read m/\aa F w w':=by
 have l:=iu h.at;rw [show (S.fuse == 0)=false by simp [z]] at l;obtain⟨v,j,D,x,t,h⟩:=h;have I:=h.ok.hi;have n:=tu p _ (s*512) j k w (by omega) (aM h.dI);rw [show s*512 / 512=s by omega,show (decide (0<=(k:Int)) && decide ((k:Int)<(s:Int)))=true by simp;omega] at n;have E:=gG h.dI;have G:=ae h.dI 4;have hd:=h.reads;have eZ:aa F w (w.setCell ⟨p,4,none⟩ (.int .i64 (wrap64 (S.reads+1)))):=aa.setCell w h.fp _;have eE:(w.setCell ⟨p,4,none⟩ (.int .i64 (wrap64 (S.reads+1)))).heap.size=w.heap.size:=by simp [World.setCell]
 have C:=bG hd.dI;obtain⟨a,c,bD,dM,jF⟩:=hd.look d;have yw:(S.read.gL k (au S.puts k).length).length=512:=DS.nz hd.ok d (bS _);go_in;go_wp2_with (first|(go_at_call 34;refine l.mono ?_;rintro e w' ⟨rfl,f⟩;subst f)|(go_at_call 100;refine n.mono ?_;rintro e w' ⟨rfl,f⟩;subst f));refine(Fx hd k d (au S.puts k).length (bS _) aU).mono ?_;rintro e w1 ⟨g,o,r,rfl,H,y,_,fS,rfl⟩;go_wp2_with fail;refine(qJ (aD g o) 512 r _ _ yw (by omega) (λi A=>fS.2.2 _ rfl i A)).mono ?_;rintro e J ⟨u,q,rfl,fZ,fy,bd⟩;have b:=gS.aw ⟨v,j,D,x,t,hd⟩ (aa.ah (λ_=>False) bd) (λ_ _ h=>h);rw [eE] at fZ;go_wp2;go_ret2;exact⟨u,q,rfl,fZ,fy,b,eZ.trans (aa.ah (λ_=>False) bd) (λ_ h=>h.elim)⟩
def LQ {S:DS} (h:aQ w F p s S) (k:Nat) (j:S.fuse≠0) (l:k<s) (aU:S.puts.length<=140737488355328):
  Calls prog 68 #[pQ p,iV (k:Int)] w λe w'=>∃g c,e= .returned (.tuple #[.slice (some (aD g 0)) 512 c,iV 0])/\w.heap.size<=g/\ay w' 5 g c (bs (S.now k))/\
   aQ w' F p s S.read/\aa F w w':=by
 obtain⟨m,h⟩:=h.m;refine(Fy h k j l aU).mono ?_;rintro e w' ⟨g,c,a,b,d,f,i⟩;exact⟨g,c,a,b,d,f.at,i⟩
def DS.gq (S:DS):DS:={S with fuse:=if 0<S.fuse then S.fuse-1 else S.fuse}
def DS.put (S:DS) (k:Nat) (l:List Int):DS:={S with puts:=S.puts ++ [(k,l)]}
def iw (puts:List (Nat×List Int)) (k:Nat) (l:List Int) (j:Nat):au (puts ++ [(k,l)]) j=if j=k then au puts k ++ [l] else au puts j:=by
 unfold au;by_cases h:j=k
 .subst h;simp
 .have:(k == j)=false:=by simp;omega
  simp [h,List.filter_append,this]
def lT (puts:List (Nat×List Int)) (k:Nat):(au puts k).length<=puts.length:=by unfold au;rw [List.length_map];exact List.length_filter_le _ _
def aO.PY {S:DS} {m:Nat} {D:DataW Value} (h:aO w F p s S gi ci m D gr cr) (g:k<s):
  ∃a cc xs,(∀wx:World,wx.heap[m]? =w.heap[m]?->(Instr.lookup 94 (.map (some m)) (iV (k:Int)) false).run prog wx= .ok (.slice a (au S.puts k).length cc) wx)/\
     (∀wx:World,(au S.puts k≠ []->wx.heap[gr k]? =w.heap[gr k]?)->wx.ownsRow 0 22 1 (.slice a (au S.puts k).length cc) (au S.puts k).length xs)/\
   fi w F gi xs (au S.puts k)/\(au S.puts k= []->a=none/\cc=0)/\(au S.puts k≠ []->a=some ⟨gr k,0,none⟩/\cc=cr k):=by
 have i:=h.ok.hi;have f:=lM k (by omega);by_cases d:au S.puts k= []
 .refine⟨none,0, [],λwx e=>?_,λwx _=>?_,?_,λ_=>⟨rfl,rfl⟩,λh=>absurd d h⟩
  .obtain⟨v,ps,bD,b⟩:=(ey h.map e).lookup gk underlying94 (yA wx) (zd:= .held (.slice none 0 0)) (zp:= []) rfl f;rw [Maps.atKey_of_not_has (h.di.Fu k d)] at b;obtain⟨⟨a,n,c⟩,rfl⟩:=se v _ b;rw [Fw] at b;simp [MT] at b;obtain⟨⟨rfl,rfl,rfl⟩,_⟩:=b;rw [d];exact bD
  .rw [d];exact World.ownsRow_nil _ _ _ _
  .rw [d];trivial
 .obtain⟨_,xs,be,oT⟩:=h.di.row k d;refine⟨some ⟨gr k,0,none⟩,cr k,xs,λwx e=>?_,λwx e=>?_,oT,λh=>absurd h d,λ_=>⟨rfl,rfl⟩⟩
  .obtain⟨v,ps,bD,b⟩:=(ey h.map e).lookup gk underlying94 (yA wx) (zd:= .held (.slice none 0 0)) (zp:= []) rfl f;rw [h.di.look k d] at b;obtain⟨⟨a,n,c⟩,rfl⟩:=se v _ b;rw [Fw] at b;simp [MT] at b;obtain⟨⟨rfl,rfl,rfl⟩,_⟩:=b;exact bD
  .have:=(be.agree (e d)).owns;rw [oT.length] at this;exact this
def aO.wrote {S:DS} {m:Nat} {D:DataW Value} (h:aO w F p s S gi ci m D gr cr) (M:k<s) (N:l.length=512)
    (oT:fi w F gi xs (au S.puts k)) (LR:aa (λb=>b=m\/(au S.puts k≠ []/\b=gr k)) w w3) (L:w.heap.size<=g) (E:ay w3 5 g cg (bs l))
    (aA:w3.ownsRow 0 22 1 (.slice (some (aD g2 0)) ((au S.puts k).length+1) cz) ((au S.puts k).length+1) (xs ++ [.slice (some (aD g 0)) 512 cg]))
    (fZ:(au S.puts k≠ []/\g2=gr k)\/w.heap.size<=g2) (YT:w3.ownsMap prog 3 Rs m (S.puts.length+1) (D.put (kk k) (.held (.slice (some (aD g2 0)) ((au S.puts k).length+1) cz)))):
  aO w3 (more F w w3) p s (S.put k l) gi ci m (D.put (kk k) (.held (.slice (some (aD g2 0)) ((au S.puts k).length+1) cz))) (λj=>if j=k then g2 else gr j) (λj=>if j=k then cz else cr j):=by
 obtain⟨J,H,O,_,fy,C⟩:=ay.fe aA (by simp);cases O;have gT:WideAt.IsKeyLit (kk k):=trivial;have aco:∀b,au S.puts k≠ []->b=gr k->∃cur,w.heap[b]? =some (.cells cur 22 (0,0)):=λb n e=>by
  obtain⟨_,o,⟨cur,a,_⟩,_⟩:=h.di.row k n;exact⟨cur,by rw [e];exact a⟩
 have r:∀(b:Nat) (cur:Array Value) (e:TypeId),w.heap[b]? =some (Obj.cells cur e (0,0))->e≠22->w3.heap[b]? =w.heap[b]? :=λb cur e a f=>by
  refine LR.block b ((lR.1 a).1) (λi=>?_);rcases i with i|⟨n,i⟩
  .exact gH h.map (i▸a) rfl
  .obtain⟨A,eH⟩:=aco b n i;rw [a] at eH;simp at eH;exact f eH.2
 have PZ:∀b c o,ay w 5 b c o->ay w3 5 b c o:=λb c o a=>by
  have eH:=a;obtain⟨cur,ar,_⟩:=eH;exact a.agree (r b cur _ ar (by decide))
 have Ui:∀b,F b->more F w w3 b:=λb a=> .inl a;refine⟨.inl h.fp, .inl h.Ua, .inl h.fm,λb a=>?_,?_,PZ _ _ _ h.Jg,by simpa [DS.put] using YT,⟨?_,?_,?_,?_,?_⟩,⟨h.ok.len,h.ok.lo,h.ok.hi,λq v=>?_,h.ok.fuse⟩⟩
 .rcases a with a|a
  .exact i5 (h.lt b a) LR.size
  .exact a.2
 .rw [r p _ _ h.dI (by decide)];exact h.dI
 .intro G oc;by_cases f:G=kk k
  .exact⟨k,f,by rw [DS.put,iw,aG rfl];simp⟩
  .rw [Maps.has_put_other f] at oc;obtain⟨j,rfl,d⟩:=h.di.keys G oc;exact⟨j,rfl,by rw [DS.put,iw];split;simp;exact d⟩
 .intro j d;rw [DS.put,iw] at d;split at d
  .simp at d
  .rename_i dM;rw [Maps.has_put_other (by simp [kk];omega)];exact h.di.Fu j d
 .intro j d z;rw [DS.put,iw] at d⊢;by_cases f:j=k
  .subst f;simp only [if_true];rw [Maps.atKey_put_same h.map.isMap gT];simp
  .simp only [f,if_false] at d⊢;rw [Maps.atKey_put_other (by simp [kk];omega)];exact h.di.look j d z
 .intro j d;rw [DS.put,iw] at d⊢;by_cases f:j=k
  .subst f;simp only [if_true];refine⟨?_,_,fy,?_⟩
   .rcases fZ with ⟨n,e⟩|fZ
    .rw [e];exact .inl (h.di.row j n).1
    .exact .inr ⟨fZ,fy.lt⟩
   .refine fi.snoc ⟨g,cg,rfl, .inr ⟨L,E.lt⟩,?_,E⟩ ((oT.carry (λb c o _ _ a=>PZ b c o a)).mono Ui);intro e;have:=h.lt gi h.Ua;omega
  .simp only [f,if_false] at d⊢;obtain⟨K,o,t,pB⟩:=h.di.row j d;refine⟨.inl K,o,t.agree (LR.block _ t.lt (λi=>?_)),(pB.carry (λb c o _ _ a=>PZ b c o a)).mono Ui⟩;rcases i with i|⟨n,i⟩
   .obtain⟨cur,a,_⟩:=t;exact gH h.map (i▸a) rfl
   .exact f (h.di.inj j k d n i)
 .intro j u d AZ e;rw [DS.put,iw] at d AZ;by_cases x:j=k <;> by_cases y:u=k
  .omega
  .subst x;simp only [if_true,y,if_false] at e AZ;rcases fZ with ⟨n,I⟩|fZ
   .exact(h.di.inj j u n AZ (by omega))
   .have:=h.lt _ (h.di.row u AZ).1;omega
  .subst y;simp only [if_true,x,if_false] at e d;rcases fZ with ⟨n,I⟩|fZ
   .exact(h.di.inj j u d n (by omega))
   .have:=h.lt _ (h.di.row j d).1;omega
  .simp only [x,y,if_false] at e d AZ;exact h.di.inj j u d AZ e
 .simp only [DS.put,List.mem_append,List.mem_singleton] at v;rcases v with v|rfl
  .exact h.ok.puts q v
  .exact⟨M,N⟩
def MW {n:World} {S:DS} {m:Nat} {D:DataW Value} (h:aO w F p s S gi ci m D gr cr) (x:k<s) (y:l.length=512)
  {q:Nat} (oT:fi w F gi xs (au S.puts k)) (jF:au S.puts k= []->a=none/\q=0) (P0:au S.puts k≠ []->a=some ⟨gr k,0,none⟩/\q=cr k) {o:Obj}
    (ar:bW w w1) (v:w.heap.size<=g) (r:ay w1 5 g cg (bs l))
    (aA:n.ownsRow 0 22 1 (.slice (some (aD g2 0)) ((au S.puts k).length+1) cz) ((au S.puts k).length+1) (xs ++ [.slice (some (aD g 0)) 512 cg]))
    (aR:(w1.alloc o).grownBy n (Value.slice a (au S.puts k).length q).ownBlock) (is:(Value.slice a (au S.puts k).length q).ownBlock=some g2\/g2=w1.heap.size+1) (aU:S.puts.length+1<=5000000000000):
  n.heap[p]? =w.heap[p]?/\n.heap[m]? =w.heap[m]?/\∃w3,(Instr.mapUpdate 94 (.map (some m)) (iV (k:Int)) (.slice (some (aD g2 0)) ((au S.puts k).length+1) cz)).run prog n= .ok () w3/\
   aO w3 (more F w w3) p s (S.put k l) gi ci m (D.put (kk k) (.held (.slice (some (aD g2 0)) ((au S.puts k).length+1) cz))) (λj=>if j=k then g2 else gr j) (λj=>if j=k then cz else cr j)/\aa F w w3/\w3.heap[p]? =w.heap[p]? :=by
 have C:=h.ok.hi;have bd:=ar.alloc ar.size o;have cM:∀b,some b=(Value.slice a (au S.puts k).length q).ownBlock->au S.puts k≠ []/\b=gr k:=λb e=>by
  by_cases i:au S.puts k= []
  .rw [(jF i).1] at e;simp [Value.ownBlock] at e
  .rw [(P0 i).1] at e;simp [Value.ownBlock] at e;exact⟨i,e⟩
 have d:∀b,b<w.heap.size->¬(au S.puts k≠ []/\b=gr k)->n.heap[b]? =w.heap[b]? :=λb c f=>
    (aR.block b (i5 c bd.size) (λe=>f (cM b e))).trans (bd.block b c)
 have be:∀b,au S.puts k≠ []/\b=gr k->∃cur,w.heap[b]? =some (.cells cur 22 (0,0)):=λb i=>by
  obtain⟨_,E,⟨cur,c,_⟩,_⟩:=h.di.row k i.1;exact⟨cur,by rw [i.2];exact c⟩
 have uV:=d p (h.lt p h.fp) (λf=>by
  obtain⟨cur,c⟩:=be p f;rw [h.dI] at c;simp at c)
 have B9:=d m (h.lt m h.fm) (λf=>by
  obtain⟨cur,c⟩:=be m f;exact gH h.map c rfl)
 obtain⟨w3,bD,YT,Fc⟩:=(ey h.map B9).update gk underlying94 (by unfold maxLen;omega) (lM k (by omega)) (show Rs (.slice (some (aD g2 0)) ((au S.puts k).length+1) cz)=some (.held _, []) from rfl);have B7:=h.lt m h.fm;have UW:=r.lt;have sf:=ar.size;have YU:(w1.alloc o).heap.size=w1.heap.size+1:=by simp
 have jC:=aR.size;have Fz:=Fc.size;have YV:g≠m:=by omega
 obtain⟨u,t,z,_,fy,_⟩:=ay.fe aA (by simp);cases z;have ahq:g2≠m:=λe=>by
  obtain⟨cur,c,_⟩:=fy;rw [e] at c;exact gH (ey h.map B9) c rfl
 have A3:ay w3 5 g cg (bs l):=by
  refine(r.agree ?_);rw [Fc.block g (by omega) (by simpa using YV),aR.block g (by omega) (λe=>?_),Below.heap_alloc _ _ _ UW];have:=cM g e;have:=h.lt _ (h.di.row k this.1).1;omega
 have LR:aa (λb=>b=m\/(au S.puts k≠ []/\b=gr k)) w w3:=
    ⟨Fc.os.trans (aR.os.trans bd.os),Fc.tape.trans (aR.tape.trans bd.tape),Fc.output.trans (aR.output.trans bd.output),by omega,λb c f=>
     (Fc.block b (by omega) (λe=>f (.inl (by simpa using e)))).trans (d b c (λA=>f (.inr A)))⟩
 refine⟨uV,B9,w3,bD,h.wrote x y oT LR v A3 (aA.kept Fc (.inr (by simpa [Value.ownBlock] using ahq))) ?_ YT,LR.mono (λb c=>?_),(Fc.block p (by have:=h.lt p h.fp;omega) (λe=>gH h.map h.dI (by simpa using e.symm))).trans uV⟩
 .rcases is with e|e
  .exact .inl (cM g2 e.symm)
  .exact .inr (by omega)
 .rcases c with rfl|⟨i,rfl⟩
  .exact h.fm
  .exact(h.di.row k i).1
def aO.Jj {S:DS} {m:Nat} {D:DataW Value} (h:aO w F p s S gi ci m D gr cr):
  aO (w.setCell ⟨p,5,none⟩ (.int .i64 (wrap64 (S.writes+1)))) F p s {S with writes:=wrap64 (S.writes+1)} gi ci m D gr cr:=
 h.nx (h.set 5 _).2 ((h.set 5 _).1.trans (by simp [bJ])) rfl rfl h.ok.fuse
def aO.yC {S:DS} {m:Nat} {D:DataW Value} (h:aO w F p s S gi ci m D gr cr):
  aO (if 0<S.fuse then w.setCell ⟨p,2,none⟩ (.int .i64 (wrap64 (S.fuse-1))) else w) F p s S.gq gi ci m D gr cr/\aa F w (if 0<S.fuse then w.setCell ⟨p,2,none⟩ (.int .i64 (wrap64 (S.fuse-1))) else w):=by
 have b:=h.ok.fuse;by_cases a:0<S.fuse
 .rw [aG a];have e:wrap64 (S.fuse-1)=S.fuse-1:=by unfold wrap64;omega
  refine⟨h.nx (h.set 2 _).2 ((h.set 2 _).1.trans ?_) rfl rfl ?_,aa.setCell w h.fp _⟩
  .rw [e];simp [bJ,DS.gq,a]
  .simp only [DS.gq,aG a];omega
 .rw [aB a];have e:S.gq=S:=by simp [DS.gq,a]
  rw [e];exact⟨h,aa.refl _ _⟩
def DS.wrote (S:DS):DS:={S with writes:=wrap64 (S.writes+1)}
def Ca {Bi:World} (h:w'.heap.size<=Bi.heap.size):∀k,more F w w' k->more F w Bi k:=λk a=>by
 rcases a with a|a
 .exact .inl a
 .exact .inr ⟨a.1,by omega⟩
def MX {a:World} {S:DS} {m:Nat} {D:DataW Value} (d:F p) (h:aO a (more F w a) p s S gi ci m D gr cr) (f:aa F w a):
  gS (if 0<S.fuse then a.setCell ⟨p,2,none⟩ (.int .i64 (wrap64 (S.fuse-1))) else a) (more F w (if 0<S.fuse then a.setCell ⟨p,2,none⟩ (.int .i64 (wrap64 (S.fuse-1))) else a)) p s S.gq m/\
   aa F w (if 0<S.fuse then a.setCell ⟨p,2,none⟩ (.int .i64 (wrap64 (S.fuse-1))) else a):=by
 obtain⟨c,_⟩:=h.yC;have eE:(if 0<S.fuse then a.setCell ⟨p,2,none⟩ (.int .i64 (wrap64 (S.fuse-1))) else a).heap.size=a.heap.size:=by split <;> simp [World.setCell]
 have aY:aa (λk=>k=p) a (if 0<S.fuse then a.setCell ⟨p,2,none⟩ (.int .i64 (wrap64 (S.fuse-1))) else a):=by
  split
  .exact aa.setCell (F:=λk=>k=p) a (p:=(aD p 2)) rfl _
  .exact aa.refl _ _
 refine⟨gS.mono ⟨gi,ci,D,gr,cr,c⟩ (Ca (Nat.le_of_eq eE.symm)) (λk Bj=>?_),f.trans aY (λj e=> .inl (e▸d))⟩;rw [eE];rcases Bj with b|b
 .exact h.lt k (.inl b)
 .rw [eE] at b;exact b.2
set_option maxRecDepth 100000 in
def Cb {S:DS} {m:Nat} (hd:gS w F p s S m) (k:Nat) (z:k<s) (H:S.fuse≠0) (aU:S.puts.length+1<=5000000000000)
    (x:Addr) (c:Nat) (l:List Int) (fS:Src w (some x) 512 l):
  Calls prog 40 #[pQ p,iV (k:Int), .slice (some x) 512 c] w λe w'=>e= .returned (iV 0)/\gS w' (more F w w') p s ((S.put k l).wrote.gq) m/\aa F w w':=by
 have v:=iu hd.at;rw [show (S.fuse == 0)=false by simp [H]] at v;obtain⟨R,E,D,T,O,h⟩:=hd;have U:=h.ok.hi;have y:=tu p _ (s*512) E k w (by omega) (aM h.dI);rw [show s*512 / 512=s by omega,show (decide (0<=(k:Int)) && decide ((k:Int)<(s:Int)))=true by simp;omega] at y;obtain⟨a,C,xs,gU,acp,oT,jF,P0⟩:=h.PY z;obtain⟨M,rH,gB,dC,eu⟩:=info_parts tt;have py:=h.lt p h.fp;have B7:=h.lt m h.fm;have nA:=lT S.puts k;have db:∀wx:World,wx.heap[p]? =w.heap[p]?->wx.cell? (aD p 1)=some (.map (some m)):=λwx e=>bG (e.trans h.dI);have j5:=fS.1;have vX:=gU w.drew rfl;go_in;go_wp2_with (first|(go_at_call 34;refine v.mono ?_;rintro e w' ⟨rfl,r⟩;have eM:=r.symm;subst eM)|(go_at_call 100;refine y.mono ?_;rintro e w' ⟨rfl,r⟩;have eM:=r.symm;subst eM));go_region_held3 (λw'=>w'.cell? (aD p 1)=some (.map (some m)))
    ((refine db _ ?_;first|rfl|assumption|(refine(Below.heap_alloc _ _ _ (i5 ?_ ar.size)).trans ?_ <;> assumption)))
  (first
   |(go_at_call 90;refine(qJ x 512 c l w.drew j5 (by omega) (λi J=>fS.2.2 _ rfl i J)).mono ?_;rintro e w1 ⟨g,u,rfl,I,L,fO⟩;have ar:bW w w1:=⟨fO.os,fO.tape,fO.output,fO.size,fO.block⟩;clear fO;have o9:w1.heap[p]? =w.heap[p]? :=ar.block p py;have Jk:w1.heap[m]? =w.heap[m]? :=ar.block m B7;have cq:=gU w1 Jk;have fH:=λo=>gU (w1.alloc o) ((Below.heap_alloc w1 o m (i5 B7 ar.size)).trans Jk))
   |(refine step_append_lies _ (by rfl) _ _ _ (by rfl) 0 22 M _ 1 24 underlying79 rH gB dC eu rfl (by omega) (.slice a (au S.puts k).length C) (au S.puts k).length xs (by rfl) (acp _ (λA=>(Below.heap_alloc w1 _ _ (i5 (h.lt _ (h.di.row k A).1) ar.size)).trans (ar.block _ (h.lt _ (h.di.row k A).1))))
       (aD w1.heap.size 0) 1 1 [.slice (some (aD g 0)) 512 u] (by rfl) (by rfl) (World.news_of_block (cs:= #[.slice (some (aD g 0)) 512 u]) (t:=22) (fr:=(0,0)) (heap_alloc_new w1 _)) (by simp [Value.oneCell']) (by omega) (by unfold maxLen;omega) (by omega) (dV _) (w1.heap.size+1) (by simp) ?_;intro Q cz W fN j6 uW tz;obtain⟨uV,B9,f,LT,d,aZ,P5⟩:=MW h z j5 oT jF P0 ar I L fN j6 uW aU))
 all_goals
  obtain⟨n,N,P,b⟩:=cO h.fp (sb d.dI) (ae d.dI 5) d.Jj;have dW:aa F w (f.setCell ⟨p,5,none⟩ (.int .i64 (wrap64 ((S.put k l).writes+1)))):=aZ.trans (aa.setCell (F:=λk=>k=p) f (p:=(aD p 5)) rfl _) (λj K=> .inl (K▸n));have q:=B5 p (S.put k l).fuse _ (bK b.dI) (ae b.dI 2) b.ok.fuse.1;have eE:(f.setCell ⟨p,5,none⟩ (.int .i64 (wrap64 ((S.put k l).writes+1)))).heap.size=f.heap.size:=by simp [World.setCell]
  have G:more F w (f.setCell ⟨p,5,none⟩ (.int .i64 (wrap64 ((S.put k l).writes+1))))=more F w f:=by unfold more;rw [eE]
  rw [<-G] at b;have bo:Calls prog 102 #[pQ p] (f.setCell ⟨p,5,none⟩ (.int .i64 (wrap64 ((S.put k l).writes+1)))) λe w'=>e= .returned (.tuple #[])/\gS w' (more F w w') p s ((S.put k l).wrote.gq) m/\aa F w w':=
   q.mono (by rintro e w' ⟨rfl,rfl⟩;exact⟨rfl,MX n b dW⟩)
  go_wp2_with (go_at_call 102;refine bo.mono ?_;rintro e w5 ⟨rfl,jG,dX⟩);go_ret;exact⟨rfl,jG,dX⟩
def P6 {S:DS} (hd:aQ w F p s S) (k:Nat) (g:k<s) (f:S.fuse≠0) (aU:S.puts.length+1<=5000000000000)
    (x:Addr) (c:Nat) (l:List Int) (fS:Src w (some x) 512 l):
  Calls prog 40 #[pQ p,iV (k:Int), .slice (some x) 512 c] w λe w'=>e= .returned (iV 0)/\aQ w' (more F w w') p s ((S.put k l).wrote.gq)/\aa F w w':=by
 obtain⟨m,hd⟩:=hd.m;refine(Cb hd k g f aU x c l fS).mono ?_;rintro e w' ⟨a,b,d⟩;exact⟨a,b.at,d⟩
def pC (s:Nat) (f:Nat->List Int):List Int:=(List.range s).flatMap f
def Cc (s:Nat) (f:Nat->List Int):pC (s+1) f=pC s f ++ f s:=by simp [pC,List.range_succ]
def pD (s:Nat) (f:Nat->List Int) (h:∀k,k<s->(f k).length=512):(pC s f).length=s*512:=by
 induction s with
 |zero=>simp [pC]
 |succ s a=>rw [Cc,ed,a (λk b=>h k (by omega)),h s (by omega)];omega
def P7 (h:im.length=s*512) (a:k<s):(bL im k).length=512:=by simp [bL];omega
def Ds (a b:List Int) (c:a.length=s*512) (d:k<s):bL (a ++ b) k=bL a k:=by
 unfold bL;rw [List.drop_append_of_le_length (by omega),List.take_append_of_le_length (by simp;omega)]
def Bk (a b:List Int) (c:a.length=s*512) (d:b.length=512):bL (a ++ b) s=b:=by
 unfold bL;rw [<-c,List.drop_left,nr (by omega)]
def nB (s:Nat) (f:Nat->List Int) (h:∀k,k<s->(f k).length=512) (k:Nat) (a:k<s):bL (pC s f) k=f k:=by
 induction s with
 |zero=>omega
 |succ s c=>
  have b:=pD s f (λk a=>h k (by omega));rw [Cc];by_cases e:k=s
  .subst e;exact Bk _ _ b (h k (by omega))
  .rw [Ds _ _ b (by omega)];exact c (λk a=>h k (by omega)) (by omega)
def Dt:∀(s:Nat) {a b:List Int},a.length=s*512->b.length=s*512->(∀k,k<s->bL a k=bL b k)->a=b
 |0,a,b,ha,hb,_=>by
  rw [List.eq_nil_of_length_eq_zero (by omega:a.length=0),List.eq_nil_of_length_eq_zero (by omega:b.length=0)]
 |s+1,a,b,ha,hb,h=>by
  have h0:=h 0 (by omega);simp [bL] at h0;have c:=Dt s (a:=a.drop 512) (b:=b.drop 512) (by simp;omega) (by simp;omega) (λk d=>by
   have:=h (k+1) (by omega);simp only [bL,List.drop_drop] at this⊢;rw [show 512+k*512=(k+1)*512 by omega];exact this)
  rw [<-List.take_append_drop 512 a,<-List.take_append_drop 512 b,h0,c]
def jn (L:List α) (o:Nat) (cs:List α) (h:o+cs.length<=L.length):(splice L o cs).length=L.length:=by simp [splice];omega
def Cd (im l:List Int) (o:Nat):splice (bs im) o (bs l)=bs (splice im o l):=by simp [splice,bs]
def ix (L:List Int) (o:Nat) (cs:List Int) (h:o+cs.length<=L.length) (i:Nat):(splice L o cs)[i]? =if o<=i/\i<o+cs.length then cs[i-o]? else L[i]? :=by
 unfold splice;by_cases a:i<o
 .rw [List.getElem?_append_left (by simp;omega),List.getElem?_take,aG a,aB (by omega)]
 .rw [List.getElem?_append_right (by simp;omega)];have e:(L.take o).length=o:=by simp;omega
  rw [e];by_cases b:i<o+cs.length
  .rw [List.getElem?_append_left (by omega),aG ⟨by omega,b⟩]
  .rw [List.getElem?_append_right (by omega),List.getElem?_drop,aB (by omega)];congr 1;omega
def mn (im:List Int) (k i:Nat):(bL im k)[i]? =if i<512 then im[k*512+i]? else none:=by
 unfold bL;rw [List.getElem?_take];split
 .rw [List.getElem?_drop]
 .rfl
def sh (YW:im.length=s*512) (c:l.length=512) (b:k<s):bL (splice im (k*512) l) j=if j=k then l else bL im j:=by
 apply List.ext_getElem?;intro i;rw [mn];by_cases a:i<512
 .rw [aG a,ix _ _ _ (by omega)];by_cases e:j=k
  .subst e;rw [aG (by omega),aG rfl];congr 1;omega
  .rw [aB (by omega),aB e,mn,aG a]
 .rw [aB a];split
  .rw [List.getElem?_eq_none (by omega)]
  .rw [mn,aB a]
def FA (L:List α) (o n:Nat) (cs:List α) (h:o+cs.length<=n) (b:n<=L.length):(splice L o cs).take n=splice (L.take n) o cs:=by
 have a:(L.take o).length=o:=by rw [List.length_take];omega
 unfold splice;rw [List.take_append,List.take_append,a,nr (l:=L.take o) (by omega),nr (l:=cs) (by omega),List.drop_take,List.take_take,Nat.min_eq_left (by omega:o<=n),Nat.sub_sub]
def ay.copied (h:ay w 5 g c (bs im)) (n:TypeId) (i:Option Addr) (d ib Bf:Nat) (a:Option Addr) (j4 Bg:Nat) (l:List Int) (t:Src w a j4 l)
    (hd:0<ib->i=some (aD g d)) (Fr:d+ib<=im.length):
  ∃f,(Builtin.copy_ #[22,22] n #[.slice i ib Bf, .slice a j4 Bg]).run prog w= .ok (goInt (Nat.min j4 ib)) f/\
   ay f 5 g c (bs (splice im d (l.take ib)))/\aa (λk=>k=g) w f/\f.heap.size=w.heap.size:=by
 have j:=h.le;obtain⟨cur,o,p,m,s⟩:=h;have b:(bs im).length=im.length:=by simp [bs]
 rw [b] at j m;obtain⟨f,bD,q,r,eE⟩:=yv w n i g d ib Bf a j4 Bg cur.toList l (by simpa using o) t hd (by simp;omega);have fH:(bs (l.take ib)).length<=ib:=by simp [bs];omega
 have Bl:(bs (l.take ib)).length=(l.take ib).length:=by simp [bs]
 refine⟨f,bD,⟨_,q,?_,?_,s⟩,r,eE⟩
 .rw [List.size_toArray,jn _ _ _ (by simp only [Array.length_toList];omega)];simpa using p
 .have e:(bs (splice im d (l.take ib))).length=im.length:=by
   rw [<-Cd,jn _ _ _ (by rw [b];omega),b]
  rw [e,List.toList_toArray,FA _ _ _ _ (by omega) (by simp;omega),m,Cd]
section
open Go.ChangeMaps (setBlock heap_setBlock_same heap_setBlock_other)
def Ce {m:Nat} {D:DataW Value} (h:w.ownsMap prog 3 Rs m n D):
  ∃w',(∀c,(Builtin.clear_ #[94] c #[.map (some m)]).run prog w= .ok (.tuple #[]) w')/\w'.ownsMap prog 3 Rs m 0 (.map [])/\aa (λk=>k=m) w w'/\w'.heap.size=w.heap.size:=by
 obtain⟨e,a,b,F,_,_⟩:=h;refine⟨setBlock w m (.map #[] a),?_,⟨#[],a,heap_setBlock_same b _,⟨by simp,?_,by simp⟩,by simp,by simp⟩,⟨rfl,rfl,rfl,by simp [setBlock],λk _ d=>heap_setBlock_other b _ d⟩,by simp [setBlock]⟩
 .intro c;simp [Builtin.clear_,go_sem,MapKept.run_getObj_map b,MapKept.run_setObj_map _ b,setBlock]
 .exact MapKept.stamped_empty _
def aO.qK {S:DS} {m:Nat} {D:DataW Value} (h:aO w F p s S gi ci m D gr cr) (i:w'.ownsMap prog 3 Rs m 0 (.map [])) (d:aa (λk=>k=m) w w'):
  aO w' F p s {S with puts:= []} gi ci m (.map []) gr cr:=by
 have dM:∀(b:Nat) (cur:Array Value) (e:TypeId) (c:Nat×Nat),w.heap[b]? =some (Obj.cells cur e c)->w'.heap[b]? =w.heap[b]? :=λb cur e c a=>
  d.block b (lR.1 a).1 (λf=>gH h.map (f▸a) rfl)
 refine⟨h.fp,h.Ua,h.fm,λk g=>i5 (h.lt k g) d.size,(dM p _ _ _ h.dI).trans h.dI,?_,i,ic.empty _ _ _ _ _,⟨h.ok.len,h.ok.lo,h.ok.hi,by simp,h.ok.fuse⟩⟩;obtain⟨cur,a,_⟩:=h.Jg;exact h.Jg.agree (dM gi _ _ _ a)
def aO.agree {S:DS} {m:Nat} {D:DataW Value} (h:aO w F p s S gi ci m D gr cr) (c:w.heap.size<=w'.heap.size) (a:∀k,F k->w'.heap[k]? =w.heap[k]?):
  aO w' F p s S gi ci m D gr cr:=
   ⟨h.fp,h.Ua,h.fm,λk b=>i5 (h.lt k b) c,(a p h.fp).trans h.dI,h.Jg.agree (a gi h.Ua),ey h.map (a m h.fm),h.di.agree a,h.ok⟩
def aO.Xo {S:DS} {m:Nat} {D:DataW Value} (h:aO w F p s S gi ci m D gr cr):
  aO (w.setCell ⟨p,6,none⟩ (.int .i64 (wrap64 (S.flushes+1)))) F p s {S with flushes:=wrap64 (S.flushes+1)} gi ci m D gr cr:=
 h.nx (h.set 6 _).2 ((h.set 6 _).1.trans (by simp [bJ])) rfl rfl h.ok.fuse
def aO.P8 {S:DS} {m:Nat} {D:DataW Value} (h:aO w F p s S gi ci m D gr cr) (a:ay w' 5 gi ci (bs im)) (i:im.length=s*512) (b:aa (λk=>k=gi) w w'):
  aO w' F p s {S with im:=im} gi ci m D gr cr:=by
 obtain⟨cur,d,_⟩:=h.Jg;refine⟨h.fp,h.Ua,h.fm,λk f=>i5 (h.lt k f) b.size,(b.block p (h.lt p h.fp) (λe=>(h.Jg.ne h.dI (by decide)) e.symm)).trans h.dI,a,ey h.map (b.block m (h.lt m h.fm) (gH h.map d)),
  h.di.carry (λg c xs _ dM a=>a.agree (b.block g a.lt dM)) (λg c xs _ a=>a.other b d (by decide)),⟨i,h.ok.lo,h.ok.hi,h.ok.puts,h.ok.fuse⟩⟩
end
def DS.flush (S:DS) (s:Nat):DS:={S with im:=pC s S.now,puts:= [],flushes:=wrap64 (S.flushes+1)}
def LF {S:DS} (h:aQ w F p s S) (b:S.fuse=0):
  Calls prog 41 #[pQ p] w λe w'=>e= .returned (iV 3)/\w'=w:=by
 have a:=iu h;rw [b] at a;go_in;go_wp2_with (go_at_call 34;refine a.mono ?_;rintro e w' ⟨rfl,rfl⟩);go_ret;exact⟨rfl,rfl⟩
def LH {S:DS} {m:Nat} {D:DataW Value} (h:aO w F p s S gi ci m D gr cr) (e:au S.puts k≠ []):
  k<s/\∃g cg,w.cell? ⟨gr k,(au S.puts k).length-1,none⟩=some (.slice (some (aD g 0)) 512 cg)/\
   ∃a,(Builtin.copy_ #[22,22] 3 #[.slice (some ⟨gi,k*512,none⟩) 512 512, .slice (some (aD g 0)) 512 cg]).run prog w= .ok (goInt 512) a/\
    aO a F p s {S with im:=splice S.im (k*512) (S.now k)} gi ci m D gr cr/\aa (λb=>b=gi) w a/\a.heap.size=w.heap.size:=by
 have ew:k<s:=by
  obtain⟨l,d⟩:=List.exists_mem_of_ne_nil _ e;unfold au at d;obtain⟨q,f,_⟩:=List.mem_map.1 d;obtain⟨iM,qL⟩:=List.mem_filter.1 f;have:=(h.ok.puts q iM).1;simp at qL;omega
 have r:=List.length_pos_iff.2 e;obtain⟨_,xs,be,oT⟩:=h.di.row k e;obtain⟨g,cg,n,o,dM,i⟩:=oT.get ((au S.puts k).length-1) (by omega);have d:=yB h.ok (k:=k) (j:=(au S.puts k).length-1) (by omega);have MY:S.now k=(au S.puts k)[(au S.puts k).length-1]:=by
  simp [DS.now,DS.gL,List.getD,show¬(au S.puts k).length=0 by omega,List.getElem?_eq_getElem (show (au S.puts k).length-1<(au S.puts k).length by omega)]
 have fS:=i.src;rw [d] at fS;have c:=h.ok.len;obtain⟨a,bD,fy,aY,eE⟩:=h.Jg.copied 3 (some ⟨gi,k*512,none⟩) (k*512) 512 512 (some (aD g 0)) 512 cg _ fS (λ_=>rfl) (by omega);rw [nr (by omega),<-MY] at fy;exact⟨ew,g,cg,be.cell n,a,bD,h.P8 fy (by rw [jn _ _ _ (by rw [MY];omega)];exact c) aY,aY,eE⟩
def YX (S:DS) (im:List Int) (k:Nat) (a:au S.puts k≠ []):DS.now {S with im:=im} k=S.now k:=by
 have b:=List.length_pos_iff.2 a;simp [DS.now,DS.gL,show¬(au S.puts k).length=0 by omega]
def tA (S:DS) (k:Nat) (a:au S.puts k= []):S.now k=bL S.im k:=by simp [DS.now,DS.gL,a]
def bu {S:DS} (h:S.Ok s):∀k,k<s->(S.now k).length=512:=λ_ a=>DS.nz h a (bS _)
def Pg {wr:World} {S:DS} {m:Nat} {D:DataW Value} (h:aO w F p s S gi ci m D gr cr) (hd:aO wr F p s {S with im:=im} gi ci m D gr cr)
    (g:∀k,k<s->bL im k=S.now k) (d:aa F w wr) (Cf:w3.ownsMap prog 3 Rs m 0 (.map [])) (aZ:aa (λk=>k=m) wr w3):
  w3.cell? (aD p 6)=some (iV S.flushes)/\w3.frozen? (aD p 6)=false/\
  Calls prog 102 #[pQ p] (w3.setCell ⟨p,6,none⟩ (.int .i64 (wrap64 (S.flushes+1)))) λe w'=>e= .returned (.tuple #[])/\aQ w' F p s ((S.flush s).gq)/\aa F w w':=by
 have e:im=pC s S.now:=Dt s hd.ok.len (pD s _ (bu h.ok)) (λk d=>by
  rw [g k d,nB s _ (bu h.ok) k d])
 subst e;have b:=hd.qK Cf aZ;have a:=b.Xo;have dW:aa F w (w3.setCell ⟨p,6,none⟩ (.int .i64 (wrap64 (S.flushes+1)))):=(d.trans aZ (λj c=> .inl (c▸h.fm))).trans (aa.setCell (F:=λk=>k=p) w3 (p:=(aD p 6)) rfl _) (λj c=> .inl (c▸h.fp));refine⟨wZ b.dI,ae b.dI 6,(B5 p S.fuse _ (bK a.dI) (ae a.dI 2) a.ok.fuse.1).mono ?_⟩;rintro e w' ⟨rfl,rfl⟩;have f:=a.yC;exact⟨rfl,⟨gi,ci,m,_,gr,cr,f.1⟩,dW.trans f.2 (λj c=> .inl c)⟩
set_option maxRecDepth 100000 in
def Ub {S:DS} (hd:aQ w F p s S) (P:S.fuse≠0) (aU:S.puts.length+1<=5000000000000):
  Calls prog 41 #[pQ p] w λe w'=>e= .returned (iV 0)/\aQ w' F p s ((S.flush s).gq)/\aa F w w':=by
 have J:=iu hd;rw [show (S.fuse == 0)=false by simp [P]] at J;obtain⟨o,v,m,D,f,I,h⟩:=hd;have K:=bG h.dI;have H:=h;go_in;go_wp2_with (first|(go_at_call 34;refine J.mono ?_;rintro e w' ⟨rfl,U⟩;have eM:=U.symm;subst eM)|(at_range;refine wpList_range_own _ rfl _ 94 rfl 3 79 gk underlying94 Rs m S.puts.length D rfl H.map ?_;intro w0 pz uP yy;go_frame));have xM:aa F w w0:=⟨uP.os,uP.tape,uP.output,uP.size,λk i _=>uP.block k i (by simp)⟩;have xn:=H.agree uP.size (λk i=>uP.block k (H.lt k i) (by simp));have vX:∀k,k<s->bL S.im k=if has D (kk k) then bL S.im k else S.now k:=λk _=>by
  by_cases l:au S.puts k= []
  .rw [H.di.Fu k l];simp [tA S k l]
  .rw [H.di.has l];simp
 go_loopw [3,4] (λ_ _ wr=>∃(left:Lit->Bool) (el:Nat) (im:List Int),wr.ranges prog 3 Rs m w.heap.size S.puts.length D left el/\aO wr F p s {S with im:=im} o v m D f I/\
     (∀k,k<s->bL im k=if left (kk k) then bL S.im k else S.now k)/\aa F w wr)
    (λ_ _ wr=>wr.rangeLeft m w.heap.size)
 case atStart=>exact⟨_,_,S.im,pz,xn,vX,xM⟩
 case round=>
  obtain⟨left,el,im,mN,hd,R,i⟩:=hrel;have n:=hd;have E:=R;go_wp2_with (at_next;refine wpList_next_ranges _ rfl _ rfl 3 gk Rs (Value.int .i64) MT (λW X gT=>by obtain⟨x,rfl,_⟩:=Maps.keyOf_int_inv underlying3 gT;exact⟨x,rfl⟩) se m w.heap.size S.puts.length _ _ _ rfl mN ?_ ?_)
  .intro _ vX;obtain⟨C,LT,Cf,aZ,_⟩:=Ce n.map;have K:=bG n.dI;obtain⟨Y,Z,bo⟩:=Pg H n (λk i=>by rw [E k i,vX];simp) i Cf aZ;go_wp2_with (go_at_call 102;refine bo.mono ?_;rintro e w5 ⟨rfl,jG,dX⟩);go_ret;exact⟨rfl,jG,dX⟩
  .intro x ca M L X yd yp r pA gT A2 T is o8 bq fZ bo IR;obtain⟨k,rfl,rfl,A,N⟩:=n.di.met gT T is;have l:au S.puts k≠ []:=A;obtain⟨d,Bm⟩:∃d,(au S.puts k).length=d+1:=⟨(au S.puts k).length-1,by have:=List.length_pos_iff.2 l;omega⟩;have ahr:∀j,F j->j≠w.heap.size:=λj c e=>by have:=H.lt j c;omega
   have cI:aO r.drew F p s {S with im:=im} o v m D f I:=n.agree fZ.size (λj c=>fZ.block j (n.lt j c) (by simpa using ahr j c));obtain⟨ew,g,u,db,C,bD,t,aZ,Fz⟩:=LH cI l;have ahs:=cI.Jg.le;have y:=pp p o (s*512) v s k k r.drew (aM cI.dI) rfl ew rfl cI.ok.hi (by simp [bs,cI.ok.len] at ahs;omega);obtain⟨rfl,rfl,rfl⟩:ca=_/\M=_/\L=_:=(by simpa using N);simp only [Bm] at IR db;have P9:r.cell? ⟨f k,d,none⟩=some (.slice (some (aD g 0)) 512 u):=(by simpa using db);have mO:d+1<=S.puts.length:=(by rw [<-Bm];exact lT S.puts k);have bF:C.cell? ⟨f k,d,none⟩=some (.slice (some (aD g 0)) 512 u):=by
    obtain⟨xs,be,_⟩:=(cI.di.row k l).2;obtain⟨cur,q,_⟩:=cI.Jg;exact(World.cell?_of_block (w:=r.drew) (a:=⟨f k,d,none⟩) (aZ.block (f k) be.lt (be.ne q (by decide)))).trans P9
   rw [(YX S im k l)] at t;have ip:∀j,j<s->bL (splice im (k*512) (S.now k)) j=if (left (kk j) && !(kk j).sameKey (kk k)) then bL S.im j else S.now j:=λj c=>by
    rw [sh n.ok.len (bu H.ok k ew) ew,lB];by_cases e:j=k
    .subst e;simp
    .rw [aB e,E j c];simp [e]
   have Q:=H.lt o H.Ua;have Fc:r.grownBy C (some o):=⟨aZ.os,aZ.tape,aZ.output,aZ.size,λj c dM=>aZ.block j c (λe=>dM (by rw [e]))⟩;have z:m≠o:=by
    obtain⟨cur,q,_⟩:=H.Jg;exact gH H.map q
   have Jl:=o8.kept Fc (by simpa using z) (by simp;omega);have FB:=Jl;have O:r.drew.cell? ⟨f k,d,none⟩=some (.slice (some (aD g 0)) 512 u):=P9
   dsimp only [MT] at IR⊢
   have rH:(0:Int)<=(d:Int):=(by omega);have Xs:(d:Int)<(d:Int)+1:=(by omega);have Fd:IntKind.i64.wrap (d:Int)=(d:Int):=(by rw [IntKind.wrap_i64];omega);go_wp2_with fail;go_region_held3 (λw'=>w'.cell? ⟨f k,d,none⟩=some (.slice (some (aD g 0)) 512 u)) (assumption) (first|(go_at_call 103;refine y.mono ?_;rintro e w' ⟨rfl,rfl⟩));all_goals
    go_wp2;go_roundw;case rel=>exact⟨_,pA,_,FB,t,ip,(i.trans (G:=λj=>j=w.heap.size) ⟨fZ.os,fZ.tape,fZ.output,fZ.size,λj c dM=>fZ.block j c (by simpa using dM)⟩ (λj c=> .inr (by omega))).trans (b:=r) (G:=λj=>j=o) ⟨aZ.os,aZ.tape,aZ.output,aZ.size,aZ.block⟩ (λj c=> .inl (c▸H.Ua))⟩
    case measure=>rw [FB.left_eq,mN.left_eq];exact bq
def Jm {S:DS} (h:aQ w F p s S) (b:Int) (a:Option Addr) (n c:Nat) (f:S.fuse=0):
  Calls prog 40 #[pQ p,iV b, .slice a n c] w λe w'=>e= .returned (iV 3)/\w'=w:=by
 have d:=iu h;rw [f] at d;go_in;go_wp2_with (go_at_call 34;refine d.mono ?_;rintro e w' ⟨rfl,rfl⟩);go_ret;exact⟨rfl,rfl⟩
def FD {S:DS} (h:aQ w F p s S) (a:Int) (i:Option Addr) (n c:Nat) (o:S.fuse≠0) (r:a<0\/(s:Int)<=a):
  Calls prog 40 #[pQ p,iV a, .slice i n c] w λe w'=>e= .returned (iV 11)/\aQ w' F p s S.refuse/\aa F w w':=by
 have f:=iu h;rw [show (S.fuse == 0)=false by simp [o]] at f;obtain⟨k,d,m,D,l,j,h⟩:=h;have t:=h.ok.hi;have g:=tu p _ (s*512) d a w (by omega) (aM h.dI);rw [show s*512 / 512=s by omega,show (decide (0<=a) && decide (a<(s:Int)))=false by simp;omega] at g;have fy:Calls prog 101 #[pQ p,iV 11] w λe w'=>e= .returned (iV 11)/\aQ w' F p s S.refuse/\aa F w w':=
    (sd p S.refused 11 w (rt h.dI) (ae h.dI 7)).mono (by rintro e w' ⟨rfl,rfl⟩;exact⟨rfl,⟨k,d,m,D,l,j,h.refused⟩,aa.setCell w h.fp _⟩)
 go_in;go_wp2_with (first|(go_at_call 34;refine f.mono ?_;rintro e w' ⟨rfl,b⟩;have eM:=b.symm;subst eM)|(go_at_call 100;refine g.mono ?_;rintro e w' ⟨rfl,b⟩;have eM:=b.symm;subst eM)|(go_at_call 101;refine fy.mono ?_;rintro e w' ⟨rfl,hd,q⟩));go_ret;exact⟨rfl,hd,q⟩
def Du {S:DS} (h:aQ w F p s S) (k:Nat) (i:Option Addr) (n c:Nat) (q:S.fuse≠0) (g:k<s) (r:n≠512):
  Calls prog 40 #[pQ p,iV (k:Int), .slice i n c] w λe w'=>e= .returned (iV 2)/\aQ w' F p s S.refuse/\aa F w w':=by
 have d:=iu h;rw [show (S.fuse == 0)=false by simp [q]] at d;obtain⟨l,b,m,D,o,j,h⟩:=h;have t:=h.ok.hi;have f:=tu p _ (s*512) b k w (by omega) (aM h.dI);rw [show s*512 / 512=s by omega,show (decide (0<=(k:Int)) && decide ((k:Int)<(s:Int)))=true by simp;omega] at f;have fy:Calls prog 101 #[pQ p,iV 2] w λe w'=>e= .returned (iV 2)/\aQ w' F p s S.refuse/\aa F w w':=
    (sd p S.refused 2 w (rt h.dI) (ae h.dI 7)).mono (by rintro e w' ⟨rfl,rfl⟩;exact⟨rfl,⟨l,b,m,D,o,j,h.refused⟩,aa.setCell w h.fp _⟩)
 have dM:((n:Int) != 512)=true:=by rw [gA];omega
 go_in;go_wp2_with (first|(go_at_call 34;refine d.mono ?_;rintro e w' ⟨rfl,a⟩;have eM:=a.symm;subst eM)|(go_at_call 100;refine f.mono ?_;rintro e w' ⟨rfl,a⟩;have eM:=a.symm;subst eM)|(go_at_call 101;refine fy.mono ?_;rintro e w' ⟨rfl,hd,g⟩));go_ret;exact⟨rfl,hd,g⟩
def DS.lay (S:DS) (calls:Int):DS:=if S.fuse=0 then S else {S with fuse:=max calls (-1)}
def DS.take (S:DS):DS:={S with life:=wrap64 (S.life+1)}
def Xp {S:DS} (h:aQ w F p s S) (a:Int) (i:a<=9223372036854775807):
  Calls prog 21 #[pQ p,iV a] w λe w'=>e= .returned (.tuple #[])/\aQ w' F p s (S.lay a)/\aa F w w':=by
 obtain⟨d,b,m,D,f,c,h⟩:=h;refine(T9 p S.fuse a w (bK h.dI) (ae h.dI 2)).mono ?_;rintro e w' ⟨rfl,rfl⟩;by_cases g:S.fuse=0
 .simp only [g,if_true,DS.lay];exact⟨trivial,⟨d,b,m,D,f,c,h⟩,aa.refl _ _⟩
 .simp only [g,if_false,DS.lay];exact⟨trivial,⟨d,b,m,D,f,c,h.nx (h.set 2 _).2 ((h.set 2 _).1.trans (by simp [bJ])) rfl rfl (by simp only;omega)⟩,aa.setCell w h.fp _⟩
def U2 {S:DS} (h:aQ w F p s S):
  Calls prog 37 #[pQ p] w λe w'=>e= .returned (iV (wrap64 (S.life+1)))/\aQ w' F p s S.take/\aa F w w':=by
 obtain⟨c,a,m,D,d,b,h⟩:=h;refine(PO p S.life w (fQ h.dI) (ae h.dI 3)).mono ?_;rintro e w' ⟨rfl,rfl⟩;exact⟨rfl,⟨c,a,m,D,d,b,h.nx (h.set 3 _).2 ((h.set 3 _).1.trans (by simp [bJ,DS.take])) rfl rfl h.ok.fuse⟩,aa.setCell w h.fp _⟩
def jo (S:DS) (k:Nat) (A B C:Nat):List Int:=
   (S.gL k (A%((au S.puts k).length+1))).take (C%513) ++ (S.gL k (B%((au S.puts k).length+1))).drop (C%513)
def FE {S:DS} {m:Nat} {D:DataW Value} (h:aO w F p s S gi ci m D gr cr) (k:Nat) (f:k<s) (j:Nat) (b:Int) (a:b=(j:Int)) (d:j<=(au S.puts k).length) (aU:S.puts.length<=140737488355328):
  Calls prog 123 #[pQ p,iV (k:Int),iV b] w λe w'=>∃g o c,e= .returned (.slice (some (aD g o)) 512 c)/\F g/\512<=c/\(g=gi->o=k*512/\S.gL k j=bL S.im k)/\Src w (some (aD g o)) 512 (S.gL k j)/\w'=w:=by
 subst a;exact Fx h k f j d aU
def Dv (x:Int) (y:Nat) (h:max x 0=(y:Int)) (w:World):(Builtin.max_ #[3,3] 3 #[iV x,iV 0]).run prog w= .ok (iV (y:Int)) w:=by
 rw [<-h];by_cases a:x<0
 .simp [Builtin.max_,Builtin.max2,a,show max x 0=0 by omega]
 .simp [Builtin.max_,Builtin.max2,a,show max x 0=x by omega]
def Src.front (h:Src w (some x) n l) (c:j<=n):Src w (some x) j (l.take j):=by
 have d:=h.1;refine⟨by rw [List.length_take];omega,(λh=>by cases h),λy b i a=>?_⟩;rw [h.2.2 y b i (by omega)];simp [List.getD,a]
def Jn (im b lb:List Int) (o a n:Nat) (l:a<=n) (Jo:b.length=n) (Bl:lb.length=n) (k:o+n<=im.length):
  splice (splice im o (b.take a)) (o+a) (lb.drop a)=splice im o (b.take a ++ lb.drop a):=by
 have c:(b.take a).length=a:=by rw [List.length_take];omega
 have d:(lb.drop a).length=n-a:=by rw [List.length_drop];omega
 have e:(b.take a ++ lb.drop a).length=n:=by rw [ed,c,d];omega
 have f:(splice im o (b.take a)).length=im.length:=jn _ _ _ (by omega);apply List.ext_getElem?;intro i;rw [ix _ _ _ (by omega),ix _ _ _ (by omega),ix _ _ _ (by omega),c,d,e];by_cases g:o<=i/\i<o+a
 .rw [aB (by omega),aG (by omega),aG (by omega),List.getElem?_append_left (by omega)]
 .by_cases j:o+a<=i/\i<o+n
  .rw [aG (by omega),aG (by omega),List.getElem?_append_right (by omega),c,show i-(o+a)=i-o-a by omega]
  .rw [aB (by omega),aB (by omega),aB (by omega)]
def FF (im b:List Int) (k a i:Nat) (Jo:(b.take a).length=a) (d:k*512+a<=im.length) (c:a+i<512):
    (splice im (k*512) (b.take a)).getD (k*512+(a+i)) 0=(bL im k).getD (a+i) 0:=by
 rw [List.getD,List.getD,ix _ _ _ (by omega),aB (by omega),mn,aG c]
def Qa {S:DS} {m:Nat} {D:DataW Value} (h:aO w F p s S gi ci m D gr cr) (M:k<s) {c:Nat} (Bo:c<=512) {o lb:List Int}
  {z C ca n u:Nat} (U3:Src w (some (aD z C)) 512 o) (si:Src w (some (aD n u)) 512 lb) (Cg:n=gi->u=k*512/\lb=bL S.im k):
  ∃d,(Builtin.copy_ #[22,22] 3 #[.slice (some ⟨gi,k*512,none⟩) c 512, .slice (some (aD z C)) c ca]).run prog w= .ok (goInt (Nat.min c c)) d/\d.heap.size=w.heap.size/\
     (∀r q v x,(c<512->r=some ⟨gi,k*512+c,none⟩/\q=some ⟨n,u+c,none⟩)->
    ∃w3,(Builtin.copy_ #[22,22] 3 #[.slice r (512-c) v, .slice q (512-c) x]).run prog d.drew= .ok (goInt (Nat.min (512-c) (512-c))) w3/\
     aO w3 F p s {S with im:=splice S.im (k*512) (o.take c ++ lb.drop c)} gi ci m D gr cr/\aa F w w3):=by
 obtain⟨f,Jo,Bl⟩:=kE h.ok.len U3.1 si.1;obtain⟨d,bD,fy,aY,eE⟩:=h.Jg.copied 3 (some ⟨gi,k*512,none⟩) (k*512) c 512 (some (aD z C)) c ca (o.take c) (U3.front Bo) (λ_=>rfl) (by omega);rw [List.take_take,Nat.min_self] at fy;have fH:(splice S.im (k*512) (o.take c)).length=s*512:=by rw [jn _ _ _ (by rw [List.length_take];omega)];exact f
 refine⟨d,bD,eE,λr q v x g=>?_⟩;have acr:ay d.drew 5 gi ci (bs (splice S.im (k*512) (o.take c))):=fy;have fS:Src d.drew q (512-c) (lb.drop c):=by
  refine⟨by rw [List.length_drop];omega,λe=>?_,λy H i L=>?_⟩
  .by_cases t:c<512
   .rw [(g t).2] at e;cases e
   .omega
  .have t:c<512:=(by omega);rw [(g t).2] at H;cases H;rw [aN];have h0:=si.2.2 _ rfl (c+i) (by omega);rw [aN] at h0;have K:(lb.drop c).getD i 0=lb.getD (c+i) 0:=(by simp [List.getD]);rw [K];by_cases A:n=gi
   .obtain⟨rfl,rfl⟩:=Cg A;subst A;have E:=acr.byte (i:=k*512+(c+i)) (by omega);rw [aN,Nat.zero_add] at E;rw [Nat.add_assoc,E,FF _ _ _ _ _ (by rw [List.length_take];omega) (by omega) (by omega)]
   .have:=World.cell?_of_block (w:=w) (w':=d) (a:=⟨n,u+(c+i),none⟩) (aY.block n (World.block_lt_of_cell? _ _ h0) A);rw [Nat.add_assoc];exact this.trans h0
 obtain⟨w3,LT,A3,aZ,_⟩:=acr.copied 3 r (k*512+c) (512-c) v q (512-c) x (lb.drop c) fS (λt=>(g (by omega)).1) (by omega);rw [nr (l:=lb.drop c) (by rw [List.length_drop];omega)] at A3;have e:=Jn S.im o lb (k*512) c 512 Bo Jo Bl (by omega);rw [e] at A3;have acs:=aY.trans (b:=d) (G:=λb=>b=gi) ⟨aZ.os,aZ.tape,aZ.output,aZ.size,aZ.block⟩ (λj J=> .inl J);exact⟨w3,LT,h.P8 A3 (by rw [jn _ _ _ (by rw [ed,List.length_take,List.length_drop];omega)];exact f) acs,acs.mono (λb I=>I▸h.Ua)⟩
set_option maxRecDepth 100000 in
def U4 {S:DS} {m:Nat} {D:DataW Value} (h:aO w F p s S gi ci m D gr cr) (k:Nat) (y:k<s) (aU:S.puts.length+1<=5000000000000)
    (A B C:Int) (A' B' f:Nat) (T:max A 0=(A':Int)) (U:max B 0=(B':Int)) (W:max C 0=(f:Int)) (J:A<=9223372036854775807) (K:B<=9223372036854775807) (L:C<=9223372036854775807):
  Calls prog 61 #[pQ p,iV (k:Int), .agg #[iV A,iV B,iV C]] w λe w'=>e= .returned (.tuple #[])/\aO w' F p s {S with im:=splice S.im (k*512) (jo S k A' B' f)} gi ci m D gr cr/\aa F w w':=by
 have O:=Dv A A' T;have P:=Dv B B' U;have Q:=Dv C f W;have Z:(A':Int)<=9223372036854775807:=by omega
 have eR:(B':Int)<=9223372036854775807:=by omega
 have Qb:(f:Int)<=9223372036854775807:=by omega
 have nA:=lT S.puts k;have hd:aO (w.alloc (.cells #[.int .i64 A, .int .i64 B, .int .i64 C] 112)) F p s S gi ci m D gr cr:=h.agree (by simp) (λj N=>Below.heap_alloc _ _ _ (h.lt j N));have pb:aa F w (w.alloc (.cells #[.int .i64 A, .int .i64 B, .int .i64 C] 112)):=aa.alloc _ _ _;obtain⟨a,cc,xs,gU,_⟩:=hd.PY y;have X:=bG hd.dI;have cq:=gU _ rfl;have E:=hd.Jg.le;have x:=pp p gi (s*512) ci s k k _ (aM hd.dI) rfl y rfl h.ok.hi (by simp [bs,hd.ok.len] at E;omega);have Jk:∀j:Nat,(j:Int)%(((au S.puts k).length:Int)+1)=((j%((au S.puts k).length+1):Nat):Int):=λj=>by push_cast;rfl
 have B9:∀j:Nat,j%((au S.puts k).length+1)<=(au S.puts k).length:=λj=>Nat.le_of_lt_succ (Nat.mod_lt _ (by omega));have u:=FE hd k y (A'%((au S.puts k).length+1)) _ (Jk A') (B9 A') (by omega);have v:=FE hd k y (B'%((au S.puts k).length+1)) _ (Jk B') (B9 B') (by omega);have t:(f:Int)%513=((f%513:Nat):Int):=by push_cast;rfl
 obtain⟨c,Bo⟩:=bQ (f%513);rw [<-Bo] at t;have Xt:c<=512:=by omega
 obtain⟨R,act⟩:=bU hd Bo;clear h T U W hd gU J K L Jk B9 E Bo;go_in;go_wp2_with fail;refine u.mono ?_;rintro e w2 ⟨ga,oa,ca,rfl,hFa,tB,M,U3,g⟩;have eM:=g.symm;subst eM;clear u g;have n:=yh U3;clear U3 M;go_wp2_with fail;refine v.mono ?_;rintro e w3 ⟨H,I,cb,rfl,Dw,hcb,Cg,si,g⟩;have eM:=g.symm;subst eM;clear v g;obtain⟨q,l⟩:=bU si Cg;clear si Cg;go_wp2_with fail;refine bM x λw4 g=>?_;have eM:=g.symm;subst eM;clear x g;have yD:aO (w.alloc (.cells #[.int .i64 A, .int .i64 B, .int .i64 C] 112)).drew F p s S gi ci m D gr cr:=R.o.agree (bS _) (λ_ _=>rfl);obtain⟨w5,acu,_,j1⟩:=Qa (ca:=ca) yD y Xt n.o q.o l.o;have vY:=yh j1;have Jp:(0:Int)<=(c:Int):=by omega
 have A4:(c:Int)<=512:=by omega
 have Bq:(c:Int)<=(ca:Int):=by omega
 have MZ:(c:Int)<=(cb:Int):=by omega
 clear yD j1;go_wp2_with fail;go_region_held3 (λ_=>True) (trivial) (fail);go_wp2_with fail;have jH:∀d,aO d F p s {S with im:=splice S.im (k*512) (List.take c (S.gL k (A'%((au S.puts k).length+1))) ++ List.drop c (S.gL k (B'%((au S.puts k).length+1))))} gi ci m D gr cr->
   aa F (w.alloc (.cells #[.int .i64 A, .int .i64 B, .int .i64 C] 112)).drew d->aO d F p s {S with im:=splice S.im (k*512) (jo S k A' B' f)} gi ci m D gr cr/\aa F w d:=λd Y r=>by
  refine⟨?_,pb.trans (b:=w.alloc (.cells #[.int .i64 A, .int .i64 B, .int .i64 C] 112)) (G:=F) ⟨r.os,r.tape,r.output,r.size,r.block⟩ (λj N=> .inl N)⟩;unfold jo;rw [<-act.o];exact Y
 have kW:=yh jH;clear jH pb acu O P Q cq X R n q l act t;rcases(show c=0\/(0<c/\c<512)\/c=512 by omega) with h5|h5|h5
 .subst h5;obtain⟨d,IS,pE,jD⟩:=vY.o (some ⟨gi,k*512,none⟩) (some (aD H I)) 512 cb (λ_=>⟨rfl,rfl⟩);simp only [Nat.sub_zero] at IS;have i:=kW.o d pE jD;clear pE jD vY kW;go_region_held3 (λ_=>True) (trivial) (fail);all_goals
   go_end0
   exact⟨rfl,i⟩
 .obtain⟨d,IS,pE,jD⟩:=vY.o (some ⟨gi,k*512+c,none⟩) (some ⟨H,I+c,none⟩) (512-c) (cb-c) (λ_=>⟨rfl,rfl⟩);have i:=kW.o d pE jD;have z1:¬512=c:=by omega
  have z2:¬cb=c:=by omega
  clear pE jD vY kW;go_region_held3 (λ_=>True) (trivial) (fail);all_goals
   go_end0
   exact⟨rfl,i⟩
 .subst h5;by_cases z:cb=512
  .subst z;obtain⟨d,IS,pE,jD⟩:=vY.o (some ⟨gi,k*512,none⟩) (some (aD H I)) 0 0 (λh=>by omega);simp only [Nat.sub_self] at IS;have i:=kW.o d pE jD;clear pE jD vY kW;go_region_held3 (λ_=>True) (trivial) (fail);all_goals
    go_end0
    exact⟨rfl,i⟩
  .obtain⟨d,IS,pE,jD⟩:=vY.o (some ⟨gi,k*512,none⟩) (some ⟨H,I+512,none⟩) 0 (cb-512) (λh=>by omega);simp only [Nat.sub_self] at IS;have i:=kW.o d pE jD;clear pE jD vY kW;go_region_held3 (λ_=>True) (trivial) (fail);all_goals
    go_end0
    exact⟨rfl,i⟩
abbrev vZ (l:List Nat):List Value:=l.map (λk:Nat=>Value.int .i64 (k:Int))
def aI (S:DS) (s:Nat):List Nat:=(List.range s).filter (λk=> !(au S.puts k).isEmpty)
def oe {S:DS}:k∈aI S s↔k<s/\au S.puts k≠ []:=by
 simp [aI,List.mem_filter]
def LU (l:List Nat):(l.map (λk:Nat=>(k:Int))).map (Value.int .i64)=vZ l:=by rw [List.map_map];rfl
def yE:Prop:=∀(g cap:Nat) (zs:List Int) (w:World),ay w 3 g cap (zs.map (Value.int .i64))->zs.length<4611686018427387904->
 Calls prog 122 #[.slice (some (aD g 0)) zs.length cap] w λe w'=>e= .returned (.tuple #[])/\ay w' 3 g cap ((zs.mergeSort λx y=>decide (x<=y)).map (Value.int .i64))/\aa (λk=>k=g) w w'
def Dx:Prop:=∀(w:World),Calls prog 122 #[.slice none 0 0] w λe w'=>e= .returned (.tuple #[])/\bW w w'
def FG {S:DS} (du:S.Ok s) (i:ks.Nodup) (g:∀k,k∈ks↔au S.puts k≠ []):
    ((ks.map (λk:Nat=>(k:Int))).mergeSort λx y=>decide (x<=y))=(aI S s).map (λk:Nat=>(k:Int)):=by
 have bq:∀k,au S.puts k≠ []->k<s:=λk j=>by
  obtain⟨l,f⟩:=List.exists_mem_of_ne_nil _ j;unfold au at f;obtain⟨q,m,_⟩:=List.mem_map.1 f;obtain⟨iM,qL⟩:=List.mem_filter.1 m;have:=(du.puts q iM).1;simp at qL;omega
 have mO:(aI S s).Nodup:=List.Pairwise.filter _ List.nodup_range;have Qc:=(List.perm_ext_iff_of_nodup i mO).2 (λk=>by
  rw [g,oe];exact⟨λh=>⟨bq k h,h⟩,λh=>h.2⟩)
 have bo:((aI S s).map (λk:Nat=>(k:Int))).Pairwise (λx y=>decide (x<=y)=true):=by
  refine List.pairwise_map.2 ?_;have:(aI S s).Pairwise (λx y=>x<y):=List.Pairwise.filter _ List.pairwise_lt_range;exact this.imp (λh=>by simp;omega)
 have o:∀a b c:Int,decide (a<=b)=true->decide (b<=c)=true->decide (a<=c)=true:=λa b c d e=>by simp only [decide_eq_true_eq] at*;omega
 have n:∀a b:Int,(decide (a<=b) || decide (b<=a))=true:=λa b=>by simp only [Bool.or_eq_true,decide_eq_true_eq];omega
 refine List.Perm.eq_of_pairwise (le:=λa b=>decide (a<=b)=true) (λa b _ _ d e=>?_) (List.pairwise_mergeSort o n _) bo ((List.mergeSort_perm _ _).trans (Qc.map _));simp only [decide_eq_true_eq] at d e;omega
def U5 (wc:yE) (wd:Dx) {S:DS} {m:Nat} {D:DataW Value} (h:aO w F p s S gi ci m D gr cr) (aU:S.puts.length+1<=5000000000000):
  Calls prog 60 #[pQ p] w λe w'=>∃a c,e= .returned (.slice a (aI S s).length c)/\(aI S s≠ []->∃g,a=some (aD g 0)/\w.heap.size<=g/\ay w' 3 g c (vZ (aI S s)))/\bW w w':=by
 obtain⟨J,rH,gB,dC,eu⟩:=info_parts Dq;have O:=bG h.dI;have B7:=h.lt m h.fm;have H:=yh h;clear h;go_in;go_wp2_with (at_range;refine wpList_range_own _ rfl _ 94 rfl 3 79 gk underlying94 Rs m S.puts.length D rfl H.o.map ?_;intro w0 pz uP yy;go_frame);have fO:=(bi _ w).grown uP (bS _) (λj l=>by cases l);clear uP;go_loopw [3,4] (λv _ wr=>∃(left:Lit->Bool) (el:Nat) (ks:List Nat),wr.ranges prog 3 Rs m w.heap.size S.puts.length D left el/\wr.ownsRow (w.heap.size+1) 3 1 v ks.length (vZ ks)/\
   ks.Nodup/\(∀k,k∈ks↔au S.puts k≠ []/\left (kk k)=false)/\bW w wr/\ks.length+el<=S.puts.length/\w.heap.size+1<=wr.heap.size)
    (λ_ _ wr=>wr.rangeLeft m w.heap.size)
 case atStart=>
  refine⟨_,_, [],pz,World.ownsRow_nil _ _ _ _,List.nodup_nil,λk=>?_,fO,by simpa using H.o.map.size_le,by omega⟩;constructor
  .intro q;cases q
  .rintro ⟨r,t⟩;rw [H.o.di.has r] at t;cases t
 case round=>
  clear pz fO yy;obtain⟨left,el,ks,mN,be,LV,ru,i,og,eE⟩:=hrel;go_wp2_with (at_next;refine wpList_next_ranges _ rfl _ rfl 3 gk Rs (Value.int .i64) MT (λK L gT=>by obtain⟨x,rfl,_⟩:=Maps.keyOf_int_inv underlying3 gT;exact⟨x,rfl⟩) se m w.heap.size S.puts.length _ _ _ rfl mN ?_ ?_)
  .intro _ vX;have yF:∀k,k∈ks↔au S.puts k≠ []:=λk=>by rw [ru,vX];simp
   have Jq:=FG H.o.ok LV yF;have d:ks.length=(aI S s).length:=by
    have:=congrArg List.length Jq;rw [List.length_mergeSort] at this;simpa using this
   have Ci:ks= []->aI S s= []:=λe=>by rw [e] at d;exact List.eq_nil_of_length_eq_zero d.symm
   rcases be.2 with ⟨rfl,I⟩|⟨g,f,cur,rfl,T,tj,R,A,C,n⟩
   .have ew:=Ci (List.eq_nil_of_length_eq_zero I);have ie:=wd wr;clear be ru yF Jq mN H wc wd;go_wp2_with (go_at_call 122;refine ie.mono ?_;rintro e N ⟨rfl,A5⟩);go_ret;exact⟨none,0,by simp [ew],λh=>absurd ew h,i.trans (A5.mono i.size)⟩
   .have Uj:ay wr 3 g f ((ks.map (λk:Nat=>(k:Int))).map (Value.int .i64)):=by
     rw [LU];refine⟨cur,tj,by simpa using C,?_,A⟩;simp only [Nat.mul_one] at n;rw [show (vZ ks).length=ks.length by simp [vZ]];exact n
    have mc:=wc g f _ wr Uj (by simp;omega);simp only [List.length_map] at mc;rw [Jq] at mc;have M0:=yh d;clear be ru yF Jq mN H wc wd Uj d n;go_wp2_with (go_at_call 122;refine mc.mono ?_;rintro e N ⟨rfl,Dy,A6⟩);go_ret;refine⟨some (aD g 0),f,?_,λ_=>⟨g,rfl,by omega,?_⟩,i.trans (A6.below (λj l=>by omega) i.size)⟩
    .rw [<-M0.o];rfl
    .rw [<-LU];exact Dy
  .intro x ca Q P L U W y pA gT A2 u is o8 bq fZ bo IR;obtain⟨k,rfl,rfl,r,G⟩:=H.o.di.met gT u is;have xN:k∉ks:=λq=>by rw [((ru k).1 q).2] at A2;cases A2
   have oU:=be.kept fZ (.inr (λe=>by have:=be.lt _ e;omega));have bd:=i.grown fZ i.size (λj l=>by cases l;exact bS _);have jC:w.heap.size+1<=y.heap.size:=(by omega);have FH:∀j,j∈ks ++ [k]↔au S.puts j≠ []/\(left (kk j) && !(kk j).sameKey (kk k))=false:=λj=>by
    rw [List.mem_append,List.mem_singleton,ru,lB];by_cases e:j=k
    .subst e;simp [r]
    .simp [e]
   have d:ks.length+1<=5000000000000:=(by omega);obtain⟨Qd,yG⟩:=bU FH oU;clear gT u is bo fZ G ru FH oU;go_wp2_with (at_builtin;refine wpList_append_own _ rfl _ _ 109 rfl (w.heap.size+1) 3 J (iV 0) 1 8 underlying109 rH gB dC eu rfl (by decide) _ _ _ rfl (yG.o.alloc _) (aD y.heap.size 0) 1 1 [iV (k:Int)] rfl rfl (cell_one_new _ _ _) (ints_oneCell .i64 [(k:Int)]) (by unfold maxLen;omega) (by omega) (by simp;omega) ?_);intro M z cM aR jF;have uX:=λj e=>(be.lt j e).1;have Jl:=(o8.alloc (.cells #[.int .i64 (k:Int)] 3)).kept aR (λe=>by have:=uX m e.symm;omega) (λe=>by have:=uX _ e.symm;omega);have bF:=(bd.alloc (by omega) _).grown aR (by simp;omega) (λj e=>by have:=uX j e;omega);have Fz:w.heap.size+1<=z.heap.size:=(by have:=aR.size;simp at this;omega);have YY:(ks ++ [k]).Nodup:=List.nodup_append.2 ⟨LV,by simp,by intro a E b eH e;simp at eH;subst eH;exact xN (e▸E)⟩;have fN:z.ownsRow (w.heap.size+1) 3 1 M (ks ++ [k]).length (vZ (ks ++ [k])):=(by simpa [vZ] using cM);obtain⟨i6,FB⟩:=bU fN Jl;clear cM aR jF fN Jl be yG o8 IR;go_wp2;go_roundw;case rel=>exact⟨_,pA,ks ++ [k],FB.o,i6.o,YY,Qd.o,bF,by simp;omega,Fz⟩
   case measure=>rw [FB.o.left_eq,mN.left_eq];exact bq
abbrev P3:=Int×Int×Int
def kX (w:World) (a:Option Addr) (n:Nat) (l:List P3):Prop:=
 l.length=n/\(a=none->n=0)/\(∀x,a=some x->∀i (hi:i<l.length),∃b o,x=(aD b o)/\w.cell? ⟨b,o+i*3,none⟩=some (iV l[i].1)/\w.cell? ⟨b,o+i*3+1,none⟩=some (iV l[i].2.1)/\w.cell? ⟨b,o+i*3+2,none⟩=some (iV l[i].2.2))/\
  ∀q∈l,q.1<=9223372036854775807/\q.2.1<=9223372036854775807/\q.2.2<=9223372036854775807
def mq (l:List P3) (i:Nat):P3:=if h:0<l.length then l[i%l.length]'(Nat.mod_lt _ h) else (0,0,0)
def uY (S:DS) (k:Nat) (q:P3):List Int:=jo S k (max q.1 0).toNat (max q.2.1 0).toNat (max q.2.2 0).toNat
def fj (S:DS) (l:List P3) (k:Nat):List Int:=if au S.puts k= [] then bL S.im k else uY S k (mq l (aI S k).length)
def DS.iy (S:DS) (s:Nat) (l:List P3):DS:={S with im:=pC s (fj S l),puts:= [],fuse:= -1,life:=wrap64 (S.life+1)}
def pF (S:DS) (s:Nat):aI S (s+1)=aI S s ++ (if au S.puts s= [] then [] else [s]):=by
 unfold aI;rw [List.range_succ,List.filter_append];congr 1;by_cases h:au S.puts s= [] <;> simp [h]
def yH (S:DS):∀(s j k:Nat),(aI S s)[j]? =some k->(aI S k).length=j
 |0,j,k,h=>by simp [aI] at h
 |s+1,j,k,h=>by
  rw [pF] at h;by_cases a:j<(aI S s).length
  .rw [List.getElem?_append_left a] at h;exact yH S s j k h
  .rw [List.getElem?_append_right (by omega)] at h;split at h
   .simp at h
   .have Xu:j-(aI S s).length=0:=by
     have:=(mL.1 h).1;simp at this;omega
    rw [Xu] at h;simp at h;subst h;omega
def Qe {S:DS} (h:S.Ok s) (a:k<s) (A B C:Nat):(jo S k A B C).length=512:=by
 unfold jo;rw [ed,List.length_take,List.length_drop,(DS.nz h a (j:=A%((au S.puts k).length+1)) (Nat.le_of_lt_succ (Nat.mod_lt _ (by omega)))),(DS.nz h a (j:=B%((au S.puts k).length+1)) (Nat.le_of_lt_succ (Nat.mod_lt _ (by omega))))];omega
def tC {S:DS} (h:S.Ok s) (l:List P3):∀k,k<s->(fj S l k).length=512:=λk a=>by
 unfold fj;split
 .exact P7 h.len a
 .exact Qe h a _ _ _
def U6 (S:DS) (im:List Int) (k A B C:Nat) (h:bL im k=bL S.im k):jo {S with im:=im} k A B C=jo S k A B C:=by
 have e:∀j,DS.gL {S with im:=im} k j=S.gL k j:=λj=>by
  unfold DS.gL;split
  .exact h
  .rfl
 unfold jo;rw [e,e]
def mP (h:ks[j]? =some k0) (k:Nat):k∈ks.take (j+1)↔k∈ks.take j\/k=k0:=by
 rw [List.take_add_one,h];simp
def Dz (f:ks.Nodup) (h:ks[j]? =some k0):k0∉ks.take j:=by
 obtain⟨c,e⟩:=mL.1 h;intro d;obtain⟨i,b,a⟩:=List.mem_iff_getElem.1 d;rw [List.getElem_take] at a;have:=List.getElem_inj (h₀:=by simp at b;omega) (h₁:=c) f |>.1 (a.trans e.symm);simp at b;omega
def yI {S:DS} (du:S.Ok s) (l:List P3) (YW:im.length=s*512) (a:(aI S s)[j]? =some k)
    (f:∀i,i<s->bL im i=if i∈(aI S s).take j then fj S l i else bL S.im i):
  k<s/\au S.puts k≠ []/\uY {S with im:=im} k (mq l j)=fj S l k/\∀i,i<s->bL (splice im (k*512) (fj S l k)) i=if i∈(aI S s).take (j+1) then fj S l i else bL S.im i:=by
 obtain⟨ew,d⟩:=oe.1 (gz a);have LV:(aI S s).Nodup:=List.Pairwise.filter _ List.nodup_range;have Jq:=f k ew;rw [aB (Dz LV a)] at Jq;have e:uY {S with im:=im} k (mq l j)=fj S l k:=by
  unfold uY fj;rw [aB d,yH S s j k a,U6 S im k _ _ _ Jq];rfl
 refine⟨ew,d,e,λi g=>?_⟩;rw [sh YW (tC du l k ew) ew];by_cases c:i=k
 .subst c;rw [aG rfl,aG ((mP a i).2 (.inr rfl))]
 .rw [aB c,f i g];by_cases b:i∈(aI S s).take j
  .rw [aG b,aG ((mP a i).2 (.inl b))]
  .rw [aB b,aB (λh=>by rcases(mP a i).1 h with h|h;exact b h;exact c h)]
def uZ {S:DS} (du:S.Ok s) (l:List P3) (YW:im.length=s*512) (c:∀i,i<s->bL im i=if i∈(aI S s).take (aI S s).length then fj S l i else bL S.im i):im=pC s (fj S l):=by
 refine Dt s YW (pD s _ (tC du l)) (λk a=>?_);rw [c k a,nB s _ (tC du l) k a,List.take_length];by_cases b:au S.puts k= []
 .rw [aB (λh=>(oe.1 h).2 b)];simp [fj,b]
 .rw [aG (oe.2 ⟨a,b⟩)]
def kX.keeps {l:List P3} (h:kX w a n l) (m:aa F w w') (j:∀x,a=some x->¬F x.block):kX w' a n l:=by
 refine⟨h.1,h.2.1,λx d i k=>?_,h.2.2.2⟩;obtain⟨b,o,rfl,c,f,g⟩:=h.2.2.1 x d i k;have e:=m.block b (World.block_lt_of_cell? _ _ c) (j _ d);exact⟨b,o,rfl,(World.cell?_of_block (w:=w) (a:=(aD b _)) e).trans c,(World.cell?_of_block (w:=w) (a:=(aD b _)) e).trans f,(World.cell?_of_block (w:=w) (a:=(aD b _)) e).trans g⟩
def M1 {wr:World} {S:DS} {m:Nat} {D:DataW Value} {l:List P3} (h:aO w F p s S gi ci m D gr cr) (hd:aO wr F p s {S with im:=im} gi ci m D gr cr)
    (d:im=pC s (fj S l)) (e:aa F w wr) (Cf:w3.ownsMap prog 3 Rs m 0 (.map [])) (aZ:aa (λk=>k=m) wr w3):
  w3.cell? (aD p 2)=some (iV S.fuse)/\w3.frozen? (aD p 2)=false/\w3.cell? (aD p 3)=some (iV S.life)/\w3.frozen? (aD p 3)=false/\
  aQ ((w3.setCell ⟨p,2,none⟩ (.int .i64 (-1))).setCell ⟨p,3,none⟩ (.int .i64 (wrap64 (S.life+1)))) F p s (S.iy s l)/\aa F w ((w3.setCell ⟨p,2,none⟩ (.int .i64 (-1))).setCell ⟨p,3,none⟩ (.int .i64 (wrap64 (S.life+1)))):=by
 subst d;have a:=hd.qK Cf aZ;have b:aO (w3.setCell ⟨p,2,none⟩ (.int .i64 (-1))) F p s {S with im:=pC s (fj S l),puts:= [],fuse:= -1} gi ci m (.map []) gr cr:=
  a.nx (a.set 2 _).2 ((a.set 2 _).1.trans (by simp [bJ])) rfl rfl (by simp)
 have jG:aO ((w3.setCell ⟨p,2,none⟩ (.int .i64 (-1))).setCell ⟨p,3,none⟩ (.int .i64 (wrap64 (S.life+1)))) F p s (S.iy s l) gi ci m (.map []) gr cr:=
  b.nx (b.set 3 _).2 ((b.set 3 _).1.trans (by simp [bJ,DS.iy])) rfl rfl (by simp [DS.iy])
 refine⟨bK a.dI,ae a.dI 2,fQ a.dI,ae a.dI 3,⟨gi,ci,m,_,gr,cr,jG⟩,?_⟩;exact((e.trans aZ (λj c=> .inl (c▸h.fm))).trans (aa.setCell (F:=λk=>k=p) w3 (p:=(aD p 2)) rfl _) (λj c=> .inl (c▸h.fp))).trans (aa.setCell (F:=λk=>k=p) _ (p:=(aD p 3)) rfl _) (λj c=> .inl (c▸h.fp))
def yJ {wr wx:World} {S:DS} {m:Nat} {D:DataW Value} {l:List P3} (aU:S.puts.length+1<=5000000000000) (hd:aO wr F p s {S with im:=im} gi ci m D gr cr)
    (a:bW wr wx) (ew:k<s) (Pk:uY {S with im:=im} k (mq l j)=fj S l k) (A B C:Int) (o:mq l j=(A,B,C)) (f:A<=9223372036854775807) (g:B<=9223372036854775807) (n:C<=9223372036854775807):
  Calls prog 61 #[pQ p,iV (k:Int), .agg #[iV A,iV B,iV C]] wx λe w'=>e= .returned (.tuple #[])/\aO w' F p s {S with im:=splice im (k*512) (fj S l k)} gi ci m D gr cr/\aa F wr w':=by
 refine(U4 (hd.agree a.size (λi b=>a.block i (hd.lt i b))) k ew aU A B C (max A 0).toNat (max B 0).toNat (max C 0).toNat (by omega) (by omega) (by omega) f g n).mono ?_;rintro e w' ⟨rfl,c,d⟩;refine⟨rfl,?_,(aa.ah F a).trans d (λi b=> .inl b)⟩;rw [<-Pk,o];exact c
set_option maxRecDepth 100000 in
def Qf (wc:yE) (wd:Dx) {S:DS} (hd:aQ w F p s S) (aU:S.puts.length+1<=5000000000000) (a:Option Addr) (n c:Nat) (l:List P3) (DA:kX w a n l) (hn:n<=140737488355328) (X:∀x,a=some x->¬F x.block):
  Calls prog 23 #[pQ p, .slice a n c] w λe w'=>e= .returned (.tuple #[])/\aQ w' F p s (S.iy s l)/\aa F w w':=by
 obtain⟨U,P,m,D,W,R,h⟩:=hd;have YZ:=U5 wc wd h aU;have oc:(aI S s).length<=2048:=by
  have:=List.length_filter_le (λk=> !(au S.puts k).isEmpty) (List.range s);rw [List.length_range] at this;exact j3 this h.ok.hi
 have H:=h;have y:=DA;clear h DA;go_in;go_wp2_with (go_at_call 60;refine YZ.mono ?_;rintro e w1 ⟨L,Q,rfl,be,ar⟩);have u9:=be;have iN:=H.agree ar.size (λj I=>ar.block j (H.lt j I));have ff:=aa.ah F ar;clear YZ be;go_loopw [4,5,6,10] (λ_ _ _ i wr=>∃j:Nat,j<=(aI S s).length/\i=iV (j:Int)/\∃im,aO wr F p s {S with im:=im} U P m D W R/\(∀i,i<s->bL im i=if i∈(aI S s).take j then fj S l i else bL S.im i)/\aa F w wr/\
     (aI S s≠ []->∃g,L=some (aD g 0)/\ay wr 3 g Q (vZ (aI S s))/\w.heap.size<=g)) (λ_ _ _ i _=>(aI S s).length-(intOf i).toNat)
 case atStart=>exact⟨0,dV _,rfl,S.im,iN,λi _=>by simp,ff,λh=>by obtain⟨g,e,A,v⟩:=u9 h;exact⟨g,e,v,A⟩⟩
 case round=>
  clear iN ff u9;obtain⟨j,I,rfl,im,hd,DB,u,be⟩:=hrel;have d:=hd;have IT:=DB;clear hd DB;by_cases bq:j<(aI S s).length
  .have cC:(j:Int)<((aI S s).length:Int):=(by omega);obtain⟨g,rfl,v,A⟩:=be (by intro e;rw [e] at bq;simp at bq);obtain⟨k0,xM⟩:∃k,(aI S s)[j]? =some k:=⟨_,List.getElem?_eq_getElem bq⟩;have Jp:wr.cell? (aD g j)=some (iV (k0:Int)):=v.cell (by simp [vZ,xM]);obtain⟨ew,hp,Pk,Qg⟩:=yI H.ok l d.ok.len xM IT;have z:=v;have acv:=Qg;clear v Qg;by_cases kZ:n=0
   .subst kZ;have t:mq l j=(0,0,0):=(by simp [mq,y.1]);have IU:=λo=>yJ aU d ((bi wr.heap.size wr).alloc (bS _) o) ew Pk 0 0 0 t (by omega) (by omega) (by omega);go_wp2_with (go_at_call 61;refine(IU _).mono ?_;rintro e w5 ⟨rfl,jG,dX⟩);have Fe:=z.agree (dX.block g z.lt (λC=>by have:=H.lt g C;omega));have f:=jG;have jD:=u.trans dX (λi E=> .inl E);clear jG dX IU Jp;go_roundw;case rel=>exact⟨j+1,by omega,by go_num,_,f,acv,jD,λ_=>⟨g,rfl,Fe,A⟩⟩
    case measure=>simp [intOf];omega
   .obtain⟨x,rfl⟩:∃x,a=some x:=by
     cases a with
     |none=>exact absurd (y.2.1 rfl) kZ
     |some x=>exact⟨x,rfl⟩
    have j5:=y.1;have Y0:0<l.length:=(by omega);obtain⟨q,t⟩:=bQ (j%n);have hqn:q<n:=(by rw [t];exact Nat.mod_lt _ (by omega));have A7:q<l.length:=(by omega);have r:=y.keeps u X;obtain⟨b,o,rfl,J,p1,p2⟩:=r.2.2.1 x rfl q A7;have Pm:mq l j=(l[q].1,l[q].2.1,l[q].2.2):=by
     have T:j%l.length=q:=(by rw [j5,t]);simp only [mq,Y0,dif_pos,T]
    obtain⟨M,N,O⟩:=r.2.2.2 l[q] (List.getElem_mem A7);have IU:=λwx hx=>yJ (wx:=wx) aU d hx ew Pk _ _ _ Pm M N O;have Z:(j:Int)%(n:Int)=(q:Int):=(by rw [t];push_cast;rfl);have iM:(q:Int)<(n:Int):=(by omega);have Y:=World.block_lt_of_cell? _ _ J;have Xv:=IU;clear IU Pm r t Pk;generalize l[q].1=qa at*;generalize l[q].2.1=qb at*;generalize l[q].2.2=qc at*;go_wp2_with fail;refine(Xv _ ((bi wr.heap.size wr).alloc (bS _) _)).mono ?_;rintro e w5 ⟨rfl,jG,dX⟩;have Fe:=z.agree (dX.block g z.lt (λC=>by have:=H.lt g C;omega));have f:=jG;have jD:=u.trans dX (λi E=> .inl E);clear jG dX Xv Jp J p1 p2;go_wp2;go_roundw;case rel=>exact⟨j+1,by omega,by go_num,_,f,acv,jD,λ_=>⟨g,rfl,Fe,A⟩⟩
    case measure=>simp [intOf];omega
  .have cC:¬(j:Int)<((aI S s).length:Int):=(by omega);obtain⟨w3,LT,Cf,aZ,_⟩:=Ce d.map;have c1:=bG d.dI;have G:j=(aI S s).length:=(by omega);rw [G] at IT;have bV:=uZ H.ok l d.ok.len IT;clear G;obtain⟨c2,f2,c3,f3,jG,dX⟩:=M1 H d bV u Cf aZ;have K:=(aH jG dX);clear jG dX bV Cf aZ d IT H u be;go_wp2
   go_end0
   exact⟨rfl,K⟩
def FI:(prog.info? 112).map (λi=>(i.zero,i.size,i.bytes))=some (some (.agg #[iV 0,iV 0,iV 0]),3,24):=by kernel_rfl
def p3 (l:List P3):List Value:=l.flatMap (λq=> [iV q.1,iV q.2.1,iV q.2.2])
def yK:∀l:List P3,(p3 l).length=l.length*3
 | []=>rfl
 |q :: l=>by have:=yK l;simp only [p3,List.flatMap_cons,ed,List.length_cons,List.length_nil] at this⊢;omega
def Y5 (l:List P3):∀v∈p3 l,v.oneCell'=true:=by
 intro v a;simp only [p3,List.mem_flatMap] at a;obtain⟨q,_,h⟩:=a;simp at h;rcases h with rfl|rfl|rfl <;> rfl
def Qh:∀(l:List P3) (i:Nat) (a:i<l.length),(p3 l)[i*3]? =some (iV l[i].1)/\(p3 l)[i*3+1]? =some (iV l[i].2.1)/\(p3 l)[i*3+2]? =some (iV l[i].2.2)
 |q :: l,0,_=>by simp [p3]
 |q :: l,i+1,a=>by
  have:=Qh l i (by simpa using a);have e:p3 (q :: l)= [iV q.1,iV q.2.1,iV q.2.2] ++ p3 l:=rfl;rw [e,List.getElem?_append_right (by simp;omega),List.getElem?_append_right (by simp;omega),List.getElem?_append_right (by simp;omega)];simp only [List.length_cons,List.length_nil,List.getElem_cons_succ];rw [show (i+1)*3-(0+1+1+1)=i*3 by omega,show (i+1)*3+1-(0+1+1+1)=i*3+1 by omega,show (i+1)*3+2-(0+1+1+1)=i*3+2 by omega];exact this
def Y6 {b o:Nat} {l:List P3} (h:kX w (some (aD b o)) n l) (j:Nat) (v:Value) (a:(p3 l)[j]? =some v):w.cell? (((aD b o):Addr).add j)=some v:=by
 rw [aN];have p:=(mL.1 a).1;rw [yK] at p;obtain⟨i,t,q,rfl⟩:∃i t,t<3/\j=i*3+t:=⟨j / 3,j%3,by omega,by omega⟩;have c:i<l.length:=by omega
 obtain⟨g,k,m⟩:=Qh l i c;obtain⟨s,u,r,d,e,f⟩:=h.2.2.1 _ rfl i c;cases r;rw [<-Nat.add_assoc]
 match t,q with
 |0,_=>rw [Nat.add_zero] at a⊢;rw [g] at a;rw [d];exact a
 |1,_=>rw [k] at a;rw [e];exact a
 |2,_=>rw [m] at a;rw [f];exact a
def acw {l:List P3} (c:l.length=n) (a:∀q∈l,q.1<=9223372036854775807/\q.2.1<=9223372036854775807/\q.2.2<=9223372036854775807) (h:w.heap[g]? =some (.cells (p3 l).toArray 112 (0,0))):kX w (some (aD g 0)) n l:=by
 refine⟨c,(λh=>by cases h),λx d i b=>?_,a⟩;cases d;obtain⟨e,f,j⟩:=Qh l i b;refine⟨g,0,rfl,?_,?_,?_⟩<;> (simp only [World.cell?,h,Nat.zero_add];simpa using ‹_›)
def M2 (w:World) (s:TypeId) (g n:Nat) (a:Option Addr) (c d:Nat) (cur:Array Value) (l:List P3) (j:w.heap[g]? =some (.cells cur 112 (0,0))) (an6:cur.size=n*3) (f:kX w a n l):
  ∃w2,(Builtin.copy_ #[38,38] s #[.slice (some (aD g 0)) n d, .slice a n c]).run prog w= .ok (goInt n) w2/\
   w2.heap[g]? =some (.cells (p3 l).toArray 112 (0,0))/\aa (λk=>k=g) w w2/\w2.heap.size=w.heap.size:=by
 have m:=f.1;have B4:Nat.min n n=n:=Nat.min_self n;obtain⟨t,p,_,q,_⟩:=info_parts FI;by_cases h0:n=0
 .subst h0;obtain rfl:l= []:=List.eq_nil_of_length_eq_zero m;have i:cur= #[]:=Array.eq_empty_of_size_eq_zero (by omega);subst i;have Xw:=λx=>by simpa using run_loadCells_list (P:=prog) w x [] (by simp)
  refine⟨w,?_,j,aa.refl _ _,rfl⟩;cases a <;> simp [Builtin.copy_,run_underlying underlying38,Builtin.lenOf,Builtin.firstCells,sizeOf,typeInfo,p,storeCells,Xw]
 .obtain⟨x,rfl⟩:∃x,a=some x:=by
   cases a with
   |none=>exact absurd (f.2.1 rfl) h0
   |some x=>exact⟨x,rfl⟩
  obtain⟨b,o,rfl,_⟩:=f.2.2.1 x rfl 0 (by omega);have Xw:=run_loadCells_list (P:=prog) w (aD b o) (p3 l) (Y6 f);rw [yK,m] at Xw;have bw:=run_storeCells_at prog g 0 112 (p3 l) 0 cur w j (by rw [yK];omega) (Y5 l);have e:(List.take (0+0) cur.toList ++ p3 l ++ List.drop (0+0+(p3 l).length) cur.toList).toArray=(p3 l).toArray:=by
   rw [yK,List.drop_of_length_le (by simp;omega)];simp
  rw [e] at bw;refine⟨w.setRow g (p3 l).toArray,?_,?_,⟨rfl,rfl,rfl,by simp,λk _ r=>setRow_other w g k _ r⟩,by simp⟩
  .simp [Builtin.copy_,run_underlying underlying38,Builtin.lenOf,Builtin.firstCells,sizeOf,typeInfo,p,q,B4,Xw,bw]
  .exact setRow_heap w g _ _ 112 _ j
def kX.later {l:List P3} (h:kX w a n l) (b:bW w w'):kX w' a n l:=h.keeps (aa.ah (λ_=>False) b) (λ_ _ h=>h)
def M3 (a:Option Addr) (n c:Nat) (l:List P3) (w:World) (s:24*n<=140737488355328) (i:kX w a n l):
  Calls prog 24 #[.slice a n c] w λe w'=>∃g,e= .returned (.slice (some (aD g 0)) n n)/\w.heap.size<=g/\kX w' (some (aD g 0)) n l/\bW w w':=by
 obtain⟨q,p,gB,dC,eu⟩:=info_parts FI;go_in;go_wp2_with (at_make;refine wpList_make_full _ rfl _ _ 38 rfl w.heap.size 112 q _ 3 underlying38 p gB dC _ _ _ _ n rfl rfl ?c1 ?c2 ?c3 ?c4 ?c5 ?_);case c1=>rfl
 case c2=>rfl
 case c3=>rw [eu];omega
 case c4=>unfold maxLen;omega
 case c5=>exact bS _
 intro w1 aA aR;have b:=(bi _ w).grown aR (bS _) (by intro k d;cases d);have eh:=i.later b;obtain⟨_,⟨f,_⟩|⟨r,j,cur,f,_,m,_,_,og,_⟩⟩:=aA
 .cases f
 cases f;obtain⟨t,bD,o,d,_⟩:=M2 w1 3 w.heap.size n a c n cur l m og eh;go_wp2;go_ret;exact⟨w.heap.size,rfl,bS _,acw (n:=n) i.1 eh.2.2.2 o,b.trans (d.below (λk h=>by omega) b.size)⟩
end Go.Proofs.YtcpdggdfihjhoabGreat
