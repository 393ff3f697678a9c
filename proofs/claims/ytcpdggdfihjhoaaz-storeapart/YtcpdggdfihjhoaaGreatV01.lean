import Derived.Laws.BitsAllLaws
import Derived.Test.YtcpdggdfihjhoaaGreatRows
import Derived.WalkKit
import Derived.WalkSpells
import Derived.WalkLawsBesides
import Derived.Below
import Derived.Laws.CopyOwn
import Derived.Lib.SliceRun
import Derived.Deep.QuietTactic
import Derived.BigQuiet
import Derived.Maps.RangeWalk
import Derived.Maps.OwnOps
import Derived.Deep.RegionHeld3
import Derived.Deep.AppendLies
set_option maxRecDepth 20000
set_option maxHeartbeats 8000000
set_option linter.all false
namespace Go.Proofs.YtcpdggdfihjhoaaGreat
open Go.Proofs.Tryz
open Go.RowKit Go.Maps
variable {x:Addr} {cur:Array Value} {K:Ending->World->Prop} {im l:List Int} {ks:List Nat} {xs:List Value} {base c cJ cg ci g g2 gi i j k k0 n p q s:Nat} {dj:Nat->List (List Int)} {cr gr:Nat->Nat} {F G:Nat->Prop} {a:Option Addr} {xa xb xc xd xe xf xg xh xi xj xk:Prop} {α:Type} {e e':TypeId} {u v:Value} {w w' w1 w3:World} {A:World->Prop}
def Yh (p:Prop):Prop:=p
def Yh.o {p:Prop} (h:Yh p):p:=h
def Yh.out {p:Prop} (h:Yh p):p:=h
def yh {p:Prop} (h:p):Yh p:=h
def cb (r:Nat):Nat:=r / 2 ^^^ (if r%2=1 then 2197175160 else 0)
def lg:Nat->Nat->Nat
 |0,r=>r
 |n+1,r=>lg n (cb r)
def le:List Int->Nat
 | []=>0
 |x :: t=>x.toNat+256*le t
def Bytes (l:List Int):Prop:=∀x∈l,0<=x/\x<256
def YZ (a b:Nat):cb (a ^^^ b)=cb a ^^^ cb b:=by
 unfold cb;have h:(a ^^^ b)%2=(a+b)%2:=by
  have e:=Nat.testBit_xor a b 0;simp only [Nat.testBit_zero] at e;rcases Nat.mod_two_eq_zero_or_one a with c|c <;> rcases Nat.mod_two_eq_zero_or_one b with d|d <;> rcases Nat.mod_two_eq_zero_or_one (a ^^^ b) with f|f <;> rw [c,d,f] at e <;> first|omega|exact absurd e (by decide)
 have hd:(a ^^^ b) / 2=a / 2 ^^^ b / 2:=Nat.xor_div_two;rw [hd];rcases Nat.mod_two_eq_zero_or_one a with c|c <;> rcases Nat.mod_two_eq_zero_or_one b with d|d
 .have:(a ^^^ b)%2=0:=by omega
  simp [c,d,this]
 .have:(a ^^^ b)%2=1:=by omega
  simp [c,d,this,Nat.xor_assoc]
 .have:(a ^^^ b)%2=1:=by omega
  simp only [c,d,this,if_true];rw [Nat.xor_assoc,Nat.xor_assoc,Nat.xor_comm (b / 2)];simp
 .have:(a ^^^ b)%2=0:=by omega
  simp only [c,d,this,if_true];rw [Nat.xor_assoc,Nat.xor_assoc,<-Nat.xor_assoc (2197175160) (b / 2),Nat.xor_comm 2197175160 (b / 2),Nat.xor_assoc (b / 2),Nat.xor_self];simp
def Mc (n a b:Nat):lg n (a ^^^ b)=lg n a ^^^ lg n b:=by
 induction n generalizing a b with
 |zero=>rfl
 |succ n c=>simp only [lg,YZ,c]
def acv {r:Nat} (h:r<4294967296):cb r<4294967296:=by
 unfold cb;have:r / 2 ^^^ (if r%2=1 then 2197175160 else 0)<2 ^ 32:=Nat.xor_lt_two_pow (by omega) (by split <;> omega);omega
def vg (n:Nat) {r:Nat} (h:r<4294967296):lg n r<4294967296:=by
 induction n generalizing r with
 |zero=>exact h
 |succ n a=>exact a (acv h)
def tG (n m r:Nat):lg (n+m) r=lg m (lg n r):=by
 induction n generalizing r with
 |zero=>simp [lg]
 |succ n a=>rw [Nat.succ_add];simp only [lg];exact a (cb r)
def Vb (m:Nat):cb (2*m)=m:=by
 unfold cb;have a:2*m / 2=m:=by omega
 have b:2*m%2=0:=by omega
 rw [a,b];simp
def Md (n m:Nat):lg n (2 ^ n*m)=m:=by
 induction n generalizing m with
 |zero=>simp [lg]
 |succ n a=>
  rw [Nat.pow_succ,show 2 ^ n*2*m=2*(2 ^ n*m) by rw [Nat.mul_comm (2 ^ n) 2,Nat.mul_assoc],lg,Vb,a]
def Me (i a b:Nat) (h:b<2 ^ i):b+2 ^ i*a=b ^^^ 2 ^ i*a:=by
 apply Nat.eq_of_testBit_eq;intro j;rw [Nat.add_comm,Nat.testBit_two_pow_mul_add a h j,Nat.testBit_xor,Nat.testBit_two_pow_mul];by_cases c:j<i
 .simp [c,show¬i<=j by omega]
 .have:b.testBit j=false:=Nat.testBit_lt_two_pow (Nat.lt_of_lt_of_le h (Nat.pow_le_pow_right (by decide) (by omega)));simp [c,this,show i<=j by omega]
def Vc (r:Nat):lg 4 r=r / 16 ^^^ lg 4 (r%16):=by
 have h:r=r%16 ^^^ 2 ^ 4*(r / 16):=by
  rw [<-Me 4 (r / 16) (r%16) (by omega)];omega
 conv=>lhs;rw [h,Mc,Md]
 exact Nat.xor_comm _ _
def nw (r:Nat) (l:List Int):Nat:=lg (8*l.length) (r ^^^ le l)
def sumOf (l:List Int):Nat:=nw 4294967295 l ^^^ 4294967295
def lE (h:Bytes l):le l<2 ^ (8*l.length):=by
 induction l with
 |nil=>simp [le]
 |cons x t b=>
  have c:=h x (by simp);have d:=b (λy a=>h y (by simp [a]));simp only [le,List.length_cons];rw [show 8*(t.length+1)=8*t.length+8 by omega,Nat.pow_add];have:x.toNat<256:=by omega
  omega
def vh (a b:List Int):le (a ++ b)=le a+2 ^ (8*a.length)*le b:=by
 induction a with
 |nil=>simp [le]
 |cons x t c=>
  simp only [List.cons_append,le,c,List.length_cons];rw [show 8*(t.length+1)=8*t.length+8 by omega,Nat.pow_add,Nat.mul_add];rw [show 2 ^ (8*t.length)*2 ^ 8*le b=256*(2 ^ (8*t.length)*le b) by rw [Nat.mul_comm (2 ^ (8*t.length)) (2 ^ 8),Nat.mul_assoc]];omega
def Jz {a:List Int} (b:List Int) (h:Bytes a):le (a ++ b)=le a ^^^ 2 ^ (8*a.length)*le b:=by
 rw [vh,Me _ _ _ (lE h)]
def tH (r:Nat):nw r []=r:=by simp [nw,lg,le]
def yF (r:Nat) {a:List Int} (b:List Int) (h:Bytes a):nw r (a ++ b)=nw (nw r a) b:=by
 unfold nw;rw [Jz b h,List.length_append,Nat.mul_add,tG,<-Nat.xor_assoc,Mc (8*a.length),Md]
def yG (r:Nat) {a:List Int} (x:Int) (h:Bytes a):nw r (a ++ [x])=lg 8 (nw r a ^^^ x.toNat):=by
 rw [yF r _ h];simp [nw,le]
def sq {r:Nat} (c:r<4294967296) (h:Bytes l):nw r l<4294967296:=by
 induction l generalizing r with
 |nil=>simpa [tH] using c
 |cons x t e=>
  have d:=h x (by simp);have b:Bytes [x]:=λy a=>by simp at a;subst a;exact d
  rw [show x :: t= [x] ++ t from rfl,yF r t b];refine e ?_ (λy a=>h y (by simp [a]));have:r ^^^ x.toNat<2 ^ 32:=Nat.xor_lt_two_pow (by omega) (by omega);simpa [nw,le] using vg 8 (r:=r ^^^ x.toNat) (by omega)
def nB (h:Bytes l):sumOf l<4294967296:=by
 have:nw 4294967295 l ^^^ 4294967295<2 ^ 32:=Nat.xor_lt_two_pow (by have:=sq (r:=4294967295) (by omega) h;omega) (by omega);unfold sumOf;omega
def ow (s:Nat):List Int:= [((s%256:Nat):Int),((s / 256%256:Nat):Int),((s / 65536%256:Nat):Int),((s / 16777216%256:Nat):Int)]
abbrev iV (x:Int):Value:= .int .i64 x
abbrev pQ (b:Nat):Value:= .pointer (some ⟨b,0,none⟩)
abbrev aD (b o:Nat):Addr:=⟨b,o,none⟩
abbrev bW (w v:World):Prop:=Below w.heap.size w v
def aH {a b:Prop} (x:a) (y:b):a/\b:=⟨x,y⟩
def gB {l:List α} {a:α} (h:l[i]? =some a):a∈l:=List.mem_of_getElem? h
def ee {a b:List α}:(a++b).length=a.length+b.length:=List.length_append
def bR (n:Nat):n<=n:=Nat.le_refl n
def iL {m:Nat} (h:n<m) (g:m<=k):n<k:=Nat.lt_of_lt_of_le h g
def mS {l:List α} {a:α}:l[i]? =some a↔∃h:i<l.length,l[i]=a:=List.getElem?_eq_some_iff
def dL (n:Nat):0<=n:=Nat.zero_le n
def bi (B:Nat) (w:World):Below B w w:=Below.refl B w
def BE {β:Type} {f:α->β} {l:List α}:(l.map f)[i]? =Option.map f l[i]? :=List.getElem?_map
def aG {c:Prop} {i:Decidable c} {a b:α} (h:c):(if c then a else b)=a:=if_pos h
def aB {c:Prop} {i:Decidable c} {a b:α} (h:¬c):(if c then a else b)=b:=if_neg h
def fy [BEq α] [LawfulBEq α] {a b:α}:(a==b)=false↔a≠b:=beq_eq_false_iff_ne
def gg [BEq α] [LawfulBEq α] {a b:α}:(a !=b)=true↔a≠b:=bne_iff_ne
def lY {l:Array α} {a:α}:l[i]? =some a↔∃h:i<l.size,l[i]=a:=Array.getElem?_eq_some_iff
def nC {l:List α} (h:l.length<=i):l.take i=l:=List.take_of_length_le h
def k9 {m:Nat} (h:n<=m) (g:m<=k):n<=k:=Nat.le_trans h g
def jX:=@List.setIfInBounds_toArray
def ld:=@List.set_cons_zero
def lT:=@List.set_cons_succ
def qQ:=@List.getElem?_eq_getElem
def jF:=@List.length_map
def mx:=@Int.toNat_natCast
def u9:=@List.getElem?_append_left
def rR:=@List.getElem?_set_self
def wm:=@List.getElem?_append_right
def yH:=@List.eq_nil_of_length_eq_zero
def yI:=@Int.tmod_eq_emod_of_nonneg
def su:=@List.getElem?_set_ne
def oj:=@List.length_take
def rG:=@List.append_assoc
def JA:=@Array.getElem?_setIfInBounds_ne
def gq:(prog.info? 5).map (λi=>(i.zero,i.size,i.bytes))=some (some (.int .u8 0),1,1):=by kernel_rfl
def aN (g o i:Nat):((aD g o):Addr).add i=⟨g,o+i,none⟩:=by
 unfold Addr.add;split <;> simp_all
abbrev bs (l:List Int):List Value:=l.map (Value.int .u8)
def ay (w:World) (e:TypeId) (g c:Nat) (xs:List Value):Prop:=
 ∃cur,w.heap[g]? =some (.cells cur e (0,0))/\cur.size=c/\cur.toList.take xs.length=xs/\c<=maxLen
def ay.lt (h:ay w e g c xs):g<w.heap.size:=by
 obtain⟨cur,a,_⟩:=h;exact(lY.1 a).1
def ay.le (h:ay w e g c xs):xs.length<=c:=by
 obtain⟨cur,_,rfl,a,_⟩:=h;have:=congrArg List.length a;simp at this;omega
def ay.max (h:ay w e g c xs):c<=maxLen:=by
 obtain⟨cur,_,_,_,h⟩:=h;exact h
def ay.cell (h:ay w e g c xs) (a:xs[j]? =some u):w.cell? (aD g j)=some u:=by
 obtain⟨cur,b,_,f,_⟩:=h;simp only [World.cell?,b];have d:=(mS.1 a).1;rw [<-f,List.getElem?_take] at a;rw [aG d] at a;simpa using a
def ay.byte (h:ay w e g c (bs l)) (a:i<l.length):w.cell? (((aD g 0):Addr).add i)=some (.int .u8 (l.getD i 0)):=by
 rw [aN,Nat.zero_add];exact h.cell (by simp [bs,List.getD,qQ a])
def ay.frozen (h:ay w e g c xs) (j:Nat):w.frozen? (aD g j)=false:=by
 obtain⟨cur,a,_⟩:=h;simp [World.frozen?,a]
def ay.agree (h:ay w e g c xs) (d:w'.heap[g]? =w.heap[g]?):ay w' e g c xs:=by
 obtain⟨cur,a,b⟩:=h;exact⟨cur,d.trans a,b⟩
def ay.owns (h:ay w e g c xs):w.ownsRow 0 e 1 (.slice (some (aD g 0)) xs.length c) xs.length xs:=by
 have a:=h.le;obtain⟨cur,b,d,i,f⟩:=h;exact⟨by simp, .inr ⟨g,c,cur,rfl,dL _,b,a,f,by simpa using d,by simpa using i⟩⟩
def ay.fg (h:w.ownsRow base e 1 v n xs) (k:v≠ .slice none 0 0):
  ∃g c,v= .slice (some (aD g 0)) n c/\base<=g/\ay w e g c xs/\xs.length=n:=by
 obtain⟨a,⟨rfl,_⟩|⟨g,c,cur,rfl,i,f,l,j,b,d⟩⟩:=h
 .exact absurd rfl k
 .simp only [Nat.mul_one] at a b d;exact⟨g,c,rfl,i,⟨cur,f,b,by rw [a];exact d,j⟩,a⟩
structure aa (F:Nat->Prop) (w w':World):Prop where
 os:w'.os=w.os
 tape:w'.tape=w.tape
 output:w'.output=w.output
 size:w.heap.size<=w'.heap.size
 block:∀k,k<w.heap.size->¬F k->w'.heap[k]? =w.heap[k]?
def more (F:Nat->Prop) (w w':World):Nat->Prop:=λk=>F k\/(w.heap.size<=k/\k<w'.heap.size)
def aa.refl (F:Nat->Prop) (w:World):aa F w w:=⟨rfl,rfl,rfl,bR _,λ_ _ _=>rfl⟩
def aa.trans {a b c:World} (h:aa F a b) (k:aa G b c) (g:∀j,G j->F j\/a.heap.size<=j):aa F a c:=
   ⟨k.os.trans h.os,k.tape.trans h.tape,k.output.trans h.output,k9 h.size k.size,λi e f=>
    (k.block i (iL e h.size) (λl=>by rcases g i l with d|d;exact f d;omega)).trans (h.block i e f)⟩
def aa.ah (F:Nat->Prop) (h:bW w w'):aa F w w':=⟨h.os,h.tape,h.output,h.size,λk a _=>h.block k a⟩
def aa.below {B:Nat} (h:aa F w w') (a:∀k,F k->B<=k) (c:B<=w.heap.size):Below B w w':=
   ⟨h.os,h.tape,h.output,h.size,λk d=>h.block k (by omega) (λb=>by have:=a k b;omega)⟩
def aa.mono (h:aa F w w') (a:∀k,F k->G k):aa G w w':=⟨h.os,h.tape,h.output,h.size,λk c d=>h.block k c (λb=>d (a k b))⟩
def aa.setCell (w:World) {p:Addr} (b:F p.block) (u:Value):aa F w (w.setCell p u):=
   ⟨rfl,rfl,rfl,by simp [World.setCell],λk _ a=>Below.heap_setCell w p u k (λe=>a (e▸b))⟩
def aa.alloc (F:Nat->Prop) (w:World) (o:Obj):aa F w (w.alloc o):=aa.ah F ((bi _ _).alloc (bR _) _)
def mT (w:World) (a:Addr) (v:Value):w.grownBy (w.setCell a v) (some a.block):=
   ⟨rfl,rfl,rfl,by simp [World.setCell],λk _ b=>Below.heap_setCell w a v k (λe=>b (by rw [e]))⟩
def aj (a:w.heap[g]? =some (.cells cur e (0,0))) (b:cur[j]? =some u):w.cell? (aD g j)=some u:=by
 simp only [World.cell?,a];simpa using b
def ae (a:w.heap[g]? =some (.cells cur e (0,0))) (j:Nat):w.frozen? (aD g j)=false:=by
 simp [World.frozen?,a]
def Src (w:World) (a:Option Addr) (n:Nat) (l:List Int):Prop:=
 l.length=n/\(a=none->n=0)/\∀x,a=some x->∀i,i<n->w.cell? (x.add i)=some (.int .u8 (l.getD i 0))
def Src.at (h:Src w (some x) n l) (a:i<n):w.cell? (x.add i)=some (.int .u8 (l.getD i 0)):=h.2.2 x rfl i a
def ay.src (h:ay w e g c (bs l)):Src w (some (aD g 0)) l.length l:=
   ⟨rfl,(λh=>by cases h),λx b i a=>by cases b;exact h.byte a⟩
def Src.spot (h:Src w (some x) n l) (c:0<n):∃b o,x=(aD b o)/\∀i,i<n->w.cell? ⟨b,o+i,none⟩=some (.int .u8 (l.getD i 0)):=by
 obtain⟨b,o,e⟩:=x;have h0:=h.2.2 _ rfl 0 c;have d:e=none:=by simpa [Addr.add] using World.cell?_spot h0
 subst d;exact⟨b,o,rfl,λi a=>by have:=h.2.2 _ rfl i a;rwa [aN] at this⟩
def Src.later (h:Src w a n l) (b:bW w w'):Src w' a n l:=
   ⟨h.1,h.2.1,λx d i c=>cell_later b (h.2.2 x d i c)⟩
def lZ (aA:w1.ownsRow base 5 1 (.slice (some (aD g 0)) n n) n (madeCells #[Value.int .u8 0] n).toList):
  ay w1 5 g n (bs (List.replicate n 0)):=by
 obtain⟨d,c,b,_,a,_⟩:=ay.fg aA (by simp);cases b;have e:(madeCells #[Value.int .u8 0] n).toList=bs (List.replicate n 0):=by rw [toList_madeCells_one];simp [bs]
 rw [e] at a;exact a
def DF:(prog.info? 5).map (·.size)=some 1:=by kernel_rfl
def fA (h:(bs l)[j]? =some v):j<l.length/\v= .int .u8 (l.getD j 0):=by
 have a:j<l.length:=by
  have:=(mS.1 h).1;simpa [bs] using this
 simp [bs,qQ a] at h;exact⟨a,by simp [List.getD,qQ a,h]⟩
def cF (l:List Int):∀v∈bs l,v.oneCell'=true:=by
 intro v a;obtain⟨x,_,rfl⟩:=List.mem_map.1 a;rfl
def ay.full (h:ay w e g c xs) (d:xs.length=c):w.heap[g]? =some (.cells xs.toArray e (0,0)):=by
 obtain⟨cur,a,f,b,_⟩:=h;have:cur.toList=xs:=by
  rw [<-b,nC (by simp;omega)]
 rw [a,<-this]
def ay.xX (h:w.heap[g]? =some (.cells xs.toArray e (0,0))) (a:xs.length<=maxLen):ay w e g xs.length xs:=
   ⟨xs.toArray,h,by simp,by simp,a⟩
def yJ (w:World) (m:TypeId) (d:Option Addr) (g c ie BF:Nat) (a:Option Addr) (j7 BG:Nat) (cur:List Value) (l:List Int) (f:w.heap[g]? =some (.cells cur.toArray 5 (0,0)))
    (i:Src w a j7 l) (hd:0<ie->d=some (aD g c)) (FJ:c+ie<=cur.length):
  ∃w2,(Builtin.copy_ #[36,36] m #[.slice d ie BF, .slice a j7 BG]).run prog w= .ok (goInt (Nat.min j7 ie)) w2/\
   w2.heap[g]? =some (.cells (splice cur c (bs (l.take ie))).toArray 5 (0,0))/\aa (λk=>k=g) w w2/\w2.heap.size=w.heap.size:=by
 have r:=i.1;have q:Nat.min j7 ie=min j7 ie:=rfl;by_cases h0:min j7 ie=0
 .refine⟨w,?_,?_,aa.refl _ _,rfl⟩
  .rw [q,h0];exact run_copy_none (P:=prog) w _ _ m 5 d a ie BF j7 BG underlying36 DF h0
  .have e:bs (l.take ie)= []:=by
    have:(bs (l.take ie)).length=0:=(by simp only [bs,jF,oj];omega);exact yH this
   rw [e,f];simp [splice]
 .have n:0<j7/\0<ie:=by omega
  obtain rfl:=hd n.2;cases a with
  |none=>have:=i.2.1 rfl;omega
  |some x=>
   have b:(bs (l.take ie)).length=Nat.min j7 ie:=by
    simp only [bs,jF,oj];omega
   have bI:=run_copy_row (P:=prog) w 36 36 m 5 g c ie BF x j7 BG cur.toArray 5 (bs (l.take ie)) underlying36 DF f b
      (λj v o=>by
     obtain⟨Bk,rfl⟩:=fA o;have Y0:j<ie/\j<l.length:=(by simp only [oj] at Bk;omega);rw [i.2.2 x rfl j (by omega)];simp [List.getD,Y0.1]) (by simp only [List.size_toArray,b];omega) (cF _)
   rw [b] at bI;refine⟨_,bI,?_,⟨rfl,rfl,rfl,by simp,λk _ p=>setRow_other w g k _ p⟩,by simp⟩;rw [setRow_heap w g _ _ 5 _ f];simp only [splice,b,rG]
def kG (x:Addr) (n:Nat):(x.add n).block=x.block:=by unfold Addr.add;split <;> rfl
def Src.old {W:World} (h:Src W a n l):∀x,a=some x->0<n->x.block<W.heap.size:=λx c b=>by
 have:=World.block_lt_of_cell? _ _ (h.2.2 x c 0 b);rwa [kG] at this
def aM {a:Value} {l:List Value} (h:w.heap[g]? =some (.cells (List.toArray (a::l)) e (0,0))):w.cell? (aD g 0)=some a:=aj h rfl
def bG {b a:Value} {l:List Value} (h:w.heap[g]? =some (.cells (List.toArray (b::a::l)) e (0,0))):w.cell? (aD g 1)=some a:=aj h rfl
def bM {b c a:Value} {l:List Value} (h:w.heap[g]? =some (.cells (List.toArray (b::c::a::l)) e (0,0))):w.cell? (aD g 2)=some a:=aj h rfl
def fU {b c d a:Value} {l:List Value} (h:w.heap[g]? =some (.cells (List.toArray (b::c::d::a::l)) e (0,0))):w.cell? (aD g 3)=some a:=aj h rfl
def gH {b c d f a:Value} {l:List Value} (h:w.heap[g]? =some (.cells (List.toArray (b::c::d::f::a::l)) e (0,0))):w.cell? (aD g 4)=some a:=aj h rfl
def sv {b c d f i a:Value} {l:List Value} (h:w.heap[g]? =some (.cells (List.toArray (b::c::d::f::i::a::l)) e (0,0))):w.cell? (aD g 5)=some a:=aj h rfl
def xz {b c d f i j a:Value} {l:List Value} (h:w.heap[g]? =some (.cells (List.toArray (b::c::d::f::i::j::a::l)) e (0,0))):w.cell? (aD g 6)=some a:=aj h rfl
def rH {b c d f i j k a:Value} {l:List Value} (h:w.heap[g]? =some (.cells (List.toArray (b::c::d::f::i::j::k::a::l)) e (0,0))):w.cell? (aD g 7)=some a:=aj h rfl
def DG {b c d f i j k m a:Value} {l:List Value} (h:w.heap[g]? =some (.cells (List.toArray (b::c::d::f::i::j::k::m::a::l)) e (0,0))):w.cell? (aD g 8)=some a:=aj h rfl
def ahv {b c d f i j k m n a:Value} {l:List Value} (h:w.heap[g]? =some (.cells (List.toArray (b::c::d::f::i::j::k::m::n::a::l)) e (0,0))):w.cell? (aD g 9)=some a:=aj h rfl
def bP (a:α):∃x,x=a:=⟨_,rfl⟩
def zEr (a:α):∃x,a=x:=⟨_,rfl⟩
def bJ {P:Program} {f:FuncId} {a:Array Value} {V:Ending} (h:Calls P f a w λe v=>e=V/\A v) (k:∀v,A v->K V v):Calls P f a w K:=h.mono (by rintro e v ⟨rfl,x⟩;exact k v x)
def fQ {P:Program} {f:FuncId} {a:Array Value} {V:Ending} {B:World->Prop} (h:Calls P f a w λe v=>e=V/\A v/\B v) (k:∀v,A v->B v->K V v):Calls P f a w K:=h.mono (by rintro e v ⟨rfl,x,y⟩;exact k v x y)
def pz {P:Program} {f:FuncId} {a:Array Value} {V:Ending} {B C:World->Prop} (h:Calls P f a w λe v=>e=V/\A v/\B v/\C v) (k:∀v,A v->B v->C v->K V v):Calls P f a w K:=h.mono (by rintro e v ⟨rfl,x,y,z⟩;exact k v x y z)
def kH (a:xa) (b:xb) (c:xc):xa/\xb/\xc:=⟨a,b,c⟩
def cP (a:xa) (b:xb) (c:xc) (d:xd):xa/\xb/\xc/\xd:=⟨a,b,c,d⟩
def eQ (a:xa) (b:xb) (c:xc) (d:xd) (e:xe):xa/\xb/\xc/\xd/\xe:=⟨a,b,c,d,e⟩
def jH (a:xa) (b:xb) (c:xc) (d:xd) (e:xe) (f:xf):xa/\xb/\xc/\xd/\xe/\xf:=⟨a,b,c,d,e,f⟩
def nD (a:xa) (b:xb) (c:xc) (d:xd) (e:xe) (f:xf) (g:xg):xa/\xb/\xc/\xd/\xe/\xf/\xg:=⟨a,b,c,d,e,f,g⟩
def xA (a:xa) (b:xb) (c:xc) (d:xd) (e:xe) (f:xf) (g:xg) (i:xh):xa/\xb/\xc/\xd/\xe/\xf/\xg/\xh:=⟨a,b,c,d,e,f,g,i⟩
def M9 (a:xa) (b:xb) (c:xc) (d:xd) (e:xe) (f:xf) (g:xg) (i:xh) (j:xi):xa/\xb/\xc/\xd/\xe/\xf/\xg/\xh/\xi:=⟨a,b,c,d,e,f,g,i,j⟩
def wn (a:xa) (b:xb) (c:xc) (d:xd) (e:xe) (f:xf) (g:xg) (i:xh) (j:xi) (k:xj):xa/\xb/\xc/\xd/\xe/\xf/\xg/\xh/\xi/\xj:=⟨a,b,c,d,e,f,g,i,j,k⟩
def Mf (a:xa) (b:xb) (c:xc) (d:xd) (e:xe) (f:xf) (g:xg) (i:xh) (j:xi) (k:xj) (l:xk):xa/\xb/\xc/\xd/\xe/\xf/\xg/\xh/\xi/\xj/\xk:=⟨a,b,c,d,e,f,g,i,j,k,l⟩
def FK {a:Prop} (b:xa) (c:xb) (d:xc) (e:xd) (f:xe) (g:xf) (i:xg) (j:xh) (k:xi) (l:xj) (m:xk) (n:a):xa/\xb/\xc/\xd/\xe/\xf/\xg/\xh/\xi/\xj/\xk/\a:=⟨b,c,d,e,f,g,i,j,k,l,m,n⟩
def bV (a:xa) (b:xb):Yh xa/\Yh xb:=⟨a,b⟩
def kI (a:xa) (b:xb) (c:xc):Yh xa/\Yh xb/\Yh xc:=⟨a,b,c⟩
def BH (a:xa) (b:xb) (c:xc) (d:xd):Yh xa/\Yh xb/\Yh xc/\Yh xd:=⟨a,b,c,d⟩
def Ve (a:xa) (b:xb) (c:xc) (d:xd) (e:xe):Yh xa/\Yh xb/\Yh xc/\Yh xd/\Yh xe:=⟨a,b,c,d,e⟩
def Y5 (a:xa) (b:xb) (c:xc) (d:xd) (e:xe) (f:xf):Yh xa/\Yh xb/\Yh xc/\Yh xd/\Yh xe/\Yh xf:=⟨a,b,c,d,e,f⟩
def acw (a:xa) (b:xb) (c:xc) (d:xd) (e:xe) (f:xf) (g:xg):Yh xa/\Yh xb/\Yh xc/\Yh xd/\Yh xe/\Yh xf/\Yh xg:=⟨a,b,c,d,e,f,g⟩
def ahw (a:xa) (b:xb) (c:xc) (d:xd) (e:xe) (f:xf) (g:xg) (i:xh):Yh xa/\Yh xb/\Yh xc/\Yh xd/\Yh xe/\Yh xf/\Yh xg/\Yh xh:=⟨a,b,c,d,e,f,g,i⟩
def acx (a:xa) (b:xb) (c:xc) (d:xd) (e:xe) (f:xf) (g:xg) (i:xh) (j:xi) (k:xj):Yh xa/\Yh xb/\Yh xc/\Yh xd/\Yh xe/\Yh xf/\Yh xg/\Yh xh/\Yh xi/\Yh xj:=⟨a,b,c,d,e,f,g,i,j,k⟩
def tI:(prog.info? 36).map (λi=>(i.zero,i.size,i.bytes))=some (some (.slice none 0 0),1,24):=by kernel_rfl
def DH:(prog.info? 3).map (λi=>(i.zero,i.size,i.bytes))=some (some (iV 0),1,8):=by kernel_rfl
abbrev bL (im dj:Value) (fuse life r wr fl rf:Int):Array Value:=
   #[im,dj,iV fuse,iV life,iV r,iV wr,iV fl,iV rf,iV 0]
def FL (a:Option Addr) (n c:Nat) (w:World):
  Calls prog 45 #[.slice a n c] w λe w'=>e= .returned (.pointer (some ⟨w.heap.size+1,0,none⟩))/\
   w'=(w.alloc (.map #[] 0)).alloc (.cells (bL (.slice a n c) (.map (some w.heap.size)) (-1) 1 0 0 0 0) 106):=by
 have Cp:= @run_makeMap prog;go_in;go_wp2;go_ret;exact⟨rfl,rfl⟩
def vi (p:Nat) (a:Int) (w:World) (b:w.cell? (aD p 2)=some (iV a)):
  Calls prog 35 #[pQ p] w λe w'=>e= .returned (.bool (a == 0))/\w'=w:=by
 go_in;go_wp2;go_ret;exact⟨rfl,rfl⟩
def Qb (p:Nat) (a:Int) (w:World) (b:w.cell? (aD p 3)=some (iV a)):
  Calls prog 22 #[pQ p] w λe w'=>e= .returned (iV a)/\w'=w:=by
 go_in;go_wp2;go_ret;exact⟨rfl,rfl⟩
def wq (p:Nat) (a:Option Addr) (n c:Nat) (w:World) (d:n<=1048576) (b:w.cell? (aD p 0)=some (.slice a n c)):
  Calls prog 47 #[pQ p] w λe w'=>e= .returned (iV ((n / 512:Nat):Int))/\w'=w:=by
 go_in;go_wp2;go_ret;exact⟨by go_num,rfl⟩
def tJ (p:Nat) (a:Option Addr) (n c:Nat) (b:Int) (w:World) (f:n<=1048576) (d:w.cell? (aD p 0)=some (.slice a n c)):
  Calls prog 94 #[pQ p,iV b] w λe w'=>e= .returned (.bool (decide (0<=b) && decide (b<((n / 512:Nat):Int))))/\w'=w:=by
 by_cases h0:0<=b
 .go_in;go_wp2_with (go_at_call 47;refine(wq _ _ _ _ _ f d).mono ?_;rintro e w' ⟨rfl,rfl⟩);go_ret;exact⟨by simp [h0],rfl⟩
 .go_in;go_wp2;go_ret;exact⟨by simp;omega,rfl⟩
def sw (p:Nat) (b a:Int) (w:World) (c:w.cell? (aD p 7)=some (iV b)) (d:w.frozen? (aD p 7)=false):
  Calls prog 95 #[pQ p,iV a] w λe w'=>e= .returned (iV a)/\w'=w.setCell ⟨p,7,none⟩ (.int .i64 (wrap64 (b+1))):=by
 go_in;go_wp2;go_ret;exact⟨rfl,rfl⟩
def Cq (p:Nat) (a:Int) (w:World) (b:w.cell? (aD p 2)=some (iV a)) (c:w.frozen? (aD p 2)=false) (d: -1<=a):
  Calls prog 106 #[pQ p] w λe w'=>e= .returned (.tuple #[])/\w'=if 0<a then w.setCell ⟨p,2,none⟩ (.int .i64 (wrap64 (a-1))) else w:=by
 by_cases h:0<a
 .go_in;go_wp2
  go_end0
  exact⟨rfl,rfl⟩
 .go_in;go_wp2
  go_end0
  exact⟨rfl,rfl⟩
def Qc (p:Nat) (a:Int) (w:World) (b:w.cell? (aD p 3)=some (iV a)) (c:w.frozen? (aD p 3)=false):
  Calls prog 48 #[pQ p] w λe w'=>e= .returned (iV (wrap64 (a+1)))/\w'=w.setCell ⟨p,3,none⟩ (.int .i64 (wrap64 (a+1))):=by
 go_in;go_wp2;go_ret;exact⟨rfl,rfl⟩
def Up (p:Nat) (b a:Int) (w:World) (c:w.cell? (aD p 2)=some (iV b)) (f:w.frozen? (aD p 2)=false):
  Calls prog 26 #[pQ p,iV a] w λe w'=>e= .returned (.tuple #[])/\w'=if b=0 then w else w.setCell ⟨p,2,none⟩ (.int .i64 (max a (-1))):=by
 by_cases h:b=0
 .have d:(b == 0)=true:=by simp [h]
  go_in;go_wp2_with (go_at_call 35;refine(vi _ _ _ c).mono ?_;rintro e w' ⟨rfl,rfl⟩);exact bodyPost_ret (results_none rfl _ _ _) rfl ⟨rfl,rfl⟩
 .have d:(b == 0)=false:=by simp [h]
  go_in;go_wp2_with (go_at_call 35;refine(vi _ _ _ c).mono ?_;rintro e w' ⟨rfl,rfl⟩);all_goals
   go_end0
   refine⟨rfl,?_⟩;first|rw [show max a (-1)=a by omega]|rw [show max a (-1)= -1 by omega]
def pC (p b n c s:Nat) (a:Int) (k:Nat) (w:World) (f:w.cell? (aD p 0)=some (.slice (some (aD b 0)) n c)) (d:a=(k:Int)) (ez:k<s) (i:n=s*512) (j:s<=2048) (g:n<=c):
  Calls prog 107 #[pQ p,iV a] w λe w'=>e= .returned (.slice (some ⟨b,k*512,none⟩) 512 512)/\w'=w:=by
 subst d;go_in;have e:(k+1)*512-k*512=512:=by omega
 go_wp2;go_ret;exact⟨congrArg (λz=>Ending.returned (Value.slice (some ⟨b,k*512,none⟩) z z)) e,rfl⟩
structure DS where
 im:List Int
 puts:List (Nat×List Int)
 fuse:Int
 life:Int
 reads:Int
 writes:Int
 flushes:Int
 refused:Int
def au (puts:List (Nat×List Int)) (k:Nat):List (List Int):=(puts.filter (λq=>q.1 == k)).map (·.2)
structure DS.Ok (S:DS) (s:Nat):Prop where
 len:S.im.length=s*512
 lo:1<=s
 hi:s<=2048
 puts:∀q∈S.puts,q.1<s/\q.2.length=512
 fuse: -1<=S.fuse/\S.fuse<=9223372036854775807
def fk (w:World) (F:Nat->Prop) (gi:Nat):List Value->List (List Int)->Prop
 | [], []=>True
 |v :: vs,l :: ls=>(∃g c,v= .slice (some (aD g 0)) 512 c/\F g/\g≠gi/\ay w 5 g c (bs l))/\fk w F gi vs ls
 |_,_=>False
def Rs (v:Value):Option (DataW Value×List MemPlace):=
 match v with
 | .slice _ _ _=>some (.held v, [])
 |_=>none
def gu:Keyed prog 3:=int_keyed underlying3
abbrev kk (k:Nat):Lit:= .int .i64 (k:Int)
structure ig (w:World) (F:Nat->Prop) (gi:Nat) (D:DataW Value) (gr cr:Nat->Nat) (dj:Nat->List (List Int)):Prop where
 keys:∀kl,has D kl=true->∃k:Nat,kl=kk k/\dj k≠ []
 FM:∀k,dj k= []->has D (kk k)=false
 look:∀k,dj k≠ []->∀z,D.atKey (kk k) z= .held (.slice (some ⟨gr k,0,none⟩) (dj k).length (cr k))
 row:∀k,dj k≠ []->F (gr k)/\∃xs,ay w 36 (gr k) (cr k) xs/\fk w F gi xs (dj k)
 inj:∀k k',dj k≠ []->dj k'≠ []->gr k=gr k'->k=k'
structure aO (w:World) (F:Nat->Prop) (p s:Nat) (S:DS) (gi ci m:Nat) (D:DataW Value) (gr cr:Nat->Nat):Prop where
 fp:F p
 Uq:F gi
 fm:F m
 lt:∀k,F k->k<w.heap.size
 dI:w.heap[p]? =some (.cells (bL (.slice (some ⟨gi,0,none⟩) (s*512) ci) (.map (some m)) S.fuse S.life S.reads S.writes S.flushes S.refused) 106 (0,0))
 JB:ay w 5 gi ci (bs S.im)
 map:w.ownsMap prog 3 Rs m S.puts.length D
 dj:ig w F gi D gr cr (au S.puts)
 ok:S.Ok s
def aQ (w:World) (F:Nat->Prop) (p s:Nat) (S:DS):Prop:=∃gi ci m D gr cr,aO w F p s S gi ci m D gr cr
def fk.agree {w w':World} {F:Nat->Prop} {a:Nat} (b:∀k,F k->w'.heap[k]? =w.heap[k]?):∀{xs:List Value} {d:List (List Int)},fk w F a xs d->fk w' F a xs d
 | [], [],_=>trivial
 |_ :: _,_ :: _,⟨⟨g,c,h1,h2,h3,h4⟩,h5⟩=>⟨⟨g,c,h1,h2,h3,h4.agree (b g h2)⟩,fk.agree b h5⟩
 | [],_ :: _,h=>h.elim
 |_ :: _, [],h=>h.elim
def fk.carry {w w':World} {F:Nat->Prop} {a:Nat} (b:∀g c xs,F g->g≠a->ay w 5 g c xs->ay w' 5 g c xs):∀{xs:List Value} {d:List (List Int)},fk w F a xs d->fk w' F a xs d
 | [], [],_=>trivial
 |_ :: _,_ :: _,⟨⟨g,c,h1,h2,h3,h4⟩,h5⟩=>⟨⟨g,c,h1,h2,h3,b g c _ h2 h3 h4⟩,fk.carry b h5⟩
 | [],_ :: _,h=>h.elim
 |_ :: _, [],h=>h.elim
def fk.mono {w:World} {F G:Nat->Prop} {a:Nat} (b:∀k,F k->G k):∀{xs:List Value} {d:List (List Int)},fk w F a xs d->fk w G a xs d
 | [], [],_=>trivial
 |_ :: _,_ :: _,⟨⟨g,c,h1,h2,h3,h4⟩,h5⟩=>⟨⟨g,c,h1,b g h2,h3,h4⟩,fk.mono b h5⟩
 | [],_ :: _,h=>h.elim
 |_ :: _, [],h=>h.elim
def fk.length {w:World} {F:Nat->Prop} {b:Nat}:∀{xs:List Value} {a:List (List Int)},fk w F b xs a->xs.length=a.length
 | [], [],_=>rfl
 |_ :: _,_ :: _,⟨_,h5⟩=>by simp [fk.length h5]
 | [],_ :: _,h=>h.elim
 |_ :: _, [],h=>h.elim
def fk.snoc {w:World} {F:Nat->Prop} {a:Nat} {v:Value} {l:List Int} (b:∃g c,v= .slice (some (aD g 0)) 512 c/\F g/\g≠a/\ay w 5 g c (bs l)):
  ∀{xs:List Value} {d:List (List Int)},fk w F a xs d->fk w F a (xs ++ [v]) (d ++ [l])
 | [], [],_=>⟨b,trivial⟩
 |_ :: _,_ :: _,⟨h,h5⟩=>⟨h,fk.snoc b h5⟩
 | [],_ :: _,h=>h.elim
 |_ :: _, [],h=>h.elim
def fk.get {w:World} {F:Nat->Prop} {b:Nat}:∀{xs:List Value} {a:List (List Int)},fk w F b xs a->∀j (hj:j<a.length),∃g c,xs[j]? =some (.slice (some (aD g 0)) 512 c)/\F g/\g≠b/\ay w 5 g c (bs a[j])
 | [], [],_,j,hj=>by simp at hj
 |v :: vs,l :: a,⟨⟨g,c,h1,h2,h3,h4⟩,h5⟩,j,hj=>by
  cases j with
  |zero=>exact⟨g,c,by simp [h1],h2,h3,h4⟩
  |succ j=>simpa using fk.get h5 j (by simpa using hj)
 | [],_ :: _,h,_,_=>h.elim
 |_ :: _, [],h,_,_=>h.elim
def aQ.lt {S:DS} (h:aQ w F p s S):∀k,F k->k<w.heap.size:=by
 obtain⟨c,a,m,D,d,b,_,_,_,h,_⟩:=h;exact h
def aQ.ok {S:DS} (h:aQ w F p s S):S.Ok s:=by
 obtain⟨c,a,m,D,d,b,_,_,_,_,_,_,_,_,h⟩:=h;exact h
def eA {m:Nat} {D:DataW Value} (h:w.ownsMap prog 3 Rs m n D) (e:w'.heap[m]? =w.heap[m]?):w'.ownsMap prog 3 Rs m n D:=by
 obtain⟨b,a,c,d⟩:=h;exact⟨b,a,e.trans c,d⟩
def ig.agree {D:DataW Value} (h:ig w F gi D gr cr dj) (b:∀k,F k->w'.heap[k]? =w.heap[k]?):
  ig w' F gi D gr cr dj:=
   ⟨h.keys,h.FM,h.look,λk e=>by
  obtain⟨a,xs,c,d⟩:=h.row k e;exact⟨a,xs,c.agree (b _ a),d.agree b⟩,h.inj⟩
def ig.carry {D:DataW Value} (h:ig w F gi D gr cr dj)
    (e:∀g c xs,F g->g≠gi->ay w 5 g c xs->ay w' 5 g c xs) (i:∀g c xs,F g->ay w 36 g c xs->ay w' 36 g c xs):ig w' F gi D gr cr dj:=
   ⟨h.keys,h.FM,h.look,λk f=>by
  obtain⟨a,xs,b,d⟩:=h.row k f;exact⟨a,xs,i _ _ _ a b,d.carry e⟩,h.inj⟩
def ay.other {f:Nat×Nat} (h:ay w e g c xs) (j:aa (λk=>k=q) w w') (l:w.heap[q]? =some (.cells cur e' f)) (i:e'≠e):ay w' e g c xs:=by
 refine h.agree (j.block g h.lt (λd=>?_));obtain⟨b,a,_⟩:=h;rw [d,l] at a;simp at a;exact i a.2.1
def ay.ne {f:Nat×Nat} (h:ay w e g c xs) (j:w.heap[q]? =some (.cells cur e' f)) (i:e'≠e):g≠q:=by
 intro d;obtain⟨b,a,_⟩:=h;rw [d,j] at a;simp at a;exact i a.2.1
def gL {m:Nat} {D:DataW Value} {d:Nat×Nat} (h:w.ownsMap prog 3 Rs m n D) (f:w.heap[q]? =some (.cells cur e d)):m≠q:=by
 obtain⟨g,a,b,_⟩:=h;intro c;rw [c,f] at b;simp at b
def ig.mono {D:DataW Value} (h:ig w F gi D gr cr dj) (a:∀k,F k->G k):
  ig w G gi D gr cr dj:=
   ⟨h.keys,h.FM,h.look,λk e=>by
  obtain⟨b,xs,c,d⟩:=h.row k e;exact⟨a _ b,xs,c,d.mono a⟩,h.inj⟩
def aQ.agree {S:DS} (h:aQ w F p s S) (u:w.heap.size<=w'.heap.size) (a:∀k,F k->w'.heap[k]? =w.heap[k]?):aQ w' F p s S:=by
 obtain⟨b,f,m,D,i,g,c,d,e,j,l,n,o,q,r⟩:=h;exact⟨b,f,m,D,i,g,c,d,e,λk t=>iL (j k t) u,(a p c).trans l,n.agree (a b d),eA o (a m e),q.agree a,r⟩
def aQ.aw {S:DS} (h:aQ w F p s S) (k:aa G w w') (hd:∀k,F k->¬G k):aQ w' F p s S:=
 h.agree k.size (λj a=>k.block j (h.lt j a) (hd j a))
def aQ.mono {S:DS} (h:aQ w F p s S) (a:∀k,F k->G k) (r:∀k,G k->k<w.heap.size):aQ w G p s S:=by
 obtain⟨d,b,m,D,e,c,f,g,i,t,j,l,n,o,q⟩:=h;exact⟨d,b,m,D,e,c,a _ f,a _ g,a _ i,r,j,l,n,o.mono a,q⟩
def gV (w:World) (F:Nat->Prop) (p s:Nat) (S:DS) (m:Nat):Prop:=∃gi ci D gr cr,aO w F p s S gi ci m D gr cr
def gV.at {S:DS} {m:Nat} (h:gV w F p s S m):aQ w F p s S:=by
 obtain⟨c,a,D,d,b,h⟩:=h;exact⟨c,a,m,D,d,b,h⟩
def aQ.m {S:DS} (h:aQ w F p s S):∃m,gV w F p s S m:=by
 obtain⟨c,a,m,D,d,b,h⟩:=h;exact⟨m,c,a,D,d,b,h⟩
def gV.agree {S:DS} {m:Nat} (h:gV w F p s S m) (u:w.heap.size<=w'.heap.size) (a:∀k,F k->w'.heap[k]? =w.heap[k]?):gV w' F p s S m:=by
 obtain⟨b,f,D,i,g,c,d,e,j,l,n,o,q,r⟩:=h;exact⟨b,f,D,i,g,c,d,e,λk t=>iL (j k t) u,(a p c).trans l,n.agree (a b d),eA o (a m e),q.agree a,r⟩
def gV.aw {S:DS} {m:Nat} (h:gV w F p s S m) (k:aa G w w') (hd:∀k,F k->¬G k):gV w' F p s S m:=
 h.agree k.size (λj a=>k.block j (h.at.lt j a) (hd j a))
def gV.mono {S:DS} {m:Nat} (h:gV w F p s S m) (a:∀k,F k->G k) (r:∀k,G k->k<w.heap.size):gV w G p s S m:=by
 obtain⟨d,b,D,e,c,f,g,i,t,j,l,n,o,q⟩:=h;exact⟨d,b,D,e,c,a _ f,a _ g,a _ i,r,j,l,n,o.mono a,q⟩
def aO.nE {S S':DS} {m:Nat} {D:DataW Value} (h:aO w F p s S gi ci m D gr cr) (a:aa (λk=>k=p) w w')
    (i:w'.heap[p]? =some (.cells (bL (.slice (some ⟨gi,0,none⟩) (s*512) ci) (.map (some m)) S'.fuse S'.life S'.reads S'.writes S'.flushes S'.refused) 106 (0,0))) (e:S'.im=S.im) (b:S'.puts=S.puts) (f: -1<=S'.fuse/\S'.fuse<=9223372036854775807):
  aO w' F p s S' gi ci m D gr cr:=by
 refine⟨h.fp,h.Uq,h.fm,λk j=>iL (h.lt k j) a.size,i,?_,?_,?_,⟨?_,h.ok.lo,h.ok.hi,?_,f⟩⟩
 .rw [e];exact h.JB.other a h.dI (by decide)
 .rw [b];exact eA h.map (a.block m (h.lt m h.fm) (gL h.map h.dI))
 .rw [b];exact h.dj.carry (λg c xs _ _ d=>d.other a h.dI (by decide)) (λg c xs _ d=>d.other a h.dI (by decide))
 .rw [e];exact h.ok.len
 .rw [b];exact h.ok.puts
def ig.empty (w:World) (F:Nat->Prop) (b:Nat) (c a:Nat->Nat):ig w F b (.map []) c a (au []):=
   ⟨λd h=>by simp [has] at h,λ_ _=>rfl,λk h=>absurd rfl h,λk h=>absurd rfl h,λk _ h=>absurd rfl h⟩
def qR (a:Addr) (n c:Nat) (l:List Int) (w:World) (C:l.length=n) (aU:n<=140737488355328) (p:∀i,i<n->w.cell? (a.add i)=some (.int .u8 (l.getD i 0))):
  Calls prog 93 #[.slice (some a) n c] w λe w'=>∃g c',e= .returned (.slice (some (aD g 0)) n c')/\w.heap.size<=g/\ay w' 5 g c' (bs l)/\bW w w':=by
 obtain⟨z,r,gC,dE,em⟩:=info_parts gq;have A:∀(w:World) (a:Option Addr) (n c f c':Nat),(binOp .eql 36 (.slice a n c) (.slice none f c')).run prog w= .ok (.bool a.isNone) w:=λw a n c f c'=>Lib.run_eql_slice_nil w _ _ a n c f c' underlying36;go_in;go_wp2_with (at_builtin;refine wpList_append_own _ rfl _ _ 36 rfl w.heap.size 5 z (.int .u8 0) 1 1 underlying36 r gC dE em rfl (by decide) _ _ _ rfl (World.ownsRow_made w #[] 0 (bR _) (dL _) rfl) a n c (bs l) rfl ?qc1 ?qc2 ?qc3 ?qc4 ?qc5 ?qc6 ?_);case qc1=>simp;omega
 case qc2=>
  intro j u b;have d:j<n:=by
   have:=(mS.1 b).1;simp at this;omega
  refine Lib.cell?_alloc_some _ ?_;rw [p j d];have e:(bs l)[j]? =some (Value.int .u8 (l.getD j 0)):=by simp [bs,List.getD,qQ (show j<l.length by omega)]
  rw [e] at b;exact b
 case qc3=>intro u v;obtain⟨x,_,rfl⟩:=List.mem_map.1 v;rfl
 case qc4=>unfold maxLen;omega
 case qc5=>omega
 case qc6=>simp
 intro m w1 aA aR jI;have o:=((bi _ w).alloc (bR _) _).grown aR (by simp) (by intro k s;simp [Value.ownBlock] at s;omega);have y:m≠ .slice none 0 0:=by first|exact jI|(intro e;exact absurd (jI.1 e).1 (by simp))
 have cN:w1.ownsRow w.heap.size 5 1 m n (bs l):=by simpa using aA
 obtain⟨g,c',rfl,q,t,_⟩:=ay.fg cN y;go_wp2;go_ret;exact⟨g,c',rfl,q,t,o⟩
def DS.fresh (l:List Int):DS:={im:=l,puts:= [],fuse:= -1,life:=1,reads:=0,writes:=0,flushes:=0,refused:=0}
def I5 {w0:World} (b:bW w0 w1) (o:w0.heap.size<=g) (d:ay w1 5 g c (bs l)) (n:l.length=s*512) (j:1<=s) (m:s<=2048):
  let w':=(w1.alloc (.map #[] 0)).alloc (.cells (bL (.slice (some ⟨g,0,none⟩) (s*512) c) (.map (some w1.heap.size)) (-1) 1 0 0 0 0) 106)
  aQ w' (λk=>w0.heap.size<=k/\k<w'.heap.size) (w1.heap.size+1) s (DS.fresh l)/\bW w0 w':=by
 intro w';have Vf:=d.lt;have p:=b.size;have eM:w'.heap.size=w1.heap.size+2:=by simp [w']
 have e:∀k,k<w1.heap.size->w'.heap[k]? =w1.heap[k]? :=λk a=>by
  rw [Below.heap_alloc _ _ _ (by simp;omega),Below.heap_alloc _ _ _ a]
 have f:w'.heap[w1.heap.size]? =some (.map #[] 0):=by
  rw [Below.heap_alloc _ _ _ (by simp)];exact heap_alloc_new _ _
 have i:w'.heap[w1.heap.size+1]? =some (.cells (bL (.slice (some ⟨g,0,none⟩) (s*512) c) (.map (some w1.heap.size)) (-1) 1 0 0 0 0) 106 (0,0)):=by
  have:=heap_alloc_new (w1.alloc (.map #[] 0)) (.cells (bL (.slice (some ⟨g,0,none⟩) (s*512) c) (.map (some w1.heap.size)) (-1) 1 0 0 0 0) 106);have el:(w1.alloc (.map #[] 0)).heap.size=w1.heap.size+1:=by simp
  rw [el] at this;exact this
 refine⟨⟨g,c,w1.heap.size, .map [],λ_=>0,λ_=>0,⟨by omega,by omega⟩,⟨by omega,by omega⟩,⟨by omega,by omega⟩,λk a=>a.2,i,d.agree (e g Vf),?_,ig.empty _ _ _ _ _,⟨n,j,m,by simp [DS.fresh],by simp [DS.fresh]⟩⟩,?_⟩
 .have:=World.ownsMap_made w1 prog 3 Rs;exact eA this (by rw [f];exact(heap_alloc_new _ _).symm)
 .exact(b.alloc (by omega) _).alloc (by simp;omega) _
def Y6 (s:Int) (w:World) (h:s<1\/2048<s):
  Calls prog 16 #[iV s] w λe w'=>e= .returned (.tuple #[.pointer none,iV 10])/\w'=w:=by
 go_in;rcases h with h|h
 .go_wp2;go_ret2;exact⟨rfl,rfl⟩
 .have a:¬s<1:=by omega
  go_wp2;go_ret2;exact⟨rfl,rfl⟩
def Qd (s:Nat) (w:World) (a:1<=s) (b:s<=2048):
  Calls prog 16 #[iV s] w λe w'=>∃p,e= .returned (.tuple #[pQ p,iV 0])/\
   aQ w' (λk=>w.heap.size<=k/\k<w'.heap.size) p s (DS.fresh (List.replicate (s*512) 0))/\bW w w':=by
 obtain⟨i,f,gC,dE,em⟩:=info_parts gq;have Y7:¬(s:Int)<1:=by omega
 have c:¬(2048:Int)<(s:Int):=by omega
 go_in;go_wp2_with (at_make;refine wpList_make_full _ rfl _ _ 36 rfl w.heap.size 5 i (.int .u8 0) 1 underlying36 f gC dE _ _ _ _ (s*512) rfl rfl ?c1 ?c2 ?c3 ?c4 ?c5 ?_);case c3=>omega
 case c4=>unfold maxLen;omega
 intro w1 aA aR;have d:=(bi _ w).grown aR (bR _) (by intro k g;cases g);go_wp2_with (go_at_call 45;refine(FL _ _ _ _).mono ?_;rintro e w' ⟨rfl,rfl⟩);go_ret2;exact⟨_,rfl,I5 d (bR _) (lZ aA) (by simp) a b⟩
def Qe (a:Option Addr) (n c:Nat) (w:World) (h:n%512≠0) (d:n<=140737488355328):
  Calls prog 41 #[.slice a n c] w λe w'=>e= .returned (.tuple #[.pointer none,iV 2])/\w'=w:=by
 have b:(((n:Int)%512) != 0)=true:=by rw [gg];omega
 go_in;go_wp2;go_ret2;exact⟨rfl,rfl⟩
def Vg (a:Option Addr) (n c:Nat) (w:World) (h:n%512=0) (b:n=0\/1048576<n) (f:n<=140737488355328):
  Calls prog 41 #[.slice a n c] w λe w'=>e= .returned (.tuple #[.pointer none,iV 10])/\w'=w:=by
 have d:(((n:Int)%512) != 0)=false:=by rw [Bool.eq_false_iff,ne_eq,gg];omega
 go_in;rcases b with h0|h0
 .have PG:((n:Int) == 0)=true:=by rw [beq_iff_eq];omega
  go_wp2;go_ret2;exact⟨rfl,rfl⟩
 .have PG:((n:Int) == 0)=false:=by rw [Bool.eq_false_iff,ne_eq,beq_iff_eq];omega
  go_wp2;go_ret2;exact⟨rfl,rfl⟩
def Vh (a:Addr) (n c s:Nat) (l:List Int) (w:World) (q:n=s*512) (t:1<=s) (u:s<=2048) (r:l.length=n) (j:∀i,i<n->w.cell? (a.add i)=some (.int .u8 (l.getD i 0))):
  Calls prog 41 #[.slice (some a) n c] w λe w'=>∃p,e= .returned (.tuple #[pQ p,iV 0])/\
   aQ w' (λk=>w.heap.size<=k/\k<w'.heap.size) p s (DS.fresh l)/\bW w w':=by
 have x:(((n:Int)%512) != 0)=false:=by rw [Bool.eq_false_iff,ne_eq,gg];omega
 have PG:((n:Int) == 0)=false:=by rw [Bool.eq_false_iff,ne_eq,beq_iff_eq];omega
 have y:¬(1048576:Int)<(n:Int):=by omega
 have H:Yh (∀i,i<n->w.cell? (a.add i)=some (.int .u8 (l.getD i 0))):=j;have d:Yh (n=s*512):=q;clear j q;go_in;go_wp2_with fail;refine(qR a n c l w r (by omega) H.o).mono ?_;rintro e w1 ⟨g,c',rfl,v,m,f⟩;have b:=yh (I5 f v m (r.trans d.o) t u);rw [<-d.o] at b;clear m f;go_wp2_with (go_at_call 45;refine(FL _ _ _ _).mono ?_;rintro e w' ⟨rfl,rfl⟩);go_ret2;exact⟨_,rfl,b.o⟩
def Na (p s:Nat) (F:Nat->Prop) (S:DS) (w:World) (h:aQ w F p s S):
  Calls prog 33 #[pQ p] w λe w'=>∃g c,e= .returned (.slice (some (aD g 0)) (s*512) c)/\w.heap.size<=g/\ay w' 5 g c (bs S.im)/\bW w w':=by
 obtain⟨d,b,m,D,u,t,v,x,y,z,f,j,A,C,a⟩:=h;have r:=aM f;have o:=a.len;have n:=a.hi;have yK:=qR (aD d 0) (s*512) b S.im w o (by omega) (λi n=>j.byte (by omega));go_in;go_wp2_with (go_at_call 93;refine yK.mono ?_;rintro e w' ⟨g,c,rfl,l,q,k⟩);go_ret;exact⟨g,c,rfl,l,q,k⟩
def Qf (b o f g:Nat) (n c d:Nat) (l:List Int) (w:World) (s:n<=140737488355328) (j:∀i,i<n->w.cell? ⟨b,o+i,none⟩=some (.int .u8 (l.getD i 0))) (m:∀i,i<n->w.cell? ⟨f,g+i,none⟩=some (.int .u8 (l.getD i 0))):
  Calls prog 21 #[.slice (some (aD b o)) n c, .slice (some (aD f g)) n d] w λe w'=>e= .returned (.bool true)/\bW w w':=by
 go_in;go_wp2;go_loopw [5] (λi wr=>∃k:Nat,k<=n/\i=iV k/\bW w wr) (λi _=>n-(intOf i).toNat);case atStart=>exact⟨0,dL _,rfl,bi _ _⟩
 case round=>
  obtain⟨k,r,rfl,a⟩:=hrel;by_cases bq:k<n
  .have p:=cell_later a (j k bq);have q:=cell_later a (m k bq);have cC:(k:Int)<(n:Int):=(by omega);go_wp2;go_quiet (fail);go_wp2;go_roundw;case rel=>exact⟨k+1,by omega,by go_num,below_drewN a _⟩
   case measure=>simp [intOf];omega
  .have cC:¬(k:Int)<(n:Int):=(by omega);go_wp2;go_ret;exact⟨rfl,a⟩
def Cr (a b:Option Addr) (c d:Nat) (w:World):
  Calls prog 21 #[.slice a 0 c, .slice b 0 d] w λe w'=>e= .returned (.bool true)/\w'=w:=by
 go_in;go_wp2;refine wp_loop_rounds 1 ?_;rw [rounds_succ];go_wp2;go_ret;exact⟨rfl,rfl⟩
def pD (a b:Option Addr) (n c d:Nat) (l:List Int) (w:World) (k:n<=140737488355328) (f:Src w a n l) (g:Src w b n l):
  Calls prog 21 #[.slice a n c, .slice b n d] w λe w'=>e= .returned (.bool true)/\bW w w':=by
 by_cases h0:n=0
 .subst h0;exact(Cr a b c d w).mono (by rintro e w' ⟨rfl,rfl⟩;exact⟨rfl,bi _ _⟩)
 .cases a with
  |none=>exact absurd (f.2.1 rfl) h0
  |some x=>
   cases b with
   |none=>exact absurd (g.2.1 rfl) h0
   |some y=>
    obtain⟨i,p,rfl,m⟩:=f.spot (by omega);obtain⟨j,q,rfl,o⟩:=g.spot (by omega);exact Qf i p j q n c d l w k m o
def pE (left:Lit->Bool) (puts:List (Nat×List Int)):Nat:=(puts.filter (λq=> !left (kk q.1))).length
def lI (a b:Nat):(kk a).sameKey (kk b)=(a == b):=by
 by_cases h:a=b
 .subst h;simp [WideAt.sameKey_self (show WideAt.IsKeyLit (kk a) from trivial)]
 .rw [Maps.sameKey_ne (by intro e;simp [kk] at e;omega)];simp [h]
def yL (left:Lit->Bool) (k:Nat) (a:left (kk k)=true):∀puts:List (Nat×List Int),pE (λz=>left z && !z.sameKey (kk k)) puts=pE left puts+(au puts k).length
 | []=>by simp [pE,au]
 |q :: r=>by
  have c:=yL left k a r;unfold pE au at*;by_cases h:q.1=k
  .simp [h,a,lI] at*;omega
  .by_cases b:left (kk q.1)=true
   .simp [h,b,lI] at*;omega
   .simp [h,b,lI] at*;omega
def FN {D:DataW Value} {puts:List (Nat×List Int)} (h:∀q∈puts,has D (kk q.1)=true):pE (has D) puts=0:=by
 unfold pE;rw [List.length_eq_zero_iff,List.filter_eq_nil_iff];intro q a;simp [h q a]
def Nb {left:Lit->Bool} {puts:List (Nat×List Int)} (h:∀kl,left kl=false):pE left puts=puts.length:=by
 unfold pE;rw [List.filter_eq_self.2 (λq _=>by simp [h])]
def Qg (left:Lit->Bool) (puts:List (Nat×List Int)):pE left puts<=puts.length:=List.length_filter_le _ _
def Qh {puts:List (Nat×List Int)} {q:Nat×List Int} (h:q∈puts):au puts q.1≠ []:=by
 unfold au;intro e;rw [List.map_eq_nil_iff,List.filter_eq_nil_iff] at e;exact e q h (by simp)
def ig.has {D:DataW Value} (h:ig w F gi D gr cr dj) (a:dj k≠ []):Maps.has D (kk k)=true:=
 Maps.has_true_of_atKey (h.look k a)
abbrev Nc (c:Option Addr×Nat×Nat):Value:= .slice c.1 c.2.1 c.2.2
def sx (v:Value) (y:DataW Value×List MemPlace) (h:Rs v=some y):∃c,v=Nc c:=by
 unfold Rs at h;split at h
 .exact⟨(_,_,_),rfl⟩
 .cases h
def FO (c:Option Addr×Nat×Nat):Rs (Nc c)=some (.held (Nc c), []):=rfl
def ig.met {D:DataW Value} (h:ig w F gi D gr cr dj) {x:Int} {c:Option Addr×Nat×Nat} {b:Lit} {y:DataW Value×List MemPlace}
    (gW:keyOf prog 3 (iV x)=some b) (f:Rs (Nc c)=some y) (it:∀zd,D.atKey b zd=y.1):
  ∃k:Nat,x=(k:Int)/\b=kk k/\dj k≠ []/\c=(some ⟨gr k,0,none⟩,(dj k).length,cr k):=by
 obtain⟨k,rfl,e⟩:=h.keys b (Maps.has_true_of_atKey it);obtain⟨m,i,g,_⟩:=Maps.keyOf_int_inv underlying3 gW;have j:x=(k:Int):=by cases i;simpa [kk] using g.symm
 rw [FO] at f;cases f;have d:=it .nil;rw [h.look k e] at d;obtain⟨a,n,l⟩:=c;simp [Nc] at d;exact⟨k,j,rfl,e,by simp [d]⟩
def Qi {b:Nat} {t:TypeId} {g i j k l:Value} (a c d e f:Value) (h:w.heap[b]? =some (.cells #[g,i,j,k,l] t (0,0))):
    (((((w.setCell ⟨b,0,none⟩ a).setCell ⟨b,1,none⟩ c).setCell ⟨b,2,none⟩ d).setCell ⟨b,3,none⟩ e).setCell ⟨b,4,none⟩ f).heap[b]? =some (.cells #[a,c,d,e,f] t (0,0)):=by
 simpa using (heap_setCell_same _ b 4 _ t f (heap_setCell_same _ b 3 _ t e (heap_setCell_same _ b 2 _ t d (heap_setCell_same _ b 1 _ t c (heap_setCell_same w b 0 _ t a h)))))
abbrev ef (r wr fl rf pe:Int):Array Value:= #[iV r,iV wr,iV fl,iV rf,iV pe]
def JC (p s:Nat) (F:Nat->Prop) (S:DS) (w:World) (h:aQ w F p s S) (aU:S.puts.length<=140737488355328):
  Calls prog 37 #[pQ p] w λe w'=>e= .returned (.agg (ef S.reads S.writes S.flushes S.refused S.puts.length))/\bW w w':=by
 obtain⟨W,O,m,D,X,P,r,Y,t,f,a,Z,u,g,h9⟩:=h;obtain⟨I,J,K,L,M,N,pF,Cs⟩:=xA (bG a) (gH a) (sv a) (xz a) (rH a) (DG a) (f p r) (f m t);go_in;go_wp2_with (at_range;refine wpList_range_own _ rfl _ 104 rfl 3 62 gu underlying104 Rs m S.puts.length D rfl ((u.alloc _).alloc _) ?_;intro w0 pG vd yM;go_frame);have b:((w.alloc (Obj.cells (ef 0 0 0 0 0) 65)).alloc (Obj.cells (ef S.reads S.writes S.flushes S.refused 0) 65)).heap.size=w.heap.size+2:=by simp
 rw [b] at pG yM⊢;have DI:=(vd.block w.heap.size (by rw [b];omega) (by simp)).trans ((Below.heap_alloc _ _ _ (by simp)).trans (heap_alloc_new w (Obj.cells (ef 0 0 0 0 0) 65)));have bN:w0.heap[w.heap.size+1]? =some (Obj.cells (ef S.reads S.writes S.flushes S.refused 0) 65 (0,0)):=by
  refine(vd.block (w.heap.size+1) (by rw [b];omega) (by simp)).trans ?_;have:=heap_alloc_new (w.alloc (Obj.cells (ef 0 0 0 0 0) 65)) (Obj.cells (ef S.reads S.writes S.flushes S.refused 0) 65);have n:(w.alloc (Obj.cells (ef 0 0 0 0 0) 65)).heap.size=w.heap.size+1:=by simp
  rw [n] at this;exact this
 have lF:=(((bi _ w).alloc (bR _) _).alloc (by simp) _).grown vd (by rw [b];omega) (λj d=>by cases d);go_loopw [5] (λ_ wr=>∃(left:Lit->Bool) (eu:Nat),wr.ranges prog 3 Rs m (w.heap.size+2) S.puts.length D left eu/\
   wr.heap[w.heap.size]? =some (Obj.cells (ef 0 0 0 0 0) 65 (0,0))/\
   wr.heap[w.heap.size+1]? =some (Obj.cells (ef S.reads S.writes S.flushes S.refused (pE left S.puts:Nat)) 65 (0,0))/\bW w wr)
    (λ_ wr=>wr.rangeLeft m (w.heap.size+2))
 case atStart=>exact⟨_,_,pG,DI,by rw [(FN (λq A=>g.has (Qh A)))];exact bN,lF⟩
 case round=>
  obtain⟨left,eu,mU,DI,bN,c⟩:=hrel;go_wp2_with (at_next;refine wpList_next_ranges _ rfl _ rfl 3 gu Rs (Value.int .i64) Nc (λG H gW=>by obtain⟨x,rfl,_⟩:=Maps.keyOf_int_inv underlying3 gW;exact⟨x,rfl⟩) sx m (w.heap.size+2) S.puts.length _ _ _ rfl mU ?_ ?_)
  .intro _ ws;rw [Nb ws] at bN;obtain⟨k0,k1,k2,k3,E,r0,r1,r2,r3,r4,Q,R⟩:=FK (aM bN) (bG bN) (bM bN) (fU bN) (gH bN) (aM DI) (bG DI) (bM DI) (fU DI) (gH DI) (ae DI 0) (ae DI 1);have T:=ae DI 2;have U:=ae DI 3;have o:=ae DI 4;go_wp2;have a:=Qi (iV S.reads) (iV S.writes) (iV S.flushes) (iV S.refused) (iV S.puts.length) DI;refine bodyPost_ret (v:= .agg (ef S.reads S.writes S.flushes S.refused S.puts.length)) (by simp [results,results37,go_sem,ef,aM a,bG a,bM a,fU a,(gH a)]) rfl ⟨rfl,?_⟩;exact((((c.setCell (bR _) _).setCell (bR _) _).setCell (bR _) _).setCell (bR _) _).setCell (bR _) _
  .intro x ca l i H yd yp w2 pH gW Bl C it pj bq gh br Jb;obtain⟨k,rfl,rfl,hp,y⟩:=g.met gW C it;obtain⟨rfl,rfl,rfl⟩:ca=_/\l=_/\i=_:=(by simpa using y);have bj:=(yL left k Bl S.puts);have Y8:pE left S.puts+(au S.puts k).length<=S.puts.length:=(by have:=Qg (λz=>left z && !z.sameKey (kk k)) S.puts;rw [bj] at this;exact this);have acy:=(gh.block w.heap.size (by have:=(lY.1 DI).1;omega) (by simp)).trans DI;have Y9:=(gh.block (w.heap.size+1) (by have:=(lY.1 bN).1;omega) (by simp)).trans bN;have eI:=c.grown gh c.size (λj d=>by cases d;omega);have E:=gH Y9;have o:=ae Y9 4;go_wp2;go_roundw;case rel=>
    refine⟨_,pH,pj.kept (mT _ _ _) (λe=>by have:=Option.some.inj e;simp only at this;omega) (λe=>by have:=Option.some.inj e;simp only at this;omega),?_,?_,eI.setCell (Nat.le_succ _) _⟩
    .rw [Below.heap_setCell _ _ _ _ (by simp)];exact acy
    .rw [bj,heap_setCell_same _ _ _ _ _ _ Y9];simp [ef]
   case measure=>
    rw [(pj.kept (mT _ _ _) (λe=>by have:=Option.some.inj e;simp only at this;omega) (λe=>by have:=Option.some.inj e;simp only at this;omega)).left_eq,mU.left_eq];exact bq
def aQ.cells {S:DS} (h:aQ w F p s S):w.cell? (aD p 2)=some (iV S.fuse)/\w.cell? (aD p 3)=some (iV S.life)/\(∀j,w.frozen? (aD p j)=false)/\
  ∃gi ci,w.cell? (aD p 0)=some (.slice (some (aD gi 0)) (s*512) ci):=by
 obtain⟨gi,ci,m,D,c,b,d,e,f,g,a,i,k,l,n⟩:=h;exact⟨bM a,fU a,ae a,gi,ci,aM a⟩
def yN {S:DS} (h:aQ w F p s S):
  Calls prog 47 #[pQ p] w λe w'=>e= .returned (iV s)/\w'=w:=by
 obtain⟨_,_,_,d,c,b⟩:=h.cells;have:=h.ok.hi;have e:s*512 / 512=s:=by omega
 have a:=wq p _ (s*512) c w (by omega) b;rw [e] at a;exact a
def ix {S:DS} (h:aQ w F p s S):
  Calls prog 35 #[pQ p] w λe w'=>e= .returned (.bool (S.fuse == 0))/\w'=w:=vi p _ w h.cells.1
def Vi {S:DS} (h:aQ w F p s S):
  Calls prog 22 #[pQ p] w λe w'=>e= .returned (iV S.life)/\w'=w:=Qb p _ w h.cells.2.1
def tK (a:Option Addr) (n c:Nat) (l:List Int) (w:World) (s:n<=140737488355328) (i:Src w a n l):
  Calls prog 42 #[.slice a n c] w λe w'=>∃g,e= .returned (.slice (some (aD g 0)) n n)/\w.heap.size<=g/\ay w' 5 g n (bs l)/\bW w w':=by
 obtain⟨q,m,gC,dE,em⟩:=info_parts gq;go_in;go_wp2_with (at_make;refine wpList_make_full _ rfl _ _ 36 rfl w.heap.size 5 q (.int .u8 0) 1 underlying36 m gC dE _ _ _ _ n rfl rfl ?c1 ?c2 ?c3 ?c4 ?c5 ?_);case c1=>rfl
 case c2=>rfl
 case c3=>rw [em];omega
 case c4=>unfold maxLen;omega
 case c5=>exact bR _
 intro w1 aA aR;have p:=lZ aA;have b:=(bi _ w).grown aR (bR _) (by intro k d;cases d);have j:=p.full (by simp [bs]);have el:=i.later b;have o:=i.1;obtain⟨r,bI,f,d,_⟩:=yJ w1 3 (some (aD w.heap.size 0)) w.heap.size 0 n n a n c (bs (List.replicate n 0)) l j el (λ_=>rfl) (by simp [bs]);have bd:=b.trans (d.below (λk h=>by omega) b.size);have fB:ay r 5 w.heap.size n (bs l):=by
  have e:splice (bs (List.replicate n 0)) 0 (bs (l.take n))=bs l:=by
   rw [nC (by omega)];simp [splice,bs];omega
  rw [e] at f;have:=ay.xX f (by simp [bs,maxLen];omega);simpa [bs,o] using this
 go_wp2;go_ret;exact⟨w.heap.size,rfl,bR _,fB,bd⟩
def bS (im:List Int) (k:Nat):List Int:=(im.drop (k*512)).take 512
def DS.gM (S:DS) (k j:Nat):List Int:=if j=0 then bS S.im k else (au S.puts k).getD (j-1) []
def yO (w:World):(zeroValue 62).run prog w= .ok (.slice none 0 0) w:=by kernel_rfl
def lU (k:Nat) (a:k<2048):keyOf prog 3 (iV (k:Int))=some (kk k):=
 keyOf_int_mk underlying3 (WalkArith.wf_i64 (by omega))
def aO.look {S:DS} {m:Nat} {D:DataW Value} (h:aO w F p s S gi ci m D gr cr) (e:k<s):
  ∃a c,(Instr.lookup 104 (.map (some m)) (iV (k:Int)) false).run prog w= .ok (.slice a (au S.puts k).length c) w/\
     (au S.puts k≠ []->a=some ⟨gr k,0,none⟩/\c=cr k)/\(au S.puts k= []->a=none/\c=0):=by
 have f:=h.ok.hi;obtain⟨v,ps,bI,b⟩:=h.map.lookup gu underlying104 (yO w) (zd:= .held (.slice none 0 0)) (zp:= []) rfl (lU k (by omega));by_cases d:au S.puts k= []
 .rw [Maps.atKey_of_not_has (h.dj.FM k d)] at b;obtain⟨⟨a,n,c⟩,rfl⟩:=sx v _ b;rw [FO] at b;simp [Nc] at b;obtain⟨⟨rfl,rfl,rfl⟩,_⟩:=b;exact⟨none,0,by rw [d];exact bI,λh=>absurd d h,λ_=>⟨rfl,rfl⟩⟩
 .rw [h.dj.look k d] at b;obtain⟨⟨a,n,c⟩,rfl⟩:=sx v _ b;rw [FO] at b;simp [Nc] at b;obtain⟨⟨rfl,rfl,rfl⟩,_⟩:=b;exact⟨_,_,bI,λ_=>⟨rfl,rfl⟩,λh=>absurd h d⟩
def Vj (h:ay w 5 gi ci (bs im)) (d:im.length=s*512) (c:k<s):Src w (some ⟨gi,k*512,none⟩) 512 (bS im k):=by
 refine⟨by simp [bS];omega,(λh=>by cases h),λx b i a=>?_⟩;cases b;rw [aN];have:=h.byte (i:=k*512+i) (by omega);rw [aN,Nat.zero_add] at this;rw [this];simp [bS,List.getD,a]
def yP {S:DS} (h:S.Ok s) (b:j<(au S.puts k).length):((au S.puts k)[j]).length=512:=by
 have a:=List.getElem_mem b;unfold au at a;obtain⟨q,c,e⟩:=List.mem_map.1 a;have:=(h.puts q (List.mem_filter.1 c).1).2;unfold au;rw [<-e];exact this
def Nd {S:DS} {m:Nat} {D:DataW Value} (h:aO w F p s S gi ci m D gr cr) (k:Nat) (a:k<s):
  Calls prog 96 #[pQ p,iV (k:Int),iV 0] w λe w'=>e= .returned (.slice (some ⟨gi,k*512,none⟩) 512 512)/\w'=w:=by
 have b:=h.JB.le;have hd:=pC p gi (s*512) ci s k k w (aM h.dI) rfl a rfl h.ok.hi (by simp [bs,h.ok.len] at b;omega);go_in;go_wp2_with (go_at_call 107;refine hd.mono ?_;rintro e w' ⟨rfl,rfl⟩);go_ret;exact⟨rfl,rfl⟩
def Ne {S:DS} {m:Nat} {D:DataW Value} (h:aO w F p s S gi ci m D gr cr) (k:Nat) (q:k<s) (i:Nat) (f:Int) (o:f=(i:Int)+1) (b:i<(au S.puts k).length) (aU:S.puts.length<=140737488355328):
  Calls prog 96 #[pQ p,iV (k:Int),iV f] w λe w'=>∃g c,e= .returned (.slice (some (aD g 0)) 512 c)/\F g/\g≠gi/\ay w 5 g c (bs (au S.puts k)[i])/\w'=w:=by
 subst o;have u:=bG h.dI;have d:au S.puts k≠ []:=by intro e;rw [e] at b;simp at b
 obtain⟨a,c,bI,l,_⟩:=h.look q;obtain⟨rfl,rfl⟩:=l d;obtain⟨_,xs,be,o9⟩:=h.dj.row k d;obtain⟨g,j,t,n,dM,r⟩:=o9.get i b;have v:=be.cell t;have y:(au S.puts k).length<=S.puts.length:=by unfold au;rw [jF];exact List.length_filter_le _ _
 have x:((i:Int)+1 == 0)=false:=by rw [Bool.eq_false_iff,ne_eq,beq_iff_eq];omega
 have nF:(i:Int)<((au S.puts k).length:Int):=by omega
 go_in;go_wp2;go_ret;exact⟨g,j,rfl,n,dM,r,rfl⟩
def DS.now (S:DS) (k:Nat):List Int:=S.gM k (au S.puts k).length
def DS.nG {S:DS} (h:S.Ok s) (b:k<s) (a:j<=(au S.puts k).length):(S.gM k j).length=512:=by
 unfold DS.gM;split
 .simp [bS];have:=h.len;omega
 .have Bk:j-1<(au S.puts k).length:=by omega
  rw [List.getD,qQ Bk,Option.getD_some];exact yP h Bk
def FP {S:DS} {m:Nat} {D:DataW Value} (h:aO w F p s S gi ci m D gr cr) (k:Nat) (a:k<s) (j:Nat) (q:j<=(au S.puts k).length) (aU:S.puts.length<=140737488355328):
  Calls prog 96 #[pQ p,iV (k:Int),iV (j:Int)] w λe w'=>∃g o c,e= .returned (.slice (some (aD g o)) 512 c)/\F g/\512<=c/\(g=gi->o=k*512/\S.gM k j=bS S.im k)/\Src w (some (aD g o)) 512 (S.gM k j)/\w'=w:=by
 cases j with
 |zero=>exact(Nd h k a).mono (by rintro e w' ⟨rfl,rfl⟩;exact⟨gi,k*512,512,rfl,h.Uq,bR _,λ_=>⟨rfl,rfl⟩,Vj h.JB h.ok.len a,rfl⟩)
 |succ i=>
  refine(Ne h k a i ((i+1:Nat):Int) (by omega) (by omega) aU).mono ?_;rintro e w' ⟨g,c,rfl,l,dM,d,rfl⟩;have f:S.gM k (i+1)=(au S.puts k)[i]:=by simp [DS.gM,List.getD,qQ (show i<(au S.puts k).length by omega)]
  have n:=yP h.ok (k:=k) (j:=i) (by omega);have b:=d.le;refine⟨g,0,c,rfl,l,by simp [bs] at b;omega,λe=>absurd e dM,?_,rfl⟩;rw [f];have:=d.src;rw [n] at this;exact this
def DS.read (S:DS):DS:={S with reads:=wrap64 (S.reads+1)}
def DS.refuse (S:DS):DS:={S with refused:=wrap64 (S.refused+1)}
def aO.set {S:DS} {m:Nat} {D:DataW Value} (h:aO w F p s S gi ci m D gr cr) (i:Nat) (v:Value):
    (w.setCell ⟨p,i,none⟩ v).heap[p]? =some (.cells ((bL (.slice (some ⟨gi,0,none⟩) (s*512) ci) (.map (some m)) S.fuse S.life S.reads S.writes S.flushes S.refused).setIfInBounds i v) 106 (0,0))/\aa (λk=>k=p) w (w.setCell ⟨p,i,none⟩ v):=
   ⟨heap_setCell_same _ _ _ _ _ _ h.dI,aa.setCell (F:=λk=>k=p) w (p:=(aD p i)) rfl v⟩
def aO.refused {S:DS} {m:Nat} {D:DataW Value} (h:aO w F p s S gi ci m D gr cr):
  aO (w.setCell ⟨p,7,none⟩ (.int .i64 (wrap64 (S.refused+1)))) F p s S.refuse gi ci m D gr cr:=
 h.nE (h.set 7 _).2 ((h.set 7 _).1.trans (by simp [bL,DS.refuse])) rfl rfl h.ok.fuse
def aO.reads {S:DS} {m:Nat} {D:DataW Value} (h:aO w F p s S gi ci m D gr cr):
  aO (w.setCell ⟨p,4,none⟩ (.int .i64 (wrap64 (S.reads+1)))) F p s S.read gi ci m D gr cr:=
 h.nE (h.set 4 _).2 ((h.set 4 _).1.trans (by simp [bL,DS.read])) rfl rfl h.ok.fuse
def Ct {S:DS} (h:aQ w F p s S) (a:Int) (c:S.fuse=0):
  Calls prog 39 #[pQ p,iV a] w λe w'=>e= .returned (.tuple #[.slice none 0 0,iV 3])/\w'=w:=by
 have b:=ix h;rw [c] at b;go_in;go_wp2_with (go_at_call 35;refine b.mono ?_;rintro e w' ⟨rfl,rfl⟩);go_ret2;exact⟨rfl,rfl⟩
def JD {S:DS} (h:aQ w F p s S) (a:Int) (k:S.fuse≠0) (o:a<0\/(s:Int)<=a):
  Calls prog 39 #[pQ p,iV a] w λe w'=>e= .returned (.tuple #[.slice none 0 0,iV 11])/\aQ w' F p s S.refuse/\aa F w w':=by
 have d:=ix h;rw [show (S.fuse == 0)=false by simp [k]] at d;obtain⟨i,c,m,D,j,g,h⟩:=h;have q:=h.ok.hi;have f:=tJ p _ (s*512) c a w (by omega) (aM h.dI);rw [show s*512 / 512=s by omega,show (decide (0<=a) && decide (a<(s:Int)))=false by simp;omega] at f;have n:=sw p S.refused 11 w (rH h.dI) (ae h.dI 7);have l:aa F w (w.setCell ⟨p,7,none⟩ (.int .i64 (wrap64 (S.refused+1)))):=aa.setCell w h.fp _;go_in;go_wp2_with (first|(go_at_call 35;refine d.mono ?_;rintro e w' ⟨rfl,b⟩;subst b)|(go_at_call 94;refine f.mono ?_;rintro e w' ⟨rfl,b⟩;subst b)|(go_at_call 95;refine n.mono ?_;rintro e w' ⟨rfl,rfl⟩));go_ret2;exact⟨rfl,⟨i,c,m,D,j,g,h.refused⟩,l⟩
def FQ {S:DS} {m:Nat} (h:gV w F p s S m) (k:Nat) (z:S.fuse≠0) (d:k<s) (aU:S.puts.length<=140737488355328):
  Calls prog 39 #[pQ p,iV (k:Int)] w λe w'=>∃g c,e= .returned (.tuple #[.slice (some (aD g 0)) 512 c,iV 0])/\w.heap.size<=g/\ay w' 5 g c (bs (S.now k))/\
   gV w' F p s S.read m/\aa F w w':=by
 have l:=ix h.at;rw [show (S.fuse == 0)=false by simp [z]] at l;obtain⟨v,j,D,x,t,h⟩:=h;have I:=h.ok.hi;have n:=tJ p _ (s*512) j k w (by omega) (aM h.dI);rw [show s*512 / 512=s by omega,show (decide (0<=(k:Int)) && decide ((k:Int)<(s:Int)))=true by simp;omega] at n;have E:=gH h.dI;have G:=ae h.dI 4;have hd:=h.reads;have fb:aa F w (w.setCell ⟨p,4,none⟩ (.int .i64 (wrap64 (S.reads+1)))):=aa.setCell w h.fp _;have eM:(w.setCell ⟨p,4,none⟩ (.int .i64 (wrap64 (S.reads+1)))).heap.size=w.heap.size:=by simp [World.setCell]
 have C:=bG hd.dI;obtain⟨a,c,bI,dM,jI⟩:=hd.look d;have yK:(S.read.gM k (au S.puts k).length).length=512:=DS.nG hd.ok d (bR _);go_in;go_wp2_with (first|(go_at_call 35;refine l.mono ?_;rintro e w' ⟨rfl,f⟩;subst f)|(go_at_call 94;refine n.mono ?_;rintro e w' ⟨rfl,f⟩;subst f));refine(FP hd k d (au S.puts k).length (bR _) aU).mono ?_;rintro e w1 ⟨g,o,r,rfl,H,y,_,fV,rfl⟩;go_wp2_with fail;refine(qR (aD g o) 512 r _ _ yK (by omega) (λi A=>fV.2.2 _ rfl i A)).mono ?_;rintro e J ⟨u,q,rfl,gh,fB,bd⟩;have b:=gV.aw ⟨v,j,D,x,t,hd⟩ (aa.ah (λ_=>False) bd) (λ_ _ h=>h);rw [eM] at gh;go_wp2;go_ret2;exact⟨u,q,rfl,gh,fB,b,fb.trans (aa.ah (λ_=>False) bd) (λ_ h=>h.elim)⟩
def Mg {S:DS} (h:aQ w F p s S) (k:Nat) (j:S.fuse≠0) (l:k<s) (aU:S.puts.length<=140737488355328):
  Calls prog 39 #[pQ p,iV (k:Int)] w λe w'=>∃g c,e= .returned (.tuple #[.slice (some (aD g 0)) 512 c,iV 0])/\w.heap.size<=g/\ay w' 5 g c (bs (S.now k))/\
   aQ w' F p s S.read/\aa F w w':=by
 obtain⟨m,h⟩:=h.m;refine(FQ h k j l aU).mono ?_;rintro e w' ⟨g,c,a,b,d,f,i⟩;exact⟨g,c,a,b,d,f.at,i⟩
def DS.gv (S:DS):DS:={S with fuse:=if 0<S.fuse then S.fuse-1 else S.fuse}
def DS.put (S:DS) (k:Nat) (l:List Int):DS:={S with puts:=S.puts ++ [(k,l)]}
def iy (puts:List (Nat×List Int)) (k:Nat) (l:List Int) (j:Nat):au (puts ++ [(k,l)]) j=if j=k then au puts k ++ [l] else au puts j:=by
 unfold au;by_cases h:j=k
 .subst h;simp
 .have:(k == j)=false:=by simp;omega
  simp [h,List.filter_append,this]
def l5 (puts:List (Nat×List Int)) (k:Nat):(au puts k).length<=puts.length:=by unfold au;rw [jF];exact List.length_filter_le _ _
def aO.Qj {S:DS} {m:Nat} {D:DataW Value} (h:aO w F p s S gi ci m D gr cr) (g:k<s):
  ∃a cc xs,(∀wx:World,wx.heap[m]? =w.heap[m]?->(Instr.lookup 104 (.map (some m)) (iV (k:Int)) false).run prog wx= .ok (.slice a (au S.puts k).length cc) wx)/\
     (∀wx:World,(au S.puts k≠ []->wx.heap[gr k]? =w.heap[gr k]?)->wx.ownsRow 0 36 1 (.slice a (au S.puts k).length cc) (au S.puts k).length xs)/\
   fk w F gi xs (au S.puts k)/\(au S.puts k= []->a=none/\cc=0)/\(au S.puts k≠ []->a=some ⟨gr k,0,none⟩/\cc=cr k):=by
 have i:=h.ok.hi;have f:=lU k (by omega);by_cases d:au S.puts k= []
 .refine⟨none,0, [],λwx e=>?_,λwx _=>?_,?_,λ_=>⟨rfl,rfl⟩,λh=>absurd d h⟩
  .obtain⟨v,ps,bI,b⟩:=(eA h.map e).lookup gu underlying104 (yO wx) (zd:= .held (.slice none 0 0)) (zp:= []) rfl f;rw [Maps.atKey_of_not_has (h.dj.FM k d)] at b;obtain⟨⟨a,n,c⟩,rfl⟩:=sx v _ b;rw [FO] at b;simp [Nc] at b;obtain⟨⟨rfl,rfl,rfl⟩,_⟩:=b;rw [d];exact bI
  .rw [d];exact World.ownsRow_nil _ _ _ _
  .rw [d];trivial
 .obtain⟨_,xs,be,o9⟩:=h.dj.row k d;refine⟨some ⟨gr k,0,none⟩,cr k,xs,λwx e=>?_,λwx e=>?_,o9,λh=>absurd h d,λ_=>⟨rfl,rfl⟩⟩
  .obtain⟨v,ps,bI,b⟩:=(eA h.map e).lookup gu underlying104 (yO wx) (zd:= .held (.slice none 0 0)) (zp:= []) rfl f;rw [h.dj.look k d] at b;obtain⟨⟨a,n,c⟩,rfl⟩:=sx v _ b;rw [FO] at b;simp [Nc] at b;obtain⟨⟨rfl,rfl,rfl⟩,_⟩:=b;exact bI
  .have:=(be.agree (e d)).owns;rw [o9.length] at this;exact this
def aO.wrote {S:DS} {m:Nat} {D:DataW Value} (h:aO w F p s S gi ci m D gr cr) (M:k<s) (N:l.length=512)
    (o9:fk w F gi xs (au S.puts k)) (Mh:aa (λb=>b=m\/(au S.puts k≠ []/\b=gr k)) w w3) (L:w.heap.size<=g) (E:ay w3 5 g cg (bs l))
    (aA:w3.ownsRow 0 36 1 (.slice (some (aD g2 0)) ((au S.puts k).length+1) cJ) ((au S.puts k).length+1) (xs ++ [.slice (some (aD g 0)) 512 cg]))
    (gh:(au S.puts k≠ []/\g2=gr k)\/w.heap.size<=g2) (Za:w3.ownsMap prog 3 Rs m (S.puts.length+1) (D.put (kk k) (.held (.slice (some (aD g2 0)) ((au S.puts k).length+1) cJ)))):
  aO w3 (more F w w3) p s (S.put k l) gi ci m (D.put (kk k) (.held (.slice (some (aD g2 0)) ((au S.puts k).length+1) cJ))) (λj=>if j=k then g2 else gr j) (λj=>if j=k then cJ else cr j):=by
 obtain⟨J,H,O,_,fB,C⟩:=ay.fg aA (by simp);cases O;have gW:WideAt.IsKeyLit (kk k):=trivial;have acz:∀b,au S.puts k≠ []->b=gr k->∃cur,w.heap[b]? =some (.cells cur 36 (0,0)):=λb n e=>by
  obtain⟨_,o,⟨cur,a,_⟩,_⟩:=h.dj.row k n;exact⟨cur,by rw [e];exact a⟩
 have r:∀(b:Nat) (cur:Array Value) (e:TypeId),w.heap[b]? =some (Obj.cells cur e (0,0))->e≠36->w3.heap[b]? =w.heap[b]? :=λb cur e a f=>by
  refine Mh.block b ((lY.1 a).1) (λi=>?_);rcases i with i|⟨n,i⟩
  .exact gL h.map (i▸a) rfl
  .obtain⟨A,eI⟩:=acz b n i;rw [a] at eI;simp at eI;exact f eI.2
 have Qk:∀b c o,ay w 5 b c o->ay w3 5 b c o:=λb c o a=>by
  have eI:=a;obtain⟨cur,ar,_⟩:=eI;exact a.agree (r b cur _ ar (by decide))
 have Uy:∀b,F b->more F w w3 b:=λb a=> .inl a;refine⟨.inl h.fp, .inl h.Uq, .inl h.fm,λb a=>?_,?_,Qk _ _ _ h.JB,by simpa [DS.put] using Za,⟨?_,?_,?_,?_,?_⟩,⟨h.ok.len,h.ok.lo,h.ok.hi,λq v=>?_,h.ok.fuse⟩⟩
 .rcases a with a|a
  .exact iL (h.lt b a) Mh.size
  .exact a.2
 .rw [r p _ _ h.dI (by decide)];exact h.dI
 .intro G ox;by_cases f:G=kk k
  .exact⟨k,f,by rw [DS.put,iy,aG rfl];simp⟩
  .rw [Maps.has_put_other f] at ox;obtain⟨j,rfl,d⟩:=h.dj.keys G ox;exact⟨j,rfl,by rw [DS.put,iy];split;simp;exact d⟩
 .intro j d;rw [DS.put,iy] at d;split at d
  .simp at d
  .rename_i dM;rw [Maps.has_put_other (by simp [kk];omega)];exact h.dj.FM j d
 .intro j d z;rw [DS.put,iy] at d⊢;by_cases f:j=k
  .subst f;simp only [if_true];rw [Maps.atKey_put_same h.map.isMap gW];simp
  .simp only [f,if_false] at d⊢;rw [Maps.atKey_put_other (by simp [kk];omega)];exact h.dj.look j d z
 .intro j d;rw [DS.put,iy] at d⊢;by_cases f:j=k
  .subst f;simp only [if_true];refine⟨?_,_,fB,?_⟩
   .rcases gh with ⟨n,e⟩|gh
    .rw [e];exact .inl (h.dj.row j n).1
    .exact .inr ⟨gh,fB.lt⟩
   .refine fk.snoc ⟨g,cg,rfl, .inr ⟨L,E.lt⟩,?_,E⟩ ((o9.carry (λb c o _ _ a=>Qk b c o a)).mono Uy);intro e;have:=h.lt gi h.Uq;omega
  .simp only [f,if_false] at d⊢;obtain⟨K,o,t,my⟩:=h.dj.row j d;refine⟨.inl K,o,t.agree (Mh.block _ t.lt (λi=>?_)),(my.carry (λb c o _ _ a=>Qk b c o a)).mono Uy⟩;rcases i with i|⟨n,i⟩
   .obtain⟨cur,a,_⟩:=t;exact gL h.map (i▸a) rfl
   .exact f (h.dj.inj j k d n i)
 .intro j u d Bk e;rw [DS.put,iy] at d Bk;by_cases x:j=k <;> by_cases y:u=k
  .omega
  .subst x;simp only [if_true,y,if_false] at e Bk;rcases gh with ⟨n,I⟩|gh
   .exact(h.dj.inj j u n Bk (by omega))
   .have:=h.lt _ (h.dj.row u Bk).1;omega
  .subst y;simp only [if_true,x,if_false] at e d;rcases gh with ⟨n,I⟩|gh
   .exact(h.dj.inj j u d n (by omega))
   .have:=h.lt _ (h.dj.row j d).1;omega
  .simp only [x,y,if_false] at e d Bk;exact h.dj.inj j u d Bk e
 .simp only [DS.put,List.mem_append,List.mem_singleton] at v;rcases v with v|rfl
  .exact h.ok.puts q v
  .exact⟨M,N⟩
def Nf {n:World} {S:DS} {m:Nat} {D:DataW Value} (h:aO w F p s S gi ci m D gr cr) (x:k<s) (y:l.length=512)
  {q:Nat} (o9:fk w F gi xs (au S.puts k)) (jI:au S.puts k= []->a=none/\q=0) (Ql:au S.puts k≠ []->a=some ⟨gr k,0,none⟩/\q=cr k) {o:Obj}
    (ar:bW w w1) (v:w.heap.size<=g) (r:ay w1 5 g cg (bs l))
    (aA:n.ownsRow 0 36 1 (.slice (some (aD g2 0)) ((au S.puts k).length+1) cJ) ((au S.puts k).length+1) (xs ++ [.slice (some (aD g 0)) 512 cg]))
    (aR:(w1.alloc o).grownBy n (Value.slice a (au S.puts k).length q).ownBlock) (it:(Value.slice a (au S.puts k).length q).ownBlock=some g2\/g2=w1.heap.size+1) (aU:S.puts.length+1<=5000000000000):
  n.heap[p]? =w.heap[p]?/\n.heap[m]? =w.heap[m]?/\∃w3,(Instr.mapUpdate 104 (.map (some m)) (iV (k:Int)) (.slice (some (aD g2 0)) ((au S.puts k).length+1) cJ)).run prog n= .ok () w3/\
   aO w3 (more F w w3) p s (S.put k l) gi ci m (D.put (kk k) (.held (.slice (some (aD g2 0)) ((au S.puts k).length+1) cJ))) (λj=>if j=k then g2 else gr j) (λj=>if j=k then cJ else cr j)/\aa F w w3/\w3.heap[p]? =w.heap[p]? :=by
 have C:=h.ok.hi;have bd:=ar.alloc ar.size o;have cN:∀b,some b=(Value.slice a (au S.puts k).length q).ownBlock->au S.puts k≠ []/\b=gr k:=λb e=>by
  by_cases i:au S.puts k= []
  .rw [(jI i).1] at e;simp [Value.ownBlock] at e
  .rw [(Ql i).1] at e;simp [Value.ownBlock] at e;exact⟨i,e⟩
 have d:∀b,b<w.heap.size->¬(au S.puts k≠ []/\b=gr k)->n.heap[b]? =w.heap[b]? :=λb c f=>
    (aR.block b (iL c bd.size) (λe=>f (cN b e))).trans (bd.block b c)
 have be:∀b,au S.puts k≠ []/\b=gr k->∃cur,w.heap[b]? =some (.cells cur 36 (0,0)):=λb i=>by
  obtain⟨_,E,⟨cur,c,_⟩,_⟩:=h.dj.row k i.1;exact⟨cur,by rw [i.2];exact c⟩
 have vj:=d p (h.lt p h.fp) (λf=>by
  obtain⟨cur,c⟩:=be p f;rw [h.dI] at c;simp at c)
 have Cu:=d m (h.lt m h.fm) (λf=>by
  obtain⟨cur,c⟩:=be m f;exact gL h.map c rfl)
 obtain⟨w3,bI,Za,Fv⟩:=(eA h.map Cu).update gu underlying104 (by unfold maxLen;omega) (lU k (by omega)) (show Rs (.slice (some (aD g2 0)) ((au S.puts k).length+1) cJ)=some (.held _, []) from rfl);have Cs:=h.lt m h.fm;have Vf:=r.lt;have sy:=ar.size;have Zb:(w1.alloc o).heap.size=w1.heap.size+1:=by simp
 have jD:=aR.size;have FR:=Fv.size;have Zc:g≠m:=by omega
 obtain⟨u,t,z,_,fB,_⟩:=ay.fg aA (by simp);cases z;have ahy:g2≠m:=λe=>by
  obtain⟨cur,c,_⟩:=fB;rw [e] at c;exact gL (eA h.map Cu) c rfl
 have Bm:ay w3 5 g cg (bs l):=by
  refine(r.agree ?_);rw [Fv.block g (by omega) (by simpa using Zc),aR.block g (by omega) (λe=>?_),Below.heap_alloc _ _ _ Vf];have:=cN g e;have:=h.lt _ (h.dj.row k this.1).1;omega
 have Mh:aa (λb=>b=m\/(au S.puts k≠ []/\b=gr k)) w w3:=
    ⟨Fv.os.trans (aR.os.trans bd.os),Fv.tape.trans (aR.tape.trans bd.tape),Fv.output.trans (aR.output.trans bd.output),by omega,λb c f=>
     (Fv.block b (by omega) (λe=>f (.inl (by simpa using e)))).trans (d b c (λA=>f (.inr A)))⟩
 refine⟨vj,Cu,w3,bI,h.wrote x y o9 Mh v Bm (aA.kept Fv (.inr (by simpa [Value.ownBlock] using ahy))) ?_ Za,Mh.mono (λb c=>?_),(Fv.block p (by have:=h.lt p h.fp;omega) (λe=>gL h.map h.dI (by simpa using e.symm))).trans vj⟩
 .rcases it with e|e
  .exact .inl (cN g2 e.symm)
  .exact .inr (by omega)
 .rcases c with rfl|⟨i,rfl⟩
  .exact h.fm
  .exact(h.dj.row k i).1
def aO.JE {S:DS} {m:Nat} {D:DataW Value} (h:aO w F p s S gi ci m D gr cr):
  aO (w.setCell ⟨p,5,none⟩ (.int .i64 (wrap64 (S.writes+1)))) F p s {S with writes:=wrap64 (S.writes+1)} gi ci m D gr cr:=
 h.nE (h.set 5 _).2 ((h.set 5 _).1.trans (by simp [bL])) rfl rfl h.ok.fuse
def aO.yQ {S:DS} {m:Nat} {D:DataW Value} (h:aO w F p s S gi ci m D gr cr):
  aO (if 0<S.fuse then w.setCell ⟨p,2,none⟩ (.int .i64 (wrap64 (S.fuse-1))) else w) F p s S.gv gi ci m D gr cr/\aa F w (if 0<S.fuse then w.setCell ⟨p,2,none⟩ (.int .i64 (wrap64 (S.fuse-1))) else w):=by
 have b:=h.ok.fuse;by_cases a:0<S.fuse
 .rw [aG a];have e:wrap64 (S.fuse-1)=S.fuse-1:=by unfold wrap64;omega
  refine⟨h.nE (h.set 2 _).2 ((h.set 2 _).1.trans ?_) rfl rfl ?_,aa.setCell w h.fp _⟩
  .rw [e];simp [bL,DS.gv,a]
  .simp only [DS.gv,aG a];omega
 .rw [aB a];have e:S.gv=S:=by simp [DS.gv,a]
  rw [e];exact⟨h,aa.refl _ _⟩
def DS.wrote (S:DS):DS:={S with writes:=wrap64 (S.writes+1)}
def Cv {BI:World} (h:w'.heap.size<=BI.heap.size):∀k,more F w w' k->more F w BI k:=λk a=>by
 rcases a with a|a
 .exact .inl a
 .exact .inr ⟨a.1,by omega⟩
def Ng {a:World} {S:DS} {m:Nat} {D:DataW Value} (d:F p) (h:aO a (more F w a) p s S gi ci m D gr cr) (f:aa F w a):
  gV (if 0<S.fuse then a.setCell ⟨p,2,none⟩ (.int .i64 (wrap64 (S.fuse-1))) else a) (more F w (if 0<S.fuse then a.setCell ⟨p,2,none⟩ (.int .i64 (wrap64 (S.fuse-1))) else a)) p s S.gv m/\
   aa F w (if 0<S.fuse then a.setCell ⟨p,2,none⟩ (.int .i64 (wrap64 (S.fuse-1))) else a):=by
 obtain⟨c,_⟩:=h.yQ;have eM:(if 0<S.fuse then a.setCell ⟨p,2,none⟩ (.int .i64 (wrap64 (S.fuse-1))) else a).heap.size=a.heap.size:=by split <;> simp [World.setCell]
 have aY:aa (λk=>k=p) a (if 0<S.fuse then a.setCell ⟨p,2,none⟩ (.int .i64 (wrap64 (S.fuse-1))) else a):=by
  split
  .exact aa.setCell (F:=λk=>k=p) a (p:=(aD p 2)) rfl _
  .exact aa.refl _ _
 refine⟨gV.mono ⟨gi,ci,D,gr,cr,c⟩ (Cv (Nat.le_of_eq eM.symm)) (λk BJ=>?_),f.trans aY (λj e=> .inl (e▸d))⟩;rw [eM];rcases BJ with b|b
 .exact h.lt k (.inl b)
 .rw [eM] at b;exact b.2
set_option maxRecDepth 100000 in
def Cw {S:DS} {m:Nat} (hd:gV w F p s S m) (k:Nat) (z:k<s) (H:S.fuse≠0) (aU:S.puts.length+1<=5000000000000)
    (x:Addr) (c:Nat) (l:List Int) (fV:Src w (some x) 512 l):
  Calls prog 51 #[pQ p,iV (k:Int), .slice (some x) 512 c] w λe w'=>e= .returned (iV 0)/\gV w' (more F w w') p s ((S.put k l).wrote.gv) m/\aa F w w':=by
 have v:=ix hd.at;rw [show (S.fuse == 0)=false by simp [H]] at v;obtain⟨R,E,D,T,O,h⟩:=hd;have U:=h.ok.hi;have y:=tJ p _ (s*512) E k w (by omega) (aM h.dI);rw [show s*512 / 512=s by omega,show (decide (0<=(k:Int)) && decide ((k:Int)<(s:Int)))=true by simp;omega] at y;obtain⟨a,C,xs,gX,acA,o9,jI,Ql⟩:=h.Qj z;obtain⟨M,rS,gC,dE,em⟩:=info_parts tI;have pF:=h.lt p h.fp;have Cs:=h.lt m h.fm;have nH:=l5 S.puts k;have cU:∀wx:World,wx.heap[p]? =w.heap[p]?->wx.cell? (aD p 1)=some (.map (some m)):=λwx e=>bG (e.trans h.dI);have j8:=fV.1;have ws:=gX w.drew rfl;go_in;go_wp2_with (first|(go_at_call 35;refine v.mono ?_;rintro e w' ⟨rfl,r⟩;have eR:=r.symm;subst eR)|(go_at_call 94;refine y.mono ?_;rintro e w' ⟨rfl,r⟩;have eR:=r.symm;subst eR));go_region_held3 (λw'=>w'.cell? (aD p 1)=some (.map (some m)))
    ((refine cU _ ?_;first|rfl|assumption|(refine(Below.heap_alloc _ _ _ (iL ?_ ar.size)).trans ?_ <;> assumption)))
  (first
   |(go_at_call 93;refine(qR x 512 c l w.drew j8 (by omega) (λi J=>fV.2.2 _ rfl i J)).mono ?_;rintro e w1 ⟨g,u,rfl,I,L,fR⟩;have ar:bW w w1:=⟨fR.os,fR.tape,fR.output,fR.size,fR.block⟩;clear fR;have pk:w1.heap[p]? =w.heap[p]? :=ar.block p pF;have JF:w1.heap[m]? =w.heap[m]? :=ar.block m Cs;have cu:=gX w1 JF;have fK:=λo=>gX (w1.alloc o) ((Below.heap_alloc w1 o m (iL Cs ar.size)).trans JF))
   |(refine step_append_lies _ (by rfl) _ _ _ (by rfl) 0 36 M _ 1 24 underlying62 rS gC dE em rfl (by omega) (.slice a (au S.puts k).length C) (au S.puts k).length xs (by rfl) (acA _ (λA=>(Below.heap_alloc w1 _ _ (iL (h.lt _ (h.dj.row k A).1) ar.size)).trans (ar.block _ (h.lt _ (h.dj.row k A).1))))
       (aD w1.heap.size 0) 1 1 [.slice (some (aD g 0)) 512 u] (by rfl) (by rfl) (World.news_of_block (cs:= #[.slice (some (aD g 0)) 512 u]) (t:=36) (fr:=(0,0)) (heap_alloc_new w1 _)) (by simp [Value.oneCell']) (by omega) (by unfold maxLen;omega) (by omega) (dL _) (w1.heap.size+1) (by simp) ?_;intro Q cJ W fP j9 vk xB;obtain⟨vj,Cu,f,Mi,d,aZ,Qm⟩:=Nf h z j8 o9 jI Ql ar I L fP j9 vk aU))
 all_goals
  obtain⟨n,N,P,b⟩:=cP h.fp (sv d.dI) (ae d.dI 5) d.JE;have dW:aa F w (f.setCell ⟨p,5,none⟩ (.int .i64 (wrap64 ((S.put k l).writes+1)))):=aZ.trans (aa.setCell (F:=λk=>k=p) f (p:=(aD p 5)) rfl _) (λj K=> .inl (K▸n));have q:=Cq p (S.put k l).fuse _ (bM b.dI) (ae b.dI 2) b.ok.fuse.1;have eM:(f.setCell ⟨p,5,none⟩ (.int .i64 (wrap64 ((S.put k l).writes+1)))).heap.size=f.heap.size:=by simp [World.setCell]
  have G:more F w (f.setCell ⟨p,5,none⟩ (.int .i64 (wrap64 ((S.put k l).writes+1))))=more F w f:=by unfold more;rw [eM]
  rw [<-G] at b;have br:Calls prog 106 #[pQ p] (f.setCell ⟨p,5,none⟩ (.int .i64 (wrap64 ((S.put k l).writes+1)))) λe w'=>e= .returned (.tuple #[])/\gV w' (more F w w') p s ((S.put k l).wrote.gv) m/\aa F w w':=
   q.mono (by rintro e w' ⟨rfl,rfl⟩;exact⟨rfl,Ng n b dW⟩)
  go_wp2_with (go_at_call 106;refine br.mono ?_;rintro e w5 ⟨rfl,jJ,dX⟩);go_ret;exact⟨rfl,jJ,dX⟩
def Qn {S:DS} (hd:aQ w F p s S) (k:Nat) (g:k<s) (f:S.fuse≠0) (aU:S.puts.length+1<=5000000000000)
    (x:Addr) (c:Nat) (l:List Int) (fV:Src w (some x) 512 l):
  Calls prog 51 #[pQ p,iV (k:Int), .slice (some x) 512 c] w λe w'=>e= .returned (iV 0)/\aQ w' (more F w w') p s ((S.put k l).wrote.gv)/\aa F w w':=by
 obtain⟨m,hd⟩:=hd.m;refine(Cw hd k g f aU x c l fV).mono ?_;rintro e w' ⟨a,b,d⟩;exact⟨a,b.at,d⟩
def pI (s:Nat) (f:Nat->List Int):List Int:=(List.range s).flatMap f
def Cx (s:Nat) (f:Nat->List Int):pI (s+1) f=pI s f ++ f s:=by simp [pI,List.range_succ]
def pJ (s:Nat) (f:Nat->List Int) (h:∀k,k<s->(f k).length=512):(pI s f).length=s*512:=by
 induction s with
 |zero=>simp [pI]
 |succ s a=>rw [Cx,ee,a (λk b=>h k (by omega)),h s (by omega)];omega
def Qo (h:im.length=s*512) (a:k<s):(bS im k).length=512:=by simp [bS];omega
def DJ (a b:List Int) (c:a.length=s*512) (d:k<s):bS (a ++ b) k=bS a k:=by
 unfold bS;rw [List.drop_append_of_le_length (by omega),List.take_append_of_le_length (by simp;omega)]
def BK (a b:List Int) (c:a.length=s*512) (d:b.length=512):bS (a ++ b) s=b:=by
 unfold bS;rw [<-c,List.drop_left,nC (by omega)]
def nI (s:Nat) (f:Nat->List Int) (h:∀k,k<s->(f k).length=512) (k:Nat) (a:k<s):bS (pI s f) k=f k:=by
 induction s with
 |zero=>omega
 |succ s c=>
  have b:=pJ s f (λk a=>h k (by omega));rw [Cx];by_cases e:k=s
  .subst e;exact BK _ _ b (h k (by omega))
  .rw [DJ _ _ b (by omega)];exact c (λk a=>h k (by omega)) (by omega)
def DK:∀(s:Nat) {a b:List Int},a.length=s*512->b.length=s*512->(∀k,k<s->bS a k=bS b k)->a=b
 |0,a,b,ha,hb,_=>by
  rw [yH (by omega:a.length=0),yH (by omega:b.length=0)]
 |s+1,a,b,ha,hb,h=>by
  have h0:=h 0 (by omega);simp [bS] at h0;have c:=DK s (a:=a.drop 512) (b:=b.drop 512) (by simp;omega) (by simp;omega) (λk d=>by
   have:=h (k+1) (by omega);simp only [bS,List.drop_drop] at this⊢;rw [show 512+k*512=(k+1)*512 by omega];exact this)
  rw [<-List.take_append_drop 512 a,<-List.take_append_drop 512 b,h0,c]
def jo (L:List α) (o:Nat) (cs:List α) (h:o+cs.length<=L.length):(splice L o cs).length=L.length:=by simp [splice];omega
def Cy (im l:List Int) (o:Nat):splice (bs im) o (bs l)=bs (splice im o l):=by simp [splice,bs]
def iz (L:List Int) (o:Nat) (cs:List Int) (h:o+cs.length<=L.length) (i:Nat):(splice L o cs)[i]? =if o<=i/\i<o+cs.length then cs[i-o]? else L[i]? :=by
 unfold splice;by_cases a:i<o
 .rw [u9 (by simp;omega),List.getElem?_take,aG a,aB (by omega)]
 .rw [wm (by simp;omega)];have e:(L.take o).length=o:=by simp;omega
  rw [e];by_cases b:i<o+cs.length
  .rw [u9 (by omega),aG ⟨by omega,b⟩]
  .rw [wm (by omega),List.getElem?_drop,aB (by omega)];congr 1;omega
def mz (im:List Int) (k i:Nat):(bS im k)[i]? =if i<512 then im[k*512+i]? else none:=by
 unfold bS;rw [List.getElem?_take];split
 .rw [List.getElem?_drop]
 .rfl
def sA (Zd:im.length=s*512) (c:l.length=512) (b:k<s):bS (splice im (k*512) l) j=if j=k then l else bS im j:=by
 apply List.ext_getElem?;intro i;rw [mz];by_cases a:i<512
 .rw [aG a,iz _ _ _ (by omega)];by_cases e:j=k
  .subst e;rw [aG (by omega),aG rfl];congr 1;omega
  .rw [aB (by omega),aB e,mz,aG a]
 .rw [aB a];split
  .rw [List.getElem?_eq_none (by omega)]
  .rw [mz,aB a]
def FT (L:List α) (o n:Nat) (cs:List α) (h:o+cs.length<=n) (b:n<=L.length):(splice L o cs).take n=splice (L.take n) o cs:=by
 have a:(L.take o).length=o:=by rw [oj];omega
 unfold splice;rw [List.take_append,List.take_append,a,nC (l:=L.take o) (by omega),nC (l:=cs) (by omega),List.drop_take,List.take_take,Nat.min_eq_left (by omega:o<=n),Nat.sub_sub]
def ay.copied (h:ay w 5 g c (bs im)) (n:TypeId) (i:Option Addr) (d ie BF:Nat) (a:Option Addr) (j7 BG:Nat) (l:List Int) (t:Src w a j7 l)
    (hd:0<ie->i=some (aD g d)) (FJ:d+ie<=im.length):
  ∃f,(Builtin.copy_ #[36,36] n #[.slice i ie BF, .slice a j7 BG]).run prog w= .ok (goInt (Nat.min j7 ie)) f/\
   ay f 5 g c (bs (splice im d (l.take ie)))/\aa (λk=>k=g) w f/\f.heap.size=w.heap.size:=by
 have j:=h.le;obtain⟨cur,o,p,m,s⟩:=h;have b:(bs im).length=im.length:=by simp [bs]
 rw [b] at j m;obtain⟨f,bI,q,r,eM⟩:=yJ w n i g d ie BF a j7 BG cur.toList l (by simpa using o) t hd (by simp;omega);have fK:(bs (l.take ie)).length<=ie:=by simp [bs];omega
 have BM:(bs (l.take ie)).length=(l.take ie).length:=by simp [bs]
 refine⟨f,bI,⟨_,q,?_,?_,s⟩,r,eM⟩
 .rw [List.size_toArray,jo _ _ _ (by simp only [Array.length_toList];omega)];simpa using p
 .have e:(bs (splice im d (l.take ie))).length=im.length:=by
   rw [<-Cy,jo _ _ _ (by rw [b];omega),b]
  rw [e,List.toList_toArray,FT _ _ _ _ (by omega) (by simp;omega),m,Cy]
section
open Go.ChangeMaps (setBlock heap_setBlock_same heap_setBlock_other)
def Cz {m:Nat} {D:DataW Value} (h:w.ownsMap prog 3 Rs m n D):
  ∃w',(∀c,(Builtin.clear_ #[104] c #[.map (some m)]).run prog w= .ok (.tuple #[]) w')/\w'.ownsMap prog 3 Rs m 0 (.map [])/\aa (λk=>k=m) w w'/\w'.heap.size=w.heap.size:=by
 obtain⟨e,a,b,F,_,_⟩:=h;refine⟨setBlock w m (.map #[] a),?_,⟨#[],a,heap_setBlock_same b _,⟨by simp,?_,by simp⟩,by simp,by simp⟩,⟨rfl,rfl,rfl,by simp [setBlock],λk _ d=>heap_setBlock_other b _ d⟩,by simp [setBlock]⟩
 .intro c;simp [Builtin.clear_,go_sem,MapKept.run_getObj_map b,MapKept.run_setObj_map _ b,setBlock]
 .exact MapKept.stamped_empty _
def aO.qS {S:DS} {m:Nat} {D:DataW Value} (h:aO w F p s S gi ci m D gr cr) (i:w'.ownsMap prog 3 Rs m 0 (.map [])) (d:aa (λk=>k=m) w w'):
  aO w' F p s {S with puts:= []} gi ci m (.map []) gr cr:=by
 have dM:∀(b:Nat) (cur:Array Value) (e:TypeId) (c:Nat×Nat),w.heap[b]? =some (Obj.cells cur e c)->w'.heap[b]? =w.heap[b]? :=λb cur e c a=>
  d.block b (lY.1 a).1 (λf=>gL h.map (f▸a) rfl)
 refine⟨h.fp,h.Uq,h.fm,λk g=>iL (h.lt k g) d.size,(dM p _ _ _ h.dI).trans h.dI,?_,i,ig.empty _ _ _ _ _,⟨h.ok.len,h.ok.lo,h.ok.hi,by simp,h.ok.fuse⟩⟩;obtain⟨cur,a,_⟩:=h.JB;exact h.JB.agree (dM gi _ _ _ a)
def aO.agree {S:DS} {m:Nat} {D:DataW Value} (h:aO w F p s S gi ci m D gr cr) (c:w.heap.size<=w'.heap.size) (a:∀k,F k->w'.heap[k]? =w.heap[k]?):
  aO w' F p s S gi ci m D gr cr:=
   ⟨h.fp,h.Uq,h.fm,λk b=>iL (h.lt k b) c,(a p h.fp).trans h.dI,h.JB.agree (a gi h.Uq),eA h.map (a m h.fm),h.dj.agree a,h.ok⟩
def aO.XD {S:DS} {m:Nat} {D:DataW Value} (h:aO w F p s S gi ci m D gr cr):
  aO (w.setCell ⟨p,6,none⟩ (.int .i64 (wrap64 (S.flushes+1)))) F p s {S with flushes:=wrap64 (S.flushes+1)} gi ci m D gr cr:=
 h.nE (h.set 6 _).2 ((h.set 6 _).1.trans (by simp [bL])) rfl rfl h.ok.fuse
def aO.Qp {S:DS} {m:Nat} {D:DataW Value} (h:aO w F p s S gi ci m D gr cr) (a:ay w' 5 gi ci (bs im)) (i:im.length=s*512) (b:aa (λk=>k=gi) w w'):
  aO w' F p s {S with im:=im} gi ci m D gr cr:=by
 obtain⟨cur,d,_⟩:=h.JB;refine⟨h.fp,h.Uq,h.fm,λk f=>iL (h.lt k f) b.size,(b.block p (h.lt p h.fp) (λe=>(h.JB.ne h.dI (by decide)) e.symm)).trans h.dI,a,eA h.map (b.block m (h.lt m h.fm) (gL h.map d)),
  h.dj.carry (λg c xs _ dM a=>a.agree (b.block g a.lt dM)) (λg c xs _ a=>a.other b d (by decide)),⟨i,h.ok.lo,h.ok.hi,h.ok.puts,h.ok.fuse⟩⟩
end
def DS.flush (S:DS) (s:Nat):DS:={S with im:=pI s S.now,puts:= [],flushes:=wrap64 (S.flushes+1)}
def L7 {S:DS} (h:aQ w F p s S) (b:S.fuse=0):
  Calls prog 52 #[pQ p] w λe w'=>e= .returned (iV 3)/\w'=w:=by
 have a:=ix h;rw [b] at a;go_in;go_wp2_with (go_at_call 35;refine a.mono ?_;rintro e w' ⟨rfl,rfl⟩);go_ret;exact⟨rfl,rfl⟩
def L8 {S:DS} {m:Nat} {D:DataW Value} (h:aO w F p s S gi ci m D gr cr) (e:au S.puts k≠ []):
  k<s/\∃g cg,w.cell? ⟨gr k,(au S.puts k).length-1,none⟩=some (.slice (some (aD g 0)) 512 cg)/\
   ∃a,(Builtin.copy_ #[36,36] 3 #[.slice (some ⟨gi,k*512,none⟩) 512 512, .slice (some (aD g 0)) 512 cg]).run prog w= .ok (goInt 512) a/\
    aO a F p s {S with im:=splice S.im (k*512) (S.now k)} gi ci m D gr cr/\aa (λb=>b=gi) w a/\a.heap.size=w.heap.size:=by
 have ez:k<s:=by
  obtain⟨l,d⟩:=List.exists_mem_of_ne_nil _ e;unfold au at d;obtain⟨q,f,_⟩:=List.mem_map.1 d;obtain⟨iO,qT⟩:=List.mem_filter.1 f;have:=(h.ok.puts q iO).1;simp at qT;omega
 have r:=List.length_pos_iff.2 e;obtain⟨_,xs,be,o9⟩:=h.dj.row k e;obtain⟨g,cg,n,o,dM,i⟩:=o9.get ((au S.puts k).length-1) (by omega);have d:=yP h.ok (k:=k) (j:=(au S.puts k).length-1) (by omega);have Nh:S.now k=(au S.puts k)[(au S.puts k).length-1]:=by
  simp [DS.now,DS.gM,List.getD,show¬(au S.puts k).length=0 by omega,qQ (show (au S.puts k).length-1<(au S.puts k).length by omega)]
 have fV:=i.src;rw [d] at fV;have c:=h.ok.len;obtain⟨a,bI,fB,aY,eM⟩:=h.JB.copied 3 (some ⟨gi,k*512,none⟩) (k*512) 512 512 (some (aD g 0)) 512 cg _ fV (λ_=>rfl) (by omega);rw [nC (by omega),<-Nh] at fB;exact⟨ez,g,cg,be.cell n,a,bI,h.Qp fB (by rw [jo _ _ _ (by rw [Nh];omega)];exact c) aY,aY,eM⟩
def Ze (S:DS) (im:List Int) (k:Nat) (a:au S.puts k≠ []):DS.now {S with im:=im} k=S.now k:=by
 have b:=List.length_pos_iff.2 a;simp [DS.now,DS.gM,show¬(au S.puts k).length=0 by omega]
def tL (S:DS) (k:Nat) (a:au S.puts k= []):S.now k=bS S.im k:=by simp [DS.now,DS.gM,a]
def bA {S:DS} (h:S.Ok s):∀k,k<s->(S.now k).length=512:=λ_ a=>DS.nG h a (bR _)
def PD {wr:World} {S:DS} {m:Nat} {D:DataW Value} (h:aO w F p s S gi ci m D gr cr) (hd:aO wr F p s {S with im:=im} gi ci m D gr cr)
    (g:∀k,k<s->bS im k=S.now k) (d:aa F w wr) (CA:w3.ownsMap prog 3 Rs m 0 (.map [])) (aZ:aa (λk=>k=m) wr w3):
  w3.cell? (aD p 6)=some (iV S.flushes)/\w3.frozen? (aD p 6)=false/\
  Calls prog 106 #[pQ p] (w3.setCell ⟨p,6,none⟩ (.int .i64 (wrap64 (S.flushes+1)))) λe w'=>e= .returned (.tuple #[])/\aQ w' F p s ((S.flush s).gv)/\aa F w w':=by
 have e:im=pI s S.now:=DK s hd.ok.len (pJ s _ (bA h.ok)) (λk d=>by
  rw [g k d,nI s _ (bA h.ok) k d])
 subst e;have b:=hd.qS CA aZ;have a:=b.XD;have dW:aa F w (w3.setCell ⟨p,6,none⟩ (.int .i64 (wrap64 (S.flushes+1)))):=(d.trans aZ (λj c=> .inl (c▸h.fm))).trans (aa.setCell (F:=λk=>k=p) w3 (p:=(aD p 6)) rfl _) (λj c=> .inl (c▸h.fp));refine⟨xz b.dI,ae b.dI 6,(Cq p S.fuse _ (bM a.dI) (ae a.dI 2) a.ok.fuse.1).mono ?_⟩;rintro e w' ⟨rfl,rfl⟩;have f:=a.yQ;exact⟨rfl,⟨gi,ci,m,_,gr,cr,f.1⟩,dW.trans f.2 (λj c=> .inl c)⟩
set_option maxRecDepth 100000 in
def Ur {S:DS} (hd:aQ w F p s S) (P:S.fuse≠0) (aU:S.puts.length+1<=5000000000000):
  Calls prog 52 #[pQ p] w λe w'=>e= .returned (iV 0)/\aQ w' F p s ((S.flush s).gv)/\aa F w w':=by
 have J:=ix hd;rw [show (S.fuse == 0)=false by simp [P]] at J;obtain⟨o,v,m,D,f,I,h⟩:=hd;have K:=bG h.dI;have H:=h;go_in;go_wp2_with (first|(go_at_call 35;refine J.mono ?_;rintro e w' ⟨rfl,U⟩;have eR:=U.symm;subst eR)|(at_range;refine wpList_range_own _ rfl _ 104 rfl 3 62 gu underlying104 Rs m S.puts.length D rfl H.map ?_;intro w0 pG vd yM;go_frame));have xY:aa F w w0:=⟨vd.os,vd.tape,vd.output,vd.size,λk i _=>vd.block k i (by simp)⟩;have xC:=H.agree vd.size (λk i=>vd.block k (H.lt k i) (by simp));have ws:∀k,k<s->bS S.im k=if has D (kk k) then bS S.im k else S.now k:=λk _=>by
  by_cases l:au S.puts k= []
  .rw [H.dj.FM k l];simp [tL S k l]
  .rw [H.dj.has l];simp
 go_loopw [3,4] (λ_ _ wr=>∃(left:Lit->Bool) (eu:Nat) (im:List Int),wr.ranges prog 3 Rs m w.heap.size S.puts.length D left eu/\aO wr F p s {S with im:=im} o v m D f I/\
     (∀k,k<s->bS im k=if left (kk k) then bS S.im k else S.now k)/\aa F w wr)
    (λ_ _ wr=>wr.rangeLeft m w.heap.size)
 case atStart=>exact⟨_,_,S.im,pG,xC,ws,xY⟩
 case round=>
  obtain⟨left,eu,im,mU,hd,R,i⟩:=hrel;have n:=hd;have E:=R;go_wp2_with (at_next;refine wpList_next_ranges _ rfl _ rfl 3 gu Rs (Value.int .i64) Nc (λW X gW=>by obtain⟨x,rfl,_⟩:=Maps.keyOf_int_inv underlying3 gW;exact⟨x,rfl⟩) sx m w.heap.size S.puts.length _ _ _ rfl mU ?_ ?_)
  .intro _ ws;obtain⟨C,Mi,CA,aZ,_⟩:=Cz n.map;have K:=bG n.dI;obtain⟨Y,Z,br⟩:=PD H n (λk i=>by rw [E k i,ws];simp) i CA aZ;go_wp2_with (go_at_call 106;refine br.mono ?_;rintro e w5 ⟨rfl,jJ,dX⟩);go_ret;exact⟨rfl,jJ,dX⟩
  .intro x ca M L X yd yp r pH gW Bl T it pj bq gh br Jb;obtain⟨k,rfl,rfl,A,N⟩:=n.dj.met gW T it;have l:au S.puts k≠ []:=A;obtain⟨d,BN⟩:∃d,(au S.puts k).length=d+1:=⟨(au S.puts k).length-1,by have:=List.length_pos_iff.2 l;omega⟩;have ahz:∀j,F j->j≠w.heap.size:=λj c e=>by have:=H.lt j c;omega
   have cI:aO r.drew F p s {S with im:=im} o v m D f I:=n.agree gh.size (λj c=>gh.block j (n.lt j c) (by simpa using ahz j c));obtain⟨ez,g,u,cU,C,bI,t,aZ,FR⟩:=L8 cI l;have ahA:=cI.JB.le;have y:=pC p o (s*512) v s k k r.drew (aM cI.dI) rfl ez rfl cI.ok.hi (by simp [bs,cI.ok.len] at ahA;omega);obtain⟨rfl,rfl,rfl⟩:ca=_/\M=_/\L=_:=(by simpa using N);simp only [BN] at Jb cU;have Qq:r.cell? ⟨f k,d,none⟩=some (.slice (some (aD g 0)) 512 u):=(by simpa using cU);have lJ:d+1<=S.puts.length:=(by rw [<-BN];exact l5 S.puts k);have bz:C.cell? ⟨f k,d,none⟩=some (.slice (some (aD g 0)) 512 u):=by
    obtain⟨xs,be,_⟩:=(cI.dj.row k l).2;obtain⟨cur,q,_⟩:=cI.JB;exact(World.cell?_of_block (w:=r.drew) (a:=⟨f k,d,none⟩) (aZ.block (f k) be.lt (be.ne q (by decide)))).trans Qq
   rw [(Ze S im k l)] at t;have iq:∀j,j<s->bS (splice im (k*512) (S.now k)) j=if (left (kk j) && !(kk j).sameKey (kk k)) then bS S.im j else S.now j:=λj c=>by
    rw [sA n.ok.len (bA H.ok k ez) ez,lI];by_cases e:j=k
    .subst e;simp
    .rw [aB e,E j c];simp [e]
   have Q:=H.lt o H.Uq;have Fv:r.grownBy C (some o):=⟨aZ.os,aZ.tape,aZ.output,aZ.size,λj c dM=>aZ.block j c (λe=>dM (by rw [e]))⟩;have z:m≠o:=by
    obtain⟨cur,q,_⟩:=H.JB;exact gL H.map q
   have JG:=pj.kept Fv (by simpa using z) (by simp;omega);have FU:=JG;have O:r.drew.cell? ⟨f k,d,none⟩=some (.slice (some (aD g 0)) 512 u):=Qq
   dsimp only [Nc] at Jb⊢
   have rS:(0:Int)<=(d:Int):=(by omega);have XH:(d:Int)<(d:Int)+1:=(by omega);have Fw:IntKind.i64.wrap (d:Int)=(d:Int):=(by rw [IntKind.wrap_i64];omega);go_wp2_with fail;go_region_held3 (λw'=>w'.cell? ⟨f k,d,none⟩=some (.slice (some (aD g 0)) 512 u)) (assumption) (first|(go_at_call 107;refine y.mono ?_;rintro e w' ⟨rfl,rfl⟩));all_goals
    go_wp2;go_roundw;case rel=>exact⟨_,pH,_,FU,t,iq,(i.trans (G:=λj=>j=w.heap.size) ⟨gh.os,gh.tape,gh.output,gh.size,λj c dM=>gh.block j c (by simpa using dM)⟩ (λj c=> .inr (by omega))).trans (b:=r) (G:=λj=>j=o) ⟨aZ.os,aZ.tape,aZ.output,aZ.size,aZ.block⟩ (λj c=> .inl (c▸H.Uq))⟩
    case measure=>rw [FU.left_eq,mU.left_eq];exact bq
def JH {S:DS} (h:aQ w F p s S) (b:Int) (a:Option Addr) (n c:Nat) (f:S.fuse=0):
  Calls prog 51 #[pQ p,iV b, .slice a n c] w λe w'=>e= .returned (iV 3)/\w'=w:=by
 have d:=ix h;rw [f] at d;go_in;go_wp2_with (go_at_call 35;refine d.mono ?_;rintro e w' ⟨rfl,rfl⟩);go_ret;exact⟨rfl,rfl⟩
def FV {S:DS} (h:aQ w F p s S) (a:Int) (i:Option Addr) (n c:Nat) (o:S.fuse≠0) (r:a<0\/(s:Int)<=a):
  Calls prog 51 #[pQ p,iV a, .slice i n c] w λe w'=>e= .returned (iV 11)/\aQ w' F p s S.refuse/\aa F w w':=by
 have f:=ix h;rw [show (S.fuse == 0)=false by simp [o]] at f;obtain⟨k,d,m,D,l,j,h⟩:=h;have t:=h.ok.hi;have g:=tJ p _ (s*512) d a w (by omega) (aM h.dI);rw [show s*512 / 512=s by omega,show (decide (0<=a) && decide (a<(s:Int)))=false by simp;omega] at g;have fB:Calls prog 95 #[pQ p,iV 11] w λe w'=>e= .returned (iV 11)/\aQ w' F p s S.refuse/\aa F w w':=
    (sw p S.refused 11 w (rH h.dI) (ae h.dI 7)).mono (by rintro e w' ⟨rfl,rfl⟩;exact⟨rfl,⟨k,d,m,D,l,j,h.refused⟩,aa.setCell w h.fp _⟩)
 go_in;go_wp2_with (first|(go_at_call 35;refine f.mono ?_;rintro e w' ⟨rfl,b⟩;have eR:=b.symm;subst eR)|(go_at_call 94;refine g.mono ?_;rintro e w' ⟨rfl,b⟩;have eR:=b.symm;subst eR)|(go_at_call 95;refine fB.mono ?_;rintro e w' ⟨rfl,hd,q⟩));go_ret;exact⟨rfl,hd,q⟩
def DM {S:DS} (h:aQ w F p s S) (k:Nat) (i:Option Addr) (n c:Nat) (q:S.fuse≠0) (g:k<s) (r:n≠512):
  Calls prog 51 #[pQ p,iV (k:Int), .slice i n c] w λe w'=>e= .returned (iV 2)/\aQ w' F p s S.refuse/\aa F w w':=by
 have d:=ix h;rw [show (S.fuse == 0)=false by simp [q]] at d;obtain⟨l,b,m,D,o,j,h⟩:=h;have t:=h.ok.hi;have f:=tJ p _ (s*512) b k w (by omega) (aM h.dI);rw [show s*512 / 512=s by omega,show (decide (0<=(k:Int)) && decide ((k:Int)<(s:Int)))=true by simp;omega] at f;have fB:Calls prog 95 #[pQ p,iV 2] w λe w'=>e= .returned (iV 2)/\aQ w' F p s S.refuse/\aa F w w':=
    (sw p S.refused 2 w (rH h.dI) (ae h.dI 7)).mono (by rintro e w' ⟨rfl,rfl⟩;exact⟨rfl,⟨l,b,m,D,o,j,h.refused⟩,aa.setCell w h.fp _⟩)
 have dM:((n:Int) != 512)=true:=by rw [gg];omega
 go_in;go_wp2_with (first|(go_at_call 35;refine d.mono ?_;rintro e w' ⟨rfl,a⟩;have eR:=a.symm;subst eR)|(go_at_call 94;refine f.mono ?_;rintro e w' ⟨rfl,a⟩;have eR:=a.symm;subst eR)|(go_at_call 95;refine fB.mono ?_;rintro e w' ⟨rfl,hd,g⟩));go_ret;exact⟨rfl,hd,g⟩
def DS.lay (S:DS) (calls:Int):DS:=if S.fuse=0 then S else {S with fuse:=max calls (-1)}
def DS.take (S:DS):DS:={S with life:=wrap64 (S.life+1)}
def XE {S:DS} (h:aQ w F p s S) (a:Int) (i:a<=9223372036854775807):
  Calls prog 26 #[pQ p,iV a] w λe w'=>e= .returned (.tuple #[])/\aQ w' F p s (S.lay a)/\aa F w w':=by
 obtain⟨d,b,m,D,f,c,h⟩:=h;refine(Up p S.fuse a w (bM h.dI) (ae h.dI 2)).mono ?_;rintro e w' ⟨rfl,rfl⟩;by_cases g:S.fuse=0
 .simp only [g,if_true,DS.lay];exact⟨trivial,⟨d,b,m,D,f,c,h⟩,aa.refl _ _⟩
 .simp only [g,if_false,DS.lay];exact⟨trivial,⟨d,b,m,D,f,c,h.nE (h.set 2 _).2 ((h.set 2 _).1.trans (by simp [bL])) rfl rfl (by simp only;omega)⟩,aa.setCell w h.fp _⟩
def Vk {S:DS} (h:aQ w F p s S):
  Calls prog 48 #[pQ p] w λe w'=>e= .returned (iV (wrap64 (S.life+1)))/\aQ w' F p s S.take/\aa F w w':=by
 obtain⟨c,a,m,D,d,b,h⟩:=h;refine(Qc p S.life w (fU h.dI) (ae h.dI 3)).mono ?_;rintro e w' ⟨rfl,rfl⟩;exact⟨rfl,⟨c,a,m,D,d,b,h.nE (h.set 3 _).2 ((h.set 3 _).1.trans (by simp [bL,DS.take])) rfl rfl h.ok.fuse⟩,aa.setCell w h.fp _⟩
def jp (S:DS) (k:Nat) (A B C:Nat):List Int:=
   (S.gM k (A%((au S.puts k).length+1))).take (C%513) ++ (S.gM k (B%((au S.puts k).length+1))).drop (C%513)
def FW {S:DS} {m:Nat} {D:DataW Value} (h:aO w F p s S gi ci m D gr cr) (k:Nat) (f:k<s) (j:Nat) (b:Int) (a:b=(j:Int)) (d:j<=(au S.puts k).length) (aU:S.puts.length<=140737488355328):
  Calls prog 96 #[pQ p,iV (k:Int),iV b] w λe w'=>∃g o c,e= .returned (.slice (some (aD g o)) 512 c)/\F g/\512<=c/\(g=gi->o=k*512/\S.gM k j=bS S.im k)/\Src w (some (aD g o)) 512 (S.gM k j)/\w'=w:=by
 subst a;exact FP h k f j d aU
def DN (x:Int) (y:Nat) (h:max x 0=(y:Int)) (w:World):(Builtin.max_ #[3,3] 3 #[iV x,iV 0]).run prog w= .ok (iV (y:Int)) w:=by
 rw [<-h];by_cases a:x<0
 .simp [Builtin.max_,Builtin.max2,a,show max x 0=0 by omega]
 .simp [Builtin.max_,Builtin.max2,a,show max x 0=x by omega]
def Src.front (h:Src w (some x) n l) (c:j<=n):Src w (some x) j (l.take j):=by
 have d:=h.1;refine⟨by rw [oj];omega,(λh=>by cases h),λy b i a=>?_⟩;rw [h.2.2 y b i (by omega)];simp [List.getD,a]
def JI (im b lb:List Int) (o a n:Nat) (l:a<=n) (JJ:b.length=n) (BM:lb.length=n) (k:o+n<=im.length):
  splice (splice im o (b.take a)) (o+a) (lb.drop a)=splice im o (b.take a ++ lb.drop a):=by
 have c:(b.take a).length=a:=by rw [oj];omega
 have d:(lb.drop a).length=n-a:=by rw [List.length_drop];omega
 have e:(b.take a ++ lb.drop a).length=n:=by rw [ee,c,d];omega
 have f:(splice im o (b.take a)).length=im.length:=jo _ _ _ (by omega);apply List.ext_getElem?;intro i;rw [iz _ _ _ (by omega),iz _ _ _ (by omega),iz _ _ _ (by omega),c,d,e];by_cases g:o<=i/\i<o+a
 .rw [aB (by omega),aG (by omega),aG (by omega),u9 (by omega)]
 .by_cases j:o+a<=i/\i<o+n
  .rw [aG (by omega),aG (by omega),wm (by omega),c,show i-(o+a)=i-o-a by omega]
  .rw [aB (by omega),aB (by omega),aB (by omega)]
def FX (im b:List Int) (k a i:Nat) (JJ:(b.take a).length=a) (d:k*512+a<=im.length) (c:a+i<512):
    (splice im (k*512) (b.take a)).getD (k*512+(a+i)) 0=(bS im k).getD (a+i) 0:=by
 rw [List.getD,List.getD,iz _ _ _ (by omega),aB (by omega),mz,aG c]
def Qr {S:DS} {m:Nat} {D:DataW Value} (h:aO w F p s S gi ci m D gr cr) (M:k<s) {c:Nat} (BO:c<=512) {o lb:List Int}
  {z C ca n u:Nat} (Vl:Src w (some (aD z C)) 512 o) (sB:Src w (some (aD n u)) 512 lb) (CB:n=gi->u=k*512/\lb=bS S.im k):
  ∃d,(Builtin.copy_ #[36,36] 3 #[.slice (some ⟨gi,k*512,none⟩) c 512, .slice (some (aD z C)) c ca]).run prog w= .ok (goInt (Nat.min c c)) d/\d.heap.size=w.heap.size/\
     (∀r q v x,(c<512->r=some ⟨gi,k*512+c,none⟩/\q=some ⟨n,u+c,none⟩)->
    ∃w3,(Builtin.copy_ #[36,36] 3 #[.slice r (512-c) v, .slice q (512-c) x]).run prog d.drew= .ok (goInt (Nat.min (512-c) (512-c))) w3/\
     aO w3 F p s {S with im:=splice S.im (k*512) (o.take c ++ lb.drop c)} gi ci m D gr cr/\aa F w w3):=by
 obtain⟨f,JJ,BM⟩:=kH h.ok.len Vl.1 sB.1;obtain⟨d,bI,fB,aY,eM⟩:=h.JB.copied 3 (some ⟨gi,k*512,none⟩) (k*512) c 512 (some (aD z C)) c ca (o.take c) (Vl.front BO) (λ_=>rfl) (by omega);rw [List.take_take,Nat.min_self] at fB;have fK:(splice S.im (k*512) (o.take c)).length=s*512:=by rw [jo _ _ _ (by rw [oj];omega)];exact f
 refine⟨d,bI,eM,λr q v x g=>?_⟩;have acC:ay d.drew 5 gi ci (bs (splice S.im (k*512) (o.take c))):=fB;have fV:Src d.drew q (512-c) (lb.drop c):=by
  refine⟨by rw [List.length_drop];omega,λe=>?_,λy H i L=>?_⟩
  .by_cases t:c<512
   .rw [(g t).2] at e;cases e
   .omega
  .have t:c<512:=(by omega);rw [(g t).2] at H;cases H;rw [aN];have h0:=sB.2.2 _ rfl (c+i) (by omega);rw [aN] at h0;have K:(lb.drop c).getD i 0=lb.getD (c+i) 0:=(by simp [List.getD]);rw [K];by_cases A:n=gi
   .obtain⟨rfl,rfl⟩:=CB A;subst A;have E:=acC.byte (i:=k*512+(c+i)) (by omega);rw [aN,Nat.zero_add] at E;rw [Nat.add_assoc,E,FX _ _ _ _ _ (by rw [oj];omega) (by omega) (by omega)]
   .have:=World.cell?_of_block (w:=w) (w':=d) (a:=⟨n,u+(c+i),none⟩) (aY.block n (World.block_lt_of_cell? _ _ h0) A);rw [Nat.add_assoc];exact this.trans h0
 obtain⟨w3,Mi,Bm,aZ,_⟩:=acC.copied 3 r (k*512+c) (512-c) v q (512-c) x (lb.drop c) fV (λt=>(g (by omega)).1) (by omega);rw [nC (l:=lb.drop c) (by rw [List.length_drop];omega)] at Bm;have e:=JI S.im o lb (k*512) c 512 BO JJ BM (by omega);rw [e] at Bm;have acD:=aY.trans (b:=d) (G:=λb=>b=gi) ⟨aZ.os,aZ.tape,aZ.output,aZ.size,aZ.block⟩ (λj J=> .inl J);exact⟨w3,Mi,h.Qp Bm (by rw [jo _ _ _ (by rw [ee,oj,List.length_drop];omega)];exact f) acD,acD.mono (λb I=>I▸h.Uq)⟩
set_option maxRecDepth 100000 in
def Vm {S:DS} {m:Nat} {D:DataW Value} (h:aO w F p s S gi ci m D gr cr) (k:Nat) (y:k<s) (aU:S.puts.length+1<=5000000000000)
    (A B C:Int) (A' B' f:Nat) (T:max A 0=(A':Int)) (U:max B 0=(B':Int)) (W:max C 0=(f:Int)) (J:A<=9223372036854775807) (K:B<=9223372036854775807) (L:C<=9223372036854775807):
  Calls prog 70 #[pQ p,iV (k:Int), .agg #[iV A,iV B,iV C]] w λe w'=>e= .returned (.tuple #[])/\aO w' F p s {S with im:=splice S.im (k*512) (jp S k A' B' f)} gi ci m D gr cr/\aa F w w':=by
 have O:=DN A A' T;have P:=DN B B' U;have Q:=DN C f W;have Z:(A':Int)<=9223372036854775807:=by omega
 have eV:(B':Int)<=9223372036854775807:=by omega
 have Qs:(f:Int)<=9223372036854775807:=by omega
 have nH:=l5 S.puts k;have hd:aO (w.alloc (.cells #[.int .i64 A, .int .i64 B, .int .i64 C] 115)) F p s S gi ci m D gr cr:=h.agree (by simp) (λj N=>Below.heap_alloc _ _ _ (h.lt j N));have po:aa F w (w.alloc (.cells #[.int .i64 A, .int .i64 B, .int .i64 C] 115)):=aa.alloc _ _ _;obtain⟨a,cc,xs,gX,_⟩:=hd.Qj y;have X:=bG hd.dI;have cu:=gX _ rfl;have E:=hd.JB.le;have x:=pC p gi (s*512) ci s k k _ (aM hd.dI) rfl y rfl h.ok.hi (by simp [bs,hd.ok.len] at E;omega);have JF:∀j:Nat,(j:Int)%(((au S.puts k).length:Int)+1)=((j%((au S.puts k).length+1):Nat):Int):=λj=>by push_cast;rfl
 have Cu:∀j:Nat,j%((au S.puts k).length+1)<=(au S.puts k).length:=λj=>Nat.le_of_lt_succ (Nat.mod_lt _ (by omega));have u:=FW hd k y (A'%((au S.puts k).length+1)) _ (JF A') (Cu A') (by omega);have v:=FW hd k y (B'%((au S.puts k).length+1)) _ (JF B') (Cu B') (by omega);have t:(f:Int)%513=((f%513:Nat):Int):=by push_cast;rfl
 obtain⟨c,BO⟩:=bP (f%513);rw [<-BO] at t;have XI:c<=512:=by omega
 obtain⟨R,acE⟩:=bV hd BO;clear h T U W hd gX J K L JF Cu E BO;go_in;go_wp2_with fail;refine u.mono ?_;rintro e w2 ⟨ga,oa,ca,rfl,hFa,tM,M,Vl,g⟩;have eR:=g.symm;subst eR;clear u g;have n:=yh Vl;clear Vl M;go_wp2_with fail;refine v.mono ?_;rintro e w3 ⟨H,I,cb,rfl,DO,hcb,CB,sB,g⟩;have eR:=g.symm;subst eR;clear v g;obtain⟨q,l⟩:=bV sB CB;clear sB CB;go_wp2_with fail;refine bJ x λw4 g=>?_;have eR:=g.symm;subst eR;clear x g;have yR:aO (w.alloc (.cells #[.int .i64 A, .int .i64 B, .int .i64 C] 115)).drew F p s S gi ci m D gr cr:=R.o.agree (bR _) (λ_ _=>rfl);obtain⟨w5,acF,_,j6⟩:=Qr (ca:=ca) yR y XI n.o q.o l.o;have wt:=yh j6;have JK:(0:Int)<=(c:Int):=by omega
 have Bo:(c:Int)<=512:=by omega
 have BP:(c:Int)<=(ca:Int):=by omega
 have Ni:(c:Int)<=(cb:Int):=by omega
 clear yR j6;go_wp2_with fail;go_region_held3 (λ_=>True) (trivial) (fail);go_wp2_with fail;have jK:∀d,aO d F p s {S with im:=splice S.im (k*512) (List.take c (S.gM k (A'%((au S.puts k).length+1))) ++ List.drop c (S.gM k (B'%((au S.puts k).length+1))))} gi ci m D gr cr->
   aa F (w.alloc (.cells #[.int .i64 A, .int .i64 B, .int .i64 C] 115)).drew d->aO d F p s {S with im:=splice S.im (k*512) (jp S k A' B' f)} gi ci m D gr cr/\aa F w d:=λd Y r=>by
  refine⟨?_,po.trans (b:=w.alloc (.cells #[.int .i64 A, .int .i64 B, .int .i64 C] 115)) (G:=F) ⟨r.os,r.tape,r.output,r.size,r.block⟩ (λj N=> .inl N)⟩;unfold jp;rw [<-acE.o];exact Y
 have lj:=yh jK;clear jK po acF O P Q cu X R n q l acE t;rcases(show c=0\/(0<c/\c<512)\/c=512 by omega) with h5|h5|h5
 .subst h5;obtain⟨d,Jc,pK,jE⟩:=wt.o (some ⟨gi,k*512,none⟩) (some (aD H I)) 512 cb (λ_=>⟨rfl,rfl⟩);simp only [Nat.sub_zero] at Jc;have i:=lj.o d pK jE;clear pK jE wt lj;go_region_held3 (λ_=>True) (trivial) (fail);all_goals
   go_end0
   exact⟨rfl,i⟩
 .obtain⟨d,Jc,pK,jE⟩:=wt.o (some ⟨gi,k*512+c,none⟩) (some ⟨H,I+c,none⟩) (512-c) (cb-c) (λ_=>⟨rfl,rfl⟩);have i:=lj.o d pK jE;have z1:¬512=c:=by omega
  have z2:¬cb=c:=by omega
  clear pK jE wt lj;go_region_held3 (λ_=>True) (trivial) (fail);all_goals
   go_end0
   exact⟨rfl,i⟩
 .subst h5;by_cases z:cb=512
  .subst z;obtain⟨d,Jc,pK,jE⟩:=wt.o (some ⟨gi,k*512,none⟩) (some (aD H I)) 0 0 (λh=>by omega);simp only [Nat.sub_self] at Jc;have i:=lj.o d pK jE;clear pK jE wt lj;go_region_held3 (λ_=>True) (trivial) (fail);all_goals
    go_end0
    exact⟨rfl,i⟩
  .obtain⟨d,Jc,pK,jE⟩:=wt.o (some ⟨gi,k*512,none⟩) (some ⟨H,I+512,none⟩) 0 (cb-512) (λh=>by omega);simp only [Nat.sub_self] at Jc;have i:=lj.o d pK jE;clear pK jE wt lj;go_region_held3 (λ_=>True) (trivial) (fail);all_goals
    go_end0
    exact⟨rfl,i⟩
abbrev wu (l:List Nat):List Value:=l.map (λk:Nat=>Value.int .i64 (k:Int))
def aI (S:DS) (s:Nat):List Nat:=(List.range s).filter (λk=> !(au S.puts k).isEmpty)
def oy {S:DS}:k∈aI S s↔k<s/\au S.puts k≠ []:=by
 simp [aI,List.mem_filter]
def Mj (l:List Nat):(l.map (λk:Nat=>(k:Int))).map (Value.int .i64)=wu l:=by rw [List.map_map];rfl
def yS:Prop:=∀(g cap:Nat) (zs:List Int) (w:World),ay w 3 g cap (zs.map (Value.int .i64))->zs.length<4611686018427387904->
 Calls prog 126 #[.slice (some (aD g 0)) zs.length cap] w λe w'=>e= .returned (.tuple #[])/\ay w' 3 g cap ((zs.mergeSort λx y=>decide (x<=y)).map (Value.int .i64))/\aa (λk=>k=g) w w'
def DP:Prop:=∀(w:World),Calls prog 126 #[.slice none 0 0] w λe w'=>e= .returned (.tuple #[])/\bW w w'
def FY {S:DS} (dw:S.Ok s) (i:ks.Nodup) (g:∀k,k∈ks↔au S.puts k≠ []):
    ((ks.map (λk:Nat=>(k:Int))).mergeSort λx y=>decide (x<=y))=(aI S s).map (λk:Nat=>(k:Int)):=by
 have bq:∀k,au S.puts k≠ []->k<s:=λk j=>by
  obtain⟨l,f⟩:=List.exists_mem_of_ne_nil _ j;unfold au at f;obtain⟨q,m,_⟩:=List.mem_map.1 f;obtain⟨iO,qT⟩:=List.mem_filter.1 m;have:=(dw.puts q iO).1;simp at qT;omega
 have lJ:(aI S s).Nodup:=List.Pairwise.filter _ List.nodup_range;have Qt:=(List.perm_ext_iff_of_nodup i lJ).2 (λk=>by
  rw [g,oy];exact⟨λh=>⟨bq k h,h⟩,λh=>h.2⟩)
 have br:((aI S s).map (λk:Nat=>(k:Int))).Pairwise (λx y=>decide (x<=y)=true):=by
  refine List.pairwise_map.2 ?_;have:(aI S s).Pairwise (λx y=>x<y):=List.Pairwise.filter _ List.pairwise_lt_range;exact this.imp (λh=>by simp;omega)
 have o:∀a b c:Int,decide (a<=b)=true->decide (b<=c)=true->decide (a<=c)=true:=λa b c d e=>by simp only [decide_eq_true_eq] at*;omega
 have n:∀a b:Int,(decide (a<=b) || decide (b<=a))=true:=λa b=>by simp only [Bool.or_eq_true,decide_eq_true_eq];omega
 refine List.Perm.eq_of_pairwise (le:=λa b=>decide (a<=b)=true) (λa b _ _ d e=>?_) (List.pairwise_mergeSort o n _) br ((List.mergeSort_perm _ _).trans (Qt.map _));simp only [decide_eq_true_eq] at d e;omega
def Vn (ww:yS) (wF:DP) {S:DS} {m:Nat} {D:DataW Value} (h:aO w F p s S gi ci m D gr cr) (aU:S.puts.length+1<=5000000000000):
  Calls prog 69 #[pQ p] w λe w'=>∃a c,e= .returned (.slice a (aI S s).length c)/\(aI S s≠ []->∃g,a=some (aD g 0)/\w.heap.size<=g/\ay w' 3 g c (wu (aI S s)))/\bW w w':=by
 obtain⟨J,rS,gC,dE,em⟩:=info_parts DH;have O:=bG h.dI;have Cs:=h.lt m h.fm;have H:=yh h;clear h;go_in;go_wp2_with (at_range;refine wpList_range_own _ rfl _ 104 rfl 3 62 gu underlying104 Rs m S.puts.length D rfl H.o.map ?_;intro w0 pG vd yM;go_frame);have fR:=(bi _ w).grown vd (bR _) (λj l=>by cases l);clear vd;go_loopw [3,4] (λv _ wr=>∃(left:Lit->Bool) (eu:Nat) (ks:List Nat),wr.ranges prog 3 Rs m w.heap.size S.puts.length D left eu/\wr.ownsRow (w.heap.size+1) 3 1 v ks.length (wu ks)/\
   ks.Nodup/\(∀k,k∈ks↔au S.puts k≠ []/\left (kk k)=false)/\bW w wr/\ks.length+eu<=S.puts.length/\w.heap.size+1<=wr.heap.size)
    (λ_ _ wr=>wr.rangeLeft m w.heap.size)
 case atStart=>
  refine⟨_,_, [],pG,World.ownsRow_nil _ _ _ _,List.nodup_nil,λk=>?_,fR,by simpa using H.o.map.size_le,by omega⟩;constructor
  .intro q;cases q
  .rintro ⟨r,t⟩;rw [H.o.dj.has r] at t;cases t
 case round=>
  clear pG fR yM;obtain⟨left,eu,ks,mU,be,PH,rI,i,mv,eM⟩:=hrel;go_wp2_with (at_next;refine wpList_next_ranges _ rfl _ rfl 3 gu Rs (Value.int .i64) Nc (λK L gW=>by obtain⟨x,rfl,_⟩:=Maps.keyOf_int_inv underlying3 gW;exact⟨x,rfl⟩) sx m w.heap.size S.puts.length _ _ _ rfl mU ?_ ?_)
  .intro _ ws;have yT:∀k,k∈ks↔au S.puts k≠ []:=λk=>by rw [rI,ws];simp
   have JL:=FY H.o.ok PH yT;have d:ks.length=(aI S s).length:=by
    have:=congrArg List.length JL;rw [List.length_mergeSort] at this;simpa using this
   have Qu:ks= []->aI S s= []:=λe=>by rw [e] at d;exact yH d.symm
   rcases be.2 with ⟨rfl,I⟩|⟨g,f,cur,rfl,T,tF,R,A,C,n⟩
   .have ez:=Qu (yH I);have i7:=wF wr;clear be rI yT JL mU H ww wF;go_wp2_with (go_at_call 126;refine i7.mono ?_;rintro e N ⟨rfl,Bq⟩);go_ret;exact⟨none,0,by simp [ez],λh=>absurd ez h,i.trans (Bq.mono i.size)⟩
   .have Uz:ay wr 3 g f ((ks.map (λk:Nat=>(k:Int))).map (Value.int .i64)):=by
     rw [Mj];refine⟨cur,tF,by simpa using C,?_,A⟩;simp only [Nat.mul_one] at n;rw [show (wu ks).length=ks.length by simp [wu]];exact n
    have mm:=ww g f _ wr Uz (by simp;omega);simp only [jF] at mm;rw [JL] at mm;have Nj:=yh d;clear be rI yT JL mU H ww wF Uz d n;go_wp2_with (go_at_call 126;refine mm.mono ?_;rintro e N ⟨rfl,DQ,Br⟩);go_ret;refine⟨some (aD g 0),f,?_,λ_=>⟨g,rfl,by omega,?_⟩,i.trans (Br.below (λj l=>by omega) i.size)⟩
    .rw [<-Nj.o];rfl
    .rw [<-Mj];exact DQ
  .intro x ca Q P L U W y pH gW Bl u it pj bq gh br Jb;obtain⟨k,rfl,rfl,r,G⟩:=H.o.dj.met gW u it;have xZ:k∉ks:=λq=>by rw [((rI k).1 q).2] at Bl;cases Bl
   have pb:=be.kept gh (.inr (λe=>by have:=be.lt _ e;omega));have bd:=i.grown gh i.size (λj l=>by cases l;exact bR _);have jD:w.heap.size+1<=y.heap.size:=(by omega);have FZ:∀j,j∈ks ++ [k]↔au S.puts j≠ []/\(left (kk j) && !(kk j).sameKey (kk k))=false:=λj=>by
    rw [List.mem_append,List.mem_singleton,rI,lI];by_cases e:j=k
    .subst e;simp [r]
    .simp [e]
   have d:ks.length+1<=5000000000000:=(by omega);obtain⟨Qv,yU⟩:=bV FZ pb;clear gW u it br gh G rI FZ pb;go_wp2_with (at_builtin;refine wpList_append_own _ rfl _ _ 23 rfl (w.heap.size+1) 3 J (iV 0) 1 8 underlying23 rS gC dE em rfl (by decide) _ _ _ rfl (yU.o.alloc _) (aD y.heap.size 0) 1 1 [iV (k:Int)] rfl rfl (cell_one_new _ _ _) (ints_oneCell .i64 [(k:Int)]) (by unfold maxLen;omega) (by omega) (by simp;omega) ?_);intro M z cN aR jI;have vl:=λj e=>(be.lt j e).1;have JG:=(pj.alloc (.cells #[.int .i64 (k:Int)] 3)).kept aR (λe=>by have:=vl m e.symm;omega) (λe=>by have:=vl _ e.symm;omega);have bz:=(bd.alloc (by omega) _).grown aR (by simp;omega) (λj e=>by have:=vl j e;omega);have FR:w.heap.size+1<=z.heap.size:=(by have:=aR.size;simp at this;omega);have Zf:(ks ++ [k]).Nodup:=List.nodup_append.2 ⟨PH,by simp,by intro a E b eI e;simp at eI;subst eI;exact xZ (e▸E)⟩;have fP:z.ownsRow (w.heap.size+1) 3 1 M (ks ++ [k]).length (wu (ks ++ [k])):=(by simpa [wu] using cN);obtain⟨i8,FU⟩:=bV fP JG;clear cN aR jI fP JG be yU pj Jb;go_wp2;go_roundw;case rel=>exact⟨_,pH,ks ++ [k],FU.o,i8.o,Zf,Qv.o,bz,by simp;omega,FR⟩
   case measure=>rw [FU.o.left_eq,mU.left_eq];exact bq
abbrev P3:=Int×Int×Int
def ll (w:World) (a:Option Addr) (n:Nat) (l:List P3):Prop:=
 l.length=n/\(a=none->n=0)/\(∀x,a=some x->∀i (hi:i<l.length),∃b o,x=(aD b o)/\w.cell? ⟨b,o+i*3,none⟩=some (iV l[i].1)/\w.cell? ⟨b,o+i*3+1,none⟩=some (iV l[i].2.1)/\w.cell? ⟨b,o+i*3+2,none⟩=some (iV l[i].2.2))/\
  ∀q∈l,q.1<=9223372036854775807/\q.2.1<=9223372036854775807/\q.2.2<=9223372036854775807
def mA (l:List P3) (i:Nat):P3:=if h:0<l.length then l[i%l.length]'(Nat.mod_lt _ h) else (0,0,0)
def vm (S:DS) (k:Nat) (q:P3):List Int:=jp S k (max q.1 0).toNat (max q.2.1 0).toNat (max q.2.2 0).toNat
def fo (S:DS) (l:List P3) (k:Nat):List Int:=if au S.puts k= [] then bS S.im k else vm S k (mA l (aI S k).length)
def DS.iA (S:DS) (s:Nat) (l:List P3):DS:={S with im:=pI s (fo S l),puts:= [],fuse:= -1,life:=wrap64 (S.life+1)}
def pL (S:DS) (s:Nat):aI S (s+1)=aI S s ++ (if au S.puts s= [] then [] else [s]):=by
 unfold aI;rw [List.range_succ,List.filter_append];congr 1;by_cases h:au S.puts s= [] <;> simp [h]
def yV (S:DS):∀(s j k:Nat),(aI S s)[j]? =some k->(aI S k).length=j
 |0,j,k,h=>by simp [aI] at h
 |s+1,j,k,h=>by
  rw [pL] at h;by_cases a:j<(aI S s).length
  .rw [u9 a] at h;exact yV S s j k h
  .rw [wm (by omega)] at h;split at h
   .simp at h
   .have XJ:j-(aI S s).length=0:=by
     have:=(mS.1 h).1;simp at this;omega
    rw [XJ] at h;simp at h;subst h;omega
def Qw {S:DS} (h:S.Ok s) (a:k<s) (A B C:Nat):(jp S k A B C).length=512:=by
 unfold jp;rw [ee,oj,List.length_drop,(DS.nG h a (j:=A%((au S.puts k).length+1)) (Nat.le_of_lt_succ (Nat.mod_lt _ (by omega)))),(DS.nG h a (j:=B%((au S.puts k).length+1)) (Nat.le_of_lt_succ (Nat.mod_lt _ (by omega))))];omega
def tN {S:DS} (h:S.Ok s) (l:List P3):∀k,k<s->(fo S l k).length=512:=λk a=>by
 unfold fo;split
 .exact Qo h.len a
 .exact Qw h a _ _ _
def Vo (S:DS) (im:List Int) (k A B C:Nat) (h:bS im k=bS S.im k):jp {S with im:=im} k A B C=jp S k A B C:=by
 have e:∀j,DS.gM {S with im:=im} k j=S.gM k j:=λj=>by
  unfold DS.gM;split
  .exact h
  .rfl
 unfold jp;rw [e,e]
def mV (h:ks[j]? =some k0) (k:Nat):k∈ks.take (j+1)↔k∈ks.take j\/k=k0:=by
 rw [List.take_add_one,h];simp
def DR (f:ks.Nodup) (h:ks[j]? =some k0):k0∉ks.take j:=by
 obtain⟨c,e⟩:=mS.1 h;intro d;obtain⟨i,b,a⟩:=List.mem_iff_getElem.1 d;rw [List.getElem_take] at a;have:=List.getElem_inj (h₀:=by simp at b;omega) (h₁:=c) f |>.1 (a.trans e.symm);simp at b;omega
def yW {S:DS} (dw:S.Ok s) (l:List P3) (Zd:im.length=s*512) (a:(aI S s)[j]? =some k)
    (f:∀i,i<s->bS im i=if i∈(aI S s).take j then fo S l i else bS S.im i):
  k<s/\au S.puts k≠ []/\vm {S with im:=im} k (mA l j)=fo S l k/\∀i,i<s->bS (splice im (k*512) (fo S l k)) i=if i∈(aI S s).take (j+1) then fo S l i else bS S.im i:=by
 obtain⟨ez,d⟩:=oy.1 (gB a);have PH:(aI S s).Nodup:=List.Pairwise.filter _ List.nodup_range;have JL:=f k ez;rw [aB (DR PH a)] at JL;have e:vm {S with im:=im} k (mA l j)=fo S l k:=by
  unfold vm fo;rw [aB d,yV S s j k a,Vo S im k _ _ _ JL];rfl
 refine⟨ez,d,e,λi g=>?_⟩;rw [sA Zd (tN dw l k ez) ez];by_cases c:i=k
 .subst c;rw [aG rfl,aG ((mV a i).2 (.inr rfl))]
 .rw [aB c,f i g];by_cases b:i∈(aI S s).take j
  .rw [aG b,aG ((mV a i).2 (.inl b))]
  .rw [aB b,aB (λh=>by rcases(mV a i).1 h with h|h;exact b h;exact c h)]
def vn {S:DS} (dw:S.Ok s) (l:List P3) (Zd:im.length=s*512) (c:∀i,i<s->bS im i=if i∈(aI S s).take (aI S s).length then fo S l i else bS S.im i):im=pI s (fo S l):=by
 refine DK s Zd (pJ s _ (tN dw l)) (λk a=>?_);rw [c k a,nI s _ (tN dw l) k a,List.take_length];by_cases b:au S.puts k= []
 .rw [aB (λh=>(oy.1 h).2 b)];simp [fo,b]
 .rw [aG (oy.2 ⟨a,b⟩)]
def ll.keeps {l:List P3} (h:ll w a n l) (m:aa F w w') (j:∀x,a=some x->¬F x.block):ll w' a n l:=by
 refine⟨h.1,h.2.1,λx d i k=>?_,h.2.2.2⟩;obtain⟨b,o,rfl,c,f,g⟩:=h.2.2.1 x d i k;have e:=m.block b (World.block_lt_of_cell? _ _ c) (j _ d);exact⟨b,o,rfl,(World.cell?_of_block (w:=w) (a:=(aD b _)) e).trans c,(World.cell?_of_block (w:=w) (a:=(aD b _)) e).trans f,(World.cell?_of_block (w:=w) (a:=(aD b _)) e).trans g⟩
def Nk {wr:World} {S:DS} {m:Nat} {D:DataW Value} {l:List P3} (h:aO w F p s S gi ci m D gr cr) (hd:aO wr F p s {S with im:=im} gi ci m D gr cr)
    (d:im=pI s (fo S l)) (e:aa F w wr) (CA:w3.ownsMap prog 3 Rs m 0 (.map [])) (aZ:aa (λk=>k=m) wr w3):
  w3.cell? (aD p 2)=some (iV S.fuse)/\w3.frozen? (aD p 2)=false/\w3.cell? (aD p 3)=some (iV S.life)/\w3.frozen? (aD p 3)=false/\
  aQ ((w3.setCell ⟨p,2,none⟩ (.int .i64 (-1))).setCell ⟨p,3,none⟩ (.int .i64 (wrap64 (S.life+1)))) F p s (S.iA s l)/\aa F w ((w3.setCell ⟨p,2,none⟩ (.int .i64 (-1))).setCell ⟨p,3,none⟩ (.int .i64 (wrap64 (S.life+1)))):=by
 subst d;have a:=hd.qS CA aZ;have b:aO (w3.setCell ⟨p,2,none⟩ (.int .i64 (-1))) F p s {S with im:=pI s (fo S l),puts:= [],fuse:= -1} gi ci m (.map []) gr cr:=
  a.nE (a.set 2 _).2 ((a.set 2 _).1.trans (by simp [bL])) rfl rfl (by simp)
 have jJ:aO ((w3.setCell ⟨p,2,none⟩ (.int .i64 (-1))).setCell ⟨p,3,none⟩ (.int .i64 (wrap64 (S.life+1)))) F p s (S.iA s l) gi ci m (.map []) gr cr:=
  b.nE (b.set 3 _).2 ((b.set 3 _).1.trans (by simp [bL,DS.iA])) rfl rfl (by simp [DS.iA])
 refine⟨bM a.dI,ae a.dI 2,fU a.dI,ae a.dI 3,⟨gi,ci,m,_,gr,cr,jJ⟩,?_⟩;exact((e.trans aZ (λj c=> .inl (c▸h.fm))).trans (aa.setCell (F:=λk=>k=p) w3 (p:=(aD p 2)) rfl _) (λj c=> .inl (c▸h.fp))).trans (aa.setCell (F:=λk=>k=p) _ (p:=(aD p 3)) rfl _) (λj c=> .inl (c▸h.fp))
def yX {wr wx:World} {S:DS} {m:Nat} {D:DataW Value} {l:List P3} (aU:S.puts.length+1<=5000000000000) (hd:aO wr F p s {S with im:=im} gi ci m D gr cr)
    (a:bW wr wx) (ez:k<s) (PJ:vm {S with im:=im} k (mA l j)=fo S l k) (A B C:Int) (o:mA l j=(A,B,C)) (f:A<=9223372036854775807) (g:B<=9223372036854775807) (n:C<=9223372036854775807):
  Calls prog 70 #[pQ p,iV (k:Int), .agg #[iV A,iV B,iV C]] wx λe w'=>e= .returned (.tuple #[])/\aO w' F p s {S with im:=splice im (k*512) (fo S l k)} gi ci m D gr cr/\aa F wr w':=by
 refine(Vm (hd.agree a.size (λi b=>a.block i (hd.lt i b))) k ez aU A B C (max A 0).toNat (max B 0).toNat (max C 0).toNat (by omega) (by omega) (by omega) f g n).mono ?_;rintro e w' ⟨rfl,c,d⟩;refine⟨rfl,?_,(aa.ah F a).trans d (λi b=> .inl b)⟩;rw [<-PJ,o];exact c
set_option maxRecDepth 100000 in
def Qx (ww:yS) (wF:DP) {S:DS} (hd:aQ w F p s S) (aU:S.puts.length+1<=5000000000000) (a:Option Addr) (n c:Nat) (l:List P3) (DT:ll w a n l) (hn:n<=140737488355328) (X:∀x,a=some x->¬F x.block):
  Calls prog 28 #[pQ p, .slice a n c] w λe w'=>e= .returned (.tuple #[])/\aQ w' F p s (S.iA s l)/\aa F w w':=by
 obtain⟨U,P,m,D,W,R,h⟩:=hd;have Zg:=Vn ww wF h aU;have ox:(aI S s).length<=2048:=by
  have:=List.length_filter_le (λk=> !(au S.puts k).isEmpty) (List.range s);rw [List.length_range] at this;exact k9 this h.ok.hi
 have H:=h;have y:=DT;clear h DT;go_in;go_wp2_with (go_at_call 69;refine Zg.mono ?_;rintro e w1 ⟨L,Q,rfl,be,ar⟩);have vo:=be;have iP:=H.agree ar.size (λj I=>ar.block j (H.lt j I));have fh:=aa.ah F ar;clear Zg be;go_loopw [4,5,6,10] (λ_ _ _ i wr=>∃j:Nat,j<=(aI S s).length/\i=iV (j:Int)/\∃im,aO wr F p s {S with im:=im} U P m D W R/\(∀i,i<s->bS im i=if i∈(aI S s).take j then fo S l i else bS S.im i)/\aa F w wr/\
     (aI S s≠ []->∃g,L=some (aD g 0)/\ay wr 3 g Q (wu (aI S s))/\w.heap.size<=g)) (λ_ _ _ i _=>(aI S s).length-(intOf i).toNat)
 case atStart=>exact⟨0,dL _,rfl,S.im,iP,λi _=>by simp,fh,λh=>by obtain⟨g,e,A,v⟩:=vo h;exact⟨g,e,v,A⟩⟩
 case round=>
  clear iP fh vo;obtain⟨j,I,rfl,im,hd,DU,u,be⟩:=hrel;have d:=hd;have Jd:=DU;clear hd DU;by_cases bq:j<(aI S s).length
  .have cC:(j:Int)<((aI S s).length:Int):=(by omega);obtain⟨g,rfl,v,A⟩:=be (by intro e;rw [e] at bq;simp at bq);obtain⟨k0,xY⟩:∃k,(aI S s)[j]? =some k:=⟨_,qQ bq⟩;have JK:wr.cell? (aD g j)=some (iV (k0:Int)):=v.cell (by simp [wu,xY]);obtain⟨ez,hp,PJ,Qy⟩:=yW H.ok l d.ok.len xY Jd;have z:=v;have acG:=Qy;clear v Qy;by_cases ln:n=0
   .subst ln;have t:mA l j=(0,0,0):=(by simp [mA,y.1]);have Je:=λo=>yX aU d ((bi wr.heap.size wr).alloc (bR _) o) ez PJ 0 0 0 t (by omega) (by omega) (by omega);go_wp2_with (go_at_call 70;refine(Je _).mono ?_;rintro e w5 ⟨rfl,jJ,dX⟩);have Fx:=z.agree (dX.block g z.lt (λC=>by have:=H.lt g C;omega));have f:=jJ;have jE:=u.trans dX (λi E=> .inl E);clear jJ dX Je JK;go_roundw;case rel=>exact⟨j+1,by omega,by go_num,_,f,acG,jE,λ_=>⟨g,rfl,Fx,A⟩⟩
    case measure=>simp [intOf];omega
   .obtain⟨x,rfl⟩:∃x,a=some x:=by
     cases a with
     |none=>exact absurd (y.2.1 rfl) ln
     |some x=>exact⟨x,rfl⟩
    have j8:=y.1;have Zh:0<l.length:=(by omega);obtain⟨q,t⟩:=bP (j%n);have Z:q<n:=(by rw [t];exact Nat.mod_lt _ (by omega));have Bt:q<l.length:=(by omega);have r:=y.keeps u X;obtain⟨b,o,rfl,J,p1,p2⟩:=r.2.2.1 x rfl q Bt;have PK:mA l j=(l[q].1,l[q].2.1,l[q].2.2):=by
     have T:j%l.length=q:=(by rw [j8,t]);simp only [mA,Zh,dif_pos,T]
    obtain⟨M,N,O⟩:=r.2.2.2 l[q] (List.getElem_mem Bt);have Je:=λwx hx=>yX (wx:=wx) aU d hx ez PJ _ _ _ PK M N O;have Qz:(j:Int)%(n:Int)=(q:Int):=(by rw [t];push_cast;rfl);have iO:(q:Int)<(n:Int):=(by omega);have Y:=World.block_lt_of_cell? _ _ J;have XK:=Je;clear Je PK r t PJ;generalize l[q].1=qa at*;generalize l[q].2.1=qb at*;generalize l[q].2.2=qc at*;go_wp2_with fail;refine(XK _ ((bi wr.heap.size wr).alloc (bR _) _)).mono ?_;rintro e w5 ⟨rfl,jJ,dX⟩;have Fx:=z.agree (dX.block g z.lt (λC=>by have:=H.lt g C;omega));have f:=jJ;have jE:=u.trans dX (λi E=> .inl E);clear jJ dX XK JK J p1 p2;go_wp2;go_roundw;case rel=>exact⟨j+1,by omega,by go_num,_,f,acG,jE,λ_=>⟨g,rfl,Fx,A⟩⟩
    case measure=>simp [intOf];omega
  .have cC:¬(j:Int)<((aI S s).length:Int):=(by omega);obtain⟨w3,Mi,CA,aZ,_⟩:=Cz d.map;have c1:=bG d.dI;have G:j=(aI S s).length:=(by omega);rw [G] at Jd;have bX:=vn H.ok l d.ok.len Jd;clear G;obtain⟨c2,f2,c3,f3,jJ,dX⟩:=Nk H d bX u CA aZ;have K:=(aH jJ dX);clear jJ dX bX CA aZ d Jd H u be;go_wp2
   go_end0
   exact⟨rfl,K⟩
def F0:(prog.info? 115).map (λi=>(i.zero,i.size,i.bytes))=some (some (.agg #[iV 0,iV 0,iV 0]),3,24):=by kernel_rfl
def p3 (l:List P3):List Value:=l.flatMap (λq=> [iV q.1,iV q.2.1,iV q.2.2])
def yY:∀l:List P3,(p3 l).length=l.length*3
 | []=>rfl
 |q :: l=>by have:=yY l;simp only [p3,List.flatMap_cons,ee,List.length_cons,List.length_nil] at this⊢;omega
def Zi (l:List P3):∀v∈p3 l,v.oneCell'=true:=by
 intro v a;simp only [p3,List.mem_flatMap] at a;obtain⟨q,_,h⟩:=a;simp at h;rcases h with rfl|rfl|rfl <;> rfl
def QA:∀(l:List P3) (i:Nat) (a:i<l.length),(p3 l)[i*3]? =some (iV l[i].1)/\(p3 l)[i*3+1]? =some (iV l[i].2.1)/\(p3 l)[i*3+2]? =some (iV l[i].2.2)
 |q :: l,0,_=>by simp [p3]
 |q :: l,i+1,a=>by
  have:=QA l i (by simpa using a);have e:p3 (q :: l)= [iV q.1,iV q.2.1,iV q.2.2] ++ p3 l:=rfl;rw [e,wm (by simp;omega),wm (by simp;omega),wm (by simp;omega)];simp only [List.length_cons,List.length_nil,List.getElem_cons_succ];rw [show (i+1)*3-(0+1+1+1)=i*3 by omega,show (i+1)*3+1-(0+1+1+1)=i*3+1 by omega,show (i+1)*3+2-(0+1+1+1)=i*3+2 by omega];exact this
def Zj {b o:Nat} {l:List P3} (h:ll w (some (aD b o)) n l) (j:Nat) (v:Value) (a:(p3 l)[j]? =some v):w.cell? (((aD b o):Addr).add j)=some v:=by
 rw [aN];have p:=(mS.1 a).1;rw [yY] at p;obtain⟨i,t,q,rfl⟩:∃i t,t<3/\j=i*3+t:=⟨j / 3,j%3,by omega,by omega⟩;have c:i<l.length:=by omega
 obtain⟨g,k,m⟩:=QA l i c;obtain⟨s,u,r,d,e,f⟩:=h.2.2.1 _ rfl i c;cases r;rw [<-Nat.add_assoc]
 match t,q with
 |0,_=>rw [Nat.add_zero] at a⊢;rw [g] at a;rw [d];exact a
 |1,_=>rw [k] at a;rw [e];exact a
 |2,_=>rw [m] at a;rw [f];exact a
def acH {l:List P3} (c:l.length=n) (a:∀q∈l,q.1<=9223372036854775807/\q.2.1<=9223372036854775807/\q.2.2<=9223372036854775807) (h:w.heap[g]? =some (.cells (p3 l).toArray 115 (0,0))):ll w (some (aD g 0)) n l:=by
 refine⟨c,(λh=>by cases h),λx d i b=>?_,a⟩;cases d;obtain⟨e,f,j⟩:=QA l i b;refine⟨g,0,rfl,?_,?_,?_⟩<;> (simp only [World.cell?,h,Nat.zero_add];simpa using ‹_›)
def Nl (w:World) (s:TypeId) (g n:Nat) (a:Option Addr) (c d:Nat) (cur:Array Value) (l:List P3) (j:w.heap[g]? =some (.cells cur 115 (0,0))) (aog:cur.size=n*3) (f:ll w a n l):
  ∃w2,(Builtin.copy_ #[37,37] s #[.slice (some (aD g 0)) n d, .slice a n c]).run prog w= .ok (goInt n) w2/\
   w2.heap[g]? =some (.cells (p3 l).toArray 115 (0,0))/\aa (λk=>k=g) w w2/\w2.heap.size=w.heap.size:=by
 have m:=f.1;have Cp:Nat.min n n=n:=Nat.min_self n;obtain⟨t,p,_,q,_⟩:=info_parts F0;by_cases h0:n=0
 .subst h0;obtain rfl:l= []:=yH m;have i:cur= #[]:=Array.eq_empty_of_size_eq_zero (by omega);subst i;have XL:=λx=>by simpa using run_loadCells_list (P:=prog) w x [] (by simp)
  refine⟨w,?_,j,aa.refl _ _,rfl⟩;cases a <;> simp [Builtin.copy_,run_underlying underlying37,Builtin.lenOf,Builtin.firstCells,sizeOf,typeInfo,p,storeCells,XL]
 .obtain⟨x,rfl⟩:∃x,a=some x:=by
   cases a with
   |none=>exact absurd (f.2.1 rfl) h0
   |some x=>exact⟨x,rfl⟩
  obtain⟨b,o,rfl,_⟩:=f.2.2.1 x rfl 0 (by omega);have XL:=run_loadCells_list (P:=prog) w (aD b o) (p3 l) (Zj f);rw [yY,m] at XL;have bj:=run_storeCells_at prog g 0 115 (p3 l) 0 cur w j (by rw [yY];omega) (Zi l);have e:(List.take (0+0) cur.toList ++ p3 l ++ List.drop (0+0+(p3 l).length) cur.toList).toArray=(p3 l).toArray:=by
   rw [yY,List.drop_of_length_le (by simp;omega)];simp
  rw [e] at bj;refine⟨w.setRow g (p3 l).toArray,?_,?_,⟨rfl,rfl,rfl,by simp,λk _ r=>setRow_other w g k _ r⟩,by simp⟩
  .simp [Builtin.copy_,run_underlying underlying37,Builtin.lenOf,Builtin.firstCells,sizeOf,typeInfo,p,q,Cp,XL,bj]
  .exact setRow_heap w g _ _ 115 _ j
def ll.later {l:List P3} (h:ll w a n l) (b:bW w w'):ll w' a n l:=h.keeps (aa.ah (λ_=>False) b) (λ_ _ h=>h)
def Nm (a:Option Addr) (n c:Nat) (l:List P3) (w:World) (s:24*n<=140737488355328) (i:ll w a n l):
  Calls prog 29 #[.slice a n c] w λe w'=>∃g,e= .returned (.slice (some (aD g 0)) n n)/\w.heap.size<=g/\ll w' (some (aD g 0)) n l/\bW w w':=by
 obtain⟨q,p,gC,dE,em⟩:=info_parts F0;go_in;go_wp2_with (at_make;refine wpList_make_full _ rfl _ _ 37 rfl w.heap.size 115 q _ 3 underlying37 p gC dE _ _ _ _ n rfl rfl ?c1 ?c2 ?c3 ?c4 ?c5 ?_);case c1=>rfl
 case c2=>rfl
 case c3=>rw [em];omega
 case c4=>unfold maxLen;omega
 case c5=>exact bR _
 intro w1 aA aR;have b:=(bi _ w).grown aR (bR _) (by intro k d;cases d);have el:=i.later b;obtain⟨_,⟨f,_⟩|⟨r,j,cur,f,_,m,_,_,mv,_⟩⟩:=aA
 .cases f
 cases f;obtain⟨t,bI,o,d,_⟩:=Nl w1 3 w.heap.size n a c n cur l m mv el;go_wp2;go_ret;exact⟨w.heap.size,rfl,bR _,acH (n:=n) i.1 el.2.2.2 o,b.trans (d.below (λk h=>by omega) b.size)⟩
end Go.Proofs.YtcpdggdfihjhoaaGreat
