import Derived.Test.YtkiehemoiapkkaaGreatY01
import Derived.Test.YtkiehemoiapkkaaGreatY03
import Derived.Deep.RegionHeld3
import Derived.RangeFuncNested
import Derived.RangeFuncBound
import Derived.RangeFuncCalls
import Derived.RangeFuncLeaves
import Derived.Shelf.Abstract
import Derived.Shelf.RegionOpen
import Derived.OwnWalkIn
import Derived.TacticsInMore
import Derived.LoopNIn
import Derived.LoopIn
import Derived.Deep.AppendLies
import Derived.OrdersHeld
import Derived.Deep.RegionHeld
import Derived.Scope
import Derived.WalkMore
set_option maxRecDepth 20000
set_option maxHeartbeats 8000000
set_option linter.all false
namespace Go.Proofs.YtkiehemoiapkkaaGreat
open Go.Proofs.Tryz
open Go.RowKit Go.Maps
variable {cur cur':Array Value} {S:DS} {rs:List (List Int)} {body d l:List Int} {vs xs:List Value} {B' B0 E P c cap Qi f g g' hd i j k n n₀ p s:Nat} {R:Nat->PC} {F G X X':Nat->Prop} {q:PC} {e t':TypeId} {v vR vr:Value} {A C W W' W'' w w' w1 w2:World}
section
structure LG where
 f:Nat
 n:Nat
 life:Int
 begun:Bool
 ep:Nat
 tail:Nat
 head:Nat
 top:Nat
abbrev D1 (p:Nat) (L:LG):Array Value:= #[pQ p,iV (L.f:Int),iV (L.n:Int),iV L.life, .bool L.begun,iV (L.ep:Int),iV (L.tail:Int),iV (L.head:Int),iV (L.top:Int)]
def bO (w:World) (l p:Nat) (L:LG):Prop:=w.heap[l]? =some (.cells (D1 p L) 143 (0,0))
def bO.lt {w:World} {l p:Nat} {L:LG} (h:bO w l p L):l<w.heap.size:=af h
def bO.ak {w:World} {l p:Nat} {L:LG} (h:bO w l p L) (k:ad G w w') (a:¬G l):bO w' l p L:=(k.block l h.lt a).trans h
section
variable {w:World} {l p:Nat} {L:LG}
def bO.c0 (h:bO w l p L):w.cell? (aD l 0)=some (pQ p):=aL h
def bO.c1 (h:bO w l p L):w.cell? (aD l 1)=some (iV (L.f:Int)):=bY h
def bO.c2 (h:bO w l p L):w.cell? (aD l 2)=some (iV (L.n:Int)):=cJ h
def bO.c3 (h:bO w l p L):w.cell? (aD l 3)=some (iV L.life):=jw h
def bO.c4 (h:bO w l p L):w.cell? (aD l 4)=some (.bool L.begun):=jI h
def bO.c5 (h:bO w l p L):w.cell? (aD l 5)=some (iV (L.ep:Int)):=PB h
def bO.c6 (h:bO w l p L):w.cell? (aD l 6)=some (iV (L.tail:Int)):=PD h
def bO.c7 (h:bO w l p L):w.cell? (aD l 7)=some (iV (L.head:Int)):=IA h
def bO.c8 (h:bO w l p L):w.cell? (aD l 8)=some (iV (L.top:Int)):=SL h
def bO.fz (h:bO w l p L) (j:Nat):w.frozen? (aD l j)=false:=ae h j
end
structure LG.Ok (L:LG) (s:Nat):Prop where
 s:L.f+2+L.n<=s
 n1:18<=L.n
 n2:L.n<=256
 ep:L.ep<=1073741824
 top:L.top<1073741824
 th:L.tail<=L.head
 hn:L.head<=L.tail+L.n
 hi:L.head<=1073742080
 hb:L.begun=true->L.head<=1073741824
def LG.dead (L:LG) (S:DS):Bool:=S.fuse == 0 || S.life != L.life
def LG.aX (L:LG) (S:DS):Int:=if L.dead S=true then 3 else if L.begun=true then 0 else 4
section
variable {w:World} {F:Nat->Prop} {p s l:Nat} {S:DS} {L:LG}
def bO.later {w:World} {l p:Nat} {L:LG} (h:bO w l p L) (a:bW w w'):bO w' l p L:=(a.block l h.lt).trans h
def qT (h:aj w F p s S) (b:bO w l p L):
  Calls prog 107 #[pQ l] w λe w'=>e= .returned (.bool (L.dead S))/\bW w w':=by
 have a:=λn=>zV (h.later (below_drewN (cW w.heap.size w) n));have c:=λn=>WL (h.later (below_drewN (cW w.heap.size w) n));have d:=b.c0;have f:=b.c3;unfold LG.dead;go_in;by_cases q:S.fuse=0
 .rw [show (S.fuse == 0)=true by simp [q]] at a⊢;go_wp2_with fail;go_quiet ((go_at_call 44;exact Calls.quiet_of_same (a _)));go_wp2;go_ret;exact⟨rfl,below_drewN (cW _ _) _⟩
 .rw [show (S.fuse == 0)=false by simp [q]] at a⊢;go_wp2_with fail;go_quiet (first|(go_at_call 44;exact Calls.quiet_of_same (a _))|(go_at_call 142;exact Calls.quiet_of_same (c _)));go_wp2;go_ret;exact⟨rfl,below_drewN (cW _ _) _⟩
def ib (h:aj w F p s S) (c:bO w l p L):
  Calls prog 125 #[pQ l] w λe w'=>e= .returned (iV (L.aX S))/\bW w w':=by
 have a:=qT h c;unfold LG.aX;go_in;cases hd:L.dead S
 .rw [hd] at a;cases d:L.begun
  .rw [aB (by decide),aB (by decide)];go_wp2_with fail;refine ef a λw' nh=>?_;have b:=(c.later nh).c4;rw [d] at b;go_wp2;go_ret;exact⟨rfl,nh⟩
  .rw [aB (by decide),aN rfl];go_wp2_with fail;refine ef a λw' nh=>?_;have b:=(c.later nh).c4;rw [d] at b;go_wp2;go_ret;exact⟨rfl,nh⟩
 .rw [hd] at a;rw [aN rfl];go_wp2_with fail;refine ef a λw' nh=>?_;go_wp2;go_ret;exact⟨rfl,nh⟩
def u6 (b:bO w l p L) (a:L.Ok s):
  Calls prog 173 #[pQ l] w λe w'=>e= .returned (iV ((L.n:Int)-((L.head:Int)-(L.tail:Int))))/\bW w w':=by
 obtain⟨g,i,j,c,d,f⟩:=rY b.c2 b.c6 b.c7 a.n2 a.th a.hn;go_in;go_wp2_with fail;go_quiet (fail);go_wp2;go_ret;exact⟨rfl,below_drewN (cW _ _) _⟩
def gF (x:Nat) (w:World) (a:x<=140737488355328):Calls prog 176 #[iV (x:Int)] w λe w'=>e= .returned (iV (((x+491) / 492:Nat):Int))/\w'=w:=by
 have h:((x:Int)+492-1) / 492=(((x+491) / 492:Nat):Int):=by omega
 go_in;go_wp2;go_ret;rw [h];exact⟨rfl,rfl⟩
def LG.room (L:LG) (S:DS):Int×Int:=if L.aX S≠0 then (0,L.aX S) else ((L.n:Int)-((L.head:Int)-(L.tail:Int)),0)
def BY (h:aj w F p s S) (f:bO w l p L) (g:L.Ok s):
  Calls prog 143 #[pQ l] w λe w'=>e= .returned (.tuple #[iV (L.room S).1,iV (L.room S).2])/\bW w w':=by
 have c:=ib h f;unfold LG.room;generalize L.aX S=U at*;go_in;by_cases q:U=0
 .subst q;rw [aB (by decide)];go_wp2_with fail;refine ef c λw1 a=>?_;have b:=a;go_wp2_with fail;refine(u6 (f.later a) g).mono ?_;rintro e i ⟨rfl,a⟩;go_wp2;go_ret2;exact⟨rfl,b.trans (a.mono b.size)⟩
 .rw [aN q];have d:(U == 0)=false:=by rw [oE];exact q
  go_wp2_with fail;refine ef c λw1 a=>?_;go_wp2;go_ret2;exact⟨rfl,a⟩
def LG.sync (L:LG) (S:DS) (s:Nat):Int×DS:=if L.aX S≠0 then (L.aX S,S) else S.fl s
end
end
def bK (S:DS) (g:Nat->DS->Int×DS):Nat->Int×DS
 |0=>(0,S)
 |k+1=>if (bK S g k).1≠0 then bK S g k else g k (bK S g k).2
def ic {S:DS} {g:Nat->DS->Int×DS} {k:Nat} (h:(bK S g k).1≠0):∀m,k<=m->bK S g m=bK S g k
 |0,hm=>by rw [show k=0 by omega]
 |m+1,hm=>by
  by_cases e:k=m+1
  .rw [e]
  .have:=ic h m (by omega);show (if (bK S g m).1≠0 then bK S g m else g m (bK S g m).2)=_;rw [this,aN h]
def kF {g:Nat->DS->Int×DS} (h:(bK S g k).1=0):bK S g (k+1)=g k (bK S g k).2:=by
 rw [bK,aB (by omega)]
def mL {S:DS} {g:Nat->DS->Int×DS} (a:∀k T,(g k T).2.puts.length<=T.puts.length+1):∀k,(bK S g k).2.puts.length<=S.puts.length+k
 |0=>di _
 |k+1=>by
  have:=mL a k (S:=S);have:=a k (bK S g k).2;unfold bK;split <;> omega
def bE (S:DS) (s f k:Nat):Int×DS:=bK S (λj T=>T.wr s ((f+j:Nat):Int) 512 (zs 512)) k
def dq (S:DS) (s f n:Nat):Int×DS:=if (bE S s f (n+2)).1≠0 then bE S s f (n+2) else (bE S s f (n+2)).2.fl s
def ti (S:DS) (s f k:Nat):(bE S s f k).2.puts.length<=S.puts.length+k:=mL (λ_ _=>jL _ _ _ _ _) k
def xO (b:w.heap.size<=w1.heap.size) (c:w1.heap.size<=w2.heap.size):∀k,more (more F w w1) w1 w2 k->more F w w2 k:=λk a=>by
 rcases a with (a|a)|a
 .exact .inl a
 .exact .inr ⟨a.1,by omega⟩
 .exact .inr ⟨by omega,a.2⟩
def cQ (b:∀k,F k->k<w.heap.size) (c:w.heap.size<=w2.heap.size):∀k,more F w w2 k->k<w2.heap.size:=λk a=>by
 rcases a with a|a
 .have:=b k a;omega
 .exact a.2
def DS.fL (S:DS):Prop:=Bytes S.im/\∀q∈S.puts,Bytes q.2
def EJ {a:List Int} (h:Bytes a) (k:Nat):Bytes (gW a k):=(h.drop _).take _
def EK (h:S.fL) (k j:Nat):Bytes ((au S.puts k).getD j []):=by
 rcases Nat.lt_or_ge j (au S.puts k).length with a|a
 .rw [List.getD,KR a,Option.getD_some];have b:=List.getElem_mem a;unfold au at b;obtain⟨q,c,e⟩:=List.mem_map.1 b;have:=h.2 q (List.mem_filter.1 c).1;unfold au;rw [<-e];exact this
 .rw [List.getD,List.getElem?_eq_none a];exact Bytes.nil
def EL (h:S.fL) (k j:Nat):Bytes (S.pM k j):=by
 unfold DS.pM;split
 .exact EJ h.1 k
 .exact EK h k _
def DS.fL.now (h:S.fL) (k:Nat):Bytes (S.now k):=EL h k _
def EM {f:Nat->List Int} (h:∀k,Bytes (f k)):Bytes (zq s f):=by
 intro x b;obtain⟨k,_,a⟩:=List.mem_flatMap.1 b;exact h k x a
def DS.fL.wr (h:S.fL) (s:Nat) (x:Int) (n:Nat) (b:Bytes l):(S.wr s x n l).2.fL:=by
 unfold DS.wr;split
 .exact h
 .split
  .exact h
  .split
   .exact h
   .refine⟨h.1,λq a=>?_⟩;rcases List.mem_append.1 a with a|a
    .exact h.2 q a
    .rw [List.mem_singleton.1 a];exact b
def DS.fL.fl (h:S.fL) (s:Nat):(S.fl s).2.fL:=by
 unfold DS.fl;split
 .exact h
 .exact⟨EM h.now,λq a=>by cases a⟩
def DS.fL.take (h:S.fL):S.take.fL:=h
def nY {S:DS} {g:Nat->DS->Int×DS} (h:S.fL) (a:∀k T,T.fL->(g k T).2.fL):∀k,(bK S g k).2.fL
 |0=>h
 |k+1=>by
  have:=nY h a k;unfold bK;split
  .exact this
  .exact a k _ this
def BZ (n:Nat):Bytes (zs n):=by unfold zs;exact Bytes.sY n
def DS.fL.Qg (h:S.fL) (s f n:Nat):(dq S s f n).2.fL:=by
 have a:∀k,(bE S s f k).2.fL:=nY h (λk T b=>b.wr s _ _ (BZ _));unfold dq;split
 .exact a _
 .exact(a _).fl s
def zW {r:List Int} (num:Int) {c:List Int} (hd:Bytes c):Bytes (aW l r num c).2.1:=by
 have d:∀(a b:Int),c.length<=496->Bytes (bc (cG a b) (bj num.toNat ++ c)):=λa b h=>sZ ((mw _).append hd) (by rw [gT,dN];omega) ⟨by omega,by have:=fj a b;omega⟩;unfold aW;split
 .exact Bytes.nil
 .split
  .exact Bytes.nil
  .split
   .exact Bytes.nil
   .dsimp only
    split
    .exact Bytes.nil
    .split
     .exact d _ _ (by omega)
     .exact d _ _ (by omega)
def DS.fL.cw (h:S.fL) (s f:Nat) (num:Int):(cw S s f num).2.fL:=by
 have a:=h.wr s ((f:Int)+((aW (S.now f) (S.now (f+1)) num []).1:Int)) 512 (zW (l:=S.now f) (r:=S.now (f+1)) num Bytes.nil);unfold Go.Proofs.YtkiehemoiapkkaaGreat.cw;split
 .exact h
 .split
  .exact h
  .split
   .exact a
   .exact a.fl s
def B3 {old:List Int} (a:Bytes body):Bytes (ky old body).1:=by
 unfold ky;split
 .exact Bytes.nil
 .split
  .exact Bytes.nil
  .exact sZ a (by omega) ⟨by omega,by have:=fj (old.getD 0 0) (old.getD 511 0);omega⟩
def pZ (S:DS) (s f n:Nat):(dq S s f n).2.puts.length<=S.puts.length+n+3:=by
 have a:=ti S s f (n+2);have b:=Iy (bE S s f (n+2)).2 s;unfold dq;split <;> omega
def cT (S:DS) (s:Nat) (f n:Int):Int×DS:=
 if cP S s f n≠0 then (cP S s f n,S) else
 if (dq S.take s f.toNat n.toNat).1≠0 then dq S.take s f.toNat n.toNat else cw (dq S.take s f.toNat n.toNat).2 s f.toNat 4294967296
def it {f n:Int} (h:cP S s f n=0):S.fuse≠0/\∃a b:Nat,f=(a:Int)/\n=(b:Int)/\a+2+b<=s/\18<=b/\b<=256:=by
 unfold cP at h;split at h
 .omega
 .rename_i c;split at h
  .omega
  .split at h
   .omega
   .split at h
    .omega
    .exact⟨c,f.toNat,n.toNat,by omega,by omega,by omega,by omega,by omega⟩
def dg {b:Nat} {o:Obj} (h:w.heap[b]? =some o) (a:ad G w w1) (c:¬G b):w1.heap[b]? =some o:=(a.block b (af h) c).trans h
section
def LG.start (L:LG) (S:DS) (s:Nat):Int×DS×LG:=
 if L.dead S=true then (3,S,L) else if L.begun=true then (5,S,L) else
 if (cw S s L.f (((L.top+1:Nat):Int)*4294967296+((0:Nat):Int))).1≠0 then ((cw S s L.f (((L.top+1:Nat):Int)*4294967296+((0:Nat):Int))).1,(cw S s L.f (((L.top+1:Nat):Int)*4294967296+((0:Nat):Int))).2,L)
 else (0,(cw S s L.f (((L.top+1:Nat):Int)*4294967296+((0:Nat):Int))).2,{L with begun:=true,ep:=L.top+1,tail:=0,head:=0})
def LG.trim (L:LG) (S:DS) (s:Nat):Int×DS×LG:=
 if (L.sync S s).1≠0 then ((L.sync S s).1,(L.sync S s).2,L) else if L.tail=L.head then (0,(L.sync S s).2,L) else
 if (cw (L.sync S s).2 s L.f ((L.ep:Int)*4294967296+(L.head:Int))).1≠0 then ((cw (L.sync S s).2 s L.f ((L.ep:Int)*4294967296+(L.head:Int))).1,(cw (L.sync S s).2 s L.f ((L.ep:Int)*4294967296+(L.head:Int))).2,L)
 else (0,(cw (L.sync S s).2 s L.f ((L.ep:Int)*4294967296+(L.head:Int))).2,{L with tail:=L.head})
def bO.started {w:World} {l p:Nat} {L:LG} (h:bO w l p L) (E:Int) (n:Nat) (e:E=(n:Int)):
  bO ((((w.setCell ⟨l,4,none⟩ (.bool true)).setCell ⟨l,5,none⟩ (.int .i64 E)).setCell ⟨l,6,none⟩ (.int .i64 0)).setCell ⟨l,7,none⟩ (.int .i64 0)) l p {L with begun:=true,ep:=n,tail:=0,head:=0}:=by
 subst e;have a:=heap_setCell_same _ _ 4 _ _ (.bool true) h;have b:=heap_setCell_same _ _ 5 _ _ (iV (n:Int)) a;have c:=heap_setCell_same _ _ 6 _ _ (iV 0) b;have d:=heap_setCell_same _ _ 7 _ _ (iV 0) c;exact d.trans (by simp [D1])
def bO.trimmed {w:World} {l p:Nat} {L:LG} (h:bO w l p L):bO (w.setCell ⟨l,6,none⟩ (.int .i64 (L.head:Int))) l p {L with tail:=L.head}:=
   (heap_setCell_same _ _ 6 _ _ (iV (L.head:Int)) h).trans (by simp [D1])
def aF {F:Nat->Prop} (w:World) {l:Nat} (a:F l) (j:Nat) (v:Value):ad F w (w.setCell ⟨l,j,none⟩ v):=ad.setCell (F:=F) w (p:=(aD l j)) a v
section
variable {w:World} {F:Nat->Prop} {p s l:Nat} {S:DS} {L:LG}
end
end
section
def oK (L:LG) (S:DS) (s:Nat):(L.sync S s).2.puts.length<=S.puts.length+1:=by
 unfold LG.sync;split
 .simp
 .exact Iy S s
def qU {S:DS} (h:S.fL) (L:LG) (s:Nat):(L.sync S s).2.fL:=by
 unfold LG.sync;split
 .exact h
 .exact h.fl s
def EN {L:LG} {S:DS} {s:Nat} (h:(L.sync S s).1=0):L.begun=true:=by
 unfold LG.sync at h;split at h
 .rename_i a;exact absurd h a
 .rename_i a;unfold LG.aX at a;split at a
  .omega
  .split at a
   .assumption
   .omega
section
variable {w:World} {F:Nat->Prop} {p s l:Nat} {S:DS} {L:LG}
end
end
abbrev jA (e q i c:Int) (a:Option Addr) (n k:Nat):Value:= .agg #[iV e,iV q,iV i,iV c, .slice a n k]
abbrev dJ (e q i c:Int) (a:Option Addr) (n k:Nat):Array Value:= #[iV e,iV q,iV i,iV c, .slice a n k]
def nZ (E P i c:Nat) (part:List Int):List Int:=br 4 E ++ (br 4 P ++ (br 2 i ++ (br 2 c ++ part)))
def zX (A X:List Int) (m:Nat) (h:X.length<=m):put (A ++ zs m) A.length X=(A ++ X) ++ zs (m-X.length):=by
 unfold put;have e:zs m=zs X.length ++ zs (m-X.length):=by rw [<-zF];congr 1;omega
 have a:A.length+X.length=(A ++ zs X.length).length:=by rw [gT,bN]
 rw [List.take_left,a,e,<-GC A (zs X.length),List.drop_left,GC]
def xP (E P i c:Nat) (l:List Int):(nZ E P i c l).length=12+l.length:=by
 simp only [nZ,gT,aP];omega
def tj (h:Bytes l):Bytes (nZ E P i c l):=(fW _ _).append ((fW _ _).append ((fW _ _).append ((fW _ _).append h)))
def Ml (E P i c:Nat) (l:List Int):nZ E P i c l=(((br 4 E ++ br 4 P) ++ br 2 i) ++ br 2 c) ++ l:=by
 simp only [nZ,GC]
def Mm (E P i c:Nat) (a:Option Addr) (n k:Nat) (l:List Int) (w:World) (G:Src w a n l) (hn:n<=492) (ly:a=none->k=0):
  Calls prog 193 #[jA E P i c a n k] w λe w'=>∃v,e= .returned v/\Own w' w.heap.size v (nZ E P i c l)/\bW w w':=by
 obtain⟨S,hi,iX,eR,eE⟩:=info_parts gU;have H:=yh G;have Q:=G.1;obtain⟨m,R⟩:∃m:Nat,m=12+n:=⟨_,rfl⟩;have Z:(4:Int)<=(m:Int):=by omega
 have b8:(8:Int)<=(m:Int):=by omega
 have W:(10:Int)<=(m:Int):=by omega
 have EO:(12:Int)<=(m:Int):=by omega
 have n4:¬m=4:=by omega
 have n8:¬m=8:=by omega
 have Y:¬m=10:=by omega
 have z:=yh R;rw [Ml];obtain⟨A,F⟩:=cF ((((br 4 E ++ br 4 P) ++ br 2 i) ++ br 2 c));rw [<-F];have T:=yh F;clear G F R;go_in;go_wp2_with (at_make;refine fY _ rfl _ _ rfl _ 12 m rfl rfl ?c1 ?c2 ?c3 ?_);case c1=>have:=z.o;omega
 case c2=>omega
 case c3=>have:=z.o;omega
 intro w1 aA aq;have cO:w1.heap[w.heap.size]? =some (.cells (dJ E P i c a n k) 207 (0,0)):=(aq.block _ (by simp)).trans (heap_alloc_new _ _);have ew:=yh ((yh (an w (.cells (dJ E P i c a n k) 207))).out.trans (aq.mono (by simp)));clear aq;obtain⟨WM,qV⟩:=eA cO (z.o▸aA:gA w1 5 (w.heap.size+1) (zs (12+n)));clear aA;have X:=aL WM.o;have L:put (zs (12+n)) 0 (br 4 E)=br 4 E ++ zs (8+n):=by
  have:=zX ([]:List Int) (br 4 E) (12+n) (by rw [aP];omega);simp only [aP,List.nil_append,List.length_nil] at this;rw [show 12+n-4=8+n by omega] at this;exact this
 have dD:=λ(t:Nat) (g:World) (b:gA g 5 (w.heap.size+1) (zs (12+n)))=>qR (w.heap.size+1) 0 4 t E 5 (zs (12+n)) g b (by omega) (by simp only [bN];omega);rw [L] at dD;have O7:=yh dD;clear L dD;go_wp2_with fail
 go_region_with ((go_at_call 207;refine(O7.o _ w1.drew qV.o).mono ?_;rintro e I ⟨rfl,f,d,p⟩;have b:=dg (w:=w1.drew) (w1:=I) WM.o d (by omega)))
 obtain⟨KY,k8⟩:=eA b f;have r:=yh ((ah ew.o).trans (d.below (B:=w.heap.size) (λj C=>by omega) (ah ew.o).size));clear X O7 b f d p;have c1:=bY KY.o;have M:put (br 4 E ++ zs (8+n)) 4 (br 4 P)=(br 4 E ++ br 4 P) ++ zs (4+n):=by
  have:=zX (br 4 E) (br 4 P) (8+n) (by rw [aP];omega);simp only [aP] at this;rw [show 8+n-4=4+n by omega] at this;exact this
 have ir:=λ(t:Nat) (g:World) (b:gA g 5 (w.heap.size+1) (br 4 E ++ zs (8+n)))=>qR (w.heap.size+1) 4 4 t P 5 (br 4 E ++ zs (8+n)) g b (by omega) (by simp only [gT,aP,bN];omega);rw [M] at ir;have RT:=yh ir;clear M ir;go_wp2_with fail
 go_region_with ((go_at_call 207;refine(RT.o _ I.drew k8.o).mono ?_;rintro e J ⟨rfl,f,d,p⟩;have b:=dg (w:=I.drew) (w1:=J) KY.o d (by omega)))
 obtain⟨Vo,nV⟩:=eA b f;have nB:=yh ((ah r.o).trans (d.below (B:=w.heap.size) (λj C=>by omega) (ah r.o).size));clear c1 RT b f d p;have c2:=cJ Vo.o;have N:put ((br 4 E ++ br 4 P) ++ zs (4+n)) 8 (br 2 i)=((br 4 E ++ br 4 P) ++ br 2 i) ++ zs (2+n):=by
  have:=zX (br 4 E ++ br 4 P) (br 2 i) (4+n) (by rw [aP];omega);simp only [gT,aP,Nat.reduceAdd] at this;rw [show 4+n-2=2+n by omega] at this;exact this
 have kX:=λ(t:Nat) (g:World) (b:gA g 5 (w.heap.size+1) ((br 4 E ++ br 4 P) ++ zs (4+n)))=>qR (w.heap.size+1) 8 2 t i 5 ((br 4 E ++ br 4 P) ++ zs (4+n)) g b (by omega) (by simp only [gT,aP,bN];omega);rw [N] at kX;have ZW:=yh kX;clear N kX;go_wp2_with fail
 go_region_with ((go_at_call 207;refine(ZW.o _ J.drew nV.o).mono ?_;rintro e K ⟨rfl,f,d,p⟩;have b:=dg (w:=J.drew) (w1:=K) Vo.o d (by omega)))
 obtain⟨s,KX⟩:=eA b f;have mB:=yh ((ah nB.o).trans (d.below (B:=w.heap.size) (λj C=>by omega) (ah nB.o).size));clear c2 ZW b f d p;have c3:=jw s.o;have O:put (((br 4 E ++ br 4 P) ++ br 2 i) ++ zs (2+n)) 10 (br 2 c)=(((br 4 E ++ br 4 P) ++ br 2 i) ++ br 2 c) ++ zs (0+n):=by
  have:=zX ((br 4 E ++ br 4 P) ++ br 2 i) (br 2 c) (2+n) (by rw [aP];omega);simp only [gT,aP,Nat.reduceAdd] at this;rw [show 2+n-2=0+n by omega] at this;exact this
 have p7:=λ(t:Nat) (g:World) (b:gA g 5 (w.heap.size+1) (((br 4 E ++ br 4 P) ++ br 2 i) ++ zs (2+n)))=>qR (w.heap.size+1) 10 2 t c 5 (((br 4 E ++ br 4 P) ++ br 2 i) ++ zs (2+n)) g b (by omega) (by simp only [gT,aP,bN];omega);rw [O] at p7;have y:=yh p7;clear O p7;go_wp2_with fail
 go_region_with ((go_at_call 207;refine(y.o _ K.drew KX.o).mono ?_;rintro e D ⟨rfl,f,d,p⟩;have b:=dg (w:=K.drew) (w1:=D) s.o d (by omega)))
 obtain⟨O4,G0⟩:=eA b f;have pt:=yh ((ah mB.o).trans (d.below (B:=w.heap.size) (λj C=>by omega) (ah mB.o).size));clear c3 y b f d p;have c4:=jI O4.o;have bB:Own D w.heap.size (.slice (some ⟨w.heap.size+1,0,none⟩) (((br 4 E ++ br 4 P) ++ br 2 i) ++ br 2 c).length m) (((br 4 E ++ br 4 P) ++ br 2 i) ++ br 2 c):=GS G0.o (by omega) (by simp only [gT,aP,bN];have:=z.o;omega) (by unfold maxLen;have:=z.o;omega);have qI:(((br 4 E ++ br 4 P) ++ br 2 i) ++ br 2 c).length=12:=by simp only [gT,aP]
 rw [qI] at bB;have aU:D.ownsRow w.heap.size 5 1 (.slice (some ⟨w.heap.size+1,0,none⟩) 12 m) 12 (bs (((br 4 E ++ br 4 P) ++ br 2 i) ++ br 2 c)):=by
  have:=bB;unfold Own at this;rwa [qI] at this
 have tT:=yh aU;have nC:=yh bB;have p:=pt.o.size;rw [<-T.o] at qI tT nC;clear bB aU WM KY Vo s qV k8 nV KX G0 ew r nB mB;cases a with
 |none=>
  have Me:=H.o.2.1 rfl;subst Me;have oY:=Ef Q;subst oY;have KU:=ly rfl;subst KU;go_wp2_with (at_builtin;refine wpList_append_own_none rfl _ _ 44 rfl w.heap.size 5 S 1 underlying44 hi _ 12 (bs A) rfl tT.o rfl ?_);go_ret;exact⟨_,rfl,by first|exact nC.o|(rw [List.append_nil];exact nC.o),pt.o⟩
 |some x=>
  have EH:=yh (λj u (C:(bs l)[j]? =some u)=>show D.cell? (x.add j)=some u by
   obtain⟨ZM,rfl⟩:=eG C;exact cell_later pt.o (H.o.2.2 _ rfl j (by omega)))
  have zM:(bs l).length=n:=by rw [bs,ju,Q]
  go_wp2_with (at_builtin;refine wpList_append_own _ rfl _ _ 44 rfl w.heap.size 5 S (.int .u8 0) 1 1 underlying44 hi iX eR eE rfl (by decide) _ 12 (bs A) rfl tT.o x n k (bs l) rfl ?n0 EH.out ?n2 ?n3 ?n4 ?n5 ?_);case n0=>omega
  case n2=>exact bD _
  case n3=>unfold maxLen;omega
  case n4=>omega
  case n5=>exact p
  intro v' w6 cK jy _;rw [<-iM] at cK;obtain⟨U,Qd⟩:=eA (zC (m:=A ++ l) cK (by rw [gT,qI];omega) rfl) (pt.o.grown jy p (λq e=>(tT.o.lt q e).1));clear cK jy;go_wp2;go_ret;exact⟨_,rfl,U.o,Qd.o⟩
section
def bh (w:World) (F:Nat->Prop) (p s:Nat) (S:DS) (m:Nat):Prop:=∃r,fg w F p s (S.pY r) m
section
variable {w w':World} {F G:Nat->Prop} {p s m:Nat} {S:DS}
def bh.r (h:bh w F p s S m):aj w F p s S:=by obtain⟨r,h⟩:=h;exact⟨r,h.at⟩
def n9 {S:DS} {s:Nat} (a:S.fuse≠0) (b:k<s) (l:List Int):S.wr s (k:Int) 512 l=(0,(S.put k l).wrote.iG):=by
 unfold DS.wr;rw [aB a,aB (by omega),aB (by omega),t7]
end
def jN (S:DS) (s f n E P i c:Nat) (part:List Int):Int×DS:=
 if S.fuse=0 then (3,S) else S.wr s ((f+2+P%n:Nat):Int) 512 (ky (S.now (f+2+P%n)) (nZ E P i c part)).1
def u7 {old:List Int} (b:old.length=512) (a:body.length<=504):(ky old body).2=0/\(ky old body).1.length=512:=by
 unfold ky;rw [aB (by omega),aB (by omega)];exact⟨rfl,eS a⟩
def Src.oa {w w':World} {a:Option Addr} {F:Nat->Prop} (h:Src w a n l) (f:ad F w w') (d:∀y,a=some y->0<n->¬F y.block):Src w' a n l:=
   ⟨h.1,h.2.1,λx c i hi=>by
  have h0:=h.2.2 x c i hi;have e:(x.add i).block=x.block:=by unfold Addr.add;split <;> rfl
  rw [World.cell?_of_block (w:=w) (f.block _ (World.block_lt_of_cell? _ _ h0) (λb=>by rw [e] at b;exact d x c (by omega) b))];exact h0⟩
def fk (w:World) (a b:Obj):bW w ((w.alloc a).alloc b):=((cW _ _).alloc (di _) _).alloc (by simp) _
end
def u9 {b o:Nat} (h:Src w (some (aD b o)) n l) (x y:Nat) (Vl:x+y<=n):∀i,i<y->w.cell? ⟨b,o+x+i,none⟩=some (.int .u8 (((l.drop x).take y).getD i 0)):=by
 intro i hi;have:=h.2.2 _ rfl (x+i) (by omega);rw [aV] at this;rw [Nat.add_assoc,this];congr 2;simp [List.getD,hi,List.getElem?_drop]
def Jg {b o:Nat} (h:Src w (some (aD b o)) n l) (x y:Nat) (Vl:x+y<=n):Src w (some ⟨b,o+x,none⟩) y ((l.drop x).take y):=
   ⟨by have:=h.1;simp;omega,(λe=>by cases e),λz a i hi=>by cases a;rw [aV];exact u9 h x y Vl i hi⟩
def EP (w1:World) (b:Nat) (a c d e f:Value):ad (λk=>k=b) w1 (((((w1.setCell ⟨b,0,none⟩ a).setCell ⟨b,1,none⟩ c).setCell ⟨b,2,none⟩ d).setCell ⟨b,3,none⟩ e).setCell ⟨b,4,none⟩ f):=
   ((((aF (F:=λk=>k=b) w1 rfl 0 a).trans (aF (F:=λk=>k=b) _ rfl 1 c) (λ_ h=> .inl h)).trans (aF (F:=λk=>k=b) _ rfl 2 d) (λ_ h=> .inl h)).trans (aF (F:=λk=>k=b) _ rfl 3 e) (λ_ h=> .inl h)).trans (aF (F:=λk=>k=b) _ rfl 4 f) (λ_ h=> .inl h)
def EQ (w:World) (b:Nat):(World.drew w).heap[b]? =w.heap[b]? :=rfl
def xQ {b:Nat} {t:TypeId} {g a1 a2 i j:Value} (a c d e f:Value) (h:w.heap[b]? =some (.cells #[g,a1,a2,i,j] t (0,0))):
    (World.drew (((((w.setCell ⟨b,0,none⟩ a).setCell ⟨b,1,none⟩ c).setCell ⟨b,2,none⟩ d).setCell ⟨b,3,none⟩ e).setCell ⟨b,4,none⟩ f)).heap[b]? =some (.cells #[a,c,d,e,f] t (0,0)):=(EQ _ _).trans (IE a c d e f h)
def iP:(prog.info? 207).map (·.size)=some 5:=by kernel_rfl
def mM {B:Nat} (h:Below B w w1) {b:Nat} (a:B<=b) (c d e f g:Value):Below B w (((((w1.setCell ⟨b,0,none⟩ c).setCell ⟨b,1,none⟩ d).setCell ⟨b,2,none⟩ e).setCell ⟨b,3,none⟩ f).setCell ⟨b,4,none⟩ g):=
   ((((h.setCell (p:=⟨b,0,none⟩) a _).setCell (p:=⟨b,1,none⟩) a _).setCell (p:=⟨b,2,none⟩) a _).setCell (p:=⟨b,3,none⟩) a _).setCell (p:=⟨b,4,none⟩) a _
def ER (a:Option Addr) (n c:Nat) (l:List Int) (w:World) (i:Src w a n l) (g:Bytes l) (o:(bZ l).2≠0\/(bZ l).1.length<12):
  Calls prog 167 #[.slice a n c] w λe w'=>e= .returned (jA 0 0 0 0 none 0 0)/\bW w w':=by
 have d:=xL a n c l (w.alloc (.cells (dJ 0 0 0 0 none 0 0) 207)) (i.later (an _ _)) g;generalize bZ l=Y at*;go_in;go_wp2_with fail;refine d.mono ?_;rintro e w1 ⟨v,rfl,⟨a1,m,rfl,gV,_,_⟩,aq⟩;have b:=(aq.block _ (by simp)).trans (heap_alloc_new _ _);have ew:=((an w (.cells (dJ 0 0 0 0 none 0 0) 207)).trans (aq.mono (by simp)));have f:=λj=>ae b j;obtain⟨p,r,s,t,u⟩:=gB (aL b) (bY b) (cJ b) (jw b) (jI b);by_cases q:Y.2=0
 .have k:(Y.1.length:Int)<12:=by omega
  rw [q] at d;go_wp2;exact bodyPost_ret (results_cell_row (P:=prog) rfl _ _ w.heap.size 207 _ (0,0) _ rfl (IE _ _ _ _ _ b) underlying207 rfl iP) rfl ⟨rfl,mM ew (di _) _ _ _ _ _⟩
 .have k:(((Y.2:Nat):Int) == 0)=false:=by rw [oE];omega
  go_wp2;exact bodyPost_ret (results_cell_row (P:=prog) rfl _ _ w.heap.size 207 _ (0,0) _ rfl (IE _ _ _ _ _ b) underlying207 rfl iP) rfl ⟨rfl,mM ew (di _) _ _ _ _ _⟩
def ES (a:Option Addr) (n c:Nat) (l:List Int) (w:World) (K:Src w a n l) (G:Bytes l) (J:(bZ l).2=0) (xI:12<=(bZ l).1.length):
  Calls prog 167 #[.slice a n c] w λe w'=>∃a' k,e= .returned (jA ((iO (bZ l).1).e:Int) ((iO (bZ l).1).p:Int) ((iO (bZ l).1).i:Int) ((iO (bZ l).1).c:Int) a' (iO (bZ l).1).d.length k)/\Src w' a' (iO (bZ l).1).d.length (iO (bZ l).1).d/\(∀y,a'=some y->w.heap.size<y.block)/\bW w w':=by
 have u:=xL a n c l (w.alloc (.cells (dJ 0 0 0 0 none 0 0) 207)) (K.later (an _ _)) G;have RU:=BW G;rw [J] at u;generalize (bZ l).1=Y at*;have agN:¬(Y.length:Int)<12:=by omega
 go_in;go_wp2_with fail;refine u.mono ?_;rintro e w1 ⟨v,rfl,⟨a1,m,rfl,gV,kZ,o8⟩,aq⟩;obtain⟨b,o,rfl⟩:=is gV (by omega);have Mn:=o8 _ rfl;have r:=(aq.block _ (by simp)).trans (heap_alloc_new _ _);have ew:=((an w (.cells (dJ 0 0 0 0 none 0 0) 207)).trans (aq.mono (by simp)));have f:=λj=>ae r j;obtain⟨U,W,X,Z,k4⟩:=gB (aL r) (bY r) (cJ r) (jw r) (jI r);have M:=λq (g:∀a,World.cell? q a=w1.cell? a) s=>mJ b o 4 s (Y.take 4) q (RU.take 4) (by simp;omega) (by omega) (λi hi=>(g _).trans (by have:=u9 gV 0 4 (by omega) i hi;rwa [List.drop_zero,Nat.add_zero] at this));have N:=λq (g:∀a,World.cell? q a=w1.cell? a) s=>mJ b (o+4) 4 s ((Y.drop 4).take 4) q ((RU.drop 4).take 4) (by simp;omega) (by omega) (λi hi=>(g _).trans (u9 gV 4 4 (by omega) i hi));have O:=λq (g:∀a,World.cell? q a=w1.cell? a) s=>mJ b (o+8) 2 s ((Y.drop 8).take 2) q ((RU.drop 8).take 2) (by simp;omega) (by omega) (λi hi=>(g _).trans (u9 gV 8 2 (by omega) i hi));have Q:=λq (g:∀a,World.cell? q a=w1.cell? a) s=>mJ b (o+10) 2 s ((Y.drop 10).take 2) q ((RU.drop 10).take 2) (by simp;omega) (by omega) (λi hi=>(g _).trans (u9 gV 10 2 (by omega) i hi));have R:(4:Int)<=(m:Int):=by omega
 have S:(8:Int)<=(m:Int):=by omega
 have H:(10:Int)<=(m:Int):=by omega
 have EO:(12:Int)<=(m:Int):=by omega
 have T:(Y.length:Int)<=(m:Int):=by omega
 have n0:¬m=0:=by omega
 have n4:¬m=4:=by omega
 have n8:¬m=8:=by omega
 have L:¬m=10:=by omega
 obtain⟨A,C,D,E,F⟩:=gB M N O Q r;by_cases KZ:m=12
 .have WN:Y.length=12:=by omega
  have WO:((iO Y).d= []):=Ef (by simp [iO,WN]);subst KZ;rw [WN] at*;go_wp2_with fail;go_region_held3 (λ_=>True) (trivial)
   (first
    |(go_at_call 189;refine(A w1.drew (λ_=>rfl) 12).mono ?_;clear A;rintro e t ⟨rfl,g⟩;subst g)
    |(go_at_call 189;refine(C w1.drew (λ_=>rfl) (8)).mono ?_;clear C;rintro e t ⟨rfl,g⟩;subst g)
    |(go_at_call 189;refine(D w1.drew (λ_=>rfl) (4)).mono ?_;clear D;rintro e t ⟨rfl,g⟩;subst g)
    |(go_at_call 189;refine(E w1.drew (λ_=>rfl) (2)).mono ?_;clear E;rintro e t ⟨rfl,g⟩;subst g))
  go_wp2;refine bodyPost_ret (results_cell_row (P:=prog) rfl _ _ w.heap.size 207 _ (0,0) _ rfl (xQ _ _ _ _ _ F) underlying207 rfl iP) rfl ⟨some (aD b o),0,?_,?_,?_,ah (mM ew (di _) _ _ _ _ _)⟩
  .rw [WO];rfl
  .rw [WO];exact⟨rfl,λ_=>rfl,λx r i hi=>by cases hi⟩
  .intro y z;cases z;simp at Mn;show w.heap.size<b;omega
 .go_wp2_with fail;go_region_held3 (λ_=>True) (trivial)
   (first
    |(go_at_call 189;refine(A w1.drew (λ_=>rfl) m).mono ?_;clear A;rintro e t ⟨rfl,g⟩;subst g)
    |(go_at_call 189;refine(C w1.drew (λ_=>rfl) (m-4)).mono ?_;clear C;rintro e t ⟨rfl,g⟩;subst g)
    |(go_at_call 189;refine(D w1.drew (λ_=>rfl) (m-8)).mono ?_;clear D;rintro e t ⟨rfl,g⟩;subst g)
    |(go_at_call 189;refine(E w1.drew (λ_=>rfl) (m-10)).mono ?_;clear E;rintro e t ⟨rfl,g⟩;subst g))
  go_wp2;have tf:(iO Y).d.length=Y.length-12:=by simp [iO]
  refine bodyPost_ret (results_cell_row (P:=prog) rfl _ _ w.heap.size 207 _ (0,0) _ rfl (xQ _ _ _ _ _ F) underlying207 rfl iP) rfl ⟨some ⟨b,o+12,none⟩,m-12,?_,?_,?_,ah (mM ew (di _) _ _ _ _ _)⟩
  .rw [tf];rfl
  .rw [tf];have u:=Jg gV 12 (Y.length-12) (by omega);rw [wl (by simp)] at u;have I:=u.oa (EP w1 w.heap.size (iV ((le (Y.take 4):Nat):Int)) (iV ((le ((Y.drop 4).take 4):Nat):Int)) (iV ((le ((Y.drop 8).take 2):Nat):Int)) (iV ((le ((Y.drop 10).take 2):Nat):Int)) (.slice (some ⟨b,o+12,none⟩) (Y.length-12) (m-12))) (λy z _ e=>by cases z;simp at Mn e;omega);exact I.later (ah (cW _ _))
  .intro y z;cases z;simp at Mn;show w.heap.size<b;omega
def B4 (a:Option Addr) (n c:Nat) (l:List Int) (w:World) (f:Src w a n l) (b:Bytes l):
  Calls prog 167 #[.slice a n c] w λe w'=>∃a' k,e= .returned (jA ((jM l).e:Int) ((jM l).p:Int) ((jM l).i:Int) ((jM l).c:Int) a' (jM l).d.length k)/\Src w' a' (jM l).d.length (jM l).d/\(∀y,a'=some y->w.heap.size<y.block)/\bW w w':=by
 by_cases q:(bZ l).2≠0\/(bZ l).1.length<12
 .refine(ER a n c l w f b q).mono ?_;rintro e w' ⟨rfl,nh⟩;unfold jM;rw [aN q];exact⟨none,0,rfl,⟨rfl,λ_=>rfl,λx g=>by cases g⟩,λy j=>(by cases j),nh⟩
 .refine(ES a n c l w f b (by omega) (by omega)).mono ?_;rintro e w' h;unfold jM;rw [aB q];exact h
def jO (w:World) (B g i:Nat) (q:PC):Prop:=
 ∃a k,w.cell? ⟨g,i*5,none⟩=some (iV (q.e:Int))/\w.cell? ⟨g,i*5+1,none⟩=some (iV (q.p:Int))/\w.cell? ⟨g,i*5+2,none⟩=some (iV (q.i:Int))/\w.cell? ⟨g,i*5+3,none⟩=some (iV (q.c:Int))/\
  w.cell? ⟨g,i*5+4,none⟩=some (.slice a q.d.length k)/\Src w a q.d.length q.d/\∀y,a=some y->B<=y.block
def jO.ak {B:Nat} (h:jO w B g i q) (c:ad F w w') (t:¬F g) (p:∀k,F k->k<B):jO w' B g i q:=by
 obtain⟨a,k,h0,f,j,l,m,n,b⟩:=h;have e:∀o v,w.cell? (aD g o)=some v->w'.cell? (aD g o)=some v:=λo v d=>by
  have r:=World.block_lt_of_cell? _ _ d;exact(World.cell?_of_block (w:=w) (a:=(aD g o)) (c.block g r t)).trans d
 exact⟨a,k,e _ _ h0,e _ _ f,e _ _ j,e _ _ l,e _ _ m,n.oa c (λy u _ s=>by have:=b y u;have:=p _ s;omega),b⟩
def jO.later {B:Nat} (h:jO w B g i q) (a:bW w w'):jO w' B g i q:=h.ak (ad.ag (λ_=>False) a) (λh=>h) (λ_ h=>h.elim)
def ET:(prog.info? 207).map (λi=>(i.zero,i.size,i.bytes))=some (some (jA 0 0 0 0 none 0 0),5,56):=by kernel_rfl
def Jh {T:TypeId} (m:w.heap[g]? =some (.cells cur T (0,0))) (n:j+5<=cur.size) (a b c d e:Value):
  ∃cur',(((((w.setCell ⟨g,j,none⟩ a).setCell ⟨g,j+1,none⟩ b).setCell ⟨g,j+2,none⟩ c).setCell ⟨g,j+3,none⟩ d).setCell ⟨g,j+4,none⟩ e).heap[g]? =some (.cells cur' T (0,0))/\cur'.size=cur.size/\
   cur'[j]? =some a/\cur'[j+1]? =some b/\cur'[j+2]? =some c/\cur'[j+3]? =some d/\cur'[j+4]? =some e/\∀o,o<j\/j+5<=o->cur'[o]? =cur[o]? :=by
 have h0:=heap_setCell_same w g j _ T a m;have f:=heap_setCell_same _ g (j+1) _ T b h0;have i:=heap_setCell_same _ g (j+2) _ T c f;have k:=heap_setCell_same _ g (j+3) _ T d i;have l:=heap_setCell_same _ g (j+4) _ T e k;refine⟨_,l,by simp,?_,?_,?_,?_,?_,?_⟩
 .rw [Eg (by omega),Eg (by omega),Eg (by omega),Eg (by omega),Array.getElem?_setIfInBounds_self_of_lt (by omega)]
 .rw [Eg (by omega),Eg (by omega),Eg (by omega),Array.getElem?_setIfInBounds_self_of_lt (by simp;omega)]
 .rw [Eg (by omega),Eg (by omega),Array.getElem?_setIfInBounds_self_of_lt (by simp;omega)]
 .rw [Eg (by omega),Array.getElem?_setIfInBounds_self_of_lt (by simp;omega)]
 .rw [Array.getElem?_setIfInBounds_self_of_lt (by simp;omega)]
 .intro o p;rw [Eg (by omega),Eg (by omega),Eg (by omega),Eg (by omega),Eg (by omega)]
def qW (w1:World) (b j:Nat) (a c d e f:Value):ad (λk=>k=b) w1 (((((w1.setCell ⟨b,j,none⟩ a).setCell ⟨b,j+1,none⟩ c).setCell ⟨b,j+2,none⟩ d).setCell ⟨b,j+3,none⟩ e).setCell ⟨b,j+4,none⟩ f):=
   ((((aF (F:=λk=>k=b) w1 rfl j a).trans (aF (F:=λk=>k=b) _ rfl (j+1) c) (λ_ h=> .inl h)).trans (aF (F:=λk=>k=b) _ rfl (j+2) d) (λ_ h=> .inl h)).trans (aF (F:=λk=>k=b) _ rfl (j+3) e) (λ_ h=> .inl h)).trans (aF (F:=λk=>k=b) _ rfl (j+4) f) (λ_ h=> .inl h)
def fA (w:World) (B g n k:Nat) (R:Nat->PC):Prop:=(∃cur,w.heap[g]? =some (.cells cur 207 (0,0))/\cur.size=n*5)/\∀i,i<k->jO w B g i (R i)
def fA.ak {B:Nat} (h:fA w B g n k R) (c:ad F w w') (b:¬F g) (e:∀k,F k->k<B):fA w' B g n k R:=by
 obtain⟨⟨cur,a,f⟩,d⟩:=h;exact⟨⟨cur,(c.block g (af a) b).trans a,f⟩,λi hi=>(d i hi).ak c b e⟩
def fA.lt {B:Nat} (h:fA w B g n k R):g<w.heap.size:=by
 obtain⟨⟨cur,a,c⟩,b⟩:=h;exact af a
def fA.spot {B:Nat} (h:fA w B g n k R) (d:k<n):∀j,j<5->∃v,w.cell? ⟨g,k*5+j,none⟩=some v:=by
 obtain⟨⟨cur,a,e⟩,b⟩:=h;intro j c;have aS:k*5+j<cur.size:=by omega
 exact⟨cur[k*5+j],aa a (by simp [aS])⟩
def fA.fz {B:Nat} (h:fA w B g n k R) (j:Nat):w.frozen? (aD g j)=false:=by
 obtain⟨⟨cur,a,c⟩,b⟩:=h;exact ae a j
def fA.snoc {B:Nat} (h:fA w B g n k R) (L:k<n) (WP:g<B) (a:Option Addr) (c:Nat) (E:Src w a (R k).d.length (R k).d) (l:∀y,a=some y->B<=y.block):
  fA (((((w.setCell ⟨g,k*5,none⟩ (.int .i64 ((R k).e:Int))).setCell ⟨g,k*5+1,none⟩ (.int .i64 ((R k).p:Int))).setCell ⟨g,k*5+2,none⟩ (.int .i64 ((R k).i:Int))).setCell ⟨g,k*5+3,none⟩ (.int .i64 ((R k).c:Int))).setCell ⟨g,k*5+4,none⟩ (.slice a (R k).d.length c)) B g n (k+1) R:=by
 obtain⟨⟨cur,m,fy⟩,C⟩:=h;obtain⟨b,G2,agO,s,t,u,x,z,A⟩:=Jh m (j:=k*5) (by omega) (iV ((R k).e:Int)) (iV ((R k).p:Int)) (iV ((R k).i:Int)) (iV ((R k).c:Int)) (.slice a (R k).d.length c);have dR:=qW w g (k*5) (iV ((R k).e:Int)) (iV ((R k).p:Int)) (iV ((R k).i:Int)) (iV ((R k).c:Int)) (.slice a (R k).d.length c);refine⟨⟨b,G2,by omega⟩,λi hi=>?_⟩;by_cases e:i=k
 .subst e;exact⟨a,c,aa G2 s,aa G2 t,aa G2 u,aa G2 x,aa G2 z,E.oa dR (λy f _ e=>by have:=l y f;omega),l⟩
 .obtain⟨a',c',G,H,I,p3,J,K,r⟩:=C i (by omega);have q:∀o v,o<k*5\/k*5+5<=o->w.cell? (aD g o)=some v->(((((w.setCell ⟨g,k*5,none⟩ (.int .i64 ((R k).e:Int))).setCell ⟨g,k*5+1,none⟩ (.int .i64 ((R k).p:Int))).setCell ⟨g,k*5+2,none⟩ (.int .i64 ((R k).i:Int))).setCell ⟨g,k*5+3,none⟩ (.int .i64 ((R k).c:Int))).setCell ⟨g,k*5+4,none⟩ (.slice a (R k).d.length c)).cell? (aD g o)=some v:=λo v D F=>by
   refine aa G2 ((A o D).trans ?_);simpa [World.cell?,m] using F
  exact⟨a',c',q _ _ (by omega) G,q _ _ (by omega) H,q _ _ (by omega) I,q _ _ (by omega) p3,q _ _ (by omega) J,K.oa dR (λy f _ e=>by have:=r y f;omega),r⟩
def G4 (lo:Nat) (w:World) (n:Nat) (R:Nat->PC) (v:Value):Prop:=∃g B,v= .slice (some (aD g 0)) n n/\lo<=g/\g<B/\fA w B g n n R
def jO.range {B:Nat} (h:jO w B g i q):∃a k,w.rangeAt g (i*5) (dJ (q.e:Int) (q.p:Int) (q.i:Int) (q.c:Int) a q.d.length k).toList/\Src w a q.d.length q.d/\∀y,a=some y->B<=y.block:=by
 obtain⟨a,k,h0,f,l,m,n,o,r⟩:=h;refine⟨a,k,λj v b=>?_,o,r⟩
 match j,b with
 |0,b=>cases b;exact h0
 |1,b=>cases b;exact f
 |2,b=>cases b;exact l
 |3,b=>cases b;exact m
 |4,b=>cases b;exact n
 |j+5,b=>simp at b
def G6 {B:Nat} (h:fA w B g n n R) (v:n<=256):
  Calls prog 139 #[.slice (some (aD g 0)) n n] w λe w'=>e= .returned (iV ((jz R n:Nat):Int))/\bW w w':=by
 have H:=yh h;go_in;go_wp2;go_loopw [3,8] (λr i wr=>∃k:Nat,k<=n/\i=iV k/\r=iV ((jz R k:Nat):Int)/\bW w wr) (λ_ i _=>n-(intOf i).toNat);case atStart=>exact⟨0,iq _,rfl,rfl,cW _ _⟩
 case round=>
  obtain⟨k,u,rfl,rfl,f⟩:=hrel;by_cases q:k<n
  .have t:(k:Int)<(n:Int):=(by omega);have x:(0:Int)<=(k:Int):=(by omega);obtain⟨a,c,jH,_,_⟩:=((H.o.2 k q).later f).range;have ZX:=yh jH;have l:=zU R k;have b:=yh (λo=>f.trans ((an wr o).mono f.size));by_cases m:(R k).e<=1073741824
   .have s:((R k).e:Int)<=1073741824:=(by omega);have j:Yh (jz R (k+1)=max (jz R k) (R k).e):=(by rw [jz,aN m];exact rfl);go_wp2_with (refine wpList_load_mid rfl 207 _ rfl g (k*5) rfl (dJ ((R k).e:Int) ((R k).p:Int) ((R k).i:Int) ((R k).c:Int) a (R k).d.length c).toList _ ZX.o underlying207 rfl iP ?_);go_roundw;case rel=>exact⟨k+1,by omega,by go_num,by rw [j.out];congr 1;omega,b.o _⟩
    case measure=>simp [intOf];omega
   .have s:¬((R k).e:Int)<=1073741824:=(by omega);have j:Yh (jz R (k+1)=jz R k):=(by rw [jz,aB m];exact rfl);go_wp2_with (refine wpList_load_mid rfl 207 _ rfl g (k*5) rfl (dJ ((R k).e:Int) ((R k).p:Int) ((R k).i:Int) ((R k).c:Int) a (R k).d.length c).toList _ ZX.o underlying207 rfl iP ?_);go_roundw;case rel=>exact⟨k+1,by omega,by go_num,by rw [j.out],b.o _⟩
    case measure=>simp [intOf];omega
  .have t:¬(k:Int)<(n:Int):=(by omega);obtain rfl:k=n:=(by omega);have b:=yh f;go_wp2;go_ret;exact⟨rfl,b.o⟩
section
def B5 (q:PC) (E P i c:Nat):Bool:=decide (q.e=E/\q.p=P/\q.i=i/\q.c=c/\0<q.d.length/\(i+1≠c->q.d.length=492)/\1<=c/\c<=17)
def zY {E:Nat}:B5 q E P i c=true↔q.ok E P i c/\1<=c/\c<=17:=by
 unfold B5 PC.ok;rw [decide_eq_true_iff];constructor
 .rintro ⟨a,b,d,e,f,g,j,k⟩;exact⟨⟨a,b,d,e,f,g⟩,j,k⟩
 .rintro ⟨⟨a,b,d,e,f,g⟩,j,k⟩;exact⟨a,b,d,e,f,g,j,k⟩
structure SS where
 rs:List (List Int)
 rc:List Int
 hd:Nat
 ps:Nat
 j:Nat
 c:Nat
section
variable (R:Nat->PC) (E T n:Nat)
def SS.due (st:SS) (x:Nat):Nat:=if st.j=0 then (R ((T+x)%n)).c else st.c
def SS.qX (st:SS) (x:Nat):Bool:=B5 (R ((T+x)%n)) E (T+x) st.j (st.due R T n x)
def SS.next (st:SS) (x:Nat):SS:=
 if (R ((T+x)%n)).i+1=(R ((T+x)%n)).c then ⟨st.rs ++ [st.rc ++ (R ((T+x)%n)).d], [],T+x+1,T+x,0,st.due R T n x⟩
 else ⟨st.rs,st.rc ++ (R ((T+x)%n)).d,st.hd,T+x,st.j+1,st.due R T n x⟩
def SS.start:SS:=⟨[], [],T,0,0,0⟩
def p8:List Nat->SS->Option SS
 | [],st=>some st
 |x :: xs,st=>if st.qX R E T n x=true then p8 xs (st.next R T n x) else none
end
def xR (R:Nat->PC) (E T n:Nat):∀(xs:List Nat) (a G7:SS) (x:Nat),p8 R E T n xs a=some G7->G7.qX R E T n x=true->p8 R E T n (xs ++ [x]) a=some (G7.next R T n x)
 | [],a,G7,x,h,hg=>by
  cases h;show (if _ then _ else _)=_;rw [aN hg];rfl
 |y :: ys,a,G7,x,h,hg=>by
  show (if a.qX R E T n y=true then p8 R E T n (ys ++ [x]) (a.next R T n y) else none)=_;unfold p8 at h;split at h
  .rename_i b;rw [aN b];exact xR R E T n ys _ G7 x h hg
  .cases h
def p9 (R:Nat->PC) (E T n:Nat):∀(xs:List Nat) (a G7:SS) (x:Nat),p8 R E T n (xs ++ [x]) a=some G7->∃s1,p8 R E T n xs a=some s1/\s1.qX R E T n x=true/\G7=s1.next R T n x
 | [],a,G7,x,h=>by
  have h:(if a.qX R E T n x=true then p8 R E T n [] (a.next R T n x) else none)=some G7:=h;split at h
  .rename_i b;cases h;exact⟨a,rfl,b,rfl⟩
  .cases h
 |y :: ys,a,G7,x,h=>by
  have h:(if a.qX R E T n y=true then p8 R E T n (ys ++ [x]) (a.next R T n y) else none)=some G7:=h;split at h
  .rename_i b;obtain⟨s1,c,d,e⟩:=p9 R E T n ys _ G7 x h;refine⟨s1,?_,d,e⟩;show (if _ then _ else _)=_;rw [aN b];exact c
  .cases h
def vb (R:Nat->PC) (E T n:Nat) (hd:∀i,(R i).d.length<=492) (g:∀i,(R i).c<=65536):∀(k:Nat) (xs:List Nat) (a:SS),xs.length=k->p8 R E T n xs (SS.start T)=some a->a.rs.length<=k/\a.rc.length<=492*k/\a.j<=k/\a.c<=65536
 |0,xs,a,hl,h=>by
  obtain rfl:=Ef hl;cases h;exact⟨di _,di _,di _,iq _⟩
 |k+1,xs,a,hl,h=>by
  obtain⟨b,x,rfl⟩:∃b x,xs=b ++ [x]:=by
   have eM:xs≠ []:=(by intro e;rw [e] at hl;cases hl);exact⟨xs.dropLast,xs.getLast eM,(List.dropLast_concat_getLast eM).symm⟩
  obtain⟨s1,l,m,rfl⟩:=p9 R E T n b _ a x h;have q:=vb R E T n hd g k b s1 (by simpa using hl) l;have o:=hd ((T+x)%n);have p:=g ((T+x)%n);have f:s1.due R T n x<=65536:=by unfold SS.due;split <;> omega
  unfold SS.next;split
  .refine⟨?_,?_,?_,f⟩
   .simp;omega
   .simp
   .simp
  .refine⟨?_,?_,?_,f⟩
   .show s1.rs.length<=_;omega
   .show (s1.rc ++ _).length<=_;rw [gT];omega
   .show s1.j+1<=_;omega
def Rp (R:Nat->PC) (n:Nat) (P:Nat):PC:=R (P%n)
def B6 (R:Nat->PC) (n:Nat) (q:Nat):Rp R n (q+n)=Rp R n q:=by unfold Rp;rw [Nat.add_mod_right]
def SS.Mo (R:Nat->PC) (T n:Nat) {a:SS} (b:a.hd+a.j=T+k):a.due R T n k=l7 (Rp R n) a.hd a.j a.c:=by
 unfold SS.due l7;split
 .rename_i h;rw [show T+k=a.hd by omega];rfl
 .rfl
def sm (R:Nat->PC) (E T n:Nat):∀(k:Nat) (b:SS),p8 R E T n (List.range k) (SS.start T)=some b->Scan (Rp R n) E T b.rs b.hd b.j b.c b.rc/\b.hd+b.j=T+k
 |0,b,h=>by
  cases h;exact⟨Scan.start _ _ _ _,rfl⟩
 |k+1,b,h=>by
  rw [List.range_succ] at h;obtain⟨s1,l,a,rfl⟩:=p9 R E T n _ _ b k h;obtain⟨g,f⟩:=sm R E T n k s1 l;have hd:=SS.Mo R T n f;unfold SS.qX at a;rw [zY,hd,<-f] at a;have i:R ((s1.hd+s1.j)%n)=Rp R n (s1.hd+s1.j):=rfl;rw [i] at a;unfold SS.next;rw [hd,<-f,i,a.1.2.2.1,a.1.2.2.2.1];split
  .rename_i d;refine⟨g.full a.1 a.2.2 d _,by show s1.hd+s1.j+1+0=_;omega⟩
  .rename_i d;have aS:s1.j<l7 (Rp R n) s1.hd s1.j s1.c:=by
    by_cases e:s1.j=0
    .rw [e] at a⊢;omega
    .have:=(g.c (by omega)).2.2;unfold l7;rw [aB e];exact this
   refine⟨g.grow a.1 a.2.1 a.2.2 d aS,by show s1.hd+(s1.j+1)=_;omega⟩
def Ji (R:Nat->PC) (E T n k:Nat) (a:SS) (h:p8 R E T n (List.range k) (SS.start T)=some a) (b:a.qX R E T n k=false):dI (Rp R n) E T a.rs a.hd/\∀c d,¬Rec (Rp R n) E a.hd c d:=by
 obtain⟨f,e⟩:=sm R E T n k a h;refine⟨f.t,f.ends (λg=>?_)⟩;unfold SS.qX at b;rw [(SS.Mo R T n e),<-e] at b;have:=(zY (q:=Rp R n (a.hd+a.j))).2 g;rw [show R ((a.hd+a.j)%n)=Rp R n (a.hd+a.j) from rfl,this] at b;cases b
def Jj (R:Nat->PC) (E T n:Nat) (e:1<=n) (a:SS) (h:p8 R E T n (List.range n) (SS.start T)=some a):dI (Rp R n) E T a.rs a.hd/\∀c d,¬Rec (Rp R n) E a.hd c d:=by
 obtain⟨b,f⟩:=sm R E T n n a h;exact⟨b.t,b.round e (B6 R n) f⟩
end
def Mp:(prog.info? 205).map (·.size)=some 4:=by kernel_rfl
abbrev vd (e q i c:Int):Value:= .agg #[iV e,iV q,iV i,iV c]
def B7 (e q i c:Nat) (w:World) (a:c<=100000):
  Calls prog 170 #[vd e q i c] w λr w'=>r= .returned (.bool (decide (i+1=c)))/\bW w w':=by
 have hd:decide (i+1=c)=((i:Int) == (c:Int)-1):=by
  rw [Bool.eq_iff_iff];simp only [decide_eq_true_eq,beq_iff_eq];omega
 rw [hd];go_in;go_wp2;go_ret;exact⟨rfl,(yh (an w (.cells #[.int .i64 (e:Int), .int .i64 (q:Int), .int .i64 (i:Int), .int .i64 (c:Int)] 205))).out⟩
def Mq (e q i c:Nat) (w:World) (d:q<=4294967296) (f:i<=4294967296):
  Calls prog 178 #[vd e q i c] w λr w'=>r= .returned (vd e ((q+1:Nat):Int) ((i+1:Nat):Int) c)/\bW w w':=by
 have a:((q+1:Nat):Int)=(q:Int)+1:=by omega
 have b:((i+1:Nat):Int)=(i:Int)+1:=by omega
 rw [a,b];go_in;go_wp2;exact bodyPost_ret (results_cell_row (P:=prog) rfl _ _ (w.heap.size+1) 205 #[iV (e:Int),iV ((q:Int)+1),iV ((i:Int)+1),iV (c:Int)] (0,0) _ rfl (by have:=heap_alloc_new (w.alloc (.cells #[.int .i64 (e:Int), .int .i64 ((q:Int)+1), .int .i64 ((i:Int)+1), .int .i64 (c:Int)] 205)) (.cells #[.int .i64 (e:Int), .int .i64 ((q:Int)+1), .int .i64 ((i:Int)+1), .int .i64 (c:Int)] 205);rwa [World.size_alloc] at this) underlying205 rfl Mp) rfl ⟨rfl,fk _ _ _⟩
def WQ (q:PC) (a:Option Addr) (n k:Nat) (E P i c:Nat) (w:World) (h:¬(q.e=E/\q.p=P/\q.i=i/\q.c=c)):
  Calls prog 169 #[jA q.e q.p q.i q.c a n k,vd E P i c] w λr w'=>r= .returned (.bool false)/\bW w w':=by
 go_in;go_wp2;all_goals first|(go_ret;exact⟨rfl,fk _ _ _⟩)|(exfalso;omega)
def Tu (e p i c:Nat) (d:List Int) (a:Option Addr) (k:Nat) (w:World):
  Calls prog 169 #[jA e p i c a d.length k,vd e p i c] w λr w'=>r= .returned (.bool (B5 ⟨e,p,i,c,d⟩ e p i c))/\bW w w':=by
 by_cases t:c<1
 .have j:(c:Int)<1:=by omega
  rw [show B5 ⟨e,p,i,c,d⟩ e p i c=false by unfold B5;rw [decide_eq_false_iff_not];omega];go_in;go_wp2;go_ret;exact⟨rfl,fk _ _ _⟩
 .have j:¬(c:Int)<1:=by omega
  by_cases u:17<c
  .have l:17<(c:Int):=(by omega);rw [show B5 ⟨e,p,i,c,d⟩ e p i c=false by unfold B5;rw [decide_eq_false_iff_not];omega];go_in;go_wp2;go_ret;exact⟨rfl,fk _ _ _⟩
  .have l:¬17<(c:Int):=(by omega);have g:=λs=>B7 e p i c s (by omega);have b:=yh (fk w (.cells (dJ e p i c a d.length k) 207) (.cells #[.int .i64 (e:Int), .int .i64 (p:Int), .int .i64 (i:Int), .int .i64 (c:Int)] 205));have D2:((w.alloc (.cells (dJ e p i c a d.length k) 207)).alloc (.cells #[.int .i64 (e:Int), .int .i64 (p:Int), .int .i64 (i:Int), .int .i64 (c:Int)] 205)).heap[w.heap.size]? =some (.cells (dJ e p i c a d.length k) 207 (0,0)):=(Below.heap_alloc _ _ _ (by simp)).trans (heap_alloc_new _ _);have m:=yh D2;by_cases f:i+1=c
   .rw [show B5 ⟨e,p,i,c,d⟩ e p i c=decide (0<d.length) by unfold B5;rw [decide_eq_decide];constructor;(intro h;exact h.2.2.2.2.1);(intro h;exact⟨rfl,rfl,rfl,rfl,h,λq=>absurd f q,by omega,by omega⟩)];rw [show decide (i+1=c)=true by rw [decide_eq_true_eq];exact f] at g;go_in;go_wp2_with fail;refine(g _).mono ?_;rintro r w1 ⟨rfl,aq⟩;have n:w1.cell? (aD w.heap.size 4)=some (.slice a d.length k):=jI ((aq.block _ (by simp;omega)).trans m.o);go_wp2;go_ret;exact⟨rfl,(yh (b.o.trans (aq.mono b.o.size))).out⟩
   .rw [show B5 ⟨e,p,i,c,d⟩ e p i c=((d.length:Int) == 492) by unfold B5;rw [Bool.eq_iff_iff];rw [decide_eq_true_iff,beq_iff_eq];constructor;(intro h;have:d.length=492:=h.2.2.2.2.2.1 f;omega);(intro h;exact⟨rfl,rfl,rfl,rfl,by show 0<d.length;omega,λ_=>by show d.length=492;omega,by omega,by omega⟩)];rw [show decide (i+1=c)=false by rw [decide_eq_false_iff_not];exact f] at g;go_in;go_wp2_with fail;refine(g _).mono ?_;rintro r w1 ⟨rfl,aq⟩;have n:w1.cell? (aD w.heap.size 4)=some (.slice a d.length k):=jI ((aq.block _ (by simp;omega)).trans m.o);go_wp2;go_ret;exact⟨rfl,(yh (b.o.trans (aq.mono b.o.size))).out⟩
def Mr (q:PC) (a:Option Addr) (k:Nat) (E P i c:Nat) (w:World):
  Calls prog 169 #[jA q.e q.p q.i q.c a q.d.length k,vd E P i c] w λr w'=>r= .returned (.bool (B5 q E P i c))/\bW w w':=by
 by_cases h:q.e=E/\q.p=P/\q.i=i/\q.c=c
 .obtain⟨rfl,rfl,rfl,rfl⟩:=h;exact Tu q.e q.p q.i q.c q.d a k w
 .rw [show B5 q E P i c=false by unfold B5;rw [decide_eq_false_iff_not];exact λb=>h ⟨b.1,b.2.1,b.2.2.1,b.2.2.2.1⟩];exact WQ q a q.d.length k E P i c w h
section
open Go.RowKit Go.Shelf
attribute [local go_sem] Oper.semAt_some
def B8 (n₀ b c:Nat) (W W':World):Prop:=Below n₀ W W'/\W'.heap[b]? =W.heap[b]?/\W'.heap[c]? =W.heap[c]?
def B8.t {b:Nat} {B:World} (h:B8 n₀ b c A B) (k:B8 n₀ b c B C):B8 n₀ b c A C:=⟨h.1.trans k.1,k.2.1.trans h.2.1,k.2.2.trans h.2.2⟩
def B8.b {b:Nat} (g:n₀<=w.heap.size) (i:b<w.heap.size) (j:c<w.heap.size) (W:World) (l:Nat) (o a:Obj) (f:w.heap.size<=l) (h:W.heap[l]? =some o) (d:o.isCells=false) (e:o.isWalk=false):B8 n₀ b c W (W.putObj l a):=
   ⟨belowK_b g W l o a f h d e,World.putObj_heap_other (by omega),World.putObj_heap_other (by omega)⟩
def B8.refl (a b c:Nat) (W:World):B8 a b c W W:=⟨cW _ _,rfl,rfl⟩
structure B9 (w:World) (n₀ g n:Nat) (R:Nat->PC) (A:Nat->Option Addr) (C:Nat->Nat):Prop where
 lt:g<n₀
 p:∀i,i<n->w.rangeAt g (i*5) (dJ ((R i).e:Int) ((R i).p:Int) ((R i).i:Int) ((R i).c:Int) (A i) (R i).d.length (C i)).toList
def B9.below {A:Nat->Option Addr} {C:Nat->Nat} (h:B9 w n₀ g n R A C) (a:Below n₀ w w'):B9 w' n₀ g n R A C:=
   ⟨h.lt,λi hi j v b=>(a.cell (p:=⟨g,i*5+j,none⟩) h.lt).trans (h.p i hi j v b)⟩
def OW (g n T:Nat) (w:World):
  Calls prog 168 #[.slice (some (aD g 0)) n n,iV (T:Int)] w λe w'=>e= .returned (.func (.func 190) #[] #[pQ w.heap.size, .pointer (some ⟨w.heap.size+1,0,none⟩)])/\w'=(w.alloc (.cells #[.slice (some ⟨g,0,none⟩) n n] 171)).alloc (.cells #[.int .i64 (T:Int)] 3):=by
 go_in;go_wp2;go_ret;exact⟨rfl,rfl⟩
def Qh (n T:Nat) (R:Nat->PC) (A:Nat->Option Addr) (C:Nat->Nat) (x:Fin n):Array Value:=
   #[iV ((T:Int)+(x.1:Int)),jA ((R ((T+x.1)%n)).e:Int) ((R ((T+x.1)%n)).p:Int) ((R ((T+x.1)%n)).i:Int) ((R ((T+x.1)%n)).c:Int) (A ((T+x.1)%n)) (R ((T+x.1)%n)).d.length (C ((T+x.1)%n))]
def qY {n:Nat} (xs:List (Fin n)) (k:Nat):Prop:=xs.map Fin.val=List.range k
def qY.nil:qY ([]:List (Fin n)) 0:=rfl
def qY.length {xs:List (Fin n)} (h:qY xs k):xs.length=k:=by have:=congrArg List.length h;simpa using this
def qY.snoc {xs:List (Fin n)} (h:qY xs k) (a:k<n):qY (xs ++ [⟨k,a⟩]) (k+1):=by
 unfold qY at*;rw [List.map_append,h,List.range_succ];rfl
def qa {F:Fence} {P:Program} {l:Nat} {b:Array Value} {a body:Code} {A B:World->Prop}
    (h:RoundIn F n P l f b a body w λe W'=>(e= .returned (.bool true)/\A W')\/(e= .returned (.bool false)/\B W')):
  RoundIn F n P l f b a body w λe W'=>∃r,e= .returned (.bool r)/\(r=true->A W')/\(r=false->B W'):=
 h.mono λe W' h=>by
  rcases h with ⟨rfl,h⟩|⟨rfl,h⟩
  .exact⟨true,rfl,λ_=>h,λe=>by cases e⟩
  .exact⟨false,rfl,λe=>(by cases e),λ_=>h⟩
set_option maxRecDepth 100000 in
def OX (m:Nat) (O:1<=m) (l c b f g n T:Nat) (R:Nat->PC) (A:Nat->Option Addr) (C:Nat->Nat) (q:1<=n) (zJ:n<=256) (M:T<=1073741824) (J j:List (Fin n)->World->Prop)
    (z:∀a (x:Fin n) W,J a W->a.length<n->YieldAt Fence.wide (m-1) prog l (Qh n T R A C x) W λe W'=>
     (e= .returned (.bool true)/\J (a ++ [x]) W'/\B8 f c b W W')\/(e= .returned (.bool false)/\j (a ++ [x]) W'))
    (W:World) (EU:W.heap[c]? =some (.cells #[.slice (some ⟨g,0,none⟩) n n] 171 (0,0))) (ZY:W.heap[b]? =some (.cells #[.int .i64 (T:Int)] 3 (0,0))) (y:B9 W f g n R A C) (w:AbidesFrom W.heap.size J) (h0:J [] W):
  CallsIn Fence.wide m prog 190 #[.func (.yield l) #[] #[],pQ c,pQ b] W λe W'=>(∃v,e= .returned v)/\
     ((∃ys,qY ys n/\J ys W')\/(∃a,(∃k,k<n/\qY a (k+1))/\j a W')):=by
 have zl:=aL EU;refine callsIn_of_wp func190 rfl trivial ?_ rfl;simp only [ntmps190,List.size_toArray,List.length_cons,List.length_nil,Nat.reduceAdd,Nat.reduceSub,Array.replicate_succ,Array.replicate_zero,List.push_toArray,List.append_toArray,List.nil_append,List.cons_append]
 gi_wp2
 gi_loopw [8] (λi wr=>∃(k:Nat) (a:List (Fin n)),k<=n/\i=iV k/\qY a k/\J a wr/\B8 f c b W wr)
    (λi _=>n-(intOf i).toNat)
 case atStart=>exact⟨0, [],iq _,rfl,qY.nil,h0,B8.refl _ _ _ _⟩
 case round=>
  obtain⟨k,a,N,rfl,lM,O8,dR⟩:=hrel;have o:=lM.length;by_cases aS:k<n
  .have gV:=aL (dR.2.1.trans EU);have gM:=aL (dR.2.2.trans ZY);obtain⟨L,s,d,body,E,Tv⟩:=z a ⟨k,aS⟩ wr.drew (w a wr wr.drew none O8 ⟨rfl,rfl,rfl,di _,λ_ _ _=>rfl⟩ (λr e=>by cases e)) (by omega);have D3:prog.follows .mixedOrders=true:=(by kernel_rfl);have cH:(k:Int)<(n:Int):=(by omega);have jH:=(y.below dR.1).p ((T+k)%n) (Nat.mod_lt _ q);have D:=Nat.mod_lt (T+k) q;have P:((T:Int)+(k:Int)).tmod (n:Int)=(((T+k)%n:Nat):Int):=(by rw [V5 (by omega),<-Int.natCast_add,<-Int.natCast_emod]);have dV:((T:Int)+(k:Int))%(n:Int)=(((T+k)%n:Nat):Int):=by rw [<-Int.natCast_add,<-Int.natCast_emod]
   dsimp only [Qh] at E
   generalize (T+k)%n=x at*;obtain⟨u,G,H,I,K⟩:=gB (jH 0 _ rfl) (jH 1 _ rfl) (jH 2 _ rfl) (jH 3 _ rfl) (jH 4 _ rfl);rw [Nat.add_zero] at u;have agP:(x:Int)<(n:Int):=(by omega);have D2:(0:Int)<=(x:Int):=by omega
   gi_wp2
   gi_region_with_o ((refine(qa Tv).mono ?_;rintro e F ⟨r,rfl,cI,eB⟩;have RV:=cI;have Jk:=eB;clear cI eB))
   all_goals
    cases r
    .gi_wp2
     refine bodyPost_ret (results_none rfl _ _ _) rfl ?_;exact⟨⟨_,rfl⟩, .inr ⟨_,⟨k,aS,lM.snoc aS⟩,Jk (by simp)⟩⟩
    .gi_wp2
     go_roundw;case rel=>exact⟨k+1,_,by omega,by go_num,lM.snoc aS,(RV (by simp)).1,dR.t (B8.t (B:=wr.drew) ⟨ah (cW _ _),rfl,rfl⟩ (RV (by simp)).2)⟩
     case measure=>simp [intOf];omega
  .obtain rfl:k=n:=by omega
   gi_wp2
   go_end0
   exact⟨⟨_,rfl⟩, .inl ⟨a,lM,O8⟩⟩
def Gx (m:Nat) (q:1<=m) (b a c g n T:Nat) (R:Nat->PC) (A:Nat->Option Addr) (C:Nat->Nat) (r:1<=n) (zJ:n<=256) (o:T<=1073741824) (w:World) (Me:c<=w.heap.size)
    (EU:w.heap[b]? =some (.cells #[.slice (some ⟨g,0,none⟩) n n] 171 (0,0))) (ZY:w.heap[a]? =some (.cells #[.int .i64 (T:Int)] 3 (0,0))) (j:B9 w c g n R A C):
  SeqStopsK Fence.wide m prog 190 #[pQ b,pQ a] (Qh n T R A C) (B8 c b a) (λs=>qY s n) (λe=>∃k,k<n/\qY e (k+1)) n w:=
 λl J f W d i _ p h0=>OX m q l b a c g n T R A C r zJ o J f p W ((d.block _ (af EU)).trans EU) ((d.block _ (af ZY)).trans ZY) (j.below (d.mono Me)) i h0
end
def eh (W:World) (B:Nat) (v:Value) (rs:List (List Int)) (X:Nat->Prop):Prop:=
 ∃vs,W.ownsRow B 44 1 v rs.length vs/\∀i (hi:i<rs.length),∃g c,vs[i]? =some (.slice (some (aD g 0)) (rs[i]).length c)/\ao W 5 g c (bs rs[i])/\B<=g/\¬X g
def eh.nil (W:World) (B:Nat) (X:Nat->Prop):eh W B (.slice none 0 0) [] X:=⟨[],World.ownsRow_nil _ _ _ _,λi hi=>by cases hi⟩
def iZ (W W':World):Prop:=∀(b:Nat) (cur:Array Value) (t:TypeId) (fz:Nat×Nat),W.heap[b]? =some (Obj.cells cur t fz)->W'.heap[b]? =some (Obj.cells cur t fz)
def ay {B:Nat} (h:W.ownsRow B e 1 v n xs) (a:v.ownBlock=some g):∃cur,W.heap[g]? =some (.cells cur e (0,0)):=by
 obtain⟨_,⟨rfl,_⟩|⟨d,b,cur,rfl,_,c,_⟩⟩:=h
 .simp [Value.ownBlock] at a
 .simp [Value.ownBlock] at a;subst a;exact⟨cur,c⟩
def bP {B:Nat} (h:W.ownsRow B e 1 v n xs) (d:∀g,v.ownBlock=some g->W'.heap[g]? =W.heap[g]?):W'.ownsRow B e 1 v n xs:=by
 obtain⟨b,h|⟨g,a,cur,rfl,f,ia,c⟩⟩:=h
 .exact⟨b, .inl h⟩
 .exact⟨b, .inr ⟨g,a,cur,rfl,f,(d g rfl).trans ia,c⟩⟩
def eh.step {B:Nat} (h:eh W B v rs X) (aU:∀g,v.ownBlock=some g->W'.heap[g]? =W.heap[g]?)
    (Ms:∀g cur,W.heap[g]? =some (.cells cur 5 (0,0))->¬X g->W'.heap[g]? =W.heap[g]?) (l:∀g,g<W.heap.size->X' g->X g):eh W' B v rs X':=by
 obtain⟨m,f,j⟩:=h;refine⟨m,bP f aU,λi hi=>?_⟩;obtain⟨g,c,e,b,k,d⟩:=j i hi;have aS:=b.lt;obtain⟨cur,a,kG⟩:=b;exact⟨g,c,e,⟨cur,(Ms g cur a d).trans a,kG⟩,k,λh=>d (l g aS h)⟩
def eh.cells {B:Nat} (h:eh W B v rs X) (d:iZ W W'):eh W' B v rs X:=by
 obtain⟨m,b,f⟩:=h;refine⟨m,bP b (λg k=>?_),λi hi=>?_⟩
 .obtain⟨cur,a⟩:=ay b k;rw [d _ _ _ _ a,a]
 .obtain⟨g,c,e,⟨cur,a,kG⟩,j,l⟩:=f i hi;exact⟨g,c,e,⟨cur,d _ _ _ _ a,kG⟩,j,l⟩
def Own.cells {B:Nat} (h:Own W B v l) (b:iZ W W'):Own W' B v l:=
 bP h (λg c=>by
  obtain⟨cur,a⟩:=ay h c;rw [b _ _ _ _ a,a])
structure ie (W:World) (B0 B E:Nat) (st:SS) (vR vr:Value):Prop where
 r:Boxed W B0 70 vR
 c:Boxed W (B0+1) 44 vr
 h:Boxed W (B0+2) 3 (iV (st.hd:Int))
 d:W.heap[B0+3]? =some (.cells #[.int .i64 (E:Int), .int .i64 (st.ps:Int), .int .i64 (st.j:Int), .int .i64 (st.c:Int)] 205 (0,0))
 rs:eh W B vR st.rs (λk=>vr.ownBlock=some k)
 rc:Own W B vr st.rc
 lo:B0+6<=B
def ie.cells {B:Nat} {b:SS} (h:ie W B0 B E b vR vr) (a:iZ W W'):ie W' B0 B E b vR vr:=
   ⟨a _ _ _ _ h.r,a _ _ _ _ h.c,a _ _ _ _ h.h,a _ _ _ _ h.d,h.rs.cells a,h.rc.cells a,h.lo⟩
def ee (a:bW W W'):iZ W W':=λb _ _ _ h=>(a.block b (af h)).trans h
def gG {row:Option Nat} (d:W.grownBy W' row) (f:∀r,row=some r->∃o:Obj,W.heap[r]? =some o/\o.isCells=false):iZ W W':=λb cur t g h=>by
 refine(d.block b (af h) (λe=>?_)).trans h;obtain⟨o,a,c⟩:=f b e.symm;rw [h] at a;cases a;cases c
def jB {B:Nat} (h:W.ownsRow B e 1 v n xs) (a:v.ownBlock=some g):B<=g:=by
 obtain⟨_,⟨rfl,_⟩|⟨c,b,cur,rfl,f,d,_⟩⟩:=h
 .simp [Value.ownBlock] at a
 .simp [Value.ownBlock] at a;omega
def fH {t:TypeId} {c a:Nat×Nat} (h:W.heap[g]? =some (.cells cur t c)) (b:W.heap[g]? =some (.cells cur' t' a)) (d:t≠t'):False:=by
 rw [h] at b;cases b;exact d rfl
def ie.grow {B:Nat} {a:SS} (h:ie W B0 B E a vR vr)
    (j:w2.ownsRow B 5 1 (.slice (some (aD g 0)) (a.rc.length+d.length) cap) (a.rc.length+d.length) (bs a.rc ++ bs d)) (i:W.grownBy w2 vr.ownBlock) (k7:vr.ownBlock=some g\/g=W.heap.size):
  Boxed w2 B0 70 vR/\Boxed w2 (B0+1) 44 vr/\Boxed w2 (B0+2) 3 (iV (a.hd:Int))/\w2.heap[B0+3]? =W.heap[B0+3]?/\
   eh w2 B vR a.rs (λk=>k=g)/\Own w2 B (.slice (some (aD g 0)) (a.rc.length+d.length) cap) (a.rc ++ d):=by
 have o8:=h.lo;have eM:∀k,k<B->vr.ownBlock≠some k:=λk b e=>by have:=jB h.rc e;omega
 have f:∀k,k<B->k<W.heap.size->w2.heap[k]? =W.heap[k]? :=λk b n=>i.block k n (λe=>eM k b e.symm);refine⟨(f _ (by omega) h.r.lt).trans h.r,(f _ (by omega) h.c.lt).trans h.c,(f _ (by omega) h.h.lt).trans h.h,f _ (by omega) (af h.d),?_,?_⟩
 .refine h.rs.step (λk b=>?_) (λk cur m o=>?_) (λk b e=>?_)
  .obtain⟨p,l,_⟩:=h.rs;obtain⟨cur,aq⟩:=ay l b;refine i.block k (af aq) (λe=>?_);obtain⟨abw,aG⟩:=ay h.rc e.symm;exact fH aq aG (by decide)
  .exact i.block k (af m) (λe=>o e.symm)
  .rcases k7 with k7|k7
   .rw [e];exact k7
   .omega
 .rw [<-iM] at j;have:a.rc.length+d.length=(a.rc ++ d).length:=by simp
  unfold Own;rw [this] at j⊢;exact j
def Jl {B:Nat} {r:List Int} (aU:W.ownsRow B 44 1 v rs.length vs)
    (Vp:∀i (hi:i<rs.length),∃g c,vs[i]? =some (.slice (some (aD g 0)) (rs[i]).length c)/\ao W 5 g c (bs rs[i])/\B<=g) (p:ao W 5 g c (bs r)) (k:B<=g)
    (o:W'.ownsRow B 44 1 (.slice (some (aD g' 0)) (rs.length+1) Qi) (rs.length+1) (vs ++ [.slice (some (aD g 0)) r.length c])) (m:W.grownBy W' v.ownBlock):
  eh W' B (.slice (some (aD g' 0)) (rs.length+1) Qi) (rs ++ [r]) (λ_=>False):=by
 have n:vs.length=rs.length:=by have:=aU.1;simpa using this
 have ak:∀{x y:Nat} {l:List Int},ao W 5 x y (bs l)->ao W' 5 x y (bs l):=λ{x y l} h=>by
  obtain⟨cur,a,kG⟩:=h;refine⟨cur,(m.block x (af a) (λe=>?_)).trans a,kG⟩;obtain⟨abw,aG⟩:=ay aU e.symm;exact fH a aG (by decide)
 refine⟨vs ++ [.slice (some (aD g 0)) r.length c],by rw [gT];exact o,λi hi=>?_⟩;by_cases e:i<rs.length
 .obtain⟨x,y,d,f,j⟩:=Vp i e;refine⟨x,y,?_,?_,j,λh=>h⟩
  .rw [ZG (by omega),d,List.getElem_append_left e]
  .rw [List.getElem_append_left e];exact ak f
 .have b:i=rs.length:=by simp at hi;omega
  subst b;refine⟨g,c,?_,?_,k,λh=>h⟩
  .rw [zS9 (by omega),n,Nat.sub_self];simp
  .simp;exact ak p
def ie.set {f:World} {B:Nat} {n:SS} (h:ie W B0 B E n vR vr) (a:ad (λk=>k=B0+3) W f) (ps j c:Nat)
    (hd:f.heap[B0+3]? =some (.cells #[.int .i64 (E:Int), .int .i64 (ps:Int), .int .i64 (j:Int), .int .i64 (c:Int)] 205 (0,0))):ie f B0 B E {n with ps:=ps,j:=j,c:=c} vR vr:=by
 have o8:=h.lo;refine⟨(a.block _ h.r.lt (by omega)).trans h.r,(a.block _ h.c.lt (by omega)).trans h.c,(a.block _ h.h.lt (by omega)).trans h.h,hd,?_,?_,o8⟩
 .refine h.rs.step (λg b=>?_) (λg cur m _=>?_) (λ_ _ e=>e)
  .obtain⟨o,l,_⟩:=h.rs;obtain⟨cur,i⟩:=ay l b;exact a.block g (af i) (by have:=jB l b;omega)
  .exact a.block g (af m) (λe=>fH m (e▸h.d) (by decide))
 .exact bP h.rc (λg b=>by
   obtain⟨cur,i⟩:=ay h.rc b;exact a.block g (af i) (by have:=jB h.rc b;omega))
structure fR (B0:Nat) (w W W':World):Prop where
 b:bW w W'
 k:KeepsFrom (B0+6) W W'
 p:B8 B0 (B0+1+1+1+1) (B0+1+1+1+1+1) W W'
def fR.below (h:fR B0 w W W') (c:w.heap.size=B0) (i:B0+6<=W.heap.size) (a:bW W' W''):fR B0 w W W'':=by
 have g:=h.k.size;refine⟨h.b.trans (a.mono h.b.size),⟨xv h.k.size a.size,λk o d e f=>?_⟩,h.p.1.trans (a.mono (by omega)),(a.block _ (by omega)).trans h.p.2.1,(a.block _ (by omega)).trans h.p.2.2⟩;have:=h.k.same k o d e f;exact(a.block k (af this)).trans this
def fR.set (h:fR B0 w W W') (c:w.heap.size=B0) {b:Nat} (a:B0<=b) (aG:b<B0+4) (j:Nat) (v:Value):fR B0 w W (W'.setCell ⟨b,j,none⟩ v):=by
 refine⟨h.b.setCell (p:=⟨b,j,none⟩) (by rw [c];exact a) v,h.k.trans ((KeepsOthers.setCell _ _ _).from _),h.p.1.setCell (p:=⟨b,j,none⟩) a v,?_,?_⟩
 .exact(Below.heap_setCell W' ⟨b,j,none⟩ v _ (by show _≠b;omega)).trans h.p.2.1
 .exact(Below.heap_setCell W' ⟨b,j,none⟩ v _ (by show _≠b;omega)).trans h.p.2.2
def fR.start (a:bW w W):fR B0 w W W:=⟨a,KeepsFrom.refl _ _,B8.refl _ _ _ _⟩
def fR.grown {row:Option Nat} (h:fR B0 w W W') (m:w.heap.size=B0) (q:B0+6<=W.heap.size) (a:W'.grownBy W'' row) (c:∀r,row=some r->B0+6<=r/\∃cur t,W'.heap[r]? =some (.cells cur t (0,0))):fR B0 w W W'':=by
 have l:=h.k.size;have eM:∀k,k<B0+6->some k≠row:=λk n e=>by have:=(c k e.symm).1;omega
 refine⟨h.b.grown a h.b.size (λk e=>by have:=(c k e).1;omega),⟨xv h.k.size a.size,λk o i j f=>?_⟩,h.p.1.grown a (by omega) (λk e=>by have:=(c k e).1;omega),(a.block _ (by omega) (eM _ (by omega))).trans h.p.2.1,(a.block _ (by omega) (eM _ (by omega))).trans h.p.2.2⟩;have d:=h.k.same k o i j f;refine(a.block k (af d) (λe=>?_)).trans d;obtain⟨cur,t,g⟩:=(c k e.symm).2;rw [d] at g;cases g;cases f
def eh.low {B:Nat} (h:eh W B v rs X) (o:B'<=B) (j:∀k,X' k->X k):eh W B' v rs X':=by
 obtain⟨n,⟨d,b⟩,f⟩:=h;refine⟨n,⟨d,?_⟩,λi hi=>?_⟩
 .rcases b with b|⟨g,a,cur,e,q,kG⟩
  .exact .inl b
  .exact .inr ⟨g,a,cur,e,by omega,kG⟩
 .obtain⟨g,c,e,l,p,m⟩:=f i hi;exact⟨g,c,e,l,by omega,λh=>m (j _ h)⟩
def eh.tU {B:Nat} (h:eh W B v rs X) {b:Nat} (o:b<B) (j:Nat) (u:Value):eh (W.setCell ⟨b,j,none⟩ u) B v rs X:=by
 obtain⟨n,a,d⟩:=h;refine⟨n,bP a (λg l=>Below.heap_setCell W ⟨b,j,none⟩ u g (by have:=jB a l;show g≠b;omega)),λi hi=>?_⟩;obtain⟨g,c,e,⟨cur,k,kG⟩,f,m⟩:=d i hi;exact⟨g,c,e,⟨cur,(Below.heap_setCell W ⟨b,j,none⟩ u g (by show g≠b;omega)).trans k,kG⟩,f,m⟩
def Own.tU {B:Nat} (h:Own W B v l) {b:Nat} (c:b<B) (j:Nat) (u:Value):Own (W.setCell ⟨b,j,none⟩ u) B v l:=
 bP h (λg a=>Below.heap_setCell W ⟨b,j,none⟩ u g (by have:=jB h a;show g≠b;omega))
def bk {b:Nat} {u:Value} {o:Obj} (h:W.heap[c]? =some o) (eM:c≠b):(W.setCell ⟨b,j,none⟩ u).heap[c]? =some o:=(Below.heap_setCell W ⟨b,j,none⟩ u c eM).trans h
def ie.more {B:Nat} {a:SS} (h:ie W B0 B E a vR vr)
    (q:w2.ownsRow B 5 1 (.slice (some (aD g 0)) (a.rc.length+d.length) cap) (a.rc.length+d.length) (bs a.rc ++ bs d)) (p:W.grownBy w2 vr.ownBlock) (k7:vr.ownBlock=some g\/g=W.heap.size) (J:Int) (o:J=((a.j+1:Nat):Int)):
  ie ((w2.setCell ⟨B0+1,0,none⟩ (.slice (some ⟨g,0,none⟩) (a.rc.length+d.length) cap)).setCell ⟨B0+3,2,none⟩ (.int .i64 J)) B0 B E {a with rc:=a.rc ++ d,j:=a.j+1} vR (.slice (some (aD g 0)) (a.rc.length+d.length) cap):=by
 subst o;have o8:=h.lo;obtain⟨e,f,i,l,m,n⟩:=h.grow q p k7;refine⟨bk (bk e (by omega)) (by omega),bk ((heap_setCell_same _ _ 0 _ _ _ f).trans (by simp)) (by omega),bk (bk i (by omega)) (by omega),?_,?_,?_,o8⟩
 .have:=heap_setCell_same _ _ 2 _ _ (iV ((a.j+1:Nat):Int)) (bk (b:=B0+1) (j:=0) (u:= .slice (some (aD g 0)) (a.rc.length+d.length) cap) (l.trans h.d) (by omega));exact this.trans (by simp)
 .refine((m.tU (b:=B0+1) (by omega) 0 _).tU (b:=B0+3) (by omega) 2 _).low (di _) (λk c=>?_);simp [Value.ownBlock] at c;exact c.symm
 .exact(n.tU (by omega) 0 _).tU (by omega) 2 _
def ie.whole {l:World} {B:Nat} {a:SS} (h:ie W B0 B E a vR vr)
    (H:w2.ownsRow B 5 1 (.slice (some (aD g 0)) (a.rc.length+d.length) cap) (a.rc.length+d.length) (bs a.rc ++ bs d)) (q:W.grownBy w2 vr.ownBlock) (k7:vr.ownBlock=some g\/g=W.heap.size) (R:B<=W.heap.size)
    (aU:w2.ownsRow B 44 1 vR a.rs.length vs) (Vp:∀i (hi:i<a.rs.length),∃g c,vs[i]? =some (.slice (some (aD g 0)) (a.rs[i]).length c)/\ao w2 5 g c (bs a.rs[i])/\B<=g)
    (L3:l.ownsRow B 44 1 (.slice (some (aD g' 0)) (a.rs.length+1) Qi) (a.rs.length+1) (vs ++ [.slice (some (aD g 0)) (a.rc.length+d.length) cap])) (uM:0<d.length) (o:Obj) (xA:(w2.alloc o).grownBy l vR.ownBlock) (P:Nat) (Q:Int) (F:Q=(P:Int)):
  ie ((((l.setCell ⟨B0,0,none⟩ (.slice (some ⟨g',0,none⟩) (a.rs.length+1) Qi)).setCell ⟨B0+1,0,none⟩ (.slice none 0 0)).setCell ⟨B0+2,0,none⟩ (.int .i64 Q)).setCell ⟨B0+3,2,none⟩ (.int .i64 0)) B0 B E {a with rs:=a.rs ++ [a.rc ++ d],rc:= [],hd:=P,j:=0} (.slice (some (aD g' 0)) (a.rs.length+1) Qi) (.slice none 0 0):=by
 subst F;have o8:=h.lo;obtain⟨w,z,A,C,O,D⟩:=h.grow H q k7;have eM:∀k,k<B->vR.ownBlock≠some k:=λk n e=>by have:=jB aU e;omega
 have m:∀k s,k<B->w2.heap[k]? =some s->l.heap[k]? =some s:=λk s n f=>(xA.block k (by have:=af f;simp;omega) (λe=>eM k n e.symm)).trans ((Below.heap_alloc _ _ _ (af f)).trans f);have p:B<=g:=by
  rcases k7 with k7|k7
  .exact jB h.rc k7
  .omega
 have jH:ao w2 5 g cap (bs (a.rc ++ d)):=by
  obtain⟨N,e,_,_,I⟩:=D.row (by simp;omega);cases e;exact I
 have f:a.rc.length+d.length=(a.rc ++ d).length:=by simp
 rw [f] at L3;have WR:=Jl (W:=w2.alloc o) (W':=l) (r:=a.rc ++ d) (bP aU (λg q=>by
   obtain⟨cur,G⟩:=ay aU q;exact Below.heap_alloc _ _ _ (af G))) (λi hi=>by
   obtain⟨x,y,u,t,v⟩:=Vp i hi;exact⟨x,y,u,t.agree (Below.heap_alloc _ _ _ t.lt),v⟩) (jH.agree (Below.heap_alloc _ _ _ jH.lt)) p L3 xA
 have J:=m _ _ (by omega) w;have K:=m _ _ (by omega) z;have L:=m _ _ (by omega) A;have M:=m _ _ (by omega) (C.trans h.d);refine⟨?_,?_,?_,?_,?_,Own.nil _ _,o8⟩
 .exact bk (bk (bk ((heap_setCell_same _ _ 0 _ _ _ J).trans (by simp)) (by omega)) (by omega)) (by omega)
 .exact bk (bk ((heap_setCell_same _ _ 0 _ _ _ (bk K (by omega))).trans (by simp)) (by omega)) (by omega)
 .exact bk ((heap_setCell_same _ _ 0 _ _ _ (bk (bk L (by omega)) (by omega))).trans (by simp)) (by omega)
 .exact(heap_setCell_same _ _ 2 _ _ _ (bk (bk (bk M (by omega)) (by omega)) (by omega))).trans (by simp)
 .exact((((WR.tU (b:=B0) (by omega) 0 _).tU (b:=B0+1) (by omega) 0 _).tU (b:=B0+2) (by omega) 0 _).tU (b:=B0+3) (by omega) 2 _).low (di _) (λk n=>by simp [Value.ownBlock] at n)
section
def qZ (ops:Array Oper):Bool:=ops.all λo=>match o.op with| .defer _=>false|_=>true
def zZ {a:Array Oper} (h:qZ a=true) {o:Oper} (hi:a[i]? =some o):∀c,o.op≠ .defer c:=by
 intro c e;have:=Array.all_eq_true_iff_forall_mem.1 h o (Array.mem_of_getElem? hi);rw [e] at this;cases this
section
variable {P:Program} {ops:Array Oper} {Q:Exit->Act->World->Prop} {l n:Nat}
def Jm {row:String} {args:Array Value} {R:Value->World->Prop} (h:Rows P row args w R):RowsIn (Fence.wide.inRound l) n P row args w R:=λc cs _=>by
 obtain⟨v,w',a,b⟩:=h c cs;exact⟨v,w',a,stepsIn_wide.2 b⟩
def ve {o:Oper} {a:Act} {K:Act->World->Prop} (PY:∀c,o.op≠ .defer c) (h:o.wp P a w K Q):o.wpIn (Fence.wide.inRound l) n P a w K Q:=by
 unfold Oper.wpIn;refine⟨λ_ _=>trivial,?_⟩;rw [Oper.semAt_eq _ _ _ PY];unfold Oper.wp at h;generalize (execOp a.eval o).run P w=r at*;cases r with
 |ok x w'=>
  cases x <;> simp only [Oper.upon,Oper.uponIn] at h⊢<;>
   first
    |exact h
    |exact⟨λh=>(by cases h),CallsIn.inRound l (callsIn_wide.2 h)⟩
    |exact⟨λh=>(by cases h),Jm h⟩
    |exact h.elim
 |halt x w'=>cases x <;> simp only [Oper.upon,Oper.uponIn] at h⊢<;> exact h
def Jn {a:Act} {K:Act->World->Prop} (hd:qZ ops=true) (c:¬LetsOut Q) (h:wpOp P ops Q i K a w):wpOpIn (Fence.wide.inRound l) n P ops Q i K a w:=by
 unfold wpOp at h;unfold wpOpIn;cases hi:ops[i]? with
 |none=>simp only [hi] at h;exact h
 |some o=>
  simp only [hi] at h⊢;split
  .rename_i b;simp only [b,if_true] at h;rcases h with h|h
   .exact ve (zZ hd hi) h
   .exact absurd h.2 c
  .rename_i b;simp only [b] at h;exact⟨λ_ _=>trivial,h⟩
def qb {c:Region.Mode} (hd:qZ ops=true) (b:¬LetsOut Q):∀(fuel:Nat) (dW:Array Bool) (a:Act) (w:World),wpAny P c ops Q fuel dW a w->wpAnyIn (Fence.wide.inRound l) n P c ops Q fuel dW a w
 |0,_,_,_,h=>h
 |fuel+1,_listed,_a,_w,h=>⟨h.1,λi hi=>wpOpIn_mono (λa w h=>qb hd b fuel _ a w h) (Jn hd b (h.2 i hi))⟩
def l8 {c:Nat} {a:Act} {K:Act->World->Prop} {S:World->Prop} (b:P.follows .mixedOrders=true) (hd:qZ ops=true) (h:wpAnyH P .any ops (Exit.then K (λ_ _ _=>False)) S ops.size (Array.replicate ops.size false) a w.drew):
    (Code.region c ops true).wpIn (Fence.wide.inRound l) n P (Exit.then K Q) a w:=
 wpIn_mono (wpIn_region_any b (qb hd (λ⟨_,_,h⟩=>h) _ _ _ _ (wpAny_of_held _ _ _ _ h))) (λe a w h=>by cases e <;> first|exact h|exact h.elim)
def cf {o:Oper} {a:Act} {K:Act->World->Prop} (s x:Operand) (t:TypeId) (b:o.op= .call {callee:= .builtin .append,args:= #[s,x],argTypes:= #[t,t]}) (v u r:Value) (d:a.eval s=v) (e:a.eval x=u)
    (c:(Builtin.append_ #[t,t] o.type #[v,u]).run P w= .ok r w') (h:K (a.put o.dst r) w'):o.wp P a w K Q:=by
 unfold Oper.wp execOp;simp only [b,resolve,invoke,builtin,Sem.run_bind,Sem.run_pure,Result.andThen_ok,List.map_toArray,List.map_cons,List.map_nil,d,e,c];exact h
def o9 {o:Oper} {rest:List Oper} {a:Act} (f:o.guard=none) (s x:Operand) (t:TypeId) (b:o.op= .call {callee:= .builtin .append,args:= #[s,x],argTypes:= #[t,t]}) (v u r:Value) (i:a.eval s=v) (j:a.eval x=u)
    (g:(Builtin.append_ #[t,t] o.type #[v,u]).run P w= .ok r w') (h:wpListIn (Fence.wide.inRound l) n P ops Q rest (a.put o.dst r) w'):wpListIn (Fence.wide.inRound l) n P ops Q (o :: rest) a w:=
 wpListIn_plain f λ_ d=>ve (by rw [b];intro c e;cases e) (cf s x t b v u r i j g (d _ _ h))
end
end
section
open Go.RowKit Go.Shelf
attribute [local go_sem] Oper.semAt_some
def Jo {B:Nat} (h:fA w B g n n R):∃(A:Nat->Option Addr) (C:Nat->Nat),∀i,i<n->w.rangeAt g (i*5) (dJ ((R i).e:Int) ((R i).p:Int) ((R i).i:Int) ((R i).c:Int) (A i) (R i).d.length (C i)).toList/\Src w (A i) (R i).d.length (R i).d:=by
 have a:=λi (hi:i<n)=>(h.2 i hi).range;refine⟨λi=>if hi:i<n then Classical.choose (a i hi) else none,λi=>if hi:i<n then Classical.choose (Classical.choose_spec (a i hi)) else 0,λi hi=>?_⟩;simp only [hi,dite_true];have:=Classical.choose_spec (Classical.choose_spec (a i hi));exact⟨this.1,this.2.1⟩
def Jp (w:World) (a b c d f g:Obj):((((((w.alloc a).alloc b).alloc c).alloc d).alloc f).alloc g).heap[w.heap.size]? =some a/\((((((w.alloc a).alloc b).alloc c).alloc d).alloc f).alloc g).heap[w.heap.size+1]? =some b/\((((((w.alloc a).alloc b).alloc c).alloc d).alloc f).alloc g).heap[w.heap.size+2]? =some c/\
    ((((((w.alloc a).alloc b).alloc c).alloc d).alloc f).alloc g).heap[w.heap.size+3]? =some d/\((((((w.alloc a).alloc b).alloc c).alloc d).alloc f).alloc g).heap[w.heap.size+1+1+1+1]? =some f/\((((((w.alloc a).alloc b).alloc c).alloc d).alloc f).alloc g).heap[w.heap.size+1+1+1+1+1]? =some g:=by
 have e:((((((w.alloc a).alloc b).alloc c).alloc d).alloc f).alloc g).heap=(((((w.heap.push a).push b).push c).push d).push f).push g:=rfl;rw [e];refine⟨?_,?_,?_,?_,?_,?_⟩
 .rw [Array.getElem?_push,aB (by simp;omega),Array.getElem?_push,aB (by simp;omega),Array.getElem?_push,aB (by simp;omega),Array.getElem?_push,aB (by simp;omega),Array.getElem?_push,aB (by simp),Array.getElem?_push,aN rfl]
 .rw [Array.getElem?_push,aB (by simp),Array.getElem?_push,aB (by simp),Array.getElem?_push,aB (by simp),Array.getElem?_push,aB (by simp),Array.getElem?_push,aN (by simp)]
 .rw [Array.getElem?_push,aB (by simp),Array.getElem?_push,aB (by simp),Array.getElem?_push,aB (by simp),Array.getElem?_push,aN (by simp)]
 .rw [Array.getElem?_push,aB (by simp),Array.getElem?_push,aB (by simp),Array.getElem?_push,aN (by simp)]
 .rw [Array.getElem?_push,aB (by simp),Array.getElem?_push,aN (by simp)]
 .rw [Array.getElem?_push,aN (by simp)]
def qY.split {xs:List (Fin n)} {x:Fin n} (h:qY (xs ++ [x]) (k+1)):xs.map Fin.val=List.range k/\x.1=k:=by
 unfold qY at h;rw [List.map_append,List.range_succ] at h;obtain⟨a,b⟩:=List.append_inj' h rfl;exact⟨a,by simpa using b⟩
def G8 (w w':World) (R:Nat->PC) (E T n:Nat) (e:Ending):Prop:=∃v h rs,e= .returned (.tuple #[v, .int .i64 ((h:Nat):Int)])/\eh w' w.heap.size v rs (λ_=>False)/\dI (Rp R n) E T rs h/\(∀c d,¬Rec (Rp R n) E h c d)/\Below w.heap.size w w'
def Ca {B D T:Nat} {f:List Deferred} (h:eh W B v rs X) (j:w.heap.size<=B) (a:Below w.heap.size w W) (g:W.heap[D]? =some (.deferred (some f))) (l:w.heap.size<=D) (i:dI (Rp R n) E T rs hd/\∀c d,¬Rec (Rp R n) E hd c d):
  G8 w (W.drew.putObj D (.deferred none)) R E T n (.returned (.tuple #[v, .int .i64 ((hd:Nat):Int)])):=by
 have k:iZ W (W.drew.putObj D (.deferred none)):=λb cur t m a=>by
  have eM:b≠D:=λe=>by rw [e,g] at a;cases a
  exact(World.putObj_heap_other eM).trans a
 refine⟨v,hd,rs,rfl,(h.cells k).low j (λ_ h=>h.elim),i.1,i.2,?_⟩;exact(ah a).trans (belowK_b (w:=w) (di _) W.drew D (.deferred (some f)) (.deferred none) l g rfl rfl)
def xS {B:Nat} {e:List Int} (bB:Own W B v e) {a:Option Addr} (c:Nat) (f:Src W a n d) (hd:0<n) (k:e.length+n<=1000000) (r:B<=W.heap.size):
  ∃g cap w',(Builtin.append_ #[44,44] 44 #[v, .slice a n c]).run prog W= .ok (.slice (some ⟨g,0,none⟩) (e.length+d.length) cap) w'/\w'.ownsRow B 5 1 (.slice (some ⟨g,0,none⟩) (e.length+d.length) cap) (e.length+d.length) (bs e ++ bs d)/\W.grownBy w' v.ownBlock/\(v.ownBlock=some g\/g=W.heap.size):=by
 obtain⟨t,hi,iX,eR,eE⟩:=info_parts gU;obtain⟨b,o,rfl⟩:=is f hd;have i:=f.1;obtain⟨g,cap,w',l,m,p,q,_⟩:=run_append_lies (P:=prog) W 44 44 B 5 t (.int .u8 0) 1 1 underlying44 hi iX eR eE rfl (by decide) v e.length (bs e) bB ⟨b,o,none⟩ n c (bs d) (by simp [bs,i]) (λj u s=>by
   obtain⟨ZM,rfl⟩:=eG s;exact f.2.2 _ rfl j (by omega)) (bD d) hd (by unfold maxLen;omega) (by omega) r W.heap.size rfl
 rw [i];exact⟨g,cap,w',l,m,p,q⟩
def Qj {B:Nat} (aU:W.ownsRow B 44 1 v k vs) (x:Value) (f:x.oneCell'=true) (l:k<=1000000) (j:B<=W.heap.size):
  ∃g cap w',(Builtin.append_ #[70,70] 70 #[v, .slice (some ⟨W.heap.size,0,none⟩) 1 1]).run prog (W.alloc (.cells #[x] 44))= .ok (.slice (some ⟨g,0,none⟩) (k+1) cap) w'/\w'.ownsRow B 44 1 (.slice (some ⟨g,0,none⟩) (k+1) cap) (k+1) (vs ++ [x])/\(W.alloc (.cells #[x] 44)).grownBy w' v.ownBlock:=by
 obtain⟨i,hi,iX,eR,eE⟩:=info_parts zi;obtain⟨g,cap,w',a,b,c,_,_⟩:=run_append_lies (P:=prog) (W.alloc (.cells #[x] 44)) 70 70 B 44 i (.slice none 0 0) 1 24 underlying70 hi iX eR eE rfl (by decide) v k vs (bP aU (λg e=>by
   obtain⟨cur,d⟩:=ay aU e;exact Below.heap_alloc _ _ _ (af d))) ⟨W.heap.size,0,none⟩ 1 1 [x] rfl (World.news_of_block (cs:= #[x]) (t:=44) (fr:=(0,0)) (heap_alloc_new W _)) (by simpa using f) (by omega) (by unfold maxLen;omega) (by omega) (by simp;omega) _ rfl
 exact⟨g,cap,w',a,b,c⟩
def RW (R:Nat->PC) (E T n x:Nat) (st:SS) (y Bx:Nat) (a:Option Addr) (k:Nat) (vR vr:Value) (w W:World) (e:Ending) (W2:World):Prop:=
 ∃(b:Bool) (c:Nat),e= .returned (.bool b)/\b=st.qX R E T n x/\c=st.due R T n x/\ie W2 w.heap.size (w.heap.size+6) E {st with ps:=T+x,j:=st.j,c:=c} vR vr/\fR w.heap.size w W W2/\W2.heap[Bx]? =some (.cells (dJ ((R y).e:Int) ((R y).p:Int) ((R y).i:Int) ((R y).c:Int) a (R y).d.length k) 207 (0,0))
def xT {F:Fence} {P:Program} {c:Code} {K:Act->World->Prop} {Q:Exit->Act->World->Prop} {a:Act} (h:c.wpIn F n P (Exit.then K (λ_ _ _=>False)) a w):c.wpIn F n P (Exit.then K Q) a w:=
 wpIn_mono h (λe a w h=>by cases e <;> first|exact h|exact h.elim)
def vf {row:Option Nat} (h:Below w.heap.size w W) (a:W.grownBy W' row) (b:∀r,row=some r->w.heap.size<=r):Below w.heap.size w W':=h.grown a h.size (λk e=>b k e)
def tk {row:Option Nat} {t:TypeId} (d:W.grownBy W' row) (f:∀r,row=some r->∃cur,W.heap[r]? =some (.cells cur t (0,0))) {b:Nat} {a:Nat×Nat} (h:W.heap[b]? =some (.cells cur' t' a)) (eM:t≠t'):W'.heap[b]? =some (.cells cur' t' a):=
   (d.block b (af h) (λe=>by
  obtain⟨cur,c⟩:=f b e.symm;exact fH c h eM)).trans h
set_option maxRecDepth 100000 in
def Mt (g n E T:Nat) (R:Nat->PC) (w:World) (B:Nat) (hr:fA w B g n n R) (oI:1<=n) (hn:n<=256) (hT:T<=1073741824) (_hE:E<=1073741824) (hR1:∀i,(R i).d.length<=492) (Vq:∀i,(R i).c<=65536):
  Calls prog 140 #[.slice (some ⟨g,0,none⟩) n n, .int .i64 (E:Int), .int .i64 (T:Int)] w λe w'=>G8 w w' R E T n e:=by
 refine(callsIn_wide (n:=6)).1 ?_;refine callsIn_of_wp_marks func140 rfl trivial ?_ rfl;simp only [ntmps140,List.size_toArray,List.length_cons,List.length_nil,Nat.reduceAdd,Nat.reduceSub,Array.replicate_succ,Array.replicate_zero,List.push_toArray,List.append_toArray,List.nil_append,List.cons_append]
 gi_wp2
 refine(wpIn_wide (n:=6)).2 (wp_scope_straight ((wpIn_wide (n:=6)).1 ?_))
 gi_wp2
 refine wpIn_label ?_
 gi_wp2_with (refine⟨trivial,?_⟩;gi_at_call 168;refine(callsIn_wide.2 (OW g n T _)).mono ?_;rintro e w' ⟨rfl,rfl⟩)
 obtain⟨Q,EV⟩:∃Q,((((((w.alloc (.cells #[.slice none 0 0] 70)).alloc (.cells #[.slice none 0 0] 44)).alloc (.cells #[.int .i64 (T:Int)] 3)).alloc (.cells #[.int .i64 (E:Int), .int .i64 0, .int .i64 0, .int .i64 0] 205)).alloc (.cells #[.slice (some ⟨g,0,none⟩) n n] 171)).alloc (.cells #[.int .i64 (T:Int)] 3))=Q:=⟨_,rfl⟩;rw [EV];have fy:Q.heap.size=w.heap.size+6:=by rw [<-EV];simp
 have lJ:Below w.heap.size w Q:=by rw [<-EV];exact((((((cW _ w).alloc (di _) _).alloc (by simp) _).alloc (by simp;omega) _).alloc (by simp;omega) _).alloc (by simp;omega) _).alloc (by simp;omega) _
 have bw:ie Q w.heap.size (w.heap.size+6) E (SS.start T) (.slice none 0 0) (.slice none 0 0)/\Q.heap[w.heap.size+1+1+1+1]? =some (.cells #[.slice (some ⟨g,0,none⟩) n n] 171 (0,0))/\Q.heap[w.heap.size+1+1+1+1+1]? =some (.cells #[.int .i64 (T:Int)] 3 (0,0)):=by
  rw [<-EV];obtain⟨s1,s2,s3,s4,s5,s6⟩:=Jp w (.cells #[.slice none 0 0] 70) (.cells #[.slice none 0 0] 44) (.cells #[.int .i64 (T:Int)] 3) (.cells #[.int .i64 (E:Int), .int .i64 0, .int .i64 0, .int .i64 0] 205) (.cells #[.slice (some ⟨g,0,none⟩) n n] 171) (.cells #[.int .i64 (T:Int)] 3);exact⟨⟨s1,s2,s3,s4,eh.nil _ _ _,Own.nil _ _,di _⟩,s5,s6⟩
 obtain⟨A,C,hAC⟩:=Jo hr;clear EV;refine wpIn_rangeFunc_ownH rfl (by omega) (gf:=190) (lb:= #[.pointer (some ⟨w.heap.size+1+1+1+1,0,none⟩), .pointer (some ⟨w.heap.size+1+1+1+1+1,0,none⟩)]) rfl trivial (enters_of func190 (by kernel_rfl) rfl)
    (Gx (6-1) (by omega) (w.heap.size+1+1+1+1) (w.heap.size+1+1+1+1+1) w.heap.size g n T R A C oI hn hT Q (by omega) bw.2.1 bw.2.2 ⟨hr.lt,λi hi j v hv=>(lJ.cell (p:=⟨g,i*5+j,none⟩) hr.lt).trans ((hAC i hi).1 j v hv)⟩) B8.t (B8.b (by omega) (by omega) (by omega)) (cW _ _) (λ_=>rfl)
    (λu W=>∃a G z,p8 R E T n (u.map Fin.val) (SS.start T)=some a/\ie W w.heap.size (w.heap.size+6) E a G z/\Below w.heap.size w W/\w.heap.size+6<=W.heap.size)
    (λc u W=>c= .exit 0/\∃Mu x a ps c' G z,u=Mu ++ [x]/\p8 R E T n (Mu.map Fin.val) (SS.start T)=some a/\a.qX R E T n x.1=false/\ie W w.heap.size (w.heap.size+6) E {a with ps:=ps,c:=c'} G z/\Below w.heap.size w W)
  ?hI ?hIx ⟨_,_,_,rfl,bw.1,lJ,by omega⟩
    (λx a' W=>∃q,w.heap.size+6<=q/\W.heap[q]? =some (.cells (dJ ((R ((T+x.1)%n)).e:Int) ((R ((T+x.1)%n)).p:Int) ((R ((T+x.1)%n)).i:Int) ((R ((T+x.1)%n)).c:Int) (A ((T+x.1)%n)) (R ((T+x.1)%n)).d.length (C ((T+x.1)%n))) 207 (0,0))/\a'={tmps:= #[Value.slice (some ⟨g,0,none⟩) n n, .int .i64 (E:Int), .int .i64 (T:Int),undef,undef,undef, .slice none 0 0, .int .i64 0, .pointer (some ⟨w.heap.size,0,none⟩), .pointer (some ⟨w.heap.size+1,0,none⟩), .pointer (some ⟨w.heap.size+1+1,0,none⟩), .pointer (some ⟨w.heap.size+1+1+1,0,none⟩), .int .i64 ((T:Int)+(x.1:Int)), .pointer (some ⟨q,0,none⟩), .int .i64 (T:Int), .int .i64 (E:Int), .agg #[.int .i64 (E:Int), .int .i64 0, .int .i64 0, .int .i64 0], .slice (some ⟨g,0,none⟩) n n, .int .i64 (T:Int), .func (.func 190) #[] #[.pointer (some ⟨w.heap.size+1+1+1+1,0,none⟩), .pointer (some ⟨w.heap.size+1+1+1+1+1,0,none⟩)], .int .i64 ((T:Int)+(x.1:Int)),jA ((R ((T+x.1)%n)).e:Int) ((R ((T+x.1)%n)).p:Int) ((R ((T+x.1)%n)).i:Int) ((R ((T+x.1)%n)).c:Int) (A ((T+x.1)%n)) (R ((T+x.1)%n)).d.length (C ((T+x.1)%n)),undef,undef,undef,undef,undef,undef,undef,undef,undef,undef,undef,undef,undef,undef,undef,undef,undef,undef,undef,undef,undef,undef,undef,undef,undef,undef,undef,undef,undef,undef,undef,undef,undef,undef,undef,undef,undef,undef],defers:= []}) ?hAx ?assign ?body ?done ?stop
 case hI=>
  rintro s X Y row ⟨a,G,z,H,m,I,J⟩ N aU;exact⟨a,G,z,H,m.cells (gG N (λr e=>(aU r e).2)),vf I N (λr e=>by have:=(aU r e).1;omega),xv J N.size⟩
 case hIx=>
  rintro c s X Y row ⟨L,Mu,x,a,ps,c',G,z,h0,H,m,I,J⟩ N aU;exact⟨L,Mu,x,a,ps,c',G,z,h0,H,m,I.cells (gG N (λr e=>(aU r e).2)),vf J N (λr e=>by have:=(aU r e).1;omega)⟩
 case hAx=>
  rintro x a' s X Y row ⟨q,H,m,I⟩ N aU;exact⟨q,H,gG N (λr e=>(aU r e).2) _ _ _ _ m,I⟩
 case assign=>
  rintro l u x W K ⟨a,G,z,H,m,I,J⟩ f;simp only [Qh]
  gi_wp2
  exact f _ _ ((KeepsOthers.alloc _ _).from _) ⟨(cW _ W).alloc (by omega) _,Below.heap_alloc _ _ _ (by omega),Below.heap_alloc _ _ _ (by omega)⟩ ⟨a,G,z,H,m.cells (ee (an _ _)),I.trans ((an _ _).mono (by omega)),by simp;omega⟩ ⟨W.heap.size,by omega,heap_alloc_new _ _,rfl⟩
 case body=>
  rintro l u x a' W hl ⟨rr,D4⟩ ⟨a,G,z,H,m,I,J⟩ ⟨q,hBx,O9,rfl⟩ aS;have PT:=vb R E T n hR1 Vq u.length (u.map Fin.val) a (by simp) H;have hx:=x.2;have hyn:(T+x.1)%n<n:=Nat.mod_lt _ oI;obtain⟨y,hy⟩:=cF ((T+x.1)%n);have G9:a.qX R E T n x.1=B5 (R y) E (T+x.1) a.j (a.due R T n x.1):=by unfold SS.qX;rw [<-hy]
  have Qk:a.due R T n x.1=if a.j=0 then (R y).c else a.c:=by unfold SS.due;rw [<-hy]
  have Tw:a.next R T n x.1=if (R y).i+1=(R y).c then ⟨a.rs ++ [a.rc ++ (R y).d], [],T+x.1+1,T+x.1,0,a.due R T n x.1⟩ else ⟨a.rs,a.rc ++ (R y).d,a.hd,T+x.1,a.j+1,a.due R T n x.1⟩:=by unfold SS.next;rw [<-hy]
  rw [<-hy] at hyn O9;simp only [<-hy];have HNx:=yh Tw;have WS:Yh (∀c,c=a.due R T n x.1->a.qX R E T n x.1=B5 (R y) E (T+x.1) a.j c):=λc L=>by rw [L];exact G9
  have sq:((T+x.1:Nat):Int)=(T:Int)+(x.1:Int):=by omega
  have d1:W.cell? ⟨w.heap.size+1+1+1,1,none⟩=some (.int .i64 (a.ps:Int)):=bY m.d;have d2:W.cell? ⟨w.heap.size+1+1+1,2,none⟩=some (.int .i64 (a.j:Int)):=cJ m.d;have d0:W.cell? ⟨w.heap.size+1+1+1,0,none⟩=some (.int .i64 (E:Int)):=aL m.d;have d3:W.cell? ⟨w.heap.size+1+1+1,3,none⟩=some (.int .i64 (a.c:Int)):=jw m.d;have df:∀j,W.frozen? ⟨w.heap.size+1+1+1,j,none⟩=false:=λj=>ae m.d j;have p0:W.cell? ⟨q,0,none⟩=some (.int .i64 ((R y).e:Int)):=aL O9;have p1:W.cell? ⟨q,1,none⟩=some (.int .i64 ((R y).p:Int)):=bY O9;have p2:W.cell? ⟨q,2,none⟩=some (.int .i64 ((R y).i:Int)):=cJ O9;have p3:W.cell? ⟨q,3,none⟩=some (.int .i64 ((R y).c:Int)):=jw O9;have p4:W.cell? ⟨q,4,none⟩=some (.slice (A y) (R y).d.length (C y)):=jI O9;have eM:q≠w.heap.size+1+1+1:=by omega
  have HS:=yh fy;by_cases hj:a.j=0
  case' pos=>
   have d2':W.cell? ⟨w.heap.size+1+1+1,2,none⟩=some (.int .i64 0):=(by rw [d2,hj];rfl);clear d2;have Mv:a.due R T n x.1=(R y).c:=(by rw [Qk,aN hj]);have aH:ie ((W.setCell ⟨w.heap.size+1+1+1,1,none⟩ (.int .i64 ((T:Int)+(x.1:Int)))).setCell ⟨w.heap.size+1+1+1,3,none⟩ (.int .i64 ((R y).c:Int))) w.heap.size (w.heap.size+6) E {a with ps:=T+x.1,j:=a.j,c:=(R y).c} G z:=m.set ((aF (F:=λk=>k=w.heap.size+3) W rfl 1 _).trans (aF (F:=λk=>k=w.heap.size+3) _ rfl 3 _) (λ_ h=> .inl h)) (T+x.1) a.j (R y).c ((heap_setCell_same _ _ 3 _ _ _ (heap_setCell_same _ _ 1 _ _ _ m.d)).trans (by simp [hj]));have bo:fR w.heap.size w W ((W.setCell ⟨w.heap.size+1+1+1,1,none⟩ (.int .i64 ((T:Int)+(x.1:Int)))).setCell ⟨w.heap.size+1+1+1,3,none⟩ (.int .i64 ((R y).c:Int))):=((fR.start I).set rfl (by omega) (by omega) 1 _).set rfl (by omega) (by omega) 3 _;have gM:(((W.setCell ⟨w.heap.size+1+1+1,1,none⟩ (.int .i64 ((T:Int)+(x.1:Int)))).setCell ⟨w.heap.size+1+1+1,3,none⟩ (.int .i64 ((R y).c:Int)))).heap[q]? =some (.cells (dJ ((R y).e:Int) ((R y).p:Int) ((R y).i:Int) ((R y).c:Int) (A y) (R y).d.length (C y)) 207 (0,0)):=bk (bk O9 (by omega)) (by omega);rw [Mv] at G9;have RX:=CallsIn.inRound l (callsIn_wide (n:=3).2 ((Mr (R y) (A y) (C y) E (T+x.1) a.j (R y).c ((W.setCell ⟨w.heap.size+1+1+1,1,none⟩ (.int .i64 ((T:Int)+(x.1:Int)))).setCell ⟨w.heap.size+1+1+1,3,none⟩ (.int .i64 ((R y).c:Int)))).mono (λe M h=>show RW R E T n x.1 a y q (A y) (C y) G z w W e M from ⟨_,_,h.1,G9.symm,Mv.symm,aH.cells (ee h.2),bo.below rfl J h.2,(h.2.block _ (af gM)).trans gM⟩)));rw [sq] at RX;rw [show (a.j:Int)=0 by omega] at RX;clear m I O9 aH bo gM G9 Qk Mv hy hj D4 Tw fy bw lJ sq hr
   gi_wp2_with fail
   refine⟨trivial,?_⟩;refine RX.mono ?_;rintro e M ⟨b,c,rfl,G9,Mv,eY,aK,A1⟩;clear RX
  case' neg=>
   have GD:((a.j:Int) == 0)=false:=(by rw [oE];omega);have Mv:a.due R T n x.1=a.c:=(by rw [Qk,aB hj]);have aH:ie (W.setCell ⟨w.heap.size+1+1+1,1,none⟩ (.int .i64 ((T:Int)+(x.1:Int)))) w.heap.size (w.heap.size+6) E {a with ps:=T+x.1,j:=a.j,c:=a.c} G z:=m.set (aF (F:=λk=>k=w.heap.size+3) W rfl 1 _) (T+x.1) a.j a.c ((heap_setCell_same _ _ 1 _ _ _ m.d).trans (by simp));have bo:fR w.heap.size w W (W.setCell ⟨w.heap.size+1+1+1,1,none⟩ (.int .i64 ((T:Int)+(x.1:Int)))):=(fR.start I).set rfl (by omega) (by omega) 1 _;have gM:((W.setCell ⟨w.heap.size+1+1+1,1,none⟩ (.int .i64 ((T:Int)+(x.1:Int))))).heap[q]? =some (.cells (dJ ((R y).e:Int) ((R y).p:Int) ((R y).i:Int) ((R y).c:Int) (A y) (R y).d.length (C y)) 207 (0,0)):=bk O9 (by omega);rw [Mv] at G9;have RX:=CallsIn.inRound l (callsIn_wide (n:=3).2 ((Mr (R y) (A y) (C y) E (T+x.1) a.j a.c (W.setCell ⟨w.heap.size+1+1+1,1,none⟩ (.int .i64 ((T:Int)+(x.1:Int))))).mono (λe M h=>show RW R E T n x.1 a y q (A y) (C y) G z w W e M from ⟨_,_,h.1,G9.symm,Mv.symm,aH.cells (ee h.2),bo.below rfl J h.2,(h.2.block _ (af gM)).trans gM⟩)));rw [sq] at RX;clear m I O9 aH bo gM G9 Qk Mv hy hj D4 Tw fy bw lJ sq hr
   gi_wp2_with fail
   refine⟨trivial,?_⟩;refine RX.mono ?_;rintro e M ⟨b,c,rfl,G9,Mv,eY,aK,A1⟩;clear RX
  all_goals
   obtain⟨Z,k8,xU,HGo,HDc⟩:=PG eY aK A1 G9 Mv;have q0:M.cell? ⟨q,0,none⟩=some (.int .i64 ((R y).e:Int)):=aL A1;have q1:M.cell? ⟨q,1,none⟩=some (.int .i64 ((R y).p:Int)):=bY A1;have q2:M.cell? ⟨q,2,none⟩=some (.int .i64 ((R y).i:Int)):=cJ A1;have q3:M.cell? ⟨q,3,none⟩=some (.int .i64 ((R y).c:Int)):=jw A1;clear eY aK A1 G9 Mv d0 d1 d3 df p0 p1 p2 p3 p4;cases b
   .gi_wp2
    exact⟨HS.o▸k8.o.k,rfl,u,x,a,T+x.1,c,G,z,rfl,H,HGo.o.symm,Z.o,k8.o.b⟩
   .have hq:=zY.1 (HGo.o.trans (WS.o c HDc.o)).symm;have uM:=hq.1.2.2.2.2.1;have tf:=hR1 y;have DW:=Vq y;have Vr:=CallsIn.inRound l (callsIn_wide (n:=3).2 (B7 (R y).e (R y).p (R y).i (R y).c M (by omega)));have nP:=xR R E T n _ _ _ x.1 H HGo.o.symm;rw [HNx.o,<-HDc.o,show u.map Fin.val ++ [x.1]=(u ++ [x]).map Fin.val by simp] at nP;have Ql:=yh nP;clear nP hq;by_cases hi:(R y).i+1=(R y).c
    .rw [aN hi] at Ql;rw [show decide ((R y).i+1=(R y).c)=true by rw [decide_eq_true_eq];exact hi] at Vr;clear hi
     gi_wp2_with fail
     refine⟨trivial,?_⟩;refine Vr.mono ?_;rintro e O ⟨rfl,bH⟩;have aR:=k8.o.below rfl J bH;have rS:=aR.k.size;have tV:=(Z.o.cells (ee bH)).cells (ee (ah (cW O.heap.size O)));have Qm:=aR.below rfl J (ah (cW O.heap.size O));obtain⟨W4,WT⟩:=cF O.drew;have z8:W4.heap[q]? =O.heap[q]? :=(by rw [WT];rfl);rw [((bH.block _ (af xU.o)).trans xU.o)] at z8;rw [<-WT] at tV Qm;have WU:w.heap.size+6<=W4.heap.size:=(by rw [WT];show _<=O.heap.size;omega);obtain⟨g4,Mw,U,RY,Tx,A7,Aa⟩:=xS tV.rc (C y) ((hAC y hyn).2.later Qm.b) uM (by show a.rc.length+_<=_;omega) WU;have se:=tV.grow Tx A7 Aa;have wt:=A7.size;have dF:=Qm.grown rfl J A7 (λr e=>by
      obtain⟨cur,L⟩:=ay tV.rc e;exact⟨jB tV.rc e,cur,_,L⟩)
     have Pa:=tk A7 (λr e=>ay tV.rc e) z8 (by decide);obtain⟨vs,aU,Vp⟩:=se.2.2.2.2.1;have abC:a.rs.length<=1000000:=(by omega);obtain⟨g5,WV,P,Mx,Qn,Cb⟩:=Qj aU (.slice (some ⟨g4,0,none⟩) (a.rc.length+(R y).d.length) Mw) rfl abC (by omega);obtain⟨W6,Vs⟩:=cF (U.alloc (.cells #[.slice (some ⟨g4,0,none⟩) (a.rc.length+(R y).d.length) Mw] 44));have jP:fR w.heap.size w W W6:=dF.below rfl J (by rw [Vs];exact an _ _);have EW:iZ U W6:=(by rw [Vs];exact ee (an _ _));have My:=EW _ _ _ _ Pa;have Cc:=bP (W':=W6) aU (λg N=>by
      obtain⟨cur,L⟩:=ay aU N;rw [EW _ _ _ _ L,L])
     rw [<-Vs] at Mx;have Qo:W6.grownBy P G.ownBlock:=(by rw [Vs];exact Cb);have iu:=jP.grown rfl J Qo (λr e=>by
      obtain⟨cur,L⟩:=ay Cc e;exact⟨jB Cc e,cur,_,L⟩)
     have Jq:=tk Qo (λr e=>ay Cc e) My (by decide);have wQ:∀k cur t fz,k<w.heap.size+6->U.heap[k]? =some (Obj.cells cur t fz)->P.heap[k]? =some (Obj.cells cur t fz):=λk cur t fz hk hl=>(Qo.block k (af (EW _ _ _ _ hl)) (λe=>by have:=jB Cc e.symm;omega)).trans (EW _ _ _ _ hl);have A5:=tV.whole Tx A7 Aa WU aU (λi hi=>by
      obtain⟨x1,x2,x3,x4,x5,_⟩:=Vp i hi;exact⟨x1,x2,x3,x4,x5⟩) Qn uM _ Cb (T+x.1+1) ((T:Int)+(x.1:Int)+1) (by omega)
     have lN:=((((iu.set rfl (b:=w.heap.size) (by omega) (by omega) 0 (.slice (some ⟨g5,0,none⟩) (a.rs.length+1) WV)).set rfl (b:=w.heap.size+1) (by omega) (by omega) 0 (.slice none 0 0)).set rfl (b:=w.heap.size+1+1) (by omega) (by omega) 0 (.int .i64 ((T:Int)+(x.1:Int)+1))).set rfl (b:=w.heap.size+1+1+1) (by omega) (by omega) 2 (.int .i64 0));have ig:Yh (∀W':World,W'.heap[w.heap.size+1]? =some (.cells #[z] 44 (0,0))->W'.heap[q]? =some (.cells (dJ ((R y).e:Int) ((R y).p:Int) ((R y).i:Int) ((R y).c:Int) (A y) (R y).d.length (C y)) 207 (0,0))->(W'.cell? ⟨w.heap.size+1,0,none⟩=some z/\W'.cell? ⟨q,4,none⟩=some (.slice (A y) (R y).d.length (C y)))):=λW' H m=>⟨aL H,jI m⟩;obtain⟨S4,S5,S6⟩:=pJ (ig.o W4 tV.c z8) (ig.o U se.2.1 Pa) (ig.o W6 (EW _ _ _ _ se.2.1) My);have S7:=yh (ig.o P (wQ _ _ _ _ (by omega) se.2.1) Jq);have S8:=yh (ig.o (P.setCell ⟨w.heap.size,0,none⟩ (.slice (some ⟨g5,0,none⟩) (a.rs.length+1) WV)) (bk (wQ _ _ _ _ (by omega) se.2.1) (by omega)) (bk Jq (by omega)));have b4:=tV.r.cell;have b5:=se.1.cell;have b6:W6.cell? ⟨w.heap.size,0,none⟩=some G:=aL (EW _ _ _ _ se.1);have b7:P.cell? ⟨w.heap.size,0,none⟩=some G:=aL (wQ _ _ _ _ (by omega) se.1);have f7:=ae (wQ _ _ _ _ (by omega) se.1) 0;have cf7:=ae (wQ _ _ _ _ (by omega) se.2.1) 0;have d7:P.cell? ⟨w.heap.size+1+1,0,none⟩=some (.int .i64 (a.hd:Int)):=aL (wQ _ _ _ _ (by omega) se.2.2.1);have df7:P.frozen? ⟨w.heap.size+1+1,0,none⟩=false:=ae (wQ _ _ _ _ (by omega) se.2.2.1) 0;have e7:P.cell? ⟨w.heap.size+1+1+1,2,none⟩=some (.int .i64 (a.j:Int)):=cJ (wQ _ _ _ _ (by omega) (se.2.2.2.1.trans tV.d));have ef7:P.frozen? ⟨w.heap.size+1+1+1,2,none⟩=false:=ae (wQ _ _ _ _ (by omega) (se.2.2.2.1.trans tV.d)) 2;have D3:prog.follows .mixedOrders=true:=(by kernel_rfl);obtain⟨HW,Mz,HZ8,HR4,HR5,HW6,P7⟩:=V6 A5 lN (xv J lN.k.size) RY Mx Vs WT;clear bH aR Qm dF jP iu lN A5 se Tx A7 Aa Vr RY Mx Qn Cb Qo aU Cc Vp EW wQ z8 Pa My Jq tV WT Vs ig
     gi_wp2_with fail
     refine l8 (S:=λW'=>W'.cell? ⟨w.heap.size+1,0,none⟩=some z/\W'.cell? ⟨q,4,none⟩=some (.slice (A y) (R y).d.length (C y))) D3 (by kernel_rfl) ?_;rw [<-P7.o];refine wpAnyH_take (i:=1) (v:=z) rfl (by kernel_rfl) (by kernel_rfl) (by kernel_rfl) (λ_ _ _ h=>h) (Or.inl ⟨by rfl,?_⟩) S4.out ?_
     .rintro W1 ⟨y1,y2⟩;go_simp
     try simp only [Act.put,iA]
     refine wpAnyH_take (i:=2) (v:= .pointer (some ⟨q,4,none⟩)) rfl (by kernel_rfl) (by kernel_rfl) (by kernel_rfl) (λ_ _ _ h=>h) (Or.inl ⟨by rfl,?_⟩) S4.out ?_
     .rintro W1 ⟨y1,y2⟩;go_simp
     try simp only [Act.put]
     refine wpAnyH_take (i:=3) (v:= .slice (A y) (R y).d.length (C y)) rfl (by kernel_rfl) (by kernel_rfl) (by kernel_rfl) (λ_ _ _ h=>h) (Or.inl ⟨by rfl,?_⟩) S4.out ?_
     .rintro W1 ⟨y1,y2⟩;go_simp
     try simp only [Act.put]
     refine wpAnyH_ready (rs:= [0,4]) (by kernel_rfl) (by simp) (AllReadyH.cons rfl (λK f=>?_) (AllReadyH.cons rfl (λK f=>?_) AllReadyH.nil))
     .skip
      go_simp;refine f.out _ _ S4.out (λ_=>?_);clear f K;try simp only [Act.put,iA,jG,jZ]
      refine wpAnyH_ready (rs:= [4]) (by kernel_rfl) (by simp) (AllReadyH.cons rfl (λK f=>?_) AllReadyH.nil);rw [aN (by rfl)];refine cf _ _ 44 rfl _ _ _ rfl rfl HR4.o ?_;refine f.out _ _ S5.out (λ_=>?_);clear f K;try simp only [Act.put,iA]
      refine wpAnyH_ready (rs:= [5]) (by kernel_rfl) (by simp) (AllReadyH.cons rfl (λK f=>?_) AllReadyH.nil);go_simp;rw [<-HW6.o];refine f.out _ _ S6.out (λ_=>?_);clear f K;try simp only [Act.put,iA,jG,jZ]
      refine wpAnyH_ready (rs:= [6]) (by kernel_rfl) (by simp) (AllReadyH.cons rfl (λK f=>?_) AllReadyH.nil);rw [aN (by rfl)];refine cf _ _ 70 rfl _ _ _ rfl rfl HR5.o ?_;refine f.out _ _ S7.out (λ_=>?_);clear f K;try simp only [Act.put,iA]
      refine wpAnyH_ready (rs:= [7]) (by kernel_rfl) (by simp) (AllReadyH.cons rfl (λK f=>?_) AllReadyH.nil);go_simp;refine f.out _ _ S8.out (λ_=>?_);clear f K;try simp only [Act.put,iA,jG,jZ]
      refine wpAnyH_done (by kernel_rfl) ?_ _
      (gi_wp2;exact⟨HS.o▸Mz.o.k,Mz.o.p,_,_,_,Ql.o,HW.o,Mz.o.b,HZ8.o⟩)
     .skip
      rw [aN (by rfl)];refine cf _ _ 44 rfl _ _ _ rfl rfl HR4.o ?_;refine f.out _ _ S5.out (λ_=>?_);clear f K;try simp only [Act.put]
      refine wpAnyH_ready (rs:= [0,5]) (by kernel_rfl) (by simp) (AllReadyH.cons rfl (λK f=>?_) (AllReadyH.cons rfl (λK f=>?_) AllReadyH.nil))
      .skip
       go_simp;refine f.out _ _ S5.out (λ_=>?_);clear f K;try simp only [Act.put,iA,jG,jZ]
       refine wpAnyH_ready (rs:= [5]) (by kernel_rfl) (by simp) (AllReadyH.cons rfl (λK f=>?_) AllReadyH.nil);go_simp;rw [<-HW6.o];refine f.out _ _ S6.out (λ_=>?_);clear f K;try simp only [Act.put,iA,jG,jZ]
       refine wpAnyH_ready (rs:= [6]) (by kernel_rfl) (by simp) (AllReadyH.cons rfl (λK f=>?_) AllReadyH.nil);rw [aN (by rfl)];refine cf _ _ 70 rfl _ _ _ rfl rfl HR5.o ?_;refine f.out _ _ S7.out (λ_=>?_);clear f K;try simp only [Act.put,iA]
       refine wpAnyH_ready (rs:= [7]) (by kernel_rfl) (by simp) (AllReadyH.cons rfl (λK f=>?_) AllReadyH.nil);go_simp;refine f.out _ _ S8.out (λ_=>?_);clear f K;try simp only [Act.put,iA,jG,jZ]
       refine wpAnyH_done (by kernel_rfl) ?_ _
       (gi_wp2;exact⟨HS.o▸Mz.o.k,Mz.o.p,_,_,_,Ql.o,HW.o,Mz.o.b,HZ8.o⟩)
      .skip
       go_simp;rw [<-HW6.o];refine f.out _ _ S6.out (λ_=>?_);clear f K;try simp only [Act.put,iA,jG,jZ]
       refine wpAnyH_ready (rs:= [0]) (by kernel_rfl) (by simp) (AllReadyH.cons rfl (λK f=>?_) AllReadyH.nil);go_simp;refine f.out _ _ S6.out (λ_=>?_);clear f K;try simp only [Act.put,iA,jG,jZ]
       refine wpAnyH_ready (rs:= [6]) (by kernel_rfl) (by simp) (AllReadyH.cons rfl (λK f=>?_) AllReadyH.nil);rw [aN (by rfl)];refine cf _ _ 70 rfl _ _ _ rfl rfl HR5.o ?_;refine f.out _ _ S7.out (λ_=>?_);clear f K;try simp only [Act.put,iA]
       refine wpAnyH_ready (rs:= [7]) (by kernel_rfl) (by simp) (AllReadyH.cons rfl (λK f=>?_) AllReadyH.nil);go_simp;refine f.out _ _ S8.out (λ_=>?_);clear f K;try simp only [Act.put,iA,jG,jZ]
       refine wpAnyH_done (by kernel_rfl) ?_ _
       (gi_wp2;exact⟨HS.o▸Mz.o.k,Mz.o.p,_,_,_,Ql.o,HW.o,Mz.o.b,HZ8.o⟩)
    .rw [aB hi] at Ql;rw [show decide ((R y).i+1=(R y).c)=false by rw [decide_eq_false_iff_not];exact hi] at Vr;clear hi
     gi_wp2_with fail
     refine⟨trivial,?_⟩;refine Vr.mono ?_;rintro e O ⟨rfl,bH⟩;have gP:=Z.o.cells (ee bH);have aR:=k8.o.below rfl J bH;have r4:O.cell? ⟨q,4,none⟩=some (.slice (A y) (R y).d.length (C y)):=jI ((bH.block _ (af xU.o)).trans xU.o);have r9:=gP.c.cell;have rS:=aR.k.size;obtain⟨g4,Mw,U,ct,Tx,A7,Aa⟩:=xS gP.rc (C y) ((hAC y hyn).2.later aR.b) uM (by show a.rc.length+_<=_;omega) (by omega);have se:=gP.grow Tx A7 Aa;have s9:=se.2.1.cell;have f9:=se.2.1.frozen;have s11:U.cell? ⟨w.heap.size+1+1+1,2,none⟩=some (.int .i64 (a.j:Int)):=cJ (se.2.2.2.1.trans gP.d);have f11:U.frozen? ⟨w.heap.size+1+1+1,2,none⟩=false:=ae (se.2.2.2.1.trans gP.d) 2;have hmo:=gP.more Tx A7 Aa ((a.j:Int)+1) (by show _=((a.j+1:Nat):Int);omega);have dF:=aR.grown rfl J A7 (λr e=>by
      obtain⟨cur,L⟩:=ay gP.rc e;exact⟨jB gP.rc e,cur,_,L⟩)
     have cB:=(dF.set rfl (b:=w.heap.size+1) (by omega) (by omega) 0 (.slice (some ⟨g4,0,none⟩) (a.rc.length+(R y).d.length) Mw)).set rfl (b:=w.heap.size+1+1+1) (by omega) (by omega) 2 (.int .i64 ((a.j:Int)+1));have ZZ:(a.j:Int)<1000000:=(by omega);have Ty:w.heap.size+6<=((U.setCell ⟨w.heap.size+1,0,none⟩ (.slice (some ⟨g4,0,none⟩) (a.rc.length+(R y).d.length) Mw)).setCell ⟨w.heap.size+1+1+1,2,none⟩ (.int .i64 ((a.j:Int)+1))).heap.size:=(by have:=cB.k.size;omega);obtain⟨HM,G0,Z0,ss⟩:=PF hmo cB Ty ct;clear bH gP aR dF cB hmo se Tx A7 Aa Vr ct Ty
     gi_wp2_with (gi_at_builtin;refine o9 rfl _ _ 44 rfl _ _ _ rfl rfl ss.o ?_)
     exact⟨HS.o▸G0.o.k,G0.o.p,_,_,_,Ql.o,HM.o,G0.o.b,Z0.o⟩
 case done=>
  rintro D xs W hD wR ⟨a,G,z,H,m,I,J⟩ oc;have q1:=m.r.cell;have q2:W.cell? ⟨w.heap.size+1+1,0,none⟩=some (.int .i64 (a.hd:Int)):=m.h.cell;have D3:prog.follows .mixedOrders=true:=by kernel_rfl
  have ht:=Jj R E T n oI a (by rw [<-wR];exact H);have HZ:=yh (Ca m.rs (by omega) I oc (by omega) ht);clear m I J H ht wR
  gi_wp2
  refine xT ?_
  gi_region_with_o (fail)
  all_goals
   gi_wp2
   rw [Exit.noGoto_ret];refine⟨by simp, .inl ⟨_,_,rfl,run_takeDeferred oc,?_⟩⟩;refine⟨_,results_tmp2 rfl _ _ _,?_⟩;simp only [Act.put,List.getElem_toArray,List.getElem_cons_zero,List.getElem_cons_succ,iA,jG,jZ];exact HZ.o
 case stop=>
  rintro D c u W hD ⟨k,hk,lM⟩ ⟨rfl,Mu,x,a,ps,c',G,z,h0,H,G9,m,I⟩ oc;have q1:=m.r.cell;have q2:W.cell? ⟨w.heap.size+1+1,0,none⟩=some (.int .i64 (a.hd:Int)):=m.h.cell;have D3:prog.follows .mixedOrders=true:=by kernel_rfl
  have ht:dI (Rp R n) E T a.rs a.hd/\∀c d,¬Rec (Rp R n) E a.hd c d:=by
   subst h0;obtain⟨gM,A1⟩:=lM.split;exact Ji R E T n k a (by rw [<-gM];exact H) (by rw [<-A1];exact G9)
  have HZ:=yh (Ca m.rs (by omega) I oc (by omega) ht);clear m I H ht lM h0 G9
  gi_wp2
  refine xT ?_
  gi_region_with_o (fail)
  all_goals
   gi_wp2
   rw [Exit.noGoto_ret];refine⟨by simp, .inl ⟨_,_,rfl,run_takeDeferred oc,?_⟩⟩;refine⟨_,results_tmp2 rfl _ _ _,?_⟩;simp only [Act.put,List.getElem_toArray,List.getElem_cons_zero,List.getElem_cons_succ,iA,jG,jZ];exact HZ.o
end
section
def fI (S:DS) (f:Nat):Nat->PC:=λi=>jM (S.now (f+2+i))
def bG (S:DS) (f:Nat):Nat×Nat×Nat:=gQ (S.now f) (S.now (f+1))
def iC (S:DS) (f n:Nat):Nat:=max (bG S f).1 (jz (fI S f) n)
def ui {S:DS} (h:(bG S f).2.2=0):1<=(bG S f).1/\(bG S f).1<=1073741824/\(bG S f).2.1<=1073741824:=by
 unfold bG gQ at*;split at h
 .cases h
 .rename_i a;rw [aB a];refine⟨?_,?_,?_⟩<;> simp only <;> omega
def Ha {S:DS} (h:(bG S f).2.2=0):iC S f n<=1073741824:=by
 unfold iC;have:=ui h;have:=zU (fI S f) n;omega
structure Told (w':World) (B l p:Nat) (L:LG) (S:DS) (v:Value) (rs:List (List Int)) (hd:Nat):Prop where
 r:eh w' B v rs (λ_=>False)
 t:dI (Rp (fI S L.f) L.n) (bG S L.f).1 (bG S L.f).2.1 rs hd
 x:∀c d,¬Rec (Rp (fI S L.f) L.n) (bG S L.f).1 hd c d
 p:bO w' l p {L with ep:=(bG S L.f).1,tail:=(bG S L.f).2.1,head:=hd,top:=iC S L.f L.n}
def od (w':World) (B l p:Nat) (L:LG) (S:DS) (e:Ending):Prop:=
 if (bG S L.f).2.2≠0 then e= .returned (.tuple #[.slice none 0 0,iV ((bG S L.f).2.2:Int)])
 else if iC S L.f L.n=1073741824 then e= .returned (.tuple #[.slice none 0 0,iV 41])
 else∃v rs hd,e= .returned (.tuple #[v,iV 0])/\Told w' B l p L S v rs hd
def bO.Tz {w:World} {l p:Nat} {L:LG} (h:bO w l p L) (T:Int) (n:Nat) (a:T=(n:Int)):bO (w.setCell ⟨l,8,none⟩ (.int .i64 T)) l p {L with top:=n}:=by
 subst a;exact(heap_setCell_same _ _ 8 _ _ _ h).trans (by simp)
def bO.marked {w:World} {l p:Nat} {L:LG} (h:bO w l p L) (E T H:Nat):bO (((w.setCell ⟨l,5,none⟩ (.int .i64 (E:Int))).setCell ⟨l,6,none⟩ (.int .i64 (T:Int))).setCell ⟨l,7,none⟩ (.int .i64 (H:Int))) l p {L with ep:=E,tail:=T,head:=H}:=
   (heap_setCell_same _ _ 7 _ _ _ (heap_setCell_same _ _ 6 _ _ _ (heap_setCell_same _ _ 5 _ _ _ h))).trans (by simp)
section
variable {w:World} {F:Nat->Prop} {p s l:Nat} {S:DS} {L:LG}
end
end
section
def bU (S:DS) (s:Nat) (f n:Int):Int×DS:=
 if cP S s f n≠0 then (cP S s f n,S) else if (bG S f.toNat).2.2≠0 then (((bG S f.toNat).2.2:Int),S.take)
 else if iC S f.toNat n.toNat=1073741824 then (41,S.take) else S.take.fl s
def LG.new (S:DS) (f n:Nat):LG:=⟨f,n,wrap64 (S.life+1),false,0,0,0,0⟩
def EX (w w':World) (p s:Nat) (S:DS) (f n:Int) (e:Ending):Prop:=
 if (bU S s f n).1≠0 then e= .returned (.tuple #[.pointer none, .slice none 0 0,iV (bU S s f n).1])
 else∃l v rs hd,e= .returned (.tuple #[pQ l,v,iV 0])/\w.heap.size<=l/\Told w' w.heap.size l p (LG.new S f.toNat n.toNat) S v rs hd
def Told.low {w:World} {B l p:Nat} {L:LG} {S:DS} (h:Told w B l p L S v rs hd) (a:B'<=B):Told w B' l p L S v rs hd:=⟨h.r.low a (λ_ h=>h),h.t,h.x,h.p⟩
def Told.ak {w:World} {B l p:Nat} {L:LG} {S:DS} {F:Nat->Prop} (h:Told w B l p L S v rs hd) (d:ad F w w') (f:∀k,F k->k<B) (s:¬F l):Told w' B l p L S v rs hd:=by
 refine⟨?_,h.t,h.x,h.p.ak d s⟩;obtain⟨y,a,n⟩:=h.r;refine⟨y,bP a (λg j=>?_),λi hi=>?_⟩
 .obtain⟨cur,q⟩:=ay a j;exact d.block g (af q) (λb=>by have:=jB a j;have:=f _ b;omega)
 .obtain⟨g,c,e,m,o,u⟩:=n i hi;exact⟨g,c,e,m.agree (d.block g m.lt (λb=>by have:=f _ b;omega)),o,u⟩
section
variable {w:World} {F:Nat->Prop} {p s:Nat} {S:DS}
def Told.TA {w:World} {B l p:Nat} {L:LG} (h:Told w B l p L S.take v rs hd):Told w B l p L S v rs hd:=⟨h.r,h.t,h.x,h.p⟩
def od.TA {B l a b:Nat} {e:Ending} (h:od w' B l p (LG.new S a b) S.take e):if (bG S a).2.2≠0 then e= .returned (.tuple #[.slice none 0 0,iV ((bG S a).2.2:Int)])
 else if iC S a b=1073741824 then e= .returned (.tuple #[.slice none 0 0,iV 41])
 else∃v rs hd,e= .returned (.tuple #[v,iV 0])/\Told w' B l p (LG.new S a b) S v rs hd:=by
 unfold od at h;change if (bG S a).2.2≠0 then e= .returned (.tuple #[.slice none 0 0,iV ((bG S a).2.2:Int)])
  else if iC S a b=1073741824 then e= .returned (.tuple #[.slice none 0 0,iV 41])
  else∃v rs hd,e= .returned (.tuple #[v,iV 0])/\Told w' B l p (LG.new S a b) S.take v rs hd at h
 split at h
 .rename_i c;rw [aN c];exact h
 .rename_i c;rw [aB c];split at h
  .rename_i d;rw [aN d];exact h
  .rename_i d;rw [aB d];obtain⟨v,rs,hd,e,f⟩:=h;exact⟨v,rs,hd,e,f.TA⟩
end
end
section
open Go.RowKit Go.Shelf
attribute [local go_sem] Oper.semAt_some
def su (b c:Nat) (W W':World):Prop:=W'.heap[b]? =W.heap[b]?/\W'.heap[c]? =W.heap[c]?
def su.t {b:Nat} {B:World} (h:su b c A B) (k:su b c B C):su b c A C:=⟨k.1.trans h.1,k.2.trans h.2⟩
def su.b {b:Nat} (g:b<w.heap.size) (i:c<w.heap.size) (W:World) (l:Nat) (o e:Obj) (j:w.heap.size<=l) (f:W.heap[l]? =some o) (a:o.isCells=false) (d:o.isWalk=false):su b c W (W.putObj l e):=
   ⟨World.putObj_heap_other (by omega),World.putObj_heap_other (by omega)⟩
def su.refl (b c:Nat) (W:World):su b c W W:=⟨rfl,rfl⟩
def Jr (a:Option Addr) (n c:Nat) (w:World):
  Calls prog 172 #[.slice a n c,iV 492] w λe w'=>e= .returned (.func (.func 191) #[] #[pQ w.heap.size, .pointer (some ⟨w.heap.size+1,0,none⟩)])/\w'=(w.alloc (.cells #[.slice a n c] 44)).alloc (.cells #[.int .i64 492] 3):=by
 go_in;go_wp2;go_ret;exact⟨rfl,rfl⟩
def kH (n k:Nat):Nat:=min 492 (n-492*k)
def Qp (b o n q:Nat) (x:Fin q):Array Value:= #[.slice (some ⟨b,o+492*x.1,none⟩) (kH n x.1) (kH n x.1)]
set_option maxRecDepth 100000 in
def Js (m:Nat) (R:1<=m) (l f d b o n c q:Nat) (Me:1<=n) (S:n<=8364) (P:n<=c) (K:q=(n+491) / 492) (J u:List (Fin q)->World->Prop)
    (y:∀a (x:Fin q) W,J a W->a.length<q->YieldAt Fence.wide (m-1) prog l (Qp b o n q x) W λe W'=>
     (e= .returned (.bool true)/\J (a ++ [x]) W'/\su f d W W')\/(e= .returned (.bool false)/\u (a ++ [x]) W'))
    (W:World) (EU:W.heap[f]? =some (.cells #[.slice (some ⟨b,o,none⟩) n c] 44 (0,0))) (MA:W.heap[d]? =some (.cells #[.int .i64 492] 3 (0,0))) (w:AbidesFrom W.heap.size J) (h0:J [] W):
  CallsIn Fence.wide m prog 191 #[.func (.yield l) #[] #[],pQ f,pQ d] W λe W'=>(∃v,e= .returned v)/\
     ((∃ys,qY ys q/\J ys W')\/(∃a,(∃k,k<q/\qY a (k+1))/\u a W')):=by
 have L:n<=492*q/\492*q<n+492:=by omega
 clear K;refine callsIn_of_wp func191 rfl trivial ?_ rfl;simp only [ntmps191,List.size_toArray,List.length_cons,List.length_nil,Nat.reduceAdd,Nat.reduceSub,Array.replicate_succ,Array.replicate_zero,List.push_toArray,List.append_toArray,List.nil_append,List.cons_append]
 gi_wp2
 gi_loopw [4] (λi wr=>∃(k:Nat) (a:List (Fin q)),k<=q/\i=iV ((492*k:Nat):Int)/\qY a k/\J a wr/\su f d W wr)
    (λi _=>492*q-(intOf i).toNat)
 case atStart=>exact⟨0, [],iq _,rfl,qY.nil,h0,su.refl _ _ _⟩
 case round=>
  obtain⟨k,a,Q,rfl,lM,O8,dR⟩:=hrel;have A:=lM.length;have gV:=aL (dR.1.trans EU);have gM:=aL (dR.2.trans MA);by_cases aS:k<q
  .have WY:=w a wr wr.drew none O8 ⟨rfl,rfl,rfl,di _,λ_ _ _=>rfl⟩ (λr e=>by cases e);obtain⟨O,D,g,body,p,Tv⟩:=y a ⟨k,aS⟩ wr.drew WY (by omega);have D3:prog.follows .mixedOrders=true:=by kernel_rfl
   dsimp only [Qp] at p
   have DW:kH n k=min 492 (n-492*k):=rfl;obtain⟨I,j⟩:=cF (492*k);rw [<-j] at p DW⊢;have G:I<n:=(by omega);obtain⟨z,C⟩:=cF (kH n k);rw [<-C] at p DW;have S9:min (492:Int) ((n-I:Nat):Int)=(z:Int):=(by omega);have Vt:((I:Int)+(z:Int)).toNat-I=z:=(by omega);have cH:(I:Int)<(n:Int):=(by omega);have F:(I:Int)<(c:Int):=(by omega);have M:(I:Int)+(z:Int)<=(n:Int):=(by omega);have eR:(1:Int)<=(z:Int):=(by omega);have s:=yh j;clear j C DW;have TB:=qa Tv;have E:=yh dR;have MB:=yh lM;clear Tv y O8 WY dR w lM
   gi_wp2
   gi_region_with_o (fail)
   all_goals
    gi_wp2_with fail
    refine TB.mono ?_;rintro e N ⟨r,rfl,cI,eB⟩;obtain⟨RV,Jk⟩:=eA cI eB;clear cI eB;cases r
    .gi_wp2
     refine bodyPost_ret (results_none rfl _ _ _) rfl ?_;exact⟨⟨_,rfl⟩, .inr ⟨_,⟨k,aS,MB.o.snoc aS⟩,Jk.o (by simp)⟩⟩
    .have aR:=E.o.t (su.t (B:=wr.drew) ⟨rfl,rfl⟩ (RV.o rfl).2);have nL:=aL (aR.2.trans MA);have nV:=yh aR;clear aR
     gi_wp2
     go_roundw;case rel=>exact⟨k+1,_,by omega,by rw [s.o];go_num,MB.o.snoc aS,(RV.o (by simp)).1,nV.o⟩
     case measure=>have:=s.o;simp [intOf];omega
  .have TC:=yh (show k=q by omega);have H:¬((492*k:Nat):Int)<(n:Int):=by omega
   gi_wp2
   go_end0
   exact⟨⟨_,rfl⟩, .inl ⟨a,(by rw [TC.out] at lM;exact lM),O8⟩⟩
def Cd (m:Nat) (r:1<=m) (d a b o n c q:Nat) (Me:1<=n) (s:n<=8364) (p:n<=c) (t:q=(n+491) / 492) (w:World)
    (EU:w.heap[d]? =some (.cells #[.slice (some ⟨b,o,none⟩) n c] 44 (0,0))) (MA:w.heap[a]? =some (.cells #[.int .i64 492] 3 (0,0))):
  SeqStopsK Fence.wide m prog 191 #[pQ d,pQ a] (Qp b o n q) (su d a) (λu=>qY u q) (λe=>∃k,k<q/\qY e (k+1)) q w:=
 λl J g W f i _ j h0=>Js m r l d a b o n c q Me s p t J g j W ((f.block _ (af EU)).trans EU) ((f.block _ (af MA)).trans MA) i h0
def Z1 (w:World) (k:Nat):Prop:=∃cur t fz,w.heap[k]? =some (Obj.cells cur t fz)
def ec.narrow {w:World} {F G:Nat->Prop} {a:Nat} (b:∀k,F k->Z1 w k->G k):∀{xs:List Value} {d:List (List Int)},ec w F a xs d->ec w G a xs d
 | [], [],_=>trivial
 |_ :: _,_ :: _,⟨⟨g,c,h1,h2,h3,h4⟩,h5⟩=>⟨⟨g,c,h1,b g h2 (by obtain⟨cur,e,_⟩:=h4;exact⟨cur,_,_,e⟩),h3,h4⟩,ec.narrow b h5⟩
 | [],_ :: _,h=>h.elim
 |_ :: _, [],h=>h.elim
def fg.narrow {m:Nat} (h:fg w F p s S m) (b:∀k,F k->(Z1 w k\/k=m)->G k) (v:∀k,G k->k<w.heap.size):fg w G p s S m:=by
 obtain⟨o,l,D,q,n,d,c,e,x,i,j,r,a,t⟩:=h;refine⟨o,l,D,q,n,b _ d (.inl ⟨_,_,_,i⟩),b _ c (.inl (by obtain⟨cur,f,_⟩:=j;exact⟨cur,_,_,f⟩)),b _ e (.inr rfl),v,i,j,r,⟨a.keys,a.Be,a.look,λk g=>?_,a.inj⟩,t⟩;obtain⟨d,xs,c,e⟩:=a.row k g;exact⟨b _ d (.inl (by obtain⟨cur,f,_⟩:=c;exact⟨cur,_,_,f⟩)),xs,c,e.narrow (λk g u=>b k g (.inl u))⟩
def bh.fm {m:Nat} (h:bh w F p s S m):F m:=by
 obtain⟨r,c,a,D,d,b,h⟩:=h;exact h.fm
def FC (F:Nat->Prop) (B m:Nat) (w:World) (k:Nat):Prop:=(F k\/B<=k)/\(Z1 w k\/k=m)/\k<w.heap.size
end
section
def eH {b:Func} {p:Tmp} (h:b.results= #[.cell p 39]) (a:Array Value) (w:World) (g:Nat) (v:Int)
    (d:a.getD p undef=pQ g) (e:w.cell? (aD g 0)=some (iV v)):(results b a).run prog w= .ok (iV v) w:=by
 have SV:a[p]?.getD undef=pQ g:=by simpa using d
 have c:(loadVar 39 (aD g 0)).run prog w= .ok (iV v) w:=by simp [go_sem,e]
 simp [results,h,SV,asAddr,c]
def partOf (d:List Int) (k:Nat):List Int:=(d.drop (492*k)).take 492
def bI (x:Nat):Nat:=(x+491) / 492
def ei (L:LG) (S:DS) (s:Nat) (d:List Int) (k:Nat):Int×DS:=bK S (λj T=>jN T s L.f L.n L.ep (L.head+j) j (bI d.length) (partOf d j)) k
def LG.gd (L:LG) (S:DS) (x:Nat):Int:=
 if L.aX S≠0 then L.aX S else if x=0 then 2 else if 8364<x then 7 else if 1073741824<L.head+bI x then 41 else if L.tail+L.n<L.head+bI x then 40 else 0
def LG.append (L:LG) (S:DS) (s:Nat) (d:List Int):Int×DS×LG:=
 if L.gd S d.length≠0 then (L.gd S d.length,S,L)
 else if (ei L S s d (bI d.length)).1≠0 then ((ei L S s d (bI d.length)).1,(ei L S s d (bI d.length)).2,L)
 else (0,(ei L S s d (bI d.length)).2,{L with head:=L.head+bI d.length})
section
variable {w:World} {F:Nat->Prop} {p s l:Nat} {S:DS} {L:LG}
def fB (W:World) (b l:Nat):Prop:=W.heap[b]? =some (.cells #[.pointer (some ⟨l,0,none⟩)] 90 (0,0))/\W.heap[b+1]? =some (.cells #[.int .i64 0] 39 (0,0))
def fB.err {b l:Nat} (h:fB W b l) (v:Int):(W.setCell ⟨b+1,0,none⟩ (.int .i64 v)).cell? ⟨b+1,0,none⟩=some (iV v):=
 aa (cur:= #[iV v]) (e:=39) ((heap_setCell_same _ _ 0 _ _ _ h.2).trans (by simp)) (j:=0) rfl
def fB.later {b l:Nat} (h:fB W b l) (a:bW W W'):fB W' b l:=⟨(a.block _ (af h.1)).trans h.1,(a.block _ (af h.2)).trans h.2⟩
def Jt (h:aj w F p s S) (J:bO w l p L) (I:L.Ok s) (a:Option Addr) (x k:Nat) (A:x<=140737488355328) (b:L.gd S x≠0):
  Calls prog 150 #[pQ l, .slice a x k] w λe w'=>e= .returned (iV (L.gd S x))/\bW w w':=by
 obtain⟨M,EV⟩:=zEr ((w.alloc (.cells #[.pointer (some ⟨l,0,none⟩)] 90)).alloc (.cells #[.int .i64 0] 39));have lJ:bW w M:=by rw [<-EV];exact fk _ _ _
 have s7:fB M w.heap.size l:=by
  rw [<-EV];refine⟨(Below.heap_alloc _ _ _ (by simp)).trans (heap_alloc_new _ _),?_⟩;have:=heap_alloc_new (w.alloc (.cells #[.pointer (some ⟨l,0,none⟩)] 90)) (.cells #[.int .i64 0] 39);rwa [World.size_alloc] at this
 obtain⟨d,t,r,c,q,D0,N⟩:=wG (ib (h.later lJ) (J.later lJ)) (yh EV) (yh s7) (yh lJ) (yh (J.later lJ)) I.hi (yh I);unfold LG.gd at b⊢;clear h J lJ s7 EV I;by_cases j:L.aX S=0
 .simp only [aB (λh:¬L.aX S=0=>h j)] at b⊢;rw [j] at d;clear j;by_cases D:x=0
  .simp only [aN D];have P:((x:Int) == 0)=true:=(by rw [beq_iff_eq];omega);clear b D;go_in;go_wp2_with fail;rw [t.o];refine ef d λw1 aq=>?_;have lj:=fB.later r.o aq;have v:w1.cell? (aD w.heap.size 0)=some (pQ l):=aL lj.1;have y:w1.cell? ⟨w.heap.size+1,0,none⟩=some (iV 0):=aL lj.2;have z:=ae lj.2 0;have dD:=q.o.later aq;have aH:=c.o.trans (aq.mono c.o.size);clear d aq;go_wp2_with fail;refine((λi=>gF x i A) _).mono ?_;rintro e m ⟨rfl,ed⟩;have kB:=ed.symm;subst kB;clear ed;obtain⟨g,f⟩:=eA (aH.setCell (p:=⟨w.heap.size+1,0,none⟩) (by show _<=w.heap.size+1;omega) (iV 2)) (show (w1.setCell ⟨w.heap.size+1,0,none⟩ (.int .i64 2)).cell? ⟨w.heap.size+1,0,none⟩=some (iV 2) from lj.err _);clear aH lj dD;go_wp2_with fail;exact bodyPost_ret (eH rfl _ _ (w.heap.size+1) _ rfl f.o) rfl ⟨rfl,g.o⟩
  .simp only [aB D] at b⊢;have P:((x:Int) == 0)=false:=(by rw [oE];omega);clear D;by_cases E:8364<x
   .simp only [aN E];have Q:(8364:Int)<(x:Int):=(by omega);clear b E;go_in;go_wp2_with fail;rw [t.o];refine ef d λw1 aq=>?_;have lj:=fB.later r.o aq;have v:w1.cell? (aD w.heap.size 0)=some (pQ l):=aL lj.1;have y:w1.cell? ⟨w.heap.size+1,0,none⟩=some (iV 0):=aL lj.2;have z:=ae lj.2 0;have dD:=q.o.later aq;have aH:=c.o.trans (aq.mono c.o.size);clear d aq;go_wp2_with fail;refine((λi=>gF x i A) _).mono ?_;rintro e m ⟨rfl,ed⟩;have kB:=ed.symm;subst kB;clear ed;obtain⟨g,f⟩:=eA (aH.setCell (p:=⟨w.heap.size+1,0,none⟩) (by show _<=w.heap.size+1;omega) (iV 7)) (show (w1.setCell ⟨w.heap.size+1,0,none⟩ (.int .i64 7)).cell? ⟨w.heap.size+1,0,none⟩=some (iV 7) from lj.err _);clear aH lj dD;go_wp2_with fail;exact bodyPost_ret (eH rfl _ _ (w.heap.size+1) _ rfl f.o) rfl ⟨rfl,g.o⟩
   .simp only [aB E] at b⊢;have Q:¬(8364:Int)<(x:Int):=(by omega);clear E;have xV:bI x=(x+491) / 492:=rfl;by_cases G:1073741824<L.head+bI x
    .simp only [aN G];clear b;obtain⟨C,u⟩:=cF ((x+491) / 492);have Qq:C<=17:=(by omega);have R:(1073741824:Int)<(L.head:Int)+(C:Int):=(by omega);have H:=yh u;clear G xV u;go_in;go_wp2_with fail;rw [t.o];refine ef d λw1 aq=>?_;have lj:=fB.later r.o aq;have v:w1.cell? (aD w.heap.size 0)=some (pQ l):=aL lj.1;have y:w1.cell? ⟨w.heap.size+1,0,none⟩=some (iV 0):=aL lj.2;have z:=ae lj.2 0;have aH:=c.o.trans (aq.mono c.o.size);have O:=(q.o.later aq).c7;clear d aq;go_wp2_with fail;refine((λi=>gF x i A) _).mono ?_;rintro e m ⟨rfl,ed⟩;have kB:=ed.symm;subst kB;clear ed;rw [<-H.o];obtain⟨g,f⟩:=eA (aH.setCell (p:=⟨w.heap.size+1,0,none⟩) (by show _<=w.heap.size+1;omega) (iV 41)) (show (w1.setCell ⟨w.heap.size+1,0,none⟩ (.int .i64 41)).cell? ⟨w.heap.size+1,0,none⟩=some (iV 41) from lj.err _);clear aH lj;go_wp2_with fail;exact bodyPost_ret (eH rfl _ _ (w.heap.size+1) _ rfl f.o) rfl ⟨rfl,g.o⟩
    .simp only [aB G] at b⊢;by_cases K:L.tail+L.n<L.head+bI x
     .simp only [aN K];clear b;obtain⟨C,u⟩:=cF ((x+491) / 492);have Qq:C<=17:=(by omega);have R:¬(1073741824:Int)<(L.head:Int)+(C:Int):=(by omega);have W:(L.n:Int)-((L.head:Int)-(L.tail:Int))<(C:Int):=(by omega);have H:=yh u;clear G K xV u;go_in;go_wp2_with fail;rw [t.o];refine ef d λw1 aq=>?_;have lj:=fB.later r.o aq;have v:w1.cell? (aD w.heap.size 0)=some (pQ l):=aL lj.1;have y:w1.cell? ⟨w.heap.size+1,0,none⟩=some (iV 0):=aL lj.2;have z:=ae lj.2 0;have dD:=q.o.later aq;have aH:=c.o.trans (aq.mono c.o.size);have O:=dD.c7;clear d aq;go_wp2_with fail;refine((λi=>gF x i A) _).mono ?_;rintro e m ⟨rfl,ed⟩;have kB:=ed.symm;subst kB;clear ed;rw [<-H.o];obtain⟨ew,MC⟩:=eA aH lj;clear aH lj;go_wp2_with fail;refine(u6 dD N.o).mono ?_;rintro e m ⟨rfl,aG⟩;have xI:=fB.later MC.o aG;have eY:=ew.o.trans (aG.mono ew.o.size);have T:m.cell? ⟨w.heap.size+1,0,none⟩=some (iV 0):=aL xI.2;have X:=ae xI.2 0;clear aG;obtain⟨g,f⟩:=eA (eY.setCell (p:=⟨w.heap.size+1,0,none⟩) (by show _<=w.heap.size+1;omega) (iV 40)) (show (m.setCell ⟨w.heap.size+1,0,none⟩ (.int .i64 40)).cell? ⟨w.heap.size+1,0,none⟩=some (iV 40) from xI.err _);clear eY xI dD;go_wp2_with fail;exact bodyPost_ret (eH rfl _ _ (w.heap.size+1) _ rfl f.o) rfl ⟨rfl,g.o⟩
     .exact absurd (aB K) b
 .simp only [aN (λh=>j h:¬L.aX S=0)];have U:(L.aX S == 0)=false:=by rw [oE];exact j
  clear b j;go_in;go_wp2_with fail;rw [t.o];refine ef d λw1 aq=>?_;have lj:=fB.later r.o aq;have v:w1.cell? (aD w.heap.size 0)=some (pQ l):=aL lj.1;have y:w1.cell? ⟨w.heap.size+1,0,none⟩=some (iV 0):=aL lj.2;have z:=ae lj.2 0;have dD:=q.o.later aq;obtain⟨g,f⟩:=eA ((c.o.trans (aq.mono c.o.size)).setCell (p:=⟨w.heap.size+1,0,none⟩) (by show _<=w.heap.size+1;omega) (iV (L.aX S))) (show (w1.setCell ⟨w.heap.size+1,0,none⟩ (.int .i64 (L.aX S))).cell? ⟨w.heap.size+1,0,none⟩=some (iV (L.aX S)) from lj.err _);clear lj dD;go_wp2_with fail;exact bodyPost_ret (eH rfl _ _ (w.heap.size+1) _ rfl f.o) rfl ⟨rfl,g.o⟩
end
end
section
def lO {S:DS} {g a:Nat->DS->Int×DS}:∀k,(∀j T,j<k->g j T=a j T)->bK S g k=bK S a k
 |0,_=>rfl
 |k+1,h=>by
  rw [bK,bK,lO (S:=S) k (λj T b=>h j T (by omega)),h k _ (by omega)]
def pb (L:LG) (S:DS) (s:Nat) (d:List Int) (xs:List Nat):Int×DS:=bK S (λj T=>jN T s L.f L.n L.ep (L.head+j) j (bI d.length) (partOf d (xs.getD j 0))) xs.length
def Ju {L:LG} {S:DS} {s:Nat} {d:List Int} {xs:List Nat} (x:Nat) (h:(pb L S s d xs).1=0):
  pb L S s d (xs ++ [x])=jN (pb L S s d xs).2 s L.f L.n L.ep (L.head+xs.length) xs.length (bI d.length) (partOf d x):=by
 have e:bK S (λj T=>jN T s L.f L.n L.ep (L.head+j) j (bI d.length) (partOf d ((xs ++ [x]).getD j 0))) xs.length=pb L S s d xs:=by
  unfold pb;refine lO _ (λj T a=>?_);rw [show (xs ++ [x]).getD j 0=xs.getD j 0 by simp [ZG a]]
 unfold pb at*;rw [gT,List.length_singleton,kF (by rw [e];exact h),e];simp
def vg {L:LG} {S:DS} {s:Nat} {d:List Int} (k:Nat):pb L S s d (List.range k)=ei L S s d k:=by
 unfold pb ei;rw [List.length_range];refine lO _ (λj T a=>?_);rw [show (List.range k).getD j 0=j by simp [a]]
def xW (S:DS) (s f n E P i c:Nat) (l:List Int):(jN S s f n E P i c l).2.puts.length<=S.puts.length+1:=by
 unfold jN;split
 .simp
 .exact jL _ _ _ _ _
def Jv (L:LG) (S:DS) (s:Nat) (d:List Int) (xs:List Nat):(pb L S s d xs).2.puts.length<=S.puts.length+xs.length:=mL (λ_ _=>xW _ _ _ _ _ _ _ _ _) _
def ad.grown {w W W':World} {F:Nat->Prop} {row:Option Nat} (h:ad F w W) (a:W.grownBy W' row) (d:∀r,row=some r->w.heap.size<=r):ad F w W':=
 h.trans (G:=λk=>some k=row) ⟨a.os,a.tape,a.output,a.size,λk b c=>a.block k b c⟩ (λk b=> .inr (d k b.symm))
section
variable {w W W':World} {F:Nat->Prop} {l p s m M n0:Nat} {L:LG} {S:DS} {d:List Int} {xs:List Nat}
end
end
section
open Go.RowKit Go.Shelf
attribute [local go_sem] Oper.semAt_some
def Src.sub {w:World} {b o:Nat} {l:List Int} (h:Src w (some (aD b o)) n l) (i k:Nat) (g:i+k<=n):Src w (some ⟨b,o+i,none⟩) k ((l.drop i).take k):=by
 have j:=h.1;refine⟨by simp;omega,by simp,?_⟩;intro z f t e;cases f;have h0:=h.2.2 _ rfl (i+t) (by omega);have c:(Addr.add (aD b o) (i+t))=Addr.add ⟨b,o+i,none⟩ t:=by
  unfold Addr.add;by_cases d:i+t=0
  .obtain⟨rfl,rfl⟩:i=0/\t=0:=(by omega);simp
  .by_cases a:t=0
   .subst a;rw [aB d,aN rfl];rfl
   .simp [a,Nat.add_assoc]
 rw [c] at h0;rw [h0];congr 2;simp [List.getD,e]
def AW {w:World} {F:Nat->Prop} {a m:Nat} (b:∀j,F j->j<w.heap.size) (c:w.heap.size<=k) (d:k<a):¬FC F a m W k:=λh=>by
 rcases h.1 with h|h
 .have:=b k h;omega
 .omega
def Ab (h:Bytes d) (k:Nat):Bytes (partOf d k):=λv a=>h v (List.mem_of_mem_drop (List.mem_of_mem_take a))
section
variable {w:World} {F:Nat->Prop} {p s l:Nat} {S:DS} {L:LG}
def mN {x:Nat} (h:L.gd S x=0):L.aX S=0/\1<=x/\x<=8364/\L.head+bI x<=1073741824/\L.head+bI x<=L.tail+L.n:=by
 unfold LG.gd at h;split at h
 .exact absurd h (by assumption)
 .rename_i h0;split at h
  .omega
  .split at h
   .omega
   .split at h
    .omega
    .split at h
     .omega
     .refine⟨by omega,by omega,by omega,by omega,by omega⟩
end
end
def ax (S:DS) (s home:Nat):CM->Int×DS
 | []=>(0,S)
 |q :: qs=>if (S.wr s ((home+q.1:Nat):Int) 512 q.2).1≠0 then S.wr s ((home+q.1:Nat):Int) 512 q.2 else ax (S.wr s ((home+q.1:Nat):Int) 512 q.2).2 s home qs
structure LY where
 log:Nat
 home:Nat
 blocks:Nat
 nodes:Nat
 data:Nat
structure SG where
 y:LY
 L:LG
 ov:CM
 busy:Bool
structure TG where
 puts:CM
 bad:Int
 ended : Bool
def SG.check (G:SG) (S:DS) (s:Nat):Int×DS×SG:=
 if (G.L.sync S s).1≠0 then ((G.L.sync S s).1,(G.L.sync S s).2,G) else
 if (ax (G.L.sync S s).2 s G.y.home G.ov).1≠0 then ((ax (G.L.sync S s).2 s G.y.home G.ov).1,(ax (G.L.sync S s).2 s G.y.home G.ov).2,G) else
 if (G.L.trim (ax (G.L.sync S s).2 s G.y.home G.ov).2 s).1≠0 then ((G.L.trim (ax (G.L.sync S s).2 s G.y.home G.ov).2 s).1,(G.L.trim (ax (G.L.sync S s).2 s G.y.home G.ov).2 s).2.1,{G with L:=(G.L.trim (ax (G.L.sync S s).2 s G.y.home G.ov).2 s).2.2})
 else (0,(G.L.trim (ax (G.L.sync S s).2 s G.y.home G.ov).2 s).2.1,{G with L:=(G.L.trim (ax (G.L.sync S s).2 s G.y.home G.ov).2 s).2.2,ov:= []})
def SG.roomy (G:SG) (S:DS) (x:Nat):Bool:=decide ((bI x:Int)<=(G.L.room S).1)
def SG.made (G:SG) (S:DS) (s:Nat) (x:Nat):Int×DS×SG:=if G.roomy S x=true then (0,S,G) else G.check S s
def SG.bi (G:SG) (S:DS) (s:Nat) (c:CM):Int×DS×SG:=
 if (G.L.room S).2≠0 then ((G.L.room S).2,S,G) else
 if (G.made S s (bA c).length).1≠0 then G.made S s (bA c).length else
 if ((G.made S s (bA c).length).2.2.L.append (G.made S s (bA c).length).2.1 s (bA c)).1≠0 then
    (((G.made S s (bA c).length).2.2.L.append (G.made S s (bA c).length).2.1 s (bA c)).1,((G.made S s (bA c).length).2.2.L.append (G.made S s (bA c).length).2.1 s (bA c)).2.1,{(G.made S s (bA c).length).2.2 with L:=((G.made S s (bA c).length).2.2.L.append (G.made S s (bA c).length).2.1 s (bA c)).2.2})
 else (0,((G.made S s (bA c).length).2.2.L.append (G.made S s (bA c).length).2.1 s (bA c)).2.1,{(G.made S s (bA c).length).2.2 with L:=((G.made S s (bA c).length).2.2.L.append (G.made S s (bA c).length).2.1 s (bA c)).2.2,ov:=CM.dM (G.made S s (bA c).length).2.2.ov c})
def SG.block (G:SG) (S:DS) (b:Nat):List Int:=(CM.get G.ov b).getD (S.now (G.y.home+b))
def TG.bq (T:TG) (G:SG) (S:DS) (b:Nat):List Int:=(CM.get T.puts b).getD (G.block S b)
def TG.dM (T:TG) (G:SG) (S:DS):Int:=if G.L.dead S=true then 3 else if T.ended=true then 4 else 0
def TG.state (T:TG) (G:SG) (S:DS):Int:=if T.dM G S≠0 then T.dM G S else T.bad
def TG.refusal (T:TG) (G:SG) (S:DS) (b:Int):Int:=if T.state G S≠0 then T.state G S else if b<0\/(G.y.blocks:Int)<=b then 11 else 0
section
namespace B
def Rb (r:Int) (c:Nat):Prop:=c<4611686018427387904->0<=r/\r<=(c:Int)
def Rb.read {r:Int} {c:Nat} (h:Rb r c):Rb (wrap64 (r+1)) (c+1):=by
 intro b;have a:=h (by omega);have e:wrap64 (r+1)=r+1:=by unfold wrap64;omega
 rw [e];omega
def Rb.le {r:Int} {c d:Nat} (h:Rb r c) (hd:c<=d):Rb r d:=by
 intro b;have a:=h (by omega);omega
def aj (w:World) (F:Nat->Prop) (p s:Nat) (S:DS) (c:Nat):Prop:=∃r,aI w F p s (S.pY r)/\Rb r c
section
variable {w w':World} {F G:Nat->Prop} {p s c:Nat} {S:DS}
def aj.old (h:aj w F p s S c):Go.Proofs.YtkiehemoiapkkaaGreat.aj w F p s S:=by obtain⟨r,h,_⟩:=h;exact⟨r,h⟩
def aj.le {d:Nat} (h:aj w F p s S c) (hd:c<=d):aj w F p s S d:=by obtain⟨r,h,a⟩:=h;exact⟨r,h,a.le hd⟩
def aj.ok (h:aj w F p s S c):S.Ok s:=h.old.ok
def aj.lt (h:aj w F p s S c):∀k,F k->k<w.heap.size:=h.old.lt
def aj.ak (h:aj w F p s S c) (k:ad G w w') (hd:∀k,F k->¬G k):aj w' F p s S c:=by obtain⟨r,h,a⟩:=h;exact⟨r,h.ak k hd,a⟩
def aj.later (h:aj w F p s S c) (a:bW w w'):aj w' F p s S c:=h.ak (ad.ag (λ_=>False) a) (λ_ _ h=>h)
def aj.boxed (h:aj w F p s S c) (o:Obj):aj (w.alloc o) F p s S c:=h.later ((cW w.heap.size w).alloc (di _) o)
def aj.mono (h:aj w F p s S c) (a:∀k,F k->G k) (b:∀k,G k->k<w.heap.size):aj w G p s S c:=by obtain⟨r,h,d⟩:=h;exact⟨r,h.mono a b,d⟩
def aj.more (h:aj w' F p s S c):aj w' (more F w w') p s S c:=by obtain⟨r,h,a⟩:=h;exact⟨r,h.more,a⟩
def nX (h:aj w F p s S c):Calls prog 46 #[pQ p] w λe w'=>e= .returned (iV s)/\w'=w:=Go.Proofs.YtkiehemoiapkkaaGreat.nX h.old
def zV (h:aj w F p s S c):Calls prog 44 #[pQ p] w λe w'=>e= .returned (.bool (S.fuse == 0))/\w'=w:=Go.Proofs.YtkiehemoiapkkaaGreat.zV h.old
def tp (h:aj w F p s S c):Calls prog 42 #[pQ p] w λe w'=>e= .returned (iV (wrap64 (S.life+1)))/\aj w' F p s S.take c/\ad F w w':=by
 obtain⟨r,h,d⟩:=h;refine(PU h).mono ?_;rintro e w' ⟨rfl,a,b⟩;exact⟨rfl,⟨r,a,d⟩,b⟩
def mK (h:aj w F p s S c) (x:Int) (a:S.fuse=0):Calls prog 102 #[pQ p,iV x] w λe w'=>e= .returned (.tuple #[.slice none 0 0,iV 3])/\w'=w:=Go.Proofs.YtkiehemoiapkkaaGreat.mK h.old x a
def Ce (h:aj w F p s S c) (k:Nat) (i:k<s) (bn:S.puts.length+1<=4000000000000) (g:S.fuse≠0):
  Calls prog 102 #[pQ p,iV (k:Int)] w λe w'=>∃v,e= .returned (.tuple #[v,iV 0])/\Out w.heap.size w' (S.now k) v/\aj w' F p s S (c+1)/\ad F w w':=by
 obtain⟨r,h,j⟩:=h;have a:=qO h (k:Int) bn;rw [Mg (S:=S.pY r) g i] at a;refine a.mono ?_;rintro e w' ⟨v,rfl,b,d,f⟩;exact⟨v,rfl,b,⟨_,d,j.read⟩,f⟩
def Ac (h:aj w F p s S c) (x:Int) (a:Option Addr) (n k:Nat) (l:List Int) (i:Src w a n l) (bn:S.puts.length+1<=4000000000000):
  Calls prog 49 #[pQ p,iV x, .slice a n k] w λe w'=>e= .returned (iV (S.wr s x n l).1)/\aj w' (Go.Proofs.YtkiehemoiapkkaaGreat.more F w w') p s (S.wr s x n l).2 c/\ad F w w':=by
 obtain⟨r,h,g⟩:=h;have b:=sj h x a n k l i bn;rw [Mj] at b;refine j8 b λw' d f=>?_;exact⟨rfl,⟨r,d,g⟩,f⟩
def sv (h:aj w F p s S c) (bn:S.puts.length+1<=4000000000000):
  Calls prog 50 #[pQ p] w λe w'=>e= .returned (iV (S.fl s).1)/\aj w' F p s (S.fl s).2 c/\ad F w w':=by
 obtain⟨r,h,f⟩:=h;have a:=yY h bn;rw [Mk] at a;refine j8 a λw' b d=>?_;exact⟨rfl,⟨r,b,f⟩,d⟩
def MD (S:DS) (r:Int) (s f:Nat) (num:Int) (a:S.fuse≠0):uY (S.pY r) s f num=((cw S s f num).1,(cw S s f num).2.pY (wrap64 (wrap64 (r+1)+1))):=by
 unfold uY cw;rw [aB a];simp only [Qf];have e:(S.pY r).read.read=S.pY (wrap64 (wrap64 (r+1)+1)):=rfl;simp only [e,Mj];split
 .rfl
 .split
  .rfl
  .simp only [Mk]
def Qr (h:aj w F p s S c) (f:Nat) (n:Int) (bn:S.puts.length+1<=4000000000000) (d:S.fuse≠0) (i:f+1<s) (aq:Bytes (S.now f)) (aG:Bytes (S.now (f+1))):
  Calls prog 137 #[jg p f n] w λe w'=>e= .returned (.tuple #[iV ((gQ (S.now f) (S.now (f+1))).1:Int),iV ((gQ (S.now f) (S.now (f+1))).2.1:Int),iV ((gQ (S.now f) (S.now (f+1))).2.2:Int)])/\aj w' F p s S (c+2)/\ad F w w':=by
 obtain⟨r,h,g⟩:=h;refine(EI h f n bn d i aq aG).mono ?_;rintro e w' ⟨rfl,a,b⟩;exact⟨rfl,⟨_,a,g.read.read⟩,b⟩
def qS (h:aj w F p s S c) (f n:Int):Calls prog 94 #[jg p f n] w λe w'=>e= .returned (iV (cP S s f n))/\bW w w':=Go.Proofs.YtkiehemoiapkkaaGreat.qS h.old f n
end
def EY {w:World} {F:Nat->Prop} {p s c:Nat} {S:DS} (h:aj w F p s S c) (f:Nat) (n:Int) (E T:Int) (bn:S.puts.length+1<=4000000000000) (a:S.fuse=0):
  Calls prog 96 #[jg p f n,iV E,iV T] w λe w'=>e= .returned (iV 3)/\aj w' F p s S c/\ad F w w':=by
 obtain⟨r,h,d⟩:=h;go_in;go_wp2_with fail;refine(Jc (h.boxed (.cells #[.pointer (some ⟨p,0,none⟩), .int .i64 f, .int .i64 n] 136)) f n bn a).mono ?_;rintro e w1 ⟨rfl,hd,b⟩;go_wp2;go_ret;exact⟨rfl,⟨r,hd,d⟩,(ad.boxed (w:=w) F (.cells #[.pointer (some ⟨p,0,none⟩), .int .i64 f, .int .i64 n] 136)).trans b (λ_ h=> .inl h)⟩
def EZ {w:World} {F:Nat->Prop} {p s c:Nat} {S:DS} (h:aj w F p s S c) (f:Nat) (n:Int) (E T:Nat) (i:E<=1073741824) (j:T<=1073741824) (bn:S.puts.length+2<=4000000000000) (l:f+1<s) (aq:Bytes (S.now f)) (aG:Bytes (S.now (f+1))):
  Calls prog 96 #[jg p f n,iV (E:Int),iV (T:Int)] w λe w'=>e= .returned (iV (cw S s f ((E:Int)*4294967296+T)).1)/\aj w' (more F w w') p s (cw S s f ((E:Int)*4294967296+T)).2 (c+2)/\ad F w w':=by
 by_cases b:S.fuse=0
 .refine(EY h f n E T (by omega) b).mono ?_;rintro e w' ⟨rfl,a,d⟩;unfold cw;rw [aN b];exact⟨rfl,a.more.le (by omega),d⟩
 .obtain⟨r,h,k⟩:=h;have a:=Jf h f n E T i j bn b l aq aG;rw [(MD S r s f ((E:Int)*4294967296+T) b)] at a;refine j8 a λw' d g=>?_;exact⟨rfl,⟨_,d,k.read.read⟩,g⟩
end B
end
section
namespace B
def aj.from {w:World} {F:Nat->Prop} {p s:Nat} {S:DS} (h:aj w2 (Go.Proofs.YtkiehemoiapkkaaGreat.more F w1 w2) p s S c) (b:∀k,F k->k<w.heap.size) (d:w.heap.size<=w1.heap.size) (e:w1.heap.size<=w2.heap.size):aj w2 (Go.Proofs.YtkiehemoiapkkaaGreat.more F w w2) p s S c:=
 h.mono (λk a=>by rcases a with a|a;exact .inl a;exact .inr ⟨by omega,a.2⟩) (cQ b (by omega))
def aj.wide {w:World} {F:Nat->Prop} {p s:Nat} {S:DS} (h:aj w2 (Go.Proofs.YtkiehemoiapkkaaGreat.more F w w1) p s S c) (b:∀k,F k->k<w.heap.size) (d:w.heap.size<=w1.heap.size) (e:w1.heap.size<=w2.heap.size):aj w2 (Go.Proofs.YtkiehemoiapkkaaGreat.more F w w2) p s S c:=
 h.mono (λk a=>by rcases a with a|a;exact .inl a;exact .inr ⟨a.1,by omega⟩) (cQ b (by omega))
section
variable {w:World} {F:Nat->Prop} {p s l cR:Nat} {S:DS} {L:LG}
def qT (h:aj w F p s S cR) (a:bO w l p L):
  Calls prog 107 #[pQ l] w λe w'=>e= .returned (.bool (L.dead S))/\bW w w':=Go.Proofs.YtkiehemoiapkkaaGreat.qT h.old a
def ib (h:aj w F p s S cR) (a:bO w l p L):
  Calls prog 125 #[pQ l] w λe w'=>e= .returned (iV (L.aX S))/\bW w w':=Go.Proofs.YtkiehemoiapkkaaGreat.ib h.old a
def Cf (h:aj w F p s S cR) (b:bO w l p L) (j:¬F l) (bn:S.puts.length+1<=4000000000000):
  Calls prog 86 #[pQ l] w λe w'=>e= .returned (iV (L.sync S s).1)/\aj w' F p s (L.sync S s).2 cR/\bO w' l p L/\ad F w w':=by
 have g:=ib h b;have f:=b;have c:=h;unfold LG.sync;generalize L.aX S=U at*;go_in;by_cases q:U=0
 .subst q;rw [aB (by decide)];go_wp2_with fail;refine ef g λw1 a=>?_;have b:=f.later a;have k:=b.c0;go_wp2_with fail;refine(sv (c.later a) bn).mono ?_;rintro e m ⟨rfl,hd,i⟩;go_wp2;go_ret;exact⟨rfl,aQ hd (aQ (b.ak i j) ((ad.ag F a).trans i (λ_ h=> .inl h)))⟩
 .rw [aN q];have d:(U == 0)=false:=by rw [oE];exact q
  go_wp2_with fail;refine ef g λw1 a=>?_;go_wp2;go_ret;exact⟨rfl,aQ (c.later a) (aQ (f.later a) (ad.ag F a))⟩
end
end B
end
section
abbrev K0 (p l m:Nat) (y:LY) (busy:Bool):Array Value:= #[pQ p,pQ l,iV (y.log:Int),iV (y.home:Int),iV (y.blocks:Int),iV (y.nodes:Int),iV (y.data:Int), .map (some m), .bool busy]
def lT (w:World) (q p l m:Nat) (y:LY) (busy:Bool):Prop:=w.heap[q]? =some (.cells (K0 p l m y busy) 96 (0,0))
section
variable {w w':World} {q p l m:Nat} {y:LY} {busy:Bool}
def lT.lt (h:lT w q p l m y busy):q<w.heap.size:=af h
def lT.ak (h:lT w q p l m y busy) (k:ad G w w') (a:¬G q):lT w' q p l m y busy:=(k.block q h.lt a).trans h
def lT.later (h:lT w q p l m y busy) (a:bW w w'):lT w' q p l m y busy:=(a.block q h.lt).trans h
def lT.c0 (h:lT w q p l m y busy):w.cell? (aD q 0)=some (pQ p):=aL h
def lT.c1 (h:lT w q p l m y busy):w.cell? (aD q 1)=some (pQ l):=bY h
def lT.c3 (h:lT w q p l m y busy):w.cell? (aD q 3)=some (iV (y.home:Int)):=jw h
def lT.c4 (h:lT w q p l m y busy):w.cell? (aD q 4)=some (iV (y.blocks:Int)):=jI h
def lT.c7 (h:lT w q p l m y busy):w.cell? (aD q 7)=some (.map (some m)):=IA h
def lT.c8 (h:lT w q p l m y busy):w.cell? (aD q 8)=some (.bool busy):=SL h
end
def Cg {w:World} {q p l m:Nat} {y:LY} {a:Bool} (h:lT w q p l m y a) (b:Nat) (d:y.home+b<=1000000):
  Calls prog 127 #[pQ q,iV (b:Int)] w λe w'=>e= .returned (iV ((y.home:Int)+(b:Int)))/\w'=w:=by
 have c:=h.c3;go_in;go_wp2;go_ret;exact⟨rfl,rfl⟩
def ii (S:DS) (s h:Nat) (q:Nat×List Int) (a:CM):ax S s h (q :: a)=if (S.wr s ((h+q.1:Nat):Int) 512 q.2).1≠0 then S.wr s ((h+q.1:Nat):Int) 512 q.2 else ax (S.wr s ((h+q.1:Nat):Int) 512 q.2).2 s h a:=rfl
def gH (S:DS) (s h:Nat):∀(a b:CM),ax S s h (a ++ b)=if (ax S s h a).1≠0 then ax S s h a else ax (ax S s h a).2 s h b
 | [],b=>by simp [ax]
 |q :: qs,b=>by
  rw [List.cons_append,ii,ii];by_cases e:(S.wr s ((h+q.1:Nat):Int) 512 q.2).1≠0
  .rw [aN e,aN e,aN e]
  .rw [aB e,aB e];exact gH _ s h qs b
def eZ (S:DS) (s h:Nat):∀(ms:CM),(ax S s h ms).2.puts.length<=S.puts.length+ms.length:=λms=>by
 induction ms generalizing S with
 |nil=>exact di _
 |cons q c a=>
  have b:=jL S s ((h+q.1:Nat):Int) 512 q.2;unfold ax;split
  .rw [List.length_cons];omega
  .have:=a (S.wr s ((h+q.1:Nat):Int) 512 q.2).2;rw [List.length_cons];omega
def pw {w:World} {p q l m:Nat} {y:LY} {C:Bool} {ms:CM} (hd:B.aj w F p s S c) (R:lT w q p l m y C) (u:Ch w m ms) (hq:¬F q) (O0:¬F m) (b:∀x∈ms,y.home+x.1<s) (bn:S.puts.length+3000<=4000000000000):
  Calls prog 87 #[pQ q] w λe w'=>e= .returned (iV (ax S s y.home ms).1)/\B.aj w' (more F w w') p s (ax S s y.home ms).2 c/\ad F w w':=by
 obtain⟨h1,PT,D,dw,ME⟩:=gB (s8 u) u.small u.len u.ok hd.ok.hi;have rP:(CM.keys ms).length=ms.length:=by simp [CM.keys]
 rw [rP] at h1;obtain⟨L0,H,iH,W,HS,HM⟩:=rY gO R.c7 (yh hd.lt) (yh hd) (yh R) (yh u);clear hd R u;go_in;go_wp2_with fail;refine h1.mono ?_;rintro e w1 ⟨a,ca,rfl,aU,aq⟩;obtain⟨eR,P0,pd,KW,L,ew⟩:=rY aq.size (yh aU) (yh (W.o.later aq)) (yh (HS.o.later aq)) (yh (HM.o.later aq)) (yh aq);clear h1 aU aq W HS HM H;go_wp2;go_loopw [13] (λi wr=>∃j:Nat,j<=ms.length/\i=iV (j:Int)/\(ax S s y.home (ms.take j)).1=0/\B.aj wr (more F w1 wr) p s (ax S s y.home (ms.take j)).2 c/\ad F w1 wr) (λi _=>ms.length-(intOf i).toNat);case atStart=>exact⟨0,iq _,rfl,rfl,pd.o.more,ad.refl _ _⟩
 case round=>
  clear pd;obtain⟨j,hj,rfl,E,hd,dR⟩:=hrel;have Z2:=dR.size;by_cases aS:j<ms.length
  .have cH:(j:Int)<(ms.length:Int):=(by omega);have P5:(0:Int)<=(j:Int):=(by omega);obtain⟨g,rfl,hg,Q⟩:=P0.o (by simp [CM.keys];intro e;rw [e] at aS;simp at aS);have P:¬F g:=λO=>by have:=iH.o _ O;omega
   have ZR:=(Q.agree (dR.block g Q.lt P)).cell (zO aS);have q5:=D _ (List.getElem_mem aS);have iB:=b _ (List.getElem_mem aS);have nD:=KW.o.ak dR hq;obtain⟨H,bu,aJ,cY⟩:=jJ nD.c7 (dO wr q5.2.1) (dH q5.2.1) (bD (ms[j]).2);have qN:(bs (ms[j]).2).length=512:=(by rw [bs,ju,q5.2.1]);have uj:=eZ S s y.home (ms.take j);have nP:ax S s y.home (ms.take (j+1))=(ax S s y.home (ms.take j)).2.wr s ((y.home+(ms[j]).1:Nat):Int) 512 (ms[j]).2:=by
    rw [List.take_succ_eq_append_getElem aS,gH,aB (λh=>h E)];simp only [ax];split
    .rfl
    .rename_i h;generalize DS.wr _ _ _ _ _=Z at*;rw [<-(Decidable.byContradiction h)]
   have oe:ax S s y.home ms=if (ax S s y.home (ms.take (j+1))).1≠0 then ax S s y.home (ms.take (j+1)) else ax (ax S s y.home (ms.take (j+1))).2 s y.home (ms.drop (j+1)):=by
    conv=>lhs;rw [<-List.take_append_drop (j+1) ms]
    exact gH S s y.home _ _
   obtain⟨d,A4⟩:=cF ((wr.alloc (.cells aM 113)).setCells wr.heap.size 0 (bs (ms[j]).2));have td:bW wr d:=(by rw [A4];exact bu.2.1);have aA:gA d 113 wr.heap.size (ms[j]).2:=(by rw [A4];exact bu.1);have fN:Src d (some (aD wr.heap.size 0)) 512 (ms[j]).2:=by
    have:=aA.src (o:=0) (n:=512) (by omega);rwa [List.drop_zero,wl (by omega)] at this
   have Z3:=nD.later td;have Ci:=λ(U:World) (J:bW d U)=>Cg (Z3.later J) (ms[j]).1 (by omega);have TD:=λ(U:World) (J:bW d U)=>B.Ac ((hd.later td).later J) ((y.home+(ms[j]).1:Nat):Int) (some (aD wr.heap.size 0)) 512 512 (ms[j]).2 (fN.later J) (by rw [Iz] at uj;omega);rw [<-nP,Int.natCast_add] at TD;have G:=Z3.c0;obtain⟨A,I⟩:=cF (bs (ms[j]).2);rw [<-I] at aJ cY qN A4;have Ti:(Instr.lookup 94 (.map (some m)) (iV ((ms[j]).1:Int)) false).run prog wr= .ok (.agg A.toArray) wr:=(by rw [I];exact((L.o.ak dR O0).read (ms[j]).1 (CM.get_of_mem dw (List.getElem_mem aS))));have cC:=bu.2.2;rw [<-I] at cC;obtain⟨bC,z,HH,t,f,HK,X⟩:=wG (all_oneCell_toArray cY) (yh Z3) (yh Ci) (yh TD) (yh td) (yh dR) (yh oe);clear bu Q hd dR nD Z3 td aA fN I q5 Ci TD nP oe uj E;obtain⟨Y,N⟩:=cF (ax S s y.home (ms.take (j+1)));rw [<-N] at t X;have HY:=yh N;clear N;generalize (ms[j]).1=K at*;generalize aM=Z at*;go_wp2_with (refine wpList_store_mid rfl 113 _ _ rfl wr.heap.size 0 A.toArray rfl rfl ?h1 ?h2 bC ?_);case h1=>first|simpa using cC|(rw [qN] at cC;simpa using cC)
   case h2=>simpa using aJ
   have MF:=(yh A4).out;subst MF;have E0:¬more F w1 wr q:=λh=>by
    rcases h with h|h
    .exact hq h
    .have:=KW.o.lt;omega
   have Z4:Yh (∀k,F k->k<w1.heap.size):=λk O=>by have:=iH.o k O;omega
   generalize MF:(wr.alloc (.cells Z 113)).setCells wr.heap.size 0 A=d at*;clear MF;have hzS:=f.o.size;by_cases v:Y.1=0
   .have dY:(Y.1 != 0)=false:=(by rw [v];rfl);go_region_held3 (λw'=>w'.cell? (aD q 0)=some (pQ p))
     (first|exact G|exact RZ)
     (first
      |(go_at_call 127;refine(HH.o _ (ah (cW _ _))).mono ?_;rintro e wy ⟨rfl,Hc⟩;have Ad:=Hc.symm;subst Ad;clear Hc)
      |(go_at_call 49;refine(t.o _ (ah (cW _ _))).mono ?_;rintro e T ⟨rfl,pp,cB⟩;have RZ:=((z.o.later (ah (cW _ _))).ak cB E0).c0))
    have ud:d.heap.size<=T.heap.size:=cB.size;have W7:=pp.mono (λk b=>by
     rcases b with (b|b)|b
     .exact .inl b
     .exact .inr ⟨b.1,by omega⟩
     .have:d.heap.size<=k:=b.1;exact .inr ⟨by omega,b.2⟩) (cQ (F:=F) (w:=w1) Z4.o (by omega))
    have W8:=(HK.o.trans (ad.ag (λ_=>False) (ah f.o)) (λ_ h=>h.elim)).trans cB (λk b=>by
     rcases b with b|b
     .exact .inl b
     .exact .inr b.1)
    obtain⟨r,Pb⟩:=eA (aQ W7 W8) v;clear pp cB RZ W7 W8 v G H ZR;go_wp2;go_roundw;case rel=>exact⟨j+1,by omega,by go_num,by rw [<-HY.o];exact Pb.o,by rw [<-HY.o];exact r.o.1,r.o.2⟩
    case measure=>simp [intOf];omega
   .have dY:(Y.1 != 0)=true:=(by rw [rO];exact v);go_region_held3 (λw'=>w'.cell? (aD q 0)=some (pQ p))
     (first|exact G|exact RZ)
     (first
      |(go_at_call 127;refine(HH.o _ (ah (cW _ _))).mono ?_;rintro e wy ⟨rfl,Hc⟩;have Ad:=Hc.symm;subst Ad;clear Hc)
      |(go_at_call 49;refine(t.o _ (ah (cW _ _))).mono ?_;rintro e T ⟨rfl,pp,cB⟩;have RZ:=((z.o.later (ah (cW _ _))).ak cB E0).c0))
    have ud:d.heap.size<=T.heap.size:=cB.size;have W7:=pp.mono (λk b=>by
     rcases b with (b|b)|b
     .exact .inl b
     .exact .inr ⟨b.1,by omega⟩
     .have:d.heap.size<=k:=b.1;exact .inr ⟨by omega,b.2⟩) (cQ (F:=F) (w:=w1) Z4.o (by omega))
    have W8:=(HK.o.trans (ad.ag (λ_=>False) (ah f.o)) (λ_ h=>h.elim)).trans cB (λk b=>by
     rcases b with b|b
     .exact .inl b
     .exact .inr b.1)
    have M:=X.o;rw [aN v] at M;obtain⟨r,HEq⟩:=eA (aQ (W7.from iH.o eR (by omega)) ((ad.ag F ew.o).trans W8 (λ_ h=> .inl h))) M;clear pp cB RZ W7 W8 v G H ZR M;go_wp2;go_ret;exact⟨by rw [HEq.o];rfl,by rw [HEq.o];exact r.o.1,r.o.2⟩
  .have cH:¬(j:Int)<(ms.length:Int):=(by omega);obtain rfl:j=ms.length:=(by omega);rw [List.take_length] at E hd;obtain⟨HZ,r⟩:=eA E (aQ (hd.from iH.o eR Z2) ((ad.ag F ew.o).trans dR (λ_ h=> .inl h)));clear hd dR E;go_wp2;go_ret;exact⟨by rw [HZ.o];rfl,r.o⟩
end
def Qs (w:World):Calls prog 105 #[.bool true] w λe w'=>e= .returned (.tuple #[])/\w'=w:=by
 go_in;go_wp2
 go_end0
 exact⟨rfl,rfl⟩
abbrev MG:List PanicEntry:= [{v:= .iface 39 (iV 6),recovered:=false}]
def Qt (w:World):Calls prog 105 #[.bool false] w λe w'=>e= .panicked MG/\w'=w:=by
 go_in;go_wp2;exact⟨rfl,rfl,rfl⟩
def qc (b o k c:Nat) (l:List Int) (w1:World) (g:Src w1 (some (aD b o)) k l) (f:Bytes l) (dF:k<=4):
  Calls prog 171 #[.slice (some (aD b o)) k c] w1 λe w'=>e= .returned (iV ((le l:Nat):Int))/\w'=w1:=by
 have v:l.length=k:=g.1;have n:Yh (∀i,i<k->w1.cell? ⟨b,o+i,none⟩=some (.int .u8 (l.getD i 0))):=λi hi=>by
  have:=g.2.2 _ rfl i hi;rwa [aV] at this
 clear g;go_in;go_wp2;go_loopw [3,8] (λr i wr=>∃j:Nat,j<=k/\i=iV j/\wr=w1/\r=iV ((le (l.take j):Nat):Int)) (λ_ i _=>k-(intOf i).toNat);case atStart=>exact⟨0,iq _,rfl,rfl,by simp [le]⟩
 case round=>
  obtain⟨j,u,rfl,Jw,rfl⟩:=hrel;subst Jw;by_cases aS:j<k
  .have cH:(j:Int)<(k:Int):=(by omega);have q:=n.o j aS;obtain⟨x,t,dj⟩:∃x:Nat,l.getD j 0=(x:Int)/\x<256:=by
    have:=f.getD j;exact⟨(l.getD j 0).toNat,by omega,by omega⟩
   have fP:=mx (l:=l) (k:=j) (by omega);have m:le (l.take j)<2 ^ (8*j):=by
    have:=ld (f.take j);have e:(l.take j).length=j:=(by simp;omega);rwa [e] at this
   have d:le (l.take (j+1))<9223372036854775808:=xN (f.take _) (by simp;omega);rw [t] at q fP;simp only [t7] at fP;rw [fP] at d;have IU:=Mi (8*j) _ x m d;rw [<-fP] at IU;have s:=PR (x:Int) j (by omega);have SZ:((x:Int)*2 ^ (8*j))=((2 ^ (8*j)*x:Nat):Int):=(by rw [Int.natCast_mul,Int.natCast_pow,Int.mul_comm];rfl);have r8:((2 ^ (8*j)*x:Nat):Int)<9223372036854775808:=(by omega);have RL:(0:Int)<=8*(j:Int):=(by omega);generalize 2 ^ (8*j)*x=Y at*;generalize le (l.take j)=A at*;have a:=yh IU;clear m d fP;go_wp2;go_roundw;case rel=>exact⟨j+1,by omega,by go_num,trivial,by rw [<-a.o]⟩
   case measure=>simp [intOf];omega
  .have cH:¬(j:Int)<(k:Int):=(by omega);have p:l.take j=l:=wl (by omega);rw [p] at*;go_wp2;go_ret;exact⟨rfl,rfl⟩
end Go.Proofs.YtkiehemoiapkkaaGreat
