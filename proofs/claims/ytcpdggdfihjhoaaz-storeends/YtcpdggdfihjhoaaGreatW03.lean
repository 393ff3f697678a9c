import Derived.Test.YtcpdggdfihjhoaaGreatW01
import Derived.Test.YtcpdggdfihjhoaaGreatW02
import Derived.Shelf.Sort.AssemblyIn
import Derived.Sort.EveryDepth
import Derived.Sort.OwnSortedInts
import Derived.ProofKit
import Derived.OpenShut
import Derived.ShutString
import Derived.ChangeOld
import Derived.SizedLaws
import Derived.Deep.Slices
import Derived.Deep.Light
import Derived.Deep.MidRow
import Derived.Deep.Quiet
import Derived.BigQuiet
import Derived.OwnWalk
import Derived.RegionTactic
import Derived.BigRegion
import Derived.Deep.RegionLaw
import Derived.ChangeKeysEq
import Derived.ArgAppend
set_option maxRecDepth 20000
set_option maxHeartbeats 8000000
set_option linter.all false
namespace Go.Proofs.YtcpdggdfihjhoaaGreat
open Go.Proofs.Tryz
open Go.RowKit Go.Maps
variable {cur:Array Value} {S:DS} {a body data l l' s xs:List Int} {c g i k n p:Nat} {F:Nat->Prop} {T e ty:TypeId} {v x y z:Value} {w w':World} {C:World->Prop}
section
open Go.RowKit Go.Maps Go.Shelf Go.Sort
def wj:yJ:=by
 intro g b zs w f ee;have c:=f.le;have Zi:=f;obtain⟨cur,i,m,j,p⟩:=Zi;have d:(zs.map (Value.int .i64)).length=zs.length:=by simp
 rw [d] at c j;have l:=holds_of_blockI i j;refine(calls_of_every_depth λD=>AnyS.slices_Sort_int_in Tryz.lays189 D g 0 b zs w l f.lt ee).mono ?_;rintro e w' ⟨rfl,n,os,rfl⟩;have q:(zs.mergeSort λx y=>decide (x<=y)).length=zs.length:=List.length_mergeSort _;have a:=grownBy_sortedI (w:=w) (g:=g) (n:=n) (os:=os) (zs.mergeSort λx y=>decide (x<=y)).toArray;refine⟨rfl,⟨_,heap_sortedI _ i,by simp [putCells,m],?_,p⟩,⟨a.os,a.tape,a.output,a.size,λk o dM=>a.block k o (by simpa using dM)⟩⟩;rw [List.length_map];exact take_putCellsI cur _ (by omega)
def Vf (w:World):Calls prog 202 #[.slice none 0 0,iV 0,iV 0] w λe w'=>e= .returned (.tuple #[])/\w'=w:=by
 go_in;go_wp2;refine wp_loop_rounds 1 ?_;rw [rounds_succ];go_wp2
 go_end0
 exact⟨rfl,rfl⟩
def Vg (n:Int) (w:World):Calls prog 169 #[.slice none 0 0,iV 0,iV 0,iV n] w λe w'=>e= .returned (.tuple #[])/\w'=w:=by
 go_in;go_wp2;refine wp_loop_rounds 1 ?_;rw [rounds_succ];go_wp2_with (go_at_call 202;refine(Vf _).mono ?_;rintro e w' ⟨rfl,rfl⟩);exact bodyPost_ret (results_none rfl _ _ _) rfl ⟨rfl,rfl⟩
def wk:DD:=by
 intro w;go_in;go_wp2_with (first|(go_at_call 169;refine(Vg _ _).mono ?_;rintro e w' ⟨rfl,rfl⟩)|go_in)
 go_end0
 exact⟨rfl,RowKit.Below.refl _ _⟩
end
def DS.wr (S:DS) (s:Nat) (x:Int) (n:Nat) (l:List Int):Int×DS:=
 if S.fuse=0 then (3,S) else if x<0\/(s:Int)<=x then (11,S.refuse) else if n≠512 then (2,S.refuse) else (0,(S.put x.toNat l).wrote.gq)
def DS.rd (S:DS) (s:Nat) (x:Int):Int×DS×List Int:=
 if S.fuse=0 then (3,S, []) else if x<0\/(s:Int)<=x then (11,S.refuse, []) else (0,S.read,S.now x.toNat)
def DS.fl (S:DS) (s:Nat):Int×DS:=if S.fuse=0 then (3,S) else (0,(S.flush s).gq)
def aQ.more {s:Nat} (h:aQ w' F p s S):aQ w' (more F w w') p s S:=
 h.mono (λ_ a=> .inl a) (λk a=>by rcases a with a|a;exact h.lt k a;exact a.2)
def vi {s:Nat} (h:aQ w F p s S) (x:Int) (a:Option Addr) (n c:Nat) (l:List Int) (m:Src w a n l) (aU:S.puts.length+1<=4000000000000):
  Calls prog 51 #[pQ p,iV x, .slice a n c] w λe w'=>e= .returned (iV (S.wr s x n l).1)/\aQ w' (more F w w') p s (S.wr s x n l).2/\aa F w w':=by
 by_cases b:S.fuse=0
 .simp only [DS.wr,b,if_true];refine(Jy h x a n c b).mono ?_;rintro e w' ⟨rfl,rfl⟩;exact⟨rfl,h.more,aa.refl _ _⟩
 .by_cases d:x<0\/(s:Int)<=x
  .simp only [DS.wr,b,if_false,d,if_true];refine(FO h x a n c b d).mono ?_;rintro e w' ⟨rfl,f,g⟩;exact⟨rfl,f.more,g⟩
  .obtain⟨k,rfl⟩:∃k:Nat,x=(k:Int):=⟨x.toNat,by omega⟩;have j:k<s:=(by omega);by_cases i:n=512
   .subst i;simp only [DS.wr,b,if_false,d,ne_eq,not_true_eq_false,Int.toNat_natCast];obtain⟨y,rfl⟩:∃y,a=some y:=by
     cases a with
     |none=>have:=m.2.1 rfl;omega
     |some y=>exact⟨y,rfl⟩
    exact Qh h k j b (by omega) y c l m
   .simp only [DS.wr,b,if_false,d,ne_eq,i,not_false_eq_true,if_true];refine(DA h k a n c b j i).mono ?_;rintro e w' ⟨rfl,f,g⟩;exact⟨rfl,f.more,g⟩
def Out (lo:Nat) (w:World) (l:List Int) (v:Value):Prop:=∃a c,v= .slice a l.length c/\Src w a l.length l/\∀x,a=some x->lo<=x.block
def Out.nil (lo:Nat) (w:World):Out lo w [] (.slice none 0 0):=⟨none,0,rfl,⟨rfl,λ_=>rfl,λx a=>by cases a⟩,λx a=>by cases a⟩
def Out.row {lo:Nat} (h:ay w 5 g c (bs l)) (a:lo<=g):Out lo w l (.slice (some (aD g 0)) l.length c):=⟨_,c,rfl,h.src,λx b=>by cases b;exact a⟩
def tK {s:Nat} (h:aQ w F p s S) (x:Int) (aU:S.puts.length+1<=4000000000000):
  Calls prog 39 #[pQ p,iV x] w λe w'=>∃v,e= .returned (.tuple #[v,iV (S.rd s x).1])/\Out w.heap.size w' (S.rd s x).2.2 v/\aQ w' F p s (S.rd s x).2.1/\aa F w w':=by
 by_cases a:S.fuse=0
 .simp only [DS.rd,a,if_true];refine(Cd h x a).mono ?_;rintro e w' ⟨rfl,rfl⟩;exact⟨_,rfl,Out.nil _ _,h,aa.refl _ _⟩
 .by_cases f:x<0\/(s:Int)<=x
  .simp only [DS.rd,a,if_false,f,if_true];refine(Jt h x a f).mono ?_;rintro e w' ⟨rfl,b,d⟩;exact⟨_,rfl,Out.nil _ _,b,d⟩
  .obtain⟨k,rfl⟩:∃k:Nat,x=(k:Int):=⟨x.toNat,by omega⟩;have i:k<s:=(by omega);simp only [DS.rd,a,if_false,f,Int.toNat_natCast];refine(L4 h k a i (by omega)).mono ?_;rintro e w' ⟨g,c,rfl,j,l,b,d⟩;have:=Out.row l j;rw [bu h.ok k i] at this;exact⟨_,rfl,this,b,d⟩
def Dr {s:Nat} (h:aQ w F p s S) (aU:S.puts.length+1<=4000000000000):
  Calls prog 52 #[pQ p] w λe w'=>e= .returned (iV (S.fl s).1)/\aQ w' F p s (S.fl s).2/\aa F w w':=by
 by_cases a:S.fuse=0
 .simp only [DS.fl,a,if_true];refine(LT h a).mono ?_;rintro e w' ⟨rfl,rfl⟩;exact⟨rfl,h,aa.refl _ _⟩
 .simp only [DS.fl,a,if_false];exact Uf h a (by omega)
def Src.lU {B:Nat} {a:Option Addr} (h:Src w a n l) (d:Below B w w') (c:∀x,a=some x->0<n->x.block<B):Src w' a n l:=
   ⟨h.1,h.2.1,λx b i e=>(World.cell?_of_block (w:=w) (by rw [kG];exact d.block _ (c x b (by omega)))).trans (h.2.2 x b i e)⟩
def lf.lU {B:Nat} {a:Option Addr} {l:List P3} (h:lf w a n l) (k:Below B w w') (j:∀x,a=some x->0<n->x.block<B):lf w' a n l:=by
 refine⟨h.1,h.2.1,λx c i m=>?_,h.2.2.2⟩;obtain⟨b,o,rfl,d,f,g⟩:=h.2.2.1 x c i m;have e:=k.block b (j _ c (by have:=h.1;omega));exact⟨b,o,rfl,(World.cell?_of_block (w:=w) (a:=(aD b _)) e).trans d,(World.cell?_of_block (w:=w) (a:=(aD b _)) e).trans f,(World.cell?_of_block (w:=w) (a:=(aD b _)) e).trans g⟩
def Out.keeps {lo:Nat} (h:Out lo w l v) (o:aa F w w') (j:∀k,F k->k<lo):Out lo w' l v:=by
 obtain⟨a,c,rfl,b,f⟩:=h;refine⟨a,c,rfl,⟨b.1,b.2.1,λx g i n=>?_⟩,f⟩;have d:=b.2.2 x g i n;have e:=World.block_lt_of_cell? _ _ d;rw [kG] at e;exact(World.cell?_of_block (w:=w) (by rw [kG];exact o.block _ e (λm=>by have:=j _ m;have:=f x g;omega))).trans d
def ji (S:DS) (s:Nat) (x:Int) (n:Nat) (l:List Int):(S.wr s x n l).2.puts.length<=S.puts.length+1:=by
 unfold DS.wr;split
 .simp
 .split
  .simp [DS.refuse]
  .split
   .simp [DS.refuse]
   .simp [DS.put,DS.wrote,DS.gq]
def yx (S:DS) (s:Nat):(S.fl s).2.puts.length<=S.puts.length+1:=by
 unfold DS.fl;split
 .simp
 .simp [DS.flush,DS.gq]
def aJ (w:World) (o:Obj):bW w (w.alloc o):=(bi _ _).alloc (bS _) _
def nG (body:List Int):List Int:=((body.length%256:Nat):Int) :: ((body.length / 256:Nat):Int) :: (body ++ List.replicate (504-body.length) 0)
def bh (t:Int) (body:List Int):List Int:=
 t :: ((body.length%256:Nat):Int) :: ((body.length / 256:Nat):Int) :: (om (sumOf (nG body)) ++ (body ++ (List.replicate (504-body.length) 0 ++ [t])))
def cG (a b:Int):Nat:=if a≠0/\b≠0 then 0 else if a≠1/\b≠1 then 1 else 2
def gv (a b:Int):cG a b<=2:=by unfold cG;split <;> (try split) <;> omega
def Cq (a b:Int):((cG a b:Nat):Int)≠a/\((cG a b:Nat):Int)≠b:=by
 unfold cG;by_cases h:a≠0/\b≠0
 .rw [aG h];omega
 .rw [aB h];by_cases c:a≠1/\b≠1
  .rw [aG c];omega
  .rw [aB c];omega
def ow (s:Nat):(om s).length=4:=rfl
def DI (s:Nat):Bytes (om s):=by
 intro x a;simp only [om,List.mem_cons,List.not_mem_nil,or_false] at a;omega
def fv {t:Int} (h:body.length<=504):(bh t body).length=512:=by simp [bh,ow];omega
def Bytes.append {b:List Int} (c:Bytes a) (d:Bytes b):Bytes (a ++ b):=λx e=>(List.mem_append.1 e).elim (c x) (d x)
def Bytes.cons {a:Int} {b:List Int} (c:0<=a/\a<256) (d:Bytes b):Bytes (a :: b):=λx e=>(List.mem_cons.1 e).elim (λh=>h▸c) (d x)
def Bytes.nil:Bytes []:=λ_ a=>by cases a
def Bytes.tL (n:Nat):Bytes (List.replicate n 0):=λx a=>by rw [List.eq_of_mem_replicate a];omega
def Bytes.take (h:Bytes l) (n:Nat):Bytes (l.take n):=λx a=>h x (List.mem_of_mem_take a)
def Bytes.drop (h:Bytes l) (n:Nat):Bytes (l.drop n):=λx a=>h x (List.mem_of_mem_drop a)
def Bytes.getD (h:Bytes l) (i:Nat):0<=l.getD i 0/\l.getD i 0<256:=by
 by_cases a:i<l.length
 .have:=h l[i] (List.getElem_mem a);simpa [List.getD,a] using this
 .simp [List.getD,List.getElem?_eq_none (Nat.le_of_not_lt a)]
def wl (h:Bytes body) (a:body.length<=504):Bytes (nG body):=
   .cons (by omega) (.cons (by omega) (h.append (.tL _)))
def wm {t:Int} (h:Bytes body) (b:body.length<=504) (a:0<=t/\t<256):Bytes (bh t body):=
   .cons a (.cons (by omega) (.cons (by omega) ((DI _).append (h.append ((Bytes.tL _).append (.cons a .nil))))))
def dN (s:List Int):Nat:=(s.getD 1 0+256*s.getD 2 0).toNat
def dJ (s:List Int):List Int:=(s.drop 7).take (dN s)
def fA (s:List Int):Option (List Int):=if dN s<=504/\s.getD 0 0<=2/\bh (s.getD 0 0) (dJ s)=s then some (dJ s) else none
def Cr (t:Int) (body:List Int) (h:body.length<=504):dN (bh t body)=body.length:=by
 simp [dN,bh,List.getD];omega
def JD (t:Int) (body:List Int):(bh t body).drop 7=body ++ (List.replicate (504-body.length) 0 ++ [t]):=by
 simp [bh,om]
def JE (t:Int) (body:List Int) (h:body.length<=504):dJ (bh t body)=body:=by
 rw [dJ,Cr t body h,JD];simp
def pK (t:Int) (body:List Int):(bh t body).getD 0 0=t:=rfl
def yQ (t:Int) (body:List Int) (h:body.length<=504):(bh t body).getD 511 0=t:=by
 have e:bh t body=(t :: ((body.length%256:Nat):Int) :: ((body.length / 256:Nat):Int) :: (om (sumOf (nG body)) ++ (body ++ List.replicate (504-body.length) 0))) ++ [t]:=by
  simp [bh]
 rw [e,List.getD,List.getElem?_append_right (by simp [ow];omega)];have:511-(t :: ((body.length%256:Nat):Int) :: ((body.length / 256:Nat):Int) :: (om (sumOf (nG body)) ++ (body ++ List.replicate (504-body.length) 0))).length=0:=by
  simp [ow];omega
 rw [this];rfl
def JF (t:Int) (body:List Int) (h:body.length<=504) (a:t<=2):fA (bh t body)=some body:=by
 unfold fA;rw [Cr t body h,pK,JE t body h,aG ⟨h,a,rfl⟩]
def ox (h:fA s=some body):dN s<=504/\s.getD 0 0<=2/\bh (s.getD 0 0) (dJ s)=s/\body=dJ s:=by
 unfold fA at h;split at h
 .next hc=>exact⟨hc.1,hc.2.1,hc.2.2,(Option.some.inj h).symm⟩
 .cases h
def lR (h:dN s<=504) (a:s.length=512):(dJ s).length=dN s:=by
 simp [dJ];omega
def qQ (h:fA s=some body) (b:s.length=512):body.length<=504:=by
 obtain⟨a,_,_,rfl⟩:=ox h;rw [lR a b];exact a
def JG (h:fA s=some body) (b:s.length=512):s.getD 511 0=s.getD 0 0:=by
 obtain⟨c,_,a,rfl⟩:=ox h;rw [<-a,yQ _ _ (qQ h b),pK]
def xS (s:List Int):List Int:=(s.drop 1).take 2 ++ (s.drop 7).take 504
def az (s:List Int):Nat×List Int:=
 match fA s with
 |none=>(0, [])
 |some body=>if 8<=body.length/\le (body.take 8)<9223372036854775808 then (le (body.take 8),body.drop 8) else (0, [])
def am (l r:List Int):Nat×Nat×List Int×Nat:=
 if l.length≠512\/r.length≠512 then (0,0, [],2) else
 if (az l).1=0/\(az r).1=0 then (0,0, [],30) else
 if (az l).1<(az r).1 then (1,(az r).1,(az r).2,0) else (0,(az l).1,(az l).2,0)
def aS (n:Nat):List Int:=(List.range 8).map (λk=>((n / 256 ^ k%256:Nat):Int))
def gw (old body:List Int):List Int×Nat:=
 if old.length≠512 then ([],2) else if 504<body.length then ([],7) else (bh (cG (old.getD 0 0) (old.getD 511 0)) body,0)
def aX (s:List Int):List Int×Nat:=
 if s.length≠512 then ([],2) else match fA s with|none=>([],30)|some b=>(b,0)
def aP (l r:List Int) (number:Int) (data:List Int):Nat×List Int×Nat:=
 if l.length≠512\/r.length≠512 then (0, [],2) else
 if number<1 then (0, [],1) else
 if 496<data.length then (0, [],7) else
 let a:=am l r
 if number<=a.2.1 then (0, [],31) else
 if a.2.2.2=0/\a.1=0 then (1,bh (cG (r.getD 0 0) (r.getD 511 0)) (aS number.toNat ++ data),0)
 else (0,bh (cG (l.getD 0 0) (l.getD 511 0)) (aS number.toNat ++ data),0)
def Vh:Nat->Nat->Bool
 |0,_=>true
 |n+1,s=>if cb s=1 then false else Vh n (cb s)
def Cs:∀(n s:Nat),Vh n s=true->∀a,a<n->k9 (a+1) s≠1
 |0,_,_,a,ha=>by omega
 |n+1,s,h,a,ha=>by
  unfold Vh at h;split at h
  .cases h
  .next hc=>
   cases a with
   |zero=>exact hc
   |succ a=>exact Cs n (cb s) h a (by omega)
def order {a:Nat} (h0:0<a) (b:a<=4080):k9 a 1≠1:=by
 have h:Vh 4080 1=true:=by decide+kernel
 have:=Cs 4080 1 h (a-1) (by omega);rwa [show a-1+1=a by omega] at this
def Vi {α:Type} {o:Option α} (h:∀x,o=some x->False):o=none:=by
 cases o with
 |none=>rfl
 |some x=>exact(h x rfl).elim
def Ct {m:List Int} (b:m.length=512) (h:m.getD 0 0≠m.getD 511 0):fA m=none:=
 Vi λ_ a=>h (JG a b).symm
def rE (a b:List Int) (c:Nat):List Int:=a.take c ++ b.drop c
def FV {b:List Int} (d:a.length=512) (e:b.length=512) (f:c<=512):(rE a b c).length=512:=by simp [rE];omega
def yR {b:List Int} (d:a.length=512) (h0:0<c):(rE a b c).getD 0 0=a.getD 0 0:=by
 rw [rE,List.getD,List.getElem?_append_left (by simp;omega),List.getElem?_take,aG h0];rfl
def Cu {b:List Int} (d:a.length=512) (e:c<512):(rE a b c).getD 511 0=b.getD 511 0:=by
 rw [rE,List.getD,List.getElem?_append_right (by simp;omega),List.getElem?_drop];simp only [List.length_take,d,List.getD];rw [show c+(511-min c 512)=511 by omega]
def Cv (a b:List Int):rE a b 0=b:=by simp [rE]
def FW {b:List Int} (c:a.length=512) (d:b.length=512):rE a b 512=a:=by
 simp [rE,nz (Nat.le_of_eq c),List.drop_eq_nil_of_le (Nat.le_of_eq d)]
def aoe {o:List Int} (b:o.length=512) {t:Int} (h0:t≠o.getD 0 0) (i:t≠o.getD 511 0) (e:body.length<=504) (d:c<=512):
    (rE o (bh t body) c=o\/rE o (bh t body) c=bh t body\/fA (rE o (bh t body) c)=none)/\
    (rE (bh t body) o c=o\/rE (bh t body) o c=bh t body\/fA (rE (bh t body) o c)=none):=by
 have a:=fv (t:=t) e;by_cases f:c=0
 .subst f;exact⟨.inr (.inl (Cv _ _)), .inl (Cv _ _)⟩
 .by_cases g:c=512
  .subst g;exact⟨.inl (FW b a), .inr (.inl (FW a b))⟩
  .refine⟨.inr (.inr (Ct (FV b a d) ?_)), .inr (.inr (Ct (FV a b d) ?_))⟩
   .rw [yR b (by omega),Cu b (by omega),yQ t body e];exact λh=>h0 h.symm
   .rw [yR a (by omega),Cu a (by omega),pK];exact i
def Cw (n:Nat):aS n= [((n%256:Nat):Int),((n / 256%256:Nat):Int),((n / 65536%256:Nat):Int),((n / 16777216%256:Nat):Int),((n / 4294967296%256:Nat):Int),((n / 1099511627776%256:Nat):Int),((n / 281474976710656%256:Nat):Int),((n / 72057594037927936%256:Nat):Int)]:=by
 simp [aS,List.range,List.range.loop]
def dO (n:Nat):(aS n).length=8:=by simp [aS]
def iO (n:Nat):Bytes (aS n):=by
 intro x a;obtain⟨j,_,rfl⟩:=List.mem_map.1 a;omega
def Nd (h:n<18446744073709551616):le (aS n)=n:=by
 rw [Cw];simp only [le,Int.toNat_natCast];omega
def DJ {t:Int} (c:t<=2) (b:n<9223372036854775808) (hd:data.length<=496):az (bh t (aS n ++ data))=(n,data):=by
 have a:=dO n;unfold az;rw [JF _ _ (by simp [a];omega) c];simp only [List.take_left' a,List.drop_left' a,Nd (show n<18446744073709551616 by omega)];rw [aG ⟨by simp [a],b⟩]
def yS (l r:List Int) (slot:Nat) (s:List Int):List Int×List Int:=if slot=0 then (s,r) else (l,s)
def tM {r:List Int} (j:l.length=512) (k:r.length=512) (d:n<9223372036854775808) (g:1<=n) (hd:data.length<=496) (uV:(am l r).2.1<n) {t:Int} (f:t<=2) (a:Nat)
    (b:a=if (am l r).2.2.2=0/\(am l r).1=0 then 1 else 0):
  am (yS l r a (bh t (aS n ++ data))).1 (yS l r a (bh t (aS n ++ data))).2=(a,n,data,0):=by
 have c:=DJ f d hd;have i:(bh t (aS n ++ data)).length=512:=fv (by simp [dO];omega);generalize bh t (aS n ++ data)=s at*;have e:am l r=if (az l).1=0/\(az r).1=0 then (0,0, [],30) else if (az l).1<(az r).1 then (1,(az r).1,(az r).2,0) else (0,(az l).1,(az l).2,0):=by
  unfold am;rw [aB (by omega)]
 rw [e] at b uV;by_cases z:(az l).1=0/\(az r).1=0
 .rw [aG z] at b uV;have:a=0:=by rw [b];rfl
  subst this;simp only [yS,if_true,am];rw [aB (by omega),c,aB (by simp;omega),aB (by simp;omega)]
 .rw [aB z] at b uV;by_cases q:(az l).1<(az r).1
  .rw [aG q] at b uV;have:a=0:=(by rw [b];rfl);subst this;simp only [yS,if_true,am];rw [aB (by omega),c,aB (by simp;omega),aB (by simp at uV⊢;omega)]
  .rw [aB q] at b uV;have:a=1:=(by rw [b];rfl);subst this;have Zj:¬(1:Nat)=0:=(by omega);simp only [yS,aB Zj,am];rw [aB (by omega),c,aB (by simp;omega),aG (by simp at uV⊢;omega)]
section
open Go.ChangeShapes Go.WideShapes Go.ChangeAt Go.RowKit Go.Deep
def pL:ownKnob prog.godebug=none:=by kernel_rfl
def laidOut:laidOutB prog=true:=by kernel_rfl
def Vj:prog.bytesOf 5=1:=by kernel_rfl
def Vk:prog.cellsOf 5=1:=by kernel_rfl
def fT:prog.cellsOf 3=1:=by kernel_rfl
def yT:prog.cellsOf 36=1:=by kernel_rfl
def acI {n:Int} (h:(Lit.int .u8 n).wf=true):0<=n/\n<256:=by
 have:=h;simp [Lit.wf,IntKind.min,IntKind.max,IntKind.bits,IntKind.signed] at this;omega
section
variable {H:Type} {enc:TypeId×Value->H} {W:World} {base:Nat} {spare:Nat->Bool} {held:Bool}
def pM {P:Program} {e:TypeId} {n:Nat}:∀{a:List (DataW H)} {d:DataW H},d∈a->n∈d.weights P e->n∈DataW.weightsAll P e a
 |d :: r,d',hd,hn=>by
  rw [DataW.weightsAll];rcases List.mem_cons.1 hd with rfl|h
  .exact List.mem_append_left _ hn
  .exact List.mem_append_right _ (pM h hn)
def XL {P:Program} {b c d:Field} {cs:List Value} {x:DataW H×List MemPlace} (r:P.underlying e=some (.struct #[b,c,d])) (q:P.cellsOf e=3) (s:b.offset=0) (t:c.offset=1) (u:d.offset=2)
    (m:P.cellsOf b.type=1) (o:P.cellsOf c.type=1) (p:P.cellsOf d.type=1) (h:DataW.trod enc P W base spare held n e cs=some x):
  ∃v0 v1 v2 y0 y1 y2 k,cs= [v0,v1,v2]/\x.1= .agg [y0.1,y1.1,y2.1]/\DataW.trod enc P W base spare held k b.type [v0]=some y0/\DataW.trod enc P W base spare held k c.type [v1]=some y1/\DataW.trod enc P W base spare held k d.type [v2]=some y2:=by
 obtain⟨xs,k,_,g,a,I7,f⟩:=DataW.trod_struct r h;rw [q] at a
 match xs,I7,cs,a with
 | [y0,y1,y2],_, [v0,v1,v2],_=>
  have i:=f 0 b rfl;have j:=f 1 c rfl;have l:=f 2 d rfl;simp [s,t,u,m,o,p] at i j l;exact⟨v0,v1,v2,y0,y1,y2,k,rfl,by rw [g];rfl,i,j,l⟩
def j8 {b:Nat} {d:DataW H} {r:List MemPlace} (h:DataW.trod enc prog W base spare held b 36 [v]=some (d,r)) (o:∀n∈d.weights prog 36,n<=reachBytes):
  ∃a n c l,v= .slice a n c/\Src W a n l/\Bytes l/\n<=c/\n<=140737488355328:=by
 rcases open_ints underlying36 underlying5 Vk h with ⟨ou,_⟩|⟨x,l,c,zs,ou,_,m,s,g,hd,db,e⟩
 .simp only [List.cons.injEq,and_true] at ou;exact⟨none,0,0, [],ou,⟨rfl,λ_=>rfl,λx f=>by cases f⟩,(λx f=>by cases f),bS _,dV _⟩
 .simp only [List.cons.injEq,and_true] at ou;simp only [Prod.mk.injEq] at hd;obtain⟨rfl,rfl⟩:=hd;have q:l<=zs.length:=by rw [g];split <;> omega
  have j:=o ((((lits IntKind.u8 (zs.take l):List (DataW H))).length+((lits IntKind.u8 (zs.drop l):List (DataW H))).length)*prog.bytesOf 5) (by simp [DataW.weights,underlying36]);rw [Vj] at j;simp only [lits,List.length_map,List.length_take,List.length_drop,reachBytes] at j;refine⟨some x,l,c,zs.take l,ou,⟨by simp;omega,(λh=>by cases h),λy p i k=>?_⟩,λz g=>acI (e z (List.mem_of_mem_take g)),m,by omega⟩;cases p;rw [db i (by omega)];simp [List.getD,k]
end
end
def xT:List Value:=(List.range 16).map (λj=>Value.int .u32 ((k9 4 j:Nat):Int))
def DK:xT.length=16:=by simp [xT]
def Vl:∀v∈xT,v.oneCell'=true:=by
 intro v a;obtain⟨j,_,rfl⟩:=List.mem_map.1 a;rfl
def DM:(prog.info? 209).map (·.size)=some xT.length:=by rw [DK];kernel_rfl
def ahP (r:Nat) (a:r<4294967296):bits .and .u32 (r:Int) 1=((r%2:Nat):Int):=by
 have:=u32_and_nat r 1 a (by omega);rw [Nat.and_one_is_mod] at this;exact this
def Vm (r:Nat) (c:r<4294967296):bits .xor .u32 ((r:Int) / 2) (2197175160*((r:Int)%2))=((cb r:Nat):Int):=by
 have a:((r:Int) / 2)=((r / 2:Nat):Int):=by omega
 have b:(2197175160*((r:Int)%2))=(((if r%2=1 then 2197175160 else 0):Nat):Int):=by
  split <;> omega
 rw [a,b,u32_xor_nat _ _ (by omega) (by split <;> omega)];rfl
def aa.setCells {F:Nat->Prop} {b:Nat} (a:F b):∀(c:List Value) (o:Nat) (w:World),aa F w (w.setCells b o c)
 | [],_,w=>aa.refl F w
 |v :: r,o,w=>(aa.setCell (p:=⟨b,o,none⟩) w a v).trans (aa.setCells a r (o+1) _) (λ_ h=> .inl h)
def mU {b:Nat}:∀(a:List Value) (o:Nat) (w:World),(w.setCells b o a).heap.size=w.heap.size
 | [],_,_=>rfl
 |v :: r,o,w=>by simp only [World.setCells];rw [mU r];simp [World.setCell]
def gy {P:Program} {b:Func} {p:Tmp} (h:b.results= #[.cell p ty]) (a:Array Value) (w:World) (g:Nat) (cs:List Value) (d:TypeDesc)
    (f:a.getD p undef=pQ g) (c:w.rangeAt g 0 cs) (i:P.underlying ty=some d) (hd:d.isRow=true) (e:(P.info? ty).map (·.size)=some cs.length):
    (results b a).run P w= .ok (.agg cs.toArray) w:=by
 have Zk:a[p]?.getD undef=pQ g:=by simpa using f
 simp [results,h,Zk,asAddr,run_loadVar_mid w g 0 ty cs d c i hd e]
def Ne (w wr:World) (k:Nat):Prop:=
 bW w wr/\wr.heap.size=w.heap.size+2/\(∃cur:Array Value,cur.size=16/\wr.heap[w.heap.size]? =some (.cells cur 209 (0,0)))/\
  ∃cs:List Int,cs.length=16/\wr.heap[w.heap.size+1]? =some (.cells (cs.map (Value.int .u32)).toArray 209 (0,0))/\∀j,j<k->cs[j]? =some ((k9 4 j:Nat):Int)
def Ne.next {wr:World} (h:Ne w wr k) (i:k<16):(∃v,wr.cell? ⟨w.heap.size+1,k,none⟩=some (.int .u32 v))/\wr.frozen? ⟨w.heap.size+1,k,none⟩=false/\
  Ne w (wr.setCell ⟨w.heap.size+1,k,none⟩ (.int .u32 ((k9 4 k:Nat):Int))) (k+1):=by
 obtain⟨b,g,⟨cur,c,a⟩,cs,f,aV,ou⟩:=h;have oo:k<cs.length:=by omega
 refine⟨⟨cs[k],aj aV (by simp [oo])⟩,ae aV k,?_,?_,⟨cur,c,?_⟩,cs.set k ((k9 4 k:Nat):Int),by simp [f],?_,?_⟩
 .exact b.trans ((aa.setCell (F:=λj=>j=w.heap.size+1) (p:=⟨w.heap.size+1,k,none⟩) wr rfl _).below (λj d=>by omega) (by omega))
 .simpa [World.setCell] using g
 .rw [Below.heap_setCell _ _ _ _ (by simp)];exact a
 .rw [heap_setCell_same _ _ _ _ _ _ aV];congr 2;apply Array.ext';simp [List.map_set]
 .intro j d;by_cases e:j=k
  .subst e;simp [oo]
  .rw [List.getElem?_set_ne (by omega)];exact ou j (by omega)
def Ne.done {wr:World} (h:Ne w wr 16):wr.rangeAt (w.heap.size+1) 0 xT/\wr.there w.heap.size 0 xT.length:=by
 obtain⟨d,g,⟨cur,e,a⟩,cs,f,aV,ou⟩:=h;constructor
 .intro j v c;have b:j<16:=by
   have:=(mP.1 c).1;rwa [DK] at this
  rw [Nat.zero_add];refine aj aV ?_;rw [<-c];simp [xT,ou j b,b]
 .intro j b;rw [DK] at b;rw [Nat.zero_add];exact⟨by rw [aj a (j:=j) (u:=cur[j]'(by omega)) (by simp [show j<cur.size by omega])];rfl,ae a j⟩
def JH (w:World):
  Calls prog 179 #[] w λe w'=>e= .returned (.agg xT.toArray)/\bW w w':=by
 go_in;go_wp2;go_loopw [5] (λi wr=>∃k:Nat,k<=16/\i=iV k/\Ne w wr k) (λi _=>16-(intOf i).toNat);case atStart=>
  refine⟨0,dV _,rfl,Below.alloc (Below.alloc (bi _ _) (bS _) _) (by simp) _,by simp,⟨_,?_,heap_alloc2_old _ _ _⟩,List.replicate 16 0,by simp,?_,λj b=>by omega⟩
  .rfl
  .rw [heap_alloc2_new];rfl
 case round=>
  obtain⟨k,f,rfl,Qt⟩:=hrel;by_cases bq:k<16
  .have cC:(k:Int)<16:=(by omega);obtain⟨⟨l,c⟩,d,acK⟩:=Qt.next bq;go_wp2;go_loopw [3,10] (λr i wx=>∃m:Nat,m<=4/\i=iV m/\wx=wr/\r= .int .u32 ((k9 m k:Nat):Int)) (λ_ i _=>4-(intOf i).toNat);case atStart=>exact⟨0,dV _,rfl,rfl,rfl⟩
   case round=>
    obtain⟨m,g,rfl,rfl,rfl⟩:=hrel;have a:k9 m k<4294967296:=uX m (by omega);by_cases xU:m<4
    .have Bz:(m:Int)<4:=(by omega);have ar:=ahP (k9 m k) a;have bF:cb (k9 m k)=k9 (m+1) k:=(by rw [tB];rfl);go_wp2;go_roundw;case rel=>exact⟨m+1,by omega,by go_num,trivial,by rw [<-bF,<-(Vm (k9 m k) a)]⟩
     case measure=>simp [intOf];omega
    .have Bz:¬(m:Int)<4:=(by omega);have Zl:m=4:=(by omega);subst Zl;go_wp2;go_roundw;case rel=>exact⟨k+1,by omega,by go_num,acK⟩
     case measure=>simp [intOf];omega
  .have cC:¬(k:Int)<16:=(by omega);have ahQ:k=16:=(by omega);subst ahQ;obtain⟨Bd,eh⟩:=Qt.done;have iP:=Qt.1;have bV:=all_oneCell_toArray Vl;go_wp2_with (first|refine wpList_load_mid rfl 209 _ rfl (w.heap.size+1) 0 rfl xT _ Bd underlying209 rfl DM ?_|refine wpList_store_mid rfl 209 _ _ rfl w.heap.size 0 xT.toArray rfl rfl ?h1 ?h2 bV ?_);case h2=>exact Option.map_eq_some_iff.1 DM
   exact bodyPost_ret (gy (P:=prog) rfl _ _ w.heap.size xT _ rfl (World.rangeAt_setCells_same wr w.heap.size 0 xT eh) underlying209 rfl DM) rfl ⟨rfl,iP.trans ((aa.setCells (F:=λj=>j=w.heap.size) rfl xT 0 wr).below (λj b=>by omega) iP.size)⟩
def Qu (a:w.heap[g]? =some (.cells xT.toArray 209 (0,0))) (i:Nat) (b:i<16):w.cell? (aD g i)=some (.int .u32 ((k9 4 i:Nat):Int)):=
 aj a (by simp [xT,b])
def XM (r:Nat) (a:r<4294967296):bits .and .u32 (r:Int) 15=((r%16:Nat):Int):=by
 have:=u32_and_nat r 15 a (by omega);rw [show (15:Nat)=2 ^ 4-1 from rfl,Nat.and_two_pow_sub_one_eq_mod] at this;exact this
def FX (r:Nat) (b:r<4294967296):bits .xor .u32 ((r:Int) / 16) ((k9 4 (r%16):Nat):Int)=((k9 4 r:Nat):Int):=by
 have a:((r:Int) / 16)=((r / 16:Nat):Int):=by omega
 rw [a,u32_xor_nat _ _ (by omega) (uX 4 (by omega)),<-U2]
def FY (b o n c:Nat) (l:List Int) (w:World) (d:Bytes l) (F:l.length=n) (G:n<=140737488355328) (p:∀i,i<n->w.cell? ⟨b,o+i,none⟩=some (.int .u8 (l.getD i 0))):
  Calls prog 178 #[.agg xT.toArray, .int .u32 4294967295, .slice (some (aD b o)) n c] w λe w'=>e= .returned (.int .u32 ((nj 4294967295 l:Nat):Int))/\bW w w':=by
 go_in;go_wp2;go_loopw [1,11] (λr i wr=>∃k:Nat,k<=n/\i=iV k/\wr=w.alloc (.cells xT.toArray 209)/\r= .int .u32 ((nj 4294967295 (l.take k):Nat):Int)) (λ_ i _=>n-(intOf i).toNat);case atStart=>exact⟨0,dV _,rfl,rfl,by simp [tC]⟩
 case round=>
  obtain⟨k,E,rfl,rfl,rfl⟩:=hrel;by_cases bq:k<n
  .have cC:(k:Int)<(n:Int):=(by omega);have j:(w.alloc (.cells xT.toArray 209)).cell? ⟨b,o+k,none⟩=some (.int .u8 (l.getD k 0)):=Lib.cell?_alloc_some _ (p k bq);have acL:(w.alloc (.cells xT.toArray 209)).heap[w.heap.size]? =some (.cells xT.toArray 209 (0,0)):=heap_alloc_new _ _;have oo:k<l.length:=(by omega);obtain⟨x,f,jJ⟩:∃x:Nat,l.getD k 0=(x:Int)/\x<256:=by
    have:=d l[k] (List.getElem_mem oo);refine⟨(l.getD k 0).toNat,?_,?_⟩<;> simp [List.getD,oo] <;> omega
   have pN:Bytes (l.take k):=λy s=>d y (List.mem_of_mem_take s);have m:nj 4294967295 (l.take k)<4294967296:=sj (by omega) pN;have gu:nj 4294967295 (l.take (k+1))=k9 8 (nj 4294967295 (l.take k) ^^^ x):=by
    rw [List.take_succ_eq_append_getElem oo,yz _ _ pN];congr 2;have:l.getD k 0=l[k]:=(by simp [List.getD,oo]);rw [<-this,f];simp
   rw [f] at j;generalize D:nj 4294967295 (l.take k)=R at*;have a:R ^^^ x<4294967296:=by
    have:R ^^^ x<2 ^ 32:=Nat.xor_lt_two_pow (by omega) (by omega);omega
   have t:bits .xor .u32 (R:Int) (x:Int)=((R ^^^ x:Nat):Int):=u32_xor_nat _ _ m (by omega);have H:=Qu acL ((R ^^^ x)%16) (by omega);have u:=XM (R ^^^ x) a;have v:=FX (R ^^^ x) a;have qP:=uX 4 a;have I:=Qu acL (k9 4 (R ^^^ x)%16) (by omega);have z:=XM (k9 4 (R ^^^ x)) qP;have A:=FX (k9 4 (R ^^^ x)) qP;have C:k9 4 (k9 4 (R ^^^ x))=k9 8 (R ^^^ x):=(tB 4 4 _).symm;have q:IntKind.u32.wrap (x:Int)=(x:Int):=(by rw [IntKind.wrap_u32];omega);go_wp2;go_roundw;case rel=>exact⟨k+1,by omega,by go_num,trivial,by rw [gu]⟩
   case measure=>simp [intOf];omega
  .have cC:¬(k:Int)<(n:Int):=(by omega);have Uo:l.take k=l:=nz (by omega);have g:(bW w (w.alloc (.cells xT.toArray 209))):=(bi _ w).alloc (bS _) _;rw [Uo] at*;go_wp2;go_ret;exact⟨rfl,g⟩
def DN (a:Option Addr) (c:Nat) (w:World):
  Calls prog 178 #[.agg xT.toArray, .int .u32 4294967295, .slice a 0 c] w λe w'=>e= .returned (.int .u32 ((nj 4294967295 []:Nat):Int))/\bW w w':=by
 have b:(bW w (w.alloc (.cells xT.toArray 209))):=(bi _ w).alloc (bS _) _;rw [tC];go_in;go_wp2;refine wp_loop_rounds 1 ?_;rw [rounds_succ];go_wp2;go_ret;exact⟨rfl,b⟩
def FZ (a:Option Addr) (n c:Nat) (l:List Int) (w:World) (f:Bytes l) (g:n<=140737488355328) (d:Src w a n l):
  Calls prog 178 #[.agg xT.toArray, .int .u32 4294967295, .slice a n c] w λe w'=>e= .returned (.int .u32 ((nj 4294967295 l:Nat):Int))/\bW w w':=by
 by_cases h0:n=0
 .subst h0;have:l= []:=List.eq_nil_of_length_eq_zero d.1;subst this;exact DN a c w
 .cases a with
  |none=>exact absurd (d.2.1 rfl) h0
  |some x=>
   obtain⟨b,o,rfl,k⟩:=d.spot (by omega);exact FY b o n c l w f d.1 g k
def Qv (r:Nat) (a:r<4294967296):bits .xor .u32 IntKind.u32.max (r:Int)=((r ^^^ 4294967295:Nat):Int):=by
 have e:IntKind.u32.max=((4294967295:Nat):Int):=by decide
 rw [e,u32_xor_nat _ _ (by omega) a,Nat.xor_comm]
def xV (a:Option Addr) (n c:Nat) (l:List Int) (w:World) (b:Bytes l) (d:n<=140737488355328) (f:Src w a n l):
  Calls prog 146 #[.slice a n c] w λe w'=>e= .returned (iV ((sumOf l:Nat):Int))/\bW w w':=by
 have Vn:=Qv _ (sj (r:=4294967295) (by omega) b);have XN:nj 4294967295 l ^^^ 4294967295<4294967296:=ny b;have g:wrap64 ((nj 4294967295 l ^^^ 4294967295:Nat):Int)=((nj 4294967295 l ^^^ 4294967295:Nat):Int):=by unfold wrap64;omega
 unfold sumOf;go_in;go_wp2_with fail;refine(JH w).mono ?_;rintro e w1 ⟨rfl,ar⟩;go_wp2_with fail;refine(FZ a n c l w1 b d (f.later ar)).mono ?_;rintro e i ⟨rfl,bd⟩;go_wp2;go_ret;exact⟨rfl,ar.trans (bd.mono ar.size)⟩
structure pO (w:World) where
 to:World
 h:bW w to
def ai {B:Nat} {a:World} (h:Below B a w):Below B a w.drew:=⟨h.os,h.tape,h.output,h.size,h.block⟩
theorem pO.some (w:World):Nonempty (pO w):=⟨⟨w,bi _ _⟩⟩
def xu {P:Program} {e:Nat} {Q:Exit->Act->World->Prop} {a:Act} {l:List Oper} (d:P.follows .mixedOrders=true) (c:Region.lexB .any l.toArray=true)
    (h:wpQuiet P l.toArray (λw'=>∃q:pO w,w'=q.to) (λb=>∀w',(∃q:pO w,w'=q.to)->Q .normal b w') l a):(Code.region e l.toArray true).wp P Q a w:=
 wp_region_quiet (C:=λw'=>∃q:pO w,w'=q.to) d c ⟨⟨w.drew,ai (bi _ _)⟩,rfl⟩ (by simpa using h)
def Calls.Qw {P:Program} {f:FuncId} {args:Array Value} {q:pO w}
    (h:Calls P f args q.to λe w'=>e= .returned v/\Below q.to.heap.size q.to w'):Calls P f args q.to λe Bq=>e= .returned v/\∃q':pO w,Bq=q'.to:=
 h.mono λ_ w' ⟨a,b⟩=>⟨a,⟨w',q.h.trans (b.mono q.h.size)⟩,rfl⟩
def Own (w:World) (B:Nat) (v:Value) (l:List Int):Prop:=w.ownsRow B 5 1 v l.length (bs l)
def Own.nil (w:World) (B:Nat):Own w B (.slice none 0 0) []:=⟨by simp, .inl ⟨rfl,rfl⟩⟩
def Own.src {B:Nat} (h:Own w B v l):∃a c,v= .slice a l.length c/\Src w a l.length l/\l.length<=c/\(∀x,a=some x->B<=x.block/\x.off=0):=by
 by_cases f:v= .slice none 0 0
 .subst f;have h0:l.length=0:=by
   obtain⟨_,⟨_,j⟩|⟨g,c,cur,e,_⟩⟩:=h
   .exact j
   .cases e
  obtain rfl:=List.eq_nil_of_length_eq_zero h0;exact⟨none,0,rfl,⟨rfl,λ_=>rfl,λx b=>by cases b⟩,bS _,λx b=>by cases b⟩
 .obtain⟨g,c,rfl,i,d,_⟩:=ay.fe h f;refine⟨some (aD g 0),c,rfl,d.src,?_,λx b=>by cases b;exact⟨i,rfl⟩⟩;have:=d.le;simpa [bs] using this
def Own.row {B:Nat} {a:Option Addr} (h:Own w B (.slice a n c) l) (h0:0<l.length):∃g,a=some (aD g 0)/\n=l.length/\B<=g/\ay w 5 g c (bs l):=by
 obtain⟨g,c',e,b,d,_⟩:=ay.fe h (by
  intro e;cases e;obtain⟨_,⟨_,f⟩|⟨g,c,cur,e,_⟩⟩:=h
  .omega
  .cases e)
 cases e;exact⟨g,rfl,rfl,b,d⟩
def Own.later {B:Nat} (h:Own w B v l) (i:bW w w'):Own w' B v l:=by
 by_cases d:v= .slice none 0 0
 .subst d;obtain⟨f,⟨_,o⟩|⟨g,c,cur,e,_⟩⟩:=h
  .exact⟨f, .inl ⟨rfl,o⟩⟩
  .cases e
 .obtain⟨g,c,rfl,k,a,p⟩:=ay.fe h d;have BA:=a.agree (i.block g a.lt);have m:=BA.le;obtain⟨cur,eH,j,b,n⟩:=BA;have Up:(bs l).length=l.length:=by simp [bs]
  exact⟨by simp [bs], .inr ⟨g,c,cur,rfl,k,eH,by omega,n,by simpa using j,by rw [Up] at b;simpa using b⟩⟩
def Own.down {B B':Nat} (h:Own w B v l) (f:B'<=B):Own w B' v l:=by
 obtain⟨a,b|⟨g,c,cur,e,i,d⟩⟩:=h
 .exact⟨a, .inl b⟩
 .exact⟨a, .inr ⟨g,c,cur,e,by omega,d⟩⟩
def iQ (a b:List Int):bs (a ++ b)=bs a ++ bs b:=List.map_append
def Vo (a:List Int) (x:Int):bs a ++ [.int .u8 x]=bs (a ++ [x]):=by rw [iQ];rfl
def j9 (l:List Int) (k:Nat) (h:k<l.length):l.take k ++ [l.getD k 0]=l.take (k+1):=by
 rw [List.take_succ_eq_append_getElem h];simp [List.getD,h]
def DO (h:l.take k=l'.take k) (a:k<l.length) (b:k<l'.length) (e:l.getD k 0=l'.getD k 0):l.take (k+1)=l'.take (k+1):=by
 rw [List.take_succ_eq_append_getElem a,List.take_succ_eq_append_getElem b,h];simp [List.getD,a,b] at e;rw [e]
def JI (e:l.getD k 0≠l'.getD k 0):l≠l':=λh=>e (by rw [h])
def sec (l:List Int):List Int:=(List.range 512).map (λi=>l.getD i 0)
def DP {B:Nat} {m:List Int} (h:w.ownsRow B 5 1 v k (bs l)) (a:m.length=k) (e:m=l):Own w B v m:=by
 subst e;subst a;exact h
abbrev kJ (p:Nat) (f n:Int):Value:= .agg #[pQ p,iV f,iV n]
def F0 (p:Nat) (f n:Int) (w:World) (a:0<=f) (Be:f<=100000) (b:0<=n) (mS:n<=100000):
  Calls prog 147 #[kJ p f n] w λe w'=>e= .returned (iV (f+2+n))/\bW w w':=by
 go_in;go_wp2;go_ret;exact⟨rfl,(bi w.heap.size w).alloc (bS _) (.cells #[.pointer (some ⟨p,0,none⟩), .int .i64 f, .int .i64 n] 144)⟩
def L8 (p:Nat) (f n x:Int) (w:World) (g:0<=f) (Be:f<=100000) (i:1<=n) (mS:n<=100000) (a:0<=x):
  Calls prog 191 #[kJ p f n,iV x] w λe w'=>e= .returned (iV (f+2+x%n))/\bW w w':=by
 have b:0<=x%n:=Int.emod_nonneg _ (by omega);have c:x%n<n:=Int.emod_lt_of_pos _ (by omega);have d:x.tmod n=x%n:=Int.tmod_eq_emod_of_nonneg a;generalize x%n=y at*;go_in;go_wp2
 go_region
 go_wp2;go_ret;exact⟨rfl,ai ((bi w.heap.size w).alloc (bS _) (.cells #[.pointer (some ⟨p,0,none⟩), .int .i64 f, .int .i64 n] 144))⟩
def cy (S:DS) (s:Nat) (f n:Int):Int:=
 if S.fuse=0 then 3 else if f<0\/(s:Int)<=f then 11 else if n<18\/256<n then 1 else if (s:Int)<f+2+n then 11 else 0
def aQ.boxed {s:Nat} (h:aQ w F p s S) (o:Obj):aQ (w.alloc o) F p s S:=
 h.aw (aa.ah (λ_=>False) ((bi w.heap.size w).alloc (bS _) o)) (λ_ _ h=>h)
def F6 {s:Nat} (h:aQ w F p s S) (f n:Int) (v:s<=2048):
  Calls prog 103 #[kJ p f n] w λe w'=>e= .returned (iV (cy S s f n))/\bW w w':=by
 have c:=(bi w.heap.size w).alloc (bS _) (.cells #[.pointer (some ⟨p,0,none⟩), .int .i64 f, .int .i64 n] 144);have d:=yE (h.boxed (.cells #[.pointer (some ⟨p,0,none⟩), .int .i64 f, .int .i64 n] 144));have b:=iu (h.boxed (.cells #[.pointer (some ⟨p,0,none⟩), .int .i64 f, .int .i64 n] 144));have i:=F0 p f n (w.alloc (.cells #[.pointer (some ⟨p,0,none⟩), .int .i64 f, .int .i64 n] 144));unfold cy;go_in;by_cases g:S.fuse=0
 .rw [show (S.fuse == 0)=true by simp [g]] at b;rw [aG g];go_wp2_with (first|(go_at_call 47;refine d.mono ?_;rintro e w' ⟨rfl,a⟩;subst a)|(go_at_call 35;refine b.mono ?_;rintro e w' ⟨rfl,a⟩;subst a));go_ret;exact⟨rfl,c⟩
 .rw [show (S.fuse == 0)=false by simp [g]] at b;rw [aB g];by_cases j:f<0\/(s:Int)<=f
  .rw [aG j];by_cases o:f<0
   .clear j;go_wp2_with (first|(go_at_call 47;refine d.mono ?_;rintro e w' ⟨rfl,a⟩;subst a)|(go_at_call 35;refine b.mono ?_;rintro e w' ⟨rfl,a⟩;subst a));go_ret;exact⟨rfl,c⟩
   .have q:(s:Int)<=f:=(by omega);go_wp2_with (first|(go_at_call 47;refine d.mono ?_;rintro e w' ⟨rfl,a⟩;subst a)|(go_at_call 35;refine b.mono ?_;rintro e w' ⟨rfl,a⟩;subst a));go_ret;exact⟨rfl,c⟩
  .rw [aB j];have o:¬f<0:=(by omega);have q:¬(s:Int)<=f:=(by omega);by_cases k:n<18\/256<n
   .rw [aG k];by_cases r:n<18
    .clear k;go_wp2_with (first|(go_at_call 47;refine d.mono ?_;rintro e w' ⟨rfl,a⟩;subst a)|(go_at_call 35;refine b.mono ?_;rintro e w' ⟨rfl,a⟩;subst a));go_ret;exact⟨rfl,c⟩
    .have t:256<n:=(by omega);go_wp2_with (first|(go_at_call 47;refine d.mono ?_;rintro e w' ⟨rfl,a⟩;subst a)|(go_at_call 35;refine b.mono ?_;rintro e w' ⟨rfl,a⟩;subst a));go_ret;exact⟨rfl,c⟩
   .rw [aB k];have r:¬n<18:=(by omega);have t:¬256<n:=(by omega);have i:=i (by omega) (by omega) (by omega) (by omega);by_cases m:(s:Int)<f+2+n
    .rw [aG m];go_wp2_with (first|(go_at_call 47;refine d.mono ?_;rintro e w' ⟨rfl,a⟩;subst a)|(go_at_call 35;refine b.mono ?_;rintro e w' ⟨rfl,a⟩;subst a));refine bN i λu l=>?_;go_wp2;go_ret;exact⟨rfl,c.trans (l.mono c.size)⟩
    .rw [aB m];go_wp2_with (first|(go_at_call 47;refine d.mono ?_;rintro e w' ⟨rfl,a⟩;subst a)|(go_at_call 35;refine b.mono ?_;rintro e w' ⟨rfl,a⟩;subst a));refine bN i λu l=>?_;go_wp2;go_ret;exact⟨rfl,c.trans (l.mono c.size)⟩
def pP (a b:Nat) (e:a<4294967296) (f:b<4294967296):bits .xor .i64 (a:Int) (b:Int)=((a ^^^ b:Nat):Int):=by
 have g:a ^^^ b<2 ^ 32:=Nat.xor_lt_two_pow (by omega) (by omega);have c:(BitVec.ofInt 64 (a:Int)).toNat=a:=by rw [BitVec.ofInt_natCast,BitVec.toNat_ofNat];exact Nat.mod_eq_of_lt (by omega)
 have d:(BitVec.ofInt 64 (b:Int)).toNat=b:=by rw [BitVec.ofInt_natCast,BitVec.toNat_ofNat];exact Nat.mod_eq_of_lt (by omega)
 show IntKind.i64.wrap ((BitVec.ofInt 64 (a:Int) ^^^ BitVec.ofInt 64 (b:Int)).toNat:Int)=_;rw [BitVec.toNat_xor,c,d,IntKind.wrap_i64];omega
def Qx (a:Nat) (d:a<4294967296):bits .and .i64 (a:Int) 1=((a%2:Nat):Int):=by
 have b:(BitVec.ofInt 64 (a:Int)).toNat=a:=by rw [BitVec.ofInt_natCast,BitVec.toNat_ofNat];exact Nat.mod_eq_of_lt (by omega)
 have c:(BitVec.ofInt 64 (1:Int)).toNat=1:=by decide
 show IntKind.i64.wrap ((BitVec.ofInt 64 (a:Int) &&& BitVec.ofInt 64 (1:Int)).toNat:Int)=_;rw [BitVec.toNat_and,b,c,IntKind.wrap_i64,Nat.and_one_is_mod];omega
def Qy (b o n c:Nat) (l:List Int) (w:World) (j:Bytes l) (F:l.length=n) (H:n<=140737488355328) (q:∀i,i<n->w.cell? ⟨b,o+i,none⟩=some (.int .u8 (l.getD i 0))):
  Calls prog 238 #[.slice (some (aD b o)) n c] w λe w'=>e= .returned (iV ((sumOf l:Nat):Int))/\bW w w':=by
 have t:=yh q;clear q;unfold sumOf;go_in;go_wp2;go_loopw [3,4] (λr i wr=>∃k:Nat,k<=n/\i=iV k/\wr=w/\r=iV ((nj 4294967295 (l.take k):Nat):Int)) (λ_ i _=>n-(intOf i).toNat);case atStart=>exact⟨0,dV _,rfl,rfl,by simp [tC]⟩
 case round=>
  obtain⟨k,E,rfl,rfl,rfl⟩:=hrel;by_cases bq:k<n
  .have cC:(k:Int)<(n:Int):=(by omega);have z:=t.o k bq;have oo:k<l.length:=(by omega);obtain⟨x,p,jJ⟩:∃x:Nat,l.getD k 0=(x:Int)/\x<256:=by
    have:=j l[k] (List.getElem_mem oo);refine⟨(l.getD k 0).toNat,?_,?_⟩<;> simp [List.getD,oo] <;> omega
   have pN:Bytes (l.take k):=λy C=>j y (List.mem_of_mem_take C);have d:nj 4294967295 (l.take k)<4294967296:=sj (by omega) pN;have gu:nj 4294967295 (l.take (k+1))=k9 8 (nj 4294967295 (l.take k) ^^^ x):=by
    rw [List.take_succ_eq_append_getElem oo,yz _ _ pN];congr 2;have:l.getD k 0=l[k]:=(by simp [List.getD,oo]);rw [<-this,p];simp
   have g:=yh gu;rw [p] at z;generalize v:nj 4294967295 (l.take k)=R at*;have A:R ^^^ x<4294967296:=by
    have:R ^^^ x<2 ^ 32:=Nat.xor_lt_two_pow (by omega) (by omega);omega
   have u:bits .xor .i64 (R:Int) (x:Int)=((R ^^^ x:Nat):Int):=pP _ _ d (by omega);clear gu v pN d p;go_wp2;go_loopw [3,5] (λr i wx=>∃m:Nat,m<=8/\i=iV m/\wx=wr/\r=iV ((k9 m (R ^^^ x):Nat):Int)) (λ_ i _=>8-(intOf i).toNat);case atStart=>exact⟨0,dV _,rfl,rfl,rfl⟩
   case round=>
    obtain⟨m,G,rfl,rfl,rfl⟩:=hrel;have d:=uX m A;by_cases xU:m<8
    .have Bz:(m:Int)<8:=(by omega);have bF:cb (k9 m (R ^^^ x))=k9 (m+1) (R ^^^ x):=(by rw [tB];rfl);generalize k9 m (R ^^^ x)=S at*;have f:=yh bF;clear bF;have I:=Qx S d;rcases Nat.mod_two_eq_zero_or_one S with a|a
     .have D:(((S%2:Nat):Int) == 1)=false:=(by rw [a];rfl);have Zm:Yh (cb S=S / 2):=(by show cb S=S / 2;simp [cb,a]);clear a;go_wp2;go_roundw;case rel=>exact⟨m+1,by omega,by go_num,trivial,by rw [<-f.o,Zm.o];first|(rw [Int.natCast_ediv];rfl)|rw [s.out]⟩
      case measure=>simp [intOf];omega
     .have D:(((S%2:Nat):Int) == 1)=true:=(by rw [a];rfl);have s:Yh (bits .xor .i64 ((S:Int) / 2) 2197175160=((S / 2 ^^^ 2197175160:Nat):Int)):=pP (S / 2) 2197175160 (by omega) (by omega);have Zm:Yh (cb S=S / 2 ^^^ 2197175160):=(by show cb S=S / 2 ^^^ 2197175160;simp [cb,a]);clear a;go_wp2;go_roundw;case rel=>exact⟨m+1,by omega,by go_num,trivial,by rw [<-f.o,Zm.o];first|(rw [Int.natCast_ediv];rfl)|rw [s.out]⟩
      case measure=>simp [intOf];omega
    .have Bz:¬(m:Int)<8:=(by omega);have XO:m=8:=(by omega);subst XO;go_wp2;go_roundw;case rel=>exact⟨k+1,by omega,by go_num,trivial,by rw [g.o]⟩
     case measure=>simp [intOf];omega
  .have cC:¬(k:Int)<(n:Int):=(by omega);have Uo:l.take k=l:=nz (by omega);have d:nj 4294967295 l<4294967296:=sj (by omega) j;have u:bits .xor .i64 ((nj 4294967295 l:Nat):Int) 4294967295=((nj 4294967295 l ^^^ 4294967295:Nat):Int):=pP (nj 4294967295 l) 4294967295 d (by omega);rw [Uo] at*;go_wp2;go_ret;exact⟨rfl,(yh (bi wr.heap.size wr)).out⟩
def Nf (a:Option Addr) (c:Nat) (w:World):
  Calls prog 238 #[.slice a 0 c] w λe w'=>e= .returned (iV ((sumOf []:Nat):Int))/\bW w w':=by
 have d:bits .xor .i64 4294967295 4294967295=0:=by decide
 have b:sumOf []=0:=by decide
 rw [b];go_in;go_wp2;refine wp_loop_rounds 1 ?_;rw [rounds_succ];go_wp2;go_ret;exact⟨rfl,bi w.heap.size w⟩
def Qz (a:Option Addr) (n c:Nat) (l:List Int) (w:World) (f:Bytes l) (g:n<=140737488355328) (d:Src w a n l):
  Calls prog 238 #[.slice a n c] w λe w'=>e= .returned (iV ((sumOf l:Nat):Int))/\bW w w':=by
 by_cases h0:n=0
 .subst h0;have:l= []:=List.eq_nil_of_length_eq_zero d.1;subst this;exact Nf a c w
 .cases a with
  |none=>exact absurd (d.2.1 rfl) h0
  |some x=>
   obtain⟨b,o,rfl,k⟩:=d.spot (by omega);exact Qy b o n c l w f d.1 g k
def acN (n:Nat) (a b:Int) (w:World):(Op.equalIn (n+1) 5 (.int .u8 a) (.int .u8 b)).run prog w= .ok (a == b) w:=by
 simp [Op.equalIn,go_sem]
def L9 (xs:Array Value) (a:Nat) (v:Value) (w:World) (h:xs[a]? =some v):(part 5 xs a).run prog w= .ok v w:=run_part_plain (P:=prog) w (by kernel_rfl) h
def Ng (n:Nat) (w:World) (xs c:Array Value) (j:Nat) (a b:Int) (d:List Nat) (e:xs[j]? =some (.int .u8 a)) (f:c[j]? =some (.int .u8 b)):
    (Op.eqItems (n+1) 5 1 xs c (j :: d)).run prog w=if a=b then (Op.eqItems (n+1) 5 1 xs c d).run prog w else .ok false w:=by
 simp only [Op.eqItems,Nat.mul_one,Sem.run_bind,L9 xs j _ w e,L9 c j _ w f,Result.andThen_ok,acN];by_cases h:a=b
 .simp [h]
 .simp [h]
def yU (n:Nat) (l m:List Int) (w:World):∀js:List Nat,(∀j∈js,j<l.length/\j<m.length)->
    (Op.eqItems (n+1) 5 1 (bs l).toArray (bs m).toArray js).run prog w= .ok (decide (∀j∈js,l.getD j 0=m.getD j 0)) w
 | [],_=>by simp [Op.eqItems]
 |j :: js,h=>by
  obtain⟨f,g⟩:=h j (by simp);have d:(bs l).toArray[j]? =some (.int .u8 (l.getD j 0)):=by simp [bs,List.getD,f]
  have e:(bs m).toArray[j]? =some (.int .u8 (m.getD j 0)):=by simp [bs,List.getD,g]
  rw [Ng n w _ _ j _ _ js d e];by_cases c:l.getD j 0=m.getD j 0
  .rw [aG c,(yU n l m w js (λi a=>h i (by simp [a])))];refine congrArg (λb=>Result.ok b w) ?_;rw [decide_eq_decide];exact⟨λk i a=>by rcases List.mem_cons.1 a with rfl|a;exact c;exact k i a,λk i a=>k i (by simp [a])⟩
  .rw [aB c];refine congrArg (λb=>Result.ok b w) ?_;symm;rw [decide_eq_false_iff_not];exact λk=>c (k j (by simp))
def QA {m:List Int} (b:l.length=m.length) (h:∀i,i<l.length->l.getD i 0=m.getD i 0):l=m:=by
 apply List.ext_getElem?;intro i;by_cases a:i<l.length
 .have:=h i a;simp only [List.getD,List.getElem?_eq_getElem a,List.getElem?_eq_getElem (show i<m.length by omega),Option.getD_some] at this;rw [List.getElem?_eq_getElem a,List.getElem?_eq_getElem (show i<m.length by omega),this]
 .rw [List.getElem?_eq_none (by omega),List.getElem?_eq_none (by omega)]
def JJ (N n:Nat) (T:TypeId) (l m:List Int) (f:l.length=N) (g:m.length=N) (w:World) (e:prog.underlying T=some (.array N 5)):
    (Op.equalIn (n+2) T (.agg (bs l).toArray) (.agg (bs m).toArray)).run prog w= .ok (decide (l=m)) w:=by
 obtain⟨k,c⟩:=info_of_underlying (P:=prog) underlying5;rw [run_equalIn_array (P:=prog) w (n+1) _ _ e c];have a:prog.cellsOf 5=1:=by kernel_rfl
 rw [a,yU n l m w _ (λj d=>by rw [List.mem_range] at d;omega)];refine congrArg (λb=>Result.ok b w) ?_;rw [decide_eq_decide];constructor
 .intro h;exact QA (by omega) (λi c=>h i (List.mem_range.2 (by omega)))
 .rintro rfl _ _;rfl
def Zn (n:Nat) (l m:List Int) (a:l.length=512) (b:m.length=512) (w:World):
    (Op.equalIn (n+2) 211 (.agg (bs l).toArray) (.agg (bs m).toArray)).run prog w= .ok (decide (l=m)) w:=
 JJ 512 n 211 l m a b w underlying211
def QB:prog.eqGuardType prog.depth 211=false:=by kernel_rfl
def QC (l m:List Int) (a:l.length=512) (b:m.length=512) (w:World) (x y:Operand):
    (do eqGuard .eql 211 x y (.agg (bs l).toArray) (.agg (bs m).toArray);binOp .eql 211 (.agg (bs l).toArray) (.agg (bs m).toArray)).run prog w= .ok (.bool (decide (l=m))) w:=by
 rw [Sem.run_bind,run_eqGuard_agg (P:=prog) w .eql 211 x y _ _ QB,Result.andThen_ok];show (binOp .eql 211 (.agg (bs l).toArray) (.agg (bs m).toArray)).run prog w=_;unfold binOp Op.equal Op.maxDepth;rw [Sem.run_bind,Zn 9998 l m a b w,Result.andThen_ok,Sem.run_pure]
def mw (g o i j:Nat) (w:World) (a:i<j) (f:j<=512):
  Calls prog 221 #[.pointer (some (aD g o)),iV (i:Int),iV (j:Int)] w λe w'=>e= .returned (.slice (some ⟨g,o+i,none⟩) (j-i) (j-i))/\w'=w:=by
 have b:(i:Int)<=(j:Int):=by omega
 have c:(j:Int)<=512:=by omega
 have d:¬j=i:=by omega
 go_in;go_wp2;go_ret;exact⟨rfl,rfl⟩
def QD (g o i:Nat) (w:World) (b:i<=512):
  Calls prog 221 #[.pointer (some (aD g o)),iV (i:Int),iV (i:Int)] w λe w'=>e= .returned (.slice (some (aD g o)) 0 0)/\w'=w:=by
 have a:(i:Int)<=512:=by omega
 go_in;go_wp2;go_ret;exact⟨rfl,rfl⟩
def bB:Nat->Nat->List Int
 |0,_=> []
 |k+1,m=>((m%256:Nat):Int) :: bB k (m / 256)
def aK:∀k m,(bB k m).length=k
 |0,_=>rfl
 |k+1,m=>by simp [bB,aK k]
def i8:∀k m,bB (k+1) m=bB k m ++ [((m / 2 ^ (8*k)%256:Nat):Int)]
 |0,m=>by simp [bB]
 |k+1,m=>by
  rw [bB,i8 k (m / 256),bB];have:m / 256 / 2 ^ (8*k)=m / 2 ^ (8*(k+1)):=by
   rw [Nat.div_div_eq_div_mul,show 8*(k+1)=8+8*k by omega,Nat.pow_add]
  simp [this]
def iR:∀k m,Bytes (bB k m)
 |0,_=>by intro x a;cases a
 |k+1,m=> .cons (by omega) (iR k _)
def put (l:List Int) (o:Nat) (xs:List Int):List Int:=l.take o ++ (xs ++ l.drop (o+xs.length))
def Ma {o:Nat} (h:o+xs.length<=l.length):(put l o xs).length=l.length:=by simp [put];omega
def DQ (l:List Int) (o:Nat):put l o []=l:=by simp [put]
def F8 {o:Nat} (h:o+xs.length<l.length) (x:Int):(put l o xs).set (o+xs.length) x=put l o (xs ++ [x]):=by
 unfold put;have a:(l.take o).length=o:=by simp;omega
 rw [List.set_append_right _ _ (by omega),a,List.set_append_right _ _ (by omega),show o+xs.length-o-xs.length=0 by omega];have:l.drop (o+xs.length)=l[o+xs.length] :: l.drop (o+xs.length+1):=List.drop_eq_getElem_cons h;rw [this,List.set_cons_zero];simp [Nat.add_assoc]
def kf (w:World) (T:TypeId) (g:Nat) (l:List Int):Prop:=w.heap[g]? =some (.cells (bs l).toArray T (0,0))
def kf.lt (h:kf w T g l):g<w.heap.size:=(lV.1 h).1
def kf.cell (h:kf w T g l) (a:i<l.length):w.cell? (aD g i)=some (.int .u8 (l.getD i 0)):=
 aj h (by simp [bs,List.getD,a])
def kf.frozen (h:kf w T g l) (i:Nat):w.frozen? (aD g i)=false:=ae h i
def kf.set (h:kf w T g l) (i:Nat) (x:Int):kf (w.setCell ⟨g,i,none⟩ (.int .u8 x)) T g (l.set i x):=by
 unfold kf;rw [heap_setCell_same _ _ _ _ _ _ h];congr 2;apply Array.ext';simp [bs,List.map_set]
def kf.aw (h:kf w T g l) (a:w'.heap[g]? =w.heap[g]?):kf w' T g l:=a.trans h
def kf.src (h:kf w T g l) {o:Nat} (c:o+n<=l.length):Src w (some (aD g o)) n ((l.drop o).take n):=
   ⟨by simp;omega,(λe=>by cases e),λx b i a=>by
  cases b;rw [aN,h.cell (by omega)];simp [List.getD,a]⟩
def DR (g o k c N:Nat) (T:TypeId) (l:List Int) (w:World) (d:kf w T g l) (q:k<=8) (r:o+k<=l.length):
  Calls prog 220 #[.slice (some (aD g o)) k c, .int .u64 (N:Int)] w λe w'=>e= .returned (.tuple #[])/\kf w' T g (put l o (bB k N))/\aa (λj=>j=g) w w'/\w'.heap.size=w.heap.size:=by
 go_in;go_wp2;go_loopw [7] (λi wr=>∃j:Nat,j<=k/\i=iV j/\kf wr T g (put l o (bB j N))/\aa (λj=>j=g) w wr/\wr.heap.size=w.heap.size) (λi _=>k-(intOf i).toNat);case atStart=>exact⟨0,dV _,rfl,by rw [bB,DQ];exact d,aa.refl _ _,rfl⟩
 case round=>
  obtain⟨j,n,rfl,aV,rM,ee⟩:=hrel;by_cases bq:j<k
  .have cC:(j:Int)<(k:Int):=(by omega);have a:=aK j N;have pC:=Ma (l:=l) (xs:=bB j N) (o:=o) (by omega);have f:=aV.cell (i:=o+j) (by omega);have m:=aV.frozen (o+j);have pi:=aV.set (o+j) ((N / 2 ^ (8*j)%256:Nat):Int);have e:=F8 (l:=l) (xs:=bB j N) (o:=o) (by omega) ((N / 2 ^ (8*j)%256:Nat):Int);rw [a] at e;rw [e,<-i8] at pi;have b:=(rM.trans (aa.setCell (F:=λj=>j=g) (p:=⟨g,o+j,none⟩) wr rfl (.int .u8 ((N / 2 ^ (8*j)%256:Nat):Int))) (λ_ h=> .inl h));go_wp2;go_roundw;case rel=>exact⟨j+1,by omega,by go_num,pi,b,by simpa [World.setCell] using ee⟩
   case measure=>simp [intOf];omega
  .have cC:¬(j:Int)<(k:Int):=(by omega);obtain rfl:j=k:=(by omega);go_wp2
   go_end0
   exact⟨rfl,aV,rM,ee⟩
def Zo (i A X:Nat) (c:A<2 ^ i) (h:A+2 ^ i*X<18446744073709551616):
  bits .or .u64 (A:Int) ((2 ^ i*X:Nat):Int)=((A+2 ^ i*X:Nat):Int):=by
 have q:∀z:Nat,z<18446744073709551616->(BitVec.ofInt 64 (z:Int)).toNat=z:=by
  intro z d;rw [BitVec.toNat_ofInt];omega
 have a:A<18446744073709551616:=by omega
 have b:2 ^ i*X<18446744073709551616:=by omega
 show IntKind.u64.wrap ((BitVec.ofInt 64 (A:Int) |||BitVec.ofInt 64 ((2 ^ i*X:Nat):Int)).toNat:Int)=_;rw [BitVec.toNat_or,q A a,q _ b,Nat.or_comm,<-Nat.two_pow_add_eq_or_of_lt c X,Nat.add_comm];generalize A+2 ^ i*X=Z at*;simp only [IntKind.wrap,IntKind.bits,IntKind.signed];simp;omega
def Vp (x:Int) (k:Nat) (a:k<8):(x*2 ^ min ((8*(k:Int)).toNat) 64)=x*2 ^ (8*k):=by
 congr 2;omega
def lF (a:k<l.length):le (l.take (k+1))=le (l.take k)+2 ^ (8*k)*(l.getD k 0).toNat:=by
 rw [List.take_succ_eq_append_getElem a,uY];have:(l.take k).length=k:=by simp;omega
 rw [this];simp [le,List.getD,a]
def F9 (a:Bytes l) (h:l.length<=8):le l<18446744073709551616:=by
 have:=lz a;exact i6 this (by have:=Nat.pow_le_pow_right (show 0<2 by omega) (show 8*l.length<=64 by omega);simpa using this)
def vj (b o n c:Nat) (l:List Int) (w:World) (d:Bytes l) (u:l.length=n) (v:n<=8) (g:∀i,i<n->w.cell? ⟨b,o+i,none⟩=some (.int .u8 (l.getD i 0))):
  Calls prog 240 #[.slice (some (aD b o)) n c] w λe w'=>e= .returned (.int .u64 ((le l:Nat):Int))/\w'=w:=by
 have m:=yh g;clear g;go_in;go_wp2;go_loopw [3,8] (λr i wr=>∃j:Nat,j<=n/\i=iV j/\wr=w/\r= .int .u64 ((le (l.take j):Nat):Int)) (λ_ i _=>n-(intOf i).toNat);case atStart=>exact⟨0,dV _,rfl,rfl,by simp [le]⟩
 case round=>
  obtain⟨j,t,rfl,rfl,rfl⟩:=hrel;by_cases bq:j<n
  .have cC:(j:Int)<(n:Int):=(by omega);have q:=m.o j bq;obtain⟨x,s,jJ⟩:∃x:Nat,l.getD j 0=(x:Int)/\x<256:=by
    have:=d.getD j;exact⟨(l.getD j 0).toNat,by omega,by omega⟩
   have iz:=lF (l:=l) (k:=j) (by omega);have f:le (l.take j)<2 ^ (8*j):=by
    have:=lz (d.take j);have e:(l.take j).length=j:=(by simp;omega);rwa [e] at this
   have a:le (l.take (j+1))<18446744073709551616:=F9 (d.take _) (by simp;omega);rw [s] at q iz;simp only [Int.toNat_natCast] at iz;rw [iz] at a;have Nh:=Zo (8*j) _ x f a;rw [<-iz] at Nh;have Zp:((x:Int)*2 ^ (8*j))=((2 ^ (8*j)*x:Nat):Int):=(by rw [Int.natCast_mul,Int.natCast_pow,Int.mul_comm];rfl);have tG:((2 ^ (8*j)*x:Nat):Int)%18446744073709551616=((2 ^ (8*j)*x:Nat):Int):=(by omega);generalize 2 ^ (8*j)*x=Y at*;generalize le (l.take j)=A at*;clear f a iz;go_wp2;go_roundw;case rel=>exact⟨j+1,by omega,by go_num,trivial,by rw [<-(yh Nh).out]⟩
   case measure=>simp [intOf];omega
  .have cC:¬(j:Int)<(n:Int):=(by omega);have p:l.take j=l:=nz (by omega);rw [p] at*;go_wp2;go_ret;exact⟨rfl,rfl⟩
def oy (g o:Nat) (a b:Int) (w:World) (n:w.cell? (aD g o)=some (.int .u8 a)) (p:w.cell? ⟨g,o+511,none⟩=some (.int .u8 b)):
  Calls prog 184 #[.pointer (some (aD g o))] w λe w'=>e= .returned (.int .u8 ((cG a b:Nat):Int))/\w'=w:=by
 have l:=gv a b;have Zq:∀k:Nat,k<cG a b->(k:Int)=a\/(k:Int)=b:=by
  intro k d;unfold cG at d;split at d
  .omega
  .split at d
   .next c f=>omega
   .next c f=>omega
 have dM:=Cq a b;generalize cG a b=t at*;go_in;go_wp2;go_loopw [3] (λi wr=>∃k:Nat,k<=t/\i= .int .u8 k/\wr=w) (λi _=>t-(intOf i).toNat);case atStart=>exact⟨0,dV _,rfl,rfl⟩
 case round=>
  obtain⟨k,d,rfl,rfl⟩:=hrel;by_cases bq:k<t
  .by_cases c:(k:Int)=a
   .have j:((k:Int) == a)=true:=(by simpa using c);go_wp2;go_roundw;case rel=>exact⟨k+1,by omega,by go_num,trivial⟩
    case measure=>simp [intOf];omega
   .have f:=(Zq k bq).resolve_left c;have j:((k:Int) == a)=false:=(by simpa using c);have m:((k:Int) == b)=true:=(by simpa using f);go_wp2;go_roundw;case rel=>exact⟨k+1,by omega,by go_num,trivial⟩
    case measure=>simp [intOf];omega
  .obtain rfl:k=t:=(by omega);have j:((k:Int) == a)=false:=(by simpa using dM.1);have m:((k:Int) == b)=false:=(by simpa using dM.2);go_wp2;go_ret;exact⟨rfl,rfl⟩
def QE (g:Nat) (T:TypeId) (l:List Int) (w:World) (d:kf w T g l) (z:l.length=512) (dC:Bytes l):
  Calls prog 222 #[pQ g] w λe w'=>e= .returned (iV ((sumOf (xS l):Nat):Int))/\bW w w':=by
 obtain⟨y,v,gC,dE,ev⟩:=info_parts gh;have s1:=d.src (o:=1) (n:=2) (by omega);have s2:=d.src (o:=7) (n:=504) (by omega);have r:Bytes ((l.drop 1).take 2):=(dC.drop _).take _;have s:Bytes ((l.drop 7).take 504):=(dC.drop _).take _;unfold xS;generalize (l.drop 1).take 2=X at*;generalize (l.drop 7).take 504=Y at*;go_in;go_wp2_with fail;refine(mw g 0 1 3 w (by omega) (by omega)).mono ?_;rintro e w1 ⟨rfl,i⟩;have eM:=i.symm;subst eM;go_wp2_with fail;refine(mw g 0 7 511 w (by omega) (by omega)).mono ?_;rintro e w1 ⟨rfl,i⟩;have eM:=i.symm;subst eM;go_wp2_with (at_builtin;refine wpList_append_grows _ rfl _ _ 36 rfl 5 y (.int .u8 0) 1 1 underlying36 v gC dE ev rfl (by decide) (some (aD g 1)) 2 2 (bs X) rfl ?m0 ?m1 ?m2 (aD g 7) 504 504 (bs Y) rfl ?m3 ?m4 ?m5 ?m6 ?m7 ?m8 ?_);case m0=>intro h;cases h
 case m1=>have:=s1.1;simpa [bs] using this
 case m2=>
  intro b d j u f;cases d;obtain⟨Zr,rfl⟩:=fx f;have:=s1.1;exact s1.2.2 _ rfl j (by omega)
 case m3=>have:=s2.1;simpa [bs] using this
 case m4=>
  intro j u f;obtain⟨Zr,rfl⟩:=fx f;have:=s2.1;exact s2.2.2 _ rfl j (by omega)
 case m5=>exact cF _
 case m6=>omega
 case m7=>unfold maxLen;omega
 case m8=>omega
 intro A w1 aA aR;have t:=DP (l:=X ++ Y) (by rw [iQ];exact aA) (by have:=s1.1;have:=s2.1;simp;omega) rfl;obtain⟨a,c,rfl,fS,_,_⟩:=t.src;have q:=xV a (X ++ Y).length c (X ++ Y) w1 (r.append s) (by have:=s1.1;have:=s2.1;simp;omega) fS;have m:=(bi _ w).grown aR (bS _) (by intro k x;cases x);generalize (X ++ Y).length=N at*;obtain⟨E,p⟩:=bQ (sumOf (X ++ Y));rw [<-p] at q;go_wp2_with fail;refine bN q λC bd=>?_;go_wp2;go_ret;exact⟨by rw [<-p];rfl,m.trans (bd.mono m.size)⟩
def zs (n:Nat):List Int:=List.replicate n 0
def bH (n:Nat):(zs n).length=n:=List.length_replicate
def oz (n:Nat):zs (n+1)=0 :: zs n:=List.replicate_succ
def lY (n m:Nat):zs (n+m)=zs n ++ zs m:=by unfold zs;rw [List.replicate_append_replicate]
def bm:Array Value:=(bs (zs 512)).toArray
def Mb:(prog.info? 211).map (λi=>(i.zero,i.size))=some (some (.agg bm),512):=by kernel_rfl
def jk (w:World):(zeroValue 211).run prog w= .ok (.agg bm) w:=by
 obtain⟨i,b,a⟩:=Option.map_eq_some_iff.1 Mb;simp only [Prod.mk.injEq] at a;simp [zeroValue,typeInfo,b,a.1]
def DT:(prog.info? 211).map (·.size)=some 512:=by
 obtain⟨i,b,a⟩:=Option.map_eq_some_iff.1 Mb;simp only [Prod.mk.injEq] at a;rw [b,<-a.2];rfl
def ahS (n:Nat) (h:n<65536):bB 2 n= [((n%256:Nat):Int),((n / 256:Nat):Int)]:=by
 simp only [bB];congr 3;omega
def acO (s:Nat):bB 4 s=om s:=by
 simp only [bB,om,Nat.div_div_eq_div_mul]
def QF (l:List Int) (x y:Int):(l ++ [x]).set l.length y=l ++ [y]:=by
 rw [List.set_append_right _ _ (bS _),Nat.sub_self];rfl
def s1 (t:Int):List Int:=t :: (zs 510 ++ [t])
def Zs (t:Int):(s1 t).length=512:=by simp only [s1,List.length_cons,ed,bH,List.length_nil]
def s2 (t:Int) (n:Nat):List Int:=t :: ((n%256:Nat):Int) :: ((n / 256:Nat):Int) :: (zs 508 ++ [t])
def Zt (t:Int) (n:Nat):(s2 t n).length=512:=by simp only [s2,List.length_cons,ed,bH,List.length_nil]
def acP (t:Int) (n:Nat) (h:n<65536):put (s1 t) 1 (bB 2 n)=s2 t n:=by
 rw [ahS n h];unfold s1 s2;rw [oz 509,oz 508];simp only [put,List.take_succ_cons,List.take_zero,List.length_cons,List.length_nil,List.cons_append,List.nil_append,List.drop_succ_cons,List.drop_zero]
def s3 (t:Int) (body:List Int):List Int:=t :: ((body.length%256:Nat):Int) :: ((body.length / 256:Nat):Int) :: 0 :: 0 :: 0 :: 0 :: (body ++ (List.replicate (504-body.length) 0 ++ [t]))
def QG (t:Int) (h:body.length<=504):(s3 t body).length=512:=by simp [s3];omega
def acQ (t:Int) (body:List Int) (h:body.length<=504):put (s2 t body.length) 7 body=s3 t body:=by
 unfold s2 s3;have e:(zs 508 ++ [t])=0 :: 0 :: 0 :: 0 :: (zs body.length ++ (zs (504-body.length) ++ [t])):=by
  rw [<-List.append_assoc,<-lY,show body.length+(504-body.length)=504 by omega,oz 507,oz 506,oz 505,oz 504];rfl
 rw [e];simp only [put,List.take_succ_cons,List.take_zero,List.cons_append,List.nil_append];rw [show 7+body.length=body.length+7 by omega];simp only [List.drop_succ_cons];rw [List.drop_left' (bH _)];rfl
def QH {t:Int} (a:0<=t/\t<256) (b:Bytes body) (h:body.length<=504):Bytes (s3 t body):=
   .cons a (.cons (by omega) (.cons (by omega) (.cons (by omega) (.cons (by omega) (.cons (by omega) (.cons (by omega) (b.append ((Bytes.tL _).append (.cons a .nil)))))))))
def Vq (t:Int) (body:List Int) (h:body.length<=504):xS (s3 t body)=nG body:=by
 unfold xS s3 nG;simp only [List.drop_succ_cons,List.drop_zero,List.take_succ_cons,List.take_zero,List.cons_append,List.nil_append];rw [<-List.append_assoc,List.take_left' (by simp;omega)]
def acR (t:Int) (body:List Int):put (s3 t body) 3 (bB 4 (sumOf (nG body)))=bh t body:=by
 rw [acO];unfold s3 bh;simp only [put,List.take_succ_cons,List.take_zero,ow,List.cons_append,List.nil_append,List.drop_succ_cons,List.drop_zero]
def Zu (l xs:List Int) (o:Nat):splice (bs l) o (bs xs)=bs (put l o xs):=by
 simp [splice,bs,put,List.map_take,List.map_drop]
def QI (w:World) (m T:TypeId) (g b ic Bl:Nat) (a:Option Addr) (j5 Bm:Nat) (cur l:List Int) (d:kf w T g cur)
    (i:Src w a j5 l) (f:j5<=ic) (FD:b+ic<=cur.length):
  ∃w2,(Builtin.copy_ #[36,36] m #[.slice (some (aD g b)) ic Bl, .slice a j5 Bm]).run prog w= .ok (goInt j5) w2/\
   kf w2 T g (put cur b l)/\aa (λk=>k=g) w w2/\w2.heap.size=w.heap.size:=by
 have p:=i.1;by_cases h0:j5=0
 .refine⟨w,?_,?_,aa.refl _ _,rfl⟩
  .have:=run_copy_none (P:=prog) w 36 36 m 5 (some (aD g b)) a ic Bl j5 Bm underlying36 Du (by rw [h0];exact Nat.zero_min _);rw [h0] at this⊢;exact this
  .have:l= []:=List.eq_nil_of_length_eq_zero (by omega);rw [this,DQ];exact d
 .cases a with
  |none=>have:=i.2.1 rfl;omega
  |some x=>
   have c:(bs l).length=Nat.min j5 ic:=by
    have e:Nat.min j5 ic=j5:=Nat.min_eq_left f;simp only [bs,List.length_map,e];omega
   have bD:=run_copy_row (P:=prog) w 36 36 m 5 g b ic Bl x j5 Bm (bs cur).toArray T (bs l) underlying36 Du d c
      (λj v n=>by
     obtain⟨A6,rfl⟩:=fx n;rw [i.2.2 x rfl j (by omega)]) (by simp only [List.size_toArray];simp [bs];omega) (cF _)
   have e:(bs l).length=j5:=(by simp only [bs,List.length_map];omega);rw [e] at bD;refine⟨_,bD,?_,⟨rfl,rfl,rfl,by simp,λk _ o=>setRow_other w g k _ o⟩,by simp⟩;unfold kf;rw [setRow_heap w g _ _ T _ d,<-Zu];simp only [splice,List.append_assoc,e]
def acS (t:Int):(bm.setIfInBounds 0 (Value.int .u8 t)).setIfInBounds 511 (Value.int .u8 t)=(bs (s1 t)).toArray:=by
 apply Array.ext';rw [Array.toList_setIfInBounds,Array.toList_setIfInBounds];unfold bm s1;show ((bs (zs 512)).set 0 (Value.int .u8 t)).set 511 (Value.int .u8 t)=bs (t :: (zs 510 ++ [t]));rw [bs,bs,<-List.map_set,<-List.map_set,oz 511,List.set_cons_zero,List.set_cons_succ,lY 510 1];have:=QF (zs 510) 0 t;rw [bH] at this;have e:zs 1= [0]:=rfl;rw [e,this]
def Ni (h:kf w T g l):w.rangeAt g 0 (bs l):=by
 intro j v b;obtain⟨a,rfl⟩:=fx b;rw [Nat.zero_add];exact h.cell a
def cH (h:w.heap[g]? =some (.cells cur T (0,0))) (b:cur.size=n):w.there g 0 n:=by
 intro j a;rw [Nat.zero_add];exact⟨by rw [aj h (j:=j) (u:=cur[j]'(by omega)) (by simp [show j<cur.size by omega])];rfl,ae h j⟩
def cP:bm.size=512:=by unfold bm;simp only [List.size_toArray,bs,List.length_map,bH]
def i9 (h:l.length=512):(prog.info? 211).map (·.size)=some (bs l).length:=by
 rw [DT,bs,List.length_map,h]
def oA (t:Nat) (a:Option Addr) (n c:Nat) (body:List Int) (w:World) (A:t<256) (m:Src w a n body) (x:n<=504) (q:Bytes body):
  Calls prog 183 #[.int .u8 (t:Int), .slice a n c] w λe w'=>e= .returned (.agg (bs (bh t body)).toArray)/\bW w w':=by
 obtain⟨H,y,Bu⟩:=kH m jk m.1;have A9:=(λw1=>mw (w.heap.size+1) 0 1 3 w1 (by omega) (by omega));have By:=(λw1=>mw (w.heap.size+1) 0 7 511 w1 (by omega) (by omega));have M8:=(λw1=>mw (w.heap.size+1) 0 3 7 w1 (by omega) (by omega));clear m;go_in;go_wp2_with fail;rw [acS];obtain⟨w1,bL⟩:=bQ ((w.alloc (.cells bm 211)).alloc (.cells (bs (s1 t)).toArray 211));have bO:bW w w1:=by rw [bL];exact((bi _ w).alloc (bS _) _).alloc (by simp) _
 have aV:kf w1 211 (w.heap.size+1) (s1 t):=by rw [bL];exact heap_alloc2_new _ _ _
 have jq:w1.heap[w.heap.size]? =some (.cells bm 211 (0,0)):=by rw [bL];exact heap_alloc2_old _ _ _
 rw [<-bL];clear bL y;refine(A9 w1).mono ?_;rintro e w' ⟨rfl,b⟩;have eM:=b.symm;subst eM;clear b A9;have d:=DR (w.heap.size+1) 1 2 2 n 211 (s1 t) w1 aV (by omega) (by rw [Zs];omega);rw [acP t n (by omega)] at d;have Zv:=jq;have cQ:=bO;clear aV jq bO;go_wp2_with fail;refine pr d λr aV l ev=>?_;have eR:=cQ.trans (l.below (λj k=>by omega) cQ.size);have jq:=(l.block _ (lV.1 Zv).1 (by omega)).trans Zv;obtain⟨s,bD,QJ,aZ,lB⟩:=QI r 3 211 (w.heap.size+1) 7 504 504 a n c (s2 t n) body aV (H.later eR) x (by rw [Zt];omega);have jU:=eR.trans (aZ.below (λj k=>by omega) eR.size);have wn:=(aZ.block _ (lV.1 jq).1 (by omega)).trans jq;have g:=acQ t body (by omega);rw [Bu] at g;rw [g] at QJ;obtain⟨Mc,QK,gd⟩:=kH QJ wn jU;clear d aV l eR jq aZ jU wn QJ cQ Zv ev lB g;go_wp2_with fail;refine(By r).mono ?_;rintro e w' ⟨rfl,b⟩;have eM:=b.symm;subst eM;clear b By;go_wp2_with fail;refine(M8 s).mono ?_;rintro e w' ⟨rfl,b⟩;have eM:=b.symm;subst eM;clear b M8 bD;have Ga:=QE (w.heap.size+1) 211 (s3 t body) s Mc (QG t (by omega)) (QH (by omega) q (by omega));rw [Vq t body (by omega)] at Ga;have v:=ny (wl q (show body.length<=504 by omega));have i:=acR t body;obtain⟨E,o⟩:=bQ (sumOf (nG body));rw [<-o] at Ga v i;have f:=i;clear o i;go_wp2_with fail;refine bN Ga λz fw=>?_;have XP:=Mc.aw (fw.block _ Mc.lt);have rN:=(fw.block _ (lV.1 QK).1).trans QK;have rF:=gd.trans (fw.mono gd.size);have d:=DR (w.heap.size+1) 3 4 4 E 211 (s3 t body) z XP (by omega) (by rw [QG t (by omega)];omega);rw [f] at d;have QL:=rN;have jV:=rF;clear Ga fw XP rN rF Mc QK gd f;go_wp2_with fail;refine pr d λw5 XQ dX pR=>?_;have XR:=(dX.block _ (lV.1 QL).1 (by omega)).trans QL;have JK:=jV.trans (dX.below (λj k=>by omega) jV.size);have jX:(bh t body).length=512:=fv (by omega);have Bd:=Ni XQ;have eh:=cH XR cP;have aW:=i9 jX;have j6:(bs (bh t body)).length=512:=by rw [bs,List.length_map,jX]
 have dL:=cF (bh t body);generalize p:bs (bh t body)=F at*;rw [<-j6] at eh;have pF:=(World.rangeAt_setCells_same w5 w.heap.size 0 F eh);have bV:=all_oneCell_toArray dL;have Bf:=JK.trans ((aa.setCells (F:=λj=>j=w.heap.size) rfl F 0 w5).below (λj k=>by omega) JK.size);have u:=p;clear d XQ dX pR XR JK jX QL jV dL p;go_wp2_with (first|refine wpList_load_mid rfl 211 _ rfl (w.heap.size+1) 0 rfl F _ Bd underlying211 rfl aW ?_|refine wpList_store_mid rfl 211 _ _ rfl w.heap.size 0 F.toArray rfl rfl ?h1 ?h2 bV ?_);case h1=>simpa using eh
 case h2=>simpa using aW
 exact bodyPost_ret (gy (P:=prog) rfl _ _ w.heap.size F _ rfl pF underlying211 rfl aW) rfl ⟨by rw [u],Bf⟩
def results_cell_tmp {P:Program} {b:Func} {p q:Tmp} (h:b.results= #[.cell p ty, .tmp q]) (a:Array Value) (w:World) (g:Nat) (cs:List Value) (d:TypeDesc) (v:Value)
    (f:a.getD p undef=pQ g) (i:a.getD q undef=v) (c:w.rangeAt g 0 cs) (j:P.underlying ty=some d) (hd:d.isRow=true) (e:(P.info? ty).map (·.size)=some cs.length):
    (results b a).run P w= .ok (.tuple #[.agg cs.toArray,v]) w:=by
 have Zk:a[p]?.getD undef=pQ g:=by simpa using f
 have Zw:a[q]?.getD undef=v:=by simpa using i
 simp [results,h,Zk,Zw,asAddr,run_loadVar_mid w g 0 ty cs d c j hd e]
def nH {b o:Nat} (h:Src w (some (aD b o)) n l):w.rangeAt b o (bs l):=by
 intro j v a;obtain⟨c,rfl⟩:=fx a;have:=h.2.2 _ rfl j (by have:=h.1;omega);rwa [aN] at this
def QM (a:Option Addr) (c:Nat) (w:World):(Instr.arrayAt 211 (.slice a 512 c)).run prog w= .ok (.pointer a) w:=by
 simp [Instr.arrayAt,run_underlying underlying211]
def yV:∀v∈bm.toList,v.oneCell'=true:=cF (zs 512)
def yW:(prog.info? 211).map (·.size)=some bm.toList.length:=i9 (l:=zs 512) (bH 512)
def pS (a:Option Addr) (n c:Nat) (w:World) (d:n≠512):
  Calls prog 218 #[.slice a n c] w λe w'=>e= .returned (.tuple #[.agg bm, .bool false])/\bW w w':=by
 have f:=jk;have h1:(((n:Int)) != 512)=true:=by rw [gB];omega
 have aW:=yW;have dL:=yV;generalize bm=Z at*;have bL:(w.alloc (.cells Z 211)).heap[w.heap.size]? =some (.cells Z 211 (0,0)):=heap_alloc_new _ _;have eh:(w.alloc (.cells Z 211)).there w.heap.size 0 Z.toList.length:=cH bL (by simp);have bV:Z.all Value.oneCell'=true:=all_oneCell_toArray dL;have bO:bW w (w.alloc (.cells Z 211)):=(bi _ w).alloc (bS _) _;go_in;go_wp2_with (refine wpList_store_mid rfl 211 _ _ rfl w.heap.size 0 Z rfl rfl ?h1 ?h2 bV ?_);case h1=>simpa using eh
 case h2=>simpa using aW
 exact bodyPost_ret (results_cell_tmp (P:=prog) rfl _ _ w.heap.size Z.toList _ _ rfl rfl (World.rangeAt_setCells_same _ w.heap.size 0 Z.toList eh) underlying211 rfl aW) rfl ⟨rfl,bO.trans ((aa.setCells (F:=λj=>j=w.heap.size) rfl Z.toList 0 _).below (λj b=>by omega) bO.size)⟩
def mx (b o c:Nat) (l:List Int) (w:World) (a:Src w (some (aD b o)) 512 l):
  Calls prog 218 #[.slice (some (aD b o)) 512 c] w λe w'=>e= .returned (.tuple #[.agg (bs l).toArray, .bool true])/\bW w w':=by
 have f:=jk;have Zx:=QM (some (aD b o)) c;have bO:bW w (w.alloc (.cells bm 211)):=(bi _ w).alloc (bS _) _;have Bd:=nH (a.later bO);have aW:=i9 (l:=l) a.1;have dL:=cF l;have bL:(w.alloc (.cells bm 211)).heap[w.heap.size]? =some (.cells bm 211 (0,0)):=heap_alloc_new _ _;have eh:=cH bL cP;have j6:(bs l).length=512:=by rw [bs,List.length_map,a.1]
 generalize bs l=F at*;rw [<-j6] at eh;have pF:=(World.rangeAt_setCells_same _ w.heap.size 0 F eh);have bV:=all_oneCell_toArray dL;have Bf:=(bO.trans ((aa.setCells (F:=λj=>j=w.heap.size) rfl F 0 _).below (λj d=>by omega) bO.size));go_in;go_wp2_with (first|refine wpList_load_mid rfl 211 _ rfl b o rfl F _ Bd underlying211 rfl aW ?_|refine wpList_store_mid rfl 211 _ _ rfl w.heap.size 0 F.toArray rfl rfl ?h1 ?h2 bV ?_);case h1=>simpa using eh
 case h2=>simpa using aW
 exact bodyPost_ret (results_cell_tmp (P:=prog) rfl _ _ w.heap.size F _ _ rfl rfl pF underlying211 rfl aW) rfl ⟨rfl,Bf⟩
def xW (w:World) (B:Nat) (v:Value) (l:List Int):Prop:=∃a c,v= .slice a l.length c/\Src w a l.length l/\l.length<=c/\∀x,a=some x->B<=x.block
def xW.nil (w:World) (B:Nat):xW w B (.slice none 0 0) []:=⟨none,0,rfl,⟨rfl,λ_=>rfl,λx a=>by cases a⟩,bS _,λx a=>by cases a⟩
def xW.later {B:Nat} (h:xW w B v l) (b:bW w w'):xW w' B v l:=by
 obtain⟨a,c,rfl,e,d,f⟩:=h;exact⟨a,c,rfl,e.later b,d,f⟩
def kf.lst {B:Nat} (h:kf w T g l) (a:B<=g):xW w B (.slice (some (aD g 0)) l.length l.length) l:=by
 refine⟨some (aD g 0),l.length,rfl,?_,bS _,λx b=>by cases b;exact a⟩;have:=h.src (o:=0) (n:=l.length) (by omega);simpa using this
def sw:∀(c b:List Value) (cur:Array Value),w.heap[g]? =some (.cells cur T (0,0))->(∃a,cur.toList=b ++ a/\a.length=c.length)->
    (w.setCells g b.length c).heap[g]? =some (.cells (b ++ c).toArray T (0,0)):=by
 intro c
 induction c generalizing w with
 |nil=>
  intro b cur i ⟨a,d,f⟩;have:a= []:=List.eq_nil_of_length_eq_zero f;subst this;simp only [List.append_nil] at d⊢;show w.heap[g]? =_;rw [i,<-d]
 |cons v r j=>
  intro b cur i ⟨a,d,f⟩;cases a with
  |nil=>simp at f
  |cons u a=>
   have e:(cur.setIfInBounds b.length v).toList=(b ++ [v]) ++ a:=by
    rw [Array.toList_setIfInBounds,d,List.set_append_right _ _ (bS _),Nat.sub_self];simp
   have:=j (w:=w.setCell ⟨g,b.length,none⟩ v) (b ++ [v]) _ (heap_setCell_same w g b.length cur T v i) ⟨a,e,by simpa using f⟩;simp only [World.setCells];simpa using this
def eJ (a:w.heap[g]? =some (.cells cur T (0,0))) (b:cur.size=l.length):kf (w.setCells g 0 (bs l)) T g l:=
 sw (bs l) [] cur a ⟨cur.toList,rfl,by simp [bs,b]⟩
def QN (a:Option Addr) (n c:Nat) (b:Option Addr) (m d:Nat) (w:World) (f:n≠512):
  Calls prog 236 #[.slice a n c, .slice b m d] w λe w'=>e= .returned (.tuple #[.slice none 0 0,iV 2])/\bW w w':=by
 obtain⟨k,g,aW,dL⟩:=cO jk (pS a n c w f) yW yV;generalize bm=Z at*;have bV:Z.all Value.oneCell'=true:=all_oneCell_toArray dL;go_in;go_wp2_with fail;refine bN g λw1 ar=>?_;have bL:(w1.alloc (.cells Z 211)).heap[w1.heap.size]? =some (.cells Z 211 (0,0)):=heap_alloc_new _ _;have eh:(w1.alloc (.cells Z 211)).there w1.heap.size 0 Z.toList.length:=cH bL (by simp);have bO:bW w (w1.alloc (.cells Z 211)):=ar.alloc ar.size _;have ee:=ar.size;have Bf:=(bO.trans ((aa.setCells (F:=λj=>j=w1.heap.size) rfl Z.toList 0 _).below (λj i=>by omega) bO.size));go_wp2_with (refine wpList_store_mid rfl 211 _ _ rfl w1.heap.size 0 Z rfl rfl ?h1 ?h2 bV ?_);case h1=>simpa using eh
 case h2=>simpa using aW
 go_ret2;exact⟨rfl,Bf⟩
def QO (b o c:Nat) (old:List Int) (d:Option Addr) (m f:Nat) (w:World) (a:Src w (some (aD b o)) 512 old) (i:504<m):
  Calls prog 236 #[.slice (some (aD b o)) 512 c, .slice d m f] w λe w'=>e= .returned (.tuple #[.slice none 0 0,iV 7])/\bW w w':=by
 have k:=jk;have hm':504<(m:Int):=by omega
 have el:=mx b o c old w a;have aW:=i9 (l:=old) a.1;have dL:=cF old;have j6:(bs old).length=512:=by rw [bs,List.length_map,a.1]
 generalize bs old=F at*;have bV:=all_oneCell_toArray dL;go_in;go_wp2_with fail;refine bN el λw1 ar=>?_;have bL:(w1.alloc (.cells bm 211)).heap[w1.heap.size]? =some (.cells bm 211 (0,0)):=heap_alloc_new _ _;have eh:=cH bL cP;rw [<-j6] at eh;have bO:bW w (w1.alloc (.cells bm 211)):=ar.alloc ar.size _;have ee:=ar.size;have Bf:=yh (bO.trans ((aa.setCells (F:=λj=>j=w1.heap.size) rfl F 0 _).below (λj g=>by omega) bO.size));go_wp2_with (refine wpList_store_mid rfl 211 _ _ rfl w1.heap.size 0 F.toArray rfl rfl ?h1 ?h2 bV ?_);case h1=>simpa using eh
 case h2=>simpa using aW
 go_ret2;exact⟨rfl,Bf.out⟩
def Vr (b o c:Nat) (old:List Int) (f:Option Addr) (m q:Nat) (body:List Int) (w:World) (d:Src w (some (aD b o)) 512 old) (bo:Src w f m body) (y:m<=504) (v:Bytes body):
  Calls prog 236 #[.slice (some (aD b o)) 512 c, .slice f m q] w λe w'=>∃g,e= .returned (.tuple #[.slice (some (aD g 0)) 512 512,iV 0])/\kf w' 211 g (bh (cG (old.getD 0 0) (old.getD 511 0)) body)/\w.heap.size<=g/\bW w w':=by
 obtain⟨A,el,aW,dL⟩:=cO jk (mx b o c old w d) (i9 (l:=old) d.1) (cF old);have j6:(bs old).length=512:=by rw [bs,List.length_map,d.1]
 obtain⟨acU,bV,p,Bu,z⟩:=eK d.1 (all_oneCell_toArray dL) (yh bo) bo.1 (gv (old.getD 0 0) (old.getD 511 0));obtain⟨t,xv⟩:=bQ (cG (old.getD 0 0) (old.getD 511 0));rw [<-xv] at z;obtain⟨F,k⟩:=bQ (bs old);rw [<-k] at el aW dL j6 bV;clear dL d bo;go_in;go_wp2_with fail;refine bN el λw1 ar=>?_;have bL:(w1.alloc (.cells bm 211)).heap[w1.heap.size]? =some (.cells bm 211 (0,0)):=heap_alloc_new _ _;have eh:=cH bL cP;rw [<-j6] at eh;have bO:bW w (w1.alloc (.cells bm 211)):=ar.alloc ar.size _;have ee:=ar.size;have eR:=bO.trans ((aa.setCells (F:=λj=>j=w1.heap.size) rfl F 0 _).below (λj x=>by omega) bO.size);have aV:=eJ (l:=old) bL (by rw [cP,acU]);rw [<-k] at aV;have JL:=oy w1.heap.size 0 (old.getD 0 0) (old.getD 511 0) _ (aV.cell (by omega)) (aV.cell (i:=511) (by omega));rw [<-xv] at JL;have xw:=oA t f m q body _ (by omega) (p.o.later eR) y v;obtain⟨C,dD⟩:=bQ ((w1.alloc (.cells bm 211)).setCells w1.heap.size 0 F);rw [<-dD] at JL xw eR;obtain⟨dP,QP⟩:=bU eR xv;clear el bL bO ar aV eR xv k p;go_wp2_with (refine wpList_store_mid rfl 211 _ _ rfl w1.heap.size 0 F.toArray rfl rfl ?h1 ?h2 bV ?_);case h1=>simpa using eh
 case h2=>simpa using aW
 rw [<-dD];refine bN JL λw' r=>?_;have eM:=r.symm;subst eM;clear r JL eh dD bV aW;have jX:(bh t body).length=512:=fv (by omega);have aW:=i9 (l:=bh t body) jX;have bV:=all_oneCell_toArray (cF (bh t body));have DU:(bs (bh t body)).length=512:=by rw [bs,List.length_map,jX]
 obtain⟨G,n⟩:=bQ (bs (bh t body));rw [<-n] at xw aW bV DU;have s:=yh n;clear n;go_wp2_with fail;refine bN xw λa bF=>?_;have jU:=dP.o.trans (bF.mono dP.o.size);have eG:(a.alloc (.cells bm 211)).heap[a.heap.size]? =some (.cells bm 211 (0,0)):=heap_alloc_new _ _;have eh:=cH eG cP;rw [<-DU] at eh;have aV:=eJ (l:=bh t body) eG (by rw [cP,jX]);rw [<-s.o] at aV;have FL:=jU.size;have rF:bW w (a.alloc (.cells bm 211)):=jU.alloc jU.size _;rw [QP.o] at aV;have u:=yh (aH aV (aH jU.size (rF.trans ((aa.setCells (F:=λj=>j=a.heap.size) rfl G 0 _).below (λj x=>by omega) rF.size))));clear xw jU eG aV rF bF dP;go_wp2_with (refine wpList_store_mid rfl 211 _ _ rfl a.heap.size 0 G.toArray rfl rfl ?h1 ?h2 bV ?_);case h1=>simpa using eh
 case h2=>simpa using aW
 go_ret2;exact⟨a.heap.size,rfl,u.o⟩
def co {b:Array Oper} {rest:List Oper} {o:Oper} {a:Act} {Q:Exit->Act->World->Prop} (Gb:o.guard=none) (s x:Operand)
    (mj:o.op=Op.call {callee:=Callee.builtin Builtin.append,args:= #[s,x],argTypes:= #[36,36]})
    (B:Nat) (v:Value) (l:List Int) (y:Int) (m:a.eval s=v) (n:a.eval x= .slice (some (aD w.heap.size 0)) 1 1) (aA:Own w B v l) (d:l.length<=140737488355327) (i:B<=w.heap.size)
    (j:∀c w',Own w' B c (l ++ [y])->Below B w w'->wpList prog b Q rest (a.put o.dst c) w'):
  wpList prog b Q (o :: rest) a (w.alloc (.cells #[.int .u8 y] 5)):=by
 obtain⟨p,k,gC,dE,ev⟩:=info_parts gh;have f:w.ownsRow B 5 1 v l.length (bs l):=aA;refine wpList_append_own _ Gb s x 36 mj B 5 p (.int .u8 0) 1 1 underlying36 k gC dE ev rfl (by decide) v l.length (bs l) m (f.alloc _) (aD w.heap.size 0) 1 1 [.int .u8 y] n rfl (cell_one_new _ _ _) (by intro u g;simp at g;subst g;rfl) (by unfold maxLen;omega) (by omega) (by simp;omega) ?_;intro c w1 cM lj _;refine j c w1 ?_ (((bi _ w).alloc i _).grown lj (by simp;omega) (λq e=>(f.lt q e).1));rw [Vo] at cM;exact DP cM (by simp) rfl
def acV:Value->Nat
 | .slice _ n _=>n
 |_=>0
def Own.Vs {B:Nat} (h:Own w B v l) (h0:0<l.length):∃g c,v= .slice (some (aD g 0)) l.length c/\B<=g/\ay w 5 g c (bs l):=by
 obtain⟨a,c,rfl,_,_,_⟩:=h.src;obtain⟨g,rfl,_,b,d⟩:=h.row h0;exact⟨g,c,rfl,b,d⟩
def ay.get (h:ay w e g c (bs l)) (a:i<l.length):w.cell? (aD g i)=some (.int .u8 (l.getD i 0)):=by
 have:=h.byte a;rwa [aN,Nat.zero_add] at this
def BC (a b:List Int) (x:Int):a ++ b ++ [x]=a ++ (b ++ [x]):=List.append_assoc _ _ _
def Vt (k:Nat):zs k ++ [0]=zs (k+1):=by rw [lY];rfl
def Cx (t:Nat) (a:Option Addr) (n c:Nat) (body:List Int) (w:World) (ht:t<256) (hs:Src w a n body) (hn:n<=504) (hb:Bytes body):
  Calls prog 217 #[iV (t:Int), .slice a n c] w λe w'=>∃v,e= .returned v/\Own w' w.heap.size v (bh t body)/\bW w w':=by
 have H:=yh hs;have Bu:=hs.1;have q1:((n:Int)).tmod 256=((n%256:Nat):Int):=by rw [Int.tmod_eq_emod_of_nonneg (by omega)];omega
 have q2:((n:Int)).tdiv 256=((n / 256:Nat):Int):=by rw [Int.tdiv_eq_ediv_of_nonneg (by omega)];omega
 clear hs;go_in;go_wp2_with (at_builtin;refine co rfl _ _ rfl w.heap.size _ [] _ rfl rfl (Own.nil w _) ?b1 ?b2 ?_);case b1=>simp
 case b2=>exact bS _
 intro v1 w1 tN ar;have dE:=ar.size;have I:=yh tN;have cQ:=yh ar;clear tN ar;go_wp2_with (at_builtin;refine co rfl _ _ rfl w.heap.size v1 _ _ rfl rfl I.o ?b1 ?b2 ?_);case b1=>simp
 case b2=>exact dE
 intro v2 w2 jw bd;have acW:Own w2 w.heap.size v2 ([((n%256:Nat):Int),((n / 256:Nat):Int)] ++ body.take 0):=jw;obtain⟨A,dP⟩:=bU acW (cQ.o.trans (bd.mono (bS _)));obtain⟨hd,y⟩:∃hd,hd= [((n%256:Nat):Int),((n / 256:Nat):Int)]:=⟨_,rfl⟩;have qR:hd.length=2:=by rw [y];rfl
 rw [<-y] at A;have G:=yh y;clear jw acW bd y I cQ dE q1 q2;go_wp2;go_loopw [5,6] (λv i wr=>∃k:Nat,k<=n/\i=iV k/\Own wr w.heap.size v (hd ++ body.take k)/\bW w wr) (λ_ i _=>n-(intOf i).toNat);case atStart=>exact⟨0,dV _,rfl,A.o,dP.o⟩
 case round=>
  clear A dP;obtain⟨k,hk,rfl,aA,ew⟩:=hrel;have bt:=yh aA;have f:=yh ew;have r:=ew.size;clear aA ew;by_cases bq:k<n
  .have cC:(k:Int)<(n:Int):=(by omega);obtain⟨x0,rfl⟩:∃x,a=some x:=by
    cases a with
    |none=>have:=H.o.2.1 rfl;omega
    |some x=>exact⟨x,rfl⟩
   obtain⟨b,o,rfl,db⟩:=H.o.spot (by omega);have hc:=cell_later f.o (db k bq);have Cy:=yh (j9 body k (by omega));clear db;generalize body.getD k 0=x at*;go_wp2_with (at_builtin;refine co rfl _ _ rfl w.heap.size u5 _ x rfl rfl bt.o ?b1 ?b2 ?_);case b1=>simp;omega
   case b2=>exact r
   intro z w' p eH;have u:Yh (Own w' w.heap.size z (hd ++ body.take (k+1))):=(by rw [<-Cy.o];exact p);have xx:=yh (f.o.trans (eH.mono (bS _)));clear p eH bt f Cy;go_wp2;go_roundw;case rel=>exact⟨k+1,by omega,by go_num,u.o,xx.o⟩
   case measure=>simp [intOf];omega
  .have cC:¬(k:Int)<(n:Int):=(by omega);have e:body.take k=body:=nz (by omega);rw [e] at bt;clear e;have i7:Yh (Own wr w.heap.size u5 (hd ++ body ++ zs 0)):=(by show Own wr w.heap.size u5 (hd ++ body ++ []);rw [List.append_nil];exact bt.o);obtain⟨T,hT⟩:=bQ (hd ++ body);have U:T.length=2+n:=(by rw [hT];simp;omega);rw [<-hT] at i7;have HT:=yh hT;clear hT bt;go_wp2;go_loopw [5] (λv wr=>∃k:Nat,k<=504-n/\Own wr w.heap.size v (T ++ zs k)/\bW w wr) (λv _=>506-acV v);case atStart=>exact⟨0,dV _,i7.o,f.o⟩
   case round=>
    clear i7 f r;obtain⟨j,hj,aA,ew⟩:=hrel;obtain⟨L,D,rfl,_,_,_⟩:=aA.src;have d:(T ++ zs j).length=2+n+j:=(by rw [ed,bH,U]);rw [d] at aA;have bt:=yh aA;have f:=yh ew;have r:=ew.size;clear aA ew;rw [d];by_cases hlj:j<504-n
    .have ahU:((2+n+j:Nat):Int)<506:=(by omega);obtain⟨N,hN⟩:=bQ (2+n+j);rw [<-hN] at ahU d bt⊢;have HN:=yh hN;clear hN;go_wp2_with (at_builtin;refine co rfl _ _ rfl w.heap.size (.slice L N D) _ 0 rfl rfl bt.o ?b1 ?b2 ?_);case b1=>omega
     case b2=>exact r
     intro z w' p eH;have u:Yh (Own w' w.heap.size z (T ++ zs (j+1))):=(by rw [<-Vt,<-BC];first|exact p|(rw [List.append_assoc];exact p));have xx:=yh (f.o.trans (eH.mono (bS _)));clear p eH bt f;go_wp2;go_roundw;case rel=>exact⟨j+1,by omega,u.o,xx.o⟩
     case measure=>
      obtain⟨a1,W,rfl,_,_,_⟩:=u.o.src;have:(T ++ zs (j+1)).length=2+n+(j+1):=(by rw [ed,bH,U]);have hN:=HN.o;simp only [acV,this];omega
    .obtain rfl:j=504-n:=(by omega);have e6:2+n+(504-n)=506:=(by omega);rw [e6] at bt d⊢;have eT:T ++ zs (504-n)=nG body:=by
      rw [HT.o,G.o,<-Bu];simp [nG,zs]
     rw [eT] at bt d;have QQ:=wl hb (by omega);have O:=ny QQ;obtain⟨E,Z⟩:=bQ (sumOf (nG body));obtain⟨X,F⟩:=bQ (nG body);have XS:X.drop 2=body ++ zs (504-n):=(by rw [F,<-Bu];simp [nG,zs]);have rG:X.getD 0 0=((n%256:Nat):Int):=(by rw [F,<-Bu];rfl);have jJ:X.getD 1 0=((n / 256:Nat):Int):=(by rw [F,<-Bu];rfl);have jI:bh t body= [(t:Int),X.getD 0 0,X.getD 1 0] ++ bB 4 E ++ X.drop 2 ++ [(t:Int)]:=by
      rw [XS,rG,jJ,Z,acO,<-Bu];simp [bh,zs]
     rw [<-F] at bt d QQ;rw [<-Z] at O;have ld:=yh jI;have XT:E=sumOf X:=(by rw [Z,F]);clear jI XS rG jJ Z F eT e6 HT G;have QR:=bt.o;rw [<-d] at QR;obtain⟨g,ct,wq,hgB,be⟩:=Own.Vs (l:=X) QR (by omega);have hae:L=some (aD g 0):=(by cases wq;rfl);have hce:D=ct:=(by cases wq;rfl);subst hae;subst hce;have hq:=Qz (some (aD g 0)) 506 D X wr QQ (by omega) (by have:=be.src;rw [d] at this;exact this);rw [<-XT] at hq;have vh:=yh be;clear QR wq be bt XT QQ hlj;go_wp2_with fail;refine bN hq λq bF=>?_;have rO:=vh.o.agree (bF.block g vh.o.lt);have jU:=f.o.trans (bF.mono f.o.size);have lB:=jU.size;have c0:=rO.get (i:=0) (by omega);have W:=rO.get (i:=1) (by omega);have XU:=yh rO;have gd:=yh jU;clear hq bF rO jU vh f r;obtain⟨x0,rG⟩:=bQ (X.getD 0 0);obtain⟨x1,jJ⟩:=bQ (X.getD 1 0);rw [<-rG] at c0;rw [<-jJ] at W;rw [<-rG,<-jJ] at ld;clear rG jJ;go_wp2_with (at_builtin;refine co rfl _ _ rfl q.heap.size (.slice none 0 0) [] (t:Int) rfl rfl (Own.nil q _) ?b1 ?b2 ?_);case b1=>simp
     case b2=>exact(bS q.heap.size)
     intro v4 w4 Fs fw;obtain⟨J,jV,ws,d0,d1⟩:=eK (yh Fs) (yh fw) fw.size (cell_later fw c0) (cell_later fw W);clear Fs fw c0 W;go_wp2_with (at_builtin;refine co rfl _ _ rfl q.heap.size v4 _ x0 rfl rfl J.o ?b1 ?b2 ?_);case b1=>simp
     case b2=>exact ws
     intro v5 w5 BD fa;have K:=yh BD;have jr:=yh (jV.o.trans (fa.mono (bS _)));have d1':=(World.cell?_of_block (fa.block g XU.o.lt)).trans d1;clear BD fa d0 d1 J jV ws;go_wp2_with (at_builtin;refine co rfl _ _ rfl q.heap.size v5 _ x1 rfl rfl K.o ?b1 ?b2 ?_);case b1=>simp
     case b2=>exact jr.o.size
     intro v6 w6 XV nI;have C:Yh (Own w6 q.heap.size v6 ([(t:Int),x0,x1] ++ bB 0 E)):=XV;have xy:=yh (jr.o.trans (nI.mono (bS _)));clear XV nI d1' K jr;obtain⟨P,hP⟩:∃P,P= [(t:Int),x0,x1]:=⟨_,rfl⟩;have S:P.length=3:=(by rw [hP];rfl);rw [<-hP] at C ld;clear hP;go_wp2;go_loopw [7,8,9] (λs v i wx=>∃m:Nat,m<=4/\i=iV m/\s=iV ((E / 256 ^ m:Nat):Int)/\Own wx q.heap.size v (P ++ bB m E)/\bW q wx) (λ_ _ i _=>4-(intOf i).toNat);case atStart=>exact⟨0,dV _,rfl,by simp,C.o,xy.o⟩
     case round=>
      clear C xy;obtain⟨m,hm,rfl,rfl,aA,iq⟩:=hrel;have bt:=yh aA;have f:=yh iq;have r:=iq.size;clear aA iq;by_cases xU:m<4
      .have Bz:(m:Int)<4:=(by omega);have e1:E / 256 ^ (m+1)=E / 256 ^ m / 256:=(by rw [Nat.div_div_eq_div_mul,Nat.pow_succ]);have e2:=i8 m E;rw [show (2:Nat) ^ (8*m)=256 ^ m by rw [Nat.pow_mul]] at e2;have hQ:E / 256 ^ m<4294967296:=Nat.lt_of_le_of_lt (Nat.div_le_self _ _) O;generalize E / 256 ^ m=Q at*;have q1:((Q:Int)).tmod 256=((Q%256:Nat):Int):=(by rw [Int.tmod_eq_emod_of_nonneg (by omega)];omega);have q2:((Q:Int)).tdiv 256=((Q / 256:Nat):Int):=(by rw [Int.tdiv_eq_ediv_of_nonneg (by omega)];omega);obtain⟨Pz,Md⟩:=bU e1 e2;have j6:(P ++ bB m E).length=3+m:=(by rw [ed,S,aK]);clear e1 e2;go_wp2_with (at_builtin;refine co rfl _ _ rfl q.heap.size u8 _ _ rfl rfl bt.o ?b1 ?b2 ?_);case b1=>omega
       case b2=>exact r
       intro z w' p eH;have u:Yh (Own w' q.heap.size z (P ++ bB (m+1) E)):=(by rw [Md.o];first|exact p|(rw [<-List.append_assoc];exact p));have xx:=yh (f.o.trans (eH.mono (bS _)));clear p eH bt f Md;go_wp2;go_roundw;case rel=>exact⟨m+1,by omega,by go_num,by rw [Pz.o];simp,u.o,xx.o⟩
       case measure=>simp [intOf];omega
      .have Bz:¬(m:Int)<4:=(by omega);obtain rfl:m=4:=(by omega);obtain⟨R,hR⟩:=bQ (P ++ bB 4 E);have hRl:R.length=7:=(by rw [hR,ed,S,aK]);rw [<-hR] at bt ld;have i7:Yh (Own wr q.heap.size u8 (R ++ (X.drop 2).take 0)):=(by show Own wr q.heap.size u8 (R ++ []);rw [List.append_nil];exact bt.o);clear hR bt hm;go_wp2;go_loopw [8,10] (λv i wx=>∃m:Nat,m<=504/\i=iV ((m+2:Nat):Int)/\Own wx q.heap.size v (R ++ (X.drop 2).take m)/\bW q wx) (λ_ i _=>506-(intOf i).toNat);case atStart=>exact⟨0,dV _,rfl,i7.o,f.o⟩
       case round=>
        clear i7 f r;obtain⟨m,hm,rfl,aA,iq⟩:=hrel;have bt:=yh aA;have f:=yh iq;have r:=iq.size;clear aA iq;have Nj:(X.drop 2).length=504:=(by simp;omega);have j6:(R ++ (X.drop 2).take m).length=7+m:=(by rw [ed,hRl,List.length_take];omega);by_cases xU:m<504
        .have Bz:((m+2:Nat):Int)<506:=(by omega);have hcx:=cell_later f.o (XU.o.get (i:=m+2) (by omega));have eN:=j9 (X.drop 2) m (by omega);have eX:(X.drop 2).getD m 0=X.getD (m+2) 0:=(by simp [List.getD,Nat.add_comm]);rw [eX] at eN;have Cy:=yh eN;clear eN eX;generalize X.getD (m+2) 0=x at*;generalize hM:m+2=M at*;have HM:=yh hM;clear hM;go_wp2_with (at_builtin;refine co rfl _ _ rfl q.heap.size u8 _ x rfl rfl bt.o ?b1 ?b2 ?_);case b1=>omega
         case b2=>exact r
         intro z w' p eH;have u:Yh (Own w' q.heap.size z (R ++ (X.drop 2).take (m+1))):=(by rw [<-Cy.o];first|exact p|(rw [<-List.append_assoc];exact p));have xx:=yh (f.o.trans (eH.mono (bS _)));clear p eH bt f Cy;go_wp2;go_roundw;case rel=>exact⟨m+1,by omega,by have:=HM.o;subst this;go_num,u.o,xx.o⟩
         case measure=>have:=HM.o;simp [intOf];omega
        .obtain rfl:m=504:=(by omega);have e5:(X.drop 2).take 504=X.drop 2:=nz (by omega);rw [e5] at bt j6;obtain⟨Y,hY⟩:=bQ (R ++ X.drop 2);rw [<-hY] at bt j6 ld;clear hY e5;go_wp2_with (at_builtin;refine co rfl _ _ rfl q.heap.size u8 _ (t:Int) rfl rfl bt.o ?b1 ?b2 ?_);case b1=>omega
         case b2=>exact r
         intro z w' p eH;have u:Yh (Own w' w.heap.size z (bh t body)):=(by rw [ld.o];exact Own.down p lB);have xx:Yh (bW w w'):=gd.o.trans ((f.o.trans (eH.mono (bS _))).mono lB);clear p eH bt f;go_wp2;go_ret;exact⟨_,rfl,u.o,xx.o⟩
def JM {a b:Int}:∀k:Nat,k<cG a b->(k:Int)=a\/(k:Int)=b:=by
 intro k c;unfold cG at c;split at c
 .omega
 .split at c
  .next h1 h2=>omega
  .next h1 h2=>omega
def Nk (a:Option Addr) (n c:Nat) (b:Option Addr) (m d:Nat) (w:World) (g:n≠512):
  Calls prog 177 #[.slice a n c, .slice b m d] w λe w'=>e= .returned (.tuple #[.slice none 0 0,iV 2])/\w'=w:=by
 have f:(((n:Int)) != 512)=true:=by rw [gB];omega
 go_in;go_wp2;go_ret2;exact⟨rfl,rfl⟩
def Nl (a:Option Addr) (c:Nat) (b:Option Addr) (m d:Nat) (w:World) (f:504<m):
  Calls prog 177 #[.slice a 512 c, .slice b m d] w λe w'=>e= .returned (.tuple #[.slice none 0 0,iV 7])/\w'=w:=by
 have hm':504<(m:Int):=by omega
 go_in;go_wp2;go_ret2;exact⟨rfl,rfl⟩
def QS (b o c:Nat) (old:List Int) (d:Option Addr) (m l:Nat) (body:List Int) (w:World) (n:Src w (some (aD b o)) 512 old) (bo:Src w d m body) (C:m<=504) (u:Bytes body) (Me:Bytes old):
  Calls prog 177 #[.slice (some (aD b o)) 512 c, .slice d m l] w λe w'=>∃v,e= .returned (.tuple #[v,iV 0])/\Own w' w.heap.size v (bh (cG (old.getD 0 0) (old.getD 511 0)) body)/\bW w w':=by
 have hm':¬504<(m:Int):=by omega
 have j:=n.2.2 _ rfl 0 (by omega);have r:=n.2.2 _ rfl 511 (by omega);rw [aN] at j r;rw [Nat.add_zero] at j;have A:=gv (old.getD 0 0) (old.getD 511 0);have q:=(JM (a:=old.getD 0 0) (b:=old.getD 511 0));have g:=(Cq (old.getD 0 0) (old.getD 511 0));have z:=(λt (E:t<256)=>Cx t d m l body w E bo C u);obtain⟨H,I⟩:=Me.getD 0;obtain⟨J,K⟩:=Me.getD 511;generalize old.getD 0 0=x at*;generalize old.getD 511 0=y at*;generalize cG x y=t at*;go_in;go_wp2;go_loopw [6] (λi wr=>∃k:Nat,k<=t/\i=iV k/\wr=w) (λi _=>t-(intOf i).toNat);case atStart=>exact⟨0,dV _,rfl,rfl⟩
 case round=>
  obtain⟨k,G,rfl,rfl⟩:=hrel;by_cases bq:k<t
  .by_cases f:(k:Int)=x
   .have p:(x == (k:Int))=true:=(by rw [beq_iff_eq];exact f.symm);go_wp2;go_roundw;case rel=>exact⟨k+1,by omega,by go_num,trivial⟩
    case measure=>simp [intOf];omega
   .have s:=(q k bq).resolve_left f;have p:(x == (k:Int))=false:=(by rw [fJ];exact λh=>f h.symm);have F:(y == (k:Int))=true:=(by rw [beq_iff_eq];exact s.symm);go_wp2;go_roundw;case rel=>exact⟨k+1,by omega,by go_num,trivial⟩
    case measure=>simp [intOf];omega
  .obtain rfl:k=t:=(by omega);have p:(x == (k:Int))=false:=(by rw [fJ];exact λh=>g.1 h.symm);have F:(y == (k:Int))=false:=(by rw [fJ];exact λh=>g.2 h.symm);go_wp2_with fail;refine(z k (by omega)).mono ?_;rintro e w1 ⟨v,rfl,D,ar⟩;go_wp2;go_ret2;exact⟨v,rfl,aH D ar⟩
def cX {a:Option Addr} (h:Src w a n l) (c:0<n):∃b o,a=some (aD b o):=by
 cases a with
 |none=>have:=h.2.1 rfl;omega
 |some x=>
  obtain⟨b,o,rfl,_⟩:=h.spot c;exact⟨b,o,rfl⟩
def QT (a:Option Addr) (n c:Nat) (old:List Int) (d:Option Addr) (m f:Nat) (body:List Int) (w:World) (i:Src w a n old) (bo:Src w d m body) (k:Bytes body):
  Calls prog 236 #[.slice a n c, .slice d m f] w λe w'=>∃v,e= .returned (.tuple #[v,iV (((gw old body).2:Nat):Int)])/\xW w' w.heap.size v (gw old body).1/\bW w w':=by
 have r:=i.1;have s:=bo.1;by_cases j:n=512
 .subst j;obtain⟨b,o,rfl⟩:=cX i (by omega);by_cases q:504<m
  .refine(QO b o c old d m f w i q).mono ?_;rintro e w' ⟨rfl,iP⟩;have e:gw old body=([],7):=(by unfold gw;rw [aB (by omega),aG (by omega)]);rw [e];exact⟨_,rfl,xW.nil _ _,iP⟩
  .refine(Vr b o c old d m f body w i bo (by omega) k).mono ?_;rintro e w' ⟨g,rfl,aV,l,iP⟩;have e:gw old body=(bh (cG (old.getD 0 0) (old.getD 511 0)) body,0):=(by unfold gw;rw [aB (by omega),aB (by omega)]);rw [e];have p:(bh (cG (old.getD 0 0) (old.getD 511 0)) body).length=512:=fv (by omega);have:=aV.lst l;rw [p] at this;exact⟨_,rfl,this,iP⟩
 .refine(QN a n c d m f w j).mono ?_;rintro e w' ⟨rfl,iP⟩;have e:gw old body=([],2):=by unfold gw;rw [aG (by omega)]
  rw [e];exact⟨_,rfl,xW.nil _ _,iP⟩
def qS (a:Option Addr) (n c:Nat) (old:List Int) (d:Option Addr) (m f:Nat) (body:List Int) (w:World) (g:Src w a n old) (bo:Src w d m body) (j:Bytes body) (Me:Bytes old):
  Calls prog 177 #[.slice a n c, .slice d m f] w λe w'=>∃v,e= .returned (.tuple #[v,iV (((gw old body).2:Nat):Int)])/\Own w' w.heap.size v (gw old body).1/\bW w w':=by
 have p:=g.1;have q:=bo.1;by_cases i:n=512
 .subst i;obtain⟨b,o,rfl⟩:=cX g (by omega);by_cases k:504<m
  .refine(Nl (some (aD b o)) c d m f w k).mono ?_;rintro e w' ⟨rfl,rfl⟩;have e:gw old body=([],7):=(by unfold gw;rw [aB (by omega),aG (by omega)]);rw [e];exact⟨_,rfl,Own.nil _ _,bi _ _⟩
  .refine(QS b o c old d m f body w g bo (by omega) j Me).mono ?_;rintro e w' ⟨v,rfl,l,iP⟩;have e:gw old body=(bh (cG (old.getD 0 0) (old.getD 511 0)) body,0):=(by unfold gw;rw [aB (by omega),aB (by omega)]);rw [e];exact⟨_,rfl,l,iP⟩
 .refine(Nk a n c d m f w i).mono ?_;rintro e w' ⟨rfl,rfl⟩;have e:gw old body=([],2):=by unfold gw;rw [aG (by omega)]
  rw [e];exact⟨_,rfl,Own.nil _ _,bi _ _⟩
def QU (a b:Option Addr) (n m c d:Nat) (w:World) (h:n≠m):
  Calls prog 229 #[.slice a n c, .slice b m d] w λe w'=>e= .returned (.bool false)/\w'=w:=by
 have f:(((n:Int)) != (m:Int))=true:=by rw [gB];omega
 go_in;go_wp2;go_ret;exact⟨rfl,rfl⟩
def Nm (b o m p:Nat) (n c d:Nat) (l a:List Int) (w:World) (z:n<=140737488355328) (v:l.length=n) (Up:a.length=n) (r:∀i,i<n->w.cell? ⟨b,o+i,none⟩=some (.int .u8 (l.getD i 0))) (s:∀i,i<n->w.cell? ⟨m,p+i,none⟩=some (.int .u8 (a.getD i 0))):
  Calls prog 229 #[.slice (some (aD b o)) n c, .slice (some (aD m p)) n d] w λe w'=>e= .returned (.bool (decide (l=a)))/\bW w w':=by
 go_in;go_wp2;go_loopw [5] (λi wr=>∃k:Nat,k<=n/\i=iV k/\l.take k=a.take k/\bW w wr) (λi _=>n-(intOf i).toNat);case atStart=>exact⟨0,dV _,rfl,by simp,bi _ _⟩
 case round=>
  obtain⟨k,u,rfl,pN,f⟩:=hrel;have Vu:=yh pN;by_cases bq:k<n
  .have q:=cell_later f ((yh r).out k bq);have t:=cell_later f ((yh s).out k bq);have cC:(k:Int)<(n:Int):=(by omega);by_cases g:l.getD k 0=a.getD k 0
   .have j:=yh (DO Vu.o (by omega) (by omega) g);rw [g] at q;generalize a.getD k 0=x at*;go_wp2;go_quiet (fail);go_wp2;go_roundw;case rel=>exact⟨k+1,by omega,by go_num,j.o,below_drewN f _⟩
    case measure=>simp [intOf];omega
   .have dM:=JI g;have hd:Yh (decide (l=a)=false):=(by show decide (l=a)=false;simp [dM]);have Mf:((l.getD k 0) != (a.getD k 0))=true:=(by rw [gB];exact g);generalize a.getD k 0=x at*;generalize l.getD k 0=y at*;go_wp2;go_quiet (fail);go_wp2;go_ret;exact⟨by rw [hd.out];rfl,below_drewN f _⟩
  .have cC:¬(k:Int)<(n:Int):=(by omega);have hd:Yh (decide (l=a)=true):=by
    have:=Vu.o;rw [nz (by omega),nz (by omega)] at this;show decide (l=a)=true;simp [this]
   go_wp2;go_ret;exact⟨by rw [hd.out];rfl,f⟩
def JN (a b:Option Addr) (c d:Nat) (w:World):
  Calls prog 229 #[.slice a 0 c, .slice b 0 d] w λe w'=>e= .returned (.bool true)/\w'=w:=by
 go_in;go_wp2;refine wp_loop_rounds 1 ?_;rw [rounds_succ];go_wp2;go_ret;exact⟨rfl,rfl⟩
def Nn (a b:Option Addr) (n m c d:Nat) (l i:List Int) (w:World) (q:n<=140737488355328) (f:Src w a n l) (g:Src w b m i):
  Calls prog 229 #[.slice a n c, .slice b m d] w λe w'=>e= .returned (.bool (decide (l=i)))/\bW w w':=by
 by_cases xz:n=m
 .subst xz;by_cases h0:n=0
  .subst h0;have o:=List.eq_nil_of_length_eq_zero f.1;have p:=List.eq_nil_of_length_eq_zero g.1;subst o p;exact(JN a b c d w).mono (by rintro e w' ⟨rfl,rfl⟩;exact⟨rfl,bi _ _⟩)
  .cases a with
   |none=>exact absurd (f.2.1 rfl) h0
   |some x=>
    cases b with
    |none=>exact absurd (g.2.1 rfl) h0
    |some y=>
     obtain⟨j,t,rfl,r⟩:=f.spot (by omega);obtain⟨k,u,rfl,s⟩:=g.spot (by omega);exact Nm j t k u n c d l i w q f.1 g.1 r s
 .have hd:decide (l=i)=false:=by
   have:l≠i:=λe=>xz (by rw [<-f.1,<-g.1,e]);simp [this]
  rw [hd];exact(QU a b n m c d w xz).mono (by rintro e w' ⟨rfl,rfl⟩;exact⟨rfl,bi _ _⟩)
def yX (h:s.length≠512):aX s=([],2):=by unfold aX;rw [aG h]
def kL (h:s.length=512) (a:fA s=none):aX s=([],30):=by unfold aX;rw [aB (by omega),a]
def pT {b:List Int} (h:s.length=512) (a:fA s=some b):aX s=(b,0):=by unfold aX;rw [aB (by omega),a]
def Cz (a:dN s<=504) (b:s.getD 0 0<=2) (c:bh (s.getD 0 0) (dJ s)=s):fA s=some (dJ s):=by unfold fA;rw [aG ⟨a,b,c⟩]
def tO (h:¬(dN s<=504/\s.getD 0 0<=2/\bh (s.getD 0 0) (dJ s)=s)):fA s=none:=by unfold fA;rw [aB h]
def DV (h:Bytes s):((dN s:Nat):Int)=s.getD 1 0+256*s.getD 2 0:=by
 have a:=h.getD 1;have b:=h.getD 2;unfold dN;omega
def No (a:Option Addr) (n c:Nat) (w:World) (d:n≠512):
  Calls prog 199 #[.slice a n c] w λe w'=>e= .returned (.tuple #[.slice none 0 0,iV 2])/\bW w w':=by
 have b:(((n:Int)) != 512)=true:=by rw [gB];omega
 go_in;go_wp2;go_ret2;exact⟨rfl,(yh (bi w.heap.size w)).out⟩
def CA (b o c:Nat) (s:List Int) (w:World) (A:Src w (some (aD b o)) 512 s) (m:Bytes s):
  Calls prog 199 #[.slice (some (aD b o)) 512 c] w λe w'=>∃v,e= .returned (.tuple #[v,iV (((aX s).2:Nat):Int)])/\Own w' w.heap.size v (aX s).1/\bW w w':=by
 have xA:=A.1;have a:=λi hi=>by have:=A.2.2 _ rfl i hi;rwa [aN] at this
 have l:=a 0 (by omega);rw [Nat.add_zero] at l;have L:=a 1 (by omega);have M:=a 2 (by omega);have Dx:bW w w:=bi _ w;have J:=DV m;have u:=m.getD 0;have y:=m.getD 1;have z:=m.getD 2;obtain⟨p,rG⟩:=bQ (s.getD 0 0);obtain⟨q,jJ⟩:=bQ (s.getD 1 0);obtain⟨r,ml⟩:=bQ (s.getD 2 0);obtain⟨N,I⟩:=bQ (dN s);rw [<-jJ,<-ml,<-I] at J;rw [<-rG] at l u;rw [<-jJ] at L y;rw [<-ml] at M z;obtain⟨W,X,Zj,Y,Z,h21,K,C,f,D,S⟩:=L3 u.1 u.2 y.1 y.2 z.1 z.2 (yh a) (yh (λj=>below_drewN Dx j)) (yh rG) (yh I) (yh A);clear a rG jJ ml I A Dx u y z;by_cases DW:504<N\/2<p
 .have jc:=kL xA (tO (λh=>by rw [<-D.o,<-f.o] at h;omega));have oh:=yh jc;clear jc;by_cases ar:504<N
  .have acZ:504<q+256*r:=(by omega);go_in;go_wp2;go_quiet (fail);go_wp2;go_ret2;exact⟨_,by rw [oh.o];rfl,by rw [oh.o];exact Own.nil _ _,C.o _⟩
  .have acZ:¬504<q+256*r:=(by omega);have bd:2<p:=(by omega);go_in;go_wp2;go_quiet (fail);go_wp2;go_ret2;exact⟨_,by rw [oh.o];rfl,by rw [oh.o];exact Own.nil _ _,C.o _⟩
 .have acZ:¬504<q+256*r:=by omega
  have bd:¬2<p:=by omega
  go_in;go_wp2;go_quiet (fail);go_wp2;go_loopw [5,6] (λv i wr=>∃k:Nat,k<=N/\i=iV k/\Own wr w.heap.size v ((s.drop 7).take k)/\bW w wr) (λ_ i _=>N-(intOf i).toNat);case atStart=>exact⟨0,dV _,rfl,Own.nil _ _,C.o _⟩
  case round=>
   clear l L M;obtain⟨k,hk,rfl,aA,ew⟩:=hrel;have bt:=yh aA;have mm:=yh ew;have hz:=ew.size;clear aA ew;have qR:(s.drop 7).length=505:=(by simp;omega);by_cases bq:k<N
   .have cC:(k:Int)<q+256*r:=(by omega);have hc:=cell_later mm.o (K.o (7+k) (by omega));have G:=j9 (s.drop 7) k (by omega);have O:(s.drop 7).getD k 0=s.getD (7+k) 0:=(by simp [List.getD]);rw [O] at G;have Cy:=yh G;have j6:((s.drop 7).take k).length<=505:=(by rw [List.length_take];omega);clear G O;generalize s.getD (7+k) 0=x at*;go_wp2_with (at_builtin;refine co rfl _ _ rfl w.heap.size u5 _ x rfl rfl bt.o ?b1 ?b2 ?_);case b1=>omega
    case b2=>exact hz
    intro v' w' Q eH;have R:Yh (Own w' w.heap.size v' ((s.drop 7).take (k+1))):=(by rw [<-Cy.o];exact Q);have xx:=yh (mm.o.trans (eH.mono (bS _)));clear Q eH bt mm Cy;go_wp2;go_roundw;case rel=>exact⟨k+1,by omega,by go_num,R.o,xx.o⟩
    case measure=>simp [intOf];omega
   .obtain rfl:k=N:=(by omega);have cC:¬(k:Int)<q+256*r:=(by omega);have H:(s.drop 7).take k=dJ s:=(by unfold dJ;rw [<-D.o]);rw [H] at bt;have lA:(dJ s).length=k:=(by rw [<-H,List.length_take];omega);have gX:Bytes (dJ s):=(m.drop _).take _;have E:=yh lA;obtain⟨T,F,rfl,sv,_,_⟩:=bt.o.src;rw [lA] at sv bt⊢;clear lA;have l:=cell_later mm.o (K.o 0 (by omega));rw [Nat.add_zero,<-f.o] at l;obtain⟨t,rfl⟩:∃t:Nat,p=(t:Int):=⟨p.toNat,by omega⟩;have P:=Cx t T k F (dJ s) wr (by omega) sv (by omega) gX;clear H sv;go_wp2_with fail;refine P.mono ?_;rintro e w2 ⟨v2,rfl,jw,bd⟩;have jX:(bh t (dJ s)).length=512:=fv (by rw [E.o];omega);obtain⟨p2,U,rfl,bo,_,_⟩:=jw.src;rw [jX] at*;have eR:=mm.o.trans (bd.mono mm.o.size);have lC:=Nn p2 (some (aD b o)) 512 512 U c (bh t (dJ s)) s w2 (by omega) bo (S.o.later eR);have dP:=yh eR;have i7:=yh (Own.later bt.o bd);clear P jw bd bo eR bt mm;by_cases d:bh t (dJ s)=s
    .rw [decide_eq_true d] at lC;have n:=pT xA (Cz (by rw [<-D.o];omega) (by rw [<-f.o];omega) (by rw [<-f.o];exact d));have g:=yh n;clear d n;go_wp2_with fail;refine bN lC λw3 bF=>?_;obtain⟨gd,ac0⟩:=bU (dP.o.trans (bF.mono dP.o.size)) (Own.later i7.o bF);clear lC bF;go_wp2;go_ret2;exact⟨_,by rw [g.o];rfl,by rw [g.o];exact ac0.o,gd.o⟩
    .rw [decide_eq_false d] at lC;have n:=kL xA (tO (λh=>d (by have:=h.2.2;rwa [<-f.o] at this)));have g:=yh n;clear d n;go_wp2_with fail;refine bN lC λw3 bF=>?_;have gd:=yh (dP.o.trans (bF.mono dP.o.size));clear lC bF;go_wp2;go_ret2;exact⟨_,by rw [g.o];rfl,by rw [g.o];exact Own.nil _ _,gd.o⟩
def qT (a:Option Addr) (n c:Nat) (s:List Int) (w:World) (f:Src w a n s) (g:Bytes s):
  Calls prog 199 #[.slice a n c] w λe w'=>∃v,e= .returned (.tuple #[v,iV (((aX s).2:Nat):Int)])/\Own w' w.heap.size v (aX s).1/\bW w w':=by
 by_cases d:n=512
 .subst d;obtain⟨b,o,rfl⟩:=cX f (by omega);exact CA b o c s w f g
 .refine(No a n c w d).mono ?_;rintro e w' ⟨rfl,iP⟩;rw [yX (by rw [f.1];exact d)];exact⟨_,rfl,Own.nil _ _,iP⟩
def le2 {a b:Int} (c:0<=a) (d:0<=b):((le [a,b]:Nat):Int)=a+256*b:=by
 simp only [le];omega
def XW (h:s.length=512):(s.drop 1).take 2= [s.getD 1 0,s.getD 2 0]:=by
 match s,h with
 |a :: b :: c :: r,_=>rfl
def kM {b o:Nat} (h:Src w (some (aD b o)) n l) {m:Nat} (d:i+m<=n):Src w (some ⟨b,o+i,none⟩) m ((l.drop i).take m):=
   ⟨by have:=h.1;simp;omega,(λe=>by cases e),λx c j a=>by
  cases c;have:=h.2.2 _ rfl (i+j) (by omega);rw [aN] at this⊢;rw [Nat.add_assoc,this];simp [List.getD,a]⟩
def xX (g o:Nat) (s:List Int) (w:World) (c:Src w (some (aD g o)) 512 s) (a:Bytes s) (DW:504<dN s\/2<s.getD 0 0):
  Calls prog 239 #[.pointer (some (aD g o))] w λe w'=>e= .returned (.tuple #[.slice none 0 0, .bool false])/\w'=w:=by
 have j:=kM c (i:=1) (m:=2) (by omega);have f:=vj g (o+1) 2 2 ((s.drop 1).take 2) w ((a.drop _).take _) j.1 (by omega) (λi p=>by have:=j.2.2 _ rfl i p;rwa [aN] at this);rw [XW c.1,le2 (a.getD 1).1 (a.getD 2).1,<-(DV a)] at f;have k:=c.2.2 _ rfl 0 (by omega);rw [aN,Nat.add_zero] at k;have d:=a.getD 0;have l:=d.1;have n:=d.2;generalize s.getD 0 0=x at*;generalize dN s=N at*;clear c j d;go_in;go_wp2_with fail;refine(mw g o 1 3 w (by omega) (by omega)).mono ?_;rintro e w' ⟨rfl,b⟩;have eM:=b.symm;subst eM;clear b;go_wp2_with fail;refine bN f λw' b=>?_;have eM:=b.symm;subst eM;clear b f;by_cases r:2<x
 .have Uq:3<=x:=by omega
  go_wp2;go_ret2;exact⟨rfl,rfl⟩
 .have Uq:¬3<=x:=by omega
  have q:504<(N:Int):=by omega
  go_wp2;go_ret2;exact⟨rfl,rfl⟩
def yY {P:Program} {a:Act} {e:Oper} {K:Act->Prop} (c:TypeId) (x:Operand) (j:e.op= .load c x)
    (b o:Nat) (m:a.eval x= .pointer (some (aD b o))) (cs:List Value) (d:TypeDesc) (f:∀w,C w->w.rangeAt b o cs)
    (k:P.underlying c=some d) (hd:d.isRow=true) (g:(P.info? c).map (·.size)=some cs.length) (i:K (a.put e.dst (.agg cs.toArray))):e.quiet P a C K:=
   ⟨_,λw l=>by
  unfold Oper.quietAt execOp;simp only [j,m,Instr.loadAt,Instr.sureAddr,Sem.run_bind,Sem.run_pure,Result.andThen_ok,run_loadVar_mid w b o c cs d (f w l) k hd g];exact⟨rfl,rfl⟩,i⟩
def DX {a:Act} {b:Oper} {K:Act->Prop} (x y:Operand) (T:TypeId) (f:b.op= .binOp .eql 211 x y T)
    (l m:List Int) (g:a.eval x= .agg (bs l).toArray) (i:a.eval y= .agg (bs m).toArray) (d:l.length=512) (e:m.length=512) (c:K (a.put b.dst (.bool (decide (l=m))))):b.quiet prog a C K:=
   ⟨_,λw _=>by
  unfold Oper.quietAt execOp;simp only [f,g,i];have:=QC l m d e w x y;rw [Sem.run_bind,this];exact⟨rfl,rfl⟩,c⟩
def Gc (g o:Nat) (s:List Int) (w:World) (a:Src w (some (aD g o)) 512 s) (c:Bytes s) (j:dN s<=504) (D:s.getD 0 0<=2):
  Calls prog 239 #[.pointer (some (aD g o))] w λe w'=>∃k,e= .returned (.tuple #[.slice (some (aD g k)) (dN s) (dN s), .bool (decide (bh (s.getD 0 0) (dJ s)=s))])/\(0<dN s->k=o+7)/\bW w w':=by
 have y:=kM a (i:=1) (m:=2) (by omega);have v:=vj g (o+1) 2 2 ((s.drop 1).take 2) w ((c.drop _).take _) y.1 (by omega) (λi A=>by have:=y.2.2 _ rfl i A;rwa [aN] at this);rw [XW a.1,le2 (c.getD 1).1 (c.getD 2).1,<-(DV c)] at v;have u:=a.2.2 _ rfl 0 (by omega);rw [aN,Nat.add_zero] at u;have I:=c.getD 0;have QV:∃k,Src w (some (aD g k)) (dN s) (dJ s)/\(0<dN s->k=o+7)/\Calls prog 221 #[.pointer (some (aD g o)),iV 7,iV (7+(dN s:Int))] w λe w'=>e= .returned (.slice (some (aD g k)) (dN s) (dN s))/\w'=w:=by
  by_cases h0:dN s=0
  .have I8:=QD g o 7 w (by omega);refine⟨o,⟨by rw [lR j a.1],(λe=>by cases e),λx D i A=>by omega⟩,λh=>by omega,?_⟩;rw [h0];exact I8
  .have d:=mw g o 7 (7+dN s) w (by omega) (by omega);refine⟨o+7,kM a (i:=7) (m:=dN s) (by omega),λ_=>rfl,?_⟩;have G:7+dN s-7=dN s:=(by omega);rw [G] at d;have H:((7+dN s:Nat):Int)=7+(dN s:Int):=(by omega);rw [H] at d;exact d
 obtain⟨k,C,I9,d⟩:=QV;obtain⟨t,J⟩:∃t:Nat,s.getD 0 0=(t:Int):=⟨(s.getD 0 0).toNat,by omega⟩;have gX:Bytes (dJ s):=(c.drop _).take _;rw [J] at u D⊢;have E:(∀q:pO w,Calls prog 183 #[.int .u8 (t:Int), .slice (some (aD g k)) (dN s) (dN s)] q.to λe w'=>e= .returned (.agg (bs (bh t (dJ s))).toArray)/\Below q.to.heap.size q.to w'):=
  λq=>oA t (some (aD g k)) (dN s) (dN s) (dJ s) q.to (by omega) (C.later q.h) j gX
 have jX:(bh t (dJ s)).length=512:=fv (by rw [(lR j a.1)];exact j);have Bd:∀w',(∃q:pO w,w'=q.to)->w'.rangeAt g o (bs s):=λw' ⟨q,e⟩=>by rw [e];exact nH (a.later q.h)
 have F:∀q:pO w,q.to.cell? (aD g o)=some (.int .u8 (t:Int)):=λq=>cell_later q.h u;obtain⟨n,p,f,r,ac1⟩:=eK I9 Bd jX a.1 (i9 (l:=s) a.1);clear a y I C I9 gX jX Bd;obtain⟨R,z⟩:=bQ (bh t (dJ s));rw [<-z] at E f⊢;clear z;generalize dN s=N at*;have tP:¬3<=(t:Int):=by omega
 go_in;go_wp2_with fail;refine(mw g o 1 3 w (by omega) (by omega)).mono ?_;rintro e w' ⟨rfl,b⟩;have eM:=b.symm;subst eM;clear b;go_wp2_with fail;refine bN v λw' b=>?_;have eM:=b.symm;subst eM;clear b v;go_wp2_with fail;refine bN d λw' b=>?_;have eM:=b.symm;subst eM;clear b d;go_wp2_with fail;have dM:=pO.some w;refine xu (by kernel_rfl) (by kernel_rfl) ?_
 repeat (first|go_big_quiet_skip|(go_big_quiet_want;go_big_quiet_op;first|go_big_quiet_on|(apply Exists.intro;refine⟨λq=>?_,?_⟩;exact Calls.Qw (E q);go_big_quiet_on)))
 go_big_quiet_want
 refine yY 211 _ rfl g o rfl (bs s) _ p underlying211 rfl ac1 ?_;simp only [Act.put,List.setIfInBounds_toArray,List.set_cons_succ,List.set_cons_zero]
 go_big_quiet_on
 go_big_quiet_want
 refine DX _ _ _ rfl R s rfl rfl f r ?_;simp only [Act.put,List.setIfInBounds_toArray,List.set_cons_succ,List.set_cons_zero]
 go_big_quiet_on
 repeat (go_big_quiet_want;go_big_quiet_op;go_big_quiet_on)
 refine wpQuiet_nil ?_;rintro _ ⟨q,rfl⟩;go_wp2;go_ret2;exact⟨k,rfl,n,q.h⟩
def Np (a:Option Addr) (n c:Nat) (w:World) (b:n≠512):
  Calls prog 225 #[.slice a n c] w λe w'=>e= .returned (.tuple #[.slice none 0 0,iV 2])/\bW w w':=by
 obtain⟨g,d,aW,dL⟩:=cO jk (pS a n c w b) yW yV;generalize bm=Z at*;have bV:Z.all Value.oneCell'=true:=all_oneCell_toArray dL;go_in;go_wp2_with fail;refine bN d λw1 ar=>?_;have bL:(w1.alloc (.cells Z 211)).heap[w1.heap.size]? =some (.cells Z 211 (0,0)):=heap_alloc_new _ _;have eh:(w1.alloc (.cells Z 211)).there w1.heap.size 0 Z.toList.length:=cH bL (by simp);have bO:bW w (w1.alloc (.cells Z 211)):=ar.alloc ar.size _;have ee:=ar.size;have Bf:=(bO.trans ((aa.setCells (F:=λj=>j=w1.heap.size) rfl Z.toList 0 _).below (λj f=>by omega) bO.size));go_wp2_with (refine wpList_store_mid rfl 211 _ _ rfl w1.heap.size 0 Z rfl rfl ?h1 ?h2 bV ?_);case h1=>simpa using eh
 case h2=>simpa using aW
 go_ret2;exact⟨rfl,Bf⟩
def Nq (b o c:Nat) (s:List Int) (w:World) (f:Src w (some (aD b o)) 512 s) (Vv:Bytes s):
  Calls prog 225 #[.slice (some (aD b o)) 512 c] w λe w'=>∃v,e= .returned (.tuple #[v,iV (((aX s).2:Nat):Int)])/\xW w' w.heap.size v (aX s).1/\bW w w':=by
 obtain⟨D,el,aW,dL⟩:=cO jk (mx b o c s w f) (i9 (l:=s) f.1) (cF s);have j6:(bs s).length=512:=by rw [bs,List.length_map,f.1]
 have mV:=f.1;have bV:=all_oneCell_toArray dL;obtain⟨F,p⟩:=bQ (bs s);rw [<-p] at el aW dL j6 bV;have z:=yh p;clear dL f p;go_in;go_wp2_with fail;refine bN el λw1 ar=>?_;have bL:(w1.alloc (.cells bm 211)).heap[w1.heap.size]? =some (.cells bm 211 (0,0)):=heap_alloc_new _ _;have eh:=cH bL cP;rw [<-j6] at eh;have bO:bW w (w1.alloc (.cells bm 211)):=ar.alloc ar.size _;have ee:=ar.size;have eR:=bO.trans ((aa.setCells (F:=λj=>j=w1.heap.size) rfl F 0 _).below (λj C=>by omega) bO.size);have aV:=eJ (l:=s) bL (by rw [cP,mV]);rw [<-z.o] at aV;obtain⟨q,dD⟩:=bQ ((w1.alloc (.cells bm 211)).setCells w1.heap.size 0 F);rw [<-dD] at aV eR;have fS:Src q (some (aD w1.heap.size 0)) 512 s:=by
  have:=aV.src (o:=0) (n:=512) (by omega);rwa [List.drop_zero,nz (by omega)] at this
 obtain⟨dP,QW⟩:=bU eR fS;clear el bL bO ar aV eR fS;go_wp2_with (refine wpList_store_mid rfl 211 _ _ rfl w1.heap.size 0 F.toArray rfl rfl ?h1 ?h2 bV ?_);case h1=>simpa using eh
 case h2=>simpa using aW
 rw [<-dD];clear dD eh aW bV;by_cases DW:504<dN s\/2<s.getD 0 0
 .have jc:=kL mV (tO (λh=>by omega));have oh:=yh jc;refine(xX w1.heap.size 0 s q QW.o Vv DW).mono ?_;rintro e w' ⟨rfl,t⟩;have eM:=t.symm;subst eM;clear t jc DW;go_wp2;go_ret2;exact⟨_,by rw [oh.o];rfl,by rw [oh.o];exact xW.nil _ _,dP.o⟩
 .refine(Gc w1.heap.size 0 s q QW.o Vv (by omega) (by omega)).mono ?_;rintro e y ⟨k,rfl,r,bF⟩;have sv:Src y (some (aD w1.heap.size k)) (dN s) (dJ s):=by
   by_cases h0:dN s=0
   .exact⟨lR (by omega) mV,(λe=>by cases e),λx u i A=>by omega⟩
   .rw [r (by omega)];exact kM (QW.o.later bF) (i:=7) (m:=dN s) (by omega)
  have gd:=yh (dP.o.trans (bF.mono dP.o.size));have lA:=lR (s:=s) (by omega) mV;have iS:xW y w.heap.size (.slice (some (aD w1.heap.size k)) (dN s) (dN s)) (dJ s):=⟨some (aD w1.heap.size k),dN s,by rw [lA],by rw [lA];exact sv,by omega,λx u=>by cases u;exact ee⟩;have ahZ:=yh iS;clear sv iS r bF lA;by_cases a:bh (s.getD 0 0) (dJ s)=s
  .have g:=pT mV (Cz (by omega) (by omega) a);have d:=yh g;rw [decide_eq_true a];clear a g;go_wp2;go_ret2;exact⟨_,by rw [d.o];rfl,by rw [d.o];exact ahZ.o,gd.o⟩
  .have g:=kL mV (tO (λh=>a h.2.2));have d:=yh g;rw [decide_eq_false a];clear a g;go_wp2;go_ret2;exact⟨_,by rw [d.o];rfl,by rw [d.o];exact xW.nil _ _,gd.o⟩
def CB (a:Option Addr) (n c:Nat) (s:List Int) (w:World) (f:Src w a n s) (g:Bytes s):
  Calls prog 225 #[.slice a n c] w λe w'=>∃v,e= .returned (.tuple #[v,iV (((aX s).2:Nat):Int)])/\xW w' w.heap.size v (aX s).1/\bW w w':=by
 by_cases d:n=512
 .subst d;obtain⟨b,o,rfl⟩:=cX f (by omega);exact Nq b o c s w f g
 .refine(Np a n c w d).mono ?_;rintro e w' ⟨rfl,iP⟩;rw [yX (by rw [f.1];exact d)];exact⟨_,rfl,xW.nil _ _,iP⟩
def yZ {old:List Int} (a:old.length=512) (b:body.length<=504):gw old body=(bh (cG (old.getD 0 0) (old.getD 511 0)) body,0):=by
 unfold gw;rw [aB (by omega),aB (by omega)]
def Own.full {B:Nat} (h:Own w B v l) (h0:0<l.length):∃g c,v= .slice (some (aD g 0)) l.length c/\B<=g/\ay w 5 g c (bs l):=h.Vs h0
def bR (l:List Int):List Int:=if l.length=512 then l else zs 512
def aT (l:List Int):(bR l).length=512:=by unfold bR;split;assumption;exact bH 512
def gN (h:l.length=512):bR l=l:=by unfold bR;rw [aG h]
def tQ (a:Option Addr) (n c:Nat) (l:List Int) (w:World) (d:Src w a n l):
  Calls prog 218 #[.slice a n c] w λe w'=>e= .returned (.tuple #[.agg (bs (bR l)).toArray, .bool (decide (n=512))])/\bW w w':=by
 by_cases f:n=512
 .subst f;cases a with
  |none=>have:=d.2.1 rfl;omega
  |some x=>
   obtain⟨b,o,rfl,_⟩:=d.spot (by omega);rw [gN d.1];exact mx b o c l w d
 .have e:bR l=zs 512:=by unfold bR;rw [aB (by rw [d.1];exact f)]
  rw [e,decide_eq_false f];exact pS a n c w f
def cT:Array Value:=(bs (zs 1024)).toArray
def Gd:(prog.info? 213).map (λi=>(i.zero,i.size))=some (some (.agg cT),1024):=by kernel_rfl
def kN (w:World):(zeroValue 213).run prog w= .ok (.agg cT) w:=by
 obtain⟨i,b,a⟩:=Option.map_eq_some_iff.1 Gd;simp only [Prod.mk.injEq] at a;simp [zeroValue,typeInfo,b,a.1]
def pU:(prog.info? 213).map (·.size)=some 1024:=by
 obtain⟨i,b,a⟩:=Option.map_eq_some_iff.1 Gd;simp only [Prod.mk.injEq] at a;rw [b,<-a.2];rfl
def dg:cT.size=1024:=by unfold cT;simp only [List.size_toArray,bs,List.length_map,bH]
def Ds:∀(c:List Value) (k b:Nat) (a:Array Value),b+k+c.length<=a.size->
    ((c.zipIdx k).foldl (λcs (x:Value×Nat)=>cs.setIfInBounds (b+x.2) x.1) a).toList=a.toList.take (b+k) ++ c ++ a.toList.drop (b+k+c.length)
 | [],k,b,a,h=>by simp
 |v :: r,k,b,a,h=>by
  have d:b+k<a.toList.length:=by simp at h⊢;omega
  rw [List.zipIdx_cons,List.foldl_cons,Ds r (k+1) b _ (by simp at h⊢;omega)];simp only [Array.toList_setIfInBounds];rw [show b+(k+1)=b+k+1 by omega,List.take_set,List.drop_set];rw [aG (by omega),List.take_succ_eq_append_getElem d,List.set_append_right _ _ (by simp;omega)];have:(b+k)-(a.toList.take (b+k)).length=0:=by simp;omega
  rw [this,List.set_cons_zero];simp only [List.length_cons,List.append_assoc,List.cons_append,List.nil_append];congr 4;omega
def A2 (F a:Array Value) (b:Nat) (h:b+F.size<=a.size):
    (F.zipIdx.foldl (λcs (x:Value×Nat)=>cs.setIfInBounds (b+x.2) x.1) a).toList=a.toList.take b ++ F.toList ++ a.toList.drop (b+F.size):=by
 rw [<-Array.foldl_toList,Array.toList_zipIdx];have:=Ds F.toList 0 b a (by simpa using h);simpa using this
def JO (F G:Array Value) (a:F.size=512) (d:G.size=512) (w:World):
    (Instr.build 213 #[(0, .agg F),(1, .agg G)]).run prog w= .ok (.agg (F ++ G)) w:=by
 obtain⟨i,l,k⟩:=Option.map_eq_some_iff.1 DT;have m:=dg;have c:=A2 F cT (0*512) (by omega);have s1:(F.zipIdx.foldl (λcs (x:Value×Nat)=>cs.setIfInBounds (0*512+x.2) x.1) cT).size=1024:=by
  rw [<-Array.length_toList,c];simp;omega
 have j:=A2 G (F.zipIdx.foldl (λcs (x:Value×Nat)=>cs.setIfInBounds (0*512+x.2) x.1) cT) (1*512) (by omega);have b:Instr.fill (λi=>some (i*512,512)) cT [(0, .agg F),(1, .agg G)]=some (F ++ G):=by
  have e:(Value.agg F).cells=F:=rfl;have f:(Value.agg G).cells=G:=rfl;simp only [Instr.fill,e,f,a,d,m];rw [aB (by simp),aB (by simp only [ne_eq,not_true,decide_false,Bool.false_or,decide_eq_true_eq];omega)];refine congrArg some ?_;apply Array.ext';rw [j,c];have rP:F.toList.length=512:=by simpa using a
  simp only [Nat.zero_mul,List.take_zero,List.nil_append,Nat.zero_add,Nat.one_mul,a,d];rw [List.take_left' rP,List.drop_eq_nil_of_le (by simp;omega)];simp
 have g:(Value.agg cT).cells=cT:=rfl;simp only [Instr.build,Sem.run_bind,kN,Result.andThen_ok,run_underlying underlying213,g];have ee:(sizeOf 211).run prog w= .ok 512 w:=by simp [sizeOf,typeInfo,l,k]
 rw [ee,Result.andThen_ok,b];rfl
def oB {F:List Value} (h:F.length=512):(prog.info? 211).map (·.size)=some F.length:=by rw [DT,h]
def my {b:Array Oper} {rest:List Oper} {c:Oper} {a:Act} {Q:Exit->Act->World->Prop} (Gb:c.guard=none) (x y:Operand) (k:c.op= .build 213 #[(0,x),(1,y)])
    (F G P:Array Value) (l:a.eval x= .agg F) (m:a.eval y= .agg G) (d:F.size=512) (f:G.size=512) (j:P=F ++ G)
    (h:wpList prog b Q rest (a.put c.dst (.agg P)) w):wpList prog b Q (c :: rest) a w:=
 wpList_plain Gb λK g=>by
  subst j;unfold Oper.wp execOp;simp only [k];have e:(#[(0,x),(1,y)]:Array (Nat×Operand)).map (λ(i,o)=>(i,a.eval o))= #[(0, .agg F),(1, .agg G)]:=by simp [l,m]
  rw [e,Sem.run_bind,(JO F G d f w)];exact g _ _ h
def JP (C E:Bool) (F G:List Value) (q:F.length=512) (r:G.length=512) (g:∀v∈F,v.oneCell'=true) (i:∀v∈G,v.oneCell'=true) (x y:Value) (w:World)
    (A9:∀w':World,bW w w'->Calls prog 218 #[x] w' λe Bq=>e= .returned (.tuple #[.agg F.toArray, .bool C])/\bW w' Bq)
    (By:∀w':World,bW w w'->Calls prog 218 #[y] w' λe Bq=>e= .returned (.tuple #[.agg G.toArray, .bool E])/\bW w' Bq):
  Calls prog 180 #[x,y] w λe w'=>e= .returned (.tuple #[.agg (F.toArray ++ G.toArray), .bool (C && E)])/\bW w w':=by
 cases C
 .have H:=jk;have l:F.toArray.size=512:=by simpa using q
  have m:G.toArray.size=512:=by simpa using r
  have sx:=oB q;have sy:=oB r;have y9:(prog.info? 213).map (·.size)=some (F.toArray ++ G.toArray).size:=by rw [pU];simp;omega
  have QX:=all_oneCell_toArray g;have QY:=all_oneCell_toArray i;have Ge:(F.toArray ++ G.toArray).all (·.oneCell')=true:=by
   have:=all_oneCell_toArray (cs:=F ++ G) (λv n=>(List.mem_append.1 n).elim (g v) (i v));simpa using this
  have bO:bW w (w.alloc (.cells cT 213)):=(bi _ w).alloc (bS _) _;have u:=A9 _ bO;have cQ:=yh bO;have Gf:(w.alloc (.cells cT 213)).heap[w.heap.size]? =some (.cells cT 213 (0,0)):=heap_alloc_new _ _;obtain⟨Gg,c⟩:=bU Gf By;have bL:w.heap.size<(w.alloc (.cells cT 213)).heap.size:=by simp
  clear bO A9 By Gf;go_in;go_wp2_with fail;refine bN u λw1 ar=>?_;have eR:=cQ.o.trans (ar.mono cQ.o.size);have kO:=(ar.block w.heap.size bL).trans Gg.o;have dE:=eR.size;have sq:=i6 bL ar.size;have jl:(w1.alloc (.cells bm 211)).heap[w1.heap.size]? =some (.cells bm 211 (0,0)):=heap_alloc_new _ _;have eh:=cH jl cP;rw [<-q] at eh;have jU:bW w (w1.alloc (.cells bm 211)):=eR.alloc dE _;have rF:=jU.trans ((aa.setCells (F:=λj=>j=w1.heap.size) rfl F 0 _).below (λj t=>by omega) jU.size);have Zy:=World.rangeAt_setCells_same (w1.alloc (.cells bm 211)) w1.heap.size 0 F eh;have za:((w1.alloc (.cells bm 211)).setCells w1.heap.size 0 F).heap[w.heap.size]? =some (.cells cT 213 (0,0)):=
     ((aa.setCells (F:=λj=>j=w1.heap.size) rfl F 0 _).block w.heap.size (by simp;omega) (by omega)).trans ((heap_alloc_old w1 _ sq).trans kO)
  have jD:((w1.alloc (.cells bm 211)).setCells w1.heap.size 0 F).heap.size=w1.heap.size+1:=by rw [mU];simp
  obtain⟨A,dD⟩:=bQ ((w1.alloc (.cells bm 211)).setCells w1.heap.size 0 F);rw [<-dD] at rF Zy za jD;obtain⟨z,fd,jV,d,Gh⟩:=eK (c.o A rF) (yh dD) (yh rF) (yh Zy) (yh za);clear u ar eR kO jl jU rF Zy za dD c cQ Gg;go_wp2_with (refine wpList_store_mid rfl 211 _ _ rfl w1.heap.size 0 F.toArray rfl rfl ?h1 ?h2 QX ?_);case h1=>simpa using eh
  case h2=>simpa using sx
  rw [<-fd.o];refine bN z λb bF=>?_;have JK:=jV.o.trans (bF.mono jV.o.size);have wn:=(bF.block w.heap.size (by omega)).trans Gh.o;have lB:=JK.size;have FL:=bF.size;have xY:(b.alloc (.cells bm 211)).heap[b.heap.size]? =some (.cells bm 211 (0,0)):=heap_alloc_new _ _;have JQ:=cH xY cP;rw [<-r] at JQ;have Bf:bW w (b.alloc (.cells bm 211)):=JK.alloc lB _;have BE:=Bf.trans ((aa.setCells (F:=λj=>j=b.heap.size) rfl G 0 _).below (λj t=>by omega) Bf.size);have Zz:=World.rangeAt_setCells_same (b.alloc (.cells bm 211)) b.heap.size 0 G JQ;have JR:((b.alloc (.cells bm 211)).setCells b.heap.size 0 G).rangeAt w1.heap.size 0 F:=by
   intro j v n;rw [World.cell?_of_block (w:=A) (a:=⟨w1.heap.size,0+j,none⟩)]
   .exact(d.o j v n)
   .exact((aa.setCells (F:=λj=>j=b.heap.size) rfl G 0 _).block w1.heap.size (by simp;omega) (by omega)).trans ((heap_alloc_old b _ (show w1.heap.size<b.heap.size by omega)).trans (bF.block w1.heap.size (by omega)))
  have rN:((b.alloc (.cells bm 211)).setCells b.heap.size 0 G).heap[w.heap.size]? =some (.cells cT 213 (0,0)):=
     ((aa.setCells (F:=λj=>j=b.heap.size) rfl G 0 _).block w.heap.size (by simp;omega) (by omega)).trans ((heap_alloc_old b _ (show w.heap.size<b.heap.size by omega)).trans wn)
  obtain⟨p,px⟩:=bQ ((b.alloc (.cells bm 211)).setCells b.heap.size 0 G);rw [<-px] at BE Zz JR rN;have JS:p.there w.heap.size 0 (F.toArray ++ G.toArray).toList.length:=cH rN (by rw [dg];simp;omega);have f:=yh (World.rangeAt_setCells_same p w.heap.size 0 (F.toArray ++ G.toArray).toList JS);obtain⟨Nr,Ja⟩:=bU (BE.trans ((aa.setCells (F:=λj=>j=w.heap.size) rfl (F.toArray ++ G.toArray).toList 0 p).below (λj t=>by omega) BE.size)) px;have tR:(prog.info? 213).map (·.size)=some (F.toArray ++ G.toArray).toList.length:=by rw [pU];simp;omega
  obtain⟨P,k⟩:=bQ (F.toArray ++ G.toArray);rw [<-k] at y9 Ge JS f Nr tR;have s:=yh k;clear z bF JK wn xY Bf BE rN px k jV d Gh fd;go_wp2_with (first|refine my rfl _ _ rfl F.toArray G.toArray P rfl rfl l m s.o ?_|refine wpList_store_mid rfl 211 _ _ rfl b.heap.size 0 G.toArray rfl rfl ?h1 ?h2 QY ?_|(rw [<-Ja.o];first|refine wpList_load_mid rfl 211 _ rfl w1.heap.size 0 rfl F _ JR underlying211 rfl sx ?_|refine wpList_load_mid rfl 211 _ rfl b.heap.size 0 rfl G _ Zz underlying211 rfl sy ?_)|refine wpList_load_mid rfl 211 _ rfl w1.heap.size 0 rfl F _ JR underlying211 rfl sx ?_|refine wpList_load_mid rfl 211 _ rfl b.heap.size 0 rfl G _ Zz underlying211 rfl sy ?_|refine wpList_store_mid rfl 213 _ _ rfl w.heap.size 0 P rfl rfl ?h3 ?h4 Ge ?_);case h1=>simpa using JQ
  case h2=>simpa using sy
  case h3=>simpa using JS
  case h4=>simpa using y9
  have D:P.toList.toArray=(F ++ G).toArray:=by rw [s.o];simp
  exact bodyPost_ret (results_cell_tmp (P:=prog) rfl _ _ w.heap.size P.toList _ _ rfl rfl f.out underlying213 rfl tR) rfl ⟨by rw [D];rfl,Nr.out⟩
 .have H:=jk;have l:F.toArray.size=512:=by simpa using q
  have m:G.toArray.size=512:=by simpa using r
  have sx:=oB q;have sy:=oB r;have y9:(prog.info? 213).map (·.size)=some (F.toArray ++ G.toArray).size:=by rw [pU];simp;omega
  have QX:=all_oneCell_toArray g;have QY:=all_oneCell_toArray i;have Ge:(F.toArray ++ G.toArray).all (·.oneCell')=true:=by
   have:=all_oneCell_toArray (cs:=F ++ G) (λv n=>(List.mem_append.1 n).elim (g v) (i v));simpa using this
  have bO:bW w (w.alloc (.cells cT 213)):=(bi _ w).alloc (bS _) _;have u:=A9 _ bO;have cQ:=yh bO;have Gf:(w.alloc (.cells cT 213)).heap[w.heap.size]? =some (.cells cT 213 (0,0)):=heap_alloc_new _ _;obtain⟨Gg,c⟩:=bU Gf By;have bL:w.heap.size<(w.alloc (.cells cT 213)).heap.size:=by simp
  clear bO A9 By Gf;go_in;go_wp2_with fail;refine bN u λw1 ar=>?_;have eR:=cQ.o.trans (ar.mono cQ.o.size);have kO:=(ar.block w.heap.size bL).trans Gg.o;have dE:=eR.size;have sq:=i6 bL ar.size;have jl:(w1.alloc (.cells bm 211)).heap[w1.heap.size]? =some (.cells bm 211 (0,0)):=heap_alloc_new _ _;have eh:=cH jl cP;rw [<-q] at eh;have jU:bW w (w1.alloc (.cells bm 211)):=eR.alloc dE _;have rF:=jU.trans ((aa.setCells (F:=λj=>j=w1.heap.size) rfl F 0 _).below (λj t=>by omega) jU.size);have Zy:=World.rangeAt_setCells_same (w1.alloc (.cells bm 211)) w1.heap.size 0 F eh;have za:((w1.alloc (.cells bm 211)).setCells w1.heap.size 0 F).heap[w.heap.size]? =some (.cells cT 213 (0,0)):=
     ((aa.setCells (F:=λj=>j=w1.heap.size) rfl F 0 _).block w.heap.size (by simp;omega) (by omega)).trans ((heap_alloc_old w1 _ sq).trans kO)
  have jD:((w1.alloc (.cells bm 211)).setCells w1.heap.size 0 F).heap.size=w1.heap.size+1:=by rw [mU];simp
  obtain⟨A,dD⟩:=bQ ((w1.alloc (.cells bm 211)).setCells w1.heap.size 0 F);rw [<-dD] at rF Zy za jD;obtain⟨z,fd,jV,d,Gh⟩:=eK (c.o A rF) (yh dD) (yh rF) (yh Zy) (yh za);clear u ar eR kO jl jU rF Zy za dD c cQ Gg;go_wp2_with (refine wpList_store_mid rfl 211 _ _ rfl w1.heap.size 0 F.toArray rfl rfl ?h1 ?h2 QX ?_);case h1=>simpa using eh
  case h2=>simpa using sx
  rw [<-fd.o];refine bN z λb bF=>?_;have JK:=jV.o.trans (bF.mono jV.o.size);have wn:=(bF.block w.heap.size (by omega)).trans Gh.o;have lB:=JK.size;have FL:=bF.size;have xY:(b.alloc (.cells bm 211)).heap[b.heap.size]? =some (.cells bm 211 (0,0)):=heap_alloc_new _ _;have JQ:=cH xY cP;rw [<-r] at JQ;have Bf:bW w (b.alloc (.cells bm 211)):=JK.alloc lB _;have BE:=Bf.trans ((aa.setCells (F:=λj=>j=b.heap.size) rfl G 0 _).below (λj t=>by omega) Bf.size);have Zz:=World.rangeAt_setCells_same (b.alloc (.cells bm 211)) b.heap.size 0 G JQ;have JR:((b.alloc (.cells bm 211)).setCells b.heap.size 0 G).rangeAt w1.heap.size 0 F:=by
   intro j v n;rw [World.cell?_of_block (w:=A) (a:=⟨w1.heap.size,0+j,none⟩)]
   .exact(d.o j v n)
   .exact((aa.setCells (F:=λj=>j=b.heap.size) rfl G 0 _).block w1.heap.size (by simp;omega) (by omega)).trans ((heap_alloc_old b _ (show w1.heap.size<b.heap.size by omega)).trans (bF.block w1.heap.size (by omega)))
  have rN:((b.alloc (.cells bm 211)).setCells b.heap.size 0 G).heap[w.heap.size]? =some (.cells cT 213 (0,0)):=
     ((aa.setCells (F:=λj=>j=b.heap.size) rfl G 0 _).block w.heap.size (by simp;omega) (by omega)).trans ((heap_alloc_old b _ (show w.heap.size<b.heap.size by omega)).trans wn)
  obtain⟨p,px⟩:=bQ ((b.alloc (.cells bm 211)).setCells b.heap.size 0 G);rw [<-px] at BE Zz JR rN;have JS:p.there w.heap.size 0 (F.toArray ++ G.toArray).toList.length:=cH rN (by rw [dg];simp;omega);have f:=yh (World.rangeAt_setCells_same p w.heap.size 0 (F.toArray ++ G.toArray).toList JS);obtain⟨Nr,Ja⟩:=bU (BE.trans ((aa.setCells (F:=λj=>j=w.heap.size) rfl (F.toArray ++ G.toArray).toList 0 p).below (λj t=>by omega) BE.size)) px;have tR:(prog.info? 213).map (·.size)=some (F.toArray ++ G.toArray).toList.length:=by rw [pU];simp;omega
  obtain⟨P,k⟩:=bQ (F.toArray ++ G.toArray);rw [<-k] at y9 Ge JS f Nr tR;have s:=yh k;clear z bF JK wn xY Bf BE rN px k jV d Gh fd;go_wp2_with (first|refine my rfl _ _ rfl F.toArray G.toArray P rfl rfl l m s.o ?_|refine wpList_store_mid rfl 211 _ _ rfl b.heap.size 0 G.toArray rfl rfl ?h1 ?h2 QY ?_|(rw [<-Ja.o];first|refine wpList_load_mid rfl 211 _ rfl w1.heap.size 0 rfl F _ JR underlying211 rfl sx ?_|refine wpList_load_mid rfl 211 _ rfl b.heap.size 0 rfl G _ Zz underlying211 rfl sy ?_)|refine wpList_load_mid rfl 211 _ rfl w1.heap.size 0 rfl F _ JR underlying211 rfl sx ?_|refine wpList_load_mid rfl 211 _ rfl b.heap.size 0 rfl G _ Zz underlying211 rfl sy ?_|refine wpList_store_mid rfl 213 _ _ rfl w.heap.size 0 P rfl rfl ?h3 ?h4 Ge ?_);case h1=>simpa using JQ
  case h2=>simpa using sy
  case h3=>simpa using JS
  case h4=>simpa using y9
  have D:P.toList.toArray=(F ++ G).toArray:=by rw [s.o];simp
  exact bodyPost_ret (results_cell_tmp (P:=prog) rfl _ _ w.heap.size P.toList _ _ rfl rfl f.out underlying213 rfl tR) rfl ⟨by rw [D];rfl,Nr.out⟩
def jt (a:Option Addr) (n c:Nat) (l:List Int) (b:Option Addr) (m d:Nat) (r:List Int) (w:World) (g:Src w a n l) (bo:Src w b m r):
  Calls prog 180 #[.slice a n c, .slice b m d] w λe w'=>e= .returned (.tuple #[.agg (bs (bR l ++ bR r)).toArray, .bool (decide (n=512) && decide (m=512))])/\bW w w':=by
 have h:=JP (decide (n=512)) (decide (m=512)) (bs (bR l)) (bs (bR r)) (by rw [bs,List.length_map,aT]) (by rw [bs,List.length_map,aT]) (cF _) (cF _) (.slice a n c) (.slice b m d) w
    (λw' f=>tQ a n c l w' (g.later f)) (λw' f=>tQ b m d r w' (bo.later f))
 rw [List.append_toArray,<-iQ] at h;exact h
def iA (w:World) (g:Nat) (v:Value) (l:List Int):Prop:=∃a c,v= .slice a l.length c/\Src w a l.length l/\l.length<=c/\∀x,a=some x->x.block=g
def iA.nil (w:World) (g:Nat):iA w g (.slice none 0 0) []:=⟨none,0,rfl,⟨rfl,λ_=>rfl,λx a=>by cases a⟩,bS _,λx a=>by cases a⟩
def iA.later (h:iA w g v l) (b:bW w w'):iA w' g v l:=by
 obtain⟨a,c,rfl,e,d,f⟩:=h;exact⟨a,c,rfl,e.later b,d,f⟩
def iA.lst {B:Nat} (h:iA w g v l) (d:B<=g):xW w B v l:=by
 obtain⟨a,c,rfl,f,b,i⟩:=h;exact⟨a,c,rfl,f,b,λx e=>by rw [i x e];exact d⟩
def fk (h:fA s=none\/∃b,fA s=some b/\(b.length<8\/9223372036854775808<=le (b.take 8))):az s=(0, []):=by
 rcases h with h|⟨b,h,a⟩
 .simp [az,h]
 .simp only [az,h];rw [aB (by omega)]
def tS {b:List Int} (h:fA s=some b) (a:8<=b.length) (c:le (b.take 8)<9223372036854775808):az s=(le (b.take 8),b.drop 8):=by
 simp only [az,h];rw [aG ⟨a,c⟩]
def zb (g o:Nat) (s:List Int) (w:World) (c:Src w (some (aD g o)) 512 s) (p:Bytes s):
  Calls prog 219 #[.pointer (some (aD g o))] w λe w'=>∃v,e= .returned (.tuple #[iV (((az s).1:Nat):Int),v])/\iA w' g v (az s).2/\bW w w':=by
 have mV:=c.1;go_in;go_wp2_with fail;by_cases DW:504<dN s\/2<s.getD 0 0
 .have jc:az s=(0, []):=fk (.inl (by unfold fA;rw [aB (λh=>by omega)]));have oh:=yh jc;have b:=xX g o s w c p DW;clear jc c;refine bN b λw' d=>?_;have eM:=d.symm;subst eM;clear d b;go_wp2;go_ret2;exact⟨_,by rw [oh.o];rfl,by rw [oh.o];exact iA.nil _ _,bi _ _⟩
 .have b:=Gc g o s w c p (by omega) (by omega);have lA:=lR (s:=s) (by omega) mV;have gX:Bytes (dJ s):=(p.drop _).take _;by_cases a:bh (s.getD 0 0) (dJ s)=s
  .have mj:fA s=some (dJ s):=(by unfold fA;rw [aG ⟨by omega,by omega,a⟩]);rw [decide_eq_true a] at b;refine b.mono ?_;by_cases A:dN s<8
   .have jc:=fk (.inr ⟨_,mj, .inl (by omega)⟩);have oh:=yh jc;have l:(dN s:Int)<8:=(by omega);clear jc c mj a gX;generalize dN s=N at*;rintro e w1 ⟨k,rfl,_,ar⟩;have cQ:=yh ar;clear ar b;go_wp2;go_ret2;exact⟨_,by rw [oh.o];rfl,by rw [oh.o];exact iA.nil _ _,cQ.o⟩
   .have l:¬(dN s:Int)<8:=(by omega);have sv:∀w1:World,bW w w1->Src w1 (some ⟨g,o+7,none⟩) (dN s) (dJ s):=λw1 h=>kM (c.later h) (i:=7) (m:=dN s) (by omega);have Ns:((dJ s).take 8).length=8:=(by rw [List.length_take];omega);have ZA:=F9 (gX.take 8) (by omega);have pN:=λw1 h=>by
     have r:=kM (sv w1 h) (i:=0) (m:=8) (by omega);rw [List.drop_zero] at r;exact vj g (o+7) 8 8 ((dJ s).take 8) w1 (gX.take 8) Ns (by omega) (λi q=>by have:=r.2.2 _ rfl i q;rwa [aN,Nat.add_zero] at this)
    have Vu:=yh pN;clear pN;obtain⟨M,f⟩:=bQ (le ((dJ s).take 8));rw [<-f] at ZA Vu;rintro e w1 ⟨k,rfl,j,ar⟩;have Br:=j (by omega);subst Br;have cQ:=yh ar;have t:=Vu.o w1 ar;clear ar b Vu j;go_wp2_with fail;refine bN t λw' d=>?_;have eM:=d.symm;subst eM;clear d t;by_cases aU:9223372036854775807<M
    .have jc:=fk (.inr ⟨_,mj, .inr (by omega)⟩);have oh:=yh jc;have ac5:9223372036854775807<(M:Int):=(by omega);clear jc c mj a gX f;generalize dN s=N at*;have y:(8:Int)<=(N:Int):=(by omega);go_wp2;go_ret2;exact⟨_,by rw [oh.o];rfl,by rw [oh.o];exact iA.nil _ _,cQ.o⟩
    .have kP:az s=(M,(dJ s).drop 8):=(by rw [f];exact tS mj (by omega) (by omega));have JT:=yh kP;have ac5:¬9223372036854775807<(M:Int):=(by omega);have qR:((dJ s).drop 8).length=dN s-8:=(by simp;omega);have jI:∀(w1:World) (k:Nat),bW w w1->(8<dN s->k=o+7+8)->iA w1 g (.slice (some (aD g k)) (dN s-8) (dN s-8)) ((dJ s).drop 8):=by
      intro w1 k h j;refine⟨some (aD g k),dN s-8,by rw [qR],?_,by omega,λx u=>by cases u;rfl⟩;rw [qR];by_cases n:8<dN s
      .rw [j n];have:=kM (sv w1 h) (i:=8) (m:=dN s-8) (by omega);rwa [nz (by omega)] at this
      .exact⟨by omega,(λe=>by cases e),λx u i q=>by omega⟩
     have ld:=yh jI;clear kP c mj a gX f jI sv qR Ns lA;generalize dN s=N at*;have y:(8:Int)<=(N:Int):=(by omega);go_wp2;go_quiet (fail);by_cases n:N=8
     .subst n;go_wp2;go_ret2;exact⟨_,by rw [JT.o];rfl,by rw [JT.o];exact ld.o _ _ (below_drewN cQ.o _) (λh=>by omega),below_drewN cQ.o _⟩
     .have z:¬(N:Int)=8:=(by omega);go_wp2;go_ret2;exact⟨_,by rw [JT.o];rfl,by rw [JT.o];exact ld.o _ _ (below_drewN cQ.o _) (λh=>by omega),below_drewN cQ.o _⟩
  .have jc:=fk (.inl (by unfold fA;rw [aB (λh=>a h.2.2)]));have oh:=yh jc;rw [decide_eq_false a] at b;clear jc c a gX;generalize dN s=N at*;refine b.mono ?_;rintro e w1 ⟨k,rfl,_,ar⟩;have cQ:=yh ar;clear ar b;go_wp2;go_ret2;exact⟨_,by rw [oh.o];rfl,by rw [oh.o];exact iA.nil _ _,cQ.o⟩
def lZ {r:List Int} (a:l.length=512) (b:r.length=512):am l r=if (az l).1=0/\(az r).1=0 then (0,0, [],30) else if (az l).1<(az r).1 then (1,(az r).1,(az r).2,0) else (0,(az l).1,(az l).2,0):=by
 unfold am;rw [aB (by omega)]
def kB (s:List Int):(az s).1<=9223372036854775807:=by
 unfold az;split
 .simp
 .split
  .next h=>simp only;omega
  .simp
def JU (l r:List Int):Nat->Nat×Nat×List Int
 |0=>(0,0, [])
 |1=>if 0<(az l).1 then (0,(az l).1,(az l).2) else (0,0, [])
 |_+2=>if (if 0<(az l).1 then (0,(az l).1,(az l).2) else (0,0,([]:List Int))).2.1<(az r).1 then (1,(az r).1,(az r).2) else if 0<(az l).1 then (0,(az l).1,(az l).2) else (0,0, [])
def Vw {r:List Int} (c:l.length=512) (d:r.length=512):JU l r 2=((am l r).1,(am l r).2.1,(am l r).2.2.1):=by
 rw [lZ c d];unfold JU;by_cases b:0<(az l).1
 .simp only [aG b];rw [aB (show¬((az l).1=0/\(az r).1=0) by omega)];by_cases a:(az l).1<(az r).1
  .simp only [aG a]
  .simp only [aB a]
 .simp only [aB b];by_cases a:0<(az r).1
  .simp only [aG a];rw [aB (show¬((az l).1=0/\(az r).1=0) by omega),aG (show (az l).1<(az r).1 by omega)]
  .simp only [aB a];rw [aG (show (az l).1=0/\(az r).1=0 by omega)]
def iA.agree (h:iA w g v l) (f:w'.heap[g]? =w.heap[g]?):iA w' g v l:=by
 obtain⟨a,c,rfl,b,j,d⟩:=h;refine⟨a,c,rfl,⟨b.1,b.2.1,λx e i k=>?_⟩,j,d⟩;rw [World.cell?_of_block (w:=w) (by rw [kG,(d x e)];exact f)];exact b.2.2 x e i k
def ZB {a b c:Value} (h:w.heap[g]? =some (.cells #[a,b,c] T (0,0))):
    (((w.setCell ⟨g,0,none⟩ x).setCell ⟨g,1,none⟩ y).setCell ⟨g,2,none⟩ z).heap[g]? =some (.cells #[x,y,z] T (0,0)):=by
 rw [heap_setCell_same _ _ _ _ _ _ (heap_setCell_same _ _ _ _ _ _ (heap_setCell_same _ _ _ _ _ _ h))];rfl
def ZC (h:w.heap[g]? =some (.cells #[x,y,z] T (0,0))):w.rangeAt g 0 [x,y,z]:=by
 intro j v a;rw [Nat.zero_add];exact aj h (by simpa using a)
def JV:(prog.info? 217).map (·.size)=some 3:=by kernel_rfl
def JW (w:World) (g:Nat) (x y z:Value):aa (λj=>j=g) w (((w.setCell ⟨g,0,none⟩ x).setCell ⟨g,1,none⟩ y).setCell ⟨g,2,none⟩ z):=
   ((aa.setCell (F:=λj=>j=g) (p:=⟨g,0,none⟩) w rfl x).trans (aa.setCell (F:=λj=>j=g) (p:=⟨g,1,none⟩) _ rfl y) (λ_ h=> .inl h)).trans (aa.setCell (F:=λj=>j=g) (p:=⟨g,2,none⟩) _ rfl z) (λ_ h=> .inl h)
def Nw (w:World) (g:Nat) (l r:List Int) (k:Nat) (wr:World):Prop:=
 ∃v,wr.heap[w.heap.size+1]? =some (.cells #[.int .i64 (((JU l r k).1:Nat):Int), .int .i64 (((JU l r k).2.1:Nat):Int),v] 217 (0,0))/\iA wr g v (JU l r k).2.2/\
    (∃x y z,wr.heap[w.heap.size]? =some (.cells #[x,y,z] 217 (0,0)))/\bW w wr
def oC (g:Nat) (l r:List Int) (w:World) (s:Src w (some (aD g 0)) 512 l) (bo:Src w (some (aD g 512)) 512 r) (R:Bytes l) (T:Bytes r):
  Calls prog 181 #[pQ g] w λe w'=>∃v,e= .returned (.agg #[iV (((am l r).1:Nat):Int),iV (((am l r).2.1:Nat):Int),v])/\iA w' g v (am l r).2.2.1/\bW w w':=by
 obtain⟨J,K⟩:=bU (λw' (F:bW w w')=>zb g 0 l w' (s.later F) R) (λw' (F:bW w w')=>zb g 512 r w' (bo.later F) T);have W:g<w.heap.size:=s.old _ rfl (by omega);have ld:=yh (Vw s.1 bo.1);clear s bo;go_in;go_wp2;go_loopw [8] (λi wr=>∃k:Nat,k<=2/\i=iV k/\Nw w g l r k wr) (λi _=>2-(intOf i).toNat);case atStart=>exact⟨0,dV _,rfl, .slice none 0 0,heap_alloc2_new _ _ _,iA.nil _ _,⟨_,_,_,heap_alloc2_old _ _ _⟩,((bi _ w).alloc (bS _) _).alloc (by simp) _⟩
 case round=>
  obtain⟨k,X,rfl,E⟩:=hrel;obtain rfl|rfl|rfl:k=0\/k=1\/k=2:=by omega
  .obtain⟨v,aV,iS,jq,ew⟩:=E;have m:=J.out wr ew;have f:=yh (aH aV (aH iS (aH jq ew)));clear aV iS jq ew;generalize Mg:JU l r 0=S at*;go_wp2_with fail;refine m.mono ?_;rintro e w1 ⟨U,rfl,cu,ar⟩;obtain⟨b,c,d,iM⟩:=cu;subst d;have cu:iA w1 g _ _:=⟨b,c,rfl,iM⟩;clear iM;obtain⟨aV,iS,⟨n,p,q,jq⟩,ew⟩:=f.o;have jd:=(ar.block _ (lV.1 aV).1).trans aV;have kO:=(ar.block _ (lV.1 jq).1).trans jq;have bO:=ew.trans (ar.mono ew.size);have zc:=iS.later ar;obtain⟨JB,A9,By,ZD,PA,Be,M⟩:=nA (aM jd) (bG jd) (bK jd) (ae jd 0) (ae jd 1) (ae jd 2) bO.size;by_cases h0:S.2.1<(az l).1
   .have Pw:((S.2.1:Nat):Int)<(((az l).1:Nat):Int):=(by omega);have a:JU l r 1=(0,(az l).1,(az l).2):=by
     rw [<-Mg] at h0;have h0:0<(az l).1:=h0;unfold JU;rw [aG h0]
    have eZ:=JW w1 (w.heap.size+1) (iV 0) (iV (((az l).1:Nat):Int)) (.slice b (az l).2.length c);have QZ:Nw w g l r 1 (((w1.setCell ⟨w.heap.size+1,0,none⟩ (.int .i64 0)).setCell ⟨w.heap.size+1,1,none⟩ (.int .i64 (((az l).1:Nat):Int))).setCell ⟨w.heap.size+1,2,none⟩ (.slice b (az l).2.length c)):=by
     refine⟨_,by rw [a];exact(ZB (x:=iV 0) (y:=iV (((az l).1:Nat):Int)) (z:= .slice b (az l).2.length c) jd),by rw [a];exact cu.agree (eZ.block g (by omega) (by omega)),⟨n,p,q,(eZ.block _ (lV.1 kO).1 (by omega)).trans kO⟩,bO.trans (eZ.below (λj L=>by omega) bO.size)⟩
    have ZE:=yh QZ;generalize (az l).1=A at*;generalize (az l).2.length=D at*;clear m f aV iS jq ew jd kO bO zc eZ QZ cu ar a;go_wp2;go_roundw;case rel=>exact⟨1,by omega,by go_num,ZE.o⟩
    case measure=>simp [intOf]
   .have Pw:¬((S.2.1:Nat):Int)<(((az l).1:Nat):Int):=(by omega);have a:JU l r 1=S:=by
     rw [<-Mg] at h0⊢;have h0:¬0<(az l).1:=h0;unfold JU;rw [aB h0]
    have QZ:Nw w g l r 1 w1:=⟨v,by rw [a];exact jd,by rw [a];exact zc,⟨n,p,q,kO⟩,bO⟩;have ZE:=yh QZ;generalize (az l).1=A at*;generalize (az l).2.length=D at*;clear m f aV iS jq ew jd kO bO zc QZ cu ar a;go_wp2;go_roundw;case rel=>exact⟨1,by omega,by go_num,ZE.o⟩
    case measure=>simp [intOf]
  .obtain⟨v,aV,iS,jq,ew⟩:=E;have m:=K.out wr ew;have f:=yh (aH aV (aH iS (aH jq ew)));clear aV iS jq ew;generalize Mg:JU l r 1=S at*;go_wp2_with fail;refine m.mono ?_;rintro e w1 ⟨U,rfl,cu,ar⟩;obtain⟨b,c,d,iM⟩:=cu;subst d;have cu:iA w1 g _ _:=⟨b,c,rfl,iM⟩;clear iM;obtain⟨aV,iS,⟨n,p,q,jq⟩,ew⟩:=f.o;have jd:=(ar.block _ (lV.1 aV).1).trans aV;have kO:=(ar.block _ (lV.1 jq).1).trans jq;have bO:=ew.trans (ar.mono ew.size);have zc:=iS.later ar;obtain⟨JB,A9,By,ZD,PA,Be,M⟩:=nA (aM jd) (bG jd) (bK jd) (ae jd 0) (ae jd 1) (ae jd 2) bO.size;by_cases h0:S.2.1<(az r).1
   .have Pw:((S.2.1:Nat):Int)<(((az r).1:Nat):Int):=(by omega);have a:JU l r 2=(1,(az r).1,(az r).2):=by
     rw [<-Mg] at h0;unfold JU at h0⊢;rw [aG h0]
    have eZ:=JW w1 (w.heap.size+1) (iV 1) (iV (((az r).1:Nat):Int)) (.slice b (az r).2.length c);have QZ:Nw w g l r 2 (((w1.setCell ⟨w.heap.size+1,0,none⟩ (.int .i64 1)).setCell ⟨w.heap.size+1,1,none⟩ (.int .i64 (((az r).1:Nat):Int))).setCell ⟨w.heap.size+1,2,none⟩ (.slice b (az r).2.length c)):=by
     refine⟨_,by rw [a];exact(ZB (x:=iV 1) (y:=iV (((az r).1:Nat):Int)) (z:= .slice b (az r).2.length c) jd),by rw [a];exact cu.agree (eZ.block g (by omega) (by omega)),⟨n,p,q,(eZ.block _ (lV.1 kO).1 (by omega)).trans kO⟩,bO.trans (eZ.below (λj L=>by omega) bO.size)⟩
    have ZE:=yh QZ;generalize (az r).1=A at*;generalize (az r).2.length=D at*;clear m f aV iS jq ew jd kO bO zc eZ QZ cu ar a;go_wp2;go_roundw;case rel=>exact⟨2,by omega,by go_num,ZE.o⟩
    case measure=>simp [intOf]
   .have Pw:¬((S.2.1:Nat):Int)<(((az r).1:Nat):Int):=(by omega);have a:JU l r 2=S:=by
     rw [<-Mg] at h0⊢;unfold JU at h0⊢;rw [aB h0]
    have QZ:Nw w g l r 2 w1:=⟨v,by rw [a];exact jd,by rw [a];exact zc,⟨n,p,q,kO⟩,bO⟩;have ZE:=yh QZ;generalize (az r).1=A at*;generalize (az r).2.length=D at*;clear m f aV iS jq ew jd kO bO zc QZ cu ar a;go_wp2;go_roundw;case rel=>exact⟨2,by omega,by go_num,ZE.o⟩
    case measure=>simp [intOf]
  .obtain⟨v,aV,iS,⟨n,p,q,jq⟩,ew⟩:=E;rw [ld.o] at aV iS;obtain⟨b,c,d,iM⟩:=iS;subst d;have iS:iA wr g _ _:=⟨b,c,rfl,iM⟩;clear iM
   dsimp only at aV iS
   generalize Q:(am l r).2.2.1.length=D at*;obtain⟨JB,A9,By,xr,iN,cI,ZD,PA,Be,pi,eZ,M⟩:=FE (aM aV) (bG aV) (bK aV) (aM jq) (bG jq) (bK jq) (ae jq 0) (ae jq 1) (ae jq 2) (ZB (x:=iV (((am l r).1:Nat):Int)) (y:=iV (((am l r).2.1:Nat):Int)) (z:= .slice b D c) jq) (JW wr w.heap.size (iV (((am l r).1:Nat):Int)) (iV (((am l r).2.1:Nat):Int)) (.slice b D c)) ew.size;have fH:=iS.agree (eZ.block g (by omega) (by omega));have eR:=ew.trans (eZ.below (λj L=>by omega) ew.size);have t:=yh (aH fH eR);have G:=aM pi;have H:=bG pi;have I:=bK pi;clear aV iS jq ew eZ fH eR ld J K;have A8:=yh (ZC pi);obtain⟨A,u⟩:=bQ ((am l r).1);obtain⟨B,C⟩:=bQ ((am l r).2.1);rw [<-u] at JB pi t G H I A8;rw [<-C] at A9 pi t G H I A8;obtain⟨N,O⟩:=bU u C;clear u C Q pi;go_wp2;exact bodyPost_ret (gy (P:=prog) rfl _ _ w.heap.size _ _ rfl A8.out underlying217 rfl JV) rfl ⟨.slice b D c,by rw [<-N.o,<-O.o],t.o⟩
end Go.Proofs.YtcpdggdfihjhoaaGreat
