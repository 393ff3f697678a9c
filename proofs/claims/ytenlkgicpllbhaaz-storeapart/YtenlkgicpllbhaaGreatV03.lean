import Derived.Test.YtenlkgicpllbhaaGreatV01
import Derived.Test.YtenlkgicpllbhaaGreatV02
import Derived.Shelf.Sort.AssemblyIn
import Derived.Sort.EveryDepth
import Derived.Sort.OwnSortedInts
import Derived.ProofKit
import Derived.OpenShut
import Derived.ShutString
import Derived.ChangeOld
import Derived.SizedLaws
import Derived.Deep.Slices
import Derived.Deep.Light
import Derived.Deep.MidRow
import Derived.Deep.Quiet
import Derived.BigQuiet
import Derived.OwnWalk
import Derived.RegionTactic
import Derived.BigRegion
import Derived.Deep.RegionLaw
import Derived.ChangeKeysEq
import Derived.ArgAppend
import Derived.Laws.AppendOwnNone
set_option maxRecDepth 20000
set_option maxHeartbeats 8000000
set_option linter.all false
namespace Go.Proofs.YtenlkgicpllbhaaGreat
open Go.Proofs.Tryz
open Go.RowKit Go.Maps
variable {cur:Array Value} {S:DS} {a body data l l' s xs:List Int} {c g i k n p:Nat} {F:Nat->Prop} {T e ty:TypeId} {v x y z:Value} {w w':World} {C:World->Prop}
section
open Go.RowKit Go.Maps Go.Shelf Go.Sort
theorem vL:yt:=by
 intro g b zs w f ef;have c:=f.le;have Pa:=f;obtain⟨cur,i,m,j,p⟩:=Pa;have d:(zs.map (Value.int .i64)).length=zs.length:=by simp
 rw [d] at c j;have l:=holds_of_blockI i j;refine(calls_of_every_depth λD=>AnyS.slices_Sort_int_in Tryz.lays189 D g 0 b zs w l f.lt ef).mono ?_;rintro e w' ⟨rfl,n,os,rfl⟩;have q:(zs.mergeSort λx y=>decide (x<=y)).length=zs.length:=List.length_mergeSort _;have a:=grownBy_sortedI (w:=w) (g:=g) (n:=n) (os:=os) (zs.mergeSort λx y=>decide (x<=y)).toArray;refine⟨rfl,⟨_,heap_sortedI _ i,by simp [putCells,m],?_,p⟩,⟨a.os,a.tape,a.output,a.size,λk o dG=>a.block k o (by simpa using dG)⟩⟩;rw [List.length_map];exact take_putCellsI cur _ (by omega)
theorem UP (w:World):Calls prog 201 #[.slice none 0 0,iV 0,iV 0] w λe w'=>e= .returned (.tuple #[])/\w'=w:=by
 go_in;go_wp2;refine wp_loop_rounds 1 ?_;rw [rounds_succ];go_wp2
 go_end0
 exact⟨rfl,rfl⟩
theorem UQ (n:Int) (w:World):Calls prog 170 #[.slice none 0 0,iV 0,iV 0,iV n] w λe w'=>e= .returned (.tuple #[])/\w'=w:=by
 go_in;go_wp2;refine wp_loop_rounds 1 ?_;rw [rounds_succ];go_wp2_with (go_at_call 201;refine(UP _).mono ?_;rintro e w' ⟨rfl,rfl⟩);exact bodyPost_ret (results_none rfl _ _ _) rfl ⟨rfl,rfl⟩
theorem vM:Dq:=by
 intro w;go_in;go_wp2_with (first|(go_at_call 170;refine(UQ _ _).mono ?_;rintro e w' ⟨rfl,rfl⟩)|go_in)
 go_end0
 exact⟨rfl,RowKit.Below.refl _ _⟩
end
def DS.wr (S:DS) (s:Nat) (x:Int) (n:Nat) (l:List Int):Int×DS:=
 if S.fuse=0 then (3,S) else if x<0\/(s:Int)<=x then (11,S.refuse) else if n≠512 then (2,S.refuse) else (0,(S.put x.toNat l).wrote.fY)
def DS.rd (S:DS) (s:Nat) (x:Int):Int×DS×List Int:=
 if S.fuse=0 then (3,S, []) else if x<0\/(s:Int)<=x then (11,S.refuse, []) else (0,S.read,S.now x.toNat)
def DS.fl (S:DS) (s:Nat):Int×DS:=if S.fuse=0 then (3,S) else (0,(S.flush s).fY)
theorem aP.more {s:Nat} (h:aP w' F p s S):aP w' (more F w w') p s S:=
 h.mono (λ_ a=> .inl a) (λk a=>by rcases a with a|a;exact h.lt k a;exact a.2)
theorem uQ {s:Nat} (h:aP w F p s S) (x:Int) (a:Option Addr) (n c:Nat) (l:List Int) (m:Src w a n l) (aT:S.puts.length+1<=4000000000000):
  Calls prog 51 #[pQ p,iV x, .slice a n c] w λe w'=>e= .returned (iV (S.wr s x n l).1)/\aP w' (more F w w') p s (S.wr s x n l).2/\aa F w w':=by
 by_cases b:S.fuse=0
 .simp only [DS.wr,b,if_true];refine(Jj h x a n c b).mono ?_;rintro e w' ⟨rfl,rfl⟩;exact⟨rfl,h.more,aa.refl _ _⟩
 .by_cases d:x<0\/(s:Int)<=x
  .simp only [DS.wr,b,if_false,d,if_true];refine(Fy h x a n c b d).mono ?_;rintro e w' ⟨rfl,f,g⟩;exact⟨rfl,f.more,g⟩
  .obtain⟨k,rfl⟩:∃k:Nat,x=(k:Int):=⟨x.toNat,by omega⟩;have j:k<s:=(by omega);by_cases i:n=512
   .subst i;simp only [DS.wr,b,if_false,d,ne_eq,not_true_eq_false,Int.toNat_natCast];obtain⟨y,rfl⟩:∃y,a=some y:=by
     cases a with
     |none=>have:=m.2.1 rfl;omega
     |some y=>exact⟨y,rfl⟩
    exact PO h k j b (by omega) y c l m
   .simp only [DS.wr,b,if_false,d,ne_eq,i,not_false_eq_true,if_true];refine(Dn h k a n c b j i).mono ?_;rintro e w' ⟨rfl,f,g⟩;exact⟨rfl,f.more,g⟩
def Out (lo:Nat) (w:World) (l:List Int) (v:Value):Prop:=∃a c,v= .slice a l.length c/\Src w a l.length l/\∀x,a=some x->lo<=x.block
theorem Out.nil (b:Nat) (w:World):Out b w [] (.slice none 0 0):=⟨none,0,rfl,⟨rfl,λ_=>rfl,λx a=>by cases a⟩,λx a=>by cases a⟩
theorem Out.row {a:Nat} (h:ay w 5 g c (bs l)) (b:a<=g):Out a w l (.slice (some (aD g 0)) l.length c):=⟨_,c,rfl,h.src,λx d=>by cases d;exact b⟩
theorem tt {s:Nat} (h:aP w F p s S) (x:Int) (aT:S.puts.length+1<=4000000000000):
  Calls prog 39 #[pQ p,iV x] w λe w'=>∃v,e= .returned (.tuple #[v,iV (S.rd s x).1])/\Out w.heap.size w' (S.rd s x).2.2 v/\aP w' F p s (S.rd s x).2.1/\aa F w w':=by
 by_cases a:S.fuse=0
 .simp only [DS.rd,a,if_true];refine(BY h x a).mono ?_;rintro e w' ⟨rfl,rfl⟩;exact⟨_,rfl,Out.nil _ _,h,aa.refl _ _⟩
 .by_cases f:x<0\/(s:Int)<=x
  .simp only [DS.rd,a,if_false,f,if_true];refine(Jf h x a f).mono ?_;rintro e w' ⟨rfl,b,d⟩;exact⟨_,rfl,Out.nil _ _,b,d⟩
  .obtain⟨k,rfl⟩:∃k:Nat,x=(k:Int):=⟨x.toNat,by omega⟩;have i:k<s:=(by omega);simp only [DS.rd,a,if_false,f,Int.toNat_natCast];refine(LI h k a i (by omega)).mono ?_;rintro e w' ⟨g,c,rfl,j,l,b,d⟩;have:=Out.row l j;rw [br h.ok k i] at this;exact⟨_,rfl,this,b,d⟩
theorem Dc {s:Nat} (h:aP w F p s S) (aT:S.puts.length+1<=4000000000000):
  Calls prog 52 #[pQ p] w λe w'=>e= .returned (iV (S.fl s).1)/\aP w' F p s (S.fl s).2/\aa F w w':=by
 by_cases a:S.fuse=0
 .simp only [DS.fl,a,if_true];refine(Ly h a).mono ?_;rintro e w' ⟨rfl,rfl⟩;exact⟨rfl,h,aa.refl _ _⟩
 .simp only [DS.fl,a,if_false];exact TP h a (by omega)
theorem Src.lI {B:Nat} {a:Option Addr} (h:Src w a n l) (d:Below B w w') (c:∀x,a=some x->0<n->x.block<B):Src w' a n l:=
   ⟨h.1,h.2.1,λx b i e=>(World.cell?_of_block (w:=w) (by rw [ku];exact d.block _ (c x b (by omega)))).trans (h.2.2 x b i e)⟩
theorem kS.lI {B:Nat} {a:Option Addr} {l:List P3} (h:kS w a n l) (k:Below B w w') (j:∀x,a=some x->0<n->x.block<B):kS w' a n l:=by
 refine⟨h.1,h.2.1,λx c i m=>?_,h.2.2.2⟩;obtain⟨b,o,rfl,d,f,g⟩:=h.2.2.1 x c i m;have e:=k.block b (j _ c (by have:=h.1;omega));exact⟨b,o,rfl,(World.cell?_of_block (w:=w) (a:=(aD b _)) e).trans d,(World.cell?_of_block (w:=w) (a:=(aD b _)) e).trans f,(World.cell?_of_block (w:=w) (a:=(aD b _)) e).trans g⟩
theorem Out.keeps {d:Nat} (h:Out d w l v) (p:aa F w w') (m:∀k,F k->k<d):Out d w' l v:=by
 obtain⟨a,c,rfl,b,g⟩:=h;refine⟨a,c,rfl,⟨b.1,b.2.1,λx j i o=>?_⟩,g⟩;have e:=b.2.2 x j i o;have f:=World.block_lt_of_cell? _ _ e;rw [ku] at f;exact(World.cell?_of_block (w:=w) (by rw [ku];exact p.block _ f (λn=>by have:=m _ n;have:=g x j;omega))).trans e
theorem i9 (S:DS) (s:Nat) (x:Int) (n:Nat) (l:List Int):(S.wr s x n l).2.puts.length<=S.puts.length+1:=by
 unfold DS.wr;split
 .simp
 .split
  .simp [DS.refuse]
  .split
   .simp [DS.refuse]
   .simp [DS.put,DS.wrote,DS.fY]
theorem xU (S:DS) (s:Nat):(S.fl s).2.puts.length<=S.puts.length+1:=by
 unfold DS.fl;split
 .simp
 .simp [DS.flush,DS.fY]
theorem aI (w:World) (o:Obj):bW w (w.alloc o):=(bi _ _).alloc (bP _) _
def nx (body:List Int):List Int:=((body.length%256:Nat):Int) :: ((body.length / 256:Nat):Int) :: (body ++ List.replicate (504-body.length) 0)
def be (t:Int) (body:List Int):List Int:=
 t :: ((body.length%256:Nat):Int) :: ((body.length / 256:Nat):Int) :: (nV (sumOf (nx body)) ++ (body ++ (List.replicate (504-body.length) 0 ++ [t])))
def cD (a b:Int):Nat:=if a≠0/\b≠0 then 0 else if a≠1/\b≠1 then 1 else 2
theorem gd (a b:Int):cD a b<=2:=by unfold cD;split <;> (try split) <;> omega
theorem B9 (a b:Int):((cD a b:Nat):Int)≠a/\((cD a b:Nat):Int)≠b:=by
 unfold cD;by_cases h:a≠0/\b≠0
 .rw [aE h];omega
 .rw [aA h];by_cases c:a≠1/\b≠1
  .rw [aE c];omega
  .rw [aA c];omega
theorem nZ (s:Nat):(nV s).length=4:=rfl
theorem Dv (s:Nat):Bytes (nV s):=by
 intro x a;simp only [nV,List.mem_cons,List.not_mem_nil,or_false] at a;omega
theorem fj {t:Int} (h:body.length<=504):(be t body).length=512:=by simp [be,nZ];omega
theorem Bytes.append {b:List Int} (c:Bytes a) (d:Bytes b):Bytes (a ++ b):=λx e=>(List.mem_append.1 e).elim (c x) (d x)
theorem Bytes.cons {a:Int} {b:List Int} (c:0<=a/\a<256) (d:Bytes b):Bytes (a :: b):=λx e=>(List.mem_cons.1 e).elim (λh=>h▸c) (d x)
theorem Bytes.nil:Bytes []:=λ_ a=>by cases a
theorem Bytes.tu (n:Nat):Bytes (List.replicate n 0):=λx a=>by rw [List.eq_of_mem_replicate a];omega
theorem Bytes.take (h:Bytes l) (n:Nat):Bytes (l.take n):=λx a=>h x (List.mem_of_mem_take a)
theorem Bytes.drop (h:Bytes l) (n:Nat):Bytes (l.drop n):=λx a=>h x (List.mem_of_mem_drop a)
theorem Bytes.getD (h:Bytes l) (i:Nat):0<=l.getD i 0/\l.getD i 0<256:=by
 by_cases a:i<l.length
 .have:=h l[i] (List.getElem_mem a);simpa [List.getD,a] using this
 .simp [List.getD,List.getElem?_eq_none (Nat.le_of_not_lt a)]
theorem vN (h:Bytes body) (a:body.length<=504):Bytes (nx body):=
   .cons (by omega) (.cons (by omega) (h.append (.tu _)))
theorem vO {t:Int} (h:Bytes body) (b:body.length<=504) (a:0<=t/\t<256):Bytes (be t body):=
   .cons a (.cons (by omega) (.cons (by omega) ((Dv _).append (h.append ((Bytes.tu _).append (.cons a .nil))))))
def dM (s:List Int):Nat:=(s.getD 1 0+256*s.getD 2 0).toNat
def dH (s:List Int):List Int:=(s.drop 7).take (dM s)
def fv (s:List Int):Option (List Int):=if dM s<=504/\s.getD 0 0<=2/\be (s.getD 0 0) (dH s)=s then some (dH s) else none
theorem Ca (t:Int) (body:List Int) (h:body.length<=504):dM (be t body)=body.length:=by
 simp [dM,be,List.getD];omega
theorem Jn (t:Int) (body:List Int):(be t body).drop 7=body ++ (List.replicate (504-body.length) 0 ++ [t]):=by
 simp [be,nV]
theorem Jo (t:Int) (body:List Int) (h:body.length<=504):dH (be t body)=body:=by
 rw [dH,Ca t body h,Jn];simp
theorem pr (t:Int) (body:List Int):(be t body).getD 0 0=t:=rfl
theorem yA (t:Int) (body:List Int) (h:body.length<=504):(be t body).getD 511 0=t:=by
 have e:be t body=(t :: ((body.length%256:Nat):Int) :: ((body.length / 256:Nat):Int) :: (nV (sumOf (nx body)) ++ (body ++ List.replicate (504-body.length) 0))) ++ [t]:=by
  simp [be]
 rw [e,List.getD,List.getElem?_append_right (by simp [nZ];omega)];have:511-(t :: ((body.length%256:Nat):Int) :: ((body.length / 256:Nat):Int) :: (nV (sumOf (nx body)) ++ (body ++ List.replicate (504-body.length) 0))).length=0:=by
  simp [nZ];omega
 rw [this];rfl
theorem Jp (t:Int) (body:List Int) (h:body.length<=504) (a:t<=2):fv (be t body)=some body:=by
 unfold fv;rw [Ca t body h,pr,Jo t body h,aE ⟨h,a,rfl⟩]
theorem oc (h:fv s=some body):dM s<=504/\s.getD 0 0<=2/\be (s.getD 0 0) (dH s)=s/\body=dH s:=by
 unfold fv at h;split at h
 .next hc=>exact⟨hc.1,hc.2.1,hc.2.2,(Option.some.inj h).symm⟩
 .cases h
theorem lE (h:dM s<=504) (a:s.length=512):(dH s).length=dM s:=by
 simp [dH];omega
theorem qD (h:fv s=some body) (b:s.length=512):body.length<=504:=by
 obtain⟨a,_,_,rfl⟩:=oc h;rw [lE a b];exact a
theorem Jq (h:fv s=some body) (b:s.length=512):s.getD 511 0=s.getD 0 0:=by
 obtain⟨c,_,a,rfl⟩:=oc h;rw [<-a,yA _ _ (qD h b),pr]
def xu (s:List Int):List Int:=(s.drop 1).take 2 ++ (s.drop 7).take 504
def sanchor (s:List Int):Nat×List Int:=
 match fv s with
 |none=>(0, [])
 |some body=>if 8<=body.length/\le (body.take 8)<9223372036854775808 then (le (body.take 8),body.drop 8) else (0, [])
def am (l r:List Int):Nat×Nat×List Int×Nat:=
 if l.length≠512\/r.length≠512 then (0,0, [],2) else
 if (sanchor l).1=0/\(sanchor r).1=0 then (0,0, [],30) else
 if (sanchor l).1<(sanchor r).1 then (1,(sanchor r).1,(sanchor r).2,0) else (0,(sanchor l).1,(sanchor l).2,0)
def aQ (n:Nat):List Int:=(List.range 8).map (λk=>((n / 256 ^ k%256:Nat):Int))
def gg (old body:List Int):List Int×Nat:=
 if old.length≠512 then ([],2) else if 504<body.length then ([],7) else (be (cD (old.getD 0 0) (old.getD 511 0)) body,0)
def aR (s:List Int):List Int×Nat:=
 if s.length≠512 then ([],2) else match fv s with|none=>([],30)|some b=>(b,0)
def aN (l r:List Int) (number:Int) (data:List Int):Nat×List Int×Nat:=
 if l.length≠512\/r.length≠512 then (0, [],2) else
 if number<1 then (0, [],1) else
 if 496<data.length then (0, [],7) else
 let a:=am l r
 if number<=a.2.1 then (0, [],31) else
 if a.2.2.2=0/\a.1=0 then (1,be (cD (r.getD 0 0) (r.getD 511 0)) (aQ number.toNat ++ data),0)
 else (0,be (cD (l.getD 0 0) (l.getD 511 0)) (aQ number.toNat ++ data),0)
def away:Nat->Nat->Bool
 |0,_=>true
 |n+1,s=>if cb s=1 then false else away n (cb s)
theorem Cb:∀(n s:Nat),away n s=true->∀a,a<n->cbs (a+1) s≠1
 |0,_,_,a,ha=>by omega
 |n+1,s,h,a,ha=>by
  unfold away at h;split at h
  .cases h
  .next hc=>
   cases a with
   |zero=>exact hc
   |succ a=>exact Cb n (cb s) h a (by omega)
theorem order {a:Nat} (h0:0<a) (b:a<=4080):cbs a 1≠1:=by
 have h:away 4080 1=true:=by decide+kernel
 have:=Cb 4080 1 h (a-1) (by omega);rwa [show a-1+1=a by omega] at this
theorem UR {α:Type} {o:Option α} (h:∀x,o=some x->False):o=none:=by
 cases o with
 |none=>rfl
 |some x=>exact(h x rfl).elim
theorem Cc {m:List Int} (b:m.length=512) (h:m.getD 0 0≠m.getD 511 0):fv m=none:=
 UR λ_ a=>h (Jq a b).symm
def rk (a b:List Int) (c:Nat):List Int:=a.take c ++ b.drop c
theorem FG {b:List Int} (d:a.length=512) (e:b.length=512) (f:c<=512):(rk a b c).length=512:=by simp [rk];omega
theorem yB {b:List Int} (d:a.length=512) (h0:0<c):(rk a b c).getD 0 0=a.getD 0 0:=by
 rw [rk,List.getD,List.getElem?_append_left (by simp;omega),List.getElem?_take,aE h0];rfl
theorem Cd {b:List Int} (d:a.length=512) (e:c<512):(rk a b c).getD 511 0=b.getD 511 0:=by
 rw [rk,List.getD,List.getElem?_append_right (by simp;omega),List.getElem?_drop];simp only [List.length_take,d,List.getD];rw [show c+(511-min c 512)=511 by omega]
theorem Ce (a b:List Int):rk a b 0=b:=by simp [rk]
theorem FH {b:List Int} (c:a.length=512) (d:b.length=512):rk a b 512=a:=by
 simp [rk,nh (Nat.le_of_eq c),List.drop_eq_nil_of_le (Nat.le_of_eq d)]
theorem aou {o:List Int} (b:o.length=512) {t:Int} (h0:t≠o.getD 0 0) (i:t≠o.getD 511 0) (e:body.length<=504) (d:c<=512):
    (rk o (be t body) c=o\/rk o (be t body) c=be t body\/fv (rk o (be t body) c)=none)/\
    (rk (be t body) o c=o\/rk (be t body) o c=be t body\/fv (rk (be t body) o c)=none):=by
 have a:=fj (t:=t) e;by_cases f:c=0
 .subst f;exact⟨.inr (.inl (Ce _ _)), .inl (Ce _ _)⟩
 .by_cases g:c=512
  .subst g;exact⟨.inl (FH b a), .inr (.inl (FH a b))⟩
  .refine⟨.inr (.inr (Cc (FG b a d) ?_)), .inr (.inr (Cc (FG a b d) ?_))⟩
   .rw [yB b (by omega),Cd b (by omega),yA t body e];exact λh=>h0 h.symm
   .rw [yB a (by omega),Cd a (by omega),pr];exact i
theorem Cf (n:Nat):aQ n= [((n%256:Nat):Int),((n / 256%256:Nat):Int),((n / 65536%256:Nat):Int),((n / 16777216%256:Nat):Int),((n / 4294967296%256:Nat):Int),((n / 1099511627776%256:Nat):Int),((n / 281474976710656%256:Nat):Int),((n / 72057594037927936%256:Nat):Int)]:=by
 simp [aQ,List.range,List.range.loop]
theorem dN (n:Nat):(aQ n).length=8:=by simp [aQ]
theorem iC (n:Nat):Bytes (aQ n):=by
 intro x a;obtain⟨j,_,rfl⟩:=List.mem_map.1 a;omega
theorem MQ (h:n<18446744073709551616):le (aQ n)=n:=by
 rw [Cf];simp only [le,Int.toNat_natCast];omega
theorem Dw {t:Int} (c:t<=2) (b:n<9223372036854775808) (hd:data.length<=496):sanchor (be t (aQ n ++ data))=(n,data):=by
 have a:=dN n;unfold sanchor;rw [Jp _ _ (by simp [a];omega) c];simp only [List.take_left' a,List.drop_left' a,MQ (show n<18446744073709551616 by omega)];rw [aE ⟨by simp [a],b⟩]
def yC (l r:List Int) (slot:Nat) (s:List Int):List Int×List Int:=if slot=0 then (s,r) else (l,s)
theorem tw {r:List Int} (k:l.length=512) (m:r.length=512) (f:n<9223372036854775808) (i:1<=n) (hd:data.length<=496) (uE:(am l r).2.1<n) {t:Int} (g:t<=2) (a:Nat)
    (b:a=if (am l r).2.2.2=0/\(am l r).1=0 then 1 else 0):
  am (yC l r a (be t (aQ n ++ data))).1 (yC l r a (be t (aQ n ++ data))).2=(a,n,data,0):=by
 have d:=Dw g f hd;have j:(be t (aQ n ++ data)).length=512:=fj (by simp [dN];omega);generalize be t (aQ n ++ data)=s at*;have e:am l r=if (sanchor l).1=0/\(sanchor r).1=0 then (0,0, [],30) else if (sanchor l).1<(sanchor r).1 then (1,(sanchor r).1,(sanchor r).2,0) else (0,(sanchor l).1,(sanchor l).2,0):=by
  unfold am;rw [aA (by omega)]
 rw [e] at b uE;by_cases z:(sanchor l).1=0/\(sanchor r).1=0
 .rw [aE z] at b uE;have:a=0:=by rw [b];rfl
  subst this;simp only [yC,if_true,am];rw [aA (by omega),d,aA (by simp;omega),aA (by simp;omega)]
 .rw [aA z] at b uE;by_cases q:(sanchor l).1<(sanchor r).1
  .rw [aE q] at b uE;have:a=0:=(by rw [b];rfl);subst this;simp only [yC,if_true,am];rw [aA (by omega),d,aA (by simp;omega),aA (by simp at uE⊢;omega)]
  .rw [aA q] at b uE;have:a=1:=(by rw [b];rfl);subst this;have c:¬(1:Nat)=0:=(by omega);simp only [yC,aA c,am];rw [aA (by omega),d,aA (by simp;omega),aE (by simp at uE⊢;omega)]
section
open Go.ChangeShapes Go.WideShapes Go.ChangeAt Go.RowKit Go.Deep
theorem px:ownKnob prog.godebug=none:=by kernel_rfl
theorem laidOut:laidOutB prog=true:=by kernel_rfl
theorem US:prog.bytesOf 5=1:=by kernel_rfl
theorem UT:prog.cellsOf 5=1:=by kernel_rfl
theorem fK:prog.cellsOf 3=1:=by kernel_rfl
theorem yD:prog.cellsOf 36=1:=by kernel_rfl
theorem ab9 {n:Int} (h:(Lit.int .u8 n).wf=true):0<=n/\n<256:=by
 have:=h;simp [Lit.wf,IntKind.min,IntKind.max,IntKind.bits,IntKind.signed] at this;omega
section
variable {H:Type} {enc:TypeId×Value->H} {W:World} {base:Nat} {spare:Nat->Bool} {held:Bool}
theorem py {P:Program} {e:TypeId} {n:Nat}:∀{a:List (DataW H)} {d:DataW H},d∈a->n∈d.weights P e->n∈DataW.weightsAll P e a
 |d :: r,d',hd,hn=>by
  rw [DataW.weightsAll];rcases List.mem_cons.1 hd with rfl|h
  .exact List.mem_append_left _ hn
  .exact List.mem_append_right _ (py h hn)
theorem Xf {P:Program} {b c d:Field} {cs:List Value} {x:DataW H×List MemPlace} (r:P.underlying e=some (.struct #[b,c,d])) (q:P.cellsOf e=3) (s:b.offset=0) (t:c.offset=1) (u:d.offset=2)
    (m:P.cellsOf b.type=1) (o:P.cellsOf c.type=1) (p:P.cellsOf d.type=1) (h:DataW.trod enc P W base spare held n e cs=some x):
  ∃v0 v1 v2 y0 y1 y2 k,cs= [v0,v1,v2]/\x.1= .agg [y0.1,y1.1,y2.1]/\DataW.trod enc P W base spare held k b.type [v0]=some y0/\DataW.trod enc P W base spare held k c.type [v1]=some y1/\DataW.trod enc P W base spare held k d.type [v2]=some y2:=by
 obtain⟨xs,k,_,g,a,Fb,f⟩:=DataW.trod_struct r h;rw [q] at a
 match xs,Fb,cs,a with
 | [y0,y1,y2],_, [v0,v1,v2],_=>
  have i:=f 0 b rfl;have j:=f 1 c rfl;have l:=f 2 d rfl;simp [s,t,u,m,o,p] at i j l;exact⟨v0,v1,v2,y0,y1,y2,k,rfl,by rw [g];rfl,i,j,l⟩
theorem jV {b:Nat} {d:DataW H} {r:List MemPlace} (h:DataW.trod enc prog W base spare held b 36 [v]=some (d,r)) (o:∀n∈d.weights prog 36,n<=reachBytes):
  ∃a n c l,v= .slice a n c/\Src W a n l/\Bytes l/\n<=c/\n<=140737488355328:=by
 rcases open_ints underlying36 underlying5 UT h with ⟨nY,_⟩|⟨x,l,c,zs,nY,_,m,s,g,hd,du,e⟩
 .simp only [List.cons.injEq,and_true] at nY;exact⟨none,0,0, [],nY,⟨rfl,λ_=>rfl,λx f=>by cases f⟩,(λx f=>by cases f),bP _,dU _⟩
 .simp only [List.cons.injEq,and_true] at nY;simp only [Prod.mk.injEq] at hd;obtain⟨rfl,rfl⟩:=hd;have q:l<=zs.length:=by rw [g];split <;> omega
  have j:=o ((((lits IntKind.u8 (zs.take l):List (DataW H))).length+((lits IntKind.u8 (zs.drop l):List (DataW H))).length)*prog.bytesOf 5) (by simp [DataW.weights,underlying36]);rw [US] at j;simp only [lits,List.length_map,List.length_take,List.length_drop,reachBytes] at j;refine⟨some x,l,c,zs.take l,nY,⟨by simp;omega,(λh=>by cases h),λy p i k=>?_⟩,λz g=>ab9 (e z (List.mem_of_mem_take g)),m,by omega⟩;cases p;rw [du i (by omega)];simp [List.getD,k]
end
end
def xv:List Value:=(List.range 16).map (λj=>Value.int .u32 ((cbs 4 j:Nat):Int))
theorem Dx:xv.length=16:=by simp [xv]
theorem UU:∀v∈xv,v.oneCell'=true:=by
 intro v a;obtain⟨j,_,rfl⟩:=List.mem_map.1 a;rfl
theorem Dy:(prog.info? 209).map (·.size)=some xv.length:=by rw [Dx];kernel_rfl
theorem ahE (r:Nat) (a:r<4294967296):bits .and .u32 (r:Int) 1=((r%2:Nat):Int):=by
 have:=u32_and_nat r 1 a (by omega);rw [Nat.and_one_is_mod] at this;exact this
theorem UV (r:Nat) (c:r<4294967296):bits .xor .u32 ((r:Int) / 2) (2197175160*((r:Int)%2))=((cb r:Nat):Int):=by
 have a:((r:Int) / 2)=((r / 2:Nat):Int):=by omega
 have b:(2197175160*((r:Int)%2))=(((if r%2=1 then 2197175160 else 0):Nat):Int):=by
  split <;> omega
 rw [a,b,u32_xor_nat _ _ (by omega) (by split <;> omega)];rfl
theorem aa.setCells {F:Nat->Prop} {b:Nat} (a:F b):∀(c:List Value) (o:Nat) (w:World),aa F w (w.setCells b o c)
 | [],_,w=>aa.refl F w
 |v :: r,o,w=>(aa.setCell (p:=⟨b,o,none⟩) w a v).trans (aa.setCells a r (o+1) _) (λ_ h=> .inl h)
theorem mK {b:Nat}:∀(a:List Value) (o:Nat) (w:World),(w.setCells b o a).heap.size=w.heap.size
 | [],_,_=>rfl
 |v :: r,o,w=>by simp only [World.setCells];rw [mK r];simp [World.setCell]
theorem gh {P:Program} {c:Func} {p:Tmp} (h:c.results= #[.cell p ty]) (a:Array Value) (w:World) (g:Nat) (cs:List Value) (d:TypeDesc)
    (i:a.getD p undef=pQ g) (e:w.rangeAt g 0 cs) (j:P.underlying ty=some d) (hd:d.isRow=true) (f:(P.info? ty).map (·.size)=some cs.length):
    (results c a).run P w= .ok (.agg cs.toArray) w:=by
 have b:a[p]?.getD undef=pQ g:=by simpa using i
 simp [results,h,b,asAddr,run_loadVar_mid w g 0 ty cs d e j hd f]
def MR (w wr:World) (k:Nat):Prop:=
 bW w wr/\wr.heap.size=w.heap.size+2/\(∃cur:Array Value,cur.size=16/\wr.heap[w.heap.size]? =some (.cells cur 209 (0,0)))/\
  ∃cs:List Int,cs.length=16/\wr.heap[w.heap.size+1]? =some (.cells (cs.map (Value.int .u32)).toArray 209 (0,0))/\∀j,j<k->cs[j]? =some ((cbs 4 j:Nat):Int)
theorem MR.next {wr:World} (h:MR w wr k) (i:k<16):(∃v,wr.cell? ⟨w.heap.size+1,k,none⟩=some (.int .u32 v))/\wr.frozen? ⟨w.heap.size+1,k,none⟩=false/\
  MR w (wr.setCell ⟨w.heap.size+1,k,none⟩ (.int .u32 ((cbs 4 k:Nat):Int))) (k+1):=by
 obtain⟨b,g,⟨cur,c,a⟩,cs,f,aZ,nY⟩:=h;have mb:k<cs.length:=by omega
 refine⟨⟨cs[k],aj aZ (by simp [mb])⟩,ae aZ k,?_,?_,⟨cur,c,?_⟩,cs.set k ((cbs 4 k:Nat):Int),by simp [f],?_,?_⟩
 .exact b.trans ((aa.setCell (F:=λj=>j=w.heap.size+1) (p:=⟨w.heap.size+1,k,none⟩) wr rfl _).below (λj d=>by omega) (by omega))
 .simpa [World.setCell] using g
 .rw [Below.heap_setCell _ _ _ _ (by simp)];exact a
 .rw [heap_setCell_same _ _ _ _ _ _ aZ];congr 2;apply Array.ext';simp [List.map_set]
 .intro j d;by_cases e:j=k
  .subst e;simp [mb]
  .rw [List.getElem?_set_ne (by omega)];exact nY j (by omega)
theorem MR.done {wr:World} (h:MR w wr 16):wr.rangeAt (w.heap.size+1) 0 xv/\wr.there w.heap.size 0 xv.length:=by
 obtain⟨d,g,⟨cur,e,a⟩,cs,f,aZ,nY⟩:=h;constructor
 .intro j v c;have b:j<16:=by
   have:=(mG.1 c).1;rwa [Dx] at this
  rw [Nat.zero_add];refine aj aZ ?_;rw [<-c];simp [xv,nY j b,b]
 .intro j b;rw [Dx] at b;rw [Nat.zero_add];exact⟨by rw [aj a (j:=j) (u:=cur[j]'(by omega)) (by simp [show j<cur.size by omega])];rfl,ae a j⟩
theorem Jr (w:World):
  Calls prog 180 #[] w λe w'=>e= .returned (.agg xv.toArray)/\bW w w':=by
 go_in;go_wp2;go_loopw [5] (λi wr=>∃k:Nat,k<=16/\i=iV k/\MR w wr k) (λi _=>16-(intOf i).toNat);case atStart=>
  refine⟨0,dU _,rfl,Below.alloc (Below.alloc (bi _ _) (bP _) _) (by simp) _,by simp,⟨_,?_,heap_alloc2_old _ _ _⟩,List.replicate 16 0,by simp,?_,λj b=>by omega⟩
  .rfl
  .rw [heap_alloc2_new];rfl
 case round=>
  obtain⟨k,f,rfl,P7⟩:=hrel;by_cases bm:k<16
  .have cw:(k:Int)<16:=(by omega);obtain⟨⟨l,c⟩,d,acc⟩:=P7.next bm;go_wp2;go_loopw [3,10] (λr i wx=>∃m:Nat,m<=4/\i=iV m/\wx=wr/\r= .int .u32 ((cbs m k:Nat):Int)) (λ_ i _=>4-(intOf i).toNat);case atStart=>exact⟨0,dU _,rfl,rfl,rfl⟩
   case round=>
    obtain⟨m,g,rfl,rfl,rfl⟩:=hrel;have a:cbs m k<4294967296:=uH m (by omega);by_cases xw:m<4
    .have Bm:(m:Int)<4:=(by omega);have aq:=ahE (cbs m k) a;have bz:cb (cbs m k)=cbs (m+1) k:=(by rw [sY];rfl);go_wp2;go_roundw;case rel=>exact⟨m+1,by omega,by go_num,trivial,by rw [<-bz,<-(UV (cbs m k) a)]⟩
     case measure=>simp [intOf];omega
    .have Bm:¬(m:Int)<4:=(by omega);have YK:m=4:=(by omega);subst YK;go_wp2;go_roundw;case rel=>exact⟨k+1,by omega,by go_num,acc⟩
     case measure=>simp [intOf];omega
  .have cw:¬(k:Int)<16:=(by omega);have ahF:k=16:=(by omega);subst ahF;obtain⟨A6,dZ⟩:=P7.done;have iD:=P7.1;have bR:=all_oneCell_toArray UU;go_wp2_with (first|refine wpList_load_mid rfl 209 _ rfl (w.heap.size+1) 0 rfl xv _ A6 underlying209 rfl Dy ?_|refine wpList_store_mid rfl 209 _ _ rfl w.heap.size 0 xv.toArray rfl rfl ?h1 ?h2 bR ?_);case h2=>exact Option.map_eq_some_iff.1 Dy
   exact bodyPost_ret (gh (P:=prog) rfl _ _ w.heap.size xv _ rfl (World.rangeAt_setCells_same wr w.heap.size 0 xv dZ) underlying209 rfl Dy) rfl ⟨rfl,iD.trans ((aa.setCells (F:=λj=>j=w.heap.size) rfl xv 0 wr).below (λj b=>by omega) iD.size)⟩
theorem P8 (a:w.heap[g]? =some (.cells xv.toArray 209 (0,0))) (i:Nat) (b:i<16):w.cell? (aD g i)=some (.int .u32 ((cbs 4 i:Nat):Int)):=
 aj a (by simp [xv,b])
theorem Xg (r:Nat) (a:r<4294967296):bits .and .u32 (r:Int) 15=((r%16:Nat):Int):=by
 have:=u32_and_nat r 15 a (by omega);rw [show (15:Nat)=2 ^ 4-1 from rfl,Nat.and_two_pow_sub_one_eq_mod] at this;exact this
theorem FI (r:Nat) (b:r<4294967296):bits .xor .u32 ((r:Int) / 16) ((cbs 4 (r%16):Nat):Int)=((cbs 4 r:Nat):Int):=by
 have a:((r:Int) / 16)=((r / 16:Nat):Int):=by omega
 rw [a,u32_xor_nat _ _ (by omega) (uH 4 (by omega)),<-UC]
theorem FJ (b o n c:Nat) (l:List Int) (w:World) (d:Bytes l) (F:l.length=n) (G:n<=140737488355328) (p:∀i,i<n->w.cell? ⟨b,o+i,none⟩=some (.int .u8 (l.getD i 0))):
  Calls prog 179 #[.agg xv.toArray, .int .u32 4294967295, .slice (some (aD b o)) n c] w λe w'=>e= .returned (.int .u32 ((mX 4294967295 l:Nat):Int))/\bW w w':=by
 go_in;go_wp2;go_loopw [1,11] (λr i wr=>∃k:Nat,k<=n/\i=iV k/\wr=w.alloc (.cells xv.toArray 209)/\r= .int .u32 ((mX 4294967295 (l.take k):Nat):Int)) (λ_ i _=>n-(intOf i).toNat);case atStart=>exact⟨0,dU _,rfl,rfl,by simp [sZ]⟩
 case round=>
  obtain⟨k,E,rfl,rfl,rfl⟩:=hrel;by_cases bm:k<n
  .have cw:(k:Int)<(n:Int):=(by omega);have j:(w.alloc (.cells xv.toArray 209)).cell? ⟨b,o+k,none⟩=some (.int .u8 (l.getD k 0)):=Lib.cell?_alloc_some _ (p k bm);have acd:(w.alloc (.cells xv.toArray 209)).heap[w.heap.size]? =some (.cells xv.toArray 209 (0,0)):=heap_alloc_new _ _;have mb:k<l.length:=(by omega);obtain⟨x,f,jA⟩:∃x:Nat,l.getD k 0=(x:Int)/\x<256:=by
    have:=d l[k] (List.getElem_mem mb);refine⟨(l.getD k 0).toNat,?_,?_⟩<;> simp [List.getD,mb] <;> omega
   have pz:Bytes (l.take k):=λy s=>d y (List.mem_of_mem_take s);have m:mX 4294967295 (l.take k)<4294967296:=rT (by omega) pz;have fZ:mX 4294967295 (l.take (k+1))=cbs 8 (mX 4294967295 (l.take k) ^^^ x):=by
    rw [List.take_succ_eq_append_getElem mb,xW _ _ pz];congr 2;have:l.getD k 0=l[k]:=(by simp [List.getD,mb]);rw [<-this,f];simp
   rw [f] at j;generalize D:mX 4294967295 (l.take k)=R at*;have a:R ^^^ x<4294967296:=by
    have:R ^^^ x<2 ^ 32:=Nat.xor_lt_two_pow (by omega) (by omega);omega
   have t:bits .xor .u32 (R:Int) (x:Int)=((R ^^^ x:Nat):Int):=u32_xor_nat _ _ m (by omega);have H:=P8 acd ((R ^^^ x)%16) (by omega);have u:=Xg (R ^^^ x) a;have v:=FI (R ^^^ x) a;have qC:=uH 4 a;have I:=P8 acd (cbs 4 (R ^^^ x)%16) (by omega);have z:=Xg (cbs 4 (R ^^^ x)) qC;have A:=FI (cbs 4 (R ^^^ x)) qC;have C:cbs 4 (cbs 4 (R ^^^ x))=cbs 8 (R ^^^ x):=(sY 4 4 _).symm;have q:IntKind.u32.wrap (x:Int)=(x:Int):=(by rw [IntKind.wrap_u32];omega);go_wp2;go_roundw;case rel=>exact⟨k+1,by omega,by go_num,trivial,by rw [fZ]⟩
   case measure=>simp [intOf];omega
  .have cw:¬(k:Int)<(n:Int):=(by omega);have TZ:l.take k=l:=nh (by omega);have g:(bW w (w.alloc (.cells xv.toArray 209))):=(bi _ w).alloc (bP _) _;rw [TZ] at*;go_wp2;go_ret;exact⟨rfl,g⟩
theorem Dz (a:Option Addr) (c:Nat) (w:World):
  Calls prog 179 #[.agg xv.toArray, .int .u32 4294967295, .slice a 0 c] w λe w'=>e= .returned (.int .u32 ((mX 4294967295 []:Nat):Int))/\bW w w':=by
 have b:(bW w (w.alloc (.cells xv.toArray 209))):=(bi _ w).alloc (bP _) _;rw [sZ];go_in;go_wp2;refine wp_loop_rounds 1 ?_;rw [rounds_succ];go_wp2;go_ret;exact⟨rfl,b⟩
theorem FK (a:Option Addr) (n c:Nat) (l:List Int) (w:World) (f:Bytes l) (g:n<=140737488355328) (d:Src w a n l):
  Calls prog 179 #[.agg xv.toArray, .int .u32 4294967295, .slice a n c] w λe w'=>e= .returned (.int .u32 ((mX 4294967295 l:Nat):Int))/\bW w w':=by
 by_cases h0:n=0
 .subst h0;have:l= []:=List.eq_nil_of_length_eq_zero d.1;subst this;exact Dz a c w
 .cases a with
  |none=>exact absurd (d.2.1 rfl) h0
  |some x=>
   obtain⟨b,o,rfl,k⟩:=d.spot (by omega);exact FJ b o n c l w f d.1 g k
theorem P9 (r:Nat) (a:r<4294967296):bits .xor .u32 IntKind.u32.max (r:Int)=((r ^^^ 4294967295:Nat):Int):=by
 have e:IntKind.u32.max=((4294967295:Nat):Int):=by decide
 rw [e,u32_xor_nat _ _ (by omega) a,Nat.xor_comm]
theorem xx (a:Option Addr) (n c:Nat) (l:List Int) (w:World) (b:Bytes l) (d:n<=140737488355328) (f:Src w a n l):
  Calls prog 145 #[.slice a n c] w λe w'=>e= .returned (iV ((sumOf l:Nat):Int))/\bW w w':=by
 have YL:=P9 _ (rT (r:=4294967295) (by omega) b);have Xh:mX 4294967295 l ^^^ 4294967295<4294967296:=ng b;have g:wrap64 ((mX 4294967295 l ^^^ 4294967295:Nat):Int)=((mX 4294967295 l ^^^ 4294967295:Nat):Int):=by unfold wrap64;omega
 unfold sumOf;go_in;go_wp2_with fail;refine(Jr w).mono ?_;rintro e w1 ⟨rfl,aq⟩;go_wp2_with fail;refine(FK a n c l w1 b d (f.later aq)).mono ?_;rintro e i ⟨rfl,aW⟩;go_wp2;go_ret;exact⟨rfl,aq.trans (aW.mono aq.size)⟩
structure pA (w:World) where
 to:World
 h:bW w to
theorem ai {B:Nat} {a:World} (h:Below B a w):Below B a w.drew:=⟨h.os,h.tape,h.output,h.size,h.block⟩
theorem pA.some (w:World):Nonempty (pA w):=⟨⟨w,bi _ _⟩⟩
theorem wJ {P:Program} {e:Nat} {Q:Exit->Act->World->Prop} {a:Act} {l:List Oper} (d:P.follows .mixedOrders=true) (c:Region.lexB .any l.toArray=true)
    (h:wpQuiet P l.toArray (λw'=>∃q:pA w,w'=q.to) (λb=>∀w',(∃q:pA w,w'=q.to)->Q .normal b w') l a):(Code.region e l.toArray true).wp P Q a w:=
 wp_region_quiet (C:=λw'=>∃q:pA w,w'=q.to) d c ⟨⟨w.drew,ai (bi _ _)⟩,rfl⟩ (by simpa using h)
theorem Calls.Qa {P:Program} {f:FuncId} {args:Array Value} {q:pA w}
    (h:Calls P f args q.to λe w'=>e= .returned v/\Below q.to.heap.size q.to w'):Calls P f args q.to λe Bh=>e= .returned v/\∃q':pA w,Bh=q'.to:=
 h.mono λ_ w' ⟨a,b⟩=>⟨a,⟨w',q.h.trans (b.mono q.h.size)⟩,rfl⟩
def Own (w:World) (B:Nat) (v:Value) (l:List Int):Prop:=w.ownsRow B 5 1 v l.length (bs l)
theorem Own.nil (w:World) (B:Nat):Own w B (.slice none 0 0) []:=⟨by simp, .inl ⟨rfl,rfl⟩⟩
theorem Own.src {B:Nat} (h:Own w B v l):∃a c,v= .slice a l.length c/\Src w a l.length l/\l.length<=c/\(∀x,a=some x->B<=x.block/\x.off=0):=by
 by_cases f:v= .slice none 0 0
 .subst f;have h0:l.length=0:=by
   obtain⟨_,⟨_,j⟩|⟨g,c,cur,e,_⟩⟩:=h
   .exact j
   .cases e
  obtain rfl:=List.eq_nil_of_length_eq_zero h0;exact⟨none,0,rfl,⟨rfl,λ_=>rfl,λx b=>by cases b⟩,bP _,λx b=>by cases b⟩
 .obtain⟨g,c,rfl,i,d,_⟩:=ay.eW h f;refine⟨some (aD g 0),c,rfl,d.src,?_,λx b=>by cases b;exact⟨i,rfl⟩⟩;have:=d.le;simpa [bs] using this
theorem Own.row {B:Nat} {a:Option Addr} (h:Own w B (.slice a n c) l) (h0:0<l.length):∃g,a=some (aD g 0)/\n=l.length/\B<=g/\ay w 5 g c (bs l):=by
 obtain⟨g,c',e,b,d,_⟩:=ay.eW h (by
  intro e;cases e;obtain⟨_,⟨_,f⟩|⟨g,c,cur,e,_⟩⟩:=h
  .omega
  .cases e)
 cases e;exact⟨g,rfl,rfl,b,d⟩
theorem Own.later {B:Nat} (h:Own w B v l) (i:bW w w'):Own w' B v l:=by
 by_cases d:v= .slice none 0 0
 .subst d;obtain⟨f,⟨_,o⟩|⟨g,c,cur,e,_⟩⟩:=h
  .exact⟨f, .inl ⟨rfl,o⟩⟩
  .cases e
 .obtain⟨g,c,rfl,k,a,p⟩:=ay.eW h d;have DA:=a.agree (i.block g a.lt);have m:=DA.le;obtain⟨cur,eC,j,b,n⟩:=DA;have MS:(bs l).length=l.length:=by simp [bs]
  exact⟨by simp [bs], .inr ⟨g,c,cur,rfl,k,eC,by omega,n,by simpa using j,by rw [MS] at b;simpa using b⟩⟩
theorem Own.down {B B':Nat} (h:Own w B v l) (f:B'<=B):Own w B' v l:=by
 obtain⟨a,b|⟨g,c,cur,e,i,d⟩⟩:=h
 .exact⟨a, .inl b⟩
 .exact⟨a, .inr ⟨g,c,cur,e,by omega,d⟩⟩
theorem iE (a b:List Int):bs (a ++ b)=bs a ++ bs b:=List.map_append
theorem UW (a:List Int) (x:Int):bs a ++ [.int .u8 x]=bs (a ++ [x]):=by rw [iE];rfl
theorem jW (l:List Int) (k:Nat) (h:k<l.length):l.take k ++ [l.getD k 0]=l.take (k+1):=by
 rw [List.take_succ_eq_append_getElem h];simp [List.getD,h]
theorem DB (h:l.take k=l'.take k) (a:k<l.length) (b:k<l'.length) (e:l.getD k 0=l'.getD k 0):l.take (k+1)=l'.take (k+1):=by
 rw [List.take_succ_eq_append_getElem a,List.take_succ_eq_append_getElem b,h];simp [List.getD,a,b] at e;rw [e]
theorem Js (e:l.getD k 0≠l'.getD k 0):l≠l':=λh=>e (by rw [h])
theorem DC {B:Nat} {m:List Int} (h:w.ownsRow B 5 1 v k (bs l)) (a:m.length=k) (e:m=l):Own w B v m:=by
 subst e;subst a;exact h
abbrev kw (p:Nat) (f n:Int):Value:= .agg #[pQ p,iV f,iV n]
theorem FL (p:Nat) (f n:Int) (w:World) (a:0<=f) (A7:f<=100000) (b:0<=n) (mg:n<=100000):
  Calls prog 146 #[kw p f n] w λe w'=>e= .returned (iV (f+2+n))/\bW w w':=by
 go_in;go_wp2;go_ret;exact⟨rfl,(bi w.heap.size w).alloc (bP _) (.cells #[.pointer (some ⟨p,0,none⟩), .int .i64 f, .int .i64 n] 144)⟩
theorem LM (p:Nat) (f n x:Int) (w:World) (g:0<=f) (A7:f<=100000) (i:1<=n) (mg:n<=100000) (a:0<=x):
  Calls prog 192 #[kw p f n,iV x] w λe w'=>e= .returned (iV (f+2+x%n))/\bW w w':=by
 have b:0<=x%n:=Int.emod_nonneg _ (by omega);have c:x%n<n:=Int.emod_lt_of_pos _ (by omega);have d:x.tmod n=x%n:=Int.tmod_eq_emod_of_nonneg a;generalize x%n=y at*;go_in;go_wp2
 go_region
 go_wp2;go_ret;exact⟨rfl,ai ((bi w.heap.size w).alloc (bP _) (.cells #[.pointer (some ⟨p,0,none⟩), .int .i64 f, .int .i64 n] 144))⟩
def cq (S:DS) (s:Nat) (f n:Int):Int:=
 if S.fuse=0 then 3 else if f<0\/(s:Int)<=f then 11 else if n<18\/256<n then 1 else if (s:Int)<f+2+n then 11 else 0
theorem aP.boxed {s:Nat} (h:aP w F p s S) (o:Obj):aP (w.alloc o) F p s S:=
 h.au (aa.ah (λ_=>False) ((bi w.heap.size w).alloc (bP _) o)) (λ_ _ h=>h)
theorem FM {s:Nat} (h:aP w F p s S) (f n:Int) (v:s<=2048):
  Calls prog 103 #[kw p f n] w λe w'=>e= .returned (iV (cq S s f n))/\bW w w':=by
 have c:=(bi w.heap.size w).alloc (bP _) (.cells #[.pointer (some ⟨p,0,none⟩), .int .i64 f, .int .i64 n] 144);have d:=x9 (h.boxed (.cells #[.pointer (some ⟨p,0,none⟩), .int .i64 f, .int .i64 n] 144));have b:=ii (h.boxed (.cells #[.pointer (some ⟨p,0,none⟩), .int .i64 f, .int .i64 n] 144));have i:=FL p f n (w.alloc (.cells #[.pointer (some ⟨p,0,none⟩), .int .i64 f, .int .i64 n] 144));unfold cq;go_in;by_cases g:S.fuse=0
 .rw [show (S.fuse == 0)=true by simp [g]] at b;rw [aE g];go_wp2_with (first|(go_at_call 47;refine d.mono ?_;rintro e w' ⟨rfl,a⟩;subst a)|(go_at_call 35;refine b.mono ?_;rintro e w' ⟨rfl,a⟩;subst a));go_ret;exact⟨rfl,c⟩
 .rw [show (S.fuse == 0)=false by simp [g]] at b;rw [aA g];by_cases j:f<0\/(s:Int)<=f
  .rw [aE j];by_cases o:f<0
   .clear j;go_wp2_with (first|(go_at_call 47;refine d.mono ?_;rintro e w' ⟨rfl,a⟩;subst a)|(go_at_call 35;refine b.mono ?_;rintro e w' ⟨rfl,a⟩;subst a));go_ret;exact⟨rfl,c⟩
   .have q:(s:Int)<=f:=(by omega);go_wp2_with (first|(go_at_call 47;refine d.mono ?_;rintro e w' ⟨rfl,a⟩;subst a)|(go_at_call 35;refine b.mono ?_;rintro e w' ⟨rfl,a⟩;subst a));go_ret;exact⟨rfl,c⟩
  .rw [aA j];have o:¬f<0:=(by omega);have q:¬(s:Int)<=f:=(by omega);by_cases k:n<18\/256<n
   .rw [aE k];by_cases r:n<18
    .clear k;go_wp2_with (first|(go_at_call 47;refine d.mono ?_;rintro e w' ⟨rfl,a⟩;subst a)|(go_at_call 35;refine b.mono ?_;rintro e w' ⟨rfl,a⟩;subst a));go_ret;exact⟨rfl,c⟩
    .have t:256<n:=(by omega);go_wp2_with (first|(go_at_call 47;refine d.mono ?_;rintro e w' ⟨rfl,a⟩;subst a)|(go_at_call 35;refine b.mono ?_;rintro e w' ⟨rfl,a⟩;subst a));go_ret;exact⟨rfl,c⟩
   .rw [aA k];have r:¬n<18:=(by omega);have t:¬256<n:=(by omega);have i:=i (by omega) (by omega) (by omega) (by omega);by_cases m:(s:Int)<f+2+n
    .rw [aE m];go_wp2_with (first|(go_at_call 47;refine d.mono ?_;rintro e w' ⟨rfl,a⟩;subst a)|(go_at_call 35;refine b.mono ?_;rintro e w' ⟨rfl,a⟩;subst a));refine bE i λu l=>?_;go_wp2;go_ret;exact⟨rfl,c.trans (l.mono c.size)⟩
    .rw [aA m];go_wp2_with (first|(go_at_call 47;refine d.mono ?_;rintro e w' ⟨rfl,a⟩;subst a)|(go_at_call 35;refine b.mono ?_;rintro e w' ⟨rfl,a⟩;subst a));refine bE i λu l=>?_;go_wp2;go_ret;exact⟨rfl,c.trans (l.mono c.size)⟩
theorem pB (a b:Nat) (e:a<4294967296) (f:b<4294967296):bits .xor .i64 (a:Int) (b:Int)=((a ^^^ b:Nat):Int):=by
 have g:a ^^^ b<2 ^ 32:=Nat.xor_lt_two_pow (by omega) (by omega);have c:(BitVec.ofInt 64 (a:Int)).toNat=a:=by rw [BitVec.ofInt_natCast,BitVec.toNat_ofNat];exact Nat.mod_eq_of_lt (by omega)
 have d:(BitVec.ofInt 64 (b:Int)).toNat=b:=by rw [BitVec.ofInt_natCast,BitVec.toNat_ofNat];exact Nat.mod_eq_of_lt (by omega)
 show IntKind.i64.wrap ((BitVec.ofInt 64 (a:Int) ^^^ BitVec.ofInt 64 (b:Int)).toNat:Int)=_;rw [BitVec.toNat_xor,c,d,IntKind.wrap_i64];omega
theorem Qb (a:Nat) (d:a<4294967296):bits .and .i64 (a:Int) 1=((a%2:Nat):Int):=by
 have b:(BitVec.ofInt 64 (a:Int)).toNat=a:=by rw [BitVec.ofInt_natCast,BitVec.toNat_ofNat];exact Nat.mod_eq_of_lt (by omega)
 have c:(BitVec.ofInt 64 (1:Int)).toNat=1:=by decide
 show IntKind.i64.wrap ((BitVec.ofInt 64 (a:Int) &&& BitVec.ofInt 64 (1:Int)).toNat:Int)=_;rw [BitVec.toNat_and,b,c,IntKind.wrap_i64,Nat.and_one_is_mod];omega
theorem Qc (b o n c:Nat) (l:List Int) (w:World) (j:Bytes l) (F:l.length=n) (H:n<=140737488355328) (q:∀i,i<n->w.cell? ⟨b,o+i,none⟩=some (.int .u8 (l.getD i 0))):
  Calls prog 238 #[.slice (some (aD b o)) n c] w λe w'=>e= .returned (iV ((sumOf l:Nat):Int))/\bW w w':=by
 have t:=yh q;clear q;unfold sumOf;go_in;go_wp2;go_loopw [3,4] (λr i wr=>∃k:Nat,k<=n/\i=iV k/\wr=w/\r=iV ((mX 4294967295 (l.take k):Nat):Int)) (λ_ i _=>n-(intOf i).toNat);case atStart=>exact⟨0,dU _,rfl,rfl,by simp [sZ]⟩
 case round=>
  obtain⟨k,E,rfl,rfl,rfl⟩:=hrel;by_cases bm:k<n
  .have cw:(k:Int)<(n:Int):=(by omega);have z:=t.o k bm;have mb:k<l.length:=(by omega);obtain⟨x,p,jA⟩:∃x:Nat,l.getD k 0=(x:Int)/\x<256:=by
    have:=j l[k] (List.getElem_mem mb);refine⟨(l.getD k 0).toNat,?_,?_⟩<;> simp [List.getD,mb] <;> omega
   have pz:Bytes (l.take k):=λy C=>j y (List.mem_of_mem_take C);have d:mX 4294967295 (l.take k)<4294967296:=rT (by omega) pz;have fZ:mX 4294967295 (l.take (k+1))=cbs 8 (mX 4294967295 (l.take k) ^^^ x):=by
    rw [List.take_succ_eq_append_getElem mb,xW _ _ pz];congr 2;have:l.getD k 0=l[k]:=(by simp [List.getD,mb]);rw [<-this,p];simp
   have g:=yh fZ;rw [p] at z;generalize v:mX 4294967295 (l.take k)=R at*;have A:R ^^^ x<4294967296:=by
    have:R ^^^ x<2 ^ 32:=Nat.xor_lt_two_pow (by omega) (by omega);omega
   have u:bits .xor .i64 (R:Int) (x:Int)=((R ^^^ x:Nat):Int):=pB _ _ d (by omega);clear fZ v pz d p;go_wp2;go_loopw [3,5] (λr i wx=>∃m:Nat,m<=8/\i=iV m/\wx=wr/\r=iV ((cbs m (R ^^^ x):Nat):Int)) (λ_ i _=>8-(intOf i).toNat);case atStart=>exact⟨0,dU _,rfl,rfl,rfl⟩
   case round=>
    obtain⟨m,G,rfl,rfl,rfl⟩:=hrel;have d:=uH m A;by_cases xw:m<8
    .have Bm:(m:Int)<8:=(by omega);have bz:cb (cbs m (R ^^^ x))=cbs (m+1) (R ^^^ x):=(by rw [sY];rfl);generalize cbs m (R ^^^ x)=S at*;have f:=yh bz;clear bz;have I:=Qb S d;rcases Nat.mod_two_eq_zero_or_one S with a|a
     .have D:(((S%2:Nat):Int) == 1)=false:=(by rw [a];rfl);have YM:Yh (cb S=S / 2):=(by show cb S=S / 2;simp [cb,a]);clear a;go_wp2;go_roundw;case rel=>exact⟨m+1,by omega,by go_num,trivial,by rw [<-f.o,YM.o];first|(rw [Int.natCast_ediv];rfl)|rw [s.out]⟩
      case measure=>simp [intOf];omega
     .have D:(((S%2:Nat):Int) == 1)=true:=(by rw [a];rfl);have s:Yh (bits .xor .i64 ((S:Int) / 2) 2197175160=((S / 2 ^^^ 2197175160:Nat):Int)):=pB (S / 2) 2197175160 (by omega) (by omega);have YM:Yh (cb S=S / 2 ^^^ 2197175160):=(by show cb S=S / 2 ^^^ 2197175160;simp [cb,a]);clear a;go_wp2;go_roundw;case rel=>exact⟨m+1,by omega,by go_num,trivial,by rw [<-f.o,YM.o];first|(rw [Int.natCast_ediv];rfl)|rw [s.out]⟩
      case measure=>simp [intOf];omega
    .have Bm:¬(m:Int)<8:=(by omega);have Xi:m=8:=(by omega);subst Xi;go_wp2;go_roundw;case rel=>exact⟨k+1,by omega,by go_num,trivial,by rw [g.o]⟩
     case measure=>simp [intOf];omega
  .have cw:¬(k:Int)<(n:Int):=(by omega);have TZ:l.take k=l:=nh (by omega);have d:mX 4294967295 l<4294967296:=rT (by omega) j;have u:bits .xor .i64 ((mX 4294967295 l:Nat):Int) 4294967295=((mX 4294967295 l ^^^ 4294967295:Nat):Int):=pB (mX 4294967295 l) 4294967295 d (by omega);rw [TZ] at*;go_wp2;go_ret;exact⟨rfl,(yh (bi wr.heap.size wr)).out⟩
theorem MT (a:Option Addr) (c:Nat) (w:World):
  Calls prog 238 #[.slice a 0 c] w λe w'=>e= .returned (iV ((sumOf []:Nat):Int))/\bW w w':=by
 have d:bits .xor .i64 4294967295 4294967295=0:=by decide
 have b:sumOf []=0:=by decide
 rw [b];go_in;go_wp2;refine wp_loop_rounds 1 ?_;rw [rounds_succ];go_wp2;go_ret;exact⟨rfl,bi w.heap.size w⟩
theorem Qd (a:Option Addr) (n c:Nat) (l:List Int) (w:World) (f:Bytes l) (g:n<=140737488355328) (d:Src w a n l):
  Calls prog 238 #[.slice a n c] w λe w'=>e= .returned (iV ((sumOf l:Nat):Int))/\bW w w':=by
 by_cases h0:n=0
 .subst h0;have:l= []:=List.eq_nil_of_length_eq_zero d.1;subst this;exact MT a c w
 .cases a with
  |none=>exact absurd (d.2.1 rfl) h0
  |some x=>
   obtain⟨b,o,rfl,k⟩:=d.spot (by omega);exact Qc b o n c l w f d.1 g k
theorem acf (n:Nat) (a b:Int) (w:World):(Op.equalIn (n+1) 5 (.int .u8 a) (.int .u8 b)).run prog w= .ok (a == b) w:=by
 simp [Op.equalIn,go_sem]
theorem LN (xs:Array Value) (a:Nat) (v:Value) (w:World) (h:xs[a]? =some v):(part 5 xs a).run prog w= .ok v w:=run_part_plain (P:=prog) w (by kernel_rfl) h
theorem MU (n:Nat) (w:World) (xs c:Array Value) (j:Nat) (a b:Int) (d:List Nat) (e:xs[j]? =some (.int .u8 a)) (f:c[j]? =some (.int .u8 b)):
    (Op.eqItems (n+1) 5 1 xs c (j :: d)).run prog w=if a=b then (Op.eqItems (n+1) 5 1 xs c d).run prog w else .ok false w:=by
 simp only [Op.eqItems,Nat.mul_one,Sem.run_bind,LN xs j _ w e,LN c j _ w f,Result.andThen_ok,acf];by_cases h:a=b
 .simp [h]
 .simp [h]
theorem yE (n:Nat) (l m:List Int) (w:World):∀js:List Nat,(∀j∈js,j<l.length/\j<m.length)->
    (Op.eqItems (n+1) 5 1 (bs l).toArray (bs m).toArray js).run prog w= .ok (decide (∀j∈js,l.getD j 0=m.getD j 0)) w
 | [],_=>by simp [Op.eqItems]
 |j :: js,h=>by
  obtain⟨f,g⟩:=h j (by simp);have d:(bs l).toArray[j]? =some (.int .u8 (l.getD j 0)):=by simp [bs,List.getD,f]
  have e:(bs m).toArray[j]? =some (.int .u8 (m.getD j 0)):=by simp [bs,List.getD,g]
  rw [MU n w _ _ j _ _ js d e];by_cases c:l.getD j 0=m.getD j 0
  .rw [aE c,(yE n l m w js (λi a=>h i (by simp [a])))];refine congrArg (λb=>Result.ok b w) ?_;rw [decide_eq_decide];exact⟨λk i a=>by rcases List.mem_cons.1 a with rfl|a;exact c;exact k i a,λk i a=>k i (by simp [a])⟩
  .rw [aA c];refine congrArg (λb=>Result.ok b w) ?_;symm;rw [decide_eq_false_iff_not];exact λk=>c (k j (by simp))
theorem Qe {m:List Int} (b:l.length=m.length) (h:∀i,i<l.length->l.getD i 0=m.getD i 0):l=m:=by
 apply List.ext_getElem?;intro i;by_cases a:i<l.length
 .have:=h i a;simp only [List.getD,List.getElem?_eq_getElem a,List.getElem?_eq_getElem (show i<m.length by omega),Option.getD_some] at this;rw [List.getElem?_eq_getElem a,List.getElem?_eq_getElem (show i<m.length by omega),this]
 .rw [List.getElem?_eq_none (by omega),List.getElem?_eq_none (by omega)]
theorem Jt (N n:Nat) (T:TypeId) (l m:List Int) (f:l.length=N) (g:m.length=N) (w:World) (e:prog.underlying T=some (.array N 5)):
    (Op.equalIn (n+2) T (.agg (bs l).toArray) (.agg (bs m).toArray)).run prog w= .ok (decide (l=m)) w:=by
 obtain⟨k,c⟩:=info_of_underlying (P:=prog) underlying5;rw [run_equalIn_array (P:=prog) w (n+1) _ _ e c];have a:prog.cellsOf 5=1:=by kernel_rfl
 rw [a,yE n l m w _ (λj d=>by rw [List.mem_range] at d;omega)];refine congrArg (λb=>Result.ok b w) ?_;rw [decide_eq_decide];constructor
 .intro h;exact Qe (by omega) (λi c=>h i (List.mem_range.2 (by omega)))
 .rintro rfl _ _;rfl
theorem YN (n:Nat) (l m:List Int) (a:l.length=512) (b:m.length=512) (w:World):
    (Op.equalIn (n+2) 211 (.agg (bs l).toArray) (.agg (bs m).toArray)).run prog w= .ok (decide (l=m)) w:=
 Jt 512 n 211 l m a b w underlying211
theorem Qf:prog.eqGuardType prog.depth 211=false:=by kernel_rfl
theorem Qg (l m:List Int) (a:l.length=512) (b:m.length=512) (w:World) (x y:Operand):
    (do eqGuard .eql 211 x y (.agg (bs l).toArray) (.agg (bs m).toArray);binOp .eql 211 (.agg (bs l).toArray) (.agg (bs m).toArray)).run prog w= .ok (.bool (decide (l=m))) w:=by
 rw [Sem.run_bind,run_eqGuard_agg (P:=prog) w .eql 211 x y _ _ Qf,Result.andThen_ok];show (binOp .eql 211 (.agg (bs l).toArray) (.agg (bs m).toArray)).run prog w=_;unfold binOp Op.equal Op.maxDepth;rw [Sem.run_bind,YN 9998 l m a b w,Result.andThen_ok,Sem.run_pure]
theorem mi (g o i j:Nat) (w:World) (a:i<j) (f:j<=512):
  Calls prog 221 #[.pointer (some (aD g o)),iV (i:Int),iV (j:Int)] w λe w'=>e= .returned (.slice (some ⟨g,o+i,none⟩) (j-i) (j-i))/\w'=w:=by
 have b:(i:Int)<=(j:Int):=by omega
 have c:(j:Int)<=512:=by omega
 have d:¬j=i:=by omega
 go_in;go_wp2;go_ret;exact⟨rfl,rfl⟩
theorem Qh (g o i:Nat) (w:World) (b:i<=512):
  Calls prog 221 #[.pointer (some (aD g o)),iV (i:Int),iV (i:Int)] w λe w'=>e= .returned (.slice (some (aD g o)) 0 0)/\w'=w:=by
 have a:(i:Int)<=512:=by omega
 go_in;go_wp2;go_ret;exact⟨rfl,rfl⟩
def leb:Nat->Nat->List Int
 |0,_=> []
 |k+1,m=>((m%256:Nat):Int) :: leb k (m / 256)
theorem aH:∀k m,(leb k m).length=k
 |0,_=>rfl
 |k+1,m=>by simp [leb,aH k]
theorem iX:∀k m,leb (k+1) m=leb k m ++ [((m / 2 ^ (8*k)%256:Nat):Int)]
 |0,m=>by simp [leb]
 |k+1,m=>by
  rw [leb,iX k (m / 256),leb];have:m / 256 / 2 ^ (8*k)=m / 2 ^ (8*(k+1)):=by
   rw [Nat.div_div_eq_div_mul,show 8*(k+1)=8+8*k by omega,Nat.pow_add]
  simp [this]
theorem iF:∀k m,Bytes (leb k m)
 |0,_=>by intro x a;cases a
 |k+1,m=> .cons (by omega) (iF k _)
def put (l:List Int) (o:Nat) (xs:List Int):List Int:=l.take o ++ (xs ++ l.drop (o+xs.length))
theorem LP {o:Nat} (h:o+xs.length<=l.length):(put l o xs).length=l.length:=by simp [put];omega
theorem DD (l:List Int) (o:Nat):put l o []=l:=by simp [put]
theorem FN {o:Nat} (h:o+xs.length<l.length) (x:Int):(put l o xs).set (o+xs.length) x=put l o (xs ++ [x]):=by
 unfold put;have a:(l.take o).length=o:=by simp;omega
 rw [List.set_append_right _ _ (by omega),a,List.set_append_right _ _ (by omega),show o+xs.length-o-xs.length=0 by omega];have:l.drop (o+xs.length)=l[o+xs.length] :: l.drop (o+xs.length+1):=List.drop_eq_getElem_cons h;rw [this,List.set_cons_zero];simp [Nat.add_assoc]
def jX (w:World) (T:TypeId) (g:Nat) (l:List Int):Prop:=w.heap[g]? =some (.cells (bs l).toArray T (0,0))
theorem jX.lt (h:jX w T g l):g<w.heap.size:=(kN.1 h).1
theorem jX.cell (h:jX w T g l) (a:i<l.length):w.cell? (aD g i)=some (.int .u8 (l.getD i 0)):=
 aj h (by simp [bs,List.getD,a])
theorem jX.frozen (h:jX w T g l) (i:Nat):w.frozen? (aD g i)=false:=ae h i
theorem jX.set (h:jX w T g l) (i:Nat) (x:Int):jX (w.setCell ⟨g,i,none⟩ (.int .u8 x)) T g (l.set i x):=by
 unfold jX;rw [heap_setCell_same _ _ _ _ _ _ h];congr 2;apply Array.ext';simp [bs,List.map_set]
theorem jX.au (h:jX w T g l) (a:w'.heap[g]? =w.heap[g]?):jX w' T g l:=a.trans h
theorem jX.src (h:jX w T g l) {o:Nat} (c:o+n<=l.length):Src w (some (aD g o)) n ((l.drop o).take n):=
   ⟨by simp;omega,(λe=>by cases e),λx b i a=>by
  cases b;rw [aK,h.cell (by omega)];simp [List.getD,a]⟩
theorem DE (g o k c N:Nat) (T:TypeId) (l:List Int) (w:World) (d:jX w T g l) (q:k<=8) (r:o+k<=l.length):
  Calls prog 220 #[.slice (some (aD g o)) k c, .int .u64 (N:Int)] w λe w'=>e= .returned (.tuple #[])/\jX w' T g (put l o (leb k N))/\aa (λj=>j=g) w w'/\w'.heap.size=w.heap.size:=by
 go_in;go_wp2;go_loopw [7] (λi wr=>∃j:Nat,j<=k/\i=iV j/\jX wr T g (put l o (leb j N))/\aa (λj=>j=g) w wr/\wr.heap.size=w.heap.size) (λi _=>k-(intOf i).toNat);case atStart=>exact⟨0,dU _,rfl,by rw [leb,DD];exact d,aa.refl _ _,rfl⟩
 case round=>
  obtain⟨j,n,rfl,aZ,ru,ef⟩:=hrel;by_cases bm:j<k
  .have cw:(j:Int)<(k:Int):=(by omega);have a:=aH j N;have pf:=LP (l:=l) (xs:=leb j N) (o:=o) (by omega);have f:=aZ.cell (i:=o+j) (by omega);have m:=aZ.frozen (o+j);have oT:=aZ.set (o+j) ((N / 2 ^ (8*j)%256:Nat):Int);have e:=FN (l:=l) (xs:=leb j N) (o:=o) (by omega) ((N / 2 ^ (8*j)%256:Nat):Int);rw [a] at e;rw [e,<-iX] at oT;have b:=(ru.trans (aa.setCell (F:=λj=>j=g) (p:=⟨g,o+j,none⟩) wr rfl (.int .u8 ((N / 2 ^ (8*j)%256:Nat):Int))) (λ_ h=> .inl h));go_wp2;go_roundw;case rel=>exact⟨j+1,by omega,by go_num,oT,b,by simpa [World.setCell] using ef⟩
   case measure=>simp [intOf];omega
  .have cw:¬(j:Int)<(k:Int):=(by omega);obtain rfl:j=k:=(by omega);go_wp2
   go_end0
   exact⟨rfl,aZ,ru,ef⟩
theorem YO (i A X:Nat) (c:A<2 ^ i) (h:A+2 ^ i*X<18446744073709551616):
  bits .or .u64 (A:Int) ((2 ^ i*X:Nat):Int)=((A+2 ^ i*X:Nat):Int):=by
 have q:∀z:Nat,z<18446744073709551616->(BitVec.ofInt 64 (z:Int)).toNat=z:=by
  intro z d;rw [BitVec.toNat_ofInt];omega
 have a:A<18446744073709551616:=by omega
 have b:2 ^ i*X<18446744073709551616:=by omega
 show IntKind.u64.wrap ((BitVec.ofInt 64 (A:Int) |||BitVec.ofInt 64 ((2 ^ i*X:Nat):Int)).toNat:Int)=_;rw [BitVec.toNat_or,q A a,q _ b,Nat.or_comm,<-Nat.two_pow_add_eq_or_of_lt c X,Nat.add_comm];generalize A+2 ^ i*X=Z at*;simp only [IntKind.wrap,IntKind.bits,IntKind.signed];simp;omega
theorem UX (x:Int) (k:Nat) (a:k<8):(x*2 ^ min ((8*(k:Int)).toNat) 64)=x*2 ^ (8*k):=by
 congr 2;omega
theorem lq (a:k<l.length):le (l.take (k+1))=le (l.take k)+2 ^ (8*k)*(l.getD k 0).toNat:=by
 rw [List.take_succ_eq_append_getElem a,uI];have:(l.take k).length=k:=by simp;omega
 rw [this];simp [le,List.getD,a]
theorem FO (a:Bytes l) (h:l.length<=8):le l<18446744073709551616:=by
 have:=lg a;exact iP this (by have:=Nat.pow_le_pow_right (show 0<2 by omega) (show 8*l.length<=64 by omega);simpa using this)
theorem uR (b o n c:Nat) (l:List Int) (w:World) (d:Bytes l) (u:l.length=n) (v:n<=8) (g:∀i,i<n->w.cell? ⟨b,o+i,none⟩=some (.int .u8 (l.getD i 0))):
  Calls prog 240 #[.slice (some (aD b o)) n c] w λe w'=>e= .returned (.int .u64 ((le l:Nat):Int))/\w'=w:=by
 have m:=yh g;clear g;go_in;go_wp2;go_loopw [3,8] (λr i wr=>∃j:Nat,j<=n/\i=iV j/\wr=w/\r= .int .u64 ((le (l.take j):Nat):Int)) (λ_ i _=>n-(intOf i).toNat);case atStart=>exact⟨0,dU _,rfl,rfl,by simp [le]⟩
 case round=>
  obtain⟨j,t,rfl,rfl,rfl⟩:=hrel;by_cases bm:j<n
  .have cw:(j:Int)<(n:Int):=(by omega);have q:=m.o j bm;obtain⟨x,s,jA⟩:∃x:Nat,l.getD j 0=(x:Int)/\x<256:=by
    have:=d.getD j;exact⟨(l.getD j 0).toNat,by omega,by omega⟩
   have io:=lq (l:=l) (k:=j) (by omega);have f:le (l.take j)<2 ^ (8*j):=by
    have:=lg (d.take j);have e:(l.take j).length=j:=(by simp;omega);rwa [e] at this
   have a:le (l.take (j+1))<18446744073709551616:=FO (d.take _) (by simp;omega);rw [s] at q io;simp only [Int.toNat_natCast] at io;rw [io] at a;have MV:=YO (8*j) _ x f a;rw [<-io] at MV;have YP:((x:Int)*2 ^ (8*j))=((2 ^ (8*j)*x:Nat):Int):=(by rw [Int.natCast_mul,Int.natCast_pow,Int.mul_comm];rfl);have oS:((2 ^ (8*j)*x:Nat):Int)%18446744073709551616=((2 ^ (8*j)*x:Nat):Int):=(by omega);generalize 2 ^ (8*j)*x=Y at*;generalize le (l.take j)=A at*;clear f a io;go_wp2;go_roundw;case rel=>exact⟨j+1,by omega,by go_num,trivial,by rw [<-(yh MV).out]⟩
   case measure=>simp [intOf];omega
  .have cw:¬(j:Int)<(n:Int):=(by omega);have p:l.take j=l:=nh (by omega);rw [p] at*;go_wp2;go_ret;exact⟨rfl,rfl⟩
theorem oe (g o:Nat) (a b:Int) (w:World) (n:w.cell? (aD g o)=some (.int .u8 a)) (p:w.cell? ⟨g,o+511,none⟩=some (.int .u8 b)):
  Calls prog 185 #[.pointer (some (aD g o))] w λe w'=>e= .returned (.int .u8 ((cD a b:Nat):Int))/\w'=w:=by
 have l:=gd a b;have acg:∀k:Nat,k<cD a b->(k:Int)=a\/(k:Int)=b:=by
  intro k d;unfold cD at d;split at d
  .omega
  .split at d
   .next c f=>omega
   .next c f=>omega
 have dG:=B9 a b;generalize cD a b=t at*;go_in;go_wp2;go_loopw [3] (λi wr=>∃k:Nat,k<=t/\i= .int .u8 k/\wr=w) (λi _=>t-(intOf i).toNat);case atStart=>exact⟨0,dU _,rfl,rfl⟩
 case round=>
  obtain⟨k,d,rfl,rfl⟩:=hrel;by_cases bm:k<t
  .by_cases c:(k:Int)=a
   .have j:((k:Int) == a)=true:=(by simpa using c);go_wp2;go_roundw;case rel=>exact⟨k+1,by omega,by go_num,trivial⟩
    case measure=>simp [intOf];omega
   .have f:=(acg k bm).resolve_left c;have j:((k:Int) == a)=false:=(by simpa using c);have m:((k:Int) == b)=true:=(by simpa using f);go_wp2;go_roundw;case rel=>exact⟨k+1,by omega,by go_num,trivial⟩
    case measure=>simp [intOf];omega
  .obtain rfl:k=t:=(by omega);have j:((k:Int) == a)=false:=(by simpa using dG.1);have m:((k:Int) == b)=false:=(by simpa using dG.2);go_wp2;go_ret;exact⟨rfl,rfl⟩
theorem Qi (g:Nat) (T:TypeId) (l:List Int) (w:World) (d:jX w T g l) (z:l.length=512) (cZ:Bytes l):
  Calls prog 222 #[pQ g] w λe w'=>e= .returned (iV ((sumOf (xu l):Nat):Int))/\bW w w':=by
 obtain⟨y,v,gv,dr,ec⟩:=info_parts fW;have s1:=d.src (o:=1) (n:=2) (by omega);have s2:=d.src (o:=7) (n:=504) (by omega);have r:Bytes ((l.drop 1).take 2):=(cZ.drop _).take _;have s:Bytes ((l.drop 7).take 504):=(cZ.drop _).take _;unfold xu;generalize (l.drop 1).take 2=X at*;generalize (l.drop 7).take 504=Y at*;go_in;go_wp2_with fail;refine(mi g 0 1 3 w (by omega) (by omega)).mono ?_;rintro e w1 ⟨rfl,i⟩;have ez:=i.symm;subst ez;go_wp2_with fail;refine(mi g 0 7 511 w (by omega) (by omega)).mono ?_;rintro e w1 ⟨rfl,i⟩;have ez:=i.symm;subst ez;go_wp2_with (at_builtin;refine wpList_append_grows _ rfl _ _ 36 rfl 5 y (.int .u8 0) 1 1 underlying36 v gv dr ec rfl (by decide) (some (aD g 1)) 2 2 (bs X) rfl ?m0 ?m1 ?m2 (aD g 7) 504 504 (bs Y) rfl ?m3 ?m4 ?m5 ?m6 ?m7 ?m8 ?_);case m0=>intro h;cases h
 case m1=>have:=s1.1;simpa [bs] using this
 case m2=>
  intro b d j u f;cases d;obtain⟨YQ,rfl⟩:=fq f;have:=s1.1;exact s1.2.2 _ rfl j (by omega)
 case m3=>have:=s2.1;simpa [bs] using this
 case m4=>
  intro j u f;obtain⟨YQ,rfl⟩:=fq f;have:=s2.1;exact s2.2.2 _ rfl j (by omega)
 case m5=>exact cB _
 case m6=>omega
 case m7=>unfold maxLen;omega
 case m8=>omega
 intro A w1 az aO;have t:=DC (l:=X ++ Y) (by rw [iE];exact az) (by have:=s1.1;have:=s2.1;simp;omega) rfl;obtain⟨a,c,rfl,fJ,_,_⟩:=t.src;have q:=xx a (X ++ Y).length c (X ++ Y) w1 (r.append s) (by have:=s1.1;have:=s2.1;simp;omega) fJ;have m:=(bi _ w).grown aO (bP _) (by intro k x;cases x);generalize (X ++ Y).length=N at*;obtain⟨E,p⟩:=bQ (sumOf (X ++ Y));rw [<-p] at q;go_wp2_with fail;refine bE q λC aW=>?_;go_wp2;go_ret;exact⟨by rw [<-p];rfl,m.trans (aW.mono m.size)⟩
def zs (n:Nat):List Int:=List.replicate n 0
theorem bB (n:Nat):(zs n).length=n:=List.length_replicate
theorem og (n:Nat):zs (n+1)=0 :: zs n:=List.replicate_succ
theorem lM (n m:Nat):zs (n+m)=zs n ++ zs m:=by unfold zs;rw [List.replicate_append_replicate]
def bh:Array Value:=(bs (zs 512)).toArray
theorem LQ:(prog.info? 211).map (λi=>(i.zero,i.size))=some (some (.agg bh),512):=by kernel_rfl
theorem jc (w:World):(zeroValue 211).run prog w= .ok (.agg bh) w:=by
 obtain⟨i,b,a⟩:=Option.map_eq_some_iff.1 LQ;simp only [Prod.mk.injEq] at a;simp [zeroValue,typeInfo,b,a.1]
theorem DF:(prog.info? 211).map (·.size)=some 512:=by
 obtain⟨i,b,a⟩:=Option.map_eq_some_iff.1 LQ;simp only [Prod.mk.injEq] at a;rw [b,<-a.2];rfl
theorem ahH (n:Nat) (h:n<65536):leb 2 n= [((n%256:Nat):Int),((n / 256:Nat):Int)]:=by
 simp only [leb];congr 3;omega
theorem ach (s:Nat):leb 4 s=nV s:=by
 simp only [leb,nV,Nat.div_div_eq_div_mul]
theorem Qj (l:List Int) (x y:Int):(l ++ [x]).set l.length y=l ++ [y]:=by
 rw [List.set_append_right _ _ (bP _),Nat.sub_self];rfl
def s1 (t:Int):List Int:=t :: (zs 510 ++ [t])
theorem YR (t:Int):(s1 t).length=512:=by simp only [s1,List.length_cons,dT,bB,List.length_nil]
def s2 (t:Int) (n:Nat):List Int:=t :: ((n%256:Nat):Int) :: ((n / 256:Nat):Int) :: (zs 508 ++ [t])
theorem YS (t:Int) (n:Nat):(s2 t n).length=512:=by simp only [s2,List.length_cons,dT,bB,List.length_nil]
theorem aci (t:Int) (n:Nat) (h:n<65536):put (s1 t) 1 (leb 2 n)=s2 t n:=by
 rw [ahH n h];unfold s1 s2;rw [og 509,og 508];simp only [put,List.take_succ_cons,List.take_zero,List.length_cons,List.length_nil,List.cons_append,List.nil_append,List.drop_succ_cons,List.drop_zero]
def s3 (t:Int) (body:List Int):List Int:=t :: ((body.length%256:Nat):Int) :: ((body.length / 256:Nat):Int) :: 0 :: 0 :: 0 :: 0 :: (body ++ (List.replicate (504-body.length) 0 ++ [t]))
theorem Qk (t:Int) (h:body.length<=504):(s3 t body).length=512:=by simp [s3];omega
theorem acj (t:Int) (body:List Int) (h:body.length<=504):put (s2 t body.length) 7 body=s3 t body:=by
 unfold s2 s3;have e:(zs 508 ++ [t])=0 :: 0 :: 0 :: 0 :: (zs body.length ++ (zs (504-body.length) ++ [t])):=by
  rw [<-List.append_assoc,<-lM,show body.length+(504-body.length)=504 by omega,og 507,og 506,og 505,og 504];rfl
 rw [e];simp only [put,List.take_succ_cons,List.take_zero,List.cons_append,List.nil_append];rw [show 7+body.length=body.length+7 by omega];simp only [List.drop_succ_cons];rw [List.drop_left' (bB _)];rfl
theorem Ql {t:Int} (a:0<=t/\t<256) (b:Bytes body) (h:body.length<=504):Bytes (s3 t body):=
   .cons a (.cons (by omega) (.cons (by omega) (.cons (by omega) (.cons (by omega) (.cons (by omega) (.cons (by omega) (b.append ((Bytes.tu _).append (.cons a .nil)))))))))
theorem UY (t:Int) (body:List Int) (h:body.length<=504):xu (s3 t body)=nx body:=by
 unfold xu s3 nx;simp only [List.drop_succ_cons,List.drop_zero,List.take_succ_cons,List.take_zero,List.cons_append,List.nil_append];rw [<-List.append_assoc,List.take_left' (by simp;omega)]
theorem ack (t:Int) (body:List Int):put (s3 t body) 3 (leb 4 (sumOf (nx body)))=be t body:=by
 rw [ach];unfold s3 be;simp only [put,List.take_succ_cons,List.take_zero,nZ,List.cons_append,List.nil_append,List.drop_succ_cons,List.drop_zero]
theorem YT (l xs:List Int) (o:Nat):splice (bs l) o (bs xs)=bs (put l o xs):=by
 simp [splice,bs,put,List.map_take,List.map_drop]
theorem Qm (w:World) (m T:TypeId) (g b gN Be:Nat) (a:Option Addr) (jR Bf:Nat) (cur l:List Int) (d:jX w T g cur)
    (i:Src w a jR l) (f:jR<=gN) (Fo:b+gN<=cur.length):
  ∃w2,(Builtin.copy_ #[36,36] m #[.slice (some (aD g b)) gN Be, .slice a jR Bf]).run prog w= .ok (goInt jR) w2/\
   jX w2 T g (put cur b l)/\aa (λk=>k=g) w w2/\w2.heap.size=w.heap.size:=by
 have p:=i.1;by_cases h0:jR=0
 .refine⟨w,?_,?_,aa.refl _ _,rfl⟩
  .have:=run_copy_none (P:=prog) w 36 36 m 5 (some (aD g b)) a gN Be jR Bf underlying36 Df (by rw [h0];exact Nat.zero_min _);rw [h0] at this⊢;exact this
  .have:l= []:=List.eq_nil_of_length_eq_zero (by omega);rw [this,DD];exact d
 .cases a with
  |none=>have:=i.2.1 rfl;omega
  |some x=>
   have c:(bs l).length=Nat.min jR gN:=by
    have e:Nat.min jR gN=jR:=Nat.min_eq_left f;simp only [bs,List.length_map,e];omega
   have bC:=run_copy_row (P:=prog) w 36 36 m 5 g b gN Be x jR Bf (bs cur).toArray T (bs l) underlying36 Df d c
      (λj v n=>by
     obtain⟨AX,rfl⟩:=fq n;rw [i.2.2 x rfl j (by omega)]) (by simp only [List.size_toArray];simp [bs];omega) (cB _)
   have e:(bs l).length=jR:=(by simp only [bs,List.length_map];omega);rw [e] at bC;refine⟨_,bC,?_,⟨rfl,rfl,rfl,by simp,λk _ o=>setRow_other w g k _ o⟩,by simp⟩;unfold jX;rw [setRow_heap w g _ _ T _ d,<-YT];simp only [splice,List.append_assoc,e]
theorem acl (t:Int):(bh.setIfInBounds 0 (Value.int .u8 t)).setIfInBounds 511 (Value.int .u8 t)=(bs (s1 t)).toArray:=by
 apply Array.ext';rw [Array.toList_setIfInBounds,Array.toList_setIfInBounds];unfold bh s1;show ((bs (zs 512)).set 0 (Value.int .u8 t)).set 511 (Value.int .u8 t)=bs (t :: (zs 510 ++ [t]));rw [bs,bs,<-List.map_set,<-List.map_set,og 511,List.set_cons_zero,List.set_cons_succ,lM 510 1];have:=Qj (zs 510) 0 t;rw [bB] at this;have e:zs 1= [0]:=rfl;rw [e,this]
theorem MW (h:jX w T g l):w.rangeAt g 0 (bs l):=by
 intro j v b;obtain⟨a,rfl⟩:=fq b;rw [Nat.zero_add];exact h.cell a
theorem cE (h:w.heap[g]? =some (.cells cur T (0,0))) (b:cur.size=n):w.there g 0 n:=by
 intro j a;rw [Nat.zero_add];exact⟨by rw [aj h (j:=j) (u:=cur[j]'(by omega)) (by simp [show j<cur.size by omega])];rfl,ae h j⟩
theorem cI:bh.size=512:=by unfold bh;simp only [List.size_toArray,bs,List.length_map,bB]
theorem iY (h:l.length=512):(prog.info? 211).map (·.size)=some (bs l).length:=by
 rw [DF,bs,List.length_map,h]
theorem oh (t:Nat) (a:Option Addr) (n c:Nat) (body:List Int) (w:World) (A:t<256) (m:Src w a n body) (x:n<=504) (q:Bytes body):
  Calls prog 184 #[.int .u8 (t:Int), .slice a n c] w λe w'=>e= .returned (.agg (bs (be t body)).toArray)/\bW w w':=by
 obtain⟨H,y,Bj⟩:=jw m jc m.1;have A2:=(λw1=>mi (w.heap.size+1) 0 1 3 w1 (by omega) (by omega));have B7:=(λw1=>mi (w.heap.size+1) 0 7 511 w1 (by omega) (by omega));have ML:=(λw1=>mi (w.heap.size+1) 0 3 7 w1 (by omega) (by omega));clear m;go_in;go_wp2_with fail;rw [acl];obtain⟨w1,bN⟩:=bQ ((w.alloc (.cells bh 211)).alloc (.cells (bs (s1 t)).toArray 211));have bK:bW w w1:=by rw [bN];exact((bi _ w).alloc (bP _) _).alloc (by simp) _
 have aZ:jX w1 211 (w.heap.size+1) (s1 t):=by rw [bN];exact heap_alloc2_new _ _ _
 have jk:w1.heap[w.heap.size]? =some (.cells bh 211 (0,0)):=by rw [bN];exact heap_alloc2_old _ _ _
 rw [<-bN];clear bN y;refine(A2 w1).mono ?_;rintro e w' ⟨rfl,b⟩;have ez:=b.symm;subst ez;clear b A2;have d:=DE (w.heap.size+1) 1 2 2 n 211 (s1 t) w1 aZ (by omega) (by rw [YR];omega);rw [aci t n (by omega)] at d;have YU:=jk;have cN:=bK;clear aZ jk bK;go_wp2_with fail;refine oX d λr aZ l ec=>?_;have eM:=cN.trans (l.below (λj k=>by omega) cN.size);have jk:=(l.block _ (kN.1 YU).1 (by omega)).trans YU;obtain⟨s,bC,Qn,aV,kO⟩:=Qm r 3 211 (w.heap.size+1) 7 504 504 a n c (s2 t n) body aZ (H.later eM) x (by rw [YS];omega);have jK:=eM.trans (aV.below (λj k=>by omega) eM.size);have vP:=(aV.block _ (kN.1 jk).1 (by omega)).trans jk;have g:=acj t body (by omega);rw [Bj] at g;rw [g] at Qn;obtain⟨LR,Qo,fS⟩:=jw Qn vP jK;clear d aZ l eM jk aV jK vP Qn cN YU ec kO g;go_wp2_with fail;refine(B7 r).mono ?_;rintro e w' ⟨rfl,b⟩;have ez:=b.symm;subst ez;clear b B7;go_wp2_with fail;refine(ML s).mono ?_;rintro e w' ⟨rfl,b⟩;have ez:=b.symm;subst ez;clear b ML bC;have FP:=Qi (w.heap.size+1) 211 (s3 t body) s LR (Qk t (by omega)) (Ql (by omega) q (by omega));rw [UY t body (by omega)] at FP;have v:=ng (vN q (show body.length<=504 by omega));have i:=ack t body;obtain⟨E,o⟩:=bQ (sumOf (nx body));rw [<-o] at FP v i;have f:=i;clear o i;go_wp2_with fail;refine bE FP λz fe=>?_;have Xj:=LR.au (fe.block _ LR.lt);have rA:=(fe.block _ (kN.1 Qo).1).trans Qo;have sW:=fS.trans (fe.mono fS.size);have d:=DE (w.heap.size+1) 3 4 4 E 211 (s3 t body) z Xj (by omega) (by rw [Qk t (by omega)];omega);rw [f] at d;have Qp:=rA;have jB:=sW;clear FP fe Xj rA sW LR Qo fS f;go_wp2_with fail;refine oX d λw5 Xk dX qE=>?_;have Xl:=(dX.block _ (kN.1 Qp).1 (by omega)).trans Qp;have Ju:=jB.trans (dX.below (λj k=>by omega) jB.size);have jL:(be t body).length=512:=fj (by omega);have A6:=MW Xk;have dZ:=cE Xl cI;have aU:=iY jL;have jT:(bs (be t body)).length=512:=by rw [bs,List.length_map,jL]
 have dI:=cB (be t body);generalize p:bs (be t body)=F at*;rw [<-jT] at dZ;have pi:=(World.rangeAt_setCells_same w5 w.heap.size 0 F dZ);have bR:=all_oneCell_toArray dI;have A8:=Ju.trans ((aa.setCells (F:=λj=>j=w.heap.size) rfl F 0 w5).below (λj k=>by omega) Ju.size);have u:=p;clear d Xk dX qE Xl Ju jL Qp jB dI p;go_wp2_with (first|refine wpList_load_mid rfl 211 _ rfl (w.heap.size+1) 0 rfl F _ A6 underlying211 rfl aU ?_|refine wpList_store_mid rfl 211 _ _ rfl w.heap.size 0 F.toArray rfl rfl ?h1 ?h2 bR ?_);case h1=>simpa using dZ
 case h2=>simpa using aU
 exact bodyPost_ret (gh (P:=prog) rfl _ _ w.heap.size F _ rfl pi underlying211 rfl aU) rfl ⟨by rw [u],A8⟩
theorem results_cell_tmp {P:Program} {e:Func} {p q:Tmp} (h:e.results= #[.cell p ty, .tmp q]) (a:Array Value) (w:World) (g:Nat) (cs:List Value) (d:TypeDesc) (v:Value)
    (j:a.getD p undef=pQ g) (k:a.getD q undef=v) (f:w.rangeAt g 0 cs) (l:P.underlying ty=some d) (hd:d.isRow=true) (i:(P.info? ty).map (·.size)=some cs.length):
    (results e a).run P w= .ok (.tuple #[.agg cs.toArray,v]) w:=by
 have b:a[p]?.getD undef=pQ g:=by simpa using j
 have c:a[q]?.getD undef=v:=by simpa using k
 simp [results,h,b,c,asAddr,run_loadVar_mid w g 0 ty cs d f l hd i]
theorem lF {b o:Nat} (h:Src w (some (aD b o)) n l):w.rangeAt b o (bs l):=by
 intro j v a;obtain⟨c,rfl⟩:=fq a;have:=h.2.2 _ rfl j (by have:=h.1;omega);rwa [aK] at this
theorem Qq (a:Option Addr) (c:Nat) (w:World):(Instr.arrayAt 211 (.slice a 512 c)).run prog w= .ok (.pointer a) w:=by
 simp [Instr.arrayAt,run_underlying underlying211]
theorem yF:∀v∈bh.toList,v.oneCell'=true:=cB (zs 512)
theorem yG:(prog.info? 211).map (·.size)=some bh.toList.length:=iY (l:=zs 512) (bB 512)
theorem pC (a:Option Addr) (n c:Nat) (w:World) (d:n≠512):
  Calls prog 218 #[.slice a n c] w λe w'=>e= .returned (.tuple #[.agg bh, .bool false])/\bW w w':=by
 have f:=jc;have h1:(((n:Int)) != 512)=true:=by rw [fT];omega
 have aU:=yG;have dI:=yF;generalize bh=Z at*;have bN:(w.alloc (.cells Z 211)).heap[w.heap.size]? =some (.cells Z 211 (0,0)):=heap_alloc_new _ _;have dZ:(w.alloc (.cells Z 211)).there w.heap.size 0 Z.toList.length:=cE bN (by simp);have bR:Z.all Value.oneCell'=true:=all_oneCell_toArray dI;have bK:bW w (w.alloc (.cells Z 211)):=(bi _ w).alloc (bP _) _;go_in;go_wp2_with (refine wpList_store_mid rfl 211 _ _ rfl w.heap.size 0 Z rfl rfl ?h1 ?h2 bR ?_);case h1=>simpa using dZ
 case h2=>simpa using aU
 exact bodyPost_ret (results_cell_tmp (P:=prog) rfl _ _ w.heap.size Z.toList _ _ rfl rfl (World.rangeAt_setCells_same _ w.heap.size 0 Z.toList dZ) underlying211 rfl aU) rfl ⟨rfl,bK.trans ((aa.setCells (F:=λj=>j=w.heap.size) rfl Z.toList 0 _).below (λj b=>by omega) bK.size)⟩
theorem mj (b o c:Nat) (l:List Int) (w:World) (a:Src w (some (aD b o)) 512 l):
  Calls prog 218 #[.slice (some (aD b o)) 512 c] w λe w'=>e= .returned (.tuple #[.agg (bs l).toArray, .bool true])/\bW w w':=by
 have f:=jc;have YV:=Qq (some (aD b o)) c;have bK:bW w (w.alloc (.cells bh 211)):=(bi _ w).alloc (bP _) _;have A6:=lF (a.later bK);have aU:=iY (l:=l) a.1;have dI:=cB l;have bN:(w.alloc (.cells bh 211)).heap[w.heap.size]? =some (.cells bh 211 (0,0)):=heap_alloc_new _ _;have dZ:=cE bN cI;have jT:(bs l).length=512:=by rw [bs,List.length_map,a.1]
 generalize bs l=F at*;rw [<-jT] at dZ;have pi:=(World.rangeAt_setCells_same _ w.heap.size 0 F dZ);have bR:=all_oneCell_toArray dI;have A8:=(bK.trans ((aa.setCells (F:=λj=>j=w.heap.size) rfl F 0 _).below (λj d=>by omega) bK.size));go_in;go_wp2_with (first|refine wpList_load_mid rfl 211 _ rfl b o rfl F _ A6 underlying211 rfl aU ?_|refine wpList_store_mid rfl 211 _ _ rfl w.heap.size 0 F.toArray rfl rfl ?h1 ?h2 bR ?_);case h1=>simpa using dZ
 case h2=>simpa using aU
 exact bodyPost_ret (results_cell_tmp (P:=prog) rfl _ _ w.heap.size F _ _ rfl rfl pi underlying211 rfl aU) rfl ⟨rfl,A8⟩
def xy (w:World) (B:Nat) (v:Value) (l:List Int):Prop:=∃a c,v= .slice a l.length c/\Src w a l.length l/\l.length<=c/\∀x,a=some x->B<=x.block
theorem xy.nil (w:World) (B:Nat):xy w B (.slice none 0 0) []:=⟨none,0,rfl,⟨rfl,λ_=>rfl,λx a=>by cases a⟩,bP _,λx a=>by cases a⟩
theorem xy.later {B:Nat} (h:xy w B v l) (b:bW w w'):xy w' B v l:=by
 obtain⟨a,c,rfl,e,d,f⟩:=h;exact⟨a,c,rfl,e.later b,d,f⟩
theorem jX.lst {B:Nat} (h:jX w T g l) (a:B<=g):xy w B (.slice (some (aD g 0)) l.length l.length) l:=by
 refine⟨some (aD g 0),l.length,rfl,?_,bP _,λx b=>by cases b;exact a⟩;have:=h.src (o:=0) (n:=l.length) (by omega);simpa using this
theorem se:∀(c b:List Value) (cur:Array Value),w.heap[g]? =some (.cells cur T (0,0))->(∃a,cur.toList=b ++ a/\a.length=c.length)->
    (w.setCells g b.length c).heap[g]? =some (.cells (b ++ c).toArray T (0,0)):=by
 intro c
 induction c generalizing w with
 |nil=>
  intro b cur i ⟨a,d,f⟩;have:a= []:=List.eq_nil_of_length_eq_zero f;subst this;simp only [List.append_nil] at d⊢;show w.heap[g]? =_;rw [i,<-d]
 |cons v r j=>
  intro b cur i ⟨a,d,f⟩;cases a with
  |nil=>simp at f
  |cons u a=>
   have e:(cur.setIfInBounds b.length v).toList=(b ++ [v]) ++ a:=by
    rw [Array.toList_setIfInBounds,d,List.set_append_right _ _ (bP _),Nat.sub_self];simp
   have:=j (w:=w.setCell ⟨g,b.length,none⟩ v) (b ++ [v]) _ (heap_setCell_same w g b.length cur T v i) ⟨a,e,by simpa using f⟩;simp only [World.setCells];simpa using this
theorem eE (a:w.heap[g]? =some (.cells cur T (0,0))) (b:cur.size=l.length):jX (w.setCells g 0 (bs l)) T g l:=
 se (bs l) [] cur a ⟨cur.toList,rfl,by simp [bs,b]⟩
theorem Qr (a:Option Addr) (n c:Nat) (b:Option Addr) (m d:Nat) (w:World) (f:n≠512):
  Calls prog 236 #[.slice a n c, .slice b m d] w λe w'=>e= .returned (.tuple #[.slice none 0 0,iV 2])/\bW w w':=by
 obtain⟨k,g,aU,dI⟩:=cM jc (pC a n c w f) yG yF;generalize bh=Z at*;have bR:Z.all Value.oneCell'=true:=all_oneCell_toArray dI;go_in;go_wp2_with fail;refine bE g λw1 aq=>?_;have bN:(w1.alloc (.cells Z 211)).heap[w1.heap.size]? =some (.cells Z 211 (0,0)):=heap_alloc_new _ _;have dZ:(w1.alloc (.cells Z 211)).there w1.heap.size 0 Z.toList.length:=cE bN (by simp);have bK:bW w (w1.alloc (.cells Z 211)):=aq.alloc aq.size _;have ef:=aq.size;have A8:=(bK.trans ((aa.setCells (F:=λj=>j=w1.heap.size) rfl Z.toList 0 _).below (λj i=>by omega) bK.size));go_wp2_with (refine wpList_store_mid rfl 211 _ _ rfl w1.heap.size 0 Z rfl rfl ?h1 ?h2 bR ?_);case h1=>simpa using dZ
 case h2=>simpa using aU
 go_ret2;exact⟨rfl,A8⟩
theorem Qs (b o c:Nat) (old:List Int) (d:Option Addr) (m f:Nat) (w:World) (a:Src w (some (aD b o)) 512 old) (i:504<m):
  Calls prog 236 #[.slice (some (aD b o)) 512 c, .slice d m f] w λe w'=>e= .returned (.tuple #[.slice none 0 0,iV 7])/\bW w w':=by
 have k:=jc;have hm':504<(m:Int):=by omega
 have ed:=mj b o c old w a;have aU:=iY (l:=old) a.1;have dI:=cB old;have jT:(bs old).length=512:=by rw [bs,List.length_map,a.1]
 generalize bs old=F at*;have bR:=all_oneCell_toArray dI;go_in;go_wp2_with fail;refine bE ed λw1 aq=>?_;have bN:(w1.alloc (.cells bh 211)).heap[w1.heap.size]? =some (.cells bh 211 (0,0)):=heap_alloc_new _ _;have dZ:=cE bN cI;rw [<-jT] at dZ;have bK:bW w (w1.alloc (.cells bh 211)):=aq.alloc aq.size _;have ef:=aq.size;have A8:=yh (bK.trans ((aa.setCells (F:=λj=>j=w1.heap.size) rfl F 0 _).below (λj g=>by omega) bK.size));go_wp2_with (refine wpList_store_mid rfl 211 _ _ rfl w1.heap.size 0 F.toArray rfl rfl ?h1 ?h2 bR ?_);case h1=>simpa using dZ
 case h2=>simpa using aU
 go_ret2;exact⟨rfl,A8.out⟩
theorem UZ (b o c:Nat) (old:List Int) (f:Option Addr) (m q:Nat) (body:List Int) (w:World) (d:Src w (some (aD b o)) 512 old) (bo:Src w f m body) (y:m<=504) (v:Bytes body):
  Calls prog 236 #[.slice (some (aD b o)) 512 c, .slice f m q] w λe w'=>∃g,e= .returned (.tuple #[.slice (some (aD g 0)) 512 512,iV 0])/\jX w' 211 g (be (cD (old.getD 0 0) (old.getD 511 0)) body)/\w.heap.size<=g/\bW w w':=by
 obtain⟨A,ed,aU,dI⟩:=cM jc (mj b o c old w d) (iY (l:=old) d.1) (cB old);have jT:(bs old).length=512:=by rw [bs,List.length_map,d.1]
 obtain⟨aco,bR,p,Bj,z⟩:=ey d.1 (all_oneCell_toArray dI) (yh bo) bo.1 (gd (old.getD 0 0) (old.getD 511 0));obtain⟨t,wK⟩:=bQ (cD (old.getD 0 0) (old.getD 511 0));rw [<-wK] at z;obtain⟨F,k⟩:=bQ (bs old);rw [<-k] at ed aU dI jT bR;clear dI d bo;go_in;go_wp2_with fail;refine bE ed λw1 aq=>?_;have bN:(w1.alloc (.cells bh 211)).heap[w1.heap.size]? =some (.cells bh 211 (0,0)):=heap_alloc_new _ _;have dZ:=cE bN cI;rw [<-jT] at dZ;have bK:bW w (w1.alloc (.cells bh 211)):=aq.alloc aq.size _;have ef:=aq.size;have eM:=bK.trans ((aa.setCells (F:=λj=>j=w1.heap.size) rfl F 0 _).below (λj x=>by omega) bK.size);have aZ:=eE (l:=old) bN (by rw [cI,aco]);rw [<-k] at aZ;have Jv:=oe w1.heap.size 0 (old.getD 0 0) (old.getD 511 0) _ (aZ.cell (by omega)) (aZ.cell (i:=511) (by omega));rw [<-wK] at Jv;have wL:=oh t f m q body _ (by omega) (p.o.later eM) y v;obtain⟨C,dw⟩:=bQ ((w1.alloc (.cells bh 211)).setCells w1.heap.size 0 F);rw [<-dw] at Jv wL eM;obtain⟨dE,Qt⟩:=bL eM wK;clear ed bN bK aq aZ eM wK k p;go_wp2_with (refine wpList_store_mid rfl 211 _ _ rfl w1.heap.size 0 F.toArray rfl rfl ?h1 ?h2 bR ?_);case h1=>simpa using dZ
 case h2=>simpa using aU
 rw [<-dw];refine bE Jv λw' r=>?_;have ez:=r.symm;subst ez;clear r Jv dZ dw bR aU;have jL:(be t body).length=512:=fj (by omega);have aU:=iY (l:=be t body) jL;have bR:=all_oneCell_toArray (cB (be t body));have DG:(bs (be t body)).length=512:=by rw [bs,List.length_map,jL]
 obtain⟨G,n⟩:=bQ (bs (be t body));rw [<-n] at wL aU bR DG;have s:=yh n;clear n;go_wp2_with fail;refine bE wL λa bz=>?_;have jK:=dE.o.trans (bz.mono dE.o.size);have eB:(a.alloc (.cells bh 211)).heap[a.heap.size]? =some (.cells bh 211 (0,0)):=heap_alloc_new _ _;have dZ:=cE eB cI;rw [<-DG] at dZ;have aZ:=eE (l:=be t body) eB (by rw [cI,jL]);rw [<-s.o] at aZ;have Dj:=jK.size;have sW:bW w (a.alloc (.cells bh 211)):=jK.alloc jK.size _;rw [Qt.o] at aZ;have u:=yh (aF aZ (aF jK.size (sW.trans ((aa.setCells (F:=λj=>j=a.heap.size) rfl G 0 _).below (λj x=>by omega) sW.size))));clear wL jK eB aZ sW bz dE;go_wp2_with (refine wpList_store_mid rfl 211 _ _ rfl a.heap.size 0 G.toArray rfl rfl ?h1 ?h2 bR ?_);case h1=>simpa using dZ
 case h2=>simpa using aU
 go_ret2;exact⟨a.heap.size,rfl,u.o⟩
theorem b9 {b:Array Oper} {rest:List Oper} {o:Oper} {a:Act} {Q:Exit->Act->World->Prop} (FQ:o.guard=none) (s x:Operand)
    (l7:o.op=Op.call {callee:=Callee.builtin Builtin.append,args:= #[s,x],argTypes:= #[36,36]})
    (B:Nat) (v:Value) (l:List Int) (y:Int) (m:a.eval s=v) (n:a.eval x= .slice (some (aD w.heap.size 0)) 1 1) (az:Own w B v l) (d:l.length<=140737488355327) (i:B<=w.heap.size)
    (j:∀c w',Own w' B c (l ++ [y])->Below B w w'->wpList prog b Q rest (a.put o.dst c) w'):
  wpList prog b Q (o :: rest) a (w.alloc (.cells #[.int .u8 y] 5)):=by
 obtain⟨p,k,gv,dr,ec⟩:=info_parts fW;have f:w.ownsRow B 5 1 v l.length (bs l):=az;refine wpList_append_own _ FQ s x 36 l7 B 5 p (.int .u8 0) 1 1 underlying36 k gv dr ec rfl (by decide) v l.length (bs l) m (f.alloc _) (aD w.heap.size 0) 1 1 [.int .u8 y] n rfl (cell_one_new _ _ _) (by intro u g;simp at g;subst g;rfl) (by unfold maxLen;omega) (by omega) (by simp;omega) ?_;intro c w1 cJ kU _;refine j c w1 ?_ (((bi _ w).alloc i _).grown kU (by simp;omega) (λq e=>(f.lt q e).1));rw [UW] at cJ;exact DC cJ (by simp) rfl
def lenV:Value->Nat
 | .slice _ n _=>n
 |_=>0
theorem Own.U1 {B:Nat} (h:Own w B v l) (h0:0<l.length):∃g c,v= .slice (some (aD g 0)) l.length c/\B<=g/\ay w 5 g c (bs l):=by
 obtain⟨a,c,rfl,_,_,_⟩:=h.src;obtain⟨g,rfl,_,b,d⟩:=h.row h0;exact⟨g,c,rfl,b,d⟩
theorem ay.get (h:ay w e g c (bs l)) (a:i<l.length):w.cell? (aD g i)=some (.int .u8 (l.getD i 0)):=by
 have:=h.byte a;rwa [aK,Nat.zero_add] at this
theorem Bo (a b:List Int) (x:Int):a ++ b ++ [x]=a ++ (b ++ [x]):=List.append_assoc _ _ _
theorem U2 (k:Nat):zs k ++ [0]=zs (k+1):=by rw [lM];rfl
theorem Cg (t:Nat) (a:Option Addr) (n c:Nat) (body:List Int) (w:World) (ht:t<256) (hs:Src w a n body) (hn:n<=504) (hb:Bytes body):
  Calls prog 217 #[iV (t:Int), .slice a n c] w λe w'=>∃v,e= .returned v/\Own w' w.heap.size v (be t body)/\bW w w':=by
 have H:=yh hs;have Bj:=hs.1;have q1:((n:Int)).tmod 256=((n%256:Nat):Int):=by rw [Int.tmod_eq_emod_of_nonneg (by omega)];omega
 have q2:((n:Int)).tdiv 256=((n / 256:Nat):Int):=by rw [Int.tdiv_eq_ediv_of_nonneg (by omega)];omega
 clear hs;go_in;go_wp2_with (at_builtin;refine b9 rfl _ _ rfl w.heap.size _ [] _ rfl rfl (Own.nil w _) ?b1 ?b2 ?_);case b1=>simp
 case b2=>exact bP _
 intro v1 w1 tz aq;have dr:=aq.size;have I:=yh tz;have cN:=yh aq;clear tz aq;go_wp2_with (at_builtin;refine b9 rfl _ _ rfl w.heap.size v1 _ _ rfl rfl I.o ?b1 ?b2 ?_);case b1=>simp
 case b2=>exact dr
 intro v2 w2 jo aW;have acp:Own w2 w.heap.size v2 ([((n%256:Nat):Int),((n / 256:Nat):Int)] ++ body.take 0):=jo;obtain⟨A,dE⟩:=bL acp (cN.o.trans (aW.mono (bP _)));obtain⟨hd,y⟩:∃hd,hd= [((n%256:Nat):Int),((n / 256:Nat):Int)]:=⟨_,rfl⟩;have sX:hd.length=2:=by rw [y];rfl
 rw [<-y] at A;have G:=yh y;clear jo acp aW y I cN dr q1 q2;go_wp2;go_loopw [5,6] (λv i wr=>∃k:Nat,k<=n/\i=iV k/\Own wr w.heap.size v (hd ++ body.take k)/\bW w wr) (λ_ i _=>n-(intOf i).toNat);case atStart=>exact⟨0,dU _,rfl,A.o,dE.o⟩
 case round=>
  clear A dE;obtain⟨k,hk,rfl,az,dO⟩:=hrel;have bq:=yh az;have f:=yh dO;have r:=dO.size;clear az dO;by_cases bm:k<n
  .have cw:(k:Int)<(n:Int):=(by omega);obtain⟨x0,rfl⟩:∃x,a=some x:=by
    cases a with
    |none=>have:=H.o.2.1 rfl;omega
    |some x=>exact⟨x,rfl⟩
   obtain⟨b,o,rfl,du⟩:=H.o.spot (by omega);have hc:=cell_later f.o (du k bm);have Ci:=yh (jW body k (by omega));clear du;generalize body.getD k 0=x at*;go_wp2_with (at_builtin;refine b9 rfl _ _ rfl w.heap.size u5 _ x rfl rfl bq.o ?b1 ?b2 ?_);case b1=>simp;omega
   case b2=>exact r
   intro z w' p eC;have u:Yh (Own w' w.heap.size z (hd ++ body.take (k+1))):=(by rw [<-Ci.o];exact p);have wN:=yh (f.o.trans (eC.mono (bP _)));clear p eC bq f Ci;go_wp2;go_roundw;case rel=>exact⟨k+1,by omega,by go_num,u.o,wN.o⟩
   case measure=>simp [intOf];omega
  .have cw:¬(k:Int)<(n:Int):=(by omega);have e:body.take k=body:=nh (by omega);rw [e] at bq;clear e;have iW:Yh (Own wr w.heap.size u5 (hd ++ body ++ zs 0)):=(by show Own wr w.heap.size u5 (hd ++ body ++ []);rw [List.append_nil];exact bq.o);obtain⟨T,hT⟩:=bQ (hd ++ body);have S:T.length=2+n:=(by rw [hT];simp;omega);rw [<-hT] at iW;have HT:=yh hT;clear hT bq;go_wp2;go_loopw [5] (λv wr=>∃k:Nat,k<=504-n/\Own wr w.heap.size v (T ++ zs k)/\bW w wr) (λv _=>506-lenV v);case atStart=>exact⟨0,dU _,iW.o,f.o⟩
   case round=>
    clear iW f r;obtain⟨j,hj,az,dO⟩:=hrel;obtain⟨MX,D,rfl,_,_,_⟩:=az.src;have d:(T ++ zs j).length=2+n+j:=(by rw [dT,bB,S]);rw [d] at az;have bq:=yh az;have f:=yh dO;have r:=dO.size;clear az dO;rw [d];by_cases hlj:j<504-n
    .have ahJ:((2+n+j:Nat):Int)<506:=(by omega);obtain⟨N,Z⟩:=bQ (2+n+j);rw [<-Z] at ahJ d bq⊢;have HN:=yh Z;clear Z;go_wp2_with (at_builtin;refine b9 rfl _ _ rfl w.heap.size (.slice MX N D) _ 0 rfl rfl bq.o ?b1 ?b2 ?_);case b1=>omega
     case b2=>exact r
     intro z w' p eC;have u:Yh (Own w' w.heap.size z (T ++ zs (j+1))):=(by rw [<-U2,<-Bo];first|exact p|(rw [List.append_assoc];exact p));have wN:=yh (f.o.trans (eC.mono (bP _)));clear p eC bq f;go_wp2;go_roundw;case rel=>exact⟨j+1,by omega,u.o,wN.o⟩
     case measure=>
      obtain⟨a1,U,rfl,_,_,_⟩:=u.o.src;have:(T ++ zs (j+1)).length=2+n+(j+1):=(by rw [dT,bB,S]);have Z:=HN.o;simp only [lenV,this];omega
    .obtain rfl:j=504-n:=(by omega);have e6:2+n+(504-n)=506:=(by omega);rw [e6] at bq d⊢;have eT:T ++ zs (504-n)=nx body:=by
      rw [HT.o,G.o,<-Bj];simp [nx,zs]
     rw [eT] at bq d;have Qu:=vN hb (by omega);have L:=ng Qu;obtain⟨E,W⟩:=bQ (sumOf (nx body));obtain⟨X,F⟩:=bQ (nx body);have Xm:X.drop 2=body ++ zs (504-n):=(by rw [F,<-Bj];simp [nx,zs]);have rl:X.getD 0 0=((n%256:Nat):Int):=(by rw [F,<-Bj];rfl);have jA:X.getD 1 0=((n / 256:Nat):Int):=(by rw [F,<-Bj];rfl);have jz:be t body= [(t:Int),X.getD 0 0,X.getD 1 0] ++ leb 4 E ++ X.drop 2 ++ [(t:Int)]:=by
      rw [Xm,rl,jA,W,ach,<-Bj];simp [be,zs]
     rw [<-F] at bq d Qu;rw [<-W] at L;have kR:=yh jz;have Xn:E=sumOf X:=(by rw [W,F]);clear jz Xm rl jA W F eT e6 HT G;have Qv:=bq.o;rw [<-d] at Qv;obtain⟨g,ct,vQ,hgB,aY⟩:=Own.U1 (l:=X) Qv (by omega);have hae:MX=some (aD g 0):=(by cases vQ;rfl);have hce:D=ct:=(by cases vQ;rfl);subst hae;subst hce;have hq:=Qd (some (aD g 0)) 506 D X wr Qu (by omega) (by have:=aY.src;rw [d] at this;exact this);rw [<-Xn] at hq;have uP:=yh aY;clear Qv vQ aY bq Xn Qu hlj;go_wp2_with fail;refine bE hq λq bz=>?_;have ml:=uP.o.agree (bz.block g uP.o.lt);have jK:=f.o.trans (bz.mono f.o.size);have kO:=jK.size;have c0:=ml.get (i:=0) (by omega);have U:=ml.get (i:=1) (by omega);have Xo:=yh ml;have fS:=yh jK;clear hq bz ml jK uP f r;obtain⟨x0,rl⟩:=bQ (X.getD 0 0);obtain⟨x1,jA⟩:=bQ (X.getD 1 0);rw [<-rl] at c0;rw [<-jA] at U;rw [<-rl,<-jA] at kR;clear rl jA;go_wp2_with (at_builtin;refine b9 rfl _ _ rfl q.heap.size (.slice none 0 0) [] (t:Int) rfl rfl (Own.nil q _) ?b1 ?b2 ?_);case b1=>simp
     case b2=>exact(bP q.heap.size)
     intro v4 w4 Fc fe;obtain⟨J,jB,vS,d0,d1⟩:=ey (yh Fc) (yh fe) fe.size (cell_later fe c0) (cell_later fe U);clear Fc fe c0 U;go_wp2_with (at_builtin;refine b9 rfl _ _ rfl q.heap.size v4 _ x0 rfl rfl J.o ?b1 ?b2 ?_);case b1=>simp
     case b2=>exact vS
     intro v5 w5 FR ff;have K:=yh FR;have jd:=yh (jB.o.trans (ff.mono (bP _)));have d1':=(World.cell?_of_block (ff.block g Xo.o.lt)).trans d1;clear FR ff d0 d1 J jB vS;go_wp2_with (at_builtin;refine b9 rfl _ _ rfl q.heap.size v5 _ x1 rfl rfl K.o ?b1 ?b2 ?_);case b1=>simp
     case b2=>exact jd.o.size
     intro v6 w6 Xp ny;have C:Yh (Own w6 q.heap.size v6 ([(t:Int),x0,x1] ++ leb 0 E)):=Xp;have wO:=yh (jd.o.trans (ny.mono (bP _)));clear Xp ny d1' K jd;obtain⟨P,hP⟩:∃P,P= [(t:Int),x0,x1]:=⟨_,rfl⟩;have O:P.length=3:=(by rw [hP];rfl);rw [<-hP] at C kR;clear hP;go_wp2;go_loopw [7,8,9] (λs v i wx=>∃m:Nat,m<=4/\i=iV m/\s=iV ((E / 256 ^ m:Nat):Int)/\Own wx q.heap.size v (P ++ leb m E)/\bW q wx) (λ_ _ i _=>4-(intOf i).toNat);case atStart=>exact⟨0,dU _,rfl,by simp,C.o,wO.o⟩
     case round=>
      clear C wO;obtain⟨m,hm,rfl,rfl,az,lj⟩:=hrel;have bq:=yh az;have f:=yh lj;have r:=lj.size;clear az lj;by_cases xw:m<4
      .have Bm:(m:Int)<4:=(by omega);have e1:E / 256 ^ (m+1)=E / 256 ^ m / 256:=(by rw [Nat.div_div_eq_div_mul,Nat.pow_succ]);have e2:=iX m E;rw [show (2:Nat) ^ (8*m)=256 ^ m by rw [Nat.pow_mul]] at e2;have hQ:E / 256 ^ m<4294967296:=Nat.lt_of_le_of_lt (Nat.div_le_self _ _) L;generalize E / 256 ^ m=Q at*;have q1:((Q:Int)).tmod 256=((Q%256:Nat):Int):=(by rw [Int.tmod_eq_emod_of_nonneg (by omega)];omega);have q2:((Q:Int)).tdiv 256=((Q / 256:Nat):Int):=(by rw [Int.tdiv_eq_ediv_of_nonneg (by omega)];omega);obtain⟨Pb,LT⟩:=bL e1 e2;have jT:(P ++ leb m E).length=3+m:=(by rw [dT,O,aH]);clear e1 e2;go_wp2_with (at_builtin;refine b9 rfl _ _ rfl q.heap.size u8 _ _ rfl rfl bq.o ?b1 ?b2 ?_);case b1=>omega
       case b2=>exact r
       intro z w' p eC;have u:Yh (Own w' q.heap.size z (P ++ leb (m+1) E)):=(by rw [LT.o];first|exact p|(rw [<-List.append_assoc];exact p));have wN:=yh (f.o.trans (eC.mono (bP _)));clear p eC bq f LT;go_wp2;go_roundw;case rel=>exact⟨m+1,by omega,by go_num,by rw [Pb.o];simp,u.o,wN.o⟩
       case measure=>simp [intOf];omega
      .have Bm:¬(m:Int)<4:=(by omega);obtain rfl:m=4:=(by omega);obtain⟨R,hR⟩:=bQ (P ++ leb 4 E);have YW:R.length=7:=(by rw [hR,dT,O,aH]);rw [<-hR] at bq kR;have iW:Yh (Own wr q.heap.size u8 (R ++ (X.drop 2).take 0)):=(by show Own wr q.heap.size u8 (R ++ []);rw [List.append_nil];exact bq.o);clear hR bq hm;go_wp2;go_loopw [8,10] (λv i wx=>∃m:Nat,m<=504/\i=iV ((m+2:Nat):Int)/\Own wx q.heap.size v (R ++ (X.drop 2).take m)/\bW q wx) (λ_ i _=>506-(intOf i).toNat);case atStart=>exact⟨0,dU _,rfl,iW.o,f.o⟩
       case round=>
        clear iW f r;obtain⟨m,hm,rfl,az,lj⟩:=hrel;have bq:=yh az;have f:=yh lj;have r:=lj.size;clear az lj;have MY:(X.drop 2).length=504:=(by simp;omega);have jT:(R ++ (X.drop 2).take m).length=7+m:=(by rw [dT,YW,List.length_take];omega);by_cases xw:m<504
        .have Bm:((m+2:Nat):Int)<506:=(by omega);have hcx:=cell_later f.o (Xo.o.get (i:=m+2) (by omega));have eN:=jW (X.drop 2) m (by omega);have eX:(X.drop 2).getD m 0=X.getD (m+2) 0:=(by simp [List.getD,Nat.add_comm]);rw [eX] at eN;have Ci:=yh eN;clear eN eX;generalize X.getD (m+2) 0=x at*;generalize hM:m+2=M at*;have HM:=yh hM;clear hM;go_wp2_with (at_builtin;refine b9 rfl _ _ rfl q.heap.size u8 _ x rfl rfl bq.o ?b1 ?b2 ?_);case b1=>omega
         case b2=>exact r
         intro z w' p eC;have u:Yh (Own w' q.heap.size z (R ++ (X.drop 2).take (m+1))):=(by rw [<-Ci.o];first|exact p|(rw [<-List.append_assoc];exact p));have wN:=yh (f.o.trans (eC.mono (bP _)));clear p eC bq f Ci;go_wp2;go_roundw;case rel=>exact⟨m+1,by omega,by have:=HM.o;subst this;go_num,u.o,wN.o⟩
         case measure=>have:=HM.o;simp [intOf];omega
        .obtain rfl:m=504:=(by omega);have e5:(X.drop 2).take 504=X.drop 2:=nh (by omega);rw [e5] at bq jT;obtain⟨Y,hY⟩:=bQ (R ++ X.drop 2);rw [<-hY] at bq jT kR;clear hY e5;go_wp2_with (at_builtin;refine b9 rfl _ _ rfl q.heap.size u8 _ (t:Int) rfl rfl bq.o ?b1 ?b2 ?_);case b1=>omega
         case b2=>exact r
         intro z w' p eC;have u:Yh (Own w' w.heap.size z (be t body)):=(by rw [kR.o];exact Own.down p kO);have wN:Yh (bW w w'):=fS.o.trans ((f.o.trans (eC.mono (bP _))).mono kO);clear p eC bq f;go_wp2;go_ret;exact⟨_,rfl,u.o,wN.o⟩
theorem Jw {a b:Int}:∀k:Nat,k<cD a b->(k:Int)=a\/(k:Int)=b:=by
 intro k c;unfold cD at c;split at c
 .omega
 .split at c
  .next h1 h2=>omega
  .next h1 h2=>omega
theorem MZ (a:Option Addr) (n c:Nat) (b:Option Addr) (m d:Nat) (w:World) (g:n≠512):
  Calls prog 178 #[.slice a n c, .slice b m d] w λe w'=>e= .returned (.tuple #[.slice none 0 0,iV 2])/\w'=w:=by
 have f:(((n:Int)) != 512)=true:=by rw [fT];omega
 go_in;go_wp2;go_ret2;exact⟨rfl,rfl⟩
theorem M0 (a:Option Addr) (c:Nat) (b:Option Addr) (m d:Nat) (w:World) (f:504<m):
  Calls prog 178 #[.slice a 512 c, .slice b m d] w λe w'=>e= .returned (.tuple #[.slice none 0 0,iV 7])/\w'=w:=by
 have hm':504<(m:Int):=by omega
 go_in;go_wp2;go_ret2;exact⟨rfl,rfl⟩
theorem Qw (b o c:Nat) (old:List Int) (d:Option Addr) (m l:Nat) (body:List Int) (w:World) (n:Src w (some (aD b o)) 512 old) (bo:Src w d m body) (C:m<=504) (u:Bytes body) (LU:Bytes old):
  Calls prog 178 #[.slice (some (aD b o)) 512 c, .slice d m l] w λe w'=>∃v,e= .returned (.tuple #[v,iV 0])/\Own w' w.heap.size v (be (cD (old.getD 0 0) (old.getD 511 0)) body)/\bW w w':=by
 have hm':¬504<(m:Int):=by omega
 have j:=n.2.2 _ rfl 0 (by omega);have r:=n.2.2 _ rfl 511 (by omega);rw [aK] at j r;rw [Nat.add_zero] at j;have A:=gd (old.getD 0 0) (old.getD 511 0);have q:=(Jw (a:=old.getD 0 0) (b:=old.getD 511 0));have g:=(B9 (old.getD 0 0) (old.getD 511 0));have z:=(λt (E:t<256)=>Cg t d m l body w E bo C u);obtain⟨H,I⟩:=LU.getD 0;obtain⟨J,K⟩:=LU.getD 511;generalize old.getD 0 0=x at*;generalize old.getD 511 0=y at*;generalize cD x y=t at*;go_in;go_wp2;go_loopw [6] (λi wr=>∃k:Nat,k<=t/\i=iV k/\wr=w) (λi _=>t-(intOf i).toNat);case atStart=>exact⟨0,dU _,rfl,rfl⟩
 case round=>
  obtain⟨k,G,rfl,rfl⟩:=hrel;by_cases bm:k<t
  .by_cases f:(k:Int)=x
   .have p:(x == (k:Int))=true:=(by rw [beq_iff_eq];exact f.symm);go_wp2;go_roundw;case rel=>exact⟨k+1,by omega,by go_num,trivial⟩
    case measure=>simp [intOf];omega
   .have s:=(q k bm).resolve_left f;have p:(x == (k:Int))=false:=(by rw [eG];exact λh=>f h.symm);have F:(y == (k:Int))=true:=(by rw [beq_iff_eq];exact s.symm);go_wp2;go_roundw;case rel=>exact⟨k+1,by omega,by go_num,trivial⟩
    case measure=>simp [intOf];omega
  .obtain rfl:k=t:=(by omega);have p:(x == (k:Int))=false:=(by rw [eG];exact λh=>g.1 h.symm);have F:(y == (k:Int))=false:=(by rw [eG];exact λh=>g.2 h.symm);go_wp2_with fail;refine(z k (by omega)).mono ?_;rintro e w1 ⟨v,rfl,D,aq⟩;go_wp2;go_ret2;exact⟨v,rfl,aF D aq⟩
theorem cT {a:Option Addr} (h:Src w a n l) (c:0<n):∃b o,a=some (aD b o):=by
 cases a with
 |none=>have:=h.2.1 rfl;omega
 |some x=>
  obtain⟨b,o,rfl,_⟩:=h.spot c;exact⟨b,o,rfl⟩
theorem Qx (a:Option Addr) (n c:Nat) (old:List Int) (d:Option Addr) (m f:Nat) (body:List Int) (w:World) (i:Src w a n old) (bo:Src w d m body) (k:Bytes body):
  Calls prog 236 #[.slice a n c, .slice d m f] w λe w'=>∃v,e= .returned (.tuple #[v,iV (((gg old body).2:Nat):Int)])/\xy w' w.heap.size v (gg old body).1/\bW w w':=by
 have r:=i.1;have s:=bo.1;by_cases j:n=512
 .subst j;obtain⟨b,o,rfl⟩:=cT i (by omega);by_cases q:504<m
  .refine(Qs b o c old d m f w i q).mono ?_;rintro e w' ⟨rfl,iD⟩;have e:gg old body=([],7):=(by unfold gg;rw [aA (by omega),aE (by omega)]);rw [e];exact⟨_,rfl,xy.nil _ _,iD⟩
  .refine(UZ b o c old d m f body w i bo (by omega) k).mono ?_;rintro e w' ⟨g,rfl,aZ,l,iD⟩;have e:gg old body=(be (cD (old.getD 0 0) (old.getD 511 0)) body,0):=(by unfold gg;rw [aA (by omega),aA (by omega)]);rw [e];have p:(be (cD (old.getD 0 0) (old.getD 511 0)) body).length=512:=fj (by omega);have:=aZ.lst l;rw [p] at this;exact⟨_,rfl,this,iD⟩
 .refine(Qr a n c d m f w j).mono ?_;rintro e w' ⟨rfl,iD⟩;have e:gg old body=([],2):=by unfold gg;rw [aE (by omega)]
  rw [e];exact⟨_,rfl,xy.nil _ _,iD⟩
theorem qF (a:Option Addr) (n c:Nat) (old:List Int) (d:Option Addr) (m f:Nat) (body:List Int) (w:World) (g:Src w a n old) (bo:Src w d m body) (j:Bytes body) (LU:Bytes old):
  Calls prog 178 #[.slice a n c, .slice d m f] w λe w'=>∃v,e= .returned (.tuple #[v,iV (((gg old body).2:Nat):Int)])/\Own w' w.heap.size v (gg old body).1/\bW w w':=by
 have p:=g.1;have q:=bo.1;by_cases i:n=512
 .subst i;obtain⟨b,o,rfl⟩:=cT g (by omega);by_cases k:504<m
  .refine(M0 (some (aD b o)) c d m f w k).mono ?_;rintro e w' ⟨rfl,rfl⟩;have e:gg old body=([],7):=(by unfold gg;rw [aA (by omega),aE (by omega)]);rw [e];exact⟨_,rfl,Own.nil _ _,bi _ _⟩
  .refine(Qw b o c old d m f body w g bo (by omega) j LU).mono ?_;rintro e w' ⟨v,rfl,l,iD⟩;have e:gg old body=(be (cD (old.getD 0 0) (old.getD 511 0)) body,0):=(by unfold gg;rw [aA (by omega),aA (by omega)]);rw [e];exact⟨_,rfl,l,iD⟩
 .refine(MZ a n c d m f w i).mono ?_;rintro e w' ⟨rfl,rfl⟩;have e:gg old body=([],2):=by unfold gg;rw [aE (by omega)]
  rw [e];exact⟨_,rfl,Own.nil _ _,bi _ _⟩
theorem Qy (a b:Option Addr) (n m c d:Nat) (w:World) (h:n≠m):
  Calls prog 228 #[.slice a n c, .slice b m d] w λe w'=>e= .returned (.bool false)/\w'=w:=by
 have f:(((n:Int)) != (m:Int))=true:=by rw [fT];omega
 go_in;go_wp2;go_ret;exact⟨rfl,rfl⟩
theorem M1 (b o m p:Nat) (n c d:Nat) (l a:List Int) (w:World) (z:n<=140737488355328) (v:l.length=n) (MS:a.length=n) (r:∀i,i<n->w.cell? ⟨b,o+i,none⟩=some (.int .u8 (l.getD i 0))) (s:∀i,i<n->w.cell? ⟨m,p+i,none⟩=some (.int .u8 (a.getD i 0))):
  Calls prog 228 #[.slice (some (aD b o)) n c, .slice (some (aD m p)) n d] w λe w'=>e= .returned (.bool (decide (l=a)))/\bW w w':=by
 go_in;go_wp2;go_loopw [5] (λi wr=>∃k:Nat,k<=n/\i=iV k/\l.take k=a.take k/\bW w wr) (λi _=>n-(intOf i).toNat);case atStart=>exact⟨0,dU _,rfl,by simp,bi _ _⟩
 case round=>
  obtain⟨k,u,rfl,pz,f⟩:=hrel;have U3:=yh pz;by_cases bm:k<n
  .have q:=cell_later f ((yh r).out k bm);have t:=cell_later f ((yh s).out k bm);have cw:(k:Int)<(n:Int):=(by omega);by_cases g:l.getD k 0=a.getD k 0
   .have j:=yh (DB U3.o (by omega) (by omega) g);rw [g] at q;generalize a.getD k 0=x at*;go_wp2;go_quiet (fail);go_wp2;go_roundw;case rel=>exact⟨k+1,by omega,by go_num,j.o,below_drewN f _⟩
    case measure=>simp [intOf];omega
   .have dG:=Js g;have hd:Yh (decide (l=a)=false):=(by show decide (l=a)=false;simp [dG]);have LV:((l.getD k 0) != (a.getD k 0))=true:=(by rw [fT];exact g);generalize a.getD k 0=x at*;generalize l.getD k 0=y at*;go_wp2;go_quiet (fail);go_wp2;go_ret;exact⟨by rw [hd.out];rfl,below_drewN f _⟩
  .have cw:¬(k:Int)<(n:Int):=(by omega);have hd:Yh (decide (l=a)=true):=by
    have:=U3.o;rw [nh (by omega),nh (by omega)] at this;show decide (l=a)=true;simp [this]
   go_wp2;go_ret;exact⟨by rw [hd.out];rfl,f⟩
theorem Jy (a b:Option Addr) (c d:Nat) (w:World):
  Calls prog 228 #[.slice a 0 c, .slice b 0 d] w λe w'=>e= .returned (.bool true)/\w'=w:=by
 go_in;go_wp2;refine wp_loop_rounds 1 ?_;rw [rounds_succ];go_wp2;go_ret;exact⟨rfl,rfl⟩
theorem M2 (a b:Option Addr) (n m c d:Nat) (l i:List Int) (w:World) (q:n<=140737488355328) (f:Src w a n l) (g:Src w b m i):
  Calls prog 228 #[.slice a n c, .slice b m d] w λe w'=>e= .returned (.bool (decide (l=i)))/\bW w w':=by
 by_cases wP:n=m
 .subst wP;by_cases h0:n=0
  .subst h0;have o:=List.eq_nil_of_length_eq_zero f.1;have p:=List.eq_nil_of_length_eq_zero g.1;subst o p;exact(Jy a b c d w).mono (by rintro e w' ⟨rfl,rfl⟩;exact⟨rfl,bi _ _⟩)
  .cases a with
   |none=>exact absurd (f.2.1 rfl) h0
   |some x=>
    cases b with
    |none=>exact absurd (g.2.1 rfl) h0
    |some y=>
     obtain⟨j,t,rfl,r⟩:=f.spot (by omega);obtain⟨k,u,rfl,s⟩:=g.spot (by omega);exact M1 j t k u n c d l i w q f.1 g.1 r s
 .have hd:decide (l=i)=false:=by
   have:l≠i:=λe=>wP (by rw [<-f.1,<-g.1,e]);simp [this]
  rw [hd];exact(Qy a b n m c d w wP).mono (by rintro e w' ⟨rfl,rfl⟩;exact⟨rfl,bi _ _⟩)
theorem yH (h:s.length≠512):aR s=([],2):=by unfold aR;rw [aE h]
theorem kx (h:s.length=512) (a:fv s=none):aR s=([],30):=by unfold aR;rw [aA (by omega),a]
theorem pD {b:List Int} (h:s.length=512) (a:fv s=some b):aR s=(b,0):=by unfold aR;rw [aA (by omega),a]
theorem Cj (a:dM s<=504) (b:s.getD 0 0<=2) (c:be (s.getD 0 0) (dH s)=s):fv s=some (dH s):=by unfold fv;rw [aE ⟨a,b,c⟩]
theorem tA (h:¬(dM s<=504/\s.getD 0 0<=2/\be (s.getD 0 0) (dH s)=s)):fv s=none:=by unfold fv;rw [aA h]
theorem DH (h:Bytes s):((dM s:Nat):Int)=s.getD 1 0+256*s.getD 2 0:=by
 have a:=h.getD 1;have b:=h.getD 2;unfold dM;omega
theorem M3 (a:Option Addr) (n c:Nat) (w:World) (d:n≠512):
  Calls prog 198 #[.slice a n c] w λe w'=>e= .returned (.tuple #[.slice none 0 0,iV 2])/\bW w w':=by
 have b:(((n:Int)) != 512)=true:=by rw [fT];omega
 go_in;go_wp2;go_ret2;exact⟨rfl,(yh (bi w.heap.size w)).out⟩
theorem Cl (b o c:Nat) (s:List Int) (w:World) (A:Src w (some (aD b o)) 512 s) (m:Bytes s):
  Calls prog 198 #[.slice (some (aD b o)) 512 c] w λe w'=>∃v,e= .returned (.tuple #[v,iV (((aR s).2:Nat):Int)])/\Own w' w.heap.size v (aR s).1/\bW w w':=by
 have wQ:=A.1;have a:=λi hi=>by have:=A.2.2 _ rfl i hi;rwa [aK] at this
 have l:=a 0 (by omega);rw [Nat.add_zero] at l;have L:=a 1 (by omega);have M:=a 2 (by omega);have Di:bW w w:=bi _ w;have J:=DH m;have u:=m.getD 0;have y:=m.getD 1;have z:=m.getD 2;obtain⟨p,rl⟩:=bQ (s.getD 0 0);obtain⟨q,jA⟩:=bQ (s.getD 1 0);obtain⟨r,l8⟩:=bQ (s.getD 2 0);obtain⟨N,I⟩:=bQ (dM s);rw [<-jA,<-l8,<-I] at J;rw [<-rl] at l u;rw [<-jA] at L y;rw [<-l8] at M z;obtain⟨W,X,Y,Z,h20,h21,K,C,f,D,S⟩:=LH u.1 u.2 y.1 y.2 z.1 z.2 (yh a) (yh (λj=>below_drewN Di j)) (yh rl) (yh I) (yh A);clear a rl jA l8 I A Di u y z;by_cases M4:504<N\/2<p
 .have iZ:=kx wQ (tA (λh=>by rw [<-D.o,<-f.o] at h;omega));have nS:=yh iZ;clear iZ;by_cases aq:504<N
  .have acs:504<q+256*r:=(by omega);go_in;go_wp2;go_quiet (fail);go_wp2;go_ret2;exact⟨_,by rw [nS.o];rfl,by rw [nS.o];exact Own.nil _ _,C.o _⟩
  .have acs:¬504<q+256*r:=(by omega);have aW:2<p:=(by omega);go_in;go_wp2;go_quiet (fail);go_wp2;go_ret2;exact⟨_,by rw [nS.o];rfl,by rw [nS.o];exact Own.nil _ _,C.o _⟩
 .have acs:¬504<q+256*r:=by omega
  have aW:¬2<p:=by omega
  go_in;go_wp2;go_quiet (fail);go_wp2;go_loopw [5,6] (λv i wr=>∃k:Nat,k<=N/\i=iV k/\Own wr w.heap.size v ((s.drop 7).take k)/\bW w wr) (λ_ i _=>N-(intOf i).toNat);case atStart=>exact⟨0,dU _,rfl,Own.nil _ _,C.o _⟩
  case round=>
   clear l L M;obtain⟨k,hk,rfl,az,dO⟩:=hrel;have bq:=yh az;have l9:=yh dO;have hz:=dO.size;clear az dO;have sX:(s.drop 7).length=505:=(by simp;omega);by_cases bm:k<N
   .have cw:(k:Int)<q+256*r:=(by omega);have hc:=cell_later l9.o (K.o (7+k) (by omega));have G:=jW (s.drop 7) k (by omega);have O:(s.drop 7).getD k 0=s.getD (7+k) 0:=(by simp [List.getD]);rw [O] at G;have Ci:=yh G;have jT:((s.drop 7).take k).length<=505:=(by rw [List.length_take];omega);clear G O;generalize s.getD (7+k) 0=x at*;go_wp2_with (at_builtin;refine b9 rfl _ _ rfl w.heap.size u5 _ x rfl rfl bq.o ?b1 ?b2 ?_);case b1=>omega
    case b2=>exact hz
    intro v' w' Q eC;have R:Yh (Own w' w.heap.size v' ((s.drop 7).take (k+1))):=(by rw [<-Ci.o];exact Q);have wN:=yh (l9.o.trans (eC.mono (bP _)));clear Q eC bq l9 Ci;go_wp2;go_roundw;case rel=>exact⟨k+1,by omega,by go_num,R.o,wN.o⟩
    case measure=>simp [intOf];omega
   .obtain rfl:k=N:=(by omega);have cw:¬(k:Int)<q+256*r:=(by omega);have H:(s.drop 7).take k=dH s:=(by unfold dH;rw [<-D.o]);rw [H] at bq;have kv:(dH s).length=k:=(by rw [<-H,List.length_take];omega);have ie:Bytes (dH s):=(m.drop _).take _;have E:=yh kv;obtain⟨T,F,rfl,sb,_,_⟩:=bq.o.src;rw [kv] at sb bq⊢;clear kv;have l:=cell_later l9.o (K.o 0 (by omega));rw [Nat.add_zero,<-f.o] at l;obtain⟨t,rfl⟩:∃t:Nat,p=(t:Int):=⟨p.toNat,by omega⟩;have P:=Cg t T k F (dH s) wr (by omega) sb (by omega) ie;clear H sb;go_wp2_with fail;refine P.mono ?_;rintro e w2 ⟨v2,rfl,jo,aW⟩;have jL:(be t (dH s)).length=512:=fj (by rw [E.o];omega);obtain⟨p2,U,rfl,bo,_,_⟩:=jo.src;rw [jL] at*;have eM:=l9.o.trans (aW.mono l9.o.size);have km:=M2 p2 (some (aD b o)) 512 512 U c (be t (dH s)) s w2 (by omega) bo (S.o.later eM);have dE:=yh eM;have iW:=yh (Own.later bq.o aW);clear P jo aW bo eM bq l9;by_cases d:be t (dH s)=s
    .rw [decide_eq_true d] at km;have n:=pD wQ (Cj (by rw [<-D.o];omega) (by rw [<-f.o];omega) (by rw [<-f.o];exact d));have g:=yh n;clear d n;go_wp2_with fail;refine bE km λw3 bz=>?_;obtain⟨fS,act⟩:=bL (dE.o.trans (bz.mono dE.o.size)) (Own.later iW.o bz);clear km bz;go_wp2;go_ret2;exact⟨_,by rw [g.o];rfl,by rw [g.o];exact act.o,fS.o⟩
    .rw [decide_eq_false d] at km;have n:=kx wQ (tA (λh=>d (by have:=h.2.2;rwa [<-f.o] at this)));have g:=yh n;clear d n;go_wp2_with fail;refine bE km λw3 bz=>?_;have fS:=yh (dE.o.trans (bz.mono dE.o.size));clear km bz;go_wp2;go_ret2;exact⟨_,by rw [g.o];rfl,by rw [g.o];exact Own.nil _ _,fS.o⟩
theorem qG (a:Option Addr) (n c:Nat) (s:List Int) (w:World) (f:Src w a n s) (g:Bytes s):
  Calls prog 198 #[.slice a n c] w λe w'=>∃v,e= .returned (.tuple #[v,iV (((aR s).2:Nat):Int)])/\Own w' w.heap.size v (aR s).1/\bW w w':=by
 by_cases d:n=512
 .subst d;obtain⟨b,o,rfl⟩:=cT f (by omega);exact Cl b o c s w f g
 .refine(M3 a n c w d).mono ?_;rintro e w' ⟨rfl,iD⟩;rw [yH (by rw [f.1];exact d)];exact⟨_,rfl,Own.nil _ _,iD⟩
theorem le2 {a b:Int} (c:0<=a) (d:0<=b):((le [a,b]:Nat):Int)=a+256*b:=by
 simp only [le];omega
theorem Xq (h:s.length=512):(s.drop 1).take 2= [s.getD 1 0,s.getD 2 0]:=by
 match s,h with
 |a :: b :: c :: r,_=>rfl
theorem ky {b o:Nat} (h:Src w (some (aD b o)) n l) {m:Nat} (d:i+m<=n):Src w (some ⟨b,o+i,none⟩) m ((l.drop i).take m):=
   ⟨by have:=h.1;simp;omega,(λe=>by cases e),λx c j a=>by
  cases c;have:=h.2.2 _ rfl (i+j) (by omega);rw [aK] at this⊢;rw [Nat.add_assoc,this];simp [List.getD,a]⟩
theorem xz (g o:Nat) (s:List Int) (w:World) (c:Src w (some (aD g o)) 512 s) (a:Bytes s) (M4:504<dM s\/2<s.getD 0 0):
  Calls prog 239 #[.pointer (some (aD g o))] w λe w'=>e= .returned (.tuple #[.slice none 0 0, .bool false])/\w'=w:=by
 have j:=ky c (i:=1) (m:=2) (by omega);have f:=uR g (o+1) 2 2 ((s.drop 1).take 2) w ((a.drop _).take _) j.1 (by omega) (λi p=>by have:=j.2.2 _ rfl i p;rwa [aK] at this);rw [Xq c.1,le2 (a.getD 1).1 (a.getD 2).1,<-(DH a)] at f;have k:=c.2.2 _ rfl 0 (by omega);rw [aK,Nat.add_zero] at k;have d:=a.getD 0;have l:=d.1;have n:=d.2;generalize s.getD 0 0=x at*;generalize dM s=N at*;clear c j d;go_in;go_wp2_with fail;refine(mi g o 1 3 w (by omega) (by omega)).mono ?_;rintro e w' ⟨rfl,b⟩;have ez:=b.symm;subst ez;clear b;go_wp2_with fail;refine bE f λw' b=>?_;have ez:=b.symm;subst ez;clear b f;by_cases r:2<x
 .have T0:3<=x:=by omega
  go_wp2;go_ret2;exact⟨rfl,rfl⟩
 .have T0:¬3<=x:=by omega
  have q:504<(N:Int):=by omega
  go_wp2;go_ret2;exact⟨rfl,rfl⟩
theorem yI {P:Program} {a:Act} {e:Oper} {K:Act->Prop} (c:TypeId) (x:Operand) (j:e.op= .load c x)
    (b o:Nat) (m:a.eval x= .pointer (some (aD b o))) (cs:List Value) (d:TypeDesc) (f:∀w,C w->w.rangeAt b o cs)
    (k:P.underlying c=some d) (hd:d.isRow=true) (g:(P.info? c).map (·.size)=some cs.length) (i:K (a.put e.dst (.agg cs.toArray))):e.quiet P a C K:=
   ⟨_,λw l=>by
  unfold Oper.quietAt execOp;simp only [j,m,Instr.loadAt,Instr.sureAddr,Sem.run_bind,Sem.run_pure,Result.andThen_ok,run_loadVar_mid w b o c cs d (f w l) k hd g];exact⟨rfl,rfl⟩,i⟩
theorem DI {a:Act} {b:Oper} {K:Act->Prop} (x y:Operand) (T:TypeId) (f:b.op= .binOp .eql 211 x y T)
    (l m:List Int) (g:a.eval x= .agg (bs l).toArray) (i:a.eval y= .agg (bs m).toArray) (d:l.length=512) (e:m.length=512) (c:K (a.put b.dst (.bool (decide (l=m))))):b.quiet prog a C K:=
   ⟨_,λw _=>by
  unfold Oper.quietAt execOp;simp only [f,g,i];have:=Qg l m d e w x y;rw [Sem.run_bind,this];exact⟨rfl,rfl⟩,c⟩
theorem zF9 (g o:Nat) (s:List Int) (w:World) (a:Src w (some (aD g o)) 512 s) (c:Bytes s) (j:dM s<=504) (D:s.getD 0 0<=2):
  Calls prog 239 #[.pointer (some (aD g o))] w λe w'=>∃k,e= .returned (.tuple #[.slice (some (aD g k)) (dM s) (dM s), .bool (decide (be (s.getD 0 0) (dH s)=s))])/\(0<dM s->k=o+7)/\bW w w':=by
 have y:=ky a (i:=1) (m:=2) (by omega);have v:=uR g (o+1) 2 2 ((s.drop 1).take 2) w ((c.drop _).take _) y.1 (by omega) (λi A=>by have:=y.2.2 _ rfl i A;rwa [aK] at this);rw [Xq a.1,le2 (c.getD 1).1 (c.getD 2).1,<-(DH c)] at v;have u:=a.2.2 _ rfl 0 (by omega);rw [aK,Nat.add_zero] at u;have I:=c.getD 0;have Qz:∃k,Src w (some (aD g k)) (dM s) (dH s)/\(0<dM s->k=o+7)/\Calls prog 221 #[.pointer (some (aD g o)),iV 7,iV (7+(dM s:Int))] w λe w'=>e= .returned (.slice (some (aD g k)) (dM s) (dM s))/\w'=w:=by
  by_cases h0:dM s=0
  .have IU:=Qh g o 7 w (by omega);refine⟨o,⟨by rw [lE j a.1],(λe=>by cases e),λx D i A=>by omega⟩,λh=>by omega,?_⟩;rw [h0];exact IU
  .have d:=mi g o 7 (7+dM s) w (by omega) (by omega);refine⟨o+7,ky a (i:=7) (m:=dM s) (by omega),λ_=>rfl,?_⟩;have G:7+dM s-7=dM s:=(by omega);rw [G] at d;have H:((7+dM s:Nat):Int)=7+(dM s:Int):=(by omega);rw [H] at d;exact d
 obtain⟨k,C,IV,d⟩:=Qz;obtain⟨t,J⟩:∃t:Nat,s.getD 0 0=(t:Int):=⟨(s.getD 0 0).toNat,by omega⟩;have ie:Bytes (dH s):=(c.drop _).take _;rw [J] at u D⊢;have E:(∀q:pA w,Calls prog 184 #[.int .u8 (t:Int), .slice (some (aD g k)) (dM s) (dM s)] q.to λe w'=>e= .returned (.agg (bs (be t (dH s))).toArray)/\Below q.to.heap.size q.to w'):=
  λq=>oh t (some (aD g k)) (dM s) (dM s) (dH s) q.to (by omega) (C.later q.h) j ie
 have jL:(be t (dH s)).length=512:=fj (by rw [(lE j a.1)];exact j);have A6:∀w',(∃q:pA w,w'=q.to)->w'.rangeAt g o (bs s):=λw' ⟨q,e⟩=>by rw [e];exact lF (a.later q.h)
 have F:∀q:pA w,q.to.cell? (aD g o)=some (.int .u8 (t:Int)):=λq=>cell_later q.h u;obtain⟨n,p,f,r,acu⟩:=ey IV A6 jL a.1 (iY (l:=s) a.1);clear a y I C IV ie jL A6;obtain⟨R,z⟩:=bQ (be t (dH s));rw [<-z] at E f⊢;clear z;generalize dM s=N at*;have tB:¬3<=(t:Int):=by omega
 go_in;go_wp2_with fail;refine(mi g o 1 3 w (by omega) (by omega)).mono ?_;rintro e w' ⟨rfl,b⟩;have ez:=b.symm;subst ez;clear b;go_wp2_with fail;refine bE v λw' b=>?_;have ez:=b.symm;subst ez;clear b v;go_wp2_with fail;refine bE d λw' b=>?_;have ez:=b.symm;subst ez;clear b d;go_wp2_with fail;have dG:=pA.some w;refine wJ (by kernel_rfl) (by kernel_rfl) ?_
 repeat (first|go_big_quiet_skip|(go_big_quiet_want;go_big_quiet_op;first|go_big_quiet_on|(apply Exists.intro;refine⟨λq=>?_,?_⟩;exact Calls.Qa (E q);go_big_quiet_on)))
 go_big_quiet_want
 refine yI 211 _ rfl g o rfl (bs s) _ p underlying211 rfl acu ?_;simp only [Act.put,List.setIfInBounds_toArray,List.set_cons_succ,List.set_cons_zero]
 go_big_quiet_on
 go_big_quiet_want
 refine DI _ _ _ rfl R s rfl rfl f r ?_;simp only [Act.put,List.setIfInBounds_toArray,List.set_cons_succ,List.set_cons_zero]
 go_big_quiet_on
 repeat (go_big_quiet_want;go_big_quiet_op;go_big_quiet_on)
 refine wpQuiet_nil ?_;rintro _ ⟨q,rfl⟩;go_wp2;go_ret2;exact⟨k,rfl,n,q.h⟩
theorem M5 (a:Option Addr) (n c:Nat) (w:World) (b:n≠512):
  Calls prog 225 #[.slice a n c] w λe w'=>e= .returned (.tuple #[.slice none 0 0,iV 2])/\bW w w':=by
 obtain⟨g,d,aU,dI⟩:=cM jc (pC a n c w b) yG yF;generalize bh=Z at*;have bR:Z.all Value.oneCell'=true:=all_oneCell_toArray dI;go_in;go_wp2_with fail;refine bE d λw1 aq=>?_;have bN:(w1.alloc (.cells Z 211)).heap[w1.heap.size]? =some (.cells Z 211 (0,0)):=heap_alloc_new _ _;have dZ:(w1.alloc (.cells Z 211)).there w1.heap.size 0 Z.toList.length:=cE bN (by simp);have bK:bW w (w1.alloc (.cells Z 211)):=aq.alloc aq.size _;have ef:=aq.size;have A8:=(bK.trans ((aa.setCells (F:=λj=>j=w1.heap.size) rfl Z.toList 0 _).below (λj f=>by omega) bK.size));go_wp2_with (refine wpList_store_mid rfl 211 _ _ rfl w1.heap.size 0 Z rfl rfl ?h1 ?h2 bR ?_);case h1=>simpa using dZ
 case h2=>simpa using aU
 go_ret2;exact⟨rfl,A8⟩
theorem M6 (b o c:Nat) (s:List Int) (w:World) (f:Src w (some (aD b o)) 512 s) (U4:Bytes s):
  Calls prog 225 #[.slice (some (aD b o)) 512 c] w λe w'=>∃v,e= .returned (.tuple #[v,iV (((aR s).2:Nat):Int)])/\xy w' w.heap.size v (aR s).1/\bW w w':=by
 obtain⟨D,ed,aU,dI⟩:=cM jc (mj b o c s w f) (iY (l:=s) f.1) (cB s);have jT:(bs s).length=512:=by rw [bs,List.length_map,f.1]
 have mL:=f.1;have bR:=all_oneCell_toArray dI;obtain⟨F,p⟩:=bQ (bs s);rw [<-p] at ed aU dI jT bR;have z:=yh p;clear dI f p;go_in;go_wp2_with fail;refine bE ed λw1 aq=>?_;have bN:(w1.alloc (.cells bh 211)).heap[w1.heap.size]? =some (.cells bh 211 (0,0)):=heap_alloc_new _ _;have dZ:=cE bN cI;rw [<-jT] at dZ;have bK:bW w (w1.alloc (.cells bh 211)):=aq.alloc aq.size _;have ef:=aq.size;have eM:=bK.trans ((aa.setCells (F:=λj=>j=w1.heap.size) rfl F 0 _).below (λj C=>by omega) bK.size);have aZ:=eE (l:=s) bN (by rw [cI,mL]);rw [<-z.o] at aZ;obtain⟨q,dw⟩:=bQ ((w1.alloc (.cells bh 211)).setCells w1.heap.size 0 F);rw [<-dw] at aZ eM;have fJ:Src q (some (aD w1.heap.size 0)) 512 s:=by
  have:=aZ.src (o:=0) (n:=512) (by omega);rwa [List.drop_zero,nh (by omega)] at this
 obtain⟨dE,QA⟩:=bL eM fJ;clear ed bN bK aq aZ eM fJ;go_wp2_with (refine wpList_store_mid rfl 211 _ _ rfl w1.heap.size 0 F.toArray rfl rfl ?h1 ?h2 bR ?_);case h1=>simpa using dZ
 case h2=>simpa using aU
 rw [<-dw];clear dw dZ aU bR;by_cases M4:504<dM s\/2<s.getD 0 0
 .have iZ:=kx mL (tA (λh=>by omega));have nS:=yh iZ;refine(xz w1.heap.size 0 s q QA.o U4 M4).mono ?_;rintro e w' ⟨rfl,t⟩;have ez:=t.symm;subst ez;clear t iZ M4;go_wp2;go_ret2;exact⟨_,by rw [nS.o];rfl,by rw [nS.o];exact xy.nil _ _,dE.o⟩
 .refine(zF9 w1.heap.size 0 s q QA.o U4 (by omega) (by omega)).mono ?_;rintro e y ⟨k,rfl,r,bz⟩;have sb:Src y (some (aD w1.heap.size k)) (dM s) (dH s):=by
   by_cases h0:dM s=0
   .exact⟨lE (by omega) mL,(λe=>by cases e),λx u i A=>by omega⟩
   .rw [r (by omega)];exact ky (QA.o.later bz) (i:=7) (m:=dM s) (by omega)
  have fS:=yh (dE.o.trans (bz.mono dE.o.size));have kv:=lE (s:=s) (by omega) mL;have iG:xy y w.heap.size (.slice (some (aD w1.heap.size k)) (dM s) (dM s)) (dH s):=⟨some (aD w1.heap.size k),dM s,by rw [kv],by rw [kv];exact sb,by omega,λx u=>by cases u;exact ef⟩;have ahO:=yh iG;clear sb iG r bz kv;by_cases a:be (s.getD 0 0) (dH s)=s
  .have g:=pD mL (Cj (by omega) (by omega) a);have d:=yh g;rw [decide_eq_true a];clear a g;go_wp2;go_ret2;exact⟨_,by rw [d.o];rfl,by rw [d.o];exact ahO.o,fS.o⟩
  .have g:=kx mL (tA (λh=>a h.2.2));have d:=yh g;rw [decide_eq_false a];clear a g;go_wp2;go_ret2;exact⟨_,by rw [d.o];rfl,by rw [d.o];exact xy.nil _ _,fS.o⟩
theorem Cn (a:Option Addr) (n c:Nat) (s:List Int) (w:World) (f:Src w a n s) (g:Bytes s):
  Calls prog 225 #[.slice a n c] w λe w'=>∃v,e= .returned (.tuple #[v,iV (((aR s).2:Nat):Int)])/\xy w' w.heap.size v (aR s).1/\bW w w':=by
 by_cases d:n=512
 .subst d;obtain⟨b,o,rfl⟩:=cT f (by omega);exact M6 b o c s w f g
 .refine(M5 a n c w d).mono ?_;rintro e w' ⟨rfl,iD⟩;rw [yH (by rw [f.1];exact d)];exact⟨_,rfl,xy.nil _ _,iD⟩
theorem yJ {old:List Int} (a:old.length=512) (b:body.length<=504):gg old body=(be (cD (old.getD 0 0) (old.getD 511 0)) body,0):=by
 unfold gg;rw [aA (by omega),aA (by omega)]
theorem Own.full {B:Nat} (h:Own w B v l) (h0:0<l.length):∃g c,v= .slice (some (aD g 0)) l.length c/\B<=g/\ay w 5 g c (bs l):=h.U1 h0
def bO (l:List Int):List Int:=if l.length=512 then l else zs 512
theorem aS (l:List Int):(bO l).length=512:=by unfold bO;split;assumption;exact bB 512
theorem gC (h:l.length=512):bO l=l:=by unfold bO;rw [aE h]
theorem tC (a:Option Addr) (n c:Nat) (l:List Int) (w:World) (d:Src w a n l):
  Calls prog 218 #[.slice a n c] w λe w'=>e= .returned (.tuple #[.agg (bs (bO l)).toArray, .bool (decide (n=512))])/\bW w w':=by
 by_cases f:n=512
 .subst f;cases a with
  |none=>have:=d.2.1 rfl;omega
  |some x=>
   obtain⟨b,o,rfl,_⟩:=d.spot (by omega);rw [gC d.1];exact mj b o c l w d
 .have e:bO l=zs 512:=by unfold bO;rw [aA (by rw [d.1];exact f)]
  rw [e,decide_eq_false f];exact pC a n c w f
def cO:Array Value:=(bs (zs 1024)).toArray
theorem FT:(prog.info? 213).map (λi=>(i.zero,i.size))=some (some (.agg cO),1024):=by kernel_rfl
theorem kz (w:World):(zeroValue 213).run prog w= .ok (.agg cO) w:=by
 obtain⟨i,b,a⟩:=Option.map_eq_some_iff.1 FT;simp only [Prod.mk.injEq] at a;simp [zeroValue,typeInfo,b,a.1]
theorem pE:(prog.info? 213).map (·.size)=some 1024:=by
 obtain⟨i,b,a⟩:=Option.map_eq_some_iff.1 FT;simp only [Prod.mk.injEq] at a;rw [b,<-a.2];rfl
theorem cX:cO.size=1024:=by unfold cO;simp only [List.size_toArray,bs,List.length_map,bB]
theorem Dd:∀(c:List Value) (k b:Nat) (a:Array Value),b+k+c.length<=a.size->
    ((c.zipIdx k).foldl (λcs (x:Value×Nat)=>cs.setIfInBounds (b+x.2) x.1) a).toList=a.toList.take (b+k) ++ c ++ a.toList.drop (b+k+c.length)
 | [],k,b,a,h=>by simp
 |v :: r,k,b,a,h=>by
  have d:b+k<a.toList.length:=by simp at h⊢;omega
  rw [List.zipIdx_cons,List.foldl_cons,Dd r (k+1) b _ (by simp at h⊢;omega)];simp only [Array.toList_setIfInBounds];rw [show b+(k+1)=b+k+1 by omega,List.take_set,List.drop_set];rw [aE (by omega),List.take_succ_eq_append_getElem d,List.set_append_right _ _ (by simp;omega)];have:(b+k)-(a.toList.take (b+k)).length=0:=by simp;omega
  rw [this,List.set_cons_zero];simp only [List.length_cons,List.append_assoc,List.cons_append,List.nil_append];congr 4;omega
theorem AT (F a:Array Value) (b:Nat) (h:b+F.size<=a.size):
    (F.zipIdx.foldl (λcs (x:Value×Nat)=>cs.setIfInBounds (b+x.2) x.1) a).toList=a.toList.take b ++ F.toList ++ a.toList.drop (b+F.size):=by
 rw [<-Array.foldl_toList,Array.toList_zipIdx];have:=Dd F.toList 0 b a (by simpa using h);simpa using this
theorem Jz (F G:Array Value) (a:F.size=512) (d:G.size=512) (w:World):
    (Instr.build 213 #[(0, .agg F),(1, .agg G)]).run prog w= .ok (.agg (F ++ G)) w:=by
 obtain⟨i,l,k⟩:=Option.map_eq_some_iff.1 DF;have m:=cX;have c:=AT F cO (0*512) (by omega);have s1:(F.zipIdx.foldl (λcs (x:Value×Nat)=>cs.setIfInBounds (0*512+x.2) x.1) cO).size=1024:=by
  rw [<-Array.length_toList,c];simp;omega
 have j:=AT G (F.zipIdx.foldl (λcs (x:Value×Nat)=>cs.setIfInBounds (0*512+x.2) x.1) cO) (1*512) (by omega);have b:Instr.fill (λi=>some (i*512,512)) cO [(0, .agg F),(1, .agg G)]=some (F ++ G):=by
  have e:(Value.agg F).cells=F:=rfl;have f:(Value.agg G).cells=G:=rfl;simp only [Instr.fill,e,f,a,d,m];rw [aA (by simp),aA (by simp only [ne_eq,not_true,decide_false,Bool.false_or,decide_eq_true_eq];omega)];refine congrArg some ?_;apply Array.ext';rw [j,c];have rB:F.toList.length=512:=by simpa using a
  simp only [Nat.zero_mul,List.take_zero,List.nil_append,Nat.zero_add,Nat.one_mul,a,d];rw [List.take_left' rB,List.drop_eq_nil_of_le (by simp;omega)];simp
 have g:(Value.agg cO).cells=cO:=rfl;simp only [Instr.build,Sem.run_bind,kz,Result.andThen_ok,run_underlying underlying213,g];have ef:(sizeOf 211).run prog w= .ok 512 w:=by simp [sizeOf,typeInfo,l,k]
 rw [ef,Result.andThen_ok,b];rfl
theorem oj {F:List Value} (h:F.length=512):(prog.info? 211).map (·.size)=some F.length:=by rw [DF,h]
theorem mm {b:Array Oper} {rest:List Oper} {c:Oper} {a:Act} {Q:Exit->Act->World->Prop} (FQ:c.guard=none) (x y:Operand) (k:c.op= .build 213 #[(0,x),(1,y)])
    (F G P:Array Value) (l:a.eval x= .agg F) (m:a.eval y= .agg G) (d:F.size=512) (f:G.size=512) (j:P=F ++ G)
    (h:wpList prog b Q rest (a.put c.dst (.agg P)) w):wpList prog b Q (c :: rest) a w:=
 wpList_plain FQ λK g=>by
  subst j;unfold Oper.wp execOp;simp only [k];have e:(#[(0,x),(1,y)]:Array (Nat×Operand)).map (λ(i,o)=>(i,a.eval o))= #[(0, .agg F),(1, .agg G)]:=by simp [l,m]
  rw [e,Sem.run_bind,(Jz F G d f w)];exact g _ _ h
theorem JA (C E:Bool) (F G:List Value) (q:F.length=512) (r:G.length=512) (g:∀v∈F,v.oneCell'=true) (i:∀v∈G,v.oneCell'=true) (x y:Value) (w:World)
    (A2:∀w':World,bW w w'->Calls prog 218 #[x] w' λe Bh=>e= .returned (.tuple #[.agg F.toArray, .bool C])/\bW w' Bh)
    (B7:∀w':World,bW w w'->Calls prog 218 #[y] w' λe Bh=>e= .returned (.tuple #[.agg G.toArray, .bool E])/\bW w' Bh):
  Calls prog 181 #[x,y] w λe w'=>e= .returned (.tuple #[.agg (F.toArray ++ G.toArray), .bool (C && E)])/\bW w w':=by
 cases C
 .have H:=jc;have l:F.toArray.size=512:=by simpa using q
  have m:G.toArray.size=512:=by simpa using r
  have sf:=oj q;have sh:=oj r;have yK:(prog.info? 213).map (·.size)=some (F.toArray ++ G.toArray).size:=by rw [pE];simp;omega
  have QB:=all_oneCell_toArray g;have QC:=all_oneCell_toArray i;have FU:(F.toArray ++ G.toArray).all (·.oneCell')=true:=by
   have:=all_oneCell_toArray (cs:=F ++ G) (λv n=>(List.mem_append.1 n).elim (g v) (i v));simpa using this
  have bK:bW w (w.alloc (.cells cO 213)):=(bi _ w).alloc (bP _) _;have u:=A2 _ bK;have cN:=yh bK;have FV:(w.alloc (.cells cO 213)).heap[w.heap.size]? =some (.cells cO 213 (0,0)):=heap_alloc_new _ _;obtain⟨FW,c⟩:=bL FV B7;have bN:w.heap.size<(w.alloc (.cells cO 213)).heap.size:=by simp
  clear bK A2 B7 FV;go_in;go_wp2_with fail;refine bE u λw1 aq=>?_;have eM:=cN.o.trans (aq.mono cN.o.size);have kB:=(aq.block w.heap.size bN).trans FW.o;have dr:=eM.size;have rY:=iP bN aq.size;have iQ:(w1.alloc (.cells bh 211)).heap[w1.heap.size]? =some (.cells bh 211 (0,0)):=heap_alloc_new _ _;have dZ:=cE iQ cI;rw [<-q] at dZ;have jK:bW w (w1.alloc (.cells bh 211)):=eM.alloc dr _;have sW:=jK.trans ((aa.setCells (F:=λj=>j=w1.heap.size) rfl F 0 _).below (λj t=>by omega) jK.size);have YX:=World.rangeAt_setCells_same (w1.alloc (.cells bh 211)) w1.heap.size 0 F dZ;have yL:((w1.alloc (.cells bh 211)).setCells w1.heap.size 0 F).heap[w.heap.size]? =some (.cells cO 213 (0,0)):=
     ((aa.setCells (F:=λj=>j=w1.heap.size) rfl F 0 _).block w.heap.size (by simp;omega) (by omega)).trans ((heap_alloc_old w1 _ rY).trans kB)
  have ju:((w1.alloc (.cells bh 211)).setCells w1.heap.size 0 F).heap.size=w1.heap.size+1:=by rw [mK];simp
  obtain⟨A,dw⟩:=bQ ((w1.alloc (.cells bh 211)).setCells w1.heap.size 0 F);rw [<-dw] at sW YX yL ju;obtain⟨z,eV,jB,d,FX⟩:=ey (c.o A sW) (yh dw) (yh sW) (yh YX) (yh yL);clear u aq eM kB iQ jK sW YX yL dw c cN FW;go_wp2_with (refine wpList_store_mid rfl 211 _ _ rfl w1.heap.size 0 F.toArray rfl rfl ?h1 ?h2 QB ?_);case h1=>simpa using dZ
  case h2=>simpa using sf
  rw [<-eV.o];refine bE z λb bz=>?_;have Ju:=jB.o.trans (bz.mono jB.o.size);have vP:=(bz.block w.heap.size (by omega)).trans FX.o;have kO:=Ju.size;have Dj:=bz.size;have xA:(b.alloc (.cells bh 211)).heap[b.heap.size]? =some (.cells bh 211 (0,0)):=heap_alloc_new _ _;have JB:=cE xA cI;rw [<-r] at JB;have A8:bW w (b.alloc (.cells bh 211)):=Ju.alloc kO _;have Bq:=A8.trans ((aa.setCells (F:=λj=>j=b.heap.size) rfl G 0 _).below (λj t=>by omega) A8.size);have YY:=World.rangeAt_setCells_same (b.alloc (.cells bh 211)) b.heap.size 0 G JB;have JC:((b.alloc (.cells bh 211)).setCells b.heap.size 0 G).rangeAt w1.heap.size 0 F:=by
   intro j v n;rw [World.cell?_of_block (w:=A) (a:=⟨w1.heap.size,0+j,none⟩)]
   .exact(d.o j v n)
   .exact((aa.setCells (F:=λj=>j=b.heap.size) rfl G 0 _).block w1.heap.size (by simp;omega) (by omega)).trans ((heap_alloc_old b _ (show w1.heap.size<b.heap.size by omega)).trans (bz.block w1.heap.size (by omega)))
  have rA:((b.alloc (.cells bh 211)).setCells b.heap.size 0 G).heap[w.heap.size]? =some (.cells cO 213 (0,0)):=
     ((aa.setCells (F:=λj=>j=b.heap.size) rfl G 0 _).block w.heap.size (by simp;omega) (by omega)).trans ((heap_alloc_old b _ (show w.heap.size<b.heap.size by omega)).trans vP)
  obtain⟨p,tD⟩:=bQ ((b.alloc (.cells bh 211)).setCells b.heap.size 0 G);rw [<-tD] at Bq YY JC rA;have JD:p.there w.heap.size 0 (F.toArray ++ G.toArray).toList.length:=cE rA (by rw [cX];simp;omega);have f:=yh (World.rangeAt_setCells_same p w.heap.size 0 (F.toArray ++ G.toArray).toList JD);obtain⟨M7,IW⟩:=bL (Bq.trans ((aa.setCells (F:=λj=>j=w.heap.size) rfl (F.toArray ++ G.toArray).toList 0 p).below (λj t=>by omega) Bq.size)) tD;have tE:(prog.info? 213).map (·.size)=some (F.toArray ++ G.toArray).toList.length:=by rw [pE];simp;omega
  obtain⟨P,k⟩:=bQ (F.toArray ++ G.toArray);rw [<-k] at yK FU JD f M7 tE;have s:=yh k;clear z bz Ju vP xA A8 Bq rA tD k jB d FX eV;go_wp2_with (first|refine mm rfl _ _ rfl F.toArray G.toArray P rfl rfl l m s.o ?_|refine wpList_store_mid rfl 211 _ _ rfl b.heap.size 0 G.toArray rfl rfl ?h1 ?h2 QC ?_|(rw [<-IW.o];first|refine wpList_load_mid rfl 211 _ rfl w1.heap.size 0 rfl F _ JC underlying211 rfl sf ?_|refine wpList_load_mid rfl 211 _ rfl b.heap.size 0 rfl G _ YY underlying211 rfl sh ?_)|refine wpList_load_mid rfl 211 _ rfl w1.heap.size 0 rfl F _ JC underlying211 rfl sf ?_|refine wpList_load_mid rfl 211 _ rfl b.heap.size 0 rfl G _ YY underlying211 rfl sh ?_|refine wpList_store_mid rfl 213 _ _ rfl w.heap.size 0 P rfl rfl ?h3 ?h4 FU ?_);case h1=>simpa using JB
  case h2=>simpa using sh
  case h3=>simpa using JD
  case h4=>simpa using yK
  have D:P.toList.toArray=(F ++ G).toArray:=by rw [s.o];simp
  exact bodyPost_ret (results_cell_tmp (P:=prog) rfl _ _ w.heap.size P.toList _ _ rfl rfl f.out underlying213 rfl tE) rfl ⟨by rw [D];rfl,M7.out⟩
 .have H:=jc;have l:F.toArray.size=512:=by simpa using q
  have m:G.toArray.size=512:=by simpa using r
  have sf:=oj q;have sh:=oj r;have yK:(prog.info? 213).map (·.size)=some (F.toArray ++ G.toArray).size:=by rw [pE];simp;omega
  have QB:=all_oneCell_toArray g;have QC:=all_oneCell_toArray i;have FU:(F.toArray ++ G.toArray).all (·.oneCell')=true:=by
   have:=all_oneCell_toArray (cs:=F ++ G) (λv n=>(List.mem_append.1 n).elim (g v) (i v));simpa using this
  have bK:bW w (w.alloc (.cells cO 213)):=(bi _ w).alloc (bP _) _;have u:=A2 _ bK;have cN:=yh bK;have FV:(w.alloc (.cells cO 213)).heap[w.heap.size]? =some (.cells cO 213 (0,0)):=heap_alloc_new _ _;obtain⟨FW,c⟩:=bL FV B7;have bN:w.heap.size<(w.alloc (.cells cO 213)).heap.size:=by simp
  clear bK A2 B7 FV;go_in;go_wp2_with fail;refine bE u λw1 aq=>?_;have eM:=cN.o.trans (aq.mono cN.o.size);have kB:=(aq.block w.heap.size bN).trans FW.o;have dr:=eM.size;have rY:=iP bN aq.size;have iQ:(w1.alloc (.cells bh 211)).heap[w1.heap.size]? =some (.cells bh 211 (0,0)):=heap_alloc_new _ _;have dZ:=cE iQ cI;rw [<-q] at dZ;have jK:bW w (w1.alloc (.cells bh 211)):=eM.alloc dr _;have sW:=jK.trans ((aa.setCells (F:=λj=>j=w1.heap.size) rfl F 0 _).below (λj t=>by omega) jK.size);have YX:=World.rangeAt_setCells_same (w1.alloc (.cells bh 211)) w1.heap.size 0 F dZ;have yL:((w1.alloc (.cells bh 211)).setCells w1.heap.size 0 F).heap[w.heap.size]? =some (.cells cO 213 (0,0)):=
     ((aa.setCells (F:=λj=>j=w1.heap.size) rfl F 0 _).block w.heap.size (by simp;omega) (by omega)).trans ((heap_alloc_old w1 _ rY).trans kB)
  have ju:((w1.alloc (.cells bh 211)).setCells w1.heap.size 0 F).heap.size=w1.heap.size+1:=by rw [mK];simp
  obtain⟨A,dw⟩:=bQ ((w1.alloc (.cells bh 211)).setCells w1.heap.size 0 F);rw [<-dw] at sW YX yL ju;obtain⟨z,eV,jB,d,FX⟩:=ey (c.o A sW) (yh dw) (yh sW) (yh YX) (yh yL);clear u aq eM kB iQ jK sW YX yL dw c cN FW;go_wp2_with (refine wpList_store_mid rfl 211 _ _ rfl w1.heap.size 0 F.toArray rfl rfl ?h1 ?h2 QB ?_);case h1=>simpa using dZ
  case h2=>simpa using sf
  rw [<-eV.o];refine bE z λb bz=>?_;have Ju:=jB.o.trans (bz.mono jB.o.size);have vP:=(bz.block w.heap.size (by omega)).trans FX.o;have kO:=Ju.size;have Dj:=bz.size;have xA:(b.alloc (.cells bh 211)).heap[b.heap.size]? =some (.cells bh 211 (0,0)):=heap_alloc_new _ _;have JB:=cE xA cI;rw [<-r] at JB;have A8:bW w (b.alloc (.cells bh 211)):=Ju.alloc kO _;have Bq:=A8.trans ((aa.setCells (F:=λj=>j=b.heap.size) rfl G 0 _).below (λj t=>by omega) A8.size);have YY:=World.rangeAt_setCells_same (b.alloc (.cells bh 211)) b.heap.size 0 G JB;have JC:((b.alloc (.cells bh 211)).setCells b.heap.size 0 G).rangeAt w1.heap.size 0 F:=by
   intro j v n;rw [World.cell?_of_block (w:=A) (a:=⟨w1.heap.size,0+j,none⟩)]
   .exact(d.o j v n)
   .exact((aa.setCells (F:=λj=>j=b.heap.size) rfl G 0 _).block w1.heap.size (by simp;omega) (by omega)).trans ((heap_alloc_old b _ (show w1.heap.size<b.heap.size by omega)).trans (bz.block w1.heap.size (by omega)))
  have rA:((b.alloc (.cells bh 211)).setCells b.heap.size 0 G).heap[w.heap.size]? =some (.cells cO 213 (0,0)):=
     ((aa.setCells (F:=λj=>j=b.heap.size) rfl G 0 _).block w.heap.size (by simp;omega) (by omega)).trans ((heap_alloc_old b _ (show w.heap.size<b.heap.size by omega)).trans vP)
  obtain⟨p,tD⟩:=bQ ((b.alloc (.cells bh 211)).setCells b.heap.size 0 G);rw [<-tD] at Bq YY JC rA;have JD:p.there w.heap.size 0 (F.toArray ++ G.toArray).toList.length:=cE rA (by rw [cX];simp;omega);have f:=yh (World.rangeAt_setCells_same p w.heap.size 0 (F.toArray ++ G.toArray).toList JD);obtain⟨M7,IW⟩:=bL (Bq.trans ((aa.setCells (F:=λj=>j=w.heap.size) rfl (F.toArray ++ G.toArray).toList 0 p).below (λj t=>by omega) Bq.size)) tD;have tE:(prog.info? 213).map (·.size)=some (F.toArray ++ G.toArray).toList.length:=by rw [pE];simp;omega
  obtain⟨P,k⟩:=bQ (F.toArray ++ G.toArray);rw [<-k] at yK FU JD f M7 tE;have s:=yh k;clear z bz Ju vP xA A8 Bq rA tD k jB d FX eV;go_wp2_with (first|refine mm rfl _ _ rfl F.toArray G.toArray P rfl rfl l m s.o ?_|refine wpList_store_mid rfl 211 _ _ rfl b.heap.size 0 G.toArray rfl rfl ?h1 ?h2 QC ?_|(rw [<-IW.o];first|refine wpList_load_mid rfl 211 _ rfl w1.heap.size 0 rfl F _ JC underlying211 rfl sf ?_|refine wpList_load_mid rfl 211 _ rfl b.heap.size 0 rfl G _ YY underlying211 rfl sh ?_)|refine wpList_load_mid rfl 211 _ rfl w1.heap.size 0 rfl F _ JC underlying211 rfl sf ?_|refine wpList_load_mid rfl 211 _ rfl b.heap.size 0 rfl G _ YY underlying211 rfl sh ?_|refine wpList_store_mid rfl 213 _ _ rfl w.heap.size 0 P rfl rfl ?h3 ?h4 FU ?_);case h1=>simpa using JB
  case h2=>simpa using sh
  case h3=>simpa using JD
  case h4=>simpa using yK
  have D:P.toList.toArray=(F ++ G).toArray:=by rw [s.o];simp
  exact bodyPost_ret (results_cell_tmp (P:=prog) rfl _ _ w.heap.size P.toList _ _ rfl rfl f.out underlying213 rfl tE) rfl ⟨by rw [D];rfl,M7.out⟩
theorem jl (a:Option Addr) (n c:Nat) (l:List Int) (b:Option Addr) (m d:Nat) (r:List Int) (w:World) (g:Src w a n l) (bo:Src w b m r):
  Calls prog 181 #[.slice a n c, .slice b m d] w λe w'=>e= .returned (.tuple #[.agg (bs (bO l ++ bO r)).toArray, .bool (decide (n=512) && decide (m=512))])/\bW w w':=by
 have h:=JA (decide (n=512)) (decide (m=512)) (bs (bO l)) (bs (bO r)) (by rw [bs,List.length_map,aS]) (by rw [bs,List.length_map,aS]) (cB _) (cB _) (.slice a n c) (.slice b m d) w
    (λw' f=>tC a n c l w' (g.later f)) (λw' f=>tC b m d r w' (bo.later f))
 rw [List.append_toArray,<-iE] at h;exact h
def ip (w:World) (g:Nat) (v:Value) (l:List Int):Prop:=∃a c,v= .slice a l.length c/\Src w a l.length l/\l.length<=c/\∀x,a=some x->x.block=g
theorem ip.nil (w:World) (g:Nat):ip w g (.slice none 0 0) []:=⟨none,0,rfl,⟨rfl,λ_=>rfl,λx a=>by cases a⟩,bP _,λx a=>by cases a⟩
theorem ip.later (h:ip w g v l) (b:bW w w'):ip w' g v l:=by
 obtain⟨a,c,rfl,e,d,f⟩:=h;exact⟨a,c,rfl,e.later b,d,f⟩
theorem ip.lst {B:Nat} (h:ip w g v l) (d:B<=g):xy w B v l:=by
 obtain⟨a,c,rfl,f,b,i⟩:=h;exact⟨a,c,rfl,f,b,λx e=>by rw [i x e];exact d⟩
theorem fg (h:fv s=none\/∃b,fv s=some b/\(b.length<8\/9223372036854775808<=le (b.take 8))):sanchor s=(0, []):=by
 rcases h with h|⟨b,h,a⟩
 .simp [sanchor,h]
 .simp only [sanchor,h];rw [aA (by omega)]
theorem tF {b:List Int} (h:fv s=some b) (a:8<=b.length) (c:le (b.take 8)<9223372036854775808):sanchor s=(le (b.take 8),b.drop 8):=by
 simp only [sanchor,h];rw [aE ⟨a,c⟩]
theorem yM (g o:Nat) (s:List Int) (w:World) (c:Src w (some (aD g o)) 512 s) (p:Bytes s):
  Calls prog 219 #[.pointer (some (aD g o))] w λe w'=>∃v,e= .returned (.tuple #[iV (((sanchor s).1:Nat):Int),v])/\ip w' g v (sanchor s).2/\bW w w':=by
 have mL:=c.1;go_in;go_wp2_with fail;by_cases M4:504<dM s\/2<s.getD 0 0
 .have iZ:sanchor s=(0, []):=fg (.inl (by unfold fv;rw [aA (λh=>by omega)]));have nS:=yh iZ;have b:=xz g o s w c p M4;clear iZ c;refine bE b λw' d=>?_;have ez:=d.symm;subst ez;clear d b;go_wp2;go_ret2;exact⟨_,by rw [nS.o];rfl,by rw [nS.o];exact ip.nil _ _,bi _ _⟩
 .have b:=zF9 g o s w c p (by omega) (by omega);have kv:=lE (s:=s) (by omega) mL;have ie:Bytes (dH s):=(p.drop _).take _;by_cases a:be (s.getD 0 0) (dH s)=s
  .have l7:fv s=some (dH s):=(by unfold fv;rw [aE ⟨by omega,by omega,a⟩]);rw [decide_eq_true a] at b;refine b.mono ?_;by_cases A:dM s<8
   .have iZ:=fg (.inr ⟨_,l7, .inl (by omega)⟩);have nS:=yh iZ;have l:(dM s:Int)<8:=(by omega);clear iZ c l7 a ie;generalize dM s=N at*;rintro e w1 ⟨k,rfl,_,aq⟩;have cN:=yh aq;clear aq b;go_wp2;go_ret2;exact⟨_,by rw [nS.o];rfl,by rw [nS.o];exact ip.nil _ _,cN.o⟩
   .have l:¬(dM s:Int)<8:=(by omega);have sb:∀w1:World,bW w w1->Src w1 (some ⟨g,o+7,none⟩) (dM s) (dH s):=λw1 h=>ky (c.later h) (i:=7) (m:=dM s) (by omega);have M8:((dH s).take 8).length=8:=(by rw [List.length_take];omega);have YZ:=FO (ie.take 8) (by omega);have pz:=λw1 h=>by
     have r:=ky (sb w1 h) (i:=0) (m:=8) (by omega);rw [List.drop_zero] at r;exact uR g (o+7) 8 8 ((dH s).take 8) w1 (ie.take 8) M8 (by omega) (λi q=>by have:=r.2.2 _ rfl i q;rwa [aK,Nat.add_zero] at this)
    have U3:=yh pz;clear pz;obtain⟨M,f⟩:=bQ (le ((dH s).take 8));rw [<-f] at YZ U3;rintro e w1 ⟨k,rfl,j,aq⟩;have xq:=j (by omega);subst xq;have cN:=yh aq;have t:=U3.o w1 aq;clear aq b U3 j;go_wp2_with fail;refine bE t λw' d=>?_;have ez:=d.symm;subst ez;clear d t;by_cases aT:9223372036854775807<M
    .have iZ:=fg (.inr ⟨_,l7, .inr (by omega)⟩);have nS:=yh iZ;have acy:9223372036854775807<(M:Int):=(by omega);clear iZ c l7 a ie f;generalize dM s=N at*;have y:(8:Int)<=(N:Int):=(by omega);go_wp2;go_ret2;exact⟨_,by rw [nS.o];rfl,by rw [nS.o];exact ip.nil _ _,cN.o⟩
    .have kC:sanchor s=(M,(dH s).drop 8):=(by rw [f];exact tF l7 (by omega) (by omega));have JE:=yh kC;have acy:¬9223372036854775807<(M:Int):=(by omega);have sX:((dH s).drop 8).length=dM s-8:=(by simp;omega);have jz:∀(w1:World) (k:Nat),bW w w1->(8<dM s->k=o+7+8)->ip w1 g (.slice (some (aD g k)) (dM s-8) (dM s-8)) ((dH s).drop 8):=by
      intro w1 k h j;refine⟨some (aD g k),dM s-8,by rw [sX],?_,by omega,λx u=>by cases u;rfl⟩;rw [sX];by_cases n:8<dM s
      .rw [j n];have:=ky (sb w1 h) (i:=8) (m:=dM s-8) (by omega);rwa [nh (by omega)] at this
      .exact⟨by omega,(λe=>by cases e),λx u i q=>by omega⟩
     have kR:=yh jz;clear kC c l7 a ie f jz sb sX M8 kv;generalize dM s=N at*;have y:(8:Int)<=(N:Int):=(by omega);go_wp2;go_quiet (fail);by_cases n:N=8
     .subst n;go_wp2;go_ret2;exact⟨_,by rw [JE.o];rfl,by rw [JE.o];exact kR.o _ _ (below_drewN cN.o _) (λh=>by omega),below_drewN cN.o _⟩
     .have z:¬(N:Int)=8:=(by omega);go_wp2;go_ret2;exact⟨_,by rw [JE.o];rfl,by rw [JE.o];exact kR.o _ _ (below_drewN cN.o _) (λh=>by omega),below_drewN cN.o _⟩
  .have iZ:=fg (.inl (by unfold fv;rw [aA (λh=>a h.2.2)]));have nS:=yh iZ;rw [decide_eq_false a] at b;clear iZ c a ie;generalize dM s=N at*;refine b.mono ?_;rintro e w1 ⟨k,rfl,_,aq⟩;have cN:=yh aq;clear aq b;go_wp2;go_ret2;exact⟨_,by rw [nS.o];rfl,by rw [nS.o];exact ip.nil _ _,cN.o⟩
theorem lN {r:List Int} (a:l.length=512) (b:r.length=512):am l r=if (sanchor l).1=0/\(sanchor r).1=0 then (0,0, [],30) else if (sanchor l).1<(sanchor r).1 then (1,(sanchor r).1,(sanchor r).2,0) else (0,(sanchor l).1,(sanchor l).2,0):=by
 unfold am;rw [aA (by omega)]
theorem kn (s:List Int):(sanchor s).1<=9223372036854775807:=by
 unfold sanchor;split
 .simp
 .split
  .next h=>simp only;omega
  .simp
def JF (l r:List Int):Nat->Nat×Nat×List Int
 |0=>(0,0, [])
 |1=>if 0<(sanchor l).1 then (0,(sanchor l).1,(sanchor l).2) else (0,0, [])
 |_+2=>if (if 0<(sanchor l).1 then (0,(sanchor l).1,(sanchor l).2) else (0,0,([]:List Int))).2.1<(sanchor r).1 then (1,(sanchor r).1,(sanchor r).2) else if 0<(sanchor l).1 then (0,(sanchor l).1,(sanchor l).2) else (0,0, [])
theorem U5 {r:List Int} (c:l.length=512) (d:r.length=512):JF l r 2=((am l r).1,(am l r).2.1,(am l r).2.2.1):=by
 rw [lN c d];unfold JF;by_cases b:0<(sanchor l).1
 .simp only [aE b];rw [aA (show¬((sanchor l).1=0/\(sanchor r).1=0) by omega)];by_cases a:(sanchor l).1<(sanchor r).1
  .simp only [aE a]
  .simp only [aA a]
 .simp only [aA b];by_cases a:0<(sanchor r).1
  .simp only [aE a];rw [aA (show¬((sanchor l).1=0/\(sanchor r).1=0) by omega),aE (show (sanchor l).1<(sanchor r).1 by omega)]
  .simp only [aA a];rw [aE (show (sanchor l).1=0/\(sanchor r).1=0 by omega)]
theorem ip.agree (h:ip w g v l) (f:w'.heap[g]? =w.heap[g]?):ip w' g v l:=by
 obtain⟨a,c,rfl,b,j,d⟩:=h;refine⟨a,c,rfl,⟨b.1,b.2.1,λx e i k=>?_⟩,j,d⟩;rw [World.cell?_of_block (w:=w) (by rw [ku,(d x e)];exact f)];exact b.2.2 x e i k
theorem Y0 {a b c:Value} (h:w.heap[g]? =some (.cells #[a,b,c] T (0,0))):
    (((w.setCell ⟨g,0,none⟩ x).setCell ⟨g,1,none⟩ y).setCell ⟨g,2,none⟩ z).heap[g]? =some (.cells #[x,y,z] T (0,0)):=by
 rw [heap_setCell_same _ _ _ _ _ _ (heap_setCell_same _ _ _ _ _ _ (heap_setCell_same _ _ _ _ _ _ h))];rfl
theorem Y5 (h:w.heap[g]? =some (.cells #[x,y,z] T (0,0))):w.rangeAt g 0 [x,y,z]:=by
 intro j v a;rw [Nat.zero_add];exact aj h (by simpa using a)
theorem JG:(prog.info? 217).map (·.size)=some 3:=by kernel_rfl
theorem JH (w:World) (g:Nat) (x y z:Value):aa (λj=>j=g) w (((w.setCell ⟨g,0,none⟩ x).setCell ⟨g,1,none⟩ y).setCell ⟨g,2,none⟩ z):=
   ((aa.setCell (F:=λj=>j=g) (p:=⟨g,0,none⟩) w rfl x).trans (aa.setCell (F:=λj=>j=g) (p:=⟨g,1,none⟩) _ rfl y) (λ_ h=> .inl h)).trans (aa.setCell (F:=λj=>j=g) (p:=⟨g,2,none⟩) _ rfl z) (λ_ h=> .inl h)
def Nw (w:World) (g:Nat) (l r:List Int) (k:Nat) (wr:World):Prop:=
 ∃v,wr.heap[w.heap.size+1]? =some (.cells #[.int .i64 (((JF l r k).1:Nat):Int), .int .i64 (((JF l r k).2.1:Nat):Int),v] 217 (0,0))/\ip wr g v (JF l r k).2.2/\
    (∃x y z,wr.heap[w.heap.size]? =some (.cells #[x,y,z] 217 (0,0)))/\bW w wr
theorem om (g:Nat) (l r:List Int) (w:World) (s:Src w (some (aD g 0)) 512 l) (bo:Src w (some (aD g 512)) 512 r) (R:Bytes l) (T:Bytes r):
  Calls prog 182 #[pQ g] w λe w'=>∃v,e= .returned (.agg #[iV (((am l r).1:Nat):Int),iV (((am l r).2.1:Nat):Int),v])/\ip w' g v (am l r).2.2.1/\bW w w':=by
 obtain⟨J,K⟩:=bL (λw' (F:bW w w')=>yM g 0 l w' (s.later F) R) (λw' (F:bW w w')=>yM g 512 r w' (bo.later F) T);have W:g<w.heap.size:=s.old _ rfl (by omega);have kR:=yh (U5 s.1 bo.1);clear s bo;go_in;go_wp2;go_loopw [8] (λi wr=>∃k:Nat,k<=2/\i=iV k/\Nw w g l r k wr) (λi _=>2-(intOf i).toNat);case atStart=>exact⟨0,dU _,rfl, .slice none 0 0,heap_alloc2_new _ _ _,ip.nil _ _,⟨_,_,_,heap_alloc2_old _ _ _⟩,((bi _ w).alloc (bP _) _).alloc (by simp) _⟩
 case round=>
  obtain⟨k,X,rfl,E⟩:=hrel;obtain rfl|rfl|rfl:k=0\/k=1\/k=2:=by omega
  .obtain⟨v,aZ,iG,jk,dO⟩:=E;have m:=J.out wr dO;have f:=yh (aF aZ (aF iG (aF jk dO)));clear aZ iG jk dO;generalize QD:JF l r 0=S at*;go_wp2_with fail;refine m.mono ?_;rintro e w1 ⟨U,rfl,cm,aq⟩;obtain⟨b,c,d,iA⟩:=cm;subst d;have cm:ip w1 g _ _:=⟨b,c,rfl,iA⟩;clear iA;obtain⟨aZ,iG,⟨n,p,q,jk⟩,dO⟩:=f.o;have i4:=(aq.block _ (kN.1 aZ).1).trans aZ;have kB:=(aq.block _ (kN.1 jk).1).trans jk;have bK:=dO.trans (aq.mono dO.size);have yN:=iG.later aq;obtain⟨Jl,A2,B7,Y6,Pc,A7,M⟩:=nW (aL i4) (bD i4) (bH i4) (ae i4 0) (ae i4 1) (ae i4 2) bK.size;by_cases h0:S.2.1<(sanchor l).1
   .have O8:((S.2.1:Nat):Int)<(((sanchor l).1:Nat):Int):=(by omega);have a:JF l r 1=(0,(sanchor l).1,(sanchor l).2):=by
     rw [<-QD] at h0;have h0:0<(sanchor l).1:=h0;unfold JF;rw [aE h0]
    have fP:=JH w1 (w.heap.size+1) (iV 0) (iV (((sanchor l).1:Nat):Int)) (.slice b (sanchor l).2.length c);have QE:Nw w g l r 1 (((w1.setCell ⟨w.heap.size+1,0,none⟩ (.int .i64 0)).setCell ⟨w.heap.size+1,1,none⟩ (.int .i64 (((sanchor l).1:Nat):Int))).setCell ⟨w.heap.size+1,2,none⟩ (.slice b (sanchor l).2.length c)):=by
     refine⟨_,by rw [a];exact(Y0 (x:=iV 0) (y:=iV (((sanchor l).1:Nat):Int)) (z:= .slice b (sanchor l).2.length c) i4),by rw [a];exact cm.agree (fP.block g (by omega) (by omega)),⟨n,p,q,(fP.block _ (kN.1 kB).1 (by omega)).trans kB⟩,bK.trans (fP.below (λj L=>by omega) bK.size)⟩
    have Y7:=yh QE;generalize (sanchor l).1=A at*;generalize (sanchor l).2.length=D at*;clear m f aZ iG jk dO i4 kB bK yN fP QE cm aq a;go_wp2;go_roundw;case rel=>exact⟨1,by omega,by go_num,Y7.o⟩
    case measure=>simp [intOf]
   .have O8:¬((S.2.1:Nat):Int)<(((sanchor l).1:Nat):Int):=(by omega);have a:JF l r 1=S:=by
     rw [<-QD] at h0⊢;have h0:¬0<(sanchor l).1:=h0;unfold JF;rw [aA h0]
    have QE:Nw w g l r 1 w1:=⟨v,by rw [a];exact i4,by rw [a];exact yN,⟨n,p,q,kB⟩,bK⟩;have Y7:=yh QE;generalize (sanchor l).1=A at*;generalize (sanchor l).2.length=D at*;clear m f aZ iG jk dO i4 kB bK yN QE cm aq a;go_wp2;go_roundw;case rel=>exact⟨1,by omega,by go_num,Y7.o⟩
    case measure=>simp [intOf]
  .obtain⟨v,aZ,iG,jk,dO⟩:=E;have m:=K.out wr dO;have f:=yh (aF aZ (aF iG (aF jk dO)));clear aZ iG jk dO;generalize QD:JF l r 1=S at*;go_wp2_with fail;refine m.mono ?_;rintro e w1 ⟨U,rfl,cm,aq⟩;obtain⟨b,c,d,iA⟩:=cm;subst d;have cm:ip w1 g _ _:=⟨b,c,rfl,iA⟩;clear iA;obtain⟨aZ,iG,⟨n,p,q,jk⟩,dO⟩:=f.o;have i4:=(aq.block _ (kN.1 aZ).1).trans aZ;have kB:=(aq.block _ (kN.1 jk).1).trans jk;have bK:=dO.trans (aq.mono dO.size);have yN:=iG.later aq;obtain⟨Jl,A2,B7,Y6,Pc,A7,M⟩:=nW (aL i4) (bD i4) (bH i4) (ae i4 0) (ae i4 1) (ae i4 2) bK.size;by_cases h0:S.2.1<(sanchor r).1
   .have O8:((S.2.1:Nat):Int)<(((sanchor r).1:Nat):Int):=(by omega);have a:JF l r 2=(1,(sanchor r).1,(sanchor r).2):=by
     rw [<-QD] at h0;unfold JF at h0⊢;rw [aE h0]
    have fP:=JH w1 (w.heap.size+1) (iV 1) (iV (((sanchor r).1:Nat):Int)) (.slice b (sanchor r).2.length c);have QE:Nw w g l r 2 (((w1.setCell ⟨w.heap.size+1,0,none⟩ (.int .i64 1)).setCell ⟨w.heap.size+1,1,none⟩ (.int .i64 (((sanchor r).1:Nat):Int))).setCell ⟨w.heap.size+1,2,none⟩ (.slice b (sanchor r).2.length c)):=by
     refine⟨_,by rw [a];exact(Y0 (x:=iV 1) (y:=iV (((sanchor r).1:Nat):Int)) (z:= .slice b (sanchor r).2.length c) i4),by rw [a];exact cm.agree (fP.block g (by omega) (by omega)),⟨n,p,q,(fP.block _ (kN.1 kB).1 (by omega)).trans kB⟩,bK.trans (fP.below (λj L=>by omega) bK.size)⟩
    have Y7:=yh QE;generalize (sanchor r).1=A at*;generalize (sanchor r).2.length=D at*;clear m f aZ iG jk dO i4 kB bK yN fP QE cm aq a;go_wp2;go_roundw;case rel=>exact⟨2,by omega,by go_num,Y7.o⟩
    case measure=>simp [intOf]
   .have O8:¬((S.2.1:Nat):Int)<(((sanchor r).1:Nat):Int):=(by omega);have a:JF l r 2=S:=by
     rw [<-QD] at h0⊢;unfold JF at h0⊢;rw [aA h0]
    have QE:Nw w g l r 2 w1:=⟨v,by rw [a];exact i4,by rw [a];exact yN,⟨n,p,q,kB⟩,bK⟩;have Y7:=yh QE;generalize (sanchor r).1=A at*;generalize (sanchor r).2.length=D at*;clear m f aZ iG jk dO i4 kB bK yN QE cm aq a;go_wp2;go_roundw;case rel=>exact⟨2,by omega,by go_num,Y7.o⟩
    case measure=>simp [intOf]
  .obtain⟨v,aZ,iG,⟨n,p,q,jk⟩,dO⟩:=E;rw [kR.o] at aZ iG;obtain⟨b,c,d,iA⟩:=iG;subst d;have iG:ip wr g _ _:=⟨b,c,rfl,iA⟩;clear iA
   dsimp only at aZ iG
   generalize Q:(am l r).2.2.1.length=D at*;obtain⟨Jl,A2,B7,wI,iB,cC,Y6,Pc,A7,oT,fP,M⟩:=BU (aL aZ) (bD aZ) (bH aZ) (aL jk) (bD jk) (bH jk) (ae jk 0) (ae jk 1) (ae jk 2) (Y0 (x:=iV (((am l r).1:Nat):Int)) (y:=iV (((am l r).2.1:Nat):Int)) (z:= .slice b D c) jk) (JH wr w.heap.size (iV (((am l r).1:Nat):Int)) (iV (((am l r).2.1:Nat):Int)) (.slice b D c)) dO.size;have fy:=iG.agree (fP.block g (by omega) (by omega));have eM:=dO.trans (fP.below (λj L=>by omega) dO.size);have t:=yh (aF fy eM);have G:=aL oT;have H:=bD oT;have I:=bH oT;clear aZ iG jk dO fP fy eM kR J K;have sV:=yh (Y5 oT);obtain⟨A,u⟩:=bQ ((am l r).1);obtain⟨B,C⟩:=bQ ((am l r).2.1);rw [<-u] at Jl oT t G H I sV;rw [<-C] at A2 oT t G H I sV;obtain⟨N,O⟩:=bL u C;clear u C Q oT;go_wp2;exact bodyPost_ret (gh (P:=prog) rfl _ _ w.heap.size _ _ rfl sV.out underlying217 rfl JG) rfl ⟨.slice b D c,by rw [<-N.o,<-O.o],t.o⟩
theorem eY {P:Program} {b:Func} {p q r s:Tmp} (h:b.results= #[.tmp p, .tmp q, .tmp r, .tmp s]) (a:Array Value) (w:World):
    (results b a).run P w= .ok (.tuple #[a.getD p undef,a.getD q undef,a.getD r undef,a.getD s undef]) w:=by
 simp [results,h]
theorem jY {r:List Int} (h:l.length=512) (a:r.length=512):(prog.info? 213).map (·.size)=some (bs (l ++ r)).length:=by
 rw [pE,bs,List.length_map,dT,h,a]
theorem qH {r:List Int} (h:jX w T g (l ++ r)) (c:l.length=512) (d:r.length=512):Src w (some (aD g 0)) 512 l/\Src w (some (aD g 512)) 512 r:=by
 have jT:(l ++ r).length=1024:=by simp;omega
 have a:=h.src (o:=0) (n:=512) (by omega);have b:=h.src (o:=512) (n:=512) (by omega);rw [List.drop_zero,List.take_left' c] at a;rw [List.drop_left' c,nh (by omega)] at b;exact⟨a,b⟩
theorem FY (a:Option Addr) (n c:Nat) (l:List Int) (s:Option Addr) (m d:Nat) (r:List Int) (w:World) (y:Src w a n l) (bo:Src w s m r) (M:Bytes l) (N:Bytes r):
  Calls prog 191 #[.slice a n c, .slice s m d] w λe w'=>∃v,e= .returned (.tuple #[iV (((am l r).1:Nat):Int),iV (((am l r).2.1:Nat):Int),v,iV (((am l r).2.2.2:Nat):Int)])/\xy w' w.heap.size v (am l r).2.2.1/\bW w w':=by
 obtain⟨S,h1,A9,uS,aU,bR⟩:=kQ kz (jl a n c l s m d r w y bo) y.1 bo.1 (jY (aS l) (aS r)) (all_oneCell_toArray (cB (bO l ++ bO r)));have rB:(bs (bO l ++ bO r)).length=1024:=by rw [bs,List.length_map,dT,aS,aS]
 obtain⟨F,x⟩:=bQ (bs (bO l ++ bO r));rw [<-x] at h1 aU bR rB;have L:=yh x;clear x y bo;go_in;go_wp2_with fail;refine bE h1 λw1 aq=>?_;have bN:(w1.alloc (.cells cO 213)).heap[w1.heap.size]? =some (.cells cO 213 (0,0)):=heap_alloc_new _ _;have dZ:=cE bN cX;rw [<-rB] at dZ;have bK:bW w (w1.alloc (.cells cO 213)):=aq.alloc aq.size _;have ef:=aq.size;have eM:=bK.trans ((aa.setCells (F:=λj=>j=w1.heap.size) rfl F 0 _).below (λj R=>by omega) bK.size);have aZ:=eE (l:=bO l ++ bO r) bN (by rw [cX,dT,aS,aS]);rw [<-L.o] at aZ;obtain⟨Q,dw⟩:=bQ ((w1.alloc (.cells cO 213)).setCells w1.heap.size 0 F);rw [<-dw] at eM aZ;obtain⟨dE,si,eV⟩:=jS eM aZ dw;clear h1 bN bK aq eM aZ dw;by_cases Fd:n=512/\m=512
 .obtain⟨rfl,rfl⟩:=Fd;rw [(gC A9),(gC uS)] at si;obtain⟨s1,s2⟩:=qH si.o A9 uS;have G:=om w1.heap.size l r Q s1 s2 M N;have Du:=lN A9 uS;have km:(am l r).2.1<=9223372036854775807:=by
   have T:=kn l;have U:=kn r;rw [Du];split
   .simp
   .split <;> simp only <;> omega
  have acA:((am l r).2.1=0/\(am l r).1=0/\(am l r).2.2.1= []/\(am l r).2.2.2=30)\/(0<(am l r).2.1/\(am l r).2.2.2=0):=by
   rw [Du];by_cases q:(sanchor l).1=0/\(sanchor r).1=0
   .rw [aE q];exact .inl ⟨rfl,rfl,rfl,rfl⟩
   .rw [aA q];by_cases H:(sanchor l).1<(sanchor r).1
    .rw [aE H];exact .inr ⟨by simp only;omega,rfl⟩
    .rw [aA H];exact .inr ⟨by simp only;omega,rfl⟩
  clear Du si s1 s2;go_wp2_with (refine wpList_store_mid rfl 213 _ _ rfl w1.heap.size 0 F.toArray rfl rfl ?h1 ?h2 bR ?_);case h1=>simpa using dZ
  case h2=>simpa using aU
  rw [<-eV.o];refine G.mono ?_;rintro e i ⟨v,rfl,iG,bz⟩;obtain⟨I,J,O,C⟩:=iG;subst O;have iG:ip i w1.heap.size _ _:=⟨I,J,rfl,C⟩;have jK:=dE.o.trans (bz.mono dE.o.size);have k:=yh (λw' (h:bW i w')=>aF ((iG.lst ef).later h) (jK.trans (h.mono jK.size)));obtain⟨A,p⟩:=bQ ((am l r).1);obtain⟨B,f⟩:=bQ ((am l r).2.1);obtain⟨D,g⟩:=bQ ((am l r).2.2.1);obtain⟨E,u⟩:=bQ ((am l r).2.2.2);rw [<-p,<-f,<-g,<-u] at acA;rw [<-f] at km;rw [<-g] at k;rw [<-p,<-f,<-g];have b:=yh (aF p (aF f (aF g u)));clear G C iG bz eV dZ aU bR jK dE p f g u;rcases acA with ⟨rfl,rfl,rfl,rfl⟩|⟨Di,rfl⟩
  .go_wp2;exact bodyPost_ret (eY (P:=prog) rfl _ _) rfl ⟨.slice none 0 0,by rw [<-b.o.1,<-b.o.2.1,<-b.o.2.2.2];rfl,by rw [<-b.o.2.2.1];exact xy.nil _ _,(k.o _ ((bi _ i).alloc (bP _) _)).2⟩
  .have abY:((B:Int) == 0)=false:=(by rw [eG];omega);generalize t:D.length=K at*;clear t;go_wp2;go_quiet (fail);go_wp2;exact bodyPost_ret (eY (P:=prog) rfl _ _) rfl ⟨.slice I K J,by rw [<-b.o.1,<-b.o.2.1,<-b.o.2.2.2];rfl,by rw [<-b.o.2.2.1];exact(k.o _ (below_drewN ((bi _ i).alloc (bP _) _) _)).1,(k.o _ (below_drewN ((bi _ i).alloc (bP _) _) _)).2⟩
 .have z:am l r=(0,0, [],2):=by unfold am;rw [aE (by omega)]
  have ie:(decide (n=512) && decide (m=512))=false:=by
   rw [<-Bool.decide_and,decide_eq_false Fd]
  have Pb:=yh z;rw [ie];clear z ie Fd;go_wp2_with (refine wpList_store_mid rfl 213 _ _ rfl w1.heap.size 0 F.toArray rfl rfl ?h1 ?h2 bR ?_);case h1=>simpa using dZ
  case h2=>simpa using aU
  rw [<-eV.o];exact bodyPost_ret (eY (P:=prog) rfl _ _) rfl ⟨.slice none 0 0,by rw [Pb.o];rfl,by rw [Pb.o];exact xy.nil _ _,dE.o⟩
theorem le_top {b:List Int} (a:Bytes b) (h:8<=b.length):le (b.take 8)<9223372036854775808↔b.getD 7 0<=127:=by
 have bm:le (b.take 7)<2 ^ 56:=by
  have:=lg (a.take 7);have c:(b.take 7).length=7:=by rw [List.length_take];omega
  rwa [c] at this
 have d:=a.getD 7;rw [(lq (l:=b) (k:=7) (by omega))];constructor <;> intro h <;> omega
theorem tG {B:List Int} (b:Bytes B) {j:Nat} (a:j<B.length):le (B.drop j)=(B.getD j 0).toNat+256*le (B.drop (j+1)):=by
 rw [List.drop_eq_getElem_cons a];simp [le,List.getD,a]
theorem yO {B:List Int} (a:Bytes B):∀j,le (B.drop j)<=le B
 |0=>bP _
 |j+1=>by
  refine jQ ?_ (yO a j);by_cases b:j<B.length
  .rw [tG a b];omega
  .rw [List.drop_eq_nil_of_le (by omega),List.drop_eq_nil_of_le (by omega)];exact bP _
theorem vT (b o c:Nat) (s:List Int) (w:World) (A:Src w (some (aD b o)) 512 s) (U4:Bytes s):
  Calls prog 197 #[.slice (some (aD b o)) 512 c] w λe w'=>∃v,e= .returned (.tuple #[iV (((sanchor s).1:Nat):Int),v])/\Own w' w.heap.size v (sanchor s).2/\bW w w':=by
 have a:=Cl b o c s w A U4;have mL:=A.1;clear A;cases l7:fv s with
 |none=>
  rw [kx mL l7] at a
  dsimp only at a
  have nS:=yh (fg (.inl l7));clear l7;go_in;go_wp2_with fail;refine a.mono ?_;rintro e w1 ⟨v,rfl,_,aq⟩;have cN:=yh aq;clear a aq;go_wp2;go_ret2;exact⟨_,by rw [nS.o];rfl,by rw [nS.o];exact Own.nil _ _,cN.o⟩
 |some body=>
  have kv:=qD l7 mL;have ie:Bytes body:=by obtain⟨_,_,_,rfl⟩:=oc l7;exact(U4.drop _).take _
  rw [pD mL l7] at a
  dsimp only at a
  by_cases K:body.length<8
  .have iZ:=fg (.inr ⟨_,l7, .inl K⟩);have nS:=yh iZ;have n:(body.length:Int)<8:=(by omega);clear iZ l7;go_in;go_wp2_with fail;refine a.mono ?_;rintro e w1 ⟨v,rfl,d,aq⟩;obtain⟨va,U,rfl,_,_,_⟩:=d.src;have cN:=yh aq;clear a aq d;go_wp2;go_ret2;exact⟨_,by rw [nS.o];rfl,by rw [nS.o];exact Own.nil _ _,cN.o⟩
  .have n:¬(body.length:Int)<8:=(by omega);have DJ:=le_top ie (by omega);by_cases Y:127<body.getD 7 0
   .have iZ:=fg (.inr ⟨_,l7, .inr (by omega)⟩);have nS:=yh iZ;clear iZ l7 DJ;go_in;go_wp2_with fail;refine a.mono ?_;rintro e w1 ⟨v,rfl,d,aq⟩;obtain⟨g,U,rfl,_,k⟩:=d.full (by omega);have f:=k.get (i:=7) (by omega);have cN:=yh aq;have F:(7:Int)<(body.length:Int):=(by omega);clear a aq d k;generalize body.getD 7 0=x at*;generalize body.length=N at*;go_wp2;go_ret2;exact⟨_,by rw [nS.o];rfl,by rw [nS.o];exact Own.nil _ _,cN.o⟩
   .have kC:=tF l7 (by omega) (DJ.2 (by omega));have km:=DJ.2 (by omega);have JE:=yh kC;have M8:(body.take 8).length=8:=(by rw [List.length_take];omega);have Qu:=ie.take 8;clear kC l7 DJ;go_in;go_wp2_with fail;refine a.mono ?_;rintro e w1 ⟨v,rfl,d,aq⟩;obtain⟨g,U,rfl,hg,k⟩:=d.full (by omega);have f:=k.get (i:=7) (by omega);have cN:=yh aq;have E:=yh k;have F:(7:Int)<(body.length:Int):=(by omega);have dr:=aq.size;clear a aq d k;obtain⟨x7,p⟩:=bQ (body.getD 7 0);rw [<-p] at f Y;obtain⟨N,y⟩:=bQ body.length;rw [<-y] at n F kv⊢;clear p;have t:=yh y;clear y K;go_wp2;go_loopw [6,7] (λr i wr=>∃j:Nat,j<=8/\i=iV ((j:Int)-1)/\wr=w1/\r=iV ((le ((body.take 8).drop j):Nat):Int)) (λ_ i _=>(intOf i+1).toNat);case atStart=>exact⟨8,bP _,rfl,rfl,by rw [List.drop_eq_nil_of_le (by omega)];rfl⟩
    case round=>
     clear f;obtain⟨j,hj,rfl,S,rfl⟩:=hrel;have ez:=S.symm;subst ez;clear S;by_cases bm:0<j
     .obtain⟨i,rfl⟩:∃i,j=i+1:=⟨j-1,by omega⟩;have O:=E.o.get (i:=i) (by have:=t.o;omega);have yP:=tG Qu (j:=i) (by omega);have z:=yO Qu i;have J:(body.take 8).getD i 0=body.getD i 0:=(by simp [List.getD,show i<8 by omega]);rw [J] at yP;obtain⟨x,T⟩:∃x:Nat,body.getD i 0=(x:Int):=⟨(body.getD i 0).toNat,by have:=ie.getD i;omega⟩;have l8:x<256:=(by have:=ie.getD i;omega);rw [T] at O yP;simp only [Int.toNat_natCast] at yP;have G:((i+1:Nat):Int)-1=(i:Int):=(by omega);have hiN:(i:Int)<(N:Int):=(by omega);rw [G];generalize L:le ((body.take 8).drop i)=P at*;generalize le ((body.take 8).drop (i+1))=R at*;have uF:((R:Int)*256+(x:Int))=((P:Nat):Int):=(by omega);have hPs:P<9223372036854775808:=(by omega);obtain⟨X,l⟩:=bL L uF;clear yP z J T L G uF;have b1:(R:Int)*256<=9223372036854775807:=(by have:=l.o;omega);go_wp2;go_roundw;case rel=>exact⟨i,by omega,by go_num,trivial,by rw [X.o];exact congrArg (Value.int .i64) (by have:=l.o;omega)⟩
      case measure=>simp [intOf]
     .obtain rfl:j=0:=(by omega);rw [List.drop_zero,show (((0:Nat):Int)-1)= -1 by rfl];generalize Z:le (body.take 8)=M at*;clear Z;go_wp2;go_loopw [8,9] (λv i wx=>∃m:Nat,m<=N-8/\i=iV ((8+m:Nat):Int)/\Own wx w1.heap.size v ((body.drop 8).take m)/\bW w1 wx) (λ_ i _=>N-(intOf i).toNat);case atStart=>exact⟨0,dU _,rfl,Own.nil _ _,bi _ _⟩
      case round=>
       obtain⟨m,hm,rfl,az,lj⟩:=hrel;have bq:=yh az;have T5:=yh lj;have C:=lj.size;clear az lj;have sX:(body.drop 8).length=N-8:=(by rw [List.length_drop,t.o]);by_cases xw:m<N-8
       .have Bm:((8+m:Nat):Int)<(N:Int):=(by omega);have O:=cell_later T5.o (E.o.get (i:=8+m) (by have:=t.o;omega));have u:=jW (body.drop 8) m (by omega);have I:(body.drop 8).getD m 0=body.getD (8+m) 0:=(by simp [List.getD]);rw [I] at u;have Ci:=yh u;have jT:((body.drop 8).take m).length<=504:=(by rw [List.length_take];omega);clear u I;generalize body.getD (8+m) 0=x at*;generalize q:8+m=Q at*;have D:=yh q;clear q;go_wp2_with (at_builtin;refine b9 rfl _ _ rfl w1.heap.size u8 _ x rfl rfl bq.o ?b1 ?b2 ?_);case b1=>omega
        case b2=>exact C
        intro v' w' d eC;have W:Yh (Own w' w1.heap.size v' ((body.drop 8).take (m+1))):=(by rw [<-Ci.o];exact d);have wN:=yh (T5.o.trans (eC.mono (bP _)));clear d eC bq T5 Ci;go_wp2;go_roundw;case rel=>exact⟨m+1,by omega,by have:=D.o;subst this;go_num,W.o,wN.o⟩
        case measure=>have:=D.o;simp [intOf];omega
       .obtain rfl:m=N-8:=(by omega);have Bm:¬((8+(N-8):Nat):Int)<(N:Int):=(by omega);have H:(body.drop 8).take (N-8)=body.drop 8:=nh (by omega);rw [H] at bq;clear H;generalize q:8+(N-8)=Q at*;clear q;go_wp2;go_ret2;exact⟨_,by rw [JE.o];rfl,by rw [JE.o];exact Own.down bq.o dr,cN.o.trans (T5.o.mono dr)⟩
theorem JI (a:Option Addr) (n c:Nat) (b:Option Addr) (m d:Nat) (w:World) (h:n≠512\/m≠512):
  Calls prog 165 #[.slice a n c, .slice b m d] w λe w'=>e= .returned (.tuple #[iV 0,iV 0, .slice none 0 0,iV 2])/\w'=w:=by
 go_in;by_cases g:n=512
 .subst g;have f:(((m:Int)) != 512)=true:=by rw [fT];omega
  go_wp2;exact bodyPost_ret (eY (P:=prog) rfl _ _) rfl ⟨rfl,rfl⟩
 .have f:(((n:Int)) != 512)=true:=by rw [fT];omega
  go_wp2;exact bodyPost_ret (eY (P:=prog) rfl _ _) rfl ⟨rfl,rfl⟩
theorem JJ (b o c:Nat) (l:List Int) (n u d:Nat) (r:List Int) (w:World) (t:Src w (some (aD b o)) 512 l) (bo:Src w (some (aD n u)) 512 r) (H:Bytes l) (I:Bytes r):
  Calls prog 165 #[.slice (some (aD b o)) 512 c, .slice (some (aD n u)) 512 d] w λe w'=>∃v,e= .returned (.tuple #[iV (((am l r).1:Nat):Int),iV (((am l r).2.1:Nat):Int),v,iV (((am l r).2.2.2:Nat):Int)])/\Own w' w.heap.size v (am l r).2.2.1/\bW w w':=by
 have y:=vT b o c l w t H;have Du:=lN t.1 bo.1;have G:=bo;clear t bo;go_in;go_wp2_with fail;refine y.mono ?_;rintro e w1 ⟨K,rfl,tz,aq⟩;have p:=vT n u d r w1 (G.later aq) I;have cN:=aq;have g:=tz;clear y aq tz;obtain⟨A,z⟩:=bQ (sanchor l);obtain⟨B,C⟩:=bQ (sanchor r);rw [<-z] at Du g⊢;rw [<-C] at Du p;have IS:=Du;clear z C Du;go_wp2_with fail;refine p.mono ?_;rintro e M ⟨E,rfl,jo,aW⟩;have dE:=(cN.trans (aW.mono cN.size));have ahS:=(Own.later g aW);have k:=(Own.down jo cN.size);clear p aW jo cN g;by_cases q:A.1=0/\B.1=0
 .have f:am l r=(0,0, [],30):=by rw [IS,aE q]
  obtain⟨D,i⟩:=q;rw [D,i];have a:=f;clear IS D i f;go_wp2;exact bodyPost_ret (eY (P:=prog) rfl _ _) rfl ⟨.slice none 0 0,by rw [a];rfl,by rw [a];exact Own.nil _ _,dE⟩
 .have f:=IS;rw [aA q] at f;by_cases i:A.1<B.1
  .rw [aE i] at f;have a:=f;have m:((A.1:Nat):Int)<((B.1:Nat):Int):=(by omega);have L:((((B.1:Nat):Int)) == 0)=false:=(by rw [eG];omega);clear IS f q i;by_cases j:A.1=0
   .rw [j] at m⊢;generalize bK:B.1=x at*;have cN:=bK;clear bK j;go_wp2;exact bodyPost_ret (eY (P:=prog) rfl _ _) rfl ⟨E,by rw [a];rfl,by rw [a];exact k,dE⟩
   .have J:((((A.1:Nat):Int)) == 0)=false:=(by rw [eG];omega);generalize bK:B.1=x at*;generalize A.1=F at*;clear bK j;go_wp2;exact bodyPost_ret (eY (P:=prog) rfl _ _) rfl ⟨E,by rw [a];rfl,by rw [a];exact k,dE⟩
  .rw [aA i] at f;have a:=f;have m:¬((A.1:Nat):Int)<((B.1:Nat):Int):=(by omega);have J:((((A.1:Nat):Int)) == 0)=false:=(by rw [eG];omega);clear IS f q i;generalize s:A.1=F at*;generalize B.1=x at*;clear s;go_wp2;exact bodyPost_ret (eY (P:=prog) rfl _ _) rfl ⟨K,by rw [a];rfl,by rw [a];exact ahS,dE⟩
theorem mn (a:Option Addr) (n c:Nat) (l:List Int) (f:Option Addr) (m d:Nat) (r:List Int) (w:World) (g:Src w a n l) (bo:Src w f m r) (k:Bytes l) (p:Bytes r):
  Calls prog 165 #[.slice a n c, .slice f m d] w λe w'=>∃v,e= .returned (.tuple #[iV (((am l r).1:Nat):Int),iV (((am l r).2.1:Nat):Int),v,iV (((am l r).2.2.2:Nat):Int)])/\Own w' w.heap.size v (am l r).2.2.1/\bW w w':=by
 by_cases h:n=512/\m=512
 .obtain⟨rfl,rfl⟩:=h;obtain⟨b,o,rfl⟩:=cT g (by omega);obtain⟨i,q,rfl⟩:=cT bo (by omega);exact JJ b o c l i q d r w g bo k p
 .refine(JI a n c f m d w (by omega)).mono ?_;rintro e w' ⟨rfl,rfl⟩;have j:am l r=(0,0, [],2):=by unfold am;rw [aE (by have:=g.1;have:=bo.1;omega)]
  rw [j];exact⟨_,rfl,Own.nil _ _,bi _ _⟩
theorem FZ (l r:List Int):(am l r).2.2.1.length<=512:=by
 have h:∀s:List Int,s.length=512->(sanchor s).2.length<=512:=by
  intro s a;unfold sanchor;cases h:fv s with
  |none=>simp
  |some b=>
   have:=qD h a;simp only;split
   .simp only [List.length_drop];omega
   .simp
 unfold am;split
 .simp
 .next hh=>
  split
  .simp
  .split
   .exact h r (by omega)
   .exact h l (by omega)
theorem iH (w:World) {b:Array Oper} {rest:List Oper} {o:Oper} {a:Act} {Q:Exit->Act->World->Prop}
    (p:o.guard=none) (l c:Operand) (l7:o.op=Op.makeSlice 36 l c) (C:Int) (m n:Nat) (r:a.eval l=iV (m:Int)) (k:a.eval c=iV C) (g:C=(n:Int)) (s:m<=n) (t:n<=140737488355328)
    (j:∀w',jX w' 5 w.heap.size (zs n)->bW w w'->wpList prog b Q rest (a.put o.dst (.slice (some (aD w.heap.size 0)) m n)) w'):
  wpList prog b Q (o :: rest) a w:=by
 refine wpList_plain p λK Br=>?_;obtain⟨i,q,gv,dr,ec⟩:=info_parts fW;subst g;have f:=run_make (P:=prog) w 36 5 i (.int .u8 0) underlying36 q gv .i64 .i64 (m:Int) (n:Int) (by omega) (by omega) (by rw [ec];omega) (by omega);simp only [Int.toNat_natCast,dr,Nat.mul_one] at f;unfold Oper.wp;simp [execOp,l7,r,k,f,Result.andThen];refine Br _ _ (j _ ?_ ?_)
 .have d:=heap_alloc_new w (.cells (madeCells (Value.int .u8 0).cells n) 5);have e:madeCells (Value.int .u8 0).cells n=(bs (zs n)).toArray:=by
   apply Array.ext';have:(Value.int .u8 0).cells= #[Value.int .u8 0]:=rfl;rw [this,toList_madeCells_one];simp [bs,zs]
  rw [e] at d;unfold jX;rw [<-d];simp [e]
 .exact(bi _ w).alloc (bP _) _
theorem U6 (n:Nat):leb 8 n=aQ n:=by
 rw [Cf];simp only [leb,Nat.div_div_eq_div_mul]
theorem LW {B:Nat} {p q:List Int} (h:jX w 5 g (p ++ q)) (a:B<=g) (c:n=(p ++ q).length) (b:n<=maxLen):Own w B (.slice (some (aD g 0)) p.length n) p:=by
 subst c;refine⟨by simp [bs], .inr ⟨g,(p ++ q).length,_,rfl,a,h,by simp,b,by simp [bs],?_⟩⟩;rw [iE];simp [bs]
theorem pF (N:Nat) (a:Option Addr) (n c:Nat) (l:List Int) (w:World) (s:N<9223372036854775808) (b:Src w a n l) (t:n<=496) (tk:a=none->c=0):
  Calls prog 186 #[iV (N:Int), .slice a n c] w λe w'=>∃v,e= .returned v/\Own w' w.heap.size v (aQ N ++ l)/\bW w w':=by
 obtain⟨k,d,gv,dr,ec⟩:=info_parts fW;have g:=b.1;go_in;go_wp2_with (at_make;refine iH _ rfl _ _ rfl _ 8 (8+n) rfl rfl ?c1 ?c2 ?c3 ?_);case c1=>omega
 case c2=>omega
 case c3=>omega
 intro w1 aZ aq;have cm:=DE w.heap.size 0 8 (8+n) N 5 (zs (8+n)) w1 aZ (by omega) (by rw [bB];omega);have r:put (zs (8+n)) 0 (leb 8 N)=aQ N ++ zs n:=by
  rw [U6,put,lM,dN];simp only [List.take_zero,List.nil_append,Nat.zero_add];rw [List.drop_left' (bB 8)]
 rw [r] at cm;go_wp2_with fail;refine oX cm λo acB aX aoG=>?_;have eM:=aq.trans (aX.below (λj f=>by omega) aq.size);have az:=LW acB (bP _) (by rw [dT,dN,bB]) (by unfold maxLen;omega);rw [dN] at az;have aY:o.ownsRow w.heap.size 5 1 (.slice (some (aD w.heap.size 0)) 8 (8+n)) 8 (bs (aQ N)):=by
  have:=az;unfold Own at this;rwa [dN] at this
 have i:=eM.size;cases a with
 |none=>
  have kT:=b.2.1 rfl;subst kT;have vJ:=List.eq_nil_of_length_eq_zero g;subst vJ;have Jl:=tk rfl;subst Jl;go_wp2_with (at_builtin;refine wpList_append_own_none rfl _ _ 36 rfl w.heap.size 5 k 1 underlying36 d _ 8 (bs (aQ N)) rfl aY rfl ?_);go_ret;exact⟨_,rfl,by rw [List.append_nil];exact az,eM⟩
 |some x=>
  have uT:=(λj u (f:(bs l)[j]? =some u)=>show o.cell? (x.add j)=some u by
   obtain⟨YQ,rfl⟩:=fq f;exact cell_later eM (b.2.2 _ rfl j (by omega)))
  have jT:(bs l).length=n:=by rw [bs,List.length_map,g]
  go_wp2_with (at_builtin;refine wpList_append_own _ rfl _ _ 36 rfl w.heap.size 5 k (.int .u8 0) 1 1 underlying36 d gv dr ec rfl (by decide) _ 8 (bs (aQ N)) rfl aY x n c (bs l) rfl ?n0 uT ?n2 ?n3 ?n4 ?n5 ?_);case n0=>omega
  case n2=>exact cB _
  case n3=>unfold maxLen;omega
  case n4=>omega
  case n5=>exact i
  intro y z cJ kU _;rw [<-iE] at cJ;have p:=(DC (m:=aQ N ++ l) cJ (by rw [dT,dN];omega) rfl);go_wp2;go_ret;exact⟨_,rfl,p,eM.grown kU i (λq e=>(aY.lt q e).1)⟩
theorem Co (s n:Nat) (v:Value) (w:World) (c:s<=1):
  Calls prog 183 #[.agg #[iV (s:Int),iV (n:Int),v]] w λe w'=>e= .returned (iV ((if n=0 then 0 else 1-s:Nat):Int))/\bW w w':=by
 have a:=((bi w.heap.size w).alloc (bP _) (.cells #[.int .i64 (s:Int), .int .i64 (n:Int),v] 217));go_in;by_cases h:n=0
 .subst h;go_wp2;go_ret;exact⟨rfl,a⟩
 .have b:((n:Int) == 0)=false:=by rw [eG];omega
  have e:((if n=0 then 0 else 1-s:Nat):Int)=1-(s:Int):=by rw [aA h];omega
  rw [e];go_wp2;go_ret;exact⟨rfl,a⟩
end Go.Proofs.YtenlkgicpllbhaaGreat
