import Derived.Test.YtenlkgicpllbhaaGreatW01
import Derived.Test.YtenlkgicpllbhaaGreatW04
import Derived.Test.YtenlkgicpllbhaaGreatW06
import Derived.Deep.RegionHeld3
set_option maxRecDepth 20000
set_option maxHeartbeats 8000000
set_option linter.all false
namespace Go.Proofs.YtenlkgicpllbhaaGreat
open Go.Proofs.Tryz
open Go.RowKit Go.Maps
variable {S:DS} {rs:List (List Int)} {body d l:List Int} {E P T c g h i j k n p s:Nat} {F G:Nat->Prop} {w w' w1 w2 w3:World}
def gU (l r:List Int):Nat×Nat×Nat:=
 if (am l r).2.2.2≠0\/0<(am l r).2.2.1.length\/(am l r).2.1 / 4294967296<1\/1073741824<(am l r).2.1 / 4294967296\/1073741824<(am l r).2.1%4294967296 then (0,0,6)
 else ((am l r).2.1 / 4294967296,(am l r).2.1%4294967296,0)
theorem Nh (a:Nat) (d:a<9223372036854775808):bits .and .i64 (a:Int) 4294967295=((a%4294967296:Nat):Int):=by
 have b:(BitVec.ofInt 64 (a:Int)).toNat=a:=by rw [BitVec.ofInt_natCast,BitVec.toNat_ofNat];exact Nat.mod_eq_of_lt (by omega)
 have c:(BitVec.ofInt 64 (4294967295:Int)).toNat=2 ^ 32-1:=by decide
 show IntKind.i64.wrap ((BitVec.ofInt 64 (a:Int) &&& BitVec.ofInt 64 (4294967295:Int)).toNat:Int)=_;rw [BitVec.toNat_and,b,c,IntKind.wrap_i64,Nat.and_two_pow_sub_one_eq_mod];omega
theorem JN (h:aP w F p s S) (f:Nat) (n:Int) (aT:S.puts.length+1<=4000000000000) (A:S.fuse≠0) (C:f+1<s) (aq:Bytes (S.now f)) (aW:Bytes (S.now (f+1))):
  Calls prog 152 #[kw p f n] w λe w'=>e= .returned (.tuple #[iV ((gU (S.now f) (S.now (f+1))).1:Int),iV ((gU (S.now f) (S.now (f+1))).2.1:Int),iV ((gU (S.now f) (S.now (f+1))).2.2:Int)])/\aP w' F p s S.read.read/\aa F w w':=by
 have m:=aa.boxed (w:=w) F (.cells #[.pointer (some ⟨p,0,none⟩), .int .i64 f, .int .i64 n] 144);have k:=LZ (h.boxed (.cells #[.pointer (some ⟨p,0,none⟩), .int .i64 f, .int .i64 n] 144)) f n aT A C;have L:=rC (l:=S.now f) (r:=S.now (f+1));have o:=λb H d c I g w1 ed bo=>FY b H d (S.now f) c I g (S.now (f+1)) w1 ed bo aq aW;unfold gU;generalize (am (S.now f) (S.now (f+1))).2.1=N at*;generalize (am (S.now f) (S.now (f+1))).2.2.2=E at*;generalize (am (S.now f) (S.now (f+1))).2.2.1=D at*;generalize (am (S.now f) (S.now (f+1))).1=K at*;have G:(N:Int) / 4294967296=((N / 4294967296:Nat):Int):=by omega
 have z:=Nh N (by omega);have J:N%4294967296<4294967296:=Nat.mod_lt _ (by omega);have O:N / 4294967296<2147483648:=by omega
 generalize N / 4294967296=Q at*;generalize N%4294967296=M at*;by_cases P:E≠0
 .rw [aE (by omega)];go_in;go_wp2_with fail;refine k.mono ?_;rintro e w1 ⟨u,x,rfl,tz,jo,hd,j⟩;obtain⟨b,d,rfl,ed,_⟩:=tz;obtain⟨c,g,rfl,bo,_⟩:=jo;have i:=(m.trans j (λ_ h=> .inl h));go_wp2_with fail;refine(o b _ d c _ g w1 ed bo).mono ?_;rintro e y ⟨v,rfl,⟨q,t,rfl,_,_,_⟩,a⟩;have sj:=(hd.au (aa.ah (λ_=>False) a) (λ_ _ h=>h));go_wp2;go_ret3;exact⟨rfl,sj,i.trans (aa.ah (λ_=>False) a) (λ_ h=>h.elim)⟩
 .obtain rfl:E=0:=by omega
  by_cases R:0<D.length
  .rw [aE (by omega)];go_in;go_wp2_with fail;refine k.mono ?_;rintro e w1 ⟨u,x,rfl,tz,jo,hd,j⟩;obtain⟨b,d,rfl,ed,_⟩:=tz;obtain⟨c,g,rfl,bo,_⟩:=jo;have i:=(m.trans j (λ_ h=> .inl h));go_wp2_with fail;refine(o b _ d c _ g w1 ed bo).mono ?_;rintro e y ⟨v,rfl,⟨q,t,rfl,_,_,_⟩,a⟩;have sj:=(hd.au (aa.ah (λ_=>False) a) (λ_ _ h=>h));go_wp2;go_ret3;exact⟨rfl,sj,i.trans (aa.ah (λ_=>False) a) (λ_ h=>h.elim)⟩
  .obtain rfl:D= []:=List.length_eq_zero_iff.mp (by omega);by_cases T:Q<1
   .rw [aE (by omega)];obtain rfl:Q=0:=(by omega);go_in;go_wp2_with fail;refine k.mono ?_;rintro e w1 ⟨u,x,rfl,tz,jo,hd,j⟩;obtain⟨b,d,rfl,ed,_⟩:=tz;obtain⟨c,g,rfl,bo,_⟩:=jo;have i:=(m.trans j (λ_ h=> .inl h));go_wp2_with fail;refine(o b _ d c _ g w1 ed bo).mono ?_;rintro e y ⟨v,rfl,⟨q,t,rfl,_,_,_⟩,a⟩;have sj:=(hd.au (aa.ah (λ_=>False) a) (λ_ _ h=>h));go_wp2;go_ret3;exact⟨rfl,sj,i.trans (aa.ah (λ_=>False) a) (λ_ h=>h.elim)⟩
   .skip
    by_cases U:1073741824<Q
    .rw [aE (by omega)];go_in;go_wp2_with fail;refine k.mono ?_;rintro e w1 ⟨u,x,rfl,tz,jo,hd,j⟩;obtain⟨b,d,rfl,ed,_⟩:=tz;obtain⟨c,g,rfl,bo,_⟩:=jo;have i:=(m.trans j (λ_ h=> .inl h));go_wp2_with fail;refine(o b _ d c _ g w1 ed bo).mono ?_;rintro e y ⟨v,rfl,⟨q,t,rfl,_,_,_⟩,a⟩;have sj:=(hd.au (aa.ah (λ_=>False) a) (λ_ _ h=>h));go_wp2;go_ret3;exact⟨rfl,sj,i.trans (aa.ah (λ_=>False) a) (λ_ h=>h.elim)⟩
    .skip
     by_cases W:1073741824<M
     .rw [aE (by omega)];go_in;go_wp2_with fail;refine k.mono ?_;rintro e w1 ⟨u,x,rfl,tz,jo,hd,j⟩;obtain⟨b,d,rfl,ed,_⟩:=tz;obtain⟨c,g,rfl,bo,_⟩:=jo;have i:=(m.trans j (λ_ h=> .inl h));go_wp2_with fail;refine(o b _ d c _ g w1 ed bo).mono ?_;rintro e y ⟨v,rfl,⟨q,t,rfl,_,_,_⟩,a⟩;have sj:=(hd.au (aa.ah (λ_=>False) a) (λ_ _ h=>h));go_wp2;go_ret3;exact⟨rfl,sj,i.trans (aa.ah (λ_=>False) a) (λ_ h=>h.elim)⟩
     .skip
      rw [aA (by simp;omega)];go_in;go_wp2_with fail;refine k.mono ?_;rintro e w1 ⟨u,x,rfl,tz,jo,hd,j⟩;obtain⟨b,d,rfl,ed,_⟩:=tz;obtain⟨c,g,rfl,bo,_⟩:=jo;have i:=(m.trans j (λ_ h=> .inl h));go_wp2_with fail;refine(o b _ d c _ g w1 ed bo).mono ?_;rintro e y ⟨v,rfl,⟨q,t,rfl,_,_,_⟩,a⟩;have sj:=(hd.au (aa.ah (λ_=>False) a) (λ_ _ h=>h));go_wp2;go_ret3;exact⟨rfl,sj,i.trans (aa.ah (λ_=>False) a) (λ_ h=>h.elim)⟩
def yS (S:DS) (s f:Nat) (num:Int):Int×DS:=
 let R:=aN (S.now f) (S.now (f+1)) num []
 if R.2.2≠0 then ((R.2.2:Int),S.read.read) else
 let W:=S.read.read.wr s ((f:Int)+(R.1:Int)) 512 R.2.1
 if W.1≠0 then W else W.2.fl s
theorem aw {b:Nat} {o:Obj} (h:w.heap[b]? =some o):b<w.heap.size:=by
 rcases Nat.lt_or_ge b w.heap.size with a|a
 .exact a
 .rw [Array.getElem?_eq_none a] at h;cases h
theorem yT {b:World} (e:∀k,F k->k<w.heap.size) (c:aa F w w2) (d:aa F w2 w3) (i:w3.heap.size<=b.heap.size) (h:aP b (more F w2 w3) p s S):aP b (more F w b) p s S:=by
 have f:=c.size;have g:=d.size;refine h.mono (λk a=>?_) (λk a=>?_)
 .rcases a with a|a
  .exact .inl a
  .exact .inr ⟨by omega,by omega⟩
 .rcases a with a|a
  .have:=e k a;omega
  .exact a.2
theorem Ni (c:∀k,F k->k<w.heap.size) (a:aa F w w2) (b:aa F w2 w3) (h:aP w3 (more F w2 w3) p s S):aP w3 (more F w w3) p s S:=
 yT c a b (bP _) h
theorem kD (l r:List Int) (num:Int) (a:List Int) (h0:(aN l r num a).2.2=0):(aN l r num a).2.1.length=512:=by
 have h:∀(t:Int) (N:Nat),a.length<=496->(be t (aQ N ++ a)).length=512:=λt N hd=>by rw [fj (by rw [dT,dN];omega)]
 revert h0;unfold aN;split
 .intro h0;cases h0
 .split
  .intro h0;cases h0
  .split
   .intro h0;cases h0
   .dsimp only
    split
    .intro h0;cases h0
    .split
     .intro _;exact h _ _ (by omega)
     .intro _;exact h _ _ (by omega)
theorem fL (l r:List Int) (num:Int) (a:List Int):(aN l r num a).1<=1:=by
 unfold aN;split
 .exact dU _
 .split
  .exact dU _
  .split
   .exact dU _
   .dsimp only
    split
    .exact dU _
    .split
     .exact bP _
     .exact dU _
theorem Nj (h:aP w F p s S) (f:Nat) (n:Int) (E T:Nat) (hE:E<=1073741824) (hT:T<=1073741824) (aT:S.puts.length+2<=4000000000000) (hf:S.fuse≠0) (hs:f+1<s) (aq:Bytes (S.now f)) (aW:Bytes (S.now (f+1))):
  Calls prog 105 #[kw p f n,iV (E:Int),iV (T:Int)] w λe w'=>e= .returned (iV (yS S s f ((E:Int)*4294967296+T)).1)/\aP w' (more F w w') p s (yS S s f ((E:Int)*4294967296+T)).2/\aa F w w':=by
 obtain⟨u,bo,A,M⟩:=cM (LZ (h.boxed (.cells #[.pointer (some ⟨p,0,none⟩), .int .i64 f, .int .i64 n] 144)) f n (by omega) hf hs) h.ok.hi (yh h.lt) (yh (aa.boxed (w:=w) F (.cells #[.pointer (some ⟨p,0,none⟩), .int .i64 f, .int .i64 n] 144)));have i:=λl n1 q m n2 r w1 ed bo=>Nf l n1 q (S.now f) m n2 r (S.now (f+1)) none 0 0 [] ((E:Int)*4294967296+T) w1 ed bo aq aW ⟨rfl,λ_=>rfl,λx U=>by cases U⟩ (by intro x U;cases U) (λ_=>rfl) (by omega);have mL:=fL (S.now f) (S.now (f+1)) ((E:Int)*4294967296+T) [];have A9:=kD (S.now f) (S.now (f+1)) ((E:Int)*4294967296+T) [];unfold yS;clear h hf aq aW;obtain⟨R,P⟩:∃R,R=aN (S.now f) (S.now (f+1)) ((E:Int)*4294967296+T) []:=⟨_,rfl⟩;rw [<-P] at mL A9⊢;simp only [<-P] at i;clear P;obtain⟨K,L,X⟩:=R;simp only at mL A9 i⊢;by_cases W:X≠0
 .rw [aE W];have d0:((X:Int) == 0)=false:=by rw [eG];omega
  go_in;go_wp2_with fail;refine u.mono ?_;rintro e w1 ⟨v1,v2,rfl,tz,jo,hd,d⟩;obtain⟨l,q,rfl,ed,_⟩:=tz;obtain⟨m,r,rfl,bo,_⟩:=jo;have g:=i l _ q m _ r w1 ed bo;have y:=yh hd;have z:=yh (M.o.trans d (λ_ h=> .inl h));clear u ed bo hd d i;go_wp2_with fail;refine g.mono ?_;rintro e w2 ⟨v,rfl,⟨I,J,rfl,_,_,_⟩,c⟩;obtain⟨sj,gQ⟩:=bL (y.o.au (aa.ah (λ_=>False) c) (λ_ _ h=>h)) (z.o.trans (aa.ah (λ_=>False) c) (λ_ h=>h.elim));clear g c;go_wp2;go_ret;exact⟨rfl,sj.o.more,gQ.o⟩
 .obtain rfl:X=0:=by omega
  rw [aA W];clear W;have b:=A9 rfl;clear A9;obtain⟨Y,Q⟩:∃Y,Y=(S.read.read.wr s ((f:Int)+(K:Int)) 512 L):=⟨_,rfl⟩;rw [<-Q];have O:=yh Q;clear Q;by_cases G:Y.1≠0
  .rw [aE G];go_in;go_wp2_with fail;refine u.mono ?_;rintro e w1 ⟨v1,v2,rfl,tz,jo,hd,d⟩;obtain⟨l,q,rfl,ed,_⟩:=tz;obtain⟨m,r,rfl,bo,_⟩:=jo;have g:=i l _ q m _ r w1 ed bo;have dF:=yR A.o d;have z:=yh (M.o.trans d (λ_ h=> .inl h));have y:=yh hd;have C:=yh dF;clear u ed bo hd d i dF;go_wp2_with fail;refine g.mono ?_;rintro e w2 ⟨v,rfl,⟨I,J,rfl,fB,_,_⟩,c⟩;have cC:=y.o.au (aa.ah (λ_=>False) c) (λ_ _ h=>h);have gQ:=yh (z.o.trans (aa.ah (λ_=>False) c) (λ_ h=>h.elim));have dF:=(c.block _ (aw C.o)).trans C.o;have Jl:=aL dF;have A2:=bD dF;have t:=uQ cC ((f:Int)+(K:Int)) I _ J L fB (by simpa [DS.read] using (show S.puts.length+1<=4000000000000 by omega));rw [b] at t;have k:=yh dF;clear g c cC fB dF;rw [b];go_wp2_with fail;refine fk t λw3 a aV=>?_;have ma:=yh (gQ.o.trans aV (λ_ h=> .inl h));rw [<-O.o] at a⊢;have U9:=yh (Ni A.o gQ.o aV a);have d1:(Y.1 == 0)=false:=(by rw [eG];exact G);clear a aV t;go_wp2;go_ret;exact⟨rfl,U9.o,ma.o⟩
  .rw [aA G];go_in;go_wp2_with fail;refine u.mono ?_;rintro e w1 ⟨v1,v2,rfl,tz,jo,hd,d⟩;obtain⟨l,q,rfl,ed,_⟩:=tz;obtain⟨m,r,rfl,bo,_⟩:=jo;have g:=i l _ q m _ r w1 ed bo;have dF:=yR A.o d;have z:=yh (M.o.trans d (λ_ h=> .inl h));have y:=yh hd;have C:=yh dF;clear u ed bo hd d i dF;go_wp2_with fail;refine g.mono ?_;rintro e w2 ⟨v,rfl,⟨I,J,rfl,fB,_,_⟩,c⟩;have cC:=y.o.au (aa.ah (λ_=>False) c) (λ_ _ h=>h);have gQ:=yh (z.o.trans (aa.ah (λ_=>False) c) (λ_ h=>h.elim));have dF:=(c.block _ (aw C.o)).trans C.o;have Jl:=aL dF;have A2:=bD dF;have t:=uQ cC ((f:Int)+(K:Int)) I _ J L fB (by simpa [DS.read] using (show S.puts.length+1<=4000000000000 by omega));rw [b] at t;have k:=yh dF;clear g c cC fB dF;rw [b];go_wp2_with fail;refine fk t λw3 a aV=>?_;have ma:=yh (gQ.o.trans aV (λ_ h=> .inl h));rw [<-O.o] at a⊢;have Z:=Dc a (by have:=i9 S.read.read s ((f:Int)+(K:Int)) 512 L;rw [<-O.o] at this;simp only [DS.read] at this;omega);have dF:=(aV.block _ (aw k.o) (λh=>by have:=A.o _ h;omega)).trans k.o;have Jl:=aL dF;have ah0:=yh aV;have H:Y.1=0:=(by simpa using G);rw [H];clear a aV t dF G H;go_wp2_with fail;refine fk Z λw4 D dV=>?_;obtain⟨L0,N⟩:=bL (ma.o.trans dV (λj h=>h.elim .inl (λh=> .inr (jQ gQ.o.size h.1)))) (yT A.o gQ.o ah0.o dV.size D);clear D dV Z;go_wp2;go_ret;exact⟨rfl,N.o,L0.o⟩
theorem QJ (i A X:Nat) (c:A<2 ^ i) (h:A+2 ^ i*X<9223372036854775808):
  bits .or .i64 (A:Int) ((2 ^ i*X:Nat):Int)=((A+2 ^ i*X:Nat):Int):=by
 have q:∀z:Nat,z<18446744073709551616->(BitVec.ofInt 64 (z:Int)).toNat=z:=by
  intro z d;rw [BitVec.toNat_ofInt];omega
 have a:A<18446744073709551616:=by omega
 have b:2 ^ i*X<18446744073709551616:=by omega
 show IntKind.i64.wrap ((BitVec.ofInt 64 (A:Int) |||BitVec.ofInt 64 ((2 ^ i*X:Nat):Int)).toNat:Int)=_;rw [BitVec.toNat_or,q A a,q _ b,Nat.or_comm,<-Nat.two_pow_add_eq_or_of_lt c X,Nat.add_comm];generalize A+2 ^ i*X=Z at*;rw [IntKind.wrap_i64];omega
theorem Cq (a:Bytes l) (h:l.length<=4):le l<9223372036854775808:=by
 have:=lg a;exact iP this (by have:=Nat.pow_le_pow_right (show 0<2 by omega) (show 8*l.length<=32 by omega);omega)
theorem tH (g o k c N:Nat) (T:TypeId) (l:List Int) (w:World) (d:jX w T g l) (q:k<=8) (r:o+k<=l.length):
  Calls prog 242 #[.slice (some (aD g o)) k c,iV (N:Int)] w λe w'=>e= .returned (.tuple #[])/\jX w' T g (put l o (leb k N))/\aa (λj=>j=g) w w'/\w'.heap.size=w.heap.size:=by
 go_in;go_wp2;go_loopw [7] (λi wr=>∃j:Nat,j<=k/\i=iV j/\jX wr T g (put l o (leb j N))/\aa (λj=>j=g) w wr/\wr.heap.size=w.heap.size) (λi _=>k-(intOf i).toNat);case atStart=>exact⟨0,dU _,rfl,by rw [leb,DD];exact d,aa.refl _ _,rfl⟩
 case round=>
  obtain⟨j,n,rfl,aZ,ru,ef⟩:=hrel;by_cases bm:j<k
  .have cw:(j:Int)<(k:Int):=(by omega);have a:=aH j N;have pf:=LP (l:=l) (xs:=leb j N) (o:=o) (by omega);have f:=aZ.cell (i:=o+j) (by omega);have m:=aZ.frozen (o+j);have oT:=aZ.set (o+j) ((N / 2 ^ (8*j)%256:Nat):Int);have e:=FN (l:=l) (xs:=leb j N) (o:=o) (by omega) ((N / 2 ^ (8*j)%256:Nat):Int);rw [a] at e;rw [e,<-iX] at oT;have b:=(ru.trans (aa.setCell (F:=λj=>j=g) (p:=⟨g,o+j,none⟩) wr rfl (.int .u8 ((N / 2 ^ (8*j)%256:Nat):Int))) (λ_ h=> .inl h));go_wp2;go_roundw;case rel=>exact⟨j+1,by omega,by go_num,oT,b,by simpa [World.setCell] using ef⟩
   case measure=>simp [intOf];omega
  .have cw:¬(j:Int)<(k:Int):=(by omega);obtain rfl:j=k:=(by omega);go_wp2
   go_end0
   exact⟨rfl,aZ,ru,ef⟩
theorem oo (b o n c:Nat) (l:List Int) (w:World) (d:Bytes l) (u:l.length=n) (v:n<=4) (g:∀i,i<n->w.cell? ⟨b,o+i,none⟩=some (.int .u8 (l.getD i 0))):
  Calls prog 226 #[.slice (some (aD b o)) n c] w λe w'=>e= .returned (iV ((le l:Nat):Int))/\w'=w:=by
 have m:=yh g;clear g;go_in;go_wp2;go_loopw [3,8] (λr i wr=>∃j:Nat,j<=n/\i=iV j/\wr=w/\r=iV ((le (l.take j):Nat):Int)) (λ_ i _=>n-(intOf i).toNat);case atStart=>exact⟨0,dU _,rfl,rfl,by simp [le]⟩
 case round=>
  obtain⟨j,t,rfl,rfl,rfl⟩:=hrel;by_cases bm:j<n
  .have cw:(j:Int)<(n:Int):=(by omega);have q:=m.o j bm;obtain⟨x,s,jA⟩:∃x:Nat,l.getD j 0=(x:Int)/\x<256:=by
    have:=d.getD j;exact⟨(l.getD j 0).toNat,by omega,by omega⟩
   have io:=lq (l:=l) (k:=j) (by omega);have f:le (l.take j)<2 ^ (8*j):=by
    have:=lg (d.take j);have e:(l.take j).length=j:=(by simp;omega);rwa [e] at this
   have a:le (l.take (j+1))<9223372036854775808:=Cq (d.take _) (by simp;omega);rw [s] at q io;simp only [Int.toNat_natCast] at io;rw [io] at a;have MV:=QJ (8*j) _ x f a;rw [<-io] at MV;have YP:((x:Int)*2 ^ (8*j))=((2 ^ (8*j)*x:Nat):Int):=(by rw [Int.natCast_mul,Int.natCast_pow,Int.mul_comm];rfl);have oS:((2 ^ (8*j)*x:Nat):Int)<9223372036854775808:=(by omega);generalize 2 ^ (8*j)*x=Y at*;generalize le (l.take j)=A at*;clear f a io;go_wp2;go_roundw;case rel=>exact⟨j+1,by omega,by go_num,trivial,by rw [<-(yh MV).out]⟩
   case measure=>simp [intOf];omega
  .have cw:¬(j:Int)<(n:Int):=(by omega);have p:l.take j=l:=nh (by omega);rw [p] at*;go_wp2;go_ret;exact⟨rfl,rfl⟩
structure PC where
 e:Nat
 p:Nat
 i:Nat
 c:Nat
 d:List Int
def PC.zero:PC:=⟨0,0,0,0, []⟩
def jZ (b:List Int):PC:=⟨le (b.take 4),le ((b.drop 4).take 4),le ((b.drop 8).take 2),le ((b.drop 10).take 2),b.drop 12⟩
def cF (l:List Int):PC:=if (aR l).2≠0\/(aR l).1.length<12 then PC.zero else jZ (aR l).1
def PC.ok (q:PC) (E P i c:Nat):Prop:=q.e=E/\q.p=P/\q.i=i/\q.c=c/\0<q.d.length/\(i+1≠c->q.d.length=492)
def kV (R:Nat->PC) (P k:Nat):List Int:=(List.range k).flatMap (λi=>(R (P+i)).d)
theorem mq (R:Nat->PC) (P:Nat):kV R P 0= []:=rfl
theorem iq (R:Nat->PC) (P k:Nat):kV R P (k+1)=kV R P k ++ (R (P+k)).d:=by simp [kV,List.range_succ]
def Rec (R:Nat->PC) (E P c:Nat) (d:List Int):Prop:=1<=c/\c<=17/\(∀i,i<c->(R (P+i)).ok E (P+i) i c)/\d=kV R P c
theorem Rec.count {R:Nat->PC} (h:Rec R E P c d):(R P).c=c:=by
 have:=(h.2.2.1 0 h.1).2.2.2.1;simpa using this
theorem Rec.unique {R:Nat->PC} {c':Nat} {a:List Int} (h:Rec R E P c d) (b:Rec R E P c' a):c=c'/\d=a:=by
 have e:=h.count.symm.trans b.count;subst e;exact⟨rfl,h.2.2.2.trans b.2.2.2.symm⟩
def dC (R:Nat->PC) (E:Nat):Nat->List (List Int)->Nat->Prop
 |P, [],h=>h=P
 |P,d :: ds,h=>∃c,Rec R E P c d/\dC R E (P+c) ds h
theorem dC.nil (R:Nat->PC) (E P:Nat):dC R E P [] P:=rfl
theorem dC.snoc {R:Nat->PC} {E:Nat}:∀{rs:List (List Int)} {P h c:Nat} {d:List Int},dC R E P rs h->Rec R E h c d->dC R E P (rs ++ [d]) (h+c)
 | [],P,h,c,d,a,hr=>by
  have a:h=P:=a;subst a;exact⟨c,hr,rfl⟩
 |x :: xs,P,h,c,d,⟨k,hk,a⟩,hr=>⟨k,hk,dC.snoc a hr⟩
theorem dC.unique {R:Nat->PC} {E:Nat}:∀{rs Ba:List (List Int)} {P h e:Nat},dC R E P rs h->(∀c d,¬Rec R E h c d)->dC R E P Ba e->(∀c d,¬Rec R E e c d)->rs=Ba/\h=e
 | [], [],P,h,e,a,_,b,_=>⟨rfl,(show h=P from a).trans (show e=P from b).symm⟩
 | [],x :: xs,P,h,e,a,hn,⟨k,hk,_⟩,_=>by
  have a:h=P:=a;subst a;exact absurd hk (hn _ _)
 |x :: xs, [],P,h,e,⟨k,hk,_⟩,_,b,hn=>by
  have b:e=P:=b;subst b;exact absurd hk (hn _ _)
 |x :: xs,y :: ys,P,h,e,⟨k,hk,ht⟩,hn,⟨k',xq,ht'⟩,Bk=>by
  obtain⟨rfl,rfl⟩:=hk.unique xq;obtain⟨rfl,rfl⟩:=dC.unique ht hn ht' Bk;exact⟨rfl,rfl⟩
theorem dC.le {R:Nat->PC} {E:Nat}:∀{rs:List (List Int)} {P h:Nat},dC R E P rs h->P<=h
 | [],P,h,a=>Nat.le_of_eq (show h=P from a).symm
 |x :: xs,P,h,⟨k,hk,ht⟩=>by have:=dC.le ht;omega
theorem Rec.at {R:Nat->PC} (h:Rec R E P c d) {q:Nat} (a:P<=q) (b:q<P+c):(R q).p=q:=by
 have:=(h.2.2.1 (q-P) (by omega)).2.1;rwa [show P+(q-P)=q by omega] at this
theorem dC.at {R:Nat->PC} {E:Nat}:∀{rs:List (List Int)} {P h:Nat},dC R E P rs h->∀q,P<=q->q<h->(R q).p=q
 | [],P,h,a,q,h1,h2=>by have a:h=P:=a;omega
 |x :: xs,P,h,⟨k,hk,ht⟩,q,h1,h2=>by
  by_cases b:q<P+k
  .exact hk.at h1 b
  .exact dC.at ht q (by omega) h2
theorem dC.round {R:Nat->PC} (f:1<=n) (e:∀q,R (q+n)=R q) (d:dC R E P rs h):h<=P+n:=by
 rcases Nat.lt_or_ge (P+n) h with c|c
 .have a:=d.at P (bP _) (by omega);have b:=d.at (P+n) (by omega) c;rw [e] at b;omega
 .exact c
theorem dC.length {R:Nat->PC} {E:Nat}:∀{rs:List (List Int)} {P h:Nat},dC R E P rs h->P+rs.length<=h
 | [],P,h,a=>Nat.le_of_eq (show h=P from a).symm
 |x :: xs,P,h,⟨k,hk,ht⟩=>by have:=dC.length ht;have:=hk.1;simp only [List.length_cons];omega
structure Scan (R:Nat->PC) (E T:Nat) (rs:List (List Int)) (h j c:Nat) (d:List Int):Prop where
 t:dC R E T rs h
 p:∀i,i<j->(R (h+i)).ok E (h+i) i c
 c:0<j->1<=c/\c<=17/\j<c
 d:d=kV R h j
theorem Scan.start (R:Nat->PC) (E T:Nat) (c:Nat):Scan R E T [] T 0 c []:=⟨rfl,λi a=>by omega,λh=>by omega,rfl⟩
def nz (R:Nat->PC) (h j c:Nat):Nat:=if j=0 then (R h).c else c
theorem Scan.grow {R:Nat->PC} (s:Scan R E T rs h j c d) (f:(R (h+j)).ok E (h+j) j (nz R h j c)) (a:1<=nz R h j c) (b:nz R h j c<=17) (l:j+1≠nz R h j c) (k:j<nz R h j c):
  Scan R E T rs h (j+1) (nz R h j c) (d ++ (R (h+j)).d):=by
 refine⟨s.t,λi g=>?_,λ_=>⟨a,b,by omega⟩,by rw [s.d,iq]⟩;by_cases e:i=j
 .subst e;exact f
 .have Xc:j≠0:=by omega
  have:=s.p i (by omega);rwa [nz,aA Xc]
theorem Scan.full {R:Nat->PC} (s:Scan R E T rs h j c d) (f:(R (h+j)).ok E (h+j) j (nz R h j c)) (k:nz R h j c<=17) (a:j+1=nz R h j c) (c':Nat):
  Scan R E T (rs ++ [d ++ (R (h+j)).d]) (h+j+1) 0 c' []:=by
 refine⟨?_,λi b=>by omega,λh=>by omega,rfl⟩;have g:Rec R E h (j+1) (d ++ (R (h+j)).d):=by
  refine⟨by omega,by omega,λi b=>?_,by rw [s.d,iq]⟩;by_cases e:i=j
  .subst e;rw [a];exact f
  .have:=s.p i (by omega);have Xc:j≠0:=(by omega);rw [a,nz,aA Xc];exact this
 exact s.t.snoc g
theorem Scan.ends {R:Nat->PC} (s:Scan R E T rs h j c d) (b:¬((R (h+j)).ok E (h+j) j (nz R h j c)/\1<=nz R h j c/\nz R h j c<=17)):∀c d,¬Rec R E h c d:=by
 intro k x a;by_cases e:j=0
 .subst e;refine b ?_;rw [nz,aE rfl,a.count];exact⟨a.2.2.1 0 a.1,a.1,a.2.1⟩
 .have g:=s.c (by omega);have f:k=c:=by rw [<-a.count];simpa using (s.p 0 (by omega)).2.2.2.1
  subst f;refine b ?_;rw [nz,aA e];exact⟨a.2.2.1 j g.2.2,a.1,a.2.1⟩
theorem Scan.at {R:Nat->PC} (s:Scan R E T rs h j c d) (q:Nat) (a:T<=q) (e:q<h+j):(R q).p=q:=by
 by_cases b:q<h
 .exact s.t.at q a b
 .have:=(s.p (q-h) (by omega)).2.1;rwa [show h+(q-h)=q by omega] at this
theorem Scan.round {R:Nat->PC} (g:1<=n) (b:∀q,R (q+n)=R q) (s:Scan R E T rs h j c d) (e:h+j=T+n):∀c d,¬Rec R E h c d:=by
 refine s.ends (λf=>?_);have a:=f.1.2.1;rw [e,b] at a;have:=s.at T (bP _) (by omega);omega
def rtop (R:Nat->PC):Nat->Nat
 |0=>0
 |k+1=>if (R k).e<=1073741824 then max (rtop R k) (R k).e else rtop R k
theorem xC (R:Nat->PC):∀k,rtop R k<=1073741824
 |0=>by simp [rtop]
 |k+1=>by
  have:=xC R k;unfold rtop;split <;> omega
theorem qJ (a:Bytes l) (h:l.length<=k):le l<2 ^ (8*k):=iP (lg a) (Nat.pow_le_pow_right (by omega) (by omega))
theorem L1 (a:Bytes l) (h:l.length<=2):le l<65536:=qJ a (k:=2) h
theorem L3 (a:Bytes l) (h:l.length<=4):le l<4294967296:=qJ a (k:=4) h
theorem pG (a:Bytes l):Bytes (aR l).1:=by
 unfold aR;split
 .exact Bytes.nil
 .split
  .exact Bytes.nil
  .rename_i b h;rw [(oc h).2.2.2];exact(a.drop 7).take _
theorem DN (l:List Int):(aR l).1.length<=504:=by
 unfold aR;split
 .simp
 .split
  .simp
  .rename_i a b h;exact qD h (by omega)
theorem j0 (b:Bytes l):(cF l).e<4294967296/\(cF l).p<4294967296/\(cF l).i<65536/\(cF l).c<65536/\(cF l).d.length<=492/\Bytes (cF l).d:=by
 have a:=pG b;have f:=DN l;unfold cF;split
 .exact⟨by decide,by decide,by decide,by decide,by decide,Bytes.nil⟩
 .exact⟨L3 (a.take _) (by simp;omega),L3 ((a.drop _).take _) (by simp;omega),L1 ((a.drop _).take _) (by simp;omega),L1 ((a.drop _).take _) (by simp;omega),by simp [jZ];omega,a.drop _⟩
section
def DS.DO (S:DS) (r:Int):DS:={S with reads:=r}
def ax (w:World) (F:Nat->Prop) (p s:Nat) (S:DS):Prop:=∃r,aP w F p s (S.DO r)
section
variable {w w':World} {F G:Nat->Prop} {p s:Nat} {S:DS}
theorem ax.ok (h:ax w F p s S):S.Ok s:=by
 obtain⟨r,h⟩:=h;exact⟨h.ok.len,h.ok.lo,h.ok.hi,h.ok.puts,h.ok.fuse⟩
theorem ax.lt (h:ax w F p s S):∀k,F k->k<w.heap.size:=by obtain⟨r,h⟩:=h;exact h.lt
theorem ax.au (h:ax w F p s S) (k:aa G w w') (hd:∀k,F k->¬G k):ax w' F p s S:=by obtain⟨r,h⟩:=h;exact⟨r,h.au k hd⟩
theorem ax.later (h:ax w F p s S) (a:bW w w'):ax w' F p s S:=h.au (aa.ah (λ_=>False) a) (λ_ _ h=>h)
theorem QK (S:DS) (r:Int) (s:Nat) (x:Int) (n:Nat) (l:List Int):(S.DO r).wr s x n l=((S.wr s x n l).1,(S.wr s x n l).2.DO r):=by
 unfold DS.wr;show (if S.fuse=0 then _ else _)=_;split
 .rfl
 .split
  .rfl
  .split <;> rfl
theorem QL (S:DS) (r:Int) (s:Nat):(S.DO r).fl s=((S.fl s).1,(S.fl s).2.DO r):=by
 unfold DS.fl;show (if S.fuse=0 then _ else _)=_;split <;> rfl
theorem Va (S:DS) (r:Int) (k:Nat):(S.DO r).now k=S.now k:=rfl
theorem Vb (S:DS) (r x:Int):(S.DO r).lay x=(S.lay x).DO r:=by
 unfold DS.lay;show (if S.fuse=0 then _ else _)=_;split <;> rfl
theorem pH (h:ax w F p s S):Calls prog 47 #[pQ p] w λe w'=>e= .returned (iV s)/\w'=w:=by
 obtain⟨r,h⟩:=h;exact x9 h
theorem yU (h:ax w F p s S):Calls prog 35 #[pQ p] w λe w'=>e= .returned (.bool (S.fuse == 0))/\w'=w:=by
 obtain⟨r,h⟩:=h;exact ii (S:=S.DO r) h
theorem vV (h:ax w F p s S):Calls prog 22 #[pQ p] w λe w'=>e= .returned (iV S.life)/\w'=w:=by
 obtain⟨r,h⟩:=h;exact UI (S:=S.DO r) h
theorem ot (h:ax w F p s S) (x:Int) (a:S.fuse=0):Calls prog 39 #[pQ p,iV x] w λe w'=>e= .returned (.tuple #[.slice none 0 0,iV 3])/\w'=w:=by
 obtain⟨r,h⟩:=h;exact BY h x a
theorem JO (h:ax w F p s S):Calls prog 33 #[pQ p] w λe w'=>∃g c,e= .returned (.slice (some (aD g 0)) (s*512) c)/\w.heap.size<=g/\ay w' 5 g c (bs S.im)/\bW w w':=by
 obtain⟨r,h⟩:=h;exact MD p s F (S.DO r) w h
def cW (S:DS) (s f:Nat) (num:Int):Int×DS:=
 if S.fuse=0 then (3,S) else
 if (aN (S.now f) (S.now (f+1)) num []).2.2≠0 then (((aN (S.now f) (S.now (f+1)) num []).2.2:Int),S) else
 if (S.wr s ((f:Int)+((aN (S.now f) (S.now (f+1)) num []).1:Int)) 512 (aN (S.now f) (S.now (f+1)) num []).2.1).1≠0 then S.wr s ((f:Int)+((aN (S.now f) (S.now (f+1)) num []).1:Int)) 512 (aN (S.now f) (S.now (f+1)) num []).2.1
 else (S.wr s ((f:Int)+((aN (S.now f) (S.now (f+1)) num []).1:Int)) 512 (aN (S.now f) (S.now (f+1)) num []).2.1).2.fl s
theorem tI (h:ax w F p s S) (f n:Int):Calls prog 103 #[kw p f n] w λe w'=>e= .returned (iV (cq S s f n))/\bW w w':=by
 have a:=h.ok.hi;obtain⟨r,h⟩:=h;exact FM h f n a
end
end
section
structure LG where
 f:Nat
 n:Nat
 life:Int
 begun:Bool
 ep:Nat
 tail:Nat
 head:Nat
 top:Nat
abbrev IX (p:Nat) (L:LG):Array Value:= #[pQ p,iV (L.f:Int),iV (L.n:Int),iV L.life, .bool L.begun,iV (L.ep:Int),iV (L.tail:Int),iV (L.head:Int),iV (L.top:Int)]
def cQ (w:World) (l p:Nat) (L:LG):Prop:=w.heap[l]? =some (.cells (IX p L) 149 (0,0))
theorem cQ.lt {w:World} {l p:Nat} {L:LG} (h:cQ w l p L):l<w.heap.size:=aw h
theorem cQ.au {w:World} {l p:Nat} {L:LG} (h:cQ w l p L) (k:aa G w w') (a:¬G l):cQ w' l p L:=(k.block l h.lt a).trans h
section
variable {w:World} {l p:Nat} {L:LG}
theorem cQ.c0 (h:cQ w l p L):w.cell? (aD l 0)=some (pQ p):=aL h
theorem cQ.c1 (h:cQ w l p L):w.cell? (aD l 1)=some (iV (L.f:Int)):=bD h
theorem cQ.c2 (h:cQ w l p L):w.cell? (aD l 2)=some (iV (L.n:Int)):=bH h
theorem cQ.c3 (h:cQ w l p L):w.cell? (aD l 3)=some (iV L.life):=fI h
theorem cQ.c4 (h:cQ w l p L):w.cell? (aD l 4)=some (.bool L.begun):=gz h
theorem cQ.c5 (h:cQ w l p L):w.cell? (aD l 5)=some (iV (L.ep:Int)):=rU h
theorem cQ.c6 (h:cQ w l p L):w.cell? (aD l 6)=some (iV (L.tail:Int)):=wG h
theorem cQ.c7 (h:cQ w l p L):w.cell? (aD l 7)=some (iV (L.head:Int)):=ri h
theorem cQ.c8 (h:cQ w l p L):w.cell? (aD l 8)=some (iV (L.top:Int)):=Dg h
theorem cQ.fz (h:cQ w l p L) (j:Nat):w.frozen? (aD l j)=false:=ae h j
end
structure LG.Ok (L:LG) (s:Nat):Prop where
 s:L.f+2+L.n<=s
 n1:18<=L.n
 n2:L.n<=256
 ep:L.ep<=1073741824
 top:L.top<1073741824
 th:L.tail<=L.head
 hn:L.head<=L.tail+L.n
 hi:L.head<=1073742080
 hb:L.begun=true->L.head<=1073741824
def LG.dead (L:LG) (S:DS):Bool:=S.fuse == 0 || S.life != L.life
def LG.bd (L:LG) (S:DS):Int:=if L.dead S=true then 3 else if L.begun=true then 0 else 4
section
variable {w:World} {F:Nat->Prop} {p s l:Nat} {S:DS} {L:LG}
theorem cQ.later {w:World} {l p:Nat} {L:LG} (h:cQ w l p L) (a:bW w w'):cQ w' l p L:=(a.block l h.lt).trans h
theorem tJ (h:ax w F p s S) (b:cQ w l p L):
  Calls prog 112 #[pQ l] w λe w'=>e= .returned (.bool (L.dead S))/\bW w w':=by
 have a:=λn=>yU (h.later (below_drewN (bi w.heap.size w) n));have c:=λn=>vV (h.later (below_drewN (bi w.heap.size w) n));have d:=b.c0;have f:=b.c3;unfold LG.dead;go_in;by_cases q:S.fuse=0
 .rw [show (S.fuse == 0)=true by simp [q]] at a⊢;go_wp2_with fail;go_quiet ((go_at_call 35;exact Calls.quiet_of_same (a _)));go_wp2;go_ret;exact⟨rfl,below_drewN (bi _ _) _⟩
 .rw [show (S.fuse == 0)=false by simp [q]] at a⊢;go_wp2_with fail;go_quiet (first|(go_at_call 35;exact Calls.quiet_of_same (a _))|(go_at_call 22;exact Calls.quiet_of_same (c _)));go_wp2;go_ret;exact⟨rfl,below_drewN (bi _ _) _⟩
theorem jp (h:ax w F p s S) (c:cQ w l p L):
  Calls prog 161 #[pQ l] w λe w'=>e= .returned (iV (L.bd S))/\bW w w':=by
 have a:=tJ h c;unfold LG.bd;go_in;cases hd:L.dead S
 .rw [hd] at a;cases d:L.begun
  .rw [aA (by decide),aA (by decide)];go_wp2_with fail;refine bE a λw' eC=>?_;have b:=(c.later eC).c4;rw [d] at b;go_wp2;go_ret;exact⟨rfl,eC⟩
  .rw [aA (by decide),aE rfl];go_wp2_with fail;refine bE a λw' eC=>?_;have b:=(c.later eC).c4;rw [d] at b;go_wp2;go_ret;exact⟨rfl,eC⟩
 .rw [hd] at a;rw [aE rfl];go_wp2_with fail;refine bE a λw' eC=>?_;go_wp2;go_ret;exact⟨rfl,eC⟩
theorem yV (b:cQ w l p L) (a:L.Ok s):
  Calls prog 162 #[pQ l] w λe w'=>e= .returned (iV ((L.n:Int)-((L.head:Int)-(L.tail:Int))))/\bW w w':=by
 obtain⟨g,i,j,c,d,f⟩:=kQ b.c2 b.c6 b.c7 a.n2 a.th a.hn;go_in;go_wp2_with fail;go_quiet (fail);go_wp2;go_ret;exact⟨rfl,below_drewN (bi _ _) _⟩
theorem i5 (x:Nat) (w:World) (a:x<=140737488355328):Calls prog 213 #[iV (x:Int)] w λe w'=>e= .returned (iV (((x+491) / 492:Nat):Int))/\w'=w:=by
 have h:((x:Int)+492-1) / 492=(((x+491) / 492:Nat):Int):=by omega
 go_in;go_wp2;go_ret;rw [h];exact⟨rfl,rfl⟩
def LG.room (L:LG) (S:DS):Int×Int:=if L.bd S≠0 then (0,L.bd S) else ((L.n:Int)-((L.head:Int)-(L.tail:Int)),0)
theorem F9 (h:ax w F p s S) (f:cQ w l p L) (g:L.Ok s):
  Calls prog 113 #[pQ l] w λe w'=>e= .returned (.tuple #[iV (L.room S).1,iV (L.room S).2])/\bW w w':=by
 have c:=jp h f;unfold LG.room;generalize L.bd S=U at*;go_in;by_cases q:U=0
 .subst q;rw [aA (by decide)];go_wp2_with fail;refine bE c λw1 a=>?_;have b:=a;go_wp2_with fail;refine(yV (f.later a) g).mono ?_;rintro e i ⟨rfl,a⟩;go_wp2;go_ret2;exact⟨rfl,b.trans (a.mono b.size)⟩
 .rw [aE q];have d:(U == 0)=false:=by rw [eG];exact q
  go_wp2_with fail;refine bE c λw1 a=>?_;go_wp2;go_ret2;exact⟨rfl,a⟩
def LG.sync (L:LG) (S:DS) (s:Nat):Int×DS:=if L.bd S≠0 then (L.bd S,S) else S.fl s
end
end
def stepsTo (S:DS) (g:Nat->DS->Int×DS):Nat->Int×DS
 |0=>(0,S)
 |k+1=>if (stepsTo S g k).1≠0 then stepsTo S g k else g k (stepsTo S g k).2
theorem gw {S:DS} {g:Nat->DS->Int×DS} {k:Nat} (h:(stepsTo S g k).1≠0):∀m,k<=m->stepsTo S g m=stepsTo S g k
 |0,hm=>by rw [show k=0 by omega]
 |m+1,hm=>by
  by_cases e:k=m+1
  .rw [e]
  .have:=gw h m (by omega);show (if (stepsTo S g m).1≠0 then stepsTo S g m else g m (stepsTo S g m).2)=_;rw [this,aE h]
theorem jm {g:Nat->DS->Int×DS} (h:(stepsTo S g k).1=0):stepsTo S g (k+1)=g k (stepsTo S g k).2:=by
 rw [stepsTo,aA (by omega)]
theorem ou {S:DS} {g:Nat->DS->Int×DS} (a:∀k T,(g k T).2.puts.length<=T.puts.length+1):∀k,(stepsTo S g k).2.puts.length<=S.puts.length+k
 |0=>bP _
 |k+1=>by
  have:=ou a k (S:=S);have:=a k (stepsTo S g k).2;unfold stepsTo;split <;> omega
def bA (S:DS) (s f k:Nat):Int×DS:=stepsTo S (λj T=>T.wr s ((f+j:Nat):Int) 512 (zs 512)) k
def cK (S:DS) (s f n:Nat):Int×DS:=if (bA S s f (n+2)).1≠0 then bA S s f (n+2) else (bA S s f (n+2)).2.fl s
theorem pI (S:DS) (s f k:Nat):(bA S s f k).2.puts.length<=S.puts.length+k:=ou (λ_ _=>i9 _ _ _ _ _) k
theorem uV (b:w.heap.size<=w1.heap.size) (c:w1.heap.size<=w2.heap.size):∀k,more (more F w w1) w1 w2 k->more F w w2 k:=λk a=>by
 rcases a with (a|a)|a
 .exact .inl a
 .exact .inr ⟨a.1,by omega⟩
 .exact .inr ⟨by omega,a.2⟩
theorem cG (b:∀k,F k->k<w.heap.size) (c:w.heap.size<=w2.heap.size):∀k,more F w w2 k->k<w2.heap.size:=λk a=>by
 rcases a with a|a
 .have:=b k a;omega
 .exact a.2
def DS.fC (S:DS):Prop:=Bytes S.im/\∀q∈S.puts,Bytes q.2
theorem yW {im:List Int} (h:Bytes im) (k:Nat):Bytes (bI im k):=(h.drop _).take _
theorem JP (h:S.fC) (k j:Nat):Bytes ((ar S.puts k).getD j []):=by
 rcases Nat.lt_or_ge j (ar S.puts k).length with a|a
 .rw [List.getD,List.getElem?_eq_getElem a,Option.getD_some];have b:=List.getElem_mem a;unfold ar at b;obtain⟨q,c,e⟩:=List.mem_map.1 b;have:=h.2 q (List.mem_filter.1 c).1;unfold ar;rw [<-e];exact this
 .rw [List.getD,List.getElem?_eq_none a];exact Bytes.nil
theorem sk (h:S.fC) (k j:Nat):Bytes (S.gB k j):=by
 unfold DS.gB;split
 .exact yW h.1 k
 .exact JP h k _
theorem DS.fC.now (h:S.fC) (k:Nat):Bytes (S.now k):=sk h k _
theorem yX {f:Nat->List Int} (h:∀k,Bytes (f k)):Bytes (pj s f):=by
 intro x b;obtain⟨k,_,a⟩:=List.mem_flatMap.1 b;exact h k x a
theorem DS.fC.wr (h:S.fC) (s:Nat) (x:Int) (n:Nat) (b:Bytes l):(S.wr s x n l).2.fC:=by
 unfold DS.wr;split
 .exact h
 .split
  .exact h
  .split
   .exact h
   .refine⟨h.1,λq a=>?_⟩;rcases List.mem_append.1 a with a|a
    .exact h.2 q a
    .rw [List.mem_singleton.1 a];exact b
theorem DS.fC.fl (h:S.fC) (s:Nat):(S.fl s).2.fC:=by
 unfold DS.fl;split
 .exact h
 .exact⟨yX h.now,λq a=>by cases a⟩
theorem DS.fC.take (h:S.fC):S.take.fC:=h
theorem DS.fC.lay (h:S.fC) (x:Int):(S.lay x).fC:=by
 unfold DS.lay;split
 .exact h
 .exact h
theorem JQ (h:S.fC) (k A B C:Nat):Bytes (jh S k A B C):=by
 unfold jh;exact((sk h k _).take _).append ((sk h k _).drop _)
theorem DS.fC.il (h:S.fC) (s:Nat) (l:List P3):(S.il s l).fC:=by
 refine⟨yX (λk=>?_),λq a=>by cases a⟩;unfold fd;split
 .exact yW h.1 k
 .exact JQ h k _ _ _
theorem mr {S:DS} {g:Nat->DS->Int×DS} (h:S.fC) (a:∀k T,T.fC->(g k T).2.fC):∀k,(stepsTo S g k).2.fC
 |0=>h
 |k+1=>by
  have:=mr h a k;unfold stepsTo;split
  .exact this
  .exact a k _ this
theorem Ga (n:Nat):Bytes (zs n):=by unfold zs;exact Bytes.tu n
theorem DS.fC.QM (h:S.fC) (s f n:Nat):(cK S s f n).2.fC:=by
 have a:∀k,(bA S s f k).2.fC:=mr h (λk T b=>b.wr s _ _ (Ga _));unfold cK;split
 .exact a _
 .exact(a _).fl s
theorem DP {r:List Int} (num:Int) {c:List Int} (hd:Bytes c):Bytes (aN l r num c).2.1:=by
 have d:∀(a b:Int),c.length<=496->Bytes (be (cD a b) (aQ num.toNat ++ c)):=λa b h=>vO ((iC _).append hd) (by rw [dT,dN];omega) ⟨by omega,by have:=gd a b;omega⟩;unfold aN;split
 .exact Bytes.nil
 .split
  .exact Bytes.nil
  .split
   .exact Bytes.nil
   .dsimp only
    split
    .exact Bytes.nil
    .split
     .exact d _ _ (by omega)
     .exact d _ _ (by omega)
theorem DS.fC.cW (h:S.fC) (s f:Nat) (num:Int):(cW S s f num).2.fC:=by
 have a:=h.wr s ((f:Int)+((aN (S.now f) (S.now (f+1)) num []).1:Int)) 512 (DP (l:=S.now f) (r:=S.now (f+1)) num Bytes.nil);unfold Go.Proofs.YtenlkgicpllbhaaGreat.cW;split
 .exact h
 .split
  .exact h
  .split
   .exact a
   .exact a.fl s
theorem vW {old:List Int} (a:Bytes body):Bytes (gg old body).1:=by
 unfold gg;split
 .exact Bytes.nil
 .split
  .exact Bytes.nil
  .exact vO a (by omega) ⟨by omega,by have:=gd (old.getD 0 0) (old.getD 511 0);omega⟩
theorem sm (S:DS) (s f n:Nat):(cK S s f n).2.puts.length<=S.puts.length+n+3:=by
 have a:=pI S s f (n+2);have b:=xU (bA S s f (n+2)).2 s;unfold cK;split <;> omega
def cy (S:DS) (s:Nat) (f n:Int):Int×DS:=
 if cq S s f n≠0 then (cq S s f n,S) else
 if (cK S.take s f.toNat n.toNat).1≠0 then cK S.take s f.toNat n.toNat else cW (cK S.take s f.toNat n.toNat).2 s f.toNat 4294967296
theorem fM {f n:Int} (h:cq S s f n=0):S.fuse≠0/\∃a b:Nat,f=(a:Int)/\n=(b:Int)/\a+2+b<=s/\18<=b/\b<=256:=by
 unfold cq at h;split at h
 .omega
 .rename_i c;split at h
  .omega
  .split at h
   .omega
   .split at h
    .omega
    .exact⟨c,f.toNat,n.toNat,by omega,by omega,by omega,by omega,by omega⟩
theorem ew {b:Nat} {o:Obj} (h:w.heap[b]? =some o) (a:aa G w w1) (c:¬G b):w1.heap[b]? =some o:=(a.block b (aw h) c).trans h
section
def LG.start (L:LG) (S:DS) (s:Nat):Int×DS×LG:=
 if L.dead S=true then (3,S,L) else if L.begun=true then (5,S,L) else
 if (cW S s L.f (((L.top+1:Nat):Int)*4294967296+((0:Nat):Int))).1≠0 then ((cW S s L.f (((L.top+1:Nat):Int)*4294967296+((0:Nat):Int))).1,(cW S s L.f (((L.top+1:Nat):Int)*4294967296+((0:Nat):Int))).2,L)
 else (0,(cW S s L.f (((L.top+1:Nat):Int)*4294967296+((0:Nat):Int))).2,{L with begun:=true,ep:=L.top+1,tail:=0,head:=0})
def LG.trim (L:LG) (S:DS) (s:Nat):Int×DS×LG:=
 if (L.sync S s).1≠0 then ((L.sync S s).1,(L.sync S s).2,L) else if L.tail=L.head then (0,(L.sync S s).2,L) else
 if (cW (L.sync S s).2 s L.f ((L.ep:Int)*4294967296+(L.head:Int))).1≠0 then ((cW (L.sync S s).2 s L.f ((L.ep:Int)*4294967296+(L.head:Int))).1,(cW (L.sync S s).2 s L.f ((L.ep:Int)*4294967296+(L.head:Int))).2,L)
 else (0,(cW (L.sync S s).2 s L.f ((L.ep:Int)*4294967296+(L.head:Int))).2,{L with tail:=L.head})
theorem cQ.started {w:World} {l p:Nat} {L:LG} (h:cQ w l p L) (E:Int) (n:Nat) (e:E=(n:Int)):
  cQ ((((w.setCell ⟨l,4,none⟩ (.bool true)).setCell ⟨l,5,none⟩ (.int .i64 E)).setCell ⟨l,6,none⟩ (.int .i64 0)).setCell ⟨l,7,none⟩ (.int .i64 0)) l p {L with begun:=true,ep:=n,tail:=0,head:=0}:=by
 subst e;have a:=heap_setCell_same _ _ 4 _ _ (.bool true) h;have b:=heap_setCell_same _ _ 5 _ _ (iV (n:Int)) a;have c:=heap_setCell_same _ _ 6 _ _ (iV 0) b;have d:=heap_setCell_same _ _ 7 _ _ (iV 0) c;exact d.trans (by simp [IX])
theorem cQ.trimmed {w:World} {l p:Nat} {L:LG} (h:cQ w l p L):cQ (w.setCell ⟨l,6,none⟩ (.int .i64 (L.head:Int))) l p {L with tail:=L.head}:=
   (heap_setCell_same _ _ 6 _ _ (iV (L.head:Int)) h).trans (by simp [IX])
theorem aJ {F:Nat->Prop} (w:World) {l:Nat} (a:F l) (j:Nat) (v:Value):aa F w (w.setCell ⟨l,j,none⟩ v):=aa.setCell (F:=F) w (p:=(aD l j)) a v
section
variable {w:World} {F:Nat->Prop} {p s l:Nat} {S:DS} {L:LG}
end
end
section
theorem nA (L:LG) (S:DS) (s:Nat):(L.sync S s).2.puts.length<=S.puts.length+1:=by
 unfold LG.sync;split
 .simp
 .exact xU S s
theorem pJ {S:DS} (h:S.fC) (L:LG) (s:Nat):(L.sync S s).2.fC:=by
 unfold LG.sync;split
 .exact h
 .exact h.fl s
theorem JR {L:LG} {S:DS} {s:Nat} (h:(L.sync S s).1=0):L.begun=true:=by
 unfold LG.sync at h;split at h
 .rename_i a;exact absurd h a
 .rename_i a;unfold LG.bd at a;split at a
  .omega
  .split at a
   .assumption
   .omega
section
variable {w:World} {F:Nat->Prop} {p s l:Nat} {S:DS} {L:LG}
end
end
abbrev kW (e q i c:Int) (a:Option Addr) (n k:Nat):Value:= .agg #[iV e,iV q,iV i,iV c, .slice a n k]
abbrev eI (e q i c:Int) (a:Option Addr) (n k:Nat):Array Value:= #[iV e,iV q,iV i,iV c, .slice a n k]
def kE (E P i c:Nat) (part:List Int):List Int:=leb 4 E ++ (leb 4 P ++ (leb 2 i ++ (leb 2 c ++ part)))
theorem DQ (A X:List Int) (m:Nat) (h:X.length<=m):put (A ++ zs m) A.length X=(A ++ X) ++ zs (m-X.length):=by
 unfold put;have e:zs m=zs X.length ++ zs (m-X.length):=by rw [<-lM];congr 1;omega
 have a:A.length+X.length=(A ++ zs X.length).length:=by rw [dT,bB]
 rw [List.take_left,a,e,<-List.append_assoc A (zs X.length),List.drop_left,List.append_assoc]
theorem uW (E P i c:Nat) (l:List Int):(kE E P i c l).length=12+l.length:=by
 simp only [kE,dT,aH];omega
theorem mt (h:Bytes l):Bytes (kE E P i c l):=(iF _ _).append ((iF _ _).append ((iF _ _).append ((iF _ _).append h)))
theorem QN (E P i c:Nat) (l:List Int):kE E P i c l=(((leb 4 E ++ leb 4 P) ++ leb 2 i) ++ leb 2 c) ++ l:=by
 simp only [kE,List.append_assoc]
theorem QO (E P i c:Nat) (a:Option Addr) (n k:Nat) (l:List Int) (w:World) (D:Src w a n l) (hn:n<=492) (tk:a=none->k=0):
  Calls prog 237 #[kW E P i c a n k] w λe w'=>∃v,e= .returned v/\Own w' w.heap.size v (kE E P i c l)/\bW w w':=by
 obtain⟨R,N,gv,dr,ec⟩:=info_parts fW;have H:=yh D;have O:=D.1;obtain⟨m,Q⟩:∃m:Nat,m=12+n:=⟨_,rfl⟩;have Z:(4:Int)<=(m:Int):=by omega
 have b8:(8:Int)<=(m:Int):=by omega
 have U:(10:Int)<=(m:Int):=by omega
 have W:(12:Int)<=(m:Int):=by omega
 have n4:¬m=4:=by omega
 have n8:¬m=8:=by omega
 have Y:¬m=10:=by omega
 have y:=yh Q;rw [QN];obtain⟨A,C⟩:=bQ ((((leb 4 E ++ leb 4 P) ++ leb 2 i) ++ leb 2 c));rw [<-C];have S:=yh C;clear D C Q;go_in;go_wp2_with (at_make;refine iH _ rfl _ _ rfl _ 12 m rfl rfl ?c1 ?c2 ?c3 ?_);case c1=>have:=y.o;omega
 case c2=>omega
 case c3=>have:=y.o;omega
 intro w1 aZ aq;have dF:w1.heap[w.heap.size]? =some (.cells (eI E P i c a n k) 230 (0,0)):=(aq.block _ (by simp)).trans (heap_alloc_new _ _);have cN:=yh ((yh (aI w (.cells (eI E P i c a n k) 230))).out.trans (aq.mono (by simp)));clear aq;obtain⟨p,Cr⟩:=bL dF (y.o▸aZ:jX w1 5 (w.heap.size+1) (zs (12+n)));clear aZ;have X:=aL p.o;have J:put (zs (12+n)) 0 (leb 4 E)=leb 4 E ++ zs (8+n):=by
  have:=DQ ([]:List Int) (leb 4 E) (12+n) (by rw [aH];omega);simp only [aH,List.nil_append,List.length_nil] at this;rw [show 12+n-4=8+n by omega] at this;exact this
 have cm:=λ(r:Nat) (wx:World) (b:jX wx 5 (w.heap.size+1) (zs (12+n)))=>tH (w.heap.size+1) 0 4 r E 5 (zs (12+n)) wx b (by omega) (by simp only [bB];omega);rw [J] at cm;have Bt:=yh cm;clear J cm;go_wp2_with fail
 go_region_with ((go_at_call 242;refine(Bt.o _ w1.drew Cr.o).mono ?_;rintro e F ⟨rfl,f,d,g⟩;have b:=ew (w:=w1.drew) (w1:=F) p.o d (by omega)))
 obtain⟨Vc,gQ⟩:=bL b f;have dE:=yh ((ai cN.o).trans (d.below (B:=w.heap.size) (λj z=>by omega) (ai cN.o).size));clear X Bt b f d g;have c1:=bD Vc.o;have K:put (leb 4 E ++ zs (8+n)) 4 (leb 4 P)=(leb 4 E ++ leb 4 P) ++ zs (4+n):=by
  have:=DQ (leb 4 E) (leb 4 P) (8+n) (by rw [aH];omega);simp only [aH] at this;rw [show 8+n-4=4+n by omega] at this;exact this
 have fy:=λ(r:Nat) (wx:World) (b:jX wx 5 (w.heap.size+1) (leb 4 E ++ zs (8+n)))=>tH (w.heap.size+1) 4 4 r P 5 (leb 4 E ++ zs (8+n)) wx b (by omega) (by simp only [dT,aH,bB];omega);rw [K] at fy;have Ve:=yh fy;clear K fy;go_wp2_with fail
 go_region_with ((go_at_call 242;refine(Ve.o _ F.drew gQ.o).mono ?_;rintro e G ⟨rfl,f,d,g⟩;have b:=ew (w:=F.drew) (w1:=G) Vc.o d (by omega)))
 obtain⟨Vf,ma⟩:=bL b f;have fS:=yh ((ai dE.o).trans (d.below (B:=w.heap.size) (λj z=>by omega) (ai dE.o).size));clear c1 Ve b f d g;have c2:=bH Vf.o;have L:put ((leb 4 E ++ leb 4 P) ++ zs (4+n)) 8 (leb 2 i)=((leb 4 E ++ leb 4 P) ++ leb 2 i) ++ zs (2+n):=by
  have:=DQ (leb 4 E ++ leb 4 P) (leb 2 i) (4+n) (by rw [aH];omega);simp only [dT,aH,Nat.reduceAdd] at this;rw [show 4+n-2=2+n by omega] at this;exact this
 have gZ:=λ(r:Nat) (wx:World) (b:jX wx 5 (w.heap.size+1) ((leb 4 E ++ leb 4 P) ++ zs (4+n)))=>tH (w.heap.size+1) 8 2 r i 5 ((leb 4 E ++ leb 4 P) ++ zs (4+n)) wx b (by omega) (by simp only [dT,aH,bB];omega);rw [L] at gZ;have s:=yh gZ;clear L gZ;go_wp2_with fail
 go_region_with ((go_at_call 242;refine(s.o _ G.drew ma.o).mono ?_;rintro e I ⟨rfl,f,d,g⟩;have b:=ew (w:=G.drew) (w1:=I) Vf.o d (by omega)))
 obtain⟨Xt,L0⟩:=bL b f;have jB:=yh ((ai fS.o).trans (d.below (B:=w.heap.size) (λj z=>by omega) (ai fS.o).size));clear c2 s b f d g;have c3:=fI Xt.o;have M:put (((leb 4 E ++ leb 4 P) ++ leb 2 i) ++ zs (2+n)) 10 (leb 2 c)=(((leb 4 E ++ leb 4 P) ++ leb 2 i) ++ leb 2 c) ++ zs (0+n):=by
  have:=DQ ((leb 4 E ++ leb 4 P) ++ leb 2 i) (leb 2 c) (2+n) (by rw [aH];omega);simp only [dT,aH,Nat.reduceAdd] at this;rw [show 2+n-2=0+n by omega] at this;exact this
 have iR:=λ(r:Nat) (wx:World) (b:jX wx 5 (w.heap.size+1) (((leb 4 E ++ leb 4 P) ++ leb 2 i) ++ zs (2+n)))=>tH (w.heap.size+1) 10 2 r c 5 (((leb 4 E ++ leb 4 P) ++ leb 2 i) ++ zs (2+n)) wx b (by omega) (by simp only [dT,aH,bB];omega);rw [M] at iR;have t:=yh iR;clear M iR;go_wp2_with fail
 go_region_with ((go_at_call 242;refine(t.o _ I.drew L0.o).mono ?_;rintro e w5 ⟨rfl,f,d,g⟩;have b:=ew (w:=I.drew) (w1:=w5) Xt.o d (by omega)))
 obtain⟨Y8,T8⟩:=bL b f;have jd:=yh ((ai jB.o).trans (d.below (B:=w.heap.size) (λj z=>by omega) (ai jB.o).size));clear c3 t b f d g;have c4:=gz Y8.o;have az:Own w5 w.heap.size (.slice (some ⟨w.heap.size+1,0,none⟩) (((leb 4 E ++ leb 4 P) ++ leb 2 i) ++ leb 2 c).length m) (((leb 4 E ++ leb 4 P) ++ leb 2 i) ++ leb 2 c):=LW T8.o (by omega) (by simp only [dT,aH,bB];have:=y.o;omega) (by unfold maxLen;have:=y.o;omega);have jT:(((leb 4 E ++ leb 4 P) ++ leb 2 i) ++ leb 2 c).length=12:=by simp only [dT,aH]
 rw [jT] at az;have aY:w5.ownsRow w.heap.size 5 1 (.slice (some ⟨w.heap.size+1,0,none⟩) 12 m) 12 (bs (((leb 4 E ++ leb 4 P) ++ leb 2 i) ++ leb 2 c)):=by
  have:=az;unfold Own at this;rwa [jT] at this
 have uP:=yh aY;have bq:=yh az;have g:=jd.o.size;rw [<-S.o] at jT uP bq;clear az aY p Vc Vf Xt Cr gQ ma L0 T8 cN dE fS jB;cases a with
 |none=>
  have kT:=H.o.2.1 rfl;subst kT;have vJ:=List.eq_nil_of_length_eq_zero O;subst vJ;have Jl:=tk rfl;subst Jl;go_wp2_with (at_builtin;refine wpList_append_own_none rfl _ _ 36 rfl w.heap.size 5 R 1 underlying36 N _ 12 (bs A) rfl uP.o rfl ?_);go_ret;exact⟨_,rfl,by first|exact bq.o|(rw [List.append_nil];exact bq.o),jd.o⟩
 |some x=>
  have uT:=yh (λj u (z:(bs l)[j]? =some u)=>show w5.cell? (x.add j)=some u by
   obtain⟨YQ,rfl⟩:=fq z;exact cell_later jd.o (H.o.2.2 _ rfl j (by omega)))
  have DG:(bs l).length=n:=by rw [bs,List.length_map,O]
  go_wp2_with (at_builtin;refine wpList_append_own _ rfl _ _ 36 rfl w.heap.size 5 R (.int .u8 0) 1 1 underlying36 N gv dr ec rfl (by decide) _ 12 (bs A) rfl uP.o x n k (bs l) rfl ?n0 uT.out ?n2 ?n3 ?n4 ?n5 ?_);case n0=>omega
  case n2=>exact cB _
  case n3=>unfold maxLen;omega
  case n4=>omega
  case n5=>exact g
  intro v' w6 cJ kU _;rw [<-iE] at cJ;obtain⟨T,wO⟩:=bL (DC (m:=A ++ l) cJ (by rw [dT,jT];omega) rfl) (jd.o.grown kU g (λq e=>(uP.o.lt q e).1));clear cJ kU;go_wp2;go_ret;exact⟨_,rfl,T.o,wO.o⟩
section
def bS (w:World) (F:Nat->Prop) (p s:Nat) (S:DS) (m:Nat):Prop:=∃r,gD w F p s (S.DO r) m
section
variable {w w':World} {F G:Nat->Prop} {p s m:Nat} {S:DS}
theorem bS.r (h:bS w F p s S m):ax w F p s S:=by obtain⟨r,h⟩:=h;exact⟨r,h.at⟩
theorem oO {S:DS} {s:Nat} (a:S.fuse≠0) (b:k<s) (l:List Int):S.wr s (k:Int) 512 l=(0,(S.put k l).wrote.fY):=by
 unfold DS.wr;rw [aA a,aA (by omega),aA (by omega),Int.toNat_natCast]
end
def jM (S:DS) (s f n E P i c:Nat) (part:List Int):Int×DS:=
 if S.fuse=0 then (3,S) else S.wr s ((f+2+P%n:Nat):Int) 512 (gg (S.now (f+2+P%n)) (kE E P i c part)).1
theorem so {old:List Int} (b:old.length=512) (a:body.length<=504):(gg old body).2=0/\(gg old body).1.length=512:=by
 unfold gg;rw [aA (by omega),aA (by omega)];exact⟨rfl,fj a⟩
theorem Src.nB {w w':World} {a:Option Addr} {F:Nat->Prop} (h:Src w a n l) (g:aa F w w') (d:∀y,a=some y->0<n->¬F y.block):Src w' a n l:=
   ⟨h.1,h.2.1,λx c i f=>by
  have h0:=h.2.2 x c i f;have e:(x.add i).block=x.block:=by unfold Addr.add;split <;> rfl
  rw [World.cell?_of_block (w:=w) (g.block _ (World.block_lt_of_cell? _ _ h0) (λb=>by rw [e] at b;exact d x c (by omega) b))];exact h0⟩
theorem iI (w:World) (a b:Obj):bW w ((w.alloc a).alloc b):=((bi _ _).alloc (bP _) _).alloc (by simp) _
end
theorem yY {b o:Nat} (h:Src w (some (aD b o)) n l) (x y:Nat) (c:x+y<=n):∀i,i<y->w.cell? ⟨b,o+x+i,none⟩=some (.int .u8 (((l.drop x).take y).getD i 0)):=by
 intro i a;have:=h.2.2 _ rfl (x+i) (by omega);rw [aK] at this;rw [Nat.add_assoc,this];congr 2;simp [List.getD,a,List.getElem?_drop]
theorem Nk {b o:Nat} (h:Src w (some (aD b o)) n l) (x y:Nat) (a:x+y<=n):Src w (some ⟨b,o+x,none⟩) y ((l.drop x).take y):=
   ⟨by have:=h.1;simp;omega,(λe=>by cases e),λz d i c=>by cases d;rw [aK];exact yY h x y a i c⟩
theorem JS (w1:World) (b:Nat) (a c d e f:Value):aa (λk=>k=b) w1 (((((w1.setCell ⟨b,0,none⟩ a).setCell ⟨b,1,none⟩ c).setCell ⟨b,2,none⟩ d).setCell ⟨b,3,none⟩ e).setCell ⟨b,4,none⟩ f):=
   ((((aJ (F:=λk=>k=b) w1 rfl 0 a).trans (aJ (F:=λk=>k=b) _ rfl 1 c) (λ_ h=> .inl h)).trans (aJ (F:=λk=>k=b) _ rfl 2 d) (λ_ h=> .inl h)).trans (aJ (F:=λk=>k=b) _ rfl 3 e) (λ_ h=> .inl h)).trans (aJ (F:=λk=>k=b) _ rfl 4 f) (λ_ h=> .inl h)
theorem JT (w:World) (b:Nat):(World.drew w).heap[b]? =w.heap[b]? :=rfl
theorem Cs {b:Nat} {t:TypeId} {g i j k l:Value} (a c d e f:Value) (h:w.heap[b]? =some (.cells #[g,i,j,k,l] t (0,0))):
    (World.drew (((((w.setCell ⟨b,0,none⟩ a).setCell ⟨b,1,none⟩ c).setCell ⟨b,2,none⟩ d).setCell ⟨b,3,none⟩ e).setCell ⟨b,4,none⟩ f)).heap[b]? =some (.cells #[a,c,d,e,f] t (0,0)):=(JT _ _).trans (PJ a c d e f h)
theorem j1:(prog.info? 230).map (·.size)=some 5:=by kernel_rfl
theorem ow {B:Nat} (h:Below B w w1) {b:Nat} (a:B<=b) (c d e f g:Value):Below B w (((((w1.setCell ⟨b,0,none⟩ c).setCell ⟨b,1,none⟩ d).setCell ⟨b,2,none⟩ e).setCell ⟨b,3,none⟩ f).setCell ⟨b,4,none⟩ g):=
   ((((h.setCell (p:=⟨b,0,none⟩) a _).setCell (p:=⟨b,1,none⟩) a _).setCell (p:=⟨b,2,none⟩) a _).setCell (p:=⟨b,3,none⟩) a _).setCell (p:=⟨b,4,none⟩) a _
theorem JU (a:Option Addr) (n c:Nat) (l:List Int) (w:World) (i:Src w a n l) (g:Bytes l) (p:(aR l).2≠0\/(aR l).1.length<12):
  Calls prog 193 #[.slice a n c] w λe w'=>e= .returned (kW 0 0 0 0 none 0 0)/\bW w w':=by
 have d:=Cn a n c l (w.alloc (.cells (eI 0 0 0 0 none 0 0) 230)) (i.later (aI _ _)) g;generalize aR l=Y at*;go_in;go_wp2_with fail;refine d.mono ?_;rintro e w1 ⟨v,rfl,⟨m,o,rfl,ed,_,_⟩,aq⟩;have b:=(aq.block _ (by simp)).trans (heap_alloc_new _ _);have cN:=((aI w (.cells (eI 0 0 0 0 none 0 0) 230)).trans (aq.mono (by simp)));have f:=λj=>ae b j;obtain⟨r,s,t,u,x⟩:=ey (aL b) (bD b) (bH b) (fI b) (gz b);by_cases q:Y.2=0
 .have k:(Y.1.length:Int)<12:=by omega
  rw [q] at d;go_wp2;exact bodyPost_ret (results_cell_row (P:=prog) rfl _ _ w.heap.size 230 _ (0,0) _ rfl (PJ _ _ _ _ _ b) underlying230 rfl j1) rfl ⟨rfl,ow cN (bP _) _ _ _ _ _⟩
 .have k:(((Y.2:Nat):Int) == 0)=false:=by rw [eG];omega
  go_wp2;exact bodyPost_ret (results_cell_row (P:=prog) rfl _ _ w.heap.size 230 _ (0,0) _ rfl (PJ _ _ _ _ _ b) underlying230 rfl j1) rfl ⟨rfl,ow cN (bP _) _ _ _ _ _⟩
theorem JV (a:Option Addr) (n c:Nat) (l:List Int) (w:World) (N:Src w a n l) (I:Bytes l) (M:(aR l).2=0) (qC:12<=(aR l).1.length):
  Calls prog 193 #[.slice a n c] w λe w'=>∃a' k,e= .returned (kW ((jZ (aR l).1).e:Int) ((jZ (aR l).1).p:Int) ((jZ (aR l).1).i:Int) ((jZ (aR l).1).c:Int) a' (jZ (aR l).1).d.length k)/\Src w' a' (jZ (aR l).1).d.length (jZ (aR l).1).d/\(∀y,a'=some y->w.heap.size<y.block)/\bW w w':=by
 have z:=Cn a n c l (w.alloc (.cells (eI 0 0 0 0 none 0 0) 230)) (N.later (aI _ _)) I;have r:=pG I;rw [M] at z;generalize (aR l).1=Y at*;have aoM:¬(Y.length:Int)<12:=by omega
 go_in;go_wp2_with fail;refine z.mono ?_;rintro e w1 ⟨v,rfl,⟨U,m,rfl,ed,A2,ox⟩,aq⟩;obtain⟨b,o,rfl⟩:=cT ed (by omega);have QP:=ox _ rfl;have s:=(aq.block _ (by simp)).trans (heap_alloc_new _ _);have cN:=((aI w (.cells (eI 0 0 0 0 none 0 0) 230)).trans (aq.mono (by simp)));have f:=λj=>ae s j;obtain⟨k0,k1,k2,k3,k4⟩:=ey (aL s) (bD s) (bH s) (fI s) (gz s);have Q:=λwx (g:∀a,World.cell? wx a=w1.cell? a) t=>oo b o 4 t (Y.take 4) wx (r.take 4) (by simp;omega) (by omega) (λi q=>(g _).trans (by have:=yY ed 0 4 (by omega) i q;rwa [List.drop_zero,Nat.add_zero] at this));have R:=λwx (g:∀a,World.cell? wx a=w1.cell? a) t=>oo b (o+4) 4 t ((Y.drop 4).take 4) wx ((r.drop 4).take 4) (by simp;omega) (by omega) (λi q=>(g _).trans (yY ed 4 4 (by omega) i q));have S:=λwx (g:∀a,World.cell? wx a=w1.cell? a) t=>oo b (o+8) 2 t ((Y.drop 8).take 2) wx ((r.drop 8).take 2) (by simp;omega) (by omega) (λi q=>(g _).trans (yY ed 8 2 (by omega) i q));have T:=λwx (g:∀a,World.cell? wx a=w1.cell? a) t=>oo b (o+10) 2 t ((Y.drop 10).take 2) wx ((r.drop 10).take 2) (by simp;omega) (by omega) (λi q=>(g _).trans (yY ed 10 2 (by omega) i q));have W:(4:Int)<=(m:Int):=by omega
 have X:(8:Int)<=(m:Int):=by omega
 have J:(10:Int)<=(m:Int):=by omega
 have K:(12:Int)<=(m:Int):=by omega
 have Z:(Y.length:Int)<=(m:Int):=by omega
 have n0:¬m=0:=by omega
 have n4:¬m=4:=by omega
 have n8:¬m=8:=by omega
 have O:¬m=10:=by omega
 obtain⟨C,D,E,F,H⟩:=ey Q R S T s;by_cases G:m=12
 .have Vg:Y.length=12:=by omega
  have acG:((jZ Y).d= []):=List.eq_nil_of_length_eq_zero (by simp [jZ,Vg]);subst G;rw [Vg] at*;go_wp2_with fail;go_region_held3 (λ_=>True) (trivial)
   (first
    |(go_at_call 226;refine(C w1.drew (λ_=>rfl) 12).mono ?_;clear C;rintro e u ⟨rfl,g⟩;subst g)
    |(go_at_call 226;refine(D w1.drew (λ_=>rfl) (8)).mono ?_;clear D;rintro e u ⟨rfl,g⟩;subst g)
    |(go_at_call 226;refine(E w1.drew (λ_=>rfl) (4)).mono ?_;clear E;rintro e u ⟨rfl,g⟩;subst g)
    |(go_at_call 226;refine(F w1.drew (λ_=>rfl) (2)).mono ?_;clear F;rintro e u ⟨rfl,g⟩;subst g))
  go_wp2;refine bodyPost_ret (results_cell_row (P:=prog) rfl _ _ w.heap.size 230 _ (0,0) _ rfl (Cs _ _ _ _ _ H) underlying230 rfl j1) rfl ⟨some (aD b o),0,?_,?_,?_,ai (ow cN (bP _) _ _ _ _ _)⟩
  .rw [acG];rfl
  .rw [acG];exact⟨rfl,λ_=>rfl,λx s i q=>by cases q⟩
  .intro y A;cases A;simp at QP;show w.heap.size<b;omega
 .go_wp2_with fail;go_region_held3 (λ_=>True) (trivial)
   (first
    |(go_at_call 226;refine(C w1.drew (λ_=>rfl) m).mono ?_;clear C;rintro e u ⟨rfl,g⟩;subst g)
    |(go_at_call 226;refine(D w1.drew (λ_=>rfl) (m-4)).mono ?_;clear D;rintro e u ⟨rfl,g⟩;subst g)
    |(go_at_call 226;refine(E w1.drew (λ_=>rfl) (m-8)).mono ?_;clear E;rintro e u ⟨rfl,g⟩;subst g)
    |(go_at_call 226;refine(F w1.drew (λ_=>rfl) (m-10)).mono ?_;clear F;rintro e u ⟨rfl,g⟩;subst g))
  go_wp2;have sX:(jZ Y).d.length=Y.length-12:=by simp [jZ]
  refine bodyPost_ret (results_cell_row (P:=prog) rfl _ _ w.heap.size 230 _ (0,0) _ rfl (Cs _ _ _ _ _ H) underlying230 rfl j1) rfl ⟨some ⟨b,o+12,none⟩,m-12,?_,?_,?_,ai (ow cN (bP _) _ _ _ _ _)⟩
  .rw [sX];rfl
  .rw [sX];have z:=Nk ed 12 (Y.length-12) (by omega);rw [nh (by simp)] at z;have L:=z.nB (JS w1 w.heap.size (iV ((le (Y.take 4):Nat):Int)) (iV ((le ((Y.drop 4).take 4):Nat):Int)) (iV ((le ((Y.drop 8).take 2):Nat):Int)) (iV ((le ((Y.drop 10).take 2):Nat):Int)) (.slice (some ⟨b,o+12,none⟩) (Y.length-12) (m-12))) (λy A _ e=>by cases A;simp at QP e;omega);exact L.later (ai (bi _ _))
  .intro y A;cases A;simp at QP;show w.heap.size<b;omega
theorem Gb (a:Option Addr) (n c:Nat) (l:List Int) (w:World) (f:Src w a n l) (b:Bytes l):
  Calls prog 193 #[.slice a n c] w λe w'=>∃a' k,e= .returned (kW ((cF l).e:Int) ((cF l).p:Int) ((cF l).i:Int) ((cF l).c:Int) a' (cF l).d.length k)/\Src w' a' (cF l).d.length (cF l).d/\(∀y,a'=some y->w.heap.size<y.block)/\bW w w':=by
 by_cases q:(aR l).2≠0\/(aR l).1.length<12
 .refine(JU a n c l w f b q).mono ?_;rintro e w' ⟨rfl,eC⟩;unfold cF;rw [aE q];exact⟨none,0,rfl,⟨rfl,λ_=>rfl,λx g=>by cases g⟩,λy j=>(by cases j),eC⟩
 .refine(JV a n c l w f b (by omega) (by omega)).mono ?_;rintro e w' h;unfold cF;rw [aA q];exact h
def lu (w:World) (B g i:Nat) (q:PC):Prop:=
 ∃a k,w.cell? ⟨g,i*5,none⟩=some (iV (q.e:Int))/\w.cell? ⟨g,i*5+1,none⟩=some (iV (q.p:Int))/\w.cell? ⟨g,i*5+2,none⟩=some (iV (q.i:Int))/\w.cell? ⟨g,i*5+3,none⟩=some (iV (q.c:Int))/\
  w.cell? ⟨g,i*5+4,none⟩=some (.slice a q.d.length k)/\Src w a q.d.length q.d/\∀y,a=some y->B<=y.block
theorem lu.au {B:Nat} {q:PC} (h:lu w B g i q) (c:aa F w w') (t:¬F g) (p:∀k,F k->k<B):lu w' B g i q:=by
 obtain⟨a,k,h0,f,j,l,m,n,b⟩:=h;have e:∀o v,w.cell? (aD g o)=some v->w'.cell? (aD g o)=some v:=λo v d=>by
  have r:=World.block_lt_of_cell? _ _ d;exact(World.cell?_of_block (w:=w) (a:=(aD g o)) (c.block g r t)).trans d
 exact⟨a,k,e _ _ h0,e _ _ f,e _ _ j,e _ _ l,e _ _ m,n.nB c (λy u _ s=>by have:=b y u;have:=p _ s;omega),b⟩
theorem lu.later {B:Nat} {q:PC} (h:lu w B g i q) (a:bW w w'):lu w' B g i q:=h.au (aa.ah (λ_=>False) a) (λh=>h) (λ_ h=>h.elim)
theorem JW:(prog.info? 230).map (λi=>(i.zero,i.size,i.bytes))=some (some (kW 0 0 0 0 none 0 0),5,56):=by kernel_rfl
theorem Nl {T:TypeId} {cur:Array Value} (m:w.heap[g]? =some (.cells cur T (0,0))) (n:j+5<=cur.size) (a b c d e:Value):
  ∃cur',(((((w.setCell ⟨g,j,none⟩ a).setCell ⟨g,j+1,none⟩ b).setCell ⟨g,j+2,none⟩ c).setCell ⟨g,j+3,none⟩ d).setCell ⟨g,j+4,none⟩ e).heap[g]? =some (.cells cur' T (0,0))/\cur'.size=cur.size/\
   cur'[j]? =some a/\cur'[j+1]? =some b/\cur'[j+2]? =some c/\cur'[j+3]? =some d/\cur'[j+4]? =some e/\∀o,o<j\/j+5<=o->cur'[o]? =cur[o]? :=by
 have h0:=heap_setCell_same w g j _ T a m;have f:=heap_setCell_same _ g (j+1) _ T b h0;have i:=heap_setCell_same _ g (j+2) _ T c f;have k:=heap_setCell_same _ g (j+3) _ T d i;have l:=heap_setCell_same _ g (j+4) _ T e k;refine⟨_,l,by simp,?_,?_,?_,?_,?_,?_⟩
 .rw [Array.getElem?_setIfInBounds_ne (by omega),Array.getElem?_setIfInBounds_ne (by omega),Array.getElem?_setIfInBounds_ne (by omega),Array.getElem?_setIfInBounds_ne (by omega),Array.getElem?_setIfInBounds_self_of_lt (by omega)]
 .rw [Array.getElem?_setIfInBounds_ne (by omega),Array.getElem?_setIfInBounds_ne (by omega),Array.getElem?_setIfInBounds_ne (by omega),Array.getElem?_setIfInBounds_self_of_lt (by simp;omega)]
 .rw [Array.getElem?_setIfInBounds_ne (by omega),Array.getElem?_setIfInBounds_ne (by omega),Array.getElem?_setIfInBounds_self_of_lt (by simp;omega)]
 .rw [Array.getElem?_setIfInBounds_ne (by omega),Array.getElem?_setIfInBounds_self_of_lt (by simp;omega)]
 .rw [Array.getElem?_setIfInBounds_self_of_lt (by simp;omega)]
 .intro o p;rw [Array.getElem?_setIfInBounds_ne (by omega),Array.getElem?_setIfInBounds_ne (by omega),Array.getElem?_setIfInBounds_ne (by omega),Array.getElem?_setIfInBounds_ne (by omega),Array.getElem?_setIfInBounds_ne (by omega)]
theorem tK (w1:World) (b j:Nat) (a c d e f:Value):aa (λk=>k=b) w1 (((((w1.setCell ⟨b,j,none⟩ a).setCell ⟨b,j+1,none⟩ c).setCell ⟨b,j+2,none⟩ d).setCell ⟨b,j+3,none⟩ e).setCell ⟨b,j+4,none⟩ f):=
   ((((aJ (F:=λk=>k=b) w1 rfl j a).trans (aJ (F:=λk=>k=b) _ rfl (j+1) c) (λ_ h=> .inl h)).trans (aJ (F:=λk=>k=b) _ rfl (j+2) d) (λ_ h=> .inl h)).trans (aJ (F:=λk=>k=b) _ rfl (j+3) e) (λ_ h=> .inl h)).trans (aJ (F:=λk=>k=b) _ rfl (j+4) f) (λ_ h=> .inl h)
def gS (w:World) (B g n k:Nat) (R:Nat->PC):Prop:=(∃cur,w.heap[g]? =some (.cells cur 230 (0,0))/\cur.size=n*5)/\∀i,i<k->lu w B g i (R i)
theorem gS.au {B:Nat} {R:Nat->PC} (h:gS w B g n k R) (c:aa F w w') (b:¬F g) (e:∀k,F k->k<B):gS w' B g n k R:=by
 obtain⟨⟨cur,a,j⟩,d⟩:=h;exact⟨⟨cur,(c.block g (aw a) b).trans a,j⟩,λi f=>(d i f).au c b e⟩
theorem gS.lt {B:Nat} {R:Nat->PC} (h:gS w B g n k R):g<w.heap.size:=by
 obtain⟨⟨cur,a,c⟩,b⟩:=h;exact aw a
theorem gS.spot {B:Nat} {R:Nat->PC} (h:gS w B g n k R) (d:k<n):∀j,j<5->∃v,w.cell? ⟨g,k*5+j,none⟩=some v:=by
 obtain⟨⟨cur,a,e⟩,b⟩:=h;intro j c;have bm:k*5+j<cur.size:=by omega
 exact⟨cur[k*5+j],aj a (by simp [bm])⟩
theorem gS.fz {B:Nat} {R:Nat->PC} (h:gS w B g n k R) (j:Nat):w.frozen? (aD g j)=false:=by
 obtain⟨⟨cur,a,c⟩,b⟩:=h;exact ae a j
theorem gS.snoc {B:Nat} {R:Nat->PC} (h:gS w B g n k R) (O:k<n) (E:g<B) (a:Option Addr) (c:Nat) (G:Src w a (R k).d.length (R k).d) (l:∀y,a=some y->B<=y.block):
  gS (((((w.setCell ⟨g,k*5,none⟩ (.int .i64 ((R k).e:Int))).setCell ⟨g,k*5+1,none⟩ (.int .i64 ((R k).p:Int))).setCell ⟨g,k*5+2,none⟩ (.int .i64 ((R k).i:Int))).setCell ⟨g,k*5+3,none⟩ (.int .i64 ((R k).c:Int))).setCell ⟨g,k*5+4,none⟩ (.slice a (R k).d.length c)) B g n (k+1) R:=by
 obtain⟨⟨cur,m,ef⟩,D⟩:=h;obtain⟨b,T9,aoO,t,u,x,z,A,C⟩:=Nl m (j:=k*5) (by omega) (iV ((R k).e:Int)) (iV ((R k).p:Int)) (iV ((R k).i:Int)) (iV ((R k).c:Int)) (.slice a (R k).d.length c);have fP:=tK w g (k*5) (iV ((R k).e:Int)) (iV ((R k).p:Int)) (iV ((R k).i:Int)) (iV ((R k).c:Int)) (.slice a (R k).d.length c);refine⟨⟨b,T9,by omega⟩,λi N=>?_⟩;by_cases e:i=k
 .subst e;exact⟨a,c,aj T9 t,aj T9 u,aj T9 x,aj T9 z,aj T9 A,G.nB fP (λy f _ e=>by have:=l y f;omega),l⟩
 .obtain⟨s,c',I,J,K,p3,L,M,r⟩:=D i (by omega);have q:∀o v,o<k*5\/k*5+5<=o->w.cell? (aD g o)=some v->(((((w.setCell ⟨g,k*5,none⟩ (.int .i64 ((R k).e:Int))).setCell ⟨g,k*5+1,none⟩ (.int .i64 ((R k).p:Int))).setCell ⟨g,k*5+2,none⟩ (.int .i64 ((R k).i:Int))).setCell ⟨g,k*5+3,none⟩ (.int .i64 ((R k).c:Int))).setCell ⟨g,k*5+4,none⟩ (.slice a (R k).d.length c)).cell? (aD g o)=some v:=λo v F H=>by
   refine aj T9 ((C o F).trans ?_);simpa [World.cell?,m] using H
  exact⟨s,c',q _ _ (by omega) I,q _ _ (by omega) J,q _ _ (by omega) K,q _ _ (by omega) p3,q _ _ (by omega) L,M.nB fP (λy f _ e=>by have:=r y f;omega),r⟩
def L4 (lo:Nat) (w:World) (n:Nat) (R:Nat->PC) (v:Value):Prop:=∃g B,v= .slice (some (aD g 0)) n n/\lo<=g/\g<B/\gS w B g n n R
theorem lu.range {B:Nat} {q:PC} (h:lu w B g i q):∃a k,w.rangeAt g (i*5) (eI (q.e:Int) (q.p:Int) (q.i:Int) (q.c:Int) a q.d.length k).toList/\Src w a q.d.length q.d/\∀y,a=some y->B<=y.block:=by
 obtain⟨a,k,h0,f,l,m,n,o,r⟩:=h;refine⟨a,k,λj v b=>?_,o,r⟩
 match j,b with
 |0,b=>cases b;exact h0
 |1,b=>cases b;exact f
 |2,b=>cases b;exact l
 |3,b=>cases b;exact m
 |4,b=>cases b;exact n
 |j+5,b=>simp at b
theorem L5 {B:Nat} {R:Nat->PC} (h:gS w B g n n R) (x:n<=256):
  Calls prog 154 #[.slice (some (aD g 0)) n n] w λe w'=>e= .returned (iV ((rtop R n:Nat):Int))/\bW w w':=by
 have H:=yh h;go_in;go_wp2;go_loopw [3,8] (λr i wr=>∃k:Nat,k<=n/\i=iV k/\r=iV ((rtop R k:Nat):Int)/\bW w wr) (λ_ i _=>n-(intOf i).toNat);case atStart=>exact⟨0,dU _,rfl,rfl,bi _ _⟩
 case round=>
  obtain⟨k,v,rfl,rfl,j⟩:=hrel;by_cases q:k<n
  .have u:(k:Int)<(n:Int):=(by omega);have y:(0:Int)<=(k:Int):=(by omega);obtain⟨a,c,mI,_,_⟩:=((H.o.2 k q).later j).range;have b:=yh mI;have s:=xC R k;have f:=yh (λo=>j.trans ((aI wr o).mono j.size));by_cases m:(R k).e<=1073741824
   .have t:((R k).e:Int)<=1073741824:=(by omega);have l:Yh (rtop R (k+1)=max (rtop R k) (R k).e):=(by rw [rtop,aE m];exact rfl);go_wp2_with (refine wpList_load_mid rfl 230 _ rfl g (k*5) rfl (eI ((R k).e:Int) ((R k).p:Int) ((R k).i:Int) ((R k).c:Int) a (R k).d.length c).toList _ b.o underlying230 rfl j1 ?_);go_roundw;case rel=>exact⟨k+1,by omega,by go_num,by rw [l.out];congr 1;omega,f.o _⟩
    case measure=>simp [intOf];omega
   .have t:¬((R k).e:Int)<=1073741824:=(by omega);have l:Yh (rtop R (k+1)=rtop R k):=(by rw [rtop,aA m];exact rfl);go_wp2_with (refine wpList_load_mid rfl 230 _ rfl g (k*5) rfl (eI ((R k).e:Int) ((R k).p:Int) ((R k).i:Int) ((R k).c:Int) a (R k).d.length c).toList _ b.o underlying230 rfl j1 ?_);go_roundw;case rel=>exact⟨k+1,by omega,by go_num,by rw [l.out],f.o _⟩
    case measure=>simp [intOf];omega
  .have u:¬(k:Int)<(n:Int):=(by omega);obtain rfl:k=n:=(by omega);have f:=yh j;go_wp2;go_ret;exact⟨rfl,f.o⟩
section
def Gc (q:PC) (E P i c:Nat):Bool:=decide (q.e=E/\q.p=P/\q.i=i/\q.c=c/\0<q.d.length/\(i+1≠c->q.d.length=492)/\1<=c/\c<=17)
theorem DR {q:PC} {E:Nat}:Gc q E P i c=true↔q.ok E P i c/\1<=c/\c<=17:=by
 unfold Gc PC.ok;rw [decide_eq_true_iff];constructor
 .rintro ⟨a,b,d,e,f,g,j,k⟩;exact⟨⟨a,b,d,e,f,g⟩,j,k⟩
 .rintro ⟨⟨a,b,d,e,f,g⟩,j,k⟩;exact⟨a,b,d,e,f,g,j,k⟩
structure SS where
 rs:List (List Int)
 rc:List Int
 hd:Nat
 ps:Nat
 j:Nat
 c:Nat
section
variable (R:Nat->PC) (E T n:Nat)
def SS.due (st:SS) (x:Nat):Nat:=if st.j=0 then (R ((T+x)%n)).c else st.c
def SS.tL (st:SS) (x:Nat):Bool:=Gc (R ((T+x)%n)) E (T+x) st.j (st.due R T n x)
def SS.next (st:SS) (x:Nat):SS:=
 if (R ((T+x)%n)).i+1=(R ((T+x)%n)).c then ⟨st.rs ++ [st.rc ++ (R ((T+x)%n)).d], [],T+x+1,T+x,0,st.due R T n x⟩
 else ⟨st.rs,st.rc ++ (R ((T+x)%n)).d,st.hd,T+x,st.j+1,st.due R T n x⟩
def SS.start:SS:=⟨[], [],T,0,0,0⟩
def srun:List Nat->SS->Option SS
 | [],st=>some st
 |x :: xs,st=>if st.tL R E T n x=true then srun xs (st.next R T n x) else none
end
theorem Ct (R:Nat->PC) (E T n:Nat):∀(xs:List Nat) (a L6:SS) (x:Nat),srun R E T n xs a=some L6->L6.tL R E T n x=true->srun R E T n (xs ++ [x]) a=some (L6.next R T n x)
 | [],a,L6,x,h,hg=>by
  cases h;show (if _ then _ else _)=_;rw [aE hg];rfl
 |y :: ys,a,L6,x,h,hg=>by
  show (if a.tL R E T n y=true then srun R E T n (ys ++ [x]) (a.next R T n y) else none)=_;unfold srun at h;split at h
  .rename_i b;rw [aE b];exact Ct R E T n ys _ L6 x h hg
  .cases h
theorem sq (R:Nat->PC) (E T n:Nat):∀(xs:List Nat) (a L6:SS) (x:Nat),srun R E T n (xs ++ [x]) a=some L6->∃s1,srun R E T n xs a=some s1/\s1.tL R E T n x=true/\L6=s1.next R T n x
 | [],a,L6,x,h=>by
  have h:(if a.tL R E T n x=true then srun R E T n [] (a.next R T n x) else none)=some L6:=h;split at h
  .rename_i b;cases h;exact⟨a,rfl,b,rfl⟩
  .cases h
 |y :: ys,a,L6,x,h=>by
  have h:(if a.tL R E T n y=true then srun R E T n (ys ++ [x]) (a.next R T n y) else none)=some L6:=h;split at h
  .rename_i b;obtain⟨s1,c,d,e⟩:=sq R E T n ys _ L6 x h;refine⟨s1,?_,d,e⟩;show (if _ then _ else _)=_;rw [aE b];exact c
  .cases h
theorem yZ (R:Nat->PC) (E T n:Nat) (hd:∀i,(R i).d.length<=492) (g:∀i,(R i).c<=65536):∀(k:Nat) (xs:List Nat) (a:SS),xs.length=k->srun R E T n xs (SS.start T)=some a->a.rs.length<=k/\a.rc.length<=492*k/\a.j<=k/\a.c<=65536
 |0,xs,a,hl,h=>by
  obtain rfl:=List.eq_nil_of_length_eq_zero hl;cases h;exact⟨bP _,bP _,bP _,dU _⟩
 |k+1,xs,a,hl,h=>by
  obtain⟨b,x,rfl⟩:∃b x,xs=b ++ [x]:=by
   have dG:xs≠ []:=(by intro e;rw [e] at hl;cases hl);exact⟨xs.dropLast,xs.getLast dG,(List.dropLast_concat_getLast dG).symm⟩
  obtain⟨s1,l,m,rfl⟩:=sq R E T n b _ a x h;have q:=yZ R E T n hd g k b s1 (by simpa using hl) l;have o:=hd ((T+x)%n);have p:=g ((T+x)%n);have f:s1.due R T n x<=65536:=by unfold SS.due;split <;> omega
  unfold SS.next;split
  .refine⟨?_,?_,?_,f⟩
   .simp;omega
   .simp
   .simp
  .refine⟨?_,?_,?_,f⟩
   .show s1.rs.length<=_;omega
   .show (s1.rc ++ _).length<=_;rw [dT];omega
   .show s1.j+1<=_;omega
def Rp (R:Nat->PC) (n:Nat) (P:Nat):PC:=R (P%n)
theorem tM (R:Nat->PC) (n:Nat) (q:Nat):Rp R n (q+n)=Rp R n q:=by unfold Rp;rw [Nat.add_mod_right]
theorem SS.QQ (R:Nat->PC) (T n:Nat) {a:SS} (b:a.hd+a.j=T+k):a.due R T n k=nz (Rp R n) a.hd a.j a.c:=by
 unfold SS.due nz;split
 .rename_i h;rw [show T+k=a.hd by omega];rfl
 .rfl
theorem uX (R:Nat->PC) (E T n:Nat):∀(k:Nat) (b:SS),srun R E T n (List.range k) (SS.start T)=some b->Scan (Rp R n) E T b.rs b.hd b.j b.c b.rc/\b.hd+b.j=T+k
 |0,b,h=>by
  cases h;exact⟨Scan.start _ _ _ _,rfl⟩
 |k+1,b,h=>by
  rw [List.range_succ] at h;obtain⟨s1,l,a,rfl⟩:=sq R E T n _ _ b k h;obtain⟨g,f⟩:=uX R E T n k s1 l;have hd:=SS.QQ R T n f;unfold SS.tL at a;rw [DR,hd,<-f] at a;have i:R ((s1.hd+s1.j)%n)=Rp R n (s1.hd+s1.j):=rfl;rw [i] at a;unfold SS.next;rw [hd,<-f,i,a.1.2.2.1,a.1.2.2.2.1];split
  .rename_i d;refine⟨g.full a.1 a.2.2 d _,by show s1.hd+s1.j+1+0=_;omega⟩
  .rename_i d;have bm:s1.j<nz (Rp R n) s1.hd s1.j s1.c:=by
    by_cases e:s1.j=0
    .rw [e] at a⊢;omega
    .have:=(g.c (by omega)).2.2;unfold nz;rw [aA e];exact this
   refine⟨g.grow a.1 a.2.1 a.2.2 d bm,by show s1.hd+(s1.j+1)=_;omega⟩
theorem Nm (R:Nat->PC) (E T n k:Nat) (a:SS) (h:srun R E T n (List.range k) (SS.start T)=some a) (b:a.tL R E T n k=false):dC (Rp R n) E T a.rs a.hd/\∀c d,¬Rec (Rp R n) E a.hd c d:=by
 obtain⟨f,e⟩:=uX R E T n k a h;refine⟨f.t,f.ends (λg=>?_)⟩;unfold SS.tL at b;rw [(SS.QQ R T n e),<-e] at b;have:=(DR (q:=Rp R n (a.hd+a.j))).2 g;rw [show R ((a.hd+a.j)%n)=Rp R n (a.hd+a.j) from rfl,this] at b;cases b
theorem Nn (R:Nat->PC) (E T n:Nat) (e:1<=n) (a:SS) (h:srun R E T n (List.range n) (SS.start T)=some a):dC (Rp R n) E T a.rs a.hd/\∀c d,¬Rec (Rp R n) E a.hd c d:=by
 obtain⟨b,f⟩:=uX R E T n n a h;exact⟨b.t,b.round e (tM R n) f⟩
end
theorem QR:(prog.info? 228).map (·.size)=some 4:=by kernel_rfl
abbrev y9 (e q i c:Int):Value:= .agg #[iV e,iV q,iV i,iV c]
theorem Gd (e q i c:Nat) (w:World) (a:c<=100000):
  Calls prog 196 #[y9 e q i c] w λr w'=>r= .returned (.bool (decide (i+1=c)))/\bW w w':=by
 have hd:decide (i+1=c)=((i:Int) == (c:Int)-1):=by
  rw [Bool.eq_iff_iff];simp only [decide_eq_true_eq,beq_iff_eq];omega
 rw [hd];go_in;go_wp2;go_ret;exact⟨rfl,(yh (aI w (.cells #[.int .i64 (e:Int), .int .i64 (q:Int), .int .i64 (i:Int), .int .i64 (c:Int)] 228))).out⟩
theorem QS (e q i c:Nat) (w:World) (d:q<=4294967296) (f:i<=4294967296):
  Calls prog 216 #[y9 e q i c] w λr w'=>r= .returned (y9 e ((q+1:Nat):Int) ((i+1:Nat):Int) c)/\bW w w':=by
 have a:((q+1:Nat):Int)=(q:Int)+1:=by omega
 have b:((i+1:Nat):Int)=(i:Int)+1:=by omega
 rw [a,b];go_in;go_wp2;exact bodyPost_ret (results_cell_row (P:=prog) rfl _ _ (w.heap.size+1) 228 #[iV (e:Int),iV ((q:Int)+1),iV ((i:Int)+1),iV (c:Int)] (0,0) _ rfl (by have:=heap_alloc_new (w.alloc (.cells #[.int .i64 (e:Int), .int .i64 ((q:Int)+1), .int .i64 ((i:Int)+1), .int .i64 (c:Int)] 228)) (.cells #[.int .i64 (e:Int), .int .i64 ((q:Int)+1), .int .i64 ((i:Int)+1), .int .i64 (c:Int)] 228);rwa [World.size_alloc] at this) underlying228 rfl QR) rfl ⟨rfl,iI _ _ _⟩
theorem acH (q:PC) (a:Option Addr) (n k:Nat) (E P i c:Nat) (w:World) (h:¬(q.e=E/\q.p=P/\q.i=i/\q.c=c)):
  Calls prog 195 #[kW q.e q.p q.i q.c a n k,y9 E P i c] w λr w'=>r= .returned (.bool false)/\bW w w':=by
 go_in;go_wp2;all_goals first|(go_ret;exact⟨rfl,iI _ _ _⟩)|(exfalso;omega)
theorem Za (e p i c:Nat) (d:List Int) (a:Option Addr) (k:Nat) (w:World):
  Calls prog 195 #[kW e p i c a d.length k,y9 e p i c] w λr w'=>r= .returned (.bool (Gc ⟨e,p,i,c,d⟩ e p i c))/\bW w w':=by
 by_cases q:c<1
 .have Yw:(c:Int)<1:=by omega
  rw [show Gc ⟨e,p,i,c,d⟩ e p i c=false by unfold Gc;rw [decide_eq_false_iff_not];omega];go_in;go_wp2;go_ret;exact⟨rfl,iI _ _ _⟩
 .have Yw:¬(c:Int)<1:=by omega
  by_cases s:17<c
  .have j:17<(c:Int):=(by omega);rw [show Gc ⟨e,p,i,c,d⟩ e p i c=false by unfold Gc;rw [decide_eq_false_iff_not];omega];go_in;go_wp2;go_ret;exact⟨rfl,iI _ _ _⟩
  .have j:¬17<(c:Int):=(by omega);have g:=λwx=>Gd e p i c wx (by omega);have b:=yh (iI w (.cells (eI e p i c a d.length k) 230) (.cells #[.int .i64 (e:Int), .int .i64 (p:Int), .int .i64 (i:Int), .int .i64 (c:Int)] 228));have rl:((w.alloc (.cells (eI e p i c a d.length k) 230)).alloc (.cells #[.int .i64 (e:Int), .int .i64 (p:Int), .int .i64 (i:Int), .int .i64 (c:Int)] 228)).heap[w.heap.size]? =some (.cells (eI e p i c a d.length k) 230 (0,0)):=(Below.heap_alloc _ _ _ (by simp)).trans (heap_alloc_new _ _);have l:=yh rl;by_cases f:i+1=c
   .rw [show Gc ⟨e,p,i,c,d⟩ e p i c=decide (0<d.length) by unfold Gc;rw [decide_eq_decide];constructor;(intro h;exact h.2.2.2.2.1);(intro h;exact⟨rfl,rfl,rfl,rfl,h,λn=>absurd f n,by omega,by omega⟩)];rw [show decide (i+1=c)=true by rw [decide_eq_true_eq];exact f] at g;go_in;go_wp2_with fail;refine(g _).mono ?_;rintro r w1 ⟨rfl,aq⟩;have m:w1.cell? (aD w.heap.size 4)=some (.slice a d.length k):=gz ((aq.block _ (by simp;omega)).trans l.o);go_wp2;go_ret;exact⟨rfl,(yh (b.o.trans (aq.mono b.o.size))).out⟩
   .rw [show Gc ⟨e,p,i,c,d⟩ e p i c=((d.length:Int) == 492) by unfold Gc;rw [Bool.eq_iff_iff];rw [decide_eq_true_iff,beq_iff_eq];constructor;(intro h;have:d.length=492:=h.2.2.2.2.2.1 f;omega);(intro h;exact⟨rfl,rfl,rfl,rfl,by show 0<d.length;omega,λ_=>by show d.length=492;omega,by omega,by omega⟩)];rw [show decide (i+1=c)=false by rw [decide_eq_false_iff_not];exact f] at g;go_in;go_wp2_with fail;refine(g _).mono ?_;rintro r w1 ⟨rfl,aq⟩;have m:w1.cell? (aD w.heap.size 4)=some (.slice a d.length k):=gz ((aq.block _ (by simp;omega)).trans l.o);go_wp2;go_ret;exact⟨rfl,(yh (b.o.trans (aq.mono b.o.size))).out⟩
theorem QT (q:PC) (a:Option Addr) (k:Nat) (E P i c:Nat) (w:World):
  Calls prog 195 #[kW q.e q.p q.i q.c a q.d.length k,y9 E P i c] w λr w'=>r= .returned (.bool (Gc q E P i c))/\bW w w':=by
 by_cases h:q.e=E/\q.p=P/\q.i=i/\q.c=c
 .obtain⟨rfl,rfl,rfl,rfl⟩:=h;exact Za q.e q.p q.i q.c q.d a k w
 .rw [show Gc q E P i c=false by unfold Gc;rw [decide_eq_false_iff_not];exact λb=>h ⟨b.1,b.2.1,b.2.2.1,b.2.2.2.1⟩];exact acH q a q.d.length k E P i c w h
end Go.Proofs.YtenlkgicpllbhaaGreat
