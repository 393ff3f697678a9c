import Derived.Test.YtenlkgicpllbhaaGreatW01
import Derived.Test.YtenlkgicpllbhaaGreatW04
import Derived.Test.YtenlkgicpllbhaaGreatW09
import Derived.Test.YtenlkgicpllbhaaGreatW12
import Derived.Test.YtenlkgicpllbhaaGreatW13
import Derived.OwnWalk
import Derived.Deep.RegionLaw
set_option maxRecDepth 20000
set_option maxHeartbeats 8000000
set_option linter.all false
namespace Go.Proofs.YtenlkgicpllbhaaGreat
open Go.Proofs.Tryz
open Go.RowKit Go.Maps
variable {ms:CM} {S':DS} {us:List (Nat×List Int)} {d l:List Int} {c g h0 i k n p:Nat} {w w' w0 w1 w2:World}
theorem vo:∀k m,leb (k+1) m=leb k m ++ [((m / 256 ^ k%256:Nat):Int)]
 |0,m=>by simp [leb]
 |k+1,m=>by
  rw [leb,vo k (m / 256),leb];simp [Nat.div_div_eq_div_mul,Nat.pow_succ,Nat.mul_comm]
theorem oC:∀k m,Bytes (leb k m)
 |0,_=>by intro x a;cases a
 |k+1,m=>by
  intro x a;rcases List.mem_cons.1 a with rfl|a
  .omega
  .exact oC k _ x a
def vp (w:World) (B p:Nat) (l:List Int):Prop:=
 B<=p/\B<=w.heap.size/\∃v,w.heap[p]? =some (.cells #[v] 140 (0,0))/\w.ownsRow B 5 1 v l.length (bs l)/\v.ownBlock≠some p
theorem vp.put {B:Nat} {a:List Int} {v:Value} (i:B<=p) (b:B<=w.heap.size) (f:w.heap[p]? =some (.cells #[v] 140 (0,0))) (l:v.ownBlock≠some p) (bm:∀k,v.ownBlock=some k->B<=k)
    (aO:w.grownBy w1 v.ownBlock) (az:w1.ownsRow B 5 1 (.slice (some (aD g 0)) a.length c) a.length (bs a)):
  w1.cell? (aD p 0)=some v/\w1.frozen? (aD p 0)=false/\vp (w1.setCell ⟨p,0,none⟩ (.slice (some ⟨g,0,none⟩) a.length c)) B p a/\Below B w (w1.setCell ⟨p,0,none⟩ (.slice (some ⟨g,0,none⟩) a.length c)):=by
 have oY:=(aO.block p ((kN.1 f).1) (λe=>l e.symm)).trans f;have d:g≠p:=by
  obtain⟨o,c',n,_,m,_⟩:=ay.eW az (by simp);cases n;exact m.ne oY (by decide)
 refine⟨aj oY rfl,ae oY 0,⟨i,?_,_,heap_setCell_same _ _ _ _ _ _ oY,?_,?_⟩,?_⟩
 .simp [World.setCell];exact jQ b aO.size
 .exact az.kept (mH w1 ⟨p,0,none⟩ _) (.inr (by simpa [Value.ownBlock] using d))
 .simpa [Value.ownBlock] using d
 .exact((bi _ w).grown aO b (λk e=>bm k e)).trans ((aa.setCell (F:=λj=>j=p) (p:=⟨p,0,none⟩) w1 rfl _).below (λj q=>by omega) (jQ b aO.size))
theorem mA (p B:Nat) (l:List Int) (m a:Nat) (w:World) (h:vp w B p l) (O:l.length+a<=100000) (P:m<=9223372036854775807):
  Calls prog 100 #[pQ p,iV (m:Int),iV (a:Int)] w λe w'=>e= .returned (.tuple #[])/\vp w' B p (l ++ leb a m)/\Below B w w':=by
 obtain⟨M,J,gv,dr,ec⟩:=info_parts fW;have H:=h;clear h;go_in;go_wp2;go_loopw [1,7] (λr i wr=>∃k:Nat,k<=a/\i=iV k/\r=iV ((m / 256 ^ k:Nat):Int)/\vp wr B p (l ++ leb k m)/\Below B w wr) (λ_ i _=>a-(intOf i).toNat);case atStart=>exact⟨0,dU _,rfl,by simp,by simpa [leb] using H,bi _ _⟩
 case round=>
  obtain⟨k,N,rfl,rfl,ic,dO⟩:=hrel;by_cases bm:k<a
  .have cw:(k:Int)<(a:Int):=(by omega);obtain⟨F,L,v,j,az,A⟩:=ic;have du:=aL j;have b:(l ++ leb k m).length=l.length+k:=(by simp [aH]);rw [b] at az;have x:m / 256 ^ (k+1)=m / 256 ^ k / 256:=(by rw [Nat.div_div_eq_div_mul,Nat.pow_succ]);have y:=vo k m;generalize G:m / 256 ^ k=Q at*;obtain⟨bq,d,s,t,Pb,LT⟩:=kQ az j dO A x y;clear az j dO A G x y;go_wp2_with (at_builtin;refine wpList_append_own _ rfl _ _ 36 rfl B 5 M (.int .u8 0) 1 1 underlying36 J gv dr ec rfl (by decide) _ _ _ rfl (bq.alloc _) (aD wr.heap.size 0) 1 1 [.int .u8 ((Q:Int)%256)] rfl rfl ?n1 ?n2 ?n3 ?n4 ?n5 ?_);case n1=>exact cell_one_new _ _ _
   case n2=>intro u C;simp at C;subst C;rfl
   case n3=>unfold maxLen;omega
   case n4=>omega
   case n5=>simp;omega
   intro T w1 cJ kU jx;obtain⟨g,c,rfl,I,K,BA⟩:=ay.eW cJ jx;have z:List.map (Value.int .u8) l ++ (List.map (Value.int .u8) (leb k m) ++ [.int .u8 ((Q:Int)%256)])=bs (l ++ leb (k+1) m):=by
    rw [LT];simp [bs]
   have f:l.length+k+1=(l ++ leb (k+1) m).length:=(by simp [aH];omega);rw [z,f] at cJ;have n:B<=(wr.alloc (.cells #[.int .u8 ((Q:Int)%256)] 5)).heap.size:=(by simp;omega);have pf:=(kN.1 d).1;obtain⟨R,S,o,q⟩:=vp.put F n ((Below.heap_alloc _ _ _ pf).trans d) t (λk e=>(bq.lt k e).1) kU cJ;rw [<-f] at o q;have E:=(aF o (((s.alloc L _).trans q)));clear cJ kU jx K I z f o q bq d s t LT;go_wp2;go_roundw;case rel=>exact⟨k+1,by omega,by go_num,by rw [Pb];simp,E⟩
   case measure=>simp [intOf];omega
  .have cw:¬(k:Int)<(a:Int):=(by omega);have oU:k=a:=(by omega);subst oU;have D:=(aF ic dO);clear ic dO;go_wp2
   go_end0
   exact⟨rfl,D⟩
def Pq (s:ByteArray):List Int:=s.data.toList.map (λb=>(b.toNat:Int))
theorem VO (s:ByteArray):(Pq s).length=s.size:=by simp [Pq]
theorem N4 (s:ByteArray):Lib.strCells s=bs (Pq s):=by simp [Lib.strCells,bs,Pq]
theorem N5 (p B:Nat) (l:List Int) (s:ByteArray) (w:World) (h:vp w B p l) (D:0<s.size) (C:l.length+s.size<=100000):
  Calls prog 99 #[pQ p, .string s] w λe w'=>e= .returned (.tuple #[])/\vp w' B p (l ++ Pq s)/\Below B w w':=by
 obtain⟨z,x,gv,dr,ec⟩:=info_parts fW;obtain⟨t,q,v,b,az,n⟩:=h;obtain⟨du,bq,j,i⟩:=cM (aL b) az b n;clear az b n;go_in;go_wp2_with (at_builtin;refine Lib.wpList_append_own_string _ rfl _ _ 36 9 rfl B 5 z underlying36 underlying9 x gv dr ec _ _ _ rfl bq s rfl ?n3 ?n4 ?n5 ?_);case n3=>unfold maxLen;omega
 case n4=>omega
 case n5=>exact q
 intro A w1 cJ kU jx;have o:A≠ .slice none 0 0:=by rintro rfl;rcases cJ.2 with ⟨_,h⟩|⟨_,_,_,h,_⟩;omega;cases h
 obtain⟨g,c,rfl,u,y,BA⟩:=ay.eW cJ o;rw [N4] at cJ;have m:bs l ++ bs (Pq s)=bs (l ++ Pq s):=by simp [bs]
 have a:l.length+s.size=(l ++ Pq s).length:=by simp [VO]
 rw [m,a] at cJ;obtain⟨E,F,d,f⟩:=vp.put t q j i (λk e=>(bq.lt k e).1) kU cJ;rw [<-a] at d f;have r:=(aF d f);clear cJ kU jx y u m a d f bq j i o BA;go_wp2
 go_end0
 exact⟨rfl,r⟩
theorem Kx {b:Array Oper} {o:Oper} {a:Act} {K:Act->World->Prop} {Q:Exit->Act->World->Prop} {E:Prop}
    (e:o.guard=none) (s x:Operand) (l7:o.op=Op.call {callee:=Callee.builtin Builtin.append,args:= #[s,x],argTypes:= #[36,3]})
    (base:Nat) (v:Value) (n:Nat) (l:List Int) (m:Nat) (i:a.eval s=v) (k:a.eval x=iV (m:Int)) (az:w.ownsRow base 5 1 v n (bs l)) (f:n+m<=1000000) (Ac:base<=w.heap.size) (uY:0<n+m)
    (d:∀g c w',w'.ownsRow base 5 1 (.slice (some (aD g 0)) (n+m) c) (n+m) (bs (l ++ List.replicate m 0))->w.grownBy w' v.ownBlock->K (a.put o.dst (.slice (some (aD g 0)) (n+m) c)) w'):
  if Region.wanted o (yielded b a.tmps)=true then Oper.wp prog o a w K Q else E:=by
 have j:Region.wanted o (yielded b a.tmps)=true:=by simp [Region.wanted,e]
 rw [aE j];obtain⟨g,c,w',bC,p,q⟩:=Ea w base o.type v n l m az f Ac uY;unfold Oper.wp;simp [execOp,l7,resolve,invoke,builtin,i,k,bC,Result.andThen];exact d g c w' p q
theorem Ky (p B:Nat) (l:List Int) (m:Nat) (w:World) (h:vp w B p l) (vJ:0<l.length) (A:l.length+m<=100000):
  Calls prog 101 #[pQ p,iV ((l.length+m:Nat):Int)] w λe w'=>e= .returned (.tuple #[])/\vp w' B p (l ++ List.replicate m 0)/\Below B w w':=by
 obtain⟨s,o,v,n,az,x⟩:=h;obtain⟨g,c,y,u,C,_⟩:=ay.eW az (by rintro rfl;rcases az.2 with ⟨_,h⟩|⟨_,_,_,h,_⟩;omega;cases h);subst y;have du:=aL n;have j7:w.drew.ownsRow B 5 1 (.slice (some (aD g 0)) l.length c) l.length (bs l):=az;have adC:((l.length+m:Nat):Int)-(l.length:Int)=(m:Int):=by omega
 have ai5:∀{f d:Nat} {a:World},a.ownsRow B 5 1 (.slice (some (aD f 0)) (l.length+m) d) (l.length+m) (bs (l ++ List.replicate m 0))->w.drew.grownBy a (Value.ownBlock (.slice (some (aD g 0)) l.length c))->
   a.cell? (aD p 0)=some (.slice (some (aD g 0)) l.length c)/\a.frozen? (aD p 0)=false/\Yh (vp (a.setCell ⟨p,0,none⟩ (.slice (some ⟨f,0,none⟩) (l.length+m) d)) B p (l ++ List.replicate m 0)/\Below B w (a.setCell ⟨p,0,none⟩ (.slice (some ⟨f,0,none⟩) (l.length+m) d))):=by
  intro f d a fE jU;have j:l.length+m=(l ++ List.replicate m (0:Int)).length:=by simp
  rw [j] at fE;obtain⟨q,r,i,b⟩:=vp.put (w:=w.drew) s o n x (λk e=>(az.lt k e).1) jU fE;rw [<-j] at i b;exact⟨q,r,i,⟨b.os,b.tape,b.output,b.size,b.block⟩⟩
 have z:IntKind.i64.wrap (m:Int)=(m:Int):=by rw [IntKind.wrap_i64];omega
 generalize t:l.length+m=N at*;go_in;go_wp2
 go_region_law
  (first
   |(refine Kx (by rfl) _ _ (by rfl) B (.slice (some (aD g 0)) l.length c) l.length l m (by rfl) (by rfl) (yh j7).out (by omega) o (by omega) ?_;intro f d a fE jU;obtain⟨q,r,i⟩:=ai5 (t▸fE) jU))
 all_goals
  go_end0
  exact⟨rfl,i.out⟩
def vq (s l n:Int):Prop:=(18<=l/\l<=256)/\(4<=n/\n<=1024)/\n%4=0/\(l+n / 4+6<=s/\s<=2048)
def xN (s l n:Int) (v:Value) (x:Int):Prop:=
   (vq s l n/\v= .agg #[iV l,iV (3+l),iV (s-(3+l)),iV n,iV (2+n / 4)]/\x=0)\/(¬vq s l n/\v= .agg #[iV 0,iV 0,iV 0,iV 0,iV 0]/\x=22)
theorem bY (w:World) (a b:Obj):bW w ((w.alloc a).alloc b):=Below.alloc (Below.alloc (bi _ _) (bP _) _) (by simp) _
theorem qS (s l n:Int) (w:World) (c:18<=l) (d:l<=256) (f:4<=n) (g:n<=1024) (a:n%4=0) (s1:l+n / 4+6<=s) (s2:s<=2048):
  Calls prog 98 #[.agg #[iV s,iV l,iV n]] w λe w'=>e= .returned (.tuple #[.agg #[iV l,iV (3+l),iV (s-(3+l)),iV n,iV (2+n / 4)],iV 0])/\bW w w':=by
 have b:n.tmod 4=n%4:=Int.tmod_eq_emod_of_nonneg (by omega);have hd:n.tdiv 4=n / 4:=Int.tdiv_eq_ediv_of_nonneg (by omega);have s3:3+l+(2+n / 4)+1<=s:=by omega
 go_in;go_wp2;refine bodyPost_ret (v:= .tuple #[.agg #[iV l,iV (3+l),iV (s-(3+l)),iV n,iV (2+n / 4)],iV 0]) (by simp [results,results98,go_sem]) rfl ⟨rfl,bY w _ _⟩
theorem N6 (s l n:Int) (w:World) (h:¬(18<=l/\l<=256)):
  Calls prog 98 #[.agg #[iV s,iV l,iV n]] w λe w'=>e= .returned (.tuple #[.agg #[iV 0,iV 0,iV 0,iV 0,iV 0],iV 22])/\bW w w':=by
 by_cases a:18<=l
 .have b:¬l<=256:=by omega
  go_in;go_wp2;exact bodyPost_ret (v:= .tuple #[.agg #[iV 0,iV 0,iV 0,iV 0,iV 0],iV 22]) (by simp [results,results98,go_sem]) rfl ⟨rfl,bY w _ _⟩
 .have c:l<18:=by omega
  go_in;go_wp2;exact bodyPost_ret (v:= .tuple #[.agg #[iV 0,iV 0,iV 0,iV 0,iV 0],iV 22]) (by simp [results,results98,go_sem]) rfl ⟨rfl,bY w _ _⟩
theorem N7 (s l n:Int) (w:World) (d:18<=l) (f:l<=256) (h:¬(4<=n/\n<=1024)):
  Calls prog 98 #[.agg #[iV s,iV l,iV n]] w λe w'=>e= .returned (.tuple #[.agg #[iV 0,iV 0,iV 0,iV 0,iV 0],iV 22])/\bW w w':=by
 by_cases a:4<=n
 .have b:¬n<=1024:=by omega
  go_in;go_wp2;exact bodyPost_ret (v:= .tuple #[.agg #[iV 0,iV 0,iV 0,iV 0,iV 0],iV 22]) (by simp [results,results98,go_sem]) rfl ⟨rfl,bY w _ _⟩
 .have c:n<4:=by omega
  go_in;go_wp2;exact bodyPost_ret (v:= .tuple #[.agg #[iV 0,iV 0,iV 0,iV 0,iV 0],iV 22]) (by simp [results,results98,go_sem]) rfl ⟨rfl,bY w _ _⟩
theorem N8 (s l n:Int) (w:World) (c:18<=l) (d:l<=256) (f:4<=n) (g:n<=1024) (h:¬n%4=0):
  Calls prog 98 #[.agg #[iV s,iV l,iV n]] w λe w'=>e= .returned (.tuple #[.agg #[iV 0,iV 0,iV 0,iV 0,iV 0],iV 22])/\bW w w':=by
 have b:n.tmod 4=n%4:=Int.tmod_eq_emod_of_nonneg (by omega);have a:(n%4 != 0)=true:=by rw [fT];exact h
 go_in;go_wp2;exact bodyPost_ret (v:= .tuple #[.agg #[iV 0,iV 0,iV 0,iV 0,iV 0],iV 22]) (by simp [results,results98,go_sem]) rfl ⟨rfl,bY w _ _⟩
theorem N9 (s l n:Int) (w:World) (g:18<=l) (i:l<=256) (j:4<=n) (k:n<=1024) (c:n%4=0) (h:¬(l+n / 4+6<=s/\s<=2048)):
  Calls prog 98 #[.agg #[iV s,iV l,iV n]] w λe w'=>e= .returned (.tuple #[.agg #[iV 0,iV 0,iV 0,iV 0,iV 0],iV 22])/\bW w w':=by
 have f:n.tmod 4=n%4:=Int.tmod_eq_emod_of_nonneg (by omega);have hd:n.tdiv 4=n / 4:=Int.tdiv_eq_ediv_of_nonneg (by omega);by_cases b:3+l+(2+n / 4)+1<=s
 .have a:¬s<=2048:=by omega
  go_in;go_wp2;exact bodyPost_ret (v:= .tuple #[.agg #[iV 0,iV 0,iV 0,iV 0,iV 0],iV 22]) (by simp [results,results98,go_sem]) rfl ⟨rfl,bY w _ _⟩
 .have d:s<3+l+(2+n / 4)+1:=by omega
  by_cases a:2048<s
  .omega
  .clear h;go_in;go_wp2;exact bodyPost_ret (v:= .tuple #[.agg #[iV 0,iV 0,iV 0,iV 0,iV 0],iV 22]) (by simp [results,results98,go_sem]) rfl ⟨rfl,bY w _ _⟩
theorem GO (s l n:Int) (w:World):
  Calls prog 98 #[.agg #[iV s,iV l,iV n]] w λe w'=>∃v x,e= .returned (.tuple #[v,iV x])/\xN s l n v x/\bW w w':=by
 have b:¬vq s l n->∀(e:Ending) (w':World),(e= .returned (.tuple #[.agg #[iV 0,iV 0,iV 0,iV 0,iV 0],iV 22])/\bW w w')->∃v x,e= .returned (.tuple #[v,iV x])/\xN s l n v x/\bW w w':=
  λi e w' h=>⟨_,_,h.1, .inr ⟨i,rfl,rfl⟩,h.2⟩
 by_cases a:18<=l/\l<=256
 .by_cases c:4<=n/\n<=1024
  .by_cases d:n%4=0
   .by_cases f:l+n / 4+6<=s/\s<=2048
    .exact(qS s l n w a.1 a.2 c.1 c.2 d f.1 f.2).mono (λe w' h=>⟨_,_,h.1, .inl ⟨⟨a,c,d,f⟩,rfl,rfl⟩,h.2⟩)
    .exact(N9 s l n w a.1 a.2 c.1 c.2 d f).mono (b (λg=>f g.2.2.2))
   .exact(N8 s l n w a.1 a.2 c.1 c.2 d).mono (b (λg=>d g.2.2.1))
  .exact(N7 s l n w a.1 a.2 c).mono (b (λg=>c g.2.1))
 .exact(N6 s l n w a).mono (b (λg=>a g.1))
theorem vp.lI {B:Nat} (h:vp w B p l) (a:bW w w'):vp w' B p l:=by
 obtain⟨c,f,v,b,az,e⟩:=h;exact⟨c,jQ f a.size,v,(a.block p ((kN.1 b).1)).trans b,az.kept (row:=none) ⟨a.os,a.tape,a.output,a.size,λk d _=>a.block k d⟩ (by cases g:v.ownBlock <;> simp),e⟩
theorem vp.new (w:World):vp (w.alloc (.cells #[.slice none 0 0] 140)) w.heap.size w.heap.size []:=
   ⟨bP _,by simp,_,heap_alloc_new w _,World.ownsRow_nil _ _ _ _,by simp [Value.ownBlock]⟩
theorem vp.row {B:Nat} (h:vp w B p l) (h0:0<l.length):∃g c,w.cell? (aD p 0)=some (.slice (some (aD g 0)) l.length c)/\B<=g/\ay w 5 g c (bs l):=by
 obtain⟨f,j,v,b,az,i⟩:=h;obtain⟨g,c,e,a,d,_⟩:=ay.eW az (by rintro rfl;rcases az.2 with ⟨_,h⟩|⟨_,_,_,h,_⟩;omega;cases h);subst e;exact⟨g,c,aj b rfl,a,d⟩
def eR (l:List Int):List Int:=l ++ leb 4 (sumOf l)
theorem oD (l:List Int):(eR l).length=l.length+4:=by simp [eR,aH]
theorem GP (p B:Nat) (l:List Int) (w:World) (h:vp w B p l) (h0:0<l.length) (m:l.length+4<=100000) (d:Bytes l):
  Calls prog 102 #[pQ p] w λe w'=>∃g c,e= .returned (.slice (some (aD g 0)) (l.length+4) c)/\B<=g/\ay w' 5 g c (bs (eR l))/\Below B w w':=by
 obtain⟨g,c,du,q,n⟩:=h.row h0;have o:=h.2.1;have FP:=xx (some (aD g 0)) l.length c l w d (by omega) n.src;have r:=ng d;have k:=(show eR l=l ++ leb 4 (sumOf l) from rfl);generalize sumOf l=S at*;go_in;go_wp2_with fail;refine bE FP λw1 aq=>?_;have dP:Calls prog 100 #[pQ p,iV (S:Int),iV 4] w1 λe w'=>e= .returned (.tuple #[])/\vp w' B p (l ++ leb 4 S)/\Below B w1 w':=mA p B l S 4 w1 (h.lI aq) m (by omega);have cN:=aq.mono o;go_wp2_with fail;refine fk dP λf uL aW=>?_;obtain⟨a,b,ZJ,fU,fb⟩:=uL.row (by simp [aH]);have j:(l ++ leb 4 S).length=l.length+4:=by simp [aH]
 rw [j] at ZJ;have i:(B<=a/\ay f 5 a b (bs (eR l))/\Below B w f):=⟨fU,by rw [k];exact fb,cN.trans aW⟩;go_wp2;go_ret;exact⟨a,b,rfl,i⟩
def XM:ByteArray:=⟨#[118,101,108,108,117,109,0,1]⟩
def gq:List Int:= [118,101,108,108,117,109,0,1]
theorem RT:Pq XM=gq:=by decide+kernel
def bM (s l n:Nat):List Int:=gq ++ leb 4 s ++ leb 4 l ++ leb 4 n ++ List.replicate 488 0
theorem dD (s l n:Nat):(bM s l n).length=508:=by simp only [bM,gq,dT,aH,List.length_replicate,List.length_cons,List.length_nil]
theorem gM (s l n:Nat):Bytes (bM s l n):=by
 intro x a;simp only [bM,List.mem_append] at a;rcases a with (((h|h)|h)|h)|h
 .simp [gq] at h;omega
 .exact oC _ _ x h
 .exact oC _ _ x h
 .exact oC _ _ x h
 .have:=List.eq_of_mem_replicate h;omega
def Made (w w':World) (v:Value) (l:List Int):Prop:=∃g c,v= .slice (some (aD g 0)) l.length c/\w.heap.size<=g/\ay w' 5 g c (bs l)/\bW w w'
theorem GQ (s l n:Nat) (w:World) (j:vq s l n):
  Calls prog 46 #[.agg #[iV (s:Int),iV (l:Int),iV (n:Int)]] w λe w'=>∃v,e= .returned (.tuple #[v,iV 0])/\Made w w' v (eR (bM s l n)):=by
 obtain⟨⟨r,t⟩,⟨u,x⟩,p,s1,s2⟩:=j;go_in;go_wp2_with fail;refine((λw=>qS s l n w r t u x p s1 s2) _).mono ?_;rintro e w1 ⟨rfl,aq⟩;have bK:=((bi _ w).alloc (bP _) _).trans (aq.mono (by simp));have k:w1.heap[w.heap.size]? =some (.cells #[.int .i64 (s:Int), .int .i64 (l:Int), .int .i64 (n:Int)] 39 (0,0)):=(aq.block _ (by simp)).trans (heap_alloc_new _ _);have A5:=(kN.1 k).1;have zz:=λo=>by have:=vp.new (w1.alloc o);simpa using this
 have a:∀o,bW w ((w1.alloc o).alloc (.cells #[.slice none 0 0] 140))/\((w1.alloc o).alloc (.cells #[.slice none 0 0] 140)).heap[w.heap.size]? =some (.cells #[.int .i64 (s:Int), .int .i64 (l:Int), .int .i64 (n:Int)] 39 (0,0)):=λo=>
    ⟨(bK.alloc (by omega) _).alloc (by simp;omega) _,(Below.heap_alloc _ _ _ (by simp;omega)).trans ((Below.heap_alloc _ _ _ A5).trans k)⟩
 have bm:w.heap.size<w1.heap.size+1:=by omega
 go_wp2_with fail;refine((λo=>N5 (w1.heap.size+1) (w1.heap.size+1) [] XM _ (zz o) (by decide) (by decide)) _).mono ?_;rintro e d ⟨rfl,uL,aW⟩;obtain⟨eM,qC⟩:bW w d/\d.heap[w.heap.size]? =some (.cells #[.int .i64 (s:Int), .int .i64 (l:Int), .int .i64 (n:Int)] 39 (0,0)):=⟨(a _).1.trans (aW.mono (by omega)),(aW.block _ bm).trans (a _).2⟩;rw [RT,List.nil_append] at uL;have A:=aL qC;have mg:Calls prog 100 #[.pointer (some ⟨w1.heap.size+1,0,none⟩),iV (s:Int),iV 4] d λe w'=>e= .returned (.tuple #[])/\vp w' (w1.heap.size+1) (w1.heap.size+1) (gq ++ leb 4 s)/\Below (w1.heap.size+1) d w':=mA _ _ _ s 4 d uL (by decide) (by omega);go_wp2_with fail;refine fk mg λf ai6 bz=>?_;obtain⟨jK,NY⟩:bW w f/\f.heap[w.heap.size]? =some (.cells #[.int .i64 (s:Int), .int .i64 (l:Int), .int .i64 (n:Int)] 39 (0,0)):=⟨eM.trans (bz.mono (by omega)),(bz.block _ bm).trans qC⟩;have C:=bD NY;have xA:Calls prog 100 #[.pointer (some ⟨w1.heap.size+1,0,none⟩),iV (l:Int),iV 4] f λe w'=>e= .returned (.tuple #[])/\vp w' (w1.heap.size+1) (w1.heap.size+1) (gq ++ leb 4 s ++ leb 4 l)/\Below (w1.heap.size+1) f w':=mA _ _ _ l 4 f ai6 (by rw [dT,aH];decide) (by omega);go_wp2_with fail;refine fk xA λi DV fe=>?_;obtain⟨sW,Oa⟩:bW w i/\i.heap[w.heap.size]? =some (.cells #[.int .i64 (s:Int), .int .i64 (l:Int), .int .i64 (n:Int)] 39 (0,0)):=⟨jK.trans (fe.mono (by omega)),(fe.block _ bm).trans NY⟩;have D:=bH Oa;have ZB:Calls prog 100 #[.pointer (some ⟨w1.heap.size+1,0,none⟩),iV (n:Int),iV 4] i λe w'=>e= .returned (.tuple #[])/\vp w' (w1.heap.size+1) (w1.heap.size+1) (gq ++ leb 4 s ++ leb 4 l ++ leb 4 n)/\Below (w1.heap.size+1) i w':=mA _ _ _ n 4 i DV (by rw [dT,dT,aH,aH];decide) (by omega);go_wp2_with fail;refine fk ZB λw5 ai7 ff=>?_;have b:(gq ++ leb 4 s ++ leb 4 l ++ leb 4 n).length=20:=by rw [dT,dT,dT,aH,aH,aH];rfl
 have QF:Calls prog 101 #[.pointer (some ⟨w1.heap.size+1,0,none⟩),iV 508] w5 λe w'=>e= .returned (.tuple #[])/\vp w' (w1.heap.size+1) (w1.heap.size+1) (bM s l n)/\Below (w1.heap.size+1) w5 w':=by
  have:=Ky _ _ _ 488 w5 ai7 (by rw [b];decide) (by rw [b];decide);rw [b] at this;exact this
 go_wp2_with fail;refine fk QF λy ai9 ny=>?_;have NR:=GP _ _ _ y ai9 (by rw [dD];decide) (by rw [dD];decide) (gM s l n);rw [dD] at NR;go_wp2_with fail;refine NR.mono ?_;rintro e z ⟨g,c,rfl,j,q,vU⟩;have m:(Made w z (.slice (some (aD g 0)) 512 c) (eR (bM s l n))):=⟨g,c,by rw [oD,dD],by omega,q,((sW.trans (ff.mono (by omega))).trans (ny.mono (by omega))).trans (vU.mono (by omega))⟩;go_wp2;go_ret2;exact⟨_,rfl,m⟩
theorem Eb (s l n:Int) (w:World) (b:¬vq s l n):
  Calls prog 46 #[.agg #[iV s,iV l,iV n]] w λe w'=>e= .returned (.tuple #[.slice none 0 0,iV 22])/\bW w w':=by
 have c:∀w,Calls prog 98 #[.agg #[iV s,iV l,iV n]] w λe w'=>e= .returned (.tuple #[.agg #[iV 0,iV 0,iV 0,iV 0,iV 0],iV 22])/\bW w w':=λw=>by
  refine(GO s l n w).mono ?_;rintro e w' ⟨v,x,rfl,⟨h,_⟩|⟨_,rfl,rfl⟩,a⟩
  .exact absurd h b
  .exact⟨rfl,a⟩
 go_in;go_wp2_with fail;refine(c _).mono ?_;rintro e w1 ⟨rfl,aq⟩;have bK:=((bi _ w).alloc (bP _) _).trans (aq.mono (by simp));go_wp2;go_ret2;exact⟨rfl,(λo=>bK.alloc bK.size o) _⟩
section
abbrev gH (s l n:Nat):List Int:=eR (bM s l n)
def lZ (S:DS) (s:Nat):Int×DS:=eu S.take s 0 1
def mW (S:DS) (s:Nat):Int×DS:=eu (lZ S s).2 s 1 (s-1)
def jJ (S:DS) (s l:Nat):Int×DS:=cy (mW S s).2 s 1 (l:Int)
def l5 (S:DS) (s l n:Nat):Int×DS:=(jJ S s l).2.wr s 0 512 (gH s l n)
def ly (S:DS) (s l n:Nat):Int×DS:=
 if (lZ S s).1≠0 then lZ S s else if (mW S s).1≠0 then mW S s else if (jJ S s l).1≠0 then jJ S s l else if (l5 S s l n).1≠0 then l5 S s l n else (l5 S s l n).2.fl s
def RU (a b c:Int):Decidable (vq a b c):=by unfold vq;exact inferInstance
def bT (S:DS) (s:Nat) (a b c:Int):Int×DS:=
 if S.fuse=0 then (3,S) else haveI:=RU a b c;if vq a b c/\a=(s:Int) then ly S s b.toNat c.toNat else (22,S)
section
variable {w:World} {F:Nat->Prop} {p s cR:Nat} {S:DS}
theorem Mo {a b c:Int} (h:vq a b c):∃x y z:Nat,a=(x:Int)/\b=(y:Int)/\c=(z:Int):=by
 obtain⟨⟨e,f⟩,⟨g,i⟩,d,s1,s2⟩:=h;exact⟨a.toNat,b.toNat,c.toNat,by omega,by omega,by omega⟩
theorem j8 {S:DS} (h:S.fC) (s a n:Nat):(eu S s a n).2.fC:=by
 have b:=j6 h s a (ms:=eK n) (λx c=>by
  unfold eK at c;obtain⟨i,_,rfl⟩:=List.mem_map.1 c;intro v d;rw [zs,List.mem_replicate] at d;omega)
 unfold eu;split
 .exact b
 .exact b.fl s
theorem Ec (b:∀k,F k->k<w0.heap.size) (wH:aa F w0 w1) (hd:B.ax w2 (more (more F w0 w1) w1 w2) p s S' c) (a:aa (more F w0 w1) w1 w2):B.ax w2 (more F w0 w2) p s S' c/\aa F w0 w2:=
   ⟨hd.mono (uV wH.size a.size) (cG b (jQ wH.size a.size)),wH.trans a (λd h=>h.elim .inl (λh=> .inr h.1))⟩
theorem VP (b:∀k,F k->k<w0.heap.size) (wH:aa F w0 w1) (hd:B.ax w2 (more F w0 w1) p s S' c) (a:aa (more F w0 w1) w1 w2):B.ax w2 (more F w0 w2) p s S' c/\aa F w0 w2:=by
 have d:=a.size;exact⟨hd.mono (λk h=>h.elim .inl (λh=> .inr ⟨h.1,by omega⟩)) (cG b (jQ wH.size a.size)),wH.trans a (λk h=>h.elim .inl (λh=> .inr h.1))⟩
theorem tX {c':Nat} (b:∀k,F k->k<w.heap.size) (wH:aa F w w0) (h:B.ax w1 (more F w0 w1) p s S' c/\aa F w0 w1) (a:c<=c'):B.ax w1 (more F w w1) p s S' c'/\aa F w w1:=by
 have d:=wH.size;have e:=h.2.size;exact⟨(h.1.mono (λk h=>h.elim .inl (λh=> .inr ⟨by omega,h.2⟩)) (cG b (by omega))).le a,wH.trans h.2 (λk h=> .inl h)⟩
theorem tY (S:DS) (s:Nat) (f n:Int) (d:n<=256):(cy S s f n).2.puts.length<=S.puts.length+400:=by
 have a:=sm S.take s f.toNat n.toNat;have b:S.take.puts.length=S.puts.length:=rfl;have c:=zT (cK S.take s f.toNat n.toNat).2 s f.toNat 4294967296;unfold cy;split
 .show S.puts.length<=_;omega
 .split
  .omega
  .omega
theorem wl (h:B.ax w F p s S cR) (cZ:S.fC) (a b c:Int) (aT:S.puts.length+6000<=4000000000000):
  Calls prog 17 #[pQ p, .agg #[iV a,iV b,iV c]] w λe w'=>e= .returned (iV (bT S s a b c).1)/\B.ax w' (more F w w') p s (bT S s a b c).2 (cR+2)/\aa F w w':=by
 obtain⟨wB,VG⟩:=bQ (w.alloc (.cells #[.int .i64 a, .int .i64 b, .int .i64 c] 39));have Mk:bW w wB:=by rw [VG];exact aI _ _
 have hzB:wB.heap.size=w.heap.size+1:=by rw [VG,World.size_alloc]
 have dF:wB.heap[w.heap.size]? =some (.cells #[.int .i64 a, .int .i64 b, .int .i64 c] 39 (0,0)):=by rw [VG];exact heap_alloc_new _ _
 have iB:=h.later Mk;have h1:=B.yU iB;have ib:=h.lt;obtain⟨R,d⟩:=bQ (bT S s a b c);rw [<-d];unfold bT at d;subst VG;go_in;go_wp2_with fail;refine bE h1 λw1 bN=>?_;subst bN;by_cases J:S.fuse=0
 .rw [aE J] at d;have d1:(S.fuse == 0)=true:=by rw [beq_iff_eq];exact J
  rw [d1] at h1;go_wp2;go_ret;rw [d];exact⟨rfl,(iB.more (w:=w)).le (by omega),aa.ah F Mk⟩
 .rw [aA J] at d;have d1:(S.fuse == 0)=false:=by rw [eG];exact J
  rw [d1] at h1;by_cases C:vq a b c
  .obtain⟨x,y,z,rfl,rfl,rfl⟩:=Mo C;have I:=(λw=>GQ x y z w C);have mL:(gH x y z).length=512:=(by rw [gH,oD,dD]);obtain⟨c0,c1,c2,hgx,Mb⟩:=ey (aL dF) (bD dF) (bH dF) C.2.2.2.2 iB.ok.hi;by_cases ks:x=s
   .have ks':=ks.symm;subst ks';rw [aE ⟨C,rfl⟩] at d;simp only [Int.toNat_natCast] at d;have G:=I (w.alloc (.cells #[.int .i64 (s:Int), .int .i64 (y:Int), .int .i64 (z:Int)] 39));go_wp2_with fail;refine G.mono ?_;rintro e l ⟨v,rfl,g,cg,rfl,hg,aY,aW⟩;have ec:=aW.size;have E:=aL ((aW.block _ (by omega)).trans dF);have Vc:=((aW.block _ (by omega)).trans dF);have sj:=(iB.later aW);have ZK:=(λ(wx:World) (hb:bW l wx)=>B.pH (sj.later hb));have m:(B.ax l.drew (more F w l.drew) p s S (cR+2)/\aa F w l.drew):=⟨((iB.later (ai aW)).more (w:=w)).le (by omega),(aa.ah F Mk).trans (aa.ah (λ_=>False) (ai aW)) (λ_ h=>h.elim)⟩;go_wp2;go_region_held3 (λw'=>w'.cell? (aD w.heap.size 0)=some (iV (s:Int))) (exact E)
     (first
      |(go_at_call 47;refine(ZK _ (ai (bi _ _))).mono ?_;rintro e wy ⟨rfl,rH⟩;have mP:=rH.symm;subst mP;clear rH))
    have hWz:=(ai (bi l.heap.size l)).size;have K:=sj.later (ai (bi _ _));have Mp:=(((ai (bi l.heap.size l)).block _ (by omega)).trans Vc);have ZM:=aY.src;rw [mL] at ZM;have UF:g<l.heap.size:=ZM.old _ rfl (by omega);have M:=(ZM.later (ai (bi l.heap.size l)));generalize l.drew=W at*;have h3:=B.zB K;have XN:=C.1.2;have ed:(17:Int)<=(s:Int):=(by obtain⟨⟨l1,l2⟩,⟨n1,n2⟩,h3,s1,s2⟩:=C;omega);have oY:(lZ S s).2.puts.length<=S.puts.length+1:=lR S.take s 0 1;have uK:(mW S s).2.puts.length<=(lZ S s).2.puts.length+(s-1):=lR (lZ S s).2 s 1 (s-1);have TX:(jJ S s y).2.puts.length<=(mW S s).2.puts.length+400:=tY _ _ _ _ XN;have QZ:(l5 S s y z).2.puts.length<=(jJ S s y).2.puts.length+1:=i9 _ _ _ _ _;have dE:((mW S s).2.fC):=j8 (j8 cZ.take s 0 1) s 1 (s-1);have N:=(λ(f:World) (hd:B.ax f F p s S.take cR)=>show Calls prog 49 #[pQ p,iV 0,iV 1] f λe w'=>e= .returned (iV (lZ S s).1)/\B.ax w' (more F f w') p s (lZ S s).2 cR/\aa F f w' from CO hd 0 1 (by omega) (by omega) (by show S.puts.length+_+1<=_;omega));have O:=(λ(f:World) (n:Nat->Prop) (hd:B.ax f n p s (lZ S s).2 cR)=>show Calls prog 49 #[pQ p,iV 1,iV (s:Int)] f λe w'=>e= .returned (iV (mW S s).1)/\B.ax w' (more n f w') p s (mW S s).2 cR/\aa n f w' from CO hd 1 s (by omega) (by omega) (by omega));have P:=(λ(f:World) (n:Nat->Prop) (hd:B.ax f n p s (mW S s).2 cR)=>show Calls prog 50 #[pQ p,iV 1,iV (y:Int)] f λe w'=>e= .returned (iV (jJ S s y).1)/\B.ax w' (more n f w') p s (jJ S s y).2 (cR+2)/\aa n f w' from B.Kw hd dE 1 (y:Int) (by omega));have Q:=(λ(f:World) (n:Nat->Prop) (hd:B.ax f n p s (jJ S s y).2 (cR+2)) (hs:Src f (some (aD g 0)) 512 (gH s y z))=>show Calls prog 51 #[pQ p,iV 0, .slice (some (aD g 0)) 512 cg] f λe w'=>e= .returned (iV (l5 S s y z).1)/\B.ax w' (more n f w') p s (l5 S s y z).2 (cR+2)/\aa n f w' from B.D2 hd 0 (some (aD g 0)) 512 cg (gH s y z) hs (by omega));have T:=(λ(f:World) (n:Nat->Prop) (hd:B.ax f n p s (l5 S s y z).2 (cR+2))=>B.vg hd (by omega));unfold ly at d;generalize lZ S s=U at*;generalize mW S s=X at*;generalize jJ S s y=Y at*;generalize l5 S s y z=Z at*;go_wp2_with fail;refine fk h3 λf hd3 aV=>?_;have kO:=aV.size;have h4:=N f hd3;have H:∀j,w.heap.size<=j->¬F j:=λj hj hf=>by have:=ib _ hf;omega
    have VQ:(∀k,F k->k<f.heap.size):=λk hf=>by have:=ib k hf;omega
    have ma:=m.2.trans aV (λ_ h=> .inl h);have Vf:=((aV.block _ (by omega) (H _ (by omega))).trans Mp);have L:=(M.nB aV (λy hy _ e=>by
     cases hy;exact H g (by omega) e))
    go_wp2_with fail;refine fk h4 λw4 hd q=>?_;have GR:=(aF hd q);by_cases r:U.1≠0
    .rw [aE r] at d;have dY:(U.1 != 0)=true:=(by rw [fT];exact r);have m:=(tX (c':=cR+2) ib ma GR (by omega));go_wp2;go_ret;rw [d];exact⟨rfl,m⟩
    .rw [aA r] at d;have dY1:(U.1 != 0)=false:=(by rw [Decidable.byContradiction r];rfl);have cS:=aj ((GR.2.block _ (by omega) (H _ (by omega))).trans Vf) (j:=0) rfl;have h5:=O _ _ GR.1;go_wp2_with fail;refine fk h5 λw5 hd q=>?_;have N2:=(Ec VQ GR.2 hd q);by_cases t:X.1≠0
     .rw [aE t] at d;have dY:(X.1 != 0)=true:=(by rw [fT];exact t);have m:=(tX (c':=cR+2) ib ma N2 (by omega));go_wp2;go_ret;rw [d];exact⟨rfl,m⟩
     .rw [aA t] at d;have dY2:(X.1 != 0)=false:=(by rw [Decidable.byContradiction t];rfl);have cL:=aj ((N2.2.block _ (by omega) (H _ (by omega))).trans Vf) (j:=1) rfl;have h6:=P _ _ N2.1;go_wp2_with fail;refine fk h6 λw6 hd q=>?_;have o:=(Ec VQ N2.2 hd q);by_cases u:Y.1≠0
      .rw [aE u] at d;have dY:(Y.1 != 0)=true:=(by rw [fT];exact u);have m:=(tX (c':=cR+2) ib ma o (by omega));go_wp2;go_ret;rw [d];exact⟨rfl,m⟩
      .rw [aA u] at d;have dY3:(Y.1 != 0)=false:=(by rw [Decidable.byContradiction u];rfl);have h7:=Q _ _ o.1 (L.nB o.2 (λy hy _ e=>by
        cases hy;exact H g (by omega) e))
       go_wp2_with fail;refine fk h7 λw7 hd q=>?_;have D:=(Ec VQ o.2 hd q);by_cases A:Z.1≠0
       .rw [aE A] at d;have dY:(Z.1 != 0)=true:=(by rw [fT];exact A);have m:=(tX (c':=cR+2) ib ma D (by omega));go_wp2;go_ret;rw [d];exact⟨rfl,m⟩
       .rw [aA A] at d;have dY4:(Z.1 != 0)=false:=(by rw [Decidable.byContradiction A];rfl);have h8:=T _ _ D.1;go_wp2_with fail;refine fk h8 λw8 hd q=>?_;have m:=(tX (c':=cR+2) ib ma (VP VQ D.2 hd q) (by omega));go_wp2;go_ret;rw [d];exact⟨rfl,m⟩
   .rw [aA (λh=>ks (by have:=h.2;omega))] at d;have dG:((x:Int) != (s:Int))=true:=(by rw [fT];omega);have G:=I (w.alloc (.cells #[.int .i64 (x:Int), .int .i64 (y:Int), .int .i64 (z:Int)] 39));go_wp2_with fail;refine G.mono ?_;rintro e l ⟨v,rfl,g,cg,rfl,hg,aY,aW⟩;have ec:=aW.size;have E:=aL ((aW.block _ (by omega)).trans dF);have Vc:=((aW.block _ (by omega)).trans dF);have sj:=(iB.later aW);have ZK:=(λ(wx:World) (hb:bW l wx)=>B.pH (sj.later hb));have m:(B.ax l.drew (more F w l.drew) p s S (cR+2)/\aa F w l.drew):=⟨((iB.later (ai aW)).more (w:=w)).le (by omega),(aa.ah F Mk).trans (aa.ah (λ_=>False) (ai aW)) (λ_ h=>h.elim)⟩;go_wp2;go_region_held3 (λw'=>w'.cell? (aD w.heap.size 0)=some (iV (x:Int))) (exact E)
     (first
      |(go_at_call 47;refine(ZK _ (ai (bi _ _))).mono ?_;rintro e wy ⟨rfl,rH⟩;have mP:=rH.symm;subst mP;clear rH))
    go_wp2;go_ret;rw [d];exact⟨rfl,m⟩
  .have G:=λw=>Eb a b c w C;rw [aA (λh=>C h.1)] at d;obtain⟨I,c0,c1,c2⟩:=cM G (aL dF) (bD dF) (bH dF);have G:=I (w.alloc (.cells #[.int .i64 a, .int .i64 b, .int .i64 c] 39));go_wp2_with fail;refine bE G λl aW=>?_;have m:(B.ax l.drew (more F w l.drew) p s S (cR+2)/\aa F w l.drew):=⟨((iB.later (ai aW)).more (w:=w)).le (by omega),(aa.ah F Mk).trans (aa.ah (λ_=>False) (ai aW)) (λ_ h=>h.elim)⟩;go_wp2;refine wp_region_held_drew (S:=(λ_=>True)) (by kernel_rfl) (trivial) (λRV=>?_);refine wpAnyH_take (i:=0) (oi:={dst:=some 18,op:=Op.move (Operand.tmp 6),type:=49,pos:= "store.go:34",after:= #[],guard:=none}) (v:=iV 22) rfl (by kernel_rfl) (by kernel_rfl) (by kernel_rfl) (λ_ _ _ h=>h) (Or.inl ⟨by rfl,?_⟩) (by assumption) ?_
   .intro w vt
    (try dsimp only at vt)
    go_simp
   try simp only [Act.put,List.setIfInBounds_toArray,List.set_cons_zero,List.set_cons_succ]
   refine wpAnyH_take (i:=1) (oi:={dst:=some 19,op:=Op.binOp BinOp.neq 49 (Operand.tmp 18) (Operand.const (Value.int IntKind.i64 0)) 49,type:=4,pos:= "store.go:34",after:= #[{on:=0,ground:=Ground.data}],guard:=none}) (v:= .bool true) rfl (by kernel_rfl) (by kernel_rfl) (by kernel_rfl) (λ_ _ _ h=>h) (Or.inl ⟨by rfl,?_⟩) (by assumption) ?_
   .intro w vt
    (try dsimp only at vt)
    go_simp
   try simp only [Act.put,List.setIfInBounds_toArray,List.set_cons_zero,List.set_cons_succ]
   refine wpAnyH_take (i:=2) (oi:={dst:=some 20,op:=Op.move (Operand.tmp 19),type:=4,pos:= "store.go:34",after:= #[{on:=1,ground:=Ground.data}],guard:=none}) (v:= .bool true) rfl (by kernel_rfl) (by kernel_rfl) (by kernel_rfl) (λ_ _ _ h=>h) (Or.inl ⟨by rfl,?_⟩) (by assumption) ?_
   .intro w vt
    (try dsimp only at vt)
    go_simp
   try simp only [Act.put,List.setIfInBounds_toArray,List.set_cons_zero,List.set_cons_succ]
   refine wpAnyH_take (i:=3) (oi:={dst:=some 21,op:=Op.fieldAddr 39 (Operand.tmp 3) 0,type:=0,pos:= "store.go:34",after:= #[{on:=2,ground:=Ground.guard}],guard:=some (2,false)}) (v:=undef) rfl (by kernel_rfl) (by kernel_rfl) (by kernel_rfl) (λ_ _ _ h=>h) (Or.inr ⟨by rfl,rfl⟩) (by assumption) ?_;try simp only [Act.put,List.setIfInBounds_toArray,List.set_cons_zero,List.set_cons_succ]
   refine wpAnyH_take (i:=4) (oi:={dst:=some 22,op:=Op.load 3 (Operand.tmp 21),type:=3,pos:= "store.go:34",after:= #[{on:=3,ground:=Ground.data},{on:=2,ground:=Ground.guard}],guard:=some (2,false)}) (v:=undef) rfl (by kernel_rfl) (by kernel_rfl) (by kernel_rfl) (λ_ _ _ h=>h) (Or.inr ⟨by rfl,rfl⟩) (by assumption) ?_;try simp only [Act.put,List.setIfInBounds_toArray,List.set_cons_zero,List.set_cons_succ]
   refine wpAnyH_take (i:=5) (oi:={dst:=some 23,op:=Op.move (Operand.tmp 0),type:=28,pos:= "store.go:34",after:= #[{on:=2,ground:=Ground.guard}],guard:=some (2,false)}) (v:=undef) rfl (by kernel_rfl) (by kernel_rfl) (by kernel_rfl) (λ_ _ _ h=>h) (Or.inr ⟨by rfl,rfl⟩) (by assumption) ?_;try simp only [Act.put,List.setIfInBounds_toArray,List.set_cons_zero,List.set_cons_succ]
   refine wpAnyH_take (i:=6) (oi:={dst:=some 24,op:=Op.call {callee:=Callee.value (Operand.func 47),args:= #[Operand.tmp 23],argTypes:= #[28]},type:=3,pos:= "store.go:34",after:= #[{on:=5,ground:=Ground.data},{on:=2,ground:=Ground.chain},{on:=2,ground:=Ground.guard}],guard:=some (2,false)}) (v:=undef) rfl (by kernel_rfl) (by kernel_rfl) (by kernel_rfl) (λ_ _ _ h=>h) (Or.inr ⟨by rfl,rfl⟩) (by assumption) ?_;try simp only [Act.put,List.setIfInBounds_toArray,List.set_cons_zero,List.set_cons_succ]
   refine wpAnyH_take (i:=7) (oi:={dst:=some 25,op:=Op.binOp BinOp.neq 3 (Operand.tmp 22) (Operand.tmp 24) 3,type:=4,pos:= "store.go:34",after:= #[{on:=4,ground:=Ground.data},{on:=6,ground:=Ground.data},{on:=2,ground:=Ground.guard}],guard:=some (2,false)}) (v:=undef) rfl (by kernel_rfl) (by kernel_rfl) (by kernel_rfl) (λ_ _ _ h=>h) (Or.inr ⟨by rfl,rfl⟩) (by assumption) ?_;try simp only [Act.put,List.setIfInBounds_toArray,List.set_cons_zero,List.set_cons_succ]
   refine wpAnyH_take (i:=8) (oi:={dst:=some 26,op:=Op.pick (Operand.tmp 20) (Operand.const (Value.bool true)) (Operand.tmp 25),type:=4,pos:= "store.go:34",after:= #[{on:=2,ground:=Ground.data},{on:=7,ground:=Ground.data}],guard:=none}) (v:= .bool true) rfl (by kernel_rfl) (by kernel_rfl) (by kernel_rfl) (λ_ _ _ h=>h) (Or.inl ⟨by rfl,?_⟩) (by assumption) ?_
   .intro w vt
    (try dsimp only at vt)
    go_simp
   try simp only [Act.put,List.setIfInBounds_toArray,List.set_cons_zero,List.set_cons_succ]
   refine wpAnyH_done (by kernel_rfl) ?_ _;go_wp2;go_ret;rw [d];exact⟨rfl,m⟩
end
end
section
abbrev Pr (y:LY):Value:= .agg #[iV (y.log:Int),iV (y.home:Int),iV (y.blocks:Int),iV (y.nodes:Int),iV (y.data:Int)]
theorem RX:(prog.info? 86).map (·.size)=some 5:=by kernel_rfl
theorem GS (w:World) (y:LY):(w.alloc (.cells #[.int .i64 (y.log:Int), .int .i64 (y.home:Int), .int .i64 (y.blocks:Int), .int .i64 (y.nodes:Int), .int .i64 (y.data:Int)] 86)).rangeAt w.heap.size 0 [iV (y.log:Int),iV (y.home:Int),iV (y.blocks:Int),iV (y.nodes:Int),iV (y.data:Int)]:=by
 have b:=heap_alloc_new w (.cells #[.int .i64 (y.log:Int), .int .i64 (y.home:Int), .int .i64 (y.blocks:Int), .int .i64 (y.nodes:Int), .int .i64 (y.data:Int)] 86);intro j v a
 match j,a with
 |0,a=>cases a;exact aL b
 |1,a=>cases a;exact bD b
 |2,a=>cases a;exact bH b
 |3,a=>cases a;exact fI b
 |4,a=>cases a;exact gz b
 |j+5,a=>simp at a
section
variable {w:World} {F:Nat->Prop} {p q l m t n:Nat} {y:LY} {busy:Bool} {G:SG} {T:TG}
theorem Kz (h:mZ w q p l m y busy):
  Calls prog 79 #[pQ q] w λe w'=>e= .returned (Pr y)/\bW w w':=by
 have h:=h.later (aI w (.cells #[.int .i64 0, .int .i64 0, .int .i64 0, .int .i64 0, .int .i64 0] 86));obtain⟨a,b,c,d,f⟩:=ey (bH h) (fI h) (gz h) (rU h) (wG h);go_in;go_wp2;refine bodyPost_ret (gh (P:=prog) rfl _ _ w.heap.size _ _ rfl (GS w y) underlying86 rfl RX) rfl ⟨rfl,aI _ _⟩
theorem GT (h:mZ w q p l m G.y busy) (b:mx w F q l m t n G T):
  Calls prog 92 #[pQ t] w λe w'=>e= .returned (Pr G.y)/\bW w w':=by
 have a:=aI w (.cells #[.int .i64 0, .int .i64 0, .int .i64 0, .int .i64 0, .int .i64 0] 86);have c:=(b.later a).c0;have h:=h.later a;obtain⟨d,f,g,i,j⟩:=ey (bH h) (fI h) (gz h) (rU h) (wG h);go_in;go_wp2;refine bodyPost_ret (gh (P:=prog) rfl _ _ w.heap.size _ _ rfl (GS w G.y) underlying86 rfl RX) rfl ⟨rfl,aI _ _⟩
end
end
section
theorem Ob (d:CM.Ok ms) (b:Nat):∃R,ms=below ms b ++ R:=by
 induction ms with
 |nil=>exact⟨[],rfl⟩
 |cons q g f=>
  have c:=List.pairwise_cons.1 d;by_cases h:q.1<b
  .obtain⟨R,e⟩:=f c.2;exact⟨R,by rw [sw,aE h,List.cons_append,<-e]⟩
  .exact⟨q :: g,by rw [oA (λx a=>by rcases List.mem_cons.1 a with rfl|a;exact h;have:=c.1 x a;omega)];rfl⟩
theorem GU {S:DS} {s b:Nat} (a:CM.Ok ms) (h:(sbring S s h0 (below ms b)).1≠0):sbring S s h0 ms=sbring S s h0 (below ms b):=by
 obtain⟨R,e⟩:=Ob a b
 conv=>lhs;rw [e]
 rw [fi,aE h]
theorem p8 {S:DS} {s:Nat} {a:CM} (h:(sbring S s h0 a).1=0) (q:Nat×List Int):sbring S s h0 (a ++ [q])=(sbring S s h0 a).2.wr s ((h0+q.1:Nat):Int) 512 q.2:=by
 rw [fi,aA (λe=>e h),jt];by_cases e:((sbring S s h0 a).2.wr s ((h0+q.1:Nat):Int) 512 q.2).1≠0
 .rw [aE e]
 .rw [aA e];show ((0:Int),_)=_;rw [<-Decidable.not_not.1 e]
theorem GV {S:DS} {s k:Nat} (a:k<s) (l:List Int):(S.wr s (k:Int) 512 l).1=0\/(S.wr s (k:Int) 512 l).1=3:=by
 unfold DS.wr;split
 .exact .inr rfl
 .rw [aA (by omega),aA (by omega)];exact .inl rfl
theorem ev {s h0:Nat}:∀{ms:CM} {S:DS},S.Ok s->(∀q∈ms,h0+q.1<s/\q.2.length=512)->((sbring S s h0 ms).1=0\/(sbring S s h0 ms).1=3)/\(sbring S s h0 ms).2.life=S.life/\(sbring S s h0 ms).2.Ok s/\((sbring S s h0 ms).1≠0->(sbring S s h0 ms).2.fuse=0)/\(∀j,(∀q∈ms,h0+q.1≠j)->(sbring S s h0 ms).2.now j=S.now j)
 | [],S,hS,_=>⟨.inl rfl,rfl,hS,λh=>absurd rfl h,λ_ _=>rfl⟩
 |q :: qs,S,hS,hk=>by
  have a:=hk q List.mem_cons_self;rw [jt];by_cases e:(S.wr s ((h0+q.1:Nat):Int) 512 q.2).1≠0
  .rw [aE e];obtain⟨b,n⟩:=Q2 a.1 e;refine⟨GV a.1 _,kq _ _ _ _ _,by rw [b];exact hS,λ_=>by rw [b];exact n,λj _=>by rw [b]⟩
  .rw [aA e];have d:=Ma (Decidable.not_not.1 e);obtain⟨g,i,k,l,m⟩:=ev (ms:=qs) (tP hS d a.1 a.2) (λx c=>hk x (List.mem_cons_of_mem _ c));refine⟨g,i.trans (kq _ _ _ _ _),k,l,λj f=>?_⟩;rw [m j (λx c=>f x (List.mem_cons_of_mem _ c)),jD d a.1,aA (λh=>f q List.mem_cons_self h.symm)]
theorem CR {s h0 b:Nat} {c:List Int}:∀{ms:CM} {S:DS},S.Ok s->CM.Ok ms->(∀q∈ms,h0+q.1<s/\q.2.length=512)->(sbring S s h0 ms).1=0->CM.get ms b=some c->(sbring S s h0 ms).2.now (h0+b)=c
 | [],S,_,_,_,_,h=>by cases h
 |q :: qs,S,hS,ho,hk,O8,hg=>by
  have d:=hk q List.mem_cons_self;have j:=List.pairwise_cons.1 ho;rw [jt] at O8⊢;by_cases e:(S.wr s ((h0+q.1:Nat):Int) 512 q.2).1≠0
  .rw [aE e] at O8;exact absurd O8 e
  .rw [aA e] at O8⊢;have i:=Ma (Decidable.not_not.1 e);have a:=tP hS i d.1 d.2;have aX:=λx f=>hk x (List.mem_cons_of_mem _ f);rw [CM.lO] at hg;by_cases g:q.1=b
   .rw [aE g] at hg;cases hg;rw [(ev a aX).2.2.2.2 _ (λx f=>by have:=j.1 x f;omega),jD i d.1,aE (by omega)]
   .rw [aA g] at hg;exact CR a j.2 aX O8 hg
theorem Oc (c:CM.Ok ms) (h:∀q∈ms,q.1<n) (b:Nat):(below ms b).length<=n:=by
 have d:(below ms b).length<=ms.length:=List.length_filter_le _ _;rcases CM.length_le c h 0 (λ_ _=>dU _) with a|a
 .omega
 .rw [a];exact dU _
theorem mB (ps:List (Nat×List Int)):CM.Ok (CM.bX [] ps):=CM.qM rD ps
theorem eO {ps:List (Nat×List Int)} {x:Nat×List Int} (h:x∈CM.bX [] ps):x∈ps:=by
 have a:=CM.get_of_mem (mB ps) (k:=x.1) (c:=x.2) h;rw [gL] at a;exact EZ a
section
variable {w w':World} {F X:Nat->Prop} {r s k kl t hm:Nat} {S:DS} {y:LY} {v:Value} {ps:List (Nat×List Int)}
theorem GW (wH:aa F w0 w1) (hd:aB w2 (more (more F w0 w1) w1 w2) r s S') (a:aa (more F w0 w1) w1 w2):aB w2 (more F w0 w2) r s S'/\aa F w0 w2:=by
 have gv:=wH.size;have b:=a.size;refine⟨hd.mono (λk a=>?_) (λk a=>?_),wH.trans a (λk a=>?_)⟩
 .rcases a with (a|a)|a
  .exact .inl a
  .exact .inr ⟨a.1,by omega⟩
  .exact .inr ⟨by omega,a.2⟩
 .rcases a with a|a
  .exact hd.lt k (.inl (.inl a))
  .exact a.2
 .rcases a with a|a
  .exact .inl a
  .exact .inr a.1
theorem tZ (b:bW w0 w1) (hd:aB w2 (more F w1 w2) r s S') (a:aa F w1 w2):aB w2 (more F w0 w2) r s S'/\aa F w0 w2:=by
 have gv:=b.size;refine⟨hd.mono (λk a=>a.imp id (λh=>⟨by omega,h.2⟩)) (λk a=>?_),(aa.ah F b).trans a (λ_ h=> .inl h)⟩;rcases a with a|a
 .exact hd.lt k (.inl a)
 .exact a.2
theorem Ad (hd:aB w F r s S) (h:PV w X v ps) (fD:∀g,X g->¬F g) (hs:y.home+y.blocks<=s) (oZ:∀x∈ps,x.1<y.blocks) (aT:S.puts.length+3000<=4000000000000) (VE:ps.length<=4000000000000):
  Calls prog 123 #[pQ r,Pr y,v] w λe w'=>e= .returned (iV (sbring S s y.home (CM.bX [] ps)).1)/\aB w' (more F w w') r s (sbring S s y.home (CM.bX [] ps)).2/\aa F w w':=by
 obtain⟨a,c,rfl,-⟩:=h.form;obtain⟨W,E⟩:∃W,W=w.alloc (.cells #[.int .i64 (y.log:Int), .int .i64 (y.home:Int), .int .i64 (y.blocks:Int), .int .i64 (y.nodes:Int), .int .i64 (y.data:Int)] 86):=⟨_,rfl⟩;have D:bW w W:=by rw [E];exact(bi w.heap.size w).alloc (bP _) _
 have hg:W.heap[w.heap.size]? =some (.cells #[.int .i64 (y.log:Int), .int .i64 (y.home:Int), .int .i64 (y.blocks:Int), .int .i64 (y.nodes:Int), .int .i64 (y.data:Int)] 86 (0,0)):=by rw [E];exact heap_alloc_new _ _
 have hWs:W.heap.size=w.heap.size+1:=by rw [E];simp
 have dh:=hd.ok;have km:=dh.hi;have bm:=hd.lt;have R:=mB ps;have Ed:∀q∈CM.bX [] ps,y.home+q.1<s/\q.2.length=512:=λq G=>⟨by have:=oZ q (eO G);omega,(h.len q (eO G)).1⟩;have Un:=λq G=>oZ q (eO G);have adF:=gL ps;have t:ps.length=0->CM.bX [] ps= []:=λe=>by rw [List.length_eq_zero_iff.1 e];rfl
 generalize CM.bX [] ps=M at*;obtain⟨P,HP,HF,HK,n,p,HG,HZ,I,q22⟩:=vH (yh (hd.later D)) (yh (h.later D)) (yh (ev dh Ed).1) (yh Ed) (yh R) (yh Un) (yh adF) (yh t) (yh D) Re;clear hd h Ed R Un adF t D;go_in;go_wp2;rw [<-E];go_loopw [7] (λi wr=>∃b:Nat,b<=y.blocks/\i=iV (b:Int)/\(sbring S s y.home (below M b)).1=0/\aB wr (more F W wr) r s (sbring S s y.home (below M b)).2/\aa F W wr) (λi _=>y.blocks-(intOf i).toNat);case atStart=>exact⟨0,dU _,rfl,by rw [sA];rfl,by rw [sA];exact(P.o.mono (λ_ h=> .inl h) (λk u=>by rcases u with u|u;exact P.o.lt k u;exact u.2)),aa.refl _ _⟩
 case round=>
  obtain⟨b,hb,rfl,h0,j7,xM⟩:=hrel;have dF:=(xM.block w.heap.size (by omega) (λhF=>by have:=bm _ hF;omega)).trans hg;have b1:wr.cell? (aD w.heap.size 1)=some (iV (y.home:Int)):=bD dF;have b2:wr.cell? (aD w.heap.size 2)=some (iV (y.blocks:Int)):=bH dF;have A:=HP.o.au xM fD;obtain⟨I8,pf,kv,m,j,f,E9⟩:=nW (qN A b (by omega)) (eA S s y.home (below M b)) (Oc n.o p.o b) (yh h0) (yh j7) (yh xM) (HG.o b);clear h0 j7 xM A dF;by_cases q:b<y.blocks/\0<ps.length
  .have U:(b:Int)<(y.blocks:Int):=(by omega);have q2:(0:Int)<(ps.length:Int):=(by omega);obtain⟨Y,qp⟩:=q;cases T:fnd ps b with
   |none=>
    rw [T] at I8 E9;go_wp2_with fail;refine I8.mono ?_;rintro e w1 ⟨N,O⟩;subst O;rcases N with ⟨_,rfl⟩|⟨l',g,c',L,_⟩
    .clear I8;go_wp2;go_roundw;case rel=>exact⟨b+1,by omega,by go_num,by rw [sx n.o E9];exact m.o,by rw [sx n.o E9];exact j.o,f.o⟩
     case measure=>simp [intOf];omega
    .cases L
   |some l=>
    rw [T] at I8 E9;have xL:∀(g c':Nat),ay wr 5 g c' (bs l)->l.length=512->_:=λg c' H hl=>it j.o ((y.home:Int)+(b:Int)) (some (aD g 0)) 512 c' l (by have:=H.src;rwa [hl] at this) (by omega);have HW:=yh xL;have adH:=(HK.o (b,l) (CM.get_mem E9)).2;clear xL;go_wp2_with fail;refine I8.mono ?_;rintro e w1 ⟨N,O⟩;subst O;rcases N with ⟨h0,_⟩|⟨l',g,c',L,rfl,hX,H⟩
    .cases h0
    cases L;have dw:=HW.o g c' H adH;have fZ:=p8 m.o (b,l);rw [<-sy n.o E9] at fZ;have tT:((y.home+b:Nat):Int)=(y.home:Int)+(b:Int):=(by omega);rw [tT] at fZ;rw [<-fZ] at dw;clear I8 H fZ;by_cases z:(sbring S s y.home (below M (b+1))).1=0
    .have d:((sbring S s y.home (below M (b+1))).1 != 0)=false:=(by rw [z];rfl);have K:=yh z;clear z;go_wp2_with fail;refine fk dw λw2 cC aX=>?_;have C:=yh (GW f.o cC aX);clear dw cC aX;go_wp2;go_roundw;case rel=>exact⟨b+1,by omega,by go_num,K.o,C.o⟩
     case measure=>simp [intOf];omega
    .have d:((sbring S s y.home (below M (b+1))).1 != 0)=true:=(by rw [fT];exact z);have bt:=GU n.o z;have J:=yh bt;have Q:=HF.o.resolve_left (by rw [bt];exact z);have Z:=yh Q;clear z bt Q;go_wp2_with fail;refine fk dw λw2 cC aX=>?_;have C:=yh (GW f.o cC aX);clear dw cC aX;go_wp2;go_ret;refine⟨by rw [Z.o];rfl,?_⟩;rw [J.o];exact tZ I.o C.o.1 C.o.2
  .have bR:below M b=M:=by
    by_cases Y:b<y.blocks
    .have:=HZ.o (by omega);subst this;rfl
    .exact Cz (λx hx=>by have:=p.o x hx;omega)
   have jz:(sbring S s y.home M).1=0/\aB wr (more F W wr) r s (sbring S s y.home M).2:=(by rw [<-bR];exact⟨m.o,j.o⟩);have mR:=yh jz;clear jz I8 bR;by_cases Y:b<y.blocks
   .have U:(b:Int)<(y.blocks:Int):=(by omega);have q2:¬(0:Int)<(ps.length:Int):=(by omega);clear q;go_wp2;go_ret;exact⟨by rw [mR.o.1];rfl,tZ I.o mR.o.2 f.o⟩
   .have U:¬(b:Int)<(y.blocks:Int):=(by omega);clear q;go_wp2;go_ret;exact⟨by rw [mR.o.1];rfl,tZ I.o mR.o.2 f.o⟩
end
end
section
def qT (w w':World) (code:Int) (c:List Int) (e:Ending):Prop:=
 if code≠0 then e= .returned (.tuple #[.slice none 0 0,iV code])
 else∃g,e= .returned (.tuple #[.slice (some (aD g 0)) 512 512,iV 0])/\w.heap.size<=g/\ay w' 5 g 512 (bs c)
section
variable {w w':World} {F X:Nat->Prop} {r s k kl t hm:Nat} {S:DS} {G:SG} {T:TG} {pv nv tv:Value} {ps us:List (Nat×List Int)}
theorem iz.ZN (hd:aB w F r s S) (h:iz w F X r s S k kl G pv ps hm nv) {b:Nat} (d:b<G.y.blocks):(G.block S b).length=512:=by
 unfold SG.block;cases a:CM.get G.ov b with
 |none=>rw [Option.getD_none];exact br hd.ok _ (by have:=h.hs;omega)
 |some c=>
  rw [Option.getD_some];rw [h.ov] at a;exact(h.pl.len _ (List.mem_of_mem_drop (eO (CM.get_mem a)))).1
theorem Ae (hd:aB w F r s S) (h:iz w F X r s S k kl G pv ps hm nv) (m:nT w X k t G T tv us) (b:Int) (aT:S.puts.length<=4000000000000) (VE:ps.length<=4000000000000):
  Calls prog 83 #[pQ t,iV b] w λe w'=>qT w w' (T.refusal G S b) (T.jN G S b.toNat) e/\bW w w':=by
 have f:=j5 hd h m.tx;have hz:T.refusal G S b=0->G.L.dead S=false/\T.ended=false/\T.bad=0/\0<=b/\b<(G.y.blocks:Int):=iK;by_cases q:T.state G S=0
 .have d:(T.state G S != 0)=false:=by rw [q];rfl
  by_cases P:b<0
  .have j:T.refusal G S b=11:=(by unfold TG.refusal;rw [aA (λh=>h q),aE (.inl P)]);rw [j];generalize T.state G S=E at*;go_in;go_wp2_with fail;refine bE f λw1 aq=>?_;have a:=aq;go_wp2;go_ret2;exact⟨rfl,a⟩
  .by_cases Q:(G.y.blocks:Int)<=b
   .have j:T.refusal G S b=11:=(by unfold TG.refusal;rw [aA (λh=>h q),aE (.inr Q)]);rw [j];have v:=m.tx;have u:=h.st;generalize T.state G S=E at*;go_in;go_wp2_with fail;refine bE f λw1 aq=>?_;have M:=(v.later aq).c0;have N:=(u.later aq).c4;have a:=aq;go_wp2;go_ret2;exact⟨rfl,a⟩
   .have j:T.refusal G S b=0:=(by unfold TG.refusal;rw [aA (λh=>h q),aA (λh=>h.elim P Q)]);obtain⟨r1,r2,_,_,_⟩:=hz j;rw [j];obtain⟨b,rfl⟩:∃b':Nat,b=(b':Int):=⟨b.toNat,by omega⟩;rw [Int.toNat_natCast];have O:b<G.y.blocks:=(by omega);have ajd:T.jN G S b=(fnd us b).getD (G.block S b):=(by unfold TG.jN;rw [m.pu r2,gL]);rw [ajd];obtain⟨kv,J,adI,v,u⟩:=ey (iz.ZN hd h O) m.pl.len m.D6 m h;have p:=(λ(w1:World) (f:bW w w1)=>qN (m.pl.later f).pv b (by omega));have z:=(λ(w1:World) (f:bW w w1)=>zO (hd.later f) (h.later f) r1 b O aT VE);generalize T.state G S=E at*;have IZ:∀(i:World) (g c:Nat) (l:List Int),bW w i->ay i 5 g c (bs l)->l.length=512->Calls prog 97 #[.slice (some (aD g 0)) 512 c] i λe w'=>∃g,e= .returned (.slice (some (aD g 0)) 512 512)/\i.heap.size<=g/\ay w' 5 g 512 (bs l)/\bW i w':=λi g c l _ o H=>lH (some (aD g 0)) 512 c l i (by omega) (by have:=o.src;rwa [H] at this);have n:=IZ;have q22:=Re;cases D:fnd us b with
    |some l=>
     have H:=(J (b,l) (EZ D)).1;rw [D] at p;go_in;go_wp2_with fail;refine bE f λw1 aq=>?_;have wh:=v.tx.later aq;obtain⟨M,W,N,x,a⟩:=ey wh.c0 wh.c1 ((u.st.later aq).c4) (p w1 aq) aq;go_wp2_with fail;refine x.mono ?_;rintro e i ⟨I,K⟩;subst K;rcases I with ⟨h0,_⟩|⟨l',g,c,A,rfl,hX,o⟩
     .cases h0
     cases A;have C:=n i g c l a o H;go_wp2_with fail;refine C.mono ?_;rintro e R ⟨Y,rfl,E7,sV,bz⟩;have I9:=sV;have fS:=bz;go_wp2;go_ret2;exact⟨⟨Y,rfl,by have:=a.size;omega,I9⟩,a.trans (fS.mono a.size)⟩
    |none=>
     rw [D] at p;go_in;go_wp2_with fail;refine bE f λw1 aq=>?_;have wh:=v.tx.later aq;obtain⟨M,W,N,x,hk,a⟩:=kQ wh.c0 wh.c1 ((u.st.later aq).c4) (p w1 aq) (z w1 aq) aq;go_wp2_with fail;refine x.mono ?_;rintro e i ⟨I,K⟩;subst K;rcases I with ⟨_,rfl⟩|⟨l',g,c,A,_⟩
     .clear x;go_wp2_with fail;refine hk.mono ?_;rintro e R ⟨⟨g,c,rfl,hX,o⟩,bz⟩;have C:=n R g c _ (a.trans (bz.mono a.size)) o kv;have fS:=(a.trans (bz.mono a.size));go_wp2_with fail;refine C.mono ?_;rintro e w4 ⟨Z,rfl,Gi,ub,fe⟩;have Vo:=ub;have jB:=fe;go_wp2;go_ret2;exact⟨⟨Z,rfl,by have:=fS.size;omega,Vo⟩,fS.trans (jB.mono fS.size)⟩
     .cases A
 .have d:(T.state G S != 0)=true:=by rw [fT];exact q
  have j:T.refusal G S b=T.state G S:=by unfold TG.refusal;rw [aE q]
  rw [j];have U:=q;generalize T.state G S=E at*;go_in;go_wp2_with fail;refine bE f λw1 aq=>?_;have a:=aq;go_wp2;go_ret2;exact⟨by unfold qT;rw [aE U];rfl,a⟩
end
end
theorem GX {α:Type} (l:List α) (a:i<l.length):l=l.take i ++ l[i] :: l.drop (i+1):=by rw [<-List.drop_eq_getElem_cons a,List.take_append_drop]
theorem E4 (a c:List (Nat×List Int)) (q:Nat×List Int) (j:Nat):fnd (a ++ q :: c) j=((fnd c j).or (if q.1=j then some q.2 else none)).or (fnd a j):=by rw [lX,fnd]
theorem W8 {b:Nat} (a:i<us.length) (c:us[i].1=b) (f:(us.map (·.1)).Nodup) (j:Nat):fnd (us.set i (b,d)) j=if j=b then some d else fnd us j:=by
 have g:us.set i (b,d)=us.take i ++ (b,d) :: us.drop (i+1):=by rw [List.set_eq_take_append_cons_drop,aE a]
 have k:fnd us j=((fnd (us.drop (i+1)) j).or (if us[i].1=j then some us[i].2 else none)).or (fnd (us.take i) j):=by
  have:=E4 (us.take i) (us.drop (i+1)) us[i] j;rwa [<-(GX us a)] at this
 rw [g,E4,k,c];by_cases q:j=b
 .subst q;have iZ:fnd (us.drop (i+1)) j=none:=uB (λx l e=>by
   obtain⟨n,iQ,rfl⟩:=List.mem_iff_getElem.1 l;rw [List.getElem_drop] at e;rw [List.length_drop] at iQ;rw [List.nodup_iff_pairwise_ne,List.pairwise_iff_getElem] at f;have:=f i (i+1+n) (by simpa using a) (by rw [List.length_map];omega) (by omega);simp only [List.getElem_map] at this;exact this (c.trans e.symm))
  rw [aE rfl,iZ,aE rfl];rfl
 .have m:¬b=j:=λh=>q h.symm;rw [aA q];simp only [aA m]
theorem RY {b:Nat} (c:i<us.length) (a:us[i].1=b) (e:(us.map (·.1)).Nodup):CM.bX [] (us.set i (b,d))=CM.put (CM.bX [] us) b d:=by
 refine CM.ext (CM.qM rD _) (CM.uZ (CM.qM rD _) _ _) (λj=>?_);rw [gL,W8 c a e,CM.kr _ _ _ _ (CM.qM rD _),gL]
theorem Od (us:List (Nat×List Int)) (b:Nat) (d:List Int):CM.bX [] (us ++ [(b,d)])=CM.put (CM.bX [] us) b d:=by
 rw [pR];rfl
theorem p9:∀{us:List (Nat×List Int)} {ms:CM},CM.Ok ms->(us.map (·.1)).Nodup->(∀x∈us,CM.get ms x.1=none)->(CM.bX ms us).length=ms.length+us.length
 | [],ms,_,_,_=>rfl
 |q :: qs,ms,ho,hn,hd=>by
  rw [List.map_cons,List.nodup_cons] at hn;show (CM.bX (CM.put ms q.1 q.2) qs).length=_;rw [p9 (CM.uZ ho _ _) hn.2 (λx a=>by
   rw [CM.kr _ _ _ _ ho,aA (λ(e:x.1=q.1)=>hn.1 (e▸List.mem_map_of_mem (f:=λx=>x.1) a))];exact hd x (List.mem_cons_of_mem _ a)),CM.sv ho,hd q List.mem_cons_self]
  simp;omega
theorem vu (a:(us.map (·.1)).Nodup):(CM.bX [] us).length=us.length:=by rw [p9 rD a (λ_ _=>rfl)];simp
theorem RZ {b:Nat} (g:i<us.length) (a:us[i].1=b):(us.set i (b,d)).map (·.1)=us.map (·.1):=by
 rw [List.map_set];apply List.ext_getElem
 .simp
 .intro n c f;rw [List.getElem_set];split
  .rename_i e;subst e;simp [a]
  .rfl
theorem ww {b:Nat} (d:i<us.length) (c:us[i].1=b):(fnd us b).isSome=true:=by
 cases h:fnd us b with
 |some _=>rfl
 |none=>
  exfalso;have a:fnd us b=((fnd (us.drop (i+1)) b).or (if us[i].1=b then some us[i].2 else none)).or (fnd (us.take i) b):=by
   have:=E4 (us.take i) (us.drop (i+1)) us[i] b;rwa [<-GX us d] at this
  rw [aE c,h] at a;cases e:fnd (us.drop (i+1)) b <;> rw [e] at a <;> simp at a
theorem IM {b:Nat} (h:∀j (a:j<us.length),us[j].1≠b):fnd us b=none:=uB (λq c=>by
 obtain⟨j,a,rfl⟩:=List.mem_iff_getElem.1 c;exact h j a)
section
section
variable {w w' w1 w2:World} {F X:Nat->Prop} {r s k kl t hm:Nat} {S:DS} {G:SG} {T:TG} {v pv nv tv:Value} {ps us:List (Nat×List Int)} {xs:List Value}
theorem PL.push (h:PL w X v ps xs) {o:Obj} {b:Nat} {f bZ:Nat} (C:X g) (A:ay w 5 g c (bs l)) (z:l.length=512/\Bytes l)
    (az:w2.ownsRow 0 166 2 (.slice (some (aD f 0)) (ps.length+1) bZ) (ps.length+1) (xs ++ [iV (b:Int), .slice (some (aD g 0)) 512 c]))
    (aO:(w.alloc o).grownBy w2 v.ownBlock) (ic:v.ownBlock=some f\/f=w.heap.size+1):
  PL w2 (more X w w2) (.slice (some (aD f 0)) (ps.length+1) bZ) (ps ++ [(b,l)]) (xs ++ [iV (b:Int), .slice (some (aD g 0)) 512 c])/\aa (λj=>v.ownBlock=some j) w w2:=by
 have YA:(w.alloc o).heap.size=w.heap.size+1:=by simp
 have ju:=aO.size;have d:=λj a m=>(aO.block j (by omega) m).trans (Below.heap_alloc _ _ _ a);have Md:∀j c n,ay w 5 j c n->ay w2 5 j c n:=λj c n a=>by
  have AX:=a;obtain⟨cur,ie,_⟩:=AX;exact a.agree (d j a.lt (λe=>dR h.own e.symm ie (by decide) rfl))
 have Rc:=pU az (g:=f) rfl;have Fb:=h.own.1;refine⟨⟨by rw [dT];exact az,λj a=>?_,λi y=>?_,λq k=>?_⟩,⟨aO.os,aO.tape,aO.output,by omega,λj a m=>d j a (λe=>m e.symm)⟩⟩
 .have e:j=f:=by simpa [Value.ownBlock] using a.symm
  subst e;rcases ic with p|p
  .exact .inl (h.row _ p)
  .exact .inr ⟨by omega,Rc⟩
 .by_cases nj:i<ps.length
  .obtain⟨x,c',r,s,t,u⟩:=h.put i nj;refine⟨x,c',?_,?_, .inl t,?_⟩
   .rw [List.getElem?_append_left (by omega),r,List.getElem_append_left nj]
   .rw [List.getElem?_append_left (by omega),s]
   .rw [List.getElem_append_left nj];exact Md _ _ _ u
  .have Dm:i=ps.length:=(by simp at y;omega);subst Dm;refine⟨g,c,?_,?_, .inl C,?_⟩
   .rw [List.getElem?_append_right (by omega),show 2*ps.length-xs.length=0 by omega];simp
   .rw [List.getElem?_append_right (by omega),show 2*ps.length+1-xs.length=1 by omega];simp
   .simpa using Md _ _ _ A
 .rcases List.mem_append.1 k with k|k
  .exact h.len q k
  .rw [List.mem_singleton.1 k];exact z
theorem PL.store (h:PL w X v ps xs) {b:Nat} (J:i<ps.length) (E:ps[i].1=b) {f p:Nat} (I:X g) (G:ay w 5 g c (bs l)) (F:l.length=512/\Bytes l) (H:v= .slice (some (aD f 0)) n p):
  PL (w.setCell ⟨f,i*2+1,none⟩ (.slice (some ⟨g,0,none⟩) 512 c)) X v (ps.set i (b,l)) (xs.set (2*i+1) (.slice (some (aD g 0)) 512 c)):=by
 subst H;obtain⟨_,⟨e,_⟩|⟨r,s,cur,e,y,aZ,z,A,C,D⟩⟩:=h.own
 .cases e
 cases e;have Md:∀j k o,ay w 5 j k o->ay (w.setCell ⟨f,i*2+1,none⟩ (.slice (some ⟨g,0,none⟩) 512 c)) 5 j k o:=λj k o a=>a.agree (Below.heap_setCell _ _ _ _ (a.ne aZ (by decide)));refine⟨⟨by rw [List.length_set,List.length_set];exact h.own.1, .inr ⟨f,p,cur.setIfInBounds (i*2+1) (.slice (some (aD g 0)) 512 c),by rw [List.length_set],y,heap_setCell_same _ _ _ _ _ _ aZ,by rw [List.length_set];exact z,A,by rw [Array.size_setIfInBounds];exact C,?_⟩⟩,h.row,λj a=>?_,λq d=>?_⟩
 .rw [List.length_set,Array.toList_setIfInBounds,List.take_set,D,Nat.mul_comm i 2]
 .have Yt:j<ps.length:=by rw [List.length_set] at a;exact a
  by_cases e:j=i
  .subst e;refine⟨g,c,?_,?_,I,?_⟩
   .rw [List.getElem?_set_ne (by omega)];obtain⟨_,_,m,_⟩:=h.put j Yt;rw [m];simp [E]
   .rw [List.getElem?_set_self (by omega)]
   .simpa using Md _ _ _ G
  .obtain⟨r,c',m,t,u,x⟩:=h.put j Yt;refine⟨r,c',?_,?_,u,?_⟩
   .rw [List.getElem?_set_ne (by omega),m,List.getElem_set_ne (λh=>e h.symm)]
   .rw [List.getElem?_set_ne (by omega),t]
   .rw [List.getElem_set_ne (λh=>e h.symm)];exact Md _ _ _ x
 .rcases List.mem_or_eq_of_mem_set d with d|d
  .exact h.len q d
  .rw [d];exact F
end
end
theorem sI (w:World):Calls prog 187 #[.bool true] w λe w'=>e= .returned (.tuple #[])/\w'=w:=by
 go_in;go_wp2
 go_end0
 exact⟨rfl,rfl⟩
abbrev mS:List PanicEntry:= [{v:= .iface 49 (iV 6),recovered:=false}]
theorem Ee (w:World):Calls prog 187 #[.bool false] w λe w'=>e= .panicked mS/\w'=w:=by
 go_in;go_wp2;exact⟨rfl,rfl,rfl⟩
def vv (w:World) (p b o n c k:Nat):Prop:=w.heap[p]? =some (.cells #[.slice (some ⟨b,o,none⟩) n c, .int .i64 (k:Int)] 224 (0,0))
theorem xO (p b o n c k m:Nat) (w:World) (h:vv w p b o n c k) (u:k+m<=n) (v:n<=c) (xJ:k<c) (t:n<=1000000) (mY:c<=9223372036854775807):
  Calls prog 223 #[pQ p,iV (m:Int)] w λe w'=>e= .returned (.slice (some ⟨b,o+k,none⟩) m (c-k))/\vv w' p b o n c (k+m)/\aa (λj=>j=p) w w':=by
 have q:=aL h;have r:=bD h;have s:=ae h 1;have ac4:(m:Int)<=(n:Int)-(k:Int):=by omega
 have bN:IntKind.i64.wrap ((n:Int)-(k:Int))=(n:Int)-(k:Int):=by rw [IntKind.wrap_i64];omega
 have d:(vv (w.setCell ⟨p,1,none⟩ (.int .i64 ((k:Int)+(m:Int)))) p b o n c (k+m)):=by
  show vv _ _ _ _ _ _ _;unfold vv;rw [(heap_setCell_same _ _ 1 _ _ (iV ((k:Int)+(m:Int))) h)];simp
 have a:=(aa.setCell (F:=λj=>j=p) (p:=⟨p,1,none⟩) w rfl (iV ((k:Int)+(m:Int))));go_in;go_wp2_with fail;go_quiet (first|(go_at_call 187;exact Calls.quiet_of_same (sI _)));go_wp2;have f:(0:Int)<=(k:Int):=by omega
 have g:(k:Int)<=(k:Int)+(m:Int):=by omega
 have i:(k:Int)+(m:Int)<=(c:Int):=by omega
 have l:¬c=k:=by omega
 go_quiet (fail);go_wp2;go_ret;exact⟨congrArg (λz=>Ending.returned (Value.slice (some ⟨b,o+k,none⟩) z (c-k))) (Nat.add_sub_cancel_left k m),d,⟨a.os,a.tape,a.output,a.size,a.block⟩⟩
theorem VR (i A X:Nat) (c:A<2 ^ i) (h:A+2 ^ i*X<18446744073709551616):
  bits .or .i64 (wrap64 (A:Int)) (wrap64 ((2 ^ i*X:Nat):Int))=wrap64 ((A+2 ^ i*X:Nat):Int):=by
 have q:∀z:Nat,z<18446744073709551616->(BitVec.ofInt 64 (wrap64 (z:Int))).toNat=z:=by
  intro z d;rw [BitVec.toNat_ofInt];unfold wrap64;omega
 have a:A<18446744073709551616:=by omega
 have b:2 ^ i*X<18446744073709551616:=by omega
 show IntKind.i64.wrap ((BitVec.ofInt 64 (wrap64 (A:Int)) |||BitVec.ofInt 64 (wrap64 ((2 ^ i*X:Nat):Int))).toNat:Int)=_;rw [BitVec.toNat_or,q A a,q _ b,Nat.or_comm,<-Nat.two_pow_add_eq_or_of_lt c X,Nat.add_comm,IntKind.wrap_i64];unfold wrap64;rfl
theorem R0 (x:Int) (k:Nat) (a:k<8):(x*2 ^ min ((8*(k:Int)).toNat) 64)=x*2 ^ (8*k):=by
 congr 2;omega
theorem BC (a:k<l.length) (b:Bytes l):le (l.take (k+1))=le (l.take k)+2 ^ (8*k)*(l.getD k 0).toNat:=by
 rw [List.take_succ_eq_append_getElem a,uI];have:(l.take k).length=k:=by simp;omega
 rw [this];simp [le,List.getD,a]
def part (l:List Int) (k m:Nat):List Int:=(l.drop k).take m
theorem fx {m:Nat} (h:k+m<=l.length):(part l k m).length=m:=by simp [part];omega
theorem dS (h:Bytes l) (k m:Nat):Bytes (part l k m):=λx a=>h x (List.mem_of_mem_drop (List.mem_of_mem_take a))
theorem ud {m:Nat} (a:i<m):(part l k m).getD i 0=l.getD (k+i) 0:=by simp [part,List.getD,a]
structure Rd (w:World) (p b o c k:Nat) (l:List Int):Prop where
 rd:vv w p b o l.length c k
 ne:b≠p
 src:∀i,i<l.length->w.cell? ⟨b,o+i,none⟩=some (.int .u8 (l.getD i 0))
 bytes:Bytes l
 small:l.length<=1000000
 cap:l.length<=c
 Oe:c<=9223372036854775807
 old:0<l.length->b<w.heap.size
theorem Rd.au {b o e:Nat} (h:Rd w p b o c k l) (g:vv w' p b o l.length c e) (d:aa (λj=>j=p) w w'):Rd w' p b o c e l:=
   ⟨g,h.ne,λi f=>by
  exact(World.cell?_of_block (w:=w) (a:=⟨b,o+i,none⟩) (d.block b (h.old (by omega)) h.ne)).trans (h.src i f),h.bytes,h.small,h.cap,h.Oe,λh0=>iP (h.old h0) d.size⟩
theorem Rd.lI {b o:Nat} (h:Rd w p b o c k l) (a:bW w w'):Rd w' p b o c k l:=by
 exact⟨(a.block p ((kN.1 h.rd).1)).trans h.rd,h.ne,λi d=>cell_later a (h.src i d),h.bytes,h.small,h.cap,h.Oe,λh0=>iP (h.old h0) a.size⟩
theorem oE (p b o c k m:Nat) (l:List Int) (w:World) (h:Rd w p b o c k l) (s:k+m<=l.length) (xJ:k<c) (A:m<=8):
  Calls prog 189 #[pQ p,iV (m:Int)] w λe w'=>e= .returned (iV (wrap64 ((le (part l k m):Nat):Int)))/\Rd w' p b o c (k+m) l/\aa (λj=>j=p) w w':=by
 have t:=xO p b o l.length c k m w h.rd s h.cap xJ h.small h.Oe;have H:=yh h;clear h;go_in;go_wp2_with fail;refine fk t λw1 lG eH=>?_;have g:=H.o.au lG eH;have H1:=yh (aF g eH);have pf:=fx s;clear t lG eH g;go_wp2;go_loopw [5,12] (λr i wr=>∃j:Nat,j<=m/\i=iV j/\wr=w1/\r=iV (wrap64 ((le ((part l k m).take j):Nat):Int))) (λ_ i _=>m-(intOf i).toNat);case atStart=>exact⟨0,dU _,rfl,rfl,by simp [le,wrap64]⟩
 case round=>
  obtain⟨j,z,rfl,rfl,rfl⟩:=hrel;by_cases bm:j<m
  .have cw:(j:Int)<(m:Int):=(by omega);have q:=H1.o.1.src (k+j) (by omega);rw [<-ud (l:=l) (k:=k) bm,<-Nat.add_assoc] at q;obtain⟨x,v,jA⟩:∃x:Nat,(part l k m).getD j 0=(x:Int)/\x<256:=by
    have:=dS H1.o.1.bytes k m (part l k m)[j] (List.getElem_mem (by omega));refine⟨((part l k m).getD j 0).toNat,?_,?_⟩<;> simp [List.getD,pf,bm] <;> omega
   have io:=BC (l:=part l k m) (k:=j) (by omega) (dS H1.o.1.bytes k m);have n:le ((part l k m).take j)<2 ^ (8*j):=by
    have:=lg (l:=(part l k m).take j) (λy f=>dS H1.o.1.bytes k m y (List.mem_of_mem_take f));have e:((part l k m).take j).length=j:=(by simp;omega);rwa [e] at this
   have d:le ((part l k m).take (j+1))<18446744073709551616:=by
    have:=lg (l:=(part l k m).take (j+1)) (λy f=>dS H1.o.1.bytes k m y (List.mem_of_mem_take f));have e:((part l k m).take (j+1)).length=j+1:=(by simp;omega);rw [e] at this;exact iP this (by have:=Nat.pow_le_pow_right (show 0<2 by omega) (show 8*(j+1)<=64 by omega);simpa using this)
   rw [v] at q io;simp only [Int.toNat_natCast] at io;rw [io] at d;have MV:=VR (8*j) _ x n d;rw [<-io] at MV;have YP:((x:Int)*2 ^ (8*j))=((2 ^ (8*j)*x:Nat):Int):=(by rw [Int.natCast_mul,Int.natCast_pow,Int.mul_comm];rfl);have tT:((2 ^ (8*j)*x:Nat):Int)=2 ^ (8*j)*(x:Int):=(by rw [Int.natCast_mul,Int.natCast_pow];rfl);rw [tT] at MV;have a:=yh MV;clear n d io MV tT;go_wp2;go_roundw;case rel=>exact⟨j+1,by omega,by go_num,trivial,by rw [a.o]⟩
   case measure=>simp [intOf];omega
  .have cw:¬(j:Int)<(m:Int):=(by omega);have u:(part l k m).take j=part l k m:=nh (by omega);rw [u] at*;go_wp2;go_ret;exact⟨rfl,H1.o⟩
def ue (l:List Int):Prop:=∀x∈l,x=0
def R2 (l:List Int) (e:Ending):Prop:=∃x,e= .returned (.bool x)/\(x=true↔ue l)
theorem CS (b o n c:Nat) (l:List Int) (w:World) (t:l.length=n) (v:n<=1000000) (m:∀i,i<n->w.cell? ⟨b,o+i,none⟩=some (.int .u8 (l.getD i 0))):
  Calls prog 224 #[.slice (some (aD b o)) n c] w λe w'=>R2 l e/\w'=w:=by
 have q:=yh m;clear m;go_in;go_wp2;go_loopw [7] (λi wr=>∃k:Nat,k<=n/\i=iV k/\wr=w/\∀j,j<k->l.getD j 0=0) (λi _=>n-(intOf i).toNat);case atStart=>exact⟨0,dU _,rfl,rfl,λj f=>by omega⟩
 case round=>
  obtain⟨k,u,rfl,rfl,p⟩:=hrel;have g:=yh p;clear p;by_cases bm:k<n
  .have cw:(k:Int)<(n:Int):=(by omega);have s:=q.o k bm;by_cases a:l.getD k 0=0
   .have r:=yh a;rw [a] at s;clear a;go_wp2;go_roundw;case rel=>
     refine⟨k+1,by omega,by go_num,trivial,λj f=>?_⟩;by_cases e:j=k
     .rw [e];exact r.o
     .exact g.o j (by omega)
    case measure=>simp [intOf];omega
   .have T0:(l.getD k 0 != 0)=true:=(by rw [fT];exact a);have d:Yh (¬ue l):=λh=>absurd (h (l.getD k 0) (by simp [List.getD,t,bm])) a;generalize l.getD k 0=X at*;clear a;go_wp2;go_ret;exact⟨⟨_,rfl,⟨(λh=>by cases h),λh=>absurd h d.o⟩⟩,rfl⟩
  .have cw:¬(k:Int)<(n:Int):=(by omega);have d:Yh (ue l):=λx a=>by
    obtain⟨j,f,e⟩:=List.mem_iff_getElem.1 a;have:=g.o j (by omega);rw [<-e];simpa [List.getD,f] using this
   go_wp2;go_ret;exact⟨⟨_,rfl,⟨λ_=>d.o,λ_=>rfl⟩⟩,rfl⟩
theorem Rd.part {b o:Nat} (h:Rd w p b o c k l) {q m:Nat} (d:q+m<=l.length):∀i,i<m->w.cell? ⟨b,o+q+i,none⟩=some (.int .u8 ((part l q m).getD i 0)):=λi a=>by
 rw [ud a,Nat.add_assoc];exact h.src (q+i) (by omega)
theorem CT (p b o c k m:Nat) (l:List Int) (w:World) (h:Rd w p b o c k l) (g:k+m<=l.length) (xJ:k<c) (q:ue (part l k m)):
  Calls prog 190 #[pQ p,iV ((k+m:Nat):Int)] w λe w'=>e= .returned (.tuple #[])/\Rd w' p b o c (k+m) l/\aa (λj=>j=p) w w':=by
 have r:=bD h.rd;have i:=xO p b o l.length c k m w h.rd g h.cap xJ h.small h.Oe;have s:((k+m:Nat):Int)-(k:Int)=(m:Int):=by omega
 have AY:(m:Int)<=1000000:=by have:=h.small;omega
 generalize t:k+m=N at*;go_in;go_wp2_with fail;refine fk i λw1 lG eH=>?_;have d:=h.au lG eH;have f:=CS b (o+k) m (c-k) (part l k m) w1 (fx (by omega)) (by omega) (d.part (by omega));have H1:=(aF d eH);go_wp2_with fail;refine f.mono ?_;rintro e u ⟨⟨x,rfl,n⟩,a⟩;have ez:=a.symm;subst ez;have T0:=n.2 q;subst T0;go_wp2_with fail;refine(sI _).mono ?_;rintro e v ⟨rfl,a⟩;have ez:=a.symm;subst ez;go_wp2
 go_end0
 exact⟨rfl,H1⟩
theorem Of (p b o c k m:Nat) (l:List Int) (w:World) (h:Rd w p b o c k l) (g:k+m<=l.length) (xJ:k<c) (q:¬ue (part l k m)):
  Calls prog 190 #[pQ p,iV ((k+m:Nat):Int)] w λe w'=>e= .panicked mS/\aa (λj=>j=p) w w':=by
 have r:=bD h.rd;have i:=xO p b o l.length c k m w h.rd g h.cap xJ h.small h.Oe;have s:((k+m:Nat):Int)-(k:Int)=(m:Int):=by omega
 have AY:(m:Int)<=1000000:=by have:=h.small;omega
 generalize t:k+m=N at*;go_in;go_wp2_with fail;refine fk i λw1 lG eH=>?_;have d:=h.au lG eH;have f:=CS b (o+k) m (c-k) (part l k m) w1 (fx (by omega)) (by omega) (d.part (by omega));go_wp2_with fail;refine f.mono ?_;rintro e u ⟨⟨x,rfl,n⟩,a⟩;have ez:=a.symm;subst ez;have T0:x=false:=by
  cases x with
  |false=>rfl
  |true=>exact absurd (n.1 rfl) q
 subst T0;go_wp2_with fail;refine(Ee _).mono ?_;rintro e v ⟨rfl,a⟩;have ez:=a.symm;subst ez;go_wp2;exact⟨rfl,rfl,(aF d eH).2⟩
theorem oF (a b:Nat) (e:a<4294967296) (f:b<4294967296):bits .xor .i64 (a:Int) (b:Int)=((a ^^^ b:Nat):Int):=by
 have g:a ^^^ b<2 ^ 32:=Nat.xor_lt_two_pow (by omega) (by omega);have c:(BitVec.ofInt 64 (a:Int)).toNat=a:=by rw [BitVec.ofInt_natCast,BitVec.toNat_ofNat];exact Nat.mod_eq_of_lt (by omega)
 have d:(BitVec.ofInt 64 (b:Int)).toNat=b:=by rw [BitVec.ofInt_natCast,BitVec.toNat_ofNat];exact Nat.mod_eq_of_lt (by omega)
 show IntKind.i64.wrap ((BitVec.ofInt 64 (a:Int) ^^^ BitVec.ofInt 64 (b:Int)).toNat:Int)=_;rw [BitVec.toNat_xor,c,d,IntKind.wrap_i64];omega
theorem Og (b o n c:Nat) (l:List Int) (w:World) (j:Bytes l) (F:l.length=n) (H:n<=140737488355328) (q:∀i,i<n->w.cell? ⟨b,o+i,none⟩=some (.int .u8 (l.getD i 0))):
  Calls prog 119 #[.slice (some (aD b o)) n c] w λe w'=>e= .returned (iV ((sumOf l:Nat):Int))/\bW w w':=by
 have t:=yh q;clear q;unfold sumOf;go_in;go_wp2;go_loopw [3,4] (λr i wr=>∃k:Nat,k<=n/\i=iV k/\wr=w/\r=iV ((mX 4294967295 (l.take k):Nat):Int)) (λ_ i _=>n-(intOf i).toNat);case atStart=>exact⟨0,dU _,rfl,rfl,by simp [sZ]⟩
 case round=>
  obtain⟨k,E,rfl,rfl,rfl⟩:=hrel;by_cases bm:k<n
  .have cw:(k:Int)<(n:Int):=(by omega);have z:=t.o k bm;have mb:k<l.length:=(by omega);obtain⟨x,p,jA⟩:∃x:Nat,l.getD k 0=(x:Int)/\x<256:=by
    have:=j l[k] (List.getElem_mem mb);refine⟨(l.getD k 0).toNat,?_,?_⟩<;> simp [List.getD,mb] <;> omega
   have pz:Bytes (l.take k):=λy C=>j y (List.mem_of_mem_take C);have f:mX 4294967295 (l.take k)<4294967296:=rT (by omega) pz;have fZ:mX 4294967295 (l.take (k+1))=cbs 8 (mX 4294967295 (l.take k) ^^^ x):=by
    rw [List.take_succ_eq_append_getElem mb,xW _ _ pz];congr 2;have:l.getD k 0=l[k]:=(by simp [List.getD,mb]);rw [<-this,p];simp
   have g:=yh fZ;rw [p] at z;generalize v:mX 4294967295 (l.take k)=R at*;have A:R ^^^ x<4294967296:=by
    have:R ^^^ x<2 ^ 32:=Nat.xor_lt_two_pow (by omega) (by omega);omega
   have u:bits .xor .i64 (R:Int) (x:Int)=((R ^^^ x:Nat):Int):=oF _ _ f (by omega);clear fZ v pz f p;go_wp2;go_loopw [3,5] (λr i wx=>∃m:Nat,m<=8/\i=iV m/\wx=wr/\r=iV ((cbs m (R ^^^ x):Nat):Int)) (λ_ i _=>8-(intOf i).toNat);case atStart=>exact⟨0,dU _,rfl,rfl,rfl⟩
   case round=>
    obtain⟨m,G,rfl,rfl,rfl⟩:=hrel;have f:=uH m A;by_cases xw:m<8
    .have Bm:(m:Int)<8:=(by omega);have bz:cb (cbs m (R ^^^ x))=cbs (m+1) (R ^^^ x):=(by rw [sY];rfl);generalize cbs m (R ^^^ x)=S at*;have d:=yh bz;clear bz;have I:(S:Int).tmod 2=((S%2:Nat):Int):=(by rw [Int.tmod_eq_emod_of_nonneg (by omega)];omega);have J:(S:Int).tdiv 2=((S / 2:Nat):Int):=(by rw [Int.tdiv_eq_ediv_of_nonneg (by omega)];omega);rcases Nat.mod_two_eq_zero_or_one S with a|a
     .have D:(((S%2:Nat):Int) == 1)=false:=(by rw [a];rfl);have YM:Yh (cb S=S / 2):=(by show cb S=S / 2;simp [cb,a]);clear a;go_wp2;go_roundw;case rel=>exact⟨m+1,by omega,by go_num,trivial,by rw [<-d.o,YM.o];first|(rw [Int.natCast_ediv];rfl)|rw [s.out]⟩
      case measure=>simp [intOf];omega
     .have D:(((S%2:Nat):Int) == 1)=true:=(by rw [a];rfl);have s:Yh (bits .xor .i64 ((S:Int) / 2) 2197175160=((S / 2 ^^^ 2197175160:Nat):Int)):=oF (S / 2) 2197175160 (by omega) (by omega);have YM:Yh (cb S=S / 2 ^^^ 2197175160):=(by show cb S=S / 2 ^^^ 2197175160;simp [cb,a]);clear a;go_wp2;go_roundw;case rel=>exact⟨m+1,by omega,by go_num,trivial,by rw [<-d.o,YM.o];first|(rw [Int.natCast_ediv];rfl)|rw [s.out]⟩
      case measure=>simp [intOf];omega
    .have Bm:¬(m:Int)<8:=(by omega);have Xi:m=8:=(by omega);subst Xi;go_wp2;go_roundw;case rel=>exact⟨k+1,by omega,by go_num,trivial,by rw [g.o]⟩
     case measure=>simp [intOf];omega
  .have cw:¬(k:Int)<(n:Int):=(by omega);have TZ:l.take k=l:=nh (by omega);have f:mX 4294967295 l<4294967296:=rT (by omega) j;have u:bits .xor .i64 ((mX 4294967295 l:Nat):Int) 4294967295=((mX 4294967295 l ^^^ 4294967295:Nat):Int):=oF (mX 4294967295 l) 4294967295 f (by omega);rw [TZ] at*;go_wp2;go_ret;exact⟨rfl,(yh (bi wr.heap.size wr)).out⟩
theorem KA (a:Option Addr) (c:Nat) (w:World):
  Calls prog 119 #[.slice a 0 c] w λe w'=>e= .returned (iV ((sumOf []:Nat):Int))/\bW w w':=by
 have d:bits .xor .i64 4294967295 4294967295=0:=by decide
 have b:sumOf []=0:=by decide
 rw [b];go_in;go_wp2;refine wp_loop_rounds 1 ?_;rw [rounds_succ];go_wp2;go_ret;exact⟨rfl,bi w.heap.size w⟩
theorem Oh (a:Option Addr) (n c:Nat) (l:List Int) (w:World) (f:Bytes l) (g:n<=140737488355328) (d:Src w a n l):
  Calls prog 119 #[.slice a n c] w λe w'=>e= .returned (iV ((sumOf l:Nat):Int))/\bW w w':=by
 by_cases h0:n=0
 .subst h0;have:l= []:=List.eq_nil_of_length_eq_zero d.1;subst this;exact KA a c w
 .cases a with
  |none=>exact absurd (d.2.1 rfl) h0
  |some x=>
   obtain⟨b,o,rfl,k⟩:=d.spot (by omega);exact Og b o n c l w f d.1 g k
end Go.Proofs.YtenlkgicpllbhaaGreat
