import Derived.Test.YtcpdggdfihjhoabGreatW01
import Derived.Test.YtcpdggdfihjhoabGreatW03
import Derived.Test.YtcpdggdfihjhoabGreatW05
set_option maxRecDepth 20000
set_option maxHeartbeats 8000000
set_option linter.all false
namespace Go.Proofs.YtcpdggdfihjhoabGreat
open Go.Proofs.Tryz
open Go.RowKit Go.Maps
variable {ms ov:CM} {S:DS} {L:LG} {im:List Int} {ks:List Nat} {ls vs xs ys:List Value} {c cR cl d g gl i j k l n p q s:Nat} {F G:Nat->Prop} {a v:Value} {w w' w0 w1 w2 w5:World}
def VS (w:World) (F:Nat->Prop) (S:DS) (k:Nat) (vs:List Value):Prop:=
 vs.length=(au S.puts k).length+1/\∀j,j<vs.length->∃g c,vs[j]? =some (.slice (some (aD g 0)) 512 c)/\F g/\ay w 5 g c (bs (S.gL k j))
def qX (a:i<S.puts.length):S.puts.take (i+1)=S.puts.take i ++ [S.puts[i]]:=by rw [List.take_add_one,List.getElem?_eq_getElem a];rfl
def VS.skip (b:i<S.puts.length) (h:VS w F {S with puts:=S.puts.take i} k vs) (a:S.puts[i].1≠k):VS w F {S with puts:=S.puts.take (i+1)} k vs:=by
 have c:au (S.puts.take (i+1)) k=au (S.puts.take i) k:=by rw [qX b,fo,kR (puts:= [S.puts[i]]) (by simpa using a),List.append_nil]
 unfold VS DS.gL at*;simp only [c] at*;exact h
def VS.snoc (q:i<S.puts.length) (h:VS w F {S with puts:=S.puts.take i} k vs) (p:S.puts[i].1=k) (o:F g) (s:ay w 5 g c (bs S.puts[i].2)):
  VS w F {S with puts:=S.puts.take (i+1)} k (vs ++ [.slice (some (aD g 0)) 512 c]):=by
 have b:au (S.puts.take (i+1)) k=au (S.puts.take i) k ++ [S.puts[i].2]:=by rw [qX q,fo];simp [au,p]
 obtain⟨a,n⟩:=h;simp only at a;refine⟨by simp only [b];simp [a],λj r=>?_⟩;by_cases AZ:j<vs.length
 .obtain⟨m,c',d,e,f⟩:=n j AZ;refine⟨m,c',by rw [List.getElem?_append_left AZ];exact d,e,?_⟩;have:DS.gL {S with puts:=S.puts.take (i+1)} k j=DS.gL {S with puts:=S.puts.take i} k j:=by
   unfold DS.gL;split
   .rfl
   .simp only [b];rw [List.getD,List.getD,List.getElem?_append_left (by omega)]
  rw [this];exact f
 .have l:j=vs.length:=by simp at r;omega
  subst l;refine⟨g,c,by simp,o,?_⟩;have:DS.gL {S with puts:=S.puts.take (i+1)} k vs.length=S.puts[i].2:=by
   unfold DS.gL;rw [aB (by omega)];simp only [b,a,Nat.add_sub_cancel];simp [List.getD]
  rw [this];exact s
def VS.start (a:F g) (d:ay w 5 g c (bs (bL S.im k))):
  VS w F {S with puts:=S.puts.take 0} k [.slice (some (aD g 0)) 512 c]:=by
 refine⟨by simp [au],λj b=>?_⟩;have:j=0:=by simp at b;omega
 subst this;exact⟨g,c,rfl,a,d⟩
def NS {r:Nat} {K:Value} (h:cy w F r s S gl cl ls K xs) (k:Nat) (D:k<s) (aU:S.puts.length+1<=4000000000000):
  Calls prog 62 #[pQ r,iV (k:Int)] w λe w'=>∃g c vs,e= .returned (.slice (some (aD g 0)) ((au S.puts k).length+1) c)/\w.heap.size<=g/\ay w' 22 g c vs/\VS w F S k vs/\bW w w':=by
 obtain⟨H,rH,gB,dC,eu⟩:=info_parts tt;obtain⟨a,c,rfl,sH⟩:=h.form;have O:=aM h.dI;have t:=bG h.dI;obtain⟨z,cs,xw,Uw,pB⟩:=h.zx k D;have x:=h.last.cell xw;have ew:(k:Int)<(s:Int):=by omega
 go_in;go_wp2;go_loopw [5,6] (λv i wr=>∃j:Nat,j<=S.puts.length/\i=iV (j:Int)/\∃vs,wr.ownsRow w.heap.size 22 1 v ((au (S.puts.take j) k).length+1) vs/\VS w F {S with puts:=S.puts.take j} k vs/\bW w wr) (λ_ i _=>S.puts.length-(intOf i).toNat);case atStart=>
  refine⟨0,dV _,rfl,_,?_,(yh (VS.start (S:=S) Uw pB)).out,(bi _ w).alloc (bS _) _⟩;exact⟨by simp [au], .inr ⟨w.heap.size,1, #[.slice (some (aD z 0)) 512 cs],by simp [au],bS _,heap_alloc_new _ _,by simp [au],by decide,by simp,by simp [au]⟩⟩
 case round=>
  obtain⟨j,R,rfl,vs,aA,I1,d⟩:=hrel;have P:=cell_later d t;by_cases bq:j<S.puts.length
  .have cC:(j:Int)<(S.puts.length:Int):=(by omega);obtain⟨Q,rfl,E⟩:=(yh sH).out (by omega);obtain⟨g,l,I,J,A,n⟩:=E j bq;have L:=cell_later d I;have T:=cell_later d J;have py:=lT (S.puts.take j) k;have YR:(S.puts.take j).length<=S.puts.length:=(by rw [List.length_take];omega);by_cases f:S.puts[j].1=k
   .have p:=yh (VS.snoc bq I1 f A n);have uV:(au (S.puts.take (j+1)) k).length=(au (S.puts.take j) k).length+1:=(by rw [qX bq,fo];simp [au,f]);rw [f] at L;have bt:=yh aA;go_wp2_with (at_builtin;refine wpList_append_own _ rfl _ _ 79 rfl w.heap.size 22 H (.slice none 0 0) 1 24 underlying79 rH gB dC eu rfl (by decide) _ _ _ rfl (bt.o.alloc _) (aD wr.heap.size 0) 1 1 [.slice (some (aD g 0)) 512 l] rfl rfl (cell_one_new _ _ _) (by intro u q;simp at q;subst q;rfl) (by unfold maxLen;omega) (by omega) (by simp;have:=d.size;omega) ?_);intro M N cM aR jF;have uX:=λb e=>(bt.o.lt b e).1;have bF:=(d.alloc d.size _).grown aR (by simp;have:=d.size;omega) (λb e=>uX b e);have fN:N.ownsRow w.heap.size 22 1 M ((au (S.puts.take (j+1)) k).length+1) (vs ++ [.slice (some (aD g 0)) 512 l]):=(by rw [(yh uV).out];exact cM);go_wp2;go_roundw;case rel=>exact⟨j+1,by omega,by go_num,_,(yh fN).out,p.out,bF⟩
    case measure=>simp [intOf];omega
   .have dM:(((S.puts[j].1:Nat):Int) == (k:Int))=false:=(by rw [Bool.eq_false_iff,ne_eq,beq_iff_eq];omega);have uV:au (S.puts.take (j+1)) k=au (S.puts.take j) k:=(by rw [qX bq,fo,kR (puts:= [S.puts[j]]) (by simpa using f),List.append_nil]);rw [<-uV] at aA;go_wp2;go_roundw;case rel=>exact⟨j+1,by omega,by go_num,_,(yh aA).out,(yh (VS.skip bq I1 f)).out,d⟩
    case measure=>simp [intOf];omega
  .have cC:¬(j:Int)<(S.puts.length:Int):=(by omega);have y:j=S.puts.length:=(by omega);subst y;rw [List.take_length] at aA I1;obtain⟨g,l,G,C,n,_⟩:=ay.fe aA (by rintro rfl;rcases aA.2 with ⟨_,h⟩|⟨_,_,_,h,_⟩;omega;cases h);have m:=yh (aH C (aH n I1));subst G;go_wp2;go_ret;exact⟨g,l,rfl,m.o.1,vs,m.o.2.1,m.o.2.2,d⟩
def vU (x:Int) (y:Nat) (h:max x 0=(y:Int)) (w:World):
  Calls prog 124 #[iV x] w λe w'=>e= .returned (iV (y:Int))/\w'=w:=by
 by_cases b:x<0
 .have a:(y:Int)=0:=by omega
  rw [a];go_in;go_wp2;go_ret;exact⟨rfl,rfl⟩
 .have a:(y:Int)=x:=by omega
  rw [a];go_in;go_wp2;go_ret;exact⟨rfl,rfl⟩
def Kf (a lb:List Int) (j:Nat) (Jo:j<a.length) (Bl:j<lb.length):(a.take j ++ lb.drop j).set j a[j]=a.take (j+1) ++ lb.drop (j+1):=by
 have b:(a.take j).length=j:=by rw [List.length_take];omega
 have c:a.take (j+1)=a.take j ++ [a[j]]:=by rw [List.take_add_one,List.getElem?_eq_getElem Jo];rfl
 rw [List.set_append_right _ _ (by omega),b,Nat.sub_self,List.drop_eq_getElem_cons Bl,c,List.set_cons_zero,List.append_assoc];rfl
set_option maxRecDepth 100000 in
def Rr (du:S.Ok s) (ew:k<s) (I:ay w 22 g c vs) (J:VS w F S k vs)
    (A B C:Int) (A' B' l:Nat) (Z:max A 0=(A':Int)) (hB:max B 0=(B':Int)) (hC:max C 0=(l:Int)) (N:A<=9223372036854775807) (O:B<=9223372036854775807) (P:C<=9223372036854775807):
  Calls prog 63 #[.slice (some (aD g 0)) ((au S.puts k).length+1) c, .agg #[iV A,iV B,iV C]] w λe w'=>∃b,e= .returned (.slice (some (aD b 0)) 512 512)/\w.heap.size<=b/\ay w' 5 b 512 (bs (jo S k A' B' l))/\bW w w':=by
 have VM:=J.1;have Jk:∀j:Nat,(j:Int)%(((au S.puts k).length:Int)+1)=((j%((au S.puts k).length+1):Nat):Int):=λj=>by push_cast;rfl
 have B9:∀j:Nat,j%((au S.puts k).length+1)<(au S.puts k).length+1:=λj=>Nat.mod_lt _ (by omega);obtain⟨G,XR⟩:=bQ (A'%((au S.puts k).length+1));obtain⟨H,Zz⟩:=bQ (B'%((au S.puts k).length+1));have aic:=XR▸B9 A';have aid:=Zz▸B9 B';have T:=Jk A';have U:=Jk B';rw [<-XR] at T;rw [<-Zz] at U;obtain⟨ga,ca,W,hFa,A8⟩:=J.2 G (by omega);obtain⟨Y,cb,X,Dw,BG⟩:=J.2 H (by omega);have ka:=I.cell W;have kb:=I.cell X;have hgw:=I.lt;have Q:(l:Int)%513=((l%513:Nat):Int):=by push_cast;rfl
 obtain⟨a,Bo⟩:=bQ (l%513);rw [<-Bo] at Q;have Xt:a<=512:=by omega
 have x:=vU A A' Z;have z:=vU B B' hB;have D:=vU C l hC;have hA2:(A':Int)<=9223372036854775807:=by omega
 have eR:(B':Int)<=9223372036854775807:=by omega
 have Qb:(l:Int)<=9223372036854775807:=by omega
 have aoH:(G:Int)<((au S.puts k).length:Int)+1:=by omega
 have aoI:(H:Int)<((au S.puts k).length:Int)+1:=by omega
 have IU:jo S k A' B' l=(S.gL k G).take a ++ (S.gL k H).drop a:=by unfold jo;rw [<-XR,<-Zz,<-Bo]
 rw [IU];obtain⟨K,L⟩:=bU A8 BG;have n:=yh (DS.nz du ew (j:=G) (by omega));have d:=yh (DS.nz du ew (j:=H) (by omega));clear Z hB hC N O P Jk B9 Bo XR Zz IU A8 BG I J VM W X aic aid;generalize S.gL k G=f at*;generalize S.gL k H=lb at*;go_in;go_wp2_with fail;refine(x _).mono ?_;rintro e w1 ⟨rfl,m⟩;have eM:=m.symm;subst eM;clear m;go_wp2_with fail;refine(z _).mono ?_;rintro e w1 ⟨rfl,m⟩;have eM:=m.symm;subst eM;clear m;go_wp2_with fail;refine(D _).mono ?_;rintro e w1 ⟨rfl,m⟩;have eM:=m.symm;subst eM;clear m;have si:Src (w.alloc (.cells #[.int .i64 A, .int .i64 B, .int .i64 C] 112)) (some (aD Y 0)) 512 lb:=by
  have:=L.o.src;rw [d.o] at this;exact this.later ((bi _ w).alloc (bS _) _)
 have Mo:=lP (some (aD Y 0)) 512 cb lb _ (by omega) si;clear si;go_wp2_with (go_at_call 91;refine Mo.mono ?_;rintro e w2 ⟨b,rfl,Rt,Bt,eH⟩);have bd:=((bi _ w).alloc (bS _) _).trans (eH.mono (by simp));have fZ:w.heap.size<=b:=by simp at Rt;omega
 have Ff:w2.heap[b]? =some (.cells (bs (f.take 0 ++ lb.drop 0)).toArray 5 (0,0)):=by simpa using Bt.full (by simp [bs,d.o])
 have r:=yh Ff;clear Bt eH Rt Mo Ff x z D ka kb;go_loopw [9] (λi wr=>∃j:Nat,j<=a/\i=iV (j:Int)/\wr.heap[b]? =some (.cells (bs (f.take j ++ lb.drop j)).toArray 5 (0,0))/\bW w wr) (λi _=>a-(intOf i).toNat);case atStart=>exact⟨0,dV _,rfl,r.o,bd⟩
 case round=>
  clear bd r;obtain⟨j,hj,rfl,hh,R⟩:=hrel;have q:=yh hh;clear hh;by_cases bq:j<a
  .have cC:(j:Int)<(a:Int):=(by omega);have hj5:(j:Int)<512:=(by omega);have XR:j<f.length:=(by have:=n.o;omega);have Zz:j<lb.length:=(by have:=d.o;omega);have ca1:wr.cell? (aD ga j)=some (.int .u8 f[j]):=by
    have:=K.o.byte XR;rw [aN,Nat.zero_add] at this;simpa [List.getD,List.getElem?_eq_getElem XR] using (cell_later R this)
   have v:∃u,wr.cell? (aD b j)=some u:=⟨_,aj q.o (j:=j) (by simp only [List.getElem?_toArray];exact List.getElem?_eq_getElem (by simp [bs];have:=n.o;have:=d.o;omega))⟩;obtain⟨u,v⟩:=v;have fb1:=ae q.o j;have E:(wr.setCell ⟨b,j,none⟩ (.int .u8 f[j])).heap[b]? =some (.cells (bs (f.take (j+1) ++ lb.drop (j+1))).toArray 5 (0,0)):=by
    rw [heap_setCell_same _ _ _ _ _ _ q.o,<-Kf f lb j XR Zz];simp [bs,List.map_set]
   have t:=yh (aH E (R.setCell (p:=⟨b,j,none⟩) fZ (.int .u8 f[j])));clear E q;generalize f[j]=y at*;go_wp2;go_roundw;case rel=>exact⟨j+1,by omega,by go_num,t.o.1,t.o.2⟩
   case measure=>simp [intOf];omega
  .have cC:¬(j:Int)<(a:Int):=(by omega);have ej:j=a:=(by omega);subst ej;have I2:ay wr 5 b 512 (bs (f.take j ++ lb.drop j)):=by
    have Kg:(bs (f.take j ++ lb.drop j)).length=512:=(by simp only [bs,List.length_map,ed,List.length_take,List.length_drop];have:=n.o;have:=d.o;omega);have:=ay.xL q.o (by rw [Kg];decide);rw [Kg] at this;exact this
   have M:=yh I2;clear I2 q;go_wp2;go_ret;refine⟨b,rfl,fZ,?_,R⟩;have hx:=M.o;simp only [bs,List.map_append,List.map_take,List.map_drop] at hx;exact hx
def mB (w:World) (F:Nat->Prop) (S:DS) (l:List P3) (ks:List Nat) (xs:List Value):Prop:=
 xs.length=ks.length*2/\∀i (hi:i<ks.length),∃g,xs[2*i]? =some (iV ((ks[i]:Nat):Int))/\xs[2*i+1]? =some (.slice (some (aD g 0)) 512 512)/\F g/\ay w 5 g 512 (bs (fj S l ks[i]))
def mB.snoc {l:List P3} (h:mB w F S l ks xs) (o:∀k,F k->G k) (q:∀b ys,F b->ay w 5 b 512 ys->ay w' 5 b 512 ys) (p:G g) (s:ay w' 5 g 512 (bs (fj S l k))):
  mB w' G S l (ks ++ [k]) (xs ++ [iV (k:Int), .slice (some (aD g 0)) 512 512]):=by
 obtain⟨m,n⟩:=h;refine⟨by simp [m];omega,λi r=>?_⟩;by_cases ny:i<ks.length
 .obtain⟨j,c,d,a,e⟩:=n i ny;refine⟨j,?_,?_,o _ a,?_⟩
  .rw [List.getElem?_append_left (by omega),c,List.getElem_append_left ny]
  .rw [List.getElem?_append_left (by omega),d]
  .rw [List.getElem_append_left ny];exact q _ _ a e
 .have f:i=ks.length:=by simp at r;omega
  subst f;refine⟨g,?_,?_,p,?_⟩
  .rw [List.getElem?_append_right (by omega),show 2*ks.length-xs.length=0 by omega];simp
  .rw [List.getElem?_append_right (by omega),show 2*ks.length+1-xs.length=1 by omega];simp
  .simpa using s
def mB.agree {l:List P3} (h:mB w F S l ks xs) (f:∀k,F k->G k) (j:∀b ys,F b->ay w 5 b 512 ys->ay w' 5 b 512 ys):mB w' G S l ks xs:=
   ⟨h.1,λi m=>by obtain⟨g,c,d,a,e⟩:=h.2 i m;exact⟨g,c,d,f _ a,j _ _ a e⟩⟩
def wt (h:au S.puts k= []):aI S (k+1)=aI S k:=by rw [pF,aG h,List.append_nil]
def qg (h:au S.puts k≠ []):aI S (k+1)=aI S k ++ [k]:=by rw [pF,aB h]
def Gt (h:S.puts= []) (s:Nat):aI S s= []:=by
 unfold aI;rw [List.filter_eq_nil_iff];intro k _;simp [h,au]
def wu {wr wx:World} {l:List P3} (du:S.Ok s) (ew:k<s) (x:au S.puts k≠ []) (m:ay wr 22 g c vs) (n:VS w F S k vs) (bq:∀b,F b->b<w.heap.size) (i:bW w wr) (o:bW wr wx)
    (A B C:Int) (y:mq l (aI S k).length=(A,B,C)) (r:A<=9223372036854775807) (t:B<=9223372036854775807) (u:C<=9223372036854775807):
  Calls prog 63 #[.slice (some (aD g 0)) ((au S.puts k).length+1) c, .agg #[iV A,iV B,iV C]] wx λe w'=>∃a,e= .returned (.slice (some (aD a 0)) 512 512)/\wx.heap.size<=a/\ay w' 5 a 512 (bs (fj S l k))/\bW wx w':=by
 have d:VS wx F S k vs:=⟨n.1,λj v=>by obtain⟨a,c',p,f,q⟩:=n.2 j v;exact⟨a,c',p,f,q.agree ((i.trans (o.mono i.size)).block a (bq a f))⟩⟩;have e:fj S l k=jo S k (max A 0).toNat (max B 0).toNat (max C 0).toNat:=by
  unfold fj uY;rw [aB x,y]
 rw [e];exact Rr du ew (m.agree (o.block g m.lt)) d A B C _ _ _ (by omega) (by omega) (by omega) r t u
def AW {wr a:World} {l:List P3} {i:Value} {o:Obj} (c:bW w wr) (fa:bW wr w5) (aA:wr.ownsRow w.heap.size 117 2 v (aI S k).length ys)
    (ww:mB wr (λb=>w.heap.size<=b/\b<wr.heap.size) S l (aI S k) ys) (d:au S.puts k≠ []) (n:wr.heap.size<=g) (f:ay w5 5 g 512 (bs (fj S l k))) (aR:(w5.alloc o).grownBy a v.ownBlock)
    (cM:a.ownsRow w.heap.size 117 2 i ((aI S k).length+1) (ys ++ [iV (k:Int), .slice (some (aD g 0)) 512 512])):
  a.ownsRow w.heap.size 117 2 i (aI S (k+1)).length (ys ++ [iV (k:Int), .slice (some (aD g 0)) 512 512])/\mB a (λb=>w.heap.size<=b/\b<a.heap.size) S l (aI S (k+1)) (ys ++ [iV (k:Int), .slice (some (aD g 0)) 512 512])/\bW w a:=by
 have m:=c.size;have ZG:(w5.alloc o).heap.size=w5.heap.size+1:=by simp
 have Ru:=aR.size;have UW:=f.lt;have rP:=aF aA (λb e=>fa.block b (aA.lt b e).2);have aw:∀b ys,ay w5 5 b 512 ys->ay a 5 b 512 ys:=λb zs eH=>by
  have j:=eH.lt;refine eH.agree ((aR.block b (by omega) (λe=>?_)).trans (Below.heap_alloc _ _ _ j));obtain⟨cur,gW,_⟩:=eH;exact dS rP e.symm gW (by decide) rfl
 refine⟨by rw [qg d];simpa using cM,?_,?_⟩
 .rw [qg d];exact ww.snoc (λb h=>⟨h.1,by omega⟩) (λb zs h Bt=>aw b zs (Bt.agree (fa.block b h.2))) ⟨by omega,by omega⟩ (aw g _ f)
 .exact((c.trans (fa.mono m)).alloc (by omega) o).grown aR (by omega) (λb e=>(aA.lt b e).1)
def LJ {wr:World} {l:List P3} (a:bW w wr) (fa:bW wr w5) (aA:wr.ownsRow w.heap.size 117 2 v (aI S k).length ys)
    (ww:mB wr (λb=>w.heap.size<=b/\b<wr.heap.size) S l (aI S k) ys) (c:au S.puts k= []):
  w5.ownsRow w.heap.size 117 2 v (aI S (k+1)).length ys/\mB w5 (λb=>w.heap.size<=b/\b<w5.heap.size) S l (aI S (k+1)) ys/\bW w w5:=by
 have pL:=fa.size;rw [wt c];exact⟨aF aA (λb e=>fa.block b (aA.lt b e).2),ww.agree (λb h=>⟨h.1,by omega⟩) (λb zs h Bt=>Bt.agree (fa.block b h.2)),a.trans (fa.mono a.size)⟩
def zC {wr:World} {r:Nat} {e:Value} {l:List P3} (h:cy wr G r s {S with im:=im} gl cl ls e xs) (g:im=pC s (fj S l)) (d:F r) (i:aa F w wr):
  wr.cell? (aD r 1)=some e/\wr.frozen? (aD r 1)=false/\(wr.setCell ⟨r,1,none⟩ (.slice none 0 0)).cell? (aD r 2)=some (iV S.fuse)/\(wr.setCell ⟨r,1,none⟩ (.slice none 0 0)).frozen? (aD r 2)=false/\
    ((wr.setCell ⟨r,1,none⟩ (.slice none 0 0)).setCell ⟨r,2,none⟩ (.int .i64 (-1))).cell? (aD r 3)=some (iV S.life)/\((wr.setCell ⟨r,1,none⟩ (.slice none 0 0)).setCell ⟨r,2,none⟩ (.int .i64 (-1))).frozen? (aD r 3)=false/\
  cy (((wr.setCell ⟨r,1,none⟩ (.slice none 0 0)).setCell ⟨r,2,none⟩ (.int .i64 (-1))).setCell ⟨r,3,none⟩ (.int .i64 (wrap64 (S.life+1)))) G r s (S.iy s l) gl cl ls (.slice none 0 0) []/\
  aa F w (((wr.setCell ⟨r,1,none⟩ (.slice none 0 0)).setCell ⟨r,2,none⟩ (.int .i64 (-1))).setCell ⟨r,3,none⟩ (.int .i64 (wrap64 (S.life+1)))):=by
 subst g;obtain⟨a,ff⟩:=h.dropped;have b:cy ((wr.setCell ⟨r,1,none⟩ (.slice none 0 0)).setCell ⟨r,2,none⟩ (.int .i64 (-1))) G r s {S with im:=pC s (fj S l),puts:= [],fuse:= -1} gl cl ls (.slice none 0 0) []:=
  a.nx (a.set 2 _).2 ((a.set 2 _).1.trans (by simp [bJ])) rfl rfl (by simp)
 have f:cy (((wr.setCell ⟨r,1,none⟩ (.slice none 0 0)).setCell ⟨r,2,none⟩ (.int .i64 (-1))).setCell ⟨r,3,none⟩ (.int .i64 (wrap64 (S.life+1)))) G r s (S.iy s l) gl cl ls (.slice none 0 0) []:=
  b.nx (b.set 3 _).2 ((b.set 3 _).1.trans (by simp [bJ,DS.iy])) rfl rfl (by simp [DS.iy])
 exact⟨bG h.dI,ae h.dI 1,bK a.dI,ae a.dI 2,fQ b.dI,ae b.dI 3,f,
    ((i.trans ff (λj c=> .inl (c▸d))).trans (a.set 2 _).2 (λj c=> .inl (c▸d))).trans (b.set 3 _).2 (λj c=> .inl (c▸d))⟩
def IL {wr:World} {l:List P3} {base:Nat} (aA:w.ownsRow base 117 2 v ks.length ys) (ww:mB wr G S l ks ys):
  ∃a c,v= .slice a ks.length c/\(0<ks.length->∃gf,a=some (aD gf 0)/\base<=gf/\∀i (d:i<ks.length),∃g,w.cell? ⟨gf,i*2,none⟩=some (iV ((ks[i]:Nat):Int))/\w.cell? ⟨gf,i*2+1,none⟩=some (.slice (some (aD g 0)) 512 512)/\G g/\ay wr 5 g 512 (bs (fj S l ks[i]))):=by
 have f:=aA;obtain⟨_,⟨e,s⟩|⟨b,m,cur,e,r,_⟩⟩:=aA
 .exact⟨none,0,by rw [e,s],λh0=>by omega⟩
 .refine⟨_,_,e,λ_=>⟨b,rfl,r,λi d=>?_⟩⟩;obtain⟨g,n,o,p,q⟩:=ww.2 i d;have j:=f.cells (g:=b) (by rw [e];rfl) _ _ n;have k:=f.cells (g:=b) (by rw [e];rfl) _ _ o;rw [aN,Nat.zero_add] at j k;exact⟨g,by rw [Nat.mul_comm];exact j,by rw [Nat.mul_comm];exact k,p,q⟩
set_option maxRecDepth 100000 in
def Gu {r:Nat} (hd:aC w F r s S) (d:S.puts.length=0) (a:Option Addr) (n c:Nat) (l:List P3):
  Calls prog 25 #[pQ r, .slice a n c] w λe w'=>e= .returned (.tuple #[])/\aC w' (more F w w') r s (S.iy s l)/\aa F w w':=by
 obtain⟨o,j,p,A,xs,h⟩:=hd;obtain⟨q,t,xD,_⟩:=h.form;have g:=bG h.dI;obtain⟨m,u,v,x,y,z,nL,gO⟩:=zC h (uZ h.ok l h.ok.len (λi _=>by simp [(Gt (List.eq_nil_of_length_eq_zero d) s)])) h.fr (aa.refl F w);have f:=(aH (show aC _ (more F w (((w.setCell ⟨r,1,none⟩ (.slice none 0 0)).setCell ⟨r,2,none⟩ (.int .i64 (-1))).setCell ⟨r,3,none⟩ (.int .i64 (wrap64 (S.life+1))))) r s (S.iy s l) from ⟨o,j,p,_,_,nL.mono (λ_ b=> .inl b) (λk b=>by
  rcases b with b|b
  .exact nL.lt k b
  .exact b.2)⟩) gO)
 rw [xD,d] at g m;go_in;go_wp2;refine wp_loop_rounds 1 ?_;rw [rounds_succ];go_wp2
 go_end0
 exact⟨rfl,f⟩
set_option maxRecDepth 100000 in
def Gv {r:Nat} (hd:aC w F r s S) (hz:0<S.puts.length) (aU:S.puts.length+1<=4000000000000) (a:Option Addr) (n c:Nat) (l:List P3) (DA:kX w a n l) (hn:n<=140737488355328):
  Calls prog 25 #[pQ r, .slice a n c] w λe w'=>e= .returned (.tuple #[])/\aC w' (more F w w') r s (S.iy s l)/\aa F w w':=by
 obtain⟨i0,rH,gB,dC,eu⟩:=info_parts Mm;obtain⟨m,cl,W,pv,xs,h⟩:=hd;obtain⟨y,Fk,Mp⟩:=kE h.ok h.fl h.fr;obtain⟨ap,cp,xD,_⟩:=h.form;have c0:=aM h.dI;have c1:=bG h.dI;rw [xD] at c1;obtain⟨lz,H,U⟩:=kE h.ok.hi h DA;clear h xD DA;go_in;go_wp2;clear c1;go_loopw [4,5,6,7,8] (λkc v i _ _ wr=>∃t:Nat,t<=s/\i=iV (t:Int)/\kc=iV ((aI S t).length:Int)/\∃P,wr.ownsRow w.heap.size 117 2 v (aI S t).length P/\mB wr (λb=>w.heap.size<=b/\b<wr.heap.size) S l (aI S t) P/\bW w wr) (λ_ _ i _ _ _=>s-(intOf i).toNat);case atStart=>exact⟨0,dV _,rfl,rfl, [],World.ownsRow_nil _ _ _ _,⟨rfl,λi hi=>by simp [aI] at hi⟩,bi _ _⟩
 case round=>
  obtain⟨t,ht,rfl,rfl,P,aA,ww,d⟩:=hrel;have e0:=cell_later d c0;have I4:(aI S t).length<=t:=by
   have:=List.length_filter_le (λk=> !(au S.puts k).isEmpty) (List.range t);rw [List.length_range] at this;exact this
  by_cases bq:t<s
  .have cC:(t:Int)<(s:Int):=(by omega);have hh:=H.agree d.size (λk f=>d.block k (H.lt k f));obtain⟨tB,bt,u,py⟩:=cO (NS hh t bq aU) aA ww (lT S.puts t);clear hh aA ww;by_cases E:au S.puts t= []
   .have cq:(au S.puts t).length=0:=(by rw [E];rfl);rw [cq] at tB;have Jq:=(λw5 h5=>LJ (w5:=w5) d h5 bt u E);have aY:=wt E;have L:=aY;clear aY E cq;go_wp2_with fail;refine tB.mono ?_;rintro e w1 ⟨g1,cg1,vs,rfl,po,mj,I1,ar⟩;obtain⟨J,K,p⟩:=Jq w1 ar;have C:=(aH J (aH K p));clear tB Jq J K p mj I1 ar bt u d e0;go_wp2;go_roundw;case rel=>exact⟨t+1,by omega,by go_num,by rw [L],P,C.1,C.2.1,C.2.2⟩
    case measure=>simp [intOf];omega
   .have cq:((((au S.puts t).length:Int)+1) == 1)=false:=by
     have:=List.length_pos_iff.2 E;rw [Bool.eq_false_iff,ne_eq,beq_iff_eq];omega
    have aY:(aI S (t+1)).length=(aI S t).length+1:=(by rw [qg E];simp);have L:=aY;clear aY;go_wp2_with fail;refine tB.mono ?_;rintro e w1 ⟨g1,cg1,vs,rfl,po,mj,I1,ar⟩;have Rv:=d.trans (ar.mono d.size);have N:=mj;have O:=I1;clear mj I1 tB;by_cases kZ:n=0
    .subst kZ;have I:mq l (aI S t).length=(0,0,0):=(by simp [mq,U.1]);have IU:=λo=>wu y bq E N O (λb eH=>i5 (H.lt b eH) d.size) ar ((bi w1.heap.size w1).alloc (bS _) o) 0 0 0 I (by omega) (by omega) (by omega);have Xv:=IU;clear IU I;go_wp2_with fail;refine(Xv _).mono ?_;rintro e w5 ⟨Q,rfl,Gn,Fe,fa⟩;have NT:=(ar.alloc ar.size _).trans (fa.mono (by simp;have:=ar.size;omega));have rP:=aF bt (λb e=>NT.block b (bt.lt b e).2);have R:wr.heap.size<=Q:=(by simp at Gn;have:=ar.size;omega);obtain⟨I5,Gw,z,A⟩:=cO (j3 d.size NT.size) rP Fe NT;clear rP Fe NT fa Gn Xv N O Rv;go_wp2_with (at_builtin;refine wpList_append_own _ rfl _ _ 99 rfl w.heap.size 117 i0 _ 2 32 underlying99 rH gB dC eu rfl (by decide) _ _ _ rfl (Gw.alloc _) (aD w5.heap.size 0) 1 1 [iV (t:Int), .slice (some (aD Q 0)) 512 512] rfl rfl (World.news_of_block (cs:= #[iV (t:Int), .slice (some (aD Q 0)) 512 512]) (t:=117) (fr:=(0,0)) (heap_alloc_new w5 _)) (by simp [Value.oneCell']) (by unfold maxLen;omega) (by omega) (by simp;omega) ?_);intro v' w6 cM aR jF;obtain⟨J,K,p⟩:=AW d A bt u E R z aR cM;have C:=(aH J (aH K p));clear J K p cM aR jF Gw z A bt u d e0;go_wp2;go_roundw;case rel=>exact⟨t+1,by omega,by go_num,by rw [L];go_num,_,C.1,C.2.1,C.2.2⟩
     case measure=>simp [intOf];omega
    .obtain⟨x,rfl⟩:∃x,a=some x:=by
      cases a with
      |none=>exact absurd (U.2.1 rfl) kZ
      |some x=>exact⟨x,rfl⟩
     have j5:=U.1;have Y0:0<l.length:=(by omega);obtain⟨q,I⟩:=bQ ((aI S t).length%n);have hqn:q<n:=(by rw [I];exact Nat.mod_lt _ (by omega));have A7:q<l.length:=(by omega);obtain⟨b,o,rfl,p0,X,Y⟩:=U.2.2.1 x rfl q A7;have Pm:mq l (aI S t).length=(l[q].1,l[q].2.1,l[q].2.2):=by
      have e1:(aI S t).length%l.length=q:=(by rw [j5,I]);simp only [mq,Y0,dif_pos,e1]
     obtain⟨b1,b2,b3⟩:=U.2.2.2 l[q] (List.getElem_mem A7);have IU:=λo=>wu y bq E N O (λb eH=>i5 (H.lt b eH) d.size) ar ((bi w1.heap.size w1).alloc (bS _) o) _ _ _ Pm b1 b2 b3;have hmo:((aI S t).length:Int)%(n:Int)=(q:Int):=(by rw [I];push_cast;rfl);have iM:(q:Int)<(n:Int):=(by omega);replace p0:=cell_later Rv p0;replace X:=cell_later Rv X;replace Y:=cell_later Rv Y;have hbw:=World.block_lt_of_cell? _ _ p0;have Xv:=IU;clear IU Pm I;generalize l[q].1=qa at*;generalize l[q].2.1=qb at*;generalize l[q].2.2=qc at*;go_wp2_with fail;refine(Xv _).mono ?_;rintro e w5 ⟨Q,rfl,Gn,Fe,fa⟩;have NT:=(ar.alloc ar.size _).trans (fa.mono (by simp;have:=ar.size;omega));have rP:=aF bt (λb e=>NT.block b (bt.lt b e).2);have R:wr.heap.size<=Q:=(by simp at Gn;have:=ar.size;omega);obtain⟨I5,Gw,z,A⟩:=cO (j3 d.size NT.size) rP Fe NT;clear p0 X Y rP Fe NT fa Gn Xv N O Rv;go_wp2_with (at_builtin;refine wpList_append_own _ rfl _ _ 99 rfl w.heap.size 117 i0 _ 2 32 underlying99 rH gB dC eu rfl (by decide) _ _ _ rfl (Gw.alloc _) (aD w5.heap.size 0) 1 1 [iV (t:Int), .slice (some (aD Q 0)) 512 512] rfl rfl (World.news_of_block (cs:= #[iV (t:Int), .slice (some (aD Q 0)) 512 512]) (t:=117) (fr:=(0,0)) (heap_alloc_new w5 _)) (by simp [Value.oneCell']) (by unfold maxLen;omega) (by omega) (by simp;omega) ?_);intro v' w6 cM aR jF;obtain⟨J,K,p⟩:=AW d A bt u E R z aR cM;have C:=(aH J (aH K p));clear J K p cM aR jF Gw z A bt u d e0;go_wp2;go_roundw;case rel=>exact⟨t+1,by omega,by go_num,by rw [L];go_num,_,C.1,C.2.1,C.2.2⟩
     case measure=>simp [intOf];omega
  .have cC:¬(t:Int)<(s:Int):=(by omega);have et:t=s:=(by omega);subst et;obtain⟨G,hW7⟩:=bQ wr;subst hW7;have gO:=aa.ah F d;have B7:∀k,more F w G k->k<G.heap.size:=λk f=>by
    rcases f with f|f
    .exact i5 (H.lt k f) d.size
    .exact f.2
   obtain⟨Z,Hk7,XS,adg⟩:=cO ((H.agree d.size (λk f=>d.block k (H.lt k f))).mono (λ_ f=> .inl f) B7) gO aA ww;clear gO B7 aA ww d H U c0;go_wp2;clear e0;go_loopw [9] (λi wr=>∃j:Nat,j<=(aI S t).length/\i=iV (j:Int)/\∃W im,cy wr (more F w G) r t {S with im:=im} m cl W pv xs/\(∀i,i<t->bL im i=if i∈(aI S t).take j then fj S l i else bL S.im i)/\aa F w wr/\wr.ownsRow w.heap.size 117 2 u5 (aI S t).length P/\mB wr (λb=>w.heap.size<=b/\b<G.heap.size) S l (aI S t) P/\wr.heap.size=G.heap.size) (λi _=>(aI S t).length-(intOf i).toNat);case atStart=>exact⟨0,dV _,rfl,W,S.im,Z,λi _=>by simp,Hk7,XS,adg,rfl⟩
   case round=>
    clear Z Hk7 XS adg;obtain⟨j,hj,rfl,W,im,hd,DB,f,aA,ww,eE⟩:=hrel;have c0:=aM hd.dI;obtain⟨af,cf,T,D⟩:=IL aA ww;have IT:=DB;clear DB;by_cases bq:j<(aI S t).length
    .have cC:(j:Int)<((aI S t).length:Int):=(by omega);obtain⟨gf,rfl,hgf,D⟩:=D (by omega);obtain⟨g,X,Y,hF,hr⟩:=D j bq;have Kh:=List.getElem?_eq_getElem bq;obtain⟨ew,E,_,Qg⟩:=yI y l hd.ok.len Kh IT;have aib:(((aI S t)[j]:Nat):Int)<(t:Int):=(by omega);obtain⟨q1,q2⟩:=hd.stored ew (.inr hF) hr (im:=splice im ((aI S t)[j] *512) (fj S l (aI S t)[j])) (by rw [jn _ _ _ (by rw [tC y l _ ew];have:=hd.ok.len;simp only at this;omega)];exact hd.ok.len) (λi hi=>sh hd.ok.len (tC y l _ ew) ew);obtain⟨gx,cx,jI,_⟩:=hd.zx _ ew;have cl0:=hd.last.cell jI;have fl:=hd.last.frozen (aI S t)[j];have rF:r≠m:=λe=>hd.last.ne hd.dI (by decide) e.symm;have eH:=hd.last;obtain⟨cur,lx,_⟩:=eH;have py:gf≠m:=dS aA (by rw [T];rfl) lx (by decide);have fN:(wr.setCell ⟨m,(aI S t)[j],none⟩ (.slice (some ⟨g,0,none⟩) 512 512)).ownsRow w.heap.size 117 2 u5 (aI S t).length P:=aF aA (λb e=>Below.heap_setCell _ _ _ _ (dS aA e lx (by decide)));have adi:=ww.agree (λ_ h=>h) (λb zs _ Bt=>Bt.other q2 lx (by decide));have I:cy (wr.setCell ⟨m,(aI S t)[j],none⟩ (.slice (some ⟨g,0,none⟩) 512 512)) (more F w G) r t {S with im:=splice im ((aI S t)[j] *512) (fj S l (aI S t)[j])} m cl (W.set (aI S t)[j] (.slice (some (aD g 0)) 512 512)) pv xs/\(∀i,i<t->bL (splice im ((aI S t)[j] *512) (fj S l (aI S t)[j])) i=if i∈(aI S t).take (j+1) then fj S l i else bL S.im i)/\aa F w (wr.setCell ⟨m,(aI S t)[j],none⟩ (.slice (some ⟨g,0,none⟩) 512 512))/\
         (wr.setCell ⟨m,(aI S t)[j],none⟩ (.slice (some ⟨g,0,none⟩) 512 512)).ownsRow w.heap.size 117 2 u5 (aI S t).length P/\mB (wr.setCell ⟨m,(aI S t)[j],none⟩ (.slice (some ⟨g,0,none⟩) 512 512)) (λb=>w.heap.size<=b/\b<G.heap.size) S l (aI S t) P/\(wr.setCell ⟨m,(aI S t)[j],none⟩ (.slice (some ⟨g,0,none⟩) 512 512)).heap.size=G.heap.size:=
        ⟨q1,Qg,f.trans q2 (λb d=> .inl (d▸Fk)),fN,adi,by simpa [World.setCell] using eE⟩
     have Hq:=I;have mo:∀b o v,b≠m->(wr.setCell ⟨m,(aI S t)[j],none⟩ v).cell? (aD b o)=wr.cell? (aD b o):=λb o v d=>World.cell?_of_block (w:=wr) (a:=(aD b o)) (Below.heap_setCell wr ⟨m,(aI S t)[j],none⟩ v b d);have m0:=λv=>(mo r 0 v rF).trans c0;have m2:=λv=>(mo gf (j*2) v py).trans X;have m3:=λv=>(mo gf (j*2+1) v py).trans Y;have M:=(aH m0 (aH m2 m3));clear m0 m2 m3 mo I q1 q2 hr hd D f jI aA ww fN adi lx Qg IT Kh;generalize (aI S t)[j]=kj at*;subst T;go_wp2_with fail;go_region_held3 (λw'=>w'.cell? (aD r 0)=some (.slice (some (aD m 0)) t cl)/\w'.cell? ⟨gf,j*2,none⟩=some (iV (kj:Int))/\w'.cell? ⟨gf,j*2+1,none⟩=some (.slice (some (aD g 0)) 512 512)) (first|exact⟨c0,X,Y⟩|exact⟨M.1 _,M.2.1 _,M.2.2 _⟩) (fail);all_goals
      go_wp2;go_roundw;case rel=>
       obtain⟨J,K,p,z4,z5,z6⟩:=Hq;exact⟨j+1,by omega,by go_num,_,_,J.agree (bS _) (λ_ _=>rfl),K,⟨p.os,p.tape,p.output,p.size,p.block⟩,z4,z5,z6⟩
      case measure=>simp [intOf];omega
    .have cC:¬(j:Int)<((aI S t).length:Int):=(by omega);have ej:j=(aI S t).length:=(by omega);rw [ej] at IT;have bV:=uZ y l hd.ok.len IT;obtain⟨d1,d2,d3,d4,d5,d6,nL,gO⟩:=zC hd bV Mp f;have Mq:(((wr.setCell ⟨r,1,none⟩ (.slice none 0 0)).setCell ⟨r,2,none⟩ (.int .i64 (-1))).setCell ⟨r,3,none⟩ (.int .i64 (wrap64 (S.life+1)))).heap.size=G.heap.size:=(by simpa [World.setCell] using eE);have hm:more F w G=more F w (((wr.setCell ⟨r,1,none⟩ (.slice none 0 0)).setCell ⟨r,2,none⟩ (.int .i64 (-1))).setCell ⟨r,3,none⟩ (.int .i64 (wrap64 (S.life+1)))):=(by unfold more;rw [Mq]);rw [hm] at nL;have Hq:=(aH (show aC _ _ r t (S.iy t l) from ⟨m,cl,W,_,_,nL⟩) gO);obtain⟨ap,cp,xD,_⟩:=hd.form;rw [xD] at d1;subst T;clear nL gO bV hd IT f ej aA ww D hm Mq;go_wp2
     go_end0
     exact⟨rfl,Hq⟩
def LS (w:World) (lo:Nat) (l:List Int) (vs:List Value):Prop:=∀i,i<vs.length->∃g c,vs[i]? =some (.slice (some (aD g 0)) 512 c)/\lo<=g/\ay w 5 g c (bs (bL l i))
def CI {r:Nat} {l:List Int} (b:w.heap[r]? =some (.cells (bJ (.slice (some ⟨gl,0,none⟩) s cl) (.slice none 0 0) (-1) 1 0 0 0 0) 101 (0,0))) (e:ay w 22 gl cl vs) (VM:vs.length=s) (xw:LS w w0.heap.size l vs)
    (Y7:w0.heap.size<=r) (uP:w0.heap.size<=gl) (n:l.length=s*512) (j:1<=s) (m:s<=2048):aC w (λk=>w0.heap.size<=k/\k<w.heap.size) r s (DS.fresh l):=by
 refine⟨gl,cl,vs, .slice none 0 0, [],⟨Y7,(lR.1 b).1⟩,⟨uP,e.lt⟩,λk d=>d.2,b,e,VM,λk d=>?_,World.ownsRow_nil _ _ _ _,by simp [Value.ownBlock],by simp [DS.fresh],⟨n,j,m,by simp [DS.fresh],by simp [DS.fresh]⟩⟩;obtain⟨g,c,f,i,a⟩:=xw k (by omega);exact⟨g,c,f,⟨i,a.lt⟩,a⟩
def VN (s:Int) (w:World) (h:s<1\/2048<s):
  Calls prog 32 #[iV s] w λe w'=>e= .returned (.tuple #[.pointer none,iV 10])/\w'=w:=by
 rcases h with h|h
 .go_in;go_wp2;go_ret2;exact⟨rfl,rfl⟩
 .have a:¬s<1:=by omega
  go_in;go_wp2;go_ret2;exact⟨rfl,rfl⟩
def qY (w:World):
  Calls prog 55 #[] w λe w'=>e= .returned (.slice (some (aD w.heap.size 0)) 512 512)/\ay w' 5 w.heap.size 512 (bs (List.replicate 512 0))/\bW w w':=by
 obtain⟨d,b,gB,dC,eu⟩:=info_parts gh;go_in;go_wp2_with (at_make;refine wpList_make_full _ rfl _ _ 22 rfl w.heap.size 5 d (.int .u8 0) 1 underlying22 b gB dC _ _ _ _ 512 rfl rfl (by omega) (by omega) (by rw [eu];omega) (by unfold maxLen;omega) (bS _) ?_);intro w1 aA aR;have a:=(bi _ w).grown aR (bS _) (by intro k c;cases c);go_wp2;go_ret;exact⟨rfl,(yh (lS (by simpa [Value.cells] using aA))).out,a⟩
def Rw (s k:Nat) (a:k<s):bL (List.replicate (s*512) 0) k=List.replicate 512 0:=by
 unfold bL;rw [List.drop_replicate,List.take_replicate];congr 1;omega
def LS.snoc {lo:Nat} {l:List Int} (h:LS w lo l vs) (k:∀b c ys,lo<=b->ay w 5 b c ys->ay w' 5 b c ys) (m:lo<=g) (o:ay w' 5 g c (bs (bL l vs.length))):LS w' lo l (vs ++ [.slice (some (aD g 0)) 512 c]):=by
 intro i n;by_cases ny:i<vs.length
 .obtain⟨j,c',d,a,e⟩:=h i ny;exact⟨j,c',by rw [List.getElem?_append_left ny];exact d,a,k _ _ _ a e⟩
 .have f:i=vs.length:=by simp at n;omega
  subst f;exact⟨g,c,by simp,m,o⟩
def CJ {r a cz d:Nat} {l:List Int} {o:Obj} (Y7:w0.heap.size<=r) (ar:bW w0 w1) (bw:w1.heap[r]? =some (.cells (bJ v (.slice none 0 0) (-1) 1 0 0 0 0) 101 (0,0)))
    (Rx:w1.ownsRow w0.heap.size 22 1 v j vs) (xw:LS w1 w0.heap.size l vs) (k:w0.heap.size<=g) (m:ay w1 5 g d (bs (bL l vs.length)))
    (aR:(w1.alloc o).grownBy w2 v.ownBlock) (aA:w2.ownsRow w0.heap.size 22 1 (.slice (some (aD a 0)) (j+1) cz) (j+1) (vs ++ [.slice (some (aD g 0)) 512 d])):
  w2.cell? (aD r 0)=some v/\w2.frozen? (aD r 0)=false/\
    (w2.setCell ⟨r,0,none⟩ (.slice (some ⟨a,0,none⟩) (j+1) cz)).heap[r]? =some (.cells (bJ (.slice (some ⟨a,0,none⟩) (j+1) cz) (.slice none 0 0) (-1) 1 0 0 0 0) 101 (0,0))/\
    (w2.setCell ⟨r,0,none⟩ (.slice (some ⟨a,0,none⟩) (j+1) cz)).ownsRow w0.heap.size 22 1 (.slice (some (aD a 0)) (j+1) cz) (j+1) (vs ++ [.slice (some (aD g 0)) 512 d])/\
  LS (w2.setCell ⟨r,0,none⟩ (.slice (some ⟨a,0,none⟩) (j+1) cz)) w0.heap.size l (vs ++ [.slice (some (aD g 0)) 512 d])/\bW w0 (w2.setCell ⟨r,0,none⟩ (.slice (some ⟨a,0,none⟩) (j+1) cz))/\
    (∀b c ys,ay w1 5 b c ys->ay (w2.setCell ⟨r,0,none⟩ (.slice (some ⟨a,0,none⟩) (j+1) cz)) 5 b c ys):=by
 have ZG:(w1.alloc o).heap.size=w1.heap.size+1:=by simp
 have rF:=(lR.1 bw).1;have fy:=
    ((aR.block r (by omega) (λe=>dS Rx e.symm bw (by decide) rfl)).trans (Below.heap_alloc _ _ _ rF)).trans bw
 have aw:∀b c ys,ay w1 5 b c ys->ay (w2.setCell ⟨r,0,none⟩ (.slice (some ⟨a,0,none⟩) (j+1) cz)) 5 b c ys:=λb c ys f=>by
  have i:=f.lt;have dM:=f.ne bw (by decide);have bd:=f;obtain⟨cur,gW,_⟩:=bd;exact f.agree ((Below.heap_setCell _ _ _ _ dM).trans ((aR.block b (by omega) (λe=>dS Rx e.symm gW (by decide) rfl)).trans (Below.heap_alloc _ _ _ i)))
 refine⟨aM fy,ae fy 0,?_,?_,xw.snoc (λb c ys _ h=>aw b c ys h) k (aw _ _ _ m),?_,aw⟩
 .rw [heap_setCell_same _ _ _ _ _ _ fy];simp [bJ]
 .exact aF aA (λb e=>Below.heap_setCell _ _ _ _ (dS aA e fy (by decide)))
 .exact((ar.alloc ar.size o).grown aR (by have:=ar.size;omega) (λb e=>(Rx.lt b e).1)).setCell Y7 _
def VO (s:Nat) (w:World) (D:1<=s) (E:s<=2048):
  Calls prog 32 #[iV s] w λe w'=>∃r,e= .returned (.tuple #[pQ r,iV 0])/\aC w' (λk=>w.heap.size<=k/\k<w'.heap.size) r s (DS.fresh (List.replicate (s*512) 0))/\bW w w':=by
 obtain⟨J,rH,gB,dC,eu⟩:=info_parts tt;have YQ:¬(s:Int)<1:=by omega
 have F:¬(2048:Int)<(s:Int):=by omega
 go_in;go_wp2_with (go_at_call 55;refine(qY w).mono ?_;rintro e w1 ⟨rfl,mj,ar⟩);have eE:=ar.size;have bw:(w1.alloc (.cells (bJ (.slice none 0 0) (.slice none 0 0) (-1) 1 0 0 0 0) 101)).heap[w1.heap.size]? =some (.cells (bJ (.slice none 0 0) (.slice none 0 0) (-1) 1 0 0 0 0) 101 (0,0)):=heap_alloc_new _ _;have ly:ay (w1.alloc (.cells (bJ (.slice none 0 0) (.slice none 0 0) (-1) 1 0 0 0 0) 101)) 5 w.heap.size 512 (bs (List.replicate 512 0)):=mj.agree (Below.heap_alloc _ _ _ mj.lt);have bF:bW w (w1.alloc (.cells (bJ (.slice none 0 0) (.slice none 0 0) (-1) 1 0 0 0 0) 101)):=ar.alloc eE _;have l:=yh (aH bw (aH ly bF));go_loopw [6] (λi wr=>∃j:Nat,j<=s/\i=iV (j:Int)/\∃v f,wr.heap[w1.heap.size]? =some (.cells (bJ v (.slice none 0 0) (-1) 1 0 0 0 0) 101 (0,0))/\wr.ownsRow w.heap.size 22 1 v j f/\LS wr w.heap.size (List.replicate (s*512) 0) f/\
   ay wr 5 w.heap.size 512 (bs (List.replicate 512 0))/\bW w wr) (λi _=>s-(intOf i).toNat)
 case atStart=>exact⟨0,dV _,rfl, .slice none 0 0, [],l.o.1,World.ownsRow_nil _ _ _ _,λi G=>by simp at G,l.o.2.1,l.o.2.2⟩
 case round=>
  obtain⟨j,P,rfl,v,f,bw,aA,xw,d,b⟩:=hrel;have L:=aM bw;have VM:f.length=j:=by simpa using aA.1
  by_cases bq:j<s
  .have cC:(j:Int)<(s:Int):=(by omega);obtain⟨K,M,m⟩:∃a c,v= .slice a j c:=by
    obtain⟨_,⟨e,H⟩|⟨g,p,cur,e,_⟩⟩:=aA
    .exact⟨none,0,by rw [e,H]⟩
    .exact⟨_,_,e⟩
   subst m;have I:=b.size;have bt:=yh aA;go_wp2_with (at_builtin;refine wpList_append_own _ rfl _ _ 79 rfl w.heap.size 22 J (.slice none 0 0) 1 24 underlying79 rH gB dC eu rfl (by decide) _ _ _ rfl (bt.o.alloc _) (aD wr.heap.size 0) 1 1 [.slice (some (aD w.heap.size 0)) 512 512] rfl rfl (cell_one_new _ _ _) (by intro u n;simp at n;subst n;rfl) (by unfold maxLen;omega) (by omega) (by simp;omega) ?_);intro Q R cM aR jF;obtain⟨C,cz,rfl,_,_,_⟩:=ay.fe cM (by rintro rfl;rcases cM.2 with ⟨_,h⟩|⟨_,_,_,h,_⟩;omega;cases h);obtain⟨bw,aA,xw,d,b⟩:=(yh (aH bw (aH aA (aH xw (aH d b))))).out;obtain⟨N,O,q,t,x,y,z⟩:=CJ eE b bw aA xw (bS _) (by rw [VM,Rw s j bq];exact d) aR cM;go_wp2;go_roundw;case rel=>exact⟨j+1,by omega,by go_num,_,_,(yh (aH q (aH t (aH x (aH (z _ _ _ d) y))))).out⟩
   case measure=>simp [intOf];omega
  .have cC:¬(j:Int)<(s:Int):=(by omega);have A:j=s:=(by omega);subst A;obtain⟨C,cz,m,fZ,fy,_⟩:=ay.fe aA (by rintro rfl;rcases aA.2 with ⟨_,h⟩|⟨_,_,_,h,_⟩;omega;cases h);rw [m] at bw;have jH:=CI (w0:=w) bw fy VM xw eE fZ (by simp) D E;go_wp2;go_ret2;exact⟨_,rfl,(yh (aH jH b)).out⟩
def NU (a:Option Addr) (n c:Nat) (w:World) (h:n%512≠0):
  Calls prog 31 #[.slice a n c] w λe w'=>e= .returned (.tuple #[.pointer none,iV 2])/\w'=w:=by
 have b:(((n:Int)%512) != 0)=true:=by rw [gA];omega
 go_in;go_wp2;go_ret2;exact⟨rfl,rfl⟩
def Ry (a:Option Addr) (n c:Nat) (w:World) (i:n<=140737488355328) (h:n%512=0) (h0:n=0\/1048576<n):
  Calls prog 31 #[.slice a n c] w λe w'=>e= .returned (.tuple #[.pointer none,iV 10])/\w'=w:=by
 have f:(((n:Int)%512) != 0)=false:=by rw [Bool.eq_false_iff,ne_eq,gA];omega
 obtain⟨q,j⟩:∃q:Nat,((n:Int) / 512)=(q:Int):=⟨n / 512,by omega⟩;have d:wrap64 (q:Int)=(q:Int):=by unfold wrap64;omega
 rcases h0 with h0|h0
 .have b:(q:Int)<1:=by omega
  go_in;go_wp2;go_ret2;exact⟨rfl,rfl⟩
 .have b:¬(q:Int)<1:=by omega
  have g:2048<(q:Int):=by omega
  go_in;go_wp2;go_ret2;exact⟨rfl,rfl⟩
def Rz {b o:Nat} {l:List Int} (h:∀i,i<n->w.cell? ⟨b,o+i,none⟩=some (.int .u8 (l.getD i 0))) (e:l.length=n) (d:k*512+512<=n):Src w (some ⟨b,o+k*512,none⟩) 512 (bL l k):=by
 refine⟨by simp [bL];omega,(λh=>by cases h),λx c i a=>?_⟩;cases c;rw [aN,Nat.add_assoc,h (k*512+i) (by omega)];simp [bL,List.getD,a]
set_option maxRecDepth 100000 in
def RA (b o n c s:Nat) (l:List Int) (w:World) (R:∀i,i<n->w.cell? ⟨b,o+i,none⟩=some (.int .u8 (l.getD i 0))) (j5:l.length=n) (h:n=s*512) (lg:n<=c) (D:1<=s) (E:s<=2048):
  Calls prog 31 #[.slice (some (aD b o)) n c] w λe w'=>∃r,e= .returned (.tuple #[pQ r,iV 0])/\aC w' (λk=>w.heap.size<=k/\k<w'.heap.size) r s (DS.fresh l)/\bW w w':=by
 obtain⟨i0,rH,gB,dC,eu⟩:=info_parts tt;have h':(((n:Int)%512) != 0)=false:=by rw [Bool.eq_false_iff,ne_eq,gA];omega
 have hq:((n:Int) / 512)=(s:Int):=by omega
 have YQ:¬(s:Int)<1:=by omega
 have h2':¬(2048:Int)<(s:Int):=by omega
 obtain⟨U,H⟩:=bU R h;clear R h;go_in;go_wp2;have bw:(w.alloc (.cells (bJ (.slice none 0 0) (.slice none 0 0) (-1) 1 0 0 0 0) 101)).heap[w.heap.size]? =some (.cells (bJ (.slice none 0 0) (.slice none 0 0) (-1) 1 0 0 0 0) 101 (0,0)):=heap_alloc_new _ _;have bF:bW w (w.alloc (.cells (bJ (.slice none 0 0) (.slice none 0 0) (-1) 1 0 0 0 0) 101)):=(bi _ _).alloc (bS _) _;have A:=yh (aH bw bF);clear bw bF;go_loopw [6] (λi wr=>∃j:Nat,j<=s/\i=iV (j:Int)/\∃v z,wr.heap[w.heap.size]? =some (.cells (bJ v (.slice none 0 0) (-1) 1 0 0 0 0) 101 (0,0))/\wr.ownsRow w.heap.size 22 1 v j z/\LS wr w.heap.size l z/\
   bW w wr) (λi _=>s-(intOf i).toNat)
 case atStart=>exact⟨0,dV _,rfl, .slice none 0 0, [],A.o.1,World.ownsRow_nil _ _ _ _,λi x=>by simp at x,A.o.2⟩
 case round=>
  clear A;obtain⟨j,hj,rfl,v,z,bw,aA,xw,d⟩:=hrel;have J:=aM bw;have VM:z.length=j:=by simpa using aA.1
  by_cases bq:j<s
  .have cC:(j:Int)<(s:Int):=(by omega);obtain⟨I,K,F⟩:∃a c,v= .slice a j c:=by
    obtain⟨_,⟨e,hn⟩|⟨g,Y,cur,e,_⟩⟩:=aA
    .exact⟨none,0,by rw [e,hn]⟩
    .exact⟨_,_,e⟩
   subst F;have Ux:=H.o;have IX:j*512+512<=n:=(by omega);obtain⟨m,S⟩:∃m:Nat,m=j*512:=⟨_,rfl⟩;obtain⟨f,B9⟩:∃f:Nat,f=m+512:=⟨_,rfl⟩;have x1:IntKind.i64.wrap ((j:Int)*512)=(m:Int):=(by rw [IntKind.wrap_i64];all_goals omega);have x2:IntKind.i64.wrap ((m:Int)+512)=(f:Int):=(by rw [IntKind.wrap_i64];all_goals omega);have x3:(f:Int)<=(c:Int):=(by omega);have x4:m<=f:=(by omega);have x5:¬c=m:=(by omega);have x6:f-m=512:=(by omega);have fS:=Rz (λi x=>cell_later d (U.o i x)) j5 IX;rw [<-S] at fS;have rF:=(lR.1 bw).1;have y:=d.size;have Mo:∀C,Calls prog 91 #[.slice (some ⟨b,o+m,none⟩) 512 C] wr.drew λe w'=>∃v,e= .returned v/\TwR wr (bL l j) v w':=λC=>
      (lP (some ⟨b,o+m,none⟩) 512 C (bL l j) wr.drew (by omega) fS).mono (by rintro e w' ⟨g,rfl,D,E,u⟩;exact⟨_,rfl,g,rfl,D,E,⟨u.os,u.tape,u.output,u.size,u.block⟩⟩)
   have db:∀wx:World,wx.heap[w.heap.size]? =wr.heap[w.heap.size]?->wx.cell? (aD w.heap.size 0)=some (.slice I j K):=λwx e=>aM (e.trans bw);obtain⟨p9,t,q,bt,p,G⟩:=YO db Mo bw aA xw d;clear bw xw d aA Mo db fS Ux S B9;go_wp2_with fail
   go_region_law
    (first
     |(refine vo (by rfl) 91 #[.slice (some ⟨b,o+m,none⟩) 512 (c-m)] (by simp [go_sem]) (TwR wr (bL l j)) (t.o _) ?_;rintro _ w1 ⟨g,rfl,hg,T,ar⟩;have mj:w1.heap[w.heap.size]? =wr.heap[w.heap.size]? :=ar.block w.heap.size rF;have k1:=p9.o w1 mj;have k2:=λo=>p9.o (w1.alloc o) ((Below.heap_alloc w1 o w.heap.size (i5 rF ar.size)).trans mj))
     |(refine step_append_lies _ (by rfl) _ _ _ (by rfl) w.heap.size 22 i0 _ 1 24 underlying79 rH gB dC eu rfl (by omega) (.slice I j K) j z (by rfl) (aF bt.o (λg e=>(Below.heap_alloc w1 _ _ (i5 (bt.o.lt g e).2 ar.size)).trans (ar.block g (bt.o.lt g e).2)))
         (aD w1.heap.size 0) 1 1 [.slice (some (aD g 0)) 512 512] (by rfl) (by rfl) (cell_one_new _ _ _) (by simp [Value.oneCell']) (by omega) (by unfold maxLen;omega) (by omega) (by have:=ar.size;simp;omega) (w1.heap.size+1) (by simp) ?_;intro g2 cz w2 fN j6 uW tz
       obtain⟨Z,d2,L,M,N,O,d7⟩:=CJ (bS _) (G.o.trans (ar.mono y)) (mj.trans q.o) (aF bt.o (λg e=>ar.block g (bt.o.lt g e).2)) (λi x=>by obtain⟨Q,c',e1,e2,P⟩:=p.o i x;exact⟨Q,c',e1,e2,P.agree (ar.block Q P.lt)⟩) (j3 y hg) (by rw [VM];exact T) j6 fN))
   all_goals
    have X:=yh (aH L (aH M (aH N O)));clear L M N O d7 T ar fN j6 uW tz mj k1 k2 Z d2 q bt p G t p9 J x1 x2 x3 x4 x5 x6;go_wp2;go_roundw;case rel=>exact⟨j+1,by omega,by go_num,_,_,X.o⟩
    case measure=>simp [intOf];omega
  .have cC:¬(j:Int)<(s:Int):=(by omega);have ej:j=s:=(by omega);subst ej;obtain⟨g2,cz,F,fZ,fy,_⟩:=ay.fe aA (by rintro rfl;rcases aA.2 with ⟨_,h⟩|⟨_,_,_,h,_⟩;omega;cases h);rw [F] at bw;have jH:=CI (w0:=w) bw fy VM xw (bS _) fZ (by have:=H.o;omega) D E;have W:=yh (aH jH d);clear bw aA xw d fy jH J;go_wp2;go_ret2;exact⟨_,rfl,W.o⟩
def RB (j:Nat):im.take (j*512) ++ bL im j=im.take ((j+1)*512):=by
 unfold bL;rw [show (j+1)*512=j*512+512 by omega,List.take_add]
def Ki {r:Nat} (hd:aC w F r s S):
  Calls prog 65 #[pQ r] w λe w'=>∃g c,e= .returned (.slice (some (aD g 0)) (s*512) c)/\w.heap.size<=g/\ay w' 5 g c (bs S.im)/\bW w w':=by
 obtain⟨Z,X,ls,pv,xs,h⟩:=hd;obtain⟨J,G,gB,dC,eu⟩:=info_parts gh;obtain⟨L,lz,f,H⟩:=cO (aM h.dI) h.ok.hi h.ok.len (yh h);clear h;obtain⟨m,y⟩:∃m:Nat,m=s*512:=⟨_,rfl⟩;have W:IntKind.i64.wrap ((s:Int)*512)=(m:Int):=by rw [IntKind.wrap_i64];all_goals omega
 have A:wrap64 ((s:Int)*512)=(m:Int):=by unfold wrap64;omega
 rw [<-y] at f⊢;have l:=yh y;have aoO:m<=1048576:=by omega
 clear y;go_in;go_wp2_with (at_make;refine wpList_make_own _ rfl _ _ 22 rfl w.heap.size 5 J (.int .u8 0) 1 underlying22 G gB dC _ _ _ m rfl rfl ?c1 ?c2 ?c3 (bS _) ?_);case c1=>first|rfl|omega
 case c2=>rw [eu];omega
 case c3=>unfold maxLen;omega
 intro w1 aA aR;have a:=(bi _ w).grown aR (bS _) (by intro k b;cases b);have n:=yh (aH aA a);clear aA aR a W A;go_wp2;go_loopw [3,4] (λv i wr=>∃j:Nat,j<=s/\i=iV (j:Int)/\∃q,v= .slice (some (aD q 0)) (j*512) m/\w.heap.size<=q/\wr.ownsRow w.heap.size 5 1 v (j*512) (bs (S.im.take (j*512)))/\bW w wr) (λ_ i _=>s-(intOf i).toNat);case atStart=>exact⟨0,dV _,rfl,_,rfl,bS _,n.o.1,n.o.2⟩
 case round=>
  clear n;obtain⟨j,hj,rfl,q,rfl,I,aA,a⟩:=hrel;have N:=cell_later a L;by_cases bq:j<s
  .have cC:(j:Int)<(s:Int):=(by omega);obtain⟨g,c,T,hF,z⟩:=H.o.zx j bq;have M:=cell_later a (H.o.last.cell T);have Kg:(bL S.im j).length=512:=(by have:=l.o;simp [bL];omega);have kU:=(z.agree (a.block g z.lt)).src;rw [Kg] at kU;obtain⟨k,b⟩:=bQ (j*512);have p:k+512<=m:=(by have:=l.o;omega);have XT:(j+1)*512=k+512:=(by omega);rw [<-b] at aA;have pI:bs (S.im.take k) ++ bs (bL S.im j)=bs (S.im.take (k+512)):=(by rw [<-XT,<-RB,<-b];simp [bs]);rw [<-b];obtain⟨bt,d,C,Vn⟩:=Bh aA kU XT pI;clear aA kU z b XT pI;go_wp2_with (at_builtin;refine wpList_append_fits _ rfl _ _ 22 rfl w.heap.size 5 J 1 underlying22 G dC q k m (bs (S.im.take k)) rfl bt.o (aD g 0) 512 c (bs (bL S.im j)) rfl (by simp [bs,Kg]) (λt u P=>by obtain⟨h1,rfl⟩:=fx P;exact d.o.2.2 _ rfl t (by omega)) (cF _) p ?_);intro U aA aR;have bF:=a.grown aR a.size (by intro x R;cases R;exact I);have aA:U.ownsRow w.heap.size 5 1 (.slice (some (aD q 0)) (k+512) m) (k+512) (bs (S.im.take (k+512))):=by
    have E:=Vn.o;simp only [bs,List.map_take] at E aA⊢;rw [E] at aA;exact aA
   have D:=yh (aH aA bF);clear aA aR bF bt d Vn a M N;go_wp2;go_roundw;case rel=>exact⟨j+1,by omega,by go_num,q,by rw [C.o],I,by rw [C.o];exact D.o.1,D.o.2⟩
   case measure=>simp [intOf];omega
  .have cC:¬(j:Int)<(s:Int):=(by omega);have O:j=s:=(by omega);subst O;rw [<-l.o,nr (by omega)] at aA;obtain⟨Y,cz,Q,fZ,fy,_⟩:=ay.fe aA (by rintro h;cases h);have K:=yh (aH fZ (aH fy a));rw [<-l.o];cases Q;clear aA fy a fZ;go_wp2;go_ret;exact⟨_,_,rfl,K.o⟩
def aC.more {r:Nat} (h:aC w' F r s S):aC w' (more F w w') r s S:=by
 obtain⟨c,b,d,e,xs,h⟩:=h;exact⟨c,b,d,e,xs,h.mono (λ_ a=> .inl a) (λk a=>by rcases a with a|a;exact h.lt k a;exact a.2)⟩
def iE (h:aC w F p s S) (x:Int) (a:Option Addr) (n c:Nat) (l:List Int) (m:Src w a n l) (aU:S.puts.length+1<=4000000000000):
  Calls prog 54 #[pQ p,iV x, .slice a n c] w λe w'=>e= .returned (iV (S.wr s x n l).1)/\aC w' (more F w w') p s (S.wr s x n l).2/\aa F w w':=by
 by_cases b:S.fuse=0
 .simp only [DS.wr,b,if_true];refine(Gq h x a n c b).mono ?_;rintro e w' ⟨rfl,rfl⟩;exact⟨rfl,h.more,aa.refl _ _⟩
 .by_cases d:x<0\/(s:Int)<=x
  .simp only [DS.wr,b,if_false,d,if_true];refine(D7 h x a n c b d).mono ?_;rintro e w' ⟨rfl,f,g⟩;exact⟨rfl,f.more,g⟩
  .obtain⟨k,rfl⟩:∃k:Nat,x=(k:Int):=⟨x.toNat,by omega⟩;have j:k<s:=(by omega);by_cases i:n=512
   .subst i;simp only [DS.wr,b,if_false,d,ne_eq,not_true_eq_false,Int.toNat_natCast];obtain⟨y,rfl⟩:∃y,a=some y:=by
     cases a with
     |none=>have:=m.2.1 rfl;omega
     |some y=>exact⟨y,rfl⟩
    exact NO h k j b aU y c l m
   .simp only [DS.wr,b,if_false,d,ne_eq,i,not_false_eq_true,if_true];refine(BF h k a n c b j i).mono ?_;rintro e w' ⟨rfl,f,g⟩;exact⟨rfl,f.more,g⟩
def fC (h:aC w F p s S) (aU:S.puts.length+1<=4000000000000):
  Calls prog 56 #[pQ p] w λe w'=>e= .returned (iV (S.fl s).1)/\aC w' F p s (S.fl s).2/\aa F w w':=by
 by_cases a:S.fuse=0
 .simp only [DS.fl,a,if_true];refine(Gs h a).mono ?_;rintro e w' ⟨rfl,rfl⟩;exact⟨rfl,h,aa.refl _ _⟩
 .simp only [DS.fl,a,if_false];exact NR h a (by omega)
def Kj {r:Nat} (hd:aC w F r s S) (aU:S.puts.length+1<=4000000000000) (a:Option Addr) (n c:Nat) (l:List P3) (DA:kX w a n l) (b:n<=140737488355328):
  Calls prog 25 #[pQ r, .slice a n c] w λe w'=>e= .returned (.tuple #[])/\aC w' (more F w w') r s (S.iy s l)/\aa F w w':=by
 by_cases d:S.puts.length=0
 .exact Gu hd d a n c l
 .exact Gv hd (by omega) aU a n c l DA b
structure Two (w:World) (B:Nat) (F G:Nat->Prop) (p r s:Nat) (S T:DS):Prop where
 d:aQ w F p s S
 e:aC w G r s T
 lo:B<=w.heap.size
 fF:∀k,F k->B<=k
 fG:∀k,G k->B<=k
 fM:∀k,F k->¬G k
def Two.begin {B r:Nat} (g:B<=w0.heap.size) (ar:bW w0 w1) (hd:aQ w1 F p s S) (c:∀k,F k->w0.heap.size<=k) (bd:bW w1 w2) (d:aC w2 G r s S) (b:∀k,G k->w1.heap.size<=k):Two w2 B F G p r s S S:=
   ⟨hd.aw (aa.ah (λ_=>False) bd) (λ_ _ h=>h),d,by have:=ar.size;have:=bd.size;omega,λk a=>by have:=c k a;omega,λk a=>by have:=b k a;have:=ar.size;omega,λk e f=>by have:=hd.lt k e;have:=b k f;omega⟩
def kS (w w':World) (B:Nat) (l:List Int) (d r:Value):Prop:=bW w w'/\((d= .pointer none/\r= .pointer none)\/∃F G p q s im,d=pQ p/\r=pQ q/\Two w' B F G p q s (DS.fresh im) (DS.fresh im)/\(im=l\/∃m,im=List.replicate m 0)/\(∀k,F k->w.heap.size<=k)/\(∀k,G k->w.heap.size<=k))
def NV (bL:Int) (a:Option Addr) (n c:Nat) (l:List Int) (w:World) (B:Nat) (i:Src w a n l) (f:n<=140737488355328) (h:n%512≠0):
  Calls prog 10 #[iV bL, .slice a n c] w λe w'=>∃d r,e= .returned (.tuple #[d,r, .bool true])/\kS w w' B l d r:=by
 have h0:(0:Int)<(n:Int):=by omega
 go_in;go_wp2_with fail;refine(tw a n c l w f i).mono ?_;rintro e w1 ⟨g,rfl,k,m,ar⟩;go_wp2_with fail;refine(PQ (some (aD g 0)) n n w1 h f).mono ?_;rintro e j ⟨rfl,b⟩;have eM:=b.symm;subst eM;go_wp2_with fail;refine(NU a n c w1 h).mono ?_;rintro e j ⟨rfl,b⟩;have eM:=b.symm;subst eM;go_wp2;go_ret3;exact⟨_,_,rfl,ar, .inl ⟨rfl,rfl⟩⟩
def RC (bL:Int) (a:Option Addr) (n c:Nat) (l:List Int) (w:World) (B:Nat) (j:Src w a n l) (b:n<=140737488355328) (h:n%512=0) (i:1048576<n):
  Calls prog 10 #[iV bL, .slice a n c] w λe w'=>∃d r,e= .returned (.tuple #[d,r, .bool true])/\kS w w' B l d r:=by
 go_in;go_wp2_with fail;refine(tw a n c l w b j).mono ?_;rintro e w1 ⟨g,rfl,m,o,ar⟩;go_wp2_with fail;refine(UX (some (aD g 0)) n n w1 h (.inr i) b).mono ?_;rintro e k ⟨rfl,f⟩;have eM:=f.symm;subst eM;go_wp2_with fail;refine(Ry a n c w1 b h (.inr i)).mono ?_;rintro e k ⟨rfl,f⟩;have eM:=f.symm;subst eM;go_wp2;go_ret3;exact⟨_,_,rfl,ar, .inl ⟨rfl,rfl⟩⟩
def Kk (bL:Int) (b o n c s:Nat) (l:List Int) (w:World) (B:Nat) (G:B<=w.heap.size) (f:Src w (some (aD b o)) n l) (v:∀i,i<n->w.cell? ⟨b,o+i,none⟩=some (.int .u8 (l.getD i 0))) (lg:n<=c) (h:n=s*512) (t:1<=s) (u:s<=2048):
  Calls prog 10 #[iV bL, .slice (some (aD b o)) n c] w λe w'=>∃d r,e= .returned (.tuple #[d,r, .bool true])/\kS w w' B l d r:=by
 have h0:(0:Int)<(n:Int):=by omega
 have j5:=f.1;have C:=tw (some (aD b o)) n c l w (by omega) f;have j:=yh v;have q:=yh h;have i9:n<=1048576:=by omega
 clear f v h;go_in;go_wp2_with fail;refine C.mono ?_;rintro e w1 ⟨g,rfl,H,A,ar⟩;have z:=UY (aD g 0) n n s l w1 q.o t u j5 (λi y=>A.byte (by omega));clear A C;go_wp2_with fail;refine z.mono ?_;rintro e E ⟨p,rfl,hd,bd⟩;have VP:=ar.trans (bd.mono ar.size);have m:=yh hd;clear z hd;go_wp2_with fail;refine(RA b o n c s l E (λi y=>cell_later VP (j.o i y)) j5 q.o lg t u).mono ?_;rintro e F ⟨r,rfl,x,bF⟩;have eE:=ar.size;have bo:=bd.size;have D:Yh (kS w F B l (pQ p) (pQ r)):=⟨VP.trans (bF.mono VP.size), .inr ⟨_,_,p,r,s,_,rfl,rfl,Two.begin (B:=B) (by omega) bd m.o (λk a=>a.1) bF x (λk a=>a.1), .inl rfl,λk a=>by have:=a.1;omega,λk a=>by have:=a.1;omega⟩⟩;clear x bF VP bd ar m j;go_wp2;go_ret3;exact⟨_,_,rfl,D.o⟩
def NW (bL:Int) (l:List Int) (a:Option Addr) (c:Nat) (w:World) (B:Nat) (h:bL<1\/2048<bL):
  Calls prog 10 #[iV bL, .slice a 0 c] w λe w'=>∃d r,e= .returned (.tuple #[d,r, .bool true])/\kS w w' B l d r:=by
 go_in;go_wp2_with fail;refine(YP bL w h).mono ?_;rintro e f ⟨rfl,b⟩;have eM:=b.symm;subst eM;go_wp2_with fail;refine(VN bL w h).mono ?_;rintro e f ⟨rfl,b⟩;have eM:=b.symm;subst eM;go_wp2;go_ret3;exact⟨_,_,rfl,bi _ _, .inl ⟨rfl,rfl⟩⟩
def NX (s:Nat) (l:List Int) (a:Option Addr) (c:Nat) (w:World) (B:Nat) (j:B<=w.heap.size) (f:1<=s) (g:s<=2048):
  Calls prog 10 #[iV (s:Int), .slice a 0 c] w λe w'=>∃d r,e= .returned (.tuple #[d,r, .bool true])/\kS w w' B l d r:=by
 go_in;go_wp2_with fail;refine(PP s w f g).mono ?_;rintro e n ⟨p,rfl,hd,bd⟩;go_wp2_with fail;refine(VO s n f g).mono ?_;rintro e o ⟨r,rfl,m,bF⟩;have bo:=bd.size;have i:(kS w o B l (pQ p) (pQ r)):=⟨bd.trans (bF.mono bd.size), .inr ⟨_,_,p,r,s,_,rfl,rfl,Two.begin j bd hd (λk b=>b.1) bF m (λk b=>b.1), .inr ⟨_,rfl⟩,λk b=>b.1,λk b=>by have:=b.1;omega⟩⟩;go_wp2;go_ret3;exact⟨_,_,rfl,i⟩
def NY (bL:Int) (a:Option Addr) (n c:Nat) (l:List Int) (w:World) (B:Nat) (g:B<=w.heap.size) (f:Src w a n l) (i:n<=140737488355328) (lg:n<=c):
  Calls prog 10 #[iV bL, .slice a n c] w λe w'=>∃d r,e= .returned (.tuple #[d,r, .bool true])/\kS w w' B l d r:=by
 by_cases h0:n=0
 .subst h0;by_cases h:bL<1\/2048<bL
  .exact NW bL l a c w B h
  .obtain⟨s,rfl⟩:∃s:Nat,bL=(s:Int):=⟨bL.toNat,by omega⟩;exact NX s l a c w B g (by omega) (by omega)
 .by_cases h:n%512=0
  .by_cases j:1048576<n
   .exact RC bL a n c l w B f i h j
   .obtain⟨x,rfl⟩:∃x,a=some x:=by
     cases a with
     |none=>exact absurd (f.2.1 rfl) h0
     |some x=>exact⟨x,rfl⟩
    obtain⟨b,o,rfl,k⟩:=f.spot (by omega);exact Kk bL b o n c (n / 512) l w B g f k lg (by omega) (by omega) (by omega)
  .exact NV bL a n c l w B f i h
section
section
variable {w w':World} {F G:Nat->Prop} {r s k:Nat} {S:DS} {L:LG}
def aC.later (h:aC w F r s S) (a:bW w w'):aC w' F r s S:=h.aw (aa.ah (λ_=>False) a) (λ_ _ h=>h)
def aC.mono (h:aC w F r s S) (c:∀k,F k->G k) (d:∀k,G k->k<w.heap.size):aC w G r s S:=by
 obtain⟨b,a,e,f,xs,h⟩:=h;exact⟨b,a,e,f,xs,h.mono c d⟩
def CK (h:aC w F r s S) (f n:Int):
  Calls prog 113 #[pQ r,iV f,iV n] w λe w'=>e= .returned (iV (cw S s f n))/\w'=w:=by
 have p:=h.ok.hi;have c:=mA h;have b:=kn h;unfold cw;by_cases d:S.fuse=0
 .rw [show (S.fuse == 0)=true by simp [d]] at b;rw [aG d];go_in;go_wp2_with (first|(go_at_call 52;refine c.mono ?_;rintro e w' ⟨rfl,a⟩;subst a)|(go_at_call 50;refine b.mono ?_;rintro e w' ⟨rfl,a⟩;subst a));go_ret;exact⟨rfl,rfl⟩
 .rw [show (S.fuse == 0)=false by simp [d]] at b;rw [aB d];by_cases g:f<0\/(s:Int)<=f
  .rw [aG g];by_cases k:f<0
   .clear g;go_in;go_wp2_with (first|(go_at_call 52;refine c.mono ?_;rintro e w' ⟨rfl,a⟩;subst a)|(go_at_call 50;refine b.mono ?_;rintro e w' ⟨rfl,a⟩;subst a));go_ret;exact⟨rfl,rfl⟩
   .have l:(s:Int)<=f:=(by omega);go_in;go_wp2_with (first|(go_at_call 52;refine c.mono ?_;rintro e w' ⟨rfl,a⟩;subst a)|(go_at_call 50;refine b.mono ?_;rintro e w' ⟨rfl,a⟩;subst a));go_ret;exact⟨rfl,rfl⟩
  .rw [aB g];have k:¬f<0:=(by omega);have l:¬(s:Int)<=f:=(by omega);by_cases i:n<18\/256<n
   .rw [aG i];by_cases m:n<18
    .clear i;go_in;go_wp2_with (first|(go_at_call 52;refine c.mono ?_;rintro e w' ⟨rfl,a⟩;subst a)|(go_at_call 50;refine b.mono ?_;rintro e w' ⟨rfl,a⟩;subst a));go_ret;exact⟨rfl,rfl⟩
    .have o:256<n:=(by omega);go_in;go_wp2_with (first|(go_at_call 52;refine c.mono ?_;rintro e w' ⟨rfl,a⟩;subst a)|(go_at_call 50;refine b.mono ?_;rintro e w' ⟨rfl,a⟩;subst a));go_ret;exact⟨rfl,rfl⟩
   .rw [aB i];have m:¬n<18:=(by omega);have o:¬256<n:=(by omega);by_cases j:(s:Int)<f+2+n
    .rw [aG j];go_in;go_wp2_with (first|(go_at_call 52;refine c.mono ?_;rintro e w' ⟨rfl,a⟩;subst a)|(go_at_call 50;refine b.mono ?_;rintro e w' ⟨rfl,a⟩;subst a));go_ret;exact⟨rfl,rfl⟩
    .rw [aB j];go_in;go_wp2_with (first|(go_at_call 52;refine c.mono ?_;rintro e w' ⟨rfl,a⟩;subst a)|(go_at_call 50;refine b.mono ?_;rintro e w' ⟨rfl,a⟩;subst a));go_ret;exact⟨rfl,rfl⟩
abbrev lrC (r:Nat) (L:LG):Array Value:= #[pQ r,iV L.life,iV (L.f:Int),iV (L.n:Int),iV (L.ep:Int),iV (L.tail:Int),iV (L.head:Int),iV (L.top:Int), .bool L.begun]
def cK (w:World) (k r:Nat) (L:LG):Prop:=w.heap[k]? =some (.cells (lrC r L) 199 (0,0))
def cK.lt (h:cK w k r L):k<w.heap.size:=aq h
def cK.aw (h:cK w k r L) (a:aa G w w') (b:¬G k):cK w' k r L:=(a.block k h.lt b).trans h
def cK.later (h:cK w k r L) (a:bW w w'):cK w' k r L:=(a.block k h.lt).trans h
def cK.c0 (h:cK w k r L):w.cell? (aD k 0)=some (pQ r):=aM h
def cK.c1 (h:cK w k r L):w.cell? (aD k 1)=some (iV L.life):=bG h
def cK.c2 (h:cK w k r L):w.cell? (aD k 2)=some (iV (L.f:Int)):=bK h
def cK.c3 (h:cK w k r L):w.cell? (aD k 3)=some (iV (L.n:Int)):=fQ h
def cK.c4 (h:cK w k r L):w.cell? (aD k 4)=some (iV (L.ep:Int)):=gG h
def cK.c5 (h:cK w k r L):w.cell? (aD k 5)=some (iV (L.tail:Int)):=sb h
def cK.c6 (h:cK w k r L):w.cell? (aD k 6)=some (iV (L.head:Int)):=wZ h
def cK.c7 (h:cK w k r L):w.cell? (aD k 7)=some (iV (L.top:Int)):=rt h
def cK.c8 (h:cK w k r L):w.cell? (aD k 8)=some (.bool L.begun):=Dp h
def cK.fz (h:cK w k r L) (j:Nat):w.frozen? (aD k j)=false:=ae h j
def vp (h:aC w F r s S) (b:cK w k r L):
  Calls prog 165 #[pQ k] w λe w'=>e= .returned (.bool (L.dead S))/\bW w w':=by
 have a:=λn=>kn (h.later (below_drewN (bi w.heap.size w) n));have c:=λn=>nK (h.later (below_drewN (bi w.heap.size w) n));have d:=b.c0;have f:=b.c1;unfold LG.dead;by_cases q:S.fuse=0
 .rw [show (S.fuse == 0)=true by simp [q]] at a⊢;go_in;go_wp2_with fail;go_quiet ((go_at_call 50;exact Calls.quiet_of_same (a _)));go_wp2;go_ret;exact⟨rfl,below_drewN (bi _ _) _⟩
 .rw [show (S.fuse == 0)=false by simp [q]] at a⊢;go_in;go_wp2_with fail;go_quiet (first|(go_at_call 50;exact Calls.quiet_of_same (a _))|(go_at_call 18;exact Calls.quiet_of_same (c _)));go_wp2;go_ret;exact⟨rfl,below_drewN (bi _ _) _⟩
def lY (h:aC w F r s S) (f:cK w k r L):
  Calls prog 168 #[pQ k] w λe w'=>e= .returned (iV (L.bj S))/\bW w w':=by
 have a:=vp h f;unfold LG.bj;have c:=yh f;cases hd:L.dead S
 .rw [hd] at a;cases d:L.begun
  .rw [aB (by decide),aB (by decide)];go_in;go_wp2_with fail;refine bM a λw' eH=>?_;have b:=(c.o.later eH).c8;rw [d] at b;go_wp2;go_ret;exact⟨rfl,(yh eH).out⟩
  .rw [aB (by decide),aG rfl];go_in;go_wp2_with fail;refine bM a λw' eH=>?_;have b:=(c.o.later eH).c8;rw [d] at b;go_wp2;go_ret;exact⟨rfl,(yh eH).out⟩
 .rw [hd] at a;rw [aG rfl];go_in;go_wp2_with fail;refine bM a λw' eH=>?_;go_wp2;go_ret;exact⟨rfl,(yh eH).out⟩
def NZ (h:aC w F r s S) (a:cK w k r L) (c:L.Ok s):
  Calls prog 139 #[pQ k] w λe w'=>e= .returned (.tuple #[iV (L.room S).1,iV (L.room S).2])/\bW w w':=by
 obtain⟨f,g,i,j,l⟩:=eK (lY h a) c.n2 c.th c.hi c.hn;unfold LG.room;generalize L.bj S=U at*;by_cases q:U=0
 .subst q;rw [aB (by decide)];go_in;go_wp2_with fail;refine bM f λw1 b=>?_;have a:=(yh a).out.later b;obtain⟨m,n,o⟩:=kE a.c3 a.c5 a.c6;go_wp2_with fail;try go_quiet (fail)
  go_wp2;go_ret2;exact⟨rfl,below_drewN (yh b).out _⟩
 .rw [aG q];have d:(U == 0)=false:=by rw [fJ];exact q
  go_in;go_wp2_with fail;refine bM f λw1 b=>?_;go_wp2;go_ret2;exact⟨rfl,(yh b).out⟩
def Gx (h:aC w F r s S) (aU:S.puts.length+1<=4000000000000):
  Calls prog 56 #[pQ r] w λe w'=>e= .returned (iV (S.fl s).1)/\aC w' F r s (S.fl s).2/\aa F w w':=by
 exact fC h aU
def CN (h:aC w F r s S) (b:cK w k r L) (i:¬F k) (aU:S.puts.length+1<=4000000000000):
  Calls prog 127 #[pQ k] w λe w'=>e= .returned (iV (L.sync S s).1)/\aC w' F r s (L.sync S s).2/\cK w' k r L/\aa F w w':=by
 have g:=lY h b;have f:=yh b;have c:=yh h;unfold LG.sync;generalize L.bj S=U at*;by_cases q:U=0
 .subst q;rw [aB (by decide)];go_in;go_wp2_with fail;refine bM g λw1 a=>?_;have b:=f.o.later a;have j:=b.c0;go_wp2_with fail;refine(Gx (c.o.later a) aU).mono ?_;rintro e l ⟨rfl,cI,aY⟩;go_wp2;go_ret;exact⟨rfl,(yh (aH cI (aH ((yh b).out.aw aY i) ((yh (aa.ah F a)).out.trans aY (λ_ h=> .inl h))))).out⟩
 .rw [aG q];have d:(U == 0)=false:=by rw [fJ];exact q
  go_in;go_wp2_with fail;refine bM g λw1 a=>?_;go_wp2;go_ret;exact⟨rfl,(yh (aH (c.o.later a) (aH (f.o.later a) (aa.ah F a)))).out⟩
end
end
section
open Go.ChangeMaps (setBlock heap_setBlock_same heap_setBlock_other)
def Ra (v:Value):Option (DataW Value×List MemPlace):=
 match v with
 | .agg _=>some (.held v, [])
 |_=>none
def D8 {d:DataW Value} {ps:List MemPlace} (h:Ra v=some (d,ps)):d= .held v/\ps= []:=by
 unfold Ra at h;split at h
 .simp only [Option.some.injEq,Prod.mk.injEq] at h;exact⟨h.1.symm,h.2.symm⟩
 .cases h
abbrev cV (c:List Int):Value:= .agg (bs c).toArray
def adj:Option (List Int)->Value
 |some c=>cV c
 |none=> .agg bm
def ub {b:Value} (h:(DataW.held a:DataW Value)= .held b):a=b:=by injection h
def zD {b:Value} (x:Bool) (w:World) (h:a=b):(Result.ok (Value.tuple #[a, .bool x]) w:Result Value)= .ok (.tuple #[b, .bool x]) w:=by rw [h]
def Mr:(prog.info? 91).map (λi=>(i.zero,i.size))=some (some (.agg bm),512):=by kernel_rfl
def jl (w:World):(zeroValue 91).run prog w= .ok (.agg bm) w:=by
 obtain⟨i,b,a⟩:=Option.map_eq_some_iff.1 Mr;simp only [Prod.mk.injEq] at a;simp [zeroValue,typeInfo,b,a.1]
structure vq (w:World) (m:Nat) (ms:CM) (D:DataW Value):Prop where
 own:w.ownsMap prog 3 Ra m ms.length D
 siz:Maps.size D=ms.length
 key:∀kl,Maps.has D kl=true->∃k:Nat,kl=kk k/\(CM.get ms k).isSome=true
 at':∀k c,CM.get ms k=some c->Maps.has D (kk k)=true/\∀z,D.atKey (kk k) z= .held (cV c)
 no:∀k,CM.get ms k=none->Maps.has D (kk k)=false/\∀z,D.atKey (kk k) z=z
 ok:CM.Ok ms
 len:∀q∈ms,q.1<2048/\q.2.length=512/\Bytes q.2
def Ch (w:World) (m:Nat) (ms:CM):Prop:=∃D,vq w m ms D
section
variable {w w':World} {m:Nat} {ms:CM} {D:DataW Value}
def RD {a b:Nat} (h:kk a=kk b):a=b:=by
 unfold kk at h;injection h with _ h;omega
def zE (h:w.ownsMap prog 3 Ra m n D) (e:w'.heap[m]? =w.heap[m]?):w'.ownsMap prog 3 Ra m n D:=by
 obtain⟨b,a,c,d⟩:=h;exact⟨b,a,e.trans c,d⟩
def vq.agree (h:vq w m ms D) (a:w'.heap[m]? =w.heap[m]?):vq w' m ms D:=⟨zE h.own a,h.siz,h.key,h.at',h.no,h.ok,h.len⟩
def vq.lt (h:vq w m ms D):m<w.heap.size:=h.own.lt
def Ch.lt (h:Ch w m ms):m<w.heap.size:=by obtain⟨D,h⟩:=h;exact h.lt
def Ch.ok (h:Ch w m ms):CM.Ok ms:=by obtain⟨D,h⟩:=h;exact h.ok
def Ch.len (h:Ch w m ms):∀q∈ms,q.1<2048/\q.2.length=512/\Bytes q.2:=by obtain⟨D,h⟩:=h;exact h.len
def Ch.agree (h:Ch w m ms) (a:w'.heap[m]? =w.heap[m]?):Ch w' m ms:=by obtain⟨D,h⟩:=h;exact⟨D,h.agree a⟩
def Ch.aw (h:Ch w m ms) (a:aa G w w') (b:¬G m):Ch w' m ms:=h.agree (a.block m h.lt b)
def Ch.later (h:Ch w m ms) (a:bW w w'):Ch w' m ms:=h.agree (a.block m h.lt)
def Ch.made (w:World):Ch (w.alloc (.map #[] 0)) w.heap.size []:=
   ⟨.map [],World.ownsMap_made w _ _ _,rfl,(λb h=>by simp [Maps.has] at h),(λk c h=>by cases h),(λk _=>⟨rfl,λz=>rfl⟩),List.Pairwise.nil,(λq a=>by cases a)⟩
def CM.length_le:∀{ms:CM} {n:Nat},CM.Ok ms->(∀q∈ms,q.1<n)->(∀a,(∀q∈ms,a<=q.1)->ms.length+a<=n\/ms= [])
 | [],_,_,_,_,_=> .inr rfl
 |q :: qs,n,ho,hl,a,ha=>by
  have p:=List.pairwise_cons.1 ho;have c:=hl q List.mem_cons_self;have d:=ha q List.mem_cons_self;rcases CM.length_le (n:=n) p.2 (λx b=>hl x (List.mem_cons_of_mem _ b)) (q.1+1) (λx b=>p.1 x b) with h|h
  .left;rw [List.length_cons];omega
  .left;rw [h];simp only [List.length_cons,List.length_nil];omega
def Ch.small (h:Ch w m ms):ms.length<=2048:=by
 rcases CM.length_le h.ok (λq b=>(h.len q b).1) 0 (λ_ _=>dV _) with a|a
 .omega
 .rw [a];exact dV _
def Ch.look (h:Ch w m ms) (k:Nat) (g:k<2048):
    (Instr.lookup 83 (.map (some m)) (iV (k:Int)) true).run prog w= .ok (.tuple #[adj (CM.get ms k), .bool (CM.get ms k).isSome]) w:=by
 obtain⟨D,h⟩:=h;obtain⟨v,ps,bD,a⟩:=h.own.look_ok gk underlying83 (jl w) (zd:= .held (.agg bm)) (zp:= []) rfl (lM k g);rw [bD];cases f:CM.get ms k with
 |none=>
  obtain⟨b,d⟩:=h.no k f;rw [d] at a;obtain⟨e,_⟩:=D8 a;rw [b];exact zD _ _ (ub e).symm
 |some c=>
  obtain⟨b,d⟩:=h.at' k c f;rw [d] at a;obtain⟨e,_⟩:=D8 a;rw [b];exact zD _ _ (ub e).symm
def Ch.read (h:Ch w m ms) (k:Nat) {c:List Int} (a:CM.get ms k=some c):
    (Instr.lookup 83 (.map (some m)) (iV (k:Int)) false).run prog w= .ok (cV c) w:=by
 obtain⟨D,h⟩:=h;obtain⟨v,ps,bD,b⟩:=h.own.lookup gk underlying83 (jl w) (zd:= .held (.agg bm)) (zp:= []) rfl (lM k ((h.len _ (CM.get_mem a)).1));rw [bD];rw [(h.at' k c a).2] at b;obtain⟨d,_⟩:=D8 b;exact congrArg (λz=>Result.ok z w) (ub d).symm
def Ch.store (h:Ch w m ms) (k:Nat) (s:k<2048) (c:List Int) (C:c.length=512) (A:Bytes c):
  ∃w',(Instr.mapUpdate 83 (.map (some m)) (iV (k:Int)) (cV c)).run prog w= .ok () w'/\Ch w' m (CM.put ms k c)/\aa (λb=>b=m) w w'/\w'.heap.size=w.heap.size:=by
 have lz:=h.small;obtain⟨D,h⟩:=h;obtain⟨w',bD,E,r⟩:=h.own.store gk underlying83 (by unfold maxLen;omega) (lM k s) (show Ra (cV c)=some (.held (cV c), []) from rfl);have p:=h.own.isMap;have gT:WideAt.IsKeyLit (kk k):=trivial;have tW:=r.grown;have eE:Maps.size (D.put (kk k) (.held (cV c)))=(CM.put ms k c).length:=by
  rw [size_put (h.own.tidy gk),CM.sC h.ok,h.siz];cases f:CM.get ms k with
  |none=>rw [(h.no k f).1];rfl
  |some x=>rw [(h.at' k x f).1];rfl
 refine⟨w',bD,⟨D.put (kk k) (.held (cV c)),?_,eE,λt oc=>?_,λj x a=>?_,λj a=>?_,CM.vn h.ok _ _,λq l=>?_⟩,⟨tW.os,tW.tape,tW.output,tW.size,λb eH F=>tW.block b eH (λe=>F (by injection e))⟩,?_⟩
 .obtain⟨n,d,v,y,G,o⟩:=E;refine⟨n,d,v,y,?_,o⟩;rw [<-eE,o];simp [Maps.size,length_sorted]
 .by_cases i:t=kk k
  .exact⟨k,i,by rw [CM.kC _ _ _ _ h.ok,aG rfl];rfl⟩
  .rw [has_put_other i] at oc;obtain⟨j,rfl,a⟩:=h.key t oc;refine⟨j,rfl,?_⟩;rw [CM.kC _ _ _ _ h.ok,aB (λe=>i (by rw [e]))];exact a
 .rw [CM.kC _ _ _ _ h.ok] at a;by_cases e:j=k
  .rw [aG e] at a;cases a;subst e;exact⟨has_put_same p gT _,λz=>atKey_put_same p gT _ z⟩
  .rw [aB e] at a;have dM:kk j≠kk k:=λg=>e (RD g);exact⟨by rw [has_put_other dM];exact(h.at' j x a).1,λz=>by rw [atKey_put_other dM];exact(h.at' j x a).2 z⟩
 .rw [CM.kC _ _ _ _ h.ok] at a;by_cases e:j=k
  .rw [aG e] at a;cases a
  .rw [aB e] at a;have dM:kk j≠kk k:=λg=>e (RD g);exact⟨by rw [has_put_other dM];exact(h.no j a).1,λz=>by rw [atKey_put_other dM];exact(h.no j a).2 z⟩
 .rcases CM.qU l with rfl|l
  .exact⟨s,C,A⟩
  .exact h.len q l
 .obtain⟨n,d,u,aig,_,e⟩:=r;rw [e];simp [setBlock]
def Ch.length (h:Ch w m ms) (a:TypeId):(Builtin.len_ #[83] a #[.map (some m)]).run prog w= .ok (iV (ms.length:Int)) w:=by
 obtain⟨D,h⟩:=h;rw [h.own.len underlying83 a,h.siz]
def Ch.qK (h:Ch w m ms):∃w',(∀d,(Builtin.clear_ #[83] d #[.map (some m)]).run prog w= .ok (.tuple #[]) w')/\Ch w' m []/\aa (λk=>k=m) w w'/\w'.heap.size=w.heap.size:=by
 obtain⟨D,h⟩:=h;obtain⟨g,a,b,F,_,_⟩:=h.own;refine⟨setBlock w m (.map #[] a),?_,⟨.map [],⟨#[],a,heap_setBlock_same b _,⟨by simp,?_,by simp⟩,by simp,by simp⟩,rfl,(λi h=>by simp [Maps.has] at h),(λk c h=>by cases h),(λk _=>⟨rfl,λz=>rfl⟩),List.Pairwise.nil,(λq f=>by cases f)⟩,⟨rfl,rfl,rfl,by simp [setBlock],λk _ e=>heap_setBlock_other b _ e⟩,by simp [setBlock]⟩
 .intro d;simp [Builtin.clear_,go_sem,MapKept.run_getObj_map b,MapKept.run_setObj_map _ b,setBlock]
 .exact MapKept.stamped_empty _
end
end
def cu (ms:CM):List Int:=bB 2 ms.length ++ (ms.flatMap (λq=>bB 4 q.1) ++ ms.flatMap (·.2))
def nM (ms:CM):(ms.flatMap (λq=>bB 4 q.1)).length=4*ms.length:=by
 induction ms with
 |nil=>rfl
 |cons q b a=>simp only [List.flatMap_cons,ed,aK,a,List.length_cons];omega
def vt (h:∀q∈ms,q.2.length=512):(ms.flatMap (·.2)).length=512*ms.length:=by
 induction ms with
 |nil=>rfl
 |cons q c b=>
  simp only [List.flatMap_cons,ed,b (λx a=>h x (List.mem_cons_of_mem _ a)),h q List.mem_cons_self,List.length_cons];omega
def N0 (h:∀q∈ms,q.2.length=512):(cu ms).length=2+516*ms.length:=by
 unfold cu;rw [ed,ed,aK,nM,vt h];omega
def D9 (a:Option Addr) (n c:Nat) (w:World) (d:n<=140737488355328):
  Calls prog 170 #[.slice a n c] w λe w'=>e= .returned (iV (((n+491) / 492:Nat):Int))/\w'=w:=by
 have b:(n:Int)+492-1=((n+491:Nat):Int):=by omega
 go_in;go_wp2;go_ret;refine⟨?_,rfl⟩;refine congrArg (λz=>Ending.returned (iV z)) ?_;first|(rw [b];omega)|omega
def zG (B:Nat) (w':World) (l:List Int) (e:Ending):Prop:=∃v',e= .returned v'/\w'.ownsRow B 5 1 v' l.length (bs l)
def Gy {B:Nat} {l:List Int} (h:w.ownsRow B 5 1 v l.length (bs l)) (o:B<=w.heap.size) (N k:Nat) (r:k<=4) (s:l.length<=1000000):
  Calls prog 210 #[v,iV (N:Int),iV (k:Int)] w λe w'=>zG B w' (l ++ bB k N) e/\Below B w w':=by
 obtain⟨g,rH,gB,dC,eu⟩:=info_parts gh;go_in;go_wp2;go_loopw [0,9] (λu i wr=>∃j:Nat,j<=k/\i=iV (j:Int)/\wr.ownsRow B 5 1 u (l ++ bB j N).length (bs (l ++ bB j N))/\Below B w wr) (λ_ i _=>k-(intOf i).toNat);case atStart=>exact⟨0,dV _,rfl,by simpa [bB] using h,bi _ _⟩
 case round=>
  obtain⟨j,p,rfl,be,b⟩:=hrel;have VQ:=b.size;by_cases bq:j<k
  .have cC:(j:Int)<(k:Int):=(by omega);have a:=aK j N;have Ux:(0:Int)<=8*(j:Int):=(by omega);have u9:=be;have j5:(l ++ bB j N).length+1<=1000010:=(by rw [ed,a];omega);go_wp2_with (at_builtin;refine wpList_append_own _ rfl _ _ 22 rfl B 5 g (.int .u8 0) 1 1 underlying22 rH gB dC eu rfl (by decide) _ _ _ rfl (u9.alloc _) (aD wr.heap.size 0) 1 1 [.int .u8 ((N / 2 ^ (8*j)%256:Nat):Int)] rfl rfl (cell_one_new _ _ _) (ints_oneCell .u8 [((N / 2 ^ (8*j)%256:Nat):Int)]) (by unfold maxLen;omega) (by omega) (by simp;omega) ?_);intro m n cM aR jF;have uX:=λq e=>(be.lt q e).1;have bF:=(b.alloc (by omega) _).grown aR (by simp;omega) (λq e=>uX q e);have fN:n.ownsRow B 5 1 m (l ++ bB (j+1) N).length (bs (l ++ bB (j+1) N)):=by
    have d:(l ++ bB j N ++ [((N / 2 ^ (8*j)%256:Nat):Int)]).length=(l ++ bB j N).length+1:=(by simp only [ed,List.length_singleton]);have f:bs (l ++ bB j N ++ [((N / 2 ^ (8*j)%256:Nat):Int)])=bs (l ++ bB j N) ++ [.int .u8 ((N / 2 ^ (8*j)%256:Nat):Int)]:=(by simp only [bs,List.map_append,List.map_cons,List.map_nil]);rw [i7,<-List.append_assoc,d,f,ed,a];simpa [bs] using cM
   go_wp2;go_roundw;case rel=>exact⟨j+1,by omega,by go_num,fN,bF⟩
   case measure=>simp [intOf];omega
  .have cC:¬(j:Int)<(k:Int):=(by omega);obtain rfl:j=k:=(by omega);have c:=(aH be b);go_wp2;go_ret;exact⟨⟨_,rfl,c.1⟩,c.2⟩
def aE (S:DS) (s home:Nat):CM->Int×DS
 | []=>(0,S)
 |q :: qs=>if (S.wr s ((home+q.1:Nat):Int) 512 q.2).1≠0 then S.wr s ((home+q.1:Nat):Int) 512 q.2 else aE (S.wr s ((home+q.1:Nat):Int) 512 q.2).2 s home qs
structure LY where
 log:Nat
 home:Nat
 blocks:Nat
 nodes:Nat
 data:Nat
structure SG where
 y:LY
 L:LG
 ov:CM
 busy:Bool
structure TG where
 puts:CM
 bad:Int
 ended : Bool
def SG.check (G:SG) (S:DS) (s:Nat):Int×DS×SG:=
 if (G.L.sync S s).1≠0 then ((G.L.sync S s).1,(G.L.sync S s).2,G) else
 if (aE (G.L.sync S s).2 s G.y.home G.ov).1≠0 then ((aE (G.L.sync S s).2 s G.y.home G.ov).1,(aE (G.L.sync S s).2 s G.y.home G.ov).2,G) else
 if (G.L.trim (aE (G.L.sync S s).2 s G.y.home G.ov).2 s).1≠0 then ((G.L.trim (aE (G.L.sync S s).2 s G.y.home G.ov).2 s).1,(G.L.trim (aE (G.L.sync S s).2 s G.y.home G.ov).2 s).2.1,{G with L:=(G.L.trim (aE (G.L.sync S s).2 s G.y.home G.ov).2 s).2.2})
 else (0,(G.L.trim (aE (G.L.sync S s).2 s G.y.home G.ov).2 s).2.1,{G with L:=(G.L.trim (aE (G.L.sync S s).2 s G.y.home G.ov).2 s).2.2,ov:= []})
def SG.roomy (G:SG) (S:DS) (x:Nat):Bool:=decide ((dh x:Int)<=(G.L.room S).1)
def SG.made (G:SG) (S:DS) (s:Nat) (x:Nat):Int×DS×SG:=if G.roomy S x=true then (0,S,G) else G.check S s
def SG.bI (G:SG) (S:DS) (s:Nat) (c:CM):Int×DS×SG:=
 if (G.L.room S).2≠0 then ((G.L.room S).2,S,G) else
 if (G.made S s (cu c).length).1≠0 then G.made S s (cu c).length else
 if ((G.made S s (cu c).length).2.2.L.append (G.made S s (cu c).length).2.1 s (cu c)).1≠0 then
    (((G.made S s (cu c).length).2.2.L.append (G.made S s (cu c).length).2.1 s (cu c)).1,((G.made S s (cu c).length).2.2.L.append (G.made S s (cu c).length).2.1 s (cu c)).2.1,{(G.made S s (cu c).length).2.2 with L:=((G.made S s (cu c).length).2.2.L.append (G.made S s (cu c).length).2.1 s (cu c)).2.2})
 else (0,((G.made S s (cu c).length).2.2.L.append (G.made S s (cu c).length).2.1 s (cu c)).2.1,{(G.made S s (cu c).length).2.2 with L:=((G.made S s (cu c).length).2.2.L.append (G.made S s (cu c).length).2.1 s (cu c)).2.2,ov:=CM.bT (G.made S s (cu c).length).2.2.ov c})
def SG.block (G:SG) (S:DS) (b:Nat):List Int:=(CM.get G.ov b).getD (S.now (G.y.home+b))
def TG.jY (T:TG) (G:SG) (S:DS) (b:Nat):List Int:=(CM.get T.puts b).getD (G.block S b)
def TG.bT (T:TG) (G:SG) (S:DS):Int:=if G.L.dead S=true then 3 else if T.ended=true then 4 else 0
def TG.state (T:TG) (G:SG) (S:DS):Int:=if T.bT G S≠0 then T.bT G S else T.bad
def TG.refusal (T:TG) (G:SG) (S:DS) (b:Int):Int:=if T.state G S≠0 then T.state G S else if b<0\/(G.y.blocks:Int)<=b then 11 else 0
def Kl (v:Value) (y:DataW Value×List MemPlace) (h:Ra v=some y):∃c,v=Value.agg c:=by
 unfold Ra at h;split at h
 .exact⟨_,rfl⟩
 .cases h
def vq.met {m:Nat} {D:DataW Value} (h:vq w m ms D) {x:Int} {a:Lit} {y:DataW Value} (gT:keyOf prog 3 (iV x)=some a) (is:∀zd,D.atKey a zd=y):
  ∃k:Nat,x=(k:Int)/\a=kk k/\(CM.get ms k).isSome=true:=by
 obtain⟨k,rfl,d⟩:=h.key a (Maps.has_true_of_atKey is);obtain⟨f,c,b,_⟩:=Maps.keyOf_int_inv underlying3 gT;have e:x=(k:Int):=by cases c;simpa [kk] using b.symm
 exact⟨k,e,rfl,d⟩
def mem_keys (b:CM.Ok ms) (k:Nat):k∈CM.keys ms↔(CM.get ms k).isSome=true:=by
 constructor
 .intro h;obtain⟨q,d,e⟩:=List.mem_map.1 h;rw [CM.get_of_mem b (k:=k) (c:=q.2) (by rw [<-e];exact d)];rfl
 .intro h;obtain⟨c,a⟩:=Option.isSome_iff_exists.1 h;exact List.mem_map.2 ⟨_,CM.get_mem a,rfl⟩
def N1 (f:CM.Ok ms) (i:ks.Nodup) (g:∀k,k∈ks↔(CM.get ms k).isSome=true):
    ((ks.map (λk:Nat=>(k:Int))).mergeSort λx y=>decide (x<=y))=(CM.keys ms).map (λk:Nat=>(k:Int)):=by
 have bq:=CM.VK f;have mO:(CM.keys ms).Nodup:=bq.imp (λh=>Nat.ne_of_lt h);have Qc:=(List.perm_ext_iff_of_nodup i mO).2 (λk=>by rw [g,mem_keys f]);have bo:((CM.keys ms).map (λk:Nat=>(k:Int))).Pairwise (λx y=>decide (x<=y)=true):=by
  refine List.pairwise_map.2 ?_;exact bq.imp (λh=>by simp;omega)
 have l:∀a b c:Int,decide (a<=b)=true->decide (b<=c)=true->decide (a<=c)=true:=λa b c d e=>by simp only [decide_eq_true_eq] at*;omega
 have j:∀a b:Int,(decide (a<=b) || decide (b<=a))=true:=λa b=>by simp only [Bool.or_eq_true,decide_eq_true_eq];omega
 refine List.Perm.eq_of_pairwise (le:=λa b=>decide (a<=b)=true) (λa b _ _ d e=>?_) (List.pairwise_mergeSort l j _) bo ((List.mergeSort_perm _ _).trans (Qc.map _));simp only [decide_eq_true_eq] at d e;omega
def Gz {m:Nat} {D:DataW Value} (h:vq w m ms D):
  Calls prog 155 #[.map (some m)] w λe w'=>∃a c,e= .returned (.slice a (CM.keys ms).length c)/\(CM.keys ms≠ []->∃g,a=some (aD g 0)/\w.heap.size<=g/\ay w' 3 g c (vZ (CM.keys ms)))/\bW w w':=by
 obtain⟨F,rH,gB,dC,eu⟩:=info_parts Dq;have B7:=h.lt;have lz:=Ch.small ⟨D,h⟩;have H:=yh h;clear h;go_in;go_wp2_with (at_range;refine wpList_range_own _ rfl _ 83 rfl 3 91 gk underlying83 Ra m ms.length D rfl H.o.own ?_;intro w0 pz uP yy;go_frame);have fO:=(bi _ w).grown uP (bS _) (λj l=>by cases l);clear uP;go_loopw [3,4] (λv _ wr=>∃(left:Lit->Bool) (el:Nat) (ks:List Nat),wr.ranges prog 3 Ra m w.heap.size ms.length D left el/\wr.ownsRow (w.heap.size+1) 3 1 v ks.length (vZ ks)/\
   ks.Nodup/\(∀k,k∈ks↔(CM.get ms k).isSome=true/\left (kk k)=false)/\bW w wr/\ks.length+el<=ms.length/\w.heap.size+1<=wr.heap.size)
    (λ_ _ wr=>wr.rangeLeft m w.heap.size)
 case atStart=>
  refine⟨_,_, [],pz,World.ownsRow_nil _ _ _ _,List.nodup_nil,λk=>?_,fO,by simpa using H.o.own.size_le,by omega⟩;constructor
  .intro p;cases p
  .rintro ⟨q,r⟩;obtain⟨c,A⟩:=Option.isSome_iff_exists.1 q;rw [(H.o.at' k c A).1] at r;cases r
 case round=>
  clear pz fO yy;obtain⟨left,el,ks,mN,be,LV,ru,i,og,eE⟩:=hrel;go_wp2_with (at_next;refine wpList_next_ranges _ rfl _ rfl 3 gk Ra (Value.int .i64) Value.agg (λG I gT=>by obtain⟨x,rfl,_⟩:=Maps.keyOf_int_inv underlying3 gT;exact⟨x,rfl⟩) Kl m w.heap.size ms.length _ _ _ rfl mN ?_ ?_)
  .intro _ vX;have yF:∀k,k∈ks↔(CM.get ms k).isSome=true:=λk=>by rw [ru,vX];simp
   have Jq:=N1 H.o.ok LV yF;have d:ks.length=(CM.keys ms).length:=by
    have:=congrArg List.length Jq;rw [List.length_mergeSort] at this;simpa using this
   have Ci:ks= []->CM.keys ms= []:=λe=>by rw [e] at d;exact List.eq_nil_of_length_eq_zero d.symm
   rcases be.2 with ⟨rfl,E⟩|⟨g,f,cur,rfl,M,tj,L,u,y,n⟩
   .have ew:=Ci (List.eq_nil_of_length_eq_zero E);have ie:=wd wr;clear be ru yF Jq mN H;go_wp2_with (go_at_call 122;refine ie.mono ?_;rintro e K ⟨rfl,A5⟩);go_ret;exact⟨none,0,by simp [ew],λh=>absurd ew h,i.trans (A5.mono i.size)⟩
   .have Uj:ay wr 3 g f ((ks.map (λk:Nat=>(k:Int))).map (Value.int .i64)):=by
     rw [LU];refine⟨cur,tj,by simpa using y,?_,u⟩;simp only [Nat.mul_one] at n;rw [show (vZ ks).length=ks.length by simp [vZ]];exact n
    have mc:=wc g f _ wr Uj (by simp;omega);simp only [List.length_map] at mc;rw [Jq] at mc;have M0:=yh d;clear be ru yF Jq mN H Uj d n;go_wp2_with (go_at_call 122;refine mc.mono ?_;rintro e K ⟨rfl,Dy,A6⟩);go_ret;refine⟨some (aD g 0),f,?_,λ_=>⟨g,rfl,by omega,?_⟩,i.trans (A6.below (λj l=>by omega) i.size)⟩
    .rw [<-M0.o];rfl
    .rw [<-LU];exact Dy
  .intro x ca I N O s pA gT A2 C is o8 bq fZ bo IR;obtain⟨k,rfl,rfl,q⟩:=H.o.met gT is;have xN:k∉ks:=λp=>by rw [((ru k).1 p).2] at A2;cases A2
   have oU:=be.kept fZ (.inr (λe=>by have:=be.lt _ e;omega));have bd:=i.grown fZ i.size (λj l=>by cases l;exact bS _);have jC:w.heap.size+1<=s.heap.size:=(by omega);have FH:∀j,j∈ks ++ [k]↔(CM.get ms j).isSome=true/\(left (kk j) && !(kk j).sameKey (kk k))=false:=λj=>by
    rw [List.mem_append,List.mem_singleton,ru,lB];by_cases e:j=k
    .subst e;simp [q]
    .simp [e]
   have d:ks.length+1<=5000000000000:=(by omega);obtain⟨Qd,yG⟩:=bU FH oU;clear gT C is bo fZ ru FH oU;go_wp2_with (at_builtin;refine wpList_append_own _ rfl _ _ 109 rfl (w.heap.size+1) 3 F (iV 0) 1 8 underlying109 rH gB dC eu rfl (by decide) _ _ _ rfl (yG.o.alloc _) (aD s.heap.size 0) 1 1 [iV (k:Int)] rfl rfl (cell_one_new _ _ _) (ints_oneCell .i64 [(k:Int)]) (by unfold maxLen;omega) (by omega) (by simp;omega) ?_);intro J t cM aR jF;have uX:=λj e=>(be.lt j e).1;have Jl:=(o8.alloc (.cells #[.int .i64 (k:Int)] 3)).kept aR (λe=>by have:=uX m e.symm;omega) (λe=>by have:=uX _ e.symm;omega);have bF:=(bd.alloc (by omega) _).grown aR (by simp;omega) (λj e=>by have:=uX j e;omega);have Fz:w.heap.size+1<=t.heap.size:=(by have:=aR.size;simp at this;omega);have YY:(ks ++ [k]).Nodup:=List.nodup_append.2 ⟨LV,by simp,by intro a z b eH e;simp at eH;subst eH;exact xN (e▸z)⟩;have fN:t.ownsRow (w.heap.size+1) 3 1 J (ks ++ [k]).length (vZ (ks ++ [k])):=(by simpa [vZ] using cM);obtain⟨i6,FB⟩:=bU fN Jl;clear cM aR jF fN Jl be yG o8 IR;go_wp2;go_roundw;case rel=>exact⟨_,pA,ks ++ [k],FB.o,i6.o,YY,Qd.o,bF,by simp;omega,Fz⟩
   case measure=>rw [FB.o.left_eq,mN.left_eq];exact bq
def wF {m:Nat} (h:Ch w m ms):
  Calls prog 155 #[.map (some m)] w λe w'=>∃a c,e= .returned (.slice a (CM.keys ms).length c)/\(CM.keys ms≠ []->∃g,a=some (aD g 0)/\w.heap.size<=g/\ay w' 3 g c (vZ (CM.keys ms)))/\bW w w':=by
 obtain⟨D,h⟩:=h;exact Gz h
def eQ {l:List Int} (h:l.length=512):(prog.info? 91).map (·.size)=some (bs l).length:=by
 obtain⟨i,b,a⟩:=Option.map_eq_some_iff.1 Mr;simp only [Prod.mk.injEq] at a;rw [b,bs,List.length_map,h,<-a.2];rfl
def eU (w:World) {c:List Int} (a:c.length=512):j8 ((w.alloc (.cells bm 91)).setCells w.heap.size 0 (bs c)) 91 w.heap.size c/\Below w.heap.size w ((w.alloc (.cells bm 91)).setCells w.heap.size 0 (bs c))/\(w.alloc (.cells bm 91)).there w.heap.size 0 (bs c).length:=by
 have bO:(w.alloc (.cells bm 91)).heap[w.heap.size]? =some (.cells bm 91 (0,0)):=heap_alloc_new _ _;have bN:Below w.heap.size w (w.alloc (.cells bm 91)):=(bi _ w).alloc (bS _) _;refine⟨eJ (l:=c) bO (by rw [cP,a]),bN.trans ((aa.setCells (F:=λj=>j=w.heap.size) rfl (bs c) 0 _).below (λj b=>by omega) bN.size),?_⟩;rw [bs,List.length_map,a];exact(cH bO cP)
def j8.news {T:TypeId} {l:List Int} (h:j8 w T g l):∀j u,(bs l)[j]? =some u->w.cell? (((aD g 0):Addr).add j)=some u:=λj u b=>by
 obtain⟨a,rfl⟩:=fx b;rw [aN,Nat.zero_add];exact h.cell a
def mC {W W':World} {B:Nat} {e:TypeId} (h:W.ownsRow B e 1 v n xs) (f:∀g,v.ownBlock=some g->W'.heap[g]? =W.heap[g]?):W'.ownsRow B e 1 v n xs:=by
 obtain⟨b,⟨e,c⟩|⟨g,a,cur,rfl,i,tj,d⟩⟩:=h
 .exact⟨b, .inl ⟨e,c⟩⟩
 .exact⟨b, .inr ⟨g,a,cur,rfl,i,(f g rfl).trans tj,d⟩⟩
def Ea (a:j<ms.length):(vZ (CM.keys ms))[j]? =some (iV ((ms[j]).1:Int)):=by
 simp [vZ,CM.keys,a]
def Km {m:Nat} (h:Ch w m ms):
  Calls prog 169 #[.map (some m)] w λe w'=>(∃B,w.heap.size<=B/\zG B w' (cu ms) e)/\bW w w':=by
 obtain⟨J,rH,gB,dC,eu⟩:=info_parts gh;obtain⟨h1,lz,d,du⟩:=cO (wF h) h.small h.len h.ok;have oc:(CM.keys ms).length=ms.length:=by simp [CM.keys]
 rw [oc] at h1;have RE:=jl;have D:=yh h;clear h;go_in;go_wp2_with fail;refine h1.mono ?_;rintro e w1 ⟨a,c,rfl,be,ar⟩;have adk:=ar.size;have cq:=Gy (w:=w1) (B:=w1.heap.size) (v:= .slice none 0 0) (l:= []) (World.ownsRow_nil _ _ _ _) (bS _) ms.length 2 (by omega) (by simp);rw [show ((2:Nat):Int)=2 from rfl] at cq;obtain⟨VR,cQ⟩:=bU be ar;clear h1 be ar;go_wp2_with fail;refine cq.mono ?_;rintro e O ⟨⟨L,rfl,jv⟩,bd⟩;rw [List.nil_append] at jv;have VT:=yh (aH jv bd);clear cq jv bd;go_wp2;go_loopw [4,17] (λu i wr=>∃j:Nat,j<=ms.length/\i=iV (j:Int)/\wr.ownsRow w1.heap.size 5 1 u (bB 2 ms.length ++ (ms.take j).flatMap (λq=>bB 4 q.1)).length (bs (bB 2 ms.length ++ (ms.take j).flatMap (λq=>bB 4 q.1)))/\bW w1 wr) (λ_ i _=>ms.length-(intOf i).toNat);case atStart=>exact⟨0,dV _,rfl,by simpa using VT.o.1,VT.o.2⟩
 case round=>
  clear VT;obtain⟨j,I,rfl,aA,b⟩:=hrel;have VQ:=b.size;by_cases bq:j<ms.length
  .have cC:(j:Int)<(ms.length:Int):=(by omega);have Xu:(0:Int)<=(j:Int):=(by omega);obtain⟨g,rfl,H,n⟩:=VR.o (by simp [CM.keys];intro e;rw [e] at bq;simp at bq);have t:=(n.agree (b.block g n.lt)).cell (Ea bq);have k:=d _ (List.getElem_mem bq);have fH:=Gy aA VQ (ms[j]).1 4 (by omega) (by
    rw [ed,aK,nM,List.length_take];omega)
   rw [show ((4:Nat):Int)=4 from rfl,List.append_assoc,show (ms.take j).flatMap (λq=>bB 4 q.1) ++ bB 4 (ms[j]).1=(ms.take (j+1)).flatMap (λq=>bB 4 q.1) by rw [List.take_succ_eq_append_getElem bq,List.flatMap_append];simp] at fH;have p:=yh b;clear n aA b;generalize (ms[j]).1=K at*;go_wp2_with fail;refine fH.mono ?_;rintro e y ⟨⟨M,rfl,BA⟩,bF⟩;have f:=yh (aH BA (p.o.trans bF));clear fH BA bF;go_wp2;go_roundw;case rel=>exact⟨j+1,by omega,by go_num,f.o⟩
   case measure=>simp [intOf];omega
  .have cC:¬(j:Int)<(ms.length:Int):=(by omega);obtain rfl:j=ms.length:=(by omega);rw [List.take_length] at aA;have f:=yh (aH aA b);clear aA b
   rename World=>wo
   go_wp2;go_loopw [4,27] (λu i wr=>∃j:Nat,j<=ms.length/\i=iV (j:Int)/\wr.ownsRow w1.heap.size 5 1 u (bB 2 ms.length ++ ((ms.flatMap λq=>bB 4 q.1) ++ (ms.take j).flatMap (·.2))).length (bs (bB 2 ms.length ++ ((ms.flatMap λq=>bB 4 q.1) ++ (ms.take j).flatMap (·.2))))/\bW w1 wr) (λ_ i _=>ms.length-(intOf i).toNat);case atStart=>exact⟨0,dV _,rfl,by simpa using f.o.1,f.o.2⟩
   case round=>
    clear f;obtain⟨j,I,rfl,aA,b⟩:=hrel;have VQ:=b.size;by_cases bq:j<ms.length
    .have tz:(j:Int)<(ms.length:Int):=(by omega);have Xu:(0:Int)<=(j:Int):=(by omega);obtain⟨g,rfl,H,n⟩:=VR.o (by simp [CM.keys];intro e;rw [e] at bq;simp at bq);have t:=(n.agree (b.block g n.lt)).cell (Ea bq);have k:=d _ (List.getElem_mem bq);have bw:=eU wr k.2.1;have aW:=eQ k.2.1;have dL:=cF (ms[j]).2;have qh:(bs (ms[j]).2).length=512:=(by rw [bs,List.length_map,k.2.1]);have zH:bB 2 ms.length ++ ((ms.flatMap λq=>bB 4 q.1) ++ (ms.take (j+1)).flatMap (·.2))=bB 2 ms.length ++ ((ms.flatMap λq=>bB 4 q.1) ++ (ms.take j).flatMap (·.2)) ++ (ms[j]).2:=by
      rw [List.take_succ_eq_append_getElem bq,List.flatMap_append];simp
     have j5:(bB 2 ms.length ++ ((ms.flatMap λq=>bB 4 q.1) ++ (ms.take j).flatMap (·.2))).length<=2000000:=by
      rw [ed,ed,aK,nM,vt (λq k=>(d q (List.mem_of_mem_take k)).2.1),List.length_take];omega
     have ml:(bB 2 ms.length ++ ((ms.flatMap λq=>bB 4 q.1) ++ (ms.take (j+1)).flatMap (·.2))).length=(bB 2 ms.length ++ ((ms.flatMap λq=>bB 4 q.1) ++ (ms.take j).flatMap (·.2))).length+512:=(by rw [zH,ed,k.2.1]);have Vg:bs (bB 2 ms.length ++ ((ms.flatMap λq=>bB 4 q.1) ++ (ms.take (j+1)).flatMap (·.2)))=bs (bB 2 ms.length ++ ((ms.flatMap λq=>bB 4 q.1) ++ (ms.take j).flatMap (·.2))) ++ bs (ms[j]).2:=(by rw [zH];simp only [bs,List.map_append]);have r:=yh (aH ml Vg);generalize bB 2 ms.length ++ ((ms.flatMap λq=>bB 4 q.1) ++ (ms.take j).flatMap (·.2))=X at*;have RF:=bw.1.news;obtain⟨A,s⟩:=bQ (bs (ms[j]).2);rw [<-s] at aW dL qh RF bw;have ZH:(Instr.lookup 83 (.map (some m)) (iV ((ms[j]).1:Int)) false).run prog wr= .ok (.agg A.toArray) wr:=(by rw [s];exact(((D.o.later cQ.o).later b).read (ms[j]).1 (CM.get_of_mem du (List.getElem_mem bq))));have C:=yh s;have bV:=all_oneCell_toArray dL;obtain⟨z,Fl⟩:=bQ ((wr.alloc (.cells bm 91)).setCells wr.heap.size 0 A);have ef:=bw.2.2;have wG:bW wr z:=(by rw [Fl];exact bw.2.1);have oU:=mC aA (λq k=>wG.block q (by have:=(aA.lt q k).2;omega));have RG:∀j u,A[j]? =some u->z.cell? (((aD wr.heap.size 0):Addr).add j)=some u:=(by rw [Fl];exact RF);obtain⟨yG,adm,ZI⟩:=kF oU RG Fl;have uX:=λq e=>(aA.lt q e).1;have p:=yh (aH b wG);clear bw n aA b oU RF RG wG s ml Vg zH k;generalize (ms[j]).1=K at*;generalize bm=Z at*;go_wp2_with (first|refine wpList_store_mid rfl 91 _ _ rfl wr.heap.size 0 A.toArray rfl rfl ?h1 ?h2 bV ?_|(rw [<-ZI.o];at_builtin;refine wpList_append_own _ rfl _ _ 22 rfl w1.heap.size 5 J (.int .u8 0) 1 1 underlying22 rH gB dC eu rfl (by decide) _ _ _ rfl yG.o (aD wr.heap.size 0) 512 512 A rfl ?n0 adm.o ?n2 ?n3 ?n4 ?n5 ?_));case h1=>rw [qh] at ef;simpa using ef
     case n2=>exact dL
     case n3=>unfold maxLen;omega
     case n4=>omega
     case n5=>rw [<-ZI.o];have:=p.o.2.size;omega
     intro x y cM aR jF;rw [<-ZI.o] at aR;have bF:=(p.o.1.trans (p.o.2.mono VQ)).grown aR (by have:=p.o.2.size;omega) (λq e=>uX q e);have fN:zG w1.heap.size y (bB 2 ms.length ++ ((ms.flatMap λq=>bB 4 q.1) ++ (ms.take (j+1)).flatMap (·.2))) (.returned x):=by
      refine⟨x,rfl,?_⟩;rw [r.o.1,r.o.2,<-C.o];simpa [bs] using cM
     have f:=yh (aH fN bF);clear cM aR jF fN bF;go_wp2;go_roundw;case rel=>
      obtain⟨⟨N,E,G⟩,F⟩:=f.o;cases E;exact⟨j+1,by omega,by go_num,G,F⟩
     case measure=>simp [intOf];omega
    .have tz:¬(j:Int)<(ms.length:Int):=(by omega);obtain rfl:j=ms.length:=(by omega);rw [List.take_length] at aA;have f:=yh (aH aA (cQ.o.trans (b.mono adk)));clear aA b;go_wp2;go_ret;exact⟨⟨w1.heap.size,adk,_,rfl,f.o.1⟩,f.o.2⟩
section
namespace B
def Rb (r:Int) (c:Nat):Prop:=c<4611686018427387904->0<=r/\r<=(c:Int)
def Rb.read {r:Int} {c:Nat} (h:Rb r c):Rb (wrap64 (r+1)) (c+1):=by
 intro b;have a:=h (by omega);have e:wrap64 (r+1)=r+1:=by unfold wrap64;omega
 rw [e];omega
def Rb.le {r:Int} {c:Nat} (h:Rb r c) (hd:c<=d):Rb r d:=by
 intro b;have a:=h (by omega);omega
def ax (w:World) (F:Nat->Prop) (p s:Nat) (S:DS) (c:Nat):Prop:=∃r,aQ w F p s (S.DX r)/\Rb r c
section
variable {w w':World} {F G:Nat->Prop} {p s c:Nat} {S:DS}
def ax.old (h:ax w F p s S c):Go.Proofs.YtcpdggdfihjhoabGreat.ax w F p s S:=by obtain⟨r,h,_⟩:=h;exact⟨r,h⟩
def ax.le (h:ax w F p s S c) (hd:c<=d):ax w F p s S d:=by obtain⟨r,h,a⟩:=h;exact⟨r,h,a.le hd⟩
def ax.ok (h:ax w F p s S c):S.Ok s:=h.old.ok
def ax.lt (h:ax w F p s S c):∀k,F k->k<w.heap.size:=h.old.lt
def ax.aw (h:ax w F p s S c) (k:aa G w w') (hd:∀k,F k->¬G k):ax w' F p s S c:=by obtain⟨r,h,a⟩:=h;exact⟨r,h.aw k hd,a⟩
def ax.later (h:ax w F p s S c) (a:bW w w'):ax w' F p s S c:=h.aw (aa.ah (λ_=>False) a) (λ_ _ h=>h)
def ax.boxed (h:ax w F p s S c) (o:Obj):ax (w.alloc o) F p s S c:=h.later ((bi w.heap.size w).alloc (bS _) o)
def ax.mono (h:ax w F p s S c) (a:∀k,F k->G k) (b:∀k,G k->k<w.heap.size):ax w G p s S c:=by obtain⟨r,h,d⟩:=h;exact⟨r,h.mono a b,d⟩
def ax.more (h:ax w' F p s S c):ax w' (more F w w') p s S c:=by obtain⟨r,h,a⟩:=h;exact⟨r,h.more,a⟩
def pS (h:ax w F p s S c):Calls prog 36 #[pQ p] w λe w'=>e= .returned (iV s)/\w'=w:=Go.Proofs.YtcpdggdfihjhoabGreat.pS h.old
def zf (h:ax w F p s S c):Calls prog 34 #[pQ p] w λe w'=>e= .returned (.bool (S.fuse == 0))/\w'=w:=Go.Proofs.YtcpdggdfihjhoabGreat.zf h.old
def wm (h:ax w F p s S c):Calls prog 17 #[pQ p] w λe w'=>e= .returned (iV S.life)/\w'=w:=Go.Proofs.YtcpdggdfihjhoabGreat.wm h.old
def zI (h:ax w F p s S c):Calls prog 37 #[pQ p] w λe w'=>e= .returned (iV (wrap64 (S.life+1)))/\ax w' F p s S.take c/\aa F w w':=by
 obtain⟨r,h,d⟩:=h;refine(U2 h).mono ?_;rintro e w' ⟨rfl,a,b⟩;exact⟨rfl,⟨r,a,d⟩,b⟩
def oz (h:ax w F p s S c) (x:Int) (a:S.fuse=0):Calls prog 68 #[pQ p,iV x] w λe w'=>e= .returned (.tuple #[.slice none 0 0,iV 3])/\w'=w:=Go.Proofs.YtcpdggdfihjhoabGreat.oz h.old x a
def zJ (h:ax w F p s S c) (k:Nat) (i:k<s) (aU:S.puts.length+1<=4000000000000) (g:S.fuse≠0):
  Calls prog 68 #[pQ p,iV (k:Int)] w λe w'=>∃v,e= .returned (.tuple #[v,iV 0])/\Out w.heap.size w' (S.now k) v/\ax w' F p s S (c+1)/\aa F w w':=by
 obtain⟨r,h,j⟩:=h;have a:=tD h (k:Int) aU;rw [QR (S:=S.DX r) g i] at a;refine a.mono ?_;rintro e w' ⟨v,rfl,b,d,f⟩;exact⟨v,rfl,b,⟨_,d,j.read⟩,f⟩
def Eb (h:ax w F p s S c) (x:Int) (a:Option Addr) (n k:Nat) (l:List Int) (i:Src w a n l) (aU:S.puts.length+1<=4000000000000):
  Calls prog 40 #[pQ p,iV x, .slice a n k] w λe w'=>e= .returned (iV (S.wr s x n l).1)/\ax w' (Go.Proofs.YtcpdggdfihjhoabGreat.more F w w') p s (S.wr s x n l).2 c/\aa F w w':=by
 obtain⟨r,h,g⟩:=h;have b:=vd h x a n k l i aU;rw [QT] at b;refine fR b λw' d f=>?_;exact⟨rfl,⟨r,d,g⟩,f⟩
def vu (h:ax w F p s S c) (aU:S.puts.length+1<=4000000000000):
  Calls prog 41 #[pQ p] w λe w'=>e= .returned (iV (S.fl s).1)/\ax w' F p s (S.fl s).2 c/\aa F w w':=by
 obtain⟨r,h,f⟩:=h;have a:=Dl h aU;rw [QU] at a;refine fR a λw' b d=>?_;exact⟨rfl,⟨r,b,f⟩,d⟩
def ZJ (h:ax w F p s S c) (aU:S.puts.length+1<=4000000000000) (a:Option Addr) (n k:Nat) (l:List P3) (DA:kX w a n l) (g:n<=140737488355328) (f:∀x,a=some x->¬F x.block):
  Calls prog 23 #[pQ p, .slice a n k] w λe w'=>e= .returned (.tuple #[])/\ax w' F p s (S.iy s l) c/\aa F w w':=by
 obtain⟨r,h,i⟩:=h;refine(Qf wc wd h (by show S.puts.length+1<=_;omega) a n k l DA g f).mono ?_;rintro e w' ⟨rfl,b,d⟩;exact⟨rfl,⟨r,b,i⟩,d⟩
def JS (h:ax w F p s S c):Calls prog 64 #[pQ p] w λe w'=>∃g c,e= .returned (.slice (some (aD g 0)) (s*512) c)/\w.heap.size<=g/\ay w' 5 g c (bs S.im)/\bW w w':=Go.Proofs.YtcpdggdfihjhoabGreat.JS h.old
def qZ (h:ax w F p s S c) (aU:S.puts.length<=140737488355328) (b:c<4611686018427387904):Calls prog 66 #[pQ p] w λe w'=>∃r:Nat,e= .returned (.agg #[iV (r:Int),iV S.writes,iV S.flushes,iV S.refused,iV (S.puts.length:Int)])/\r<=c/\ax w' F p s S r/\bW w w':=by
 obtain⟨r,h,d⟩:=h;have Bt:=d b;obtain⟨k,rfl⟩:∃k:Nat,r=(k:Int):=⟨r.toNat,by omega⟩;refine(Jh p s F _ w h aU).mono ?_;rintro e w' ⟨rfl,a⟩;exact⟨k,rfl,by omega,ax.later ⟨_,h,λ_=>by omega⟩ a,a⟩
def RH (S:DS) (r:Int) (s f:Nat) (num:Int) (a:S.fuse≠0):zc (S.DX r) s f num=((cZ S s f num).1,(cZ S s f num).2.DX (wrap64 (wrap64 (r+1)+1))):=by
 unfold zc cZ;rw [aB a];simp only [Vu];have e:(S.DX r).read.read=S.DX (wrap64 (wrap64 (r+1)+1)):=rfl;simp only [e,QT];split
 .rfl
 .split
  .rfl
  .simp only [QU]
def VU (h:ax w F p s S c) (f:Nat) (n:Int) (aU:S.puts.length+1<=4000000000000) (d:S.fuse≠0) (i:f+1<s) (ar:Bytes (S.now f)) (bd:Bytes (S.now (f+1))):
  Calls prog 150 #[kG p f n] w λe w'=>e= .returned (.tuple #[iV ((ik (S.now f) (S.now (f+1))).1:Int),iV ((ik (S.now f) (S.now (f+1))).2.1:Int),iV ((ik (S.now f) (S.now (f+1))).2.2:Int)])/\ax w' F p s S (c+2)/\aa F w w':=by
 obtain⟨r,h,g⟩:=h;refine(JR h f n aU d i ar bd).mono ?_;rintro e w' ⟨rfl,a,b⟩;exact⟨rfl,⟨_,a,g.read.read⟩,b⟩
def tO (h:ax w F p s S c) (f n:Int):Calls prog 97 #[kG p f n] w λe w'=>e= .returned (iV (cw S s f n))/\bW w w':=Go.Proofs.YtcpdggdfihjhoabGreat.tO h.old f n
end
def Kn {w:World} {F:Nat->Prop} {p s c:Nat} {S:DS} (h:ax w F p s S c) (f:Nat) (n:Int) (E T:Int) (aU:S.puts.length+1<=4000000000000) (a:S.fuse=0):
  Calls prog 99 #[kG p f n,iV E,iV T] w λe w'=>e= .returned (iV 3)/\ax w' F p s S c/\aa F w w':=by
 obtain⟨r,h,d⟩:=h;go_in;go_wp2_with fail;refine(Nr (h.boxed (.cells #[.pointer (some ⟨p,0,none⟩), .int .i64 f, .int .i64 n] 141)) f n aU a).mono ?_;rintro e w1 ⟨rfl,hd,b⟩;go_wp2;go_ret;exact⟨rfl,⟨r,hd,d⟩,(aa.boxed (w:=w) F (.cells #[.pointer (some ⟨p,0,none⟩), .int .i64 f, .int .i64 n] 141)).trans b (λ_ h=> .inl h)⟩
def Ko {w:World} {F:Nat->Prop} {p s c:Nat} {S:DS} (h:ax w F p s S c) (f:Nat) (n:Int) (E T:Nat) (i:E<=1073741824) (j:T<=1073741824) (aU:S.puts.length+2<=4000000000000) (l:f+1<s) (ar:Bytes (S.now f)) (bd:Bytes (S.now (f+1))):
  Calls prog 99 #[kG p f n,iV (E:Int),iV (T:Int)] w λe w'=>e= .returned (iV (cZ S s f ((E:Int)*4294967296+T)).1)/\ax w' (more F w w') p s (cZ S s f ((E:Int)*4294967296+T)).2 (c+2)/\aa F w w':=by
 by_cases b:S.fuse=0
 .refine(Kn h f n E T (by omega) b).mono ?_;rintro e w' ⟨rfl,a,d⟩;unfold cZ;rw [aG b];exact⟨rfl,a.more.le (by omega),d⟩
 .obtain⟨r,h,k⟩:=h;have a:=Nu h f n E T i j aU b l ar bd;rw [(RH S r s f ((E:Int)*4294967296+T) b)] at a;refine fR a λw' d g=>?_;exact⟨rfl,⟨_,d,k.read.read⟩,g⟩
end B
end
section
namespace B
def ax.from {w:World} {F:Nat->Prop} {p s:Nat} {S:DS} (h:ax w2 (Go.Proofs.YtcpdggdfihjhoabGreat.more F w1 w2) p s S c) (b:∀k,F k->k<w.heap.size) (d:w.heap.size<=w1.heap.size) (e:w1.heap.size<=w2.heap.size):ax w2 (Go.Proofs.YtcpdggdfihjhoabGreat.more F w w2) p s S c:=
 h.mono (λk a=>by rcases a with a|a;exact .inl a;exact .inr ⟨by omega,a.2⟩) (cJ b (by omega))
def ax.wide {w:World} {F:Nat->Prop} {p s:Nat} {S:DS} (h:ax w2 (Go.Proofs.YtcpdggdfihjhoabGreat.more F w w1) p s S c) (b:∀k,F k->k<w.heap.size) (d:w.heap.size<=w1.heap.size) (e:w1.heap.size<=w2.heap.size):ax w2 (Go.Proofs.YtcpdggdfihjhoabGreat.more F w w2) p s S c:=
 h.mono (λk a=>by rcases a with a|a;exact .inl a;exact .inr ⟨a.1,by omega⟩) (cJ b (by omega))
section
variable {w:World} {F:Nat->Prop} {p s l cR:Nat} {S:DS} {L:LG}
def tP (h:ax w F p s S cR) (a:cW w l p L):
  Calls prog 109 #[pQ l] w λe w'=>e= .returned (.bool (L.dead S))/\bW w w':=Go.Proofs.YtcpdggdfihjhoabGreat.tP h.old a
def jw (h:ax w F p s S cR) (a:cW w l p L):
  Calls prog 157 #[pQ l] w λe w'=>e= .returned (iV (L.bj S))/\bW w w':=Go.Proofs.YtcpdggdfihjhoabGreat.jw h.old a
def zK (h:ax w F p s S cR) (b:cW w l p L) (j:¬F l) (aU:S.puts.length+1<=4000000000000):
  Calls prog 126 #[pQ l] w λe w'=>e= .returned (iV (L.sync S s).1)/\ax w' F p s (L.sync S s).2 cR/\cW w' l p L/\aa F w w':=by
 have g:=jw h b;have f:=b;have c:=h;unfold LG.sync;generalize L.bj S=U at*;go_in;by_cases q:U=0
 .subst q;rw [aB (by decide)];go_wp2_with fail;refine bM g λw1 a=>?_;have b:=f.later a;have k:=b.c0;go_wp2_with fail;refine(vu (c.later a) aU).mono ?_;rintro e m ⟨rfl,hd,i⟩;go_wp2;go_ret;exact⟨rfl,aH hd (aH (b.aw i j) ((aa.ah F a).trans i (λ_ h=> .inl h)))⟩
 .rw [aG q];have d:(U == 0)=false:=by rw [fJ];exact q
  go_wp2_with fail;refine bM g λw1 a=>?_;go_wp2;go_ret;exact⟨rfl,aH (c.later a) (aH (f.later a) (aa.ah F a))⟩
end
end B
end
section
abbrev Pr (p l m:Nat) (y:LY) (busy:Bool):Array Value:= #[pQ p,pQ l,iV (y.log:Int),iV (y.home:Int),iV (y.blocks:Int),iV (y.nodes:Int),iV (y.data:Int), .map (some m), .bool busy]
def ng (w:World) (q p l m:Nat) (y:LY) (busy:Bool):Prop:=w.heap[q]? =some (.cells (Pr p l m y busy) 85 (0,0))
section
variable {w w':World} {q p l m:Nat} {y:LY} {busy:Bool}
def ng.lt (h:ng w q p l m y busy):q<w.heap.size:=aq h
def ng.aw (h:ng w q p l m y busy) (k:aa G w w') (a:¬G q):ng w' q p l m y busy:=(k.block q h.lt a).trans h
def ng.later (h:ng w q p l m y busy) (a:bW w w'):ng w' q p l m y busy:=(a.block q h.lt).trans h
def ng.c0 (h:ng w q p l m y busy):w.cell? (aD q 0)=some (pQ p):=aM h
def ng.c1 (h:ng w q p l m y busy):w.cell? (aD q 1)=some (pQ l):=bG h
def ng.c3 (h:ng w q p l m y busy):w.cell? (aD q 3)=some (iV (y.home:Int)):=fQ h
def ng.c4 (h:ng w q p l m y busy):w.cell? (aD q 4)=some (iV (y.blocks:Int)):=gG h
def ng.c7 (h:ng w q p l m y busy):w.cell? (aD q 7)=some (.map (some m)):=rt h
def ng.c8 (h:ng w q p l m y busy):w.cell? (aD q 8)=some (.bool busy):=Dp h
end
def GA {w:World} {q p l m:Nat} {y:LY} {a:Bool} (h:ng w q p l m y a) (b:Nat) (d:y.home+b<=1000000):
  Calls prog 156 #[pQ q,iV (b:Int)] w λe w'=>e= .returned (iV ((y.home:Int)+(b:Int)))/\w'=w:=by
 have c:=h.c3;go_in;go_wp2;go_ret;exact⟨rfl,rfl⟩
def jz (S:DS) (s h:Nat) (q:Nat×List Int) (a:CM):aE S s h (q :: a)=if (S.wr s ((h+q.1:Nat):Int) 512 q.2).1≠0 then S.wr s ((h+q.1:Nat):Int) 512 q.2 else aE (S.wr s ((h+q.1:Nat):Int) 512 q.2).2 s h a:=rfl
def fq (S:DS) (s h:Nat):∀(a b:CM),aE S s h (a ++ b)=if (aE S s h a).1≠0 then aE S s h a else aE (aE S s h a).2 s h b
 | [],b=>by simp [aE]
 |q :: qs,b=>by
  rw [List.cons_append,jz,jz];by_cases e:(S.wr s ((h+q.1:Nat):Int) 512 q.2).1≠0
  .rw [aG e,aG e,aG e]
  .rw [aB e,aB e];exact fq _ s h qs b
def eF (S:DS) (s h:Nat):∀(ms:CM),(aE S s h ms).2.puts.length<=S.puts.length+ms.length:=λms=>by
 induction ms generalizing S with
 |nil=>exact bS _
 |cons q c a=>
  have b:=jh S s ((h+q.1:Nat):Int) 512 q.2;unfold aE;split
  .rw [List.length_cons];omega
  .have:=a (S.wr s ((h+q.1:Nat):Int) 512 q.2).2;rw [List.length_cons];omega
def rQ {w:World} {p q l m:Nat} {y:LY} {G:Bool} (hd:B.ax w F p s S c) (hs:ng w q p l m y G) (C:Ch w m ms) (hq:¬F q) (Ui:¬F m) (b:∀x∈ms,y.home+x.1<s) (aU:S.puts.length+3000<=4000000000000):
  Calls prog 108 #[pQ q] w λe w'=>e= .returned (iV (aE S s y.home ms).1)/\B.ax w' (more F w w') p s (aE S s y.home ms).2 c/\aa F w w':=by
 obtain⟨h1,lz,I,du,Ml⟩:=eK (wF C) C.small C.len C.ok hd.ok.hi;have oc:(CM.keys ms).length=ms.length:=by simp [CM.keys]
 rw [oc] at h1;obtain⟨RE,M,iK,HD,HS,HM⟩:=jE jl hs.c7 (yh hd.lt) (yh hd) (yh hs) (yh C);clear hd hs C;go_in;go_wp2_with fail;refine h1.mono ?_;rintro e w1 ⟨a,ca,rfl,be,ar⟩;obtain⟨dC,VR,RK,oV,P,cQ⟩:=jE ar.size (yh be) (yh (HD.o.later ar)) (yh (HS.o.later ar)) (yh (HM.o.later ar)) (yh ar);clear h1 be ar HD HS HM M;go_wp2;go_loopw [13] (λi wr=>∃j:Nat,j<=ms.length/\i=iV (j:Int)/\(aE S s y.home (ms.take j)).1=0/\B.ax wr (more F w1 wr) p s (aE S s y.home (ms.take j)).2 c/\aa F w1 wr) (λi _=>ms.length-(intOf i).toNat);case atStart=>exact⟨0,dV _,rfl,rfl,RK.o.more,aa.refl _ _⟩
 case round=>
  clear RK;obtain⟨j,hj,rfl,J,hd,eZ⟩:=hrel;have W:=eZ.size;by_cases bq:j<ms.length
  .have cC:(j:Int)<(ms.length:Int):=(by omega);have Xu:(0:Int)<=(j:Int):=(by omega);obtain⟨g,rfl,hg,X⟩:=VR.o (by simp [CM.keys];intro e;rw [e] at bq;simp at bq);have U:¬F g:=λT=>by have:=iK.o _ T;omega
   have H:=(X.agree (eZ.block g X.lt U)).cell (Ea bq);have nN:=I _ (List.getElem_mem bq);have ew:=b _ (List.getElem_mem bq);have kU:=oV.o.aw eZ hq;obtain⟨M,bw,aW,dL⟩:=cO kU.c7 (eU wr nN.2.1) (eQ nN.2.1) (cF (ms[j]).2);have qh:(bs (ms[j]).2).length=512:=(by rw [bs,List.length_map,nN.2.1]);have sH:=eF S s y.home (ms.take j);have ie:aE S s y.home (ms.take (j+1))=(aE S s y.home (ms.take j)).2.wr s ((y.home+(ms[j]).1:Nat):Int) 512 (ms[j]).2:=by
    rw [List.take_succ_eq_append_getElem bq,fq,aB (λh=>h J)];simp only [aE];split
    .rfl
    .rename_i h;generalize DS.wr _ _ _ _ _=Z at*;rw [<-(Decidable.byContradiction h)]
   have lG:aE S s y.home ms=if (aE S s y.home (ms.take (j+1))).1≠0 then aE S s y.home (ms.take (j+1)) else aE (aE S s y.home (ms.take (j+1))).2 s y.home (ms.drop (j+1)):=by
    conv=>lhs;rw [<-List.take_append_drop (j+1) ms]
    exact fq S s y.home _ _
   obtain⟨r,Fl⟩:=bQ ((wr.alloc (.cells bm 91)).setCells wr.heap.size 0 (bs (ms[j]).2));have wG:bW wr r:=(by rw [Fl];exact bw.2.1);have aV:j8 r 91 wr.heap.size (ms[j]).2:=(by rw [Fl];exact bw.1);have fS:Src r (some (aD wr.heap.size 0)) 512 (ms[j]).2:=by
    have:=aV.src (o:=0) (n:=512) (by omega);rwa [List.drop_zero,nr (by omega)] at this
   have t:=kU.later wG;have GB:=λ(wx:World) (O:bW r wx)=>GA (t.later O) (ms[j]).1 (by omega);have ZK:=λ(wx:World) (O:bW r wx)=>B.Eb ((hd.later wG).later O) ((y.home+(ms[j]).1:Nat):Int) (some (aD wr.heap.size 0)) 512 512 (ms[j]).2 (fS.later O) (by rw [List.length_take] at sH;omega);rw [<-ie,Int.natCast_add] at ZK;have L:=t.c0;obtain⟨A,N⟩:=bQ (bs (ms[j]).2);rw [<-N] at aW dL qh Fl;have ZH:(Instr.lookup 83 (.map (some m)) (iV ((ms[j]).1:Int)) false).run prog wr= .ok (.agg A.toArray) wr:=(by rw [N];exact((P.o.aw eZ Ui).read (ms[j]).1 (CM.get_of_mem du (List.getElem_mem bq))));have ef:=bw.2.2;rw [<-N] at ef;obtain⟨bV,E,HH,z,u,HK,HE⟩:=nw (all_oneCell_toArray dL) (yh t) (yh GB) (yh ZK) (yh wG) (yh eZ) (yh lG);clear bw X hd eZ kU t wG aV fS N nN GB ZK ie lG sH J;obtain⟨Y,R⟩:=bQ (aE S s y.home (ms.take (j+1)));rw [<-R] at z HE;have HY:=yh R;clear R;generalize (ms[j]).1=K at*;generalize bm=Z at*;go_wp2_with (refine wpList_store_mid rfl 91 _ _ rfl wr.heap.size 0 A.toArray rfl rfl ?h1 ?h2 bV ?_);case h1=>first|simpa using ef|(rw [qh] at ef;simpa using ef)
   case h2=>simpa using aW
   have RL:=(yh Fl).out;subst RL;have Kp:¬more F w1 wr q:=λh=>by
    rcases h with h|h
    .exact hq h
    .have:=oV.o.lt;omega
   have RM:Yh (∀k,F k->k<w1.heap.size):=λk T=>by have:=iK.o k T;omega
   generalize RL:(wr.alloc (.cells Z 91)).setCells wr.heap.size 0 A=r at*;clear RL;have hzS:=u.o.size;by_cases D:Y.1=0
   .have dY:(Y.1 != 0)=false:=(by rw [D];rfl);go_region_held3 (λw'=>w'.cell? (aD q 0)=some (pQ p))
     (first|exact L|exact Uy)
     (first
      |(go_at_call 156;refine(HH.o _ (ai (bi _ _))).mono ?_;rintro e wy ⟨rfl,Ms⟩;have Ec:=Ms.symm;subst Ec;clear Ms)
      |(go_at_call 40;refine(z.o _ (ai (bi _ _))).mono ?_;rintro e w5 ⟨rfl,jG,dX⟩;have Uy:=((E.o.later (ai (bi _ _))).aw dX Kp).c0))
    have pL:r.heap.size<=w5.heap.size:=dX.size;have d:=jG.mono (λk b=>by
     rcases b with (b|b)|b
     .exact .inl b
     .exact .inr ⟨b.1,by omega⟩
     .have:r.heap.size<=k:=b.1;exact .inr ⟨by omega,b.2⟩) (cJ (F:=F) (w:=w1) RM.o (by omega))
    have f:=(HK.o.trans (aa.ah (λ_=>False) (ai u.o)) (λ_ h=>h.elim)).trans dX (λk b=>by
     rcases b with b|b
     .exact .inl b
     .exact .inr b.1)
    obtain⟨v,Uz⟩:=bU (aH d f) D;clear jG dX Uy d f D L M H;go_wp2;go_roundw;case rel=>exact⟨j+1,by omega,by go_num,by rw [<-HY.o];exact Uz.o,by rw [<-HY.o];exact v.o.1,v.o.2⟩
    case measure=>simp [intOf];omega
   .have dY:(Y.1 != 0)=true:=(by rw [gA];exact D);go_region_held3 (λw'=>w'.cell? (aD q 0)=some (pQ p))
     (first|exact L|exact Uy)
     (first
      |(go_at_call 156;refine(HH.o _ (ai (bi _ _))).mono ?_;rintro e wy ⟨rfl,Ms⟩;have Ec:=Ms.symm;subst Ec;clear Ms)
      |(go_at_call 40;refine(z.o _ (ai (bi _ _))).mono ?_;rintro e w5 ⟨rfl,jG,dX⟩;have Uy:=((E.o.later (ai (bi _ _))).aw dX Kp).c0))
    have pL:r.heap.size<=w5.heap.size:=dX.size;have d:=jG.mono (λk b=>by
     rcases b with (b|b)|b
     .exact .inl b
     .exact .inr ⟨b.1,by omega⟩
     .have:r.heap.size<=k:=b.1;exact .inr ⟨by omega,b.2⟩) (cJ (F:=F) (w:=w1) RM.o (by omega))
    have f:=(HK.o.trans (aa.ah (λ_=>False) (ai u.o)) (λ_ h=>h.elim)).trans dX (λk b=>by
     rcases b with b|b
     .exact .inl b
     .exact .inr b.1)
    have Q:=HE.o;rw [aG D] at Q;obtain⟨v,HEq⟩:=bU (aH (d.from iK.o dC (by omega)) ((aa.ah F cQ.o).trans f (λ_ h=> .inl h))) Q;clear jG dX Uy d f D L M H Q;go_wp2;go_ret;exact⟨by rw [HEq.o];rfl,by rw [HEq.o];exact v.o.1,v.o.2⟩
  .have cC:¬(j:Int)<(ms.length:Int):=(by omega);obtain rfl:j=ms.length:=(by omega);rw [List.take_length] at J hd;obtain⟨HZ,v⟩:=bU J (aH (hd.from iK.o dC W) ((aa.ah F cQ.o).trans eZ (λ_ h=> .inl h)));clear hd eZ J;go_wp2;go_ret;exact⟨by rw [HZ.o];rfl,v.o⟩
end
def VV (w:World):Calls prog 106 #[.bool true] w λe w'=>e= .returned (.tuple #[])/\w'=w:=by
 go_in;go_wp2
 go_end0
 exact⟨rfl,rfl⟩
abbrev RN:List PanicEntry:= [{v:= .iface 46 (iV 6),recovered:=false}]
def VW (w:World):Calls prog 106 #[.bool false] w λe w'=>e= .panicked RN/\w'=w:=by
 go_in;go_wp2;exact⟨rfl,rfl,rfl⟩
def sI (b o k c:Nat) (l:List Int) (w1:World) (g:Src w1 (some (aD b o)) k l) (f:Bytes l) (dW:k<=4):
  Calls prog 193 #[.slice (some (aD b o)) k c] w1 λe w'=>e= .returned (iV ((le l:Nat):Int))/\w'=w1:=by
 have w:l.length=k:=g.1;have n:Yh (∀i,i<k->w1.cell? ⟨b,o+i,none⟩=some (.int .u8 (l.getD i 0))):=λi s=>by
  have:=g.2.2 _ rfl i s;rwa [aN] at this
 clear g;go_in;go_wp2;go_loopw [3,8] (λr i wr=>∃j:Nat,j<=k/\i=iV j/\wr=w1/\r=iV ((le (l.take j):Nat):Int)) (λ_ i _=>k-(intOf i).toNat);case atStart=>exact⟨0,dV _,rfl,rfl,by simp [le]⟩
 case round=>
  obtain⟨j,v,rfl,N2,rfl⟩:=hrel;subst N2;by_cases bq:j<k
  .have cC:(j:Int)<(k:Int):=(by omega);have q:=n.o j bq;obtain⟨x,u,jI⟩:∃x:Nat,l.getD j 0=(x:Int)/\x<256:=by
    have:=f.getD j;exact⟨(l.getD j 0).toNat,by omega,by omega⟩
   have iz:=lC (l:=l) (k:=j) (by omega);have m:le (l.take j)<2 ^ (8*j):=by
    have:=lw (f.take j);have e:(l.take j).length=j:=(by simp;omega);rwa [e] at this
   have d:le (l.take (j+1))<9223372036854775808:=Cz (f.take _) (by simp;omega);rw [u] at q iz;simp only [Int.toNat_natCast] at iz;rw [iz] at d;have M8:=QS (8*j) _ x m d;rw [<-iz] at M8;have t:=Vi (x:Int) j (by omega);have Ze:((x:Int)*2 ^ (8*j))=((2 ^ (8*j)*x:Nat):Int):=(by rw [Int.natCast_mul,Int.natCast_pow,Int.mul_comm];rfl);have tz:((2 ^ (8*j)*x:Nat):Int)<9223372036854775808:=(by omega);have Ux:(0:Int)<=8*(j:Int):=(by omega);generalize 2 ^ (8*j)*x=Y at*;generalize le (l.take j)=A at*;have a:=yh M8;clear m d iz;go_wp2;go_roundw;case rel=>exact⟨j+1,by omega,by go_num,trivial,by rw [<-a.o]⟩
   case measure=>simp [intOf];omega
  .have cC:¬(j:Int)<(k:Int):=(by omega);have p:l.take j=l:=nr (by omega);rw [p] at*;go_wp2;go_ret;exact⟨rfl,rfl⟩
def N3 {m:Nat} {y:LY} {a:Bool} (hd:B.ax w F p s S c) (i:ng w q p l m y a) (g:cW w l p L) (f:L.Ok s) (d:L.begun=true):
  Calls prog 47 #[pQ q] w λe w'=>e= .returned (.bool (L.dead S))/\bW w w':=by
 have b:=Gc hd.old g f;have n:((L.room S).2 == 3)=L.dead S:=by
  unfold LG.room LG.bj;cases yD:L.dead S
  .rw [aB (show¬false=true by decide),aG d,aB (λh=>h rfl)];rfl
  .rw [aG rfl,aG (by decide)];rfl
 have k:=i.c1;generalize (L.room S).2=E at*;generalize (L.room S).1=j at*;go_in;go_wp2_with fail;refine bM b λw1 ar=>?_;go_wp2;go_ret;exact⟨rfl,ar⟩
def q9 (w:World):(w.alloc (.cells bm 91)).there w.heap.size 0 512:=cH (heap_alloc_new _ _) cP
def zL (a:Option Addr) (c:Nat) (w:World):(Instr.arrayAt 91 (.slice a 512 c)).run prog w= .ok (.pointer a) w:=by
 simp [Instr.arrayAt,run_underlying underlying91]
def ko (h:w.there g 0 n) (c:w'.heap[g]? =w.heap[g]?):w'.there g 0 n:=by
 intro j e;obtain⟨d,b⟩:=h j e;refine⟨?_,?_⟩
 .rw [World.cell?_of_block (w:=w) (w':=w') (a:=⟨g,0+j,none⟩) c];exact d
 .unfold World.frozen? at b⊢;rw [show w'.heap[g]? =w.heap[g]? from c];exact b
def Ed {m:Nat} {y:LY} {a:Bool} (i:ng w q p l m y a) (g:Ch w m ov) (b:Nat) {c:List Int} (f:CM.get ov b=some c):
  Calls prog 111 #[pQ q,iV (b:Int)] w λe w'=>e= .returned (.tuple #[cV c,iV 0])/\bW w w':=by
 have nN:=g.len _ (CM.get_mem f);have RE:=jl;have bN:bW w (w.alloc (.cells bm 91)):=(bi _ w).alloc (bS _) _;have r:=(i.later bN).c7;have gU:=(g.later bN).look b nN.1;rw [f] at gU;have bw:=eU (w.alloc (.cells bm 91)) nN.2.1;rw [World.size_alloc] at bw;have aW:=eQ nN.2.1;have dL:=cF c;have qh:(bs c).length=512:=by rw [bs,List.length_map,nN.2.1]
 obtain⟨A,d⟩:=bQ (bs c);have sJ:(Instr.lookup 83 (.map (some m)) (iV (b:Int)) true).run prog (w.alloc (.cells bm 91))= .ok (.tuple #[.agg A.toArray, .bool true]) (w.alloc (.cells bm 91)):=by rw [d];exact gU
 have A8:(((w.alloc (.cells bm 91)).alloc (.cells bm 91)).setCells (w.heap.size+1) 0 (bs c)).rangeAt (w.heap.size+1) 0 (bs c):=λj v n=>by
  have:=bw.1.news j v n;rwa [aN] at this
 rw [<-d] at aW dL qh bw A8;have RO:=ko (q9 w) (bw.2.1.block _ (by simp));have pB:=yh (World.rangeAt_setCells_same _ w.heap.size 0 A (by rw [qh];exact RO));have bV:=all_oneCell_toArray dL;have eR:=bN.trans (bw.2.1.mono (by omega));have jT:=yh (eR.trans ((aa.setCells (F:=λj=>j=w.heap.size) rfl A 0 _).below (λj s=>by omega) eR.size));have Kq:=bw.2.2;have k:=yh d;clear gU bw i g bN eR dL f nN d;generalize bm=Z at*;go_in;go_wp2_with (first|refine wpList_load_mid rfl 91 _ rfl (w.heap.size+1) 0 rfl A _ A8 underlying91 rfl aW ?_|refine wpList_store_mid rfl 91 _ _ rfl (w.heap.size+1) 0 A.toArray rfl rfl ?h1 ?h2 bV ?_|refine wpList_store_mid rfl 91 _ _ rfl w.heap.size 0 A.toArray rfl rfl ?h3 ?h4 bV ?_);case h1=>first|simpa using Kq|(rw [qh] at Kq;simpa using Kq)
 case h2=>simpa using aW
 case h3=>
  have e:A.toArray.size=512:=by simpa using qh
  rw [e];exact RO
 case h4=>simpa using aW
 refine bodyPost_ret (results_cell_tmp (P:=prog) rfl _ _ w.heap.size A _ _ rfl rfl pB.out underlying91 rfl aW) rfl ⟨?_,jT.out⟩;show _=Ending.returned (.tuple #[.agg (bs c).toArray,iV 0]);rw [<-k.o];rfl
def BH {m:Nat} {y:LY} {g:Bool} (hd:B.ax w F p s S cR) (D:ng w q p l m y g) (J:Ch w m ov) (R:¬F q) (b:Nat) (i:b<2048) (I:CM.get ov b=none) (r:y.home+b<s) (O:S.fuse≠0) (aU:S.puts.length+1<=4000000000000):
  Calls prog 111 #[pQ q,iV (b:Int)] w λe w'=>e= .returned (.tuple #[cV (S.now (y.home+b)),iV 0])/\B.ax w' F p s S (cR+1)/\aa F w w':=by
 have RE:=jl;have Ml:=hd.ok.hi;have bN:bW w (w.alloc (.cells bm 91)):=(bi _ w).alloc (bS _) _;have H:=(D.later bN).c7;have gU:=(J.later bN).look b i;rw [I] at gU;have sJ:(Instr.lookup 83 (.map (some m)) (iV (b:Int)) true).run prog (w.alloc (.cells bm 91))= .ok (.tuple #[.agg bm, .bool false]) (w.alloc (.cells bm 91)):=gU;have bw:=eU (w.alloc (.cells bm 91)) (bH 512);rw [World.size_alloc] at bw;have zM:=eQ (bH 512);have GC:=all_oneCell_toArray (cF (zs 512));have vv:=bw.2.2;have RP:(bs (zs 512)).toArray=bm:=rfl;obtain⟨f,ZM⟩:=bQ (bs (zs 512));rw [<-ZM] at bw zM GC vv RP;have C:f.length=512:=by rw [ZM,bs,List.length_map,bH]
 obtain⟨c,RQ⟩:=bQ (((w.alloc (.cells bm 91)).alloc (.cells bm 91)).setCells (w.heap.size+1) 0 f);have VX:bW w c:=by rw [RQ];exact bN.trans (bw.2.1.mono (by omega))
 have RR:c.there w.heap.size 0 512:=by rw [RQ];exact ko (q9 w) (bw.2.1.block _ (by simp))
 have ZN:w.heap.size<c.heap.size:=by
  have:=bw.2.1.size;rw [RQ];rw [World.size_alloc] at this;omega
 have a:=D.later VX;have G:=a.c0;have GB:=λ(wx:World) (i:bW c wx)=>GA (a.later i) b (by omega);have vw:=λ(wx:World) (i:bW c wx)=>B.zJ ((hd.later VX).later i) (y.home+b) r aU O;rw [Int.natCast_add] at vw;obtain⟨M,VY,z,x,t,iK,ZO,d⟩:=aho GB vw a RR VX hd.lt RQ (bu hd.ok (y.home+b) r);clear gU bw D J bN VX hd a GB vw RR I RQ ZM;rw [<-RP] at RE H sJ vv ZO;clear RP;go_in;go_wp2_with (refine wpList_store_mid rfl 91 _ _ rfl (w.heap.size+1) 0 f.toArray rfl rfl ?h1 ?h2 GC ?_);case h1=>first|simpa using vv|(rw [C] at vv;simpa using vv)
 case h2=>simpa using zM
 have ZP:=ZO.o;subst ZP;generalize N2:((w.alloc (.cells f.toArray 91)).alloc (.cells f.toArray 91)).setCells (w.heap.size+1) 0 f=c at*;clear N2 sJ H vv ZO;go_region_held3 (λw'=>w'.cell? (aD q 0)=some (pQ p))
  (first|exact G|exact Uy)
  (first
   |(go_at_call 156;refine(M.o _ (ai (bi _ _))).mono ?_;rintro e U ⟨rfl,Ms⟩;have Ec:=Ms.symm;subst Ec;clear Ms)
   |(go_at_call 68;refine(VY.o _ (ai (bi _ _))).mono ?_;rintro e w5 ⟨v,rfl,Q,jG,dX⟩;have Uy:=((z.o.later (ai (bi _ _))).aw dX R).c0))
 obtain⟨T,N,rfl,zN,ZQ⟩:=Q;rw [d.o] at zN⊢;obtain⟨E,K,rfl⟩:=cX zN (by omega);have Zm:=zL (some (aD E K)) N;have A8:=nD zN;have aW:=eQ d.o;have dL:=cF (S.now (y.home+b));obtain⟨A,n⟩:=bQ (bs (S.now (y.home+b)));rw [<-n] at A8 aW dL;have qh:A.length=512:=by rw [n,bs,List.length_map,d.o]
 have bV:=all_oneCell_toArray dL;have Kr:¬F w.heap.size:=λh=>by have:=iK.o _ h;omega
 have RS:=ko x.o (dX.block _ ZN Kr);have pB:=yh (World.rangeAt_setCells_same w5 w.heap.size 0 A (by rw [qh];exact RS));have ew:=aa.setCells (F:=λj=>j=w.heap.size) rfl A 0 w5;have u:=yh (jG.aw ew (λk r e=>Kr (e▸r)));obtain⟨Ur,L⟩:=bU ((((aa.ah F t.o).trans (aa.ah (λ_=>False) (ai (bi c.heap.size c))) (λ_ h=>h.elim)).trans dX (λ_ h=> .inl h)).trans ew (λk e=> .inr (by omega)):aa F w (w5.setCells w.heap.size 0 A)) n;clear jG dX zN ZQ G Uy dL ew n;go_wp2_with (first|refine wpList_load_mid rfl 91 _ rfl E K rfl A _ A8 underlying91 rfl aW ?_|refine wpList_store_mid rfl 91 _ _ rfl w.heap.size 0 A.toArray rfl rfl ?h3 ?h4 bV ?_);case h3=>
  have e:A.toArray.size=512:=by simpa using qh
  rw [e];exact RS
 case h4=>simpa using aW
 refine bodyPost_ret (results_cell_tmp (P:=prog) rfl _ _ w.heap.size A _ _ rfl rfl pB.out underlying91 rfl aW) rfl ⟨?_,u.o,Ur.o⟩;show _=Ending.returned (.tuple #[.agg (bs (S.now (y.home+b))).toArray,iV 0]);rw [<-L.o];rfl
section
structure it (w:World) (F:Nat->Prop) (p s cR q l m:Nat) (S:DS) (G:SG):Prop where
 d:B.ax w F p s S cR
 st:ng w q p l m G.y G.busy
 lp:cW w l p G.L
 ch:Ch w m G.ov
 nq:¬F q
 nl:¬F l
 nm:¬F m
 ql:q≠l
 qm:q≠m
 lm:l≠m
 lk:G.L.Ok s
 bg:G.L.begun=true
 hs:G.y.home+G.y.blocks<=s
 kb:∀x∈G.ov,x.1<G.y.blocks
abbrev BI (q n:Nat) (T:TG):Array Value:= #[pQ q, .map (some n),iV T.bad, .bool T.ended]
structure mD (w:World) (F:Nat->Prop) (q l m t n:Nat) (G:SG) (T:TG):Prop where
 tx:w.heap[t]? =some (.cells (BI q n T) 88 (0,0))
 ch:Ch w n T.puts
 nt:¬F t
 nn:¬F n
 tq:t≠q
 tl:t≠l
 tm:t≠m
 tn:t≠n
 nq:n≠q
 nl:n≠l
 nm:n≠m
 kb:∀x∈T.puts,x.1<G.y.blocks
section
variable {w w':World} {F:Nat->Prop} {p s cR q l m t n:Nat} {S:DS} {G:SG} {T:TG}
def it.later (h:it w F p s cR q l m S G) (a:bW w w'):it w' F p s cR q l m S G:=
   ⟨h.d.later a,h.st.later a,h.lp.later a,h.ch.later a,h.nq,h.nl,h.nm,h.ql,h.qm,h.lm,h.lk,h.bg,h.hs,h.kb⟩
def mD.later (h:mD w F q l m t n G T) (a:bW w w'):mD w' F q l m t n G T:=
   ⟨(a.block t (aq h.tx)).trans h.tx,h.ch.later a,h.nt,h.nn,h.tq,h.tl,h.tm,h.tn,h.nq,h.nl,h.nm,h.kb⟩
def it.asked {c':Nat} (h:it w F p s cR q l m S G) (hd:B.ax w' F p s S c') (a:aa F w w'):it w' F p s c' q l m S G:=
   ⟨hd,h.st.aw a h.nq,h.lp.aw a h.nl,h.ch.aw a h.nm,h.nq,h.nl,h.nm,h.ql,h.qm,h.lm,h.lk,h.bg,h.hs,h.kb⟩
def mD.asked (h:mD w F q l m t n G T) (a:aa F w w'):mD w' F q l m t n G T:=
   ⟨(a.block t (aq h.tx) h.nt).trans h.tx,h.ch.aw a h.nn,h.nt,h.nn,h.tq,h.tl,h.tm,h.tn,h.nq,h.nl,h.nm,h.kb⟩
def mD.c0 (h:mD w F q l m t n G T):w.cell? (aD t 0)=some (pQ q):=aM h.tx
def mD.c1 (h:mD w F q l m t n G T):w.cell? (aD t 1)=some (.map (some n)):=bG h.tx
def mD.c2 (h:mD w F q l m t n G T):w.cell? (aD t 2)=some (iV T.bad):=bK h.tx
def mD.c3 (h:mD w F q l m t n G T):w.cell? (aD t 3)=some (.bool T.ended):=fQ h.tx
def it.dead (h:it w F p s cR q l m S G):Calls prog 47 #[pQ q] w λe w'=>e= .returned (.bool (G.L.dead S))/\bW w w':=N3 h.d h.st h.lp h.lk h.bg
def GD (h:it w F p s cR q l m S G) (c:mD w F q l m t n G T):
  Calls prog 134 #[pQ t] w λe w'=>e= .returned (iV (T.bT G S))/\bW w w':=by
 have a:=h.dead;have f:=c.c0;unfold TG.bT;go_in;cases hd:G.L.dead S
 .rw [hd] at a;rw [aB (by decide)];cases d:T.ended
  .rw [aB (by decide)];go_wp2_with fail;refine bM a λw1 ar=>?_;have b:=(c.later ar).c3;rw [d] at b;go_wp2;go_ret;exact⟨rfl,ar⟩
  .rw [aG rfl];go_wp2_with fail;refine bM a λw1 ar=>?_;have b:=(c.later ar).c3;rw [d] at b;go_wp2;go_ret;exact⟨rfl,ar⟩
 .rw [hd] at a;rw [aG rfl];go_wp2_with fail;refine bM a λw1 ar=>?_;go_wp2;go_ret;exact⟨rfl,ar⟩
def nO (h:it w F p s cR q l m S G) (b:mD w F q l m t n G T):
  Calls prog 81 #[pQ t] w λe w'=>e= .returned (iV (T.state G S))/\bW w w':=by
 have a:=GD h b;unfold TG.state;generalize T.bT G S=E at*;go_in;by_cases k:E=0
 .have d:(E != 0)=false:=by rw [k];rfl
  rw [aB (λh=>h k)];go_wp2_with fail;refine bM a λw1 ar=>?_;have c:=(b.later ar).c2;go_wp2;go_ret;exact⟨rfl,ar⟩
 .have d:(E != 0)=true:=by rw [gA];exact k
  rw [aG k];go_wp2_with fail;refine bM a λw1 ar=>?_;go_wp2;go_ret;exact⟨rfl,ar⟩
def zO (h:it w F p s cR q l m S G) (c:mD w F q l m t n G T) (b:Int):
  Calls prog 48 #[pQ t,iV b] w λe w'=>e= .returned (iV (T.refusal G S b))/\bW w w':=by
 have a:=nO h c;have f:=h.st;unfold TG.refusal;generalize T.state G S=E at*;go_in;by_cases k:E=0
 .have d:(E != 0)=false:=by rw [k];rfl
  rw [aB (λh=>h k)];by_cases g:b<0
  .rw [aG (.inl g)];go_wp2_with fail;refine bM a λw1 ar=>?_;go_wp2;go_ret;exact⟨rfl,ar⟩
  .by_cases i:(G.y.blocks:Int)<=b
   .rw [aG (.inr i)];go_wp2_with fail;refine bM a λw1 ar=>?_;have j:=(c.later ar).c0;have o:=(f.later ar).c4;go_wp2;go_ret;exact⟨rfl,ar⟩
   .rw [aB (λh=>h.elim g i)];go_wp2_with fail;refine bM a λw1 ar=>?_;have j:=(c.later ar).c0;have o:=(f.later ar).c4;go_wp2;go_ret;exact⟨rfl,ar⟩
 .have d:(E != 0)=true:=by rw [gA];exact k
  rw [aG k];go_wp2_with fail;refine bM a λw1 ar=>?_;go_wp2;go_ret;exact⟨rfl,ar⟩
end
end
def rR {m:Nat} {G:SG} (h:it w F p s cR q l m S G) (b:Nat) (g:b<G.y.blocks) (f:S.fuse≠0) (aU:S.puts.length+1<=4000000000000):
  Calls prog 111 #[pQ q,iV (b:Int)] w λe w'=>e= .returned (.tuple #[cV (G.block S b),iV 0])/\B.ax w' F p s S (cR+1)/\aa F w w':=by
 have i:=h.hs;have Ml:=h.d.ok.hi;unfold SG.block;cases a:CM.get G.ov b with
 |none=>
  rw [Option.getD_none];exact BH h.d h.st h.ch h.nq b (by omega) a (by omega) f aU
 |some c=>
  rw [Option.getD_some];refine(Ed h.st h.ch b a).mono ?_;rintro e w' ⟨rfl,eH⟩;exact⟨rfl,(h.d.later eH).le (by omega),aa.ah F eH⟩
def vx {m:Nat} {G:SG} (h:it w F p s cR q l m S G) (b:Nat) (e:b<G.y.blocks):(G.block S b).length=512:=by
 have f:=h.hs;unfold SG.block;cases a:CM.get G.ov b with
 |none=>rw [Option.getD_none];exact bu h.d.ok _ (by omega)
 |some c=>rw [Option.getD_some];exact(h.ch.len _ (CM.get_mem a)).2.1
def zP {m t:Nat} {G:SG} {T:TG} (h:it w F p s cR q l m S G) (e:mD w F q l m t n G T) (b:Nat) (a:b<G.y.blocks):(T.jY G S b).length=512:=by
 unfold TG.jY;cases d:CM.get T.puts b with
 |none=>rw [Option.getD_none];exact vx h b a
 |some c=>rw [Option.getD_some];exact(e.ch.len _ (CM.get_mem d)).2.1
def VZ {m t:Nat} {G:SG} {T:TG} (g:mD w F q l m t n G T) (b:Nat) {c:List Int} (d:CM.get T.puts b=some c):
  Calls prog 49 #[pQ t,iV (b:Int)] w λe w'=>e= .returned (.tuple #[cV c,iV 0])/\bW w w':=by
 have f:=g.ch;have nN:=f.len _ (CM.get_mem d);have RE:=jl;have bN:bW w (w.alloc (.cells bm 91)):=(bi _ w).alloc (bS _) _;have p:=(g.later bN).c1;have gU:=(f.later bN).look b nN.1;rw [d] at gU;have bw:=eU (w.alloc (.cells bm 91)) nN.2.1;rw [World.size_alloc] at bw;have aW:=eQ nN.2.1;have dL:=cF c;have qh:(bs c).length=512:=by rw [bs,List.length_map,nN.2.1]
 obtain⟨A,a⟩:=bQ (bs c);have sJ:(Instr.lookup 83 (.map (some n)) (iV (b:Int)) true).run prog (w.alloc (.cells bm 91))= .ok (.tuple #[.agg A.toArray, .bool true]) (w.alloc (.cells bm 91)):=by rw [a];exact gU
 have A8:(((w.alloc (.cells bm 91)).alloc (.cells bm 91)).setCells (w.heap.size+1) 0 (bs c)).rangeAt (w.heap.size+1) 0 (bs c):=λj v k=>by
  have:=bw.1.news j v k;rwa [aN] at this
 rw [<-a] at aW dL qh bw A8;have RO:=ko (q9 w) (bw.2.1.block _ (by simp));have pB:=yh (World.rangeAt_setCells_same _ w.heap.size 0 A (by rw [qh];exact RO));have bV:=all_oneCell_toArray dL;have eR:=bN.trans (bw.2.1.mono (by omega));have jT:=yh (eR.trans ((aa.setCells (F:=λj=>j=w.heap.size) rfl A 0 _).below (λj r=>by omega) eR.size));have Kq:=bw.2.2;have i:=yh a;clear gU bw g f bN eR dL d nN a;generalize bm=Z at*;go_in;go_wp2_with (first|refine wpList_load_mid rfl 91 _ rfl (w.heap.size+1) 0 rfl A _ A8 underlying91 rfl aW ?_|refine wpList_store_mid rfl 91 _ _ rfl (w.heap.size+1) 0 A.toArray rfl rfl ?h1 ?h2 bV ?_|refine wpList_store_mid rfl 91 _ _ rfl w.heap.size 0 A.toArray rfl rfl ?h3 ?h4 bV ?_);case h1=>first|simpa using Kq|(rw [qh] at Kq;simpa using Kq)
 case h2=>simpa using aW
 case h3=>
  have e:A.toArray.size=512:=by simpa using qh
  rw [e];exact RO
 case h4=>simpa using aW
 refine bodyPost_ret (results_cell_tmp (P:=prog) rfl _ _ w.heap.size A _ _ rfl rfl pB.out underlying91 rfl aW) rfl ⟨?_,jT.out⟩;show _=Ending.returned (.tuple #[.agg (bs c).toArray,iV 0]);rw [<-i.o];rfl
def RT {m t:Nat} {G:SG} {T:TG} (h:it w F p s cR q l m S G) (g:mD w F q l m t n G T) (b:Nat) (C:b<G.y.blocks) (D:CM.get T.puts b=none) (I:S.fuse≠0) (aU:S.puts.length+1<=4000000000000):
  Calls prog 49 #[pQ t,iV (b:Int)] w λe w'=>e= .returned (.tuple #[cV (G.block S b),iV 0])/\B.ax w' F p s S (cR+1)/\aa F w w':=by
 obtain⟨RE,Ml,XU⟩:=kE jl h.d.ok.hi h.hs;have bN:bW w (w.alloc (.cells bm 91)):=(bi _ w).alloc (bS _) _;have z:=(g.later bN).c1;have gU:=(g.ch.later bN).look b (by omega);rw [D] at gU;have sJ:(Instr.lookup 83 (.map (some n)) (iV (b:Int)) true).run prog (w.alloc (.cells bm 91))= .ok (.tuple #[.agg bm, .bool false]) (w.alloc (.cells bm 91)):=gU;have bw:=eU (w.alloc (.cells bm 91)) (bH 512);rw [World.size_alloc] at bw;have zM:=eQ (bH 512);have GC:=all_oneCell_toArray (cF (zs 512));have vv:=bw.2.2;have RP:(bs (zs 512)).toArray=bm:=rfl;obtain⟨a,ZM⟩:=bQ (bs (zs 512));rw [<-ZM] at bw zM GC vv RP;have x:a.length=512:=by rw [ZM,bs,List.length_map,bH]
 obtain⟨i,RQ⟩:=bQ (((w.alloc (.cells bm 91)).alloc (.cells bm 91)).setCells (w.heap.size+1) 0 a);have VX:bW w i:=by rw [RQ];exact bN.trans (bw.2.1.mono (by omega))
 have RR:i.there w.heap.size 0 512:=by rw [RQ];exact ko (q9 w) (bw.2.1.block _ (by simp))
 have ZN:w.heap.size<i.heap.size:=by
  have:=bw.2.1.size;rw [RQ];rw [World.size_alloc] at this;omega
 obtain⟨H,Ee,v,r,iK,ZO,c⟩:=nw ((g.later VX).c0) (rR (h.later VX) b C I aU) (yh RR) (yh VX) (yh h.d.lt) (yh RQ) (yh (vx h b C));clear gU bw g bN VX h RR D RQ ZM;rw [<-RP] at RE z sJ vv ZO;clear RP;go_in
 go_upto_region 4 with (refine wpList_store_mid rfl 91 _ _ rfl (w.heap.size+1) 0 a.toArray rfl rfl ?h1 ?h2 GC ?_)
 case h1=>first|simpa using vv|(rw [x] at vv;simpa using vv)
 case h2=>simpa using zM
 have ZP:=ZO.o;subst ZP;generalize N2:((w.alloc (.cells a.toArray 91)).alloc (.cells a.toArray 91)).setCells (w.heap.size+1) 0 a=i at*;clear N2 sJ z vv ZO;obtain⟨A,f⟩:=bQ (bs (G.block S b));have aW:=eQ c.o;have dL:=cF (G.block S b);unfold cV at Ee;rw [<-f] at aW dL Ee;have qh:A.length=512:=by rw [f,bs,List.length_map,c.o]
 have bV:=all_oneCell_toArray dL;have E:=yh f;clear dL f;go_wp2_with fail;refine fR Ee λw5 jG dX=>?_;have Kr:¬F w.heap.size:=λh=>by have:=iK.o _ h;omega
 have RS:=ko v.o (dX.block _ ZN Kr);have pB:=yh (World.rangeAt_setCells_same w5 w.heap.size 0 A (by rw [qh];exact RS));have ew:=aa.setCells (F:=λj=>j=w.heap.size) rfl A 0 w5;have u:=yh (jG.aw ew (λk J e=>Kr (e▸J)));have Ur:=yh (((aa.ah F r.o).trans dX (λ_ h=> .inl h)).trans ew (λk e=> .inr (by omega)):aa F w (w5.setCells w.heap.size 0 A));clear jG dX H ew Ee;go_wp2_with (refine wpList_store_mid rfl 91 _ _ rfl w.heap.size 0 A.toArray rfl rfl ?h3 ?h4 bV ?_);case h3=>
  have e:A.toArray.size=512:=by simpa using qh
  rw [e];exact RS
 case h4=>simpa using aW
 refine bodyPost_ret (results_cell_tmp (P:=prog) rfl _ _ w.heap.size A _ _ rfl rfl pB.out underlying91 rfl aW) rfl ⟨?_,u.o,Ur.o⟩;show _=Ending.returned (.tuple #[.agg (bs (G.block S b)).toArray,iV 0]);rw [<-E.o];rfl
def GE {m t:Nat} {G:SG} {T:TG} (h:it w F p s cR q l m S G) (f:mD w F q l m t n G T) (b:Nat) (g:b<G.y.blocks) (i:S.fuse≠0) (aU:S.puts.length+1<=4000000000000):
  Calls prog 49 #[pQ t,iV (b:Int)] w λe w'=>e= .returned (.tuple #[cV (T.jY G S b),iV 0])/\B.ax w' F p s S (cR+1)/\aa F w w':=by
 unfold TG.jY;cases a:CM.get T.puts b with
 |none=>
  rw [Option.getD_none];exact RT h f b g a i aU
 |some c=>
  rw [Option.getD_some];refine(VZ f b a).mono ?_;rintro e w' ⟨rfl,eH⟩;exact⟨rfl,(h.d.later eH).le (by omega),aa.ah F eH⟩
section
def TG.mE (T:TG) (G:SG) (S:DS) (x:Int):Int×TG:=
 if T.state G S≠0 then (T.state G S,T) else if x=6\/x=50\/x=60\/x=61 then (x,{T with bad:=x}) else (1,T)
def TG.close (T:TG):TG:={T with puts:= [],ended:=true}
def TG.abort (T:TG) (G:SG) (S:DS):Int×TG×SG:=if T.bT G S≠0 then (T.bT G S,T,G) else (0,T.close,{G with busy:=false})
section
variable {w w':World} {F:Nat->Prop} {p s cR q l m t n:Nat} {S:DS} {G:SG} {T:TG}
def CO (h:it w F p s cR q l m S G) (u:mD w F q l m t n G T) (x:Int):
  Calls prog 83 #[pQ t,iV x] w λe w'=>e= .returned (iV (T.mE G S x).1)/\w'.heap[t]? =some (.cells (BI q n (T.mE G S x).2) 88 (0,0))/\aa (λk=>k=t) w w':=by
 have i:=nO h u;have a:=u;unfold TG.mE;generalize T.state G S=E at*;go_in;by_cases k:E=0
 .have d:(E != 0)=false:=by rw [k];rfl
  rw [aB (λh=>h k)];have b:∀(w1:World),bW w w1->(w1.setCell ⟨t,2,none⟩ (.int .i64 x)).heap[t]? =some (.cells (BI q n {T with bad:=x}) 88 (0,0))/\aa (λk=>k=t) w (w1.setCell ⟨t,2,none⟩ (.int .i64 x)):=λw1 ar=>
     ⟨(heap_setCell_same _ _ 2 _ _ _ (a.later ar).tx).trans (by simp [BI]),(aa.ah (λk=>k=t) ar).trans (aL (F:=λk=>k=t) w1 rfl 2 _) (λ_ h=> .inl h)⟩
  by_cases r:x=6
  .subst r;rw [aG (.inl rfl)];go_wp2_with fail;refine bM i λw1 ar=>?_;have j:=(a.later ar).c2;have o:=ae (a.later ar).tx 2;go_wp2;go_ret;exact⟨rfl,b w1 ar⟩
  .have A:(x == 6)=false:=(by rw [fJ];exact r);by_cases c:x=50
   .subst c;rw [aG (.inr (.inl rfl))];go_wp2_with fail;refine bM i λw1 ar=>?_;have j:=(a.later ar).c2;have o:=ae (a.later ar).tx 2;go_wp2;go_ret;exact⟨rfl,b w1 ar⟩
   .have v:(x == 50)=false:=(by rw [fJ];exact c);by_cases f:x=60
    .subst f;rw [aG (.inr (.inr (.inl rfl)))];go_wp2_with fail;refine bM i λw1 ar=>?_;have j:=(a.later ar).c2;have o:=ae (a.later ar).tx 2;go_wp2;go_ret;exact⟨rfl,b w1 ar⟩
    .have y:(x == 60)=false:=(by rw [fJ];exact f);by_cases g:x=61
     .subst g;rw [aG (.inr (.inr (.inr rfl)))];go_wp2_with fail;refine bM i λw1 ar=>?_;have j:=(a.later ar).c2;have o:=ae (a.later ar).tx 2;go_wp2;go_ret;exact⟨rfl,b w1 ar⟩
     .have z:(x == 61)=false:=(by rw [fJ];exact g);rw [aB (λh=>h.elim r (λh=>h.elim c (λh=>h.elim f g)))];go_wp2_with fail;refine bM i λw1 ar=>?_;go_wp2;go_ret;exact⟨rfl,aH (a.later ar).tx (aa.ah (λk=>k=t) ar)⟩
 .have d:(E != 0)=true:=by rw [gA];exact k
  rw [aG k];go_wp2_with fail;refine bM i λw1 ar=>?_;go_wp2;go_ret;exact⟨rfl,aH (a.later ar).tx (aa.ah (λk=>k=t) ar)⟩
def Mt (h:ng w q p l m G.y G.busy) (b:mD w F q l m t n G T):
  Calls prog 137 #[pQ t] w λe w'=>e= .returned (.tuple #[])/\w'.heap[t]? =some (.cells (BI q n T.close) 88 (0,0))/\Ch w' n []/\ng w' q p l m G.y false/\aa (λk=>k=t\/k=n\/k=q) w w':=by
 obtain⟨a,yw,nh,Bb,eE⟩:=b.ch.qK;have o:=b.c1;have g:=(Bb.block t (aq b.tx) (λe=>b.tn e)).trans b.tx;have s1:=h.aw Bb (λe=>b.nq e.symm);have r:a.cell? (aD t 3)=some (.bool T.ended):=fQ g;have v:=ae g 3;have c:q≠t:=λe=>b.tq e.symm;have i:(a.setCell ⟨t,3,none⟩ (.bool true)).heap[t]? =some (.cells #[.pointer (some ⟨q,0,none⟩), .map (some n), .int .i64 T.bad, .bool true] 88 (0,0)):=(heap_setCell_same _ _ 3 _ _ _ g).trans (by simp [BI]);have d:=aL (F:=λk=>k=t) a rfl 3 (.bool true);have s2:=s1.aw d c;have s:(a.setCell ⟨t,3,none⟩ (.bool true)).cell? (aD t 0)=some (pQ q):=aM i;have u:=s2.c8;have x:=ae s2 8;have f:=aL (F:=λk=>k=q) (a.setCell ⟨t,3,none⟩ (.bool true)) rfl 8 (.bool false);have s3:ng ((a.setCell ⟨t,3,none⟩ (.bool true)).setCell ⟨q,8,none⟩ (.bool false)) q p l m G.y false:=(heap_setCell_same _ _ 8 _ _ _ s2).trans (by simp [Pr]);have j:(((a.setCell ⟨t,3,none⟩ (.bool true)).setCell ⟨q,8,none⟩ (.bool false)).heap[t]? =some (.cells (BI q n T.close) 88 (0,0))/\Ch ((a.setCell ⟨t,3,none⟩ (.bool true)).setCell ⟨q,8,none⟩ (.bool false)) n []/\ng ((a.setCell ⟨t,3,none⟩ (.bool true)).setCell ⟨q,8,none⟩ (.bool false)) q p l m G.y false/\aa (λk=>k=t\/k=n\/k=q) w ((a.setCell ⟨t,3,none⟩ (.bool true)).setCell ⟨q,8,none⟩ (.bool false))):=by
  refine⟨(f.block t (aq i) (λe=>c e.symm)).trans i,(nh.aw d (λe=>b.tn e.symm)).aw f b.nq,s3,?_⟩;exact((Bb.mono (λ_ e=> .inr (.inl e))).trans d (λ_ e=> .inl (.inl e))).trans f (λ_ e=> .inl (.inr (.inr e)))
 go_in;go_wp2
 go_end0
 exact⟨rfl,j⟩
def N5 (h:it w F p s cR q l m S G) (f:mD w F q l m t n G T):
  Calls prog 87 #[pQ t] w λe w'=>e= .returned (iV (T.abort G S).1)/\w'.heap[t]? =some (.cells (BI q n (T.abort G S).2.1) 88 (0,0))/\Ch w' n (T.abort G S).2.1.puts/\ng w' q p l m G.y (T.abort G S).2.2.busy/\aa (λk=>k=t\/k=n\/k=q) w w':=by
 have c:=GD h f;have a:=f;have b:=h.st;unfold TG.abort;generalize T.bT G S=E at*;go_in;by_cases k:E=0
 .have d:(E != 0)=false:=by rw [k];rfl
  rw [aB (λh=>h k)];go_wp2_with fail;refine bM c λw1 ar=>?_;go_wp2_with fail;refine(Mt (b.later ar) (a.later ar)).mono ?_;rintro e r ⟨rfl,g,i,j,o⟩;go_wp2;go_ret;exact⟨rfl,(aH g (aH i (aH j ((aa.ah (λk=>k=t\/k=n\/k=q) ar).trans o (λ_ h=> .inl h)))))⟩
 .have d:(E != 0)=true:=by rw [gA];exact k
  rw [aG k];go_wp2_with fail;refine bM c λw1 ar=>?_;go_wp2;go_ret;exact⟨rfl,(aH (a.later ar).tx (aH (a.later ar).ch (aH (b.later ar) (aa.ah (λk=>k=t\/k=n\/k=q) ar))))⟩
def SG.begin (G:SG) (S:DS):Int:=if G.L.dead S=true then 3 else if G.busy=true then 5 else 0
def sK (w w':World) (q p l m:Nat) (y:LY) (busy:Bool) (code:Int) (e:Ending):Prop:=
 if code≠0 then e= .returned (.tuple #[.pointer none,iV code])/\ng w' q p l m y busy/\bW w w'
 else∃t n,e= .returned (.tuple #[pQ t,iV 0])/\w.heap.size<=n/\w.heap.size<=t/\t≠n/\w'.heap[t]? =some (.cells (BI q n ⟨[],0,false⟩) 88 (0,0))/\Ch w' n []/\ng w' q p l m y true/\aa (λk=>k=q) w w'
def sL (h:it w F p s cR q l m S G):
  Calls prog 14 #[pQ q] w λe w'=>sK w w' q p l m G.y G.busy (G.begin S) e:=by
 have b:=h.dead;have f:=h.st;unfold SG.begin;go_in;cases hd:G.L.dead S
 .rw [hd] at b;rw [aB (by decide)];cases i:G.busy
  .rw [aB (by decide)];go_wp2_with fail;refine bM b λw1 ar=>?_;have eh:=f.later ar;rw [i] at eh;have o:=eh.c8;have t:=ae eh 8;have r:=aL (F:=λk=>k=q) w1 rfl 8 (.bool true);have s3:ng (w1.setCell ⟨q,8,none⟩ (.bool true)) q p l m G.y true:=(heap_setCell_same _ _ 8 _ _ _ eh).trans (by simp [Pr]);have j:(w1.setCell ⟨q,8,none⟩ (.bool true)).heap.size=w1.heap.size:=(by simp [World.setCell]);have aiq:=ar.size;have g:=Ch.made (w1.setCell ⟨q,8,none⟩ (.bool true));rw [j] at g;obtain⟨a,UA⟩:=bQ ((w1.setCell ⟨q,8,none⟩ (.bool true)).alloc (.map #[] 0));rw [<-UA] at g;have c:Below (w1.setCell ⟨q,8,none⟩ (.bool true)).heap.size (w1.setCell ⟨q,8,none⟩ (.bool true)) a:=(by rw [UA];exact aJ _ _);have d:a.heap.size=w1.heap.size+1:=(by rw [UA,World.size_alloc,j]);have iq:=aJ a (.cells (BI q w1.heap.size ⟨[],0,false⟩) 88);have n:((a.alloc (.cells (BI q w1.heap.size ⟨[],0,false⟩) 88)).heap[w1.heap.size+1]? =some (.cells (BI q w1.heap.size ⟨[],0,false⟩) 88 (0,0))/\Ch (a.alloc (.cells (BI q w1.heap.size ⟨[],0,false⟩) 88)) w1.heap.size []/\ng (a.alloc (.cells (BI q w1.heap.size ⟨[],0,false⟩) 88)) q p l m G.y true/\aa (λk=>k=q) w (a.alloc (.cells (BI q w1.heap.size ⟨[],0,false⟩) 88))):=by
    refine⟨by rw [<-d];exact heap_alloc_new _ _,g.later iq,(s3.later c).later iq,?_⟩;exact(((aa.ah (λk=>k=q) ar).trans r (λ_ h=> .inl h)).trans (aa.ah (λ_=>False) c) (λ_ h=>h.elim)).trans (aa.ah (λ_=>False) iq) (λ_ h=>h.elim)
   have B4:= @run_makeMap prog;go_wp2;rw [<-UA];go_ret2;unfold sK;rw [aB (λh=>h rfl)];refine⟨w1.heap.size+1,w1.heap.size,?_,aiq,by omega,by omega,n⟩;first|rfl|(rw [d];rfl)
  .rw [aG rfl];go_wp2_with fail;refine bM b λw1 ar=>?_;have eh:=f.later ar;rw [i] at eh;have o:=eh.c8;go_wp2;go_ret2;unfold sK;rw [aG (by decide)];exact⟨rfl,aH eh ar⟩
 .rw [hd] at b;rw [aG rfl];go_wp2_with fail;refine bM b λw1 ar=>?_;go_wp2;go_ret2;unfold sK;rw [aG (by decide)];exact⟨rfl,aH (f.later ar) ar⟩
end
end
section
def vy (w w':World) (code:Int) (c:List Int) (e:Ending):Prop:=
 if code≠0 then e= .returned (.tuple #[.slice none 0 0,iV code])
 else∃g,e= .returned (.tuple #[.slice (some (aD g 0)) 512 512,iV 0])/\w.heap.size<=g/\j8 w' 91 g c
section
variable {w w':World} {F:Nat->Prop} {p s cR q l m t n:Nat} {S:DS} {G:SG} {T:TG}
def iW {b:Int} (h:T.refusal G S b=0):G.L.dead S=false/\T.ended=false/\T.bad=0/\0<=b/\b<(G.y.blocks:Int):=by
 unfold TG.refusal TG.state TG.bT at h;cases hd:G.L.dead S
 .cases c:T.ended
  .rw [hd,c] at h;simp only [Bool.false_eq_true,if_false,ne_eq,not_true_eq_false] at h;split at h
   .rename_i a;exact absurd h a
   .rename_i a;split at h
    .omega
    .refine⟨rfl,rfl,?_,by omega,by omega⟩;exact Decidable.byContradiction a
  .rw [hd,c] at h;simp at h
 .rw [hd] at h;simp at h
def vz (h:L.dead S=false):S.fuse≠0:=λe=>by
 unfold LG.dead at h;rw [show (S.fuse == 0)=true by rw [beq_iff_eq];exact e] at h;simp at h
def Ef (h:it w F p s cR q l m S G) (f:mD w F q l m t n G T) (b:Int) (aU:S.puts.length+1<=4000000000000):
  Calls prog 15 #[pQ t,iV b] w λe w'=>vy w w' (T.refusal G S b) (T.jY G S b.toNat) e/\B.ax w' F p s S (cR+1)/\aa F w w':=by
 have h1:=zO h f b;go_in;by_cases k:T.refusal G S b=0
 .obtain⟨u,C,D,H,I⟩:=iW k;obtain⟨b,rfl⟩:∃b':Nat,b=(b':Int):=⟨b.toNat,by omega⟩;have r:b<G.y.blocks:=by omega
  have a:=zP h f b r;rw [k] at h1;obtain⟨x,z,j,RE,Fj⟩:=eK h f k jl (vz u);clear h f k u C D H I;go_wp2_with fail;refine bM h1 λw1 ar=>?_;have h2:=GE (x.later ar) (z.later ar) b r Fj aU;have g:=ar;have dC:=ar.size;unfold cV at h2;obtain⟨A,i⟩:=bQ (bs (T.jY G S b));rw [<-i] at h2;clear h1 ar;go_wp2_with fail;refine fR h2 λc cI aY=>?_;have bw:=eU c a;have aW:=eQ a;have dL:=cF (T.jY G S b);rw [<-i] at bw aW dL;have qh:A.length=512:=by rw [i,bs,List.length_map,a]
  have bV:=all_oneCell_toArray dL;have ef:=bw.2.2;have eu:=aY.size;have o:(j8 ((c.alloc (.cells bm 91)).setCells c.heap.size 0 A) 91 c.heap.size (T.jY G S b)/\B.ax ((c.alloc (.cells bm 91)).setCells c.heap.size 0 A) F p s S (cR+1)/\aa F w ((c.alloc (.cells bm 91)).setCells c.heap.size 0 A)):=⟨bw.1,cI.later bw.2.1,((aa.ah F g).trans aY (λ_ h=> .inl h)).trans (aa.ah (λ_=>False) bw.2.1) (λ_ h=>h.elim)⟩;clear h2 cI aY bw dL i;generalize bm=Z at*;go_wp2_with (refine wpList_store_mid rfl 91 _ _ rfl c.heap.size 0 A.toArray rfl rfl ?h1 ?h2 bV ?_);case h1=>first|simpa using ef|(rw [qh] at ef;simpa using ef)
  case h2=>simpa using aW
  go_ret2;refine⟨?_,o.2⟩;unfold vy;rw [aB (λh=>h j)];exact⟨c.heap.size,rfl,by omega,o.1⟩
 .have d:(T.refusal G S b != 0)=true:=by rw [gA];exact k
  have v:=h.d;have j:=k;clear h f k;generalize T.refusal G S b=E at*;go_wp2_with fail;refine bM h1 λw1 ar=>?_;have g:=ar;clear h1 ar;go_wp2;go_ret2;refine⟨?_,(v.later g).le (by omega),aa.ah F g⟩;unfold vy;rw [aG j];rfl
end
end
end Go.Proofs.YtcpdggdfihjhoabGreat
