import Derived.Test.YtenlkgicpllbhaaGreatW01
import Derived.Test.YtenlkgicpllbhaaGreatW02
import Derived.Test.YtenlkgicpllbhaaGreatW04
import Derived.Test.YtenlkgicpllbhaaGreatW09
set_option maxRecDepth 20000
set_option maxHeartbeats 8000000
set_option linter.all false
namespace Go.Proofs.YtenlkgicpllbhaaGreat
open Go.Proofs.Tryz
open Go.RowKit Go.Maps
variable {S:DS} {im:List Int} {ks:List Nat} {l:List P3} {ls vs xs ys:List Value} {c cl g gl i k p s:Nat} {F G:Nat->Prop} {v:Value} {w w' w0 w1 w2 w5:World}
theorem ay.stored {e:TypeId} (h:ay w e g c xs) (k:Nat) (v:Value):ay (w.setCell ⟨g,k,none⟩ v) e g c (xs.set k v):=by
 obtain⟨cur,a,b,f,d⟩:=h;refine⟨_,heap_setCell_same _ _ _ _ _ _ a,by simpa using b,?_,d⟩;rw [List.length_set,Array.toList_setIfInBounds,List.take_set,f]
theorem cu.stored {r:Nat} {o:Value} (h:cu w F r s S gl cl ls o xs) (A:k<s) {l:List Int} (t:F g) (y:ay w 5 g c (bs l)) (x:im.length=s*512)
    (z:∀j,j<s->bI im j=if j=k then l else bI S.im j):
  cu (w.setCell ⟨gl,k,none⟩ (.slice (some ⟨g,0,none⟩) 512 c)) F r s {S with im:=im} gl cl (ls.set k (.slice (some (aD g 0)) 512 c)) o xs/\aa (λb=>b=gl) w (w.setCell ⟨gl,k,none⟩ (.slice (some ⟨g,0,none⟩) 512 c)):=by
 have LJ:aa (λb=>b=gl) w (w.setCell ⟨gl,k,none⟩ (.slice (some ⟨g,0,none⟩) 512 c)):=aa.setCell (F:=λb=>b=gl) w (p:=(aD gl k)) rfl _;obtain⟨cur,kv,_⟩:=h.last;refine⟨⟨h.fr,h.fl,λb u=>iP (h.lt b u) LJ.size,(LJ.block r (h.lt r h.fr) (λe=>h.last.ne h.dj (by decide) e.symm)).trans h.dj,h.last.stored k _,by rw [List.length_set];exact h.J6,λj n=>?_,
  aC h.db (λb e=>LJ.block b (h.lt b (h.Pe b e)) (dR h.db e kv (by decide))),h.Pe,λi v=>?_,⟨x,h.ok.lo,h.ok.hi,h.ok.puts,h.ok.fuse⟩⟩,LJ⟩
 .simp only [z j n];by_cases e:j=k
  .subst e;rw [aE rfl];exact⟨g,c,by rw [List.getElem?_set_self (by rw [h.J6];exact n)],t,y.other LJ kv (by decide)⟩
  .rw [aA e];obtain⟨m,c',a,d,f⟩:=h.zl j n;exact⟨m,c',by rw [List.getElem?_set_ne (by omega)];exact a,d,f.other LJ kv (by decide)⟩
 .obtain⟨m,c',a,d,f,q⟩:=h.puts i v;exact⟨m,c',a,d,f,q.other LJ kv (by decide)⟩
def zq (S:DS) (s i:Nat):List Int:=pj s (DS.now {S with puts:=S.puts.take i})
theorem xG (h:S.Ok s) (i:Nat):DS.Ok {S with puts:=S.puts.take i} s:=⟨h.len,h.lo,h.hi,λq a=>h.puts q (List.mem_of_mem_take a),h.fuse⟩
theorem Gn (h:S.Ok s) (i:Nat):(zq S s i).length=s*512:=pk s _ (br (xG h i))
theorem ND (h:S.Ok s):zq S s 0=S.im:=by
 refine Dl s (Gn h 0) h.len (λk a=>?_);unfold zq;rw [nw s _ (br (xG h 0)) k a];exact tj _ _ (by simp [ar])
theorem Rf:zq S s S.puts.length=pj s S.now:=by
 unfold zq;rw [List.take_length]
theorem NE (h:S.Ok s) (c:i<S.puts.length):∀j,j<s->bI (zq S s (i+1)) j=if j=S.puts[i].1 then S.puts[i].2 else bI (zq S s i) j:=λj a=>by
 unfold zq;rw [nw s _ (br (xG h (i+1))) j a,nw s _ (br (xG h i)) j a];have b:S.puts.take (i+1)=S.puts.take i ++ [S.puts[i]]:=by rw [List.take_add_one,List.getElem?_eq_getElem c];rfl
 by_cases e:j=S.puts[i].1
 .rw [aE e];unfold DS.now DS.gB;simp only [b];rw [fh];simp [ar,e,List.getD]
 .rw [aA e];have d:ar (S.puts.take (i+1)) j=ar (S.puts.take i) j:=by
   rw [b,fh,kH (puts:= [S.puts[i]]) (by simp;omega),List.append_nil]
  unfold DS.now DS.gB;simp only [d]
theorem Gp {r:Nat} (h:aB w F r s S) (d:S.fuse=0):
  Calls prog 65 #[pQ r] w λe w'=>e= .returned (iV 3)/\w'=w:=by
 obtain⟨c,b,f,g,xs,h⟩:=h;have a:=bH h.dj;go_in;go_wp2;go_ret;exact⟨rfl,rfl⟩
theorem cu.dropped {r:Nat} {l:Value} (h:cu w F r s S gl cl ls l xs):
  cu (w.setCell ⟨r,1,none⟩ (.slice none 0 0)) F r s {S with puts:= []} gl cl ls (.slice none 0 0) []/\aa (λk=>k=r) w (w.setCell ⟨r,1,none⟩ (.slice none 0 0)):=by
 have a:=(h.set 1 (.slice none 0 0)).2;refine⟨⟨h.fr,h.fl,λb g=>iP (h.lt b g) a.size,(h.set 1 _).1.trans (by simp [bG]),h.last.other a h.dj (by decide),h.J6,λj i=>?_,World.ownsRow_nil _ _ _ _,by simp [Value.ownBlock],by simp,⟨h.ok.len,h.ok.lo,h.ok.hi,by simp,h.ok.fuse⟩⟩,a⟩;obtain⟨f,c',c,d,e⟩:=h.zl j i;exact⟨f,c',c,d,e.other a h.dj (by decide)⟩
theorem Ka {wr:World} {r:Nat} {f:Value} (h:cu wr F r s {S with im:=zq S s S.puts.length} gl cl ls f xs) (g:aa F w wr):
  wr.cell? (aD r 1)=some f/\wr.frozen? (aD r 1)=false/\(wr.setCell ⟨r,1,none⟩ (.slice none 0 0)).cell? (aD r 6)=some (iV S.flushes)/\(wr.setCell ⟨r,1,none⟩ (.slice none 0 0)).frozen? (aD r 6)=false/\
  Calls prog 115 #[pQ r] ((wr.setCell ⟨r,1,none⟩ (.slice none 0 0)).setCell ⟨r,6,none⟩ (.int .i64 (wrap64 (S.flushes+1)))) λe w'=>e= .returned (.tuple #[])/\aB w' F r s ((S.flush s).fY)/\aa F w w':=by
 rw [Rf] at h;obtain⟨a,eH⟩:=h.dropped;have c:cu ((wr.setCell ⟨r,1,none⟩ (.slice none 0 0)).setCell ⟨r,6,none⟩ (.int .i64 (wrap64 (S.flushes+1)))) F r s (S.flush s) gl cl ls (.slice none 0 0) []:=
  a.ni (a.set 6 _).2 ((a.set 6 _).1.trans (by simp [bG,DS.flush])) rfl rfl a.ok.fuse
 refine⟨bD h.dj,ae h.dj 1,wG a.dj,ae a.dj 6,(zn r S.fuse _ (bH c.dj) (ae c.dj 2) c.ok.fuse.1).mono ?_⟩;rintro e w' ⟨rfl,rfl⟩;have d:=c.yo;exact⟨rfl,⟨gl,cl,ls,_,_,d.1⟩,((g.trans eH (λj b=> .inl (b▸h.fr))).trans (a.set 6 _).2 (λj b=> .inl (b▸h.fr))).trans d.2 (λj b=> .inl b)⟩
set_option maxRecDepth 100000 in
theorem NF {r:Nat} (hd:aB w F r s S) (J:S.fuse≠0) (aT:S.puts.length+1<=4000000000000):
  Calls prog 65 #[pQ r] w λe w'=>e= .returned (iV 0)/\aB w' F r s ((S.flush s).fY)/\aa F w w':=by
 obtain⟨c,p,k,C,xs,h⟩:=hd;have U:=bH h.dj;have l:(S.fuse == 0)=false:=by simp [J]
 have dh:=h.ok;have h0:cu w F r s {S with im:=zq S s 0} c p k C xs:=by rw [ND h.ok];exact h
 go_in;go_wp2;go_loopw [3] (λi wr=>∃j:Nat,j<=S.puts.length/\i=iV (j:Int)/\∃k,cu wr F r s {S with im:=zq S s j} c p k C xs/\aa F w wr) (λi _=>S.puts.length-(intOf i).toNat);case atStart=>exact⟨0,dU _,rfl,k,h0,aa.refl _ _⟩
 case round=>
  obtain⟨j,hj,rfl,k,hd,y⟩:=hrel;obtain⟨a,ca,wW,q⟩:=hd.form;have x:=aL hd.dj;have n:=bD hd.dj;rw [wW] at n;by_cases bm:j<S.puts.length
  .have cw:(j:Int)<(S.puts.length:Int):=(by omega);obtain⟨d,rfl,K⟩:=q (by simp only;omega);obtain⟨g,D,z,A,I,L⟩:=K j bm;have eF:=(dh.puts S.puts[j] (List.getElem_mem bm)).1;have aie:((S.puts[j].1:Nat):Int)<(s:Int):=(by omega);obtain⟨R,T⟩:=hd.stored eF I L (Gn dh (j+1)) (NE dh bm);have fl:=hd.last.frozen S.puts[j].1;obtain⟨gx,W,jA,_⟩:=hd.zl _ eF;have E:=hd.last.cell jA;have f:=aF R (y.trans T (λb l=> .inl (l▸hd.fl)));have rE:r≠c:=λe=>hd.last.ne hd.dj (by decide) e.symm;have pf:d≠c:=by
    obtain⟨cur,kv,_⟩:=hd.last;exact dR hd.db (by rw [wW];rfl) kv (by decide)
   generalize S.puts[j].1=u at*;have m:∀b o v,b≠c->(wr.setCell ⟨c,u,none⟩ v).cell? (aD b o)=wr.cell? (aD b o):=λb o v l=>World.cell?_of_block (w:=wr) (a:=(aD b o)) (Below.heap_setCell wr ⟨c,u,none⟩ v b l);have N:=λv=>(m r 0 v rE).trans x;have O:=λv=>(m r 1 v rE).trans n;have P:=λv=>(m d (j*2) v pf).trans z;have Q:=λv=>(m d (j*2+1) v pf).trans A;have M:=(aF N (aF O (aF P Q)));go_wp2_with fail;go_region_held3 (λw'=>w'.cell? (aD r 0)=some (.slice (some (aD c 0)) s p)/\w'.cell? (aD r 1)=some (.slice (some (aD d 0)) S.puts.length ca)/\w'.cell? ⟨d,j*2,none⟩=some (iV (u:Int))/\w'.cell? ⟨d,j*2+1,none⟩=some (.slice (some (aD g 0)) 512 D)) (first|exact⟨x,n,z,A⟩|exact⟨M.1 _,M.2.1 _,M.2.2.1 _,M.2.2.2 _⟩) (fail);all_goals
    go_wp2;go_roundw;case rel=>exact⟨j+1,by omega,by go_num,_,f.1.agree (bP _) (λ_ _=>rfl),⟨f.2.os,f.2.tape,f.2.output,f.2.size,f.2.block⟩⟩
    case measure=>simp [intOf];omega
  .have cw:¬(j:Int)<(S.puts.length:Int):=(by omega);have H:j=S.puts.length:=(by omega);rw [H] at hd;obtain⟨G,X,Y,Z,t⟩:=Ka hd y;rw [wW] at G;go_wp2_with (go_at_call 115;refine t.mono ?_;rintro e w5 ⟨rfl,jy,dX⟩);go_ret;exact⟨rfl,jy,dX⟩
def VS (w:World) (F:Nat->Prop) (S:DS) (k:Nat) (vs:List Value):Prop:=
 vs.length=(ar S.puts k).length+1/\∀j,j<vs.length->∃g c,vs[j]? =some (.slice (some (aD g 0)) 512 c)/\F g/\ay w 5 g c (bs (S.gB k j))
theorem qO (a:i<S.puts.length):S.puts.take (i+1)=S.puts.take i ++ [S.puts[i]]:=by rw [List.take_add_one,List.getElem?_eq_getElem a];rfl
theorem VS.skip (b:i<S.puts.length) (h:VS w F {S with puts:=S.puts.take i} k vs) (a:S.puts[i].1≠k):VS w F {S with puts:=S.puts.take (i+1)} k vs:=by
 have c:ar (S.puts.take (i+1)) k=ar (S.puts.take i) k:=by rw [qO b,fh,kH (puts:= [S.puts[i]]) (by simpa using a),List.append_nil]
 unfold VS DS.gB at*;simp only [c] at*;exact h
theorem VS.snoc (q:i<S.puts.length) (h:VS w F {S with puts:=S.puts.take i} k vs) (p:S.puts[i].1=k) (o:F g) (s:ay w 5 g c (bs S.puts[i].2)):
  VS w F {S with puts:=S.puts.take (i+1)} k (vs ++ [.slice (some (aD g 0)) 512 c]):=by
 have b:ar (S.puts.take (i+1)) k=ar (S.puts.take i) k ++ [S.puts[i].2]:=by rw [qO q,fh];simp [ar,p]
 obtain⟨a,n⟩:=h;simp only at a;refine⟨by simp only [b];simp [a],λj r=>?_⟩;by_cases AX:j<vs.length
 .obtain⟨m,c',d,e,f⟩:=n j AX;refine⟨m,c',by rw [List.getElem?_append_left AX];exact d,e,?_⟩;have:DS.gB {S with puts:=S.puts.take (i+1)} k j=DS.gB {S with puts:=S.puts.take i} k j:=by
   unfold DS.gB;split
   .rfl
   .simp only [b];rw [List.getD,List.getD,List.getElem?_append_left (by omega)]
  rw [this];exact f
 .have l:j=vs.length:=by simp at r;omega
  subst l;refine⟨g,c,by simp,o,?_⟩;have:DS.gB {S with puts:=S.puts.take (i+1)} k vs.length=S.puts[i].2:=by
   unfold DS.gB;rw [aA (by omega)];simp only [b,a,Nat.add_sub_cancel];simp [List.getD]
  rw [this];exact s
theorem VS.start (a:F g) (d:ay w 5 g c (bs (bI S.im k))):
  VS w F {S with puts:=S.puts.take 0} k [.slice (some (aD g 0)) 512 c]:=by
 refine⟨by simp [ar],λj b=>?_⟩;have:j=0:=by simp at b;omega
 subst this;exact⟨g,c,rfl,a,d⟩
theorem NG {r:Nat} {K:Value} (h:cu w F r s S gl cl ls K xs) (k:Nat) (D:k<s) (aT:S.puts.length+1<=4000000000000):
  Calls prog 71 #[pQ r,iV (k:Int)] w λe w'=>∃g c vs,e= .returned (.slice (some (aD g 0)) ((ar S.puts k).length+1) c)/\w.heap.size<=g/\ay w' 36 g c vs/\VS w F S k vs/\bW w w':=by
 obtain⟨H,rt,gv,dr,ec⟩:=info_parts td;obtain⟨a,c,rfl,sB⟩:=h.form;have O:=aL h.dj;have t:=bD h.dj;obtain⟨z,cs,wQ,Ue,pi⟩:=h.zl k D;have x:=h.last.cell wQ;have eF:(k:Int)<(s:Int):=by omega
 go_in;go_wp2;go_loopw [5,6] (λv i wr=>∃j:Nat,j<=S.puts.length/\i=iV (j:Int)/\∃vs,wr.ownsRow w.heap.size 36 1 v ((ar (S.puts.take j) k).length+1) vs/\VS w F {S with puts:=S.puts.take j} k vs/\bW w wr) (λ_ i _=>S.puts.length-(intOf i).toNat);case atStart=>
  refine⟨0,dU _,rfl,_,?_,(yh (VS.start (S:=S) Ue pi)).out,(bi _ w).alloc (bP _) _⟩;exact⟨by simp [ar], .inr ⟨w.heap.size,1, #[.slice (some (aD z 0)) 512 cs],by simp [ar],bP _,heap_alloc_new _ _,by simp [ar],by decide,by simp,by simp [ar]⟩⟩
 case round=>
  obtain⟨j,R,rfl,vs,az,IY,d⟩:=hrel;have P:=cell_later d t;by_cases bm:j<S.puts.length
  .have cw:(j:Int)<(S.puts.length:Int):=(by omega);obtain⟨Q,rfl,E⟩:=(yh sB).out (by omega);obtain⟨g,l,I,J,A,n⟩:=E j bm;have L:=cell_later d I;have T:=cell_later d J;have pf:=lK (S.puts.take j) k;have Yx:(S.puts.take j).length<=S.puts.length:=(by rw [List.length_take];omega);by_cases f:S.puts[j].1=k
   .have p:=yh (VS.snoc bm IY f A n);have uK:(ar (S.puts.take (j+1)) k).length=(ar (S.puts.take j) k).length+1:=(by rw [qO bm,fh];simp [ar,f]);rw [f] at L;have bq:=yh az;go_wp2_with (at_builtin;refine wpList_append_own _ rfl _ _ 62 rfl w.heap.size 36 H (.slice none 0 0) 1 24 underlying62 rt gv dr ec rfl (by decide) _ _ _ rfl (bq.o.alloc _) (aD wr.heap.size 0) 1 1 [.slice (some (aD g 0)) 512 l] rfl rfl (cell_one_new _ _ _) (by intro u q;simp at q;subst q;rfl) (by unfold maxLen;omega) (by omega) (by simp;have:=d.size;omega) ?_);intro M N cJ aO jx;have uM:=λb e=>(bq.o.lt b e).1;have bz:=(d.alloc d.size _).grown aO (by simp;have:=d.size;omega) (λb e=>uM b e);have fE:N.ownsRow w.heap.size 36 1 M ((ar (S.puts.take (j+1)) k).length+1) (vs ++ [.slice (some (aD g 0)) 512 l]):=(by rw [(yh uK).out];exact cJ);go_wp2;go_roundw;case rel=>exact⟨j+1,by omega,by go_num,_,(yh fE).out,p.out,bz⟩
    case measure=>simp [intOf];omega
   .have dG:(((S.puts[j].1:Nat):Int) == (k:Int))=false:=(by rw [Bool.eq_false_iff,ne_eq,beq_iff_eq];omega);have uK:ar (S.puts.take (j+1)) k=ar (S.puts.take j) k:=(by rw [qO bm,fh,kH (puts:= [S.puts[j]]) (by simpa using f),List.append_nil]);rw [<-uK] at az;go_wp2;go_roundw;case rel=>exact⟨j+1,by omega,by go_num,_,(yh az).out,(yh (VS.skip bm IY f)).out,d⟩
    case measure=>simp [intOf];omega
  .have cw:¬(j:Int)<(S.puts.length:Int):=(by omega);have y:j=S.puts.length:=(by omega);subst y;rw [List.take_length] at az IY;obtain⟨g,l,G,C,n,_⟩:=ay.eW az (by rintro rfl;rcases az.2 with ⟨_,h⟩|⟨_,_,_,h,_⟩;omega;cases h);have m:=yh (aF C (aF n IY));subst G;go_wp2;go_ret;exact⟨g,l,rfl,m.o.1,vs,m.o.2.1,m.o.2.2,d⟩
theorem vG (x:Int) (y:Nat) (h:max x 0=(y:Int)) (w:World):
  Calls prog 126 #[iV x] w λe w'=>e= .returned (iV (y:Int))/\w'=w:=by
 by_cases b:x<0
 .have a:(y:Int)=0:=by omega
  rw [a];go_in;go_wp2;go_ret;exact⟨rfl,rfl⟩
 .have a:(y:Int)=x:=by omega
  rw [a];go_in;go_wp2;go_ret;exact⟨rfl,rfl⟩
theorem Kb (a lb:List Int) (j:Nat) (E8:j<a.length) (Bj:j<lb.length):(a.take j ++ lb.drop j).set j a[j]=a.take (j+1) ++ lb.drop (j+1):=by
 have b:(a.take j).length=j:=by rw [List.length_take];omega
 have c:a.take (j+1)=a.take j ++ [a[j]]:=by rw [List.take_add_one,List.getElem?_eq_getElem E8];rfl
 rw [List.set_append_right _ _ (by omega),b,Nat.sub_self,List.drop_eq_getElem_cons Bj,c,List.set_cons_zero,List.append_assoc];rfl
set_option maxRecDepth 100000 in
theorem Rg (dh:S.Ok s) (eF:k<s) (I:ay w 36 g c vs) (J:VS w F S k vs)
    (A B C:Int) (A' B' l:Nat) (Y:max A 0=(A':Int)) (Z:max B 0=(B':Int)) (hC:max C 0=(l:Int)) (N:A<=9223372036854775807) (O:B<=9223372036854775807) (YD:C<=9223372036854775807):
  Calls prog 72 #[.slice (some (aD g 0)) ((ar S.puts k).length+1) c, .agg #[iV A,iV B,iV C]] w λe w'=>∃b,e= .returned (.slice (some (aD b 0)) 512 512)/\w.heap.size<=b/\ay w' 5 b 512 (bs (jh S k A' B' l))/\bW w w':=by
 have Vt:=J.1;have Jh:∀j:Nat,(j:Int)%(((ar S.puts k).length:Int)+1)=((j%((ar S.puts k).length+1):Nat):Int):=λj=>by push_cast;rfl
 have BZ:∀j:Nat,j%((ar S.puts k).length+1)<(ar S.puts k).length+1:=λj=>Nat.mod_lt _ (by omega);obtain⟨G,Xy⟩:=bQ (A'%((ar S.puts k).length+1));obtain⟨H,Zd⟩:=bQ (B'%((ar S.puts k).length+1));have aif:=Xy▸BZ A';have aig:=Zd▸BZ B';have R:=Jh A';have T:=Jh B';rw [<-Xy] at R;rw [<-Zd] at T;obtain⟨ga,ca,U,hFa,A6⟩:=J.2 G (by omega);obtain⟨X,cb,W,Dp,CA⟩:=J.2 H (by omega);have ka:=I.cell U;have kb:=I.cell W;have hgw:=I.lt;have P:(l:Int)%513=((l%513:Nat):Int):=by push_cast;rfl
 obtain⟨a,Bl⟩:=bQ (l%513);rw [<-Bl] at P;have Xb:a<=512:=by omega
 have x:=vG A A' Y;have z:=vG B B' Z;have D:=vG C l hC;have hA2:(A':Int)<=9223372036854775807:=by omega
 have eM:(B':Int)<=9223372036854775807:=by omega
 have YE:(l:Int)<=9223372036854775807:=by omega
 have aoX:(G:Int)<((ar S.puts k).length:Int)+1:=by omega
 have aoY:(H:Int)<((ar S.puts k).length:Int)+1:=by omega
 have IT:jh S k A' B' l=(S.gB k G).take a ++ (S.gB k H).drop a:=by unfold jh;rw [<-Xy,<-Zd,<-Bl]
 rw [IT];obtain⟨K,L⟩:=bL A6 CA;have n:=yh (DS.np dh eF (j:=G) (by omega));have d:=yh (DS.np dh eF (j:=H) (by omega));clear Y Z hC N O YD Jh BZ Bl Xy Zd IT A6 CA I J Vt U W aif aig;generalize S.gB k G=f at*;generalize S.gB k H=lb at*;go_in;go_wp2_with fail;refine(x _).mono ?_;rintro e w1 ⟨rfl,m⟩;have ez:=m.symm;subst ez;clear m;go_wp2_with fail;refine(z _).mono ?_;rintro e w1 ⟨rfl,m⟩;have ez:=m.symm;subst ez;clear m;go_wp2_with fail;refine(D _).mono ?_;rintro e w1 ⟨rfl,m⟩;have ez:=m.symm;subst ez;clear m;have sb:Src (w.alloc (.cells #[.int .i64 A, .int .i64 B, .int .i64 C] 115)) (some (aD X 0)) 512 lb:=by
  have:=L.o.src;rw [d.o] at this;exact this.later ((bi _ w).alloc (bP _) _)
 have Me:=lH (some (aD X 0)) 512 cb lb _ (by omega) sb;clear sb;go_wp2_with (go_at_call 97;refine Me.mono ?_;rintro e w2 ⟨b,rfl,Rh,DA,eC⟩);have aW:=((bi _ w).alloc (bP _) _).trans (eC.mono (by simp));have fU:w.heap.size<=b:=by simp at Rh;omega
 have A7:w2.heap[b]? =some (.cells (bs (f.take 0 ++ lb.drop 0)).toArray 5 (0,0)):=by simpa using DA.full (by simp [bs,d.o])
 have r:=yh A7;clear DA eC Rh Me A7 x z D ka kb;go_loopw [9] (λi wr=>∃j:Nat,j<=a/\i=iV (j:Int)/\wr.heap[b]? =some (.cells (bs (f.take j ++ lb.drop j)).toArray 5 (0,0))/\bW w wr) (λi _=>a-(intOf i).toNat);case atStart=>exact⟨0,dU _,rfl,r.o,aW⟩
 case round=>
  clear aW r;obtain⟨j,hj,rfl,hh,Q⟩:=hrel;have q:=yh hh;clear hh;by_cases bm:j<a
  .have cw:(j:Int)<(a:Int):=(by omega);have hj5:(j:Int)<512:=(by omega);have Xy:j<f.length:=(by have:=n.o;omega);have Zd:j<lb.length:=(by have:=d.o;omega);have ca1:wr.cell? (aD ga j)=some (.int .u8 f[j]):=by
    have:=K.o.byte Xy;rw [aK,Nat.zero_add] at this;simpa [List.getD,List.getElem?_eq_getElem Xy] using (cell_later Q this)
   have v:∃u,wr.cell? (aD b j)=some u:=⟨_,aj q.o (j:=j) (by simp only [List.getElem?_toArray];exact List.getElem?_eq_getElem (by simp [bs];have:=n.o;have:=d.o;omega))⟩;obtain⟨u,v⟩:=v;have fb1:=ae q.o j;have E:(wr.setCell ⟨b,j,none⟩ (.int .u8 f[j])).heap[b]? =some (.cells (bs (f.take (j+1) ++ lb.drop (j+1))).toArray 5 (0,0)):=by
    rw [heap_setCell_same _ _ _ _ _ _ q.o,<-Kb f lb j Xy Zd];simp [bs,List.map_set]
   have t:=yh (aF E (Q.setCell (p:=⟨b,j,none⟩) fU (.int .u8 f[j])));clear E q;generalize f[j]=y at*;go_wp2;go_roundw;case rel=>exact⟨j+1,by omega,by go_num,t.o.1,t.o.2⟩
   case measure=>simp [intOf];omega
  .have cw:¬(j:Int)<(a:Int):=(by omega);have ej:j=a:=(by omega);subst ej;have JY:ay wr 5 b 512 (bs (f.take j ++ lb.drop j)):=by
    have I1:(bs (f.take j ++ lb.drop j)).length=512:=(by simp only [bs,List.length_map,dT,List.length_take,List.length_drop];have:=n.o;have:=d.o;omega);have:=ay.xp q.o (by rw [I1];decide);rw [I1] at this;exact this
   have M:=yh JY;clear JY q;go_wp2;go_ret;refine⟨b,rfl,fU,?_,Q⟩;have hx:=M.o;simp only [bs,List.map_append,List.map_take,List.map_drop] at hx;exact hx
def mw (w:World) (F:Nat->Prop) (S:DS) (l:List P3) (ks:List Nat) (xs:List Value):Prop:=
 xs.length=ks.length*2/\∀i (hi:i<ks.length),∃g,xs[2*i]? =some (iV ((ks[i]:Nat):Int))/\xs[2*i+1]? =some (.slice (some (aD g 0)) 512 512)/\F g/\ay w 5 g 512 (bs (fd S l ks[i]))
theorem mw.snoc (h:mw w F S l ks xs) (o:∀k,F k->G k) (q:∀b ys,F b->ay w 5 b 512 ys->ay w' 5 b 512 ys) (p:G g) (s:ay w' 5 g 512 (bs (fd S l k))):
  mw w' G S l (ks ++ [k]) (xs ++ [iV (k:Int), .slice (some (aD g 0)) 512 512]):=by
 obtain⟨m,n⟩:=h;refine⟨by simp [m];omega,λi r=>?_⟩;by_cases nj:i<ks.length
 .obtain⟨j,c,d,a,e⟩:=n i nj;refine⟨j,?_,?_,o _ a,?_⟩
  .rw [List.getElem?_append_left (by omega),c,List.getElem_append_left nj]
  .rw [List.getElem?_append_left (by omega),d]
  .rw [List.getElem_append_left nj];exact q _ _ a e
 .have f:i=ks.length:=by simp at r;omega
  subst f;refine⟨g,?_,?_,p,?_⟩
  .rw [List.getElem?_append_right (by omega),show 2*ks.length-xs.length=0 by omega];simp
  .rw [List.getElem?_append_right (by omega),show 2*ks.length+1-xs.length=1 by omega];simp
  .simpa using s
theorem mw.agree (h:mw w F S l ks xs) (f:∀k,F k->G k) (j:∀b ys,F b->ay w 5 b 512 ys->ay w' 5 b 512 ys):mw w' G S l ks xs:=
   ⟨h.1,λi m=>by obtain⟨g,c,d,a,e⟩:=h.2 i m;exact⟨g,c,d,f _ a,j _ _ a e⟩⟩
theorem vZ (h:ar S.puts k= []):aG S (k+1)=aG S k:=by rw [pp,aE h,List.append_nil]
theorem pW (h:ar S.puts k≠ []):aG S (k+1)=aG S k ++ [k]:=by rw [pp,aA h]
theorem Gq (h:S.puts= []) (s:Nat):aG S s= []:=by
 unfold aG;rw [List.filter_eq_nil_iff];intro k _;simp [h,ar]
theorem wc {wr wx:World} (dh:S.Ok s) (eF:k<s) (x:ar S.puts k≠ []) (m:ay wr 36 g c vs) (n:VS w F S k vs) (bm:∀b,F b->b<w.heap.size) (i:bW w wr) (o:bW wr wx)
    (A B C:Int) (y:mh l (aG S k).length=(A,B,C)) (r:A<=9223372036854775807) (t:B<=9223372036854775807) (u:C<=9223372036854775807):
  Calls prog 72 #[.slice (some (aD g 0)) ((ar S.puts k).length+1) c, .agg #[iV A,iV B,iV C]] wx λe w'=>∃a,e= .returned (.slice (some (aD a 0)) 512 512)/\wx.heap.size<=a/\ay w' 5 a 512 (bs (fd S l k))/\bW wx w':=by
 have d:VS wx F S k vs:=⟨n.1,λj v=>by obtain⟨a,c',p,f,q⟩:=n.2 j v;exact⟨a,c',p,f,q.agree ((i.trans (o.mono i.size)).block a (bm a f))⟩⟩;have e:fd S l k=jh S k (max A 0).toNat (max B 0).toNat (max C 0).toNat:=by
  unfold fd uN;rw [aA x,y]
 rw [e];exact Rg dh eF (m.agree (o.block g m.lt)) d A B C _ _ _ (by omega) (by omega) (by omega) r t u
theorem AU {wr a:World} {i:Value} {o:Obj} (c:bW w wr) (ff:bW wr w5) (az:wr.ownsRow w.heap.size 120 2 v (aG S k).length ys)
    (zt:mw wr (λb=>w.heap.size<=b/\b<wr.heap.size) S l (aG S k) ys) (d:ar S.puts k≠ []) (n:wr.heap.size<=g) (f:ay w5 5 g 512 (bs (fd S l k))) (aO:(w5.alloc o).grownBy a v.ownBlock)
    (cJ:a.ownsRow w.heap.size 120 2 i ((aG S k).length+1) (ys ++ [iV (k:Int), .slice (some (aD g 0)) 512 512])):
  a.ownsRow w.heap.size 120 2 i (aG S (k+1)).length (ys ++ [iV (k:Int), .slice (some (aD g 0)) 512 512])/\mw a (λb=>w.heap.size<=b/\b<a.heap.size) S l (aG S (k+1)) (ys ++ [iV (k:Int), .slice (some (aD g 0)) 512 512])/\bW w a:=by
 have m:=c.size;have Zi:(w5.alloc o).heap.size=w5.heap.size+1:=by simp
 have Mf:=aO.size;have UF:=f.lt;have rF:=aC az (λb e=>ff.block b (az.lt b e).2);have au:∀b ys,ay w5 5 b 512 ys->ay a 5 b 512 ys:=λb zs eC=>by
  have j:=eC.lt;refine eC.agree ((aO.block b (by omega) (λe=>?_)).trans (Below.heap_alloc _ _ _ j));obtain⟨cur,ie,_⟩:=eC;exact dR rF e.symm ie (by decide) rfl
 refine⟨by rw [pW d];simpa using cJ,?_,?_⟩
 .rw [pW d];exact zt.snoc (λb h=>⟨h.1,by omega⟩) (λb zs h DA=>au b zs (DA.agree (ff.block b h.2))) ⟨by omega,by omega⟩ (au g _ f)
 .exact((c.trans (ff.mono m)).alloc (by omega) o).grown aO (by omega) (λb e=>(az.lt b e).1)
theorem LB {wr:World} (a:bW w wr) (ff:bW wr w5) (az:wr.ownsRow w.heap.size 120 2 v (aG S k).length ys)
    (zt:mw wr (λb=>w.heap.size<=b/\b<wr.heap.size) S l (aG S k) ys) (c:ar S.puts k= []):
  w5.ownsRow w.heap.size 120 2 v (aG S (k+1)).length ys/\mw w5 (λb=>w.heap.size<=b/\b<w5.heap.size) S l (aG S (k+1)) ys/\bW w w5:=by
 have qE:=ff.size;rw [vZ c];exact⟨aC az (λb e=>ff.block b (az.lt b e).2),zt.agree (λb h=>⟨h.1,by omega⟩) (λb zs h DA=>DA.agree (ff.block b h.2)),a.trans (ff.mono a.size)⟩
theorem zv {wr:World} {r:Nat} {e:Value} (h:cu wr G r s {S with im:=im} gl cl ls e xs) (g:im=pj s (fd S l)) (d:F r) (i:aa F w wr):
  wr.cell? (aD r 1)=some e/\wr.frozen? (aD r 1)=false/\(wr.setCell ⟨r,1,none⟩ (.slice none 0 0)).cell? (aD r 2)=some (iV S.fuse)/\(wr.setCell ⟨r,1,none⟩ (.slice none 0 0)).frozen? (aD r 2)=false/\
    ((wr.setCell ⟨r,1,none⟩ (.slice none 0 0)).setCell ⟨r,2,none⟩ (.int .i64 (-1))).cell? (aD r 3)=some (iV S.life)/\((wr.setCell ⟨r,1,none⟩ (.slice none 0 0)).setCell ⟨r,2,none⟩ (.int .i64 (-1))).frozen? (aD r 3)=false/\
  cu (((wr.setCell ⟨r,1,none⟩ (.slice none 0 0)).setCell ⟨r,2,none⟩ (.int .i64 (-1))).setCell ⟨r,3,none⟩ (.int .i64 (wrap64 (S.life+1)))) G r s (S.il s l) gl cl ls (.slice none 0 0) []/\
  aa F w (((wr.setCell ⟨r,1,none⟩ (.slice none 0 0)).setCell ⟨r,2,none⟩ (.int .i64 (-1))).setCell ⟨r,3,none⟩ (.int .i64 (wrap64 (S.life+1)))):=by
 subst g;obtain⟨a,eH⟩:=h.dropped;have b:cu ((wr.setCell ⟨r,1,none⟩ (.slice none 0 0)).setCell ⟨r,2,none⟩ (.int .i64 (-1))) G r s {S with im:=pj s (fd S l),puts:= [],fuse:= -1} gl cl ls (.slice none 0 0) []:=
  a.ni (a.set 2 _).2 ((a.set 2 _).1.trans (by simp [bG])) rfl rfl (by simp)
 have f:cu (((wr.setCell ⟨r,1,none⟩ (.slice none 0 0)).setCell ⟨r,2,none⟩ (.int .i64 (-1))).setCell ⟨r,3,none⟩ (.int .i64 (wrap64 (S.life+1)))) G r s (S.il s l) gl cl ls (.slice none 0 0) []:=
  b.ni (b.set 3 _).2 ((b.set 3 _).1.trans (by simp [bG,DS.il])) rfl rfl (by simp [DS.il])
 exact⟨bD h.dj,ae h.dj 1,bH a.dj,ae a.dj 2,fI b.dj,ae b.dj 3,f,
    ((i.trans eH (λj c=> .inl (c▸d))).trans (a.set 2 _).2 (λj c=> .inl (c▸d))).trans (b.set 3 _).2 (λj c=> .inl (c▸d))⟩
theorem IL {wr:World} {base:Nat} (az:w.ownsRow base 120 2 v ks.length ys) (zt:mw wr G S l ks ys):
  ∃a c,v= .slice a ks.length c/\(0<ks.length->∃gf,a=some (aD gf 0)/\base<=gf/\∀i (d:i<ks.length),∃g,w.cell? ⟨gf,i*2,none⟩=some (iV ((ks[i]:Nat):Int))/\w.cell? ⟨gf,i*2+1,none⟩=some (.slice (some (aD g 0)) 512 512)/\G g/\ay wr 5 g 512 (bs (fd S l ks[i]))):=by
 have f:=az;obtain⟨_,⟨e,s⟩|⟨b,m,cur,e,r,_⟩⟩:=az
 .exact⟨none,0,by rw [e,s],λh0=>by omega⟩
 .refine⟨_,_,e,λ_=>⟨b,rfl,r,λi d=>?_⟩⟩;obtain⟨g,n,o,p,q⟩:=zt.2 i d;have j:=f.cells (g:=b) (by rw [e];rfl) _ _ n;have k:=f.cells (g:=b) (by rw [e];rfl) _ _ o;rw [aK,Nat.zero_add] at j k;exact⟨g,by rw [Nat.mul_comm];exact j,by rw [Nat.mul_comm];exact k,p,q⟩
set_option maxRecDepth 100000 in
theorem Gr {r:Nat} (hd:aB w F r s S) (d:S.puts.length=0) (a:Option Addr) (n c:Nat) (l:List P3):
  Calls prog 30 #[pQ r, .slice a n c] w λe w'=>e= .returned (.tuple #[])/\aB w' (more F w w') r s (S.il s l)/\aa F w w':=by
 obtain⟨o,j,p,A,xs,h⟩:=hd;obtain⟨q,t,wW,_⟩:=h.form;have g:=bD h.dj;obtain⟨m,u,v,x,y,z,nF,gy⟩:=zv h (uO h.ok l h.ok.len (λi _=>by simp [(Gq (List.eq_nil_of_length_eq_zero d) s)])) h.fr (aa.refl F w);have f:=(aF (show aB _ (more F w (((w.setCell ⟨r,1,none⟩ (.slice none 0 0)).setCell ⟨r,2,none⟩ (.int .i64 (-1))).setCell ⟨r,3,none⟩ (.int .i64 (wrap64 (S.life+1))))) r s (S.il s l) from ⟨o,j,p,_,_,nF.mono (λ_ b=> .inl b) (λk b=>by
  rcases b with b|b
  .exact nF.lt k b
  .exact b.2)⟩) gy)
 rw [wW,d] at g m;go_in;go_wp2;refine wp_loop_rounds 1 ?_;rw [rounds_succ];go_wp2
 go_end0
 exact⟨rfl,f⟩
set_option maxRecDepth 100000 in
theorem Gs {r:Nat} (hd:aB w F r s S) (hz:0<S.puts.length) (aT:S.puts.length+1<=4000000000000) (a:Option Addr) (n c:Nat) (l:List P3) (Dt:kS w a n l) (hn:n<=140737488355328):
  Calls prog 30 #[pQ r, .slice a n c] w λe w'=>e= .returned (.tuple #[])/\aB w' (more F w w') r s (S.il s l)/\aa F w w':=by
 obtain⟨i0,rt,gv,dr,ec⟩:=info_parts Mc;obtain⟨m,cl,W,pv,xs,h⟩:=hd;obtain⟨y,Fg,HFr⟩:=jw h.ok h.fl h.fr;obtain⟨ap,cp,wW,_⟩:=h.form;have c0:=aL h.dj;have c1:=bD h.dj;rw [wW] at c1;obtain⟨km,H,U⟩:=jw h.ok.hi h Dt;clear h wW Dt;go_in;go_wp2;clear c1;go_loopw [4,5,6,7,8] (λkc v i _ _ wr=>∃t:Nat,t<=s/\i=iV (t:Int)/\kc=iV ((aG S t).length:Int)/\∃P,wr.ownsRow w.heap.size 120 2 v (aG S t).length P/\mw wr (λb=>w.heap.size<=b/\b<wr.heap.size) S l (aG S t) P/\bW w wr) (λ_ _ i _ _ _=>s-(intOf i).toNat);case atStart=>exact⟨0,dU _,rfl,rfl, [],World.ownsRow_nil _ _ _ _,⟨rfl,λi hi=>by simp [aG] at hi⟩,bi _ _⟩
 case round=>
  obtain⟨t,ht,rfl,rfl,P,az,zt,d⟩:=hrel;have e0:=cell_later d c0;have I2:(aG S t).length<=t:=by
   have:=List.length_filter_le (λk=> !(ar S.puts k).isEmpty) (List.range t);rw [List.length_range] at this;exact this
  by_cases bm:t<s
  .have cw:(t:Int)<(s:Int):=(by omega);have hh:=H.agree d.size (λk f=>d.block k (H.lt k f));obtain⟨tk,bq,u,pf⟩:=cM (NG hh t bm aT) az zt (lK S.puts t);clear hh az zt;by_cases E:ar S.puts t= []
   .have cm:(ar S.puts t).length=0:=(by rw [E];rfl);rw [cm] at tk;have Jm:=(λw5 h5=>LB (w5:=w5) d h5 bq u E);have aX:=vZ E;have L:=aX;clear aX E cm;go_wp2_with fail;refine tk.mono ?_;rintro e w1 ⟨g1,cg1,vs,rfl,o8,lG,IY,aq⟩;obtain⟨J,K,p⟩:=Jm w1 aq;have C:=(aF J (aF K p));clear tk Jm J K p lG IY aq bq u d e0;go_wp2;go_roundw;case rel=>exact⟨t+1,by omega,by go_num,by rw [L],P,C.1,C.2.1,C.2.2⟩
    case measure=>simp [intOf];omega
   .have cm:((((ar S.puts t).length:Int)+1) == 1)=false:=by
     have:=List.length_pos_iff.2 E;rw [Bool.eq_false_iff,ne_eq,beq_iff_eq];omega
    have aX:(aG S (t+1)).length=(aG S t).length+1:=(by rw [pW E];simp);have L:=aX;clear aX;go_wp2_with fail;refine tk.mono ?_;rintro e w1 ⟨g1,cg1,vs,rfl,o8,lG,IY,aq⟩;have Ri:=d.trans (aq.mono d.size);have N:=lG;have O:=IY;clear lG IY tk;by_cases kT:n=0
    .subst kT;have I:mh l (aG S t).length=(0,0,0):=(by simp [mh,U.1]);have IT:=λo=>wc y bm E N O (λb eC=>iP (H.lt b eC) d.size) aq ((bi w1.heap.size w1).alloc (bP _) o) 0 0 0 I (by omega) (by omega) (by omega);have Xd:=IT;clear IT I;go_wp2_with fail;refine(Xd _).mono ?_;rintro e w5 ⟨Q,rfl,Uc,Fa,ff⟩;have NH:=(aq.alloc aq.size _).trans (ff.mono (by simp;have:=aq.size;omega));have rF:=aC bq (λb e=>NH.block b (bq.lt b e).2);have R:wr.heap.size<=Q:=(by simp at Uc;have:=aq.size;omega);obtain⟨I3,Gt,z,A⟩:=cM (jQ d.size NH.size) rF Fa NH;clear rF Fa NH ff Uc Xd N O Ri;go_wp2_with (at_builtin;refine wpList_append_own _ rfl _ _ 63 rfl w.heap.size 120 i0 _ 2 32 underlying63 rt gv dr ec rfl (by decide) _ _ _ rfl (Gt.alloc _) (aD w5.heap.size 0) 1 1 [iV (t:Int), .slice (some (aD Q 0)) 512 512] rfl rfl (World.news_of_block (cs:= #[iV (t:Int), .slice (some (aD Q 0)) 512 512]) (t:=120) (fr:=(0,0)) (heap_alloc_new w5 _)) (by simp [Value.oneCell']) (by unfold maxLen;omega) (by omega) (by simp;omega) ?_);intro v' w6 cJ aO jx;obtain⟨J,K,p⟩:=AU d A bq u E R z aO cJ;have C:=(aF J (aF K p));clear J K p cJ aO jx Gt z A bq u d e0;go_wp2;go_roundw;case rel=>exact⟨t+1,by omega,by go_num,by rw [L];go_num,_,C.1,C.2.1,C.2.2⟩
     case measure=>simp [intOf];omega
    .obtain⟨x,rfl⟩:∃x,a=some x:=by
      cases a with
      |none=>exact absurd (U.2.1 rfl) kT
      |some x=>exact⟨x,rfl⟩
     have jT:=U.1;have YH:0<l.length:=(by omega);obtain⟨q,I⟩:=bQ ((aG S t).length%n);have hqn:q<n:=(by rw [I];exact Nat.mod_lt _ (by omega));have A5:q<l.length:=(by omega);obtain⟨b,o,rfl,p0,X,Y⟩:=U.2.2.1 x rfl q A5;have O9:mh l (aG S t).length=(l[q].1,l[q].2.1,l[q].2.2):=by
      have e1:(aG S t).length%l.length=q:=(by rw [jT,I]);simp only [mh,YH,dif_pos,e1]
     obtain⟨b1,b2,b3⟩:=U.2.2.2 l[q] (List.getElem_mem A5);have IT:=λo=>wc y bm E N O (λb eC=>iP (H.lt b eC) d.size) aq ((bi w1.heap.size w1).alloc (bP _) o) _ _ _ O9 b1 b2 b3;have hmo:((aG S t).length:Int)%(n:Int)=(q:Int):=(by rw [I];push_cast;rfl);have iA:(q:Int)<(n:Int):=(by omega);replace p0:=cell_later Ri p0;replace X:=cell_later Ri X;replace Y:=cell_later Ri Y;have hbw:=World.block_lt_of_cell? _ _ p0;have Xd:=IT;clear IT O9 I;generalize l[q].1=qa at*;generalize l[q].2.1=qb at*;generalize l[q].2.2=qc at*;go_wp2_with fail;refine(Xd _).mono ?_;rintro e w5 ⟨Q,rfl,Uc,Fa,ff⟩;have NH:=(aq.alloc aq.size _).trans (ff.mono (by simp;have:=aq.size;omega));have rF:=aC bq (λb e=>NH.block b (bq.lt b e).2);have R:wr.heap.size<=Q:=(by simp at Uc;have:=aq.size;omega);obtain⟨I3,Gt,z,A⟩:=cM (jQ d.size NH.size) rF Fa NH;clear p0 X Y rF Fa NH ff Uc Xd N O Ri;go_wp2_with (at_builtin;refine wpList_append_own _ rfl _ _ 63 rfl w.heap.size 120 i0 _ 2 32 underlying63 rt gv dr ec rfl (by decide) _ _ _ rfl (Gt.alloc _) (aD w5.heap.size 0) 1 1 [iV (t:Int), .slice (some (aD Q 0)) 512 512] rfl rfl (World.news_of_block (cs:= #[iV (t:Int), .slice (some (aD Q 0)) 512 512]) (t:=120) (fr:=(0,0)) (heap_alloc_new w5 _)) (by simp [Value.oneCell']) (by unfold maxLen;omega) (by omega) (by simp;omega) ?_);intro v' w6 cJ aO jx;obtain⟨J,K,p⟩:=AU d A bq u E R z aO cJ;have C:=(aF J (aF K p));clear J K p cJ aO jx Gt z A bq u d e0;go_wp2;go_roundw;case rel=>exact⟨t+1,by omega,by go_num,by rw [L];go_num,_,C.1,C.2.1,C.2.2⟩
     case measure=>simp [intOf];omega
  .have cw:¬(t:Int)<(s:Int):=(by omega);have et:t=s:=(by omega);subst et;obtain⟨G,hW7⟩:=bQ wr;subst hW7;have gy:=aa.ah F d;have AY:∀k,more F w G k->k<G.heap.size:=λk f=>by
    rcases f with f|f
    .exact iP (H.lt k f) d.size
    .exact f.2
   obtain⟨Z,Hk7,Xz,acV⟩:=cM ((H.agree d.size (λk f=>d.block k (H.lt k f))).mono (λ_ f=> .inl f) AY) gy az zt;clear gy AY az zt d H U c0;go_wp2;clear e0;go_loopw [9] (λi wr=>∃j:Nat,j<=(aG S t).length/\i=iV (j:Int)/\∃W im,cu wr (more F w G) r t {S with im:=im} m cl W pv xs/\(∀i,i<t->bI im i=if i∈(aG S t).take j then fd S l i else bI S.im i)/\aa F w wr/\wr.ownsRow w.heap.size 120 2 u5 (aG S t).length P/\mw wr (λb=>w.heap.size<=b/\b<G.heap.size) S l (aG S t) P/\wr.heap.size=G.heap.size) (λi _=>(aG S t).length-(intOf i).toNat);case atStart=>exact⟨0,dU _,rfl,W,S.im,Z,λi _=>by simp,Hk7,Xz,acV,rfl⟩
   case round=>
    clear Z Hk7 Xz acV;obtain⟨j,hj,rfl,W,im,hd,Du,f,az,zt,ef⟩:=hrel;have c0:=aL hd.dj;obtain⟨af,cf,T,D⟩:=IL az zt;have IS:=Du;clear Du;by_cases bm:j<(aG S t).length
    .have cw:(j:Int)<((aG S t).length:Int):=(by omega);obtain⟨gf,rfl,hgf,D⟩:=D (by omega);obtain⟨g,X,Y,hF,hr⟩:=D j bm;have Kc:=List.getElem?_eq_getElem bm;obtain⟨eF,E,_,P5⟩:=yx y l hd.ok.len Kc IS;have aie:(((aG S t)[j]:Nat):Int)<(t:Int):=(by omega);obtain⟨q1,q2⟩:=hd.stored eF (.inr hF) hr (im:=splice im ((aG S t)[j] *512) (fd S l (aG S t)[j])) (by rw [jg _ _ _ (by rw [tp y l _ eF];have:=hd.ok.len;simp only at this;omega)];exact hd.ok.len) (λi hi=>rZ hd.ok.len (tp y l _ eF) eF);obtain⟨gx,cx,jA,_⟩:=hd.zl _ eF;have cl0:=hd.last.cell jA;have fl:=hd.last.frozen (aG S t)[j];have rE:r≠m:=λe=>hd.last.ne hd.dj (by decide) e.symm;have eC:=hd.last;obtain⟨cur,kv,_⟩:=eC;have pf:gf≠m:=dR az (by rw [T];rfl) kv (by decide);have fE:(wr.setCell ⟨m,(aG S t)[j],none⟩ (.slice (some ⟨g,0,none⟩) 512 512)).ownsRow w.heap.size 120 2 u5 (aG S t).length P:=aC az (λb e=>Below.heap_setCell _ _ _ _ (dR az e kv (by decide)));have acX:=zt.agree (λ_ h=>h) (λb zs _ DA=>DA.other q2 kv (by decide));have I:cu (wr.setCell ⟨m,(aG S t)[j],none⟩ (.slice (some ⟨g,0,none⟩) 512 512)) (more F w G) r t {S with im:=splice im ((aG S t)[j] *512) (fd S l (aG S t)[j])} m cl (W.set (aG S t)[j] (.slice (some (aD g 0)) 512 512)) pv xs/\(∀i,i<t->bI (splice im ((aG S t)[j] *512) (fd S l (aG S t)[j])) i=if i∈(aG S t).take (j+1) then fd S l i else bI S.im i)/\aa F w (wr.setCell ⟨m,(aG S t)[j],none⟩ (.slice (some ⟨g,0,none⟩) 512 512))/\
         (wr.setCell ⟨m,(aG S t)[j],none⟩ (.slice (some ⟨g,0,none⟩) 512 512)).ownsRow w.heap.size 120 2 u5 (aG S t).length P/\mw (wr.setCell ⟨m,(aG S t)[j],none⟩ (.slice (some ⟨g,0,none⟩) 512 512)) (λb=>w.heap.size<=b/\b<G.heap.size) S l (aG S t) P/\(wr.setCell ⟨m,(aG S t)[j],none⟩ (.slice (some ⟨g,0,none⟩) 512 512)).heap.size=G.heap.size:=
        ⟨q1,P5,f.trans q2 (λb d=> .inl (d▸Fg)),fE,acX,by simpa [World.setCell] using ef⟩
     have Hq:=I;have mo:∀b o v,b≠m->(wr.setCell ⟨m,(aG S t)[j],none⟩ v).cell? (aD b o)=wr.cell? (aD b o):=λb o v d=>World.cell?_of_block (w:=wr) (a:=(aD b o)) (Below.heap_setCell wr ⟨m,(aG S t)[j],none⟩ v b d);have m0:=λv=>(mo r 0 v rE).trans c0;have m2:=λv=>(mo gf (j*2) v pf).trans X;have m3:=λv=>(mo gf (j*2+1) v pf).trans Y;have M:=(aF m0 (aF m2 m3));clear m0 m2 m3 mo I q1 q2 hr hd D f jA az zt fE acX kv P5 IS Kc;generalize (aG S t)[j]=kj at*;subst T;go_wp2_with fail;go_region_held3 (λw'=>w'.cell? (aD r 0)=some (.slice (some (aD m 0)) t cl)/\w'.cell? ⟨gf,j*2,none⟩=some (iV (kj:Int))/\w'.cell? ⟨gf,j*2+1,none⟩=some (.slice (some (aD g 0)) 512 512)) (first|exact⟨c0,X,Y⟩|exact⟨M.1 _,M.2.1 _,M.2.2 _⟩) (fail);all_goals
      go_wp2;go_roundw;case rel=>
       obtain⟨J,K,p,z4,z5,z6⟩:=Hq;exact⟨j+1,by omega,by go_num,_,_,J.agree (bP _) (λ_ _=>rfl),K,⟨p.os,p.tape,p.output,p.size,p.block⟩,z4,z5,z6⟩
      case measure=>simp [intOf];omega
    .have cw:¬(j:Int)<((aG S t).length:Int):=(by omega);have ej:j=(aG S t).length:=(by omega);rw [ej] at IS;have bR:=uO y l hd.ok.len IS;obtain⟨d1,d2,d3,d4,d5,d6,nF,gy⟩:=zv hd bR HFr f;have Mg:(((wr.setCell ⟨r,1,none⟩ (.slice none 0 0)).setCell ⟨r,2,none⟩ (.int .i64 (-1))).setCell ⟨r,3,none⟩ (.int .i64 (wrap64 (S.life+1)))).heap.size=G.heap.size:=(by simpa [World.setCell] using ef);have hm:more F w G=more F w (((wr.setCell ⟨r,1,none⟩ (.slice none 0 0)).setCell ⟨r,2,none⟩ (.int .i64 (-1))).setCell ⟨r,3,none⟩ (.int .i64 (wrap64 (S.life+1)))):=(by unfold more;rw [Mg]);rw [hm] at nF;have Hq:=(aF (show aB _ _ r t (S.il t l) from ⟨m,cl,W,_,_,nF⟩) gy);obtain⟨ap,cp,wW,_⟩:=hd.form;rw [wW] at d1;subst T;clear nF gy bR hd IS f ej az zt D hm Mg;go_wp2
     go_end0
     exact⟨rfl,Hq⟩
def LS (w:World) (lo:Nat) (l:List Int) (vs:List Value):Prop:=∀i,i<vs.length->∃g c,vs[i]? =some (.slice (some (aD g 0)) 512 c)/\lo<=g/\ay w 5 g c (bs (bI l i))
theorem CB {r:Nat} {l:List Int} (b:w.heap[r]? =some (.cells (bG (.slice (some ⟨gl,0,none⟩) s cl) (.slice none 0 0) (-1) 1 0 0 0 0) 67 (0,0))) (e:ay w 36 gl cl vs) (Vt:vs.length=s) (wQ:LS w w0.heap.size l vs)
    (Pa:w0.heap.size<=r) (uD:w0.heap.size<=gl) (n:l.length=s*512) (j:1<=s) (m:s<=2048):aB w (λk=>w0.heap.size<=k/\k<w.heap.size) r s (DS.fresh l):=by
 refine⟨gl,cl,vs, .slice none 0 0, [],⟨Pa,(kN.1 b).1⟩,⟨uD,e.lt⟩,λk d=>d.2,b,e,Vt,λk d=>?_,World.ownsRow_nil _ _ _ _,by simp [Value.ownBlock],by simp [DS.fresh],⟨n,j,m,by simp [DS.fresh],by simp [DS.fresh]⟩⟩;obtain⟨g,c,f,i,a⟩:=wQ k (by omega);exact⟨g,c,f,⟨i,a.lt⟩,a⟩
theorem Vu (s:Int) (w:World) (h:s<1\/2048<s):
  Calls prog 44 #[iV s] w λe w'=>e= .returned (.tuple #[.pointer none,iV 10])/\w'=w:=by
 rcases h with h|h
 .go_in;go_wp2;go_ret2;exact⟨rfl,rfl⟩
 .have a:¬s<1:=by omega
  go_in;go_wp2;go_ret2;exact⟨rfl,rfl⟩
theorem qP (w:World):
  Calls prog 64 #[] w λe w'=>e= .returned (.slice (some (aD w.heap.size 0)) 512 512)/\ay w' 5 w.heap.size 512 (bs (List.replicate 512 0))/\bW w w':=by
 obtain⟨d,b,gv,dr,ec⟩:=info_parts fW;go_in;go_wp2_with (at_make;refine wpList_make_full _ rfl _ _ 36 rfl w.heap.size 5 d (.int .u8 0) 1 underlying36 b gv dr _ _ _ _ 512 rfl rfl (by omega) (by omega) (by rw [ec];omega) (by unfold maxLen;omega) (bP _) ?_);intro w1 az aO;have a:=(bi _ w).grown aO (bP _) (by intro k c;cases c);go_wp2;go_ret;exact⟨rfl,(yh (lJ (by simpa [Value.cells] using az))).out,a⟩
theorem Rj (s k:Nat) (a:k<s):bI (List.replicate (s*512) 0) k=List.replicate 512 0:=by
 unfold bI;rw [List.drop_replicate,List.take_replicate];congr 1;omega
theorem LS.snoc {a:Nat} {l:List Int} (h:LS w a l vs) (m:∀b c ys,a<=b->ay w 5 b c ys->ay w' 5 b c ys) (n:a<=g) (p:ay w' 5 g c (bs (bI l vs.length))):LS w' a l (vs ++ [.slice (some (aD g 0)) 512 c]):=by
 intro i o;by_cases nj:i<vs.length
 .obtain⟨k,c',e,d,f⟩:=h i nj;exact⟨k,c',by rw [List.getElem?_append_left nj];exact e,d,m _ _ _ d f⟩
 .have j:i=vs.length:=by simp at o;omega
  subst j;exact⟨g,c,by simp,n,p⟩
theorem CC {r j a bZ d:Nat} {l:List Int} {o:Obj} (Pa:w0.heap.size<=r) (aq:bW w0 w1) (bt:w1.heap[r]? =some (.cells (bG v (.slice none 0 0) (-1) 1 0 0 0 0) 67 (0,0)))
    (Rk:w1.ownsRow w0.heap.size 36 1 v j vs) (wQ:LS w1 w0.heap.size l vs) (k:w0.heap.size<=g) (m:ay w1 5 g d (bs (bI l vs.length)))
    (aO:(w1.alloc o).grownBy w2 v.ownBlock) (az:w2.ownsRow w0.heap.size 36 1 (.slice (some (aD a 0)) (j+1) bZ) (j+1) (vs ++ [.slice (some (aD g 0)) 512 d])):
  w2.cell? (aD r 0)=some v/\w2.frozen? (aD r 0)=false/\
    (w2.setCell ⟨r,0,none⟩ (.slice (some ⟨a,0,none⟩) (j+1) bZ)).heap[r]? =some (.cells (bG (.slice (some ⟨a,0,none⟩) (j+1) bZ) (.slice none 0 0) (-1) 1 0 0 0 0) 67 (0,0))/\
    (w2.setCell ⟨r,0,none⟩ (.slice (some ⟨a,0,none⟩) (j+1) bZ)).ownsRow w0.heap.size 36 1 (.slice (some (aD a 0)) (j+1) bZ) (j+1) (vs ++ [.slice (some (aD g 0)) 512 d])/\
  LS (w2.setCell ⟨r,0,none⟩ (.slice (some ⟨a,0,none⟩) (j+1) bZ)) w0.heap.size l (vs ++ [.slice (some (aD g 0)) 512 d])/\bW w0 (w2.setCell ⟨r,0,none⟩ (.slice (some ⟨a,0,none⟩) (j+1) bZ))/\
    (∀b c ys,ay w1 5 b c ys->ay (w2.setCell ⟨r,0,none⟩ (.slice (some ⟨a,0,none⟩) (j+1) bZ)) 5 b c ys):=by
 have Zi:(w1.alloc o).heap.size=w1.heap.size+1:=by simp
 have rE:=(kN.1 bt).1;have fb:=
    ((aO.block r (by omega) (λe=>dR Rk e.symm bt (by decide) rfl)).trans (Below.heap_alloc _ _ _ rE)).trans bt
 have au:∀b c ys,ay w1 5 b c ys->ay (w2.setCell ⟨r,0,none⟩ (.slice (some ⟨a,0,none⟩) (j+1) bZ)) 5 b c ys:=λb c ys f=>by
  have i:=f.lt;have dG:=f.ne bt (by decide);have aW:=f;obtain⟨cur,ie,_⟩:=aW;exact f.agree ((Below.heap_setCell _ _ _ _ dG).trans ((aO.block b (by omega) (λe=>dR Rk e.symm ie (by decide) rfl)).trans (Below.heap_alloc _ _ _ i)))
 refine⟨aL fb,ae fb 0,?_,?_,wQ.snoc (λb c ys _ h=>au b c ys h) k (au _ _ _ m),?_,au⟩
 .rw [heap_setCell_same _ _ _ _ _ _ fb];simp [bG]
 .exact aC az (λb e=>Below.heap_setCell _ _ _ _ (dR az e fb (by decide)))
 .exact((aq.alloc aq.size o).grown aO (by have:=aq.size;omega) (λb e=>(Rk.lt b e).1)).setCell Pa _
theorem Vv (s:Nat) (w:World) (D:1<=s) (E:s<=2048):
  Calls prog 44 #[iV s] w λe w'=>∃r,e= .returned (.tuple #[pQ r,iV 0])/\aB w' (λk=>w.heap.size<=k/\k<w'.heap.size) r s (DS.fresh (List.replicate (s*512) 0))/\bW w w':=by
 obtain⟨J,rt,gv,dr,ec⟩:=info_parts td;have Yw:¬(s:Int)<1:=by omega
 have F:¬(2048:Int)<(s:Int):=by omega
 go_in;go_wp2_with (go_at_call 64;refine(qP w).mono ?_;rintro e w1 ⟨rfl,lG,aq⟩);have ef:=aq.size;have bt:(w1.alloc (.cells (bG (.slice none 0 0) (.slice none 0 0) (-1) 1 0 0 0 0) 67)).heap[w1.heap.size]? =some (.cells (bG (.slice none 0 0) (.slice none 0 0) (-1) 1 0 0 0 0) 67 (0,0)):=heap_alloc_new _ _;have kO:ay (w1.alloc (.cells (bG (.slice none 0 0) (.slice none 0 0) (-1) 1 0 0 0 0) 67)) 5 w.heap.size 512 (bs (List.replicate 512 0)):=lG.agree (Below.heap_alloc _ _ _ lG.lt);have bz:bW w (w1.alloc (.cells (bG (.slice none 0 0) (.slice none 0 0) (-1) 1 0 0 0 0) 67)):=aq.alloc ef _;have l:=yh (aF bt (aF kO bz));go_loopw [6] (λi wr=>∃j:Nat,j<=s/\i=iV (j:Int)/\∃v f,wr.heap[w1.heap.size]? =some (.cells (bG v (.slice none 0 0) (-1) 1 0 0 0 0) 67 (0,0))/\wr.ownsRow w.heap.size 36 1 v j f/\LS wr w.heap.size (List.replicate (s*512) 0) f/\
   ay wr 5 w.heap.size 512 (bs (List.replicate 512 0))/\bW w wr) (λi _=>s-(intOf i).toNat)
 case atStart=>exact⟨0,dU _,rfl, .slice none 0 0, [],l.o.1,World.ownsRow_nil _ _ _ _,λi G=>by simp at G,l.o.2.1,l.o.2.2⟩
 case round=>
  obtain⟨j,P,rfl,v,f,bt,az,wQ,d,b⟩:=hrel;have L:=aL bt;have Vt:f.length=j:=by simpa using az.1
  by_cases bm:j<s
  .have cw:(j:Int)<(s:Int):=(by omega);obtain⟨K,M,m⟩:∃a c,v= .slice a j c:=by
    obtain⟨_,⟨e,H⟩|⟨g,p,cur,e,_⟩⟩:=az
    .exact⟨none,0,by rw [e,H]⟩
    .exact⟨_,_,e⟩
   subst m;have I:=b.size;have bq:=yh az;go_wp2_with (at_builtin;refine wpList_append_own _ rfl _ _ 62 rfl w.heap.size 36 J (.slice none 0 0) 1 24 underlying62 rt gv dr ec rfl (by decide) _ _ _ rfl (bq.o.alloc _) (aD wr.heap.size 0) 1 1 [.slice (some (aD w.heap.size 0)) 512 512] rfl rfl (cell_one_new _ _ _) (by intro u n;simp at n;subst n;rfl) (by unfold maxLen;omega) (by omega) (by simp;omega) ?_);intro Q R cJ aO jx;obtain⟨C,bZ,rfl,_,_,_⟩:=ay.eW cJ (by rintro rfl;rcases cJ.2 with ⟨_,h⟩|⟨_,_,_,h,_⟩;omega;cases h);obtain⟨bt,az,wQ,d,b⟩:=(yh (aF bt (aF az (aF wQ (aF d b))))).out;obtain⟨N,O,q,t,x,y,z⟩:=CC ef b bt az wQ (bP _) (by rw [Vt,Rj s j bm];exact d) aO cJ;go_wp2;go_roundw;case rel=>exact⟨j+1,by omega,by go_num,_,_,(yh (aF q (aF t (aF x (aF (z _ _ _ d) y))))).out⟩
   case measure=>simp [intOf];omega
  .have cw:¬(j:Int)<(s:Int):=(by omega);have A:j=s:=(by omega);subst A;obtain⟨C,bZ,m,fU,fb,_⟩:=ay.eW az (by rintro rfl;rcases az.2 with ⟨_,h⟩|⟨_,_,_,h,_⟩;omega;cases h);rw [m] at bt;have jz:=CB (w0:=w) bt fb Vt wQ ef fU (by simp) D E;go_wp2;go_ret2;exact⟨_,rfl,(yh (aF jz b)).out⟩
theorem NI (a:Option Addr) (n c:Nat) (w:World) (h:n%512≠0):
  Calls prog 43 #[.slice a n c] w λe w'=>e= .returned (.tuple #[.pointer none,iV 2])/\w'=w:=by
 have b:(((n:Int)%512) != 0)=true:=by rw [fT];omega
 go_in;go_wp2;go_ret2;exact⟨rfl,rfl⟩
theorem Rl (a:Option Addr) (n c:Nat) (w:World) (i:n<=140737488355328) (h:n%512=0) (h0:n=0\/1048576<n):
  Calls prog 43 #[.slice a n c] w λe w'=>e= .returned (.tuple #[.pointer none,iV 10])/\w'=w:=by
 have f:(((n:Int)%512) != 0)=false:=by rw [Bool.eq_false_iff,ne_eq,fT];omega
 obtain⟨q,j⟩:∃q:Nat,((n:Int) / 512)=(q:Int):=⟨n / 512,by omega⟩;have d:wrap64 (q:Int)=(q:Int):=by unfold wrap64;omega
 rcases h0 with h0|h0
 .have b:(q:Int)<1:=by omega
  go_in;go_wp2;go_ret2;exact⟨rfl,rfl⟩
 .have b:¬(q:Int)<1:=by omega
  have g:2048<(q:Int):=by omega
  go_in;go_wp2;go_ret2;exact⟨rfl,rfl⟩
theorem Rm {b o n:Nat} {l:List Int} (h:∀i,i<n->w.cell? ⟨b,o+i,none⟩=some (.int .u8 (l.getD i 0))) (e:l.length=n) (d:k*512+512<=n):Src w (some ⟨b,o+k*512,none⟩) 512 (bI l k):=by
 refine⟨by simp [bI];omega,(λh=>by cases h),λx c i a=>?_⟩;cases c;rw [aK,Nat.add_assoc,h (k*512+i) (by omega)];simp [bI,List.getD,a]
set_option maxRecDepth 100000 in
theorem Rn (b o n c s:Nat) (l:List Int) (w:World) (R:∀i,i<n->w.cell? ⟨b,o+i,none⟩=some (.int .u8 (l.getD i 0))) (jT:l.length=n) (h:n=s*512) (iS:n<=c) (D:1<=s) (E:s<=2048):
  Calls prog 43 #[.slice (some (aD b o)) n c] w λe w'=>∃r,e= .returned (.tuple #[pQ r,iV 0])/\aB w' (λk=>w.heap.size<=k/\k<w'.heap.size) r s (DS.fresh l)/\bW w w':=by
 obtain⟨i0,rt,gv,dr,ec⟩:=info_parts td;have h':(((n:Int)%512) != 0)=false:=by rw [Bool.eq_false_iff,ne_eq,fT];omega
 have hq:((n:Int) / 512)=(s:Int):=by omega
 have Yw:¬(s:Int)<1:=by omega
 have h2':¬(2048:Int)<(s:Int):=by omega
 obtain⟨U,H⟩:=bL R h;clear R h;go_in;go_wp2;have bt:(w.alloc (.cells (bG (.slice none 0 0) (.slice none 0 0) (-1) 1 0 0 0 0) 67)).heap[w.heap.size]? =some (.cells (bG (.slice none 0 0) (.slice none 0 0) (-1) 1 0 0 0 0) 67 (0,0)):=heap_alloc_new _ _;have bz:bW w (w.alloc (.cells (bG (.slice none 0 0) (.slice none 0 0) (-1) 1 0 0 0 0) 67)):=(bi _ _).alloc (bP _) _;have A:=yh (aF bt bz);clear bt bz;go_loopw [6] (λi wr=>∃j:Nat,j<=s/\i=iV (j:Int)/\∃v z,wr.heap[w.heap.size]? =some (.cells (bG v (.slice none 0 0) (-1) 1 0 0 0 0) 67 (0,0))/\wr.ownsRow w.heap.size 36 1 v j z/\LS wr w.heap.size l z/\
   bW w wr) (λi _=>s-(intOf i).toNat)
 case atStart=>exact⟨0,dU _,rfl, .slice none 0 0, [],A.o.1,World.ownsRow_nil _ _ _ _,λi x=>by simp at x,A.o.2⟩
 case round=>
  clear A;obtain⟨j,hj,rfl,v,z,bt,az,wQ,d⟩:=hrel;have J:=aL bt;have Vt:z.length=j:=by simpa using az.1
  by_cases bm:j<s
  .have cw:(j:Int)<(s:Int):=(by omega);obtain⟨I,K,F⟩:∃a c,v= .slice a j c:=by
    obtain⟨_,⟨e,hn⟩|⟨g,Y,cur,e,_⟩⟩:=az
    .exact⟨none,0,by rw [e,hn]⟩
    .exact⟨_,_,e⟩
   subst F;have Ro:=H.o;have IV:j*512+512<=n:=(by omega);obtain⟨m,S⟩:∃m:Nat,m=j*512:=⟨_,rfl⟩;obtain⟨f,BZ⟩:∃f:Nat,f=m+512:=⟨_,rfl⟩;have x1:IntKind.i64.wrap ((j:Int)*512)=(m:Int):=(by rw [IntKind.wrap_i64];all_goals omega);have x2:IntKind.i64.wrap ((m:Int)+512)=(f:Int):=(by rw [IntKind.wrap_i64];all_goals omega);have x3:(f:Int)<=(c:Int):=(by omega);have x4:m<=f:=(by omega);have x5:¬c=m:=(by omega);have x6:f-m=512:=(by omega);have fJ:=Rm (λi x=>cell_later d (U.o i x)) jT IV;rw [<-S] at fJ;have rE:=(kN.1 bt).1;have y:=d.size;have Me:∀C,Calls prog 97 #[.slice (some ⟨b,o+m,none⟩) 512 C] wr.drew λe w'=>∃v,e= .returned v/\TwR wr (bI l j) v w':=λC=>
      (lH (some ⟨b,o+m,none⟩) 512 C (bI l j) wr.drew (by omega) fJ).mono (by rintro e w' ⟨g,rfl,D,E,u⟩;exact⟨_,rfl,g,rfl,D,E,⟨u.os,u.tape,u.output,u.size,u.block⟩⟩)
   have du:∀wx:World,wx.heap[w.heap.size]? =wr.heap[w.heap.size]?->wx.cell? (aD w.heap.size 0)=some (.slice I j K):=λwx e=>aL (e.trans bt);obtain⟨pS,t,q,bq,p,G⟩:=Yu du Me bt az wQ d;clear bt wQ d az Me du fJ Ro S BZ;go_wp2_with fail
   go_region_law
    (first
     |(refine u9 (by rfl) 97 #[.slice (some ⟨b,o+m,none⟩) 512 (c-m)] (by simp [go_sem]) (TwR wr (bI l j)) (t.o _) ?_;rintro _ w1 ⟨g,rfl,hg,T,aq⟩;have lG:w1.heap[w.heap.size]? =wr.heap[w.heap.size]? :=aq.block w.heap.size rE;have k1:=pS.o w1 lG;have k2:=λo=>pS.o (w1.alloc o) ((Below.heap_alloc w1 o w.heap.size (iP rE aq.size)).trans lG))
     |(refine step_append_lies _ (by rfl) _ _ _ (by rfl) w.heap.size 36 i0 _ 1 24 underlying62 rt gv dr ec rfl (by omega) (.slice I j K) j z (by rfl) (aC bq.o (λg e=>(Below.heap_alloc w1 _ _ (iP (bq.o.lt g e).2 aq.size)).trans (aq.block g (bq.o.lt g e).2)))
         (aD w1.heap.size 0) 1 1 [.slice (some (aD g 0)) 512 512] (by rfl) (by rfl) (cell_one_new _ _ _) (by simp [Value.oneCell']) (by omega) (by unfold maxLen;omega) (by omega) (by have:=aq.size;simp;omega) (w1.heap.size+1) (by simp) ?_;intro g2 bZ w2 fE jU uL oS
       obtain⟨Z,d2,L,M,N,O,d7⟩:=CC (bP _) (G.o.trans (aq.mono y)) (lG.trans q.o) (aC bq.o (λg e=>aq.block g (bq.o.lt g e).2)) (λi x=>by obtain⟨Q,c',e1,e2,P⟩:=p.o i x;exact⟨Q,c',e1,e2,P.agree (aq.block Q P.lt)⟩) (jQ y hg) (by rw [Vt];exact T) jU fE))
   all_goals
    have X:=yh (aF L (aF M (aF N O)));clear L M N O d7 T aq fE jU uL oS lG k1 k2 Z d2 q bq p G t pS J x1 x2 x3 x4 x5 x6;go_wp2;go_roundw;case rel=>exact⟨j+1,by omega,by go_num,_,_,X.o⟩
    case measure=>simp [intOf];omega
  .have cw:¬(j:Int)<(s:Int):=(by omega);have ej:j=s:=(by omega);subst ej;obtain⟨g2,bZ,F,fU,fb,_⟩:=ay.eW az (by rintro rfl;rcases az.2 with ⟨_,h⟩|⟨_,_,_,h,_⟩;omega;cases h);rw [F] at bt;have jz:=CB (w0:=w) bt fb Vt wQ (bP _) fU (by have:=H.o;omega) D E;have W:=yh (aF jz d);clear bt az wQ d fb jz J;go_wp2;go_ret2;exact⟨_,rfl,W.o⟩
theorem Rq (j:Nat):im.take (j*512) ++ bI im j=im.take ((j+1)*512):=by
 unfold bI;rw [show (j+1)*512=j*512+512 by omega,List.take_add]
theorem Kd {r:Nat} (hd:aB w F r s S):
  Calls prog 34 #[pQ r] w λe w'=>∃g c,e= .returned (.slice (some (aD g 0)) (s*512) c)/\w.heap.size<=g/\ay w' 5 g c (bs S.im)/\bW w w':=by
 obtain⟨gl,Y,ls,pv,xs,h⟩:=hd;obtain⟨K,I,gv,dr,ec⟩:=info_parts fW;obtain⟨M,km,l,H⟩:=cM (aL h.dj) h.ok.hi h.ok.len (yh h);clear h;obtain⟨m,z⟩:∃m:Nat,m=s*512:=⟨_,rfl⟩;have X:IntKind.i64.wrap ((s:Int)*512)=(m:Int):=by rw [IntKind.wrap_i64];all_goals omega
 have C:wrap64 ((s:Int)*512)=(m:Int):=by unfold wrap64;omega
 rw [<-z] at l⊢;have n:=yh z;have ao4:m<=1048576:=by omega
 clear z;go_in;go_wp2_with (at_make;refine wpList_make_own _ rfl _ _ 36 rfl w.heap.size 5 K (.int .u8 0) 1 underlying36 I gv dr _ _ _ m rfl rfl ?c1 ?c2 ?c3 (bP _) ?_);case c1=>first|rfl|omega
 case c2=>rw [ec];omega
 case c3=>unfold maxLen;omega
 intro w1 az aO;have a:=(bi _ w).grown aO (bP _) (by intro k d;cases d);have p:=yh (aF az a);clear az aO a X C;go_wp2;go_loopw [3,4] (λv i wr=>∃j:Nat,j<=s/\i=iV (j:Int)/\∃q,v= .slice (some (aD q 0)) (j*512) m/\w.heap.size<=q/\wr.ownsRow w.heap.size 5 1 v (j*512) (bs (S.im.take (j*512)))/\bW w wr) (λ_ i _=>s-(intOf i).toNat);case atStart=>exact⟨0,dU _,rfl,_,rfl,bP _,p.o.1,p.o.2⟩
 case round=>
  clear p;obtain⟨j,hj,rfl,q,rfl,J,az,a⟩:=hrel;have O:=cell_later a M;by_cases bm:j<s
  .have cw:(j:Int)<(s:Int):=(by omega);obtain⟨g,c,U,hF,A⟩:=H.o.zl j bm;have N:=cell_later a (H.o.last.cell U);have I1:(bI S.im j).length=512:=(by have:=n.o;simp [bI];omega);have kP:=(A.agree (a.block g A.lt)).src;rw [I1] at kP;obtain⟨k,d⟩:=bQ (j*512);have y:k+512<=m:=(by have:=n.o;omega);have b:(j+1)*512=k+512:=(by omega);rw [<-d] at az;have pz:bs (S.im.take k) ++ bs (bI S.im j)=bs (S.im.take (k+512)):=(by rw [<-b,<-Rq,<-d];simp [bs]);rw [<-d];obtain⟨bq,f,D,U3⟩:=Bg az kP b pz;clear az kP A d b pz;go_wp2_with (at_builtin;refine wpList_append_fits _ rfl _ _ 36 rfl w.heap.size 5 K 1 underlying36 I dr q k m (bs (S.im.take k)) rfl bq.o (aD g 0) 512 c (bs (bI S.im j)) rfl (by simp [bs,I1]) (λt u Q=>by obtain⟨h1,rfl⟩:=fq Q;exact f.o.2.2 _ rfl t (by omega)) (cB _) y ?_);intro W az aO;have bz:=a.grown aO a.size (by intro x T;cases T;exact J);have az:W.ownsRow w.heap.size 5 1 (.slice (some (aD q 0)) (k+512) m) (k+512) (bs (S.im.take (k+512))):=by
    have G:=U3.o;simp only [bs,List.map_take] at G az⊢;rw [G] at az;exact az
   have E:=yh (aF az bz);clear az aO bz bq f U3 a N O;go_wp2;go_roundw;case rel=>exact⟨j+1,by omega,by go_num,q,by rw [D.o],J,by rw [D.o];exact E.o.1,E.o.2⟩
   case measure=>simp [intOf];omega
  .have cw:¬(j:Int)<(s:Int):=(by omega);have P:j=s:=(by omega);subst P;rw [<-n.o,nh (by omega)] at az;obtain⟨Z,bZ,R,fU,fb,_⟩:=ay.eW az (by rintro h;cases h);have L:=yh (aF fU (aF fb a));rw [<-n.o];cases R;clear az fb a fU;go_wp2;go_ret;exact⟨_,_,rfl,L.o⟩
theorem aB.more {r:Nat} (h:aB w' F r s S):aB w' (more F w w') r s S:=by
 obtain⟨c,b,d,e,xs,h⟩:=h;exact⟨c,b,d,e,xs,h.mono (λ_ a=> .inl a) (λk a=>by rcases a with a|a;exact h.lt k a;exact a.2)⟩
theorem it (h:aB w F p s S) (x:Int) (a:Option Addr) (n c:Nat) (l:List Int) (m:Src w a n l) (aT:S.puts.length+1<=4000000000000):
  Calls prog 63 #[pQ p,iV x, .slice a n c] w λe w'=>e= .returned (iV (S.wr s x n l).1)/\aB w' (more F w w') p s (S.wr s x n l).2/\aa F w w':=by
 by_cases b:S.fuse=0
 .simp only [DS.wr,b,if_true];refine(Gm h x a n c b).mono ?_;rintro e w' ⟨rfl,rfl⟩;exact⟨rfl,h.more,aa.refl _ _⟩
 .by_cases d:x<0\/(s:Int)<=x
  .simp only [DS.wr,b,if_false,d,if_true];refine(DY h x a n c b d).mono ?_;rintro e w' ⟨rfl,f,g⟩;exact⟨rfl,f.more,g⟩
  .obtain⟨k,rfl⟩:∃k:Nat,x=(k:Int):=⟨x.toNat,by omega⟩;have j:k<s:=(by omega);by_cases i:n=512
   .subst i;simp only [DS.wr,b,if_false,d,ne_eq,not_true_eq_false,Int.toNat_natCast];obtain⟨y,rfl⟩:∃y,a=some y:=by
     cases a with
     |none=>have:=m.2.1 rfl;omega
     |some y=>exact⟨y,rfl⟩
    exact NC h k j b aT y c l m
   .simp only [DS.wr,b,if_false,d,ne_eq,i,not_false_eq_true,if_true];refine(By h k a n c b j i).mono ?_;rintro e w' ⟨rfl,f,g⟩;exact⟨rfl,f.more,g⟩
theorem fw (h:aB w F p s S) (aT:S.puts.length+1<=4000000000000):
  Calls prog 65 #[pQ p] w λe w'=>e= .returned (iV (S.fl s).1)/\aB w' F p s (S.fl s).2/\aa F w w':=by
 by_cases a:S.fuse=0
 .simp only [DS.fl,a,if_true];refine(Gp h a).mono ?_;rintro e w' ⟨rfl,rfl⟩;exact⟨rfl,h,aa.refl _ _⟩
 .simp only [DS.fl,a,if_false];exact NF h a (by omega)
theorem Ke {r:Nat} (hd:aB w F r s S) (aT:S.puts.length+1<=4000000000000) (a:Option Addr) (n c:Nat) (l:List P3) (Dt:kS w a n l) (b:n<=140737488355328):
  Calls prog 30 #[pQ r, .slice a n c] w λe w'=>e= .returned (.tuple #[])/\aB w' (more F w w') r s (S.il s l)/\aa F w w':=by
 by_cases d:S.puts.length=0
 .exact Gr hd d a n c l
 .exact Gs hd (by omega) aT a n c l Dt b
structure Two (w:World) (B:Nat) (F G:Nat->Prop) (p r s:Nat) (S T:DS):Prop where
 d:aP w F p s S
 e:aB w G r s T
 lo:B<=w.heap.size
 fF:∀k,F k->B<=k
 fG:∀k,G k->B<=k
 fD:∀k,F k->¬G k
theorem Two.begin {B r:Nat} (g:B<=w0.heap.size) (aq:bW w0 w1) (hd:aP w1 F p s S) (c:∀k,F k->w0.heap.size<=k) (aW:bW w1 w2) (d:aB w2 G r s S) (b:∀k,G k->w1.heap.size<=k):Two w2 B F G p r s S S:=
   ⟨hd.au (aa.ah (λ_=>False) aW) (λ_ _ h=>h),d,by have:=aq.size;have:=aW.size;omega,λk a=>by have:=c k a;omega,λk a=>by have:=b k a;have:=aq.size;omega,λk e f=>by have:=hd.lt k e;have:=b k f;omega⟩
def kI (w w':World) (B:Nat) (l:List Int) (d r:Value):Prop:=bW w w'/\((d= .pointer none/\r= .pointer none)\/∃F G p q s im,d=pQ p/\r=pQ q/\Two w' B F G p q s (DS.fresh im) (DS.fresh im)/\(im=l\/∃m,im=List.replicate m 0)/\(∀k,F k->w.heap.size<=k)/\(∀k,G k->w.heap.size<=k))
theorem NJ (bI:Int) (a:Option Addr) (n c:Nat) (l:List Int) (w:World) (B:Nat) (i:Src w a n l) (f:n<=140737488355328) (h:n%512≠0):
  Calls prog 15 #[iV bI, .slice a n c] w λe w'=>∃d r,e= .returned (.tuple #[d,r, .bool true])/\kI w w' B l d r:=by
 have h0:(0:Int)<(n:Int):=by omega
 go_in;go_wp2_with fail;refine(tf a n c l w f i).mono ?_;rintro e w1 ⟨g,rfl,k,m,aq⟩;go_wp2_with fail;refine(PE (some (aD g 0)) n n w1 h f).mono ?_;rintro e j ⟨rfl,b⟩;have ez:=b.symm;subst ez;go_wp2_with fail;refine(NI a n c w1 h).mono ?_;rintro e j ⟨rfl,b⟩;have ez:=b.symm;subst ez;go_wp2;go_ret3;exact⟨_,_,rfl,aq, .inl ⟨rfl,rfl⟩⟩
theorem Rr (bI:Int) (a:Option Addr) (n c:Nat) (l:List Int) (w:World) (B:Nat) (j:Src w a n l) (b:n<=140737488355328) (h:n%512=0) (i:1048576<n):
  Calls prog 15 #[iV bI, .slice a n c] w λe w'=>∃d r,e= .returned (.tuple #[d,r, .bool true])/\kI w w' B l d r:=by
 go_in;go_wp2_with fail;refine(tf a n c l w b j).mono ?_;rintro e w1 ⟨g,rfl,m,o,aq⟩;go_wp2_with fail;refine(UG (some (aD g 0)) n n w1 h (.inr i) b).mono ?_;rintro e k ⟨rfl,f⟩;have ez:=f.symm;subst ez;go_wp2_with fail;refine(Rl a n c w1 b h (.inr i)).mono ?_;rintro e k ⟨rfl,f⟩;have ez:=f.symm;subst ez;go_wp2;go_ret3;exact⟨_,_,rfl,aq, .inl ⟨rfl,rfl⟩⟩
theorem Kf (bI:Int) (b o n c s:Nat) (l:List Int) (w:World) (B:Nat) (G:B<=w.heap.size) (f:Src w (some (aD b o)) n l) (v:∀i,i<n->w.cell? ⟨b,o+i,none⟩=some (.int .u8 (l.getD i 0))) (iS:n<=c) (h:n=s*512) (t:1<=s) (u:s<=2048):
  Calls prog 15 #[iV bI, .slice (some (aD b o)) n c] w λe w'=>∃d r,e= .returned (.tuple #[d,r, .bool true])/\kI w w' B l d r:=by
 have h0:(0:Int)<(n:Int):=by omega
 have jT:=f.1;have C:=tf (some (aD b o)) n c l w (by omega) f;have j:=yh v;have q:=yh h;have iZ:n<=1048576:=by omega
 clear f v h;go_in;go_wp2_with fail;refine C.mono ?_;rintro e w1 ⟨g,rfl,H,A,aq⟩;have z:=UH (aD g 0) n n s l w1 q.o t u jT (λi y=>A.byte (by omega));clear A C;go_wp2_with fail;refine z.mono ?_;rintro e E ⟨p,rfl,hd,aW⟩;have Vw:=aq.trans (aW.mono aq.size);have m:=yh hd;clear z hd;go_wp2_with fail;refine(Rn b o n c s l E (λi y=>cell_later Vw (j.o i y)) jT q.o iS t u).mono ?_;rintro e F ⟨r,rfl,x,bz⟩;have ef:=aq.size;have bo:=aW.size;have D:Yh (kI w F B l (pQ p) (pQ r)):=⟨Vw.trans (bz.mono Vw.size), .inr ⟨_,_,p,r,s,_,rfl,rfl,Two.begin (B:=B) (by omega) aW m.o (λk a=>a.1) bz x (λk a=>a.1), .inl rfl,λk a=>by have:=a.1;omega,λk a=>by have:=a.1;omega⟩⟩;clear x bz Vw aW aq m j;go_wp2;go_ret3;exact⟨_,_,rfl,D.o⟩
theorem NK (bI:Int) (l:List Int) (a:Option Addr) (c:Nat) (w:World) (B:Nat) (h:bI<1\/2048<bI):
  Calls prog 15 #[iV bI, .slice a 0 c] w λe w'=>∃d r,e= .returned (.tuple #[d,r, .bool true])/\kI w w' B l d r:=by
 go_in;go_wp2_with fail;refine(Yv bI w h).mono ?_;rintro e f ⟨rfl,b⟩;have ez:=b.symm;subst ez;go_wp2_with fail;refine(Vu bI w h).mono ?_;rintro e f ⟨rfl,b⟩;have ez:=b.symm;subst ez;go_wp2;go_ret3;exact⟨_,_,rfl,bi _ _, .inl ⟨rfl,rfl⟩⟩
theorem NL (s:Nat) (l:List Int) (a:Option Addr) (c:Nat) (w:World) (B:Nat) (j:B<=w.heap.size) (f:1<=s) (g:s<=2048):
  Calls prog 15 #[iV (s:Int), .slice a 0 c] w λe w'=>∃d r,e= .returned (.tuple #[d,r, .bool true])/\kI w w' B l d r:=by
 go_in;go_wp2_with fail;refine(PD s w f g).mono ?_;rintro e n ⟨p,rfl,hd,aW⟩;go_wp2_with fail;refine(Vv s n f g).mono ?_;rintro e o ⟨r,rfl,m,bz⟩;have bo:=aW.size;have i:(kI w o B l (pQ p) (pQ r)):=⟨aW.trans (bz.mono aW.size), .inr ⟨_,_,p,r,s,_,rfl,rfl,Two.begin j aW hd (λk b=>b.1) bz m (λk b=>b.1), .inr ⟨_,rfl⟩,λk b=>b.1,λk b=>by have:=b.1;omega⟩⟩;go_wp2;go_ret3;exact⟨_,_,rfl,i⟩
theorem NM (bI:Int) (a:Option Addr) (n c:Nat) (l:List Int) (w:World) (B:Nat) (g:B<=w.heap.size) (f:Src w a n l) (i:n<=140737488355328) (iS:n<=c):
  Calls prog 15 #[iV bI, .slice a n c] w λe w'=>∃d r,e= .returned (.tuple #[d,r, .bool true])/\kI w w' B l d r:=by
 by_cases h0:n=0
 .subst h0;by_cases h:bI<1\/2048<bI
  .exact NK bI l a c w B h
  .obtain⟨s,rfl⟩:∃s:Nat,bI=(s:Int):=⟨bI.toNat,by omega⟩;exact NL s l a c w B g (by omega) (by omega)
 .by_cases h:n%512=0
  .by_cases j:1048576<n
   .exact Rr bI a n c l w B f i h j
   .obtain⟨x,rfl⟩:∃x,a=some x:=by
     cases a with
     |none=>exact absurd (f.2.1 rfl) h0
     |some x=>exact⟨x,rfl⟩
    obtain⟨b,o,rfl,k⟩:=f.spot (by omega);exact Kf bI b o n c (n / 512) l w B g f k iS (by omega) (by omega) (by omega)
  .exact NJ bI a n c l w B f i h
section
section
variable {w w':World} {F G:Nat->Prop} {r s k:Nat} {S:DS} {L:LG}
theorem aB.later (h:aB w F r s S) (a:bW w w'):aB w' F r s S:=h.au (aa.ah (λ_=>False) a) (λ_ _ h=>h)
theorem aB.mono (h:aB w F r s S) (c:∀k,F k->G k) (d:∀k,G k->k<w.heap.size):aB w G r s S:=by
 obtain⟨b,a,e,f,xs,h⟩:=h;exact⟨b,a,e,f,xs,h.mono c d⟩
theorem CD (h:aB w F r s S) (f n:Int):
  Calls prog 116 #[pQ r,iV f,iV n] w λe w'=>e= .returned (iV (cq S s f n))/\w'=w:=by
 have p:=h.ok.hi;have c:=mv h;have b:=j3 h;unfold cq;by_cases d:S.fuse=0
 .rw [show (S.fuse == 0)=true by simp [d]] at b;rw [aE d];go_in;go_wp2_with (first|(go_at_call 11;refine c.mono ?_;rintro e w' ⟨rfl,a⟩;subst a)|(go_at_call 36;refine b.mono ?_;rintro e w' ⟨rfl,a⟩;subst a));go_ret;exact⟨rfl,rfl⟩
 .rw [show (S.fuse == 0)=false by simp [d]] at b;rw [aA d];by_cases g:f<0\/(s:Int)<=f
  .rw [aE g];by_cases k:f<0
   .clear g;go_in;go_wp2_with (first|(go_at_call 11;refine c.mono ?_;rintro e w' ⟨rfl,a⟩;subst a)|(go_at_call 36;refine b.mono ?_;rintro e w' ⟨rfl,a⟩;subst a));go_ret;exact⟨rfl,rfl⟩
   .have l:(s:Int)<=f:=(by omega);go_in;go_wp2_with (first|(go_at_call 11;refine c.mono ?_;rintro e w' ⟨rfl,a⟩;subst a)|(go_at_call 36;refine b.mono ?_;rintro e w' ⟨rfl,a⟩;subst a));go_ret;exact⟨rfl,rfl⟩
  .rw [aA g];have k:¬f<0:=(by omega);have l:¬(s:Int)<=f:=(by omega);by_cases i:n<18\/256<n
   .rw [aE i];by_cases m:n<18
    .clear i;go_in;go_wp2_with (first|(go_at_call 11;refine c.mono ?_;rintro e w' ⟨rfl,a⟩;subst a)|(go_at_call 36;refine b.mono ?_;rintro e w' ⟨rfl,a⟩;subst a));go_ret;exact⟨rfl,rfl⟩
    .have o:256<n:=(by omega);go_in;go_wp2_with (first|(go_at_call 11;refine c.mono ?_;rintro e w' ⟨rfl,a⟩;subst a)|(go_at_call 36;refine b.mono ?_;rintro e w' ⟨rfl,a⟩;subst a));go_ret;exact⟨rfl,rfl⟩
   .rw [aA i];have m:¬n<18:=(by omega);have o:¬256<n:=(by omega);by_cases j:(s:Int)<f+2+n
    .rw [aE j];go_in;go_wp2_with (first|(go_at_call 11;refine c.mono ?_;rintro e w' ⟨rfl,a⟩;subst a)|(go_at_call 36;refine b.mono ?_;rintro e w' ⟨rfl,a⟩;subst a));go_ret;exact⟨rfl,rfl⟩
    .rw [aA j];go_in;go_wp2_with (first|(go_at_call 11;refine c.mono ?_;rintro e w' ⟨rfl,a⟩;subst a)|(go_at_call 36;refine b.mono ?_;rintro e w' ⟨rfl,a⟩;subst a));go_ret;exact⟨rfl,rfl⟩
abbrev lrC (r:Nat) (L:LG):Array Value:= #[pQ r,iV L.life,iV (L.f:Int),iV (L.n:Int),iV (L.ep:Int),iV (L.tail:Int),iV (L.head:Int),iV (L.top:Int), .bool L.begun]
def cH (w:World) (k r:Nat) (L:LG):Prop:=w.heap[k]? =some (.cells (lrC r L) 200 (0,0))
theorem cH.lt (h:cH w k r L):k<w.heap.size:=aw h
theorem cH.au (h:cH w k r L) (a:aa G w w') (b:¬G k):cH w' k r L:=(a.block k h.lt b).trans h
theorem cH.later (h:cH w k r L) (a:bW w w'):cH w' k r L:=(a.block k h.lt).trans h
theorem cH.c0 (h:cH w k r L):w.cell? (aD k 0)=some (pQ r):=aL h
theorem cH.c1 (h:cH w k r L):w.cell? (aD k 1)=some (iV L.life):=bD h
theorem cH.c2 (h:cH w k r L):w.cell? (aD k 2)=some (iV (L.f:Int)):=bH h
theorem cH.c3 (h:cH w k r L):w.cell? (aD k 3)=some (iV (L.n:Int)):=fI h
theorem cH.c4 (h:cH w k r L):w.cell? (aD k 4)=some (iV (L.ep:Int)):=gz h
theorem cH.c5 (h:cH w k r L):w.cell? (aD k 5)=some (iV (L.tail:Int)):=rU h
theorem cH.c6 (h:cH w k r L):w.cell? (aD k 6)=some (iV (L.head:Int)):=wG h
theorem cH.c7 (h:cH w k r L):w.cell? (aD k 7)=some (iV (L.top:Int)):=ri h
theorem cH.c8 (h:cH w k r L):w.cell? (aD k 8)=some (.bool L.begun):=Dg h
theorem cH.fz (h:cH w k r L) (j:Nat):w.frozen? (aD k j)=false:=ae h j
theorem vd (h:aB w F r s S) (b:cH w k r L):
  Calls prog 169 #[pQ k] w λe w'=>e= .returned (.bool (L.dead S))/\bW w w':=by
 have a:=λn=>j3 (h.later (below_drewN (bi w.heap.size w) n));have c:=λn=>nE (h.later (below_drewN (bi w.heap.size w) n));have d:=b.c0;have f:=b.c1;unfold LG.dead;by_cases q:S.fuse=0
 .rw [show (S.fuse == 0)=true by simp [q]] at a⊢;go_in;go_wp2_with fail;go_quiet ((go_at_call 36;exact Calls.quiet_of_same (a _)));go_wp2;go_ret;exact⟨rfl,below_drewN (bi _ _) _⟩
 .rw [show (S.fuse == 0)=false by simp [q]] at a⊢;go_in;go_wp2_with fail;go_quiet (first|(go_at_call 36;exact Calls.quiet_of_same (a _))|(go_at_call 23;exact Calls.quiet_of_same (c _)));go_wp2;go_ret;exact⟨rfl,below_drewN (bi _ _) _⟩
theorem lP (h:aB w F r s S) (f:cH w k r L):
  Calls prog 172 #[pQ k] w λe w'=>e= .returned (iV (L.bd S))/\bW w w':=by
 have a:=vd h f;unfold LG.bd;have c:=yh f;cases hd:L.dead S
 .rw [hd] at a;cases d:L.begun
  .rw [aA (by decide),aA (by decide)];go_in;go_wp2_with fail;refine bE a λw' eC=>?_;have b:=(c.o.later eC).c8;rw [d] at b;go_wp2;go_ret;exact⟨rfl,(yh eC).out⟩
  .rw [aA (by decide),aE rfl];go_in;go_wp2_with fail;refine bE a λw' eC=>?_;have b:=(c.o.later eC).c8;rw [d] at b;go_wp2;go_ret;exact⟨rfl,(yh eC).out⟩
 .rw [hd] at a;rw [aE rfl];go_in;go_wp2_with fail;refine bE a λw' eC=>?_;go_wp2;go_ret;exact⟨rfl,(yh eC).out⟩
theorem NN (h:aB w F r s S) (a:cH w k r L) (c:L.Ok s):
  Calls prog 141 #[pQ k] w λe w'=>e= .returned (.tuple #[iV (L.room S).1,iV (L.room S).2])/\bW w w':=by
 obtain⟨f,g,i,j,l⟩:=ey (lP h a) c.n2 c.th c.hi c.hn;unfold LG.room;generalize L.bd S=U at*;by_cases q:U=0
 .subst q;rw [aA (by decide)];go_in;go_wp2_with fail;refine bE f λw1 b=>?_;have a:=(yh a).out.later b;obtain⟨m,n,o⟩:=jw a.c3 a.c5 a.c6;go_wp2_with fail;try go_quiet (fail)
  go_wp2;go_ret2;exact⟨rfl,below_drewN (yh b).out _⟩
 .rw [aE q];have d:(U == 0)=false:=by rw [eG];exact q
  go_in;go_wp2_with fail;refine bE f λw1 b=>?_;go_wp2;go_ret2;exact⟨rfl,(yh b).out⟩
theorem Gu (h:aB w F r s S) (aT:S.puts.length+1<=4000000000000):
  Calls prog 65 #[pQ r] w λe w'=>e= .returned (iV (S.fl s).1)/\aB w' F r s (S.fl s).2/\aa F w w':=by
 exact fw h aT
theorem CE (h:aB w F r s S) (b:cH w k r L) (i:¬F k) (aT:S.puts.length+1<=4000000000000):
  Calls prog 129 #[pQ k] w λe w'=>e= .returned (iV (L.sync S s).1)/\aB w' F r s (L.sync S s).2/\cH w' k r L/\aa F w w':=by
 have g:=lP h b;have f:=yh b;have c:=yh h;unfold LG.sync;generalize L.bd S=U at*;by_cases q:U=0
 .subst q;rw [aA (by decide)];go_in;go_wp2_with fail;refine bE g λw1 a=>?_;have b:=f.o.later a;have j:=b.c0;go_wp2_with fail;refine(Gu (c.o.later a) aT).mono ?_;rintro e l ⟨rfl,cC,aX⟩;go_wp2;go_ret;exact⟨rfl,(yh (aF cC (aF ((yh b).out.au aX i) ((yh (aa.ah F a)).out.trans aX (λ_ h=> .inl h))))).out⟩
 .rw [aE q];have d:(U == 0)=false:=by rw [eG];exact q
  go_in;go_wp2_with fail;refine bE g λw1 a=>?_;go_wp2;go_ret;exact⟨rfl,(yh (aF (c.o.later a) (aF (f.o.later a) (aa.ah F a)))).out⟩
end
end
end Go.Proofs.YtenlkgicpllbhaaGreat
