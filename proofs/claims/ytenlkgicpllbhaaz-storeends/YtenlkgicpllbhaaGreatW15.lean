import Derived.Test.YtenlkgicpllbhaaGreatW01
import Derived.Test.YtenlkgicpllbhaaGreatW10
import Derived.Test.YtenlkgicpllbhaaGreatW12
import Derived.Test.YtenlkgicpllbhaaGreatW14
set_option maxRecDepth 20000
set_option maxHeartbeats 8000000
set_option linter.all false
namespace Go.Proofs.YtenlkgicpllbhaaGreat
open Go.Proofs.Tryz
open Go.RowKit Go.Maps
variable {l:List Int} {c bZ g g2 i n:Nat} {w w1 w2 w3:World}
theorem GY (x:Int) (h:w.heap[g]? =some (.cells (bs l).toArray 5 (0,0))):
    (w.setCell ⟨g,i,none⟩ (.int .u8 x)).heap[g]? =some (.cells (bs (l.set i x)).toArray 5 (0,0)):=by
 rw [heap_setCell_same _ _ _ _ _ _ h];congr 2;apply Array.ext';simp [bs,List.map_set]
def Full (w:World) (g:Nat) (l:List Int):Prop:=w.heap[g]? =some (.cells (bs l).toArray 5 (0,0))
theorem qU (g N c:Nat) (A X C:List Int) (a n v:Nat) (w:World) (h:Full w g (A ++ (X ++ C))) (t:A.length=a) (G:X.length=n) (b:(A ++ (X ++ C)).length=N) (E:N<=1000000) (x:v<=9223372036854775807):
  Calls prog 118 #[.slice (some (aD g 0)) N c,iV (a:Int),iV (n:Int),iV (v:Int)] w λe w'=>e= .returned (.tuple #[])/\Full w' g (A ++ (leb n v ++ C))/\aa (λj=>j=g) w w':=by
 have q:a+n<=N:=by simp at b;omega
 go_in;go_wp2;go_loopw [3,8] (λr i wr=>∃k:Nat,k<=n/\i=iV k/\r=iV ((v / 256 ^ k:Nat):Int)/\Full wr g (A ++ ((leb k v ++ X.drop k) ++ C))/\aa (λj=>j=g) w wr) (λ_ i _=>n-(intOf i).toNat);case atStart=>exact⟨0,dU _,rfl,by simp,by simpa [leb] using h,aa.refl _ _⟩
 case round=>
  obtain⟨k,D,rfl,rfl,aZ,xM⟩:=hrel;by_cases bm:k<n
  .have cw:(k:Int)<(n:Int):=(by omega);have s:v / 256 ^ k<=9223372036854775807:=jQ (Nat.div_le_self _ _) x;have m:v / 256 ^ (k+1)=v / 256 ^ k / 256:=(by rw [Nat.div_div_eq_div_mul,Nat.pow_succ]);have d:(A ++ ((leb k v ++ X.drop k) ++ C)).length=N:=(by rw [<-b];simp [aH];omega);obtain⟨u0,y⟩:∃u,wr.cell? ⟨g,a+k,none⟩=some u:=⟨_,aj aZ (j:=a+k) (u:=(bs (A ++ ((leb k v ++ X.drop k) ++ C)))[a+k]'(by simp only [bs,List.length_map];omega)) (by simp [bs])⟩;have z:=ae aZ (a+k);have oT:=GY (i:=a+k) ((v / 256 ^ k%256:Nat):Int) aZ;have o:(A ++ ((leb k v ++ X.drop k) ++ C)).set (a+k) ((v / 256 ^ k%256:Nat):Int)=A ++ ((leb (k+1) v ++ X.drop (k+1)) ++ C):=by
    rw [List.set_append_right _ _ (by omega),t,show a+k-a=k by omega,List.append_assoc,List.set_append_right _ _ (by rw [aH];omega),aH,Nat.sub_self,vo];rw [List.drop_eq_getElem_cons (show k<X.length by omega),List.cons_append,List.set_cons_zero];simp
   rw [o] at oT;have l:=(xM.trans (aa.setCell (F:=λj=>j=g) (p:=⟨g,a+k,none⟩) wr rfl (.int .u8 ((v / 256 ^ k%256:Nat):Int))) (λ_ h=> .inl h));generalize v / 256 ^ k=Q at*;have H:(Q:Int).tmod 256=((Q%256:Nat):Int):=(by rw [Int.tmod_eq_emod_of_nonneg (by omega)];omega);have I:(Q:Int).tdiv 256=((Q / 256:Nat):Int):=(by rw [Int.tdiv_eq_ediv_of_nonneg (by omega)];omega);go_wp2;go_roundw;case rel=>exact⟨k+1,by omega,by go_num,by rw [m];simp,oT,l⟩
   case measure=>simp [intOf];omega
  .have cw:¬(k:Int)<(n:Int):=(by omega);have TZ:k=n:=(by omega);have f:(Full wr g (A ++ (leb n v ++ C))/\aa (λj=>j=g) w wr):=by
    refine⟨?_,xM⟩;rw [TZ,List.drop_of_length_le (by omega),List.append_nil] at aZ;exact aZ
   go_wp2
   go_end0
   exact⟨rfl,f⟩
theorem sJ (l q m r n c d:Nat) (b a:List Int) (w:World) (cm:b.length=n) (fy:a.length=n) (z:n<=1000000) (u:∀i,i<n->w.cell? ⟨l,q+i,none⟩=some (.int .u8 (b.getD i 0))) (v:∀i,i<n->w.cell? ⟨m,r+i,none⟩=some (.int .u8 (a.getD i 0))):
  Calls prog 133 #[.slice (some (aD l q)) n c, .slice (some (aD m r)) n d] w λe w'=>e= .returned (.bool (decide (b=a)))/\bW w w':=by
 go_in;go_wp2;go_loopw [5] (λi wr=>∃k:Nat,k<=n/\i=iV k/\bW w wr/\∀j,j<k->b.getD j 0=a.getD j 0) (λi _=>n-(intOf i).toNat);case atStart=>exact⟨0,dU _,rfl,bi _ _,λj x=>by omega⟩
 case round=>
  obtain⟨k,y,rfl,f,pK⟩:=hrel;have adJ:=yh pK;by_cases bm:k<n
  .have p:=cell_later f ((yh u).out k bm);have t:=cell_later f ((yh v).out k bm);have cw:(k:Int)<(n:Int):=(by omega);by_cases g:b.getD k 0=a.getD k 0
   .have s:=yh g;rw [g] at p;have wi:(a.getD k 0 != a.getD k 0)=false:=(by simp);generalize a.getD k 0=X at p t wi;go_wp2;go_quiet (fail);go_wp2;go_roundw;case rel=>
     refine⟨k+1,by omega,by go_num,below_drewN f _,λj x=>?_⟩;by_cases e:j=k
     .rw [e];exact s.o
     .exact adJ.o j (by omega)
    case measure=>simp [intOf];omega
   .have hd:decide (b=a)=false:=by
     rw [decide_eq_false_iff_not];intro e;exact g (by rw [e])
    have dG:(b.getD k 0 != a.getD k 0)=true:=(by rw [fT];exact g);generalize b.getD k 0=X at*;generalize a.getD k 0=Y at*;go_wp2;go_quiet (fail);go_wp2;go_ret;exact⟨by rw [(yh hd).out];rfl,below_drewN f _⟩
  .have cw:¬(k:Int)<(n:Int):=(by omega);have hd:Yh (decide (b=a)=true):=by
    show decide (b=a)=true;rw [decide_eq_true_iff];apply List.ext_getElem (by omega);intro i Xa Dm;have:=adJ.o i (by omega);simpa [List.getD,Xa,Dm] using this
   go_wp2;go_ret;exact⟨by rw [hd.out];rfl,f⟩
section
def fA (w:World) (X:Nat->Prop) (k t:Nat) (G:SG) (tv:Value) (r:Int×TG) (e:Ending) (w':World):Prop:=
 e= .returned (iV r.1)/\(∃tv' KB,nT w' (more X w w') k t G r.2 tv' KB/\(tv'.ownBlock=tv.ownBlock\/∀g,tv'.ownBlock=some g->w.heap.size<=g))/\aa (λj=>j=t\/tv.ownBlock=some j) w w'
section
variable {w w' w1 w2:World} {F X:Nat->Prop} {r s k kl t hm:Nat} {S:DS} {G:SG} {T:TG} {v pv nv tv:Value} {ps us:List (Nat×List Int)} {xs:List Value}
theorem nT.mono {Y:Nat->Prop} (h:nT w X k t G T tv us) (a:∀g,X g->Y g):nT w Y k t G T tv us:=⟨h.tx,a _ h.xt,h.pl.mono a,h.nd,h.pu,h.kb,h.D6⟩
theorem fA.same (b:nT w X k t G T tv us) (a:bW w w') (x:Int):fA w X k t G tv (x,T) (.returned (iV x)) w':=
   ⟨rfl,⟨tv,us,(b.later a).mono (λ_ h=> .inl h), .inl rfl⟩,aa.ah _ a⟩
theorem fA.spoilt (c:nT w X k t G T tv us) (a:bW w w1) (x:Int):fA w X k t G tv (x,{T with bad:=x}) (.returned (iV x)) (w1.setCell ⟨t,3,none⟩ (.int .i64 x)):=by
 have h:=c.later a;have b:=aa.setCell (F:=λj=>j=t) w1 (p:=(aD t 3)) rfl (iV x);refine⟨rfl,⟨tv,us,⟨h.tx.bad x, .inl h.xt,(h.pl.other h.tx (by decide) (by decide) b).mono (λ_ h=> .inl h),h.nd,h.pu,h.kb,h.D6⟩, .inl rfl⟩,(aa.ah _ a).trans b (λ_ h=> .inl (.inl h))⟩
theorem nf.puts (h:nf w t k tv T) (v:Value):nf (w.setCell ⟨t,1,none⟩ v) t k v T:=(heap_setCell_same _ _ 1 _ _ _ h).trans (by simp)
theorem fA.set (D:nT w X k t G T tv us) (u:T.ended=false) (o:bW w w1) {b:Nat} (f:i<us.length) (m:us[i].1=b) {a:Nat} (v:w.heap.size<=g) (r:ay w1 5 g 512 (bs l)) (z:l.length=512/\Bytes l) (s:tv= .slice (some (aD a 0)) n c):
  fA w X k t G tv (0,{T with puts:=CM.put T.puts b l}) (.returned (iV 0)) (w1.setCell ⟨a,i*2+1,none⟩ (.slice (some ⟨g,0,none⟩) 512 512)):=by
 have h:=D.later o;obtain⟨xs,C⟩:=h.pl;have uK:=(C.mono (Y:=more X w w1) (λ_ h=> .inl h)).store f m (.inr ⟨v,r.lt⟩) r z s;have ef:(w1.setCell ⟨a,i*2+1,none⟩ (.slice (some ⟨g,0,none⟩) 512 512)).heap.size=w1.heap.size:=by simp [World.setCell]
 have A:more X w (w1.setCell ⟨a,i*2+1,none⟩ (.slice (some ⟨g,0,none⟩) 512 512))=more X w w1:=by unfold more;rw [ef]
 have az:tv.ownBlock=some a:=by rw [s];rfl
 have q:=aa.setCell (F:=λj=>tv.ownBlock=some j) w1 (p:=⟨a,i*2+1,none⟩) az (.slice (some (aD g 0)) 512 512);refine⟨rfl,⟨tv,us.set i (b,l),?_, .inl rfl⟩,(aa.ah _ o).trans q (λ_ h=> .inl (.inr h))⟩;rw [A];refine⟨h.tx.au q (λe=>h.pl.ne e h.tx (by decide) rfl), .inl h.xt,⟨_,uK⟩,by rw [RZ f m];exact h.nd,λ_=>?_,λx d=>?_,by rw [List.length_set];exact h.D6⟩
 .show CM.put T.puts b l=_;rw [RY f m h.nd,h.pu u]
 .rcases List.mem_or_eq_of_mem_set d with d|d
  .exact h.kb x d
  .have:=h.kb _ (List.getElem_mem f);rw [d];show b<G.y.blocks;omega
theorem fA.push (r:nT w X k t G T tv us) (s:T.ended=false) (d:bW w w1) {o:Obj} {b:Nat} (kv:b<G.y.blocks) (z:PL w1 X tv us xs) (u:w.heap.size<=g) (n:ay w1 5 g 512 (bs l)) (v:l.length=512/\Bytes l) (iZ:fnd us b=none) (ZE:us.length<16)
    (az:w2.ownsRow 0 166 2 (.slice (some (aD g2 0)) (us.length+1) bZ) (us.length+1) (xs ++ [iV (b:Int), .slice (some (aD g 0)) 512 512]))
    (aO:(w1.alloc o).grownBy w2 tv.ownBlock) (ic:tv.ownBlock=some g2\/g2=w1.heap.size+1):
  w2.heap[t]? =w.heap[t]?/\fA w X k t G tv (0,{T with puts:=CM.put T.puts b l}) (.returned (iV 0)) (w2.setCell ⟨t,1,none⟩ (.slice (some ⟨g2,0,none⟩) (us.length+1) bZ)):=by
 have h:=r.later d;have D:=d.size;obtain⟨uK,aX⟩:=PL.push (b:=b) (z.mono (Y:=more X w w1) (λ_ h=> .inl h)) (.inr ⟨u,n.lt⟩) n v az aO ic;have ec:=aX.size;have Af:=h.tx.au aX (λe=>h.pl.ne e h.tx (by decide) rfl);have m:=aa.setCell (F:=λj=>j=t) w2 (p:=(aD t 1)) rfl (.slice (some (aD g2 0)) (us.length+1) bZ);have ef:(w2.setCell ⟨t,1,none⟩ (.slice (some ⟨g2,0,none⟩) (us.length+1) bZ)).heap.size=w2.heap.size:=by simp [World.setCell]
 refine⟨(aX.block t h.tx.lt (λe=>h.pl.ne e h.tx (by decide) rfl)).trans (d.block t r.tx.lt),rfl,⟨_,us ++ [(b,l)],⟨Af.puts _, .inl h.xt,(Pl.other ⟨_,uK⟩ Af (by decide) (by decide) m).mono (λj a=>?_),?_,λ_=>?_,λx c=>?_,by rw [dT];simp;omega⟩,?_⟩,((aa.ah _ d).trans aX (λ_ h=> .inl (.inr h))).trans m (λ_ h=> .inl (.inl h))⟩
 .rcases a with (a|a)|a
  .exact .inl a
  .exact .inr ⟨a.1,by rw [ef];omega⟩
  .exact .inr ⟨by omega,by rw [ef];exact a.2⟩
 .rw [List.map_append,List.nodup_append];refine⟨h.nd,by simp,λx c y C e=>?_⟩;obtain⟨q,A,rfl⟩:=List.mem_map.1 c;have f:y=b:=by simpa using C
  subst f;obtain⟨j,a,rfl⟩:=List.mem_iff_getElem.1 A;have:=ww a e;rw [iZ] at this;cases this
 .show CM.put T.puts b l=_;rw [Od,h.pu s]
 .rcases List.mem_append.1 c with c|c
  .exact h.kb x c
  .rw [List.mem_singleton.1 c];exact kv
 .rcases ic with i|i
  .exact .inl i.symm
  .refine .inr (λj a=>?_);have e:j=g2:=(by simpa [Value.ownBlock] using a.symm);omega
end
end
section
section
variable {w w' w1 w2:World} {F X:Nat->Prop} {r s k kl t hm:Nat} {S:DS} {G:SG} {T:TG} {v pv nv tv:Value} {ps us:List (Nat×List Int)} {xs:List Value}
theorem Pl.frz (h:Pl w X v ps) (a:v.ownBlock=some g) (j:Nat):w.frozen? (aD g j)=false:=by
 obtain⟨xs,h⟩:=h;obtain⟨_,⟨rfl,_⟩|⟨d,b,cur,rfl,_,c,_⟩⟩:=h.own
 .simp [Value.ownBlock] at a
 .simp [Value.ownBlock] at a;subst a;exact ae c j
set_option maxRecDepth 100000 in
theorem R3 (hd:aB w F r s S) (h:iz w F X r s S k kl G pv ps hm nv) (u:nT w X k t G T tv us) (b:Int) (a:Option Addr) (x c:Nat) (d:List Int) (K:Src w a x d) (hx:x<=140737488355328) (wX:Bytes d) (aT:S.puts.length<=4000000000000) (VE:ps.length<=4000000000000):
  Calls prog 82 #[pQ t,iV b, .slice a x c] w λe w'=>fA w X k t G tv (T.put G S b d) e w':=by
 have z:=j5 hd h u.tx;have Fb:=K.1;obtain⟨R,n⟩:=bQ (T.put G S b d);rw [<-n];unfold TG.put at n;by_cases q:T.state G S=0
 .have dq:(T.state G S != 0)=false:=by rw [q];rfl
  by_cases q1:b<0
  .have A:T.refusal G S b=11:=(by unfold TG.refusal;rw [aA (λh=>h q),aE (.inl q1)]);rw [A,aE (by decide)] at n;obtain⟨C,f⟩:=bL n u;clear A n q;generalize T.state G S=E at*;clear h u hd K;go_in;go_wp2_with fail;refine bE z λw1 aq=>?_;have L:=yh aq;clear z aq;go_wp2;go_ret;rw [C.o];exact fA.same f.o L.o 11
  .by_cases q2:(G.y.blocks:Int)<=b
   .have A:T.refusal G S b=11:=(by unfold TG.refusal;rw [aA (λh=>h q),aE (.inr q2)]);rw [A,aE (by decide)] at n;obtain⟨C,f,O⟩:=jS n u h.st;clear A n q;generalize T.state G S=E at*;clear h u hd K;go_in;go_wp2_with fail;refine bE z λw1 aq=>?_;have c0:=(f.o.tx.later aq).c0;have c4:=(O.o.later aq).c4;have L:=yh aq;clear z aq;go_wp2;go_ret;rw [C.o];exact fA.same f.o L.o 11
   .have A:T.refusal G S b=0:=(by unfold TG.refusal;rw [aA (λh=>h q),aA (λh=>h.elim q1 q2)]);rw [A,aA (λh=>h rfl)] at n;obtain⟨r1,r2,_,_,_⟩:=iK A;obtain⟨b,rfl⟩:∃b':Nat,b=(b':Int):=⟨b.toNat,by omega⟩;rw [Int.toNat_natCast] at n;have hb:b<G.y.blocks:=(by omega);by_cases q3:x=512
    .subst q3;rw [aA (λh=>h Fb)] at n;have hG:=λ(w1:World) (aq:bW w w1)=>Ae (hd.later aq) (h.later aq) (u.later aq) (b:Int) aT VE;rw [A,Int.toNat_natCast] at hG;have mL:(T.jN G S b).length=512:=by
      unfold TG.jN;rw [u.pu r2,gL];cases hf:fnd us b with
      |none=>exact iz.ZN hd h hb
      |some l=>exact(u.pl.len _ (EZ hf)).1
     obtain⟨ab,ao,rfl⟩:=cT K (by omega);have XO:=λ(H:World) (aW:bW w H) (g:Nat) (N:ay H 5 g 512 (bs (T.jN G S b)))=>sJ g 0 ab ao 512 512 c (T.jN G S b) d H mL Fb (by omega) (λi hi=>by have:=N.src.2.2 _ rfl i (by rw [mL];exact hi);rwa [aK] at this) (λi hi=>by have:=(K.later aW).2.2 _ rfl i hi;rwa [aK] at this);have Me:=λ(H:World) (aW:bW w H)=>lH (some (aD ab ao)) 512 c d H (by omega) (K.later aW);obtain⟨f,O,HG,U,W,sB⟩:=kQ (yh u) (yh h.st) (yh hG) (yh XO) (yh Me) (u.pu r2);have adK:CM.get T.puts b=fnd us b:=(by rw [sB,gL]);have adL:T.puts.length=us.length:=(by rw [sB,vu u.nd]);rw [adK,adL] at n;clear A XO Me hG q sB adK adL r1;generalize T.state G S=E at*;clear h u hd K;by_cases Q:d=T.jN G S b
     .have dd:decide (T.jN G S b=d)=true:=(by rw [<-Q];simp);rw [aE Q] at n;have C:=yh n;clear n Q;go_in;go_wp2_with fail;refine bE z λw1 aq=>?_;have c0:=(f.o.tx.later aq).c0;have c4:=(O.o.later aq).c4;have Z:=HG.o w1 aq;have cN:=yh aq;clear z aq;go_wp2_with fail;refine Z.mono ?_;rintro e H ⟨M,aW⟩;unfold qT at M;rw [aA (λh=>h rfl)] at M;obtain⟨g,rfl,fU,N⟩:=M;have KC:=cN.o.trans (aW.mono cN.o.size);have km:=U.o H KC g N;rw [dd] at km;have R4:=yh KC;clear Z aW N KC;go_wp2_with fail;refine bE km λw3 bz=>?_;have fS:=yh (R4.o.trans (bz.mono R4.o.size));clear km bz;go_wp2;go_ret;rw [C.o];exact fA.same f.o fS.o 0
     .have dd:decide (T.jN G S b=d)=false:=(by rw [decide_eq_false_iff_not];exact λe=>Q e.symm);rw [aA Q] at n;have C:=yh n;clear n Q;go_in;go_wp2_with fail;refine bE z λw1 aq=>?_;have c0:=(f.o.tx.later aq).c0;have c4:=(O.o.later aq).c4;have Z:=HG.o w1 aq;have cN:=yh aq;clear z aq;go_wp2_with fail;refine Z.mono ?_;rintro e H ⟨M,aW⟩;unfold qT at M;rw [aA (λh=>h rfl)] at M;obtain⟨g,rfl,fU,N⟩:=M;have KC:=cN.o.trans (aW.mono cN.o.size);have km:=U.o H KC g N;rw [dd] at km;have R4:=yh KC;clear Z aW N KC;go_wp2_with fail;refine bE km λw3 bz=>?_;have fS:=yh (R4.o.trans (bz.mono R4.o.size));clear km bz;obtain⟨ua,uc,htv,ll⟩:=(f.o.later fS.o).pl.form;subst htv;have c1:=(f.o.tx.later fS.o).c1;have adI:=f.o.D6;have adM:=yh ll;clear ll c0 c4;go_wp2;go_loopw [10] (λi wr=>∃j:Nat,j<=us.length/\i=iV (j:Int)/\wr=w3/\∀m (hm:m<us.length),m<j->us[m].1≠b) (λi _=>us.length-(intOf i).toNat);case atStart=>exact⟨0,dU _,rfl,rfl,λm hm h=>by omega⟩
      case round=>
       obtain⟨j,hj,rfl,rfl,iZ⟩:=hrel;have nS:=yh iZ;clear iZ;by_cases qj:j<us.length
       .have ZO:(j:Int)<(us.length:Int):=(by omega);obtain⟨J,rfl,hp⟩:=adM.o (by omega);obtain⟨gj,cj,p1,p2,_,_⟩:=hp j qj;clear hp;by_cases P:us[j].1=b
        .rw [P] at p1;have nK:=f.o.tx.later fS.o;obtain⟨uE,adN,Ag,zc,HU⟩:=ey ((f.o.pl.later fS.o).ne (g:=J) rfl nK (by decide)) ((f.o.pl.later fS.o).rlt J rfl) nK.lt (yh (ww qj P)) (yh P);clear nK P;go_wp2_with fail;go_region_held3 (λw'=>w'.cell? (aD t 1)=some (.slice (some (aD J 0)) us.length uc))
          (first|exact c1|exact k1|exact k5)
            ((go_at_call 97;refine(yh (W.o wr.drew (ai fS.o))).out.mono ?_;rintro e D ⟨g4,rfl,Gi,ub,fe⟩;have nL:bW wr D:=(ai (bi wr.heap.size wr)).trans fe;have k1:=iu nL Ag c1;have ks:=iu nL adN p2;have fs:=(nL.frozen (p:=⟨J,j*2+1,none⟩) adN).trans ((f.o.pl.later fS.o).frz (g:=J) rfl (j*2+1));have k5:(D.setCell ⟨J,j*2+1,none⟩ (.slice (some ⟨g4,0,none⟩) 512 512)).cell? (aD t 1)=some (.slice (some (aD J 0)) us.length uc):=(di (aa.setCell (F:=λj=>j=J) D (p:=⟨J,j*2+1,none⟩) rfl _) (λe=>uE e.symm) k1)))
         all_goals
          obtain⟨jB,Vo⟩:=bL (fS.o.trans (nL.mono fS.o.size)) ub;clear fe nL ub k1 ks fs k5;go_wp2;go_ret;rw [C.o,aA (λh=>by rw [zc.o] at h;cases h.1)];exact fA.set f.o r2 jB.o qj HU.o (jQ fS.o.size Gi) Vo.o ⟨Fb,wX⟩ rfl
        .have dG:(((us[j].1:Nat):Int) == (b:Int))=false:=(by rw [eG];omega);have J8:∀m (hm:m<us.length),m<j+1->us[m].1≠b:=λm hm h=>by
          by_cases e:m=j
          .subst e;exact P
          .exact nS.o m hm (by omega)
         have Zg:=yh J8;clear J8 P;go_wp2;go_roundw;case rel=>exact⟨j+1,by omega,by go_num,trivial,Zg.o⟩
         case measure=>simp [intOf];omega
       .have ZO:¬(j:Int)<(us.length:Int):=(by omega);have XP:=yh (IM (us:=us) (b:=b) (λm hm=>nS.o m hm (by omega)));by_cases ZP:us.length=16
        .have d16:((us.length:Int) == 16)=true:=(by rw [beq_iff_eq];omega);have H16:=yh ZP;have nK:=f.o.tx.later fS.o;have c3:=nK.c3;have f3:=nK.fz 3;clear nK ZP;go_wp2;go_ret;rw [C.o,XP.out,aE ⟨rfl,H16.o⟩];exact fA.spoilt f.o fS.o 50
        .have d16:((us.length:Int) == 16)=false:=(by rw [eG];omega);have XQ:¬((fnd us b).isSome=false/\us.length=16):=λh=>ZP h.2;have aje:=yh XQ;have ZE:us.length<16:=(by omega);obtain⟨xs,Ns⟩:=f.o.pl.later fS.o;obtain⟨i0,rt,gv,dr,ec⟩:=info_parts pT;have nK:=f.o.tx.later fS.o;have Ag:=nK.lt;have Me:Calls prog 97 #[.slice (some (aD ab ao)) 512 c] wr.drew λe w'=>∃v,e= .returned v/\TwR wr d v w':=
            (W.o wr.drew (ai fS.o)).mono (by rintro e w' ⟨g,rfl,z,h2,Y⟩;exact⟨_,rfl,g,rfl,z,h2,⟨Y.os,Y.tape,Y.output,Y.size,Y.block⟩⟩)
         have du:∀wx:World,wx.heap[t]? =wr.heap[t]?->wx.cell? (aD t 1)=some (.slice ua us.length uc):=λwx e=>bD (e.trans nK);have adO:∀wx:World,wx.heap[t]? =wr.heap[t]?->wx.frozen? (aD t 1)=false:=λwx e=>ae (e.trans nK) 1;obtain⟨Htw,pS,Hfz,I⟩:=Bg Me du adO Ns;clear Me du adO Ns nK ZP XQ;go_wp2_with fail
         go_region_law
          (first
           |(refine u9 (by rfl) 97 #[.slice (some (aD ab ao)) 512 c] (by simp [go_sem]) (TwR wr d) Htw.o ?_;rintro _ D ⟨g4,rfl,Gi,ub,fe⟩;have lG:D.heap[t]? =wr.heap[t]? :=fe.block t Ag;have k1:=pS.o D lG;have k2:=λo=>pS.o (D.alloc o) ((Below.heap_alloc D o t (iP Ag fe.size)).trans lG))
           |(refine step_append_lies _ (by rfl) _ _ _ (by rfl) 0 166 i0 _ 2 32 underlying127 rt gv dr ec rfl (by omega) (.slice ua us.length uc) us.length xs (by rfl) (aC I.o.own (λg e=>(Below.heap_alloc D _ _ (iP (pU I.o.own e) fe.size)).trans (fe.block g (pU I.o.own e))))
               (aD D.heap.size 0) 1 1 [iV (b:Int), .slice (some (aD g4 0)) 512 512] (by rfl) (by rfl) (World.news_of_block (cs:= #[iV (b:Int), .slice (some (aD g4 0)) 512 512]) (t:=166) (fr:=(0,0)) (heap_alloc_new D _)) (by simp [Value.oneCell']) (by omega) (by unfold maxLen;omega) (by omega) (dU _) (D.heap.size+1) (by simp) ?_;intro g2 bZ w5 fE jU uL oS;obtain⟨Fa,jz⟩:=fA.push f.o r2 (fS.o.trans (fe.mono fS.o.size)) hb (I.o.au (aa.ah (λ_=>False) fe) (λ_ _ h=>h) (λ_ _ _ _ _ h=>h)) (jQ fS.o.size Gi) ub ⟨Fb,wX⟩ XP.out ZE fE jU uL;have ZQ:=Fa.trans (fS.o.block t f.o.tx.lt).symm;have k3:=pS.o w5 ZQ;have f3:=Hfz.o w5 ZQ))
         all_goals
          have mR:=yh jz;clear jz ub fe fE jU uL oS lG Fa ZQ k1 k2 k3 f3;go_wp2;go_ret;rw [C.o,aA aje.o];exact mR.o
    .have NH:¬d.length=512:=(by rw [Fb];exact q3);rw [aE NH] at n;have dx:((x:Int) != 512)=true:=(by rw [fT];omega);obtain⟨C,f,O⟩:=jS n u h.st;clear A n q r1 r2;generalize T.state G S=E at*;clear h u hd K;go_in;go_wp2_with fail;refine bE z λw1 aq=>?_;have c0:=(f.o.tx.later aq).c0;have c4:=(O.o.later aq).c4;have L:=yh aq;clear z aq;go_wp2;go_ret;rw [C.o];exact fA.same f.o L.o 2
 .have dq:(T.state G S != 0)=true:=by rw [fT];exact q
  have A:T.refusal G S b=T.state G S:=by unfold TG.refusal;rw [aE q]
  rw [A,aE q] at n;obtain⟨C,f⟩:=bL n u;clear A n q;generalize T.state G S=E at*;clear h u hd K;go_in;go_wp2_with fail;refine bE z λw1 aq=>?_;have L:=yh aq;clear z aq;go_wp2;go_ret;rw [C.o];exact fA.same f.o L.o _
end
end
section
section
variable {w w':World} {F G:Nat->Prop} {r s k:Nat} {S:DS} {L:LG}
theorem aB.join {w:World} (h:aB w2 (Go.Proofs.YtenlkgicpllbhaaGreat.more (Go.Proofs.YtenlkgicpllbhaaGreat.more F w w1) w1 w2) r s S) (c:∀k,F k->k<w.heap.size) (a:w.heap.size<=w1.heap.size) (b:w1.heap.size<=w2.heap.size):aB w2 (Go.Proofs.YtenlkgicpllbhaaGreat.more F w w2) r s S:=
 h.mono (uV a b) (cG c (by omega))
theorem aB.from {w:World} (h:aB w2 (Go.Proofs.YtenlkgicpllbhaaGreat.more F w1 w2) r s S) (b:∀k,F k->k<w.heap.size) (c:w.heap.size<=w1.heap.size) (d:w1.heap.size<=w2.heap.size):aB w2 (Go.Proofs.YtenlkgicpllbhaaGreat.more F w w2) r s S:=
 h.mono (λk a=>by
  rcases a with a|a
  .exact .inl a
  .exact .inr ⟨by omega,a.2⟩) (cG b (by omega))
theorem VT {f:Nat} {num:Int} (h0:(aN (S.now f) (S.now (f+1)) num []).2.2=0) (b:f+1<s):
  cW S s f num=if (S.wr s ((f:Int)+((aN (S.now f) (S.now (f+1)) num []).1:Int)) 512 (aN (S.now f) (S.now (f+1)) num []).2.1).1≠0 then (3,(S.wr s ((f:Int)+((aN (S.now f) (S.now (f+1)) num []).1:Int)) 512 (aN (S.now f) (S.now (f+1)) num []).2.1).2)
   else (S.wr s ((f:Int)+((aN (S.now f) (S.now (f+1)) num []).1:Int)) 512 (aN (S.now f) (S.now (f+1)) num []).2.1).2.fl s:=by
 have mL:=fL (S.now f) (S.now (f+1)) num [];unfold cW;by_cases a:S.fuse=0
 .rw [aE a];unfold DS.wr;simp only [aE a];rw [aE (by decide)]
 .rw [aA a,aA (by omega)];have e:(S.wr s ((f:Int)+((aN (S.now f) (S.now (f+1)) num []).1:Int)) 512 (aN (S.now f) (S.now (f+1)) num []).2.1).1=0:=by
   unfold DS.wr;rw [aA a,aA (by omega),aA (by omega)]
  rw [aA (by omega),aA (by omega)]
theorem oG (h:aB w F r s S) (f E T:Nat) (hE:E<=1073741824) (hT:T<=1073741824) (aT:S.puts.length+2<=4000000000000) (J:f+1<s) (cZ:S.fC) (h0:(aN (S.now f) (S.now (f+1)) ((E:Int)*4294967296+T) []).2.2=0):
  Calls prog 117 #[pQ r,iV (f:Int),iV (E:Int),iV (T:Int)] w λe w'=>e= .returned (iV (cW S s f ((E:Int)*4294967296+T)).1)/\aB w' (more F w w') r s (cW S s f ((E:Int)*4294967296+T)).2/\aa F w w':=by
 have q:=jF h f (by omega) (by omega);have n:=jF h (f+1) J (by omega);rw [show ((f+1:Nat):Int)=(f:Int)+1 by omega] at n;have dh:=h.ok;have iQ:=br dh f (by omega);have mg:=br dh (f+1) J;have mL:=fL (S.now f) (S.now (f+1)) ((E:Int)*4294967296+T) [];have Ff:=kD (S.now f) (S.now (f+1)) ((E:Int)*4294967296+T) [] h0;rw [VT h0 J];have M:=yh (λP W k Q X m w1 c d=>JM P W k (S.now f) Q X m (S.now (f+1)) none 0 0 [] ((E:Int)*4294967296+T) w1 c d (cZ.now f) (cZ.now (f+1)) ⟨rfl,λ_=>rfl,λx K=>by cases K⟩ (λx K=>by cases K) (by omega));have Mb:=dh.hi;have t:=yh h;have VU:∀(l:List Int),(S.wr s ((f:Int)+((aN (S.now f) (S.now (f+1)) ((E:Int)*4294967296+T) []).1:Int)) 512 l).2.puts.length<=S.puts.length+1:=λl=>i9 _ _ _ _ _;generalize U:aN (S.now f) (S.now (f+1)) ((E:Int)*4294967296+T) []=Y at*;clear h U cZ;obtain⟨Z,I⟩:∃Z,Z=S.wr s ((f:Int)+(Y.1:Int)) 512 Y.2.1:=⟨_,rfl⟩;have L:=VU Y.2.1;rw [<-I] at L⊢;obtain⟨N,ib⟩:=bL I t.o.lt;clear I VU;by_cases p:Z.1=0
 .rw [aA (by omega)];have R:(Z.1 == 0)=true:=by rw [beq_iff_eq];exact p
  clear p;go_in;go_wp2_with fail;refine q.mono ?_;rintro e w1 ⟨A,k,rfl,D,lG,bN⟩;have j9:=bN.symm;clear bN;subst j9;clear q;go_wp2_with fail;refine n.mono ?_;rintro e w2 ⟨C,m,rfl,H,fb,dw⟩;have ZR:=dw.symm;clear dw;subst ZR;have c:=lG.src;have d:=fb.src;rw [iQ] at c;rw [mg] at d;have g:=M.o (some (aD A 0)) 512 k (some (aD C 0)) 512 m _ c d;rw [h0] at g;clear n c d lG fb;go_wp2_with fail;refine g.mono ?_;rintro e w3 ⟨v,rfl,az,bz⟩;obtain⟨y,z,rfl,fB,_,_⟩:=az.src;have i:=it (t.o.later bz) ((f:Int)+(Y.1:Int)) y _ z Y.2.1 fB (by omega);rw [Ff,<-N.o] at i;rw [Ff];have fS:=yh bz;clear g az fB bz;go_wp2_with fail;refine fk i λw4 a dV=>?_;obtain⟨O,L0,kO,vS⟩:=cM (fw a (by omega)) (yh ((aa.ah F fS.o).trans dV (λ_ h=> .inl h))) fS.o.size dV.size;clear i a dV;go_wp2_with fail;refine fk O λw5 jy dX=>?_;have qE:=dX.size;have u:=yh (aF (jy.mono (G:=more F w w5) (λj b=>by
    rcases b with b|b
    .exact .inl b
    .exact .inr ⟨by omega,by omega⟩) (cG ib.o (by omega))) (L0.o.trans dX (λj b=>by
    rcases b with b|b
    .exact .inl b
    .exact .inr (by omega))))
  clear O jy dX;go_wp2;go_ret;exact⟨rfl,u.o⟩
 .rw [aE p];have R:(Z.1 == 0)=false:=by rw [eG];exact p
  clear p;go_in;go_wp2_with fail;refine q.mono ?_;rintro e w1 ⟨A,k,rfl,D,lG,bN⟩;have j9:=bN.symm;clear bN;subst j9;clear q;go_wp2_with fail;refine n.mono ?_;rintro e w2 ⟨C,m,rfl,H,fb,dw⟩;have ZR:=dw.symm;clear dw;subst ZR;have c:=lG.src;have d:=fb.src;rw [iQ] at c;rw [mg] at d;have g:=M.o (some (aD A 0)) 512 k (some (aD C 0)) 512 m _ c d;rw [h0] at g;clear n c d lG fb;go_wp2_with fail;refine g.mono ?_;rintro e w3 ⟨v,rfl,az,bz⟩;obtain⟨y,z,rfl,fB,_,_⟩:=az.src;have i:=it (t.o.later bz) ((f:Int)+(Y.1:Int)) y _ z Y.2.1 fB (by omega);rw [Ff,<-N.o] at i;rw [Ff];have fS:=yh bz;clear g az fB bz;go_wp2_with fail;refine fk i λw4 a dV=>?_;have u:=yh (aF (a.from ib.o fS.o.size dV.size) (yh ((aa.ah F fS.o).trans dV (λ_ h=> .inl h))).out);clear i a dV;go_wp2;go_ret;exact⟨rfl,u.o⟩
end
end
section
section
variable {w w':World} {F G:Nat->Prop} {r s k:Nat} {S:DS} {L:LG}
theorem GZ (h:aB w F r s S) (cZ:S.fC) (f n:Int) (aT:S.puts.length+500<=4000000000000):
  Calls prog 66 #[pQ r,iV f,iV n] w λe w'=>e= .returned (iV (cy S s f n).1)/\aB w' (more F w w') r s (cy S s f n).2/\aa F w w':=by
 have x:=CD h f n;have u:=yh h.lt;have Q:=yh h;unfold cy;go_in;by_cases q:cq S s f n=0
 .rw [aA (λh=>h q)];obtain⟨Y6,a,b,rfl,rfl,oz,aq,aW⟩:=fM q;rw [q] at x;simp only [Int.toNat_natCast];have L:=zm h;have Z:=h.ok.hi;have adP:S.take.Ok s:=⟨h.ok.len,h.ok.lo,h.ok.hi,h.ok.puts,h.ok.fuse⟩;obtain⟨Uj,Fi⟩:=bL (kF (f:=a) (n:=b) adP oz) ((cZ.take).QM s a b);have ajf:∀k,(bA S.take s a k).2.puts.length<=S.puts.length+k:=λk=>pI S.take s a k;obtain⟨P,D⟩:=bQ ((if (cK S.take s a b).1≠0 then cK S.take s a b else cW (cK S.take s a b).2 s a 4294967296));rw [<-D];have C:=yh D;clear q h cZ adP D;go_wp2_with fail;refine bE x λw1 bN=>?_;have j9:=bN.symm;clear bN;subst j9;clear x;go_wp2_with fail;refine fk L λz cC aX=>?_;have sj:=yh cC;have gQ:=yh aX;have ec:=aX.size;clear L cC aX;go_wp2;go_loopw [8] (λi wr=>∃k:Nat,k<=b+2/\i=iV (k:Int)/\(bA S.take s a k).1=0/\aB wr (more F z wr) r s (bA S.take s a k).2/\aa F z wr) (λi _=>b+2-(intOf i).toNat);case atStart=>exact⟨0,dU _,rfl,rfl,sj.o.more,aa.refl _ _⟩
  case round=>
   obtain⟨k,X,rfl,O,hd,fP⟩:=hrel;obtain⟨J,sH,CP,Aa,O9⟩:=ey (yh O) (yh hd) (yh fP) fP.size (ajf k);clear O hd fP;by_cases q:k<b+2
   .have bm:(k:Int)<(b:Int)+2:=(by omega);go_wp2_with fail;refine(qP wr).mono ?_;rintro e T ⟨rfl,aY,bz⟩;have fJ:Src T (some (aD wr.heap.size 0)) 512 (zs 512):=aY.src;have I:=it (sH.o.later bz) ((a+k:Nat):Int) (some (aD wr.heap.size 0)) 512 512 (zs 512) fJ (by omega);have K:bA S.take s a (k+1)=(bA S.take s a k).2.wr s ((a+k:Nat):Int) 512 (zs 512):=jm J.o;rw [<-K,show ((a+k:Nat):Int)=(a:Int)+(k:Int) by omega] at I;have fS:=yh bz;have kO:=bz.size;clear aY fJ bz K;go_wp2_with fail;refine fk I λU l dV=>?_;have vS:=dV.size;have c:=l.mono (λj c=>by
     rcases c with (c|c)|c
     .exact .inl c
     .exact .inr ⟨c.1,by omega⟩
     .exact .inr ⟨by omega,c.2⟩) (cG (F:=F) (w:=z) (λj c=>by have:=u.o j c;omega) (by omega))
    have Kc:=(CP.o.trans (aa.ah (λ_=>False) fS.o) (λ_ h=>h.elim)).trans dV (λj c=>by
     rcases c with c|c
     .exact .inl c
     .exact .inr c.1)
    obtain⟨Pp,I7⟩:=bL c Kc;clear l dV I c Kc;by_cases g:(bA S.take s a (k+1)).1=0
    .have d:((bA S.take s a (k+1)).1 == 0)=true:=(by rw [beq_iff_eq];exact g);have p:=yh g;clear g;go_wp2;go_roundw;case rel=>exact⟨k+1,by omega,by go_num,p.o,Pp.o,I7.o⟩
     case measure=>simp [intOf];omega
    .have d:((bA S.take s a (k+1)).1 == 0)=false:=(by rw [eG];exact g);have t:cK S.take s a b=bA S.take s a (k+1):=by
      have:bA S.take s a (b+2)=bA S.take s a (k+1):=gw g (b+2) (by omega);unfold cK;rw [this,aE g]
     have m:P=bA S.take s a (k+1):=(by rw [C.o,t,aE g]);have p:=yh m;clear g t m;go_wp2;go_ret;rw [p.o];exact⟨rfl,Pp.o.from u.o ec (by omega),gQ.o.trans I7.o (λ_ h=> .inl h)⟩
   .obtain rfl:k=b+2:=(by omega);have y:=fw sH.o (by omega);have t:cK S.take s a b=(bA S.take s a (b+2)).2.fl s:=by
     unfold cK;rw [aA (by rw [J.o];decide)]
    rw [<-t] at y;have H:(cK S.take s a b).2.puts.length<=S.puts.length+(b+3):=by
     rw [t];have:=xU (bA S.take s a (b+2)).2 s;omega
    clear O9;clear t;obtain⟨Y,E⟩:=bQ (cK S.take s a b);rw [<-E] at y H;have v:=yh E;clear E;go_wp2_with fail;refine fk y λU l dV=>?_;have vS:=dV.size;have c:=l.mono (λj c=>by
     rcases c with c|c
     .exact .inl c
     .exact .inr ⟨c.1,by omega⟩) (cG (F:=F) (w:=z) (λj c=>by have:=u.o j c;omega) (by omega))
    have Kc:=CP.o.trans dV (λj c=>by
     rcases c with c|c
     .exact .inl c
     .exact .inr c.1)
    obtain⟨Pp,I7⟩:=bL c Kc;clear l dV y;by_cases g:Y.1=0
    .have d:(Y.1 == 0)=true:=(by rw [beq_iff_eq];exact g);have dP:=(Uj.o.2.2.2 (by rw [<-v.o];exact g)).1;have VV:=Uj.o.2.1;rw [<-v.o] at dP VV;have ZS:=Fi.o;rw [<-v.o] at ZS;have m:P=cW Y.2 s a 4294967296:=(by rw [C.o,<-v.o,aA (by rw [g];decide)]);have A:=yh m;have uS:=is (br VV a (by omega)) (br VV (a+1) (by omega)) (N:=4294967296) (by omega) (by unfold DS.num at dP;omega);have M:=oG c a 1 0 (by omega) (by omega) (by omega) (by omega) ZS uS;have p:=yh g;clear g uS dP VV c Kc ZS m;go_wp2_with fail;refine fk M λw5 jy dX=>?_;have qE:=dX.size;have R:=yh (aF (jy.mono (G:=more F w w5) (λj c=>by
      rcases c with (c|c)|c
      .exact .inl c
      .exact .inr ⟨by omega,by omega⟩
      .exact .inr ⟨by omega,c.2⟩) (cG u.o (by omega))) ((gQ.o.trans I7.o (λ_ h=> .inl h)).trans dX (λj c=>by
      rcases c with c|c
      .exact .inl c
      .exact .inr (by omega))))
     clear M jy dX;go_wp2;go_ret;rw [A.o];exact⟨rfl,R.o⟩
    .have d:(Y.1 == 0)=false:=(by rw [eG];exact g);have m:P=Y:=(by rw [C.o,<-v.o,aE g]);have p:=yh m;clear g c Kc m;go_wp2;go_ret;rw [p.o];exact⟨rfl,Pp.o.from u.o ec (by omega),gQ.o.trans I7.o (λ_ h=> .inl h)⟩
 .rw [aE q];have W:(cq S s f n == 0)=false:=by rw [eG];exact q
  clear q cZ;go_wp2_with fail;refine bE x λw1 bN=>?_;have j9:=bN.symm;clear bN;subst j9;clear x;go_wp2;go_ret;exact⟨rfl,Q.o.more,aa.refl _ _⟩
end
end
section
section
variable {w w':World} {F G:Nat->Prop} {r s k:Nat} {S:DS} {L:LG}
theorem cH.started (h:cH w k r L) (E:Int) (n:Nat) (a:E=(n:Int)):cH ((((w.setCell ⟨k,8,none⟩ (.bool true)).setCell ⟨k,4,none⟩ (.int .i64 E)).setCell ⟨k,5,none⟩ (.int .i64 0)).setCell ⟨k,6,none⟩ (.int .i64 0)) k r {L with begun:=true,ep:=n,tail:=0,head:=0}:=by
 subst a;exact(heap_setCell_same _ _ 6 _ _ _ (heap_setCell_same _ _ 5 _ _ _ (heap_setCell_same _ _ 4 _ _ _ (heap_setCell_same _ _ 8 _ _ _ h)))).trans (by simp)
theorem cH.trimmed (h:cH w k r L):cH (w.setCell ⟨k,5,none⟩ (.int .i64 (L.head:Int))) k r {L with tail:=L.head}:=(heap_setCell_same _ _ 5 _ _ _ h).trans (by simp)
theorem R5 {F:Nat->Prop} {l:Nat} (b:¬F l) (c:l<w3.heap.size):∀k,more F w3 w2 k->¬k=l:=λk a e=>by
 subst e;rcases a with a|a
 .exact b a
 .omega
theorem aB.sK {w w':World} (hd:aB w2 (Go.Proofs.YtenlkgicpllbhaaGreat.more F w3 w2) r s S) (d:∀j,F j->j<w.heap.size) (b:aa (λj=>j=k) w2 w') (c:¬F k) (aV:k<w3.heap.size) (f:w.heap.size<=w3.heap.size) (e:w3.heap.size<=w2.heap.size):aB w' (Go.Proofs.YtenlkgicpllbhaaGreat.more F w w') r s S:=
   (hd.au b (R5 c aV)).mono (λj a=>by
  rcases a with a|a
  .exact .inl a
  .exact .inr ⟨by omega,by have:=b.size;omega⟩) (cG d (by have:=b.size;omega))
theorem Ah (h:aB w F r s S) (u:cH w k r L) (t:L.Ok s) (p:¬F k) (cZ:S.fC) (aT:S.puts.length+2<=4000000000000) (D:L.dead S=false->L.begun=false->S.num L.f<(L.top+1)*4294967296):
  Calls prog 124 #[pQ k] w λe w'=>e= .returned (iV (L.start S s).1)/\aB w' (more F w w') r s (L.start S s).2.1/\cH w' k r (L.start S s).2.2/\aa (λj=>F j\/j=k) w w':=by
 obtain⟨a,i,g,ib,bm,K,DJ,iQ⟩:=rV (vd h u) u h h.lt u.lt t.s t.top t.n1;unfold LG.start;have dh:=h.ok;go_in;cases hd:L.dead S
 .rw [hd] at a;rw [aA (by decide)];cases vm:L.begun
  .rw [aA (by decide)];have uS:=is (br dh L.f (by omega)) (br dh (L.f+1) (by omega)) (N:=(L.top+1)*4294967296) (by omega) (D hd vm);rw [show (((L.top+1)*4294967296:Nat):Int)=((L.top+1:Nat):Int)*4294967296+((0:Nat):Int) by omega] at uS;have l:=(λc (cC:aB c F r s S)=>oG cC L.f (L.top+1) 0 (by omega) (by omega) aT (by omega) cZ uS);generalize J:cW S s L.f (((L.top+1:Nat):Int)*4294967296+((0:Nat):Int))=Y at*;rw [show ((L.top+1:Nat):Int)=(L.top:Int)+1 by omega,show (((0:Nat):Int))=0 from rfl,<-show IntKind.i64.wrap ((L.top:Int)+1)=(L.top:Int)+1 by rw [IntKind.wrap_i64];omega] at l;by_cases q:Y.1=0
   .rw [aA (λh=>h q)];have d:(Y.1 == 0)=true:=(by rw [beq_iff_eq];exact q);go_wp2_with fail;refine bE a λw1 aq=>?_;have cm:=i.later aq;obtain⟨m,n,o,b⟩:=cM cm.c0 cm.c2 cm.c7 cm.c8;rw [vm] at b;go_wp2_with fail;go_region_held3 (λw'=>w'.cell? (aD k 0)=some (pQ r)/\w'.cell? (aD k 2)=some (iV (L.f:Int))/\w'.cell? (aD k 7)=some (iV (L.top:Int)))
     (first|exact⟨m,n,o⟩|exact⟨iR.c0,iR.c2,iR.c7⟩)
       ((go_at_call 117;refine(l _ (g.later (ai aq))).mono ?_;rintro e c ⟨rfl,cC,aX⟩;have aV:=(aa.ah F aq).trans (aa.ah (λ_=>False) (ai (bi w1.heap.size w1))) (λ_ h=>h.elim);have gZ:=cm.later (ai (bi w1.heap.size w1));have iR:=gZ.au aX p))
    generalize w1.drew=v at*;obtain⟨y,z,A,C,E,G,H,I,kO,ec⟩:=vH iR.c4 iR.c5 iR.c6 iR.c8 (iR.fz 4) (iR.fz 5) (iR.fz 6) (iR.fz 8) aV.size aX.size;have eF:aa (λj=>j=k) c ((((c.setCell ⟨k,8,none⟩ (.bool true)).setCell ⟨k,4,none⟩ (.int .i64 ((L.top:Int)+1))).setCell ⟨k,5,none⟩ (.int .i64 0)).setCell ⟨k,6,none⟩ (.int .i64 0)):=(((aJ (F:=λj=>j=k) _ rfl 8 _).trans (aJ (F:=λj=>j=k) _ rfl 4 _) (λ_ h=> .inl h)).trans (aJ (F:=λj=>j=k) _ rfl 5 _) (λ_ h=> .inl h)).trans (aJ (F:=λj=>j=k) _ rfl 6 _) (λ_ h=> .inl h);have x:=(aF (cC.sK (w:=w) (k:=k) ib eF p (by omega) kO ec) (aF (iR.started ((L.top:Int)+1) (L.top+1) (by omega)) (((aV.mono (λ_ h=> .inl h):aa (λj=>F j\/j=k) w v).trans aX (λ_ h=> .inl (.inl h))).trans eF (λ_ h=> .inl (.inr h)))));go_wp2;go_ret;exact⟨rfl,x⟩
   .rw [aE q];have d:(Y.1 == 0)=false:=(by rw [eG];exact q);go_wp2_with fail;refine bE a λw1 aq=>?_;have cm:=i.later aq;obtain⟨m,n,o,b⟩:=cM cm.c0 cm.c2 cm.c7 cm.c8;rw [vm] at b;go_wp2_with fail;go_region_held3 (λw'=>w'.cell? (aD k 0)=some (pQ r)/\w'.cell? (aD k 2)=some (iV (L.f:Int))/\w'.cell? (aD k 7)=some (iV (L.top:Int)))
     (first|exact⟨m,n,o⟩|exact⟨iR.c0,iR.c2,iR.c7⟩)
       ((go_at_call 117;refine(l _ (g.later (ai aq))).mono ?_;rintro e c ⟨rfl,cC,aX⟩;have aV:=(aa.ah F aq).trans (aa.ah (λ_=>False) (ai (bi w1.heap.size w1))) (λ_ h=>h.elim);have gZ:=cm.later (ai (bi w1.heap.size w1));have iR:=gZ.au aX p))
    generalize w1.drew=v at*;go_wp2;go_ret;exact⟨rfl,(aF (cC.from ib aV.size aX.size) (aF iR ((aV.mono (λ_ h=> .inl h):aa (λj=>F j\/j=k) w v).trans aX (λ_ h=> .inl (.inl h)))))⟩
  .rw [aE rfl];go_wp2_with fail;refine bE a λw1 aq=>?_;have cm:=i.later aq;have b:=cm.c8;rw [vm] at b;go_wp2;go_ret;exact⟨rfl,aF ((g.later aq).more (w:=w)) (aF cm (aa.ah (λj=>F j\/j=k) aq))⟩
 .rw [hd] at a;rw [aE rfl];go_wp2_with fail;refine bE a λw1 aq=>?_;go_wp2;go_ret;exact⟨rfl,aF ((g.later aq).more (w:=w)) (aF (i.later aq) (aa.ah (λj=>F j\/j=k) aq))⟩
end
end
section
section
variable {w w':World} {F G:Nat->Prop} {r s k:Nat} {S:DS} {L:LG}
theorem Oi (h:aB w F r s S) (A:cH w k r L) (p:L.Ok s) (m:¬F k) (cZ:S.fC) (aT:S.puts.length+3<=4000000000000) (J:L.bd S=0->S.num L.f<=L.ep*4294967296+L.tail):
  Calls prog 131 #[pQ k] w λe w'=>e= .returned (iV (L.trim S s).1)/\aB w' (more F w w') r s (L.trim S s).2.1/\cH w' k r (L.trim S s).2.2/\aa (λj=>F j\/j=k) w w':=by
 obtain⟨g,x,v,ib,bm,hs,iQ,M,dZ,dh⟩:=vH (lP h A) (yh A) (yh h) (yh h.lt) A.lt p.s p.n1 p.ep p.th h.ok;unfold LG.trim;by_cases u:L.bd S=0
 .have O:L.begun=true:=by
   unfold LG.bd at u;split at u
   .omega
   .split at u
    .assumption
    .omega
  have P:=p.hb O;have z:L.sync S s=S.fl s:=by unfold LG.sync;rw [aA (by omega)]
  rw [z];rw [u] at g;have K:=J u;obtain⟨Z,n⟩:=bQ (S.fl s);have adQ:Z.2.Ok s:=by rw [n];exact qx dh
  have ajh:Z.2.fC:=by rw [n];exact cZ.fl s
  have hZp:Z.2.puts.length<=S.puts.length+1:=by rw [n];exact xU S s
  have I:Z.2.num L.f=S.num L.f:=by
   rw [n];unfold DS.num;rw [eU dh (by omega),eU dh (by omega)]
  rw [<-n];have VW:=yh n;clear h A p cZ J u z n dh;by_cases t:Z.1=0
  .rw [aA (λh=>h t)];have Mq:=yh t;clear t;by_cases C:L.tail=L.head
   .rw [aE C];have X:((L.tail:Int) == (L.head:Int))=true:=(by rw [beq_iff_eq];omega);clear C;go_in;go_wp2_with fail;refine bE g λw1 aq=>?_;have cm:=x.o.later aq;have c:=cm.c0;have b:=fw (v.o.later aq) (by omega);rw [<-VW.o] at b;rw [Mq.o] at b;obtain⟨cN,Bt⟩:=bL aq cm;clear g aq cm;go_wp2_with fail;refine fk b λa cC aX=>?_;have fy:=Bt.o.au aX m;clear b c;have H:=fy.c5;have y:=fy.c6;have l:=yh (λj=>aF ((cC.later (below_drewN (bi _ _) j)).more (w:=w)) (aF (fy.later (below_drewN (bi _ _) j)) ((((aa.ah F cN.o).trans aX (λ_ h=> .inl h)).mono (λ_ h=> .inl h):aa (λj=>F j\/j=k) w a).trans (aa.ah (λ_=>False) (below_drewN (bi a.heap.size a) j)) (λ_ h=>h.elim))));clear cC aX fy;go_wp2_with fail;go_quiet (fail);go_wp2;go_ret;exact⟨rfl,l.o _⟩
   .rw [aA C];have X:((L.tail:Int) == (L.head:Int))=false:=(by rw [eG];omega);have uS:=is (br adQ L.f (by omega)) (br adQ (L.f+1) (by omega)) (N:=L.ep*4294967296+L.head) (by omega) (by unfold DS.num at I K;omega);rw [show ((L.ep*4294967296+L.head:Nat):Int)=(L.ep:Int)*4294967296+(L.head:Int) by omega] at uS;have T:=yh (λa (cC:aB a F r s Z.2)=>oG cC L.f L.ep L.head M P (by omega) (by omega) ajh uS);generalize hY:cW Z.2 s L.f ((L.ep:Int)*4294967296+(L.head:Int))=Y at*;clear C uS hY;by_cases q:Y.1=0
    .rw [aA (λh=>h q)];have d:(Y.1 == 0)=true:=(by rw [beq_iff_eq];exact q);have D:=yh q;clear q;go_in;go_wp2_with fail;refine bE g λw1 aq=>?_;have cm:=x.o.later aq;have c:=cm.c0;have b:=fw (v.o.later aq) (by omega);rw [<-VW.o] at b;rw [Mq.o] at b;obtain⟨cN,Bt⟩:=bL aq cm;clear g aq cm;go_wp2_with fail;refine fk b λa cC aX=>?_;have fy:=Bt.o.au aX m;clear b c;obtain⟨c,E,G,H,y,sj,Ve,ma⟩:=rV fy.c0 fy.c2 fy.c4 fy.c5 fy.c6 (yh cC) (yh fy) (yh ((aa.ah F cN.o).trans aX (λ_ h=> .inl h)));clear cC fy aX;go_wp2_with fail;go_quiet (fail);go_wp2_with fail;go_region_held3 (λw'=>w'.cell? (aD k 0)=some (pQ r)/\w'.cell? (aD k 2)=some (iV (L.f:Int))/\w'.cell? (aD k 4)=some (iV (L.ep:Int))/\w'.cell? (aD k 6)=some (iV (L.head:Int)))
      (first|exact⟨c,E,G,y⟩|exact⟨iR.c0,iR.c2,iR.c4,iR.c6⟩)
        ((go_at_call 117;refine(T.o _ (sj.o.later (below_drewN (bi _ _) (nq+1)))).mono ?_;rintro e R ⟨rfl,i,dV⟩;have dX:=ma.o.trans (aa.ah (λ_=>False) (below_drewN (bi a.heap.size a) (nq+1))) (λ_ h=>h.elim);have gZ:=Ve.o.later (below_drewN (bi a.heap.size a) (nq+1));have iR:=gZ.au dV m))
     generalize a.drewN (nq+1)=Q at*;obtain⟨kO,vS,U,f5⟩:=cM dX.size dV.size iR.c5 (iR.fz 5);have eF:aa (λj=>j=k) R (R.setCell ⟨k,5,none⟩ (.int .i64 (L.head:Int))):=aJ (F:=λj=>j=k) _ rfl 5 _;have l:=yh (aF (i.sK (w:=w) (k:=k) ib.o eF m (by omega) kO vS) (aF iR.trimmed (((dX.mono (λ_ h=> .inl h):aa (λj=>F j\/j=k) w Q).trans dV (λ_ h=> .inl (.inl h))).trans eF (λ_ h=> .inl (.inr h)))));clear i dV iR dX gZ eF;go_wp2;go_ret;exact⟨by rw [<-D.o];rfl,l.o⟩
    .rw [aE q];have d:(Y.1 == 0)=false:=(by rw [eG];exact q);clear q;go_in;go_wp2_with fail;refine bE g λw1 aq=>?_;have cm:=x.o.later aq;have c:=cm.c0;have b:=fw (v.o.later aq) (by omega);rw [<-VW.o] at b;rw [Mq.o] at b;obtain⟨cN,Bt⟩:=bL aq cm;clear g aq cm;go_wp2_with fail;refine fk b λa cC aX=>?_;have fy:=Bt.o.au aX m;clear b c;obtain⟨c,E,G,H,y,sj,Ve,ma⟩:=rV fy.c0 fy.c2 fy.c4 fy.c5 fy.c6 (yh cC) (yh fy) (yh ((aa.ah F cN.o).trans aX (λ_ h=> .inl h)));clear cC fy aX;go_wp2_with fail;go_quiet (fail);go_wp2_with fail;go_region_held3 (λw'=>w'.cell? (aD k 0)=some (pQ r)/\w'.cell? (aD k 2)=some (iV (L.f:Int))/\w'.cell? (aD k 4)=some (iV (L.ep:Int))/\w'.cell? (aD k 6)=some (iV (L.head:Int)))
      (first|exact⟨c,E,G,y⟩|exact⟨iR.c0,iR.c2,iR.c4,iR.c6⟩)
        ((go_at_call 117;refine(T.o _ (sj.o.later (below_drewN (bi _ _) (nq+1)))).mono ?_;rintro e R ⟨rfl,i,dV⟩;have dX:=ma.o.trans (aa.ah (λ_=>False) (below_drewN (bi a.heap.size a) (nq+1))) (λ_ h=>h.elim);have gZ:=Ve.o.later (below_drewN (bi a.heap.size a) (nq+1));have iR:=gZ.au dV m))
     generalize a.drewN (nq+1)=Q at*;have l:=yh (aF (i.from ib.o dX.size dV.size) (aF iR ((dX.mono (λ_ h=> .inl h):aa (λj=>F j\/j=k) w Q).trans dV (λ_ h=> .inl (.inl h)))));clear i dV iR dX gZ;go_wp2;go_ret;exact⟨rfl,l.o⟩
  .rw [aE t];have W:(Z.1 == 0)=false:=(by rw [eG];exact t);have dn:(Z.1 != 0)=true:=(by rw [fT];exact t);clear t;go_in;go_wp2_with fail;refine bE g λw1 aq=>?_;have cm:=x.o.later aq;have c:=cm.c0;have b:=fw (v.o.later aq) (by omega);rw [<-VW.o] at b;obtain⟨cN,Bt⟩:=bL aq cm;clear g aq cm;go_wp2_with fail;refine fk b λa cC aX=>?_;have fy:=Bt.o.au aX m;clear b c;have H:=fy.c5;have y:=fy.c6;have l:=yh (λj=>aF ((cC.later (below_drewN (bi _ _) j)).more (w:=w)) (aF (fy.later (below_drewN (bi _ _) j)) ((((aa.ah F cN.o).trans aX (λ_ h=> .inl h)).mono (λ_ h=> .inl h):aa (λj=>F j\/j=k) w a).trans (aa.ah (λ_=>False) (below_drewN (bi a.heap.size a) j)) (λ_ h=>h.elim))));clear cC aX fy;go_wp2_with fail;go_quiet (fail);go_wp2;go_ret;exact⟨rfl,l.o _⟩
 .have z:L.sync S s=(L.bd S,S):=by unfold LG.sync;rw [aE u]
  rw [z];simp only;rw [aE u];have W:(L.bd S == 0)=false:=by rw [eG];exact u
  clear h A p cZ J u z dh;go_in;go_wp2_with fail;refine bE g λw1 aq=>?_;have l:=yh (aF ((v.o.later aq).more (w:=w)) (aF (x.o.later aq) (aa.ah (λj=>F j\/j=k) aq)));clear g aq;go_wp2;go_ret;exact⟨rfl,l.o⟩
end
end
theorem sL (x:Nat) (w:World) (b:x<=140737488355328):Calls prog 142 #[iV (x:Int)] w λe w'=>e= .returned (iV (((x+491) / 492:Nat):Int))/\w'=w:=by
 have a:((x:Int)+492-1).tdiv 492=(((x+491) / 492:Nat):Int):=by rw [Int.tdiv_eq_ediv_of_nonneg (by omega)];omega
 go_in;go_wp2;go_ret;refine⟨?_,rfl⟩;first|rfl|(simp;omega)
theorem bj {P:Program} {b:Array Oper} {Q:Exit->Act->World->Prop} {o:Oper} {rest:List Oper} {a:Act} {w':World} (d:o.guard=none) (s x:Operand) (t:TypeId) (e:o.op= .call {callee:= .builtin .append,args:= #[s,x],argTypes:= #[t,t]}) (v u r:Value) (g:a.eval s=v) (i:a.eval x=u)
    (f:(Builtin.append_ #[t,t] o.type #[v,u]).run P w= .ok r w') (h:wpList P b Q rest (a.put o.dst r) w'):wpList P b Q (o :: rest) a w:=
 wpList_plain d λ_ c=>fQ s x t e v u r g i f (c _ _ h)
theorem qV {W:World} {B:Nat} {v:Value} {f:List Int} (az:Own W B v f) {a:Option Addr} (c:Nat) {d:List Int} (p:Src W a n d) (hd:0<n) (b:f.length+n<=1000000) (j:B<=W.heap.size):
  ∃v' w',(Builtin.append_ #[36,36] 36 #[v, .slice a n c]).run prog W= .ok v' w'/\Own w' B v' (f ++ d)/\Below B W w':=by
 obtain⟨g,l,w',m,i,o,_⟩:=qK az c p hd b j;refine⟨_,w',m,?_,(bi B W).grown o j (λk e=>jn az e)⟩;rw [<-iE] at i;have e:f.length+d.length=(f ++ d).length:=by simp
 unfold Own;rw [e] at i⊢;exact i
theorem lz (m n:Nat) (w:World) (j:m<=9223372036854775807) (o:n<=8):
  Calls prog 177 #[iV (m:Int),iV (n:Int)] w λe w'=>∃v,e= .returned v/\Own w' w.heap.size v (leb n m)/\bW w w':=by
 go_in;go_wp2;go_loopw [0,5,6] (λx v i wr=>∃k:Nat,k<=n/\x=iV ((m / 2 ^ (8*k):Nat):Int)/\i=iV (k:Int)/\Own wr w.heap.size v (leb k m)/\bW w wr) (λ_ _ i _=>n-(intOf i).toNat);case atStart=>exact⟨0,dU _,by simp,rfl,Own.nil _ _,bi _ _⟩
 case round=>
  obtain⟨k,l,rfl,rfl,az,dO⟩:=hrel;obtain⟨bq,a,p,f⟩:=cM az dO dO.size (aH k m);clear az dO;by_cases bm:k<n
  .have cw:(k:Int)<(n:Int):=(by omega);have g:m / 2 ^ (8*k)<=9223372036854775807:=jQ (Nat.div_le_self _ _) j;have c:m / 2 ^ (8*(k+1))=m / 2 ^ (8*k) / 256:=(by rw [Nat.div_div_eq_div_mul,Nat.mul_succ,Nat.pow_add]);have GR:=c;have N2:=iX k m;clear c;obtain⟨Q,d⟩:=bQ (m / 2 ^ (8*k));rw [<-d] at g GR N2⊢;clear d;have q:(Q:Int).tmod 256=((Q%256:Nat):Int):=(by rw [Int.tmod_eq_emod_of_nonneg (by omega)];omega);have r:(Q:Int).tdiv 256=((Q / 256:Nat):Int):=(by rw [Int.tdiv_eq_ediv_of_nonneg (by omega)];omega);go_wp2_with (at_builtin;refine b9 rfl _ _ rfl w.heap.size u5 (leb k m) _ rfl rfl bq ?b1 ?b2 ?_);case b1=>omega
   case b2=>omega
   intro s w1 tz aq;have b:=(aF tz (a.trans aq));clear tz aq;go_wp2;go_roundw;case rel=>exact⟨k+1,by omega,by rw [GR];first|rfl|simp,by go_num,by rw [N2];exact b.1,b.2⟩
   case measure=>simp [intOf];omega
  .obtain rfl:k=n:=(by omega);have vQ:¬(k:Int)<(k:Int):=(by omega);go_wp2;go_ret;exact⟨_,rfl,bq,a⟩
section
theorem Mr (S:DS) (s f n E P i c:Nat) (part:List Int):jM S s f n E P i c part=S.wr s ((f+2+P%n:Nat):Int) 512 (gg (S.now (f+2+P%n)) (kE E P i c part)).1:=by
 unfold jM;split
 .rename_i h;unfold DS.wr;rw [aE h]
 .rfl
section
variable {w w':World} {F G:Nat->Prop} {r s k:Nat} {S:DS} {L:LG}
theorem KD (h:aB w F r s S) (Q:cH w k r L) (u:L.Ok s) (hF:¬F k) (cZ:S.fC) (b o x c:Nat) (d:List Int) (hs:Src w (some (aD b o)) x d) (Dp:¬F b) (hd:Bytes d) (hxc:x<=c) (hr:L.fN S x=0) (aT:S.puts.length+100<=4000000000000):
  Calls prog 143 #[pQ k, .slice (some (aD b o)) x c] w λe w'=>e= .returned (iV (L.append S s d).1)/\aB w' (more F w w') r s (L.append S s d).2.1/\cH w' k r (L.append S s d).2.2/\aa (λj=>F j\/j=k) w w':=by
 obtain⟨k0,k1,k2,k3,k4⟩:=jC hr;have h1:=lP h Q;rw [k0] at h1;have Ui:=hs.1;obtain⟨C,hC⟩:=bQ ((x+491) / 492);have XI:cY x=C:=by rw [hC];rfl
 rw [XI] at k3 k4;have YE:C<=17:=by omega
 obtain⟨bm,hhi,dZ,iQ,mg,ef,hep,Mb⟩:=rV Q.lt u.hi u.th u.n1 u.n2 u.s u.ep h.ok.hi;obtain⟨P,hP⟩:=bQ (L.append S s d);rw [<-hP];have t:P=if (cP L S s d C).1≠0 then ((cP L S s d C).1,(cP L S s d C).2,L) else (0,(cP L S s d C).2,{L with head:=L.head+C}):=by
  rw [hP];unfold LG.append;rw [Ui,hr,XI,aA (by decide)]
 obtain⟨HP,HC,HL,HD,ib,XR⟩:=Yu t hC Q h h.lt hs;have Fi:=yh cZ;have iB:((x:Int) == 0)=false:=by rw [eG];omega
 have hd3:¬(1073741824:Int)<(L.head:Int)+(C:Int):=by omega
 have hd4:¬(L.n:Int)-((L.head:Int)-(L.tail:Int))<(C:Int):=by omega
 clear h Q u cZ hs hP t hC hr k0;go_in;go_wp2_with fail;refine bE h1 λw1 aq=>?_;have cm:=HL.o.later aq;obtain⟨O,c5,c6⟩:=jw cm.c3 cm.c5 cm.c6;clear h1;go_wp2_with fail;refine((λwx=>sL x wx (by omega)) _).mono ?_;rintro e R ⟨rfl,dw⟩;have eB:=dw.symm;subst eB;rw [<-HC.o];obtain⟨cN,Bt⟩:=bL aq cm;clear dw aq cm;go_wp2_with fail;go_quiet (fail);obtain⟨eV,Ve⟩:=bL (below_drewN cN.o nq) (Bt.o.later (below_drewN (bi w1.heap.size w1) nq));generalize w1.drewN nq=R at*;clear O c5 c6 Bt cN;go_wp2;have ec:=eV.o.size;go_loopw [7] (λi wr=>∃j:Nat,j<=C/\i=iV (j:Int)/\(cP L S s d j).1=0/\aB wr (more F R wr) r s (cP L S s d j).2/\aa F R wr) (λi _=>C-(intOf i).toNat);case atStart=>exact⟨0,dU _,rfl,rfl,(HD.o.later eV.o).more,aa.refl _ _⟩
 case round=>
  obtain⟨j,hj,rfl,he,A,fP⟩:=hrel;have BA:=Ve.o.au fP hF;have HE:=yh he;have sH:=yh A;have CP:=yh fP;have Mi:=yh BA;have Aa:=fP.size;clear he A fP;by_cases q:j<C
  .have cw:(j:Int)<(C:Int):=(by omega);have c4:=BA.c4;have hxI:492*j<x:=(by have:=HC.o;omega);clear BA;have pf:(min (x:Int) (((j:Int)+1)*492)).toNat-j*492=gk x j:=(by unfold gk;omega);have Fr:gk x j=min 492 (x-492*j):=rfl;have ap5:1<=gk x j/\gk x j<=492:=(by omega);have kP:=XR.o.nB ((aa.ah F eV.o).trans CP.o (λ_ h=> .inl h)) (λz hz _=>by cases hz;exact Dp);have I:Src wr (some ⟨b,o+j*492,none⟩) (gk x j) (partOf d j):=by
    have:=kP.sub (492*j) (gk x j) (by omega);rwa [show (d.drop (492*j)).take (gk x j)=partOf d j by unfold partOf;rw [List.take_eq_take_iff,List.length_drop,Ui];omega,Nat.mul_comm] at this
   obtain⟨HSP,HPl⟩:=bL I pf;clear I kP pf Fr;go_wp2_with fail;rw [HPl.o];have iA:=lz L.ep 4 wr (by omega) (by omega);rw [show (((4:Nat)):Int)=4 from rfl] at iA;refine iA.mono ?_;rintro e wa1 ⟨v1,rfl,l,a⟩;obtain⟨a1,c1,rfl,zJ,_,_⟩:=l.src;rw [aH] at zJ⊢;have ap9:=a.size;obtain⟨x1,J,bC,az,iD⟩:=qV (B:=wr.heap.size) (show Own wa1 wr.heap.size (.slice none 0 0) ([]) from Own.nil _ _) c1 zJ (by omega) (by simp) (by omega);have aqa:=iD.size;have adR:=yh bC;have Z:=yh az;have cN:Yh (bW wr J):=(a.mono (by omega)).trans iD;have cc1:=(Mi.o.later cN.o).c6;clear iA l a zJ bC az iD;go_wp2_with (at_builtin;refine bj rfl _ _ 36 rfl (.slice none 0 0) (.slice a1 4 c1) _ rfl rfl adR.o ?_);have qC:=lz (L.head+j) 4 J (by omega) (by omega);rw [show (((4:Nat)):Int)=4 from rfl] at qC;rw [show ((L.head+j:Nat):Int)=(L.head:Int)+(j:Int) by omega] at qC;refine qC.mono ?_;rintro e wa2 ⟨v2,rfl,l,a⟩;obtain⟨a2,c2,rfl,zJ,_,_⟩:=l.src;rw [aH] at zJ⊢;have aqc:=a.size;obtain⟨x2,K,bC,az,iD⟩:=qV (B:=wr.heap.size) (show Own wa2 wr.heap.size x1 ([] ++ leb 4 L.ep) from Z.o.later a) c2 zJ (by omega) (by simp [aH]) (by omega);have aqd:=iD.size;have adS:=yh bC;have Vy:=yh az;have dE:Yh (bW wr K):=cN.o.trans ((a.mono (by omega)).trans iD);clear qC l a zJ bC az iD;go_wp2_with (at_builtin;refine bj rfl _ _ 36 rfl x1 (.slice a2 4 c2) _ rfl rfl adS.o ?_);have NY:=lz j 2 K (by omega) (by omega);rw [show (((2:Nat)):Int)=2 from rfl] at NY;refine NY.mono ?_;rintro e wa3 ⟨v3,rfl,l,a⟩;obtain⟨a3,O,rfl,zJ,_,_⟩:=l.src;rw [aH] at zJ⊢;have aqf:=a.size;obtain⟨x3,N,bC,az,iD⟩:=qV (B:=wr.heap.size) (show Own wa3 wr.heap.size x2 ([] ++ leb 4 L.ep ++ leb 4 (L.head+j)) from Vy.o.later a) O zJ (by omega) (by simp [aH]) (by omega);have aqg:=iD.size;have adT:=yh bC;have HO3:=yh az;have fS:Yh (bW wr N):=dE.o.trans ((a.mono (by omega)).trans iD);clear NY l a zJ bC az iD;go_wp2_with (at_builtin;refine bj rfl _ _ 36 rfl x2 (.slice a3 2 O) _ rfl rfl adT.o ?_);have Oa:=lz C 2 N (by omega) (by omega);rw [show (((2:Nat)):Int)=2 from rfl] at Oa;refine Oa.mono ?_;rintro e wa4 ⟨v4,rfl,l,a⟩;obtain⟨a4,c4,rfl,zJ,_,_⟩:=l.src;rw [aH] at zJ⊢;have aqi:=a.size;obtain⟨x4,wb4,bC,az,iD⟩:=qV (B:=wr.heap.size) (show Own wa4 wr.heap.size x3 ([] ++ leb 4 L.ep ++ leb 4 (L.head+j) ++ leb 2 j) from HO3.o.later a) c4 zJ (by omega) (by simp [aH]) (by omega);have aqk:=iD.size;have G0:=yh bC;have HO4:=yh az;have jB:Yh (bW wr wb4):=fS.o.trans ((a.mono (by omega)).trans iD);clear Oa l a zJ bC az iD;obtain⟨x5,m,bC,az,iD⟩:=qV (B:=wr.heap.size) HO4.o (c-j*492) (HSP.o.later jB.o) (by omega) (by simp [aH];omega) (by omega);have G1:=yh bC;have ZT:Yh (Own m wr.heap.size x5 (kE L.ep (L.head+j) j C (partOf d j))):=by
    refine yh ?_;unfold kE;simpa [List.append_assoc] using az
   have jd:Yh (bW wr m):=jB.o.trans iD;have qE:=iD.size;have I1:=Mi.o.later jd.o;obtain⟨g2,g3,g6⟩:=jw I1.c2 I1.c3 I1.c6;clear bC az iD I1;go_wp2_with (at_builtin;first|refine bj rfl _ _ 36 rfl x3 (.slice a4 2 c4) _ rfl rfl G0.o ?_|refine bj rfl _ _ 36 rfl x4 (.slice (some ⟨b,o+j*492,none⟩) (gk x j) (c-j*492)) _ rfl rfl G1.o ?_);have wh:((L.head:Int)+(j:Int)).tmod (L.n:Int)=(((L.head+j)%L.n:Nat):Int):=(by rw [Int.tmod_eq_emod_of_nonneg (by omega),<-Int.natCast_add,<-Int.natCast_emod]);have R6:((L.head:Int)+(j:Int))%(L.n:Int)=(((L.head+j)%L.n:Nat):Int):=(by rw [<-Int.natCast_add,<-Int.natCast_emod]);have hmd:(L.head+j)%L.n<L.n:=Nat.mod_lt _ (by omega);obtain⟨M,hM⟩:=bQ ((L.head+j)%L.n);rw [<-hM] at wh R6 hmd;have HM:=yh hM;clear hM;go_quiet (fail);have p:=below_drewN (bi m.heap.size m) nq;have A8:=jd.o.trans (p.mono jd.o.size);have Ms:=Mi.o.later A8;have po:=sH.o.later A8;have hzq:=p.size;generalize m.drewN nq=w6 at*;have hpj:=(mu (L:=L) (S:=S) (s:=s) (d:=d) (by omega) ef j).2.2.2;have adW:(cP L S s d j).2.fC:=mr Fi.o (λi T hT=>by
    rw [Mr];exact hT.wr s _ _ (vW (mt (oy hd _)))) j
   have mN:=br sH.o.ok (L.f+2+M) (by omega);have l6:=so (old:=(cP L S s d j).2.now (L.f+2+M)) (body:=kE L.ep (L.head+j) j C (partOf d j)) mN (by rw [uW,J2,Ui];omega);have h3:=jF po (L.f+2+M) (by omega) (by omega);rw [show ((L.f+2+M:Nat):Int)=(L.f:Int)+2+(M:Int) by omega] at h3;obtain⟨g0',W,wO,HO6,Y,U⟩:=kQ Ms.c0 (yh po) (yh A8) (yh (ZT.o.later p)) (yh Ms) (yh (adW.now (L.f+2+M)));have D:cP L S s d (j+1)=(cP L S s d j).2.wr s ((L.f+2+M:Nat):Int) 512 (gg ((cP L S s d j).2.now (L.f+2+M)) (kE L.ep (L.head+j) j C (partOf d j))).1:=by
    have:cP L S s d (j+1)=jM (cP L S s d j).2 s L.f L.n L.ep (L.head+j) j (cY d.length) (partOf d j):=jm HE.o;rw [this,Mr,Ui,XI,<-HM.o]
   have X:=yh D;clear po A8 Ms adW D p;go_wp2_with fail;refine h3.mono ?_;rintro e w7 ⟨gn,cn,rfl,hFg,aY,T7⟩;have ajn:=T7.symm;clear T7;subst ajn;obtain⟨a7,c7,NH,Mg,_,_⟩:=HO6.o.src;subst NH;have fZ:=aY.src;rw [mN] at fZ;have h4:=qF (some (aD gn 0)) 512 cn ((cP L S s d j).2.now (L.f+2+M)) a7 _ c7 (kE L.ep (L.head+j) j C (partOf d j)) w6 fZ Mg (mt (oy hd _)) U.o;rw [l6.1] at h4;clear h3 aY fZ Mg;go_wp2_with fail;refine h4.mono ?_;rintro e w8 ⟨v8,rfl,H,BD⟩;obtain⟨a8,c8,rfl,Ja,_,_⟩:=H.src;have h5:=it (W.o.later BD) ((L.f+2+M:Nat):Int) a8 _ c8 _ Ja (by omega);rw [l6.2,<-X.o,show ((L.f+2+M:Nat):Int)=(L.f:Int)+2+(M:Int) by omega] at h5;rw [l6.2];have aqq:=(Y.o.later BD).c0;have VX:=yh (wO.o.trans (BD.mono wO.o.size));have VY:=BD.size;clear h4 H Ja BD;go_wp2_with fail;refine fk h5 λw9 ZU A4=>?_;have hz9:=A4.size;have E:=ZU.mono (λi g=>by
    rcases g with (g|g)|g
    .exact .inl g
    .exact .inr ⟨g.1,by omega⟩
    .exact .inr ⟨by omega,g.2⟩) (cG (F:=F) (w:=R) (λi g=>by have:=ib.o i g;omega) (by omega))
   have Kc:=(CP.o.trans (aa.ah (λ_=>False) VX.o) (λ_ h=>h.elim)).trans A4 (λi g=>by
    rcases g with g|g
    .exact .inl g
    .exact .inr g.1)
   obtain⟨Pp,I7⟩:=bL E Kc;clear ZU A4 h5 E Kc;by_cases v:(cP L S s d (j+1)).1=0
   .have d9:((cP L S s d (j+1)).1 == 0)=true:=(by rw [beq_iff_eq];exact v);have y:=yh v;clear v;go_wp2;go_roundw;case rel=>exact⟨j+1,by omega,by go_num,y.o,Pp.o,I7.o⟩
    case measure=>simp [intOf];omega
   .have d9:((cP L S s d (j+1)).1 == 0)=false:=(by rw [eG];exact v);have e2:cP L S s d C=cP L S s d (j+1):=gw v C (by omega);have t:P=((cP L S s d (j+1)).1,(cP L S s d (j+1)).2,L):=(by rw [HP.o,e2,aE v]);have y:=yh t;clear v e2 t;go_wp2;go_ret;rw [y.o];exact⟨rfl,Pp.o.from ib.o ec (by omega),Ve.o.au I7.o hF,((aa.ah F eV.o).trans I7.o (λ_ h=> .inl h)).mono (λ_ h=> .inl h)⟩
  .obtain rfl:j=C:=(by omega);have vQ:¬(j:Int)<(j:Int):=(by omega);have c6:=BA.c6;have f6:=BA.fz 6;have t:P=(0,(cP L S s d j).2,{L with head:=L.head+j}):=(by rw [HP.o,aA (by rw [HE.o];decide)]);have y:=yh t;have eF:aa (λi=>i=k) wr (wr.setCell ⟨k,6,none⟩ (.int .i64 ((L.head:Int)+(j:Int)))):=aJ (F:=λi=>i=k) _ rfl 6 _;have G:cH (wr.setCell ⟨k,6,none⟩ (.int .i64 ((L.head:Int)+(j:Int)))) k r {L with head:=L.head+j}:=(heap_setCell_same _ _ 6 _ _ _ BA).trans (by simp);have HZ:=yh (aF (sH.o.sK (w:=w) (k:=k) ib.o eF hF (by omega) ec Aa) (aF G ((((aa.ah F eV.o).trans CP.o (λ_ h=> .inl h)).mono (λ_ h=> .inl h):aa (λi=>F i\/i=k) w wr).trans eF (λ_ h=> .inl (.inr h)))));clear t eF G BA;go_wp2;go_ret;rw [y.o];exact⟨rfl,HZ.o⟩
end
end
section
section
variable {w w':World} {F G:Nat->Prop} {r s k:Nat} {S:DS} {L:LG}
theorem KE (h:aB w F r s S) (A:cH w k r L) (q:L.Ok s) (a:Option Addr) (x c:Nat) (J:x<=140737488355328) (d:L.fN S x≠0):
  Calls prog 143 #[pQ k, .slice a x c] w λe w'=>e= .returned (iV (L.fN S x))/\bW w w':=by
 have b:=lP h A;have f:=λwx=>sL x wx J;obtain⟨i,I,dZ,mg⟩:=cM (yh A) q.hi q.th q.n2;unfold LG.fN at d⊢;clear h A q;by_cases g:L.bd S=0
 .simp only [aA (λh:¬L.bd S=0=>h g)] at d⊢;rw [g] at b;clear g;by_cases t:x=0
  .simp only [aE t];have E:((x:Int) == 0)=true:=(by rw [beq_iff_eq];omega);clear d t;go_in;go_wp2_with fail;refine bE b λw1 aq=>?_;have cm:=i.o.later aq;obtain⟨l,m,p⟩:=jw cm.c3 cm.c5 cm.c6;clear b;go_wp2_with fail;refine(f _).mono ?_;rintro e y ⟨rfl,dw⟩;have eB:=dw.symm;subst eB;have cN:=yh aq;clear f dw aq cm;go_wp2;go_ret;exact⟨rfl,cN.o⟩
  .simp only [aA t] at d⊢;have E:((x:Int) == 0)=false:=(by rw [eG];omega);clear t;by_cases u:8364<x
   .simp only [aE u];have G:(8364:Int)<(x:Int):=(by omega);clear d u;go_in;go_wp2_with fail;refine bE b λw1 aq=>?_;have cm:=i.o.later aq;obtain⟨l,m,p⟩:=jw cm.c3 cm.c5 cm.c6;clear b;go_wp2_with fail;refine(f _).mono ?_;rintro e y ⟨rfl,dw⟩;have eB:=dw.symm;subst eB;have cN:=yh aq;clear f dw aq cm;go_wp2;go_ret;exact⟨rfl,cN.o⟩
   .simp only [aA u] at d⊢;have G:¬(8364:Int)<(x:Int):=(by omega);clear u;have mY:cY x=(x+491) / 492:=rfl;by_cases v:1073741824<L.head+cY x
    .simp only [aE v];clear d;obtain⟨C,j⟩:=bQ ((x+491) / 492);have YE:C<=17:=(by omega);have H:(1073741824:Int)<(L.head:Int)+(C:Int):=(by omega);have z:=yh j;clear v mY j;go_in;go_wp2_with fail;refine bE b λw1 aq=>?_;have cm:=i.o.later aq;obtain⟨l,m,p⟩:=jw cm.c3 cm.c5 cm.c6;clear b;go_wp2_with fail;refine(f _).mono ?_;rintro e y ⟨rfl,dw⟩;have eB:=dw.symm;subst eB;rw [<-z.o];have cN:=yh aq;clear f dw aq cm;go_wp2;go_ret;exact⟨rfl,cN.o⟩
    .simp only [aA v] at d⊢;by_cases D:L.tail+L.n<L.head+cY x
     .simp only [aE D];clear d;obtain⟨C,j⟩:=bQ ((x+491) / 492);have YE:C<=17:=(by omega);have H:¬(1073741824:Int)<(L.head:Int)+(C:Int):=(by omega);have M:(L.n:Int)-((L.head:Int)-(L.tail:Int))<(C:Int):=(by omega);have z:=yh j;clear v D mY j;go_in;go_wp2_with fail;refine bE b λw1 aq=>?_;have cm:=i.o.later aq;obtain⟨l,m,p⟩:=jw cm.c3 cm.c5 cm.c6;clear b;go_wp2_with fail;refine(f _).mono ?_;rintro e y ⟨rfl,dw⟩;have eB:=dw.symm;subst eB;rw [<-z.o];have cN:=yh aq;clear f dw aq cm;go_wp2_with fail;go_quiet (fail);go_wp2;go_ret;exact⟨rfl,below_drewN cN.o _⟩
     .exact absurd (aA D) d
 .simp only [aE (λh=>g h:¬L.bd S=0)];have K:(L.bd S == 0)=false:=by rw [eG];exact g
  clear d g;go_in;go_wp2_with fail;refine bE b λw1 aq=>?_;have cm:=i.o.later aq;obtain⟨l,m,p⟩:=jw cm.c3 cm.c5 cm.c6;clear b;go_wp2_with fail;refine(f _).mono ?_;rintro e y ⟨rfl,dw⟩;have eB:=dw.symm;subst eB;have cN:=yh aq;clear f dw aq cm;go_wp2;go_ret;exact⟨rfl,cN.o⟩
theorem wm (h:aB w F r s S) (i:cH w k r L) (n:L.Ok s) (p:¬F k) (cZ:S.fC) (a:Option Addr) (x c:Nat) (d:List Int) (l:Src w a x d) (Ue:∀y,a=some y->0<x->¬F y.block) (hd:Bytes d) (m:x<=c) (q:x<=140737488355328) (aT:S.puts.length+100<=4000000000000):
  Calls prog 143 #[pQ k, .slice a x c] w λe w'=>e= .returned (iV (L.append S s d).1)/\aB w' (more F w w') r s (L.append S s d).2.1/\cH w' k r (L.append S s d).2.2/\aa (λj=>F j\/j=k) w w':=by
 by_cases f:L.fN S x=0
 .have jA:=(jC f).2.1;obtain⟨b,o,rfl⟩:=cT l jA;exact KD h i n p cZ b o x c d l (Ue _ rfl jA) hd m f aT
 .refine(KE h i n a x c q f).mono ?_;rintro e w' ⟨rfl,g⟩;unfold LG.append;rw [l.1,aE f];exact⟨rfl,(h.later g).more,i.later g,aa.ah _ g⟩
end
end
section
section
variable {w w' w1 w2:World} {F X Y:Nat->Prop} {r s k kl t hm:Nat} {S:DS} {G:SG} {T:TG} {L:LG} {v u pv nv tv:Value} {ps qs us:List (Nat×List Int)} {xs ys:List Value}
theorem PL.adY (h:PL w X v ps xs) {o:Obj} {b:Nat} (A:ay w 5 g c (bs l)) (z:l.length=512/\Bytes l)
    (az:w2.ownsRow 0 166 2 (.slice (some (aD g2 0)) (ps.length+1) bZ) (ps.length+1) (xs ++ [iV (b:Int), .slice (some (aD g 0)) 512 c]))
    (aO:(w.alloc o).grownBy w2 v.ownBlock) (x:∀i (_hi:i<ps.length) f c',xs[2*i+1]? =some (.slice (some (aD f 0)) 512 c')->Y f) (n:Y g) (m:Y g2):
  PL w2 Y (.slice (some (aD g2 0)) (ps.length+1) bZ) (ps ++ [(b,l)]) (xs ++ [iV (b:Int), .slice (some (aD g 0)) 512 c])/\aa (λj=>v.ownBlock=some j) w w2:=by
 have YA:(w.alloc o).heap.size=w.heap.size+1:=by simp
 have ju:=aO.size;have d:=λj a p=>(aO.block j (by omega) p).trans (Below.heap_alloc _ _ _ a);have Md:∀j c r,ay w 5 j c r->ay w2 5 j c r:=λj c r a=>by
  have AX:=a;obtain⟨cur,ie,_⟩:=AX;exact a.agree (d j a.lt (λe=>dR h.own e.symm ie (by decide) rfl))
 have Fb:=h.own.1;refine⟨⟨by rw [dT];exact az,λj a=>?_,λi y=>?_,λq k=>?_⟩,⟨aO.os,aO.tape,aO.output,by omega,λj a p=>d j a (λe=>p e.symm)⟩⟩
 .have e:j=g2:=by simpa [Value.ownBlock] using a.symm
  rw [e];exact m
 .by_cases nj:i<ps.length
  .obtain⟨f,c',t,s,C,u⟩:=h.put i nj;refine⟨f,c',?_,?_,x i nj f c' s,?_⟩
   .rw [List.getElem?_append_left (by omega),t,List.getElem_append_left nj]
   .rw [List.getElem?_append_left (by omega),s]
   .rw [List.getElem_append_left nj];exact Md _ _ _ u
  .have Dm:i=ps.length:=(by simp at y;omega);subst Dm;refine⟨g,c,?_,?_,n,?_⟩
   .rw [List.getElem?_append_right (by omega),show 2*ps.length-xs.length=0 by omega];simp
   .rw [List.getElem?_append_right (by omega),show 2*ps.length+1-xs.length=1 by omega];simp
   .simpa using Md _ _ _ A
 .rcases List.mem_append.1 k with k|k
  .exact h.len q k
  .rw [List.mem_singleton.1 k];exact z
def Pn (w:World) (X:Nat->Prop) (B:Nat) (v:Value) (ps:List (Nat×List Int)):Prop:=
 ∃xs,PL w (λj=>X j\/v.ownBlock=some j) v ps xs/\(∀g,v.ownBlock=some g->B<=g)/\∀i (_:i<ps.length) g c,xs[2*i+1]? =some (.slice (some (aD g 0)) 512 c)->X g
theorem Pn.nil (w:World) (X:Nat->Prop) (B:Nat):Pn w X B (.slice none 0 0) []:=by
 obtain⟨xs,h⟩:=Pl.nil w (λj=>X j\/(Value.slice none 0 0).ownBlock=some j);exact⟨xs,h,λg e=>by simp [Value.ownBlock] at e,λi a=>by simp at a⟩
theorem Pn.pl {B:Nat} (h:Pn w X B v ps):Pl w (λj=>X j\/v.ownBlock=some j) v ps:=by obtain⟨xs,h,_⟩:=h;exact⟨xs,h⟩
theorem Pn.lo {B:Nat} (h:Pn w X B v ps):∀g,v.ownBlock=some g->B<=g:=by obtain⟨xs,_,h,_⟩:=h;exact h
theorem Pn.au {B:Nat} {Z:Nat->Prop} (h:Pn w X B v ps) (e:aa Z w w') (f:∀g,v.ownBlock=some g->¬Z g) (hd:∀g c ys,(X g\/v.ownBlock=some g)->ay w 5 g c ys->¬Z g):Pn w' X B v ps:=by
 obtain⟨xs,a,b,d⟩:=h;exact⟨xs,a.au e f hd,b,d⟩
theorem Pn.later {B:Nat} (h:Pn w X B v ps) (a:bW w w'):Pn w' X B v ps:=h.au (aa.ah (λ_=>False) a) (λ_ _ h=>h) (λ_ _ _ _ _ h=>h)
theorem Pn.adZ {B:Nat} (h:Pn w X B v ps) {b:Nat} (n:X g) (u:ay w 5 g c (bs l)) (r:l.length=512/\Bytes l) (z:ps.length<=1000000) (y:B<=w.heap.size):
  ∃g2 bZ w2,(Builtin.append_ #[127,127] 127 #[v, .slice (some (aD w.heap.size 0)) 1 1]).run prog (w.alloc (.cells #[.int .i64 (b:Int), .slice (some ⟨g,0,none⟩) 512 c] 166))= .ok (.slice (some (aD g2 0)) (ps.length+1) bZ) w2/\Pn w2 X B (.slice (some (aD g2 0)) (ps.length+1) bZ) (ps ++ [(b,l)])/\aa (λj=>v.ownBlock=some j) w w2:=by
 obtain⟨xs,a,o,k⟩:=h;obtain⟨x,rt,gv,dr,ec⟩:=info_parts pT;obtain⟨g2,bZ,w2,bC,az,aO,ic,bm⟩:=run_append_lies (P:=prog) (w.alloc (.cells #[.int .i64 (b:Int), .slice (some ⟨g,0,none⟩) 512 c] 166)) 127 127 0 166 x _ 2 32 underlying127 rt gv dr ec rfl (by omega) v ps.length xs (aC a.own (λj e=>Below.heap_alloc w _ _ (pU a.own e))) (aD w.heap.size 0) 1 1 [iV (b:Int), .slice (some (aD g 0)) 512 c] (by rfl) (World.news_of_block (cs:= #[iV (b:Int), .slice (some (aD g 0)) 512 c]) (t:=166) (fr:=(0,0)) (heap_alloc_new w _)) (by simp [Value.oneCell']) (by omega) (by unfold maxLen;omega) (by omega) (dU _) (w.heap.size+1) (by simp);obtain⟨s,q⟩:=a.adY (Y:=λj=>X j\/(Value.slice (some (aD g2 0)) (ps.length+1) bZ).ownBlock=some j) u r az aO (λi f d c' e=> .inl (k i f d c' e)) (.inl n) (.inr rfl);have Fb:=a.own.1;refine⟨g2,bZ,w2,bC,⟨_,s,λj p=>?_,λi f d c' e=>?_⟩,q⟩
 .have e:j=g2:=by simpa [Value.ownBlock] using p.symm
  rcases ic with m|m
  .rw [e];exact o g2 m
  .omega
 .by_cases nj:i<ps.length
  .rw [List.getElem?_append_left (by omega)] at e;exact k i nj d c' e
  .have Dm:i=ps.length:=(by simp at f;omega);subst Dm;rw [List.getElem?_append_right (by omega),show 2*ps.length+1-xs.length=1 by omega] at e;simp at e;rw [<-e.1];exact n
theorem Oj (d:List Int) (hd:(L.append S s d).2.2.dead (L.append S s d).2.1=false):L.dead S=false:=by
 unfold LG.append at hd;split at hd
 .exact hd
 .rename_i q;cases a:L.dead S
  .rfl
  .exfalso;apply q;unfold LG.fN LG.bd;rw [a];simp
end
end
end Go.Proofs.YtenlkgicpllbhaaGreat
