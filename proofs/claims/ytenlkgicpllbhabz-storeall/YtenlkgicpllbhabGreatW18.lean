import Derived.Test.YtenlkgicpllbhabGreatW01
import Derived.Test.YtenlkgicpllbhabGreatW09
import Derived.Test.YtenlkgicpllbhabGreatW11
import Derived.Test.YtenlkgicpllbhabGreatW15
import Derived.Test.YtenlkgicpllbhabGreatW17
set_option maxRecDepth 20000
set_option maxHeartbeats 8000000
set_option linter.all false
namespace Go.Proofs.YtenlkgicpllbhabGreat
open Go.Proofs.Tryz
open Go.RowKit Go.Maps
variable {ms:CM} {S:DS} {rs:List (List Int)} {d l:List Int} {ks:List Nat} {a blocks c hd n p s:Nat} {v:Value}
section
def rdAll (blocks:Nat):CM->List (List Int)->Option CM
 |ms, []=>some ms
 |ms,r :: rs=>match rdRec blocks r with
  |none=>none
  |some cs=>rdAll blocks (CM.bX ms cs) rs
def ee (S:DS) (s:Nat) (y:LY) (ov:CM) (rs:List (List Int)):Int×DS:=
 if rs= [] then (0,S) else if (sbring S s y.home ov).1≠0 then sbring S s y.home ov else (sbring S s y.home ov).2.fl s
theorem wq:∀{ks:List Nat} {l r:List Int} {cs:CM},rdCons ks l=some (cs,r)->∀x∈cs,x.1∈ks
 | [],l,r,cs,h=>by
  simp only [rdCons,Option.some.injEq,Prod.mk.injEq] at h;obtain⟨rfl,_⟩:=h;simp
 |k :: ks,l,r,cs,h=>by
  rw [iw] at h;split at h
  .cases h
  .cases a:rdCons ks (l.drop 512) with
   |none=>rw [a] at h;cases h
   |some x=>
    rw [a] at h;simp only [Option.map_some,Option.some.injEq,Prod.mk.injEq] at h;obtain⟨rfl,rfl⟩:=h;intro z b;rcases List.mem_cons.1 b with rfl|b
    .simp
    .exact List.mem_cons_of_mem _ (wq (cs:=x.1) (r:=x.2) a z b)
theorem sN {cs:CM} (h:rdRec blocks d=some cs):∀x∈cs,x.1<blocks:=by
 unfold rdRec at h;split at h
 .cases h
 .split at h
  .split at h
   .cases h
   .rename_i ks r c;cases b:rdCons ks r with
    |none=>rw [b] at h;cases h
    |some x=>
     obtain⟨g,f⟩:=x;rw [b] at h;cases f with
     |nil=>
      simp only [rdTail,Option.some.injEq] at h;subst h;intro z e;exact(lU c).2 _ (wq b z e)
     |cons a t=>cases h
  .cases h
theorem Oy {P:Nat->Prop}:∀{cs:CM},(∀x∈ms,P x.1)->(∀x∈cs,P x.1)->∀x∈CM.bX ms cs,P x.1:=by
 intro cs
 induction cs generalizing ms with
 |nil=>intro h _ x a;exact h x a
 |cons q c f=>
  intro d b;have e:CM.bX ms (q :: c)=CM.bX (CM.put ms q.1 q.2) c:=rfl;rw [e];refine f (λx a=>?_) (λx a=>b x (List.mem_cons_of_mem _ a));rcases CM.qL a with rfl|a
  .exact b q (by simp)
  .exact d x a
theorem Ch.qh {w:World} {m:Nat} (h:Ch w m ms) {cur:Array Value} {t:TypeId} {c:Nat×Nat} (b:w.heap[m]? =some (.cells cur t c)):False:=by
 obtain⟨D,h⟩:=h;obtain⟨e,a,d,_⟩:=h.own;rw [d] at b;cases b
def KN (w:World) (v:Value) (rs:List (List Int)):Prop:=
 ∃vs,w.ownsRow 0 22 1 v rs.length vs/\∀i (hi:i<rs.length),∃g c,vs[i]? =some (.slice (some (aD g 0)) (rs[i]).length c)/\ay w 5 g c (bs rs[i])
theorem KN.shape {w:World} (h:KN w v rs):∃a n c,v= .slice a n c/\n=rs.length/\∀i (e:i<rs.length),∃b g c',a=some (aD b 0)/\w.cell? (aD b i)=some (.slice (some (aD g 0)) (rs[i]).length c')/\ay w 5 g c' (bs rs[i]):=by
 obtain⟨t,j,o⟩:=h;have f:=j;obtain⟨s,⟨rfl,h0⟩|⟨g,d,cur,rfl,r,q,p⟩⟩:=j
 .exact⟨none,0,0,rfl,h0.symm,λi e=>by omega⟩
 .refine⟨_,_,d,rfl,rfl,λi e=>?_⟩;obtain⟨k,c',l,m⟩:=o i e;refine⟨g,k,c',rfl,?_,m⟩;have:=f.cells (g:=g) rfl i _ l;rwa [aK,Nat.zero_add] at this
theorem KN.au {w w':World} {m:Nat} (h:KN w v rs) (f:Ch w m ms) (d:aa (λk=>k=m) w w'):KN w' v rs:=by
 obtain⟨q,j,p⟩:=h;refine⟨q,we j (λg n=>?_),λi o=>?_⟩
 .obtain⟨cur,a⟩:=bJ j n;exact d.block g (aw a) (λe=>f.qh (by rw [<-e];exact a))
 .obtain⟨g,c,l,b⟩:=p i o;refine⟨g,c,l,b.agree (d.block g b.lt (λe=>?_))⟩;obtain⟨cur,a,_⟩:=b;exact f.qh (by rw [<-e];exact a)
section
variable {w:World} {F:Nat->Prop} {p s c q l m:Nat} {S:DS} {y:LY} {busy:Bool}
theorem SD (hd:B.ax w F p s S c) (hs:mZ w q p l m y busy) (hm:Ch w m []) (hq:¬F q) (TW:¬F m) (hy:y.home+y.blocks<=s) (hv:KN w v rs) (CA:∀r∈rs,Bytes r/\r.length<=1000000) (rE:rs.length<=1000000) (aT:S.puts.length+3000<=4000000000000):
  Calls prog 45 #[pQ q,v] w λe w'=>(rdAll y.blocks [] rs=none/\e= .panicked CF/\B.ax w' F p s S c/\aa (λk=>k=m) w w')\/(∃ov,rdAll y.blocks [] rs=some ov/\e= .returned (iV (ee S s y ov rs).1)/\B.ax w' (more F w w') p s (ee S s y ov rs).2 c/\aa (λk=>k=m\/F k) w w'/\((ee S s y ov rs).1=0->Ch w' m [])):=by
 obtain⟨a,n,cp,rfl,hn,du⟩:=hv.shape;have Mb:=hd.ok.hi;have t:=yh (aF hd (aF hs (aF hm (aF hv (aF CA rE)))));obtain⟨R,N⟩:=bQ (rdAll y.blocks [] rs);rw [<-N];clear hd hs hm hv CA du;go_in;by_cases Z:n=0
 .have d0:(((n:Nat):Int) == 0)=true:=by rw [Z];rfl
  obtain rfl:rs= []:=List.eq_nil_of_length_eq_zero (by omega);have D:=yh (show R=some [] from N);clear N Z hn;go_wp2;go_ret;refine .inr ⟨[],D.o,rfl,?_,aa.refl _ _,λ_=>t.o.2.2.1⟩;exact t.o.1.more
 .have d0:(((n:Nat):Int) == 0)=false:=by
   rw [eG];omega
  have D:=yh (aF N (aF hn Z));have NR:n<=1000000:=by omega
  clear N Z hn rE;go_wp2;go_loopw [14] (λiv wr=>∃(i:Nat) (ms:CM),iv=iV i/\i<=n/\Ch wr m ms/\(∀x∈ms,x.1<y.blocks)/\aa (λk=>k=m) w wr/\R=rdAll y.blocks ms (rs.drop i)) (λiv _=>n-(intOf iv).toNat);case atStart=>exact⟨0, [],rfl,dU _,t.o.2.2.1,(λx W=>by cases W),aa.refl _ _,D.o.1⟩
  case round=>
   obtain⟨i,ms,rfl,hi,nc,Mu,fP,j⟩:=hrel;have Kk:q≠m:=λe=>t.o.2.2.1.qh (by rw [<-e];exact t.o.2.1);have bt:=t.o.2.1.au fP (λe=>Kk e);have j7:=t.o.1.au fP (λk hF e=>TW (e▸hF));by_cases bm:i<n
   .have cw:(i:Int)<(n:Int):=(by omega);have uG:i<rs.length:=(by rw [<-D.o.2.1];exact bm);obtain⟨a2,n2,cp2,e2,Ro,du⟩:=(t.o.2.2.2.1.au t.o.2.2.1 fP).shape;cases e2;clear Ro;obtain⟨b,g,c',rfl,q0,aY⟩:=du i uG;have cZ:=t.o.2.2.2.2.1 _ (List.getElem_mem uG);have Q:g≠m:=λe=>by
     obtain⟨cur,hc,_⟩:=aY;exact nc.qh (by rw [<-e];exact hc)
    have h1:=λ(wx:World) (hb:bW wr wx)=>Ox (nc.later hb) (some (aD g 0)) (rs[i]).length c' rs[i] (aY.src.later hb) cZ.1 cZ.2 (by have:=aY.le;simpa [bs] using this) (by have:=aY.max;unfold maxLen at this;omega) (λx W _=>by cases W;exact Q) y.blocks (by omega);rw [List.drop_eq_getElem_cons uG] at j;have Y:=yh (aF Mu (aF fP (aF j j7)));generalize rs[i]=r at*;have M:=bt.c7;have cc4:=bt.c4;have sO:=yh (λ(I:rdRec y.blocks r=none)=>(by rw [Y.o.2.2.1];unfold rdAll;rw [I]:R=none));have Ep:bW wr wr.drew:=ai (bi _ _);have z:=yh (λ(H:World) (Uo:aa (λk=>k=m) wr.drew H)=>((Y.o.2.1.trans (aa.ah (λ_=>False) Ep) (λ_ h=>h.elim)).trans Uo (λ_ h=> .inl h):aa (λk=>k=m) w H));have L:=yh (λ(H:World) (Uo:aa (λk=>k=m) wr.drew H)=>(⟨((bt.later Ep).au Uo (λe=>Kk e)).c7,((bt.later Ep).au Uo (λe=>Kk e)).c4⟩:H.cell? (aD q 7)=some (.map (some m))/\H.cell? (aD q 4)=some (iV (y.blocks:Int))));clear Mu fP j j7 nc bt du aY cZ Q;go_wp2_with fail;refine wp_region_held_drew (S:=(λw'=>w'.cell? (aD q 7)=some (.map (some m))/\w'.cell? (aD q 4)=some (iV (y.blocks:Int)))) (by kernel_rfl) ((yh (aF M cc4)).out) (λRV=>?_);refine wpAnyH_take (i:=0) (oi:={dst:=some 18,op:=Op.move (Operand.tmp 0),type:=50,pos:= "store.go:110",after:= #[],guard:=none}) (v:=pQ q) rfl (by kernel_rfl) (by kernel_rfl) (by kernel_rfl) (λ_ _ _ h=>h) (Or.inl ⟨by rfl,?_⟩) (by assumption) ?_
    .intro w vt
     (try dsimp only at vt)
     go_simp
    try simp only [Act.put,List.setIfInBounds_toArray,List.set_cons_zero,List.set_cons_succ]
    refine wpAnyH_take (i:=1) (oi:={dst:=some 19,op:=Op.nilCheck (Operand.tmp 18),type:=0,pos:= "store.go:110",after:= #[{on:=0,ground:=Ground.data}],guard:=none}) (v:=pQ q) rfl (by kernel_rfl) (by kernel_rfl) (by kernel_rfl) (λ_ _ _ h=>h) (Or.inl ⟨by rfl,?_⟩) (by assumption) ?_
    .intro w vt
     (try dsimp only at vt)
     go_simp
    try simp only [Act.put,List.setIfInBounds_toArray,List.set_cons_zero,List.set_cons_succ]
    refine wpAnyH_take (i:=2) (oi:={dst:=some 20,op:=Op.fieldAddr 85 (Operand.tmp 19) 3,type:=0,pos:= "store.go:110",after:= #[{on:=1,ground:=Ground.data}],guard:=none}) (v:= .pointer (some (aD q 7))) rfl (by kernel_rfl) (by kernel_rfl) (by kernel_rfl) (λ_ _ _ h=>h) (Or.inl ⟨by rfl,?_⟩) (by assumption) ?_
    .intro w vt
     (try dsimp only at vt)
     go_simp
    try simp only [Act.put,List.setIfInBounds_toArray,List.set_cons_zero,List.set_cons_succ]
    refine wpAnyH_take (i:=3) (oi:={dst:=some 21,op:=Op.load 83 (Operand.tmp 20),type:=83,pos:= "store.go:110",after:= #[{on:=2,ground:=Ground.data}],guard:=none}) (v:= .map (some m)) rfl (by kernel_rfl) (by kernel_rfl) (by kernel_rfl) (λ_ _ _ h=>h) (Or.inl ⟨by rfl,?_⟩) (by assumption) ?_
    .intro w vt
     (try dsimp only at vt)
     go_simp
    try simp only [Act.put,List.setIfInBounds_toArray,List.set_cons_zero,List.set_cons_succ]
    refine wpAnyH_take (i:=4) (oi:={dst:=some 22,op:=Op.move (Operand.tmp 6),type:=22,pos:= "store.go:110",after:= #[],guard:=none}) (v:= .slice (some (aD g 0)) r.length c') rfl (by kernel_rfl) (by kernel_rfl) (by kernel_rfl) (λ_ _ _ h=>h) (Or.inl ⟨by rfl,?_⟩) (by assumption) ?_
    .intro w vt
     (try dsimp only at vt)
     go_simp
    try simp only [Act.put,List.setIfInBounds_toArray,List.set_cons_zero,List.set_cons_succ]
    refine wpAnyH_take (i:=5) (oi:={dst:=some 23,op:=Op.move (Operand.tmp 0),type:=50,pos:= "store.go:110",after:= #[],guard:=none}) (v:=pQ q) rfl (by kernel_rfl) (by kernel_rfl) (by kernel_rfl) (λ_ _ _ h=>h) (Or.inl ⟨by rfl,?_⟩) (by assumption) ?_
    .intro w vt
     (try dsimp only at vt)
     go_simp
    try simp only [Act.put,List.setIfInBounds_toArray,List.set_cons_zero,List.set_cons_succ]
    refine wpAnyH_take (i:=6) (oi:={dst:=some 24,op:=Op.nilCheck (Operand.tmp 23),type:=0,pos:= "store.go:110",after:= #[{on:=5,ground:=Ground.data}],guard:=none}) (v:=pQ q) rfl (by kernel_rfl) (by kernel_rfl) (by kernel_rfl) (λ_ _ _ h=>h) (Or.inl ⟨by rfl,?_⟩) (by assumption) ?_
    .intro w vt
     (try dsimp only at vt)
     go_simp
    try simp only [Act.put,List.setIfInBounds_toArray,List.set_cons_zero,List.set_cons_succ]
    refine wpAnyH_take (i:=7) (oi:={dst:=some 25,op:=Op.fieldAddr 85 (Operand.tmp 24) 2,type:=0,pos:= "store.go:110",after:= #[{on:=6,ground:=Ground.data}],guard:=none}) (v:= .pointer (some (aD q 2))) rfl (by kernel_rfl) (by kernel_rfl) (by kernel_rfl) (λ_ _ _ h=>h) (Or.inl ⟨by rfl,?_⟩) (by assumption) ?_
    .intro w vt
     (try dsimp only at vt)
     go_simp
    try simp only [Act.put,List.setIfInBounds_toArray,List.set_cons_zero,List.set_cons_succ]
    refine wpAnyH_take (i:=8) (oi:={dst:=some 26,op:=Op.fieldAddr 75 (Operand.tmp 25) 2,type:=0,pos:= "store.go:110",after:= #[{on:=7,ground:=Ground.data}],guard:=none}) (v:= .pointer (some (aD q 4))) rfl (by kernel_rfl) (by kernel_rfl) (by kernel_rfl) (λ_ _ _ h=>h) (Or.inl ⟨by rfl,?_⟩) (by assumption) ?_
    .intro w vt
     (try dsimp only at vt)
     go_simp
    try simp only [Act.put,List.setIfInBounds_toArray,List.set_cons_zero,List.set_cons_succ]
    refine wpAnyH_take (i:=9) (oi:={dst:=some 27,op:=Op.load 3 (Operand.tmp 26),type:=3,pos:= "store.go:110",after:= #[{on:=8,ground:=Ground.data}],guard:=none}) (v:=iV (y.blocks:Int)) rfl (by kernel_rfl) (by kernel_rfl) (by kernel_rfl) (λ_ _ _ h=>h) (Or.inl ⟨by rfl,?_⟩) (by assumption) ?_
    .intro w vt
     (try dsimp only at vt)
     go_simp
    try simp only [Act.put,List.setIfInBounds_toArray,List.set_cons_zero,List.set_cons_succ]
    refine wpAnyH_ready (rs:= [10]) (by kernel_rfl) (by simp) ?_;refine AllReadyH.cons (o:={dst:=some 28,op:=Op.call {callee:=Callee.value (Operand.func 106),args:= #[Operand.tmp 21,Operand.tmp 22,Operand.tmp 27],argTypes:= #[83,22,3]},type:=0,pos:= "store.go:110",after:= #[{on:=3,ground:=Ground.data},{on:=4,ground:=Ground.data},{on:=9,ground:=Ground.data}],guard:=none}) rfl (λK hK=>?_) AllReadyH.nil;go_simp;refine(h1 _ (ai (bi _ _))).mono ?_;rintro e H ⟨Uo,Hw⟩;rcases Hw.symm with ⟨I,rfl⟩|⟨cs,I,rfl,sG⟩
    .exact⟨rfl, .inl ⟨sO.o I,rfl,t.o.1.au (z.o _ Uo) (λk hF e=>TW (e▸hF)),z.o _ Uo⟩⟩
    refine hK.out _ _ ?_ (λRV=>?_)
    .exact L.o _ Uo
    clear hK K;try simp only [Act.put,List.setIfInBounds_toArray,List.set_cons_zero,List.set_cons_succ]
    refine wpAnyH_done (by kernel_rfl) ?_ _;clear Hw RV;have X:=yh (aF (z.o _ Uo) (aF I sG));clear Uo I sG h1 L z sO Ep q0;go_wp2;go_roundw;case rel=>exact⟨i+1,CM.bX ms cs,by go_num,by omega,X.o.2.2,Oy (P:=λk=>k<y.blocks) Y.o.1 (sN X.o.2.1),X.o.1,by
     have E:=Y.o.2.2.1;unfold rdAll at E;rw [X.o.2.1] at E;exact E⟩
    case measure=>exact SA (S:=n) (i:=i) (k:=i+1) bm (by omega)
   .have cw:¬(i:Int)<(n:Int):=(by omega);rw [List.drop_eq_nil_of_le (by have:=D.o.2.1;omega)] at j;have O:R=some ms:=j;have km:=nc.small;have E:=rG j7 bt nc hq TW (λx W=>by have:=Mu x W;omega) aT;have pf:=eA S s y.home ms;obtain⟨T,hT⟩:=bQ (sbring S s y.home ms);have kP:ee S s y ms rs=if T.1≠0 then T else T.2.fl s:=by
     unfold ee;rw [aA (λe=>by rw [e] at D;have:=D.o.2;simp at this),<-hT]
    rw [<-hT] at E pf;have d:=yh (aF O (aF kP (aF fP (aF bt (aF nc j7.lt)))));clear j O hT Mu fP bt j7 nc D kP;go_wp2_with fail;refine fk E λw2 cC aX=>?_;clear E;obtain⟨dr,ec,AY,A5⟩:=cM d.o.2.2.1.size aX.size d.o.2.2.2.2.1.lt d.o.2.2.2.1.lt;by_cases C:T.1=0
    .have d1:(T.1 == 0)=true:=(by rw [C];rfl);have d2:(T.1 != 0)=false:=(by simp [C]);have h3:=B.vg cC (by omega);have kZ:=d.o.2.2.2.1.au aX hq;have cc0:=kZ.c0;have kP:=d.o.2.1;rw [aA (λh=>h C)] at kP;obtain⟨U,hU⟩:=bQ (T.2.fl s);rw [<-hU] at h3 kP;have f:=yh (aF kP (aF aX (aF kZ (d.o.2.2.2.2.1.au aX TW))));clear hU kP kZ cC aX C;go_wp2_with fail;refine fk h3 λw3 A aV=>?_;clear h3 cc0;have kO:=aV.size;have BV:¬more F wr w2 m:=λh=>by rcases h with h|h;exact TW h;omega
     have ajU:¬more F wr w2 q:=λh=>by rcases h with h|h;exact hq h;omega
     have IV:=((d.o.2.2.1.mono (G:=λk=>k=m\/F k) (λk e=> .inl e)).trans f.o.2.1 (λk h=> .inl (.inr h))).trans aV (λk h=>by rcases h with h|h;exact .inl (.inr h);exact .inr (by omega));by_cases J:U.1=0
     .have d3:(U.1 != 0)=false:=(by simp [J]);obtain⟨w4,aqW,SE,dV,vS⟩:=(f.o.2.2.2.au aV BV).qB;have M:=(f.o.2.2.1.au aV ajU).c7;have u:=yh (aF A (aF IV (aF SE (aF dV (aF J vS)))));clear A aV IV SE dV J vS;go_wp2;go_ret;refine .inr ⟨ms,d.o.1,by rw [f.o.1,u.o.2.2.2.2.1];rfl,?_,u.o.2.1.trans u.o.2.2.2.1 (λk e=> .inl (.inl e)),λ_=>u.o.2.2.1⟩;rw [f.o.1];have vS:=u.o.2.2.2.2.2;refine(u.o.1.au u.o.2.2.2.1 (λk h e=>BV (e▸h))).mono (λk h=>?_) (λk h=>?_)
      .rcases h with h|h
       .exact .inl h
       .exact .inr (by omega)
      .rcases h with h|h
       .have:=d.o.2.2.2.2.2 k h;omega
       .omega
     .have d3:(U.1 != 0)=true:=(by simp [J]);have u:=yh (aF A (aF IV J));clear A aV IV J;go_wp2;go_ret;refine .inr ⟨ms,d.o.1,by rw [f.o.1];rfl,?_,u.o.2.1,λh=>absurd (by rw [f.o.1] at h;exact h) u.o.2.2⟩;rw [f.o.1];refine u.o.1.mono (λk h=>?_) (λk h=>?_)
      .rcases h with h|h
       .exact .inl h
       .exact .inr (by omega)
      .rcases h with h|h
       .have:=d.o.2.2.2.2.2 k h;omega
       .omega
    .have d1:(T.1 == 0)=false:=(by simpa using C);have d2:(T.1 != 0)=true:=(by simp [C]);have kP:=d.o.2.1;rw [aE C] at kP;have f:=yh (aF kP (aF aX (aF cC C)));clear kP cC aX C;go_wp2;go_ret;refine .inr ⟨ms,d.o.1,by rw [f.o.1];rfl,?_,(d.o.2.2.1.mono (G:=λk=>k=m\/F k) (λk e=> .inl e)).trans f.o.2.1 (λk h=> .inl (.inr h)),λh=>absurd (by rw [f.o.1] at h;exact h) f.o.2.2.2⟩;rw [f.o.1];refine f.o.2.2.1.mono (λk h=>?_) (λk h=>?_)
     .rcases h with h|h
      .exact .inl h
      .exact .inr (by omega)
     .rcases h with h|h
      .have:=d.o.2.2.2.2.2 k h;omega
      .omega
end
end
def zipc:List Nat->List Int->CM
 | [],_=> []
 |k :: ks,r=>(k,r.take 512) :: zipc ks (r.drop 512)
theorem Ap:∀(ks:List Nat) (r:List Int),(zipc ks r).length=ks.length
 | [],_=>rfl
 |k :: ks,r=>by simp [zipc,Ap ks]
theorem C1 (k:Nat):∀(ks:List Nat) (r:List Int),zipc (ks ++ [k]) r=zipc ks r ++ [(k,(r.drop (512*ks.length)).take 512)]
 | [],r=>by simp [zipc]
 |x :: ks,r=>by
  rw [List.cons_append,zipc,zipc,C1 k ks,List.cons_append,List.drop_drop,List.length_cons,show 512+512*ks.length=512*(ks.length+1) by omega]
theorem sP:∀(ks:List Nat) (r:List Int),512*ks.length<=r.length->rdCons ks r=some (zipc ks r,r.drop (512*ks.length))
 | [],r,_=>rfl
 |k :: ks,r,h=>by
  rw [List.length_cons] at h;rw [iw,aA (by omega),sP ks (r.drop 512) (by rw [List.length_drop];omega),List.drop_drop,List.length_cons,show 512+512*ks.length=512*(ks.length+1) by omega];rfl
theorem uq:∀(ks:List Nat) (r:List Int),r.length<512*ks.length->rdCons ks r=none
 | [],r,h=>by simp at h
 |k :: ks,r,h=>by
  rw [List.length_cons] at h;rw [iw];split
  .rfl
  .rw [uq ks (r.drop 512) (by rw [List.length_drop];omega)];rfl
theorem KO {r:List Int} (h:r.length=512*ks.length):rdTail (rdCons ks r)=some (zipc ks r):=by
 rw [sP ks r (by omega),List.drop_eq_nil_of_le (by omega)];rfl
theorem Oz {r:List Int} (h:r.length≠512*ks.length):rdTail (rdCons ks r)=none:=by
 by_cases a:r.length<512*ks.length
 .rw [uq ks r a];rfl
 .rw [sP ks r (by omega)];have:0<(r.drop (512*ks.length)).length:=by rw [List.length_drop];omega
  cases hd:r.drop (512*ks.length) with
  |nil=>rw [hd] at this;simp at this
  |cons x xs=>rfl
theorem ws {blocks:Nat}:∀{n b:Nat} {l r:List Int} {ks:List Nat},rdNums blocks n b l=some (ks,r)->4*n<=l.length/\r=l.drop (4*n)
 |0,b,l,r,ks,h=>by
  simp only [rdNums,Option.some.injEq,Prod.mk.injEq] at h;exact⟨by omega,by rw [<-h.2];rfl⟩
 |n+1,b,l,r,ks,h=>by
  rw [kJ] at h;split at h
  .cases h
  .split at h
   .cases a:rdNums blocks n (le (l.take 4)+1) (l.drop 4) with
    |none=>rw [a] at h;cases h
    |some x=>
     rw [a] at h;simp only [Option.map_some,Option.some.injEq,Prod.mk.injEq] at h;obtain⟨rfl,rfl⟩:=h;obtain⟨c,d⟩:=ws (ks:=x.1) (r:=x.2) a;rw [List.length_drop] at c;refine⟨by omega,?_⟩;rw [d,List.drop_drop];congr 1;omega
   .cases h
def qi (blocks:Nat) (d:List Int) (c:Nat) (ks:List Nat) (lo i:Nat):Option CM:=
 match rdNums blocks (c-i) lo (d.drop (2+4*i)) with
 |none=>none
 |some (js,r)=>rdTail (rdCons (ks ++ js) r)
theorem H6 (h:d.length<2\/¬(1<=le (d.take 2)/\le (d.take 2)<=16)\/d.length≠2+516*le (d.take 2)):rdRec blocks d=none:=by
 unfold rdRec;by_cases a:d.length<2
 .rw [aE a]
 .rw [aA a];by_cases b:1<=le (d.take 2)/\le (d.take 2)<=16
  .rw [aE b];cases c:rdNums blocks (le (d.take 2)) 0 (d.drop 2) with
   |none=>rfl
   |some x=>
    obtain⟨ks,r⟩:=x;obtain⟨e,f⟩:=ws c;rw [List.length_drop] at e;show rdTail (rdCons ks r)=none;refine Oz ?_;rw [f,(lU c).1,List.length_drop,List.length_drop];omega
  .rw [aA b]
theorem KP (h0:¬d.length<2) (a:1<=le (d.take 2)/\le (d.take 2)<=16):rdRec blocks d=qi blocks d (le (d.take 2)) [] 0 0:=by
 unfold rdRec qi;rw [aA h0,aE a];rfl
theorem KQ {a:Nat} (b:ks.length=c) (hd:d.length=2+516*c):qi blocks d c ks a c=some (zipc ks (d.drop (2+4*c))):=by
 unfold qi;rw [Nat.sub_self];show rdTail (rdCons (ks ++ []) (d.drop (2+4*c)))=_;rw [List.append_nil];exact KO (by rw [List.length_drop];omega)
theorem H7 {a i:Nat} (b:i<c) (hd:d.length=2+516*c):
  qi blocks d c ks a i=if a<=le ((d.drop (2+4*i)).take 4)/\le ((d.drop (2+4*i)).take 4)<blocks then qi blocks d c (ks ++ [le ((d.drop (2+4*i)).take 4)]) (le ((d.drop (2+4*i)).take 4)+1) (i+1) else none:=by
 unfold qi;rw [show c-i=(c-(i+1))+1 by omega,kJ,aA (by rw [List.length_drop];omega),List.drop_drop,show 2+4*i+4=2+4*(i+1) by omega];generalize le ((d.drop (2+4*i)).take 4)=K;by_cases h:a<=K/\K<blocks
 .rw [aE h,aE h];cases rdNums blocks (c-(i+1)) (K+1) (d.drop (2+4*(i+1))) with
  |none=>rfl
  |some x=>
   show rdTail (rdCons (ks ++ K :: x.1) x.2)=rdTail (rdCons ((ks ++ [K]) ++ x.1) x.2);rw [List.append_assoc];rfl
 .rw [aA h,aA h]
section
theorem qq {m:Nat} (a:p<l.length):(l.drop p).take (m+1)=l.getD p 0 :: (l.drop (p+1)).take m:=by
 rw [List.drop_eq_getElem_cons a,List.take_succ_cons];simp [List.getD,List.getElem?_eq_getElem a]
theorem bw (a:Option Addr) (m c:Nat) (l:List Int) (w:World) (s:Src w a m l) (x:Bytes l) (d n:Nat) (D:n<=4) (ic:d+n<=m) (C:m<=140737488355328):
  Calls prog 196 #[.slice a m c,iV (d:Int),iV (n:Int)] w λe w'=>e= .returned (iV ((le ((l.drop d).take n):Nat):Int))/\w'=w:=by
 have A:=s.1;have t:=yh s;clear s;go_in;go_wp2;go_loopw [7,8] (λv i wr=>∃j:Nat,j<=n/\i=iV ((j:Int)-1)/\v=iV ((le ((l.drop (d+j)).take (n-j)):Nat):Int)/\wr=w) (λ_ i _=>(intOf i+1).toNat);case atStart=>exact⟨n,bP _,rfl,by simp [le],rfl⟩
 case round=>
  obtain⟨j,z,rfl,rfl,rfl⟩:=hrel;by_cases q:1<=j
  .obtain⟨i,rfl⟩:∃i,j=i+1:=⟨j-1,by omega⟩;have vQ:(0:Int)<=((i+1:Nat):Int)-1:=(by omega);have r:=qJ (x.drop (d+(i+1))|>.take (n-(i+1))) (k:=3) (by rw [List.length_take];omega);have f:=qq (l:=l) (p:=d+i) (m:=n-(i+1)) (by omega);rw [show n-(i+1)+1=n-i by omega,show d+i+1=d+(i+1) by omega] at f;obtain⟨V,g⟩:=bQ (le ((l.drop (d+(i+1))).take (n-(i+1))));rw [<-g] at r⊢;obtain⟨b,o,rfl⟩:=cT t.o (by omega);have du:wr.cell? ⟨b,o+(d+i),none⟩=some (.int .u8 (l.getD (d+i) 0)):=(by have:=t.o.2.2 _ rfl (d+i) (by omega);rwa [aK] at this);have cZ:=x.getD (d+i);have GR:=yh f;have y:=yh g;obtain⟨X,u⟩:=bQ (l.getD (d+i) 0);rw [<-u] at du cZ GR;have Xa:((i+1:Nat):Int)-1=(i:Int):=(by omega);rw [Xa] at vQ⊢;have aey:(d:Int)+(i:Int)<(m:Int):=(by omega);clear g f Xa u;go_wp2;go_roundw;case rel=>
    refine⟨i,by omega,by go_num,?_,trivial⟩;rw [GR.o];congr 1;show _=((X.toNat+256*le ((l.drop (d+(i+1))).take (n-(i+1))):Nat):Int);rw [<-y.o];omega
   case measure=>simp [intOf]
  .obtain rfl:j=0:=(by omega);have vQ:¬(0:Int)<=((0:Nat):Int)-1:=(by omega);go_wp2;go_ret;exact⟨rfl,rfl⟩
theorem vx (a:(aR l).2=0) (b:12<=(aR l).1.length):(cF l).e=le (((aR l).1.drop 0).take 4)/\(cF l).p=le (((aR l).1.drop 4).take 4)/\(cF l).i=le (((aR l).1.drop 8).take 2)/\(cF l).c=le (((aR l).1.drop 10).take 2)/\(cF l).d=(aR l).1.drop 12:=by
 unfold cF;rw [aA (by omega)];exact⟨rfl,rfl,rfl,rfl,rfl⟩
theorem xP (h:(aR l).2≠0\/(aR l).1.length<=12):(cF l).d= []:=by
 unfold cF;split
 .rfl
 .show (aR l).1.drop 12= [];exact List.drop_eq_nil_of_le (by omega)
section
variable {w w':World} {F G:Nat->Prop} {r s k:Nat} {S:DS} {L:LG}
def Wm (w w':World) (q:PC) (E P i c:Nat) (v:Value):Prop:=
   (q.ok E P i c/\∃body,Own w' w.heap.size v body/\body.drop 12=q.d/\12<body.length/\body.length<=504)\/(¬q.ok E P i c/\v= .slice none 0 0)
theorem OA (E P i c:Nat) (h:aB w F r s S) (J:cH w k r L) (cZ:Bytes (S.now (L.f+2+P%L.n))) (hs:L.f+2+L.n<=s) (iQ:1<=L.n) (aT:S.puts.length+1<=4000000000000) (X:E<=4294967296) (hP:P<=4294967296) (Y:i<=65536) (hc:c<=65536) (A2:1<=c):
  Calls prog 197 #[pQ k,iV (E:Int),iV (P:Int),iV (i:Int),iV (c:Int)] w λe w'=>∃v,e= .returned v/\Wm w w' (cF (S.now (L.f+2+P%L.n))) E P i c v/\bW w w':=by
 have Mb:=h.ok.hi;have R:P%L.n<L.n:=Nat.mod_lt _ iQ;have mN:=br h.ok (L.f+2+P%L.n) (by omega);obtain⟨C,G,H,I⟩:=cM (jF (h.later (ai (bi w.heap.size w))) (L.f+2+P%L.n) (by omega) (by omega)) J.c0 J.c2 J.c3;have wh:(P:Int).tmod (L.n:Int)=((P%L.n:Nat):Int):=by rw [Int.tmod_eq_emod_of_nonneg (by omega),<-Int.natCast_emod]
 have R6:(P:Int)%(L.n:Int)=((P%L.n:Nat):Int):=by rw [<-Int.natCast_emod]
 obtain⟨M,U⟩:=bQ (P%L.n);rw [<-U] at wh R6 R C mN cZ⊢;rw [show ((L.f+2+M:Nat):Int)=(L.f:Int)+2+(M:Int) by omega] at C;have xL:IntKind.i64.wrap ((L.f:Int)+2)=(L.f:Int)+2:=by rw [IntKind.wrap_i64];omega
 have aez:IntKind.i64.wrap ((L.f:Int)+2+(M:Int))=(L.f:Int)+2+(M:Int):=by rw [IntKind.wrap_i64];omega
 have aeA:¬L.n=0:=by omega
 clear U h J;generalize S.now (L.f+2+M)=l at*;have D:=DN l;have ie:=pG cZ;by_cases K:(aR l).2=0
 .go_in;go_wp2_with fail;go_region_held3 (λw'=>w'.cell? (aD k 0)=some (pQ r)/\w'.cell? (aD k 2)=some (iV (L.f:Int))/\w'.cell? (aD k 3)=some (iV (L.n:Int)))
   (first|exact⟨G,H,I⟩)
     ((go_at_call 69;refine C.mono ?_;rintro e w1 ⟨g,N,rfl,Q,aY,bN⟩;have j9:=bN.symm;clear bN;subst j9))
  have fZ:=aY.src;rw [mN] at fZ;have m:=qG (some (aD g 0)) 512 N l w.drew fZ cZ;rw [K] at m;clear C aY fZ G H I;go_wp2_with fail;refine m.mono ?_;rintro e a ⟨v2,rfl,jo,aW⟩;have eM:=(ai (bi w.heap.size w)).trans aW;obtain⟨b,rq,rfl,bo,_,_⟩:=jo.src;obtain⟨Vy,dE⟩:=bL (show Own a w.heap.size _ _ from jo) eM;by_cases W:(aR l).1.length<=12
  .have sO:=yh (show¬(cF l).ok E P i c from λh=>by have:=h.2.2.2.2.1;rw [xP (.inr W)] at this;simp at this);have d2:((aR l).1.length:Int)<=12:=(by omega);clear W;clear m aW eM jo bo;go_wp2;go_ret;exact⟨_,rfl, .inr ⟨sO.o,rfl⟩,dE.o⟩
  .have mT:=vx K (by omega);have d2:¬((aR l).1.length:Int)<=12:=(by omega);have wI:0<(cF l).d.length:=(by rw [mT.2.2.2.2,List.length_drop];omega);have sX:(cF l).d.length+12=(aR l).1.length:=(by rw [mT.2.2.2.2,List.length_drop];omega);by_cases t:(cF l).e=E
   .by_cases u:(cF l).p=P
    .by_cases y:(cF l).i=i
     .by_cases A:(cF l).c=c
      .by_cases O:i+1=c\/(aR l).1.length=504
       .obtain⟨Po,sH⟩:=bL (show (cF l).ok E P i c from ⟨t,u,y,A,wI,λh=>by omega⟩) mT.2.2.2.2;have q:=yh (show 12<(aR l).1.length/\(aR l).1.length<=504 from ⟨by omega,D⟩);by_cases T:i+1=c
        .have z:((i:Int) != (c:Int)-1)=false:=(by rw [bne_eq_false_iff_eq];omega);clear O T;have vy:=bw b _ rq _ a bo ie 0 4 (by omega) (by omega) (by omega);rw [<-mT.1,t,show (((0:Nat)):Int)=0 from rfl,show (((4:Nat)):Int)=4 from rfl] at vy;have uU:=bw b _ rq _ a bo ie 4 4 (by omega) (by omega) (by omega);rw [<-mT.2.1,u,show (((4:Nat)):Int)=4 from rfl] at uU;have Er:=bw b _ rq _ a bo ie 8 2 (by omega) (by omega) (by omega);rw [<-mT.2.2.1,y,show (((8:Nat)):Int)=8 from rfl,show (((2:Nat)):Int)=2 from rfl] at Er;have KR:=bw b _ rq _ a bo ie 10 2 (by omega) (by omega) (by omega);rw [<-mT.2.2.2.1,A,show (((10:Nat)):Int)=10 from rfl,show (((2:Nat)):Int)=2 from rfl] at KR;clear m aW eM jo bo mT;go_wp2_with (first|(go_at_call 196;refine vy.mono ?_;rintro e j ⟨rfl,eB⟩;have eS:=eB.symm;clear eB vy;subst eS)|(go_at_call 196;refine uU.mono ?_;rintro e j ⟨rfl,eB⟩;have eS:=eB.symm;clear eB uU;subst eS)|(go_at_call 196;refine Er.mono ?_;rintro e j ⟨rfl,eB⟩;have eS:=eB.symm;clear eB Er;subst eS)|(go_at_call 196;refine KR.mono ?_;rintro e j ⟨rfl,eB⟩;have eS:=eB.symm;clear eB KR;subst eS));go_ret;exact⟨_,rfl, .inl ⟨Po.o,_,Vy.o,sH.o.symm,q.o.1,q.o.2⟩,dE.o⟩
        .have z:((i:Int) != (c:Int)-1)=true:=(by rw [fT];omega);have dl:(((aR l).1.length:Int) != 504)=false:=(by rw [bne_eq_false_iff_eq];omega);clear O T;have vy:=bw b _ rq _ a bo ie 0 4 (by omega) (by omega) (by omega);rw [<-mT.1,t,show (((0:Nat)):Int)=0 from rfl,show (((4:Nat)):Int)=4 from rfl] at vy;have uU:=bw b _ rq _ a bo ie 4 4 (by omega) (by omega) (by omega);rw [<-mT.2.1,u,show (((4:Nat)):Int)=4 from rfl] at uU;have Er:=bw b _ rq _ a bo ie 8 2 (by omega) (by omega) (by omega);rw [<-mT.2.2.1,y,show (((8:Nat)):Int)=8 from rfl,show (((2:Nat)):Int)=2 from rfl] at Er;have KR:=bw b _ rq _ a bo ie 10 2 (by omega) (by omega) (by omega);rw [<-mT.2.2.2.1,A,show (((10:Nat)):Int)=10 from rfl,show (((2:Nat)):Int)=2 from rfl] at KR;clear m aW eM jo bo mT;go_wp2_with (first|(go_at_call 196;refine vy.mono ?_;rintro e j ⟨rfl,eB⟩;have eS:=eB.symm;clear eB vy;subst eS)|(go_at_call 196;refine uU.mono ?_;rintro e j ⟨rfl,eB⟩;have eS:=eB.symm;clear eB uU;subst eS)|(go_at_call 196;refine Er.mono ?_;rintro e j ⟨rfl,eB⟩;have eS:=eB.symm;clear eB Er;subst eS)|(go_at_call 196;refine KR.mono ?_;rintro e j ⟨rfl,eB⟩;have eS:=eB.symm;clear eB KR;subst eS));go_ret;exact⟨_,rfl, .inl ⟨Po.o,_,Vy.o,sH.o.symm,q.o.1,q.o.2⟩,dE.o⟩
       .have sO:=yh (show¬(cF l).ok E P i c from λh=>by have:=h.2.2.2.2.2;omega);have z:((i:Int) != (c:Int)-1)=true:=(by rw [fT];omega);have dl:(((aR l).1.length:Int) != 504)=true:=(by rw [fT];omega);clear O;have vy:=bw b _ rq _ a bo ie 0 4 (by omega) (by omega) (by omega);rw [<-mT.1,t,show (((0:Nat)):Int)=0 from rfl,show (((4:Nat)):Int)=4 from rfl] at vy;have uU:=bw b _ rq _ a bo ie 4 4 (by omega) (by omega) (by omega);rw [<-mT.2.1,u,show (((4:Nat)):Int)=4 from rfl] at uU;have Er:=bw b _ rq _ a bo ie 8 2 (by omega) (by omega) (by omega);rw [<-mT.2.2.1,y,show (((8:Nat)):Int)=8 from rfl,show (((2:Nat)):Int)=2 from rfl] at Er;have KR:=bw b _ rq _ a bo ie 10 2 (by omega) (by omega) (by omega);rw [<-mT.2.2.2.1,A,show (((10:Nat)):Int)=10 from rfl,show (((2:Nat)):Int)=2 from rfl] at KR;clear m aW eM jo bo mT;go_wp2_with (first|(go_at_call 196;refine vy.mono ?_;rintro e j ⟨rfl,eB⟩;have eS:=eB.symm;clear eB vy;subst eS)|(go_at_call 196;refine uU.mono ?_;rintro e j ⟨rfl,eB⟩;have eS:=eB.symm;clear eB uU;subst eS)|(go_at_call 196;refine Er.mono ?_;rintro e j ⟨rfl,eB⟩;have eS:=eB.symm;clear eB Er;subst eS)|(go_at_call 196;refine KR.mono ?_;rintro e j ⟨rfl,eB⟩;have eS:=eB.symm;clear eB KR;subst eS));go_ret;exact⟨_,rfl, .inr ⟨sO.o,rfl⟩,dE.o⟩
      .have sO:=yh (show¬(cF l).ok E P i c from λh=>A h.2.2.2.1);have x:(((cF l).c:Int) != (c:Int))=true:=(by rw [fT];omega);have z:((cF l).c == c)=false:=(by rw [eG];exact A);have vy:=bw b _ rq _ a bo ie 0 4 (by omega) (by omega) (by omega);rw [<-mT.1,t,show (((0:Nat)):Int)=0 from rfl,show (((4:Nat)):Int)=4 from rfl] at vy;have uU:=bw b _ rq _ a bo ie 4 4 (by omega) (by omega) (by omega);rw [<-mT.2.1,u,show (((4:Nat)):Int)=4 from rfl] at uU;have Er:=bw b _ rq _ a bo ie 8 2 (by omega) (by omega) (by omega);rw [<-mT.2.2.1,y,show (((8:Nat)):Int)=8 from rfl,show (((2:Nat)):Int)=2 from rfl] at Er;have KR:=bw b _ rq _ a bo ie 10 2 (by omega) (by omega) (by omega);rw [<-mT.2.2.2.1,show (((10:Nat)):Int)=10 from rfl,show (((2:Nat)):Int)=2 from rfl] at KR;clear m aW eM jo bo mT;go_wp2_with (first|(go_at_call 196;refine vy.mono ?_;rintro e j ⟨rfl,eB⟩;have eS:=eB.symm;clear eB vy;subst eS)|(go_at_call 196;refine uU.mono ?_;rintro e j ⟨rfl,eB⟩;have eS:=eB.symm;clear eB uU;subst eS)|(go_at_call 196;refine Er.mono ?_;rintro e j ⟨rfl,eB⟩;have eS:=eB.symm;clear eB Er;subst eS)|(go_at_call 196;refine KR.mono ?_;rintro e j ⟨rfl,eB⟩;have eS:=eB.symm;clear eB KR;subst eS));go_ret;exact⟨_,rfl, .inr ⟨sO.o,rfl⟩,dE.o⟩
     .have sO:=yh (show¬(cF l).ok E P i c from λh=>y h.2.2.1);have x:(((cF l).i:Int) != (i:Int))=true:=(by rw [fT];omega);have z:((cF l).i == i)=false:=(by rw [eG];exact y);have vy:=bw b _ rq _ a bo ie 0 4 (by omega) (by omega) (by omega);rw [<-mT.1,t,show (((0:Nat)):Int)=0 from rfl,show (((4:Nat)):Int)=4 from rfl] at vy;have uU:=bw b _ rq _ a bo ie 4 4 (by omega) (by omega) (by omega);rw [<-mT.2.1,u,show (((4:Nat)):Int)=4 from rfl] at uU;have Er:=bw b _ rq _ a bo ie 8 2 (by omega) (by omega) (by omega);rw [<-mT.2.2.1,show (((8:Nat)):Int)=8 from rfl,show (((2:Nat)):Int)=2 from rfl] at Er;clear m aW eM jo bo mT;go_wp2_with (first|(go_at_call 196;refine vy.mono ?_;rintro e j ⟨rfl,eB⟩;have eS:=eB.symm;clear eB vy;subst eS)|(go_at_call 196;refine uU.mono ?_;rintro e j ⟨rfl,eB⟩;have eS:=eB.symm;clear eB uU;subst eS)|(go_at_call 196;refine Er.mono ?_;rintro e j ⟨rfl,eB⟩;have eS:=eB.symm;clear eB Er;subst eS));go_ret;exact⟨_,rfl, .inr ⟨sO.o,rfl⟩,dE.o⟩
    .have sO:=yh (show¬(cF l).ok E P i c from λh=>u h.2.1);have x:(((cF l).p:Int) != (P:Int))=true:=(by rw [fT];omega);have z:((cF l).p == P)=false:=(by rw [eG];exact u);have vy:=bw b _ rq _ a bo ie 0 4 (by omega) (by omega) (by omega);rw [<-mT.1,t,show (((0:Nat)):Int)=0 from rfl,show (((4:Nat)):Int)=4 from rfl] at vy;have uU:=bw b _ rq _ a bo ie 4 4 (by omega) (by omega) (by omega);rw [<-mT.2.1,show (((4:Nat)):Int)=4 from rfl] at uU;clear m aW eM jo bo mT;go_wp2_with (first|(go_at_call 196;refine vy.mono ?_;rintro e j ⟨rfl,eB⟩;have eS:=eB.symm;clear eB vy;subst eS)|(go_at_call 196;refine uU.mono ?_;rintro e j ⟨rfl,eB⟩;have eS:=eB.symm;clear eB uU;subst eS));go_ret;exact⟨_,rfl, .inr ⟨sO.o,rfl⟩,dE.o⟩
   .have sO:=yh (show¬(cF l).ok E P i c from λh=>t h.1);have x:(((cF l).e:Int) != (E:Int))=true:=(by rw [fT];omega);have z:((cF l).e == E)=false:=(by rw [eG];exact t);have vy:=bw b _ rq _ a bo ie 0 4 (by omega) (by omega) (by omega);rw [<-mT.1,show (((0:Nat)):Int)=0 from rfl,show (((4:Nat)):Int)=4 from rfl] at vy;clear m aW eM jo bo mT;go_wp2_with (first|(go_at_call 196;refine vy.mono ?_;rintro e j ⟨rfl,eB⟩;have eS:=eB.symm;clear eB vy;subst eS));go_ret;exact⟨_,rfl, .inr ⟨sO.o,rfl⟩,dE.o⟩
 .have sO:=yh (show¬(cF l).ok E P i c from λh=>by have:=h.2.2.2.2.1;rw [xP (.inl K)] at this;simp at this);have Z:(((aR l).2:Int) != 0)=true:=by rw [fT];omega
  clear K;go_in;go_wp2_with fail;go_region_held3 (λw'=>w'.cell? (aD k 0)=some (pQ r)/\w'.cell? (aD k 2)=some (iV (L.f:Int))/\w'.cell? (aD k 3)=some (iV (L.n:Int)))
   (first|exact⟨G,H,I⟩)
     ((go_at_call 69;refine C.mono ?_;rintro e w1 ⟨g,N,rfl,Q,aY,bN⟩;have j9:=bN.symm;clear bN;subst j9))
  have fZ:=aY.src;rw [mN] at fZ;have m:=qG (some (aD g 0)) 512 N l w.drew fZ cZ;clear C aY fZ G H I;go_wp2_with fail;refine m.mono ?_;rintro e a ⟨v2,rfl,jo,aW⟩;have eM:=(ai (bi w.heap.size w)).trans aW;obtain⟨b,rq,rfl,bo,_,_⟩:=jo.src;obtain⟨Vy,dE⟩:=bL (show Own a w.heap.size _ _ from jo) eM;clear m aW eM jo bo;go_wp2;go_ret;exact⟨_,rfl, .inr ⟨sO.o,rfl⟩,dE.o⟩
end
end
theorem H8 (a:Option Addr) (m c:Nat) (l:List Int) (w:World) (s:Src w a m l) (x:Bytes l) (d n:Nat) (D:n<=4) (ic:d+n<=m) (C:m<=140737488355328):
  Calls prog 165 #[.slice a m c,iV (d:Int),iV (n:Int)] w λe w'=>e= .returned (iV ((le ((l.drop d).take n):Nat):Int))/\w'=w:=by
 have A:=s.1;have t:=s;clear s;go_in;go_wp2;go_loopw [7,8] (λv i wr=>∃j:Nat,j<=n/\i=iV ((j:Int)-1)/\v=iV ((le ((l.drop (d+j)).take (n-j)):Nat):Int)/\wr=w) (λ_ i _=>(intOf i+1).toNat);case atStart=>exact⟨n,bP _,rfl,by simp [le],rfl⟩
 case round=>
  obtain⟨j,z,rfl,rfl,rfl⟩:=hrel;by_cases q:1<=j
  .obtain⟨i,rfl⟩:∃i,j=i+1:=⟨j-1,by omega⟩;have vQ:(0:Int)<=((i+1:Nat):Int)-1:=(by omega);have r:=qJ (x.drop (d+(i+1))|>.take (n-(i+1))) (k:=3) (by rw [List.length_take];omega);have f:=qq (l:=l) (p:=d+i) (m:=n-(i+1)) (by omega);rw [show n-(i+1)+1=n-i by omega,show d+i+1=d+(i+1) by omega] at f;obtain⟨V,g⟩:=bQ (le ((l.drop (d+(i+1))).take (n-(i+1))));rw [<-g] at r⊢;obtain⟨b,o,rfl⟩:=cT t (by omega);have du:wr.cell? ⟨b,o+(d+i),none⟩=some (.int .u8 (l.getD (d+i) 0)):=(by have:=t.2.2 _ rfl (d+i) (by omega);rwa [aK] at this);have cZ:=x.getD (d+i);have GR:=f;have y:=g;obtain⟨X,u⟩:=bQ (l.getD (d+i) 0);rw [<-u] at du cZ GR;have Xa:((i+1:Nat):Int)-1=(i:Int):=(by omega);rw [Xa] at vQ⊢;have aey:(d:Int)+(i:Int)<(m:Int):=(by omega);clear g f Xa u;go_wp2;go_roundw;case rel=>
    refine⟨i,by omega,by go_num,?_,trivial⟩;rw [GR];congr 1;show _=((X.toNat+256*le ((l.drop (d+(i+1))).take (n-(i+1))):Nat):Int);rw [<-y];omega
   case measure=>simp [intOf]
  .obtain rfl:j=0:=(by omega);have vQ:¬(0:Int)<=((0:Nat):Int)-1:=(by omega);go_wp2;go_ret;exact⟨rfl,rfl⟩
def aai (w w':World) (o:Option CM) (e:Ending):Prop:=
   (o=none/\e= .returned (.tuple #[.slice none 0 0, .bool false]))\/∃cs v,o=some cs/\e= .returned (.tuple #[v, .bool true])/\Pn w' (λj=>w.heap.size<=j) w.heap.size v cs
theorem SF {m:Nat} (h:n+m<=l.length):((l.drop n).take m).length=m:=by rw [List.length_take,List.length_drop];omega
theorem H9 (a:Option Addr) (n l:Nat) (d:List Int) (w:World) (p:Src w a n d) (wX:Bytes d) (Q:n<=1000000) (XA:n<=l) (Pi:l<=9223372036854775807) (blocks:Nat) (J:blocks<=2048):
  Calls prog 118 #[.slice a n l,iV (blocks:Int)] w λe w'=>aai w w' (rdRec blocks d) e/\bW w w':=by
 have P:=p.1;by_cases S:n<2
 .have G:(n:Int)<2:=by omega
  clear p;go_in;go_wp2;go_ret2;exact⟨.inl ⟨(yh (H6 (blocks:=blocks) (d:=d) (.inl (by omega)))).out,rfl⟩,bi _ _⟩
 .have G:¬(n:Int)<2:=by omega
  obtain⟨u,x,rfl⟩:=cT p (by omega);have C2:=H8 (some (aD u x)) n l d w p wX 0 2 (by omega) (by omega) (by omega);rw [List.drop_zero] at C2;have rL:=qJ (wX.take 2) (k:=2) (by rw [List.length_take];omega);obtain⟨C,q⟩:=bQ (le (d.take 2));rw [<-q] at C2 rL;by_cases s:1<=C/\C<=16/\n=2+516*C
  .obtain⟨s,q2,T⟩:=s;have p1:¬(C:Int)<1:=(by omega);have p2:¬(16:Int)<(C:Int):=(by omega);have p3:((n:Int) != 2+516*(C:Int))=false:=(by rw [bne_eq_false_iff_eq];omega);have E:=KP (blocks:=blocks) (d:=d) (by omega) ⟨by omega,by omega⟩;rw [<-q] at E;obtain⟨y,N,Y⟩:=jS E p q;have sX:d.length=2+516*C:=(by omega);have m:=yh sX;have WS:2+516*C<=l:=(by omega);subst T;clear p E q P sX S Q;go_in;go_wp2_with fail;refine bE C2 λw1 bN=>?_;subst bN
   rename World=>w
   clear C2;go_wp2;go_loopw [7,8,9] (λv R i wr=>∃(j f:Nat) (ks:List Nat),j<=C/\i=iV (j:Int)/\R=iV ((f:Int)-1)/\f<=blocks/\ks.length=j/\rdRec blocks d=qi blocks d C ks f j/\Pn wr (λj=>w.heap.size<=j) w.heap.size v (zipc ks (d.drop (2+4*C)))/\bW w wr) (λ_ _ i _=>C-(intOf i).toNat);case atStart=>exact⟨0,0, [],dU _,rfl,by simp,dU _,rfl,y.o,Pn.nil _ _ _,bi _ _⟩
   case round=>
    obtain⟨j,f,ks,hj,rfl,rfl,ox,eF,vi,nr,dO⟩:=hrel;obtain⟨Aa,Jb,l9,kP⟩:=cM dO.size (yh nr) (yh dO) (N.o.later dO);have I5:=yh kP;by_cases U:j<C
    .have ZO:(j:Int)<(C:Int):=(by omega);have dP:=H8 (some (aD u x)) (2+516*C) l d wr kP wX (2+4*j) 4 (by omega) (by omega) (by omega);rw [show ((2+4*j:Nat):Int)=2+4*(j:Int) by omega] at dP;rw [H7 U m.o] at vi;have xM:=qJ ((wX.drop (2+4*j)).take 4) (k:=4) (by rw [List.length_take,List.length_drop];omega);generalize le ((d.drop (2+4*j)).take 4)=K at dP vi xM;clear nr dO kP;by_cases H:f<=K/\K<blocks
     .rw [aE H] at vi;have k1:¬(K:Int)<=(f:Int)-1:=(by omega);have r:Src wr (some ⟨u,x+(2+4*C+512*j),none⟩) 512 ((d.drop (2+4*C+512*j)).take 512):=ky I5.o (by omega);have Ag:((d.drop (2+4*C+512*j)).take 512).length=512:=SF (by rw [m.o];omega);have Qu:Bytes ((d.drop (2+4*C+512*j)).take 512):=(wX.drop _).take _;have Zi:=C1 K ks (d.drop (2+4*C));rw [List.drop_drop,eF] at Zi;have Z:(0:Int)<=2+4*(C:Int)+512*(j:Int):=(by omega);have b2:2+4*(C:Int)+512*(j:Int)+512<=(l:Int):=(by omega);obtain⟨A,D,VB⟩:=jS (lH (some ⟨u,x+(2+4*C+512*j),none⟩) 512 (l-(2+4*C+512*j)) _ wr (by omega) r) Zi vi;clear r Zi vi;go_wp2_with fail;refine bE dP λW dw=>?_;subst dw;clear dP;go_wp2_with fail;refine A.o.mono ?_;rintro e X ⟨L,rfl,E7,sV,bz⟩;have kO:=bz.size;obtain⟨g2,bZ,w4,bC,Wn,dV⟩:=(Jb.o.later bz).adZ (b:=K) (g:=L) (c:=512) (by omega:w.heap.size<=L) sV ⟨Ag,Qu⟩ (by rw [Ap];omega) (by omega);rw [Ap,eF] at bC Wn;rw [<-D.o] at Wn;have fe:=(l9.o.trans (bz.mono Aa)).trans (dV.below (λi O=>Jb.o.lo i O) (by omega));obtain⟨M,ro⟩:=bL (aF Wn fe) bC;clear E7 sV bz bC Wn dV fe;go_wp2_with (at_builtin;refine bj rfl _ _ 126 rfl u7 (.slice (some (aD X.heap.size 0)) 1 1) _ rfl rfl ro.o ?_);go_roundw;case rel=>exact⟨j+1,K+1,ks ++ [K],by omega,by go_num,by congr 1;omega,by omega,by simp [eF],VB.o,M.o⟩
      case measure=>simp [intOf];omega
     .rw [aA H] at vi;have VB:=yh vi;have F:(K:Int)<=(f:Int)-1\/(¬(K:Int)<=(f:Int)-1/\(blocks:Int)<=(K:Int)):=by
       by_cases z:(K:Int)<=(f:Int)-1
       .exact .inl z
       .exact .inr ⟨z,by omega⟩
      clear H vi;rcases F with z|⟨z,t⟩;all_goals
       go_wp2_with fail;refine bE dP λW dw=>?_;subst dw;clear dP;go_wp2;go_ret2;exact⟨.inl ⟨VB.o,rfl⟩,l9.o⟩
    .have ZO:¬(j:Int)<(C:Int):=(by omega);obtain rfl:j=C:=(by omega);rw [KQ eF m.o] at vi;have VB:=yh vi;clear vi nr dO kP;go_wp2;go_ret2;exact⟨.inr ⟨_,_,VB.o,rfl,Jb.o⟩,l9.o⟩
  .have y:=yh (H6 (blocks:=blocks) (d:=d) (.inr (by
    by_cases z:1<=le (d.take 2)/\le (d.take 2)<=16
    .exact .inr (λe=>s ⟨by omega,by omega,by omega⟩)
    .exact .inl z)))
   have F:(C:Int)<1\/(¬(C:Int)<1/\(16:Int)<(C:Int))\/(¬(C:Int)<1/\¬(16:Int)<(C:Int)/\((n:Int) != 2+516*(C:Int))=true):=by
    by_cases I:(C:Int)<1
    .exact .inl I
    .by_cases t:(16:Int)<(C:Int)
     .exact .inr (.inl ⟨I,t⟩)
     .exact .inr (.inr ⟨I,t,by rw [fT];intro e;exact s ⟨by omega,by omega,by omega⟩⟩)
   clear q s p;rcases F with z|⟨z,t⟩|⟨z,t,z3⟩;all_goals
    go_in;go_wp2_with fail;refine bE C2 λw1 bN=>?_;subst bN;clear C2;go_wp2;go_ret2;exact⟨.inl ⟨y.o,rfl⟩,bi _ _⟩
namespace B
theorem SH {w:World} {F:Nat->Prop} {D:Nat} (h:ax w F p s S D) (cZ:S.fC) (f n:Nat) (X:f+2+n<=s) (iQ:1<=n) (hn:n<=256) (W:S.fuse≠0) (aT:S.puts.length+1<=4000000000000):
  Calls prog 150 #[kw p f n] w λe w'=>∃v,e= .returned (.tuple #[v,iV 0])/\L4 w.heap.size w' n (λi=>cF (S.now (f+2+i))) v/\ax w' F p s S (D+n)/\aa F w w':=by
 obtain⟨i0,L,gv,dr,ec⟩:=info_parts JW;have hs:=h.ok.hi;have x:=yh h.lt;have u:=yh (h.boxed (.cells #[.pointer (some ⟨p,0,none⟩), .int .i64 f, .int .i64 n] 141));have t:=yh cZ;clear h cZ;go_in;go_wp2_with (at_make;refine wpList_make_full _ rfl _ _ 185 rfl (w.heap.size+1) 229 i0 _ 5 underlying185 L gv dr _ _ _ _ n rfl rfl ?c1 ?c2 ?c3 ?c4 ?c5 ?_);case c1=>rfl
 case c2=>rfl
 case c3=>rw [ec];omega
 case c4=>unfold maxLen;omega
 case c5=>simp
 intro w1 az aO;have aq:Below (w.heap.size+1) (w.alloc (.cells #[.pointer (some ⟨p,0,none⟩), .int .i64 f, .int .i64 n] 141)) w1:=(bi _ _).grown aO (by simp) (by intro k M;cases M);obtain⟨_,⟨J,_⟩|⟨g',T,cur,J,uD,H,_,_,nY,_⟩⟩:=az
 .cases J
 cases J;have dF:=(aq.block _ (by omega)).trans (heap_alloc_new _ _);have cN:=yh ((yh (aI w (.cells #[.pointer (some ⟨p,0,none⟩), .int .i64 f, .int .i64 n] 141))).out.trans (aq.mono (by omega)));have bm:=aw H;have Ef:Yh (gS w1 w1.heap.size (w.heap.size+1) n 0 (λi=>cF (S.now (f+2+i)))):=⟨⟨cur,H,nY⟩,λi L=>by omega⟩;obtain⟨Rx,P⟩:=bL (u.o.later (by show Below _ _ _;rw [World.size_alloc];exact aq)) dF;have l:Yh (¬F w.heap.size/\¬F (w.heap.size+1)):=⟨λh=>by have:=x.o _ h;omega,λh=>by have:=x.o _ h;omega⟩;obtain⟨R,G⟩:∃R,R=(λi=>cF (S.now (f+2+i))):=⟨_,rfl⟩;rw [<-G] at Ef;have tU:=yh G;clear aO aq dF H uD nY G;go_wp2;go_loopw [13] (λi wr=>∃k:Nat,k<=n/\i=iV k/\gS wr w1.heap.size (w.heap.size+1) n k R/\ax wr F p s S (D+k)/\aa (λj=>F j\/j=w.heap.size+1) w1 wr) (λi _=>n-(intOf i).toNat);case atStart=>exact⟨0,dU _,rfl,Ef.o,Rx.o,aa.refl _ _⟩
 case round=>
  obtain⟨k,M,rfl,Mv,hd,fP⟩:=hrel;by_cases q:k<n
  .have q':(k:Int)<(n:Int):=(by omega);have dF:=ew P.o fP (λh=>by rcases h with h|h;exact l.o.1 h;omega);have K:=aL dF;have c1:=bD dF;have c2:=bH dF;have E:=λwx=>LM p f n k wx (by omega) (by omega) (by omega) (by omega) (by omega);rw [show (f:Int)+2+(k:Int)%(n:Int)=((f+2+k:Nat):Int) by rw [Int.emod_eq_of_lt (by omega) (by omega)];omega] at E;obtain⟨H1,z,sH,CP,b⟩:=UE E Mv hd fP dF;clear E Mv hd fP dF;go_wp2_with fail;go_region_held3 (λw'=>w'.cell? (aD w.heap.size 0)=some (pQ p)/\w'.cell? (aD w.heap.size 1)=some (iV (f:Int))/\w'.cell? (aD w.heap.size 2)=some (iV (n:Int)))
    (first|exact⟨K,c1,c2⟩|exact⟨aL l8,bD l8,bH l8⟩|exact⟨aL tB,bD tB,bH tB⟩)
    (first
     |(go_at_call 189;refine(H1.o _).mono ?_;rintro e w2 ⟨rfl,aW⟩;have bz:=(ai (bi wr.heap.size wr)).trans aW;have l8:=(bz.block _ (aw b.o)).trans b.o;have cC:=sH.o.later bz)
     |(go_at_call 68;refine(zC cC (f+2+k) (by omega) aT W).mono ?_;rintro e w3 ⟨v,rfl,Y,g,aV⟩;have tB:=ew l8 aV l.o.1))
   obtain⟨Q,U,rfl,zJ,Zr⟩:=Y;have dV:=(CP.o.trans (aa.ah (λ_=>False) bz) (λ_ h=>h.elim)).trans aV (λ_ h=> .inl (.inl h));have SI:=((z.o.au (aa.ah (λ_=>False) bz) (λh=>h) (λ_ h=>h.elim)).au aV l.o.2 (λj a=>by have:=x.o j a;omega));have I:=Gb Q _ U (S.now (f+2+k)) w3 zJ (t.o.now _);rw [show cF (S.now (f+2+k))=R k by rw [tU.o]] at I;obtain⟨I9,U9,L0⟩:=jS SI g dV;clear aW bz l8 tB cC g aV dV SI zJ Zr K c1 c2;go_wp2_with fail;refine I.mono ?_;rintro e N ⟨m,r,rfl,GH,aeB,fe⟩;have ub:=I9.o.au (aa.ah (λ_=>False) fe) (λh=>h) (λ_ h=>h.elim);have vS:=L0.o.size;have dZ:N.there (w.heap.size+1) (k*5) (eI ((R k).e:Int) ((R k).p:Int) ((R k).i:Int) ((R k).c:Int) m (R k).d.length r).size:=λj a=>by
    obtain⟨v,e⟩:=ub.spot q j a;exact⟨by rw [e];rfl,ub.fz _⟩
   have A:=yh dZ;have fZ:=ub.snoc q (by omega) m r GH (λy Z=>by have:=aeB y Z;omega);have eF:=tK N (w.heap.size+1) (k*5) (iV ((R k).e:Int)) (iV ((R k).p:Int)) (iV ((R k).i:Int)) (iV ((R k).c:Int)) (.slice m (R k).d.length r);have dX:=(L0.o.trans (aa.ah (λ_=>False) fe) (λ_ h=>h.elim)).trans eF (λ_ h=> .inl (.inr h));have jy:=(U9.o.later fe).au eF (λj a e=>l.o.2 (e▸a));have O:=yh (aF fZ (aF jy dX));have TZ:(0:Int)<=(k:Int):=(by omega);clear ub fZ eF dX jy GH aeB fe I dZ;go_wp2_with (refine wpList_store_mid rfl 229 _ _ rfl (w.heap.size+1) (k*5) (eI ((R k).e:Int) ((R k).p:Int) ((R k).i:Int) ((R k).c:Int) m (R k).d.length r) rfl rfl ?s1 ?s2 ?s3 ?_);case s1=>exact A.o
   case s2=>exact j1
   case s3=>simp [Value.oneCell']
   go_roundw;case rel=>exact⟨k+1,by omega,by go_num,O.o⟩
   case measure=>simp [intOf];omega
  .have q':¬(k:Int)<(n:Int):=(by omega);obtain rfl:k=n:=(by omega);have C:=yh (aF Mv (aF hd fP));clear Mv hd fP;go_wp2;go_ret2;refine⟨_,rfl,⟨w.heap.size+1,w1.heap.size,rfl,by omega,by omega,tU.o▸C.o.1⟩,C.o.2.1,?_⟩;exact(aa.ah F cN.o).trans C.o.2.2 (λj a=>by
    rcases a with a|a
    .exact .inl a
    .exact .inr (by omega))
end B
section
namespace B
section
variable {w:World} {F:Nat->Prop} {p s l cR:Nat} {S:DS} {L:LG}
theorem aaj (h:ax w F p s S cR) (cZ:S.fC) (f n:Nat) (a:f+2+n<=s) (iQ:1<=n) (c:n<=256) (b:S.fuse≠0) (aT:S.puts.length+1<=4000000000000):
  Calls prog 150 #[kw p f n] w λe w'=>∃v,e= .returned (.tuple #[v, .int .i64 0])/\L4 w.heap.size w' n (dW S f) v/\ax w' F p s S (cR+n)/\aa F w w':=SH h cZ f n a iQ c b aT
theorem KS (h:ax w F p s S cR) (m:cQ w l p L) (c:¬F l) (cZ:S.fC) (X:L.f+2+L.n<=s) (iQ:1<=L.n) (q:L.n<=256) (O:S.fuse≠0) (aT:S.puts.length+1<=4000000000000):
  Calls prog 105 #[.pointer (some ⟨l,0,none⟩)] w λe w'=>pM w' w.heap.size l p L S e/\ax w' F p s S (cR+2+L.n)/\aa (λk=>F k\/k=l) w w':=by
 obtain⟨o,bm,C,D,E,Om⟩:=kQ (Vz h L.f L.n aT O (by omega) (cZ.now _) (cZ.now _)) m.lt m.c0 m.c1 m.c2 ((λi=>j0 (cZ.now (L.f+2+i))));have N:=λw1 (iB:ax w1 F p s S (cR+2))=>aaj iB cZ L.f L.n X iQ q O aT;unfold pM;change Calls _ _ _ _ (λe w'=>e= .returned (.tuple #[.int .i64 ((bV S L.f).1:Int), .int .i64 ((bV S L.f).2.1:Int), .int .i64 ((bV S L.f).2.2:Int)])/\ax w' F p s S (cR+2)/\aa F w w') at o;by_cases t:(bV S L.f).2.2=0
 .rw [t] at o;have P:=(xE (S:=S) (f:=L.f)) t;simp only [aA (λh:¬(bV S L.f).2.2=0=>h t)];by_cases u:ia S L.f L.n=1073741824
  .simp only [aE u];have R:(max ((bV S L.f).1:Int) (rtop (dW S L.f) L.n:Int) == 1073741824)=true:=(by unfold ia at u;rw [beq_iff_eq];omega);go_in;go_wp2_with fail;refine fk o λw1 iB eH=>?_;have cm:=m.au eH c;obtain⟨C,D,E⟩:=jw cm.c0 cm.c1 cm.c2;go_wp2_with fail;refine(N w1 iB).mono ?_;rintro e w2 ⟨v,rfl,⟨g,B,rfl,W,z,r⟩,cC,aX⟩;go_wp2_with fail;refine(L5 r q).mono ?_;rintro e a ⟨rfl,bz⟩;have gZ:=(cm.au aX c).later bz;obtain⟨c5,H,I,Q,J,K,M,T⟩:=rV gZ.c5 gZ.c6 gZ.c7 gZ.c8 (gZ.fz 5) (gZ.fz 6) (gZ.fz 7) (gZ.fz 8);have aV:aa (λk=>F k\/k=l) w (a.setCell ⟨l,8,none⟩ (.int .i64 (max ((bV S L.f).1:Int) (rtop (dW S L.f) L.n:Int)))):=(((eH.trans aX (λ_ h=> .inl h)).trans (aa.ah (λ_=>False) bz) (λ_ h=>h.elim)).mono (λ_ h=> .inl h)).trans (aJ (F:=λk=>F k\/k=l) a (.inr rfl) 8 _) (λ_ h=> .inl h);have d:ax (a.setCell ⟨l,8,none⟩ (.int .i64 (max ((bV S L.f).1:Int) (rtop (dW S L.f) L.n:Int)))) F p s S (cR+2+L.n):=(cC.later bz).au (aJ (F:=λk=>k=l) a rfl 8 _) (λk j e=>c (e▸j));go_wp2_with fail;go_ret2;exact⟨rfl,aF d aV⟩
  .simp only [aA u];have R:(max ((bV S L.f).1:Int) (rtop (dW S L.f) L.n:Int) == 1073741824)=false:=(by unfold ia at u;rw [eG];omega);go_in;go_wp2_with fail;refine fk o λw1 iB eH=>?_;have cm:=m.au eH c;obtain⟨C,D,E⟩:=jw cm.c0 cm.c1 cm.c2;go_wp2_with fail;refine(N w1 iB).mono ?_;rintro e w2 ⟨v,rfl,⟨g,B,rfl,W,z,r⟩,cC,aX⟩;go_wp2_with fail;refine(L5 r q).mono ?_;rintro e a ⟨rfl,bz⟩;have gZ:=(cm.au aX c).later bz;obtain⟨H,I,Q,J,K,M,T⟩:=nW gZ.c6 gZ.c7 gZ.c8 (gZ.fz 5) (gZ.fz 6) (gZ.fz 7) (gZ.fz 8);have aV:aa (λk=>F k\/k=l) w (a.setCell ⟨l,8,none⟩ (.int .i64 (max ((bV S L.f).1:Int) (rtop (dW S L.f) L.n:Int)))):=(((eH.trans aX (λ_ h=> .inl h)).trans (aa.ah (λ_=>False) bz) (λ_ h=>h.elim)).mono (λ_ h=> .inl h)).trans (aJ (F:=λk=>F k\/k=l) a (.inr rfl) 8 _) (λ_ h=> .inl h);have d:ax (a.setCell ⟨l,8,none⟩ (.int .i64 (max ((bV S L.f).1:Int) (rtop (dW S L.f) L.n:Int)))) F p s S (cR+2+L.n):=(cC.later bz).au (aJ (F:=λk=>k=l) a rfl 8 _) (λk j e=>c (e▸j));have dr:=eH.size;have U:=QW g L.n (bV S L.f).1 (bV S L.f).2.1 (dW S L.f) _ B ((r.au (aa.ah (λ_=>False) bz) (λh=>h) (λ_ h=>h.elim)).au (aJ (F:=λk=>k=l) a rfl 8 (.int .i64 (max ((bV S L.f).1:Int) (rtop (dW S L.f) L.n:Int)))) (by omega) (λk j=>by omega)) iQ q P.2.2 P.2.1 (λi=>(Om i).2.2.2.2.1) (λi=>by have:=(Om i).2.2.2.1;unfold dW;omega);have x:=(gZ.J0 (max ((bV S L.f).1:Int) (rtop (dW S L.f) L.n:Int)) (ia S L.f L.n) (by unfold ia;omega));have y:=(aF d aV);go_wp2_with fail;refine U.mono ?_;rintro e w4 ⟨v,hd,rs,rfl,pi,Y,Z,fe⟩;have iR:=x.later fe;have gZ.c5:=iR.c5;obtain⟨H,I,J,K,M,Zi,eF⟩:=nW iR.c6 iR.c7 (iR.fz 5) (iR.fz 6) (iR.fz 7) y.2.size (((aJ (F:=λk=>k=l) w4 rfl 5 (.int .i64 ((bV S L.f).1:Int))).trans (aJ (F:=λk=>k=l) _ rfl 6 (.int .i64 ((bV S L.f).2.1:Int))) (λ_ h=> .inl h)).trans (aJ (F:=λk=>k=l) _ rfl 7 (.int .i64 (hd:Int))) (λ_ h=> .inl h));have A:=(aF (Told.mk ((((pi.wT (b:=l) (by omega) 5 (.int .i64 ((bV S L.f).1:Int))).wT (b:=l) (by omega) 6 (.int .i64 ((bV S L.f).2.1:Int))).wT (b:=l) (by omega) 7 (.int .i64 (hd:Int))).low Zi (λ_ h=>h)) Y Z (iR.marked (bV S L.f).1 (bV S L.f).2.1 hd)) (aF ((y.1.later fe).au eF (λk j e=>c (e▸j))) ((y.2.trans (aa.ah (λ_=>False) fe) (λ_ h=>h.elim)).trans (eF.mono (G:=λk=>F k\/k=l) (λ_ h=> .inr h)) (λ_ h=> .inl h))));go_wp2_with fail;go_ret2;exact⟨⟨_,_,_,rfl,A.1⟩,A.2⟩
 .have d0:(((bV S L.f).2.2:Int) == 0)=false:=by rw [eG];omega
  simp only [aE (λh=>t h:¬(bV S L.f).2.2=0)];go_in;go_wp2_with fail;refine fk o λw1 iB eH=>?_;go_wp2_with fail;go_ret2;exact⟨rfl,aF (iB.le (by omega:cR+2<=cR+2+L.n)) (eH.mono (G:=λk=>F k\/k=l) (λ_ h=> .inl h))⟩
end
end B
end
section
namespace B
def rR (S:DS) (s:Nat) (f n:Int):Nat:=if cq S s f n≠0 then 0 else n.toNat+2
section
variable {w:World} {F:Nat->Prop} {p s cR:Nat} {S:DS}
theorem SJ (h:ax w F p s S cR) (cZ:S.fC) (f n:Int) (aT:S.puts.length+500<=4000000000000):
  Calls prog 44 #[pQ p,iV f,iV n] w λe w'=>J1 w w' p s S f n e/\ax w' F p s (bu S s f n).2 (cR+rR S s f n)/\aa F w w':=by
 have A:=h.lt;have Dp:¬F w.heap.size:=λm=>by have:=h.lt _ m;omega
 have z:=(aI w (.cells #[.pointer (some ⟨p,0,none⟩), .int .i64 f, .int .i64 n] 141));have rl:(w.alloc (.cells #[.pointer (some ⟨p,0,none⟩), .int .i64 f, .int .i64 n] 141)).heap[w.heap.size]? =some (.cells #[.pointer (some ⟨p,0,none⟩), .int .i64 f, .int .i64 n] 141 (0,0)):=heap_alloc_new _ _;have wI:=h.boxed (.cells #[.pointer (some ⟨p,0,none⟩), .int .i64 f, .int .i64 n] 141);have m:=tI wI f n;unfold J1 bu rR;by_cases q:cq S s f n=0
 .simp only [aA (λh:¬cq S s f n=0=>h q)];obtain⟨Y6,a,b,rfl,rfl,oz,aq,aW⟩:=fM q;rw [q] at m;simp only [Int.toNat_natCast];have C:=(λ(c:World) (l:Nat) (cC:ax c F p s S.take cR) (M:cQ c l p (LG.new S a b)) (rB:¬F l)=>(KS cC M rB cZ.take oz (by show 1<=b;omega) aW Y6 (by show S.puts.length+1<=_;omega)).mono (λe w' h=>aF h.1.Zf (aF (show ax w' F p s S.take (cR+2+b) from h.2.1) h.2.2)));by_cases D:(bV S a).2.2=0
  .have XE:=D;simp only [aA (λh:¬(bV S a).2.2=0=>h D)];by_cases E:ia S a b=1073741824
   .have Cr:=E;simp only [aE E];simp only [aE (show (41:Int)≠0 by decide)];go_in;go_wp2_with fail;refine bE m λw1 g=>?_;have jA:w1.heap[w.heap.size]? =_:=(g.block _ (by simp)).trans rl;have r:=aL jA;have t:=bD jA;have u:=bH jA;have cN:=(z.trans (g.mono (by simp)));go_wp2_with fail;go_region_held3 (λw'=>w'.cell? (aD w.heap.size 0)=some (pQ p)/\w'.cell? (aD w.heap.size 1)=some (iV (a:Int))/\w'.cell? (aD w.heap.size 2)=some (iV (b:Int)))
     (first|exact⟨r,t,u⟩|exact⟨aL l8,bD l8,bH l8⟩|exact⟨aL (tB _),bD (tB _),bH (tB _)⟩)
       ((go_at_call 37;refine(zB (wI.later (g.trans (ai (bi w1.heap.size w1) |>.mono g.size)))).mono ?_;rintro e c ⟨rfl,cC,aX⟩;have l8:=ew (w:=w1.drew) jA aX Dp;have tB:=λo=>(aI c o).block _ (aw l8) |>.trans l8))
    have dr:w.heap.size<w1.heap.size:=(by have:=cN.size;have:=aw jA;omega);have ec:w1.heap.size<=c.heap.size:=aX.size;have fy:cQ (c.alloc (.cells (IX p (LG.new S a b)) 147)) c.heap.size p (LG.new S a b):=heap_alloc_new _ _;have Fg:=(λh:F c.heap.size=>by have:=A _ h;omega:¬F c.heap.size);have oU:aa F w (c.alloc (.cells (IX p (LG.new S a b)) 147)):=((aa.ah F (ai cN)).trans aX (λ_ h=> .inl h)).trans (aa.boxed F _) (λ_ h=> .inl h);go_wp2_with fail;refine(C _ c.heap.size (cC.boxed (.cells (IX p (LG.new S a b)) 147)) fy Fg).mono ?_;rintro e y ⟨j,i,aV⟩;rw [aA (λh=>h XE),aE Cr] at j;subst j;go_wp2_with fail;go_ret3;exact⟨rfl,(aF (i.le (by omega:cR+2+b<=cR+(b+2))) (oU.trans aV (λk h=>h.elim .inl (λe=> .inr (by omega)))))⟩
   .have Cr:=E;simp only [aA E];have H:=(λ(y:World) (i:ax y F p s S.take (cR+2+b))=>vg i (by show S.puts.length+1<=_;omega));generalize S.take.fl s=Y at*;by_cases k:Y.1=0
    .simp only [aA (λh:¬Y.1=0=>h k)];have d:(Y.1 == 0)=true:=(by rw [beq_iff_eq];exact k);go_in;go_wp2_with fail;refine bE m λw1 g=>?_;have jA:w1.heap[w.heap.size]? =_:=(g.block _ (by simp)).trans rl;have r:=aL jA;have t:=bD jA;have u:=bH jA;have cN:=(z.trans (g.mono (by simp)));go_wp2_with fail;go_region_held3 (λw'=>w'.cell? (aD w.heap.size 0)=some (pQ p)/\w'.cell? (aD w.heap.size 1)=some (iV (a:Int))/\w'.cell? (aD w.heap.size 2)=some (iV (b:Int)))
      (first|exact⟨r,t,u⟩|exact⟨aL l8,bD l8,bH l8⟩|exact⟨aL (tB _),bD (tB _),bH (tB _)⟩)
        ((go_at_call 37;refine(zB (wI.later (g.trans (ai (bi w1.heap.size w1) |>.mono g.size)))).mono ?_;rintro e c ⟨rfl,cC,aX⟩;have l8:=ew (w:=w1.drew) jA aX Dp;have tB:=λo=>(aI c o).block _ (aw l8) |>.trans l8))
     have dr:w.heap.size<w1.heap.size:=(by have:=cN.size;have:=aw jA;omega);have ec:w1.heap.size<=c.heap.size:=aX.size;have fy:cQ (c.alloc (.cells (IX p (LG.new S a b)) 147)) c.heap.size p (LG.new S a b):=heap_alloc_new _ _;have Fg:=(λh:F c.heap.size=>by have:=A _ h;omega:¬F c.heap.size);have oU:aa F w (c.alloc (.cells (IX p (LG.new S a b)) 147)):=((aa.ah F (ai cN)).trans aX (λ_ h=> .inl h)).trans (aa.boxed F _) (λ_ h=> .inl h);go_wp2_with fail;refine(C _ c.heap.size (cC.boxed (.cells (IX p (LG.new S a b)) 147)) fy Fg).mono ?_;rintro e y ⟨j,i,aV⟩;rw [aA (λh=>h XE),aA Cr] at j;obtain⟨v,rs,hd,rfl,J⟩:=j;have ma:=(oU.trans aV (λk h=>h.elim .inl (λe=> .inr (by omega))));have G:w.heap.size<=(c.alloc (.cells (IX p (LG.new S a b)) 147)).heap.size:=(by simp;omega);go_wp2_with fail;refine(H y i).mono ?_;rintro e N ⟨rfl,x,dV⟩;have I:=(aF ((J.low (B':=w.heap.size) G).au dV (λk L=>A k L) Fg) (aF (x.le (by omega:cR+2+b<=cR+(b+2))) (ma.trans dV (λ_ h=> .inl h))));go_wp2_with fail;go_ret3;exact⟨⟨_,_,_,_,rfl,by omega,I.1⟩,I.2⟩
    .simp only [aE (λh=>k h:¬Y.1=0)];have d:(Y.1 == 0)=false:=(by rw [eG];exact k);go_in;go_wp2_with fail;refine bE m λw1 g=>?_;have jA:w1.heap[w.heap.size]? =_:=(g.block _ (by simp)).trans rl;have r:=aL jA;have t:=bD jA;have u:=bH jA;have cN:=(z.trans (g.mono (by simp)));go_wp2_with fail;go_region_held3 (λw'=>w'.cell? (aD w.heap.size 0)=some (pQ p)/\w'.cell? (aD w.heap.size 1)=some (iV (a:Int))/\w'.cell? (aD w.heap.size 2)=some (iV (b:Int)))
      (first|exact⟨r,t,u⟩|exact⟨aL l8,bD l8,bH l8⟩|exact⟨aL (tB _),bD (tB _),bH (tB _)⟩)
        ((go_at_call 37;refine(zB (wI.later (g.trans (ai (bi w1.heap.size w1) |>.mono g.size)))).mono ?_;rintro e c ⟨rfl,cC,aX⟩;have l8:=ew (w:=w1.drew) jA aX Dp;have tB:=λo=>(aI c o).block _ (aw l8) |>.trans l8))
     have dr:w.heap.size<w1.heap.size:=(by have:=cN.size;have:=aw jA;omega);have ec:w1.heap.size<=c.heap.size:=aX.size;have fy:cQ (c.alloc (.cells (IX p (LG.new S a b)) 147)) c.heap.size p (LG.new S a b):=heap_alloc_new _ _;have Fg:=(λh:F c.heap.size=>by have:=A _ h;omega:¬F c.heap.size);have oU:aa F w (c.alloc (.cells (IX p (LG.new S a b)) 147)):=((aa.ah F (ai cN)).trans aX (λ_ h=> .inl h)).trans (aa.boxed F _) (λ_ h=> .inl h);go_wp2_with fail;refine(C _ c.heap.size (cC.boxed (.cells (IX p (LG.new S a b)) 147)) fy Fg).mono ?_;rintro e y ⟨j,i,aV⟩;rw [aA (λh=>h XE),aA Cr] at j;obtain⟨v,rs,hd,rfl,J⟩:=j;have ma:=(oU.trans aV (λk h=>h.elim .inl (λe=> .inr (by omega))));go_wp2_with fail;refine(H y i).mono ?_;rintro e N ⟨rfl,x,dV⟩;go_wp2_with fail;go_ret3;exact⟨rfl,aF (x.le (by omega:cR+2+b<=cR+(b+2))) (ma.trans dV (λ_ h=> .inl h))⟩
  .have XE:=D;have K:(((bV S a).2.2:Int) == 0)=false:=(by rw [eG];omega);simp only [aE (λh=>D h:¬(bV S a).2.2=0)];simp only [aE (show (((bV S a).2.2:Nat):Int)≠0 by omega)];go_in;go_wp2_with fail;refine bE m λw1 g=>?_;have jA:w1.heap[w.heap.size]? =_:=(g.block _ (by simp)).trans rl;have r:=aL jA;have t:=bD jA;have u:=bH jA;have cN:=(z.trans (g.mono (by simp)));go_wp2_with fail;go_region_held3 (λw'=>w'.cell? (aD w.heap.size 0)=some (pQ p)/\w'.cell? (aD w.heap.size 1)=some (iV (a:Int))/\w'.cell? (aD w.heap.size 2)=some (iV (b:Int)))
    (first|exact⟨r,t,u⟩|exact⟨aL l8,bD l8,bH l8⟩|exact⟨aL (tB _),bD (tB _),bH (tB _)⟩)
      ((go_at_call 37;refine(zB (wI.later (g.trans (ai (bi w1.heap.size w1) |>.mono g.size)))).mono ?_;rintro e c ⟨rfl,cC,aX⟩;have l8:=ew (w:=w1.drew) jA aX Dp;have tB:=λo=>(aI c o).block _ (aw l8) |>.trans l8))
   have dr:w.heap.size<w1.heap.size:=(by have:=cN.size;have:=aw jA;omega);have ec:w1.heap.size<=c.heap.size:=aX.size;have fy:cQ (c.alloc (.cells (IX p (LG.new S a b)) 147)) c.heap.size p (LG.new S a b):=heap_alloc_new _ _;have Fg:=(λh:F c.heap.size=>by have:=A _ h;omega:¬F c.heap.size);have oU:aa F w (c.alloc (.cells (IX p (LG.new S a b)) 147)):=((aa.ah F (ai cN)).trans aX (λ_ h=> .inl h)).trans (aa.boxed F _) (λ_ h=> .inl h);go_wp2_with fail;refine(C _ c.heap.size (cC.boxed (.cells (IX p (LG.new S a b)) 147)) fy Fg).mono ?_;rintro e y ⟨j,i,aV⟩;rw [aE (λh=>XE h)] at j;subst j;go_wp2_with fail;go_ret3;exact⟨rfl,(aF (i.le (by omega:cR+2+b<=cR+(b+2))) (oU.trans aV (λk h=>h.elim .inl (λe=> .inr (by omega)))))⟩
 .simp only [aE (λh=>q h:¬cq S s f n=0)];have K:(cq S s f n == 0)=false:=by rw [eG];exact q
  go_in;go_wp2_with fail;refine bE m λw1 g=>?_;go_wp2_with fail;go_ret3;exact⟨rfl,(aF (wI.later g) (aa.ah F (z.trans (g.mono (by simp)))))⟩
end
end B
end
section
namespace B
section
variable {w:World} {F:Nat->Prop} {p s l cR:Nat} {S:DS} {L:LG}
theorem OB (h:ax w F p s S cR) (t:cQ w l p L) (a:L.Ok s) (q:¬F l) (cZ:S.fC) (aT:S.puts.length+2<=4000000000000):
  Calls prog 46 #[pQ l] w λe w'=>e= .returned (iV (L.start S s).1)/\ax w' (more F w w') p s (L.start S s).2.1 (cR+2)/\cQ w' l p (L.start S s).2.2/\aa (λk=>F k\/k=l) w w':=by
 obtain⟨i,j,c,bm,O,DJ⟩:=kQ (tJ h t) t h t.lt a.s a.top;unfold LG.start;have u:=(λb (cC:ax b F p s S cR)=>Kj cC L.f L.n (L.top+1) 0 (by omega) (by omega) aT (by have:=a.n1;omega) (cZ.now _) (cZ.now _));go_in;cases hd:L.dead S
 .rw [hd] at i;rw [aA (by decide)];cases r:L.begun
  .rw [aA (by decide)];generalize N:cW S s L.f (((L.top+1:Nat):Int)*4294967296+((0:Nat):Int))=Y at*;by_cases k:Y.1=0
   .rw [aA (λh=>h k)];have d:(Y.1 == 0)=true:=(by rw [beq_iff_eq];exact k);go_wp2_with fail;refine bE i λw1 aq=>?_;have cm:=j.later aq;obtain⟨x,y,z,g,A⟩:=ey cm.c0 cm.c1 cm.c2 cm.c4 cm.c8;rw [r] at g;have m:=u w1 (c.later aq);rw [show ((L.top+1:Nat):Int)=(L.top:Int)+1 by omega,show (((0:Nat):Int))=0 from rfl] at m;go_wp2_with fail;refine fk m λb cC aX=>?_;have fy:=cm.au aX q;obtain⟨I,J,K,M,g,D,E,H,dr,ec⟩:=vH (fy.fz 4) (fy.fz 5) (fy.fz 6) (fy.fz 7) fy.c4 fy.c5 fy.c6 fy.c7 aq.size aX.size;have C:aa (λk=>F k\/k=l) w ((((b.setCell ⟨l,4,none⟩ (.bool true)).setCell ⟨l,5,none⟩ (.int .i64 ((L.top:Int)+1))).setCell ⟨l,6,none⟩ (.int .i64 0)).setCell ⟨l,7,none⟩ (.int .i64 0)):=
       (((((aa.ah (λk=>F k\/k=l) aq).trans aX (λ_ h=> .inl (.inl h))).trans (aJ (F:=λk=>k=l) b rfl 4 _) (λ_ h=> .inl (.inr h))).trans (aJ (F:=λk=>k=l) _ rfl 5 _) (λ_ h=> .inl (.inr h))).trans (aJ (F:=λk=>k=l) _ rfl 6 _) (λ_ h=> .inl (.inr h))).trans (aJ (F:=λk=>k=l) _ rfl 7 _) (λ_ h=> .inl (.inr h))
    have o:ax ((((b.setCell ⟨l,4,none⟩ (.bool true)).setCell ⟨l,5,none⟩ (.int .i64 ((L.top:Int)+1))).setCell ⟨l,6,none⟩ (.int .i64 0)).setCell ⟨l,7,none⟩ (.int .i64 0)) (more F w1 b) p s Y.2 (cR+2):=by
     have dG:∀k,more F w1 b k->¬k=l:=λk a e=>by
      subst e;rcases a with a|a
      .exact q a
      .omega
     exact(((cC.au (aJ (F:=λk=>k=l) b rfl 4 _) dG).au (aJ (F:=λk=>k=l) _ rfl 5 _) dG).au (aJ (F:=λk=>k=l) _ rfl 6 _) dG).au (aJ (F:=λk=>k=l) _ rfl 7 _) dG
    have ef:((((b.setCell ⟨l,4,none⟩ (.bool true)).setCell ⟨l,5,none⟩ (.int .i64 ((L.top:Int)+1))).setCell ⟨l,6,none⟩ (.int .i64 0)).setCell ⟨l,7,none⟩ (.int .i64 0)).heap.size=b.heap.size:=(by simp [World.setCell]);have v:=(aF ((o.mono (G:=more F w ((((b.setCell ⟨l,4,none⟩ (.bool true)).setCell ⟨l,5,none⟩ (.int .i64 ((L.top:Int)+1))).setCell ⟨l,6,none⟩ (.int .i64 0)).setCell ⟨l,7,none⟩ (.int .i64 0))) (λk a=>by
      rcases a with a|a
      .exact .inl a
      .exact .inr ⟨by omega,by rw [ef];exact a.2⟩) (cG (F:=F) (w:=w) c.lt (by rw [ef];omega)))) (aF (fy.started ((L.top:Int)+1) (L.top+1) (by omega)) C))
    go_wp2;go_ret;exact⟨rfl,v⟩
   .rw [aE k];have d:(Y.1 == 0)=false:=(by rw [eG];exact k);go_wp2_with fail;refine bE i λw1 aq=>?_;have cm:=j.later aq;obtain⟨x,y,z,g,A⟩:=ey cm.c0 cm.c1 cm.c2 cm.c4 cm.c8;rw [r] at g;have m:=u w1 (c.later aq);rw [show ((L.top+1:Nat):Int)=(L.top:Int)+1 by omega,show (((0:Nat):Int))=0 from rfl] at m;have cN:=aq;go_wp2_with fail;refine fk m λb cC aX=>?_;go_wp2;go_ret;exact⟨rfl,(aF (cC.from c.lt cN.size aX.size) (aF (cm.au aX q) ((aa.ah (λk=>F k\/k=l) cN).trans aX (λ_ h=> .inl (.inl h)))))⟩
  .rw [aE rfl];go_wp2_with fail;refine bE i λw1 aq=>?_;have g:=(j.later aq).c4;rw [r] at g;go_wp2;go_ret;exact⟨rfl,aF (((c.later aq).more (w:=w)).le (by omega:cR<=cR+2)) (aF (j.later aq) (aa.ah (λk=>F k\/k=l) aq))⟩
 .rw [hd] at i;rw [aE rfl];go_wp2_with fail;refine bE i λw1 aq=>?_;go_wp2;go_ret;exact⟨rfl,aF (((c.later aq).more (w:=w)).le (by omega:cR<=cR+2)) (aF (j.later aq) (aa.ah (λk=>F k\/k=l) aq))⟩
end
end B
end
theorem C3 {R:Nat->PC} {E:Nat} (a:∀q,(R q).d.length<=492):∀{rs:List (List Int)} {P h:Nat},dC R E P rs h->∀d∈rs,d.length<=8364
 | [],_,_,_,d,hd=>by cases hd
 |x :: xs,P,h,⟨k,hk,ht⟩,d,hd=>by
  rcases List.mem_cons.1 hd with rfl|b
  .have e:∀c,(kV R P c).length<=492*c:=λc=>by
    induction c with
    |zero=>simp [mq]
    |succ c f=>rw [iq,dT];have:=a (P+c);omega
   have:=e k;have:=hk.2.1;rw [hk.2.2.2];omega
  .exact C3 a ht d b
theorem wt {R:Nat->PC} {E:Nat} (b:∀q,Bytes (R q).d):∀{rs:List (List Int)} {P h:Nat},dC R E P rs h->∀d∈rs,Bytes d
 | [],_,_,_,d,hd=>by cases hd
 |x :: xs,P,h,⟨k,hk,ht⟩,d,hd=>by
  rcases List.mem_cons.1 hd with rfl|e
  .have f:∀c,Bytes (kV R P c):=λc=>by
    induction c with
    |zero=>intro x a;simp [mq] at a
    |succ c g=>
     rw [iq];intro x a;rcases List.mem_append.1 a with a|a
     .exact g x a
     .exact b _ x a
   rw [hk.2.2.2];exact f k
  .exact wt b ht d e
structure jH (S:DS) (f n:Nat) (rs:List (List Int)) (hd:Nat):Prop where
 t:dC (Rp (dW S f) n) (bV S f).1 (bV S f).2.1 rs hd
 x:∀c d,¬Rec (Rp (dW S f) n) (bV S f).1 hd c d
theorem jH.small {b:Nat} (h:jH S a b rs hd) (cZ:S.fC) (aq:1<=b):rs.length<=b/\(∀r∈rs,Bytes r/\r.length<=1000000)/\(bV S a).2.1<=hd/\hd<=(bV S a).2.1+b:=by
 have d:=dC.round aq (tM (dW S a) b) h.t;have f:=dC.length h.t;have e:=dC.le h.t;refine⟨by omega,λr c=>⟨?_,?_⟩,e,d⟩
 .exact wt (λq=>(j0 (cZ.now (a+2+q%b))).2.2.2.2.2) h.t r c
 .have:=C3 (λq=>(j0 (cZ.now (a+2+q%b))).2.2.2.2.1) h.t r c;omega
def eZ (S:DS) (f n hd:Nat):LG:={LG.new S f n with ep:=(bV S f).1,tail:=(bV S f).2.1,head:=hd,top:=ia S f n}
theorem xQ {b:Nat} (h:jH S a b rs hd) (cZ:S.fC) (d:(bV S a).2.2=0) (g:ia S a b≠1073741824) (oz:a+2+b<=s) (aq:18<=b) (aW:b<=256):(eZ S a b hd).Ok s:=by
 obtain⟨_,_,e,f⟩:=h.small cZ (by omega);have RA:=xE d;have PZ:=xF (n:=b) d;refine⟨oz,aq,aW,RA.2.1,?_,e,f,?_,λc=>by cases c⟩
 .show ia S a b<_;omega
 .show hd<=_;omega
theorem lV {f:Nat} (h:(bu S s f n).1=0):cq S s f n=0/\(bV S f).2.2=0/\ia S f n≠1073741824/\bu S s f n=S.take.fl s:=by
 unfold bu at*;simp only [Int.toNat_natCast] at*;split at h
 .rename_i k;exact absurd h k
 .rename_i a;split at h
  .rename_i k;exact absurd (Int.ofNat_eq_zero.1 h) k
  .rename_i b;split at h
   .cases h
   .rename_i c;exact⟨Decidable.of_not_not a,Decidable.of_not_not b,c,by rw [aA a,aA b,aA c]⟩
end Go.Proofs.YtenlkgicpllbhabGreat
