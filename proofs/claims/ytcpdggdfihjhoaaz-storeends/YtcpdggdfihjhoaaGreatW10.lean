import Derived.Test.YtcpdggdfihjhoaaGreatW01
import Derived.Test.YtcpdggdfihjhoaaGreatW05
import Derived.Test.YtcpdggdfihjhoaaGreatW06
import Derived.Test.YtcpdggdfihjhoaaGreatW07
import Derived.Test.YtcpdggdfihjhoaaGreatW08
import Derived.Test.YtcpdggdfihjhoaaGreatW09
import Derived.Scope
import Derived.WalkMore
set_option maxRecDepth 20000
set_option maxHeartbeats 8000000
set_option linter.all false
namespace Go.Proofs.YtcpdggdfihjhoaaGreat
open Go.Proofs.Tryz
open Go.RowKit Go.Maps
variable {cs ms ov:CM} {S:DS} {L:LG} {y:LY} {rs:List (List Int)} {d l:List Int} {a blocks c g hd k n p q s:Nat} {F:Nat->Prop} {u v:Value} {W w w':World}
section
open Go.RowKit Go.Shelf
attribute [local go_sem] Oper.semAt_some
def fE (d:List Int) (i:Nat):Nat:=le ((d.drop (2+4*i)).take 4)
structure PtI (w W:World) (n0:Nat) (ns:List Nat):Prop where
 bx:∃v,W.heap[w.heap.size]? =some (.cells #[v] 23 (0,0))/\W.ownsRow n0 3 1 v ns.length (wi ns)
 kp:Below w.heap.size w W
 sz:n0<=W.heap.size
def PtI.grown {W':World} {c:Nat} {ns:List Nat} {row:Option Nat} (h:PtI w W c ns) (s:w.heap.size<c) (b:W.grownBy W' row) (n:∀r,row=some r->c<=r/\∃o:Obj,W.heap[r]? =some o/\o.isCells=false):PtI w W' c ns:=by
 obtain⟨⟨v,d,i⟩,l,p⟩:=h;have dM:∀k cur t f,W.heap[k]? =some (.cells cur t f)->some k≠row:=λk cur t f q e=>by
  obtain⟨_,o,m,a⟩:=n k e.symm;rw [q] at m;cases m;cases a
 refine⟨⟨v,(b.block _ (aq d) (dM _ _ _ _ d)).trans d,mG i (λg Co=>?_)⟩,l.grown b l.size (λj e=>by have:=(n j e).1;omega),j4 p b.size⟩;obtain⟨cur,a⟩:=bz i Co;exact b.block g (aq a) (dM _ _ _ _ a)
def uH {P:Program} {b:Array Oper} {l:Nat} {f:Nat} {a:Act} {K:Act->World->Prop} {S:World->Prop} {Q:Exit->Act->World->Prop} (d:P.follows .mixedOrders=true) (hd:ue b=true) (h:wpAnyH P .any b (Exit.then K (λ_ _ _=>False)) S b.size (Array.replicate b.size false) a w.drew) (c:∀a w,K a w->Q .normal a w):
    (Code.region f b true).wpIn (Fence.wide.inRound l) n P Q a w:=
 wpIn_mono (wpIn_region_any d (sI hd (λ⟨_,_,h⟩=>h) _ _ _ _ (wpAny_of_held _ _ _ _ h))) (λe a w h=>by cases e <;> first|exact c _ _ h|exact h.elim)
def WP {B:Nat} {b:List Value} (be:W.ownsRow B 3 1 v k b) (x:Int) (p:k<=1000000) (o:B<=W.heap.size):
  ∃g a w',(Builtin.append_ #[23,23] 23 #[v, .slice (some ⟨W.heap.size,0,none⟩) 1 1]).run prog (W.alloc (.cells #[.int .i64 x] 3))= .ok (.slice (some ⟨g,0,none⟩) (k+1) a) w'/\w'.ownsRow B 3 1 (.slice (some ⟨g,0,none⟩) (k+1) a) (k+1) (b ++ [.int .i64 x])/\(W.alloc (.cells #[.int .i64 x] 3)).grownBy w' v.ownBlock/\(v.ownBlock=some g\/g=W.heap.size+1):=by
 obtain⟨n,m,gC,dE,ev⟩:=info_parts Dw;obtain⟨g,a,w',c,d,f,i,_⟩:=run_append_lies (P:=prog) (W.alloc (.cells #[.int .i64 x] 3)) 23 23 B 3 n (.int .i64 0) 1 8 underlying23 m gC dE ev rfl (by decide) v k b (dR be (λg l=>by
   obtain⟨cur,j⟩:=bz be l;exact Below.heap_alloc _ _ _ (aq j))) ⟨W.heap.size,0,none⟩ 1 1 [.int .i64 x] rfl (World.news_of_block (cs:= #[.int .i64 x]) (t:=3) (fr:=(0,0)) (heap_alloc_new W _)) (by simp [Value.oneCell']) (by omega) (by unfold maxLen;omega) (by omega) (by simp;omega) _ rfl
 exact⟨g,a,w',c,d,f,i.imp (λe=>e) (λe=>e.trans (by simp))⟩
def oW {d:Func} {p q r:Tmp} (h:d.results= #[.cell p 23, .tmp q, .tmp r]) (b:Array Value) (w:World) (g:Nat) (a:Option Addr) (n c:Nat) (u v:Value)
    (f:b.getD p undef= .pointer (some ⟨g,0,none⟩)) (i:b.getD q undef=u) (j:b.getD r undef=v) (k:w.cell? ⟨g,0,none⟩=some (.slice a n c)):(results d b).run prog w= .ok (.tuple #[.slice a n c,u,v]) w:=by
 have Zk:b[p]?.getD undef= .pointer (some ⟨g,0,none⟩):=by simpa using f
 have Zw:b[q]?.getD undef=u:=by simpa using i
 have BA:b[r]?.getD undef=v:=by simpa using j
 have e:(loadVar 23 ⟨g,0,none⟩).run prog w= .ok (.slice a n c) w:=by simp [go_sem,k]
 simp [results,h,Zk,Zw,BA,asAddr,e]
def If (a:Option Addr) (n c:Nat) (w:World) (j:n<2):
  Calls prog 157 #[.slice a n c] w λe w'=>e= .returned (.tuple #[.slice none 0 0, .slice none 0 0, .bool false])/\Below w.heap.size w w':=by
 have i:(n:Int)<2:=by omega
 have f:=aJ w (.cells #[.slice none 0 0] 23);have iq:=heap_alloc_new w (.cells #[.slice none 0 0] 23);have d:=aM iq;have g:=ae iq 0;have b:=(aH d f);go_in;go_wp2;refine bodyPost_ret (oW rfl _ _ w.heap.size none 0 0 (.slice none 0 0) (.bool false) rfl rfl rfl b.1) rfl ⟨rfl,b.2⟩
def OR (b o n c:Nat) (d:List Int) (w:World) (f:Src w (some ⟨b,o,none⟩) n d) (hd:Bytes d) (l:2<=n) (PO:n<=c) (UL:n<=1000000) (DW:¬(1<=le (d.take 2)/\le (d.take 2)<=16)\/n≠2+516*le (d.take 2)):
  Calls prog 157 #[.slice (some ⟨b,o,none⟩) n c] w λe w'=>e= .returned (.tuple #[.slice none 0 0, .slice none 0 0, .bool false])/\Below w.heap.size w w':=by
 have r:¬(n:Int)<2:=by omega
 have qR:=f.1;have a:=aJ w (.cells #[.slice none 0 0] 23);have iq:=heap_alloc_new w (.cells #[.slice none 0 0] 23);have k:=aM iq;have p:=ae iq 0;have i:=(aH k a);have bo:=(f.sub 0 2 (by omega)).later a;rw [List.drop_zero,Nat.add_zero] at bo;have j:=sP b o 2 c (d.take 2) _ bo (hd.take 2) (by omega);obtain⟨em,sU⟩:=bQ (le (d.take 2));have aqz:em<65536:=by
  rw [sU];have:=lz (hd.take 2);have e:(d.take 2).length=2:=by simp;omega
  rw [e] at this;exact this
 rw [<-sU] at j DW;have By:(2:Int)<=(c:Int):=by omega
 have g:((em:Int)<1)\/(¬(em:Int)<1/\(16:Int)<(em:Int))\/(¬(em:Int)<1/\¬(16:Int)<(em:Int)/\((n:Int) != 2+(em:Int)*4+(em:Int)*512)=true):=by
  rw [gB];omega
 clear a iq bo sU f hd qR DW l;rcases g with q|⟨q,m⟩|⟨q,m,s⟩;all_goals
  go_in;go_wp2_with fail;refine bN j λw1 bL=>?_;subst bL;go_wp2;refine bodyPost_ret (oW rfl _ _ w.heap.size none 0 0 (.slice none 0 0) (.bool false) rfl rfl rfl i.1) rfl ⟨rfl,i.2⟩
set_option maxRecDepth 100000 in
def S9 (b o n c em:Nat) (d:List Int) (w:World) (Z:Src w (some ⟨b,o,none⟩) n d) (hd:Bytes d) (PO:n<=c) (hc6:c<=9223372036854775807) (sU:le (d.take 2)=em) (h1:1<=em) (UI:em<=16) (Y:n=2+516*em):
  Calls prog 157 #[.slice (some ⟨b,o,none⟩) n c] w λe w'=>∃g a cc,e= .returned (.tuple #[.slice (some ⟨g,0,none⟩) em a, .slice (some ⟨b,o+(2+4*em),none⟩) (512*em) cc, .bool true])/\512*em<=cc/\w.heap.size<=g/\ay w' 3 g a (wi ((List.range em).map (fE d)))/\Below w.heap.size w w':=by
 have g1:¬(n:Int)<2:=by omega
 have qR:=Z.1;have U:=aJ w (.cells #[.slice none 0 0] 23);have iq:=heap_alloc_new w (.cells #[.slice none 0 0] 23);obtain⟨E,K5⟩:=bQ (w.alloc (.cells #[.slice none 0 0] 23));have dE:E.heap.size=w.heap.size+1:=by rw [K5,World.size_alloc]
 rw [<-K5] at U iq;have bo:=(Z.sub 0 2 (by omega)).later U;rw [List.drop_zero,Nat.add_zero] at bo;have k1:=sP b o 2 c (d.take 2) _ bo (hd.take 2) (by omega);rw [sU] at k1;have g2:(2:Int)<=(c:Int):=by omega
 have q1:¬(em:Int)<1:=by omega
 have q2:¬(16:Int)<(em:Int):=by omega
 have q3:((n:Int) != 2+(em:Int)*4+(em:Int)*512)=false:=by
  rw [bne_eq_false_iff_eq];omega
 obtain⟨HH,HW,r,HS⟩:=Bo (aH U iq) K5 (aH Y sU) (aH Z hd);clear U iq bo sU Z hd qR Y K5;refine(callsIn_wide (n:=6)).1 ?_;refine callsIn_of_wp_marks func157 rfl trivial ?_ rfl;simp only [ntmps157,List.size_toArray,List.length_cons,List.length_nil,Nat.reduceAdd,Nat.reduceSub,Array.replicate_succ,Array.replicate_zero,List.push_toArray,List.append_toArray,List.nil_append,List.cons_append];refine(wpIn_wide (n:=6)).2 ?_;go_wp2_with fail;rw [<-HW.o];refine k1.mono ?_;rintro e w1 ⟨rfl,bL⟩;have jP:=bL.symm;subst jP;clear bL k1;obtain⟨fr,wJ⟩:∃fr:Nat,fr=2+4*em:=⟨_,rfl⟩;have L:(2:Int)+(em:Int)*4=(fr:Int):=by omega
 have e2:(2:Int)<=(fr:Int):=by omega
 have e3:(fr:Int)<=(c:Int):=by have:=r.o.1;omega
 have e4:(2:Int)<(c:Int):=by have:=r.o.1;omega
 rw [L] at q3;have My:=yh wJ;clear wJ;go_wp2_with fail;obtain⟨m,u⟩:=bQ (fr-2);obtain⟨A,Qm⟩:=bQ (c-2);rw [<-u,<-Qm];have HX:=yh (aH u Qm);have M:m=4*em:=by have:=My.o;omega
 have Z3:m<=A:=by have:=My.o;have:=r.o.1;omega
 have Yy:=yh M;clear u Qm M;refine(K4 (some ⟨b,o+2,none⟩) m A E).mono ?_;rintro e p ⟨rfl,px⟩;go_wp2_with fail;refine(wpIn_wide (n:=6)).1 ?_;have fw:Below E.heap.size E p:=by rw [px];exact gY _ _ _
 have ws:p.heap.size=w.heap.size+3:=by rw [px];simp;omega
 have Ep:p.heap[w.heap.size+1]? =some (.cells #[.slice (some ⟨b,o+2,none⟩) m A] 36 (0,0)):=by
  rw [px,<-dE];exact(Below.heap_alloc _ _ _ (by simp)).trans (heap_alloc_new _ _)
 have Wm:p.heap[w.heap.size+1+1]? =some (.cells #[.int .i64 4] 3 (0,0)):=by
  rw [px,<-dE];have:=heap_alloc_new (E.alloc (.cells #[.slice (some ⟨b,o+2,none⟩) m A] 36)) (.cells #[.int .i64 4] 3);rwa [World.size_alloc] at this
 rw [<-px];clear px;have rF:=HH.o.1.trans (fw.mono HH.o.1.size);have aac:=rF.size;have hI0:PtI w p p.heap.size ([]:List Nat):=⟨⟨.slice none 0 0,(fw.block _ (by omega)).trans HH.o.2,World.ownsRow_nil _ _ _ _⟩,rF,bS _⟩;refine wpIn_rangeFunc_ownH rfl (by omega) (gf:=228) (lb:= #[.pointer (some ⟨w.heap.size+1,0,none⟩), .pointer (some ⟨w.heap.size+1+1,0,none⟩)]) rfl trivial (enters_of func228 (by kernel_rfl) rfl)
    (EH (6-1) (by omega) (w.heap.size+1) (w.heap.size+1+1) b (o+2) m A em (by have:=Yy.o;omega) (by have:=Yy.o;omega) Z3 (by have:=Yy.o;omega) p Ep Wm) vt.t (vt.b (by omega) (by omega)) (bi _ _) (λ_=>rfl)
    (λl W=>PtI w W p.heap.size (l.map (λx:Fin em=>fE d x.1)))
    (λ_ _ _=>False)
  ?hI ?hIx hI0
    (λy a' _=>a'={tmps:= #[.slice (some ⟨b,o,none⟩) n c,undef, .pointer (some ⟨w.heap.size,0,none⟩), .slice none 0 0, .bool false, .int .i64 (em:Int), .int .i64 (fr:Int), .slice (some ⟨b,o+2+4*y.1,none⟩) (nf m y.1) (nf m y.1), .slice (some ⟨b,o,none⟩) n c, .int .i64 (n:Int), .bool false, .slice (some ⟨b,o,none⟩) n c, .slice (some ⟨b,o,none⟩) 2 c, .int .i64 (em:Int), .int .i64 (em:Int), .int .i64 ((em:Int)*4), .int .i64 (fr:Int), .int .i64 (em:Int), .bool (decide ((em:Int)<1)), .bool (decide ((em:Int)<1)), .int .i64 (em:Int), .bool (decide ((16:Int)<(em:Int))), .bool (decide ((em:Int)<1) || decide ((16:Int)<(em:Int))), .bool (decide ((em:Int)<1) || decide ((16:Int)<(em:Int))), .slice (some ⟨b,o,none⟩) n c, .int .i64 (n:Int), .int .i64 (fr:Int), .int .i64 (em:Int), .int .i64 ((em:Int)*512), .int .i64 ((fr:Int)+(em:Int)*512), .bool false, .bool (decide ((em:Int)<1) || decide ((16:Int)<(em:Int))), .slice (some ⟨b,o,none⟩) n c, .int .i64 (fr:Int), .slice (some ⟨b,o+2,none⟩) m A, .func (.func 228) #[] #[.pointer (some ⟨w.heap.size+1,0,none⟩), .pointer (some ⟨w.heap.size+1+1,0,none⟩)], .slice (some ⟨b,o+2+4*y.1,none⟩) (nf m y.1) (nf m y.1),undef,undef,undef,undef,undef,undef,undef,undef,undef],defers:= []}) ?hAx ?assign ?body ?done ?stop
 case hI=>exact λ_ _ _ _ h hg hr=>h.grown (by omega) hg hr
 case hIx=>exact λ_ _ _ _ _ h _ _=>h.elim
 case hAx=>exact λ_ _ _ _ _ _ h _ _=>h
 case assign=>
  intro l' l y W K hI f;simp only [MO]
  gi_wp2
  exact f _ _ (KeepsFrom.refl _ _) (vt.refl _ _ _) hI rfl
 case body=>
  rintro l' l y a' W Up ⟨rr,Jd⟩ hI rfl bq;obtain⟨⟨v,iq,aA⟩,eZ,ee⟩:=hI;have hy:=y.2;have Uy:prog.follows .mixedOrders=true:=by kernel_rfl
  have yB:nf m y.1=4:=by unfold nf;have:=Yy.o;omega
  have Yi:Src W (some ⟨b,o+2+4*y.1,none⟩) 4 ((d.drop (2+4*y.1)).take 4):=by
   have:=(HS.o.1.sub (2+4*y.1) 4 (by have:=r.o.1;omega)).later (eZ.mono (bS _));rwa [<-Nat.add_assoc] at this
  have N:Bytes ((d.drop (2+4*y.1)).take 4):=(HS.o.2.drop _).take 4;have ff:=sP b (o+2+4*y.1) 4 4 _ W.drew (Yi.later (ai (bi _ _))) N (by omega);have GU:(l ++ [y]).map (λx:Fin em=>fE d x.1)=l.map (λx:Fin em=>fE d x.1) ++ [fE d y.1]:=by simp
  have hx:le ((d.drop (2+4*y.1)).take 4)=fE d y.1:=rfl;rw [hx] at ff;have P:(l.map (λx:Fin em=>fE d x.1)).length<=1000000:=by rw [List.length_map];omega
  generalize hX:fE d y.1=X at ff GU;generalize hNs:l.map (λx:Fin em=>fE d x.1)=ns at GU P aA;obtain⟨g,a,W5,bD,BD,Gz,Wr⟩:=WP (W:=W.drew) aA (X:Int) P ee;have gX:=aJ W.drew (.cells #[.int .i64 (X:Int)] 3);have T:(W.drew.alloc (.cells #[.int .i64 (X:Int)] 3)).heap.size=W.heap.size+1:=by simp
  have mn:∀k,v.ownBlock=some k->p.heap.size<=k:=λk e=>(aA.lt k e).1;have db:∀k,v.ownBlock=some k->∃cur,W.heap[k]? =some (.cells cur 3 (0,0)):=λk e=>bz aA e;have aV:∀k,k<W.heap.size->¬v.ownBlock=some k->W5.heap[k]? =W.heap[k]? :=λk h1 H=>(Gz.block k (by rw [T];omega) (λe=>H e.symm)).trans (gX.block k h1);have pR:W.heap.size+1<=W5.heap.size:=by have:=Gz.size;rw [T] at this;exact this
  have R:=aq iq;have Vn:¬v.ownBlock=some w.heap.size:=λe=>by have:=mn _ e;omega
  have WQ:=(aV _ R Vn).trans iq;have s0:W.drew.cell? ⟨w.heap.size,0,none⟩=some v:=aj (w:=W) iq (j:=0) rfl;have s1:(W.drew.alloc (.cells #[.int .i64 (X:Int)] 3)).cell? ⟨w.heap.size,0,none⟩=some v:=aM ((gX.block _ R).trans iq);have s5:W5.cell? ⟨w.heap.size,0,none⟩=some v:=aM WQ;have f5:W5.frozen? ⟨w.heap.size,0,none⟩=false:=ae WQ 0;have ey:=aL (F:=λk=>k=w.heap.size) W5 rfl 0 (.slice (some ⟨g,0,none⟩) (ns.length+1) a);have fa:Below w.heap.size w W5:=⟨(Gz.os.trans gX.os).trans eZ.os,(Gz.tape.trans gX.tape).trans eZ.tape,(Gz.output.trans gX.output).trans eZ.output,by have:=eZ.size;omega,λk hk=>(aV k (by have:=eZ.size;omega) (λe=>by have:=mn k e;omega)).trans (eZ.block k hk)⟩;have HE:Yh (KeepsFrom p.heap.size W (W5.setCell ⟨w.heap.size,0,none⟩ (.slice (some ⟨g,0,none⟩) (ns.length+1) a))/\vt (w.heap.size+1) (w.heap.size+1+1) W (W5.setCell ⟨w.heap.size,0,none⟩ (.slice (some ⟨g,0,none⟩) (ns.length+1) a))/\PtI w (W5.setCell ⟨w.heap.size,0,none⟩ (.slice (some ⟨g,0,none⟩) (ns.length+1) a)) p.heap.size (ns ++ [X])):=by
   have dX:KeepsFrom p.heap.size W W5:=⟨by omega,λk ob h1 H h3=>(aV k (aq H) (λe=>by
    obtain⟨cur,J⟩:=db k e;rw [J] at H;cases H;cases h3)).trans H⟩
   refine⟨dX.trans ((KeepsOthers.setCell _ _ _).from _),⟨(ey.block _ (by omega) (by omega)).trans (aV _ (by omega) (λe=>by have:=mn _ e;omega)),(ey.block _ (by omega) (by omega)).trans (aV _ (by omega) (λe=>by have:=mn _ e;omega))⟩,⟨⟨.slice (some ⟨g,0,none⟩) (ns.length+1) a,(heap_setCell_same _ _ 0 _ _ _ WQ).trans (by simp),?_⟩,fa.trans (ey.below (λk e=>by omega) fa.size),by have:=ey.size;omega⟩⟩;have L:(ns ++ [X]).length=ns.length+1:=(by simp);have e2:wi (ns ++ [X])=wi ns ++ [.int .i64 (X:Int)]:=(by simp [wi]);rw [L,e2];refine mG BD (λk e=>ey.block k ?_ ?_)
   .obtain⟨cur,J⟩:=bz BD e;exact aq J
   .intro e2;have h8:g=k:=(by simpa [Value.ownBlock] using e);rcases Wr with I|I
    .have:=mn _ I;omega
    .have Zj:g=W.heap.size+1:=I;omega
  rw [yB];have HMp:=yh GU;clear GU Yi N aA iq eZ fa ey aV db mn gX BD Gz Wr WQ
  gi_wp2_with fail
  have nN:=yh bD;have s2:(W.alloc (.cells #[.int .i64 (X:Int)] 3)).drew.cell? ⟨w.heap.size,0,none⟩=some v:=s1;clear bD;refine uH (S:=λ_=>True) (K:=λ_ W'=>W'=W5.setCell ⟨w.heap.size,0,none⟩ (.slice (some ⟨g,0,none⟩) (ns.length+1) a)) Uy (by kernel_rfl) ?_ (λa1 w1 L=>by rw [L];exact⟨HE.o.1,HE.o.2.1,by have I:=HE.o.2.2;rw [<-HMp.o] at I;exact I⟩);refine wpAnyH_take (i:=1) (v:= .slice (some ⟨b,o+2+4*y.1,none⟩) 4 4) rfl (by kernel_rfl) (by kernel_rfl) (by kernel_rfl) (λ_ _ _ h=>h) (Or.inl ⟨by rfl,?_⟩) trivial ?_
  .intro E hS;go_simp
  try simp only [Act.put,List.setIfInBounds_toArray]
  refine wpAnyH_ready (rs:= [0,2]) (by kernel_rfl) (by simp) (AllReadyH.cons rfl (λK f=>?_) (AllReadyH.cons rfl (λK f=>?_) AllReadyH.nil))
  .skip
   go_simp;refine f.out _ _ trivial (λ_=>?_);clear f K;try simp only [Act.put,List.setIfInBounds_toArray,List.set_cons_zero,List.set_cons_succ]
   refine wpAnyH_ready (rs:= [2]) (by kernel_rfl) (by simp) (AllReadyH.cons rfl (λK f=>?_) AllReadyH.nil);go_simp;refine ff.mono ?_;rintro e W2 ⟨rfl,dD⟩;have KS:=dD.symm;subst KS;refine f.out _ _ trivial (λ_=>?_);clear f K;try simp only [Act.put,List.setIfInBounds_toArray,List.set_cons_zero,List.set_cons_succ]
   refine wpAnyH_ready (rs:= [3]) (by kernel_rfl) (by simp) (AllReadyH.cons rfl (λK f=>?_) AllReadyH.nil);go_simp;refine f.out _ _ trivial (λ_=>?_);clear f K;try simp only [Act.put,List.setIfInBounds_toArray,List.set_cons_zero,List.set_cons_succ]
   refine wpAnyH_ready (rs:= [4]) (by kernel_rfl) (by simp) (AllReadyH.cons rfl (λK f=>?_) AllReadyH.nil);rw [aG (by rfl)];refine eB _ _ 23 rfl _ _ _ rfl rfl nN.o ?_;refine f.out _ _ trivial (λ_=>?_);clear f K;try simp only [Act.put,List.setIfInBounds_toArray]
   refine wpAnyH_ready (rs:= [5]) (by kernel_rfl) (by simp) (AllReadyH.cons rfl (λK f=>?_) AllReadyH.nil);go_simp;refine f.out _ _ trivial (λ_=>?_);clear f K;try simp only [Act.put,List.setIfInBounds_toArray,List.set_cons_zero,List.set_cons_succ]
   exact wpAnyH_done (by kernel_rfl) rfl _
  .skip
   go_simp;refine ff.mono ?_;rintro e W2 ⟨rfl,dD⟩;have KS:=dD.symm;subst KS;refine f.out _ _ trivial (λ_=>?_);clear f K;try simp only [Act.put,List.setIfInBounds_toArray,List.set_cons_zero,List.set_cons_succ]
   refine wpAnyH_ready (rs:= [0,3]) (by kernel_rfl) (by simp) (AllReadyH.cons rfl (λK f=>?_) (AllReadyH.cons rfl (λK f=>?_) AllReadyH.nil))
   .skip
    go_simp;refine f.out _ _ trivial (λ_=>?_);clear f K;try simp only [Act.put,List.setIfInBounds_toArray,List.set_cons_zero,List.set_cons_succ]
    refine wpAnyH_ready (rs:= [3]) (by kernel_rfl) (by simp) (AllReadyH.cons rfl (λK f=>?_) AllReadyH.nil);go_simp;refine f.out _ _ trivial (λ_=>?_);clear f K;try simp only [Act.put,List.setIfInBounds_toArray,List.set_cons_zero,List.set_cons_succ]
    refine wpAnyH_ready (rs:= [4]) (by kernel_rfl) (by simp) (AllReadyH.cons rfl (λK f=>?_) AllReadyH.nil);rw [aG (by rfl)];refine eB _ _ 23 rfl _ _ _ rfl rfl nN.o ?_;refine f.out _ _ trivial (λ_=>?_);clear f K;try simp only [Act.put,List.setIfInBounds_toArray]
    refine wpAnyH_ready (rs:= [5]) (by kernel_rfl) (by simp) (AllReadyH.cons rfl (λK f=>?_) AllReadyH.nil);go_simp;refine f.out _ _ trivial (λ_=>?_);clear f K;try simp only [Act.put,List.setIfInBounds_toArray,List.set_cons_zero,List.set_cons_succ]
    exact wpAnyH_done (by kernel_rfl) rfl _
   .skip
    go_simp;refine f.out _ _ trivial (λ_=>?_);clear f K;try simp only [Act.put,List.setIfInBounds_toArray,List.set_cons_zero,List.set_cons_succ]
    refine wpAnyH_ready (rs:= [0]) (by kernel_rfl) (by simp) (AllReadyH.cons rfl (λK f=>?_) AllReadyH.nil);go_simp;refine f.out _ _ trivial (λ_=>?_);clear f K;try simp only [Act.put,List.setIfInBounds_toArray,List.set_cons_zero,List.set_cons_succ]
    refine wpAnyH_ready (rs:= [4]) (by kernel_rfl) (by simp) (AllReadyH.cons rfl (λK f=>?_) AllReadyH.nil);rw [aG (by rfl)];refine eB _ _ 23 rfl _ _ _ rfl rfl nN.o ?_;refine f.out _ _ trivial (λ_=>?_);clear f K;try simp only [Act.put,List.setIfInBounds_toArray]
    refine wpAnyH_ready (rs:= [5]) (by kernel_rfl) (by simp) (AllReadyH.cons rfl (λK f=>?_) AllReadyH.nil);go_simp;refine f.out _ _ trivial (λ_=>?_);clear f K;try simp only [Act.put,List.setIfInBounds_toArray,List.set_cons_zero,List.set_cons_succ]
    exact wpAnyH_done (by kernel_rfl) rfl _
 case done=>
  intro D xs W hD oH hI Kf;have GU:xs.map Fin.val=List.range em:=oH;have Mg:xs.map (λx:Fin em=>fE d x.1)=(List.range em).map (fE d):=by
   rw [<-GU,List.map_map];rfl
  rw [Mg] at hI;obtain⟨⟨v,iq,aA⟩,eZ,ee⟩:=hI;have hl:((List.range em).map (fE d)).length=em:=by simp
  rw [hl] at aA;obtain⟨g,a,rfl,hg,be,_⟩:=ay.fe aA (λe=>by
   rw [e] at aA;obtain⟨_,⟨_,h0⟩|⟨g,a,cur,h0,_⟩⟩:=aA
   .omega
   .cases h0)
  have c0:W.cell? ⟨w.heap.size,0,none⟩=some (.slice (some ⟨g,0,none⟩) em a):=aM iq;have f0:W.frozen? ⟨w.heap.size,0,none⟩=false:=ae iq 0;have e6:(fr:Int)<=(n:Int):=by have:=r.o.1;have:=My.o;omega
  have e7:¬c=fr:=by have:=r.o.1;have:=My.o;omega
  have e8:(0:Int)<=(fr:Int):=by omega
  have c1:(W.setCell ⟨w.heap.size,0,none⟩ (.slice (some ⟨g,0,none⟩) em a)).drew.cell? ⟨w.heap.size,0,none⟩=some (.slice (some ⟨g,0,none⟩) em a):=aj (w:=W.setCell ⟨w.heap.size,0,none⟩ (.slice (some ⟨g,0,none⟩) em a)) (heap_setCell_same _ _ 0 _ _ _ iq) (j:=0) (by simp);have s:=yh (aH be (aH eZ (aH hg iq)));clear aA GU Mg oH be eZ iq;go_wp2_with fail;go_region_held3 (λw'=>w'.cell? ⟨w.heap.size,0,none⟩=some (.slice (some ⟨g,0,none⟩) em a)/\w'.frozen? ⟨w.heap.size,0,none⟩=false) (first|exact⟨c1,by go_simp⟩|go_keep) (fail);have ey:=aL (F:=λk=>k=w.heap.size) W rfl 0 (.slice (some ⟨g,0,none⟩) em a);have VY:(W.setCell ⟨w.heap.size,0,none⟩ (.slice (some ⟨g,0,none⟩) em a)).heap[w.heap.size]? =some (.cells #[.slice (some ⟨g,0,none⟩) em a] 23 (0,0)):=(heap_setCell_same _ _ 0 _ _ _ s.o.2.2.2).trans (by simp);have hDl:D<W.heap.size:=aq Kf;have WR:(W.setCell ⟨w.heap.size,0,none⟩ (.slice (some ⟨g,0,none⟩) em a)).drew.heap[D]? =some (.deferred (some [])):=(ey.block D hDl (by omega)).trans Kf;have ph:Below w.heap.size w (W.setCell ⟨w.heap.size,0,none⟩ (.slice (some ⟨g,0,none⟩) em a)).drew:=s.o.2.1.trans (ai (ey.below (λk e=>by omega) s.o.2.1.size));have q:ay (W.setCell ⟨w.heap.size,0,none⟩ (.slice (some ⟨g,0,none⟩) em a)).drew 3 g a (wi ((List.range em).map (fE d))):=s.o.1.agree (ey.block g s.o.1.lt (by have:=s.o.2.2.1;omega));obtain⟨G,z⟩:=bQ ((W.setCell ⟨w.heap.size,0,none⟩ (.slice (some ⟨g,0,none⟩) em a)).drew);have aeP:G.heap[w.heap.size]? =some (.cells #[.slice (some ⟨g,0,none⟩) em a] 23 (0,0)):=by rw [z];exact VY
  rw [<-z] at WR ph q⊢;have hgD:g≠D:=λe=>by
   obtain⟨cur,J,_⟩:=q;rw [e,WR] at J;cases J
  have UN:∀k,k≠D->(G.putObj D (.deferred none)).heap[k]? =G.heap[k]? :=λk hk=>World.putObj_heap_other hk;have O:(G.putObj D (.deferred none)).cell? ⟨w.heap.size,0,none⟩=some (.slice (some ⟨g,0,none⟩) em a):=aM ((UN _ (by omega)).trans aeP);have Q:n-fr=512*em:=by have:=r.o.1;have:=My.o;omega
  have WI:512*em<=c-fr:=by have:=r.o.1;have:=My.o;omega
  have Sa:aa (λk=>k=D) G (G.putObj D (.deferred none)):=⟨rfl,rfl,rfl,by simp [World.putObj],λk _ Y=>UN k Y⟩;have C:=yh (aH WR (aH O (aH Q (aH WI (aH (q.agree (UN g hgD)) (ph.trans (Sa.below (λk e=>by omega) ph.size)))))));clear WR O Q WI q ph VY aeP ey UN z c0 f0 c1 Sa;go_wp2;refine⟨by simp, .inl ⟨_,_,rfl,run_takeDeferred C.o.1,?_⟩⟩;refine⟨_,oW rfl _ _ w.heap.size (some ⟨g,0,none⟩) em a (.slice (some ⟨b,o+fr,none⟩) (n-fr) (c-fr)) (.bool true) rfl rfl rfl C.o.2.1,?_⟩;refine⟨g,a,c-fr,?_,C.o.2.2.2.1,by have:=s.o.2.2.1;omega,C.o.2.2.2.2.1,C.o.2.2.2.2.2⟩;rw [C.o.2.2.1,My.o]
 case stop=>
  rintro D c l W hD _ h Kf;exact h.elim
end
def Ta (hd:Bytes d) (i:Nat):fE d i<4294967296:=by
 have:=lz ((hd.drop (2+4*i)).take 4);have e:((d.drop (2+4*i)).take 4).length<=4:=by rw [List.length_take];omega
 have a:2 ^ (8*((d.drop (2+4*i)).take 4).length)<=2 ^ 32:=Nat.pow_le_pow_right (by omega) (by omega);have b:(2:Nat) ^ 32=4294967296:=rfl;unfold fE;omega
def OS (d:List Int) (i:Nat):(List.range (i+1)).map (fE d)=(List.range i).map (fE d) ++ [fE d i]:=by
 rw [List.range_succ,List.map_append];rfl
def MP:∀(ks:List Nat) (r:List Int) (i:Nat) (a:i<ks.length),(nc ks r).take (i+1)=(nc ks r).take i ++ [(ks[i],(r.drop (512*i)).take 512)]
 | [],_,i,a=>by simp at a
 |k :: ks,r,0,_=>by simp [nc]
 |k :: ks,r,i+1,a=>by
  rw [nc,List.take_succ_cons,List.take_succ_cons,MP ks (r.drop 512) i (by simpa using a),List.drop_drop,show 512+512*i=512*(i+1) by omega];rfl
def Ig {m:Nat} (b:m<w.heap.size) (a:Option Addr) (n c:Nat) (blocks:Nat)
    (f:Calls prog 157 #[.slice a n c] w λe w'=>e= .returned (.tuple #[.slice none 0 0, .slice none 0 0, .bool false])/\bW w w'):
  Calls prog 111 #[.map (some m), .slice a n c,iV (blocks:Int)] w λe w'=>e= .returned (.bool false)/\bW w w':=by
 go_in;go_wp2_with fail;refine bN f λw1 d=>?_;go_wp2;go_loopw [9,23] (λj i wr=>j= .bool false/\i=iV 0/\wr=w1) (λ_ _ _=>0);case atStart=>exact⟨rfl,rfl,rfl⟩
 case round=>
  obtain⟨rfl,rfl,g⟩:=hrel;have eM:=g.symm;subst eM;go_wp2;go_ret;exact⟨rfl,d⟩
def Tb {m:Nat} (h:Ch w m ms) (b o n c em:Nat) (d:List Int) (L:Src w (some (aD b o)) n d) (hd:Bytes d) (PO:n<=c) (pj:c<=9223372036854775807) (P:b≠m) (blocks:Nat) (lA:blocks<=2048) (sU:le (d.take 2)=em) (h1:1<=em) (UI:em<=16) (hn:n=2+516*em):
  Calls prog 111 #[.map (some m), .slice (some (aD b o)) n c,iV (blocks:Int)] w λe w'=>aa (λk=>k=m) w w'/\((∃cs,gG blocks d=some cs/\e= .returned (.bool true)/\Ch w' m (CM.bT ms cs))\/(gG blocks d=none/\e= .returned (.bool false)/\Ch w' m ms)):=by
 have Cc:=h.lt;have qR:d.length=n:=L.1;have k1:=S9 b o n c em d w L hd PO pj sU h1 UI hn;have I:=Aw (blocks:=blocks) (d:=d) (by omega) (by rw [sU];omega);rw [sU] at I;have v:=L.sub (2+4*em) (512*em) (by omega);have rQ:∀lo i,i<em->lr blocks d em ((List.range i).map (fE d)) lo i=if lo<=fE d i/\fE d i<blocks then lr blocks d em ((List.range (i+1)).map (fE d)) (fE d i+1) (i+1) else none:=λlo i Z=>by
  have:=wX (blocks:=blocks) (d:=d) (c:=em) (lo:=lo) (i:=i) (ks:=(List.range i).map (fE d)) Z (by omega);rw [OS];exact this
 obtain⟨rest,j2⟩:=bQ (d.drop (2+4*em));have rJ:rest.length=512*em:=by rw [j2,List.length_drop];omega
 have BM:Bytes rest:=by rw [j2];exact hd.drop _
 rw [<-j2,nz (by omega)] at v;have lJ:∀lo,lr blocks d em ((List.range em).map (fE d)) lo em=some (nc ((List.range em).map (fE d)) rest):=λlo=>by
  rw [j2];exact Ax (by simp) (by omega)
 have mr:=λi=>Ta hd i;obtain⟨R,u⟩:=bQ (gG blocks d);rw [<-u] at I⊢;have Ay:∀cs,R=some cs->∀x∈cs,x.1<blocks:=λcs h=>oV (by rw [<-u];exact h);have q:=yh (aH h (aH v (aH I (aH lJ (aH rQ (aH BM (aH rJ Ay)))))));clear L hd u I lJ rQ j2 qR hn sU v h BM rJ Ay;go_in;go_wp2_with fail;refine k1.mono ?_;rintro e w1 ⟨g,cap,W,rfl,aeQ,hg,be,ar⟩;have dE:=ar.size;have p:=yh (aH be (aH ar (aH aeQ (aH PO pj))));clear k1 be ar aeQ PO pj;go_wp2;go_loopw [9,10,23] (λwv av z wr=>∃(i lo:Nat) (A:Int) (D:Bool),z=iV i/\av=iV A/\wv= .bool D/\A=(lo:Int)-1/\lo<=4294967297/\i<=em/\wr=w1/\(D=true->R=lr blocks d em ((List.range i).map (fE d)) lo i)/\(D=false->R=none)) (λ_ _ z _=>em-(intOf z).toNat);case atStart=>exact⟨0,0,-1,true,rfl,rfl,rfl,by omega,by omega,by omega,rfl,λ_=>q.o.2.2.1,λh=>by cases h⟩
 case round=>
  obtain⟨i,lo,A,D,rfl,rfl,rfl,t,mn,Z,hw,a,F⟩:=hrel;have eM:=hw.symm;subst eM;have r:=yh (aH t (aH a F));clear hw t a F;by_cases bq:i<em
  .have cC:(i:Int)<(em:Int):=(by omega);have K6:i<((List.range em).map (fE d)).length:=(by simpa using bq);have q0:w1.cell? (aD g i)=some (iV (fE d i:Int)):=p.o.1.cell (j:=i) (by simp [wi,bq]);have hnK:=mr i;have bw:=q.o.2.2.2.2.1 lo i bq;generalize Y:fE d i=K at*;obtain⟨HK,gZ⟩:=bU Y bw;clear Y bw mr;cases D with
   |false=>
    have F:=r.o.2.2 rfl;have l:=yh F;clear F;go_wp2;go_roundw;case rel=>exact⟨i+1,K+1,_,false,by go_num,rfl,rfl,by omega,by omega,by omega,trivial,(λh=>by cases h),λ_=>l.o⟩
    case measure=>simp [intOf];omega
   |true=>
    have a:=r.o.2.1 rfl;rw [gZ.o] at a;by_cases N:lo<=K/\K<blocks
    .rw [aG N] at a;have H:A<(K:Int):=(by have:=r.o.1;omega);have Q:(K:Int)<(blocks:Int):=(by omega);have l:=yh a;clear a N;go_wp2;go_roundw;case rel=>exact⟨i+1,K+1,_,true,by go_num,rfl,rfl,by omega,by omega,by omega,trivial,(λ_=>l.o),λh=>by cases h⟩
     case measure=>simp [intOf];omega
    .rw [aB N] at a;have S:(¬A<(K:Int))\/(A<(K:Int)/\¬(K:Int)<(blocks:Int)):=(by have:=r.o.1;omega);have l:=yh a;clear a N;rcases S with H|⟨H,Q⟩;all_goals
      go_wp2;go_roundw;case rel=>exact⟨i+1,K+1,_,false,by go_num,rfl,rfl,by omega,by omega,by omega,trivial,(λh=>by cases h),λ_=>l.o⟩
      case measure=>simp [intOf];omega
  .have cC:¬(i:Int)<(em:Int):=(by omega);obtain rfl:i=em:=(by omega);cases D with
   |false=>
    have l:=yh (r.o.2.2 rfl);clear r;go_wp2;go_ret;exact⟨aa.ah _ p.o.2.1, .inr ⟨l.o,rfl,q.o.1.later p.o.2.1⟩⟩
   |true=>
    have a:=r.o.2.1 rfl;rw [q.o.2.2.2.1 lo] at a;have l:=yh a;obtain⟨ks,ey⟩:=bQ ((List.range i).map (fE d));have oo:ks.length=i:=(by rw [ey];simp);have f:=yh (aH ey oo);clear r a ey oo mr;go_wp2;go_loopw [44] (λz wx=>∃j:Nat,z=iV j/\j<=i/\Ch wx m (CM.bT ms ((nc ks rest).take j))/\aa (λk=>k=m) w1 wx) (λz _=>i-(intOf z).toNat);case atStart=>exact⟨0,rfl,dV _,q.o.1.later p.o.2.1,aa.refl _ _⟩
    case round=>
     obtain⟨j,rfl,hj,nr,eZ⟩:=hrel;have s:=yh (aH nr eZ);clear nr eZ;by_cases tG:j<i
     .have aeS:(j:Int)<(i:Int):=(by omega);have Za:g≠m:=(by omega);have X8:j<ks.length:=(by rw [f.o.2];exact tG);have Yz:=p.o.1.agree (s.o.2.block g p.o.1.lt Za);have q0:wr.cell? (aD g j)=some (iV (ks[j]:Int)):=by
       refine Yz.cell (j:=j) ?_;rw [<-f.o.1];simp [wi,X8]
      obtain⟨J,X⟩:∃J:Nat,J=512*j:=⟨_,rfl⟩;have e1:(j:Int)*512=(J:Int):=(by omega);have e2:((j:Int)+1)*512=((J+512:Nat):Int):=(by omega);have e3:(J:Int)<=((J+512:Nat):Int):=(by omega);have e4:((J+512:Nat):Int)<=(W:Int):=(by have:=p.o.2.2.1;omega);have e5:(0:Int)<=(J:Int):=(by omega);have e6:¬W=J:=(by have:=p.o.2.2.1;omega);have O:((rest.drop J).take 512).length=512:=(by rw [List.length_take,List.length_drop,q.o.2.2.2.2.2.2.1];omega);have E:Bytes ((rest.drop J).take 512):=(q.o.2.2.2.2.2.1.drop _).take 512;have G:Src wr (some ⟨b,o+(2+4*i),none⟩) (512*i) rest:=(q.o.2.1.later p.o.2.1).o9 s.o.2 (λy hy _=>by cases hy;exact P);have fS:=G.sub J 512 (by omega);have M:=MP ks rest j X8;rw [show 512*j=J from X.symm] at M;have aW:=eQ O;generalize (rest.drop J).take 512=C at*;have ph:ks[j] <2048:=by
       have h8:(ks[j],C)∈nc ks rest:=List.mem_of_mem_take (i:=j+1) (by rw [M];exact List.mem_append_right _ (List.mem_singleton.2 rfl));have h9:=q.o.2.2.2.2.2.2.2 _ (by rw [l.o,<-f.o.1]) _ h8;have Zj:ks[j] <blocks:=h9;omega
      obtain⟨T,bD,aeT,BP,Of⟩:=s.o.1.store ks[j] ph C O E;generalize ks[j]=K at*;obtain⟨A,t⟩:=bQ (bs C);have Bd:wr.rangeAt b (o+(2+4*i)+J) A:=(by rw [t];exact nH fS);rw [<-t] at aW;have R9:(Instr.mapUpdate 93 (.map (some m)) (iV (K:Int)) (.agg A.toArray)).run prog wr= .ok () T:=(by rw [t];exact bD);have HU:Yh (Ch T m (CM.bT ms ((nc ks rest).take (j+1)))/\aa (λk=>k=m) w1 T):=⟨by rw [M,OO];exact aeT,s.o.2.trans BP (λ_ h=> .inl h)⟩;have hac:=zQ;clear bD aeT BP Of fS G M O E t X Yz Za X8 s;go_wp2_with (refine wpList_load_mid rfl 101 _ rfl b _ rfl A _ Bd underlying101 rfl aW ?_);go_roundw;case rel=>exact⟨j+1,by go_num,by omega,HU.o⟩
      case measure=>simp [intOf];omega
     .have aeS:¬(j:Int)<(i:Int):=(by omega);obtain rfl:j=i:=(by omega);have U:Yh (Ch wr m (CM.bT ms (nc ks rest))/\aa (λk=>k=m) w wr):=⟨by
       have:=s.o.1;rwa [nz (by rw [uE,f.o.2];omega)] at this,(aa.ah (λk=>k=m) p.o.2.1).trans s.o.2 (λ_ h=> .inl h)⟩
      clear s;go_wp2;go_ret;exact⟨U.o.2, .inl ⟨_,l.o,rfl,by rw [<-f.o.1];exact U.o.1⟩⟩
def OT {m:Nat} (h:Ch w m ms) (a:Option Addr) (n c:Nat) (d:List Int) (i:Src w a n d) (hd:Bytes d) (q:n<=1000000) (PO:n<=c) (pj:c<=9223372036854775807) (l:∀x,a=some x->0<n->x.block≠m) (blocks:Nat) (lA:blocks<=2048):
  Calls prog 111 #[.map (some m), .slice a n c,iV (blocks:Int)] w λe w'=>aa (λk=>k=m) w w'/\((∃cs,gG blocks d=some cs/\e= .returned (.bool true)/\Ch w' m (CM.bT ms cs))\/(gG blocks d=none/\e= .returned (.bool false)/\Ch w' m ms)):=by
 have qR:=i.1;by_cases p:n<2
 .refine(Ig h.lt a n c blocks (If a n c w p)).mono ?_;rintro e w' ⟨rfl,f⟩;exact⟨aa.ah _ f, .inr ⟨uG (.inl (by omega)),rfl,h.later f⟩⟩
 .obtain⟨b,o,rfl⟩:=cX i (by omega);by_cases g:1<=le (d.take 2)/\le (d.take 2)<=16/\n=2+516*le (d.take 2)
  .exact Tb h b o n c (le (d.take 2)) d i hd PO pj (l _ rfl (by omega)) blocks lA rfl g.1 g.2.1 g.2.2
  .refine(Ig h.lt (some (aD b o)) n c blocks (OR b o n c d w i hd (by omega) PO q (by omega))).mono ?_;rintro e w' ⟨rfl,f⟩;refine⟨aa.ah _ f, .inr ⟨uG (.inr ?_),rfl,h.later f⟩⟩;by_cases j:1<=le (d.take 2)/\le (d.take 2)<=16
   .exact .inr (λe=>g ⟨j.1,j.2,by omega⟩)
   .exact .inl j
section
def iH (blocks:Nat):CM->List (List Int)->Option CM
 |ms, []=>some ms
 |ms,r :: rs=>match gG blocks r with
  |none=>none
  |some cs=>iH blocks (CM.bT ms cs) rs
def eu (S:DS) (s:Nat) (y:LY) (ov:CM) (rs:List (List Int)):Int×DS:=
 if rs= [] then (0,S) else if (aE S s y.home ov).1≠0 then aE S s y.home ov else (aE S s y.home ov).2.fl s
def OU {P:Nat->Prop}:∀{cs:CM},(∀x∈ms,P x.1)->(∀x∈cs,P x.1)->∀x∈CM.bT ms cs,P x.1:=by
 intro cs
 induction cs generalizing ms with
 |nil=>intro h _ x a;exact h x a
 |cons q c f=>
  intro d b;have e:CM.bT ms (q :: c)=CM.bT (CM.put ms q.1 q.2) c:=rfl;rw [e];refine f (λx a=>?_) (λx a=>b x (List.mem_cons_of_mem _ a));rcases CM.qY a with rfl|a
  .exact b q (by simp)
  .exact d x a
def Ch.qH {w:World} {m:Nat} (h:Ch w m ms) {cur:Array Value} {t:TypeId} {c:Nat×Nat} (b:w.heap[m]? =some (.cells cur t c)):False:=by
 obtain⟨D,h⟩:=h;obtain⟨e,a,d,_⟩:=h.own;rw [d] at b;cases b
def K8 (w:World) (v:Value) (rs:List (List Int)):Prop:=
 ∃vs,w.ownsRow 0 36 1 v rs.length vs/\∀i (hi:i<rs.length),∃g c,vs[i]? =some (.slice (some (aD g 0)) (rs[i]).length c)/\ay w 5 g c (bs rs[i])
def K8.shape {w:World} (h:K8 w v rs):∃a n c,v= .slice a n c/\n=rs.length/\∀i (e:i<rs.length),∃b g c',a=some (aD b 0)/\w.cell? (aD b i)=some (.slice (some (aD g 0)) (rs[i]).length c')/\ay w 5 g c' (bs rs[i]):=by
 obtain⟨t,j,o⟩:=h;have f:=j;obtain⟨s,⟨rfl,h0⟩|⟨g,d,cur,rfl,r,q,p⟩⟩:=j
 .exact⟨none,0,0,rfl,h0.symm,λi e=>by omega⟩
 .refine⟨_,_,d,rfl,rfl,λi e=>?_⟩;obtain⟨k,c',l,m⟩:=o i e;refine⟨g,k,c',rfl,?_,m⟩;have:=f.cells (g:=g) rfl i _ l;rwa [aN,Nat.zero_add] at this
def K8.aw {w:World} {m:Nat} (h:K8 w v rs) (f:Ch w m ms) (d:aa (λk=>k=m) w w'):K8 w' v rs:=by
 obtain⟨q,j,p⟩:=h;refine⟨q,mG j (λg n=>?_),λi o=>?_⟩
 .obtain⟨cur,a⟩:=bz j n;exact d.block g (aq a) (λe=>f.qH (by rw [<-e];exact a))
 .obtain⟨g,c,l,b⟩:=p i o;refine⟨g,c,l,b.agree (d.block g b.lt (λe=>?_))⟩;obtain⟨cur,a,_⟩:=b;exact f.qH (by rw [<-e];exact a)
section
variable {w:World} {F:Nat->Prop} {p s c q l m:Nat} {S:DS} {y:LY} {busy:Bool}
def Tc (hd:B.ax w F p s S c) (hs:np w q p l m y busy) (hm:Ch w m []) (hq:¬F q) (Um:¬F m) (hy:y.home+y.blocks<=s) (hv:K8 w v rs) (BM:∀r∈rs,Bytes r/\r.length<=1000000) (rJ:rs.length<=1000000) (aU:S.puts.length+3000<=4000000000000):
  Calls prog 56 #[pQ q,v] w λe w'=>(iH y.blocks [] rs=none/\e= .panicked RZ/\B.ax w' F p s S c/\aa (λk=>k=m) w w')\/(∃ov,iH y.blocks [] rs=some ov/\e= .returned (iV (eu S s y ov rs).1)/\B.ax w' (more F w w') p s (eu S s y ov rs).2 c/\aa (λk=>k=m\/F k) w w'/\((eu S s y ov rs).1=0->Ch w' m [])):=by
 obtain⟨a,n,cp,rfl,hn,db⟩:=hv.shape;have Mu:=hd.ok.hi;have t:=yh (aH hd (aH hs (aH hm (aH hv (aH BM rJ)))));obtain⟨R,Q⟩:=bQ (iH y.blocks [] rs);rw [<-Q];clear hd hs hm hv BM db;by_cases k0:n=0
 .have d0:(((n:Nat):Int) == 0)=true:=by rw [k0];rfl
  obtain rfl:rs= []:=List.eq_nil_of_length_eq_zero (by omega);have H:=yh (show R=some [] from Q);clear Q k0 hn;go_in;go_wp2;go_ret;refine .inr ⟨[],H.o,rfl,?_,aa.refl _ _,λ_=>t.o.2.2.1⟩;exact t.o.1.more
 .have d0:(((n:Nat):Int) == 0)=false:=by
   rw [fJ];omega
  have H:=yh (aH Q (aH hn k0));have UL:n<=1000000:=by omega
  clear Q k0 hn rJ;go_in;go_wp2;go_loopw [14] (λiv wr=>∃(i:Nat) (ms:CM),iv=iV i/\i<=n/\Ch wr m ms/\(∀x∈ms,x.1<y.blocks)/\aa (λk=>k=m) w wr/\R=iH y.blocks ms (rs.drop i)) (λiv _=>n-(intOf iv).toNat);case atStart=>exact⟨0, [],rfl,dV _,t.o.2.2.1,(λx X=>by cases X),aa.refl _ _,H.o.1⟩
  case round=>
   obtain⟨i,ms,rfl,hi,nr,Ay,eZ,j⟩:=hrel;have KA:q≠m:=λe=>t.o.2.2.1.qH (by rw [<-e];exact t.o.2.1);have bw:=t.o.2.1.aw eZ (λe=>KA e);have Gv:=t.o.2.2.2.1.aw t.o.2.2.1 eZ;have kv:=t.o.1.aw eZ (λk hF e=>Um (e▸hF));by_cases bq:i<n
   .have cC:(i:Int)<(n:Int):=(by omega);have K6:i<rs.length:=(by rw [<-H.o.2.1];exact bq);obtain⟨a2,n2,cp2,e2,UB,db⟩:=Gv.shape;cases e2;clear UB;obtain⟨b,g,c',rfl,q0,be⟩:=db i K6;have dC:=t.o.2.2.2.2.1 _ (List.getElem_mem K6);have Za:g≠m:=λe=>by
     obtain⟨cur,hc,_⟩:=be;exact nr.qH (by rw [<-e];exact hc)
    have h1:=λ(wx:World) (hb:bW wr wx)=>OT (nr.later hb) (some (aD g 0)) (rs[i]).length c' rs[i] (be.src.later hb) dC.1 dC.2 (by have:=be.le;simpa [bs] using this) (by have:=be.max;unfold maxLen at this;omega) (λx X _=>by cases X;exact Za) y.blocks (by omega);rw [List.drop_eq_getElem_cons K6] at j;have Z:=yh (aH Ay (aH eZ (aH j kv)));generalize rs[i]=r at*;have O:=bw.c7;have cc4:=bw.c4;have HC:=yh (aH O cc4);have tj:=yh (λ(N:gG y.blocks r=none)=>(by rw [Z.o.2.2.1];unfold iH;rw [N]:R=none));have EI:bW wr wr.drew:=ai (bi _ _);have A:=yh (λ(E:World) (PS:aa (λk=>k=m) wr.drew E)=>((Z.o.2.1.trans (aa.ah (λ_=>False) EI) (λ_ h=>h.elim)).trans PS (λ_ h=> .inl h):aa (λk=>k=m) w E));have z:=yh (λ(E:World) (PS:aa (λk=>k=m) wr.drew E)=>(⟨((bw.later EI).aw PS (λe=>KA e)).c7,((bw.later EI).aw PS (λe=>KA e)).c4⟩:E.cell? (aD q 7)=some (.map (some m))/\E.cell? (aD q 4)=some (iV (y.blocks:Int))));clear Ay eZ j kv nr Gv bw db be dC Za;go_wp2_with fail;refine wp_region_held_drew (S:=(λw'=>w'.cell? (aD q 7)=some (.map (some m))/\w'.cell? (aD q 4)=some (iV (y.blocks:Int)))) (by kernel_rfl) (HC.o) (λMK=>?_);refine wpAnyH_take (i:=0) (oi:={dst:=some 18,op:=Op.move (Operand.tmp 0),type:=53,pos:= "store.go:111",after:= #[],guard:=none}) (v:=pQ q) rfl (by kernel_rfl) (by kernel_rfl) (by kernel_rfl) (λ_ _ _ h=>h) (Or.inl ⟨by rfl,?_⟩) (by assumption) ?_
    .intro w vK
     (try dsimp only at vK)
     go_simp
    try simp only [Act.put,List.setIfInBounds_toArray,List.set_cons_zero,List.set_cons_succ]
    refine wpAnyH_take (i:=1) (oi:={dst:=some 19,op:=Op.nilCheck (Operand.tmp 18),type:=0,pos:= "store.go:111",after:= #[{on:=0,ground:=Ground.data}],guard:=none}) (v:=pQ q) rfl (by kernel_rfl) (by kernel_rfl) (by kernel_rfl) (λ_ _ _ h=>h) (Or.inl ⟨by rfl,?_⟩) (by assumption) ?_
    .intro w vK
     (try dsimp only at vK)
     go_simp
    try simp only [Act.put,List.setIfInBounds_toArray,List.set_cons_zero,List.set_cons_succ]
    refine wpAnyH_take (i:=2) (oi:={dst:=some 20,op:=Op.fieldAddr 95 (Operand.tmp 19) 3,type:=0,pos:= "store.go:111",after:= #[{on:=1,ground:=Ground.data}],guard:=none}) (v:= .pointer (some (aD q 7))) rfl (by kernel_rfl) (by kernel_rfl) (by kernel_rfl) (λ_ _ _ h=>h) (Or.inl ⟨by rfl,?_⟩) (by assumption) ?_
    .intro w vK
     (try dsimp only at vK)
     go_simp
    try simp only [Act.put,List.setIfInBounds_toArray,List.set_cons_zero,List.set_cons_succ]
    refine wpAnyH_take (i:=3) (oi:={dst:=some 21,op:=Op.load 93 (Operand.tmp 20),type:=93,pos:= "store.go:111",after:= #[{on:=2,ground:=Ground.data}],guard:=none}) (v:= .map (some m)) rfl (by kernel_rfl) (by kernel_rfl) (by kernel_rfl) (λ_ _ _ h=>h) (Or.inl ⟨by rfl,?_⟩) (by assumption) ?_
    .intro w vK
     (try dsimp only at vK)
     go_simp
    try simp only [Act.put,List.setIfInBounds_toArray,List.set_cons_zero,List.set_cons_succ]
    refine wpAnyH_take (i:=4) (oi:={dst:=some 22,op:=Op.move (Operand.tmp 6),type:=36,pos:= "store.go:111",after:= #[],guard:=none}) (v:= .slice (some (aD g 0)) r.length c') rfl (by kernel_rfl) (by kernel_rfl) (by kernel_rfl) (λ_ _ _ h=>h) (Or.inl ⟨by rfl,?_⟩) (by assumption) ?_
    .intro w vK
     (try dsimp only at vK)
     go_simp
    try simp only [Act.put,List.setIfInBounds_toArray,List.set_cons_zero,List.set_cons_succ]
    refine wpAnyH_take (i:=5) (oi:={dst:=some 23,op:=Op.move (Operand.tmp 0),type:=53,pos:= "store.go:111",after:= #[],guard:=none}) (v:=pQ q) rfl (by kernel_rfl) (by kernel_rfl) (by kernel_rfl) (λ_ _ _ h=>h) (Or.inl ⟨by rfl,?_⟩) (by assumption) ?_
    .intro w vK
     (try dsimp only at vK)
     go_simp
    try simp only [Act.put,List.setIfInBounds_toArray,List.set_cons_zero,List.set_cons_succ]
    refine wpAnyH_take (i:=6) (oi:={dst:=some 24,op:=Op.nilCheck (Operand.tmp 23),type:=0,pos:= "store.go:111",after:= #[{on:=5,ground:=Ground.data}],guard:=none}) (v:=pQ q) rfl (by kernel_rfl) (by kernel_rfl) (by kernel_rfl) (λ_ _ _ h=>h) (Or.inl ⟨by rfl,?_⟩) (by assumption) ?_
    .intro w vK
     (try dsimp only at vK)
     go_simp
    try simp only [Act.put,List.setIfInBounds_toArray,List.set_cons_zero,List.set_cons_succ]
    refine wpAnyH_take (i:=7) (oi:={dst:=some 25,op:=Op.fieldAddr 95 (Operand.tmp 24) 2,type:=0,pos:= "store.go:111",after:= #[{on:=6,ground:=Ground.data}],guard:=none}) (v:= .pointer (some (aD q 2))) rfl (by kernel_rfl) (by kernel_rfl) (by kernel_rfl) (λ_ _ _ h=>h) (Or.inl ⟨by rfl,?_⟩) (by assumption) ?_
    .intro w vK
     (try dsimp only at vK)
     go_simp
    try simp only [Act.put,List.setIfInBounds_toArray,List.set_cons_zero,List.set_cons_succ]
    refine wpAnyH_take (i:=8) (oi:={dst:=some 26,op:=Op.fieldAddr 86 (Operand.tmp 25) 2,type:=0,pos:= "store.go:111",after:= #[{on:=7,ground:=Ground.data}],guard:=none}) (v:= .pointer (some (aD q 4))) rfl (by kernel_rfl) (by kernel_rfl) (by kernel_rfl) (λ_ _ _ h=>h) (Or.inl ⟨by rfl,?_⟩) (by assumption) ?_
    .intro w vK
     (try dsimp only at vK)
     go_simp
    try simp only [Act.put,List.setIfInBounds_toArray,List.set_cons_zero,List.set_cons_succ]
    refine wpAnyH_take (i:=9) (oi:={dst:=some 27,op:=Op.load 3 (Operand.tmp 26),type:=3,pos:= "store.go:111",after:= #[{on:=8,ground:=Ground.data}],guard:=none}) (v:=iV (y.blocks:Int)) rfl (by kernel_rfl) (by kernel_rfl) (by kernel_rfl) (λ_ _ _ h=>h) (Or.inl ⟨by rfl,?_⟩) (by assumption) ?_
    .intro w vK
     (try dsimp only at vK)
     go_simp
    try simp only [Act.put,List.setIfInBounds_toArray,List.set_cons_zero,List.set_cons_succ]
    refine wpAnyH_ready (rs:= [10]) (by kernel_rfl) (by simp) ?_;refine AllReadyH.cons (o:={dst:=some 28,op:=Op.call {callee:=Callee.value (Operand.func 111),args:= #[Operand.tmp 21,Operand.tmp 22,Operand.tmp 27],argTypes:= #[93,36,3]},type:=4,pos:= "store.go:111",after:= #[{on:=3,ground:=Ground.data},{on:=4,ground:=Ground.data},{on:=9,ground:=Ground.data}],guard:=none}) rfl (λK I=>?_) AllReadyH.nil;go_simp;refine(h1 _ (ai (bi _ _))).mono ?_;rintro e E ⟨PS,Ih⟩;rcases Ih.symm with ⟨N,rfl,_⟩|⟨cs,N,rfl,sV⟩
    .refine I.out _ _ (z.o _ PS) (λMK=>?_);clear I K;try simp only [Act.put,List.setIfInBounds_toArray,List.set_cons_zero,List.set_cons_succ]
     refine wpAnyH_ready (rs:= [11]) (by kernel_rfl) (by simp) ?_;refine AllReadyH.cons (o:={dst:=some 29,op:=Op.call {callee:=Callee.value (Operand.func 110),args:= #[Operand.tmp 28],argTypes:= #[4]},type:=0,pos:= "store.go:111",after:= #[{on:=10,ground:=Ground.data},{on:=10,ground:=Ground.chain}],guard:=none}) rfl (λK I=>?_) AllReadyH.nil;go_simp;refine(Wb E).mono ?_;rintro e w9 ⟨rfl,M⟩;have aaQ:=M.symm;subst aaQ;exact⟨rfl, .inl ⟨tj.o N,rfl,t.o.1.aw (A.o _ PS) (λk hF e=>Um (e▸hF)),A.o _ PS⟩⟩
    refine I.out _ _ (z.o _ PS) (λMK=>?_);clear I K;try simp only [Act.put,List.setIfInBounds_toArray,List.set_cons_zero,List.set_cons_succ]
    refine wpAnyH_ready (rs:= [11]) (by kernel_rfl) (by simp) ?_;refine AllReadyH.cons (o:={dst:=some 29,op:=Op.call {callee:=Callee.value (Operand.func 110),args:= #[Operand.tmp 28],argTypes:= #[4]},type:=0,pos:= "store.go:111",after:= #[{on:=10,ground:=Ground.data},{on:=10,ground:=Ground.chain}],guard:=none}) rfl (λK I=>?_) AllReadyH.nil;go_simp;refine(Wa E).mono ?_;rintro e w9 ⟨rfl,M⟩;have aaQ:=M.symm;subst aaQ;refine I.out _ _ (z.o _ PS) (λaaR=>?_);clear I K aaR;try simp only [Act.put,List.setIfInBounds_toArray,List.set_cons_zero,List.set_cons_succ]
    refine wpAnyH_done (by kernel_rfl) ?_ _;have nE:=Ih;clear nE Ih MK;have Y:=yh (aH (A.o _ PS) (aH N sV));clear PS N sV h1 z A tj EI q0;go_wp2;go_roundw;case rel=>exact⟨i+1,CM.bT ms cs,by go_num,by omega,Y.o.2.2,OU (P:=λk=>k<y.blocks) Z.o.1 (oV Y.o.2.1),Y.o.1,by
     have L:=Z.o.2.2.1;unfold iH at L;rw [Y.o.2.1] at L;exact L⟩
    case measure=>exact aeN (S:=n) (i:=i) (k:=i+1) bq (by omega)
   .have cC:¬(i:Int)<(n:Int):=(by omega);rw [List.drop_eq_nil_of_le (by have:=H.o.2.1;omega)] at j;have W:R=some ms:=j;have lC:=nr.small;have L:=rU kv bw nr hq Um (λx X=>by have:=Ay x X;omega) aU;have pC:=eF S s y.home ms;obtain⟨T,hT⟩:=bQ (aE S s y.home ms);have kZ:eu S s y ms rs=if T.1≠0 then T else T.2.fl s:=by
     unfold eu;rw [aB (λe=>by rw [e] at H;have:=H.o.2;simp at this),<-hT]
    rw [<-hT] at L pC;have d:=yh (aH W (aH kZ (aH eZ (aH bw (aH nr kv.lt)))));clear j W hT Ay eZ bw Gv kv nr H kZ;go_wp2_with fail;refine fR L λw2 cI aY=>?_;clear L;obtain⟨dE,ev,Cc,Bc⟩:=cO d.o.2.2.1.size aY.size d.o.2.2.2.2.1.lt d.o.2.2.2.1.lt;by_cases D:T.1=0
    .have d1:(T.1 == 0)=true:=(by rw [D];rfl);have d2:(T.1 != 0)=false:=(by simp [D]);have h3:=B.vz cI (by omega);have lu:=d.o.2.2.2.1.aw aY hq;have cc0:=lu.c0;have kZ:=d.o.2.1;rw [aB (λh=>h D)] at kZ;obtain⟨U,hU⟩:=bQ (T.2.fl s);rw [<-hU] at h3 kZ;have f:=yh (aH kZ (aH aY (aH lu (d.o.2.2.2.2.1.aw aY Um))));clear hU kZ lu cI aY D;go_wp2_with fail;refine fR h3 λw3 C aZ=>?_;clear h3 cc0;have lB:=aZ.size;have B9:¬more F wr w2 m:=λh=>by rcases h with h|h;exact Um h;omega
     have ajZ:¬more F wr w2 q:=λh=>by rcases h with h|h;exact hq h;omega
     have vO:=f.o.2.2.1.aw aZ ajZ;have OV:=f.o.2.2.2.aw aZ B9;have I9:aa (λk=>k=m\/F k) w w3:=((d.o.2.2.1.mono (G:=λk=>k=m\/F k) (λk e=> .inl e)).trans f.o.2.1 (λk h=> .inl (.inr h))).trans aZ (λk h=>by rcases h with h|h;exact .inl (.inr h);exact .inr (by omega));by_cases J:U.1=0
     .have d3:(U.1 != 0)=false:=(by simp [J]);have d4:(U.1 == 0)=true:=(by rw [J];rfl);obtain⟨w4,aqF,Td,dW,ws⟩:=OV.qO;have O:=vO.c7;have u:=yh (aH C (aH I9 (aH Td (aH dW (aH J ws)))));clear C aZ vO OV I9 Td dW J ws;go_wp2;go_ret;refine .inr ⟨ms,d.o.1,by rw [f.o.1,u.o.2.2.2.2.1];rfl,?_,u.o.2.1.trans u.o.2.2.2.1 (λk e=> .inl (.inl e)),λ_=>u.o.2.2.1⟩;rw [f.o.1];have ws:=u.o.2.2.2.2.2;refine(u.o.1.aw u.o.2.2.2.1 (λk h e=>B9 (e▸h))).mono (λk h=>?_) (λk h=>?_)
      .rcases h with h|h
       .exact .inl h
       .exact .inr (by omega)
      .rcases h with h|h
       .have:=d.o.2.2.2.2.2 k h;omega
       .omega
     .have d3:(U.1 != 0)=true:=(by simp [J]);have d4:(U.1 == 0)=false:=(by simpa using J);have u:=yh (aH C (aH I9 J));clear C aZ vO OV I9 J;go_wp2;go_ret;refine .inr ⟨ms,d.o.1,by rw [f.o.1];rfl,?_,u.o.2.1,λh=>absurd (by rw [f.o.1] at h;exact h) u.o.2.2⟩;rw [f.o.1];refine u.o.1.mono (λk h=>?_) (λk h=>?_)
      .rcases h with h|h
       .exact .inl h
       .exact .inr (by omega)
      .rcases h with h|h
       .have:=d.o.2.2.2.2.2 k h;omega
       .omega
    .have d1:(T.1 == 0)=false:=(by simpa using D);have d2:(T.1 != 0)=true:=(by simp [D]);have kZ:=d.o.2.1;rw [aG D] at kZ;have f:=yh (aH kZ (aH aY (aH cI D)));clear kZ cI aY D;go_wp2;go_ret;refine .inr ⟨ms,d.o.1,by rw [f.o.1];rfl,?_,(d.o.2.2.1.mono (G:=λk=>k=m\/F k) (λk e=> .inl e)).trans f.o.2.1 (λk h=> .inl (.inr h)),λh=>absurd (by rw [f.o.1] at h;exact h) f.o.2.2.2⟩;rw [f.o.1];refine f.o.2.2.1.mono (λk h=>?_) (λk h=>?_)
     .rcases h with h|h
      .exact .inl h
      .exact .inr (by omega)
     .rcases h with h|h
      .have:=d.o.2.2.2.2.2 k h;omega
      .omega
end
end
section
def qI {m:Nat} (a:p<l.length):(l.drop p).take (m+1)=l.getD p 0 :: (l.drop (p+1)).take m:=by
 rw [List.drop_eq_getElem_cons a,List.take_succ_cons];simp [List.getD,List.getElem?_eq_getElem a]
def bC (a:Option Addr) (m c:Nat) (l:List Int) (w:World) (s:Src w a m l) (x:Bytes l) (d n:Nat) (D:n<=4) (is:d+n<=m) (C:m<=140737488355328):
  Calls prog 200 #[.slice a m c,iV (d:Int),iV (n:Int)] w λe w'=>e= .returned (iV ((le ((l.drop d).take n):Nat):Int))/\w'=w:=by
 have A:=s.1;have t:=yh s;clear s;go_in;go_wp2;go_loopw [7,8] (λv i wr=>∃j:Nat,j<=n/\i=iV ((j:Int)-1)/\v=iV ((le ((l.drop (d+j)).take (n-j)):Nat):Int)/\wr=w) (λ_ i _=>(intOf i+1).toNat);case atStart=>exact⟨n,bS _,rfl,by simp [le],rfl⟩
 case round=>
  obtain⟨j,z,rfl,rfl,rfl⟩:=hrel;by_cases q:1<=j
  .obtain⟨i,rfl⟩:∃i,j=i+1:=⟨j-1,by omega⟩;have wq:(0:Int)<=((i+1:Nat):Int)-1:=(by omega);have r:=qW (x.drop (d+(i+1))|>.take (n-(i+1))) (k:=3) (by rw [List.length_take];omega);have f:=qI (l:=l) (p:=d+i) (m:=n-(i+1)) (by omega);rw [show n-(i+1)+1=n-i by omega,show d+i+1=d+(i+1) by omega] at f;obtain⟨V,g⟩:=bQ (le ((l.drop (d+(i+1))).take (n-(i+1))));rw [<-g] at r⊢;obtain⟨b,o,rfl⟩:=cX t.o (by omega);have db:wr.cell? ⟨b,o+(d+i),none⟩=some (.int .u8 (l.getD (d+i) 0)):=(by have:=t.o.2.2 _ rfl (d+i) (by omega);rwa [aN] at this);have dC:=x.getD (d+i);have Jl:=yh f;have y:=yh g;obtain⟨X,u⟩:=bQ (l.getD (d+i) 0);rw [<-u] at db dC Jl;have XG:((i+1:Nat):Int)-1=(i:Int):=(by omega);rw [XG] at wq⊢;have aeU:(d:Int)+(i:Int)<(m:Int):=(by omega);clear g f XG u;go_wp2;go_roundw;case rel=>
    refine⟨i,by omega,by go_num,?_,trivial⟩;rw [Jl.o];congr 1;show _=((X.toNat+256*le ((l.drop (d+(i+1))).take (n-(i+1))):Nat):Int);rw [<-y.o];omega
   case measure=>simp [intOf]
  .obtain rfl:j=0:=(by omega);have wq:¬(0:Int)<=((0:Nat):Int)-1:=(by omega);go_wp2;go_ret;exact⟨rfl,rfl⟩
def vP (a:(aX l).2=0) (b:12<=(aX l).1.length):(dj l).e=le (((aX l).1.drop 0).take 4)/\(dj l).p=le (((aX l).1.drop 4).take 4)/\(dj l).i=le (((aX l).1.drop 8).take 2)/\(dj l).c=le (((aX l).1.drop 10).take 2)/\(dj l).d=(aX l).1.drop 12:=by
 unfold dj;rw [aB (by omega)];exact⟨rfl,rfl,rfl,rfl,rfl⟩
def yr (h:(aX l).2≠0\/(aX l).1.length<=12):(dj l).d= []:=by
 unfold dj;split
 .rfl
 .show (aX l).1.drop 12= [];exact List.drop_eq_nil_of_le (by omega)
section
variable {w w':World} {F G:Nat->Prop} {r s k:Nat} {S:DS} {L:LG}
def WS (w w':World) (q:PC) (E P i c:Nat) (v:Value):Prop:=
   (q.ok E P i c/\∃body,Own w' w.heap.size v body/\body.drop 12=q.d/\12<body.length/\body.length<=504)\/(¬q.ok E P i c/\v= .slice none 0 0)
def OW (E P i c:Nat) (h:aC w F r s S) (J:cK w k r L) (dC:Bytes (S.now (L.f+2+P%L.n))) (hs:L.f+2+L.n<=s) (jl:1<=L.n) (aU:S.puts.length+1<=4000000000000) (X:E<=4294967296) (hP:P<=4294967296) (Y:i<=65536) (hc:c<=65536) (A9:1<=c):
  Calls prog 201 #[pQ k,iV (E:Int),iV (P:Int),iV (i:Int),iV (c:Int)] w λe w'=>∃v,e= .returned v/\WS w w' (dj (S.now (L.f+2+P%L.n))) E P i c v/\bW w w':=by
 have Mu:=h.ok.hi;have R:P%L.n<L.n:=Nat.mod_lt _ jl;have mr:=bu h.ok (L.f+2+P%L.n) (by omega);obtain⟨C,G,H,I⟩:=cO (jN (h.later (ai (bi w.heap.size w))) (L.f+2+P%L.n) (by omega) (by omega)) J.c0 J.c2 J.c3;have wN:(P:Int).tmod (L.n:Int)=((P%L.n:Nat):Int):=by rw [Int.tmod_eq_emod_of_nonneg (by omega),<-Int.natCast_emod]
 have Sv:(P:Int)%(L.n:Int)=((P%L.n:Nat):Int):=by rw [<-Int.natCast_emod]
 obtain⟨M,U⟩:=bQ (P%L.n);rw [<-U] at wN Sv R C mr dC⊢;rw [show ((L.f+2+M:Nat):Int)=(L.f:Int)+2+(M:Int) by omega] at C;have yn:IntKind.i64.wrap ((L.f:Int)+2)=(L.f:Int)+2:=by rw [IntKind.wrap_i64];omega
 have aeV:IntKind.i64.wrap ((L.f:Int)+2+(M:Int))=(L.f:Int)+2+(M:Int):=by rw [IntKind.wrap_i64];omega
 have aeW:¬L.n=0:=by omega
 clear U h J;generalize S.now (L.f+2+M)=l at*;have D:=D2 l;have gX:=pX dC;by_cases K:(aX l).2=0
 .go_in;go_wp2_with fail;go_region_held3 (λw'=>w'.cell? (aD k 0)=some (pQ r)/\w'.cell? (aD k 2)=some (iV (L.f:Int))/\w'.cell? (aD k 3)=some (iV (L.n:Int)))
   (first|exact⟨G,H,I⟩)
     ((go_at_call 40;refine C.mono ?_;rintro e w1 ⟨g,N,rfl,Q,be,bL⟩;have jP:=bL.symm;clear bL;subst jP))
  have gu:=be.src;rw [mr] at gu;have m:=qT (some (aD g 0)) 512 N l w.drew gu dC;rw [K] at m;clear C be gu G H I;go_wp2_with fail;refine m.mono ?_;rintro e a ⟨v2,rfl,jw,bd⟩;have eR:=(ai (bi w.heap.size w)).trans bd;obtain⟨b,rK,rfl,bo,_,_⟩:=jw.src;obtain⟨V0,dP⟩:=bU (show Own a w.heap.size _ _ from jw) eR;by_cases W:(aX l).1.length<=12
  .have tj:=yh (show¬(dj l).ok E P i c from λh=>by have:=h.2.2.2.2.1;rw [yr (.inr W)] at this;simp at this);have d2:((aX l).1.length:Int)<=12:=(by omega);clear W;clear m bd eR jw bo;go_wp2;go_ret;exact⟨_,rfl, .inr ⟨tj.o,rfl⟩,dP.o⟩
  .have nx:=vP K (by omega);have d2:¬((aX l).1.length:Int)<=12:=(by omega);have xr:0<(dj l).d.length:=(by rw [nx.2.2.2.2,List.length_drop];omega);have qR:(dj l).d.length+12=(aX l).1.length:=(by rw [nx.2.2.2.2,List.length_drop];omega);by_cases t:(dj l).e=E
   .by_cases u:(dj l).p=P
    .by_cases y:(dj l).i=i
     .by_cases A:(dj l).c=c
      .by_cases O:i+1=c\/(aX l).1.length=504
       .obtain⟨PK,sW⟩:=bU (show (dj l).ok E P i c from ⟨t,u,y,A,xr,λh=>by omega⟩) nx.2.2.2.2;have q:=yh (show 12<(aX l).1.length/\(aX l).1.length<=504 from ⟨by omega,D⟩);by_cases T:i+1=c
        .have z:((i:Int) != (c:Int)-1)=false:=(by rw [bne_eq_false_iff_eq];omega);clear O T;have vQ:=bC b _ rK _ a bo gX 0 4 (by omega) (by omega) (by omega);rw [<-nx.1,t,show (((0:Nat)):Int)=0 from rfl,show (((4:Nat)):Int)=4 from rfl] at vQ;have vm:=bC b _ rK _ a bo gX 4 4 (by omega) (by omega) (by omega);rw [<-nx.2.1,u,show (((4:Nat)):Int)=4 from rfl] at vm;have EJ:=bC b _ rK _ a bo gX 8 2 (by omega) (by omega) (by omega);rw [<-nx.2.2.1,y,show (((8:Nat)):Int)=8 from rfl,show (((2:Nat)):Int)=2 from rfl] at EJ;have K9:=bC b _ rK _ a bo gX 10 2 (by omega) (by omega) (by omega);rw [<-nx.2.2.2.1,A,show (((10:Nat)):Int)=10 from rfl,show (((2:Nat)):Int)=2 from rfl] at K9;clear m bd eR jw bo nx;go_wp2_with (first|(go_at_call 200;refine vQ.mono ?_;rintro e j ⟨rfl,eG⟩;have eW:=eG.symm;clear eG vQ;subst eW)|(go_at_call 200;refine vm.mono ?_;rintro e j ⟨rfl,eG⟩;have eW:=eG.symm;clear eG vm;subst eW)|(go_at_call 200;refine EJ.mono ?_;rintro e j ⟨rfl,eG⟩;have eW:=eG.symm;clear eG EJ;subst eW)|(go_at_call 200;refine K9.mono ?_;rintro e j ⟨rfl,eG⟩;have eW:=eG.symm;clear eG K9;subst eW));go_ret;exact⟨_,rfl, .inl ⟨PK.o,_,V0.o,sW.o.symm,q.o.1,q.o.2⟩,dP.o⟩
        .have z:((i:Int) != (c:Int)-1)=true:=(by rw [gB];omega);have dl:(((aX l).1.length:Int) != 504)=false:=(by rw [bne_eq_false_iff_eq];omega);clear O T;have vQ:=bC b _ rK _ a bo gX 0 4 (by omega) (by omega) (by omega);rw [<-nx.1,t,show (((0:Nat)):Int)=0 from rfl,show (((4:Nat)):Int)=4 from rfl] at vQ;have vm:=bC b _ rK _ a bo gX 4 4 (by omega) (by omega) (by omega);rw [<-nx.2.1,u,show (((4:Nat)):Int)=4 from rfl] at vm;have EJ:=bC b _ rK _ a bo gX 8 2 (by omega) (by omega) (by omega);rw [<-nx.2.2.1,y,show (((8:Nat)):Int)=8 from rfl,show (((2:Nat)):Int)=2 from rfl] at EJ;have K9:=bC b _ rK _ a bo gX 10 2 (by omega) (by omega) (by omega);rw [<-nx.2.2.2.1,A,show (((10:Nat)):Int)=10 from rfl,show (((2:Nat)):Int)=2 from rfl] at K9;clear m bd eR jw bo nx;go_wp2_with (first|(go_at_call 200;refine vQ.mono ?_;rintro e j ⟨rfl,eG⟩;have eW:=eG.symm;clear eG vQ;subst eW)|(go_at_call 200;refine vm.mono ?_;rintro e j ⟨rfl,eG⟩;have eW:=eG.symm;clear eG vm;subst eW)|(go_at_call 200;refine EJ.mono ?_;rintro e j ⟨rfl,eG⟩;have eW:=eG.symm;clear eG EJ;subst eW)|(go_at_call 200;refine K9.mono ?_;rintro e j ⟨rfl,eG⟩;have eW:=eG.symm;clear eG K9;subst eW));go_ret;exact⟨_,rfl, .inl ⟨PK.o,_,V0.o,sW.o.symm,q.o.1,q.o.2⟩,dP.o⟩
       .have tj:=yh (show¬(dj l).ok E P i c from λh=>by have:=h.2.2.2.2.2;omega);have z:((i:Int) != (c:Int)-1)=true:=(by rw [gB];omega);have dl:(((aX l).1.length:Int) != 504)=true:=(by rw [gB];omega);clear O;have vQ:=bC b _ rK _ a bo gX 0 4 (by omega) (by omega) (by omega);rw [<-nx.1,t,show (((0:Nat)):Int)=0 from rfl,show (((4:Nat)):Int)=4 from rfl] at vQ;have vm:=bC b _ rK _ a bo gX 4 4 (by omega) (by omega) (by omega);rw [<-nx.2.1,u,show (((4:Nat)):Int)=4 from rfl] at vm;have EJ:=bC b _ rK _ a bo gX 8 2 (by omega) (by omega) (by omega);rw [<-nx.2.2.1,y,show (((8:Nat)):Int)=8 from rfl,show (((2:Nat)):Int)=2 from rfl] at EJ;have K9:=bC b _ rK _ a bo gX 10 2 (by omega) (by omega) (by omega);rw [<-nx.2.2.2.1,A,show (((10:Nat)):Int)=10 from rfl,show (((2:Nat)):Int)=2 from rfl] at K9;clear m bd eR jw bo nx;go_wp2_with (first|(go_at_call 200;refine vQ.mono ?_;rintro e j ⟨rfl,eG⟩;have eW:=eG.symm;clear eG vQ;subst eW)|(go_at_call 200;refine vm.mono ?_;rintro e j ⟨rfl,eG⟩;have eW:=eG.symm;clear eG vm;subst eW)|(go_at_call 200;refine EJ.mono ?_;rintro e j ⟨rfl,eG⟩;have eW:=eG.symm;clear eG EJ;subst eW)|(go_at_call 200;refine K9.mono ?_;rintro e j ⟨rfl,eG⟩;have eW:=eG.symm;clear eG K9;subst eW));go_ret;exact⟨_,rfl, .inr ⟨tj.o,rfl⟩,dP.o⟩
      .have tj:=yh (show¬(dj l).ok E P i c from λh=>A h.2.2.2.1);have x:(((dj l).c:Int) != (c:Int))=true:=(by rw [gB];omega);have z:((dj l).c == c)=false:=(by rw [fJ];exact A);have vQ:=bC b _ rK _ a bo gX 0 4 (by omega) (by omega) (by omega);rw [<-nx.1,t,show (((0:Nat)):Int)=0 from rfl,show (((4:Nat)):Int)=4 from rfl] at vQ;have vm:=bC b _ rK _ a bo gX 4 4 (by omega) (by omega) (by omega);rw [<-nx.2.1,u,show (((4:Nat)):Int)=4 from rfl] at vm;have EJ:=bC b _ rK _ a bo gX 8 2 (by omega) (by omega) (by omega);rw [<-nx.2.2.1,y,show (((8:Nat)):Int)=8 from rfl,show (((2:Nat)):Int)=2 from rfl] at EJ;have K9:=bC b _ rK _ a bo gX 10 2 (by omega) (by omega) (by omega);rw [<-nx.2.2.2.1,show (((10:Nat)):Int)=10 from rfl,show (((2:Nat)):Int)=2 from rfl] at K9;clear m bd eR jw bo nx;go_wp2_with (first|(go_at_call 200;refine vQ.mono ?_;rintro e j ⟨rfl,eG⟩;have eW:=eG.symm;clear eG vQ;subst eW)|(go_at_call 200;refine vm.mono ?_;rintro e j ⟨rfl,eG⟩;have eW:=eG.symm;clear eG vm;subst eW)|(go_at_call 200;refine EJ.mono ?_;rintro e j ⟨rfl,eG⟩;have eW:=eG.symm;clear eG EJ;subst eW)|(go_at_call 200;refine K9.mono ?_;rintro e j ⟨rfl,eG⟩;have eW:=eG.symm;clear eG K9;subst eW));go_ret;exact⟨_,rfl, .inr ⟨tj.o,rfl⟩,dP.o⟩
     .have tj:=yh (show¬(dj l).ok E P i c from λh=>y h.2.2.1);have x:(((dj l).i:Int) != (i:Int))=true:=(by rw [gB];omega);have z:((dj l).i == i)=false:=(by rw [fJ];exact y);have vQ:=bC b _ rK _ a bo gX 0 4 (by omega) (by omega) (by omega);rw [<-nx.1,t,show (((0:Nat)):Int)=0 from rfl,show (((4:Nat)):Int)=4 from rfl] at vQ;have vm:=bC b _ rK _ a bo gX 4 4 (by omega) (by omega) (by omega);rw [<-nx.2.1,u,show (((4:Nat)):Int)=4 from rfl] at vm;have EJ:=bC b _ rK _ a bo gX 8 2 (by omega) (by omega) (by omega);rw [<-nx.2.2.1,show (((8:Nat)):Int)=8 from rfl,show (((2:Nat)):Int)=2 from rfl] at EJ;clear m bd eR jw bo nx;go_wp2_with (first|(go_at_call 200;refine vQ.mono ?_;rintro e j ⟨rfl,eG⟩;have eW:=eG.symm;clear eG vQ;subst eW)|(go_at_call 200;refine vm.mono ?_;rintro e j ⟨rfl,eG⟩;have eW:=eG.symm;clear eG vm;subst eW)|(go_at_call 200;refine EJ.mono ?_;rintro e j ⟨rfl,eG⟩;have eW:=eG.symm;clear eG EJ;subst eW));go_ret;exact⟨_,rfl, .inr ⟨tj.o,rfl⟩,dP.o⟩
    .have tj:=yh (show¬(dj l).ok E P i c from λh=>u h.2.1);have x:(((dj l).p:Int) != (P:Int))=true:=(by rw [gB];omega);have z:((dj l).p == P)=false:=(by rw [fJ];exact u);have vQ:=bC b _ rK _ a bo gX 0 4 (by omega) (by omega) (by omega);rw [<-nx.1,t,show (((0:Nat)):Int)=0 from rfl,show (((4:Nat)):Int)=4 from rfl] at vQ;have vm:=bC b _ rK _ a bo gX 4 4 (by omega) (by omega) (by omega);rw [<-nx.2.1,show (((4:Nat)):Int)=4 from rfl] at vm;clear m bd eR jw bo nx;go_wp2_with (first|(go_at_call 200;refine vQ.mono ?_;rintro e j ⟨rfl,eG⟩;have eW:=eG.symm;clear eG vQ;subst eW)|(go_at_call 200;refine vm.mono ?_;rintro e j ⟨rfl,eG⟩;have eW:=eG.symm;clear eG vm;subst eW));go_ret;exact⟨_,rfl, .inr ⟨tj.o,rfl⟩,dP.o⟩
   .have tj:=yh (show¬(dj l).ok E P i c from λh=>t h.1);have x:(((dj l).e:Int) != (E:Int))=true:=(by rw [gB];omega);have z:((dj l).e == E)=false:=(by rw [fJ];exact t);have vQ:=bC b _ rK _ a bo gX 0 4 (by omega) (by omega) (by omega);rw [<-nx.1,show (((0:Nat)):Int)=0 from rfl,show (((4:Nat)):Int)=4 from rfl] at vQ;clear m bd eR jw bo nx;go_wp2_with (first|(go_at_call 200;refine vQ.mono ?_;rintro e j ⟨rfl,eG⟩;have eW:=eG.symm;clear eG vQ;subst eW));go_ret;exact⟨_,rfl, .inr ⟨tj.o,rfl⟩,dP.o⟩
 .have tj:=yh (show¬(dj l).ok E P i c from λh=>by have:=h.2.2.2.2.1;rw [yr (.inl K)] at this;simp at this);have Z:(((aX l).2:Int) != 0)=true:=by rw [gB];omega
  clear K;go_in;go_wp2_with fail;go_region_held3 (λw'=>w'.cell? (aD k 0)=some (pQ r)/\w'.cell? (aD k 2)=some (iV (L.f:Int))/\w'.cell? (aD k 3)=some (iV (L.n:Int)))
   (first|exact⟨G,H,I⟩)
     ((go_at_call 40;refine C.mono ?_;rintro e w1 ⟨g,N,rfl,Q,be,bL⟩;have jP:=bL.symm;clear bL;subst jP))
  have gu:=be.src;rw [mr] at gu;have m:=qT (some (aD g 0)) 512 N l w.drew gu dC;clear C be gu G H I;go_wp2_with fail;refine m.mono ?_;rintro e a ⟨v2,rfl,jw,bd⟩;have eR:=(ai (bi w.heap.size w)).trans bd;obtain⟨b,rK,rfl,bo,_,_⟩:=jw.src;obtain⟨V0,dP⟩:=bU (show Own a w.heap.size _ _ from jw) eR;clear m bd eR jw bo;go_wp2;go_ret;exact⟨_,rfl, .inr ⟨tj.o,rfl⟩,dP.o⟩
end
end
def Ii (a:Option Addr) (m c:Nat) (l:List Int) (w:World) (s:Src w a m l) (x:Bytes l) (d n:Nat) (D:n<=4) (is:d+n<=m) (C:m<=140737488355328):
  Calls prog 167 #[.slice a m c,iV (d:Int),iV (n:Int)] w λe w'=>e= .returned (iV ((le ((l.drop d).take n):Nat):Int))/\w'=w:=by
 have A:=s.1;have t:=s;clear s;go_in;go_wp2;go_loopw [7,8] (λv i wr=>∃j:Nat,j<=n/\i=iV ((j:Int)-1)/\v=iV ((le ((l.drop (d+j)).take (n-j)):Nat):Int)/\wr=w) (λ_ i _=>(intOf i+1).toNat);case atStart=>exact⟨n,bS _,rfl,by simp [le],rfl⟩
 case round=>
  obtain⟨j,z,rfl,rfl,rfl⟩:=hrel;by_cases q:1<=j
  .obtain⟨i,rfl⟩:∃i,j=i+1:=⟨j-1,by omega⟩;have wq:(0:Int)<=((i+1:Nat):Int)-1:=(by omega);have r:=qW (x.drop (d+(i+1))|>.take (n-(i+1))) (k:=3) (by rw [List.length_take];omega);have f:=qI (l:=l) (p:=d+i) (m:=n-(i+1)) (by omega);rw [show n-(i+1)+1=n-i by omega,show d+i+1=d+(i+1) by omega] at f;obtain⟨V,g⟩:=bQ (le ((l.drop (d+(i+1))).take (n-(i+1))));rw [<-g] at r⊢;obtain⟨b,o,rfl⟩:=cX t (by omega);have db:wr.cell? ⟨b,o+(d+i),none⟩=some (.int .u8 (l.getD (d+i) 0)):=(by have:=t.2.2 _ rfl (d+i) (by omega);rwa [aN] at this);have dC:=x.getD (d+i);have Jl:=f;have y:=g;obtain⟨X,u⟩:=bQ (l.getD (d+i) 0);rw [<-u] at db dC Jl;have XG:((i+1:Nat):Int)-1=(i:Int):=(by omega);rw [XG] at wq⊢;have aeU:(d:Int)+(i:Int)<(m:Int):=(by omega);clear g f XG u;go_wp2;go_roundw;case rel=>
    refine⟨i,by omega,by go_num,?_,trivial⟩;rw [Jl];congr 1;show _=((X.toNat+256*le ((l.drop (d+(i+1))).take (n-(i+1))):Nat):Int);rw [<-y];omega
   case measure=>simp [intOf]
  .obtain rfl:j=0:=(by omega);have wq:¬(0:Int)<=((0:Nat):Int)-1:=(by omega);go_wp2;go_ret;exact⟨rfl,rfl⟩
def aaS (w w':World) (o:Option CM) (e:Ending):Prop:=
   (o=none/\e= .returned (.tuple #[.slice none 0 0, .bool false]))\/∃cs v,o=some cs/\e= .returned (.tuple #[v, .bool true])/\Pn w' (λj=>w.heap.size<=j) w.heap.size v cs
def Te {m:Nat} (h:n+m<=l.length):((l.drop n).take m).length=m:=by rw [List.length_take,List.length_drop];omega
def Ij (a:Option Addr) (n f:Nat) (d:List Int) (w:World) (m:Src w a n d) (xI:Bytes d) (R:n<=1000000) (PO:n<=f) (PF:f<=9223372036854775807) (blocks:Nat) (J:blocks<=2048):
  Calls prog 123 #[.slice a n f,iV (blocks:Int)] w λe w'=>aaS w w' (gG blocks d) e/\bW w w':=by
 have Q:=m.1;by_cases T:n<2
 .have F:(n:Int)<2:=by omega
  clear m;go_in;go_wp2;go_ret2;exact⟨.inl ⟨(yh (uG (blocks:=blocks) (d:=d) (.inl (by omega)))).out,rfl⟩,bi _ _⟩
 .have F:¬(n:Int)<2:=by omega
  obtain⟨t,u,rfl⟩:=cX m (by omega);have Dg:=Ii (some (aD t u)) n f d w m xI 0 2 (by omega) (by omega) (by omega);rw [List.drop_zero] at Dg;have rY:=qW (xI.take 2) (k:=2) (by rw [List.length_take];omega);obtain⟨C,p⟩:=bQ (le (d.take 2));rw [<-p] at Dg rY;by_cases r:1<=C/\C<=16/\n=2+516*C
  .obtain⟨r,q2,U⟩:=r;have p1:¬(C:Int)<1:=(by omega);have p2:¬(16:Int)<(C:Int):=(by omega);have p3:((n:Int) != 2+516*(C:Int))=false:=(by rw [bne_eq_false_iff_eq];omega);have D:=Aw (blocks:=blocks) (d:=d) (by omega) ⟨by omega,by omega⟩;rw [<-p] at D;obtain⟨x,N,Z⟩:=kI D m p;have qR:d.length=2+516*C:=(by omega);have l:=yh qR;have O:2+516*C<=f:=(by omega);subst U;clear m D p Q qR T R;go_in;go_wp2_with fail;refine bN Dg λw1 bL=>?_;subst bL
   rename World=>w
   clear Dg;go_wp2;go_loopw [7,8,9] (λv S i wr=>∃(j lo:Nat) (ks:List Nat),j<=C/\i=iV (j:Int)/\S=iV ((lo:Int)-1)/\lo<=blocks/\ks.length=j/\gG blocks d=lr blocks d C ks lo j/\Pn wr (λj=>w.heap.size<=j) w.heap.size v (nc ks (d.drop (2+4*C)))/\bW w wr) (λ_ _ i _=>C-(intOf i).toNat);case atStart=>exact⟨0,0, [],dV _,rfl,by simp,dV _,rfl,x.o,Pn.nil _ _ _,bi _ _⟩
   case round=>
    obtain⟨j,lo,ks,hj,rfl,rfl,mn,ey,vB,nE,ew⟩:=hrel;obtain⟨Aj,Jp,mm,kZ⟩:=cO ew.size (yh nE) (yh ew) (N.o.later ew);have Ji:=yh kZ;by_cases W:j<C
    .have G:(j:Int)<(C:Int):=(by omega);have fB:=Ii (some (aD t u)) (2+516*C) f d wr kZ xI (2+4*j) 4 (by omega) (by omega) (by omega);rw [show ((2+4*j:Nat):Int)=2+4*(j:Int) by omega] at fB;rw [wX W l.o] at vB;have Bj:=qW ((xI.drop (2+4*j)).take 4) (k:=4) (by rw [List.length_take,List.length_drop];omega);generalize le ((d.drop (2+4*j)).take 4)=K at fB vB Bj;clear nE ew kZ;by_cases H:lo<=K/\K<blocks
     .rw [aG H] at vB;have k1:¬(K:Int)<=(lo:Int)-1:=(by omega);have q:Src wr (some ⟨t,u+(2+4*C+512*j),none⟩) 512 ((d.drop (2+4*C+512*j)).take 512):=kM Ji.o (by omega);have An:((d.drop (2+4*C+512*j)).take 512).length=512:=Te (by rw [l.o];omega);have QQ:Bytes ((d.drop (2+4*C+512*j)).take 512):=(xI.drop _).take _;have ZS:=Df K ks (d.drop (2+4*C));rw [List.drop_drop,ey] at ZS;have b1:(0:Int)<=2+4*(C:Int)+512*(j:Int):=(by omega);have b2:2+4*(C:Int)+512*(j:Int)+512<=(f:Int):=(by omega);obtain⟨y,A,Wd⟩:=kI (lT (some ⟨t,u+(2+4*C+512*j),none⟩) 512 (f-(2+4*C+512*j)) _ wr (by omega) q) ZS vB;clear q ZS vB;go_wp2_with fail;refine bN fB λX dD=>?_;subst dD;clear fB;go_wp2_with fail;refine y.o.mono ?_;rintro e Y ⟨L,rfl,Fp,A8,bF⟩;have lB:=bF.size;obtain⟨g2,cq,w4,bD,WT,dW⟩:=(Jp.o.later bF).aem (b:=K) (g:=L) (c:=512) (by omega:w.heap.size<=L) A8 ⟨An,QQ⟩ (by rw [uE];omega) (by omega);rw [uE,ey] at bD WT;rw [<-A.o] at WT;have fw:=(mm.o.trans (bF.mono Aj)).trans (dW.below (λi P=>Jp.o.lo i P) (by omega));obtain⟨M,nN⟩:=bU (aH WT fw) bD;clear Fp A8 bF bD WT dW fw;go_wp2_with (at_builtin;refine br rfl _ _ 127 rfl u7 (.slice (some (aD Y.heap.size 0)) 1 1) _ rfl rfl nN.o ?_);go_roundw;case rel=>exact⟨j+1,K+1,ks ++ [K],by omega,by go_num,by congr 1;omega,by omega,by simp [ey],Wd.o,M.o⟩
      case measure=>simp [intOf];omega
     .rw [aB H] at vB;have Wd:=yh vB;have E:(K:Int)<=(lo:Int)-1\/(¬(K:Int)<=(lo:Int)-1/\(blocks:Int)<=(K:Int)):=by
       by_cases z:(K:Int)<=(lo:Int)-1
       .exact .inl z
       .exact .inr ⟨z,by omega⟩
      clear H vB;rcases E with z|⟨z,s⟩;all_goals
       go_wp2_with fail;refine bN fB λX dD=>?_;subst dD;clear fB;go_wp2;go_ret2;exact⟨.inl ⟨Wd.o,rfl⟩,mm.o⟩
    .have G:¬(j:Int)<(C:Int):=(by omega);obtain rfl:j=C:=(by omega);rw [Ax ey l.o] at vB;have Wd:=yh vB;clear vB nE ew kZ;go_wp2;go_ret2;exact⟨.inr ⟨_,_,Wd.o,rfl,Jp.o⟩,mm.o⟩
  .have x:=yh (uG (blocks:=blocks) (d:=d) (.inr (by
    by_cases z:1<=le (d.take 2)/\le (d.take 2)<=16
    .exact .inr (λe=>r ⟨by omega,by omega,by omega⟩)
    .exact .inl z)))
   have E:(C:Int)<1\/(¬(C:Int)<1/\(16:Int)<(C:Int))\/(¬(C:Int)<1/\¬(16:Int)<(C:Int)/\((n:Int) != 2+516*(C:Int))=true):=by
    by_cases I:(C:Int)<1
    .exact .inl I
    .by_cases s:(16:Int)<(C:Int)
     .exact .inr (.inl ⟨I,s⟩)
     .exact .inr (.inr ⟨I,s,by rw [gB];intro e;exact r ⟨by omega,by omega,by omega⟩⟩)
   clear p r m;rcases E with z|⟨z,s⟩|⟨z,s,z3⟩;all_goals
    go_in;go_wp2_with fail;refine bN Dg λw1 bL=>?_;subst bL;clear Dg;go_wp2;go_ret2;exact⟨.inl ⟨x.o,rfl⟩,bi _ _⟩
namespace B
def Tf {D:Nat} (h:ax w F p s S D) (dC:S.fL) (f n:Nat) (X:f+2+n<=s) (jl:1<=n) (hn:n<=256) (W:S.fuse≠0) (aU:S.puts.length+1<=4000000000000):
  Calls prog 154 #[kJ p f n] w λe w'=>∃v,e= .returned (.tuple #[v,iV 0])/\Mn w.heap.size w' n (λi=>dj (S.now (f+2+i))) v/\ax w' F p s S (D+n)/\aa F w w':=by
 obtain⟨i0,L,gC,dE,ev⟩:=info_parts Kb;have hs:=h.ok.hi;have x:=yh h.lt;have u:=yh (h.boxed (.cells #[.pointer (some ⟨p,0,none⟩), .int .i64 f, .int .i64 n] 144));have t:=yh dC;clear h dC;go_in;go_wp2_with (at_make;refine wpList_make_full _ rfl _ _ 187 rfl (w.heap.size+1) 230 i0 _ 5 underlying187 L gC dE _ _ _ _ n rfl rfl ?c1 ?c2 ?c3 ?c4 ?c5 ?_);case c1=>rfl
 case c2=>rfl
 case c3=>rw [ev];omega
 case c4=>unfold maxLen;omega
 case c5=>simp
 intro w1 aA aR;have ar:Below (w.heap.size+1) (w.alloc (.cells #[.pointer (some ⟨p,0,none⟩), .int .i64 f, .int .i64 n] 144)) w1:=(bi _ _).grown aR (by simp) (by intro k M;cases M);obtain⟨_,⟨J,_⟩|⟨g',T,cur,J,uU,H,_,_,ou,_⟩⟩:=aA
 .cases J
 cases J;have dH:=(ar.block _ (by omega)).trans (heap_alloc_new _ _);have cQ:=yh ((yh (aJ w (.cells #[.pointer (some ⟨p,0,none⟩), .int .i64 f, .int .i64 n] 144))).out.trans (ar.mono (by omega)));have bq:=aq H;have Ex:Yh (ii w1 w1.heap.size (w.heap.size+1) n 0 (λi=>dj (S.now (f+2+i)))):=⟨⟨cur,H,ou⟩,λi L=>by omega⟩;obtain⟨RV,P⟩:=bU (u.o.later (by show Below _ _ _;rw [World.size_alloc];exact ar)) dH;have l:Yh (¬F w.heap.size/\¬F (w.heap.size+1)):=⟨λh=>by have:=x.o _ h;omega,λh=>by have:=x.o _ h;omega⟩;obtain⟨R,G⟩:∃R,R=(λi=>dj (S.now (f+2+i))):=⟨_,rfl⟩;rw [<-G] at Ex;have xJ:=yh G;clear aR ar dH H uU ou G;go_wp2;go_loopw [13] (λi wr=>∃k:Nat,k<=n/\i=iV k/\ii wr w1.heap.size (w.heap.size+1) n k R/\ax wr F p s S (D+k)/\aa (λj=>F j\/j=w.heap.size+1) w1 wr) (λi _=>n-(intOf i).toNat);case atStart=>exact⟨0,dV _,rfl,Ex.o,RV.o,aa.refl _ _⟩
 case round=>
  obtain⟨k,M,rfl,MQ,hd,eZ⟩:=hrel;by_cases q:k<n
  .have q':(k:Int)<(n:Int):=(by omega);have dH:=eE P.o eZ (λh=>by rcases h with h|h;exact l.o.1 h;omega);have K:=aM dH;have c1:=bG dH;have c2:=bK dH;have E:=λwx=>L8 p f n k wx (by omega) (by omega) (by omega) (by omega) (by omega);rw [show (f:Int)+2+(k:Int)%(n:Int)=((f+2+k:Nat):Int) by rw [Int.emod_eq_of_lt (by omega) (by omega)];omega] at E;obtain⟨H1,z,sW,C1,b⟩:=U3 E MQ hd eZ dH;clear E MQ hd eZ dH;go_wp2_with fail;go_region_held3 (λw'=>w'.cell? (aD w.heap.size 0)=some (pQ p)/\w'.cell? (aD w.heap.size 1)=some (iV (f:Int))/\w'.cell? (aD w.heap.size 2)=some (iV (n:Int)))
    (first|exact⟨K,c1,c2⟩|exact⟨aM ml,bG ml,bK ml⟩|exact⟨aM tP,bG tP,bK tP⟩)
    (first
     |(go_at_call 191;refine(H1.o _).mono ?_;rintro e w2 ⟨rfl,bd⟩;have bF:=(ai (bi wr.heap.size wr)).trans bd;have ml:=(bF.block _ (aq b.o)).trans b.o;have cI:=sW.o.later bF)
     |(go_at_call 39;refine(zO cI (f+2+k) (by omega) aU W).mono ?_;rintro e w3 ⟨v,rfl,Y,g,aZ⟩;have tP:=eE ml aZ l.o.1))
   obtain⟨Q,U,rfl,zS,Z1⟩:=Y;have dW:=(C1.o.trans (aa.ah (λ_=>False) bF) (λ_ h=>h.elim)).trans aZ (λ_ h=> .inl (.inl h));have Tg:=((z.o.aw (aa.ah (λ_=>False) bF) (λh=>h) (λ_ h=>h.elim)).aw aZ l.o.2 (λj a=>by have:=x.o j a;omega));have I:=Gq Q _ U (S.now (f+2+k)) w3 zS (t.o.now _);rw [show dj (S.now (f+2+k))=R k by rw [xJ.o]] at I;obtain⟨Jn,VA,Mk⟩:=kI Tg g dW;clear bd bF ml tP cI g aZ dW Tg zS Z1 K c1 c2;go_wp2_with fail;refine I.mono ?_;rintro e N ⟨m,r,rfl,Ep,aeX,fw⟩;have wR:=Jn.o.aw (aa.ah (λ_=>False) fw) (λh=>h) (λ_ h=>h.elim);have ws:=Mk.o.size;have eh:N.there (w.heap.size+1) (k*5) (eO ((R k).e:Int) ((R k).p:Int) ((R k).i:Int) ((R k).c:Int) m (R k).d.length r).size:=λj a=>by
    obtain⟨v,e⟩:=wR.spot q j a;exact⟨by rw [e];rfl,wR.fz _⟩
   have A:=yh eh;have gu:=wR.snoc q (by omega) m r Ep (λy Z=>by have:=aeX y Z;omega);have ey:=tX N (w.heap.size+1) (k*5) (iV ((R k).e:Int)) (iV ((R k).p:Int)) (iV ((R k).i:Int)) (iV ((R k).c:Int)) (.slice m (R k).d.length r);have dX:=(Mk.o.trans (aa.ah (λ_=>False) fw) (λ_ h=>h.elim)).trans ey (λ_ h=> .inl (.inr h));have jH:=(VA.o.later fw).aw ey (λj a e=>l.o.2 (e▸a));have O:=yh (aH gu (aH jH dX));have Uo:(0:Int)<=(k:Int):=(by omega);clear wR gu ey dX jH Ep aeX fw I eh;go_wp2_with (refine wpList_store_mid rfl 230 _ _ rfl (w.heap.size+1) (k*5) (eO ((R k).e:Int) ((R k).p:Int) ((R k).i:Int) ((R k).c:Int) m (R k).d.length r) rfl rfl ?s1 ?s2 ?s3 ?_);case s1=>exact A.o
   case s2=>exact kn
   case s3=>simp [Value.oneCell']
   go_roundw;case rel=>exact⟨k+1,by omega,by go_num,O.o⟩
   case measure=>simp [intOf];omega
  .have q':¬(k:Int)<(n:Int):=(by omega);obtain rfl:k=n:=(by omega);have C:=yh (aH MQ (aH hd eZ));clear MQ hd eZ;go_wp2;go_ret2;refine⟨_,rfl,⟨w.heap.size+1,w1.heap.size,rfl,by omega,by omega,xJ.o▸C.o.1⟩,C.o.2.1,?_⟩;exact(aa.ah F cQ.o).trans C.o.2.2 (λj a=>by
    rcases a with a|a
    .exact .inl a
    .exact .inr (by omega))
end B
section
namespace B
section
variable {w:World} {F:Nat->Prop} {p s l cR:Nat} {S:DS} {L:LG}
def aaT (h:ax w F p s S cR) (dC:S.fL) (f n:Nat) (a:f+2+n<=s) (jl:1<=n) (c:n<=256) (b:S.fuse≠0) (aU:S.puts.length+1<=4000000000000):
  Calls prog 154 #[kJ p f n] w λe w'=>∃v,e= .returned (.tuple #[v, .int .i64 0])/\Mn w.heap.size w' n (dZ S f) v/\ax w' F p s S (cR+n)/\aa F w w':=Tf h dC f n a jl c b aU
def La (h:ax w F p s S cR) (m:cW w l p L) (c:¬F l) (dC:S.fL) (X:L.f+2+L.n<=s) (jl:1<=L.n) (q:L.n<=256) (O:S.fuse≠0) (aU:S.puts.length+1<=4000000000000):
  Calls prog 109 #[.pointer (some ⟨l,0,none⟩)] w λe w'=>p9 w' w.heap.size l p L S e/\ax w' F p s S (cR+2+L.n)/\aa (λk=>F k\/k=l) w w':=by
 obtain⟨o,bq,C,D,E,OI⟩:=jF (V9 h L.f L.n aU O (by omega) (dC.now _) (dC.now _)) m.lt m.c0 m.c1 m.c2 ((λi=>km (dC.now (L.f+2+i))));have N:=λw1 (iN:ax w1 F p s S (cR+2))=>aaT iN dC L.f L.n X jl q O aU;unfold p9;change Calls _ _ _ _ (λe w'=>e= .returned (.tuple #[.int .i64 ((b9 S L.f).1:Int), .int .i64 ((b9 S L.f).2.1:Int), .int .i64 ((b9 S L.f).2.2:Int)])/\ax w' F p s S (cR+2)/\aa F w w') at o;by_cases t:(b9 S L.f).2.2=0
 .rw [t] at o;have P:=(x8 (S:=S) (f:=L.f)) t;simp only [aB (λh:¬(b9 S L.f).2.2=0=>h t)];by_cases u:ir S L.f L.n=1073741824
  .simp only [aG u];have R:(max ((b9 S L.f).1:Int) (gO (dZ S L.f) L.n:Int) == 1073741824)=true:=(by unfold ir at u;rw [beq_iff_eq];omega);go_in;go_wp2_with fail;refine fR o λw1 iN ff=>?_;have cu:=m.aw ff c;obtain⟨C,D,E⟩:=kH cu.c0 cu.c1 cu.c2;go_wp2_with fail;refine(N w1 iN).mono ?_;rintro e w2 ⟨v,rfl,⟨g,B,rfl,W,z,r⟩,cI,aY⟩;go_wp2_with fail;refine(Mo r q).mono ?_;rintro e a ⟨rfl,bF⟩;have ip:=(cu.aw aY c).later bF;obtain⟨c5,H,I,Q,J,K,M,T⟩:=xq ip.c5 ip.c6 ip.c7 ip.c8 (ip.fz 5) (ip.fz 6) (ip.fz 7) (ip.fz 8);have aZ:aa (λk=>F k\/k=l) w (a.setCell ⟨l,8,none⟩ (.int .i64 (max ((b9 S L.f).1:Int) (gO (dZ S L.f) L.n:Int)))):=(((ff.trans aY (λ_ h=> .inl h)).trans (aa.ah (λ_=>False) bF) (λ_ h=>h.elim)).mono (λ_ h=> .inl h)).trans (aL (F:=λk=>F k\/k=l) a (.inr rfl) 8 _) (λ_ h=> .inl h);have d:ax (a.setCell ⟨l,8,none⟩ (.int .i64 (max ((b9 S L.f).1:Int) (gO (dZ S L.f) L.n:Int)))) F p s S (cR+2+L.n):=(cI.later bF).aw (aL (F:=λk=>k=l) a rfl 8 _) (λk j e=>c (e▸j));go_wp2_with fail;go_ret2;exact⟨rfl,aH d aZ⟩
  .simp only [aB u];have R:(max ((b9 S L.f).1:Int) (gO (dZ S L.f) L.n:Int) == 1073741824)=false:=(by unfold ir at u;rw [fJ];omega);go_in;go_wp2_with fail;refine fR o λw1 iN ff=>?_;have cu:=m.aw ff c;obtain⟨C,D,E⟩:=kH cu.c0 cu.c1 cu.c2;go_wp2_with fail;refine(N w1 iN).mono ?_;rintro e w2 ⟨v,rfl,⟨g,B,rfl,W,z,r⟩,cI,aY⟩;go_wp2_with fail;refine(Mo r q).mono ?_;rintro e a ⟨rfl,bF⟩;have ip:=(cu.aw aY c).later bF;obtain⟨H,I,Q,J,K,M,T⟩:=nA ip.c6 ip.c7 ip.c8 (ip.fz 5) (ip.fz 6) (ip.fz 7) (ip.fz 8);have aZ:aa (λk=>F k\/k=l) w (a.setCell ⟨l,8,none⟩ (.int .i64 (max ((b9 S L.f).1:Int) (gO (dZ S L.f) L.n:Int)))):=(((ff.trans aY (λ_ h=> .inl h)).trans (aa.ah (λ_=>False) bF) (λ_ h=>h.elim)).mono (λ_ h=> .inl h)).trans (aL (F:=λk=>F k\/k=l) a (.inr rfl) 8 _) (λ_ h=> .inl h);have d:ax (a.setCell ⟨l,8,none⟩ (.int .i64 (max ((b9 S L.f).1:Int) (gO (dZ S L.f) L.n:Int)))) F p s S (cR+2+L.n):=(cI.later bF).aw (aL (F:=λk=>k=l) a rfl 8 _) (λk j e=>c (e▸j));have dE:=ff.size;have U:=Rl g L.n (b9 S L.f).1 (b9 S L.f).2.1 (dZ S L.f) _ B ((r.aw (aa.ah (λ_=>False) bF) (λh=>h) (λ_ h=>h.elim)).aw (aL (F:=λk=>k=l) a rfl 8 (.int .i64 (max ((b9 S L.f).1:Int) (gO (dZ S L.f) L.n:Int)))) (by omega) (λk j=>by omega)) jl q P.2.2 P.2.1 (λi=>(OI i).2.2.2.2.1) (λi=>by have:=(OI i).2.2.2.1;unfold dZ;omega);have x:=(ip.Kg (max ((b9 S L.f).1:Int) (gO (dZ S L.f) L.n:Int)) (ir S L.f L.n) (by unfold ir;omega));have y:=(aH d aZ);go_wp2_with fail;refine U.mono ?_;rintro e w4 ⟨v,hd,rs,rfl,pF,Y,Z,fw⟩;have jf:=x.later fw;have ip.c5:=jf.c5;obtain⟨H,I,J,K,M,ZS,ey⟩:=nA jf.c6 jf.c7 (jf.fz 5) (jf.fz 6) (jf.fz 7) y.2.size (((aL (F:=λk=>k=l) w4 rfl 5 (.int .i64 ((b9 S L.f).1:Int))).trans (aL (F:=λk=>k=l) _ rfl 6 (.int .i64 ((b9 S L.f).2.1:Int))) (λ_ h=> .inl h)).trans (aL (F:=λk=>k=l) _ rfl 7 (.int .i64 (hd:Int))) (λ_ h=> .inl h));have A:=(aH (Told.mk ((((pF.xE (b:=l) (by omega) 5 (.int .i64 ((b9 S L.f).1:Int))).xE (b:=l) (by omega) 6 (.int .i64 ((b9 S L.f).2.1:Int))).xE (b:=l) (by omega) 7 (.int .i64 (hd:Int))).low ZS (λ_ h=>h)) Y Z (jf.marked (b9 S L.f).1 (b9 S L.f).2.1 hd)) (aH ((y.1.later fw).aw ey (λk j e=>c (e▸j))) ((y.2.trans (aa.ah (λ_=>False) fw) (λ_ h=>h.elim)).trans (ey.mono (G:=λk=>F k\/k=l) (λ_ h=> .inr h)) (λ_ h=> .inl h))));go_wp2_with fail;go_ret2;exact⟨⟨_,_,_,rfl,A.1⟩,A.2⟩
 .have d0:(((b9 S L.f).2.2:Int) == 0)=false:=by rw [fJ];omega
  simp only [aG (λh=>t h:¬(b9 S L.f).2.2=0)];go_in;go_wp2_with fail;refine fR o λw1 iN ff=>?_;go_wp2_with fail;go_ret2;exact⟨rfl,aH (iN.le (by omega:cR+2<=cR+2+L.n)) (ff.mono (G:=λk=>F k\/k=l) (λ_ h=> .inl h))⟩
end
end B
end
section
namespace B
def oRd (S:DS) (s:Nat) (f n:Int):Nat:=if cy S s f n≠0 then 0 else n.toNat+2
section
variable {w:World} {F:Nat->Prop} {p s cR:Nat} {S:DS}
def Th (h:ax w F p s S cR) (dC:S.fL) (f n:Int) (aU:S.puts.length+500<=4000000000000):
  Calls prog 55 #[pQ p,iV f,iV n] w λe w'=>Kh w w' p s S f n e/\ax w' F p s (bA S s f n).2 (cR+oRd S s f n)/\aa F w w':=by
 have A:=h.lt;have DC:¬F w.heap.size:=λm=>by have:=h.lt _ m;omega
 have z:=(aJ w (.cells #[.pointer (some ⟨p,0,none⟩), .int .i64 f, .int .i64 n] 144));have rG:(w.alloc (.cells #[.pointer (some ⟨p,0,none⟩), .int .i64 f, .int .i64 n] 144)).heap[w.heap.size]? =some (.cells #[.pointer (some ⟨p,0,none⟩), .int .i64 f, .int .i64 n] 144 (0,0)):=heap_alloc_new _ _;have xr:=h.boxed (.cells #[.pointer (some ⟨p,0,none⟩), .int .i64 f, .int .i64 n] 144);have m:=tV xr f n;unfold Kh bA oRd;by_cases q:cy S s f n=0
 .simp only [aB (λh:¬cy S s f n=0=>h q)];obtain⟨ZD,a,b,rfl,rfl,oJ,ar,bd⟩:=fV q;rw [q] at m;simp only [Int.toNat_natCast];have C:=(λ(c:World) (l:Nat) (cI:ax c F p s S.take cR) (M:cW c l p (LG.new S a b)) (rP:¬F l)=>(La cI M rP dC.take oJ (by show 1<=b;omega) bd ZD (by show S.puts.length+1<=_;omega)).mono (λe w' h=>aH h.1.ZN (aH (show ax w' F p s S.take (cR+2+b) from h.2.1) h.2.2)));by_cases D:(b9 S a).2.2=0
  .have Yc:=D;simp only [aB (λh:¬(b9 S a).2.2=0=>h D)];by_cases E:ir S a b=1073741824
   .have CG:=E;simp only [aG E];simp only [aG (show (41:Int)≠0 by decide)];go_in;go_wp2_with fail;refine bN m λw1 g=>?_;have jJ:w1.heap[w.heap.size]? =_:=(g.block _ (by simp)).trans rG;have r:=aM jJ;have t:=bG jJ;have u:=bK jJ;have cQ:=(z.trans (g.mono (by simp)));go_wp2_with fail;go_region_held3 (λw'=>w'.cell? (aD w.heap.size 0)=some (pQ p)/\w'.cell? (aD w.heap.size 1)=some (iV (a:Int))/\w'.cell? (aD w.heap.size 2)=some (iV (b:Int)))
     (first|exact⟨r,t,u⟩|exact⟨aM ml,bG ml,bK ml⟩|exact⟨aM (tP _),bG (tP _),bK (tP _)⟩)
       ((go_at_call 48;refine(zN (xr.later (g.trans (ai (bi w1.heap.size w1) |>.mono g.size)))).mono ?_;rintro e c ⟨rfl,cI,aY⟩;have ml:=eE (w:=w1.drew) jJ aY DC;have tP:=λo=>(aJ c o).block _ (aq ml) |>.trans ml))
    have dE:w.heap.size<w1.heap.size:=(by have:=cQ.size;have:=aq jJ;omega);have ev:w1.heap.size<=c.heap.size:=aY.size;have fH:cW (c.alloc (.cells (Jb p (LG.new S a b)) 149)) c.heap.size p (LG.new S a b):=heap_alloc_new _ _;have Fw:=(λh:F c.heap.size=>by have:=A _ h;omega:¬F c.heap.size);have pk:aa F w (c.alloc (.cells (Jb p (LG.new S a b)) 149)):=((aa.ah F (ai cQ)).trans aY (λ_ h=> .inl h)).trans (aa.boxed F _) (λ_ h=> .inl h);go_wp2_with fail;refine(C _ c.heap.size (cI.boxed (.cells (Jb p (LG.new S a b)) 149)) fH Fw).mono ?_;rintro e y ⟨j,i,aZ⟩;rw [aB (λh=>h Yc),aG CG] at j;subst j;go_wp2_with fail;go_ret3;exact⟨rfl,(aH (i.le (by omega:cR+2+b<=cR+(b+2))) (pk.trans aZ (λk h=>h.elim .inl (λe=> .inr (by omega)))))⟩
   .have CG:=E;simp only [aB E];have H:=(λ(y:World) (i:ax y F p s S.take (cR+2+b))=>vz i (by show S.puts.length+1<=_;omega));generalize S.take.fl s=Y at*;by_cases k:Y.1=0
    .simp only [aB (λh:¬Y.1=0=>h k)];have d:(Y.1 == 0)=true:=(by rw [beq_iff_eq];exact k);go_in;go_wp2_with fail;refine bN m λw1 g=>?_;have jJ:w1.heap[w.heap.size]? =_:=(g.block _ (by simp)).trans rG;have r:=aM jJ;have t:=bG jJ;have u:=bK jJ;have cQ:=(z.trans (g.mono (by simp)));go_wp2_with fail;go_region_held3 (λw'=>w'.cell? (aD w.heap.size 0)=some (pQ p)/\w'.cell? (aD w.heap.size 1)=some (iV (a:Int))/\w'.cell? (aD w.heap.size 2)=some (iV (b:Int)))
      (first|exact⟨r,t,u⟩|exact⟨aM ml,bG ml,bK ml⟩|exact⟨aM (tP _),bG (tP _),bK (tP _)⟩)
        ((go_at_call 48;refine(zN (xr.later (g.trans (ai (bi w1.heap.size w1) |>.mono g.size)))).mono ?_;rintro e c ⟨rfl,cI,aY⟩;have ml:=eE (w:=w1.drew) jJ aY DC;have tP:=λo=>(aJ c o).block _ (aq ml) |>.trans ml))
     have dE:w.heap.size<w1.heap.size:=(by have:=cQ.size;have:=aq jJ;omega);have ev:w1.heap.size<=c.heap.size:=aY.size;have fH:cW (c.alloc (.cells (Jb p (LG.new S a b)) 149)) c.heap.size p (LG.new S a b):=heap_alloc_new _ _;have Fw:=(λh:F c.heap.size=>by have:=A _ h;omega:¬F c.heap.size);have pk:aa F w (c.alloc (.cells (Jb p (LG.new S a b)) 149)):=((aa.ah F (ai cQ)).trans aY (λ_ h=> .inl h)).trans (aa.boxed F _) (λ_ h=> .inl h);go_wp2_with fail;refine(C _ c.heap.size (cI.boxed (.cells (Jb p (LG.new S a b)) 149)) fH Fw).mono ?_;rintro e y ⟨j,i,aZ⟩;rw [aB (λh=>h Yc),aB CG] at j;obtain⟨v,rs,hd,rfl,J⟩:=j;have lS:=(pk.trans aZ (λk h=>h.elim .inl (λe=> .inr (by omega))));have G:w.heap.size<=(c.alloc (.cells (Jb p (LG.new S a b)) 149)).heap.size:=(by simp;omega);go_wp2_with fail;refine(H y i).mono ?_;rintro e N ⟨rfl,x,dW⟩;have I:=(aH ((J.low (B':=w.heap.size) G).aw dW (λk L=>A k L) Fw) (aH (x.le (by omega:cR+2+b<=cR+(b+2))) (lS.trans dW (λ_ h=> .inl h))));go_wp2_with fail;go_ret3;exact⟨⟨_,_,_,_,rfl,by omega,I.1⟩,I.2⟩
    .simp only [aG (λh=>k h:¬Y.1=0)];have d:(Y.1 == 0)=false:=(by rw [fJ];exact k);go_in;go_wp2_with fail;refine bN m λw1 g=>?_;have jJ:w1.heap[w.heap.size]? =_:=(g.block _ (by simp)).trans rG;have r:=aM jJ;have t:=bG jJ;have u:=bK jJ;have cQ:=(z.trans (g.mono (by simp)));go_wp2_with fail;go_region_held3 (λw'=>w'.cell? (aD w.heap.size 0)=some (pQ p)/\w'.cell? (aD w.heap.size 1)=some (iV (a:Int))/\w'.cell? (aD w.heap.size 2)=some (iV (b:Int)))
      (first|exact⟨r,t,u⟩|exact⟨aM ml,bG ml,bK ml⟩|exact⟨aM (tP _),bG (tP _),bK (tP _)⟩)
        ((go_at_call 48;refine(zN (xr.later (g.trans (ai (bi w1.heap.size w1) |>.mono g.size)))).mono ?_;rintro e c ⟨rfl,cI,aY⟩;have ml:=eE (w:=w1.drew) jJ aY DC;have tP:=λo=>(aJ c o).block _ (aq ml) |>.trans ml))
     have dE:w.heap.size<w1.heap.size:=(by have:=cQ.size;have:=aq jJ;omega);have ev:w1.heap.size<=c.heap.size:=aY.size;have fH:cW (c.alloc (.cells (Jb p (LG.new S a b)) 149)) c.heap.size p (LG.new S a b):=heap_alloc_new _ _;have Fw:=(λh:F c.heap.size=>by have:=A _ h;omega:¬F c.heap.size);have pk:aa F w (c.alloc (.cells (Jb p (LG.new S a b)) 149)):=((aa.ah F (ai cQ)).trans aY (λ_ h=> .inl h)).trans (aa.boxed F _) (λ_ h=> .inl h);go_wp2_with fail;refine(C _ c.heap.size (cI.boxed (.cells (Jb p (LG.new S a b)) 149)) fH Fw).mono ?_;rintro e y ⟨j,i,aZ⟩;rw [aB (λh=>h Yc),aB CG] at j;obtain⟨v,rs,hd,rfl,J⟩:=j;have lS:=(pk.trans aZ (λk h=>h.elim .inl (λe=> .inr (by omega))));go_wp2_with fail;refine(H y i).mono ?_;rintro e N ⟨rfl,x,dW⟩;go_wp2_with fail;go_ret3;exact⟨rfl,aH (x.le (by omega:cR+2+b<=cR+(b+2))) (lS.trans dW (λ_ h=> .inl h))⟩
  .have Yc:=D;have K:(((b9 S a).2.2:Int) == 0)=false:=(by rw [fJ];omega);simp only [aG (λh=>D h:¬(b9 S a).2.2=0)];simp only [aG (show (((b9 S a).2.2:Nat):Int)≠0 by omega)];go_in;go_wp2_with fail;refine bN m λw1 g=>?_;have jJ:w1.heap[w.heap.size]? =_:=(g.block _ (by simp)).trans rG;have r:=aM jJ;have t:=bG jJ;have u:=bK jJ;have cQ:=(z.trans (g.mono (by simp)));go_wp2_with fail;go_region_held3 (λw'=>w'.cell? (aD w.heap.size 0)=some (pQ p)/\w'.cell? (aD w.heap.size 1)=some (iV (a:Int))/\w'.cell? (aD w.heap.size 2)=some (iV (b:Int)))
    (first|exact⟨r,t,u⟩|exact⟨aM ml,bG ml,bK ml⟩|exact⟨aM (tP _),bG (tP _),bK (tP _)⟩)
      ((go_at_call 48;refine(zN (xr.later (g.trans (ai (bi w1.heap.size w1) |>.mono g.size)))).mono ?_;rintro e c ⟨rfl,cI,aY⟩;have ml:=eE (w:=w1.drew) jJ aY DC;have tP:=λo=>(aJ c o).block _ (aq ml) |>.trans ml))
   have dE:w.heap.size<w1.heap.size:=(by have:=cQ.size;have:=aq jJ;omega);have ev:w1.heap.size<=c.heap.size:=aY.size;have fH:cW (c.alloc (.cells (Jb p (LG.new S a b)) 149)) c.heap.size p (LG.new S a b):=heap_alloc_new _ _;have Fw:=(λh:F c.heap.size=>by have:=A _ h;omega:¬F c.heap.size);have pk:aa F w (c.alloc (.cells (Jb p (LG.new S a b)) 149)):=((aa.ah F (ai cQ)).trans aY (λ_ h=> .inl h)).trans (aa.boxed F _) (λ_ h=> .inl h);go_wp2_with fail;refine(C _ c.heap.size (cI.boxed (.cells (Jb p (LG.new S a b)) 149)) fH Fw).mono ?_;rintro e y ⟨j,i,aZ⟩;rw [aG (λh=>Yc h)] at j;subst j;go_wp2_with fail;go_ret3;exact⟨rfl,(aH (i.le (by omega:cR+2+b<=cR+(b+2))) (pk.trans aZ (λk h=>h.elim .inl (λe=> .inr (by omega)))))⟩
 .simp only [aG (λh=>q h:¬cy S s f n=0)];have K:(cy S s f n == 0)=false:=by rw [fJ];exact q
  go_in;go_wp2_with fail;refine bN m λw1 g=>?_;go_wp2_with fail;go_ret3;exact⟨rfl,(aH (xr.later g) (aa.ah F (z.trans (g.mono (by simp)))))⟩
end
end B
end
section
namespace B
section
variable {w:World} {F:Nat->Prop} {p s l cR:Nat} {S:DS} {L:LG}
def OX (h:ax w F p s S cR) (t:cW w l p L) (a:L.Ok s) (q:¬F l) (dC:S.fL) (aU:S.puts.length+2<=4000000000000):
  Calls prog 57 #[pQ l] w λe w'=>e= .returned (iV (L.start S s).1)/\ax w' (more F w w') p s (L.start S s).2.1 (cR+2)/\cW w' l p (L.start S s).2.2/\aa (λk=>F k\/k=l) w w':=by
 obtain⟨i,j,c,bq,O,DY⟩:=jF (tW h t) t h t.lt a.s a.top;unfold LG.start;have u:=(λb (cI:ax b F p s S cR)=>Kz cI L.f L.n (L.top+1) 0 (by omega) (by omega) aU (by have:=a.n1;omega) (dC.now _) (dC.now _));go_in;cases hd:L.dead S
 .rw [hd] at i;rw [aB (by decide)];cases r:L.begun
  .rw [aB (by decide)];generalize N:cZ S s L.f (((L.top+1:Nat):Int)*4294967296+((0:Nat):Int))=Y at*;by_cases k:Y.1=0
   .rw [aB (λh=>h k)];have d:(Y.1 == 0)=true:=(by rw [beq_iff_eq];exact k);go_wp2_with fail;refine bN i λw1 ar=>?_;have cu:=j.later ar;obtain⟨x,y,z,g,A⟩:=eK cu.c0 cu.c1 cu.c2 cu.c4 cu.c8;rw [r] at g;have m:=u w1 (c.later ar);rw [show ((L.top+1:Nat):Int)=(L.top:Int)+1 by omega,show (((0:Nat):Int))=0 from rfl] at m;go_wp2_with fail;refine fR m λb cI aY=>?_;have fH:=cu.aw aY q;obtain⟨I,J,K,M,g,D,E,H,dE,ev⟩:=wc (fH.fz 4) (fH.fz 5) (fH.fz 6) (fH.fz 7) fH.c4 fH.c5 fH.c6 fH.c7 ar.size aY.size;have C:aa (λk=>F k\/k=l) w ((((b.setCell ⟨l,4,none⟩ (.bool true)).setCell ⟨l,5,none⟩ (.int .i64 ((L.top:Int)+1))).setCell ⟨l,6,none⟩ (.int .i64 0)).setCell ⟨l,7,none⟩ (.int .i64 0)):=
       (((((aa.ah (λk=>F k\/k=l) ar).trans aY (λ_ h=> .inl (.inl h))).trans (aL (F:=λk=>k=l) b rfl 4 _) (λ_ h=> .inl (.inr h))).trans (aL (F:=λk=>k=l) _ rfl 5 _) (λ_ h=> .inl (.inr h))).trans (aL (F:=λk=>k=l) _ rfl 6 _) (λ_ h=> .inl (.inr h))).trans (aL (F:=λk=>k=l) _ rfl 7 _) (λ_ h=> .inl (.inr h))
    have o:ax ((((b.setCell ⟨l,4,none⟩ (.bool true)).setCell ⟨l,5,none⟩ (.int .i64 ((L.top:Int)+1))).setCell ⟨l,6,none⟩ (.int .i64 0)).setCell ⟨l,7,none⟩ (.int .i64 0)) (more F w1 b) p s Y.2 (cR+2):=by
     have dM:∀k,more F w1 b k->¬k=l:=λk a e=>by
      subst e;rcases a with a|a
      .exact q a
      .omega
     exact(((cI.aw (aL (F:=λk=>k=l) b rfl 4 _) dM).aw (aL (F:=λk=>k=l) _ rfl 5 _) dM).aw (aL (F:=λk=>k=l) _ rfl 6 _) dM).aw (aL (F:=λk=>k=l) _ rfl 7 _) dM
    have ee:((((b.setCell ⟨l,4,none⟩ (.bool true)).setCell ⟨l,5,none⟩ (.int .i64 ((L.top:Int)+1))).setCell ⟨l,6,none⟩ (.int .i64 0)).setCell ⟨l,7,none⟩ (.int .i64 0)).heap.size=b.heap.size:=(by simp [World.setCell]);have v:=(aH ((o.mono (G:=more F w ((((b.setCell ⟨l,4,none⟩ (.bool true)).setCell ⟨l,5,none⟩ (.int .i64 ((L.top:Int)+1))).setCell ⟨l,6,none⟩ (.int .i64 0)).setCell ⟨l,7,none⟩ (.int .i64 0))) (λk a=>by
      rcases a with a|a
      .exact .inl a
      .exact .inr ⟨by omega,by rw [ee];exact a.2⟩) (cJ (F:=F) (w:=w) c.lt (by rw [ee];omega)))) (aH (fH.started ((L.top:Int)+1) (L.top+1) (by omega)) C))
    go_wp2;go_ret;exact⟨rfl,v⟩
   .rw [aG k];have d:(Y.1 == 0)=false:=(by rw [fJ];exact k);go_wp2_with fail;refine bN i λw1 ar=>?_;have cu:=j.later ar;obtain⟨x,y,z,g,A⟩:=eK cu.c0 cu.c1 cu.c2 cu.c4 cu.c8;rw [r] at g;have m:=u w1 (c.later ar);rw [show ((L.top+1:Nat):Int)=(L.top:Int)+1 by omega,show (((0:Nat):Int))=0 from rfl] at m;have cQ:=ar;go_wp2_with fail;refine fR m λb cI aY=>?_;go_wp2;go_ret;exact⟨rfl,(aH (cI.from c.lt cQ.size aY.size) (aH (cu.aw aY q) ((aa.ah (λk=>F k\/k=l) cQ).trans aY (λ_ h=> .inl (.inl h)))))⟩
  .rw [aG rfl];go_wp2_with fail;refine bN i λw1 ar=>?_;have g:=(j.later ar).c4;rw [r] at g;go_wp2;go_ret;exact⟨rfl,aH (((c.later ar).more (w:=w)).le (by omega:cR<=cR+2)) (aH (j.later ar) (aa.ah (λk=>F k\/k=l) ar))⟩
 .rw [hd] at i;rw [aG rfl];go_wp2_with fail;refine bN i λw1 ar=>?_;go_wp2;go_ret;exact⟨rfl,aH (((c.later ar).more (w:=w)).le (by omega:cR<=cR+2)) (aH (j.later ar) (aa.ah (λk=>F k\/k=l) ar))⟩
end
end B
end
def Dh {R:Nat->PC} {E:Nat} (a:∀q,(R q).d.length<=492):∀{rs:List (List Int)} {P h:Nat},dF R E P rs h->∀d∈rs,d.length<=8364
 | [],_,_,_,d,hd=>by cases hd
 |x :: xs,P,h,⟨k,hk,ht⟩,d,hd=>by
  rcases List.mem_cons.1 hd with rfl|b
  .have e:∀c,(ll R P c).length<=492*c:=λc=>by
    induction c with
    |zero=>simp [mA]
    |succ c f=>rw [iB,ed];have:=a (P+c);omega
   have:=e k;have:=hk.2.1;rw [hk.2.2.2];omega
  .exact Dh a ht d b
def wZ {R:Nat->PC} {E:Nat} (b:∀q,Bytes (R q).d):∀{rs:List (List Int)} {P h:Nat},dF R E P rs h->∀d∈rs,Bytes d
 | [],_,_,_,d,hd=>by cases hd
 |x :: xs,P,h,⟨k,hk,ht⟩,d,hd=>by
  rcases List.mem_cons.1 hd with rfl|e
  .have f:∀c,Bytes (ll R P c):=λc=>by
    induction c with
    |zero=>intro x a;simp [mA] at a
    |succ c g=>
     rw [iB];intro x a;rcases List.mem_append.1 a with a|a
     .exact g x a
     .exact b _ x a
   rw [hk.2.2.2];exact f k
  .exact wZ b ht d e
structure jR (S:DS) (f n:Nat) (rs:List (List Int)) (hd:Nat):Prop where
 t:dF (Rp (dZ S f) n) (b9 S f).1 (b9 S f).2.1 rs hd
 x:∀c d,¬Rec (Rp (dZ S f) n) (b9 S f).1 hd c d
def jR.small {b:Nat} (h:jR S a b rs hd) (dC:S.fL) (ar:1<=b):rs.length<=b/\(∀r∈rs,Bytes r/\r.length<=1000000)/\(b9 S a).2.1<=hd/\hd<=(b9 S a).2.1+b:=by
 have d:=dF.round ar (tZ (dZ S a) b) h.t;have f:=dF.length h.t;have e:=dF.le h.t;refine⟨by omega,λr c=>⟨?_,?_⟩,e,d⟩
 .exact wZ (λq=>(km (dC.now (a+2+q%b))).2.2.2.2.2) h.t r c
 .have:=Dh (λq=>(km (dC.now (a+2+q%b))).2.2.2.2.1) h.t r c;omega
def fh (S:DS) (f n hd:Nat):LG:={LG.new S f n with ep:=(b9 S f).1,tail:=(b9 S f).2.1,head:=hd,top:=ir S f n}
def yt {b:Nat} (h:jR S a b rs hd) (dC:S.fL) (d:(b9 S a).2.2=0) (g:ir S a b≠1073741824) (oJ:a+2+b<=s) (ar:18<=b) (bd:b<=256):(fh S a b hd).Ok s:=by
 obtain⟨_,_,e,f⟩:=h.small dC (by omega);have R2:=x8 d;have Px:=Ea (n:=b) d;refine⟨oJ,ar,bd,R2.2.1,?_,e,f,?_,λc=>by cases c⟩
 .show ir S a b<_;omega
 .show hd<=_;omega
def mb {f:Nat} (h:(bA S s f n).1=0):cy S s f n=0/\(b9 S f).2.2=0/\ir S f n≠1073741824/\bA S s f n=S.take.fl s:=by
 unfold bA at*;simp only [Int.toNat_natCast] at*;split at h
 .rename_i k;exact absurd h k
 .rename_i a;split at h
  .rename_i k;exact absurd (Int.ofNat_eq_zero.1 h) k
  .rename_i b;split at h
   .cases h
   .rename_i c;exact⟨Decidable.of_not_not a,Decidable.of_not_not b,c,by rw [aB a,aB b,aB c]⟩
def EK (a b:Nat) (f:Value) (x:Value) (w:World) (c:w.heap[a]? =some (.cells #[f] 53 (0,0))) (d:w.heap[b]? =some (.cells #[x] 49 (0,0))) (dM:a≠b):
  CallsD prog 53 #[.pointer (some ⟨a,0,none⟩), .pointer (some ⟨b,0,none⟩)] (.panicking RZ) w λe i w'=>
   e= .returned (.tuple #[])/\i= .panicking [{v:= .iface 49 (.int .i64 6),recovered:=true}]/\w'=(w.setCell ⟨a,0,none⟩ (.pointer none)).setCell ⟨b,0,none⟩ (.int .i64 6):=by
 have ajP:¬b=a:=λe=>dM e.symm;refine callsD_of_wpS func53 rfl λj cs g=>?_;apply wpS_seq;apply wpS_region;simp [wpOpsS,go_sem,recoverD,g,ntmps53,Exit.thenS];refine wpS_cond (t:=true) (by simp [Act.eval,Array.replicate]) ?_;simp only [if_true];apply wpS_region;simp [wpOpsS,go_sem,aM c,ae c 0,aM d,ae d 0,bodyPostS,results,results53]
def kW (b c:Nat) (w:World):
  CallsD prog 53 #[.pointer (some ⟨b,0,none⟩), .pointer (some ⟨c,0,none⟩)] .returning w λe f w'=>e= .returned (.tuple #[])/\f= .returning/\w'=w:=by
 refine callsD_of_wpS func53 rfl λa cs d=>?_;apply wpS_seq;apply wpS_region;simp [wpOpsS,go_sem,recoverD,d,ntmps53,Exit.thenS];refine wpS_cond (t:=false) (by simp [Act.eval,Array.replicate]) ?_;simp only [Bool.false_eq_true,if_false];refine wpS_of_wp (wp_skip ?_);cases a
 simp_all [bodyPostS,results,results53]
def j1 (S:DS) (s:Nat) (x:Int) (S':DS):Prop:=
   (SW S s Yx x/\x≠0/\S'=S)\/
   (mM (S.now 0) s/\S.fuse≠0/\(((bA S s 1 ((cE (S.now 0)).log:Nat)).1=x/\x≠0/\S'=(bA S s 1 ((cE (S.now 0)).log:Nat)).2)\/
    ((bA S s 1 ((cE (S.now 0)).log:Nat)).1=0/\∃rs hd,jR S 1 (cE (S.now 0)).log rs hd/\
     ((iH (cE (S.now 0)).blocks [] rs=none/\x=6/\S'=(bA S s 1 ((cE (S.now 0)).log:Nat)).2)\/
    ∃ov,iH (cE (S.now 0)).blocks [] rs=some ov/\
       (((eu (bA S s 1 ((cE (S.now 0)).log:Nat)).2 s (cE (S.now 0)) ov rs).1=x/\x≠0/\S'=(eu (bA S s 1 ((cE (S.now 0)).log:Nat)).2 s (cE (S.now 0)) ov rs).2)\/
        ((eu (bA S s 1 ((cE (S.now 0)).log:Nat)).2 s (cE (S.now 0)) ov rs).1=0/\((fh S 1 (cE (S.now 0)).log hd).start (eu (bA S s 1 ((cE (S.now 0)).log:Nat)).2 s (cE (S.now 0)) ov rs).2 s).1=x/\S'=((fh S 1 (cE (S.now 0)).log hd).start (eu (bA S s 1 ((cE (S.now 0)).log:Nat)).2 s (cE (S.now 0)) ov rs).2 s).2.1))))))
def aeY {a:World} (bq:∀k,F k->k<w.heap.size) (fH:w.heap.size+1<a.heap.size) (py:a.heap[w.heap.size]? =some (.cells #[.pointer none] 53 (0,0))) (fZ:a.heap[w.heap.size+1]? =some (.cells #[.int .i64 0] 49 (0,0))) (hd:B.ax a F p s S c) (i:aa F w a) (x:Int) (o:Obj):
    ((a.setCell ⟨w.heap.size+1,0,none⟩ (.int .i64 x)).alloc o).heap[w.heap.size]? =some (.cells #[.pointer none] 53 (0,0))/\((a.setCell ⟨w.heap.size+1,0,none⟩ (.int .i64 x)).alloc o).heap[w.heap.size+1]? =some (.cells #[.int .i64 x] 49 (0,0))/\((a.setCell ⟨w.heap.size+1,0,none⟩ (.int .i64 x)).alloc o).heap[a.heap.size]? =some o/\B.ax ((a.setCell ⟨w.heap.size+1,0,none⟩ (.int .i64 x)).alloc o) F p s S c/\aa F w ((a.setCell ⟨w.heap.size+1,0,none⟩ (.int .i64 x)).alloc o)/\((a.setCell ⟨w.heap.size+1,0,none⟩ (.int .i64 x)).alloc o).heap.size=a.heap.size+1:=by
 have b:=aa.setCell (F:=λk=>k=w.heap.size+1) a (p:=⟨w.heap.size+1,0,none⟩) rfl (.int .i64 x);have f:=size_setCell a ⟨w.heap.size+1,0,none⟩ (.int .i64 x);have d:=Below.heap_alloc (a.setCell ⟨w.heap.size+1,0,none⟩ (.int .i64 x)) o;refine⟨(d _ (by omega)).trans ((b.block _ (by omega) (by omega)).trans py),(d _ (by omega)).trans ?_,?_,?_,?_,by rw [World.size_alloc,f]⟩
 .rw [heap_setCell_same _ _ _ _ _ _ fZ];rfl
 .rw [<-f];exact heap_alloc_new _ _
 .exact(hd.aw b (λk g e=>by have:=bq _ g;omega)).boxed o
 .exact(i.trans b (λk e=> .inr (by omega))).trans (aa.alloc (λ_=>False) _ o) (λ_ h=>h.elim)
def oset {a:World} {y x:Int} (bq:∀k,F k->k<w.heap.size\/w.heap.size+2<=k) (py:a.heap[w.heap.size]? =some (.cells #[u] 53 (0,0))) (fZ:a.heap[w.heap.size+1]? =some (.cells #[.int .i64 y] 49 (0,0))) (hd:B.ax a F p s S c):
    ((a.setCell ⟨w.heap.size,0,none⟩ v).setCell ⟨w.heap.size+1,0,none⟩ (.int .i64 x)).heap[w.heap.size]? =some (.cells #[v] 53 (0,0))/\((a.setCell ⟨w.heap.size,0,none⟩ v).setCell ⟨w.heap.size+1,0,none⟩ (.int .i64 x)).heap[w.heap.size+1]? =some (.cells #[.int .i64 x] 49 (0,0))/\B.ax ((a.setCell ⟨w.heap.size,0,none⟩ v).setCell ⟨w.heap.size+1,0,none⟩ (.int .i64 x)) F p s S c/\aa (λk=>k=w.heap.size\/k=w.heap.size+1) a ((a.setCell ⟨w.heap.size,0,none⟩ v).setCell ⟨w.heap.size+1,0,none⟩ (.int .i64 x)):=by
 have b:=aa.setCell (F:=λk=>k=w.heap.size\/k=w.heap.size+1) a (p:=⟨w.heap.size,0,none⟩) (.inl rfl) v;have d:=aa.setCell (F:=λk=>k=w.heap.size\/k=w.heap.size+1) (a.setCell ⟨w.heap.size,0,none⟩ v) (p:=⟨w.heap.size+1,0,none⟩) (.inr rfl) (.int .i64 x);have f:(a.setCell ⟨w.heap.size,0,none⟩ v).heap[w.heap.size]? =some (.cells #[v] 53 (0,0)):=by
  rw [heap_setCell_same _ _ _ _ _ _ py];rfl
 have g:(a.setCell ⟨w.heap.size,0,none⟩ v).heap[w.heap.size+1]? =some (.cells #[.int .i64 y] 49 (0,0)):=(Below.heap_setCell _ _ _ _ (by simp)).trans fZ;refine⟨(Below.heap_setCell _ _ _ _ (by simp)).trans f,?_,?_,b.trans d (λ_ h=> .inl h)⟩
 .rw [heap_setCell_same _ _ _ _ _ _ g];rfl
 .exact hd.aw (b.trans d (λ_ h=> .inl h)) (λk i e=>by have:=bq _ i;omega)
def OY (h:B.ax w F p s S c) (dC:S.fL) (aU:S.puts.length+1<=4000000000000) (jc:S.fuse=0\/¬mM (S.now 0) s):
  Calls prog 18 #[.pointer (some ⟨p,0,none⟩)] w λe w'=>∃x,e= .returned (.tuple #[.pointer none, .int .i64 x])/\j1 S s x S/\B.ax w' F p s S (c+1)/\aa F w w':=by
 obtain⟨w1,bL⟩:=bQ ((w.alloc (.cells #[.pointer none] 53)).alloc (.cells #[.int .i64 0] 49));have bO:Below w.heap.size w w1:=by rw [bL];exact cm w _ _
 have sq:w1.heap.size=w.heap.size+2:=by rw [bL];simp
 have py:w1.heap[w.heap.size]? =some (.cells #[.pointer none] 53 (0,0)):=by rw [bL];exact heap_alloc2_old _ _ _
 have fZ:w1.heap[w.heap.size+1]? =some (.cells #[.int .i64 0] 49 (0,0)):=by rw [bL];exact heap_alloc2_new _ _ _
 have bq:=h.lt
 go_enter_defers func18,ntmps18
 go_wp2_with fail;rw [<-bL];refine(uD (h.later bO) dC aU).mono ?_;rintro e i ⟨y,x,rfl,mn,cI,aY⟩;have ev:=aY.size;have rG:x≠0/\y=Yx:=by
  rcases mn with ⟨_,b,D⟩|⟨C,b,_⟩|⟨_,_,b,D⟩
  .exact⟨by omega,b⟩
  .rcases jc with h|h
   .exact absurd h C
   .exact absurd b h
  .exact⟨by omega,b⟩
 obtain⟨o,rfl⟩:=rG;have z:(j1 S s x S):= .inl ⟨mn,o,rfl⟩;have WU:=(aY.block w.heap.size (by omega) (λd=>by have:=bq _ d;omega)).trans py;have Ik:=(aY.block (w.heap.size+1) (by omega) (λd=>by have:=bq _ d;omega)).trans fZ;have n:(B.ax i F p s S (c+1)/\aa F w i):=⟨cI,(aa.ah F bO).trans aY (λ_ h=> .inl h)⟩;have N:=aM Ik;have O:=ae Ik 0;have A:(x != 0)=true:=by simp [o]
 have fH:w.heap.size+1<i.heap.size:=by omega
 obtain⟨l,m,_,E,G,_⟩:=aeY bq fH WU Ik n.1 n.2 x (.cells #[.int .i64 0, .int .i64 0, .int .i64 0, .int .i64 0, .int .i64 0] 86)
 dsimp only [PQ]
 go_upto_region 3 with fail
 generalize (i.setCell ⟨w.heap.size+1,0,none⟩ (.int .i64 x)).alloc (.cells #[.int .i64 0, .int .i64 0, .int .i64 0, .int .i64 0, .int .i64 0] 86)=K at*;obtain⟨g,L,P,M,Q⟩:=eK ((aH l (aH m (aH E G)))) (aM l) (ae l 0) (aj m (j:=0) (u:= .int .i64 x) rfl) (ae m 0)
 go_upto_region 4 with fail
 go_region
 obtain⟨q,r,p3,H⟩:=oset (w:=w) (v:= .pointer none) (x:=x) (λk d=> .inl (bq k d)) g.1 g.2.1 g.2.2.1;generalize (K.setCell ⟨w.heap.size,0,none⟩ (.pointer none)).setCell ⟨w.heap.size+1,0,none⟩ (.int .i64 x)=a at*;have UO:Below a.heap.size a a.drew:=ai (bi _ _);have t:(B.ax a.drew F p s S (c+1)/\aa F w a.drew):=⟨p3.later UO,(g.2.2.2.trans H (λk e=> .inr (by omega))).trans (aa.ah (λ_=>False) UO) (λ_ h=>h.elim)⟩;have I:=aj ((UO.block _ (aq q)).trans q) (j:=0) (u:= .pointer none) rfl;have J:=aj ((UO.block _ (aq r)).trans r) (j:=0) (u:= .int .i64 x) rfl;generalize a.drew=w5 at*;go_wp2;refine leaves_cons (f:=53) (args:= #[.pointer (some ⟨w.heap.size,0,none⟩), .pointer (some ⟨w.heap.size+1,0,none⟩)]) (by simp) (by simp [go_sem]) ?_;refine(kW _ _ _).mono ?_;rintro e R Bq ⟨rfl,rfl,rfl⟩;simp [Leaves,settle,results,results18,go_sem,I,J];exact⟨z,t⟩
def tk (h:L.Ok s) (h0:(L.start S s).1=0):(L.start S s).2.2.Ok s/\(L.start S s).2.2.begun=true:=by
 unfold LG.start at*;split
 .rename_i k;rw [aG k] at h0;cases h0
 .rename_i k;rw [aB k] at h0;split
  .rename_i a;rw [aG a] at h0;cases h0
  .rename_i a;rw [aB a] at h0;split
   .rename_i b;rw [aG b] at h0;exact absurd h0 b
   .have c:=h.top;exact⟨⟨h.s,h.n1,h.n2,by show L.top+1<=_;omega,h.top,bS _,by show 0<=_;omega,by show 0<=_;omega,λ_=>by show 0<=_;omega⟩,rfl⟩
def uI:∀{ks:List Nat} {l r:List Int} {cs:CM},dU ks l=some (cs,r)->Bytes l->∀x∈cs,Bytes x.2
 | [],l,r,cs,h,_=>by
  simp only [dU,Option.some.injEq,Prod.mk.injEq] at h;obtain⟨rfl,_⟩:=h;simp
 |k :: ks,l,r,cs,h,hb=>by
  rw [jB] at h;split at h
  .cases h
  .cases a:dU ks (l.drop 512) with
   |none=>rw [a] at h;cases h
   |some x=>
    rw [a] at h;simp only [Option.map_some,Option.some.injEq,Prod.mk.injEq] at h;obtain⟨rfl,rfl⟩:=h;intro z b;rcases List.mem_cons.1 b with rfl|b
    .exact hb.take 512
    .exact uI (cs:=x.1) (r:=x.2) a (hb.drop 512) z b
def uJ {blocks:Nat}:∀{n lo:Nat} {l r:List Int} {ks:List Nat},gS blocks n lo l=some (ks,r)->Bytes l->Bytes r
 |0,lo,l,r,ks,h,hb=>by
  simp only [gS,Option.some.injEq,Prod.mk.injEq] at h;obtain⟨_,rfl⟩:=h;exact hb
 |n+1,lo,l,r,ks,h,hb=>by
  rw [qG] at h;split at h
  .cases h
  .split at h
   .cases a:gS blocks n (le (l.take 4)+1) (l.drop 4) with
    |none=>rw [a] at h;cases h
    |some x=>
     rw [a] at h;simp only [Option.map_some,Option.some.injEq,Prod.mk.injEq] at h;obtain⟨_,rfl⟩:=h;exact uJ (ks:=x.1) (r:=x.2) a (hb.drop 4)
   .cases h
def Il (h:gG blocks d=some cs) (c:Bytes d):∀x∈cs,Bytes x.2:=by
 unfold gG at h;split at h
 .cases h
 .split at h
  .split at h
   .cases h
   .rename_i ks r e;cases b:dU ks r with
    |none=>rw [b] at h;cases h
    |some x=>
     obtain⟨g,f⟩:=x;rw [b] at h;cases f with
     |nil=>
      simp only [jQ,Option.some.injEq] at h;subst h;exact uI b (uJ e (c.drop 2))
     |cons a t=>cases h
  .cases h
def Lb:∀{cs:CM},(∀x∈ms,Bytes x.2)->(∀x∈cs,Bytes x.2)->∀x∈CM.bT ms cs,Bytes x.2:=by
 intro cs
 induction cs generalizing ms with
 |nil=>intro h _ x a;exact h x a
 |cons q c f=>
  intro d b;have e:CM.bT ms (q :: c)=CM.bT (CM.put ms q.1 q.2) c:=rfl;rw [e];refine f (λx a=>?_) (λx a=>b x (List.mem_cons_of_mem _ a));rcases CM.qY a with rfl|a
  .exact b q (by simp)
  .exact d x a
def qJ {blocks:Nat}:∀{rs:List (List Int)} {ms ov:CM},iH blocks ms rs=some ov->(∀x∈ms,Bytes x.2)->(∀r∈rs,Bytes r)->∀x∈ov,Bytes x.2
 | [],ms,ov,h,hm,_=>by
  simp only [iH,Option.some.injEq] at h;subst h;exact hm
 |r :: rs,ms,ov,h,hm,hr=>by
  unfold iH at h;cases a:gG blocks r with
  |none=>rw [a] at h;cases h
  |some cs=>
   rw [a] at h;exact qJ h (Lb hm (Il a (hr r (by simp)))) (λx b=>hr x (List.mem_cons_of_mem _ b))
def Di (h:S.fL) (b:∀x∈ov,Bytes x.2):(eu S s y ov rs).2.fL:=by
 unfold eu;split
 .exact h
 .have a:=ku h s y.home (ms:=ov) b;split
  .exact a
  .exact a.fl s
def Lc (h0:(eu S s y ov rs).1=0):(eu S s y ov rs).2.puts.length<=S.puts.length:=by
 unfold eu at*;split
 .exact bS _
 .rename_i k;rw [aB k] at h0;split
  .rename_i a;rw [aG a] at h0;exact absurd h0 a
  .rename_i a;rw [aB a] at h0;rw [jn h0];exact dV _
def ky (h:mM (S.now 0) s):(cE (S.now 0)).home+(cE (S.now 0)).blocks<=s/\1+2+(cE (S.now 0)).log<=s/\18<=(cE (S.now 0)).log/\(cE (S.now 0)).log<=256/\(cE (S.now 0)).blocks<=2048:=by
 have d:=h.1.geo;have e:=h.2;unfold vJ at d;unfold cE;simp only;generalize u32 (S.now 0) 8=a at*;generalize u32 (S.now 0) 12=b at*;generalize u32 (S.now 0) 16=c at*;omega
def tp (S:DS) (s:Nat) (L:LG):Prop:=∃rs hd ov,jR S 1 (cE (S.now 0)).log rs hd/\iH (cE (S.now 0)).blocks [] rs=some ov/\L=((fh S 1 (cE (S.now 0)).log hd).start (eu (bA S s 1 ((cE (S.now 0)).log:Nat)).2 s (cE (S.now 0)) ov rs).2 s).2.2
def Ti (w:World) (F:Nat->Prop) (p s c:Nat) (S:DS) (e:Ending) (w':World):Prop:=∃x S' cR,cR<=c+5+(cE (S.now 0)).log/\j1 S s x S'/\aa F w w'/\((x≠0/\e= .returned (.tuple #[.pointer none,iV x])/\B.ax w' (more F w w') p s S' cR)\/(x=0/\∃q l m L F',tp S s L/\e= .returned (.tuple #[pQ q,iV 0])/\(∀k,F' k->more F w w' k)/\w.heap.size<=q/\w.heap.size<=l/\w.heap.size<=m/\it w' F' p s cR q l m S' ⟨cE (S.now 0),L, [],false⟩))
def aeZ {a:World} {y:Int} (x:Int) (bq:∀k,F k->k<w.heap.size\/w.heap.size+2<=k) (py:a.heap[w.heap.size]? =some (.cells #[u] 53 (0,0))) (fZ:a.heap[w.heap.size+1]? =some (.cells #[.int .i64 y] 49 (0,0))) (hd:B.ax a F p s S c):
    (a.setCell ⟨w.heap.size+1,0,none⟩ (.int .i64 x)).heap[w.heap.size]? =some (.cells #[u] 53 (0,0))/\(a.setCell ⟨w.heap.size+1,0,none⟩ (.int .i64 x)).heap[w.heap.size+1]? =some (.cells #[.int .i64 x] 49 (0,0))/\B.ax (a.setCell ⟨w.heap.size+1,0,none⟩ (.int .i64 x)) F p s S c/\aa (λk=>k=w.heap.size+1) a (a.setCell ⟨w.heap.size+1,0,none⟩ (.int .i64 x)):=by
 have b:=aa.setCell (F:=λk=>k=w.heap.size+1) a (p:=⟨w.heap.size+1,0,none⟩) rfl (iV x);refine⟨(Below.heap_setCell _ _ _ _ (by simp)).trans py,?_,hd.aw b (λk d e=>by have:=bq _ d;omega),b⟩;rw [heap_setCell_same _ _ _ _ _ _ fZ];rfl
def aaV (S:DS) (s n:Nat):B.oRd S s 1 (n:Int)<=n+2:=by
 unfold B.oRd;split <;> simp
def ae0 {w5:World} {l:Nat} (bq:∀k,F k->k<w.heap.size) (py:w5.heap[w.heap.size]? =some (.cells #[.pointer none] 53 (0,0))) (fZ:w5.heap[w.heap.size+1]? =some (.cells #[.int .i64 0] 49 (0,0))) (hd:B.ax w5 F p s S c) {a:World} (MN:a=((w5.setCell ⟨w.heap.size,0,none⟩ (.pointer (some ⟨w5.heap.size+1,0,none⟩))).alloc (.map #[] 0)).alloc (.cells (PE p l w5.heap.size y false) 95)):
  a.heap[w.heap.size]? =some (.cells #[.pointer (some ⟨w5.heap.size+1,0,none⟩)] 53 (0,0))/\a.heap[w.heap.size+1]? =some (.cells #[.int .i64 0] 49 (0,0))/\np a (w5.heap.size+1) p l w5.heap.size y false/\Ch a w5.heap.size []/\B.ax a F p s S c/\aa (λk=>k=w.heap.size) w5 a/\a.heap.size=w5.heap.size+2:=by
 have m:=aa.setCell (F:=λk=>k=w.heap.size) w5 (p:=(aD w.heap.size 0)) rfl (.pointer (some ⟨w5.heap.size+1,0,none⟩));have i:=size_setCell w5 ⟨w.heap.size,0,none⟩ (.pointer (some ⟨w5.heap.size+1,0,none⟩));have f:(w5.setCell ⟨w.heap.size,0,none⟩ (.pointer (some ⟨w5.heap.size+1,0,none⟩))).heap[w.heap.size]? =some (.cells #[.pointer (some ⟨w5.heap.size+1,0,none⟩)] 53 (0,0)):=by
  rw [heap_setCell_same _ _ _ _ _ _ py];rfl
 have g:(w5.setCell ⟨w.heap.size,0,none⟩ (.pointer (some ⟨w5.heap.size+1,0,none⟩))).heap[w.heap.size+1]? =some (.cells #[.int .i64 0] 49 (0,0)):=(Below.heap_setCell _ _ _ _ (by simp)).trans fZ;generalize w5.setCell ⟨w.heap.size,0,none⟩ (.pointer (some ⟨w5.heap.size+1,0,none⟩))=b at*;have d:=cm b (.map #[] 0) (.cells (PE p l w5.heap.size y false) 95);have nr:=(Ch.made b).later (aJ (b.alloc (.map #[] 0)) (.cells (PE p l w5.heap.size y false) 95));have bw:((b.alloc (.map #[] 0)).alloc (.cells (PE p l w5.heap.size y false) 95)).heap[b.heap.size+1]? =some (.cells (PE p l w5.heap.size y false) 95 (0,0)):=by
  have:=heap_alloc_new (b.alloc (.map #[] 0)) (.cells (PE p l w5.heap.size y false) 95);rwa [World.size_alloc] at this
 rw [i] at nr bw;have j:((b.alloc (.map #[] 0)).alloc (.cells (PE p l w5.heap.size y false) 95)).heap.size=w5.heap.size+2:=by rw [World.size_alloc,World.size_alloc,i]
 rw [<-MN] at d nr bw j;exact⟨(d.block _ (aq f)).trans f,(d.block _ (aq g)).trans g,bw,nr,(hd.aw m (λk n e=>by have:=bq _ n;omega)).later d,m.trans (aa.ah (λ_=>False) d) (λ_ h=>h.elim),j⟩
def dQ.ae1 {B:Nat} {X:Nat->Prop} (h:dQ w B v rs X):K8 w v rs:=by
 obtain⟨l,j,k⟩:=h;refine⟨l,?_,λi f=>?_⟩
 .obtain⟨d,h|⟨g,a,cur,rfl,m,tA,b⟩⟩:=j
  .exact⟨d, .inl h⟩
  .exact⟨d, .inr ⟨g,a,cur,rfl,dV _,tA,b⟩⟩
 .obtain⟨g,c,b,e,_⟩:=k i f;exact⟨g,c,b,e⟩
section
def Az:∀{ks:List Nat} {l r:List Int} {cs:CM},dU ks l=some (cs,r)->cs.length=ks.length
 | [],l,r,cs,h=>by
  simp only [dU,Option.some.injEq,Prod.mk.injEq] at h;obtain⟨rfl,_⟩:=h;rfl
 |k :: ks,l,r,cs,h=>by
  rw [jB] at h;split at h
  .cases h
  .cases a:dU ks (l.drop 512) with
   |none=>rw [a] at h;cases h
   |some x=>
    rw [a] at h;simp only [Option.map_some,Option.some.injEq,Prod.mk.injEq] at h;obtain⟨rfl,rfl⟩:=h;simp [Az (cs:=x.1) (r:=x.2) a]
def OZ (h:gG blocks d=some cs):1<=cs.length/\cs.length<=16:=by
 unfold gG at h;split at h
 .cases h
 .split at h
  .rename_i j;cases e:gS blocks (le (d.take 2)) 0 (d.drop 2) with
   |none=>rw [e] at h;cases h
   |some x=>
    obtain⟨ks,r⟩:=x;rw [e] at h;have k:=(oU e).1;have c:jQ (dU ks r)=some cs:=h;cases f:dU ks r with
    |none=>rw [f] at c;cases c
    |some y=>
     obtain⟨i,g⟩:=y;rw [f] at c;cases g with
     |nil=>
      simp only [jQ,Option.some.injEq] at c;subst c;rw [Az f];omega
     |cons a b=>cases c
  .cases h
def tt (blocks:Nat) (ms:CM) (r:List Int) (rs:List (List Int)):iH blocks ms (r :: rs)=match gG blocks r with|none=>none|some cs=>iH blocks (CM.bT ms cs) rs:=rfl
def EL {b:Nat} (h:(b9 S a).2.2=0):S.num a<(ir S a b+1)*4294967296:=by
 have d:(b9 S a).1=S.num a / 4294967296:=by
  unfold b9 ik at*;split at h
  .cases h
  .rename_i c;rw [aB c];rfl
 have e:(b9 S a).1<=ir S a b:=by unfold ir;omega
 omega
def AB (du:S.Ok s) (c:L.begun=false) (e:L.f+1<s) (g:S.num L.f<(L.top+1)*4294967296) (i:L.top<1073741824):(L.start S s).1=0\/(L.start S s).1=3:=by
 unfold LG.start;split
 .exact .inr rfl
 .rw [aB (by rw [c];decide)];have b:(((L.top+1:Nat):Int)*4294967296+((0:Nat):Int))=(((L.top+1)*4294967296:Nat):Int):=by omega
  have vk:=iD (bu du L.f (by omega)) (bu du (L.f+1) e) (N:=(L.top+1)*4294967296) (by omega) g;rw [b];have d:(cZ S s L.f (((L.top+1)*4294967296:Nat):Int)).1=0\/(cZ S s L.f (((L.top+1)*4294967296:Nat):Int)).1=3:=by
   unfold cZ;by_cases a:S.fuse=0
   .rw [aG a];exact .inr rfl
   .rw [aB a,aB (by omega)];have mV:=fU (S.now L.f) (S.now (L.f+1)) (((L.top+1)*4294967296:Nat):Int) [];generalize aP (S.now L.f) (S.now (L.f+1)) (((L.top+1)*4294967296:Nat):Int) []=Y at*;rw [show (L.f:Int)+(Y.1:Int)=((L.f+Y.1:Nat):Int) by omega];split
    .exact G8 (by omega) _
    .unfold DS.fl;split
     .exact .inr rfl
     .exact .inl rfl
  split
  .exact d
  .exact .inl rfl
section
variable {w w':World} {X Y:Nat->Prop} {B B':Nat} {v u:Value} {ps qs:List (Nat×List Int)}
def Pn.cat (h:Pn w X B v ps) (z:Pn w Y B' u qs) (A:∀j,Y j->X j) (s:0<qs.length) (H:ps.length+qs.length<=1000000) (G:B<=w.heap.size):
  ∃a cq k,(Builtin.append_ #[127,127] 127 #[v,u]).run prog w= .ok (.slice (some (aD a 0)) (ps.length+qs.length) cq) k/\Pn k X B (.slice (some (aD a 0)) (ps.length+qs.length) cq) (ps ++ qs)/\aa (λj=>v.ownBlock=some j) w k:=by
 obtain⟨xs,l,mn,hd⟩:=h;obtain⟨o,b,_,cI⟩:=z;obtain⟨E,rL,gC,dE,ev⟩:=info_parts qq;obtain⟨I,F,rfl,lD⟩:=b.form;obtain⟨q,rfl,-⟩:=lD s;obtain⟨a,cq,k,bD,aA,aR,is,bq⟩:=run_append_lies (P:=prog) w 127 127 0 167 E _ 2 32 underlying127 rL gC dE ev rfl (by omega) v ps.length xs l.own (aD q 0) qs.length F o b.own.1 (λj x D=>b.own.cells (g:=q) rfl _ _ D) b.one s (by unfold maxLen;omega) (by omega) (dV _) w.heap.size rfl;have I7:=l.own.1;have f:∀i (d:i<(ps ++ qs).length) g c,(xs ++ o)[2*i+1]? =some (.slice (some (aD g 0)) 512 c)->X g:=λi d g c e=>by
  by_cases nC:i<ps.length
  .rw [List.getElem?_append_left (by omega)] at e;exact hd i nC g c e
  .rw [ed] at d;rw [List.getElem?_append_right (by omega),show 2*i+1-xs.length=2*(i-ps.length)+1 by omega] at e;exact A _ (cI _ (by omega) g c e)
 obtain⟨n,C⟩:=l.cat b (Z:=λ_=>True) aA aR (λ_ _=>trivial) (λ_ _ _ _ _=>trivial) trivial;refine⟨a,cq,k,bD,⟨xs ++ o,⟨n.own,λj m=> .inr m,λi d=>?_,n.len⟩,λj m=>?_,f⟩,C⟩
 .obtain⟨g,c,t,p,_,y⟩:=n.put i d;exact⟨g,c,t,p, .inl (f i d g c p),y⟩
 .have e:j=a:=by simpa [Value.ownBlock] using m.symm
  rcases is with r|r
  .rw [e];exact mn a r
  .omega
end
end
def AC (s l n:Int) (w:World) (c:18<=l) (d:l<=256) (i:4<=n) (j:n<=1024) (a:n%4=0) (s1:l+n / 4+6<=s) (s2:s<=2048):
  Calls prog 61 #[.agg #[iV s,iV l,iV n]] w λe w'=>e= .returned (.tuple #[.agg #[iV l,iV (3+l),iV (s-(3+l)),iV n,iV (2+n / 4)],iV 0])/\bW w w':=by
 have b:n.tmod 4=n%4:=Int.tmod_eq_emod_of_nonneg (by omega);have hd:n.tdiv 4=n / 4:=Int.tdiv_eq_ediv_of_nonneg (by omega);have f:¬l<18:=by omega
 have g:¬256<l:=by omega
 have k:¬n<4:=by omega
 have m:¬1024<n:=by omega
 have o:¬2048<s:=by omega
 have p:¬s<3+l+(2+n / 4)+1:=by omega
 go_in;go_wp2;refine bodyPost_ret (v:= .tuple #[.agg #[iV l,iV (3+l),iV (s-(3+l)),iV n,iV (2+n / 4)],iV 0]) (by simp [results,results61,go_sem] <;> omega) rfl ⟨rfl,cm w _ _⟩
def Ld (s l n:Int) (w:World) (h:¬(18<=l/\l<=256)):
  Calls prog 61 #[.agg #[iV s,iV l,iV n]] w λe w'=>e= .returned (.tuple #[.agg #[iV 0,iV 0,iV 0,iV 0,iV 0],iV 22])/\bW w w':=by
 by_cases b:18<=l
 .have c:¬l<=256:=by omega
  have a:¬l<18:=by omega
  have d:256<l:=by omega
  go_in;go_wp2;exact bodyPost_ret (v:= .tuple #[.agg #[iV 0,iV 0,iV 0,iV 0,iV 0],iV 22]) (by simp [results,results61,go_sem]) rfl ⟨rfl,cm w _ _⟩
 .have a:l<18:=by omega
  go_in;go_wp2;exact bodyPost_ret (v:= .tuple #[.agg #[iV 0,iV 0,iV 0,iV 0,iV 0],iV 22]) (by simp [results,results61,go_sem]) rfl ⟨rfl,cm w _ _⟩
def Le (s l n:Int) (w:World) (f:18<=l) (g:l<=256) (h:¬(4<=n/\n<=1024)):
  Calls prog 61 #[.agg #[iV s,iV l,iV n]] w λe w'=>e= .returned (.tuple #[.agg #[iV 0,iV 0,iV 0,iV 0,iV 0],iV 22])/\bW w w':=by
 have i:¬l<18:=by omega
 have j:¬256<l:=by omega
 by_cases b:4<=n
 .have c:¬n<=1024:=by omega
  have a:¬n<4:=by omega
  have d:1024<n:=by omega
  go_in;go_wp2;exact bodyPost_ret (v:= .tuple #[.agg #[iV 0,iV 0,iV 0,iV 0,iV 0],iV 22]) (by simp [results,results61,go_sem]) rfl ⟨rfl,cm w _ _⟩
 .have a:n<4:=by omega
  go_in;go_wp2;exact bodyPost_ret (v:= .tuple #[.agg #[iV 0,iV 0,iV 0,iV 0,iV 0],iV 22]) (by simp [results,results61,go_sem]) rfl ⟨rfl,cm w _ _⟩
def Lf (s l n:Int) (w:World) (c:18<=l) (d:l<=256) (i:4<=n) (j:n<=1024) (h:¬n%4=0):
  Calls prog 61 #[.agg #[iV s,iV l,iV n]] w λe w'=>e= .returned (.tuple #[.agg #[iV 0,iV 0,iV 0,iV 0,iV 0],iV 22])/\bW w w':=by
 have f:¬l<18:=by omega
 have g:¬256<l:=by omega
 have k:¬n<4:=by omega
 have m:¬1024<n:=by omega
 have b:n.tmod 4=n%4:=Int.tmod_eq_emod_of_nonneg (by omega);have a:(n%4 != 0)=true:=by rw [gB];exact h
 go_in;go_wp2;exact bodyPost_ret (v:= .tuple #[.agg #[iV 0,iV 0,iV 0,iV 0,iV 0],iV 22]) (by simp [results,results61,go_sem]) rfl ⟨rfl,cm w _ _⟩
def Lg (s l n:Int) (w:World) (g:18<=l) (i:l<=256) (m:4<=n) (o:n<=1024) (d:n%4=0) (h:¬(l+n / 4+6<=s/\s<=2048)):
  Calls prog 61 #[.agg #[iV s,iV l,iV n]] w λe w'=>e= .returned (.tuple #[.agg #[iV 0,iV 0,iV 0,iV 0,iV 0],iV 22])/\bW w w':=by
 have j:¬l<18:=by omega
 have k:¬256<l:=by omega
 have p:¬n<4:=by omega
 have q:¬1024<n:=by omega
 have f:n.tmod 4=n%4:=Int.tmod_eq_emod_of_nonneg (by omega);have hd:n.tdiv 4=n / 4:=Int.tdiv_eq_ediv_of_nonneg (by omega);by_cases c:3+l+(2+n / 4)+1<=s
 .have a:¬s<=2048:=by omega
  have b:2048<s:=by omega
  go_in;go_wp2;exact bodyPost_ret (v:= .tuple #[.agg #[iV 0,iV 0,iV 0,iV 0,iV 0],iV 22]) (by simp [results,results61,go_sem]) rfl ⟨rfl,cm w _ _⟩
 .have b:s<3+l+(2+n / 4)+1:=by omega
  by_cases a:2048<s
  .omega
  .clear h;go_in;go_wp2;exact bodyPost_ret (v:= .tuple #[.agg #[iV 0,iV 0,iV 0,iV 0,iV 0],iV 22]) (by simp [results,results61,go_sem]) rfl ⟨rfl,cm w _ _⟩
def vS (s l n:Int) (w:World):
  Calls prog 61 #[.agg #[iV s,iV l,iV n]] w λe w'=>∃v x,e= .returned (.tuple #[v,iV x])/\yo s l n v x/\bW w w':=by
 have b:¬vJ s l n->∀(e:Ending) (w':World),(e= .returned (.tuple #[.agg #[iV 0,iV 0,iV 0,iV 0,iV 0],iV 22])/\bW w w')->∃v x,e= .returned (.tuple #[v,iV x])/\yo s l n v x/\bW w w':=
  λi e w' h=>⟨_,_,h.1, .inr ⟨i,rfl,rfl⟩,h.2⟩
 by_cases a:18<=l/\l<=256
 .by_cases c:4<=n/\n<=1024
  .by_cases d:n%4=0
   .by_cases f:l+n / 4+6<=s/\s<=2048
    .exact(AC s l n w a.1 a.2 c.1 c.2 d f.1 f.2).mono (λe w' h=>⟨_,_,h.1, .inl ⟨⟨a,c,d,f⟩,rfl,rfl⟩,h.2⟩)
    .exact(Lg s l n w a.1 a.2 c.1 c.2 d f).mono (b (λg=>f g.2.2.2))
   .exact(Lf s l n w a.1 a.2 c.1 c.2 d).mono (b (λg=>d g.2.2.1))
  .exact(Le s l n w a.1 a.2 c).mono (b (λg=>c g.2.1))
 .exact(Ld s l n w a).mono (b (λg=>a g.1))
def AD {m:Nat} (h:q<l.length):part l q (m+1)=l.getD q 0 :: part l (q+1) m:=by
 unfold part;rw [List.drop_eq_getElem_cons h,List.take_succ_cons];simp [List.getD,h]
def yu (l:List Int) (at_ n:Nat) (r:Int):Prop:=r=((le (part l at_ n):Nat):Int)\/(r= -1/\18014398509481984<le (part l at_ n))
def EM {j:Nat} (h:q+j+k<=l.length):le (part l (q+j) k)<=le (part l q (j+k)):=by
 induction j generalizing q with
 |zero=>simp
 |succ j a=>
  have b:=a (q:=q+1) (by omega);rw [show j+1+k=(j+k)+1 by omega,AD (by omega),le,show q+(j+1)=q+1+j by omega];omega
def Lh (b o N c:Nat) (l:List Int) (a n:Nat) (w:World) (C:l.length=N) (m:Bytes l) (y:N<=1000000) (D:a+n<=N) (v:n<=8) (s:∀i,i<N->w.cell? ⟨b,o+i,none⟩=some (.int .u8 (l.getD i 0))):
  Calls prog 163 #[.slice (some (aD b o)) N c,iV (a:Int),iV (n:Int)] w λe w'=>(∃r,e= .returned (iV r)/\yu l a n r)/\w'=w:=by
 go_in;go_wp2;go_loopw [7,8] (λr i wr=>∃k:Nat,k<=n/\i=iV ((n:Int)-1-(k:Int))/\r=iV ((le (part l (a+(n-k)) k):Nat):Int)/\wr=w/\le (part l (a+(n-k)) k)<=9223372036854775807) (λ_ i _=>(intOf i+1).toNat);case atStart=>exact⟨0,dV _,by simp,by simp [part,le],rfl,by simp [part,le]⟩
 case round=>
  obtain⟨k,A,rfl,rfl,rfl,E⟩:=hrel;have YA:=EM (l:=l) (q:=a) (j:=n-k) (k:=k) (by omega);rw [show n-k+k=n by omega] at YA;by_cases bq:k<n
  .have t:(0:Int)<=(n:Int)-1-(k:Int):=(by omega);by_cases aU:18014398509481984<((le (part l (a+(n-k)) k):Nat):Int)
   .have d:(yu l a n (-1)):= .inr ⟨rfl,by have:=YA;omega⟩;generalize le (part l (a+(n-k)) k)=V at*;go_wp2;go_ret;exact⟨⟨_,rfl,d⟩,rfl⟩
   .have p:=s (a+(n-1-k)) (by omega);obtain⟨x,f,jJ⟩:∃x:Nat,l.getD (a+(n-1-k)) 0=(x:Int)/\x<256:=by
     have:=m l[a+(n-1-k)] (List.getElem_mem (by omega));refine⟨(l.getD (a+(n-1-k)) 0).toNat,?_,?_⟩<;> simp [List.getD,show a+(n-1-k)<l.length by omega] <;> omega
    have rQ:le (part l (a+(n-(k+1))) (k+1))=x+256*le (part l (a+(n-k)) k):=by
     rw [AD (by omega),le,show a+(n-(k+1))=a+(n-1-k) by omega,f,show a+(n-1-k)+1=a+(n-k) by omega];simp
    rw [f] at p;have g:(a:Int)+((n:Int)-1-(k:Int))=((a+(n-1-k):Nat):Int):=(by omega);have u:((a+(n-1-k):Nat):Int)<(N:Int):=(by omega);generalize z:le (part l (a+(n-k)) k)=V at*;generalize a+(n-1-k)=Q at*;go_wp2;go_roundw;case rel=>exact⟨k+1,by omega,by first|(congr 1;omega)|go_num,by rw [rQ];congr 1;omega,trivial,by rw [rQ];omega⟩
    case measure=>simp [intOf];omega
  .have t:¬(0:Int)<=(n:Int)-1-(k:Int):=(by omega);have Uo:k=n:=(by omega);subst Uo;have d:(yu l a k ((le (part l (a+(k-k)) k):Nat):Int)):= .inl (by simp);generalize le (part l (a+(k-k)) k)=V at*;go_wp2;go_ret;exact⟨⟨_,rfl,d⟩,rfl⟩
def aaW (a:Bytes l) (b:k+4<=l.length) {r:Int} (h:yu l k 4 r):r=((le (part l k 4):Nat):Int):=by
 rcases h with h|⟨_,h⟩
 .exact h
 .have:=lz (dT a k 4);rw [fD b] at this;have:(2:Nat) ^ (8*4)=4294967296:=rfl;omega
def ay.EN (h:Full w g l) (a:l.length<=1000000):ay w 5 g l.length (bs l):=by
 have:=ay.xP h (by simp [bs,maxLen];omega);simpa [bs] using this
def Full.src (h:Full w g l) (b:l.length<=1000000) (d:n<=l.length):Src w (some (aD g 0)) n (l.take n):=
   ⟨by simp;omega,(λh=>by cases h),λx c i a=>by
  cases c;rw [(ay.EN h b).byte (by omega)];simp [List.getD,a]⟩
def Full.lt (h:Full w g l):g<w.heap.size:=(lV.1 h).1
def Full.lU (h:Full w g l) (a:bW w w'):Full w' g l:=(a.block g h.lt).trans h
def aaX (n i:Nat) (h:i<n):(zs n).getD i 0=0:=by simp [zs,List.getD,h]
def Full.set (h:Full w g l) (i:Nat) (x:Int):Full (w.setCell ⟨g,i,none⟩ (.int .u8 x)) g (l.set i x):=Hf x h
def Full.cell (h:Full w g l) {i:Nat} (a:i<l.length):w.cell? (aD g i)=some (.int .u8 (l.getD i 0)):=aj h (by simp [bs,List.getD,a])
def Full.frozen (h:Full w g l) (i:Nat):w.frozen? (aD g i)=false:=ae h i
def Tj:(((((((zs 8 ++ zs 504).set 0 118).set 1 101).set 2 108).set 3 108).set 4 117).set 5 109).set 7 1=gz ++ zs 504:=by
 have e:∀(a:List Int) (i:Nat) (x:Int),i<a.length->(a ++ zs 504).set i x=a.set i x ++ zs 504:=λa i x h=>List.set_append_left i x h;rw [e _ _ _ (by decide),e _ _ _ (by decide),e _ _ _ (by decide),e _ _ _ (by decide),e _ _ _ (by decide),e _ _ _ (by decide),e _ _ _ (by decide)];rfl
def uK (s l n:Nat) (w:World) (K:vJ s l n):
  Calls prog 67 #[.agg #[iV (s:Int),iV (l:Int),iV (n:Int)]] w λe w'=>∃v,e= .returned (.tuple #[v,iV 0])/\Made w w' v (eV (bP s l n)):=by
 obtain⟨⟨O,P⟩,⟨Q,R⟩,J,s1,s2⟩:=K;have M:=λw=>AC s l n w O P Q R J s1 s2;obtain⟨N,t,gC,dE,ev⟩:=info_parts gh;go_in;go_wp2_with fail;refine(M _).mono ?_;rintro e w1 ⟨rfl,ar⟩;have bO:=((bi _ w).alloc (bS _) _).trans (ar.mono (by simp));have x:w1.heap[w.heap.size]? =some (.cells #[.int .i64 (s:Int), .int .i64 (l:Int), .int .i64 (n:Int)] 39 (0,0)):=(ar.block _ (by simp)).trans (heap_alloc_new _ _);have Bc:=(lV.1 x).1;obtain⟨b,dD⟩:∃b,b=w1.alloc (.cells #[.int .i64 (l:Int), .int .i64 (3+(l:Int)), .int .i64 ((s:Int)-(3+(l:Int))), .int .i64 (n:Int), .int .i64 (2+(n:Int) / 4)] 86):=⟨_,rfl⟩;have eR:bW w b:=by rw [dD];exact bO.alloc bO.size _
 have qP:b.heap[w.heap.size]? =some (.cells #[.int .i64 (s:Int), .int .i64 (l:Int), .int .i64 (n:Int)] 39 (0,0)):=by rw [dD];exact(Below.heap_alloc _ _ _ Bc).trans x
 have aj2:=(lV.1 qP).1;go_wp2_with (at_make;rw [<-dD];refine wpList_make_full _ rfl _ _ 36 rfl b.heap.size 5 N (.int .u8 0) 1 underlying36 t gC dE _ _ _ _ 512 rfl rfl ?c1 ?c2 ?c3 ?c4 ?c5 ?_);case c1=>rfl
 case c2=>rfl
 case c3=>rw [ev];omega
 case c4=>unfold maxLen;omega
 case c5=>exact bS _
 intro r aA aR;have A8:=lW aA;rw [<-dD] at aR;have U:b.heap.size=w1.heap.size+1:=by rw [dD];simp
 have bF:=(bi _ b).grown aR (bS _) (by intro k L;cases L);have PU:Full r (w1.heap.size+1) (zs 8 ++ zs 504):=by
  have:=A8.full (by simp only [bs,List.length_map,List.length_replicate]);rw [<-lY];exact this
 have jU:=eR.trans (bF.mono eR.size);have Oi:=(bF.block _ aj2).trans qP;have aqL:(zs 8 ++ zs 504).length=512:=by rw [ed,bH,bH]
 have z:∀i,i<8->r.cell? ⟨w1.heap.size+1,i,none⟩=some (.int .u8 0):=λi t=>by
  rw [PU.cell (by omega)];rw [<-lY,aaX _ _ (by omega)]
 obtain⟨y0,y1,y2,y3,y4,y5,y7⟩:=nA (PU.frozen 0) (PU.frozen 1) (PU.frozen 2) (PU.frozen 3) (PU.frozen 4) (PU.frozen 5) (PU.frozen 7);have dM:¬w.heap.size=w1.heap.size+1:=by omega
 have W:=aM Oi;go_wp2;refine wp_loop_rounds 7 ?_;rw [rounds_succ];go_wp2;rw [rounds_succ];go_wp2;rw [rounds_succ];go_wp2;rw [rounds_succ];go_wp2;rw [rounds_succ];go_wp2;rw [rounds_succ];go_wp2;rw [rounds_succ];go_wp2_with fail;have D:∀wx:World,Full wx (w1.heap.size+1) (gz ++ zs 504)->Calls prog 119 #[.slice (some ⟨w1.heap.size+1,0,none⟩) 512 512,iV 8,iV 4,iV (s:Int)] wx λe w'=>e= .returned (.tuple #[])/\Full w' (w1.heap.size+1) ((gz ++ bB 4 s) ++ (zs 4 ++ zs 496))/\aa (λj=>j=w1.heap.size+1) wx w':=λwx a=>by
  have:=rl (w1.heap.size+1) 512 512 gz (zs 4) (zs 500) 8 4 s wx (by rw [<-lY];exact a) rfl (bH 4) (by rw [ed,ed,bH,bH];rfl) (by omega) (by omega);rw [show zs 500=zs 4 ++ zs 496 from lY 4 496,<-List.append_assoc] at this;exact this
 have E:∀wx:World,Full wx (w1.heap.size+1) ((gz ++ bB 4 s) ++ (zs 4 ++ zs 496))->Calls prog 119 #[.slice (some ⟨w1.heap.size+1,0,none⟩) 512 512,iV 12,iV 4,iV (l:Int)] wx λe w'=>e= .returned (.tuple #[])/\Full w' (w1.heap.size+1) ((gz ++ bB 4 s ++ bB 4 l) ++ (zs 4 ++ zs 492))/\aa (λj=>j=w1.heap.size+1) wx w':=λwx a=>by
  have:=rl (w1.heap.size+1) 512 512 (gz ++ bB 4 s) (zs 4) (zs 496) 12 4 l wx a (by rw [ed,aK];rfl) (bH 4) (by rw [ed,ed,ed,bH,bH,aK];rfl) (by omega) (by omega);rw [show zs 496=zs 4 ++ zs 492 from lY 4 492,<-List.append_assoc] at this;exact this
 have G:∀wx:World,Full wx (w1.heap.size+1) ((gz ++ bB 4 s ++ bB 4 l) ++ (zs 4 ++ zs 492))->Calls prog 119 #[.slice (some ⟨w1.heap.size+1,0,none⟩) 512 512,iV 16,iV 4,iV (n:Int)] wx λe w'=>e= .returned (.tuple #[])/\Full w' (w1.heap.size+1) (bP s l n ++ (zs 4 ++ []))/\aa (λj=>j=w1.heap.size+1) wx w':=λwx a=>by
  have:=rl (w1.heap.size+1) 512 512 (gz ++ bB 4 s ++ bB 4 l) (zs 4) (zs 492) 16 4 n wx a (by rw [ed,ed,aK,aK];rfl) (bH 4) (by rw [ed,ed,ed,ed,bH,bH,aK,aK];rfl) (by omega) (by omega);rw [show zs 492=zs 488 ++ zs 4 from lY 488 4] at this;have e:gz ++ bB 4 s ++ bB 4 l ++ (bB 4 n ++ (zs 488 ++ zs 4))=bP s l n ++ (zs 4 ++ []):=by rw [List.append_nil,<-List.append_assoc,<-List.append_assoc];rfl
  rw [e] at this;exact this
 have H:∀wx:World,Full wx (w1.heap.size+1) (bP s l n ++ (zs 4 ++ []))->Calls prog 120 #[.slice (some ⟨w1.heap.size+1,0,none⟩) 508 512] wx λe w'=>e= .returned (iV ((sumOf (bP s l n):Nat):Int))/\bW wx w':=λwx a=>by
  refine OD _ _ _ _ wx (ib s l n) (by omega) ?_;have:=a.src (by rw [ed,dG,List.append_nil,bH];omega) (n:=508) (by rw [ed,dG];omega);rw [List.take_left' (dG s l n)] at this;exact this
 have mV:=ny (ib s l n);have I:∀wx:World,Full wx (w1.heap.size+1) (bP s l n ++ (zs 4 ++ []))->Calls prog 119 #[.slice (some ⟨w1.heap.size+1,0,none⟩) 512 512,iV 508,iV 4,iV ((sumOf (bP s l n):Nat):Int)] wx λe w'=>e= .returned (.tuple #[])/\Full w' (w1.heap.size+1) (eV (bP s l n))/\aa (λj=>j=w1.heap.size+1) wx w':=λwx a=>by
  have:=rl (w1.heap.size+1) 512 512 (bP s l n) (zs 4) [] 508 4 (sumOf (bP s l n)) wx a (dG s l n) (bH 4) (by rw [ed,dG,List.append_nil,bH]) (by omega) (by omega);rw [List.append_nil] at this;exact this
 refine(D _ ?full).mono ?_;case full=>
  have:=((((((PU.set 0 118).set 1 101).set 2 108).set 3 108).set 4 117).set 5 109).set 7 1;rw [Tj] at this;exact this
 have C:=(((((((aa.refl (λj=>j=w1.heap.size+1) r).trans (aa.setCell (F:=λj=>j=w1.heap.size+1) (p:=⟨w1.heap.size+1,0,none⟩) _ rfl (.int .u8 118)) (λ_ h=> .inl h)).trans (aa.setCell (F:=λj=>j=w1.heap.size+1) (p:=⟨w1.heap.size+1,1,none⟩) _ rfl (.int .u8 101)) (λ_ h=> .inl h)).trans (aa.setCell (F:=λj=>j=w1.heap.size+1) (p:=⟨w1.heap.size+1,2,none⟩) _ rfl (.int .u8 108)) (λ_ h=> .inl h)).trans (aa.setCell (F:=λj=>j=w1.heap.size+1) (p:=⟨w1.heap.size+1,3,none⟩) _ rfl (.int .u8 108)) (λ_ h=> .inl h)).trans (aa.setCell (F:=λj=>j=w1.heap.size+1) (p:=⟨w1.heap.size+1,4,none⟩) _ rfl (.int .u8 117)) (λ_ h=> .inl h)).trans (aa.setCell (F:=λj=>j=w1.heap.size+1) (p:=⟨w1.heap.size+1,5,none⟩) _ rfl (.int .u8 109)) (λ_ h=> .inl h)).trans (aa.setCell (F:=λj=>j=w1.heap.size+1) (p:=⟨w1.heap.size+1,7,none⟩) _ rfl (.int .u8 1)) (λ_ h=> .inl h);rintro e w5 ⟨rfl,f,dX⟩;have ae2:=C.trans dX (λ_ h=> .inl h);have nR:=(ae2.block _ (lV.1 Oi).1 dM).trans Oi;have jr:=jU.trans (ae2.below (λj o=>by omega) jU.size);have c5:=bG nR;go_wp2_with fail;refine(E _ f).mono ?_;rintro e X ⟨rfl,g,jE⟩;have q:=(jE.block _ (lV.1 nR).1 dM).trans nR;have xy:=jr.trans (jE.below (λj o=>by omega) jr.size);have T:=bK q;go_wp2_with fail;refine(G _ g).mono ?_;rintro e Y ⟨rfl,c,gQ⟩;have FA:=xy.trans (gQ.below (λj o=>by omega) xy.size);go_wp2_with fail;refine(H _ c).mono ?_;rintro e Z ⟨rfl,BS⟩;have Yr:=FA.trans (BS.mono FA.size);have d:=(c.lU BS);go_wp2_with fail;refine(I _ d).mono ?_;rintro e S ⟨rfl,m,Bb⟩;have A:(Made w S (.slice (some ⟨w1.heap.size+1,0,none⟩) 512 512) (eV (bP s l n))):=by
  have u:(eV (bP s l n)).length=512:=by rw [oN,dG]
  have y:=ay.EN m (by omega);rw [u] at y;exact⟨w1.heap.size+1,512,by rw [u],by omega,y,Yr.trans (Bb.below (λj o=>by omega) Yr.size)⟩
 go_wp2;go_ret2;exact⟨_,rfl,A⟩
def BY (s l n:Int) (w:World) (b:¬vJ s l n):
  Calls prog 67 #[.agg #[iV s,iV l,iV n]] w λe w'=>e= .returned (.tuple #[.slice none 0 0,iV 22])/\bW w w':=by
 have c:∀w,Calls prog 61 #[.agg #[iV s,iV l,iV n]] w λe w'=>e= .returned (.tuple #[.agg #[iV 0,iV 0,iV 0,iV 0,iV 0],iV 22])/\bW w w':=λw=>by
  refine(vS s l n w).mono ?_;rintro e w' ⟨v,x,rfl,⟨h,_⟩|⟨_,rfl,rfl⟩,a⟩
  .exact absurd h b
  .exact⟨rfl,a⟩
 go_in;go_wp2_with fail;refine(c _).mono ?_;rintro e w1 ⟨rfl,ar⟩;have bO:=((bi _ w).alloc (bS _) _).trans (ar.mono (by simp));go_wp2;go_ret2;exact⟨rfl,(λo=>bO.alloc bO.size o) _⟩
def rp (b o N c:Nat) (l:List Int) (k:Nat) (w:World) (f:l.length=N) (a:Bytes l) (d:N<=1000000) (g:k+4<=N) (m:∀i,i<N->w.cell? ⟨b,o+i,none⟩=some (.int .u8 (l.getD i 0))):
  Calls prog 163 #[.slice (some (aD b o)) N c,iV (k:Int),iV 4] w λe w'=>e= .returned (iV ((u32 l k:Nat):Int))/\w'=w:=by
 refine(Lh b o N c l k 4 w f a d g (by omega) m).mono ?_;rintro e w' ⟨⟨r,rfl,j⟩,rfl⟩;exact⟨by rw [aaW a (by omega) j];rfl,rfl⟩
def kz (s l n:Nat):(eV (bP s l n)).length=512:=(oN _).trans (congrArg (·+4) (dG s l n))
def Made.out (h:Made w w' v l) (a:l.length=n):∃g c,v= .slice (some (aD g 0)) n c/\w.heap.size<=g/\ay w' 5 g c (bs l)/\bW w w':=by
 subst a;exact h
def Tk (l:List Int) (v:Value) (x:Int):Prop:=(Au l/\v= .agg #[iV ((u32 l 8:Nat):Int),iV ((u32 l 12:Nat):Int),iV ((u32 l 16:Nat):Int)]/\x=0)\/(¬Au l/\v= .agg #[iV 0,iV 0,iV 0]/\x=6)
def rZ (b o c:Nat) (l:List Int) (w:World) (r:l.length=512) (s:Bytes l) (n:∀i,i<512->w.cell? ⟨b,o+i,none⟩=some (.int .u8 (l.getD i 0))) (G:vJ (u32 l 8) (u32 l 12) (u32 l 16)) (x:Bool) (H:decide (eV (bP (u32 l 8) (u32 l 12) (u32 l 16))=l)=x):
  Calls prog 121 #[.slice (some (aD b o)) 512 c] w λe w'=>e= .returned (.tuple #[if x then .agg #[iV ((u32 l 8:Nat):Int),iV ((u32 l 12:Nat):Int),iV ((u32 l 16:Nat):Int)] else .agg #[iV 0,iV 0,iV 0],iV (if x then 0 else 6)])/\bW w w':=by
 obtain⟨w1,bL⟩:=bQ (w.alloc (.cells #[.int .i64 0, .int .i64 0, .int .i64 0] 39));have bO:bW w w1:=by rw [bL];exact(bi _ w).alloc (bS _) _
 have iM:w1.heap[w.heap.size]? =some (.cells #[.int .i64 0, .int .i64 0, .int .i64 0] 39 (0,0)):=by rw [bL];exact heap_alloc_new _ _
 have sq:w1.heap.size=w.heap.size+1:=by rw [bL];simp
 have J:Calls prog 163 #[.slice (some (aD b o)) 512 c,iV 8,iV 4] w1 λe w'=>e= .returned (iV ((u32 l 8:Nat):Int))/\w'=w1:=rp b o 512 c l 8 w1 r s (by omega) (by omega) (λi a=>cell_later bO (n i a));have K:Calls prog 163 #[.slice (some (aD b o)) 512 c,iV 12,iV 4] w1 λe w'=>e= .returned (iV ((u32 l 12:Nat):Int))/\w'=w1:=rp b o 512 c l 12 w1 r s (by omega) (by omega) (λi a=>cell_later bO (n i a));have L:Calls prog 163 #[.slice (some (aD b o)) 512 c,iV 16,iV 4] w1 λe w'=>e= .returned (iV ((u32 l 16:Nat):Int))/\w'=w1:=rp b o 512 c l 16 w1 r s (by omega) (by omega) (λi a=>cell_later bO (n i a));obtain⟨z,A,u,y,Tl⟩:=eK K L n H ((λwx=>uK (u32 l 8) (u32 l 12) (u32 l 16) wx G));generalize u32 l 8=X at*;generalize u32 l 12=Y at*;generalize u32 l 16=Z at*;clear n K L G H;go_in;go_wp2_with fail;rw [<-bL];clear bL;refine bN J λM d=>?_;have eM:=d.symm;subst eM;clear d J;go_wp2_with fail;refine bN z λM d=>?_;have eM:=d.symm;subst eM;clear d z;go_wp2_with fail;refine bN A λM d=>?_;have eM:=d.symm;subst eM;clear d A;have qP:(w1.alloc (.cells #[.int .i64 (X:Int), .int .i64 (Y:Int), .int .i64 (Z:Int)] 39)).heap[w1.heap.size]? =some (.cells #[.int .i64 (X:Int), .int .i64 (Y:Int), .int .i64 (Z:Int)] 39 (0,0)):=heap_alloc_new _ _;have eR:bW w (w1.alloc (.cells #[.int .i64 (X:Int), .int .i64 (Y:Int), .int .i64 (Z:Int)] 39)):=bO.alloc bO.size _;have Tm:(w1.alloc (.cells #[.int .i64 (X:Int), .int .i64 (Y:Int), .int .i64 (Z:Int)] 39)).heap[w.heap.size]? =some (.cells #[.int .i64 0, .int .i64 0, .int .i64 0] 39 (0,0)):=(Below.heap_alloc _ _ _ (by omega)).trans iM;have jD:(w1.alloc (.cells #[.int .i64 (X:Int), .int .i64 (Y:Int), .int .i64 (Z:Int)] 39)).heap.size=w.heap.size+2:=by simp;omega
 have k:=(aH qP (aH eR (aH Tm jD)));clear qP eR Tm jD bO iM;go_wp2_with fail;refine(Tl _).mono ?_;rintro e O ⟨v,rfl,wP⟩;have ip:=kz X Y Z;obtain⟨g,N,rfl,Fp,A8,bF⟩:=wP.out ip;clear wP;have jU:=k.2.1.trans (bF.mono (by have:=k.2.2.2;omega));have Va:=sY g 0 b o 512 N c (eV (bP X Y Z)) l O ip r (by omega) (λi a=>by have:=A8.byte (i:=i) (by omega);rwa [aN] at this) (λi a=>cell_later jU (u i a));rw [y] at Va;have I:=(bF.block w1.heap.size (by have:=k.2.2.2;omega)).trans k.1;have p3:=(bF.block w.heap.size (by have:=k.2.2.2;omega)).trans k.2.2.1;have f:=(aH I (aH p3 jU));clear Tl A8 bF I p3 jU k Fp;go_wp2_with fail;refine bN Va λP fw=>?_;have q:=(fw.block _ (lV.1 f.1).1).trans f.1;have m:=(fw.block _ (lV.1 f.2.1).1).trans f.2.1;rw [sq] at q;obtain⟨Q,R,S,C,D,E,T,U,W,jV⟩:=wc (aM q) (bG q) (bK q) (aM m) (bG m) (bK m) (ae m 0) (ae m 1) (ae m 2) (f.2.2.trans (fw.mono f.2.2.size));clear Va fw q m f y u;have t:=(λ(u0 u1 u2:Value)=>aa.below (B:=w.heap.size) (((aa.setCell (F:=λj=>j=w.heap.size) (p:=⟨w.heap.size,0,none⟩) P rfl u0).trans (aa.setCell (F:=λj=>j=w.heap.size) (p:=⟨w.heap.size,1,none⟩) _ rfl u1) (λ_ h=> .inl h)).trans (aa.setCell (F:=λj=>j=w.heap.size) (p:=⟨w.heap.size,2,none⟩) _ rfl u2) (λ_ h=> .inl h)) (λj hj=>by omega) jV.size);cases x
 .go_wp2;exact bodyPost_ret (v:= .tuple #[.agg #[iV 0,iV 0,iV 0],iV 6]) (by simp [results,results121,go_sem,C,D,E]) rfl ⟨rfl,jV.trans (t _ _ _)⟩
 .go_wp2;exact bodyPost_ret (v:= .tuple #[.agg #[iV (X:Int),iV (Y:Int),iV (Z:Int)],iV 0]) (by simp [results,results121,go_sem,C,D,E]) rfl ⟨rfl,jV.trans (t _ _ _)⟩
def xM (b o c:Nat) (l:List Int) (w:World) (n:l.length=512) (m:Bytes l) (k:∀i,i<512->w.cell? ⟨b,o+i,none⟩=some (.int .u8 (l.getD i 0))) (s:¬vJ (u32 l 8) (u32 l 12) (u32 l 16)):
  Calls prog 121 #[.slice (some (aD b o)) 512 c] w λe w'=>e= .returned (.tuple #[.agg #[iV 0,iV 0,iV 0],iV 6])/\bW w w':=by
 obtain⟨w1,bL⟩:=bQ (w.alloc (.cells #[.int .i64 0, .int .i64 0, .int .i64 0] 39));have bO:bW w w1:=by rw [bL];exact(bi _ w).alloc (bS _) _
 have iM:w1.heap[w.heap.size]? =some (.cells #[.int .i64 0, .int .i64 0, .int .i64 0] 39 (0,0)):=by rw [bL];exact heap_alloc_new _ _
 have sq:w1.heap.size=w.heap.size+1:=by rw [bL];simp
 have t:Calls prog 163 #[.slice (some (aD b o)) 512 c,iV 8,iV 4] w1 λe w'=>e= .returned (iV ((u32 l 8:Nat):Int))/\w'=w1:=rp b o 512 c l 8 w1 n m (by omega) (by omega) (λi g=>cell_later bO (k i g));have u:Calls prog 163 #[.slice (some (aD b o)) 512 c,iV 12,iV 4] w1 λe w'=>e= .returned (iV ((u32 l 12:Nat):Int))/\w'=w1:=rp b o 512 c l 12 w1 n m (by omega) (by omega) (λi g=>cell_later bO (k i g));have x:Calls prog 163 #[.slice (some (aD b o)) 512 c,iV 16,iV 4] w1 λe w'=>e= .returned (iV ((u32 l 16:Nat):Int))/\w'=w1:=rp b o 512 c l 16 w1 n m (by omega) (by omega) (λi g=>cell_later bO (k i g));have q:=u;have r:=x;have Tl:=(λwx=>BY (u32 l 8) (u32 l 12) (u32 l 16) wx s);generalize u32 l 8=X at*;generalize u32 l 12=Y at*;generalize u32 l 16=Z at*;clear k u x s;go_in;go_wp2_with fail;rw [<-bL];clear bL;refine bN t λy a=>?_;have eM:=a.symm;subst eM;clear a t;go_wp2_with fail;refine bN q λy a=>?_;have eM:=a.symm;subst eM;clear a q;go_wp2_with fail;refine bN r λy a=>?_;have eM:=a.symm;subst eM;clear a r;have qP:(w1.alloc (.cells #[.int .i64 (X:Int), .int .i64 (Y:Int), .int .i64 (Z:Int)] 39)).heap[w1.heap.size]? =some (.cells #[.int .i64 (X:Int), .int .i64 (Y:Int), .int .i64 (Z:Int)] 39 (0,0)):=heap_alloc_new _ _;have eR:bW w (w1.alloc (.cells #[.int .i64 (X:Int), .int .i64 (Y:Int), .int .i64 (Z:Int)] 39)):=bO.alloc bO.size _;have Tm:(w1.alloc (.cells #[.int .i64 (X:Int), .int .i64 (Y:Int), .int .i64 (Z:Int)] 39)).heap[w.heap.size]? =some (.cells #[.int .i64 0, .int .i64 0, .int .i64 0] 39 (0,0)):=(Below.heap_alloc _ _ _ (by omega)).trans iM;have jD:(w1.alloc (.cells #[.int .i64 (X:Int), .int .i64 (Y:Int), .int .i64 (Z:Int)] 39)).heap.size=w.heap.size+2:=by simp;omega
 have f:=(aH qP (aH eR (aH Tm jD)));clear qP eR Tm jD bO iM;go_wp2_with fail;refine(Tl _).mono ?_;rintro e D ⟨rfl,bF⟩;have rF:=f.2.1.trans (bF.mono (by have:=f.2.2.2;omega));have d:=(bF.block w.heap.size (by have:=f.2.2.2;omega)).trans f.2.2.1;obtain⟨z,A,C,E,G,H,jV⟩:=nA (aM d) (bG d) (bK d) (ae d 0) (ae d 1) (ae d 2) rF;clear Tl bF d rF f;go_wp2;exact bodyPost_ret (v:= .tuple #[.agg #[iV 0,iV 0,iV 0],iV 6]) (by simp [results,results121,go_sem,z,A,C]) rfl ⟨rfl,jV.trans ((λ(u0 u1 u2:Value)=>aa.below (B:=w.heap.size) (((aa.setCell (F:=λj=>j=w.heap.size) (p:=⟨w.heap.size,0,none⟩) D rfl u0).trans (aa.setCell (F:=λj=>j=w.heap.size) (p:=⟨w.heap.size,1,none⟩) _ rfl u1) (λ_ h=> .inl h)).trans (aa.setCell (F:=λj=>j=w.heap.size) (p:=⟨w.heap.size,2,none⟩) _ rfl u2) (λ_ h=> .inl h)) (λj I=>by omega) jV.size) _ _ _)⟩
def BZ (b o c:Nat) (l:List Int) (w:World) (g:l.length=512) (f:Bytes l) (j:∀i,i<512->w.cell? ⟨b,o+i,none⟩=some (.int .u8 (l.getD i 0))):
  Calls prog 121 #[.slice (some (aD b o)) 512 c] w λe w'=>∃v x,e= .returned (.tuple #[v,iV x])/\Tk l v x/\bW w w':=by
 by_cases a:vJ (u32 l 8) (u32 l 12) (u32 l 16)
 .by_cases d:eV (bP (u32 l 8) (u32 l 12) (u32 l 16))=l
  .refine(rZ b o c l w g f j a true (by simp [d])).mono ?_;rintro e w' ⟨rfl,h⟩;exact⟨_,_,rfl, .inl ⟨⟨a,d⟩,rfl,rfl⟩,h⟩
  .refine(rZ b o c l w g f j a false (by simp [d])).mono ?_;rintro e w' ⟨rfl,h⟩;exact⟨_,_,rfl, .inr ⟨λh=>d h.2,rfl,rfl⟩,h⟩
 .refine(xM b o c l w g f j a).mono ?_;rintro e w' ⟨rfl,h⟩;exact⟨_,_,rfl, .inr ⟨λh=>a h.1,rfl,rfl⟩,h⟩
end Go.Proofs.YtcpdggdfihjhoaaGreat
