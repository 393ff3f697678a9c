import Derived.Test.YtcpdggdfihjhoabGreatW01
import Derived.Test.YtcpdggdfihjhoabGreatW05
import Derived.Test.YtcpdggdfihjhoabGreatW06
import Derived.Test.YtcpdggdfihjhoabGreatW07
import Derived.Test.YtcpdggdfihjhoabGreatW08
import Derived.Test.YtcpdggdfihjhoabGreatW09
import Derived.Scope
import Derived.WalkMore
set_option maxRecDepth 20000
set_option maxHeartbeats 8000000
set_option linter.all false
namespace Go.Proofs.YtcpdggdfihjhoabGreat
open Go.Proofs.Tryz
open Go.RowKit Go.Maps
variable {cs ms ov:CM} {S:DS} {L:LG} {y:LY} {rs:List (List Int)} {d l:List Int} {a blocks c g hd k n p q s:Nat} {F:Nat->Prop} {u v:Value} {W w w':World}
section
open Go.RowKit Go.Shelf
attribute [local go_sem] Oper.semAt_some
def fE (d:List Int) (i:Nat):Nat:=le ((d.drop (2+4*i)).take 4)
structure PtI (w W:World) (n0:Nat) (ns:List Nat):Prop where
 bx:∃v,W.heap[w.heap.size]? =some (.cells #[v] 109 (0,0))/\W.ownsRow n0 3 1 v ns.length (vZ ns)
 kp:Below w.heap.size w W
 sz:n0<=W.heap.size
def PtI.grown {W':World} {c:Nat} {ns:List Nat} {row:Option Nat} (h:PtI w W c ns) (s:w.heap.size<c) (b:W.grownBy W' row) (n:∀r,row=some r->c<=r/\∃o:Obj,W.heap[r]? =some o/\o.isCells=false):PtI w W' c ns:=by
 obtain⟨⟨v,d,i⟩,l,p⟩:=h;have dM:∀k cur t f,W.heap[k]? =some (.cells cur t f)->some k≠row:=λk cur t f q e=>by
  obtain⟨_,o,m,a⟩:=n k e.symm;rw [q] at m;cases m;cases a
 refine⟨⟨v,(b.block _ (aq d) (dM _ _ _ _ d)).trans d,mC i (λg Cg=>?_)⟩,l.grown b l.size (λj e=>by have:=(n j e).1;omega),j3 p b.size⟩;obtain⟨cur,a⟩:=bz i Cg;exact b.block g (aq a) (dM _ _ _ _ a)
def uA {P:Program} {b:Array Oper} {l:Nat} {f:Nat} {a:Act} {K:Act->World->Prop} {S:World->Prop} {Q:Exit->Act->World->Prop} (d:P.follows .mixedOrders=true) (hd:tV b=true) (h:wpAnyH P .any b (Exit.then K (λ_ _ _=>False)) S b.size (Array.replicate b.size false) a w.drew) (c:∀a w,K a w->Q .normal a w):
    (Code.region f b true).wpIn (Fence.wide.inRound l) n P Q a w:=
 wpIn_mono (wpIn_region_any d (sB hd (λ⟨_,_,h⟩=>h) _ _ _ _ (wpAny_of_held _ _ _ _ h))) (λe a w h=>by cases e <;> first|exact c _ _ h|exact h.elim)
def WI {B:Nat} {b:List Value} (be:W.ownsRow B 3 1 v k b) (x:Int) (p:k<=1000000) (o:B<=W.heap.size):
  ∃g a w',(Builtin.append_ #[109,109] 109 #[v, .slice (some ⟨W.heap.size,0,none⟩) 1 1]).run prog (W.alloc (.cells #[.int .i64 x] 3))= .ok (.slice (some ⟨g,0,none⟩) (k+1) a) w'/\w'.ownsRow B 3 1 (.slice (some ⟨g,0,none⟩) (k+1) a) (k+1) (b ++ [.int .i64 x])/\(W.alloc (.cells #[.int .i64 x] 3)).grownBy w' v.ownBlock/\(v.ownBlock=some g\/g=W.heap.size+1):=by
 obtain⟨n,m,gB,dC,eu⟩:=info_parts Dq;obtain⟨g,a,w',c,d,f,i,_⟩:=run_append_lies (P:=prog) (W.alloc (.cells #[.int .i64 x] 3)) 109 109 B 3 n (.int .i64 0) 1 8 underlying109 m gB dC eu rfl (by decide) v k b (dR be (λg l=>by
   obtain⟨cur,j⟩:=bz be l;exact Below.heap_alloc _ _ _ (aq j))) ⟨W.heap.size,0,none⟩ 1 1 [.int .i64 x] rfl (World.news_of_block (cs:= #[.int .i64 x]) (t:=3) (fr:=(0,0)) (heap_alloc_new W _)) (by simp [Value.oneCell']) (by omega) (by unfold maxLen;omega) (by omega) (by simp;omega) _ rfl
 exact⟨g,a,w',c,d,f,i.imp (λe=>e) (λe=>e.trans (by simp))⟩
def oR {d:Func} {p q r:Tmp} (h:d.results= #[.cell p 109, .tmp q, .tmp r]) (b:Array Value) (w:World) (g:Nat) (a:Option Addr) (n c:Nat) (u v:Value)
    (f:b.getD p undef= .pointer (some ⟨g,0,none⟩)) (i:b.getD q undef=u) (j:b.getD r undef=v) (k:w.cell? ⟨g,0,none⟩=some (.slice a n c)):(results d b).run prog w= .ok (.tuple #[.slice a n c,u,v]) w:=by
 have Y9:b[p]?.getD undef= .pointer (some ⟨g,0,none⟩):=by simpa using f
 have Zl:b[q]?.getD undef=u:=by simpa using i
 have Bt:b[r]?.getD undef=v:=by simpa using j
 have e:(loadVar 109 ⟨g,0,none⟩).run prog w= .ok (.slice a n c) w:=by simp [go_sem,k]
 simp [results,h,Y9,Zl,Bt,asAddr,e]
def Hv (a:Option Addr) (n c:Nat) (w:World) (j:n<2):
  Calls prog 154 #[.slice a n c] w λe w'=>e= .returned (.tuple #[.slice none 0 0, .slice none 0 0, .bool false])/\Below w.heap.size w w':=by
 have i:(n:Int)<2:=by omega
 have f:=aJ w (.cells #[.slice none 0 0] 109);have iq:=heap_alloc_new w (.cells #[.slice none 0 0] 109);have d:=aM iq;have g:=ae iq 0;have b:=(aH d f);go_in;go_wp2;refine bodyPost_ret (oR rfl _ _ w.heap.size none 0 0 (.slice none 0 0) (.bool false) rfl rfl rfl b.1) rfl ⟨rfl,b.2⟩
def OI (b o n c:Nat) (d:List Int) (w:World) (f:Src w (some ⟨b,o,none⟩) n d) (hd:Bytes d) (l:2<=n) (PA:n<=c) (UH:n<=1000000) (DP:¬(1<=le (d.take 2)/\le (d.take 2)<=16)\/n≠2+516*le (d.take 2)):
  Calls prog 154 #[.slice (some ⟨b,o,none⟩) n c] w λe w'=>e= .returned (.tuple #[.slice none 0 0, .slice none 0 0, .bool false])/\Below w.heap.size w w':=by
 have r:¬(n:Int)<2:=by omega
 have qN:=f.1;have a:=aJ w (.cells #[.slice none 0 0] 109);have iq:=heap_alloc_new w (.cells #[.slice none 0 0] 109);have k:=aM iq;have p:=ae iq 0;have i:=(aH k a);have bo:=(f.sub 0 2 (by omega)).later a;rw [List.drop_zero,Nat.add_zero] at bo;have j:=sI b o 2 c (d.take 2) _ bo (hd.take 2) (by omega);obtain⟨el,sN⟩:=bQ (le (d.take 2));have aqt:el<65536:=by
  rw [sN];have:=lw (hd.take 2);have e:(d.take 2).length=2:=by simp;omega
  rw [e] at this;exact this
 rw [<-sN] at j DP;have Bq:(2:Int)<=(c:Int):=by omega
 have g:((el:Int)<1)\/(¬(el:Int)<1/\(16:Int)<(el:Int))\/(¬(el:Int)<1/\¬(16:Int)<(el:Int)/\((n:Int) != 2+(el:Int)*4+(el:Int)*512)=true):=by
  rw [gA];omega
 clear a iq bo sN f hd qN DP l;rcases g with q|⟨q,m⟩|⟨q,m,s⟩;all_goals
  go_in;go_wp2_with fail;refine bM j λw1 bO=>?_;subst bO;go_wp2;refine bodyPost_ret (oR rfl _ _ w.heap.size none 0 0 (.slice none 0 0) (.bool false) rfl rfl rfl i.1) rfl ⟨rfl,i.2⟩
set_option maxRecDepth 100000 in
def SO (b o n c el:Nat) (d:List Int) (w:World) (Y:Src w (some ⟨b,o,none⟩) n d) (hd:Bytes d) (PA:n<=c) (hc6:c<=9223372036854775807) (sN:le (d.take 2)=el) (h1:1<=el) (UE:el<=16) (U:n=2+516*el):
  Calls prog 154 #[.slice (some ⟨b,o,none⟩) n c] w λe w'=>∃g a cc,e= .returned (.tuple #[.slice (some ⟨g,0,none⟩) el a, .slice (some ⟨b,o+(2+4*el),none⟩) (512*el) cc, .bool true])/\512*el<=cc/\w.heap.size<=g/\ay w' 3 g a (vZ ((List.range el).map (fE d)))/\Below w.heap.size w w':=by
 have g1:¬(n:Int)<2:=by omega
 have qN:=Y.1;have T:=aJ w (.cells #[.slice none 0 0] 109);have iq:=heap_alloc_new w (.cells #[.slice none 0 0] 109);obtain⟨C,KU⟩:=bQ (w.alloc (.cells #[.slice none 0 0] 109));have dC:C.heap.size=w.heap.size+1:=by rw [KU,World.size_alloc]
 rw [<-KU] at T iq;have bo:=(Y.sub 0 2 (by omega)).later T;rw [List.drop_zero,Nat.add_zero] at bo;have k1:=sI b o 2 c (d.take 2) _ bo (hd.take 2) (by omega);rw [sN] at k1;have g2:(2:Int)<=(c:Int):=by omega
 have q1:¬(el:Int)<1:=by omega
 have q2:¬(16:Int)<(el:Int):=by omega
 have q3:((n:Int) != 2+(el:Int)*4+(el:Int)*512)=false:=by
  rw [bne_eq_false_iff_eq];omega
 obtain⟨HH,HW,r,HS⟩:=Bh (aH T iq) KU (aH U sN) (aH Y hd);clear T iq bo sN Y hd qN U KU;refine(callsIn_wide (n:=6)).1 ?_;refine callsIn_of_wp_marks func154 rfl trivial ?_ rfl;simp only [ntmps154,List.size_toArray,List.length_cons,List.length_nil,Nat.reduceAdd,Nat.reduceSub,Array.replicate_succ,Array.replicate_zero,List.push_toArray,List.append_toArray,List.nil_append,List.cons_append];refine(wpIn_wide (n:=6)).2 ?_;go_wp2_with fail;rw [<-HW.o];refine k1.mono ?_;rintro e w1 ⟨rfl,bO⟩;have jO:=bO.symm;subst jO;clear bO k1;obtain⟨fr,ww⟩:∃fr:Nat,fr=2+4*el:=⟨_,rfl⟩;have J:(2:Int)+(el:Int)*4=(fr:Int):=by omega
 have e2:(2:Int)<=(fr:Int):=by omega
 have e3:(fr:Int)<=(c:Int):=by have:=r.o.1;omega
 have e4:(2:Int)<(c:Int):=by have:=r.o.1;omega
 rw [J] at q3;have Mp:=yh ww;clear ww;go_wp2_with fail;obtain⟨m,u⟩:=bQ (fr-2);obtain⟨z,Qb⟩:=bQ (c-2);rw [<-u,<-Qb];have HX:=yh (aH u Qb);have L:m=4*el:=by have:=Mp.o;omega
 have ZS:m<=z:=by have:=Mp.o;have:=r.o.1;omega
 have Yl:=yh L;clear u Qb L;refine(KT (some ⟨b,o+2,none⟩) m z C).mono ?_;rintro e p ⟨rfl,pk⟩;go_wp2_with fail;refine(wpIn_wide (n:=6)).1 ?_;have fw:Below C.heap.size C p:=by rw [pk];exact gX _ _ _
 have wk:p.heap.size=w.heap.size+3:=by rw [pk];simp;omega
 have Ej:p.heap[w.heap.size+1]? =some (.cells #[.slice (some ⟨b,o+2,none⟩) m z] 22 (0,0)):=by
  rw [pk,<-dC];exact(Below.heap_alloc _ _ _ (by simp)).trans (heap_alloc_new _ _)
 have Wf:p.heap[w.heap.size+1+1]? =some (.cells #[.int .i64 4] 3 (0,0)):=by
  rw [pk,<-dC];have:=heap_alloc_new (C.alloc (.cells #[.slice (some ⟨b,o+2,none⟩) m z] 22)) (.cells #[.int .i64 4] 3);rwa [World.size_alloc] at this
 rw [<-pk];clear pk;have rB:=HH.o.1.trans (fw.mono HH.o.1.size);have Z1:=rB.size;have hI0:PtI w p p.heap.size ([]:List Nat):=⟨⟨.slice none 0 0,(fw.block _ (by omega)).trans HH.o.2,World.ownsRow_nil _ _ _ _⟩,rB,bS _⟩;refine wpIn_rangeFunc_ownH rfl (by omega) (gf:=225) (lb:= #[.pointer (some ⟨w.heap.size+1,0,none⟩), .pointer (some ⟨w.heap.size+1+1,0,none⟩)]) rfl trivial (enters_of func225 (by kernel_rfl) rfl)
    (EB (6-1) (by omega) (w.heap.size+1) (w.heap.size+1+1) b (o+2) m z el (by have:=Yl.o;omega) (by have:=Yl.o;omega) ZS (by have:=Yl.o;omega) p Ej Wf) vm.t (vm.b (by omega) (by omega)) (bi _ _) (λ_=>rfl)
    (λl W=>PtI w W p.heap.size (l.map (λx:Fin el=>fE d x.1)))
    (λ_ _ _=>False)
  ?hI ?hIx hI0
    (λy a' _=>a'={tmps:= #[.slice (some ⟨b,o,none⟩) n c,undef, .pointer (some ⟨w.heap.size,0,none⟩), .slice none 0 0, .bool false, .int .i64 (el:Int), .int .i64 (fr:Int), .slice (some ⟨b,o+2+4*y.1,none⟩) (mX m y.1) (mX m y.1), .slice (some ⟨b,o,none⟩) n c, .int .i64 (n:Int), .bool false, .slice (some ⟨b,o,none⟩) n c, .slice (some ⟨b,o,none⟩) 2 c, .int .i64 (el:Int), .int .i64 (el:Int), .int .i64 ((el:Int)*4), .int .i64 (fr:Int), .int .i64 (el:Int), .bool (decide ((el:Int)<1)), .bool (decide ((el:Int)<1)), .int .i64 (el:Int), .bool (decide ((16:Int)<(el:Int))), .bool (decide ((el:Int)<1) || decide ((16:Int)<(el:Int))), .bool (decide ((el:Int)<1) || decide ((16:Int)<(el:Int))), .slice (some ⟨b,o,none⟩) n c, .int .i64 (n:Int), .int .i64 (fr:Int), .int .i64 (el:Int), .int .i64 ((el:Int)*512), .int .i64 ((fr:Int)+(el:Int)*512), .bool false, .bool (decide ((el:Int)<1) || decide ((16:Int)<(el:Int))), .slice (some ⟨b,o,none⟩) n c, .int .i64 (fr:Int), .slice (some ⟨b,o+2,none⟩) m z, .func (.func 225) #[] #[.pointer (some ⟨w.heap.size+1,0,none⟩), .pointer (some ⟨w.heap.size+1+1,0,none⟩)], .slice (some ⟨b,o+2+4*y.1,none⟩) (mX m y.1) (mX m y.1),undef,undef,undef,undef,undef,undef,undef,undef,undef],defers:= []}) ?hAx ?assign ?body ?done ?stop
 case hI=>exact λ_ _ _ _ h hg hr=>h.grown (by omega) hg hr
 case hIx=>exact λ_ _ _ _ _ h _ _=>h.elim
 case hAx=>exact λ_ _ _ _ _ _ h _ _=>h
 case assign=>
  intro l' l y W K hI f;simp only [MF]
  gi_wp2
  exact f _ _ (KeepsFrom.refl _ _) (vm.refl _ _ _) hI rfl
 case body=>
  rintro l' l y a' W Ul ⟨rr,I2⟩ hI rfl bq;obtain⟨⟨v,iq,aA⟩,eZ,eE⟩:=hI;have hy:=y.2;have Uu:prog.follows .mixedOrders=true:=by kernel_rfl
  have yw:mX m y.1=4:=by unfold mX;have:=Yl.o;omega
  have X3:Src W (some ⟨b,o+2+4*y.1,none⟩) 4 ((d.drop (2+4*y.1)).take 4):=by
   have:=(HS.o.1.sub (2+4*y.1) 4 (by have:=r.o.1;omega)).later (eZ.mono (bS _));rwa [<-Nat.add_assoc] at this
  have M:Bytes ((d.drop (2+4*y.1)).take 4):=(HS.o.2.drop _).take 4;have ff:=sI b (o+2+4*y.1) 4 4 _ W.drew (X3.later (ai (bi _ _))) M (by omega);have GJ:(l ++ [y]).map (λx:Fin el=>fE d x.1)=l.map (λx:Fin el=>fE d x.1) ++ [fE d y.1]:=by simp
  have hx:le ((d.drop (2+4*y.1)).take 4)=fE d y.1:=rfl;rw [hx] at ff;have O:(l.map (λx:Fin el=>fE d x.1)).length<=1000000:=by rw [List.length_map];omega
  generalize hX:fE d y.1=X at ff GJ;generalize hNs:l.map (λx:Fin el=>fE d x.1)=ns at GJ O aA;obtain⟨g,a,W5,bD,Bv,Gn,Wk⟩:=WI (W:=W.drew) aA (X:Int) O eE;have gW:=aJ W.drew (.cells #[.int .i64 (X:Int)] 3);have R:(W.drew.alloc (.cells #[.int .i64 (X:Int)] 3)).heap.size=W.heap.size+1:=by simp
  have mi:∀k,v.ownBlock=some k->p.heap.size<=k:=λk e=>(aA.lt k e).1;have db:∀k,v.ownBlock=some k->∃cur,W.heap[k]? =some (.cells cur 3 (0,0)):=λk e=>bz aA e;have aV:∀k,k<W.heap.size->¬v.ownBlock=some k->W5.heap[k]? =W.heap[k]? :=λk h1 G=>(Gn.block k (by rw [R];omega) (λe=>G e.symm)).trans (gW.block k h1);have pL:W.heap.size+1<=W5.heap.size:=by have:=Gn.size;rw [R] at this;exact this
  have Q:=aq iq;have Vg:¬v.ownBlock=some w.heap.size:=λe=>by have:=mi _ e;omega
  have WJ:=(aV _ Q Vg).trans iq;have s0:W.drew.cell? ⟨w.heap.size,0,none⟩=some v:=aj (w:=W) iq (j:=0) rfl;have s1:(W.drew.alloc (.cells #[.int .i64 (X:Int)] 3)).cell? ⟨w.heap.size,0,none⟩=some v:=aM ((gW.block _ Q).trans iq);have s5:W5.cell? ⟨w.heap.size,0,none⟩=some v:=aM WJ;have f5:W5.frozen? ⟨w.heap.size,0,none⟩=false:=ae WJ 0;have ew:=aL (F:=λk=>k=w.heap.size) W5 rfl 0 (.slice (some ⟨g,0,none⟩) (ns.length+1) a);have fa:Below w.heap.size w W5:=⟨(Gn.os.trans gW.os).trans eZ.os,(Gn.tape.trans gW.tape).trans eZ.tape,(Gn.output.trans gW.output).trans eZ.output,by have:=eZ.size;omega,λk hk=>(aV k (by have:=eZ.size;omega) (λe=>by have:=mi k e;omega)).trans (eZ.block k hk)⟩;have Z:Yh (KeepsFrom p.heap.size W (W5.setCell ⟨w.heap.size,0,none⟩ (.slice (some ⟨g,0,none⟩) (ns.length+1) a))/\vm (w.heap.size+1) (w.heap.size+1+1) W (W5.setCell ⟨w.heap.size,0,none⟩ (.slice (some ⟨g,0,none⟩) (ns.length+1) a))/\PtI w (W5.setCell ⟨w.heap.size,0,none⟩ (.slice (some ⟨g,0,none⟩) (ns.length+1) a)) p.heap.size (ns ++ [X])):=by
   have dX:KeepsFrom p.heap.size W W5:=⟨by omega,λk ob h1 G h3=>(aV k (aq G) (λe=>by
    obtain⟨cur,I⟩:=db k e;rw [I] at G;cases G;cases h3)).trans G⟩
   refine⟨dX.trans ((KeepsOthers.setCell _ _ _).from _),⟨(ew.block _ (by omega) (by omega)).trans (aV _ (by omega) (λe=>by have:=mi _ e;omega)),(ew.block _ (by omega) (by omega)).trans (aV _ (by omega) (λe=>by have:=mi _ e;omega))⟩,⟨⟨.slice (some ⟨g,0,none⟩) (ns.length+1) a,(heap_setCell_same _ _ 0 _ _ _ WJ).trans (by simp),?_⟩,fa.trans (ew.below (λk e=>by omega) fa.size),by have:=ew.size;omega⟩⟩;have J:(ns ++ [X]).length=ns.length+1:=(by simp);have e2:vZ (ns ++ [X])=vZ ns ++ [.int .i64 (X:Int)]:=(by simp [vZ]);rw [J,e2];refine mC Bv (λk e=>ew.block k ?_ ?_)
   .obtain⟨cur,I⟩:=bz Bv e;exact aq I
   .intro e2;have h8:g=k:=(by simpa [Value.ownBlock] using e);rcases Wk with H|H
    .have:=mi _ H;omega
    .have Y8:g=W.heap.size+1:=H;omega
  rw [yw];have HMp:=yh GJ;clear GJ X3 M aA iq eZ fa ew aV db mi gW Bv Gn Wk WJ
  gi_wp2_with fail
  have nJ:=yh bD;have s2:(W.alloc (.cells #[.int .i64 (X:Int)] 3)).drew.cell? ⟨w.heap.size,0,none⟩=some v:=s1;clear bD;refine uA (S:=λ_=>True) (K:=λ_ W'=>W'=W5.setCell ⟨w.heap.size,0,none⟩ (.slice (some ⟨g,0,none⟩) (ns.length+1) a)) Uu (by kernel_rfl) ?_ (λa1 w1 J=>by rw [J];exact⟨Z.o.1,Z.o.2.1,by have H:=Z.o.2.2;rw [<-HMp.o] at H;exact H⟩);refine wpAnyH_take (i:=1) (v:= .slice (some ⟨b,o+2+4*y.1,none⟩) 4 4) rfl (by kernel_rfl) (by kernel_rfl) (by kernel_rfl) (λ_ _ _ h=>h) (Or.inl ⟨by rfl,?_⟩) trivial ?_
  .intro C hS;go_simp
  try simp only [Act.put,List.setIfInBounds_toArray]
  refine wpAnyH_ready (rs:= [0,2]) (by kernel_rfl) (by simp) (AllReadyH.cons rfl (λK f=>?_) (AllReadyH.cons rfl (λK f=>?_) AllReadyH.nil))
  .skip
   go_simp;refine f.out _ _ trivial (λ_=>?_);clear f K;try simp only [Act.put,List.setIfInBounds_toArray,List.set_cons_zero,List.set_cons_succ]
   refine wpAnyH_ready (rs:= [2]) (by kernel_rfl) (by simp) (AllReadyH.cons rfl (λK f=>?_) AllReadyH.nil);go_simp;refine ff.mono ?_;rintro e W2 ⟨rfl,dE⟩;have KH:=dE.symm;subst KH;refine f.out _ _ trivial (λ_=>?_);clear f K;try simp only [Act.put,List.setIfInBounds_toArray,List.set_cons_zero,List.set_cons_succ]
   refine wpAnyH_ready (rs:= [3]) (by kernel_rfl) (by simp) (AllReadyH.cons rfl (λK f=>?_) AllReadyH.nil);go_simp;refine f.out _ _ trivial (λ_=>?_);clear f K;try simp only [Act.put,List.setIfInBounds_toArray,List.set_cons_zero,List.set_cons_succ]
   refine wpAnyH_ready (rs:= [4]) (by kernel_rfl) (by simp) (AllReadyH.cons rfl (λK f=>?_) AllReadyH.nil);rw [aG (by rfl)];refine eA _ _ 109 rfl _ _ _ rfl rfl nJ.o ?_;refine f.out _ _ trivial (λ_=>?_);clear f K;try simp only [Act.put,List.setIfInBounds_toArray]
   refine wpAnyH_ready (rs:= [5]) (by kernel_rfl) (by simp) (AllReadyH.cons rfl (λK f=>?_) AllReadyH.nil);go_simp;refine f.out _ _ trivial (λ_=>?_);clear f K;try simp only [Act.put,List.setIfInBounds_toArray,List.set_cons_zero,List.set_cons_succ]
   exact wpAnyH_done (by kernel_rfl) rfl _
  .skip
   go_simp;refine ff.mono ?_;rintro e W2 ⟨rfl,dE⟩;have KH:=dE.symm;subst KH;refine f.out _ _ trivial (λ_=>?_);clear f K;try simp only [Act.put,List.setIfInBounds_toArray,List.set_cons_zero,List.set_cons_succ]
   refine wpAnyH_ready (rs:= [0,3]) (by kernel_rfl) (by simp) (AllReadyH.cons rfl (λK f=>?_) (AllReadyH.cons rfl (λK f=>?_) AllReadyH.nil))
   .skip
    go_simp;refine f.out _ _ trivial (λ_=>?_);clear f K;try simp only [Act.put,List.setIfInBounds_toArray,List.set_cons_zero,List.set_cons_succ]
    refine wpAnyH_ready (rs:= [3]) (by kernel_rfl) (by simp) (AllReadyH.cons rfl (λK f=>?_) AllReadyH.nil);go_simp;refine f.out _ _ trivial (λ_=>?_);clear f K;try simp only [Act.put,List.setIfInBounds_toArray,List.set_cons_zero,List.set_cons_succ]
    refine wpAnyH_ready (rs:= [4]) (by kernel_rfl) (by simp) (AllReadyH.cons rfl (λK f=>?_) AllReadyH.nil);rw [aG (by rfl)];refine eA _ _ 109 rfl _ _ _ rfl rfl nJ.o ?_;refine f.out _ _ trivial (λ_=>?_);clear f K;try simp only [Act.put,List.setIfInBounds_toArray]
    refine wpAnyH_ready (rs:= [5]) (by kernel_rfl) (by simp) (AllReadyH.cons rfl (λK f=>?_) AllReadyH.nil);go_simp;refine f.out _ _ trivial (λ_=>?_);clear f K;try simp only [Act.put,List.setIfInBounds_toArray,List.set_cons_zero,List.set_cons_succ]
    exact wpAnyH_done (by kernel_rfl) rfl _
   .skip
    go_simp;refine f.out _ _ trivial (λ_=>?_);clear f K;try simp only [Act.put,List.setIfInBounds_toArray,List.set_cons_zero,List.set_cons_succ]
    refine wpAnyH_ready (rs:= [0]) (by kernel_rfl) (by simp) (AllReadyH.cons rfl (λK f=>?_) AllReadyH.nil);go_simp;refine f.out _ _ trivial (λ_=>?_);clear f K;try simp only [Act.put,List.setIfInBounds_toArray,List.set_cons_zero,List.set_cons_succ]
    refine wpAnyH_ready (rs:= [4]) (by kernel_rfl) (by simp) (AllReadyH.cons rfl (λK f=>?_) AllReadyH.nil);rw [aG (by rfl)];refine eA _ _ 109 rfl _ _ _ rfl rfl nJ.o ?_;refine f.out _ _ trivial (λ_=>?_);clear f K;try simp only [Act.put,List.setIfInBounds_toArray]
    refine wpAnyH_ready (rs:= [5]) (by kernel_rfl) (by simp) (AllReadyH.cons rfl (λK f=>?_) AllReadyH.nil);go_simp;refine f.out _ _ trivial (λ_=>?_);clear f K;try simp only [Act.put,List.setIfInBounds_toArray,List.set_cons_zero,List.set_cons_succ]
    exact wpAnyH_done (by kernel_rfl) rfl _
 case done=>
  intro D xs W hD oC hI J4;have GJ:xs.map Fin.val=List.range el:=oC;have L6:xs.map (λx:Fin el=>fE d x.1)=(List.range el).map (fE d):=by
   rw [<-GJ,List.map_map];rfl
  rw [L6] at hI;obtain⟨⟨v,iq,aA⟩,eZ,eE⟩:=hI;have hl:((List.range el).map (fE d)).length=el:=by simp
  rw [hl] at aA;obtain⟨g,a,rfl,hg,be,_⟩:=ay.fe aA (λe=>by
   rw [e] at aA;obtain⟨_,⟨_,h0⟩|⟨g,a,cur,h0,_⟩⟩:=aA
   .omega
   .cases h0)
  have c0:W.cell? ⟨w.heap.size,0,none⟩=some (.slice (some ⟨g,0,none⟩) el a):=aM iq;have f0:W.frozen? ⟨w.heap.size,0,none⟩=false:=ae iq 0;have e6:(fr:Int)<=(n:Int):=by have:=r.o.1;have:=Mp.o;omega
  have e7:¬c=fr:=by have:=r.o.1;have:=Mp.o;omega
  have e8:(0:Int)<=(fr:Int):=by omega
  have c1:(W.setCell ⟨w.heap.size,0,none⟩ (.slice (some ⟨g,0,none⟩) el a)).drew.cell? ⟨w.heap.size,0,none⟩=some (.slice (some ⟨g,0,none⟩) el a):=aj (w:=W.setCell ⟨w.heap.size,0,none⟩ (.slice (some ⟨g,0,none⟩) el a)) (heap_setCell_same _ _ 0 _ _ _ iq) (j:=0) (by simp);have s:=yh (aH be (aH eZ (aH hg iq)));clear aA GJ L6 oC be eZ iq;go_wp2_with fail;go_region_held3 (λw'=>w'.cell? ⟨w.heap.size,0,none⟩=some (.slice (some ⟨g,0,none⟩) el a)/\w'.frozen? ⟨w.heap.size,0,none⟩=false) (first|exact⟨c1,by go_simp⟩|go_keep) (fail);have ew:=aL (F:=λk=>k=w.heap.size) W rfl 0 (.slice (some ⟨g,0,none⟩) el a);have VQ:(W.setCell ⟨w.heap.size,0,none⟩ (.slice (some ⟨g,0,none⟩) el a)).heap[w.heap.size]? =some (.cells #[.slice (some ⟨g,0,none⟩) el a] 109 (0,0)):=(heap_setCell_same _ _ 0 _ _ _ s.o.2.2.2).trans (by simp);have hDl:D<W.heap.size:=aq J4;have WK:(W.setCell ⟨w.heap.size,0,none⟩ (.slice (some ⟨g,0,none⟩) el a)).drew.heap[D]? =some (.deferred (some [])):=(ew.block D hDl (by omega)).trans J4;have pb:Below w.heap.size w (W.setCell ⟨w.heap.size,0,none⟩ (.slice (some ⟨g,0,none⟩) el a)).drew:=s.o.2.1.trans (ai (ew.below (λk e=>by omega) s.o.2.1.size));have q:ay (W.setCell ⟨w.heap.size,0,none⟩ (.slice (some ⟨g,0,none⟩) el a)).drew 3 g a (vZ ((List.range el).map (fE d))):=s.o.1.agree (ew.block g s.o.1.lt (by have:=s.o.2.2.1;omega));obtain⟨E,Z5⟩:=bQ ((W.setCell ⟨w.heap.size,0,none⟩ (.slice (some ⟨g,0,none⟩) el a)).drew);have aeE:E.heap[w.heap.size]? =some (.cells #[.slice (some ⟨g,0,none⟩) el a] 109 (0,0)):=by rw [Z5];exact VQ
  rw [<-Z5] at WK pb q⊢;have hgD:g≠D:=λe=>by
   obtain⟨cur,I,_⟩:=q;rw [e,WK] at I;cases I
  have UJ:∀k,k≠D->(E.putObj D (.deferred none)).heap[k]? =E.heap[k]? :=λk hk=>World.putObj_heap_other hk;have N:(E.putObj D (.deferred none)).cell? ⟨w.heap.size,0,none⟩=some (.slice (some ⟨g,0,none⟩) el a):=aM ((UJ _ (by omega)).trans aeE);have P:n-fr=512*el:=by have:=r.o.1;have:=Mp.o;omega
  have WB:512*el<=c-fr:=by have:=r.o.1;have:=Mp.o;omega
  have RY:aa (λk=>k=D) E (E.putObj D (.deferred none)):=⟨rfl,rfl,rfl,by simp [World.putObj],λk _ U=>UJ k U⟩;have A:=yh (aH WK (aH N (aH P (aH WB (aH (q.agree (UJ g hgD)) (pb.trans (RY.below (λk e=>by omega) pb.size)))))));clear WK N P WB q pb VQ aeE ew UJ Z5 c0 f0 c1 RY;go_wp2;refine⟨by simp, .inl ⟨_,_,rfl,run_takeDeferred A.o.1,?_⟩⟩;refine⟨_,oR rfl _ _ w.heap.size (some ⟨g,0,none⟩) el a (.slice (some ⟨b,o+fr,none⟩) (n-fr) (c-fr)) (.bool true) rfl rfl rfl A.o.2.1,?_⟩;refine⟨g,a,c-fr,?_,A.o.2.2.2.1,by have:=s.o.2.2.1;omega,A.o.2.2.2.2.1,A.o.2.2.2.2.2⟩;rw [A.o.2.2.1,Mp.o]
 case stop=>
  rintro D c l W hD _ h J4;exact h.elim
end
def SP (hd:Bytes d) (i:Nat):fE d i<4294967296:=by
 have:=lw ((hd.drop (2+4*i)).take 4);have e:((d.drop (2+4*i)).take 4).length<=4:=by rw [List.length_take];omega
 have a:2 ^ (8*((d.drop (2+4*i)).take 4).length)<=2 ^ 32:=Nat.pow_le_pow_right (by omega) (by omega);have b:(2:Nat) ^ 32=4294967296:=rfl;unfold fE;omega
def OJ (d:List Int) (i:Nat):(List.range (i+1)).map (fE d)=(List.range i).map (fE d) ++ [fE d i]:=by
 rw [List.range_succ,List.map_append];rfl
def MG:∀(ks:List Nat) (r:List Int) (i:Nat) (a:i<ks.length),(mW ks r).take (i+1)=(mW ks r).take i ++ [(ks[i],(r.drop (512*i)).take 512)]
 | [],_,i,a=>by simp at a
 |k :: ks,r,0,_=>by simp [mW]
 |k :: ks,r,i+1,a=>by
  rw [mW,List.take_succ_cons,List.take_succ_cons,MG ks (r.drop 512) i (by simpa using a),List.drop_drop,show 512+512*i=512*(i+1) by omega];rfl
def Hw {m:Nat} (b:m<w.heap.size) (a:Option Addr) (n c:Nat) (blocks:Nat)
    (f:Calls prog 154 #[.slice a n c] w λe w'=>e= .returned (.tuple #[.slice none 0 0, .slice none 0 0, .bool false])/\bW w w'):
  Calls prog 107 #[.map (some m), .slice a n c,iV (blocks:Int)] w λe w'=>e= .returned (.bool false)/\bW w w':=by
 go_in;go_wp2_with fail;refine bM f λw1 d=>?_;go_wp2;go_loopw [9,23] (λj i wr=>j= .bool false/\i=iV 0/\wr=w1) (λ_ _ _=>0);case atStart=>exact⟨rfl,rfl,rfl⟩
 case round=>
  obtain⟨rfl,rfl,g⟩:=hrel;have eM:=g.symm;subst eM;go_wp2;go_ret;exact⟨rfl,d⟩
def SQ {m:Nat} (h:Ch w m ms) (b o n c el:Nat) (d:List Int) (L:Src w (some (aD b o)) n d) (hd:Bytes d) (PA:n<=c) (pf:c<=9223372036854775807) (P:b≠m) (blocks:Nat) (lx:blocks<=2048) (sN:le (d.take 2)=el) (h1:1<=el) (UE:el<=16) (hn:n=2+516*el):
  Calls prog 107 #[.map (some m), .slice (some (aD b o)) n c,iV (blocks:Int)] w λe w'=>aa (λk=>k=m) w w'/\((∃cs,gF blocks d=some cs/\e= .returned (.bool true)/\Ch w' m (CM.bT ms cs))\/(gF blocks d=none/\e= .returned (.bool false)/\Ch w' m ms)):=by
 have B7:=h.lt;have qN:d.length=n:=L.1;have k1:=SO b o n c el d w L hd PA pf sN h1 UE hn;have I:=Ar (blocks:=blocks) (d:=d) (by omega) (by rw [sN];omega);rw [sN] at I;have v:=L.sub (2+4*el) (512*el) (by omega);have rM:∀lo i,i<el->ll blocks d el ((List.range i).map (fE d)) lo i=if lo<=fE d i/\fE d i<blocks then ll blocks d el ((List.range (i+1)).map (fE d)) (fE d i+1) (i+1) else none:=λlo i Z=>by
  have:=wQ (blocks:=blocks) (d:=d) (c:=el) (lo:=lo) (i:=i) (ks:=(List.range i).map (fE d)) Z (by omega);rw [OJ];exact this
 obtain⟨rest,j1⟩:=bQ (d.drop (2+4*el));have rF:rest.length=512*el:=by rw [j1,List.length_drop];omega
 have BG:Bytes rest:=by rw [j1];exact hd.drop _
 rw [<-j1,nr (by omega)] at v;have lG:∀lo,ll blocks d el ((List.range el).map (fE d)) lo el=some (mW ((List.range el).map (fE d)) rest):=λlo=>by
  rw [j1];exact As (by simp) (by omega)
 have ml:=λi=>SP hd i;obtain⟨R,u⟩:=bQ (gF blocks d);rw [<-u] at I⊢;have At:∀cs,R=some cs->∀x∈cs,x.1<blocks:=λcs h=>oQ (by rw [<-u];exact h);have q:=yh (aH h (aH v (aH I (aH lG (aH rM (aH BG (aH rF At)))))));clear L hd u I lG rM j1 qN hn sN v h BG rF At;go_in;go_wp2_with fail;refine k1.mono ?_;rintro e w1 ⟨g,cap,W,rfl,aeF,hg,be,ar⟩;have dC:=ar.size;have p:=yh (aH be (aH ar (aH aeF (aH PA pf))));clear k1 be ar aeF PA pf;go_wp2;go_loopw [9,10,23] (λwv av z wr=>∃(i lo:Nat) (A:Int) (D:Bool),z=iV i/\av=iV A/\wv= .bool D/\A=(lo:Int)-1/\lo<=4294967297/\i<=el/\wr=w1/\(D=true->R=ll blocks d el ((List.range i).map (fE d)) lo i)/\(D=false->R=none)) (λ_ _ z _=>el-(intOf z).toNat);case atStart=>exact⟨0,0,-1,true,rfl,rfl,rfl,by omega,by omega,by omega,rfl,λ_=>q.o.2.2.1,λh=>by cases h⟩
 case round=>
  obtain⟨i,lo,A,D,rfl,rfl,rfl,t,mi,Z,hw,a,F⟩:=hrel;have eM:=hw.symm;subst eM;have r:=yh (aH t (aH a F));clear hw t a F;by_cases bq:i<el
  .have cC:(i:Int)<(el:Int):=(by omega);have KV:i<((List.range el).map (fE d)).length:=(by simpa using bq);have q0:w1.cell? (aD g i)=some (iV (fE d i:Int)):=p.o.1.cell (j:=i) (by simp [vZ,bq]);have hnK:=ml i;have bw:=q.o.2.2.2.2.1 lo i bq;generalize Y:fE d i=K at*;obtain⟨HK,gY⟩:=bU Y bw;clear Y bw ml;cases D with
   |false=>
    have F:=r.o.2.2 rfl;have l:=yh F;clear F;go_wp2;go_roundw;case rel=>exact⟨i+1,K+1,_,false,by go_num,rfl,rfl,by omega,by omega,by omega,trivial,(λh=>by cases h),λ_=>l.o⟩
    case measure=>simp [intOf];omega
   |true=>
    have a:=r.o.2.1 rfl;rw [gY.o] at a;by_cases N:lo<=K/\K<blocks
    .rw [aG N] at a;have H:A<(K:Int):=(by have:=r.o.1;omega);have Q:(K:Int)<(blocks:Int):=(by omega);have l:=yh a;clear a N;go_wp2;go_roundw;case rel=>exact⟨i+1,K+1,_,true,by go_num,rfl,rfl,by omega,by omega,by omega,trivial,(λ_=>l.o),λh=>by cases h⟩
     case measure=>simp [intOf];omega
    .rw [aB N] at a;have S:(¬A<(K:Int))\/(A<(K:Int)/\¬(K:Int)<(blocks:Int)):=(by have:=r.o.1;omega);have l:=yh a;clear a N;rcases S with H|⟨H,Q⟩;all_goals
      go_wp2;go_roundw;case rel=>exact⟨i+1,K+1,_,false,by go_num,rfl,rfl,by omega,by omega,by omega,trivial,(λh=>by cases h),λ_=>l.o⟩
      case measure=>simp [intOf];omega
  .have cC:¬(i:Int)<(el:Int):=(by omega);obtain rfl:i=el:=(by omega);cases D with
   |false=>
    have l:=yh (r.o.2.2 rfl);clear r;go_wp2;go_ret;exact⟨aa.ah _ p.o.2.1, .inr ⟨l.o,rfl,q.o.1.later p.o.2.1⟩⟩
   |true=>
    have a:=r.o.2.1 rfl;rw [q.o.2.2.2.1 lo] at a;have l:=yh a;obtain⟨ks,ew⟩:=bQ ((List.range i).map (fE d));have oc:ks.length=i:=(by rw [ew];simp);have f:=yh (aH ew oc);clear r a ew oc ml;go_wp2;go_loopw [44] (λz wx=>∃j:Nat,z=iV j/\j<=i/\Ch wx m (CM.bT ms ((mW ks rest).take j))/\aa (λk=>k=m) w1 wx) (λz _=>i-(intOf z).toNat);case atStart=>exact⟨0,rfl,dV _,q.o.1.later p.o.2.1,aa.refl _ _⟩
    case round=>
     obtain⟨j,rfl,hj,nh,eZ⟩:=hrel;have s:=yh (aH nh eZ);clear nh eZ;by_cases tz:j<i
     .have aeH:(j:Int)<(i:Int):=(by omega);have YV:g≠m:=(by omega);have XT:j<ks.length:=(by rw [f.o.2];exact tz);have Ym:=p.o.1.agree (s.o.2.block g p.o.1.lt YV);have q0:wr.cell? (aD g j)=some (iV (ks[j]:Int)):=by
       refine Ym.cell (j:=j) ?_;rw [<-f.o.1];simp [vZ,XT]
      obtain⟨J,X⟩:∃J:Nat,J=512*j:=⟨_,rfl⟩;have e1:(j:Int)*512=(J:Int):=(by omega);have e2:((j:Int)+1)*512=((J+512:Nat):Int):=(by omega);have e3:(J:Int)<=((J+512:Nat):Int):=(by omega);have e4:((J+512:Nat):Int)<=(W:Int):=(by have:=p.o.2.2.1;omega);have e5:(0:Int)<=(J:Int):=(by omega);have e6:¬W=J:=(by have:=p.o.2.2.1;omega);have O:((rest.drop J).take 512).length=512:=(by rw [List.length_take,List.length_drop,q.o.2.2.2.2.2.2.1];omega);have E:Bytes ((rest.drop J).take 512):=(q.o.2.2.2.2.2.1.drop _).take 512;have G:Src wr (some ⟨b,o+(2+4*i),none⟩) (512*i) rest:=(q.o.2.1.later p.o.2.1).oX s.o.2 (λy hy _=>by cases hy;exact P);have fS:=G.sub J 512 (by omega);have M:=MG ks rest j XT;rw [show 512*j=J from X.symm] at M;have aW:=eQ O;generalize (rest.drop J).take 512=C at*;have pb:ks[j] <2048:=by
       have h8:(ks[j],C)∈mW ks rest:=List.mem_of_mem_take (i:=j+1) (by rw [M];exact List.mem_append_right _ (List.mem_singleton.2 rfl));have h9:=q.o.2.2.2.2.2.2.2 _ (by rw [l.o,<-f.o.1]) _ h8;have Y8:ks[j] <blocks:=h9;omega
      obtain⟨T,bD,aeI,BJ,N6⟩:=s.o.1.store ks[j] pb C O E;generalize ks[j]=K at*;obtain⟨A,t⟩:=bQ (bs C);have A8:wr.rangeAt b (o+(2+4*i)+J) A:=(by rw [t];exact nD fS);rw [<-t] at aW;have RX:(Instr.mapUpdate 83 (.map (some m)) (iV (K:Int)) (.agg A.toArray)).run prog wr= .ok () T:=(by rw [t];exact bD);have HU:Yh (Ch T m (CM.bT ms ((mW ks rest).take (j+1)))/\aa (λk=>k=m) w1 T):=⟨by rw [M,OF];exact aeI,s.o.2.trans BJ (λ_ h=> .inl h)⟩;have hac:=zL;clear bD aeI BJ N6 fS G M O E t X Ym YV XT s;go_wp2_with (refine wpList_load_mid rfl 91 _ rfl b _ rfl A _ A8 underlying91 rfl aW ?_);go_roundw;case rel=>exact⟨j+1,by go_num,by omega,HU.o⟩
      case measure=>simp [intOf];omega
     .have aeH:¬(j:Int)<(i:Int):=(by omega);obtain rfl:j=i:=(by omega);have U:Yh (Ch wr m (CM.bT ms (mW ks rest))/\aa (λk=>k=m) w wr):=⟨by
       have:=s.o.1;rwa [nr (by rw [ux,f.o.2];omega)] at this,(aa.ah (λk=>k=m) p.o.2.1).trans s.o.2 (λ_ h=> .inl h)⟩
      clear s;go_wp2;go_ret;exact⟨U.o.2, .inl ⟨_,l.o,rfl,by rw [<-f.o.1];exact U.o.1⟩⟩
def OK {m:Nat} (h:Ch w m ms) (a:Option Addr) (n c:Nat) (d:List Int) (i:Src w a n d) (hd:Bytes d) (q:n<=1000000) (PA:n<=c) (pf:c<=9223372036854775807) (l:∀x,a=some x->0<n->x.block≠m) (blocks:Nat) (lx:blocks<=2048):
  Calls prog 107 #[.map (some m), .slice a n c,iV (blocks:Int)] w λe w'=>aa (λk=>k=m) w w'/\((∃cs,gF blocks d=some cs/\e= .returned (.bool true)/\Ch w' m (CM.bT ms cs))\/(gF blocks d=none/\e= .returned (.bool false)/\Ch w' m ms)):=by
 have qN:=i.1;by_cases p:n<2
 .refine(Hw h.lt a n c blocks (Hv a n c w p)).mono ?_;rintro e w' ⟨rfl,f⟩;exact⟨aa.ah _ f, .inr ⟨uz (.inl (by omega)),rfl,h.later f⟩⟩
 .obtain⟨b,o,rfl⟩:=cX i (by omega);by_cases g:1<=le (d.take 2)/\le (d.take 2)<=16/\n=2+516*le (d.take 2)
  .exact SQ h b o n c (le (d.take 2)) d i hd PA pf (l _ rfl (by omega)) blocks lx rfl g.1 g.2.1 g.2.2
  .refine(Hw h.lt (some (aD b o)) n c blocks (OI b o n c d w i hd (by omega) PA q (by omega))).mono ?_;rintro e w' ⟨rfl,f⟩;refine⟨aa.ah _ f, .inr ⟨uz (.inr ?_),rfl,h.later f⟩⟩;by_cases j:1<=le (d.take 2)/\le (d.take 2)<=16
   .exact .inr (λe=>g ⟨j.1,j.2,by omega⟩)
   .exact .inl j
section
def iH (blocks:Nat):CM->List (List Int)->Option CM
 |ms, []=>some ms
 |ms,r :: rs=>match gF blocks r with
  |none=>none
  |some cs=>iH blocks (CM.bT ms cs) rs
def em (S:DS) (s:Nat) (y:LY) (ov:CM) (rs:List (List Int)):Int×DS:=
 if rs= [] then (0,S) else if (aE S s y.home ov).1≠0 then aE S s y.home ov else (aE S s y.home ov).2.fl s
def OL {P:Nat->Prop}:∀{cs:CM},(∀x∈ms,P x.1)->(∀x∈cs,P x.1)->∀x∈CM.bT ms cs,P x.1:=by
 intro cs
 induction cs generalizing ms with
 |nil=>intro h _ x a;exact h x a
 |cons q c f=>
  intro d b;have e:CM.bT ms (q :: c)=CM.bT (CM.put ms q.1 q.2) c:=rfl;rw [e];refine f (λx a=>?_) (λx a=>b x (List.mem_cons_of_mem _ a));rcases CM.qU a with rfl|a
  .exact b q (by simp)
  .exact d x a
def Ch.qC {w:World} {m:Nat} (h:Ch w m ms) {cur:Array Value} {t:TypeId} {c:Nat×Nat} (b:w.heap[m]? =some (.cells cur t c)):False:=by
 obtain⟨D,h⟩:=h;obtain⟨e,a,d,_⟩:=h.own;rw [d] at b;cases b
def KW (w:World) (v:Value) (rs:List (List Int)):Prop:=
 ∃vs,w.ownsRow 0 22 1 v rs.length vs/\∀i (hi:i<rs.length),∃g c,vs[i]? =some (.slice (some (aD g 0)) (rs[i]).length c)/\ay w 5 g c (bs rs[i])
def KW.shape {w:World} (h:KW w v rs):∃a n c,v= .slice a n c/\n=rs.length/\∀i (e:i<rs.length),∃b g c',a=some (aD b 0)/\w.cell? (aD b i)=some (.slice (some (aD g 0)) (rs[i]).length c')/\ay w 5 g c' (bs rs[i]):=by
 obtain⟨t,j,o⟩:=h;have f:=j;obtain⟨s,⟨rfl,h0⟩|⟨g,d,cur,rfl,r,q,p⟩⟩:=j
 .exact⟨none,0,0,rfl,h0.symm,λi e=>by omega⟩
 .refine⟨_,_,d,rfl,rfl,λi e=>?_⟩;obtain⟨k,c',l,m⟩:=o i e;refine⟨g,k,c',rfl,?_,m⟩;have:=f.cells (g:=g) rfl i _ l;rwa [aN,Nat.zero_add] at this
def KW.aw {w:World} {m:Nat} (h:KW w v rs) (f:Ch w m ms) (d:aa (λk=>k=m) w w'):KW w' v rs:=by
 obtain⟨q,j,p⟩:=h;refine⟨q,mC j (λg n=>?_),λi o=>?_⟩
 .obtain⟨cur,a⟩:=bz j n;exact d.block g (aq a) (λe=>f.qC (by rw [<-e];exact a))
 .obtain⟨g,c,l,b⟩:=p i o;refine⟨g,c,l,b.agree (d.block g b.lt (λe=>?_))⟩;obtain⟨cur,a,_⟩:=b;exact f.qC (by rw [<-e];exact a)
section
variable {w:World} {F:Nat->Prop} {p s c q l m:Nat} {S:DS} {y:LY} {busy:Bool}
def SR (hd:B.ax w F p s S c) (hs:ng w q p l m y busy) (hm:Ch w m []) (hq:¬F q) (Ui:¬F m) (hy:y.home+y.blocks<=s) (hv:KW w v rs) (BG:∀r∈rs,Bytes r/\r.length<=1000000) (rF:rs.length<=1000000) (aU:S.puts.length+3000<=4000000000000):
  Calls prog 45 #[pQ q,v] w λe w'=>(iH y.blocks [] rs=none/\e= .panicked RN/\B.ax w' F p s S c/\aa (λk=>k=m) w w')\/(∃ov,iH y.blocks [] rs=some ov/\e= .returned (iV (em S s y ov rs).1)/\B.ax w' (more F w w') p s (em S s y ov rs).2 c/\aa (λk=>k=m\/F k) w w'/\((em S s y ov rs).1=0->Ch w' m [])):=by
 obtain⟨a,n,cp,rfl,hn,db⟩:=hv.shape;have Ml:=hd.ok.hi;have t:=yh (aH hd (aH hs (aH hm (aH hv (aH BG rF)))));obtain⟨R,Q⟩:=bQ (iH y.blocks [] rs);rw [<-Q];clear hd hs hm hv BG db;by_cases k0:n=0
 .have d0:(((n:Nat):Int) == 0)=true:=by rw [k0];rfl
  obtain rfl:rs= []:=List.eq_nil_of_length_eq_zero (by omega);have H:=yh (show R=some [] from Q);clear Q k0 hn;go_in;go_wp2;go_ret;refine .inr ⟨[],H.o,rfl,?_,aa.refl _ _,λ_=>t.o.2.2.1⟩;exact t.o.1.more
 .have d0:(((n:Nat):Int) == 0)=false:=by
   rw [fJ];omega
  have H:=yh (aH Q (aH hn k0));have UH:n<=1000000:=by omega
  clear Q k0 hn rF;go_in;go_wp2;go_loopw [14] (λiv wr=>∃(i:Nat) (ms:CM),iv=iV i/\i<=n/\Ch wr m ms/\(∀x∈ms,x.1<y.blocks)/\aa (λk=>k=m) w wr/\R=iH y.blocks ms (rs.drop i)) (λiv _=>n-(intOf iv).toNat);case atStart=>exact⟨0, [],rfl,dV _,t.o.2.2.1,(λx X=>by cases X),aa.refl _ _,H.o.1⟩
  case round=>
   obtain⟨i,ms,rfl,hi,nh,At,eZ,j⟩:=hrel;have Kp:q≠m:=λe=>t.o.2.2.1.qC (by rw [<-e];exact t.o.2.1);have bw:=t.o.2.1.aw eZ (λe=>Kp e);have Gj:=t.o.2.2.2.1.aw t.o.2.2.1 eZ;have kt:=t.o.1.aw eZ (λk hF e=>Ui (e▸hF));by_cases bq:i<n
   .have cC:(i:Int)<(n:Int):=(by omega);have KV:i<rs.length:=(by rw [<-H.o.2.1];exact bq);obtain⟨a2,n2,cp2,e2,Ux,db⟩:=Gj.shape;cases e2;clear Ux;obtain⟨b,g,c',rfl,q0,be⟩:=db i KV;have dD:=t.o.2.2.2.2.1 _ (List.getElem_mem KV);have YV:g≠m:=λe=>by
     obtain⟨cur,hc,_⟩:=be;exact nh.qC (by rw [<-e];exact hc)
    have h1:=λ(wx:World) (hb:bW wr wx)=>OK (nh.later hb) (some (aD g 0)) (rs[i]).length c' rs[i] (be.src.later hb) dD.1 dD.2 (by have:=be.le;simpa [bs] using this) (by have:=be.max;unfold maxLen at this;omega) (λx X _=>by cases X;exact YV) y.blocks (by omega);rw [List.drop_eq_getElem_cons KV] at j;have Z:=yh (aH At (aH eZ (aH j kt)));generalize rs[i]=r at*;have O:=bw.c7;have cc4:=bw.c4;have HC:=yh (aH O cc4);have sW:=yh (λ(N:gF y.blocks r=none)=>(by rw [Z.o.2.2.1];unfold iH;rw [N]:R=none));have EC:bW wr wr.drew:=ai (bi _ _);have A:=yh (λ(E:World) (PF:aa (λk=>k=m) wr.drew E)=>((Z.o.2.1.trans (aa.ah (λ_=>False) EC) (λ_ h=>h.elim)).trans PF (λ_ h=> .inl h):aa (λk=>k=m) w E));have z:=yh (λ(E:World) (PF:aa (λk=>k=m) wr.drew E)=>(⟨((bw.later EC).aw PF (λe=>Kp e)).c7,((bw.later EC).aw PF (λe=>Kp e)).c4⟩:E.cell? (aD q 7)=some (.map (some m))/\E.cell? (aD q 4)=some (iV (y.blocks:Int))));clear At eZ j kt nh Gj bw db be dD YV;go_wp2_with fail;refine wp_region_held_drew (S:=(λw'=>w'.cell? (aD q 7)=some (.map (some m))/\w'.cell? (aD q 4)=some (iV (y.blocks:Int)))) (by kernel_rfl) (HC.o) (λMB=>?_);refine wpAnyH_take (i:=0) (oi:={dst:=some 18,op:=Op.move (Operand.tmp 0),type:=50,pos:= "store.go:111",after:= #[],guard:=none}) (v:=pQ q) rfl (by kernel_rfl) (by kernel_rfl) (by kernel_rfl) (λ_ _ _ h=>h) (Or.inl ⟨by rfl,?_⟩) (by assumption) ?_
    .intro w vF
     (try dsimp only at vF)
     go_simp
    try simp only [Act.put,List.setIfInBounds_toArray,List.set_cons_zero,List.set_cons_succ]
    refine wpAnyH_take (i:=1) (oi:={dst:=some 19,op:=Op.nilCheck (Operand.tmp 18),type:=0,pos:= "store.go:111",after:= #[{on:=0,ground:=Ground.data}],guard:=none}) (v:=pQ q) rfl (by kernel_rfl) (by kernel_rfl) (by kernel_rfl) (λ_ _ _ h=>h) (Or.inl ⟨by rfl,?_⟩) (by assumption) ?_
    .intro w vF
     (try dsimp only at vF)
     go_simp
    try simp only [Act.put,List.setIfInBounds_toArray,List.set_cons_zero,List.set_cons_succ]
    refine wpAnyH_take (i:=2) (oi:={dst:=some 20,op:=Op.fieldAddr 85 (Operand.tmp 19) 3,type:=0,pos:= "store.go:111",after:= #[{on:=1,ground:=Ground.data}],guard:=none}) (v:= .pointer (some (aD q 7))) rfl (by kernel_rfl) (by kernel_rfl) (by kernel_rfl) (λ_ _ _ h=>h) (Or.inl ⟨by rfl,?_⟩) (by assumption) ?_
    .intro w vF
     (try dsimp only at vF)
     go_simp
    try simp only [Act.put,List.setIfInBounds_toArray,List.set_cons_zero,List.set_cons_succ]
    refine wpAnyH_take (i:=3) (oi:={dst:=some 21,op:=Op.load 83 (Operand.tmp 20),type:=83,pos:= "store.go:111",after:= #[{on:=2,ground:=Ground.data}],guard:=none}) (v:= .map (some m)) rfl (by kernel_rfl) (by kernel_rfl) (by kernel_rfl) (λ_ _ _ h=>h) (Or.inl ⟨by rfl,?_⟩) (by assumption) ?_
    .intro w vF
     (try dsimp only at vF)
     go_simp
    try simp only [Act.put,List.setIfInBounds_toArray,List.set_cons_zero,List.set_cons_succ]
    refine wpAnyH_take (i:=4) (oi:={dst:=some 22,op:=Op.move (Operand.tmp 6),type:=22,pos:= "store.go:111",after:= #[],guard:=none}) (v:= .slice (some (aD g 0)) r.length c') rfl (by kernel_rfl) (by kernel_rfl) (by kernel_rfl) (λ_ _ _ h=>h) (Or.inl ⟨by rfl,?_⟩) (by assumption) ?_
    .intro w vF
     (try dsimp only at vF)
     go_simp
    try simp only [Act.put,List.setIfInBounds_toArray,List.set_cons_zero,List.set_cons_succ]
    refine wpAnyH_take (i:=5) (oi:={dst:=some 23,op:=Op.move (Operand.tmp 0),type:=50,pos:= "store.go:111",after:= #[],guard:=none}) (v:=pQ q) rfl (by kernel_rfl) (by kernel_rfl) (by kernel_rfl) (λ_ _ _ h=>h) (Or.inl ⟨by rfl,?_⟩) (by assumption) ?_
    .intro w vF
     (try dsimp only at vF)
     go_simp
    try simp only [Act.put,List.setIfInBounds_toArray,List.set_cons_zero,List.set_cons_succ]
    refine wpAnyH_take (i:=6) (oi:={dst:=some 24,op:=Op.nilCheck (Operand.tmp 23),type:=0,pos:= "store.go:111",after:= #[{on:=5,ground:=Ground.data}],guard:=none}) (v:=pQ q) rfl (by kernel_rfl) (by kernel_rfl) (by kernel_rfl) (λ_ _ _ h=>h) (Or.inl ⟨by rfl,?_⟩) (by assumption) ?_
    .intro w vF
     (try dsimp only at vF)
     go_simp
    try simp only [Act.put,List.setIfInBounds_toArray,List.set_cons_zero,List.set_cons_succ]
    refine wpAnyH_take (i:=7) (oi:={dst:=some 25,op:=Op.fieldAddr 85 (Operand.tmp 24) 2,type:=0,pos:= "store.go:111",after:= #[{on:=6,ground:=Ground.data}],guard:=none}) (v:= .pointer (some (aD q 2))) rfl (by kernel_rfl) (by kernel_rfl) (by kernel_rfl) (λ_ _ _ h=>h) (Or.inl ⟨by rfl,?_⟩) (by assumption) ?_
    .intro w vF
     (try dsimp only at vF)
     go_simp
    try simp only [Act.put,List.setIfInBounds_toArray,List.set_cons_zero,List.set_cons_succ]
    refine wpAnyH_take (i:=8) (oi:={dst:=some 26,op:=Op.fieldAddr 75 (Operand.tmp 25) 2,type:=0,pos:= "store.go:111",after:= #[{on:=7,ground:=Ground.data}],guard:=none}) (v:= .pointer (some (aD q 4))) rfl (by kernel_rfl) (by kernel_rfl) (by kernel_rfl) (λ_ _ _ h=>h) (Or.inl ⟨by rfl,?_⟩) (by assumption) ?_
    .intro w vF
     (try dsimp only at vF)
     go_simp
    try simp only [Act.put,List.setIfInBounds_toArray,List.set_cons_zero,List.set_cons_succ]
    refine wpAnyH_take (i:=9) (oi:={dst:=some 27,op:=Op.load 3 (Operand.tmp 26),type:=3,pos:= "store.go:111",after:= #[{on:=8,ground:=Ground.data}],guard:=none}) (v:=iV (y.blocks:Int)) rfl (by kernel_rfl) (by kernel_rfl) (by kernel_rfl) (λ_ _ _ h=>h) (Or.inl ⟨by rfl,?_⟩) (by assumption) ?_
    .intro w vF
     (try dsimp only at vF)
     go_simp
    try simp only [Act.put,List.setIfInBounds_toArray,List.set_cons_zero,List.set_cons_succ]
    refine wpAnyH_ready (rs:= [10]) (by kernel_rfl) (by simp) ?_;refine AllReadyH.cons (o:={dst:=some 28,op:=Op.call {callee:=Callee.value (Operand.func 107),args:= #[Operand.tmp 21,Operand.tmp 22,Operand.tmp 27],argTypes:= #[83,22,3]},type:=4,pos:= "store.go:111",after:= #[{on:=3,ground:=Ground.data},{on:=4,ground:=Ground.data},{on:=9,ground:=Ground.data}],guard:=none}) rfl (λK I=>?_) AllReadyH.nil;go_simp;refine(h1 _ (ai (bi _ _))).mono ?_;rintro e E ⟨PF,H6⟩;rcases H6.symm with ⟨N,rfl,_⟩|⟨cs,N,rfl,sO⟩
    .refine I.out _ _ (z.o _ PF) (λMB=>?_);clear I K;try simp only [Act.put,List.setIfInBounds_toArray,List.set_cons_zero,List.set_cons_succ]
     refine wpAnyH_ready (rs:= [11]) (by kernel_rfl) (by simp) ?_;refine AllReadyH.cons (o:={dst:=some 29,op:=Op.call {callee:=Callee.value (Operand.func 106),args:= #[Operand.tmp 28],argTypes:= #[4]},type:=0,pos:= "store.go:111",after:= #[{on:=10,ground:=Ground.data},{on:=10,ground:=Ground.chain}],guard:=none}) rfl (λK I=>?_) AllReadyH.nil;go_simp;refine(VW E).mono ?_;rintro e w9 ⟨rfl,M⟩;have aaF:=M.symm;subst aaF;exact⟨rfl, .inl ⟨sW.o N,rfl,t.o.1.aw (A.o _ PF) (λk hF e=>Ui (e▸hF)),A.o _ PF⟩⟩
    refine I.out _ _ (z.o _ PF) (λMB=>?_);clear I K;try simp only [Act.put,List.setIfInBounds_toArray,List.set_cons_zero,List.set_cons_succ]
    refine wpAnyH_ready (rs:= [11]) (by kernel_rfl) (by simp) ?_;refine AllReadyH.cons (o:={dst:=some 29,op:=Op.call {callee:=Callee.value (Operand.func 106),args:= #[Operand.tmp 28],argTypes:= #[4]},type:=0,pos:= "store.go:111",after:= #[{on:=10,ground:=Ground.data},{on:=10,ground:=Ground.chain}],guard:=none}) rfl (λK I=>?_) AllReadyH.nil;go_simp;refine(VV E).mono ?_;rintro e w9 ⟨rfl,M⟩;have aaF:=M.symm;subst aaF;refine I.out _ _ (z.o _ PF) (λaaG=>?_);clear I K aaG;try simp only [Act.put,List.setIfInBounds_toArray,List.set_cons_zero,List.set_cons_succ]
    refine wpAnyH_done (by kernel_rfl) ?_ _;have nA:=H6;clear nA H6 MB;have Y:=yh (aH (A.o _ PF) (aH N sO));clear PF N sO h1 z A sW EC q0;go_wp2;go_roundw;case rel=>exact⟨i+1,CM.bT ms cs,by go_num,by omega,Y.o.2.2,OL (P:=λk=>k<y.blocks) Z.o.1 (oQ Y.o.2.1),Y.o.1,by
     have L:=Z.o.2.2.1;unfold iH at L;rw [Y.o.2.1] at L;exact L⟩
    case measure=>exact aeC (S:=n) (i:=i) (k:=i+1) bq (by omega)
   .have cC:¬(i:Int)<(n:Int):=(by omega);rw [List.drop_eq_nil_of_le (by have:=H.o.2.1;omega)] at j;have W:R=some ms:=j;have lz:=nh.small;have L:=rQ kt bw nh hq Ui (λx X=>by have:=At x X;omega) aU;have py:=eF S s y.home ms;obtain⟨T,hT⟩:=bQ (aE S s y.home ms);have kU:em S s y ms rs=if T.1≠0 then T else T.2.fl s:=by
     unfold em;rw [aB (λe=>by rw [e] at H;have:=H.o.2;simp at this),<-hT]
    rw [<-hT] at L py;have d:=yh (aH W (aH kU (aH eZ (aH bw (aH nh kt.lt)))));clear j W hT At eZ bw Gj kt nh H kU;go_wp2_with fail;refine fR L λw2 cI aY=>?_;clear L;obtain⟨dC,eu,B7,A7⟩:=cO d.o.2.2.1.size aY.size d.o.2.2.2.2.1.lt d.o.2.2.2.1.lt;by_cases D:T.1=0
    .have d1:(T.1 == 0)=true:=(by rw [D];rfl);have d2:(T.1 != 0)=false:=(by simp [D]);have h3:=B.vu cI (by omega);have ln:=d.o.2.2.2.1.aw aY hq;have cc0:=ln.c0;have kU:=d.o.2.1;rw [aB (λh=>h D)] at kU;obtain⟨U,hU⟩:=bQ (T.2.fl s);rw [<-hU] at h3 kU;have f:=yh (aH kU (aH aY (aH ln (d.o.2.2.2.2.1.aw aY Ui))));clear hU kU ln cI aY D;go_wp2_with fail;refine fR h3 λw3 C aZ=>?_;clear h3 cc0;have ly:=aZ.size;have B4:¬more F wr w2 m:=λh=>by rcases h with h|h;exact Ui h;omega
     have ajN:¬more F wr w2 q:=λh=>by rcases h with h|h;exact hq h;omega
     have vJ:=f.o.2.2.1.aw aZ ajN;have OM:=f.o.2.2.2.aw aZ B4;have IX:aa (λk=>k=m\/F k) w w3:=((d.o.2.2.1.mono (G:=λk=>k=m\/F k) (λk e=> .inl e)).trans f.o.2.1 (λk h=> .inl (.inr h))).trans aZ (λk h=>by rcases h with h|h;exact .inl (.inr h);exact .inr (by omega));by_cases J:U.1=0
     .have d3:(U.1 != 0)=false:=(by simp [J]);have d4:(U.1 == 0)=true:=(by rw [J];rfl);obtain⟨w4,aqz,ST,dW,wk⟩:=OM.qK;have O:=vJ.c7;have u:=yh (aH C (aH IX (aH ST (aH dW (aH J wk)))));clear C aZ vJ OM IX ST dW J wk;go_wp2;go_ret;refine .inr ⟨ms,d.o.1,by rw [f.o.1,u.o.2.2.2.2.1];rfl,?_,u.o.2.1.trans u.o.2.2.2.1 (λk e=> .inl (.inl e)),λ_=>u.o.2.2.1⟩;rw [f.o.1];have wk:=u.o.2.2.2.2.2;refine(u.o.1.aw u.o.2.2.2.1 (λk h e=>B4 (e▸h))).mono (λk h=>?_) (λk h=>?_)
      .rcases h with h|h
       .exact .inl h
       .exact .inr (by omega)
      .rcases h with h|h
       .have:=d.o.2.2.2.2.2 k h;omega
       .omega
     .have d3:(U.1 != 0)=true:=(by simp [J]);have d4:(U.1 == 0)=false:=(by simpa using J);have u:=yh (aH C (aH IX J));clear C aZ vJ OM IX J;go_wp2;go_ret;refine .inr ⟨ms,d.o.1,by rw [f.o.1];rfl,?_,u.o.2.1,λh=>absurd (by rw [f.o.1] at h;exact h) u.o.2.2⟩;rw [f.o.1];refine u.o.1.mono (λk h=>?_) (λk h=>?_)
      .rcases h with h|h
       .exact .inl h
       .exact .inr (by omega)
      .rcases h with h|h
       .have:=d.o.2.2.2.2.2 k h;omega
       .omega
    .have d1:(T.1 == 0)=false:=(by simpa using D);have d2:(T.1 != 0)=true:=(by simp [D]);have kU:=d.o.2.1;rw [aG D] at kU;have f:=yh (aH kU (aH aY (aH cI D)));clear kU cI aY D;go_wp2;go_ret;refine .inr ⟨ms,d.o.1,by rw [f.o.1];rfl,?_,(d.o.2.2.1.mono (G:=λk=>k=m\/F k) (λk e=> .inl e)).trans f.o.2.1 (λk h=> .inl (.inr h)),λh=>absurd (by rw [f.o.1] at h;exact h) f.o.2.2.2⟩;rw [f.o.1];refine f.o.2.2.1.mono (λk h=>?_) (λk h=>?_)
     .rcases h with h|h
      .exact .inl h
      .exact .inr (by omega)
     .rcases h with h|h
      .have:=d.o.2.2.2.2.2 k h;omega
      .omega
end
end
section
def qD {m:Nat} (a:p<l.length):(l.drop p).take (m+1)=l.getD p 0 :: (l.drop (p+1)).take m:=by
 rw [List.drop_eq_getElem_cons a,List.take_succ_cons];simp [List.getD,List.getElem?_eq_getElem a]
def bC (a:Option Addr) (m c:Nat) (l:List Int) (w:World) (s:Src w a m l) (x:Bytes l) (d n:Nat) (D:n<=4) (is:d+n<=m) (C:m<=140737488355328):
  Calls prog 197 #[.slice a m c,iV (d:Int),iV (n:Int)] w λe w'=>e= .returned (iV ((le ((l.drop d).take n):Nat):Int))/\w'=w:=by
 have A:=s.1;have t:=yh s;clear s;go_in;go_wp2;go_loopw [7,8] (λv i wr=>∃j:Nat,j<=n/\i=iV ((j:Int)-1)/\v=iV ((le ((l.drop (d+j)).take (n-j)):Nat):Int)/\wr=w) (λ_ i _=>(intOf i+1).toNat);case atStart=>exact⟨n,bS _,rfl,by simp [le],rfl⟩
 case round=>
  obtain⟨j,z,rfl,rfl,rfl⟩:=hrel;by_cases q:1<=j
  .obtain⟨i,rfl⟩:∃i,j=i+1:=⟨j-1,by omega⟩;have wj:(0:Int)<=((i+1:Nat):Int)-1:=(by omega);have r:=qS (x.drop (d+(i+1))|>.take (n-(i+1))) (k:=3) (by rw [List.length_take];omega);have f:=qD (l:=l) (p:=d+i) (m:=n-(i+1)) (by omega);rw [show n-(i+1)+1=n-i by omega,show d+i+1=d+(i+1) by omega] at f;obtain⟨V,g⟩:=bQ (le ((l.drop (d+(i+1))).take (n-(i+1))));rw [<-g] at r⊢;obtain⟨b,o,rfl⟩:=cX t.o (by omega);have db:wr.cell? ⟨b,o+(d+i),none⟩=some (.int .u8 (l.getD (d+i) 0)):=(by have:=t.o.2.2 _ rfl (d+i) (by omega);rwa [aN] at this);have dD:=x.getD (d+i);have Ja:=yh f;have y:=yh g;obtain⟨X,u⟩:=bQ (l.getD (d+i) 0);rw [<-u] at db dD Ja;have Xs:((i+1:Nat):Int)-1=(i:Int):=(by omega);rw [Xs] at wj⊢;have aeJ:(d:Int)+(i:Int)<(m:Int):=(by omega);clear g f Xs u;go_wp2;go_roundw;case rel=>
    refine⟨i,by omega,by go_num,?_,trivial⟩;rw [Ja.o];congr 1;show _=((X.toNat+256*le ((l.drop (d+(i+1))).take (n-(i+1))):Nat):Int);rw [<-y.o];omega
   case measure=>simp [intOf]
  .obtain rfl:j=0:=(by omega);have wj:¬(0:Int)<=((0:Nat):Int)-1:=(by omega);go_wp2;go_ret;exact⟨rfl,rfl⟩
def vK (a:(aX l).2=0) (b:12<=(aX l).1.length):(dj l).e=le (((aX l).1.drop 0).take 4)/\(dj l).p=le (((aX l).1.drop 4).take 4)/\(dj l).i=le (((aX l).1.drop 8).take 2)/\(dj l).c=le (((aX l).1.drop 10).take 2)/\(dj l).d=(aX l).1.drop 12:=by
 unfold dj;rw [aB (by omega)];exact⟨rfl,rfl,rfl,rfl,rfl⟩
def ym (h:(aX l).2≠0\/(aX l).1.length<=12):(dj l).d= []:=by
 unfold dj;split
 .rfl
 .show (aX l).1.drop 12= [];exact List.drop_eq_nil_of_le (by omega)
section
variable {w w':World} {F G:Nat->Prop} {r s k:Nat} {S:DS} {L:LG}
def WL (w w':World) (q:PC) (E P i c:Nat) (v:Value):Prop:=
   (q.ok E P i c/\∃body,Own w' w.heap.size v body/\body.drop 12=q.d/\12<body.length/\body.length<=504)\/(¬q.ok E P i c/\v= .slice none 0 0)
def ON (E P i c:Nat) (h:aC w F r s S) (J:cK w k r L) (dD:Bytes (S.now (L.f+2+P%L.n))) (hs:L.f+2+L.n<=s) (jk:1<=L.n) (aU:S.puts.length+1<=4000000000000) (X:E<=4294967296) (hP:P<=4294967296) (Y:i<=65536) (hc:c<=65536) (A4:1<=c):
  Calls prog 198 #[pQ k,iV (E:Int),iV (P:Int),iV (i:Int),iV (c:Int)] w λe w'=>∃v,e= .returned v/\WL w w' (dj (S.now (L.f+2+P%L.n))) E P i c v/\bW w w':=by
 have Ml:=h.ok.hi;have R:P%L.n<L.n:=Nat.mod_lt _ jk;have ml:=bu h.ok (L.f+2+P%L.n) (by omega);obtain⟨C,G,H,I⟩:=cO (jM (h.later (ai (bi w.heap.size w))) (L.f+2+P%L.n) (by omega) (by omega)) J.c0 J.c2 J.c3;have wH:(P:Int).tmod (L.n:Int)=((P%L.n:Nat):Int):=by rw [Int.tmod_eq_emod_of_nonneg (by omega),<-Int.natCast_emod]
 have Sj:(P:Int)%(L.n:Int)=((P%L.n:Nat):Int):=by rw [<-Int.natCast_emod]
 obtain⟨M,U⟩:=bQ (P%L.n);rw [<-U] at wH Sj R C ml dD⊢;rw [show ((L.f+2+M:Nat):Int)=(L.f:Int)+2+(M:Int) by omega] at C;have xZ:IntKind.i64.wrap ((L.f:Int)+2)=(L.f:Int)+2:=by rw [IntKind.wrap_i64];omega
 have aeK:IntKind.i64.wrap ((L.f:Int)+2+(M:Int))=(L.f:Int)+2+(M:Int):=by rw [IntKind.wrap_i64];omega
 have aeL:¬L.n=0:=by omega
 clear U h J;generalize S.now (L.f+2+M)=l at*;have D:=DW l;have gW:=pR dD;by_cases K:(aX l).2=0
 .go_in;go_wp2_with fail;go_region_held3 (λw'=>w'.cell? (aD k 0)=some (pQ r)/\w'.cell? (aD k 2)=some (iV (L.f:Int))/\w'.cell? (aD k 3)=some (iV (L.n:Int)))
   (first|exact⟨G,H,I⟩)
     ((go_at_call 69;refine C.mono ?_;rintro e w1 ⟨g,N,rfl,Q,be,bO⟩;have jO:=bO.symm;clear bO;subst jO))
  have ie:=be.src;rw [ml] at ie;have m:=qP (some (aD g 0)) 512 N l w.drew ie dD;rw [K] at m;clear C be ie G H I;go_wp2_with fail;refine m.mono ?_;rintro e a ⟨v2,rfl,jv,bd⟩;have eR:=(ai (bi w.heap.size w)).trans bd;obtain⟨b,rG,rfl,bo,_,_⟩:=jv.src;obtain⟨VT,dP⟩:=bU (show Own a w.heap.size _ _ from jv) eR;by_cases W:(aX l).1.length<=12
  .have sW:=yh (show¬(dj l).ok E P i c from λh=>by have:=h.2.2.2.2.1;rw [ym (.inr W)] at this;simp at this);have d2:((aX l).1.length:Int)<=12:=(by omega);clear W;clear m bd eR jv bo;go_wp2;go_ret;exact⟨_,rfl, .inr ⟨sW.o,rfl⟩,dP.o⟩
  .have nj:=vK K (by omega);have d2:¬((aX l).1.length:Int)<=12:=(by omega);have xn:0<(dj l).d.length:=(by rw [nj.2.2.2.2,List.length_drop];omega);have qN:(dj l).d.length+12=(aX l).1.length:=(by rw [nj.2.2.2.2,List.length_drop];omega);by_cases t:(dj l).e=E
   .by_cases u:(dj l).p=P
    .by_cases y:(dj l).i=i
     .by_cases A:(dj l).c=c
      .by_cases O:i+1=c\/(aX l).1.length=504
       .obtain⟨Px,sP⟩:=bU (show (dj l).ok E P i c from ⟨t,u,y,A,xn,λh=>by omega⟩) nj.2.2.2.2;have q:=yh (show 12<(aX l).1.length/\(aX l).1.length<=504 from ⟨by omega,D⟩);by_cases T:i+1=c
        .have z:((i:Int) != (c:Int)-1)=false:=(by rw [bne_eq_false_iff_eq];omega);clear O T;have vL:=bC b _ rG _ a bo gW 0 4 (by omega) (by omega) (by omega);rw [<-nj.1,t,show (((0:Nat)):Int)=0 from rfl,show (((4:Nat)):Int)=4 from rfl] at vL;have vh:=bC b _ rG _ a bo gW 4 4 (by omega) (by omega) (by omega);rw [<-nj.2.1,u,show (((4:Nat)):Int)=4 from rfl] at vh;have ED:=bC b _ rG _ a bo gW 8 2 (by omega) (by omega) (by omega);rw [<-nj.2.2.1,y,show (((8:Nat)):Int)=8 from rfl,show (((2:Nat)):Int)=2 from rfl] at ED;have KX:=bC b _ rG _ a bo gW 10 2 (by omega) (by omega) (by omega);rw [<-nj.2.2.2.1,A,show (((10:Nat)):Int)=10 from rfl,show (((2:Nat)):Int)=2 from rfl] at KX;clear m bd eR jv bo nj;go_wp2_with (first|(go_at_call 197;refine vL.mono ?_;rintro e j ⟨rfl,eG⟩;have eW:=eG.symm;clear eG vL;subst eW)|(go_at_call 197;refine vh.mono ?_;rintro e j ⟨rfl,eG⟩;have eW:=eG.symm;clear eG vh;subst eW)|(go_at_call 197;refine ED.mono ?_;rintro e j ⟨rfl,eG⟩;have eW:=eG.symm;clear eG ED;subst eW)|(go_at_call 197;refine KX.mono ?_;rintro e j ⟨rfl,eG⟩;have eW:=eG.symm;clear eG KX;subst eW));go_ret;exact⟨_,rfl, .inl ⟨Px.o,_,VT.o,sP.o.symm,q.o.1,q.o.2⟩,dP.o⟩
        .have z:((i:Int) != (c:Int)-1)=true:=(by rw [gA];omega);have dl:(((aX l).1.length:Int) != 504)=false:=(by rw [bne_eq_false_iff_eq];omega);clear O T;have vL:=bC b _ rG _ a bo gW 0 4 (by omega) (by omega) (by omega);rw [<-nj.1,t,show (((0:Nat)):Int)=0 from rfl,show (((4:Nat)):Int)=4 from rfl] at vL;have vh:=bC b _ rG _ a bo gW 4 4 (by omega) (by omega) (by omega);rw [<-nj.2.1,u,show (((4:Nat)):Int)=4 from rfl] at vh;have ED:=bC b _ rG _ a bo gW 8 2 (by omega) (by omega) (by omega);rw [<-nj.2.2.1,y,show (((8:Nat)):Int)=8 from rfl,show (((2:Nat)):Int)=2 from rfl] at ED;have KX:=bC b _ rG _ a bo gW 10 2 (by omega) (by omega) (by omega);rw [<-nj.2.2.2.1,A,show (((10:Nat)):Int)=10 from rfl,show (((2:Nat)):Int)=2 from rfl] at KX;clear m bd eR jv bo nj;go_wp2_with (first|(go_at_call 197;refine vL.mono ?_;rintro e j ⟨rfl,eG⟩;have eW:=eG.symm;clear eG vL;subst eW)|(go_at_call 197;refine vh.mono ?_;rintro e j ⟨rfl,eG⟩;have eW:=eG.symm;clear eG vh;subst eW)|(go_at_call 197;refine ED.mono ?_;rintro e j ⟨rfl,eG⟩;have eW:=eG.symm;clear eG ED;subst eW)|(go_at_call 197;refine KX.mono ?_;rintro e j ⟨rfl,eG⟩;have eW:=eG.symm;clear eG KX;subst eW));go_ret;exact⟨_,rfl, .inl ⟨Px.o,_,VT.o,sP.o.symm,q.o.1,q.o.2⟩,dP.o⟩
       .have sW:=yh (show¬(dj l).ok E P i c from λh=>by have:=h.2.2.2.2.2;omega);have z:((i:Int) != (c:Int)-1)=true:=(by rw [gA];omega);have dl:(((aX l).1.length:Int) != 504)=true:=(by rw [gA];omega);clear O;have vL:=bC b _ rG _ a bo gW 0 4 (by omega) (by omega) (by omega);rw [<-nj.1,t,show (((0:Nat)):Int)=0 from rfl,show (((4:Nat)):Int)=4 from rfl] at vL;have vh:=bC b _ rG _ a bo gW 4 4 (by omega) (by omega) (by omega);rw [<-nj.2.1,u,show (((4:Nat)):Int)=4 from rfl] at vh;have ED:=bC b _ rG _ a bo gW 8 2 (by omega) (by omega) (by omega);rw [<-nj.2.2.1,y,show (((8:Nat)):Int)=8 from rfl,show (((2:Nat)):Int)=2 from rfl] at ED;have KX:=bC b _ rG _ a bo gW 10 2 (by omega) (by omega) (by omega);rw [<-nj.2.2.2.1,A,show (((10:Nat)):Int)=10 from rfl,show (((2:Nat)):Int)=2 from rfl] at KX;clear m bd eR jv bo nj;go_wp2_with (first|(go_at_call 197;refine vL.mono ?_;rintro e j ⟨rfl,eG⟩;have eW:=eG.symm;clear eG vL;subst eW)|(go_at_call 197;refine vh.mono ?_;rintro e j ⟨rfl,eG⟩;have eW:=eG.symm;clear eG vh;subst eW)|(go_at_call 197;refine ED.mono ?_;rintro e j ⟨rfl,eG⟩;have eW:=eG.symm;clear eG ED;subst eW)|(go_at_call 197;refine KX.mono ?_;rintro e j ⟨rfl,eG⟩;have eW:=eG.symm;clear eG KX;subst eW));go_ret;exact⟨_,rfl, .inr ⟨sW.o,rfl⟩,dP.o⟩
      .have sW:=yh (show¬(dj l).ok E P i c from λh=>A h.2.2.2.1);have x:(((dj l).c:Int) != (c:Int))=true:=(by rw [gA];omega);have z:((dj l).c == c)=false:=(by rw [fJ];exact A);have vL:=bC b _ rG _ a bo gW 0 4 (by omega) (by omega) (by omega);rw [<-nj.1,t,show (((0:Nat)):Int)=0 from rfl,show (((4:Nat)):Int)=4 from rfl] at vL;have vh:=bC b _ rG _ a bo gW 4 4 (by omega) (by omega) (by omega);rw [<-nj.2.1,u,show (((4:Nat)):Int)=4 from rfl] at vh;have ED:=bC b _ rG _ a bo gW 8 2 (by omega) (by omega) (by omega);rw [<-nj.2.2.1,y,show (((8:Nat)):Int)=8 from rfl,show (((2:Nat)):Int)=2 from rfl] at ED;have KX:=bC b _ rG _ a bo gW 10 2 (by omega) (by omega) (by omega);rw [<-nj.2.2.2.1,show (((10:Nat)):Int)=10 from rfl,show (((2:Nat)):Int)=2 from rfl] at KX;clear m bd eR jv bo nj;go_wp2_with (first|(go_at_call 197;refine vL.mono ?_;rintro e j ⟨rfl,eG⟩;have eW:=eG.symm;clear eG vL;subst eW)|(go_at_call 197;refine vh.mono ?_;rintro e j ⟨rfl,eG⟩;have eW:=eG.symm;clear eG vh;subst eW)|(go_at_call 197;refine ED.mono ?_;rintro e j ⟨rfl,eG⟩;have eW:=eG.symm;clear eG ED;subst eW)|(go_at_call 197;refine KX.mono ?_;rintro e j ⟨rfl,eG⟩;have eW:=eG.symm;clear eG KX;subst eW));go_ret;exact⟨_,rfl, .inr ⟨sW.o,rfl⟩,dP.o⟩
     .have sW:=yh (show¬(dj l).ok E P i c from λh=>y h.2.2.1);have x:(((dj l).i:Int) != (i:Int))=true:=(by rw [gA];omega);have z:((dj l).i == i)=false:=(by rw [fJ];exact y);have vL:=bC b _ rG _ a bo gW 0 4 (by omega) (by omega) (by omega);rw [<-nj.1,t,show (((0:Nat)):Int)=0 from rfl,show (((4:Nat)):Int)=4 from rfl] at vL;have vh:=bC b _ rG _ a bo gW 4 4 (by omega) (by omega) (by omega);rw [<-nj.2.1,u,show (((4:Nat)):Int)=4 from rfl] at vh;have ED:=bC b _ rG _ a bo gW 8 2 (by omega) (by omega) (by omega);rw [<-nj.2.2.1,show (((8:Nat)):Int)=8 from rfl,show (((2:Nat)):Int)=2 from rfl] at ED;clear m bd eR jv bo nj;go_wp2_with (first|(go_at_call 197;refine vL.mono ?_;rintro e j ⟨rfl,eG⟩;have eW:=eG.symm;clear eG vL;subst eW)|(go_at_call 197;refine vh.mono ?_;rintro e j ⟨rfl,eG⟩;have eW:=eG.symm;clear eG vh;subst eW)|(go_at_call 197;refine ED.mono ?_;rintro e j ⟨rfl,eG⟩;have eW:=eG.symm;clear eG ED;subst eW));go_ret;exact⟨_,rfl, .inr ⟨sW.o,rfl⟩,dP.o⟩
    .have sW:=yh (show¬(dj l).ok E P i c from λh=>u h.2.1);have x:(((dj l).p:Int) != (P:Int))=true:=(by rw [gA];omega);have z:((dj l).p == P)=false:=(by rw [fJ];exact u);have vL:=bC b _ rG _ a bo gW 0 4 (by omega) (by omega) (by omega);rw [<-nj.1,t,show (((0:Nat)):Int)=0 from rfl,show (((4:Nat)):Int)=4 from rfl] at vL;have vh:=bC b _ rG _ a bo gW 4 4 (by omega) (by omega) (by omega);rw [<-nj.2.1,show (((4:Nat)):Int)=4 from rfl] at vh;clear m bd eR jv bo nj;go_wp2_with (first|(go_at_call 197;refine vL.mono ?_;rintro e j ⟨rfl,eG⟩;have eW:=eG.symm;clear eG vL;subst eW)|(go_at_call 197;refine vh.mono ?_;rintro e j ⟨rfl,eG⟩;have eW:=eG.symm;clear eG vh;subst eW));go_ret;exact⟨_,rfl, .inr ⟨sW.o,rfl⟩,dP.o⟩
   .have sW:=yh (show¬(dj l).ok E P i c from λh=>t h.1);have x:(((dj l).e:Int) != (E:Int))=true:=(by rw [gA];omega);have z:((dj l).e == E)=false:=(by rw [fJ];exact t);have vL:=bC b _ rG _ a bo gW 0 4 (by omega) (by omega) (by omega);rw [<-nj.1,show (((0:Nat)):Int)=0 from rfl,show (((4:Nat)):Int)=4 from rfl] at vL;clear m bd eR jv bo nj;go_wp2_with (first|(go_at_call 197;refine vL.mono ?_;rintro e j ⟨rfl,eG⟩;have eW:=eG.symm;clear eG vL;subst eW));go_ret;exact⟨_,rfl, .inr ⟨sW.o,rfl⟩,dP.o⟩
 .have sW:=yh (show¬(dj l).ok E P i c from λh=>by have:=h.2.2.2.2.1;rw [ym (.inl K)] at this;simp at this);have Z:(((aX l).2:Int) != 0)=true:=by rw [gA];omega
  clear K;go_in;go_wp2_with fail;go_region_held3 (λw'=>w'.cell? (aD k 0)=some (pQ r)/\w'.cell? (aD k 2)=some (iV (L.f:Int))/\w'.cell? (aD k 3)=some (iV (L.n:Int)))
   (first|exact⟨G,H,I⟩)
     ((go_at_call 69;refine C.mono ?_;rintro e w1 ⟨g,N,rfl,Q,be,bO⟩;have jO:=bO.symm;clear bO;subst jO))
  have ie:=be.src;rw [ml] at ie;have m:=qP (some (aD g 0)) 512 N l w.drew ie dD;clear C be ie G H I;go_wp2_with fail;refine m.mono ?_;rintro e a ⟨v2,rfl,jv,bd⟩;have eR:=(ai (bi w.heap.size w)).trans bd;obtain⟨b,rG,rfl,bo,_,_⟩:=jv.src;obtain⟨VT,dP⟩:=bU (show Own a w.heap.size _ _ from jv) eR;clear m bd eR jv bo;go_wp2;go_ret;exact⟨_,rfl, .inr ⟨sW.o,rfl⟩,dP.o⟩
end
end
def H7 (a:Option Addr) (m c:Nat) (l:List Int) (w:World) (s:Src w a m l) (x:Bytes l) (d n:Nat) (D:n<=4) (is:d+n<=m) (C:m<=140737488355328):
  Calls prog 164 #[.slice a m c,iV (d:Int),iV (n:Int)] w λe w'=>e= .returned (iV ((le ((l.drop d).take n):Nat):Int))/\w'=w:=by
 have A:=s.1;have t:=s;clear s;go_in;go_wp2;go_loopw [7,8] (λv i wr=>∃j:Nat,j<=n/\i=iV ((j:Int)-1)/\v=iV ((le ((l.drop (d+j)).take (n-j)):Nat):Int)/\wr=w) (λ_ i _=>(intOf i+1).toNat);case atStart=>exact⟨n,bS _,rfl,by simp [le],rfl⟩
 case round=>
  obtain⟨j,z,rfl,rfl,rfl⟩:=hrel;by_cases q:1<=j
  .obtain⟨i,rfl⟩:∃i,j=i+1:=⟨j-1,by omega⟩;have wj:(0:Int)<=((i+1:Nat):Int)-1:=(by omega);have r:=qS (x.drop (d+(i+1))|>.take (n-(i+1))) (k:=3) (by rw [List.length_take];omega);have f:=qD (l:=l) (p:=d+i) (m:=n-(i+1)) (by omega);rw [show n-(i+1)+1=n-i by omega,show d+i+1=d+(i+1) by omega] at f;obtain⟨V,g⟩:=bQ (le ((l.drop (d+(i+1))).take (n-(i+1))));rw [<-g] at r⊢;obtain⟨b,o,rfl⟩:=cX t (by omega);have db:wr.cell? ⟨b,o+(d+i),none⟩=some (.int .u8 (l.getD (d+i) 0)):=(by have:=t.2.2 _ rfl (d+i) (by omega);rwa [aN] at this);have dD:=x.getD (d+i);have Ja:=f;have y:=g;obtain⟨X,u⟩:=bQ (l.getD (d+i) 0);rw [<-u] at db dD Ja;have Xs:((i+1:Nat):Int)-1=(i:Int):=(by omega);rw [Xs] at wj⊢;have aeJ:(d:Int)+(i:Int)<(m:Int):=(by omega);clear g f Xs u;go_wp2;go_roundw;case rel=>
    refine⟨i,by omega,by go_num,?_,trivial⟩;rw [Ja];congr 1;show _=((X.toNat+256*le ((l.drop (d+(i+1))).take (n-(i+1))):Nat):Int);rw [<-y];omega
   case measure=>simp [intOf]
  .obtain rfl:j=0:=(by omega);have wj:¬(0:Int)<=((0:Nat):Int)-1:=(by omega);go_wp2;go_ret;exact⟨rfl,rfl⟩
def aaH (w w':World) (o:Option CM) (e:Ending):Prop:=
   (o=none/\e= .returned (.tuple #[.slice none 0 0, .bool false]))\/∃cs v,o=some cs/\e= .returned (.tuple #[v, .bool true])/\Pn w' (λj=>w.heap.size<=j) w.heap.size v cs
def SU {m:Nat} (h:n+m<=l.length):((l.drop n).take m).length=m:=by rw [List.length_take,List.length_drop];omega
def H8 (a:Option Addr) (n f:Nat) (d:List Int) (w:World) (m:Src w a n d) (xE:Bytes d) (R:n<=1000000) (PA:n<=f) (Ps:f<=9223372036854775807) (blocks:Nat) (J:blocks<=2048):
  Calls prog 119 #[.slice a n f,iV (blocks:Int)] w λe w'=>aaH w w' (gF blocks d) e/\bW w w':=by
 have Q:=m.1;by_cases T:n<2
 .have F:(n:Int)<2:=by omega
  clear m;go_in;go_wp2;go_ret2;exact⟨.inl ⟨(yh (uz (blocks:=blocks) (d:=d) (.inl (by omega)))).out,rfl⟩,bi _ _⟩
 .have F:¬(n:Int)<2:=by omega
  obtain⟨t,u,rfl⟩:=cX m (by omega);have Da:=H7 (some (aD t u)) n f d w m xE 0 2 (by omega) (by omega) (by omega);rw [List.drop_zero] at Da;have rU:=qS (xE.take 2) (k:=2) (by rw [List.length_take];omega);obtain⟨C,p⟩:=bQ (le (d.take 2));rw [<-p] at Da rU;by_cases r:1<=C/\C<=16/\n=2+516*C
  .obtain⟨r,q2,U⟩:=r;have p1:¬(C:Int)<1:=(by omega);have p2:¬(16:Int)<(C:Int):=(by omega);have p3:((n:Int) != 2+516*(C:Int))=false:=(by rw [bne_eq_false_iff_eq];omega);have D:=Ar (blocks:=blocks) (d:=d) (by omega) ⟨by omega,by omega⟩;rw [<-p] at D;obtain⟨x,N,Z⟩:=kF D m p;have qN:d.length=2+516*C:=(by omega);have l:=yh qN;have O:2+516*C<=f:=(by omega);subst U;clear m D p Q qN T R;go_in;go_wp2_with fail;refine bM Da λw1 bO=>?_;subst bO
   rename World=>w
   clear Da;go_wp2;go_loopw [7,8,9] (λv S i wr=>∃(j lo:Nat) (ks:List Nat),j<=C/\i=iV (j:Int)/\S=iV ((lo:Int)-1)/\lo<=blocks/\ks.length=j/\gF blocks d=ll blocks d C ks lo j/\Pn wr (λj=>w.heap.size<=j) w.heap.size v (mW ks (d.drop (2+4*C)))/\bW w wr) (λ_ _ i _=>C-(intOf i).toNat);case atStart=>exact⟨0,0, [],dV _,rfl,by simp,dV _,rfl,x.o,Pn.nil _ _ _,bi _ _⟩
   case round=>
    obtain⟨j,lo,ks,hj,rfl,rfl,mi,ew,vw,nA,ev⟩:=hrel;obtain⟨Ae,Je,mh,kU⟩:=cO ev.size (yh nA) (yh ev) (N.o.later ev);have I7:=yh kU;by_cases W:j<C
    .have G:(j:Int)<(C:Int):=(by omega);have fB:=H7 (some (aD t u)) (2+516*C) f d wr kU xE (2+4*j) 4 (by omega) (by omega) (by omega);rw [show ((2+4*j:Nat):Int)=2+4*(j:Int) by omega] at fB;rw [wQ W l.o] at vw;have Bd:=qS ((xE.drop (2+4*j)).take 4) (k:=4) (by rw [List.length_take,List.length_drop];omega);generalize le ((d.drop (2+4*j)).take 4)=K at fB vw Bd;clear nA ev kU;by_cases H:lo<=K/\K<blocks
     .rw [aG H] at vw;have k1:¬(K:Int)<=(lo:Int)-1:=(by omega);have q:Src wr (some ⟨t,u+(2+4*C+512*j),none⟩) 512 ((d.drop (2+4*C+512*j)).take 512):=kI I7.o (by omega);have Ai:((d.drop (2+4*C+512*j)).take 512).length=512:=SU (by rw [l.o];omega);have QF:Bytes ((d.drop (2+4*C+512*j)).take 512):=(xE.drop _).take _;have ZG:=C9 K ks (d.drop (2+4*C));rw [List.drop_drop,ew] at ZG;have b1:(0:Int)<=2+4*(C:Int)+512*(j:Int):=(by omega);have b2:2+4*(C:Int)+512*(j:Int)+512<=(f:Int):=(by omega);obtain⟨y,A,VY⟩:=kF (lP (some ⟨t,u+(2+4*C+512*j),none⟩) 512 (f-(2+4*C+512*j)) _ wr (by omega) q) ZG vw;clear q ZG vw;go_wp2_with fail;refine bM fB λX dE=>?_;subst dE;clear fB;go_wp2_with fail;refine y.o.mono ?_;rintro e Y ⟨L,rfl,Fc,A3,bF⟩;have ly:=bF.size;obtain⟨g2,cz,w4,bD,WM,dW⟩:=(Je.o.later bF).aeb (b:=K) (g:=L) (c:=512) (by omega:w.heap.size<=L) A3 ⟨Ai,QF⟩ (by rw [ux];omega) (by omega);rw [ux,ew] at bD WM;rw [<-A.o] at WM;have fw:=(mh.o.trans (bF.mono Ae)).trans (dW.below (λi P=>Je.o.lo i P) (by omega));obtain⟨M,nJ⟩:=bU (aH WM fw) bD;clear Fc A3 bF bD WM dW fw;go_wp2_with (at_builtin;refine br rfl _ _ 126 rfl u7 (.slice (some (aD Y.heap.size 0)) 1 1) _ rfl rfl nJ.o ?_);go_roundw;case rel=>exact⟨j+1,K+1,ks ++ [K],by omega,by go_num,by congr 1;omega,by omega,by simp [ew],VY.o,M.o⟩
      case measure=>simp [intOf];omega
     .rw [aB H] at vw;have VY:=yh vw;have E:(K:Int)<=(lo:Int)-1\/(¬(K:Int)<=(lo:Int)-1/\(blocks:Int)<=(K:Int)):=by
       by_cases z:(K:Int)<=(lo:Int)-1
       .exact .inl z
       .exact .inr ⟨z,by omega⟩
      clear H vw;rcases E with z|⟨z,s⟩;all_goals
       go_wp2_with fail;refine bM fB λX dE=>?_;subst dE;clear fB;go_wp2;go_ret2;exact⟨.inl ⟨VY.o,rfl⟩,mh.o⟩
    .have G:¬(j:Int)<(C:Int):=(by omega);obtain rfl:j=C:=(by omega);rw [As ew l.o] at vw;have VY:=yh vw;clear vw nA ev kU;go_wp2;go_ret2;exact⟨.inr ⟨_,_,VY.o,rfl,Je.o⟩,mh.o⟩
  .have x:=yh (uz (blocks:=blocks) (d:=d) (.inr (by
    by_cases z:1<=le (d.take 2)/\le (d.take 2)<=16
    .exact .inr (λe=>r ⟨by omega,by omega,by omega⟩)
    .exact .inl z)))
   have E:(C:Int)<1\/(¬(C:Int)<1/\(16:Int)<(C:Int))\/(¬(C:Int)<1/\¬(16:Int)<(C:Int)/\((n:Int) != 2+516*(C:Int))=true):=by
    by_cases I:(C:Int)<1
    .exact .inl I
    .by_cases s:(16:Int)<(C:Int)
     .exact .inr (.inl ⟨I,s⟩)
     .exact .inr (.inr ⟨I,s,by rw [gA];intro e;exact r ⟨by omega,by omega,by omega⟩⟩)
   clear p r m;rcases E with z|⟨z,s⟩|⟨z,s,z3⟩;all_goals
    go_in;go_wp2_with fail;refine bM Da λw1 bO=>?_;subst bO;clear Da;go_wp2;go_ret2;exact⟨.inl ⟨x.o,rfl⟩,bi _ _⟩
namespace B
def SV {D:Nat} (h:ax w F p s S D) (dD:S.fL) (f n:Nat) (X:f+2+n<=s) (jk:1<=n) (hn:n<=256) (W:S.fuse≠0) (aU:S.puts.length+1<=4000000000000):
  Calls prog 151 #[kG p f n] w λe w'=>∃v,e= .returned (.tuple #[v,iV 0])/\Me w.heap.size w' n (λi=>dj (S.now (f+2+i))) v/\ax w' F p s S (D+n)/\aa F w w':=by
 obtain⟨i0,L,gB,dC,eu⟩:=info_parts J0;have hs:=h.ok.hi;have x:=yh h.lt;have u:=yh (h.boxed (.cells #[.pointer (some ⟨p,0,none⟩), .int .i64 f, .int .i64 n] 141));have t:=yh dD;clear h dD;go_in;go_wp2_with (at_make;refine wpList_make_full _ rfl _ _ 186 rfl (w.heap.size+1) 229 i0 _ 5 underlying186 L gB dC _ _ _ _ n rfl rfl ?c1 ?c2 ?c3 ?c4 ?c5 ?_);case c1=>rfl
 case c2=>rfl
 case c3=>rw [eu];omega
 case c4=>unfold maxLen;omega
 case c5=>simp
 intro w1 aA aR;have ar:Below (w.heap.size+1) (w.alloc (.cells #[.pointer (some ⟨p,0,none⟩), .int .i64 f, .int .i64 n] 141)) w1:=(bi _ _).grown aR (by simp) (by intro k M;cases M);obtain⟨_,⟨J,_⟩|⟨g',T,cur,J,uP,H,_,_,og,_⟩⟩:=aA
 .cases J
 cases J;have dH:=(ar.block _ (by omega)).trans (heap_alloc_new _ _);have cQ:=yh ((yh (aJ w (.cells #[.pointer (some ⟨p,0,none⟩), .int .i64 f, .int .i64 n] 141))).out.trans (ar.mono (by omega)));have bq:=aq H;have Er:Yh (ii w1 w1.heap.size (w.heap.size+1) n 0 (λi=>dj (S.now (f+2+i)))):=⟨⟨cur,H,og⟩,λi L=>by omega⟩;obtain⟨RK,P⟩:=bU (u.o.later (by show Below _ _ _;rw [World.size_alloc];exact ar)) dH;have l:Yh (¬F w.heap.size/\¬F (w.heap.size+1)):=⟨λh=>by have:=x.o _ h;omega,λh=>by have:=x.o _ h;omega⟩;obtain⟨R,G⟩:∃R,R=(λi=>dj (S.now (f+2+i))):=⟨_,rfl⟩;rw [<-G] at Er;have xF:=yh G;clear aR ar dH H uP og G;go_wp2;go_loopw [13] (λi wr=>∃k:Nat,k<=n/\i=iV k/\ii wr w1.heap.size (w.heap.size+1) n k R/\ax wr F p s S (D+k)/\aa (λj=>F j\/j=w.heap.size+1) w1 wr) (λi _=>n-(intOf i).toNat);case atStart=>exact⟨0,dV _,rfl,Er.o,RK.o,aa.refl _ _⟩
 case round=>
  obtain⟨k,M,rfl,MH,hd,eZ⟩:=hrel;by_cases q:k<n
  .have q':(k:Int)<(n:Int):=(by omega);have dH:=eD P.o eZ (λh=>by rcases h with h|h;exact l.o.1 h;omega);have K:=aM dH;have c1:=bG dH;have c2:=bK dH;have E:=λwx=>LW p f n k wx (by omega) (by omega) (by omega) (by omega) (by omega);rw [show (f:Int)+2+(k:Int)%(n:Int)=((f+2+k:Nat):Int) by rw [Int.emod_eq_of_lt (by omega) (by omega)];omega] at E;obtain⟨H1,z,sP,CV,b⟩:=UV E MH hd eZ dH;clear E MH hd eZ dH;go_wp2_with fail;go_region_held3 (λw'=>w'.cell? (aD w.heap.size 0)=some (pQ p)/\w'.cell? (aD w.heap.size 1)=some (iV (f:Int))/\w'.cell? (aD w.heap.size 2)=some (iV (n:Int)))
    (first|exact⟨K,c1,c2⟩|exact⟨aM mg,bG mg,bK mg⟩|exact⟨aM tI,bG tI,bK tI⟩)
    (first
     |(go_at_call 188;refine(H1.o _).mono ?_;rintro e w2 ⟨rfl,bd⟩;have bF:=(ai (bi wr.heap.size wr)).trans bd;have mg:=(bF.block _ (aq b.o)).trans b.o;have cI:=sP.o.later bF)
     |(go_at_call 68;refine(zJ cI (f+2+k) (by omega) aU W).mono ?_;rintro e w3 ⟨v,rfl,Y,g,aZ⟩;have tI:=eD mg aZ l.o.1))
   obtain⟨Q,U,rfl,zN,ZQ⟩:=Y;have dW:=(CV.o.trans (aa.ah (λ_=>False) bF) (λ_ h=>h.elim)).trans aZ (λ_ h=> .inl (.inl h));have SW:=((z.o.aw (aa.ah (λ_=>False) bF) (λh=>h) (λ_ h=>h.elim)).aw aZ l.o.2 (λj a=>by have:=x.o j a;omega));have I:=Ge Q _ U (S.now (f+2+k)) w3 zN (t.o.now _);rw [show dj (S.now (f+2+k))=R k by rw [xF.o]] at I;obtain⟨Jc,Vt,Mb⟩:=kF SW g dW;clear bd bF mg tI cI g aZ dW SW zN ZQ K c1 c2;go_wp2_with fail;refine I.mono ?_;rintro e N ⟨m,r,rfl,Ej,aeM,fw⟩;have wL:=Jc.o.aw (aa.ah (λ_=>False) fw) (λh=>h) (λ_ h=>h.elim);have wk:=Mb.o.size;have ef:N.there (w.heap.size+1) (k*5) (eO ((R k).e:Int) ((R k).p:Int) ((R k).i:Int) ((R k).c:Int) m (R k).d.length r).size:=λj a=>by
    obtain⟨v,e⟩:=wL.spot q j a;exact⟨by rw [e];rfl,wL.fz _⟩
   have A:=yh ef;have ie:=wL.snoc q (by omega) m r Ej (λy Z=>by have:=aeM y Z;omega);have ew:=tQ N (w.heap.size+1) (k*5) (iV ((R k).e:Int)) (iV ((R k).p:Int)) (iV ((R k).i:Int)) (iV ((R k).c:Int)) (.slice m (R k).d.length r);have dX:=(Mb.o.trans (aa.ah (λ_=>False) fw) (λ_ h=>h.elim)).trans ew (λ_ h=> .inl (.inr h));have jG:=(Vt.o.later fw).aw ew (λj a e=>l.o.2 (e▸a));have O:=yh (aH ie (aH jG dX));have Uk:(0:Int)<=(k:Int):=(by omega);clear wL ie ew dX jG Ej aeM fw I ef;go_wp2_with (refine wpList_store_mid rfl 229 _ _ rfl (w.heap.size+1) (k*5) (eO ((R k).e:Int) ((R k).p:Int) ((R k).i:Int) ((R k).c:Int) m (R k).d.length r) rfl rfl ?s1 ?s2 ?s3 ?_);case s1=>exact A.o
   case s2=>exact ki
   case s3=>simp [Value.oneCell']
   go_roundw;case rel=>exact⟨k+1,by omega,by go_num,O.o⟩
   case measure=>simp [intOf];omega
  .have q':¬(k:Int)<(n:Int):=(by omega);obtain rfl:k=n:=(by omega);have C:=yh (aH MH (aH hd eZ));clear MH hd eZ;go_wp2;go_ret2;refine⟨_,rfl,⟨w.heap.size+1,w1.heap.size,rfl,by omega,by omega,xF.o▸C.o.1⟩,C.o.2.1,?_⟩;exact(aa.ah F cQ.o).trans C.o.2.2 (λj a=>by
    rcases a with a|a
    .exact .inl a
    .exact .inr (by omega))
end B
section
namespace B
section
variable {w:World} {F:Nat->Prop} {p s l cR:Nat} {S:DS} {L:LG}
def aaI (h:ax w F p s S cR) (dD:S.fL) (f n:Nat) (a:f+2+n<=s) (jk:1<=n) (c:n<=256) (b:S.fuse≠0) (aU:S.puts.length+1<=4000000000000):
  Calls prog 151 #[kG p f n] w λe w'=>∃v,e= .returned (.tuple #[v, .int .i64 0])/\Me w.heap.size w' n (dZ S f) v/\ax w' F p s S (cR+n)/\aa F w w':=SV h dD f n a jk c b aU
def KY (h:ax w F p s S cR) (m:cW w l p L) (c:¬F l) (dD:S.fL) (X:L.f+2+L.n<=s) (jk:1<=L.n) (q:L.n<=256) (O:S.fuse≠0) (aU:S.puts.length+1<=4000000000000):
  Calls prog 105 #[.pointer (some ⟨l,0,none⟩)] w λe w'=>pX w' w.heap.size l p L S e/\ax w' F p s S (cR+2+L.n)/\aa (λk=>F k\/k=l) w w':=by
 obtain⟨o,bq,C,D,E,Oz⟩:=jE (VU h L.f L.n aU O (by omega) (dD.now _) (dD.now _)) m.lt m.c0 m.c1 m.c2 ((λi=>kh (dD.now (L.f+2+i))));have N:=λw1 (iN:ax w1 F p s S (cR+2))=>aaI iN dD L.f L.n X jk q O aU;unfold pX;change Calls _ _ _ _ (λe w'=>e= .returned (.tuple #[.int .i64 ((b9 S L.f).1:Int), .int .i64 ((b9 S L.f).2.1:Int), .int .i64 ((b9 S L.f).2.2:Int)])/\ax w' F p s S (cR+2)/\aa F w w') at o;by_cases t:(b9 S L.f).2.2=0
 .rw [t] at o;have P:=(xW (S:=S) (f:=L.f)) t;simp only [aB (λh:¬(b9 S L.f).2.2=0=>h t)];by_cases u:ir S L.f L.n=1073741824
  .simp only [aG u];have R:(max ((b9 S L.f).1:Int) (gN (dZ S L.f) L.n:Int) == 1073741824)=true:=(by unfold ir at u;rw [beq_iff_eq];omega);go_in;go_wp2_with fail;refine fR o λw1 iN ff=>?_;have cq:=m.aw ff c;obtain⟨C,D,E⟩:=kE cq.c0 cq.c1 cq.c2;go_wp2_with fail;refine(N w1 iN).mono ?_;rintro e w2 ⟨v,rfl,⟨g,B,rfl,W,z,r⟩,cI,aY⟩;go_wp2_with fail;refine(Mf r q).mono ?_;rintro e a ⟨rfl,bF⟩;have ip:=(cq.aw aY c).later bF;obtain⟨c5,H,I,Q,J,K,M,T⟩:=xm ip.c5 ip.c6 ip.c7 ip.c8 (ip.fz 5) (ip.fz 6) (ip.fz 7) (ip.fz 8);have aZ:aa (λk=>F k\/k=l) w (a.setCell ⟨l,8,none⟩ (.int .i64 (max ((b9 S L.f).1:Int) (gN (dZ S L.f) L.n:Int)))):=(((ff.trans aY (λ_ h=> .inl h)).trans (aa.ah (λ_=>False) bF) (λ_ h=>h.elim)).mono (λ_ h=> .inl h)).trans (aL (F:=λk=>F k\/k=l) a (.inr rfl) 8 _) (λ_ h=> .inl h);have d:ax (a.setCell ⟨l,8,none⟩ (.int .i64 (max ((b9 S L.f).1:Int) (gN (dZ S L.f) L.n:Int)))) F p s S (cR+2+L.n):=(cI.later bF).aw (aL (F:=λk=>k=l) a rfl 8 _) (λk j e=>c (e▸j));go_wp2_with fail;go_ret2;exact⟨rfl,aH d aZ⟩
  .simp only [aB u];have R:(max ((b9 S L.f).1:Int) (gN (dZ S L.f) L.n:Int) == 1073741824)=false:=(by unfold ir at u;rw [fJ];omega);go_in;go_wp2_with fail;refine fR o λw1 iN ff=>?_;have cq:=m.aw ff c;obtain⟨C,D,E⟩:=kE cq.c0 cq.c1 cq.c2;go_wp2_with fail;refine(N w1 iN).mono ?_;rintro e w2 ⟨v,rfl,⟨g,B,rfl,W,z,r⟩,cI,aY⟩;go_wp2_with fail;refine(Mf r q).mono ?_;rintro e a ⟨rfl,bF⟩;have ip:=(cq.aw aY c).later bF;obtain⟨H,I,Q,J,K,M,T⟩:=nw ip.c6 ip.c7 ip.c8 (ip.fz 5) (ip.fz 6) (ip.fz 7) (ip.fz 8);have aZ:aa (λk=>F k\/k=l) w (a.setCell ⟨l,8,none⟩ (.int .i64 (max ((b9 S L.f).1:Int) (gN (dZ S L.f) L.n:Int)))):=(((ff.trans aY (λ_ h=> .inl h)).trans (aa.ah (λ_=>False) bF) (λ_ h=>h.elim)).mono (λ_ h=> .inl h)).trans (aL (F:=λk=>F k\/k=l) a (.inr rfl) 8 _) (λ_ h=> .inl h);have d:ax (a.setCell ⟨l,8,none⟩ (.int .i64 (max ((b9 S L.f).1:Int) (gN (dZ S L.f) L.n:Int)))) F p s S (cR+2+L.n):=(cI.later bF).aw (aL (F:=λk=>k=l) a rfl 8 _) (λk j e=>c (e▸j));have dC:=ff.size;have U:=Q6 g L.n (b9 S L.f).1 (b9 S L.f).2.1 (dZ S L.f) _ B ((r.aw (aa.ah (λ_=>False) bF) (λh=>h) (λ_ h=>h.elim)).aw (aL (F:=λk=>k=l) a rfl 8 (.int .i64 (max ((b9 S L.f).1:Int) (gN (dZ S L.f) L.n:Int)))) (by omega) (λk j=>by omega)) jk q P.2.2 P.2.1 (λi=>(Oz i).2.2.2.2.1) (λi=>by have:=(Oz i).2.2.2.1;unfold dZ;omega);have x:=(ip.J5 (max ((b9 S L.f).1:Int) (gN (dZ S L.f) L.n:Int)) (ir S L.f L.n) (by unfold ir;omega));have y:=(aH d aZ);go_wp2_with fail;refine U.mono ?_;rintro e w4 ⟨v,hd,rs,rfl,pB,Y,Z,fw⟩;have je:=x.later fw;have ip.c5:=je.c5;obtain⟨H,I,J,K,M,ZG,ew⟩:=nw je.c6 je.c7 (je.fz 5) (je.fz 6) (je.fz 7) y.2.size (((aL (F:=λk=>k=l) w4 rfl 5 (.int .i64 ((b9 S L.f).1:Int))).trans (aL (F:=λk=>k=l) _ rfl 6 (.int .i64 ((b9 S L.f).2.1:Int))) (λ_ h=> .inl h)).trans (aL (F:=λk=>k=l) _ rfl 7 (.int .i64 (hd:Int))) (λ_ h=> .inl h));have A:=(aH (Told.mk ((((pB.xA (b:=l) (by omega) 5 (.int .i64 ((b9 S L.f).1:Int))).xA (b:=l) (by omega) 6 (.int .i64 ((b9 S L.f).2.1:Int))).xA (b:=l) (by omega) 7 (.int .i64 (hd:Int))).low ZG (λ_ h=>h)) Y Z (je.marked (b9 S L.f).1 (b9 S L.f).2.1 hd)) (aH ((y.1.later fw).aw ew (λk j e=>c (e▸j))) ((y.2.trans (aa.ah (λ_=>False) fw) (λ_ h=>h.elim)).trans (ew.mono (G:=λk=>F k\/k=l) (λ_ h=> .inr h)) (λ_ h=> .inl h))));go_wp2_with fail;go_ret2;exact⟨⟨_,_,_,rfl,A.1⟩,A.2⟩
 .have d0:(((b9 S L.f).2.2:Int) == 0)=false:=by rw [fJ];omega
  simp only [aG (λh=>t h:¬(b9 S L.f).2.2=0)];go_in;go_wp2_with fail;refine fR o λw1 iN ff=>?_;go_wp2_with fail;go_ret2;exact⟨rfl,aH (iN.le (by omega:cR+2<=cR+2+L.n)) (ff.mono (G:=λk=>F k\/k=l) (λ_ h=> .inl h))⟩
end
end B
end
section
namespace B
def oRd (S:DS) (s:Nat) (f n:Int):Nat:=if cw S s f n≠0 then 0 else n.toNat+2
section
variable {w:World} {F:Nat->Prop} {p s cR:Nat} {S:DS}
def SX (h:ax w F p s S cR) (dD:S.fL) (f n:Int) (aU:S.puts.length+500<=4000000000000):
  Calls prog 44 #[pQ p,iV f,iV n] w λe w'=>J6 w w' p s S f n e/\ax w' F p s (bA S s f n).2 (cR+oRd S s f n)/\aa F w w':=by
 have A:=h.lt;have Dw:¬F w.heap.size:=λm=>by have:=h.lt _ m;omega
 have z:=(aJ w (.cells #[.pointer (some ⟨p,0,none⟩), .int .i64 f, .int .i64 n] 141));have rC:(w.alloc (.cells #[.pointer (some ⟨p,0,none⟩), .int .i64 f, .int .i64 n] 141)).heap[w.heap.size]? =some (.cells #[.pointer (some ⟨p,0,none⟩), .int .i64 f, .int .i64 n] 141 (0,0)):=heap_alloc_new _ _;have xn:=h.boxed (.cells #[.pointer (some ⟨p,0,none⟩), .int .i64 f, .int .i64 n] 141);have m:=tO xn f n;unfold J6 bA oRd;by_cases q:cw S s f n=0
 .simp only [aB (λh:¬cw S s f n=0=>h q)];obtain⟨Zs,a,b,rfl,rfl,oE,ar,bd⟩:=fV q;rw [q] at m;simp only [Int.toNat_natCast];have C:=(λ(c:World) (l:Nat) (cI:ax c F p s S.take cR) (M:cW c l p (LG.new S a b)) (rL:¬F l)=>(KY cI M rL dD.take oE (by show 1<=b;omega) bd Zs (by show S.puts.length+1<=_;omega)).mono (λe w' h=>aH h.1.ZB (aH (show ax w' F p s S.take (cR+2+b) from h.2.1) h.2.2)));by_cases D:(b9 S a).2.2=0
  .have XX:=D;simp only [aB (λh:¬(b9 S a).2.2=0=>h D)];by_cases E:ir S a b=1073741824
   .have CA:=E;simp only [aG E];simp only [aG (show (41:Int)≠0 by decide)];go_in;go_wp2_with fail;refine bM m λw1 g=>?_;have jI:w1.heap[w.heap.size]? =_:=(g.block _ (by simp)).trans rC;have r:=aM jI;have t:=bG jI;have u:=bK jI;have cQ:=(z.trans (g.mono (by simp)));go_wp2_with fail;go_region_held3 (λw'=>w'.cell? (aD w.heap.size 0)=some (pQ p)/\w'.cell? (aD w.heap.size 1)=some (iV (a:Int))/\w'.cell? (aD w.heap.size 2)=some (iV (b:Int)))
     (first|exact⟨r,t,u⟩|exact⟨aM mg,bG mg,bK mg⟩|exact⟨aM (tI _),bG (tI _),bK (tI _)⟩)
       ((go_at_call 37;refine(zI (xn.later (g.trans (ai (bi w1.heap.size w1) |>.mono g.size)))).mono ?_;rintro e c ⟨rfl,cI,aY⟩;have mg:=eD (w:=w1.drew) jI aY Dw;have tI:=λo=>(aJ c o).block _ (aq mg) |>.trans mg))
    have dC:w.heap.size<w1.heap.size:=(by have:=cQ.size;have:=aq jI;omega);have eu:w1.heap.size<=c.heap.size:=aY.size;have fH:cW (c.alloc (.cells (IZ p (LG.new S a b)) 147)) c.heap.size p (LG.new S a b):=heap_alloc_new _ _;have Fk:=(λh:F c.heap.size=>by have:=A _ h;omega:¬F c.heap.size);have pg:aa F w (c.alloc (.cells (IZ p (LG.new S a b)) 147)):=((aa.ah F (ai cQ)).trans aY (λ_ h=> .inl h)).trans (aa.boxed F _) (λ_ h=> .inl h);go_wp2_with fail;refine(C _ c.heap.size (cI.boxed (.cells (IZ p (LG.new S a b)) 147)) fH Fk).mono ?_;rintro e y ⟨j,i,aZ⟩;rw [aB (λh=>h XX),aG CA] at j;subst j;go_wp2_with fail;go_ret3;exact⟨rfl,(aH (i.le (by omega:cR+2+b<=cR+(b+2))) (pg.trans aZ (λk h=>h.elim .inl (λe=> .inr (by omega)))))⟩
   .have CA:=E;simp only [aB E];have H:=(λ(y:World) (i:ax y F p s S.take (cR+2+b))=>vu i (by show S.puts.length+1<=_;omega));generalize S.take.fl s=Y at*;by_cases k:Y.1=0
    .simp only [aB (λh:¬Y.1=0=>h k)];have d:(Y.1 == 0)=true:=(by rw [beq_iff_eq];exact k);go_in;go_wp2_with fail;refine bM m λw1 g=>?_;have jI:w1.heap[w.heap.size]? =_:=(g.block _ (by simp)).trans rC;have r:=aM jI;have t:=bG jI;have u:=bK jI;have cQ:=(z.trans (g.mono (by simp)));go_wp2_with fail;go_region_held3 (λw'=>w'.cell? (aD w.heap.size 0)=some (pQ p)/\w'.cell? (aD w.heap.size 1)=some (iV (a:Int))/\w'.cell? (aD w.heap.size 2)=some (iV (b:Int)))
      (first|exact⟨r,t,u⟩|exact⟨aM mg,bG mg,bK mg⟩|exact⟨aM (tI _),bG (tI _),bK (tI _)⟩)
        ((go_at_call 37;refine(zI (xn.later (g.trans (ai (bi w1.heap.size w1) |>.mono g.size)))).mono ?_;rintro e c ⟨rfl,cI,aY⟩;have mg:=eD (w:=w1.drew) jI aY Dw;have tI:=λo=>(aJ c o).block _ (aq mg) |>.trans mg))
     have dC:w.heap.size<w1.heap.size:=(by have:=cQ.size;have:=aq jI;omega);have eu:w1.heap.size<=c.heap.size:=aY.size;have fH:cW (c.alloc (.cells (IZ p (LG.new S a b)) 147)) c.heap.size p (LG.new S a b):=heap_alloc_new _ _;have Fk:=(λh:F c.heap.size=>by have:=A _ h;omega:¬F c.heap.size);have pg:aa F w (c.alloc (.cells (IZ p (LG.new S a b)) 147)):=((aa.ah F (ai cQ)).trans aY (λ_ h=> .inl h)).trans (aa.boxed F _) (λ_ h=> .inl h);go_wp2_with fail;refine(C _ c.heap.size (cI.boxed (.cells (IZ p (LG.new S a b)) 147)) fH Fk).mono ?_;rintro e y ⟨j,i,aZ⟩;rw [aB (λh=>h XX),aB CA] at j;obtain⟨v,rs,hd,rfl,J⟩:=j;have lO:=(pg.trans aZ (λk h=>h.elim .inl (λe=> .inr (by omega))));have G:w.heap.size<=(c.alloc (.cells (IZ p (LG.new S a b)) 147)).heap.size:=(by simp;omega);go_wp2_with fail;refine(H y i).mono ?_;rintro e N ⟨rfl,x,dW⟩;have I:=(aH ((J.low (B':=w.heap.size) G).aw dW (λk L=>A k L) Fk) (aH (x.le (by omega:cR+2+b<=cR+(b+2))) (lO.trans dW (λ_ h=> .inl h))));go_wp2_with fail;go_ret3;exact⟨⟨_,_,_,_,rfl,by omega,I.1⟩,I.2⟩
    .simp only [aG (λh=>k h:¬Y.1=0)];have d:(Y.1 == 0)=false:=(by rw [fJ];exact k);go_in;go_wp2_with fail;refine bM m λw1 g=>?_;have jI:w1.heap[w.heap.size]? =_:=(g.block _ (by simp)).trans rC;have r:=aM jI;have t:=bG jI;have u:=bK jI;have cQ:=(z.trans (g.mono (by simp)));go_wp2_with fail;go_region_held3 (λw'=>w'.cell? (aD w.heap.size 0)=some (pQ p)/\w'.cell? (aD w.heap.size 1)=some (iV (a:Int))/\w'.cell? (aD w.heap.size 2)=some (iV (b:Int)))
      (first|exact⟨r,t,u⟩|exact⟨aM mg,bG mg,bK mg⟩|exact⟨aM (tI _),bG (tI _),bK (tI _)⟩)
        ((go_at_call 37;refine(zI (xn.later (g.trans (ai (bi w1.heap.size w1) |>.mono g.size)))).mono ?_;rintro e c ⟨rfl,cI,aY⟩;have mg:=eD (w:=w1.drew) jI aY Dw;have tI:=λo=>(aJ c o).block _ (aq mg) |>.trans mg))
     have dC:w.heap.size<w1.heap.size:=(by have:=cQ.size;have:=aq jI;omega);have eu:w1.heap.size<=c.heap.size:=aY.size;have fH:cW (c.alloc (.cells (IZ p (LG.new S a b)) 147)) c.heap.size p (LG.new S a b):=heap_alloc_new _ _;have Fk:=(λh:F c.heap.size=>by have:=A _ h;omega:¬F c.heap.size);have pg:aa F w (c.alloc (.cells (IZ p (LG.new S a b)) 147)):=((aa.ah F (ai cQ)).trans aY (λ_ h=> .inl h)).trans (aa.boxed F _) (λ_ h=> .inl h);go_wp2_with fail;refine(C _ c.heap.size (cI.boxed (.cells (IZ p (LG.new S a b)) 147)) fH Fk).mono ?_;rintro e y ⟨j,i,aZ⟩;rw [aB (λh=>h XX),aB CA] at j;obtain⟨v,rs,hd,rfl,J⟩:=j;have lO:=(pg.trans aZ (λk h=>h.elim .inl (λe=> .inr (by omega))));go_wp2_with fail;refine(H y i).mono ?_;rintro e N ⟨rfl,x,dW⟩;go_wp2_with fail;go_ret3;exact⟨rfl,aH (x.le (by omega:cR+2+b<=cR+(b+2))) (lO.trans dW (λ_ h=> .inl h))⟩
  .have XX:=D;have K:(((b9 S a).2.2:Int) == 0)=false:=(by rw [fJ];omega);simp only [aG (λh=>D h:¬(b9 S a).2.2=0)];simp only [aG (show (((b9 S a).2.2:Nat):Int)≠0 by omega)];go_in;go_wp2_with fail;refine bM m λw1 g=>?_;have jI:w1.heap[w.heap.size]? =_:=(g.block _ (by simp)).trans rC;have r:=aM jI;have t:=bG jI;have u:=bK jI;have cQ:=(z.trans (g.mono (by simp)));go_wp2_with fail;go_region_held3 (λw'=>w'.cell? (aD w.heap.size 0)=some (pQ p)/\w'.cell? (aD w.heap.size 1)=some (iV (a:Int))/\w'.cell? (aD w.heap.size 2)=some (iV (b:Int)))
    (first|exact⟨r,t,u⟩|exact⟨aM mg,bG mg,bK mg⟩|exact⟨aM (tI _),bG (tI _),bK (tI _)⟩)
      ((go_at_call 37;refine(zI (xn.later (g.trans (ai (bi w1.heap.size w1) |>.mono g.size)))).mono ?_;rintro e c ⟨rfl,cI,aY⟩;have mg:=eD (w:=w1.drew) jI aY Dw;have tI:=λo=>(aJ c o).block _ (aq mg) |>.trans mg))
   have dC:w.heap.size<w1.heap.size:=(by have:=cQ.size;have:=aq jI;omega);have eu:w1.heap.size<=c.heap.size:=aY.size;have fH:cW (c.alloc (.cells (IZ p (LG.new S a b)) 147)) c.heap.size p (LG.new S a b):=heap_alloc_new _ _;have Fk:=(λh:F c.heap.size=>by have:=A _ h;omega:¬F c.heap.size);have pg:aa F w (c.alloc (.cells (IZ p (LG.new S a b)) 147)):=((aa.ah F (ai cQ)).trans aY (λ_ h=> .inl h)).trans (aa.boxed F _) (λ_ h=> .inl h);go_wp2_with fail;refine(C _ c.heap.size (cI.boxed (.cells (IZ p (LG.new S a b)) 147)) fH Fk).mono ?_;rintro e y ⟨j,i,aZ⟩;rw [aG (λh=>XX h)] at j;subst j;go_wp2_with fail;go_ret3;exact⟨rfl,(aH (i.le (by omega:cR+2+b<=cR+(b+2))) (pg.trans aZ (λk h=>h.elim .inl (λe=> .inr (by omega)))))⟩
 .simp only [aG (λh=>q h:¬cw S s f n=0)];have K:(cw S s f n == 0)=false:=by rw [fJ];exact q
  go_in;go_wp2_with fail;refine bM m λw1 g=>?_;go_wp2_with fail;go_ret3;exact⟨rfl,(aH (xn.later g) (aa.ah F (z.trans (g.mono (by simp)))))⟩
end
end B
end
section
namespace B
section
variable {w:World} {F:Nat->Prop} {p s l cR:Nat} {S:DS} {L:LG}
def OO (h:ax w F p s S cR) (t:cW w l p L) (a:L.Ok s) (q:¬F l) (dD:S.fL) (aU:S.puts.length+2<=4000000000000):
  Calls prog 46 #[pQ l] w λe w'=>e= .returned (iV (L.start S s).1)/\ax w' (more F w w') p s (L.start S s).2.1 (cR+2)/\cW w' l p (L.start S s).2.2/\aa (λk=>F k\/k=l) w w':=by
 obtain⟨i,j,c,bq,O,DR⟩:=jE (tP h t) t h t.lt a.s a.top;unfold LG.start;have u:=(λb (cI:ax b F p s S cR)=>Ko cI L.f L.n (L.top+1) 0 (by omega) (by omega) aU (by have:=a.n1;omega) (dD.now _) (dD.now _));go_in;cases hd:L.dead S
 .rw [hd] at i;rw [aB (by decide)];cases r:L.begun
  .rw [aB (by decide)];generalize N:cZ S s L.f (((L.top+1:Nat):Int)*4294967296+((0:Nat):Int))=Y at*;by_cases k:Y.1=0
   .rw [aB (λh=>h k)];have d:(Y.1 == 0)=true:=(by rw [beq_iff_eq];exact k);go_wp2_with fail;refine bM i λw1 ar=>?_;have cq:=j.later ar;obtain⟨x,y,z,g,A⟩:=eK cq.c0 cq.c1 cq.c2 cq.c4 cq.c8;rw [r] at g;have m:=u w1 (c.later ar);rw [show ((L.top+1:Nat):Int)=(L.top:Int)+1 by omega,show (((0:Nat):Int))=0 from rfl] at m;go_wp2_with fail;refine fR m λb cI aY=>?_;have fH:=cq.aw aY q;obtain⟨I,J,K,M,g,D,E,H,dC,eu⟩:=vV (fH.fz 4) (fH.fz 5) (fH.fz 6) (fH.fz 7) fH.c4 fH.c5 fH.c6 fH.c7 ar.size aY.size;have C:aa (λk=>F k\/k=l) w ((((b.setCell ⟨l,4,none⟩ (.bool true)).setCell ⟨l,5,none⟩ (.int .i64 ((L.top:Int)+1))).setCell ⟨l,6,none⟩ (.int .i64 0)).setCell ⟨l,7,none⟩ (.int .i64 0)):=
       (((((aa.ah (λk=>F k\/k=l) ar).trans aY (λ_ h=> .inl (.inl h))).trans (aL (F:=λk=>k=l) b rfl 4 _) (λ_ h=> .inl (.inr h))).trans (aL (F:=λk=>k=l) _ rfl 5 _) (λ_ h=> .inl (.inr h))).trans (aL (F:=λk=>k=l) _ rfl 6 _) (λ_ h=> .inl (.inr h))).trans (aL (F:=λk=>k=l) _ rfl 7 _) (λ_ h=> .inl (.inr h))
    have o:ax ((((b.setCell ⟨l,4,none⟩ (.bool true)).setCell ⟨l,5,none⟩ (.int .i64 ((L.top:Int)+1))).setCell ⟨l,6,none⟩ (.int .i64 0)).setCell ⟨l,7,none⟩ (.int .i64 0)) (more F w1 b) p s Y.2 (cR+2):=by
     have dM:∀k,more F w1 b k->¬k=l:=λk a e=>by
      subst e;rcases a with a|a
      .exact q a
      .omega
     exact(((cI.aw (aL (F:=λk=>k=l) b rfl 4 _) dM).aw (aL (F:=λk=>k=l) _ rfl 5 _) dM).aw (aL (F:=λk=>k=l) _ rfl 6 _) dM).aw (aL (F:=λk=>k=l) _ rfl 7 _) dM
    have eE:((((b.setCell ⟨l,4,none⟩ (.bool true)).setCell ⟨l,5,none⟩ (.int .i64 ((L.top:Int)+1))).setCell ⟨l,6,none⟩ (.int .i64 0)).setCell ⟨l,7,none⟩ (.int .i64 0)).heap.size=b.heap.size:=(by simp [World.setCell]);have v:=(aH ((o.mono (G:=more F w ((((b.setCell ⟨l,4,none⟩ (.bool true)).setCell ⟨l,5,none⟩ (.int .i64 ((L.top:Int)+1))).setCell ⟨l,6,none⟩ (.int .i64 0)).setCell ⟨l,7,none⟩ (.int .i64 0))) (λk a=>by
      rcases a with a|a
      .exact .inl a
      .exact .inr ⟨by omega,by rw [eE];exact a.2⟩) (cJ (F:=F) (w:=w) c.lt (by rw [eE];omega)))) (aH (fH.started ((L.top:Int)+1) (L.top+1) (by omega)) C))
    go_wp2;go_ret;exact⟨rfl,v⟩
   .rw [aG k];have d:(Y.1 == 0)=false:=(by rw [fJ];exact k);go_wp2_with fail;refine bM i λw1 ar=>?_;have cq:=j.later ar;obtain⟨x,y,z,g,A⟩:=eK cq.c0 cq.c1 cq.c2 cq.c4 cq.c8;rw [r] at g;have m:=u w1 (c.later ar);rw [show ((L.top+1:Nat):Int)=(L.top:Int)+1 by omega,show (((0:Nat):Int))=0 from rfl] at m;have cQ:=ar;go_wp2_with fail;refine fR m λb cI aY=>?_;go_wp2;go_ret;exact⟨rfl,(aH (cI.from c.lt cQ.size aY.size) (aH (cq.aw aY q) ((aa.ah (λk=>F k\/k=l) cQ).trans aY (λ_ h=> .inl (.inl h)))))⟩
  .rw [aG rfl];go_wp2_with fail;refine bM i λw1 ar=>?_;have g:=(j.later ar).c4;rw [r] at g;go_wp2;go_ret;exact⟨rfl,aH (((c.later ar).more (w:=w)).le (by omega:cR<=cR+2)) (aH (j.later ar) (aa.ah (λk=>F k\/k=l) ar))⟩
 .rw [hd] at i;rw [aG rfl];go_wp2_with fail;refine bM i λw1 ar=>?_;go_wp2;go_ret;exact⟨rfl,aH (((c.later ar).more (w:=w)).le (by omega:cR<=cR+2)) (aH (j.later ar) (aa.ah (λk=>F k\/k=l) ar))⟩
end
end B
end
def Db {R:Nat->PC} {E:Nat} (a:∀q,(R q).d.length<=492):∀{rs:List (List Int)} {P h:Nat},dF R E P rs h->∀d∈rs,d.length<=8364
 | [],_,_,_,d,hd=>by cases hd
 |x :: xs,P,h,⟨k,hk,ht⟩,d,hd=>by
  rcases List.mem_cons.1 hd with rfl|b
  .have e:∀c,(ld R P c).length<=492*c:=λc=>by
    induction c with
    |zero=>simp [mw]
    |succ c f=>rw [iB,ed];have:=a (P+c);omega
   have:=e k;have:=hk.2.1;rw [hk.2.2.2];omega
  .exact Db a ht d b
def wT {R:Nat->PC} {E:Nat} (b:∀q,Bytes (R q).d):∀{rs:List (List Int)} {P h:Nat},dF R E P rs h->∀d∈rs,Bytes d
 | [],_,_,_,d,hd=>by cases hd
 |x :: xs,P,h,⟨k,hk,ht⟩,d,hd=>by
  rcases List.mem_cons.1 hd with rfl|e
  .have f:∀c,Bytes (ld R P c):=λc=>by
    induction c with
    |zero=>intro x a;simp [mw] at a
    |succ c g=>
     rw [iB];intro x a;rcases List.mem_append.1 a with a|a
     .exact g x a
     .exact b _ x a
   rw [hk.2.2.2];exact f k
  .exact wT b ht d e
structure jQ (S:DS) (f n:Nat) (rs:List (List Int)) (hd:Nat):Prop where
 t:dF (Rp (dZ S f) n) (b9 S f).1 (b9 S f).2.1 rs hd
 x:∀c d,¬Rec (Rp (dZ S f) n) (b9 S f).1 hd c d
def jQ.small {b:Nat} (h:jQ S a b rs hd) (dD:S.fL) (ar:1<=b):rs.length<=b/\(∀r∈rs,Bytes r/\r.length<=1000000)/\(b9 S a).2.1<=hd/\hd<=(b9 S a).2.1+b:=by
 have d:=dF.round ar (tS (dZ S a) b) h.t;have f:=dF.length h.t;have e:=dF.le h.t;refine⟨by omega,λr c=>⟨?_,?_⟩,e,d⟩
 .exact wT (λq=>(kh (dD.now (a+2+q%b))).2.2.2.2.2) h.t r c
 .have:=Db (λq=>(kh (dD.now (a+2+q%b))).2.2.2.2.1) h.t r c;omega
def fh (S:DS) (f n hd:Nat):LG:={LG.new S f n with ep:=(b9 S f).1,tail:=(b9 S f).2.1,head:=hd,top:=ir S f n}
def yn {b:Nat} (h:jQ S a b rs hd) (dD:S.fL) (d:(b9 S a).2.2=0) (g:ir S a b≠1073741824) (oE:a+2+b<=s) (ar:18<=b) (bd:b<=256):(fh S a b hd).Ok s:=by
 obtain⟨_,_,e,f⟩:=h.small dD (by omega);have RP:=xW d;have Pk:=D4 (n:=b) d;refine⟨oE,ar,bd,RP.2.1,?_,e,f,?_,λc=>by cases c⟩
 .show ir S a b<_;omega
 .show hd<=_;omega
def l7 {f:Nat} (h:(bA S s f n).1=0):cw S s f n=0/\(b9 S f).2.2=0/\ir S f n≠1073741824/\bA S s f n=S.take.fl s:=by
 unfold bA at*;simp only [Int.toNat_natCast] at*;split at h
 .rename_i k;exact absurd h k
 .rename_i a;split at h
  .rename_i k;exact absurd (Int.ofNat_eq_zero.1 h) k
  .rename_i b;split at h
   .cases h
   .rename_i c;exact⟨Decidable.of_not_not a,Decidable.of_not_not b,c,by rw [aB a,aB b,aB c]⟩
def EE (a b:Nat) (f:Value) (x:Value) (w:World) (c:w.heap[a]? =some (.cells #[f] 50 (0,0))) (d:w.heap[b]? =some (.cells #[x] 46 (0,0))) (dM:a≠b):
  CallsD prog 42 #[.pointer (some ⟨a,0,none⟩), .pointer (some ⟨b,0,none⟩)] (.panicking RN) w λe i w'=>
   e= .returned (.tuple #[])/\i= .panicking [{v:= .iface 46 (.int .i64 6),recovered:=true}]/\w'=(w.setCell ⟨a,0,none⟩ (.pointer none)).setCell ⟨b,0,none⟩ (.int .i64 6):=by
 have ajD:¬b=a:=λe=>dM e.symm;refine callsD_of_wpS func42 rfl λj cs g=>?_;apply wpS_seq;apply wpS_region;simp [wpOpsS,go_sem,recoverD,g,ntmps42,Exit.thenS];refine wpS_cond (t:=true) (by simp [Act.eval,Array.replicate]) ?_;simp only [if_true];apply wpS_region;simp [wpOpsS,go_sem,aM c,ae c 0,aM d,ae d 0,bodyPostS,results,results42]
def kT (b c:Nat) (w:World):
  CallsD prog 42 #[.pointer (some ⟨b,0,none⟩), .pointer (some ⟨c,0,none⟩)] .returning w λe f w'=>e= .returned (.tuple #[])/\f= .returning/\w'=w:=by
 refine callsD_of_wpS func42 rfl λa cs d=>?_;apply wpS_seq;apply wpS_region;simp [wpOpsS,go_sem,recoverD,d,ntmps42,Exit.thenS];refine wpS_cond (t:=false) (by simp [Act.eval,Array.replicate]) ?_;simp only [Bool.false_eq_true,if_false];refine wpS_of_wp (wp_skip ?_);cases a
 simp_all [bodyPostS,results,results42]
def j0 (S:DS) (s:Nat) (x:Int) (S':DS):Prop:=
   (SK S s Yk x/\x≠0/\S'=S)\/
   (mI (S.now 0) s/\S.fuse≠0/\(((bA S s 1 ((cE (S.now 0)).log:Nat)).1=x/\x≠0/\S'=(bA S s 1 ((cE (S.now 0)).log:Nat)).2)\/
    ((bA S s 1 ((cE (S.now 0)).log:Nat)).1=0/\∃rs hd,jQ S 1 (cE (S.now 0)).log rs hd/\
     ((iH (cE (S.now 0)).blocks [] rs=none/\x=6/\S'=(bA S s 1 ((cE (S.now 0)).log:Nat)).2)\/
    ∃ov,iH (cE (S.now 0)).blocks [] rs=some ov/\
       (((em (bA S s 1 ((cE (S.now 0)).log:Nat)).2 s (cE (S.now 0)) ov rs).1=x/\x≠0/\S'=(em (bA S s 1 ((cE (S.now 0)).log:Nat)).2 s (cE (S.now 0)) ov rs).2)\/
        ((em (bA S s 1 ((cE (S.now 0)).log:Nat)).2 s (cE (S.now 0)) ov rs).1=0/\((fh S 1 (cE (S.now 0)).log hd).start (em (bA S s 1 ((cE (S.now 0)).log:Nat)).2 s (cE (S.now 0)) ov rs).2 s).1=x/\S'=((fh S 1 (cE (S.now 0)).log hd).start (em (bA S s 1 ((cE (S.now 0)).log:Nat)).2 s (cE (S.now 0)) ov rs).2 s).2.1))))))
def aeN {a:World} (bq:∀k,F k->k<w.heap.size) (fH:w.heap.size+1<a.heap.size) (po:a.heap[w.heap.size]? =some (.cells #[.pointer none] 50 (0,0))) (fZ:a.heap[w.heap.size+1]? =some (.cells #[.int .i64 0] 46 (0,0))) (hd:B.ax a F p s S c) (i:aa F w a) (x:Int) (o:Obj):
    ((a.setCell ⟨w.heap.size+1,0,none⟩ (.int .i64 x)).alloc o).heap[w.heap.size]? =some (.cells #[.pointer none] 50 (0,0))/\((a.setCell ⟨w.heap.size+1,0,none⟩ (.int .i64 x)).alloc o).heap[w.heap.size+1]? =some (.cells #[.int .i64 x] 46 (0,0))/\((a.setCell ⟨w.heap.size+1,0,none⟩ (.int .i64 x)).alloc o).heap[a.heap.size]? =some o/\B.ax ((a.setCell ⟨w.heap.size+1,0,none⟩ (.int .i64 x)).alloc o) F p s S c/\aa F w ((a.setCell ⟨w.heap.size+1,0,none⟩ (.int .i64 x)).alloc o)/\((a.setCell ⟨w.heap.size+1,0,none⟩ (.int .i64 x)).alloc o).heap.size=a.heap.size+1:=by
 have b:=aa.setCell (F:=λk=>k=w.heap.size+1) a (p:=⟨w.heap.size+1,0,none⟩) rfl (.int .i64 x);have f:=size_setCell a ⟨w.heap.size+1,0,none⟩ (.int .i64 x);have d:=Below.heap_alloc (a.setCell ⟨w.heap.size+1,0,none⟩ (.int .i64 x)) o;refine⟨(d _ (by omega)).trans ((b.block _ (by omega) (by omega)).trans po),(d _ (by omega)).trans ?_,?_,?_,?_,by rw [World.size_alloc,f]⟩
 .rw [heap_setCell_same _ _ _ _ _ _ fZ];rfl
 .rw [<-f];exact heap_alloc_new _ _
 .exact(hd.aw b (λk g e=>by have:=bq _ g;omega)).boxed o
 .exact(i.trans b (λk e=> .inr (by omega))).trans (aa.alloc (λ_=>False) _ o) (λ_ h=>h.elim)
def oset {a:World} {y x:Int} (bq:∀k,F k->k<w.heap.size\/w.heap.size+2<=k) (po:a.heap[w.heap.size]? =some (.cells #[u] 50 (0,0))) (fZ:a.heap[w.heap.size+1]? =some (.cells #[.int .i64 y] 46 (0,0))) (hd:B.ax a F p s S c):
    ((a.setCell ⟨w.heap.size,0,none⟩ v).setCell ⟨w.heap.size+1,0,none⟩ (.int .i64 x)).heap[w.heap.size]? =some (.cells #[v] 50 (0,0))/\((a.setCell ⟨w.heap.size,0,none⟩ v).setCell ⟨w.heap.size+1,0,none⟩ (.int .i64 x)).heap[w.heap.size+1]? =some (.cells #[.int .i64 x] 46 (0,0))/\B.ax ((a.setCell ⟨w.heap.size,0,none⟩ v).setCell ⟨w.heap.size+1,0,none⟩ (.int .i64 x)) F p s S c/\aa (λk=>k=w.heap.size\/k=w.heap.size+1) a ((a.setCell ⟨w.heap.size,0,none⟩ v).setCell ⟨w.heap.size+1,0,none⟩ (.int .i64 x)):=by
 have b:=aa.setCell (F:=λk=>k=w.heap.size\/k=w.heap.size+1) a (p:=⟨w.heap.size,0,none⟩) (.inl rfl) v;have d:=aa.setCell (F:=λk=>k=w.heap.size\/k=w.heap.size+1) (a.setCell ⟨w.heap.size,0,none⟩ v) (p:=⟨w.heap.size+1,0,none⟩) (.inr rfl) (.int .i64 x);have f:(a.setCell ⟨w.heap.size,0,none⟩ v).heap[w.heap.size]? =some (.cells #[v] 50 (0,0)):=by
  rw [heap_setCell_same _ _ _ _ _ _ po];rfl
 have g:(a.setCell ⟨w.heap.size,0,none⟩ v).heap[w.heap.size+1]? =some (.cells #[.int .i64 y] 46 (0,0)):=(Below.heap_setCell _ _ _ _ (by simp)).trans fZ;refine⟨(Below.heap_setCell _ _ _ _ (by simp)).trans f,?_,?_,b.trans d (λ_ h=> .inl h)⟩
 .rw [heap_setCell_same _ _ _ _ _ _ g];rfl
 .exact hd.aw (b.trans d (λ_ h=> .inl h)) (λk i e=>by have:=bq _ i;omega)
def OP (h:B.ax w F p s S c) (dD:S.fL) (aU:S.puts.length+1<=4000000000000) (i9:S.fuse=0\/¬mI (S.now 0) s):
  Calls prog 13 #[.pointer (some ⟨p,0,none⟩)] w λe w'=>∃x,e= .returned (.tuple #[.pointer none, .int .i64 x])/\j0 S s x S/\B.ax w' F p s S (c+1)/\aa F w w':=by
 obtain⟨w1,bO⟩:=bQ ((w.alloc (.cells #[.pointer none] 50)).alloc (.cells #[.int .i64 0] 46));have bN:Below w.heap.size w w1:=by rw [bO];exact cm w _ _
 have sf:w1.heap.size=w.heap.size+2:=by rw [bO];simp
 have po:w1.heap[w.heap.size]? =some (.cells #[.pointer none] 50 (0,0)):=by rw [bO];exact heap_alloc2_old _ _ _
 have fZ:w1.heap[w.heap.size+1]? =some (.cells #[.int .i64 0] 46 (0,0)):=by rw [bO];exact heap_alloc2_new _ _ _
 have bq:=h.lt
 go_enter_defers func13,ntmps13
 go_wp2_with fail;rw [<-bO];refine(uw (h.later bN) dD aU).mono ?_;rintro e i ⟨y,x,rfl,mi,cI,aY⟩;have eu:=aY.size;have rC:x≠0/\y=Yk:=by
  rcases mi with ⟨_,b,D⟩|⟨C,b,_⟩|⟨_,_,b,D⟩
  .exact⟨by omega,b⟩
  .rcases i9 with h|h
   .exact absurd h C
   .exact absurd b h
  .exact⟨by omega,b⟩
 obtain⟨o,rfl⟩:=rC;have z:(j0 S s x S):= .inl ⟨mi,o,rfl⟩;have WN:=(aY.block w.heap.size (by omega) (λd=>by have:=bq _ d;omega)).trans po;have H9:=(aY.block (w.heap.size+1) (by omega) (λd=>by have:=bq _ d;omega)).trans fZ;have n:(B.ax i F p s S (c+1)/\aa F w i):=⟨cI,(aa.ah F bN).trans aY (λ_ h=> .inl h)⟩;have N:=aM H9;have O:=ae H9 0;have A:(x != 0)=true:=by simp [o]
 have fH:w.heap.size+1<i.heap.size:=by omega
 obtain⟨l,m,_,E,G,_⟩:=aeN bq fH WN H9 n.1 n.2 x (.cells #[.int .i64 0, .int .i64 0, .int .i64 0, .int .i64 0, .int .i64 0] 75)
 dsimp only [PD]
 go_upto_region 3 with fail
 generalize (i.setCell ⟨w.heap.size+1,0,none⟩ (.int .i64 x)).alloc (.cells #[.int .i64 0, .int .i64 0, .int .i64 0, .int .i64 0, .int .i64 0] 75)=K at*;obtain⟨g,L,P,M,Q⟩:=eK ((aH l (aH m (aH E G)))) (aM l) (ae l 0) (aj m (j:=0) (u:= .int .i64 x) rfl) (ae m 0)
 go_upto_region 4 with fail
 go_region
 obtain⟨q,r,p3,H⟩:=oset (w:=w) (v:= .pointer none) (x:=x) (λk d=> .inl (bq k d)) g.1 g.2.1 g.2.2.1;generalize (K.setCell ⟨w.heap.size,0,none⟩ (.pointer none)).setCell ⟨w.heap.size+1,0,none⟩ (.int .i64 x)=a at*;have UK:Below a.heap.size a a.drew:=ai (bi _ _);have t:(B.ax a.drew F p s S (c+1)/\aa F w a.drew):=⟨p3.later UK,(g.2.2.2.trans H (λk e=> .inr (by omega))).trans (aa.ah (λ_=>False) UK) (λ_ h=>h.elim)⟩;have I:=aj ((UK.block _ (aq q)).trans q) (j:=0) (u:= .pointer none) rfl;have J:=aj ((UK.block _ (aq r)).trans r) (j:=0) (u:= .int .i64 x) rfl;generalize a.drew=w5 at*;go_wp2;refine leaves_cons (f:=42) (args:= #[.pointer (some ⟨w.heap.size,0,none⟩), .pointer (some ⟨w.heap.size+1,0,none⟩)]) (by simp) (by simp [go_sem]) ?_;refine(kT _ _ _).mono ?_;rintro e R Bi ⟨rfl,rfl,rfl⟩;simp [Leaves,settle,results,results13,go_sem,I,J];exact⟨z,t⟩
def sX (h:L.Ok s) (h0:(L.start S s).1=0):(L.start S s).2.2.Ok s/\(L.start S s).2.2.begun=true:=by
 unfold LG.start at*;split
 .rename_i k;rw [aG k] at h0;cases h0
 .rename_i k;rw [aB k] at h0;split
  .rename_i a;rw [aG a] at h0;cases h0
  .rename_i a;rw [aB a] at h0;split
   .rename_i b;rw [aG b] at h0;exact absurd h0 b
   .have c:=h.top;exact⟨⟨h.s,h.n1,h.n2,by show L.top+1<=_;omega,h.top,bS _,by show 0<=_;omega,by show 0<=_;omega,λ_=>by show 0<=_;omega⟩,rfl⟩
def uB:∀{ks:List Nat} {l r:List Int} {cs:CM},dU ks l=some (cs,r)->Bytes l->∀x∈cs,Bytes x.2
 | [],l,r,cs,h,_=>by
  simp only [dU,Option.some.injEq,Prod.mk.injEq] at h;obtain⟨rfl,_⟩:=h;simp
 |k :: ks,l,r,cs,h,hb=>by
  rw [jA] at h;split at h
  .cases h
  .cases a:dU ks (l.drop 512) with
   |none=>rw [a] at h;cases h
   |some x=>
    rw [a] at h;simp only [Option.map_some,Option.some.injEq,Prod.mk.injEq] at h;obtain⟨rfl,rfl⟩:=h;intro z b;rcases List.mem_cons.1 b with rfl|b
    .exact hb.take 512
    .exact uB (cs:=x.1) (r:=x.2) a (hb.drop 512) z b
def uC {blocks:Nat}:∀{n lo:Nat} {l r:List Int} {ks:List Nat},gQ blocks n lo l=some (ks,r)->Bytes l->Bytes r
 |0,lo,l,r,ks,h,hb=>by
  simp only [gQ,Option.some.injEq,Prod.mk.injEq] at h;obtain⟨_,rfl⟩:=h;exact hb
 |n+1,lo,l,r,ks,h,hb=>by
  rw [qB] at h;split at h
  .cases h
  .split at h
   .cases a:gQ blocks n (le (l.take 4)+1) (l.drop 4) with
    |none=>rw [a] at h;cases h
    |some x=>
     rw [a] at h;simp only [Option.map_some,Option.some.injEq,Prod.mk.injEq] at h;obtain⟨_,rfl⟩:=h;exact uC (ks:=x.1) (r:=x.2) a (hb.drop 4)
   .cases h
def Ia (h:gF blocks d=some cs) (c:Bytes d):∀x∈cs,Bytes x.2:=by
 unfold gF at h;split at h
 .cases h
 .split at h
  .split at h
   .cases h
   .rename_i ks r e;cases b:dU ks r with
    |none=>rw [b] at h;cases h
    |some x=>
     obtain⟨g,f⟩:=x;rw [b] at h;cases f with
     |nil=>
      simp only [jP,Option.some.injEq] at h;subst h;exact uB b (uC e (c.drop 2))
     |cons a t=>cases h
  .cases h
def KZ:∀{cs:CM},(∀x∈ms,Bytes x.2)->(∀x∈cs,Bytes x.2)->∀x∈CM.bT ms cs,Bytes x.2:=by
 intro cs
 induction cs generalizing ms with
 |nil=>intro h _ x a;exact h x a
 |cons q c f=>
  intro d b;have e:CM.bT ms (q :: c)=CM.bT (CM.put ms q.1 q.2) c:=rfl;rw [e];refine f (λx a=>?_) (λx a=>b x (List.mem_cons_of_mem _ a));rcases CM.qU a with rfl|a
  .exact b q (by simp)
  .exact d x a
def qE {blocks:Nat}:∀{rs:List (List Int)} {ms ov:CM},iH blocks ms rs=some ov->(∀x∈ms,Bytes x.2)->(∀r∈rs,Bytes r)->∀x∈ov,Bytes x.2
 | [],ms,ov,h,hm,_=>by
  simp only [iH,Option.some.injEq] at h;subst h;exact hm
 |r :: rs,ms,ov,h,hm,hr=>by
  unfold iH at h;cases a:gF blocks r with
  |none=>rw [a] at h;cases h
  |some cs=>
   rw [a] at h;exact qE h (KZ hm (Ia a (hr r (by simp)))) (λx b=>hr x (List.mem_cons_of_mem _ b))
def Dc (h:S.fL) (b:∀x∈ov,Bytes x.2):(em S s y ov rs).2.fL:=by
 unfold em;split
 .exact h
 .have a:=kr h s y.home (ms:=ov) b;split
  .exact a
  .exact a.fl s
def K0 (h0:(em S s y ov rs).1=0):(em S s y ov rs).2.puts.length<=S.puts.length:=by
 unfold em at*;split
 .exact bS _
 .rename_i k;rw [aB k] at h0;split
  .rename_i a;rw [aG a] at h0;exact absurd h0 a
  .rename_i a;rw [aB a] at h0;rw [jm h0];exact dV _
def kw (h:mI (S.now 0) s):(cE (S.now 0)).home+(cE (S.now 0)).blocks<=s/\1+2+(cE (S.now 0)).log<=s/\18<=(cE (S.now 0)).log/\(cE (S.now 0)).log<=256/\(cE (S.now 0)).blocks<=2048:=by
 have d:=h.1.geo;have e:=h.2;unfold vE at d;unfold cE;simp only;generalize u32 (S.now 0) 8=a at*;generalize u32 (S.now 0) 12=b at*;generalize u32 (S.now 0) 16=c at*;omega
def sY (S:DS) (s:Nat) (L:LG):Prop:=∃rs hd ov,jQ S 1 (cE (S.now 0)).log rs hd/\iH (cE (S.now 0)).blocks [] rs=some ov/\L=((fh S 1 (cE (S.now 0)).log hd).start (em (bA S s 1 ((cE (S.now 0)).log:Nat)).2 s (cE (S.now 0)) ov rs).2 s).2.2
def SY (w:World) (F:Nat->Prop) (p s c:Nat) (S:DS) (e:Ending) (w':World):Prop:=∃x S' cR,cR<=c+5+(cE (S.now 0)).log/\j0 S s x S'/\aa F w w'/\((x≠0/\e= .returned (.tuple #[.pointer none,iV x])/\B.ax w' (more F w w') p s S' cR)\/(x=0/\∃q l m L F',sY S s L/\e= .returned (.tuple #[pQ q,iV 0])/\(∀k,F' k->more F w w' k)/\w.heap.size<=q/\w.heap.size<=l/\w.heap.size<=m/\it w' F' p s cR q l m S' ⟨cE (S.now 0),L, [],false⟩))
def aeO {a:World} {y:Int} (x:Int) (bq:∀k,F k->k<w.heap.size\/w.heap.size+2<=k) (po:a.heap[w.heap.size]? =some (.cells #[u] 50 (0,0))) (fZ:a.heap[w.heap.size+1]? =some (.cells #[.int .i64 y] 46 (0,0))) (hd:B.ax a F p s S c):
    (a.setCell ⟨w.heap.size+1,0,none⟩ (.int .i64 x)).heap[w.heap.size]? =some (.cells #[u] 50 (0,0))/\(a.setCell ⟨w.heap.size+1,0,none⟩ (.int .i64 x)).heap[w.heap.size+1]? =some (.cells #[.int .i64 x] 46 (0,0))/\B.ax (a.setCell ⟨w.heap.size+1,0,none⟩ (.int .i64 x)) F p s S c/\aa (λk=>k=w.heap.size+1) a (a.setCell ⟨w.heap.size+1,0,none⟩ (.int .i64 x)):=by
 have b:=aa.setCell (F:=λk=>k=w.heap.size+1) a (p:=⟨w.heap.size+1,0,none⟩) rfl (iV x);refine⟨(Below.heap_setCell _ _ _ _ (by simp)).trans po,?_,hd.aw b (λk d e=>by have:=bq _ d;omega),b⟩;rw [heap_setCell_same _ _ _ _ _ _ fZ];rfl
def aaK (S:DS) (s n:Nat):B.oRd S s 1 (n:Int)<=n+2:=by
 unfold B.oRd;split <;> simp
def aeP {w5:World} {l:Nat} (bq:∀k,F k->k<w.heap.size) (po:w5.heap[w.heap.size]? =some (.cells #[.pointer none] 50 (0,0))) (fZ:w5.heap[w.heap.size+1]? =some (.cells #[.int .i64 0] 46 (0,0))) (hd:B.ax w5 F p s S c) {a:World} (ME:a=((w5.setCell ⟨w.heap.size,0,none⟩ (.pointer (some ⟨w5.heap.size+1,0,none⟩))).alloc (.map #[] 0)).alloc (.cells (Pr p l w5.heap.size y false) 85)):
  a.heap[w.heap.size]? =some (.cells #[.pointer (some ⟨w5.heap.size+1,0,none⟩)] 50 (0,0))/\a.heap[w.heap.size+1]? =some (.cells #[.int .i64 0] 46 (0,0))/\ng a (w5.heap.size+1) p l w5.heap.size y false/\Ch a w5.heap.size []/\B.ax a F p s S c/\aa (λk=>k=w.heap.size) w5 a/\a.heap.size=w5.heap.size+2:=by
 have m:=aa.setCell (F:=λk=>k=w.heap.size) w5 (p:=(aD w.heap.size 0)) rfl (.pointer (some ⟨w5.heap.size+1,0,none⟩));have i:=size_setCell w5 ⟨w.heap.size,0,none⟩ (.pointer (some ⟨w5.heap.size+1,0,none⟩));have f:(w5.setCell ⟨w.heap.size,0,none⟩ (.pointer (some ⟨w5.heap.size+1,0,none⟩))).heap[w.heap.size]? =some (.cells #[.pointer (some ⟨w5.heap.size+1,0,none⟩)] 50 (0,0)):=by
  rw [heap_setCell_same _ _ _ _ _ _ po];rfl
 have g:(w5.setCell ⟨w.heap.size,0,none⟩ (.pointer (some ⟨w5.heap.size+1,0,none⟩))).heap[w.heap.size+1]? =some (.cells #[.int .i64 0] 46 (0,0)):=(Below.heap_setCell _ _ _ _ (by simp)).trans fZ;generalize w5.setCell ⟨w.heap.size,0,none⟩ (.pointer (some ⟨w5.heap.size+1,0,none⟩))=b at*;have d:=cm b (.map #[] 0) (.cells (Pr p l w5.heap.size y false) 85);have nh:=(Ch.made b).later (aJ (b.alloc (.map #[] 0)) (.cells (Pr p l w5.heap.size y false) 85));have bw:((b.alloc (.map #[] 0)).alloc (.cells (Pr p l w5.heap.size y false) 85)).heap[b.heap.size+1]? =some (.cells (Pr p l w5.heap.size y false) 85 (0,0)):=by
  have:=heap_alloc_new (b.alloc (.map #[] 0)) (.cells (Pr p l w5.heap.size y false) 85);rwa [World.size_alloc] at this
 rw [i] at nh bw;have j:((b.alloc (.map #[] 0)).alloc (.cells (Pr p l w5.heap.size y false) 85)).heap.size=w5.heap.size+2:=by rw [World.size_alloc,World.size_alloc,i]
 rw [<-ME] at d nh bw j;exact⟨(d.block _ (aq f)).trans f,(d.block _ (aq g)).trans g,bw,nh,(hd.aw m (λk n e=>by have:=bq _ n;omega)).later d,m.trans (aa.ah (λ_=>False) d) (λ_ h=>h.elim),j⟩
def dQ.aeQ {B:Nat} {X:Nat->Prop} (h:dQ w B v rs X):KW w v rs:=by
 obtain⟨l,j,k⟩:=h;refine⟨l,?_,λi f=>?_⟩
 .obtain⟨d,h|⟨g,a,cur,rfl,m,tj,b⟩⟩:=j
  .exact⟨d, .inl h⟩
  .exact⟨d, .inr ⟨g,a,cur,rfl,dV _,tj,b⟩⟩
 .obtain⟨g,c,b,e,_⟩:=k i f;exact⟨g,c,b,e⟩
section
def Au:∀{ks:List Nat} {l r:List Int} {cs:CM},dU ks l=some (cs,r)->cs.length=ks.length
 | [],l,r,cs,h=>by
  simp only [dU,Option.some.injEq,Prod.mk.injEq] at h;obtain⟨rfl,_⟩:=h;rfl
 |k :: ks,l,r,cs,h=>by
  rw [jA] at h;split at h
  .cases h
  .cases a:dU ks (l.drop 512) with
   |none=>rw [a] at h;cases h
   |some x=>
    rw [a] at h;simp only [Option.map_some,Option.some.injEq,Prod.mk.injEq] at h;obtain⟨rfl,rfl⟩:=h;simp [Au (cs:=x.1) (r:=x.2) a]
def OQ (h:gF blocks d=some cs):1<=cs.length/\cs.length<=16:=by
 unfold gF at h;split at h
 .cases h
 .split at h
  .rename_i j;cases e:gQ blocks (le (d.take 2)) 0 (d.drop 2) with
   |none=>rw [e] at h;cases h
   |some x=>
    obtain⟨ks,r⟩:=x;rw [e] at h;have k:=(oP e).1;have c:jP (dU ks r)=some cs:=h;cases f:dU ks r with
    |none=>rw [f] at c;cases c
    |some y=>
     obtain⟨i,g⟩:=y;rw [f] at c;cases g with
     |nil=>
      simp only [jP,Option.some.injEq] at c;subst c;rw [Au f];omega
     |cons a b=>cases c
  .cases h
def sZ (blocks:Nat) (ms:CM) (r:List Int) (rs:List (List Int)):iH blocks ms (r :: rs)=match gF blocks r with|none=>none|some cs=>iH blocks (CM.bT ms cs) rs:=rfl
def EF {b:Nat} (h:(b9 S a).2.2=0):S.num a<(ir S a b+1)*4294967296:=by
 have d:(b9 S a).1=S.num a / 4294967296:=by
  unfold b9 ik at*;split at h
  .cases h
  .rename_i c;rw [aB c];rfl
 have e:(b9 S a).1<=ir S a b:=by unfold ir;omega
 omega
def Av (du:S.Ok s) (c:L.begun=false) (e:L.f+1<s) (g:S.num L.f<(L.top+1)*4294967296) (i:L.top<1073741824):(L.start S s).1=0\/(L.start S s).1=3:=by
 unfold LG.start;split
 .exact .inr rfl
 .rw [aB (by rw [c];decide)];have b:(((L.top+1:Nat):Int)*4294967296+((0:Nat):Int))=(((L.top+1)*4294967296:Nat):Int):=by omega
  have vf:=iD (bu du L.f (by omega)) (bu du (L.f+1) e) (N:=(L.top+1)*4294967296) (by omega) g;rw [b];have d:(cZ S s L.f (((L.top+1)*4294967296:Nat):Int)).1=0\/(cZ S s L.f (((L.top+1)*4294967296:Nat):Int)).1=3:=by
   unfold cZ;by_cases a:S.fuse=0
   .rw [aG a];exact .inr rfl
   .rw [aB a,aB (by omega)];have mR:=fU (S.now L.f) (S.now (L.f+1)) (((L.top+1)*4294967296:Nat):Int) [];generalize aP (S.now L.f) (S.now (L.f+1)) (((L.top+1)*4294967296:Nat):Int) []=Y at*;rw [show (L.f:Int)+(Y.1:Int)=((L.f+Y.1:Nat):Int) by omega];split
    .exact GU (by omega) _
    .unfold DS.fl;split
     .exact .inr rfl
     .exact .inl rfl
  split
  .exact d
  .exact .inl rfl
section
variable {w w':World} {X Y:Nat->Prop} {B B':Nat} {v u:Value} {ps qs:List (Nat×List Int)}
def Pn.cat (h:Pn w X B v ps) (z:Pn w Y B' u qs) (A:∀j,Y j->X j) (s:0<qs.length) (H:ps.length+qs.length<=1000000) (G:B<=w.heap.size):
  ∃a cz k,(Builtin.append_ #[126,126] 126 #[v,u]).run prog w= .ok (.slice (some (aD a 0)) (ps.length+qs.length) cz) k/\Pn k X B (.slice (some (aD a 0)) (ps.length+qs.length) cz) (ps ++ qs)/\aa (λj=>v.ownBlock=some j) w k:=by
 obtain⟨xs,l,mi,hd⟩:=h;obtain⟨o,b,_,cI⟩:=z;obtain⟨E,rH,gB,dC,eu⟩:=info_parts qd;obtain⟨I,F,rfl,lA⟩:=b.form;obtain⟨q,rfl,-⟩:=lA s;obtain⟨a,cz,k,bD,aA,aR,is,bq⟩:=run_append_lies (P:=prog) w 126 126 0 166 E _ 2 32 underlying126 rH gB dC eu rfl (by omega) v ps.length xs l.own (aD q 0) qs.length F o b.own.1 (λj x D=>b.own.cells (g:=q) rfl _ _ D) b.one s (by unfold maxLen;omega) (by omega) (dV _) w.heap.size rfl;have IV:=l.own.1;have f:∀i (d:i<(ps ++ qs).length) g c,(xs ++ o)[2*i+1]? =some (.slice (some (aD g 0)) 512 c)->X g:=λi d g c e=>by
  by_cases ny:i<ps.length
  .rw [List.getElem?_append_left (by omega)] at e;exact hd i ny g c e
  .rw [ed] at d;rw [List.getElem?_append_right (by omega),show 2*i+1-xs.length=2*(i-ps.length)+1 by omega] at e;exact A _ (cI _ (by omega) g c e)
 obtain⟨n,C⟩:=l.cat b (Z:=λ_=>True) aA aR (λ_ _=>trivial) (λ_ _ _ _ _=>trivial) trivial;refine⟨a,cz,k,bD,⟨xs ++ o,⟨n.own,λj m=> .inr m,λi d=>?_,n.len⟩,λj m=>?_,f⟩,C⟩
 .obtain⟨g,c,t,p,_,y⟩:=n.put i d;exact⟨g,c,t,p, .inl (f i d g c p),y⟩
 .have e:j=a:=by simpa [Value.ownBlock] using m.symm
  rcases is with r|r
  .rw [e];exact mi a r
  .omega
end
end
def Aw (s l n:Int) (w:World) (c:18<=l) (d:l<=256) (i:4<=n) (j:n<=1024) (a:n%4=0) (s1:l+n / 4+6<=s) (s2:s<=2048):
  Calls prog 51 #[.agg #[iV s,iV l,iV n]] w λe w'=>e= .returned (.tuple #[.agg #[iV l,iV (3+l),iV (s-(3+l)),iV n,iV (2+n / 4)],iV 0])/\bW w w':=by
 have b:n.tmod 4=n%4:=Int.tmod_eq_emod_of_nonneg (by omega);have hd:n.tdiv 4=n / 4:=Int.tdiv_eq_ediv_of_nonneg (by omega);have f:¬l<18:=by omega
 have g:¬256<l:=by omega
 have k:¬n<4:=by omega
 have m:¬1024<n:=by omega
 have o:¬2048<s:=by omega
 have p:¬s<3+l+(2+n / 4)+1:=by omega
 go_in;go_wp2;refine bodyPost_ret (v:= .tuple #[.agg #[iV l,iV (3+l),iV (s-(3+l)),iV n,iV (2+n / 4)],iV 0]) (by simp [results,results51,go_sem] <;> omega) rfl ⟨rfl,cm w _ _⟩
def K1 (s l n:Int) (w:World) (h:¬(18<=l/\l<=256)):
  Calls prog 51 #[.agg #[iV s,iV l,iV n]] w λe w'=>e= .returned (.tuple #[.agg #[iV 0,iV 0,iV 0,iV 0,iV 0],iV 22])/\bW w w':=by
 by_cases b:18<=l
 .have c:¬l<=256:=by omega
  have a:¬l<18:=by omega
  have d:256<l:=by omega
  go_in;go_wp2;exact bodyPost_ret (v:= .tuple #[.agg #[iV 0,iV 0,iV 0,iV 0,iV 0],iV 22]) (by simp [results,results51,go_sem]) rfl ⟨rfl,cm w _ _⟩
 .have a:l<18:=by omega
  go_in;go_wp2;exact bodyPost_ret (v:= .tuple #[.agg #[iV 0,iV 0,iV 0,iV 0,iV 0],iV 22]) (by simp [results,results51,go_sem]) rfl ⟨rfl,cm w _ _⟩
def K2 (s l n:Int) (w:World) (f:18<=l) (g:l<=256) (h:¬(4<=n/\n<=1024)):
  Calls prog 51 #[.agg #[iV s,iV l,iV n]] w λe w'=>e= .returned (.tuple #[.agg #[iV 0,iV 0,iV 0,iV 0,iV 0],iV 22])/\bW w w':=by
 have i:¬l<18:=by omega
 have j:¬256<l:=by omega
 by_cases b:4<=n
 .have c:¬n<=1024:=by omega
  have a:¬n<4:=by omega
  have d:1024<n:=by omega
  go_in;go_wp2;exact bodyPost_ret (v:= .tuple #[.agg #[iV 0,iV 0,iV 0,iV 0,iV 0],iV 22]) (by simp [results,results51,go_sem]) rfl ⟨rfl,cm w _ _⟩
 .have a:n<4:=by omega
  go_in;go_wp2;exact bodyPost_ret (v:= .tuple #[.agg #[iV 0,iV 0,iV 0,iV 0,iV 0],iV 22]) (by simp [results,results51,go_sem]) rfl ⟨rfl,cm w _ _⟩
def K3 (s l n:Int) (w:World) (c:18<=l) (d:l<=256) (i:4<=n) (j:n<=1024) (h:¬n%4=0):
  Calls prog 51 #[.agg #[iV s,iV l,iV n]] w λe w'=>e= .returned (.tuple #[.agg #[iV 0,iV 0,iV 0,iV 0,iV 0],iV 22])/\bW w w':=by
 have f:¬l<18:=by omega
 have g:¬256<l:=by omega
 have k:¬n<4:=by omega
 have m:¬1024<n:=by omega
 have b:n.tmod 4=n%4:=Int.tmod_eq_emod_of_nonneg (by omega);have a:(n%4 != 0)=true:=by rw [gA];exact h
 go_in;go_wp2;exact bodyPost_ret (v:= .tuple #[.agg #[iV 0,iV 0,iV 0,iV 0,iV 0],iV 22]) (by simp [results,results51,go_sem]) rfl ⟨rfl,cm w _ _⟩
def K4 (s l n:Int) (w:World) (g:18<=l) (i:l<=256) (m:4<=n) (o:n<=1024) (d:n%4=0) (h:¬(l+n / 4+6<=s/\s<=2048)):
  Calls prog 51 #[.agg #[iV s,iV l,iV n]] w λe w'=>e= .returned (.tuple #[.agg #[iV 0,iV 0,iV 0,iV 0,iV 0],iV 22])/\bW w w':=by
 have j:¬l<18:=by omega
 have k:¬256<l:=by omega
 have p:¬n<4:=by omega
 have q:¬1024<n:=by omega
 have f:n.tmod 4=n%4:=Int.tmod_eq_emod_of_nonneg (by omega);have hd:n.tdiv 4=n / 4:=Int.tdiv_eq_ediv_of_nonneg (by omega);by_cases c:3+l+(2+n / 4)+1<=s
 .have a:¬s<=2048:=by omega
  have b:2048<s:=by omega
  go_in;go_wp2;exact bodyPost_ret (v:= .tuple #[.agg #[iV 0,iV 0,iV 0,iV 0,iV 0],iV 22]) (by simp [results,results51,go_sem]) rfl ⟨rfl,cm w _ _⟩
 .have b:s<3+l+(2+n / 4)+1:=by omega
  by_cases a:2048<s
  .omega
  .clear h;go_in;go_wp2;exact bodyPost_ret (v:= .tuple #[.agg #[iV 0,iV 0,iV 0,iV 0,iV 0],iV 22]) (by simp [results,results51,go_sem]) rfl ⟨rfl,cm w _ _⟩
def vM (s l n:Int) (w:World):
  Calls prog 51 #[.agg #[iV s,iV l,iV n]] w λe w'=>∃v x,e= .returned (.tuple #[v,iV x])/\x8 s l n v x/\bW w w':=by
 have b:¬vE s l n->∀(e:Ending) (w':World),(e= .returned (.tuple #[.agg #[iV 0,iV 0,iV 0,iV 0,iV 0],iV 22])/\bW w w')->∃v x,e= .returned (.tuple #[v,iV x])/\x8 s l n v x/\bW w w':=
  λi e w' h=>⟨_,_,h.1, .inr ⟨i,rfl,rfl⟩,h.2⟩
 by_cases a:18<=l/\l<=256
 .by_cases c:4<=n/\n<=1024
  .by_cases d:n%4=0
   .by_cases f:l+n / 4+6<=s/\s<=2048
    .exact(Aw s l n w a.1 a.2 c.1 c.2 d f.1 f.2).mono (λe w' h=>⟨_,_,h.1, .inl ⟨⟨a,c,d,f⟩,rfl,rfl⟩,h.2⟩)
    .exact(K4 s l n w a.1 a.2 c.1 c.2 d f).mono (b (λg=>f g.2.2.2))
   .exact(K3 s l n w a.1 a.2 c.1 c.2 d).mono (b (λg=>d g.2.2.1))
  .exact(K2 s l n w a.1 a.2 c).mono (b (λg=>c g.2.1))
 .exact(K1 s l n w a).mono (b (λg=>a g.1))
def Ax {m:Nat} (h:q<l.length):part l q (m+1)=l.getD q 0 :: part l (q+1) m:=by
 unfold part;rw [List.drop_eq_getElem_cons h,List.take_succ_cons];simp [List.getD,h]
def yo (l:List Int) (at_ n:Nat) (r:Int):Prop:=r=((le (part l at_ n):Nat):Int)\/(r= -1/\18014398509481984<le (part l at_ n))
def EG {j:Nat} (h:q+j+k<=l.length):le (part l (q+j) k)<=le (part l q (j+k)):=by
 induction j generalizing q with
 |zero=>simp
 |succ j a=>
  have b:=a (q:=q+1) (by omega);rw [show j+1+k=(j+k)+1 by omega,Ax (by omega),le,show q+(j+1)=q+1+j by omega];omega
def K5 (b o N c:Nat) (l:List Int) (a n:Nat) (w:World) (C:l.length=N) (m:Bytes l) (y:N<=1000000) (D:a+n<=N) (v:n<=8) (s:∀i,i<N->w.cell? ⟨b,o+i,none⟩=some (.int .u8 (l.getD i 0))):
  Calls prog 160 #[.slice (some (aD b o)) N c,iV (a:Int),iV (n:Int)] w λe w'=>(∃r,e= .returned (iV r)/\yo l a n r)/\w'=w:=by
 go_in;go_wp2;go_loopw [7,8] (λr i wr=>∃k:Nat,k<=n/\i=iV ((n:Int)-1-(k:Int))/\r=iV ((le (part l (a+(n-k)) k):Nat):Int)/\wr=w/\le (part l (a+(n-k)) k)<=9223372036854775807) (λ_ i _=>(intOf i+1).toNat);case atStart=>exact⟨0,dV _,by simp,by simp [part,le],rfl,by simp [part,le]⟩
 case round=>
  obtain⟨k,A,rfl,rfl,rfl,E⟩:=hrel;have Yn:=EG (l:=l) (q:=a) (j:=n-k) (k:=k) (by omega);rw [show n-k+k=n by omega] at Yn;by_cases bq:k<n
  .have t:(0:Int)<=(n:Int)-1-(k:Int):=(by omega);by_cases aU:18014398509481984<((le (part l (a+(n-k)) k):Nat):Int)
   .have d:(yo l a n (-1)):= .inr ⟨rfl,by have:=Yn;omega⟩;generalize le (part l (a+(n-k)) k)=V at*;go_wp2;go_ret;exact⟨⟨_,rfl,d⟩,rfl⟩
   .have p:=s (a+(n-1-k)) (by omega);obtain⟨x,f,jI⟩:∃x:Nat,l.getD (a+(n-1-k)) 0=(x:Int)/\x<256:=by
     have:=m l[a+(n-1-k)] (List.getElem_mem (by omega));refine⟨(l.getD (a+(n-1-k)) 0).toNat,?_,?_⟩<;> simp [List.getD,show a+(n-1-k)<l.length by omega] <;> omega
    have rM:le (part l (a+(n-(k+1))) (k+1))=x+256*le (part l (a+(n-k)) k):=by
     rw [Ax (by omega),le,show a+(n-(k+1))=a+(n-1-k) by omega,f,show a+(n-1-k)+1=a+(n-k) by omega];simp
    rw [f] at p;have g:(a:Int)+((n:Int)-1-(k:Int))=((a+(n-1-k):Nat):Int):=(by omega);have u:((a+(n-1-k):Nat):Int)<(N:Int):=(by omega);generalize z:le (part l (a+(n-k)) k)=V at*;generalize a+(n-1-k)=Q at*;go_wp2;go_roundw;case rel=>exact⟨k+1,by omega,by first|(congr 1;omega)|go_num,by rw [rM];congr 1;omega,trivial,by rw [rM];omega⟩
    case measure=>simp [intOf];omega
  .have t:¬(0:Int)<=(n:Int)-1-(k:Int):=(by omega);have Uk:k=n:=(by omega);subst Uk;have d:(yo l a k ((le (part l (a+(k-k)) k):Nat):Int)):= .inl (by simp);generalize le (part l (a+(k-k)) k)=V at*;go_wp2;go_ret;exact⟨⟨_,rfl,d⟩,rfl⟩
def aaL (a:Bytes l) (b:k+4<=l.length) {r:Int} (h:yo l k 4 r):r=((le (part l k 4):Nat):Int):=by
 rcases h with h|⟨_,h⟩
 .exact h
 .have:=lw (dT a k 4);rw [fD b] at this;have:(2:Nat) ^ (8*4)=4294967296:=rfl;omega
def ay.EH (h:Full w g l) (a:l.length<=1000000):ay w 5 g l.length (bs l):=by
 have:=ay.xL h (by simp [bs,maxLen];omega);simpa [bs] using this
def Full.src (h:Full w g l) (b:l.length<=1000000) (d:n<=l.length):Src w (some (aD g 0)) n (l.take n):=
   ⟨by simp;omega,(λh=>by cases h),λx c i a=>by
  cases c;rw [(ay.EH h b).byte (by omega)];simp [List.getD,a]⟩
def Full.lt (h:Full w g l):g<w.heap.size:=(lR.1 h).1
def Full.lQ (h:Full w g l) (a:bW w w'):Full w' g l:=(a.block g h.lt).trans h
def aaM (n i:Nat) (h:i<n):(zs n).getD i 0=0:=by simp [zs,List.getD,h]
def Full.set (h:Full w g l) (i:Nat) (x:Int):Full (w.setCell ⟨g,i,none⟩ (.int .u8 x)) g (l.set i x):=GX x h
def Full.cell (h:Full w g l) {i:Nat} (a:i<l.length):w.cell? (aD g i)=some (.int .u8 (l.getD i 0)):=aj h (by simp [bs,List.getD,a])
def Full.frozen (h:Full w g l) (i:Nat):w.frozen? (aD g i)=false:=ae h i
def SZ:(((((((zs 8 ++ zs 504).set 0 118).set 1 101).set 2 108).set 3 108).set 4 117).set 5 109).set 7 1=gy ++ zs 504:=by
 have e:∀(a:List Int) (i:Nat) (x:Int),i<a.length->(a ++ zs 504).set i x=a.set i x ++ zs 504:=λa i x h=>List.set_append_left i x h;rw [e _ _ _ (by decide),e _ _ _ (by decide),e _ _ _ (by decide),e _ _ _ (by decide),e _ _ _ (by decide),e _ _ _ (by decide),e _ _ _ (by decide)];rfl
def uD (s l n:Nat) (w:World) (K:vE s l n):
  Calls prog 58 #[.agg #[iV (s:Int),iV (l:Int),iV (n:Int)]] w λe w'=>∃v,e= .returned (.tuple #[v,iV 0])/\Made w w' v (eV (bP s l n)):=by
 obtain⟨⟨O,P⟩,⟨Q,R⟩,J,s1,s2⟩:=K;have M:=λw=>Aw s l n w O P Q R J s1 s2;obtain⟨N,t,gB,dC,eu⟩:=info_parts gh;go_in;go_wp2_with fail;refine(M _).mono ?_;rintro e w1 ⟨rfl,ar⟩;have bN:=((bi _ w).alloc (bS _) _).trans (ar.mono (by simp));have x:w1.heap[w.heap.size]? =some (.cells #[.int .i64 (s:Int), .int .i64 (l:Int), .int .i64 (n:Int)] 40 (0,0)):=(ar.block _ (by simp)).trans (heap_alloc_new _ _);have A7:=(lR.1 x).1;obtain⟨b,dE⟩:∃b,b=w1.alloc (.cells #[.int .i64 (l:Int), .int .i64 (3+(l:Int)), .int .i64 ((s:Int)-(3+(l:Int))), .int .i64 (n:Int), .int .i64 (2+(n:Int) / 4)] 75):=⟨_,rfl⟩;have eR:bW w b:=by rw [dE];exact bN.alloc bN.size _
 have qL:b.heap[w.heap.size]? =some (.cells #[.int .i64 (s:Int), .int .i64 (l:Int), .int .i64 (n:Int)] 40 (0,0)):=by rw [dE];exact(Below.heap_alloc _ _ _ A7).trans x
 have ajQ:=(lR.1 qL).1;go_wp2_with (at_make;rw [<-dE];refine wpList_make_full _ rfl _ _ 22 rfl b.heap.size 5 N (.int .u8 0) 1 underlying22 t gB dC _ _ _ _ 512 rfl rfl ?c1 ?c2 ?c3 ?c4 ?c5 ?_);case c1=>rfl
 case c2=>rfl
 case c3=>rw [eu];omega
 case c4=>unfold maxLen;omega
 case c5=>exact bS _
 intro r aA aR;have A3:=lS aA;rw [<-dE] at aR;have U:b.heap.size=w1.heap.size+1:=by rw [dE];simp
 have bF:=(bi _ b).grown aR (bS _) (by intro k L;cases L);have PG:Full r (w1.heap.size+1) (zs 8 ++ zs 504):=by
  have:=A3.full (by simp only [bs,List.length_map,List.length_replicate]);rw [<-lU];exact this
 have jT:=eR.trans (bF.mono eR.size);have N9:=(bF.block _ ajQ).trans qL;have aqF:(zs 8 ++ zs 504).length=512:=by rw [ed,bH,bH]
 have z:∀i,i<8->r.cell? ⟨w1.heap.size+1,i,none⟩=some (.int .u8 0):=λi t=>by
  rw [PG.cell (by omega)];rw [<-lU,aaM _ _ (by omega)]
 obtain⟨y0,y1,y2,y3,y4,y5,y7⟩:=nw (PG.frozen 0) (PG.frozen 1) (PG.frozen 2) (PG.frozen 3) (PG.frozen 4) (PG.frozen 5) (PG.frozen 7);have dM:¬w.heap.size=w1.heap.size+1:=by omega
 have W:=aM N9;go_wp2;refine wp_loop_rounds 7 ?_;rw [rounds_succ];go_wp2;rw [rounds_succ];go_wp2;rw [rounds_succ];go_wp2;rw [rounds_succ];go_wp2;rw [rounds_succ];go_wp2;rw [rounds_succ];go_wp2;rw [rounds_succ];go_wp2_with fail;have D:∀wx:World,Full wx (w1.heap.size+1) (gy ++ zs 504)->Calls prog 115 #[.slice (some ⟨w1.heap.size+1,0,none⟩) 512 512,iV 8,iV 4,iV (s:Int)] wx λe w'=>e= .returned (.tuple #[])/\Full w' (w1.heap.size+1) ((gy ++ bB 4 s) ++ (zs 4 ++ zs 496))/\aa (λj=>j=w1.heap.size+1) wx w':=λwx a=>by
  have:=rh (w1.heap.size+1) 512 512 gy (zs 4) (zs 500) 8 4 s wx (by rw [<-lU];exact a) rfl (bH 4) (by rw [ed,ed,bH,bH];rfl) (by omega) (by omega);rw [show zs 500=zs 4 ++ zs 496 from lU 4 496,<-List.append_assoc] at this;exact this
 have E:∀wx:World,Full wx (w1.heap.size+1) ((gy ++ bB 4 s) ++ (zs 4 ++ zs 496))->Calls prog 115 #[.slice (some ⟨w1.heap.size+1,0,none⟩) 512 512,iV 12,iV 4,iV (l:Int)] wx λe w'=>e= .returned (.tuple #[])/\Full w' (w1.heap.size+1) ((gy ++ bB 4 s ++ bB 4 l) ++ (zs 4 ++ zs 492))/\aa (λj=>j=w1.heap.size+1) wx w':=λwx a=>by
  have:=rh (w1.heap.size+1) 512 512 (gy ++ bB 4 s) (zs 4) (zs 496) 12 4 l wx a (by rw [ed,aK];rfl) (bH 4) (by rw [ed,ed,ed,bH,bH,aK];rfl) (by omega) (by omega);rw [show zs 496=zs 4 ++ zs 492 from lU 4 492,<-List.append_assoc] at this;exact this
 have G:∀wx:World,Full wx (w1.heap.size+1) ((gy ++ bB 4 s ++ bB 4 l) ++ (zs 4 ++ zs 492))->Calls prog 115 #[.slice (some ⟨w1.heap.size+1,0,none⟩) 512 512,iV 16,iV 4,iV (n:Int)] wx λe w'=>e= .returned (.tuple #[])/\Full w' (w1.heap.size+1) (bP s l n ++ (zs 4 ++ []))/\aa (λj=>j=w1.heap.size+1) wx w':=λwx a=>by
  have:=rh (w1.heap.size+1) 512 512 (gy ++ bB 4 s ++ bB 4 l) (zs 4) (zs 492) 16 4 n wx a (by rw [ed,ed,aK,aK];rfl) (bH 4) (by rw [ed,ed,ed,ed,bH,bH,aK,aK];rfl) (by omega) (by omega);rw [show zs 492=zs 488 ++ zs 4 from lU 488 4] at this;have e:gy ++ bB 4 s ++ bB 4 l ++ (bB 4 n ++ (zs 488 ++ zs 4))=bP s l n ++ (zs 4 ++ []):=by rw [List.append_nil,<-List.append_assoc,<-List.append_assoc];rfl
  rw [e] at this;exact this
 have H:∀wx:World,Full wx (w1.heap.size+1) (bP s l n ++ (zs 4 ++ []))->Calls prog 116 #[.slice (some ⟨w1.heap.size+1,0,none⟩) 508 512] wx λe w'=>e= .returned (iV ((sumOf (bP s l n):Nat):Int))/\bW wx w':=λwx a=>by
  refine Ou _ _ _ _ wx (ia s l n) (by omega) ?_;have:=a.src (by rw [ed,dG,List.append_nil,bH];omega) (n:=508) (by rw [ed,dG];omega);rw [List.take_left' (dG s l n)] at this;exact this
 have mR:=np (ia s l n);have I:∀wx:World,Full wx (w1.heap.size+1) (bP s l n ++ (zs 4 ++ []))->Calls prog 115 #[.slice (some ⟨w1.heap.size+1,0,none⟩) 512 512,iV 508,iV 4,iV ((sumOf (bP s l n):Nat):Int)] wx λe w'=>e= .returned (.tuple #[])/\Full w' (w1.heap.size+1) (eV (bP s l n))/\aa (λj=>j=w1.heap.size+1) wx w':=λwx a=>by
  have:=rh (w1.heap.size+1) 512 512 (bP s l n) (zs 4) [] 508 4 (sumOf (bP s l n)) wx a (dG s l n) (bH 4) (by rw [ed,dG,List.append_nil,bH]) (by omega) (by omega);rw [List.append_nil] at this;exact this
 refine(D _ ?full).mono ?_;case full=>
  have:=((((((PG.set 0 118).set 1 101).set 2 108).set 3 108).set 4 117).set 5 109).set 7 1;rw [SZ] at this;exact this
 have C:=(((((((aa.refl (λj=>j=w1.heap.size+1) r).trans (aa.setCell (F:=λj=>j=w1.heap.size+1) (p:=⟨w1.heap.size+1,0,none⟩) _ rfl (.int .u8 118)) (λ_ h=> .inl h)).trans (aa.setCell (F:=λj=>j=w1.heap.size+1) (p:=⟨w1.heap.size+1,1,none⟩) _ rfl (.int .u8 101)) (λ_ h=> .inl h)).trans (aa.setCell (F:=λj=>j=w1.heap.size+1) (p:=⟨w1.heap.size+1,2,none⟩) _ rfl (.int .u8 108)) (λ_ h=> .inl h)).trans (aa.setCell (F:=λj=>j=w1.heap.size+1) (p:=⟨w1.heap.size+1,3,none⟩) _ rfl (.int .u8 108)) (λ_ h=> .inl h)).trans (aa.setCell (F:=λj=>j=w1.heap.size+1) (p:=⟨w1.heap.size+1,4,none⟩) _ rfl (.int .u8 117)) (λ_ h=> .inl h)).trans (aa.setCell (F:=λj=>j=w1.heap.size+1) (p:=⟨w1.heap.size+1,5,none⟩) _ rfl (.int .u8 109)) (λ_ h=> .inl h)).trans (aa.setCell (F:=λj=>j=w1.heap.size+1) (p:=⟨w1.heap.size+1,7,none⟩) _ rfl (.int .u8 1)) (λ_ h=> .inl h);rintro e w5 ⟨rfl,f,dX⟩;have aeR:=C.trans dX (λ_ h=> .inl h);have nN:=(aeR.block _ (lR.1 N9).1 dM).trans N9;have jq:=jT.trans (aeR.below (λj o=>by omega) jT.size);have c5:=bG nN;go_wp2_with fail;refine(E _ f).mono ?_;rintro e X ⟨rfl,g,jD⟩;have q:=(jD.block _ (lR.1 nN).1 dM).trans nN;have xu:=jq.trans (jD.below (λj o=>by omega) jq.size);have T:=bK q;go_wp2_with fail;refine(G _ g).mono ?_;rintro e Y ⟨rfl,c,gO⟩;have Fp:=xu.trans (gO.below (λj o=>by omega) xu.size);go_wp2_with fail;refine(H _ c).mono ?_;rintro e Z ⟨rfl,BN⟩;have Yd:=Fp.trans (BN.mono Fp.size);have d:=(c.lQ BN);go_wp2_with fail;refine(I _ d).mono ?_;rintro e S ⟨rfl,m,A6⟩;have A:(Made w S (.slice (some ⟨w1.heap.size+1,0,none⟩) 512 512) (eV (bP s l n))):=by
  have u:(eV (bP s l n)).length=512:=by rw [oI,dG]
  have y:=ay.EH m (by omega);rw [u] at y;exact⟨w1.heap.size+1,512,by rw [u],by omega,y,Yd.trans (A6.below (λj o=>by omega) Yd.size)⟩
 go_wp2;go_ret2;exact⟨_,rfl,A⟩
def BT (s l n:Int) (w:World) (b:¬vE s l n):
  Calls prog 58 #[.agg #[iV s,iV l,iV n]] w λe w'=>e= .returned (.tuple #[.slice none 0 0,iV 22])/\bW w w':=by
 have c:∀w,Calls prog 51 #[.agg #[iV s,iV l,iV n]] w λe w'=>e= .returned (.tuple #[.agg #[iV 0,iV 0,iV 0,iV 0,iV 0],iV 22])/\bW w w':=λw=>by
  refine(vM s l n w).mono ?_;rintro e w' ⟨v,x,rfl,⟨h,_⟩|⟨_,rfl,rfl⟩,a⟩
  .exact absurd h b
  .exact⟨rfl,a⟩
 go_in;go_wp2_with fail;refine(c _).mono ?_;rintro e w1 ⟨rfl,ar⟩;have bN:=((bi _ w).alloc (bS _) _).trans (ar.mono (by simp));go_wp2;go_ret2;exact⟨rfl,(λo=>bN.alloc bN.size o) _⟩
def rk (b o N c:Nat) (l:List Int) (k:Nat) (w:World) (f:l.length=N) (a:Bytes l) (d:N<=1000000) (g:k+4<=N) (m:∀i,i<N->w.cell? ⟨b,o+i,none⟩=some (.int .u8 (l.getD i 0))):
  Calls prog 160 #[.slice (some (aD b o)) N c,iV (k:Int),iV 4] w λe w'=>e= .returned (iV ((u32 l k:Nat):Int))/\w'=w:=by
 refine(K5 b o N c l k 4 w f a d g (by omega) m).mono ?_;rintro e w' ⟨⟨r,rfl,j⟩,rfl⟩;exact⟨by rw [aaL a (by omega) j];rfl,rfl⟩
def kx (s l n:Nat):(eV (bP s l n)).length=512:=(oI _).trans (congrArg (·+4) (dG s l n))
def Made.out (h:Made w w' v l) (a:l.length=n):∃g c,v= .slice (some (aD g 0)) n c/\w.heap.size<=g/\ay w' 5 g c (bs l)/\bW w w':=by
 subst a;exact h
def S9 (l:List Int) (v:Value) (x:Int):Prop:=(Ap l/\v= .agg #[iV ((u32 l 8:Nat):Int),iV ((u32 l 12:Nat):Int),iV ((u32 l 16:Nat):Int)]/\x=0)\/(¬Ap l/\v= .agg #[iV 0,iV 0,iV 0]/\x=6)
def rV (b o c:Nat) (l:List Int) (w:World) (r:l.length=512) (s:Bytes l) (n:∀i,i<512->w.cell? ⟨b,o+i,none⟩=some (.int .u8 (l.getD i 0))) (G:vE (u32 l 8) (u32 l 12) (u32 l 16)) (x:Bool) (H:decide (eV (bP (u32 l 8) (u32 l 12) (u32 l 16))=l)=x):
  Calls prog 117 #[.slice (some (aD b o)) 512 c] w λe w'=>e= .returned (.tuple #[if x then .agg #[iV ((u32 l 8:Nat):Int),iV ((u32 l 12:Nat):Int),iV ((u32 l 16:Nat):Int)] else .agg #[iV 0,iV 0,iV 0],iV (if x then 0 else 6)])/\bW w w':=by
 obtain⟨w1,bO⟩:=bQ (w.alloc (.cells #[.int .i64 0, .int .i64 0, .int .i64 0] 40));have bN:bW w w1:=by rw [bO];exact(bi _ w).alloc (bS _) _
 have iM:w1.heap[w.heap.size]? =some (.cells #[.int .i64 0, .int .i64 0, .int .i64 0] 40 (0,0)):=by rw [bO];exact heap_alloc_new _ _
 have sf:w1.heap.size=w.heap.size+1:=by rw [bO];simp
 have J:Calls prog 160 #[.slice (some (aD b o)) 512 c,iV 8,iV 4] w1 λe w'=>e= .returned (iV ((u32 l 8:Nat):Int))/\w'=w1:=rk b o 512 c l 8 w1 r s (by omega) (by omega) (λi a=>cell_later bN (n i a));have K:Calls prog 160 #[.slice (some (aD b o)) 512 c,iV 12,iV 4] w1 λe w'=>e= .returned (iV ((u32 l 12:Nat):Int))/\w'=w1:=rk b o 512 c l 12 w1 r s (by omega) (by omega) (λi a=>cell_later bN (n i a));have L:Calls prog 160 #[.slice (some (aD b o)) 512 c,iV 16,iV 4] w1 λe w'=>e= .returned (iV ((u32 l 16:Nat):Int))/\w'=w1:=rk b o 512 c l 16 w1 r s (by omega) (by omega) (λi a=>cell_later bN (n i a));obtain⟨z,A,u,y,Ta⟩:=eK K L n H ((λwx=>uD (u32 l 8) (u32 l 12) (u32 l 16) wx G));generalize u32 l 8=X at*;generalize u32 l 12=Y at*;generalize u32 l 16=Z at*;clear n K L G H;go_in;go_wp2_with fail;rw [<-bO];clear bO;refine bM J λM d=>?_;have eM:=d.symm;subst eM;clear d J;go_wp2_with fail;refine bM z λM d=>?_;have eM:=d.symm;subst eM;clear d z;go_wp2_with fail;refine bM A λM d=>?_;have eM:=d.symm;subst eM;clear d A;have qL:(w1.alloc (.cells #[.int .i64 (X:Int), .int .i64 (Y:Int), .int .i64 (Z:Int)] 40)).heap[w1.heap.size]? =some (.cells #[.int .i64 (X:Int), .int .i64 (Y:Int), .int .i64 (Z:Int)] 40 (0,0)):=heap_alloc_new _ _;have eR:bW w (w1.alloc (.cells #[.int .i64 (X:Int), .int .i64 (Y:Int), .int .i64 (Z:Int)] 40)):=bN.alloc bN.size _;have Tb:(w1.alloc (.cells #[.int .i64 (X:Int), .int .i64 (Y:Int), .int .i64 (Z:Int)] 40)).heap[w.heap.size]? =some (.cells #[.int .i64 0, .int .i64 0, .int .i64 0] 40 (0,0)):=(Below.heap_alloc _ _ _ (by omega)).trans iM;have jC:(w1.alloc (.cells #[.int .i64 (X:Int), .int .i64 (Y:Int), .int .i64 (Z:Int)] 40)).heap.size=w.heap.size+2:=by simp;omega
 have k:=(aH qL (aH eR (aH Tb jC)));clear qL eR Tb jC bN iM;go_wp2_with fail;refine(Ta _).mono ?_;rintro e O ⟨v,rfl,wJ⟩;have ip:=kx X Y Z;obtain⟨g,N,rfl,Fc,A3,bF⟩:=wJ.out ip;clear wJ;have jT:=k.2.1.trans (bF.mono (by have:=k.2.2.2;omega));have U3:=sR g 0 b o 512 N c (eV (bP X Y Z)) l O ip r (by omega) (λi a=>by have:=A3.byte (i:=i) (by omega);rwa [aN] at this) (λi a=>cell_later jT (u i a));rw [y] at U3;have I:=(bF.block w1.heap.size (by have:=k.2.2.2;omega)).trans k.1;have p3:=(bF.block w.heap.size (by have:=k.2.2.2;omega)).trans k.2.2.1;have f:=(aH I (aH p3 jT));clear Ta A3 bF I p3 jT k Fc;go_wp2_with fail;refine bM U3 λP fw=>?_;have q:=(fw.block _ (lR.1 f.1).1).trans f.1;have m:=(fw.block _ (lR.1 f.2.1).1).trans f.2.1;rw [sf] at q;obtain⟨Q,R,S,C,D,E,T,U,W,jU⟩:=vV (aM q) (bG q) (bK q) (aM m) (bG m) (bK m) (ae m 0) (ae m 1) (ae m 2) (f.2.2.trans (fw.mono f.2.2.size));clear U3 fw q m f y u;have t:=(λ(u0 u1 u2:Value)=>aa.below (B:=w.heap.size) (((aa.setCell (F:=λj=>j=w.heap.size) (p:=⟨w.heap.size,0,none⟩) P rfl u0).trans (aa.setCell (F:=λj=>j=w.heap.size) (p:=⟨w.heap.size,1,none⟩) _ rfl u1) (λ_ h=> .inl h)).trans (aa.setCell (F:=λj=>j=w.heap.size) (p:=⟨w.heap.size,2,none⟩) _ rfl u2) (λ_ h=> .inl h)) (λj hj=>by omega) jU.size);cases x
 .go_wp2;exact bodyPost_ret (v:= .tuple #[.agg #[iV 0,iV 0,iV 0],iV 6]) (by simp [results,results117,go_sem,C,D,E]) rfl ⟨rfl,jU.trans (t _ _ _)⟩
 .go_wp2;exact bodyPost_ret (v:= .tuple #[.agg #[iV (X:Int),iV (Y:Int),iV (Z:Int)],iV 0]) (by simp [results,results117,go_sem,C,D,E]) rfl ⟨rfl,jU.trans (t _ _ _)⟩
def xI (b o c:Nat) (l:List Int) (w:World) (n:l.length=512) (m:Bytes l) (k:∀i,i<512->w.cell? ⟨b,o+i,none⟩=some (.int .u8 (l.getD i 0))) (s:¬vE (u32 l 8) (u32 l 12) (u32 l 16)):
  Calls prog 117 #[.slice (some (aD b o)) 512 c] w λe w'=>e= .returned (.tuple #[.agg #[iV 0,iV 0,iV 0],iV 6])/\bW w w':=by
 obtain⟨w1,bO⟩:=bQ (w.alloc (.cells #[.int .i64 0, .int .i64 0, .int .i64 0] 40));have bN:bW w w1:=by rw [bO];exact(bi _ w).alloc (bS _) _
 have iM:w1.heap[w.heap.size]? =some (.cells #[.int .i64 0, .int .i64 0, .int .i64 0] 40 (0,0)):=by rw [bO];exact heap_alloc_new _ _
 have sf:w1.heap.size=w.heap.size+1:=by rw [bO];simp
 have t:Calls prog 160 #[.slice (some (aD b o)) 512 c,iV 8,iV 4] w1 λe w'=>e= .returned (iV ((u32 l 8:Nat):Int))/\w'=w1:=rk b o 512 c l 8 w1 n m (by omega) (by omega) (λi g=>cell_later bN (k i g));have u:Calls prog 160 #[.slice (some (aD b o)) 512 c,iV 12,iV 4] w1 λe w'=>e= .returned (iV ((u32 l 12:Nat):Int))/\w'=w1:=rk b o 512 c l 12 w1 n m (by omega) (by omega) (λi g=>cell_later bN (k i g));have x:Calls prog 160 #[.slice (some (aD b o)) 512 c,iV 16,iV 4] w1 λe w'=>e= .returned (iV ((u32 l 16:Nat):Int))/\w'=w1:=rk b o 512 c l 16 w1 n m (by omega) (by omega) (λi g=>cell_later bN (k i g));have q:=u;have r:=x;have Ta:=(λwx=>BT (u32 l 8) (u32 l 12) (u32 l 16) wx s);generalize u32 l 8=X at*;generalize u32 l 12=Y at*;generalize u32 l 16=Z at*;clear k u x s;go_in;go_wp2_with fail;rw [<-bO];clear bO;refine bM t λy a=>?_;have eM:=a.symm;subst eM;clear a t;go_wp2_with fail;refine bM q λy a=>?_;have eM:=a.symm;subst eM;clear a q;go_wp2_with fail;refine bM r λy a=>?_;have eM:=a.symm;subst eM;clear a r;have qL:(w1.alloc (.cells #[.int .i64 (X:Int), .int .i64 (Y:Int), .int .i64 (Z:Int)] 40)).heap[w1.heap.size]? =some (.cells #[.int .i64 (X:Int), .int .i64 (Y:Int), .int .i64 (Z:Int)] 40 (0,0)):=heap_alloc_new _ _;have eR:bW w (w1.alloc (.cells #[.int .i64 (X:Int), .int .i64 (Y:Int), .int .i64 (Z:Int)] 40)):=bN.alloc bN.size _;have Tb:(w1.alloc (.cells #[.int .i64 (X:Int), .int .i64 (Y:Int), .int .i64 (Z:Int)] 40)).heap[w.heap.size]? =some (.cells #[.int .i64 0, .int .i64 0, .int .i64 0] 40 (0,0)):=(Below.heap_alloc _ _ _ (by omega)).trans iM;have jC:(w1.alloc (.cells #[.int .i64 (X:Int), .int .i64 (Y:Int), .int .i64 (Z:Int)] 40)).heap.size=w.heap.size+2:=by simp;omega
 have f:=(aH qL (aH eR (aH Tb jC)));clear qL eR Tb jC bN iM;go_wp2_with fail;refine(Ta _).mono ?_;rintro e D ⟨rfl,bF⟩;have rB:=f.2.1.trans (bF.mono (by have:=f.2.2.2;omega));have d:=(bF.block w.heap.size (by have:=f.2.2.2;omega)).trans f.2.2.1;obtain⟨z,A,C,E,G,H,jU⟩:=nw (aM d) (bG d) (bK d) (ae d 0) (ae d 1) (ae d 2) rB;clear Ta bF d rB f;go_wp2;exact bodyPost_ret (v:= .tuple #[.agg #[iV 0,iV 0,iV 0],iV 6]) (by simp [results,results117,go_sem,z,A,C]) rfl ⟨rfl,jU.trans ((λ(u0 u1 u2:Value)=>aa.below (B:=w.heap.size) (((aa.setCell (F:=λj=>j=w.heap.size) (p:=⟨w.heap.size,0,none⟩) D rfl u0).trans (aa.setCell (F:=λj=>j=w.heap.size) (p:=⟨w.heap.size,1,none⟩) _ rfl u1) (λ_ h=> .inl h)).trans (aa.setCell (F:=λj=>j=w.heap.size) (p:=⟨w.heap.size,2,none⟩) _ rfl u2) (λ_ h=> .inl h)) (λj I=>by omega) jU.size) _ _ _)⟩
def BU (b o c:Nat) (l:List Int) (w:World) (g:l.length=512) (f:Bytes l) (j:∀i,i<512->w.cell? ⟨b,o+i,none⟩=some (.int .u8 (l.getD i 0))):
  Calls prog 117 #[.slice (some (aD b o)) 512 c] w λe w'=>∃v x,e= .returned (.tuple #[v,iV x])/\S9 l v x/\bW w w':=by
 by_cases a:vE (u32 l 8) (u32 l 12) (u32 l 16)
 .by_cases d:eV (bP (u32 l 8) (u32 l 12) (u32 l 16))=l
  .refine(rV b o c l w g f j a true (by simp [d])).mono ?_;rintro e w' ⟨rfl,h⟩;exact⟨_,_,rfl, .inl ⟨⟨a,d⟩,rfl,rfl⟩,h⟩
  .refine(rV b o c l w g f j a false (by simp [d])).mono ?_;rintro e w' ⟨rfl,h⟩;exact⟨_,_,rfl, .inr ⟨λh=>d h.2,rfl,rfl⟩,h⟩
 .refine(xI b o c l w g f j a).mono ?_;rintro e w' ⟨rfl,h⟩;exact⟨_,_,rfl, .inr ⟨λh=>a h.1,rfl,rfl⟩,h⟩
end Go.Proofs.YtcpdggdfihjhoabGreat
