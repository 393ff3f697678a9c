import Derived.Test.YtcpdggdfihjhoaaGreatV01
import Derived.Test.YtcpdggdfihjhoaaGreatV04
import Derived.Test.YtcpdggdfihjhoaaGreatV05
import Derived.Deep.RegionWith
import Derived.Deep.RegionLaw
import Derived.Laws.BytesArg
import Derived.Defers
import Derived.Recover
import Derived.Scope
import Derived.WalkMore
set_option maxRecDepth 20000
set_option maxHeartbeats 8000000
set_option linter.all false
namespace Go.Proofs.YtcpdggdfihjhoaaGreat
open Go.Proofs.Tryz
open Go.RowKit Go.Maps
variable {cs ms ov:CM} {S S':DS} {x:Int} {L:LG} {y:LY} {rs:List (List Int)} {d l xs:List Int} {ks:List Nat} {E P a blocks c f g hd i j k n p q s:Nat} {R:Nat->PC} {F F7 X:Nat->Prop} {u v:Value} {W w w' w1 w2 wx:World}
section
section
variable {S:DS} {s t i:Nat} {ls:List LG} {L:LG} {G:SG}
def Dm (L:LG) (S:DS) (s:Nat):(L.trim S s).2.1.life=S.life/\(L.trim S s).2.2.life=L.life:=by
 have a:(L.sync S s).2.life=S.life:=by
  unfold LG.sync;split
  .rfl
  .exact fZ _ _
 unfold LG.trim;split
 .exact⟨a,rfl⟩
 .split
  .exact⟨a,rfl⟩
  .split
   .exact⟨(iX _ _ _ _).trans a,rfl⟩
   .exact⟨(iX _ _ _ _).trans a,rfl⟩
def SZ (dw:S.Ok s) (e:L.Ok s) (k:L.begun=true) (p:L.life=S.life) (t:S.num L.f<=L.ep*4294967296+L.tail) (b:(L.trim S s).2.1.fuse≠0):(L.trim S s).2.2.Fit (L.trim S s).2.1:=by
 obtain⟨u,iu,eh⟩:=kH e.s e.n1 e.th;unfold LG.trim at b⊢;by_cases a:(L.sync S s).1≠0
 .rw [aG a] at b;exfalso;apply b;unfold LG.sync at a⊢;by_cases d:L.bm S≠0
  .rw [aG d];show S.fuse=0;unfold LG.bm at d;cases hd:L.dead S
   .rw [hd,k] at d;simp at d
   .unfold LG.dead at hd;rw [p] at hd;simpa using hd
  .rw [aB d] at a⊢;obtain⟨i,j,_⟩:=lD a;rw [i];exact j
 .rw [aB a] at b⊢;have d:L.bm S=0:=by
   unfold LG.sync at a;by_cases c:L.bm S=0
   .exact c
   .rw [aG c] at a;exact absurd (Decidable.of_not_not a) c
  have l:(L.sync S s)=S.fl s:=by unfold LG.sync;rw [aB (by omega)]
  rw [l] at a b⊢;have fE:(S.fl s).2.num L.f=S.num L.f:=Eo dw (by omega);have aaM:=so (s:=s) dw;by_cases m:L.tail=L.head
  .rw [aG m];refine⟨λ_=>⟨by rw [(jn (Decidable.of_not_not a))];exact dL _,by rw [fE];exact t⟩,λc=>by rw [k] at c;cases c⟩
  .rw [aB m] at b⊢;have o:((L.ep:Int)*4294967296+(L.head:Int))=((L.ep*4294967296+L.head:Nat):Int):=(by omega);rw [o] at b⊢;have q:=e.ep;have r:=e.hi;obtain⟨N,n⟩:=bP (L.ep*4294967296+L.head);have g:(S.fl s).2.num L.f<N:=(by rw [fE,n];omega);rw [<-n] at b⊢;by_cases h0:(dg (S.fl s).2 s L.f (N:Int)).1≠0
   .rw [aG h0] at b;exact absurd (qh (by omega) (iF (bA aaM L.f (by omega)) (bA aaM (L.f+1) (by omega)) (N:=N) (by omega) g) h0).1 b
   .rw [aB h0];obtain⟨i,j⟩:=uo (s:=s) (f:=L.f) (N:=N) aaM (by omega) (by omega) (by omega) g (Decidable.of_not_not h0);refine⟨λ_=>⟨by rw [j];exact dL _,?_⟩,λc=>by rw [show ({L with tail:=L.head}:LG).begun=L.begun from rfl,k] at c;cases c⟩;show (dg (S.fl s).2 s L.f (N:Int)).2.num L.f<=L.ep*4294967296+L.head;rw [i];omega
def V.Inv.check (h:V.Inv S s ls t) (b:ls[i]? =some G.L) (C:G.L.begun=true) (p:∀q∈G.ov,G.y.home+q.1<s/\q.2.length=512/\Bytes q.2) (Yt:G.ov.length<=2048) (B8:G.L.f+2+G.L.n<=G.y.home):V.Inv (G.check S s).2.1 s (ls.set i (G.check S s).2.2.L) t:=by
 have g:=(h.at b).1;by_cases u:G.L.bm S=0
 .obtain⟨hd,_⟩:=kq u;obtain⟨j,D⟩:=jO hd;have M:=g.s;have iu:=g.n1;obtain⟨F,l,x⟩:=qG (L:=G.L) h.ok;obtain⟨J,m,o,H,z⟩:=eE (h0:=G.y.home) (ms:=G.ov) F (λq d=>⟨(p q d).1,(p q d).2.1⟩);obtain⟨A,K⟩:=H9 (L:=G.L) o (by omega);have xT:=xp (s:=s) h.qi (λq d=>(p q d).2.2);have aeC:=EB g (aE (G.L.sync S s).2 s G.y.home G.ov).2;have S9:=Dm G.L (aE (G.L.sync S s).2 s G.y.home G.ov).2 s;have N:=h.sync b;have k:G.L.sync S s=S.fl s:=by unfold LG.sync;rw [aB (by omega)]
  have j1:(G.L.sync S s).1=0:=by
   rw [k];apply Decidable.byContradiction;intro v;exact D (lD v).2.1
  have r:(G.L.sync S s).2.puts= []:=by rw [k] at j1⊢;exact jn j1
  have a:=eG (G.L.sync S s).2 s G.y.home G.ov;rw [r] at a;have I:=Ap G.L (aE (G.L.sync S s).2 s G.y.home G.ov).2 s;have fE:(aE (G.L.sync S s).2 s G.y.home G.ov).2.num G.L.f<=G.L.ep*4294967296+G.L.tail:=by
   rw [vX (S:=S) ((z _ (λq d e=>by omega)).trans (x _ (by omega))) ((z _ (λq d e=>by omega)).trans (x _ (by omega)))];exact((h.al G.L (gB b) j D).1 C).2
  have Yx:=SZ (S:=(aE (G.L.sync S s).2 s G.y.home G.ov).2) o g C (by rw [m,l];exact j) fE;unfold SG.check at xT⊢;rw [aB (λv=>v j1)] at xT⊢;generalize G.L.sync S s=Z at*;generalize aE Z.2 s G.y.home G.ov=Y at*;by_cases w:Y.1≠0
  .rw [aG w] at xT⊢;refine h.on b j o xT (m.trans l) ?_ g rfl (λc=>absurd (H w) c);show Y.2.puts.length<=6000;simp at a;omega
  .rw [aB w] at xT⊢;have ME:(G.L.trim Y.2 s).2.1.puts.length<=6000:=(by simp at a;omega);by_cases E:(G.L.trim Y.2 s).1≠0
   .rw [aG E] at xT⊢;exact h.on b j A xT (S9.1.trans (m.trans l)) ME aeC.1 S9.2 Yx
   .rw [aB E] at xT⊢;exact h.on b j A xT (S9.1.trans (m.trans l)) ME aeC.1 S9.2 Yx
 .have e:G.check S s=(G.L.bm S,S,G):=by
   unfold SG.check LG.sync;rw [aG u,aG u]
  rw [e];exact h.same b
def Dn {α:Type} (l:List α) (i:Nat) (a b:α):(l.set i a).set i b=l.set i b:=by simp
def V.Inv.WT {c:CM} (h:V.Inv S s ls t) (e:ls[i]? =some G.L) (l:G.L.begun=true) (k:∀q∈G.ov,G.y.home+q.1<s/\q.2.length=512/\Bytes q.2) (Yt:G.ov.length<=2048) (B8:G.L.f+2+G.L.n<=G.y.home) (m:∀q∈c,Bytes q.2):V.Inv (G.bK S s c).2.1 s (ls.set i (G.bK S s c).2.2.L) t:=by
 have aeD:∀{d:DS} {a:SG},V.Inv d s (ls.set i a.L) t->V.Inv (a.L.append d s (cw c)).2.1 s (ls.set i (a.L.append d s (cw c)).2.2) t:=λ{d a} g=>by
  have b:(ls.set i a.L)[i]? =some a.L:=rR ((mS.1 e).1);have KC:=(g.at b).1;have:=g.append b (qD m) (AC g.ok (by have:=KC.n1;omega) KC.s _).1;rwa [Dn] at this
 have j:V.Inv (G.made S s (cw c).length).2.1 s (ls.set i (G.made S s (cw c).length).2.2.L) t:=by
  unfold SG.made;split
  .exact h.same e
  .exact h.check e l k Yt B8
 unfold SG.bK;split
 .exact h.same e
 .split
  .exact j
  .split
   .exact aeD j
   .exact aeD j
end
end
def WU (h:Bytes xs):P5 (strOfNums xs)=xs:=by
 unfold P5 strOfNums;simp only [List.map_map];apply List.ext_getElem
 .simp
 .intro i b a;have:=h xs[i] (List.getElem_mem a);simp;omega
def uE (p b o c k m:Nat) (l:List Int) (w:World) (h:Rd w p b o c k l) (a:k+m<=l.length) (By:k<c):
  Calls prog 187 #[pQ p,iV (m:Int)] w λe w'=>e= .returned (.string (strOfNums (part l k m)))/\Rd w' p b o c (k+m) l/\aa (λj=>j=p) w w':=by
 go_in;go_wp2_with fail;refine(yz p b o l.length c k m w h.rd a h.cap By h.small h.OI).mono ?_;rintro e w1 ⟨rfl,mt,fh⟩;have d:=h.aw mt fh;have f:=run_convert_bytes_arg (P:=prog) w1 36 5 underlying36 underlying5 b (o+k) m (c-k) (part l k m) (fI a) (d.part a) 9 underlying9;go_wp2;go_ret;exact⟨rfl,aH d fh⟩
def qH (l:List Int):Prop:=le (part l (l.length-4) 4)=sumOf (part l 0 (l.length-4))
def AE (a:k<=l.length) (i:Nat) (b:i<k):(part l 0 k).getD i 0=l.getD i 0:=by
 rw [uz b,Nat.zero_add]
def Do (b o n c:Nat) (l:List Int) (w:World) (G:l.length=n) (I:4<n) (L:n<=1000000) (J:n<=c) (oG:c<=9223372036854775807) (u:Bytes l) (s:∀i,i<n->w.cell? ⟨b,o+i,none⟩=some (.int .u8 (l.getD i 0))) (dw:qH l):
  Calls prog 152 #[.slice (some (aD b o)) n c] w λe w'=>∃p,e= .returned (pQ p)/\w.heap.size<=p/\Rd w' p b o c 0 (part l 0 (n-4))/\bW w w':=by
 have E:b<w.heap.size:=World.block_lt_of_cell? _ _ (s 0 (by omega));have ad1:(n:Int)-4=((n-4:Nat):Int):=by omega
 have M:(0:Int)<=(((n-4:Nat)):Int):=by omega
 have N:(((n-4:Nat)):Int)<=(n:Int):=by omega
 have O:(((n-4:Nat)):Int)<=(c:Int):=by omega
 obtain⟨w1,bT⟩:=bP (w.alloc (.cells #[.slice (some ⟨b,o+(n-4),none⟩) 4 (c-(n-4)), .int .i64 0] 224));have bN:bW w w1:=by rw [bT];exact(bi _ w).alloc (bR _) _
 have pk:w1.heap[w.heap.size]? =some (.cells #[.slice (some ⟨b,o+(n-4),none⟩) 4 (c-(n-4)), .int .i64 0] 224 (0,0)):=by rw [bT];exact heap_alloc_new _ _
 have sy:w1.heap.size=w.heap.size+1:=by rw [bT];simp
 have t:(part l (n-4) 4).length=4:=fI (by omega);have vK:∀wx:World,bW w1 wx->Rd wx w.heap.size b (o+(n-4)) (c-(n-4)) 0 (part l (n-4) 4):=λwx a=>
    ⟨by show vW _ _ _ _ _ _ _;unfold vW;rw [t];exact(a.block _ (by omega)).trans pk,by omega,λi g=>by
   rw [t] at g;rw [uz g,Nat.add_assoc];exact cell_later (bN.trans (a.mono (by omega))) (s (n-4+i) (by omega)),dU u _ _,by omega,by omega,by omega,λ_=>by have:=a.size;omega⟩
 have fE:∀wx:World,bW w1 wx->Calls prog 188 #[pQ w.heap.size,iV 4] wx λe w'=>e= .returned (iV ((le (part l (n-4) 4):Nat):Int))/\bW w w':=λwx a=>by
  refine(oS _ _ _ _ 0 4 _ wx (vK wx a) (by omega) (by omega) (by omega)).mono ?_;rintro e w' ⟨rfl,_,F⟩;have C:part (part l (n-4) 4) 0 4=part l (n-4) 4:=by
   show ((part l (n-4) 4).drop 0).take 4=_;rw [List.drop_zero,nC (by omega)]
  have z:=lE (dU u (n-4) 4);rw [t] at z;refine⟨?_,(bN.trans (a.mono (by omega))).trans (F.below (λj K=>by omega) (by have:=a.size;omega))⟩;rw [C];congr 2;unfold wrap64;have:(2:Nat) ^ (8*4)=4294967296:=rfl;omega
 have fV:∀wx:World,bW w wx->Calls prog 146 #[.slice (some (aD b o)) (n-4) c] wx λe w'=>e= .returned (iV ((sumOf (part l 0 (n-4)):Nat):Int))/\bW w w'/\(bW w1 wx->bW w1 w'):=λwx a=>
    (yn (some (aD b o)) (n-4) c _ wx (dU u _ _) (by omega) ⟨fI (l:=l) (k:=0) (m:=n-4) (by omega),(λh=>by cases h),λx UC i g=>by
   cases UC;rw [aN,AE (by omega) i g];exact cell_later a (s i (by omega))⟩).mono (by rintro e w' ⟨rfl,gN⟩;exact⟨rfl,a.trans (gN.mono a.size),λh=>h.trans (gN.mono h.size)⟩)
 have r:le (part l (n-4) 4)=sumOf (part l 0 (n-4)):=by have:=dw;unfold qH at this;rw [G] at this;exact this
 rw [r] at fE;have cQ:=bN;have lj:(∀wx:World,bW w wx->Rd (wx.alloc (.cells #[.slice (some ⟨b,o,none⟩) (n-4) c, .int .i64 0] 224)) wx.heap.size b o c 0 (part l 0 (n-4))/\bW w (wx.alloc (.cells #[.slice (some ⟨b,o,none⟩) (n-4) c, .int .i64 0] 224))):=λwx a=>by
  have A:(part l 0 (n-4)).length=n-4:=fI (by omega);have H:=a.size;refine⟨⟨by show vW _ _ _ _ _ _ _;unfold vW;rw [A];exact heap_alloc_new _ _,by omega,λi g=>?_,dU u _ _,by omega,by omega,by omega,λ_=>by simp;omega⟩,a.alloc H _⟩;rw [A] at g;rw [AE (by omega) i g];exact Lib.cell?_alloc_some _ (cell_later a (s i (by omega)))
 have ajH:=fE;have Q6:=fV;generalize sumOf (part l 0 (n-4))=S at*;have D:n-(n-4)=4:=by omega
 have ajI:¬c=n-4:=by omega
 clear s vK pk t dw r fE fV bN;go_in;go_wp2_with fail;rw [<-bT];clear bT;have q:=(ai (bi w1.heap.size w1));have v:=(ai cQ)
 go_region_with (first
  |(go_at_call 188;refine(ajH _ ?_).mono ?_;(first|exact q|exact y);rintro e P ⟨rfl,bd⟩;have d:=bd;clear bd)
  |(go_at_call 146;refine(Q6 _ ?_).mono ?_;(first|exact v|exact d);rintro e Q ⟨rfl,bz,P7⟩;have f:=bz;(try have y:=(P7 q));clear bz P7)
  |(go_at_call 186;refine(tf _).mono ?_;rintro e R ⟨rfl,rfl⟩))
 all_goals
  go_wp2;go_ret;first
   |exact⟨_,rfl,f.size,(lj _ f).1,(lj _ f).2⟩
   |exact⟨_,rfl,d.size,(lj _ d).1,(lj _ d).2⟩
def AF {P:Program} {b:Array Oper} {o:Oper} {a:Act} {K:Act->World->Prop} {Q:Exit->Act->World->Prop} {E:Prop} (Gh:o.guard=none) (f:FuncId) (args:Array Value)
    (Jb:(execOp a.eval o).run P w= .ok (.enter f args) w) (R:Value->World->Prop) (c:Calls P f args w λe w'=>∃v,e= .returned v/\R v w') (h:∀v w',R v w'->K (a.put o.dst v) w'):
  if Region.wanted o (yielded b a.tmps)=true then Oper.wp P o a w K Q else E:=by
 have g:Region.wanted o (yielded b a.tmps)=true:=by simp [Region.wanted,Gh]
 rw [aG g];unfold Oper.wp;rw [Jb,Oper.upon_enter];refine c.mono ?_;rintro e w' ⟨v,rfl,d⟩;exact h v w' d
def OR {P:Program} {c:Array Oper} {o:Oper} {a:Act} {K:Act->World->Prop} {Q:Exit->Act->World->Prop} {E:Prop} (Gh:o.guard=none) (f:FuncId) (args:Array Value)
    (Jb:(execOp a.eval o).run P w= .ok (.enter f args) w) (b:List PanicEntry) (d:Calls P f args w λe w'=>e= .panicked b/\w'=w) (g:Q (.panic b) a w) (_:False->K (a.put o.dst undef) w):
  if Region.wanted o (yielded c a.tmps)=true then Oper.wp P o a w K Q else E:=by
 have i:Region.wanted o (yielded c a.tmps)=true:=by simp [Region.wanted,Gh]
 rw [aG i];unfold Oper.wp;rw [Jb,Oper.upon_enter];refine d.mono ?_;rintro e w' ⟨rfl,rfl⟩;exact g
def OS (b o n c:Nat) (l:List Int) (w:World) (G:l.length=n) (H:4<n) (K:n<=1000000) (I:n<=c) (oG:c<=9223372036854775807) (t:Bytes l) (y:∀i,i<n->w.cell? ⟨b,o+i,none⟩=some (.int .u8 (l.getD i 0))) (dw:¬qH l):
  Calls prog 152 #[.slice (some (aD b o)) n c] w λe w'=>e= .panicked ng/\bW w w':=by
 have D:b<w.heap.size:=World.block_lt_of_cell? _ _ (y 0 (by omega));have ad1:(n:Int)-4=((n-4:Nat):Int):=by omega
 have M:(0:Int)<=(((n-4:Nat)):Int):=by omega
 have N:(((n-4:Nat)):Int)<=(n:Int):=by omega
 have O:(((n-4:Nat)):Int)<=(c:Int):=by omega
 obtain⟨w1,bT⟩:=bP (w.alloc (.cells #[.slice (some ⟨b,o+(n-4),none⟩) 4 (c-(n-4)), .int .i64 0] 224));have bN:bW w w1:=by rw [bT];exact(bi _ w).alloc (bR _) _
 have pk:w1.heap[w.heap.size]? =some (.cells #[.slice (some ⟨b,o+(n-4),none⟩) 4 (c-(n-4)), .int .i64 0] 224 (0,0)):=by rw [bT];exact heap_alloc_new _ _
 have sy:w1.heap.size=w.heap.size+1:=by rw [bT];simp
 have p:(part l (n-4) 4).length=4:=fI (by omega);have vK:∀wx:World,bW w1 wx->Rd wx w.heap.size b (o+(n-4)) (c-(n-4)) 0 (part l (n-4) 4):=λwx a=>
    ⟨by show vW _ _ _ _ _ _ _;unfold vW;rw [p];exact(a.block _ (by omega)).trans pk,by omega,λi g=>by
   rw [p] at g;rw [uz g,Nat.add_assoc];exact cell_later (bN.trans (a.mono (by omega))) (y (n-4+i) (by omega)),dU t _ _,by omega,by omega,by omega,λ_=>by have:=a.size;omega⟩
 have fE:∀wx:World,bW w1 wx->Calls prog 188 #[pQ w.heap.size,iV 4] wx λe w'=>e= .returned (iV ((le (part l (n-4) 4):Nat):Int))/\bW w w':=λwx a=>by
  refine(oS _ _ _ _ 0 4 _ wx (vK wx a) (by omega) (by omega) (by omega)).mono ?_;rintro e w' ⟨rfl,_,F⟩;have z:part (part l (n-4) 4) 0 4=part l (n-4) 4:=by
   show ((part l (n-4) 4).drop 0).take 4=_;rw [List.drop_zero,nC (by omega)]
  have u:=lE (dU t (n-4) 4);rw [p] at u;refine⟨?_,(bN.trans (a.mono (by omega))).trans (F.below (λj J=>by omega) (by have:=a.size;omega))⟩;rw [z];congr 2;unfold wrap64;have:(2:Nat) ^ (8*4)=4294967296:=rfl;omega
 have fV:∀wx:World,bW w wx->Calls prog 146 #[.slice (some (aD b o)) (n-4) c] wx λe w'=>e= .returned (iV ((sumOf (part l 0 (n-4)):Nat):Int))/\bW w w'/\(bW w1 wx->bW w1 w'):=λwx a=>
    (yn (some (aD b o)) (n-4) c _ wx (dU t _ _) (by omega) ⟨fI (l:=l) (k:=0) (m:=n-4) (by omega),(λh=>by cases h),λx UC i g=>by
   cases UC;rw [aN,AE (by omega) i g];exact cell_later a (y i (by omega))⟩).mono (by rintro e w' ⟨rfl,gN⟩;exact⟨rfl,a.trans (gN.mono a.size),λh=>h.trans (gN.mono h.size)⟩)
 have E:le (part l (n-4) 4)≠sumOf (part l 0 (n-4)):=by have:=dw;unfold qH at this;rw [G] at this;exact this
 have Al:(((le (part l (n-4) 4):Nat):Int) == ((sumOf (part l 0 (n-4)):Nat):Int))=false:=by rw [Bool.eq_false_iff,ne_eq,beq_iff_eq];omega
 generalize sumOf (part l 0 (n-4))=S at*;generalize le (part l (n-4) 4)=L at*;have A:n-(n-4)=4:=by omega
 have ajI:¬c=n-4:=by omega
 go_in;go_wp2_with fail;rw [<-bT];have d:=(ai (bi w1.heap.size w1));have q:=(ai bN);have aeG:(∀wx:World,bW w1 wx->Calls prog 188 #[pQ w.heap.size,iV 4] wx λe w'=>∃v,e= .returned v/\(v=iV (L:Int)/\bW w w')):=λwx a=>(fE wx a).mono (by rintro e w' ⟨rfl,h⟩;exact⟨_,rfl,rfl,h⟩);have aeH:(∀wx:World,bW w wx->Calls prog 146 #[.slice (some (aD b o)) (n-4) c] wx λe w'=>∃v,e= .returned v/\(v=iV (S:Int)/\bW w w'/\(bW w1 wx->bW w1 w'))):=λwx a=>(fV wx a).mono (by rintro e w' ⟨rfl,h⟩;exact⟨_,rfl,rfl,h⟩)
 go_region_law
  (first
   |(refine AF (by rfl) 188 #[pQ w.heap.size,iV 4] (by simp [go_sem]) _ (aeG _ ?_) ?_;(first|exact d|exact r);rintro _ P ⟨rfl,bd⟩;have f:=bd;clear bd)
   |(refine AF (by rfl) 146 #[.slice (some (aD b o)) (n-4) c] (by simp [go_sem]) _ (aeH _ ?_) ?_;(first|exact q|exact f);rintro _ Q ⟨rfl,bz,P7⟩;have s:=bz;(try have r:=(P7 d));clear bz P7)
   |(refine OR (by rfl) 186 #[.bool false] (by simp [go_sem]) ng (EI _) ?_ ?_;(first|exact⟨rfl,rfl,s⟩|exact⟨rfl,rfl,f⟩);intro C))
 all_goals exact C.elim
def Ld (a:xs=gA):((strOfNums xs).toList == [118,101,108,108,117,109,0,1])=true:=by
 subst a;decide+kernel
def aaO (h:Bytes xs) (a:xs≠gA):((strOfNums xs).toList == [118,101,108,108,117,109,0,1])=false:=by
 rw [Bool.eq_false_iff,ne_eq,beq_iff_eq];intro e;apply a;have:=WU h;rw [<-this];unfold P5;rw [<-ByteArray.toList_eq,e];rfl
def u32 (l:List Int) (k:Nat):Nat:=le (part l k 4)
def aaP (h:Bytes l) (a:k+4<=l.length):u32 l k<4294967296:=by
 have:=lE (dU h k 4);rw [fI a] at this;exact this
def Ta (h:Bytes l) (a:k+4<=l.length):wrap64 ((le (part l k 4):Nat):Int)=((u32 l k:Nat):Int):=by
 have:=aaP h a;unfold u32 at*;unfold wrap64;omega
def uF (p b o c k:Nat) (l:List Int) (w:World) (h:Rd w p b o c k l) (a:k+4<=l.length) (By:k<c):
  Calls prog 188 #[pQ p,iV 4] w λe w'=>e= .returned (iV ((u32 l k:Nat):Int))/\Rd w' p b o c (k+4) l/\aa (λj=>j=p) w w':=by
 refine(oS p b o c k 4 l w h a By (by omega)).mono ?_;rintro e w' ⟨rfl,d,f⟩;exact⟨by rw [Ta h.bytes a],d,f⟩
structure Reads (p g:Nat) (w w':World) (cs:Array Value) (t:TypeId):Prop where
 k:aa (λj=>j=p) w w'
 dI:w'.heap[g]? =some (.cells cs t (0,0))
 ne:g≠p
def Reads.step {cs:Array Value} {t:TypeId} (h:Reads p g w w1 cs t) (a:aa (λj=>j=p) w1 w2):Reads p g w w2 cs t:=
   ⟨h.k.trans a (λ_ h=> .inl h),(a.block g (lY.1 h.dI).1 h.ne).trans h.dI,h.ne⟩
def Reads.below {cs:Array Value} {t:TypeId} (h:Reads p g w w1 cs t) (a:bW w1 w2):Reads p g w w2 cs t:=h.step (aa.ah _ a)
def aa.put (h:aa F w wx) (a:w.heap.size<=g) (v:Value):aa F w (wx.setCell ⟨g,i,none⟩ v):=
 h.trans (aa.setCell (F:=λj=>j=g) (p:=⟨g,i,none⟩) wx rfl v) (λj b=> .inr (by omega))
def aa.more (h:aa F w wx) (o:Obj):aa F w (wx.alloc o):=h.trans (aa.alloc F wx o) (λ_ h=> .inl h)
structure Ig (l:List Int):Prop where
 head:part l 0 8=gA
 tP:uA (part l 20 488)
 geo:vT (u32 l 8) (u32 l 12) (u32 l 16)
def EP (p b o c:Nat) (l:List Int) (w:World) (h:Rd w p b o c 0 l) (J:l.length=508) (dw:Ig l):
  Calls prog 151 #[pQ p] w λe w'=>e= .returned (.agg #[iV ((u32 l 8:Nat):Int),iV ((u32 l 12:Nat):Int),iV ((u32 l 16:Nat):Int)])/\aa (λj=>j=p) w w':=by
 have I:=h.cap;have aaQ:=Ld dw.head;have pF:=(lY.1 h.rd).1;obtain⟨w1,bT⟩:=bP (w.alloc (.cells #[.int .i64 0, .int .i64 0, .int .i64 0] 39));have bN:bW w w1:=by rw [bT];exact(bi _ w).alloc (bR _) _
 have n:Reads p w.heap.size w w1 #[iV 0,iV 0,iV 0] 39:=⟨aa.ah _ bN,by rw [bT];exact heap_alloc_new _ _,by omega⟩;have u:Calls prog 187 #[pQ p,iV 8] w1 λe w'=>e= .returned (.string (strOfNums (part l 0 8)))/\Rd w' p b o c 8 l/\aa (λj=>j=p) w1 w':=uE p b o c 0 8 l w1 (h.kZ bN) (by omega) (by omega);generalize strOfNums (part l 0 8)=A at*;go_in;go_wp2_with fail;rw [<-bT];refine fQ u λC fB aY=>?_;go_wp2_with fail;refine(tf _).mono ?_;rintro e N ⟨rfl,i⟩;have eR:=i.symm;subst eR;go_wp2_with fail;refine(uF p b o c 8 l C fB (by omega) (by omega)).mono ?_;rintro e D ⟨rfl,xn,dW⟩;go_wp2_with fail;refine(uF p b o c 12 l D xn (by omega) (by omega)).mono ?_;rintro e w5 ⟨rfl,Fx,dX⟩;go_wp2_with fail;refine(uF p b o c 16 l w5 Fx (by omega) (by omega)).mono ?_;rintro e f ⟨rfl,Jc,jE⟩;have g:=((((n.step aY).step dW).step dX).step jE);have t:=(lY.1 Jc.rd).1;have y:∀wx:World,bW f wx->Calls prog 189 #[pQ p,iV 508] wx λe w'=>e= .returned (.tuple #[])/\Rd w' p b o c 508 l/\aa (λj=>j=p) wx w':=λwx x=>Di p b o c 20 488 l wx (Jc.kZ x) (by omega) (by omega) dw.tP;have Tb:∀o,bW f (f.alloc o):=λo=>(bi _ f).alloc (bR _) _;go_wp2_with fail;refine(y _ (Tb _)).mono ?_;rintro e m ⟨rfl,_,gS⟩;have MK:m.heap[f.heap.size]? =some (.cells #[.int .i64 ((u32 l 8:Nat):Int), .int .i64 ((u32 l 12:Nat):Int), .int .i64 ((u32 l 16:Nat):Int)] 39 (0,0)):=(gS.block _ (by simp) (by omega)).trans (heap_alloc_new _ _);obtain⟨a,z,s1,s2⟩:=cP dw.geo (aM MK) (bG MK) (bM MK);go_wp2_with fail;refine(ro (u32 l 8) (u32 l 12) (u32 l 16) m a.1.1 a.1.2 a.2.1.1 a.2.1.2 a.2.2.1 a.2.2.2.1 a.2.2.2.2).mono ?_;rintro e E ⟨rfl,AB⟩;obtain⟨d,K,L,M,Dl⟩:=eQ ((((g.below (Tb _)).step gS).below AB)) (cell_later AB z) (cell_later AB s1) (cell_later AB s2) (iL (lY.1 MK).1 AB.size);have tF:=d.dI;have Mq:=λo=>(Below.heap_alloc E o _ (lY.1 tF).1).trans tF;have q:=λo=>aM (Mq o);have r:=λo=>bG (Mq o);have s:=λo=>bM (Mq o);have F:=λo=>ae (Mq o) 0;have G:=λo=>ae (Mq o) 1;have H:=λo=>ae (Mq o) 2;go_wp2_with fail;refine(tf _).mono ?_;rintro e O ⟨rfl,i⟩;have eR:=i.symm;subst eR;go_wp2;refine bodyPost_ret (v:= .agg #[iV ((u32 l 8:Nat):Int),iV ((u32 l 12:Nat):Int),iV ((u32 l 16:Nat):Int)]) (by simp [results,results151,go_sem,q,r,s]) rfl ⟨rfl,?_⟩;exact(((d.k.more _).put (bR _) _).put (bR _) _).put (bR _) _
def B9 (p b o c:Nat) (l:List Int) (w:World) (h:Rd w p b o c 0 l) (m:l.length=508) (dw:part l 0 8≠gA):
  Calls prog 151 #[pQ p] w λe w'=>e= .panicked ng/\aa (λj=>j=p) w w':=by
 have i:=h.cap;have aaQ:=aaO (dU h.bytes 0 8) dw;have pF:=(lY.1 h.rd).1;obtain⟨w1,bT⟩:=bP (w.alloc (.cells #[.int .i64 0, .int .i64 0, .int .i64 0] 39));have bN:bW w w1:=by rw [bT];exact(bi _ w).alloc (bR _) _
 have a:Reads p w.heap.size w w1 #[iV 0,iV 0,iV 0] 39:=⟨aa.ah _ bN,by rw [bT];exact heap_alloc_new _ _,by omega⟩;have d:Calls prog 187 #[pQ p,iV 8] w1 λe w'=>e= .returned (.string (strOfNums (part l 0 8)))/\Rd w' p b o c 8 l/\aa (λj=>j=p) w1 w':=uE p b o c 0 8 l w1 (h.kZ bN) (by omega) (by omega);generalize strOfNums (part l 0 8)=g at*;go_in;go_wp2_with fail;rw [<-bT];refine fQ d λn fB aY=>?_;go_wp2_with fail;refine(EI _).mono ?_;rintro e q ⟨rfl,f⟩;have eR:=f.symm;subst eR;go_wp2;exact⟨rfl,rfl,(a.step aY).k⟩
def Ca (p b o c:Nat) (l:List Int) (w:World) (h:Rd w p b o c 0 l) (x:l.length=508) (g:part l 0 8=gA) (i:¬uA (part l 20 488)):
  Calls prog 151 #[pQ p] w λe w'=>e= .panicked ng/\aa (λj=>j=p) w w':=by
 have v:=h.cap;have aaQ:=Ld g;have pF:=(lY.1 h.rd).1;obtain⟨w1,bT⟩:=bP (w.alloc (.cells #[.int .i64 0, .int .i64 0, .int .i64 0] 39));have bN:bW w w1:=by rw [bT];exact(bi _ w).alloc (bR _) _
 have f:Reads p w.heap.size w w1 #[iV 0,iV 0,iV 0] 39:=⟨aa.ah _ bN,by rw [bT];exact heap_alloc_new _ _,by omega⟩;have m:Calls prog 187 #[pQ p,iV 8] w1 λe w'=>e= .returned (.string (strOfNums (part l 0 8)))/\Rd w' p b o c 8 l/\aa (λj=>j=p) w1 w':=uE p b o c 0 8 l w1 (h.kZ bN) (by omega) (by omega);generalize strOfNums (part l 0 8)=s at*;go_in;go_wp2_with fail;rw [<-bT];refine fQ m λt fB aY=>?_;go_wp2_with fail;refine(tf _).mono ?_;rintro e y ⟨rfl,n⟩;have eR:=n.symm;subst eR;go_wp2_with fail;refine(uF p b o c 8 l t fB (by omega) (by omega)).mono ?_;rintro e u ⟨rfl,xn,dW⟩;go_wp2_with fail;refine(uF p b o c 12 l u xn (by omega) (by omega)).mono ?_;rintro e w5 ⟨rfl,Fx,dX⟩;go_wp2_with fail;refine(uF p b o c 16 l w5 Fx (by omega) (by omega)).mono ?_;rintro e a ⟨rfl,Jc,jE⟩;have d:=((((f.step aY).step dW).step dX).step jE);have r:∀wx:World,bW a wx->Calls prog 189 #[pQ p,iV 508] wx λe w'=>e= .panicked ng/\aa (λj=>j=p) wx w':=λwx q=>OJ p b o c 20 488 l wx (Jc.kZ q) (by omega) (by omega) i;have Tb:∀o,bW a (a.alloc o):=λo=>(bi _ a).alloc (bR _) _;go_wp2_with fail;refine(r _ (Tb _)).mono ?_;rintro e z ⟨rfl,gS⟩;go_wp2;exact⟨rfl,rfl,((d.below (Tb _)).step gS).k⟩
def Cb (p b o c:Nat) (l:List Int) (w:World) (h:Rd w p b o c 0 l) (F:l.length=508) (m:part l 0 8=gA) (n:uA (part l 20 488)) (q:¬vT (u32 l 8) (u32 l 12) (u32 l 16)):
  Calls prog 151 #[pQ p] w λe w'=>e= .panicked ng/\aa (λj=>j=p) w w':=by
 have E:=h.cap;have aaQ:=Ld m;have pF:=(lY.1 h.rd).1;obtain⟨w1,bT⟩:=bP (w.alloc (.cells #[.int .i64 0, .int .i64 0, .int .i64 0] 39));have bN:bW w w1:=by rw [bT];exact(bi _ w).alloc (bR _) _
 have i:Reads p w.heap.size w w1 #[iV 0,iV 0,iV 0] 39:=⟨aa.ah _ bN,by rw [bT];exact heap_alloc_new _ _,by omega⟩;have u:Calls prog 187 #[pQ p,iV 8] w1 λe w'=>e= .returned (.string (strOfNums (part l 0 8)))/\Rd w' p b o c 8 l/\aa (λj=>j=p) w1 w':=uE p b o c 0 8 l w1 (h.kZ bN) (by omega) (by omega);generalize strOfNums (part l 0 8)=A at*;go_in;go_wp2_with fail;rw [<-bT];refine fQ u λC fB aY=>?_;go_wp2_with fail;refine(tf _).mono ?_;rintro e H ⟨rfl,g⟩;have eR:=g.symm;subst eR;go_wp2_with fail;refine(uF p b o c 8 l C fB (by omega) (by omega)).mono ?_;rintro e D ⟨rfl,xn,dW⟩;go_wp2_with fail;refine(uF p b o c 12 l D xn (by omega) (by omega)).mono ?_;rintro e w5 ⟨rfl,Fx,dX⟩;go_wp2_with fail;refine(uF p b o c 16 l w5 Fx (by omega) (by omega)).mono ?_;rintro e a ⟨rfl,Jc,jE⟩;have f:=((((i.step aY).step dW).step dX).step jE);have t:=(lY.1 Jc.rd).1;have z:∀wx:World,bW a wx->Calls prog 189 #[pQ p,iV 508] wx λe w'=>e= .returned (.tuple #[])/\Rd w' p b o c 508 l/\aa (λj=>j=p) wx w':=λwx y=>Di p b o c 20 488 l wx (Jc.kZ y) (by omega) (by omega) n;have Tb:∀o,bW a (a.alloc o):=λo=>(bi _ a).alloc (bR _) _;go_wp2_with fail;refine(z _ (Tb _)).mono ?_;rintro e d ⟨rfl,_,gS⟩;have MK:d.heap[a.heap.size]? =some (.cells #[.int .i64 ((u32 l 8:Nat):Int), .int .i64 ((u32 l 12:Nat):Int), .int .i64 ((u32 l 16:Nat):Int)] 39 (0,0)):=(gS.block _ (by simp) (by omega)).trans (heap_alloc_new _ _);have Y8:Calls prog 98 #[.agg #[iV ((u32 l 8:Nat):Int),iV ((u32 l 12:Nat):Int),iV ((u32 l 16:Nat):Int)]] d λe w'=>e= .returned (.tuple #[.agg #[iV 0,iV 0,iV 0,iV 0,iV 0],iV 22])/\bW d w':=by
  refine(G9 _ _ _ d).mono ?_;rintro e w' ⟨v,x,rfl,⟨s,_⟩|⟨_,rfl,rfl⟩,r⟩
  .exact absurd s q
  .exact⟨rfl,r⟩
 have G:=aM MK;have s1:=bG MK;have s2:=bM MK;go_wp2_with fail;refine bJ Y8 λI AB=>?_;go_wp2_with fail;refine(EI _).mono ?_;rintro e J ⟨rfl,g⟩;have eR:=g.symm;subst eR;go_wp2;exact⟨rfl,rfl,(((f.below (Tb _)).step gS).below AB).k.more _⟩
def EQ (p b o c:Nat) (l:List Int) (w:World) (h:Rd w p b o c 0 l) (f:l.length=508) (dw:¬Ig l):
  Calls prog 151 #[pQ p] w λe w'=>e= .panicked ng/\aa (λj=>j=p) w w':=by
 by_cases a:part l 0 8=gA
 .by_cases d:uA (part l 20 488)
  .exact Cb p b o c l w h f a d (λg=>dw ⟨a,d,g⟩)
  .exact Ca p b o c l w h f a d
 .exact B9 p b o c l w h f a
def Tc:∀{xs:List Int},Bytes xs->bD xs.length (le xs)=xs
 | [],_=>rfl
 |x :: t,h=>by
  have d:=h x (by simp);rw [List.length_cons,bD,le];have a:(x.toNat+256*le t) / 256=le t:=by omega
  have b:(((x.toNat+256*le t)%256:Nat):Int)=x:=by omega
  rw [a,b,(Tc (xs:=t) (λy c=>h y (by simp [c])))]
def AG:∀(k m:Nat),m<256 ^ k->le (bD k m)=m
 |0,m,h=>by simp at h;simp [bD,le,h]
 |k+1,m,h=>by
  have a:m / 256<256 ^ k:=by rw [Nat.pow_succ] at h;exact Nat.div_lt_of_lt_mul (by rw [Nat.mul_comm];exact h)
  rw [bD,le,AG k _ a];omega
def OT (h:∀x∈l,x=0):l=List.replicate l.length 0:=List.eq_replicate_iff.2 ⟨rfl,h⟩
def ky {m:Nat} (h:q+m<=a):part (part l 0 a) q m=part l q m:=by
 unfold part;rw [List.drop_zero,List.drop_take,List.take_take];congr 1;omega
def me (l:List Int) (q m k:Nat):part l q (m+k)=part l q m ++ part l (q+m) k:=by
 unfold part;rw [List.take_add,List.drop_drop]
def Ih (l:List Int):part l 0 l.length=l:=by simp [part]
def qI (A B:List Int) (q m:Nat) (h:q=A.length):part (A ++ B) q m=B.take m:=by
 subst h;simp [part]
def iZ (A B:List Int) (q m:Nat) (h:q+m<=A.length):part (A ++ B) q m=part A q m:=by
 unfold part;rw [List.drop_append_of_le_length (by omega),List.take_append_of_le_length (by simp;omega)]
def uG (a:Bytes l) (b:q+4<=l.length):bD 4 (u32 l q)=part l q 4:=by
 have:=Tc (dU a q 4);rw [fI b] at this;exact this
def AH (l:List Int):Prop:=vT (u32 l 8) (u32 l 12) (u32 l 16)/\eZ (bO (u32 l 8) (u32 l 12) (u32 l 16))=l
def Dp (b:Bytes l) (j:l.length=512):(qH l/\Ig (part l 0 508))↔AH l:=by
 have u1:u32 (part l 0 508) 8=u32 l 8:=by unfold u32;rw [ky (by omega)]
 have u2:u32 (part l 0 508) 12=u32 l 12:=by unfold u32;rw [ky (by omega)]
 have u3:u32 (part l 0 508) 16=u32 l 16:=by unfold u32;rw [ky (by omega)]
 have Q5:part l 0 508=part l 0 8 ++ part l 8 4 ++ part l 12 4 ++ part l 16 4 ++ part l 20 488:=by
  rw [show (508:Nat)=8+4+4+4+488 from rfl,me,me,me,me]
 have aaR:l=part l 0 508 ++ part l 508 4:=by
  have:=me l 0 508 4;rw [show 508+4=l.length by omega,Ih] at this;exact this
 constructor
 .rintro ⟨f,i,k,c⟩;rw [u1,u2,u3] at c;rw [ky (by omega)] at i k;refine⟨c,?_⟩;have e:bO (u32 l 8) (u32 l 12) (u32 l 16)=part l 0 508:=by
   rw [Q5,i,<-uG b (q:=8) (by omega),<-uG b (q:=12) (by omega),<-uG b (q:=16) (by omega)];have:=OT k;rw [fI (by omega)] at this;rw [this];rfl
  unfold eZ;rw [e];unfold qH at f;rw [j] at f;have m:u32 l 508=sumOf (part l 0 508):=f;rw [<-m,(uG b (q:=508) (by omega))];exact aaR.symm
 .rintro ⟨c,g⟩;have a:=dG (u32 l 8) (u32 l 12) (u32 l 16);have Td:part l 0 508=bO (u32 l 8) (u32 l 12) (u32 l 16):=by
   conv=>lhs;rw [<-g]
   unfold eZ;rw [iZ _ _ _ _ (by omega)];have:=Ih (bO (u32 l 8) (u32 l 12) (u32 l 16));rw [a] at this;exact this
  have Gg:part l 508 4=bD 4 (sumOf (bO (u32 l 8) (u32 l 12) (u32 l 16))):=by
   conv=>lhs;rw [<-g]
   unfold eZ;rw [qI _ _ _ _ a.symm,nC (by rw [aK];omega)]
  refine⟨?_,?_,?_,?_⟩
  .unfold qH;rw [j];show le (part l 508 4)=sumOf (part l 0 508);rw [Gg,Td,AG _ _ (by have:=nB (ic (u32 l 8) (u32 l 12) (u32 l 16));omega)]
  .rw [Td];unfold bO;rw [rG,rG,rG,iZ _ _ _ _ (by decide)];rfl
  .rw [Td];unfold bO;have d:(gA ++ bD 4 (u32 l 8) ++ bD 4 (u32 l 12) ++ bD 4 (u32 l 16)).length=20:=(by rw [ee,ee,ee,aK,aK,aK];rfl);rw [qI _ _ _ _ d.symm];intro x n;exact List.eq_of_mem_replicate (List.mem_of_mem_take n)
  .rw [u1,u2,u3];exact c
def uH (a c:Nat) (f g i:Value) (x:Value) (w:World) (b:w.heap[a]? =some (.cells #[f,g,i] 39 (0,0))) (d:w.heap[c]? =some (.cells #[x] 49 (0,0))) (dM:a≠c):
  CallsD prog 150 #[pQ a,pQ c] (.panicking ng) w λe k w'=>
   e= .returned (.tuple #[])/\k= .panicking [{v:= .iface 49 (iV 6),recovered:=true}]/\w'=(((w.setCell ⟨a,0,none⟩ (.int .i64 0)).setCell ⟨a,1,none⟩ (.int .i64 0)).setCell ⟨a,2,none⟩ (.int .i64 0)).setCell ⟨c,0,none⟩ (.int .i64 6):=by
 have ajL:¬c=a:=λe=>dM e.symm;refine callsD_of_wpS func150 rfl λl cs j=>?_;apply wpS_seq;apply wpS_region;simp [wpOpsS,go_sem,recoverD,j,ntmps150,Exit.thenS];refine wpS_cond (t:=true) (by simp [Act.eval,Array.replicate]) ?_;simp only [if_true];apply wpS_region;simp [wpOpsS,go_sem,aM b,bG b,bM b,ae b 0,ae b 1,ae b 2,aM d,ae d 0,bodyPostS,results,results150]
def Ii (b c:Nat) (w:World):
  CallsD prog 150 #[pQ b,pQ c] .returning w λe f w'=>e= .returned (.tuple #[])/\f= .returning/\w'=w:=by
 refine callsD_of_wpS func150 rfl λa cs d=>?_;apply wpS_seq;apply wpS_region;simp [wpOpsS,go_sem,recoverD,d,ntmps150,Exit.thenS];refine wpS_cond (t:=false) (by simp [Act.eval,Array.replicate]) ?_;simp only [Bool.false_eq_true,if_false];refine wpS_of_wp (wp_skip ?_);cases a
 simp_all [bodyPostS,results,results150]
def ru {B:Nat} (h:Below B w wx) (b:B<=g) (a:B<=wx.heap.size) (v:Value):Below B w (wx.setCell ⟨g,i,none⟩ v):=
 h.trans ((aa.setCell (F:=λj=>j=g) (p:=⟨g,i,none⟩) wx rfl v).below (λj c=>by omega) a)
def size_setCell (w:World) (a:Addr) (v:Value):(w.setCell a v).heap.size=w.heap.size:=by simp [World.setCell]
def Le {B:Nat} (h:Below B w wx) {a d:Nat} (c:B<=a) (e:B<=d) (b:B<=wx.heap.size) (x y z u:Value):
  Below B w ((((wx.setCell ⟨a,0,none⟩ x).setCell ⟨a,1,none⟩ y).setCell ⟨a,2,none⟩ z).setCell ⟨d,0,none⟩ u):=
 ru (ru (ru (ru h c b x) c (by rw [size_setCell];exact b) y) c (by rw [size_setCell,size_setCell];exact b) z) e (by rw [size_setCell,size_setCell,size_setCell];exact b) u
def oX (l:List Int):Prop:=qH l/\Ig (part l 0 508)
def Ij (b o c:Nat) (l:List Int) (w:World) (u:l.length=512) (s:512<=c) (oG:c<=9223372036854775807) (r:Bytes l) (v:∀i,i<512->w.cell? ⟨b,o+i,none⟩=some (.int .u8 (l.getD i 0))) (dw:oX l):
  Calls prog 108 #[.slice (some (aD b o)) 512 c] w λe w'=>e= .returned (.tuple #[.agg #[iV ((u32 l 8:Nat):Int),iV ((u32 l 12:Nat):Int),iV ((u32 l 16:Nat):Int)],iV 0])/\bW w w':=by
 obtain⟨w1,bT⟩:=bP ((w.alloc (.cells #[.int .i64 0, .int .i64 0, .int .i64 0] 39)).alloc (.cells #[.int .i64 0] 49));have bN:bW w w1:=by rw [bT];exact co w _ _
 have sy:w1.heap.size=w.heap.size+2:=by rw [bT];simp
 have pB:w1.heap[w.heap.size]? =some (.cells #[.int .i64 0, .int .i64 0, .int .i64 0] 39 (0,0)):=by rw [bT];exact heap_alloc2_old _ _ _
 have gh:w1.heap[w.heap.size+1]? =some (.cells #[.int .i64 0] 49 (0,0)):=by rw [bT];exact heap_alloc2_new _ _ _
 go_enter_defers func108,ntmps108
 go_wp2_with fail;rw [<-bT];refine(Do b o 512 c l w1 u (by omega) (by omega) s oG r (λi t=>cell_later bN (v i t)) dw.1).mono ?_;rintro e x ⟨p,rfl,E,vK,bd⟩;have my:=EP p b o c (part l 0 508) x vK (fI (by omega)) dw.2;have dZ:=bN.trans (bd.mono bN.size);have a:=((bd.block w.heap.size (by omega)).trans pB);have d:=((bd.block (w.heap.size+1) (by omega)).trans gh);have g:u32 (part l 0 508) 8=u32 l 8:=by unfold u32;congr 1;simp [part,List.drop_take,List.take_take]
 have ajM:u32 (part l 0 508) 12=u32 l 12:=by unfold u32;congr 1;simp [part,List.drop_take,List.take_take]
 have ajN:u32 (part l 0 508) 16=u32 l 16:=by unfold u32;congr 1;simp [part,List.drop_take,List.take_take]
 rw [g,ajM,ajN] at my;go_wp2_with fail;refine bJ my λG aZ=>?_;have pB:=(aZ.block w.heap.size (lY.1 a).1 (by omega)).trans a;have gh:=(aZ.block (w.heap.size+1) (lY.1 d).1 (by omega)).trans d;obtain⟨fS,k,m,n,z,A,C,q,y⟩:=M9 (dZ.trans (aZ.below (λj D=>by omega) dZ.size)) (aM pB) (bG pB) (bM pB) (ae pB 0) (ae pB 1) (ae pB 2) (aM gh) (ae gh 0);go_wp2;refine leaves_cons (f:=150) (args:= #[pQ w.heap.size, .pointer (some ⟨w.heap.size+1,0,none⟩)]) (by simp) (by simp [go_sem]) ?_;refine(Ii _ _ _).mono ?_;rintro e F BI ⟨rfl,rfl,rfl⟩;simp [Leaves,settle,results,results108,go_sem,k,m,n,q];exact(Le fS (bR w.heap.size) (show w.heap.size<=w.heap.size+1 by omega) fS.size (iV ((u32 l 8:Nat):Int)) (iV ((u32 l 12:Nat):Int)) (iV ((u32 l 16:Nat):Int)) (iV 0))
def ES (b o c:Nat) (l:List Int) (w:World) (m:l.length=512) (j:512<=c) (oG:c<=9223372036854775807) (g:Bytes l) (n:∀i,i<512->w.cell? ⟨b,o+i,none⟩=some (.int .u8 (l.getD i 0))) (d:¬qH l):
  Calls prog 108 #[.slice (some (aD b o)) 512 c] w λe w'=>e= .returned (.tuple #[.agg #[iV 0,iV 0,iV 0],iV 6])/\bW w w':=by
 obtain⟨w1,bT⟩:=bP ((w.alloc (.cells #[.int .i64 0, .int .i64 0, .int .i64 0] 39)).alloc (.cells #[.int .i64 0] 49));have bN:bW w w1:=by rw [bT];exact co w _ _
 have sy:w1.heap.size=w.heap.size+2:=by rw [bT];simp
 have pB:w1.heap[w.heap.size]? =some (.cells #[.int .i64 0, .int .i64 0, .int .i64 0] 39 (0,0)):=by rw [bT];exact heap_alloc2_old _ _ _
 have gh:w1.heap[w.heap.size+1]? =some (.cells #[.int .i64 0] 49 (0,0)):=by rw [bT];exact heap_alloc2_new _ _ _
 go_enter_defers func108,ntmps108
 go_wp2_with fail;rw [<-bT];refine(OS b o 512 c l w1 m (by omega) (by omega) j oG g (λi k=>cell_later bN (n i k)) d).mono ?_;rintro e q ⟨rfl,bd⟩;have dZ:=bN.trans (bd.mono bN.size);have a:=(aH ((bd.block w.heap.size (by omega)).trans pB) ((bd.block (w.heap.size+1) (by omega)).trans gh));go_wp2;refine leaves_cons (f:=150) (args:= #[pQ w.heap.size, .pointer (some ⟨w.heap.size+1,0,none⟩)]) (by simp) (by simp [go_sem]) ?_;refine(uH w.heap.size (w.heap.size+1) _ _ _ _ _ a.1 a.2 (by omega)).mono ?_;rintro e p BI ⟨rfl,rfl,rfl⟩;simp [Leaves,settle,results,results108,go_sem,aM a.1,bG a.1,bM a.1,(aM a.2)];exact(Le dZ (bR w.heap.size) (show w.heap.size<=w.heap.size+1 by omega) dZ.size (iV 0) (iV 0) (iV 0) (iV 6))
def ET (b o c:Nat) (l:List Int) (w:World) (s:l.length=512) (q:512<=c) (oG:c<=9223372036854775807) (n:Bytes l) (t:∀i,i<512->w.cell? ⟨b,o+i,none⟩=some (.int .u8 (l.getD i 0))) (k:qH l) (m:¬Ig (part l 0 508)):
  Calls prog 108 #[.slice (some (aD b o)) 512 c] w λe w'=>e= .returned (.tuple #[.agg #[iV 0,iV 0,iV 0],iV 6])/\bW w w':=by
 obtain⟨w1,bT⟩:=bP ((w.alloc (.cells #[.int .i64 0, .int .i64 0, .int .i64 0] 39)).alloc (.cells #[.int .i64 0] 49));have bN:bW w w1:=by rw [bT];exact co w _ _
 have sy:w1.heap.size=w.heap.size+2:=by rw [bT];simp
 have pB:w1.heap[w.heap.size]? =some (.cells #[.int .i64 0, .int .i64 0, .int .i64 0] 39 (0,0)):=by rw [bT];exact heap_alloc2_old _ _ _
 have gh:w1.heap[w.heap.size+1]? =some (.cells #[.int .i64 0] 49 (0,0)):=by rw [bT];exact heap_alloc2_new _ _ _
 go_enter_defers func108,ntmps108
 go_wp2_with fail;rw [<-bT];refine(Do b o 512 c l w1 s (by omega) (by omega) q oG n (λi r=>cell_later bN (t i r)) k).mono ?_;rintro e u ⟨p,rfl,x,vK,bd⟩;have dZ:=bN.trans (bd.mono bN.size);have d:=((bd.block w.heap.size (by omega)).trans pB);have g:=((bd.block (w.heap.size+1) (by omega)).trans gh);go_wp2_with fail;refine(EQ p b o c (part l 0 508) u vK (fI (by omega)) m).mono ?_;rintro e z ⟨rfl,aZ⟩;have pB:=(aZ.block w.heap.size (lY.1 d).1 (by omega)).trans d;have gh:=(aZ.block (w.heap.size+1) (lY.1 g).1 (by omega)).trans g;have fS:=dZ.trans (aZ.below (λj v=>by omega) dZ.size);have a:=(aH pB gh);go_wp2;refine leaves_cons (f:=150) (args:= #[pQ w.heap.size, .pointer (some ⟨w.heap.size+1,0,none⟩)]) (by simp) (by simp [go_sem]) ?_;refine(uH w.heap.size (w.heap.size+1) _ _ _ _ _ a.1 a.2 (by omega)).mono ?_;rintro e y BI ⟨rfl,rfl,rfl⟩;simp [Leaves,settle,results,results108,go_sem,aM a.1,bG a.1,bM a.1,(aM a.2)];exact(Le fS (bR w.heap.size) (show w.heap.size<=w.heap.size+1 by omega) fS.size (iV 0) (iV 0) (iV 0) (iV 6))
def Ik (b o c:Nat) (l:List Int) (w:World) (g:l.length=512) (f:512<=c) (oG:c<=9223372036854775807) (d:Bytes l) (j:∀i,i<512->w.cell? ⟨b,o+i,none⟩=some (.int .u8 (l.getD i 0))) (dw:¬oX l):
  Calls prog 108 #[.slice (some (aD b o)) 512 c] w λe w'=>e= .returned (.tuple #[.agg #[iV 0,iV 0,iV 0],iV 6])/\bW w w':=by
 by_cases a:qH l
 .exact ET b o c l w g f oG d j a (λk=>dw ⟨a,k⟩)
 .exact ES b o c l w g f oG d j a
section
section
variable {w:World} {F:Nat->Prop} {p s c:Nat} {S:DS}
def OU (h:B.ax w F p s S c) (k:Nat) (j:k<s) (aU:S.puts.length+1<=4000000000000) (f:S.fuse≠0):
  Calls prog 39 #[pQ p,iV (k:Int)] w λe w'=>∃g a,e= .returned (.tuple #[.slice (some (aD g 0)) 512 a,iV 0])/\w.heap.size<=g/\ay w' 5 g a (bs (S.now k))/\B.ax w' F p s S (c+1)/\aa F w w':=by
 obtain⟨r,h,l⟩:=h;refine(Mg h k f j (by show S.puts.length<=_;omega)).mono ?_;rintro e w' ⟨g,a,rfl,i,be,b,d⟩;exact⟨g,a,rfl,i,be,⟨_,b,l.read⟩,d⟩
end
def mQ (l:List Int) (s:Nat):Prop:=oX l/\u32 l 8=s
def cE (l:List Int):LY:=⟨u32 l 12,3+u32 l 12,u32 l 8-(3+u32 l 12),u32 l 16,2+u32 l 16 / 4⟩
abbrev Yy:LY:=⟨0,0,0,0,0⟩
def Te (S:DS) (s:Nat) (y:LY) (x:Int):Prop:=
   (S.fuse=0/\y=Yy/\x=3)\/(S.fuse≠0/\mQ (S.now 0) s/\y=cE (S.now 0)/\x=0)\/(S.fuse≠0/\¬mQ (S.now 0) s/\y=Yy/\x=6)
def oX.geo (h:oX l):vT (u32 l 8) (u32 l 12) (u32 l 16):=by
 simpa only [u32,ky (show 8+4<=508 by omega),ky (show 12+4<=508 by omega),ky (show 16+4<=508 by omega)] using h.2.geo
def Tf (l:List Int) {s:Nat} (d:u32 l 8=s) (e:((u32 l 12:Nat):Int)+((u32 l 16:Nat):Int) / 4+6<=(s:Int)):
  Ending.returned (.tuple #[.agg #[iV ((u32 l 12:Nat):Int),iV (3+((u32 l 12:Nat):Int)),iV ((s:Int)-(3+((u32 l 12:Nat):Int))),iV ((u32 l 16:Nat):Int),iV (2+((u32 l 16:Nat):Int) / 4)],iV 0])=Ending.returned (.tuple #[P6 (cE l),iV 0]):=by
 unfold cE P6;generalize u32 l 12=y at*;generalize u32 l 16=z at*;rw [d];have a:((3+y:Nat):Int)=3+(y:Int):=by omega
 have b:((s-(3+y):Nat):Int)=(s:Int)-(3+(y:Int)):=by omega
 have c:((2+z / 4:Nat):Int)=2+(z:Int) / 4:=by omega
 simp only [a,b,c]
def Tg {j l m n o:Value} {t:TypeId} (h:W.heap[g]? =some (.cells #[j,l,m,n,o] t (0,0))) (b c d e f:Value):
    (((((W.setCell ⟨g,0,none⟩ b).setCell ⟨g,1,none⟩ c).setCell ⟨g,2,none⟩ d).setCell ⟨g,3,none⟩ e).setCell ⟨g,4,none⟩ f).heap[g]? =some (.cells #[b,c,d,e,f] t (0,0))/\aa (λk=>k=g) W (((((W.setCell ⟨g,0,none⟩ b).setCell ⟨g,1,none⟩ c).setCell ⟨g,2,none⟩ d).setCell ⟨g,3,none⟩ e).setCell ⟨g,4,none⟩ f):=by
 refine⟨Qi b c d e f h,?_⟩;have a:=λ(w:World) (i:Nat) (v:Value)=>aa.setCell (F:=λk=>k=g) w (p:=(aD g i)) rfl v;exact((((a _ 0 b).trans (a _ 1 c) (λ_ h=> .inl h)).trans (a _ 2 d) (λ_ h=> .inl h)).trans (a _ 3 e) (λ_ h=> .inl h)).trans (a _ 4 f) (λ_ h=> .inl h)
def uI {w:World} {F:Nat->Prop} {p s c:Nat} {S:DS} (h:B.ax w F p s S c) (dO:S.fN) (aU:S.puts.length+1<=4000000000000):
  Calls prog 54 #[pQ p] w λe w'=>∃y x,e= .returned (.tuple #[P6 y,iV x])/\Te S s y x/\B.ax w' F p s S (c+1)/\aa F w w':=by
 obtain⟨w0,V0⟩:=bP (w.alloc (.cells #[.int .i64 0, .int .i64 0, .int .i64 0, .int .i64 0, .int .i64 0] 86));have fR:bW w w0:=by rw [V0];exact aJ _ _
 have dH:w0.heap[w.heap.size]? =some (.cells #[.int .i64 0, .int .i64 0, .int .i64 0, .int .i64 0, .int .i64 0] 86 (0,0)):=by rw [V0];exact heap_alloc_new _ _
 have xC:=h.later fR;have bq:=h.lt;go_in;go_wp2_with fail;by_cases A:S.fuse=0
 .have z:=B.oI xC 0 A;have t:=(aH xC (aH fR dH));subst V0;clear h xC fR dH;refine bJ z λw1 bT=>?_;subst bT;clear z;go_wp2;exact bodyPost_ret (v:= .tuple #[P6 Yy,iV 3]) (by simp [results,results54,go_sem]) rfl ⟨Yy,3,rfl, .inl ⟨A,rfl,rfl⟩,t.1.le (by omega),aa.ah F t.2.1⟩
 .have dw:=h.ok;have z:=OU xC 0 (by have:=dw.lo;omega) aU A;have Y:=bA dw 0 (by have:=dw.lo;omega);have xT:=dO.now 0;have t:=(aH fR dH);have gC:w0.heap.size=w.heap.size+1:=by rw [V0,World.size_alloc]
  have X:=gC;rw [V0] at t X z;clear h xC fR dH V0 gC w0;refine z.mono ?_;rintro e w1 ⟨g,J,rfl,hg,be,iP,fh⟩;clear z;have WV:=(fh.block w.heap.size (by rw [X];omega) (λo=>by have:=bq _ o;omega)).trans t.2;have PQ:=be.le;have Ex:=be.max;have lf:∀i,i<512->w1.cell? ⟨g,0+i,none⟩=some (.int .u8 ((S.now 0).getD i 0)):=λi hi=>by
   have:=be.byte (i:=i) (by omega);rwa [aN] at this
  have Sk:512<=J:=by rw [<-Y];simpa [bs] using PQ
  have aeM:J<=9223372036854775807:=by unfold maxLen at Ex;omega
  have ez:=(aa.ah F t.1).trans fh (λ_ h=> .inl h);have bT:=fh.size;rw [X] at bT;by_cases r:oX (S.now 0)
  .have C:=Ij g 0 J (S.now 0) w1 Y Sk aeM xT lf r;have n:=r.geo;have m:=(aH iP (aH ez (aH WV r)));clear be iP fh lf WV ez PQ Ex r;go_wp2_with fail;refine bJ C λl bd=>?_;clear C;have em:=bd.size;obtain⟨b,ec⟩:∃b,b=l.alloc (.cells #[.int .i64 ((u32 (S.now 0) 8:Nat):Int), .int .i64 ((u32 (S.now 0) 12:Nat):Int), .int .i64 ((u32 (S.now 0) 16:Nat):Int)] 39):=⟨_,rfl⟩;have OV:b.heap[l.heap.size]? =some (.cells #[.int .i64 ((u32 (S.now 0) 8:Nat):Int), .int .i64 ((u32 (S.now 0) 12:Nat):Int), .int .i64 ((u32 (S.now 0) 16:Nat):Int)] 39 (0,0)):=(by rw [ec];exact heap_alloc_new _ _);have bz:bW w1 b:=(by rw [ec];exact bd.alloc em _);have lq:b.heap.size=l.heap.size+1:=(by rw [ec,World.size_alloc]);go_wp2_with fail;rw [<-ec];clear ec bd;have f:=m.1.later bz;have tt:=(bz.block w.heap.size (by omega)).trans m.2.2.1;have Th:=m.2.1.trans (aa.ah (λ_=>False) bz) (λ_ h=>h.elim);have c0:=aM OV;have nW:=λk=>B.p8 (f.later (below_drewN (bi _ _) k));have a:=(aH f (aH Th (aH tt OV)));clear f Th tt OV bz;by_cases oL:u32 (S.now 0) 8=s
   .have WY:(((u32 (S.now 0) 8:Nat):Int) == ((s:Nat):Int))=true:=(by rw [oL];simp);go_quiet (first|(go_at_call 47;refine Calls.quiet_of_same (nW _)));have d:∀k,bW b (b.drewN k):=λk=>below_drewN (bi _ _) k;have ff:=(λk=>aH (a.1.later (d k)) (aH (a.2.1.trans (aa.ah (λ_=>False) (d k)) (λ_ h=>h.elim)) (aH (((d k).block w.heap.size (by omega)).trans a.2.2.1) (((d k).block l.heap.size (by omega)).trans a.2.2.2))));clear a c0 nW d;rename_i nq _;have a:=(ff nq);have Il:(b.drewN nq).heap.size=b.heap.size:=rfl;clear ff;generalize b.drewN nq=W at*;obtain⟨P,Q,R,T,U,K,L,M,N,O,s0,s1⟩:=FK (aM a.2.2.1) (bG a.2.2.1) (bM a.2.2.1) (fU a.2.2.1) (gH a.2.2.1) (ae a.2.2.1 0) (ae a.2.2.1 1) (ae a.2.2.1 2) (ae a.2.2.1 3) (ae a.2.2.1 4) (aM a.2.2.2) (bG a.2.2.2);have s2:=bM a.2.2.2;have pF:=ro (s:Int) ((u32 (S.now 0) 12:Nat):Int) ((u32 (S.now 0) 16:Nat):Int) W (by have:=n;rw [oL] at this;exact this.1.1) (by have:=n;rw [oL] at this;exact this.1.2) (by have:=n;rw [oL] at this;exact this.2.1.1) (by have:=n;rw [oL] at this;exact this.2.1.2) (by have:=n;rw [oL] at this;exact this.2.2.1) (by have:=n;rw [oL] at this;exact this.2.2.2.1) (by have:=n;rw [oL] at this;exact this.2.2.2.2);go_wp2_with fail;refine bJ pF λW3 q=>?_;clear pF P Q R T U K L M N O s0 s1 s2;have AI:=(q.block w.heap.size (by omega)).trans a.2.2.1;have HX:=(aH (a.1.later q) (a.2.1.trans (aa.ah (λ_=>False) q) (λ_ h=>h.elim)));obtain⟨P,Q,R,T,U,K,L,M,N,O⟩:=wn (aM AI) (bG AI) (bM AI) (fU AI) (gH AI) (ae AI 0) (ae AI 1) (ae AI 2) (ae AI 3) (ae AI 4);have Z:Ending.returned (.tuple #[.agg #[(iV ((u32 (S.now 0) 12:Nat):Int)),(iV (3+((u32 (S.now 0) 12:Nat):Int))),(iV ((s:Int)-(3+((u32 (S.now 0) 12:Nat):Int)))),(iV ((u32 (S.now 0) 16:Nat):Int)),(iV (2+((u32 (S.now 0) 16:Nat):Int) / 4))],iV 0])=Ending.returned (.tuple #[P6 (cE (S.now 0)),iV 0]):=by
     have h3:=n.2.2.2.1;rw [oL] at h3;exact Tf (S.now 0) oL h3
    go_wp2;obtain⟨Cc,qC⟩:=Tg AI (iV ((u32 (S.now 0) 12:Nat):Int)) (iV (3+((u32 (S.now 0) 12:Nat):Int))) (iV ((s:Int)-(3+((u32 (S.now 0) 12:Nat):Int)))) (iV ((u32 (S.now 0) 16:Nat):Int)) (iV (2+((u32 (S.now 0) 16:Nat):Int) / 4));generalize ((((W3.setCell ⟨w.heap.size,0,none⟩ (.int .i64 ((u32 (S.now 0) 12:Nat):Int))).setCell ⟨w.heap.size,1,none⟩ (.int .i64 (3+((u32 (S.now 0) 12:Nat):Int)))).setCell ⟨w.heap.size,2,none⟩ (.int .i64 ((s:Int)-(3+((u32 (S.now 0) 12:Nat):Int))))).setCell ⟨w.heap.size,3,none⟩ (.int .i64 ((u32 (S.now 0) 16:Nat):Int))).setCell ⟨w.heap.size,4,none⟩ (.int .i64 (2+((u32 (S.now 0) 16:Nat):Int) / 4))=WW at*;obtain⟨D,E,G,H,I⟩:=eQ (aj Cc (j:=0) (u:=(iV ((u32 (S.now 0) 12:Nat):Int))) rfl) (aj Cc (j:=1) (u:=(iV (3+((u32 (S.now 0) 12:Nat):Int)))) rfl) (aj Cc (j:=2) (u:=(iV ((s:Int)-(3+((u32 (S.now 0) 12:Nat):Int))))) rfl) (aj Cc (j:=3) (u:=(iV ((u32 (S.now 0) 16:Nat):Int))) rfl) (aj Cc (j:=4) (u:=(iV (2+((u32 (S.now 0) 16:Nat):Int) / 4))) rfl);exact bodyPost_ret (v:= .tuple #[.agg #[(iV ((u32 (S.now 0) 12:Nat):Int)),(iV (3+((u32 (S.now 0) 12:Nat):Int))),(iV ((s:Int)-(3+((u32 (S.now 0) 12:Nat):Int)))),(iV ((u32 (S.now 0) 16:Nat):Int)),(iV (2+((u32 (S.now 0) 16:Nat):Int) / 4))],iV 0]) (by simp [results,results54,go_sem,D,E,G,H,I]) rfl ⟨cE (S.now 0),0,Z, .inr (.inl ⟨A,⟨m.2.2.2,oL⟩,rfl,rfl⟩),HX.1.aw qC (λk o e=>by subst e;have:=bq _ o;omega),HX.2.trans qC (λk e=> .inr (by omega))⟩
   .have WY:(((u32 (S.now 0) 8:Nat):Int) == ((s:Nat):Int))=false:=(by rw [fy];omega);go_quiet (first|(go_at_call 47;refine Calls.quiet_of_same (nW _)));have d:∀k,bW b (b.drewN k):=λk=>below_drewN (bi _ _) k;have ff:=(λk=>aH (a.1.later (d k)) (aH (a.2.1.trans (aa.ah (λ_=>False) (d k)) (λ_ h=>h.elim)) (aH (((d k).block w.heap.size (by omega)).trans a.2.2.1) (((d k).block l.heap.size (by omega)).trans a.2.2.2))));clear a c0 nW d;rename_i nq _;have a:=(ff nq);have Il:(b.drewN nq).heap.size=b.heap.size:=rfl;clear ff;generalize b.drewN nq=W at*;obtain⟨P,Q,R,T,U,K,L,M,N,O⟩:=wn (aM a.2.2.1) (bG a.2.2.1) (bM a.2.2.1) (fU a.2.2.1) (gH a.2.2.1) (ae a.2.2.1 0) (ae a.2.2.1 1) (ae a.2.2.1 2) (ae a.2.2.1 3) (ae a.2.2.1 4);have aqD:(((u32 (S.now 0) 8:Nat):Int) != ((s:Nat):Int))=true:=(by simp [bne,WY]);go_wp2;obtain⟨Cc,qC⟩:=Tg a.2.2.1 (iV 0) (iV 0) (iV 0) (iV 0) (iV 0);generalize ((((W.setCell ⟨w.heap.size,0,none⟩ (.int .i64 0)).setCell ⟨w.heap.size,1,none⟩ (.int .i64 0)).setCell ⟨w.heap.size,2,none⟩ (.int .i64 0)).setCell ⟨w.heap.size,3,none⟩ (.int .i64 0)).setCell ⟨w.heap.size,4,none⟩ (.int .i64 0)=WW at*;obtain⟨D,E,G,H,I⟩:=eQ (aj Cc (j:=0) (u:=(iV 0)) rfl) (aj Cc (j:=1) (u:=(iV 0)) rfl) (aj Cc (j:=2) (u:=(iV 0)) rfl) (aj Cc (j:=3) (u:=(iV 0)) rfl) (aj Cc (j:=4) (u:=(iV 0)) rfl);exact bodyPost_ret (v:= .tuple #[.agg #[(iV 0),iV 0,iV 0,iV 0,(iV 0)],iV 6]) (by simp [results,results54,go_sem,D,E,G,H,I]) rfl ⟨Yy,6,rfl, .inr (.inr ⟨A,λh=>oL h.2,rfl,rfl⟩),a.1.aw qC (λk o e=>by subst e;have:=bq _ o;omega),a.2.1.trans qC (λk e=> .inr (by omega))⟩
  .have C:=Ik g 0 J (S.now 0) w1 Y Sk aeM xT lf r;have m:=(aH iP (aH ez (aH WV r)));clear be iP fh lf WV ez PQ Ex r;go_wp2_with fail;refine bJ C λl bd=>?_;clear C;have em:=bd.size;obtain⟨b,ec⟩:=bP (l.alloc (.cells #[.int .i64 0, .int .i64 0, .int .i64 0] 39));have OV:b.heap[l.heap.size]? =some (.cells #[.int .i64 0, .int .i64 0, .int .i64 0] 39 (0,0)):=(by rw [ec];exact heap_alloc_new _ _);have bz:bW w1 b:=(by rw [ec];exact bd.alloc em _);have lq:b.heap.size=l.heap.size+1:=(by rw [ec,World.size_alloc]);go_wp2_with fail;rw [<-ec];clear ec bd;have f:=m.1.later bz;have tt:=(bz.block w.heap.size (by omega)).trans m.2.2.1;have Th:=m.2.1.trans (aa.ah (λ_=>False) bz) (λ_ h=>h.elim);have a:=(aH f (aH Th (aH tt OV)));clear f Th tt OV bz;go_quiet (fail);have d:∀k,bW b (b.drewN k):=λk=>below_drewN (bi _ _) k;have ff:=(λk=>aH (a.1.later (d k)) (aH (a.2.1.trans (aa.ah (λ_=>False) (d k)) (λ_ h=>h.elim)) (aH (((d k).block w.heap.size (by omega)).trans a.2.2.1) (((d k).block l.heap.size (by omega)).trans a.2.2.2))));clear a d;rename_i nq _;have a:=(ff nq);have Il:(b.drewN nq).heap.size=b.heap.size:=rfl;clear ff;generalize b.drewN nq=W at*;obtain⟨P,Q,R,T,U,K,L,M,N,O⟩:=wn (aM a.2.2.1) (bG a.2.2.1) (bM a.2.2.1) (fU a.2.2.1) (gH a.2.2.1) (ae a.2.2.1 0) (ae a.2.2.1 1) (ae a.2.2.1 2) (ae a.2.2.1 3) (ae a.2.2.1 4);go_wp2;obtain⟨Cc,qC⟩:=Tg a.2.2.1 (iV 0) (iV 0) (iV 0) (iV 0) (iV 0);generalize ((((W.setCell ⟨w.heap.size,0,none⟩ (.int .i64 0)).setCell ⟨w.heap.size,1,none⟩ (.int .i64 0)).setCell ⟨w.heap.size,2,none⟩ (.int .i64 0)).setCell ⟨w.heap.size,3,none⟩ (.int .i64 0)).setCell ⟨w.heap.size,4,none⟩ (.int .i64 0)=WW at*;obtain⟨D,E,G,H,I⟩:=eQ (aj Cc (j:=0) (u:=(iV 0)) rfl) (aj Cc (j:=1) (u:=(iV 0)) rfl) (aj Cc (j:=2) (u:=(iV 0)) rfl) (aj Cc (j:=3) (u:=(iV 0)) rfl) (aj Cc (j:=4) (u:=(iV 0)) rfl);exact bodyPost_ret (v:= .tuple #[.agg #[(iV 0),iV 0,iV 0,iV 0,(iV 0)],iV 6]) (by simp [results,results54,go_sem,D,E,G,H,I]) rfl ⟨Yy,6,rfl, .inr (.inr ⟨A,λh=>m.2.2.2 h.1,rfl,rfl⟩),a.1.aw qC (λk o e=>by subst e;have:=bq _ o;omega),a.2.1.trans qC (λk e=> .inr (by omega))⟩
end
def gT (blocks:Nat):Nat->Nat->List Int->Option (List Nat×List Int)
 |0,_,l=>some ([],l)
 |n+1,lo,l=>if l.length<4 then none else if lo<=le (l.take 4)/\le (l.take 4)<blocks then (gT blocks n (le (l.take 4)+1) (l.drop 4)).map (λx=>(le (l.take 4) :: x.1,x.2)) else none
def dV:List Nat->List Int->Option (CM×List Int)
 | [],l=>some ([],l)
 |k :: ks,l=>if l.length<512 then none else (dV ks (l.drop 512)).map (λx=>((k,l.take 512) :: x.1,x.2))
def jS:Option (CM×List Int)->Option CM
 |some (cs, [])=>some cs
 |_=>none
def gG (blocks:Nat) (d:List Int):Option CM:=
 if d.length<2 then none else if 1<=le (d.take 2)/\le (d.take 2)<=16 then
  match gT blocks (le (d.take 2)) 0 (d.drop 2) with
  |none=>none
  |some (ks,r)=>jS (dV ks r)
 else none
def oY {blocks:Nat}:∀{n lo:Nat} {l r:List Int} {ks:List Nat},gT blocks n lo l=some (ks,r)->ks.length=n/\∀k∈ks,k<blocks
 |0,lo,l,r,ks,h=>by
  simp only [gT,Option.some.injEq,Prod.mk.injEq] at h;obtain⟨rfl,_⟩:=h;simp
 |n+1,lo,l,r,ks,h=>by
  unfold gT at h;split at h
  .cases h
  .split at h
   .rename_i e;cases b:gT blocks n (le (l.take 4)+1) (l.drop 4) with
    |none=>rw [b] at h;cases h
    |some x=>
     rw [b] at h;simp only [Option.map_some,Option.some.injEq,Prod.mk.injEq] at h;obtain⟨rfl,rfl⟩:=h;obtain⟨c,d⟩:=oY (ks:=x.1) (r:=x.2) b;refine⟨by simp [c],λk a=>?_⟩;rcases List.mem_cons.1 a with rfl|a
     .exact e.2
     .exact d k a
   .cases h
def aeN {S:Nat} (h:i<S) (a:i<k):S-k<S-i:=by omega
def qJ (blocks n lo:Nat) (l:List Int):gT blocks (n+1) lo l=if l.length<4 then none else if lo<=le (l.take 4)/\le (l.take 4)<blocks then (gT blocks n (le (l.take 4)+1) (l.drop 4)).map (λx=>(le (l.take 4) :: x.1,x.2)) else none:=rfl
def jB (k:Nat) (ks:List Nat) (l:List Int):dV (k :: ks) l=if l.length<512 then none else (dV ks (l.drop 512)).map (λx=>((k,l.take 512) :: x.1,x.2)):=rfl
def OW (ms cs:CM) (k:Nat) (c:List Int):CM.bU ms (cs ++ [(k,c)])=CM.put (CM.bU ms cs) k c:=by
 unfold CM.bU;rw [List.foldl_append];rfl
def nh:List Nat->List Int->CM
 | [],_=> []
 |k :: ks,r=>(k,r.take 512) :: nh ks (r.drop 512)
def uJ:∀(ks:List Nat) (r:List Int),(nh ks r).length=ks.length
 | [],_=>rfl
 |k :: ks,r=>by simp [nh,uJ ks]
def Dq (k:Nat):∀(ks:List Nat) (r:List Int),nh (ks ++ [k]) r=nh ks r ++ [(k,(r.drop (512*ks.length)).take 512)]
 | [],r=>by simp [nh]
 |x :: ks,r=>by
  rw [List.cons_append,nh,nh,Dq k ks,List.cons_append,List.drop_drop,List.length_cons,show 512+512*ks.length=512*(ks.length+1) by omega]
def tu:∀(ks:List Nat) (r:List Int),512*ks.length<=r.length->dV ks r=some (nh ks r,r.drop (512*ks.length))
 | [],r,_=>rfl
 |k :: ks,r,h=>by
  rw [List.length_cons] at h;rw [jB,aB (by omega),tu ks (r.drop 512) (by rw [List.length_drop];omega),List.drop_drop,List.length_cons,show 512+512*ks.length=512*(ks.length+1) by omega];rfl
def uK:∀(ks:List Nat) (r:List Int),r.length<512*ks.length->dV ks r=none
 | [],r,h=>by simp at h
 |k :: ks,r,h=>by
  rw [List.length_cons] at h;rw [jB];split
  .rfl
  .rw [uK ks (r.drop 512) (by rw [List.length_drop];omega)];rfl
def Lf {r:List Int} (h:r.length=512*ks.length):jS (dV ks r)=some (nh ks r):=by
 rw [tu ks r (by omega),List.drop_eq_nil_of_le (by omega)];rfl
def OX {r:List Int} (h:r.length≠512*ks.length):jS (dV ks r)=none:=by
 by_cases a:r.length<512*ks.length
 .rw [uK ks r a];rfl
 .rw [tu ks r (by omega)];have:0<(r.drop (512*ks.length)).length:=by rw [List.length_drop];omega
  cases hd:r.drop (512*ks.length) with
  |nil=>rw [hd] at this;simp at this
  |cons x xs=>rfl
def xq {blocks:Nat}:∀{n lo:Nat} {l r:List Int} {ks:List Nat},gT blocks n lo l=some (ks,r)->4*n<=l.length/\r=l.drop (4*n)
 |0,lo,l,r,ks,h=>by
  simp only [gT,Option.some.injEq,Prod.mk.injEq] at h;exact⟨by omega,by rw [<-h.2];rfl⟩
 |n+1,lo,l,r,ks,h=>by
  rw [qJ] at h;split at h
  .cases h
  .split at h
   .cases a:gT blocks n (le (l.take 4)+1) (l.drop 4) with
    |none=>rw [a] at h;cases h
    |some x=>
     rw [a] at h;simp only [Option.map_some,Option.some.injEq,Prod.mk.injEq] at h;obtain⟨rfl,rfl⟩:=h;obtain⟨b,c⟩:=xq (ks:=x.1) (r:=x.2) a;rw [List.length_drop] at b;refine⟨by omega,?_⟩;rw [c,List.drop_drop];congr 1;omega
   .cases h
def ly (blocks:Nat) (d:List Int) (c:Nat) (ks:List Nat) (lo i:Nat):Option CM:=
 match gT blocks (c-i) lo (d.drop (2+4*i)) with
 |none=>none
 |some (js,r)=>jS (dV (ks ++ js) r)
def uL (h:d.length<2\/¬(1<=le (d.take 2)/\le (d.take 2)<=16)\/d.length≠2+516*le (d.take 2)):gG blocks d=none:=by
 unfold gG;by_cases a:d.length<2
 .rw [aG a]
 .rw [aB a];by_cases b:1<=le (d.take 2)/\le (d.take 2)<=16
  .rw [aG b];cases c:gT blocks (le (d.take 2)) 0 (d.drop 2) with
   |none=>rfl
   |some x=>
    obtain⟨ks,r⟩:=x;obtain⟨e,f⟩:=xq c;have g:=(oY c).1;rw [List.length_drop] at e;show jS (dV ks r)=none;refine OX ?_;rw [f,g,List.length_drop,List.length_drop];omega
  .rw [aB b]
def AJ (h0:¬d.length<2) (a:1<=le (d.take 2)/\le (d.take 2)<=16):gG blocks d=ly blocks d (le (d.take 2)) [] 0 0:=by
 unfold gG ly;rw [aB h0,aG a];rfl
def AK {lo:Nat} (a:ks.length=c) (hd:d.length=2+516*c):ly blocks d c ks lo c=some (nh ks (d.drop (2+4*c))):=by
 unfold ly;rw [Nat.sub_self];show jS (dV (ks ++ []) (d.drop (2+4*c)))=_;rw [List.append_nil];exact Lf (by rw [List.length_drop];omega)
def xr {lo:Nat} (a:i<c) (hd:d.length=2+516*c):
  ly blocks d c ks lo i=if lo<=le ((d.drop (2+4*i)).take 4)/\le ((d.drop (2+4*i)).take 4)<blocks then ly blocks d c (ks ++ [le ((d.drop (2+4*i)).take 4)]) (le ((d.drop (2+4*i)).take 4)+1) (i+1) else none:=by
 unfold ly;rw [show c-i=(c-(i+1))+1 by omega,qJ,aB (by rw [List.length_drop];omega),List.drop_drop,show 2+4*i+4=2+4*(i+1) by omega];generalize le ((d.drop (2+4*i)).take 4)=K;by_cases h:lo<=K/\K<blocks
 .rw [aG h,aG h];cases gT blocks (c-(i+1)) (K+1) (d.drop (2+4*(i+1))) with
  |none=>rfl
  |some x=>
   show jS (dV (ks ++ K :: x.1) x.2)=jS (dV ((ks ++ [K]) ++ x.1) x.2);rw [rG];rfl
 .rw [aB h,aB h]
def xu:∀{ks:List Nat} {l r:List Int} {cs:CM},dV ks l=some (cs,r)->∀x∈cs,x.1∈ks
 | [],l,r,cs,h=>by
  simp only [dV,Option.some.injEq,Prod.mk.injEq] at h;obtain⟨rfl,_⟩:=h;simp
 |k :: ks,l,r,cs,h=>by
  rw [jB] at h;split at h
  .cases h
  .cases a:dV ks (l.drop 512) with
   |none=>rw [a] at h;cases h
   |some x=>
    rw [a] at h;simp only [Option.map_some,Option.some.injEq,Prod.mk.injEq] at h;obtain⟨rfl,rfl⟩:=h;intro z b;rcases List.mem_cons.1 b with rfl|b
    .simp
    .exact List.mem_cons_of_mem _ (xu (cs:=x.1) (r:=x.2) a z b)
def oZ (h:gG blocks d=some cs):∀x∈cs,x.1<blocks:=by
 unfold gG at h;split at h
 .cases h
 .split at h
  .split at h
   .cases h
   .rename_i ks r c;cases b:dV ks r with
    |none=>rw [b] at h;cases h
    |some x=>
     obtain⟨g,f⟩:=x;rw [b] at h;cases f with
     |nil=>
      simp only [jS,Option.some.injEq] at h;subst h;intro z e;exact(oY c).2 _ (xu b z e)
     |cons a t=>cases h
  .cases h
section
open Go.RowKit Go.Shelf
attribute [local go_sem] Oper.semAt_some
def Lg (a:Option Addr) (n c:Nat) (w:World):
  Calls prog 197 #[.slice a n c,iV 4] w λe w'=>e= .returned (.func (.func 228) #[] #[pQ w.heap.size, .pointer (some ⟨w.heap.size+1,0,none⟩)])/\w'=(w.alloc (.cells #[.slice a n c] 36)).alloc (.cells #[.int .i64 4] 3):=by
 go_in;go_wp2;go_ret;exact⟨rfl,rfl⟩
def ni (n k:Nat):Nat:=min 4 (n-4*k)
def MY (b o n q:Nat) (x:Fin q):Array Value:= #[.slice (some ⟨b,o+4*x.1,none⟩) (ni n x.1) (ni n x.1)]
set_option maxRecDepth 100000 in
def OY (m:Nat) (U:1<=m) (l f d b o n c q:Nat) (ln:1<=n) (X:n<=64) (S:n<=c) (E:q=(n+3) / 4) (J A:List (Fin q)->World->Prop)
    (C:∀a (x:Fin q) W,J a W->a.length<q->YieldAt Fence.wide (m-1) prog l (MY b o n q x) W λe W'=>
     (e= .returned (.bool true)/\J (a ++ [x]) W'/\vC f d W W')\/(e= .returned (.bool false)/\A (a ++ [x]) W'))
    (W:World) (Km:W.heap[f]? =some (.cells #[.slice (some ⟨b,o,none⟩) n c] 36 (0,0))) (RA:W.heap[d]? =some (.cells #[.int .i64 4] 3 (0,0))) (s:AbidesFrom W.heap.size J) (h0:J [] W):
  CallsIn Fence.wide m prog 228 #[.func (.yield l) #[] #[],pQ f,pQ d] W λe W'=>(∃v,e= .returned v)/\
     ((∃ys,ug ys q/\J ys W')\/(∃a,(∃k,k<q/\ug a (k+1))/\A a W')):=by
 have P:=yh E;have M:n<=4*q/\4*q<n+4:=by omega
 clear E;refine callsIn_of_wp func228 rfl trivial ?_ rfl;simp only [ntmps228,List.size_toArray,List.length_cons,List.length_nil,Nat.reduceAdd,Nat.reduceSub,Array.replicate_succ,Array.replicate_zero,List.push_toArray,List.append_toArray,List.nil_append,List.cons_append]
 gi_wp2
 gi_loopw [4] (λi wr=>∃(k:Nat) (a:List (Fin q)),k<=q/\i=iV ((4*k:Nat):Int)/\ug a k/\J a wr/\vC f d W wr)
    (λi _=>4*q-(intOf i).toNat)
 case atStart=>exact⟨0, [],dL _,rfl,ug.nil,h0,vC.refl _ _ _⟩
 case round=>
  obtain⟨k,a,T,rfl,l8,UK,fb⟩:=hrel;have D:a.length=k:=l8.length;have el:=aM (fb.1.trans Km);have pk:=aM (fb.2.trans RA);by_cases bq:k<q
  .have g:J a wr.drew:=s a wr wr.drew none UK ⟨rfl,rfl,rfl,bR _,λ_ _ _=>rfl⟩ (λr e=>by cases e);obtain⟨R,F,j,body,u,ZJ⟩:=C a ⟨k,bq⟩ wr.drew g (by omega);have UL:prog.follows .mixedOrders=true:=by kernel_rfl
   dsimp only [MY] at u
   have yK:ni n k=min 4 (n-4*k):=rfl;obtain⟨I,p⟩:=bP (4*k);rw [<-p] at u yK⊢;have L:I<n:=(by omega);obtain⟨z,w⟩:=bP (ni n k);rw [<-w] at u yK;have Zs:min (4:Int) ((n-I:Nat):Int)=(z:Int):=(by omega);have PJ:((I:Int)+(z:Int)).toNat-I=z:=(by omega);have cC:(I:Int)<(n:Int):=(by omega);have K:(I:Int)<(c:Int):=(by omega);have P0:(n:Int)<=(c:Int):=(by omega);have N:(I:Int)+(z:Int)<=(n:Int):=(by omega);have dE:(1:Int)<=(z:Int):=(by omega);obtain⟨y,Q⟩:=bV p w;clear p w yK;have ZP:=sM ZJ;have G:=yh fb;have O:=yh s;have RB:=yh l8;clear ZJ C UK g fb s l8
   gi_wp2
   gi_region_with_o (fail)
   all_goals
    gi_wp2_with fail
    refine ZP.mono ?_;rintro e H ⟨r,rfl,mt,fB⟩;obtain⟨zI,xK⟩:=bV mt fB;clear mt fB;cases r
    .gi_wp2
     refine bodyPost_ret (results_none rfl _ _ _) rfl ?_;exact⟨⟨_,rfl⟩, .inr ⟨_,⟨k,bq,RB.o.snoc bq⟩,xK.o (by simp)⟩⟩
    .have aZ:vC f d W H:=G.o.t (vC.t (B:=wr.drew) ⟨rfl,rfl⟩ (zI.o rfl).2);have Qm:=aM (aZ.2.trans RA);have lW:=yh aZ;clear aZ
     gi_wp2
     go_roundw;case rel=>exact⟨k+1,_,by omega,by rw [y.o];go_num,RB.o.snoc bq,(zI.o (by simp)).1,lW.o⟩
     case measure=>have:=y.o;simp [intOf];omega
  .have ZQ:=yh (show k=q by omega);have wK:¬((4*k:Nat):Int)<(n:Int):=by omega
   gi_wp2
   go_end0
   exact⟨⟨_,rfl⟩, .inl ⟨a,(by rw [ZQ.out] at l8;exact l8),UK⟩⟩
def EU (m:Nat) (r:1<=m) (d a b o n c q:Nat) (ln:1<=n) (s:n<=64) (p:n<=c) (t:q=(n+3) / 4) (w:World)
    (Km:w.heap[d]? =some (.cells #[.slice (some ⟨b,o,none⟩) n c] 36 (0,0))) (RA:w.heap[a]? =some (.cells #[.int .i64 4] 3 (0,0))):
  SeqStopsK Fence.wide m prog 228 #[pQ d,pQ a] (MY b o n q) (vC d a) (λu=>ug u q) (λe=>∃k,k<q/\ug e (k+1)) q w:=
 λl J g W f i _ j h0=>OY m r l d a b o n c q ln s p t J g j W ((f.block _ (aq Km)).trans Km) ((f.block _ (aq RA)).trans RA) i h0
end
section
open Go.RowKit Go.Shelf
attribute [local go_sem] Oper.semAt_some
def fJ (d:List Int) (i:Nat):Nat:=le ((d.drop (2+4*i)).take 4)
structure PtI (w W:World) (n0:Nat) (ns:List Nat):Prop where
 bx:∃v,W.heap[w.heap.size]? =some (.cells #[v] 23 (0,0))/\W.ownsRow n0 3 1 v ns.length (wu ns)
 kp:Below w.heap.size w W
 sz:n0<=W.heap.size
def PtI.grown {W':World} {c:Nat} {ns:List Nat} {row:Option Nat} (h:PtI w W c ns) (s:w.heap.size<c) (b:W.grownBy W' row) (n:∀r,row=some r->c<=r/\∃o:Obj,W.heap[r]? =some o/\o.isCells=false):PtI w W' c ns:=by
 obtain⟨⟨v,d,i⟩,l,p⟩:=h;have dM:∀k cur t f,W.heap[k]? =some (.cells cur t f)->some k≠row:=λk cur t f q e=>by
  obtain⟨_,o,m,a⟩:=n k e.symm;rw [q] at m;cases m;cases a
 refine⟨⟨v,(b.block _ (aq d) (dM _ _ _ _ d)).trans d,mK i (λg CB=>?_)⟩,l.grown b l.size (λj e=>by have:=(n j e).1;omega),k9 p b.size⟩;obtain⟨cur,a⟩:=bB i CB;exact b.block g (aq a) (dM _ _ _ _ a)
def uM {P:Program} {b:Array Oper} {l:Nat} {f:Nat} {a:Act} {K:Act->World->Prop} {S:World->Prop} {Q:Exit->Act->World->Prop} (d:P.follows .mixedOrders=true) (hd:uk b=true) (h:wpAnyH P .any b (Exit.then K (λ_ _ _=>False)) S b.size (Array.replicate b.size false) a w.drew) (c:∀a w,K a w->Q .normal a w):
    (Code.region f b true).wpIn (Fence.wide.inRound l) n P Q a w:=
 wpIn_mono (wpIn_region_any d (sN hd (λ⟨_,_,h⟩=>h) _ _ _ _ (wpAny_of_held _ _ _ _ h))) (λe a w h=>by cases e <;> first|exact c _ _ h|exact h.elim)
def W8 {B:Nat} {b:List Value} (be:W.ownsRow B 3 1 v k b) (x:Int) (p:k<=1000000) (o:B<=W.heap.size):
  ∃g a w',(Builtin.append_ #[23,23] 23 #[v, .slice (some ⟨W.heap.size,0,none⟩) 1 1]).run prog (W.alloc (.cells #[.int .i64 x] 3))= .ok (.slice (some ⟨g,0,none⟩) (k+1) a) w'/\w'.ownsRow B 3 1 (.slice (some ⟨g,0,none⟩) (k+1) a) (k+1) (b ++ [.int .i64 x])/\(W.alloc (.cells #[.int .i64 x] 3)).grownBy w' v.ownBlock/\(v.ownBlock=some g\/g=W.heap.size+1):=by
 obtain⟨n,m,gC,dE,em⟩:=info_parts DH;obtain⟨g,a,w',c,d,f,i,_⟩:=run_append_lies (P:=prog) (W.alloc (.cells #[.int .i64 x] 3)) 23 23 B 3 n (.int .i64 0) 1 8 underlying23 m gC dE em rfl (by decide) v k b (dS be (λg l=>by
   obtain⟨cur,j⟩:=bB be l;exact Below.heap_alloc _ _ _ (aq j))) ⟨W.heap.size,0,none⟩ 1 1 [.int .i64 x] rfl (World.news_of_block (cs:= #[.int .i64 x]) (t:=3) (fr:=(0,0)) (heap_alloc_new W _)) (by simp [Value.oneCell']) (by omega) (by unfold maxLen;omega) (by omega) (by simp;omega) _ rfl
 exact⟨g,a,w',c,d,f,i.imp (λe=>e) (λe=>e.trans (by simp))⟩
def o7 {d:Func} {p q r:Tmp} (h:d.results= #[.cell p 23, .tmp q, .tmp r]) (b:Array Value) (w:World) (g:Nat) (a:Option Addr) (n c:Nat) (u v:Value)
    (f:b.getD p undef= .pointer (some ⟨g,0,none⟩)) (i:b.getD q undef=u) (j:b.getD r undef=v) (k:w.cell? ⟨g,0,none⟩=some (.slice a n c)):(results d b).run prog w= .ok (.tuple #[.slice a n c,u,v]) w:=by
 have Zm:b[p]?.getD undef= .pointer (some ⟨g,0,none⟩):=by simpa using f
 have XS:b[q]?.getD undef=u:=by simpa using i
 have BR:b[r]?.getD undef=v:=by simpa using j
 have e:(loadVar 23 ⟨g,0,none⟩).run prog w= .ok (.slice a n c) w:=by simp [go_sem,k]
 simp [results,h,Zm,XS,BR,asAddr,e]
def Im (a:Option Addr) (n c:Nat) (w:World) (j:n<2):
  Calls prog 157 #[.slice a n c] w λe w'=>e= .returned (.tuple #[.slice none 0 0, .slice none 0 0, .bool false])/\Below w.heap.size w w':=by
 have i:(n:Int)<2:=by omega
 have f:=aJ w (.cells #[.slice none 0 0] 23);have ir:=heap_alloc_new w (.cells #[.slice none 0 0] 23);have d:=aM ir;have g:=ae ir 0;have b:=(aH d f);go_in;go_wp2;refine bodyPost_ret (o7 rfl _ _ w.heap.size none 0 0 (.slice none 0 0) (.bool false) rfl rfl rfl b.1) rfl ⟨rfl,b.2⟩
def OZ (b o n c:Nat) (d:List Int) (w:World) (f:Src w (some ⟨b,o,none⟩) n d) (hd:Bytes d) (l:2<=n) (P0:n<=c) (UY:n<=1000000) (D7:¬(1<=le (d.take 2)/\le (d.take 2)<=16)\/n≠2+516*le (d.take 2)):
  Calls prog 157 #[.slice (some ⟨b,o,none⟩) n c] w λe w'=>e= .returned (.tuple #[.slice none 0 0, .slice none 0 0, .bool false])/\Below w.heap.size w w':=by
 have r:¬(n:Int)<2:=by omega
 have qV:=f.1;have a:=aJ w (.cells #[.slice none 0 0] 23);have ir:=heap_alloc_new w (.cells #[.slice none 0 0] 23);have k:=aM ir;have p:=ae ir 0;have i:=(aH k a);have br:=(f.sub 0 2 (by omega)).later a;rw [List.drop_zero,Nat.add_zero] at br;have j:=sU b o 2 c (d.take 2) _ br (hd.take 2) (by omega);obtain⟨eu,sZ⟩:=bP (le (d.take 2));have aqE:eu<65536:=by
  rw [sZ];have:=lE (hd.take 2);have e:(d.take 2).length=2:=by simp;omega
  rw [e] at this;exact this
 rw [<-sZ] at j D7;have BP:(2:Int)<=(c:Int):=by omega
 have g:((eu:Int)<1)\/(¬(eu:Int)<1/\(16:Int)<(eu:Int))\/(¬(eu:Int)<1/\¬(16:Int)<(eu:Int)/\((n:Int) != 2+(eu:Int)*4+(eu:Int)*512)=true):=by
  rw [gg];omega
 clear a ir br sZ f hd qV D7 l;rcases g with q|⟨q,m⟩|⟨q,m,s⟩;all_goals
  go_in;go_wp2_with fail;refine bJ j λw1 bT=>?_;subst bT;go_wp2;refine bodyPost_ret (o7 rfl _ _ w.heap.size none 0 0 (.slice none 0 0) (.bool false) rfl rfl rfl i.1) rfl ⟨rfl,i.2⟩
set_option maxRecDepth 100000 in
def Ti (b o n c eu:Nat) (d:List Int) (w:World) (Z:Src w (some ⟨b,o,none⟩) n d) (hd:Bytes d) (P0:n<=c) (hc6:c<=9223372036854775807) (sZ:le (d.take 2)=eu) (h1:1<=eu) (UV:eu<=16) (Y:n=2+516*eu):
  Calls prog 157 #[.slice (some ⟨b,o,none⟩) n c] w λe w'=>∃g a cc,e= .returned (.tuple #[.slice (some ⟨g,0,none⟩) eu a, .slice (some ⟨b,o+(2+4*eu),none⟩) (512*eu) cc, .bool true])/\512*eu<=cc/\w.heap.size<=g/\ay w' 3 g a (wu ((List.range eu).map (fJ d)))/\Below w.heap.size w w':=by
 have g1:¬(n:Int)<2:=by omega
 have qV:=Z.1;have U:=aJ w (.cells #[.slice none 0 0] 23);have ir:=heap_alloc_new w (.cells #[.slice none 0 0] 23);obtain⟨E,Lh⟩:=bP (w.alloc (.cells #[.slice none 0 0] 23));have dE:E.heap.size=w.heap.size+1:=by rw [Lh,World.size_alloc]
 rw [<-Lh] at U ir;have br:=(Z.sub 0 2 (by omega)).later U;rw [List.drop_zero,Nat.add_zero] at br;have k1:=sU b o 2 c (d.take 2) _ br (hd.take 2) (by omega);rw [sZ] at k1;have g2:(2:Int)<=(c:Int):=by omega
 have q1:¬(eu:Int)<1:=by omega
 have q2:¬(16:Int)<(eu:Int):=by omega
 have q3:((n:Int) != 2+(eu:Int)*4+(eu:Int)*512)=false:=by
  rw [bne_eq_false_iff_eq];omega
 obtain⟨HH,HW,r,HS⟩:=BH (aH U ir) Lh (aH Y sZ) (aH Z hd);clear U ir br sZ Z hd qV Y Lh;refine(callsIn_wide (n:=6)).1 ?_;refine callsIn_of_wp_marks func157 rfl trivial ?_ rfl;simp only [ntmps157,List.size_toArray,List.length_cons,List.length_nil,Nat.reduceAdd,Nat.reduceSub,Array.replicate_succ,Array.replicate_zero,List.push_toArray,List.append_toArray,List.nil_append,List.cons_append];refine(wpIn_wide (n:=6)).2 ?_;go_wp2_with fail;rw [<-HW.o];refine k1.mono ?_;rintro e w1 ⟨rfl,bT⟩;have jR:=bT.symm;subst jR;clear bT k1;obtain⟨fr,wV⟩:∃fr:Nat,fr=2+4*eu:=⟨_,rfl⟩;have L:(2:Int)+(eu:Int)*4=(fr:Int):=by omega
 have e2:(2:Int)<=(fr:Int):=by omega
 have e3:(fr:Int)<=(c:Int):=by have:=r.o.1;omega
 have e4:(2:Int)<(c:Int):=by have:=r.o.1;omega
 rw [L] at q3;have MJ:=yh wV;clear wV;go_wp2_with fail;obtain⟨m,u⟩:=bP (fr-2);obtain⟨A,Qs⟩:=bP (c-2);rw [<-u,<-Qs];have HX:=yh (aH u Qs);have M:m=4*eu:=by have:=MJ.o;omega
 have Z4:m<=A:=by have:=MJ.o;have:=r.o.1;omega
 have Yz:=yh M;clear u Qs M;refine(Lg (some ⟨b,o+2,none⟩) m A E).mono ?_;rintro e p ⟨rfl,pA⟩;go_wp2_with fail;refine(wpIn_wide (n:=6)).1 ?_;have eJ:Below E.heap.size E p:=by rw [pA];exact gZ _ _ _
 have vt:p.heap.size=w.heap.size+3:=by rw [pA];simp;omega
 have EC:p.heap[w.heap.size+1]? =some (.cells #[.slice (some ⟨b,o+2,none⟩) m A] 36 (0,0)):=by
  rw [pA,<-dE];exact(Below.heap_alloc _ _ _ (by simp)).trans (heap_alloc_new _ _)
 have Bz:p.heap[w.heap.size+1+1]? =some (.cells #[.int .i64 4] 3 (0,0)):=by
  rw [pA,<-dE];have:=heap_alloc_new (E.alloc (.cells #[.slice (some ⟨b,o+2,none⟩) m A] 36)) (.cells #[.int .i64 4] 3);rwa [World.size_alloc] at this
 rw [<-pA];clear pA;have rK:=HH.o.1.trans (eJ.mono HH.o.1.size);have aad:=rK.size;have hI0:PtI w p p.heap.size ([]:List Nat):=⟨⟨.slice none 0 0,(eJ.block _ (by omega)).trans HH.o.2,World.ownsRow_nil _ _ _ _⟩,rK,bR _⟩;refine wpIn_rangeFunc_ownH rfl (by omega) (gf:=228) (lb:= #[.pointer (some ⟨w.heap.size+1,0,none⟩), .pointer (some ⟨w.heap.size+1+1,0,none⟩)]) rfl trivial (enters_of func228 (by kernel_rfl) rfl)
    (EU (6-1) (by omega) (w.heap.size+1) (w.heap.size+1+1) b (o+2) m A eu (by have:=Yz.o;omega) (by have:=Yz.o;omega) Z4 (by have:=Yz.o;omega) p EC Bz) vC.t (vC.b (by omega) (by omega)) (bi _ _) (λ_=>rfl)
    (λl W=>PtI w W p.heap.size (l.map (λx:Fin eu=>fJ d x.1)))
    (λ_ _ _=>False)
  ?hI ?hIx hI0
    (λy a' _=>a'={tmps:= #[.slice (some ⟨b,o,none⟩) n c,undef, .pointer (some ⟨w.heap.size,0,none⟩), .slice none 0 0, .bool false, .int .i64 (eu:Int), .int .i64 (fr:Int), .slice (some ⟨b,o+2+4*y.1,none⟩) (ni m y.1) (ni m y.1), .slice (some ⟨b,o,none⟩) n c, .int .i64 (n:Int), .bool false, .slice (some ⟨b,o,none⟩) n c, .slice (some ⟨b,o,none⟩) 2 c, .int .i64 (eu:Int), .int .i64 (eu:Int), .int .i64 ((eu:Int)*4), .int .i64 (fr:Int), .int .i64 (eu:Int), .bool (decide ((eu:Int)<1)), .bool (decide ((eu:Int)<1)), .int .i64 (eu:Int), .bool (decide ((16:Int)<(eu:Int))), .bool (decide ((eu:Int)<1) || decide ((16:Int)<(eu:Int))), .bool (decide ((eu:Int)<1) || decide ((16:Int)<(eu:Int))), .slice (some ⟨b,o,none⟩) n c, .int .i64 (n:Int), .int .i64 (fr:Int), .int .i64 (eu:Int), .int .i64 ((eu:Int)*512), .int .i64 ((fr:Int)+(eu:Int)*512), .bool false, .bool (decide ((eu:Int)<1) || decide ((16:Int)<(eu:Int))), .slice (some ⟨b,o,none⟩) n c, .int .i64 (fr:Int), .slice (some ⟨b,o+2,none⟩) m A, .func (.func 228) #[] #[.pointer (some ⟨w.heap.size+1,0,none⟩), .pointer (some ⟨w.heap.size+1+1,0,none⟩)], .slice (some ⟨b,o+2+4*y.1,none⟩) (ni m y.1) (ni m y.1),undef,undef,undef,undef,undef,undef,undef,undef,undef],defers:= []}) ?hAx ?assign ?body ?done ?stop
 case hI=>exact λ_ _ _ _ h hg hr=>h.grown (by omega) hg hr
 case hIx=>exact λ_ _ _ _ _ h _ _=>h.elim
 case hAx=>exact λ_ _ _ _ _ _ h _ _=>h
 case assign=>
  intro l' l y W K hI f;simp only [MY]
  gi_wp2
  exact f _ _ (KeepsFrom.refl _ _) (vC.refl _ _ _) hI rfl
 case body=>
  rintro l' l y a' W UB ⟨rr,Jl⟩ hI rfl bq;obtain⟨⟨v,ir,aA⟩,fb,eM⟩:=hI;have hy:=y.2;have UL:prog.follows .mixedOrders=true:=by kernel_rfl
  have yK:ni m y.1=4:=by unfold ni;have:=Yz.o;omega
  have Yj:Src W (some ⟨b,o+2+4*y.1,none⟩) 4 ((d.drop (2+4*y.1)).take 4):=by
   have:=(HS.o.1.sub (2+4*y.1) 4 (by have:=r.o.1;omega)).later (fb.mono (bR _));rwa [<-Nat.add_assoc] at this
  have N:Bytes ((d.drop (2+4*y.1)).take 4):=(HS.o.2.drop _).take 4;have fh:=sU b (o+2+4*y.1) 4 4 _ W.drew (Yj.later (ai (bi _ _))) N (by omega);have G1:(l ++ [y]).map (λx:Fin eu=>fJ d x.1)=l.map (λx:Fin eu=>fJ d x.1) ++ [fJ d y.1]:=by simp
  have hx:le ((d.drop (2+4*y.1)).take 4)=fJ d y.1:=rfl;rw [hx] at fh;have P:(l.map (λx:Fin eu=>fJ d x.1)).length<=1000000:=by rw [jF];omega
  generalize hX:fJ d y.1=X at fh G1;generalize hNs:l.map (λx:Fin eu=>fJ d x.1)=ns at G1 P aA;obtain⟨g,a,W5,bI,BT,GF,Wz⟩:=W8 (W:=W.drew) aA (X:Int) P eM;have gN:=aJ W.drew (.cells #[.int .i64 (X:Int)] 3);have T:(W.drew.alloc (.cells #[.int .i64 (X:Int)] 3)).heap.size=W.heap.size+1:=by simp
  have oo:∀k,v.ownBlock=some k->p.heap.size<=k:=λk e=>(aA.lt k e).1;have cU:∀k,v.ownBlock=some k->∃cur,W.heap[k]? =some (.cells cur 3 (0,0)):=λk e=>bB aA e;have aV:∀k,k<W.heap.size->¬v.ownBlock=some k->W5.heap[k]? =W.heap[k]? :=λk h1 H=>(GF.block k (by rw [T];omega) (λe=>H e.symm)).trans (gN.block k h1);have pT:W.heap.size+1<=W5.heap.size:=by have:=GF.size;rw [T] at this;exact this
  have R:=aq ir;have Vx:¬v.ownBlock=some w.heap.size:=λe=>by have:=oo _ e;omega
  have W9:=(aV _ R Vx).trans ir;have s0:W.drew.cell? ⟨w.heap.size,0,none⟩=some v:=aj (w:=W) ir (j:=0) rfl;have s1:(W.drew.alloc (.cells #[.int .i64 (X:Int)] 3)).cell? ⟨w.heap.size,0,none⟩=some v:=aM ((gN.block _ R).trans ir);have s5:W5.cell? ⟨w.heap.size,0,none⟩=some v:=aM W9;have f5:W5.frozen? ⟨w.heap.size,0,none⟩=false:=ae W9 0;have ez:=aL (F:=λk=>k=w.heap.size) W5 rfl 0 (.slice (some ⟨g,0,none⟩) (ns.length+1) a);have fd:Below w.heap.size w W5:=⟨(GF.os.trans gN.os).trans fb.os,(GF.tape.trans gN.tape).trans fb.tape,(GF.output.trans gN.output).trans fb.output,by have:=fb.size;omega,λk hk=>(aV k (by have:=fb.size;omega) (λe=>by have:=oo k e;omega)).trans (fb.block k hk)⟩;have HE:Yh (KeepsFrom p.heap.size W (W5.setCell ⟨w.heap.size,0,none⟩ (.slice (some ⟨g,0,none⟩) (ns.length+1) a))/\vC (w.heap.size+1) (w.heap.size+1+1) W (W5.setCell ⟨w.heap.size,0,none⟩ (.slice (some ⟨g,0,none⟩) (ns.length+1) a))/\PtI w (W5.setCell ⟨w.heap.size,0,none⟩ (.slice (some ⟨g,0,none⟩) (ns.length+1) a)) p.heap.size (ns ++ [X])):=by
   have dX:KeepsFrom p.heap.size W W5:=⟨by omega,λk ob h1 H h3=>(aV k (aq H) (λe=>by
    obtain⟨cur,J⟩:=cU k e;rw [J] at H;cases H;cases h3)).trans H⟩
   refine⟨dX.trans ((KeepsOthers.setCell _ _ _).from _),⟨(ez.block _ (by omega) (by omega)).trans (aV _ (by omega) (λe=>by have:=oo _ e;omega)),(ez.block _ (by omega) (by omega)).trans (aV _ (by omega) (λe=>by have:=oo _ e;omega))⟩,⟨⟨.slice (some ⟨g,0,none⟩) (ns.length+1) a,(heap_setCell_same _ _ 0 _ _ _ W9).trans (by simp),?_⟩,fd.trans (ez.below (λk e=>by omega) fd.size),by have:=ez.size;omega⟩⟩;have L:(ns ++ [X]).length=ns.length+1:=(by simp);have e2:wu (ns ++ [X])=wu ns ++ [.int .i64 (X:Int)]:=(by simp [wu]);rw [L,e2];refine mK BT (λk e=>ez.block k ?_ ?_)
   .obtain⟨cur,J⟩:=bB BT e;exact aq J
   .intro e2;have h8:g=k:=(by simpa [Value.ownBlock] using e);rcases Wz with I|I
    .have:=oo _ I;omega
    .have Zl:g=W.heap.size+1:=I;omega
  rw [yK];have HMp:=yh G1;clear G1 Yj N aA ir fb fd ez aV cU oo gN BT GF Wz W9
  gi_wp2_with fail
  have nQ:=yh bI;have s2:(W.alloc (.cells #[.int .i64 (X:Int)] 3)).drew.cell? ⟨w.heap.size,0,none⟩=some v:=s1;clear bI;refine uM (S:=λ_=>True) (K:=λ_ W'=>W'=W5.setCell ⟨w.heap.size,0,none⟩ (.slice (some ⟨g,0,none⟩) (ns.length+1) a)) UL (by kernel_rfl) ?_ (λa1 w1 L=>by rw [L];exact⟨HE.o.1,HE.o.2.1,by have I:=HE.o.2.2;rw [<-HMp.o] at I;exact I⟩);refine wpAnyH_take (i:=1) (v:= .slice (some ⟨b,o+2+4*y.1,none⟩) 4 4) rfl (by kernel_rfl) (by kernel_rfl) (by kernel_rfl) (λ_ _ _ h=>h) (Or.inl ⟨by rfl,?_⟩) trivial ?_
  .intro E hS;go_simp
  try simp only [Act.put,jX]
  refine wpAnyH_ready (rs:= [0,2]) (by kernel_rfl) (by simp) (AllReadyH.cons rfl (λK f=>?_) (AllReadyH.cons rfl (λK f=>?_) AllReadyH.nil))
  .skip
   go_simp;refine f.out _ _ trivial (λ_=>?_);clear f K;try simp only [Act.put,jX,ld,lT]
   refine wpAnyH_ready (rs:= [2]) (by kernel_rfl) (by simp) (AllReadyH.cons rfl (λK f=>?_) AllReadyH.nil);go_simp;refine fh.mono ?_;rintro e W2 ⟨rfl,dN⟩;have K3:=dN.symm;subst K3;refine f.out _ _ trivial (λ_=>?_);clear f K;try simp only [Act.put,jX,ld,lT]
   refine wpAnyH_ready (rs:= [3]) (by kernel_rfl) (by simp) (AllReadyH.cons rfl (λK f=>?_) AllReadyH.nil);go_simp;refine f.out _ _ trivial (λ_=>?_);clear f K;try simp only [Act.put,jX,ld,lT]
   refine wpAnyH_ready (rs:= [4]) (by kernel_rfl) (by simp) (AllReadyH.cons rfl (λK f=>?_) AllReadyH.nil);rw [aG (by rfl)];refine eC _ _ 23 rfl _ _ _ rfl rfl nQ.o ?_;refine f.out _ _ trivial (λ_=>?_);clear f K;try simp only [Act.put,jX]
   refine wpAnyH_ready (rs:= [5]) (by kernel_rfl) (by simp) (AllReadyH.cons rfl (λK f=>?_) AllReadyH.nil);go_simp;refine f.out _ _ trivial (λ_=>?_);clear f K;try simp only [Act.put,jX,ld,lT]
   exact wpAnyH_done (by kernel_rfl) rfl _
  .skip
   go_simp;refine fh.mono ?_;rintro e W2 ⟨rfl,dN⟩;have K3:=dN.symm;subst K3;refine f.out _ _ trivial (λ_=>?_);clear f K;try simp only [Act.put,jX,ld,lT]
   refine wpAnyH_ready (rs:= [0,3]) (by kernel_rfl) (by simp) (AllReadyH.cons rfl (λK f=>?_) (AllReadyH.cons rfl (λK f=>?_) AllReadyH.nil))
   .skip
    go_simp;refine f.out _ _ trivial (λ_=>?_);clear f K;try simp only [Act.put,jX,ld,lT]
    refine wpAnyH_ready (rs:= [3]) (by kernel_rfl) (by simp) (AllReadyH.cons rfl (λK f=>?_) AllReadyH.nil);go_simp;refine f.out _ _ trivial (λ_=>?_);clear f K;try simp only [Act.put,jX,ld,lT]
    refine wpAnyH_ready (rs:= [4]) (by kernel_rfl) (by simp) (AllReadyH.cons rfl (λK f=>?_) AllReadyH.nil);rw [aG (by rfl)];refine eC _ _ 23 rfl _ _ _ rfl rfl nQ.o ?_;refine f.out _ _ trivial (λ_=>?_);clear f K;try simp only [Act.put,jX]
    refine wpAnyH_ready (rs:= [5]) (by kernel_rfl) (by simp) (AllReadyH.cons rfl (λK f=>?_) AllReadyH.nil);go_simp;refine f.out _ _ trivial (λ_=>?_);clear f K;try simp only [Act.put,jX,ld,lT]
    exact wpAnyH_done (by kernel_rfl) rfl _
   .skip
    go_simp;refine f.out _ _ trivial (λ_=>?_);clear f K;try simp only [Act.put,jX,ld,lT]
    refine wpAnyH_ready (rs:= [0]) (by kernel_rfl) (by simp) (AllReadyH.cons rfl (λK f=>?_) AllReadyH.nil);go_simp;refine f.out _ _ trivial (λ_=>?_);clear f K;try simp only [Act.put,jX,ld,lT]
    refine wpAnyH_ready (rs:= [4]) (by kernel_rfl) (by simp) (AllReadyH.cons rfl (λK f=>?_) AllReadyH.nil);rw [aG (by rfl)];refine eC _ _ 23 rfl _ _ _ rfl rfl nQ.o ?_;refine f.out _ _ trivial (λ_=>?_);clear f K;try simp only [Act.put,jX]
    refine wpAnyH_ready (rs:= [5]) (by kernel_rfl) (by simp) (AllReadyH.cons rfl (λK f=>?_) AllReadyH.nil);go_simp;refine f.out _ _ trivial (λ_=>?_);clear f K;try simp only [Act.put,jX,ld,lT]
    exact wpAnyH_done (by kernel_rfl) rfl _
 case done=>
  intro D xs W hD oL hI Kp;have G1:xs.map Fin.val=List.range eu:=oL;have Ms:xs.map (λx:Fin eu=>fJ d x.1)=(List.range eu).map (fJ d):=by
   rw [<-G1,List.map_map];rfl
  rw [Ms] at hI;obtain⟨⟨v,ir,aA⟩,fb,eM⟩:=hI;have hl:((List.range eu).map (fJ d)).length=eu:=by simp
  rw [hl] at aA;obtain⟨g,a,rfl,hg,be,_⟩:=ay.fg aA (λe=>by
   rw [e] at aA;obtain⟨_,⟨_,h0⟩|⟨g,a,cur,h0,_⟩⟩:=aA
   .omega
   .cases h0)
  have c0:W.cell? ⟨w.heap.size,0,none⟩=some (.slice (some ⟨g,0,none⟩) eu a):=aM ir;have f0:W.frozen? ⟨w.heap.size,0,none⟩=false:=ae ir 0;have e6:(fr:Int)<=(n:Int):=by have:=r.o.1;have:=MJ.o;omega
  have e7:¬c=fr:=by have:=r.o.1;have:=MJ.o;omega
  have e8:(0:Int)<=(fr:Int):=by omega
  have c1:(W.setCell ⟨w.heap.size,0,none⟩ (.slice (some ⟨g,0,none⟩) eu a)).drew.cell? ⟨w.heap.size,0,none⟩=some (.slice (some ⟨g,0,none⟩) eu a):=aj (w:=W.setCell ⟨w.heap.size,0,none⟩ (.slice (some ⟨g,0,none⟩) eu a)) (heap_setCell_same _ _ 0 _ _ _ ir) (j:=0) (by simp);have s:=yh (aH be (aH fb (aH hg ir)));clear aA G1 Ms oL be fb ir;go_wp2_with fail;go_region_held3 (λw'=>w'.cell? ⟨w.heap.size,0,none⟩=some (.slice (some ⟨g,0,none⟩) eu a)/\w'.frozen? ⟨w.heap.size,0,none⟩=false) (first|exact⟨c1,by go_simp⟩|go_keep) (fail);have ez:=aL (F:=λk=>k=w.heap.size) W rfl 0 (.slice (some ⟨g,0,none⟩) eu a);have Wf:(W.setCell ⟨w.heap.size,0,none⟩ (.slice (some ⟨g,0,none⟩) eu a)).heap[w.heap.size]? =some (.cells #[.slice (some ⟨g,0,none⟩) eu a] 23 (0,0)):=(heap_setCell_same _ _ 0 _ _ _ s.o.2.2.2).trans (by simp);have hDl:D<W.heap.size:=aq Kp;have Xa:(W.setCell ⟨w.heap.size,0,none⟩ (.slice (some ⟨g,0,none⟩) eu a)).drew.heap[D]? =some (.deferred (some [])):=(ez.block D hDl (by omega)).trans Kp;have po:Below w.heap.size w (W.setCell ⟨w.heap.size,0,none⟩ (.slice (some ⟨g,0,none⟩) eu a)).drew:=s.o.2.1.trans (ai (ez.below (λk e=>by omega) s.o.2.1.size));have q:ay (W.setCell ⟨w.heap.size,0,none⟩ (.slice (some ⟨g,0,none⟩) eu a)).drew 3 g a (wu ((List.range eu).map (fJ d))):=s.o.1.agree (ez.block g s.o.1.lt (by have:=s.o.2.2.1;omega));obtain⟨G,z⟩:=bP ((W.setCell ⟨w.heap.size,0,none⟩ (.slice (some ⟨g,0,none⟩) eu a)).drew);have aeP:G.heap[w.heap.size]? =some (.cells #[.slice (some ⟨g,0,none⟩) eu a] 23 (0,0)):=by rw [z];exact Wf
  rw [<-z] at Xa po q⊢;have hgD:g≠D:=λe=>by
   obtain⟨cur,J,_⟩:=q;rw [e,Xa] at J;cases J
  have U1:∀k,k≠D->(G.putObj D (.deferred none)).heap[k]? =G.heap[k]? :=λk hk=>World.putObj_heap_other hk;have O:(G.putObj D (.deferred none)).cell? ⟨w.heap.size,0,none⟩=some (.slice (some ⟨g,0,none⟩) eu a):=aM ((U1 _ (by omega)).trans aeP);have Q:n-fr=512*eu:=by have:=r.o.1;have:=MJ.o;omega
  have WQ:512*eu<=c-fr:=by have:=r.o.1;have:=MJ.o;omega
  have Sj:aa (λk=>k=D) G (G.putObj D (.deferred none)):=⟨rfl,rfl,rfl,by simp [World.putObj],λk _ Y=>U1 k Y⟩;have C:=yh (aH Xa (aH O (aH Q (aH WQ (aH (q.agree (U1 g hgD)) (po.trans (Sj.below (λk e=>by omega) po.size)))))));clear Xa O Q WQ q po Wf aeP ez U1 z c0 f0 c1 Sj;go_wp2;refine⟨by simp, .inl ⟨_,_,rfl,run_takeDeferred C.o.1,?_⟩⟩;refine⟨_,o7 rfl _ _ w.heap.size (some ⟨g,0,none⟩) eu a (.slice (some ⟨b,o+fr,none⟩) (n-fr) (c-fr)) (.bool true) rfl rfl rfl C.o.2.1,?_⟩;refine⟨g,a,c-fr,?_,C.o.2.2.2.1,by have:=s.o.2.2.1;omega,C.o.2.2.2.2.1,C.o.2.2.2.2.2⟩;rw [C.o.2.2.1,MJ.o]
 case stop=>
  rintro D c l W hD _ h Kp;exact h.elim
end
def Tj (hd:Bytes d) (i:Nat):fJ d i<4294967296:=by
 have:=lE ((hd.drop (2+4*i)).take 4);have e:((d.drop (2+4*i)).take 4).length<=4:=by rw [oj];omega
 have a:2 ^ (8*((d.drop (2+4*i)).take 4).length)<=2 ^ 32:=Nat.pow_le_pow_right (by omega) (by omega);have b:(2:Nat) ^ 32=4294967296:=rfl;unfold fJ;omega
def O0 (d:List Int) (i:Nat):(List.range (i+1)).map (fJ d)=(List.range i).map (fJ d) ++ [fJ d i]:=by
 rw [List.range_succ,List.map_append];rfl
def MZ:∀(ks:List Nat) (r:List Int) (i:Nat) (a:i<ks.length),(nh ks r).take (i+1)=(nh ks r).take i ++ [(ks[i],(r.drop (512*i)).take 512)]
 | [],_,i,a=>by simp at a
 |k :: ks,r,0,_=>by simp [nh]
 |k :: ks,r,i+1,a=>by
  rw [nh,List.take_succ_cons,List.take_succ_cons,MZ ks (r.drop 512) i (by simpa using a),List.drop_drop,show 512+512*i=512*(i+1) by omega];rfl
def In {m:Nat} (b:m<w.heap.size) (a:Option Addr) (n c:Nat) (blocks:Nat)
    (f:Calls prog 157 #[.slice a n c] w λe w'=>e= .returned (.tuple #[.slice none 0 0, .slice none 0 0, .bool false])/\bW w w'):
  Calls prog 111 #[.map (some m), .slice a n c,iV (blocks:Int)] w λe w'=>e= .returned (.bool false)/\bW w w':=by
 go_in;go_wp2_with fail;refine bJ f λw1 d=>?_;go_wp2;go_loopw [9,23] (λj i wr=>j= .bool false/\i=iV 0/\wr=w1) (λ_ _ _=>0);case atStart=>exact⟨rfl,rfl,rfl⟩
 case round=>
  obtain⟨rfl,rfl,g⟩:=hrel;have eR:=g.symm;subst eR;go_wp2;go_ret;exact⟨rfl,d⟩
def Tk {m:Nat} (h:Ch w m ms) (b o n c eu:Nat) (d:List Int) (L:Src w (some (aD b o)) n d) (hd:Bytes d) (P0:n<=c) (oG:c<=9223372036854775807) (P:b≠m) (blocks:Nat) (lF:blocks<=2048) (sZ:le (d.take 2)=eu) (h1:1<=eu) (UV:eu<=16) (hn:n=2+516*eu):
  Calls prog 111 #[.map (some m), .slice (some (aD b o)) n c,iV (blocks:Int)] w λe w'=>aa (λk=>k=m) w w'/\((∃cs,gG blocks d=some cs/\e= .returned (.bool true)/\Ch w' m (CM.bU ms cs))\/(gG blocks d=none/\e= .returned (.bool false)/\Ch w' m ms)):=by
 have Cs:=h.lt;have qV:d.length=n:=L.1;have k1:=Ti b o n c eu d w L hd P0 oG sZ h1 UV hn;have I:=AJ (blocks:=blocks) (d:=d) (by omega) (by rw [sZ];omega);rw [sZ] at I;have v:=L.sub (2+4*eu) (512*eu) (by omega);have rX:∀lo i,i<eu->ly blocks d eu ((List.range i).map (fJ d)) lo i=if lo<=fJ d i/\fJ d i<blocks then ly blocks d eu ((List.range (i+1)).map (fJ d)) (fJ d i+1) (i+1) else none:=λlo i Z=>by
  have:=xr (blocks:=blocks) (d:=d) (c:=eu) (lo:=lo) (i:=i) (ks:=(List.range i).map (fJ d)) Z (by omega);rw [O0];exact this
 obtain⟨rest,j6⟩:=bP (d.drop (2+4*eu));have rO:rest.length=512*eu:=by rw [j6,List.length_drop];omega
 have B2:Bytes rest:=by rw [j6];exact hd.drop _
 rw [<-j6,nC (by omega)] at v;have lO:∀lo,ly blocks d eu ((List.range eu).map (fJ d)) lo eu=some (nh ((List.range eu).map (fJ d)) rest):=λlo=>by
  rw [j6];exact AK (by simp) (by omega)
 have mu:=λi=>Tj hd i;obtain⟨R,u⟩:=bP (gG blocks d);rw [<-u] at I⊢;have AL:∀cs,R=some cs->∀x∈cs,x.1<blocks:=λcs h=>oZ (by rw [<-u];exact h);have q:=yh (aH h (aH v (aH I (aH lO (aH rX (aH B2 (aH rO AL)))))));clear L hd u I lO rX j6 qV hn sZ v h B2 rO AL;go_in;go_wp2_with fail;refine k1.mono ?_;rintro e w1 ⟨g,cap,W,rfl,aeQ,hg,be,ar⟩;have dE:=ar.size;have p:=yh (aH be (aH ar (aH aeQ (aH P0 oG))));clear k1 be ar aeQ P0 oG;go_wp2;go_loopw [9,10,23] (λwv av z wr=>∃(i lo:Nat) (A:Int) (D:Bool),z=iV i/\av=iV A/\wv= .bool D/\A=(lo:Int)-1/\lo<=4294967297/\i<=eu/\wr=w1/\(D=true->R=ly blocks d eu ((List.range i).map (fJ d)) lo i)/\(D=false->R=none)) (λ_ _ z _=>eu-(intOf z).toNat);case atStart=>exact⟨0,0,-1,true,rfl,rfl,rfl,by omega,by omega,by omega,rfl,λ_=>q.o.2.2.1,λh=>by cases h⟩
 case round=>
  obtain⟨i,lo,A,D,rfl,rfl,rfl,t,oo,Z,hw,a,F⟩:=hrel;have eR:=hw.symm;subst eR;have r:=yh (aH t (aH a F));clear hw t a F;by_cases bq:i<eu
  .have cC:(i:Int)<(eu:Int):=(by omega);have Li:i<((List.range eu).map (fJ d)).length:=(by simpa using bq);have q0:w1.cell? (aD g i)=some (iV (fJ d i:Int)):=p.o.1.cell (j:=i) (by simp [wu,bq]);have hnK:=mu i;have bj:=q.o.2.2.2.2.1 lo i bq;generalize Y:fJ d i=K at*;obtain⟨HK,ia⟩:=bV Y bj;clear Y bj mu;cases D with
   |false=>
    have F:=r.o.2.2 rfl;have l:=yh F;clear F;go_wp2;go_roundw;case rel=>exact⟨i+1,K+1,_,false,by go_num,rfl,rfl,by omega,by omega,by omega,trivial,(λh=>by cases h),λ_=>l.o⟩
    case measure=>simp [intOf];omega
   |true=>
    have a:=r.o.2.1 rfl;rw [ia.o] at a;by_cases N:lo<=K/\K<blocks
    .rw [aG N] at a;have H:A<(K:Int):=(by have:=r.o.1;omega);have Q:(K:Int)<(blocks:Int):=(by omega);have l:=yh a;clear a N;go_wp2;go_roundw;case rel=>exact⟨i+1,K+1,_,true,by go_num,rfl,rfl,by omega,by omega,by omega,trivial,(λ_=>l.o),λh=>by cases h⟩
     case measure=>simp [intOf];omega
    .rw [aB N] at a;have S:(¬A<(K:Int))\/(A<(K:Int)/\¬(K:Int)<(blocks:Int)):=(by have:=r.o.1;omega);have l:=yh a;clear a N;rcases S with H|⟨H,Q⟩;all_goals
      go_wp2;go_roundw;case rel=>exact⟨i+1,K+1,_,false,by go_num,rfl,rfl,by omega,by omega,by omega,trivial,(λh=>by cases h),λ_=>l.o⟩
      case measure=>simp [intOf];omega
  .have cC:¬(i:Int)<(eu:Int):=(by omega);obtain rfl:i=eu:=(by omega);cases D with
   |false=>
    have l:=yh (r.o.2.2 rfl);clear r;go_wp2;go_ret;exact⟨aa.ah _ p.o.2.1, .inr ⟨l.o,rfl,q.o.1.later p.o.2.1⟩⟩
   |true=>
    have a:=r.o.2.1 rfl;rw [q.o.2.2.2.1 lo] at a;have l:=yh a;obtain⟨ks,ez⟩:=bP ((List.range i).map (fJ d));have ox:ks.length=i:=(by rw [ez];simp);have f:=yh (aH ez ox);clear r a ez ox mu;go_wp2;go_loopw [44] (λz wx=>∃j:Nat,z=iV j/\j<=i/\Ch wx m (CM.bU ms ((nh ks rest).take j))/\aa (λk=>k=m) w1 wx) (λz _=>i-(intOf z).toNat);case atStart=>exact⟨0,rfl,dL _,q.o.1.later p.o.2.1,aa.refl _ _⟩
    case round=>
     obtain⟨j,rfl,hj,ny,fb⟩:=hrel;have s:=yh (aH ny fb);clear ny fb;by_cases xB:j<i
     .have aeS:(j:Int)<(i:Int):=(by omega);have Zc:g≠m:=(by omega);have X9:j<ks.length:=(by rw [f.o.2];exact xB);have YA:=p.o.1.agree (s.o.2.block g p.o.1.lt Zc);have q0:wr.cell? (aD g j)=some (iV (ks[j]:Int)):=by
       refine YA.cell (j:=j) ?_;rw [<-f.o.1];simp [wu,X9]
      obtain⟨J,X⟩:∃J:Nat,J=512*j:=⟨_,rfl⟩;have e1:(j:Int)*512=(J:Int):=(by omega);have e2:((j:Int)+1)*512=((J+512:Nat):Int):=(by omega);have e3:(J:Int)<=((J+512:Nat):Int):=(by omega);have e4:((J+512:Nat):Int)<=(W:Int):=(by have:=p.o.2.2.1;omega);have e5:(0:Int)<=(J:Int):=(by omega);have e6:¬W=J:=(by have:=p.o.2.2.1;omega);have O:((rest.drop J).take 512).length=512:=(by rw [oj,List.length_drop,q.o.2.2.2.2.2.2.1];omega);have E:Bytes ((rest.drop J).take 512):=(q.o.2.2.2.2.2.1.drop _).take 512;have G:Src wr (some ⟨b,o+(2+4*i),none⟩) (512*i) rest:=(q.o.2.1.later p.o.2.1).pg s.o.2 (λy hy _=>by cases hy;exact P);have fV:=G.sub J 512 (by omega);have M:=MZ ks rest j X9;rw [show 512*j=J from X.symm] at M;have aW:=eU O;generalize (rest.drop J).take 512=C at*;have po:ks[j] <2048:=by
       have h8:(ks[j],C)∈nh ks rest:=List.mem_of_mem_take (i:=j+1) (by rw [M];exact List.mem_append_right _ (List.mem_singleton.2 rfl));have h9:=q.o.2.2.2.2.2.2.2 _ (by rw [l.o,<-f.o.1]) _ h8;have Zl:ks[j] <blocks:=h9;omega
      obtain⟨T,bI,aeT,B5,Ot⟩:=s.o.1.store ks[j] po C O E;generalize ks[j]=K at*;obtain⟨A,t⟩:=bP (bs C);have Bu:wr.rangeAt b (o+(2+4*i)+J) A:=(by rw [t];exact nK fV);rw [<-t] at aW;have Si:(Instr.mapUpdate 93 (.map (some m)) (iV (K:Int)) (.agg A.toArray)).run prog wr= .ok () T:=(by rw [t];exact bI);have HU:Yh (Ch T m (CM.bU ms ((nh ks rest).take (j+1)))/\aa (λk=>k=m) w1 T):=⟨by rw [M,OW];exact aeT,s.o.2.trans B5 (λ_ h=> .inl h)⟩;have hac:=Ad;clear bI aeT B5 Ot fV G M O E t X YA Zc X9 s;go_wp2_with (refine wpList_load_mid rfl 101 _ rfl b _ rfl A _ Bu underlying101 rfl aW ?_);go_roundw;case rel=>exact⟨j+1,by go_num,by omega,HU.o⟩
      case measure=>simp [intOf];omega
     .have aeS:¬(j:Int)<(i:Int):=(by omega);obtain rfl:j=i:=(by omega);have U:Yh (Ch wr m (CM.bU ms (nh ks rest))/\aa (λk=>k=m) w wr):=⟨by
       have:=s.o.1;rwa [nC (by rw [uJ,f.o.2];omega)] at this,(aa.ah (λk=>k=m) p.o.2.1).trans s.o.2 (λ_ h=> .inl h)⟩
      clear s;go_wp2;go_ret;exact⟨U.o.2, .inl ⟨_,l.o,rfl,by rw [<-f.o.1];exact U.o.1⟩⟩
def O1 {m:Nat} (h:Ch w m ms) (a:Option Addr) (n c:Nat) (d:List Int) (i:Src w a n d) (hd:Bytes d) (q:n<=1000000) (P0:n<=c) (oG:c<=9223372036854775807) (l:∀x,a=some x->0<n->x.block≠m) (blocks:Nat) (lF:blocks<=2048):
  Calls prog 111 #[.map (some m), .slice a n c,iV (blocks:Int)] w λe w'=>aa (λk=>k=m) w w'/\((∃cs,gG blocks d=some cs/\e= .returned (.bool true)/\Ch w' m (CM.bU ms cs))\/(gG blocks d=none/\e= .returned (.bool false)/\Ch w' m ms)):=by
 have qV:=i.1;by_cases p:n<2
 .refine(In h.lt a n c blocks (Im a n c w p)).mono ?_;rintro e w' ⟨rfl,f⟩;exact⟨aa.ah _ f, .inr ⟨uL (.inl (by omega)),rfl,h.later f⟩⟩
 .obtain⟨b,o,rfl⟩:=cZ i (by omega);by_cases g:1<=le (d.take 2)/\le (d.take 2)<=16/\n=2+516*le (d.take 2)
  .exact Tk h b o n c (le (d.take 2)) d i hd P0 oG (l _ rfl (by omega)) blocks lF rfl g.1 g.2.1 g.2.2
  .refine(In h.lt (some (aD b o)) n c blocks (OZ b o n c d w i hd (by omega) P0 q (by omega))).mono ?_;rintro e w' ⟨rfl,f⟩;refine⟨aa.ah _ f, .inr ⟨uL (.inr ?_),rfl,h.later f⟩⟩;by_cases j:1<=le (d.take 2)/\le (d.take 2)<=16
   .exact .inr (λe=>g ⟨j.1,j.2,by omega⟩)
   .exact .inl j
section
def iI (blocks:Nat):CM->List (List Int)->Option CM
 |ms, []=>some ms
 |ms,r :: rs=>match gG blocks r with
  |none=>none
  |some cs=>iI blocks (CM.bU ms cs) rs
def ev (S:DS) (s:Nat) (y:LY) (ov:CM) (rs:List (List Int)):Int×DS:=
 if rs= [] then (0,S) else if (aE S s y.home ov).1≠0 then aE S s y.home ov else (aE S s y.home ov).2.fl s
def O2 {P:Nat->Prop}:∀{cs:CM},(∀x∈ms,P x.1)->(∀x∈cs,P x.1)->∀x∈CM.bU ms cs,P x.1:=by
 intro cs
 induction cs generalizing ms with
 |nil=>intro h _ x a;exact h x a
 |cons q c f=>
  intro d b;have e:CM.bU ms (q :: c)=CM.bU (CM.put ms q.1 q.2) c:=rfl;rw [e];refine f (λx a=>?_) (λx a=>b x (List.mem_cons_of_mem _ a));rcases CM.rg a with rfl|a
  .exact b q (by simp)
  .exact d x a
def Ch.qK {w:World} {m:Nat} (h:Ch w m ms) {cur:Array Value} {t:TypeId} {c:Nat×Nat} (b:w.heap[m]? =some (.cells cur t c)):False:=by
 obtain⟨D,h⟩:=h;obtain⟨e,a,d,_⟩:=h.own;rw [d] at b;cases b
def Lj (w:World) (v:Value) (rs:List (List Int)):Prop:=
 ∃vs,w.ownsRow 0 36 1 v rs.length vs/\∀i (hi:i<rs.length),∃g c,vs[i]? =some (.slice (some (aD g 0)) (rs[i]).length c)/\ay w 5 g c (bs rs[i])
def Lj.shape {w:World} (h:Lj w v rs):∃a n c,v= .slice a n c/\n=rs.length/\∀i (e:i<rs.length),∃b g c',a=some (aD b 0)/\w.cell? (aD b i)=some (.slice (some (aD g 0)) (rs[i]).length c')/\ay w 5 g c' (bs rs[i]):=by
 obtain⟨t,j,o⟩:=h;have f:=j;obtain⟨s,⟨rfl,h0⟩|⟨g,d,cur,rfl,r,q,p⟩⟩:=j
 .exact⟨none,0,0,rfl,h0.symm,λi e=>by omega⟩
 .refine⟨_,_,d,rfl,rfl,λi e=>?_⟩;obtain⟨k,c',l,m⟩:=o i e;refine⟨g,k,c',rfl,?_,m⟩;have:=f.cells (g:=g) rfl i _ l;rwa [aN,Nat.zero_add] at this
def Lj.aw {w:World} {m:Nat} (h:Lj w v rs) (f:Ch w m ms) (d:aa (λk=>k=m) w w'):Lj w' v rs:=by
 obtain⟨q,j,p⟩:=h;refine⟨q,mK j (λg n=>?_),λi o=>?_⟩
 .obtain⟨cur,a⟩:=bB j n;exact d.block g (aq a) (λe=>f.qK (by rw [<-e];exact a))
 .obtain⟨g,c,l,b⟩:=p i o;refine⟨g,c,l,b.agree (d.block g b.lt (λe=>?_))⟩;obtain⟨cur,a,_⟩:=b;exact f.qK (by rw [<-e];exact a)
section
variable {w:World} {F:Nat->Prop} {p s c q l m:Nat} {S:DS} {y:LY} {busy:Bool}
def Tl (hd:B.ax w F p s S c) (hs:nx w q p l m y busy) (hm:Ch w m []) (hq:¬F q) (Uy:¬F m) (hy:y.home+y.blocks<=s) (hv:Lj w v rs) (B2:∀r∈rs,Bytes r/\r.length<=1000000) (rO:rs.length<=1000000) (aU:S.puts.length+3000<=4000000000000):
  Calls prog 56 #[pQ q,v] w λe w'=>(iI y.blocks [] rs=none/\e= .panicked R9/\B.ax w' F p s S c/\aa (λk=>k=m) w w')\/(∃ov,iI y.blocks [] rs=some ov/\e= .returned (iV (ev S s y ov rs).1)/\B.ax w' (more F w w') p s (ev S s y ov rs).2 c/\aa (λk=>k=m\/F k) w w'/\((ev S s y ov rs).1=0->Ch w' m [])):=by
 obtain⟨a,n,cp,rfl,hn,cU⟩:=hv.shape;have Kw:=hd.ok.hi;have t:=yh (aH hd (aH hs (aH hm (aH hv (aH B2 rO)))));obtain⟨R,Q⟩:=bP (iI y.blocks [] rs);rw [<-Q];clear hd hs hm hv B2 cU;by_cases k0:n=0
 .have d0:(((n:Nat):Int) == 0)=true:=by rw [k0];rfl
  obtain rfl:rs= []:=yH (by omega);have H:=yh (show R=some [] from Q);clear Q k0 hn;go_in;go_wp2;go_ret;refine .inr ⟨[],H.o,rfl,?_,aa.refl _ _,λ_=>t.o.2.2.1⟩;exact t.o.1.more
 .have d0:(((n:Nat):Int) == 0)=false:=by
   rw [fy];omega
  have H:=yh (aH Q (aH hn k0));have UY:n<=1000000:=by omega
  clear Q k0 hn rO;go_in;go_wp2;go_loopw [14] (λiv wr=>∃(i:Nat) (ms:CM),iv=iV i/\i<=n/\Ch wr m ms/\(∀x∈ms,x.1<y.blocks)/\aa (λk=>k=m) w wr/\R=iI y.blocks ms (rs.drop i)) (λiv _=>n-(intOf iv).toNat);case atStart=>exact⟨0, [],rfl,dL _,t.o.2.2.1,(λx X=>by cases X),aa.refl _ _,H.o.1⟩
  case round=>
   obtain⟨i,ms,rfl,hi,ny,AL,fb,j⟩:=hrel;have KL:q≠m:=λe=>t.o.2.2.1.qK (by rw [<-e];exact t.o.2.1);have bj:=t.o.2.1.aw fb (λe=>KL e);have GB:=t.o.2.2.2.1.aw t.o.2.2.1 fb;have kw:=t.o.1.aw fb (λk hF e=>Uy (e▸hF));by_cases bq:i<n
   .have cC:(i:Int)<(n:Int):=(by omega);have Li:i<rs.length:=(by rw [<-H.o.2.1];exact bq);obtain⟨a2,n2,cp2,e2,UO,cU⟩:=GB.shape;cases e2;clear UO;obtain⟨b,g,c',rfl,q0,be⟩:=cU i Li;have dO:=t.o.2.2.2.2.1 _ (List.getElem_mem Li);have Zc:g≠m:=λe=>by
     obtain⟨cur,hc,_⟩:=be;exact ny.qK (by rw [<-e];exact hc)
    have h1:=λ(wx:World) (hb:bW wr wx)=>O1 (ny.later hb) (some (aD g 0)) (rs[i]).length c' rs[i] (be.src.later hb) dO.1 dO.2 (by have:=be.le;simpa [bs] using this) (by have:=be.max;unfold maxLen at this;omega) (λx X _=>by cases X;exact Zc) y.blocks (by omega);rw [List.drop_eq_getElem_cons Li] at j;have Z:=yh (aH AL (aH fb (aH j kw)));generalize rs[i]=r at*;have O:=bj.c7;have cc4:=bj.c4;have HC:=yh (aH O cc4);have tw:=yh (λ(N:gG y.blocks r=none)=>(by rw [Z.o.2.2.1];unfold iI;rw [N]:R=none));have EV:bW wr wr.drew:=ai (bi _ _);have A:=yh (λ(E:World) (P8:aa (λk=>k=m) wr.drew E)=>((Z.o.2.1.trans (aa.ah (λ_=>False) EV) (λ_ h=>h.elim)).trans P8 (λ_ h=> .inl h):aa (λk=>k=m) w E));have z:=yh (λ(E:World) (P8:aa (λk=>k=m) wr.drew E)=>(⟨((bj.later EV).aw P8 (λe=>KL e)).c7,((bj.later EV).aw P8 (λe=>KL e)).c4⟩:E.cell? (aD q 7)=some (.map (some m))/\E.cell? (aD q 4)=some (iV (y.blocks:Int))));clear AL fb j kw ny GB bj cU be dO Zc;go_wp2_with fail;refine wp_region_held_drew (S:=(λw'=>w'.cell? (aD q 7)=some (.map (some m))/\w'.cell? (aD q 4)=some (iV (y.blocks:Int)))) (by kernel_rfl) (HC.o) (λMU=>?_);refine wpAnyH_take (i:=0) (oi:={dst:=some 18,op:=Op.move (Operand.tmp 0),type:=53,pos:= "store.go:111",after:= #[],guard:=none}) (v:=pQ q) rfl (by kernel_rfl) (by kernel_rfl) (by kernel_rfl) (λ_ _ _ h=>h) (Or.inl ⟨by rfl,?_⟩) (by assumption) ?_
    .intro w vU
     (try dsimp only at vU)
     go_simp
    try simp only [Act.put,jX,ld,lT]
    refine wpAnyH_take (i:=1) (oi:={dst:=some 19,op:=Op.nilCheck (Operand.tmp 18),type:=0,pos:= "store.go:111",after:= #[{on:=0,ground:=Ground.data}],guard:=none}) (v:=pQ q) rfl (by kernel_rfl) (by kernel_rfl) (by kernel_rfl) (λ_ _ _ h=>h) (Or.inl ⟨by rfl,?_⟩) (by assumption) ?_
    .intro w vU
     (try dsimp only at vU)
     go_simp
    try simp only [Act.put,jX,ld,lT]
    refine wpAnyH_take (i:=2) (oi:={dst:=some 20,op:=Op.fieldAddr 95 (Operand.tmp 19) 3,type:=0,pos:= "store.go:111",after:= #[{on:=1,ground:=Ground.data}],guard:=none}) (v:= .pointer (some (aD q 7))) rfl (by kernel_rfl) (by kernel_rfl) (by kernel_rfl) (λ_ _ _ h=>h) (Or.inl ⟨by rfl,?_⟩) (by assumption) ?_
    .intro w vU
     (try dsimp only at vU)
     go_simp
    try simp only [Act.put,jX,ld,lT]
    refine wpAnyH_take (i:=3) (oi:={dst:=some 21,op:=Op.load 93 (Operand.tmp 20),type:=93,pos:= "store.go:111",after:= #[{on:=2,ground:=Ground.data}],guard:=none}) (v:= .map (some m)) rfl (by kernel_rfl) (by kernel_rfl) (by kernel_rfl) (λ_ _ _ h=>h) (Or.inl ⟨by rfl,?_⟩) (by assumption) ?_
    .intro w vU
     (try dsimp only at vU)
     go_simp
    try simp only [Act.put,jX,ld,lT]
    refine wpAnyH_take (i:=4) (oi:={dst:=some 22,op:=Op.move (Operand.tmp 6),type:=36,pos:= "store.go:111",after:= #[],guard:=none}) (v:= .slice (some (aD g 0)) r.length c') rfl (by kernel_rfl) (by kernel_rfl) (by kernel_rfl) (λ_ _ _ h=>h) (Or.inl ⟨by rfl,?_⟩) (by assumption) ?_
    .intro w vU
     (try dsimp only at vU)
     go_simp
    try simp only [Act.put,jX,ld,lT]
    refine wpAnyH_take (i:=5) (oi:={dst:=some 23,op:=Op.move (Operand.tmp 0),type:=53,pos:= "store.go:111",after:= #[],guard:=none}) (v:=pQ q) rfl (by kernel_rfl) (by kernel_rfl) (by kernel_rfl) (λ_ _ _ h=>h) (Or.inl ⟨by rfl,?_⟩) (by assumption) ?_
    .intro w vU
     (try dsimp only at vU)
     go_simp
    try simp only [Act.put,jX,ld,lT]
    refine wpAnyH_take (i:=6) (oi:={dst:=some 24,op:=Op.nilCheck (Operand.tmp 23),type:=0,pos:= "store.go:111",after:= #[{on:=5,ground:=Ground.data}],guard:=none}) (v:=pQ q) rfl (by kernel_rfl) (by kernel_rfl) (by kernel_rfl) (λ_ _ _ h=>h) (Or.inl ⟨by rfl,?_⟩) (by assumption) ?_
    .intro w vU
     (try dsimp only at vU)
     go_simp
    try simp only [Act.put,jX,ld,lT]
    refine wpAnyH_take (i:=7) (oi:={dst:=some 25,op:=Op.fieldAddr 95 (Operand.tmp 24) 2,type:=0,pos:= "store.go:111",after:= #[{on:=6,ground:=Ground.data}],guard:=none}) (v:= .pointer (some (aD q 2))) rfl (by kernel_rfl) (by kernel_rfl) (by kernel_rfl) (λ_ _ _ h=>h) (Or.inl ⟨by rfl,?_⟩) (by assumption) ?_
    .intro w vU
     (try dsimp only at vU)
     go_simp
    try simp only [Act.put,jX,ld,lT]
    refine wpAnyH_take (i:=8) (oi:={dst:=some 26,op:=Op.fieldAddr 86 (Operand.tmp 25) 2,type:=0,pos:= "store.go:111",after:= #[{on:=7,ground:=Ground.data}],guard:=none}) (v:= .pointer (some (aD q 4))) rfl (by kernel_rfl) (by kernel_rfl) (by kernel_rfl) (λ_ _ _ h=>h) (Or.inl ⟨by rfl,?_⟩) (by assumption) ?_
    .intro w vU
     (try dsimp only at vU)
     go_simp
    try simp only [Act.put,jX,ld,lT]
    refine wpAnyH_take (i:=9) (oi:={dst:=some 27,op:=Op.load 3 (Operand.tmp 26),type:=3,pos:= "store.go:111",after:= #[{on:=8,ground:=Ground.data}],guard:=none}) (v:=iV (y.blocks:Int)) rfl (by kernel_rfl) (by kernel_rfl) (by kernel_rfl) (λ_ _ _ h=>h) (Or.inl ⟨by rfl,?_⟩) (by assumption) ?_
    .intro w vU
     (try dsimp only at vU)
     go_simp
    try simp only [Act.put,jX,ld,lT]
    refine wpAnyH_ready (rs:= [10]) (by kernel_rfl) (by simp) ?_;refine AllReadyH.cons (o:={dst:=some 28,op:=Op.call {callee:=Callee.value (Operand.func 111),args:= #[Operand.tmp 21,Operand.tmp 22,Operand.tmp 27],argTypes:= #[93,36,3]},type:=4,pos:= "store.go:111",after:= #[{on:=3,ground:=Ground.data},{on:=4,ground:=Ground.data},{on:=9,ground:=Ground.data}],guard:=none}) rfl (λK I=>?_) AllReadyH.nil;go_simp;refine(h1 _ (ai (bi _ _))).mono ?_;rintro e E ⟨P8,Io⟩;rcases Io.symm with ⟨N,rfl,_⟩|⟨cs,N,rfl,td⟩
    .refine I.out _ _ (z.o _ P8) (λMU=>?_);clear I K;try simp only [Act.put,jX,ld,lT]
     refine wpAnyH_ready (rs:= [11]) (by kernel_rfl) (by simp) ?_;refine AllReadyH.cons (o:={dst:=some 29,op:=Op.call {callee:=Callee.value (Operand.func 110),args:= #[Operand.tmp 28],argTypes:= #[4]},type:=0,pos:= "store.go:111",after:= #[{on:=10,ground:=Ground.data},{on:=10,ground:=Ground.chain}],guard:=none}) rfl (λK I=>?_) AllReadyH.nil;go_simp;refine(Wk E).mono ?_;rintro e w9 ⟨rfl,M⟩;have aaT:=M.symm;subst aaT;exact⟨rfl, .inl ⟨tw.o N,rfl,t.o.1.aw (A.o _ P8) (λk hF e=>Uy (e▸hF)),A.o _ P8⟩⟩
    refine I.out _ _ (z.o _ P8) (λMU=>?_);clear I K;try simp only [Act.put,jX,ld,lT]
    refine wpAnyH_ready (rs:= [11]) (by kernel_rfl) (by simp) ?_;refine AllReadyH.cons (o:={dst:=some 29,op:=Op.call {callee:=Callee.value (Operand.func 110),args:= #[Operand.tmp 28],argTypes:= #[4]},type:=0,pos:= "store.go:111",after:= #[{on:=10,ground:=Ground.data},{on:=10,ground:=Ground.chain}],guard:=none}) rfl (λK I=>?_) AllReadyH.nil;go_simp;refine(Wj E).mono ?_;rintro e w9 ⟨rfl,M⟩;have aaT:=M.symm;subst aaT;refine I.out _ _ (z.o _ P8) (λaaU=>?_);clear I K aaU;try simp only [Act.put,jX,ld,lT]
    refine wpAnyH_done (by kernel_rfl) ?_ _;have nH:=Io;clear nH Io MU;have Y:=yh (aH (A.o _ P8) (aH N td));clear P8 N td h1 z A tw EV q0;go_wp2;go_roundw;case rel=>exact⟨i+1,CM.bU ms cs,by go_num,by omega,Y.o.2.2,O2 (P:=λk=>k<y.blocks) Z.o.1 (oZ Y.o.2.1),Y.o.1,by
     have L:=Z.o.2.2.1;unfold iI at L;rw [Y.o.2.1] at L;exact L⟩
    case measure=>exact aeN (S:=n) (i:=i) (k:=i+1) bq (by omega)
   .have cC:¬(i:Int)<(n:Int):=(by omega);rw [List.drop_eq_nil_of_le (by have:=H.o.2.1;omega)] at j;have W:R=some ms:=j;have lG:=ny.small;have L:=sd kw bj ny hq Uy (λx X=>by have:=AL x X;omega) aU;have pF:=eG S s y.home ms;obtain⟨T,hT⟩:=bP (aE S s y.home ms);have lf:ev S s y ms rs=if T.1≠0 then T else T.2.fl s:=by
     unfold ev;rw [aB (λe=>by rw [e] at H;have:=H.o.2;simp at this),<-hT]
    rw [<-hT] at L pF;have d:=yh (aH W (aH lf (aH fb (aH bj (aH ny kw.lt)))));clear j W hT AL fb bj GB kw ny H lf;go_wp2_with fail;refine fQ L λw2 cI aY=>?_;clear L;obtain⟨dE,em,Cs,Bt⟩:=cP d.o.2.2.1.size aY.size d.o.2.2.2.2.1.lt d.o.2.2.2.1.lt;by_cases D:T.1=0
    .have d1:(T.1 == 0)=true:=(by rw [D];rfl);have d2:(T.1 != 0)=false:=(by simp [D]);have h3:=B.vI cI (by omega);have lz:=d.o.2.2.2.1.aw aY hq;have cc0:=lz.c0;have lf:=d.o.2.1;rw [aB (λh=>h D)] at lf;obtain⟨U,hU⟩:=bP (T.2.fl s);rw [<-hU] at h3 lf;have f:=yh (aH lf (aH aY (aH lz (d.o.2.2.2.2.1.aw aY Uy))));clear hU lf lz cI aY D;go_wp2_with fail;refine fQ h3 λw3 C aZ=>?_;clear h3 cc0;have lq:=aZ.size;have Cp:¬more F wr w2 m:=λh=>by rcases h with h|h;exact Uy h;omega
     have ajV:¬more F wr w2 q:=λh=>by rcases h with h|h;exact hq h;omega
     have vY:=f.o.2.2.1.aw aZ ajV;have O3:=f.o.2.2.2.aw aZ Cp;have Jh:aa (λk=>k=m\/F k) w w3:=((d.o.2.2.1.mono (G:=λk=>k=m\/F k) (λk e=> .inl e)).trans f.o.2.1 (λk h=> .inl (.inr h))).trans aZ (λk h=>by rcases h with h|h;exact .inl (.inr h);exact .inr (by omega));by_cases J:U.1=0
     .have d3:(U.1 != 0)=false:=(by simp [J]);have d4:(U.1 == 0)=true:=(by rw [J];rfl);obtain⟨w4,aqK,Tm,dW,vt⟩:=O3.qS;have O:=vY.c7;have u:=yh (aH C (aH Jh (aH Tm (aH dW (aH J vt)))));clear C aZ vY O3 Jh Tm dW J vt;go_wp2;go_ret;refine .inr ⟨ms,d.o.1,by rw [f.o.1,u.o.2.2.2.2.1];rfl,?_,u.o.2.1.trans u.o.2.2.2.1 (λk e=> .inl (.inl e)),λ_=>u.o.2.2.1⟩;rw [f.o.1];have vt:=u.o.2.2.2.2.2;refine(u.o.1.aw u.o.2.2.2.1 (λk h e=>Cp (e▸h))).mono (λk h=>?_) (λk h=>?_)
      .rcases h with h|h
       .exact .inl h
       .exact .inr (by omega)
      .rcases h with h|h
       .have:=d.o.2.2.2.2.2 k h;omega
       .omega
     .have d3:(U.1 != 0)=true:=(by simp [J]);have d4:(U.1 == 0)=false:=(by simpa using J);have u:=yh (aH C (aH Jh J));clear C aZ vY O3 Jh J;go_wp2;go_ret;refine .inr ⟨ms,d.o.1,by rw [f.o.1];rfl,?_,u.o.2.1,λh=>absurd (by rw [f.o.1] at h;exact h) u.o.2.2⟩;rw [f.o.1];refine u.o.1.mono (λk h=>?_) (λk h=>?_)
      .rcases h with h|h
       .exact .inl h
       .exact .inr (by omega)
      .rcases h with h|h
       .have:=d.o.2.2.2.2.2 k h;omega
       .omega
    .have d1:(T.1 == 0)=false:=(by simpa using D);have d2:(T.1 != 0)=true:=(by simp [D]);have lf:=d.o.2.1;rw [aG D] at lf;have f:=yh (aH lf (aH aY (aH cI D)));clear lf cI aY D;go_wp2;go_ret;refine .inr ⟨ms,d.o.1,by rw [f.o.1];rfl,?_,(d.o.2.2.1.mono (G:=λk=>k=m\/F k) (λk e=> .inl e)).trans f.o.2.1 (λk h=> .inl (.inr h)),λh=>absurd (by rw [f.o.1] at h;exact h) f.o.2.2.2⟩;rw [f.o.1];refine f.o.2.2.1.mono (λk h=>?_) (λk h=>?_)
     .rcases h with h|h
      .exact .inl h
      .exact .inr (by omega)
     .rcases h with h|h
      .have:=d.o.2.2.2.2.2 k h;omega
      .omega
end
end
section
def qL {m:Nat} (a:p<l.length):(l.drop p).take (m+1)=l.getD p 0 :: (l.drop (p+1)).take m:=by
 rw [List.drop_eq_getElem_cons a,List.take_succ_cons];simp [List.getD,qQ a]
def bE (a:Option Addr) (m c:Nat) (l:List Int) (w:World) (s:Src w a m l) (x:Bytes l) (d n:Nat) (D:n<=4) (it:d+n<=m) (C:m<=140737488355328):
  Calls prog 200 #[.slice a m c,iV (d:Int),iV (n:Int)] w λe w'=>e= .returned (iV ((le ((l.drop d).take n):Nat):Int))/\w'=w:=by
 have A:=s.1;have t:=yh s;clear s;go_in;go_wp2;go_loopw [7,8] (λv i wr=>∃j:Nat,j<=n/\i=iV ((j:Int)-1)/\v=iV ((le ((l.drop (d+j)).take (n-j)):Nat):Int)/\wr=w) (λ_ i _=>(intOf i+1).toNat);case atStart=>exact⟨n,bR _,rfl,by simp [le],rfl⟩
 case round=>
  obtain⟨j,z,rfl,rfl,rfl⟩:=hrel;by_cases q:1<=j
  .obtain⟨i,rfl⟩:∃i,j=i+1:=⟨j-1,by omega⟩;have wK:(0:Int)<=((i+1:Nat):Int)-1:=(by omega);have r:=q9 (x.drop (d+(i+1))|>.take (n-(i+1))) (k:=3) (by rw [oj];omega);have f:=qL (l:=l) (p:=d+i) (m:=n-(i+1)) (by omega);rw [show n-(i+1)+1=n-i by omega,show d+i+1=d+(i+1) by omega] at f;obtain⟨V,g⟩:=bP (le ((l.drop (d+(i+1))).take (n-(i+1))));rw [<-g] at r⊢;obtain⟨b,o,rfl⟩:=cZ t.o (by omega);have cU:wr.cell? ⟨b,o+(d+i),none⟩=some (.int .u8 (l.getD (d+i) 0)):=(by have:=t.o.2.2 _ rfl (d+i) (by omega);rwa [aN] at this);have dO:=x.getD (d+i);have Jt:=yh f;have y:=yh g;obtain⟨X,u⟩:=bP (l.getD (d+i) 0);rw [<-u] at cU dO Jt;have XH:((i+1:Nat):Int)-1=(i:Int):=(by omega);rw [XH] at wK⊢;have aeU:(d:Int)+(i:Int)<(m:Int):=(by omega);clear g f XH u;go_wp2;go_roundw;case rel=>
    refine⟨i,by omega,by go_num,?_,trivial⟩;rw [Jt.o];congr 1;show _=((X.toNat+256*le ((l.drop (d+(i+1))).take (n-(i+1))):Nat):Int);rw [<-y.o];omega
   case measure=>simp [intOf]
  .obtain rfl:j=0:=(by omega);have wK:¬(0:Int)<=((0:Nat):Int)-1:=(by omega);go_wp2;go_ret;exact⟨rfl,rfl⟩
def vZ (a:(aX l).2=0) (b:12<=(aX l).1.length):(dr l).e=le (((aX l).1.drop 0).take 4)/\(dr l).p=le (((aX l).1.drop 4).take 4)/\(dr l).i=le (((aX l).1.drop 8).take 2)/\(dr l).c=le (((aX l).1.drop 10).take 2)/\(dr l).d=(aX l).1.drop 12:=by
 unfold dr;rw [aB (by omega)];exact⟨rfl,rfl,rfl,rfl,rfl⟩
def yA (h:(aX l).2≠0\/(aX l).1.length<=12):(dr l).d= []:=by
 unfold dr;split
 .rfl
 .show (aX l).1.drop 12= [];exact List.drop_eq_nil_of_le (by omega)
section
variable {w w':World} {F G:Nat->Prop} {r s k:Nat} {S:DS} {L:LG}
def Xb (w w':World) (q:PC) (E P i c:Nat) (v:Value):Prop:=
   (q.ok E P i c/\∃body,Own w' w.heap.size v body/\body.drop 12=q.d/\12<body.length/\body.length<=504)\/(¬q.ok E P i c/\v= .slice none 0 0)
def O4 (E P i c:Nat) (h:aC w F r s S) (I:cM w k r L) (dO:Bytes (S.now (L.f+2+P%L.n))) (hs:L.f+2+L.n<=s) (iu:1<=L.n) (aU:S.puts.length+1<=4000000000000) (W:E<=4294967296) (hP:P<=4294967296) (X:i<=65536) (hc:c<=65536) (Bo:1<=c):
  Calls prog 201 #[pQ k,iV (E:Int),iV (P:Int),iV (i:Int),iV (c:Int)] w λe w'=>∃v,e= .returned v/\Xb w w' (dr (S.now (L.f+2+P%L.n))) E P i c v/\bW w w':=by
 have Kw:=h.ok.hi;have Q:P%L.n<L.n:=Nat.mod_lt _ iu;have mu:=bA h.ok (L.f+2+P%L.n) (by omega);obtain⟨A,D,G,H⟩:=cP (jP (h.later (ai (bi w.heap.size w))) (L.f+2+P%L.n) (by omega) (by omega)) I.c0 I.c2 I.c3;have rP:(P:Int).tmod (L.n:Int)=((P%L.n:Nat):Int):=by rw [yI (by omega),<-Int.natCast_emod]
 have SE:(P:Int)%(L.n:Int)=((P%L.n:Nat):Int):=by rw [<-Int.natCast_emod]
 obtain⟨M,T⟩:=bP (P%L.n);rw [<-T] at rP SE Q A mu dO⊢;rw [show ((L.f+2+M:Nat):Int)=(L.f:Int)+2+(M:Int) by omega] at A;have yx:IntKind.i64.wrap ((L.f:Int)+2)=(L.f:Int)+2:=by rw [IntKind.wrap_i64];omega
 have aeV:IntKind.i64.wrap ((L.f:Int)+2+(M:Int))=(L.f:Int)+2+(M:Int):=by rw [IntKind.wrap_i64];omega
 have aeW:¬L.n=0:=by omega
 clear T h I;generalize S.now (L.f+2+M)=l at*;have C:=Ed l;have gN:=p7 dO;by_cases J:(aX l).2=0
 .go_in;go_wp2_with fail;go_region_held3 (λw'=>w'.cell? (aD k 0)=some (pQ r)/\w'.cell? (aD k 2)=some (iV (L.f:Int))/\w'.cell? (aD k 3)=some (iV (L.n:Int)))
   (first|exact⟨D,G,H⟩)
     ((go_at_call 40;refine A.mono ?_;rintro e w1 ⟨g,K,rfl,O,be,bT⟩;have jR:=bT.symm;clear bT;subst jR))
  have i7:=be.src;rw [mu] at i7;have m:=qX (some (aD g 0)) 512 K l w.drew i7 dO;rw [J] at m;clear A be i7 D G H;go_wp2_with fail;refine m.mono ?_;rintro e a ⟨v2,rfl,jw,bd⟩;have eV:=(ai (bi w.heap.size w)).trans bd;obtain⟨b,rQ,rfl,br,_,_⟩:=jw.src;obtain⟨Wh,dZ⟩:=bV (show Own a w.heap.size _ _ from jw) eV;by_cases U:(aX l).1.length<=12
  .have tw:=yh (show¬(dr l).ok E P i c from λh=>by have:=h.2.2.2.2.1;rw [yA (.inr U)] at this;simp at this);have Z:((aX l).1.length:Int)<=12:=(by omega);clear U;clear m bd eV jw br;go_wp2;go_ret;exact⟨_,rfl, .inr ⟨tw.o,rfl⟩,dZ.o⟩
  .have nA:=vZ J (by omega);have Z:¬((aX l).1.length:Int)<=12:=(by omega);have xC:0<(dr l).d.length:=(by rw [nA.2.2.2.2,List.length_drop];omega);have qV:(dr l).d.length+12=(aX l).1.length:=(by rw [nA.2.2.2.2,List.length_drop];omega);by_cases q:(dr l).e=E
   .by_cases t:(dr l).p=P
    .by_cases x:(dr l).i=i
     .by_cases z:(dr l).c=c
      .by_cases N:i+1=c\/(aX l).1.length=504
       .obtain⟨PX,te⟩:=bV (show (dr l).ok E P i c from ⟨q,t,x,z,xC,λh=>by omega⟩) nA.2.2.2.2;have Xc:=yh (show 12<(aX l).1.length/\(aX l).1.length<=504 from ⟨by omega,C⟩);by_cases R:i+1=c
        .have y:((i:Int) != (c:Int)-1)=false:=(by rw [bne_eq_false_iff_eq];omega);clear N R;have wc:=bE b _ rQ _ a br gN 0 4 (by omega) (by omega) (by omega);rw [<-nA.1,q,show (((0:Nat)):Int)=0 from rfl,show (((4:Nat)):Int)=4 from rfl] at wc;have vx:=bE b _ rQ _ a br gN 4 4 (by omega) (by omega) (by omega);rw [<-nA.2.1,t,show (((4:Nat)):Int)=4 from rfl] at vx;have EW:=bE b _ rQ _ a br gN 8 2 (by omega) (by omega) (by omega);rw [<-nA.2.2.1,x,show (((8:Nat)):Int)=8 from rfl,show (((2:Nat)):Int)=2 from rfl] at EW;have Ll:=bE b _ rQ _ a br gN 10 2 (by omega) (by omega) (by omega);rw [<-nA.2.2.2.1,z,show (((10:Nat)):Int)=10 from rfl,show (((2:Nat)):Int)=2 from rfl] at Ll;clear m bd eV jw br nA;go_wp2_with (first|(go_at_call 200;refine wc.mono ?_;rintro e j ⟨rfl,ec⟩;have eH:=ec.symm;clear ec wc;subst eH)|(go_at_call 200;refine vx.mono ?_;rintro e j ⟨rfl,ec⟩;have eH:=ec.symm;clear ec vx;subst eH)|(go_at_call 200;refine EW.mono ?_;rintro e j ⟨rfl,ec⟩;have eH:=ec.symm;clear ec EW;subst eH)|(go_at_call 200;refine Ll.mono ?_;rintro e j ⟨rfl,ec⟩;have eH:=ec.symm;clear ec Ll;subst eH));go_ret;exact⟨_,rfl, .inl ⟨PX.o,_,Wh.o,te.o.symm,Xc.o.1,Xc.o.2⟩,dZ.o⟩
        .have y:((i:Int) != (c:Int)-1)=true:=(by rw [gg];omega);have dl:(((aX l).1.length:Int) != 504)=false:=(by rw [bne_eq_false_iff_eq];omega);clear N R;have wc:=bE b _ rQ _ a br gN 0 4 (by omega) (by omega) (by omega);rw [<-nA.1,q,show (((0:Nat)):Int)=0 from rfl,show (((4:Nat)):Int)=4 from rfl] at wc;have vx:=bE b _ rQ _ a br gN 4 4 (by omega) (by omega) (by omega);rw [<-nA.2.1,t,show (((4:Nat)):Int)=4 from rfl] at vx;have EW:=bE b _ rQ _ a br gN 8 2 (by omega) (by omega) (by omega);rw [<-nA.2.2.1,x,show (((8:Nat)):Int)=8 from rfl,show (((2:Nat)):Int)=2 from rfl] at EW;have Ll:=bE b _ rQ _ a br gN 10 2 (by omega) (by omega) (by omega);rw [<-nA.2.2.2.1,z,show (((10:Nat)):Int)=10 from rfl,show (((2:Nat)):Int)=2 from rfl] at Ll;clear m bd eV jw br nA;go_wp2_with (first|(go_at_call 200;refine wc.mono ?_;rintro e j ⟨rfl,ec⟩;have eH:=ec.symm;clear ec wc;subst eH)|(go_at_call 200;refine vx.mono ?_;rintro e j ⟨rfl,ec⟩;have eH:=ec.symm;clear ec vx;subst eH)|(go_at_call 200;refine EW.mono ?_;rintro e j ⟨rfl,ec⟩;have eH:=ec.symm;clear ec EW;subst eH)|(go_at_call 200;refine Ll.mono ?_;rintro e j ⟨rfl,ec⟩;have eH:=ec.symm;clear ec Ll;subst eH));go_ret;exact⟨_,rfl, .inl ⟨PX.o,_,Wh.o,te.o.symm,Xc.o.1,Xc.o.2⟩,dZ.o⟩
       .have tw:=yh (show¬(dr l).ok E P i c from λh=>by have:=h.2.2.2.2.2;omega);have y:((i:Int) != (c:Int)-1)=true:=(by rw [gg];omega);have dl:(((aX l).1.length:Int) != 504)=true:=(by rw [gg];omega);clear N;have wc:=bE b _ rQ _ a br gN 0 4 (by omega) (by omega) (by omega);rw [<-nA.1,q,show (((0:Nat)):Int)=0 from rfl,show (((4:Nat)):Int)=4 from rfl] at wc;have vx:=bE b _ rQ _ a br gN 4 4 (by omega) (by omega) (by omega);rw [<-nA.2.1,t,show (((4:Nat)):Int)=4 from rfl] at vx;have EW:=bE b _ rQ _ a br gN 8 2 (by omega) (by omega) (by omega);rw [<-nA.2.2.1,x,show (((8:Nat)):Int)=8 from rfl,show (((2:Nat)):Int)=2 from rfl] at EW;have Ll:=bE b _ rQ _ a br gN 10 2 (by omega) (by omega) (by omega);rw [<-nA.2.2.2.1,z,show (((10:Nat)):Int)=10 from rfl,show (((2:Nat)):Int)=2 from rfl] at Ll;clear m bd eV jw br nA;go_wp2_with (first|(go_at_call 200;refine wc.mono ?_;rintro e j ⟨rfl,ec⟩;have eH:=ec.symm;clear ec wc;subst eH)|(go_at_call 200;refine vx.mono ?_;rintro e j ⟨rfl,ec⟩;have eH:=ec.symm;clear ec vx;subst eH)|(go_at_call 200;refine EW.mono ?_;rintro e j ⟨rfl,ec⟩;have eH:=ec.symm;clear ec EW;subst eH)|(go_at_call 200;refine Ll.mono ?_;rintro e j ⟨rfl,ec⟩;have eH:=ec.symm;clear ec Ll;subst eH));go_ret;exact⟨_,rfl, .inr ⟨tw.o,rfl⟩,dZ.o⟩
      .have tw:=yh (show¬(dr l).ok E P i c from λh=>z h.2.2.2.1);have u:(((dr l).c:Int) != (c:Int))=true:=(by rw [gg];omega);have y:((dr l).c == c)=false:=(by rw [fy];exact z);have wc:=bE b _ rQ _ a br gN 0 4 (by omega) (by omega) (by omega);rw [<-nA.1,q,show (((0:Nat)):Int)=0 from rfl,show (((4:Nat)):Int)=4 from rfl] at wc;have vx:=bE b _ rQ _ a br gN 4 4 (by omega) (by omega) (by omega);rw [<-nA.2.1,t,show (((4:Nat)):Int)=4 from rfl] at vx;have EW:=bE b _ rQ _ a br gN 8 2 (by omega) (by omega) (by omega);rw [<-nA.2.2.1,x,show (((8:Nat)):Int)=8 from rfl,show (((2:Nat)):Int)=2 from rfl] at EW;have Ll:=bE b _ rQ _ a br gN 10 2 (by omega) (by omega) (by omega);rw [<-nA.2.2.2.1,show (((10:Nat)):Int)=10 from rfl,show (((2:Nat)):Int)=2 from rfl] at Ll;clear m bd eV jw br nA;go_wp2_with (first|(go_at_call 200;refine wc.mono ?_;rintro e j ⟨rfl,ec⟩;have eH:=ec.symm;clear ec wc;subst eH)|(go_at_call 200;refine vx.mono ?_;rintro e j ⟨rfl,ec⟩;have eH:=ec.symm;clear ec vx;subst eH)|(go_at_call 200;refine EW.mono ?_;rintro e j ⟨rfl,ec⟩;have eH:=ec.symm;clear ec EW;subst eH)|(go_at_call 200;refine Ll.mono ?_;rintro e j ⟨rfl,ec⟩;have eH:=ec.symm;clear ec Ll;subst eH));go_ret;exact⟨_,rfl, .inr ⟨tw.o,rfl⟩,dZ.o⟩
     .have tw:=yh (show¬(dr l).ok E P i c from λh=>x h.2.2.1);have u:(((dr l).i:Int) != (i:Int))=true:=(by rw [gg];omega);have y:((dr l).i == i)=false:=(by rw [fy];exact x);have wc:=bE b _ rQ _ a br gN 0 4 (by omega) (by omega) (by omega);rw [<-nA.1,q,show (((0:Nat)):Int)=0 from rfl,show (((4:Nat)):Int)=4 from rfl] at wc;have vx:=bE b _ rQ _ a br gN 4 4 (by omega) (by omega) (by omega);rw [<-nA.2.1,t,show (((4:Nat)):Int)=4 from rfl] at vx;have EW:=bE b _ rQ _ a br gN 8 2 (by omega) (by omega) (by omega);rw [<-nA.2.2.1,show (((8:Nat)):Int)=8 from rfl,show (((2:Nat)):Int)=2 from rfl] at EW;clear m bd eV jw br nA;go_wp2_with (first|(go_at_call 200;refine wc.mono ?_;rintro e j ⟨rfl,ec⟩;have eH:=ec.symm;clear ec wc;subst eH)|(go_at_call 200;refine vx.mono ?_;rintro e j ⟨rfl,ec⟩;have eH:=ec.symm;clear ec vx;subst eH)|(go_at_call 200;refine EW.mono ?_;rintro e j ⟨rfl,ec⟩;have eH:=ec.symm;clear ec EW;subst eH));go_ret;exact⟨_,rfl, .inr ⟨tw.o,rfl⟩,dZ.o⟩
    .have tw:=yh (show¬(dr l).ok E P i c from λh=>t h.2.1);have u:(((dr l).p:Int) != (P:Int))=true:=(by rw [gg];omega);have y:((dr l).p == P)=false:=(by rw [fy];exact t);have wc:=bE b _ rQ _ a br gN 0 4 (by omega) (by omega) (by omega);rw [<-nA.1,q,show (((0:Nat)):Int)=0 from rfl,show (((4:Nat)):Int)=4 from rfl] at wc;have vx:=bE b _ rQ _ a br gN 4 4 (by omega) (by omega) (by omega);rw [<-nA.2.1,show (((4:Nat)):Int)=4 from rfl] at vx;clear m bd eV jw br nA;go_wp2_with (first|(go_at_call 200;refine wc.mono ?_;rintro e j ⟨rfl,ec⟩;have eH:=ec.symm;clear ec wc;subst eH)|(go_at_call 200;refine vx.mono ?_;rintro e j ⟨rfl,ec⟩;have eH:=ec.symm;clear ec vx;subst eH));go_ret;exact⟨_,rfl, .inr ⟨tw.o,rfl⟩,dZ.o⟩
   .have tw:=yh (show¬(dr l).ok E P i c from λh=>q h.1);have u:(((dr l).e:Int) != (E:Int))=true:=(by rw [gg];omega);have y:((dr l).e == E)=false:=(by rw [fy];exact q);have wc:=bE b _ rQ _ a br gN 0 4 (by omega) (by omega) (by omega);rw [<-nA.1,show (((0:Nat)):Int)=0 from rfl,show (((4:Nat)):Int)=4 from rfl] at wc;clear m bd eV jw br nA;go_wp2_with (first|(go_at_call 200;refine wc.mono ?_;rintro e j ⟨rfl,ec⟩;have eH:=ec.symm;clear ec wc;subst eH));go_ret;exact⟨_,rfl, .inr ⟨tw.o,rfl⟩,dZ.o⟩
 .have tw:=yh (show¬(dr l).ok E P i c from λh=>by have:=h.2.2.2.2.1;rw [yA (.inl J)] at this;simp at this);have Y:(((aX l).2:Int) != 0)=true:=by rw [gg];omega
  clear J;go_in;go_wp2_with fail;go_region_held3 (λw'=>w'.cell? (aD k 0)=some (pQ r)/\w'.cell? (aD k 2)=some (iV (L.f:Int))/\w'.cell? (aD k 3)=some (iV (L.n:Int)))
   (first|exact⟨D,G,H⟩)
     ((go_at_call 40;refine A.mono ?_;rintro e w1 ⟨g,K,rfl,O,be,bT⟩;have jR:=bT.symm;clear bT;subst jR))
  have i7:=be.src;rw [mu] at i7;have m:=qX (some (aD g 0)) 512 K l w.drew i7 dO;clear A be i7 D G H;go_wp2_with fail;refine m.mono ?_;rintro e a ⟨v2,rfl,jw,bd⟩;have eV:=(ai (bi w.heap.size w)).trans bd;obtain⟨b,rQ,rfl,br,_,_⟩:=jw.src;obtain⟨Wh,dZ⟩:=bV (show Own a w.heap.size _ _ from jw) eV;clear m bd eV jw br;go_wp2;go_ret;exact⟨_,rfl, .inr ⟨tw.o,rfl⟩,dZ.o⟩
end
end
def Ip (a:Option Addr) (m c:Nat) (l:List Int) (w:World) (s:Src w a m l) (x:Bytes l) (d n:Nat) (D:n<=4) (it:d+n<=m) (C:m<=140737488355328):
  Calls prog 167 #[.slice a m c,iV (d:Int),iV (n:Int)] w λe w'=>e= .returned (iV ((le ((l.drop d).take n):Nat):Int))/\w'=w:=by
 have A:=s.1;have t:=s;clear s;go_in;go_wp2;go_loopw [7,8] (λv i wr=>∃j:Nat,j<=n/\i=iV ((j:Int)-1)/\v=iV ((le ((l.drop (d+j)).take (n-j)):Nat):Int)/\wr=w) (λ_ i _=>(intOf i+1).toNat);case atStart=>exact⟨n,bR _,rfl,by simp [le],rfl⟩
 case round=>
  obtain⟨j,z,rfl,rfl,rfl⟩:=hrel;by_cases q:1<=j
  .obtain⟨i,rfl⟩:∃i,j=i+1:=⟨j-1,by omega⟩;have wK:(0:Int)<=((i+1:Nat):Int)-1:=(by omega);have r:=q9 (x.drop (d+(i+1))|>.take (n-(i+1))) (k:=3) (by rw [oj];omega);have f:=qL (l:=l) (p:=d+i) (m:=n-(i+1)) (by omega);rw [show n-(i+1)+1=n-i by omega,show d+i+1=d+(i+1) by omega] at f;obtain⟨V,g⟩:=bP (le ((l.drop (d+(i+1))).take (n-(i+1))));rw [<-g] at r⊢;obtain⟨b,o,rfl⟩:=cZ t (by omega);have cU:wr.cell? ⟨b,o+(d+i),none⟩=some (.int .u8 (l.getD (d+i) 0)):=(by have:=t.2.2 _ rfl (d+i) (by omega);rwa [aN] at this);have dO:=x.getD (d+i);have Jt:=f;have y:=g;obtain⟨X,u⟩:=bP (l.getD (d+i) 0);rw [<-u] at cU dO Jt;have XH:((i+1:Nat):Int)-1=(i:Int):=(by omega);rw [XH] at wK⊢;have aeU:(d:Int)+(i:Int)<(m:Int):=(by omega);clear g f XH u;go_wp2;go_roundw;case rel=>
    refine⟨i,by omega,by go_num,?_,trivial⟩;rw [Jt];congr 1;show _=((X.toNat+256*le ((l.drop (d+(i+1))).take (n-(i+1))):Nat):Int);rw [<-y];omega
   case measure=>simp [intOf]
  .obtain rfl:j=0:=(by omega);have wK:¬(0:Int)<=((0:Nat):Int)-1:=(by omega);go_wp2;go_ret;exact⟨rfl,rfl⟩
def aaV (w w':World) (o:Option CM) (e:Ending):Prop:=
   (o=none/\e= .returned (.tuple #[.slice none 0 0, .bool false]))\/∃cs v,o=some cs/\e= .returned (.tuple #[v, .bool true])/\Pn w' (λj=>w.heap.size<=j) w.heap.size v cs
def Tn {m:Nat} (h:n+m<=l.length):((l.drop n).take m).length=m:=by rw [oj,List.length_drop];omega
def Iq (a:Option Addr) (n f:Nat) (d:List Int) (w:World) (m:Src w a n d) (xQ:Bytes d) (R:n<=1000000) (P0:n<=f) (PQ:f<=9223372036854775807) (blocks:Nat) (J:blocks<=2048):
  Calls prog 123 #[.slice a n f,iV (blocks:Int)] w λe w'=>aaV w w' (gG blocks d) e/\bW w w':=by
 have Q:=m.1;by_cases T:n<2
 .have F:(n:Int)<2:=by omega
  clear m;go_in;go_wp2;go_ret2;exact⟨.inl ⟨(yh (uL (blocks:=blocks) (d:=d) (.inl (by omega)))).out,rfl⟩,bi _ _⟩
 .have F:¬(n:Int)<2:=by omega
  obtain⟨t,u,rfl⟩:=cZ m (by omega);have Dr:=Ip (some (aD t u)) n f d w m xQ 0 2 (by omega) (by omega) (by omega);rw [List.drop_zero] at Dr;have si:=q9 (xQ.take 2) (k:=2) (by rw [oj];omega);obtain⟨C,p⟩:=bP (le (d.take 2));rw [<-p] at Dr si;by_cases r:1<=C/\C<=16/\n=2+516*C
  .obtain⟨r,q2,U⟩:=r;have p1:¬(C:Int)<1:=(by omega);have p2:¬(16:Int)<(C:Int):=(by omega);have p3:((n:Int) != 2+516*(C:Int))=false:=(by rw [bne_eq_false_iff_eq];omega);have D:=AJ (blocks:=blocks) (d:=d) (by omega) ⟨by omega,by omega⟩;rw [<-p] at D;obtain⟨x,N,Z⟩:=kI D m p;have qV:d.length=2+516*C:=(by omega);have l:=yh qV;have O:2+516*C<=f:=(by omega);subst U;clear m D p Q qV T R;go_in;go_wp2_with fail;refine bJ Dr λw1 bT=>?_;subst bT
   rename World=>w
   clear Dr;go_wp2;go_loopw [7,8,9] (λv S i wr=>∃(j lo:Nat) (ks:List Nat),j<=C/\i=iV (j:Int)/\S=iV ((lo:Int)-1)/\lo<=blocks/\ks.length=j/\gG blocks d=ly blocks d C ks lo j/\Pn wr (λj=>w.heap.size<=j) w.heap.size v (nh ks (d.drop (2+4*C)))/\bW w wr) (λ_ _ i _=>C-(intOf i).toNat);case atStart=>exact⟨0,0, [],dL _,rfl,by simp,dL _,rfl,x.o,Pn.nil _ _ _,bi _ _⟩
   case round=>
    obtain⟨j,lo,ks,hj,rfl,rfl,oo,ez,vK,nH,ey⟩:=hrel;obtain⟨Au,Jy,mr,lf⟩:=cP ey.size (yh nH) (yh ey) (N.o.later ey);have Jq:=yh lf;by_cases W:j<C
    .have G:(j:Int)<(C:Int):=(by omega);have fE:=Ip (some (aD t u)) (2+516*C) f d wr lf xQ (2+4*j) 4 (by omega) (by omega) (by omega);rw [show ((2+4*j:Nat):Int)=2+4*(j:Int) by omega] at fE;rw [xr W l.o] at vK;have BD:=q9 ((xQ.drop (2+4*j)).take 4) (k:=4) (by rw [oj,List.length_drop];omega);generalize le ((d.drop (2+4*j)).take 4)=K at fE vK BD;clear nH ey lf;by_cases H:lo<=K/\K<blocks
     .rw [aG H] at vK;have k1:¬(K:Int)<=(lo:Int)-1:=(by omega);have q:Src wr (some ⟨t,u+(2+4*C+512*j),none⟩) 512 ((d.drop (2+4*C+512*j)).take 512):=kM Jq.o (by omega);have Ay:((d.drop (2+4*C+512*j)).take 512).length=512:=Tn (by rw [l.o];omega);have QZ:Bytes ((d.drop (2+4*C+512*j)).take 512):=(xQ.drop _).take _;have ZT:=Dq K ks (d.drop (2+4*C));rw [List.drop_drop,ez] at ZT;have b1:(0:Int)<=2+4*(C:Int)+512*(j:Int):=(by omega);have b2:2+4*(C:Int)+512*(j:Int)+512<=(f:Int):=(by omega);obtain⟨y,A,Wm⟩:=kI (lX (some ⟨t,u+(2+4*C+512*j),none⟩) 512 (f-(2+4*C+512*j)) _ wr (by omega) q) ZT vK;clear q ZT vK;go_wp2_with fail;refine bJ fE λX dN=>?_;subst dN;clear fE;go_wp2_with fail;refine y.o.mono ?_;rintro e Y ⟨L,rfl,Fv,Bm,bz⟩;have lq:=bz.size;obtain⟨g2,cJ,w4,bI,Xd,dW⟩:=(Jy.o.later bz).aem (b:=K) (g:=L) (c:=512) (by omega:w.heap.size<=L) Bm ⟨Ay,QZ⟩ (by rw [uJ];omega) (by omega);rw [uJ,ez] at bI Xd;rw [<-A.o] at Xd;have eJ:=(mr.o.trans (bz.mono Au)).trans (dW.below (λi P=>Jy.o.lo i P) (by omega));obtain⟨M,nQ⟩:=bV (aH Xd eJ) bI;clear Fv Bm bz bI Xd dW eJ;go_wp2_with (at_builtin;refine bu rfl _ _ 127 rfl u7 (.slice (some (aD Y.heap.size 0)) 1 1) _ rfl rfl nQ.o ?_);go_roundw;case rel=>exact⟨j+1,K+1,ks ++ [K],by omega,by go_num,by congr 1;omega,by omega,by simp [ez],Wm.o,M.o⟩
      case measure=>simp [intOf];omega
     .rw [aB H] at vK;have Wm:=yh vK;have E:(K:Int)<=(lo:Int)-1\/(¬(K:Int)<=(lo:Int)-1/\(blocks:Int)<=(K:Int)):=by
       by_cases z:(K:Int)<=(lo:Int)-1
       .exact .inl z
       .exact .inr ⟨z,by omega⟩
      clear H vK;rcases E with z|⟨z,s⟩;all_goals
       go_wp2_with fail;refine bJ fE λX dN=>?_;subst dN;clear fE;go_wp2;go_ret2;exact⟨.inl ⟨Wm.o,rfl⟩,mr.o⟩
    .have G:¬(j:Int)<(C:Int):=(by omega);obtain rfl:j=C:=(by omega);rw [AK ez l.o] at vK;have Wm:=yh vK;clear vK nH ey lf;go_wp2;go_ret2;exact⟨.inr ⟨_,_,Wm.o,rfl,Jy.o⟩,mr.o⟩
  .have x:=yh (uL (blocks:=blocks) (d:=d) (.inr (by
    by_cases z:1<=le (d.take 2)/\le (d.take 2)<=16
    .exact .inr (λe=>r ⟨by omega,by omega,by omega⟩)
    .exact .inl z)))
   have E:(C:Int)<1\/(¬(C:Int)<1/\(16:Int)<(C:Int))\/(¬(C:Int)<1/\¬(16:Int)<(C:Int)/\((n:Int) != 2+516*(C:Int))=true):=by
    by_cases I:(C:Int)<1
    .exact .inl I
    .by_cases s:(16:Int)<(C:Int)
     .exact .inr (.inl ⟨I,s⟩)
     .exact .inr (.inr ⟨I,s,by rw [gg];intro e;exact r ⟨by omega,by omega,by omega⟩⟩)
   clear p r m;rcases E with z|⟨z,s⟩|⟨z,s,z3⟩;all_goals
    go_in;go_wp2_with fail;refine bJ Dr λw1 bT=>?_;subst bT;clear Dr;go_wp2;go_ret2;exact⟨.inl ⟨x.o,rfl⟩,bi _ _⟩
namespace B
def To {D:Nat} (h:ax w F p s S D) (dO:S.fN) (f n:Nat) (X:f+2+n<=s) (iu:1<=n) (hn:n<=256) (W:S.fuse≠0) (aU:S.puts.length+1<=4000000000000):
  Calls prog 154 #[kJ p f n] w λe w'=>∃v,e= .returned (.tuple #[v,iV 0])/\Mz w.heap.size w' n (λi=>dr (S.now (f+2+i))) v/\ax w' F p s S (D+n)/\aa F w w':=by
 obtain⟨i0,L,gC,dE,em⟩:=info_parts Kl;have hs:=h.ok.hi;have x:=yh h.lt;have u:=yh (h.boxed (.cells #[.pointer (some ⟨p,0,none⟩), .int .i64 f, .int .i64 n] 144));have t:=yh dO;clear h dO;go_in;go_wp2_with (at_make;refine wpList_make_full _ rfl _ _ 187 rfl (w.heap.size+1) 230 i0 _ 5 underlying187 L gC dE _ _ _ _ n rfl rfl ?c1 ?c2 ?c3 ?c4 ?c5 ?_);case c1=>rfl
 case c2=>rfl
 case c3=>rw [em];omega
 case c4=>unfold maxLen;omega
 case c5=>simp
 intro w1 aA aR;have ar:Below (w.heap.size+1) (w.alloc (.cells #[.pointer (some ⟨p,0,none⟩), .int .i64 f, .int .i64 n] 144)) w1:=(bi _ _).grown aR (by simp) (by intro k M;cases M);obtain⟨_,⟨J,_⟩|⟨g',T,cur,J,vd,H,_,_,mv,_⟩⟩:=aA
 .cases J
 cases J;have dH:=(ar.block _ (by omega)).trans (heap_alloc_new _ _);have cQ:=yh ((yh (aJ w (.cells #[.pointer (some ⟨p,0,none⟩), .int .i64 f, .int .i64 n] 144))).out.trans (ar.mono (by omega)));have bq:=aq H;have EJ:Yh (ij w1 w1.heap.size (w.heap.size+1) n 0 (λi=>dr (S.now (f+2+i)))):=⟨⟨cur,H,mv⟩,λi L=>by omega⟩;obtain⟨R6,P⟩:=bV (u.o.later (by show Below _ _ _;rw [World.size_alloc];exact ar)) dH;have l:Yh (¬F w.heap.size/\¬F (w.heap.size+1)):=⟨λh=>by have:=x.o _ h;omega,λh=>by have:=x.o _ h;omega⟩;obtain⟨R,G⟩:∃R,R=(λi=>dr (S.now (f+2+i))):=⟨_,rfl⟩;rw [<-G] at EJ;have xR:=yh G;clear aR ar dH H vd mv G;go_wp2;go_loopw [13] (λi wr=>∃k:Nat,k<=n/\i=iV k/\ij wr w1.heap.size (w.heap.size+1) n k R/\ax wr F p s S (D+k)/\aa (λj=>F j\/j=w.heap.size+1) w1 wr) (λi _=>n-(intOf i).toNat);case atStart=>exact⟨0,dL _,rfl,EJ.o,R6.o,aa.refl _ _⟩
 case round=>
  obtain⟨k,M,rfl,M0,hd,fb⟩:=hrel;by_cases q:k<n
  .have q':(k:Int)<(n:Int):=(by omega);have dH:=eF P.o fb (λh=>by rcases h with h|h;exact l.o.1 h;omega);have K:=aM dH;have c1:=bG dH;have c2:=bM dH;have E:=λwx=>Mk p f n k wx (by omega) (by omega) (by omega) (by omega) (by omega);rw [show (f:Int)+2+(k:Int)%(n:Int)=((f+2+k:Nat):Int) by rw [Int.emod_eq_of_lt (by omega) (by omega)];omega] at E;obtain⟨H1,z,te,Dd,b⟩:=Ve E M0 hd fb dH;clear E M0 hd fb dH;go_wp2_with fail;go_region_held3 (λw'=>w'.cell? (aD w.heap.size 0)=some (pQ p)/\w'.cell? (aD w.heap.size 1)=some (iV (f:Int))/\w'.cell? (aD w.heap.size 2)=some (iV (n:Int)))
    (first|exact⟨K,c1,c2⟩|exact⟨aM mq,bG mq,bM mq⟩|exact⟨aM tT,bG tT,bM tT⟩)
    (first
     |(go_at_call 191;refine(H1.o _).mono ?_;rintro e w2 ⟨rfl,bd⟩;have bz:=(ai (bi wr.heap.size wr)).trans bd;have mq:=(bz.block _ (aq b.o)).trans b.o;have cI:=te.o.later bz)
     |(go_at_call 39;refine(Aa cI (f+2+k) (by omega) aU W).mono ?_;rintro e w3 ⟨v,rfl,Y,g,aZ⟩;have tT:=eF mq aZ l.o.1))
   obtain⟨Q,U,rfl,Af,Z2⟩:=Y;have dW:=(Dd.o.trans (aa.ah (λ_=>False) bz) (λ_ h=>h.elim)).trans aZ (λ_ h=> .inl (.inl h));have Tp:=((z.o.aw (aa.ah (λ_=>False) bz) (λh=>h) (λ_ h=>h.elim)).aw aZ l.o.2 (λj a=>by have:=x.o j a;omega));have I:=Gw Q _ U (S.now (f+2+k)) w3 Af (t.o.now _);rw [show dr (S.now (f+2+k))=R k by rw [xR.o]] at I;obtain⟨Jv,VJ,Mw⟩:=kI Tp g dW;clear bd bz mq tT cI g aZ dW Tp Af Z2 K c1 c2;go_wp2_with fail;refine I.mono ?_;rintro e N ⟨m,r,rfl,EC,aeX,eJ⟩;have xn:=Jv.o.aw (aa.ah (λ_=>False) eJ) (λh=>h) (λ_ h=>h.elim);have vt:=Mw.o.size;have eh:N.there (w.heap.size+1) (k*5) (eS ((R k).e:Int) ((R k).p:Int) ((R k).i:Int) ((R k).c:Int) m (R k).d.length r).size:=λj a=>by
    obtain⟨v,e⟩:=xn.spot q j a;exact⟨by rw [e];rfl,xn.fz _⟩
   have A:=yh eh;have i7:=xn.snoc q (by omega) m r EC (λy Z=>by have:=aeX y Z;omega);have ez:=ud N (w.heap.size+1) (k*5) (iV ((R k).e:Int)) (iV ((R k).p:Int)) (iV ((R k).i:Int)) (iV ((R k).c:Int)) (.slice m (R k).d.length r);have dX:=(Mw.o.trans (aa.ah (λ_=>False) eJ) (λ_ h=>h.elim)).trans ez (λ_ h=> .inl (.inr h));have jJ:=(VJ.o.later eJ).aw ez (λj a e=>l.o.2 (e▸a));have O:=yh (aH i7 (aH jJ dX));have UA:(0:Int)<=(k:Int):=(by omega);clear xn i7 ez dX jJ EC aeX eJ I eh;go_wp2_with (refine wpList_store_mid rfl 230 _ _ rfl (w.heap.size+1) (k*5) (eS ((R k).e:Int) ((R k).p:Int) ((R k).i:Int) ((R k).c:Int) m (R k).d.length r) rfl rfl ?s1 ?s2 ?s3 ?_);case s1=>exact A.o
   case s2=>exact ko
   case s3=>simp [Value.oneCell']
   go_roundw;case rel=>exact⟨k+1,by omega,by go_num,O.o⟩
   case measure=>simp [intOf];omega
  .have q':¬(k:Int)<(n:Int):=(by omega);obtain rfl:k=n:=(by omega);have C:=yh (aH M0 (aH hd fb));clear M0 hd fb;go_wp2;go_ret2;refine⟨_,rfl,⟨w.heap.size+1,w1.heap.size,rfl,by omega,by omega,xR.o▸C.o.1⟩,C.o.2.1,?_⟩;exact(aa.ah F cQ.o).trans C.o.2.2 (λj a=>by
    rcases a with a|a
    .exact .inl a
    .exact .inr (by omega))
end B
section
namespace B
section
variable {w:World} {F:Nat->Prop} {p s l cR:Nat} {S:DS} {L:LG}
def aaW (h:ax w F p s S cR) (dO:S.fN) (f n:Nat) (a:f+2+n<=s) (iu:1<=n) (c:n<=256) (b:S.fuse≠0) (aU:S.puts.length+1<=4000000000000):
  Calls prog 154 #[kJ p f n] w λe w'=>∃v,e= .returned (.tuple #[v, .int .i64 0])/\Mz w.heap.size w' n (ed S f) v/\ax w' F p s S (cR+n)/\aa F w w':=To h dO f n a iu c b aU
def Lm (h:ax w F p s S cR) (m:cY w l p L) (c:¬F l) (dO:S.fN) (X:L.f+2+L.n<=s) (iu:1<=L.n) (q:L.n<=256) (O:S.fuse≠0) (aU:S.puts.length+1<=4000000000000):
  Calls prog 109 #[.pointer (some ⟨l,0,none⟩)] w λe w'=>qg w' w.heap.size l p L S e/\ax w' F p s S (cR+2+L.n)/\aa (λk=>F k\/k=l) w w':=by
 obtain⟨o,bq,C,D,E,OQ⟩:=jH (Wi h L.f L.n aU O (by omega) (dO.now _) (dO.now _)) m.lt m.c0 m.c1 m.c2 ((λi=>kn (dO.now (L.f+2+i))));have N:=λw1 (iP:ax w1 F p s S (cR+2))=>aaW iP dO L.f L.n X iu q O aU;unfold qg;change Calls _ _ _ _ (λe w'=>e= .returned (.tuple #[.int .i64 ((cm S L.f).1:Int), .int .i64 ((cm S L.f).2.1:Int), .int .i64 ((cm S L.f).2.2:Int)])/\ax w' F p s S (cR+2)/\aa F w w') at o;by_cases t:(cm S L.f).2.2=0
 .rw [t] at o;have P:=(yu (S:=S) (f:=L.f)) t;simp only [aB (λh:¬(cm S L.f).2.2=0=>h t)];by_cases u:is S L.f L.n=1073741824
  .simp only [aG u];have R:(max ((cm S L.f).1:Int) (gQ (ed S L.f) L.n:Int) == 1073741824)=true:=(by unfold is at u;rw [beq_iff_eq];omega);go_in;go_wp2_with fail;refine fQ o λw1 iP fh=>?_;have cu:=m.aw fh c;obtain⟨C,D,E⟩:=kH cu.c0 cu.c1 cu.c2;go_wp2_with fail;refine(N w1 iP).mono ?_;rintro e w2 ⟨v,rfl,⟨g,B,rfl,W,z,r⟩,cI,aY⟩;go_wp2_with fail;refine(MA r q).mono ?_;rintro e a ⟨rfl,bz⟩;have iq:=(cu.aw aY c).later bz;obtain⟨c5,H,I,Q,J,K,M,T⟩:=xA iq.c5 iq.c6 iq.c7 iq.c8 (iq.fz 5) (iq.fz 6) (iq.fz 7) (iq.fz 8);have aZ:aa (λk=>F k\/k=l) w (a.setCell ⟨l,8,none⟩ (.int .i64 (max ((cm S L.f).1:Int) (gQ (ed S L.f) L.n:Int)))):=(((fh.trans aY (λ_ h=> .inl h)).trans (aa.ah (λ_=>False) bz) (λ_ h=>h.elim)).mono (λ_ h=> .inl h)).trans (aL (F:=λk=>F k\/k=l) a (.inr rfl) 8 _) (λ_ h=> .inl h);have d:ax (a.setCell ⟨l,8,none⟩ (.int .i64 (max ((cm S L.f).1:Int) (gQ (ed S L.f) L.n:Int)))) F p s S (cR+2+L.n):=(cI.later bz).aw (aL (F:=λk=>k=l) a rfl 8 _) (λk j e=>c (e▸j));go_wp2_with fail;go_ret2;exact⟨rfl,aH d aZ⟩
  .simp only [aB u];have R:(max ((cm S L.f).1:Int) (gQ (ed S L.f) L.n:Int) == 1073741824)=false:=(by unfold is at u;rw [fy];omega);go_in;go_wp2_with fail;refine fQ o λw1 iP fh=>?_;have cu:=m.aw fh c;obtain⟨C,D,E⟩:=kH cu.c0 cu.c1 cu.c2;go_wp2_with fail;refine(N w1 iP).mono ?_;rintro e w2 ⟨v,rfl,⟨g,B,rfl,W,z,r⟩,cI,aY⟩;go_wp2_with fail;refine(MA r q).mono ?_;rintro e a ⟨rfl,bz⟩;have iq:=(cu.aw aY c).later bz;obtain⟨H,I,Q,J,K,M,T⟩:=nD iq.c6 iq.c7 iq.c8 (iq.fz 5) (iq.fz 6) (iq.fz 7) (iq.fz 8);have aZ:aa (λk=>F k\/k=l) w (a.setCell ⟨l,8,none⟩ (.int .i64 (max ((cm S L.f).1:Int) (gQ (ed S L.f) L.n:Int)))):=(((fh.trans aY (λ_ h=> .inl h)).trans (aa.ah (λ_=>False) bz) (λ_ h=>h.elim)).mono (λ_ h=> .inl h)).trans (aL (F:=λk=>F k\/k=l) a (.inr rfl) 8 _) (λ_ h=> .inl h);have d:ax (a.setCell ⟨l,8,none⟩ (.int .i64 (max ((cm S L.f).1:Int) (gQ (ed S L.f) L.n:Int)))) F p s S (cR+2+L.n):=(cI.later bz).aw (aL (F:=λk=>k=l) a rfl 8 _) (λk j e=>c (e▸j));have dE:=fh.size;have U:=Rw g L.n (cm S L.f).1 (cm S L.f).2.1 (ed S L.f) _ B ((r.aw (aa.ah (λ_=>False) bz) (λh=>h) (λ_ h=>h.elim)).aw (aL (F:=λk=>k=l) a rfl 8 (.int .i64 (max ((cm S L.f).1:Int) (gQ (ed S L.f) L.n:Int)))) (by omega) (λk j=>by omega)) iu q P.2.2 P.2.1 (λi=>(OQ i).2.2.2.2.1) (λi=>by have:=(OQ i).2.2.2.1;unfold ed;omega);have x:=(iq.Kq (max ((cm S L.f).1:Int) (gQ (ed S L.f) L.n:Int)) (is S L.f L.n) (by unfold is;omega));have y:=(aH d aZ);go_wp2_with fail;refine U.mono ?_;rintro e w4 ⟨v,hd,rs,rfl,my,Y,Z,eJ⟩;have jg:=x.later eJ;have iq.c5:=jg.c5;obtain⟨H,I,J,K,M,ZT,ez⟩:=nD jg.c6 jg.c7 (jg.fz 5) (jg.fz 6) (jg.fz 7) y.2.size (((aL (F:=λk=>k=l) w4 rfl 5 (.int .i64 ((cm S L.f).1:Int))).trans (aL (F:=λk=>k=l) _ rfl 6 (.int .i64 ((cm S L.f).2.1:Int))) (λ_ h=> .inl h)).trans (aL (F:=λk=>k=l) _ rfl 7 (.int .i64 (hd:Int))) (λ_ h=> .inl h));have A:=(aH (Told.mk ((((my.xL (b:=l) (by omega) 5 (.int .i64 ((cm S L.f).1:Int))).xL (b:=l) (by omega) 6 (.int .i64 ((cm S L.f).2.1:Int))).xL (b:=l) (by omega) 7 (.int .i64 (hd:Int))).low ZT (λ_ h=>h)) Y Z (jg.marked (cm S L.f).1 (cm S L.f).2.1 hd)) (aH ((y.1.later eJ).aw ez (λk j e=>c (e▸j))) ((y.2.trans (aa.ah (λ_=>False) eJ) (λ_ h=>h.elim)).trans (ez.mono (G:=λk=>F k\/k=l) (λ_ h=> .inr h)) (λ_ h=> .inl h))));go_wp2_with fail;go_ret2;exact⟨⟨_,_,_,rfl,A.1⟩,A.2⟩
 .have d0:(((cm S L.f).2.2:Int) == 0)=false:=by rw [fy];omega
  simp only [aG (λh=>t h:¬(cm S L.f).2.2=0)];go_in;go_wp2_with fail;refine fQ o λw1 iP fh=>?_;go_wp2_with fail;go_ret2;exact⟨rfl,aH (iP.le (by omega:cR+2<=cR+2+L.n)) (fh.mono (G:=λk=>F k\/k=l) (λ_ h=> .inl h))⟩
end
end B
end
section
namespace B
def oRd (S:DS) (s:Nat) (f n:Int):Nat:=if cy S s f n≠0 then 0 else n.toNat+2
section
variable {w:World} {F:Nat->Prop} {p s cR:Nat} {S:DS}
def Tq (h:ax w F p s S cR) (dO:S.fN) (f n:Int) (aU:S.puts.length+500<=4000000000000):
  Calls prog 55 #[pQ p,iV f,iV n] w λe w'=>Kr w w' p s S f n e/\ax w' F p s (bC S s f n).2 (cR+oRd S s f n)/\aa F w w':=by
 have A:=h.lt;have DO:¬F w.heap.size:=λm=>by have:=h.lt _ m;omega
 have z:=(aJ w (.cells #[.pointer (some ⟨p,0,none⟩), .int .i64 f, .int .i64 n] 144));have rL:(w.alloc (.cells #[.pointer (some ⟨p,0,none⟩), .int .i64 f, .int .i64 n] 144)).heap[w.heap.size]? =some (.cells #[.pointer (some ⟨p,0,none⟩), .int .i64 f, .int .i64 n] 144 (0,0)):=heap_alloc_new _ _;have xC:=h.boxed (.cells #[.pointer (some ⟨p,0,none⟩), .int .i64 f, .int .i64 n] 144);have m:=tZ xC f n;unfold Kr bC oRd;by_cases q:cy S s f n=0
 .simp only [aB (λh:¬cy S s f n=0=>h q)];obtain⟨ZE,a,b,rfl,rfl,oN,ar,bd⟩:=fX q;rw [q] at m;simp only [mx];have C:=(λ(c:World) (l:Nat) (cI:ax c F p s S.take cR) (M:cY c l p (LG.new S a b)) (rW:¬F l)=>(Lm cI M rW dO.take oN (by show 1<=b;omega) bd ZE (by show S.puts.length+1<=_;omega)).mono (λe w' h=>aH h.1.ZO (aH (show ax w' F p s S.take (cR+2+b) from h.2.1) h.2.2)));by_cases D:(cm S a).2.2=0
  .have Yd:=D;simp only [aB (λh:¬(cm S a).2.2=0=>h D)];by_cases E:is S a b=1073741824
   .have CT:=E;simp only [aG E];simp only [aG (show (41:Int)≠0 by decide)];go_in;go_wp2_with fail;refine bJ m λw1 g=>?_;have jL:w1.heap[w.heap.size]? =_:=(g.block _ (by simp)).trans rL;have r:=aM jL;have t:=bG jL;have u:=bM jL;have cQ:=(z.trans (g.mono (by simp)));go_wp2_with fail;go_region_held3 (λw'=>w'.cell? (aD w.heap.size 0)=some (pQ p)/\w'.cell? (aD w.heap.size 1)=some (iV (a:Int))/\w'.cell? (aD w.heap.size 2)=some (iV (b:Int)))
     (first|exact⟨r,t,u⟩|exact⟨aM mq,bG mq,bM mq⟩|exact⟨aM (tT _),bG (tT _),bM (tT _)⟩)
       ((go_at_call 48;refine(zZ (xC.later (g.trans (ai (bi w1.heap.size w1) |>.mono g.size)))).mono ?_;rintro e c ⟨rfl,cI,aY⟩;have mq:=eF (w:=w1.drew) jL aY DO;have tT:=λo=>(aJ c o).block _ (aq mq) |>.trans mq))
    have dE:w.heap.size<w1.heap.size:=(by have:=cQ.size;have:=aq jL;omega);have em:w1.heap.size<=c.heap.size:=aY.size;have fK:cY (c.alloc (.cells (Jj p (LG.new S a b)) 149)) c.heap.size p (LG.new S a b):=heap_alloc_new _ _;have FD:=(λh:F c.heap.size=>by have:=A _ h;omega:¬F c.heap.size);have pr:aa F w (c.alloc (.cells (Jj p (LG.new S a b)) 149)):=((aa.ah F (ai cQ)).trans aY (λ_ h=> .inl h)).trans (aa.boxed F _) (λ_ h=> .inl h);go_wp2_with fail;refine(C _ c.heap.size (cI.boxed (.cells (Jj p (LG.new S a b)) 149)) fK FD).mono ?_;rintro e y ⟨j,i,aZ⟩;rw [aB (λh=>h Yd),aG CT] at j;subst j;go_wp2_with fail;go_ret3;exact⟨rfl,(aH (i.le (by omega:cR+2+b<=cR+(b+2))) (pr.trans aZ (λk h=>h.elim .inl (λe=> .inr (by omega)))))⟩
   .have CT:=E;simp only [aB E];have H:=(λ(y:World) (i:ax y F p s S.take (cR+2+b))=>vI i (by show S.puts.length+1<=_;omega));generalize S.take.fl s=Y at*;by_cases k:Y.1=0
    .simp only [aB (λh:¬Y.1=0=>h k)];have d:(Y.1 == 0)=true:=(by rw [beq_iff_eq];exact k);go_in;go_wp2_with fail;refine bJ m λw1 g=>?_;have jL:w1.heap[w.heap.size]? =_:=(g.block _ (by simp)).trans rL;have r:=aM jL;have t:=bG jL;have u:=bM jL;have cQ:=(z.trans (g.mono (by simp)));go_wp2_with fail;go_region_held3 (λw'=>w'.cell? (aD w.heap.size 0)=some (pQ p)/\w'.cell? (aD w.heap.size 1)=some (iV (a:Int))/\w'.cell? (aD w.heap.size 2)=some (iV (b:Int)))
      (first|exact⟨r,t,u⟩|exact⟨aM mq,bG mq,bM mq⟩|exact⟨aM (tT _),bG (tT _),bM (tT _)⟩)
        ((go_at_call 48;refine(zZ (xC.later (g.trans (ai (bi w1.heap.size w1) |>.mono g.size)))).mono ?_;rintro e c ⟨rfl,cI,aY⟩;have mq:=eF (w:=w1.drew) jL aY DO;have tT:=λo=>(aJ c o).block _ (aq mq) |>.trans mq))
     have dE:w.heap.size<w1.heap.size:=(by have:=cQ.size;have:=aq jL;omega);have em:w1.heap.size<=c.heap.size:=aY.size;have fK:cY (c.alloc (.cells (Jj p (LG.new S a b)) 149)) c.heap.size p (LG.new S a b):=heap_alloc_new _ _;have FD:=(λh:F c.heap.size=>by have:=A _ h;omega:¬F c.heap.size);have pr:aa F w (c.alloc (.cells (Jj p (LG.new S a b)) 149)):=((aa.ah F (ai cQ)).trans aY (λ_ h=> .inl h)).trans (aa.boxed F _) (λ_ h=> .inl h);go_wp2_with fail;refine(C _ c.heap.size (cI.boxed (.cells (Jj p (LG.new S a b)) 149)) fK FD).mono ?_;rintro e y ⟨j,i,aZ⟩;rw [aB (λh=>h Yd),aB CT] at j;obtain⟨v,rs,hd,rfl,J⟩:=j;have lW:=(pr.trans aZ (λk h=>h.elim .inl (λe=> .inr (by omega))));have G:w.heap.size<=(c.alloc (.cells (Jj p (LG.new S a b)) 149)).heap.size:=(by simp;omega);go_wp2_with fail;refine(H y i).mono ?_;rintro e N ⟨rfl,x,dW⟩;have I:=(aH ((J.low (B':=w.heap.size) G).aw dW (λk L=>A k L) FD) (aH (x.le (by omega:cR+2+b<=cR+(b+2))) (lW.trans dW (λ_ h=> .inl h))));go_wp2_with fail;go_ret3;exact⟨⟨_,_,_,_,rfl,by omega,I.1⟩,I.2⟩
    .simp only [aG (λh=>k h:¬Y.1=0)];have d:(Y.1 == 0)=false:=(by rw [fy];exact k);go_in;go_wp2_with fail;refine bJ m λw1 g=>?_;have jL:w1.heap[w.heap.size]? =_:=(g.block _ (by simp)).trans rL;have r:=aM jL;have t:=bG jL;have u:=bM jL;have cQ:=(z.trans (g.mono (by simp)));go_wp2_with fail;go_region_held3 (λw'=>w'.cell? (aD w.heap.size 0)=some (pQ p)/\w'.cell? (aD w.heap.size 1)=some (iV (a:Int))/\w'.cell? (aD w.heap.size 2)=some (iV (b:Int)))
      (first|exact⟨r,t,u⟩|exact⟨aM mq,bG mq,bM mq⟩|exact⟨aM (tT _),bG (tT _),bM (tT _)⟩)
        ((go_at_call 48;refine(zZ (xC.later (g.trans (ai (bi w1.heap.size w1) |>.mono g.size)))).mono ?_;rintro e c ⟨rfl,cI,aY⟩;have mq:=eF (w:=w1.drew) jL aY DO;have tT:=λo=>(aJ c o).block _ (aq mq) |>.trans mq))
     have dE:w.heap.size<w1.heap.size:=(by have:=cQ.size;have:=aq jL;omega);have em:w1.heap.size<=c.heap.size:=aY.size;have fK:cY (c.alloc (.cells (Jj p (LG.new S a b)) 149)) c.heap.size p (LG.new S a b):=heap_alloc_new _ _;have FD:=(λh:F c.heap.size=>by have:=A _ h;omega:¬F c.heap.size);have pr:aa F w (c.alloc (.cells (Jj p (LG.new S a b)) 149)):=((aa.ah F (ai cQ)).trans aY (λ_ h=> .inl h)).trans (aa.boxed F _) (λ_ h=> .inl h);go_wp2_with fail;refine(C _ c.heap.size (cI.boxed (.cells (Jj p (LG.new S a b)) 149)) fK FD).mono ?_;rintro e y ⟨j,i,aZ⟩;rw [aB (λh=>h Yd),aB CT] at j;obtain⟨v,rs,hd,rfl,J⟩:=j;have lW:=(pr.trans aZ (λk h=>h.elim .inl (λe=> .inr (by omega))));go_wp2_with fail;refine(H y i).mono ?_;rintro e N ⟨rfl,x,dW⟩;go_wp2_with fail;go_ret3;exact⟨rfl,aH (x.le (by omega:cR+2+b<=cR+(b+2))) (lW.trans dW (λ_ h=> .inl h))⟩
  .have Yd:=D;have K:(((cm S a).2.2:Int) == 0)=false:=(by rw [fy];omega);simp only [aG (λh=>D h:¬(cm S a).2.2=0)];simp only [aG (show (((cm S a).2.2:Nat):Int)≠0 by omega)];go_in;go_wp2_with fail;refine bJ m λw1 g=>?_;have jL:w1.heap[w.heap.size]? =_:=(g.block _ (by simp)).trans rL;have r:=aM jL;have t:=bG jL;have u:=bM jL;have cQ:=(z.trans (g.mono (by simp)));go_wp2_with fail;go_region_held3 (λw'=>w'.cell? (aD w.heap.size 0)=some (pQ p)/\w'.cell? (aD w.heap.size 1)=some (iV (a:Int))/\w'.cell? (aD w.heap.size 2)=some (iV (b:Int)))
    (first|exact⟨r,t,u⟩|exact⟨aM mq,bG mq,bM mq⟩|exact⟨aM (tT _),bG (tT _),bM (tT _)⟩)
      ((go_at_call 48;refine(zZ (xC.later (g.trans (ai (bi w1.heap.size w1) |>.mono g.size)))).mono ?_;rintro e c ⟨rfl,cI,aY⟩;have mq:=eF (w:=w1.drew) jL aY DO;have tT:=λo=>(aJ c o).block _ (aq mq) |>.trans mq))
   have dE:w.heap.size<w1.heap.size:=(by have:=cQ.size;have:=aq jL;omega);have em:w1.heap.size<=c.heap.size:=aY.size;have fK:cY (c.alloc (.cells (Jj p (LG.new S a b)) 149)) c.heap.size p (LG.new S a b):=heap_alloc_new _ _;have FD:=(λh:F c.heap.size=>by have:=A _ h;omega:¬F c.heap.size);have pr:aa F w (c.alloc (.cells (Jj p (LG.new S a b)) 149)):=((aa.ah F (ai cQ)).trans aY (λ_ h=> .inl h)).trans (aa.boxed F _) (λ_ h=> .inl h);go_wp2_with fail;refine(C _ c.heap.size (cI.boxed (.cells (Jj p (LG.new S a b)) 149)) fK FD).mono ?_;rintro e y ⟨j,i,aZ⟩;rw [aG (λh=>Yd h)] at j;subst j;go_wp2_with fail;go_ret3;exact⟨rfl,(aH (i.le (by omega:cR+2+b<=cR+(b+2))) (pr.trans aZ (λk h=>h.elim .inl (λe=> .inr (by omega)))))⟩
 .simp only [aG (λh=>q h:¬cy S s f n=0)];have K:(cy S s f n == 0)=false:=by rw [fy];exact q
  go_in;go_wp2_with fail;refine bJ m λw1 g=>?_;go_wp2_with fail;go_ret3;exact⟨rfl,(aH (xC.later g) (aa.ah F (z.trans (g.mono (by simp)))))⟩
end
end B
end
section
namespace B
section
variable {w:World} {F:Nat->Prop} {p s l cR:Nat} {S:DS} {L:LG}
def O5 (h:ax w F p s S cR) (t:cY w l p L) (a:L.Ok s) (q:¬F l) (dO:S.fN) (aU:S.puts.length+2<=4000000000000):
  Calls prog 57 #[pQ l] w λe w'=>e= .returned (iV (L.start S s).1)/\ax w' (more F w w') p s (L.start S s).2.1 (cR+2)/\cY w' l p (L.start S s).2.2/\aa (λk=>F k\/k=l) w w':=by
 obtain⟨i,j,c,bq,O,D9⟩:=jH (ub h t) t h t.lt a.s a.top;unfold LG.start;have u:=(λb (cI:ax b F p s S cR)=>KK cI L.f L.n (L.top+1) 0 (by omega) (by omega) aU (by have:=a.n1;omega) (dO.now _) (dO.now _));go_in;cases hd:L.dead S
 .rw [hd] at i;rw [aB (by decide)];cases r:L.begun
  .rw [aB (by decide)];generalize N:dg S s L.f (((L.top+1:Nat):Int)*4294967296+((0:Nat):Int))=Y at*;by_cases k:Y.1=0
   .rw [aB (λh=>h k)];have d:(Y.1 == 0)=true:=(by rw [beq_iff_eq];exact k);go_wp2_with fail;refine bJ i λw1 ar=>?_;have cu:=j.later ar;obtain⟨x,y,z,g,A⟩:=eQ cu.c0 cu.c1 cu.c2 cu.c4 cu.c8;rw [r] at g;have m:=u w1 (c.later ar);rw [show ((L.top+1:Nat):Int)=(L.top:Int)+1 by omega,show (((0:Nat):Int))=0 from rfl] at m;go_wp2_with fail;refine fQ m λb cI aY=>?_;have fK:=cu.aw aY q;obtain⟨I,J,K,M,g,D,E,H,dE,em⟩:=wn (fK.fz 4) (fK.fz 5) (fK.fz 6) (fK.fz 7) fK.c4 fK.c5 fK.c6 fK.c7 ar.size aY.size;have C:aa (λk=>F k\/k=l) w ((((b.setCell ⟨l,4,none⟩ (.bool true)).setCell ⟨l,5,none⟩ (.int .i64 ((L.top:Int)+1))).setCell ⟨l,6,none⟩ (.int .i64 0)).setCell ⟨l,7,none⟩ (.int .i64 0)):=
       (((((aa.ah (λk=>F k\/k=l) ar).trans aY (λ_ h=> .inl (.inl h))).trans (aL (F:=λk=>k=l) b rfl 4 _) (λ_ h=> .inl (.inr h))).trans (aL (F:=λk=>k=l) _ rfl 5 _) (λ_ h=> .inl (.inr h))).trans (aL (F:=λk=>k=l) _ rfl 6 _) (λ_ h=> .inl (.inr h))).trans (aL (F:=λk=>k=l) _ rfl 7 _) (λ_ h=> .inl (.inr h))
    have o:ax ((((b.setCell ⟨l,4,none⟩ (.bool true)).setCell ⟨l,5,none⟩ (.int .i64 ((L.top:Int)+1))).setCell ⟨l,6,none⟩ (.int .i64 0)).setCell ⟨l,7,none⟩ (.int .i64 0)) (more F w1 b) p s Y.2 (cR+2):=by
     have dM:∀k,more F w1 b k->¬k=l:=λk a e=>by
      subst e;rcases a with a|a
      .exact q a
      .omega
     exact(((cI.aw (aL (F:=λk=>k=l) b rfl 4 _) dM).aw (aL (F:=λk=>k=l) _ rfl 5 _) dM).aw (aL (F:=λk=>k=l) _ rfl 6 _) dM).aw (aL (F:=λk=>k=l) _ rfl 7 _) dM
    have eM:((((b.setCell ⟨l,4,none⟩ (.bool true)).setCell ⟨l,5,none⟩ (.int .i64 ((L.top:Int)+1))).setCell ⟨l,6,none⟩ (.int .i64 0)).setCell ⟨l,7,none⟩ (.int .i64 0)).heap.size=b.heap.size:=(by simp [World.setCell]);have v:=(aH ((o.mono (G:=more F w ((((b.setCell ⟨l,4,none⟩ (.bool true)).setCell ⟨l,5,none⟩ (.int .i64 ((L.top:Int)+1))).setCell ⟨l,6,none⟩ (.int .i64 0)).setCell ⟨l,7,none⟩ (.int .i64 0))) (λk a=>by
      rcases a with a|a
      .exact .inl a
      .exact .inr ⟨by omega,by rw [eM];exact a.2⟩) (cK (F:=F) (w:=w) c.lt (by rw [eM];omega)))) (aH (fK.started ((L.top:Int)+1) (L.top+1) (by omega)) C))
    go_wp2;go_ret;exact⟨rfl,v⟩
   .rw [aG k];have d:(Y.1 == 0)=false:=(by rw [fy];exact k);go_wp2_with fail;refine bJ i λw1 ar=>?_;have cu:=j.later ar;obtain⟨x,y,z,g,A⟩:=eQ cu.c0 cu.c1 cu.c2 cu.c4 cu.c8;rw [r] at g;have m:=u w1 (c.later ar);rw [show ((L.top+1:Nat):Int)=(L.top:Int)+1 by omega,show (((0:Nat):Int))=0 from rfl] at m;have cQ:=ar;go_wp2_with fail;refine fQ m λb cI aY=>?_;go_wp2;go_ret;exact⟨rfl,(aH (cI.from c.lt cQ.size aY.size) (aH (cu.aw aY q) ((aa.ah (λk=>F k\/k=l) cQ).trans aY (λ_ h=> .inl (.inl h)))))⟩
  .rw [aG rfl];go_wp2_with fail;refine bJ i λw1 ar=>?_;have g:=(j.later ar).c4;rw [r] at g;go_wp2;go_ret;exact⟨rfl,aH (((c.later ar).more (w:=w)).le (by omega:cR<=cR+2)) (aH (j.later ar) (aa.ah (λk=>F k\/k=l) ar))⟩
 .rw [hd] at i;rw [aG rfl];go_wp2_with fail;refine bJ i λw1 ar=>?_;go_wp2;go_ret;exact⟨rfl,aH (((c.later ar).more (w:=w)).le (by omega:cR<=cR+2)) (aH (j.later ar) (aa.ah (λk=>F k\/k=l) ar))⟩
end
end B
end
def Ds {R:Nat->PC} {E:Nat} (a:∀q,(R q).d.length<=492):∀{rs:List (List Int)} {P h:Nat},dF R E P rs h->∀d∈rs,d.length<=8364
 | [],_,_,_,d,hd=>by cases hd
 |x :: xs,P,h,⟨k,hk,ht⟩,d,hd=>by
  rcases List.mem_cons.1 hd with rfl|b
  .have e:∀c,(lu R P c).length<=492*c:=λc=>by
    induction c with
    |zero=>simp [mF]
    |succ c f=>rw [iD,ee];have:=a (P+c);omega
   have:=e k;have:=hk.2.1;rw [hk.2.2.2];omega
  .exact Ds a ht d b
def xv {R:Nat->PC} {E:Nat} (b:∀q,Bytes (R q).d):∀{rs:List (List Int)} {P h:Nat},dF R E P rs h->∀d∈rs,Bytes d
 | [],_,_,_,d,hd=>by cases hd
 |x :: xs,P,h,⟨k,hk,ht⟩,d,hd=>by
  rcases List.mem_cons.1 hd with rfl|e
  .have f:∀c,Bytes (lu R P c):=λc=>by
    induction c with
    |zero=>intro x a;simp [mF] at a
    |succ c g=>
     rw [iD];intro x a;rcases List.mem_append.1 a with a|a
     .exact g x a
     .exact b _ x a
   rw [hk.2.2.2];exact f k
  .exact xv b ht d e
structure jT (S:DS) (f n:Nat) (rs:List (List Int)) (hd:Nat):Prop where
 t:dF (Rp (ed S f) n) (cm S f).1 (cm S f).2.1 rs hd
 x:∀c d,¬Rec (Rp (ed S f) n) (cm S f).1 hd c d
def jT.small {b:Nat} (h:jT S a b rs hd) (dO:S.fN) (ar:1<=b):rs.length<=b/\(∀r∈rs,Bytes r/\r.length<=1000000)/\(cm S a).2.1<=hd/\hd<=(cm S a).2.1+b:=by
 have d:=dF.round ar (uf (ed S a) b) h.t;have f:=dF.length h.t;have e:=dF.le h.t;refine⟨by omega,λr c=>⟨?_,?_⟩,e,d⟩
 .exact xv (λq=>(kn (dO.now (a+2+q%b))).2.2.2.2.2) h.t r c
 .have:=Ds (λq=>(kn (dO.now (a+2+q%b))).2.2.2.2.1) h.t r c;omega
def fj (S:DS) (f n hd:Nat):LG:={LG.new S f n with ep:=(cm S f).1,tail:=(cm S f).2.1,head:=hd,top:=is S f n}
def yB {b:Nat} (h:jT S a b rs hd) (dO:S.fN) (d:(cm S a).2.2=0) (g:is S a b≠1073741824) (oN:a+2+b<=s) (ar:18<=b) (bd:b<=256):(fj S a b hd).Ok s:=by
 obtain⟨_,_,e,f⟩:=h.small dO (by omega);have Sb:=yu d;have PJ:=Em (n:=b) d;refine⟨oN,ar,bd,Sb.2.1,?_,e,f,?_,λc=>by cases c⟩
 .show is S a b<_;omega
 .show hd<=_;omega
def mg (h:(bC S s f n).1=0):cy S s f n=0/\(cm S f).2.2=0/\is S f n≠1073741824/\bC S s f n=S.take.fl s:=by
 unfold bC at*;simp only [mx] at*;split at h
 .rename_i k;exact absurd h k
 .rename_i a;split at h
  .rename_i k;exact absurd (Int.ofNat_eq_zero.1 h) k
  .rename_i b;split at h
   .cases h
   .rename_i c;exact⟨Decidable.of_not_not a,Decidable.of_not_not b,c,by rw [aB a,aB b,aB c]⟩
def EX (a b:Nat) (f:Value) (x:Value) (w:World) (c:w.heap[a]? =some (.cells #[f] 53 (0,0))) (d:w.heap[b]? =some (.cells #[x] 49 (0,0))) (dM:a≠b):
  CallsD prog 53 #[.pointer (some ⟨a,0,none⟩), .pointer (some ⟨b,0,none⟩)] (.panicking R9) w λe i w'=>
   e= .returned (.tuple #[])/\i= .panicking [{v:= .iface 49 (.int .i64 6),recovered:=true}]/\w'=(w.setCell ⟨a,0,none⟩ (.pointer none)).setCell ⟨b,0,none⟩ (.int .i64 6):=by
 have ajL:¬b=a:=λe=>dM e.symm;refine callsD_of_wpS func53 rfl λj cs g=>?_;apply wpS_seq;apply wpS_region;simp [wpOpsS,go_sem,recoverD,g,ntmps53,Exit.thenS];refine wpS_cond (t:=true) (by simp [Act.eval,Array.replicate]) ?_;simp only [if_true];apply wpS_region;simp [wpOpsS,go_sem,aM c,ae c 0,aM d,ae d 0,bodyPostS,results,results53]
def kX (b c:Nat) (w:World):
  CallsD prog 53 #[.pointer (some ⟨b,0,none⟩), .pointer (some ⟨c,0,none⟩)] .returning w λe f w'=>e= .returned (.tuple #[])/\f= .returning/\w'=w:=by
 refine callsD_of_wpS func53 rfl λa cs d=>?_;apply wpS_seq;apply wpS_region;simp [wpOpsS,go_sem,recoverD,d,ntmps53,Exit.thenS];refine wpS_cond (t:=false) (by simp [Act.eval,Array.replicate]) ?_;simp only [Bool.false_eq_true,if_false];refine wpS_of_wp (wp_skip ?_);cases a
 simp_all [bodyPostS,results,results53]
def j5 (S:DS) (s:Nat) (x:Int) (S':DS):Prop:=
   (Te S s Yy x/\x≠0/\S'=S)\/
   (mQ (S.now 0) s/\S.fuse≠0/\(((bC S s 1 ((cE (S.now 0)).log:Nat)).1=x/\x≠0/\S'=(bC S s 1 ((cE (S.now 0)).log:Nat)).2)\/
    ((bC S s 1 ((cE (S.now 0)).log:Nat)).1=0/\∃rs hd,jT S 1 (cE (S.now 0)).log rs hd/\
     ((iI (cE (S.now 0)).blocks [] rs=none/\x=6/\S'=(bC S s 1 ((cE (S.now 0)).log:Nat)).2)\/
    ∃ov,iI (cE (S.now 0)).blocks [] rs=some ov/\
       (((ev (bC S s 1 ((cE (S.now 0)).log:Nat)).2 s (cE (S.now 0)) ov rs).1=x/\x≠0/\S'=(ev (bC S s 1 ((cE (S.now 0)).log:Nat)).2 s (cE (S.now 0)) ov rs).2)\/
        ((ev (bC S s 1 ((cE (S.now 0)).log:Nat)).2 s (cE (S.now 0)) ov rs).1=0/\((fj S 1 (cE (S.now 0)).log hd).start (ev (bC S s 1 ((cE (S.now 0)).log:Nat)).2 s (cE (S.now 0)) ov rs).2 s).1=x/\S'=((fj S 1 (cE (S.now 0)).log hd).start (ev (bC S s 1 ((cE (S.now 0)).log:Nat)).2 s (cE (S.now 0)) ov rs).2 s).2.1))))))
def aeY (bq:∀k,F k->k<w.heap.size) (fK:w.heap.size+1<w2.heap.size) (pB:w2.heap[w.heap.size]? =some (.cells #[.pointer none] 53 (0,0))) (gh:w2.heap[w.heap.size+1]? =some (.cells #[.int .i64 0] 49 (0,0))) (hd:B.ax w2 F p s S c) (g:aa F w w2) (x:Int) (o:Obj):
    ((w2.setCell ⟨w.heap.size+1,0,none⟩ (.int .i64 x)).alloc o).heap[w.heap.size]? =some (.cells #[.pointer none] 53 (0,0))/\((w2.setCell ⟨w.heap.size+1,0,none⟩ (.int .i64 x)).alloc o).heap[w.heap.size+1]? =some (.cells #[.int .i64 x] 49 (0,0))/\((w2.setCell ⟨w.heap.size+1,0,none⟩ (.int .i64 x)).alloc o).heap[w2.heap.size]? =some o/\B.ax ((w2.setCell ⟨w.heap.size+1,0,none⟩ (.int .i64 x)).alloc o) F p s S c/\aa F w ((w2.setCell ⟨w.heap.size+1,0,none⟩ (.int .i64 x)).alloc o)/\((w2.setCell ⟨w.heap.size+1,0,none⟩ (.int .i64 x)).alloc o).heap.size=w2.heap.size+1:=by
 have a:=aa.setCell (F:=λk=>k=w.heap.size+1) w2 (p:=⟨w.heap.size+1,0,none⟩) rfl (.int .i64 x);have d:=size_setCell w2 ⟨w.heap.size+1,0,none⟩ (.int .i64 x);have b:=Below.heap_alloc (w2.setCell ⟨w.heap.size+1,0,none⟩ (.int .i64 x)) o;refine⟨(b _ (by omega)).trans ((a.block _ (by omega) (by omega)).trans pB),(b _ (by omega)).trans ?_,?_,?_,?_,by rw [World.size_alloc,d]⟩
 .rw [heap_setCell_same _ _ _ _ _ _ gh];rfl
 .rw [<-d];exact heap_alloc_new _ _
 .exact(hd.aw a (λk f e=>by have:=bq _ f;omega)).boxed o
 .exact(g.trans a (λk e=> .inr (by omega))).trans (aa.alloc (λ_=>False) _ o) (λ_ h=>h.elim)
def oset {a:World} {y:Int} (bq:∀k,F k->k<w.heap.size\/w.heap.size+2<=k) (pB:a.heap[w.heap.size]? =some (.cells #[u] 53 (0,0))) (gh:a.heap[w.heap.size+1]? =some (.cells #[.int .i64 y] 49 (0,0))) (hd:B.ax a F p s S c):
    ((a.setCell ⟨w.heap.size,0,none⟩ v).setCell ⟨w.heap.size+1,0,none⟩ (.int .i64 x)).heap[w.heap.size]? =some (.cells #[v] 53 (0,0))/\((a.setCell ⟨w.heap.size,0,none⟩ v).setCell ⟨w.heap.size+1,0,none⟩ (.int .i64 x)).heap[w.heap.size+1]? =some (.cells #[.int .i64 x] 49 (0,0))/\B.ax ((a.setCell ⟨w.heap.size,0,none⟩ v).setCell ⟨w.heap.size+1,0,none⟩ (.int .i64 x)) F p s S c/\aa (λk=>k=w.heap.size\/k=w.heap.size+1) a ((a.setCell ⟨w.heap.size,0,none⟩ v).setCell ⟨w.heap.size+1,0,none⟩ (.int .i64 x)):=by
 have b:=aa.setCell (F:=λk=>k=w.heap.size\/k=w.heap.size+1) a (p:=⟨w.heap.size,0,none⟩) (.inl rfl) v;have d:=aa.setCell (F:=λk=>k=w.heap.size\/k=w.heap.size+1) (a.setCell ⟨w.heap.size,0,none⟩ v) (p:=⟨w.heap.size+1,0,none⟩) (.inr rfl) (.int .i64 x);have f:(a.setCell ⟨w.heap.size,0,none⟩ v).heap[w.heap.size]? =some (.cells #[v] 53 (0,0)):=by
  rw [heap_setCell_same _ _ _ _ _ _ pB];rfl
 have g:(a.setCell ⟨w.heap.size,0,none⟩ v).heap[w.heap.size+1]? =some (.cells #[.int .i64 y] 49 (0,0)):=(Below.heap_setCell _ _ _ _ (by simp)).trans gh;refine⟨(Below.heap_setCell _ _ _ _ (by simp)).trans f,?_,?_,b.trans d (λ_ h=> .inl h)⟩
 .rw [heap_setCell_same _ _ _ _ _ _ g];rfl
 .exact hd.aw (b.trans d (λ_ h=> .inl h)) (λk i e=>by have:=bq _ i;omega)
def O6 (h:B.ax w F p s S c) (dO:S.fN) (aU:S.puts.length+1<=4000000000000) (jd:S.fuse=0\/¬mQ (S.now 0) s):
  Calls prog 18 #[.pointer (some ⟨p,0,none⟩)] w λe w'=>∃x,e= .returned (.tuple #[.pointer none, .int .i64 x])/\j5 S s x S/\B.ax w' F p s S (c+1)/\aa F w w':=by
 obtain⟨w1,bT⟩:=bP ((w.alloc (.cells #[.pointer none] 53)).alloc (.cells #[.int .i64 0] 49));have bN:Below w.heap.size w w1:=by rw [bT];exact co w _ _
 have sy:w1.heap.size=w.heap.size+2:=by rw [bT];simp
 have pB:w1.heap[w.heap.size]? =some (.cells #[.pointer none] 53 (0,0)):=by rw [bT];exact heap_alloc2_old _ _ _
 have gh:w1.heap[w.heap.size+1]? =some (.cells #[.int .i64 0] 49 (0,0)):=by rw [bT];exact heap_alloc2_new _ _ _
 have bq:=h.lt
 go_enter_defers func18,ntmps18
 go_wp2_with fail;rw [<-bT];refine(uI (h.later bN) dO aU).mono ?_;rintro e i ⟨y,x,rfl,oo,cI,aY⟩;have em:=aY.size;have rL:x≠0/\y=Yy:=by
  rcases oo with ⟨_,b,D⟩|⟨C,b,_⟩|⟨_,_,b,D⟩
  .exact⟨by omega,b⟩
  .rcases jd with h|h
   .exact absurd h C
   .exact absurd b h
  .exact⟨by omega,b⟩
 obtain⟨o,rfl⟩:=rL;have z:(j5 S s x S):= .inl ⟨oo,o,rfl⟩;have Xe:=(aY.block w.heap.size (by omega) (λd=>by have:=bq _ d;omega)).trans pB;have Ir:=(aY.block (w.heap.size+1) (by omega) (λd=>by have:=bq _ d;omega)).trans gh;have n:(B.ax i F p s S (c+1)/\aa F w i):=⟨cI,(aa.ah F bN).trans aY (λ_ h=> .inl h)⟩;have N:=aM Ir;have O:=ae Ir 0;have A:(x != 0)=true:=by simp [o]
 have fK:w.heap.size+1<i.heap.size:=by omega
 obtain⟨l,m,_,E,G,_⟩:=aeY bq fK Xe Ir n.1 n.2 x (.cells #[.int .i64 0, .int .i64 0, .int .i64 0, .int .i64 0, .int .i64 0] 86)
 dsimp only [P6]
 go_upto_region 3 with fail
 generalize (i.setCell ⟨w.heap.size+1,0,none⟩ (.int .i64 x)).alloc (.cells #[.int .i64 0, .int .i64 0, .int .i64 0, .int .i64 0, .int .i64 0] 86)=K at*;obtain⟨g,L,P,M,Q⟩:=eQ ((aH l (aH m (aH E G)))) (aM l) (ae l 0) (aj m (j:=0) (u:= .int .i64 x) rfl) (ae m 0)
 go_upto_region 4 with fail
 go_region
 obtain⟨q,r,p3,H⟩:=oset (w:=w) (v:= .pointer none) (x:=x) (λk d=> .inl (bq k d)) g.1 g.2.1 g.2.2.1;generalize (K.setCell ⟨w.heap.size,0,none⟩ (.pointer none)).setCell ⟨w.heap.size+1,0,none⟩ (.int .i64 x)=a at*;have U2:Below a.heap.size a a.drew:=ai (bi _ _);have t:(B.ax a.drew F p s S (c+1)/\aa F w a.drew):=⟨p3.later U2,(g.2.2.2.trans H (λk e=> .inr (by omega))).trans (aa.ah (λ_=>False) U2) (λ_ h=>h.elim)⟩;have I:=aj ((U2.block _ (aq q)).trans q) (j:=0) (u:= .pointer none) rfl;have J:=aj ((U2.block _ (aq r)).trans r) (j:=0) (u:= .int .i64 x) rfl;generalize a.drew=w5 at*;go_wp2;refine leaves_cons (f:=53) (args:= #[.pointer (some ⟨w.heap.size,0,none⟩), .pointer (some ⟨w.heap.size+1,0,none⟩)]) (by simp) (by simp [go_sem]) ?_;refine(kX _ _ _).mono ?_;rintro e R BI ⟨rfl,rfl,rfl⟩;simp [Leaves,settle,results,results18,go_sem,I,J];exact⟨z,t⟩
def tz (h:L.Ok s) (h0:(L.start S s).1=0):(L.start S s).2.2.Ok s/\(L.start S s).2.2.begun=true:=by
 unfold LG.start at*;split
 .rename_i k;rw [aG k] at h0;cases h0
 .rename_i k;rw [aB k] at h0;split
  .rename_i a;rw [aG a] at h0;cases h0
  .rename_i a;rw [aB a] at h0;split
   .rename_i b;rw [aG b] at h0;exact absurd h0 b
   .have c:=h.top;exact⟨⟨h.s,h.n1,h.n2,by show L.top+1<=_;omega,h.top,bR _,by show 0<=_;omega,by show 0<=_;omega,λ_=>by show 0<=_;omega⟩,rfl⟩
def uN:∀{ks:List Nat} {l r:List Int} {cs:CM},dV ks l=some (cs,r)->Bytes l->∀x∈cs,Bytes x.2
 | [],l,r,cs,h,_=>by
  simp only [dV,Option.some.injEq,Prod.mk.injEq] at h;obtain⟨rfl,_⟩:=h;simp
 |k :: ks,l,r,cs,h,hb=>by
  rw [jB] at h;split at h
  .cases h
  .cases a:dV ks (l.drop 512) with
   |none=>rw [a] at h;cases h
   |some x=>
    rw [a] at h;simp only [Option.map_some,Option.some.injEq,Prod.mk.injEq] at h;obtain⟨rfl,rfl⟩:=h;intro z b;rcases List.mem_cons.1 b with rfl|b
    .exact hb.take 512
    .exact uN (cs:=x.1) (r:=x.2) a (hb.drop 512) z b
def uO {blocks:Nat}:∀{n lo:Nat} {l r:List Int} {ks:List Nat},gT blocks n lo l=some (ks,r)->Bytes l->Bytes r
 |0,lo,l,r,ks,h,hb=>by
  simp only [gT,Option.some.injEq,Prod.mk.injEq] at h;obtain⟨_,rfl⟩:=h;exact hb
 |n+1,lo,l,r,ks,h,hb=>by
  rw [qJ] at h;split at h
  .cases h
  .split at h
   .cases a:gT blocks n (le (l.take 4)+1) (l.drop 4) with
    |none=>rw [a] at h;cases h
    |some x=>
     rw [a] at h;simp only [Option.map_some,Option.some.injEq,Prod.mk.injEq] at h;obtain⟨_,rfl⟩:=h;exact uO (ks:=x.1) (r:=x.2) a (hb.drop 4)
   .cases h
def Is (h:gG blocks d=some cs) (c:Bytes d):∀x∈cs,Bytes x.2:=by
 unfold gG at h;split at h
 .cases h
 .split at h
  .split at h
   .cases h
   .rename_i ks r e;cases b:dV ks r with
    |none=>rw [b] at h;cases h
    |some x=>
     obtain⟨g,f⟩:=x;rw [b] at h;cases f with
     |nil=>
      simp only [jS,Option.some.injEq] at h;subst h;exact uN b (uO e (c.drop 2))
     |cons a t=>cases h
  .cases h
def Ln:∀{cs:CM},(∀x∈ms,Bytes x.2)->(∀x∈cs,Bytes x.2)->∀x∈CM.bU ms cs,Bytes x.2:=by
 intro cs
 induction cs generalizing ms with
 |nil=>intro h _ x a;exact h x a
 |cons q c f=>
  intro d b;have e:CM.bU ms (q :: c)=CM.bU (CM.put ms q.1 q.2) c:=rfl;rw [e];refine f (λx a=>?_) (λx a=>b x (List.mem_cons_of_mem _ a));rcases CM.rg a with rfl|a
  .exact b q (by simp)
  .exact d x a
def qM {blocks:Nat}:∀{rs:List (List Int)} {ms ov:CM},iI blocks ms rs=some ov->(∀x∈ms,Bytes x.2)->(∀r∈rs,Bytes r)->∀x∈ov,Bytes x.2
 | [],ms,ov,h,hm,_=>by
  simp only [iI,Option.some.injEq] at h;subst h;exact hm
 |r :: rs,ms,ov,h,hm,hr=>by
  unfold iI at h;cases a:gG blocks r with
  |none=>rw [a] at h;cases h
  |some cs=>
   rw [a] at h;exact qM h (Ln hm (Is a (hr r (by simp)))) (λx b=>hr x (List.mem_cons_of_mem _ b))
def Dt (h:S.fN) (b:∀x∈ov,Bytes x.2):(ev S s y ov rs).2.fN:=by
 unfold ev;split
 .exact h
 .have a:=kv h s y.home (ms:=ov) b;split
  .exact a
  .exact a.fl s
def Lo (h0:(ev S s y ov rs).1=0):(ev S s y ov rs).2.puts.length<=S.puts.length:=by
 unfold ev at*;split
 .exact bR _
 .rename_i k;rw [aB k] at h0;split
  .rename_i a;rw [aG a] at h0;exact absurd h0 a
  .rename_i a;rw [aB a] at h0;rw [jn h0];exact dL _
def kz (h:mQ (S.now 0) s):(cE (S.now 0)).home+(cE (S.now 0)).blocks<=s/\1+2+(cE (S.now 0)).log<=s/\18<=(cE (S.now 0)).log/\(cE (S.now 0)).log<=256/\(cE (S.now 0)).blocks<=2048:=by
 have d:=h.1.geo;have e:=h.2;unfold vT at d;unfold cE;simp only;generalize u32 (S.now 0) 8=a at*;generalize u32 (S.now 0) 12=b at*;generalize u32 (S.now 0) 16=c at*;omega
def tA (S:DS) (s:Nat) (L:LG):Prop:=∃rs hd ov,jT S 1 (cE (S.now 0)).log rs hd/\iI (cE (S.now 0)).blocks [] rs=some ov/\L=((fj S 1 (cE (S.now 0)).log hd).start (ev (bC S s 1 ((cE (S.now 0)).log:Nat)).2 s (cE (S.now 0)) ov rs).2 s).2.2
def Tr (w:World) (F:Nat->Prop) (p s c:Nat) (S:DS) (e:Ending) (w':World):Prop:=∃x S' cR,cR<=c+5+(cE (S.now 0)).log/\j5 S s x S'/\aa F w w'/\((x≠0/\e= .returned (.tuple #[.pointer none,iV x])/\B.ax w' (more F w w') p s S' cR)\/(x=0/\∃q l m L F',tA S s L/\e= .returned (.tuple #[pQ q,iV 0])/\(∀k,F' k->more F w w' k)/\w.heap.size<=q/\w.heap.size<=l/\w.heap.size<=m/\iw w' F' p s cR q l m S' ⟨cE (S.now 0),L, [],false⟩))
def aeZ {a:World} {y:Int} (x:Int) (bq:∀k,F k->k<w.heap.size\/w.heap.size+2<=k) (pB:a.heap[w.heap.size]? =some (.cells #[u] 53 (0,0))) (gh:a.heap[w.heap.size+1]? =some (.cells #[.int .i64 y] 49 (0,0))) (hd:B.ax a F p s S c):
    (a.setCell ⟨w.heap.size+1,0,none⟩ (.int .i64 x)).heap[w.heap.size]? =some (.cells #[u] 53 (0,0))/\(a.setCell ⟨w.heap.size+1,0,none⟩ (.int .i64 x)).heap[w.heap.size+1]? =some (.cells #[.int .i64 x] 49 (0,0))/\B.ax (a.setCell ⟨w.heap.size+1,0,none⟩ (.int .i64 x)) F p s S c/\aa (λk=>k=w.heap.size+1) a (a.setCell ⟨w.heap.size+1,0,none⟩ (.int .i64 x)):=by
 have b:=aa.setCell (F:=λk=>k=w.heap.size+1) a (p:=⟨w.heap.size+1,0,none⟩) rfl (iV x);refine⟨(Below.heap_setCell _ _ _ _ (by simp)).trans pB,?_,hd.aw b (λk d e=>by have:=bq _ d;omega),b⟩;rw [heap_setCell_same _ _ _ _ _ _ gh];rfl
def aaY (S:DS) (s n:Nat):B.oRd S s 1 (n:Int)<=n+2:=by
 unfold B.oRd;split <;> simp
def ae0 {w5:World} {l:Nat} (bq:∀k,F k->k<w.heap.size) (pB:w5.heap[w.heap.size]? =some (.cells #[.pointer none] 53 (0,0))) (gh:w5.heap[w.heap.size+1]? =some (.cells #[.int .i64 0] 49 (0,0))) (hd:B.ax w5 F p s S c) {a:World} (MX:a=((w5.setCell ⟨w.heap.size,0,none⟩ (.pointer (some ⟨w5.heap.size+1,0,none⟩))).alloc (.map #[] 0)).alloc (.cells (PP p l w5.heap.size y false) 95)):
  a.heap[w.heap.size]? =some (.cells #[.pointer (some ⟨w5.heap.size+1,0,none⟩)] 53 (0,0))/\a.heap[w.heap.size+1]? =some (.cells #[.int .i64 0] 49 (0,0))/\nx a (w5.heap.size+1) p l w5.heap.size y false/\Ch a w5.heap.size []/\B.ax a F p s S c/\aa (λk=>k=w.heap.size) w5 a/\a.heap.size=w5.heap.size+2:=by
 have m:=aa.setCell (F:=λk=>k=w.heap.size) w5 (p:=(aD w.heap.size 0)) rfl (.pointer (some ⟨w5.heap.size+1,0,none⟩));have i:=size_setCell w5 ⟨w.heap.size,0,none⟩ (.pointer (some ⟨w5.heap.size+1,0,none⟩));have f:(w5.setCell ⟨w.heap.size,0,none⟩ (.pointer (some ⟨w5.heap.size+1,0,none⟩))).heap[w.heap.size]? =some (.cells #[.pointer (some ⟨w5.heap.size+1,0,none⟩)] 53 (0,0)):=by
  rw [heap_setCell_same _ _ _ _ _ _ pB];rfl
 have g:(w5.setCell ⟨w.heap.size,0,none⟩ (.pointer (some ⟨w5.heap.size+1,0,none⟩))).heap[w.heap.size+1]? =some (.cells #[.int .i64 0] 49 (0,0)):=(Below.heap_setCell _ _ _ _ (by simp)).trans gh;generalize w5.setCell ⟨w.heap.size,0,none⟩ (.pointer (some ⟨w5.heap.size+1,0,none⟩))=b at*;have d:=co b (.map #[] 0) (.cells (PP p l w5.heap.size y false) 95);have ny:=(Ch.made b).later (aJ (b.alloc (.map #[] 0)) (.cells (PP p l w5.heap.size y false) 95));have bj:((b.alloc (.map #[] 0)).alloc (.cells (PP p l w5.heap.size y false) 95)).heap[b.heap.size+1]? =some (.cells (PP p l w5.heap.size y false) 95 (0,0)):=by
  have:=heap_alloc_new (b.alloc (.map #[] 0)) (.cells (PP p l w5.heap.size y false) 95);rwa [World.size_alloc] at this
 rw [i] at ny bj;have j:((b.alloc (.map #[] 0)).alloc (.cells (PP p l w5.heap.size y false) 95)).heap.size=w5.heap.size+2:=by rw [World.size_alloc,World.size_alloc,i]
 rw [<-MX] at d ny bj j;exact⟨(d.block _ (aq f)).trans f,(d.block _ (aq g)).trans g,bj,ny,(hd.aw m (λk n e=>by have:=bq _ n;omega)).later d,m.trans (aa.ah (λ_=>False) d) (λ_ h=>h.elim),j⟩
def dR.ae1 {B:Nat} (h:dR w B v rs X):Lj w v rs:=by
 obtain⟨l,j,k⟩:=h;refine⟨l,?_,λi f=>?_⟩
 .obtain⟨d,h|⟨g,a,cur,rfl,m,tF,b⟩⟩:=j
  .exact⟨d, .inl h⟩
  .exact⟨d, .inr ⟨g,a,cur,rfl,dL _,tF,b⟩⟩
 .obtain⟨g,c,b,e,_⟩:=k i f;exact⟨g,c,b,e⟩
section
def AM:∀{ks:List Nat} {l r:List Int} {cs:CM},dV ks l=some (cs,r)->cs.length=ks.length
 | [],l,r,cs,h=>by
  simp only [dV,Option.some.injEq,Prod.mk.injEq] at h;obtain⟨rfl,_⟩:=h;rfl
 |k :: ks,l,r,cs,h=>by
  rw [jB] at h;split at h
  .cases h
  .cases a:dV ks (l.drop 512) with
   |none=>rw [a] at h;cases h
   |some x=>
    rw [a] at h;simp only [Option.map_some,Option.some.injEq,Prod.mk.injEq] at h;obtain⟨rfl,rfl⟩:=h;simp [AM (cs:=x.1) (r:=x.2) a]
def O7 (h:gG blocks d=some cs):1<=cs.length/\cs.length<=16:=by
 unfold gG at h;split at h
 .cases h
 .split at h
  .rename_i j;cases e:gT blocks (le (d.take 2)) 0 (d.drop 2) with
   |none=>rw [e] at h;cases h
   |some x=>
    obtain⟨ks,r⟩:=x;rw [e] at h;have k:=(oY e).1;have c:jS (dV ks r)=some cs:=h;cases f:dV ks r with
    |none=>rw [f] at c;cases c
    |some y=>
     obtain⟨i,g⟩:=y;rw [f] at c;cases g with
     |nil=>
      simp only [jS,Option.some.injEq] at c;subst c;rw [AM f];omega
     |cons a b=>cases c
  .cases h
def tB (blocks:Nat) (ms:CM) (r:List Int) (rs:List (List Int)):iI blocks ms (r :: rs)=match gG blocks r with|none=>none|some cs=>iI blocks (CM.bU ms cs) rs:=rfl
def EY {b:Nat} (h:(cm S a).2.2=0):S.num a<(is S a b+1)*4294967296:=by
 have d:(cm S a).1=S.num a / 4294967296:=by
  unfold cm il at*;split at h
  .cases h
  .rename_i c;rw [aB c];rfl
 have e:(cm S a).1<=is S a b:=by unfold is;omega
 omega
def AN (dw:S.Ok s) (c:L.begun=false) (e:L.f+1<s) (g:S.num L.f<(L.top+1)*4294967296) (i:L.top<1073741824):(L.start S s).1=0\/(L.start S s).1=3:=by
 unfold LG.start;split
 .exact .inr rfl
 .rw [aB (by rw [c];decide)];have b:(((L.top+1:Nat):Int)*4294967296+((0:Nat):Int))=(((L.top+1)*4294967296:Nat):Int):=by omega
  have vv:=iF (bA dw L.f (by omega)) (bA dw (L.f+1) e) (N:=(L.top+1)*4294967296) (by omega) g;rw [b];have d:(dg S s L.f (((L.top+1)*4294967296:Nat):Int)).1=0\/(dg S s L.f (((L.top+1)*4294967296:Nat):Int)).1=3:=by
   unfold dg;by_cases a:S.fuse=0
   .rw [aG a];exact .inr rfl
   .rw [aB a,aB (by omega)];have mX:=fW (S.now L.f) (S.now (L.f+1)) (((L.top+1)*4294967296:Nat):Int) [];generalize aP (S.now L.f) (S.now (L.f+1)) (((L.top+1)*4294967296:Nat):Int) []=Y at*;rw [show (L.f:Int)+(Y.1:Int)=((L.f+Y.1:Nat):Int) by omega];split
    .exact Ht (by omega) _
    .unfold DS.fl;split
     .exact .inr rfl
     .exact .inl rfl
  split
  .exact d
  .exact .inl rfl
section
variable {w w':World} {X Y:Nat->Prop} {B B':Nat} {v u:Value} {ps qs:List (Nat×List Int)}
def Pn.cat (h:Pn w X B v ps) (y:Pn w Y B' u qs) (z:∀j,Y j->X j) (r:0<qs.length) (G:ps.length+qs.length<=1000000) (F:B<=w.heap.size):
  ∃a cJ w2,(Builtin.append_ #[127,127] 127 #[v,u]).run prog w= .ok (.slice (some (aD a 0)) (ps.length+qs.length) cJ) w2/\Pn w2 X B (.slice (some (aD a 0)) (ps.length+qs.length) cJ) (ps ++ qs)/\aa (λj=>v.ownBlock=some j) w w2:=by
 obtain⟨xs,k,oo,hd⟩:=h;obtain⟨n,b,_,cI⟩:=y;obtain⟨D,rS,gC,dE,em⟩:=info_parts qv;obtain⟨H,E,rfl,lH⟩:=b.form;obtain⟨p,rfl,-⟩:=lH r;obtain⟨a,cJ,w2,bI,aA,aR,it,bq⟩:=run_append_lies (P:=prog) w 127 127 0 167 D _ 2 32 underlying127 rS gC dE em rfl (by omega) v ps.length xs k.own (aD p 0) qs.length E n b.own.1 (λj x C=>b.own.cells (g:=p) rfl _ _ C) b.one r (by unfold maxLen;omega) (by omega) (dL _) w.heap.size rfl;have Jf:=k.own.1;have f:∀i (d:i<(ps ++ qs).length) g c,(xs ++ n)[2*i+1]? =some (.slice (some (aD g 0)) 512 c)->X g:=λi d g c e=>by
  by_cases nF:i<ps.length
  .rw [u9 (by omega)] at e;exact hd i nF g c e
  .rw [ee] at d;rw [wm (by omega),show 2*i+1-xs.length=2*(i-ps.length)+1 by omega] at e;exact z _ (cI _ (by omega) g c e)
 obtain⟨m,A⟩:=k.cat b (Z:=λ_=>True) aA aR (λ_ _=>trivial) (λ_ _ _ _ _=>trivial) trivial;refine⟨a,cJ,w2,bI,⟨xs ++ n,⟨m.own,λj l=> .inr l,λi d=>?_,m.len⟩,λj l=>?_,f⟩,A⟩
 .obtain⟨g,c,s,o,_,t⟩:=m.put i d;exact⟨g,c,s,o, .inl (f i d g c o),t⟩
 .have e:j=a:=by simpa [Value.ownBlock] using l.symm
  rcases it with q|q
  .rw [e];exact oo a q
  .omega
end
end
def AO (s l n:Int) (w:World) (c:18<=l) (d:l<=256) (i:4<=n) (j:n<=1024) (a:n%4=0) (s1:l+n / 4+6<=s) (s2:s<=2048):
  Calls prog 61 #[.agg #[iV s,iV l,iV n]] w λe w'=>e= .returned (.tuple #[.agg #[iV l,iV (3+l),iV (s-(3+l)),iV n,iV (2+n / 4)],iV 0])/\bW w w':=by
 have b:n.tmod 4=n%4:=yI (by omega);have hd:n.tdiv 4=n / 4:=Int.tdiv_eq_ediv_of_nonneg (by omega);have f:¬l<18:=by omega
 have g:¬256<l:=by omega
 have k:¬n<4:=by omega
 have m:¬1024<n:=by omega
 have o:¬2048<s:=by omega
 have p:¬s<3+l+(2+n / 4)+1:=by omega
 go_in;go_wp2;refine bodyPost_ret (v:= .tuple #[.agg #[iV l,iV (3+l),iV (s-(3+l)),iV n,iV (2+n / 4)],iV 0]) (by simp [results,results61,go_sem] <;> omega) rfl ⟨rfl,co w _ _⟩
def Lp (s l n:Int) (w:World) (h:¬(18<=l/\l<=256)):
  Calls prog 61 #[.agg #[iV s,iV l,iV n]] w λe w'=>e= .returned (.tuple #[.agg #[iV 0,iV 0,iV 0,iV 0,iV 0],iV 22])/\bW w w':=by
 by_cases b:18<=l
 .have c:¬l<=256:=by omega
  have a:¬l<18:=by omega
  have d:256<l:=by omega
  go_in;go_wp2;exact bodyPost_ret (v:= .tuple #[.agg #[iV 0,iV 0,iV 0,iV 0,iV 0],iV 22]) (by simp [results,results61,go_sem]) rfl ⟨rfl,co w _ _⟩
 .have a:l<18:=by omega
  go_in;go_wp2;exact bodyPost_ret (v:= .tuple #[.agg #[iV 0,iV 0,iV 0,iV 0,iV 0],iV 22]) (by simp [results,results61,go_sem]) rfl ⟨rfl,co w _ _⟩
def Lq (s l n:Int) (w:World) (f:18<=l) (g:l<=256) (h:¬(4<=n/\n<=1024)):
  Calls prog 61 #[.agg #[iV s,iV l,iV n]] w λe w'=>e= .returned (.tuple #[.agg #[iV 0,iV 0,iV 0,iV 0,iV 0],iV 22])/\bW w w':=by
 have i:¬l<18:=by omega
 have j:¬256<l:=by omega
 by_cases b:4<=n
 .have c:¬n<=1024:=by omega
  have a:¬n<4:=by omega
  have d:1024<n:=by omega
  go_in;go_wp2;exact bodyPost_ret (v:= .tuple #[.agg #[iV 0,iV 0,iV 0,iV 0,iV 0],iV 22]) (by simp [results,results61,go_sem]) rfl ⟨rfl,co w _ _⟩
 .have a:n<4:=by omega
  go_in;go_wp2;exact bodyPost_ret (v:= .tuple #[.agg #[iV 0,iV 0,iV 0,iV 0,iV 0],iV 22]) (by simp [results,results61,go_sem]) rfl ⟨rfl,co w _ _⟩
def Lr (s l n:Int) (w:World) (c:18<=l) (d:l<=256) (i:4<=n) (j:n<=1024) (h:¬n%4=0):
  Calls prog 61 #[.agg #[iV s,iV l,iV n]] w λe w'=>e= .returned (.tuple #[.agg #[iV 0,iV 0,iV 0,iV 0,iV 0],iV 22])/\bW w w':=by
 have f:¬l<18:=by omega
 have g:¬256<l:=by omega
 have k:¬n<4:=by omega
 have m:¬1024<n:=by omega
 have b:n.tmod 4=n%4:=yI (by omega);have a:(n%4 != 0)=true:=by rw [gg];exact h
 go_in;go_wp2;exact bodyPost_ret (v:= .tuple #[.agg #[iV 0,iV 0,iV 0,iV 0,iV 0],iV 22]) (by simp [results,results61,go_sem]) rfl ⟨rfl,co w _ _⟩
def Ls (s l n:Int) (w:World) (g:18<=l) (i:l<=256) (m:4<=n) (o:n<=1024) (d:n%4=0) (h:¬(l+n / 4+6<=s/\s<=2048)):
  Calls prog 61 #[.agg #[iV s,iV l,iV n]] w λe w'=>e= .returned (.tuple #[.agg #[iV 0,iV 0,iV 0,iV 0,iV 0],iV 22])/\bW w w':=by
 have j:¬l<18:=by omega
 have k:¬256<l:=by omega
 have p:¬n<4:=by omega
 have q:¬1024<n:=by omega
 have f:n.tmod 4=n%4:=yI (by omega);have hd:n.tdiv 4=n / 4:=Int.tdiv_eq_ediv_of_nonneg (by omega);by_cases c:3+l+(2+n / 4)+1<=s
 .have a:¬s<=2048:=by omega
  have b:2048<s:=by omega
  go_in;go_wp2;exact bodyPost_ret (v:= .tuple #[.agg #[iV 0,iV 0,iV 0,iV 0,iV 0],iV 22]) (by simp [results,results61,go_sem]) rfl ⟨rfl,co w _ _⟩
 .have b:s<3+l+(2+n / 4)+1:=by omega
  by_cases a:2048<s
  .omega
  .clear h;go_in;go_wp2;exact bodyPost_ret (v:= .tuple #[.agg #[iV 0,iV 0,iV 0,iV 0,iV 0],iV 22]) (by simp [results,results61,go_sem]) rfl ⟨rfl,co w _ _⟩
def wd (s l n:Int) (w:World):
  Calls prog 61 #[.agg #[iV s,iV l,iV n]] w λe w'=>∃v x,e= .returned (.tuple #[v,iV x])/\yy s l n v x/\bW w w':=by
 have b:¬vT s l n->∀(e:Ending) (w':World),(e= .returned (.tuple #[.agg #[iV 0,iV 0,iV 0,iV 0,iV 0],iV 22])/\bW w w')->∃v x,e= .returned (.tuple #[v,iV x])/\yy s l n v x/\bW w w':=
  λi e w' h=>⟨_,_,h.1, .inr ⟨i,rfl,rfl⟩,h.2⟩
 by_cases a:18<=l/\l<=256
 .by_cases c:4<=n/\n<=1024
  .by_cases d:n%4=0
   .by_cases f:l+n / 4+6<=s/\s<=2048
    .exact(AO s l n w a.1 a.2 c.1 c.2 d f.1 f.2).mono (λe w' h=>⟨_,_,h.1, .inl ⟨⟨a,c,d,f⟩,rfl,rfl⟩,h.2⟩)
    .exact(Ls s l n w a.1 a.2 c.1 c.2 d f).mono (b (λg=>f g.2.2.2))
   .exact(Lr s l n w a.1 a.2 c.1 c.2 d).mono (b (λg=>d g.2.2.1))
  .exact(Lq s l n w a.1 a.2 c).mono (b (λg=>c g.2.1))
 .exact(Lp s l n w a).mono (b (λg=>a g.1))
def AP {m:Nat} (h:q<l.length):part l q (m+1)=l.getD q 0 :: part l (q+1) m:=by
 unfold part;rw [List.drop_eq_getElem_cons h,List.take_succ_cons];simp [List.getD,h]
def yC (l:List Int) (at_ n:Nat) (r:Int):Prop:=r=((le (part l at_ n):Nat):Int)\/(r= -1/\18014398509481984<le (part l at_ n))
def EZ (h:q+j+k<=l.length):le (part l (q+j) k)<=le (part l q (j+k)):=by
 induction j generalizing q with
 |zero=>simp
 |succ j a=>
  have b:=a (q:=q+1) (by omega);rw [show j+1+k=(j+k)+1 by omega,AP (by omega),le,show q+(j+1)=q+1+j by omega];omega
def Lt (b o N c:Nat) (l:List Int) (a n:Nat) (w:World) (C:l.length=N) (m:Bytes l) (y:N<=1000000) (D:a+n<=N) (v:n<=8) (s:∀i,i<N->w.cell? ⟨b,o+i,none⟩=some (.int .u8 (l.getD i 0))):
  Calls prog 163 #[.slice (some (aD b o)) N c,iV (a:Int),iV (n:Int)] w λe w'=>(∃r,e= .returned (iV r)/\yC l a n r)/\w'=w:=by
 go_in;go_wp2;go_loopw [7,8] (λr i wr=>∃k:Nat,k<=n/\i=iV ((n:Int)-1-(k:Int))/\r=iV ((le (part l (a+(n-k)) k):Nat):Int)/\wr=w/\le (part l (a+(n-k)) k)<=9223372036854775807) (λ_ i _=>(intOf i+1).toNat);case atStart=>exact⟨0,dL _,by simp,by simp [part,le],rfl,by simp [part,le]⟩
 case round=>
  obtain⟨k,A,rfl,rfl,rfl,E⟩:=hrel;have YB:=EZ (l:=l) (q:=a) (j:=n-k) (k:=k) (by omega);rw [show n-k+k=n by omega] at YB;by_cases bq:k<n
  .have t:(0:Int)<=(n:Int)-1-(k:Int):=(by omega);by_cases aU:18014398509481984<((le (part l (a+(n-k)) k):Nat):Int)
   .have d:(yC l a n (-1)):= .inr ⟨rfl,by have:=YB;omega⟩;generalize le (part l (a+(n-k)) k)=V at*;go_wp2;go_ret;exact⟨⟨_,rfl,d⟩,rfl⟩
   .have p:=s (a+(n-1-k)) (by omega);obtain⟨x,f,jL⟩:∃x:Nat,l.getD (a+(n-1-k)) 0=(x:Int)/\x<256:=by
     have:=m l[a+(n-1-k)] (List.getElem_mem (by omega));refine⟨(l.getD (a+(n-1-k)) 0).toNat,?_,?_⟩<;> simp [List.getD,show a+(n-1-k)<l.length by omega] <;> omega
    have rX:le (part l (a+(n-(k+1))) (k+1))=x+256*le (part l (a+(n-k)) k):=by
     rw [AP (by omega),le,show a+(n-(k+1))=a+(n-1-k) by omega,f,show a+(n-1-k)+1=a+(n-k) by omega];simp
    rw [f] at p;have g:(a:Int)+((n:Int)-1-(k:Int))=((a+(n-1-k):Nat):Int):=(by omega);have u:((a+(n-1-k):Nat):Int)<(N:Int):=(by omega);generalize z:le (part l (a+(n-k)) k)=V at*;generalize a+(n-1-k)=Q at*;go_wp2;go_roundw;case rel=>exact⟨k+1,by omega,by first|(congr 1;omega)|go_num,by rw [rX];congr 1;omega,trivial,by rw [rX];omega⟩
    case measure=>simp [intOf];omega
  .have t:¬(0:Int)<=(n:Int)-1-(k:Int):=(by omega);have UA:k=n:=(by omega);subst UA;have d:(yC l a k ((le (part l (a+(k-k)) k):Nat):Int)):= .inl (by simp);generalize le (part l (a+(k-k)) k)=V at*;go_wp2;go_ret;exact⟨⟨_,rfl,d⟩,rfl⟩
def aaZ (a:Bytes l) (b:k+4<=l.length) {r:Int} (h:yC l k 4 r):r=((le (part l k 4):Nat):Int):=by
 rcases h with h|⟨_,h⟩
 .exact h
 .have:=lE (dU a k 4);rw [fI b] at this;have:(2:Nat) ^ (8*4)=4294967296:=rfl;omega
def ay.E0 (h:Full w g l) (a:l.length<=1000000):ay w 5 g l.length (bs l):=by
 have:=ay.xX h (by simp [bs,maxLen];omega);simpa [bs] using this
def Full.src (h:Full w g l) (b:l.length<=1000000) (d:n<=l.length):Src w (some (aD g 0)) n (l.take n):=
   ⟨by simp;omega,(λh=>by cases h),λx c i a=>by
  cases c;rw [(ay.E0 h b).byte (by omega)];simp [List.getD,a]⟩
def Full.lt (h:Full w g l):g<w.heap.size:=(lY.1 h).1
def Full.kZ (h:Full w g l) (a:bW w w'):Full w' g l:=(a.block g h.lt).trans h
def aa0 (n i:Nat) (h:i<n):(zs n).getD i 0=0:=by simp [zs,List.getD,h]
def Full.set (h:Full w g l) (i:Nat) (x:Int):Full (w.setCell ⟨g,i,none⟩ (.int .u8 x)) g (l.set i x):=Hw x h
def Full.cell (h:Full w g l) (a:i<l.length):w.cell? (aD g i)=some (.int .u8 (l.getD i 0)):=aj h (by simp [bs,List.getD,a])
def Full.frozen (h:Full w g l) (i:Nat):w.frozen? (aD g i)=false:=ae h i
def Ts:(((((((zs 8 ++ zs 504).set 0 118).set 1 101).set 2 108).set 3 108).set 4 117).set 5 109).set 7 1=gA ++ zs 504:=by
 have e:∀(a:List Int) (i:Nat) (x:Int),i<a.length->(a ++ zs 504).set i x=a.set i x ++ zs 504:=λa i x h=>List.set_append_left i x h;rw [e _ _ _ (by decide),e _ _ _ (by decide),e _ _ _ (by decide),e _ _ _ (by decide),e _ _ _ (by decide),e _ _ _ (by decide),e _ _ _ (by decide)];rfl
def uP (s l n:Nat) (w:World) (K:vT s l n):
  Calls prog 67 #[.agg #[iV (s:Int),iV (l:Int),iV (n:Int)]] w λe w'=>∃v,e= .returned (.tuple #[v,iV 0])/\Made w w' v (eZ (bO s l n)):=by
 obtain⟨⟨O,P⟩,⟨Q,R⟩,J,s1,s2⟩:=K;have M:=λw=>AO s l n w O P Q R J s1 s2;obtain⟨N,t,gC,dE,em⟩:=info_parts gq;go_in;go_wp2_with fail;refine(M _).mono ?_;rintro e w1 ⟨rfl,ar⟩;have bN:=((bi _ w).alloc (bR _) _).trans (ar.mono (by simp));have x:w1.heap[w.heap.size]? =some (.cells #[.int .i64 (s:Int), .int .i64 (l:Int), .int .i64 (n:Int)] 39 (0,0)):=(ar.block _ (by simp)).trans (heap_alloc_new _ _);have Bt:=(lY.1 x).1;obtain⟨b,dN⟩:∃b,b=w1.alloc (.cells #[.int .i64 (l:Int), .int .i64 (3+(l:Int)), .int .i64 ((s:Int)-(3+(l:Int))), .int .i64 (n:Int), .int .i64 (2+(n:Int) / 4)] 86):=⟨_,rfl⟩;have eV:bW w b:=by rw [dN];exact bN.alloc bN.size _
 have qT:b.heap[w.heap.size]? =some (.cells #[.int .i64 (s:Int), .int .i64 (l:Int), .int .i64 (n:Int)] 39 (0,0)):=by rw [dN];exact(Below.heap_alloc _ _ _ Bt).trans x
 have ajY:=(lY.1 qT).1;go_wp2_with (at_make;rw [<-dN];refine wpList_make_full _ rfl _ _ 36 rfl b.heap.size 5 N (.int .u8 0) 1 underlying36 t gC dE _ _ _ _ 512 rfl rfl ?c1 ?c2 ?c3 ?c4 ?c5 ?_);case c1=>rfl
 case c2=>rfl
 case c3=>rw [em];omega
 case c4=>unfold maxLen;omega
 case c5=>exact bR _
 intro r aA aR;have Bm:=lZ aA;rw [<-dN] at aR;have U:b.heap.size=w1.heap.size+1:=by rw [dN];simp
 have bz:=(bi _ b).grown aR (bR _) (by intro k L;cases L);have M1:Full r (w1.heap.size+1) (zs 8 ++ zs 504):=by
  have:=Bm.full (by simp only [bs,jF,List.length_replicate]);rw [<-l6];exact this
 have jY:=eV.trans (bz.mono eV.size);have nc:=(bz.block _ ajY).trans qT;have aqQ:(zs 8 ++ zs 504).length=512:=by rw [ee,bH,bH]
 have z:∀i,i<8->r.cell? ⟨w1.heap.size+1,i,none⟩=some (.int .u8 0):=λi t=>by
  rw [M1.cell (by omega)];rw [<-l6,aa0 _ _ (by omega)]
 obtain⟨y0,y1,y2,y3,y4,y5,y7⟩:=nD (M1.frozen 0) (M1.frozen 1) (M1.frozen 2) (M1.frozen 3) (M1.frozen 4) (M1.frozen 5) (M1.frozen 7);have dM:¬w.heap.size=w1.heap.size+1:=by omega
 have W:=aM nc;go_wp2;refine wp_loop_rounds 7 ?_;rw [rounds_succ];go_wp2;rw [rounds_succ];go_wp2;rw [rounds_succ];go_wp2;rw [rounds_succ];go_wp2;rw [rounds_succ];go_wp2;rw [rounds_succ];go_wp2;rw [rounds_succ];go_wp2_with fail;have D:∀wx:World,Full wx (w1.heap.size+1) (gA ++ zs 504)->Calls prog 119 #[.slice (some ⟨w1.heap.size+1,0,none⟩) 512 512,iV 8,iV 4,iV (s:Int)] wx λe w'=>e= .returned (.tuple #[])/\Full w' (w1.heap.size+1) ((gA ++ bD 4 s) ++ (zs 4 ++ zs 496))/\aa (λj=>j=w1.heap.size+1) wx w':=λwx a=>by
  have:=rq (w1.heap.size+1) 512 512 gA (zs 4) (zs 500) 8 4 s wx (by rw [<-l6];exact a) rfl (bH 4) (by rw [ee,ee,bH,bH];rfl) (by omega) (by omega);rw [show zs 500=zs 4 ++ zs 496 from l6 4 496,<-rG] at this;exact this
 have E:∀wx:World,Full wx (w1.heap.size+1) ((gA ++ bD 4 s) ++ (zs 4 ++ zs 496))->Calls prog 119 #[.slice (some ⟨w1.heap.size+1,0,none⟩) 512 512,iV 12,iV 4,iV (l:Int)] wx λe w'=>e= .returned (.tuple #[])/\Full w' (w1.heap.size+1) ((gA ++ bD 4 s ++ bD 4 l) ++ (zs 4 ++ zs 492))/\aa (λj=>j=w1.heap.size+1) wx w':=λwx a=>by
  have:=rq (w1.heap.size+1) 512 512 (gA ++ bD 4 s) (zs 4) (zs 496) 12 4 l wx a (by rw [ee,aK];rfl) (bH 4) (by rw [ee,ee,ee,bH,bH,aK];rfl) (by omega) (by omega);rw [show zs 496=zs 4 ++ zs 492 from l6 4 492,<-rG] at this;exact this
 have G:∀wx:World,Full wx (w1.heap.size+1) ((gA ++ bD 4 s ++ bD 4 l) ++ (zs 4 ++ zs 492))->Calls prog 119 #[.slice (some ⟨w1.heap.size+1,0,none⟩) 512 512,iV 16,iV 4,iV (n:Int)] wx λe w'=>e= .returned (.tuple #[])/\Full w' (w1.heap.size+1) (bO s l n ++ (zs 4 ++ []))/\aa (λj=>j=w1.heap.size+1) wx w':=λwx a=>by
  have:=rq (w1.heap.size+1) 512 512 (gA ++ bD 4 s ++ bD 4 l) (zs 4) (zs 492) 16 4 n wx a (by rw [ee,ee,aK,aK];rfl) (bH 4) (by rw [ee,ee,ee,ee,bH,bH,aK,aK];rfl) (by omega) (by omega);rw [show zs 492=zs 488 ++ zs 4 from l6 488 4] at this;have e:gA ++ bD 4 s ++ bD 4 l ++ (bD 4 n ++ (zs 488 ++ zs 4))=bO s l n ++ (zs 4 ++ []):=by rw [List.append_nil,<-rG,<-rG];rfl
  rw [e] at this;exact this
 have H:∀wx:World,Full wx (w1.heap.size+1) (bO s l n ++ (zs 4 ++ []))->Calls prog 120 #[.slice (some ⟨w1.heap.size+1,0,none⟩) 508 512] wx λe w'=>e= .returned (iV ((sumOf (bO s l n):Nat):Int))/\bW wx w':=λwx a=>by
  refine OL _ _ _ _ wx (ic s l n) (by omega) ?_;have:=a.src (by rw [ee,dG,List.append_nil,bH];omega) (n:=508) (by rw [ee,dG];omega);rw [List.take_left' (dG s l n)] at this;exact this
 have mX:=nB (ic s l n);have I:∀wx:World,Full wx (w1.heap.size+1) (bO s l n ++ (zs 4 ++ []))->Calls prog 119 #[.slice (some ⟨w1.heap.size+1,0,none⟩) 512 512,iV 508,iV 4,iV ((sumOf (bO s l n):Nat):Int)] wx λe w'=>e= .returned (.tuple #[])/\Full w' (w1.heap.size+1) (eZ (bO s l n))/\aa (λj=>j=w1.heap.size+1) wx w':=λwx a=>by
  have:=rq (w1.heap.size+1) 512 512 (bO s l n) (zs 4) [] 508 4 (sumOf (bO s l n)) wx a (dG s l n) (bH 4) (by rw [ee,dG,List.append_nil,bH]) (by omega) (by omega);rw [List.append_nil] at this;exact this
 refine(D _ ?full).mono ?_;case full=>
  have:=((((((M1.set 0 118).set 1 101).set 2 108).set 3 108).set 4 117).set 5 109).set 7 1;rw [Ts] at this;exact this
 have C:=(((((((aa.refl (λj=>j=w1.heap.size+1) r).trans (aa.setCell (F:=λj=>j=w1.heap.size+1) (p:=⟨w1.heap.size+1,0,none⟩) _ rfl (.int .u8 118)) (λ_ h=> .inl h)).trans (aa.setCell (F:=λj=>j=w1.heap.size+1) (p:=⟨w1.heap.size+1,1,none⟩) _ rfl (.int .u8 101)) (λ_ h=> .inl h)).trans (aa.setCell (F:=λj=>j=w1.heap.size+1) (p:=⟨w1.heap.size+1,2,none⟩) _ rfl (.int .u8 108)) (λ_ h=> .inl h)).trans (aa.setCell (F:=λj=>j=w1.heap.size+1) (p:=⟨w1.heap.size+1,3,none⟩) _ rfl (.int .u8 108)) (λ_ h=> .inl h)).trans (aa.setCell (F:=λj=>j=w1.heap.size+1) (p:=⟨w1.heap.size+1,4,none⟩) _ rfl (.int .u8 117)) (λ_ h=> .inl h)).trans (aa.setCell (F:=λj=>j=w1.heap.size+1) (p:=⟨w1.heap.size+1,5,none⟩) _ rfl (.int .u8 109)) (λ_ h=> .inl h)).trans (aa.setCell (F:=λj=>j=w1.heap.size+1) (p:=⟨w1.heap.size+1,7,none⟩) _ rfl (.int .u8 1)) (λ_ h=> .inl h);rintro e w5 ⟨rfl,f,dX⟩;have ae2:=C.trans dX (λ_ h=> .inl h);have nU:=(ae2.block _ (lY.1 nc).1 dM).trans nc;have jr:=jY.trans (ae2.below (λj o=>by omega) jY.size);have c5:=bG nU;go_wp2_with fail;refine(E _ f).mono ?_;rintro e X ⟨rfl,g,jE⟩;have q:=(jE.block _ (lY.1 nU).1 dM).trans nU;have xG:=jr.trans (jE.below (λj o=>by omega) jr.size);have T:=bM q;go_wp2_with fail;refine(G _ g).mono ?_;rintro e Y ⟨rfl,c,gS⟩;have FH:=xG.trans (gS.below (λj o=>by omega) xG.size);go_wp2_with fail;refine(H _ c).mono ?_;rintro e Z ⟨rfl,AB⟩;have Ys:=FH.trans (AB.mono FH.size);have d:=(c.kZ AB);go_wp2_with fail;refine(I _ d).mono ?_;rintro e S ⟨rfl,m,Br⟩;have A:(Made w S (.slice (some ⟨w1.heap.size+1,0,none⟩) 512 512) (eZ (bO s l n))):=by
  have u:(eZ (bO s l n)).length=512:=by rw [oR,dG]
  have y:=ay.E0 m (by omega);rw [u] at y;exact⟨w1.heap.size+1,512,by rw [u],by omega,y,Ys.trans (Br.below (λj o=>by omega) Ys.size)⟩
 go_wp2;go_ret2;exact⟨_,rfl,A⟩
def Cd (s l n:Int) (w:World) (b:¬vT s l n):
  Calls prog 67 #[.agg #[iV s,iV l,iV n]] w λe w'=>e= .returned (.tuple #[.slice none 0 0,iV 22])/\bW w w':=by
 have c:∀w,Calls prog 61 #[.agg #[iV s,iV l,iV n]] w λe w'=>e= .returned (.tuple #[.agg #[iV 0,iV 0,iV 0,iV 0,iV 0],iV 22])/\bW w w':=λw=>by
  refine(wd s l n w).mono ?_;rintro e w' ⟨v,x,rfl,⟨h,_⟩|⟨_,rfl,rfl⟩,a⟩
  .exact absurd h b
  .exact⟨rfl,a⟩
 go_in;go_wp2_with fail;refine(c _).mono ?_;rintro e w1 ⟨rfl,ar⟩;have bN:=((bi _ w).alloc (bR _) _).trans (ar.mono (by simp));go_wp2;go_ret2;exact⟨rfl,(λo=>bN.alloc bN.size o) _⟩
def rA (b o N c:Nat) (l:List Int) (k:Nat) (w:World) (f:l.length=N) (a:Bytes l) (d:N<=1000000) (g:k+4<=N) (m:∀i,i<N->w.cell? ⟨b,o+i,none⟩=some (.int .u8 (l.getD i 0))):
  Calls prog 163 #[.slice (some (aD b o)) N c,iV (k:Int),iV 4] w λe w'=>e= .returned (iV ((u32 l k:Nat):Int))/\w'=w:=by
 refine(Lt b o N c l k 4 w f a d g (by omega) m).mono ?_;rintro e w' ⟨⟨r,rfl,j⟩,rfl⟩;exact⟨by rw [aaZ a (by omega) j];rfl,rfl⟩
def kB (s l n:Nat):(eZ (bO s l n)).length=512:=(oR _).trans (congrArg (·+4) (dG s l n))
def Made.out (h:Made w w' v l) (a:l.length=n):∃g c,v= .slice (some (aD g 0)) n c/\w.heap.size<=g/\ay w' 5 g c (bs l)/\bW w w':=by
 subst a;exact h
def Tt (l:List Int) (v:Value) (x:Int):Prop:=(AH l/\v= .agg #[iV ((u32 l 8:Nat):Int),iV ((u32 l 12:Nat):Int),iV ((u32 l 16:Nat):Int)]/\x=0)\/(¬AH l/\v= .agg #[iV 0,iV 0,iV 0]/\x=6)
def sj (b o c:Nat) (l:List Int) (w:World) (r:l.length=512) (s:Bytes l) (n:∀i,i<512->w.cell? ⟨b,o+i,none⟩=some (.int .u8 (l.getD i 0))) (G:vT (u32 l 8) (u32 l 12) (u32 l 16)) (x:Bool) (H:decide (eZ (bO (u32 l 8) (u32 l 12) (u32 l 16))=l)=x):
  Calls prog 121 #[.slice (some (aD b o)) 512 c] w λe w'=>e= .returned (.tuple #[if x then .agg #[iV ((u32 l 8:Nat):Int),iV ((u32 l 12:Nat):Int),iV ((u32 l 16:Nat):Int)] else .agg #[iV 0,iV 0,iV 0],iV (if x then 0 else 6)])/\bW w w':=by
 obtain⟨w1,bT⟩:=bP (w.alloc (.cells #[.int .i64 0, .int .i64 0, .int .i64 0] 39));have bN:bW w w1:=by rw [bT];exact(bi _ w).alloc (bR _) _
 have iO:w1.heap[w.heap.size]? =some (.cells #[.int .i64 0, .int .i64 0, .int .i64 0] 39 (0,0)):=by rw [bT];exact heap_alloc_new _ _
 have sy:w1.heap.size=w.heap.size+1:=by rw [bT];simp
 have J:Calls prog 163 #[.slice (some (aD b o)) 512 c,iV 8,iV 4] w1 λe w'=>e= .returned (iV ((u32 l 8:Nat):Int))/\w'=w1:=rA b o 512 c l 8 w1 r s (by omega) (by omega) (λi a=>cell_later bN (n i a));have K:Calls prog 163 #[.slice (some (aD b o)) 512 c,iV 12,iV 4] w1 λe w'=>e= .returned (iV ((u32 l 12:Nat):Int))/\w'=w1:=rA b o 512 c l 12 w1 r s (by omega) (by omega) (λi a=>cell_later bN (n i a));have L:Calls prog 163 #[.slice (some (aD b o)) 512 c,iV 16,iV 4] w1 λe w'=>e= .returned (iV ((u32 l 16:Nat):Int))/\w'=w1:=rA b o 512 c l 16 w1 r s (by omega) (by omega) (λi a=>cell_later bN (n i a));obtain⟨z,A,u,y,Tu⟩:=eQ K L n H ((λwx=>uP (u32 l 8) (u32 l 12) (u32 l 16) wx G));generalize u32 l 8=X at*;generalize u32 l 12=Y at*;generalize u32 l 16=Z at*;clear n K L G H;go_in;go_wp2_with fail;rw [<-bT];clear bT;refine bJ J λM d=>?_;have eR:=d.symm;subst eR;clear d J;go_wp2_with fail;refine bJ z λM d=>?_;have eR:=d.symm;subst eR;clear d z;go_wp2_with fail;refine bJ A λM d=>?_;have eR:=d.symm;subst eR;clear d A;have qT:(w1.alloc (.cells #[.int .i64 (X:Int), .int .i64 (Y:Int), .int .i64 (Z:Int)] 39)).heap[w1.heap.size]? =some (.cells #[.int .i64 (X:Int), .int .i64 (Y:Int), .int .i64 (Z:Int)] 39 (0,0)):=heap_alloc_new _ _;have eV:bW w (w1.alloc (.cells #[.int .i64 (X:Int), .int .i64 (Y:Int), .int .i64 (Z:Int)] 39)):=bN.alloc bN.size _;have Tv:(w1.alloc (.cells #[.int .i64 (X:Int), .int .i64 (Y:Int), .int .i64 (Z:Int)] 39)).heap[w.heap.size]? =some (.cells #[.int .i64 0, .int .i64 0, .int .i64 0] 39 (0,0)):=(Below.heap_alloc _ _ _ (by omega)).trans iO;have jD:(w1.alloc (.cells #[.int .i64 (X:Int), .int .i64 (Y:Int), .int .i64 (Z:Int)] 39)).heap.size=w.heap.size+2:=by simp;omega
 have k:=(aH qT (aH eV (aH Tv jD)));clear qT eV Tv jD bN iO;go_wp2_with fail;refine(Tu _).mono ?_;rintro e O ⟨v,rfl,wZ⟩;have iq:=kB X Y Z;obtain⟨g,N,rfl,Fv,Bm,bz⟩:=wZ.out iq;clear wZ;have jY:=k.2.1.trans (bz.mono (by have:=k.2.2.2;omega));have Vl:=tj g 0 b o 512 N c (eZ (bO X Y Z)) l O iq r (by omega) (λi a=>by have:=Bm.byte (i:=i) (by omega);rwa [aN] at this) (λi a=>cell_later jY (u i a));rw [y] at Vl;have I:=(bz.block w1.heap.size (by have:=k.2.2.2;omega)).trans k.1;have p3:=(bz.block w.heap.size (by have:=k.2.2.2;omega)).trans k.2.2.1;have f:=(aH I (aH p3 jY));clear Tu Bm bz I p3 jY k Fv;go_wp2_with fail;refine bJ Vl λP eJ=>?_;have q:=(eJ.block _ (lY.1 f.1).1).trans f.1;have m:=(eJ.block _ (lY.1 f.2.1).1).trans f.2.1;rw [sy] at q;obtain⟨Q,R,S,C,D,E,T,U,W,jZ⟩:=wn (aM q) (bG q) (bM q) (aM m) (bG m) (bM m) (ae m 0) (ae m 1) (ae m 2) (f.2.2.trans (eJ.mono f.2.2.size));clear Vl eJ q m f y u;have t:=(λ(u0 u1 u2:Value)=>aa.below (B:=w.heap.size) (((aa.setCell (F:=λj=>j=w.heap.size) (p:=⟨w.heap.size,0,none⟩) P rfl u0).trans (aa.setCell (F:=λj=>j=w.heap.size) (p:=⟨w.heap.size,1,none⟩) _ rfl u1) (λ_ h=> .inl h)).trans (aa.setCell (F:=λj=>j=w.heap.size) (p:=⟨w.heap.size,2,none⟩) _ rfl u2) (λ_ h=> .inl h)) (λj hj=>by omega) jZ.size);cases x
 .go_wp2;exact bodyPost_ret (v:= .tuple #[.agg #[iV 0,iV 0,iV 0],iV 6]) (by simp [results,results121,go_sem,C,D,E]) rfl ⟨rfl,jZ.trans (t _ _ _)⟩
 .go_wp2;exact bodyPost_ret (v:= .tuple #[.agg #[iV (X:Int),iV (Y:Int),iV (Z:Int)],iV 0]) (by simp [results,results121,go_sem,C,D,E]) rfl ⟨rfl,jZ.trans (t _ _ _)⟩
def xU (b o c:Nat) (l:List Int) (w:World) (n:l.length=512) (m:Bytes l) (k:∀i,i<512->w.cell? ⟨b,o+i,none⟩=some (.int .u8 (l.getD i 0))) (s:¬vT (u32 l 8) (u32 l 12) (u32 l 16)):
  Calls prog 121 #[.slice (some (aD b o)) 512 c] w λe w'=>e= .returned (.tuple #[.agg #[iV 0,iV 0,iV 0],iV 6])/\bW w w':=by
 obtain⟨w1,bT⟩:=bP (w.alloc (.cells #[.int .i64 0, .int .i64 0, .int .i64 0] 39));have bN:bW w w1:=by rw [bT];exact(bi _ w).alloc (bR _) _
 have iO:w1.heap[w.heap.size]? =some (.cells #[.int .i64 0, .int .i64 0, .int .i64 0] 39 (0,0)):=by rw [bT];exact heap_alloc_new _ _
 have sy:w1.heap.size=w.heap.size+1:=by rw [bT];simp
 have t:Calls prog 163 #[.slice (some (aD b o)) 512 c,iV 8,iV 4] w1 λe w'=>e= .returned (iV ((u32 l 8:Nat):Int))/\w'=w1:=rA b o 512 c l 8 w1 n m (by omega) (by omega) (λi g=>cell_later bN (k i g));have u:Calls prog 163 #[.slice (some (aD b o)) 512 c,iV 12,iV 4] w1 λe w'=>e= .returned (iV ((u32 l 12:Nat):Int))/\w'=w1:=rA b o 512 c l 12 w1 n m (by omega) (by omega) (λi g=>cell_later bN (k i g));have x:Calls prog 163 #[.slice (some (aD b o)) 512 c,iV 16,iV 4] w1 λe w'=>e= .returned (iV ((u32 l 16:Nat):Int))/\w'=w1:=rA b o 512 c l 16 w1 n m (by omega) (by omega) (λi g=>cell_later bN (k i g));have q:=u;have r:=x;have Tu:=(λwx=>Cd (u32 l 8) (u32 l 12) (u32 l 16) wx s);generalize u32 l 8=X at*;generalize u32 l 12=Y at*;generalize u32 l 16=Z at*;clear k u x s;go_in;go_wp2_with fail;rw [<-bT];clear bT;refine bJ t λy a=>?_;have eR:=a.symm;subst eR;clear a t;go_wp2_with fail;refine bJ q λy a=>?_;have eR:=a.symm;subst eR;clear a q;go_wp2_with fail;refine bJ r λy a=>?_;have eR:=a.symm;subst eR;clear a r;have qT:(w1.alloc (.cells #[.int .i64 (X:Int), .int .i64 (Y:Int), .int .i64 (Z:Int)] 39)).heap[w1.heap.size]? =some (.cells #[.int .i64 (X:Int), .int .i64 (Y:Int), .int .i64 (Z:Int)] 39 (0,0)):=heap_alloc_new _ _;have eV:bW w (w1.alloc (.cells #[.int .i64 (X:Int), .int .i64 (Y:Int), .int .i64 (Z:Int)] 39)):=bN.alloc bN.size _;have Tv:(w1.alloc (.cells #[.int .i64 (X:Int), .int .i64 (Y:Int), .int .i64 (Z:Int)] 39)).heap[w.heap.size]? =some (.cells #[.int .i64 0, .int .i64 0, .int .i64 0] 39 (0,0)):=(Below.heap_alloc _ _ _ (by omega)).trans iO;have jD:(w1.alloc (.cells #[.int .i64 (X:Int), .int .i64 (Y:Int), .int .i64 (Z:Int)] 39)).heap.size=w.heap.size+2:=by simp;omega
 have f:=(aH qT (aH eV (aH Tv jD)));clear qT eV Tv jD bN iO;go_wp2_with fail;refine(Tu _).mono ?_;rintro e D ⟨rfl,bz⟩;have rK:=f.2.1.trans (bz.mono (by have:=f.2.2.2;omega));have d:=(bz.block w.heap.size (by have:=f.2.2.2;omega)).trans f.2.2.1;obtain⟨z,A,C,E,G,H,jZ⟩:=nD (aM d) (bG d) (bM d) (ae d 0) (ae d 1) (ae d 2) rK;clear Tu bz d rK f;go_wp2;exact bodyPost_ret (v:= .tuple #[.agg #[iV 0,iV 0,iV 0],iV 6]) (by simp [results,results121,go_sem,z,A,C]) rfl ⟨rfl,jZ.trans ((λ(u0 u1 u2:Value)=>aa.below (B:=w.heap.size) (((aa.setCell (F:=λj=>j=w.heap.size) (p:=⟨w.heap.size,0,none⟩) D rfl u0).trans (aa.setCell (F:=λj=>j=w.heap.size) (p:=⟨w.heap.size,1,none⟩) _ rfl u1) (λ_ h=> .inl h)).trans (aa.setCell (F:=λj=>j=w.heap.size) (p:=⟨w.heap.size,2,none⟩) _ rfl u2) (λ_ h=> .inl h)) (λj I=>by omega) jZ.size) _ _ _)⟩
def Ce (b o c:Nat) (l:List Int) (w:World) (g:l.length=512) (f:Bytes l) (j:∀i,i<512->w.cell? ⟨b,o+i,none⟩=some (.int .u8 (l.getD i 0))):
  Calls prog 121 #[.slice (some (aD b o)) 512 c] w λe w'=>∃v x,e= .returned (.tuple #[v,iV x])/\Tt l v x/\bW w w':=by
 by_cases a:vT (u32 l 8) (u32 l 12) (u32 l 16)
 .by_cases d:eZ (bO (u32 l 8) (u32 l 12) (u32 l 16))=l
  .refine(sj b o c l w g f j a true (by simp [d])).mono ?_;rintro e w' ⟨rfl,h⟩;exact⟨_,_,rfl, .inl ⟨⟨a,d⟩,rfl,rfl⟩,h⟩
  .refine(sj b o c l w g f j a false (by simp [d])).mono ?_;rintro e w' ⟨rfl,h⟩;exact⟨_,_,rfl, .inr ⟨λh=>d h.2,rfl,rfl⟩,h⟩
 .refine(xU b o c l w g f j a).mono ?_;rintro e w' ⟨rfl,h⟩;exact⟨_,_,rfl, .inr ⟨λh=>a h.1,rfl,rfl⟩,h⟩
section
section
variable {w w':World} {F G:Nat->Prop} {r s k:Nat} {S:DS} {L:LG}
def ae3 (w w':World) (R:Nat->PC) (E P:Nat) (v:Value) (n:Int):Prop:=
   (∃c d,Rec R E P c d/\n=(c:Int)/\Own w' w.heap.size v d)\/(n=0/\v= .slice none 0 0/\∀c d,¬Rec R E P c d)
def Tw (h:(R P).d= []):∀c d,¬Rec R E P c d:=λc d a=>by
 have:=(a.2.2.1 0 (by have:=a.1;omega)).2.2.2.2.1;rw [Nat.add_zero,h] at this;simp at this
def E2 (h:(R P).c<1\/17<(R P).c):∀c d,¬Rec R E P c d:=λc d a=>by
 have:=a.count;have:=a.1;have:=a.2.1;omega
def It (b:i<(R P).c) (h:¬(R (P+i)).ok E (P+i) i (R P).c):∀c d,¬Rec R E P c d:=λc d a=>by
 rw [a.count] at b h;exact h (a.2.2.1 i b)
def Xf (E P:Nat) (h:aC w F r s S) (y:cM w k r L) (O8:S.fN) (hs:L.f+2+L.n<=s) (iu:1<=L.n) (aU:S.puts.length+1<=4000000000000) (hE:E<=1073741824) (hP:P<=2147483648):
  Calls prog 166 #[pQ k,iV (E:Int),iV (P:Int)] w λe w'=>∃v n,e= .returned (.tuple #[v,iV n])/\ae3 w w' (Rp (ed S L.f) L.n) E P v n/\bW w w':=by
 have Kw:=h.ok.hi;have W:P%L.n<L.n:=Nat.mod_lt _ iu;have mu:=bA h.ok (L.f+2+P%L.n) (by omega);have dO:=O8.now (L.f+2+P%L.n);obtain⟨u,K,O,Q⟩:=cP (jP (h.later (ai (bi w.heap.size w))) (L.f+2+P%L.n) (by omega) (by omega)) y.c0 y.c2 y.c3;have U3:Rp (ed S L.f) L.n P=dr (S.now (L.f+2+P%L.n)):=rfl;have a:=(λ(wx:World) (i c:Nat) (hb:bW w wx) (hi:i<=17) (hc:c<=65536) (Bo:1<=c)=>O4 E (P+i) i c (h.later hb) (y.later hb) (O8.now _) hs iu aU (by omega) (by omega) (by omega) hc Bo);have rP:(P:Int).tmod (L.n:Int)=((P%L.n:Nat):Int):=by rw [yI (by omega),<-Int.natCast_emod]
 have SE:(P:Int)%(L.n:Int)=((P%L.n:Nat):Int):=by rw [<-Int.natCast_emod]
 have mv:=(kn dO).2.2.2.1;obtain⟨M,hM⟩:=bP (P%L.n);rw [<-hM] at rP SE W u mu dO U3 mv;rw [show ((L.f+2+M:Nat):Int)=(L.f:Int)+2+(M:Int) by omega] at u;have yx:IntKind.i64.wrap ((L.f:Int)+2)=(L.f:Int)+2:=by rw [IntKind.wrap_i64];omega
 have aeV:IntKind.i64.wrap ((L.f:Int)+2+(M:Int))=(L.f:Int)+2+(M:Int):=by rw [IntKind.wrap_i64];omega
 have aeW:¬L.n=0:=by omega
 have x:∀q,dr (S.now (L.f+2+q%L.n))=Rp (ed S L.f) L.n q:=λq=>rfl;simp only [x] at a;clear hM h y x;generalize S.now (L.f+2+M)=l at*;have U:∀q,(Rp (ed S L.f) L.n q).d.length<=492:=λq=>(kn (O8.now _)).2.2.2.2.1;generalize Rp (ed S L.f) L.n=R at*;have hlen:=Ed l;have gN:=p7 dO;go_in;go_wp2_with fail;go_region_held3 (λw'=>w'.cell? (aD k 0)=some (pQ r)/\w'.cell? (aD k 2)=some (iV (L.f:Int))/\w'.cell? (aD k 3)=some (iV (L.n:Int)))
  (first|exact⟨K,O,Q⟩)
    ((go_at_call 40;refine u.mono ?_;rintro e w1 ⟨g,cg,rfl,hFg,be,bT⟩;have jR:=bT.symm;clear bT;subst jR))
 have i7:=be.src;rw [mu] at i7;have m:=qX (some (aD g 0)) 512 cg l w.drew i7 dO;by_cases G:(aX l).2=0
 .rw [G] at m;clear u be i7 K O Q;go_wp2_with fail;by_cases k2:(aX l).1.length<=12
  .have tw:=(show∀c d,¬Rec R E P c d from Tw (by rw [U3];exact yA (.inr k2)));have d2:((aX l).1.length:Int)<=12:=(by omega);clear k2 a U3;refine m.mono ?_;rintro e A ⟨X,rfl,jw,bd⟩;obtain⟨p,rQ,rfl,br,_,_⟩:=jw.src;have dZ:=(ai (bi w.heap.size w)).trans bd;clear m bd jw br;go_wp2;go_ret2;exact⟨_,_,rfl, .inr ⟨rfl,rfl,tw⟩,dZ⟩
  .have nA:=vZ G (by omega);have d2:¬((aX l).1.length:Int)<=12:=(by omega);by_cases H:(dr l).c<1\/17<(dr l).c
   .have tw:=(show∀c d,¬Rec R E P c d from E2 (by rw [U3];exact H));refine m.mono ?_;rintro e A ⟨X,rfl,jw,bd⟩;obtain⟨p,rQ,rfl,br,_,_⟩:=jw.src;have dZ:=(ai (bi w.heap.size w)).trans bd;have b:=bE p _ rQ _ A br gN 10 2 (by omega) (by omega) (by omega);rw [<-nA.2.2.2.1,show (((10:Nat)):Int)=10 from rfl,show (((2:Nat)):Int)=2 from rfl] at b;clear m bd jw br nA;go_wp2_with fail;refine bJ b λw3 ec=>?_;have eH:=ec.symm;clear ec b;subst eH;by_cases k4:(dr l).c<1
    .have T:((dr l).c:Int)<1:=(by omega);clear H a U3;go_wp2;go_ret2;exact⟨_,_,rfl, .inr ⟨rfl,rfl,tw⟩,dZ⟩
    .have T:¬((dr l).c:Int)<1:=(by omega);have d5:(17:Int)<((dr l).c:Int):=(by omega);clear H a U3;go_wp2;go_ret2;exact⟨_,_,rfl, .inr ⟨rfl,rfl,tw⟩,dZ⟩
   .have T:¬((dr l).c:Int)<1:=(by omega);have d5:¬(17:Int)<((dr l).c:Int):=(by omega);have o:(R P).c=(dr l).c:=(by rw [U3]);refine m.mono ?_;rintro e A ⟨X,rfl,jw,bd⟩;obtain⟨p,rQ,rfl,br,_,_⟩:=jw.src;have dZ:=(ai (bi w.heap.size w)).trans bd;have b:=bE p _ rQ _ A br gN 10 2 (by omega) (by omega) (by omega);rw [<-nA.2.2.2.1,show (((10:Nat)):Int)=10 from rfl,show (((2:Nat)):Int)=2 from rfl] at b;clear m bd jw br nA;go_wp2_with fail;refine bJ b λw3 ec=>?_;have eH:=ec.symm;clear ec b;subst eH;obtain⟨C,hC⟩:=bP ((dr l).c);rw [<-hC] at T d5 o H⊢;have Xg:=o;clear o hC U3;go_wp2;go_loopw [12,13] (λv i wr=>∃j:Nat,j<=C/\i=iV (j:Int)/\(∀t,t<j->(R (P+t)).ok E (P+t) t C)/\Own wr w.heap.size v (lu R P j)/\(lu R P j).length<=492*j/\bW w wr) (λ_ i _=>C-(intOf i).toNat);case atStart=>exact⟨0,dL _,rfl,λt ht=>by omega,by rw [mF];exact Own.nil _ _,by rw [mF];simp,dZ⟩
    case round=>
     obtain⟨j,hj,rfl,bX,aA,qV,ey⟩:=hrel;obtain⟨bw,I,O9,hz⟩:=cP aA ey bX ey.size;clear aA ey bX;by_cases bq:j<C
     .have cC:(j:Int)<(C:Int):=(by omega);have D:=a wr j C I (by omega) (by omega) (by omega);rw [show ((P+j:Nat):Int)=(P:Int)+(j:Int) by omega] at D;go_wp2_with fail;refine D.mono ?_;rintro e w4 ⟨v4,rfl,U1,eJ⟩;have rK:=I.trans (eJ.mono hz);have vt:=eJ.size;rcases U1 with ⟨dw,body,z,kw,VP,ae5⟩|⟨jd,rfl⟩
      .obtain⟨a4,Z,rfl,EC,zT,_⟩:=z.src;obtain⟨Y,o4,rfl⟩:=cZ EC (by omega);have X6:Src w4 (some ⟨Y,o4+12,none⟩) (body.length-12) ((R (P+j)).d):=by
        have:=EC.sub 12 (body.length-12) (by omega);rwa [nC (by simp),kw] at this
       have jJ:=U (P+j);have KC:(R (P+j)).d.length=body.length-12:=(by rw [<-kw];simp);obtain⟨x5,w5,bI,sb,fd⟩:=rt (B:=w.heap.size) (bw.later eJ) (Z-12) X6 (by omega) (by omega) (by omega);obtain⟨nQ,J,jr,PX⟩:=cP bI sb ((rK.trans fd)) dw;obtain⟨N,b⟩:=bP body.length;rw [<-b] at VP ae5 zT nQ KC⊢;have iu:¬(N:Int)=0:=(by omega);have pY:((N:Int) == 0)=false:=(by rw [fy];omega);have Bz:(12:Int)<=(N:Int):=(by omega);clear D dw z kw EC X6 bI sb fd eJ rK b;go_wp2_with (at_builtin;refine bu rfl _ _ 36 rfl u12 (.slice (some ⟨Y,o4+12,none⟩) (N-12) (Z-12)) _ rfl rfl nQ ?_);go_wp2;go_roundw;case rel=>
        refine⟨j+1,by omega,by go_num,λt ht=>?_,by rw [iD];exact J,by rw [iD,ee];omega,jr⟩;by_cases e:t=j
        .subst e;exact PX
        .exact O9 t (by omega)
       case measure=>simp [intOf];omega
      .have tw:=(show∀c d,¬Rec R E P c d from It (by rw [Xg];exact bq) (by rw [Xg];exact jd));have jZ:=rK;clear jd eJ rK D;go_wp2;go_ret2;exact⟨_,_,rfl, .inr ⟨rfl,rfl,tw⟩,jZ⟩
     .obtain rfl:j=C:=(by omega);have wK:¬(j:Int)<(j:Int):=(by omega);go_wp2;go_ret2;exact⟨_,_,rfl, .inl ⟨_,_,(show Rec R E P j (lu R P j) from ⟨by omega,by omega,O9,rfl⟩),rfl,bw⟩,I⟩
 .have tw:=(show∀c d,¬Rec R E P c d from Tw (by rw [U3];exact yA (.inl G)));have d1':(((aX l).2:Int) != 0)=true:=by rw [gg];omega
  clear G a U3;clear u be i7 K O Q;go_wp2_with fail;refine m.mono ?_;rintro e A ⟨X,rfl,jw,bd⟩;obtain⟨p,rQ,rfl,br,_,_⟩:=jw.src;have dZ:=(ai (bi w.heap.size w)).trans bd;clear m bd jw br;go_wp2;go_ret2;exact⟨_,_,rfl, .inr ⟨rfl,rfl,tw⟩,dZ⟩
end
end
section
def Pa (h:(aX l).2≠0\/(aX l).1.length<12):(dr l).e=0:=by
 unfold dr;rw [aG h];rfl
def Pb (h:(R j).e<1\/1073741824<(R j).e\/(R j).e<=max E (gQ R j)):max E (gQ R (j+1))=max E (gQ R j):=by
 show max E (if (R j).e<=1073741824 then max (gQ R j) (R j).e else gQ R j)=_;split <;> omega
def Pc (h:(R j).e<=1073741824) (a:max E (gQ R j)<(R j).e):max E (gQ R (j+1))=(R j).e:=by
 show max E (if (R j).e<=1073741824 then max (gQ R j) (R j).e else gQ R j)=_;rw [aG h];omega
section
variable {w w':World} {F G:Nat->Prop} {r s k:Nat} {S:DS} {L:LG}
def Tx (E:Nat) (h:aC w F r s S) (K:cM w k r L) (O8:S.fN) (hs:L.f+2+L.n<=s) (aU:S.puts.length+1<=4000000000000) (T:E<=1073741824):
  Calls prog 165 #[pQ k,iV (E:Int)] w λe w'=>e= .returned (iV ((max E (gQ (ed S L.f) L.n):Nat):Int))/\bW w w':=by
 obtain⟨Kw,O,P,PX,FF⟩:=eQ h.ok.hi (yh h) (yh K) (yh h.ok) (yh O8);have p:∀q,dr (S.now (L.f+2+q))=ed S L.f q:=λq=>rfl;have d:=yh p;clear h K O8 p;obtain⟨R,I⟩:=bP (ed S L.f);rw [<-I] at d⊢;clear I;go_in;go_wp2;go_loopw [5,6] (λm i wr=>∃j:Nat,j<=L.n/\i=iV (j:Int)/\m=iV ((max E (gQ R j):Nat):Int)/\bW w wr) (λ_ i _=>L.n-(intOf i).toNat);case atStart=>exact⟨0,dL _,rfl,by simp [gQ],bi _ _⟩
 case round=>
  obtain⟨j,hj,rfl,rfl,ey⟩:=hrel;have C:=yh ey;have cu:=P.o.later ey;obtain⟨D,G,W,hz,AQ,Ty⟩:=jH cu.c0 cu.c2 cu.c3 ey.size (yh (Pb (R:=R) (E:=E) (j:=j))) (yh (Pc (R:=R) (E:=E) (j:=j)));obtain⟨M,A⟩:=bP (max E (gQ R j));rw [<-A] at AQ Ty⊢;have Q:=yh A;clear A cu;by_cases bq:j<L.n
  .have cC:(j:Int)<(L.n:Int):=(by omega);have z:=jP ((O.o.later ey).later (ai (bi wr.heap.size wr))) (L.f+2+j) (by omega) (by omega);have mu:=bA PX.o (L.f+2+j) (by omega);have dO:=FF.o.now (L.f+2+j);have u:=d.o j;rw [show ((L.f+2+j:Nat):Int)=(L.f:Int)+2+(j:Int) by omega] at z;have yx:IntKind.i64.wrap ((L.f:Int)+2)=(L.f:Int)+2:=(by rw [IntKind.wrap_i64];omega);have aeV:IntKind.i64.wrap ((L.f:Int)+2+(j:Int))=(L.f:Int)+2+(j:Int):=(by rw [IntKind.wrap_i64];omega);generalize S.now (L.f+2+j)=l at*;have N:=Ed l;have gN:=p7 dO;have WG:=yh (Pa (l:=l));have c:=yh (λa b=>(vZ (l:=l) a b).1);have t:=(kn dO).1;rw [u] at WG c t;clear ey u;go_wp2_with fail;go_region_held3 (λw'=>w'.cell? (aD k 0)=some (pQ r)/\w'.cell? (aD k 2)=some (iV (L.f:Int)))
    (first|exact⟨D,G⟩)
      ((go_at_call 40;refine z.mono ?_;rintro e w1 ⟨g,Y,rfl,hFg,be,bT⟩;have jR:=bT.symm;clear bT;subst jR))
   have i7:=be.src;rw [mu] at i7;have H:=qX (some (aD g 0)) 512 Y l wr.drew i7 dO;clear z be i7 D G W;go_wp2_with fail;refine H.mono ?_;rintro e w2 ⟨v2,rfl,jw,bd⟩;obtain⟨U,rQ,rfl,br,_,_⟩:=jw.src;obtain⟨dZ,xJ⟩:=bV (C.o.trans ((ai (bi wr.heap.size wr)).trans bd |>.mono hz)) br;clear H bd jw br;by_cases x:(aX l).2=0
   .by_cases k2:(aX l).1.length<12
    .have d2:((aX l).1.length:Int)<12:=(by omega);have y:=yh (AQ.o (.inl (by rw [WG.o (.inr k2)];omega)));rw [x];go_wp2;go_roundw;case rel=>exact⟨j+1,by omega,by go_num,by rw [y.o],dZ.o⟩
     case measure=>simp [intOf];omega
    .have d2:¬((aX l).1.length:Int)<12:=(by omega);have v:=bE U _ rQ _ w2 xJ.o gN 0 4 (by omega) (by omega) (by omega);rw [<-c.o x (by omega),show (((0:Nat)):Int)=0 from rfl,show (((4:Nat)):Int)=4 from rfl] at v;rw [x];clear c WG;obtain⟨X,J⟩:=bP ((R j).e);rw [<-J] at v t AQ Ty;clear J;go_wp2_with fail;refine bJ v λw3 ec=>?_;have eH:=ec.symm;clear ec v;subst eH;by_cases x1:X<1
     .have y1:¬(1:Int)<=(X:Int):=(by omega);go_wp2;go_roundw;case rel=>exact⟨j+1,by omega,by go_num,by rw [(yh (AQ.o (.inl x1))).out],dZ.o⟩
      case measure=>simp [intOf];omega
     .have y1:(1:Int)<=(X:Int):=(by omega);by_cases x2:1073741824<X
      .have y2:¬(X:Int)<=1073741824:=(by omega);go_wp2;go_roundw;case rel=>exact⟨j+1,by omega,by go_num,by rw [(yh (AQ.o (.inr (.inl x2)))).out],dZ.o⟩
       case measure=>simp [intOf];omega
      .have y2:(X:Int)<=1073741824:=(by omega);by_cases x3:M<X
       .have y3:(M:Int)<(X:Int):=(by omega);go_wp2;go_roundw;case rel=>exact⟨j+1,by omega,by go_num,by rw [(yh (Ty.o (by omega) x3)).out],dZ.o⟩
        case measure=>simp [intOf];omega
       .have y3:¬(M:Int)<(X:Int):=(by omega);go_wp2;go_roundw;case rel=>exact⟨j+1,by omega,by go_num,by rw [(yh (AQ.o (.inr (.inr (by omega))))).out],dZ.o⟩
        case measure=>simp [intOf];omega
   .have d1:(((aX l).2:Int) == 0)=false:=(by rw [fy];omega);have Z:(((aX l).2:Int) != 0)=true:=(by rw [gg];omega);have y:=yh (AQ.o (.inl (by rw [WG.o (.inl x)];omega)));go_wp2;go_roundw;case rel=>exact⟨j+1,by omega,by go_num,by rw [y.o],dZ.o⟩
    case measure=>simp [intOf];omega
  .obtain rfl:j=L.n:=(by omega);have wK:¬(L.n:Int)<(L.n:Int):=(by omega);go_wp2;go_ret;exact⟨by rw [<-Q.o];rfl,C.o⟩
end
end
section
def AR {R:Nat->PC} {P:Nat}:∀c,1<=c->(R P).d.length<=(lu R P c).length
 |0,h=>by omega
 |c+1,_=>by
  rw [iD,ee];by_cases e:c=0
  .subst e;rw [Nat.add_zero];omega
  .have:=AR (R:=R) (P:=P) c (by omega);omega
def Rec.some (h:Rec R E P c d):0<d.length:=by
 have a:=(h.2.2.1 0 (by have:=h.1;omega)).2.2.2.2.1;rw [Nat.add_zero] at a;have:=AR (R:=R) (P:=P) c h.1;rw [h.2.2.2];omega
section
variable {w w':World} {F G:Nat->Prop} {r s k:Nat} {S:DS} {L:LG}
structure Tz (w':World) (B k r:Nat) (L:LG) (S:DS) (v:Value) (rs:List (List Int)) (hd:Nat):Prop where
 rc:dR w' B v rs (λ_=>False)
 t:dF (Rp (ed S L.f) L.n) (cm S L.f).1 (cm S L.f).2.1 rs hd
 x:∀c d,¬Rec (Rp (ed S L.f) L.n) (cm S L.f).1 hd c d
 p:cM w' k r {L with ep:=(cm S L.f).1,tail:=(cm S L.f).2.1,head:=hd,top:=is S L.f L.n}
def rB (w w':World) (r s:Nat) (S:DS) (f n:Int) (e:Ending):Prop:=
 if (bC S s f n).1≠0 then e= .returned (.tuple #[.pointer none, .slice none 0 0,iV (bC S s f n).1])
 else∃k v rs hd,e= .returned (.tuple #[pQ k,v,iV 0])/\w.heap.size<=k/\Tz w' w.heap.size k r (LG.new S f.toNat n.toNat) S v rs hd
def cM.Kq (h:cM w k r L) (T:Nat):cM (w.setCell ⟨k,7,none⟩ (.int .i64 (T:Int))) k r {L with top:=T}:=
   (heap_setCell_same _ _ 7 _ _ _ h).trans (by simp)
def cM.aa1 (h:cM w k r L) (T:Int) (n:Nat) (a:T=(n:Int)):cM (w.setCell ⟨k,6,none⟩ (.int .i64 T)) k r {L with head:=n}:=by
 subst a;exact(heap_setCell_same _ _ 6 _ _ _ h).trans (by simp)
def dR.marked {B:Nat} (h:dR w B v rs X) (f:cM w k r L) (j:Nat) (u:Value):dR (w.setCell ⟨k,j,none⟩ u) B v rs X:=by
 have dM:∀(g:Nat) (t:TypeId) (cur:Array Value),w.heap[g]? =some (Obj.cells cur t (0,0))->t≠200->(w.setCell ⟨k,j,none⟩ u).heap[g]? =w.heap[g]? :=λg t cur a i=>by
  have:g≠k:=λe=>by subst e;exact uh a f i
  exact(aL (F:=λb=>b=k) w rfl j u).block g (aq a) this
 refine h.step (λg d=>?_) (λg cur a _=>dM g _ cur a (by decide)) (λ_ _ h=>h);obtain⟨l,c,_⟩:=h;obtain⟨cur,a⟩:=bB c d;exact dM g _ cur a (by decide)
def Pd {B:Nat} (h:dR W B v rs (λ_=>False)) (l:ay W 5 g c (bs d)) (p:B<=g) (U4:B<=W.heap.size) (my:rs.length<=1000000):
  ∃v' w',(Builtin.append_ #[62,62] 62 #[v, .slice (some (aD W.heap.size 0)) 1 1]).run prog (W.alloc (.cells #[.slice (some ⟨g,0,none⟩) d.length c] 36))= .ok v' w'/\dR w' B v' (rs ++ [d]) (λ_=>False)/\Below B W w'/\∀(b:Nat) (cur:Array Value),W.heap[b]? =some (.cells cur 200 (0,0))->w'.heap[b]? =some (.cells cur 200 (0,0)):=by
 obtain⟨u,e,o⟩:=h;obtain⟨t,Ru,w',bI,s,f⟩:=MD e (.slice (some (aD g 0)) d.length c) rfl my U4;have ir:=aJ W (.cells #[.slice (some ⟨g,0,none⟩) d.length c] 36);have Y7:=dS e (λx a=>by
  obtain⟨cur,q⟩:=bB e a;exact ir.block x (aq q))
 refine⟨_,w',bI,CW Y7 (λi r=>?_) (l.agree (ir.block g l.lt)) p s f,?_,λb cur k=>?_⟩
 .obtain⟨x,y,m,j,n,_⟩:=o i r;exact⟨x,y,m,j.agree (ir.block x j.lt),n⟩
 .exact(ir.mono U4).grown f (k9 U4 ir.size) (λx a=>jv e a)
 .exact qf f (λx a=>bB Y7 a) ((ir.block b (aq k)).trans k) (by decide)
end
end
section
def Cf {S:DS} {s:Nat} {f n:Int} (h:cy S s f n≠0):bC S s f n=(cy S s f n,S):=by unfold bC;rw [aG h]
def ji {S:DS} {s b:Nat} (h:cy S s a b=0) (c:(cm S a).2.2=6):bC S s a b=(6,S.take):=by
 unfold bC;rw [aB (by omega),mx,aG (by omega),c];rfl
def Lu {S:DS} {s b:Nat} (h:cy S s a b=0) (d:(cm S a).2.2=0) (c:is S a b=1073741824):bC S s a b=(41,S.take):=by
 unfold bC;rw [aB (by omega),mx,mx,aB (by omega),aG c]
def Iu {S:DS} {s b:Nat} (h:cy S s a b=0) (d:(cm S a).2.2=0) (c:is S a b≠1073741824):bC S s a b=S.take.fl s:=by
 unfold bC;rw [aB (by omega),mx,mx,aB (by omega),aB c]
section
variable {w w':World} {F G:Nat->Prop} {r s k:Nat} {S:DS} {L:LG}
def iJ {f n:Int} {c:Int} {T:DS} (h:bC S s f n=(c,T)) (a:c≠0) (hd:aC w' F r s T) (b:aa F w w'):rB w w' r s S f n (.returned (.tuple #[.pointer none, .slice none 0 0,iV c]))/\aC w' F r s (bC S s f n).2/\aa F w w':=by
 unfold rB;rw [h];exact⟨by rw [aG a],hd,b⟩
def Iv {b:Nat} (h:bC S s (a:Int) (b:Int)=S.take.fl s) (c:(S.take.fl s).1=0) (U5:aC w' F r s (S.take.fl s).2) (d:aa F w w') (oo:w.heap.size<=k) (e:Tz w' w.heap.size k r (LG.new S a b) S v rs hd):
  rB w w' r s S (a:Int) (b:Int) (.returned (.tuple #[pQ k,v,iV 0]))/\aC w' F r s (bC S s (a:Int) (b:Int)).2/\aa F w w':=by
 unfold rB;rw [h];refine⟨?_,U5,d⟩;rw [aB (λh=>h c)];exact⟨k,v,rs,hd,rfl,oo,e⟩
def TA {B:Nat} {e:TypeId} {xs:List Value} (h:W.ownsRow B e 1 v n xs) (b:v.ownBlock=some g):g<W.heap.size:=by
 obtain⟨cur,a⟩:=bB h b;exact aq a
def Pe (h:aC w F r s S) (dO:S.fN) (f n:Int) (aU:S.puts.length+500<=4000000000000):
  Calls prog 122 #[pQ r,iV f,iV n] w λe w'=>rB w w' r s S f n e/\aC w' F r s (bC S s f n).2/\aa F w w':=by
 have m:=C4 h f n;have iM:=yh h.lt;have HD:=yh h;go_in;go_wp2_with fail;by_cases q:cy S s f n=0
 .have C:=yh q;obtain⟨ZE,a,b,rfl,rfl,oN,ar,bd⟩:=fX q;rw [q] at m;have hs:=h.ok.hi;have W:=zP h;have hlA:=bA h.ok a (by omega);have hlB:=bA h.ok (a+1) (by omega);have lG:=rY (S.now a) (S.now (a+1));have u:cm S a=il (S.now a) (S.now (a+1)):=rfl;have FF:=yh dO;have HN:=yh (λa1 c1 a2 c2 w1 q1 q2=>mE a1 512 c1 (S.now a) a2 512 c2 (S.now (a+1)) w1 q1 q2 (dO.now a) (dO.now (a+1)));have mu:=Gq (S.now a) (S.now (a+1));unfold il at u;generalize am (S.now a) (S.now (a+1))=X at*;obtain⟨x1,N,D,ER⟩:=X;simp only at u lG HN mu;have Lv:=yh u;clear h q dO u;refine bJ m λw1 bT=>?_;have jR:=bT.symm;clear bT;subst jR;clear m;go_wp2_with fail;refine fQ W λI cI aY=>?_;have sG:=yh cI;have ii:=yh aY;have em:=aY.size;have h3:=jP cI a (by omega) (by show S.puts.length<=_;omega);have h4:=jP cI (a+1) (by omega) (by show S.puts.length<=_;omega);rw [show ((a+1:Nat):Int)=(a:Int)+1 by omega] at h4;clear W cI aY;go_wp2_with fail;refine h3.mono ?_;rintro e w3 ⟨g3,c3,rfl,_,rV,ec⟩;have eH:=ec.symm;clear ec;subst eH;have fM:=rV.src;rw [show S.take.now a=S.now a from rfl,hlA] at fM;have K:=yh fM;clear h3 rV fM;go_wp2_with fail;refine h4.mono ?_;rintro e w4 ⟨g4,c4,rfl,_,M2,pA⟩;have E3:=pA.symm;clear pA;subst E3;have EC:=M2.src;rw [show S.take.now (a+1)=S.now (a+1) from rfl,hlB] at EC;have h5:=HN.o (some (aD g3 0)) c3 (some (aD g4 0)) c4 I K.o EC;clear h4 M2 EC HN K;go_wp2_with fail;refine h5.mono ?_;rintro e w5 ⟨v5,rfl,BT,fd⟩;obtain⟨a5,c5,rfl,X6,_,_⟩:=BT.src;have jr:=yh fd;have pT:=fd.size;have l:Yh (aa F w w5):=ii.o.trans (aa.ah F fd) (λ_ h=> .inl h);have k:=yh (sG.o.later fd);clear h5 BT fd X6;have q1:(N:Int).tdiv 4294967296=((N / 4294967296:Nat):Int):=by rw [Int.tdiv_eq_ediv_of_nonneg (by omega)];omega
  have q2:(N:Int).tmod 4294967296=((N%4294967296:Nat):Int):=by rw [yI (by omega)];omega
  have hE0:N / 4294967296<=2147483647:=by omega
  have hT0:N%4294967296<4294967296:=by omega
  obtain⟨E,hE⟩:=bP (N / 4294967296);obtain⟨T,hT⟩:=bP (N%4294967296);obtain⟨U,qV⟩:=bP D.length;rw [<-hE] at q1 hE0 Lv;rw [<-hT] at q2 hT0 Lv;rw [<-qV] at Lv mu⊢;clear hE hT qV;by_cases k1:ER=0
  .subst k1;by_cases k2:0<U
   .have j:=yh (ji (b:=b) C.o (by rw [Lv.o,aG (.inr (.inl k2))]));have d2:(0:Int)<(U:Int):=(by omega);clear Lv;go_wp2;go_ret3;exact iJ j.o (by omega) k.o l.o
   .have d2:¬(0:Int)<(U:Int):=(by omega);obtain rfl:U=0:=(by omega);by_cases k3:E<1
    .have j:=yh (ji (b:=b) C.o (by rw [Lv.o,aG (.inr (.inr (.inl k3)))]));have d3:(E:Int)<1:=(by omega);clear Lv;go_wp2;go_ret3;exact iJ j.o (by omega) k.o l.o
    .have d3:¬(E:Int)<1:=(by omega);by_cases k4:1073741824<E
     .have j:=yh (ji (b:=b) C.o (by rw [Lv.o,aG (.inr (.inr (.inr (.inl k4))))]));have d4:(1073741824:Int)<(E:Int):=(by omega);clear Lv;go_wp2;go_ret3;exact iJ j.o (by omega) k.o l.o
     .have d4:¬(1073741824:Int)<(E:Int):=(by omega);by_cases k5:1073741824<T
      .have j:=yh (ji (b:=b) C.o (by rw [Lv.o,aG (.inr (.inr (.inr (.inr k5))))]));have d5:(1073741824:Int)<(T:Int):=(by omega);clear Lv;go_wp2;go_ret3;exact iJ j.o (by omega) k.o l.o
      .have d5:¬(1073741824:Int)<(T:Int):=(by omega);have A:Yh (cm S a=(E,T,0)):=by
        have:=Lv.o;rw [aB (by omega)] at this;exact this
       clear Lv;have MW:cM (w5.alloc (.cells (lrC r ⟨a,b,wrap64 (S.life+1),false,E,T,T,0⟩) 200)) w5.heap.size r ⟨a,b,wrap64 (S.life+1),false,E,T,T,0⟩:=heap_alloc_new _ _;have nL:=aJ w5 (.cells (lrC r ⟨a,b,wrap64 (S.life+1),false,E,T,T,0⟩) 200);have Y:=Tx E (k.o.later nL) MW FF.o.take (by show a+2+b<=s;omega) (by show S.puts.length+1<=_;omega) (by omega);have D9:max E (gQ (ed S.take a) b)=is S a b:=(by unfold is;rw [A.o];rfl);rw [show (({f:=a,n:=b,life:=wrap64 (S.life+1),begun:=false,ep:=E,tail:=T,head:=T,top:=0}:LG).f)=a from rfl,show (({f:=a,n:=b,life:=wrap64 (S.life+1),begun:=false,ep:=E,tail:=T,head:=T,top:=0}:LG).n)=b from rfl,D9] at Y;have Ay:=Em (S:=S) (f:=a) (n:=b) (by rw [A.o]);obtain⟨Q,hQ⟩:=bP (is S a b);rw [<-hQ] at Y Ay;obtain⟨G,HL6,xG⟩:=kI hQ MW nL;have RQ:(w5.alloc (.cells (lrC r ⟨a,b,wrap64 (S.life+1),false,E,T,T,0⟩) 200)).heap.size=w5.heap.size+1:=(by simp);clear hQ D9 MW nL;go_wp2_with fail;refine bJ Y λZ xI=>?_;have Dk:=HL6.o.later xI;have FH:Yh (bW I Z):=jr.o.trans ((xG.o.trans (xI.mono (by omega))).mono pT);have c7:=Dk.c7;have f7:=Dk.fz 7;have Dl:=Dk.Kq Q;have HL8:=yh Dl;have c7':(Z.setCell ⟨w5.heap.size,7,none⟩ (.int .i64 (Q:Int))).cell? (aD w5.heap.size 7)=some (iV (Q:Int)):=Dl.c7;have Ys:Yh (bW I (Z.setCell ⟨w5.heap.size,7,none⟩ (.int .i64 (Q:Int)))):=FH.o.setCell (p:=⟨w5.heap.size,7,none⟩) pT _;clear Y xI Dk Dl FH;by_cases R:Q=1073741824
       .have j:=yh (Lu C.o (by rw [A.o]) (G.o.symm.trans R));have d6:((Q:Int) == 1073741824)=true:=(by rw [R];rfl);clear R;have UT:Yh (aa F w _):=ii.o.trans (aa.ah F Ys.o) (λ_ h=> .inl h);go_wp2;go_ret3;exact iJ j.o (by omega) (yh (sG.o.later Ys.o)).out UT.o
       .have d6:¬(Q:Int)=1073741824:=(by omega);have d6':((Q:Int) == 1073741824)=false:=(by rw [fy];omega);have j:=yh (Iu C.o (by rw [A.o]) (λh=>R (G.o.trans h)));go_wp2;generalize Z.setCell ⟨w5.heap.size,7,none⟩ (.int .i64 (Q:Int))=w8 at*;clear c7 c7' f7 R d6 d6';go_loopw [20] (λv wr=>∃(rs:List (List Int)) (hd:Nat),cM wr w5.heap.size r ⟨a,b,wrap64 (S.life+1),false,E,T,hd,Q⟩/\dR wr I.heap.size v rs (λ_=>False)/\dF (Rp (ed S a) b) E T rs hd/\bW I wr) (λ_ wr=>T+b-(intOf ((wr.cell? (aD w5.heap.size 6)).getD (.bool false))).toNat);case atStart=>exact⟨[],T,HL8.o,dR.nil _ _ _,dF.nil _ _ _,Ys.o⟩
        case round=>
         obtain⟨rs,hd,B6,GB,Ay,ey⟩:=hrel;have hdb:=dF.round (by omega) (uf (ed S a) b) Ay;have rO:=dF.length Ay;have c6:wr.cell? (aD w5.heap.size 6)=some (iV (hd:Int)):=B6.c6;obtain⟨it,R8,Xg,L,mr,Au,HC6⟩:=nD (Xf E hd (sG.o.later ey) B6 FF.o.take (by show a+2+b<=s;omega) (by show 1<=b;omega) (by show S.puts.length+1<=_;omega) (by omega) (by omega)) (yh B6) (yh GB) (yh Ay) (yh ey) ey.size (yh c6);clear B6 GB Ay ey;go_wp2_with fail;refine it.mono ?_;rintro e w9 ⟨v9,n9,rfl,hao,Bq⟩;have hz9:=Bq.size;rcases hao with ⟨c,d,FG,rfl,aA⟩|⟨rfl,rfl,jd⟩
         .have Bo:=FG.1;have aq4:=FG.2.1;have d9:((c:Int) == 0)=false:=(by rw [fy];omega);obtain⟨g,cg,rfl,hg,be⟩:=aA.VC FG.some;obtain⟨v',TB,bI,DQ,ae6,P⟩:=Pd (Xg.o.cells (eB Bq)) be (by omega) (by omega) (by omega);have TC:cM TB w5.heap.size r ⟨a,b,wrap64 (S.life+1),false,E,T,hd,Q⟩:=P _ _ (R8.o.later Bq);have c6':TB.cell? (aD w5.heap.size 6)=some (iV (hd:Int)):=TC.c6;have f6:=TC.fz 6;have TD:=L.o.snoc (show Rec (Rp (ed S a) b) E hd c d from FG);have Eb:=dF.round (by omega) (uf (ed S a) b) TD;have nQ:=yh bI;have B8:cM (TB.setCell ⟨w5.heap.size,6,none⟩ (.int .i64 ((hd:Int)+(c:Int)))) w5.heap.size r ⟨a,b,wrap64 (S.life+1),false,E,T,hd+c,Q⟩:=TC.aa1 ((hd:Int)+(c:Int)) (hd+c) (by omega);have HZ:=yh (aH B8 (aH (DQ.marked TC 6 (iV ((hd:Int)+(c:Int)))) (aH TD ((mr.o.trans ((Bq.mono Au).trans ae6)).setCell (p:=⟨w5.heap.size,6,none⟩) pT (iV ((hd:Int)+(c:Int)))))));have aj3:Yh ((TB.setCell ⟨w5.heap.size,6,none⟩ (.int .i64 ((hd:Int)+(c:Int)))).cell? (aD w5.heap.size 6)=some (iV ((hd+c:Nat):Int))):=B8.c6;clear it Bq bI DQ ae6 P TC B8 TD be aA FG c6;go_wp2_with (at_builtin;refine bu rfl _ _ 62 rfl u20 (.slice (some (aD w9.heap.size 0)) 1 1) _ rfl rfl nQ.o ?_);go_wp2;go_roundw;case rel=>exact⟨rs ++ [d],hd+c,HZ.o⟩
          case measure=>
           rw [HC6.o,aj3.o];simp [intOf];omega
         .have j1:=GO (sG.o.later (mr.o.trans (Bq.mono Au))) (by show S.puts.length+1<=_;omega);have aj4:=yh (Xg.o.cells (eB Bq));have HL9:=yh (R8.o.later Bq);have J:Yh (bW I w9):=mr.o.trans (Bq.mono Au);have tw:=yh jd;clear it Bq jd c6;by_cases H:(S.take.fl s).1=0
          .rw [H] at j1;go_wp2_with fail;refine fQ j1 λTB TE Iw=>?_;have y:Yh (aa F w TB):=ii.o.trans ((aa.ah F J.o).trans Iw (λ_ h=> .inl h)) (λ_ h=> .inl h);have x:=yh TE;have t:=iM.o;have HT:Yh (Tz TB w.heap.size w5.heap.size r (LG.new S a b) S u20 rs hd):=by
            refine⟨?_,by show dF (Rp (ed S a) b) (cm S a).1 (cm S a).2.1 rs hd;rw [A.o];exact L.o,by show∀c d,¬Rec (Rp (ed S a) b) (cm S a).1 hd c d;rw [A.o];exact tw.o,?_⟩
            .obtain⟨vs,m,W⟩:=aj4.o.low em (λ_ h=>h);refine⟨vs,dS m (λg hg=>Iw.block g (TA m hg) (λM=>by have:=jv m hg;have:=t _ M;omega)),λi hi=>?_⟩;obtain⟨g,c,e,hr,hb,hx⟩:=W i hi;exact⟨g,c,e,hr.agree (Iw.block g hr.lt (λM=>by have:=t _ M;omega)),hb,hx⟩
            .have e1:({LG.new S a b with ep:=(cm S a).1,tail:=(cm S a).2.1,head:=hd,top:=is S a b}:LG)=⟨a,b,wrap64 (S.life+1),false,E,T,hd,Q⟩:=(by rw [A.o,G.o];rfl);show cM TB w5.heap.size r ({LG.new S a b with ep:=(cm S a).1,tail:=(cm S a).2.1,head:=hd,top:=is S a b}:LG);rw [e1];exact HL9.o.aw Iw (λM=>by have:=t _ M;omega)
           have HK7:=yh H;clear j1 TE Iw H t;go_wp2;go_ret3;exact Iv j.o HK7.o x.o y.o (by omega) HT.o
          .have O:=lD H;have d7:((S.take.fl s).1 == 0)=false:=(by rw [fy];exact H);have d7':((S.take.fl s).1 != 0)=true:=(by rw [gg];exact H);have HP3:Yh (bC S s (a:Int) (b:Int)=(3,(S.take.fl s).2)):=by
            rw [j.o];exact Prod.ext O.2.2 rfl
           obtain⟨z,hz⟩:=bP ((S.take.fl s).1);rw [<-hz] at j1 d7 d7';clear H O hz;go_wp2_with fail;refine fQ j1 λTB TE Iw=>?_;have y:Yh (aa F w TB):=ii.o.trans ((aa.ah F J.o).trans Iw (λ_ h=> .inl h)) (λ_ h=> .inl h);have x:=yh TE;clear j1 TE Iw;go_wp2;go_ret3;exact iJ HP3.o (by omega) x.o y.o
  .have j:=yh (ji (b:=b) C.o (by rw [Lv.o,aG (.inl k1)]));have d1':((ER:Int) != 0)=true:=(by rw [gg];omega);clear Lv;go_wp2;go_ret3;exact iJ j.o (by omega) k.o l.o
 .have d:(cy S s f n == 0)=false:=by rw [fy];exact q
  have d':(cy S s f n != 0)=true:=by rw [gg];exact q
  refine bJ m λw1 bT=>?_;have jR:=bT.symm;clear bT;subst jR;clear m;go_wp2;go_ret3;exact iJ (yh (Cf q)).out q HD.o (aa.refl _ _)
end
end
section
def eK (w:World) (F:Nat->Prop) (r s:Nat) (S:DS) (e:Ending) (w':World):Prop:=∃x S',j5 S s x S'/\aa F w w'/\((x≠0/\e= .returned (.tuple #[.pointer none,iV x])/\aC w' (more F w w') r s S')\/(x=0/\∃(k kl:Nat) (L:LG) (F' X:Nat->Prop),tA S s L/\e= .returned (.tuple #[pQ k,iV 0])/\(∀j,F' j->more F w w' j)/\(∀j,X j->w.heap.size<=j)/\aC w' F' r s S'/\iN w' F' X r s S' k kl ⟨cE (S.now 0),L, [],false⟩ (.slice none 0 0) [] 0 (.pointer none)))
section
variable {w w':World} {F:Nat->Prop} {r s:Nat} {S:DS}
def Ix (hd:aC w F r s S) (b:S.fuse=0):
  Calls prog 68 #[pQ r] w λe w'=>eK w F r s S e w':=by
 have a:=kr hd;rw [show (S.fuse == 0)=true by simp [b]] at a;go_in;go_wp2_with fail;refine bJ a λw1 bT=>?_;subst bT;go_wp2;go_ret2;exact⟨3,S, .inl ⟨.inl ⟨b,rfl,rfl⟩,by decide,rfl⟩,aa.refl _ _, .inl ⟨by decide,rfl,hd.mono (λ_ h=> .inl h) (λk c=>c.elim (λh=>hd.lt k h) (λh=>h.2))⟩⟩
def eK.bad (hd:aC w F r s S) (c:S.fuse≠0) (jd:¬mQ (S.now 0) s) (a:bW w w'):eK w F r s S (.returned (.tuple #[.pointer none,iV 6])) w':=by
 have h:=hd.later a;exact⟨6,S, .inl ⟨.inr (.inr ⟨c,jd,rfl,rfl⟩),by decide,rfl⟩,aa.ah _ a, .inl ⟨by decide,rfl,h.mono (λ_ h=> .inl h) (λk d=>d.elim (λb=>h.lt k b) (λh=>h.2))⟩⟩
def M3 {S:DS} {s:Nat}:(L.start S s).2.2.f+2+(L.start S s).2.2.n=L.f+2+L.n:=by
 unfold LG.start;split
 .rfl
 .split
  .rfl
  .split <;> rfl
def eK.fail (bq:∀j,F j->j<w.heap.size) (mm:j5 S s x S') (d:x≠0) (hd:aC w' F7 r s S') (b:∀j,F7 j->more F w w' j) (a:aa F w w'):eK w F r s S (.returned (.tuple #[.pointer none,iV x])) w':=
   ⟨x,S',mm,a, .inl ⟨d,rfl,hd.mono b (λj c=>c.elim (λh=>iL (bq j h) a.size) (λh=>h.2))⟩⟩
def eK.done {l a:World} {e:Nat} (q:y=cE (S.now 0)) (o:∀j,F j->j<w.heap.size) (mm:j5 S s 0 S') (mX:tA S s L) (m:∀j,F7 j->more F w l j) (gS:aa F w l) (ox:w.heap.size<=e) (Pf:¬F7 e) (aq8:e<l.heap.size) (oV:aC a (more F7 l a) r s S') (Dl:cM a e r L) (j0:aa (λj=>F7 j\/j=e) l a) (Bl:L.Ok s) (vO:L.begun=true) (Ya:y.home+y.blocks<=s) (B8:L.f+2+L.n<=y.home):
  eK w F r s S (.returned (.tuple #[pQ a.heap.size,iV 0])) (a.alloc (.cells (rsC r e y (.slice none 0 0) 0 (.pointer none)) 129)):=by
 have t:=j0.size;have po:bW a (a.alloc (.cells (rsC r e y (.slice none 0 0) 0 (.pointer none)) 129)):=(bi a.heap.size a).alloc (bR _) _;have eM:(a.alloc (.cells (rsC r e y (.slice none 0 0) 0 (.pointer none)) 129)).heap.size=a.heap.size+1:=by simp
 refine⟨0,S',mm,?_, .inr ⟨rfl,a.heap.size,e,L,more F7 l a,(λj=>j=a.heap.size\/j=e),mX,rfl,λj d=>?_,λj d=>?_,oV.later po,?_⟩⟩
 .refine(gS.trans j0 (λj d=>?_)).trans (aa.ah (λ_=>False) po) (λ_ h=>h.elim);rcases d with d|d
  .exact(m j d).imp id (λh=>h.1)
  .exact .inr (by omega)
 .rcases d with d|d
  .exact(m j d).imp id (λh=>⟨h.1,by omega⟩)
  .exact .inr ⟨by omega,by omega⟩
 .rcases d with d|d <;> omega
 .subst q;refine⟨heap_alloc_new _ _,Dl.later po,Pl.nil _ _, .inl rfl, .inr rfl,λg i k=>?_,λg i=>?_,Bl,vO,Ya,B8,rfl,dL _,λx k=>(by cases k),λ_ b _ _ c p=>(by cases p)⟩
  .rcases i with i|i
   .have:=oV.lt g k;omega
   .rcases k with k|k
    .exact Pf (i▸k)
    .omega
  .rcases i with i|i <;> omega
def Iy (hd:aC w F r s S) (hf:S.fuse≠0) (dO:S.fN) (aU:S.puts.length+6000<=4000000000000):
  Calls prog 68 #[pQ r] w λe w'=>eK w F r s S e w':=by
 have h1:=kr hd;rw [show (S.fuse == 0)=false by simp [hf]] at h1;have yM:=hd.ok.lo;have lG:=hd.ok.hi;have h2:=jP hd 0 (by omega) (by omega);have hl:=bA hd.ok 0 (by omega);have hbn:=dO.now 0;obtain⟨HSi,K,HF,Xc⟩:=BH (Dp hbn hl) hd hf hbn;have FF:=yh dO;clear hd hf;go_in;go_wp2_with fail;refine bJ h1 λw1 bT=>?_;subst bT;clear h1;go_wp2_with fail;refine h2.mono ?_;rintro e w2 ⟨g,c,rfl,hFg,hr,dN⟩;subst dN;have h3:=Ce g 0 c (S.now 0) w2 hl Xc.o (λi Q=>by have:=hr.src.2.2 _ rfl i (by rw [hl];exact Q);rwa [aN] at this);clear h2 hr;go_wp2_with fail;refine h3.mono ?_;rintro e w3 ⟨v,x,rfl,mm,bz⟩;clear h3
 rename World=>W0
 rcases mm with ⟨h0,rfl,rfl⟩|⟨h0,rfl,rfl⟩
 .have Iz:oX (S.now 0):=HSi.o.2 h0;have uQ:=h0.1;clear h0;obtain⟨W,O⟩:∃W,W=W0.alloc (.cells #[.int .i64 ((u32 (S.now 0) 8:Nat):Int), .int .i64 ((u32 (S.now 0) 12:Nat):Int), .int .i64 ((u32 (S.now 0) 16:Nat):Int)] 39):=⟨_,rfl⟩;have ir:W.heap[W0.heap.size]? =some (.cells #[.int .i64 ((u32 (S.now 0) 8:Nat):Int), .int .i64 ((u32 (S.now 0) 12:Nat):Int), .int .i64 ((u32 (S.now 0) 16:Nat):Int)] 39 (0,0)):=by rw [O];exact heap_alloc_new _ _
  have U4:bW w2 W:=by rw [O];exact bz.alloc bz.size _
  have aq9:=bz.size;have Il:W.heap.size=W0.heap.size+1:=by rw [O,World.size_alloc]
  go_wp2_with fail;rw [<-O];clear O bz;have hdW:=K.o.later U4;have c0:=aM ir;have nW:=λk=>kU (hdW.later (below_drewN (bi _ _) k));have HW:=yh (aH hdW (aH U4 ir));clear hdW U4 ir;by_cases oL:u32 (S.now 0) 8=s
  .have WY:(((u32 (S.now 0) 8:Nat):Int) != ((s:Nat):Int))=false:=(by rw [oL];simp);have Lw:Yh (mQ (S.now 0) s):=yh ⟨Iz,oL⟩;have HXs:=yh oL;clear oL;go_quiet (first|(go_at_call 11;refine Calls.quiet_of_same (nW _)));rename_i nq _;have H:bW W (W.drewN nq):=below_drewN (bi _ _) nq;have ff:=yh (aH (HW.o.1.later H) (aH (HW.o.2.1.trans (H.mono HW.o.2.1.size)) ((H.block W0.heap.size (by omega)).trans HW.o.2.2)));have ara:(W.drewN nq).heap.size=W0.heap.size+1:=Il;clear HW c0 nW H Il;generalize W.drewN nq=V at*;have x0:=aM ff.o.2.2;have x1:V.cell? (aD W0.heap.size 1)=some (iV ((u32 (S.now 0) 12:Nat):Int)):=bG ff.o.2.2;have x2:=bM ff.o.2.2;have h3g:((u32 (S.now 0) 12:Nat):Int)+((u32 (S.now 0) 16:Nat):Int) / 4+6<=(s:Int):=by
    have:=uQ;unfold vT at this;rw [HXs.o] at this;omega
   have TF:Calls prog 61 #[.agg #[iV ((u32 (S.now 0) 8:Nat):Int),iV ((u32 (S.now 0) 12:Nat):Int),iV ((u32 (S.now 0) 16:Nat):Int)]] V λe w'=>e= .returned (.tuple #[P6 (cE (S.now 0)),iV 0])/\bW V w':=by
    refine(wd ((u32 (S.now 0) 8:Nat):Int) ((u32 (S.now 0) 12:Nat):Int) ((u32 (S.now 0) 16:Nat):Int) V).mono ?_;rintro e d ⟨v,x,rfl,U1,M4⟩;rcases U1 with ⟨_,rfl,rfl⟩|⟨h9,_⟩
    .refine⟨?_,M4⟩;rw [show ((u32 (S.now 0) 8:Nat):Int)=(s:Int) by rw [HXs.o]];exact Tf (S.now 0) HXs.o h3g
    .exact absurd uQ h9
   have I:=kz Lw.o;have hyl:((u32 (S.now 0) 12:Nat):Int)=((cE (S.now 0)).log:Int):=rfl;obtain⟨y,hy⟩:=bP (cE (S.now 0));rw [<-hy] at TF I hyl;obtain⟨a,HYl⟩:=bV hy hyl;clear uQ Iz h3g hyl hy;go_wp2_with fail;refine bJ TF λd M4=>?_;clear TF;have YC:=M4.size;obtain⟨U,hU⟩:∃U,U=d.alloc (.cells #[.int .i64 (y.log:Int), .int .i64 (y.home:Int), .int .i64 (y.blocks:Int), .int .i64 (y.nodes:Int), .int .i64 (y.data:Int)] 86):=⟨_,rfl⟩;have hux:U.heap[d.heap.size]? =some (.cells #[.int .i64 (y.log:Int), .int .i64 (y.home:Int), .int .i64 (y.blocks:Int), .int .i64 (y.nodes:Int), .int .i64 (y.data:Int)] 86 (0,0)):=(by rw [hU];exact heap_alloc_new _ _);have U6:bW w2 U:=(by rw [hU];exact(ff.o.2.1.trans (M4.mono ff.o.2.1.size)).alloc (by omega) _);have hzU:U.heap.size=d.heap.size+1:=(by rw [hU,World.size_alloc]);have x1U:U.cell? (aD W0.heap.size 1)=some (iV (y.log:Int)):=by
    have e1:bW V U:=(by rw [hU];exact M4.alloc YC _);rw [<-HYl.o];exact iH e1 (by omega) x1
   have hdU:=K.o.later U6;have mn:=Pe hdU FF.o 1 (y.log:Int) (by omega);have HU:=yh (aH hdU (aH U6 hux))
   dsimp only [P6]
   clear x0 x1 x2 M4 hdU U6 hux
   go_upto_region 7 with fail
   rw [<-hU];clear hU;go_wp2_with fail;refine mn.mono ?_;rintro e w4 ⟨uR,P,dW⟩;clear mn x1U;have vt:=dW.size;have M5:=λj b=>K.o.lt j b;have E4:=(aa.ah F HU.o.2.1).trans dW (λ_ h=> .inl h);have aa3:=(dW.block d.heap.size (by omega) (λhF=>by have:=M5 _ hF;omega)).trans HU.o.2.2;unfold rB at uR;by_cases q:(bC S s 1 (y.log:Int)).1=0
   .rw [aB (λh=>h q)] at uR;obtain⟨kl,v,rs,hd,rfl,ox,ht⟩:=uR;have FI:jT S 1 y.log rs hd:=⟨ht.t,ht.x⟩;have ae8:cM w4 kl r (fj S 1 y.log hd):=ht.p;obtain⟨Xh,E6,IA,IB⟩:=mg (f:=1) q;obtain⟨vv,B2,_,_⟩:=FI.small FF.o (by omega);have xV:=yB (s:=s) FI FF.o E6 IA (by omega) (by omega) (by omega);obtain⟨ta,tn,tc,hv,TD,vw⟩:=ht.rc.ae1.shape;subst hv TD;obtain⟨A,HL4,HD4,SM,HUx,HCl,WR,M,G,N⟩:=acx FI ae8 P E4 aa3 vw B2 (aH E6 (aH IA IB)) xV q;have dq:((bC S s 1 (y.log:Int)).1 != 0)=false:=(by rw [q];rfl);have hyb:=I.2.2.2.2;clear ht FI ae8 P dW E4 aa3 vw B2 Xh E6 IA IB xV ff q;go_wp2;go_loopw [11,12] (λv i wr=>∃(j:Nat) (ps:List (Nat×List Int)),j<=rs.length/\i=iV (j:Int)/\iI y.blocks [] rs=iI y.blocks (CM.bU [] ps) (rs.drop j)/\(∀x∈ps,x.1<y.blocks)/\ps.length<=16*j/\Pn wr (λj=>w4.heap.size<=j) w4.heap.size v ps/\bW w4 wr) (λ_ i _=>rs.length-(intOf i).toNat);case atStart=>exact⟨0, [],dL _,rfl,rfl,λx z=>(by cases z),dL _,Pn.nil _ _ _,bi _ _⟩
    case round=>
     obtain⟨j,ps,b,rfl,bX,PK,pF,nH,ey⟩:=hrel;obtain⟨Au,Jy,mr,HPk⟩:=cP ey.size (yh nH) (yh ey) (yh PK);by_cases qj:j<rs.length
     .have qj':(j:Int)<(rs.length:Int):=(by omega);obtain⟨tb,tg,D,rfl,p1,be⟩:=HCl.o j qj;have ae9:∀{g o:Nat} {u:Value},w4.cell? (aD g o)=some u->wr.cell? (aD g o)=some u:=λhc=>dC (aa.ah (λ_=>False) ey) (λh=>h) hc;have T:=ae9 p1;have R:wr.cell? (aD d.heap.size 2)=some (iV (y.blocks:Int)):=ae9 (bM HUx.o);have IC:=be.agree (ey.block tg be.lt);have vK:=List.drop_eq_getElem_cons qj;rw [vK,tB] at bX;have FG:=Iq (some (aD tg 0)) (rs[j]).length D rs[j] wr.drew (IC.src.later (ai (bi _ _))) (WR.o _ (List.getElem_mem qj)).1 (WR.o _ (List.getElem_mem qj)).2 (by have:=IC.le;simpa [bs] using this) (by have:=IC.max;unfold maxLen at this;omega) y.blocks hyb;cases Jl:gG y.blocks rs[j] with
      |none=>
       rw [Jl] at bX FG;have TH:Calls prog 123 #[.slice (some (aD tg 0)) (rs[j]).length D,iV (y.blocks:Int)] wr.drew λe w'=>e= .returned (.tuple #[.slice none 0 0, .bool false])/\bW wr w':=FG.mono (by
        rintro e w' ⟨ho,hb⟩;rcases ho with ⟨_,rfl⟩|⟨cs,v',h0,_⟩
        .exact⟨rfl,(ai (bi _ _)).trans hb⟩
        .cases h0)
       obtain⟨Xg,O9⟩:=bV TH bX;clear FG TH nH ey PK p1 be IC bX;go_wp2_with fail;go_region_held3 (λw'=>w'.cell? (aD tb j)=some (.slice (some (aD tg 0)) (rs[j]).length D)/\w'.cell? (aD d.heap.size 2)=some (iV (y.blocks:Int)))
        (first|exact⟨T,R⟩|exact VV)
          ((go_at_call 123;refine Xg.o.mono ?_;rintro e w5 ⟨rfl,fd⟩;have VV:w5.cell? (aD tb j)=some (.slice (some (aD tg 0)) (rs[j]).length D)/\w5.cell? (aD d.heap.size 2)=some (iV (y.blocks:Int)):=⟨dC (aa.ah (λ_=>False) fd) (λh=>h) T,dC (aa.ah (λ_=>False) fd) (λh=>h) R⟩))
       have jr:=yh (mr.o.trans (fd.mono Au));clear VV fd;go_wp2;go_ret2;have Bq:=jr.o;exact eK.fail (F7:=F) M5 (.inr ⟨Lw.o,HF.o, .inr ⟨by rw [<-a.o];exact N.o,rs,hd,by rw [<-a.o];exact A.o, .inl ⟨by rw [<-a.o];exact O9.o,rfl,by rw [<-a.o]⟩⟩⟩) (by decide) (HD4.o.later Bq) (λ_ h=> .inl h) (SM.o.trans (aa.ah (λ_=>False) Bq) (λ_ h=>h.elim))
      |some cs=>
       rw [Jl] at bX FG;have yK:=O7 Jl;have hck:=oZ Jl;have TH:Calls prog 123 #[.slice (some (aD tg 0)) (rs[j]).length D,iV (y.blocks:Int)] wr.drew λe w'=>∃v',e= .returned (.tuple #[v', .bool true])/\Pn w' (λj=>wr.heap.size<=j) wr.heap.size v' cs/\bW wr w':=FG.mono (by
        rintro e w' ⟨ho,hb⟩;rcases ho with ⟨h0,_⟩|⟨cs',v',h0,rfl,hp⟩
        .cases h0
        .cases h0;exact⟨v',rfl,hp,(ai (bi _ _)).trans hb⟩)
       obtain⟨Xg,O9,HCk⟩:=kI TH bX hck;clear FG TH nH ey PK p1 be IC bX hck Jl;go_wp2_with fail;go_region_held3 (λw'=>w'.cell? (aD tb j)=some (.slice (some (aD tg 0)) (rs[j]).length D)/\w'.cell? (aD d.heap.size 2)=some (iV (y.blocks:Int)))
        (first|exact⟨T,R⟩|exact VV)
          ((go_at_call 123;refine Xg.o.mono ?_;rintro e w5 ⟨v',rfl,SU,fd⟩;have VV:w5.cell? (aD tb j)=some (.slice (some (aD tg 0)) (rs[j]).length D)/\w5.cell? (aD d.heap.size 2)=some (iV (y.blocks:Int)):=⟨dC (aa.ah (λ_=>False) fd) (λh=>h) T,dC (aa.ah (λ_=>False) fd) (λh=>h) R⟩))
       have pT:=fd.size;obtain⟨g2,cJ,X,bI,afa,jE⟩:=(Jy.o.later fd).cat SU (λi (Q:wr.heap.size<=i)=>(k9 Au Q:w4.heap.size<=i)) (by omega) (by omega) (by omega);have nL:=(mr.o.trans (fd.mono Au)).trans (jE.below (λi Q=>Jy.o.lo i Q) (by omega));obtain⟨l,nQ⟩:=bV (aH afa nL) bI;clear VV fd SU bI afa jE nL;go_wp2_with (at_builtin;refine bu rfl _ _ 127 rfl u11 v' _ rfl rfl nQ.o ?_);go_roundw;case rel=>exact⟨j+1,ps ++ cs,by omega,by go_num,by rw [qt];exact O9.o,λx z=>(List.mem_append.1 z).elim (HPk.o x) (HCk.o x),by rw [ee];omega,l.o⟩
       case measure=>simp [intOf];omega
     .have qj':¬(j:Int)<(rs.length:Int):=(by omega);obtain rfl:j=rs.length:=(by omega);rw [List.drop_length] at bX;have vf:iI y.blocks [] rs=some (CM.bU [] ps):=bX;obtain⟨Bq,kw,B6,Xi⟩:=cP ey (HD4.o.later ey) (HL4.o.later ey) (SM.o.trans (aa.ah (λ_=>False) ey) (λ_ h=>h.elim));have ID:=(ey.block d.heap.size (by omega)).trans HUx.o;have ard:=HL4.o.lt;have Pf:¬F kl:=λhF=>by have:=M5 _ hF;omega
      have aa6:(bC S s 1 (y.log:Int)).2.puts= []:=by
       have:=N.o;rw [show bC S s 1 (y.log:Int)=S.take.fl s from M.o.2.2] at this⊢;exact jn this
      have aa7:(bC S s 1 (y.log:Int)).2.fN:=by
       rw [show bC S s 1 (y.log:Int)=S.take.fl s from M.o.2.2];exact FF.o.take.fl s
      have aa8:∀i,i<s->(bC S s 1 (y.log:Int)).2.now i=S.now i:=λi Q=>by
       rw [show bC S s 1 (y.log:Int)=S.take.fl s from M.o.2.2];exact fa (S:=S.take) ⟨K.o.ok.len,K.o.ok.lo,K.o.ok.hi,K.o.ok.puts,K.o.ok.fuse⟩ Q
      clear nH ey PK bX;have afb:w2.heap.size<=kl:=(by omega);have afc:(fj S 1 y.log hd).f+2+(fj S 1 y.log hd).n<=y.home:=(by show 1+2+y.log<=y.home;rw [a.o];exact Nat.le_of_eq (by show 1+2+u32 (S.now 0) 12=3+u32 (S.now 0) 12;omega));have JV:S.num 1<((fj S 1 y.log hd).top+1)*4294967296:=EY M.o.1;obtain⟨m,YD⟩:∃m,m=(bC S s 1 (y.log:Int)).2:=⟨_,rfl⟩;rw [<-YD] at kw aa6 aa7 aa8;have pd:=yh YD;have TI:m.num 1<((fj S 1 y.log hd).top+1)*4294967296:=(by rw [vX (S:=S) (S':=m) (aa8 1 (by omega)) (aa8 2 (by omega))];exact JV);have hp0:m.puts.length=0:=(by rw [aa6];rfl);have EH:∀q∈CM.bU [] ps,y.home+q.1<s/\q.2.length=512:=λq H=>⟨by have:=HPk.o q (eW H);have:=I.1;omega,(Jy.o.pl.len q (eW H)).1⟩;have UZ:=λq H=>(Jy.o.pl.len q (eW H)).2;have hyh:3<=y.home:=(by rw [a.o];show 3<=3+u32 (S.now 0) 12;omega);clear YD aa6 HCl;by_cases q0:rs= []
      .have dl:¬(0:Int)<(rs.length:Int):=(by rw [q0];decide);have Jq:Yh (ev m s y (CM.bU [] ps) rs=(0,m)):=yh (by unfold ev;rw [aG q0]);clear q0;have bj:=Az kw B6 G.o Pf aa7 (by omega) (λ_ _=>TI);have sk:=tz (S:=m) G.o;have tC:=AN (L:=fj S 1 y.log hd) (S:=m) (s:=s) (kw).ok rfl (by show 1+1<s;omega) TI G.o.top;have IE:Yh (j5 S s ((fj S 1 y.log hd).start m s).1 ((fj S 1 y.log hd).start m s).2.1):=yh (.inr ⟨Lw.o,HF.o, .inr ⟨by rw [<-a.o];exact N.o,rs,hd,by rw [<-a.o];exact A.o, .inr ⟨CM.bU [] ps,by rw [<-a.o];exact vf, .inr ⟨by rw [<-a.o,<-pd.o,Jq.o],by rw [<-a.o,<-pd.o,Jq.o],by rw [<-a.o,<-pd.o,Jq.o]⟩⟩⟩⟩);have TJ:Yh (tA S s ((fj S 1 y.log hd).start m s).2.2):=yh ⟨rs,hd,CM.bU [] ps,by rw [<-a.o];exact A.o,by rw [<-a.o];exact vf,by rw [<-a.o,<-pd.o,Jq.o]⟩;have J:=yh sk;by_cases C:((fj S 1 y.log hd).start m s).1=0
       .have ds:(((fj S 1 y.log hd).start m s).1 != 0)=false:=(by rw [C];rfl);have Xj:=yh C;clear C tC sk;go_wp2_with fail;refine pz bj λE oV Dl j0=>?_;have hz8:=j0.size;have we:=(j0.block d.heap.size (by omega) (λz=>by rcases z with z|z;(have:=M5 _ z;omega);omega)).trans ID;have l0:E.cell? (aD d.heap.size 0)=some (iV (y.log:Int)):=aM we;have l1:E.cell? (aD d.heap.size 1)=some (iV (y.home:Int)):=bG we;have l2:E.cell? (aD d.heap.size 2)=some (iV (y.blocks:Int)):=bM we;have l3:E.cell? (aD d.heap.size 3)=some (iV (y.nodes:Int)):=fU we;have l4:E.cell? (aD d.heap.size 4)=some (iV (y.data:Int)):=gH we;have l:=yh (aH oV (aH Dl j0));clear bj oV Dl j0 we;go_wp2;go_ret2;have mm:=IE.o;rw [Xj.o] at mm;exact eK.done a.o M5 mm TJ.o (λ_ h=> .inl h) Xi afb Pf (by omega) l.o.1 l.o.2.1 l.o.2.2 (J.o Xj.o).1 (J.o Xj.o).2 I.1 (by rw [M3];exact afc)
       .have ds:(((fj S 1 y.log hd).start m s).1 != 0)=true:=(by rw [gg];exact C);obtain⟨Xj,h33⟩:=bV C (tC.resolve_left C);clear C tC sk;go_wp2_with fail;refine pz bj λE oV Dl j0=>?_;have hz8:=j0.size;have l:=yh (aH oV j0);clear bj oV Dl j0;go_wp2;go_ret2;have mm:=IE.o;rw [h33.out] at mm;exact eK.fail (F7:=more F wr E) M5 mm (by decide) l.o.1 (λj b=>by rcases b with b|b;exact .inl b;exact .inr ⟨by omega,b.2⟩) (Xi.trans l.o.2 (λj b=>by rcases b with b|b;exact .inl b;exact .inr (by omega)))
      .have dl:(0:Int)<(rs.length:Int):=(by have:=List.length_pos_iff.2 q0;omega);have Xk:=Av (y:=y) kw Jy.o.pl.pv (λg hg hF=>by have:=M5 _ hF;rcases hg with hg|hg;omega;have:=Jy.o.lo g hg;omega) I.1 HPk.o (by omega) (by omega);obtain⟨b1,b2,b3,b4,b5⟩:=eE (h0:=y.home) (ms:=CM.bU [] ps) kw.ok EH;have hYp:=eG m s y.home (CM.bU [] ps);have hYb:=kv aa7 s y.home UZ;have hol:(CM.bU [] ps).length<=2048:=by
        rcases CM.length_le (n:=2048) (mP ps) (λq H=>by have:=(EH q H).1;omega) 0 (λ_ _=>dL _) with h1|h1
        .omega
        .rw [h1];simp
       have lf:ev m s y (CM.bU [] ps) rs=if (aE m s y.home (CM.bU [] ps)).1≠0 then aE m s y.home (CM.bU [] ps) else (aE m s y.home (CM.bU [] ps)).2.fl s:=(by unfold ev;rw [aB q0]);have l0:wr.cell? (aD d.heap.size 0)=some (iV (y.log:Int)):=aM ID;have l1:wr.cell? (aD d.heap.size 1)=some (iV (y.home:Int)):=bG ID;have l2:wr.cell? (aD d.heap.size 2)=some (iV (y.blocks:Int)):=bM ID;have l3:wr.cell? (aD d.heap.size 3)=some (iV (y.nodes:Int)):=fU ID;have l4:wr.cell? (aD d.heap.size 4)=some (iV (y.data:Int)):=gH ID;generalize hY9:aE m s y.home (CM.bU [] ps)=Y at*;clear hY9 q0;by_cases qy:Y.1=0
       .have dy:(Y.1 == 0)=true:=(by rw [qy];rfl);rw [aB (λh=>h qy)] at lf;clear qy;go_wp2_with fail;refine fQ Xk λX pK jE=>?_;have j1:=fH pK (by omega);have RQ:=jE.size;have akb:=(jE.block d.heap.size (by omega) (λz=>by have:=M5 _ z;omega)).trans ID;have MW:=B6.aw jE Pf;have AS:=Xi.trans jE (λ_ h=> .inl h);have Xl:=λi (Q:i<s)=>fa b3 Q;have hZb:=hYb.fl s;have hZp:=mi Y.2 s;have HF6:=yh (λ(j:Nat) (b:more F wr X j)=>(b.imp id (λh=>⟨by omega,h.2⟩):more F w2 X j));generalize hZ9:Y.2.fl s=Z at*;have HZ9:=yh hZ9;clear Xk pK jE hZ9 l0 l1 l2 l3 l4;by_cases qz:Z.1=0
        .have dz:(Z.1 == 0)=true:=(by rw [qz];rfl);have Jq:Yh (ev m s y (CM.bU [] ps) rs=(0,Z.2)):=yh (by rw [lf];exact Prod.ext qz rfl);clear qz lf;go_wp2_with fail;refine fQ j1 λw7 nS gS=>?_;have hz7:=gS.size;have TK:¬more F wr X kl:=λh=>h.elim Pf (λh=>by omega);have Dk:=MW.aw gS TK;have akc:=(gS.block d.heap.size (by omega) (λz=>by rcases z with z|z;(have:=M5 _ z;omega);omega)).trans akb;have Cg:=AS.trans gS (λj b=>b.imp id (λh=>by omega));have HF7:=yh (λ(j:Nat) (b:more F wr X j)=>((HF6.o j b).imp id (λh=>⟨h.1,by omega⟩):more F w2 w7 j));have YE:Z.2.num 1<((fj S 1 y.log hd).top+1)*4294967296:=by
          rw [vX (S:=m) (S':=Z.2) ((Xl 1 (by omega)).trans (b5 1 (λq H e=>by omega))) ((Xl 2 (by omega)).trans (b5 2 (λq H e=>by omega)))];exact TI
         clear j1 gS b1 b2 b3 b4 b5 EH UZ Xl kw B6 ID;have bj:=Az nS Dk G.o TK hZb (by omega) (λ_ _=>YE);have sk:=tz (S:=Z.2) G.o;have tC:=AN (L:=fj S 1 y.log hd) (S:=Z.2) (s:=s) (nS).ok rfl (by show 1+1<s;omega) YE G.o.top;have IE:Yh (j5 S s ((fj S 1 y.log hd).start Z.2 s).1 ((fj S 1 y.log hd).start Z.2 s).2.1):=yh (.inr ⟨Lw.o,HF.o, .inr ⟨by rw [<-a.o];exact N.o,rs,hd,by rw [<-a.o];exact A.o, .inr ⟨CM.bU [] ps,by rw [<-a.o];exact vf, .inr ⟨by rw [<-a.o,<-pd.o,Jq.o],by rw [<-a.o,<-pd.o,Jq.o],by rw [<-a.o,<-pd.o,Jq.o]⟩⟩⟩⟩);have TJ:Yh (tA S s ((fj S 1 y.log hd).start Z.2 s).2.2):=yh ⟨rs,hd,CM.bU [] ps,by rw [<-a.o];exact A.o,by rw [<-a.o];exact vf,by rw [<-a.o,<-pd.o,Jq.o]⟩;have J:=yh sk;by_cases C:((fj S 1 y.log hd).start Z.2 s).1=0
         .have ds:(((fj S 1 y.log hd).start Z.2 s).1 != 0)=false:=(by rw [C];rfl);have Xj:=yh C;clear C tC sk;go_wp2_with fail;refine pz bj λE oV Dl j0=>?_;have hz8:=j0.size;have we:=(j0.block d.heap.size (by omega) (λz=>by rcases z with z|z;(rcases z with z|z;(have:=M5 _ z;omega);omega);omega)).trans akc;have l0:E.cell? (aD d.heap.size 0)=some (iV (y.log:Int)):=aM we;have l1:E.cell? (aD d.heap.size 1)=some (iV (y.home:Int)):=bG we;have l2:E.cell? (aD d.heap.size 2)=some (iV (y.blocks:Int)):=bM we;have l3:E.cell? (aD d.heap.size 3)=some (iV (y.nodes:Int)):=fU we;have l4:E.cell? (aD d.heap.size 4)=some (iV (y.data:Int)):=gH we;have l:=yh (aH oV (aH Dl j0));clear bj oV Dl j0 we;go_wp2;go_ret2;have mm:=IE.o;rw [Xj.o] at mm;exact eK.done a.o M5 mm TJ.o HF7.o Cg afb TK (by omega) l.o.1 l.o.2.1 l.o.2.2 (J.o Xj.o).1 (J.o Xj.o).2 I.1 (by rw [M3];exact afc)
         .have ds:(((fj S 1 y.log hd).start Z.2 s).1 != 0)=true:=(by rw [gg];exact C);obtain⟨Xj,h33⟩:=bV C (tC.resolve_left C);clear C tC sk;go_wp2_with fail;refine pz bj λE oV Dl j0=>?_;have hz8:=j0.size;have l:=yh (aH oV j0);clear bj oV Dl j0;go_wp2;go_ret2;have mm:=IE.o;rw [h33.out] at mm;exact eK.fail (F7:=more (more F wr X) w7 E) M5 mm (by decide) l.o.1 (λj b=>by rcases b with b|b;exact(HF7.o j b).imp id (λh=>⟨h.1,by omega⟩);exact .inr ⟨by omega,b.2⟩) (Cg.trans l.o.2 (λj b=>by rcases b with b|b;exact(HF7.o j b).imp id (λh=>h.1);exact .inr (by omega)))
        .have dz:(Z.1 == 0)=false:=(by rw [fy];exact qz);have dn:(Z.1 != 0)=true:=(by rw [gg];exact qz);have lq:Z.1=3:=by
          have h9:(Y.2.fl s).1≠0:=(by rw [HZ9.o];exact qz);have:=(lD h9).2.2;rwa [HZ9.o] at this
         have HSO:Yh (j5 S s 3 Z.2):=yh (.inr ⟨Lw.o,HF.o, .inr ⟨by rw [<-a.o];exact N.o,rs,hd,by rw [<-a.o];exact A.o, .inr ⟨CM.bU [] ps,by rw [<-a.o];exact vf, .inl ⟨by rw [<-a.o,<-pd.o,lf];exact lq,by decide,by rw [<-a.o,<-pd.o,lf]⟩⟩⟩⟩);clear qz lq lf;go_wp2_with fail;refine fQ j1 λw7 nS gS=>?_;have hz7:=gS.size;have Cg:=AS.trans gS (λj b=>b.imp id (λh=>by omega));have l:=yh (aH nS Cg);clear j1 nS gS Cg b1 b2 b3 b4 b5 EH UZ Xl;go_wp2;go_ret2;exact eK.fail (F7:=more F wr X) M5 HSO.o (by decide) l.o.1 (λj b=>(HF6.o j b).imp id (λh=>⟨h.1,by omega⟩)) l.o.2
       .have dy:(Y.1 == 0)=false:=(by rw [fy];exact qy);have dn:(Y.1 != 0)=true:=(by rw [gg];exact qy);rw [aG qy] at lf;have hy3:=b1.resolve_left qy;have HSO:Yh (j5 S s 3 Y.2):=yh (.inr ⟨Lw.o,HF.o, .inr ⟨by rw [<-a.o];exact N.o,rs,hd,by rw [<-a.o];exact A.o, .inr ⟨CM.bU [] ps,by rw [<-a.o];exact vf, .inl ⟨by rw [<-a.o,<-pd.o,lf];exact hy3,by decide,by rw [<-a.o,<-pd.o,lf]⟩⟩⟩⟩);clear qy hy3 lf;go_wp2_with fail;refine fQ Xk λX pK jE=>?_;have RQ:=jE.size;have AS:=Xi.trans jE (λ_ h=> .inl h);have l:=yh (aH pK AS);clear Xk pK jE AS b1 b2 b3 b4 b5 EH UZ l0 l1 l2 l3 l4;go_wp2;go_ret2;exact eK.fail (F7:=more F wr X) M5 HSO.o (by decide) l.o.1 (λj b=>b.imp id (λh=>⟨by omega,h.2⟩)) l.o.2
   .rw [aG q] at uR;subst uR;have dq:((bC S s 1 (y.log:Int)).1 != 0)=true:=(by rw [gg];exact q);obtain⟨l,N⟩:=bV (aH P E4) q;clear P dW E4 q aa3;generalize hLO:bC S s 1 (y.log:Int)=LO at*;have HLO:=yh hLO;clear hLO;go_wp2;go_ret2;refine⟨LO.1,LO.2, .inr ⟨Lw.o,HF.o, .inl ⟨by rw [<-a.o];exact congrArg Prod.fst HLO.o,N.o,by rw [<-a.o];exact(congrArg Prod.snd HLO.o).symm⟩⟩,l.o.2, .inl ⟨N.o,rfl,l.o.1.mono (λ_ h=> .inl h) (λk hk=>hk.elim (λh=>l.o.1.lt k h) (λh=>h.2))⟩⟩
  .have WY:(((u32 (S.now 0) 8:Nat):Int) != ((s:Nat):Int))=true:=(by rw [gg];omega);have tw:Yh (¬mQ (S.now 0) s):=yh (λh=>oL h.2);go_quiet (first|(go_at_call 11;refine Calls.quiet_of_same (nW _)));clear c0 nW;go_wp2;go_ret2;exact eK.bad K.o HF.o tw.o (HW.o.2.1.trans (below_drewN (bi _ _) _))
 .have tw:Yh (¬mQ (S.now 0) s):=yh (λh=>h0 (HSi.o.1 h.1));obtain⟨W,O⟩:=bP (W0.alloc (.cells #[.int .i64 0, .int .i64 0, .int .i64 0] 39));have U4:bW w2 W:=by rw [O];exact bz.alloc bz.size _
  have De:=yh U4;clear h0 bz;go_wp2_with fail;rw [<-O];clear O U4;go_quiet (fail);go_wp2;go_ret2;exact eK.bad K.o HF.o tw.o (De.o.trans (below_drewN (bi _ _) _))
end
end
section
section
variable {w w' U wx wy wz:World} {F:Nat->Prop} {r s:Nat} {S S':DS}
def rC (xY:aa F U wx) (b:bW wx wy) (hd:aC wz (more (more F U wx) wy wz) r s S') (c:aa (more F U wx) wy wz):aC wz (more F U wz) r s S'/\aa F U wz:=by
 obtain⟨h0,d,e⟩:=kH xY.size b.size c.size;refine⟨hd.mono (λj a=>?_) (λj a=>?_),(xY.trans (aa.ah (λ_=>False) b) (λ_ h=>h.elim)).trans c (λj a=>a.imp id (λh=>h.1))⟩
 .rcases a with (a|a)|a
  .exact .inl a
  .exact .inr ⟨a.1,by omega⟩
  .exact .inr ⟨by omega,a.2⟩
 .exact a.elim (λh=>hd.lt j (.inl (.inl h))) (λh=>h.2)
def M6 (xY:aa F U wx) (hd:aC wy (more F U wx) r s S') (b:aa (more F U wx) wx wy):aC wy (more F U wy) r s S'/\aa F U wy:=by
 have c:=b.size;refine⟨hd.mono (λj a=>a.imp id (λh=>⟨h.1,by omega⟩)) (λj a=>a.elim (λh=>hd.lt j (.inl h)) (λh=>h.2)),xY.trans b (λj a=>a.imp id (λh=>h.1))⟩
def tD (w:World) (F:Nat->Prop) (r s:Nat) (R:Int×DS) (e:Ending) (w':World):Prop:=e= .returned (iV R.1)/\aC w' (more F w w') r s R.2/\aa F w w'
def tD.of {R:Int×DS} (a:bW w U) (h:aC w' (more F U w') r s R.2/\aa F U w'):tD w F r s R (.returned (iV R.1)) w':=⟨rfl,uy a h.1 h.2⟩
def tD.same (hd:aC w F r s S) (a:bW w w'):tD w F r s (x,S) (.returned (iV x)) w':=
   ⟨rfl,(hd.later a).mono (λ_ h=> .inl h) (λk c=>c.elim (λb=>(hd.later a).lt k b) (λh=>h.2)),aa.ah _ a⟩
def Pg {m:Nat} (h:n<=m) (c:(aE S s a (fe n)).1≠0):aE S s a (fe m)=aE S s a (fe n):=by
 obtain⟨R,b⟩:=Db h;rw [b,fw,aG c]
def XG (c:S.fuse≠0) (d:1<=s):mj S s=(S.take.wr s 0 512 (zs 512)).2.fl s/\(S.take.wr s 0 512 (zs 512)).1=0:=by
 have h0:(S.take.wr s ((0+0:Nat):Int) 512 (zs 512)).1=0:=by rw [pf (S:=S.take) (k:=0+0) c (by omega)]
 have b:aE S.take s 0 (fe 1)=S.take.wr s ((0+0:Nat):Int) 512 (zs 512):=by
  have:=qE (S:=S.take) (s:=s) (h0:=0) (a:= []) rfl (0,zs 512);exact this
 refine⟨?_,h0⟩;unfold mj eD;rw [b,aB (λh=>h h0)];rfl
def E7 (hd:aC w F r s S) (dO:S.fN) (a b c:Int) (aU:S.puts.length+6000<=4000000000000):
  Calls prog 24 #[pQ r, .agg #[iV a,iV b,iV c]] w λe w'=>tD w F r s (bZ S s a b c) e w':=by
 obtain⟨R,j⟩:=bP (bZ S s a b c);rw [<-j];unfold bZ at j;obtain⟨W,E⟩:=bP (w.alloc (.cells #[.int .i64 a, .int .i64 b, .int .i64 c] 39));have E8:bW w W:=by rw [E];exact(bi w.heap.size w).alloc (bR _) _
 have Ci:W.heap[w.heap.size]? =some (.cells #[.int .i64 a, .int .i64 b, .int .i64 c] 39 (0,0)):=by rw [E];exact heap_alloc_new _ _
 have Il:W.heap.size=w.heap.size+1:=by rw [E,World.size_alloc]
 obtain⟨yM,lG,M,X,De,MT⟩:=jH hd.ok.lo hd.ok.hi (kr (hd.later E8)) (yh hd) (yh E8) (yh Ci);have FF:=yh dO;have rW:=hd.lt;clear hd dO E8 Ci;by_cases H:S.fuse=0
 .rw [show (S.fuse == 0)=true by simp [H]] at M;rw [aG H] at j;have d:=yh j;clear j H;go_in;go_wp2_with fail;rw [<-E];clear E;refine bJ M λw1 bT=>?_;subst bT;clear M;go_wp2;go_ret;rw [d.o];exact tD.same X.o De.o
 .rw [show (S.fuse == 0)=false by simp [H]] at M;rw [aB H] at j;have HF:=yh H;clear H;have x0:W.cell? (aD w.heap.size 0)=some (iV a):=aM MT.o;have x1:W.cell? (aD w.heap.size 1)=some (iV b):=bG MT.o;have x2:W.cell? (aD w.heap.size 2)=some (iV c):=bM MT.o;have pF:=wd a b c W;go_in;go_wp2_with fail;rw [<-E];clear E;refine bJ M λw1 bT=>?_;subst bT;clear M;go_wp2_with fail;refine pF.mono ?_;rintro e V ⟨v,x,rfl,U1,M4⟩;have YC:=M4.size;clear pF;have bd:=De.o.trans (M4.mono (by omega));rcases U1 with ⟨J,rfl,rfl⟩|⟨J,rfl,rfl⟩
  .obtain⟨m,t⟩:=bP (V.alloc (.cells #[.int .i64 b, .int .i64 (3+b), .int .i64 (a-(3+b)), .int .i64 c, .int .i64 (2+c / 4)] 86));have U6:bW w m:=(by rw [t];exact bd.alloc (by omega) _);have y0:m.cell? (aD w.heap.size 0)=some (iV a):=by
    have e1:bW w1 m:=(by rw [t];exact M4.alloc YC _);exact iH e1 (by omega) x0
   have y1:m.cell? (aD w.heap.size 1)=some (iV b):=by
    have e1:bW w1 m:=(by rw [t];exact M4.alloc YC _);exact iH e1 (by omega) x1
   have y2:m.cell? (aD w.heap.size 2)=some (iV c):=by
    have e1:bW w1 m:=(by rw [t];exact M4.alloc YC _);exact iH e1 (by omega) x2
   go_upto_region 4 with fail
   rw [<-t];clear t M4 bd x0 x1 x2;have nW:=λk=>kU ((X.o.later U6).later (below_drewN (bi _ _) k));have A:=yh U6;clear U6;by_cases N:a=(s:Int)
   .have E9:(a != (s:Int))=false:=(by rw [N];simp);rw [aG ⟨J,N⟩] at j;go_quiet (first|(go_at_call 11;refine Calls.quiet_of_same (nW _)));rename_i nq _;have hq:bW m (m.drewN nq):=below_drewN (bi _ _) nq;have l:=yh (A.o.trans (hq.mono A.o.size));have z0:=dC (aa.ah (λ_=>False) hq) (λh=>h) y0;have z1:=dC (aa.ah (λ_=>False) hq) (λh=>h) y1;have z2:=dC (aa.ah (λ_=>False) hq) (λh=>h) y2;clear A nW hq y0 y1 y2;generalize m.drewN nq=U at*;obtain⟨an,C,cn,hae,rfl,rfl⟩:=MS J;rw [mx,mx] at j;have K:=J;rw [N] at z0 K;obtain⟨d,HG⟩:=bV j K;clear j J K N E9 hae;go_wp2_with fail;refine(zP (X.o.later l.o)).mono ?_;rintro e w3 ⟨rfl,G,aZ⟩;have hze:=rk w3;go_wp2_with fail;refine fQ hze λw4 xn eJ=>?_;have d3:aC w3 (more F U w3) r s S.take:=G.mono (λ_ h=> .inl h) (λk hk=>hk.elim (λh=>G.lt k h) (λh=>h.2));have htp:S.take.puts.length=S.puts.length:=rfl;obtain⟨yx,WE,I,lW,jZ⟩:=eQ (iG (d3.later eJ) 0 (some (aD w3.heap.size 0)) 512 512 (zs 512) (by have:=xn.src;rw [List.length_replicate] at this;exact this) (by omega)) (jk S.take s 0 512 (zs 512)) (XG HF.o yM) (yh aZ) (yh eJ);clear hze xn eJ d3 G aZ;go_wp2_with fail;refine fQ yx λw5 jJ dX=>?_;obtain⟨d5,k5⟩:=rC lW.o jZ.o jJ dX;have j1:=fH d5 (by omega);rw [<-I.1] at j1;have YF:=(FF.o.take.wr s 0 512 (Gv 512)).fl s;have hfp:=mi (S.take.wr s 0 512 (zs 512)).2 s;rw [<-I.1] at YF hfp;clear yx jJ dX I;generalize (S.take.wr s 0 512 (zs 512))=Q1 at*;go_wp2_with fail;refine fQ j1 λw6 pK jE=>?_;obtain⟨d6,k6⟩:=M6 k5 pK jE;obtain⟨Xm,ON,Z,HZ2,UM⟩:=eQ (yh (aH d6 k6)) (yh z0) (yh z1) (yh z2) d.o;unfold lQ ml jW nr at UM;clear j1 pK jE d5 k5 d6 k6 z0 z1 z2 d;generalize mj S s=g at*;have KN:¬F w.heap.size:=λh=>by have:=rW _ h;omega
    have Du:∀{wx:World} {o:Nat} {u:Value},aa F U wx->U.cell? (aD w.heap.size o)=some u->wx.cell? (aD w.heap.size o)=some u:=λhk hc=>dC hk KN hc;by_cases O:g.1=0
    .rw [aB (λh=>h O)] at UM;obtain⟨HP0,zI⟩:=bV O UM;clear UM O;go_wp2;go_loopw [7,8] (λf i wr=>∃n:Nat,n<=s-1/\i=iV (1+(n:Int))/\f=iV (aE g.2 s 1 (fe n)).1/\aC wr (more F U wr) r s (aE g.2 s 1 (fe n)).2/\aa F U wr) (λ_ i _=>s-(intOf i).toNat);case atStart=>exact⟨0,dL _,rfl,by rw [HP0.o];rfl,Xm.o.1,Xm.o.2⟩
     case round=>
      obtain⟨n,hn,rfl,rfl,kw,BD⟩:=hrel;have z0r:=Du BD ON.o;have hsp:=eG g.2 s 1 (fe n);rw [At] at hsp;by_cases D:(aE g.2 s 1 (fe n)).1=0
      .have de:((aE g.2 s 1 (fe n)).1 == 0)=true:=(by rw [D];rfl);by_cases qn:1+n<s
       .have qn':1+(n:Int)<(s:Int):=(by omega);have i7:=qE D (n,zs 512);rw [<-Da,show ((1+n:Nat):Int)=1+(n:Int) by omega] at i7;obtain⟨te,Dd⟩:=bV kw BD;clear kw BD;go_wp2_with fail;refine(rk wr).mono ?_;rintro e w7 ⟨rfl,hr7,xI⟩;have yx:=iG (te.o.later xI) (1+(n:Int)) (some (aD wr.heap.size 0)) 512 512 (zs 512) (by have:=hr7.src;rw [List.length_replicate] at this;exact this) (by omega);rw [<-i7] at yx;have FH:=yh xI;clear hr7 xI i7;go_wp2_with fail;refine fQ yx λw8 oV j0=>?_;have y:=yh (rC Dd.o FH.o oV j0);clear yx oV j0;go_wp2;go_roundw;case rel=>exact⟨n+1,by omega,by first|rfl|go_num|(congr 1;omega),rfl,y.o⟩
        case measure=>simp [intOf];omega
       .have qn':¬1+(n:Int)<(s:Int):=(by omega);obtain rfl:n=s-1:=(by omega);have hsw:eD g.2 s 1 (s-1)=(aE g.2 s 1 (fe (s-1))).2.fl s:=(by unfold eD;rw [aB (λh=>h D)]);have GD:=zI.o;have j1:=fH kw (by omega);rw [<-hsw] at j1;have akg:=kx YF s 1 (s-1);have ark:=mc g.2 s 1 (s-1);have Dd:=yh BD;clear hsw kw BD zI;generalize eD g.2 s 1 (s-1)=P2 at*;by_cases L:P2.1=0
        .have d2:(P2.1 == 0)=true:=(by rw [L];rfl);rw [aB (λh=>h L)] at GD;clear L;go_wp2_with fail;refine fQ j1 λw7 nS gS=>?_;obtain⟨d7,k7⟩:=M6 Dd.o nS gS;have z17:=Du k7 Z.o;have z:=H6 d7 akg 1 (C:Int) (by omega);have arm:=ux P2.2 s 1 (C:Int) (by have:=HG.o.1.2;omega);have Y:=yh k7;clear j1 nS gS d7 k7 z0r;generalize cD P2.2 s 1 (C:Int)=P3 at*;by_cases P:P3.1=0
         .have d3:(P3.1 == 0)=true:=(by rw [P];rfl);rw [aB (λh=>h P)] at GD;clear P;go_wp2_with fail;refine fQ z λw8 oV j0=>?_;obtain⟨d8,k8⟩:=rC Y.o (bi _ _) oV j0;have z18:=Du k8 Z.o;have z08:=Du k8 ON.o;have z28:=Du k8 HZ2.o;have aba:=yh (aH d8 k8);clear z oV j0 d8 k8 z17;go_wp2_with fail;refine(uP s C cn w8 HG.o).mono ?_;rintro e w9 ⟨v9,rfl,hm9⟩;obtain⟨g9,c9,rfl,hg9,Uz,Bq⟩:=hm9.out (kB s C cn);have yx:=iG (aba.o.1.later Bq) 0 (some (aD g9 0)) 512 c9 (gY s C cn) (by have:=Uz.src;rwa [kB] at this) (by omega);have arn:=jk P3.2 s 0 512 (gY s C cn);have T:=yh Bq;clear hm9 Uz Bq;generalize P3.2.wr s 0 512 (gY s C cn)=P4 at*;by_cases Q:P4.1=0
          .have d4:(P4.1 == 0)=true:=(by rw [Q];rfl);rw [aB (λh=>h Q)] at GD;have d:=yh GD;clear Q GD;go_wp2_with fail;refine fQ yx λwa p q=>?_;obtain⟨da,ka⟩:=rC aba.o.2 T.o p q;have afg:=fH da (by omega);have HKa:=yh ka;clear yx p q da ka;go_wp2_with fail;refine fQ afg λwb hdb po=>?_;have y:=yh (M6 HKa.o hdb po);clear afg hdb po;go_wp2;go_ret;rw [d.o];exact tD.of l.o y.o
          .have d4:(P4.1 == 0)=false:=(by rw [fy];exact Q);rw [aG Q] at GD;have d:=yh GD;clear Q GD;go_wp2_with fail;refine fQ yx λwa p q=>?_;have y:=yh (rC aba.o.2 T.o p q);clear yx p q;go_wp2;go_ret;rw [d.o];exact tD.of l.o y.o
         .have d3:(P3.1 == 0)=false:=(by rw [fy];exact P);rw [aG P] at GD;have d:=yh GD;clear P GD;go_wp2_with fail;refine fQ z λw8 oV j0=>?_;have y:=yh (rC Y.o (bi _ _) oV j0);clear z oV j0;go_wp2;go_ret;rw [d.o];exact tD.of l.o y.o
        .have d2:(P2.1 == 0)=false:=(by rw [fy];exact L);rw [aG L] at GD;have d:=yh GD;clear L GD;go_wp2_with fail;refine fQ j1 λw7 nS gS=>?_;have y:=yh (M6 Dd.o nS gS);clear j1 nS gS;go_wp2;go_ret;rw [d.o];exact tD.of l.o y.o
      .have de:((aE g.2 s 1 (fe n)).1 == 0)=false:=(by rw [fy];exact D);have d:Yh (R=aE g.2 s 1 (fe n)):=yh (by
        have h9:eD g.2 s 1 (s-1)=aE g.2 s 1 (fe n):=(by unfold eD;rw [(Pg hn D),aG D]);rw [zI.o,h9,aG D])
       have te:=yh (aH kw BD);clear kw BD D;by_cases qn:1+(n:Int)<(s:Int);all_goals
        go_wp2;go_ret;rw [d.o];exact tD.of l.o te.o
    .rw [aG O] at UM;have d:=yh UM;have dq:(g.1 == 0)=false:=(by rw [fy];exact O);have z06:=Du Xm.o.2 ON.o;clear UM O;go_wp2;go_loopw [7,8] (λf i wr=>f=iV g.1/\i=iV 1/\wr=w6) (λ_ _ _=>0);case atStart=>exact⟨rfl,rfl,rfl⟩
     case round=>
      obtain⟨rfl,rfl,rfl⟩:=hrel;by_cases L:(1:Int)<(s:Int);all_goals
       go_wp2;go_ret;rw [d.o];exact tD.of l.o Xm.o
   .have E9:(a != (s:Int))=true:=(by rw [gg];exact N);rw [aB (λh=>N h.2)] at j;have d:=yh j;clear j;go_quiet (first|(go_at_call 11;refine Calls.quiet_of_same (nW _)));clear nW y0 y1 y2;go_wp2;go_ret;rw [d.o];exact tD.same X.o (A.o.trans ((below_drewN (bi _ _) _).mono A.o.size))
  .obtain⟨m,t⟩:=bP (V.alloc (.cells #[.int .i64 0, .int .i64 0, .int .i64 0, .int .i64 0, .int .i64 0] 86));have U6:bW w m:=(by rw [t];exact bd.alloc (by omega) _);rw [aB (λh=>J h.1)] at j;obtain⟨d,A⟩:=bV j U6
   go_upto_region 4 with fail
   rw [<-t];clear t M4 bd x0 x1 x2 j J U6;go_quiet (fail);go_wp2;go_ret;rw [d.o];exact tD.same X.o (A.o.trans ((below_drewN (bi _ _) _).mono A.o.size))
end
end
section
section
variable {S S':DS} {s t i:Nat} {ls:List LG} {L:LG} {G:SG}
def V.Inv.idle (h:V.Inv S s ls t) (jd:∀M∈ls,M.life<S.life) (c:S'.Ok s) (qi:S'.fN) (f:S'.puts.length<=6000) (d:S'.fuse≠0->S'.puts.length<=256) (b:S'.life=S.life):V.Inv S' s ls t:=
   ⟨c,qi,f,d,by rw [b];exact h.l0,by rw [b];exact h.lt,λM a=>by rw [b];exact h.ol M a,h.li,λM a e=>by have:=jd M a;omega⟩
def Bi (h:S.Ok s):(S.fl s).2.Ok s/\(S.fl s).2.life=S.life/\((S.fl s).1≠0->(S.fl s).2.fuse=0/\(S.fl s).2.puts.length<=S.puts.length)/\((S.fl s).1=0->(S.fl s).2.puts= []):=
   ⟨so h,fZ _ _,λc=>by obtain⟨a,b,_⟩:=lD c;rw [a];exact⟨b,bR _⟩,jn⟩
def qN (h:S.Ok s) (r:a+n<=s):(eD S s a n).2.Ok s/\(eD S s a n).2.life=S.life/\((eD S s a n).1≠0->(eD S s a n).2.fuse=0)/\((eD S s a n).1=0->(eD S s a n).2.puts= []):=by
 obtain⟨o,b,c,e,p⟩:=eE (h0:=a) (ms:=fe n) h (λq d=>by
  unfold fe at d;obtain⟨i,m,rfl⟩:=List.mem_map.1 d;have:=List.mem_range.1 m;exact⟨by show a+i<s;omega,bH 512⟩)
 unfold eD;split
 .rename_i q;exact⟨c,b,e,λh0=>absurd h0 q⟩
 .obtain⟨f,g,j,k⟩:=Bi c;exact⟨f,g.trans b,λl=>(j l).1,k⟩
def sm (h:S.Ok s) (ws:0<=S.life) {t:Nat} (bq:S.life<=t) (k:t<=1000000000000000000) (d:S.fuse≠0) (j:S.puts= []) (f n:Int):(cD S s f n).2.Ok s/\(S.life<=(cD S s f n).2.life)/\((cD S s f n).1=0->(cD S s f n).2.puts= []):=by
 unfold cD;split
 .exact⟨h,Int.le_refl _,λ_=>j⟩
 .rename_i e;obtain⟨_,a,b,rfl,rfl,oN,ar,bd⟩:=fX (Decidable.of_not_not e);simp only [mx];have zM:=jz ws bq k;have dw:S.take.Ok s:=⟨h.len,h.lo,h.hi,h.puts,h.fuse⟩;obtain⟨l,c,p,m⟩:=kS (f:=a) (n:=b) dw oN;have ox:=l.trans zM;split
  .rename_i h0;exact⟨c,by omega,λi=>absurd i h0⟩
  .rename_i h0;obtain⟨o,q⟩:=m (Decidable.of_not_not h0);have fK:=(iX (cO S.take s a b).2 s a 4294967296).trans ox;refine⟨(nZ c (by omega) _).1,by omega,λg=>?_⟩;exact(uo (s:=s) (f:=a) (N:=4294967296) c (by omega) (by omega) (by omega) (by rw [o];omega) g).2
def V.Inv.afh (h:V.Inv S s ls t) (ht:t+2<=1000000000000000000) (a b c:Int):V.Inv (bZ S s a b c).2 s ls (t+2):=by
 unfold bZ;split
 .exact h.step.step
 .rename_i U;split
  .rename_i W;obtain⟨pB,hs⟩:=W;obtain⟨⟨l1,l2⟩,⟨n1,n2⟩,h3,s1,s2⟩:=pB;have el:1<=s:=(by omega);have pO:=h.take (by omega:t<=1000000000000000000);have Ay:S.take.life=S.life+1:=jz h.l0 h.lt (by omega);have jd:∀M∈ls,M.life<S.life+1:=λM y=>by have:=(h.ol M y).2;omega
   have vj:=h.p2 U;obtain⟨q,i,C,D⟩:=qN pO.ok (a:=0) (n:=1) (by omega);have r:=kx pO.qi s 0 1;have K:=mc S.take s 0 1;have X:S.take.puts.length=S.puts.length:=rfl;unfold lQ;have P:mj S s=eD S.take s 0 1:=rfl;have Q:nr S s=eD (mj S s).2 s 1 (s-1):=rfl;have I:∀l,jW S s l=cD (nr S s).2 s 1 (l:Int):=λ_=>rfl;have R:∀l n,ml S s l n=(jW S s l).2.wr s 0 512 (gY s l n):=λ_ _=>rfl;rw [<-P] at q i C D r K;generalize mj S s=A at*;by_cases m:A.1≠0
   .rw [aG m];exact(pO.idle (by rw [Ay];exact jd) q r (by have:=h.p6;omega) (λc=>absurd (C m) c) i).step
   .rw [aB m];obtain⟨j,u,E,F⟩:=qN q (a:=1) (n:=s-1) (by omega);have v:=kx r s 1 (s-1);have w:=mc A.2 s 1 (s-1);have lG:=h.ok.hi;rw [<-Q] at j u E F v w;generalize nr S s=p at*;by_cases o:p.1≠0
    .rw [aG o];exact(pO.idle (by rw [Ay];exact jd) j v (by rw [(D (Decidable.not_not.1 m))] at w;simp at w;omega) (λc=>absurd (E o) c) (u.trans i)).step
    .rw [aB o];have d:=F (Decidable.not_not.1 o);have Fw:=pO.idle (by rw [Ay];exact jd) j v (by rw [d];exact dL _) (λ_=>by rw [d];exact dL _) (u.trans i);by_cases wI:p.2.fuse=0
     .have T:∀l,jW S s l=(3,p.2):=λl=>by
       rw [I];unfold cD cy;rw [aG wI];simp
      rw [T,aG (by show (3:Int)≠0;decide)];exact Fw.step
     .obtain⟨G,L,H⟩:=sm j Fw.l0 Fw.lt (by omega) wI d 1 ((b.toNat:Nat):Int);have P7:=Fw.format (by omega) 1 ((b.toNat:Nat):Int) G;rw [<-I] at G L H P7;have x:=R b.toNat c.toNat;generalize jW S s b.toNat=P3 at*;have afi:∀M∈ls,M.life<P3.2.life:=λM y=>by have:=jd M y;omega
      by_cases z:P3.1≠0
      .rw [aG z];exact P7
      .rw [aB z];have abb:=kE P3.2 s 0 512 (gY s b.toNat c.toNat);have WE:=jk P3.2 s 0 512 (gY s b.toNat c.toNat);have afj:(gY s b.toNat c.toNat).length=512:=kB _ _ _;have sB:Bytes (gY s b.toNat c.toNat):=(ic _ _ _).append (iT _ _);have f:=P7.qi.wr s 0 512 sB;have N5:(P3.2.wr s 0 512 (gY s b.toNat c.toNat)).2.Ok s:=by
        by_cases M1:P3.2.fuse=0
        .have:P3.2.wr s 0 512 (gY s b.toNat c.toNat)=(3,P3.2):=(by unfold DS.wr;rw [aG M1]);rw [this];exact P7.ok
        .exact um (k:=0) P7.ok M1 (by omega) afj
       rw [<-x] at abb WE f N5;rw [(H (Decidable.not_not.1 z))] at WE;generalize ml S s b.toNat c.toNat=g at*;have e:V.Inv g.2 s ls (t+2):=P7.idle afi N5 f (by simp at WE;omega) (λ_=>by simp at WE;omega) abb;by_cases J:g.1≠0
       .rw [aG J];exact e
       .rw [aB J];obtain⟨N,O,Y,Z⟩:=Bi N5;refine e.idle (by rw [abb];exact afi) N (f.fl s) ?_ ?_ O
        .have:=mi g.2 s;have:=e.p6;omega
        .intro _;have:=mi g.2 s;simp at WE;omega
  .exact h.step.step
end
end
section
section
variable {S S1 S2:DS} {s t:Nat} {ls:List LG} {L L':LG} {x y:Int}
def jT.same {U5:Nat} {Bw:List (List Int)} (a:jT S f n rs hd) (b:jT S f n Bw U5):rs=Bw/\hd=U5:=dF.unique a.t a.x b.t b.x
def j5.same (u:j5 S s x S1) (v:j5 S s y S2):x=y/\S1=S2:=by
 rcases u with ⟨n,p,rfl⟩|⟨u1,r,g⟩<;> rcases v with ⟨o,q,rfl⟩|⟨u2,t,i⟩
 .refine⟨?_,rfl⟩;rcases n with ⟨a,_,rfl⟩|⟨_,_,_,rfl⟩|⟨a,c,_,rfl⟩<;> rcases o with ⟨b,_,rfl⟩|⟨_,_,_,rfl⟩|⟨b,d,_,rfl⟩<;> first|rfl|exact absurd rfl p|exact absurd rfl q|exact absurd a b|exact absurd b a
 .exfalso;rcases n with ⟨a,_,_⟩|⟨_,_,_,rfl⟩|⟨_,c,_,_⟩
  .exact t a
  .exact p rfl
  .exact c u2
 .exfalso;rcases o with ⟨a,_,_⟩|⟨_,_,_,rfl⟩|⟨_,c,_,_⟩
  .exact r a
  .exact q rfl
  .exact c u1
 .rcases g with ⟨l,w,rfl⟩|⟨D,rs,hd,A,g⟩<;> rcases i with ⟨m,z,rfl⟩|⟨E,Bw,U5,C,i⟩
  .exact⟨l.symm.trans m,rfl⟩
  .exact absurd (l.symm.trans E) w
  .exact absurd (m.symm.trans D) z
  .obtain⟨rfl,rfl⟩:=A.same C;rcases g with ⟨a,c,e⟩|⟨ov,j,g⟩<;> rcases i with ⟨b,d,f⟩|⟨PR,k,i⟩
   .exact⟨c.trans d.symm,e.trans f.symm⟩
   .rw [a] at k;cases k
   .rw [b] at j;cases j
   .obtain rfl:ov=PR:=Option.some.inj (j.symm.trans k);rcases g with ⟨a,c,e⟩|⟨a,c,e⟩<;> rcases i with ⟨b,d,f⟩|⟨b,d,f⟩
    .exact⟨a.symm.trans b,e.trans f.symm⟩
    .exact absurd (a.symm.trans b) c
    .exact absurd (b.symm.trans a) d
    .exact⟨c.symm.trans d,e.trans f.symm⟩
def tA.same (a:tA S s L) (b:tA S s L'):L=L':=by
 obtain⟨rs,hd,ov,e,c,rfl⟩:=a;obtain⟨Bw,U5,PR,f,d,rfl⟩:=b;obtain⟨rfl,rfl⟩:=e.same f;obtain rfl:ov=PR:=Option.some.inj (c.symm.trans d);rfl
def Dv (dw:S.Ok s) (b:L.Ok s) (i:L.begun=false) (g:L.life=S.life) (j:S.num L.f<(L.top+1)*4294967296) (h0:(L.start S s).1≠0):(L.start S s).2.1.fuse=0/\(L.start S s).2.1.life=S.life/\(L.start S s).2.1.Ok s/\(L.start S s).2.1.puts.length<=S.puts.length+1:=by
 obtain⟨l,iu,k⟩:=kH b.s b.n1 b.top;unfold LG.start at h0⊢;by_cases hd:L.dead S=true
 .rw [aG hd];refine⟨?_,rfl,dw,by show S.puts.length<=_;omega⟩;unfold LG.dead at hd;rw [g] at hd;simpa using hd
 .rw [aB hd,aB (by rw [i];decide)] at h0⊢;have e:(((L.top+1:Nat):Int)*4294967296+((0:Nat):Int))=(((L.top+1)*4294967296:Nat):Int):=by omega
  rw [e] at h0⊢;by_cases a:(dg S s L.f (((L.top+1)*4294967296:Nat):Int)).1≠0
  .rw [aG a];obtain⟨c,d⟩:=qh (by omega) (iF (bA dw L.f (by omega)) (bA dw (L.f+1) (by omega)) (N:=(L.top+1)*4294967296) (by omega) j) a;exact⟨c,iX _ _ _ _,(nZ dw (by omega) _).1,d⟩
  .rw [aB a] at h0;exact absurd rfl h0
def AT:∀{ks:List Nat} {l r:List Int} {cs:CM},dV ks l=some (cs,r)->∀q∈cs,q.2.length=512
 | [],l,r,cs,h=>by
  simp only [dV,Option.some.injEq,Prod.mk.injEq] at h;obtain⟨rfl,_⟩:=h;intro q a;cases a
 |k :: ks,l,r,cs,h=>by
  rw [jB] at h;split at h
  .cases h
  .rename_i c;cases b:dV ks (l.drop 512) with
   |none=>rw [b] at h;cases h
   |some x=>
    rw [b] at h;simp only [Option.map_some,Option.some.injEq,Prod.mk.injEq] at h;obtain⟨rfl,rfl⟩:=h;intro q a;rcases List.mem_cons.1 a with rfl|a
    .show (l.take 512).length=512;rw [oj];omega
    .exact AT (cs:=x.1) (r:=x.2) b q a
def Ph (h:gG blocks d=some cs):∀q∈cs,q.1<blocks/\q.2.length=512:=λq f=>by
 refine⟨oZ h q f,?_⟩;unfold gG at h;split at h
 .cases h
 .split at h
  .cases g:gT blocks (le (d.take 2)) 0 (d.drop 2) with
   |none=>rw [g] at h;cases h
   |some x=>
    obtain⟨ks,r⟩:=x;rw [g] at h;have c:jS (dV ks r)=some cs:=h;cases e:dV ks r with
    |none=>rw [e] at c;cases c
    |some y=>
     obtain⟨j,i⟩:=y;rw [e] at c;cases i with
     |nil=>
      simp only [jS,Option.some.injEq] at c;subst c;exact AT e q f
     |cons a b=>cases c
  .cases h
def wg {blocks:Nat}:∀{rs:List (List Int)} {ms ov:CM},iI blocks ms rs=some ov->(∀q∈ms,q.1<blocks/\q.2.length=512)->∀q∈ov,q.1<blocks/\q.2.length=512
 | [],ms,ov,h,hm=>by
  simp only [iI,Option.some.injEq] at h;rw [<-h];exact hm
 |r :: rs,ms,ov,h,hm=>by
  rw [tB] at h;cases a:gG blocks r with
  |none=>rw [a] at h;cases h
  |some cs=>
   rw [a] at h;exact wg h (λq b=>(uu b).elim (hm q) (Ph a q))
def IF {blocks:Nat}:∀{rs:List (List Int)} {ms ov:CM},iI blocks ms rs=some ov->CM.Ok ms->CM.Ok ov
 | [],ms,ov,h,hm=>by
  simp only [iI,Option.some.injEq] at h;rw [<-h];exact hm
 |r :: rs,ms,ov,h,hm=>by
  rw [tB] at h;cases a:gG blocks r with
  |none=>rw [a] at h;cases h
  |some cs=>
   rw [a] at h;exact IF h (CM.rh hm cs)
def TL (dw:S.Ok s) (a:L.Ok s):(L.start S s).2.1.Ok s:=by
 have b:=a.s;have iu:=a.n1;unfold LG.start;split
 .exact dw
 .split
  .exact dw
  .split <;> exact(nZ dw (by omega) _).1
def IG {y:LY} (dw:S.Ok s) (c:S.puts= []) (n:∀q∈ov,y.home+q.1<s/\q.2.length=512) (v:ov.length<=2048) (t:3<=y.home) (fM:3<=s):(ev S s y ov rs).2.Ok s/\(ev S s y ov rs).2.life=S.life/\((ev S s y ov rs).1≠0->(ev S s y ov rs).2.fuse=0)/\((ev S s y ov rs).1=0->(ev S s y ov rs).2.puts= [])/\(ev S s y ov rs).2.puts.length<=3000/\∀i,i<3->(ev S s y ov rs).2.now i=S.now i:=by
 obtain⟨u,d,b,g,f⟩:=eE (h0:=y.home) (ms:=ov) dw n;have a:=eG S s y.home ov;rw [c] at a;have arq:(aE S s y.home ov).2.puts.length<=2048:=by simp at a;omega
 unfold ev;split
 .exact⟨dw,rfl,λh=>absurd rfl h,λ_=>c,by show S.puts.length<=3000;rw [c];exact dL _,λ_ _=>rfl⟩
 .split
  .rename_i q;exact⟨b,d,g,λh=>absurd h q,by omega,λi p=>f i (λq r e=>by omega)⟩
  .obtain⟨j,k,l,m⟩:=Bi b;have:=mi (aE S s y.home ov).2 s;exact⟨j,k.trans d,λo=>(l o).1,m,by omega,λi p=>(fa b (by omega)).trans (f i (λq r e=>by omega))⟩
def V.Inv.fC (h:V.Inv S s ls t) (Y:t+2<=1000000000000000000) (J:j5 S s x S1):(x≠0->V.Inv S1 s ls (t+1))/\(x=0->∀L,tA S s L->V.Inv S1 s (ls ++ [L]) (t+1)):=by
 rcases J with ⟨_,O,rfl⟩|⟨qO,X,k⟩
 .exact⟨λ_=>h.step,λh0=>absurd h0 O⟩
 .rcases k with ⟨m,e,rfl⟩|⟨l,rs,hd,FI,k⟩
  .exact⟨λ_=>h.yr (by omega) _ _ (by rw [m];exact e),λh0=>absurd h0 e⟩
  .have uQ:=kz qO;obtain⟨y,D⟩:=bP (cE (S.now 0));have w:3<=y.home:=(by rw [D];show 3<=3+u32 (S.now 0) 12;omega);unfold tA;rw [<-D] at uQ l FI k⊢;obtain⟨Xh,E6,IA,IB⟩:=mg (f:=1) l;obtain⟨vv,B2,p,u⟩:=FI.small h.qi (by omega);have xV:=yB (s:=s) FI h.qi E6 IA (by omega) (by omega) (by omega);have b:=jz h.l0 h.lt (by omega:t<=1000000000000000000);have pO:S.take.Ok s:=⟨h.ok.len,h.ok.lo,h.ok.hi,h.ok.puts,h.ok.fuse⟩;have oo:bC S s 1 (y.log:Int)=S.take.fl s:=IB;have z:(S.take.fl s).1=0:=(by rw [<-oo];exact l);have pk:=jn z;have abc:=so (s:=s) pO;have afk:=h.qi.take.fl s;have cu:(S.take.fl s).2.life=S.life+1:=(fZ _ _).trans b;have iu:∀i,i<s->(S.take.fl s).2.now i=S.now i:=λi d=>fa (S:=S.take) pO d;have JV:S.num 1<((fj S 1 y.log hd).top+1)*4294967296:=EY E6;have afl:(fj S 1 y.log hd).life=S.life+1:=b;have jd:∀M∈ls,M.life<S.life+1:=λM I=>by have:=(h.ol M I).2;omega
   have uR:=h.opened (by omega:t<=1000000000000000000) 1 (y.log:Int) (by rw [oo];exact abc) l (hd:=hd) p (by simpa using u);rw [oo] at k uR⊢;have Df:=h.next abc afk (by rw [pk];exact dL _) (λ_=>by rw [pk];exact dL _) cu;have afm:V.Inv (S.take.fl s).2 s (ls ++ [fj S 1 y.log hd]) (t+1):=uR;generalize S.take.fl s=P at*;have afn:∀M∈ls,M.life<P.2.life:=(by rw [cu];exact jd);rcases k with ⟨U,rfl,rfl⟩|⟨ov,vf,k⟩
   .exact⟨λ_=>Df,λh0=>absurd h0 (by decide)⟩
   .have Xn:=wg vf (λq a=>by cases a);have EH:∀q∈ov,y.home+q.1<s/\q.2.length=512:=λq a=>⟨by have:=(Xn q a).1;omega,(Xn q a).2⟩;have aey:ov.length<=2048:=by
     have:=h.ok.hi;rcases CM.length_le (n:=2048) (IF vf rZ) (λq a=>by have:=(EH q a).1;omega) 0 (λ_ _=>dL _) with h1|h1
     .omega
     .rw [h1];simp
    obtain⟨g,j,R,E,Z,F⟩:=IG (rs:=rs) abc pk EH aey w (by omega);have TM:=Dt (s:=s) (y:=y) (rs:=rs) afk (qM vf (λx v=>by cases v) (λr K=>(B2 r K).1));have afo:∀L,(∃Bw U5 PR,jT S 1 y.log Bw U5/\iI y.blocks [] Bw=some PR/\L=((fj S 1 y.log U5).start (ev P.2 s y PR Bw).2 s).2.2)->L=((fj S 1 y.log hd).start (ev P.2 s y ov rs).2 s).2.2:=λL o=>by
     obtain⟨Bw,U5,PR,T,Q,rfl⟩:=o;obtain⟨rfl,rfl⟩:=FI.same T;obtain rfl:ov=PR:=Option.some.inj (vf.symm.trans Q);rfl
    generalize ev P.2 s y ov rs=Rd at*;have YG:=Df.idle afn g TM (by omega) (λwI=>by
     by_cases q:Rd.1=0
     .rw [E q];exact dL _
     .exact absurd (R q) wI) j
    have YH:Rd.2.num (fj S 1 y.log hd).f<((fj S 1 y.log hd).top+1)*4294967296:=by
     show Rd.2.num 1<_;rw [vX (S:=S) (S':=Rd.2) ((F 1 (by omega)).trans (iu 1 (by omega))) ((F 2 (by omega)).trans (iu 2 (by omega)))];exact JV
    have akk:(fj S 1 y.log hd).life=Rd.2.life:=(by rw [afl,j,cu]);rcases k with ⟨rfl,N,rfl⟩|⟨e,rfl,rfl⟩
    .exact⟨λ_=>YG,λh0=>absurd h0 N⟩
    .have akl:((fj S 1 y.log hd).start Rd.2 s).2.1.fN:=by
      unfold LG.start;split
      .exact TM
      .split
       .exact TM
       .split <;> exact TM.dg s _ _
     refine⟨λv=>?_,λ_ L o=>?_⟩
     .obtain⟨m,G,H,W⟩:=Dv g xV rfl akk YH v;exact YG.idle (by rw [j];exact afn) H akl (by omega) (λc=>absurd m c) G
     .rw [afo L o];have d:(ls ++ [fj S 1 y.log hd])[ls.length]? =some (fj S 1 y.log hd):=(by simp);have A:=afm.on d (by rw [afl,cu]) g TM j (by omega) xV rfl (λ_=>⟨λc=>(by cases c),λ_=>⟨by rw [E e];rfl,YH⟩⟩);have pp:(ls ++ [fj S 1 y.log hd]).set ls.length (fj S 1 y.log hd)=ls ++ [fj S 1 y.log hd]:=(by simp);rw [pp] at A;have C:=A.start d (TL g xV);have afp:(ls ++ [fj S 1 y.log hd]).set ls.length ((fj S 1 y.log hd).start Rd.2 s).2.2=ls ++ [((fj S 1 y.log hd).start Rd.2 s).2.2]:=(by simp);rw [afp] at C;exact C
end
end
section
section
variable {S S':DS} {s f:Nat} {L:LG} {G:SG}
def IH (S:DS) {s:Nat} (h0:0<=x) (a:x<(s:Int)) (l:List Int):(S.wr s x 512 l).2.refused=S.refused:=by
 unfold DS.wr;split
 .rfl
 .rw [aB (by omega),aB (by decide)];rfl
def Bj (S:DS) (s:Nat):(S.fl s).2.refused=S.refused:=by
 unfold DS.fl;split <;> rfl
def abd (S:DS) (x:Int):(S.lay x).refused=S.refused:=by
 unfold DS.lay;split <;> rfl
def Fa (S:DS) {s f:Nat} (b:f+1<s) (num:Int):(dg S s f num).2.refused=S.refused:=by
 have mX:=fW (S.now f) (S.now (f+1)) num [];unfold dg;split
 .rfl
 .split
  .rfl
  .have a:=IH S (s:=s) (x:=(f:Int)+((aP (S.now f) (S.now (f+1)) num []).1:Int)) (by omega) (by omega) (aP (S.now f) (S.now (f+1)) num []).2.1;split
   .exact a
   .exact(Bj _ _).trans a
def Fb (L:LG) (S:DS) (s:Nat):(L.sync S s).2.refused=S.refused:=by
 unfold LG.sync;split
 .rfl
 .exact Bj _ _
def Xo (c:L.f+1<s):(L.trim S s).2.1.refused=S.refused:=by
 have a:=Fb L S s;have b:=Fa (L.sync S s).2 c ((L.ep:Int)*4294967296+(L.head:Int));unfold LG.trim;split
 .exact a
 .split
  .exact a
  .split <;> exact b.trans a
def rD {home:Nat}:∀{ms:CM} {S:DS},(∀q∈ms,home+q.1<s)->(aE S s home ms).2.refused=S.refused
 | [],_,_=>rfl
 |q :: qs,S,h=>by
  have c:=h q (List.mem_cons_self ..);have a:=IH S (s:=s) (x:=((home+q.1:Nat):Int)) (by omega) (by omega) q.2;unfold aE;split
  .exact a
  .exact(rD (λx b=>h x (List.mem_cons_of_mem _ b))).trans a
def II (d:∀q∈G.ov,G.y.home+q.1<s) (e:G.L.f+1<s):(G.check S s).2.1.refused=S.refused:=by
 have a:=Fb G.L S s;have b:=(rD (S:=(G.L.sync S s).2) d).trans a;have c:=(Xo (S:=(aE (G.L.sync S s).2 s G.y.home G.ov).2) e).trans b;unfold SG.check;split
 .exact a
 .split
  .exact b
  .split <;> exact c
def tE {g:Nat->DS->Int×DS}:∀k,(∀j,j<k->∀T,(g j T).2.refused=T.refused)->(cB S g k).2.refused=S.refused
 |0,_=>rfl
 |k+1,hg=>by
  have:=tE k (λj a=>hg j (by omega));unfold cB;split
  .exact this
  .exact(hg k (by omega) _).trans this
def Xp (a:1<=n) (b:f+2+n<=s):(j2 S s f n E P i c l).2.refused=S.refused:=by
 have:=Nat.mod_lt P a;unfold j2;split
 .rfl
 .exact IH S (by omega) (by omega) _
def Pi (b:1<=L.n) (c:L.f+2+L.n<=s):(L.append S s d).2.1.refused=S.refused:=by
 have a:(cX L S s d (di d.length)).2.refused=S.refused:=tE _ (λ_ _ _=>Xp b c);unfold LG.append;split
 .rfl
 .split <;> exact a
def Xq (L:LG) (S:DS) (s:Nat):(L.trim S s).2.2.f=L.f/\(L.trim S s).2.2.n=L.n:=by
 unfold LG.trim;split
 .exact⟨rfl,rfl⟩
 .split
  .exact⟨rfl,rfl⟩
  .split <;> exact⟨rfl,rfl⟩
def TN (G:SG) (S:DS) (s:Nat):(G.check S s).2.2.L.f=G.L.f/\(G.check S s).2.2.L.n=G.L.n:=by
 have h:=Xq G.L (aE (G.L.sync S s).2 s G.y.home G.ov).2 s;unfold SG.check;split
 .exact⟨rfl,rfl⟩
 .split
  .exact⟨rfl,rfl⟩
  .split <;> exact h
def Pj {c:CM} (e:∀q∈G.ov,G.y.home+q.1<s) (g:1<=G.L.n) (i:G.L.f+2+G.L.n<=s):(G.bK S s c).2.1.refused=S.refused:=by
 have a:(G.made S s (cw c).length).2.1.refused=S.refused/\(G.made S s (cw c).length).2.2.L.f=G.L.f/\(G.made S s (cw c).length).2.2.L.n=G.L.n:=by
  unfold SG.made;split
  .exact⟨rfl,rfl,rfl⟩
  .exact⟨II e (by omega),TN G S s⟩
 unfold SG.bK;split
 .rfl
 .split
  .exact a.1
  .have b:=Pi (S:=(G.made S s (cw c).length).2.1) (s:=s) (L:=(G.made S s (cw c).length).2.2.L) (d:=cw c) (by rw [a.2.2];exact g) (by rw [a.2.1,a.2.2];exact i);split <;> exact b.trans a.1
def Lx {T:TG} (a:∀q∈G.ov,G.y.home+q.1<s) (b:1<=G.L.n) (c:G.L.f+2+G.L.n<=s):(T.bK G S s).2.1.refused=S.refused:=by
 unfold TG.bK;split
 .rfl
 .split
  .rfl
  .split <;> exact Pj a b c
def TO (c:f+2+n<=s):(cO S s f n).2.refused=S.refused:=by
 have a:(bF S s f (n+2)).2.refused=S.refused:=tE _ (λj b T=>IH T (by omega) (by omega) _);unfold cO;split
 .exact a
 .exact(Bj _ _).trans a
def Ly (S:DS) (s:Nat) (f n:Int):(cD S s f n).2.refused=S.refused:=by
 unfold cD;split
 .rfl
 .rename_i d;obtain⟨_,a,b,rfl,rfl,oN,ar,bd⟩:=fX (Decidable.of_not_not d);simp only [mx];have c:(cO S.take s a b).2.refused=S.refused:=TO oN;split
  .exact c
  .exact(Fa _ (by omega) _).trans c
def IJ (e:a+n<=s):(eD S s a n).2.refused=S.refused:=by
 have b:=rD (S:=S) (s:=s) (home:=a) (ms:=fe n) (λq c=>by
  unfold fe at c;obtain⟨i,d,rfl⟩:=List.mem_map.1 c;have:=List.mem_range.1 d;show a+i<s;omega)
 unfold eD;split
 .exact b
 .exact(Bj _ _).trans b
def Lz (S:DS) (s:Nat) (a b c:Int):(bZ S s a b c).2.refused=S.refused:=by
 unfold bZ;split
 .rfl
 .split
  .rename_i i;obtain⟨pB,k⟩:=i;obtain⟨⟨l,m⟩,⟨o,p⟩,j,s1,s2⟩:=pB;have d:(mj S s).2.refused=S.refused:=IJ (S:=S.take) (by omega);have e:(nr S s).2.refused=S.refused:=(IJ (S:=(mj S s).2) (s:=s) (a:=1) (n:=s-1) (by omega)).trans d;have f:(jW S s b.toNat).2.refused=S.refused:=(Ly (nr S s).2 s 1 (b.toNat:Int)).trans e;have g:(ml S s b.toNat c.toNat).2.refused=S.refused:=(IH (jW S s b.toNat).2 (s:=s) (x:=0) (by omega) (by omega) (gY s b.toNat c.toNat)).trans f;unfold lQ;split
   .exact d
   .split
    .exact e
    .split
     .exact f
     .split
      .exact g
      .exact(Bj _ _).trans g
  .rfl
def TP (a:L.f+1<s):(L.start S s).2.1.refused=S.refused:=by
 unfold LG.start;split
 .rfl
 .split
  .rfl
  .split <;> exact Fa _ a _
def TQ (S:DS) (s:Nat) (f n:Int):(bC S s f n).2.refused=S.refused:=by
 unfold bC;split
 .rfl
 .split
  .rfl
  .split
   .rfl
   .exact Bj _ _
def TR (b:∀q∈ov,y.home+q.1<s):(ev S s y ov rs).2.refused=S.refused:=by
 have a:=rD (S:=S) b;unfold ev;split
 .rfl
 .split
  .exact a
  .exact(Bj _ _).trans a
def j5.rf (h:j5 S s x S'):S'.refused=S.refused:=by
 rcases h with ⟨_,_,rfl⟩|⟨qO,d,k⟩
 .rfl
 .have uQ:=kz qO;have a:=TQ S s 1 (((cE (S.now 0)).log:Nat):Int);rcases k with ⟨_,_,rfl⟩|⟨e,rs,hd,FI,k⟩
  .exact a
  .rcases k with ⟨_,_,rfl⟩|⟨ov,vf,k⟩
   .exact a
   .have Xn:=wg vf (λq b=>by cases b);have c:=(TR (S:=(bC S s 1 (((cE (S.now 0)).log:Nat):Int)).2) (s:=s) (y:=cE (S.now 0)) (ov:=ov) (rs:=rs) (λq b=>by have:=(Xn q b).1;omega)).trans a;rcases k with ⟨_,_,rfl⟩|⟨_,_,rfl⟩
    .exact c
    .exact(TP (by show 1+1<s;omega)).trans c
end
end
end Go.Proofs.YtcpdggdfihjhoaaGreat
