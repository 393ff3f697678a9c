import Derived.Test.YtenlkgicpllbhaaGreatW01
import Derived.Test.YtenlkgicpllbhaaGreatW09
import Derived.Test.YtenlkgicpllbhaaGreatW11
import Derived.Test.YtenlkgicpllbhaaGreatW14
import Derived.Test.YtenlkgicpllbhaaGreatW16
import Derived.Deep.RegionWith
import Derived.Deep.RegionLaw
import Derived.Laws.BytesArg
import Derived.Defers
import Derived.Recover
set_option maxRecDepth 20000
set_option maxHeartbeats 8000000
set_option linter.all false
namespace Go.Proofs.YtenlkgicpllbhaaGreat
open Go.Proofs.Tryz
open Go.RowKit Go.Maps
variable {cs:Array Value} {l xs:List Int} {ks:List Nat} {iN g i j k p q:Nat} {F:Nat->Prop} {E:Prop} {w w' w1 w2 wx:World}
section
section
variable {S:DS} {s t i:Nat} {ls:List LG} {L:LG} {G:SG}
theorem CX (L:LG) (S:DS) (s:Nat):(L.trim S s).2.1.life=S.life/\(L.trim S s).2.2.life=L.life:=by
 have a:(L.sync S s).2.life=S.life:=by
  unfold LG.sync;split
  .rfl
  .exact fO _ _
 unfold LG.trim;split
 .exact⟨a,rfl⟩
 .split
  .exact⟨a,rfl⟩
  .split
   .exact⟨(iJ _ _ _ _).trans a,rfl⟩
   .exact⟨(iJ _ _ _ _).trans a,rfl⟩
theorem Sq (dh:S.Ok s) (e:L.Ok s) (k:L.begun=true) (p:L.life=S.life) (t:S.num L.f<=L.ep*4294967296+L.tail) (b:(L.trim S s).2.1.fuse≠0):(L.trim S s).2.2.Fit (L.trim S s).2.1:=by
 obtain⟨u,iQ,dZ⟩:=jw e.s e.n1 e.th;unfold LG.trim at b⊢;by_cases a:(L.sync S s).1≠0
 .rw [aE a] at b;exfalso;apply b;unfold LG.sync at a⊢;by_cases d:L.bd S≠0
  .rw [aE d];show S.fuse=0;unfold LG.bd at d;cases hd:L.dead S
   .rw [hd,k] at d;simp at d
   .unfold LG.dead at hd;rw [p] at hd;simpa using hd
  .rw [aA d] at a⊢;obtain⟨i,j,_⟩:=lf a;rw [i];exact j
 .rw [aA a] at b⊢;have d:L.bd S=0:=by
   unfold LG.sync at a;by_cases c:L.bd S=0
   .exact c
   .rw [aE c] at a;exact absurd (Decidable.of_not_not a) c
  have l:(L.sync S s)=S.fl s:=by unfold LG.sync;rw [aA (by omega)]
  rw [l] at a b⊢;have dP:(S.fl s).2.num L.f=S.num L.f:=DX dh (by omega);have aab:=qx (s:=s) dh;by_cases m:L.tail=L.head
  .rw [aE m];refine⟨λ_=>⟨by rw [(jf (Decidable.of_not_not a))];exact dU _,by rw [dP];exact t⟩,λc=>by rw [k] at c;cases c⟩
  .rw [aA m] at b⊢;have o:((L.ep:Int)*4294967296+(L.head:Int))=((L.ep*4294967296+L.head:Nat):Int):=(by omega);rw [o] at b⊢;have q:=e.ep;have r:=e.hi;obtain⟨N,n⟩:=bQ (L.ep*4294967296+L.head);have g:(S.fl s).2.num L.f<N:=(by rw [dP,n];omega);rw [<-n] at b⊢;by_cases h0:(cW (S.fl s).2 s L.f (N:Int)).1≠0
   .rw [aE h0] at b;exact absurd (pN (by omega) (is (br aab L.f (by omega)) (br aab (L.f+1) (by omega)) (N:=N) (by omega) g) h0).1 b
   .rw [aA h0];obtain⟨i,j⟩:=tQ (s:=s) (f:=L.f) (N:=N) aab (by omega) (by omega) (by omega) g (Decidable.of_not_not h0);refine⟨λ_=>⟨by rw [j];exact dU _,?_⟩,λc=>by rw [show ({L with tail:=L.head}:LG).begun=L.begun from rfl,k] at c;cases c⟩;show (cW (S.fl s).2 s L.f (N:Int)).2.num L.f<=L.ep*4294967296+L.head;rw [i];omega
theorem V.Inv.check (h:V.Inv S s ls t) (b:ls[i]? =some G.L) (A:G.L.begun=true) (o:∀q∈G.ov,G.y.home+q.1<s/\q.2.length=512/\Bytes q.2) (XS:G.ov.length<=2048) (BE:G.L.f+2+G.L.n<=G.y.home):V.Inv (G.check S s).2.1 s (ls.set i (G.check S s).2.2.L) t:=by
 have g:=(h.at b).1;by_cases r:G.L.bd S=0
 .obtain⟨hd,_⟩:=j2 r;obtain⟨j,C⟩:=jE hd;have K:=g.s;have iQ:=g.n1;obtain⟨E,k,w⟩:=qd (L:=G.L) h.ok;obtain⟨I,l,m,F,x⟩:=ev (h0:=G.y.home) (ms:=G.ov) E (λq d=>⟨(o q d).1,(o q d).2.1⟩);obtain⟨z,J⟩:=G4 (L:=G.L) m (by omega);have wZ:=wn (s:=s) h.pO (λq d=>(o q d).2.2);have aee:=D8 g (sbring (G.L.sync S s).2 s G.y.home G.ov).2;have On:=CX G.L (sbring (G.L.sync S s).2 s G.y.home G.ov).2 s;have M:=h.sync b;have ZV:G.L.sync S s=S.fl s:=by unfold LG.sync;rw [aA (by omega)]
  have jL:(G.L.sync S s).1=0:=by
   rw [ZV];apply Decidable.byContradiction;intro u;exact C (lf u).2.1
  have p:(G.L.sync S s).2.puts= []:=by rw [ZV] at jL⊢;exact jf jL
  have a:=eA (G.L.sync S s).2 s G.y.home G.ov;rw [p] at a;have H:=zU G.L (sbring (G.L.sync S s).2 s G.y.home G.ov).2 s;have dP:(sbring (G.L.sync S s).2 s G.y.home G.ov).2.num G.L.f<=G.L.ep*4294967296+G.L.tail:=by
   rw [vw (S:=S) ((x _ (λq d e=>by omega)).trans (w _ (by omega))) ((x _ (λq d e=>by omega)).trans (w _ (by omega)))];exact((h.al G.L (gu b) j C).1 A).2
  have XW:=Sq (S:=(sbring (G.L.sync S s).2 s G.y.home G.ov).2) m g A (by rw [l,k];exact j) dP;unfold SG.check at wZ⊢;rw [aA (λu=>u jL)] at wZ⊢;generalize G.L.sync S s=Z at*;generalize sbring Z.2 s G.y.home G.ov=Y at*;by_cases v:Y.1≠0
  .rw [aE v] at wZ⊢;refine h.on b j m wZ (l.trans k) ?_ g rfl (λc=>absurd (F v) c);show Y.2.puts.length<=6000;simp at a;omega
  .rw [aA v] at wZ⊢;have L9:(G.L.trim Y.2 s).2.1.puts.length<=6000:=(by simp at a;omega);by_cases D:(G.L.trim Y.2 s).1≠0
   .rw [aE D] at wZ⊢;exact h.on b j z wZ (On.1.trans (l.trans k)) L9 aee.1 On.2 XW
   .rw [aA D] at wZ⊢;exact h.on b j z wZ (On.1.trans (l.trans k)) L9 aee.1 On.2 XW
 .have e:G.check S s=(G.L.bd S,S,G):=by
   unfold SG.check LG.sync;rw [aE r,aE r]
  rw [e];exact h.same b
theorem CY {α:Type} (l:List α) (i:Nat) (a b:α):(l.set i a).set i b=l.set i b:=by simp
theorem V.Inv.Wi {c:CM} (h:V.Inv S s ls t) (e:ls[i]? =some G.L) (l:G.L.begun=true) (k:∀q∈G.ov,G.y.home+q.1<s/\q.2.length=512/\Bytes q.2) (XS:G.ov.length<=2048) (BE:G.L.f+2+G.L.n<=G.y.home) (m:∀q∈c,Bytes q.2):V.Inv (G.bF S s c).2.1 s (ls.set i (G.bF S s c).2.2.L) t:=by
 have aef:∀{d:DS} {a:SG},V.Inv d s (ls.set i a.L) t->V.Inv (a.L.append d s (co c)).2.1 s (ls.set i (a.L.append d s (co c)).2.2) t:=λ{d a} g=>by
  have b:(ls.set i a.L)[i]? =some a.L:=List.getElem?_set_self ((mG.1 e).1);have I1:=(g.at b).1;have:=g.append b (p7 m) (Ai g.ok (by have:=I1.n1;omega) I1.s _).1;rwa [CY] at this
 have j:V.Inv (G.made S s (co c).length).2.1 s (ls.set i (G.made S s (co c).length).2.2.L) t:=by
  unfold SG.made;split
  .exact h.same e
  .exact h.check e l k XS BE
 unfold SG.bF;split
 .exact h.same e
 .split
  .exact j
  .split
   .exact aef j
   .exact aef j
end
end
theorem Wj (h:Bytes xs):Pq (strOfNums xs)=xs:=by
 unfold Pq strOfNums;simp only [List.map_map];apply List.ext_getElem
 .simp
 .intro i b a;have:=h xs[i] (List.getElem_mem a);simp;omega
theorem uj (p b o c k m:Nat) (l:List Int) (w:World) (h:Rd w p b o c k l) (a:k+m<=l.length) (xJ:k<c):
  Calls prog 188 #[pQ p,iV (m:Int)] w λe w'=>e= .returned (.string (strOfNums (part l k m)))/\Rd w' p b o c (k+m) l/\aa (λj=>j=p) w w':=by
 go_in;go_wp2_with fail;refine(xO p b o l.length c k m w h.rd a h.cap xJ h.small h.Oe).mono ?_;rintro e w1 ⟨rfl,lG,eH⟩;have d:=h.au lG eH;have f:=run_convert_bytes_arg (P:=prog) w1 36 5 underlying36 underlying5 b (o+k) m (c-k) (part l k m) (fx a) (d.part a) 9 underlying9;go_wp2;go_ret;exact⟨rfl,aF d eH⟩
def qf (l:List Int):Prop:=le (part l (l.length-4) 4)=sumOf (part l 0 (l.length-4))
theorem Ak (a:k<=l.length) (i:Nat) (b:i<k):(part l 0 k).getD i 0=l.getD i 0:=by
 rw [ud b,Nat.zero_add]
theorem CZ (b o n c:Nat) (l:List Int) (w:World) (G:l.length=n) (I:4<n) (L:n<=1000000) (J:n<=c) (mY:c<=9223372036854775807) (u:Bytes l) (s:∀i,i<n->w.cell? ⟨b,o+i,none⟩=some (.int .u8 (l.getD i 0))) (dh:qf l):
  Calls prog 151 #[.slice (some (aD b o)) n c] w λe w'=>∃p,e= .returned (pQ p)/\w.heap.size<=p/\Rd w' p b o c 0 (part l 0 (n-4))/\bW w w':=by
 have E:b<w.heap.size:=World.block_lt_of_cell? _ _ (s 0 (by omega));have adC:(n:Int)-4=((n-4:Nat):Int):=by omega
 have M:(0:Int)<=(((n-4:Nat)):Int):=by omega
 have N:(((n-4:Nat)):Int)<=(n:Int):=by omega
 have O:(((n-4:Nat)):Int)<=(c:Int):=by omega
 obtain⟨w1,bN⟩:=bQ (w.alloc (.cells #[.slice (some ⟨b,o+(n-4),none⟩) 4 (c-(n-4)), .int .i64 0] 224));have bK:bW w w1:=by rw [bN];exact(bi _ w).alloc (bP _) _
 have oY:w1.heap[w.heap.size]? =some (.cells #[.slice (some ⟨b,o+(n-4),none⟩) 4 (c-(n-4)), .int .i64 0] 224 (0,0)):=by rw [bN];exact heap_alloc_new _ _
 have rY:w1.heap.size=w.heap.size+1:=by rw [bN];simp
 have t:(part l (n-4) 4).length=4:=fx (by omega);have vi:∀wx:World,bW w1 wx->Rd wx w.heap.size b (o+(n-4)) (c-(n-4)) 0 (part l (n-4) 4):=λwx a=>
    ⟨by show vv _ _ _ _ _ _ _;unfold vv;rw [t];exact(a.block _ (by omega)).trans oY,by omega,λi g=>by
   rw [t] at g;rw [ud g,Nat.add_assoc];exact cell_later (bK.trans (a.mono (by omega))) (s (n-4+i) (by omega)),dS u _ _,by omega,by omega,by omega,λ_=>by have:=a.size;omega⟩
 have dP:∀wx:World,bW w1 wx->Calls prog 189 #[pQ w.heap.size,iV 4] wx λe w'=>e= .returned (iV ((le (part l (n-4) 4):Nat):Int))/\bW w w':=λwx a=>by
  refine(oE _ _ _ _ 0 4 _ wx (vi wx a) (by omega) (by omega) (by omega)).mono ?_;rintro e w' ⟨rfl,_,F⟩;have C:part (part l (n-4) 4) 0 4=part l (n-4) 4:=by
   show ((part l (n-4) 4).drop 0).take 4=_;rw [List.drop_zero,nh (by omega)]
  have z:=lg (dS u (n-4) 4);rw [t] at z;refine⟨?_,(bK.trans (a.mono (by omega))).trans (F.below (λj K=>by omega) (by have:=a.size;omega))⟩;rw [C];congr 2;unfold wrap64;have:(2:Nat) ^ (8*4)=4294967296:=rfl;omega
 have fJ:∀wx:World,bW w wx->Calls prog 145 #[.slice (some (aD b o)) (n-4) c] wx λe w'=>e= .returned (iV ((sumOf (part l 0 (n-4)):Nat):Int))/\bW w w'/\(bW w1 wx->bW w1 w'):=λwx a=>
    (xx (some (aD b o)) (n-4) c _ wx (dS u _ _) (by omega) ⟨fx (l:=l) (k:=0) (m:=n-4) (by omega),(λh=>by cases h),λx T0 i g=>by
   cases T0;rw [aK,Ak (by omega) i g];exact cell_later a (s i (by omega))⟩).mono (by rintro e w' ⟨rfl,ie⟩;exact⟨rfl,a.trans (ie.mono a.size),λh=>h.trans (ie.mono h.size)⟩)
 have r:le (part l (n-4) 4)=sumOf (part l 0 (n-4)):=by have:=dh;unfold qf at this;rw [G] at this;exact this
 rw [r] at dP;have cN:=bK;have kR:(∀wx:World,bW w wx->Rd (wx.alloc (.cells #[.slice (some ⟨b,o,none⟩) (n-4) c, .int .i64 0] 224)) wx.heap.size b o c 0 (part l 0 (n-4))/\bW w (wx.alloc (.cells #[.slice (some ⟨b,o,none⟩) (n-4) c, .int .i64 0] 224))):=λwx a=>by
  have A:(part l 0 (n-4)).length=n-4:=fx (by omega);have H:=a.size;refine⟨⟨by show vv _ _ _ _ _ _ _;unfold vv;rw [A];exact heap_alloc_new _ _,by omega,λi g=>?_,dS u _ _,by omega,by omega,by omega,λ_=>by simp;omega⟩,a.alloc H _⟩;rw [A] at g;rw [Ak (by omega) i g];exact Lib.cell?_alloc_some _ (cell_later a (s i (by omega)))
 have ajH:=dP;have QA:=fJ;generalize sumOf (part l 0 (n-4))=S at*;have D:n-(n-4)=4:=by omega
 have aeg:¬c=n-4:=by omega
 clear s vi oY t dh r dP fJ bK;go_in;go_wp2_with fail;rw [<-bN];clear bN;have q:=(ai (bi w1.heap.size w1));have v:=(ai cN)
 go_region_with (first
  |(go_at_call 189;refine(ajH _ ?_).mono ?_;(first|exact q|exact y);rintro e P ⟨rfl,aW⟩;have d:=aW;clear aW)
  |(go_at_call 145;refine(QA _ ?_).mono ?_;(first|exact v|exact d);rintro e Q ⟨rfl,bz,Ps⟩;have f:=bz;(try have y:=(Ps q));clear bz Ps)
  |(go_at_call 187;refine(sI _).mono ?_;rintro e R ⟨rfl,rfl⟩))
 all_goals
  go_wp2;go_ret;first
   |exact⟨_,rfl,f.size,(kR _ f).1,(kR _ f).2⟩
   |exact⟨_,rfl,d.size,(kR _ d).1,(kR _ d).2⟩
theorem Al {P:Program} {b:Array Oper} {o:Oper} {a:Act} {K:Act->World->Prop} {Q:Exit->Act->World->Prop} (FQ:o.guard=none) (f:FuncId) (args:Array Value)
    (IQ:(execOp a.eval o).run P w= .ok (.enter f args) w) (R:Value->World->Prop) (c:Calls P f args w λe w'=>∃v,e= .returned v/\R v w') (h:∀v w',R v w'->K (a.put o.dst v) w'):
  if Region.wanted o (yielded b a.tmps)=true then Oper.wp P o a w K Q else E:=by
 have g:Region.wanted o (yielded b a.tmps)=true:=by simp [Region.wanted,FQ]
 rw [aE g];unfold Oper.wp;rw [IQ,Oper.upon_enter];refine c.mono ?_;rintro e w' ⟨v,rfl,d⟩;exact h v w' d
theorem Oo {P:Program} {c:Array Oper} {o:Oper} {a:Act} {K:Act->World->Prop} {Q:Exit->Act->World->Prop} (FQ:o.guard=none) (f:FuncId) (args:Array Value)
    (IQ:(execOp a.eval o).run P w= .ok (.enter f args) w) (b:List PanicEntry) (d:Calls P f args w λe w'=>e= .panicked b/\w'=w) (g:Q (.panic b) a w) (_:False->K (a.put o.dst undef) w):
  if Region.wanted o (yielded c a.tmps)=true then Oper.wp P o a w K Q else E:=by
 have i:Region.wanted o (yielded c a.tmps)=true:=by simp [Region.wanted,FQ]
 rw [aE i];unfold Oper.wp;rw [IQ,Oper.upon_enter];refine d.mono ?_;rintro e w' ⟨rfl,rfl⟩;exact g
theorem Oq (b o n c:Nat) (l:List Int) (w:World) (G:l.length=n) (H:4<n) (K:n<=1000000) (I:n<=c) (mY:c<=9223372036854775807) (t:Bytes l) (y:∀i,i<n->w.cell? ⟨b,o+i,none⟩=some (.int .u8 (l.getD i 0))) (dh:¬qf l):
  Calls prog 151 #[.slice (some (aD b o)) n c] w λe w'=>e= .panicked mS/\bW w w':=by
 have D:b<w.heap.size:=World.block_lt_of_cell? _ _ (y 0 (by omega));have adC:(n:Int)-4=((n-4:Nat):Int):=by omega
 have M:(0:Int)<=(((n-4:Nat)):Int):=by omega
 have N:(((n-4:Nat)):Int)<=(n:Int):=by omega
 have O:(((n-4:Nat)):Int)<=(c:Int):=by omega
 obtain⟨w1,bN⟩:=bQ (w.alloc (.cells #[.slice (some ⟨b,o+(n-4),none⟩) 4 (c-(n-4)), .int .i64 0] 224));have bK:bW w w1:=by rw [bN];exact(bi _ w).alloc (bP _) _
 have oY:w1.heap[w.heap.size]? =some (.cells #[.slice (some ⟨b,o+(n-4),none⟩) 4 (c-(n-4)), .int .i64 0] 224 (0,0)):=by rw [bN];exact heap_alloc_new _ _
 have rY:w1.heap.size=w.heap.size+1:=by rw [bN];simp
 have p:(part l (n-4) 4).length=4:=fx (by omega);have vi:∀wx:World,bW w1 wx->Rd wx w.heap.size b (o+(n-4)) (c-(n-4)) 0 (part l (n-4) 4):=λwx a=>
    ⟨by show vv _ _ _ _ _ _ _;unfold vv;rw [p];exact(a.block _ (by omega)).trans oY,by omega,λi g=>by
   rw [p] at g;rw [ud g,Nat.add_assoc];exact cell_later (bK.trans (a.mono (by omega))) (y (n-4+i) (by omega)),dS t _ _,by omega,by omega,by omega,λ_=>by have:=a.size;omega⟩
 have dP:∀wx:World,bW w1 wx->Calls prog 189 #[pQ w.heap.size,iV 4] wx λe w'=>e= .returned (iV ((le (part l (n-4) 4):Nat):Int))/\bW w w':=λwx a=>by
  refine(oE _ _ _ _ 0 4 _ wx (vi wx a) (by omega) (by omega) (by omega)).mono ?_;rintro e w' ⟨rfl,_,F⟩;have z:part (part l (n-4) 4) 0 4=part l (n-4) 4:=by
   show ((part l (n-4) 4).drop 0).take 4=_;rw [List.drop_zero,nh (by omega)]
  have u:=lg (dS t (n-4) 4);rw [p] at u;refine⟨?_,(bK.trans (a.mono (by omega))).trans (F.below (λj J=>by omega) (by have:=a.size;omega))⟩;rw [z];congr 2;unfold wrap64;have:(2:Nat) ^ (8*4)=4294967296:=rfl;omega
 have fJ:∀wx:World,bW w wx->Calls prog 145 #[.slice (some (aD b o)) (n-4) c] wx λe w'=>e= .returned (iV ((sumOf (part l 0 (n-4)):Nat):Int))/\bW w w'/\(bW w1 wx->bW w1 w'):=λwx a=>
    (xx (some (aD b o)) (n-4) c _ wx (dS t _ _) (by omega) ⟨fx (l:=l) (k:=0) (m:=n-4) (by omega),(λh=>by cases h),λx T0 i g=>by
   cases T0;rw [aK,Ak (by omega) i g];exact cell_later a (y i (by omega))⟩).mono (by rintro e w' ⟨rfl,ie⟩;exact⟨rfl,a.trans (ie.mono a.size),λh=>h.trans (ie.mono h.size)⟩)
 have E:le (part l (n-4) 4)≠sumOf (part l 0 (n-4)):=by have:=dh;unfold qf at this;rw [G] at this;exact this
 have wi:(((le (part l (n-4) 4):Nat):Int) == ((sumOf (part l 0 (n-4)):Nat):Int))=false:=by rw [Bool.eq_false_iff,ne_eq,beq_iff_eq];omega
 generalize sumOf (part l 0 (n-4))=S at*;generalize le (part l (n-4) 4)=L at*;have A:n-(n-4)=4:=by omega
 have aeg:¬c=n-4:=by omega
 go_in;go_wp2_with fail;rw [<-bN];have d:=(ai (bi w1.heap.size w1));have q:=(ai bK);have aej:(∀wx:World,bW w1 wx->Calls prog 189 #[pQ w.heap.size,iV 4] wx λe w'=>∃v,e= .returned v/\(v=iV (L:Int)/\bW w w')):=λwx a=>(dP wx a).mono (by rintro e w' ⟨rfl,h⟩;exact⟨_,rfl,rfl,h⟩);have aek:(∀wx:World,bW w wx->Calls prog 145 #[.slice (some (aD b o)) (n-4) c] wx λe w'=>∃v,e= .returned v/\(v=iV (S:Int)/\bW w w'/\(bW w1 wx->bW w1 w'))):=λwx a=>(fJ wx a).mono (by rintro e w' ⟨rfl,h⟩;exact⟨_,rfl,rfl,h⟩)
 go_region_law
  (first
   |(refine Al (by rfl) 189 #[pQ w.heap.size,iV 4] (by simp [go_sem]) _ (aej _ ?_) ?_;(first|exact d|exact r);rintro _ P ⟨rfl,aW⟩;have f:=aW;clear aW)
   |(refine Al (by rfl) 145 #[.slice (some (aD b o)) (n-4) c] (by simp [go_sem]) _ (aek _ ?_) ?_;(first|exact q|exact f);rintro _ Q ⟨rfl,bz,Ps⟩;have s:=bz;(try have r:=(Ps d));clear bz Ps)
   |(refine Oo (by rfl) 187 #[.bool false] (by simp [go_sem]) mS (Ee _) ?_ ?_;(first|exact⟨rfl,rfl,s⟩|exact⟨rfl,rfl,f⟩);intro C))
 all_goals exact C.elim
theorem KL (a:xs=gq):((strOfNums xs).toList == [118,101,108,108,117,109,0,1])=true:=by
 subst a;decide+kernel
theorem aad (h:Bytes xs) (a:xs≠gq):((strOfNums xs).toList == [118,101,108,108,117,109,0,1])=false:=by
 rw [Bool.eq_false_iff,ne_eq,beq_iff_eq];intro e;apply a;have:=Wj h;rw [<-this];unfold Pq;rw [<-ByteArray.toList_eq,e];rfl
def u32 (l:List Int) (k:Nat):Nat:=le (part l k 4)
theorem aae (h:Bytes l) (a:k+4<=l.length):u32 l k<4294967296:=by
 have:=lg (dS h k 4);rw [fx a] at this;exact this
theorem Sr (h:Bytes l) (a:k+4<=l.length):wrap64 ((le (part l k 4):Nat):Int)=((u32 l k:Nat):Int):=by
 have:=aae h a;unfold u32 at*;unfold wrap64;omega
theorem uk (p b o c k:Nat) (l:List Int) (w:World) (h:Rd w p b o c k l) (a:k+4<=l.length) (xJ:k<c):
  Calls prog 189 #[pQ p,iV 4] w λe w'=>e= .returned (iV ((u32 l k:Nat):Int))/\Rd w' p b o c (k+4) l/\aa (λj=>j=p) w w':=by
 refine(oE p b o c k 4 l w h a xJ (by omega)).mono ?_;rintro e w' ⟨rfl,d,f⟩;exact⟨by rw [Sr h.bytes a],d,f⟩
structure Reads (p g:Nat) (w w':World) (cs:Array Value) (t:TypeId):Prop where
 k:aa (λj=>j=p) w w'
 dj:w'.heap[g]? =some (.cells cs t (0,0))
 ne:g≠p
theorem Reads.step {t:TypeId} (h:Reads p g w w1 cs t) (a:aa (λj=>j=p) w1 w2):Reads p g w w2 cs t:=
   ⟨h.k.trans a (λ_ h=> .inl h),(a.block g (kN.1 h.dj).1 h.ne).trans h.dj,h.ne⟩
theorem Reads.below {t:TypeId} (h:Reads p g w w1 cs t) (a:bW w1 w2):Reads p g w w2 cs t:=h.step (aa.ah _ a)
theorem aa.put (h:aa F w wx) (a:w.heap.size<=g) (v:Value):aa F w (wx.setCell ⟨g,i,none⟩ v):=
 h.trans (aa.setCell (F:=λj=>j=g) (p:=⟨g,i,none⟩) wx rfl v) (λj b=> .inr (by omega))
theorem aa.more (h:aa F w wx) (o:Obj):aa F w (wx.alloc o):=h.trans (aa.alloc F wx o) (λ_ h=> .inl h)
structure Hg (l:List Int):Prop where
 head:part l 0 8=gq
 tu:ue (part l 20 488)
 geo:vq (u32 l 8) (u32 l 12) (u32 l 16)
theorem El (p b o c:Nat) (l:List Int) (w:World) (h:Rd w p b o c 0 l) (I:l.length=508) (dh:Hg l):
  Calls prog 150 #[pQ p] w λe w'=>e= .returned (.agg #[iV ((u32 l 8:Nat):Int),iV ((u32 l 12:Nat):Int),iV ((u32 l 16:Nat):Int)])/\aa (λj=>j=p) w w':=by
 have H:=h.cap;have aaf:=KL dh.head;have pf:=(kN.1 h.rd).1;obtain⟨w1,bN⟩:=bQ (w.alloc (.cells #[.int .i64 0, .int .i64 0, .int .i64 0] 39));have bK:bW w w1:=by rw [bN];exact(bi _ w).alloc (bP _) _
 have m:Reads p w.heap.size w w1 #[iV 0,iV 0,iV 0] 39:=⟨aa.ah _ bK,by rw [bN];exact heap_alloc_new _ _,by omega⟩;have t:Calls prog 188 #[pQ p,iV 8] w1 λe w'=>e= .returned (.string (strOfNums (part l 0 8)))/\Rd w' p b o c 8 l/\aa (λj=>j=p) w1 w':=uj p b o c 0 8 l w1 (h.lI bK) (by omega) (by omega);generalize strOfNums (part l 0 8)=z at*;go_in;go_wp2_with fail;rw [<-bN];refine fk t λA fb aX=>?_;go_wp2_with fail;refine(sI _).mono ?_;rintro e M ⟨rfl,g⟩;have ez:=g.symm;subst ez;go_wp2_with fail;refine(uk p b o c 8 l A fb (by omega) (by omega)).mono ?_;rintro e C ⟨rfl,ub,dV⟩;go_wp2_with fail;refine(uk p b o c 12 l C ub (by omega) (by omega)).mono ?_;rintro e w5 ⟨rfl,Fa,dX⟩;go_wp2_with fail;refine(uk p b o c 16 l w5 Fa (by omega) (by omega)).mono ?_;rintro e f ⟨rfl,FB,ji⟩;have Ss:=((((m.step aX).step dV).step dX).step ji);have s:=(kN.1 FB.rd).1;have x:∀wx:World,bW f wx->Calls prog 190 #[pQ p,iV 508] wx λe w'=>e= .returned (.tuple #[])/\Rd w' p b o c 508 l/\aa (λj=>j=p) wx w':=λwx u=>CT p b o c 20 488 l wx (FB.lI u) (by omega) (by omega) dh.tu;have St:∀o,bW f (f.alloc o):=λo=>(bi _ f).alloc (bP _) _;go_wp2_with fail;refine(x _ (St _)).mono ?_;rintro e i ⟨rfl,_,gy⟩;have Mg:i.heap[f.heap.size]? =some (.cells #[.int .i64 ((u32 l 8:Nat):Int), .int .i64 ((u32 l 12:Nat):Int), .int .i64 ((u32 l 16:Nat):Int)] 39 (0,0)):=(gy.block _ (by simp) (by omega)).trans (heap_alloc_new _ _);obtain⟨a,y,s1,s2⟩:=cM dh.geo (aL Mg) (bD Mg) (bH Mg);go_wp2_with fail;refine(qS (u32 l 8) (u32 l 12) (u32 l 16) i a.1.1 a.1.2 a.2.1.1 a.2.1.2 a.2.2.1 a.2.2.2.1 a.2.2.2.2).mono ?_;rintro e D ⟨rfl,BD⟩;obtain⟨d,J,K,L,CW⟩:=ey ((((Ss.below (St _)).step gy).below BD)) (cell_later BD y) (cell_later BD s1) (cell_later BD s2) (iP (kN.1 Mg).1 BD.size);have sd:=d.dj;have LU:=λo=>(Below.heap_alloc D o _ (kN.1 sd).1).trans sd;have n:=λo=>aL (LU o);have q:=λo=>bD (LU o);have r:=λo=>bH (LU o);have E:=λo=>ae (LU o) 0;have F:=λo=>ae (LU o) 1;have G:=λo=>ae (LU o) 2;go_wp2_with fail;refine(sI _).mono ?_;rintro e N ⟨rfl,g⟩;have ez:=g.symm;subst ez;go_wp2;refine bodyPost_ret (v:= .agg #[iV ((u32 l 8:Nat):Int),iV ((u32 l 12:Nat):Int),iV ((u32 l 16:Nat):Int)]) (by simp [results,results150,go_sem,n,q,r]) rfl ⟨rfl,?_⟩;exact(((d.k.more _).put (bP _) _).put (bP _) _).put (bP _) _
theorem BF (p b o c:Nat) (l:List Int) (w:World) (h:Rd w p b o c 0 l) (m:l.length=508) (dh:part l 0 8≠gq):
  Calls prog 150 #[pQ p] w λe w'=>e= .panicked mS/\aa (λj=>j=p) w w':=by
 have i:=h.cap;have aaf:=aad (dS h.bytes 0 8) dh;have pf:=(kN.1 h.rd).1;obtain⟨w1,bN⟩:=bQ (w.alloc (.cells #[.int .i64 0, .int .i64 0, .int .i64 0] 39));have bK:bW w w1:=by rw [bN];exact(bi _ w).alloc (bP _) _
 have a:Reads p w.heap.size w w1 #[iV 0,iV 0,iV 0] 39:=⟨aa.ah _ bK,by rw [bN];exact heap_alloc_new _ _,by omega⟩;have d:Calls prog 188 #[pQ p,iV 8] w1 λe w'=>e= .returned (.string (strOfNums (part l 0 8)))/\Rd w' p b o c 8 l/\aa (λj=>j=p) w1 w':=uj p b o c 0 8 l w1 (h.lI bK) (by omega) (by omega);generalize strOfNums (part l 0 8)=g at*;go_in;go_wp2_with fail;rw [<-bN];refine fk d λn fb aX=>?_;go_wp2_with fail;refine(Ee _).mono ?_;rintro e q ⟨rfl,f⟩;have ez:=f.symm;subst ez;go_wp2;exact⟨rfl,rfl,(a.step aX).k⟩
theorem BG (p b o c:Nat) (l:List Int) (w:World) (h:Rd w p b o c 0 l) (v:l.length=508) (f:part l 0 8=gq) (g:¬ue (part l 20 488)):
  Calls prog 150 #[pQ p] w λe w'=>e= .panicked mS/\aa (λj=>j=p) w w':=by
 have u:=h.cap;have aaf:=KL f;have pf:=(kN.1 h.rd).1;obtain⟨w1,bN⟩:=bQ (w.alloc (.cells #[.int .i64 0, .int .i64 0, .int .i64 0] 39));have bK:bW w w1:=by rw [bN];exact(bi _ w).alloc (bP _) _
 have d:Reads p w.heap.size w w1 #[iV 0,iV 0,iV 0] 39:=⟨aa.ah _ bK,by rw [bN];exact heap_alloc_new _ _,by omega⟩;have i:Calls prog 188 #[pQ p,iV 8] w1 λe w'=>e= .returned (.string (strOfNums (part l 0 8)))/\Rd w' p b o c 8 l/\aa (λj=>j=p) w1 w':=uj p b o c 0 8 l w1 (h.lI bK) (by omega) (by omega);generalize strOfNums (part l 0 8)=r at*;go_in;go_wp2_with fail;rw [<-bN];refine fk i λs fb aX=>?_;go_wp2_with fail;refine(sI _).mono ?_;rintro e x ⟨rfl,m⟩;have ez:=m.symm;subst ez;go_wp2_with fail;refine(uk p b o c 8 l s fb (by omega) (by omega)).mono ?_;rintro e t ⟨rfl,ub,dV⟩;go_wp2_with fail;refine(uk p b o c 12 l t ub (by omega) (by omega)).mono ?_;rintro e w5 ⟨rfl,Fa,dX⟩;go_wp2_with fail;refine(uk p b o c 16 l w5 Fa (by omega) (by omega)).mono ?_;rintro e a ⟨rfl,FB,ji⟩;have Ss:=((((d.step aX).step dV).step dX).step ji);have q:∀wx:World,bW a wx->Calls prog 190 #[pQ p,iV 508] wx λe w'=>e= .panicked mS/\aa (λj=>j=p) wx w':=λwx n=>Of p b o c 20 488 l wx (FB.lI n) (by omega) (by omega) g;have St:∀o,bW a (a.alloc o):=λo=>(bi _ a).alloc (bP _) _;go_wp2_with fail;refine(q _ (St _)).mono ?_;rintro e y ⟨rfl,gy⟩;go_wp2;exact⟨rfl,rfl,((Ss.below (St _)).step gy).k⟩
theorem BH (p b o c:Nat) (l:List Int) (w:World) (h:Rd w p b o c 0 l) (E:l.length=508) (i:part l 0 8=gq) (m:ue (part l 20 488)) (n:¬vq (u32 l 8) (u32 l 12) (u32 l 16)):
  Calls prog 150 #[pQ p] w λe w'=>e= .panicked mS/\aa (λj=>j=p) w w':=by
 have D:=h.cap;have aaf:=KL i;have pf:=(kN.1 h.rd).1;obtain⟨w1,bN⟩:=bQ (w.alloc (.cells #[.int .i64 0, .int .i64 0, .int .i64 0] 39));have bK:bW w w1:=by rw [bN];exact(bi _ w).alloc (bP _) _
 have g:Reads p w.heap.size w w1 #[iV 0,iV 0,iV 0] 39:=⟨aa.ah _ bK,by rw [bN];exact heap_alloc_new _ _,by omega⟩;have t:Calls prog 188 #[pQ p,iV 8] w1 λe w'=>e= .returned (.string (strOfNums (part l 0 8)))/\Rd w' p b o c 8 l/\aa (λj=>j=p) w1 w':=uj p b o c 0 8 l w1 (h.lI bK) (by omega) (by omega);generalize strOfNums (part l 0 8)=z at*;go_in;go_wp2_with fail;rw [<-bN];refine fk t λA fb aX=>?_;go_wp2_with fail;refine(sI _).mono ?_;rintro e G ⟨rfl,f⟩;have ez:=f.symm;subst ez;go_wp2_with fail;refine(uk p b o c 8 l A fb (by omega) (by omega)).mono ?_;rintro e C ⟨rfl,ub,dV⟩;go_wp2_with fail;refine(uk p b o c 12 l C ub (by omega) (by omega)).mono ?_;rintro e w5 ⟨rfl,Fa,dX⟩;go_wp2_with fail;refine(uk p b o c 16 l w5 Fa (by omega) (by omega)).mono ?_;rintro e a ⟨rfl,FB,ji⟩;have Ss:=((((g.step aX).step dV).step dX).step ji);have s:=(kN.1 FB.rd).1;have y:∀wx:World,bW a wx->Calls prog 190 #[pQ p,iV 508] wx λe w'=>e= .returned (.tuple #[])/\Rd w' p b o c 508 l/\aa (λj=>j=p) wx w':=λwx u=>CT p b o c 20 488 l wx (FB.lI u) (by omega) (by omega) m;have St:∀o,bW a (a.alloc o):=λo=>(bi _ a).alloc (bP _) _;go_wp2_with fail;refine(y _ (St _)).mono ?_;rintro e d ⟨rfl,_,gy⟩;have Mg:d.heap[a.heap.size]? =some (.cells #[.int .i64 ((u32 l 8:Nat):Int), .int .i64 ((u32 l 12:Nat):Int), .int .i64 ((u32 l 16:Nat):Int)] 39 (0,0)):=(gy.block _ (by simp) (by omega)).trans (heap_alloc_new _ _);have Yx:Calls prog 98 #[.agg #[iV ((u32 l 8:Nat):Int),iV ((u32 l 12:Nat):Int),iV ((u32 l 16:Nat):Int)]] d λe w'=>e= .returned (.tuple #[.agg #[iV 0,iV 0,iV 0,iV 0,iV 0],iV 22])/\bW d w':=by
  refine(GO _ _ _ d).mono ?_;rintro e w' ⟨v,x,rfl,⟨r,_⟩|⟨_,rfl,rfl⟩,q⟩
  .exact absurd r n
  .exact⟨rfl,q⟩
 have F:=aL Mg;have s1:=bD Mg;have s2:=bH Mg;go_wp2_with fail;refine bE Yx λH BD=>?_;go_wp2_with fail;refine(Ee _).mono ?_;rintro e I ⟨rfl,f⟩;have ez:=f.symm;subst ez;go_wp2;exact⟨rfl,rfl,(((Ss.below (St _)).step gy).below BD).k.more _⟩
theorem Em (p b o c:Nat) (l:List Int) (w:World) (h:Rd w p b o c 0 l) (f:l.length=508) (dh:¬Hg l):
  Calls prog 150 #[pQ p] w λe w'=>e= .panicked mS/\aa (λj=>j=p) w w':=by
 by_cases a:part l 0 8=gq
 .by_cases d:ue (part l 20 488)
  .exact BH p b o c l w h f a d (λg=>dh ⟨a,d,g⟩)
  .exact BG p b o c l w h f a d
 .exact BF p b o c l w h f a
theorem Su:∀{xs:List Int},Bytes xs->leb xs.length (le xs)=xs
 | [],_=>rfl
 |x :: t,h=>by
  have d:=h x (by simp);rw [List.length_cons,leb,le];have a:(x.toNat+256*le t) / 256=le t:=by omega
  have b:(((x.toNat+256*le t)%256:Nat):Int)=x:=by omega
  rw [a,b,(Su (xs:=t) (λy c=>h y (by simp [c])))]
theorem Am:∀(k m:Nat),m<256 ^ k->le (leb k m)=m
 |0,m,h=>by simp at h;simp [leb,le,h]
 |k+1,m,h=>by
  have a:m / 256<256 ^ k:=by rw [Nat.pow_succ] at h;exact Nat.div_lt_of_lt_mul (by rw [Nat.mul_comm];exact h)
  rw [leb,le,Am k _ a];omega
theorem Ot (h:∀x∈l,x=0):l=List.replicate l.length 0:=List.eq_replicate_iff.2 ⟨rfl,h⟩
theorem kf {a m:Nat} (h:q+m<=a):part (part l 0 a) q m=part l q m:=by
 unfold part;rw [List.drop_zero,List.drop_take,List.take_take];congr 1;omega
theorem lS (l:List Int) (q m k:Nat):part l q (m+k)=part l q m ++ part l (q+m) k:=by
 unfold part;rw [List.take_add,List.drop_drop]
theorem Hi (l:List Int):part l 0 l.length=l:=by simp [part]
theorem qg (A B:List Int) (q m:Nat) (h:q=A.length):part (A ++ B) q m=B.take m:=by
 subst h;simp [part]
theorem iL (A B:List Int) (q m:Nat) (h:q+m<=A.length):part (A ++ B) q m=part A q m:=by
 unfold part;rw [List.drop_append_of_le_length (by omega),List.take_append_of_le_length (by simp;omega)]
theorem ul (a:Bytes l) (b:q+4<=l.length):leb 4 (u32 l q)=part l q 4:=by
 have:=Su (dS a q 4);rw [fx b] at this;exact this
def An (l:List Int):Prop:=vq (u32 l 8) (u32 l 12) (u32 l 16)/\eR (bM (u32 l 8) (u32 l 12) (u32 l 16))=l
theorem C0 (b:Bytes l) (j:l.length=512):(qf l/\Hg (part l 0 508))↔An l:=by
 have u1:u32 (part l 0 508) 8=u32 l 8:=by unfold u32;rw [kf (by omega)]
 have u2:u32 (part l 0 508) 12=u32 l 12:=by unfold u32;rw [kf (by omega)]
 have u3:u32 (part l 0 508) 16=u32 l 16:=by unfold u32;rw [kf (by omega)]
 have Qz:part l 0 508=part l 0 8 ++ part l 8 4 ++ part l 12 4 ++ part l 16 4 ++ part l 20 488:=by
  rw [show (508:Nat)=8+4+4+4+488 from rfl,lS,lS,lS,lS]
 have aag:l=part l 0 508 ++ part l 508 4:=by
  have:=lS l 0 508 4;rw [show 508+4=l.length by omega,Hi] at this;exact this
 constructor
 .rintro ⟨f,i,k,c⟩;rw [u1,u2,u3] at c;rw [kf (by omega)] at i k;refine⟨c,?_⟩;have e:bM (u32 l 8) (u32 l 12) (u32 l 16)=part l 0 508:=by
   rw [Qz,i,<-ul b (q:=8) (by omega),<-ul b (q:=12) (by omega),<-ul b (q:=16) (by omega)];have:=Ot k;rw [fx (by omega)] at this;rw [this];rfl
  unfold eR;rw [e];unfold qf at f;rw [j] at f;have m:u32 l 508=sumOf (part l 0 508):=f;rw [<-m,(ul b (q:=508) (by omega))];exact aag.symm
 .rintro ⟨c,g⟩;have a:=dD (u32 l 8) (u32 l 12) (u32 l 16);have Sv:part l 0 508=bM (u32 l 8) (u32 l 12) (u32 l 16):=by
   conv=>lhs;rw [<-g]
   unfold eR;rw [iL _ _ _ _ (by omega)];have:=Hi (bM (u32 l 8) (u32 l 12) (u32 l 16));rw [a] at this;exact this
  have FP:part l 508 4=leb 4 (sumOf (bM (u32 l 8) (u32 l 12) (u32 l 16))):=by
   conv=>lhs;rw [<-g]
   unfold eR;rw [qg _ _ _ _ a.symm,nh (by rw [aH];omega)]
  refine⟨?_,?_,?_,?_⟩
  .unfold qf;rw [j];show le (part l 508 4)=sumOf (part l 0 508);rw [FP,Sv,Am _ _ (by have:=ng (gM (u32 l 8) (u32 l 12) (u32 l 16));omega)]
  .rw [Sv];unfold bM;rw [List.append_assoc,List.append_assoc,List.append_assoc,iL _ _ _ _ (by decide)];rfl
  .rw [Sv];unfold bM;have d:(gq ++ leb 4 (u32 l 8) ++ leb 4 (u32 l 12) ++ leb 4 (u32 l 16)).length=20:=(by rw [dT,dT,dT,aH,aH,aH];rfl);rw [qg _ _ _ _ d.symm];intro x n;exact List.eq_of_mem_replicate (List.mem_of_mem_take n)
  .rw [u1,u2,u3];exact c
theorem um (a c:Nat) (f g i:Value) (x:Value) (w:World) (b:w.heap[a]? =some (.cells #[f,g,i] 39 (0,0))) (d:w.heap[c]? =some (.cells #[x] 49 (0,0))) (dG:a≠c):
  CallsD prog 149 #[pQ a,pQ c] (.panicking mS) w λe k w'=>
   e= .returned (.tuple #[])/\k= .panicking [{v:= .iface 49 (iV 6),recovered:=true}]/\w'=(((w.setCell ⟨a,0,none⟩ (.int .i64 0)).setCell ⟨a,1,none⟩ (.int .i64 0)).setCell ⟨a,2,none⟩ (.int .i64 0)).setCell ⟨c,0,none⟩ (.int .i64 6):=by
 have ajK:¬c=a:=λe=>dG e.symm;refine callsD_of_wpS func149 rfl λl cs j=>?_;apply wpS_seq;apply wpS_region;simp [wpOpsS,go_sem,recoverD,j,ntmps149,Exit.thenS];refine wpS_cond (t:=true) (by simp [Act.eval,Array.replicate]) ?_;simp only [if_true];apply wpS_region;simp [wpOpsS,go_sem,aL b,bD b,bH b,ae b 0,ae b 1,ae b 2,aL d,ae d 0,bodyPostS,results,results149]
theorem Hk (b c:Nat) (w:World):
  CallsD prog 149 #[pQ b,pQ c] .returning w λe f w'=>e= .returned (.tuple #[])/\f= .returning/\w'=w:=by
 refine callsD_of_wpS func149 rfl λa cs d=>?_;apply wpS_seq;apply wpS_region;simp [wpOpsS,go_sem,recoverD,d,ntmps149,Exit.thenS];refine wpS_cond (t:=false) (by simp [Act.eval,Array.replicate]) ?_;simp only [Bool.false_eq_true,if_false];refine wpS_of_wp (wp_skip ?_);cases a
 simp_all [bodyPostS,results,results149]
theorem qW {B:Nat} (h:Below B w wx) (b:B<=g) (a:B<=wx.heap.size) (v:Value):Below B w (wx.setCell ⟨g,i,none⟩ v):=
 h.trans ((aa.setCell (F:=λj=>j=g) (p:=⟨g,i,none⟩) wx rfl v).below (λj c=>by omega) a)
theorem size_setCell (w:World) (a:Addr) (v:Value):(w.setCell a v).heap.size=w.heap.size:=by simp [World.setCell]
theorem KM {B:Nat} (h:Below B w wx) {a d:Nat} (c:B<=a) (e:B<=d) (b:B<=wx.heap.size) (x y z u:Value):
  Below B w ((((wx.setCell ⟨a,0,none⟩ x).setCell ⟨a,1,none⟩ y).setCell ⟨a,2,none⟩ z).setCell ⟨d,0,none⟩ u):=
 qW (qW (qW (qW h c b x) c (by rw [size_setCell];exact b) y) c (by rw [size_setCell,size_setCell];exact b) z) e (by rw [size_setCell,size_setCell,size_setCell];exact b) u
def oI (l:List Int):Prop:=qf l/\Hg (part l 0 508)
theorem Ht (b o c:Nat) (l:List Int) (w:World) (u:l.length=512) (s:512<=c) (mY:c<=9223372036854775807) (r:Bytes l) (v:∀i,i<512->w.cell? ⟨b,o+i,none⟩=some (.int .u8 (l.getD i 0))) (dh:oI l):
  Calls prog 108 #[.slice (some (aD b o)) 512 c] w λe w'=>e= .returned (.tuple #[.agg #[iV ((u32 l 8:Nat):Int),iV ((u32 l 12:Nat):Int),iV ((u32 l 16:Nat):Int)],iV 0])/\bW w w':=by
 obtain⟨w1,bN⟩:=bQ ((w.alloc (.cells #[.int .i64 0, .int .i64 0, .int .i64 0] 39)).alloc (.cells #[.int .i64 0] 49));have bK:bW w w1:=by rw [bN];exact bY w _ _
 have rY:w1.heap.size=w.heap.size+2:=by rw [bN];simp
 have o8:w1.heap[w.heap.size]? =some (.cells #[.int .i64 0, .int .i64 0, .int .i64 0] 39 (0,0)):=by rw [bN];exact heap_alloc2_old _ _ _
 have fU:w1.heap[w.heap.size+1]? =some (.cells #[.int .i64 0] 49 (0,0)):=by rw [bN];exact heap_alloc2_new _ _ _
 go_enter_defers func108,ntmps108
 go_wp2_with fail;rw [<-bN];refine(CZ b o 512 c l w1 u (by omega) (by omega) s mY r (λi t=>cell_later bK (v i t)) dh.1).mono ?_;rintro e x ⟨p,rfl,E,vi,aW⟩;have pi:=El p b o c (part l 0 508) x vi (fx (by omega)) dh.2;have dE:=bK.trans (aW.mono bK.size);have a:=((aW.block w.heap.size (by omega)).trans o8);have d:=((aW.block (w.heap.size+1) (by omega)).trans fU);have g:u32 (part l 0 508) 8=u32 l 8:=by unfold u32;congr 1;simp [part,List.drop_take,List.take_take]
 have ajL:u32 (part l 0 508) 12=u32 l 12:=by unfold u32;congr 1;simp [part,List.drop_take,List.take_take]
 have ajM:u32 (part l 0 508) 16=u32 l 16:=by unfold u32;congr 1;simp [part,List.drop_take,List.take_take]
 rw [g,ajL,ajM] at pi;go_wp2_with fail;refine bE pi λG aV=>?_;have o8:=(aV.block w.heap.size (kN.1 a).1 (by omega)).trans a;have fU:=(aV.block (w.heap.size+1) (kN.1 d).1 (by omega)).trans d;obtain⟨fS,k,m,n,z,A,C,q,y⟩:=UD (dE.trans (aV.below (λj D=>by omega) dE.size)) (aL o8) (bD o8) (bH o8) (ae o8 0) (ae o8 1) (ae o8 2) (aL fU) (ae fU 0);go_wp2;refine leaves_cons (f:=149) (args:= #[pQ w.heap.size, .pointer (some ⟨w.heap.size+1,0,none⟩)]) (by simp) (by simp [go_sem]) ?_;refine(Hk _ _ _).mono ?_;rintro e F Bh ⟨rfl,rfl,rfl⟩;simp [Leaves,settle,results,results108,go_sem,k,m,n,q];exact(KM fS (bP w.heap.size) (show w.heap.size<=w.heap.size+1 by omega) fS.size (iV ((u32 l 8:Nat):Int)) (iV ((u32 l 12:Nat):Int)) (iV ((u32 l 16:Nat):Int)) (iV 0))
theorem En (b o c:Nat) (l:List Int) (w:World) (m:l.length=512) (j:512<=c) (mY:c<=9223372036854775807) (g:Bytes l) (n:∀i,i<512->w.cell? ⟨b,o+i,none⟩=some (.int .u8 (l.getD i 0))) (d:¬qf l):
  Calls prog 108 #[.slice (some (aD b o)) 512 c] w λe w'=>e= .returned (.tuple #[.agg #[iV 0,iV 0,iV 0],iV 6])/\bW w w':=by
 obtain⟨w1,bN⟩:=bQ ((w.alloc (.cells #[.int .i64 0, .int .i64 0, .int .i64 0] 39)).alloc (.cells #[.int .i64 0] 49));have bK:bW w w1:=by rw [bN];exact bY w _ _
 have rY:w1.heap.size=w.heap.size+2:=by rw [bN];simp
 have o8:w1.heap[w.heap.size]? =some (.cells #[.int .i64 0, .int .i64 0, .int .i64 0] 39 (0,0)):=by rw [bN];exact heap_alloc2_old _ _ _
 have fU:w1.heap[w.heap.size+1]? =some (.cells #[.int .i64 0] 49 (0,0)):=by rw [bN];exact heap_alloc2_new _ _ _
 go_enter_defers func108,ntmps108
 go_wp2_with fail;rw [<-bN];refine(Oq b o 512 c l w1 m (by omega) (by omega) j mY g (λi k=>cell_later bK (n i k)) d).mono ?_;rintro e q ⟨rfl,aW⟩;have dE:=bK.trans (aW.mono bK.size);have a:=(aF ((aW.block w.heap.size (by omega)).trans o8) ((aW.block (w.heap.size+1) (by omega)).trans fU));go_wp2;refine leaves_cons (f:=149) (args:= #[pQ w.heap.size, .pointer (some ⟨w.heap.size+1,0,none⟩)]) (by simp) (by simp [go_sem]) ?_;refine(um w.heap.size (w.heap.size+1) _ _ _ _ _ a.1 a.2 (by omega)).mono ?_;rintro e p Bh ⟨rfl,rfl,rfl⟩;simp [Leaves,settle,results,results108,go_sem,aL a.1,bD a.1,bH a.1,(aL a.2)];exact(KM dE (bP w.heap.size) (show w.heap.size<=w.heap.size+1 by omega) dE.size (iV 0) (iV 0) (iV 0) (iV 6))
theorem Eo (b o c:Nat) (l:List Int) (w:World) (s:l.length=512) (q:512<=c) (mY:c<=9223372036854775807) (n:Bytes l) (t:∀i,i<512->w.cell? ⟨b,o+i,none⟩=some (.int .u8 (l.getD i 0))) (k:qf l) (m:¬Hg (part l 0 508)):
  Calls prog 108 #[.slice (some (aD b o)) 512 c] w λe w'=>e= .returned (.tuple #[.agg #[iV 0,iV 0,iV 0],iV 6])/\bW w w':=by
 obtain⟨w1,bN⟩:=bQ ((w.alloc (.cells #[.int .i64 0, .int .i64 0, .int .i64 0] 39)).alloc (.cells #[.int .i64 0] 49));have bK:bW w w1:=by rw [bN];exact bY w _ _
 have rY:w1.heap.size=w.heap.size+2:=by rw [bN];simp
 have o8:w1.heap[w.heap.size]? =some (.cells #[.int .i64 0, .int .i64 0, .int .i64 0] 39 (0,0)):=by rw [bN];exact heap_alloc2_old _ _ _
 have fU:w1.heap[w.heap.size+1]? =some (.cells #[.int .i64 0] 49 (0,0)):=by rw [bN];exact heap_alloc2_new _ _ _
 go_enter_defers func108,ntmps108
 go_wp2_with fail;rw [<-bN];refine(CZ b o 512 c l w1 s (by omega) (by omega) q mY n (λi r=>cell_later bK (t i r)) k).mono ?_;rintro e u ⟨p,rfl,x,vi,aW⟩;have dE:=bK.trans (aW.mono bK.size);have d:=((aW.block w.heap.size (by omega)).trans o8);have g:=((aW.block (w.heap.size+1) (by omega)).trans fU);go_wp2_with fail;refine(Em p b o c (part l 0 508) u vi (fx (by omega)) m).mono ?_;rintro e z ⟨rfl,aV⟩;have o8:=(aV.block w.heap.size (kN.1 d).1 (by omega)).trans d;have fU:=(aV.block (w.heap.size+1) (kN.1 g).1 (by omega)).trans g;have fS:=dE.trans (aV.below (λj v=>by omega) dE.size);have a:=(aF o8 fU);go_wp2;refine leaves_cons (f:=149) (args:= #[pQ w.heap.size, .pointer (some ⟨w.heap.size+1,0,none⟩)]) (by simp) (by simp [go_sem]) ?_;refine(um w.heap.size (w.heap.size+1) _ _ _ _ _ a.1 a.2 (by omega)).mono ?_;rintro e y Bh ⟨rfl,rfl,rfl⟩;simp [Leaves,settle,results,results108,go_sem,aL a.1,bD a.1,bH a.1,(aL a.2)];exact(KM fS (bP w.heap.size) (show w.heap.size<=w.heap.size+1 by omega) fS.size (iV 0) (iV 0) (iV 0) (iV 6))
theorem Hu (b o c:Nat) (l:List Int) (w:World) (g:l.length=512) (f:512<=c) (mY:c<=9223372036854775807) (d:Bytes l) (j:∀i,i<512->w.cell? ⟨b,o+i,none⟩=some (.int .u8 (l.getD i 0))) (dh:¬oI l):
  Calls prog 108 #[.slice (some (aD b o)) 512 c] w λe w'=>e= .returned (.tuple #[.agg #[iV 0,iV 0,iV 0],iV 6])/\bW w w':=by
 by_cases a:qf l
 .exact Eo b o c l w g f mY d j a (λk=>dh ⟨a,k⟩)
 .exact En b o c l w g f mY d j a
section
section
variable {w:World} {F:Nat->Prop} {p s c:Nat} {S:DS}
theorem Ou (h:B.ax w F p s S c) (k:Nat) (j:k<s) (aT:S.puts.length+1<=4000000000000) (f:S.fuse≠0):
  Calls prog 39 #[pQ p,iV (k:Int)] w λe w'=>∃g a,e= .returned (.tuple #[.slice (some (aD g 0)) 512 a,iV 0])/\w.heap.size<=g/\ay w' 5 g a (bs (S.now k))/\B.ax w' F p s S (c+1)/\aa F w w':=by
 obtain⟨r,h,l⟩:=h;refine(LI h k f j (by show S.puts.length<=_;omega)).mono ?_;rintro e w' ⟨g,a,rfl,i,aY,b,d⟩;exact⟨g,a,rfl,i,aY,⟨_,b,l.read⟩,d⟩
end
def lT (l:List Int) (s:Nat):Prop:=oI l/\u32 l 8=s
def cz (l:List Int):LY:=⟨u32 l 12,3+u32 l 12,u32 l 8-(3+u32 l 12),u32 l 16,2+u32 l 16 / 4⟩
abbrev XX:LY:=⟨0,0,0,0,0⟩
def Sw (S:DS) (s:Nat) (y:LY) (x:Int):Prop:=
   (S.fuse=0/\y=XX/\x=3)\/(S.fuse≠0/\lT (S.now 0) s/\y=cz (S.now 0)/\x=0)\/(S.fuse≠0/\¬lT (S.now 0) s/\y=XX/\x=6)
theorem oI.geo (h:oI l):vq (u32 l 8) (u32 l 12) (u32 l 16):=by
 simpa only [u32,kf (show 8+4<=508 by omega),kf (show 12+4<=508 by omega),kf (show 16+4<=508 by omega)] using h.2.geo
theorem Sx (l:List Int) {s:Nat} (d:u32 l 8=s) (e:((u32 l 12:Nat):Int)+((u32 l 16:Nat):Int) / 4+6<=(s:Int)):
  Ending.returned (.tuple #[.agg #[iV ((u32 l 12:Nat):Int),iV (3+((u32 l 12:Nat):Int)),iV ((s:Int)-(3+((u32 l 12:Nat):Int))),iV ((u32 l 16:Nat):Int),iV (2+((u32 l 16:Nat):Int) / 4)],iV 0])=Ending.returned (.tuple #[Pr (cz l),iV 0]):=by
 unfold cz Pr;generalize u32 l 12=y at*;generalize u32 l 16=z at*;rw [d];have a:((3+y:Nat):Int)=3+(y:Int):=by omega
 have b:((s-(3+y):Nat):Int)=(s:Int)-(3+(y:Int)):=by omega
 have c:((2+z / 4:Nat):Int)=2+(z:Int) / 4:=by omega
 simp only [a,b,c]
theorem Sy {W:World} {j l m n o:Value} {t:TypeId} (h:W.heap[g]? =some (.cells #[j,l,m,n,o] t (0,0))) (b c d e f:Value):
    (((((W.setCell ⟨g,0,none⟩ b).setCell ⟨g,1,none⟩ c).setCell ⟨g,2,none⟩ d).setCell ⟨g,3,none⟩ e).setCell ⟨g,4,none⟩ f).heap[g]? =some (.cells #[b,c,d,e,f] t (0,0))/\aa (λk=>k=g) W (((((W.setCell ⟨g,0,none⟩ b).setCell ⟨g,1,none⟩ c).setCell ⟨g,2,none⟩ d).setCell ⟨g,3,none⟩ e).setCell ⟨g,4,none⟩ f):=by
 refine⟨PJ b c d e f h,?_⟩;have a:=λ(w:World) (i:Nat) (v:Value)=>aa.setCell (F:=λk=>k=g) w (p:=(aD g i)) rfl v;exact((((a _ 0 b).trans (a _ 1 c) (λ_ h=> .inl h)).trans (a _ 2 d) (λ_ h=> .inl h)).trans (a _ 3 e) (λ_ h=> .inl h)).trans (a _ 4 f) (λ_ h=> .inl h)
theorem uo {w:World} {F:Nat->Prop} {p s c:Nat} {S:DS} (h:B.ax w F p s S c) (cZ:S.fC) (aT:S.puts.length+1<=4000000000000):
  Calls prog 54 #[pQ p] w λe w'=>∃y x,e= .returned (.tuple #[Pr y,iV x])/\Sw S s y x/\B.ax w' F p s S (c+1)/\aa F w w':=by
 obtain⟨w0,J4⟩:=bQ (w.alloc (.cells #[.int .i64 0, .int .i64 0, .int .i64 0, .int .i64 0, .int .i64 0] 86));have fo:bW w w0:=by rw [J4];exact aI _ _
 have dF:w0.heap[w.heap.size]? =some (.cells #[.int .i64 0, .int .i64 0, .int .i64 0, .int .i64 0, .int .i64 0] 86 (0,0)):=by rw [J4];exact heap_alloc_new _ _
 have wI:=h.later fo;have bm:=h.lt;go_in;go_wp2_with fail;by_cases A:S.fuse=0
 .have z:=B.ot wI 0 A;have t:=(aF wI (aF fo dF));subst J4;clear h wI fo dF;refine bE z λw1 bN=>?_;subst bN;clear z;go_wp2;exact bodyPost_ret (v:= .tuple #[Pr XX,iV 3]) (by simp [results,results54,go_sem]) rfl ⟨XX,3,rfl, .inl ⟨A,rfl,rfl⟩,t.1.le (by omega),aa.ah F t.2.1⟩
 .have dh:=h.ok;have z:=Ou wI 0 (by have:=dh.lo;omega) aT A;have Y:=br dh 0 (by have:=dh.lo;omega);have wZ:=cZ.now 0;have t:=(aF fo dF);have gv:w0.heap.size=w.heap.size+1:=by rw [J4,World.size_alloc]
  have X:=gv;rw [J4] at t X z;clear h wI fo dF J4 gv w0;refine z.mono ?_;rintro e w1 ⟨g,J,rfl,hg,aY,iB,eH⟩;clear z;have Wk:=(eH.block w.heap.size (by rw [X];omega) (λo=>by have:=bm _ o;omega)).trans t.2;have Pi:=aY.le;have D4:=aY.max;have kP:∀i,i<512->w1.cell? ⟨g,0+i,none⟩=some (.int .u8 ((S.now 0).getD i 0)):=λi hi=>by
   have:=aY.byte (i:=i) (by omega);rwa [aK] at this
  have RK:512<=J:=by rw [<-Y];simpa [bs] using Pi
  have aep:J<=9223372036854775807:=by unfold maxLen at D4;omega
  have eF:=(aa.ah F t.1).trans eH (λ_ h=> .inl h);have bN:=eH.size;rw [X] at bN;by_cases r:oI (S.now 0)
  .have C:=Ht g 0 J (S.now 0) w1 Y RK aep wZ kP r;have n:=r.geo;have m:=(aF iB (aF eF (aF Wk r)));clear aY iB eH kP Wk eF Pi D4 r;go_wp2_with fail;refine bE C λl aW=>?_;clear C;have ec:=aW.size;obtain⟨b,eB⟩:∃b,b=l.alloc (.cells #[.int .i64 ((u32 (S.now 0) 8:Nat):Int), .int .i64 ((u32 (S.now 0) 12:Nat):Int), .int .i64 ((u32 (S.now 0) 16:Nat):Int)] 39):=⟨_,rfl⟩;have Ov:b.heap[l.heap.size]? =some (.cells #[.int .i64 ((u32 (S.now 0) 8:Nat):Int), .int .i64 ((u32 (S.now 0) 12:Nat):Int), .int .i64 ((u32 (S.now 0) 16:Nat):Int)] 39 (0,0)):=(by rw [eB];exact heap_alloc_new _ _);have bz:bW w1 b:=(by rw [eB];exact aW.alloc ec _);have kO:b.heap.size=l.heap.size+1:=(by rw [eB,World.size_alloc]);go_wp2_with fail;rw [<-eB];clear eB aW;have f:=m.1.later bz;have sM:=(bz.block w.heap.size (by omega)).trans m.2.2.1;have Sz:=m.2.1.trans (aa.ah (λ_=>False) bz) (λ_ h=>h.elim);have c0:=aL Ov;have nJ:=λk=>B.pH (f.later (below_drewN (bi _ _) k));have a:=(aF f (aF Sz (aF sM Ov)));clear f Sz sM Ov bz;by_cases o7:u32 (S.now 0) 8=s
   .have Wl:(((u32 (S.now 0) 8:Nat):Int) == ((s:Nat):Int))=true:=(by rw [o7];simp);go_quiet (first|(go_at_call 47;refine Calls.quiet_of_same (nJ _)));have d:∀k,bW b (b.drewN k):=λk=>below_drewN (bi _ _) k;have eV:=(λk=>aF (a.1.later (d k)) (aF (a.2.1.trans (aa.ah (λ_=>False) (d k)) (λ_ h=>h.elim)) (aF (((d k).block w.heap.size (by omega)).trans a.2.2.1) (((d k).block l.heap.size (by omega)).trans a.2.2.2))));clear a c0 nJ d;rename_i nq _;have a:=(eV nq);have Hv:(b.drewN nq).heap.size=b.heap.size:=rfl;clear eV;generalize b.drewN nq=W at*;obtain⟨P,Q,R,T,U,K,L,M,N,O,s0,s1⟩:=BU (aL a.2.2.1) (bD a.2.2.1) (bH a.2.2.1) (fI a.2.2.1) (gz a.2.2.1) (ae a.2.2.1 0) (ae a.2.2.1 1) (ae a.2.2.1 2) (ae a.2.2.1 3) (ae a.2.2.1 4) (aL a.2.2.2) (bD a.2.2.2);have s2:=bH a.2.2.2;have pf:=qS (s:Int) ((u32 (S.now 0) 12:Nat):Int) ((u32 (S.now 0) 16:Nat):Int) W (by have:=n;rw [o7] at this;exact this.1.1) (by have:=n;rw [o7] at this;exact this.1.2) (by have:=n;rw [o7] at this;exact this.2.1.1) (by have:=n;rw [o7] at this;exact this.2.1.2) (by have:=n;rw [o7] at this;exact this.2.2.1) (by have:=n;rw [o7] at this;exact this.2.2.2.1) (by have:=n;rw [o7] at this;exact this.2.2.2.2);go_wp2_with fail;refine bE pf λW3 q=>?_;clear pf P Q R T U K L M N O s0 s1 s2;have Ao:=(q.block w.heap.size (by omega)).trans a.2.2.1;have HX:=(aF (a.1.later q) (a.2.1.trans (aa.ah (λ_=>False) q) (λ_ h=>h.elim)));obtain⟨P,Q,R,T,U,K,L,M,N,O⟩:=vH (aL Ao) (bD Ao) (bH Ao) (fI Ao) (gz Ao) (ae Ao 0) (ae Ao 1) (ae Ao 2) (ae Ao 3) (ae Ao 4);have Z:Ending.returned (.tuple #[.agg #[(iV ((u32 (S.now 0) 12:Nat):Int)),(iV (3+((u32 (S.now 0) 12:Nat):Int))),(iV ((s:Int)-(3+((u32 (S.now 0) 12:Nat):Int)))),(iV ((u32 (S.now 0) 16:Nat):Int)),(iV (2+((u32 (S.now 0) 16:Nat):Int) / 4))],iV 0])=Ending.returned (.tuple #[Pr (cz (S.now 0)),iV 0]):=by
     have h3:=n.2.2.2.1;rw [o7] at h3;exact Sx (S.now 0) o7 h3
    go_wp2;obtain⟨BI,pZ⟩:=Sy Ao (iV ((u32 (S.now 0) 12:Nat):Int)) (iV (3+((u32 (S.now 0) 12:Nat):Int))) (iV ((s:Int)-(3+((u32 (S.now 0) 12:Nat):Int)))) (iV ((u32 (S.now 0) 16:Nat):Int)) (iV (2+((u32 (S.now 0) 16:Nat):Int) / 4));generalize ((((W3.setCell ⟨w.heap.size,0,none⟩ (.int .i64 ((u32 (S.now 0) 12:Nat):Int))).setCell ⟨w.heap.size,1,none⟩ (.int .i64 (3+((u32 (S.now 0) 12:Nat):Int)))).setCell ⟨w.heap.size,2,none⟩ (.int .i64 ((s:Int)-(3+((u32 (S.now 0) 12:Nat):Int))))).setCell ⟨w.heap.size,3,none⟩ (.int .i64 ((u32 (S.now 0) 16:Nat):Int))).setCell ⟨w.heap.size,4,none⟩ (.int .i64 (2+((u32 (S.now 0) 16:Nat):Int) / 4))=WW at*;obtain⟨D,E,G,H,I⟩:=ey (aj BI (j:=0) (u:=(iV ((u32 (S.now 0) 12:Nat):Int))) rfl) (aj BI (j:=1) (u:=(iV (3+((u32 (S.now 0) 12:Nat):Int)))) rfl) (aj BI (j:=2) (u:=(iV ((s:Int)-(3+((u32 (S.now 0) 12:Nat):Int))))) rfl) (aj BI (j:=3) (u:=(iV ((u32 (S.now 0) 16:Nat):Int))) rfl) (aj BI (j:=4) (u:=(iV (2+((u32 (S.now 0) 16:Nat):Int) / 4))) rfl);exact bodyPost_ret (v:= .tuple #[.agg #[(iV ((u32 (S.now 0) 12:Nat):Int)),(iV (3+((u32 (S.now 0) 12:Nat):Int))),(iV ((s:Int)-(3+((u32 (S.now 0) 12:Nat):Int)))),(iV ((u32 (S.now 0) 16:Nat):Int)),(iV (2+((u32 (S.now 0) 16:Nat):Int) / 4))],iV 0]) (by simp [results,results54,go_sem,D,E,G,H,I]) rfl ⟨cz (S.now 0),0,Z, .inr (.inl ⟨A,⟨m.2.2.2,o7⟩,rfl,rfl⟩),HX.1.au pZ (λk o e=>by subst e;have:=bm _ o;omega),HX.2.trans pZ (λk e=> .inr (by omega))⟩
   .have Wl:(((u32 (S.now 0) 8:Nat):Int) == ((s:Nat):Int))=false:=(by rw [eG];omega);go_quiet (first|(go_at_call 47;refine Calls.quiet_of_same (nJ _)));have d:∀k,bW b (b.drewN k):=λk=>below_drewN (bi _ _) k;have eV:=(λk=>aF (a.1.later (d k)) (aF (a.2.1.trans (aa.ah (λ_=>False) (d k)) (λ_ h=>h.elim)) (aF (((d k).block w.heap.size (by omega)).trans a.2.2.1) (((d k).block l.heap.size (by omega)).trans a.2.2.2))));clear a c0 nJ d;rename_i nq _;have a:=(eV nq);have Hv:(b.drewN nq).heap.size=b.heap.size:=rfl;clear eV;generalize b.drewN nq=W at*;obtain⟨P,Q,R,T,U,K,L,M,N,O⟩:=vH (aL a.2.2.1) (bD a.2.2.1) (bH a.2.2.1) (fI a.2.2.1) (gz a.2.2.1) (ae a.2.2.1 0) (ae a.2.2.1 1) (ae a.2.2.1 2) (ae a.2.2.1 3) (ae a.2.2.1 4);have aqR:(((u32 (S.now 0) 8:Nat):Int) != ((s:Nat):Int))=true:=(by simp [bne,Wl]);go_wp2;obtain⟨BI,pZ⟩:=Sy a.2.2.1 (iV 0) (iV 0) (iV 0) (iV 0) (iV 0);generalize ((((W.setCell ⟨w.heap.size,0,none⟩ (.int .i64 0)).setCell ⟨w.heap.size,1,none⟩ (.int .i64 0)).setCell ⟨w.heap.size,2,none⟩ (.int .i64 0)).setCell ⟨w.heap.size,3,none⟩ (.int .i64 0)).setCell ⟨w.heap.size,4,none⟩ (.int .i64 0)=WW at*;obtain⟨D,E,G,H,I⟩:=ey (aj BI (j:=0) (u:=(iV 0)) rfl) (aj BI (j:=1) (u:=(iV 0)) rfl) (aj BI (j:=2) (u:=(iV 0)) rfl) (aj BI (j:=3) (u:=(iV 0)) rfl) (aj BI (j:=4) (u:=(iV 0)) rfl);exact bodyPost_ret (v:= .tuple #[.agg #[(iV 0),iV 0,iV 0,iV 0,(iV 0)],iV 6]) (by simp [results,results54,go_sem,D,E,G,H,I]) rfl ⟨XX,6,rfl, .inr (.inr ⟨A,λh=>o7 h.2,rfl,rfl⟩),a.1.au pZ (λk o e=>by subst e;have:=bm _ o;omega),a.2.1.trans pZ (λk e=> .inr (by omega))⟩
  .have C:=Hu g 0 J (S.now 0) w1 Y RK aep wZ kP r;have m:=(aF iB (aF eF (aF Wk r)));clear aY iB eH kP Wk eF Pi D4 r;go_wp2_with fail;refine bE C λl aW=>?_;clear C;have ec:=aW.size;obtain⟨b,eB⟩:=bQ (l.alloc (.cells #[.int .i64 0, .int .i64 0, .int .i64 0] 39));have Ov:b.heap[l.heap.size]? =some (.cells #[.int .i64 0, .int .i64 0, .int .i64 0] 39 (0,0)):=(by rw [eB];exact heap_alloc_new _ _);have bz:bW w1 b:=(by rw [eB];exact aW.alloc ec _);have kO:b.heap.size=l.heap.size+1:=(by rw [eB,World.size_alloc]);go_wp2_with fail;rw [<-eB];clear eB aW;have f:=m.1.later bz;have sM:=(bz.block w.heap.size (by omega)).trans m.2.2.1;have Sz:=m.2.1.trans (aa.ah (λ_=>False) bz) (λ_ h=>h.elim);have a:=(aF f (aF Sz (aF sM Ov)));clear f Sz sM Ov bz;go_quiet (fail);have d:∀k,bW b (b.drewN k):=λk=>below_drewN (bi _ _) k;have eV:=(λk=>aF (a.1.later (d k)) (aF (a.2.1.trans (aa.ah (λ_=>False) (d k)) (λ_ h=>h.elim)) (aF (((d k).block w.heap.size (by omega)).trans a.2.2.1) (((d k).block l.heap.size (by omega)).trans a.2.2.2))));clear a d;rename_i nq _;have a:=(eV nq);have Hv:(b.drewN nq).heap.size=b.heap.size:=rfl;clear eV;generalize b.drewN nq=W at*;obtain⟨P,Q,R,T,U,K,L,M,N,O⟩:=vH (aL a.2.2.1) (bD a.2.2.1) (bH a.2.2.1) (fI a.2.2.1) (gz a.2.2.1) (ae a.2.2.1 0) (ae a.2.2.1 1) (ae a.2.2.1 2) (ae a.2.2.1 3) (ae a.2.2.1 4);go_wp2;obtain⟨BI,pZ⟩:=Sy a.2.2.1 (iV 0) (iV 0) (iV 0) (iV 0) (iV 0);generalize ((((W.setCell ⟨w.heap.size,0,none⟩ (.int .i64 0)).setCell ⟨w.heap.size,1,none⟩ (.int .i64 0)).setCell ⟨w.heap.size,2,none⟩ (.int .i64 0)).setCell ⟨w.heap.size,3,none⟩ (.int .i64 0)).setCell ⟨w.heap.size,4,none⟩ (.int .i64 0)=WW at*;obtain⟨D,E,G,H,I⟩:=ey (aj BI (j:=0) (u:=(iV 0)) rfl) (aj BI (j:=1) (u:=(iV 0)) rfl) (aj BI (j:=2) (u:=(iV 0)) rfl) (aj BI (j:=3) (u:=(iV 0)) rfl) (aj BI (j:=4) (u:=(iV 0)) rfl);exact bodyPost_ret (v:= .tuple #[.agg #[(iV 0),iV 0,iV 0,iV 0,(iV 0)],iV 6]) (by simp [results,results54,go_sem,D,E,G,H,I]) rfl ⟨XX,6,rfl, .inr (.inr ⟨A,λh=>m.2.2.2 h.1,rfl,rfl⟩),a.1.au pZ (λk o e=>by subst e;have:=bm _ o;omega),a.2.1.trans pZ (λk e=> .inr (by omega))⟩
end
def rdNums (blocks:Nat):Nat->Nat->List Int->Option (List Nat×List Int)
 |0,_,l=>some ([],l)
 |n+1,lo,l=>if l.length<4 then none else if lo<=le (l.take 4)/\le (l.take 4)<blocks then (rdNums blocks n (le (l.take 4)+1) (l.drop 4)).map (λx=>(le (l.take 4) :: x.1,x.2)) else none
def rdCons:List Nat->List Int->Option (CM×List Int)
 | [],l=>some ([],l)
 |k :: ks,l=>if l.length<512 then none else (rdCons ks (l.drop 512)).map (λx=>((k,l.take 512) :: x.1,x.2))
def rdTail:Option (CM×List Int)->Option CM
 |some (cs, [])=>some cs
 |_=>none
def rdRec (blocks:Nat) (d:List Int):Option CM:=
 if d.length<2 then none else if 1<=le (d.take 2)/\le (d.take 2)<=16 then
  match rdNums blocks (le (d.take 2)) 0 (d.drop 2) with
  |none=>none
  |some (ks,r)=>rdTail (rdCons ks r)
 else none
theorem lU {blocks:Nat}:∀{n c:Nat} {l r:List Int} {ks:List Nat},rdNums blocks n c l=some (ks,r)->ks.length=n/\∀k∈ks,k<blocks
 |0,c,l,r,ks,h=>by
  simp only [rdNums,Option.some.injEq,Prod.mk.injEq] at h;obtain⟨rfl,_⟩:=h;simp
 |n+1,c,l,r,ks,h=>by
  unfold rdNums at h;split at h
  .cases h
  .split at h
   .rename_i f;cases b:rdNums blocks n (le (l.take 4)+1) (l.drop 4) with
    |none=>rw [b] at h;cases h
    |some x=>
     rw [b] at h;simp only [Option.map_some,Option.some.injEq,Prod.mk.injEq] at h;obtain⟨rfl,rfl⟩:=h;obtain⟨d,e⟩:=lU (ks:=x.1) (r:=x.2) b;refine⟨by simp [d],λk a=>?_⟩;rcases List.mem_cons.1 a with rfl|a
     .exact f.2
     .exact e k a
   .cases h
def nN (w:World) (g iN:Nat) (ks:List Nat):Prop:=∃xs:List Value,w.heap[g]? =some (.cells xs.toArray 3 (0,0))/\xs.length=iN/\xs.take ks.length=yr ks/\ks.length<=iN
theorem nN.agree (h:nN w g iN ks) (c:w'.heap[g]? =w.heap[g]?):nN w' g iN ks:=by
 obtain⟨xs,a,b⟩:=h;exact⟨xs,c.trans a,b⟩
theorem nN.lt (h:nN w g iN ks):g<w.heap.size:=by
 obtain⟨xs,a,_⟩:=h;exact aw a
theorem nN.there (h:nN w g iN ks) (c:j<iN):(∃u,w.cell? (aD g j)=some u)/\w.frozen? (aD g j)=false:=by
 obtain⟨xs,a,b,_⟩:=h;exact⟨⟨xs[j]'(by omega),aj a (by simp [b,c])⟩,ae a j⟩
theorem nN.cell (h:nN w g iN ks) (b:j<ks.length):w.cell? (aD g j)=some (iV (ks[j]:Int)):=by
 obtain⟨xs,c,e,d,f⟩:=h;refine aj c ?_;have a:(xs.take ks.length)[j]? =some (iV (ks[j]:Int)):=by rw [d];simp [yr,List.getElem?_eq_getElem b]
 rw [List.getElem?_take,aE b] at a;simpa using a
theorem nN.put (h:nN w g iN ks) (i:ks.length<iN) (b:Nat):nN (w.setCell ⟨g,ks.length,none⟩ (.int .i64 (b:Int))) g iN (ks ++ [b]):=by
 obtain⟨xs,a,c,d,f⟩:=h;refine⟨xs.set ks.length (iV (b:Int)),?_,by rw [List.length_set];exact c,?_,by simp;omega⟩
 .rw [heap_setCell_same _ _ _ _ _ _ a];simp
 .rw [dT,List.length_singleton,yr,List.map_append];have e:xs.set ks.length (iV (b:Int))=xs.take ks.length ++ iV (b:Int) :: xs.drop (ks.length+1):=by
   rw [List.set_eq_take_append_cons_drop,aE (by omega)]
  rw [e,d];have:(yr ks).length=ks.length:=by simp [yr]
  rw [List.take_append,this,nh (by omega)];simp
theorem nN.made {base:Nat} (h:w.ownsRow base 3 1 (.slice (some (aD g 0)) iN iN) iN (madeCells #[Value.int .i64 0] iN).toList):nN w g iN []:=by
 obtain⟨f,c,e,_,d,i⟩:=ay.eW h (by simp);cases e;obtain⟨cur,a,b,_⟩:=d;exact⟨cur.toList,by simpa using a,by simpa using b,rfl,dU _⟩
theorem Ph.mono {d:Nat->Prop} {b:Nat} {G:Nat->Prop} (h:Ph d w b l) (f:aa G w w') (CA:¬G b) (k:∀x,d x->¬G x):Ph d w' b l:=by
 obtain⟨a,n,c,h0,o,g,i,j,e⟩:=h;exact⟨a,n,c,(f.block b (aw h0) CA).trans h0,o.nB f (λy p m=>k _ (e y p m).2),g,i,j,e⟩
theorem SA {S:Nat} (h:i<S) (a:i<k):S-k<S-i:=by omega
theorem kJ (blocks n a:Nat) (l:List Int):rdNums blocks (n+1) a l=if l.length<4 then none else if a<=le (l.take 4)/\le (l.take 4)<blocks then (rdNums blocks n (le (l.take 4)+1) (l.drop 4)).map (λx=>(le (l.take 4) :: x.1,x.2)) else none:=rfl
theorem nN.putAt (h:nN w g iN ks) (a:ks.length=i) (c:i<iN) (b:Nat):nN (w.setCell ⟨g,i,none⟩ (.int .i64 (b:Int))) g iN (ks ++ [b]):=by
 subst a;exact h.put c b
theorem iw (k:Nat) (ks:List Nat) (l:List Int):rdCons (k :: ks) l=if l.length<512 then none else (rdCons ks (l.drop 512)).map (λx=>((k,l.take 512) :: x.1,x.2)):=rfl
theorem Ow (ms cs:CM) (k:Nat) (c:List Int):CM.bX ms (cs ++ [(k,c)])=CM.put (CM.bX ms cs) k c:=by
 unfold CM.bX;rw [List.foldl_append];rfl
theorem Ox {m:Nat} {ms:CM} (h:Ch w m ms) (a:Option Addr) (n c:Nat) (d:List Int) (hs:Src w a n d) (hd:Bytes d) (hn:n<=1000000) (XA:n<=c) (mY:c<=9223372036854775807) (ham:∀x,a=some x->0<n->x.block≠m) (blocks:Nat) (kv:blocks<=2048):
  Calls prog 110 #[.map (some m), .slice a n c,iV (blocks:Int)] w λe w'=>aa (λk=>k=m) w w'/\((∃cs,rdRec blocks d=some cs/\e= .returned (.tuple #[])/\Ch w' m (CM.bX ms cs))\/(rdRec blocks d=none/\e= .panicked CF)):=by
 have AY:=h.lt;obtain⟨Q,I⟩:∃Q:Nat->Prop,Q=λx=>x≠m/\x<w.heap.size:=⟨_,rfl⟩;obtain⟨w0,J4⟩:=bQ (w.alloc (.cells #[.slice a n c] 192));have fo:bW w w0:=by rw [J4];exact aI _ _
 have gv:w0.heap.size=w.heap.size+1:=by rw [J4,World.size_alloc]
 have Pa:Ph Q w0 w.heap.size d:=by
  refine⟨a,n,c,?_,hs.later fo,XA,mY,hn,λx L hp=>?_⟩
  .rw [J4];exact heap_alloc_new _ _
  .have y:=hs.old x L hp;rw [I];exact⟨by omega,ham x L hp,y⟩
 have sX:=hs.1;obtain⟨R,g⟩:=bQ (rdRec blocks d);rw [<-g];obtain⟨HM,T⟩:=bL (aF h AY) I;clear I;clear hs ham h XA mY;by_cases k1:d.length<2
 .have y:=zE Pa 2 k1 (by omega);obtain⟨E,HB⟩:=bL (by rw [g];unfold rdRec;rw [aE k1]:R=none) fo;subst J4;clear Pa fo g k1;go_in;go_wp2_with fail;refine bE y λw1 r=>?_;have ez:=r.symm;subst ez;exact⟨rfl,aa.ah _ HB.o, .inr ⟨E.o,rfl⟩⟩
 .have y:=zG Pa hd 2 (by omega) (by omega) (by omega);unfold rdRec at g;rw [aA k1] at g;obtain⟨iN,NZ⟩:=bQ (le (d.take 2));have aeq:iN<65536:=by
   rw [NZ];have:=lg (hd.take 2);have e:(d.take 2).length=2:=(by simp;omega);rw [e] at this;exact this
  rw [<-NZ] at y g;have HB:=yh fo;subst J4;clear Pa fo k1 NZ;by_cases k2:1<=iN/\iN<=16
  .rw [aE k2] at g;have E:=yh g;clear g;have k21:(1:Int)<=(iN:Int):=(by omega);have k22:(iN:Int)<=16:=(by omega);go_in;go_wp2_with fail;refine fk y λw1 lG eH=>?_;have aq:=HB.o.trans (eH.below (λk e=>by omega) (by omega));have dr:=eH.size;rw [gv] at dr;have hm:=xH w1;obtain⟨i0,hi,aer,aes,aet⟩:=info_parts Dh;clear y eH;go_wp2_with (first|(go_at_call 157;refine hm.mono ?_;rintro e wy ⟨rfl,rH⟩;have mP:=rH.symm;subst mP;clear rH)|(at_make;refine wpList_make_full _ rfl _ _ 23 rfl w1.heap.size 3 i0 (iV 0) 1 underlying23 hi aer aes _ _ _ _ iN rfl rfl ?c1 ?c2 ?c3 ?c4 ?c5 ?_));case c1=>rfl
   case c2=>rfl
   case c3=>rw [aet];omega
   case c4=>unfold maxLen;omega
   case c5=>exact bP _
   intro w2 az aO;have aY:=nN.made az;have aW:=(bi _ w1).grown aO (bP _) (by intro k hk;cases hk);have fb:=lG.mono (G:=λ_=>False) (aa.ah _ aW) (λh=>h) (λ_ _ h=>h);have dE:=yh (aF (aq.trans (aW.mono (by omega))) (aF aY fb));clear az aO aY aW fb lG aq hi aer aes aet;go_wp2;go_loopw [9,28] (λav M wr=>∃(i lo:Nat) (A:Int) (ks:List Nat) (l:List Int),M=iV i/\av=iV A/\A=(lo:Int)-1/\lo<=2048/\i<=iN/\ks.length=i/\Ph Q wr w.heap.size l/\Bytes l/\nN wr w1.heap.size iN ks/\bW w wr/\rdNums blocks iN 0 (d.drop 2)=(rdNums blocks (iN-i) lo l).map (λx=>(ks ++ x.1,x.2))) (λ_ M _=>iN-(intOf M).toNat);case atStart=>exact⟨0,0,-1, [],d.drop 2,rfl,rfl,by omega,by omega,by omega,rfl,dE.o.2.2,hd.drop 2,dE.o.2.1,dE.o.1,by simp⟩
   case round=>
    obtain⟨i,lo,A,ks,l,rfl,rfl,z,ox,hi,mb,K,SB,aY,H,dP⟩:=hrel;have HA:=yh z;by_cases bm:i<iN
    .have cw:(i:Int)<(iN:Int):=(by omega);obtain⟨j,hj⟩:∃j,iN-i=j+1:=⟨iN-i-1,by omega⟩;rw [hj] at dP;by_cases k4:l.length<4
     .have P:=zE K 4 k4 (by omega);obtain⟨f,u⟩:=bL (by rw [E.o,dP,kJ,aE k4];rfl:R=none) H;clear K aY H dP z;go_wp2_with fail;refine bE P λs r=>?_;have ez:=r.symm;subst ez;exact⟨rfl,aa.ah _ u.o, .inr ⟨f.o,rfl⟩⟩
     .have P:=zG K SB 4 (by omega) (by omega) (by omega);rw [kJ,aA k4] at dP;have J:=aY.lt;generalize le (l.take 4)=b at*;by_cases kb:lo<=b/\b<blocks
      .rw [aE kb] at dP;have N:A<(b:Int):=(by omega);have XY:rdNums blocks iN 0 (d.drop 2)=(rdNums blocks (iN-(i+1)) (b+1) (l.drop 4)).map (λx=>((ks ++ [b]) ++ x.1,x.2)):=by
        rw [dP,Option.map_map,show iN-(i+1)=j by omega];congr 1
        funext x
        simp
       have f:=yh (aF XY (aF H (aF aY (SB.drop 4))));clear K aY H dP XY z;go_wp2_with fail;refine fk P λs sV aV=>?_;have ml:=f.o.2.2.1.agree (aV.block _ J (by omega));obtain⟨⟨u0,q0⟩,q1⟩:=ml.there (j:=i) bm;have bz:=f.o.2.1.trans (aV.below (λk e=>by omega) f.o.2.1.size);have GJ:=ml.putAt mb bm b;have eF:=aa.setCell (F:=λk=>k=w1.heap.size) s (p:=(aD w1.heap.size i)) rfl (iV (b:Int));have ub:=sV.mono eF (by omega) (λx L e=>by rw [T.o] at L;omega);have fe:=bz.trans (eF.below (λk e=>by omega) bz.size);have HP:=yh (aF GJ (aF ub fe));clear P sV aV ml bz GJ eF ub fe;go_wp2_with fail;refine(xH s).mono ?_;rintro e wy ⟨rfl,rH⟩;have mP:=rH.symm;subst mP;have X:=yh (aF mb (aF kb kv));clear rH hj mb kb N k4 sX hd hn kv aeq k2 AY;go_wp2;go_roundw;case rel=>exact⟨i+1,b+1,_,ks ++ [b],l.drop 4,by go_num,rfl,by omega,by have:=X.o.2;omega,by omega,by rw [dT,X.o.1];rfl,HP.o.2.1,f.o.2.2.2,HP.o.1,HP.o.2.2,f.o.1⟩
       case measure=>exact SA (S:=iN) (i:=i) (k:=i+1) bm (by omega)
      .rw [aA kb] at dP;obtain⟨f,u⟩:=bL (by rw [E.o,dP];rfl:R=none) H;have O:(¬A<(b:Int))\/(A<(b:Int)/\decide (b<blocks)=false):=by
        rw [decide_eq_false_iff_not];omega
       clear K aY H dP z;rcases O with N|⟨N,kb2⟩;all_goals
        go_wp2_with fail;refine fk P λs sV aV=>?_;have bz:=u.o.trans (aV.below (λk e=>by omega) u.o.size);clear P sV aV;go_wp2_with fail;refine(xI s).mono ?_;rintro e w4 ⟨rfl,r⟩;have ez:=r.symm;subst ez;exact⟨rfl,aa.ah _ bz, .inr ⟨f.o,rfl⟩⟩
    .have cw:¬(i:Int)<(iN:Int):=(by omega);obtain rfl:i=iN:=(by omega);rw [Nat.sub_self] at dP;simp only [rdNums,Option.map_some,List.append_nil] at dP;have oZ:=(lU dP).2;have Z:R=rdTail (rdCons ks l):=(by rw [E.o,dP]);have J:=aY.lt;subst mb;obtain⟨tU,v⟩:=bL Z (aF K (aF SB (aF aY (aF H oZ))));clear K SB aY H oZ dP Z HA z E;obtain⟨W,hW⟩:=bQ wr;subst hW;go_wp2;go_loopw [49] (λM wx=>∃(i:Nat) (q:List Int) (cs:CM),M=iV i/\i<=ks.length/\Ph Q wx w.heap.size q/\Bytes q/\nN wx w1.heap.size ks.length ks/\Ch wx m (CM.bX ms cs)/\aa (λk=>k=m) w wx/\rdCons ks l=(rdCons (ks.drop i) q).map (λx=>(cs ++ x.1,x.2))) (λM _=>ks.length-(intOf M).toNat);case atStart=>exact⟨0,l, [],rfl,dU _,v.o.1,v.o.2.1,v.o.2.2.1,HM.o.1.later (v.o.2.2.2.1.mono (bP _)),aa.ah _ v.o.2.2.2.1,by simp⟩
     case round=>
      obtain⟨i,q,cs,rfl,Dm,fb,aeu,lL,nc,fP,mC⟩:=hrel;have Bc:=yh (aF fb (aF aeu (aF lL (aF nc (aF fP mC)))));clear fb aeu lL nc fP mC;by_cases oS:i<ks.length
      .have aev:(i:Int)<(ks.length:Int):=(by omega);have oZ:=v.o.2.2.2.2 _ (List.getElem_mem oS);have c0:=Bc.o.2.2.1.cell oS;have mC:=Bc.o.2.2.2.2.2;rw [List.drop_eq_getElem_cons oS,iw] at mC;generalize ks[i]=k at*;by_cases k5:q.length<512
       .have Y:=GA Bc.o.1 512 k5 (by omega);obtain⟨f,U⟩:=bL (by rw [tU.o,mC,aE k5];rfl:R=none) Bc.o.2.2.2.2.1;clear mC Bc v;go_wp2_with fail;refine bE Y λs r=>?_;have ez:=r.symm;subst ez;exact⟨rfl,U.o, .inr ⟨f.o,rfl⟩⟩
       .have Y:=Gz Bc.o.1 512 (by omega) (by omega);rw [aA k5,Option.map_map] at mC;have SC:rdCons ks l=(rdCons (ks.drop (i+1)) (q.drop 512)).map (λx=>((cs ++ [(k,q.take 512)]) ++ x.1,x.2)):=by
         rw [mC];congr 1
         funext x
         simp
        have D:(q.take 512).length=512:=(by rw [List.length_take];omega);have YD:=Bc.o.2.1.take 512;have HC:=yh (aF SC (Bc.o.2.1.drop 512));have aU:=eJ D;obtain⟨C,hC⟩:=bQ (q.take 512);rw [<-hC] at D YD aU HC Y;obtain⟨A,z⟩:=bQ (bs C);rw [<-z] at aU;have HA:=yh z;clear mC SC z hC v;go_wp2_with fail;refine Y.mono ?_;rintro e s ⟨b,o,c',rfl,fJ,dO,sV,aV⟩;have hmr:¬m=w.heap.size:=(by omega);obtain⟨wU,bC,aew,zR,NV⟩:=(Bc.o.2.2.2.1.au aV hmr).store k (by omega) C D YD;have A6:s.rangeAt b o A:=(by rw [HA.o];exact lF fJ);have RH:(Instr.mapUpdate 93 (.map (some m)) (iV (k:Int)) (.agg A.toArray)).run prog s= .ok () wU:=(by rw [HA.o];exact bC);have hrU:=sV.mono zR (by omega) (λx L e=>by rw [T.o] at L;exact L.1 e);have aah:=Bc.o.2.2.1.lt;have XZ:=(Bc.o.2.2.1.agree (aV.block _ aah (by omega))).agree (zR.block _ (iP aah aV.size) (by omega));have aex:=(Bc.o.2.2.2.2.1.trans aV (λj e=> .inr (by omega))).trans zR (λ_ h=> .inl h);have HU:=yh (aF hrU (aF XZ (aF aew aex)));clear Y fJ dO sV aV bC aew zR NV hrU XZ aex Bc oZ J aah k5 D YD hmr sX hd hn kv aeq k2;have hac:=zH;go_wp2_with (refine wpList_load_mid rfl 101 _ rfl b o rfl A _ A6 underlying101 rfl aU ?_);go_roundw;case rel=>exact⟨i+1,q.drop 512,cs ++ [(k,C)],by go_num,by omega,HU.o.1,HC.o.2,HU.o.2.1,by rw [Ow];exact HU.o.2.2.1,HU.o.2.2.2,HC.o.1⟩
        case measure=>exact SA (S:=ks.length) (i:=i) (k:=i+1) oS (by omega)
      .have aev:¬(i:Int)<(ks.length:Int):=(by omega);have mC:=Bc.o.2.2.2.2.2;rw [List.drop_eq_nil_of_le (by omega)] at mC;simp only [rdCons,Option.map_some,List.append_nil] at mC;obtain⟨a',n',c',h0,hs',_⟩:=Bc.o.1;obtain⟨MS,q0,U,YW⟩:=cM hs'.1 (aL h0) (yh (aF Bc.o.2.2.2.2.1 Bc.o.2.2.2.1)) tU.o;rw [mC] at YW;clear hs' h0 Bc v mC tU;by_cases k6:n'=0
       .have d6:(((n':Nat):Int) == 0)=true:=(by rw [k6];rfl);obtain rfl:q= []:=List.eq_nil_of_length_eq_zero (by omega);have f:=yh (show R=some cs from YW);have AZ:=xH wr;clear YW k6 MS;go_wp2_with (go_at_call 157;refine AZ.mono ?_;rintro e wy ⟨rfl,rH⟩;have mP:=rH.symm;subst mP;clear rH)
        go_end0
        exact⟨U.o.1, .inl ⟨cs,f.o,rfl,U.o.2⟩⟩
       .have d6:(((n':Nat):Int) == 0)=false:=by
         rw [eG];omega
        have f:Yh (R=none):=by
         cases q with
         |nil=>simp at MS;omega
         |cons x t=>exact YW
        clear YW k6 MS;go_wp2_with fail;refine(xI wr).mono ?_;rintro e s ⟨rfl,r⟩;have ez:=r.symm;subst ez;exact⟨rfl,U.o.1, .inr ⟨f.o,rfl⟩⟩
  .rw [aA k2] at g;have E:=yh g;clear g;have O:(¬(1:Int)<=(iN:Int))\/((1:Int)<=(iN:Int)/\decide ((iN:Int)<=16)=false):=by
    rw [decide_eq_false_iff_not];omega
   rcases O with k21|⟨k21,k22⟩;all_goals
    go_in;go_wp2_with fail;refine fk y λw1 lG eH=>?_;have aq:=HB.o.trans (eH.below (λk e=>by omega) (by omega));clear y eH lG;go_wp2_with fail;refine(xI w1).mono ?_;rintro e w2 ⟨rfl,r⟩;have ez:=r.symm;subst ez;exact⟨rfl,aa.ah _ aq, .inr ⟨E.o,rfl⟩⟩
end Go.Proofs.YtenlkgicpllbhaaGreat
