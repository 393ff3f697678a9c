import Derived.Test.YtcpdggdfihjhoaaGreatV01
import Derived.Test.YtcpdggdfihjhoaaGreatV03
import Derived.Scope
import Derived.WalkMore
import Derived.Deep.RegionLaw
import Derived.BigRegion
set_option maxRecDepth 20000
set_option maxHeartbeats 8000000
set_option linter.all false
namespace Go.Proofs.YtcpdggdfihjhoaaGreat
open Go.Proofs.Tryz
open Go.RowKit Go.Maps
variable {cur:Array Value} {S:DS} {x:Int} {L:LG} {rs:List (List Int)} {ps:List (Nat×List Int)} {d im l:List Int} {ks:List Nat} {ls vs xs ys:List Value} {E N P a base c cR cJ cg cl f g g2 gl hd i j k n p q s size:Nat} {R:Nat->PC} {F G Z:Nat->Prop} {e e':TypeId} {v:Value} {W W' w w' w0 w1 w2 w5:World}
section
open Go.RowKit Go.Shelf
attribute [local go_sem] Oper.semAt_some
def NV {B:Nat} (h:ij w B g n n R):∃(A:Nat->Option Addr) (C:Nat->Nat),∀i,i<n->w.rangeAt g (i*5) (eS ((R i).e:Int) ((R i).p:Int) ((R i).i:Int) ((R i).c:Int) (A i) (R i).d.length (C i)).toList/\Src w (A i) (R i).d.length (R i).d:=by
 have b:=λi (a:i<n)=>(h.2 i a).range;refine⟨λi=>if a:i<n then Classical.choose (b i a) else none,λi=>if a:i<n then Classical.choose (Classical.choose_spec (b i a)) else 0,λi a=>?_⟩;simp only [a,dite_true];have:=Classical.choose_spec (Classical.choose_spec (b i a));exact⟨this.1,this.2.1⟩
def NW (w:World) (a b c d f g:Obj):((((((w.alloc a).alloc b).alloc c).alloc d).alloc f).alloc g).heap[w.heap.size]? =some a/\((((((w.alloc a).alloc b).alloc c).alloc d).alloc f).alloc g).heap[w.heap.size+1]? =some b/\((((((w.alloc a).alloc b).alloc c).alloc d).alloc f).alloc g).heap[w.heap.size+2]? =some c/\
    ((((((w.alloc a).alloc b).alloc c).alloc d).alloc f).alloc g).heap[w.heap.size+3]? =some d/\((((((w.alloc a).alloc b).alloc c).alloc d).alloc f).alloc g).heap[w.heap.size+1+1+1+1]? =some f/\((((((w.alloc a).alloc b).alloc c).alloc d).alloc f).alloc g).heap[w.heap.size+1+1+1+1+1]? =some g:=by
 have e:((((((w.alloc a).alloc b).alloc c).alloc d).alloc f).alloc g).heap=(((((w.heap.push a).push b).push c).push d).push f).push g:=rfl;rw [e];refine⟨?_,?_,?_,?_,?_,?_⟩
 .rw [Array.getElem?_push,aB (by simp;omega),Array.getElem?_push,aB (by simp;omega),Array.getElem?_push,aB (by simp;omega),Array.getElem?_push,aB (by simp;omega),Array.getElem?_push,aB (by simp),Array.getElem?_push,aG rfl]
 .rw [Array.getElem?_push,aB (by simp),Array.getElem?_push,aB (by simp),Array.getElem?_push,aB (by simp),Array.getElem?_push,aB (by simp),Array.getElem?_push,aG (by simp)]
 .rw [Array.getElem?_push,aB (by simp),Array.getElem?_push,aB (by simp),Array.getElem?_push,aB (by simp),Array.getElem?_push,aG (by simp)]
 .rw [Array.getElem?_push,aB (by simp),Array.getElem?_push,aB (by simp),Array.getElem?_push,aG (by simp)]
 .rw [Array.getElem?_push,aB (by simp),Array.getElem?_push,aG (by simp)]
 .rw [Array.getElem?_push,aG (by simp)]
def ug.split {xs:List (Fin n)} {x:Fin n} (h:ug (xs ++ [x]) (k+1)):xs.map Fin.val=List.range k/\x.1=k:=by
 unfold ug at h;rw [List.map_append,List.range_succ] at h;obtain⟨a,b⟩:=List.append_inj' h rfl;exact⟨a,by simpa using b⟩
def MC (w w':World) (R:Nat->PC) (E T n:Nat) (e:Ending):Prop:=∃v h rs,e= .returned (.tuple #[v, .int .i64 ((h:Nat):Int)])/\dR w' w.heap.size v rs (λ_=>False)/\dF (Rp R n) E T rs h/\(∀c d,¬Rec (Rp R n) E h c d)/\Below w.heap.size w w'
def GC {B D T:Nat} {X:Nat->Prop} {f:List Deferred} (h:dR W B v rs X) (j:w.heap.size<=B) (a:Below w.heap.size w W) (g:W.heap[D]? =some (.deferred (some f))) (l:w.heap.size<=D) (i:dF (Rp R n) E T rs hd/\∀c d,¬Rec (Rp R n) E hd c d):
  MC w (W.drew.putObj D (.deferred none)) R E T n (.returned (.tuple #[v, .int .i64 ((hd:Nat):Int)])):=by
 have k:kD W (W.drew.putObj D (.deferred none)):=λb cur t m a=>by
  have dM:b≠D:=λe=>by rw [e,g] at a;cases a
  exact(World.putObj_heap_other dM).trans a
 refine⟨v,hd,rs,rfl,(h.cells k).low j (λ_ h=>h.elim),i.1,i.2,?_⟩;exact(ai a).trans (belowK_b (w:=w) (bR _) W.drew D (.deferred (some f)) (.deferred none) l g rfl rfl)
def rb {B:Nat} {f:List Int} (aA:Own W B v f) {a:Option Addr} (c:Nat) (i:Src W a n d) (hd:0<n) (l:f.length+n<=1000000) (s:B<=W.heap.size):
  ∃g e w',(Builtin.append_ #[36,36] 36 #[v, .slice a n c]).run prog W= .ok (.slice (some ⟨g,0,none⟩) (f.length+d.length) e) w'/\w'.ownsRow B 5 1 (.slice (some ⟨g,0,none⟩) (f.length+d.length) e) (f.length+d.length) (bs f ++ bs d)/\W.grownBy w' v.ownBlock/\(v.ownBlock=some g\/g=W.heap.size):=by
 obtain⟨x,t,gC,dE,em⟩:=info_parts gq;obtain⟨b,o,rfl⟩:=cZ i hd;have k:=i.1;obtain⟨g,e,w',m,p,q,r,_⟩:=run_append_lies (P:=prog) W 36 36 B 5 x (.int .u8 0) 1 1 underlying36 t gC dE em rfl (by decide) v f.length (bs f) aA ⟨b,o,none⟩ n c (bs d) (by simp [bs,k]) (λj u w=>by
   obtain⟨Zt,rfl⟩:=fA w;exact i.2.2 _ rfl j (by omega)) (cF d) hd (by unfold maxLen;omega) (by omega) s W.heap.size rfl
 rw [k];exact⟨g,e,w',m,p,q,r⟩
def MD {B:Nat} (be:W.ownsRow B 36 1 v k vs) (x:Value) (j:x.oneCell'=true) (n:k<=1000000) (m:B<=W.heap.size):
  ∃g a w',(Builtin.append_ #[62,62] 62 #[v, .slice (some ⟨W.heap.size,0,none⟩) 1 1]).run prog (W.alloc (.cells #[x] 36))= .ok (.slice (some ⟨g,0,none⟩) (k+1) a) w'/\w'.ownsRow B 36 1 (.slice (some ⟨g,0,none⟩) (k+1) a) (k+1) (vs ++ [x])/\(W.alloc (.cells #[x] 36)).grownBy w' v.ownBlock:=by
 obtain⟨l,i,gC,dE,em⟩:=info_parts tI;obtain⟨g,a,w',b,c,d,_,_⟩:=run_append_lies (P:=prog) (W.alloc (.cells #[x] 36)) 62 62 B 36 l (.slice none 0 0) 1 24 underlying62 i gC dE em rfl (by decide) v k vs (dS be (λg f=>by
   obtain⟨cur,e⟩:=bB be f;exact Below.heap_alloc _ _ _ (aq e))) ⟨W.heap.size,0,none⟩ 1 1 [x] rfl (World.news_of_block (cs:= #[x]) (t:=36) (fr:=(0,0)) (heap_alloc_new W _)) (by simpa using j) (by omega) (by unfold maxLen;omega) (by omega) (by simp;omega) _ rfl
 exact⟨g,a,w',b,c,d⟩
def X1 (R:Nat->PC) (E T n x:Nat) (st:SS) (y Bx:Nat) (a:Option Addr) (k:Nat) (vR vr:Value) (w W:World) (e:Ending) (W2:World):Prop:=
 ∃(b:Bool) (c:Nat),e= .returned (.bool b)/\b=st.ue R E T n x/\c=st.due R T n x/\jy W2 w.heap.size (w.heap.size+6) E {st with ps:=T+x,j:=st.j,c:=c} vR vr/\iE w.heap.size w W W2/\W2.heap[Bx]? =some (.cells (eS ((R y).e:Int) ((R y).p:Int) ((R y).i:Int) ((R y).c:Int) a (R y).d.length k) 230 (0,0))
def CX {F:Fence} {P:Program} {c:Code} {K:Act->World->Prop} {Q:Exit->Act->World->Prop} {a:Act} (h:c.wpIn F n P (Exit.then K (λ_ _ _=>False)) a w):c.wpIn F n P (Exit.then K Q) a w:=
 wpIn_mono h (λe a w h=>by cases e <;> first|exact h|exact h.elim)
def zK {row:Option Nat} (h:Below w.heap.size w W) (a:W.grownBy W' row) (b:∀r,row=some r->w.heap.size<=r):Below w.heap.size w W':=h.grown a h.size (λk e=>b k e)
def qf {row:Option Nat} {t c:TypeId} (g:W.grownBy W' row) (i:∀r,row=some r->∃cur,W.heap[r]? =some (.cells cur t (0,0))) {b:Nat} {a:Array Value} {d:Nat×Nat} (h:W.heap[b]? =some (.cells a c d)) (dM:t≠c):W'.heap[b]? =some (.cells a c d):=
   (g.block b (aq h) (λe=>by
  obtain⟨cur,f⟩:=i b e.symm;exact uh f h dM)).trans h
set_option maxRecDepth 100000 in
def Rw (g n E T:Nat) (R:Nat->PC) (w:World) (B:Nat) (hr:ij w B g n n R) (iu:1<=n) (hn:n<=256) (hT:T<=1073741824) (_hE:E<=1073741824) (UM:∀i,(R i).d.length<=492) (GD:∀i,(R i).c<=65536):
  Calls prog 156 #[.slice (some ⟨g,0,none⟩) n n, .int .i64 (E:Int), .int .i64 (T:Int)] w λe w'=>MC w w' R E T n e:=by
 refine(callsIn_wide (n:=6)).1 ?_;refine callsIn_of_wp_marks func156 rfl trivial ?_ rfl;simp only [ntmps156,List.size_toArray,List.length_cons,List.length_nil,Nat.reduceAdd,Nat.reduceSub,Array.replicate_succ,Array.replicate_zero,List.push_toArray,List.append_toArray,List.nil_append,List.cons_append]
 gi_wp2
 refine(wpIn_wide (n:=6)).2 (wp_scope_straight ((wpIn_wide (n:=6)).1 ?_))
 gi_wp2
 refine wpIn_label ?_
 gi_wp2_with (refine⟨trivial,?_⟩;gi_at_call 193;refine(callsIn_wide.2 (Us g n T _)).mono ?_;rintro e w' ⟨rfl,rfl⟩)
 obtain⟨U,Kn⟩:∃U,((((((w.alloc (.cells #[.slice none 0 0] 62)).alloc (.cells #[.slice none 0 0] 36)).alloc (.cells #[.int .i64 (T:Int)] 3)).alloc (.cells #[.int .i64 (E:Int), .int .i64 0, .int .i64 0, .int .i64 0] 228)).alloc (.cells #[.slice (some ⟨g,0,none⟩) n n] 187)).alloc (.cells #[.int .i64 (T:Int)] 3))=U:=⟨_,rfl⟩;rw [Kn];have eM:U.heap.size=w.heap.size+6:=by rw [<-Kn];simp
 have fR:Below w.heap.size w U:=by rw [<-Kn];exact((((((bi _ w).alloc (bR _) _).alloc (by simp) _).alloc (by simp;omega) _).alloc (by simp;omega) _).alloc (by simp;omega) _).alloc (by simp;omega) _
 have ir:jy U w.heap.size (w.heap.size+6) E (SS.start T) (.slice none 0 0) (.slice none 0 0)/\U.heap[w.heap.size+1+1+1+1]? =some (.cells #[.slice (some ⟨g,0,none⟩) n n] 187 (0,0))/\U.heap[w.heap.size+1+1+1+1+1]? =some (.cells #[.int .i64 (T:Int)] 3 (0,0)):=by
  rw [<-Kn];obtain⟨s1,s2,s3,s4,s5,s6⟩:=NW w (.cells #[.slice none 0 0] 62) (.cells #[.slice none 0 0] 36) (.cells #[.int .i64 (T:Int)] 3) (.cells #[.int .i64 (E:Int), .int .i64 0, .int .i64 0, .int .i64 0] 228) (.cells #[.slice (some ⟨g,0,none⟩) n n] 187) (.cells #[.int .i64 (T:Int)] 3);exact⟨⟨s1,s2,s3,s4,dR.nil _ _ _,Own.nil _ _,bR _⟩,s5,s6⟩
 obtain⟨A,C,hAC⟩:=NV hr;clear Kn;refine wpIn_rangeFunc_ownH rfl (by omega) (gf:=227) (lb:= #[.pointer (some ⟨w.heap.size+1+1+1+1,0,none⟩), .pointer (some ⟨w.heap.size+1+1+1+1+1,0,none⟩)]) rfl trivial (enters_of func227 (by kernel_rfl) rfl)
    (L9 (6-1) (by omega) (w.heap.size+1+1+1+1) (w.heap.size+1+1+1+1+1) w.heap.size g n T R A C iu hn hT U (by omega) ir.2.1 ir.2.2 ⟨hr.lt,λi O j v hv=>(fR.cell (p:=⟨g,i*5+j,none⟩) hr.lt).trans ((hAC i O).1 j v hv)⟩) Gz.t (Gz.b (by omega) (by omega) (by omega)) (bi _ _) (λ_=>rfl)
    (λu W=>∃a G z,sK R E T n (u.map Fin.val) (SS.start T)=some a/\jy W w.heap.size (w.heap.size+6) E a G z/\Below w.heap.size w W/\w.heap.size+6<=W.heap.size)
    (λc u W=>c= .exit 0/\∃Rx x a ps c' G z,u=Rx ++ [x]/\sK R E T n (Rx.map Fin.val) (SS.start T)=some a/\a.ue R E T n x.1=false/\jy W w.heap.size (w.heap.size+6) E {a with ps:=ps,c:=c'} G z/\Below w.heap.size w W)
  ?hI ?hIx ⟨_,_,_,rfl,ir.1,fR,by omega⟩
    (λx a' W=>∃q,w.heap.size+6<=q/\W.heap[q]? =some (.cells (eS ((R ((T+x.1)%n)).e:Int) ((R ((T+x.1)%n)).p:Int) ((R ((T+x.1)%n)).i:Int) ((R ((T+x.1)%n)).c:Int) (A ((T+x.1)%n)) (R ((T+x.1)%n)).d.length (C ((T+x.1)%n))) 230 (0,0))/\a'={tmps:= #[Value.slice (some ⟨g,0,none⟩) n n, .int .i64 (E:Int), .int .i64 (T:Int),undef,undef,undef, .slice none 0 0, .int .i64 0, .pointer (some ⟨w.heap.size,0,none⟩), .pointer (some ⟨w.heap.size+1,0,none⟩), .pointer (some ⟨w.heap.size+1+1,0,none⟩), .pointer (some ⟨w.heap.size+1+1+1,0,none⟩), .int .i64 ((T:Int)+(x.1:Int)), .pointer (some ⟨q,0,none⟩), .int .i64 (T:Int), .int .i64 (E:Int), .agg #[.int .i64 (E:Int), .int .i64 0, .int .i64 0, .int .i64 0], .slice (some ⟨g,0,none⟩) n n, .int .i64 (T:Int), .func (.func 227) #[] #[.pointer (some ⟨w.heap.size+1+1+1+1,0,none⟩), .pointer (some ⟨w.heap.size+1+1+1+1+1,0,none⟩)], .int .i64 ((T:Int)+(x.1:Int)),lw ((R ((T+x.1)%n)).e:Int) ((R ((T+x.1)%n)).p:Int) ((R ((T+x.1)%n)).i:Int) ((R ((T+x.1)%n)).c:Int) (A ((T+x.1)%n)) (R ((T+x.1)%n)).d.length (C ((T+x.1)%n)),undef,undef,undef,undef,undef,undef,undef,undef,undef,undef,undef,undef,undef,undef,undef,undef,undef,undef,undef,undef,undef,undef,undef,undef,undef,undef,undef,undef,undef,undef,undef,undef,undef,undef,undef,undef,undef,undef],defers:= []}) ?hAx ?assign ?body ?done ?stop
 case hI=>
  rintro s X Y row ⟨a,G,z,H,m,I,J⟩ N be;exact⟨a,G,z,H,m.cells (jh N (λr e=>(be r e).2)),zK I N (λr e=>by have:=(be r e).1;omega),k9 J N.size⟩
 case hIx=>
  rintro c s X Y row ⟨L,Rx,x,a,ps,c',G,z,h0,H,m,I,J⟩ N be;exact⟨L,Rx,x,a,ps,c',G,z,h0,H,m,I.cells (jh N (λr e=>(be r e).2)),zK J N (λr e=>by have:=(be r e).1;omega)⟩
 case hAx=>
  rintro x a' s X Y row ⟨q,H,m,I⟩ N be;exact⟨q,H,jh N (λr e=>(be r e).2) _ _ _ _ m,I⟩
 case assign=>
  rintro l u x W K ⟨a,G,z,H,m,I,J⟩ f;simp only [VQ]
  gi_wp2
  exact f _ _ ((KeepsOthers.alloc _ _).from _) ⟨(bi _ W).alloc (by omega) _,Below.heap_alloc _ _ _ (by omega),Below.heap_alloc _ _ _ (by omega)⟩ ⟨a,G,z,H,m.cells (eB (aJ _ _)),I.trans ((aJ _ _).mono (by omega)),by simp;omega⟩ ⟨W.heap.size,by omega,heap_alloc_new _ _,rfl⟩
 case body=>
  rintro l u x a' W hl ⟨rr,Jl⟩ ⟨a,G,z,H,m,I,J⟩ ⟨q,hBx,NX,rfl⟩ bq;have lG:=zG R E T n UM GD u.length (u.map Fin.val) a (by simp) H;have hx:=x.2;have hyn:(T+x.1)%n<n:=Nat.mod_lt _ iu;obtain⟨y,hy⟩:=bP ((T+x.1)%n);have Jm:a.ue R E T n x.1=Gx (R y) E (T+x.1) a.j (a.due R T n x.1):=by unfold SS.ue;rw [<-hy]
  have VR:a.due R T n x.1=if a.j=0 then (R y).c else a.c:=by unfold SS.due;rw [<-hy]
  have ZK:a.next R T n x.1=if (R y).i+1=(R y).c then ⟨a.rs ++ [a.rc ++ (R y).d], [],T+x.1+1,T+x.1,0,a.due R T n x.1⟩ else ⟨a.rs,a.rc ++ (R y).d,a.hd,T+x.1,a.j+1,a.due R T n x.1⟩:=by unfold SS.next;rw [<-hy]
  rw [<-hy] at hyn NX;simp only [<-hy];have HNx:=yh ZK;have adi:Yh (∀c,c=a.due R T n x.1->a.ue R E T n x.1=Gx (R y) E (T+x.1) a.j c):=λc L=>by rw [L];exact Jm
  have vB:((T+x.1:Nat):Int)=(T:Int)+(x.1:Int):=by omega
  have d1:W.cell? ⟨w.heap.size+1+1+1,1,none⟩=some (.int .i64 (a.ps:Int)):=bG m.d;have d2:W.cell? ⟨w.heap.size+1+1+1,2,none⟩=some (.int .i64 (a.j:Int)):=bM m.d;have d0:W.cell? ⟨w.heap.size+1+1+1,0,none⟩=some (.int .i64 (E:Int)):=aM m.d;have d3:W.cell? ⟨w.heap.size+1+1+1,3,none⟩=some (.int .i64 (a.c:Int)):=fU m.d;have df:∀j,W.frozen? ⟨w.heap.size+1+1+1,j,none⟩=false:=λj=>ae m.d j;have p0:W.cell? ⟨q,0,none⟩=some (.int .i64 ((R y).e:Int)):=aM NX;have p1:W.cell? ⟨q,1,none⟩=some (.int .i64 ((R y).p:Int)):=bG NX;have p2:W.cell? ⟨q,2,none⟩=some (.int .i64 ((R y).i:Int)):=bM NX;have p3:W.cell? ⟨q,3,none⟩=some (.int .i64 ((R y).c:Int)):=fU NX;have p4:W.cell? ⟨q,4,none⟩=some (.slice (A y) (R y).d.length (C y)):=gH NX;have dM:q≠w.heap.size+1+1+1:=by omega
  have HS:=yh eM;by_cases hj:a.j=0
  case' pos=>
   have d2':W.cell? ⟨w.heap.size+1+1+1,2,none⟩=some (.int .i64 0):=(by rw [d2,hj];rfl);clear d2;have Ry:a.due R T n x.1=(R y).c:=(by rw [VR,aG hj]);have bN:jy ((W.setCell ⟨w.heap.size+1+1+1,1,none⟩ (.int .i64 ((T:Int)+(x.1:Int)))).setCell ⟨w.heap.size+1+1+1,3,none⟩ (.int .i64 ((R y).c:Int))) w.heap.size (w.heap.size+6) E {a with ps:=T+x.1,j:=a.j,c:=(R y).c} G z:=m.set ((aL (F:=λk=>k=w.heap.size+3) W rfl 1 _).trans (aL (F:=λk=>k=w.heap.size+3) _ rfl 3 _) (λ_ h=> .inl h)) (T+x.1) a.j (R y).c ((heap_setCell_same _ _ 3 _ _ _ (heap_setCell_same _ _ 1 _ _ _ m.d)).trans (by simp [hj]));have fh:iE w.heap.size w W ((W.setCell ⟨w.heap.size+1+1+1,1,none⟩ (.int .i64 ((T:Int)+(x.1:Int)))).setCell ⟨w.heap.size+1+1+1,3,none⟩ (.int .i64 ((R y).c:Int))):=((iE.start I).set rfl (by omega) (by omega) 1 _).set rfl (by omega) (by omega) 3 _;have pk:(((W.setCell ⟨w.heap.size+1+1+1,1,none⟩ (.int .i64 ((T:Int)+(x.1:Int)))).setCell ⟨w.heap.size+1+1+1,3,none⟩ (.int .i64 ((R y).c:Int)))).heap[q]? =some (.cells (eS ((R y).e:Int) ((R y).p:Int) ((R y).i:Int) ((R y).c:Int) (A y) (R y).d.length (C y)) 230 (0,0)):=b9 (b9 NX (by omega)) (by omega);rw [Ry] at Jm;have X3:=CallsIn.inRound l (callsIn_wide (n:=3).2 ((Rt (R y) (A y) (C y) E (T+x.1) a.j (R y).c ((W.setCell ⟨w.heap.size+1+1+1,1,none⟩ (.int .i64 ((T:Int)+(x.1:Int)))).setCell ⟨w.heap.size+1+1+1,3,none⟩ (.int .i64 ((R y).c:Int)))).mono (λe M h=>show X1 R E T n x.1 a y q (A y) (C y) G z w W e M from ⟨_,_,h.1,Jm.symm,Ry.symm,bN.cells (eB h.2),fh.below rfl J h.2,(h.2.block _ (aq pk)).trans pk⟩)));rw [vB] at X3;rw [show (a.j:Int)=0 by omega] at X3;clear m I NX bN fh pk Jm VR Ry hy hj Jl ZK eM ir fR vB hr
   gi_wp2_with fail
   refine⟨trivial,?_⟩;refine X3.mono ?_;rintro e M ⟨b,c,rfl,Jm,Ry,eV,aY,vj⟩;clear X3
  case' neg=>
   have Bk:((a.j:Int) == 0)=false:=(by rw [fy];omega);have Ry:a.due R T n x.1=a.c:=(by rw [VR,aB hj]);have bN:jy (W.setCell ⟨w.heap.size+1+1+1,1,none⟩ (.int .i64 ((T:Int)+(x.1:Int)))) w.heap.size (w.heap.size+6) E {a with ps:=T+x.1,j:=a.j,c:=a.c} G z:=m.set (aL (F:=λk=>k=w.heap.size+3) W rfl 1 _) (T+x.1) a.j a.c ((heap_setCell_same _ _ 1 _ _ _ m.d).trans (by simp));have fh:iE w.heap.size w W (W.setCell ⟨w.heap.size+1+1+1,1,none⟩ (.int .i64 ((T:Int)+(x.1:Int)))):=(iE.start I).set rfl (by omega) (by omega) 1 _;have pk:((W.setCell ⟨w.heap.size+1+1+1,1,none⟩ (.int .i64 ((T:Int)+(x.1:Int))))).heap[q]? =some (.cells (eS ((R y).e:Int) ((R y).p:Int) ((R y).i:Int) ((R y).c:Int) (A y) (R y).d.length (C y)) 230 (0,0)):=b9 NX (by omega);rw [Ry] at Jm;have X3:=CallsIn.inRound l (callsIn_wide (n:=3).2 ((Rt (R y) (A y) (C y) E (T+x.1) a.j a.c (W.setCell ⟨w.heap.size+1+1+1,1,none⟩ (.int .i64 ((T:Int)+(x.1:Int))))).mono (λe M h=>show X1 R E T n x.1 a y q (A y) (C y) G z w W e M from ⟨_,_,h.1,Jm.symm,Ry.symm,bN.cells (eB h.2),fh.below rfl J h.2,(h.2.block _ (aq pk)).trans pk⟩)));rw [vB] at X3;clear m I NX bN fh pk Jm VR Ry hy hj Jl ZK eM ir fR vB hr
   gi_wp2_with fail
   refine⟨trivial,?_⟩;refine X3.mono ?_;rintro e M ⟨b,c,rfl,Jm,Ry,eV,aY,vj⟩;clear X3
  all_goals
   obtain⟨dZ,ii,P,HGo,HDc⟩:=Ve eV aY vj Jm Ry;have q0:M.cell? ⟨q,0,none⟩=some (.int .i64 ((R y).e:Int)):=aM vj;have q1:M.cell? ⟨q,1,none⟩=some (.int .i64 ((R y).p:Int)):=bG vj;have q2:M.cell? ⟨q,2,none⟩=some (.int .i64 ((R y).i:Int)):=bM vj;have q3:M.cell? ⟨q,3,none⟩=some (.int .i64 ((R y).c:Int)):=fU vj;clear eV aY vj Jm Ry d0 d1 d3 df p0 p1 p2 p3 p4;cases b
   .gi_wp2
    exact⟨HS.o▸ii.o.k,rfl,u,x,a,T+x.1,c,G,z,rfl,H,HGo.o.symm,dZ.o,ii.o.b⟩
   .have hq:=Ei.1 (HGo.o.trans (adi.o c HDc.o)).symm;have xC:=hq.1.2.2.2.2.1;have qV:=UM y;have yK:=GD y;have JJ:=CallsIn.inRound l (callsIn_wide (n:=3).2 (Gy (R y).e (R y).p (R y).i (R y).c M (by omega)));have i7:=CV R E T n _ _ _ x.1 H HGo.o.symm;rw [HNx.o,<-HDc.o,show u.map Fin.val ++ [x.1]=(u ++ [x]).map Fin.val by simp] at i7;have VT:=yh i7;clear i7 hq;by_cases O:(R y).i+1=(R y).c
    .rw [aG O] at VT;rw [show decide ((R y).i+1=(R y).c)=true by rw [decide_eq_true_eq];exact O] at JJ;clear O
     gi_wp2_with fail
     refine⟨trivial,?_⟩;refine JJ.mono ?_;rintro e Q ⟨rfl,bz⟩;have aZ:=ii.o.below rfl J bz;have lq:=aZ.k.size;have xM:=(dZ.o.cells (eB bz)).cells (eB (ai (bi Q.heap.size Q)));have VU:=aZ.below rfl J (ai (bi Q.heap.size Q));obtain⟨W4,xN⟩:=bP Q.drew;have Rz:W4.heap[q]? =Q.heap[q]? :=(by rw [xN];rfl);rw [((bz.block _ (aq P.o)).trans P.o)] at Rz;rw [<-xN] at xM VU;have adj:w.heap.size+6<=W4.heap.size:=(by rw [xN];show _<=Q.heap.size;omega);obtain⟨g4,Ek,Z,wP,Fy,GE,El⟩:=rb xM.rc (C y) ((hAC y hyn).2.later VU.b) xC (by show a.rc.length+_<=_;omega) adj;have ul:=xM.grow Fy GE El;have vt:=GE.size;have dW:=VU.grown rfl J GE (λr e=>by
      obtain⟨cur,L⟩:=bB xM.rc e;exact⟨jv xM.rc e,cur,_,L⟩)
     have VV:=qf GE (λr e=>bB xM.rc e) Rz (by decide);obtain⟨vs,be,Jk⟩:=ul.2.2.2.2.1;have aie:a.rs.length<=1000000:=(by omega);obtain⟨g5,NY,w5,nP,BT,GF⟩:=MD be (.slice (some ⟨g4,0,none⟩) (a.rc.length+(R y).d.length) Ek) rfl aie (by omega);obtain⟨W6,FA⟩:=bP (Z.alloc (.cells #[.slice (some ⟨g4,0,none⟩) (a.rc.length+(R y).d.length) Ek] 36));have jE:iE w.heap.size w W W6:=dW.below rfl J (by rw [FA];exact aJ _ _);have Ko:kD Z W6:=(by rw [FA];exact eB (aJ _ _));have ME:=Ko _ _ _ _ VV;have wQ:=dS (W':=W6) be (λg N=>by
      obtain⟨cur,L⟩:=bB be N;rw [Ko _ _ _ _ L,L])
     rw [<-FA] at nP;have VW:W6.grownBy w5 G.ownBlock:=(by rw [FA];exact GF);have gS:=jE.grown rfl J VW (λr e=>by
      obtain⟨cur,L⟩:=bB wQ e;exact⟨jv wQ e,cur,_,L⟩)
     have hp7:=qf VW (λr e=>bB wQ e) ME (by decide);have BX:∀k cur t fz,k<w.heap.size+6->Z.heap[k]? =some (Obj.cells cur t fz)->w5.heap[k]? =some (Obj.cells cur t fz):=λk cur t fz hk hl=>(VW.block k (aq (Ko _ _ _ _ hl)) (λe=>by have:=jv wQ e.symm;omega)).trans (Ko _ _ _ _ hl);have Fz:=xM.whole Fy GE El adj be (λi O=>by
      obtain⟨x1,x2,x3,x4,x5,_⟩:=Jk i O;exact⟨x1,x2,x3,x4,x5⟩) BT xC _ GF (T+x.1+1) ((T:Int)+(x.1:Int)+1) (by omega)
     have j0:=((((gS.set rfl (b:=w.heap.size) (by omega) (by omega) 0 (.slice (some ⟨g5,0,none⟩) (a.rs.length+1) NY)).set rfl (b:=w.heap.size+1) (by omega) (by omega) 0 (.slice none 0 0)).set rfl (b:=w.heap.size+1+1) (by omega) (by omega) 0 (.int .i64 ((T:Int)+(x.1:Int)+1))).set rfl (b:=w.heap.size+1+1+1) (by omega) (by omega) 2 (.int .i64 0));have ia:Yh (∀W':World,W'.heap[w.heap.size+1]? =some (.cells #[z] 36 (0,0))->W'.heap[q]? =some (.cells (eS ((R y).e:Int) ((R y).p:Int) ((R y).i:Int) ((R y).c:Int) (A y) (R y).d.length (C y)) 230 (0,0))->(W'.cell? ⟨w.heap.size+1,0,none⟩=some z/\W'.cell? ⟨q,4,none⟩=some (.slice (A y) (R y).d.length (C y)))):=λW' H m=>⟨aM H,gH m⟩;obtain⟨S4,S5,S6⟩:=kI (ia.o W4 xM.c Rz) (ia.o Z ul.2.1 VV) (ia.o W6 (Ko _ _ _ _ ul.2.1) ME);have S7:=yh (ia.o w5 (BX _ _ _ _ (by omega) ul.2.1) hp7);have S8:=yh (ia.o (w5.setCell ⟨w.heap.size,0,none⟩ (.slice (some ⟨g5,0,none⟩) (a.rs.length+1) NY)) (b9 (BX _ _ _ _ (by omega) ul.2.1) (by omega)) (b9 hp7 (by omega)));have b4:=xM.r.cell;have b5:=ul.1.cell;have b6:W6.cell? ⟨w.heap.size,0,none⟩=some G:=aM (Ko _ _ _ _ ul.1);have b7:w5.cell? ⟨w.heap.size,0,none⟩=some G:=aM (BX _ _ _ _ (by omega) ul.1);have f7:=ae (BX _ _ _ _ (by omega) ul.1) 0;have cf7:=ae (BX _ _ _ _ (by omega) ul.2.1) 0;have d7:w5.cell? ⟨w.heap.size+1+1,0,none⟩=some (.int .i64 (a.hd:Int)):=aM (BX _ _ _ _ (by omega) ul.2.2.1);have df7:w5.frozen? ⟨w.heap.size+1+1,0,none⟩=false:=ae (BX _ _ _ _ (by omega) ul.2.2.1) 0;have e7:w5.cell? ⟨w.heap.size+1+1+1,2,none⟩=some (.int .i64 (a.j:Int)):=bM (BX _ _ _ _ (by omega) (ul.2.2.2.1.trans xM.d));have ef7:w5.frozen? ⟨w.heap.size+1+1+1,2,none⟩=false:=ae (BX _ _ _ _ (by omega) (ul.2.2.2.1.trans xM.d)) 2;have UL:prog.follows .mixedOrders=true:=(by kernel_rfl);obtain⟨HW,PN,HZ8,VX,HR5,HW6,Ji⟩:=acw Fz j0 (k9 J j0.k.size) wP nP FA xN;clear bz aZ VU dW jE gS j0 Fz ul Fy GE El JJ wP nP BT GF VW be wQ Jk Ko BX Rz VV ME hp7 xM xN FA ia
     gi_wp2_with fail
     refine nO (S:=λW'=>W'.cell? ⟨w.heap.size+1,0,none⟩=some z/\W'.cell? ⟨q,4,none⟩=some (.slice (A y) (R y).d.length (C y))) UL (by kernel_rfl) ?_;rw [<-Ji.o];refine wpAnyH_take (i:=1) (v:=z) rfl (by kernel_rfl) (by kernel_rfl) (by kernel_rfl) (λ_ _ _ h=>h) (Or.inl ⟨by rfl,?_⟩) S4.out ?_
     .rintro W1 ⟨y1,y2⟩;go_simp
     try simp only [Act.put,jX]
     refine wpAnyH_take (i:=2) (v:= .pointer (some ⟨q,4,none⟩)) rfl (by kernel_rfl) (by kernel_rfl) (by kernel_rfl) (λ_ _ _ h=>h) (Or.inl ⟨by rfl,?_⟩) S4.out ?_
     .rintro W1 ⟨y1,y2⟩;go_simp
     try simp only [Act.put]
     refine wpAnyH_take (i:=3) (v:= .slice (A y) (R y).d.length (C y)) rfl (by kernel_rfl) (by kernel_rfl) (by kernel_rfl) (λ_ _ _ h=>h) (Or.inl ⟨by rfl,?_⟩) S4.out ?_
     .rintro W1 ⟨y1,y2⟩;go_simp
     try simp only [Act.put]
     refine wpAnyH_ready (rs:= [0,4]) (by kernel_rfl) (by simp) (AllReadyH.cons rfl (λK f=>?_) (AllReadyH.cons rfl (λK f=>?_) AllReadyH.nil))
     .skip
      go_simp;refine f.out _ _ S4.out (λ_=>?_);clear f K;try simp only [Act.put,jX,ld,lT]
      refine wpAnyH_ready (rs:= [4]) (by kernel_rfl) (by simp) (AllReadyH.cons rfl (λK f=>?_) AllReadyH.nil);rw [aG (by rfl)];refine eC _ _ 36 rfl _ _ _ rfl rfl VX.o ?_;refine f.out _ _ S5.out (λ_=>?_);clear f K;try simp only [Act.put,jX]
      refine wpAnyH_ready (rs:= [5]) (by kernel_rfl) (by simp) (AllReadyH.cons rfl (λK f=>?_) AllReadyH.nil);go_simp;rw [<-HW6.o];refine f.out _ _ S6.out (λ_=>?_);clear f K;try simp only [Act.put,jX,ld,lT]
      refine wpAnyH_ready (rs:= [6]) (by kernel_rfl) (by simp) (AllReadyH.cons rfl (λK f=>?_) AllReadyH.nil);rw [aG (by rfl)];refine eC _ _ 62 rfl _ _ _ rfl rfl HR5.o ?_;refine f.out _ _ S7.out (λ_=>?_);clear f K;try simp only [Act.put,jX]
      refine wpAnyH_ready (rs:= [7]) (by kernel_rfl) (by simp) (AllReadyH.cons rfl (λK f=>?_) AllReadyH.nil);go_simp;refine f.out _ _ S8.out (λ_=>?_);clear f K;try simp only [Act.put,jX,ld,lT]
      refine wpAnyH_done (by kernel_rfl) ?_ _
      (gi_wp2;exact⟨HS.o▸PN.o.k,PN.o.p,_,_,_,VT.o,HW.o,PN.o.b,HZ8.o⟩)
     .skip
      rw [aG (by rfl)];refine eC _ _ 36 rfl _ _ _ rfl rfl VX.o ?_;refine f.out _ _ S5.out (λ_=>?_);clear f K;try simp only [Act.put]
      refine wpAnyH_ready (rs:= [0,5]) (by kernel_rfl) (by simp) (AllReadyH.cons rfl (λK f=>?_) (AllReadyH.cons rfl (λK f=>?_) AllReadyH.nil))
      .skip
       go_simp;refine f.out _ _ S5.out (λ_=>?_);clear f K;try simp only [Act.put,jX,ld,lT]
       refine wpAnyH_ready (rs:= [5]) (by kernel_rfl) (by simp) (AllReadyH.cons rfl (λK f=>?_) AllReadyH.nil);go_simp;rw [<-HW6.o];refine f.out _ _ S6.out (λ_=>?_);clear f K;try simp only [Act.put,jX,ld,lT]
       refine wpAnyH_ready (rs:= [6]) (by kernel_rfl) (by simp) (AllReadyH.cons rfl (λK f=>?_) AllReadyH.nil);rw [aG (by rfl)];refine eC _ _ 62 rfl _ _ _ rfl rfl HR5.o ?_;refine f.out _ _ S7.out (λ_=>?_);clear f K;try simp only [Act.put,jX]
       refine wpAnyH_ready (rs:= [7]) (by kernel_rfl) (by simp) (AllReadyH.cons rfl (λK f=>?_) AllReadyH.nil);go_simp;refine f.out _ _ S8.out (λ_=>?_);clear f K;try simp only [Act.put,jX,ld,lT]
       refine wpAnyH_done (by kernel_rfl) ?_ _
       (gi_wp2;exact⟨HS.o▸PN.o.k,PN.o.p,_,_,_,VT.o,HW.o,PN.o.b,HZ8.o⟩)
      .skip
       go_simp;rw [<-HW6.o];refine f.out _ _ S6.out (λ_=>?_);clear f K;try simp only [Act.put,jX,ld,lT]
       refine wpAnyH_ready (rs:= [0]) (by kernel_rfl) (by simp) (AllReadyH.cons rfl (λK f=>?_) AllReadyH.nil);go_simp;refine f.out _ _ S6.out (λ_=>?_);clear f K;try simp only [Act.put,jX,ld,lT]
       refine wpAnyH_ready (rs:= [6]) (by kernel_rfl) (by simp) (AllReadyH.cons rfl (λK f=>?_) AllReadyH.nil);rw [aG (by rfl)];refine eC _ _ 62 rfl _ _ _ rfl rfl HR5.o ?_;refine f.out _ _ S7.out (λ_=>?_);clear f K;try simp only [Act.put,jX]
       refine wpAnyH_ready (rs:= [7]) (by kernel_rfl) (by simp) (AllReadyH.cons rfl (λK f=>?_) AllReadyH.nil);go_simp;refine f.out _ _ S8.out (λ_=>?_);clear f K;try simp only [Act.put,jX,ld,lT]
       refine wpAnyH_done (by kernel_rfl) ?_ _
       (gi_wp2;exact⟨HS.o▸PN.o.k,PN.o.p,_,_,_,VT.o,HW.o,PN.o.b,HZ8.o⟩)
    .rw [aB O] at VT;rw [show decide ((R y).i+1=(R y).c)=false by rw [decide_eq_false_iff_not];exact O] at JJ;clear O
     gi_wp2_with fail
     refine⟨trivial,?_⟩;refine JJ.mono ?_;rintro e Q ⟨rfl,bz⟩;have jY:=dZ.o.cells (eB bz);have aZ:=ii.o.below rfl J bz;have r4:Q.cell? ⟨q,4,none⟩=some (.slice (A y) (R y).d.length (C y)):=gH ((bz.block _ (aq P.o)).trans P.o);have r9:=jY.c.cell;have lq:=aZ.k.size;obtain⟨g4,Ek,Z,bI,Fy,GE,El⟩:=rb jY.rc (C y) ((hAC y hyn).2.later aZ.b) xC (by show a.rc.length+_<=_;omega) (by omega);have ul:=jY.grow Fy GE El;have s9:=ul.2.1.cell;have f9:=ul.2.1.frozen;have s11:Z.cell? ⟨w.heap.size+1+1+1,2,none⟩=some (.int .i64 (a.j:Int)):=bM (ul.2.2.2.1.trans jY.d);have f11:Z.frozen? ⟨w.heap.size+1+1+1,2,none⟩=false:=ae (ul.2.2.2.1.trans jY.d) 2;have Qz:=jY.more Fy GE El ((a.j:Int)+1) (by show _=((a.j+1:Nat):Int);omega);have dW:=aZ.grown rfl J GE (λr e=>by
      obtain⟨cur,L⟩:=bB jY.rc e;exact⟨jv jY.rc e,cur,_,L⟩)
     have dX:=(dW.set rfl (b:=w.heap.size+1) (by omega) (by omega) 0 (.slice (some ⟨g4,0,none⟩) (a.rc.length+(R y).d.length) Ek)).set rfl (b:=w.heap.size+1+1+1) (by omega) (by omega) 2 (.int .i64 ((a.j:Int)+1));have ZM:(a.j:Int)<1000000:=(by omega);have ZN:w.heap.size+6<=((Z.setCell ⟨w.heap.size+1,0,none⟩ (.slice (some ⟨g4,0,none⟩) (a.rc.length+(R y).d.length) Ek)).setCell ⟨w.heap.size+1+1+1,2,none⟩ (.int .i64 ((a.j:Int)+1))).heap.size:=(by have:=dX.k.size;omega);obtain⟨HM,UI,HZ5,nQ⟩:=BH Qz dX ZN bI;clear bz jY aZ dW dX Qz ul Fy GE El JJ bI ZN
     gi_wp2_with (gi_at_builtin;refine rM rfl _ _ 36 rfl _ _ _ rfl rfl nQ.o ?_)
     exact⟨HS.o▸UI.o.k,UI.o.p,_,_,_,VT.o,HM.o,UI.o.b,HZ5.o⟩
 case done=>
  rintro D xs W hD oL ⟨a,G,z,H,m,I,J⟩ Kp;have q1:=m.r.cell;have q2:W.cell? ⟨w.heap.size+1+1,0,none⟩=some (.int .i64 (a.hd:Int)):=m.h.cell;have UL:prog.follows .mixedOrders=true:=by kernel_rfl
  have ht:=NS R E T n iu a (by rw [<-oL];exact H);have HZ:=yh (GC m.rs (by omega) I Kp (by omega) ht);clear m I J H ht oL
  gi_wp2
  refine CX ?_
  gi_region_with_o (fail)
  all_goals
   gi_wp2
   rw [Exit.noGoto_ret];refine⟨by simp, .inl ⟨_,_,rfl,run_takeDeferred Kp,?_⟩⟩;refine⟨_,results_tmp2 rfl _ _ _,?_⟩;simp only [Act.put,List.getElem_toArray,List.getElem_cons_zero,List.getElem_cons_succ,jX,ld,lT];exact HZ.o
 case stop=>
  rintro D c u W hD ⟨k,hk,l8⟩ ⟨rfl,Rx,x,a,ps,c',G,z,h0,H,Jm,m,I⟩ Kp;have q1:=m.r.cell;have q2:W.cell? ⟨w.heap.size+1+1,0,none⟩=some (.int .i64 (a.hd:Int)):=m.h.cell;have UL:prog.follows .mixedOrders=true:=by kernel_rfl
  have ht:dF (Rp R n) E T a.rs a.hd/\∀c d,¬Rec (Rp R n) E a.hd c d:=by
   subst h0;obtain⟨pk,vj⟩:=l8.split;exact NR R E T n k a (by rw [<-pk];exact H) (by rw [<-vj];exact Jm)
  have HZ:=yh (GC m.rs (by omega) I Kp (by omega) ht);clear m I H ht l8 h0 Jm
  gi_wp2
  refine CX ?_
  gi_region_with_o (fail)
  all_goals
   gi_wp2
   rw [Exit.noGoto_ret];refine⟨by simp, .inl ⟨_,_,rfl,run_takeDeferred Kp,?_⟩⟩;refine⟨_,results_tmp2 rfl _ _ _,?_⟩;simp only [Act.put,List.getElem_toArray,List.getElem_cons_zero,List.getElem_cons_succ,jX,ld,lT];exact HZ.o
end
section
def ed (S:DS) (f:Nat):Nat->PC:=λi=>dr (S.now (f+2+i))
def cm (S:DS) (f:Nat):Nat×Nat×Nat:=il (S.now f) (S.now (f+1))
def is (S:DS) (f n:Nat):Nat:=max (cm S f).1 (gQ (ed S f) n)
def yu {S:DS} (h:(cm S f).2.2=0):1<=(cm S f).1/\(cm S f).1<=1073741824/\(cm S f).2.1<=1073741824:=by
 unfold cm il at*;split at h
 .cases h
 .rename_i a;rw [aB a];refine⟨?_,?_,?_⟩<;> simp only <;> omega
def Em {S:DS} (h:(cm S f).2.2=0):is S f n<=1073741824:=by
 unfold is;have:=yu h;have:=Ec (ed S f) n;omega
structure Told (w':World) (B l p:Nat) (L:LG) (S:DS) (v:Value) (rs:List (List Int)) (hd:Nat):Prop where
 r:dR w' B v rs (λ_=>False)
 t:dF (Rp (ed S L.f) L.n) (cm S L.f).1 (cm S L.f).2.1 rs hd
 x:∀c d,¬Rec (Rp (ed S L.f) L.n) (cm S L.f).1 hd c d
 p:cY w' l p {L with ep:=(cm S L.f).1,tail:=(cm S L.f).2.1,head:=hd,top:=is S L.f L.n}
def qg (w':World) (B l p:Nat) (L:LG) (S:DS) (e:Ending):Prop:=
 if (cm S L.f).2.2≠0 then e= .returned (.tuple #[.slice none 0 0,iV ((cm S L.f).2.2:Int)])
 else if is S L.f L.n=1073741824 then e= .returned (.tuple #[.slice none 0 0,iV 41])
 else∃v rs hd,e= .returned (.tuple #[v,iV 0])/\Told w' B l p L S v rs hd
def cY.Kq {w:World} {l p:Nat} {L:LG} (h:cY w l p L) (T:Int) (n:Nat) (a:T=(n:Int)):cY (w.setCell ⟨l,8,none⟩ (.int .i64 T)) l p {L with top:=n}:=by
 subst a;exact(heap_setCell_same _ _ 8 _ _ _ h).trans (by simp)
def cY.marked {w:World} {l p:Nat} {L:LG} (h:cY w l p L) (E T H:Nat):cY (((w.setCell ⟨l,5,none⟩ (.int .i64 (E:Int))).setCell ⟨l,6,none⟩ (.int .i64 (T:Int))).setCell ⟨l,7,none⟩ (.int .i64 (H:Int))) l p {L with ep:=E,tail:=T,head:=H}:=
   (heap_setCell_same _ _ 7 _ _ _ (heap_setCell_same _ _ 6 _ _ _ (heap_setCell_same _ _ 5 _ _ _ h))).trans (by simp)
section
variable {w:World} {F:Nat->Prop} {p s l:Nat} {S:DS} {L:LG}
end
end
section
def bC (S:DS) (s:Nat) (f n:Int):Int×DS:=
 if cy S s f n≠0 then (cy S s f n,S) else if (cm S f.toNat).2.2≠0 then (((cm S f.toNat).2.2:Int),S.take)
 else if is S f.toNat n.toNat=1073741824 then (41,S.take) else S.take.fl s
def LG.new (S:DS) (f n:Nat):LG:=⟨f,n,wrap64 (S.life+1),false,0,0,0,0⟩
def Kr (w w':World) (p s:Nat) (S:DS) (f n:Int) (e:Ending):Prop:=
 if (bC S s f n).1≠0 then e= .returned (.tuple #[.pointer none, .slice none 0 0,iV (bC S s f n).1])
 else∃l v rs hd,e= .returned (.tuple #[pQ l,v,iV 0])/\w.heap.size<=l/\Told w' w.heap.size l p (LG.new S f.toNat n.toNat) S v rs hd
def Told.low {w:World} {B B' l p:Nat} {S:DS} (h:Told w B l p L S v rs hd) (a:B'<=B):Told w B' l p L S v rs hd:=⟨h.r.low a (λ_ h=>h),h.t,h.x,h.p⟩
def Told.aw {w:World} {B l p:Nat} {S:DS} {F:Nat->Prop} (h:Told w B l p L S v rs hd) (d:aa F w w') (f:∀k,F k->k<B) (u:¬F l):Told w' B l p L S v rs hd:=by
 refine⟨?_,h.t,h.x,h.p.aw d u⟩;obtain⟨z,a,n⟩:=h.r;refine⟨z,dS a (λg j=>?_),λi s=>?_⟩
 .obtain⟨cur,q⟩:=bB a j;exact d.block g (aq q) (λb=>by have:=jv a j;have:=f _ b;omega)
 .obtain⟨g,c,e,m,o,y⟩:=n i s;exact⟨g,c,e,m.agree (d.block g m.lt (λb=>by have:=f _ b;omega)),o,y⟩
section
variable {w:World} {F:Nat->Prop} {p s:Nat} {S:DS}
def Told.ZO {w:World} {B l p:Nat} (h:Told w B l p L S.take v rs hd):Told w B l p L S v rs hd:=⟨h.r,h.t,h.x,h.p⟩
def qg.ZO {B l b:Nat} {e:Ending} (h:qg w' B l p (LG.new S a b) S.take e):if (cm S a).2.2≠0 then e= .returned (.tuple #[.slice none 0 0,iV ((cm S a).2.2:Int)])
 else if is S a b=1073741824 then e= .returned (.tuple #[.slice none 0 0,iV 41])
 else∃v rs hd,e= .returned (.tuple #[v,iV 0])/\Told w' B l p (LG.new S a b) S v rs hd:=by
 unfold qg at h;change if (cm S a).2.2≠0 then e= .returned (.tuple #[.slice none 0 0,iV ((cm S a).2.2:Int)])
  else if is S a b=1073741824 then e= .returned (.tuple #[.slice none 0 0,iV 41])
  else∃v rs hd,e= .returned (.tuple #[v,iV 0])/\Told w' B l p (LG.new S a b) S.take v rs hd at h
 split at h
 .rename_i c;rw [aG c];exact h
 .rename_i c;rw [aB c];split at h
  .rename_i d;rw [aG d];exact h
  .rename_i d;rw [aB d];obtain⟨v,rs,hd,e,f⟩:=h;exact⟨v,rs,hd,e,f.ZO⟩
end
end
section
open Go.RowKit Go.Shelf
attribute [local go_sem] Oper.semAt_some
def vC (b c:Nat) (W W':World):Prop:=W'.heap[b]? =W.heap[b]?/\W'.heap[c]? =W.heap[c]?
def vC.t {b:Nat} {A B C:World} (h:vC b c A B) (k:vC b c B C):vC b c A C:=⟨k.1.trans h.1,k.2.trans h.2⟩
def vC.b {b:Nat} (g:b<w.heap.size) (i:c<w.heap.size) (W:World) (l:Nat) (o e:Obj) (j:w.heap.size<=l) (f:W.heap[l]? =some o) (a:o.isCells=false) (d:o.isWalk=false):vC b c W (W.putObj l e):=
   ⟨World.putObj_heap_other (by omega),World.putObj_heap_other (by omega)⟩
def vC.refl (b c:Nat) (W:World):vC b c W W:=⟨rfl,rfl⟩
def NZ (a:Option Addr) (n c:Nat) (w:World):
  Calls prog 197 #[.slice a n c,iV 492] w λe w'=>e= .returned (.func (.func 228) #[] #[pQ w.heap.size, .pointer (some ⟨w.heap.size+1,0,none⟩)])/\w'=(w.alloc (.cells #[.slice a n c] 36)).alloc (.cells #[.int .i64 492] 3):=by
 go_in;go_wp2;go_ret;exact⟨rfl,rfl⟩
def gF (n k:Nat):Nat:=min 492 (n-492*k)
def VY (b o n q:Nat) (x:Fin q):Array Value:= #[.slice (some ⟨b,o+492*x.1,none⟩) (gF n x.1) (gF n x.1)]
set_option maxRecDepth 100000 in
def N0 (m:Nat) (R:1<=m) (l g f b o n c q:Nat) (ln:1<=n) (S:n<=8364) (P:n<=c) (K:q=(n+491) / 492) (J w:List (Fin q)->World->Prop)
    (A:∀a (x:Fin q) W,J a W->a.length<q->YieldAt Fence.wide (m-1) prog l (VY b o n q x) W λe W'=>
     (e= .returned (.bool true)/\J (a ++ [x]) W'/\vC g f W W')\/(e= .returned (.bool false)/\w (a ++ [x]) W'))
    (W:World) (Km:W.heap[g]? =some (.cells #[.slice (some ⟨b,o,none⟩) n c] 36 (0,0))) (RA:W.heap[f]? =some (.cells #[.int .i64 492] 3 (0,0))) (y:AbidesFrom W.heap.size J) (h0:J [] W):
  CallsIn Fence.wide m prog 228 #[.func (.yield l) #[] #[],pQ g,pQ f] W λe W'=>(∃v,e= .returned v)/\
     ((∃ys,ug ys q/\J ys W')\/(∃a,(∃k,k<q/\ug a (k+1))/\w a W')):=by
 have L:n<=492*q/\492*q<n+492:=by omega
 clear K;refine callsIn_of_wp func228 rfl trivial ?_ rfl;simp only [ntmps228,List.size_toArray,List.length_cons,List.length_nil,Nat.reduceAdd,Nat.reduceSub,Array.replicate_succ,Array.replicate_zero,List.push_toArray,List.append_toArray,List.nil_append,List.cons_append]
 gi_wp2
 gi_loopw [4] (λi wr=>∃(k:Nat) (a:List (Fin q)),k<=q/\i=iV ((492*k:Nat):Int)/\ug a k/\J a wr/\vC g f W wr)
    (λi _=>492*q-(intOf i).toNat)
 case atStart=>exact⟨0, [],dL _,rfl,ug.nil,h0,vC.refl _ _ _⟩
 case round=>
  obtain⟨k,a,Q,rfl,l8,UK,fb⟩:=hrel;have C:=l8.length;have el:=aM (fb.1.trans Km);have pk:=aM (fb.2.trans RA);by_cases bq:k<q
  .have d:=y a wr wr.drew none UK ⟨rfl,rfl,rfl,bR _,λ_ _ _=>rfl⟩ (λr e=>by cases e);obtain⟨O,E,j,body,s,ZJ⟩:=A a ⟨k,bq⟩ wr.drew d (by omega);have UL:prog.follows .mixedOrders=true:=by kernel_rfl
   dsimp only [VY] at s
   have yK:gF n k=min 492 (n-492*k):=rfl;obtain⟨I,p⟩:=bP (492*k);rw [<-p] at s yK⊢;have H:I<n:=(by omega);obtain⟨z,D⟩:=bP (gF n k);rw [<-D] at s yK;have Zs:min (492:Int) ((n-I:Nat):Int)=(z:Int):=(by omega);have PJ:((I:Int)+(z:Int)).toNat-I=z:=(by omega);have cC:(I:Int)<(n:Int):=(by omega);have G:(I:Int)<(c:Int):=(by omega);have M:(I:Int)+(z:Int)<=(n:Int):=(by omega);have dE:(1:Int)<=(z:Int):=(by omega);have u:=yh p;clear p D yK;have ZP:=sM ZJ;have F:=yh fb;have RB:=yh l8;clear ZJ A UK d fb y l8
   gi_wp2
   gi_region_with_o (fail)
   all_goals
    gi_wp2_with fail
    refine ZP.mono ?_;rintro e N ⟨r,rfl,mt,fB⟩;obtain⟨zI,xK⟩:=bV mt fB;clear mt fB;cases r
    .gi_wp2
     refine bodyPost_ret (results_none rfl _ _ _) rfl ?_;exact⟨⟨_,rfl⟩, .inr ⟨_,⟨k,bq,RB.o.snoc bq⟩,xK.o (by simp)⟩⟩
    .have aZ:=F.o.t (vC.t (B:=wr.drew) ⟨rfl,rfl⟩ (zI.o rfl).2);have Qm:=aM (aZ.2.trans RA);have lW:=yh aZ;clear aZ
     gi_wp2
     go_roundw;case rel=>exact⟨k+1,_,by omega,by rw [u.o];go_num,RB.o.snoc bq,(zI.o (by simp)).1,lW.o⟩
     case measure=>have:=u.o;simp [intOf];omega
  .have ZQ:=yh (show k=q by omega);have wK:¬((492*k:Nat):Int)<(n:Int):=by omega
   gi_wp2
   go_end0
   exact⟨⟨_,rfl⟩, .inl ⟨a,(by rw [ZQ.out] at l8;exact l8),UK⟩⟩
def GG (m:Nat) (r:1<=m) (d a b o n c q:Nat) (ln:1<=n) (s:n<=8364) (p:n<=c) (t:q=(n+491) / 492) (w:World)
    (Km:w.heap[d]? =some (.cells #[.slice (some ⟨b,o,none⟩) n c] 36 (0,0))) (RA:w.heap[a]? =some (.cells #[.int .i64 492] 3 (0,0))):
  SeqStopsK Fence.wide m prog 228 #[pQ d,pQ a] (VY b o n q) (vC d a) (λys=>ug ys q) (λe=>∃k,k<q/\ug e (k+1)) q w:=
 λl J g W f i _ j h0=>N0 m r l d a b o n c q ln s p t J g j W ((f.block _ (aq Km)).trans Km) ((f.block _ (aq RA)).trans RA) i h0
def IsC (w:World) (k:Nat):Prop:=∃cur t fz,w.heap[k]? =some (Obj.cells cur t fz)
def fk.narrow {w:World} {F G:Nat->Prop} {a:Nat} (b:∀k,F k->IsC w k->G k):∀{xs:List Value} {ls:List (List Int)},fk w F a xs ls->fk w G a xs ls
 | [], [],_=>trivial
 |_ :: _,_ :: _,⟨⟨g,c,h1,h2,h3,h4⟩,h5⟩=>⟨⟨g,c,h1,b g h2 (by obtain⟨cur,d,_⟩:=h4;exact⟨cur,_,_,d⟩),h3,h4⟩,fk.narrow b h5⟩
 | [],_ :: _,h=>h.elim
 |_ :: _, [],h=>h.elim
def gV.narrow {m:Nat} (h:gV w F p s S m) (b:∀k,F k->(IsC w k\/k=m)->G k) (v:∀k,G k->k<w.heap.size):gV w G p s S m:=by
 obtain⟨o,l,D,q,n,d,c,e,x,i,j,r,a,t⟩:=h;refine⟨o,l,D,q,n,b _ d (.inl ⟨_,_,_,i⟩),b _ c (.inl (by obtain⟨cur,f,_⟩:=j;exact⟨cur,_,_,f⟩)),b _ e (.inr rfl),v,i,j,r,⟨a.keys,a.FM,a.look,λk g=>?_,a.inj⟩,t⟩;obtain⟨d,xs,c,e⟩:=a.row k g;exact⟨b _ d (.inl (by obtain⟨cur,f,_⟩:=c;exact⟨cur,_,_,f⟩)),xs,c,e.narrow (λk g u=>b k g (.inl u))⟩
def bY.fm {m:Nat} (h:bY w F p s S m):F m:=by
 obtain⟨r,c,a,D,d,b,h⟩:=h;exact h.fm
def FC (F:Nat->Prop) (B m:Nat) (w:World) (k:Nat):Prop:=(F k\/B<=k)/\(IsC w k\/k=m)/\k<w.heap.size
end
section
def gd {b:Func} {p:Tmp} (h:b.results= #[.cell p 49]) (a:Array Value) (w:World) (g:Nat) (v:Int)
    (d:a.getD p undef=pQ g) (e:w.cell? (aD g 0)=some (iV v)):(results b a).run prog w= .ok (iV v) w:=by
 have Zm:a[p]?.getD undef=pQ g:=by simpa using d
 have c:(loadVar 49 (aD g 0)).run prog w= .ok (iV v) w:=by simp [go_sem,e]
 simp [results,h,Zm,asAddr,c]
def partOf (d:List Int) (k:Nat):List Int:=(d.drop (492*k)).take 492
def Ks (d:List Int) (k:Nat):(partOf d k).length=gF d.length k:=by
 unfold partOf gF;simp
def di (x:Nat):Nat:=(x+491) / 492
def cX (L:LG) (S:DS) (s:Nat) (d:List Int) (k:Nat):Int×DS:=cB S (λj T=>j2 T s L.f L.n L.ep (L.head+j) j (di d.length) (partOf d j)) k
def LG.fY (L:LG) (S:DS) (x:Nat):Int:=
 if L.bm S≠0 then L.bm S else if x=0 then 2 else if 8364<x then 7 else if 1073741824<L.head+di x then 41 else if L.tail+L.n<L.head+di x then 40 else 0
def LG.append (L:LG) (S:DS) (s:Nat) (d:List Int):Int×DS×LG:=
 if L.fY S d.length≠0 then (L.fY S d.length,S,L)
 else if (cX L S s d (di d.length)).1≠0 then ((cX L S s d (di d.length)).1,(cX L S s d (di d.length)).2,L)
 else (0,(cX L S s d (di d.length)).2,{L with head:=L.head+di d.length})
section
variable {w:World} {F:Nat->Prop} {p s l:Nat} {S:DS} {L:LG}
def ik (W:World) (b l:Nat):Prop:=W.heap[b]? =some (.cells #[.pointer (some ⟨l,0,none⟩)] 89 (0,0))/\W.heap[b+1]? =some (.cells #[.int .i64 0] 49 (0,0))
def ik.err {b l:Nat} (h:ik W b l) (v:Int):(W.setCell ⟨b+1,0,none⟩ (.int .i64 v)).cell? ⟨b+1,0,none⟩=some (iV v):=
 aj (cur:= #[iV v]) (e:=49) ((heap_setCell_same _ _ 0 _ _ _ h.2).trans (by simp)) (j:=0) rfl
def ik.later {b l:Nat} (h:ik W b l) (a:bW W W'):ik W' b l:=⟨(a.block _ (aq h.1)).trans h.1,(a.block _ (aq h.2)).trans h.2⟩
def N1 (h:ax w F p s S) (J:cY w l p L) (I:L.Ok s) (a:Option Addr) (x k:Nat) (z:x<=140737488355328) (b:L.fY S x≠0):
  Calls prog 174 #[pQ l, .slice a x k] w λe w'=>e= .returned (iV (L.fY S x))/\bW w w':=by
 obtain⟨M,Kn⟩:=zEr ((w.alloc (.cells #[.pointer (some ⟨l,0,none⟩)] 89)).alloc (.cells #[.int .i64 0] 49));have fR:bW w M:=by rw [<-Kn];exact gZ _ _ _
 have pP:ik M w.heap.size l:=by
  rw [<-Kn];refine⟨(Below.heap_alloc _ _ _ (by simp)).trans (heap_alloc_new _ _),?_⟩;have:=heap_alloc_new (w.alloc (.cells #[.pointer (some ⟨l,0,none⟩)] 89)) (.cells #[.int .i64 0] 49);rwa [World.size_alloc] at this
 obtain⟨d,r,q,c,m,T,N⟩:=nD (jx (h.later fR) (J.later fR)) (yh Kn) (yh pP) (yh fR) (yh (J.later fR)) I.hi (yh I);unfold LG.fY at b⊢;clear h J fR pP Kn I;by_cases i:L.bm S=0
 .simp only [aB (λh:¬L.bm S=0=>h i)] at b⊢;rw [i] at d;clear i;by_cases A:x=0
  .simp only [aG A];have P:((x:Int) == 0)=true:=(by rw [beq_iff_eq];omega);clear b A;go_in;go_wp2_with fail;rw [r.o];refine bJ d λw1 ar=>?_;have iO:=ik.later q.o ar;have u:w1.cell? (aD w.heap.size 0)=some (pQ l):=aM iO.1;have v:w1.cell? ⟨w.heap.size+1,0,none⟩=some (iV 0):=aM iO.2;have y:=ae iO.2 0;have cu:=m.o.later ar;have bN:=c.o.trans (ar.mono c.o.size);clear d ar;go_wp2_with fail;refine((λwx=>jf x wx z) _).mono ?_;rintro e j ⟨rfl,dN⟩;have ec:=dN.symm;subst ec;clear dN;obtain⟨g,f⟩:=bV (bN.setCell (p:=⟨w.heap.size+1,0,none⟩) (by show _<=w.heap.size+1;omega) (iV 2)) (show (w1.setCell ⟨w.heap.size+1,0,none⟩ (.int .i64 2)).cell? ⟨w.heap.size+1,0,none⟩=some (iV 2) from iO.err _);clear bN iO cu;go_wp2_with fail;exact bodyPost_ret (gd rfl _ _ (w.heap.size+1) _ rfl f.o) rfl ⟨rfl,g.o⟩
  .simp only [aB A] at b⊢;have P:((x:Int) == 0)=false:=(by rw [fy];omega);clear A;by_cases D:8364<x
   .simp only [aG D];have Q:(8364:Int)<(x:Int):=(by omega);clear b D;go_in;go_wp2_with fail;rw [r.o];refine bJ d λw1 ar=>?_;have iO:=ik.later q.o ar;have u:w1.cell? (aD w.heap.size 0)=some (pQ l):=aM iO.1;have v:w1.cell? ⟨w.heap.size+1,0,none⟩=some (iV 0):=aM iO.2;have y:=ae iO.2 0;have cu:=m.o.later ar;have bN:=c.o.trans (ar.mono c.o.size);clear d ar;go_wp2_with fail;refine((λwx=>jf x wx z) _).mono ?_;rintro e j ⟨rfl,dN⟩;have ec:=dN.symm;subst ec;clear dN;obtain⟨g,f⟩:=bV (bN.setCell (p:=⟨w.heap.size+1,0,none⟩) (by show _<=w.heap.size+1;omega) (iV 7)) (show (w1.setCell ⟨w.heap.size+1,0,none⟩ (.int .i64 7)).cell? ⟨w.heap.size+1,0,none⟩=some (iV 7) from iO.err _);clear bN iO cu;go_wp2_with fail;exact bodyPost_ret (gd rfl _ _ (w.heap.size+1) _ rfl f.o) rfl ⟨rfl,g.o⟩
   .simp only [aB D] at b⊢;have Q:¬(8364:Int)<(x:Int):=(by omega);clear D;have oG:di x=(x+491) / 492:=rfl;by_cases E:1073741824<L.head+di x
    .simp only [aG E];clear b;obtain⟨C,t⟩:=bP ((x+491) / 492);have Qs:C<=17:=(by omega);have R:(1073741824:Int)<(L.head:Int)+(C:Int):=(by omega);have G:=yh t;clear E oG t;go_in;go_wp2_with fail;rw [r.o];refine bJ d λw1 ar=>?_;have iO:=ik.later q.o ar;have u:w1.cell? (aD w.heap.size 0)=some (pQ l):=aM iO.1;have v:w1.cell? ⟨w.heap.size+1,0,none⟩=some (iV 0):=aM iO.2;have y:=ae iO.2 0;have bN:=c.o.trans (ar.mono c.o.size);have O:=(m.o.later ar).c7;clear d ar;go_wp2_with fail;refine((λwx=>jf x wx z) _).mono ?_;rintro e j ⟨rfl,dN⟩;have ec:=dN.symm;subst ec;clear dN;rw [<-G.o];obtain⟨g,f⟩:=bV (bN.setCell (p:=⟨w.heap.size+1,0,none⟩) (by show _<=w.heap.size+1;omega) (iV 41)) (show (w1.setCell ⟨w.heap.size+1,0,none⟩ (.int .i64 41)).cell? ⟨w.heap.size+1,0,none⟩=some (iV 41) from iO.err _);clear bN iO;go_wp2_with fail;exact bodyPost_ret (gd rfl _ _ (w.heap.size+1) _ rfl f.o) rfl ⟨rfl,g.o⟩
    .simp only [aB E] at b⊢;by_cases K:L.tail+L.n<L.head+di x
     .simp only [aG K];clear b;obtain⟨C,t⟩:=bP ((x+491) / 492);have Qs:C<=17:=(by omega);have R:¬(1073741824:Int)<(L.head:Int)+(C:Int):=(by omega);have X:(L.n:Int)-((L.head:Int)-(L.tail:Int))<(C:Int):=(by omega);have G:=yh t;clear E K oG t;go_in;go_wp2_with fail;rw [r.o];refine bJ d λw1 ar=>?_;have iO:=ik.later q.o ar;have u:w1.cell? (aD w.heap.size 0)=some (pQ l):=aM iO.1;have v:w1.cell? ⟨w.heap.size+1,0,none⟩=some (iV 0):=aM iO.2;have y:=ae iO.2 0;have cu:=m.o.later ar;have bN:=c.o.trans (ar.mono c.o.size);have O:=cu.c7;clear d ar;go_wp2_with fail;refine((λwx=>jf x wx z) _).mono ?_;rintro e j ⟨rfl,dN⟩;have ec:=dN.symm;subst ec;clear dN;rw [<-G.o];obtain⟨cQ,H⟩:=bV bN iO;clear bN iO;go_wp2_with fail;refine(zB cu N.o).mono ?_;rintro e j ⟨rfl,bd⟩;have qT:=ik.later H.o bd;have eV:=cQ.o.trans (bd.mono cQ.o.size);have U:j.cell? ⟨w.heap.size+1,0,none⟩=some (iV 0):=aM qT.2;have Y:=ae qT.2 0;clear bd;obtain⟨g,f⟩:=bV (eV.setCell (p:=⟨w.heap.size+1,0,none⟩) (by show _<=w.heap.size+1;omega) (iV 40)) (show (j.setCell ⟨w.heap.size+1,0,none⟩ (.int .i64 40)).cell? ⟨w.heap.size+1,0,none⟩=some (iV 40) from qT.err _);clear eV qT cu;go_wp2_with fail;exact bodyPost_ret (gd rfl _ _ (w.heap.size+1) _ rfl f.o) rfl ⟨rfl,g.o⟩
     .exact absurd (aB K) b
 .simp only [aG (λh=>i h:¬L.bm S=0)];have W:(L.bm S == 0)=false:=by rw [fy];exact i
  clear b i;go_in;go_wp2_with fail;rw [r.o];refine bJ d λw1 ar=>?_;have iO:=ik.later q.o ar;have u:w1.cell? (aD w.heap.size 0)=some (pQ l):=aM iO.1;have v:w1.cell? ⟨w.heap.size+1,0,none⟩=some (iV 0):=aM iO.2;have y:=ae iO.2 0;have cu:=m.o.later ar;obtain⟨g,f⟩:=bV ((c.o.trans (ar.mono c.o.size)).setCell (p:=⟨w.heap.size+1,0,none⟩) (by show _<=w.heap.size+1;omega) (iV (L.bm S))) (show (w1.setCell ⟨w.heap.size+1,0,none⟩ (.int .i64 (L.bm S))).cell? ⟨w.heap.size+1,0,none⟩=some (iV (L.bm S)) from iO.err _);clear iO cu;go_wp2_with fail;exact bodyPost_ret (gd rfl _ _ (w.heap.size+1) _ rfl f.o) rfl ⟨rfl,g.o⟩
end
end
section
def mY {S:DS} {g a:Nat->DS->Int×DS}:∀k,(∀j T,j<k->g j T=a j T)->cB S g k=cB S a k
 |0,_=>rfl
 |k+1,h=>by
  rw [cB,cB,mY (S:=S) k (λj T b=>h j T (by omega)),h k _ (by omega)]
def rN (L:LG) (S:DS) (s:Nat) (d:List Int) (xs:List Nat):Int×DS:=cB S (λj T=>j2 T s L.f L.n L.ep (L.head+j) j (di d.length) (partOf d (xs.getD j 0))) xs.length
def N2 {L:LG} {S:DS} {s:Nat} {d:List Int} {xs:List Nat} (x:Nat) (h:(rN L S s d xs).1=0):
  rN L S s d (xs ++ [x])=j2 (rN L S s d xs).2 s L.f L.n L.ep (L.head+xs.length) xs.length (di d.length) (partOf d x):=by
 have e:cB S (λj T=>j2 T s L.f L.n L.ep (L.head+j) j (di d.length) (partOf d ((xs ++ [x]).getD j 0))) xs.length=rN L S s d xs:=by
  unfold rN;refine mY _ (λj T a=>?_);rw [show (xs ++ [x]).getD j 0=xs.getD j 0 by simp [u9 a]]
 unfold rN at*;rw [ee,List.length_singleton,ju (by rw [e];exact h),e];simp
def zL {L:LG} {S:DS} {s:Nat} {d:List Int} (k:Nat):rN L S s d (List.range k)=cX L S s d k:=by
 unfold rN cX;rw [List.length_range];refine mY _ (λj T a=>?_);rw [show (List.range k).getD j 0=j by simp [a]]
def CY (S:DS) (s f n E P i c:Nat) (l:List Int):(j2 S s f n E P i c l).2.puts.length<=S.puts.length+1:=by
 unfold j2;split
 .simp
 .exact jk _ _ _ _ _
def N3 (L:LG) (S:DS) (s:Nat) (d:List Int) (xs:List Nat):(rN L S s d xs).2.puts.length<=S.puts.length+xs.length:=oJ (λ_ _=>CY _ _ _ _ _ _ _ _ _) _
def aa.grown {w W W':World} {F:Nat->Prop} {row:Option Nat} (h:aa F w W) (a:W.grownBy W' row) (d:∀r,row=some r->w.heap.size<=r):aa F w W':=
 h.trans (G:=λk=>some k=row) ⟨a.os,a.tape,a.output,a.size,λk b c=>a.block k b c⟩ (λk b=> .inr (d k b.symm))
section
variable {w W W':World} {F:Nat->Prop} {l p s m M n0:Nat} {L:LG} {S:DS} {d:List Int} {xs:List Nat}
end
end
section
open Go.RowKit Go.Shelf
attribute [local go_sem] Oper.semAt_some
def Src.sub {w:World} {b o:Nat} {l:List Int} (h:Src w (some (aD b o)) n l) (i k:Nat) (g:i+k<=n):Src w (some ⟨b,o+i,none⟩) k ((l.drop i).take k):=by
 have j:=h.1;refine⟨by simp;omega,by simp,?_⟩;intro z f t e;cases f;have h0:=h.2.2 _ rfl (i+t) (by omega);have c:(Addr.add (aD b o) (i+t))=Addr.add ⟨b,o+i,none⟩ t:=by
  unfold Addr.add;by_cases d:i+t=0
  .obtain⟨rfl,rfl⟩:i=0/\t=0:=(by omega);simp
  .by_cases a:t=0
   .subst a;rw [aB d,aG rfl];rfl
   .simp [a,Nat.add_assoc]
 rw [c] at h0;rw [h0];congr 2;simp [List.getD,e]
def Fo {w:World} {F:Nat->Prop} {a m:Nat} (b:∀j,F j->j<w.heap.size) (c:w.heap.size<=k) (d:k<a):¬FC F a m W k:=λh=>by
 rcases h.1 with h|h
 .have:=b k h;omega
 .omega
def oM (h:Bytes d) (k:Nat):Bytes (partOf d k):=λv a=>h v (List.mem_of_mem_drop (List.mem_of_mem_take a))
section
variable {w:World} {F:Nat->Prop} {p s l:Nat} {S:DS} {L:LG}
def jM {x:Nat} (h:L.fY S x=0):L.bm S=0/\1<=x/\x<=8364/\L.head+di x<=1073741824/\L.head+di x<=L.tail+L.n:=by
 unfold LG.fY at h;split at h
 .exact absurd h (by assumption)
 .rename_i h0;split at h
  .omega
  .split at h
   .omega
   .split at h
    .omega
    .split at h
     .omega
     .refine⟨by omega,by omega,by omega,by omega,by omega⟩
end
end
def VZ (S:DS) (k:Nat) (l:List Int) (j:Nat):(S.put k l).now j=if j=k then l else S.now j:=by
 have e:au (S.put k l).puts j=if j=k then au S.puts k ++ [l] else au S.puts j:=iy _ _ _ _;by_cases h:j=k
 .subst h;simp [DS.now,DS.gM,e]
 .have a:au (S.put k l).puts j=au S.puts j:=by rw [e,aB h]
  have b:(S.put k l).im=S.im:=rfl;simp [DS.now,DS.gM,a,b,h]
def jN (a:S.fuse≠0) (b:k<s) (l:List Int) (j:Nat):(S.wr s (k:Int) 512 l).2.now j=if j=k then l else S.now j:=by
 rw [pf a b];exact VZ S k l j
def um (h:S.Ok s) (c:S.fuse≠0) (b:k<s) (d:l.length=512):(S.wr s (k:Int) 512 l).2.Ok s:=by
 rw [pf c b];refine⟨h.len,h.lo,h.hi,λq a=>?_,?_⟩
 .have XS:q∈S.puts ++ [(k,l)]:=a;rcases List.mem_append.1 XS with a|a
  .exact h.puts q a
  .rw [List.mem_singleton.1 a];exact⟨b,d⟩
 .have:=h.fuse;show-1<=(if 0<S.fuse then S.fuse-1 else S.fuse)/\(if 0<S.fuse then S.fuse-1 else S.fuse)<=_;split <;> omega
def fa (h:S.Ok s) (a:j<s):(S.fl s).2.now j=S.now j:=by
 unfold DS.fl;split
 .rfl
 .show (S.flush s).now j=S.now j;rw [tL _ _ rfl];exact nI s S.now (λk b=>bA h k b) j a
def so (h:S.Ok s):(S.fl s).2.Ok s:=by
 unfold DS.fl;split
 .exact h
 .refine⟨pJ s _ (λk a=>bA h k a),h.lo,h.hi,(λq b=>by cases b),?_⟩;have:=h.fuse;show-1<=(if 0<S.fuse then S.fuse-1 else S.fuse)/\(if 0<S.fuse then S.fuse-1 else S.fuse)<=_;split <;> omega
def kE (S:DS) (s:Nat) (x:Int) (n:Nat) (l:List Int):(S.wr s x n l).2.life=S.life:=by
 unfold DS.wr;split
 .rfl
 .split
  .rfl
  .split <;> rfl
def fZ (S:DS) (s:Nat):(S.fl s).2.life=S.life:=by
 unfold DS.fl;split <;> rfl
def jn (h:(S.fl s).1=0):(S.fl s).2.puts= []:=by
 unfold DS.fl at*;split at h
 .simp at h
 .rename_i q;rw [aB q];rfl
def lD (h:(S.fl s).1≠0):(S.fl s).2=S/\S.fuse=0/\(S.fl s).1=3:=by
 unfold DS.fl at*;split at h
 .rename_i q;rw [aG q];exact⟨rfl,q,rfl⟩
 .exact absurd rfl h
def RC (b:k<s) (h:(S.wr s (k:Int) 512 l).1≠0):(S.wr s (k:Int) 512 l).2=S/\S.fuse=0:=by
 by_cases a:S.fuse=0
 .unfold DS.wr;rw [aG a];exact⟨rfl,a⟩
 .rw [pf a b] at h;exact absurd rfl h
def MF (h:(S.wr s (k:Int) 512 l).1=0):S.fuse≠0:=λa=>by
 unfold DS.wr at h;rw [aG a] at h;simp at h
def iF {r:List Int} (b:l.length=512) (c:r.length=512) (a:1<=N) (h:(am l r).2.1<N):(aP l r (N:Int) []).2.2=0:=by
 unfold aP;rw [aB (by omega),aB (by omega),aB (by simp)];simp only;rw [aB (by omega)];split <;> rfl
def Kt {r:List Int} (c:l.length=512) (d:r.length=512) (a:1<=N) (b:N<9223372036854775808) (h:(am l r).2.1<N):
    (am (za l r (aP l r (N:Int) []).1 (aP l r (N:Int) []).2.1).1 (za l r (aP l r (N:Int) []).1 (aP l r (N:Int) []).2.1).2).2.1=N:=by
 have e:(aP l r (N:Int) [])=if (am l r).2.2.2=0/\(am l r).1=0 then (1,bh (cG (r.getD 0 0) (r.getD 511 0)) (aS N ++ []),0) else (0,bh (cG (l.getD 0 0) (l.getD 511 0)) (aS N ++ []),0):=by
  unfold aP;rw [aB (by omega),aB (by omega),aB (by simp)];simp only;rw [aB (by omega),mx]
 rw [e];by_cases q:(am l r).2.2.2=0/\(am l r).1=0
 .rw [aG q];have:=tQ (data:= []) c d b a (by simp) h (t:=cG (r.getD 0 0) (r.getD 511 0)) (by have:=gw (r.getD 0 0) (r.getD 511 0);omega) 1 (by rw [aG q]);simp only;rw [this]
 .rw [aB q];have:=tQ (data:= []) c d b a (by simp) h (t:=cG (l.getD 0 0) (l.getD 511 0)) (by have:=gw (l.getD 0 0) (l.getD 511 0);omega) 0 (by rw [aB q]);simp only;rw [this]
def iX (S:DS) (s f:Nat) (num:Int):(dg S s f num).2.life=S.life:=by
 unfold dg;split
 .rfl
 .split
  .rfl
  .split
   .exact kE _ _ _ _ _
   .rw [fZ,kE]
def DS.num (S:DS) (f:Nat):Nat:=(am (S.now f) (S.now (f+1))).2.1
def uo (h:S.Ok s) (c:f+1<s) (b:1<=N) (g:N<9223372036854775808) (bq:S.num f<N) (h0:(dg S s f (N:Int)).1=0):(dg S s f (N:Int)).2.num f=N/\(dg S s f (N:Int)).2.puts= []:=by
 have d:=bA h f (by omega);have e:=bA h (f+1) c;have dw:=iF d e b bq;have a:=Kt d e b g bq;have mX:=fW (S.now f) (S.now (f+1)) (N:Int) [];have FB:=kQ (S.now f) (S.now (f+1)) (N:Int) [] dw;unfold dg at*;split at h0
 .simp at h0
 .rename_i xO;rw [aB xO];rw [aB (by omega)] at h0⊢;generalize aP (S.now f) (S.now (f+1)) (N:Int) []=Y at*;rw [show (f:Int)+(Y.1:Int)=((f+Y.1:Nat):Int) by omega] at h0⊢;have V0:(S.wr s ((f+Y.1:Nat):Int) 512 Y.2.1).1=0:=by rw [pf xO (by omega)]
  rw [aB (by omega)] at h0⊢;have N5:=um h xO (show f+Y.1<s by omega) FB;refine⟨?_,jn h0⟩;unfold DS.num;rw [fa N5 (by omega),fa N5 c,jN xO (by omega),jN xO (by omega)];unfold za at a;by_cases q:Y.1=0
  .rw [q] at a⊢;rw [aG (by omega),aB (by omega)];rw [aG rfl] at a;exact a
  .have i:Y.1=1:=(by omega);rw [i] at a⊢;rw [aB (by omega),aG rfl];rw [aB (by omega)] at a;exact a
def qh {num:Int} (c:f+1<s) (dw:(aP (S.now f) (S.now (f+1)) num []).2.2=0) (h0:(dg S s f num).1≠0):(dg S s f num).2.fuse=0/\(dg S s f num).2.puts.length<=S.puts.length+1:=by
 have mX:=fW (S.now f) (S.now (f+1)) num [];unfold dg at*;split at h0
 .rename_i xO;rw [aG xO];exact⟨xO,Nat.le_succ _⟩
 .rename_i xO;rw [aB xO];rw [aB (by omega)] at h0⊢;generalize aP (S.now f) (S.now (f+1)) num []=Y at*;rw [show (f:Int)+(Y.1:Int)=((f+Y.1:Nat):Int) by omega] at h0⊢;have V0:(S.wr s ((f+Y.1:Nat):Int) 512 Y.2.1).1=0:=by rw [pf xO (by omega)]
  rw [aB (by omega)] at h0⊢;obtain⟨a,b,_⟩:=lD h0;rw [a];exact⟨b,jk _ _ _ _ _⟩
def N6 (S:DS) (s f n E P i c:Nat) (l:List Int):(j2 S s f n E P i c l).2.life=S.life:=by
 unfold j2;split
 .rfl
 .exact kE _ _ _ _ _
def RD (b:1<=n) (e:f+2+n<=s) (d:j<f+2):(j2 S s f n E P i c l).2.now j=S.now j:=by
 have:=Nat.mod_lt P b;unfold j2;split
 .rfl
 .rename_i a;rw [jN a (by omega),aB (by omega)]
def RE (b:1<=n) (d:f+2+n<=s) (h:(j2 S s f n E P i c l).1≠0):(j2 S s f n E P i c l).2.fuse=0:=by
 have:=Nat.mod_lt P b;unfold j2 at*;split at h
 .rename_i a;rw [aG a];exact a
 .rename_i a;rw [pf a (by omega)] at h;exact absurd rfl h
def mI {L:LG} {S:DS} {s:Nat} {d:List Int} (a:1<=L.n) (b:L.f+2+L.n<=s):∀k,(cX L S s d k).2.life=S.life/\(∀j,j<L.f+2->(cX L S s d k).2.now j=S.now j)/\((cX L S s d k).1≠0->(cX L S s d k).2.fuse=0)/\(cX L S s d k).2.puts.length<=S.puts.length+k
 |0=>⟨rfl,λ_ _=>rfl,λh=>absurd rfl h,bR _⟩
 |k+1=>by
  obtain⟨c,g,l,m⟩:=mI (L:=L) (S:=S) (d:=d) a b k;by_cases e:(cX L S s d k).1=0
  .have:cX L S s d (k+1)=j2 (cX L S s d k).2 s L.f L.n L.ep (L.head+k) k (di d.length) (partOf d k):=ju e;rw [this];refine⟨(N6 _ _ _ _ _ _ _ _ _).trans c,λj i=>(RD a b i).trans (g j i),λh=>RE a b h,?_⟩;have:=CY (cX L S s d k).2 s L.f L.n L.ep (L.head+k) k (di d.length) (partOf d k);omega
  .have:cX L S s d (k+1)=cX L S s d k:=gD e (k+1) (by omega);rw [this];exact⟨c,g,l,by omega⟩
def lN {S:DS} {s f n:Nat} (h:S.Ok s) (o:f+n<=s):∀k,k<=n->(bF S s f k).2.life=S.life/\(bF S s f k).2.Ok s/\((bF S s f k).1≠0->(bF S s f k).2.fuse=0)/\((bF S s f k).1=0->∀j,j<k->(bF S s f k).2.now (f+j)=zs 512)
 |0,_=>⟨rfl,h,λh=>absurd rfl h,λ_ j m=>by omega⟩
 |k+1,hk=>by
  obtain⟨c,d,i,l⟩:=lN h o k (by omega);by_cases e:(bF S s f k).1=0
  .have b:bF S s f (k+1)=(bF S s f k).2.wr s ((f+k:Nat):Int) 512 (zs 512):=ju e;rw [b];by_cases a:(bF S s f k).2.fuse=0
   .have g:(bF S s f k).2.wr s ((f+k:Nat):Int) 512 (zs 512)=(3,(bF S s f k).2):=(by unfold DS.wr;rw [aG a]);rw [g];exact⟨c,d,λ_=>a,λh=>by simp at h⟩
   .refine⟨(kE _ _ _ _ _).trans c,um d a (by omega) (bH 512),λh=>?_,λ_ j m=>?_⟩
    .rw [pf a (by omega)] at h;exact absurd rfl h
    .rw [jN a (by omega)];by_cases q:j=k
     .rw [aG (by omega)]
     .rw [aB (by omega)];exact l e j (by omega)
  .have b:bF S s f (k+1)=bF S s f k:=gD e (k+1) (by omega);rw [b];exact⟨c,d,i,λh=>absurd h e⟩
def uq:(az (zs 512)).1=0:=by
 have a:dJ (zs 512)= []:=by
  unfold dJ;rw [show dP (zs 512)=0 from by unfold dP;rw [show (zs 512).getD 1 0=0 from rfl,show (zs 512).getD 2 0=0 from rfl];rfl];exact List.take_zero
 have b:az (zs 512)=(0, []):=by
  refine fq ?_;unfold fC;split
  .exact .inr ⟨_,rfl, .inl (by rw [a];decide)⟩
  .exact .inl rfl
 rw [b]
def En:(am (zs 512) (zs 512)).2.1=0:=by
 rw [l7 (bH 512) (bH 512),aG ⟨uq,uq⟩]
def kS (h:S.Ok s) (k:f+2+n<=s):(cO S s f n).2.life=S.life/\(cO S s f n).2.Ok s/\((cO S s f n).1≠0->(cO S s f n).2.fuse=0)/\((cO S s f n).1=0->(cO S s f n).2.num f=0/\(cO S s f n).2.puts= []):=by
 obtain⟨b,a,i,c⟩:=lN (f:=f) h (n:=n+2) (by omega) (n+2) (bR _);unfold cO;by_cases e:(bF S s f (n+2)).1=0
 .rw [aB (by omega)];refine⟨(fZ _ _).trans b,so a,λh=>?_,λh=>⟨?_,jn h⟩⟩
  .obtain⟨d,g,_⟩:=lD h;rw [d];exact g
  .unfold DS.num;have j:(bF S s f (n+2)).2.now f=zs 512:=c e 0 (by omega);rw [fa a (by omega),fa a (by omega),j,(c e 1 (by omega))];exact En
 .rw [aG e];exact⟨b,a,i,λh=>absurd h e⟩
section
def LG.Fit (L:LG) (S:DS):Prop:=
   (L.begun=true->S.puts.length<=L.head-L.tail/\S.num L.f<=L.ep*4294967296+L.tail)/\(L.begun=false->S.puts.length=0/\S.num L.f<(L.top+1)*4294967296)
def jz {t:Nat} (h0:0<=x) (a:x<=t) (b:t<=1000000000000000000):wrap64 (x+1)=x+1:=by
 unfold wrap64;omega
section
variable {S S':DS} {s t i:Nat} {ls:List LG} {L L':LG}
def Eo (h:S.Ok s) (a:f+1<s):(S.fl s).2.num f=S.num f:=by
 unfold DS.num;rw [fa h (by omega),fa h a]
def LG.opened (S:DS) (f n hd:Nat):LG:={LG.new S f n with ep:=(cm S f).1,tail:=(cm S f).2.1,head:=hd,top:=is S f n}
end
end
section
namespace V
structure Inv (S:DS) (s:Nat) (ls:List LG) (t:Nat):Prop where
 ok:S.Ok s
 qi:S.fN
 p6:S.puts.length<=6000
 p2:S.fuse≠0->S.puts.length<=256
 l0:0<=S.life
 lt:S.life<=t
 ol:∀L∈ls,L.Ok s/\L.life<=S.life
 li:(ls.map LG.life).Pairwise (·< ·)
 al:∀L∈ls,L.life=S.life->S.fuse≠0->L.Fit S
def jz {t:Nat} (h0:0<=x) (a:x<=t) (b:t<=1000000000000000000):wrap64 (x+1)=x+1:=by
 unfold wrap64;omega
section
variable {S S':DS} {s t i:Nat} {ls:List LG} {L L':LG}
def Inv.zero (c:S.Ok s) (qi:S.fN) (d:S.puts.length=0) (a:0<=S.life) (b:S.life<=t):Inv S s [] t:=
   ⟨c,qi,by omega,λ_=>by omega,a,b,λ_ h=>(by cases h),List.Pairwise.nil,λ_ h=>(by cases h)⟩
def Inv.step (h:Inv S s ls t):Inv S s ls (t+1):=⟨h.ok,h.qi,h.p6,h.p2,h.l0,by have:=h.lt;omega,h.ol,h.li,h.al⟩
def Inv.next (h:Inv S s ls t) (b:S'.Ok s) (qi:S'.fN) (d:S'.puts.length<=6000) (c:S'.fuse≠0->S'.puts.length<=256) (f:S'.life=S.life+1):Inv S' s ls (t+1):=by
 refine⟨b,qi,d,c,by have:=h.l0;omega,by have:=h.lt;omega,λL a=>⟨(h.ol L a).1,?_⟩,h.li,λL a e=>?_⟩
 .have:=(h.ol L a).2;omega
 .have:=(h.ol L a).2;omega
def Inv.at (h:Inv S s ls t) (a:ls[i]? =some L):L.Ok s/\L.life<=S.life:=h.ol L (gB a)
def qq (h:(ls.map LG.life).Pairwise (·< ·)) (g:ls[i]? =some L) (k:ls[j]? =some L') (e:L'.life=L.life):j=i:=by
 rw [List.pairwise_iff_getElem] at h;obtain⟨d,b⟩:=mS.1 g;obtain⟨f,c⟩:=mS.1 k;rcases Nat.lt_trichotomy j i with a|a|a
 .have:=h j i (by simpa using f) (by simpa using d) a;simp only [List.getElem_map,b,c] at this;omega
 .exact a
 .have:=h i j (by simpa using d) (by simpa using f) a;simp only [List.getElem_map,b,c] at this;omega
def Inv.on (h:Inv S s ls t) (g:ls[i]? =some L) (p:L.life=S.life) (l:S'.Ok s) (qi:S'.fN) (q:S'.life=S.life) (m:S'.puts.length<=6000) (b:L'.Ok s) (UB:L'.life=L.life) (c:S'.fuse≠0->L'.Fit S'):Inv S' s (ls.set i L') t:=by
 have bq:=(mS.1 g).1;have rI:∀M∈ls.set i L',M=L'\/∃j,j≠i/\ls[j]? =some M:=λM d=>by
  obtain⟨j,a⟩:=List.mem_iff_getElem?.1 d;by_cases e:j=i
  .subst e;rw [rR bq] at a;exact .inl (Option.some.inj a).symm
  .rw [su (λh=>e h.symm)] at a;exact .inr ⟨j,e,a⟩
 refine⟨l,qi,m,λf=>?_,by have:=h.l0;omega,by have:=h.lt;omega,λM d=>?_,?_,λM d e f=>?_⟩
 .have:=c f;unfold LG.Fit at this;have n:=b.hn;have o:=b.n2;cases k:L'.begun with
  |true=>have:=(this.1 k).1;omega
  |false=>have:=(this.2 k).1;omega
 .rcases rI M d with rfl|⟨j,_,a⟩
  .exact⟨b,by omega⟩
  .have:=h.at a;exact⟨this.1,by omega⟩
 .rw [List.map_set,UB];have:ls.map LG.life=(ls.map LG.life).set i L.life:=by
   apply List.ext_getElem?;intro j;by_cases e:j=i
   .subst e;rw [rR (by simpa using bq),BE,g];rfl
   .rw [su (λh=>e h.symm)]
  rw [<-this];exact h.li
 .rcases rI M d with rfl|⟨j,dM,a⟩
  .exact c f
  .exact absurd (qq h.li g a (by omega)) dM
def Inv.same (h:Inv S s ls t) (a:ls[i]? =some L):Inv S s (ls.set i L) t:=by
 have:ls.set i L=ls:=by
  apply List.ext_getElem?;intro j;by_cases e:j=i
  .subst e;rw [rR (mS.1 a).1,a]
  .rw [su (λh=>e h.symm)]
 rw [this];exact h
def jO (h:L.dead S=false):L.life=S.life/\S.fuse≠0:=by
 unfold LG.dead at h;rw [Bool.or_eq_false_iff] at h;have a:=h.1;rw [fy] at a;have:S.life=L.life:=by simpa using h.2
 exact⟨this.symm,a⟩
def kq (h:L.bm S=0):L.dead S=false/\L.begun=true:=by
 unfold LG.bm at h;split at h
 .omega
 .rename_i a;split at h
  .rename_i b;exact⟨by simpa using a,b⟩
  .omega
def Eo (h:S.Ok s) (a:f+1<s):(S.fl s).2.num f=S.num f:=by
 unfold DS.num;rw [fa h (by omega),fa h a]
def Inv.take (h:Inv S s ls t) (a:t<=1000000000000000000):Inv S.take s ls (t+1):=
 h.next ⟨h.ok.len,h.ok.lo,h.ok.hi,h.ok.puts,h.ok.fuse⟩ h.qi.take h.p6 h.p2 (jz h.l0 h.lt a)
def Inv.iA (h:Inv S s ls t) (a:t<=1000000000000000000) (l:List P3) (b:(S.iA s l).Ok s):Inv (S.iA s l) s ls (t+1):=
 h.next b (h.qi.iA s l) (dL _) (λ_=>dL _) (jz h.l0 h.lt a)
def RF (S:DS) (x:Int):(S.lay x).puts=S.puts/\(S.lay x).life=S.life/\(S.lay x).im=S.im/\((S.lay x).fuse≠0->S.fuse≠0):=by
 unfold DS.lay;split
 .exact⟨rfl,rfl,rfl,λh=>h⟩
 .rename_i h;exact⟨rfl,rfl,rfl,λ_=>h⟩
def Inv.lay (h:Inv S s ls t) (x:Int) (j:(S.lay x).Ok s):Inv (S.lay x) s ls t:=by
 obtain⟨a,b,i,f⟩:=RF S x;refine⟨j,h.qi.lay x,by rw [a];exact h.p6,λd=>by rw [a];exact h.p2 (f d),by rw [b];exact h.l0,by rw [b];exact h.lt,λL c=>by rw [b];exact h.ol L c,h.li,λL c e d=>?_⟩;have:=h.al L c (by rw [<-b];exact e) (f d);have g:∀k,(S.lay x).now k=S.now k:=λk=>by unfold DS.now DS.gM;rw [a,i]
 unfold LG.Fit DS.num at*;rw [g,g,a];exact this
def Inv.sync (h:Inv S s ls t) (a:ls[i]? =some L):Inv (L.sync S s).2 s (ls.set i L) t:=by
 unfold LG.sync;split
 .exact h.same a
 .rename_i k;obtain⟨hd,f⟩:=kq (Decidable.of_not_not k);obtain⟨d,g⟩:=jO hd;have b:=(h.at a).1;have m:=b.s;have l:=b.n1;by_cases e:(S.fl s).1=0
  .have j:=jn e;refine h.on a d (so h.ok) (h.qi.fl s) (fZ S s) (by rw [j];exact dL _) b rfl (λ_=>⟨λ_=>⟨by rw [j];exact dL _,?_⟩,λc=>by rw [f] at c;cases c⟩);rw [Eo h.ok (by omega)];exact((h.al L (gB a) d g).1 f).2
  .have:=lD e;exact absurd this.2.1 g
def Inv.start (h:Inv S s ls t) (d:ls[i]? =some L) (a:(L.start S s).2.1.Ok s):Inv (L.start S s).2.1 s (ls.set i (L.start S s).2.2) t:=by
 unfold LG.start at*;split
 .exact h.same d
 .rename_i hd;rw [aB hd] at a;obtain⟨j,n⟩:=jO (by simpa using hd:L.dead S=false);split
  .exact h.same d
  .rename_i k;rw [aB k] at a;have eI:L.begun=false:=(by simpa using k);have b:=(h.at d).1;have FJ:=(h.al L (gB d) j n).2 eI;obtain⟨q,o,r⟩:=kH b.s b.n1 b.top;have l:(((L.top+1:Nat):Int)*4294967296+((0:Nat):Int))=(((L.top+1)*4294967296:Nat):Int):=(by omega);rw [l] at a⊢;obtain⟨N,m⟩:=bP ((L.top+1)*4294967296);rw [<-m] at a FJ⊢;have p:=iF (bA h.ok L.f (by omega)) (bA h.ok (L.f+1) (by omega)) (N:=N) (by omega) FJ.2;split
   .rename_i h0;rw [aG h0] at a;obtain⟨e,g⟩:=qh (by omega) p h0
    dsimp only at a⊢
    exact h.on d j a (h.qi.dg s L.f _) (iX _ _ _ _) (by omega) b rfl (λc=>absurd e c)
   .rename_i h0;rw [aB h0] at a;obtain⟨e,g⟩:=uo (s:=s) (f:=L.f) (N:=N) h.ok (by omega) (by omega) (by omega) FJ.2 (Decidable.of_not_not h0)
    dsimp only at a⊢
    refine h.on d j a (h.qi.dg s L.f _) (iX _ _ _ _) (by rw [g];exact dL _) ⟨q,o,b.n2,by show L.top+1<=_;omega,b.top,bR _,by show 0<=_;omega,by show 0<=_;omega,λ_=>by show 0<=_;omega⟩ rfl (λ_=>⟨λ_=>⟨by rw [g];exact dL _,?_⟩,λc=>by cases c⟩);show (dg S s L.f (N:Int)).2.num L.f<=(L.top+1)*4294967296+0;rw [e];omega
def Ku (h:L.fY S i=0):L.bm S=0/\1<=i/\i<=8364/\L.head+di i<=1073741824/\L.head+di i<=L.tail+L.n:=by
 unfold LG.fY at h
 repeat' split at h
 all_goals first|omega|(rename_i a b c d e;exact⟨by omega,by omega,by omega,by omega,by omega⟩)
def N7 (h:S.fN) (hd:Bytes d) (k:Nat):(cX L S s d k).2.fN:=
 mG h (λj T a=>by
  unfold j2;split
  .exact a
  .exact a.wr s _ _ (wO (mH ((hd.drop _).take _)))) k
def Inv.append (h:Inv S s ls t) (e:ls[i]? =some L) (hd:Bytes d) (b:(L.append S s d).2.1.Ok s):Inv (L.append S s d).2.1 s (ls.set i (L.append S s d).2.2) t:=by
 unfold LG.append at*;split
 .exact h.same e
 .rename_i j;rw [aB j] at b;obtain⟨r,jL,mq,p,w⟩:=Ku (Decidable.of_not_not j);obtain⟨yR,k⟩:=kq r;obtain⟨g,l⟩:=jO yR;have a:=(h.at e).1;have FJ:=(h.al L (gB e) g l).1 k;obtain⟨m,q,lJ,eh,vj⟩:=eQ a.s a.n1 a.n2 a.th (h.p2 l);have v:di d.length<=17:=by unfold di;omega
  obtain⟨n,o,u,x⟩:=mI (L:=L) (S:=S) (s:=s) (d:=d) (by omega) m (di d.length);have dO:=N7 (L:=L) (s:=s) h.qi hd (di d.length);split
  .rename_i h0;rw [aG h0] at b
   dsimp only at b⊢
   exact h.on e g b dO n (by omega) a rfl (λc=>absurd (u h0) c)
  .rename_i h0;rw [aB h0] at b
   dsimp only at b⊢
   refine h.on e g b dO n (by omega) ⟨m,q,lJ,a.ep,a.top,by show L.tail<=L.head+_;omega,by show L.head+_<=_;omega,by show L.head+_<=_;omega,λ_=>p⟩ rfl (λ_=>⟨λ_=>⟨?_,?_⟩,λc=>by rw [show ({L with head:=L.head+di d.length}:LG).begun=L.begun from rfl,k] at c;cases c⟩)
   .show _<=L.head+di d.length-L.tail;omega
   .show DS.num _ L.f<=_;unfold DS.num;rw [o L.f (by omega),o (L.f+1) (by omega)];exact FJ.2
def Inv.format (h:Inv S s ls t) (q:t<=1000000000000000000) (f n:Int) (d:(cD S s f n).2.Ok s):Inv (cD S s f n).2 s ls (t+1):=by
 unfold cD at*;split
 .exact h.step
 .rename_i j;rw [aB j] at d;obtain⟨o,a,b,rfl,rfl,oN,ar,bd⟩:=fX (Decidable.of_not_not j);simp only [mx] at*;have zM:=jz h.l0 h.lt q;have dw:S.take.Ok s:=⟨h.ok.len,h.ok.lo,h.ok.hi,h.ok.puts,h.ok.fuse⟩;obtain⟨l,g,r,u⟩:=kS (f:=a) (n:=b) dw oN;have x:=sI S.take s a b;have vj:S.take.puts.length<=256:=h.p2 o;split
  .rename_i h0;rw [aG h0] at d;exact h.next d (h.qi.take.Rl s a b) (by omega) (λc=>absurd (r h0) c) (l.trans zM)
  .rename_i h0;rw [aB h0] at d;obtain⟨m,v⟩:=u (Decidable.of_not_not h0);have p:=iF (bA g a (by omega)) (bA g (a+1) (by omega)) (N:=4294967296) (by omega) (by show DS.num _ a<_;rw [m];omega);have fK:=(iX (cO S.take s a b).2 s a 4294967296).trans (l.trans zM);by_cases k:(dg (cO S.take s a b).2 s a 4294967296).1=0
   .obtain⟨i,e⟩:=uo (s:=s) (f:=a) (N:=4294967296) g (by omega) (by omega) (by omega) (by rw [m];omega) k;have w:(dg (cO S.take s a b).2 s a 4294967296).2.puts.length=0:=congrArg List.length e;exact h.next d ((h.qi.take.Rl s a b).dg s a _) (by omega) (λ_=>by omega) fK
   .obtain⟨i,e⟩:=qh (by omega) p k;rw [v] at e;exact h.next d ((h.qi.take.Rl s a b).dg s a _) (k9 e (by simp)) (λc=>absurd i c) fK
def Inv.yr (h:Inv S s ls t) (b:t<=1000000000000000000) (f n:Int) (a:(bC S s f n).1≠0):Inv (bC S s f n).2 s ls (t+1):=by
 unfold bC at*;split
 .exact h.step
 .rename_i d;rw [aB d] at a;split
  .exact h.take b
  .rename_i e;rw [aB e] at a;split
   .exact h.take b
   .rename_i g;rw [aB g] at a;obtain⟨c,i,_⟩:=lD a;rw [c];exact h.take b
def Inv.opened (h:Inv S s ls t) (A:t<=1000000000000000000) (f n:Int) (m:(bC S s f n).2.Ok s) (d:(bC S s f n).1=0) (u:(cm S f.toNat).2.1<=hd) (v:hd<=(cm S f.toNat).2.1+n.toNat):Inv (bC S s f n).2 s (ls ++ [LG.opened S f.toNat n.toNat hd]) (t+1):=by
 unfold bC at*;split
 .rename_i l;rw [aG l] at d;exact absurd d l
 .rename_i l;rw [aB l] at m d;split
  .rename_i j;rw [aG j] at d;exact absurd (Int.ofNat_eq_zero.1 d) j
  .rename_i j;rw [aB j] at m d;split
   .rename_i p;rw [aG p] at d;cases d
   .rename_i p;rw [aB p] at m d;obtain⟨z,a,b,rfl,rfl,oN,ar,bd⟩:=fX (Decidable.of_not_not l);simp only [mx] at*;have zM:=jz h.l0 h.lt A;have dw:S.take.Ok s:=⟨h.ok.len,h.ok.lo,h.ok.hi,h.ok.puts,h.ok.fuse⟩;have o:=jn d;have fK:(S.take.fl s).2.life=S.life+1:=(fZ _ _).trans zM;have E:=yu (Decidable.of_not_not j);have PJ:=Em (n:=b) (Decidable.of_not_not j);have i:=h.next m (h.qi.take.fl s) (by rw [o];exact dL _) (λ_=>by rw [o];exact dL _) fK;have w:(LG.opened S a b hd).life=S.life+1:=zM;refine⟨i.ok,i.qi,i.p6,i.p2,i.l0,i.lt,λM k=>?_,?_,λM k e z=>?_⟩
    .rcases List.mem_append.1 k with g|g
     .exact i.ol M g
     .obtain rfl:=List.mem_singleton.1 g;refine⟨⟨oN,ar,bd,E.2.1,?_,u,v,?_,λc=>by cases c⟩,by omega⟩
      .show is S a b<_;omega
      .show hd<=_;omega
    .rw [List.map_append,List.pairwise_append];refine⟨h.li,List.pairwise_singleton _ _,λx C y D=>?_⟩;obtain⟨M,k,rfl⟩:=List.mem_map.1 C;have:=(h.ol M k).2;simp only [List.map_cons,List.map_nil,List.mem_singleton] at D;omega
    .rcases List.mem_append.1 k with g|g
     .have:=(h.ol M g).2;omega
     .obtain rfl:=List.mem_singleton.1 g;refine⟨λc=>(by cases c),λ_=>⟨(by rw [o];rfl),?_⟩⟩;rw [show (LG.opened S a b hd).f=a from rfl,Eo dw (by omega)];have r:S.take.num a=S.num a:=rfl;have G:(cm S a).1=S.num a / 4294967296:=by
       have q:=Decidable.of_not_not j;unfold cm il at*;split at q
       .cases q
       .rename_i F;rw [aB F];rfl
      have H:(cm S a).1<=is S a b:=(by unfold is;omega);rw [r];show S.num a<(is S a b+1)*4294967296;omega
end
end V
end
abbrev CM:=List (Nat×List Int)
def CM.get:CM->Nat->Option (List Int)
 | [],_=>none
 |q :: qs,k=>if q.1=k then some q.2 else CM.get qs k
def CM.put:CM->Nat->List Int->CM
 | [],k,c=> [(k,c)]
 |q :: qs,k,c=>if k<q.1 then (k,c) :: q :: qs else if k=q.1 then (k,c) :: qs else q :: CM.put qs k c
def CM.Ok (ms:CM):Prop:=ms.Pairwise (λa b=>a.1<b.1)
def CM.keys (ms:CM):List Nat:=ms.map (·.1)
namespace CM
def l9 (q:Nat×List Int) (a:CM) (k:Nat):get (q :: a) k=if q.1=k then some q.2 else get a k:=rfl
def kT {ms:CM} (h:∀q∈ms,q.1≠k):get ms k=none:=by
 induction ms with
 |nil=>rfl
 |cons q c b=>
  unfold get;rw [aB (h q List.mem_cons_self)];exact b (λx a=>h x (List.mem_cons_of_mem _ a))
def get_mem {ms:CM} {c:List Int} (h:get ms k=some c):(k,c)∈ms:=by
 induction ms with
 |nil=>cases h
 |cons q b a=>
  unfold get at h;split at h
  .rename_i e;cases h;rw [<-e];exact List.mem_cons_self
  .exact List.mem_cons_of_mem _ (a h)
def get_of_mem {ms:CM} (b:Ok ms) {c:List Int} (h:(k,c)∈ms):get ms k=some c:=by
 induction ms with
 |nil=>cases h
 |cons q f d=>
  unfold get;rcases List.mem_cons.1 h with e|a
  .rw [<-e,aG rfl]
  .have:=(List.pairwise_cons.1 b).1 (k,c) a;rw [aB (by simp only at this;omega)];exact d (List.pairwise_cons.1 b).2 a
def kF (ms:CM) (k:Nat) (c:List Int) (j:Nat) (d:Ok ms):get (put ms k c) j=if j=k then some c else get ms j:=by
 induction ms with
 |nil=>
  unfold put;simp only [get];by_cases e:j=k
  .rw [aG e.symm,aG e]
  .rw [aB (λh=>e h.symm),aB e]
 |cons q g f=>
  unfold put;by_cases b:k<q.1
  .rw [aG b];by_cases e:j=k
   .rw [aG e];unfold get;rw [aG e.symm]
   .rw [aB e]
    conv=>lhs;unfold get
    rw [aB (λh=>e h.symm)]
  .rw [aB b];by_cases a:k=q.1
   .rw [aG a];by_cases e:j=k
    .rw [aG e];unfold get;rw [aG e.symm]
    .rw [aB e]
     conv=>lhs;unfold get
     conv=>rhs;unfold get
     rw [aB (λh=>e h.symm),aB (λh=>e (a▸h.symm))]
   .rw [aB a]
    conv=>lhs;unfold get
    by_cases e:q.1=j
    .rw [aG e,aB (λh=>a (h.symm.trans e.symm))]
     conv=>rhs;unfold get
     rw [aG e]
    .rw [aB e,f (List.pairwise_cons.1 d).2]
     conv=>rhs;rhs;unfold get
     rw [aB e]
def rg {ms:CM} {c:List Int} {q:Nat×List Int} (h:q∈put ms k c):q=(k,c)\/q∈ms:=by
 induction ms with
 |nil=>
  unfold put at h;exact .inl (List.mem_singleton.1 h)
 |cons x xs a=>
  unfold put at h;split at h
  .rcases List.mem_cons.1 h with h|h
   .exact .inl h
   .exact .inr h
  .split at h
   .rcases List.mem_cons.1 h with h|h
    .exact .inl h
    .exact .inr (List.mem_cons_of_mem _ h)
   .rcases List.mem_cons.1 h with h|h
    .exact .inr (h▸List.mem_cons_self)
    .exact(a h).imp id (List.mem_cons_of_mem _)
def vD {ms:CM} (d:Ok ms) (k:Nat) (c:List Int):Ok (put ms k c):=by
 induction ms with
 |nil=>exact List.pairwise_singleton _ _
 |cons x xs e=>
  have b:=List.pairwise_cons.1 d;unfold put;split
  .rename_i h;refine List.pairwise_cons.2 ⟨λy a=>?_,d⟩;rcases List.mem_cons.1 a with rfl|a
   .exact h
   .exact Nat.lt_trans h (b.1 y a)
  .split
   .rename_i h;exact List.pairwise_cons.2 ⟨λy a=>by show k<y.1;rw [h];exact b.1 y a,b.2⟩
   .rename_i f g;refine List.pairwise_cons.2 ⟨λy a=>?_,e b.2⟩;rcases rg a with rfl|a
    .show x.1<k;omega
    .exact b.1 y a
def sO {ms:CM} (g:Ok ms) (k:Nat) (c:List Int):(put ms k c).length=if (get ms k).isSome then ms.length else ms.length+1:=by
 induction ms with
 |nil=>rfl
 |cons x xs i=>
  have f:=List.pairwise_cons.1 g;unfold put;by_cases d:k<x.1
  .rw [aG d,kT (λq b=>by
    rcases List.mem_cons.1 b with rfl|b
    .omega
    .have:=f.1 q b;omega)]
   rfl
  .rw [aB d];by_cases a:k=x.1
   .rw [aG a];unfold get;rw [aG a.symm];rfl
   .rw [aB a];have e:get (x :: xs) k=get xs k:=(by rw [l9,aB (λh=>a h.symm)]);rw [e,List.length_cons,i f.2,List.length_cons];split <;> rfl
def ext:∀{ms ns:CM},Ok ms->Ok ns->(∀k,get ms k=get ns k)->ms=ns
 | [], [],_,_,_=>rfl
 | [],q :: qs,_,_,h=>by
  have:=h q.1;unfold get at this;rw [aG rfl] at this;cases this
 |q :: qs, [],_,_,h=>by
  have:=h q.1;unfold get at this;rw [aG rfl] at this;cases this
 |(a,c) :: qs,(b,d) :: rs,h1,h2,h=>by
  have l:=List.pairwise_cons.1 h1;have m:=List.pairwise_cons.1 h2;have f:=h a;have i:=h b;unfold get at f i;rw [aG rfl] at f;by_cases e:a=b
  .subst e;rw [aG rfl] at f;cases f;congr 1;refine ext l.2 m.2 (λk=>?_);by_cases g:k=a
   .subst g;rw [kT (λq j=>by have:=l.1 q j;simp only at this;omega),kT (λq j=>by have:=m.1 q j;simp only at this;omega)]
   .have:=h k;unfold get at this;rwa [aB (λh=>g h.symm),aB (λh=>g h.symm)] at this
  .exfalso;rw [aB (λh=>e h.symm)] at f;rw [aB e,aG rfl] at i;have n:=m.1 _ (get_mem f.symm);have o:=l.1 _ (get_mem i);simp only at n o;omega
def V9 {ms:CM} (a:Ok ms):(keys ms).Pairwise (·< ·):=List.Pairwise.map _ (λ_ _ h=>h) a
def bU (ms ns:CM):CM:=ns.foldl (λm q=>put m q.1 q.2) ms
def rh {ms:CM} (a:Ok ms):∀(ns:CM),Ok (bU ms ns):=λns=>by
 induction ns generalizing ms with
 |nil=>exact a
 |cons q c b=>exact b (vD a _ _)
def RG {ms:CM} (a:Ok ms) (k:Nat):∀{ns:CM},Ok ns->get (bU ms ns) k=(get ns k).or (get ms k):=λ{ns} b=>by
 induction ns generalizing ms with
 |nil=>rfl
 |cons q f d=>
  have p:=List.pairwise_cons.1 b;show get (bU (put ms q.1 q.2) f) k=_;rw [d (vD a _ _) p.2,kF _ _ _ _ a];rw [l9];by_cases e:k=q.1
  .rw [aG e,aG e.symm,kT (λx c=>by have:=p.1 x c;omega)];rfl
  .rw [aB e,aB (λh=>e h.symm)]
end CM
def jC:List (Nat×List Int)->Nat->Option (List Int)
 | [],_=>none
 |q :: qs,b=>(jC qs b).or (if q.1=b then some q.2 else none)
def uY {b:Nat} (h:∀q∈ps,q.1≠b):jC ps b=none:=by
 induction ps with
 |nil=>rfl
 |cons q d c=>rw [jC,c (λx a=>h x (List.mem_cons_of_mem _ a)),aB (h q List.mem_cons_self)];rfl
def mh (a c:List (Nat×List Int)) (b:Nat):jC (a ++ c) b=(jC c b).or (jC a b):=by
 induction a with
 |nil=>simp [jC]
 |cons q d e=>
  show (jC (d ++ c) b).or _=(jC c b).or ((jC d b).or _);rw [e,Option.or_assoc]
def Fp {b:Nat} {c:List Int} (h:jC ps b=some c):(b,c)∈ps:=by
 induction ps with
 |nil=>cases h
 |cons q f d=>
  rw [jC] at h;cases a:jC f b with
  |some x=>
   rw [a] at h;cases h;exact List.mem_cons_of_mem _ (d a)
  |none=>
   rw [a] at h;by_cases e:q.1=b
   .rw [aG e] at h;cases h;rw [<-e];exact List.mem_cons_self
   .rw [aB e] at h;cases h
def Uu {b:Nat} (d:i<ps.length) (c:ps[i].1=b) (g:∀j (f:j<ps.length),i<j->ps[j].1≠b):jC ps b=some ps[i].2:=by
 have e:ps=ps.take i ++ ps[i] :: ps.drop (i+1):=by rw [<-List.drop_eq_getElem_cons d,List.take_append_drop]
 have k:jC (ps.drop (i+1)) b=none:=uY (λq l=>by
  obtain⟨j,f,rfl⟩:=List.mem_iff_getElem.1 l;rw [List.getElem_drop];exact g _ _ (by omega))
 have a:=mh (ps.take i) (ps[i] :: ps.drop (i+1)) b;rw [<-e,jC,k,aG c] at a;rw [a];simp
def CZ (b:Nat):∀{ms:CM},CM.Ok ms->CM.get (CM.bU ms ps) b=(jC ps b).or (CM.get ms b):=by
 induction ps with
 |nil=>intro ms _;rfl
 |cons q d c=>
  intro ms a;show CM.get (CM.bU (CM.put ms q.1 q.2) d) b=_;rw [c (CM.vD a _ _),CM.kF _ _ _ _ a,jC,Option.or_assoc];congr 1;by_cases e:b=q.1
  .rw [aG e,aG e.symm];rfl
  .rw [aB e,aB (λh=>e h.symm)];rfl
def qt (ms a c:CM):CM.bU ms (a ++ c)=CM.bU (CM.bU ms a) c:=List.foldl_append
def rZ:CM.Ok []:=List.Pairwise.nil
def ib (ps:List (Nat×List Int)) (b:Nat):CM.get (CM.bU [] ps) b=jC ps b:=by rw [CZ b rZ];simp [CM.get]
def below (ms:CM) (b:Nat):CM:=ms.filter (λq=>decide (q.1<b))
def oO {ms:CM} {b:Nat} (h:∀q∈ms,¬q.1<b):below ms b= []:=by
 unfold below;rw [List.filter_eq_nil_iff];intro q a;simpa using h q a
def C0 {ms:CM} {b:Nat} (h:∀q∈ms,q.1<b):below ms b=ms:=by
 unfold below;rw [List.filter_eq_self];intro q a;simpa using h q a
def sP (q:Nat×List Int) (a:CM) (b:Nat):below (q :: a) b=if q.1<b then q :: below a b else below a b:=by
 unfold below;rw [List.filter_cons];simp
def zN {ms:CM} (g:CM.Ok ms) (b:Nat):below ms (b+1)=below ms b ++ (match CM.get ms b with|none=> []|some c=> [(b,c)]):=by
 induction ms with
 |nil=>rfl
 |cons q f e=>
  have a:=List.pairwise_cons.1 g;rw [sP,sP,CM.l9];rcases Nat.lt_trichotomy q.1 b with h|h|h
  .rw [aG (by omega),aG h,aB (by omega),e a.2];rfl
  .rw [aG (by omega),aB (by omega),aG h,oO (ms:=f) (b:=b+1) (λx d=>by have:=a.1 x d;omega),oO (ms:=f) (b:=b) (λx d=>by have:=a.1 x d;omega)];obtain⟨i,j⟩:=q;subst h;rfl
  .rw [aB (by omega),aB (by omega),aB (by omega),e a.2]
def sQ {ms:CM} (a:CM.Ok ms) {b:Nat} (h:CM.get ms b=none):below ms (b+1)=below ms b:=by rw [zN a,h,List.append_nil]
def sR {ms:CM} (a:CM.Ok ms) {b:Nat} {c:List Int} (h:CM.get ms b=some c):below ms (b+1)=below ms b ++ [(b,c)]:=by rw [zN a,h]
def sS (ms:CM):below ms 0= []:=oO (λ_ _=>by omega)
def lX (a:Option Addr) (n c:Nat) (l:List Int) (w:World) (t:n<=140737488355328) (q:Src w a n l):
  Calls prog 97 #[.slice a n c] w λe w'=>∃g,e= .returned (.slice (some (aD g 0)) n n)/\w.heap.size<=g/\ay w' 5 g n (bs l)/\bW w w':=by
 obtain⟨r,j,gC,dE,em⟩:=info_parts gq;have H:=yh q;go_in;go_wp2_with (at_make;refine wpList_make_full _ rfl _ _ 36 rfl w.heap.size 5 r (.int .u8 0) 1 underlying36 j gC dE _ _ _ _ n rfl rfl ?c1 ?c2 ?c3 ?c4 ?c5 ?_);case c1=>rfl
 case c2=>rfl
 case c3=>rw [em];omega
 case c4=>unfold maxLen;omega
 case c5=>exact bR _
 intro w1 aA aR;have p:=lZ aA;have b:=(bi _ w).grown aR (bR _) (by intro k d;cases d);have i:=p.full (by simp [bs]);have el:=H.o.later b;have m:=H.o.1;obtain⟨s,bI,f,d,_⟩:=yJ w1 3 (some (aD w.heap.size 0)) w.heap.size 0 n n a n c (bs (List.replicate n 0)) l i el (λ_=>rfl) (by simp [bs]);have bd:=b.trans (d.below (λk h=>by omega) b.size);have fB:ay s 5 w.heap.size n (bs l):=by
  have e:splice (bs (List.replicate n 0)) 0 (bs (l.take n))=bs l:=by
   rw [nC (by omega)];simp [splice,bs];omega
  rw [e] at f;have:=ay.xX f (by simp [bs,maxLen];omega);simpa [bs,m] using this
 go_wp2;go_ret;exact⟨w.heap.size,rfl,bR _,fB,bd⟩
structure cz (w:World) (F:Nat->Prop) (r s:Nat) (S:DS) (gl cl:Nat) (ls:List Value) (pv:Value) (xs:List Value):Prop where
 fr:F r
 fl:F gl
 lt:∀k,F k->k<w.heap.size
 dI:w.heap[r]? =some (.cells (bL (.slice (some ⟨gl,0,none⟩) s cl) pv S.fuse S.life S.reads S.writes S.flushes S.refused) 67 (0,0))
 last:ay w 36 gl cl ls
 Kv:ls.length=s
 zO:∀k,k<s->∃g c,ls[k]? =some (.slice (some (aD g 0)) 512 c)/\F g/\ay w 5 g c (bs (bS S.im k))
 dj:w.ownsRow 0 120 2 pv S.puts.length xs
 PO:∀g,pv.ownBlock=some g->F g
 puts:∀i (hi:i<S.puts.length),∃g c,xs[2*i]? =some (iV ((S.puts[i].1:Nat):Int))/\xs[2*i+1]? =some (.slice (some (aD g 0)) 512 c)/\F g/\ay w 5 g c (bs S.puts[i].2)
 ok:S.Ok s
def aC (w:World) (F:Nat->Prop) (r s:Nat) (S:DS):Prop:=∃gl cl ls pv xs,cz w F r s S gl cl ls pv xs
def aF (h:w.ownsRow base e size v n xs) (d:∀g,v.ownBlock=some g->w'.heap[g]? =w.heap[g]?):w'.ownsRow base e size v n xs:=by
 obtain⟨b,h|⟨g,a,cur,rfl,f,tF,c⟩⟩:=h
 .exact⟨b, .inl h⟩
 .exact⟨b, .inr ⟨g,a,cur,rfl,f,(d g rfl).trans tF,c⟩⟩
def cz.agree {r:Nat} {l:Value} (h:cz w F r s S gl cl ls l xs) (o:w.heap.size<=w'.heap.size) (a:∀k,F k->w'.heap[k]? =w.heap[k]?):cz w' F r s S gl cl ls l xs:=by
 refine⟨h.fr,h.fl,λk j=>iL (h.lt k j) o,(a r h.fr).trans h.dI,h.last.agree (a gl h.fl),h.Kv,λk j=>?_,aF h.dj (λg e=>a g (h.PO g e)),h.PO,λi n=>?_,h.ok⟩
 .obtain⟨g,c,f,b,d⟩:=h.zO k j;exact⟨g,c,f,b,d.agree (a g b)⟩
 .obtain⟨g,c,f,b,d,m⟩:=h.puts i n;exact⟨g,c,f,b,d,m.agree (a g d)⟩
def aC.lt {r:Nat} (h:aC w F r s S):∀k,F k->k<w.heap.size:=by obtain⟨b,a,c,d,xs,h⟩:=h;exact h.lt
def aC.ok {r:Nat} (h:aC w F r s S):S.Ok s:=by obtain⟨b,a,c,d,xs,h⟩:=h;exact h.ok
def aC.aw {r:Nat} (h:aC w F r s S) (k:aa G w w') (hd:∀k,F k->¬G k):aC w' F r s S:=by
 obtain⟨c,b,d,e,xs,h⟩:=h;exact⟨c,b,d,e,xs,h.agree k.size (λj a=>k.block j (h.lt j a) (hd j a))⟩
def cz.mono {r:Nat} {j:Value} (h:cz w F r s S gl cl ls j xs) (a:∀k,F k->G k) (o:∀k,G k->k<w.heap.size):cz w G r s S gl cl ls j xs:=
   ⟨a _ h.fr,a _ h.fl,o,h.dI,h.last,h.Kv,λk n=>by obtain⟨g,c,b,d,f⟩:=h.zO k n;exact⟨g,c,b,a _ d,f⟩,h.dj,λg e=>a _ (h.PO g e),λi m=>by
  obtain⟨g,c,b,d,f,l⟩:=h.puts i m;exact⟨g,c,b,d,a _ f,l⟩,h.ok⟩
def dT {i:Nat×Nat} (h:w.ownsRow base e size v n xs) (b:v.ownBlock=some g) (k:w.heap[q]? =some (.cells cur e' i)) (j:e'≠e):g≠q:=by
 obtain⟨_,⟨rfl,_⟩|⟨l,d,c,rfl,_,a,_⟩⟩:=h
 .simp [Value.ownBlock] at b
 .simp [Value.ownBlock] at b;intro f;rw [b,f,k] at a;simp at a;exact j a.2.1
def cz.nE {r:Nat} {S':DS} {l:Value} (h:cz w F r s S gl cl ls l xs) (a:aa (λk=>k=r) w w')
    (p:w'.heap[r]? =some (.cells (bL (.slice (some ⟨gl,0,none⟩) s cl) l S'.fuse S'.life S'.reads S'.writes S'.flushes S'.refused) 67 (0,0))) (m:S'.im=S.im) (j:S'.puts=S.puts) (o: -1<=S'.fuse/\S'.fuse<=9223372036854775807):
  cz w' F r s S' gl cl ls l xs:=by
 refine⟨h.fr,h.fl,λk q=>iL (h.lt k q) a.size,p,h.last.other a h.dI (by decide),h.Kv,λk BJ=>?_,?_,h.PO,?_,⟨?_,h.ok.lo,h.ok.hi,?_,o⟩⟩
 .obtain⟨g,c,b,d,f⟩:=h.zO k BJ;rw [m];exact⟨g,c,b,d,f.other a h.dI (by decide)⟩
 .rw [j];exact aF h.dj (λg e=>a.block g (h.lt g (h.PO g e)) (dT h.dj e h.dI (by decide)))
 .rw [j];intro i t;obtain⟨g,c,b,d,f,n⟩:=h.puts i t;exact⟨g,c,b,d,f,n.other a h.dI (by decide)⟩
 .rw [m];exact h.ok.len
 .rw [j];exact h.ok.puts
def cz.set {r:Nat} {a:Value} (h:cz w F r s S gl cl ls a xs) (i:Nat) (v:Value):
    (w.setCell ⟨r,i,none⟩ v).heap[r]? =some (.cells ((bL (.slice (some ⟨gl,0,none⟩) s cl) a S.fuse S.life S.reads S.writes S.flushes S.refused).setIfInBounds i v) 67 (0,0))/\aa (λk=>k=r) w (w.setCell ⟨r,i,none⟩ v):=
   ⟨heap_setCell_same _ _ _ _ _ _ h.dI,aa.setCell (F:=λk=>k=r) w (p:=(aD r i)) rfl v⟩
def cz.refused {r:Nat} {a:Value} (h:cz w F r s S gl cl ls a xs):
  cz (w.setCell ⟨r,7,none⟩ (.int .i64 (wrap64 (S.refused+1)))) F r s S.refuse gl cl ls a xs:=
 h.nE (h.set 7 _).2 ((h.set 7 _).1.trans (by simp [bL,DS.refuse])) rfl rfl h.ok.fuse
def kU {r:Nat} (h:aC w F r s S):
  Calls prog 11 #[pQ r] w λe w'=>e= .returned (iV s)/\w'=w:=by
 obtain⟨c,b,d,f,xs,h⟩:=h;have a:=aM h.dI;go_in;go_wp2;go_ret;exact⟨rfl,rfl⟩
def kr {r:Nat} (h:aC w F r s S):
  Calls prog 36 #[pQ r] w λe w'=>e= .returned (.bool (S.fuse == 0))/\w'=w:=by
 obtain⟨c,b,d,f,xs,h⟩:=h;have a:=bM h.dI;go_in;go_wp2;go_ret;exact⟨rfl,rfl⟩
def nR {r:Nat} (h:aC w F r s S):
  Calls prog 23 #[pQ r] w λe w'=>e= .returned (iV S.life)/\w'=w:=by
 obtain⟨c,b,d,f,xs,h⟩:=h;have a:=fU h.dI;go_in;go_wp2;go_ret;exact⟨rfl,rfl⟩
def zP {r:Nat} (h:aC w F r s S):
  Calls prog 62 #[pQ r] w λe w'=>e= .returned (iV (wrap64 (S.life+1)))/\aC w' F r s S.take/\aa F w w':=by
 obtain⟨b,a,d,f,xs,h⟩:=h;have g:=fU h.dI;have i:=ae h.dI 3;have c:aC (w.setCell ⟨r,3,none⟩ (.int .i64 (wrap64 (S.life+1)))) F r s S.take/\aa F w (w.setCell ⟨r,3,none⟩ (.int .i64 (wrap64 (S.life+1)))):=
    ⟨⟨b,a,d,f,xs,h.nE (h.set 3 _).2 ((h.set 3 _).1.trans (by simp [bL,DS.take])) rfl rfl h.ok.fuse⟩,aa.setCell w h.fr _⟩
 go_in;go_wp2;go_ret;exact⟨rfl,(yh c).out⟩
def BY (w:World) (b o:Nat) (v u:Value):(w.setCell ⟨b,o,none⟩ v).setCell ⟨b,o,none⟩ u=w.setCell (aD b o) u:=by
 unfold World.setCell;congr 1;apply Array.ext_getElem?;intro i;simp only [Array.getElem?_modify];by_cases e:b=i
 .subst e;simp only [if_true];cases w.heap[b]? with
  |none=>rfl
  |some a=>cases a <;> simp
 .simp [e]
def RH {r:Nat} (h:aC w F r s S) (a:Int) (p:a<=9223372036854775807):
  Calls prog 27 #[pQ r,iV a] w λe w'=>e= .returned (.tuple #[])/\aC w' F r s (S.lay a)/\aa F w w':=by
 obtain⟨g,f,i,j,xs,h⟩:=h;have m:=bM h.dI;have n:=ae h.dI 2;by_cases b:S.fuse=0
 .have k:(S.fuse == 0)=true:=by simp [b]
  have c:aC w F r s (S.lay a):=by simp only [DS.lay,b,if_true];exact⟨g,f,i,j,xs,h⟩
  go_in;go_wp2;exact bodyPost_ret (results_none rfl _ _ _) rfl ⟨rfl,(yh c).out,aa.refl _ _⟩
 .have k:(S.fuse == 0)=false:=by simp [b]
  have c:∀v,v=max a (-1)->aC (w.setCell ⟨r,2,none⟩ (.int .i64 v)) F r s (S.lay a)/\aa F w (w.setCell ⟨r,2,none⟩ (.int .i64 v)):=λv l=>by
   subst l;simp only [DS.lay,b,if_false];exact⟨⟨g,f,i,j,xs,h.nE (h.set 2 _).2 ((h.set 2 _).1.trans (by simp [bL])) rfl rfl (by simp only;omega)⟩,aa.setCell w h.fr _⟩
  have Kw:=λv u=>BY w r 2 v u;have d:=yh c;by_cases aoL:a<0
  .go_in;go_wp2
   go_end0
   exact⟨rfl,d.o (-1) (by omega)⟩
  .go_in;go_wp2
   go_end0
   exact⟨rfl,d.o a (by omega)⟩
def zQ (r:Nat) (a:Int) (w:World) (b:w.cell? (aD r 2)=some (iV a)) (c:w.frozen? (aD r 2)=false) (d: -1<=a):
  Calls prog 116 #[pQ r] w λe w'=>e= .returned (.tuple #[])/\w'=if 0<a then w.setCell ⟨r,2,none⟩ (.int .i64 (wrap64 (a-1))) else w:=by
 by_cases h:0<a
 .go_in;go_wp2
  go_end0
  exact⟨rfl,rfl⟩
 .go_in;go_wp2
  go_end0
  exact⟨rfl,rfl⟩
def cz.yQ {r:Nat} {b:Value} (h:cz w F r s S gl cl ls b xs):
  cz (if 0<S.fuse then w.setCell ⟨r,2,none⟩ (.int .i64 (wrap64 (S.fuse-1))) else w) F r s S.gv gl cl ls b xs/\aa F w (if 0<S.fuse then w.setCell ⟨r,2,none⟩ (.int .i64 (wrap64 (S.fuse-1))) else w):=by
 have c:=h.ok.fuse;by_cases a:0<S.fuse
 .rw [aG a];have e:wrap64 (S.fuse-1)=S.fuse-1:=by unfold wrap64;omega
  refine⟨h.nE (h.set 2 _).2 ((h.set 2 _).1.trans ?_) rfl rfl ?_,aa.setCell w h.fr _⟩
  .rw [e];simp [bL,DS.gv,a]
  .simp only [DS.gv,aG a];omega
 .rw [aB a];have e:S.gv=S:=by simp [DS.gv,a]
  rw [e];exact⟨h,aa.refl _ _⟩
def Kx {r:Nat} (h:aC w F r s S):
  Calls prog 38 #[pQ r] w λe w'=>e= .returned (.agg (ef S.reads S.writes S.flushes S.refused S.puts.length))/\bW w w':=by
 obtain⟨p,o,q,f,xs,h⟩:=h;have rO:=h.lt r h.fr;have xP:∃a c,f= .slice a S.puts.length c:=by
  obtain⟨_,⟨e,d⟩|⟨g,b,cur,e,_⟩⟩:=h.dj
  .exact⟨none,0,by rw [e,d]⟩
  .exact⟨_,_,e⟩
 obtain⟨a,c,rfl⟩:=xP;obtain⟨i,j,k,l,m,n⟩:=jH (bG h.dI) (gH h.dI) (sv h.dI) (xz h.dI) (rH h.dI) (DG h.dI);go_in;go_wp2;refine bodyPost_ret (v:= .agg (ef S.reads S.writes S.flushes S.refused S.puts.length)) (by simp [results,results38,go_sem,ef]) rfl ⟨rfl,?_⟩;exact((bi _ w).alloc (bR _) _).alloc (by simp) _
def fv (a b:List (Nat×List Int)) (k:Nat):au (a ++ b) k=au a k ++ au b k:=by simp [au]
def kV {puts:List (Nat×List Int)} (h:∀q∈puts,q.1≠k):au puts k= []:=by
 unfold au;rw [List.map_eq_nil_iff,List.filter_eq_nil_iff];intro q a;have:=h q a;simpa using this
def RK (f:i<S.puts.length) (e:S.puts[i].1=k) (g:∀j (a:j<S.puts.length),i<j->S.puts[j].1≠k):S.now k=S.puts[i].2:=by
 have b:S.puts=S.puts.take i ++ (S.puts[i] :: S.puts.drop (i+1)):=by
  rw [<-List.drop_eq_getElem_cons f,List.take_append_drop]
 have c:au (S.puts.drop (i+1)) k= []:=kV (λq l=>by
  obtain⟨j,a,rfl⟩:=List.mem_iff_getElem.1 l;rw [List.getElem_drop];exact g _ (by simp at a;omega) (by omega))
 have d:au S.puts k=au (S.puts.take i) k ++ [S.puts[i].2]:=by
  conv=>lhs;rw [b]
  rw [fv,show S.puts[i] :: S.puts.drop (i+1)= [S.puts[i]] ++ S.puts.drop (i+1) from rfl,fv,c];simp [au,e]
 unfold DS.now DS.gM;rw [d];simp [List.getD]
def Wa (h:∀j (a:j<S.puts.length),S.puts[j].1≠k):S.now k=bS S.im k:=by
 apply tL;apply kV;intro q b;obtain⟨j,a,rfl⟩:=List.mem_iff_getElem.1 b;exact h j a
def cz.form {r:Nat} {l:Value} (h:cz w F r s S gl cl ls l xs):
  ∃a c,l= .slice a S.puts.length c/\(0<S.puts.length->∃b,a=some (aD b 0)/\∀i (d:i<S.puts.length),∃g cg,w.cell? ⟨b,i*2,none⟩=some (iV ((S.puts[i].1:Nat):Int))/\w.cell? ⟨b,i*2+1,none⟩=some (.slice (some (aD g 0)) 512 cg)/\F g/\ay w 5 g cg (bs S.puts[i].2)):=by
 have f:=h.dj;obtain⟨_,⟨e,t⟩|⟨b,m,cur,e,_⟩⟩:=h.dj
 .exact⟨none,0,by rw [e,t],λh0=>by omega⟩
 .refine⟨_,_,e,λ_=>⟨b,rfl,λi d=>?_⟩⟩;obtain⟨g,cg,n,o,p,q⟩:=h.puts i d;have j:=f.cells (g:=b) (by rw [e];rfl) _ _ n;have k:=f.cells (g:=b) (by rw [e];rfl) _ _ o;rw [aN,Nat.zero_add] at j k;exact⟨g,cg,by rw [Nat.mul_comm];exact j,by rw [Nat.mul_comm];exact k,p,q⟩
def jP {r:Nat} (h:aC w F r s S) (k:Nat) (y:k<s) (aU:S.puts.length<=5000000000000):
  Calls prog 40 #[pQ r,iV (k:Int)] w λe w'=>∃g c,e= .returned (.slice (some (aD g 0)) 512 c)/\F g/\ay w 5 g c (bs (S.now k))/\w'=w:=by
 obtain⟨E,D,H,J,xs,h⟩:=h;obtain⟨a,c,rfl,sT⟩:=h.form;have A:=aM h.dI;have C:=bG h.dI;obtain⟨v,cs,vu,UN,my⟩:=h.zO k y;have u:=h.last.cell vu;have l:=sT;have d:=my;have ez:(k:Int)<(s:Int):=by omega
 clear h sT my vu;go_in;go_wp2;go_loopw [5] (λi wr=>∃j:Nat,j<=S.puts.length/\i=iV ((j:Int)-1)/\wr=w/\∀i (b:i<S.puts.length),j<=i->S.puts[i].1≠k) (λi _=>(intOf i+1).toNat);case atStart=>exact⟨S.puts.length,bR _,rfl,rfl,λi b h=>by omega⟩
 case round=>
  obtain⟨j,n,rfl,rfl,jd⟩:=hrel;have om:=jd;clear jd;cases j with
  |zero=>
   rw [<-(Wa (S:=S) (k:=k) (λj n=>om j n (by omega)))] at d;go_wp2;go_ret;exact⟨v,cs,rfl,UN,d,rfl⟩
  |succ j=>
   obtain⟨G,rfl,p⟩:=l (by omega);obtain⟨g,t,z,I,x,q⟩:=p j (by omega);have m:=q;clear p q;by_cases f:S.puts[j].1=k
   .have o:=RK (S:=S) (by omega) f (λi b h=>om i b (by omega));rw [f] at z;rw [<-o] at m;clear o;go_wp2;go_ret;exact⟨g,t,rfl,x,m,rfl⟩
   .have dM:(((S.puts[j].1:Nat):Int) == (k:Int))=false:=(by rw [Bool.eq_false_iff,ne_eq,beq_iff_eq];omega);have Ky:∀i (b:i<S.puts.length),j<=i->S.puts[i].1≠k:=λi b h=>by
     by_cases e:i=j
     .subst e;exact f
     .exact om i b (by omega)
    have ZR:=Ky;clear Ky om f m;go_wp2;go_roundw;case rel=>exact⟨j,by omega,by go_num,trivial,ZR⟩
    case measure=>simp [intOf]
def MG:(prog.info? 120).map (λi=>(i.zero,i.size,i.bytes))=some (some (.agg #[iV 0, .slice none 0 0]),2,32):=by kernel_rfl
def cz.wrote {r:Nat} {x:Value} (h:cz w F r s S gl cl ls x xs) (K:k<s) (L:l.length=512) {o:Obj}
    (ar:bW w w1) (H:w.heap.size<=g) (D:ay w1 5 g cg (bs l))
    (aA:w2.ownsRow 0 120 2 (.slice (some (aD g2 0)) (S.puts.length+1) cJ) (S.puts.length+1) (xs ++ [iV (k:Int), .slice (some (aD g 0)) 512 cg]))
    (aR:(w1.alloc o).grownBy w2 x.ownBlock) (it:x.ownBlock=some g2\/g2=w1.heap.size+1):
  w2.heap[r]? =w.heap[r]?/\cz (w2.setCell ⟨r,1,none⟩ (.slice (some ⟨g2,0,none⟩) (S.puts.length+1) cJ)) (more F w (w2.setCell ⟨r,1,none⟩ (.slice (some ⟨g2,0,none⟩) (S.puts.length+1) cJ))) r s (S.put k l) gl cl ls (.slice (some (aD g2 0)) (S.puts.length+1) cJ) (xs ++ [iV (k:Int), .slice (some (aD g 0)) 512 cg])/\
   aa F w (w2.setCell ⟨r,1,none⟩ (.slice (some ⟨g2,0,none⟩) (S.puts.length+1) cJ)):=by
 have bd:=ar.alloc ar.size o;have sy:=ar.size;have Zb:(w1.alloc o).heap.size=w1.heap.size+1:=by simp
 have jD:=aR.size;have rO:=h.lt r h.fr;have f:=λb a u=>(aR.block b (by omega) u).trans (bd.block b a);have p:some r≠x.ownBlock:=λe=>dT h.dj e.symm h.dI (by decide) rfl;have fB:=f r rO p;have X5:∀(b:Nat) (cur:Array Value) (e:TypeId) (C:Nat×Nat),w.heap[b]? =some (Obj.cells cur e C)->e≠120->w2.heap[b]? =w.heap[b]? :=λb cur e C a G=>
  f b (lY.1 a).1 (λn=>dT h.dj n.symm a G rfl)
 have adm:(w2.setCell ⟨r,1,none⟩ (.slice (some ⟨g2,0,none⟩) (S.puts.length+1) cJ)).heap.size=w2.heap.size:=by simp [World.setCell]
 have d:∀b,b≠r->(w2.setCell ⟨r,1,none⟩ (.slice (some ⟨g2,0,none⟩) (S.puts.length+1) cJ)).heap[b]? =w2.heap[b]? :=λb a=>Below.heap_setCell _ _ _ _ a;have MH:∀b c A,ay w 5 b c A->ay (w2.setCell ⟨r,1,none⟩ (.slice (some ⟨g2,0,none⟩) (S.puts.length+1) cJ)) 5 b c A:=λb c A a=>by
  have dM:=a.ne h.dI (by decide);have eI:=a;obtain⟨cur,gN,_⟩:=eI;exact a.agree ((d b dM).trans (X5 b cur _ _ gN (by decide)))
 have Vf:=D.lt;have ul:g≠r:=by omega
 have RL:g2<w2.heap.size:=by
  obtain⟨_,⟨e,_⟩|⟨t,_,cur,e,_,a,_⟩⟩:=aA
  .cases e
  .cases e;exact(lY.1 a).1
 have aoN:g2≠r:=λe=>by
  rcases it with m|m
  .rw [e] at m;exact p m.symm
  .omega
 refine⟨fB,⟨.inl h.fr, .inl h.fl,λb a=>?_,?_,?_,h.Kv,λj J=>?_,?_,λb a=>?_,λi I=>?_,⟨h.ok.len,h.ok.lo,h.ok.hi,λq v=>?_,h.ok.fuse⟩⟩,?_⟩
 .rw [adm];rcases a with a|a
  .have:=h.lt b a;omega
  .rw [adm] at a;exact a.2
 .rw [heap_setCell_same _ _ _ _ _ _ (fB.trans h.dI)];simp [bL,DS.put]
 .have dM:=h.last.ne h.dI (by decide);have eI:=h.last;obtain⟨cur,gN,_⟩:=eI;exact h.last.agree ((d gl dM).trans (X5 gl cur _ _ gN (by decide)))
 .obtain⟨t,c',n,y,z⟩:=h.zO j J;exact⟨t,c',n, .inl y,MH _ _ _ z⟩
 .have:(S.put k l).puts.length=S.puts.length+1:=by simp [DS.put]
  rw [this];exact aF aA (λb a=>d b (λe=>by simp [Value.ownBlock] at a;omega))
 .simp [Value.ownBlock] at a;subst a;rcases it with m|m
  .exact .inl (h.PO g2 m)
  .exact .inr ⟨by omega,by omega⟩
 .have Jf:=h.dj.1;by_cases nF:i<S.puts.length
  .obtain⟨t,c',n,y,z,E⟩:=h.puts i nF;refine⟨t,c',?_,?_, .inl z,?_⟩
   .rw [u9 (by omega),n];simp [DS.put,List.getElem_append_left nF]
   .rw [u9 (by omega),y]
   .simp only [DS.put,List.getElem_append_left nF];exact MH _ _ _ E
  .have Fw:i=S.puts.length:=(by simp [DS.put] at I;omega);subst Fw;refine⟨g,cg,?_,?_, .inr ⟨H,by omega⟩,?_⟩
   .rw [wm (by omega),show 2*S.puts.length-xs.length=0 by omega];simp [DS.put]
   .rw [wm (by omega),show 2*S.puts.length+1-xs.length=1 by omega];simp
   .have:ay (w2.setCell ⟨r,1,none⟩ (.slice (some ⟨g2,0,none⟩) (S.puts.length+1) cJ)) 5 g cg (bs l):=by
     refine D.agree ((d g ul).trans ((aR.block g (by omega) (λe=>?_)).trans (Below.heap_alloc _ _ _ Vf)));have:=h.lt _ (h.PO g e.symm);omega
    simpa [DS.put] using this
 .simp only [DS.put,List.mem_append,List.mem_singleton] at v;rcases v with v|rfl
  .exact h.ok.puts q v
  .exact⟨K,L⟩
 .refine⟨aR.os.trans bd.os,aR.tape.trans bd.tape,aR.output.trans bd.output,by omega,λb a u=>?_⟩;exact(d b (λe=>u (e▸h.fr))).trans (f b a (λe=>u (h.PO b e.symm)))
def TwR (w:World) (l:List Int) (v:Value) (w':World):Prop:=∃g,v= .slice (some (aD g 0)) 512 512/\w.heap.size<=g/\ay w' 5 g 512 (bs l)/\bW w w'
def vE {P:Program} {b:Array Oper} {o:Oper} {a:Act} {K:Act->World->Prop} {Q:Exit->Act->World->Prop} {E:Prop} (Gh:o.guard=none) (f:FuncId) (args:Array Value)
    (Jb:(execOp a.eval o).run P w= .ok (.enter f args) w) (R:Value->World->Prop) (c:Calls P f args w λe w'=>∃v,e= .returned v/\R v w') (h:∀v w',R v w'->K (a.put o.dst v) w'):
  if Region.wanted o (yielded b a.tmps)=true then Oper.wp P o a w K Q else E:=by
 have g:Region.wanted o (yielded b a.tmps)=true:=by simp [Region.wanted,Gh]
 rw [aG g];unfold Oper.wp;rw [Jb,Oper.upon_enter];refine c.mono ?_;rintro e w' ⟨v,rfl,d⟩;exact h v w' d
def GH {r:Nat} (h:aC w F r s S) (b:Int) (a:Option Addr) (n c:Nat) (i:S.fuse=0):
  Calls prog 63 #[pQ r,iV b, .slice a n c] w λe w'=>e= .returned (iV 3)/\w'=w:=by
 obtain⟨g,f,j,k,xs,h⟩:=h;have d:=bM h.dI;go_in;go_wp2;go_ret;exact⟨rfl,rfl⟩
def Ep {r:Nat} (h:aC w F r s S) (a:Int) (k:Option Addr) (n c:Nat) (m:S.fuse≠0) (d:a<0\/(s:Int)<=a):
  Calls prog 63 #[pQ r,iV a, .slice k n c] w λe w'=>e= .returned (iV 11)/\aC w' F r s S.refuse/\aa F w w':=by
 obtain⟨g,f,i,j,xs,h⟩:=h;have q:=aM h.dI;have t:=bM h.dI;have u:=rH h.dI;have v:=ae h.dI 7;have x:(S.fuse == 0)=false:=by simp [m]
 have b:=yh (aH h.refused (aa.setCell (F:=F) w (p:=(aD r 7)) h.fr (iV (wrap64 (S.refused+1)))));rcases d with d|d
 .go_in;go_wp2;go_ret;exact⟨rfl,⟨g,f,i,j,xs,b.o.1⟩,b.o.2⟩
 .have l:¬a<0:=by omega
  go_in;go_wp2;go_ret;exact⟨rfl,⟨g,f,i,j,xs,b.o.1⟩,b.o.2⟩
def BZ {r:Nat} (h:aC w F r s S) (k:Nat) (b:Option Addr) (n c:Nat) (g:S.fuse≠0) (v:k<s) (x:n≠512):
  Calls prog 63 #[pQ r,iV (k:Int), .slice b n c] w λe w'=>e= .returned (iV 2)/\aC w' F r s S.refuse/\aa F w w':=by
 obtain⟨f,d,i,j,xs,h⟩:=h;have l:=aM h.dI;have m:=bM h.dI;have q:=rH h.dI;have t:=ae h.dI 7;have u:(S.fuse == 0)=false:=by simp [g]
 have a:=yh (aH h.refused (aa.setCell (F:=F) w (p:=(aD r 7)) h.fr (iV (wrap64 (S.refused+1)))));have dM:((n:Int) != 512)=true:=by rw [gg];omega
 have xY:¬(k:Int)<0:=by omega
 have fh:¬(s:Int)<=(k:Int):=by omega
 go_in;go_wp2;go_ret;exact⟨rfl,⟨f,d,i,j,xs,a.o.1⟩,a.o.2⟩
def cz.JE {r:Nat} {a:Value} (h:cz w F r s S gl cl ls a xs):
  cz (w.setCell ⟨r,5,none⟩ (.int .i64 (wrap64 (S.writes+1)))) F r s S.wrote gl cl ls a xs:=
 h.nE (h.set 5 _).2 ((h.set 5 _).1.trans (by simp [bL,DS.wrote])) rfl rfl h.ok.fuse
def Kz {a:World} {r:Nat} {g:Value} (f:F r) (h:cz a (more F w a) r s S gl cl ls g xs) (l:aa F w a):
  a.cell? (aD r 5)=some (iV S.writes)/\a.frozen? (aD r 5)=false/\
  Calls prog 116 #[pQ r] (a.setCell ⟨r,5,none⟩ (.int .i64 (wrap64 (S.writes+1)))) λe w'=>e= .returned (.tuple #[])/\aC w' (more F w w') r s S.wrote.gv/\aa F w w':=by
 have b:=h.JE;have dW:aa F w (a.setCell ⟨r,5,none⟩ (.int .i64 (wrap64 (S.writes+1)))):=l.trans (aa.setCell (F:=λk=>k=r) a (p:=(aD r 5)) rfl _) (λj d=> .inl (d▸f));refine⟨sv h.dI,ae h.dI 5,(zQ r S.fuse _ (bM b.dI) (ae b.dI 2) b.ok.fuse.1).mono ?_⟩;rintro e w' ⟨rfl,rfl⟩;obtain⟨i,_⟩:=b.yQ;have dX:aa (λk=>k=r) (a.setCell ⟨r,5,none⟩ (.int .i64 (wrap64 (S.writes+1)))) (if 0<S.fuse then (a.setCell ⟨r,5,none⟩ (.int .i64 (wrap64 (S.writes+1)))).setCell ⟨r,2,none⟩ (.int .i64 (wrap64 (S.fuse-1))) else (a.setCell ⟨r,5,none⟩ (.int .i64 (wrap64 (S.writes+1))))):=by
  split
  .exact aa.setCell (F:=λk=>k=r) _ (p:=(aD r 2)) rfl _
  .exact aa.refl _ _
 have X6:(if 0<S.fuse then (a.setCell ⟨r,5,none⟩ (.int .i64 (wrap64 (S.writes+1)))).setCell ⟨r,2,none⟩ (.int .i64 (wrap64 (S.fuse-1))) else (a.setCell ⟨r,5,none⟩ (.int .i64 (wrap64 (S.writes+1))))).heap.size=a.heap.size:=by split <;> simp [World.setCell]
 refine⟨rfl,⟨gl,cl,ls,g,xs,cz.mono i (Cv (by rw [X6];exact bR _)) (λk BJ=>?_)⟩,dW.trans dX (λj d=> .inl (d▸f))⟩;rw [X6];rcases BJ with c|c
 .exact h.lt k (.inl c)
 .rw [X6] at c;exact c.2
set_option maxRecDepth 100000 in
def N8 {r:Nat} (hd:aC w F r s S) (k:Nat) (p:k<s) (m:S.fuse≠0) (aU:S.puts.length+1<=4000000000000)
    (x:Addr) (c:Nat) (l:List Int) (fV:Src w (some x) 512 l):
  Calls prog 63 #[pQ r,iV (k:Int), .slice (some x) 512 c] w λe w'=>e= .returned (iV 0)/\aC w' (more F w w') r s ((S.put k l).wrote.gv)/\aa F w w':=by
 obtain⟨K,E,P,Q,xs,h⟩:=hd;obtain⟨u,rS,gC,dE,em⟩:=info_parts MG;obtain⟨a,ca,rfl,_⟩:=h.form;have z:=aM h.dI;have A:=bG h.dI;have C:=bM h.dI;have L:(S.fuse == 0)=false:=by simp [m]
 have xY:¬(k:Int)<0:=by omega
 have fh:¬(s:Int)<=(k:Int):=by omega
 have rO:=h.lt r h.fr;have H:=yh h;have cU:∀wx:World,wx.heap[r]? =w.heap[r]?->wx.cell? (aD r 1)=some (.slice a S.puts.length ca):=λwx e=>bG (e.trans H.o.dI);have qu:=yh cU;go_in;go_wp2_with fail;have MI:Calls prog 97 #[.slice (some x) 512 c] w.drew λe w'=>∃v,e= .returned v/\TwR w l v w':=
    (lX (some x) 512 c l w.drew (by omega) (yh fV).out).mono (by rintro e w' ⟨g,rfl,i,j,b⟩;exact⟨_,rfl,g,rfl,i,j,⟨b.os,b.tape,b.output,b.size,b.block⟩⟩)
 go_region_law
  (first
   |(refine vE (by rfl) 97 #[.slice (some x) 512 c] (by simp [go_sem]) (TwR w l) (yh MI).out ?_;rintro _ w1 ⟨g,rfl,n,q,ar⟩;have mt:w1.heap[r]? =w.heap[r]? :=ar.block r rO;have M:=qu.o w1 mt;have N:=λo=>qu.o (w1.alloc o) ((Below.heap_alloc w1 o r (iL rO ar.size)).trans mt))
   |(refine step_append_lies _ (by rfl) _ _ _ (by rfl) 0 120 u _ 2 32 underlying63 rS gC dE em rfl (by omega) (.slice a S.puts.length ca) S.puts.length xs (by rfl) (aF H.o.dj (λg e=>(Below.heap_alloc w1 _ _ (iL (H.o.lt g (H.o.PO g e)) ar.size)).trans (ar.block g (H.o.lt g (H.o.PO g e)))))
       (aD w1.heap.size 0) 1 1 [iV (k:Int), .slice (some (aD g 0)) 512 512] (by rfl) (by rfl) (World.news_of_block (cs:= #[iV (k:Int), .slice (some (aD g 0)) 512 512]) (t:=120) (fr:=(0,0)) (heap_alloc_new w1 _)) (by simp [Value.oneCell']) (by omega) (by unfold maxLen;omega) (by omega) (dL _) (w1.heap.size+1) (by simp) ?_;intro J cJ y fP j9 vk xB;obtain⟨fB,d,aZ⟩:=H.o.wrote p fV.1 ar n q fP j9 vk;have O:=qu.o y fB;have G:=ae (fB.trans H.o.dI) 1))
 all_goals
  obtain⟨D,I,f⟩:=Kz H.o.fr d aZ;go_wp2_with (go_at_call 116;refine f.mono ?_;rintro e w5 ⟨rfl,jJ,dX⟩);go_ret;exact⟨rfl,jJ,dX⟩
section
def qv:(prog.info? 167).map (λi=>(i.zero,i.size,i.bytes))=some (some (.agg #[iV 0, .slice none 0 0]),2,32):=by kernel_rfl
def RM (w:World) (a:Option Addr) (n c b c':Nat):(binOp .eql 36 (.slice a n c) (.slice none b c')).run prog w= .ok (.bool a.isNone) w:=Lib.run_eql_slice_nil w _ _ a n c b c' underlying36
structure PL (w:World) (X:Nat->Prop) (v:Value) (ps:List (Nat×List Int)) (xs:List Value):Prop where
 own:w.ownsRow 0 167 2 v ps.length xs
 row:∀g,v.ownBlock=some g->X g
 put:∀i (hi:i<ps.length),∃g c,xs[2*i]? =some (iV ((ps[i].1:Nat):Int))/\xs[2*i+1]? =some (.slice (some (aD g 0)) 512 c)/\X g/\ay w 5 g c (bs ps[i].2)
 len:∀q∈ps,q.2.length=512/\Bytes q.2
def Pl (w:World) (X:Nat->Prop) (v:Value) (ps:List (Nat×List Int)):Prop:=∃xs,PL w X v ps xs
def qw {B:Nat} {m:Nat} {v:Value} {xs:List Value} (h:W.ownsRow B e m v n xs) (a:v.ownBlock=some g):g<W.heap.size:=by
 obtain⟨_,⟨rfl,_⟩|⟨d,b,cur,rfl,_,c,_⟩⟩:=h
 .simp [Value.ownBlock] at a
 .simp [Value.ownBlock] at a;subst a;exact(lY.1 c).1
section
variable {w w':World} {X Y G:Nat->Prop} {v:Value} {ps:List (Nat×List Int)} {xs:List Value}
def PL.form (h:PL w X v ps xs):
  ∃a c,v= .slice a ps.length c/\(0<ps.length->∃b,a=some (aD b 0)/\∀i (d:i<ps.length),∃g cg,w.cell? ⟨b,i*2,none⟩=some (iV ((ps[i].1:Nat):Int))/\w.cell? ⟨b,i*2+1,none⟩=some (.slice (some (aD g 0)) 512 cg)/\X g/\ay w 5 g cg (bs ps[i].2)):=by
 have f:=h.own;obtain⟨_,⟨e,q⟩|⟨b,l,cur,e,_⟩⟩:=h.own
 .exact⟨none,0,by rw [e,q],λh0=>by omega⟩
 .refine⟨_,_,e,λ_=>⟨b,rfl,λi d=>?_⟩⟩;obtain⟨g,cg,m,n,o,p⟩:=h.put i d;have j:=f.cells (g:=b) (by rw [e];rfl) _ _ m;have k:=f.cells (g:=b) (by rw [e];rfl) _ _ n;rw [aN,Nat.zero_add] at j k;exact⟨g,cg,by rw [Nat.mul_comm];exact j,by rw [Nat.mul_comm];exact k,o,p⟩
def PL.aw (h:PL w X v ps xs) (d:aa G w w') (l:∀g,v.ownBlock=some g->¬G g) (hd:∀g c ys,X g->ay w 5 g c ys->¬G g):PL w' X v ps xs:=by
 refine⟨aF h.own (λg e=>d.block g (qw h.own e) (l g e)),h.row,λi k=>?_,h.len⟩;obtain⟨g,c,f,j,b,a⟩:=h.put i k;exact⟨g,c,f,j,b,a.agree (d.block g a.lt (hd g _ _ b a))⟩
def PL.mono (h:PL w X v ps xs) (a:∀g,X g->Y g):PL w Y v ps xs:=
   ⟨h.own,λg e=>a _ (h.row g e),λi k=>by obtain⟨g,c,b,d,f,j⟩:=h.put i k;exact⟨g,c,b,d,a _ f,j⟩,h.len⟩
def Pl.aw (h:Pl w X v ps) (a:aa G w w') (b:∀g,v.ownBlock=some g->¬G g) (hd:∀g c ys,X g->ay w 5 g c ys->¬G g):Pl w' X v ps:=by
 obtain⟨xs,h⟩:=h;exact⟨xs,h.aw a b hd⟩
def Pl.later (h:Pl w X v ps) (a:bW w w'):Pl w' X v ps:=h.aw (aa.ah (λ_=>False) a) (λ_ _ h=>h) (λ_ _ _ _ _ h=>h)
def Pl.mono (h:Pl w X v ps) (a:∀g,X g->Y g):Pl w Y v ps:=by obtain⟨xs,h⟩:=h;exact⟨xs,h.mono a⟩
def Pl.row (h:Pl w X v ps):∀g,v.ownBlock=some g->X g:=by obtain⟨xs,h⟩:=h;exact h.row
def Pl.rlt (h:Pl w X v ps):∀g,v.ownBlock=some g->g<w.heap.size:=by obtain⟨xs,h⟩:=h;exact λg e=>qw h.own e
def Pl.len (h:Pl w X v ps):∀q∈ps,q.2.length=512/\Bytes q.2:=by obtain⟨xs,h⟩:=h;exact h.len
def Pl.form (h:Pl w X v ps):
  ∃a c,v= .slice a ps.length c/\(0<ps.length->∃gp,a=some (aD gp 0)/\∀i (hi:i<ps.length),∃g cg,w.cell? ⟨gp,i*2,none⟩=some (iV ((ps[i].1:Nat):Int))/\w.cell? ⟨gp,i*2+1,none⟩=some (.slice (some (aD g 0)) 512 cg)/\X g/\ay w 5 g cg (bs ps[i].2)):=by obtain⟨xs,h⟩:=h;exact h.form
def Pl.nil (w:World) (X:Nat->Prop):Pl w X (.slice none 0 0) []:=⟨[],⟨rfl, .inl ⟨rfl,rfl⟩⟩,λg e=>by simp [Value.ownBlock] at e,λi a=>by simp at a,λq b=>by cases b⟩
def Pl.ne (h:Pl w X v ps) (d:v.ownBlock=some g) {a:Nat×Nat} (c:w.heap[q]? =some (.cells cur e' a)) (b:e'≠167):g≠q:=by
 obtain⟨xs,h⟩:=h;exact dT h.own d c b
def Pl.other (h:Pl w X v ps) {d:Nat×Nat} (a:w.heap[k]? =some (.cells cur e d)) (f:e≠167) (g:e≠5) (i:aa (λj=>j=k) w w'):Pl w' X v ps:=
 h.aw i (λb m e=>h.ne m a f e) (λb n c _ l e=>l.ne a g e)
structure PV (w:World) (X:Nat->Prop) (v:Value) (ps:List (Nat×List Int)):Prop where
 form:∃a c,v= .slice a ps.length c/\(0<ps.length->∃gp o,a=some (aD gp o)/\X gp/\∀i (hi:i<ps.length),∃g cg,w.cell? ⟨gp,o+i*2,none⟩=some (iV ((ps[i].1:Nat):Int))/\w.cell? ⟨gp,o+i*2+1,none⟩=some (.slice (some (aD g 0)) 512 cg)/\X g/\ay w 5 g cg (bs ps[i].2))
 len:∀q∈ps,q.2.length=512/\Bytes q.2
def Pl.pv (h:Pl w X v ps):PV w X v ps:=by
 obtain⟨a,c,e,f⟩:=h.form;refine⟨⟨a,c,e,λh0=>?_⟩,h.len⟩;obtain⟨b,d,g⟩:=f h0;refine⟨b,0,d,h.row b (by rw [e,d];rfl),λi bq=>?_⟩;rw [Nat.zero_add];exact g i bq
def dC (b:aa G w w') (c:¬G g) {u:Value} (a:w.cell? (aD g j)=some u):w'.cell? (aD g j)=some u:=by
 have bq:g<w.heap.size:=by
  apply Decidable.byContradiction;intro d;simp only [World.cell?] at a;rw [Array.getElem?_eq_none (by omega)] at a;cases a
 have:=b.block g bq c;simp only [World.cell?] at a⊢;rw [this];exact a
def PV.aw (h:PV w X v ps) (d:aa G w w') (b:∀g,X g->¬G g):PV w' X v ps:=by
 obtain⟨⟨a,c,t,q⟩,s⟩:=h;refine⟨⟨a,c,t,λh0=>?_⟩,s⟩;obtain⟨l,o,p,e,r⟩:=q h0;refine⟨l,o,p,e,λi bq=>?_⟩;obtain⟨g,k,m,n,f,j⟩:=r i bq;exact⟨g,k,dC d (b _ e) m,dC d (b _ e) n,f,j.agree (d.block g j.lt (b _ f))⟩
def PV.later (h:PV w X v ps) (a:bW w w'):PV w' X v ps:=h.aw (aa.ah (λ_=>False) a) (λ_ _ h=>h)
def ZS (w:World) (X:Nat->Prop) (o:Option (List Int)) (e:Ending):Prop:=
   (o=none/\e= .returned (.slice none 0 0))\/∃l g c,o=some l/\e= .returned (.slice (some (aD g 0)) 512 c)/\X g/\ay w 5 g c (bs l)
def ri (h:PV w X v ps) (k:Nat) (aU:ps.length<=5000000000000):
  Calls prog 135 #[v,iV (k:Int)] w λe w'=>ZS w X (jC ps k) e/\w'=w:=by
 obtain⟨a,c,rfl,sT⟩:=h.form;go_in;go_wp2;go_loopw [5] (λi wr=>∃j:Nat,j<=ps.length/\i=iV ((j:Int)-1)/\wr=w/\∀i (d:i<ps.length),j<=i->ps[i].1≠k) (λi _=>(intOf i+1).toNat);case atStart=>exact⟨ps.length,bR _,rfl,rfl,λi d h=>by omega⟩
 case round=>
  obtain⟨j,m,rfl,rfl,jd⟩:=hrel;have om:=yh jd;cases j with
  |zero=>
   have l:=yh (uY (ps:=ps) (b:=k) (λq s=>by
    obtain⟨j,m,rfl⟩:=List.mem_iff_getElem.1 s;exact om.o j m (by omega)))
   go_wp2;go_ret;exact⟨.inl ⟨l.out,rfl⟩,rfl⟩
  |succ j=>
   obtain⟨x,o,rfl,_,r⟩:=(yh sT).out (by omega);obtain⟨g,n,u,y,p,t⟩:=r j (by omega);by_cases f:ps[j].1=k
   .have l:=yh (Uu (ps:=ps) (by omega) f (λi d h=>om.o i d (by omega)));rw [f] at u;go_wp2;go_ret;exact⟨.inr ⟨_,g,n,l.out,rfl,p,(yh t).out⟩,rfl⟩
   .have dM:(((ps[j].1:Nat):Int) == (k:Int))=false:=(by rw [Bool.eq_false_iff,ne_eq,beq_iff_eq];omega);have Ky:∀i (d:i<ps.length),j<=i->ps[i].1≠k:=λi d h=>by
     by_cases e:i=j
     .subst e;exact f
     .exact om.o i d (by omega)
    go_wp2;go_roundw;case rel=>exact⟨j,by omega,by go_num,trivial,(yh Ky).out⟩
    case measure=>simp [intOf]
end
end
def ay.stored (h:ay w e g c xs) (k:Nat) (v:Value):ay (w.setCell ⟨g,k,none⟩ v) e g c (xs.set k v):=by
 obtain⟨cur,a,b,f,d⟩:=h;refine⟨_,heap_setCell_same _ _ _ _ _ _ a,by simpa using b,?_,d⟩;rw [List.length_set,Array.toList_setIfInBounds,List.take_set,f]
def cz.stored {r:Nat} {o:Value} (h:cz w F r s S gl cl ls o xs) (A:k<s) (t:F g) (y:ay w 5 g c (bs l)) (x:im.length=s*512)
    (z:∀j,j<s->bS im j=if j=k then l else bS S.im j):
  cz (w.setCell ⟨gl,k,none⟩ (.slice (some ⟨g,0,none⟩) 512 c)) F r s {S with im:=im} gl cl (ls.set k (.slice (some (aD g 0)) 512 c)) o xs/\aa (λb=>b=gl) w (w.setCell ⟨gl,k,none⟩ (.slice (some ⟨g,0,none⟩) 512 c)):=by
 have Mh:aa (λb=>b=gl) w (w.setCell ⟨gl,k,none⟩ (.slice (some ⟨g,0,none⟩) 512 c)):=aa.setCell (F:=λb=>b=gl) w (p:=(aD gl k)) rfl _;obtain⟨cur,lF,_⟩:=h.last;refine⟨⟨h.fr,h.fl,λb u=>iL (h.lt b u) Mh.size,(Mh.block r (h.lt r h.fr) (λe=>h.last.ne h.dI (by decide) e.symm)).trans h.dI,h.last.stored k _,by rw [List.length_set];exact h.Kv,λj n=>?_,
  aF h.dj (λb e=>Mh.block b (h.lt b (h.PO b e)) (dT h.dj e lF (by decide))),h.PO,λi v=>?_,⟨x,h.ok.lo,h.ok.hi,h.ok.puts,h.ok.fuse⟩⟩,Mh⟩
 .simp only [z j n];by_cases e:j=k
  .subst e;rw [aG rfl];exact⟨g,c,by rw [rR (by rw [h.Kv];exact n)],t,y.other Mh lF (by decide)⟩
  .rw [aB e];obtain⟨m,c',a,d,f⟩:=h.zO j n;exact⟨m,c',by rw [su (by omega)];exact a,d,f.other Mh lF (by decide)⟩
 .obtain⟨m,c',a,d,f,q⟩:=h.puts i v;exact⟨m,c',a,d,f,q.other Mh lF (by decide)⟩
def zR (S:DS) (s i:Nat):List Int:=pI s (DS.now {S with puts:=S.puts.take i})
def yv (h:S.Ok s) (i:Nat):DS.Ok {S with puts:=S.puts.take i} s:=⟨h.len,h.lo,h.hi,λq a=>h.puts q (List.mem_of_mem_take a),h.fuse⟩
def GI (h:S.Ok s) (i:Nat):(zR S s i).length=s*512:=pJ s _ (bA (yv h i))
def N9 (h:S.Ok s):zR S s 0=S.im:=by
 refine DK s (GI h 0) h.len (λk a=>?_);unfold zR;rw [nI s _ (bA (yv h 0)) k a];exact tL _ _ (by simp [au])
def RN:zR S s S.puts.length=pI s S.now:=by
 unfold zR;rw [List.take_length]
def Oa (h:S.Ok s) (c:i<S.puts.length):∀j,j<s->bS (zR S s (i+1)) j=if j=S.puts[i].1 then S.puts[i].2 else bS (zR S s i) j:=λj a=>by
 unfold zR;rw [nI s _ (bA (yv h (i+1))) j a,nI s _ (bA (yv h i)) j a];have b:S.puts.take (i+1)=S.puts.take i ++ [S.puts[i]]:=by rw [List.take_add_one,qQ c];rfl
 by_cases e:j=S.puts[i].1
 .rw [aG e];unfold DS.now DS.gM;simp only [b];rw [fv];simp [au,e,List.getD]
 .rw [aB e];have d:au (S.puts.take (i+1)) j=au (S.puts.take i) j:=by
   rw [b,fv,kV (puts:= [S.puts[i]]) (by simp;omega),List.append_nil]
  unfold DS.now DS.gM;simp only [d]
def GJ {r:Nat} (h:aC w F r s S) (d:S.fuse=0):
  Calls prog 65 #[pQ r] w λe w'=>e= .returned (iV 3)/\w'=w:=by
 obtain⟨c,b,f,g,xs,h⟩:=h;have a:=bM h.dI;go_in;go_wp2;go_ret;exact⟨rfl,rfl⟩
def cz.dropped {r:Nat} {l:Value} (h:cz w F r s S gl cl ls l xs):
  cz (w.setCell ⟨r,1,none⟩ (.slice none 0 0)) F r s {S with puts:= []} gl cl ls (.slice none 0 0) []/\aa (λk=>k=r) w (w.setCell ⟨r,1,none⟩ (.slice none 0 0)):=by
 have a:=(h.set 1 (.slice none 0 0)).2;refine⟨⟨h.fr,h.fl,λb g=>iL (h.lt b g) a.size,(h.set 1 _).1.trans (by simp [bL]),h.last.other a h.dI (by decide),h.Kv,λj i=>?_,World.ownsRow_nil _ _ _ _,by simp [Value.ownBlock],by simp,⟨h.ok.len,h.ok.lo,h.ok.hi,by simp,h.ok.fuse⟩⟩,a⟩;obtain⟨f,c',c,d,e⟩:=h.zO j i;exact⟨f,c',c,d,e.other a h.dI (by decide)⟩
def KA {wr:World} {r:Nat} {f:Value} (h:cz wr F r s {S with im:=zR S s S.puts.length} gl cl ls f xs) (g:aa F w wr):
  wr.cell? (aD r 1)=some f/\wr.frozen? (aD r 1)=false/\(wr.setCell ⟨r,1,none⟩ (.slice none 0 0)).cell? (aD r 6)=some (iV S.flushes)/\(wr.setCell ⟨r,1,none⟩ (.slice none 0 0)).frozen? (aD r 6)=false/\
  Calls prog 116 #[pQ r] ((wr.setCell ⟨r,1,none⟩ (.slice none 0 0)).setCell ⟨r,6,none⟩ (.int .i64 (wrap64 (S.flushes+1)))) λe w'=>e= .returned (.tuple #[])/\aC w' F r s ((S.flush s).gv)/\aa F w w':=by
 rw [RN] at h;obtain⟨a,fh⟩:=h.dropped;have c:cz ((wr.setCell ⟨r,1,none⟩ (.slice none 0 0)).setCell ⟨r,6,none⟩ (.int .i64 (wrap64 (S.flushes+1)))) F r s (S.flush s) gl cl ls (.slice none 0 0) []:=
  a.nE (a.set 6 _).2 ((a.set 6 _).1.trans (by simp [bL,DS.flush])) rfl rfl a.ok.fuse
 refine⟨bG h.dI,ae h.dI 1,xz a.dI,ae a.dI 6,(zQ r S.fuse _ (bM c.dI) (ae c.dI 2) c.ok.fuse.1).mono ?_⟩;rintro e w' ⟨rfl,rfl⟩;have d:=c.yQ;exact⟨rfl,⟨gl,cl,ls,_,_,d.1⟩,((g.trans fh (λj b=> .inl (b▸h.fr))).trans (a.set 6 _).2 (λj b=> .inl (b▸h.fr))).trans d.2 (λj b=> .inl b)⟩
set_option maxRecDepth 100000 in
def Ob {r:Nat} (hd:aC w F r s S) (J:S.fuse≠0) (aU:S.puts.length+1<=4000000000000):
  Calls prog 65 #[pQ r] w λe w'=>e= .returned (iV 0)/\aC w' F r s ((S.flush s).gv)/\aa F w w':=by
 obtain⟨c,p,k,C,xs,h⟩:=hd;have U:=bM h.dI;have l:(S.fuse == 0)=false:=by simp [J]
 have dw:=h.ok;have h0:cz w F r s {S with im:=zR S s 0} c p k C xs:=by rw [N9 h.ok];exact h
 go_in;go_wp2;go_loopw [3] (λi wr=>∃j:Nat,j<=S.puts.length/\i=iV (j:Int)/\∃k,cz wr F r s {S with im:=zR S s j} c p k C xs/\aa F w wr) (λi _=>S.puts.length-(intOf i).toNat);case atStart=>exact⟨0,dL _,rfl,k,h0,aa.refl _ _⟩
 case round=>
  obtain⟨j,hj,rfl,k,hd,y⟩:=hrel;obtain⟨a,ca,xP,q⟩:=hd.form;have x:=aM hd.dI;have n:=bG hd.dI;rw [xP] at n;by_cases bq:j<S.puts.length
  .have cC:(j:Int)<(S.puts.length:Int):=(by omega);obtain⟨d,rfl,K⟩:=q (by simp only;omega);obtain⟨g,D,z,A,I,L⟩:=K j bq;have ez:=(dw.puts S.puts[j] (List.getElem_mem bq)).1;have aij:((S.puts[j].1:Nat):Int)<(s:Int):=(by omega);obtain⟨R,T⟩:=hd.stored ez I L (GI dw (j+1)) (Oa dw bq);have fl:=hd.last.frozen S.puts[j].1;obtain⟨gx,W,jL,_⟩:=hd.zO _ ez;have E:=hd.last.cell jL;have f:=aH R (y.trans T (λb l=> .inl (l▸hd.fl)));have rO:r≠c:=λe=>hd.last.ne hd.dI (by decide) e.symm;have pF:d≠c:=by
    obtain⟨cur,lF,_⟩:=hd.last;exact dT hd.dj (by rw [xP];rfl) lF (by decide)
   generalize S.puts[j].1=u at*;have m:∀b o v,b≠c->(wr.setCell ⟨c,u,none⟩ v).cell? (aD b o)=wr.cell? (aD b o):=λb o v l=>World.cell?_of_block (w:=wr) (a:=(aD b o)) (Below.heap_setCell wr ⟨c,u,none⟩ v b l);have N:=λv=>(m r 0 v rO).trans x;have O:=λv=>(m r 1 v rO).trans n;have P:=λv=>(m d (j*2) v pF).trans z;have Q:=λv=>(m d (j*2+1) v pF).trans A;have M:=(aH N (aH O (aH P Q)));go_wp2_with fail;go_region_held3 (λw'=>w'.cell? (aD r 0)=some (.slice (some (aD c 0)) s p)/\w'.cell? (aD r 1)=some (.slice (some (aD d 0)) S.puts.length ca)/\w'.cell? ⟨d,j*2,none⟩=some (iV (u:Int))/\w'.cell? ⟨d,j*2+1,none⟩=some (.slice (some (aD g 0)) 512 D)) (first|exact⟨x,n,z,A⟩|exact⟨M.1 _,M.2.1 _,M.2.2.1 _,M.2.2.2 _⟩) (fail);all_goals
    go_wp2;go_roundw;case rel=>exact⟨j+1,by omega,by go_num,_,f.1.agree (bR _) (λ_ _=>rfl),⟨f.2.os,f.2.tape,f.2.output,f.2.size,f.2.block⟩⟩
    case measure=>simp [intOf];omega
  .have cC:¬(j:Int)<(S.puts.length:Int):=(by omega);have H:j=S.puts.length:=(by omega);rw [H] at hd;obtain⟨G,X,Y,Z,t⟩:=KA hd y;rw [xP] at G;go_wp2_with (go_at_call 116;refine t.mono ?_;rintro e w5 ⟨rfl,jJ,dX⟩);go_ret;exact⟨rfl,jJ,dX⟩
def VS (w:World) (F:Nat->Prop) (S:DS) (k:Nat) (vs:List Value):Prop:=
 vs.length=(au S.puts k).length+1/\∀j,j<vs.length->∃g c,vs[j]? =some (.slice (some (aD g 0)) 512 c)/\F g/\ay w 5 g c (bs (S.gM k j))
def rj (a:i<S.puts.length):S.puts.take (i+1)=S.puts.take i ++ [S.puts[i]]:=by rw [List.take_add_one,qQ a];rfl
def VS.skip (b:i<S.puts.length) (h:VS w F {S with puts:=S.puts.take i} k vs) (a:S.puts[i].1≠k):VS w F {S with puts:=S.puts.take (i+1)} k vs:=by
 have c:au (S.puts.take (i+1)) k=au (S.puts.take i) k:=by rw [rj b,fv,kV (puts:= [S.puts[i]]) (by simpa using a),List.append_nil]
 unfold VS DS.gM at*;simp only [c] at*;exact h
def VS.snoc (q:i<S.puts.length) (h:VS w F {S with puts:=S.puts.take i} k vs) (p:S.puts[i].1=k) (o:F g) (s:ay w 5 g c (bs S.puts[i].2)):
  VS w F {S with puts:=S.puts.take (i+1)} k (vs ++ [.slice (some (aD g 0)) 512 c]):=by
 have b:au (S.puts.take (i+1)) k=au (S.puts.take i) k ++ [S.puts[i].2]:=by rw [rj q,fv];simp [au,p]
 obtain⟨a,n⟩:=h;simp only at a;refine⟨by simp only [b];simp [a],λj r=>?_⟩;by_cases Bk:j<vs.length
 .obtain⟨m,c',d,e,f⟩:=n j Bk;refine⟨m,c',by rw [u9 Bk];exact d,e,?_⟩;have:DS.gM {S with puts:=S.puts.take (i+1)} k j=DS.gM {S with puts:=S.puts.take i} k j:=by
   unfold DS.gM;split
   .rfl
   .simp only [b];rw [List.getD,List.getD,u9 (by omega)]
  rw [this];exact f
 .have l:j=vs.length:=by simp at r;omega
  subst l;refine⟨g,c,by simp,o,?_⟩;have:DS.gM {S with puts:=S.puts.take (i+1)} k vs.length=S.puts[i].2:=by
   unfold DS.gM;rw [aB (by omega)];simp only [b,a,Nat.add_sub_cancel];simp [List.getD]
  rw [this];exact s
def VS.start (a:F g) (d:ay w 5 g c (bs (bS S.im k))):
  VS w F {S with puts:=S.puts.take 0} k [.slice (some (aD g 0)) 512 c]:=by
 refine⟨by simp [au],λj b=>?_⟩;have:j=0:=by simp at b;omega
 subst this;exact⟨g,c,rfl,a,d⟩
def Oc {r:Nat} {K:Value} (h:cz w F r s S gl cl ls K xs) (k:Nat) (D:k<s) (aU:S.puts.length+1<=4000000000000):
  Calls prog 71 #[pQ r,iV (k:Int)] w λe w'=>∃g c vs,e= .returned (.slice (some (aD g 0)) ((au S.puts k).length+1) c)/\w.heap.size<=g/\ay w' 36 g c vs/\VS w F S k vs/\bW w w':=by
 obtain⟨H,rS,gC,dE,em⟩:=info_parts tI;obtain⟨a,c,rfl,sT⟩:=h.form;have O:=aM h.dI;have t:=bG h.dI;obtain⟨z,cs,vu,UN,my⟩:=h.zO k D;have x:=h.last.cell vu;have ez:(k:Int)<(s:Int):=by omega
 go_in;go_wp2;go_loopw [5,6] (λv i wr=>∃j:Nat,j<=S.puts.length/\i=iV (j:Int)/\∃vs,wr.ownsRow w.heap.size 36 1 v ((au (S.puts.take j) k).length+1) vs/\VS w F {S with puts:=S.puts.take j} k vs/\bW w wr) (λ_ i _=>S.puts.length-(intOf i).toNat);case atStart=>
  refine⟨0,dL _,rfl,_,?_,(yh (VS.start (S:=S) UN my)).out,(bi _ w).alloc (bR _) _⟩;exact⟨by simp [au], .inr ⟨w.heap.size,1, #[.slice (some (aD z 0)) 512 cs],by simp [au],bR _,heap_alloc_new _ _,by simp [au],by decide,by simp,by simp [au]⟩⟩
 case round=>
  obtain⟨j,R,rfl,vs,aA,Jk,d⟩:=hrel;have P:=cell_later d t;by_cases bq:j<S.puts.length
  .have cC:(j:Int)<(S.puts.length:Int):=(by omega);obtain⟨Q,rfl,E⟩:=(yh sT).out (by omega);obtain⟨g,l,I,J,A,n⟩:=E j bq;have L:=cell_later d I;have T:=cell_later d J;have pF:=l5 (S.puts.take j) k;have Y8:(S.puts.take j).length<=S.puts.length:=(by rw [oj];omega);by_cases f:S.puts[j].1=k
   .have p:=yh (VS.snoc bq Jk f A n);have vj:(au (S.puts.take (j+1)) k).length=(au (S.puts.take j) k).length+1:=(by rw [rj bq,fv];simp [au,f]);rw [f] at L;have bw:=yh aA;go_wp2_with (at_builtin;refine wpList_append_own _ rfl _ _ 62 rfl w.heap.size 36 H (.slice none 0 0) 1 24 underlying62 rS gC dE em rfl (by decide) _ _ _ rfl (bw.o.alloc _) (aD wr.heap.size 0) 1 1 [.slice (some (aD g 0)) 512 l] rfl rfl (cell_one_new _ _ _) (by intro u q;simp at q;subst q;rfl) (by unfold maxLen;omega) (by omega) (by simp;have:=d.size;omega) ?_);intro M N cN aR jI;have vl:=λb e=>(bw.o.lt b e).1;have bz:=(d.alloc d.size _).grown aR (by simp;have:=d.size;omega) (λb e=>vl b e);have fP:N.ownsRow w.heap.size 36 1 M ((au (S.puts.take (j+1)) k).length+1) (vs ++ [.slice (some (aD g 0)) 512 l]):=(by rw [(yh vj).out];exact cN);go_wp2;go_roundw;case rel=>exact⟨j+1,by omega,by go_num,_,(yh fP).out,p.out,bz⟩
    case measure=>simp [intOf];omega
   .have dM:(((S.puts[j].1:Nat):Int) == (k:Int))=false:=(by rw [Bool.eq_false_iff,ne_eq,beq_iff_eq];omega);have vj:au (S.puts.take (j+1)) k=au (S.puts.take j) k:=(by rw [rj bq,fv,kV (puts:= [S.puts[j]]) (by simpa using f),List.append_nil]);rw [<-vj] at aA;go_wp2;go_roundw;case rel=>exact⟨j+1,by omega,by go_num,_,(yh aA).out,(yh (VS.skip bq Jk f)).out,d⟩
    case measure=>simp [intOf];omega
  .have cC:¬(j:Int)<(S.puts.length:Int):=(by omega);have y:j=S.puts.length:=(by omega);subst y;rw [List.take_length] at aA Jk;obtain⟨g,l,G,C,n,_⟩:=ay.fg aA (by rintro rfl;rcases aA.2 with ⟨_,h⟩|⟨_,_,_,h,_⟩;omega;cases h);have m:=yh (aH C (aH n Jk));subst G;go_wp2;go_ret;exact⟨g,l,rfl,m.o.1,vs,m.o.2.1,m.o.2.2,d⟩
def wl (x:Int) (y:Nat) (h:max x 0=(y:Int)) (w:World):
  Calls prog 127 #[iV x] w λe w'=>e= .returned (iV (y:Int))/\w'=w:=by
 by_cases b:x<0
 .have a:(y:Int)=0:=by omega
  rw [a];go_in;go_wp2;go_ret;exact⟨rfl,rfl⟩
 .have a:(y:Int)=x:=by omega
  rw [a];go_in;go_wp2;go_ret;exact⟨rfl,rfl⟩
def KB (a lb:List Int) (j:Nat) (JJ:j<a.length) (BM:j<lb.length):(a.take j ++ lb.drop j).set j a[j]=a.take (j+1) ++ lb.drop (j+1):=by
 have b:(a.take j).length=j:=by rw [oj];omega
 have c:a.take (j+1)=a.take j ++ [a[j]]:=by rw [List.take_add_one,qQ JJ];rfl
 rw [List.set_append_right _ _ (by omega),b,Nat.sub_self,List.drop_eq_getElem_cons BM,c,ld,rG];rfl
set_option maxRecDepth 100000 in
def RO (dw:S.Ok s) (ez:k<s) (I:ay w 36 g c vs) (J:VS w F S k vs)
    (A B C:Int) (A' B' l:Nat) (Z:max A 0=(A':Int)) (hB:max B 0=(B':Int)) (hC:max C 0=(l:Int)) (N:A<=9223372036854775807) (O:B<=9223372036854775807) (P:C<=9223372036854775807):
  Calls prog 72 #[.slice (some (aD g 0)) ((au S.puts k).length+1) c, .agg #[iV A,iV B,iV C]] w λe w'=>∃b,e= .returned (.slice (some (aD b 0)) 512 512)/\w.heap.size<=b/\ay w' 5 b 512 (bs (jp S k A' B' l))/\bW w w':=by
 have Wb:=J.1;have JF:∀j:Nat,(j:Int)%(((au S.puts k).length:Int)+1)=((j%((au S.puts k).length+1):Nat):Int):=λj=>by push_cast;rfl
 have Cu:∀j:Nat,j%((au S.puts k).length+1)<(au S.puts k).length+1:=λj=>Nat.mod_lt _ (by omega);obtain⟨G,X7⟩:=bP (A'%((au S.puts k).length+1));obtain⟨H,ZM⟩:=bP (B'%((au S.puts k).length+1));have aik:=X7▸Cu A';have ail:=ZM▸Cu B';have T:=JF A';have U:=JF B';rw [<-X7] at T;rw [<-ZM] at U;obtain⟨ga,ca,W,hFa,Bu⟩:=J.2 G (by omega);obtain⟨Y,cb,X,DO,B2⟩:=J.2 H (by omega);have ka:=I.cell W;have kb:=I.cell X;have hgw:=I.lt;have Q:(l:Int)%513=((l%513:Nat):Int):=by push_cast;rfl
 obtain⟨a,BO⟩:=bP (l%513);rw [<-BO] at Q;have XI:a<=512:=by omega
 have x:=wl A A' Z;have z:=wl B B' hB;have D:=wl C l hC;have hA2:(A':Int)<=9223372036854775807:=by omega
 have eV:(B':Int)<=9223372036854775807:=by omega
 have Qs:(l:Int)<=9223372036854775807:=by omega
 have aoS:(G:Int)<((au S.puts k).length:Int)+1:=by omega
 have aoT:(H:Int)<((au S.puts k).length:Int)+1:=by omega
 have Je:jp S k A' B' l=(S.gM k G).take a ++ (S.gM k H).drop a:=by unfold jp;rw [<-X7,<-ZM,<-BO]
 rw [Je];obtain⟨K,L⟩:=bV Bu B2;have n:=yh (DS.nG dw ez (j:=G) (by omega));have d:=yh (DS.nG dw ez (j:=H) (by omega));clear Z hB hC N O P JF Cu BO X7 ZM Je Bu B2 I J Wb W X aik ail;generalize S.gM k G=f at*;generalize S.gM k H=lb at*;go_in;go_wp2_with fail;refine(x _).mono ?_;rintro e w1 ⟨rfl,m⟩;have eR:=m.symm;subst eR;clear m;go_wp2_with fail;refine(z _).mono ?_;rintro e w1 ⟨rfl,m⟩;have eR:=m.symm;subst eR;clear m;go_wp2_with fail;refine(D _).mono ?_;rintro e w1 ⟨rfl,m⟩;have eR:=m.symm;subst eR;clear m;have sB:Src (w.alloc (.cells #[.int .i64 A, .int .i64 B, .int .i64 C] 115)) (some (aD Y 0)) 512 lb:=by
  have:=L.o.src;rw [d.o] at this;exact this.later ((bi _ w).alloc (bR _) _)
 have MI:=lX (some (aD Y 0)) 512 cb lb _ (by omega) sB;clear sB;go_wp2_with (go_at_call 97;refine MI.mono ?_;rintro e w2 ⟨b,rfl,RP,BR,eI⟩);have bd:=((bi _ w).alloc (bR _) _).trans (eI.mono (by simp));have gh:w.heap.size<=b:=by simp at RP;omega
 have wI:w2.heap[b]? =some (.cells (bs (f.take 0 ++ lb.drop 0)).toArray 5 (0,0)):=by simpa using BR.full (by simp [bs,d.o])
 have r:=yh wI;clear BR eI RP MI wI x z D ka kb;go_loopw [9] (λi wr=>∃j:Nat,j<=a/\i=iV (j:Int)/\wr.heap[b]? =some (.cells (bs (f.take j ++ lb.drop j)).toArray 5 (0,0))/\bW w wr) (λi _=>a-(intOf i).toNat);case atStart=>exact⟨0,dL _,rfl,r.o,bd⟩
 case round=>
  clear bd r;obtain⟨j,hj,rfl,hh,R⟩:=hrel;have q:=yh hh;clear hh;by_cases bq:j<a
  .have cC:(j:Int)<(a:Int):=(by omega);have hj5:(j:Int)<512:=(by omega);have X7:j<f.length:=(by have:=n.o;omega);have ZM:j<lb.length:=(by have:=d.o;omega);have ca1:wr.cell? (aD ga j)=some (.int .u8 f[j]):=by
    have:=K.o.byte X7;rw [aN,Nat.zero_add] at this;simpa [List.getD,qQ X7] using (cell_later R this)
   have v:∃u,wr.cell? (aD b j)=some u:=⟨_,aj q.o (j:=j) (by simp only [List.getElem?_toArray];exact qQ (by simp [bs];have:=n.o;have:=d.o;omega))⟩;obtain⟨u,v⟩:=v;have fb1:=ae q.o j;have E:(wr.setCell ⟨b,j,none⟩ (.int .u8 f[j])).heap[b]? =some (.cells (bs (f.take (j+1) ++ lb.drop (j+1))).toArray 5 (0,0)):=by
    rw [heap_setCell_same _ _ _ _ _ _ q.o,<-KB f lb j X7 ZM];simp [bs,List.map_set]
   have t:=yh (aH E (R.setCell (p:=⟨b,j,none⟩) gh (.int .u8 f[j])));clear E q;generalize f[j]=y at*;go_wp2;go_roundw;case rel=>exact⟨j+1,by omega,by go_num,t.o.1,t.o.2⟩
   case measure=>simp [intOf];omega
  .have cC:¬(j:Int)<(a:Int):=(by omega);have ej:j=a:=(by omega);subst ej;have Jl:ay wr 5 b 512 (bs (f.take j ++ lb.drop j)):=by
    have KC:(bs (f.take j ++ lb.drop j)).length=512:=(by simp only [bs,jF,ee,oj,List.length_drop];have:=n.o;have:=d.o;omega);have:=ay.xX q.o (by rw [KC];decide);rw [KC] at this;exact this
   have M:=yh Jl;clear Jl q;go_wp2;go_ret;refine⟨b,rfl,gh,?_,R⟩;have hx:=M.o;simp only [bs,List.map_append,List.map_take,List.map_drop] at hx;exact hx
def mJ (w:World) (F:Nat->Prop) (S:DS) (l:List P3) (ks:List Nat) (xs:List Value):Prop:=
 xs.length=ks.length*2/\∀i (hi:i<ks.length),∃g,xs[2*i]? =some (iV ((ks[i]:Nat):Int))/\xs[2*i+1]? =some (.slice (some (aD g 0)) 512 512)/\F g/\ay w 5 g 512 (bs (fo S l ks[i]))
def mJ.snoc {l:List P3} (h:mJ w F S l ks xs) (o:∀k,F k->G k) (q:∀b ys,F b->ay w 5 b 512 ys->ay w' 5 b 512 ys) (p:G g) (s:ay w' 5 g 512 (bs (fo S l k))):
  mJ w' G S l (ks ++ [k]) (xs ++ [iV (k:Int), .slice (some (aD g 0)) 512 512]):=by
 obtain⟨m,n⟩:=h;refine⟨by simp [m];omega,λi r=>?_⟩;by_cases nF:i<ks.length
 .obtain⟨j,c,d,a,e⟩:=n i nF;refine⟨j,?_,?_,o _ a,?_⟩
  .rw [u9 (by omega),c,List.getElem_append_left nF]
  .rw [u9 (by omega),d]
  .rw [List.getElem_append_left nF];exact q _ _ a e
 .have f:i=ks.length:=by simp at r;omega
  subst f;refine⟨g,?_,?_,p,?_⟩
  .rw [wm (by omega),show 2*ks.length-xs.length=0 by omega];simp
  .rw [wm (by omega),show 2*ks.length+1-xs.length=1 by omega];simp
  .simpa using s
def mJ.agree {l:List P3} (h:mJ w F S l ks xs) (f:∀k,F k->G k) (j:∀b ys,F b->ay w 5 b 512 ys->ay w' 5 b 512 ys):mJ w' G S l ks xs:=
   ⟨h.1,λi m=>by obtain⟨g,c,d,a,e⟩:=h.2 i m;exact⟨g,c,d,f _ a,j _ _ a e⟩⟩
def wR (h:au S.puts k= []):aI S (k+1)=aI S k:=by rw [pL,aG h,List.append_nil]
def qx (h:au S.puts k≠ []):aI S (k+1)=aI S k ++ [k]:=by rw [pL,aB h]
def GK (h:S.puts= []) (s:Nat):aI S s= []:=by
 unfold aI;rw [List.filter_eq_nil_iff];intro k _;simp [h,au]
def wT {wr wx:World} {l:List P3} (dw:S.Ok s) (ez:k<s) (x:au S.puts k≠ []) (m:ay wr 36 g c vs) (n:VS w F S k vs) (bq:∀b,F b->b<w.heap.size) (i:bW w wr) (o:bW wr wx)
    (A B C:Int) (y:mA l (aI S k).length=(A,B,C)) (r:A<=9223372036854775807) (t:B<=9223372036854775807) (u:C<=9223372036854775807):
  Calls prog 72 #[.slice (some (aD g 0)) ((au S.puts k).length+1) c, .agg #[iV A,iV B,iV C]] wx λe w'=>∃a,e= .returned (.slice (some (aD a 0)) 512 512)/\wx.heap.size<=a/\ay w' 5 a 512 (bs (fo S l k))/\bW wx w':=by
 have d:VS wx F S k vs:=⟨n.1,λj v=>by obtain⟨a,c',p,f,q⟩:=n.2 j v;exact⟨a,c',p,f,q.agree ((i.trans (o.mono i.size)).block a (bq a f))⟩⟩;have e:fo S l k=jp S k (max A 0).toNat (max B 0).toNat (max C 0).toNat:=by
  unfold fo vm;rw [aB x,y]
 rw [e];exact RO dw ez (m.agree (o.block g m.lt)) d A B C _ _ _ (by omega) (by omega) (by omega) r t u
def Bh {wr a:World} {l:List P3} {i:Value} {o:Obj} (c:bW w wr) (fd:bW wr w5) (aA:wr.ownsRow w.heap.size 120 2 v (aI S k).length ys)
    (wV:mJ wr (λb=>w.heap.size<=b/\b<wr.heap.size) S l (aI S k) ys) (d:au S.puts k≠ []) (n:wr.heap.size<=g) (f:ay w5 5 g 512 (bs (fo S l k))) (aR:(w5.alloc o).grownBy a v.ownBlock)
    (cN:a.ownsRow w.heap.size 120 2 i ((aI S k).length+1) (ys ++ [iV (k:Int), .slice (some (aD g 0)) 512 512])):
  a.ownsRow w.heap.size 120 2 i (aI S (k+1)).length (ys ++ [iV (k:Int), .slice (some (aD g 0)) 512 512])/\mJ a (λb=>w.heap.size<=b/\b<a.heap.size) S l (aI S (k+1)) (ys ++ [iV (k:Int), .slice (some (aD g 0)) 512 512])/\bW w a:=by
 have m:=c.size;have ZT:(w5.alloc o).heap.size=w5.heap.size+1:=by simp
 have RQ:=aR.size;have Vf:=f.lt;have sb:=aF aA (λb e=>fd.block b (aA.lt b e).2);have aw:∀b ys,ay w5 5 b 512 ys->ay a 5 b 512 ys:=λb zs eI=>by
  have j:=eI.lt;refine eI.agree ((aR.block b (by omega) (λe=>?_)).trans (Below.heap_alloc _ _ _ j));obtain⟨cur,gN,_⟩:=eI;exact dT sb e.symm gN (by decide) rfl
 refine⟨by rw [qx d];simpa using cN,?_,?_⟩
 .rw [qx d];exact wV.snoc (λb h=>⟨h.1,by omega⟩) (λb zs h BR=>aw b zs (BR.agree (fd.block b h.2))) ⟨by omega,by omega⟩ (aw g _ f)
 .exact((c.trans (fd.mono m)).alloc (by omega) o).grown aR (by omega) (λb e=>(aA.lt b e).1)
def Ma {wr:World} {l:List P3} (a:bW w wr) (fd:bW wr w5) (aA:wr.ownsRow w.heap.size 120 2 v (aI S k).length ys)
    (wV:mJ wr (λb=>w.heap.size<=b/\b<wr.heap.size) S l (aI S k) ys) (c:au S.puts k= []):
  w5.ownsRow w.heap.size 120 2 v (aI S (k+1)).length ys/\mJ w5 (λb=>w.heap.size<=b/\b<w5.heap.size) S l (aI S (k+1)) ys/\bW w w5:=by
 have pT:=fd.size;rw [wR c];exact⟨aF aA (λb e=>fd.block b (aA.lt b e).2),wV.agree (λb h=>⟨h.1,by omega⟩) (λb zs h BR=>BR.agree (fd.block b h.2)),a.trans (fd.mono a.size)⟩
def zS {wr:World} {r:Nat} {e:Value} {l:List P3} (h:cz wr G r s {S with im:=im} gl cl ls e xs) (g:im=pI s (fo S l)) (d:F r) (i:aa F w wr):
  wr.cell? (aD r 1)=some e/\wr.frozen? (aD r 1)=false/\(wr.setCell ⟨r,1,none⟩ (.slice none 0 0)).cell? (aD r 2)=some (iV S.fuse)/\(wr.setCell ⟨r,1,none⟩ (.slice none 0 0)).frozen? (aD r 2)=false/\
    ((wr.setCell ⟨r,1,none⟩ (.slice none 0 0)).setCell ⟨r,2,none⟩ (.int .i64 (-1))).cell? (aD r 3)=some (iV S.life)/\((wr.setCell ⟨r,1,none⟩ (.slice none 0 0)).setCell ⟨r,2,none⟩ (.int .i64 (-1))).frozen? (aD r 3)=false/\
  cz (((wr.setCell ⟨r,1,none⟩ (.slice none 0 0)).setCell ⟨r,2,none⟩ (.int .i64 (-1))).setCell ⟨r,3,none⟩ (.int .i64 (wrap64 (S.life+1)))) G r s (S.iA s l) gl cl ls (.slice none 0 0) []/\
  aa F w (((wr.setCell ⟨r,1,none⟩ (.slice none 0 0)).setCell ⟨r,2,none⟩ (.int .i64 (-1))).setCell ⟨r,3,none⟩ (.int .i64 (wrap64 (S.life+1)))):=by
 subst g;obtain⟨a,fh⟩:=h.dropped;have b:cz ((wr.setCell ⟨r,1,none⟩ (.slice none 0 0)).setCell ⟨r,2,none⟩ (.int .i64 (-1))) G r s {S with im:=pI s (fo S l),puts:= [],fuse:= -1} gl cl ls (.slice none 0 0) []:=
  a.nE (a.set 2 _).2 ((a.set 2 _).1.trans (by simp [bL])) rfl rfl (by simp)
 have f:cz (((wr.setCell ⟨r,1,none⟩ (.slice none 0 0)).setCell ⟨r,2,none⟩ (.int .i64 (-1))).setCell ⟨r,3,none⟩ (.int .i64 (wrap64 (S.life+1)))) G r s (S.iA s l) gl cl ls (.slice none 0 0) []:=
  b.nE (b.set 3 _).2 ((b.set 3 _).1.trans (by simp [bL,DS.iA])) rfl rfl (by simp [DS.iA])
 exact⟨bG h.dI,ae h.dI 1,bM a.dI,ae a.dI 2,fU b.dI,ae b.dI 3,f,
    ((i.trans fh (λj c=> .inl (c▸d))).trans (a.set 2 _).2 (λj c=> .inl (c▸d))).trans (b.set 3 _).2 (λj c=> .inl (c▸d))⟩
def I6 {wr:World} {l:List P3} (aA:w.ownsRow base 120 2 v ks.length ys) (wV:mJ wr G S l ks ys):
  ∃a c,v= .slice a ks.length c/\(0<ks.length->∃gf,a=some (aD gf 0)/\base<=gf/\∀i (d:i<ks.length),∃g,w.cell? ⟨gf,i*2,none⟩=some (iV ((ks[i]:Nat):Int))/\w.cell? ⟨gf,i*2+1,none⟩=some (.slice (some (aD g 0)) 512 512)/\G g/\ay wr 5 g 512 (bs (fo S l ks[i]))):=by
 have f:=aA;obtain⟨_,⟨e,s⟩|⟨b,m,cur,e,r,_⟩⟩:=aA
 .exact⟨none,0,by rw [e,s],λh0=>by omega⟩
 .refine⟨_,_,e,λ_=>⟨b,rfl,r,λi d=>?_⟩⟩;obtain⟨g,n,o,p,q⟩:=wV.2 i d;have j:=f.cells (g:=b) (by rw [e];rfl) _ _ n;have k:=f.cells (g:=b) (by rw [e];rfl) _ _ o;rw [aN,Nat.zero_add] at j k;exact⟨g,by rw [Nat.mul_comm];exact j,by rw [Nat.mul_comm];exact k,p,q⟩
set_option maxRecDepth 100000 in
def GL {r:Nat} (hd:aC w F r s S) (d:S.puts.length=0) (a:Option Addr) (n c:Nat) (l:List P3):
  Calls prog 30 #[pQ r, .slice a n c] w λe w'=>e= .returned (.tuple #[])/\aC w' (more F w w') r s (S.iA s l)/\aa F w w':=by
 obtain⟨o,j,p,A,xs,h⟩:=hd;obtain⟨q,t,xP,_⟩:=h.form;have g:=bG h.dI;obtain⟨m,u,v,x,y,z,nS,gS⟩:=zS h (vn h.ok l h.ok.len (λi _=>by simp [(GK (yH d) s)])) h.fr (aa.refl F w);have f:=(aH (show aC _ (more F w (((w.setCell ⟨r,1,none⟩ (.slice none 0 0)).setCell ⟨r,2,none⟩ (.int .i64 (-1))).setCell ⟨r,3,none⟩ (.int .i64 (wrap64 (S.life+1))))) r s (S.iA s l) from ⟨o,j,p,_,_,nS.mono (λ_ b=> .inl b) (λk b=>by
  rcases b with b|b
  .exact nS.lt k b
  .exact b.2)⟩) gS)
 rw [xP,d] at g m;go_in;go_wp2;refine wp_loop_rounds 1 ?_;rw [rounds_succ];go_wp2
 go_end0
 exact⟨rfl,f⟩
set_option maxRecDepth 100000 in
def GM {r:Nat} (hd:aC w F r s S) (hz:0<S.puts.length) (aU:S.puts.length+1<=4000000000000) (a:Option Addr) (n c:Nat) (l:List P3) (DT:ll w a n l) (hn:n<=140737488355328):
  Calls prog 30 #[pQ r, .slice a n c] w λe w'=>e= .returned (.tuple #[])/\aC w' (more F w w') r s (S.iA s l)/\aa F w w':=by
 obtain⟨i0,rS,gC,dE,em⟩:=info_parts MG;obtain⟨m,cl,W,pv,xs,h⟩:=hd;obtain⟨y,FD,MJ⟩:=kH h.ok h.fl h.fr;obtain⟨ap,cp,xP,_⟩:=h.form;have c0:=aM h.dI;have c1:=bG h.dI;rw [xP] at c1;obtain⟨lG,H,U⟩:=kH h.ok.hi h DT;clear h xP DT;go_in;go_wp2;clear c1;go_loopw [4,5,6,7,8] (λkc v i _ _ wr=>∃t:Nat,t<=s/\i=iV (t:Int)/\kc=iV ((aI S t).length:Int)/\∃P,wr.ownsRow w.heap.size 120 2 v (aI S t).length P/\mJ wr (λb=>w.heap.size<=b/\b<wr.heap.size) S l (aI S t) P/\bW w wr) (λ_ _ i _ _ _=>s-(intOf i).toNat);case atStart=>exact⟨0,dL _,rfl,rfl, [],World.ownsRow_nil _ _ _ _,⟨rfl,λi hi=>by simp [aI] at hi⟩,bi _ _⟩
 case round=>
  obtain⟨t,ht,rfl,rfl,P,aA,wV,d⟩:=hrel;have e0:=cell_later d c0;have Jn:(aI S t).length<=t:=by
   have:=List.length_filter_le (λk=> !(au S.puts k).isEmpty) (List.range t);rw [List.length_range] at this;exact this
  by_cases bq:t<s
  .have cC:(t:Int)<(s:Int):=(by omega);have hh:=H.agree d.size (λk f=>d.block k (H.lt k f));obtain⟨tM,bw,u,pF⟩:=cP (Oc hh t bq aU) aA wV (l5 S.puts t);clear hh aA wV;by_cases E:au S.puts t= []
   .have cu:(au S.puts t).length=0:=(by rw [E];rfl);rw [cu] at tM;have JL:=(λw5 h5=>Ma (w5:=w5) d h5 bw u E);have aY:=wR E;have L:=aY;clear aY E cu;go_wp2_with fail;refine tM.mono ?_;rintro e w1 ⟨g1,cg1,vs,rfl,pB,mt,Jk,ar⟩;obtain⟨J,K,p⟩:=JL w1 ar;have C:=(aH J (aH K p));clear tM JL J K p mt Jk ar bw u d e0;go_wp2;go_roundw;case rel=>exact⟨t+1,by omega,by go_num,by rw [L],P,C.1,C.2.1,C.2.2⟩
    case measure=>simp [intOf];omega
   .have cu:((((au S.puts t).length:Int)+1) == 1)=false:=by
     have:=List.length_pos_iff.2 E;rw [Bool.eq_false_iff,ne_eq,beq_iff_eq];omega
    have aY:(aI S (t+1)).length=(aI S t).length+1:=(by rw [qx E];simp);have L:=aY;clear aY;go_wp2_with fail;refine tM.mono ?_;rintro e w1 ⟨g1,cg1,vs,rfl,pB,mt,Jk,ar⟩;have RR:=d.trans (ar.mono d.size);have N:=mt;have O:=Jk;clear mt Jk tM;by_cases ln:n=0
    .subst ln;have I:mA l (aI S t).length=(0,0,0):=(by simp [mA,U.1]);have Je:=λo=>wT y bq E N O (λb eI=>iL (H.lt b eI) d.size) ar ((bi w1.heap.size w1).alloc (bR _) o) 0 0 0 I (by omega) (by omega) (by omega);have XK:=Je;clear Je I;go_wp2_with fail;refine(XK _).mono ?_;rintro e w5 ⟨Q,rfl,GF,Fx,fd⟩;have Od:=(ar.alloc ar.size _).trans (fd.mono (by simp;have:=ar.size;omega));have sb:=aF bw (λb e=>Od.block b (bw.lt b e).2);have R:wr.heap.size<=Q:=(by simp at GF;have:=ar.size;omega);obtain⟨Jo,GN,z,A⟩:=cP (k9 d.size Od.size) sb Fx Od;clear sb Fx Od fd GF XK N O RR;go_wp2_with (at_builtin;refine wpList_append_own _ rfl _ _ 63 rfl w.heap.size 120 i0 _ 2 32 underlying63 rS gC dE em rfl (by decide) _ _ _ rfl (GN.alloc _) (aD w5.heap.size 0) 1 1 [iV (t:Int), .slice (some (aD Q 0)) 512 512] rfl rfl (World.news_of_block (cs:= #[iV (t:Int), .slice (some (aD Q 0)) 512 512]) (t:=120) (fr:=(0,0)) (heap_alloc_new w5 _)) (by simp [Value.oneCell']) (by unfold maxLen;omega) (by omega) (by simp;omega) ?_);intro v' w6 cN aR jI;obtain⟨J,K,p⟩:=Bh d A bw u E R z aR cN;have C:=(aH J (aH K p));clear J K p cN aR jI GN z A bw u d e0;go_wp2;go_roundw;case rel=>exact⟨t+1,by omega,by go_num,by rw [L];go_num,_,C.1,C.2.1,C.2.2⟩
     case measure=>simp [intOf];omega
    .obtain⟨x,rfl⟩:∃x,a=some x:=by
      cases a with
      |none=>exact absurd (U.2.1 rfl) ln
      |some x=>exact⟨x,rfl⟩
     have j8:=U.1;have Zh:0<l.length:=(by omega);obtain⟨q,I⟩:=bP ((aI S t).length%n);have hqn:q<n:=(by rw [I];exact Nat.mod_lt _ (by omega));have Bt:q<l.length:=(by omega);obtain⟨b,o,rfl,p0,X,Y⟩:=U.2.2.1 x rfl q Bt;have PK:mA l (aI S t).length=(l[q].1,l[q].2.1,l[q].2.2):=by
      have e1:(aI S t).length%l.length=q:=(by rw [j8,I]);simp only [mA,Zh,dif_pos,e1]
     obtain⟨b1,b2,b3⟩:=U.2.2.2 l[q] (List.getElem_mem Bt);have Je:=λo=>wT y bq E N O (λb eI=>iL (H.lt b eI) d.size) ar ((bi w1.heap.size w1).alloc (bR _) o) _ _ _ PK b1 b2 b3;have Qz:((aI S t).length:Int)%(n:Int)=(q:Int):=(by rw [I];push_cast;rfl);have iO:(q:Int)<(n:Int):=(by omega);replace p0:=cell_later RR p0;replace X:=cell_later RR X;replace Y:=cell_later RR Y;have hbw:=World.block_lt_of_cell? _ _ p0;have XK:=Je;clear Je PK I;generalize l[q].1=qa at*;generalize l[q].2.1=qb at*;generalize l[q].2.2=qc at*;go_wp2_with fail;refine(XK _).mono ?_;rintro e w5 ⟨Q,rfl,GF,Fx,fd⟩;have Od:=(ar.alloc ar.size _).trans (fd.mono (by simp;have:=ar.size;omega));have sb:=aF bw (λb e=>Od.block b (bw.lt b e).2);have R:wr.heap.size<=Q:=(by simp at GF;have:=ar.size;omega);obtain⟨Jo,GN,z,A⟩:=cP (k9 d.size Od.size) sb Fx Od;clear p0 X Y sb Fx Od fd GF XK N O RR;go_wp2_with (at_builtin;refine wpList_append_own _ rfl _ _ 63 rfl w.heap.size 120 i0 _ 2 32 underlying63 rS gC dE em rfl (by decide) _ _ _ rfl (GN.alloc _) (aD w5.heap.size 0) 1 1 [iV (t:Int), .slice (some (aD Q 0)) 512 512] rfl rfl (World.news_of_block (cs:= #[iV (t:Int), .slice (some (aD Q 0)) 512 512]) (t:=120) (fr:=(0,0)) (heap_alloc_new w5 _)) (by simp [Value.oneCell']) (by unfold maxLen;omega) (by omega) (by simp;omega) ?_);intro v' w6 cN aR jI;obtain⟨J,K,p⟩:=Bh d A bw u E R z aR cN;have C:=(aH J (aH K p));clear J K p cN aR jI GN z A bw u d e0;go_wp2;go_roundw;case rel=>exact⟨t+1,by omega,by go_num,by rw [L];go_num,_,C.1,C.2.1,C.2.2⟩
     case measure=>simp [intOf];omega
  .have cC:¬(t:Int)<(s:Int):=(by omega);have et:t=s:=(by omega);subst et;obtain⟨G,hW7⟩:=bP wr;subst hW7;have gS:=aa.ah F d;have Cs:∀k,more F w G k->k<G.heap.size:=λk f=>by
    rcases f with f|f
    .exact iL (H.lt k f) d.size
    .exact f.2
   obtain⟨Z,Hk7,X8,adr⟩:=cP ((H.agree d.size (λk f=>d.block k (H.lt k f))).mono (λ_ f=> .inl f) Cs) gS aA wV;clear gS Cs aA wV d H U c0;go_wp2;clear e0;go_loopw [9] (λi wr=>∃j:Nat,j<=(aI S t).length/\i=iV (j:Int)/\∃W im,cz wr (more F w G) r t {S with im:=im} m cl W pv xs/\(∀i,i<t->bS im i=if i∈(aI S t).take j then fo S l i else bS S.im i)/\aa F w wr/\wr.ownsRow w.heap.size 120 2 u5 (aI S t).length P/\mJ wr (λb=>w.heap.size<=b/\b<G.heap.size) S l (aI S t) P/\wr.heap.size=G.heap.size) (λi _=>(aI S t).length-(intOf i).toNat);case atStart=>exact⟨0,dL _,rfl,W,S.im,Z,λi _=>by simp,Hk7,X8,adr,rfl⟩
   case round=>
    clear Z Hk7 X8 adr;obtain⟨j,hj,rfl,W,im,hd,DU,f,aA,wV,eM⟩:=hrel;have c0:=aM hd.dI;obtain⟨af,cf,T,D⟩:=I6 aA wV;have Jd:=DU;clear DU;by_cases bq:j<(aI S t).length
    .have cC:(j:Int)<((aI S t).length:Int):=(by omega);obtain⟨gf,rfl,hgf,D⟩:=D (by omega);obtain⟨g,X,Y,hF,hr⟩:=D j bq;have KD:=qQ bq;obtain⟨ez,E,_,Qy⟩:=yW y l hd.ok.len KD Jd;have aij:(((aI S t)[j]:Nat):Int)<(t:Int):=(by omega);obtain⟨q1,q2⟩:=hd.stored ez (.inr hF) hr (im:=splice im ((aI S t)[j] *512) (fo S l (aI S t)[j])) (by rw [jo _ _ _ (by rw [tN y l _ ez];have:=hd.ok.len;simp only at this;omega)];exact hd.ok.len) (λi hi=>sA hd.ok.len (tN y l _ ez) ez);obtain⟨gx,cx,jL,_⟩:=hd.zO _ ez;have cl0:=hd.last.cell jL;have fl:=hd.last.frozen (aI S t)[j];have rO:r≠m:=λe=>hd.last.ne hd.dI (by decide) e.symm;have eI:=hd.last;obtain⟨cur,lF,_⟩:=eI;have pF:gf≠m:=dT aA (by rw [T];rfl) lF (by decide);have fP:(wr.setCell ⟨m,(aI S t)[j],none⟩ (.slice (some ⟨g,0,none⟩) 512 512)).ownsRow w.heap.size 120 2 u5 (aI S t).length P:=aF aA (λb e=>Below.heap_setCell _ _ _ _ (dT aA e lF (by decide)));have adt:=wV.agree (λ_ h=>h) (λb zs _ BR=>BR.other q2 lF (by decide));have I:cz (wr.setCell ⟨m,(aI S t)[j],none⟩ (.slice (some ⟨g,0,none⟩) 512 512)) (more F w G) r t {S with im:=splice im ((aI S t)[j] *512) (fo S l (aI S t)[j])} m cl (W.set (aI S t)[j] (.slice (some (aD g 0)) 512 512)) pv xs/\(∀i,i<t->bS (splice im ((aI S t)[j] *512) (fo S l (aI S t)[j])) i=if i∈(aI S t).take (j+1) then fo S l i else bS S.im i)/\aa F w (wr.setCell ⟨m,(aI S t)[j],none⟩ (.slice (some ⟨g,0,none⟩) 512 512))/\
         (wr.setCell ⟨m,(aI S t)[j],none⟩ (.slice (some ⟨g,0,none⟩) 512 512)).ownsRow w.heap.size 120 2 u5 (aI S t).length P/\mJ (wr.setCell ⟨m,(aI S t)[j],none⟩ (.slice (some ⟨g,0,none⟩) 512 512)) (λb=>w.heap.size<=b/\b<G.heap.size) S l (aI S t) P/\(wr.setCell ⟨m,(aI S t)[j],none⟩ (.slice (some ⟨g,0,none⟩) 512 512)).heap.size=G.heap.size:=
        ⟨q1,Qy,f.trans q2 (λb d=> .inl (d▸FD)),fP,adt,by simpa [World.setCell] using eM⟩
     have Hq:=I;have mo:∀b o v,b≠m->(wr.setCell ⟨m,(aI S t)[j],none⟩ v).cell? (aD b o)=wr.cell? (aD b o):=λb o v d=>World.cell?_of_block (w:=wr) (a:=(aD b o)) (Below.heap_setCell wr ⟨m,(aI S t)[j],none⟩ v b d);have m0:=λv=>(mo r 0 v rO).trans c0;have m2:=λv=>(mo gf (j*2) v pF).trans X;have m3:=λv=>(mo gf (j*2+1) v pF).trans Y;have M:=(aH m0 (aH m2 m3));clear m0 m2 m3 mo I q1 q2 hr hd D f jL aA wV fP adt lF Qy Jd KD;generalize (aI S t)[j]=kj at*;subst T;go_wp2_with fail;go_region_held3 (λw'=>w'.cell? (aD r 0)=some (.slice (some (aD m 0)) t cl)/\w'.cell? ⟨gf,j*2,none⟩=some (iV (kj:Int))/\w'.cell? ⟨gf,j*2+1,none⟩=some (.slice (some (aD g 0)) 512 512)) (first|exact⟨c0,X,Y⟩|exact⟨M.1 _,M.2.1 _,M.2.2 _⟩) (fail);all_goals
      go_wp2;go_roundw;case rel=>
       obtain⟨J,K,p,z4,z5,z6⟩:=Hq;exact⟨j+1,by omega,by go_num,_,_,J.agree (bR _) (λ_ _=>rfl),K,⟨p.os,p.tape,p.output,p.size,p.block⟩,z4,z5,z6⟩
      case measure=>simp [intOf];omega
    .have cC:¬(j:Int)<((aI S t).length:Int):=(by omega);have ej:j=(aI S t).length:=(by omega);rw [ej] at Jd;have bX:=vn y l hd.ok.len Jd;obtain⟨d1,d2,d3,d4,d5,d6,nS,gS⟩:=zS hd bX MJ f;have MK:(((wr.setCell ⟨r,1,none⟩ (.slice none 0 0)).setCell ⟨r,2,none⟩ (.int .i64 (-1))).setCell ⟨r,3,none⟩ (.int .i64 (wrap64 (S.life+1)))).heap.size=G.heap.size:=(by simpa [World.setCell] using eM);have hm:more F w G=more F w (((wr.setCell ⟨r,1,none⟩ (.slice none 0 0)).setCell ⟨r,2,none⟩ (.int .i64 (-1))).setCell ⟨r,3,none⟩ (.int .i64 (wrap64 (S.life+1)))):=(by unfold more;rw [MK]);rw [hm] at nS;have Hq:=(aH (show aC _ _ r t (S.iA t l) from ⟨m,cl,W,_,_,nS⟩) gS);obtain⟨ap,cp,xP,_⟩:=hd.form;rw [xP] at d1;subst T;clear nS gS bX hd Jd f ej aA wV D hm MK;go_wp2
     go_end0
     exact⟨rfl,Hq⟩
def LS (w:World) (lo:Nat) (l:List Int) (vs:List Value):Prop:=∀i,i<vs.length->∃g c,vs[i]? =some (.slice (some (aD g 0)) 512 c)/\lo<=g/\ay w 5 g c (bs (bS l i))
def C1 {r:Nat} (b:w.heap[r]? =some (.cells (bL (.slice (some ⟨gl,0,none⟩) s cl) (.slice none 0 0) (-1) 1 0 0 0 0) 67 (0,0))) (e:ay w 36 gl cl vs) (Wb:vs.length=s) (vu:LS w w0.heap.size l vs)
    (Zk:w0.heap.size<=r) (vd:w0.heap.size<=gl) (n:l.length=s*512) (j:1<=s) (m:s<=2048):aC w (λk=>w0.heap.size<=k/\k<w.heap.size) r s (DS.fresh l):=by
 refine⟨gl,cl,vs, .slice none 0 0, [],⟨Zk,(lY.1 b).1⟩,⟨vd,e.lt⟩,λk d=>d.2,b,e,Wb,λk d=>?_,World.ownsRow_nil _ _ _ _,by simp [Value.ownBlock],by simp [DS.fresh],⟨n,j,m,by simp [DS.fresh],by simp [DS.fresh]⟩⟩;obtain⟨g,c,f,i,a⟩:=vu k (by omega);exact⟨g,c,f,⟨i,a.lt⟩,a⟩
def Wc (s:Int) (w:World) (h:s<1\/2048<s):
  Calls prog 44 #[iV s] w λe w'=>e= .returned (.tuple #[.pointer none,iV 10])/\w'=w:=by
 rcases h with h|h
 .go_in;go_wp2;go_ret2;exact⟨rfl,rfl⟩
 .have a:¬s<1:=by omega
  go_in;go_wp2;go_ret2;exact⟨rfl,rfl⟩
def rk (w:World):
  Calls prog 64 #[] w λe w'=>e= .returned (.slice (some (aD w.heap.size 0)) 512 512)/\ay w' 5 w.heap.size 512 (bs (List.replicate 512 0))/\bW w w':=by
 obtain⟨d,b,gC,dE,em⟩:=info_parts gq;go_in;go_wp2_with (at_make;refine wpList_make_full _ rfl _ _ 36 rfl w.heap.size 5 d (.int .u8 0) 1 underlying36 b gC dE _ _ _ _ 512 rfl rfl (by omega) (by omega) (by rw [em];omega) (by unfold maxLen;omega) (bR _) ?_);intro w1 aA aR;have a:=(bi _ w).grown aR (bR _) (by intro k c;cases c);go_wp2;go_ret;exact⟨rfl,(yh (lZ (by simpa [Value.cells] using aA))).out,a⟩
def RS (s k:Nat) (a:k<s):bS (List.replicate (s*512) 0) k=List.replicate 512 0:=by
 unfold bS;rw [List.drop_replicate,List.take_replicate];congr 1;omega
def LS.snoc {lo:Nat} (h:LS w lo l vs) (k:∀b c ys,lo<=b->ay w 5 b c ys->ay w' 5 b c ys) (m:lo<=g) (o:ay w' 5 g c (bs (bS l vs.length))):LS w' lo l (vs ++ [.slice (some (aD g 0)) 512 c]):=by
 intro i n;by_cases nF:i<vs.length
 .obtain⟨j,c',d,a,e⟩:=h i nF;exact⟨j,c',by rw [u9 nF];exact d,a,k _ _ _ a e⟩
 .have f:i=vs.length:=by simp at n;omega
  subst f;exact⟨g,c,by simp,m,o⟩
def C3 {r:Nat} {o:Obj} (Zk:w0.heap.size<=r) (ar:bW w0 w1) (bj:w1.heap[r]? =some (.cells (bL v (.slice none 0 0) (-1) 1 0 0 0 0) 67 (0,0)))
    (RT:w1.ownsRow w0.heap.size 36 1 v j vs) (vu:LS w1 w0.heap.size l vs) (f:w0.heap.size<=g) (i:ay w1 5 g cg (bs (bS l vs.length)))
    (aR:(w1.alloc o).grownBy w2 v.ownBlock) (aA:w2.ownsRow w0.heap.size 36 1 (.slice (some (aD g2 0)) (j+1) cJ) (j+1) (vs ++ [.slice (some (aD g 0)) 512 cg])):
  w2.cell? (aD r 0)=some v/\w2.frozen? (aD r 0)=false/\
    (w2.setCell ⟨r,0,none⟩ (.slice (some ⟨g2,0,none⟩) (j+1) cJ)).heap[r]? =some (.cells (bL (.slice (some ⟨g2,0,none⟩) (j+1) cJ) (.slice none 0 0) (-1) 1 0 0 0 0) 67 (0,0))/\
    (w2.setCell ⟨r,0,none⟩ (.slice (some ⟨g2,0,none⟩) (j+1) cJ)).ownsRow w0.heap.size 36 1 (.slice (some (aD g2 0)) (j+1) cJ) (j+1) (vs ++ [.slice (some (aD g 0)) 512 cg])/\
  LS (w2.setCell ⟨r,0,none⟩ (.slice (some ⟨g2,0,none⟩) (j+1) cJ)) w0.heap.size l (vs ++ [.slice (some (aD g 0)) 512 cg])/\bW w0 (w2.setCell ⟨r,0,none⟩ (.slice (some ⟨g2,0,none⟩) (j+1) cJ))/\
    (∀b c ys,ay w1 5 b c ys->ay (w2.setCell ⟨r,0,none⟩ (.slice (some ⟨g2,0,none⟩) (j+1) cJ)) 5 b c ys):=by
 have ZT:(w1.alloc o).heap.size=w1.heap.size+1:=by simp
 have rO:=(lY.1 bj).1;have fB:=
    ((aR.block r (by omega) (λe=>dT RT e.symm bj (by decide) rfl)).trans (Below.heap_alloc _ _ _ rO)).trans bj
 have aw:∀b c ys,ay w1 5 b c ys->ay (w2.setCell ⟨r,0,none⟩ (.slice (some ⟨g2,0,none⟩) (j+1) cJ)) 5 b c ys:=λb c ys a=>by
  have d:=a.lt;have dM:=a.ne bj (by decide);have bd:=a;obtain⟨cur,gN,_⟩:=bd;exact a.agree ((Below.heap_setCell _ _ _ _ dM).trans ((aR.block b (by omega) (λe=>dT RT e.symm gN (by decide) rfl)).trans (Below.heap_alloc _ _ _ d)))
 refine⟨aM fB,ae fB 0,?_,?_,vu.snoc (λb c ys _ h=>aw b c ys h) f (aw _ _ _ i),?_,aw⟩
 .rw [heap_setCell_same _ _ _ _ _ _ fB];simp [bL]
 .exact aF aA (λb e=>Below.heap_setCell _ _ _ _ (dT aA e fB (by decide)))
 .exact((ar.alloc ar.size o).grown aR (by have:=ar.size;omega) (λb e=>(RT.lt b e).1)).setCell Zk _
def Wd (s:Nat) (w:World) (D:1<=s) (E:s<=2048):
  Calls prog 44 #[iV s] w λe w'=>∃r,e= .returned (.tuple #[pQ r,iV 0])/\aC w' (λk=>w.heap.size<=k/\k<w'.heap.size) r s (DS.fresh (List.replicate (s*512) 0))/\bW w w':=by
 obtain⟨J,rS,gC,dE,em⟩:=info_parts tI;have Y7:¬(s:Int)<1:=by omega
 have F:¬(2048:Int)<(s:Int):=by omega
 go_in;go_wp2_with (go_at_call 64;refine(rk w).mono ?_;rintro e w1 ⟨rfl,mt,ar⟩);have eM:=ar.size;have bj:(w1.alloc (.cells (bL (.slice none 0 0) (.slice none 0 0) (-1) 1 0 0 0 0) 67)).heap[w1.heap.size]? =some (.cells (bL (.slice none 0 0) (.slice none 0 0) (-1) 1 0 0 0 0) 67 (0,0)):=heap_alloc_new _ _;have lq:ay (w1.alloc (.cells (bL (.slice none 0 0) (.slice none 0 0) (-1) 1 0 0 0 0) 67)) 5 w.heap.size 512 (bs (List.replicate 512 0)):=mt.agree (Below.heap_alloc _ _ _ mt.lt);have bz:bW w (w1.alloc (.cells (bL (.slice none 0 0) (.slice none 0 0) (-1) 1 0 0 0 0) 67)):=ar.alloc eM _;have l:=yh (aH bj (aH lq bz));go_loopw [6] (λi wr=>∃j:Nat,j<=s/\i=iV (j:Int)/\∃v f,wr.heap[w1.heap.size]? =some (.cells (bL v (.slice none 0 0) (-1) 1 0 0 0 0) 67 (0,0))/\wr.ownsRow w.heap.size 36 1 v j f/\LS wr w.heap.size (List.replicate (s*512) 0) f/\
   ay wr 5 w.heap.size 512 (bs (List.replicate 512 0))/\bW w wr) (λi _=>s-(intOf i).toNat)
 case atStart=>exact⟨0,dL _,rfl, .slice none 0 0, [],l.o.1,World.ownsRow_nil _ _ _ _,λi G=>by simp at G,l.o.2.1,l.o.2.2⟩
 case round=>
  obtain⟨j,P,rfl,v,f,bj,aA,vu,d,b⟩:=hrel;have L:=aM bj;have Wb:f.length=j:=by simpa using aA.1
  by_cases bq:j<s
  .have cC:(j:Int)<(s:Int):=(by omega);obtain⟨K,M,m⟩:∃a c,v= .slice a j c:=by
    obtain⟨_,⟨e,H⟩|⟨g,p,cur,e,_⟩⟩:=aA
    .exact⟨none,0,by rw [e,H]⟩
    .exact⟨_,_,e⟩
   subst m;have I:=b.size;have bw:=yh aA;go_wp2_with (at_builtin;refine wpList_append_own _ rfl _ _ 62 rfl w.heap.size 36 J (.slice none 0 0) 1 24 underlying62 rS gC dE em rfl (by decide) _ _ _ rfl (bw.o.alloc _) (aD wr.heap.size 0) 1 1 [.slice (some (aD w.heap.size 0)) 512 512] rfl rfl (cell_one_new _ _ _) (by intro u n;simp at n;subst n;rfl) (by unfold maxLen;omega) (by omega) (by simp;omega) ?_);intro Q R cN aR jI;obtain⟨C,cJ,rfl,_,_,_⟩:=ay.fg cN (by rintro rfl;rcases cN.2 with ⟨_,h⟩|⟨_,_,_,h,_⟩;omega;cases h);obtain⟨bj,aA,vu,d,b⟩:=(yh (aH bj (aH aA (aH vu (aH d b))))).out;obtain⟨N,O,q,t,x,y,z⟩:=C3 eM b bj aA vu (bR _) (by rw [Wb,RS s j bq];exact d) aR cN;go_wp2;go_roundw;case rel=>exact⟨j+1,by omega,by go_num,_,_,(yh (aH q (aH t (aH x (aH (z _ _ _ d) y))))).out⟩
   case measure=>simp [intOf];omega
  .have cC:¬(j:Int)<(s:Int):=(by omega);have A:j=s:=(by omega);subst A;obtain⟨C,cJ,m,gh,fB,_⟩:=ay.fg aA (by rintro rfl;rcases aA.2 with ⟨_,h⟩|⟨_,_,_,h,_⟩;omega;cases h);rw [m] at bj;have jK:=C1 (w0:=w) bj fB Wb vu eM gh (by simp) D E;go_wp2;go_ret2;exact⟨_,rfl,(yh (aH jK b)).out⟩
def Oe (a:Option Addr) (n c:Nat) (w:World) (h:n%512≠0):
  Calls prog 43 #[.slice a n c] w λe w'=>e= .returned (.tuple #[.pointer none,iV 2])/\w'=w:=by
 have b:(((n:Int)%512) != 0)=true:=by rw [gg];omega
 go_in;go_wp2;go_ret2;exact⟨rfl,rfl⟩
def RU (a:Option Addr) (n c:Nat) (w:World) (i:n<=140737488355328) (h:n%512=0) (h0:n=0\/1048576<n):
  Calls prog 43 #[.slice a n c] w λe w'=>e= .returned (.tuple #[.pointer none,iV 10])/\w'=w:=by
 have f:(((n:Int)%512) != 0)=false:=by rw [Bool.eq_false_iff,ne_eq,gg];omega
 obtain⟨q,j⟩:∃q:Nat,((n:Int) / 512)=(q:Int):=⟨n / 512,by omega⟩;have d:wrap64 (q:Int)=(q:Int):=by unfold wrap64;omega
 rcases h0 with h0|h0
 .have b:(q:Int)<1:=by omega
  go_in;go_wp2;go_ret2;exact⟨rfl,rfl⟩
 .have b:¬(q:Int)<1:=by omega
  have g:2048<(q:Int):=by omega
  go_in;go_wp2;go_ret2;exact⟨rfl,rfl⟩
def RV {b o:Nat} (h:∀i,i<n->w.cell? ⟨b,o+i,none⟩=some (.int .u8 (l.getD i 0))) (e:l.length=n) (d:k*512+512<=n):Src w (some ⟨b,o+k*512,none⟩) 512 (bS l k):=by
 refine⟨by simp [bS];omega,(λh=>by cases h),λx c i a=>?_⟩;cases c;rw [aN,Nat.add_assoc,h (k*512+i) (by omega)];simp [bS,List.getD,a]
set_option maxRecDepth 100000 in
def RX (b o n c s:Nat) (l:List Int) (w:World) (R:∀i,i<n->w.cell? ⟨b,o+i,none⟩=some (.int .u8 (l.getD i 0))) (j8:l.length=n) (h:n=s*512) (zT:n<=c) (D:1<=s) (E:s<=2048):
  Calls prog 43 #[.slice (some (aD b o)) n c] w λe w'=>∃r,e= .returned (.tuple #[pQ r,iV 0])/\aC w' (λk=>w.heap.size<=k/\k<w'.heap.size) r s (DS.fresh l)/\bW w w':=by
 obtain⟨i0,rS,gC,dE,em⟩:=info_parts tI;have h':(((n:Int)%512) != 0)=false:=by rw [Bool.eq_false_iff,ne_eq,gg];omega
 have hq:((n:Int) / 512)=(s:Int):=by omega
 have Y7:¬(s:Int)<1:=by omega
 have h2':¬(2048:Int)<(s:Int):=by omega
 obtain⟨U,H⟩:=bV R h;clear R h;go_in;go_wp2;have bj:(w.alloc (.cells (bL (.slice none 0 0) (.slice none 0 0) (-1) 1 0 0 0 0) 67)).heap[w.heap.size]? =some (.cells (bL (.slice none 0 0) (.slice none 0 0) (-1) 1 0 0 0 0) 67 (0,0)):=heap_alloc_new _ _;have bz:bW w (w.alloc (.cells (bL (.slice none 0 0) (.slice none 0 0) (-1) 1 0 0 0 0) 67)):=(bi _ _).alloc (bR _) _;have A:=yh (aH bj bz);clear bj bz;go_loopw [6] (λi wr=>∃j:Nat,j<=s/\i=iV (j:Int)/\∃v z,wr.heap[w.heap.size]? =some (.cells (bL v (.slice none 0 0) (-1) 1 0 0 0 0) 67 (0,0))/\wr.ownsRow w.heap.size 36 1 v j z/\LS wr w.heap.size l z/\
   bW w wr) (λi _=>s-(intOf i).toNat)
 case atStart=>exact⟨0,dL _,rfl, .slice none 0 0, [],A.o.1,World.ownsRow_nil _ _ _ _,λi x=>by simp at x,A.o.2⟩
 case round=>
  clear A;obtain⟨j,hj,rfl,v,z,bj,aA,vu,d⟩:=hrel;have J:=aM bj;have Wb:z.length=j:=by simpa using aA.1
  by_cases bq:j<s
  .have cC:(j:Int)<(s:Int):=(by omega);obtain⟨I,K,F⟩:∃a c,v= .slice a j c:=by
    obtain⟨_,⟨e,hn⟩|⟨g,Y,cur,e,_⟩⟩:=aA
    .exact⟨none,0,by rw [e,hn]⟩
    .exact⟨_,_,e⟩
   subst F;have UO:=H.o;have Jh:j*512+512<=n:=(by omega);obtain⟨m,S⟩:∃m:Nat,m=j*512:=⟨_,rfl⟩;obtain⟨f,Cu⟩:∃f:Nat,f=m+512:=⟨_,rfl⟩;have x1:IntKind.i64.wrap ((j:Int)*512)=(m:Int):=(by rw [IntKind.wrap_i64];all_goals omega);have x2:IntKind.i64.wrap ((m:Int)+512)=(f:Int):=(by rw [IntKind.wrap_i64];all_goals omega);have x3:(f:Int)<=(c:Int):=(by omega);have x4:m<=f:=(by omega);have x5:¬c=m:=(by omega);have x6:f-m=512:=(by omega);have fV:=RV (λi x=>cell_later d (U.o i x)) j8 Jh;rw [<-S] at fV;have rO:=(lY.1 bj).1;have y:=d.size;have MI:∀C,Calls prog 97 #[.slice (some ⟨b,o+m,none⟩) 512 C] wr.drew λe w'=>∃v,e= .returned v/\TwR wr (bS l j) v w':=λC=>
      (lX (some ⟨b,o+m,none⟩) 512 C (bS l j) wr.drew (by omega) fV).mono (by rintro e w' ⟨g,rfl,D,E,u⟩;exact⟨_,rfl,g,rfl,D,E,⟨u.os,u.tape,u.output,u.size,u.block⟩⟩)
   have cU:∀wx:World,wx.heap[w.heap.size]? =wr.heap[w.heap.size]?->wx.cell? (aD w.heap.size 0)=some (.slice I j K):=λwx e=>aM (e.trans bj);obtain⟨qu,t,q,bw,p,G⟩:=Y5 cU MI bj aA vu d;clear bj vu d aA MI cU fV UO S Cu;go_wp2_with fail
   go_region_law
    (first
     |(refine vE (by rfl) 97 #[.slice (some ⟨b,o+m,none⟩) 512 (c-m)] (by simp [go_sem]) (TwR wr (bS l j)) (t.o _) ?_;rintro _ w1 ⟨g,rfl,hg,T,ar⟩;have mt:w1.heap[w.heap.size]? =wr.heap[w.heap.size]? :=ar.block w.heap.size rO;have k1:=qu.o w1 mt;have k2:=λo=>qu.o (w1.alloc o) ((Below.heap_alloc w1 o w.heap.size (iL rO ar.size)).trans mt))
     |(refine step_append_lies _ (by rfl) _ _ _ (by rfl) w.heap.size 36 i0 _ 1 24 underlying62 rS gC dE em rfl (by omega) (.slice I j K) j z (by rfl) (aF bw.o (λg e=>(Below.heap_alloc w1 _ _ (iL (bw.o.lt g e).2 ar.size)).trans (ar.block g (bw.o.lt g e).2)))
         (aD w1.heap.size 0) 1 1 [.slice (some (aD g 0)) 512 512] (by rfl) (by rfl) (cell_one_new _ _ _) (by simp [Value.oneCell']) (by omega) (by unfold maxLen;omega) (by omega) (by have:=ar.size;simp;omega) (w1.heap.size+1) (by simp) ?_;intro g2 cJ w2 fP j9 vk xB
       obtain⟨Z,d2,L,M,N,O,d7⟩:=C3 (bR _) (G.o.trans (ar.mono y)) (mt.trans q.o) (aF bw.o (λg e=>ar.block g (bw.o.lt g e).2)) (λi x=>by obtain⟨Q,c',e1,e2,P⟩:=p.o i x;exact⟨Q,c',e1,e2,P.agree (ar.block Q P.lt)⟩) (k9 y hg) (by rw [Wb];exact T) j9 fP))
   all_goals
    have X:=yh (aH L (aH M (aH N O)));clear L M N O d7 T ar fP j9 vk xB mt k1 k2 Z d2 q bw p G t qu J x1 x2 x3 x4 x5 x6;go_wp2;go_roundw;case rel=>exact⟨j+1,by omega,by go_num,_,_,X.o⟩
    case measure=>simp [intOf];omega
  .have cC:¬(j:Int)<(s:Int):=(by omega);have ej:j=s:=(by omega);subst ej;obtain⟨g2,cJ,F,gh,fB,_⟩:=ay.fg aA (by rintro rfl;rcases aA.2 with ⟨_,h⟩|⟨_,_,_,h,_⟩;omega;cases h);rw [F] at bj;have jK:=C1 (w0:=w) bj fB Wb vu (bR _) gh (by have:=H.o;omega) D E;have W:=yh (aH jK d);clear bj aA vu d fB jK J;go_wp2;go_ret2;exact⟨_,rfl,W.o⟩
def RY (j:Nat):im.take (j*512) ++ bS im j=im.take ((j+1)*512):=by
 unfold bS;rw [show (j+1)*512=j*512+512 by omega,List.take_add]
def KE {r:Nat} (hd:aC w F r s S):
  Calls prog 34 #[pQ r] w λe w'=>∃g c,e= .returned (.slice (some (aD g 0)) (s*512) c)/\w.heap.size<=g/\ay w' 5 g c (bs S.im)/\bW w w':=by
 obtain⟨Z,X,ls,pv,xs,h⟩:=hd;obtain⟨J,G,gC,dE,em⟩:=info_parts gq;obtain⟨L,lG,f,H⟩:=cP (aM h.dI) h.ok.hi h.ok.len (yh h);clear h;obtain⟨m,y⟩:∃m:Nat,m=s*512:=⟨_,rfl⟩;have W:IntKind.i64.wrap ((s:Int)*512)=(m:Int):=by rw [IntKind.wrap_i64];all_goals omega
 have A:wrap64 ((s:Int)*512)=(m:Int):=by unfold wrap64;omega
 rw [<-y] at f⊢;have l:=yh y;have aoZ:m<=1048576:=by omega
 clear y;go_in;go_wp2_with (at_make;refine wpList_make_own _ rfl _ _ 36 rfl w.heap.size 5 J (.int .u8 0) 1 underlying36 G gC dE _ _ _ m rfl rfl ?c1 ?c2 ?c3 (bR _) ?_);case c1=>first|rfl|omega
 case c2=>rw [em];omega
 case c3=>unfold maxLen;omega
 intro w1 aA aR;have a:=(bi _ w).grown aR (bR _) (by intro k b;cases b);have n:=yh (aH aA a);clear aA aR a W A;go_wp2;go_loopw [3,4] (λv i wr=>∃j:Nat,j<=s/\i=iV (j:Int)/\∃q,v= .slice (some (aD q 0)) (j*512) m/\w.heap.size<=q/\wr.ownsRow w.heap.size 5 1 v (j*512) (bs (S.im.take (j*512)))/\bW w wr) (λ_ i _=>s-(intOf i).toNat);case atStart=>exact⟨0,dL _,rfl,_,rfl,bR _,n.o.1,n.o.2⟩
 case round=>
  clear n;obtain⟨j,hj,rfl,q,rfl,I,aA,a⟩:=hrel;have N:=cell_later a L;by_cases bq:j<s
  .have cC:(j:Int)<(s:Int):=(by omega);obtain⟨g,c,T,hF,z⟩:=H.o.zO j bq;have M:=cell_later a (H.o.last.cell T);have KC:(bS S.im j).length=512:=(by have:=l.o;simp [bS];omega);have lf:=(z.agree (a.block g z.lt)).src;rw [KC] at lf;obtain⟨k,b⟩:=bP (j*512);have p:k+512<=m:=(by have:=l.o;omega);have X9:(j+1)*512=k+512:=(by omega);rw [<-b] at aA;have pO:bs (S.im.take k) ++ bs (bS S.im j)=bs (S.im.take (k+512)):=(by rw [<-X9,<-RY,<-b];simp [bs]);rw [<-b];obtain⟨bw,d,C,VE⟩:=BH aA lf X9 pO;clear aA lf z b X9 pO;go_wp2_with (at_builtin;refine wpList_append_fits _ rfl _ _ 36 rfl w.heap.size 5 J 1 underlying36 G dE q k m (bs (S.im.take k)) rfl bw.o (aD g 0) 512 c (bs (bS S.im j)) rfl (by simp [bs,KC]) (λt u P=>by obtain⟨h1,rfl⟩:=fA P;exact d.o.2.2 _ rfl t (by omega)) (cF _) p ?_);intro U aA aR;have bz:=a.grown aR a.size (by intro x R;cases R;exact I);have aA:U.ownsRow w.heap.size 5 1 (.slice (some (aD q 0)) (k+512) m) (k+512) (bs (S.im.take (k+512))):=by
    have E:=VE.o;simp only [bs,List.map_take] at E aA⊢;rw [E] at aA;exact aA
   have D:=yh (aH aA bz);clear aA aR bz bw d VE a M N;go_wp2;go_roundw;case rel=>exact⟨j+1,by omega,by go_num,q,by rw [C.o],I,by rw [C.o];exact D.o.1,D.o.2⟩
   case measure=>simp [intOf];omega
  .have cC:¬(j:Int)<(s:Int):=(by omega);have O:j=s:=(by omega);subst O;rw [<-l.o,nC (by omega)] at aA;obtain⟨Y,cJ,Q,gh,fB,_⟩:=ay.fg aA (by rintro h;cases h);have K:=yh (aH gh (aH fB a));rw [<-l.o];cases Q;clear aA fB a gh;go_wp2;go_ret;exact⟨_,_,rfl,K.o⟩
def aC.more {r:Nat} (h:aC w' F r s S):aC w' (more F w w') r s S:=by
 obtain⟨c,b,d,e,xs,h⟩:=h;exact⟨c,b,d,e,xs,h.mono (λ_ a=> .inl a) (λk a=>by rcases a with a|a;exact h.lt k a;exact a.2)⟩
def iG (h:aC w F p s S) (x:Int) (a:Option Addr) (n c:Nat) (l:List Int) (m:Src w a n l) (aU:S.puts.length+1<=4000000000000):
  Calls prog 63 #[pQ p,iV x, .slice a n c] w λe w'=>e= .returned (iV (S.wr s x n l).1)/\aC w' (more F w w') p s (S.wr s x n l).2/\aa F w w':=by
 by_cases b:S.fuse=0
 .simp only [DS.wr,b,if_true];refine(GH h x a n c b).mono ?_;rintro e w' ⟨rfl,rfl⟩;exact⟨rfl,h.more,aa.refl _ _⟩
 .by_cases d:x<0\/(s:Int)<=x
  .simp only [DS.wr,b,if_false,d,if_true];refine(Ep h x a n c b d).mono ?_;rintro e w' ⟨rfl,f,g⟩;exact⟨rfl,f.more,g⟩
  .obtain⟨k,rfl⟩:∃k:Nat,x=(k:Int):=⟨x.toNat,by omega⟩;have j:k<s:=(by omega);by_cases i:n=512
   .subst i;simp only [DS.wr,b,if_false,d,ne_eq,not_true_eq_false,mx];obtain⟨y,rfl⟩:∃y,a=some y:=by
     cases a with
     |none=>have:=m.2.1 rfl;omega
     |some y=>exact⟨y,rfl⟩
    exact N8 h k j b aU y c l m
   .simp only [DS.wr,b,if_false,d,ne_eq,i,not_false_eq_true,if_true];refine(BZ h k a n c b j i).mono ?_;rintro e w' ⟨rfl,f,g⟩;exact⟨rfl,f.more,g⟩
def fH (h:aC w F p s S) (aU:S.puts.length+1<=4000000000000):
  Calls prog 65 #[pQ p] w λe w'=>e= .returned (iV (S.fl s).1)/\aC w' F p s (S.fl s).2/\aa F w w':=by
 by_cases a:S.fuse=0
 .simp only [DS.fl,a,if_true];refine(GJ h a).mono ?_;rintro e w' ⟨rfl,rfl⟩;exact⟨rfl,h,aa.refl _ _⟩
 .simp only [DS.fl,a,if_false];exact Ob h a (by omega)
def KF {r:Nat} (hd:aC w F r s S) (aU:S.puts.length+1<=4000000000000) (a:Option Addr) (n c:Nat) (l:List P3) (DT:ll w a n l) (b:n<=140737488355328):
  Calls prog 30 #[pQ r, .slice a n c] w λe w'=>e= .returned (.tuple #[])/\aC w' (more F w w') r s (S.iA s l)/\aa F w w':=by
 by_cases d:S.puts.length=0
 .exact GL hd d a n c l
 .exact GM hd (by omega) aU a n c l DT b
structure Two (w:World) (B:Nat) (F G:Nat->Prop) (p r s:Nat) (S T:DS):Prop where
 d:aQ w F p s S
 e:aC w G r s T
 lo:B<=w.heap.size
 fF:∀k,F k->B<=k
 fG:∀k,G k->B<=k
 fO:∀k,F k->¬G k
def Two.begin {B r:Nat} (g:B<=w0.heap.size) (ar:bW w0 w1) (hd:aQ w1 F p s S) (c:∀k,F k->w0.heap.size<=k) (bd:bW w1 w2) (d:aC w2 G r s S) (b:∀k,G k->w1.heap.size<=k):Two w2 B F G p r s S S:=
   ⟨hd.aw (aa.ah (λ_=>False) bd) (λ_ _ h=>h),d,by have:=ar.size;have:=bd.size;omega,λk a=>by have:=c k a;omega,λk a=>by have:=b k a;have:=ar.size;omega,λk e f=>by have:=hd.lt k e;have:=b k f;omega⟩
def kW (w w':World) (B:Nat) (l:List Int) (d r:Value):Prop:=bW w w'/\((d= .pointer none/\r= .pointer none)\/∃F G p q s im,d=pQ p/\r=pQ q/\Two w' B F G p q s (DS.fresh im) (DS.fresh im)/\(im=l\/∃m,im=List.replicate m 0)/\(∀k,F k->w.heap.size<=k)/\(∀k,G k->w.heap.size<=k))
def Of (bS:Int) (a:Option Addr) (n c:Nat) (l:List Int) (w:World) (B:Nat) (i:Src w a n l) (f:n<=140737488355328) (h:n%512≠0):
  Calls prog 15 #[iV bS, .slice a n c] w λe w'=>∃d r,e= .returned (.tuple #[d,r, .bool true])/\kW w w' B l d r:=by
 have h0:(0:Int)<(n:Int):=by omega
 go_in;go_wp2_with fail;refine(tK a n c l w f i).mono ?_;rintro e w1 ⟨g,rfl,k,m,ar⟩;go_wp2_with fail;refine(Qe (some (aD g 0)) n n w1 h f).mono ?_;rintro e j ⟨rfl,b⟩;have eR:=b.symm;subst eR;go_wp2_with fail;refine(Oe a n c w1 h).mono ?_;rintro e j ⟨rfl,b⟩;have eR:=b.symm;subst eR;go_wp2;go_ret3;exact⟨_,_,rfl,ar, .inl ⟨rfl,rfl⟩⟩
def RZ (bS:Int) (a:Option Addr) (n c:Nat) (l:List Int) (w:World) (B:Nat) (j:Src w a n l) (b:n<=140737488355328) (h:n%512=0) (i:1048576<n):
  Calls prog 15 #[iV bS, .slice a n c] w λe w'=>∃d r,e= .returned (.tuple #[d,r, .bool true])/\kW w w' B l d r:=by
 go_in;go_wp2_with fail;refine(tK a n c l w b j).mono ?_;rintro e w1 ⟨g,rfl,m,o,ar⟩;go_wp2_with fail;refine(Vg (some (aD g 0)) n n w1 h (.inr i) b).mono ?_;rintro e k ⟨rfl,f⟩;have eR:=f.symm;subst eR;go_wp2_with fail;refine(RU a n c w1 b h (.inr i)).mono ?_;rintro e k ⟨rfl,f⟩;have eR:=f.symm;subst eR;go_wp2;go_ret3;exact⟨_,_,rfl,ar, .inl ⟨rfl,rfl⟩⟩
def KG (bS:Int) (b o n c s:Nat) (l:List Int) (w:World) (B:Nat) (G:B<=w.heap.size) (f:Src w (some (aD b o)) n l) (v:∀i,i<n->w.cell? ⟨b,o+i,none⟩=some (.int .u8 (l.getD i 0))) (zT:n<=c) (h:n=s*512) (t:1<=s) (u:s<=2048):
  Calls prog 15 #[iV bS, .slice (some (aD b o)) n c] w λe w'=>∃d r,e= .returned (.tuple #[d,r, .bool true])/\kW w w' B l d r:=by
 have h0:(0:Int)<(n:Int):=by omega
 have j8:=f.1;have C:=tK (some (aD b o)) n c l w (by omega) f;have j:=yh v;have q:=yh h;have jd:n<=1048576:=by omega
 clear f v h;go_in;go_wp2_with fail;refine C.mono ?_;rintro e w1 ⟨g,rfl,H,A,ar⟩;have z:=Vh (aD g 0) n n s l w1 q.o t u j8 (λi y=>A.byte (by omega));clear A C;go_wp2_with fail;refine z.mono ?_;rintro e E ⟨p,rfl,hd,bd⟩;have We:=ar.trans (bd.mono ar.size);have m:=yh hd;clear z hd;go_wp2_with fail;refine(RX b o n c s l E (λi y=>cell_later We (j.o i y)) j8 q.o zT t u).mono ?_;rintro e F ⟨r,rfl,x,bz⟩;have eM:=ar.size;have br:=bd.size;have D:Yh (kW w F B l (pQ p) (pQ r)):=⟨We.trans (bz.mono We.size), .inr ⟨_,_,p,r,s,_,rfl,rfl,Two.begin (B:=B) (by omega) bd m.o (λk a=>a.1) bz x (λk a=>a.1), .inl rfl,λk a=>by have:=a.1;omega,λk a=>by have:=a.1;omega⟩⟩;clear x bz We bd ar m j;go_wp2;go_ret3;exact⟨_,_,rfl,D.o⟩
def Og (bS:Int) (l:List Int) (a:Option Addr) (c:Nat) (w:World) (B:Nat) (h:bS<1\/2048<bS):
  Calls prog 15 #[iV bS, .slice a 0 c] w λe w'=>∃d r,e= .returned (.tuple #[d,r, .bool true])/\kW w w' B l d r:=by
 go_in;go_wp2_with fail;refine(Y6 bS w h).mono ?_;rintro e f ⟨rfl,b⟩;have eR:=b.symm;subst eR;go_wp2_with fail;refine(Wc bS w h).mono ?_;rintro e f ⟨rfl,b⟩;have eR:=b.symm;subst eR;go_wp2;go_ret3;exact⟨_,_,rfl,bi _ _, .inl ⟨rfl,rfl⟩⟩
def Oh (s:Nat) (l:List Int) (a:Option Addr) (c:Nat) (w:World) (B:Nat) (j:B<=w.heap.size) (f:1<=s) (g:s<=2048):
  Calls prog 15 #[iV (s:Int), .slice a 0 c] w λe w'=>∃d r,e= .returned (.tuple #[d,r, .bool true])/\kW w w' B l d r:=by
 go_in;go_wp2_with fail;refine(Qd s w f g).mono ?_;rintro e n ⟨p,rfl,hd,bd⟩;go_wp2_with fail;refine(Wd s n f g).mono ?_;rintro e o ⟨r,rfl,m,bz⟩;have br:=bd.size;have i:(kW w o B l (pQ p) (pQ r)):=⟨bd.trans (bz.mono bd.size), .inr ⟨_,_,p,r,s,_,rfl,rfl,Two.begin j bd hd (λk b=>b.1) bz m (λk b=>b.1), .inr ⟨_,rfl⟩,λk b=>b.1,λk b=>by have:=b.1;omega⟩⟩;go_wp2;go_ret3;exact⟨_,_,rfl,i⟩
def Oi (bS:Int) (a:Option Addr) (n c:Nat) (l:List Int) (w:World) (B:Nat) (g:B<=w.heap.size) (f:Src w a n l) (i:n<=140737488355328) (zT:n<=c):
  Calls prog 15 #[iV bS, .slice a n c] w λe w'=>∃d r,e= .returned (.tuple #[d,r, .bool true])/\kW w w' B l d r:=by
 by_cases h0:n=0
 .subst h0;by_cases h:bS<1\/2048<bS
  .exact Og bS l a c w B h
  .obtain⟨s,rfl⟩:∃s:Nat,bS=(s:Int):=⟨bS.toNat,by omega⟩;exact Oh s l a c w B g (by omega) (by omega)
 .by_cases h:n%512=0
  .by_cases j:1048576<n
   .exact RZ bS a n c l w B f i h j
   .obtain⟨x,rfl⟩:∃x,a=some x:=by
     cases a with
     |none=>exact absurd (f.2.1 rfl) h0
     |some x=>exact⟨x,rfl⟩
    obtain⟨b,o,rfl,k⟩:=f.spot (by omega);exact KG bS b o n c (n / 512) l w B g f k zT (by omega) (by omega) (by omega)
  .exact Of bS a n c l w B f i h
section
section
variable {w w':World} {F G:Nat->Prop} {r s k:Nat} {S:DS} {L:LG}
def aC.later (h:aC w F r s S) (a:bW w w'):aC w' F r s S:=h.aw (aa.ah (λ_=>False) a) (λ_ _ h=>h)
def aC.mono (h:aC w F r s S) (c:∀k,F k->G k) (d:∀k,G k->k<w.heap.size):aC w G r s S:=by
 obtain⟨b,a,e,f,xs,h⟩:=h;exact⟨b,a,e,f,xs,h.mono c d⟩
def C4 (h:aC w F r s S) (f n:Int):
  Calls prog 117 #[pQ r,iV f,iV n] w λe w'=>e= .returned (iV (cy S s f n))/\w'=w:=by
 have p:=h.ok.hi;have c:=kU h;have b:=kr h;unfold cy;by_cases d:S.fuse=0
 .rw [show (S.fuse == 0)=true by simp [d]] at b;rw [aG d];go_in;go_wp2_with (first|(go_at_call 11;refine c.mono ?_;rintro e w' ⟨rfl,a⟩;subst a)|(go_at_call 36;refine b.mono ?_;rintro e w' ⟨rfl,a⟩;subst a));go_ret;exact⟨rfl,rfl⟩
 .rw [show (S.fuse == 0)=false by simp [d]] at b;rw [aB d];by_cases g:f<0\/(s:Int)<=f
  .rw [aG g];by_cases k:f<0
   .clear g;go_in;go_wp2_with (first|(go_at_call 11;refine c.mono ?_;rintro e w' ⟨rfl,a⟩;subst a)|(go_at_call 36;refine b.mono ?_;rintro e w' ⟨rfl,a⟩;subst a));go_ret;exact⟨rfl,rfl⟩
   .have l:(s:Int)<=f:=(by omega);go_in;go_wp2_with (first|(go_at_call 11;refine c.mono ?_;rintro e w' ⟨rfl,a⟩;subst a)|(go_at_call 36;refine b.mono ?_;rintro e w' ⟨rfl,a⟩;subst a));go_ret;exact⟨rfl,rfl⟩
  .rw [aB g];have k:¬f<0:=(by omega);have l:¬(s:Int)<=f:=(by omega);by_cases i:n<18\/256<n
   .rw [aG i];by_cases m:n<18
    .clear i;go_in;go_wp2_with (first|(go_at_call 11;refine c.mono ?_;rintro e w' ⟨rfl,a⟩;subst a)|(go_at_call 36;refine b.mono ?_;rintro e w' ⟨rfl,a⟩;subst a));go_ret;exact⟨rfl,rfl⟩
    .have o:256<n:=(by omega);go_in;go_wp2_with (first|(go_at_call 11;refine c.mono ?_;rintro e w' ⟨rfl,a⟩;subst a)|(go_at_call 36;refine b.mono ?_;rintro e w' ⟨rfl,a⟩;subst a));go_ret;exact⟨rfl,rfl⟩
   .rw [aB i];have m:¬n<18:=(by omega);have o:¬256<n:=(by omega);by_cases j:(s:Int)<f+2+n
    .rw [aG j];go_in;go_wp2_with (first|(go_at_call 11;refine c.mono ?_;rintro e w' ⟨rfl,a⟩;subst a)|(go_at_call 36;refine b.mono ?_;rintro e w' ⟨rfl,a⟩;subst a));go_ret;exact⟨rfl,rfl⟩
    .rw [aB j];go_in;go_wp2_with (first|(go_at_call 11;refine c.mono ?_;rintro e w' ⟨rfl,a⟩;subst a)|(go_at_call 36;refine b.mono ?_;rintro e w' ⟨rfl,a⟩;subst a));go_ret;exact⟨rfl,rfl⟩
abbrev lrC (r:Nat) (L:LG):Array Value:= #[pQ r,iV L.life,iV (L.f:Int),iV (L.n:Int),iV (L.ep:Int),iV (L.tail:Int),iV (L.head:Int),iV (L.top:Int), .bool L.begun]
def cM (w:World) (k r:Nat) (L:LG):Prop:=w.heap[k]? =some (.cells (lrC r L) 200 (0,0))
def cM.lt (h:cM w k r L):k<w.heap.size:=aq h
def cM.aw (h:cM w k r L) (a:aa G w w') (b:¬G k):cM w' k r L:=(a.block k h.lt b).trans h
def cM.later (h:cM w k r L) (a:bW w w'):cM w' k r L:=(a.block k h.lt).trans h
def cM.c0 (h:cM w k r L):w.cell? (aD k 0)=some (pQ r):=aM h
def cM.c1 (h:cM w k r L):w.cell? (aD k 1)=some (iV L.life):=bG h
def cM.c2 (h:cM w k r L):w.cell? (aD k 2)=some (iV (L.f:Int)):=bM h
def cM.c3 (h:cM w k r L):w.cell? (aD k 3)=some (iV (L.n:Int)):=fU h
def cM.c4 (h:cM w k r L):w.cell? (aD k 4)=some (iV (L.ep:Int)):=gH h
def cM.c5 (h:cM w k r L):w.cell? (aD k 5)=some (iV (L.tail:Int)):=sv h
def cM.c6 (h:cM w k r L):w.cell? (aD k 6)=some (iV (L.head:Int)):=xz h
def cM.c7 (h:cM w k r L):w.cell? (aD k 7)=some (iV (L.top:Int)):=rH h
def cM.c8 (h:cM w k r L):w.cell? (aD k 8)=some (.bool L.begun):=DG h
def cM.fz (h:cM w k r L) (j:Nat):w.frozen? (aD k j)=false:=ae h j
def vF (h:aC w F r s S) (b:cM w k r L):
  Calls prog 168 #[pQ k] w λe w'=>e= .returned (.bool (L.dead S))/\bW w w':=by
 have a:=λn=>kr (h.later (below_drewN (bi w.heap.size w) n));have c:=λn=>nR (h.later (below_drewN (bi w.heap.size w) n));have d:=b.c0;have f:=b.c1;unfold LG.dead;by_cases q:S.fuse=0
 .rw [show (S.fuse == 0)=true by simp [q]] at a⊢;go_in;go_wp2_with fail;go_quiet ((go_at_call 36;exact Calls.quiet_of_same (a _)));go_wp2;go_ret;exact⟨rfl,below_drewN (bi _ _) _⟩
 .rw [show (S.fuse == 0)=false by simp [q]] at a⊢;go_in;go_wp2_with fail;go_quiet (first|(go_at_call 36;exact Calls.quiet_of_same (a _))|(go_at_call 23;exact Calls.quiet_of_same (c _)));go_wp2;go_ret;exact⟨rfl,below_drewN (bi _ _) _⟩
def ma (h:aC w F r s S) (f:cM w k r L):
  Calls prog 171 #[pQ k] w λe w'=>e= .returned (iV (L.bm S))/\bW w w':=by
 have a:=vF h f;unfold LG.bm;have c:=yh f;cases hd:L.dead S
 .rw [hd] at a;cases d:L.begun
  .rw [aB (by decide),aB (by decide)];go_in;go_wp2_with fail;refine bJ a λw' eI=>?_;have b:=(c.o.later eI).c8;rw [d] at b;go_wp2;go_ret;exact⟨rfl,(yh eI).out⟩
  .rw [aB (by decide),aG rfl];go_in;go_wp2_with fail;refine bJ a λw' eI=>?_;have b:=(c.o.later eI).c8;rw [d] at b;go_wp2;go_ret;exact⟨rfl,(yh eI).out⟩
 .rw [hd] at a;rw [aG rfl];go_in;go_wp2_with fail;refine bJ a λw' eI=>?_;go_wp2;go_ret;exact⟨rfl,(yh eI).out⟩
def Oj (h:aC w F r s S) (a:cM w k r L) (c:L.Ok s):
  Calls prog 142 #[pQ k] w λe w'=>e= .returned (.tuple #[iV (L.room S).1,iV (L.room S).2])/\bW w w':=by
 obtain⟨f,g,i,j,l⟩:=eQ (ma h a) c.n2 c.th c.hi c.hn;unfold LG.room;generalize L.bm S=U at*;by_cases q:U=0
 .subst q;rw [aB (by decide)];go_in;go_wp2_with fail;refine bJ f λw1 b=>?_;have a:=(yh a).out.later b;obtain⟨m,n,o⟩:=kH a.c3 a.c5 a.c6;go_wp2_with fail;try go_quiet (fail)
  go_wp2;go_ret2;exact⟨rfl,below_drewN (yh b).out _⟩
 .rw [aG q];have d:(U == 0)=false:=by rw [fy];exact q
  go_in;go_wp2_with fail;refine bJ f λw1 b=>?_;go_wp2;go_ret2;exact⟨rfl,(yh b).out⟩
def GO (h:aC w F r s S) (aU:S.puts.length+1<=4000000000000):
  Calls prog 65 #[pQ r] w λe w'=>e= .returned (iV (S.fl s).1)/\aC w' F r s (S.fl s).2/\aa F w w':=by
 exact fH h aU
def C5 (h:aC w F r s S) (b:cM w k r L) (i:¬F k) (aU:S.puts.length+1<=4000000000000):
  Calls prog 130 #[pQ k] w λe w'=>e= .returned (iV (L.sync S s).1)/\aC w' F r s (L.sync S s).2/\cM w' k r L/\aa F w w':=by
 have g:=ma h b;have f:=yh b;have c:=yh h;unfold LG.sync;generalize L.bm S=U at*;by_cases q:U=0
 .subst q;rw [aB (by decide)];go_in;go_wp2_with fail;refine bJ g λw1 a=>?_;have b:=f.o.later a;have j:=b.c0;go_wp2_with fail;refine(GO (c.o.later a) aU).mono ?_;rintro e l ⟨rfl,cI,aY⟩;go_wp2;go_ret;exact⟨rfl,(yh (aH cI (aH ((yh b).out.aw aY i) ((yh (aa.ah F a)).out.trans aY (λ_ h=> .inl h))))).out⟩
 .rw [aG q];have d:(U == 0)=false:=by rw [fy];exact q
  go_in;go_wp2_with fail;refine bJ g λw1 a=>?_;go_wp2;go_ret;exact⟨rfl,(yh (aH (c.o.later a) (aH (f.o.later a) (aa.ah F a)))).out⟩
end
end
section
open Go.ChangeMaps (setBlock heap_setBlock_same heap_setBlock_other)
def Ra (v:Value):Option (DataW Value×List MemPlace):=
 match v with
 | .agg _=>some (.held v, [])
 |_=>none
def Er {d:DataW Value} {ps:List MemPlace} (h:Ra v=some (d,ps)):d= .held v/\ps= []:=by
 unfold Ra at h;split at h
 .simp only [Option.some.injEq,Prod.mk.injEq] at h;exact⟨h.1.symm,h.2.symm⟩
 .cases h
abbrev cV (c:List Int):Value:= .agg (bs c).toArray
def adu:Option (List Int)->Value
 |some c=>cV c
 |none=> .agg bo
def ur {a b:Value} (h:(DataW.held a:DataW Value)= .held b):a=b:=by injection h
def zU {a b:Value} (x:Bool) (w:World) (h:a=b):(Result.ok (Value.tuple #[a, .bool x]) w:Result Value)= .ok (.tuple #[b, .bool x]) w:=by rw [h]
def ML:(prog.info? 101).map (λi=>(i.zero,i.size))=some (some (.agg bo),512):=by kernel_rfl
def jm (w:World):(zeroValue 101).run prog w= .ok (.agg bo) w:=by
 obtain⟨i,b,a⟩:=Option.map_eq_some_iff.1 ML;simp only [Prod.mk.injEq] at a;simp [zeroValue,typeInfo,b,a.1]
structure vG (w:World) (m:Nat) (ms:CM) (D:DataW Value):Prop where
 own:w.ownsMap prog 3 Ra m ms.length D
 siz:Maps.size D=ms.length
 key:∀kl,Maps.has D kl=true->∃k:Nat,kl=kk k/\(CM.get ms k).isSome=true
 at':∀k c,CM.get ms k=some c->Maps.has D (kk k)=true/\∀z,D.atKey (kk k) z= .held (cV c)
 no:∀k,CM.get ms k=none->Maps.has D (kk k)=false/\∀z,D.atKey (kk k) z=z
 ok:CM.Ok ms
 len:∀q∈ms,q.1<2048/\q.2.length=512/\Bytes q.2
def Ch (w:World) (m:Nat) (ms:CM):Prop:=∃D,vG w m ms D
section
variable {w w':World} {m:Nat} {ms:CM} {D:DataW Value}
def R0 {b:Nat} (h:kk a=kk b):a=b:=by
 unfold kk at h;injection h with _ h;omega
def zV (h:w.ownsMap prog 3 Ra m n D) (e:w'.heap[m]? =w.heap[m]?):w'.ownsMap prog 3 Ra m n D:=by
 obtain⟨b,a,c,d⟩:=h;exact⟨b,a,e.trans c,d⟩
def vG.agree (h:vG w m ms D) (a:w'.heap[m]? =w.heap[m]?):vG w' m ms D:=⟨zV h.own a,h.siz,h.key,h.at',h.no,h.ok,h.len⟩
def vG.lt (h:vG w m ms D):m<w.heap.size:=h.own.lt
def Ch.lt (h:Ch w m ms):m<w.heap.size:=by obtain⟨D,h⟩:=h;exact h.lt
def Ch.ok (h:Ch w m ms):CM.Ok ms:=by obtain⟨D,h⟩:=h;exact h.ok
def Ch.len (h:Ch w m ms):∀q∈ms,q.1<2048/\q.2.length=512/\Bytes q.2:=by obtain⟨D,h⟩:=h;exact h.len
def Ch.agree (h:Ch w m ms) (a:w'.heap[m]? =w.heap[m]?):Ch w' m ms:=by obtain⟨D,h⟩:=h;exact⟨D,h.agree a⟩
def Ch.aw (h:Ch w m ms) (a:aa G w w') (b:¬G m):Ch w' m ms:=h.agree (a.block m h.lt b)
def Ch.later (h:Ch w m ms) (a:bW w w'):Ch w' m ms:=h.agree (a.block m h.lt)
def Ch.made (w:World):Ch (w.alloc (.map #[] 0)) w.heap.size []:=
   ⟨.map [],World.ownsMap_made w _ _ _,rfl,(λb h=>by simp [Maps.has] at h),(λk c h=>by cases h),(λk _=>⟨rfl,λz=>rfl⟩),List.Pairwise.nil,(λq a=>by cases a)⟩
def CM.length_le:∀{ms:CM} {n:Nat},CM.Ok ms->(∀q∈ms,q.1<n)->(∀a,(∀q∈ms,a<=q.1)->ms.length+a<=n\/ms= [])
 | [],_,_,_,_,_=> .inr rfl
 |q :: qs,n,ho,hl,a,ha=>by
  have p:=List.pairwise_cons.1 ho;have c:=hl q List.mem_cons_self;have d:=ha q List.mem_cons_self;rcases CM.length_le (n:=n) p.2 (λx b=>hl x (List.mem_cons_of_mem _ b)) (q.1+1) (λx b=>p.1 x b) with h|h
  .left;rw [List.length_cons];omega
  .left;rw [h];simp only [List.length_cons,List.length_nil];omega
def Ch.small (h:Ch w m ms):ms.length<=2048:=by
 rcases CM.length_le h.ok (λq b=>(h.len q b).1) 0 (λ_ _=>dL _) with a|a
 .omega
 .rw [a];exact dL _
def Ch.look (h:Ch w m ms) (k:Nat) (g:k<2048):
    (Instr.lookup 93 (.map (some m)) (iV (k:Int)) true).run prog w= .ok (.tuple #[adu (CM.get ms k), .bool (CM.get ms k).isSome]) w:=by
 obtain⟨D,h⟩:=h;obtain⟨v,ps,bI,a⟩:=h.own.look_ok gu underlying93 (jm w) (zd:= .held (.agg bo)) (zp:= []) rfl (lU k g);rw [bI];cases f:CM.get ms k with
 |none=>
  obtain⟨b,d⟩:=h.no k f;rw [d] at a;obtain⟨e,_⟩:=Er a;rw [b];exact zU _ _ (ur e).symm
 |some c=>
  obtain⟨b,d⟩:=h.at' k c f;rw [d] at a;obtain⟨e,_⟩:=Er a;rw [b];exact zU _ _ (ur e).symm
def Ch.read (h:Ch w m ms) (k:Nat) {c:List Int} (a:CM.get ms k=some c):
    (Instr.lookup 93 (.map (some m)) (iV (k:Int)) false).run prog w= .ok (cV c) w:=by
 obtain⟨D,h⟩:=h;obtain⟨v,ps,bI,b⟩:=h.own.lookup gu underlying93 (jm w) (zd:= .held (.agg bo)) (zp:= []) rfl (lU k ((h.len _ (CM.get_mem a)).1));rw [bI];rw [(h.at' k c a).2] at b;obtain⟨d,_⟩:=Er b;exact congrArg (λz=>Result.ok z w) (ur d).symm
def Ch.store (h:Ch w m ms) (k:Nat) (s:k<2048) (c:List Int) (C:c.length=512) (A:Bytes c):
  ∃w',(Instr.mapUpdate 93 (.map (some m)) (iV (k:Int)) (cV c)).run prog w= .ok () w'/\Ch w' m (CM.put ms k c)/\aa (λb=>b=m) w w'/\w'.heap.size=w.heap.size:=by
 have lG:=h.small;obtain⟨D,h⟩:=h;obtain⟨w',bI,E,r⟩:=h.own.store gu underlying93 (by unfold maxLen;omega) (lU k s) (show Ra (cV c)=some (.held (cV c), []) from rfl);have p:=h.own.isMap;have gW:WideAt.IsKeyLit (kk k):=trivial;have ul:=r.grown;have eM:Maps.size (D.put (kk k) (.held (cV c)))=(CM.put ms k c).length:=by
  rw [size_put (h.own.tidy gu),CM.sO h.ok,h.siz];cases f:CM.get ms k with
  |none=>rw [(h.no k f).1];rfl
  |some x=>rw [(h.at' k x f).1];rfl
 refine⟨w',bI,⟨D.put (kk k) (.held (cV c)),?_,eM,λt ox=>?_,λj x a=>?_,λj a=>?_,CM.vD h.ok _ _,λq l=>?_⟩,⟨ul.os,ul.tape,ul.output,ul.size,λb eI F=>ul.block b eI (λe=>F (by injection e))⟩,?_⟩
 .obtain⟨n,d,v,y,G,o⟩:=E;refine⟨n,d,v,y,?_,o⟩;rw [<-eM,o];simp [Maps.size,length_sorted]
 .by_cases i:t=kk k
  .exact⟨k,i,by rw [CM.kF _ _ _ _ h.ok,aG rfl];rfl⟩
  .rw [has_put_other i] at ox;obtain⟨j,rfl,a⟩:=h.key t ox;refine⟨j,rfl,?_⟩;rw [CM.kF _ _ _ _ h.ok,aB (λe=>i (by rw [e]))];exact a
 .rw [CM.kF _ _ _ _ h.ok] at a;by_cases e:j=k
  .rw [aG e] at a;cases a;subst e;exact⟨has_put_same p gW _,λz=>atKey_put_same p gW _ z⟩
  .rw [aB e] at a;have dM:kk j≠kk k:=λg=>e (R0 g);exact⟨by rw [has_put_other dM];exact(h.at' j x a).1,λz=>by rw [atKey_put_other dM];exact(h.at' j x a).2 z⟩
 .rw [CM.kF _ _ _ _ h.ok] at a;by_cases e:j=k
  .rw [aG e] at a;cases a
  .rw [aB e] at a;have dM:kk j≠kk k:=λg=>e (R0 g);exact⟨by rw [has_put_other dM];exact(h.no j a).1,λz=>by rw [atKey_put_other dM];exact(h.no j a).2 z⟩
 .rcases CM.rg l with rfl|l
  .exact⟨s,C,A⟩
  .exact h.len q l
 .obtain⟨n,d,u,aio,_,e⟩:=r;rw [e];simp [setBlock]
def Ch.length (h:Ch w m ms) (a:TypeId):(Builtin.len_ #[93] a #[.map (some m)]).run prog w= .ok (iV (ms.length:Int)) w:=by
 obtain⟨D,h⟩:=h;rw [h.own.len underlying93 a,h.siz]
def Ch.qS (h:Ch w m ms):∃w',(∀d,(Builtin.clear_ #[93] d #[.map (some m)]).run prog w= .ok (.tuple #[]) w')/\Ch w' m []/\aa (λk=>k=m) w w'/\w'.heap.size=w.heap.size:=by
 obtain⟨D,h⟩:=h;obtain⟨g,a,b,F,_,_⟩:=h.own;refine⟨setBlock w m (.map #[] a),?_,⟨.map [],⟨#[],a,heap_setBlock_same b _,⟨by simp,?_,by simp⟩,by simp,by simp⟩,rfl,(λi h=>by simp [Maps.has] at h),(λk c h=>by cases h),(λk _=>⟨rfl,λz=>rfl⟩),List.Pairwise.nil,(λq f=>by cases f)⟩,⟨rfl,rfl,rfl,by simp [setBlock],λk _ e=>heap_setBlock_other b _ e⟩,by simp [setBlock]⟩
 .intro d;simp [Builtin.clear_,go_sem,MapKept.run_getObj_map b,MapKept.run_setObj_map _ b,setBlock]
 .exact MapKept.stamped_empty _
end
end
def cw (ms:CM):List Int:=bD 2 ms.length ++ (ms.flatMap (λq=>bD 4 q.1) ++ ms.flatMap (·.2))
def nT (ms:CM):(ms.flatMap (λq=>bD 4 q.1)).length=4*ms.length:=by
 induction ms with
 |nil=>rfl
 |cons q b a=>simp only [List.flatMap_cons,ee,aK,a,List.length_cons];omega
def vH {ms:CM} (h:∀q∈ms,q.2.length=512):(ms.flatMap (·.2)).length=512*ms.length:=by
 induction ms with
 |nil=>rfl
 |cons q c b=>
  simp only [List.flatMap_cons,ee,b (λx a=>h x (List.mem_cons_of_mem _ a)),h q List.mem_cons_self,List.length_cons];omega
def Ol {ms:CM} (h:∀q∈ms,q.2.length=512):(cw ms).length=2+516*ms.length:=by
 unfold cw;rw [ee,ee,aK,nT,vH h];omega
def Es (a:Option Addr) (n c:Nat) (w:World) (d:n<=140737488355328):
  Calls prog 173 #[.slice a n c] w λe w'=>e= .returned (iV (((n+491) / 492:Nat):Int))/\w'=w:=by
 have b:(n:Int)+492-1=((n+491:Nat):Int):=by omega
 go_in;go_wp2;go_ret;refine⟨?_,rfl⟩;refine congrArg (λz=>Ending.returned (iV z)) ?_;first|(rw [b];omega)|omega
def zW (B:Nat) (w':World) (l:List Int) (e:Ending):Prop:=∃v',e= .returned v'/\w'.ownsRow B 5 1 v' l.length (bs l)
def GP {B:Nat} (h:w.ownsRow B 5 1 v l.length (bs l)) (o:B<=w.heap.size) (N k:Nat) (r:k<=4) (s:l.length<=1000000):
  Calls prog 213 #[v,iV (N:Int),iV (k:Int)] w λe w'=>zW B w' (l ++ bD k N) e/\Below B w w':=by
 obtain⟨g,rS,gC,dE,em⟩:=info_parts gq;go_in;go_wp2;go_loopw [0,9] (λu i wr=>∃j:Nat,j<=k/\i=iV (j:Int)/\wr.ownsRow B 5 1 u (l ++ bD j N).length (bs (l ++ bD j N))/\Below B w wr) (λ_ i _=>k-(intOf i).toNat);case atStart=>exact⟨0,dL _,rfl,by simpa [bD] using h,bi _ _⟩
 case round=>
  obtain⟨j,p,rfl,be,b⟩:=hrel;have Wf:=b.size;by_cases bq:j<k
  .have cC:(j:Int)<(k:Int):=(by omega);have a:=aK j N;have UO:(0:Int)<=8*(j:Int):=(by omega);have vo:=be;have j8:(l ++ bD j N).length+1<=1000010:=(by rw [ee,a];omega);go_wp2_with (at_builtin;refine wpList_append_own _ rfl _ _ 36 rfl B 5 g (.int .u8 0) 1 1 underlying36 rS gC dE em rfl (by decide) _ _ _ rfl (vo.alloc _) (aD wr.heap.size 0) 1 1 [.int .u8 ((N / 2 ^ (8*j)%256:Nat):Int)] rfl rfl (cell_one_new _ _ _) (ints_oneCell .u8 [((N / 2 ^ (8*j)%256:Nat):Int)]) (by unfold maxLen;omega) (by omega) (by simp;omega) ?_);intro m n cN aR jI;have vl:=λq e=>(be.lt q e).1;have bz:=(b.alloc (by omega) _).grown aR (by simp;omega) (λq e=>vl q e);have fP:n.ownsRow B 5 1 m (l ++ bD (j+1) N).length (bs (l ++ bD (j+1) N)):=by
    have d:(l ++ bD j N ++ [((N / 2 ^ (8*j)%256:Nat):Int)]).length=(l ++ bD j N).length+1:=(by simp only [ee,List.length_singleton]);have f:bs (l ++ bD j N ++ [((N / 2 ^ (8*j)%256:Nat):Int)])=bs (l ++ bD j N) ++ [.int .u8 ((N / 2 ^ (8*j)%256:Nat):Int)]:=(by simp only [bs,List.map_append,List.map_cons,List.map_nil]);rw [i9,<-rG,d,f,ee,a];simpa [bs] using cN
   go_wp2;go_roundw;case rel=>exact⟨j+1,by omega,by go_num,fP,bz⟩
   case measure=>simp [intOf];omega
  .have cC:¬(j:Int)<(k:Int):=(by omega);obtain rfl:j=k:=(by omega);have c:=(aH be b);go_wp2;go_ret;exact⟨⟨_,rfl,c.1⟩,c.2⟩
def aE (S:DS) (s home:Nat):CM->Int×DS
 | []=>(0,S)
 |q :: qs=>if (S.wr s ((home+q.1:Nat):Int) 512 q.2).1≠0 then S.wr s ((home+q.1:Nat):Int) 512 q.2 else aE (S.wr s ((home+q.1:Nat):Int) 512 q.2).2 s home qs
structure LY where
 log:Nat
 home:Nat
 blocks:Nat
 nodes:Nat
 data:Nat
structure SG where
 y:LY
 L:LG
 ov:CM
 busy:Bool
structure TG where
 puts:CM
 bad:Int
 ended : Bool
def SG.check (G:SG) (S:DS) (s:Nat):Int×DS×SG:=
 if (G.L.sync S s).1≠0 then ((G.L.sync S s).1,(G.L.sync S s).2,G) else
 if (aE (G.L.sync S s).2 s G.y.home G.ov).1≠0 then ((aE (G.L.sync S s).2 s G.y.home G.ov).1,(aE (G.L.sync S s).2 s G.y.home G.ov).2,G) else
 if (G.L.trim (aE (G.L.sync S s).2 s G.y.home G.ov).2 s).1≠0 then ((G.L.trim (aE (G.L.sync S s).2 s G.y.home G.ov).2 s).1,(G.L.trim (aE (G.L.sync S s).2 s G.y.home G.ov).2 s).2.1,{G with L:=(G.L.trim (aE (G.L.sync S s).2 s G.y.home G.ov).2 s).2.2})
 else (0,(G.L.trim (aE (G.L.sync S s).2 s G.y.home G.ov).2 s).2.1,{G with L:=(G.L.trim (aE (G.L.sync S s).2 s G.y.home G.ov).2 s).2.2,ov:= []})
def SG.roomy (G:SG) (S:DS) (x:Nat):Bool:=decide ((di x:Int)<=(G.L.room S).1)
def SG.made (G:SG) (S:DS) (s:Nat) (x:Nat):Int×DS×SG:=if G.roomy S x=true then (0,S,G) else G.check S s
def SG.bK (G:SG) (S:DS) (s:Nat) (c:CM):Int×DS×SG:=
 if (G.L.room S).2≠0 then ((G.L.room S).2,S,G) else
 if (G.made S s (cw c).length).1≠0 then G.made S s (cw c).length else
 if ((G.made S s (cw c).length).2.2.L.append (G.made S s (cw c).length).2.1 s (cw c)).1≠0 then
    (((G.made S s (cw c).length).2.2.L.append (G.made S s (cw c).length).2.1 s (cw c)).1,((G.made S s (cw c).length).2.2.L.append (G.made S s (cw c).length).2.1 s (cw c)).2.1,{(G.made S s (cw c).length).2.2 with L:=((G.made S s (cw c).length).2.2.L.append (G.made S s (cw c).length).2.1 s (cw c)).2.2})
 else (0,((G.made S s (cw c).length).2.2.L.append (G.made S s (cw c).length).2.1 s (cw c)).2.1,{(G.made S s (cw c).length).2.2 with L:=((G.made S s (cw c).length).2.2.L.append (G.made S s (cw c).length).2.1 s (cw c)).2.2,ov:=CM.bU (G.made S s (cw c).length).2.2.ov c})
def SG.block (G:SG) (S:DS) (b:Nat):List Int:=(CM.get G.ov b).getD (S.now (G.y.home+b))
def TG.j3 (T:TG) (G:SG) (S:DS) (b:Nat):List Int:=(CM.get T.puts b).getD (G.block S b)
def TG.bU (T:TG) (G:SG) (S:DS):Int:=if G.L.dead S=true then 3 else if T.ended=true then 4 else 0
def TG.state (T:TG) (G:SG) (S:DS):Int:=if T.bU G S≠0 then T.bU G S else T.bad
def TG.refusal (T:TG) (G:SG) (S:DS) (b:Int):Int:=if T.state G S≠0 then T.state G S else if b<0\/(G.y.blocks:Int)<=b then 11 else 0
def KH (v:Value) (y:DataW Value×List MemPlace) (h:Ra v=some y):∃c,v=Value.agg c:=by
 unfold Ra at h;split at h
 .exact⟨_,rfl⟩
 .cases h
def vG.met {m:Nat} {ms:CM} {D:DataW Value} (h:vG w m ms D) {a:Lit} {y:DataW Value} (gW:keyOf prog 3 (iV x)=some a) (it:∀zd,D.atKey a zd=y):
  ∃k:Nat,x=(k:Int)/\a=kk k/\(CM.get ms k).isSome=true:=by
 obtain⟨k,rfl,d⟩:=h.key a (Maps.has_true_of_atKey it);obtain⟨f,c,b,_⟩:=Maps.keyOf_int_inv underlying3 gW;have e:x=(k:Int):=by cases c;simpa [kk] using b.symm
 exact⟨k,e,rfl,d⟩
def mem_keys {ms:CM} (b:CM.Ok ms) (k:Nat):k∈CM.keys ms↔(CM.get ms k).isSome=true:=by
 constructor
 .intro h;obtain⟨q,d,e⟩:=List.mem_map.1 h;rw [CM.get_of_mem b (k:=k) (c:=q.2) (by rw [<-e];exact d)];rfl
 .intro h;obtain⟨c,a⟩:=Option.isSome_iff_exists.1 h;exact List.mem_map.2 ⟨_,CM.get_mem a,rfl⟩
def Om {ms:CM} (f:CM.Ok ms) (i:ks.Nodup) (g:∀k,k∈ks↔(CM.get ms k).isSome=true):
    ((ks.map (λk:Nat=>(k:Int))).mergeSort λx y=>decide (x<=y))=(CM.keys ms).map (λk:Nat=>(k:Int)):=by
 have bq:=CM.V9 f;have lJ:(CM.keys ms).Nodup:=bq.imp (λh=>Nat.ne_of_lt h);have Qt:=(List.perm_ext_iff_of_nodup i lJ).2 (λk=>by rw [g,mem_keys f]);have br:((CM.keys ms).map (λk:Nat=>(k:Int))).Pairwise (λx y=>decide (x<=y)=true):=by
  refine List.pairwise_map.2 ?_;exact bq.imp (λh=>by simp;omega)
 have l:∀a b c:Int,decide (a<=b)=true->decide (b<=c)=true->decide (a<=c)=true:=λa b c d e=>by simp only [decide_eq_true_eq] at*;omega
 have j:∀a b:Int,(decide (a<=b) || decide (b<=a))=true:=λa b=>by simp only [Bool.or_eq_true,decide_eq_true_eq];omega
 refine List.Perm.eq_of_pairwise (le:=λa b=>decide (a<=b)=true) (λa b _ _ d e=>?_) (List.pairwise_mergeSort l j _) br ((List.mergeSort_perm _ _).trans (Qt.map _));simp only [decide_eq_true_eq] at d e;omega
def GQ {m:Nat} {ms:CM} {D:DataW Value} (h:vG w m ms D):
  Calls prog 158 #[.map (some m)] w λe w'=>∃a c,e= .returned (.slice a (CM.keys ms).length c)/\(CM.keys ms≠ []->∃g,a=some (aD g 0)/\w.heap.size<=g/\ay w' 3 g c (wu (CM.keys ms)))/\bW w w':=by
 obtain⟨F,rS,gC,dE,em⟩:=info_parts DH;have Cs:=h.lt;have lG:=Ch.small ⟨D,h⟩;have H:=yh h;clear h;go_in;go_wp2_with (at_range;refine wpList_range_own _ rfl _ 93 rfl 3 101 gu underlying93 Ra m ms.length D rfl H.o.own ?_;intro w0 pG vd yM;go_frame);have fR:=(bi _ w).grown vd (bR _) (λj l=>by cases l);clear vd;go_loopw [3,4] (λv _ wr=>∃(left:Lit->Bool) (eu:Nat) (ks:List Nat),wr.ranges prog 3 Ra m w.heap.size ms.length D left eu/\wr.ownsRow (w.heap.size+1) 3 1 v ks.length (wu ks)/\
   ks.Nodup/\(∀k,k∈ks↔(CM.get ms k).isSome=true/\left (kk k)=false)/\bW w wr/\ks.length+eu<=ms.length/\w.heap.size+1<=wr.heap.size)
    (λ_ _ wr=>wr.rangeLeft m w.heap.size)
 case atStart=>
  refine⟨_,_, [],pG,World.ownsRow_nil _ _ _ _,List.nodup_nil,λk=>?_,fR,by simpa using H.o.own.size_le,by omega⟩;constructor
  .intro p;cases p
  .rintro ⟨q,r⟩;obtain⟨c,A⟩:=Option.isSome_iff_exists.1 q;rw [(H.o.at' k c A).1] at r;cases r
 case round=>
  clear pG fR yM;obtain⟨left,eu,ks,mU,be,PH,rI,i,mv,eM⟩:=hrel;go_wp2_with (at_next;refine wpList_next_ranges _ rfl _ rfl 3 gu Ra (Value.int .i64) Value.agg (λG I gW=>by obtain⟨x,rfl,_⟩:=Maps.keyOf_int_inv underlying3 gW;exact⟨x,rfl⟩) KH m w.heap.size ms.length _ _ _ rfl mU ?_ ?_)
  .intro _ ws;have yT:∀k,k∈ks↔(CM.get ms k).isSome=true:=λk=>by rw [rI,ws];simp
   have JL:=Om H.o.ok PH yT;have d:ks.length=(CM.keys ms).length:=by
    have:=congrArg List.length JL;rw [List.length_mergeSort] at this;simpa using this
   have Qu:ks= []->CM.keys ms= []:=λe=>by rw [e] at d;exact yH d.symm
   rcases be.2 with ⟨rfl,E⟩|⟨g,f,cur,rfl,M,tF,L,u,y,n⟩
   .have ez:=Qu (yH E);have i7:=wF wr;clear be rI yT JL mU H;go_wp2_with (go_at_call 126;refine i7.mono ?_;rintro e K ⟨rfl,Bq⟩);go_ret;exact⟨none,0,by simp [ez],λh=>absurd ez h,i.trans (Bq.mono i.size)⟩
   .have Uz:ay wr 3 g f ((ks.map (λk:Nat=>(k:Int))).map (Value.int .i64)):=by
     rw [Mj];refine⟨cur,tF,by simpa using y,?_,u⟩;simp only [Nat.mul_one] at n;rw [show (wu ks).length=ks.length by simp [wu]];exact n
    have mm:=ww g f _ wr Uz (by simp;omega);simp only [jF] at mm;rw [JL] at mm;have Nj:=yh d;clear be rI yT JL mU H Uz d n;go_wp2_with (go_at_call 126;refine mm.mono ?_;rintro e K ⟨rfl,DQ,Br⟩);go_ret;refine⟨some (aD g 0),f,?_,λ_=>⟨g,rfl,by omega,?_⟩,i.trans (Br.below (λj l=>by omega) i.size)⟩
    .rw [<-Nj.o];rfl
    .rw [<-Mj];exact DQ
  .intro x ca I N O s pH gW Bl C it pj bq gh br Jb;obtain⟨k,rfl,rfl,q⟩:=H.o.met gW it;have xZ:k∉ks:=λp=>by rw [((rI k).1 p).2] at Bl;cases Bl
   have pb:=be.kept gh (.inr (λe=>by have:=be.lt _ e;omega));have bd:=i.grown gh i.size (λj l=>by cases l;exact bR _);have jD:w.heap.size+1<=s.heap.size:=(by omega);have FZ:∀j,j∈ks ++ [k]↔(CM.get ms j).isSome=true/\(left (kk j) && !(kk j).sameKey (kk k))=false:=λj=>by
    rw [List.mem_append,List.mem_singleton,rI,lI];by_cases e:j=k
    .subst e;simp [q]
    .simp [e]
   have d:ks.length+1<=5000000000000:=(by omega);obtain⟨Qv,yU⟩:=bV FZ pb;clear gW C it br gh rI FZ pb;go_wp2_with (at_builtin;refine wpList_append_own _ rfl _ _ 23 rfl (w.heap.size+1) 3 F (iV 0) 1 8 underlying23 rS gC dE em rfl (by decide) _ _ _ rfl (yU.o.alloc _) (aD s.heap.size 0) 1 1 [iV (k:Int)] rfl rfl (cell_one_new _ _ _) (ints_oneCell .i64 [(k:Int)]) (by unfold maxLen;omega) (by omega) (by simp;omega) ?_);intro J t cN aR jI;have vl:=λj e=>(be.lt j e).1;have JG:=(pj.alloc (.cells #[.int .i64 (k:Int)] 3)).kept aR (λe=>by have:=vl m e.symm;omega) (λe=>by have:=vl _ e.symm;omega);have bz:=(bd.alloc (by omega) _).grown aR (by simp;omega) (λj e=>by have:=vl j e;omega);have FR:w.heap.size+1<=t.heap.size:=(by have:=aR.size;simp at this;omega);have Zf:(ks ++ [k]).Nodup:=List.nodup_append.2 ⟨PH,by simp,by intro a z b eI e;simp at eI;subst eI;exact xZ (e▸z)⟩;have fP:t.ownsRow (w.heap.size+1) 3 1 J (ks ++ [k]).length (wu (ks ++ [k])):=(by simpa [wu] using cN);obtain⟨i8,FU⟩:=bV fP JG;clear cN aR jI fP JG be yU pj Jb;go_wp2;go_roundw;case rel=>exact⟨_,pH,ks ++ [k],FU.o,i8.o,Zf,Qv.o,bz,by simp;omega,FR⟩
   case measure=>rw [FU.o.left_eq,mU.left_eq];exact bq
def wW {m:Nat} {ms:CM} (h:Ch w m ms):
  Calls prog 158 #[.map (some m)] w λe w'=>∃a c,e= .returned (.slice a (CM.keys ms).length c)/\(CM.keys ms≠ []->∃g,a=some (aD g 0)/\w.heap.size<=g/\ay w' 3 g c (wu (CM.keys ms)))/\bW w w':=by
 obtain⟨D,h⟩:=h;exact GQ h
def eU (h:l.length=512):(prog.info? 101).map (·.size)=some (bs l).length:=by
 obtain⟨i,b,a⟩:=Option.map_eq_some_iff.1 ML;simp only [Prod.mk.injEq] at a;rw [b,bs,jF,h,<-a.2];rfl
def eY (w:World) {c:List Int} (a:c.length=512):kh ((w.alloc (.cells bo 101)).setCells w.heap.size 0 (bs c)) 101 w.heap.size c/\Below w.heap.size w ((w.alloc (.cells bo 101)).setCells w.heap.size 0 (bs c))/\(w.alloc (.cells bo 101)).there w.heap.size 0 (bs c).length:=by
 have bT:(w.alloc (.cells bo 101)).heap[w.heap.size]? =some (.cells bo 101 (0,0)):=heap_alloc_new _ _;have bN:Below w.heap.size w (w.alloc (.cells bo 101)):=(bi _ w).alloc (bR _) _;refine⟨eO (l:=c) bT (by rw [cT,a]),bN.trans ((aa.setCells (F:=λj=>j=w.heap.size) rfl (bs c) 0 _).below (λj b=>by omega) bN.size),?_⟩;rw [bs,jF,a];exact(cH bT cT)
def kh.news {T:TypeId} (h:kh w T g l):∀j u,(bs l)[j]? =some u->w.cell? (((aD g 0):Addr).add j)=some u:=λj u b=>by
 obtain⟨a,rfl⟩:=fA b;rw [aN,Nat.zero_add];exact h.cell a
def mK {B:Nat} (h:W.ownsRow B e 1 v n xs) (f:∀g,v.ownBlock=some g->W'.heap[g]? =W.heap[g]?):W'.ownsRow B e 1 v n xs:=by
 obtain⟨b,⟨e,c⟩|⟨g,a,cur,rfl,i,tF,d⟩⟩:=h
 .exact⟨b, .inl ⟨e,c⟩⟩
 .exact⟨b, .inr ⟨g,a,cur,rfl,i,(f g rfl).trans tF,d⟩⟩
def Et {ms:CM} (a:j<ms.length):(wu (CM.keys ms))[j]? =some (iV ((ms[j]).1:Int)):=by
 simp [wu,CM.keys,a]
def KI {m:Nat} {ms:CM} (h:Ch w m ms):
  Calls prog 172 #[.map (some m)] w λe w'=>(∃B,w.heap.size<=B/\zW B w' (cw ms) e)/\bW w w':=by
 obtain⟨J,rS,gC,dE,em⟩:=info_parts gq;obtain⟨h1,lG,d,dw⟩:=cP (wW h) h.small h.len h.ok;have ox:(CM.keys ms).length=ms.length:=by simp [CM.keys]
 rw [ox] at h1;have R2:=jm;have D:=yh h;clear h;go_in;go_wp2_with fail;refine h1.mono ?_;rintro e w1 ⟨a,c,rfl,be,ar⟩;have adv:=ar.size;have cu:=GP (w:=w1) (B:=w1.heap.size) (v:= .slice none 0 0) (l:= []) (World.ownsRow_nil _ _ _ _) (bR _) ms.length 2 (by omega) (by simp);rw [show ((2:Nat):Int)=2 from rfl] at cu;obtain⟨Wg,cQ⟩:=bV be ar;clear h1 be ar;go_wp2_with fail;refine cu.mono ?_;rintro e O ⟨⟨L,rfl,jw⟩,bd⟩;rw [List.nil_append] at jw;have Wh:=yh (aH jw bd);clear cu jw bd;go_wp2;go_loopw [4,17] (λu i wr=>∃j:Nat,j<=ms.length/\i=iV (j:Int)/\wr.ownsRow w1.heap.size 5 1 u (bD 2 ms.length ++ (ms.take j).flatMap (λq=>bD 4 q.1)).length (bs (bD 2 ms.length ++ (ms.take j).flatMap (λq=>bD 4 q.1)))/\bW w1 wr) (λ_ i _=>ms.length-(intOf i).toNat);case atStart=>exact⟨0,dL _,rfl,by simpa using Wh.o.1,Wh.o.2⟩
 case round=>
  clear Wh;obtain⟨j,I,rfl,aA,b⟩:=hrel;have Wf:=b.size;by_cases bq:j<ms.length
  .have cC:(j:Int)<(ms.length:Int):=(by omega);have XJ:(0:Int)<=(j:Int):=(by omega);obtain⟨g,rfl,H,n⟩:=Wg.o (by simp [CM.keys];intro e;rw [e] at bq;simp at bq);have t:=(n.agree (b.block g n.lt)).cell (Et bq);have k:=d _ (List.getElem_mem bq);have fK:=GP aA Wf (ms[j]).1 4 (by omega) (by
    rw [ee,aK,nT,oj];omega)
   rw [show ((4:Nat):Int)=4 from rfl,rG,show (ms.take j).flatMap (λq=>bD 4 q.1) ++ bD 4 (ms[j]).1=(ms.take (j+1)).flatMap (λq=>bD 4 q.1) by rw [List.take_succ_eq_append_getElem bq,List.flatMap_append];simp] at fK;have p:=yh b;clear n aA b;generalize (ms[j]).1=K at*;go_wp2_with fail;refine fK.mono ?_;rintro e y ⟨⟨M,rfl,uj⟩,bz⟩;have f:=yh (aH uj (p.o.trans bz));clear fK uj bz;go_wp2;go_roundw;case rel=>exact⟨j+1,by omega,by go_num,f.o⟩
   case measure=>simp [intOf];omega
  .have cC:¬(j:Int)<(ms.length:Int):=(by omega);obtain rfl:j=ms.length:=(by omega);rw [List.take_length] at aA;have f:=yh (aH aA b);clear aA b
   rename World=>wo
   go_wp2;go_loopw [4,27] (λu i wr=>∃j:Nat,j<=ms.length/\i=iV (j:Int)/\wr.ownsRow w1.heap.size 5 1 u (bD 2 ms.length ++ ((ms.flatMap λq=>bD 4 q.1) ++ (ms.take j).flatMap (·.2))).length (bs (bD 2 ms.length ++ ((ms.flatMap λq=>bD 4 q.1) ++ (ms.take j).flatMap (·.2))))/\bW w1 wr) (λ_ i _=>ms.length-(intOf i).toNat);case atStart=>exact⟨0,dL _,rfl,by simpa using f.o.1,f.o.2⟩
   case round=>
    clear f;obtain⟨j,I,rfl,aA,b⟩:=hrel;have Wf:=b.size;by_cases bq:j<ms.length
    .have xB:(j:Int)<(ms.length:Int):=(by omega);have XJ:(0:Int)<=(j:Int):=(by omega);obtain⟨g,rfl,H,n⟩:=Wg.o (by simp [CM.keys];intro e;rw [e] at bq;simp at bq);have t:=(n.agree (b.block g n.lt)).cell (Et bq);have k:=d _ (List.getElem_mem bq);have bj:=eY wr k.2.1;have aW:=eU k.2.1;have dD:=cF (ms[j]).2;have qA:(bs (ms[j]).2).length=512:=(by rw [bs,jF,k.2.1]);have zY:bD 2 ms.length ++ ((ms.flatMap λq=>bD 4 q.1) ++ (ms.take (j+1)).flatMap (·.2))=bD 2 ms.length ++ ((ms.flatMap λq=>bD 4 q.1) ++ (ms.take j).flatMap (·.2)) ++ (ms[j]).2:=by
      rw [List.take_succ_eq_append_getElem bq,List.flatMap_append];simp
     have j8:(bD 2 ms.length ++ ((ms.flatMap λq=>bD 4 q.1) ++ (ms.take j).flatMap (·.2))).length<=2000000:=by
      rw [ee,ee,aK,nT,vH (λq k=>(d q (List.mem_of_mem_take k)).2.1),oj];omega
     have mu:(bD 2 ms.length ++ ((ms.flatMap λq=>bD 4 q.1) ++ (ms.take (j+1)).flatMap (·.2))).length=(bD 2 ms.length ++ ((ms.flatMap λq=>bD 4 q.1) ++ (ms.take j).flatMap (·.2))).length+512:=(by rw [zY,ee,k.2.1]);have Vx:bs (bD 2 ms.length ++ ((ms.flatMap λq=>bD 4 q.1) ++ (ms.take (j+1)).flatMap (·.2)))=bs (bD 2 ms.length ++ ((ms.flatMap λq=>bD 4 q.1) ++ (ms.take j).flatMap (·.2))) ++ bs (ms[j]).2:=(by rw [zY];simp only [bs,List.map_append]);have r:=yh (aH mu Vx);generalize bD 2 ms.length ++ ((ms.flatMap λq=>bD 4 q.1) ++ (ms.take j).flatMap (·.2))=X at*;have R3:=bj.1.news;obtain⟨A,s⟩:=bP (bs (ms[j]).2);rw [<-s] at aW dD qA R3 bj;have ZU:(Instr.lookup 93 (.map (some m)) (iV ((ms[j]).1:Int)) false).run prog wr= .ok (.agg A.toArray) wr:=(by rw [s];exact(((D.o.later cQ.o).later b).read (ms[j]).1 (CM.get_of_mem dw (List.getElem_mem bq))));have C:=yh s;have bX:=all_oneCell_toArray dD;obtain⟨z,FE⟩:=bP ((wr.alloc (.cells bo 101)).setCells wr.heap.size 0 A);have eh:=bj.2.2;have wX:bW wr z:=(by rw [FE];exact bj.2.1);have pb:=mK aA (λq k=>wX.block q (by have:=(aA.lt q k).2;omega));have R4:∀j u,A[j]? =some u->z.cell? (((aD wr.heap.size 0):Addr).add j)=some u:=(by rw [FE];exact R3);obtain⟨yU,adx,ZV⟩:=kI pb R4 FE;have vl:=λq e=>(aA.lt q e).1;have p:=yh (aH b wX);clear bj n aA b pb R3 R4 wX s mu Vx zY k;generalize (ms[j]).1=K at*;generalize bo=Z at*;go_wp2_with (first|refine wpList_store_mid rfl 101 _ _ rfl wr.heap.size 0 A.toArray rfl rfl ?h1 ?h2 bX ?_|(rw [<-ZV.o];at_builtin;refine wpList_append_own _ rfl _ _ 36 rfl w1.heap.size 5 J (.int .u8 0) 1 1 underlying36 rS gC dE em rfl (by decide) _ _ _ rfl yU.o (aD wr.heap.size 0) 512 512 A rfl ?n0 adx.o ?n2 ?n3 ?n4 ?n5 ?_));case h1=>rw [qA] at eh;simpa using eh
     case n2=>exact dD
     case n3=>unfold maxLen;omega
     case n4=>omega
     case n5=>rw [<-ZV.o];have:=p.o.2.size;omega
     intro x y cN aR jI;rw [<-ZV.o] at aR;have bz:=(p.o.1.trans (p.o.2.mono Wf)).grown aR (by have:=p.o.2.size;omega) (λq e=>vl q e);have fP:zW w1.heap.size y (bD 2 ms.length ++ ((ms.flatMap λq=>bD 4 q.1) ++ (ms.take (j+1)).flatMap (·.2))) (.returned x):=by
      refine⟨x,rfl,?_⟩;rw [r.o.1,r.o.2,<-C.o];simpa [bs] using cN
     have f:=yh (aH fP bz);clear cN aR jI fP bz;go_wp2;go_roundw;case rel=>
      obtain⟨⟨N,E,G⟩,F⟩:=f.o;cases E;exact⟨j+1,by omega,by go_num,G,F⟩
     case measure=>simp [intOf];omega
    .have xB:¬(j:Int)<(ms.length:Int):=(by omega);obtain rfl:j=ms.length:=(by omega);rw [List.take_length] at aA;have f:=yh (aH aA (cQ.o.trans (b.mono adv)));clear aA b;go_wp2;go_ret;exact⟨⟨w1.heap.size,adv,_,rfl,f.o.1⟩,f.o.2⟩
section
namespace B
def Rb (r:Int) (c:Nat):Prop:=c<4611686018427387904->0<=r/\r<=(c:Int)
def Rb.read {r:Int} {c:Nat} (h:Rb r c):Rb (wrap64 (r+1)) (c+1):=by
 intro b;have a:=h (by omega);have e:wrap64 (r+1)=r+1:=by unfold wrap64;omega
 rw [e];omega
def Rb.le {r:Int} {c d:Nat} (h:Rb r c) (hd:c<=d):Rb r d:=by
 intro b;have a:=h (by omega);omega
def ax (w:World) (F:Nat->Prop) (p s:Nat) (S:DS) (c:Nat):Prop:=∃r,aQ w F p s (S.Ee r)/\Rb r c
section
variable {w w':World} {F G:Nat->Prop} {p s c:Nat} {S:DS}
def ax.old (h:ax w F p s S c):Go.Proofs.YtcpdggdfihjhoaaGreat.ax w F p s S:=by obtain⟨r,h,_⟩:=h;exact⟨r,h⟩
def ax.le {d:Nat} (h:ax w F p s S c) (hd:c<=d):ax w F p s S d:=by obtain⟨r,h,a⟩:=h;exact⟨r,h,a.le hd⟩
def ax.ok (h:ax w F p s S c):S.Ok s:=h.old.ok
def ax.lt (h:ax w F p s S c):∀k,F k->k<w.heap.size:=h.old.lt
def ax.aw (h:ax w F p s S c) (k:aa G w w') (hd:∀k,F k->¬G k):ax w' F p s S c:=by obtain⟨r,h,a⟩:=h;exact⟨r,h.aw k hd,a⟩
def ax.later (h:ax w F p s S c) (a:bW w w'):ax w' F p s S c:=h.aw (aa.ah (λ_=>False) a) (λ_ _ h=>h)
def ax.boxed (h:ax w F p s S c) (o:Obj):ax (w.alloc o) F p s S c:=h.later ((bi w.heap.size w).alloc (bR _) o)
def ax.mono (h:ax w F p s S c) (a:∀k,F k->G k) (b:∀k,G k->k<w.heap.size):ax w G p s S c:=by obtain⟨r,h,d⟩:=h;exact⟨r,h.mono a b,d⟩
def ax.more (h:ax w' F p s S c):ax w' (more F w w') p s S c:=by obtain⟨r,h,a⟩:=h;exact⟨r,h.more,a⟩
def p8 (h:ax w F p s S c):Calls prog 47 #[pQ p] w λe w'=>e= .returned (iV s)/\w'=w:=Go.Proofs.YtcpdggdfihjhoaaGreat.p8 h.old
def zz (h:ax w F p s S c):Calls prog 35 #[pQ p] w λe w'=>e= .returned (.bool (S.fuse == 0))/\w'=w:=Go.Proofs.YtcpdggdfihjhoaaGreat.zz h.old
def wN (h:ax w F p s S c):Calls prog 22 #[pQ p] w λe w'=>e= .returned (iV S.life)/\w'=w:=Go.Proofs.YtcpdggdfihjhoaaGreat.wN h.old
def zZ (h:ax w F p s S c):Calls prog 48 #[pQ p] w λe w'=>e= .returned (iV (wrap64 (S.life+1)))/\ax w' F p s S.take c/\aa F w w':=by
 obtain⟨r,h,d⟩:=h;refine(Vk h).mono ?_;rintro e w' ⟨rfl,a,b⟩;exact⟨rfl,⟨r,a,d⟩,b⟩
def oI (h:ax w F p s S c) (x:Int) (a:S.fuse=0):Calls prog 39 #[pQ p,iV x] w λe w'=>e= .returned (.tuple #[.slice none 0 0,iV 3])/\w'=w:=Go.Proofs.YtcpdggdfihjhoaaGreat.oI h.old x a
def Aa (h:ax w F p s S c) (k:Nat) (i:k<s) (aU:S.puts.length+1<=4000000000000) (g:S.fuse≠0):
  Calls prog 39 #[pQ p,iV (k:Int)] w λe w'=>∃v,e= .returned (.tuple #[v,iV 0])/\Out w.heap.size w' (S.now k) v/\ax w' F p s S (c+1)/\aa F w w':=by
 obtain⟨r,h,j⟩:=h;have a:=tO h (k:Int) aU;rw [Rh (S:=S.Ee r) g i] at a;refine a.mono ?_;rintro e w' ⟨v,rfl,b,d,f⟩;exact⟨v,rfl,b,⟨_,d,j.read⟩,f⟩
def Eu (h:ax w F p s S c) (x:Int) (a:Option Addr) (n k:Nat) (l:List Int) (i:Src w a n l) (aU:S.puts.length+1<=4000000000000):
  Calls prog 51 #[pQ p,iV x, .slice a n k] w λe w'=>e= .returned (iV (S.wr s x n l).1)/\ax w' (Go.Proofs.YtcpdggdfihjhoaaGreat.more F w w') p s (S.wr s x n l).2 c/\aa F w w':=by
 obtain⟨r,h,g⟩:=h;have b:=vp h x a n k l i aU;rw [Rj] at b;refine fQ b λw' d f=>?_;exact⟨rfl,⟨r,d,g⟩,f⟩
def vI (h:ax w F p s S c) (aU:S.puts.length+1<=4000000000000):
  Calls prog 52 #[pQ p] w λe w'=>e= .returned (iV (S.fl s).1)/\ax w' F p s (S.fl s).2 c/\aa F w w':=by
 obtain⟨r,h,f⟩:=h;have a:=DC h aU;rw [Rk] at a;refine fQ a λw' b d=>?_;exact⟨rfl,⟨r,b,f⟩,d⟩
def ZW (h:ax w F p s S c) (aU:S.puts.length+1<=4000000000000) (a:Option Addr) (n k:Nat) (l:List P3) (DT:ll w a n l) (g:n<=140737488355328) (f:∀x,a=some x->¬F x.block):
  Calls prog 28 #[pQ p, .slice a n k] w λe w'=>e= .returned (.tuple #[])/\ax w' F p s (S.iA s l) c/\aa F w w':=by
 obtain⟨r,h,i⟩:=h;refine(Qx ww wF h (by show S.puts.length+1<=_;omega) a n k l DT g f).mono ?_;rintro e w' ⟨rfl,b,d⟩;exact⟨rfl,⟨r,b,i⟩,d⟩
def Kd (h:ax w F p s S c):Calls prog 33 #[pQ p] w λe w'=>∃g c,e= .returned (.slice (some (aD g 0)) (s*512) c)/\w.heap.size<=g/\ay w' 5 g c (bs S.im)/\bW w w':=Go.Proofs.YtcpdggdfihjhoaaGreat.Kd h.old
def rl (h:ax w F p s S c) (aU:S.puts.length<=140737488355328) (b:c<4611686018427387904):Calls prog 37 #[pQ p] w λe w'=>∃r:Nat,e= .returned (.agg #[iV (r:Int),iV S.writes,iV S.flushes,iV S.refused,iV (S.puts.length:Int)])/\r<=c/\ax w' F p s S r/\bW w w':=by
 obtain⟨r,h,d⟩:=h;have BR:=d b;obtain⟨k,rfl⟩:∃k:Nat,r=(k:Int):=⟨r.toNat,by omega⟩;refine(JC p s F _ w h aU).mono ?_;rintro e w' ⟨rfl,a⟩;exact⟨k,rfl,by omega,ax.later ⟨_,h,λ_=>by omega⟩ a,a⟩
def R5 (S:DS) (r:Int) (s f:Nat) (num:Int) (a:S.fuse≠0):zx (S.Ee r) s f num=((dg S s f num).1,(dg S s f num).2.Ee (wrap64 (wrap64 (r+1)+1))):=by
 unfold zx dg;rw [aB a];simp only [VK];have e:(S.Ee r).read.read=S.Ee (wrap64 (wrap64 (r+1)+1)):=rfl;simp only [e,Rj];split
 .rfl
 .split
  .rfl
  .simp only [Rk]
def Wi (h:ax w F p s S c) (f:Nat) (n:Int) (aU:S.puts.length+1<=4000000000000) (d:S.fuse≠0) (i:f+1<s) (ar:Bytes (S.now f)) (bd:Bytes (S.now (f+1))):
  Calls prog 153 #[kJ p f n] w λe w'=>e= .returned (.tuple #[iV ((il (S.now f) (S.now (f+1))).1:Int),iV ((il (S.now f) (S.now (f+1))).2.1:Int),iV ((il (S.now f) (S.now (f+1))).2.2:Int)])/\ax w' F p s S (c+2)/\aa F w w':=by
 obtain⟨r,h,g⟩:=h;refine(Kc h f n aU d i ar bd).mono ?_;rintro e w' ⟨rfl,a,b⟩;exact⟨rfl,⟨_,a,g.read.read⟩,b⟩
def tZ (h:ax w F p s S c) (f n:Int):Calls prog 103 #[kJ p f n] w λe w'=>e= .returned (iV (cy S s f n))/\bW w w':=Go.Proofs.YtcpdggdfihjhoaaGreat.tZ h.old f n
end
def KJ {w:World} {F:Nat->Prop} {p s c:Nat} {S:DS} (h:ax w F p s S c) (f:Nat) (n:Int) (E T:Int) (aU:S.puts.length+1<=4000000000000) (a:S.fuse=0):
  Calls prog 105 #[kJ p f n,iV E,iV T] w λe w'=>e= .returned (iV 3)/\ax w' F p s S c/\aa F w w':=by
 obtain⟨r,h,d⟩:=h;go_in;go_wp2_with fail;refine(NL (h.boxed (.cells #[.pointer (some ⟨p,0,none⟩), .int .i64 f, .int .i64 n] 144)) f n aU a).mono ?_;rintro e w1 ⟨rfl,hd,b⟩;go_wp2;go_ret;exact⟨rfl,⟨r,hd,d⟩,(aa.boxed (w:=w) F (.cells #[.pointer (some ⟨p,0,none⟩), .int .i64 f, .int .i64 n] 144)).trans b (λ_ h=> .inl h)⟩
def KK {w:World} {F:Nat->Prop} {p s c:Nat} {S:DS} (h:ax w F p s S c) (f:Nat) (n:Int) (E T:Nat) (i:E<=1073741824) (j:T<=1073741824) (aU:S.puts.length+2<=4000000000000) (l:f+1<s) (ar:Bytes (S.now f)) (bd:Bytes (S.now (f+1))):
  Calls prog 105 #[kJ p f n,iV (E:Int),iV (T:Int)] w λe w'=>e= .returned (iV (dg S s f ((E:Int)*4294967296+T)).1)/\ax w' (more F w w') p s (dg S s f ((E:Int)*4294967296+T)).2 (c+2)/\aa F w w':=by
 by_cases b:S.fuse=0
 .refine(KJ h f n E T (by omega) b).mono ?_;rintro e w' ⟨rfl,a,d⟩;unfold dg;rw [aG b];exact⟨rfl,a.more.le (by omega),d⟩
 .obtain⟨r,h,k⟩:=h;have a:=NO h f n E T i j aU b l ar bd;rw [(R5 S r s f ((E:Int)*4294967296+T) b)] at a;refine fQ a λw' d g=>?_;exact⟨rfl,⟨_,d,k.read.read⟩,g⟩
end B
end
section
namespace B
def ax.from {w:World} {F:Nat->Prop} {p s:Nat} {S:DS} (h:ax w2 (Go.Proofs.YtcpdggdfihjhoaaGreat.more F w1 w2) p s S c) (b:∀k,F k->k<w.heap.size) (d:w.heap.size<=w1.heap.size) (e:w1.heap.size<=w2.heap.size):ax w2 (Go.Proofs.YtcpdggdfihjhoaaGreat.more F w w2) p s S c:=
 h.mono (λk a=>by rcases a with a|a;exact .inl a;exact .inr ⟨by omega,a.2⟩) (cK b (by omega))
def ax.wide {w:World} {F:Nat->Prop} {p s:Nat} {S:DS} (h:ax w2 (Go.Proofs.YtcpdggdfihjhoaaGreat.more F w w1) p s S c) (b:∀k,F k->k<w.heap.size) (d:w.heap.size<=w1.heap.size) (e:w1.heap.size<=w2.heap.size):ax w2 (Go.Proofs.YtcpdggdfihjhoaaGreat.more F w w2) p s S c:=
 h.mono (λk a=>by rcases a with a|a;exact .inl a;exact .inr ⟨a.1,by omega⟩) (cK b (by omega))
section
variable {w:World} {F:Nat->Prop} {p s l cR:Nat} {S:DS} {L:LG}
def ub (h:ax w F p s S cR) (a:cY w l p L):
  Calls prog 113 #[pQ l] w λe w'=>e= .returned (.bool (L.dead S))/\bW w w':=Go.Proofs.YtcpdggdfihjhoaaGreat.ub h.old a
def jx (h:ax w F p s S cR) (a:cY w l p L):
  Calls prog 160 #[pQ l] w λe w'=>e= .returned (iV (L.bm S))/\bW w w':=Go.Proofs.YtcpdggdfihjhoaaGreat.jx h.old a
def Ac (h:ax w F p s S cR) (b:cY w l p L) (j:¬F l) (aU:S.puts.length+1<=4000000000000):
  Calls prog 129 #[pQ l] w λe w'=>e= .returned (iV (L.sync S s).1)/\ax w' F p s (L.sync S s).2 cR/\cY w' l p L/\aa F w w':=by
 have g:=jx h b;have f:=b;have c:=h;unfold LG.sync;generalize L.bm S=U at*;go_in;by_cases q:U=0
 .subst q;rw [aB (by decide)];go_wp2_with fail;refine bJ g λw1 a=>?_;have b:=f.later a;have k:=b.c0;go_wp2_with fail;refine(vI (c.later a) aU).mono ?_;rintro e m ⟨rfl,hd,i⟩;go_wp2;go_ret;exact⟨rfl,aH hd (aH (b.aw i j) ((aa.ah F a).trans i (λ_ h=> .inl h)))⟩
 .rw [aG q];have d:(U == 0)=false:=by rw [fy];exact q
  go_wp2_with fail;refine bJ g λw1 a=>?_;go_wp2;go_ret;exact⟨rfl,aH (c.later a) (aH (f.later a) (aa.ah F a))⟩
end
end B
end
section
abbrev PP (p l m:Nat) (y:LY) (busy:Bool):Array Value:= #[pQ p,pQ l,iV (y.log:Int),iV (y.home:Int),iV (y.blocks:Int),iV (y.nodes:Int),iV (y.data:Int), .map (some m), .bool busy]
def nx (w:World) (q p l m:Nat) (y:LY) (busy:Bool):Prop:=w.heap[q]? =some (.cells (PP p l m y busy) 95 (0,0))
section
variable {w w':World} {q p l m:Nat} {y:LY} {busy:Bool}
def nx.lt (h:nx w q p l m y busy):q<w.heap.size:=aq h
def nx.aw (h:nx w q p l m y busy) (k:aa G w w') (a:¬G q):nx w' q p l m y busy:=(k.block q h.lt a).trans h
def nx.later (h:nx w q p l m y busy) (a:bW w w'):nx w' q p l m y busy:=(a.block q h.lt).trans h
def nx.c0 (h:nx w q p l m y busy):w.cell? (aD q 0)=some (pQ p):=aM h
def nx.c1 (h:nx w q p l m y busy):w.cell? (aD q 1)=some (pQ l):=bG h
def nx.c3 (h:nx w q p l m y busy):w.cell? (aD q 3)=some (iV (y.home:Int)):=fU h
def nx.c4 (h:nx w q p l m y busy):w.cell? (aD q 4)=some (iV (y.blocks:Int)):=gH h
def nx.c7 (h:nx w q p l m y busy):w.cell? (aD q 7)=some (.map (some m)):=rH h
def nx.c8 (h:nx w q p l m y busy):w.cell? (aD q 8)=some (.bool busy):=DG h
end
def GR {w:World} {q p l m:Nat} {y:LY} {a:Bool} (h:nx w q p l m y a) (b:Nat) (d:y.home+b<=1000000):
  Calls prog 159 #[pQ q,iV (b:Int)] w λe w'=>e= .returned (iV ((y.home:Int)+(b:Int)))/\w'=w:=by
 have c:=h.c3;go_in;go_wp2;go_ret;exact⟨rfl,rfl⟩
def jA (S:DS) (s h:Nat) (q:Nat×List Int) (a:CM):aE S s h (q :: a)=if (S.wr s ((h+q.1:Nat):Int) 512 q.2).1≠0 then S.wr s ((h+q.1:Nat):Int) 512 q.2 else aE (S.wr s ((h+q.1:Nat):Int) 512 q.2).2 s h a:=rfl
def fw (S:DS) (s h:Nat):∀(a b:CM),aE S s h (a ++ b)=if (aE S s h a).1≠0 then aE S s h a else aE (aE S s h a).2 s h b
 | [],b=>by simp [aE]
 |q :: qs,b=>by
  rw [List.cons_append,jA,jA];by_cases e:(S.wr s ((h+q.1:Nat):Int) 512 q.2).1≠0
  .rw [aG e,aG e,aG e]
  .rw [aB e,aB e];exact fw _ s h qs b
def eG (S:DS) (s h:Nat):∀(ms:CM),(aE S s h ms).2.puts.length<=S.puts.length+ms.length:=λms=>by
 induction ms generalizing S with
 |nil=>exact bR _
 |cons q c a=>
  have b:=jk S s ((h+q.1:Nat):Int) 512 q.2;unfold aE;split
  .rw [List.length_cons];omega
  .have:=a (S.wr s ((h+q.1:Nat):Int) 512 q.2).2;rw [List.length_cons];omega
def sd {w:World} {p q l m:Nat} {y:LY} {G:Bool} {ms:CM} (hd:B.ax w F p s S c) (hs:nx w q p l m y G) (C:Ch w m ms) (hq:¬F q) (Uy:¬F m) (b:∀x∈ms,y.home+x.1<s) (aU:S.puts.length+3000<=4000000000000):
  Calls prog 112 #[pQ q] w λe w'=>e= .returned (iV (aE S s y.home ms).1)/\B.ax w' (more F w w') p s (aE S s y.home ms).2 c/\aa F w w':=by
 obtain⟨h1,lG,I,dw,Kw⟩:=eQ (wW C) C.small C.len C.ok hd.ok.hi;have ox:(CM.keys ms).length=ms.length:=by simp [CM.keys]
 rw [ox] at h1;obtain⟨R2,M,iM,HD,HS,HM⟩:=jH jm hs.c7 (yh hd.lt) (yh hd) (yh hs) (yh C);clear hd hs C;go_in;go_wp2_with fail;refine h1.mono ?_;rintro e w1 ⟨a,ca,rfl,be,ar⟩;obtain⟨dE,Wg,R6,pd,P,cQ⟩:=jH ar.size (yh be) (yh (HD.o.later ar)) (yh (HS.o.later ar)) (yh (HM.o.later ar)) (yh ar);clear h1 be ar HD HS HM M;go_wp2;go_loopw [13] (λi wr=>∃j:Nat,j<=ms.length/\i=iV (j:Int)/\(aE S s y.home (ms.take j)).1=0/\B.ax wr (more F w1 wr) p s (aE S s y.home (ms.take j)).2 c/\aa F w1 wr) (λi _=>ms.length-(intOf i).toNat);case atStart=>exact⟨0,dL _,rfl,rfl,R6.o.more,aa.refl _ _⟩
 case round=>
  clear R6;obtain⟨j,hj,rfl,J,hd,fb⟩:=hrel;have W:=fb.size;by_cases bq:j<ms.length
  .have cC:(j:Int)<(ms.length:Int):=(by omega);have XJ:(0:Int)<=(j:Int):=(by omega);obtain⟨g,rfl,hg,X⟩:=Wg.o (by simp [CM.keys];intro e;rw [e] at bq;simp at bq);have U:¬F g:=λT=>by have:=iM.o _ T;omega
   have H:=(X.agree (fb.block g X.lt U)).cell (Et bq);have nU:=I _ (List.getElem_mem bq);have ez:=b _ (List.getElem_mem bq);have lf:=pd.o.aw fb hq;obtain⟨M,bj,aW,dD⟩:=cP lf.c7 (eY wr nU.2.1) (eU nU.2.1) (cF (ms[j]).2);have qA:(bs (ms[j]).2).length=512:=(by rw [bs,jF,nU.2.1]);have sT:=eG S s y.home (ms.take j);have i7:aE S s y.home (ms.take (j+1))=(aE S s y.home (ms.take j)).2.wr s ((y.home+(ms[j]).1:Nat):Int) 512 (ms[j]).2:=by
    rw [List.take_succ_eq_append_getElem bq,fw,aB (λh=>h J)];simp only [aE];split
    .rfl
    .rename_i h;generalize DS.wr _ _ _ _ _=Z at*;rw [<-(Decidable.byContradiction h)]
   have lO:aE S s y.home ms=if (aE S s y.home (ms.take (j+1))).1≠0 then aE S s y.home (ms.take (j+1)) else aE (aE S s y.home (ms.take (j+1))).2 s y.home (ms.drop (j+1)):=by
    conv=>lhs;rw [<-List.take_append_drop (j+1) ms]
    exact fw S s y.home _ _
   obtain⟨r,FE⟩:=bP ((wr.alloc (.cells bo 101)).setCells wr.heap.size 0 (bs (ms[j]).2));have wX:bW wr r:=(by rw [FE];exact bj.2.1);have aV:kh r 101 wr.heap.size (ms[j]).2:=(by rw [FE];exact bj.1);have fV:Src r (some (aD wr.heap.size 0)) 512 (ms[j]).2:=by
    have:=aV.src (o:=0) (n:=512) (by omega);rwa [List.drop_zero,nC (by omega)] at this
   have t:=lf.later wX;have GS:=λ(wx:World) (O:bW r wx)=>GR (t.later O) (ms[j]).1 (by omega);have ZX:=λ(wx:World) (O:bW r wx)=>B.Eu ((hd.later wX).later O) ((y.home+(ms[j]).1:Nat):Int) (some (aD wr.heap.size 0)) 512 512 (ms[j]).2 (fV.later O) (by rw [oj] at sT;omega);rw [<-i7,Int.natCast_add] at ZX;have L:=t.c0;obtain⟨A,N⟩:=bP (bs (ms[j]).2);rw [<-N] at aW dD qA FE;have ZU:(Instr.lookup 93 (.map (some m)) (iV ((ms[j]).1:Int)) false).run prog wr= .ok (.agg A.toArray) wr:=(by rw [N];exact((P.o.aw fb Uy).read (ms[j]).1 (CM.get_of_mem dw (List.getElem_mem bq))));have eh:=bj.2.2;rw [<-N] at eh;obtain⟨bX,E,HH,z,u,HK,HE⟩:=nD (all_oneCell_toArray dD) (yh t) (yh GS) (yh ZX) (yh wX) (yh fb) (yh lO);clear bj X hd fb lf t wX aV fV N nU GS ZX i7 lO sT J;obtain⟨Y,R⟩:=bP (aE S s y.home (ms.take (j+1)));rw [<-R] at z HE;have HY:=yh R;clear R;generalize (ms[j]).1=K at*;generalize bo=Z at*;go_wp2_with (refine wpList_store_mid rfl 101 _ _ rfl wr.heap.size 0 A.toArray rfl rfl ?h1 ?h2 bX ?_);case h1=>first|simpa using eh|(rw [qA] at eh;simpa using eh)
   case h2=>simpa using aW
   have R7:=(yh FE).out;subst R7;have KL:¬more F w1 wr q:=λh=>by
    rcases h with h|h
    .exact hq h
    .have:=pd.o.lt;omega
   have R8:Yh (∀k,F k->k<w1.heap.size):=λk T=>by have:=iM.o k T;omega
   generalize R7:(wr.alloc (.cells Z 101)).setCells wr.heap.size 0 A=r at*;clear R7;have hzS:=u.o.size;by_cases D:Y.1=0
   .have dY:(Y.1 != 0)=false:=(by rw [D];rfl);go_region_held3 (λw'=>w'.cell? (aD q 0)=some (pQ p))
     (first|exact L|exact UP)
     (first
      |(go_at_call 159;refine(HH.o _ (ai (bi _ _))).mono ?_;rintro e wy ⟨rfl,MM⟩;have Ev:=MM.symm;subst Ev;clear MM)
      |(go_at_call 51;refine(z.o _ (ai (bi _ _))).mono ?_;rintro e w5 ⟨rfl,jJ,dX⟩;have UP:=((E.o.later (ai (bi _ _))).aw dX KL).c0))
    have pT:r.heap.size<=w5.heap.size:=dX.size;have d:=jJ.mono (λk b=>by
     rcases b with (b|b)|b
     .exact .inl b
     .exact .inr ⟨b.1,by omega⟩
     .have:r.heap.size<=k:=b.1;exact .inr ⟨by omega,b.2⟩) (cK (F:=F) (w:=w1) R8.o (by omega))
    have f:=(HK.o.trans (aa.ah (λ_=>False) (ai u.o)) (λ_ h=>h.elim)).trans dX (λk b=>by
     rcases b with b|b
     .exact .inl b
     .exact .inr b.1)
    obtain⟨v,UQ⟩:=bV (aH d f) D;clear jJ dX UP d f D L M H;go_wp2;go_roundw;case rel=>exact⟨j+1,by omega,by go_num,by rw [<-HY.o];exact UQ.o,by rw [<-HY.o];exact v.o.1,v.o.2⟩
    case measure=>simp [intOf];omega
   .have dY:(Y.1 != 0)=true:=(by rw [gg];exact D);go_region_held3 (λw'=>w'.cell? (aD q 0)=some (pQ p))
     (first|exact L|exact UP)
     (first
      |(go_at_call 159;refine(HH.o _ (ai (bi _ _))).mono ?_;rintro e wy ⟨rfl,MM⟩;have Ev:=MM.symm;subst Ev;clear MM)
      |(go_at_call 51;refine(z.o _ (ai (bi _ _))).mono ?_;rintro e w5 ⟨rfl,jJ,dX⟩;have UP:=((E.o.later (ai (bi _ _))).aw dX KL).c0))
    have pT:r.heap.size<=w5.heap.size:=dX.size;have d:=jJ.mono (λk b=>by
     rcases b with (b|b)|b
     .exact .inl b
     .exact .inr ⟨b.1,by omega⟩
     .have:r.heap.size<=k:=b.1;exact .inr ⟨by omega,b.2⟩) (cK (F:=F) (w:=w1) R8.o (by omega))
    have f:=(HK.o.trans (aa.ah (λ_=>False) (ai u.o)) (λ_ h=>h.elim)).trans dX (λk b=>by
     rcases b with b|b
     .exact .inl b
     .exact .inr b.1)
    have Q:=HE.o;rw [aG D] at Q;obtain⟨v,HEq⟩:=bV (aH (d.from iM.o dE (by omega)) ((aa.ah F cQ.o).trans f (λ_ h=> .inl h))) Q;clear jJ dX UP d f D L M H Q;go_wp2;go_ret;exact⟨by rw [HEq.o];rfl,by rw [HEq.o];exact v.o.1,v.o.2⟩
  .have cC:¬(j:Int)<(ms.length:Int):=(by omega);obtain rfl:j=ms.length:=(by omega);rw [List.take_length] at J hd;obtain⟨HZ,v⟩:=bV J (aH (hd.from iM.o dE W) ((aa.ah F cQ.o).trans fb (λ_ h=> .inl h)));clear hd fb J;go_wp2;go_ret;exact⟨by rw [HZ.o];rfl,v.o⟩
end
def Wj (w:World):Calls prog 110 #[.bool true] w λe w'=>e= .returned (.tuple #[])/\w'=w:=by
 go_in;go_wp2
 go_end0
 exact⟨rfl,rfl⟩
abbrev R9:List PanicEntry:= [{v:= .iface 49 (iV 6),recovered:=false}]
def Wk (w:World):Calls prog 110 #[.bool false] w λe w'=>e= .panicked R9/\w'=w:=by
 go_in;go_wp2;exact⟨rfl,rfl,rfl⟩
def sU (b o k c:Nat) (l:List Int) (w1:World) (g:Src w1 (some (aD b o)) k l) (f:Bytes l) (dW:k<=4):
  Calls prog 196 #[.slice (some (aD b o)) k c] w1 λe w'=>e= .returned (iV ((le l:Nat):Int))/\w'=w1:=by
 have w:l.length=k:=g.1;have n:Yh (∀i,i<k->w1.cell? ⟨b,o+i,none⟩=some (.int .u8 (l.getD i 0))):=λi s=>by
  have:=g.2.2 _ rfl i s;rwa [aN] at this
 clear g;go_in;go_wp2;go_loopw [3,8] (λr i wr=>∃j:Nat,j<=k/\i=iV j/\wr=w1/\r=iV ((le (l.take j):Nat):Int)) (λ_ i _=>k-(intOf i).toNat);case atStart=>exact⟨0,dL _,rfl,rfl,by simp [le]⟩
 case round=>
  obtain⟨j,v,rfl,On,rfl⟩:=hrel;subst On;by_cases bq:j<k
  .have cC:(j:Int)<(k:Int):=(by omega);have q:=n.o j bq;obtain⟨x,u,jL⟩:∃x:Nat,l.getD j 0=(x:Int)/\x<256:=by
    have:=f.getD j;exact⟨(l.getD j 0).toNat,by omega,by omega⟩
   have iB:=lK (l:=l) (k:=j) (by omega);have m:le (l.take j)<2 ^ (8*j):=by
    have:=lE (f.take j);have e:(l.take j).length=j:=(by simp;omega);rwa [e] at this
   have d:le (l.take (j+1))<9223372036854775808:=CS (f.take _) (by simp;omega);rw [u] at q iB;simp only [mx] at iB;rw [iB] at d;have Nr:=Ri (8*j) _ x m d;rw [<-iB] at Nr;have t:=Vz (x:Int) j (by omega);have Zr:((x:Int)*2 ^ (8*j))=((2 ^ (8*j)*x:Nat):Int):=(by rw [Int.natCast_mul,Int.natCast_pow,Int.mul_comm];rfl);have xB:((2 ^ (8*j)*x:Nat):Int)<9223372036854775808:=(by omega);have UO:(0:Int)<=8*(j:Int):=(by omega);generalize 2 ^ (8*j)*x=Y at*;generalize le (l.take j)=A at*;have a:=yh Nr;clear m d iB;go_wp2;go_roundw;case rel=>exact⟨j+1,by omega,by go_num,trivial,by rw [<-a.o]⟩
   case measure=>simp [intOf];omega
  .have cC:¬(j:Int)<(k:Int):=(by omega);have p:l.take j=l:=nC (by omega);rw [p] at*;go_wp2;go_ret;exact⟨rfl,rfl⟩
def Oo {l m:Nat} {y:LY} {a:Bool} (hd:B.ax w F p s S c) (i:nx w q p l m y a) (g:cY w l p L) (f:L.Ok s) (d:L.begun=true):
  Calls prog 58 #[pQ q] w λe w'=>e= .returned (.bool (L.dead S))/\bW w w':=by
 have b:=Gu hd.old g f;have n:((L.room S).2 == 3)=L.dead S:=by
  unfold LG.room LG.bm;cases yR:L.dead S
  .rw [aB (show¬false=true by decide),aG d,aB (λh=>h rfl)];rfl
  .rw [aG rfl,aG (by decide)];rfl
 have k:=i.c1;generalize (L.room S).2=E at*;generalize (L.room S).1=j at*;go_in;go_wp2_with fail;refine bJ b λw1 ar=>?_;go_wp2;go_ret;exact⟨rfl,ar⟩
def rn (w:World):(w.alloc (.cells bo 101)).there w.heap.size 0 512:=cH (heap_alloc_new _ _) cT
def Ad (a:Option Addr) (c:Nat) (w:World):(Instr.arrayAt 101 (.slice a 512 c)).run prog w= .ok (.pointer a) w:=by
 simp [Instr.arrayAt,run_underlying underlying101]
def kt (h:w.there g 0 n) (c:w'.heap[g]? =w.heap[g]?):w'.there g 0 n:=by
 intro j e;obtain⟨d,b⟩:=h j e;refine⟨?_,?_⟩
 .rw [World.cell?_of_block (w:=w) (w':=w') (a:=⟨g,0+j,none⟩) c];exact d
 .unfold World.frozen? at b⊢;rw [show w'.heap[g]? =w.heap[g]? from c];exact b
def Ew {l m:Nat} {y:LY} {a:Bool} {ov:CM} (i:nx w q p l m y a) (g:Ch w m ov) (b:Nat) {c:List Int} (f:CM.get ov b=some c):
  Calls prog 115 #[pQ q,iV (b:Int)] w λe w'=>e= .returned (.tuple #[cV c,iV 0])/\bW w w':=by
 have nU:=g.len _ (CM.get_mem f);have R2:=jm;have bN:bW w (w.alloc (.cells bo 101)):=(bi _ w).alloc (bR _) _;have r:=(i.later bN).c7;have gX:=(g.later bN).look b nU.1;rw [f] at gX;have bj:=eY (w.alloc (.cells bo 101)) nU.2.1;rw [World.size_alloc] at bj;have aW:=eU nU.2.1;have dD:=cF c;have qA:(bs c).length=512:=by rw [bs,jF,nU.2.1]
 obtain⟨A,d⟩:=bP (bs c);have sV:(Instr.lookup 93 (.map (some m)) (iV (b:Int)) true).run prog (w.alloc (.cells bo 101))= .ok (.tuple #[.agg A.toArray, .bool true]) (w.alloc (.cells bo 101)):=by rw [d];exact gX
 have Bu:(((w.alloc (.cells bo 101)).alloc (.cells bo 101)).setCells (w.heap.size+1) 0 (bs c)).rangeAt (w.heap.size+1) 0 (bs c):=λj v n=>by
  have:=bj.1.news j v n;rwa [aN] at this
 rw [<-d] at aW dD qA bj Bu;have Sa:=kt (rn w) (bj.2.1.block _ (by simp));have my:=yh (World.rangeAt_setCells_same _ w.heap.size 0 A (by rw [qA];exact Sa));have bX:=all_oneCell_toArray dD;have eV:=bN.trans (bj.2.1.mono (by omega));have jY:=yh (eV.trans ((aa.setCells (F:=λj=>j=w.heap.size) rfl A 0 _).below (λj s=>by omega) eV.size));have KM:=bj.2.2;have k:=yh d;clear gX bj i g bN eV dD f nU d;generalize bo=Z at*;go_in;go_wp2_with (first|refine wpList_load_mid rfl 101 _ rfl (w.heap.size+1) 0 rfl A _ Bu underlying101 rfl aW ?_|refine wpList_store_mid rfl 101 _ _ rfl (w.heap.size+1) 0 A.toArray rfl rfl ?h1 ?h2 bX ?_|refine wpList_store_mid rfl 101 _ _ rfl w.heap.size 0 A.toArray rfl rfl ?h3 ?h4 bX ?_);case h1=>first|simpa using KM|(rw [qA] at KM;simpa using KM)
 case h2=>simpa using aW
 case h3=>
  have e:A.toArray.size=512:=by simpa using qA
  rw [e];exact Sa
 case h4=>simpa using aW
 refine bodyPost_ret (results_cell_tmp (P:=prog) rfl _ _ w.heap.size A _ _ rfl rfl my.out underlying101 rfl aW) rfl ⟨?_,jY.out⟩;show _=Ending.returned (.tuple #[.agg (bs c).toArray,iV 0]);rw [<-k.o];rfl
def B3 {l m:Nat} {y:LY} {g:Bool} {ov:CM} (hd:B.ax w F p s S cR) (D:nx w q p l m y g) (J:Ch w m ov) (R:¬F q) (b:Nat) (i:b<2048) (I:CM.get ov b=none) (r:y.home+b<s) (O:S.fuse≠0) (aU:S.puts.length+1<=4000000000000):
  Calls prog 115 #[pQ q,iV (b:Int)] w λe w'=>e= .returned (.tuple #[cV (S.now (y.home+b)),iV 0])/\B.ax w' F p s S (cR+1)/\aa F w w':=by
 have R2:=jm;have Kw:=hd.ok.hi;have bN:bW w (w.alloc (.cells bo 101)):=(bi _ w).alloc (bR _) _;have H:=(D.later bN).c7;have gX:=(J.later bN).look b i;rw [I] at gX;have sV:(Instr.lookup 93 (.map (some m)) (iV (b:Int)) true).run prog (w.alloc (.cells bo 101))= .ok (.tuple #[.agg bo, .bool false]) (w.alloc (.cells bo 101)):=gX;have bj:=eY (w.alloc (.cells bo 101)) (bH 512);rw [World.size_alloc] at bj;have Ae:=eU (bH 512);have GT:=all_oneCell_toArray (cF (zs 512));have vJ:=bj.2.2;have Sb:(bs (zs 512)).toArray=bo:=rfl;obtain⟨f,ZY⟩:=bP (bs (zs 512));rw [<-ZY] at bj Ae GT vJ Sb;have C:f.length=512:=by rw [ZY,bs,jF,bH]
 obtain⟨c,Sc⟩:=bP (((w.alloc (.cells bo 101)).alloc (.cells bo 101)).setCells (w.heap.size+1) 0 f);have Wl:bW w c:=by rw [Sc];exact bN.trans (bj.2.1.mono (by omega))
 have Sd:c.there w.heap.size 0 512:=by rw [Sc];exact kt (rn w) (bj.2.1.block _ (by simp))
 have ZZ:w.heap.size<c.heap.size:=by
  have:=bj.2.1.size;rw [Sc];rw [World.size_alloc] at this;omega
 have a:=D.later Wl;have G:=a.c0;have GS:=λ(wx:World) (i:bW c wx)=>GR (a.later i) b (by omega);have vK:=λ(wx:World) (i:bW c wx)=>B.Aa ((hd.later Wl).later i) (y.home+b) r aU O;rw [Int.natCast_add] at vK;obtain⟨M,Wm,z,x,t,iM,Z0,d⟩:=ahw GS vK a Sd Wl hd.lt Sc (bA hd.ok (y.home+b) r);clear gX bj D J bN Wl hd a GS vK Sd I Sc ZY;rw [<-Sb] at R2 H sV vJ Z0;clear Sb;go_in;go_wp2_with (refine wpList_store_mid rfl 101 _ _ rfl (w.heap.size+1) 0 f.toArray rfl rfl ?h1 ?h2 GT ?_);case h1=>first|simpa using vJ|(rw [C] at vJ;simpa using vJ)
 case h2=>simpa using Ae
 have Z1:=Z0.o;subst Z1;generalize On:((w.alloc (.cells f.toArray 101)).alloc (.cells f.toArray 101)).setCells (w.heap.size+1) 0 f=c at*;clear On sV H vJ Z0;go_region_held3 (λw'=>w'.cell? (aD q 0)=some (pQ p))
  (first|exact G|exact UP)
  (first
   |(go_at_call 159;refine(M.o _ (ai (bi _ _))).mono ?_;rintro e U ⟨rfl,MM⟩;have Ev:=MM.symm;subst Ev;clear MM)
   |(go_at_call 39;refine(Wm.o _ (ai (bi _ _))).mono ?_;rintro e w5 ⟨v,rfl,Q,jJ,dX⟩;have UP:=((z.o.later (ai (bi _ _))).aw dX R).c0))
 obtain⟨T,N,rfl,Af,Z2⟩:=Q;rw [d.o] at Af⊢;obtain⟨E,K,rfl⟩:=cZ Af (by omega);have Zy:=Ad (some (aD E K)) N;have Bu:=nK Af;have aW:=eU d.o;have dD:=cF (S.now (y.home+b));obtain⟨A,n⟩:=bP (bs (S.now (y.home+b)));rw [<-n] at Bu aW dD;have qA:A.length=512:=by rw [n,bs,jF,d.o]
 have bX:=all_oneCell_toArray dD;have KN:¬F w.heap.size:=λh=>by have:=iM.o _ h;omega
 have Se:=kt x.o (dX.block _ ZZ KN);have my:=yh (World.rangeAt_setCells_same w5 w.heap.size 0 A (by rw [qA];exact Se));have ez:=aa.setCells (F:=λj=>j=w.heap.size) rfl A 0 w5;have u:=yh (jJ.aw ez (λk r e=>KN (e▸r)));obtain⟨UI,L⟩:=bV ((((aa.ah F t.o).trans (aa.ah (λ_=>False) (ai (bi c.heap.size c))) (λ_ h=>h.elim)).trans dX (λ_ h=> .inl h)).trans ez (λk e=> .inr (by omega)):aa F w (w5.setCells w.heap.size 0 A)) n;clear jJ dX Af Z2 G UP dD ez n;go_wp2_with (first|refine wpList_load_mid rfl 101 _ rfl E K rfl A _ Bu underlying101 rfl aW ?_|refine wpList_store_mid rfl 101 _ _ rfl w.heap.size 0 A.toArray rfl rfl ?h3 ?h4 bX ?_);case h3=>
  have e:A.toArray.size=512:=by simpa using qA
  rw [e];exact Se
 case h4=>simpa using aW
 refine bodyPost_ret (results_cell_tmp (P:=prog) rfl _ _ w.heap.size A _ _ rfl rfl my.out underlying101 rfl aW) rfl ⟨?_,u.o,UI.o⟩;show _=Ending.returned (.tuple #[.agg (bs (S.now (y.home+b))).toArray,iV 0]);rw [<-L.o];rfl
section
structure iw (w:World) (F:Nat->Prop) (p s cR q l m:Nat) (S:DS) (G:SG):Prop where
 d:B.ax w F p s S cR
 st:nx w q p l m G.y G.busy
 lp:cY w l p G.L
 ch:Ch w m G.ov
 nq:¬F q
 nl:¬F l
 nm:¬F m
 ql:q≠l
 qm:q≠m
 lm:l≠m
 lk:G.L.Ok s
 bg:G.L.begun=true
 hs:G.y.home+G.y.blocks<=s
 kb:∀x∈G.ov,x.1<G.y.blocks
abbrev B4 (q n:Nat) (T:TG):Array Value:= #[pQ q, .map (some n),iV T.bad, .bool T.ended]
structure mL (w:World) (F:Nat->Prop) (q l m t n:Nat) (G:SG) (T:TG):Prop where
 tx:w.heap[t]? =some (.cells (B4 q n T) 98 (0,0))
 ch:Ch w n T.puts
 nt:¬F t
 nn:¬F n
 tq:t≠q
 tl:t≠l
 tm:t≠m
 tn:t≠n
 nq:n≠q
 nl:n≠l
 nm:n≠m
 kb:∀x∈T.puts,x.1<G.y.blocks
section
variable {w w':World} {F:Nat->Prop} {p s cR q l m t n:Nat} {S:DS} {G:SG} {T:TG}
def iw.later (h:iw w F p s cR q l m S G) (a:bW w w'):iw w' F p s cR q l m S G:=
   ⟨h.d.later a,h.st.later a,h.lp.later a,h.ch.later a,h.nq,h.nl,h.nm,h.ql,h.qm,h.lm,h.lk,h.bg,h.hs,h.kb⟩
def mL.later (h:mL w F q l m t n G T) (a:bW w w'):mL w' F q l m t n G T:=
   ⟨(a.block t (aq h.tx)).trans h.tx,h.ch.later a,h.nt,h.nn,h.tq,h.tl,h.tm,h.tn,h.nq,h.nl,h.nm,h.kb⟩
def iw.asked {c':Nat} (h:iw w F p s cR q l m S G) (hd:B.ax w' F p s S c') (a:aa F w w'):iw w' F p s c' q l m S G:=
   ⟨hd,h.st.aw a h.nq,h.lp.aw a h.nl,h.ch.aw a h.nm,h.nq,h.nl,h.nm,h.ql,h.qm,h.lm,h.lk,h.bg,h.hs,h.kb⟩
def mL.asked (h:mL w F q l m t n G T) (a:aa F w w'):mL w' F q l m t n G T:=
   ⟨(a.block t (aq h.tx) h.nt).trans h.tx,h.ch.aw a h.nn,h.nt,h.nn,h.tq,h.tl,h.tm,h.tn,h.nq,h.nl,h.nm,h.kb⟩
def mL.c0 (h:mL w F q l m t n G T):w.cell? (aD t 0)=some (pQ q):=aM h.tx
def mL.c1 (h:mL w F q l m t n G T):w.cell? (aD t 1)=some (.map (some n)):=bG h.tx
def mL.c2 (h:mL w F q l m t n G T):w.cell? (aD t 2)=some (iV T.bad):=bM h.tx
def mL.c3 (h:mL w F q l m t n G T):w.cell? (aD t 3)=some (.bool T.ended):=fU h.tx
def iw.dead (h:iw w F p s cR q l m S G):Calls prog 58 #[pQ q] w λe w'=>e= .returned (.bool (G.L.dead S))/\bW w w':=Oo h.d h.st h.lp h.lk h.bg
def GU (h:iw w F p s cR q l m S G) (c:mL w F q l m t n G T):
  Calls prog 137 #[pQ t] w λe w'=>e= .returned (iV (T.bU G S))/\bW w w':=by
 have a:=h.dead;have f:=c.c0;unfold TG.bU;go_in;cases hd:G.L.dead S
 .rw [hd] at a;rw [aB (by decide)];cases d:T.ended
  .rw [aB (by decide)];go_wp2_with fail;refine bJ a λw1 ar=>?_;have b:=(c.later ar).c3;rw [d] at b;go_wp2;go_ret;exact⟨rfl,ar⟩
  .rw [aG rfl];go_wp2_with fail;refine bJ a λw1 ar=>?_;have b:=(c.later ar).c3;rw [d] at b;go_wp2;go_ret;exact⟨rfl,ar⟩
 .rw [hd] at a;rw [aG rfl];go_wp2_with fail;refine bJ a λw1 ar=>?_;go_wp2;go_ret;exact⟨rfl,ar⟩
def nV (h:iw w F p s cR q l m S G) (b:mL w F q l m t n G T):
  Calls prog 84 #[pQ t] w λe w'=>e= .returned (iV (T.state G S))/\bW w w':=by
 have a:=GU h b;unfold TG.state;generalize T.bU G S=E at*;go_in;by_cases k:E=0
 .have d:(E != 0)=false:=by rw [k];rfl
  rw [aB (λh=>h k)];go_wp2_with fail;refine bJ a λw1 ar=>?_;have c:=(b.later ar).c2;go_wp2;go_ret;exact⟨rfl,ar⟩
 .have d:(E != 0)=true:=by rw [gg];exact k
  rw [aG k];go_wp2_with fail;refine bJ a λw1 ar=>?_;go_wp2;go_ret;exact⟨rfl,ar⟩
def Ag (h:iw w F p s cR q l m S G) (c:mL w F q l m t n G T) (b:Int):
  Calls prog 59 #[pQ t,iV b] w λe w'=>e= .returned (iV (T.refusal G S b))/\bW w w':=by
 have a:=nV h c;have f:=h.st;unfold TG.refusal;generalize T.state G S=E at*;go_in;by_cases k:E=0
 .have d:(E != 0)=false:=by rw [k];rfl
  rw [aB (λh=>h k)];by_cases g:b<0
  .rw [aG (.inl g)];go_wp2_with fail;refine bJ a λw1 ar=>?_;go_wp2;go_ret;exact⟨rfl,ar⟩
  .by_cases i:(G.y.blocks:Int)<=b
   .rw [aG (.inr i)];go_wp2_with fail;refine bJ a λw1 ar=>?_;have j:=(c.later ar).c0;have o:=(f.later ar).c4;go_wp2;go_ret;exact⟨rfl,ar⟩
   .rw [aB (λh=>h.elim g i)];go_wp2_with fail;refine bJ a λw1 ar=>?_;have j:=(c.later ar).c0;have o:=(f.later ar).c4;go_wp2;go_ret;exact⟨rfl,ar⟩
 .have d:(E != 0)=true:=by rw [gg];exact k
  rw [aG k];go_wp2_with fail;refine bJ a λw1 ar=>?_;go_wp2;go_ret;exact⟨rfl,ar⟩
end
end
def se {l m:Nat} {G:SG} (h:iw w F p s cR q l m S G) (b:Nat) (g:b<G.y.blocks) (f:S.fuse≠0) (aU:S.puts.length+1<=4000000000000):
  Calls prog 115 #[pQ q,iV (b:Int)] w λe w'=>e= .returned (.tuple #[cV (G.block S b),iV 0])/\B.ax w' F p s S (cR+1)/\aa F w w':=by
 have i:=h.hs;have Kw:=h.d.ok.hi;unfold SG.block;cases a:CM.get G.ov b with
 |none=>
  rw [Option.getD_none];exact B3 h.d h.st h.ch h.nq b (by omega) a (by omega) f aU
 |some c=>
  rw [Option.getD_some];refine(Ew h.st h.ch b a).mono ?_;rintro e w' ⟨rfl,eI⟩;exact⟨rfl,(h.d.later eI).le (by omega),aa.ah F eI⟩
def vL {l m:Nat} {G:SG} (h:iw w F p s cR q l m S G) (b:Nat) (e:b<G.y.blocks):(G.block S b).length=512:=by
 have f:=h.hs;unfold SG.block;cases a:CM.get G.ov b with
 |none=>rw [Option.getD_none];exact bA h.d.ok _ (by omega)
 |some c=>rw [Option.getD_some];exact(h.ch.len _ (CM.get_mem a)).2.1
def Ah {l m t:Nat} {G:SG} {T:TG} (h:iw w F p s cR q l m S G) (e:mL w F q l m t n G T) (b:Nat) (a:b<G.y.blocks):(T.j3 G S b).length=512:=by
 unfold TG.j3;cases d:CM.get T.puts b with
 |none=>rw [Option.getD_none];exact vL h b a
 |some c=>rw [Option.getD_some];exact(e.ch.len _ (CM.get_mem d)).2.1
def Wn {l m t:Nat} {G:SG} {T:TG} (g:mL w F q l m t n G T) (b:Nat) {c:List Int} (d:CM.get T.puts b=some c):
  Calls prog 60 #[pQ t,iV (b:Int)] w λe w'=>e= .returned (.tuple #[cV c,iV 0])/\bW w w':=by
 have f:=g.ch;have nU:=f.len _ (CM.get_mem d);have R2:=jm;have bN:bW w (w.alloc (.cells bo 101)):=(bi _ w).alloc (bR _) _;have p:=(g.later bN).c1;have gX:=(f.later bN).look b nU.1;rw [d] at gX;have bj:=eY (w.alloc (.cells bo 101)) nU.2.1;rw [World.size_alloc] at bj;have aW:=eU nU.2.1;have dD:=cF c;have qA:(bs c).length=512:=by rw [bs,jF,nU.2.1]
 obtain⟨A,a⟩:=bP (bs c);have sV:(Instr.lookup 93 (.map (some n)) (iV (b:Int)) true).run prog (w.alloc (.cells bo 101))= .ok (.tuple #[.agg A.toArray, .bool true]) (w.alloc (.cells bo 101)):=by rw [a];exact gX
 have Bu:(((w.alloc (.cells bo 101)).alloc (.cells bo 101)).setCells (w.heap.size+1) 0 (bs c)).rangeAt (w.heap.size+1) 0 (bs c):=λj v k=>by
  have:=bj.1.news j v k;rwa [aN] at this
 rw [<-a] at aW dD qA bj Bu;have Sa:=kt (rn w) (bj.2.1.block _ (by simp));have my:=yh (World.rangeAt_setCells_same _ w.heap.size 0 A (by rw [qA];exact Sa));have bX:=all_oneCell_toArray dD;have eV:=bN.trans (bj.2.1.mono (by omega));have jY:=yh (eV.trans ((aa.setCells (F:=λj=>j=w.heap.size) rfl A 0 _).below (λj r=>by omega) eV.size));have KM:=bj.2.2;have i:=yh a;clear gX bj g f bN eV dD d nU a;generalize bo=Z at*;go_in;go_wp2_with (first|refine wpList_load_mid rfl 101 _ rfl (w.heap.size+1) 0 rfl A _ Bu underlying101 rfl aW ?_|refine wpList_store_mid rfl 101 _ _ rfl (w.heap.size+1) 0 A.toArray rfl rfl ?h1 ?h2 bX ?_|refine wpList_store_mid rfl 101 _ _ rfl w.heap.size 0 A.toArray rfl rfl ?h3 ?h4 bX ?_);case h1=>first|simpa using KM|(rw [qA] at KM;simpa using KM)
 case h2=>simpa using aW
 case h3=>
  have e:A.toArray.size=512:=by simpa using qA
  rw [e];exact Sa
 case h4=>simpa using aW
 refine bodyPost_ret (results_cell_tmp (P:=prog) rfl _ _ w.heap.size A _ _ rfl rfl my.out underlying101 rfl aW) rfl ⟨?_,jY.out⟩;show _=Ending.returned (.tuple #[.agg (bs c).toArray,iV 0]);rw [<-i.o];rfl
def Sf {l m t:Nat} {G:SG} {T:TG} (h:iw w F p s cR q l m S G) (g:mL w F q l m t n G T) (b:Nat) (C:b<G.y.blocks) (D:CM.get T.puts b=none) (I:S.fuse≠0) (aU:S.puts.length+1<=4000000000000):
  Calls prog 60 #[pQ t,iV (b:Int)] w λe w'=>e= .returned (.tuple #[cV (G.block S b),iV 0])/\B.ax w' F p s S (cR+1)/\aa F w w':=by
 obtain⟨R2,Kw,Ya⟩:=kH jm h.d.ok.hi h.hs;have bN:bW w (w.alloc (.cells bo 101)):=(bi _ w).alloc (bR _) _;have z:=(g.later bN).c1;have gX:=(g.ch.later bN).look b (by omega);rw [D] at gX;have sV:(Instr.lookup 93 (.map (some n)) (iV (b:Int)) true).run prog (w.alloc (.cells bo 101))= .ok (.tuple #[.agg bo, .bool false]) (w.alloc (.cells bo 101)):=gX;have bj:=eY (w.alloc (.cells bo 101)) (bH 512);rw [World.size_alloc] at bj;have Ae:=eU (bH 512);have GT:=all_oneCell_toArray (cF (zs 512));have vJ:=bj.2.2;have Sb:(bs (zs 512)).toArray=bo:=rfl;obtain⟨a,ZY⟩:=bP (bs (zs 512));rw [<-ZY] at bj Ae GT vJ Sb;have x:a.length=512:=by rw [ZY,bs,jF,bH]
 obtain⟨i,Sc⟩:=bP (((w.alloc (.cells bo 101)).alloc (.cells bo 101)).setCells (w.heap.size+1) 0 a);have Wl:bW w i:=by rw [Sc];exact bN.trans (bj.2.1.mono (by omega))
 have Sd:i.there w.heap.size 0 512:=by rw [Sc];exact kt (rn w) (bj.2.1.block _ (by simp))
 have ZZ:w.heap.size<i.heap.size:=by
  have:=bj.2.1.size;rw [Sc];rw [World.size_alloc] at this;omega
 obtain⟨H,Ex,v,r,iM,Z0,c⟩:=nD ((g.later Wl).c0) (se (h.later Wl) b C I aU) (yh Sd) (yh Wl) (yh h.d.lt) (yh Sc) (yh (vL h b C));clear gX bj g bN Wl h Sd D Sc ZY;rw [<-Sb] at R2 z sV vJ Z0;clear Sb;go_in
 go_upto_region 4 with (refine wpList_store_mid rfl 101 _ _ rfl (w.heap.size+1) 0 a.toArray rfl rfl ?h1 ?h2 GT ?_)
 case h1=>first|simpa using vJ|(rw [x] at vJ;simpa using vJ)
 case h2=>simpa using Ae
 have Z1:=Z0.o;subst Z1;generalize On:((w.alloc (.cells a.toArray 101)).alloc (.cells a.toArray 101)).setCells (w.heap.size+1) 0 a=i at*;clear On sV z vJ Z0;obtain⟨A,f⟩:=bP (bs (G.block S b));have aW:=eU c.o;have dD:=cF (G.block S b);unfold cV at Ex;rw [<-f] at aW dD Ex;have qA:A.length=512:=by rw [f,bs,jF,c.o]
 have bX:=all_oneCell_toArray dD;have E:=yh f;clear dD f;go_wp2_with fail;refine fQ Ex λw5 jJ dX=>?_;have KN:¬F w.heap.size:=λh=>by have:=iM.o _ h;omega
 have Se:=kt v.o (dX.block _ ZZ KN);have my:=yh (World.rangeAt_setCells_same w5 w.heap.size 0 A (by rw [qA];exact Se));have ez:=aa.setCells (F:=λj=>j=w.heap.size) rfl A 0 w5;have u:=yh (jJ.aw ez (λk J e=>KN (e▸J)));have UI:=yh (((aa.ah F r.o).trans dX (λ_ h=> .inl h)).trans ez (λk e=> .inr (by omega)):aa F w (w5.setCells w.heap.size 0 A));clear jJ dX H ez Ex;go_wp2_with (refine wpList_store_mid rfl 101 _ _ rfl w.heap.size 0 A.toArray rfl rfl ?h3 ?h4 bX ?_);case h3=>
  have e:A.toArray.size=512:=by simpa using qA
  rw [e];exact Se
 case h4=>simpa using aW
 refine bodyPost_ret (results_cell_tmp (P:=prog) rfl _ _ w.heap.size A _ _ rfl rfl my.out underlying101 rfl aW) rfl ⟨?_,u.o,UI.o⟩;show _=Ending.returned (.tuple #[.agg (bs (G.block S b)).toArray,iV 0]);rw [<-E.o];rfl
def GV {l m t:Nat} {G:SG} {T:TG} (h:iw w F p s cR q l m S G) (f:mL w F q l m t n G T) (b:Nat) (g:b<G.y.blocks) (i:S.fuse≠0) (aU:S.puts.length+1<=4000000000000):
  Calls prog 60 #[pQ t,iV (b:Int)] w λe w'=>e= .returned (.tuple #[cV (T.j3 G S b),iV 0])/\B.ax w' F p s S (cR+1)/\aa F w w':=by
 unfold TG.j3;cases a:CM.get T.puts b with
 |none=>
  rw [Option.getD_none];exact Sf h f b g a i aU
 |some c=>
  rw [Option.getD_some];refine(Wn f b a).mono ?_;rintro e w' ⟨rfl,eI⟩;exact⟨rfl,(h.d.later eI).le (by omega),aa.ah F eI⟩
section
def TG.mM (T:TG) (G:SG) (S:DS) (x:Int):Int×TG:=
 if T.state G S≠0 then (T.state G S,T) else if x=6\/x=50\/x=60\/x=61 then (x,{T with bad:=x}) else (1,T)
def TG.close (T:TG):TG:={T with puts:= [],ended:=true}
def TG.abort (T:TG) (G:SG) (S:DS):Int×TG×SG:=if T.bU G S≠0 then (T.bU G S,T,G) else (0,T.close,{G with busy:=false})
section
variable {w w':World} {F:Nat->Prop} {p s cR q l m t n:Nat} {S:DS} {G:SG} {T:TG}
def C6 (h:iw w F p s cR q l m S G) (u:mL w F q l m t n G T) (x:Int):
  Calls prog 86 #[pQ t,iV x] w λe w'=>e= .returned (iV (T.mM G S x).1)/\w'.heap[t]? =some (.cells (B4 q n (T.mM G S x).2) 98 (0,0))/\aa (λk=>k=t) w w':=by
 have i:=nV h u;have a:=u;unfold TG.mM;generalize T.state G S=E at*;go_in;by_cases k:E=0
 .have d:(E != 0)=false:=by rw [k];rfl
  rw [aB (λh=>h k)];have b:∀(w1:World),bW w w1->(w1.setCell ⟨t,2,none⟩ (.int .i64 x)).heap[t]? =some (.cells (B4 q n {T with bad:=x}) 98 (0,0))/\aa (λk=>k=t) w (w1.setCell ⟨t,2,none⟩ (.int .i64 x)):=λw1 ar=>
     ⟨(heap_setCell_same _ _ 2 _ _ _ (a.later ar).tx).trans (by simp [B4]),(aa.ah (λk=>k=t) ar).trans (aL (F:=λk=>k=t) w1 rfl 2 _) (λ_ h=> .inl h)⟩
  by_cases r:x=6
  .subst r;rw [aG (.inl rfl)];go_wp2_with fail;refine bJ i λw1 ar=>?_;have j:=(a.later ar).c2;have o:=ae (a.later ar).tx 2;go_wp2;go_ret;exact⟨rfl,b w1 ar⟩
  .have A:(x == 6)=false:=(by rw [fy];exact r);by_cases c:x=50
   .subst c;rw [aG (.inr (.inl rfl))];go_wp2_with fail;refine bJ i λw1 ar=>?_;have j:=(a.later ar).c2;have o:=ae (a.later ar).tx 2;go_wp2;go_ret;exact⟨rfl,b w1 ar⟩
   .have v:(x == 50)=false:=(by rw [fy];exact c);by_cases f:x=60
    .subst f;rw [aG (.inr (.inr (.inl rfl)))];go_wp2_with fail;refine bJ i λw1 ar=>?_;have j:=(a.later ar).c2;have o:=ae (a.later ar).tx 2;go_wp2;go_ret;exact⟨rfl,b w1 ar⟩
    .have y:(x == 60)=false:=(by rw [fy];exact f);by_cases g:x=61
     .subst g;rw [aG (.inr (.inr (.inr rfl)))];go_wp2_with fail;refine bJ i λw1 ar=>?_;have j:=(a.later ar).c2;have o:=ae (a.later ar).tx 2;go_wp2;go_ret;exact⟨rfl,b w1 ar⟩
     .have z:(x == 61)=false:=(by rw [fy];exact g);rw [aB (λh=>h.elim r (λh=>h.elim c (λh=>h.elim f g)))];go_wp2_with fail;refine bJ i λw1 ar=>?_;go_wp2;go_ret;exact⟨rfl,aH (a.later ar).tx (aa.ah (λk=>k=t) ar)⟩
 .have d:(E != 0)=true:=by rw [gg];exact k
  rw [aG k];go_wp2_with fail;refine bJ i λw1 ar=>?_;go_wp2;go_ret;exact⟨rfl,aH (a.later ar).tx (aa.ah (λk=>k=t) ar)⟩
def MN (h:nx w q p l m G.y G.busy) (b:mL w F q l m t n G T):
  Calls prog 140 #[pQ t] w λe w'=>e= .returned (.tuple #[])/\w'.heap[t]? =some (.cells (B4 q n T.close) 98 (0,0))/\Ch w' n []/\nx w' q p l m G.y false/\aa (λk=>k=t\/k=n\/k=q) w w':=by
 obtain⟨a,yK,ny,By,eM⟩:=b.ch.qS;have o:=b.c1;have g:=(By.block t (aq b.tx) (λe=>b.tn e)).trans b.tx;have s1:=h.aw By (λe=>b.nq e.symm);have r:a.cell? (aD t 3)=some (.bool T.ended):=fU g;have v:=ae g 3;have c:q≠t:=λe=>b.tq e.symm;have i:(a.setCell ⟨t,3,none⟩ (.bool true)).heap[t]? =some (.cells #[.pointer (some ⟨q,0,none⟩), .map (some n), .int .i64 T.bad, .bool true] 98 (0,0)):=(heap_setCell_same _ _ 3 _ _ _ g).trans (by simp [B4]);have d:=aL (F:=λk=>k=t) a rfl 3 (.bool true);have s2:=s1.aw d c;have s:(a.setCell ⟨t,3,none⟩ (.bool true)).cell? (aD t 0)=some (pQ q):=aM i;have u:=s2.c8;have x:=ae s2 8;have f:=aL (F:=λk=>k=q) (a.setCell ⟨t,3,none⟩ (.bool true)) rfl 8 (.bool false);have s3:nx ((a.setCell ⟨t,3,none⟩ (.bool true)).setCell ⟨q,8,none⟩ (.bool false)) q p l m G.y false:=(heap_setCell_same _ _ 8 _ _ _ s2).trans (by simp [PP]);have j:(((a.setCell ⟨t,3,none⟩ (.bool true)).setCell ⟨q,8,none⟩ (.bool false)).heap[t]? =some (.cells (B4 q n T.close) 98 (0,0))/\Ch ((a.setCell ⟨t,3,none⟩ (.bool true)).setCell ⟨q,8,none⟩ (.bool false)) n []/\nx ((a.setCell ⟨t,3,none⟩ (.bool true)).setCell ⟨q,8,none⟩ (.bool false)) q p l m G.y false/\aa (λk=>k=t\/k=n\/k=q) w ((a.setCell ⟨t,3,none⟩ (.bool true)).setCell ⟨q,8,none⟩ (.bool false))):=by
  refine⟨(f.block t (aq i) (λe=>c e.symm)).trans i,(ny.aw d (λe=>b.tn e.symm)).aw f b.nq,s3,?_⟩;exact((By.mono (λ_ e=> .inr (.inl e))).trans d (λ_ e=> .inl (.inl e))).trans f (λ_ e=> .inl (.inr (.inr e)))
 go_in;go_wp2
 go_end0
 exact⟨rfl,j⟩
def Oq (h:iw w F p s cR q l m S G) (f:mL w F q l m t n G T):
  Calls prog 90 #[pQ t] w λe w'=>e= .returned (iV (T.abort G S).1)/\w'.heap[t]? =some (.cells (B4 q n (T.abort G S).2.1) 98 (0,0))/\Ch w' n (T.abort G S).2.1.puts/\nx w' q p l m G.y (T.abort G S).2.2.busy/\aa (λk=>k=t\/k=n\/k=q) w w':=by
 have c:=GU h f;have a:=f;have b:=h.st;unfold TG.abort;generalize T.bU G S=E at*;go_in;by_cases k:E=0
 .have d:(E != 0)=false:=by rw [k];rfl
  rw [aB (λh=>h k)];go_wp2_with fail;refine bJ c λw1 ar=>?_;go_wp2_with fail;refine(MN (b.later ar) (a.later ar)).mono ?_;rintro e r ⟨rfl,g,i,j,o⟩;go_wp2;go_ret;exact⟨rfl,(aH g (aH i (aH j ((aa.ah (λk=>k=t\/k=n\/k=q) ar).trans o (λ_ h=> .inl h)))))⟩
 .have d:(E != 0)=true:=by rw [gg];exact k
  rw [aG k];go_wp2_with fail;refine bJ c λw1 ar=>?_;go_wp2;go_ret;exact⟨rfl,(aH (a.later ar).tx (aH (a.later ar).ch (aH (b.later ar) (aa.ah (λk=>k=t\/k=n\/k=q) ar))))⟩
def SG.begin (G:SG) (S:DS):Int:=if G.L.dead S=true then 3 else if G.busy=true then 5 else 0
def sW (w w':World) (q p l m:Nat) (y:LY) (busy:Bool) (code:Int) (e:Ending):Prop:=
 if code≠0 then e= .returned (.tuple #[.pointer none,iV code])/\nx w' q p l m y busy/\bW w w'
 else∃t n,e= .returned (.tuple #[pQ t,iV 0])/\w.heap.size<=n/\w.heap.size<=t/\t≠n/\w'.heap[t]? =some (.cells (B4 q n ⟨[],0,false⟩) 98 (0,0))/\Ch w' n []/\nx w' q p l m y true/\aa (λk=>k=q) w w'
def sX (h:iw w F p s cR q l m S G):
  Calls prog 19 #[pQ q] w λe w'=>sW w w' q p l m G.y G.busy (G.begin S) e:=by
 have b:=h.dead;have f:=h.st;unfold SG.begin;go_in;cases hd:G.L.dead S
 .rw [hd] at b;rw [aB (by decide)];cases i:G.busy
  .rw [aB (by decide)];go_wp2_with fail;refine bJ b λw1 ar=>?_;have el:=f.later ar;rw [i] at el;have o:=el.c8;have t:=ae el 8;have r:=aL (F:=λk=>k=q) w1 rfl 8 (.bool true);have s3:nx (w1.setCell ⟨q,8,none⟩ (.bool true)) q p l m G.y true:=(heap_setCell_same _ _ 8 _ _ _ el).trans (by simp [PP]);have j:(w1.setCell ⟨q,8,none⟩ (.bool true)).heap.size=w1.heap.size:=(by simp [World.setCell]);have aiy:=ar.size;have g:=Ch.made (w1.setCell ⟨q,8,none⟩ (.bool true));rw [j] at g;obtain⟨a,UR⟩:=bP ((w1.setCell ⟨q,8,none⟩ (.bool true)).alloc (.map #[] 0));rw [<-UR] at g;have c:Below (w1.setCell ⟨q,8,none⟩ (.bool true)).heap.size (w1.setCell ⟨q,8,none⟩ (.bool true)) a:=(by rw [UR];exact aJ _ _);have d:a.heap.size=w1.heap.size+1:=(by rw [UR,World.size_alloc,j]);have ir:=aJ a (.cells (B4 q w1.heap.size ⟨[],0,false⟩) 98);have n:((a.alloc (.cells (B4 q w1.heap.size ⟨[],0,false⟩) 98)).heap[w1.heap.size+1]? =some (.cells (B4 q w1.heap.size ⟨[],0,false⟩) 98 (0,0))/\Ch (a.alloc (.cells (B4 q w1.heap.size ⟨[],0,false⟩) 98)) w1.heap.size []/\nx (a.alloc (.cells (B4 q w1.heap.size ⟨[],0,false⟩) 98)) q p l m G.y true/\aa (λk=>k=q) w (a.alloc (.cells (B4 q w1.heap.size ⟨[],0,false⟩) 98))):=by
    refine⟨by rw [<-d];exact heap_alloc_new _ _,g.later ir,(s3.later c).later ir,?_⟩;exact(((aa.ah (λk=>k=q) ar).trans r (λ_ h=> .inl h)).trans (aa.ah (λ_=>False) c) (λ_ h=>h.elim)).trans (aa.ah (λ_=>False) ir) (λ_ h=>h.elim)
   have Cp:= @run_makeMap prog;go_wp2;rw [<-UR];go_ret2;unfold sW;rw [aB (λh=>h rfl)];refine⟨w1.heap.size+1,w1.heap.size,?_,aiy,by omega,by omega,n⟩;first|rfl|(rw [d];rfl)
  .rw [aG rfl];go_wp2_with fail;refine bJ b λw1 ar=>?_;have el:=f.later ar;rw [i] at el;have o:=el.c8;go_wp2;go_ret2;unfold sW;rw [aG (by decide)];exact⟨rfl,aH el ar⟩
 .rw [hd] at b;rw [aG rfl];go_wp2_with fail;refine bJ b λw1 ar=>?_;go_wp2;go_ret2;unfold sW;rw [aG (by decide)];exact⟨rfl,aH (f.later ar) ar⟩
end
end
section
def vM (w w':World) (code:Int) (c:List Int) (e:Ending):Prop:=
 if code≠0 then e= .returned (.tuple #[.slice none 0 0,iV code])
 else∃g,e= .returned (.tuple #[.slice (some (aD g 0)) 512 512,iV 0])/\w.heap.size<=g/\kh w' 101 g c
section
variable {w w':World} {F:Nat->Prop} {p s cR q l m t n:Nat} {S:DS} {G:SG} {T:TG}
def iY {b:Int} (h:T.refusal G S b=0):G.L.dead S=false/\T.ended=false/\T.bad=0/\0<=b/\b<(G.y.blocks:Int):=by
 unfold TG.refusal TG.state TG.bU at h;cases hd:G.L.dead S
 .cases c:T.ended
  .rw [hd,c] at h;simp only [Bool.false_eq_true,if_false,ne_eq,not_true_eq_false] at h;split at h
   .rename_i a;exact absurd h a
   .rename_i a;split at h
    .omega
    .refine⟨rfl,rfl,?_,by omega,by omega⟩;exact Decidable.byContradiction a
  .rw [hd,c] at h;simp at h
 .rw [hd] at h;simp at h
def vN (h:L.dead S=false):S.fuse≠0:=λe=>by
 unfold LG.dead at h;rw [show (S.fuse == 0)=true by rw [beq_iff_eq];exact e] at h;simp at h
def Ey (h:iw w F p s cR q l m S G) (f:mL w F q l m t n G T) (b:Int) (aU:S.puts.length+1<=4000000000000):
  Calls prog 20 #[pQ t,iV b] w λe w'=>vM w w' (T.refusal G S b) (T.j3 G S b.toNat) e/\B.ax w' F p s S (cR+1)/\aa F w w':=by
 have h1:=Ag h f b;go_in;by_cases k:T.refusal G S b=0
 .obtain⟨u,C,D,H,I⟩:=iY k;obtain⟨b,rfl⟩:∃b':Nat,b=(b':Int):=⟨b.toNat,by omega⟩;have r:b<G.y.blocks:=by omega
  have a:=Ah h f b r;rw [k] at h1;obtain⟨x,z,j,R2,FB⟩:=eQ h f k jm (vN u);clear h f k u C D H I;go_wp2_with fail;refine bJ h1 λw1 ar=>?_;have h2:=GV (x.later ar) (z.later ar) b r FB aU;have g:=ar;have dE:=ar.size;unfold cV at h2;obtain⟨A,i⟩:=bP (bs (T.j3 G S b));rw [<-i] at h2;clear h1 ar;go_wp2_with fail;refine fQ h2 λc cI aY=>?_;have bj:=eY c a;have aW:=eU a;have dD:=cF (T.j3 G S b);rw [<-i] at bj aW dD;have qA:A.length=512:=by rw [i,bs,jF,a]
  have bX:=all_oneCell_toArray dD;have eh:=bj.2.2;have em:=aY.size;have o:(kh ((c.alloc (.cells bo 101)).setCells c.heap.size 0 A) 101 c.heap.size (T.j3 G S b)/\B.ax ((c.alloc (.cells bo 101)).setCells c.heap.size 0 A) F p s S (cR+1)/\aa F w ((c.alloc (.cells bo 101)).setCells c.heap.size 0 A)):=⟨bj.1,cI.later bj.2.1,((aa.ah F g).trans aY (λ_ h=> .inl h)).trans (aa.ah (λ_=>False) bj.2.1) (λ_ h=>h.elim)⟩;clear h2 cI aY bj dD i;generalize bo=Z at*;go_wp2_with (refine wpList_store_mid rfl 101 _ _ rfl c.heap.size 0 A.toArray rfl rfl ?h1 ?h2 bX ?_);case h1=>first|simpa using eh|(rw [qA] at eh;simpa using eh)
  case h2=>simpa using aW
  go_ret2;refine⟨?_,o.2⟩;unfold vM;rw [aB (λh=>h j)];exact⟨c.heap.size,rfl,by omega,o.1⟩
 .have d:(T.refusal G S b != 0)=true:=by rw [gg];exact k
  have v:=h.d;have j:=k;clear h f k;generalize T.refusal G S b=E at*;go_wp2_with fail;refine bJ h1 λw1 ar=>?_;have g:=ar;clear h1 ar;go_wp2;go_ret2;refine⟨?_,(v.later g).le (by omega),aa.ah F g⟩;unfold vM;rw [aG j];rfl
end
end
section
abbrev rsC (r kl:Nat) (y:LY) (pv:Value) (hm:Nat) (nv:Value):Array Value:= #[pQ r,pQ kl,iV (y.log:Int),iV (y.home:Int),iV (y.blocks:Int),iV (y.nodes:Int),iV (y.data:Int),pv,iV (hm:Int),nv]
def lx (w:World) (k r kl:Nat) (y:LY) (pv:Value) (hm:Nat) (nv:Value):Prop:=w.heap[k]? =some (.cells (rsC r kl y pv hm nv) 129 (0,0))
abbrev rtC (k:Nat) (tv:Value) (T:TG):Array Value:= #[pQ k,tv, .bool T.ended,iV T.bad]
def nz (w:World) (t k:Nat) (tv:Value) (T:TG):Prop:=w.heap[t]? =some (.cells (rtC k tv T) 136 (0,0))
section
variable {w w':World} {F X:Nat->Prop} {r s k kl t hm:Nat} {S:DS} {y:LY} {L:LG} {G:SG} {T:TG} {pv nv tv:Value} {ps us:List (Nat×List Int)}
def lx.lt (h:lx w k r kl y pv hm nv):k<w.heap.size:=aq h
def lx.aw (h:lx w k r kl y pv hm nv) (a:aa Z w w') (b:¬Z k):lx w' k r kl y pv hm nv:=(a.block k h.lt b).trans h
def lx.later (h:lx w k r kl y pv hm nv) (a:bW w w'):lx w' k r kl y pv hm nv:=(a.block k h.lt).trans h
def lx.c0 (h:lx w k r kl y pv hm nv):w.cell? (aD k 0)=some (pQ r):=aM h
def lx.c1 (h:lx w k r kl y pv hm nv):w.cell? (aD k 1)=some (pQ kl):=bG h
def lx.c2 (h:lx w k r kl y pv hm nv):w.cell? (aD k 2)=some (iV (y.log:Int)):=bM h
def lx.c3 (h:lx w k r kl y pv hm nv):w.cell? (aD k 3)=some (iV (y.home:Int)):=fU h
def lx.c4 (h:lx w k r kl y pv hm nv):w.cell? (aD k 4)=some (iV (y.blocks:Int)):=gH h
def lx.c5 (h:lx w k r kl y pv hm nv):w.cell? (aD k 5)=some (iV (y.nodes:Int)):=sv h
def lx.c6 (h:lx w k r kl y pv hm nv):w.cell? (aD k 6)=some (iV (y.data:Int)):=xz h
def lx.c7 (h:lx w k r kl y pv hm nv):w.cell? (aD k 7)=some pv:=rH h
def lx.c8 (h:lx w k r kl y pv hm nv):w.cell? (aD k 8)=some (iV (hm:Int)):=DG h
def lx.c9 (h:lx w k r kl y pv hm nv):w.cell? (aD k 9)=some nv:=ahv h
def lx.fz (h:lx w k r kl y pv hm nv) (j:Nat):w.frozen? (aD k j)=false:=ae h j
def nz.lt (h:nz w t k tv T):t<w.heap.size:=aq h
def nz.aw (h:nz w t k tv T) (a:aa Z w w') (b:¬Z t):nz w' t k tv T:=(a.block t h.lt b).trans h
def nz.later (h:nz w t k tv T) (a:bW w w'):nz w' t k tv T:=(a.block t h.lt).trans h
def nz.c0 (h:nz w t k tv T):w.cell? (aD t 0)=some (pQ k):=aM h
def nz.c1 (h:nz w t k tv T):w.cell? (aD t 1)=some tv:=bG h
def nz.c2 (h:nz w t k tv T):w.cell? (aD t 2)=some (.bool T.ended):=bM h
def nz.c3 (h:nz w t k tv T):w.cell? (aD t 3)=some (iV T.bad):=fU h
def nz.fz (h:nz w t k tv T) (j:Nat):w.frozen? (aD t j)=false:=ae h j
structure iN (w:World) (F X:Nat->Prop) (r s:Nat) (S:DS) (k kl:Nat) (G:SG) (pv:Value) (ps:List (Nat×List Int)) (hm:Nat) (nv:Value):Prop where
 st:lx w k r kl G.y pv hm nv
 lp:cM w kl r G.L
 pl:Pl w X pv ps
 xk:X k
 xl:X kl
 fO:∀g,X g->¬F g
 lt:∀g,X g->g<w.heap.size
 lk:G.L.Ok s
 bg:G.L.begun=true
 hs:G.y.home+G.y.blocks<=s
 lh:G.L.f+2+G.L.n<=G.y.home
 ov:G.ov=CM.bU [] (ps.drop hm)
 hm:hm<=ps.length
 kb:∀x∈ps,x.1<G.y.blocks
 un:G.L.dead S=false->∀b,b<G.y.blocks->CM.get G.ov b=none->∀c,jC ps b=some c->S.now (G.y.home+b)=c
structure ou (w:World) (X:Nat->Prop) (k t:Nat) (G:SG) (T:TG) (tv:Value) (us:List (Nat×List Int)):Prop where
 tx:nz w t k tv T
 xt:X t
 pl:Pl w X tv us
 nd:(us.map (·.1)).Nodup
 pu:T.ended=false->T.puts=CM.bU [] us
 kb:∀x∈us,x.1<G.y.blocks
 Ez:us.length<=16
def iN.kne (h:iN w F X r s S k kl G pv ps hm nv):k≠kl:=λe=>by
 have a:=h.st;have b:=h.lp;unfold lx at a;unfold cM at b;rw [e,b] at a;simp at a
def iN.aw (h:iN w F X r s S k kl G pv ps hm nv) (b:aa Z w w') (a:∀g,X g->¬Z g):iN w' F X r s S k kl G pv ps hm nv:=
   ⟨h.st.aw b (a _ h.xk),h.lp.aw b (a _ h.xl),h.pl.aw b (λg e=>a _ (h.pl.row g e)) (λg _ _ d _=>a g d),h.xk,h.xl,h.fO,λg c=>iL (h.lt g c) b.size,h.lk,h.bg,h.hs,h.lh,h.ov,h.hm,h.kb,h.un⟩
def iN.later (h:iN w F X r s S k kl G pv ps hm nv) (a:bW w w'):iN w' F X r s S k kl G pv ps hm nv:=h.aw (aa.ah (λ_=>False) a) (λ_ _ h=>h)
def ou.aw (h:ou w X k t G T tv us) (b:aa Z w w') (a:∀g,X g->¬Z g):ou w' X k t G T tv us:=
   ⟨h.tx.aw b (a _ h.xt),h.xt,h.pl.aw b (λg e=>a _ (h.pl.row g e)) (λg _ _ c _=>a g c),h.nd,h.pu,h.kb,h.Ez⟩
def ou.later (h:ou w X k t G T tv us) (a:bW w w'):ou w' X k t G T tv us:=h.aw (aa.ah (λ_=>False) a) (λ_ _ h=>h)
def iN.block (h:iN w F X r s S k kl G pv ps hm nv) (hd:G.L.dead S=false) {b:Nat} (f:b<G.y.blocks):(jC ps b).getD (S.now (G.y.home+b))=G.block S b:=by
 have a:CM.get G.ov b=jC (ps.drop hm) b:=by rw [h.ov];exact ib _ _
 have e:jC ps b=(jC (ps.drop hm) b).or (jC (ps.take hm) b):=by rw [<-mh,List.take_append_drop]
 unfold SG.block;rw [a];cases d:jC (ps.drop hm) b with
 |some c=>rw [e,d];rfl
 |none=>
  cases g:jC ps b with
  |none=>rfl
  |some c=>exact(h.un hd b f (by rw [a,d]) c g).symm
def sY (hd:aC w F r s S) (h:lx w k r kl y pv hm nv) (a:cM w kl r L):
  Calls prog 128 #[pQ k] w λe w'=>e= .returned (.bool (L.dead S))/\bW w w':=by
 have b:=h.c1;go_in;go_wp2_with fail;refine(vF hd a).mono ?_;rintro e w1 ⟨rfl,ar⟩;go_wp2;go_ret;exact⟨rfl,ar⟩
def ku (hd:aC w F r s S) (h:iN w F X r s S k kl G pv ps hm nv) (b:nz w t k tv T):
  Calls prog 85 #[pQ t] w λe w'=>e= .returned (iV (T.state G S))/\bW w w':=by
 have a:=sY hd h.st h.lp;have f:=b.c0;unfold TG.state TG.bU;cases yR:G.L.dead S
 .rw [yR] at a;simp only [Bool.false_eq_true,if_false];cases d:T.ended
  .simp only [Bool.false_eq_true,if_false,ne_eq,not_true_eq_false];go_in;go_wp2_with fail;refine bJ a λw1 ar=>?_;have c:=(b.later ar).c2;have g:=(b.later ar).c3;rw [d] at c;go_wp2;go_ret;exact⟨rfl,ar⟩
  .simp only [if_true,ne_eq,show¬(4:Int)=0 by decide,not_false_eq_true];go_in;go_wp2_with fail;refine bJ a λw1 ar=>?_;have c:=(b.later ar).c2;rw [d] at c;go_wp2;go_ret;exact⟨rfl,ar⟩
 .rw [yR] at a;simp only [if_true,ne_eq,show¬(3:Int)=0 by decide,not_false_eq_true];go_in;go_wp2_with fail;refine bJ a λw1 ar=>?_;go_wp2;go_ret;exact⟨rfl,ar⟩
def nz.bad (h:nz w t k tv T) (x:Int):nz (w.setCell ⟨t,3,none⟩ (.int .i64 x)) t k tv {T with bad:=x}:=
   (heap_setCell_same _ _ 3 _ _ _ h).trans (by simp)
def nz.end_ (h:nz w t k tv T):nz (w.setCell ⟨t,2,none⟩ (.bool true)) t k tv {T with ended:=true}:=
   (heap_setCell_same _ _ 2 _ _ _ h).trans (by simp)
def iN.adC (h:iN w F X r s S k kl G pv ps hm nv) (b:nz w t k tv T) (c:aa (λj=>j=t) w w'):iN w' F X r s S k kl G pv ps hm nv:=by
 refine⟨h.st.aw c (λe=>?_),h.lp.aw c (λe=>?_),h.pl.other b (by decide) (by decide) c,h.xk,h.xl,h.fO,λg d=>iL (h.lt g d) c.size,h.lk,h.bg,h.hs,h.lh,h.ov,h.hm,h.kb,h.un⟩
 .have a:=h.st;unfold lx at a;unfold nz at b;rw [e,b] at a;simp at a
 .have a:=h.lp;unfold cM at a;unfold nz at b;rw [e,b] at a;simp at a
end
end
section
section
variable {w w':World} {F X:Nat->Prop} {r s k kl t hm:Nat} {S:DS} {y:LY} {L:LG} {G:SG} {T:TG} {pv nv tv:Value} {ps us:List (Nat×List Int)}
def KO (hd:aC w F r s S) (h:iN w F X r s S k kl G pv ps hm nv) (m:nz w t k tv T) (x:Int):
  Calls prog 87 #[pQ t,iV x] w λe w'=>e= .returned (iV (T.mM G S x).1)/\nz w' t k tv (T.mM G S x).2/\aa (λj=>j=t) w w':=by
 have f:=ku hd h m;have i:=m;obtain⟨R,a⟩:=bP (T.mM G S x);rw [<-a];unfold TG.mM at a;generalize T.state G S=E at*;clear h m hd;by_cases q:E=0
 .have d:(E != 0)=false:=by rw [q];rfl
  rw [aB (λh=>h q)] at a;clear q;by_cases b:x=6\/x=50\/x=60\/x=61
  .rw [aG b] at a;have g:=a;clear a;rcases b with rfl|rfl|rfl|rfl;all_goals
    go_in;go_wp2_with fail;refine bJ f λw1 ar=>?_;have rP:=i.later ar;obtain⟨n,z,l,c⟩:=cP rP.c3 (rP.fz 3) rP ar;clear f ar rP;go_wp2;go_ret;rw [g];exact⟨rfl,l.bad _,(aa.ah _ c).trans (aa.setCell (F:=λj=>j=t) _ (p:=(aD t 3)) rfl _) (λ_ h=> .inl h)⟩
  .rw [aB b] at a;have g:=a;clear a;have o:(x != 6)=true:=(by rw [gg];intro e;exact b (.inl e));have u:(x != 50)=true:=(by rw [gg];intro e;exact b (.inr (.inl e)));have v:(x != 60)=true:=(by rw [gg];intro e;exact b (.inr (.inr (.inl e))));have y:(x != 61)=true:=(by rw [gg];intro e;exact b (.inr (.inr (.inr e))));clear b;go_in;go_wp2_with fail;refine bJ f λw1 ar=>?_;have c:=ar;clear f ar;go_wp2;go_ret;rw [g];exact⟨rfl,i.later c,aa.ah _ c⟩
 .have d:(E != 0)=true:=by rw [gg];exact q
  rw [aG q] at a;have g:=a;clear q a;go_in;go_wp2_with fail;refine bJ f λw1 ar=>?_;have c:=ar;clear f ar;go_wp2;go_ret;rw [g];exact⟨rfl,i.later c,aa.ah _ c⟩
def KP (hd:aC w F r s S) (h:iN w F X r s S k kl G pv ps hm nv) (m:nz w t k tv T):
  Calls prog 91 #[pQ t] w λe w'=>e= .returned (iV (T.abort G S).1)/\nz w' t k tv (T.abort G S).2.1/\aa (λj=>j=t) w w':=by
 have b:=sY hd h.st h.lp;have n:=m.c0;have f:=m;obtain⟨R,a⟩:=bP (T.abort G S);rw [<-a];unfold TG.abort TG.bU at a;clear h m hd;cases yR:G.L.dead S
 .rw [yR] at b a;simp only [Bool.false_eq_true,if_false] at a;cases g:T.ended
  .simp only [g,Bool.false_eq_true,if_false,ne_eq,not_true_eq_false] at a;have d:=a;clear a;go_in;go_wp2_with fail;refine bJ b λw1 ar=>?_;have rP:=f.later ar;have l:=rP.c2;have o:=rP.fz 2;rw [g] at l;have i:=rP;have c:=ar;clear b ar rP;go_wp2;go_ret;rw [d];exact⟨rfl,i.end_,(aa.ah _ c).trans (aa.setCell (F:=λj=>j=t) _ (p:=(aD t 2)) rfl _) (λ_ h=> .inl h)⟩
  .simp only [g,if_true,ne_eq,show¬(4:Int)=0 by decide,not_false_eq_true] at a;have d:=a;clear a;go_in;go_wp2_with fail;refine bJ b λw1 ar=>?_;have l:=(f.later ar).c2;rw [g] at l;have c:=ar;clear b ar;go_wp2;go_ret;rw [d];exact⟨rfl,f.later c,aa.ah _ c⟩
 .rw [yR] at b a;simp only [if_true,ne_eq,show¬(3:Int)=0 by decide,not_false_eq_true] at a;have d:=a;clear a;go_in;go_wp2_with fail;refine bJ b λw1 ar=>?_;have c:=ar;clear b ar;go_wp2;go_ret;rw [d];exact⟨rfl,f.later c,aa.ah _ c⟩
def Yb (w:World) (nv:Value) (busy:Bool):Prop:=(nv= .pointer none/\busy=false)\/∃t,nv=pQ t/\t<w.heap.size/\w.cell? (aD t 2)=some (.bool (!busy))
def yw (w w':World) (k r kl:Nat) (y:LY) (pv:Value) (hm:Nat) (nv:Value) (code:Int) (e:Ending):Prop:=
 if code≠0 then e= .returned (.tuple #[.pointer none,iV code])/\lx w' k r kl y pv hm nv/\bW w w'
 else∃t,e= .returned (.tuple #[pQ t,iV 0])/\w.heap.size<=t/\nz w' t k (.slice none 0 0) ⟨[],0,false⟩/\lx w' k r kl y pv hm (pQ t)/\aa (λj=>j=k) w w'
def lx.now (h:lx w k r kl y pv hm nv) (v:Value):lx (w.setCell ⟨k,9,none⟩ v) k r kl y pv hm v:=
   (heap_setCell_same _ _ 9 _ _ _ h).trans (by simp)
def iH (b:bW w w') {t:Nat} (c:t<w.heap.size) (a:w.cell? (aD t j)=some v):w'.cell? (aD t j)=some v:=by
 have:=b.block t c;simp only [World.cell?] at a⊢;rw [this];exact a
def Ai (hd:aC w F r s S) (h:lx w k r kl G.y pv hm nv) (n:cM w kl r G.L) (f:Yb w nv G.busy):
  Calls prog 74 #[pQ k] w λe w'=>yw w w' k r kl G.y pv hm nv (G.begin S) e:=by
 have a:=sY hd h n;have d:=h;have ox:=h.lt;unfold yw SG.begin;clear h n hd;cases yR:G.L.dead S
 .rw [yR] at a;simp only [Bool.false_eq_true,if_false];cases m:G.busy
  .simp only [Bool.false_eq_true,if_false,ne_eq,not_true_eq_false];rw [m] at f;rcases f with ⟨rfl,_⟩|⟨t,rfl,i,c⟩
   .go_in;go_wp2_with fail;refine bJ a λw1 ar=>?_;have el:=d.later ar;have l:=el.c9;have dE:=ar.size;have br:=el.later ((bi w1.heap.size w1).alloc (bR _) (.cells #[.pointer (some ⟨k,0,none⟩), .slice none 0 0, .bool false, .int .i64 0] 136));obtain⟨g,o,xJ,b⟩:=cP br.c9 (br.fz 9) br ar;clear a ar el br;go_wp2;go_ret2;refine⟨w1.heap.size,rfl,by omega,?_,xJ.now _,((aa.ah _ b).trans (aa.alloc (λj=>j=k) w1 _) (λ_ h=> .inl h)).trans (aa.setCell (F:=λj=>j=k) _ (p:=(aD k 9)) rfl _) (λ_ h=> .inl h)⟩;exact(Below.heap_setCell _ _ _ _ (by show w1.heap.size≠k;omega)).trans (heap_alloc_new _ _)
   .go_in;go_wp2_with fail;refine bJ a λw1 ar=>?_;have el:=d.later ar;obtain⟨l,Wo,dE,br⟩:=cP el.c9 (iH ar i c) ar.size (el.later ((bi w1.heap.size w1).alloc (bR _) (.cells #[.pointer (some ⟨k,0,none⟩), .slice none 0 0, .bool false, .int .i64 0] 136)));obtain⟨g,o,xJ,b⟩:=cP br.c9 (br.fz 9) br ar;clear a ar el br c;go_wp2;go_ret2;refine⟨w1.heap.size,rfl,by omega,?_,xJ.now _,((aa.ah _ b).trans (aa.alloc (λj=>j=k) w1 _) (λ_ h=> .inl h)).trans (aa.setCell (F:=λj=>j=k) _ (p:=(aD k 9)) rfl _) (λ_ h=> .inl h)⟩;exact(Below.heap_setCell _ _ _ _ (by show w1.heap.size≠k;omega)).trans (heap_alloc_new _ _)
  .simp only [if_true,ne_eq,show¬(5:Int)=0 by decide,not_false_eq_true];rw [m] at f;rcases f with ⟨_,h0⟩|⟨t,rfl,i,c⟩
   .cases h0
   .go_in;go_wp2_with fail;refine bJ a λw1 ar=>?_;have el:=d.later ar;obtain⟨l,Wo,pd,b⟩:=cP el.c9 (iH ar i c) el ar;clear a ar el c;go_wp2;go_ret2;exact⟨rfl,pd,b⟩
 .rw [yR] at a;simp only [if_true,ne_eq,show¬(3:Int)=0 by decide,not_false_eq_true];go_in;go_wp2_with fail;refine bJ a λw1 ar=>?_;have pd:=(d.later ar);have b:=ar;clear a ar;go_wp2;go_ret2;exact⟨rfl,pd,b⟩
def KQ (hd:aC w F r s S) (h:iN w F X r s S k kl G pv ps hm nv) (aU:S.puts.length+1<=4000000000000):
  Calls prog 76 #[pQ k] w λe w'=>e= .returned (iV (G.L.sync S s).1)/\aC w' F r s (G.L.sync S s).2/\aa F w w':=by
 have b:=C5 hd h.lp (h.fO _ h.xl) aU;have d:=h.st.c1;generalize G.L.sync S s=Z at*;go_in;go_wp2_with fail;refine pz b λw1 hd _ c=>?_;have a:=(aH hd c);go_wp2;go_ret;exact⟨rfl,a⟩
def Z3 (w':World) (F X:Nat->Prop) (l:List Int) (e:Ending):Prop:=∃g c,e= .returned (.slice (some (aD g 0)) 512 c)/\(X g\/F g)/\ay w' 5 g c (bs l)
def Aj (hd:aC w F r s S) (h:iN w F X r s S k kl G pv ps hm nv) (PH:G.L.dead S=false) (b:Nat) (D:b<G.y.blocks) (aU:S.puts.length<=4000000000000) (Wp:ps.length<=4000000000000):
  Calls prog 136 #[pQ k,iV (b:Int)] w λe w'=>Z3 w' F X (G.block S b) e/\bW w w':=by
 have d:=ri h.pl.pv b (by omega);have Ya:=h.hs;have sB:=hd.ok.hi;obtain⟨f,lF,t,u,H,q⟩:=jH (jP (hd.later (ai (bi w.heap.size w))) (G.y.home+b) (by omega) (by omega)) (h.block PH D) h.st.c0 h.st.c3 h.st.c7 RM;clear h hd;cases v:jC ps b with
 |some l=>
  rw [v] at d lF;have a:=lF;clear lF f;go_in;go_wp2_with fail;refine d.mono ?_;rintro e w1 ⟨n,o⟩;subst o;rcases n with ⟨h0,_⟩|⟨E,g,c,m,rfl,C,i⟩
  .cases h0
  cases m;have z:=i;clear d i;go_wp2;go_ret;refine⟨⟨g,c,rfl, .inl C,?_⟩,bi _ _⟩;rw [<-a];exact z
 |none=>
  rw [v] at d lF;have a:=lF;clear lF;have ut:((G.y.home+b:Nat):Int)=(G.y.home:Int)+(b:Int):=by omega
  rw [ut] at f;go_in;go_wp2_with fail;refine d.mono ?_;rintro e w1 ⟨n,o⟩;subst o;rcases n with ⟨_,rfl⟩|⟨E,g,c,m,_⟩
  .have yx:IntKind.i64.wrap ((G.y.home:Int)+(b:Int))=(G.y.home:Int)+(b:Int):=(by rw [IntKind.wrap_i64];omega);rw [<-yx] at f;have x:=f;clear d f yx;go_wp2_with fail;clear q;go_region_held3 (λw'=>w'.cell? (aD k 0)=some (pQ r)/\w'.cell? (aD k 3)=some (iV (G.y.home:Int)))
    (first|exact⟨t,u⟩|exact p)
      ((go_at_call 40;refine x.mono ?_;rintro e j ⟨g,c,rfl,A,i,dN⟩;have p:j.cell? (aD k 0)=some (pQ r)/\j.cell? (aD k 3)=some (iV (G.y.home:Int)):=(by rw [dN];exact⟨t,u⟩);have fB:ay j 5 g c (bs (S.now (G.y.home+b))):=(by rw [dN];exact i);have bd:bW w1 j:=(by rw [dN];exact ai (bi _ _));clear dN i))
   go_wp2;go_ret;refine⟨⟨g,c,rfl, .inr A,?_⟩,bd⟩;rw [<-a];exact fB
  .cases m
end
end
def vG.meets {m:Nat} {ms:CM} {D:DataW Value} (h:vG w m ms D) {ca:Array Value} {b:Lit} {y:DataW Value} {j:List MemPlace} (gW:keyOf prog 3 (iV x)=some b) (g:Ra (.agg ca)=some (y,j)) (it:∀zd,D.atKey b zd=y):
  ∃(k:Nat) (c:List Int),x=(k:Int)/\b=kk k/\CM.get ms k=some c/\Value.agg ca=cV c:=by
 obtain⟨k,i,ox,f⟩:=h.met gW it;obtain⟨c,d⟩:=Option.isSome_iff_exists.1 f;refine⟨k,c,i,ox,d,?_⟩;have a:=(h.at' k c d).2 (.held (.bool false));rw [<-ox,it] at a;obtain⟨e,_⟩:=Er g;rw [e] at a;exact ur a
def GW:prog.eqGuardType prog.depth 101=false:=by kernel_rfl
def Sg (l m:List Int) (a:l.length=512) (b:m.length=512) (w:World) (x y:Operand):
    (do eqGuard .eql 101 x y (.agg (bs l).toArray) (.agg (bs m).toArray);binOp .eql 101 (.agg (bs l).toArray) (.agg (bs m).toArray)).run prog w= .ok (.bool (decide (l=m))) w:=by
 rw [Sem.run_bind,run_eqGuard_agg (P:=prog) w .eql 101 x y _ _ GW,Result.andThen_ok];show (binOp .eql 101 (.agg (bs l).toArray) (.agg (bs m).toArray)).run prog w=_;unfold binOp Op.equal Op.maxDepth;rw [Sem.run_bind,JT 512 9998 101 l m a b w underlying101,Result.andThen_ok,Sem.run_pure]
def Sh (l m:List Int) (a:l.length=512) (b:m.length=512) (w:World) (x y:Operand):
    (do eqGuard .neq 101 x y (.agg (bs l).toArray) (.agg (bs m).toArray);binOp .neq 101 (.agg (bs l).toArray) (.agg (bs m).toArray)).run prog w= .ok (.bool (!decide (l=m))) w:=by
 rw [Sem.run_bind,run_eqGuard_agg (P:=prog) w .neq 101 x y _ _ GW,Result.andThen_ok];show (binOp .neq 101 (.agg (bs l).toArray) (.agg (bs m).toArray)).run prog w=_;unfold binOp Op.equal Op.maxDepth;rw [Sem.run_bind,JT 512 9998 101 l m a b w underlying101,Result.andThen_ok,Sem.run_pure]
def sf {b:Array Oper} {rest:List Oper} {c:Oper} {a:Act} {Q:Exit->Act->World->Prop} (Gh:c.guard=none) (x y:Operand) (T:TypeId) (j:c.op= .binOp .eql 101 x y T)
    (A C:List Value) (l m:List Int) (d:A=bs l) (e:C=bs m) (n:a.eval x= .agg A.toArray) (o:a.eval y= .agg C.toArray) (g:l.length=512) (i:m.length=512) (v:Bool) (k:decide (l=m)=v)
    (h:wpList prog b Q rest (a.put c.dst (.bool v)) w):wpList prog b Q (c :: rest) a w:=
 wpList_plain Gh λK f=>by
  subst d e k;unfold Oper.wp execOp;simp only [j,n,o];have:=Sg l m g i w x y;rw [Sem.run_bind,this];exact f _ _ h
def sh {b:Array Oper} {rest:List Oper} {c:Oper} {a:Act} {Q:Exit->Act->World->Prop} (Gh:c.guard=none) (x y:Operand) (T:TypeId) (j:c.op= .binOp .neq 101 x y T)
    (A C:List Value) (l m:List Int) (d:A=bs l) (e:C=bs m) (n:a.eval x= .agg A.toArray) (o:a.eval y= .agg C.toArray) (g:l.length=512) (i:m.length=512) (v:Bool) (k:(!decide (l=m))=v)
    (h:wpList prog b Q rest (a.put c.dst (.bool v)) w):wpList prog b Q (c :: rest) a w:=
 wpList_plain Gh λK f=>by
  subst d e k;unfold Oper.wp execOp;simp only [j,n,o];have:=Sh l m g i w x y;rw [Sem.run_bind,this];exact f _ _ h
def TG.put (T:TG) (G:SG) (S:DS) (b:Int) (d:List Int):Int×TG:=
 if T.refusal G S b≠0 then (T.refusal G S b,T) else if d.length≠512 then (2,T) else if d=T.j3 G S b.toNat then (0,T)
 else if (CM.get T.puts b.toNat).isSome=false/\T.puts.length=16 then (50,{T with bad:=50}) else (0,{T with puts:=CM.put T.puts b.toNat d})
section
def Ak (w w':World) (F:Nat->Prop) (p s c q t n:Nat) (S:DS) (r:Int×TG) (e:Ending):Prop:=
 e= .returned (iV r.1)/\w'.heap[t]? =some (.cells (B4 q n r.2) 98 (0,0))/\Ch w' n r.2.puts/\B.ax w' F p s S c/\aa (λk=>F k\/k=t\/k=n) w w'
def KR (g:Option (List Int)) (a:∀c,g=some c->c.length=512):∃CL:List Value,adu g= .agg CL.toArray/\CL.length=512/\CL.toArray.all Value.oneCell'=true/\(prog.info? 101).map (·.size)=some CL.length:=by
 cases g with
 |none=>exact⟨bs (zs 512),rfl,by rw [bs,jF,bH],all_oneCell_toArray (cF _),eU (bH 512)⟩
 |some c=>exact⟨bs c,rfl,by rw [bs,jF,a c rfl],all_oneCell_toArray (cF _),eU (a c rfl)⟩
def EA (w:World) {A:List Value} (a:A.length=512):bW w ((w.alloc (.cells bo 101)).setCells w.heap.size 0 A)/\(w.alloc (.cells bo 101)).there w.heap.size 0 A.length:=by
 have bT:(w.alloc (.cells bo 101)).heap[w.heap.size]? =some (.cells bo 101 (0,0)):=heap_alloc_new _ _;have bN:bW w (w.alloc (.cells bo 101)):=(bi _ w).alloc (bR _) _;refine⟨bN.trans ((aa.setCells (F:=λj=>j=w.heap.size) rfl A 0 _).below (λj b=>by omega) bN.size),?_⟩;rw [a];exact(cH bT cT)
section
variable {w w':World} {F:Nat->Prop} {p s cR q l m t n:Nat} {S:DS} {G:SG} {T:TG}
def Wq (h:iw w F p s cR q l m S G) (W:mL w F q l m t n G T) (b:Int) (a:Option Addr) (x c:Nat) (d:List Int) (U:Src w a x d) (hx:x<=140737488355328) (xQ:Bytes d) (aU:S.puts.length+1<=4000000000000):
  Calls prog 81 #[pQ t,iV b, .slice a x c] w λe w'=>Ak w w' F p s (cR+1) q t n S (T.put G S b d) e:=by
 obtain⟨h1,HS,HT,US,HX⟩:=eQ (Ag h W b) (yh h) (yh W) U.1 (yh U);have Al:∀w1,bW w w1->∀z:Int,Ak w w1 F p s (cR+1) q t n S (z,T) (.returned (iV z)):=λw1 ar z=>⟨rfl,(HT.o.later ar).tx,(HT.o.later ar).ch,(HS.o.d.later ar).le (by omega),aa.ah _ ar⟩;have Yc:=yh Al;obtain⟨R,i⟩:=bP (T.put G S b d);rw [<-i];unfold TG.put at i;go_in;go_wp2_with fail;by_cases k:T.refusal G S b=0
 .rw [aB (λh=>h k)] at i;obtain⟨r1,r2,r3,r4,r5⟩:=iY k;obtain⟨b,rfl⟩:∃b':Nat,b=(b':Int):=⟨b.toNat,by omega⟩;rw [k] at h1;rw [mx] at i;refine bJ h1 λw1 ar=>?_;by_cases H:d.length=512
  .rw [aB (λh=>h H)] at i;have xR:=yh i;clear i;obtain rfl:x=512:=(by omega);obtain⟨b0,o0,rfl⟩:=cZ U (by omega);have hb:b<G.y.blocks:=(by omega);obtain⟨f,R2,FB,hLt⟩:=cP (Ah h W b hb) jm (vN r1) h.d.lt;have iM:=yh hLt;have Zy:=Ad (some (aD b0 o0)) c;have aW:=eU H;have dD:=cF d;obtain⟨A,hA⟩:=bP (bs d);rw [<-hA] at aW dD;have qA:A.length=512:=(by rw [hA,bs,jF,H]);have bX:=all_oneCell_toArray dD;have I:=yh hA;have HR:=yh (aH r1 (aH r2 r3));clear h W U Al k r1 r2 r3 r4 r5 dD hA hLt;have adE:w1.rangeAt b0 o0 A:=(by rw [I.o];exact nK (HX.o.later ar));have bj:=eY w1 H;rw [<-I.o] at bj;have eh:=bj.2.2;obtain⟨wB,Wr⟩:=bP ((w1.alloc (.cells bo 101)).setCells w1.heap.size 0 A);have GX:bW w wB:=ar.trans (by rw [Wr];exact bj.2.1.mono ar.size);have aV:kh wB 101 w1.heap.size d:=(by rw [Wr];exact bj.1);obtain⟨dE,h2,K,adF,HwB⟩:=eQ ar.size (GV (HS.o.later GX) (HT.o.later GX) b hb FB aU) (yh GX) (yh aV) (yh Wr);clear h1 ar bj GX aV Wr
   go_upto_region 7 with (first|refine wpList_load_mid rfl 101 _ rfl b0 o0 rfl A _ adE underlying101 rfl aW ?_|refine wpList_store_mid rfl 101 _ _ rfl w1.heap.size 0 A.toArray rfl rfl ?h1 ?h2 bX ?_)
   case h1=>first|simpa using eh|(rw [qA] at eh;simpa using eh)
   case h2=>simpa using aW
   have aiB:=HwB.o;subst aiB;generalize On:(w1.alloc (.cells bo 101)).setCells w1.heap.size 0 A=wB at*;clear On adE eh HwB Zy;unfold cV at h2;obtain⟨C,hC⟩:=bP (bs (T.j3 G S b));rw [<-hC] at h2;have Z:=yh hC;clear hC;go_wp2_with fail;refine fQ h2 λu cI aY=>?_;obtain⟨em,hzB,bj,mb,wY⟩:=eQ aY.size adF.o.lt (eY u f) (eU f) (cF (T.j3 G S b));rw [<-Z.o] at bj mb wY;have Z4:C.length=512:=(by rw [Z.o,bs,jF,f]);have GY:=all_oneCell_toArray wY;have eh:=bj.2.2;have iu:¬F w1.heap.size:=λhf=>by have:=iM.o _ hf;omega
   obtain⟨r,Ws⟩:=bP ((u.alloc (.cells bo 101)).setCells u.heap.size 0 C);have Jp:bW u r:=(by rw [Ws];exact bj.2.1);have C7:kh r 101 u.heap.size (T.j3 G S b):=(by rw [Ws];exact bj.1);have Am:=(adF.o.aw (aY.block _ hzB iu)).aw (Jp.block _ (by omega));have raA:r.rangeAt w1.heap.size 0 A:=λj v O=>by
    have:=Am.news j v (by rw [<-I.o];exact O);rwa [aN] at this
   have Q:r.rangeAt u.heap.size 0 C:=λj v O=>by
    have:=C7.news j v (by rw [<-Z.o];exact O);rwa [aN] at this
   have hsD:=((HS.o.later K.o).asked cI aY).later Jp;have htD:=((HT.o.later K.o).asked aY).later Jp;have Yd:=yh (((aa.ah F K.o).trans aY (λ_ h=> .inl h)).trans (aa.ah (λ_=>False) Jp) (λ_ h=>h.elim):aa F w r);obtain⟨HsD,g,N,Y,hzD⟩:=eQ (yh hsD) (yh htD) (yh Ws) (yh Am) Jp.size;clear h2 cI aY bj wY Jp C7 Am hsD htD Ws;by_cases X:d=T.j3 G S b
   .have dv:=decide_eq_true X;have UT:=yh X;clear X;have Z5:=N.o;subst Z5;go_wp2_with (first|refine wpList_store_mid rfl 101 _ _ rfl u.heap.size 0 C.toArray rfl rfl ?h1 ?h2 GY ?_|refine wpList_load_mid rfl 101 _ rfl w1.heap.size 0 rfl A _ raA underlying101 rfl aW ?_|refine wpList_load_mid rfl 101 _ rfl u.heap.size 0 rfl C _ Q underlying101 rfl mb ?_|refine sf rfl _ _ _ rfl A C d (T.j3 G S b) I.o Z.o rfl rfl H f true dv ?_);case h1=>first|simpa using eh|(rw [Z4] at eh;simpa using eh)
    case h2=>simpa using mb
    go_ret;rw [xR.o,aG UT.o];exact⟨rfl,g.o.tx,g.o.ch,HsD.o.d,Yd.o.mono (λ_ h=> .inl h)⟩
   .have dv:=decide_eq_false X;have UT:=yh X;clear X;have Z5:=N.o;subst Z5
    go_upto_region 12 with (first|refine wpList_store_mid rfl 101 _ _ rfl u.heap.size 0 C.toArray rfl rfl ?h3 ?h4 GY ?_|refine wpList_load_mid rfl 101 _ rfl w1.heap.size 0 rfl A _ raA underlying101 rfl aW ?_|refine wpList_load_mid rfl 101 _ rfl u.heap.size 0 rfl C _ Q underlying101 rfl mb ?_|refine sf rfl _ _ _ rfl A C d (T.j3 G S b) I.o Z.o rfl rfl H f false dv ?_)
    case h3=>first|simpa using eh|(rw [Z4] at eh;simpa using eh)
    case h4=>simpa using mb
    generalize On:(u.alloc (.cells bo 101)).setCells u.heap.size 0 C=r at*;clear On eh N Q;have bd:b<2048:=(by have:=HS.o.hs;have:=HS.o.d.ok.hi;omega);have gX:=g.o.ch.look b bd;obtain⟨CL,hcv,adH,adI,Z6⟩:=KR (CM.get T.puts b) (λc hc=>(g.o.ch.len _ (CM.get_mem hc)).2.1);rw [hcv] at gX;have bj:=EA r adH;have eh:=bj.2;have c1:=g.o.c1;obtain⟨J,P⟩:=bP ((r.alloc (.cells bo 101)).setCells r.heap.size 0 CL);have D:bW r J:=(by rw [P];exact bj.1);obtain⟨M,MO,Ye,L,HwE⟩:=Ve (HsD.o.later D) (g.o.later D) (Yd.o.trans (aa.ah (λ_=>False) D) (λ_ h=>h.elim):aa F w J) (Y.o.aw (D.block _ (aq Y.o)):kh J 101 w1.heap.size d) P;clear bj D P hcv
    go_upto_region 13 with (refine wpList_store_mid rfl 101 _ _ rfl r.heap.size 0 CL.toArray rfl rfl ?h5 ?h6 adI ?_)
    case h5=>first|simpa using eh|(rw [adH] at eh;simpa using eh)
    case h6=>simpa using Z6
    have aiH:=HwE.o;subst aiH;generalize On:(r.alloc (.cells bo 101)).setCells r.heap.size 0 CL=J at*;clear On eh HwE gX c1;have c1:=MO.o.c1;have al3:=λty=>MO.o.ch.length ty;by_cases Z7:(CM.get T.puts b).isSome=false/\T.puts.length=16
    .have ka:=Z7.1;have kb:((T.puts.length:Int) == 16)=true:=(by rw [beq_iff_eq];omega);have h3:=C6 M.o MO.o 50;have e3:T.mM G S 50=(50,{T with bad:=50}):=by
      unfold TG.mM TG.state TG.bU;rw [HR.o.1,HR.o.2.1,HR.o.2.2];simp
     rw [e3] at h3;have CT:=yh Z7;clear Z7 e3;go_wp2_with fail;refine fQ h3 λw4 h4 h5=>?_;have HN:Yh (Ak w w4 F p s (cR+1) q t n S (50,{T with bad:=50}) (.returned (iV 50))):=⟨rfl,h4,MO.o.ch.aw h5 (λe=>MO.o.tn e.symm),M.o.d.aw h5 (λk hk e=>MO.o.nt (e▸hk)),(Ye.o.mono (λ_ h=> .inl h)).trans h5 (λ_ e=> .inl (.inr (.inl e)))⟩;clear h3 h4 h5;go_wp2;go_ret;rw [xR.o,aB UT.o,aG CT.o];exact HN.o
    .have Z8:=MO.o.ch.later (ai (bi _ _));obtain⟨wU,bI,ny,B5,Ot⟩:=Z8.store b bd d H xQ;have Si:(Instr.mapUpdate 93 (.map (some n)) (iV (b:Int)) (.agg A.toArray)).run prog J.drew= .ok () wU:=(by rw [I.o];exact bI);have raE:J.rangeAt w1.heap.size 0 A:=λj v O=>by
      have:=L.o.news j v (by rw [<-I.o];exact O);rwa [aN] at this
     have KS:=(aa.ah (λk=>k=n) (ai (bi J.heap.size J))).trans B5 (λ_ h=> .inl h);have HN:Yh (Ak w wU F p s (cR+1) q t n S (0,{T with puts:=CM.put T.puts b d}) (.returned (iV 0))):=⟨rfl,(KS.block t (aq MO.o.tx) MO.o.tn).trans MO.o.tx,ny,M.o.d.aw KS (λk hk e=>MO.o.nn (e▸hk)),(Ye.o.mono (λ_ h=> .inl h)).trans KS (λ_ e=> .inl (.inr (.inr e)))⟩;have CT:=yh Z7;have HC1:=yh c1;have ao7:=underlying101;have aiI:w1.heap.size≠n:=(by have:=HT.o.ch.lt;omega);have Yf:=L.o.aw (KS.block _ (aq L.o) aiI);have Z9:Yh (wU.cell? (aD t 1)=some (.map (some n))/\wU.rangeAt w1.heap.size 0 A):=⟨bG ((KS.block t (aq MO.o.tx) MO.o.tn).trans MO.o.tx),λj v O=>by
      have:=Yf.news j v (by rw [<-I.o];exact O);rwa [aN] at this⟩
     clear Yf;cases hg:(CM.get T.puts b).isSome
     .have kb:((T.puts.length:Int) == 16)=false:=by
       rw [fy];intro e;exact Z7 ⟨hg,by omega⟩
      clear Z7 Z8 bI ny B5 KS;go_wp2_with fail;go_region_held3 (λw'=>w'.cell? (aD t 1)=some (.map (some n))/\w'.rangeAt w1.heap.size 0 A) (first|exact⟨HC1.o,raE⟩|exact Z9.o) (fail);go_wp2;go_ret;rw [xR.o,aB UT.o,aB CT.o];exact HN.o
     .clear Z7 Z8 bI ny B5 KS;go_wp2_with fail;go_region_held3 (λw'=>w'.cell? (aD t 1)=some (.map (some n))/\w'.rangeAt w1.heap.size 0 A) (first|exact⟨HC1.o,raE⟩|exact Z9.o) (fail);go_wp2;go_ret;rw [xR.o,aB UT.o,aB CT.o];exact HN.o
  .rw [aG H] at i;have xR:=yh i;clear i;have dx:((x:Int) != 512)=true:=(by rw [gg];omega);clear h W U Al k r1 r2 r3 r4 r5 H;have HB:=yh ar;clear h1 ar;go_wp2;go_ret;rw [xR.o];exact Yc.o _ HB.o 2
 .rw [aG k] at i;have xR:=yh i;clear i;have dk:(T.refusal G S b != 0)=true:=by rw [gg];exact k
  clear h W U Al k;generalize T.refusal G S b=E at*;refine bJ h1 λw1 ar=>?_;have HB:=yh ar;clear h1 ar;go_wp2;go_ret;rw [xR.o];exact Yc.o _ HB.o E
end
end
def KT (ms ns X:CM) (left:Lit->Bool):Prop:=∀k,CM.get X k=if left (kk k)=false/\(CM.get ns k).isSome=true then CM.get ns k else CM.get ms k
def Ou {m:Nat} {ms ns:CM} {D:DataW Value} (h:Ch w m ms) (t:vG w n ns D) (q:m≠n):
  Calls prog 175 #[.map (some m), .map (some n)] w λe w'=>e= .returned (.tuple #[])/\Ch w' m (CM.bU ms ns)/\aa (λk=>k=m) w w':=by
 obtain⟨Cs,R2,H,i⟩:=cP h.lt jm t h;clear h t;go_in;go_wp2_with (at_range;refine wpList_range_own _ rfl _ 93 rfl 3 101 gu underlying93 Ra n ns.length D rfl H.own ?_;intro w0 pG vd yM;go_frame);have fR:=(bi _ w).grown vd (bR _) (λj b=>by cases b);clear vd;go_loopw [4] (λ_ wr=>∃(left:Lit->Bool) (eu:Nat) (X:CM),wr.ranges prog 3 Ra n w.heap.size ns.length D left eu/\Ch wr m X/\KT ms ns X left/\aa (λk=>k=m) w wr/\w.heap.size+1<=wr.heap.size)
    (λ_ wr=>wr.rangeLeft n w.heap.size)
 case atStart=>
  refine⟨_,_,ms,pG,i.later fR,λk=>?_,aa.ah _ fR,by omega⟩;rw [aB];rintro ⟨h1,h2⟩;obtain⟨c,u⟩:=Option.isSome_iff_exists.1 h2;rw [(H.at' k c u).1] at h1;cases h1
 case round=>
  clear pG fR yM;obtain⟨left,eu,X,mU,a,PQ,fb,eM⟩:=hrel;go_wp2_with (at_next;refine wpList_next_ranges _ rfl _ rfl 3 gu Ra (Value.int .i64) Value.agg (λy C gW=>by obtain⟨x,rfl,_⟩:=Maps.keyOf_int_inv underlying3 gW;exact⟨x,rfl⟩) KH n w.heap.size ns.length _ _ _ rfl mU ?_ ?_)
  .intro _ ws;have p:X=CM.bU ms ns:=by
    refine CM.ext a.ok (CM.rh i.ok ns) (λk=>?_);rw [PQ k,CM.RG i.ok k H.ok,ws];cases E:CM.get ns k with
    |none=>simp
    |some c=>simp
   have l:=(aH (p▸a) fb);clear mU a PQ fb H i;go_wp2
   go_end0
   exact⟨rfl,l⟩
  .intro x ca C F I d pH gW Bl o it pj bq gh br Jb;obtain⟨k,c,rfl,rfl,Yg,tM⟩:=H.meets gW o it;have nU:=H.len _ (CM.get_mem Yg);injection tM with tM;have bj:=eY d nU.2.1;have aW:=eU nU.2.1;have dD:=cF c;obtain⟨A,f⟩:=bP (bs c);rw [<-f] at tM bj aW dD;have qA:A.length=512:=(by rw [f,bs,jF,nU.2.1]);have bX:=all_oneCell_toArray dD;subst tM;have MP:=a.agree (gh.block m a.lt (λe=>by injection e with e;omega));have Sj:=fb.trans (G:=λj=>j=w.heap.size) ⟨gh.os,gh.tape,gh.output,gh.size,λj b dM=>gh.block j b (λe=>dM (by injection e))⟩ (λj e=> .inr (by omega));obtain⟨s,FE⟩:=bP ((d.alloc (.cells bo 101)).setCells d.heap.size 0 A);have eh:=bj.2.2;have wX:bW d s:=(by rw [FE];exact bj.2.1);have r:s.rangeAt d.heap.size 0 A:=λj v o=>by
    rw [FE];have:=bj.1.news j v (by rw [<-f];exact o);rwa [aN] at this
   obtain⟨g,bI,ny,B5,Ot⟩:=(MP.later wX).store k nU.1 c nU.2.1 nU.2.2;have Si:(Instr.mapUpdate 93 (.map (some m)) (iV (k:Int)) (.agg A.toArray)).run prog s= .ok () g:=(by rw [f];exact bI);have adL:=(pj.kept (row:=none) ⟨wX.os,wX.tape,wX.output,wX.size,λj b _=>wX.block j b⟩ (λe=>by cases e) (λe=>by cases e)).kept (row:=some m) ⟨B5.os,B5.tape,B5.output,B5.size,λj b dM=>B5.block j b (λe=>dM (by rw [e]))⟩ (λe=>q (by injection e with e;exact e.symm)) (λe=>by injection e with e;omega);have Sk:KT ms ns (CM.put X k c) (λz=>left z && !z.sameKey (kk k)):=λj=>by
    show CM.get (CM.put X k c) j=if (left (kk j) && !(kk j).sameKey (kk k))=false/\(CM.get ns j).isSome=true then CM.get ns j else CM.get ms j;rw [CM.kF _ _ _ _ a.ok,PQ j,lI];by_cases e:j=k
    .subst e;simp [Yg]
    .simp [e]
   have l:(g.ranges prog 3 Ra n w.heap.size ns.length D (λz=>left z && !z.sameKey (kk k)) pH/\Ch g m (CM.put X k c)/\KT ms ns (CM.put X k c) (λz=>left z && !z.sameKey (kk k))/\aa (λk=>k=m) w g/\w.heap.size+1<=g.heap.size):=⟨adL,ny,Sk,(Sj.trans (aa.ah (λ_=>False) wX) (λ_ h=>h.elim)).trans B5 (λ_ h=> .inl h),by have:=wX.size;omega⟩;have ZV:=FE;clear gW o it br gh a MP PQ Sk fb Sj adL bI ny B5 Ot wX f dD Yg pj bj nU;subst FE;generalize bo=Z at*;go_wp2_with (first|refine wpList_store_mid rfl 101 _ _ rfl d.heap.size 0 A.toArray rfl rfl ?h1 ?h2 bX ?_|refine wpList_load_mid rfl 101 _ rfl d.heap.size 0 rfl A _ r underlying101 rfl aW ?_);case h1=>first|simpa using eh|(rw [qA] at eh;simpa using eh)
   go_roundw;case rel=>exact⟨_,pH,_,l⟩
   case measure=>rw [l.1.left_eq,mU.left_eq];exact bq
def C8 {m:Nat} {ms ns:CM} (h:Ch w m ms) (b:Ch w n ns) (a:m≠n):
  Calls prog 175 #[.map (some m), .map (some n)] w λe w'=>e= .returned (.tuple #[])/\Ch w' m (CM.bU ms ns)/\aa (λk=>k=m) w w':=by
 obtain⟨D,b⟩:=b;exact Ou h b a
section
namespace B
section
variable {w:World} {F:Nat->Prop} {p s l cR:Nat} {S:DS} {L:LG}
def Sl (h:ax w F p s S cR) (A:cY w l p L) (a:L.Ok s) (m:¬F l) (dO:S.fN) (aU:S.puts.length+3<=4000000000000):
  Calls prog 131 #[pQ l] w λe w'=>e= .returned (iV (L.trim S s).1)/\ax w' (more F w w') p s (L.trim S s).2.1 (cR+2)/\cY w' l p (L.trim S s).2.2/\aa (λk=>F k\/k=l) w w':=by
 obtain⟨i,iM,bq,R,iu⟩:=eQ (Ac h A m (by omega)) h.lt A.lt a.s a.n1;have x:=λ(M:(L.sync S s).1=0)=>a.hb (Kg M);have v:=a.ep;have Q:=nN L S s;have adN:=qd dO L s;unfold LG.trim;generalize L.sync S s=Z at*;have D:=(λ(N:Z.1=0) b (cI:ax b F p s Z.2 cR)=>KK cI L.f L.n L.ep L.head v (x N) (by omega) (by omega) (adN.now _) (adN.now _));by_cases c:Z.1=0
 .rw [aB (λh=>h c)];have J:(Z.1 == 0)=true:=by rw [beq_iff_eq];exact c
  have y:=(D c);by_cases C:L.tail=L.head
  .rw [aG C];have K:((L.tail:Int) == (L.head:Int))=true:=(by rw [beq_iff_eq];omega);go_in;go_wp2_with fail;refine pz i λw1 iP cu fh=>?_;have z:=cu.c6;have g:=cu.c7;go_wp2_with fail;go_quiet (fail);go_wp2;go_ret;exact⟨rfl,(λj=>aH (((iP.later (below_drewN (bi _ _) j)).more (w:=w)).le (by omega:cR<=cR+2)) (aH (cu.later (below_drewN (bi _ _) j)) ((fh.mono (λ_ h=> .inl h)).trans (aa.ah (λ_=>False) (below_drewN (bi w1.heap.size w1) j)) (λ_ h=>h.elim):aa (λk=>F k\/k=l) w (w1.drewN j)))) _⟩
  .rw [aB C];have K:((L.tail:Int) == (L.head:Int))=false:=(by rw [fy];omega);generalize P:dg Z.2 s L.f ((L.ep:Int)*4294967296+(L.head:Int))=Y at*;by_cases k:Y.1=0
   .rw [aB (λh=>h k)];have d:(Y.1 == 0)=true:=(by rw [beq_iff_eq];exact k);go_in;go_wp2_with fail;refine pz i λw1 iP cu fh=>?_;obtain⟨z,g,q,r,t,u⟩:=jH cu.c6 cu.c7 cu.c0 cu.c1 cu.c2 cu.c5;go_wp2_with fail;go_quiet (fail);go_wp2_with fail;go_region_held3 (λw'=>w'.cell? (aD l 0)=some (pQ p)/\w'.cell? (aD l 1)=some (iV (L.f:Int))/\w'.cell? (aD l 2)=some (iV (L.n:Int))/\w'.cell? (aD l 5)=some (iV (L.ep:Int))/\w'.cell? (aD l 7)=some (iV (L.head:Int)))
     (first|exact⟨q,r,t,u,g⟩|exact⟨jg.c0,jg.c1,jg.c2,jg.c5,jg.c7⟩)
       ((go_at_call 105;refine(y _ (iP.later (below_drewN (bi _ _) (nq+1)))).mono ?_;rintro e b ⟨rfl,cI,aY⟩;have aZ:=fh.trans (aa.ah (λ_=>False) (below_drewN (bi w1.heap.size w1) (nq+1))) (λ_ h=>h.elim);have iq:=cu.later (below_drewN (bi w1.heap.size w1) (nq+1));have jg:=iq.aw aY m))
    generalize w1.drewN (nq+1)=o at*;obtain⟨lq,em,O,H,I⟩:=eQ aZ.size aY.size (jg.fz 6) jg.c6 jg.c7;have dM:∀k,more F o b k->¬k=l:=λk a e=>by
     subst e;rcases a with a|a
     .exact m a
     .omega
    have eM:(b.setCell ⟨l,6,none⟩ (.int .i64 (L.head:Int))).heap.size=b.heap.size:=(by simp [World.setCell]);have E:=(aH (((cI.aw (aL (F:=λk=>k=l) b rfl 6 (iV (L.head:Int))) dM).mono (G:=more F w (b.setCell ⟨l,6,none⟩ (.int .i64 (L.head:Int)))) (λk a=>by
      rcases a with a|a
      .exact .inl a
      .exact .inr ⟨by omega,by rw [eM];exact a.2⟩) (cK (F:=F) (w:=w) iM (by rw [eM];omega)))) (aH jg.trimmed (((aZ.mono (λ_ h=> .inl h):aa (λk=>F k\/k=l) w o).trans aY (λ_ h=> .inl (.inl h))).trans (aL (F:=λk=>k=l) b rfl 6 (iV (L.head:Int))) (λ_ h=> .inl (.inr h)))))
    go_wp2;go_ret;exact⟨rfl,E⟩
   .rw [aG k];have d:(Y.1 == 0)=false:=(by rw [fy];exact k);go_in;go_wp2_with fail;refine pz i λw1 iP cu fh=>?_;obtain⟨z,g,q,r,t,u⟩:=jH cu.c6 cu.c7 cu.c0 cu.c1 cu.c2 cu.c5;go_wp2_with fail;go_quiet (fail);go_wp2_with fail;go_region_held3 (λw'=>w'.cell? (aD l 0)=some (pQ p)/\w'.cell? (aD l 1)=some (iV (L.f:Int))/\w'.cell? (aD l 2)=some (iV (L.n:Int))/\w'.cell? (aD l 5)=some (iV (L.ep:Int))/\w'.cell? (aD l 7)=some (iV (L.head:Int)))
     (first|exact⟨q,r,t,u,g⟩|exact⟨jg.c0,jg.c1,jg.c2,jg.c5,jg.c7⟩)
       ((go_at_call 105;refine(y _ (iP.later (below_drewN (bi _ _) (nq+1)))).mono ?_;rintro e b ⟨rfl,cI,aY⟩;have aZ:=fh.trans (aa.ah (λ_=>False) (below_drewN (bi w1.heap.size w1) (nq+1))) (λ_ h=>h.elim);have iq:=cu.later (below_drewN (bi w1.heap.size w1) (nq+1));have jg:=iq.aw aY m))
    generalize w1.drewN (nq+1)=o at*;go_wp2;go_ret;exact⟨rfl,(aH (cI.from iM aZ.size aY.size) (aH jg ((aZ.mono (λ_ h=> .inl h):aa (λk=>F k\/k=l) w o).trans aY (λ_ h=> .inl (.inl h)))))⟩
 .rw [aG c];have J:(Z.1 == 0)=false:=by rw [fy];exact c
  go_in;go_wp2_with fail;refine pz i λw1 iP cu fh=>?_;go_wp2;go_ret;exact⟨rfl,aH ((iP.more (w:=w)).le (by omega:cR<=cR+2)) (aH cu (fh.mono (λ_ h=> .inl h):aa (λk=>F k\/k=l) w w1))⟩
end
end B
end
end Go.Proofs.YtcpdggdfihjhoaaGreat
