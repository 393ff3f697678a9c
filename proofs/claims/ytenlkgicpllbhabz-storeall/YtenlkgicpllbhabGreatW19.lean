import Derived.Test.YtenlkgicpllbhabGreatW01
import Derived.Test.YtenlkgicpllbhabGreatW09
import Derived.Test.YtenlkgicpllbhabGreatW14
import Derived.Test.YtenlkgicpllbhabGreatW15
import Derived.Test.YtenlkgicpllbhabGreatW16
import Derived.Test.YtenlkgicpllbhabGreatW17
import Derived.Test.YtenlkgicpllbhabGreatW18
set_option maxRecDepth 20000
set_option maxHeartbeats 8000000
set_option linter.all false
namespace Go.Proofs.YtenlkgicpllbhabGreat
open Go.Proofs.Tryz
open Go.RowKit Go.Maps
variable {cs ov:CM} {S:DS} {L:LG} {y:LY} {rs:List (List Int)} {d l:List Int} {E P blocks c g i j k n p q s:Nat} {R:Nat->PC} {F X:Nat->Prop} {u v:Value} {w w':World}
theorem Es (a b:Nat) (f:Value) (x:Value) (w:World) (c:w.heap[a]? =some (.cells #[f] 50 (0,0))) (d:w.heap[b]? =some (.cells #[x] 46 (0,0))) (dG:a≠b):
  CallsD prog 42 #[.pointer (some ⟨a,0,none⟩), .pointer (some ⟨b,0,none⟩)] (.panicking CF) w λe i w'=>
   e= .returned (.tuple #[])/\i= .panicking [{v:= .iface 46 (.int .i64 6),recovered:=true}]/\w'=(w.setCell ⟨a,0,none⟩ (.pointer none)).setCell ⟨b,0,none⟩ (.int .i64 6):=by
 have ajK:¬b=a:=λe=>dG e.symm;refine callsD_of_wpS func42 rfl λj cs g=>?_;apply wpS_seq;apply wpS_region;simp [wpOpsS,go_sem,recoverD,g,ntmps42,Exit.thenS];refine wpS_cond (t:=true) (by simp [Act.eval,Array.replicate]) ?_;simp only [if_true];apply wpS_region;simp [wpOpsS,go_sem,aL c,ae c 0,aL d,ae d 0,bodyPostS,results,results42]
theorem kL (b c:Nat) (w:World):
  CallsD prog 42 #[.pointer (some ⟨b,0,none⟩), .pointer (some ⟨c,0,none⟩)] .returning w λe f w'=>e= .returned (.tuple #[])/\f= .returning/\w'=w:=by
 refine callsD_of_wpS func42 rfl λa cs d=>?_;apply wpS_seq;apply wpS_region;simp [wpOpsS,go_sem,recoverD,d,ntmps42,Exit.thenS];refine wpS_cond (t:=false) (by simp [Act.eval,Array.replicate]) ?_;simp only [Bool.false_eq_true,if_false];refine wpS_of_wp (wp_skip ?_);cases a
 simp_all [bodyPostS,results,results42]
def jP (S:DS) (s:Nat) (x:Int) (S':DS):Prop:=
   (Sw S s XX x/\x≠0/\S'=S)\/
   (lT (S.now 0) s/\S.fuse≠0/\(((bu S s 1 ((cz (S.now 0)).log:Nat)).1=x/\x≠0/\S'=(bu S s 1 ((cz (S.now 0)).log:Nat)).2)\/
    ((bu S s 1 ((cz (S.now 0)).log:Nat)).1=0/\∃rs hd,jH S 1 (cz (S.now 0)).log rs hd/\
     ((rdAll (cz (S.now 0)).blocks [] rs=none/\x=6/\S'=(bu S s 1 ((cz (S.now 0)).log:Nat)).2)\/
    ∃ov,rdAll (cz (S.now 0)).blocks [] rs=some ov/\
       (((ee (bu S s 1 ((cz (S.now 0)).log:Nat)).2 s (cz (S.now 0)) ov rs).1=x/\x≠0/\S'=(ee (bu S s 1 ((cz (S.now 0)).log:Nat)).2 s (cz (S.now 0)) ov rs).2)\/
        ((ee (bu S s 1 ((cz (S.now 0)).log:Nat)).2 s (cz (S.now 0)) ov rs).1=0/\((eZ S 1 (cz (S.now 0)).log hd).start (ee (bu S s 1 ((cz (S.now 0)).log:Nat)).2 s (cz (S.now 0)) ov rs).2 s).1=x/\S'=((eZ S 1 (cz (S.now 0)).log hd).start (ee (bu S s 1 ((cz (S.now 0)).log:Nat)).2 s (cz (S.now 0)) ov rs).2 s).2.1))))))
theorem aeC {a:World} (bm:∀k,F k->k<w.heap.size) (fy:w.heap.size+1<a.heap.size) (o8:a.heap[w.heap.size]? =some (.cells #[.pointer none] 50 (0,0))) (fU:a.heap[w.heap.size+1]? =some (.cells #[.int .i64 0] 46 (0,0))) (hd:B.ax a F p s S c) (i:aa F w a) (x:Int) (o:Obj):
    ((a.setCell ⟨w.heap.size+1,0,none⟩ (.int .i64 x)).alloc o).heap[w.heap.size]? =some (.cells #[.pointer none] 50 (0,0))/\((a.setCell ⟨w.heap.size+1,0,none⟩ (.int .i64 x)).alloc o).heap[w.heap.size+1]? =some (.cells #[.int .i64 x] 46 (0,0))/\((a.setCell ⟨w.heap.size+1,0,none⟩ (.int .i64 x)).alloc o).heap[a.heap.size]? =some o/\B.ax ((a.setCell ⟨w.heap.size+1,0,none⟩ (.int .i64 x)).alloc o) F p s S c/\aa F w ((a.setCell ⟨w.heap.size+1,0,none⟩ (.int .i64 x)).alloc o)/\((a.setCell ⟨w.heap.size+1,0,none⟩ (.int .i64 x)).alloc o).heap.size=a.heap.size+1:=by
 have b:=aa.setCell (F:=λk=>k=w.heap.size+1) a (p:=⟨w.heap.size+1,0,none⟩) rfl (.int .i64 x);have f:=size_setCell a ⟨w.heap.size+1,0,none⟩ (.int .i64 x);have d:=Below.heap_alloc (a.setCell ⟨w.heap.size+1,0,none⟩ (.int .i64 x)) o;refine⟨(d _ (by omega)).trans ((b.block _ (by omega) (by omega)).trans o8),(d _ (by omega)).trans ?_,?_,?_,?_,by rw [World.size_alloc,f]⟩
 .rw [heap_setCell_same _ _ _ _ _ _ fU];rfl
 .rw [<-f];exact heap_alloc_new _ _
 .exact(hd.au b (λk g e=>by have:=bm _ g;omega)).boxed o
 .exact(i.trans b (λk e=> .inr (by omega))).trans (aa.alloc (λ_=>False) _ o) (λ_ h=>h.elim)
theorem oset {a:World} {y x:Int} (bm:∀k,F k->k<w.heap.size\/w.heap.size+2<=k) (o8:a.heap[w.heap.size]? =some (.cells #[u] 50 (0,0))) (fU:a.heap[w.heap.size+1]? =some (.cells #[.int .i64 y] 46 (0,0))) (hd:B.ax a F p s S c):
    ((a.setCell ⟨w.heap.size,0,none⟩ v).setCell ⟨w.heap.size+1,0,none⟩ (.int .i64 x)).heap[w.heap.size]? =some (.cells #[v] 50 (0,0))/\((a.setCell ⟨w.heap.size,0,none⟩ v).setCell ⟨w.heap.size+1,0,none⟩ (.int .i64 x)).heap[w.heap.size+1]? =some (.cells #[.int .i64 x] 46 (0,0))/\B.ax ((a.setCell ⟨w.heap.size,0,none⟩ v).setCell ⟨w.heap.size+1,0,none⟩ (.int .i64 x)) F p s S c/\aa (λk=>k=w.heap.size\/k=w.heap.size+1) a ((a.setCell ⟨w.heap.size,0,none⟩ v).setCell ⟨w.heap.size+1,0,none⟩ (.int .i64 x)):=by
 have b:=aa.setCell (F:=λk=>k=w.heap.size\/k=w.heap.size+1) a (p:=⟨w.heap.size,0,none⟩) (.inl rfl) v;have d:=aa.setCell (F:=λk=>k=w.heap.size\/k=w.heap.size+1) (a.setCell ⟨w.heap.size,0,none⟩ v) (p:=⟨w.heap.size+1,0,none⟩) (.inr rfl) (.int .i64 x);have f:(a.setCell ⟨w.heap.size,0,none⟩ v).heap[w.heap.size]? =some (.cells #[v] 50 (0,0)):=by
  rw [heap_setCell_same _ _ _ _ _ _ o8];rfl
 have g:(a.setCell ⟨w.heap.size,0,none⟩ v).heap[w.heap.size+1]? =some (.cells #[.int .i64 y] 46 (0,0)):=(Below.heap_setCell _ _ _ _ (by simp)).trans fU;refine⟨(Below.heap_setCell _ _ _ _ (by simp)).trans f,?_,?_,b.trans d (λ_ h=> .inl h)⟩
 .rw [heap_setCell_same _ _ _ _ _ _ g];rfl
 .exact hd.au (b.trans d (λ_ h=> .inl h)) (λk i e=>by have:=bm _ i;omega)
theorem OC (h:B.ax w F p s S c) (cZ:S.fC) (aT:S.puts.length+1<=4000000000000) (iZ:S.fuse=0\/¬lT (S.now 0) s):
  Calls prog 13 #[.pointer (some ⟨p,0,none⟩)] w λe w'=>∃x,e= .returned (.tuple #[.pointer none, .int .i64 x])/\jP S s x S/\B.ax w' F p s S (c+1)/\aa F w w':=by
 obtain⟨w1,bN⟩:=bQ ((w.alloc (.cells #[.pointer none] 50)).alloc (.cells #[.int .i64 0] 46));have bK:Below w.heap.size w w1:=by rw [bN];exact bY w _ _
 have rY:w1.heap.size=w.heap.size+2:=by rw [bN];simp
 have o8:w1.heap[w.heap.size]? =some (.cells #[.pointer none] 50 (0,0)):=by rw [bN];exact heap_alloc2_old _ _ _
 have fU:w1.heap[w.heap.size+1]? =some (.cells #[.int .i64 0] 46 (0,0)):=by rw [bN];exact heap_alloc2_new _ _ _
 have bm:=h.lt
 go_enter_defers func13,ntmps13
 go_wp2_with fail;rw [<-bN];refine(uo (h.later bK) cZ aT).mono ?_;rintro e i ⟨y,x,rfl,ox,cC,aX⟩;have ec:=aX.size;have rl:x≠0/\y=XX:=by
  rcases ox with ⟨_,b,D⟩|⟨C,b,_⟩|⟨_,_,b,D⟩
  .exact⟨by omega,b⟩
  .rcases iZ with h|h
   .exact absurd h C
   .exact absurd b h
  .exact⟨by omega,b⟩
 obtain⟨o,rfl⟩:=rl;have z:(jP S s x S):= .inl ⟨ox,o,rfl⟩;have Wo:=(aX.block w.heap.size (by omega) (λd=>by have:=bm _ d;omega)).trans o8;have Ia:=(aX.block (w.heap.size+1) (by omega) (λd=>by have:=bm _ d;omega)).trans fU;have n:(B.ax i F p s S (c+1)/\aa F w i):=⟨cC,(aa.ah F bK).trans aX (λ_ h=> .inl h)⟩;have N:=aL Ia;have O:=ae Ia 0;have A:(x != 0)=true:=by simp [o]
 have fy:w.heap.size+1<i.heap.size:=by omega
 obtain⟨l,m,_,E,G,_⟩:=aeC bm fy Wo Ia n.1 n.2 x (.cells #[.int .i64 0, .int .i64 0, .int .i64 0, .int .i64 0, .int .i64 0] 75)
 dsimp only [Pr]
 go_upto_region 3 with fail
 generalize (i.setCell ⟨w.heap.size+1,0,none⟩ (.int .i64 x)).alloc (.cells #[.int .i64 0, .int .i64 0, .int .i64 0, .int .i64 0, .int .i64 0] 75)=K at*;obtain⟨g,L,P,M,Q⟩:=ey ((aF l (aF m (aF E G)))) (aL l) (ae l 0) (aj m (j:=0) (u:= .int .i64 x) rfl) (ae m 0)
 go_upto_region 4 with fail
 go_region
 obtain⟨q,r,p3,H⟩:=oset (w:=w) (v:= .pointer none) (x:=x) (λk d=> .inl (bm k d)) g.1 g.2.1 g.2.2.1;generalize (K.setCell ⟨w.heap.size,0,none⟩ (.pointer none)).setCell ⟨w.heap.size+1,0,none⟩ (.int .i64 x)=a at*;have Up:Below a.heap.size a a.drew:=ai (bi _ _);have t:(B.ax a.drew F p s S (c+1)/\aa F w a.drew):=⟨p3.later Up,(g.2.2.2.trans H (λk e=> .inr (by omega))).trans (aa.ah (λ_=>False) Up) (λ_ h=>h.elim)⟩;have I:=aj ((Up.block _ (aw q)).trans q) (j:=0) (u:= .pointer none) rfl;have J:=aj ((Up.block _ (aw r)).trans r) (j:=0) (u:= .int .i64 x) rfl;generalize a.drew=w5 at*;go_wp2;refine leaves_cons (f:=42) (args:= #[.pointer (some ⟨w.heap.size,0,none⟩), .pointer (some ⟨w.heap.size+1,0,none⟩)]) (by simp) (by simp [go_sem]) ?_;refine(kL _ _ _).mono ?_;rintro e R Bh ⟨rfl,rfl,rfl⟩;simp [Leaves,settle,results,results13,go_sem,I,J];exact⟨z,t⟩
theorem sQ (h:L.Ok s) (h0:(L.start S s).1=0):(L.start S s).2.2.Ok s/\(L.start S s).2.2.begun=true:=by
 unfold LG.start at*;split
 .rename_i k;rw [aE k] at h0;cases h0
 .rename_i k;rw [aA k] at h0;split
  .rename_i a;rw [aE a] at h0;cases h0
  .rename_i a;rw [aA a] at h0;split
   .rename_i b;rw [aE b] at h0;exact absurd h0 b
   .have c:=h.top;exact⟨⟨h.s,h.n1,h.n2,by show L.top+1<=_;omega,h.top,bP _,by show 0<=_;omega,by show 0<=_;omega,λ_=>by show 0<=_;omega⟩,rfl⟩
theorem ur:∀{ks:List Nat} {l r:List Int} {cs:CM},rdCons ks l=some (cs,r)->Bytes l->∀x∈cs,Bytes x.2
 | [],l,r,cs,h,_=>by
  simp only [rdCons,Option.some.injEq,Prod.mk.injEq] at h;obtain⟨rfl,_⟩:=h;simp
 |k :: ks,l,r,cs,h,hb=>by
  rw [iw] at h;split at h
  .cases h
  .cases a:rdCons ks (l.drop 512) with
   |none=>rw [a] at h;cases h
   |some x=>
    rw [a] at h;simp only [Option.map_some,Option.some.injEq,Prod.mk.injEq] at h;obtain⟨rfl,rfl⟩:=h;intro z b;rcases List.mem_cons.1 b with rfl|b
    .exact hb.take 512
    .exact ur (cs:=x.1) (r:=x.2) a (hb.drop 512) z b
theorem ut {blocks:Nat}:∀{n b:Nat} {l r:List Int} {ks:List Nat},rdNums blocks n b l=some (ks,r)->Bytes l->Bytes r
 |0,b,l,r,ks,h,hb=>by
  simp only [rdNums,Option.some.injEq,Prod.mk.injEq] at h;obtain⟨_,rfl⟩:=h;exact hb
 |n+1,b,l,r,ks,h,hb=>by
  rw [kJ] at h;split at h
  .cases h
  .split at h
   .cases a:rdNums blocks n (le (l.take 4)+1) (l.drop 4) with
    |none=>rw [a] at h;cases h
    |some x=>
     rw [a] at h;simp only [Option.map_some,Option.some.injEq,Prod.mk.injEq] at h;obtain⟨_,rfl⟩:=h;exact ut (ks:=x.1) (r:=x.2) a (hb.drop 4)
   .cases h
theorem Ib (h:rdRec blocks d=some cs) (c:Bytes d):∀x∈cs,Bytes x.2:=by
 unfold rdRec at h;split at h
 .cases h
 .split at h
  .split at h
   .cases h
   .rename_i ks r e;cases b:rdCons ks r with
    |none=>rw [b] at h;cases h
    |some x=>
     obtain⟨g,f⟩:=x;rw [b] at h;cases f with
     |nil=>
      simp only [rdTail,Option.some.injEq] at h;subst h;exact ur b (ut e (c.drop 2))
     |cons a t=>cases h
  .cases h
theorem KT {ms:CM}:∀{cs:CM},(∀x∈ms,Bytes x.2)->(∀x∈cs,Bytes x.2)->∀x∈CM.bX ms cs,Bytes x.2:=by
 intro cs
 induction cs generalizing ms with
 |nil=>intro h _ x a;exact h x a
 |cons q c f=>
  intro d b;have e:CM.bX ms (q :: c)=CM.bX (CM.put ms q.1 q.2) c:=rfl;rw [e];refine f (λx a=>?_) (λx a=>b x (List.mem_cons_of_mem _ a));rcases CM.qL a with rfl|a
  .exact b q (by simp)
  .exact d x a
theorem qt {blocks:Nat}:∀{rs:List (List Int)} {ms ov:CM},rdAll blocks ms rs=some ov->(∀x∈ms,Bytes x.2)->(∀r∈rs,Bytes r)->∀x∈ov,Bytes x.2
 | [],ms,ov,h,hm,_=>by
  simp only [rdAll,Option.some.injEq] at h;subst h;exact hm
 |r :: rs,ms,ov,h,hm,hr=>by
  unfold rdAll at h;cases a:rdRec blocks r with
  |none=>rw [a] at h;cases h
  |some cs=>
   rw [a] at h;exact qt h (KT hm (Ib a (hr r (by simp)))) (λx b=>hr x (List.mem_cons_of_mem _ b))
theorem C4 (h:S.fC) (b:∀x∈ov,Bytes x.2):(ee S s y ov rs).2.fC:=by
 unfold ee;split
 .exact h
 .have a:=j6 h s y.home (ms:=ov) b;split
  .exact a
  .exact a.fl s
theorem KU (h0:(ee S s y ov rs).1=0):(ee S s y ov rs).2.puts.length<=S.puts.length:=by
 unfold ee at*;split
 .exact bP _
 .rename_i k;rw [aA k] at h0;split
  .rename_i a;rw [aE a] at h0;exact absurd h0 a
  .rename_i a;rw [aA a] at h0;rw [jf h0];exact dU _
theorem kh (h:lT (S.now 0) s):(cz (S.now 0)).home+(cz (S.now 0)).blocks<=s/\1+2+(cz (S.now 0)).log<=s/\18<=(cz (S.now 0)).log/\(cz (S.now 0)).log<=256/\(cz (S.now 0)).blocks<=2048:=by
 have d:=h.1.geo;have e:=h.2;unfold vq at d;unfold cz;simp only;generalize u32 (S.now 0) 8=a at*;generalize u32 (S.now 0) 12=b at*;generalize u32 (S.now 0) 16=c at*;omega
def sR (S:DS) (s:Nat) (L:LG):Prop:=∃rs hd ov,jH S 1 (cz (S.now 0)).log rs hd/\rdAll (cz (S.now 0)).blocks [] rs=some ov/\L=((eZ S 1 (cz (S.now 0)).log hd).start (ee (bu S s 1 ((cz (S.now 0)).log:Nat)).2 s (cz (S.now 0)) ov rs).2 s).2.2
def SK (w:World) (F:Nat->Prop) (p s c:Nat) (S:DS) (e:Ending) (w':World):Prop:=∃x S' cR,cR<=c+5+(cz (S.now 0)).log/\jP S s x S'/\aa F w w'/\((x≠0/\e= .returned (.tuple #[.pointer none,iV x])/\B.ax w' (more F w w') p s S' cR)\/(x=0/\∃q l m L F',sR S s L/\e= .returned (.tuple #[pQ q,iV 0])/\(∀k,F' k->more F w w' k)/\w.heap.size<=q/\w.heap.size<=l/\w.heap.size<=m/\ig w' F' p s cR q l m S' ⟨cz (S.now 0),L, [],false⟩))
theorem aeD {a:World} {y:Int} (x:Int) (bm:∀k,F k->k<w.heap.size\/w.heap.size+2<=k) (o8:a.heap[w.heap.size]? =some (.cells #[u] 50 (0,0))) (fU:a.heap[w.heap.size+1]? =some (.cells #[.int .i64 y] 46 (0,0))) (hd:B.ax a F p s S c):
    (a.setCell ⟨w.heap.size+1,0,none⟩ (.int .i64 x)).heap[w.heap.size]? =some (.cells #[u] 50 (0,0))/\(a.setCell ⟨w.heap.size+1,0,none⟩ (.int .i64 x)).heap[w.heap.size+1]? =some (.cells #[.int .i64 x] 46 (0,0))/\B.ax (a.setCell ⟨w.heap.size+1,0,none⟩ (.int .i64 x)) F p s S c/\aa (λk=>k=w.heap.size+1) a (a.setCell ⟨w.heap.size+1,0,none⟩ (.int .i64 x)):=by
 have b:=aa.setCell (F:=λk=>k=w.heap.size+1) a (p:=⟨w.heap.size+1,0,none⟩) rfl (iV x);refine⟨(Below.heap_setCell _ _ _ _ (by simp)).trans o8,?_,hd.au b (λk d e=>by have:=bm _ d;omega),b⟩;rw [heap_setCell_same _ _ _ _ _ _ fU];rfl
theorem aal (S:DS) (s n:Nat):B.rR S s 1 (n:Int)<=n+2:=by
 unfold B.rR;split <;> simp
theorem aeE {w5:World} {l:Nat} (bm:∀k,F k->k<w.heap.size) (o8:w5.heap[w.heap.size]? =some (.cells #[.pointer none] 50 (0,0))) (fU:w5.heap[w.heap.size+1]? =some (.cells #[.int .i64 0] 46 (0,0))) (hd:B.ax w5 F p s S c) {a:World} (Mt:a=((w5.setCell ⟨w.heap.size,0,none⟩ (.pointer (some ⟨w5.heap.size+1,0,none⟩))).alloc (.map #[] 0)).alloc (.cells (Pg p l w5.heap.size y false) 85)):
  a.heap[w.heap.size]? =some (.cells #[.pointer (some ⟨w5.heap.size+1,0,none⟩)] 50 (0,0))/\a.heap[w.heap.size+1]? =some (.cells #[.int .i64 0] 46 (0,0))/\mZ a (w5.heap.size+1) p l w5.heap.size y false/\Ch a w5.heap.size []/\B.ax a F p s S c/\aa (λk=>k=w.heap.size) w5 a/\a.heap.size=w5.heap.size+2:=by
 have m:=aa.setCell (F:=λk=>k=w.heap.size) w5 (p:=(aD w.heap.size 0)) rfl (.pointer (some ⟨w5.heap.size+1,0,none⟩));have i:=size_setCell w5 ⟨w.heap.size,0,none⟩ (.pointer (some ⟨w5.heap.size+1,0,none⟩));have f:(w5.setCell ⟨w.heap.size,0,none⟩ (.pointer (some ⟨w5.heap.size+1,0,none⟩))).heap[w.heap.size]? =some (.cells #[.pointer (some ⟨w5.heap.size+1,0,none⟩)] 50 (0,0)):=by
  rw [heap_setCell_same _ _ _ _ _ _ o8];rfl
 have g:(w5.setCell ⟨w.heap.size,0,none⟩ (.pointer (some ⟨w5.heap.size+1,0,none⟩))).heap[w.heap.size+1]? =some (.cells #[.int .i64 0] 46 (0,0)):=(Below.heap_setCell _ _ _ _ (by simp)).trans fU;generalize w5.setCell ⟨w.heap.size,0,none⟩ (.pointer (some ⟨w5.heap.size+1,0,none⟩))=b at*;have d:=bY b (.map #[] 0) (.cells (Pg p l w5.heap.size y false) 85);have nc:=(Ch.made b).later (aI (b.alloc (.map #[] 0)) (.cells (Pg p l w5.heap.size y false) 85));have bt:((b.alloc (.map #[] 0)).alloc (.cells (Pg p l w5.heap.size y false) 85)).heap[b.heap.size+1]? =some (.cells (Pg p l w5.heap.size y false) 85 (0,0)):=by
  have:=heap_alloc_new (b.alloc (.map #[] 0)) (.cells (Pg p l w5.heap.size y false) 85);rwa [World.size_alloc] at this
 rw [i] at nc bt;have j:((b.alloc (.map #[] 0)).alloc (.cells (Pg p l w5.heap.size y false) 85)).heap.size=w5.heap.size+2:=by rw [World.size_alloc,World.size_alloc,i]
 rw [<-Mt] at d nc bt j;exact⟨(d.block _ (aw f)).trans f,(d.block _ (aw g)).trans g,bt,nc,(hd.au m (λk n e=>by have:=bm _ n;omega)).later d,m.trans (aa.ah (λ_=>False) d) (λ_ h=>h.elim),j⟩
theorem dQ.aeF {B:Nat} (h:dQ w B v rs X):KN w v rs:=by
 obtain⟨l,j,k⟩:=h;refine⟨l,?_,λi f=>?_⟩
 .obtain⟨d,h|⟨g,a,cur,rfl,m,sd,b⟩⟩:=j
  .exact⟨d, .inl h⟩
  .exact⟨d, .inr ⟨g,a,cur,rfl,dU _,sd,b⟩⟩
 .obtain⟨g,c,b,e,_⟩:=k i f;exact⟨g,c,b,e⟩
section
theorem Aq:∀{ks:List Nat} {l r:List Int} {cs:CM},rdCons ks l=some (cs,r)->cs.length=ks.length
 | [],l,r,cs,h=>by
  simp only [rdCons,Option.some.injEq,Prod.mk.injEq] at h;obtain⟨rfl,_⟩:=h;rfl
 |k :: ks,l,r,cs,h=>by
  rw [iw] at h;split at h
  .cases h
  .cases a:rdCons ks (l.drop 512) with
   |none=>rw [a] at h;cases h
   |some x=>
    rw [a] at h;simp only [Option.map_some,Option.some.injEq,Prod.mk.injEq] at h;obtain⟨rfl,rfl⟩:=h;simp [Aq (cs:=x.1) (r:=x.2) a]
theorem OD (h:rdRec blocks d=some cs):1<=cs.length/\cs.length<=16:=by
 unfold rdRec at h;split at h
 .cases h
 .split at h
  .rename_i j;cases e:rdNums blocks (le (d.take 2)) 0 (d.drop 2) with
   |none=>rw [e] at h;cases h
   |some x=>
    obtain⟨ks,r⟩:=x;rw [e] at h;have k:=(lU e).1;have c:rdTail (rdCons ks r)=some cs:=h;cases f:rdCons ks r with
    |none=>rw [f] at c;cases c
    |some y=>
     obtain⟨i,g⟩:=y;rw [f] at c;cases g with
     |nil=>
      simp only [rdTail,Option.some.injEq] at c;subst c;rw [Aq f];omega
     |cons a b=>cases c
  .cases h
theorem sS (blocks:Nat) (ms:CM) (r:List Int) (rs:List (List Int)):rdAll blocks ms (r :: rs)=match rdRec blocks r with|none=>none|some cs=>rdAll blocks (CM.bX ms cs) rs:=rfl
theorem Et {a b:Nat} (h:(bV S a).2.2=0):S.num a<(ia S a b+1)*4294967296:=by
 have d:(bV S a).1=S.num a / 4294967296:=by
  unfold bV gU at*;split at h
  .cases h
  .rename_i c;rw [aA c];rfl
 have e:(bV S a).1<=ia S a b:=by unfold ia;omega
 omega
theorem Ar (dh:S.Ok s) (c:L.begun=false) (e:L.f+1<s) (g:S.num L.f<(L.top+1)*4294967296) (i:L.top<1073741824):(L.start S s).1=0\/(L.start S s).1=3:=by
 unfold LG.start;split
 .exact .inr rfl
 .rw [aA (by rw [c];decide)];have b:(((L.top+1:Nat):Int)*4294967296+((0:Nat):Int))=(((L.top+1)*4294967296:Nat):Int):=by omega
  have uS:=is (br dh L.f (by omega)) (br dh (L.f+1) e) (N:=(L.top+1)*4294967296) (by omega) g;rw [b];have d:(cW S s L.f (((L.top+1)*4294967296:Nat):Int)).1=0\/(cW S s L.f (((L.top+1)*4294967296:Nat):Int)).1=3:=by
   unfold cW;by_cases a:S.fuse=0
   .rw [aE a];exact .inr rfl
   .rw [aA a,aA (by omega)];have mL:=fL (S.now L.f) (S.now (L.f+1)) (((L.top+1)*4294967296:Nat):Int) [];generalize aN (S.now L.f) (S.now (L.f+1)) (((L.top+1)*4294967296:Nat):Int) []=Y at*;rw [show (L.f:Int)+(Y.1:Int)=((L.f+Y.1:Nat):Int) by omega];split
    .exact GV (by omega) _
    .unfold DS.fl;split
     .exact .inr rfl
     .exact .inl rfl
  split
  .exact d
  .exact .inl rfl
section
variable {w w':World} {X Y:Nat->Prop} {B B':Nat} {v u:Value} {ps qs:List (Nat×List Int)}
theorem Pn.cat (h:Pn w X B v ps) (z:Pn w Y B' u qs) (A:∀j,Y j->X j) (s:0<qs.length) (H:ps.length+qs.length<=1000000) (G:B<=w.heap.size):
  ∃a bZ k,(Builtin.append_ #[126,126] 126 #[v,u]).run prog w= .ok (.slice (some (aD a 0)) (ps.length+qs.length) bZ) k/\Pn k X B (.slice (some (aD a 0)) (ps.length+qs.length) bZ) (ps ++ qs)/\aa (λj=>v.ownBlock=some j) w k:=by
 obtain⟨xs,l,ox,hd⟩:=h;obtain⟨o,b,_,cC⟩:=z;obtain⟨E,rt,gv,dr,ec⟩:=info_parts pT;obtain⟨I,F,rfl,ll⟩:=b.form;obtain⟨q,rfl,-⟩:=ll s;obtain⟨a,bZ,k,bC,az,aO,ic,bm⟩:=run_append_lies (P:=prog) w 126 126 0 165 E _ 2 32 underlying126 rt gv dr ec rfl (by omega) v ps.length xs l.own (aD q 0) qs.length F o b.own.1 (λj x D=>b.own.cells (g:=q) rfl _ _ D) b.one s (by unfold maxLen;omega) (by omega) (dU _) w.heap.size rfl;have Fb:=l.own.1;have f:∀i (d:i<(ps ++ qs).length) g c,(xs ++ o)[2*i+1]? =some (.slice (some (aD g 0)) 512 c)->X g:=λi d g c e=>by
  by_cases nj:i<ps.length
  .rw [List.getElem?_append_left (by omega)] at e;exact hd i nj g c e
  .rw [dT] at d;rw [List.getElem?_append_right (by omega),show 2*i+1-xs.length=2*(i-ps.length)+1 by omega] at e;exact A _ (cC _ (by omega) g c e)
 obtain⟨n,C⟩:=l.cat b (Z:=λ_=>True) az aO (λ_ _=>trivial) (λ_ _ _ _ _=>trivial) trivial;refine⟨a,bZ,k,bC,⟨xs ++ o,⟨n.own,λj m=> .inr m,λi d=>?_,n.len⟩,λj m=>?_,f⟩,C⟩
 .obtain⟨g,c,t,p,_,y⟩:=n.put i d;exact⟨g,c,t,p, .inl (f i d g c p),y⟩
 .have e:j=a:=by simpa [Value.ownBlock] using m.symm
  rcases ic with r|r
  .rw [e];exact ox a r
  .omega
end
end
theorem As (s l n:Int) (w:World) (c:18<=l) (d:l<=256) (i:4<=n) (j:n<=1024) (a:n%4=0) (s1:l+n / 4+6<=s) (s2:s<=2048):
  Calls prog 51 #[.agg #[iV s,iV l,iV n]] w λe w'=>e= .returned (.tuple #[.agg #[iV l,iV (3+l),iV (s-(3+l)),iV n,iV (2+n / 4)],iV 0])/\bW w w':=by
 have b:n.tmod 4=n%4:=Int.tmod_eq_emod_of_nonneg (by omega);have hd:n.tdiv 4=n / 4:=Int.tdiv_eq_ediv_of_nonneg (by omega);have f:¬l<18:=by omega
 have g:¬256<l:=by omega
 have k:¬n<4:=by omega
 have m:¬1024<n:=by omega
 have o:¬2048<s:=by omega
 have p:¬s<3+l+(2+n / 4)+1:=by omega
 go_in;go_wp2;refine bodyPost_ret (v:= .tuple #[.agg #[iV l,iV (3+l),iV (s-(3+l)),iV n,iV (2+n / 4)],iV 0]) (by simp [results,results51,go_sem] <;> omega) rfl ⟨rfl,bY w _ _⟩
theorem KV (s l n:Int) (w:World) (h:¬(18<=l/\l<=256)):
  Calls prog 51 #[.agg #[iV s,iV l,iV n]] w λe w'=>e= .returned (.tuple #[.agg #[iV 0,iV 0,iV 0,iV 0,iV 0],iV 22])/\bW w w':=by
 by_cases b:18<=l
 .have c:¬l<=256:=by omega
  have a:¬l<18:=by omega
  have d:256<l:=by omega
  go_in;go_wp2;exact bodyPost_ret (v:= .tuple #[.agg #[iV 0,iV 0,iV 0,iV 0,iV 0],iV 22]) (by simp [results,results51,go_sem]) rfl ⟨rfl,bY w _ _⟩
 .have a:l<18:=by omega
  go_in;go_wp2;exact bodyPost_ret (v:= .tuple #[.agg #[iV 0,iV 0,iV 0,iV 0,iV 0],iV 22]) (by simp [results,results51,go_sem]) rfl ⟨rfl,bY w _ _⟩
theorem KW (s l n:Int) (w:World) (f:18<=l) (g:l<=256) (h:¬(4<=n/\n<=1024)):
  Calls prog 51 #[.agg #[iV s,iV l,iV n]] w λe w'=>e= .returned (.tuple #[.agg #[iV 0,iV 0,iV 0,iV 0,iV 0],iV 22])/\bW w w':=by
 have i:¬l<18:=by omega
 have j:¬256<l:=by omega
 by_cases b:4<=n
 .have c:¬n<=1024:=by omega
  have a:¬n<4:=by omega
  have d:1024<n:=by omega
  go_in;go_wp2;exact bodyPost_ret (v:= .tuple #[.agg #[iV 0,iV 0,iV 0,iV 0,iV 0],iV 22]) (by simp [results,results51,go_sem]) rfl ⟨rfl,bY w _ _⟩
 .have a:n<4:=by omega
  go_in;go_wp2;exact bodyPost_ret (v:= .tuple #[.agg #[iV 0,iV 0,iV 0,iV 0,iV 0],iV 22]) (by simp [results,results51,go_sem]) rfl ⟨rfl,bY w _ _⟩
theorem KX (s l n:Int) (w:World) (c:18<=l) (d:l<=256) (i:4<=n) (j:n<=1024) (h:¬n%4=0):
  Calls prog 51 #[.agg #[iV s,iV l,iV n]] w λe w'=>e= .returned (.tuple #[.agg #[iV 0,iV 0,iV 0,iV 0,iV 0],iV 22])/\bW w w':=by
 have f:¬l<18:=by omega
 have g:¬256<l:=by omega
 have k:¬n<4:=by omega
 have m:¬1024<n:=by omega
 have b:n.tmod 4=n%4:=Int.tmod_eq_emod_of_nonneg (by omega);have a:(n%4 != 0)=true:=by rw [fT];exact h
 go_in;go_wp2;exact bodyPost_ret (v:= .tuple #[.agg #[iV 0,iV 0,iV 0,iV 0,iV 0],iV 22]) (by simp [results,results51,go_sem]) rfl ⟨rfl,bY w _ _⟩
theorem KY (s l n:Int) (w:World) (g:18<=l) (i:l<=256) (m:4<=n) (o:n<=1024) (d:n%4=0) (h:¬(l+n / 4+6<=s/\s<=2048)):
  Calls prog 51 #[.agg #[iV s,iV l,iV n]] w λe w'=>e= .returned (.tuple #[.agg #[iV 0,iV 0,iV 0,iV 0,iV 0],iV 22])/\bW w w':=by
 have j:¬l<18:=by omega
 have k:¬256<l:=by omega
 have p:¬n<4:=by omega
 have q:¬1024<n:=by omega
 have f:n.tmod 4=n%4:=Int.tmod_eq_emod_of_nonneg (by omega);have hd:n.tdiv 4=n / 4:=Int.tdiv_eq_ediv_of_nonneg (by omega);by_cases c:3+l+(2+n / 4)+1<=s
 .have a:¬s<=2048:=by omega
  have b:2048<s:=by omega
  go_in;go_wp2;exact bodyPost_ret (v:= .tuple #[.agg #[iV 0,iV 0,iV 0,iV 0,iV 0],iV 22]) (by simp [results,results51,go_sem]) rfl ⟨rfl,bY w _ _⟩
 .have b:s<3+l+(2+n / 4)+1:=by omega
  by_cases a:2048<s
  .omega
  .clear h;go_in;go_wp2;exact bodyPost_ret (v:= .tuple #[.agg #[iV 0,iV 0,iV 0,iV 0,iV 0],iV 22]) (by simp [results,results51,go_sem]) rfl ⟨rfl,bY w _ _⟩
theorem vz (s l n:Int) (w:World):
  Calls prog 51 #[.agg #[iV s,iV l,iV n]] w λe w'=>∃v x,e= .returned (.tuple #[v,iV x])/\xN s l n v x/\bW w w':=by
 have b:¬vq s l n->∀(e:Ending) (w':World),(e= .returned (.tuple #[.agg #[iV 0,iV 0,iV 0,iV 0,iV 0],iV 22])/\bW w w')->∃v x,e= .returned (.tuple #[v,iV x])/\xN s l n v x/\bW w w':=
  λi e w' h=>⟨_,_,h.1, .inr ⟨i,rfl,rfl⟩,h.2⟩
 by_cases a:18<=l/\l<=256
 .by_cases c:4<=n/\n<=1024
  .by_cases d:n%4=0
   .by_cases f:l+n / 4+6<=s/\s<=2048
    .exact(As s l n w a.1 a.2 c.1 c.2 d f.1 f.2).mono (λe w' h=>⟨_,_,h.1, .inl ⟨⟨a,c,d,f⟩,rfl,rfl⟩,h.2⟩)
    .exact(KY s l n w a.1 a.2 c.1 c.2 d f).mono (b (λg=>f g.2.2.2))
   .exact(KX s l n w a.1 a.2 c.1 c.2 d).mono (b (λg=>d g.2.2.1))
  .exact(KW s l n w a.1 a.2 c).mono (b (λg=>c g.2.1))
 .exact(KV s l n w a).mono (b (λg=>a g.1))
theorem At {m:Nat} (h:q<l.length):part l q (m+1)=l.getD q 0 :: part l (q+1) m:=by
 unfold part;rw [List.drop_eq_getElem_cons h,List.take_succ_cons];simp [List.getD,h]
def xR (l:List Int) (at_ n:Nat) (r:Int):Prop:=r=((le (part l at_ n):Nat):Int)\/(r= -1/\18014398509481984<le (part l at_ n))
theorem Eu (h:q+j+k<=l.length):le (part l (q+j) k)<=le (part l q (j+k)):=by
 induction j generalizing q with
 |zero=>simp
 |succ j a=>
  have b:=a (q:=q+1) (by omega);rw [show j+1+k=(j+k)+1 by omega,At (by omega),le,show q+(j+1)=q+1+j by omega];omega
theorem KZ (b o N c:Nat) (l:List Int) (a n:Nat) (w:World) (C:l.length=N) (m:Bytes l) (y:N<=1000000) (D:a+n<=N) (v:n<=8) (s:∀i,i<N->w.cell? ⟨b,o+i,none⟩=some (.int .u8 (l.getD i 0))):
  Calls prog 161 #[.slice (some (aD b o)) N c,iV (a:Int),iV (n:Int)] w λe w'=>(∃r,e= .returned (iV r)/\xR l a n r)/\w'=w:=by
 go_in;go_wp2;go_loopw [7,8] (λr i wr=>∃k:Nat,k<=n/\i=iV ((n:Int)-1-(k:Int))/\r=iV ((le (part l (a+(n-k)) k):Nat):Int)/\wr=w/\le (part l (a+(n-k)) k)<=9223372036854775807) (λ_ i _=>(intOf i+1).toNat);case atStart=>exact⟨0,dU _,by simp,by simp [part,le],rfl,by simp [part,le]⟩
 case round=>
  obtain⟨k,A,rfl,rfl,rfl,E⟩:=hrel;have X0:=Eu (l:=l) (q:=a) (j:=n-k) (k:=k) (by omega);rw [show n-k+k=n by omega] at X0;by_cases bm:k<n
  .have t:(0:Int)<=(n:Int)-1-(k:Int):=(by omega);by_cases aT:18014398509481984<((le (part l (a+(n-k)) k):Nat):Int)
   .have d:(xR l a n (-1)):= .inr ⟨rfl,by have:=X0;omega⟩;generalize le (part l (a+(n-k)) k)=V at*;go_wp2;go_ret;exact⟨⟨_,rfl,d⟩,rfl⟩
   .have p:=s (a+(n-1-k)) (by omega);obtain⟨x,f,jA⟩:∃x:Nat,l.getD (a+(n-1-k)) 0=(x:Int)/\x<256:=by
     have:=m l[a+(n-1-k)] (List.getElem_mem (by omega));refine⟨(l.getD (a+(n-1-k)) 0).toNat,?_,?_⟩<;> simp [List.getD,show a+(n-1-k)<l.length by omega] <;> omega
    have yP:le (part l (a+(n-(k+1))) (k+1))=x+256*le (part l (a+(n-k)) k):=by
     rw [At (by omega),le,show a+(n-(k+1))=a+(n-1-k) by omega,f,show a+(n-1-k)+1=a+(n-k) by omega];simp
    rw [f] at p;have g:(a:Int)+((n:Int)-1-(k:Int))=((a+(n-1-k):Nat):Int):=(by omega);have u:((a+(n-1-k):Nat):Int)<(N:Int):=(by omega);generalize z:le (part l (a+(n-k)) k)=V at*;generalize a+(n-1-k)=Q at*;go_wp2;go_roundw;case rel=>exact⟨k+1,by omega,by first|(congr 1;omega)|go_num,by rw [yP];congr 1;omega,trivial,by rw [yP];omega⟩
    case measure=>simp [intOf];omega
  .have t:¬(0:Int)<=(n:Int)-1-(k:Int):=(by omega);have TZ:k=n:=(by omega);subst TZ;have d:(xR l a k ((le (part l (a+(k-k)) k):Nat):Int)):= .inl (by simp);generalize le (part l (a+(k-k)) k)=V at*;go_wp2;go_ret;exact⟨⟨_,rfl,d⟩,rfl⟩
theorem aam (a:Bytes l) (b:k+4<=l.length) {r:Int} (h:xR l k 4 r):r=((le (part l k 4):Nat):Int):=by
 rcases h with h|⟨_,h⟩
 .exact h
 .have:=lg (dS a k 4);rw [fx b] at this;have:(2:Nat) ^ (8*4)=4294967296:=rfl;omega
theorem ay.Ev (h:Full w g l) (a:l.length<=1000000):ay w 5 g l.length (bs l):=by
 have:=ay.xp h (by simp [bs,maxLen];omega);simpa [bs] using this
theorem Full.src (h:Full w g l) (b:l.length<=1000000) (d:n<=l.length):Src w (some (aD g 0)) n (l.take n):=
   ⟨by simp;omega,(λh=>by cases h),λx c i a=>by
  cases c;rw [(ay.Ev h b).byte (by omega)];simp [List.getD,a]⟩
theorem Full.lt (h:Full w g l):g<w.heap.size:=(kN.1 h).1
theorem Full.lI (h:Full w g l) (a:bW w w'):Full w' g l:=(a.block g h.lt).trans h
theorem aan (n i:Nat) (h:i<n):(zs n).getD i 0=0:=by simp [zs,List.getD,h]
theorem Full.set (h:Full w g l) (i:Nat) (x:Int):Full (w.setCell ⟨g,i,none⟩ (.int .u8 x)) g (l.set i x):=GY x h
theorem Full.cell (h:Full w g l) (a:i<l.length):w.cell? (aD g i)=some (.int .u8 (l.getD i 0)):=aj h (by simp [bs,List.getD,a])
theorem Full.frozen (h:Full w g l) (i:Nat):w.frozen? (aD g i)=false:=ae h i
theorem SL:(((((((zs 8 ++ zs 504).set 0 118).set 1 101).set 2 108).set 3 108).set 4 117).set 5 109).set 7 1=gq ++ zs 504:=by
 have e:∀(a:List Int) (i:Nat) (x:Int),i<a.length->(a ++ zs 504).set i x=a.set i x ++ zs 504:=λa i x h=>List.set_append_left i x h;rw [e _ _ _ (by decide),e _ _ _ (by decide),e _ _ _ (by decide),e _ _ _ (by decide),e _ _ _ (by decide),e _ _ _ (by decide),e _ _ _ (by decide)];rfl
theorem uu (s l n:Nat) (w:World) (K:vq s l n):
  Calls prog 58 #[.agg #[iV (s:Int),iV (l:Int),iV (n:Int)]] w λe w'=>∃v,e= .returned (.tuple #[v,iV 0])/\Made w w' v (eR (bM s l n)):=by
 obtain⟨⟨O,P⟩,⟨Q,R⟩,J,s1,s2⟩:=K;have M:=λw=>As s l n w O P Q R J s1 s2;obtain⟨N,t,gv,dr,ec⟩:=info_parts fW;go_in;go_wp2_with fail;refine(M _).mono ?_;rintro e w1 ⟨rfl,aq⟩;have bK:=((bi _ w).alloc (bP _) _).trans (aq.mono (by simp));have x:w1.heap[w.heap.size]? =some (.cells #[.int .i64 (s:Int), .int .i64 (l:Int), .int .i64 (n:Int)] 40 (0,0)):=(aq.block _ (by simp)).trans (heap_alloc_new _ _);have A5:=(kN.1 x).1;obtain⟨b,dw⟩:∃b,b=w1.alloc (.cells #[.int .i64 (l:Int), .int .i64 (3+(l:Int)), .int .i64 ((s:Int)-(3+(l:Int))), .int .i64 (n:Int), .int .i64 (2+(n:Int) / 4)] 75):=⟨_,rfl⟩;have eM:bW w b:=by rw [dw];exact bK.alloc bK.size _
 have qC:b.heap[w.heap.size]? =some (.cells #[.int .i64 (s:Int), .int .i64 (l:Int), .int .i64 (n:Int)] 40 (0,0)):=by rw [dw];exact(Below.heap_alloc _ _ _ A5).trans x
 have ajZ:=(kN.1 qC).1;go_wp2_with (at_make;rw [<-dw];refine wpList_make_full _ rfl _ _ 22 rfl b.heap.size 5 N (.int .u8 0) 1 underlying22 t gv dr _ _ _ _ 512 rfl rfl ?c1 ?c2 ?c3 ?c4 ?c5 ?_);case c1=>rfl
 case c2=>rfl
 case c3=>rw [ec];omega
 case c4=>unfold maxLen;omega
 case c5=>exact bP _
 intro r az aO;have sV:=lJ az;rw [<-dw] at aO;have U:b.heap.size=w1.heap.size+1:=by rw [dw];simp
 have bz:=(bi _ b).grown aO (bP _) (by intro k L;cases L);have Pt:Full r (w1.heap.size+1) (zs 8 ++ zs 504):=by
  have:=sV.full (by simp only [bs,List.length_map,List.length_replicate]);rw [<-lM];exact this
 have jK:=eM.trans (bz.mono eM.size);have NY:=(bz.block _ ajZ).trans qC;have aq3:(zs 8 ++ zs 504).length=512:=by rw [dT,bB,bB]
 have z:∀i,i<8->r.cell? ⟨w1.heap.size+1,i,none⟩=some (.int .u8 0):=λi t=>by
  rw [Pt.cell (by omega)];rw [<-lM,aan _ _ (by omega)]
 obtain⟨y0,y1,y2,y3,y4,y5,y7⟩:=nW (Pt.frozen 0) (Pt.frozen 1) (Pt.frozen 2) (Pt.frozen 3) (Pt.frozen 4) (Pt.frozen 5) (Pt.frozen 7);have dG:¬w.heap.size=w1.heap.size+1:=by omega
 have W:=aL NY;go_wp2;refine wp_loop_rounds 7 ?_;rw [rounds_succ];go_wp2;rw [rounds_succ];go_wp2;rw [rounds_succ];go_wp2;rw [rounds_succ];go_wp2;rw [rounds_succ];go_wp2;rw [rounds_succ];go_wp2;rw [rounds_succ];go_wp2_with fail;have D:∀wx:World,Full wx (w1.heap.size+1) (gq ++ zs 504)->Calls prog 114 #[.slice (some ⟨w1.heap.size+1,0,none⟩) 512 512,iV 8,iV 4,iV (s:Int)] wx λe w'=>e= .returned (.tuple #[])/\Full w' (w1.heap.size+1) ((gq ++ leb 4 s) ++ (zs 4 ++ zs 496))/\aa (λj=>j=w1.heap.size+1) wx w':=λwx a=>by
  have:=qU (w1.heap.size+1) 512 512 gq (zs 4) (zs 500) 8 4 s wx (by rw [<-lM];exact a) rfl (bB 4) (by rw [dT,dT,bB,bB];rfl) (by omega) (by omega);rw [show zs 500=zs 4 ++ zs 496 from lM 4 496,<-List.append_assoc] at this;exact this
 have E:∀wx:World,Full wx (w1.heap.size+1) ((gq ++ leb 4 s) ++ (zs 4 ++ zs 496))->Calls prog 114 #[.slice (some ⟨w1.heap.size+1,0,none⟩) 512 512,iV 12,iV 4,iV (l:Int)] wx λe w'=>e= .returned (.tuple #[])/\Full w' (w1.heap.size+1) ((gq ++ leb 4 s ++ leb 4 l) ++ (zs 4 ++ zs 492))/\aa (λj=>j=w1.heap.size+1) wx w':=λwx a=>by
  have:=qU (w1.heap.size+1) 512 512 (gq ++ leb 4 s) (zs 4) (zs 496) 12 4 l wx a (by rw [dT,aH];rfl) (bB 4) (by rw [dT,dT,dT,bB,bB,aH];rfl) (by omega) (by omega);rw [show zs 496=zs 4 ++ zs 492 from lM 4 492,<-List.append_assoc] at this;exact this
 have G:∀wx:World,Full wx (w1.heap.size+1) ((gq ++ leb 4 s ++ leb 4 l) ++ (zs 4 ++ zs 492))->Calls prog 114 #[.slice (some ⟨w1.heap.size+1,0,none⟩) 512 512,iV 16,iV 4,iV (n:Int)] wx λe w'=>e= .returned (.tuple #[])/\Full w' (w1.heap.size+1) (bM s l n ++ (zs 4 ++ []))/\aa (λj=>j=w1.heap.size+1) wx w':=λwx a=>by
  have:=qU (w1.heap.size+1) 512 512 (gq ++ leb 4 s ++ leb 4 l) (zs 4) (zs 492) 16 4 n wx a (by rw [dT,dT,aH,aH];rfl) (bB 4) (by rw [dT,dT,dT,dT,bB,bB,aH,aH];rfl) (by omega) (by omega);rw [show zs 492=zs 488 ++ zs 4 from lM 488 4] at this;have e:gq ++ leb 4 s ++ leb 4 l ++ (leb 4 n ++ (zs 488 ++ zs 4))=bM s l n ++ (zs 4 ++ []):=by rw [List.append_nil,<-List.append_assoc,<-List.append_assoc];rfl
  rw [e] at this;exact this
 have H:∀wx:World,Full wx (w1.heap.size+1) (bM s l n ++ (zs 4 ++ []))->Calls prog 115 #[.slice (some ⟨w1.heap.size+1,0,none⟩) 508 512] wx λe w'=>e= .returned (iV ((sumOf (bM s l n):Nat):Int))/\bW wx w':=λwx a=>by
  refine Oh _ _ _ _ wx (gM s l n) (by omega) ?_;have:=a.src (by rw [dT,dD,List.append_nil,bB];omega) (n:=508) (by rw [dT,dD];omega);rw [List.take_left' (dD s l n)] at this;exact this
 have mL:=ng (gM s l n);have I:∀wx:World,Full wx (w1.heap.size+1) (bM s l n ++ (zs 4 ++ []))->Calls prog 114 #[.slice (some ⟨w1.heap.size+1,0,none⟩) 512 512,iV 508,iV 4,iV ((sumOf (bM s l n):Nat):Int)] wx λe w'=>e= .returned (.tuple #[])/\Full w' (w1.heap.size+1) (eR (bM s l n))/\aa (λj=>j=w1.heap.size+1) wx w':=λwx a=>by
  have:=qU (w1.heap.size+1) 512 512 (bM s l n) (zs 4) [] 508 4 (sumOf (bM s l n)) wx a (dD s l n) (bB 4) (by rw [dT,dD,List.append_nil,bB]) (by omega) (by omega);rw [List.append_nil] at this;exact this
 refine(D _ ?full).mono ?_;case full=>
  have:=((((((Pt.set 0 118).set 1 101).set 2 108).set 3 108).set 4 117).set 5 109).set 7 1;rw [SL] at this;exact this
 have C:=(((((((aa.refl (λj=>j=w1.heap.size+1) r).trans (aa.setCell (F:=λj=>j=w1.heap.size+1) (p:=⟨w1.heap.size+1,0,none⟩) _ rfl (.int .u8 118)) (λ_ h=> .inl h)).trans (aa.setCell (F:=λj=>j=w1.heap.size+1) (p:=⟨w1.heap.size+1,1,none⟩) _ rfl (.int .u8 101)) (λ_ h=> .inl h)).trans (aa.setCell (F:=λj=>j=w1.heap.size+1) (p:=⟨w1.heap.size+1,2,none⟩) _ rfl (.int .u8 108)) (λ_ h=> .inl h)).trans (aa.setCell (F:=λj=>j=w1.heap.size+1) (p:=⟨w1.heap.size+1,3,none⟩) _ rfl (.int .u8 108)) (λ_ h=> .inl h)).trans (aa.setCell (F:=λj=>j=w1.heap.size+1) (p:=⟨w1.heap.size+1,4,none⟩) _ rfl (.int .u8 117)) (λ_ h=> .inl h)).trans (aa.setCell (F:=λj=>j=w1.heap.size+1) (p:=⟨w1.heap.size+1,5,none⟩) _ rfl (.int .u8 109)) (λ_ h=> .inl h)).trans (aa.setCell (F:=λj=>j=w1.heap.size+1) (p:=⟨w1.heap.size+1,7,none⟩) _ rfl (.int .u8 1)) (λ_ h=> .inl h);rintro e w5 ⟨rfl,f,dX⟩;have aeG:=C.trans dX (λ_ h=> .inl h);have nH:=(aeG.block _ (kN.1 NY).1 dG).trans NY;have jd:=jK.trans (aeG.below (λj o=>by omega) jK.size);have c5:=bD nH;go_wp2_with fail;refine(E _ f).mono ?_;rintro e X ⟨rfl,g,ji⟩;have q:=(ji.block _ (kN.1 nH).1 dG).trans nH;have wO:=jd.trans (ji.below (λj o=>by omega) jd.size);have T:=bH q;go_wp2_with fail;refine(G _ g).mono ?_;rintro e Y ⟨rfl,c,gy⟩;have Fk:=wO.trans (gy.below (λj o=>by omega) wO.size);go_wp2_with fail;refine(H _ c).mono ?_;rintro e Z ⟨rfl,BD⟩;have VX:=Fk.trans (BD.mono Fk.size);have d:=(c.lI BD);go_wp2_with fail;refine(I _ d).mono ?_;rintro e S ⟨rfl,m,A4⟩;have A:(Made w S (.slice (some ⟨w1.heap.size+1,0,none⟩) 512 512) (eR (bM s l n))):=by
  have u:(eR (bM s l n)).length=512:=by rw [oD,dD]
  have y:=ay.Ev m (by omega);rw [u] at y;exact⟨w1.heap.size+1,512,by rw [u],by omega,y,VX.trans (A4.below (λj o=>by omega) VX.size)⟩
 go_wp2;go_ret2;exact⟨_,rfl,A⟩
theorem BJ (s l n:Int) (w:World) (b:¬vq s l n):
  Calls prog 58 #[.agg #[iV s,iV l,iV n]] w λe w'=>e= .returned (.tuple #[.slice none 0 0,iV 22])/\bW w w':=by
 have c:∀w,Calls prog 51 #[.agg #[iV s,iV l,iV n]] w λe w'=>e= .returned (.tuple #[.agg #[iV 0,iV 0,iV 0,iV 0,iV 0],iV 22])/\bW w w':=λw=>by
  refine(vz s l n w).mono ?_;rintro e w' ⟨v,x,rfl,⟨h,_⟩|⟨_,rfl,rfl⟩,a⟩
  .exact absurd h b
  .exact⟨rfl,a⟩
 go_in;go_wp2_with fail;refine(c _).mono ?_;rintro e w1 ⟨rfl,aq⟩;have bK:=((bi _ w).alloc (bP _) _).trans (aq.mono (by simp));go_wp2;go_ret2;exact⟨rfl,(λo=>bK.alloc bK.size o) _⟩
theorem qX (b o N c:Nat) (l:List Int) (k:Nat) (w:World) (f:l.length=N) (a:Bytes l) (d:N<=1000000) (g:k+4<=N) (m:∀i,i<N->w.cell? ⟨b,o+i,none⟩=some (.int .u8 (l.getD i 0))):
  Calls prog 161 #[.slice (some (aD b o)) N c,iV (k:Int),iV 4] w λe w'=>e= .returned (iV ((u32 l k:Nat):Int))/\w'=w:=by
 refine(KZ b o N c l k 4 w f a d g (by omega) m).mono ?_;rintro e w' ⟨⟨r,rfl,j⟩,rfl⟩;exact⟨by rw [aam a (by omega) j];rfl,rfl⟩
theorem ki (s l n:Nat):(eR (bM s l n)).length=512:=(oD _).trans (congrArg (·+4) (dD s l n))
theorem Made.out (h:Made w w' v l) (a:l.length=n):∃g c,v= .slice (some (aD g 0)) n c/\w.heap.size<=g/\ay w' 5 g c (bs l)/\bW w w':=by
 subst a;exact h
def SM (l:List Int) (v:Value) (x:Int):Prop:=(An l/\v= .agg #[iV ((u32 l 8:Nat):Int),iV ((u32 l 12:Nat):Int),iV ((u32 l 16:Nat):Int)]/\x=0)\/(¬An l/\v= .agg #[iV 0,iV 0,iV 0]/\x=6)
theorem rM (b o c:Nat) (l:List Int) (w:World) (r:l.length=512) (s:Bytes l) (n:∀i,i<512->w.cell? ⟨b,o+i,none⟩=some (.int .u8 (l.getD i 0))) (G:vq (u32 l 8) (u32 l 12) (u32 l 16)) (x:Bool) (H:decide (eR (bM (u32 l 8) (u32 l 12) (u32 l 16))=l)=x):
  Calls prog 116 #[.slice (some (aD b o)) 512 c] w λe w'=>e= .returned (.tuple #[if x then .agg #[iV ((u32 l 8:Nat):Int),iV ((u32 l 12:Nat):Int),iV ((u32 l 16:Nat):Int)] else .agg #[iV 0,iV 0,iV 0],iV (if x then 0 else 6)])/\bW w w':=by
 obtain⟨w1,bN⟩:=bQ (w.alloc (.cells #[.int .i64 0, .int .i64 0, .int .i64 0] 40));have bK:bW w w1:=by rw [bN];exact(bi _ w).alloc (bP _) _
 have iA:w1.heap[w.heap.size]? =some (.cells #[.int .i64 0, .int .i64 0, .int .i64 0] 40 (0,0)):=by rw [bN];exact heap_alloc_new _ _
 have rY:w1.heap.size=w.heap.size+1:=by rw [bN];simp
 have J:Calls prog 161 #[.slice (some (aD b o)) 512 c,iV 8,iV 4] w1 λe w'=>e= .returned (iV ((u32 l 8:Nat):Int))/\w'=w1:=qX b o 512 c l 8 w1 r s (by omega) (by omega) (λi a=>cell_later bK (n i a));have K:Calls prog 161 #[.slice (some (aD b o)) 512 c,iV 12,iV 4] w1 λe w'=>e= .returned (iV ((u32 l 12:Nat):Int))/\w'=w1:=qX b o 512 c l 12 w1 r s (by omega) (by omega) (λi a=>cell_later bK (n i a));have L:Calls prog 161 #[.slice (some (aD b o)) 512 c,iV 16,iV 4] w1 λe w'=>e= .returned (iV ((u32 l 16:Nat):Int))/\w'=w1:=qX b o 512 c l 16 w1 r s (by omega) (by omega) (λi a=>cell_later bK (n i a));obtain⟨z,A,u,y,SN⟩:=ey K L n H ((λwx=>uu (u32 l 8) (u32 l 12) (u32 l 16) wx G));generalize u32 l 8=X at*;generalize u32 l 12=Y at*;generalize u32 l 16=Z at*;clear n K L G H;go_in;go_wp2_with fail;rw [<-bN];clear bN;refine bE J λM d=>?_;have ez:=d.symm;subst ez;clear d J;go_wp2_with fail;refine bE z λM d=>?_;have ez:=d.symm;subst ez;clear d z;go_wp2_with fail;refine bE A λM d=>?_;have ez:=d.symm;subst ez;clear d A;have qC:(w1.alloc (.cells #[.int .i64 (X:Int), .int .i64 (Y:Int), .int .i64 (Z:Int)] 40)).heap[w1.heap.size]? =some (.cells #[.int .i64 (X:Int), .int .i64 (Y:Int), .int .i64 (Z:Int)] 40 (0,0)):=heap_alloc_new _ _;have eM:bW w (w1.alloc (.cells #[.int .i64 (X:Int), .int .i64 (Y:Int), .int .i64 (Z:Int)] 40)):=bK.alloc bK.size _;have SO:(w1.alloc (.cells #[.int .i64 (X:Int), .int .i64 (Y:Int), .int .i64 (Z:Int)] 40)).heap[w.heap.size]? =some (.cells #[.int .i64 0, .int .i64 0, .int .i64 0] 40 (0,0)):=(Below.heap_alloc _ _ _ (by omega)).trans iA;have ju:(w1.alloc (.cells #[.int .i64 (X:Int), .int .i64 (Y:Int), .int .i64 (Z:Int)] 40)).heap.size=w.heap.size+2:=by simp;omega
 have k:=(aF qC (aF eM (aF SO ju)));clear qC eM SO ju bK iA;go_wp2_with fail;refine(SN _).mono ?_;rintro e O ⟨v,rfl,wk⟩;have gZ:=ki X Y Z;obtain⟨g,N,rfl,E7,sV,bz⟩:=wk.out gZ;clear wk;have jK:=k.2.1.trans (bz.mono (by have:=k.2.2.2;omega));have UL:=sJ g 0 b o 512 N c (eR (bM X Y Z)) l O gZ r (by omega) (λi a=>by have:=sV.byte (i:=i) (by omega);rwa [aK] at this) (λi a=>cell_later jK (u i a));rw [y] at UL;have I:=(bz.block w1.heap.size (by have:=k.2.2.2;omega)).trans k.1;have p3:=(bz.block w.heap.size (by have:=k.2.2.2;omega)).trans k.2.2.1;have f:=(aF I (aF p3 jK));clear SN sV bz I p3 jK k E7;go_wp2_with fail;refine bE UL λP fe=>?_;have q:=(fe.block _ (kN.1 f.1).1).trans f.1;have m:=(fe.block _ (kN.1 f.2.1).1).trans f.2.1;rw [rY] at q;obtain⟨Q,R,S,C,D,E,T,U,W,jB⟩:=vH (aL q) (bD q) (bH q) (aL m) (bD m) (bH m) (ae m 0) (ae m 1) (ae m 2) (f.2.2.trans (fe.mono f.2.2.size));clear UL fe q m f y u;have t:=(λ(u0 u1 u2:Value)=>aa.below (B:=w.heap.size) (((aa.setCell (F:=λj=>j=w.heap.size) (p:=⟨w.heap.size,0,none⟩) P rfl u0).trans (aa.setCell (F:=λj=>j=w.heap.size) (p:=⟨w.heap.size,1,none⟩) _ rfl u1) (λ_ h=> .inl h)).trans (aa.setCell (F:=λj=>j=w.heap.size) (p:=⟨w.heap.size,2,none⟩) _ rfl u2) (λ_ h=> .inl h)) (λj hj=>by omega) jB.size);cases x
 .go_wp2;exact bodyPost_ret (v:= .tuple #[.agg #[iV 0,iV 0,iV 0],iV 6]) (by simp [results,results116,go_sem,C,D,E]) rfl ⟨rfl,jB.trans (t _ _ _)⟩
 .go_wp2;exact bodyPost_ret (v:= .tuple #[.agg #[iV (X:Int),iV (Y:Int),iV (Z:Int)],iV 0]) (by simp [results,results116,go_sem,C,D,E]) rfl ⟨rfl,jB.trans (t _ _ _)⟩
theorem xm (b o c:Nat) (l:List Int) (w:World) (n:l.length=512) (m:Bytes l) (k:∀i,i<512->w.cell? ⟨b,o+i,none⟩=some (.int .u8 (l.getD i 0))) (s:¬vq (u32 l 8) (u32 l 12) (u32 l 16)):
  Calls prog 116 #[.slice (some (aD b o)) 512 c] w λe w'=>e= .returned (.tuple #[.agg #[iV 0,iV 0,iV 0],iV 6])/\bW w w':=by
 obtain⟨w1,bN⟩:=bQ (w.alloc (.cells #[.int .i64 0, .int .i64 0, .int .i64 0] 40));have bK:bW w w1:=by rw [bN];exact(bi _ w).alloc (bP _) _
 have iA:w1.heap[w.heap.size]? =some (.cells #[.int .i64 0, .int .i64 0, .int .i64 0] 40 (0,0)):=by rw [bN];exact heap_alloc_new _ _
 have rY:w1.heap.size=w.heap.size+1:=by rw [bN];simp
 have t:Calls prog 161 #[.slice (some (aD b o)) 512 c,iV 8,iV 4] w1 λe w'=>e= .returned (iV ((u32 l 8:Nat):Int))/\w'=w1:=qX b o 512 c l 8 w1 n m (by omega) (by omega) (λi g=>cell_later bK (k i g));have u:Calls prog 161 #[.slice (some (aD b o)) 512 c,iV 12,iV 4] w1 λe w'=>e= .returned (iV ((u32 l 12:Nat):Int))/\w'=w1:=qX b o 512 c l 12 w1 n m (by omega) (by omega) (λi g=>cell_later bK (k i g));have x:Calls prog 161 #[.slice (some (aD b o)) 512 c,iV 16,iV 4] w1 λe w'=>e= .returned (iV ((u32 l 16:Nat):Int))/\w'=w1:=qX b o 512 c l 16 w1 n m (by omega) (by omega) (λi g=>cell_later bK (k i g));have q:=u;have r:=x;have SN:=(λwx=>BJ (u32 l 8) (u32 l 12) (u32 l 16) wx s);generalize u32 l 8=X at*;generalize u32 l 12=Y at*;generalize u32 l 16=Z at*;clear k u x s;go_in;go_wp2_with fail;rw [<-bN];clear bN;refine bE t λy a=>?_;have ez:=a.symm;subst ez;clear a t;go_wp2_with fail;refine bE q λy a=>?_;have ez:=a.symm;subst ez;clear a q;go_wp2_with fail;refine bE r λy a=>?_;have ez:=a.symm;subst ez;clear a r;have qC:(w1.alloc (.cells #[.int .i64 (X:Int), .int .i64 (Y:Int), .int .i64 (Z:Int)] 40)).heap[w1.heap.size]? =some (.cells #[.int .i64 (X:Int), .int .i64 (Y:Int), .int .i64 (Z:Int)] 40 (0,0)):=heap_alloc_new _ _;have eM:bW w (w1.alloc (.cells #[.int .i64 (X:Int), .int .i64 (Y:Int), .int .i64 (Z:Int)] 40)):=bK.alloc bK.size _;have SO:(w1.alloc (.cells #[.int .i64 (X:Int), .int .i64 (Y:Int), .int .i64 (Z:Int)] 40)).heap[w.heap.size]? =some (.cells #[.int .i64 0, .int .i64 0, .int .i64 0] 40 (0,0)):=(Below.heap_alloc _ _ _ (by omega)).trans iA;have ju:(w1.alloc (.cells #[.int .i64 (X:Int), .int .i64 (Y:Int), .int .i64 (Z:Int)] 40)).heap.size=w.heap.size+2:=by simp;omega
 have f:=(aF qC (aF eM (aF SO ju)));clear qC eM SO ju bK iA;go_wp2_with fail;refine(SN _).mono ?_;rintro e D ⟨rfl,bz⟩;have sW:=f.2.1.trans (bz.mono (by have:=f.2.2.2;omega));have d:=(bz.block w.heap.size (by have:=f.2.2.2;omega)).trans f.2.2.1;obtain⟨z,A,C,E,G,H,jB⟩:=nW (aL d) (bD d) (bH d) (ae d 0) (ae d 1) (ae d 2) sW;clear SN bz d sW f;go_wp2;exact bodyPost_ret (v:= .tuple #[.agg #[iV 0,iV 0,iV 0],iV 6]) (by simp [results,results116,go_sem,z,A,C]) rfl ⟨rfl,jB.trans ((λ(u0 u1 u2:Value)=>aa.below (B:=w.heap.size) (((aa.setCell (F:=λj=>j=w.heap.size) (p:=⟨w.heap.size,0,none⟩) D rfl u0).trans (aa.setCell (F:=λj=>j=w.heap.size) (p:=⟨w.heap.size,1,none⟩) _ rfl u1) (λ_ h=> .inl h)).trans (aa.setCell (F:=λj=>j=w.heap.size) (p:=⟨w.heap.size,2,none⟩) _ rfl u2) (λ_ h=> .inl h)) (λj I=>by omega) jB.size) _ _ _)⟩
theorem BK (b o c:Nat) (l:List Int) (w:World) (g:l.length=512) (f:Bytes l) (j:∀i,i<512->w.cell? ⟨b,o+i,none⟩=some (.int .u8 (l.getD i 0))):
  Calls prog 116 #[.slice (some (aD b o)) 512 c] w λe w'=>∃v x,e= .returned (.tuple #[v,iV x])/\SM l v x/\bW w w':=by
 by_cases a:vq (u32 l 8) (u32 l 12) (u32 l 16)
 .by_cases d:eR (bM (u32 l 8) (u32 l 12) (u32 l 16))=l
  .refine(rM b o c l w g f j a true (by simp [d])).mono ?_;rintro e w' ⟨rfl,h⟩;exact⟨_,_,rfl, .inl ⟨⟨a,d⟩,rfl,rfl⟩,h⟩
  .refine(rM b o c l w g f j a false (by simp [d])).mono ?_;rintro e w' ⟨rfl,h⟩;exact⟨_,_,rfl, .inr ⟨λh=>d h.2,rfl,rfl⟩,h⟩
 .refine(xm b o c l w g f j a).mono ?_;rintro e w' ⟨rfl,h⟩;exact⟨_,_,rfl, .inr ⟨λh=>a h.1,rfl,rfl⟩,h⟩
section
section
variable {w w':World} {F G:Nat->Prop} {r s k:Nat} {S:DS} {L:LG}
def aeH (w w':World) (R:Nat->PC) (E P:Nat) (v:Value) (n:Int):Prop:=
   (∃c d,Rec R E P c d/\n=(c:Int)/\Own w' w.heap.size v d)\/(n=0/\v= .slice none 0 0/\∀c d,¬Rec R E P c d)
theorem SP (h:(R P).d= []):∀c d,¬Rec R E P c d:=λc d a=>by
 have:=(a.2.2.1 0 (by have:=a.1;omega)).2.2.2.2.1;rw [Nat.add_zero,h] at this;simp at this
theorem Ew (h:(R P).c<1\/17<(R P).c):∀c d,¬Rec R E P c d:=λc d a=>by
 have:=a.count;have:=a.1;have:=a.2.1;omega
theorem Ic (b:i<(R P).c) (h:¬(R (P+i)).ok E (P+i) i (R P).c):∀c d,¬Rec R E P c d:=λc d a=>by
 rw [a.count] at b h;exact h (a.2.2.1 i b)
theorem Wp (E P:Nat) (h:aB w F r s S) (y:cH w k r L) (OE:S.fC) (hs:L.f+2+L.n<=s) (iQ:1<=L.n) (aT:S.puts.length+1<=4000000000000) (hE:E<=1073741824) (hP:P<=2147483648):
  Calls prog 164 #[pQ k,iV (E:Int),iV (P:Int)] w λe w'=>∃v n,e= .returned (.tuple #[v,iV n])/\aeH w w' (Rp (dW S L.f) L.n) E P v n/\bW w w':=by
 have Mb:=h.ok.hi;have U:P%L.n<L.n:=Nat.mod_lt _ iQ;have mN:=br h.ok (L.f+2+P%L.n) (by omega);have cZ:=OE.now (L.f+2+P%L.n);obtain⟨u,J,K,O⟩:=cM (jF (h.later (ai (bi w.heap.size w))) (L.f+2+P%L.n) (by omega) (by omega)) y.c0 y.c2 y.c3;have Uq:Rp (dW S L.f) L.n P=cF (S.now (L.f+2+P%L.n)):=rfl;have a:=(λ(wx:World) (i c:Nat) (hb:bW w wx) (hi:i<=17) (hc:c<=65536) (A2:1<=c)=>OA E (P+i) i c (h.later hb) (y.later hb) (OE.now _) hs iQ aT (by omega) (by omega) (by omega) hc A2);have wh:(P:Int).tmod (L.n:Int)=((P%L.n:Nat):Int):=by rw [Int.tmod_eq_emod_of_nonneg (by omega),<-Int.natCast_emod]
 have R6:(P:Int)%(L.n:Int)=((P%L.n:Nat):Int):=by rw [<-Int.natCast_emod]
 have nY:=(j0 cZ).2.2.2.1;obtain⟨M,hM⟩:=bQ (P%L.n);rw [<-hM] at wh R6 U u mN cZ Uq nY;rw [show ((L.f+2+M:Nat):Int)=(L.f:Int)+2+(M:Int) by omega] at u;have xL:IntKind.i64.wrap ((L.f:Int)+2)=(L.f:Int)+2:=by rw [IntKind.wrap_i64];omega
 have aez:IntKind.i64.wrap ((L.f:Int)+2+(M:Int))=(L.f:Int)+2+(M:Int):=by rw [IntKind.wrap_i64];omega
 have aeA:¬L.n=0:=by omega
 have x:∀q,cF (S.now (L.f+2+q%L.n))=Rp (dW S L.f) L.n q:=λq=>rfl;simp only [x] at a;clear hM h y x;generalize S.now (L.f+2+M)=l at*;have T:∀q,(Rp (dW S L.f) L.n q).d.length<=492:=λq=>(j0 (OE.now _)).2.2.2.2.1;generalize Rp (dW S L.f) L.n=R at*;have hlen:=DN l;have ie:=pG cZ;go_in;go_wp2_with fail;go_region_held3 (λw'=>w'.cell? (aD k 0)=some (pQ r)/\w'.cell? (aD k 2)=some (iV (L.f:Int))/\w'.cell? (aD k 3)=some (iV (L.n:Int)))
  (first|exact⟨J,K,O⟩)
    ((go_at_call 69;refine u.mono ?_;rintro e w1 ⟨g,cg,rfl,hFg,aY,bN⟩;have j9:=bN.symm;clear bN;subst j9))
 have fZ:=aY.src;rw [mN] at fZ;have m:=qG (some (aD g 0)) 512 cg l w.drew fZ cZ;by_cases G:(aR l).2=0
 .rw [G] at m;clear u aY fZ J K O;go_wp2_with fail;by_cases k2:(aR l).1.length<=12
  .have sO:=(show∀c d,¬Rec R E P c d from SP (by rw [Uq];exact xP (.inr k2)));have d2:((aR l).1.length:Int)<=12:=(by omega);clear k2 a Uq;refine m.mono ?_;rintro e A ⟨X,rfl,jo,aW⟩;obtain⟨p,rq,rfl,bo,_,_⟩:=jo.src;have dE:=(ai (bi w.heap.size w)).trans aW;clear m aW jo bo;go_wp2;go_ret2;exact⟨_,_,rfl, .inr ⟨rfl,rfl,sO⟩,dE⟩
  .have mT:=vx G (by omega);have d2:¬((aR l).1.length:Int)<=12:=(by omega);by_cases H:(cF l).c<1\/17<(cF l).c
   .have sO:=(show∀c d,¬Rec R E P c d from Ew (by rw [Uq];exact H));refine m.mono ?_;rintro e A ⟨X,rfl,jo,aW⟩;obtain⟨p,rq,rfl,bo,_,_⟩:=jo.src;have dE:=(ai (bi w.heap.size w)).trans aW;have b:=bw p _ rq _ A bo ie 10 2 (by omega) (by omega) (by omega);rw [<-mT.2.2.2.1,show (((10:Nat)):Int)=10 from rfl,show (((2:Nat)):Int)=2 from rfl] at b;clear m aW jo bo mT;go_wp2_with fail;refine bE b λw3 eB=>?_;have eS:=eB.symm;clear eB b;subst eS;by_cases k4:(cF l).c<1
    .have Q:((cF l).c:Int)<1:=(by omega);clear H a Uq;go_wp2;go_ret2;exact⟨_,_,rfl, .inr ⟨rfl,rfl,sO⟩,dE⟩
    .have Q:¬((cF l).c:Int)<1:=(by omega);have d5:(17:Int)<((cF l).c:Int):=(by omega);clear H a Uq;go_wp2;go_ret2;exact⟨_,_,rfl, .inr ⟨rfl,rfl,sO⟩,dE⟩
   .have Q:¬((cF l).c:Int)<1:=(by omega);have d5:¬(17:Int)<((cF l).c:Int):=(by omega);have o:(R P).c=(cF l).c:=(by rw [Uq]);refine m.mono ?_;rintro e A ⟨X,rfl,jo,aW⟩;obtain⟨p,rq,rfl,bo,_,_⟩:=jo.src;have dE:=(ai (bi w.heap.size w)).trans aW;have b:=bw p _ rq _ A bo ie 10 2 (by omega) (by omega) (by omega);rw [<-mT.2.2.2.1,show (((10:Nat)):Int)=10 from rfl,show (((2:Nat)):Int)=2 from rfl] at b;clear m aW jo bo mT;go_wp2_with fail;refine bE b λw3 eB=>?_;have eS:=eB.symm;clear eB b;subst eS;obtain⟨C,hC⟩:=bQ ((cF l).c);rw [<-hC] at Q d5 o H⊢;have Wq:=o;clear o hC Uq;go_wp2;go_loopw [12,13] (λv i wr=>∃j:Nat,j<=C/\i=iV (j:Int)/\(∀t,t<j->(R (P+t)).ok E (P+t) t C)/\Own wr w.heap.size v (kV R P j)/\(kV R P j).length<=492*j/\bW w wr) (λ_ i _=>C-(intOf i).toNat);case atStart=>exact⟨0,dU _,rfl,λt ht=>by omega,by rw [mq];exact Own.nil _ _,by rw [mq];simp,dE⟩
    case round=>
     obtain⟨j,hj,rfl,bR,az,sX,dO⟩:=hrel;obtain⟨bq,I,OF,hz⟩:=cM az dO bR dO.size;clear az dO bR;by_cases bm:j<C
     .have cw:(j:Int)<(C:Int):=(by omega);have D:=a wr j C I (by omega) (by omega) (by omega);rw [show ((P+j:Nat):Int)=(P:Int)+(j:Int) by omega] at D;go_wp2_with fail;refine D.mono ?_;rintro e w4 ⟨v4,rfl,W,fe⟩;have sW:=I.trans (fe.mono hz);have vS:=fe.size;rcases W with ⟨dh,body,z,j7,Vg,aeK⟩|⟨iZ,rfl⟩
      .obtain⟨a4,Z,rfl,GH,iS,_⟩:=z.src;obtain⟨Y,o4,rfl⟩:=cT GH (by omega);have Xx:Src w4 (some ⟨Y,o4+12,none⟩) (body.length-12) ((R (P+j)).d):=by
        have:=GH.sub 12 (body.length-12) (by omega);rwa [nh (by simp),j7] at this
       have jy:=T (P+j);have I1:(R (P+j)).d.length=body.length-12:=(by rw [<-j7];simp);obtain⟨x5,w5,bC,rF,ff⟩:=qV (B:=w.heap.size) (bq.later fe) (Z-12) Xx (by omega) (by omega) (by omega);obtain⟨ro,ZT,jd,Po⟩:=cM bC rF ((sW.trans ff)) dh;obtain⟨N,b⟩:=bQ body.length;rw [<-b] at Vg aeK iS ro I1⊢;have iQ:¬(N:Int)=0:=(by omega);have xA:((N:Int) == 0)=false:=(by rw [eG];omega);have ZB:(12:Int)<=(N:Int):=(by omega);clear D dh z j7 GH Xx bC rF ff fe sW b;go_wp2_with (at_builtin;refine bj rfl _ _ 22 rfl u12 (.slice (some ⟨Y,o4+12,none⟩) (N-12) (Z-12)) _ rfl rfl ro ?_);go_wp2;go_roundw;case rel=>
        refine⟨j+1,by omega,by go_num,λt ht=>?_,by rw [iq];exact ZT,by rw [iq,dT];omega,jd⟩;by_cases e:t=j
        .subst e;exact Po
        .exact OF t (by omega)
       case measure=>simp [intOf];omega
      .have sO:=(show∀c d,¬Rec R E P c d from Ic (by rw [Wq];exact bm) (by rw [Wq];exact iZ));have jB:=sW;clear iZ fe sW D;go_wp2;go_ret2;exact⟨_,_,rfl, .inr ⟨rfl,rfl,sO⟩,jB⟩
     .obtain rfl:j=C:=(by omega);have vQ:¬(j:Int)<(j:Int):=(by omega);go_wp2;go_ret2;exact⟨_,_,rfl, .inl ⟨_,_,(show Rec R E P j (kV R P j) from ⟨by omega,by omega,OF,rfl⟩),rfl,bq⟩,I⟩
 .have sO:=(show∀c d,¬Rec R E P c d from SP (by rw [Uq];exact xP (.inl G)));have d1':(((aR l).2:Int) != 0)=true:=by rw [fT];omega
  clear G a Uq;clear u aY fZ J K O;go_wp2_with fail;refine m.mono ?_;rintro e A ⟨X,rfl,jo,aW⟩;obtain⟨p,rq,rfl,bo,_,_⟩:=jo.src;have dE:=(ai (bi w.heap.size w)).trans aW;clear m aW jo bo;go_wp2;go_ret2;exact⟨_,_,rfl, .inr ⟨rfl,rfl,sO⟩,dE⟩
end
end
section
theorem OG (h:(aR l).2≠0\/(aR l).1.length<12):(cF l).e=0:=by
 unfold cF;rw [aE h];rfl
theorem OH (h:(R j).e<1\/1073741824<(R j).e\/(R j).e<=max E (rtop R j)):max E (rtop R (j+1))=max E (rtop R j):=by
 show max E (if (R j).e<=1073741824 then max (rtop R j) (R j).e else rtop R j)=_;split <;> omega
theorem OI (h:(R j).e<=1073741824) (a:max E (rtop R j)<(R j).e):max E (rtop R (j+1))=(R j).e:=by
 show max E (if (R j).e<=1073741824 then max (rtop R j) (R j).e else rtop R j)=_;rw [aE h];omega
section
variable {w w':World} {F G:Nat->Prop} {r s k:Nat} {S:DS} {L:LG}
theorem SQ (E:Nat) (h:aB w F r s S) (K:cH w k r L) (OE:S.fC) (hs:L.f+2+L.n<=s) (aT:S.puts.length+1<=4000000000000) (hE:E<=1073741824):
  Calls prog 163 #[pQ k,iV (E:Int)] w λe w'=>e= .returned (iV ((max E (rtop (dW S L.f) L.n):Nat):Int))/\bW w w':=by
 obtain⟨Mb,O,P,Po,Fi⟩:=ey h.ok.hi (yh h) (yh K) (yh h.ok) (yh OE);have p:∀q,cF (S.now (L.f+2+q))=dW S L.f q:=λq=>rfl;have d:=yh p;clear h K OE p;obtain⟨R,I⟩:=bQ (dW S L.f);rw [<-I] at d⊢;clear I;go_in;go_wp2;go_loopw [5,6] (λm i wr=>∃j:Nat,j<=L.n/\i=iV (j:Int)/\m=iV ((max E (rtop R j):Nat):Int)/\bW w wr) (λ_ i _=>L.n-(intOf i).toNat);case atStart=>exact⟨0,dU _,rfl,by simp [rtop],bi _ _⟩
 case round=>
  obtain⟨j,hj,rfl,rfl,dO⟩:=hrel;have C:=yh dO;have cm:=P.o.later dO;obtain⟨D,G,U,hz,Au,SR⟩:=kQ cm.c0 cm.c2 cm.c3 dO.size (yh (OH (R:=R) (E:=E) (j:=j))) (yh (OI (R:=R) (E:=E) (j:=j)));obtain⟨M,A⟩:=bQ (max E (rtop R j));rw [<-A] at Au SR⊢;have Q:=yh A;clear A cm;by_cases bm:j<L.n
  .have cw:(j:Int)<(L.n:Int):=(by omega);have z:=jF ((O.o.later dO).later (ai (bi wr.heap.size wr))) (L.f+2+j) (by omega) (by omega);have mN:=br Po.o (L.f+2+j) (by omega);have cZ:=Fi.o.now (L.f+2+j);have u:=d.o j;rw [show ((L.f+2+j:Nat):Int)=(L.f:Int)+2+(j:Int) by omega] at z;have xL:IntKind.i64.wrap ((L.f:Int)+2)=(L.f:Int)+2:=(by rw [IntKind.wrap_i64];omega);have aez:IntKind.i64.wrap ((L.f:Int)+2+(j:Int))=(L.f:Int)+2+(j:Int):=(by rw [IntKind.wrap_i64];omega);generalize S.now (L.f+2+j)=l at*;have N:=DN l;have ie:=pG cZ;have VW:=yh (OG (l:=l));have c:=yh (λa b=>(vx (l:=l) a b).1);have t:=(j0 cZ).1;rw [u] at VW c t;clear dO u;go_wp2_with fail;go_region_held3 (λw'=>w'.cell? (aD k 0)=some (pQ r)/\w'.cell? (aD k 2)=some (iV (L.f:Int)))
    (first|exact⟨D,G⟩)
      ((go_at_call 69;refine z.mono ?_;rintro e w1 ⟨g,W,rfl,hFg,aY,bN⟩;have j9:=bN.symm;clear bN;subst j9))
   have fZ:=aY.src;rw [mN] at fZ;have H:=qG (some (aD g 0)) 512 W l wr.drew fZ cZ;clear z aY fZ D G U;go_wp2_with fail;refine H.mono ?_;rintro e w2 ⟨v2,rfl,jo,aW⟩;obtain⟨T,rq,rfl,bo,_,_⟩:=jo.src;obtain⟨dE,wR⟩:=bL (C.o.trans ((ai (bi wr.heap.size wr)).trans aW |>.mono hz)) bo;clear H aW jo bo;by_cases x:(aR l).2=0
   .by_cases k2:(aR l).1.length<12
    .have Z:((aR l).1.length:Int)<12:=(by omega);have y:=yh (Au.o (.inl (by rw [VW.o (.inr k2)];omega)));rw [x];go_wp2;go_roundw;case rel=>exact⟨j+1,by omega,by go_num,by rw [y.o],dE.o⟩
     case measure=>simp [intOf];omega
    .have Z:¬((aR l).1.length:Int)<12:=(by omega);have v:=bw T _ rq _ w2 wR.o ie 0 4 (by omega) (by omega) (by omega);rw [<-c.o x (by omega),show (((0:Nat)):Int)=0 from rfl,show (((4:Nat)):Int)=4 from rfl] at v;rw [x];clear c VW;obtain⟨X,J⟩:=bQ ((R j).e);rw [<-J] at v t Au SR;clear J;go_wp2_with fail;refine bE v λw3 eB=>?_;have eS:=eB.symm;clear eB v;subst eS;by_cases x1:X<1
     .have y1:¬(1:Int)<=(X:Int):=(by omega);go_wp2;go_roundw;case rel=>exact⟨j+1,by omega,by go_num,by rw [(yh (Au.o (.inl x1))).out],dE.o⟩
      case measure=>simp [intOf];omega
     .have y1:(1:Int)<=(X:Int):=(by omega);by_cases x2:1073741824<X
      .have y2:¬(X:Int)<=1073741824:=(by omega);go_wp2;go_roundw;case rel=>exact⟨j+1,by omega,by go_num,by rw [(yh (Au.o (.inr (.inl x2)))).out],dE.o⟩
       case measure=>simp [intOf];omega
      .have y2:(X:Int)<=1073741824:=(by omega);by_cases x3:M<X
       .have y3:(M:Int)<(X:Int):=(by omega);go_wp2;go_roundw;case rel=>exact⟨j+1,by omega,by go_num,by rw [(yh (SR.o (by omega) x3)).out],dE.o⟩
        case measure=>simp [intOf];omega
       .have y3:¬(M:Int)<(X:Int):=(by omega);go_wp2;go_roundw;case rel=>exact⟨j+1,by omega,by go_num,by rw [(yh (Au.o (.inr (.inr (by omega))))).out],dE.o⟩
        case measure=>simp [intOf];omega
   .have d1:(((aR l).2:Int) == 0)=false:=(by rw [eG];omega);have Y:(((aR l).2:Int) != 0)=true:=(by rw [fT];omega);have y:=yh (Au.o (.inl (by rw [VW.o (.inl x)];omega)));go_wp2;go_roundw;case rel=>exact⟨j+1,by omega,by go_num,by rw [y.o],dE.o⟩
    case measure=>simp [intOf];omega
  .obtain rfl:j=L.n:=(by omega);have vQ:¬(L.n:Int)<(L.n:Int):=(by omega);go_wp2;go_ret;exact⟨by rw [<-Q.o];rfl,C.o⟩
end
end
section
theorem Aw {R:Nat->PC} {P:Nat}:∀c,1<=c->(R P).d.length<=(kV R P c).length
 |0,h=>by omega
 |c+1,_=>by
  rw [iq,dT];by_cases e:c=0
  .subst e;rw [Nat.add_zero];omega
  .have:=Aw (R:=R) (P:=P) c (by omega);omega
theorem Rec.some (h:Rec R E P c d):0<d.length:=by
 have a:=(h.2.2.1 0 (by have:=h.1;omega)).2.2.2.2.1;rw [Nat.add_zero] at a;have:=Aw (R:=R) (P:=P) c h.1;rw [h.2.2.2];omega
section
variable {w w':World} {F G:Nat->Prop} {r s k:Nat} {S:DS} {L:LG}
structure ST (w':World) (B k r:Nat) (L:LG) (S:DS) (v:Value) (rs:List (List Int)) (hd:Nat):Prop where
 rc:dQ w' B v rs (λ_=>False)
 t:dC (Rp (dW S L.f) L.n) (bV S L.f).1 (bV S L.f).2.1 rs hd
 x:∀c d,¬Rec (Rp (dW S L.f) L.n) (bV S L.f).1 hd c d
 p:cH w' k r {L with ep:=(bV S L.f).1,tail:=(bV S L.f).2.1,head:=hd,top:=ia S L.f L.n}
def qY (w w':World) (r s:Nat) (S:DS) (f n:Int) (e:Ending):Prop:=
 if (bu S s f n).1≠0 then e= .returned (.tuple #[.pointer none, .slice none 0 0,iV (bu S s f n).1])
 else∃k v rs hd,e= .returned (.tuple #[pQ k,v,iV 0])/\w.heap.size<=k/\ST w' w.heap.size k r (LG.new S f.toNat n.toNat) S v rs hd
theorem cH.J0 (h:cH w k r L) (T:Nat):cH (w.setCell ⟨k,7,none⟩ (.int .i64 (T:Int))) k r {L with top:=T}:=
   (heap_setCell_same _ _ 7 _ _ _ h).trans (by simp)
theorem cH.aao (h:cH w k r L) (T:Int) (n:Nat) (a:T=(n:Int)):cH (w.setCell ⟨k,6,none⟩ (.int .i64 T)) k r {L with head:=n}:=by
 subst a;exact(heap_setCell_same _ _ 6 _ _ _ h).trans (by simp)
theorem dQ.marked {B:Nat} (h:dQ w B v rs X) (f:cH w k r L) (j:Nat) (u:Value):dQ (w.setCell ⟨k,j,none⟩ u) B v rs X:=by
 have dG:∀(g:Nat) (t:TypeId) (cur:Array Value),w.heap[g]? =some (Obj.cells cur t (0,0))->t≠199->(w.setCell ⟨k,j,none⟩ u).heap[g]? =w.heap[g]? :=λg t cur a i=>by
  have:g≠k:=λe=>by subst e;exact tN a f i
  exact(aJ (F:=λb=>b=k) w rfl j u).block g (aw a) this
 refine h.step (λg d=>?_) (λg cur a _=>dG g _ cur a (by decide)) (λ_ _ h=>h);obtain⟨l,c,_⟩:=h;obtain⟨cur,a⟩:=bJ c d;exact dG g _ cur a (by decide)
theorem OJ {W:World} {B:Nat} (h:dQ W B v rs (λ_=>False)) (l:ay W 5 g c (bs d)) (p:B<=g) (Ur:B<=W.heap.size) (pi:rs.length<=1000000):
  ∃v' w',(Builtin.append_ #[79,79] 79 #[v, .slice (some (aD W.heap.size 0)) 1 1]).run prog (W.alloc (.cells #[.slice (some ⟨g,0,none⟩) d.length c] 22))= .ok v' w'/\dQ w' B v' (rs ++ [d]) (λ_=>False)/\Below B W w'/\∀(b:Nat) (cur:Array Value),W.heap[b]? =some (.cells cur 199 (0,0))->w'.heap[b]? =some (.cells cur 199 (0,0)):=by
 obtain⟨u,e,o⟩:=h;obtain⟨t,QU,w',bC,s,f⟩:=L8 e (.slice (some (aD g 0)) d.length c) rfl pi Ur;have lj:=aI W (.cells #[.slice (some ⟨g,0,none⟩) d.length c] 22);have Yw:=em e (λx a=>by
  obtain⟨cur,q⟩:=bJ e a;exact lj.block x (aw q))
 refine⟨_,w',bC,Cv Yw (λi r=>?_) (l.agree (lj.block g l.lt)) p s f,?_,λb cur k=>?_⟩
 .obtain⟨x,y,m,j,n,_⟩:=o i r;exact⟨x,y,m,j.agree (lj.block x j.lt),n⟩
 .exact(lj.mono Ur).grown f (jQ Ur lj.size) (λx a=>jn e a)
 .exact pL f (λx a=>bJ Yw a) ((lj.block b (aw k)).trans k) (by decide)
end
end
end Go.Proofs.YtenlkgicpllbhabGreat
