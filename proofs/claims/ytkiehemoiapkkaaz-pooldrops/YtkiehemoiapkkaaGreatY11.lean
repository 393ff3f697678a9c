import Derived.Test.YtkiehemoiapkkaaGreatY01
import Derived.Test.YtkiehemoiapkkaaGreatY06
import Derived.Test.YtkiehemoiapkkaaGreatY10
set_option maxRecDepth 20000
set_option maxHeartbeats 8000000
set_option linter.all false
namespace Go.Proofs.YtkiehemoiapkkaaGreat
open Go.Proofs.Tryz
open Go.RowKit Go.Maps
section
section
variable {w w' w0 w1 w2:World} {F X Y Z:Nat->Prop} {kr p s cR q l m t n a1 a2 k pa:Nat} {S:DS} {G:SG} {T:TG} {M:MP} {N:Int} {who two:Bool} {da:Option Addr} {dn dc:Nat}
theorem Ge (h:jY w F X kr p s cR q l m t n a1 a2 k S G T M) (hc:LK G S T M) (fZ:G.y.data=2+G.y.nodes / 4) (gh:ar w F pa t n):
  Calls prog 36 #[.pointer (some ⟨kr,0,none⟩), .pointer (some ⟨pa,0,none⟩),rM 3 N who two da dn dc] w λe w'=>lc w w' F X kr p s q l m t n a1 a2 k S G e:=by
 obtain⟨q1,kZ⟩:=hc.mo h.x.yk fZ h.x.tx.ch.ok N;obtain⟨KB,KC,KD⟩:=hc.Nv h.x.yk fZ;have tP:=hc.DD;have fD:=an w (aY 3 N who two da dn dc);have bw:=heap_alloc_new w (aY 3 N who two da dn dc);have g0:(w.alloc (aY 3 N who two da dn dc)).cell? ⟨w.heap.size,0,none⟩=some (.int .i64 3):=aa bw (j:=0) rfl;have g1:(w.alloc (aY 3 N who two da dn dc)).cell? ⟨w.heap.size,1,none⟩=some (.int .i64 N):=aa bw (j:=1) rfl;have h0:=h.later fD;have kc:=pF h0.x (gh.later fD) N;generalize (T.cE G S (dh G.y) N).2.eU G S (T.cE G S (dh G.y) N).1=T1 at kc kZ;rw [q1] at kc;have KM:Yh (∀w1,MX w1 X k M->Calls prog 72 #[.pointer (some ⟨k,0,none⟩), .int .i64 N] w1 λe w'=>MO w1 w' X w1.heap.size k (M.mo N) e):=λw1 hm=>F8 hm (by omega) KB KC KD N;have yH:Yh (¬cq F t n w.heap.size/\¬X w.heap.size):=by
  obtain⟨o1,o2,o3,o4,o5,o6⟩:=h.x.low;refine⟨λe=>?_,λe=>Nat.lt_irrefl _ (h.xl _ e)⟩;rcases e with e|e|e
  .exact Nat.lt_irrefl _ (o1 _ e)
  .omega
  .omega
 have H0:=yh (And.intro h0 (And.intro fD bw));have HC:=yh kZ;clear h hc fZ gh q1 kZ fD bw h0 KB KC KD tP;generalize M.mo N=R at*;obtain⟨ry,RM⟩:=R
 dsimp only at kc
 unfold MO at KM
 dsimp only at KM HC
 go_enter func36,ntmps36;go_wp2_with fail;refine kc.mono ?_;rintro e w1 ⟨rfl,dj,bo⟩;have gj:ad (λj=>cq F t n j\/X j) (w.alloc (aY 3 N who two da dn dc)) w1:=bo.mono (λ_ h=> .inl h);have h1:=H0.o.1.after (Y:=X) dj (H0.o.1.mm.apart bo (λj e hx=>H0.o.1.qA j hx e)) gj (λ_ h=> .inl h);have HZ:Yh (w1.heap[w.heap.size]? =some ((aY 3 N who two da dn dc:Obj))):=(bo.block _ (af H0.o.2.2) yH.o.1).trans H0.o.2.2;have pd:Yh (Below w1.heap.size w1 w1.drew):=ah (Below.refl _ _);have H7:Yh (∀w',Below w1.heap.size w1 w'->w'.cell? ⟨kr,4,none⟩=some (.pointer (some ⟨k,0,none⟩))/\w'.cell? ⟨w.heap.size,1,none⟩=some (.int .i64 N)):=λw' hb=>⟨aa (h1.later hb).b (j:=4) rfl,aa ((hb.block _ (af HZ.o)).trans HZ.o) (j:=1) rfl⟩;have H1:=yh (And.intro h1 gj);clear kc dj bo gj h1 g0 g1;go_wp2_with fail;refine wp_region_held_drew (S:=(λw'=>w'.cell? ⟨kr,4,none⟩=some (.pointer (some ⟨k,0,none⟩))/\w'.cell? ⟨w.heap.size,1,none⟩=some (.int .i64 N))) (by kernel_rfl) (H7.o _ pd.o) (λaC=>?_);refine wpAnyH_take (i:=0) (oi:={dst:=some 72,op:=Op.move (Operand.tmp 0),type:=28,pos:= "exact.go:204",after:= #[],guard:=none}) (v:= .pointer (some ⟨kr,0,none⟩)) rfl (by kernel_rfl) (by kernel_rfl) (by kernel_rfl) (λ_ _ _ h=>h) (Or.inl ⟨by rfl,?_⟩) (by assumption) ?_
 .intro w aw
  (try dsimp only at aw)
  go_simp
 try simp only [Act.put,List.setIfInBounds_toArray,List.set_cons_zero,List.set_cons_succ]
 refine wpAnyH_take (i:=1) (oi:={dst:=some 73,op:=Op.nilCheck (Operand.tmp 72),type:=0,pos:= "exact.go:204",after:= #[{on:=0,ground:=Ground.data}],guard:=none}) (v:= .pointer (some ⟨kr,0,none⟩)) rfl (by kernel_rfl) (by kernel_rfl) (by kernel_rfl) (λ_ _ _ h=>h) (Or.inl ⟨by rfl,?_⟩) (by assumption) ?_
 .intro w aw
  (try dsimp only at aw)
  go_simp
 try simp only [Act.put,List.setIfInBounds_toArray,List.set_cons_zero,List.set_cons_succ]
 refine wpAnyH_take (i:=2) (oi:={dst:=some 74,op:=Op.fieldAddr 38 (Operand.tmp 73) 4,type:=0,pos:= "exact.go:204",after:= #[{on:=1,ground:=Ground.data}],guard:=none}) (v:= .pointer (some ⟨kr,4,none⟩)) rfl (by kernel_rfl) (by kernel_rfl) (by kernel_rfl) (λ_ _ _ h=>h) (Or.inl ⟨by rfl,?_⟩) (by assumption) ?_
 .intro w aw
  (try dsimp only at aw)
  go_simp
 try simp only [Act.put,List.setIfInBounds_toArray,List.set_cons_zero,List.set_cons_succ]
 refine wpAnyH_take (i:=3) (oi:={dst:=some 75,op:=Op.load 36 (Operand.tmp 74),type:=36,pos:= "exact.go:204",after:= #[{on:=2,ground:=Ground.data}],guard:=none}) (v:= .pointer (some ⟨k,0,none⟩)) rfl (by kernel_rfl) (by kernel_rfl) (by kernel_rfl) (λ_ _ _ h=>h) (Or.inl ⟨by rfl,?_⟩) (by assumption) ?_
 .intro w aw
  (try dsimp only at aw)
  go_simp
 try simp only [Act.put,List.setIfInBounds_toArray,List.set_cons_zero,List.set_cons_succ]
 refine wpAnyH_take (i:=4) (oi:={dst:=some 76,op:=Op.fieldAddr 46 (Operand.tmp 5) 1,type:=0,pos:= "exact.go:204",after:= #[],guard:=none}) (v:= .pointer (some ⟨w.heap.size,1,none⟩)) rfl (by kernel_rfl) (by kernel_rfl) (by kernel_rfl) (λ_ _ _ h=>h) (Or.inl ⟨by rfl,?_⟩) (by assumption) ?_
 .intro w aw
  (try dsimp only at aw)
  go_simp
 try simp only [Act.put,List.setIfInBounds_toArray,List.set_cons_zero,List.set_cons_succ]
 refine wpAnyH_take (i:=5) (oi:={dst:=some 77,op:=Op.load 3 (Operand.tmp 76),type:=3,pos:= "exact.go:204",after:= #[{on:=4,ground:=Ground.data}],guard:=none}) (v:= .int .i64 N) rfl (by kernel_rfl) (by kernel_rfl) (by kernel_rfl) (λ_ _ _ h=>h) (Or.inl ⟨by rfl,?_⟩) (by assumption) ?_
 .intro w aw
  (try dsimp only at aw)
  go_simp
 try simp only [Act.put,List.setIfInBounds_toArray,List.set_cons_zero,List.set_cons_succ]
 refine wpAnyH_ready (rs:= [6]) (by kernel_rfl) (by simp) ?_;refine AllReadyH.cons (o:={dst:=some 78,op:=Op.call {callee:=Callee.value (Operand.func 72),args:= #[Operand.tmp 75,Operand.tmp 77],argTypes:= #[36,3]},type:=3,pos:= "exact.go:204",after:= #[{on:=3,ground:=Ground.data},{on:=5,ground:=Ground.data}],guard:=none}) rfl (λK hK=>?_) AllReadyH.nil;go_simp;have cI:=H1.o.1.later pd.o;refine(KM.out w1.drew cI.mm).mono ?_;rintro e w2 ⟨rfl,fi,aK⟩;have HE:Yh (lc w w2 F X kr p s q l m t n a1 a2 k S G (.returned (.bool true))):=cI.both H0.o.2.1 (H1.o.2.trans (ad.ag (λ_=>False) pd.o) (λ_ h=>h.elim)) HC.o fi aK;have qC:w2.cell? ⟨kr,4,none⟩=some (.pointer (some ⟨k,0,none⟩))/\w2.cell? ⟨w.heap.size,1,none⟩=some (.int .i64 N):=by
  have h9:=H7.o _ pd.o;exact⟨(World.cell?_of_block (w:=w1.drew) (a:=⟨kr,4,none⟩) (aK.block kr (af cI.b) (λe=>(cI.xa kr e).2.2.2.2.2.2.1 rfl))).trans h9.1,(World.cell?_of_block (w:=w1.drew) (a:=⟨w.heap.size,1,none⟩) (aK.block _ (World.block_lt_of_cell? _ _ h9.2) yH.o.2)).trans h9.2⟩
 clear fi aK cI KM;refine hK.out _ _ ?_ (λaC=>?_)
 .exact qC
 clear hK K;try simp only [Act.put,List.setIfInBounds_toArray,List.set_cons_zero,List.set_cons_succ]
 refine wpAnyH_ready (rs:= [7]) (by kernel_rfl) (by simp) ?_;refine AllReadyH.cons (o:={dst:=some 14,op:=Op.assign (Operand.tmp 78),type:=3,pos:= "exact.go:204",after:= #[{on:=6,ground:=Ground.data},{on:=6,ground:=Ground.chain},{on:=0,ground:=Ground.phase},{on:=1,ground:=Ground.phase},{on:=2,ground:=Ground.phase},{on:=3,ground:=Ground.phase},{on:=4,ground:=Ground.phase},{on:=5,ground:=Ground.phase},{on:=6,ground:=Ground.phase}],guard:=none}) rfl (λK hK=>?_) AllReadyH.nil;go_simp;refine hK.out _ _ ?_ (λaC=>?_)
 .exact qC
 clear hK K;try simp only [Act.put,List.setIfInBounds_toArray,List.set_cons_zero,List.set_cons_succ]
 refine wpAnyH_done (by kernel_rfl) ?_ _;have kn:=bF ry w2;clear H1 HC H0 H7 HZ pd;go_wp2_with fail;refine kn.mono ?_;rintro e wx ⟨rfl,cU⟩;have bR:=cU.symm;subst bR;clear cU kn;go_wp2;go_ret;exact HE.o
theorem Gf (h:jY w F X kr p s cR q l m t n a1 a2 k S G T M) (hc:LK G S T M) (fZ:G.y.data=2+G.y.nodes / 4) (gh:ar w F pa t n):
  Calls prog 36 #[.pointer (some ⟨kr,0,none⟩), .pointer (some ⟨pa,0,none⟩),rM 5 N who two da dn dc] w λe w'=>lc w w' F X kr p s q l m t n a1 a2 k S G e:=by
 obtain⟨q1,kZ⟩:=hc.mq h.x.yk h.x.tx.ch.ok N;obtain⟨KB,KC,KD⟩:=hc.Nv h.x.yk fZ;have tP:=hc.DD;have fD:=an w (aY 5 N who two da dn dc);have bw:=heap_alloc_new w (aY 5 N who two da dn dc);have g0:(w.alloc (aY 5 N who two da dn dc)).cell? ⟨w.heap.size,0,none⟩=some (.int .i64 5):=aa bw (j:=0) rfl;have g1:(w.alloc (aY 5 N who two da dn dc)).cell? ⟨w.heap.size,1,none⟩=some (.int .i64 N):=aa bw (j:=1) rfl;have h0:=h.later fD;have kc:=rH h0.x (gh.later fD) N;generalize (T.cE G S (dX G.y) N).2.eU G S (T.cE G S (dX G.y) N).1=T1 at kc kZ;rw [q1] at kc;have KM:Yh (∀w1,MX w1 X k M->Calls prog 76 #[.pointer (some ⟨k,0,none⟩), .int .i64 N] w1 λe w'=>MO w1 w' X w1.heap.size k (M.mq N) e):=λw1 hm=>F9 hm (by omega) KB KC KD N;have yH:Yh (¬cq F t n w.heap.size/\¬X w.heap.size):=by
  obtain⟨o1,o2,o3,o4,o5,o6⟩:=h.x.low;refine⟨λe=>?_,λe=>Nat.lt_irrefl _ (h.xl _ e)⟩;rcases e with e|e|e
  .exact Nat.lt_irrefl _ (o1 _ e)
  .omega
  .omega
 have H0:=yh (And.intro h0 (And.intro fD bw));have HC:=yh kZ;clear h hc fZ gh q1 kZ fD bw h0 KB KC KD tP;generalize M.mq N=R at*;obtain⟨ry,RM⟩:=R
 dsimp only at kc
 unfold MO at KM
 dsimp only at KM HC
 go_enter func36,ntmps36;go_wp2_with fail;refine kc.mono ?_;rintro e w1 ⟨rfl,dj,bo⟩;have gj:ad (λj=>cq F t n j\/X j) (w.alloc (aY 5 N who two da dn dc)) w1:=bo.mono (λ_ h=> .inl h);have h1:=H0.o.1.after (Y:=X) dj (H0.o.1.mm.apart bo (λj e hx=>H0.o.1.qA j hx e)) gj (λ_ h=> .inl h);have HZ:Yh (w1.heap[w.heap.size]? =some ((aY 5 N who two da dn dc:Obj))):=(bo.block _ (af H0.o.2.2) yH.o.1).trans H0.o.2.2;have pd:Yh (Below w1.heap.size w1 w1.drew):=ah (Below.refl _ _);have H7:Yh (∀w',Below w1.heap.size w1 w'->w'.cell? ⟨kr,4,none⟩=some (.pointer (some ⟨k,0,none⟩))/\w'.cell? ⟨w.heap.size,1,none⟩=some (.int .i64 N)):=λw' hb=>⟨aa (h1.later hb).b (j:=4) rfl,aa ((hb.block _ (af HZ.o)).trans HZ.o) (j:=1) rfl⟩;have H1:=yh (And.intro h1 gj);clear kc dj bo gj h1 g0 g1;go_wp2_with fail;refine wp_region_held_drew (S:=(λw'=>w'.cell? ⟨kr,4,none⟩=some (.pointer (some ⟨k,0,none⟩))/\w'.cell? ⟨w.heap.size,1,none⟩=some (.int .i64 N))) (by kernel_rfl) (H7.o _ pd.o) (λaC=>?_);refine wpAnyH_take (i:=0) (oi:={dst:=some 113,op:=Op.move (Operand.tmp 0),type:=28,pos:= "exact.go:212",after:= #[],guard:=none}) (v:= .pointer (some ⟨kr,0,none⟩)) rfl (by kernel_rfl) (by kernel_rfl) (by kernel_rfl) (λ_ _ _ h=>h) (Or.inl ⟨by rfl,?_⟩) (by assumption) ?_
 .intro w aw
  (try dsimp only at aw)
  go_simp
 try simp only [Act.put,List.setIfInBounds_toArray,List.set_cons_zero,List.set_cons_succ]
 refine wpAnyH_take (i:=1) (oi:={dst:=some 114,op:=Op.nilCheck (Operand.tmp 113),type:=0,pos:= "exact.go:212",after:= #[{on:=0,ground:=Ground.data}],guard:=none}) (v:= .pointer (some ⟨kr,0,none⟩)) rfl (by kernel_rfl) (by kernel_rfl) (by kernel_rfl) (λ_ _ _ h=>h) (Or.inl ⟨by rfl,?_⟩) (by assumption) ?_
 .intro w aw
  (try dsimp only at aw)
  go_simp
 try simp only [Act.put,List.setIfInBounds_toArray,List.set_cons_zero,List.set_cons_succ]
 refine wpAnyH_take (i:=2) (oi:={dst:=some 115,op:=Op.fieldAddr 38 (Operand.tmp 114) 4,type:=0,pos:= "exact.go:212",after:= #[{on:=1,ground:=Ground.data}],guard:=none}) (v:= .pointer (some ⟨kr,4,none⟩)) rfl (by kernel_rfl) (by kernel_rfl) (by kernel_rfl) (λ_ _ _ h=>h) (Or.inl ⟨by rfl,?_⟩) (by assumption) ?_
 .intro w aw
  (try dsimp only at aw)
  go_simp
 try simp only [Act.put,List.setIfInBounds_toArray,List.set_cons_zero,List.set_cons_succ]
 refine wpAnyH_take (i:=3) (oi:={dst:=some 116,op:=Op.load 36 (Operand.tmp 115),type:=36,pos:= "exact.go:212",after:= #[{on:=2,ground:=Ground.data}],guard:=none}) (v:= .pointer (some ⟨k,0,none⟩)) rfl (by kernel_rfl) (by kernel_rfl) (by kernel_rfl) (λ_ _ _ h=>h) (Or.inl ⟨by rfl,?_⟩) (by assumption) ?_
 .intro w aw
  (try dsimp only at aw)
  go_simp
 try simp only [Act.put,List.setIfInBounds_toArray,List.set_cons_zero,List.set_cons_succ]
 refine wpAnyH_take (i:=4) (oi:={dst:=some 117,op:=Op.fieldAddr 46 (Operand.tmp 5) 1,type:=0,pos:= "exact.go:212",after:= #[],guard:=none}) (v:= .pointer (some ⟨w.heap.size,1,none⟩)) rfl (by kernel_rfl) (by kernel_rfl) (by kernel_rfl) (λ_ _ _ h=>h) (Or.inl ⟨by rfl,?_⟩) (by assumption) ?_
 .intro w aw
  (try dsimp only at aw)
  go_simp
 try simp only [Act.put,List.setIfInBounds_toArray,List.set_cons_zero,List.set_cons_succ]
 refine wpAnyH_take (i:=5) (oi:={dst:=some 118,op:=Op.load 3 (Operand.tmp 117),type:=3,pos:= "exact.go:212",after:= #[{on:=4,ground:=Ground.data}],guard:=none}) (v:= .int .i64 N) rfl (by kernel_rfl) (by kernel_rfl) (by kernel_rfl) (λ_ _ _ h=>h) (Or.inl ⟨by rfl,?_⟩) (by assumption) ?_
 .intro w aw
  (try dsimp only at aw)
  go_simp
 try simp only [Act.put,List.setIfInBounds_toArray,List.set_cons_zero,List.set_cons_succ]
 refine wpAnyH_ready (rs:= [6]) (by kernel_rfl) (by simp) ?_;refine AllReadyH.cons (o:={dst:=some 119,op:=Op.call {callee:=Callee.value (Operand.func 76),args:= #[Operand.tmp 116,Operand.tmp 118],argTypes:= #[36,3]},type:=3,pos:= "exact.go:212",after:= #[{on:=3,ground:=Ground.data},{on:=5,ground:=Ground.data}],guard:=none}) rfl (λK hK=>?_) AllReadyH.nil;go_simp;have cI:=H1.o.1.later pd.o;refine(KM.out w1.drew cI.mm).mono ?_;rintro e w2 ⟨rfl,fi,aK⟩;have HE:Yh (lc w w2 F X kr p s q l m t n a1 a2 k S G (.returned (.bool true))):=cI.both H0.o.2.1 (H1.o.2.trans (ad.ag (λ_=>False) pd.o) (λ_ h=>h.elim)) HC.o fi aK;have qC:w2.cell? ⟨kr,4,none⟩=some (.pointer (some ⟨k,0,none⟩))/\w2.cell? ⟨w.heap.size,1,none⟩=some (.int .i64 N):=by
  have h9:=H7.o _ pd.o;exact⟨(World.cell?_of_block (w:=w1.drew) (a:=⟨kr,4,none⟩) (aK.block kr (af cI.b) (λe=>(cI.xa kr e).2.2.2.2.2.2.1 rfl))).trans h9.1,(World.cell?_of_block (w:=w1.drew) (a:=⟨w.heap.size,1,none⟩) (aK.block _ (World.block_lt_of_cell? _ _ h9.2) yH.o.2)).trans h9.2⟩
 clear fi aK cI KM;refine hK.out _ _ ?_ (λaC=>?_)
 .exact qC
 clear hK K;try simp only [Act.put,List.setIfInBounds_toArray,List.set_cons_zero,List.set_cons_succ]
 refine wpAnyH_ready (rs:= [7]) (by kernel_rfl) (by simp) ?_;refine AllReadyH.cons (o:={dst:=some 20,op:=Op.assign (Operand.tmp 119),type:=3,pos:= "exact.go:212",after:= #[{on:=6,ground:=Ground.data},{on:=6,ground:=Ground.chain},{on:=0,ground:=Ground.phase},{on:=1,ground:=Ground.phase},{on:=2,ground:=Ground.phase},{on:=3,ground:=Ground.phase},{on:=4,ground:=Ground.phase},{on:=5,ground:=Ground.phase},{on:=6,ground:=Ground.phase}],guard:=none}) rfl (λK hK=>?_) AllReadyH.nil;go_simp;refine hK.out _ _ ?_ (λaC=>?_)
 .exact qC
 clear hK K;try simp only [Act.put,List.setIfInBounds_toArray,List.set_cons_zero,List.set_cons_succ]
 refine wpAnyH_done (by kernel_rfl) ?_ _;have kn:=bF ry w2;clear H1 HC H0 H7 HZ pd;go_wp2_with fail;refine kn.mono ?_;rintro e wx ⟨rfl,cU⟩;have bR:=cU.symm;subst bR;clear cU kn;go_wp2;go_ret;exact HE.o
end
end
section
section
variable {w:World} {F:Nat->Prop} {p s cR q l m t n a:Nat} {S:DS} {G:SG} {T:TG}
theorem wb {b:Int} (h0:T.state G S≠0):T.refusal G S b=T.state G S:=by
 unfold TG.refusal;rw [if_pos h0]
theorem It (h:TX w F p s cR q l m t n S G T) (hp:ar w F a t n) (h0:T.state G S≠0):
  Calls prog 77 #[.pointer (some ⟨a,0,none⟩)] w λe w'=>e= .returned (.tuple #[.int .i64 0, .int .i64 0, .int .i64 (T.state G S)])/\TX w' F p s (cR+2) q l m t n S G (T.aT G S (T.state G S)).2/\ad (cq F t n) w w':=by
 obtain⟨aH,gm,dU,jx⟩:=vD w (.cells #[.pointer (some ⟨a,0,none⟩)] 35) (.cells #[.int .i64 0] 39);obtain⟨w1,bd⟩:∃w1,w1=(w.alloc (.cells #[.pointer (some ⟨a,0,none⟩)] 35)).alloc (.cells #[.int .i64 0] 39):=⟨_,rfl⟩;rw [<-bd] at aH gm dU jx;have aS:=h.lt;have dj:=h.later aH;have gM:=hp.later aH;have aA:=kN dj gM;have hrf:T.refusal G S (dh G.y).bm≠0:=by rw [wb h0];exact h0
 have HT:Yh (∀w2,Below w1.drew.heap.size w1.drew w2->Calls prog 119 #[.pointer (some ⟨a,0,none⟩),fe (dh G.y)] w2 λe w'=>e= .panicked (iD (T.state G S))/\TX w' F p s (cR+1) q l m t n S G T/\ad F w2 w'):=λw2 hb=>by
  have:=On (dj.later hb) (gM.later hb) (dh G.y) hrf;rw [wb h0] at this;exact this
 have c0:w1.drew.cell? ⟨w.heap.size,0,none⟩=some (.pointer (some ⟨a,0,none⟩)):=aa gm (j:=0) rfl;have n1:¬cq F t n w.heap.size:=λhf=>by have:=aS _ hf;omega
 have n2:¬cq F t n (w.heap.size+1):=λhf=>by have:=aS _ hf;omega
 have HG:=yh (And.intro gm dU);have HB:=yh aH;have HP:=yh gM;have rn:=yh h.low;have gh:=hp.lt;generalize T.state G S=R at*;generalize fe (dh G.y)=V at*;clear hrf;have J4:w.heap.size+1≠t:=λe=>n2 (.inr (.inl e));clear h hp aH dj gM gm dU h0
 go_enter_defers func77,ntmps77
 go_wp2_with fail;rw [<-bd];clear bd;refine jn (Ia [{target:= .fn (.func 118) #[.pointer (some ⟨w.heap.size,0,none⟩), .pointer (some ⟨w.heap.size+1,0,none⟩)],args:= #[]}] [(2, .int .i64 0),(3, .int .i64 0),(4, .pointer (some ⟨w.heap.size+1,0,none⟩))] (λc w3=>c=iD R/\TX w3 F p s (cR+1) q l m t n S G T/\ad F w w3/\ar w3 F a t n/\w3.heap[w.heap.size]? =some (.cells #[.pointer (some ⟨a,0,none⟩)] 35 (0,0))/\w3.heap[w.heap.size+1]? =some (.cells #[.int .i64 0] 39 (0,0)))) ?_ ?_
 .rintro c A w3 ⟨hd,kD,rfl,gy,aR,nL,g1,g2⟩;have s1:=kD (2, .int .i64 0) (by simp);have s2:=kD (3, .int .i64 0) (by simp);have s3:=kD (4, .pointer (some ⟨w.heap.size+1,0,none⟩)) (by simp)
  dsimp only at s1 s2 s3
  rw [Array.getD_eq_getD_getElem?] at s1 s2 s3;go_wp2;show Leaves prog _ A.tmps _ A.defers _ w3;rw [hd];refine leaves_cons (f:=118) (args:= #[.pointer (some ⟨w.heap.size,0,none⟩), .pointer (some ⟨w.heap.size+1,0,none⟩)]) (by simp) (by simp [go_sem]) ?_;refine(C1 gy nL g1 g2 J4 R).mono ?_;rintro e u' w4 ⟨rfl,rfl,w5,rW,cB,gc,jP⟩;have q2:w4.cell? ⟨w.heap.size+1,0,none⟩=some (.int .i64 R):=aa gc (j:=0) rfl;simp [Leaves,settle,results,results77,go_sem,s1,s2,s3,q2];exact⟨(rW.side rn.o jP (λk e=>by omega)).le (by omega),((aR.mono (λ_ h=> .inl h)).trans cB (λ_ e=> .inl (.inr (.inl e)))).trans jP (λk e=> .inr (by omega))⟩
 refine wp_region_held_drew (S:=(λw'=>w'.cell? ⟨w.heap.size,0,none⟩=some (.pointer (some ⟨a,0,none⟩)))) (by kernel_rfl) (c0) (λaC=>?_);refine wpAnyH_take (i:=0) (oi:={dst:=some 6,op:=Op.load 35 (Operand.tmp 1),type:=35,pos:= "pool.go:56",after:= #[],guard:=none}) (v:= .pointer (some ⟨a,0,none⟩)) rfl (by kernel_rfl) (by kernel_rfl) (by kernel_rfl) (dZ (d:=6) (by simp)) (Or.inl ⟨by rfl,?_⟩) (by assumption) ?_
 .intro w aw
  (try dsimp only at aw)
  go_simp
 try simp only [Act.put,List.setIfInBounds_toArray,List.set_cons_zero,List.set_cons_succ]
 refine wpAnyH_take (i:=1) (oi:={dst:=some 7,op:=Op.load 35 (Operand.tmp 1),type:=35,pos:= "pool.go:56",after:= #[],guard:=none}) (v:= .pointer (some ⟨a,0,none⟩)) rfl (by kernel_rfl) (by kernel_rfl) (by kernel_rfl) (dZ (d:=7) (by simp)) (Or.inl ⟨by rfl,?_⟩) (by assumption) ?_
 .intro w aw
  (try dsimp only at aw)
  go_simp
 try simp only [Act.put,List.setIfInBounds_toArray,List.set_cons_zero,List.set_cons_succ]
 refine wpAnyH_take (i:=4) (oi:={dst:=some 10,op:=Op.load 35 (Operand.tmp 1),type:=35,pos:= "pool.go:56",after:= #[],guard:=none}) (v:= .pointer (some ⟨a,0,none⟩)) rfl (by kernel_rfl) (by kernel_rfl) (by kernel_rfl) (dZ (d:=10) (by simp)) (Or.inl ⟨by rfl,?_⟩) (by assumption) ?_
 .intro w aw
  (try dsimp only at aw)
  go_simp
 try simp only [Act.put,List.setIfInBounds_toArray,List.set_cons_zero,List.set_cons_succ]
 refine wpAnyH_take (i:=5) (oi:={dst:=some 11,op:=Op.load 35 (Operand.tmp 1),type:=35,pos:= "pool.go:56",after:= #[],guard:=none}) (v:= .pointer (some ⟨a,0,none⟩)) rfl (by kernel_rfl) (by kernel_rfl) (by kernel_rfl) (dZ (d:=11) (by simp)) (Or.inl ⟨by rfl,?_⟩) (by assumption) ?_
 .intro w aw
  (try dsimp only at aw)
  go_simp
 try simp only [Act.put,List.setIfInBounds_toArray,List.set_cons_zero,List.set_cons_succ]
 refine wpAnyH_ready (rs:= [2]) (by kernel_rfl) (by simp) ?_;refine AllReadyH.cons (o:={dst:=some 8,op:=Op.call {callee:=Callee.value (Operand.func 25),args:= #[Operand.tmp 7],argTypes:= #[35]},type:=61,pos:= "pool.go:56",after:= #[{on:=1,ground:=Ground.data}],guard:=none}) rfl (λK hK=>?_) AllReadyH.nil;go_simp;refine aA.mono ?_;rintro e w2 ⟨rfl,aG⟩;have om:w2.cell? ⟨w.heap.size,0,none⟩=some (.pointer (some ⟨a,0,none⟩)):=aa ((aG.block _ (af HG.o.1)).trans HG.o.1) (j:=0) rfl;refine hK.out _ _ ?_ (λaC=>?_)
 .exact om
 clear hK K;try simp only [Act.put,List.setIfInBounds_toArray,List.set_cons_zero,List.set_cons_succ]
 refine wpAnyH_ready (rs:= [3]) (by kernel_rfl) (by simp) ?_;refine AllReadyH.cons (o:={dst:=some 9,op:=Op.call {callee:=Callee.value (Operand.func 119),args:= #[Operand.tmp 6,Operand.tmp 8],argTypes:= #[35,61]},type:=3,pos:= "pool.go:56",after:= #[{on:=0,ground:=Ground.data},{on:=2,ground:=Ground.data},{on:=2,ground:=Ground.chain}],guard:=none}) rfl (λK hK=>?_) AllReadyH.nil;go_simp;refine(HT.o w2 aG).mono ?_;rintro e w3 ⟨rfl,gy,aR⟩;have ph:=(ad.ag F HB.o).trans ((ad.ag F aG).trans aR (λ_ h=> .inl h)) (λ_ h=> .inl h);have g1:=(aR.block _ (Nat.lt_of_lt_of_le (af HG.o.1) aG.size) (λh=>n1 (.inl h))).trans ((aG.block _ (af HG.o.1)).trans HG.o.1);have g2:=(aR.block _ (Nat.lt_of_lt_of_le (af HG.o.2) aG.size) (λh=>n2 (.inl h))).trans ((aG.block _ (af HG.o.2)).trans HG.o.2);have nL:=(HP.o.later aG).ak (aR.mono (λ_ h=> .inl h));exact⟨rfl,by simp,rfl,gy,ph,nL,g1,g2⟩
theorem Ro (h:TX w F p s cR q l m t n S G T) (hp:ar w F a t n) (h0:T.state G S=0):
  Calls prog 77 #[.pointer (some ⟨a,0,none⟩)] w λe w'=>e= .returned (.tuple #[.int .i64 (T.oz G S (dh G.y):Int), .int .i64 (T.oz G S (dX G.y):Int), .int .i64 0])/\TX w' F p s (cR+2) q l m t n S G T/\ad (cq F t n) w w':=by
 obtain⟨aH,gm,dU,jx⟩:=vD w (.cells #[.pointer (some ⟨a,0,none⟩)] 35) (.cells #[.int .i64 0] 39);obtain⟨w1,bd⟩:∃w1,w1=(w.alloc (.cells #[.pointer (some ⟨a,0,none⟩)] 35)).alloc (.cells #[.int .i64 0] 39):=⟨_,rfl⟩;rw [<-bd] at aH gm dU jx;have aS:=h.lt;have dj:=h.later aH;have gM:=hp.later aH;have aA:=kN dj gM;have cI:=mZ h (dh G.y) (Ax h.yk) h0;have eB:=mZ h (dX G.y) (Ay h.yk) h0;have HT:Yh (∀w2,Below w1.drew.heap.size w1.drew w2->Calls prog 119 #[.pointer (some ⟨a,0,none⟩),fe (dh G.y)] w2 λe w'=>e= .returned (.int .i64 (T.oz G S (dh G.y):Int))/\TX w' F p s (cR+1) q l m t n S G T/\ad F w2 w'):=λw2 hb=>Dz (dj.later hb) (gM.later hb) (dh G.y) (Ax h.yk) cI;have HN:Yh (∀w2 c,TX w2 F p s c q l m t n S G T->ar w2 F a t n->Calls prog 119 #[.pointer (some ⟨a,0,none⟩),fe (dX G.y)] w2 λe w'=>e= .returned (.int .i64 (T.oz G S (dX G.y):Int))/\TX w' F p s (c+1) q l m t n S G T/\ad F w2 w'):=λw2 c hx hp=>Dz hx hp (dX G.y) (Ay h.yk) eB;have c0:w1.drew.cell? ⟨w.heap.size,0,none⟩=some (.pointer (some ⟨a,0,none⟩)):=aa gm (j:=0) rfl;have n1:¬cq F t n w.heap.size:=λhf=>by have:=aS _ hf;omega
 have n2:¬cq F t n (w.heap.size+1):=λhf=>by have:=aS _ hf;omega
 have HG:=yh (And.intro gm dU);have HB:=yh aH;have HP:=yh gM;have rn:=yh h.low;have gh:=hp.lt;generalize T.oz G S (dh G.y)=R1 at*;generalize T.oz G S (dX G.y)=R2 at*;clear cI eB;have J4:w.heap.size+1≠t:=λe=>n2 (.inr (.inl e));clear h hp aH dj gM gm dU h0
 go_enter_defers func77,ntmps77
 go_wp2_with fail;rw [<-bd];clear bd;refine jn (Ia [{target:= .fn (.func 118) #[.pointer (some ⟨w.heap.size,0,none⟩), .pointer (some ⟨w.heap.size+1,0,none⟩)],args:= #[]}] [] (λ_ _=>False)) ?_ ?_
 .rintro c A w3 ⟨_,_,h⟩;exact h.elim
 refine wp_region_held_drew (S:=(λw'=>w'.cell? ⟨w.heap.size,0,none⟩=some (.pointer (some ⟨a,0,none⟩)))) (by kernel_rfl) (c0) (λaC=>?_);refine wpAnyH_take (i:=0) (oi:={dst:=some 6,op:=Op.load 35 (Operand.tmp 1),type:=35,pos:= "pool.go:56",after:= #[],guard:=none}) (v:= .pointer (some ⟨a,0,none⟩)) rfl (by kernel_rfl) (by kernel_rfl) (by kernel_rfl) (dZ (d:=6) (by simp)) (Or.inl ⟨by rfl,?_⟩) (by assumption) ?_
 .intro w aw
  (try dsimp only at aw)
  go_simp
 try simp only [Act.put,List.setIfInBounds_toArray,List.set_cons_zero,List.set_cons_succ]
 refine wpAnyH_take (i:=1) (oi:={dst:=some 7,op:=Op.load 35 (Operand.tmp 1),type:=35,pos:= "pool.go:56",after:= #[],guard:=none}) (v:= .pointer (some ⟨a,0,none⟩)) rfl (by kernel_rfl) (by kernel_rfl) (by kernel_rfl) (dZ (d:=7) (by simp)) (Or.inl ⟨by rfl,?_⟩) (by assumption) ?_
 .intro w aw
  (try dsimp only at aw)
  go_simp
 try simp only [Act.put,List.setIfInBounds_toArray,List.set_cons_zero,List.set_cons_succ]
 refine wpAnyH_take (i:=4) (oi:={dst:=some 10,op:=Op.load 35 (Operand.tmp 1),type:=35,pos:= "pool.go:56",after:= #[],guard:=none}) (v:= .pointer (some ⟨a,0,none⟩)) rfl (by kernel_rfl) (by kernel_rfl) (by kernel_rfl) (dZ (d:=10) (by simp)) (Or.inl ⟨by rfl,?_⟩) (by assumption) ?_
 .intro w aw
  (try dsimp only at aw)
  go_simp
 try simp only [Act.put,List.setIfInBounds_toArray,List.set_cons_zero,List.set_cons_succ]
 refine wpAnyH_take (i:=5) (oi:={dst:=some 11,op:=Op.load 35 (Operand.tmp 1),type:=35,pos:= "pool.go:56",after:= #[],guard:=none}) (v:= .pointer (some ⟨a,0,none⟩)) rfl (by kernel_rfl) (by kernel_rfl) (by kernel_rfl) (dZ (d:=11) (by simp)) (Or.inl ⟨by rfl,?_⟩) (by assumption) ?_
 .intro w aw
  (try dsimp only at aw)
  go_simp
 try simp only [Act.put,List.setIfInBounds_toArray,List.set_cons_zero,List.set_cons_succ]
 refine wpAnyH_ready (rs:= [2]) (by kernel_rfl) (by simp) ?_;refine AllReadyH.cons (o:={dst:=some 8,op:=Op.call {callee:=Callee.value (Operand.func 25),args:= #[Operand.tmp 7],argTypes:= #[35]},type:=61,pos:= "pool.go:56",after:= #[{on:=1,ground:=Ground.data}],guard:=none}) rfl (λK hK=>?_) AllReadyH.nil;go_simp;refine aA.mono ?_;rintro e w2 ⟨rfl,aG⟩;have om:w2.cell? ⟨w.heap.size,0,none⟩=some (.pointer (some ⟨a,0,none⟩)):=aa ((aG.block _ (af HG.o.1)).trans HG.o.1) (j:=0) rfl;refine hK.out _ _ ?_ (λaC=>?_)
 .exact om
 clear hK K;try simp only [Act.put,List.setIfInBounds_toArray,List.set_cons_zero,List.set_cons_succ]
 refine wpAnyH_ready (rs:= [3]) (by kernel_rfl) (by simp) ?_;refine AllReadyH.cons (o:={dst:=some 9,op:=Op.call {callee:=Callee.value (Operand.func 119),args:= #[Operand.tmp 6,Operand.tmp 8],argTypes:= #[35,61]},type:=3,pos:= "pool.go:56",after:= #[{on:=0,ground:=Ground.data},{on:=2,ground:=Ground.data},{on:=2,ground:=Ground.chain}],guard:=none}) rfl (λK hK=>?_) AllReadyH.nil;go_simp;refine(HT.o w2 aG).mono ?_;rintro e w3 ⟨rfl,gy,aR⟩;have ph:=(ad.ag F HB.o).trans ((ad.ag F aG).trans aR (λ_ h=> .inl h)) (λ_ h=> .inl h);have g1:=(aR.block _ (Nat.lt_of_lt_of_le (af HG.o.1) aG.size) (λh=>n1 (.inl h))).trans ((aG.block _ (af HG.o.1)).trans HG.o.1);have g2:=(aR.block _ (Nat.lt_of_lt_of_le (af HG.o.2) aG.size) (λh=>n2 (.inl h))).trans ((aG.block _ (af HG.o.2)).trans HG.o.2);have nL:=(HP.o.later aG).ak (aR.mono (λ_ h=> .inl h));have PY:=oR gy nL;have HQ:Yh (TX w3 F p s (cR+1) q l m t n S G T/\ad F w w3/\ar w3 F a t n/\w3.heap[w.heap.size]? =some (.cells #[.pointer (some ⟨a,0,none⟩)] 35 (0,0))/\w3.heap[w.heap.size+1]? =some (.cells #[.int .i64 0] 39 (0,0))):=⟨gy,ph,nL,g1,g2⟩;have c1:w3.cell? ⟨w.heap.size,0,none⟩=some (.pointer (some ⟨a,0,none⟩)):=aa g1 (j:=0) rfl;clear aA aG c0 om gy aR ph g1 g2 nL HT;refine hK.out _ _ ?_ (λaC=>?_)
 .exact c1
 clear hK K;try simp only [Act.put,List.setIfInBounds_toArray,List.set_cons_zero,List.set_cons_succ]
 refine wpAnyH_ready (rs:= [6]) (by kernel_rfl) (by simp) ?_;refine AllReadyH.cons (o:={dst:=some 12,op:=Op.call {callee:=Callee.value (Operand.func 26),args:= #[Operand.tmp 11],argTypes:= #[35]},type:=61,pos:= "pool.go:56",after:= #[{on:=5,ground:=Ground.data},{on:=3,ground:=Ground.chain}],guard:=none}) rfl (λK hK=>?_) AllReadyH.nil;go_simp;refine PY.mono ?_;rintro e w4 ⟨rfl,eK⟩;have c2:w4.cell? ⟨w.heap.size,0,none⟩=some (.pointer (some ⟨a,0,none⟩)):=aa ((eK.block _ (af HQ.o.2.2.2.1)).trans HQ.o.2.2.2.1) (j:=0) rfl;refine hK.out _ _ ?_ (λaC=>?_)
 .exact c2
 clear hK K;try simp only [Act.put,List.setIfInBounds_toArray,List.set_cons_zero,List.set_cons_succ]
 refine wpAnyH_ready (rs:= [7]) (by kernel_rfl) (by simp) ?_;refine AllReadyH.cons (o:={dst:=some 13,op:=Op.call {callee:=Callee.value (Operand.func 119),args:= #[Operand.tmp 10,Operand.tmp 12],argTypes:= #[35,61]},type:=3,pos:= "pool.go:56",after:= #[{on:=4,ground:=Ground.data},{on:=6,ground:=Ground.data},{on:=6,ground:=Ground.chain}],guard:=none}) rfl (λK hK=>?_) AllReadyH.nil;go_simp;refine(HN.o w4 _ (HQ.o.1.later eK) (HQ.o.2.2.1.later eK)).mono ?_;rintro e w5 ⟨rfl,rW,cB⟩;have Zc:=HQ.o.2.1.trans ((ad.ag F eK).trans cB (λ_ h=> .inl h)) (λ_ h=> .inl h);have g1:=(cB.block _ (Nat.lt_of_lt_of_le (af HQ.o.2.2.2.1) eK.size) (λh=>n1 (.inl h))).trans ((eK.block _ (af HQ.o.2.2.2.1)).trans HQ.o.2.2.2.1);have g2:=(cB.block _ (Nat.lt_of_lt_of_le (af HQ.o.2.2.2.2) eK.size) (λh=>n2 (.inl h))).trans ((eK.block _ (af HQ.o.2.2.2.2)).trans HQ.o.2.2.2.2);have Pa:=(HQ.o.2.2.1.later eK).ak (cB.mono (λ_ h=> .inl h));have Zd:Yh (TX w5 F p s (cR+2) q l m t n S G T/\ad (cq F t n) w w5/\ar w5 F a t n):=⟨rW,Zc.mono (λ_ h=> .inl h),Pa⟩;have c3:w5.cell? ⟨w.heap.size,0,none⟩=some (.pointer (some ⟨a,0,none⟩)):=aa g1 (j:=0) rfl;have d0:w5.cell? ⟨w.heap.size+1,0,none⟩=some (.int .i64 0):=aa g2 (j:=0) rfl;have f0:=ae g2 0;have mh:=yh (And.intro g1 g2);clear PY eK c1 c2 rW cB Zc g1 g2 Pa HN HQ;refine hK.out _ _ ?_ (λaC=>?_)
 .exact c3
 clear hK K;try simp only [Act.put,List.setIfInBounds_toArray,List.set_cons_zero,List.set_cons_succ]
 refine wpAnyH_ready (rs:= [8]) (by kernel_rfl) (by simp) ?_;refine AllReadyH.cons (o:={dst:=some 2,op:=Op.assign (Operand.tmp 9),type:=3,pos:= "pool.go:56",after:= #[{on:=3,ground:=Ground.data},{on:=7,ground:=Ground.chain},{on:=0,ground:=Ground.phase},{on:=1,ground:=Ground.phase},{on:=2,ground:=Ground.phase},{on:=3,ground:=Ground.phase},{on:=4,ground:=Ground.textOnly Departure.lateStoresUnsure},{on:=5,ground:=Ground.textOnly Departure.lateStoresUnsure},{on:=6,ground:=Ground.textOnly Departure.lateStoresUnsure},{on:=7,ground:=Ground.textOnly Departure.lateStoresUnsure}],guard:=none}) rfl (λK hK=>?_) AllReadyH.nil;go_simp;refine hK.out _ _ ?_ (λaC=>?_)
 .exact c3
 clear hK K;try simp only [Act.put,List.setIfInBounds_toArray,List.set_cons_zero,List.set_cons_succ]
 refine wpAnyH_ready (rs:= [9]) (by kernel_rfl) (by simp) ?_;refine AllReadyH.cons (o:={dst:=some 3,op:=Op.assign (Operand.tmp 13),type:=3,pos:= "pool.go:56",after:= #[{on:=7,ground:=Ground.data},{on:=8,ground:=Ground.chain},{on:=0,ground:=Ground.phase},{on:=1,ground:=Ground.phase},{on:=2,ground:=Ground.phase},{on:=3,ground:=Ground.phase},{on:=4,ground:=Ground.phase},{on:=5,ground:=Ground.phase},{on:=6,ground:=Ground.phase},{on:=7,ground:=Ground.phase},{on:=8,ground:=Ground.phase}],guard:=none}) rfl (λK hK=>?_) AllReadyH.nil;go_simp;refine hK.out _ _ ?_ (λaC=>?_)
 .exact c3
 clear hK K;try simp only [Act.put,List.setIfInBounds_toArray,List.set_cons_zero,List.set_cons_succ]
 have pe:=iK (w:=w5) (w':=w5) (x:=0) (.int .i64 0) rfl (ad.refl _ _) mh.o.2;have c9:(w5.setCell ⟨w.heap.size+1,0,none⟩ (.int .i64 0)).cell? ⟨w.heap.size,0,none⟩=some (.pointer (some ⟨a,0,none⟩)):=aa ((pe.2.block _ (af mh.o.1) (by omega)).trans mh.o.1) (j:=0) rfl;refine wpAnyH_ready (rs:= [10]) (by kernel_rfl) (by simp) ?_;refine AllReadyH.cons (o:={dst:=none,op:=Op.store 39 (Operand.tmp 4) (Operand.const (Value.int IntKind.i64 0)),type:=0,pos:= "pool.go:56",after:= #[{on:=9,ground:=Ground.chain},{on:=0,ground:=Ground.phase},{on:=1,ground:=Ground.phase},{on:=2,ground:=Ground.phase},{on:=3,ground:=Ground.phase},{on:=4,ground:=Ground.phase},{on:=5,ground:=Ground.phase},{on:=6,ground:=Ground.phase},{on:=7,ground:=Ground.phase},{on:=8,ground:=Ground.phase},{on:=9,ground:=Ground.phase}],guard:=none}) rfl (λK hK=>?_) AllReadyH.nil;go_simp;refine hK.out _ _ ?_ (λaC=>?_)
 .exact c9
 clear hK K;try simp only [Act.put,List.setIfInBounds_toArray,List.set_cons_zero,List.set_cons_succ]
 refine wpAnyH_done (by kernel_rfl) ?_ _
 dsimp only [wY]
 obtain⟨w6,NY⟩:∃w6,w6=w5.setCell ⟨w.heap.size+1,0,none⟩ (.int .i64 0):=⟨_,rfl⟩;rw [<-NY] at pe;rw [<-NY];clear NY aC c9;have nJ:=yh pe;clear pe c3 d0 f0;go_wp2;refine leaves_cons (f:=118) (args:= #[.pointer (some ⟨w.heap.size,0,none⟩), .pointer (some ⟨w.heap.size+1,0,none⟩)]) (by simp) (by simp [go_sem]) ?_;have My:ar w6 F a t n:=⟨(nJ.o.2.block a Zd.o.2.2.lt (by omega)).trans Zd.o.2.2.b,Zd.o.2.2.nf⟩;have g6:=(nJ.o.2.block _ (af mh.o.1) (by omega)).trans mh.o.1;refine(Fv My g6 nJ.o.1).mono ?_;rintro e u' w7 ⟨rfl,rfl,GU,iu⟩;have q2:w7.cell? ⟨w.heap.size+1,0,none⟩=some (.int .i64 0):=aa GU (j:=0) rfl;simp [Leaves,settle,results,results77,go_sem,q2];exact⟨(Zd.o.1.side rn.o nJ.o.2 (λk e=>by omega)).side rn.o iu (λk e=>by omega),(Zd.o.2.1.trans nJ.o.2 (λk e=> .inr (by omega))).trans iu (λk e=> .inr (by omega))⟩
end
end
section
theorem wk (l:List Bool) (i:Nat):∀n,i+n<=4096->lH (dB l) i n=pj l i n
 |0,_=>rfl
 |n+1,h=>by
  unfold lH pj;rw [wk l i n (by omega),jE l (by omega)]
section
variable {w w' w0 w1 w2:World} {F X Y Z:Nat->Prop} {kr p s cR q l m t n a1 a2 k pa:Nat} {S:DS} {G:SG} {T:TG} {M:MP} {N:Int} {who two:Bool} {da:Option Addr} {dn dc:Nat}
theorem LK.left (h:LK G S T M) (hy:CJ G.y) (fZ:G.y.data=2+G.y.nodes / 4):T.oz G S (dh G.y)=M.Iq/\T.oz G S (dX G.y)=M.Ir:=by
 have:=hy.dy;have:=hy.bl;have:=hy.nd;refine⟨?_,?_⟩
 .show lH (T.bq G S 0) (G.y.data-0) (G.y.blocks-G.y.data)=pj M.nb (2+M.nodes / 4) (M.blocks-(2+M.nodes / 4));rw [h.s0,h.mn,h.mb,<-fZ,Nat.sub_zero];exact wk _ _ _ (by omega)
 .show lH (T.bq G S 1) (1-1) G.y.nodes=pj M.nn 0 M.nodes;rw [h.s1,h.mn];exact wk _ _ _ (by omega)
theorem KE (h:jY w F X kr p s cR q l m t n a1 a2 k S G T M) (hc:LK G S T M) (fZ:G.y.data=2+G.y.nodes / 4) (gh:ar w F pa t n):∃x y z:Int,
    (Calls prog 77 #[.pointer (some ⟨pa,0,none⟩)] w λe w'=>e= .returned (.tuple #[.int .i64 x, .int .i64 y, .int .i64 z])/\TX w' F p s (cR+2) q l m t n S G T/\ad (cq F t n) w w')/\
  ∀w1,MX w1 X k M->Calls prog 78 #[.pointer (some ⟨k,0,none⟩)] w1 λe w'=>e= .returned (.tuple #[.int .i64 x, .int .i64 y, .int .i64 z])/\Below w1.heap.size w1 w':=by
 have hs:=hc.state;obtain⟨KB,KC,KD⟩:=hc.Nv h.x.yk fZ;by_cases h0:M.state=0
 .rw [h0] at hs;obtain⟨e1,e2⟩:=hc.left h.x.yk fZ;have k1:=Ro h.x gh hs;rw [e1,e2] at k1;exact⟨_,_,_,k1,λw1 hm=>(OI hm h0 KB KC KD).mono (λ_ _ ⟨he,n,hn⟩=>⟨he,by rw [hn];exact below_drewN (Below.refl _ _) n⟩)⟩
 .have k1:=It h.x gh (by rw [hs];exact h0);rw [jt (by rw [hs];exact h0),hs] at k1;exact⟨_,_,_,k1,λw1 hm=>(OJ hm h0).mono (λ_ _ ⟨he,hn⟩=>⟨he,by rw [hn];exact Below.refl _ _⟩)⟩
theorem Gg (h:jY w F X kr p s cR q l m t n a1 a2 k S G T M) (hc:LK G S T M) (fZ:G.y.data=2+G.y.nodes / 4) (gh:ar w F pa t n):
  Calls prog 36 #[.pointer (some ⟨kr,0,none⟩), .pointer (some ⟨pa,0,none⟩),rM 6 N who two da dn dc] w λe w'=>lc w w' F X kr p s q l m t n a1 a2 k S G e:=by
 have fD:=an w (aY 6 N who two da dn dc);have bw:=heap_alloc_new w (aY 6 N who two da dn dc);have g0:(w.alloc (aY 6 N who two da dn dc)).cell? ⟨w.heap.size,0,none⟩=some (.int .i64 6):=aa bw (j:=0) rfl;have h0:=h.later fD;obtain⟨x,y,z,kc,KM'⟩:=KE h0 hc fZ (gh.later fD);have KM:=yh KM';have H0:=yh (And.intro h0 fD);have HC:=yh hc;clear h hc fZ gh fD bw h0 KM';go_enter func36,ntmps36;go_wp2_with fail;refine kc.mono ?_;rintro e w1 ⟨rfl,dj,bo⟩;have gj:ad (λj=>cq F t n j\/X j) (w.alloc (aY 6 N who two da dn dc)) w1:=bo.mono (λ_ h=> .inl h);have h1:=H0.o.1.after (Y:=X) dj (H0.o.1.mm.apart bo (λj e hx=>H0.o.1.qA j hx e)) gj (λ_ h=> .inl h);have ce:w1.cell? ⟨kr,4,none⟩=some (.pointer (some ⟨k,0,none⟩)):=aa h1.b (j:=4) rfl;have km:=KM.out w1 h1.mm;have H1:=yh (And.intro h1 gj);clear kc dj bo gj h1 g0 KM;go_wp2_with fail;refine km.mono ?_;rintro e w2 ⟨rfl,aG⟩;have HE:Yh (lc w w2 F X kr p s q l m t n a1 a2 k S G (.returned (.bool true))):=H1.o.1.both H0.o.2 H1.o.2 HC.o ((H1.o.1.mm.later aG).mono (λ_ h=> .inl h)) (ad.ag _ aG);have kn:=bF z w2;clear km aG H1 ce HC H0;go_wp2_with fail;refine kn.mono ?_;rintro e wx ⟨rfl,cU⟩;have bR:=cU.symm;subst bR;clear cU kn;go_wp2;go_ret;exact HE.o
end
end
section
section
variable {w:World} {F X:Nat->Prop} {kr p s cR q l m t n a1 a2 k pa:Nat} {S:DS} {G:SG} {T:TG} {M:MP} {N:Int} {who two:Bool} {da:Option Addr} {dn dc:Nat} {dl:List Int}
theorem OK (h:jY w F X kr p s cR q l m t n a1 a2 k S G T M) (hc:LK G S T M) (gh:ar w F pa t n) (hN:nN N) (hs:∀w',ad (λj=>cq F t n j\/X j) w w'->Src w' da dn dl) (ey:Bytes dl) (GV:dn<=140737488355328):
  Calls prog 38 #[.pointer (some ⟨kr,0,none⟩), .pointer (some ⟨pa,0,none⟩),rM 11 N who two da dn dc] w λe w'=>lc w w' F X kr p s q l m t n a1 a2 k S G e:=by
 obtain⟨b,hb⟩:∃b,b=iz N 0 1:=⟨_,rfl⟩;have aG:b<2:=by have:=(jX N (lo:=0) (hi:=1) (by omega)).2;omega
 obtain⟨zz,T1,M1,q1,q2,kZ⟩:=hc.AO h.x.yk h.x.tx.ch.ok aG (kR ey) (gL dl);have fD:=an w (aY 11 N who two da dn dc);have bw:=heap_alloc_new w (aY 11 N who two da dn dc);have g0:(w.alloc (aY 11 N who two da dn dc)).cell? ⟨w.heap.size,0,none⟩=some (.int .i64 11):=aa bw (j:=0) rfl;have g1:(w.alloc (aY 11 N who two da dn dc)).cell? ⟨w.heap.size,1,none⟩=some (.int .i64 N):=aa bw (j:=1) rfl;have g4:(w.alloc (aY 11 N who two da dn dc)).cell? ⟨w.heap.size,4,none⟩=some (.slice da dn dc):=aa bw (j:=4) rfl;have h0:=h.later fD;have ce:(w.alloc (aY 11 N who two da dn dc)).cell? ⟨kr,4,none⟩=some (.pointer (some ⟨k,0,none⟩)):=aa h0.b (j:=4) rfl;have cb:(w.alloc (aY 11 N who two da dn dc)).cell? ⟨k,0,none⟩=some (.int .i64 (M.blocks:Int)):=by
  obtain⟨SA,Pt,Rl,Rm,OD,OE,OF,OG,v5,v6,v7,nz⟩:=h0.mm;exact aa nz.b (j:=0) rfl
 have hmb:2<=M.blocks:=by have:=h.x.yk.b2;have h9:M.blocks=G.y.blocks:=hc.mb;omega
 have Ze:¬(M.blocks:Int)<=(b:Int):=by omega
 have SC:=fT N 0 29 (by omega) (by omega) ⟨hN.1,hN.2⟩ (w.alloc (aY 11 N who two da dn dc));have kw2:=fT N 0 1 (by omega) (by omega) ⟨hN.1,hN.2⟩ (w.alloc (aY 11 N who two da dn dc));rw [<-hb] at kw2;have Sk:=(jX N (lo:=0) (hi:=29) (by omega)).2;generalize iz N 0 29=y at*;have Zf:=yh (gh.later fD);have c0:=Zf.o.c0;have H6:Yh (∀w',Below (w.alloc (aY 11 N who two da dn dc)).heap.size (w.alloc (aY 11 N who two da dn dc)) w'->w'.cell? ⟨pa,0,none⟩=some (.pointer (some ⟨t,0,none⟩))/\w'.cell? ⟨w.heap.size,4,none⟩=some (.slice da dn dc)):=λw' hw=>⟨cell_later hw c0,cell_later hw g4⟩;have JM:Yh (Below (w.alloc (aY 11 N who two da dn dc)).heap.size (w.alloc (aY 11 N who two da dn dc)) (w.alloc (aY 11 N who two da dn dc)).drew):=(ad.drew (λ_=>False) _).below (λ_ h=>h.elim) (Nat.le_refl _);have yH:Yh (¬cq F t n w.heap.size):=λe=>by have:=h.x.lt _ e;omega
 have HR:=yh h;have Pk:=yh h0;have D6:=yh fD;have ym:=yh bw;have HC:=yh (And.intro hc kZ);have MC:=yh q1;have HQ2:=yh q2;have Pf:=yh hs;clear h hc gh hs q1 q2 kZ fD bw h0 c0 hb g4;go_enter func38,ntmps38;go_wp2_with fail;refine SC.mono ?_;rintro e wx ⟨rfl,cU⟩;subst cU;clear SC;go_wp2_with fail;refine kw2.mono ?_;rintro e wx ⟨rfl,cU⟩;subst cU;clear kw2;go_wp2_with fail;refine wp_region_held_drew (S:=(λw'=>w'.cell? ⟨pa,0,none⟩=some (.pointer (some ⟨t,0,none⟩))/\w'.cell? ⟨w.heap.size,4,none⟩=some (.slice da dn dc))) (by kernel_rfl) (H6.o _ JM.o) (λaC=>?_);refine wpAnyH_take (i:=0) (oi:={dst:=some 29,op:=Op.move (Operand.tmp 1),type:=35,pos:= "exact.go:156",after:= #[],guard:=none}) (v:= .pointer (some ⟨pa,0,none⟩)) rfl (by kernel_rfl) (by kernel_rfl) (by kernel_rfl) (λ_ _ _ h=>h) (Or.inl ⟨by rfl,?_⟩) (by assumption) ?_
 .intro w aw
  (try dsimp only at aw)
  go_simp
 try simp only [Act.put,List.setIfInBounds_toArray,List.set_cons_zero,List.set_cons_succ]
 refine wpAnyH_take (i:=1) (oi:={dst:=some 30,op:=Op.nilCheck (Operand.tmp 29),type:=0,pos:= "exact.go:156",after:= #[{on:=0,ground:=Ground.data}],guard:=none}) (v:= .pointer (some ⟨pa,0,none⟩)) rfl (by kernel_rfl) (by kernel_rfl) (by kernel_rfl) (λ_ _ _ h=>h) (Or.inl ⟨by rfl,?_⟩) (by assumption) ?_
 .intro w aw
  (try dsimp only at aw)
  go_simp
 try simp only [Act.put,List.setIfInBounds_toArray,List.set_cons_zero,List.set_cons_succ]
 refine wpAnyH_take (i:=2) (oi:={dst:=some 31,op:=Op.fieldAddr 59 (Operand.tmp 30) 0,type:=0,pos:= "exact.go:156",after:= #[{on:=1,ground:=Ground.data}],guard:=none}) (v:= .pointer (some ⟨pa,0,none⟩)) rfl (by kernel_rfl) (by kernel_rfl) (by kernel_rfl) (λ_ _ _ h=>h) (Or.inl ⟨by rfl,?_⟩) (by assumption) ?_
 .intro w aw
  (try dsimp only at aw)
  go_simp
 try simp only [Act.put,List.setIfInBounds_toArray,List.set_cons_zero,List.set_cons_succ]
 refine wpAnyH_take (i:=3) (oi:={dst:=some 32,op:=Op.load 57 (Operand.tmp 31),type:=57,pos:= "exact.go:156",after:= #[{on:=2,ground:=Ground.data}],guard:=none}) (v:= .pointer (some ⟨t,0,none⟩)) rfl (by kernel_rfl) (by kernel_rfl) (by kernel_rfl) (λ_ _ _ h=>h) (Or.inl ⟨by rfl,?_⟩) (by assumption) ?_
 .intro w aw
  (try dsimp only at aw)
  go_simp
 try simp only [Act.put,List.setIfInBounds_toArray,List.set_cons_zero,List.set_cons_succ]
 refine wpAnyH_take (i:=4) (oi:={dst:=some 33,op:=Op.move (Operand.tmp 7),type:=3,pos:= "exact.go:156",after:= #[],guard:=none}) (v:= .int .i64 (b:Int)) rfl (by kernel_rfl) (by kernel_rfl) (by kernel_rfl) (λ_ _ _ h=>h) (Or.inl ⟨by rfl,?_⟩) (by assumption) ?_
 .intro w aw
  (try dsimp only at aw)
  go_simp
 try simp only [Act.put,List.setIfInBounds_toArray,List.set_cons_zero,List.set_cons_succ]
 refine wpAnyH_take (i:=5) (oi:={dst:=some 34,op:=Op.fieldAddr 46 (Operand.tmp 5) 4,type:=0,pos:= "exact.go:156",after:= #[],guard:=none}) (v:= .pointer (some ⟨w.heap.size,4,none⟩)) rfl (by kernel_rfl) (by kernel_rfl) (by kernel_rfl) (λ_ _ _ h=>h) (Or.inl ⟨by rfl,?_⟩) (by assumption) ?_
 .intro w aw
  (try dsimp only at aw)
  go_simp
 try simp only [Act.put,List.setIfInBounds_toArray,List.set_cons_zero,List.set_cons_succ]
 refine wpAnyH_take (i:=6) (oi:={dst:=some 35,op:=Op.load 44 (Operand.tmp 34),type:=44,pos:= "exact.go:156",after:= #[{on:=5,ground:=Ground.data}],guard:=none}) (v:= .slice da dn dc) rfl (by kernel_rfl) (by kernel_rfl) (by kernel_rfl) (λ_ _ _ h=>h) (Or.inl ⟨by rfl,?_⟩) (by assumption) ?_
 .intro w aw
  (try dsimp only at aw)
  go_simp
 try simp only [Act.put,List.setIfInBounds_toArray,List.set_cons_zero,List.set_cons_succ]
 refine wpAnyH_ready (rs:= [7]) (by kernel_rfl) (by simp) ?_;refine AllReadyH.cons (o:={dst:=some 36,op:=Op.call {callee:=Callee.value (Operand.func 83),args:= #[Operand.tmp 35],argTypes:= #[44]},type:=44,pos:= "exact.go:156",after:= #[{on:=6,ground:=Ground.data}],guard:=none}) rfl (λK hK=>?_) AllReadyH.nil;go_simp;refine(m9 (c:=dc) (Pf.o _ (ad.ag _ (D6.o.trans (JM.o.mono D6.o.size)))) GV).mono ?_;rintro e w1 ⟨gp,cp,rfl,hgp,Zg,aq⟩;have aH:Below (w.alloc (aY 11 N who two da dn dc)).heap.size (w.alloc (aY 11 N who two da dn dc)) w1:=JM.o.trans (aq.mono JM.o.size);refine hK.out _ _ ?_ (λaC=>?_)
 .exact H6.o _ aH
 clear hK K;try simp only [Act.put,List.setIfInBounds_toArray,List.set_cons_zero,List.set_cons_succ]
 refine wpAnyH_ready (rs:= [8]) (by kernel_rfl) (by simp) ?_;refine AllReadyH.cons (o:={dst:=some 37,op:=Op.call {callee:=Callee.value (Operand.func 63),args:= #[Operand.tmp 32,Operand.tmp 33,Operand.tmp 36],argTypes:= #[57,3,44]},type:=39,pos:= "exact.go:156",after:= #[{on:=3,ground:=Ground.data},{on:=4,ground:=Ground.data},{on:=7,ground:=Ground.data},{on:=7,ground:=Ground.chain}],guard:=none}) rfl (λK hK=>?_) AllReadyH.nil;go_simp;have cI:=Pk.o.later aH;have hsp:Src w1 (some ⟨gp,0,none⟩) 512 (nH dl):=by have h9:=Zg.src;rw [gL] at h9;exact h9
 have kp:=Ag cI.x.st cI.x.tx (b:Int) (some ⟨gp,0,none⟩) 512 cp (nH dl) hsp (by omega) (kR ey) cI.x.Ue;rw [MC.o] at kp;refine kp.mono ?_;intro e w2 hP;have Zh:=hP.1;subst Zh;have dV:TX w2 F p s (cR+1) q l m t n S G T1/\ad (cq F t n) w1 w2:=by
  have h9:=cI.x.put (b:=(b:Int)) (d:=nH dl) (by rw [MC.o];exact hP);rw [MC.o] at h9;exact h9
 have aK:ad (λj=>cq F t n j\/X j) w w2:=((ad.ag _ D6.o).trans (ad.ag (λ_=>False) aH) (λ_ h=>h.elim)).trans (dV.2.mono (λ_ h=> .inl h)) (λ_ h=> .inl h);have eB:=HR.o.after (Y:=X) dV.1 (HR.o.mm.apart (((ad.ag (cq F t n) D6.o).trans (ad.ag (λ_=>False) aH) (λ_ h=>h.elim)).trans dV.2 (λ_ h=> .inl h)) (λj e hx=>HR.o.qA j hx e)) aK (λ_ h=> .inl h);have qC:w2.cell? ⟨pa,0,none⟩=some (.pointer (some ⟨t,0,none⟩))/\w2.cell? ⟨w.heap.size,4,none⟩=some (.slice da dn dc):=by
  refine⟨((Zf.o.later aH).ak dV.2).c0,?_⟩;have z1:w.heap.size<w1.heap.size:=Nat.lt_of_lt_of_le (af ym.o) aH.size;exact aa ((dV.2.block _ z1 (λe=>by have:=cI.x.low;have:=yH.o;exact this e)).trans ((aH.block _ (af ym.o)).trans ym.o)) (j:=4) rfl
 have H2:=yh (And.intro eB (And.intro aK qC.2));clear kp hP dV aK eB cI hsp Zg aq;refine hK.out _ _ ?_ (λaC=>?_)
 .exact qC
 clear hK K;try simp only
 refine wpAnyH_ready (rs:= [9]) (by kernel_rfl) (by simp) ?_;refine AllReadyH.cons (o:={dst:=some 8,op:=Op.assign (Operand.tmp 37),type:=39,pos:= "exact.go:156",after:= #[{on:=8,ground:=Ground.data},{on:=8,ground:=Ground.chain},{on:=0,ground:=Ground.phase},{on:=1,ground:=Ground.phase},{on:=2,ground:=Ground.phase},{on:=3,ground:=Ground.phase},{on:=4,ground:=Ground.phase},{on:=5,ground:=Ground.phase},{on:=6,ground:=Ground.phase},{on:=7,ground:=Ground.phase},{on:=8,ground:=Ground.phase}],guard:=none}) rfl (λK hK=>?_) AllReadyH.nil;go_simp;refine hK.out _ _ ?_ (λaC=>?_)
 .exact qC
 clear hK K;try simp only [Act.put,List.setIfInBounds_toArray,List.set_cons_zero,List.set_cons_succ]
 refine wpAnyH_done (by kernel_rfl) ?_ _;clear aC g0 g1 ce cb;have nU:Yh (Below w2.heap.size w2 w2.drew):=(ad.drew (λ_=>False) w2).below (λ_ h=>h.elim) (Nat.le_refl _);have H7:Yh (∀w',Below w2.heap.size w2 w'->w'.cell? ⟨kr,4,none⟩=some (.pointer (some ⟨k,0,none⟩))/\w'.cell? ⟨w.heap.size,4,none⟩=some (.slice da dn dc)):=λw' hw=>⟨cell_later hw (aa H2.o.1.b (j:=4) rfl),cell_later hw H2.o.2.2⟩;clear qC;go_wp2_with fail;refine wp_region_held_drew (S:=(λw'=>w'.cell? ⟨kr,4,none⟩=some (.pointer (some ⟨k,0,none⟩))/\w'.cell? ⟨w.heap.size,4,none⟩=some (.slice da dn dc))) (by kernel_rfl) (H7.o _ nU.o) (λaC=>?_);refine wpAnyH_take (i:=0) (oi:={dst:=some 38,op:=Op.move (Operand.tmp 0),type:=28,pos:= "exact.go:157",after:= #[],guard:=none}) (v:= .pointer (some ⟨kr,0,none⟩)) rfl (by kernel_rfl) (by kernel_rfl) (by kernel_rfl) (λ_ _ _ h=>h) (Or.inl ⟨by rfl,?_⟩) (by assumption) ?_
 .intro w aw
  (try dsimp only at aw)
  go_simp
 try simp only [Act.put,List.setIfInBounds_toArray,List.set_cons_zero,List.set_cons_succ]
 refine wpAnyH_take (i:=1) (oi:={dst:=some 39,op:=Op.nilCheck (Operand.tmp 38),type:=0,pos:= "exact.go:157",after:= #[{on:=0,ground:=Ground.data}],guard:=none}) (v:= .pointer (some ⟨kr,0,none⟩)) rfl (by kernel_rfl) (by kernel_rfl) (by kernel_rfl) (λ_ _ _ h=>h) (Or.inl ⟨by rfl,?_⟩) (by assumption) ?_
 .intro w aw
  (try dsimp only at aw)
  go_simp
 try simp only [Act.put,List.setIfInBounds_toArray,List.set_cons_zero,List.set_cons_succ]
 refine wpAnyH_take (i:=2) (oi:={dst:=some 40,op:=Op.fieldAddr 38 (Operand.tmp 39) 4,type:=0,pos:= "exact.go:157",after:= #[{on:=1,ground:=Ground.data}],guard:=none}) (v:= .pointer (some ⟨kr,4,none⟩)) rfl (by kernel_rfl) (by kernel_rfl) (by kernel_rfl) (λ_ _ _ h=>h) (Or.inl ⟨by rfl,?_⟩) (by assumption) ?_
 .intro w aw
  (try dsimp only at aw)
  go_simp
 try simp only [Act.put,List.setIfInBounds_toArray,List.set_cons_zero,List.set_cons_succ]
 refine wpAnyH_take (i:=3) (oi:={dst:=some 41,op:=Op.load 36 (Operand.tmp 40),type:=36,pos:= "exact.go:157",after:= #[{on:=2,ground:=Ground.data}],guard:=none}) (v:= .pointer (some ⟨k,0,none⟩)) rfl (by kernel_rfl) (by kernel_rfl) (by kernel_rfl) (λ_ _ _ h=>h) (Or.inl ⟨by rfl,?_⟩) (by assumption) ?_
 .intro w aw
  (try dsimp only at aw)
  go_simp
 try simp only [Act.put,List.setIfInBounds_toArray,List.set_cons_zero,List.set_cons_succ]
 refine wpAnyH_take (i:=4) (oi:={dst:=some 42,op:=Op.move (Operand.tmp 7),type:=3,pos:= "exact.go:157",after:= #[],guard:=none}) (v:= .int .i64 (b:Int)) rfl (by kernel_rfl) (by kernel_rfl) (by kernel_rfl) (λ_ _ _ h=>h) (Or.inl ⟨by rfl,?_⟩) (by assumption) ?_
 .intro w aw
  (try dsimp only at aw)
  go_simp
 try simp only [Act.put,List.setIfInBounds_toArray,List.set_cons_zero,List.set_cons_succ]
 refine wpAnyH_take (i:=5) (oi:={dst:=some 43,op:=Op.fieldAddr 46 (Operand.tmp 5) 4,type:=0,pos:= "exact.go:157",after:= #[],guard:=none}) (v:= .pointer (some ⟨w.heap.size,4,none⟩)) rfl (by kernel_rfl) (by kernel_rfl) (by kernel_rfl) (λ_ _ _ h=>h) (Or.inl ⟨by rfl,?_⟩) (by assumption) ?_
 .intro w aw
  (try dsimp only at aw)
  go_simp
 try simp only [Act.put,List.setIfInBounds_toArray,List.set_cons_zero,List.set_cons_succ]
 refine wpAnyH_take (i:=6) (oi:={dst:=some 44,op:=Op.load 44 (Operand.tmp 43),type:=44,pos:= "exact.go:157",after:= #[{on:=5,ground:=Ground.data}],guard:=none}) (v:= .slice da dn dc) rfl (by kernel_rfl) (by kernel_rfl) (by kernel_rfl) (λ_ _ _ h=>h) (Or.inl ⟨by rfl,?_⟩) (by assumption) ?_
 .intro w aw
  (try dsimp only at aw)
  go_simp
 try simp only [Act.put,List.setIfInBounds_toArray,List.set_cons_zero,List.set_cons_succ]
 refine wpAnyH_ready (rs:= [7]) (by kernel_rfl) (by simp) ?_;refine AllReadyH.cons (o:={dst:=some 45,op:=Op.call {callee:=Callee.value (Operand.func 83),args:= #[Operand.tmp 44],argTypes:= #[44]},type:=44,pos:= "exact.go:157",after:= #[{on:=6,ground:=Ground.data}],guard:=none}) rfl (λK hK=>?_) AllReadyH.nil;go_simp;refine(m9 (c:=dc) (Pf.o _ (H2.o.2.1.trans (ad.ag (λ_=>False) nU.o) (λ_ h=>h.elim))) GV).mono ?_;rintro e w3 ⟨gp3,cp3,rfl,adA,KF,bH⟩;have gP:Below w2.heap.size w2 w3:=nU.o.trans (bH.mono nU.o.size);refine hK.out _ _ ?_ (λaC=>?_)
 .exact H7.o _ gP
 clear hK K;try simp only [Act.put,List.setIfInBounds_toArray,List.set_cons_zero,List.set_cons_succ]
 refine wpAnyH_ready (rs:= [8]) (by kernel_rfl) (by simp) ?_;refine AllReadyH.cons (o:={dst:=some 46,op:=Op.call {callee:=Callee.value (Operand.func 84),args:= #[Operand.tmp 41,Operand.tmp 42,Operand.tmp 45],argTypes:= #[36,3,44]},type:=3,pos:= "exact.go:157",after:= #[{on:=3,ground:=Ground.data},{on:=4,ground:=Ground.data},{on:=7,ground:=Ground.data},{on:=7,ground:=Ground.chain}],guard:=none}) rfl (λK hK=>?_) AllReadyH.nil;go_simp;have rQ:=H2.o.1.later gP;have Zi:Src w3 (some ⟨gp3,0,none⟩) 512 (nH dl):=by have h9:=KF.src;rw [gL] at h9;exact h9
 have km:=Ky (c:=cp3) rQ.mm rQ.xl (by have:=HC.o.1.DD;omega) Zi (kR ey) b (by omega);unfold MO at km;rw [HQ2.o] at km;refine km.mono ?_;rintro e w4 ⟨rfl,wK,dF⟩;have HE:Yh (∃X' T' M' c',jY w4 F X' kr p s c' q l m t n a1 a2 k S G T' M'/\LK G S T' M'/\ad (λj=>cq F t n j\/X j) w w4/\(∀j,X' j->X j\/(w.heap.size<=j/\j<w4.heap.size))):=by
  have z2:=H2.o.2.1.size;have z3:=gP.size;refine⟨_,T1,M1,_,rQ.after (rQ.x.apart dF (λj hj=>?_)) wK (dF.mono (λ_ h=> .inr h)) (λ_ h=>h),HC.o.2,(H2.o.2.1.trans (ad.ag (λ_=>False) gP) (λ_ h=>h.elim)).trans (dF.mono (λ_ h=> .inr h)) (λ_ h=> .inl h),λj hj=>hj.imp (λe=>e) (λe=>⟨by have:=e.1;omega,e.2⟩)⟩;have h9:=rQ.xa j hj;exact⟨h9.1,h9.2.1,h9.2.2.1,h9.2.2.2.1,h9.2.2.2.2.1,h9.2.2.2.2.2.1⟩
 have Gh:w4.cell? ⟨kr,4,none⟩=some (.pointer (some ⟨k,0,none⟩))/\w4.cell? ⟨w.heap.size,4,none⟩=some (.slice da dn dc):=by
  have h9:=H7.o _ gP;have z4:w.heap.size<w3.heap.size:=Nat.lt_of_lt_of_le (World.block_lt_of_cell? _ _ H2.o.2.2) gP.size;exact⟨(World.cell?_of_block (w:=w3) (a:=⟨kr,4,none⟩) (dF.block kr (af rQ.b) (λe=>(rQ.xa kr e).2.2.2.2.2.2.1 rfl))).trans h9.1,(World.cell?_of_block (w:=w3) (a:=⟨w.heap.size,4,none⟩) (dF.block _ z4 (λe=>Nat.lt_irrefl _ (HR.o.xl _ e)))).trans h9.2⟩
 clear km wK dF rQ Zi KF bH;refine hK.out _ _ ?_ (λaC=>?_)
 .exact Gh
 clear hK K;try simp only
 refine wpAnyH_ready (rs:= [9]) (by kernel_rfl) (by simp) ?_;refine AllReadyH.cons (o:={dst:=some 9,op:=Op.assign (Operand.tmp 46),type:=3,pos:= "exact.go:157",after:= #[{on:=8,ground:=Ground.data},{on:=8,ground:=Ground.chain},{on:=0,ground:=Ground.phase},{on:=1,ground:=Ground.phase},{on:=2,ground:=Ground.phase},{on:=3,ground:=Ground.phase},{on:=4,ground:=Ground.phase},{on:=5,ground:=Ground.phase},{on:=6,ground:=Ground.phase},{on:=7,ground:=Ground.phase},{on:=8,ground:=Ground.phase}],guard:=none}) rfl (λK hK=>?_) AllReadyH.nil;go_simp;refine hK.out _ _ ?_ (λaC=>?_)
 .exact Gh
 clear hK K;try simp only [Act.put,List.setIfInBounds_toArray,List.set_cons_zero,List.set_cons_succ]
 refine wpAnyH_done (by kernel_rfl) ?_ _;clear aC Gh;have kn:=bF zz w4;go_wp2_with fail;refine kn.mono ?_;rintro e wx ⟨rfl,cU⟩;have bR:=cU.symm;subst bR;clear cU kn;go_wp2;go_ret;exact⟨rfl,HE.o⟩
end
end
section
section
variable {w w' w1:World} {F X Y Z:Nat->Prop} {kr p s cR q l m t n a1 a2 k pa:Nat} {S:DS} {G:SG} {T T':TG} {M M':MP} {N:Int} {who two:Bool} {da:Option Addr} {dn dc:Nat}
theorem DI (h:jY w F X kr p s cR q l m t n a1 a2 k S G T M) (hc:LK G S T M) (fZ:G.y.data=2+G.y.nodes / 4) (gh:ar w F pa t n):
  Calls prog 36 #[.pointer (some ⟨kr,0,none⟩), .pointer (some ⟨pa,0,none⟩),rM 1 N who two da dn dc] w λe w'=>lc w w' F X kr p s q l m t n a1 a2 k S G e:=by
 obtain⟨zz,T1,M1,q1,q2,kZ⟩:=hc.clear h.x.yk fZ h.x.tx.ch.ok;have fD:=an w (aY 1 N who two da dn dc);have bw:=heap_alloc_new w (aY 1 N who two da dn dc);have g0:(w.alloc (aY 1 N who two da dn dc)).cell? ⟨w.heap.size,0,none⟩=some (.int .i64 1):=aa bw (j:=0) rfl;have h0:=h.later fD;have kc:=sP h0.x (gh.later fD);rw [q1] at kc;have H0:=yh (And.intro h0 (And.intro h fD));have HC:=yh (And.intro hc kZ);have HQ:=yh q2;clear h hc fZ gh q1 q2 kZ fD bw h0;go_enter func36,ntmps36;go_wp2_with fail;refine kc.mono ?_;rintro e w1 ⟨rfl,dj,bo⟩;have gj:ad (λj=>cq F t n j\/X j) (w.alloc (aY 1 N who two da dn dc)) w1:=bo.mono (λ_ h=> .inl h);have h1:=H0.o.1.after (Y:=X) dj (H0.o.1.mm.apart bo (λj e hx=>H0.o.1.qA j hx e)) gj (λ_ h=> .inl h);have ce:w1.cell? ⟨kr,4,none⟩=some (.pointer (some ⟨k,0,none⟩)):=aa h1.b (j:=4) rfl;have km:=vU h1.mm h1.xl (by have:=HC.o.1.DD;omega) (by have:=h1.x.yk.nd;have h9:M.nodes=G.y.nodes:=HC.o.1.mn;omega);unfold MO at km;rw [HQ.o] at km;have H1:=yh (And.intro h1 gj);clear kc dj bo gj h1 g0;go_wp2_with fail;refine km.mono ?_;rintro e w2 ⟨rfl,fi,aK⟩;have HE:Yh (∃X' T' M' c',jY w2 F X' kr p s c' q l m t n a1 a2 k S G T' M'/\LK G S T' M'/\ad (λj=>cq F t n j\/X j) w w2/\(∀j,X' j->X j\/(w.heap.size<=j/\j<w2.heap.size))):=by
  have z0:=H0.o.2.2.size;have z1:=H1.o.2.size;refine⟨_,T1,M1,_,H1.o.1.after (H1.o.1.x.apart aK (λj hj=>?_)) fi (aK.mono (λ_ h=> .inr h)) (λ_ h=>h),HC.o.2,((ad.ag _ H0.o.2.2).trans H1.o.2 (λ_ h=> .inl h)).trans (aK.mono (λ_ h=> .inr h)) (λ_ h=> .inl h),λj hj=>hj.imp (λe=>e) (λe=>⟨by have:=e.1;omega,e.2⟩)⟩;have h9:=H1.o.1.xa j hj;exact⟨h9.1,h9.2.1,h9.2.2.1,h9.2.2.2.1,h9.2.2.2.2.1,h9.2.2.2.2.2.1⟩
 have kn:=bF zz w2;clear km fi aK H1 ce;go_wp2_with fail;refine kn.mono ?_;rintro e wx ⟨rfl,cU⟩;have bR:=cU.symm;subst bR;clear cU kn;go_wp2;go_ret;exact⟨rfl,HE.o⟩
end
end
section
section
variable {w w':World} {F X:Nat->Prop} {kr p s cR q l m t n a1 a2 k pa:Nat} {x2 x3:Value} {S:DS} {G:SG} {T:TG} {M:MP}
theorem Iu (h:TX w F p s cR q l m t n S G T) (b:Nat) (r0:T.state G S≠0):Calls prog 32 #[.pointer (some ⟨t,0,none⟩), .int .i64 (b:Int)] w λe w'=>e= .returned (.tuple #[.slice none 0 0, .int .i64 (T.state G S)])/\TX w' F p s (cR+1) q l m t n S G T/\ad F w w':=
   (uk h.st h.tx (b:Int) h.Ue).mono (λe w' ⟨hx,hd,hk⟩=>by
  unfold qg at hx;rw [qB r0,if_pos r0] at hx;exact⟨hx,h.asked hd hk,hk⟩)
theorem OL (h:TX w F p s cR q l m t n S G T) (hp:ar w F a1 t n) (np:w.heap[kr]? =some (.cells (Dy p q x2 x3 k true) 38 (0,0))) (Bb:¬cq F t n kr) (hm:MX w X k M) (OC:∀j,X j->¬cq F t n j) (h0:T.state G S≠0) (JO:M.state=T.state G S):
  Calls prog 14 #[.pointer (some ⟨kr,0,none⟩), .pointer (some ⟨a1,0,none⟩)] w λe w'=>e= .returned (.bool true)/\(∃c',TX w' F p s c' q l m t n S G T)/\ad (cq F t n) w w':=by
 have k1:=Iu h 0 h0;have k2:=λ(w1:World) (dj:TX w1 F p s (cR+1) q l m t n S G T)=>Iu dj 1 h0;have c0:=hp.c0;have V0:Yh (∀wr,ad (cq F t n) w wr->wr.cell? ⟨kr,4,none⟩=some (.pointer (some ⟨k,0,none⟩))/\MX wr X k M):=λwr hk=>⟨aa ((hk.block kr (af np) Bb).trans np) (j:=4) rfl,hm.apart hk (λj hj hx=>OC j hx hj)⟩;have HP:=yh hp;have HKM:Yh (∀wr,MX wr X k M->Calls prog 29 #[.pointer (some ⟨k,0,none⟩)] wr λe w'=>e= .returned (.int .i64 (T.state G S))/\w'=wr):=λwr hm=>by rw [<-JO];exact de hm
 obtain⟨x,hx⟩:∃x,x=T.state G S:=⟨_,rfl⟩;rw [<-hx] at k1 k2 HKM h0;have d0:(x != 0)=true:=by rw [bne_iff_ne];exact h0
 clear h hp np hm OC h0 Bb JO hx;go_enter func14,ntmps14;go_wp2_with fail;refine k1.mono ?_;rintro e w1 ⟨rfl,dj,bo⟩;have gM:=HP.o.ak (bo.mono (λ_ h=> .inl h));have om:=gM.c0;have k3:=k2 w1 dj;have HA:=yh bo;clear k1 k2 dj gM c0 bo;go_wp2_with fail;refine k3.mono ?_;rintro e w2 ⟨rfl,dV,aK⟩;have U2:ad (cq F t n) w w2:=(HA.o.trans aK (λ_ h=> .inl h)).mono (λ_ h=> .inl h);obtain⟨ce,fi⟩:=V0.o w2 U2;have km:=HKM.o w2 fi;have H2:=yh (And.intro dV U2);clear k3 dV aK U2 fi HA om;go_wp2_with fail;refine km.mono ?_;rintro e wx ⟨rfl,cU⟩;have bR:=cU.symm;subst bR;clear cU km ce;have kn:=bF x w2;go_wp2_with fail;refine kn.mono ?_;rintro e wx ⟨rfl,cU⟩;have bR:=cU.symm;subst bR;clear cU;go_wp2_with fail;refine kn.mono ?_;rintro e wx ⟨rfl,cU⟩;have bR:=cU.symm;subst bR;clear cU kn;go_wp2;go_ret;exact⟨rfl,⟨_,H2.o.1⟩,H2.o.2⟩
theorem OM (h:jY w F X kr p s cR q l m t n a1 a2 k S G T M) (hc:LK G S T M) (gh:ar w F pa t n):
  Calls prog 14 #[.pointer (some ⟨kr,0,none⟩), .pointer (some ⟨pa,0,none⟩)] w λe w'=>lc w w' F X kr p s q l m t n a1 a2 k S G e:=by
 have oe:∀(e:Ending) (w':World),(e= .returned (.bool true)/\(∃c',TX w' F p s c' q l m t n S G T)/\ad (cq F t n) w w')->lc w w' F X kr p s q l m t n a1 a2 k S G e:=λe w' ⟨he,⟨c',hx⟩,hk⟩=>⟨he,X,T,M,c',h.after hx (h.mm.apart hk (λj ej hx=>h.qA j hx ej)) (hk.mono (λ_ h=> .inl h)) (λ_ h=> .inl h),hc,hk.mono (λ_ h=> .inl h),λ_ h=> .inl h⟩;by_cases h0:M.state=0
 .exact(OH h.x gh h.b h.Y9 h.mm h.qA (hc.state.trans h0) h0 hc.mb hc.rl hc.so hc.s0 hc.s1).mono oe
 .exact(OL h.x gh h.b h.Y9 h.mm h.qA (by rw [hc.state];exact h0) hc.state.symm).mono oe
end
end
section
def MP.abort (M:MP):Int×MP:=if M.dead then (3,M) else if M.opn then (0,{M with opn:=false}) else (4,M)
section
variable {w w':World} {X Y Z:Nat->Prop} {k:Nat} {M:MP}
theorem MX.U5 (h:MX w X k M):w.cell? ⟨k,11,none⟩=some (.bool M.opn)/\w.frozen? ⟨k,11,none⟩=false/\w.cell? ⟨k,12,none⟩=some (.bool M.dead)/\MX (w.setCell ⟨k,11,none⟩ (.bool false)) X k {M with opn:=false}/\ad X w (w.setCell ⟨k,11,none⟩ (.bool false)):=by
 obtain⟨g1,c1,g2,c2,g3,c3,g4,c4,v5,v6,v7,h⟩:=h;have fU:=h.b;have hs:(w.setCell ⟨k,11,none⟩ (.bool false)).heap[k]? =some (.cells (tY {M with opn:=false} (bt g1 c1) (bt g2 c2) (bt g3 c3) (bt g4 c4) v5 v6 v7) 72 (0,0)):=heap_setCell_same _ _ _ _ _ _ fU;have hk:=ad.setCell (F:=λj=>j=k) w (p:=⟨k,11,none⟩) rfl (.bool false);have oU:IL w X v7 M.put:=⟨h.put.1,h.put.2⟩;have iW:=oU.ak hk (λg hg e=>by
  obtain⟨cur,hc⟩:=ay oU.own hg;rw [e,fU] at hc;cases hc)
 have aq:∀g,g=k->∃cur t fz,w.heap[g]? =some (.cells cur t fz)/\t≠4:=λg hg=>by subst hg;exact⟨_,_,_,fU,by decide⟩
 have aG:∀g,g=k->∃cur t fz,w.heap[g]? =some (.cells cur t fz)/\t≠5/\t≠44:=λg hg=>by subst hg;exact⟨_,_,_,fU,by decide,by decide⟩
 exact⟨aa fU (j:=11) rfl,ae fU 11,aa fU (j:=12) rfl,⟨_,_,_,_,_,_,_,_,_,_,_,⟨hs,h.xk,⟨h.ob.1,h.ob.2.1.dP hk aq,h.ob.2.2⟩,⟨h.on.1,h.on.2.1.dP hk aq,h.on.2.2⟩,⟨h.nb.1,h.nb.2.1.dP hk aq,h.nb.2.2⟩,⟨h.nn.1,h.nn.2.1.dP hk aq,h.nn.2.2⟩,h.KZ,h.Pp,h.Pq,h.Pr,h.Ps,h.NS,h.eI.ak hk aG,h.raw.ak hk aG,⟨iW.own,iW.x⟩,λe=>by cases e⟩⟩,hk.mono (λj hj=>by rw [hj];exact h.xk)⟩
theorem wc (h:MX w X k M):Calls prog 82 #[.pointer (some ⟨k,0,none⟩)] w λe w'=>e= .returned (.int .i64 M.abort.1)/\MX w' X k M.abort.2/\ad X w w':=by
 obtain⟨c11,f11,c12,fi,aK⟩:=h.U5;have H:=yh h;have H2:=yh (And.intro fi aK);clear h fi aK;cases hd:M.dead
 .rw [hd] at c12;cases ho:M.opn
  .rw [ho] at c11;have HE:Yh (M.abort=(4,M)):=(by show M.abort=_;unfold MP.abort;rw [hd,ho];rfl);clear hd ho;go_enter func82,ntmps82;go_wp2;go_ret;rw [HE.o];exact⟨rfl,H.o,ad.refl _ _⟩
  .rw [ho] at c11;have HE:Yh (M.abort=(0,{M with opn:=false})):=(by show M.abort=_;unfold MP.abort;rw [hd,ho];rfl);clear hd ho;go_enter func82,ntmps82;go_wp2;go_ret;rw [HE.o];exact⟨rfl,H2.o.1,H2.o.2⟩
 .rw [hd] at c12;have HE:Yh (M.abort=(3,M)):=by show M.abort=_;unfold MP.abort;rw [hd];rfl
  clear hd c11;go_enter func82,ntmps82;go_wp2;go_ret;rw [HE.o];exact⟨rfl,H.o,ad.refl _ _⟩
end
section
variable {w w':World} {F F' X Y Z:Nat->Prop} {kr p s cR c' q l m t n a a1 a2 k pa:Nat} {S S':DS} {G G':SG} {T T':TG} {M M':MP}
theorem jY.Iv (h:jY w F X kr p s cR q l m t n a1 a2 k S G T M) (hx:TX w' F' p s c' q l m t n S' G' T') (hm:MX w' Y k M') (hk:ad Z w w') (zr:¬Z kr) (z1:¬Z a1) (z2:¬Z a2) (hF:∀j,F' j->F j\/w.heap.size<=j) (hY:∀j,Y j->X j\/(w.heap.size<=j/\j<w'.heap.size)) (hYF:∀j,Y j->¬F' j):jY w' F' Y kr p s c' q l m t n a1 a2 k S' G' T' M':=by
 have hz:=hk.size;have lr:=af h.b;have l1:=h.p1.lt;have l2:=h.p2.lt;have nF:∀a,a<w.heap.size->¬F a->¬F' a:=λa ha hn e=>by
  rcases hF a e with e|e
  .exact hn e
  .omega
 have hp:∀a,ar w F a t n->¬Z a->ar w' F' a t n:=λa ha za=>⟨(hk.block a ha.lt za).trans ha.b,λe=>by
  rcases e with e|e|e
  .exact nF a ha.lt (λe=>ha.nf (.inl e)) e
  .exact ha.nf (.inr (.inl e))
  .exact ha.nf (.inr (.inr e))⟩
 obtain⟨o1,o2,o3,o4,o5,o6⟩:=h.x.low;refine⟨(hk.block kr lr zr).trans h.b,hx,hp a1 h.p1 z1,hp a2 h.p2 z2,hm,λj hj=>?_,⟨nF kr lr h.nk.1,h.nk.2⟩,λj hj=>?_⟩
 .rcases hY j hj with e|e
  .exact Nat.lt_of_lt_of_le (h.xl j e) hz
  .exact e.2
 .rcases hY j hj with e|e
  .have h9:=h.xa j e;exact⟨hYF j hj,h9.2⟩
  .exact⟨hYF j hj,by omega,by omega,by omega,by omega,by omega,by omega,by omega,by omega⟩
theorem LK.begun (h:LK G S T M):LK {G with busy:=true} S ⟨[],0,false⟩ M.begun:=
   ⟨rfl,rfl,rfl,h.dd,λb=>⟨(λe=>by cases e),(λe=>by cases e)⟩,List.nodup_nil,Nat.zero_le _,h.o0,h.o1,h.oo,h.mb,h.mn,h.Rn,h.k0,h.k1,h.o0,h.o1,h.oo,h.Rn,h.k0,h.k1⟩
theorem TX.abort (h:TX w F p s cR q l m t n S G T) (h0:T.dM G S=0):Calls prog 81 #[.pointer (some ⟨t,0,none⟩)] w λe w'=>e= .returned (.int .i64 0)/\TX w' F p s cR q l m t n S {G with busy:=false} T.close/\ad (λk=>k=t\/k=n\/k=q) w w':=by
 have ha:T.abort G S=(0,T.close,{G with busy:=false}):=by unfold TG.abort;rw [if_neg (λe=>e h0)]
 have k:=xY h.st h.tx;rw [ha] at k;refine k.mono ?_;rintro e w' ⟨rfl,h1,h2,h3,h4⟩;have no:∀j,j≠t->j≠n->j≠q->¬(j=t\/j=n\/j=q):=λj a b c e=>by
  rcases e with e|e|e
  .exact a e
  .exact b e
  .exact c e
 exact⟨rfl,⟨⟨h.st.d.ak h4 (λj hj=>no j (λe=>h.tx.nt (e▸hj)) (λe=>h.tx.nn (e▸hj)) (λe=>h.st.nq (e▸hj))),h3,h.st.lp.ak h4 (no _ h.tx.tl.symm h.tx.nl.symm h.st.ql.symm),h.st.ch.ak h4 (no _ h.tx.tm.symm h.tx.nm.symm h.st.qm.symm),h.st.nq,h.st.nl,h.st.nm,h.st.ql,h.st.qm,h.st.lm,h.st.lk,h.st.bg,h.st.hs,h.st.kb⟩,⟨h1,h2,h.tx.nt,h.tx.nn,h.tx.tq,h.tx.tl,h.tx.tm,h.tx.tn,h.tx.nq,h.tx.nl,h.tx.nm,λx hx=>by cases hx⟩,h.jl,h.pu,h.yk⟩,h4⟩
def Gi (w w':World) (F:Nat->Prop) (p s q l m t n:Nat) (S:DS) (G:SG) (T:TG) (v:Value) (e:Ending):Prop:=
 e= .returned v/\(∃c',TX w' F p s c' q l m t n S G T)/\ad (cq F t n) w w'
section
variable (hx:TX w F p s cR q l m t n S G T) (hp:ar w F a t n) (h4:T.state G S=4)
include hx h4
theorem DJ:Calls prog 39 #[.pointer (some ⟨t,0,none⟩)] w λe w'=>Gi w w' F p s q l m t n S G T (.int .i64 4) e:=by
 have k:=gg hx.st hx.tx;rw [h4] at k;exact k.mono (λe w' ⟨a,b⟩=>⟨a,⟨_,hx.later b⟩,ad.ag _ b⟩)
include hp
theorem DK:Calls prog 69 #[.pointer (some ⟨a,0,none⟩)] w λe w'=>Gi w w' F p s q l m t n S G T (.tuple #[.int .i64 0, .int .i64 4]) e:=by
 have k:=pC hx hp;rw [rN _ (by rw [h4];decide),h4] at k;exact k.mono (λe w' ⟨a,b,c⟩=>⟨a,⟨_,b⟩,c⟩)
theorem DM:Calls prog 73 #[.pointer (some ⟨a,0,none⟩)] w λe w'=>Gi w w' F p s q l m t n S G T (.tuple #[.int .i64 0, .int .i64 4]) e:=by
 have k:=rp hx hp;rw [rN _ (by rw [h4];decide),h4] at k;exact k.mono (λe w' ⟨a,b,c⟩=>⟨a,⟨_,b⟩,c⟩)
theorem DN (x:Int):Calls prog 71 #[.pointer (some ⟨a,0,none⟩), .int .i64 x] w λe w'=>Gi w w' F p s q l m t n S G T (.int .i64 4) e:=by
 have h0:T.state G S≠0:=by rw [h4];decide
 have k:=pF hx hp x;rw [ur h0,h4] at k
 dsimp only at k
 rw [mr h0] at k;exact k.mono (λe w' ⟨a,b,c⟩=>⟨a,⟨_,b⟩,c⟩)
theorem DO (x:Int):Calls prog 75 #[.pointer (some ⟨a,0,none⟩), .int .i64 x] w λe w'=>Gi w w' F p s q l m t n S G T (.int .i64 4) e:=by
 have h0:T.state G S≠0:=by rw [h4];decide
 have k:=rH hx hp x;rw [ur h0,h4] at k
 dsimp only at k
 rw [mr h0] at k;exact k.mono (λe w' ⟨a,b,c⟩=>⟨a,⟨_,b⟩,c⟩)
theorem DP:Calls prog 11 #[.pointer (some ⟨a,0,none⟩)] w λe w'=>Gi w w' F p s q l m t n S G T (.int .i64 4) e:=by
 have k:=sP hx hp;rw [DE (by rw [h4];decide),h4] at k;exact k.mono (λe w' ⟨a,b,c⟩=>⟨a,⟨_,b⟩,c⟩)
theorem Iw:Calls prog 77 #[.pointer (some ⟨a,0,none⟩)] w λe w'=>Gi w w' F p s q l m t n S G T (.tuple #[.int .i64 0, .int .i64 0, .int .i64 4]) e:=by
 have h0:T.state G S≠0:=by rw [h4];decide
 have k:=It hx hp h0;rw [jt h0,h4] at k;exact k.mono (λe w' ⟨a,b,c⟩=>⟨a,⟨_,b⟩,c⟩)
end
def Rq (w w':World) (F F0 X:Nat->Prop) (kr p s q l m t n k:Nat) (S:DS) (G:SG) (M:MP) (e:Ending):Prop:=
 e= .returned (.bool true)/\∃c' t' n' a1' a2' X',jY w' F X' kr p s c' q l m t' n' a1' a2' k S {G with busy:=true} ⟨[],0,false⟩ M.begun/\(∀j,X' j->X j\/w.heap.size<=j)/\ad (λj=>cq F0 t n j\/j=q\/j=l\/j=m\/j=kr\/X j) w w'/\w.heap.size<=t'/\w.heap.size<=n'/\w.heap.size<=a1'/\w.heap.size<=a2'
theorem KG (h:jY w F X kr p s cR q l m t n a1 a2 k S G T M) (hc:LK G S T M) (qd:M.dead=false) (gh:ar w F pa t n) (U6:pa=a1\/pa=a2):
  Calls prog 37 #[.pointer (some ⟨kr,0,none⟩), .pointer (some ⟨pa,0,none⟩), .int .i64 9] w λe w'=>Rq w w' F F X kr p s q l m t n k S G M e:=by
 have Bc:T.dM G S=0:=by unfold TG.dM;rw [hc.dd,qd,hc.en];rfl
 have pA:M.abort=(0,{M with opn:=false}):=by unfold MP.abort;rw [qd,hc.op];rfl
 have h4:T.close.state {G with busy:=false} S=4:=by
  have hl:G.L.dead S=false:=hc.dd.trans qd;unfold TG.state TG.dM;show (if (if G.L.dead S=true then (3:Int) else if true=true then 4 else 0)≠0 then (if G.L.dead S=true then (3:Int) else if true=true then 4 else 0) else _)=4;rw [hl];rfl
 have nq:∀a,ar w F a t n->a≠q:=λa ha e=>fH (e▸ha.b) h.x.st.st (by decide);have c0:=gh.c0;have k1:=h.x.abort Bc;have H:=yh h;have HC:=yh (And.intro hc qd);have HP:=yh gh;have HNQ:=yh nq;have U7:=yh pA;have H4:=yh h4;clear h hc qd gh Bc pA h4 nq;go_enter func37,ntmps37;go_wp2_with fail;refine k1.mono ?_;rintro e w1 ⟨rfl,dj,bo⟩;have zr:¬(kr=t\/kr=n\/kr=q):=λe=>by
  have h9:=H.o.nk;rcases e with e|e|e
  .exact h9.2.2.2.2.1 e
  .exact h9.2.2.2.2.2 e
  .exact h9.2.1 e
 have za:∀a,ar w F a t n->¬(a=t\/a=n\/a=q):=λa ha e=>by
  rcases e with e|e|e
  .exact ha.nf (.inr (.inl e))
  .exact ha.nf (.inr (.inr e))
  .exact HNQ.o a ha e
 have cI:jY w1 F X kr p s cR q l m t n a1 a2 k S {G with busy:=false} T.close M:=H.o.Iv dj (H.o.mm.apart bo (λj e hx=>by
  have h9:=H.o.xa j hx;rcases e with e|e|e
  .exact h9.2.2.2.2.1 e
  .exact h9.2.2.2.2.2.1 e
  .exact h9.2.1 e)) bo zr (za a1 H.o.p1) (za a2 H.o.p2) (λj hj=> .inl hj) (λj hj=> .inl hj) (λj hj=>(H.o.xa j hj).1)
 have ce:w1.cell? ⟨kr,4,none⟩=some (.pointer (some ⟨k,0,none⟩)):=aa cI.b (j:=4) rfl;have km:=wc cI.mm;rw [U7.o] at km;have qV:Yh (ad (λj=>cq F t n j\/j=q\/j=l\/j=m\/j=kr\/X j) w w1):=bo.mono (λj e=>by
  rcases e with e|e|e
  .exact .inl (.inr (.inl e))
  .exact .inl (.inr (.inr e))
  .exact .inr (.inl e))
 have H1:=yh cI;clear k1 dj bo cI zr za c0;go_wp2_with fail;refine km.mono ?_;rintro e w2 ⟨rfl,fi,aK⟩;have eB:jY w2 F X kr p s cR q l m t n a1 a2 k S {G with busy:=false} T.close {M with opn:=false}:=H1.o.after (H1.o.x.apart aK (λj hj=>by
  have h9:=H1.o.xa j hj;exact⟨h9.1,h9.2.1,h9.2.2.1,h9.2.2.2.1,h9.2.2.2.2.1,h9.2.2.2.2.2.1⟩)) fi (aK.mono (λ_ h=> .inr h)) (λ_ h=> .inl h)
 have ON:ar w2 F pa t n:=by
  rcases U6 with rfl|rfl
  .exact eB.p1
  .exact eB.p2
 have k8:Yh (ad (λj=>cq F t n j\/j=q\/j=l\/j=m\/j=kr\/X j) w w2):=qV.o.trans aK (λ_ h=> .inl (.inr (.inr (.inr (.inr (.inr h))))));have kn:=bF 0 w2;have H2:=yh eB;have xU:=yh ON;clear km fi aK eB ON ce qV H1;go_wp2_with fail;refine kn.mono ?_;rintro e wx ⟨rfl,cU⟩;have bR:=cU.symm;subst bR;clear cU kn;have c0:=xU.o.c0;have ks:=DJ H2.o.x H4.o;go_wp2_with fail;refine ks.mono ?_;rintro e w3 ⟨rfl,⟨d3,gy⟩,aR⟩;have kt:=DK gy (xU.o.ak aR) H4.o;have H3:=yh aR;clear ks gy aR c0;go_wp2_with fail;refine kt.mono ?_;rintro e w4 ⟨rfl,⟨d4,Ns⟩,dF⟩;have Gj:=H3.o.trans dF (λ_ h=> .inl h);have DQ:=DN Ns (xU.o.ak Gj) H4.o (-1);have H3:=yh Gj;clear kt Ns dF Gj;go_wp2_with fail;refine DQ.mono ?_;rintro e w5 ⟨rfl,⟨d5,rW⟩,cB⟩;have Gk:=H3.o.trans cB (λ_ h=> .inl h);have kt:=DO rW (xU.o.ak Gk) H4.o 0;have H3:=yh Gk;clear DQ rW cB Gk;go_wp2_with fail;refine kt.mono ?_;rintro e w6 ⟨rfl,⟨d6,Sg⟩,jP⟩;have Gl:=H3.o.trans jP (λ_ h=> .inl h);have DQ:=DM Sg (xU.o.ak Gl) H4.o;have H3:=yh Gl;clear kt Sg jP Gl;go_wp2_with fail;refine DQ.mono ?_;rintro e w7 ⟨rfl,⟨d7,SB⟩,iu⟩;have Gm:=H3.o.trans iu (λ_ h=> .inl h);have kt:=DP SB (xU.o.ak Gm) H4.o;have H3:=yh Gm;clear DQ SB iu Gm;go_wp2_with fail;refine kt.mono ?_;rintro e w8 ⟨rfl,⟨d8,Sy⟩,lN⟩;have Gn:=H3.o.trans lN (λ_ h=> .inl h);have DQ:=Iw Sy (xU.o.ak Gn) H4.o;have H3:=yh Gn;clear kt Sy lN Gn;go_wp2_with fail;refine DQ.mono ?_;rintro e w9 ⟨rfl,⟨d9,Sz⟩,Ew⟩;have AR:=H3.o.trans Ew (λ_ h=> .inl h);have h9:=H2.o.after (Y:=X) Sz (H2.o.mm.apart AR (λj ej hx=>H2.o.qA j hx ej)) (AR.mono (λ_ h=> .inl h)) (λ_ h=> .inl h);have kb:=qy h9.b h9.x.st rfl (show G.L.dead S=false from HC.o.1.dd.trans HC.o.2) h9.x.jl h9.x.pu h9.x.yk h9.mm h9.xl (by have e1:=HC.o.1.Rn;have e2:=h9.x.yk.bl;show M.eI.length<=2048;rw [e1];exact e2) ⟨h9.nk.1,h9.nk.2.1,h9.nk.2.2.1,h9.nk.2.2.2.1⟩ (λj hj=>⟨(h9.xa j hj).1,(h9.xa j hj).2.1,(h9.xa j hj).2.2.1,(h9.xa j hj).2.2.2.1,(h9.xa j hj).2.2.2.2.2.2.1⟩);have Zj:Yh (ad (λj=>cq F t n j\/j=q\/j=l\/j=m\/j=kr\/X j) w w9):=k8.o.trans AR (λ_ h=> .inl (.inl h));have HX9:Yh (X k):=by obtain⟨_,_,_,_,_,_,_,_,_,_,_,nz⟩:=h9.mm;exact nz.xk
 have kn:=bF 4 w9;clear DQ Sz Ew AR h9 H3 k8 H2;go_wp2_with fail;refine kn.mono ?_;rintro e wx ⟨rfl,cU⟩;have bR:=cU.symm;subst bR;clear cU;go_wp2_with fail;refine kn.mono ?_;rintro e wx ⟨rfl,cU⟩;have bR:=cU.symm;subst bR;clear cU;go_wp2_with fail;refine kn.mono ?_;rintro e wx ⟨rfl,cU⟩;have bR:=cU.symm;subst bR;clear cU;go_wp2_with fail;refine kn.mono ?_;rintro e wx ⟨rfl,cU⟩;have bR:=cU.symm;subst bR;clear cU;go_wp2_with fail;refine kn.mono ?_;rintro e wx ⟨rfl,cU⟩;have bR:=cU.symm;subst bR;clear cU;go_wp2_with fail;refine kn.mono ?_;rintro e wx ⟨rfl,cU⟩;have bR:=cU.symm;subst bR;clear cU;go_wp2_with fail;refine kn.mono ?_;rintro e wx ⟨rfl,cU⟩;have bR:=cU.symm;subst bR;clear cU kn;go_wp2_with fail;refine kb.mono ?_;rintro e Il ⟨rfl,t',n',b1,b2,X',hr,SD,xp,z1,z2,z3,z4⟩;have c5:Il.cell? ⟨kr,5,none⟩=some (.bool true):=aa hr.b (j:=5) rfl;have zz:=Zj.o.size;have HE:Yh (Rq w Il F F X kr p s q l m t n k S G M (.returned (.bool true))):=⟨rfl,_,t',n',b1,b2,X',hr,λj hj=>(SD j hj).imp (λe=>e) (λe=>by omega),Zj.o.trans xp (λj e=> .inl (by
  rcases e with e|e|e
  .exact .inr (.inr (.inr (.inr (.inl e))))
  .exact .inr (.inl e)
  .exact .inr (.inr (.inr (.inr (.inr (e▸HX9.o))))))),by omega,by omega,by omega,by omega⟩
 clear kb hr SD xp;go_wp2;go_ret;exact HE.o
end
end
section
def MP.aT (M:MP) (x:Int):Int×MP:=if M.state≠0 then (M.state,M) else if x=6\/x=50\/x=60\/x=61 then (x,{M with bad:=x}) else (1,M)
theorem LK.aT {G:SG} {S:DS} {T:TG} {M:MP} (h:LK G S T M) (x:Int):(T.aT G S x).1=(M.aT x).1/\LK G S (T.aT G S x).2 (M.aT x).2:=by
 unfold TG.aT MP.aT;rw [h.state];split
 .exact⟨rfl,h⟩
 .split
  .exact⟨rfl,h.spoilt x⟩
  .exact⟨rfl,h⟩
section
variable {w w':World} {X Y Z:Nat->Prop} {k:Nat} {M:MP}
theorem Gp (h:MX w X k M) (x:Int):Calls prog 40 #[.pointer (some ⟨k,0,none⟩), .int .i64 x] w λe w'=>e= .returned (.int .i64 (M.aT x).1)/\MX w' X k (M.aT x).2/\ad X w w':=by
 have ks:=de h;obtain⟨c10,f10,fi,aK⟩:=h.F4 x;have H:=yh h;have H2:=yh (And.intro fi aK);clear h fi aK;by_cases h0:M.state=0
 .rw [h0] at ks;by_cases e6:x=6
  .have HE:Yh (M.aT x=(x,{M with bad:=x})):=(by show M.aT x=_;unfold MP.aT;rw [if_neg (λe=>e h0),if_pos (by omega)]);obtain rfl:x=6:=(by omega);clear h0;go_enter func40,ntmps40;go_wp2_with fail;refine ks.mono ?_;rintro e w0 ⟨rfl,dm⟩;have cd:=dm.symm;subst cd;clear dm ks;go_wp2;go_ret;rw [HE.o];exact⟨rfl,H2.o.1,H2.o.2⟩
  .by_cases e50:x=50
   .have HE:Yh (M.aT x=(x,{M with bad:=x})):=(by show M.aT x=_;unfold MP.aT;rw [if_neg (λe=>e h0),if_pos (by omega)]);obtain rfl:x=50:=(by omega);clear h0;go_enter func40,ntmps40;go_wp2_with fail;refine ks.mono ?_;rintro e w0 ⟨rfl,dm⟩;have cd:=dm.symm;subst cd;clear dm ks;go_wp2;go_ret;rw [HE.o];exact⟨rfl,H2.o.1,H2.o.2⟩
   .by_cases e60:x=60
    .have HE:Yh (M.aT x=(x,{M with bad:=x})):=(by show M.aT x=_;unfold MP.aT;rw [if_neg (λe=>e h0),if_pos (by omega)]);obtain rfl:x=60:=(by omega);clear h0;go_enter func40,ntmps40;go_wp2_with fail;refine ks.mono ?_;rintro e w0 ⟨rfl,dm⟩;have cd:=dm.symm;subst cd;clear dm ks;go_wp2;go_ret;rw [HE.o];exact⟨rfl,H2.o.1,H2.o.2⟩
    .by_cases e61:x=61
     .have HE:Yh (M.aT x=(x,{M with bad:=x})):=(by show M.aT x=_;unfold MP.aT;rw [if_neg (λe=>e h0),if_pos (by omega)]);obtain rfl:x=61:=(by omega);clear h0;go_enter func40,ntmps40;go_wp2_with fail;refine ks.mono ?_;rintro e w0 ⟨rfl,dm⟩;have cd:=dm.symm;subst cd;clear dm ks;go_wp2;go_ret;rw [HE.o];exact⟨rfl,H2.o.1,H2.o.2⟩
     .have HE:Yh (M.aT x=(1,M)):=(by show M.aT x=_;unfold MP.aT;rw [if_neg (λe=>e h0),if_neg (by omega)]);have d6:(x != 6)=true:=(by rw [bne_iff_ne];exact e6);have d50:(x != 50)=true:=(by rw [bne_iff_ne];exact e50);have d60:(x != 60)=true:=(by rw [bne_iff_ne];exact e60);have d61:(x != 61)=true:=(by rw [bne_iff_ne];exact e61);clear h0 e6 e50 e60 e61;go_enter func40,ntmps40;go_wp2_with fail;refine ks.mono ?_;rintro e w0 ⟨rfl,dm⟩;have cd:=dm.symm;subst cd;clear dm ks;go_wp2;go_ret;rw [HE.o];exact⟨rfl,H.o,ad.refl _ _⟩
 .have HE:Yh (M.aT x=(M.state,M)):=by show M.aT x=_;unfold MP.aT;rw [if_pos h0]
  obtain⟨y,hy⟩:∃y,y=M.state:=⟨_,rfl⟩;rw [<-hy] at ks h0 HE;have d0:(y != 0)=true:=by rw [bne_iff_ne];exact h0
  clear h0 hy;go_enter func40,ntmps40;go_wp2_with fail;refine ks.mono ?_;rintro e w0 ⟨rfl,dm⟩;have cd:=dm.symm;subst cd;clear dm ks;go_wp2;go_ret;rw [HE.o];exact⟨rfl,H.o,ad.refl _ _⟩
end
end
section
def MP.nc (M:MP) (b:Nat) (d:List Int):Int×MP:=if M.state≠0 then (M.state,M) else if M.raw.getD b []=d then (0,M) else if (M.puts b).1≠0 then M.puts b else (0,{(M.puts b).2 with raw:=M.raw.set b d})
theorem LK.SE {G:SG} {S:DS} {T:TG} {M:MP} (h:LK G S T M) {b:Nat} (aG:2<=b) (hb:b<G.y.blocks):M.raw.getD b []=T.bq G S b:=by
 rw [List.getD_eq_getElem?_getD,h.so b aG hb];rfl
theorem LK.nc {G:SG} {S:DS} {T:TG} {M:MP} (h:LK G S T M) (dw:CM.Ok T.puts) {b:Nat} (aG:2<=b) (hb:b<G.y.blocks) {d:List Int} (hl:d.length=512):∃z T' M',T.put G S (b:Int) d=(z,T')/\M.nc b d=(z,M')/\LK G S T' M':=by
 unfold MP.nc;by_cases h0:M.state=0
 .rw [if_neg (λe=>e h0),h.SE aG hb];by_cases he:d=T.bq G S b
  .rw [if_pos he.symm];have hr:T.refusal G S (b:Int)=0:=eJ (h.state.trans h0) hb;refine⟨0,T,M,?_,rfl,h⟩;unfold TG.put;rw [if_neg (λh=>h hr),if_neg (λh=>h hl),Int.toNat_natCast,if_pos he]
  .rw [if_neg (λe=>he e.symm)];rcases h.puts dw h0 hb hl he with ⟨p1,p2⟩|⟨r,p1,p2,p3,p4,p5⟩
   .refine⟨50,_,_,p1,?_,h.spoilt 50⟩;rw [p2];rfl
   .have hg:=λi=>DC (G:=G) (S:=S) (T:=T) (bm:=b) (d:=d) dw i;refine⟨0,_,{M with put:=r,raw:=M.raw.set b d},p1,?_,h.bad,h.en,h.op,h.dd,p3,p4,p5,by rw [hg,if_neg (by omega)];exact h.s0,by rw [hg,if_neg (by omega)];exact h.s1,λc h1 h2=>?_,h.mb,h.mn,by rw [List.length_set];exact h.rl,h.l0,h.l1,h.o0,h.o1,h.oo,h.Rn,h.k0,h.k1⟩
    .rw [p2];rfl
    .rw [hg];show (M.raw.set b d)[c]? =_;by_cases e:c=b
     .subst e;rw [if_pos rfl,List.getElem?_set_self (by have:=h.rl;omega)]
     .rw [if_neg e,List.getElem?_set_ne (λq=>e q.symm)];exact h.so c h1 h2
 .rw [if_pos h0];exact⟨M.state,T,M,by rw [Gb (by rw [h.state];exact h0),h.state],rfl,h⟩
theorem Rr {a b:List Int} (ha:Bytes a) (hb:Bytes b):((strOfNums a).toList == (strOfNums b).toList)=decide (a=b):=by
 by_cases e:a=b
 .subst e;simp
 .rw [decide_eq_false e,beq_eq_false_iff_ne];intro h;apply e;rw [<-Az ha,<-Az hb];unfold JP;rw [<-ByteArray.toList_eq,<-ByteArray.toList_eq,h]
theorem Gq {w:World} {e:TypeId} {g c:Nat} {xs:List Value} (h:ao w e g c xs) (k:Nat) (v:Value):ao (w.setCell ⟨g,k,none⟩ v) e g c (xs.set k v):=by
 obtain⟨cur,hb,hc,ht,hm⟩:=h;refine⟨_,heap_setCell_same _ _ _ _ _ _ hb,by simpa using hc,?_,hm⟩;rw [List.length_set,Array.toList_setIfInBounds,List.take_set,ht]
section
variable {w w':World} {X Y Z:Nat->Prop} {k:Nat} {M:MP}
theorem MX.U8 (h:MX w X k M) (wn:M.opn=true) {b:Nat} (hb:b<M.raw.length) {g c:Nat} {d:List Int} (hr:ao w 5 g c (bs d)):∃gv cv u,w.cell? ⟨k,8,none⟩=some (.slice (some ⟨gv,0,none⟩) M.raw.length cv)/\w.cell? ⟨gv,b,none⟩=some u/\w.frozen? ⟨gv,b,none⟩=false/\MX (w.setCell ⟨gv,b,none⟩ (.slice (some ⟨g,0,none⟩) 512 c)) (λj=>X j\/j=g) k {M with raw:=M.raw.set b d}/\ad X w (w.setCell ⟨gv,b,none⟩ (.slice (some ⟨g,0,none⟩) 512 c)):=by
 obtain⟨g1,c1,g2,c2,g3,c3,g4,c4,v5,v6,v7,h⟩:=h;obtain⟨xs,h1,h2,h3⟩:=h.raw;obtain⟨gv,cv,rfl,_,aU,_⟩:=ao.eQ h1 (by
  intro e;obtain⟨_,⟨_,hn⟩|⟨g,c,cur,e',_⟩⟩:=h1
  .omega
  .rw [e] at e';cases e')
 have PO:xs.length=M.raw.length:=by have:=h1.1;simpa using this
 obtain⟨gx,cx,ex,_,_⟩:=h3 b hb;obtain⟨cur,sT,_⟩:=id aU;have hk:=ad.setCell (F:=λj=>j=gv) w (p:=⟨gv,b,none⟩) rfl (.slice (some ⟨g,0,none⟩) 512 c);have hXg:X gv:=h2 gv rfl;have u8:∀g' c' l,ao w 5 g' c' (bs l)->ao (w.setCell ⟨gv,b,none⟩ (.slice (some ⟨g,0,none⟩) 512 c)) 5 g' c' (bs l):=λg' c' l hq=>hq.agree (hk.block g' hq.lt (λe=>by
  obtain⟨cu,hc,_⟩:=hq;rw [e,sT] at hc;cases hc))
 have tb:∀g' c' l,BX w X g' c' l->BX (w.setCell ⟨gv,b,none⟩ (.slice (some ⟨g,0,none⟩) 512 c)) (λj=>X j\/j=g) g' c' l:=λg' c' l hq=>⟨.inl hq.1,hq.2.1.agree (hk.block g' hq.2.1.lt (λe=>by
  obtain⟨cu,hc,_⟩:=hq.2.1;rw [e,sT] at hc;cases hc)),hq.2.2⟩
 have tt:=(hk.block k (af h.b) (λe=>by
  have h9:=h.b;rw [e,sT] at h9;cases h9)).trans h.b
 have oU:IL w X v7 M.put:=⟨h.put.1,h.put.2⟩;have iW:=oU.ak hk (λg' hg e=>by
  obtain⟨cu,hc⟩:=ay oU.own hg;rw [e,sT] at hc;cases hc)
 have Zk:nG (w.setCell ⟨gv,b,none⟩ (.slice (some ⟨g,0,none⟩) 512 c)) (λj=>X j\/j=g) v5 M.eI:=by
  obtain⟨ys,o1,o2,o3⟩:=h.eI;refine⟨ys,bP o1 (λg' hg=>?_),λg' hg=> .inl (o2 g' hg),λi hi=>?_⟩
  .obtain⟨cu,hc⟩:=ay o1 hg;exact hk.block g' (af hc) (λe=>h.own wn g' hg (by rw [e];rfl))
  .obtain⟨g',c',e1,e2,e3⟩:=o3 i hi;exact⟨g',c',e1, .inl e2,u8 _ _ _ e3⟩
 have Gr:nG (w.setCell ⟨gv,b,none⟩ (.slice (some ⟨g,0,none⟩) 512 c)) (λj=>X j\/j=g) (.slice (some ⟨gv,0,none⟩) M.raw.length cv) (M.raw.set b d):=by
  refine⟨xs.set b (.slice (some ⟨g,0,none⟩) 512 c),?_,λg' hg=> .inl (h2 g' hg),λi hi=>?_⟩
  .have h9:=(Gq aU b (.slice (some ⟨g,0,none⟩) 512 c)).owns;rw [List.length_set,PO] at h9;rw [List.length_set];exact h9
  .rw [List.length_set] at hi;by_cases e:i=b
   .subst e;exact⟨g,c,List.getElem?_set_self (by omega), .inr rfl,by rw [List.getElem_set_self];exact u8 _ _ _ hr⟩
   .obtain⟨g',c',e1,e2,e3⟩:=h3 i hi;exact⟨g',c',by rw [List.getElem?_set_ne (λq=>e q.symm)];exact e1, .inl e2,by rw [List.getElem_set_ne (λq=>e q.symm)];exact u8 _ _ _ e3⟩
 exact⟨gv,cv,_,aa h.b (j:=8) rfl,aU.cell ex,ae sT b,⟨_,_,_,_,_,_,_,_,_,_,_,⟨tt, .inl h.xk,tb _ _ _ h.ob,tb _ _ _ h.on,tb _ _ _ h.nb,tb _ _ _ h.nn,h.KZ,h.Pp,h.Pq,h.Pr,h.Ps,h.NS,Zk,Gr,⟨iW.own,λg' hg=> .inl (iW.x g' hg)⟩,h.own⟩⟩,hk.mono (λj hj=>by rw [hj];exact hXg)⟩
theorem KH {d:List Int} {g c:Nat} (h:MX w X k M) (wn:M.opn=true) (hp:M.put.length<=16) (jH:ao w 5 g c (bs d)) (hgX:¬X g) (hd:Bytes d) (tf:d.length=512) (b:Nat) (h2:2<=b) (hb:b<M.raw.length) (np:Bytes (M.raw.getD b [])) (U9:(M.raw.getD b []).length=512):
  Calls prog 84 #[.pointer (some ⟨k,0,none⟩), .int .i64 (b:Int), .slice (some ⟨g,0,none⟩) 512 c] w λe w'=>e= .returned (.int .i64 (M.nc b d).1)/\MX w' (λj=>X j\/j=g\/(w.heap.size<=j/\j<w'.heap.size)) k (M.nc b d).2/\ad X w w':=by
 have ks:=de h;by_cases h0:M.state=0
 .rw [h0] at ks;have A3:M.raw.getD b []=M.raw[b]:=by rw [List.getD_eq_getElem?_getD,List.getElem?_eq_getElem hb];rfl
  have hR:M.nc b d=if M.raw.getD b []=d then (0,M) else if (M.puts b).1≠0 then M.puts b else (0,{(M.puts b).2 with raw:=M.raw.set b d}):=by unfold MP.nc;rw [if_neg (λe=>e h0)]
  have GR:=Rr np hd;obtain⟨bb,kj⟩:∃bb,bb=decide (M.raw.getD b []=d):=⟨_,rfl⟩;rw [<-kj] at GR;have HM:=yh h;obtain⟨g1,c1,Rl,Rm,g3,c3,g4,c4,v5,v6,v7,nz⟩:=h;obtain⟨gv,cv,g2,c2,ev,Y7,_,tI,_⟩:=nz.raw.at hb;rw [<-A3] at tI;obtain⟨nr,hnr⟩:∃nr,nr=M.raw.length:=⟨_,rfl⟩;have c8:w.cell? ⟨k,8,none⟩=some (.slice (some ⟨gv,0,none⟩) nr cv):=by
   have h9:w.cell? ⟨k,8,none⟩=some v6:=aa nz.b (j:=8) rfl;rw [h9,ev,hnr]
  obtain⟨sx,VL⟩:∃sx,sx=strOfNums (M.raw.getD b []):=⟨_,rfl⟩;obtain⟨sy,QM⟩:∃sy,sy=strOfNums d:=⟨_,rfl⟩;rw [<-VL,<-QM] at GR;have HC:Yh (∀w',Below w.heap.size w w'->w'.cell? ⟨k,8,none⟩=some (.slice (some ⟨gv,0,none⟩) nr cv)/\w'.cell? ⟨gv,b,none⟩=some (.slice (some ⟨g2,0,none⟩) 512 c2)/\(convert 44 9 (.slice (some ⟨g2,0,none⟩) 512 c2)).run prog w'= .ok (.string sx) w'/\(convert 44 9 (.slice (some ⟨g,0,none⟩) 512 c)).run prog w'= .ok (.string sy) w'):=λw' hq=>by
   refine⟨cell_later hq c8,cell_later hq Y7,?_,?_⟩
   .rw [VL];exact run_convert_bytes_arg (P:=prog) w' 44 5 underlying44 underlying5 g2 0 512 c2 (M.raw.getD b []) U9 (λi hi=>by rw [Nat.zero_add];exact cell_later hq (tI.get (by omega))) 9 underlying9
   .rw [QM];exact run_convert_bytes_arg (P:=prog) w' 44 5 underlying44 underlying5 g 0 512 c d tf (λi hi=>by rw [Nat.zero_add];exact cell_later hq (jH.get (by omega))) 9 underlying9
  have Aj:Yh (Below w.heap.size w w.drew):=(ad.drew (λ_=>False) w).below (λ_ h=>h.elim) (Nat.le_refl _);have HP:Yh (Calls prog 66 #[.pointer (some ⟨k,0,none⟩), .int .i64 (b:Int)] w.drew λe w'=>e= .returned (.int .i64 (M.puts b).1)/\MX w' (more X w.drew w') k (M.puts b).2/\ad X w.drew w'):=kQ (HM.o.later Aj.o) b hp;have HG:Yh (ao w 5 g c (bs d)):=jH;have HR:=yh hR;have Vw:=yh kj;have HPu:Yh ((M.puts b).1=0\/(M.puts b).1≠0):=Decidable.em _;have HOp:Yh ((M.puts b).2.opn=true/\(M.puts b).2.raw=M.raw):=by
   show (M.puts b).2.opn=true/\(M.puts b).2.raw=M.raw;unfold MP.puts;split
   .exact⟨wn,rfl⟩
   .split <;> exact⟨wn,rfl⟩
  have HNR:=yh (And.intro hnr hb);have Wn:¬(b:Int)<2:=by omega
  have lJ:(0:Int)<=(b:Int):=by omega
  have hbn:(b:Int)<(nr:Int):=by omega
  clear wn hp jH hd tf np U9 h0 A3 hR kj nz ev Y7 tI hnr c8 VL QM h2 hb;go_enter func84,ntmps84;go_wp2_with fail;refine ks.mono ?_;rintro e w0 ⟨rfl,dm⟩;have cd:=dm.symm;subst cd;clear dm ks;go_wp2_with fail;refine wp_region_held_drew (S:=(λw'=>w'.cell? ⟨k,8,none⟩=some (.slice (some ⟨gv,0,none⟩) nr cv)/\w'.cell? ⟨gv,b,none⟩=some (.slice (some ⟨g2,0,none⟩) 512 c2)/\(convert 44 9 (.slice (some ⟨g2,0,none⟩) 512 c2)).run prog w'= .ok (.string sx) w'/\(convert 44 9 (.slice (some ⟨g,0,none⟩) 512 c)).run prog w'= .ok (.string sy) w')) (by kernel_rfl) (HC.o _ Aj.o) (λaC=>?_);refine wpAnyH_take (i:=0) (oi:={dst:=some 20,op:=Op.move (Operand.tmp 0),type:=36,pos:= "ref.go:196",after:= #[],guard:=none}) (v:= .pointer (some ⟨k,0,none⟩)) rfl (by kernel_rfl) (by kernel_rfl) (by kernel_rfl) (λ_ _ _ h=>h) (Or.inl ⟨by rfl,?_⟩) (by assumption) ?_
  .intro w aw
   (try dsimp only at aw)
   go_simp
  try simp only [Act.put,List.setIfInBounds_toArray,List.set_cons_zero,List.set_cons_succ]
  refine wpAnyH_take (i:=1) (oi:={dst:=some 21,op:=Op.nilCheck (Operand.tmp 20),type:=0,pos:= "ref.go:196",after:= #[{on:=0,ground:=Ground.data}],guard:=none}) (v:= .pointer (some ⟨k,0,none⟩)) rfl (by kernel_rfl) (by kernel_rfl) (by kernel_rfl) (λ_ _ _ h=>h) (Or.inl ⟨by rfl,?_⟩) (by assumption) ?_
  .intro w aw
   (try dsimp only at aw)
   go_simp
  try simp only [Act.put,List.setIfInBounds_toArray,List.set_cons_zero,List.set_cons_succ]
  refine wpAnyH_take (i:=2) (oi:={dst:=some 22,op:=Op.fieldAddr 72 (Operand.tmp 21) 6,type:=0,pos:= "ref.go:196",after:= #[{on:=1,ground:=Ground.data}],guard:=none}) (v:= .pointer (some ⟨k,8,none⟩)) rfl (by kernel_rfl) (by kernel_rfl) (by kernel_rfl) (λ_ _ _ h=>h) (Or.inl ⟨by rfl,?_⟩) (by assumption) ?_
  .intro w aw
   (try dsimp only at aw)
   go_simp
  try simp only [Act.put,List.setIfInBounds_toArray,List.set_cons_zero,List.set_cons_succ]
  refine wpAnyH_take (i:=3) (oi:={dst:=some 23,op:=Op.load 70 (Operand.tmp 22),type:=70,pos:= "ref.go:196",after:= #[{on:=2,ground:=Ground.data}],guard:=none}) (v:= .slice (some ⟨gv,0,none⟩) nr cv) rfl (by kernel_rfl) (by kernel_rfl) (by kernel_rfl) (λ_ _ _ h=>h) (Or.inl ⟨by rfl,?_⟩) (by assumption) ?_
  .intro w aw
   (try dsimp only at aw)
   go_simp
  try simp only [Act.put,List.setIfInBounds_toArray,List.set_cons_zero,List.set_cons_succ]
  refine wpAnyH_take (i:=4) (oi:={dst:=some 24,op:=Op.move (Operand.tmp 1),type:=3,pos:= "ref.go:196",after:= #[],guard:=none}) (v:= .int .i64 (b:Int)) rfl (by kernel_rfl) (by kernel_rfl) (by kernel_rfl) (λ_ _ _ h=>h) (Or.inl ⟨by rfl,?_⟩) (by assumption) ?_
  .intro w aw
   (try dsimp only at aw)
   go_simp
  try simp only [Act.put,List.setIfInBounds_toArray,List.set_cons_zero,List.set_cons_succ]
  refine wpAnyH_take (i:=5) (oi:={dst:=some 25,op:=Op.indexAddr 70 (Operand.tmp 23) (Operand.tmp 24),type:=0,pos:= "ref.go:196",after:= #[{on:=3,ground:=Ground.data},{on:=4,ground:=Ground.data}],guard:=none}) (v:= .pointer (some ⟨gv,b,none⟩)) rfl (by kernel_rfl) (by kernel_rfl) (by kernel_rfl) (λ_ _ _ h=>h) (Or.inl ⟨by rfl,?_⟩) (by assumption) ?_
  .intro w aw
   (try dsimp only at aw)
   go_simp
  try simp only [Act.put,List.setIfInBounds_toArray,List.set_cons_zero,List.set_cons_succ]
  refine wpAnyH_take (i:=6) (oi:={dst:=some 26,op:=Op.load 44 (Operand.tmp 25),type:=44,pos:= "ref.go:196",after:= #[{on:=5,ground:=Ground.data}],guard:=none}) (v:= .slice (some ⟨g2,0,none⟩) 512 c2) rfl (by kernel_rfl) (by kernel_rfl) (by kernel_rfl) (λ_ _ _ h=>h) (Or.inl ⟨by rfl,?_⟩) (by assumption) ?_
  .intro w aw
   (try dsimp only at aw)
   go_simp
  try simp only [Act.put,List.setIfInBounds_toArray,List.set_cons_zero,List.set_cons_succ]
  refine wpAnyH_take (i:=7) (oi:={dst:=some 27,op:=Op.convert 44 9 (Operand.tmp 26),type:=9,pos:= "ref.go:196",after:= #[{on:=6,ground:=Ground.data}],guard:=none}) (v:= .string sx) rfl (by kernel_rfl) (by kernel_rfl) (by kernel_rfl) (λ_ _ _ h=>h) (Or.inl ⟨by rfl,?_⟩) (by assumption) ?_
  .intro w aw
   (try dsimp only at aw)
   go_simp
  try simp only [Act.put,List.setIfInBounds_toArray,List.set_cons_zero,List.set_cons_succ]
  refine wpAnyH_take (i:=8) (oi:={dst:=some 28,op:=Op.move (Operand.tmp 2),type:=44,pos:= "ref.go:196",after:= #[],guard:=none}) (v:= .slice (some ⟨g,0,none⟩) 512 c) rfl (by kernel_rfl) (by kernel_rfl) (by kernel_rfl) (λ_ _ _ h=>h) (Or.inl ⟨by rfl,?_⟩) (by assumption) ?_
  .intro w aw
   (try dsimp only at aw)
   go_simp
  try simp only [Act.put,List.setIfInBounds_toArray,List.set_cons_zero,List.set_cons_succ]
  refine wpAnyH_take (i:=9) (oi:={dst:=some 29,op:=Op.convert 44 9 (Operand.tmp 28),type:=9,pos:= "ref.go:196",after:= #[{on:=8,ground:=Ground.data}],guard:=none}) (v:= .string sy) rfl (by kernel_rfl) (by kernel_rfl) (by kernel_rfl) (λ_ _ _ h=>h) (Or.inl ⟨by rfl,?_⟩) (by assumption) ?_
  .intro w aw
   (try dsimp only at aw)
   go_simp
  try simp only [Act.put,List.setIfInBounds_toArray,List.set_cons_zero,List.set_cons_succ]
  refine wpAnyH_take (i:=10) (oi:={dst:=some 30,op:=Op.binOp BinOp.eql 9 (Operand.tmp 27) (Operand.tmp 29) 9,type:=4,pos:= "ref.go:196",after:= #[{on:=7,ground:=Ground.data},{on:=9,ground:=Ground.data}],guard:=none}) (v:= .bool bb) rfl (by kernel_rfl) (by kernel_rfl) (by kernel_rfl) (λ_ _ _ h=>h) (Or.inl ⟨by rfl,?_⟩) (by assumption) ?_
  .intro w aw
   (try dsimp only at aw)
   go_simp
  try simp only [Act.put,List.setIfInBounds_toArray,List.set_cons_zero,List.set_cons_succ]
  refine wpAnyH_done (by kernel_rfl) ?_ _;cases hB:bb
  .have eM:¬M.raw.getD b []=d:=by
    have h9:=Vw.o;rw [hB] at h9;exact of_decide_eq_false h9.symm
   have Jk:Yh (M.nc b d=if (M.puts b).1≠0 then M.puts b else (0,{(M.puts b).2 with raw:=M.raw.set b d})):=by
    show M.nc b d=_;rw [HR.o,if_neg eM]
   subst hB;have kp:=HP.o;clear eM GR HC HP;rcases HPu.o with hz|hz
   .rw [hz] at kp;have K4:Yh (M.nc b d=(0,{(M.puts b).2 with raw:=M.raw.set b d})):=by
     show M.nc b d=_;rw [Jk.o,if_neg (λe=>e hz)]
    clear hz;go_wp2_with fail;refine kp.mono ?_;rintro e w1 ⟨rfl,l5,bo⟩;have Zl:ao w1 5 g c (bs d):=(HG.o.agree (Aj.o.block g HG.o.lt)).agree (bo.block g (Nat.lt_of_lt_of_le HG.o.lt Aj.o.size) hgX);obtain⟨gv',cv',u,e8,eu,fu,fi,aK⟩:=l5.U8 HOp.o.1 (b:=b) (by rw [HOp.o.2];exact HNR.o.2) Zl;rw [HOp.o.2,<-HNR.o.1] at e8;have Ht:Yh (MX (w1.setCell ⟨gv',b,none⟩ (.slice (some ⟨g,0,none⟩) 512 c)) (λj=>X j\/j=g\/(w.heap.size<=j/\j<(w1.setCell ⟨gv',b,none⟩ (.slice (some ⟨g,0,none⟩) 512 c)).heap.size)) k (M.nc b d).2/\ad X w (w1.setCell ⟨gv',b,none⟩ (.slice (some ⟨g,0,none⟩) 512 c))):=by
     have z0:=Aj.o.size;have z2:=aK.size;refine⟨?_,((ad.ag X Aj.o).trans bo (λ_ h=> .inl h)).trans aK (λj hj=>hj.imp (λe=>e) (λe=>by have:=e.1;omega))⟩;rw [K4.o];rw [HOp.o.2] at fi;refine fi.mono (λj hj=>?_);rcases hj with (hj|hj)|hj
     .exact .inl hj
     .exact .inr (.inr ⟨by omega,by omega⟩)
     .exact .inr (.inl hj)
    clear kp l5 bo Zl fi aK;go_wp2;go_ret;rw [K4.o];rw [K4.o] at Ht;exact⟨rfl,Ht.o.1,Ht.o.2⟩
   .have K4:Yh (M.nc b d=M.puts b):=by
     show M.nc b d=_;rw [Jk.o,if_pos hz]
    obtain⟨z,A8⟩:∃z,z=(M.puts b).1:=⟨_,rfl⟩;rw [<-A8] at kp hz;have dz:(z == 0)=false:=(by rw [beq_eq_false_iff_ne];exact hz);have HZ:=yh A8;clear hz A8;go_wp2_with fail;refine kp.mono ?_;rintro e w1 ⟨rfl,l5,bo⟩;have Ht:Yh (MX w1 (λj=>X j\/j=g\/(w.heap.size<=j/\j<w1.heap.size)) k (M.puts b).2/\ad X w w1):=by
     have z0:=Aj.o.size;exact⟨l5.mono (λj hj=>hj.imp (λe=>e) (λe=> .inr ⟨by have:=e.1;omega,e.2⟩)),(ad.ag X Aj.o).trans bo (λ_ h=> .inl h)⟩
    clear kp l5 bo;go_wp2;go_ret;rw [K4.o,<-HZ.o];exact⟨rfl,Ht.o.1,Ht.o.2⟩
  .have Jk:Yh (M.nc b d=(0,M)):=by
    show M.nc b d=_;have h9:=Vw.o;rw [hB] at h9;rw [HR.o,if_pos (of_decide_eq_true h9.symm)]
   subst hB;have Ht:Yh (MX w.drew (λj=>X j\/j=g\/(w.heap.size<=j/\j<w.drew.heap.size)) k M/\ad X w w.drew):=⟨(HM.o.later Aj.o).mono (λ_ h=> .inl h),ad.ag X Aj.o⟩;clear GR HC HP;go_wp2;go_ret;rw [Jk.o];exact⟨rfl,Ht.o.1,Ht.o.2⟩
 .have hc:M.nc b d=(M.state,M):=by unfold MP.nc;rw [if_pos h0]
  rw [hc];have H:=yh h;clear h wn hp jH hgX hd tf h2 hb np U9 hc;generalize M.state=x at*;have d0:(x != 0)=true:=by rw [bne_iff_ne];exact h0
  go_enter func84,ntmps84;go_wp2_with fail;refine ks.mono ?_;rintro e w0 ⟨rfl,dm⟩;have cd:=dm.symm;subst cd;clear dm ks;go_wp2;go_ret;exact⟨rfl,H.o.mono (λ_ h=> .inl h),ad.refl _ _⟩
end
end
section
section
variable {w:World} {F X:Nat->Prop} {kr p s cR q l m t n a1 a2 k pa:Nat} {S:DS} {G:SG} {T:TG} {M:MP} {N:Int} {who two:Bool} {da:Option Addr} {dn dc:Nat} {dl:List Int}
theorem OO (h:jY w F X kr p s cR q l m t n a1 a2 k S G T M) (hc:LK G S T M) (gh:ar w F pa t n) (hN:nN N) (hs:∀w',ad (λj=>cq F t n j\/X j) w w'->Src w' da dn dl) (ey:Bytes dl) (GV:dn<=140737488355328) (kj:2+iz N 0 29<G.y.blocks):
  Calls prog 38 #[.pointer (some ⟨kr,0,none⟩), .pointer (some ⟨pa,0,none⟩),rM 10 N who two da dn dc] w λe w'=>lc w w' F X kr p s q l m t n a1 a2 k S G e:=by
 obtain⟨b,hb⟩:∃b,b=2+iz N 0 29:=⟨_,rfl⟩;rw [<-hb] at kj;have aG:2<=b:=by omega
 obtain⟨zz,T1,M1,q1,q2,kZ⟩:=hc.nc h.x.tx.ch.ok aG kj (gL dl);have fD:=an w (aY 10 N who two da dn dc);have bw:=heap_alloc_new w (aY 10 N who two da dn dc);have g0:(w.alloc (aY 10 N who two da dn dc)).cell? ⟨w.heap.size,0,none⟩=some (.int .i64 10):=aa bw (j:=0) rfl;have g1:(w.alloc (aY 10 N who two da dn dc)).cell? ⟨w.heap.size,1,none⟩=some (.int .i64 N):=aa bw (j:=1) rfl;have g4:(w.alloc (aY 10 N who two da dn dc)).cell? ⟨w.heap.size,4,none⟩=some (.slice da dn dc):=aa bw (j:=4) rfl;have h0:=h.later fD;have ce:(w.alloc (aY 10 N who two da dn dc)).cell? ⟨kr,4,none⟩=some (.pointer (some ⟨k,0,none⟩)):=aa h0.b (j:=4) rfl;have cb:(w.alloc (aY 10 N who two da dn dc)).cell? ⟨k,0,none⟩=some (.int .i64 (M.blocks:Int)):=by
  obtain⟨SA,Pt,Rl,Rm,OD,OE,OF,OG,v5,v6,v7,nz⟩:=h0.mm;exact aa nz.b (j:=0) rfl
 have hmb:2<=M.blocks:=by have:=h.x.yk.b2;have h9:M.blocks=G.y.blocks:=hc.mb;omega
 have SC:=fT N 0 29 (by omega) (by omega) ⟨hN.1,hN.2⟩ (w.alloc (aY 10 N who two da dn dc));have Sk:=(jX N (lo:=0) (hi:=29) (by omega)).2;generalize iz N 0 29=y at*;have hbI:((b:Nat):Int)=2+(y:Int):=by omega
 have Ze:¬(M.blocks:Int)<=2+(y:Int):=by have h9:M.blocks=G.y.blocks:=hc.mb;omega
 have HbI:=yh hbI;have Zf:=yh (gh.later fD);have c0:=Zf.o.c0;have H6:Yh (∀w',Below (w.alloc (aY 10 N who two da dn dc)).heap.size (w.alloc (aY 10 N who two da dn dc)) w'->w'.cell? ⟨pa,0,none⟩=some (.pointer (some ⟨t,0,none⟩))/\w'.cell? ⟨w.heap.size,4,none⟩=some (.slice da dn dc)):=λw' hw=>⟨cell_later hw c0,cell_later hw g4⟩;have JM:Yh (Below (w.alloc (aY 10 N who two da dn dc)).heap.size (w.alloc (aY 10 N who two da dn dc)) (w.alloc (aY 10 N who two da dn dc)).drew):=(ad.drew (λ_=>False) _).below (λ_ h=>h.elim) (Nat.le_refl _);have yH:Yh (¬cq F t n w.heap.size):=λe=>by have:=h.x.lt _ e;omega
 have HR:=yh h;have Pk:=yh h0;have D6:=yh fD;have ym:=yh bw;have HC:=yh (And.intro hc kZ);have MC:=yh q1;have HQ2:=yh q2;have Pf:=yh hs;clear h hc gh hs q1 q2 kZ fD bw h0 c0 hb g4 hbI;go_enter func38,ntmps38;go_wp2_with fail;refine SC.mono ?_;rintro e wx ⟨rfl,cU⟩;subst cU;clear SC;go_wp2_with fail;refine wp_region_held_drew (S:=(λw'=>w'.cell? ⟨pa,0,none⟩=some (.pointer (some ⟨t,0,none⟩))/\w'.cell? ⟨w.heap.size,4,none⟩=some (.slice da dn dc))) (by kernel_rfl) (H6.o _ JM.o) (λaC=>?_);refine wpAnyH_take (i:=0) (oi:={dst:=some 29,op:=Op.move (Operand.tmp 1),type:=35,pos:= "exact.go:156",after:= #[],guard:=none}) (v:= .pointer (some ⟨pa,0,none⟩)) rfl (by kernel_rfl) (by kernel_rfl) (by kernel_rfl) (λ_ _ _ h=>h) (Or.inl ⟨by rfl,?_⟩) (by assumption) ?_
 .intro w aw
  (try dsimp only at aw)
  go_simp
 try simp only [Act.put,List.setIfInBounds_toArray,List.set_cons_zero,List.set_cons_succ]
 refine wpAnyH_take (i:=1) (oi:={dst:=some 30,op:=Op.nilCheck (Operand.tmp 29),type:=0,pos:= "exact.go:156",after:= #[{on:=0,ground:=Ground.data}],guard:=none}) (v:= .pointer (some ⟨pa,0,none⟩)) rfl (by kernel_rfl) (by kernel_rfl) (by kernel_rfl) (λ_ _ _ h=>h) (Or.inl ⟨by rfl,?_⟩) (by assumption) ?_
 .intro w aw
  (try dsimp only at aw)
  go_simp
 try simp only [Act.put,List.setIfInBounds_toArray,List.set_cons_zero,List.set_cons_succ]
 refine wpAnyH_take (i:=2) (oi:={dst:=some 31,op:=Op.fieldAddr 59 (Operand.tmp 30) 0,type:=0,pos:= "exact.go:156",after:= #[{on:=1,ground:=Ground.data}],guard:=none}) (v:= .pointer (some ⟨pa,0,none⟩)) rfl (by kernel_rfl) (by kernel_rfl) (by kernel_rfl) (λ_ _ _ h=>h) (Or.inl ⟨by rfl,?_⟩) (by assumption) ?_
 .intro w aw
  (try dsimp only at aw)
  go_simp
 try simp only [Act.put,List.setIfInBounds_toArray,List.set_cons_zero,List.set_cons_succ]
 refine wpAnyH_take (i:=3) (oi:={dst:=some 32,op:=Op.load 57 (Operand.tmp 31),type:=57,pos:= "exact.go:156",after:= #[{on:=2,ground:=Ground.data}],guard:=none}) (v:= .pointer (some ⟨t,0,none⟩)) rfl (by kernel_rfl) (by kernel_rfl) (by kernel_rfl) (λ_ _ _ h=>h) (Or.inl ⟨by rfl,?_⟩) (by assumption) ?_
 .intro w aw
  (try dsimp only at aw)
  go_simp
 try simp only [Act.put,List.setIfInBounds_toArray,List.set_cons_zero,List.set_cons_succ]
 refine wpAnyH_take (i:=4) (oi:={dst:=some 33,op:=Op.move (Operand.tmp 7),type:=3,pos:= "exact.go:156",after:= #[],guard:=none}) (v:= .int .i64 (2+(y:Int))) rfl (by kernel_rfl) (by kernel_rfl) (by kernel_rfl) (λ_ _ _ h=>h) (Or.inl ⟨by rfl,?_⟩) (by assumption) ?_
 .intro w aw
  (try dsimp only at aw)
  go_simp
 try simp only [Act.put,List.setIfInBounds_toArray,List.set_cons_zero,List.set_cons_succ]
 refine wpAnyH_take (i:=5) (oi:={dst:=some 34,op:=Op.fieldAddr 46 (Operand.tmp 5) 4,type:=0,pos:= "exact.go:156",after:= #[],guard:=none}) (v:= .pointer (some ⟨w.heap.size,4,none⟩)) rfl (by kernel_rfl) (by kernel_rfl) (by kernel_rfl) (λ_ _ _ h=>h) (Or.inl ⟨by rfl,?_⟩) (by assumption) ?_
 .intro w aw
  (try dsimp only at aw)
  go_simp
 try simp only [Act.put,List.setIfInBounds_toArray,List.set_cons_zero,List.set_cons_succ]
 refine wpAnyH_take (i:=6) (oi:={dst:=some 35,op:=Op.load 44 (Operand.tmp 34),type:=44,pos:= "exact.go:156",after:= #[{on:=5,ground:=Ground.data}],guard:=none}) (v:= .slice da dn dc) rfl (by kernel_rfl) (by kernel_rfl) (by kernel_rfl) (λ_ _ _ h=>h) (Or.inl ⟨by rfl,?_⟩) (by assumption) ?_
 .intro w aw
  (try dsimp only at aw)
  go_simp
 try simp only [Act.put,List.setIfInBounds_toArray,List.set_cons_zero,List.set_cons_succ]
 refine wpAnyH_ready (rs:= [7]) (by kernel_rfl) (by simp) ?_;refine AllReadyH.cons (o:={dst:=some 36,op:=Op.call {callee:=Callee.value (Operand.func 83),args:= #[Operand.tmp 35],argTypes:= #[44]},type:=44,pos:= "exact.go:156",after:= #[{on:=6,ground:=Ground.data}],guard:=none}) rfl (λK hK=>?_) AllReadyH.nil;go_simp;refine(m9 (c:=dc) (Pf.o _ (ad.ag _ (D6.o.trans (JM.o.mono D6.o.size)))) GV).mono ?_;rintro e w1 ⟨gp,cp,rfl,hgp,Zg,aq⟩;have aH:Below (w.alloc (aY 10 N who two da dn dc)).heap.size (w.alloc (aY 10 N who two da dn dc)) w1:=JM.o.trans (aq.mono JM.o.size);refine hK.out _ _ ?_ (λaC=>?_)
 .exact H6.o _ aH
 clear hK K;try simp only [Act.put,List.setIfInBounds_toArray,List.set_cons_zero,List.set_cons_succ]
 refine wpAnyH_ready (rs:= [8]) (by kernel_rfl) (by simp) ?_;refine AllReadyH.cons (o:={dst:=some 37,op:=Op.call {callee:=Callee.value (Operand.func 63),args:= #[Operand.tmp 32,Operand.tmp 33,Operand.tmp 36],argTypes:= #[57,3,44]},type:=39,pos:= "exact.go:156",after:= #[{on:=3,ground:=Ground.data},{on:=4,ground:=Ground.data},{on:=7,ground:=Ground.data},{on:=7,ground:=Ground.chain}],guard:=none}) rfl (λK hK=>?_) AllReadyH.nil;go_simp;have cI:=Pk.o.later aH;have hsp:Src w1 (some ⟨gp,0,none⟩) 512 (nH dl):=by have h9:=Zg.src;rw [gL] at h9;exact h9
 have kp:=Ag cI.x.st cI.x.tx (b:Int) (some ⟨gp,0,none⟩) 512 cp (nH dl) hsp (by omega) (kR ey) cI.x.Ue;rw [MC.o,HbI.o] at kp;refine kp.mono ?_;intro e w2 hP;have Zh:=hP.1;subst Zh;have dV:TX w2 F p s (cR+1) q l m t n S G T1/\ad (cq F t n) w1 w2:=by
  have h9:=cI.x.put (b:=(b:Int)) (d:=nH dl) (by rw [MC.o];exact hP);rw [MC.o] at h9;exact h9
 have aK:ad (λj=>cq F t n j\/X j) w w2:=((ad.ag _ D6.o).trans (ad.ag (λ_=>False) aH) (λ_ h=>h.elim)).trans (dV.2.mono (λ_ h=> .inl h)) (λ_ h=> .inl h);have eB:=HR.o.after (Y:=X) dV.1 (HR.o.mm.apart (((ad.ag (cq F t n) D6.o).trans (ad.ag (λ_=>False) aH) (λ_ h=>h.elim)).trans dV.2 (λ_ h=> .inl h)) (λj e hx=>HR.o.qA j hx e)) aK (λ_ h=> .inl h);have qC:w2.cell? ⟨pa,0,none⟩=some (.pointer (some ⟨t,0,none⟩))/\w2.cell? ⟨w.heap.size,4,none⟩=some (.slice da dn dc):=by
  refine⟨((Zf.o.later aH).ak dV.2).c0,?_⟩;have z1:w.heap.size<w1.heap.size:=Nat.lt_of_lt_of_le (af ym.o) aH.size;exact aa ((dV.2.block _ z1 (λe=>by have:=cI.x.low;have:=yH.o;exact this e)).trans ((aH.block _ (af ym.o)).trans ym.o)) (j:=4) rfl
 have H2:=yh (And.intro eB (And.intro aK qC.2));clear kp hP dV aK eB cI hsp Zg aq;refine hK.out _ _ ?_ (λaC=>?_)
 .exact qC
 clear hK K;try simp only
 refine wpAnyH_ready (rs:= [9]) (by kernel_rfl) (by simp) ?_;refine AllReadyH.cons (o:={dst:=some 8,op:=Op.assign (Operand.tmp 37),type:=39,pos:= "exact.go:156",after:= #[{on:=8,ground:=Ground.data},{on:=8,ground:=Ground.chain},{on:=0,ground:=Ground.phase},{on:=1,ground:=Ground.phase},{on:=2,ground:=Ground.phase},{on:=3,ground:=Ground.phase},{on:=4,ground:=Ground.phase},{on:=5,ground:=Ground.phase},{on:=6,ground:=Ground.phase},{on:=7,ground:=Ground.phase},{on:=8,ground:=Ground.phase}],guard:=none}) rfl (λK hK=>?_) AllReadyH.nil;go_simp;refine hK.out _ _ ?_ (λaC=>?_)
 .exact qC
 clear hK K;try simp only [Act.put,List.setIfInBounds_toArray,List.set_cons_zero,List.set_cons_succ]
 refine wpAnyH_done (by kernel_rfl) ?_ _;clear aC g0 g1 ce cb;have nU:Yh (Below w2.heap.size w2 w2.drew):=(ad.drew (λ_=>False) w2).below (λ_ h=>h.elim) (Nat.le_refl _);have H7:Yh (∀w',Below w2.heap.size w2 w'->w'.cell? ⟨kr,4,none⟩=some (.pointer (some ⟨k,0,none⟩))/\w'.cell? ⟨w.heap.size,4,none⟩=some (.slice da dn dc)):=λw' hw=>⟨cell_later hw (aa H2.o.1.b (j:=4) rfl),cell_later hw H2.o.2.2⟩;clear qC;go_wp2_with fail;refine wp_region_held_drew (S:=(λw'=>w'.cell? ⟨kr,4,none⟩=some (.pointer (some ⟨k,0,none⟩))/\w'.cell? ⟨w.heap.size,4,none⟩=some (.slice da dn dc))) (by kernel_rfl) (H7.o _ nU.o) (λaC=>?_);refine wpAnyH_take (i:=0) (oi:={dst:=some 38,op:=Op.move (Operand.tmp 0),type:=28,pos:= "exact.go:157",after:= #[],guard:=none}) (v:= .pointer (some ⟨kr,0,none⟩)) rfl (by kernel_rfl) (by kernel_rfl) (by kernel_rfl) (λ_ _ _ h=>h) (Or.inl ⟨by rfl,?_⟩) (by assumption) ?_
 .intro w aw
  (try dsimp only at aw)
  go_simp
 try simp only [Act.put,List.setIfInBounds_toArray,List.set_cons_zero,List.set_cons_succ]
 refine wpAnyH_take (i:=1) (oi:={dst:=some 39,op:=Op.nilCheck (Operand.tmp 38),type:=0,pos:= "exact.go:157",after:= #[{on:=0,ground:=Ground.data}],guard:=none}) (v:= .pointer (some ⟨kr,0,none⟩)) rfl (by kernel_rfl) (by kernel_rfl) (by kernel_rfl) (λ_ _ _ h=>h) (Or.inl ⟨by rfl,?_⟩) (by assumption) ?_
 .intro w aw
  (try dsimp only at aw)
  go_simp
 try simp only [Act.put,List.setIfInBounds_toArray,List.set_cons_zero,List.set_cons_succ]
 refine wpAnyH_take (i:=2) (oi:={dst:=some 40,op:=Op.fieldAddr 38 (Operand.tmp 39) 4,type:=0,pos:= "exact.go:157",after:= #[{on:=1,ground:=Ground.data}],guard:=none}) (v:= .pointer (some ⟨kr,4,none⟩)) rfl (by kernel_rfl) (by kernel_rfl) (by kernel_rfl) (λ_ _ _ h=>h) (Or.inl ⟨by rfl,?_⟩) (by assumption) ?_
 .intro w aw
  (try dsimp only at aw)
  go_simp
 try simp only [Act.put,List.setIfInBounds_toArray,List.set_cons_zero,List.set_cons_succ]
 refine wpAnyH_take (i:=3) (oi:={dst:=some 41,op:=Op.load 36 (Operand.tmp 40),type:=36,pos:= "exact.go:157",after:= #[{on:=2,ground:=Ground.data}],guard:=none}) (v:= .pointer (some ⟨k,0,none⟩)) rfl (by kernel_rfl) (by kernel_rfl) (by kernel_rfl) (λ_ _ _ h=>h) (Or.inl ⟨by rfl,?_⟩) (by assumption) ?_
 .intro w aw
  (try dsimp only at aw)
  go_simp
 try simp only [Act.put,List.setIfInBounds_toArray,List.set_cons_zero,List.set_cons_succ]
 refine wpAnyH_take (i:=4) (oi:={dst:=some 42,op:=Op.move (Operand.tmp 7),type:=3,pos:= "exact.go:157",after:= #[],guard:=none}) (v:= .int .i64 (2+(y:Int))) rfl (by kernel_rfl) (by kernel_rfl) (by kernel_rfl) (λ_ _ _ h=>h) (Or.inl ⟨by rfl,?_⟩) (by assumption) ?_
 .intro w aw
  (try dsimp only at aw)
  go_simp
 try simp only [Act.put,List.setIfInBounds_toArray,List.set_cons_zero,List.set_cons_succ]
 refine wpAnyH_take (i:=5) (oi:={dst:=some 43,op:=Op.fieldAddr 46 (Operand.tmp 5) 4,type:=0,pos:= "exact.go:157",after:= #[],guard:=none}) (v:= .pointer (some ⟨w.heap.size,4,none⟩)) rfl (by kernel_rfl) (by kernel_rfl) (by kernel_rfl) (λ_ _ _ h=>h) (Or.inl ⟨by rfl,?_⟩) (by assumption) ?_
 .intro w aw
  (try dsimp only at aw)
  go_simp
 try simp only [Act.put,List.setIfInBounds_toArray,List.set_cons_zero,List.set_cons_succ]
 refine wpAnyH_take (i:=6) (oi:={dst:=some 44,op:=Op.load 44 (Operand.tmp 43),type:=44,pos:= "exact.go:157",after:= #[{on:=5,ground:=Ground.data}],guard:=none}) (v:= .slice da dn dc) rfl (by kernel_rfl) (by kernel_rfl) (by kernel_rfl) (λ_ _ _ h=>h) (Or.inl ⟨by rfl,?_⟩) (by assumption) ?_
 .intro w aw
  (try dsimp only at aw)
  go_simp
 try simp only [Act.put,List.setIfInBounds_toArray,List.set_cons_zero,List.set_cons_succ]
 refine wpAnyH_ready (rs:= [7]) (by kernel_rfl) (by simp) ?_;refine AllReadyH.cons (o:={dst:=some 45,op:=Op.call {callee:=Callee.value (Operand.func 83),args:= #[Operand.tmp 44],argTypes:= #[44]},type:=44,pos:= "exact.go:157",after:= #[{on:=6,ground:=Ground.data}],guard:=none}) rfl (λK hK=>?_) AllReadyH.nil;go_simp;refine(m9 (c:=dc) (Pf.o _ (H2.o.2.1.trans (ad.ag (λ_=>False) nU.o) (λ_ h=>h.elim))) GV).mono ?_;rintro e w3 ⟨gp3,cp3,rfl,adA,KF,bH⟩;have gP:Below w2.heap.size w2 w3:=nU.o.trans (bH.mono nU.o.size);refine hK.out _ _ ?_ (λaC=>?_)
 .exact H7.o _ gP
 clear hK K;try simp only [Act.put,List.setIfInBounds_toArray,List.set_cons_zero,List.set_cons_succ]
 refine wpAnyH_ready (rs:= [8]) (by kernel_rfl) (by simp) ?_;refine AllReadyH.cons (o:={dst:=some 46,op:=Op.call {callee:=Callee.value (Operand.func 84),args:= #[Operand.tmp 41,Operand.tmp 42,Operand.tmp 45],argTypes:= #[36,3,44]},type:=3,pos:= "exact.go:157",after:= #[{on:=3,ground:=Ground.data},{on:=4,ground:=Ground.data},{on:=7,ground:=Ground.data},{on:=7,ground:=Ground.chain}],guard:=none}) rfl (λK hK=>?_) AllReadyH.nil;go_simp;have rQ:=H2.o.1.later gP;have adF:¬X gp3:=λe=>by have h1:=H2.o.1.xl _ e;have h2:=nU.o.size;omega
 have rL:=HC.o.1.SE aG kj;have km:=KH rQ.mm HC.o.1.op HC.o.1.DD KF adF (kR ey) (gL dl) b aG (by rw [HC.o.1.rl];exact kj) (by rw [rL];exact HR.o.x.bytes b) (by rw [rL];exact HR.o.x.len b kj);rw [HQ2.o,HbI.o] at km;refine km.mono ?_;rintro e w4 ⟨rfl,wK,dF⟩;have HE:Yh (∃X' T' M' c',jY w4 F X' kr p s c' q l m t n a1 a2 k S G T' M'/\LK G S T' M'/\ad (λj=>cq F t n j\/X j) w w4/\(∀j,X' j->X j\/(w.heap.size<=j/\j<w4.heap.size))):=by
  have z2:=H2.o.2.1.size;have z3:=gP.size;have z5:=nU.o.size;have z4:=dF.size;have xA:gp3<w3.heap.size:=KF.lt;have Zm:ad (λj=>cq F t n j\/X j) w2 w4:=(ad.ag _ gP).trans (dF.mono (λ_ h=> .inr h)) (λ_ h=> .inl h);refine⟨_,T1,M1,_,H2.o.1.after (rQ.x.apart dF (λj hj=>?_)) wK Zm (λj hj=>?_),HC.o.2,H2.o.2.1.trans Zm (λ_ h=> .inl h),λj hj=>?_⟩
  .have h9:=rQ.xa j hj;exact⟨h9.1,h9.2.1,h9.2.2.1,h9.2.2.2.1,h9.2.2.2.2.1,h9.2.2.2.2.2.1⟩
  .rcases hj with hj|hj|hj
   .exact .inl hj
   .exact .inr ⟨by omega,by omega⟩
   .exact .inr ⟨by omega,hj.2⟩
  .rcases hj with hj|hj|hj
   .exact .inl hj
   .exact .inr ⟨by omega,by omega⟩
   .exact .inr ⟨by omega,hj.2⟩
 have Gh:w4.cell? ⟨kr,4,none⟩=some (.pointer (some ⟨k,0,none⟩))/\w4.cell? ⟨w.heap.size,4,none⟩=some (.slice da dn dc):=by
  have h9:=H7.o _ gP;have z4:w.heap.size<w3.heap.size:=Nat.lt_of_lt_of_le (World.block_lt_of_cell? _ _ H2.o.2.2) gP.size;exact⟨(World.cell?_of_block (w:=w3) (a:=⟨kr,4,none⟩) (dF.block kr (af rQ.b) (λe=>(rQ.xa kr e).2.2.2.2.2.2.1 rfl))).trans h9.1,(World.cell?_of_block (w:=w3) (a:=⟨w.heap.size,4,none⟩) (dF.block _ z4 (λe=>Nat.lt_irrefl _ (HR.o.xl _ e)))).trans h9.2⟩
 clear km wK dF rQ KF bH;refine hK.out _ _ ?_ (λaC=>?_)
 .exact Gh
 clear hK K;try simp only
 refine wpAnyH_ready (rs:= [9]) (by kernel_rfl) (by simp) ?_;refine AllReadyH.cons (o:={dst:=some 9,op:=Op.assign (Operand.tmp 46),type:=3,pos:= "exact.go:157",after:= #[{on:=8,ground:=Ground.data},{on:=8,ground:=Ground.chain},{on:=0,ground:=Ground.phase},{on:=1,ground:=Ground.phase},{on:=2,ground:=Ground.phase},{on:=3,ground:=Ground.phase},{on:=4,ground:=Ground.phase},{on:=5,ground:=Ground.phase},{on:=6,ground:=Ground.phase},{on:=7,ground:=Ground.phase},{on:=8,ground:=Ground.phase}],guard:=none}) rfl (λK hK=>?_) AllReadyH.nil;go_simp;refine hK.out _ _ ?_ (λaC=>?_)
 .exact Gh
 clear hK K;try simp only [Act.put,List.setIfInBounds_toArray,List.set_cons_zero,List.set_cons_succ]
 refine wpAnyH_done (by kernel_rfl) ?_ _;clear aC Gh;have kn:=bF zz w4;go_wp2_with fail;refine kn.mono ?_;rintro e wx ⟨rfl,cU⟩;have bR:=cU.symm;subst bR;clear cU kn;go_wp2;go_ret;exact⟨rfl,HE.o⟩
theorem KI (h:jY w F X kr p s cR q l m t n a1 a2 k S G T M) (hc:LK G S T M) (hN:nN N) (kj:¬2+iz N 0 29<G.y.blocks):
  Calls prog 38 #[.pointer (some ⟨kr,0,none⟩), .pointer (some ⟨pa,0,none⟩),rM 10 N who two da dn dc] w λe w'=>lc w w' F X kr p s q l m t n a1 a2 k S G e:=by
 have fD:=an w (aY 10 N who two da dn dc);have bw:=heap_alloc_new w (aY 10 N who two da dn dc);have g0:(w.alloc (aY 10 N who two da dn dc)).cell? ⟨w.heap.size,0,none⟩=some (.int .i64 10):=aa bw (j:=0) rfl;have g1:(w.alloc (aY 10 N who two da dn dc)).cell? ⟨w.heap.size,1,none⟩=some (.int .i64 N):=aa bw (j:=1) rfl;have h0:=h.later fD;have ce:(w.alloc (aY 10 N who two da dn dc)).cell? ⟨kr,4,none⟩=some (.pointer (some ⟨k,0,none⟩)):=aa h0.b (j:=4) rfl;have cb:(w.alloc (aY 10 N who two da dn dc)).cell? ⟨k,0,none⟩=some (.int .i64 (M.blocks:Int)):=by
  obtain⟨SA,Pt,Rl,Rm,OD,OE,OF,OG,v5,v6,v7,nz⟩:=h0.mm;exact aa nz.b (j:=0) rfl
 have SC:=fT N 0 29 (by omega) (by omega) ⟨hN.1,hN.2⟩ (w.alloc (aY 10 N who two da dn dc));have Sk:=(jX N (lo:=0) (hi:=29) (by omega)).2;generalize iz N 0 29=y at*;have Ze:(M.blocks:Int)<=2+(y:Int):=by have h9:M.blocks=G.y.blocks:=hc.mb;omega
 have HE:Yh (lc w (w.alloc (aY 10 N who two da dn dc)) F X kr p s q l m t n a1 a2 k S G (.returned (.bool true))):=⟨rfl,X,T,M,_,h0,hc,ad.ag _ fD,λ_ h=> .inl h⟩;clear h hc fD bw h0 kj;go_enter func38,ntmps38;go_wp2_with fail;refine SC.mono ?_;rintro e wx ⟨rfl,cU⟩;subst cU;clear SC;go_wp2;go_ret;exact HE.o
end
end
section
def MP.bi (M:MP):Int×MP:=if M.state≠0 then (M.state,M) else (0,{M with ob:=M.nb,on:=M.nn,eI:=M.raw,opn:=false})
section
variable {w w':World} {X Y Z:Nat->Prop} {k:Nat} {M:MP}
theorem tL (h:MX w X k M) (hX:∀j,X j->j<w.heap.size):Calls prog 80 #[.pointer (some ⟨k,0,none⟩)] w λe w'=>e= .returned (.int .i64 M.bi.1)/\MX w' (more X w w') k M.bi.2/\ad X w w':=by
 have ks:=de h;by_cases h0:M.state=0
 .rw [h0] at ks;have HE:Yh (M.bi=(0,{M with ob:=M.nb,on:=M.nn,eI:=M.raw,opn:=false})):=by show M.bi=_;unfold MP.bi;rw [if_neg (λe=>e h0)]
  obtain⟨g1,c1,g2,c2,g3,c3,g4,c4,v5,v6,v7,h⟩:=h;obtain⟨a6,c6,hv6⟩:=h.raw.form;subst hv6;have k1:=yJ h.nb.2.1 h.nn.2.1 h.nb.2.2 h.nn.2.2;obtain⟨e3,e4,e5,e6,e7,e8,e9⟩:=vK h.b;have H:=yh h;have HX:=yh hX;have vo:=af h.b;clear h h0 hX;go_enter func80,ntmps80;go_wp2_with fail;refine ks.mono ?_;rintro e w0 ⟨rfl,dm⟩;have cd:=dm.symm;subst cd;clear dm ks;go_wp2_with fail;refine k1.mono ?_;rintro e w1 ⟨u1,u2,d1,d2,rfl,hu1,hu2,UI,cI,eB,aq⟩;have ia:=(aq.block _ vo).trans H.o.b;obtain⟨i3,i4,i5,i6,i7,i8,i9⟩:=vK ia;have f3:=ae ia 3;have f4:=ae ia 4;have f7:=ae ia 7;have f11:=ae ia 11;have i11:w1.cell? ⟨k,11,none⟩=some (.bool M.opn):=aa ia (j:=11) rfl;have eR:=aq.size;obtain⟨w2,ed⟩:∃w2,w2=(((w1.setCell ⟨k,3,none⟩ (bt u1 d1)).setCell ⟨k,4,none⟩ (bt u2 d2)).setCell ⟨k,7,none⟩ (.slice a6 M.raw.length c6)).setCell ⟨k,11,none⟩ (.bool false):=⟨_,rfl⟩;have m1:=(heap_setCell_same w1 k 3 _ _ (bt u1 d1) ia).trans (by rfl:_=some (.cells (tY M (bt u1 d1) (bt g2 c2) (bt g3 c3) (bt g4 c4) v5 (.slice a6 M.raw.length c6) v7) 72 (0,0)));have m2:=(heap_setCell_same _ k 4 _ _ (bt u2 d2) m1).trans (by rfl:_=some (.cells (tY M (bt u1 d1) (bt u2 d2) (bt g3 c3) (bt g4 c4) v5 (.slice a6 M.raw.length c6) v7) 72 (0,0)));have m3:=(heap_setCell_same _ k 7 _ _ (.slice a6 M.raw.length c6) m2).trans (by rfl:_=some (.cells (tY M (bt u1 d1) (bt u2 d2) (bt g3 c3) (bt g4 c4) (.slice a6 M.raw.length c6) (.slice a6 M.raw.length c6) v7) 72 (0,0)));have m4:=(heap_setCell_same _ k 11 _ _ (.bool false) m3).trans (by rfl:_=some (.cells (tY {M with ob:=M.nb,on:=M.nn,eI:=M.raw,opn:=false} (bt u1 d1) (bt u2 d2) (bt g3 c3) (bt g4 c4) (.slice a6 M.raw.length c6) (.slice a6 M.raw.length c6) v7) 72 (0,0)));rw [<-ed] at m4;have pR:ad (λj=>j=k) w1 w2:=by
   rw [ed];exact(((ad.setCell (F:=λj=>j=k) w1 (p:=⟨k,3,none⟩) rfl _).trans (ad.setCell (F:=λj=>j=k) _ (p:=⟨k,4,none⟩) rfl _) (λ_ h=> .inl h)).trans (ad.setCell (F:=λj=>j=k) _ (p:=⟨k,7,none⟩) rfl _) (λ_ h=> .inl h)).trans (ad.setCell (F:=λj=>j=k) _ (p:=⟨k,11,none⟩) rfl _) (λ_ h=> .inl h)
  have Fy:∀q,q=k->∃cur t fz,w1.heap[q]? =some (.cells cur t fz)/\t≠4:=λq hq=>by subst hq;exact⟨_,_,_,ia,by decide⟩
  have Pi:∀q,q=k->∃cur t fz,w1.heap[q]? =some (.cells cur t fz)/\t≠5/\t≠44:=λq hq=>by subst hq;exact⟨_,_,_,ia,by decide,by decide⟩
  have hzk:=pR.size;have hA:MX w2 (more X w w2) k {M with ob:=M.nb,on:=M.nn,eI:=M.raw,opn:=false}:=by
   have bH:BX w1 X g3 c3 M.nb:=⟨H.o.nb.1,H.o.nb.2.1.agree (aq.block _ H.o.nb.2.1.lt),H.o.nb.2.2⟩;have eK:BX w1 X g4 c4 M.nn:=⟨H.o.nn.1,H.o.nn.2.1.agree (aq.block _ H.o.nn.2.1.lt),H.o.nn.2.2⟩;have Gr:nG w2 X (.slice a6 M.raw.length c6) M.raw:=(H.o.raw.later aq).ak pR Pi;have l3:=H.o.nb.2.1.lt;have l4:=H.o.nn.2.1.lt;have oU:IL w1 X v7 M.put:=IL.later ⟨H.o.put.1,H.o.put.2⟩ aq;have iW:=oU.ak pR (λg hg e=>by
    obtain⟨cur,hc⟩:=ay oU.own hg;rw [e,ia] at hc;cases hc)
   have ai9:=cI.lt;have aja:=eB.lt;exact⟨u1,d1,u2,d2,g3,c3,g4,c4,_,_,v7,⟨m4, .inl H.o.xk,⟨.inr ⟨hu1,by omega⟩,cI.dP pR Fy,H.o.nb.2.2⟩,⟨.inr ⟨hu2,by omega⟩,eB.dP pR Fy,H.o.nn.2.2⟩,⟨.inl bH.1,bH.2.1.dP pR Fy,bH.2.2⟩,⟨.inl eK.1,eK.2.1.dP pR Fy,eK.2.2⟩,UI,by omega,by omega,by omega,by omega,H.o.NS,Gr.mono (λ_ h=> .inl h),Gr.mono (λ_ h=> .inl h),⟨iW.own,λg hg=> .inl (iW.x g hg)⟩,λe=>by cases e⟩⟩
  have HA:Yh (MX w2 (more X w w2) k {M with ob:=M.nb,on:=M.nn,eI:=M.raw,opn:=false}/\ad X w w2):=⟨hA,(ad.ag _ aq).trans (pR.mono (λj hj=>by rw [hj];exact H.o.xk)) (λ_ h=> .inl h)⟩;clear k1 e3 e4 e5 e6 e7 e8 e9 aq cI eB pR m1 m2 m3 m4 ia Fy Pi hA;go_wp2;go_ret;rw [HE.o]
  dsimp only [bt] at ed
  rw [ed] at HA;exact⟨rfl,HA.o.1,HA.o.2⟩
 .have HE:Yh (M.bi=(M.state,M)):=by show M.bi=_;unfold MP.bi;rw [if_pos h0]
  have H:=yh h;clear h hX;obtain⟨y,hy⟩:∃y,y=M.state:=⟨_,rfl⟩;rw [<-hy] at ks h0 HE;have d0:(y == 0)=false:=by rw [beq_eq_false_iff_ne];exact h0
  clear h0 hy;go_enter func80,ntmps80;go_wp2_with fail;refine ks.mono ?_;rintro e w0 ⟨rfl,dm⟩;have cd:=dm.symm;subst cd;clear dm ks;go_wp2;go_ret;rw [HE.o];exact⟨rfl,H.o.mono (λ_ h=> .inl h),ad.refl _ _⟩
end
section
variable {w w':World} {F X Y Z:Nat->Prop} {p s cR q l m t n N:Nat} {S:DS} {G:SG} {T:TG} {M:MP}
theorem TX.Rt (h:TX w F p s cR q l m t n S G T):∀x∈T.puts,x.1<G.y.blocks/\x.2.length=512/\Bytes x.2:=λx hx=>⟨h.tx.kb x hx,(h.tx.ch.len x hx).2.1,(h.tx.ch.len x hx).2.2⟩
theorem TX.bi (h:TX w F p s cR q l m t n S G T) (ly:pf S s G N) (hN:N+17<=1073741824) (h0:T.state G S=0) (rV:T.puts.length<=16):∃S' G',pf S' s G' (N+17)/\G'.y=G.y/\(∀b,b<G.y.blocks->G'.block S' b=T.bq G S b)/\Calls prog 79 #[.pointer (some ⟨t,0,none⟩)] w λe w'=>e= .returned (.int .i64 0)/\TX w' (more F w w') p s (cR+40) q l m t n S' {G' with busy:=false} T.close/\ad (λk=>F k\/k=l\/k=m\/k=t\/k=n\/k=q) w w':=by
 obtain⟨S',G',a1,a2,a3,a4⟩:=ly.bi hN h0 h.tx.ch.ok rV h.Rt;have k:=vu h.st h.tx rV h.jl (by have:=h.pu;omega);rw [a1] at k;refine⟨S',G',a2,a3,a4,k.mono ?_⟩;rintro e w' ⟨he,⟨h1,h2⟩,h3⟩;obtain⟨t',_,hi⟩:=a2.iv;exact⟨he,⟨h1,h2,hi.jl,hi.p6,by show CJ G'.y;rw [a3];exact h.yk⟩,h3⟩
theorem TX.KJ (h:TX w F p s cR q l m t n S G T) (h0:T.state G S≠0) (rV:T.puts.length<=16):Calls prog 79 #[.pointer (some ⟨t,0,none⟩)] w λe w'=>e= .returned (.int .i64 (T.state G S))/\TX w' (more F w w') p s (cR+40) q l m t n S G T/\ad (λk=>F k\/k=l\/k=m\/k=t\/k=n\/k=q) w w':=by
 have ha:T.bi G S s=(T.state G S,S,G,T):=by unfold TG.bi;rw [if_pos h0]
 have k:=vu h.st h.tx rV h.jl (by have:=h.pu;omega);rw [ha] at k;refine k.mono ?_;rintro e w' ⟨he,⟨h1,h2⟩,h3⟩;exact⟨he,⟨h1,h2,h.jl,h.pu,h.yk⟩,h3⟩
theorem LK.bi {S':DS} {G':SG} (h:LK G S T M) (hy:G'.y=G.y) (qd:G'.L.dead S'=M.dead) (h2:2<=G.y.blocks) (hb:∀b,b<G.y.blocks->G'.block S' b=T.bq G S b):LK {G' with busy:=true} S' ⟨[],0,false⟩ ({M with ob:=M.nb,on:=M.nn,eI:=M.raw,opn:=false}:MP).begun:=by
 have e0:G'.block S' 0=dB M.nb:=(hb 0 (by omega)).trans h.s0;have e1:G'.block S' 1=dB M.nn:=(hb 1 (by omega)).trans h.s1;have eo:∀b,2<=b->b<G'.y.blocks->M.raw[b]? =some (G'.block S' b):=λb g1 g2=>by rw [hy] at g2;rw [hb b g2];exact h.so b g1 g2
 exact⟨rfl,rfl,rfl,qd,λb=>⟨(λe=>by cases e),(λe=>by cases e)⟩,List.nodup_nil,Nat.zero_le _,e0,e1,eo,by show M.blocks=G'.y.blocks;rw [hy];exact h.mb,by show M.nodes=G'.y.nodes;rw [hy];exact h.mn,by show M.raw.length=G'.y.blocks;rw [hy];exact h.rl,h.l0,h.l1,e0,e1,eo,by show M.raw.length=G'.y.blocks;rw [hy];exact h.rl,h.l0,h.l1⟩
end
end
section
section
variable {w w':World} {F F' X Y Z:Nat->Prop} {kr p s cR c' q l m t n a a1 a2 k pa N:Nat} {S S':DS} {G G':SG} {T T':TG} {M M':MP}
def xq (w w':World) (F X:Nat->Prop) (kr p s q l m t n a1 a2 k N:Nat) (y:LY) (e:Ending):Prop:=
 e= .returned (.bool true)/\∃F' X' S' G' T' M' c' t' n' b1 b2,jY w' F' X' kr p s c' q l m t' n' b1 b2 k S' G' T' M'/\LK G' S' T' M'/\Dv S' s G' N/\G'.y=y/\(∀j,(F' j\/X' j\/j=t'\/j=n'\/j=b1\/j=b2)->(cq F t n j\/X j\/j=a1\/j=a2)\/w.heap.size<=j)/\ad (λj=>cq F t n j\/j=q\/j=l\/j=m\/j=kr\/X j) w w'
theorem KK {w:World} {m:Nat} {ms:CM} (h:Ch w m ms) {cur:Array Value} {ty:TypeId} {fz:Nat×Nat} (h2:w.heap[m]? =some (.cells cur ty fz)):False:=by
 obtain⟨D,hD⟩:=h;have h9:=hD.own;unfold World.ownsMap at h9;simp [h2] at h9
theorem jY.Va (h:jY w F X kr p s cR q l m t n a1 a2 k S G T M):(¬(F kr\/kr=l\/kr=m\/kr=t\/kr=n\/kr=q))/\(∀a,ar w F a t n->¬(F a\/a=l\/a=m\/a=t\/a=n\/a=q))/\(∀j,X j->¬(F j\/j=l\/j=m\/j=t\/j=n\/j=q)):=by
 refine⟨λe=>?_,λa ha e=>?_,λj hj e=>?_⟩
 .have h9:=h.nk;rcases e with e|e|e|e|e|e
  .exact h9.1 e
  .exact h9.2.2.1 e
  .exact h9.2.2.2.1 e
  .exact h9.2.2.2.2.1 e
  .exact h9.2.2.2.2.2 e
  .exact h9.2.1 e
 .rcases e with e|e|e|e|e|e
  .exact ha.nf (.inl e)
  .exact fH (e▸ha.b) h.x.st.lp (by decide)
  .exact KK h.x.st.ch (e▸ha.b)
  .exact ha.nf (.inr (.inl e))
  .exact ha.nf (.inr (.inr e))
  .exact fH (e▸ha.b) h.x.st.st (by decide)
 .have h9:=h.xa j hj;rcases e with e|e|e|e|e|e
  .exact h9.1 e
  .exact h9.2.2.1 e
  .exact h9.2.2.2.1 e
  .exact h9.2.2.2.2.1 e
  .exact h9.2.2.2.2.2.1 e
  .exact h9.2.1 e
theorem jY.q6 {c2:Nat} (h:jY w F X kr p s cR q l m t n a1 a2 k S G T M) (hx:TX w' (more F w w') p s c2 q l m t n S' G' T') (hk:ad (λj=>F j\/j=l\/j=m\/j=t\/j=n\/j=q) w w'):jY w' (more F w w') X kr p s c2 q l m t n a1 a2 k S' G' T' M:=by
 obtain⟨z1,z2,z3⟩:=h.Va;exact h.Iv hx (h.mm.apart hk (λj e hj=>z3 j hj e)) hk z1 (z2 a1 h.p1) (z2 a2 h.p2) (λj hj=>hj.imp (λe=>e) (λe=>e.1)) (λj hj=> .inl hj) (λj hj e=>by
  rcases e with e|e
  .exact(h.xa j hj).1 e
  .have:=h.xl j hj;omega)
theorem OP (h:jY w F X kr p s cR q l m t n a1 a2 k S G T M) (hc:LK G S T M) (ly:pf S s G N) (hN:N+17<=1073741824) (h0:M.state=0) (gh:ar w F pa t n) (U6:pa=a1\/pa=a2):
  Calls prog 37 #[.pointer (some ⟨kr,0,none⟩), .pointer (some ⟨pa,0,none⟩), .int .i64 8] w λe w'=>xq w w' F X kr p s q l m t n a1 a2 k (N+17) G.y e:=by
 have qd:M.dead=false:=hc.dd.symm.trans ly.dead;have pA:M.bi=(0,{M with ob:=M.nb,on:=M.nn,eI:=M.raw,opn:=false}):=by unfold MP.bi;rw [if_neg (λe=>e h0)]
 have rV:T.puts.length<=16:=by rw [hc.len h.x.tx.ch.ok];exact hc.le
 obtain⟨S',G',Ru,hy',fU,k1⟩:=h.x.bi ly hN (hc.state.trans h0) rV;have sX:=hc.bi hy' (Ru.dead.trans qd.symm) h.x.yk.b2 fU;have h4:T.close.state {G' with busy:=false} S'=4:=by
  have hl:G'.L.dead S'=false:=Ru.dead;unfold TG.state TG.dM;show (if (if G'.L.dead S'=true then (3:Int) else if true=true then 4 else 0)≠0 then (if G'.L.dead S'=true then (3:Int) else if true=true then 4 else 0) else _)=4;rw [hl];rfl
 have c0:=gh.c0;have H:=yh h;have HC:=yh (And.intro hc qd);have HCa:=yh (And.intro Ru (And.intro hy' sX));have HP:=yh gh;have U7:=yh pA;have H4:=yh h4;clear h hc qd gh pA h4 ly Ru hy' fU sX h0 rV hN;go_enter func37,ntmps37;go_wp2_with fail;refine k1.mono ?_;rintro e w1 ⟨rfl,dj,bo⟩;have cI:=H.o.q6 dj bo;have ce:w1.cell? ⟨kr,4,none⟩=some (.pointer (some ⟨k,0,none⟩)):=aa cI.b (j:=4) rfl;have km:=tL cI.mm cI.xl;rw [U7.o] at km;have qV:Yh (ad (λj=>cq F t n j\/j=q\/j=l\/j=m\/j=kr\/X j) w w1):=bo.mono (λj e=>by
  rcases e with e|e|e|e|e|e
  .exact .inl (.inl e)
  .exact .inr (.inr (.inl e))
  .exact .inr (.inr (.inr (.inl e)))
  .exact .inl (.inr (.inl e))
  .exact .inl (.inr (.inr e))
  .exact .inr (.inl e))
 have H1:=yh cI;have HZ1:Yh (w.heap.size<=w1.heap.size):=bo.size;clear k1 dj bo cI c0;go_wp2_with fail;refine km.mono ?_;rintro e w2 ⟨rfl,fi,aK⟩;have eB:=H1.o.after (H1.o.x.apart aK (λj hj=>by
  have h9:=H1.o.xa j hj;exact⟨h9.1,h9.2.1,h9.2.2.1,h9.2.2.2.1,h9.2.2.2.2.1,h9.2.2.2.2.2.1⟩)) fi (aK.mono (λ_ h=> .inr h)) (λ_ h=>h)
 have ON:ar w2 (more F w w1) pa t n:=by
  rcases U6 with rfl|rfl
  .exact eB.p1
  .exact eB.p2
 have k8:Yh (ad (λj=>cq F t n j\/j=q\/j=l\/j=m\/j=kr\/X j) w w2):=qV.o.trans aK (λ_ h=> .inl (.inr (.inr (.inr (.inr (.inr h))))));have kn:=bF 0 w2;have H2:=yh eB;have xU:=yh ON;clear km fi aK eB ON ce qV H1;go_wp2_with fail;refine kn.mono ?_;rintro e wx ⟨rfl,cU⟩;have bR:=cU.symm;subst bR;clear cU kn;have c0:=xU.o.c0;have ks:=DJ H2.o.x H4.o;go_wp2_with fail;refine ks.mono ?_;rintro e w3 ⟨rfl,⟨d3,gy⟩,aR⟩;have kt:=DK gy (xU.o.ak aR) H4.o;have H3:=yh aR;clear ks gy aR c0;go_wp2_with fail;refine kt.mono ?_;rintro e w4 ⟨rfl,⟨d4,Ns⟩,dF⟩;have Gj:=H3.o.trans dF (λ_ h=> .inl h);have DQ:=DN Ns (xU.o.ak Gj) H4.o (-1);have H3:=yh Gj;clear kt Ns dF Gj;go_wp2_with fail;refine DQ.mono ?_;rintro e w5 ⟨rfl,⟨d5,rW⟩,cB⟩;have Gk:=H3.o.trans cB (λ_ h=> .inl h);have kt:=DO rW (xU.o.ak Gk) H4.o 0;have H3:=yh Gk;clear DQ rW cB Gk;go_wp2_with fail;refine kt.mono ?_;rintro e w6 ⟨rfl,⟨d6,Sg⟩,jP⟩;have Gl:=H3.o.trans jP (λ_ h=> .inl h);have DQ:=DM Sg (xU.o.ak Gl) H4.o;have H3:=yh Gl;clear kt Sg jP Gl;go_wp2_with fail;refine DQ.mono ?_;rintro e w7 ⟨rfl,⟨d7,SB⟩,iu⟩;have Gm:=H3.o.trans iu (λ_ h=> .inl h);have kt:=DP SB (xU.o.ak Gm) H4.o;have H3:=yh Gm;clear DQ SB iu Gm;go_wp2_with fail;refine kt.mono ?_;rintro e w8 ⟨rfl,⟨d8,Sy⟩,lN⟩;have Gn:=H3.o.trans lN (λ_ h=> .inl h);have DQ:=Iw Sy (xU.o.ak Gn) H4.o;have H3:=yh Gn;clear kt Sy lN Gn;go_wp2_with fail;refine DQ.mono ?_;rintro e w9 ⟨rfl,⟨d9,Sz⟩,Ew⟩;have AR:=H3.o.trans Ew (λ_ h=> .inl h);have h9:=H2.o.after (Y:=more X w1 w2) Sz (H2.o.mm.apart AR (λj ej hx=>H2.o.qA j hx ej)) (AR.mono (λ_ h=> .inl h)) (λ_ h=> .inl h);have kb:=qy h9.b h9.x.st rfl HCa.o.1.dead h9.x.jl h9.x.pu h9.x.yk h9.mm h9.xl (by have e1:=HC.o.1.rl;have e2:=H.o.x.yk.bl;show M.raw.length<=2048;rw [e1];exact e2) ⟨h9.nk.1,h9.nk.2.1,h9.nk.2.2.1,h9.nk.2.2.2.1⟩ (λj hj=>⟨(h9.xa j hj).1,(h9.xa j hj).2.1,(h9.xa j hj).2.2.1,(h9.xa j hj).2.2.2.1,(h9.xa j hj).2.2.2.2.2.2.1⟩);have Zj:Yh (ad (λj=>cq F t n j\/j=q\/j=l\/j=m\/j=kr\/X j) w w9):=k8.o.trans AR (λj h=>by
  rcases h with (h|h)|h
  .exact .inl (.inl (.inl h))
  .exact .inr h.1
  .exact .inl (.inl (.inr h)))
 have adH:Yh (∀j,more X w1 w2 j->X j\/w.heap.size<=j):=λj hj=>hj.imp (λe=>e) (λe=>by have:=HZ1.o;omega);have HX9:Yh (X k):=by obtain⟨_,_,_,_,_,_,_,_,_,_,_,nz⟩:=H.o.mm;exact nz.xk
 have kn:=bF 4 w9;clear DQ Sz Ew AR h9 H3 k8 H2;go_wp2_with fail;refine kn.mono ?_;rintro e wx ⟨rfl,cU⟩;have bR:=cU.symm;subst bR;clear cU;go_wp2_with fail;refine kn.mono ?_;rintro e wx ⟨rfl,cU⟩;have bR:=cU.symm;subst bR;clear cU;go_wp2_with fail;refine kn.mono ?_;rintro e wx ⟨rfl,cU⟩;have bR:=cU.symm;subst bR;clear cU;go_wp2_with fail;refine kn.mono ?_;rintro e wx ⟨rfl,cU⟩;have bR:=cU.symm;subst bR;clear cU;go_wp2_with fail;refine kn.mono ?_;rintro e wx ⟨rfl,cU⟩;have bR:=cU.symm;subst bR;clear cU;go_wp2_with fail;refine kn.mono ?_;rintro e wx ⟨rfl,cU⟩;have bR:=cU.symm;subst bR;clear cU;go_wp2_with fail;refine kn.mono ?_;rintro e wx ⟨rfl,cU⟩;have bR:=cU.symm;subst bR;clear cU kn;go_wp2_with fail;refine kb.mono ?_;rintro e Il ⟨rfl,t',n',b1,b2,X',hr,SD,xp,z1,z2,z3,z4⟩;have c5:Il.cell? ⟨kr,5,none⟩=some (.bool true):=aa hr.b (j:=5) rfl;have zz:=Zj.o.size;have HE:Yh (xq w Il F X kr p s q l m t n a1 a2 k (N+17) G.y (.returned (.bool true))):=by
  refine⟨rfl,_,X',S',_,_,_,_,t',n',b1,b2,hr,HCa.o.2.2,Or.inl (HCa.o.1.busy true),HCa.o.2.1,λj hj=>?_,Zj.o.trans xp (λj e=> .inl (by
   rcases e with e|e|e
   .exact .inr (.inr (.inr (.inr (.inl e))))
   .exact .inr (.inl e)
   .exact .inr (.inr (.inr (.inr (.inr (e▸HX9.o)))))))⟩
  rcases hj with hj|hj|hj|hj|hj|hj
  .rcases hj with hj|hj
   .exact .inl (.inl (.inl hj))
   .exact .inr hj.1
  .rcases SD j hj with e|e
   .exact(adH.o j e).imp (λe=> .inr (.inl e)) (λe=>e)
   .exact .inr (by omega)
  .exact .inr (by omega)
  .exact .inr (by omega)
  .exact .inr (by omega)
  .exact .inr (by omega)
 clear kb hr SD xp;go_wp2;go_ret;exact HE.o
theorem OQ (h:jY w F X kr p s cR q l m t n a1 a2 k S G T M) (hc:LK G S T M) (ly:Dv S s G N) (h0:M.state≠0) (gh:ar w F pa t n):
  Calls prog 37 #[.pointer (some ⟨kr,0,none⟩), .pointer (some ⟨pa,0,none⟩), .int .i64 8] w λe w'=>xq w w' F X kr p s q l m t n a1 a2 k N G.y e:=by
 have pA:M.bi=(M.state,M):=by unfold MP.bi;rw [if_pos h0]
 have rV:T.puts.length<=16:=by rw [hc.len h.x.tx.ch.ok];exact hc.le
 have k1:=h.x.KJ (by rw [hc.state];exact h0) rV;rw [hc.state] at k1;have c0:=gh.c0;have H:=yh h;have HC:=yh (And.intro hc ly);obtain⟨z,hz⟩:∃z,z=M.state:=⟨_,rfl⟩;rw [<-hz] at k1 pA h0;have U7:=yh pA;have dz:(z == 0)=false:=by rw [beq_eq_false_iff_ne];exact h0
 clear h hc ly gh pA rV h0 hz;go_enter func37,ntmps37;go_wp2_with fail;refine k1.mono ?_;rintro e w1 ⟨rfl,dj,bo⟩;have cI:=H.o.q6 dj bo;have ce:w1.cell? ⟨kr,4,none⟩=some (.pointer (some ⟨k,0,none⟩)):=aa cI.b (j:=4) rfl;have km:=tL cI.mm cI.xl;rw [U7.o] at km;have qV:=yh bo;have H1:=yh cI;clear k1 dj bo cI c0;go_wp2_with fail;refine km.mono ?_;rintro e w2 ⟨rfl,fi,aK⟩;have eB:=H1.o.after (H1.o.x.apart aK (λj hj=>by
  have h9:=H1.o.xa j hj;exact⟨h9.1,h9.2.1,h9.2.2.1,h9.2.2.2.1,h9.2.2.2.2.1,h9.2.2.2.2.2.1⟩)) fi (aK.mono (λ_ h=> .inr h)) (λ_ h=>h)
 have c5:w2.cell? ⟨kr,5,none⟩=some (.bool true):=aa eB.b (j:=5) rfl;have HE:Yh (xq w w2 F X kr p s q l m t n a1 a2 k N G.y (.returned (.bool true))):=by
  have z1:=qV.o.size;refine⟨rfl,_,_,S,G,T,M,_,t,n,a1,a2,eB,HC.o.1,HC.o.2,rfl,λj hj=>?_,(qV.o.mono (λj e=>?_)).trans aK (λ_ h=> .inl (.inr (.inr (.inr (.inr (.inr h))))))⟩
  .rcases hj with hj|hj|hj|hj|hj|hj
   .rcases hj with hj|hj
    .exact .inl (.inl (.inl hj))
    .exact .inr hj.1
   .rcases hj with hj|hj
    .exact .inl (.inr (.inl hj))
    .exact .inr (by omega)
   .exact .inl (.inl (.inr (.inl hj)))
   .exact .inl (.inl (.inr (.inr hj)))
   .exact .inl (.inr (.inr (.inl hj)))
   .exact .inl (.inr (.inr (.inr hj)))
  .rcases e with e|e|e|e|e|e
   .exact .inl (.inl e)
   .exact .inr (.inr (.inl e))
   .exact .inr (.inr (.inr (.inl e)))
   .exact .inl (.inr (.inl e))
   .exact .inl (.inr (.inr e))
   .exact .inr (.inl e)
 have kn:=bF z w2;clear km fi aK eB ce qV H1;go_wp2_with fail;refine kn.mono ?_;rintro e wx ⟨rfl,cU⟩;have bR:=cU.symm;subst bR;clear cU kn;go_wp2;go_ret;exact HE.o
end
end
theorem Gs {S:DS} {s:Nat} {L:LG} (h:AJ S s L) (hb:L.begun=true):L.head=0/\L.f=1/\L.n=(co (S.now 0)).log:=by
 obtain⟨rs,hd,ov,_,_,rfl⟩:=h;unfold LG.start at hb⊢;split at hb
 .exact absurd hb (by simp [gK,LG.new])
 .split at hb
  .exact absurd hb (by simp [gK,LG.new])
  .split at hb
   .exact absurd hb (by simp [gK,LG.new])
   .rename_i h1 h2 h3;rw [if_neg h1,if_neg h2,if_neg h3];exact⟨rfl,rfl,rfl⟩
structure OR (g:Ld) (S:DS) (L:LG):Prop where
 f:S.fuse= -1
 z:∀j,3<=j->j<g.s->S.now j=zs 512
 life:L.life=S.life
 inv:V.Inv S g.s [L] 4
 dead:L.dead S=false
 hd:L.head=0
 lh:L.f+2+L.n<=3+g.l
def KL (w w':World) (g:Ld) (e:Ending):Prop:=∃F X kr p cR q l m t n a1 a2 k S L,e= .returned (.pointer (some ⟨kr,0,none⟩))/\w.heap.size<=kr/\jY w' F X kr p g.s cR q l m t n a1 a2 k S ⟨Oh g,L, [],true⟩ ⟨[],0,false⟩ (MP.new g).begun/\OR g S L/\(∀j,F j->w.heap.size<=j)/\(∀j,X j->w.heap.size<=j)/\w.heap.size<=q/\w.heap.size<=l/\w.heap.size<=m/\w.heap.size<=t/\w.heap.size<=n/\w.heap.size<=a1/\w.heap.size<=a2/\Below w.heap.size w w'
theorem KN {g:Ld} (h1:g.s<=2048) (h2:g.l<=256) (h4:3+g.l+2+g.n / 4+1<=g.s):∃x1 x2:Nat,x2=g.s-3-g.l/\wrap64 ((g.s:Int)-3)=(x1:Int)/\wrap64 ((x1:Int)-(g.l:Int))=(x2:Int)/\x2<=2048:=
   ⟨g.s-3,g.s-3-g.l,rfl,(gI (by omega) (by omega)).trans (by omega),(gI (by omega) (by omega)).trans (by omega),by omega⟩
theorem DR (g:Ld) (hg:vy g.s g.l g.n) (w:World):Calls prog 9 #[Oa g] w λe w'=>KL w w' g e:=by
 have hG:=hg;obtain⟨⟨g1,g2⟩,⟨g3,g4⟩,g5,g6,g7⟩:=hg;have h1:g.s<=2048:=by omega
 have h2:g.l<=256:=by omega
 have h3:g.n<=1024:=by omega
 have h4:3+g.l+2+g.n / 4+1<=g.s:=by omega
 obtain⟨x1,x2,dV,f1,f2,adI⟩:=KN h1 h2 h4;have lJ:=an w (.cells #[.int .i64 (g.s:Int), .int .i64 (g.l:Int), .int .i64 (g.n:Int)] 31);have bw:=heap_alloc_new w (.cells #[.int .i64 (g.s:Int), .int .i64 (g.l:Int), .int .i64 (g.n:Int)] 31);have iX:(w.alloc (.cells #[.int .i64 (g.s:Int), .int .i64 (g.l:Int), .int .i64 (g.n:Int)] 31)).heap.size=w.heap.size+1:=by rw [World.size_alloc]
 have k1:=NT (w.alloc (.cells #[.int .i64 (g.s:Int), .int .i64 (g.l:Int), .int .i64 (g.n:Int)] 31)) x2 g.n adI (by omega);have ex2:((x2:Nat):Int)=(g.s:Int)-3-(g.l:Int):=by omega
 rw [ex2] at k1;have KY:=yh dV;have D6:=yh lJ;have mI:=yh bw;clear f1 f2 ex2 dV lJ bw g1 g2 g3 g4 g5 g6 g7;go_enter func9,ntmps9;go_wp2_with fail;refine k1.mono ?_;rintro e w1 ⟨k,q1,c1,q2,c2,q3,c3,q4,c4,v5,rfl,FV,aq⟩;have eR:=aq.size;rw [iX] at eR;have AE:=(aq.block _ (af mI.o)).trans mI.o;have pU:=an w1 (.cells #[.pointer none, .pointer none, .pointer none, .pointer none, .pointer (some ⟨k,0,none⟩), .bool false] 38);have jH:=heap_alloc_new w1 (.cells #[.pointer none, .pointer none, .pointer none, .pointer none, .pointer (some ⟨k,0,none⟩), .bool false] 38);have M7:(w1.alloc (.cells #[.pointer none, .pointer none, .pointer none, .pointer none, .pointer (some ⟨k,0,none⟩), .bool false] 38)).heap.size=w1.heap.size+1:=by rw [World.size_alloc]
 have k2:=SN g.s (w1.alloc (.cells #[.pointer none, .pointer none, .pointer none, .pointer none, .pointer (some ⟨k,0,none⟩), .bool false] 38)) (by omega) h1;have HM:Yh (MX w1 (λj=>w.heap.size+1<=j/\j<w1.heap.size) k ⟨x2,g.n,List.replicate 4096 false,List.replicate 4096 false,List.replicate 4096 false,List.replicate 4096 false,List.replicate x2 (zs 512), [], [],0,false,false⟩):=by rw [iX] at FV;exact⟨_,_,_,_,_,_,_,_,_,_,_,FV⟩
 have ew:Yh (Below w.heap.size w w1):=D6.o.trans (aq.mono (by omega));have HBR:=yh (And.intro pU (And.intro jH AE));have Vb:=(pU.block _ (af AE)).trans AE;have s0:(w1.alloc (.cells #[.pointer none, .pointer none, .pointer none, .pointer none, .pointer (some ⟨k,0,none⟩), .bool false] 38)).cell? ⟨w.heap.size,0,none⟩=some (.int .i64 (g.s:Int)):=aa Vb (j:=0) rfl;have Vc:=yh Vb;clear k1 aq pU jH AE FV D6 mI Vb;go_wp2_with fail;refine k2.mono ?_;rintro e w2 ⟨p,rfl,dS,aG⟩;have aG:Below _ _ w2:=aG;rw [M7] at dS aG;have eE:=aG.size;rw [M7] at eE;have jW:=(aG.block _ (by rw [<-M7];exact af Vc.o)).trans Vc.o;have nA:=(aG.block _ (by omega)).trans HBR.o.2.1;have fi:=(HM.o.apart (ad.ag (λ_=>False) HBR.o.1) (λ_ h=>h.elim)).apart (ad.ag (λ_=>False) (show Below (w1.alloc (.cells #[.pointer none, .pointer none, .pointer none, .pointer none, .pointer (some ⟨k,0,none⟩), .bool false] 38)).heap.size _ w2 by rw [M7];exact aG)) (λ_ h=>h.elim);have eY:Below w.heap.size w w2:=ew.o.trans ((HBR.o.1.mono (by omega)).trans (aG.mono (by omega)));have e0:w2.cell? ⟨w.heap.size,0,none⟩=some (.int .i64 (g.s:Int)):=aa jW (j:=0) rfl;have e1:w2.cell? ⟨w.heap.size,1,none⟩=some (.int .i64 (g.l:Int)):=aa jW (j:=1) rfl;have e2:w2.cell? ⟨w.heap.size,2,none⟩=some (.int .i64 (g.n:Int)):=aa jW (j:=2) rfl;have hmd:Sx (DS.fresh (List.replicate (g.s*512) 0)) g:=Og hG dS.ok ⟨Bytes.sY _,λq hq=>by cases hq⟩ rfl rfl rfl (λj hj=>Gy hj);have ey:(DS.fresh (List.replicate (g.s*512) 0)).fL:=⟨Bytes.sY _,λq hq=>by cases hq⟩;have uj:(DS.fresh (List.replicate (g.s*512) 0)).puts.length=0:=rfl;have Zn:B.aj w2 (λj=>w1.heap.size+1<=j/\j<w2.heap.size) p g.s (DS.fresh (List.replicate (g.s*512) 0)) 0:=⟨0,dS,λ_=>⟨Int.le_refl _,Int.le_refl _⟩⟩;generalize DS.fresh (List.replicate (g.s*512) 0)=S0 at*;have k3:=CC Zn ey (g.s:Int) (g.l:Int) (g.n:Int) (by omega);rw [hmd.c] at k3;have HMd:=yh hmd;have HH:=yh (And.intro fi (And.intro eY (And.intro nA jW)));have kn:=bF 0 w2;clear k2 dS Zn aG jW nA fi eY hmd ey uj HM ew HBR Vc s0;go_wp2_with fail;refine kn.mono ?_;rintro e w9 ⟨rfl,un⟩;have ow:=un.symm;subst ow;clear kn un;go_wp2_with fail;refine k3.mono ?_;rintro e w3 ⟨rfl,eO,aR⟩;have rS:=aR.size;obtain⟨m1,m2,m3,m4,m5,m6,m7⟩:=HMd.o;generalize (cZ S0 g.s g.s g.l g.n).2=S1 at*;have k4:=FP eO m3.jl (by have:=m3.p6;omega);have kn:=bF 0 w3;have E9:=yh (And.intro m2 (And.intro m3 (And.intro m4 (And.intro m5 (And.intro m6 m7)))));have TZ:∀j,more (λj=>w1.heap.size+1<=j/\j<w2.heap.size) w2 w3 j->w1.heap.size+1<=j/\j<w3.heap.size:=λj hj=>by rcases hj with hj|hj <;> omega
 have Zo:=yh TZ;have nV:=yh aR;have Mh:=yh eO.lt;clear k3 eO aR m1 m2 m3 m4 m5 m6 m7 e0 e1 e2 HMd TZ;go_wp2_with fail;refine kn.mono ?_;rintro e w9 ⟨rfl,un⟩;have ow:=un.symm;subst ow;clear kn un;go_wp2_with fail;refine k4.mono ?_;rintro e w4 ⟨x,S2,cR,_,Ev,dF,Zp⟩;obtain⟨n1,n2,n3⟩:=FT E9.o.2.1.ok E9.o.2.1.jl E9.o.1 E9.o.2.2.1 E9.o.2.2.2.2.1 (λj hj=>E9.o.2.2.2.2.2 (1+2+j) (by omega) (by rw [E9.o.2.2.2.1] at hj;have GD:j<g.l:=hj;omega)) Ev;rcases Zp with ⟨hx,_⟩|⟨_,q,l,m,L,F',kD,rfl,hF',hq,hl,hm',bu⟩
 .exact absurd n1 hx
 .have JZ:L.life=S2.life:=by
   rw [kD.life];rcases Ev.life with ⟨_,h9⟩|h9
   .exact absurd n1 h9
   .exact h9.symm
  have yQ:L.dead S2=false:=by
   unfold LG.dead;rw [JZ,n2];simp
  have hinv:V.Inv S2 g.s [L] 4:=(E9.o.2.1.fF (by omega) Ev).2 n1 L kD;have wt:=dF.size;rw [E9.o.2.2.2.1] at bu;have hsf:=Gs kD bu.bg;have hFr:OR g S2 L:=⟨n2,λj h1 h2=>(n3 j h1 h2).trans (E9.o.2.2.2.2.2 j h1 h2),JZ,hinv,yQ,hsf.1,by rw [hsf.2.1,hsf.2.2,E9.o.2.2.2.1];show 1+2+g.l<=3+g.l;omega⟩;have ge4:∀j,F' j->w1.heap.size+1<=j:=λj hj=>by
   rcases hF' j hj with h9|h9
   .exact(Zo.o j h9).1
   .omega
  have By:=(nV.o.block _ (af HH.o.2.2.1) (λe=>by omega)).trans HH.o.2.2.1;have DT:=(dF.block _ (af By) (λe=>by have:=(Zo.o _ e).1;omega)).trans By;have wK:=(HH.o.1.apart nV.o (λj e hx=>by omega)).apart dF (λj e hx=>by have:=(Zo.o _ e).1;omega);have mu:Below w.heap.size w w4:=(HH.o.2.1.trans (nV.o.below (λj e=>by omega) (by omega))).trans (dF.below (λj e=>by have:=(Zo.o j e).1;omega) (by omega));have kn:=bF 0 w4;have v0:w4.cell? ⟨w1.heap.size,0,none⟩=some (.pointer none):=aa DT (j:=0) rfl;have v1:w4.cell? ⟨w1.heap.size,1,none⟩=some (.pointer none):=aa DT (j:=1) rfl;have v5:w4.cell? ⟨w1.heap.size,5,none⟩=some (.bool false):=aa DT (j:=5) rfl;have fz0:=ae DT 0;have fz1:=ae DT 1;have fz5:=ae DT 5;obtain⟨w5,Lc⟩:∃w5,w5=((w4.setCell ⟨w1.heap.size,0,none⟩ (.pointer (some ⟨p,0,none⟩))).setCell ⟨w1.heap.size,1,none⟩ (.pointer (some ⟨q,0,none⟩))).setCell ⟨w1.heap.size,5,none⟩ (.bool true):=⟨_,rfl⟩;have cB:ad (λj=>j=w1.heap.size) w4 w5:=by rw [Lc];exact((ad.setCell (F:=λj=>j=w1.heap.size) w4 (p:=⟨w1.heap.size,0,none⟩) rfl _).trans (ad.setCell (F:=λj=>j=w1.heap.size) _ (p:=⟨w1.heap.size,1,none⟩) rfl _) (λ_ h=> .inl h)).trans (ad.setCell (F:=λj=>j=w1.heap.size) _ (p:=⟨w1.heap.size,5,none⟩) rfl _) (λ_ h=> .inl h)
  have Zq:w5.heap[w1.heap.size]? =some (.cells (Dy p q (.pointer none) (.pointer none) k true) 38 (0,0)):=by
   rw [Lc];have m1:=(heap_setCell_same w4 w1.heap.size 0 _ _ (.pointer (some ⟨p,0,none⟩)) DT).trans (by rfl:_=some (Obj.cells #[.pointer (some ⟨p,0,none⟩), .pointer none, .pointer none, .pointer none, .pointer (some ⟨k,0,none⟩), .bool false] 38 (0,0)));have m2:=(heap_setCell_same _ w1.heap.size 1 _ _ (.pointer (some ⟨q,0,none⟩)) m1).trans (by rfl:_=some (Obj.cells #[.pointer (some ⟨p,0,none⟩), .pointer (some ⟨q,0,none⟩), .pointer none, .pointer none, .pointer (some ⟨k,0,none⟩), .bool false] 38 (0,0)));exact(heap_setCell_same _ w1.heap.size 5 _ _ (.bool true) m2).trans rfl
  have nF:¬F' w1.heap.size:=λe=>by have:=ge4 _ e;omega
  have Zr:ip w5 F' p g.s cR q l m S2 ⟨Oh g,L, [],false⟩:=⟨bu.d.ak cB (λj hj e=>nF (e▸hj)),bu.st.ak cB (λe=>by omega),bu.lp.ak cB (λe=>by omega),bu.ch.ak cB (λe=>by omega),bu.nq,bu.nl,bu.nm,bu.ql,bu.qm,bu.lm,bu.lk,bu.bg,bu.hs,bu.kb⟩;have ws:=wK.apart cB (λj e hx=>by omega);have hkX:w.heap.size+1<=k:=by obtain⟨_,_,_,_,_,_,_,_,_,_,_,h9⟩:=ws;exact h9.xk.1
  have ud:=cB.size;have ue:=mu.trans (cB.below (λj e=>by omega) (by omega));have kb:=qy Zq Zr rfl yQ hinv.jl hinv.p6 (UW h1 h3 h4) ws (λj hj=>by omega) (by rw [List.length_replicate];omega) ⟨nF,by omega,by omega,by omega⟩ (λj hj=>⟨λe=>by have:=ge4 _ e;omega,by omega,by omega,by omega,by omega⟩);have pt:=yh ue;have HG4:=yh ge4;have QY:=yh hFr;clear k4 bu Ev dF hF' kD hsf n1 n2 n3 JZ yQ hinv By DT wK mu cB Zq Zr ws ue ge4 hFr HH E9 Zo nV Mh nF;go_wp2_with fail;refine kn.mono ?_;rintro e w9 ⟨rfl,un⟩;have ow:=un.symm;subst ow;clear kn un;go_wp2_with fail;rw [<-Lc];clear Lc;refine kb.mono ?_;rintro e w6 ⟨rfl,t,n,a1,a2,X',jH,SD,jP,VR,XC,ha6,DZ⟩;have VS:=jP.size;have HE:Yh (KL w w6 g (.returned (.pointer (some ⟨w1.heap.size,0,none⟩)))):=by
   rw [KY.o] at jH;refine⟨F',X',w1.heap.size,p,cR,q,l,m,t,n,a1,a2,k,S2,L,rfl,by omega,jH,QY.o,λj hj=>by have:=HG4.o j hj;omega,λj hj=>by rcases SD j hj with h9|h9 <;> omega,by omega,by omega,by omega,by omega,by omega,by omega,by omega,pt.o.trans (jP.below (λj e=>?_) (by omega))⟩;rcases e with e|e|e
   .omega
   .omega
   .omega
  clear kb jH SD jP;go_wp2;go_ret;exact HE.o
section
section
variable {w w':World} {X Y Z:Nat->Prop} {k:Nat} {M:MP}
theorem MX.Ix (h:MX w X k M):w.cell? ⟨k,12,none⟩=some (.bool M.dead)/\w.frozen? ⟨k,12,none⟩=false/\MX (w.setCell ⟨k,12,none⟩ (.bool true)) X k {M with dead:=true}/\ad X w (w.setCell ⟨k,12,none⟩ (.bool true)):=by
 obtain⟨g1,c1,g2,c2,g3,c3,g4,c4,v5,v6,v7,h⟩:=h;have fU:=h.b;have hs:(w.setCell ⟨k,12,none⟩ (.bool true)).heap[k]? =some (.cells (tY {M with dead:=true} (bt g1 c1) (bt g2 c2) (bt g3 c3) (bt g4 c4) v5 v6 v7) 72 (0,0)):=heap_setCell_same _ _ _ _ _ _ fU;have hk:=ad.setCell (F:=λj=>j=k) w (p:=⟨k,12,none⟩) rfl (.bool true);have oU:IL w X v7 M.put:=⟨h.put.1,h.put.2⟩;have iW:=oU.ak hk (λg hg e=>by
  obtain⟨cur,hc⟩:=ay oU.own hg;rw [e,fU] at hc;cases hc)
 exact⟨aa fU (j:=12) rfl,ae fU 12,⟨_,_,_,_,_,_,_,_,_,_,_,h.qG (M':={M with dead:=true}) hk (λg hg=>by subst hg;exact⟨_,_,_,fU,by decide,by decide,by decide⟩) (λ_ h=>h) hs ⟨iW.own,iW.x⟩ rfl rfl rfl rfl rfl rfl rfl⟩,hk.mono (λj hj=>by rw [hj];exact h.xk)⟩
end
section
variable {w w':World} {F X Y Z:Nat->Prop} {kr p s cR q l m t n a1 a2 k pa N:Nat} {S S':DS} {G G':SG} {T:TG} {M:MP}
theorem TX.take (h:TX w F p s cR q l m t n S G T):Calls prog 42 #[.pointer (some ⟨p,0,none⟩)] w λe w'=>∃x,e= .returned (.int .i64 x)/\TX w' F p s cR q l m t n S.take G T/\ad F w w':=by
 refine(B.tp h.st.d).mono ?_;rintro e w' ⟨he,hd,hk⟩;exact⟨_,he,⟨⟨hd,h.st.st.ak hk h.st.nq,h.st.lp.ak hk h.st.nl,h.st.ch.ak hk h.st.nm,h.st.nq,h.st.nl,h.st.nm,h.st.ql,h.st.qm,h.st.lm,h.st.lk,h.st.bg,h.st.hs,h.st.kb⟩,h.tx.asked hk,h.jl,h.pu,h.yk⟩,hk⟩
theorem LK.take (h:LK G S T M) (hd:G.L.dead S.take=true):LK G S.take T {M with dead:=true}:=
   ⟨h.bad,h.en,h.op,hd,h.pk,h.nd,h.le,h.s0,h.s1,h.so,h.mb,h.mn,h.rl,h.l0,h.l1,h.o0,h.o1,h.oo,h.Rn,h.k0,h.k1⟩
theorem TX.check (h:TX w F p s cR q l m t n S G T) (ly:pf S s G N):∃S' G',pf S' s G' N/\G'.y=G.y/\(∀b,b<G.y.blocks->G'.block S' b=G.block S b)/\Calls prog 41 #[.pointer (some ⟨q,0,none⟩)] w λe w'=>e= .returned (.int .i64 0)/\TX w' (more F w w') p s (cR+2) q l m t n S' G' T/\ad (λk=>F k\/k=l\/k=m) w w':=by
 obtain⟨a1,a2,a3,a4,_,_,_,a8⟩:=ly.check;have k:=sC h.st h.jl (by have:=h.pu;omega);rw [a1] at k;refine⟨_,_,a2,a3,a8,k.mono ?_⟩;rintro e w' ⟨he,h1,h2⟩;obtain⟨t',_,hi⟩:=a2.iv;have Pu:=af h.tx.tx;have si:=h.tx.ch.lt;refine⟨he,⟨h1,h.tx.re h2 (λe=>?_) (λe=>?_) (λe=>?_) (λe=>?_) a3,hi.jl,hi.p6,by rw [a3];exact h.yk⟩,h2⟩
 .rcases e with e|e|e
  .exact h.tx.nt e
  .exact h.tx.tl e
  .exact h.tx.tm e
 .rcases e with e|e|e
  .exact h.tx.nn e
  .exact h.tx.nl e
  .exact h.tx.nm e
 .rcases e with e|e
  .exact h.tx.nt e
  .omega
 .rcases e with e|e
  .exact h.tx.nn e
  .omega
theorem TX.OS (h:TX w F p s cR q l m t n S G T) (hd:G.L.dead S=true):Calls prog 41 #[.pointer (some ⟨q,0,none⟩)] w λe w'=>e= .returned (.int .i64 3)/\TX w' (more F w w') p s (cR+2) q l m t n S G T/\ad (λk=>F k\/k=l\/k=m) w w':=by
 have hu:G.L.aX S=3:=by unfold LG.aX;rw [if_pos hd]
 have hs:G.L.sync S s=(3,S):=by unfold LG.sync;rw [hu,if_pos (show (3:Int)≠0 by decide)]
 have ha:G.check S s=(3,S,G):=by unfold SG.check;rw [hs,if_pos (show (3:Int)≠0 by decide)]
 have k:=sC h.st h.jl (by have:=h.pu;omega);rw [ha] at k;refine k.mono ?_;rintro e w' ⟨he,h1,h2⟩;have Pu:=af h.tx.tx;have si:=h.tx.ch.lt;refine⟨he,⟨h1,h.tx.re h2 (λe=>?_) (λe=>?_) (λe=>?_) (λe=>?_) rfl,h.jl,h.pu,h.yk⟩,h2⟩
 .rcases e with e|e|e
  .exact h.tx.nt e
  .exact h.tx.tl e
  .exact h.tx.tm e
 .rcases e with e|e|e
  .exact h.tx.nn e
  .exact h.tx.nl e
  .exact h.tx.nm e
 .rcases e with e|e
  .exact h.tx.nt e
  .omega
 .rcases e with e|e
  .exact h.tx.nn e
  .omega
theorem LK.check (h:LK G S T M) (hy:G'.y=G.y) (qd:G'.L.dead S'=M.dead) (h2:2<=G.y.blocks) (hb:∀b,b<G.y.blocks->G'.block S' b=G.block S b):LK G' S' T M:=by
 have hs:∀b,b<G.y.blocks->T.bq G' S' b=T.bq G S b:=λb hq=>by unfold TG.bq;rw [hb b hq]
 exact⟨h.bad,h.en,h.op,qd,h.pk,h.nd,h.le,(hs 0 (by omega)).trans h.s0,(hs 1 (by omega)).trans h.s1,λb g1 g2=>by rw [hy] at g2;rw [hs b g2];exact h.so b g1 g2,by rw [hy];exact h.mb,by rw [hy];exact h.mn,by rw [hy];exact h.rl,h.l0,h.l1,(hb 0 (by omega)).trans h.o0,(hb 1 (by omega)).trans h.o1,λb g1 g2=>by rw [hy] at g2;rw [hb b g2];exact h.oo b g1 g2,by rw [hy];exact h.Rn,h.k0,h.k1⟩
theorem OT (h:jY w F X kr p s cR q l m t n a1 a2 k S G T M) (hc:LK G S T M) (ly:Dv S s G N) (qd:M.dead=true) (gh:ar w F pa t n):
  Calls prog 37 #[.pointer (some ⟨kr,0,none⟩), .pointer (some ⟨pa,0,none⟩), .int .i64 9] w λe w'=>xq w w' F X kr p s q l m t n a1 a2 k N G.y e:=by
 have Bc:T.dM G S=3:=by unfold TG.dM;rw [hc.dd,qd];rfl
 have pA:M.abort=(3,M):=by unfold MP.abort;rw [qd];rfl
 have ha:T.abort G S=(3,T,G):=by unfold TG.abort;rw [Bc,if_pos (show (3:Int)≠0 by decide)]
 have k1:=xY h.x.st h.x.tx;rw [ha] at k1;have c0:=gh.c0;have H:=yh h;have HC:=yh (And.intro hc ly);have U7:=yh pA;clear h hc ly gh pA ha Bc qd;go_enter func37,ntmps37;go_wp2_with fail;refine k1.mono ?_;rintro e w1 ⟨rfl,aq,aG,bH,bo⟩;have dj:TX w1 F p s cR q l m t n S G T:=by
  have h:=H.o.x;have no:∀j,j≠t->j≠n->j≠q->¬(j=t\/j=n\/j=q):=λj a b c e=>by
   rcases e with e|e|e
   .exact a e
   .exact b e
   .exact c e
  exact⟨⟨h.st.d.ak bo (λj hj=>no j (λe=>h.tx.nt (e▸hj)) (λe=>h.tx.nn (e▸hj)) (λe=>h.st.nq (e▸hj))),bH,h.st.lp.ak bo (no _ h.tx.tl.symm h.tx.nl.symm h.st.ql.symm),h.st.ch.ak bo (no _ h.tx.tm.symm h.tx.nm.symm h.st.qm.symm),h.st.nq,h.st.nl,h.st.nm,h.st.ql,h.st.qm,h.st.lm,h.st.lk,h.st.bg,h.st.hs,h.st.kb⟩,⟨aq,aG,h.tx.nt,h.tx.nn,h.tx.tq,h.tx.tl,h.tx.tm,h.tx.tn,h.tx.nq,h.tx.nl,h.tx.nm,h.tx.kb⟩,h.jl,h.pu,h.yk⟩
 have gj:ad (λj=>F j\/j=l\/j=m\/j=t\/j=n\/j=q) w w1:=bo.mono (λj e=> .inr (.inr (.inr e)));obtain⟨z1,z2,z3⟩:=H.o.Va;have cI:=H.o.Iv dj (H.o.mm.apart gj (λj e hj=>z3 j hj e)) gj z1 (z2 a1 H.o.p1) (z2 a2 H.o.p2) (λj hj=> .inl hj) (λj hj=> .inl hj) (λj hj=>(H.o.xa j hj).1);have ce:w1.cell? ⟨kr,4,none⟩=some (.pointer (some ⟨k,0,none⟩)):=aa cI.b (j:=4) rfl;have km:=wc cI.mm;rw [U7.o] at km;have qV:=yh bo;have H1:=yh cI;clear k1 dj bo gj cI c0 aq aG bH z1 z2 z3;go_wp2_with fail;refine km.mono ?_;rintro e w2 ⟨rfl,fi,aK⟩;have eB:=H1.o.after (H1.o.x.apart aK (λj hj=>by
  have h9:=H1.o.xa j hj;exact⟨h9.1,h9.2.1,h9.2.2.1,h9.2.2.2.1,h9.2.2.2.2.1,h9.2.2.2.2.2.1⟩)) fi (aK.mono (λ_ h=> .inr h)) (λ_ h=> .inl h)
 have c5:w2.cell? ⟨kr,5,none⟩=some (.bool true):=aa eB.b (j:=5) rfl;have HE:Yh (xq w w2 F X kr p s q l m t n a1 a2 k N G.y (.returned (.bool true))):=by
  have z1:=qV.o.size;refine⟨rfl,_,_,S,G,T,M,_,t,n,a1,a2,eB,HC.o.1,HC.o.2,rfl,λj hj=> .inl ?_,(qV.o.mono (λj e=>?_)).trans aK (λ_ h=> .inl (.inr (.inr (.inr (.inr (.inr h))))))⟩
  .rcases hj with hj|hj|hj|hj|hj|hj
   .exact .inl (.inl hj)
   .exact .inr (.inl hj)
   .exact .inl (.inr (.inl hj))
   .exact .inl (.inr (.inr hj))
   .exact .inr (.inr (.inl hj))
   .exact .inr (.inr (.inr hj))
  .rcases e with e|e|e
   .exact .inl (.inr (.inl e))
   .exact .inl (.inr (.inr e))
   .exact .inr (.inl e)
 have kn:=bF 3 w2;clear km fi aK eB ce qV H1;go_wp2_with fail;refine kn.mono ?_;rintro e wx ⟨rfl,cU⟩;have bR:=cU.symm;subst bR;clear cU kn;go_wp2;go_ret;exact HE.o
end
end
end Go.Proofs.YtkiehemoiapkkaaGreat
