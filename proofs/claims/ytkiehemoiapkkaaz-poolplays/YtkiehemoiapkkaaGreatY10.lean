import Derived.Test.YtkiehemoiapkkaaGreatY01
import Derived.Test.YtkiehemoiapkkaaGreatY09
set_option maxRecDepth 20000
set_option maxHeartbeats 8000000
set_option linter.all false
namespace Go.Proofs.YtkiehemoiapkkaaGreat
open Go.Proofs.Tryz
open Go.RowKit Go.Maps
section
section
variable {w:World} {F:Nat->Prop} {p s cR q l m t n a:Nat} {S:DS} {G:SG} {T:TG}
theorem pF (h:TX w F p s cR q l m t n S G T) (hp:ar w F a t n) (x:Int):
  Calls prog 71 #[.pointer (some ⟨a,0,none⟩), .int .i64 x] w λe w'=>e= .returned (.int .i64 (T.cE G S (dh G.y) x).1)/\TX w' F p s (cR+2) q l m t n S G ((T.cE G S (dh G.y) x).2.eU G S (T.cE G S (dh G.y) x).1)/\ad (cq F t n) w w':=by
 obtain⟨aH,gm,dU,jx⟩:=vD w (.cells #[.pointer (some ⟨a,0,none⟩)] 35) (.cells #[.int .i64 0] 39);obtain⟨w1,bd⟩:∃w1,w1=(w.alloc (.cells #[.pointer (some ⟨a,0,none⟩)] 35)).alloc (.cells #[.int .i64 0] 39):=⟨_,rfl⟩;rw [<-bd] at aH gm dU jx;have aS:=h.lt;have dj:=h.later aH;have gM:=hp.later aH;have aA:=kN dj gM;have HT:Yh (∀w2,Below w1.drew.heap.size w1.drew w2->Calls prog 115 #[.pointer (some ⟨a,0,none⟩),fe (dh G.y), .int .i64 x] w2 λe w'=>CK (T.cE G S (dh G.y) x).1 (.tuple #[]) e/\TX w' F p s (cR+2) q l m t n S G (T.cE G S (dh G.y) x).2/\ad (cq F t n) w2 w'):=λw2 hb=>yR (dj.later hb) (gM.later hb) (dh G.y) (Ax h.yk) x;have c0:w1.drew.cell? ⟨w.heap.size,0,none⟩=some (.pointer (some ⟨a,0,none⟩)):=aa gm (j:=0) rfl;have n1:¬cq F t n w.heap.size:=λhf=>by have:=aS _ hf;omega
 have n2:¬cq F t n (w.heap.size+1):=λhf=>by have:=aS _ hf;omega
 have HG:=yh (And.intro gm dU);have HB:=yh aH;have HP:=yh gM;have rn:=yh h.low;have gh:=hp.lt;generalize T.cE G S (dh G.y) x=R at*;generalize fe (dh G.y)=V at*;have J4:w.heap.size+1≠t:=λe=>n2 (.inr (.inl e));clear h hp aH dj gM gm dU
 go_enter_defers func71,ntmps71
 go_wp2_with fail;rw [<-bd];clear bd;refine jn (Ia [{target:= .fn (.func 114) #[.pointer (some ⟨w.heap.size,0,none⟩), .pointer (some ⟨w.heap.size+1,0,none⟩)],args:= #[]}] [(4, .pointer (some ⟨w.heap.size+1,0,none⟩))] (λc w3=>c=iD R.1/\R.1≠0/\TX w3 F p s (cR+2) q l m t n S G R.2/\ad (cq F t n) w w3/\ar w3 F a t n/\w3.heap[w.heap.size]? =some (.cells #[.pointer (some ⟨a,0,none⟩)] 35 (0,0))/\w3.heap[w.heap.size+1]? =some (.cells #[.int .i64 0] 39 (0,0)))) ?_ ?_
 .rintro c A w3 ⟨hd,kD,rfl,hZ,gy,aR,nL,g1,g2⟩;have s3:=kD (4, .pointer (some ⟨w.heap.size+1,0,none⟩)) (by simp)
  dsimp only at s3
  rw [Array.getD_eq_getD_getElem?] at s3;have ly:R.2.eU G S R.1=(R.2.aT G S R.1).2:=by unfold TG.eU;rw [if_neg hZ]
  have Rh:=yh ly;clear ly;go_wp2;show Leaves prog _ A.tmps _ A.defers _ w3;rw [hd];refine leaves_cons (f:=114) (args:= #[.pointer (some ⟨w.heap.size,0,none⟩), .pointer (some ⟨w.heap.size+1,0,none⟩)]) (by simp) (by simp [go_sem]) ?_;refine(Av gy nL g1 g2 J4 R.1).mono ?_;rintro e u' w4 ⟨rfl,rfl,w5,rW,cB,gc,jP⟩;have q2:w4.cell? ⟨w.heap.size+1,0,none⟩=some (.int .i64 R.1):=aa gc (j:=0) rfl;simp [Leaves,settle,results,results71,go_sem,s3,q2,Rh.o];exact⟨rW.side rn.o jP (λk e=>by omega),(aR.trans cB (λ_ e=> .inl (.inr (.inl e)))).trans jP (λk e=> .inr (by omega))⟩
 refine wp_region_held_drew (S:=(λw'=>w'.cell? ⟨w.heap.size,0,none⟩=some (.pointer (some ⟨a,0,none⟩)))) (by kernel_rfl) (c0) (λaC=>?_);refine wpAnyH_take (i:=0) (oi:={dst:=some 6,op:=Op.load 35 (Operand.tmp 2),type:=35,pos:= "pool.go:36",after:= #[],guard:=none}) (v:= .pointer (some ⟨a,0,none⟩)) rfl (by kernel_rfl) (by kernel_rfl) (by kernel_rfl) (dZ (d:=6) (by simp)) (Or.inl ⟨by rfl,?_⟩) (by assumption) ?_
 .intro w aw
  (try dsimp only at aw)
  go_simp
 try simp only [Act.put,List.setIfInBounds_toArray,List.set_cons_zero,List.set_cons_succ]
 refine wpAnyH_take (i:=1) (oi:={dst:=some 7,op:=Op.load 35 (Operand.tmp 2),type:=35,pos:= "pool.go:36",after:= #[],guard:=none}) (v:= .pointer (some ⟨a,0,none⟩)) rfl (by kernel_rfl) (by kernel_rfl) (by kernel_rfl) (dZ (d:=7) (by simp)) (Or.inl ⟨by rfl,?_⟩) (by assumption) ?_
 .intro w aw
  (try dsimp only at aw)
  go_simp
 try simp only [Act.put,List.setIfInBounds_toArray,List.set_cons_zero,List.set_cons_succ]
 refine wpAnyH_take (i:=3) (oi:={dst:=some 9,op:=Op.move (Operand.tmp 1),type:=3,pos:= "pool.go:36",after:= #[],guard:=none}) (v:= .int .i64 x) rfl (by kernel_rfl) (by kernel_rfl) (by kernel_rfl) (dZ (d:=9) (by simp)) (Or.inl ⟨by rfl,?_⟩) (by assumption) ?_
 .intro w aw
  (try dsimp only at aw)
  go_simp
 try simp only [Act.put,List.setIfInBounds_toArray,List.set_cons_zero,List.set_cons_succ]
 refine wpAnyH_ready (rs:= [2]) (by kernel_rfl) (by simp) ?_;refine AllReadyH.cons (o:={dst:=some 8,op:=Op.call {callee:=Callee.value (Operand.func 25),args:= #[Operand.tmp 7],argTypes:= #[35]},type:=61,pos:= "pool.go:36",after:= #[{on:=1,ground:=Ground.data}],guard:=none}) rfl (λK hK=>?_) AllReadyH.nil;go_simp;refine aA.mono ?_;rintro e w2 ⟨rfl,aG⟩;have om:w2.cell? ⟨w.heap.size,0,none⟩=some (.pointer (some ⟨a,0,none⟩)):=aa ((aG.block _ (af HG.o.1)).trans HG.o.1) (j:=0) rfl;refine hK.out _ _ ?_ (λaC=>?_)
 .exact om
 clear hK K;try simp only [Act.put,List.setIfInBounds_toArray,List.set_cons_zero,List.set_cons_succ]
 refine wpAnyH_ready (rs:= [4]) (by kernel_rfl) (by simp) ?_;refine AllReadyH.cons (o:={dst:=some 10,op:=Op.call {callee:=Callee.value (Operand.func 115),args:= #[Operand.tmp 6,Operand.tmp 8,Operand.tmp 9],argTypes:= #[35,61,3]},type:=0,pos:= "pool.go:36",after:= #[{on:=0,ground:=Ground.data},{on:=2,ground:=Ground.data},{on:=3,ground:=Ground.data},{on:=2,ground:=Ground.chain}],guard:=none}) rfl (λK hK=>?_) AllReadyH.nil;go_simp;refine(HT.o w2 aG).mono ?_;rintro e w3 ⟨sN,gy,aR⟩;have ph:=(ad.ag (cq F t n) HB.o).trans ((ad.ag (cq F t n) aG).trans aR (λ_ h=> .inl h)) (λ_ h=> .inl h);have g1:=(aR.block _ (Nat.lt_of_lt_of_le (af HG.o.1) aG.size) n1).trans ((aG.block _ (af HG.o.1)).trans HG.o.1);have g2:=(aR.block _ (Nat.lt_of_lt_of_le (af HG.o.2) aG.size) n2).trans ((aG.block _ (af HG.o.2)).trans HG.o.2);have nL:=(HP.o.later aG).ak aR;have HQ:Yh (TX w3 F p s (cR+2) q l m t n S G R.2/\ad (cq F t n) w w3/\ar w3 F a t n):=⟨gy,ph,nL⟩;have mh:=yh (And.intro g1 g2);unfold CK at sN;have sO:w3.cell? ⟨w.heap.size,0,none⟩=some (.pointer (some ⟨a,0,none⟩)):=aa g1 (j:=0) rfl;have d0:w3.cell? ⟨w.heap.size+1,0,none⟩=some (.int .i64 0):=aa g2 (j:=0) rfl;have f0:=ae g2 0;clear aA aG c0 om gy aR ph g1 g2 nL;by_cases cI:R.1=0
 rotate_left
 .rw [if_neg cI] at sN;subst sN;exact⟨rfl,by simp,rfl,cI,HQ.o.1,HQ.o.2.1,HQ.o.2.2,mh.o.1,mh.o.2⟩
 .rw [if_pos cI] at sN;subst sN;have Rh:Yh (R.1=0/\R.2.eU G S 0=R.2):=⟨cI,by unfold TG.eU;rw [if_pos rfl]⟩;clear cI;refine hK.out _ _ ?_ (λaC=>?_)
  .exact sO
  clear hK K;try simp only [Act.put,List.setIfInBounds_toArray,List.set_cons_zero,List.set_cons_succ]
  have pe:=iK (w:=w3) (w':=w3) (x:=0) (.int .i64 0) rfl (ad.refl _ _) mh.o.2;refine wpAnyH_done (by kernel_rfl) ?_ _
  dsimp only [wY]
  have YX:=yh pe;clear pe aC sO;go_wp2;have pe:=YX.o;obtain⟨w4,mD⟩:∃w4,w4=w3.setCell ⟨w.heap.size+1,0,none⟩ (.int .i64 0):=⟨_,rfl⟩;rw [<-mD] at pe;rw [<-mD];have nJ:=yh pe;clear pe mD YX d0 f0;refine leaves_cons (f:=114) (args:= #[.pointer (some ⟨w.heap.size,0,none⟩), .pointer (some ⟨w.heap.size+1,0,none⟩)]) (by simp) (by simp [go_sem]) ?_;have z8:ar w4 F a t n:=⟨(nJ.o.2.block a HQ.o.2.2.lt (by omega)).trans HQ.o.2.2.b,HQ.o.2.2.nf⟩;have g4:=(nJ.o.2.block _ (af mh.o.1) (by omega)).trans mh.o.1;refine(CZ z8 g4 nJ.o.1).mono ?_;rintro e u' w5 ⟨rfl,rfl,gc,cB⟩;have q2:w5.cell? ⟨w.heap.size+1,0,none⟩=some (.int .i64 0):=aa gc (j:=0) rfl;simp [Leaves,settle,results,results71,go_sem,q2,Rh.o.1,Rh.o.2];exact⟨(HQ.o.1.side rn.o nJ.o.2 (λk e=>by omega)).side rn.o cB (λk e=>by omega),(HQ.o.2.1.trans nJ.o.2 (λk e=> .inr (by omega))).trans cB (λk e=> .inr (by omega))⟩
theorem rH (h:TX w F p s cR q l m t n S G T) (hp:ar w F a t n) (x:Int):
  Calls prog 75 #[.pointer (some ⟨a,0,none⟩), .int .i64 x] w λe w'=>e= .returned (.int .i64 (T.cE G S (dX G.y) x).1)/\TX w' F p s (cR+2) q l m t n S G ((T.cE G S (dX G.y) x).2.eU G S (T.cE G S (dX G.y) x).1)/\ad (cq F t n) w w':=by
 obtain⟨aH,gm,dU,jx⟩:=vD w (.cells #[.pointer (some ⟨a,0,none⟩)] 35) (.cells #[.int .i64 0] 39);obtain⟨w1,bd⟩:∃w1,w1=(w.alloc (.cells #[.pointer (some ⟨a,0,none⟩)] 35)).alloc (.cells #[.int .i64 0] 39):=⟨_,rfl⟩;rw [<-bd] at aH gm dU jx;have aS:=h.lt;have dj:=h.later aH;have gM:=hp.later aH;have aA:=oR dj gM;have HT:Yh (∀w2,Below w1.drew.heap.size w1.drew w2->Calls prog 115 #[.pointer (some ⟨a,0,none⟩),fe (dX G.y), .int .i64 x] w2 λe w'=>CK (T.cE G S (dX G.y) x).1 (.tuple #[]) e/\TX w' F p s (cR+2) q l m t n S G (T.cE G S (dX G.y) x).2/\ad (cq F t n) w2 w'):=λw2 hb=>yR (dj.later hb) (gM.later hb) (dX G.y) (Ay h.yk) x;have c0:w1.drew.cell? ⟨w.heap.size,0,none⟩=some (.pointer (some ⟨a,0,none⟩)):=aa gm (j:=0) rfl;have n1:¬cq F t n w.heap.size:=λhf=>by have:=aS _ hf;omega
 have n2:¬cq F t n (w.heap.size+1):=λhf=>by have:=aS _ hf;omega
 have HG:=yh (And.intro gm dU);have HB:=yh aH;have HP:=yh gM;have rn:=yh h.low;have gh:=hp.lt;generalize T.cE G S (dX G.y) x=R at*;generalize fe (dX G.y)=V at*;have J4:w.heap.size+1≠t:=λe=>n2 (.inr (.inl e));clear h hp aH dj gM gm dU
 go_enter_defers func75,ntmps75
 go_wp2_with fail;rw [<-bd];clear bd;refine jn (Ia [{target:= .fn (.func 117) #[.pointer (some ⟨w.heap.size,0,none⟩), .pointer (some ⟨w.heap.size+1,0,none⟩)],args:= #[]}] [(4, .pointer (some ⟨w.heap.size+1,0,none⟩))] (λc w3=>c=iD R.1/\R.1≠0/\TX w3 F p s (cR+2) q l m t n S G R.2/\ad (cq F t n) w w3/\ar w3 F a t n/\w3.heap[w.heap.size]? =some (.cells #[.pointer (some ⟨a,0,none⟩)] 35 (0,0))/\w3.heap[w.heap.size+1]? =some (.cells #[.int .i64 0] 39 (0,0)))) ?_ ?_
 .rintro c A w3 ⟨hd,kD,rfl,hZ,gy,aR,nL,g1,g2⟩;have s3:=kD (4, .pointer (some ⟨w.heap.size+1,0,none⟩)) (by simp)
  dsimp only at s3
  rw [Array.getD_eq_getD_getElem?] at s3;have ly:R.2.eU G S R.1=(R.2.aT G S R.1).2:=by unfold TG.eU;rw [if_neg hZ]
  have Rh:=yh ly;clear ly;go_wp2;show Leaves prog _ A.tmps _ A.defers _ w3;rw [hd];refine leaves_cons (f:=117) (args:= #[.pointer (some ⟨w.heap.size,0,none⟩), .pointer (some ⟨w.heap.size+1,0,none⟩)]) (by simp) (by simp [go_sem]) ?_;refine(Aw gy nL g1 g2 J4 R.1).mono ?_;rintro e u' w4 ⟨rfl,rfl,w5,rW,cB,gc,jP⟩;have q2:w4.cell? ⟨w.heap.size+1,0,none⟩=some (.int .i64 R.1):=aa gc (j:=0) rfl;simp [Leaves,settle,results,results75,go_sem,s3,q2,Rh.o];exact⟨rW.side rn.o jP (λk e=>by omega),(aR.trans cB (λ_ e=> .inl (.inr (.inl e)))).trans jP (λk e=> .inr (by omega))⟩
 refine wp_region_held_drew (S:=(λw'=>w'.cell? ⟨w.heap.size,0,none⟩=some (.pointer (some ⟨a,0,none⟩)))) (by kernel_rfl) (c0) (λaC=>?_);refine wpAnyH_take (i:=0) (oi:={dst:=some 6,op:=Op.load 35 (Operand.tmp 2),type:=35,pos:= "pool.go:49",after:= #[],guard:=none}) (v:= .pointer (some ⟨a,0,none⟩)) rfl (by kernel_rfl) (by kernel_rfl) (by kernel_rfl) (dZ (d:=6) (by simp)) (Or.inl ⟨by rfl,?_⟩) (by assumption) ?_
 .intro w aw
  (try dsimp only at aw)
  go_simp
 try simp only [Act.put,List.setIfInBounds_toArray,List.set_cons_zero,List.set_cons_succ]
 refine wpAnyH_take (i:=1) (oi:={dst:=some 7,op:=Op.load 35 (Operand.tmp 2),type:=35,pos:= "pool.go:49",after:= #[],guard:=none}) (v:= .pointer (some ⟨a,0,none⟩)) rfl (by kernel_rfl) (by kernel_rfl) (by kernel_rfl) (dZ (d:=7) (by simp)) (Or.inl ⟨by rfl,?_⟩) (by assumption) ?_
 .intro w aw
  (try dsimp only at aw)
  go_simp
 try simp only [Act.put,List.setIfInBounds_toArray,List.set_cons_zero,List.set_cons_succ]
 refine wpAnyH_take (i:=3) (oi:={dst:=some 9,op:=Op.move (Operand.tmp 1),type:=3,pos:= "pool.go:49",after:= #[],guard:=none}) (v:= .int .i64 x) rfl (by kernel_rfl) (by kernel_rfl) (by kernel_rfl) (dZ (d:=9) (by simp)) (Or.inl ⟨by rfl,?_⟩) (by assumption) ?_
 .intro w aw
  (try dsimp only at aw)
  go_simp
 try simp only [Act.put,List.setIfInBounds_toArray,List.set_cons_zero,List.set_cons_succ]
 refine wpAnyH_ready (rs:= [2]) (by kernel_rfl) (by simp) ?_;refine AllReadyH.cons (o:={dst:=some 8,op:=Op.call {callee:=Callee.value (Operand.func 26),args:= #[Operand.tmp 7],argTypes:= #[35]},type:=61,pos:= "pool.go:49",after:= #[{on:=1,ground:=Ground.data}],guard:=none}) rfl (λK hK=>?_) AllReadyH.nil;go_simp;refine aA.mono ?_;rintro e w2 ⟨rfl,aG⟩;have om:w2.cell? ⟨w.heap.size,0,none⟩=some (.pointer (some ⟨a,0,none⟩)):=aa ((aG.block _ (af HG.o.1)).trans HG.o.1) (j:=0) rfl;refine hK.out _ _ ?_ (λaC=>?_)
 .exact om
 clear hK K;try simp only [Act.put,List.setIfInBounds_toArray,List.set_cons_zero,List.set_cons_succ]
 refine wpAnyH_ready (rs:= [4]) (by kernel_rfl) (by simp) ?_;refine AllReadyH.cons (o:={dst:=some 10,op:=Op.call {callee:=Callee.value (Operand.func 115),args:= #[Operand.tmp 6,Operand.tmp 8,Operand.tmp 9],argTypes:= #[35,61,3]},type:=0,pos:= "pool.go:49",after:= #[{on:=0,ground:=Ground.data},{on:=2,ground:=Ground.data},{on:=3,ground:=Ground.data},{on:=2,ground:=Ground.chain}],guard:=none}) rfl (λK hK=>?_) AllReadyH.nil;go_simp;refine(HT.o w2 aG).mono ?_;rintro e w3 ⟨sN,gy,aR⟩;have ph:=(ad.ag (cq F t n) HB.o).trans ((ad.ag (cq F t n) aG).trans aR (λ_ h=> .inl h)) (λ_ h=> .inl h);have g1:=(aR.block _ (Nat.lt_of_lt_of_le (af HG.o.1) aG.size) n1).trans ((aG.block _ (af HG.o.1)).trans HG.o.1);have g2:=(aR.block _ (Nat.lt_of_lt_of_le (af HG.o.2) aG.size) n2).trans ((aG.block _ (af HG.o.2)).trans HG.o.2);have nL:=(HP.o.later aG).ak aR;have HQ:Yh (TX w3 F p s (cR+2) q l m t n S G R.2/\ad (cq F t n) w w3/\ar w3 F a t n):=⟨gy,ph,nL⟩;have mh:=yh (And.intro g1 g2);unfold CK at sN;have sO:w3.cell? ⟨w.heap.size,0,none⟩=some (.pointer (some ⟨a,0,none⟩)):=aa g1 (j:=0) rfl;have d0:w3.cell? ⟨w.heap.size+1,0,none⟩=some (.int .i64 0):=aa g2 (j:=0) rfl;have f0:=ae g2 0;clear aA aG c0 om gy aR ph g1 g2 nL;by_cases cI:R.1=0
 rotate_left
 .rw [if_neg cI] at sN;subst sN;exact⟨rfl,by simp,rfl,cI,HQ.o.1,HQ.o.2.1,HQ.o.2.2,mh.o.1,mh.o.2⟩
 .rw [if_pos cI] at sN;subst sN;have Rh:Yh (R.1=0/\R.2.eU G S 0=R.2):=⟨cI,by unfold TG.eU;rw [if_pos rfl]⟩;clear cI;refine hK.out _ _ ?_ (λaC=>?_)
  .exact sO
  clear hK K;try simp only [Act.put,List.setIfInBounds_toArray,List.set_cons_zero,List.set_cons_succ]
  have pe:=iK (w:=w3) (w':=w3) (x:=0) (.int .i64 0) rfl (ad.refl _ _) mh.o.2;refine wpAnyH_done (by kernel_rfl) ?_ _
  dsimp only [wY]
  have YX:=yh pe;clear pe aC sO;go_wp2;have pe:=YX.o;obtain⟨w4,mD⟩:∃w4,w4=w3.setCell ⟨w.heap.size+1,0,none⟩ (.int .i64 0):=⟨_,rfl⟩;rw [<-mD] at pe;rw [<-mD];have nJ:=yh pe;clear pe mD YX d0 f0;refine leaves_cons (f:=117) (args:= #[.pointer (some ⟨w.heap.size,0,none⟩), .pointer (some ⟨w.heap.size+1,0,none⟩)]) (by simp) (by simp [go_sem]) ?_;have z8:ar w4 F a t n:=⟨(nJ.o.2.block a HQ.o.2.2.lt (by omega)).trans HQ.o.2.2.b,HQ.o.2.2.nf⟩;have g4:=(nJ.o.2.block _ (af mh.o.1) (by omega)).trans mh.o.1;refine(C0 z8 g4 nJ.o.1).mono ?_;rintro e u' w5 ⟨rfl,rfl,gc,cB⟩;have q2:w5.cell? ⟨w.heap.size+1,0,none⟩=some (.int .i64 0):=aa gc (j:=0) rfl;simp [Leaves,settle,results,results75,go_sem,q2,Rh.o.1,Rh.o.2];exact⟨(HQ.o.1.side rn.o nJ.o.2 (λk e=>by omega)).side rn.o cB (λk e=>by omega),(HQ.o.2.1.trans nJ.o.2 (λk e=> .inr (by omega))).trans cB (λk e=> .inr (by omega))⟩
end
end
theorem Kt (b o b' o':Nat) (n c d:Nat) (l l':List Int) (w:World) (hn:n<=140737488355328) (hl:l.length=n) (QA:l'.length=n) (h1:∀i,i<n->w.cell? ⟨b,o+i,none⟩=some (.int .u8 (l.getD i 0))) (h2:∀i,i<n->w.cell? ⟨b',o'+i,none⟩=some (.int .u8 (l'.getD i 0))):
  Calls prog 33 #[.slice (some ⟨b,o,none⟩) n c, .slice (some ⟨b',o',none⟩) n d] w λe w'=>e= .returned (.bool (decide (l=l')))/\Below w.heap.size w w':=by
 have h':(((n:Int)) != (n:Int))=false:=by simp
 have H1:=yh h1;have H2:=yh h2;clear h1 h2;go_enter func33,ntmps33;go_wp2;go_loopw [5] (λi wr=>∃k:Nat,k<=n/\i= .int .i64 k/\l.take k=l'.take k/\Below w.heap.size w wr) (λi _=>n-(intOf i).toNat);case atStart=>exact⟨0,Nat.zero_le _,rfl,by simp,Below.refl _ _⟩
 case round=>
  obtain⟨k,hk,rfl,rR,hb⟩:=hrel;have P8:=yh rR;clear rR;by_cases aS:k<n
  .have c1:=cell_later hb (H1.o k aS);have c2:=cell_later hb (H2.o k aS);have cH:(k:Int)<(n:Int):=(by omega);by_cases hx:l.getD k 0=l'.getD k 0
   .have Hnx:=yh (zB P8.o (by omega) (by omega) hx);have aG:=yh (λj=>below_drewN hb j);rw [hx] at c1;generalize l'.getD k 0=x at*;clear hx;go_wp2;go_quiet (fail);go_wp2;go_roundw;case rel=>exact⟨k+1,by omega,by go_num,Hnx.o,below_drewN hb _⟩
    case measure=>simp [intOf];omega
   .have eM:l≠l':=Ep hx;have hd:Yh (decide (l=l')=false):=(by show decide (l=l')=false;simp [eM]);have VZ:((l.getD k 0) != (l'.getD k 0))=true:=(by rw [bne_iff_ne];exact hx);generalize l'.getD k 0=x at*;generalize l.getD k 0=y at*;clear hx eM;go_wp2;go_quiet (fail);go_wp2;go_ret;exact⟨by rw [hd.out];rfl,below_drewN hb _⟩
  .have cH:¬(k:Int)<(n:Int):=(by omega);have hd:Yh (decide (l=l')=true):=by
    have:=P8.o;rw [List.take_of_length_le (by omega),List.take_of_length_le (by omega)] at this;show decide (l=l')=true;simp [this]
   go_wp2;go_ret;exact⟨by rw [hd.out];rfl,hb⟩
section
def qz (d:List Int):List Bool:=(List.range 4096).map λi=>cy d i
theorem jq (d:List Int):(qz d).length=4096:=by simp [qz]
theorem vS (d:List Int) {i:Nat} (hi:i<4096):(qz d).getD i false=cy d i:=by simp [qz,List.getD,hi]
theorem oA (l:List Bool):Bytes (dB l):=λx hx=>by
 obtain⟨i,_,rfl⟩:=List.mem_map.1 hx;have:=um l (8*i) 8;exact⟨by omega,by omega⟩
theorem Ri (l:List Bool) (a:Nat) {k:Nat} (hk:k<8):decide (nE l a 8 / 2 ^ k%2=1)=l.getD (a+k) false:=by
 have e:nE l a 8=2*(2*(2*(2*(2*(2*(2*(2*0+(if l.getD (a+7) false then 1 else 0))+(if l.getD (a+6) false then 1 else 0))+(if l.getD (a+5) false then 1 else 0))+(if l.getD (a+4) false then 1 else 0))+(if l.getD (a+3) false then 1 else 0))+(if l.getD (a+2) false then 1 else 0))+(if l.getD (a+1) false then 1 else 0))+(if l.getD (a+0) false then 1 else 0):=rfl;rw [e];have hh:∀(b0 b1 b2 b3 b4 b5 b6 b7:Bool),((List.range 8).all λk=>decide ((2*(2*(2*(2*(2*(2*(2*(2*0+(if b7 then 1 else 0))+(if b6 then 1 else 0))+(if b5 then 1 else 0))+(if b4 then 1 else 0))+(if b3 then 1 else 0))+(if b2 then 1 else 0))+(if b1 then 1 else 0))+(if b0 then 1 else 0)) / 2 ^ k%2=1) == [b0,b1,b2,b3,b4,b5,b6,b7].getD k false)=true:=by decide+kernel
 have h9:=hh (l.getD (a+0) false) (l.getD (a+1) false) (l.getD (a+2) false) (l.getD (a+3) false) (l.getD (a+4) false) (l.getD (a+5) false) (l.getD (a+6) false) (l.getD (a+7) false);rw [List.all_eq_true] at h9;have h8:=eq_of_beq (h9 k (List.mem_range.2 hk));rw [h8]
 match k,hk with
 |0,_=>rfl
 |1,_=>rfl
 |2,_=>rfl
 |3,_=>rfl
 |4,_=>rfl
 |5,_=>rfl
 |6,_=>rfl
 |7,_=>rfl
theorem jE (l:List Bool) {i:Nat} (hi:i<4096):cy (dB l) i=l.getD i false:=by
 unfold cy;rw [yB l _ (by omega),fq,Ri l _ (by omega)];congr 1;omega
theorem Oo {d:List Int} (h:Bytes d) (hl:d.length=512):dB (qz d)=d:=
 sJ (oA _) h ((ck _).trans hl.symm) (λi hi=>by rw [ck] at hi;rw [jE _ (by omega),vS d (by omega)])
theorem DA {l:List Bool} (hl:l.length=4096):qz (dB l)=l:=by
 apply List.ext_getElem ((jq _).trans hl.symm);intro i h1 h2;have e1:=vS (dB l) (i:=i) (by omega);rw [jE l (by omega)] at e1;simp only [List.getD,List.getElem?_eq_getElem h1,List.getElem?_eq_getElem h2,Option.getD_some] at e1;exact e1
theorem UY {l l':List Bool} (hl:l.length=4096) (QA:l'.length=4096) (h:dB l=dB l'):l=l':=by
 rw [<-DA hl,<-DA QA,h]
def rI (n:Nat):List Bool:=(List.range 4096).map λi=>decide (i<n)
theorem rJ (n:Nat):(rI n).length=4096:=by simp [rI]
theorem DB (n:Nat) {i:Nat} (hi:i<4096):(rI n).getD i false=decide (i<n):=by simp [rI,List.getD,hi]
theorem UZ {n:Nat} (hn:n<=4096):dB (rI n)=nI n:=
 sJ (oA _) (kw n) ((ck _).trans (oP n).symm) (λi hi=>by rw [ck] at hi;rw [jE _ (by omega),DB n (by omega),Aq n hn])
section
variable {w:World} {g c g' c':Nat} {l l':List Bool}
theorem ao.rK (h:ao w 4 g c (fK l)) (i:Nat) (x:Bool):ao (w.setCell ⟨g,i,none⟩ (.bool x)) 4 g c (fK (l.set i x)):=by
 obtain⟨cur,hb,hc,ht,hm⟩:=h;refine⟨cur.setIfInBounds i (.bool x),heap_setCell_same _ _ _ _ _ _ hb,by simpa using hc,?_,hm⟩;have e:(fK (l.set i x)).length=(fK l).length:=by simp [fK]
 rw [e,Array.toList_setIfInBounds,List.take_set,ht,fK,fK,List.map_set]
theorem FX {k:Nat} (h:l.take k=l'.take k) (h1:k<l.length) (h2:k<l'.length) (e:l.getD k false=l'.getD k false):l.take (k+1)=l'.take (k+1):=by
 rw [List.take_succ_eq_append_getElem h1,List.take_succ_eq_append_getElem h2,h];simp [List.getD,h1,h2] at e;rw [e]
theorem yS (h1:ao w 4 g c (fK l)) (h2:ao w 4 g' c' (fK l')) (hl:l.length=4096) (QA:l'.length=4096):
  Calls prog 65 #[.slice (some ⟨g,0,none⟩) 4096 c, .slice (some ⟨g',0,none⟩) 4096 c'] w λe w'=>e= .returned (.bool (decide (l=l')))/\Below w.heap.size w w':=by
 have H1:=yh h1;have H2:=yh h2;clear h1 h2;go_enter func65,ntmps65;go_wp2;go_loopw [5] (λi wr=>∃k:Nat,k<=4096/\i= .int .i64 (k:Int)/\l.take k=l'.take k/\Below w.heap.size w wr) (λi _=>4096-(intOf i).toNat);case atStart=>exact⟨0,Nat.zero_le _,rfl,by simp,Below.refl _ _⟩
 case round=>
  obtain⟨k,hk,rfl,rR,hb⟩:=hrel;have P8:=yh rR;clear rR;by_cases aS:k<4096
  .have c1:=cell_later hb (H1.o.nw (i:=k) (by omega));have c2:=cell_later hb (H2.o.nw (i:=k) (by omega));have cH:(k:Int)<4096:=(by omega);by_cases hx:l.getD k false=l'.getD k false
   .have Hnx:=yh (FX P8.o (by omega) (by omega) hx);rw [hx] at c1;generalize l'.getD k false=x at*;clear hx;go_wp2;go_quiet (fail);go_wp2;go_roundw;case rel=>exact⟨k+1,by omega,by go_num,Hnx.o,below_drewN hb _⟩
    case measure=>simp [intOf];omega
   .have eM:l≠l':=λh=>hx (by rw [h]);have hd:Yh (decide (l=l')=false):=(by show decide (l=l')=false;simp [eM]);generalize l'.getD k false=x at*;generalize l.getD k false=y at*;clear eM;cases x <;> cases y
    .exact absurd rfl hx
    .clear hx;go_wp2;go_quiet (fail);go_wp2;go_ret;exact⟨by rw [hd.out];rfl,below_drewN hb _⟩
    .clear hx;go_wp2;go_quiet (fail);go_wp2;go_ret;exact⟨by rw [hd.out];rfl,below_drewN hb _⟩
    .exact absurd rfl hx
  .have cH:¬(k:Int)<4096:=(by omega);have hd:Yh (decide (l=l')=true):=by
    have:=P8.o;rw [List.take_of_length_le (by omega),List.take_of_length_le (by omega)] at this;show decide (l=l')=true;simp [this]
   go_wp2;go_ret;exact⟨by rw [hd.out];rfl,hb⟩
end
end
section
section
variable {w:World} {d:List Int}
def sS (d:List Int) (m:Nat):List Bool:=(qz d).take m ++ List.replicate (4096-m) false
theorem Ku (d:List Int):sS d 0=List.replicate 4096 false:=by unfold sS;rw [List.take_zero,List.nil_append,Nat.sub_zero]
theorem Kv (d:List Int):sS d 4096=qz d:=by
 unfold sS;rw [List.take_of_length_le (by rw [jq];exact Nat.le_refl _)];simp
theorem Oq (d:List Int) {m:Nat} (hm:m<=4096):(sS d m).length=4096:=by
 unfold sS;rw [List.length_append,List.length_take,jq,List.length_replicate];omega
theorem Ot (d:List Int) {m:Nat} (hm:m<4096):(sS d m).set m (cy d m)=sS d (m+1):=by
 unfold sS;have h1:((qz d).take m).length=m:=by rw [List.length_take,jq];omega
 have h2:m<(qz d).length:=by rw [jq];exact hm
 have h3:(qz d)[m]=cy d m:=by
  have h9:=vS d hm;rw [List.getD,List.getElem?_eq_getElem h2,Option.getD_some] at h9;exact h9
 rw [List.set_append_right _ _ (by omega),h1,Nat.sub_self,show 4096-m=(4096-(m+1))+1 by omega,List.replicate_succ,List.set_cons_zero,List.take_succ_eq_append_getElem h2,List.append_assoc,h3];rfl
theorem ao.Rj {e:TypeId} {g c:Nat} {xs:List Value} (h:ao w e g c xs) (j:Nat):w.frozen? ⟨g,j,none⟩=false:=by
 obtain⟨cur,hb,_⟩:=h;exact ae hb j
theorem Ou {x k:Nat}:(((x / 2 ^ k:Nat):Int)%2 == 1)=decide (x / 2 ^ k%2=1):=by
 generalize x / 2 ^ k=y;by_cases h:y%2=1
 .rw [decide_eq_true h];simp;omega
 .rw [decide_eq_false h];simp;omega
theorem xu {a:Option Addr} {c:Nat} (hs:Src w a 512 d) (hd:Bytes d):Calls prog 124 #[.slice a 512 c] w λe w'=>∃g c',e= .returned (.slice (some ⟨g,0,none⟩) 4096 c')/\w.heap.size<=g/\ao w' 4 g c' (fK (qz d))/\Below w.heap.size w w':=by
 have hk:=oq w;have HS:=yh hs;have HD:=yh hd;have tf:d.length=512:=hs.1;clear hs hd;go_enter func124,ntmps124;go_wp2_with fail;refine hk.mono ?_;rintro e w1 ⟨v,rfl,fU,aq⟩;obtain⟨g,cg,hv,hg,hr⟩:=fU.row (by simp);rw [List.length_replicate] at hv;subst hv;have hcg:4096<=cg:=by have:=hr.le;simpa [fK] using this
 have Ba:cg<=9223372036854775807:=by have:=hr.max;unfold maxLen at this;omega
 have HR:Yh (ao w1 4 g cg (fK (sS d 0))/\Below w.heap.size w w1):=⟨by rw [Ku];exact hr,aq⟩;clear hk fU hr aq;go_wp2;go_loopw [4] (λiv wr=>∃i:Nat,i<=512/\iv= .int .i64 (i:Int)/\ao wr 4 g cg (fK (sS d (8*i)))/\Below w.heap.size w wr) (λiv _=>512-(intOf iv).toNat);case atStart=>exact⟨0,Nat.zero_le _,rfl,HR.o⟩
 case round=>
  clear HR;obtain⟨i,hi,rfl,hr,hb⟩:=hrel;have H1:=yh (And.intro hr hb);clear hr hb;by_cases aS:i<512
  .have cH:(i:Int)<512:=(by omega);obtain⟨x,hx,dV⟩:=qn (ij HD.o i);cases a with
   |none=>have:=HS.o.2.1 rfl;omega
   |some y=>
   obtain⟨b,o,rfl,hc⟩:=HS.o.spot (by omega);have lW:b<w.heap.size:=World.block_lt_of_cell? _ _ (hc i aS);have c0:wr.cell? ⟨b,o+i,none⟩=some (.int .u8 (x:Int)):=by
    rw [World.cell?_of_block (w:=w) (a:=⟨b,o+i,none⟩) (H1.o.2.block b lW),hc i aS,hx]
   have HX:Yh (∀k,k<8->cy d (8*i+k)=decide (x / 2 ^ k%2=1)):=λk hk=>by
    unfold cy;rw [show (8*i+k) / 8=i by omega,show (8*i+k)%8=k by omega,hx,fq]
   have zo:(0:Int)<=(i:Int):=(by omega);clear hx hc lW;go_wp2;clear c0;go_loopw [5,6] (λvv kv wr=>∃k:Nat,k<=8/\kv= .int .i64 (k:Int)/\vv= .int .i64 ((x / 2 ^ k:Nat):Int)/\ao wr 4 g cg (fK (sS d (8*i+k)))/\Below w.heap.size w wr) (λ_ kv _=>8-(intOf kv).toNat);case atStart=>exact⟨0,Nat.zero_le _,rfl,by simp,H1.o⟩
   case round=>
    clear H1;obtain⟨k,hk,rfl,rfl,hr,hb⟩:=hrel;by_cases r8:k<8
    .have NI:(k:Int)<8:=(by omega);have hq:(((x / 2 ^ k:Nat):Int)).tmod 2=((x / 2 ^ k:Nat):Int)%2:=Int.tmod_eq_emod_of_nonneg (Int.natCast_nonneg _);have xI:(((x / 2 ^ k:Nat):Int)).tdiv 2=((x / 2 ^ (k+1):Nat):Int):=by
      rw [Nat.pow_succ,<-Nat.div_div_eq_div_mul];rfl
     obtain⟨m,hm⟩:∃m,m=8*i+k:=⟨_,rfl⟩;have bd:wrap64 (8*(i:Int))=8*(i:Int):=(by rw [IntWalk.wrap64_in _ (by omega)]);have Te:8*(i:Int)+(k:Int)=(m:Int):=(by omega);have wK:(m:Int)<4096:=(by omega);have JO:(0:Int)<=(m:Int):=(by omega);rw [<-hm] at hr;have cm:=hr.nw (i:=m) (by rw [Oq d (by omega)];omega);have fm:=hr.Rj m;have YY:cy d m=(((x / 2 ^ k:Nat):Int)%2 == 1):=(by rw [hm,HX.o k r8,Ou]);have jf:=hr.rK m (cy d m);rw [Ot d (by omega),YY,show m+1=8*i+(k+1) by omega] at jf;have HE:=yh (And.intro jf (hb.trans ((Below.refl w.heap.size wr).setCell (p:=⟨g,m,none⟩) (by simpa using hg) (.bool (((x / 2 ^ k:Nat):Int)%2 == 1)))));clear hr hb jf YY hm HX;obtain⟨y2,YZ⟩:∃y2,y2=x / 2 ^ (k+1):=⟨_,rfl⟩;have hy3:y2<256:=(by rw [YZ];exact Nat.lt_of_le_of_lt (Nat.div_le_self _ _) dV);rw [<-YZ] at xI;have HY:=yh YZ;clear YZ;generalize ((x / 2 ^ k:Nat):Int)=y at*;generalize (sS d m).getD m false=z at*;go_wp2;go_roundw;case rel=>exact⟨k+1,by omega,by go_num,by rw [<-HY.o],HE.o⟩
     case measure=>simp [intOf];omega
    .obtain rfl:k=8:=(by omega);have NI:¬(8:Int)<8:=(by omega);rw [show 8*i+8=8*(i+1) by omega] at hr;have HE:=yh (And.intro hr hb);clear hr hb r8 HX;generalize ((x / 2 ^ 8:Nat):Int)=y at*;go_wp2;go_roundw;case rel=>exact⟨i+1,by omega,by go_num,HE.o⟩
     case measure=>simp [intOf];omega
  .obtain rfl:i=512:=(by omega);have cH:¬(512:Int)<512:=(by omega);go_wp2;go_ret;refine⟨g,cg,rfl,hg,?_,H1.o.2⟩;have h9:=H1.o.1;rw [show 8*512=4096 from rfl,Kv] at h9;exact h9
end
end
section
def ints (l:List Nat):List Value:=l.map λ(x:Nat)=> .int .i64 ((x:Nat):Int)
structure IL (w:World) (X:Nat->Prop) (v:Value) (l:List Nat):Prop where
 own:w.ownsRow 0 3 1 v l.length (ints l)
 x:∀g,v.ownBlock=some g->X g
section
variable {w w':World} {X Y Z:Nat->Prop} {v:Value} {l:List Nat}
theorem IL.lt (h:IL w X v l) {g:Nat} (hg:v.ownBlock=some g):g<w.heap.size:=by
 obtain⟨cur,hc⟩:=ay h.own hg;exact af hc
theorem IL.ak (h:IL w X v l) (hk:ad Z w w') (hZ:∀g,v.ownBlock=some g->¬Z g):IL w' X v l:=
   ⟨bP h.own (λg hg=>hk.block g (h.lt hg) (hZ g hg)),h.x⟩
theorem IL.later (h:IL w X v l) (hb:Below w.heap.size w w'):IL w' X v l:=h.ak (ad.ag (λ_=>False) hb) (λ_ _ h=>h)
theorem IL.form (h:IL w X v l):∃a c,v= .slice a l.length c:=by
 obtain⟨_,⟨rfl,h0⟩|⟨g,cap,cur,rfl,_⟩⟩:=h.own
 .exact⟨none,0,by rw [h0]⟩
 .exact⟨_,_,rfl⟩
theorem IL.at (h:IL w X v l) {i x:Nat} (hi:l[i]? =some x):∃g c,v= .slice (some ⟨g,0,none⟩) l.length c/\w.cell? ⟨g,i,none⟩=some (.int .i64 (x:Int)):=by
 have hx:(ints l)[i]? =some (.int .i64 (x:Int)):=by unfold ints;rw [List.getElem?_map,hi];rfl
 obtain⟨_,⟨rfl,h0⟩|⟨g,cap,cur,rfl,hr⟩⟩:=h.own
 .rw [List.length_eq_zero_iff.1 h0] at hi;cases hi
 .refine⟨g,cap,rfl,?_⟩;have:=h.own.cells (g:=g) rfl i _ hx;rwa [aV,Nat.zero_add] at this
theorem IL.app (h:IL w X v l) (x:Nat) (hn:l.length<=1000000):
  ∃g2 gw w2,(Builtin.append_ #[26,26] 26 #[v, .slice (some ⟨w.heap.size,0,none⟩) 1 1]).run prog (w.alloc (.cells #[.int .i64 (x:Int)] 3))= .ok (.slice (some ⟨g2,0,none⟩) (l.length+1) gw) w2/\IL w2 (λj=>X j\/w.heap.size<=j) (.slice (some ⟨g2,0,none⟩) (l.length+1) gw) (l ++ [x])/\ad (λj=>v.ownBlock=some j) w w2/\(v.ownBlock=some g2\/w.heap.size<=g2):=by
 obtain⟨i0,hi,iX,eR,eE⟩:=info_parts zj;obtain⟨g2,gw,w2,ct,bB,bS,k7,_⟩:=run_append_lies (P:=prog) (w.alloc (.cells #[.int .i64 (x:Int)] 3)) 26 26 0 3 i0 (.int .i64 0) 1 8 underlying26 hi iX eR eE rfl (by decide) v l.length (ints l) (bP h.own (λg hg=>Below.heap_alloc _ _ _ (h.lt hg))) ⟨w.heap.size,0,none⟩ 1 1 [.int .i64 (x:Int)] rfl (World.news_of_block (cs:= #[.int .i64 (x:Int)]) (t:=3) (fr:=(0,0)) (heap_alloc_new w _)) (by simp [Value.oneCell']) (by omega) (by unfold maxLen;omega) (by omega) (Nat.zero_le _) _ rfl;have bw:=an w (.cells #[.int .i64 (x:Int)] 3);have hk:ad (λj=>v.ownBlock=some j) w w2:=⟨bS.os.trans bw.os,bS.tape.trans bw.tape,bS.output.trans bw.output,Nat.le_trans bw.size bS.size,λk hk hq=>(bS.block k (Nat.lt_of_lt_of_le hk bw.size) (λe=>hq e.symm)).trans (bw.block k hk)⟩;have NR:v.ownBlock=some g2\/w.heap.size<=g2:=k7.imp (λe=>e) (λe=>by simp at e;omega);refine⟨g2,gw,w2,ct,⟨?_,λg' hq=>?_⟩,hk,NR⟩
 .have e:ints (l ++ [x])=ints l ++ [.int .i64 (x:Int)]:=by unfold ints;rw [List.map_append];rfl
  rw [e,List.length_append];exact bB
 .have eg:g2=g':=by simpa [Value.ownBlock] using hq
  subst eg;exact NR.imp (λe=>h.x _ e) (λe=>e)
end
section
variable {G:SG} {S:DS} {T:TG}
theorem DC {bm:Nat} {d:List Int} (dw:CM.Ok T.puts) (i:Nat):({T with puts:=CM.put T.puts bm d}:TG).bq G S i=if i=bm then d else T.bq G S i:=by
 show (CM.get (CM.put T.puts bm d) i).getD _=_;rw [CM.jK _ _ _ _ dw];split <;> rfl
end
section
variable {w:World} {F:Nat->Prop} {p s cR q l m t n:Nat} {S:DS} {G:SG} {T:TG}
theorem vT (h:TX w F p s cR q l m t n S G T) (b:Nat) (r0:T.refusal G S b=0):Calls prog 32 #[.pointer (some ⟨t,0,none⟩), .int .i64 (b:Int)] w λe w'=>(∃g,e= .returned (.tuple #[.slice (some ⟨g,0,none⟩) 512 512, .int .i64 0])/\w.heap.size<=g/\gA w' 113 g (T.bq G S b))/\TX w' F p s (cR+1) q l m t n S G T/\ad F w w':=
   (uk h.st h.tx (b:Int) h.Ue).mono (λe w' ⟨hx,hd,hk⟩=>by
  unfold qg at hx;rw [if_neg (λhh=>hh r0),Int.toNat_natCast] at hx;exact⟨hx,h.asked hd hk,hk⟩)
end
end
section
def MP.state (M:MP):Int:=if M.dead then 3 else if M.opn then M.bad else 4
def MP.puts (M:MP) (b:Nat):Int×MP:=if b∈M.put then (0,M) else if M.put.length=16 then (50,{M with bad:=50}) else (0,{M with put:=M.put ++ [b]})
def MP.jr (M:MP) (b:Nat) (l:List Bool):Int×MP:=
 if (if b=1 then M.nn else M.nb)=l then (0,M) else if (M.puts b).1≠0 then M.puts b else (0,if b=1 then {(M.puts b).2 with nn:=l} else {(M.puts b).2 with nb:=l})
section
variable {w w':World} {X Y Z:Nat->Prop} {k g1 c1 g2 c2 g3 c3 g4 c4:Nat} {v5 v6 v7 U0:Value} {M M':MP}
theorem Po.qG (h:Po w X k g1 c1 g2 c2 g3 c3 g4 c4 v5 v6 v7 M) (hk:ad Z w w') (hZ:∀g,Z g->∃cur t fz,w.heap[g]? =some (.cells cur t fz)/\t≠4/\t≠5/\t≠44) (hY:∀j,X j->Y j)
    (hb:w'.heap[k]? =some (.cells (tY M' (bt g1 c1) (bt g2 c2) (bt g3 c3) (bt g4 c4) v5 v6 U0) 72 (0,0))) (kJ:NX w' Y U0 M'.put) (e1:M'.ob=M.ob) (e2:M'.on=M.on) (e3:M'.nb=M.nb) (e4:M'.nn=M.nn) (e5:M'.eI=M.eI) (e6:M'.raw=M.raw) (e7:M'.opn=M.opn):
  Po w' Y k g1 c1 g2 c2 g3 c3 g4 c4 v5 v6 U0 M':=by
 have aq:∀g,Z g->∃cur t fz,w.heap[g]? =some (.cells cur t fz)/\t≠4:=λg hg=>by obtain⟨a,t,f,q1,q2,_⟩:=hZ g hg;exact⟨a,t,f,q1,q2⟩
 have aG:∀g,Z g->∃cur t fz,w.heap[g]? =some (.cells cur t fz)/\t≠5/\t≠44:=λg hg=>by obtain⟨a,t,f,q1,_,q3⟩:=hZ g hg;exact⟨a,t,f,q1,q3⟩
 exact⟨hb,hY _ h.xk,by rw [e1];exact⟨hY _ h.ob.1,h.ob.2.1.dP hk aq,h.ob.2.2⟩,by rw [e2];exact⟨hY _ h.on.1,h.on.2.1.dP hk aq,h.on.2.2⟩,by rw [e3];exact⟨hY _ h.nb.1,h.nb.2.1.dP hk aq,h.nb.2.2⟩,by rw [e4];exact⟨hY _ h.nn.1,h.nn.2.1.dP hk aq,h.nn.2.2⟩,h.KZ,h.Pp,h.Pq,h.Pr,h.Ps,h.NS,by rw [e5];exact(h.eI.ak hk aG).mono hY,by rw [e6];exact(h.raw.ak hk aG).mono hY,kJ,by rw [e7];exact h.own⟩
theorem MX.mono (h:MX w X k M) (hY:∀j,X j->Y j):MX w Y k M:=by
 obtain⟨g1,c1,g2,c2,g3,c3,g4,c4,v5,v6,v7,h⟩:=h;exact⟨g1,c1,g2,c2,g3,c3,g4,c4,v5,v6,v7,h.b,hY _ h.xk,⟨hY _ h.ob.1,h.ob.2⟩,⟨hY _ h.on.1,h.on.2⟩,⟨hY _ h.nb.1,h.nb.2⟩,⟨hY _ h.nn.1,h.nn.2⟩,h.KZ,h.Pp,h.Pq,h.Pr,h.Ps,h.NS,h.eI.mono hY,h.raw.mono hY,⟨h.put.1,λg hg=>hY _ (h.put.2 g hg)⟩,h.own⟩
theorem MX.later (h:MX w X k M) (hb:Below w.heap.size w w'):MX w' X k M:=h.apart (ad.ag (λ_=>False) hb) (λ_ h=>h.elim)
theorem de (h:MX w X k M):Calls prog 29 #[.pointer (some ⟨k,0,none⟩)] w λe w'=>e= .returned (.int .i64 M.state)/\w'=w:=by
 obtain⟨g1,c1,g2,c2,g3,c3,g4,c4,v5,v6,v7,h⟩:=h;have Wd:w.cell? ⟨k,10,none⟩=some (.int .i64 M.bad):=aa h.b (j:=10) rfl;have h11:w.cell? ⟨k,11,none⟩=some (.bool M.opn):=aa h.b (j:=11) rfl;have h12:w.cell? ⟨k,12,none⟩=some (.bool M.dead):=aa h.b (j:=12) rfl;clear h;unfold MP.state;generalize M.bad=x at*;cases hd:M.dead
 .cases ho:M.opn
  .rw [hd] at h12;rw [ho] at h11;clear hd ho;go_enter func29,ntmps29;go_wp2;go_ret;exact⟨rfl,rfl⟩
  .rw [hd] at h12;rw [ho] at h11;clear hd ho;go_enter func29,ntmps29;go_wp2;go_ret;exact⟨rfl,rfl⟩
 .rw [hd] at h12;clear hd h11;go_enter func29,ntmps29;go_wp2;go_ret;exact⟨rfl,rfl⟩
theorem kQ (h:MX w X k M) (b:Nat) (hl:M.put.length<=16):Calls prog 66 #[.pointer (some ⟨k,0,none⟩), .int .i64 (b:Int)] w λe w'=>e= .returned (.int .i64 (M.puts b).1)/\MX w' (more X w w') k (M.puts b).2/\ad X w w':=by
 obtain⟨g1,c1,g2,c2,g3,c3,g4,c4,v5,v6,v7,h⟩:=h;have oU:IL w X v7 M.put:=⟨h.put.1,h.put.2⟩;obtain⟨pa,pc,hv⟩:=oU.form;subst hv;have c9:w.cell? ⟨k,9,none⟩=some (.slice pa M.put.length pc):=aa h.b (j:=9) rfl;have c10:w.cell? ⟨k,10,none⟩=some (.int .i64 M.bad):=aa h.b (j:=10) rfl;have f9:=ae h.b 9;have f10:=ae h.b 10;have H:=yh h;have HL:=yh oU;clear h oU;obtain⟨n,hn⟩:∃n,n=M.put.length:=⟨_,rfl⟩;rw [<-hn] at c9 hl;have HN:=yh hn;clear hn;go_enter func66,ntmps66;go_wp2;go_loopw [5] (λiv wr=>∃j:Nat,j<=n/\iv= .int .i64 (j:Int)/\b∉M.put.take j/\wr=w) (λiv _=>n-(intOf iv).toNat);case atStart=>exact⟨0,Nat.zero_le _,rfl,by simp,rfl⟩
 case round=>
  obtain⟨j,hj,rfl,lu,Fh⟩:=hrel;subst Fh;by_cases aS:j<n
  .have cH:(j:Int)<(n:Int):=(by omega);have XK:j<M.put.length:=(by have:=HN.o;omega);obtain⟨g,c',e1,e2⟩:=HL.o.at (List.getElem?_eq_getElem XK);obtain⟨rfl,rfl⟩:pa=some ⟨g,0,none⟩/\pc=c':=(by cases e1;exact⟨rfl,rfl⟩);have hts:=List.take_succ_eq_append_getElem XK;obtain⟨y,hy⟩:∃y,y=M.put[j]:=⟨_,rfl⟩;rw [<-hy] at hts e2;by_cases he:y=b
   .subst he;have hm:y∈M.put:=(by rw [hy];exact List.getElem_mem _);have HE:Yh (M.puts y=(0,M)):=(by show M.puts y=(0,M);unfold MP.puts;rw [if_pos hm]);clear hts lu hy e1 hm;go_wp2;go_ret;rw [HE.o];exact⟨rfl,MX.mono ⟨_,_,_,_,_,_,_,_,_,_,_,H.o⟩ (λ_ h=> .inl h),ad.refl _ _⟩
   .have he':((y:Int) == (b:Int))=false:=(by rw [beq_eq_false_iff_ne];omega);have yH:Yh (b∉M.put.take (j+1)):=λhm=>by
     rw [hts,List.mem_append] at hm;rcases hm with hm|hm
     .exact lu hm
     .simp at hm;exact he hm.symm
    clear hts lu hy e1 he;go_wp2;go_roundw;case rel=>exact⟨j+1,by omega,by go_num,yH.o,trivial⟩
    case measure=>simp [intOf];omega
  .obtain rfl:j=n:=(by omega);have cH:¬(j:Int)<(j:Int):=(by omega);have JE:b∉M.put:=by
    rw [List.take_of_length_le (by have:=HN.o;omega)] at lu;exact lu
   by_cases rV:j=16
   .subst rV;have HE:Yh (M.puts b=(50,{M with bad:=50})):=(by show M.puts b=_;unfold MP.puts;rw [if_neg JE,if_pos HN.o.symm]);have fU:=H.o.b;have hs:(wr.setCell ⟨k,10,none⟩ (.int .i64 50)).heap[k]? =some (.cells (tY {M with bad:=50} (bt g1 c1) (bt g2 c2) (bt g3 c3) (bt g4 c4) v5 v6 (.slice pa M.put.length pc)) 72 (0,0)):=heap_setCell_same _ _ _ _ _ _ fU;have hk:=ad.setCell (F:=λj=>j=k) wr (p:=⟨k,10,none⟩) rfl (.int .i64 50);have HR:Yh (MX (wr.setCell ⟨k,10,none⟩ (.int .i64 50)) (more X wr (wr.setCell ⟨k,10,none⟩ (.int .i64 50))) k {M with bad:=50}/\ad X wr (wr.setCell ⟨k,10,none⟩ (.int .i64 50))):=by
     refine⟨⟨_,_,_,_,_,_,_,_,_,_,_,H.o.qG (Y:=more X wr _) (M':={M with bad:=50}) hk (λg hg=>by subst hg;exact⟨_,_,_,fU,by decide,by decide,by decide⟩) (λ_ h=> .inl h) hs ⟨?_,λg hg=> .inl (H.o.put.2 g hg)⟩ rfl rfl rfl rfl rfl rfl rfl⟩,hk.mono (λj hj=>by rw [hj];exact H.o.xk)⟩;exact(HL.o.ak hk (λg hg e=>by
      obtain⟨cur,hc⟩:=ay HL.o.own hg;rw [e,fU] at hc;cases hc)).own
    clear lu JE fU hs hk;go_wp2;go_ret;rw [HE.o];exact⟨rfl,HR.o⟩
   .have aiL:¬(j:Int)=16:=(by omega);have HE:Yh (M.puts b=(0,{M with put:=M.put ++ [b]})):=(by show M.puts b=_;unfold MP.puts;rw [if_neg JE,if_neg (by have:=HN.o;omega)]);obtain⟨PK,gw,w2,ct,iW,aK,k7⟩:=HL.o.app b (by have:=HN.o;omega);have tt:w2.heap[k]? =some _:=(aK.block k (af H.o.b) (λe=>by
     obtain⟨cur,hc⟩:=ay HL.o.own e;rw [H.o.b] at hc;cases hc)).trans H.o.b
    have hs:(w2.setCell ⟨k,9,none⟩ (.slice (some ⟨PK,0,none⟩) (M.put.length+1) gw)).heap[k]? =some (.cells (tY {M with put:=M.put ++ [b]} (bt g1 c1) (bt g2 c2) (bt g3 c3) (bt g4 c4) v5 v6 (.slice (some ⟨PK,0,none⟩) (M.put.length+1) gw)) 72 (0,0)):=heap_setCell_same _ _ _ _ _ _ tt;have aR:=ad.setCell (F:=λj=>j=k) w2 (p:=⟨k,9,none⟩) rfl (.slice (some ⟨PK,0,none⟩) (M.put.length+1) gw);have U1:ad (λj=>(Value.slice pa M.put.length pc).ownBlock=some j\/j=k) wr (w2.setCell ⟨k,9,none⟩ (.slice (some ⟨PK,0,none⟩) (M.put.length+1) gw)):=(aK.mono (λ_ h=> .inl h)).trans aR (λj h=> .inl (.inr h));have Rk:=iW.ak aR (λg hg e=>by
     obtain⟨cur,hc⟩:=ay iW.own hg;rw [e,tt] at hc;cases hc)
    have HR:Yh (MX (w2.setCell ⟨k,9,none⟩ (.slice (some ⟨PK,0,none⟩) (M.put.length+1) gw)) (more X wr (w2.setCell ⟨k,9,none⟩ (.slice (some ⟨PK,0,none⟩) (M.put.length+1) gw))) k {M with put:=M.put ++ [b]}/\ad X wr (w2.setCell ⟨k,9,none⟩ (.slice (some ⟨PK,0,none⟩) (M.put.length+1) gw))):=by
     refine⟨⟨_,_,_,_,_,_,_,_,_,_,_,H.o.qG (Y:=more X wr _) (M':={M with put:=M.put ++ [b]}) U1 (λg hg=>?_) (λ_ h=> .inl h) hs ⟨Rk.own,λg hg=>?_⟩ rfl rfl rfl rfl rfl rfl rfl⟩,U1.mono (λj hj=>?_)⟩
     .rcases hg with hg|hg
      .obtain⟨cur,hc⟩:=ay HL.o.own hg;exact⟨_,_,_,hc,by decide,by decide,by decide⟩
      .subst hg;exact⟨_,_,_,H.o.b,by decide,by decide,by decide⟩
     .exact(Rk.x g hg).imp (λe=>e) (λe=>⟨e,Rk.lt hg⟩)
     .rcases hj with hj|hj
      .exact HL.o.x j hj
      .rw [hj];exact H.o.xk
    have c9':w2.cell? ⟨k,9,none⟩=some (.slice pa M.put.length pc):=aa tt (j:=9) rfl;have f9':=ae tt 9;have ss:=yh ct;rw [<-HN.o] at HR ss c9';clear lu JE tt hs aR U1 Rk iW aK k7 ct;go_wp2_with (at_builtin;refine lE rfl _ _ 26 rfl (.slice pa j pc) (.slice (some ⟨wr.heap.size,0,none⟩) 1 1) _ rfl rfl ss.o ?_);go_ret;rw [HE.o];exact⟨rfl,HR.o⟩
end
end
section
def MO (w w':World) (X:Nat->Prop) (B k:Nat) (R:Int×MP) (e:Ending):Prop:=
 e= .returned (.int .i64 R.1)/\MX w' (λj=>X j\/(B<=j/\j<w'.heap.size)) k R.2/\ad X w w'
def noBits:List Bool:=List.replicate 4096 false
def MP.clear (M:MP):Int×MP:=
 if M.state≠0 then (M.state,M) else if (M.jr 0 (rI (2+M.nodes / 4))).1≠0 then M.jr 0 (rI (2+M.nodes / 4)) else (M.jr 0 (rI (2+M.nodes / 4))).2.jr 1 noBits
def MP.AO (M:MP) (b:Nat) (d:List Int):Int×MP:=if M.state≠0 then (M.state,M) else M.jr b (qz d)
theorem Ov {M:MP} {b:Nat} (h:M.put.length<=16):(M.puts b).2.put.length<=16:=by
 unfold MP.puts;split
 .exact h
 .split
  .exact h
  .simp;omega
theorem Ow {M:MP} {b:Nat} {l:List Bool} (h:M.put.length<=16):(M.jr b l).2.put.length<=16:=by
 have h2:=Ov (b:=b) h;unfold MP.jr
 repeat' split
 all_goals first|exact h|exact h2
section
variable {w w':World} {X Y Z:Nat->Prop} {k g1 c1 g2 c2 g3 c3 g4 c4 g5 c5 g6 c6 B g' c':Nat} {v5 v6 v7:Value} {M:MP} {l lb ln:List Bool}
theorem Po.now (h:Po w X k g1 c1 g2 c2 g3 c3 g4 c4 v5 v6 v7 M) (hk:ad (λj=>j=k) w w') (hY:∀j,X j->Y j)
    (hb:w'.heap[k]? =some (.cells (tY {M with nb:=lb,nn:=ln} (bt g1 c1) (bt g2 c2) (bt g5 c5) (bt g6 c6) v5 v6 v7) 72 (0,0))) (h5:BX w Y g5 c5 lb) (h6:BX w Y g6 c6 ln) (n15:g1≠g5) (n16:g1≠g6) (n25:g2≠g5) (n26:g2≠g6) (n56:g5≠g6):
  Po w' Y k g1 c1 g2 c2 g5 c5 g6 c6 v5 v6 v7 {M with nb:=lb,nn:=ln}:=by
 have fU:=h.b;have aq:∀g,g=k->∃cur t fz,w.heap[g]? =some (.cells cur t fz)/\t≠4:=λg hg=>by subst hg;exact⟨_,_,_,fU,by decide⟩
 have aG:∀g,g=k->∃cur t fz,w.heap[g]? =some (.cells cur t fz)/\t≠5/\t≠44:=λg hg=>by subst hg;exact⟨_,_,_,fU,by decide,by decide⟩
 have oU:IL w X v7 M.put:=⟨h.put.1,h.put.2⟩;have iW:=oU.ak hk (λg hg e=>by
  obtain⟨cur,hc⟩:=ay oU.own hg;rw [e,fU] at hc;cases hc)
 exact⟨hb,hY _ h.xk,⟨hY _ h.ob.1,h.ob.2.1.dP hk aq,h.ob.2.2⟩,⟨hY _ h.on.1,h.on.2.1.dP hk aq,h.on.2.2⟩,⟨h5.1,h5.2.1.dP hk aq,h5.2.2⟩,⟨h6.1,h6.2.1.dP hk aq,h6.2.2⟩,h.KZ,n15,n16,n25,n26,n56,(h.eI.ak hk aG).mono hY,(h.raw.ak hk aG).mono hY,⟨iW.own,λg hg=>hY _ (iW.x g hg)⟩,h.own⟩
theorem MX.Ox (h:MX w Y k M) (hY:∀j,Y j->j≠g') (hr:ao w 4 g' c' (fK l)) (hl:l.length=4096) (b:Bool):
  ∃x y:Value,w.cell? ⟨k,if b then 6 else 5,none⟩=some x/\w.frozen? ⟨k,if b then 6 else 5,none⟩=false/\MX (w.setCell ⟨k,if b then 6 else 5,none⟩ (bt g' c')) (λj=>Y j\/j=g') k (if b then {M with nn:=l} else {M with nb:=l})/\ad Y w (w.setCell ⟨k,if b then 6 else 5,none⟩ (bt g' c'))/\x=y:=by
 obtain⟨g1,c1,g2,c2,g3,c3,g4,c4,v5,v6,v7,h⟩:=h;have hk:=ad.setCell (F:=λj=>j=k) w (p:=⟨k,if b then 6 else 5,none⟩) rfl (bt g' c');have hkY:=hk.mono (G:=Y) (λj e=>by rw [e];exact h.xk);cases b
 .have hs:(w.setCell ⟨k,5,none⟩ (bt g' c')).heap[k]? =some (.cells (tY {M with nb:=l,nn:=M.nn} (bt g1 c1) (bt g2 c2) (bt g' c') (bt g4 c4) v5 v6 v7) 72 (0,0)):=heap_setCell_same _ _ _ _ _ _ h.b;exact⟨_,_,aa h.b (j:=5) rfl,ae h.b 5,⟨_,_,_,_,_,_,_,_,_,_,_,h.now (Y:=λj=>Y j\/j=g') hk (λ_ h=> .inl h) hs ⟨.inr rfl,hr,hl⟩ ⟨.inl h.nn.1,h.nn.2⟩ (hY _ h.ob.1) h.Pq (hY _ h.on.1) h.Ps (λe=>hY _ h.nn.1 e.symm)⟩,hkY,rfl⟩
 .have hs:(w.setCell ⟨k,6,none⟩ (bt g' c')).heap[k]? =some (.cells (tY {M with nb:=M.nb,nn:=l} (bt g1 c1) (bt g2 c2) (bt g3 c3) (bt g' c') v5 v6 v7) 72 (0,0)):=heap_setCell_same _ _ _ _ _ _ h.b;exact⟨_,_,aa h.b (j:=6) rfl,ae h.b 6,⟨_,_,_,_,_,_,_,_,_,_,_,h.now (Y:=λj=>Y j\/j=g') hk (λ_ h=> .inl h) hs ⟨.inl h.nb.1,h.nb.2⟩ ⟨.inr rfl,hr,hl⟩ h.Pp (hY _ h.ob.1) h.Pr (hY _ h.on.1) (hY _ h.nb.1)⟩,hkY,rfl⟩
theorem Oy (M:MP) (l:List Bool):M.jr 0 l=if M.nb=l then (0,M) else if (M.puts 0).1≠0 then M.puts 0 else (0,{(M.puts 0).2 with nb:=l}):=rfl
theorem yT (h:MX w X k M) (hX:∀j,X j->j<B) (hB:B<=w.heap.size) (hg:B<=g') (hr:ao w 4 g' c' (fK l)) (hl:l.length=4096) (hp:M.put.length<=16):
  Calls prog 31 #[.pointer (some ⟨k,0,none⟩), .int .i64 0,bt g' c'] w λe w'=>MO w w' X B k (M.jr 0 l) e:=by
 have uj:=λ(w1:World) (h1:MX w1 X k M)=>kQ h1 0 hp;rw [Oy];obtain⟨g1,c1,g2,c2,g3,c3,g4,c4,v5,v6,v7,hm⟩:=id h;have Lb:w.cell? ⟨k,5,none⟩=some (bt g3 c3):=aa hm.b (j:=5) rfl;have R9:w.cell? ⟨k,6,none⟩=some (bt g4 c4):=aa hm.b (j:=6) rfl;have ka:=yS hm.nb.2.1 hr hm.nb.2.2 hl;have H:=yh h;have HR:=yh (And.intro hr hX);clear h hr hm hX hp;by_cases he:M.nb=l
 .rw [decide_eq_true he] at ka;rw [if_pos he];clear he uj;go_enter func31,ntmps31;go_wp2_with fail;refine ka.mono ?_;rintro e w1 ⟨rfl,aq⟩;go_wp2;go_ret;exact⟨rfl,(H.o.later aq).mono (λ_ h=> .inl h),ad.ag _ aq⟩
 .rw [decide_eq_false he] at ka;rw [if_neg he];clear he;obtain⟨R,hR⟩:∃R,R=M.puts 0:=⟨_,rfl⟩;rw [<-hR] at uj⊢;by_cases h0:R.1=0
  .rw [if_neg (λe=>e h0)];go_enter func31,ntmps31;go_wp2_with fail;refine ka.mono ?_;rintro e w1 ⟨rfl,aq⟩;have kp:Calls prog 66 #[.pointer (some ⟨k,0,none⟩), .int .i64 0] w1 λe w'=>e= .returned (.int .i64 0)/\MX w' (more X w1 w') k R.2/\ad X w1 w':=by have:=uj w1 (H.o.later aq);rw [h0] at this;exact this
   have HB:=yh aq;clear ka aq uj Lb R9 hR h0;go_wp2_with fail;refine kp.mono ?_;rintro e w2 ⟨rfl,fi,aK⟩;have Sb:g'<w.heap.size:=HR.o.1.lt;have eB:=HR.o.1.agree ((aK.block g' (Nat.lt_of_lt_of_le Sb HB.o.size) (λe=>by have:=HR.o.2 _ e;omega)).trans (HB.o.block g' Sb));obtain⟨x,y,cx,fx,D3,QC,_⟩:=fi.Ox (λj hj e=>by
    rcases hj with hj|hj
    .have:=HR.o.2 _ hj;omega
    .have:=hj.1;have:=HB.o.size;omega) eB hl false
   have cx':w2.cell? ⟨k,5,none⟩=some x:=cx;have fx':w2.frozen? ⟨k,5,none⟩=false:=fx;have HE:Yh (MX (w2.setCell ⟨k,5,none⟩ (bt g' c')) (λj=>X j\/(B<=j/\j<(w2.setCell ⟨k,5,none⟩ (bt g' c')).heap.size)) k {R.2 with nb:=l}/\ad X w (w2.setCell ⟨k,5,none⟩ (bt g' c'))):=by
    have z1:=HB.o.size;have z2:=aK.size;have z3:w2.heap.size<=(w2.setCell ⟨k,5,none⟩ (bt g' c')).heap.size:=QC.size;refine⟨MX.mono D3 (λj hj=>?_),((ad.ag X HB.o).trans aK (λ_ h=> .inl h)).trans QC (λj hj=>hj.imp (λe=>e) (λe=>by have:=e.1;omega))⟩;rcases hj with (hj|hj)|hj
    .exact .inl hj
    .exact .inr ⟨by have:=hj.1;omega,by have:=hj.2;omega⟩
    .exact .inr ⟨by omega,by omega⟩
   clear kp fi aK eB D3 QC cx fx HB;go_wp2;go_ret;exact⟨rfl,HE.o⟩
  .rw [if_pos h0];go_enter func31,ntmps31;go_wp2_with fail;refine ka.mono ?_;rintro e w1 ⟨rfl,aq⟩;have kp:=uj w1 (H.o.later aq);have HB:=yh aq;clear ka aq uj Lb R9 hR;obtain⟨r,hr⟩:∃r,r=R.1:=⟨_,rfl⟩;rw [<-hr] at kp h0;have qD:=yh hr;clear hr;go_wp2_with fail;refine kp.mono ?_;rintro e w2 ⟨rfl,fi,aK⟩;have HE:Yh (MX w2 (λj=>X j\/(B<=j/\j<w2.heap.size)) k R.2/\ad X w w2):=by
    have z1:=HB.o.size;refine⟨fi.mono (λj hj=>hj.imp (λe=>e) (λe=>⟨by have:=e.1;omega,e.2⟩)),(ad.ag X HB.o).trans aK (λ_ h=> .inl h)⟩
   clear kp fi aK HB;go_wp2;go_ret;exact⟨by rw [qD.o];rfl,HE.o⟩
theorem Oz (M:MP) (l:List Bool):M.jr 1 l=if M.nn=l then (0,M) else if (M.puts 1).1≠0 then M.puts 1 else (0,{(M.puts 1).2 with nn:=l}):=rfl
theorem yU (h:MX w X k M) (hX:∀j,X j->j<B) (hB:B<=w.heap.size) (hg:B<=g') (hr:ao w 4 g' c' (fK l)) (hl:l.length=4096) (hp:M.put.length<=16):
  Calls prog 31 #[.pointer (some ⟨k,0,none⟩), .int .i64 1,bt g' c'] w λe w'=>MO w w' X B k (M.jr 1 l) e:=by
 have uj:=λ(w1:World) (h1:MX w1 X k M)=>kQ h1 1 hp;rw [Oz];obtain⟨g1,c1,g2,c2,g3,c3,g4,c4,v5,v6,v7,hm⟩:=id h;have Lb:w.cell? ⟨k,5,none⟩=some (bt g3 c3):=aa hm.b (j:=5) rfl;have R9:w.cell? ⟨k,6,none⟩=some (bt g4 c4):=aa hm.b (j:=6) rfl;have ka:=yS hm.nn.2.1 hr hm.nn.2.2 hl;have H:=yh h;have HR:=yh (And.intro hr hX);clear h hr hm hX hp;by_cases he:M.nn=l
 .rw [decide_eq_true he] at ka;rw [if_pos he];clear he uj;go_enter func31,ntmps31;go_wp2_with fail;refine ka.mono ?_;rintro e w1 ⟨rfl,aq⟩;go_wp2;go_ret;exact⟨rfl,(H.o.later aq).mono (λ_ h=> .inl h),ad.ag _ aq⟩
 .rw [decide_eq_false he] at ka;rw [if_neg he];clear he;obtain⟨R,hR⟩:∃R,R=M.puts 1:=⟨_,rfl⟩;rw [<-hR] at uj⊢;by_cases h0:R.1=0
  .rw [if_neg (λe=>e h0)];go_enter func31,ntmps31;go_wp2_with fail;refine ka.mono ?_;rintro e w1 ⟨rfl,aq⟩;have kp:Calls prog 66 #[.pointer (some ⟨k,0,none⟩), .int .i64 1] w1 λe w'=>e= .returned (.int .i64 0)/\MX w' (more X w1 w') k R.2/\ad X w1 w':=by have:=uj w1 (H.o.later aq);rw [h0] at this;exact this
   have HB:=yh aq;clear ka aq uj Lb R9 hR h0;go_wp2_with fail;refine kp.mono ?_;rintro e w2 ⟨rfl,fi,aK⟩;have Sb:g'<w.heap.size:=HR.o.1.lt;have eB:=HR.o.1.agree ((aK.block g' (Nat.lt_of_lt_of_le Sb HB.o.size) (λe=>by have:=HR.o.2 _ e;omega)).trans (HB.o.block g' Sb));obtain⟨x,y,cx,fx,D3,QC,_⟩:=fi.Ox (λj hj e=>by
    rcases hj with hj|hj
    .have:=HR.o.2 _ hj;omega
    .have:=hj.1;have:=HB.o.size;omega) eB hl true
   have cx':w2.cell? ⟨k,6,none⟩=some x:=cx;have fx':w2.frozen? ⟨k,6,none⟩=false:=fx;have HE:Yh (MX (w2.setCell ⟨k,6,none⟩ (bt g' c')) (λj=>X j\/(B<=j/\j<(w2.setCell ⟨k,6,none⟩ (bt g' c')).heap.size)) k {R.2 with nn:=l}/\ad X w (w2.setCell ⟨k,6,none⟩ (bt g' c'))):=by
    have z1:=HB.o.size;have z2:=aK.size;have z3:w2.heap.size<=(w2.setCell ⟨k,6,none⟩ (bt g' c')).heap.size:=QC.size;refine⟨MX.mono D3 (λj hj=>?_),((ad.ag X HB.o).trans aK (λ_ h=> .inl h)).trans QC (λj hj=>hj.imp (λe=>e) (λe=>by have:=e.1;omega))⟩;rcases hj with (hj|hj)|hj
    .exact .inl hj
    .exact .inr ⟨by have:=hj.1;omega,by have:=hj.2;omega⟩
    .exact .inr ⟨by omega,by omega⟩
   clear kp fi aK eB D3 QC cx fx HB;go_wp2;go_ret;exact⟨rfl,HE.o⟩
  .rw [if_pos h0];go_enter func31,ntmps31;go_wp2_with fail;refine ka.mono ?_;rintro e w1 ⟨rfl,aq⟩;have kp:=uj w1 (H.o.later aq);have HB:=yh aq;clear ka aq uj Lb R9 hR;obtain⟨r,hr⟩:∃r,r=R.1:=⟨_,rfl⟩;rw [<-hr] at kp h0;have qD:=yh hr;clear hr;go_wp2_with fail;refine kp.mono ?_;rintro e w2 ⟨rfl,fi,aK⟩;have HE:Yh (MX w2 (λj=>X j\/(B<=j/\j<w2.heap.size)) k R.2/\ad X w w2):=by
    have z1:=HB.o.size;refine⟨fi.mono (λj hj=>hj.imp (λe=>e) (λe=>⟨by have:=e.1;omega,e.2⟩)),(ad.ag X HB.o).trans aK (λ_ h=> .inl h)⟩
   clear kp fi aK HB;go_wp2;go_ret;exact⟨by rw [qD.o];rfl,HE.o⟩
end
end
section
def ml (m:Nat):List Bool:=List.replicate m true ++ List.replicate (4096-m) false
theorem FY:ml 0=List.replicate 4096 false:=by unfold ml;rw [List.replicate_zero,List.nil_append,Nat.sub_zero]
theorem yV {m:Nat} (hm:m<=4096):(ml m).length=4096:=by unfold ml;rw [List.length_append,List.length_replicate,List.length_replicate];omega
theorem Kw {m:Nat} (hm:m<4096):(ml m).set m true=ml (m+1):=by
 unfold ml;rw [List.set_append_right _ _ (by rw [List.length_replicate];exact Nat.le_refl _),List.length_replicate,Nat.sub_self,show 4096-m=(4096-(m+1))+1 by omega,List.replicate_succ,List.set_cons_zero,List.replicate_succ' (n:=m),List.append_assoc];rfl
theorem Kx {m i:Nat} (hi:i<4096):(ml m).getD i false=decide (i<m):=by
 unfold ml;by_cases h:i<m
 .rw [List.getD,List.getElem?_append_left (by rw [List.length_replicate];exact h),List.getElem?_replicate,if_pos h];simp [h]
 .rw [List.getD,List.getElem?_append_right (by rw [List.length_replicate];omega),List.length_replicate,List.getElem?_replicate,if_pos (by omega)];simp [h]
theorem OA {m:Nat} (hm:m<=4096):ml m=rI m:=by
 apply List.ext_getElem ((yV hm).trans (rJ m).symm);intro i h1 h2;have hi:i<4096:=by rw [rJ] at h2;exact h2
 have e1:=DB m hi;have e2:=Kx (m:=m) hi;rw [List.getD,List.getElem?_eq_getElem h2,Option.getD_some] at e1;rw [List.getD,List.getElem?_eq_getElem h1,Option.getD_some] at e2;rw [e1,e2]
section
variable {w w':World} {X Y Z:Nat->Prop} {k B g' c':Nat} {M:MP} {l:List Bool} {d:List Int}
theorem MX.lt (h:MX w X k M):MX w (λj=>X j/\j<w.heap.size) k M:=by
 obtain⟨g1,c1,g2,c2,g3,c3,g4,c4,v5,v6,v7,h⟩:=h;have oU:IL w X v7 M.put:=⟨h.put.1,h.put.2⟩;exact⟨g1,c1,g2,c2,g3,c3,g4,c4,v5,v6,v7,h.b,⟨h.xk,af h.b⟩,⟨⟨h.ob.1,h.ob.2.1.lt⟩,h.ob.2⟩,⟨⟨h.on.1,h.on.2.1.lt⟩,h.on.2⟩,⟨⟨h.nb.1,h.nb.2.1.lt⟩,h.nb.2⟩,⟨⟨h.nn.1,h.nn.2.1.lt⟩,h.nn.2⟩,h.KZ,h.Pp,h.Pq,h.Pr,h.Ps,h.NS,h.eI.bound,h.raw.bound,⟨h.put.1,λg hg=>⟨h.put.2 g hg,oU.lt hg⟩⟩,h.own⟩
theorem vU (h:MX w X k M) (hX:∀j,X j->j<w.heap.size) (hp:M.put.length<=16) (hn:M.nodes<=4096):
  Calls prog 12 #[.pointer (some ⟨k,0,none⟩)] w λe w'=>MO w w' X w.heap.size k M.clear e:=by
 have ks:=de h;by_cases h0:M.state=0
 .have hc:M.clear=if (M.jr 0 (rI (2+M.nodes / 4))).1≠0 then M.jr 0 (rI (2+M.nodes / 4)) else (M.jr 0 (rI (2+M.nodes / 4))).2.jr 1 noBits:=by unfold MP.clear;rw [if_neg (λe=>e h0)]
  rw [h0] at ks;rw [hc];obtain⟨D,hD⟩:∃D,D=2+M.nodes / 4:=⟨_,rfl⟩;have hD4:D<=4096:=by omega
  have c2':w.cell? ⟨k,2,none⟩=some (.int .i64 (D:Int)):=by
   obtain⟨g1,c1,g2,c2,g3,c3,g4,c4,v5,v6,v7,hm⟩:=h;rw [hD];exact aa hm.b (j:=2) rfl
  rw [<-hD];have rP:k<w.heap.size:=by
   obtain⟨g1,c1,g2,c2,g3,c3,g4,c4,v5,v6,v7,hm⟩:=h;exact af hm.b
  obtain⟨R,hR⟩:∃R,R=M.jr 0 (rI D):=⟨_,rfl⟩;have HRp:Yh (R.2.put.length<=16):=by rw [hR];exact Ow hp
  rw [<-hR];have Pk:=yh hR;have H:=yh (And.intro h (And.intro hX hp));clear h hX hc h0 hD hp hR;go_enter func12,ntmps12;go_wp2_with fail;refine ks.mono ?_;rintro e w0 ⟨rfl,dm⟩;have cd:=dm.symm;subst cd;clear dm ks;have kn:=oq w;go_wp2_with fail;refine kn.mono ?_;rintro e w1 ⟨v,rfl,fU,aq⟩;obtain⟨g,cg,hv,hg,hr⟩:=fU.row (by simp);rw [List.length_replicate] at hv;subst hv;have hcg:4096<=cg:=by have:=hr.le;simpa [fK] using this
  have Ba:cg<=9223372036854775807:=by have:=hr.max;unfold maxLen at this;omega
  have HR:Yh (ao w1 4 g cg (fK (ml 0))/\Below w.heap.size w w1):=⟨by rw [FY];exact hr,aq⟩;clear kn fU hr aq;go_wp2;go_loopw [5] (λiv wr=>∃i:Nat,i<=D/\iv= .int .i64 (i:Int)/\ao wr 4 g cg (fK (ml i))/\Below w.heap.size w wr) (λiv _=>D-(intOf iv).toNat);case atStart=>exact⟨0,Nat.zero_le _,rfl,HR.o⟩
  case round=>
   clear HR;obtain⟨i,hi,rfl,hr,hb⟩:=hrel;have adt:=(World.cell?_of_block (w:=w) (a:=⟨k,2,none⟩) (hb.block k rP)).trans c2';by_cases aS:i<D
   .have cH:(i:Int)<(D:Int):=(by omega);have FO:(i:Int)<4096:=(by omega);have zo:(0:Int)<=(i:Int):=(by omega);have cm:=hr.nw (i:=i) (by rw [yV (by omega)];omega);have fm:=hr.Rj i;have jf:=hr.rK i true;rw [Kw (by omega)] at jf;have HE:=yh (And.intro jf (hb.trans ((Below.refl w.heap.size wr).setCell (p:=⟨g,i,none⟩) (by simpa using hg) (.bool true))));clear hr hb jf;generalize (ml i).getD i false=z at*;go_wp2;go_roundw;case rel=>exact⟨i+1,by omega,by go_num,HE.o⟩
    case measure=>simp [intOf];omega
   .obtain rfl:i=D:=(by omega);have cH:¬(i:Int)<(i:Int):=(by omega);rw [OA hD4] at hr;have kl:=yT (B:=w.heap.size) (H.o.1.apart (ad.ag (λ_=>False) (show Below w.heap.size w wr from hb)) (λ_ h=>h.elim)) H.o.2.1 hb.size hg hr (rJ _) H.o.2.2;have HB:=yh hb;rw [<-Pk.o] at kl;clear hr hb;by_cases Y0:R.1=0
    .have HZ:=yh Y0;unfold MO at kl;rw [Y0] at kl;clear Y0;go_wp2_with fail;refine kl.mono ?_;rintro e w3 ⟨rfl,wN,aR⟩;have kn2:=oq w3;have H3:=yh (And.intro wN aR);clear kl wN aR adt;go_wp2_with fail;refine kn2.mono ?_;rintro e w4 ⟨v4,rfl,Y5,eK⟩;obtain⟨g4,cg4,hv4,A7,C6⟩:=Y5.row (by simp);rw [List.length_replicate] at hv4;subst hv4;have z0:=HB.o.size;have z3:=H3.o.2.size;have kl2:=yU (B:=w3.heap.size) (H3.o.1.later eK) (λj hj=>by
      rcases hj with hj|hj
      .have:=H.o.2.1 _ hj;omega
      .exact hj.2) eK.size A7 (show ao w4 4 g4 cg4 (fK noBits) from C6) (by unfold noBits;simp) HRp.o
     have mB:=yh eK;clear kn2 Y5 eK C6;go_wp2_with fail;refine kl2.mono ?_;rintro e w5 ⟨rfl,ws,cB⟩;have HE:Yh (MX w5 (λj=>X j\/(w.heap.size<=j/\j<w5.heap.size)) k (R.2.jr 1 noBits).2/\ad X w w5):=by
      have z4:=mB.o.size;have z5:=cB.size;refine⟨ws.mono (λj hj=>?_),(((ad.ag X HB.o).trans H3.o.2 (λ_ h=> .inl h)).trans (ad.ag (λ_=>False) mB.o) (λ_ h=>h.elim)).trans cB (λj hj=>hj.imp (λe=>e) (λe=>e.1))⟩;rcases hj with (hj|hj)|hj
      .exact .inl hj
      .exact .inr ⟨hj.1,by have:=hj.2;omega⟩
      .exact .inr ⟨by have:=hj.1;omega,hj.2⟩
     clear kl2 ws cB mB H3;go_wp2;go_ret;try rw [if_neg (λe=>e HZ.o)]
     exact⟨rfl,HE.o⟩
    .have HZ:=yh Y0;unfold MO at kl;obtain⟨r,hr⟩:∃r,r=R.1:=⟨_,rfl⟩;rw [<-hr] at kl Y0;have qD:=yh hr;clear hr;go_wp2_with fail;refine kl.mono ?_;rintro e w3 ⟨rfl,wN,aR⟩;have HE:Yh (MX w3 (λj=>X j\/(w.heap.size<=j/\j<w3.heap.size)) k R.2/\ad X w w3):=⟨wN,(ad.ag X HB.o).trans aR (λ_ h=> .inl h)⟩;clear kl wN aR;go_wp2;go_ret;try rw [if_pos HZ.o]
     exact⟨by rw [qD.o];rfl,HE.o⟩
 .have hc:M.clear=(M.state,M):=by unfold MP.clear;rw [if_pos h0]
  rw [hc];have H:=yh h;clear h hX hc;generalize M.state=x at*;go_enter func12,ntmps12;go_wp2_with fail;refine ks.mono ?_;rintro e w0 ⟨rfl,dm⟩;have cd:=dm.symm;subst cd;clear dm ks;go_wp2;go_ret;exact⟨rfl,H.o.mono (λ_ h=> .inl h),ad.refl _ _⟩
end
end
section
section
variable {w w':World} {X:Nat->Prop} {k:Nat} {M:MP} {d:List Int} {a:Option Addr} {c:Nat}
theorem Ky (h:MX w X k M) (hX:∀j,X j->j<w.heap.size) (hp:M.put.length<=16) (hs:Src w a 512 d) (hd:Bytes d) (b:Nat) (hb:b=0\/b=1):
  Calls prog 84 #[.pointer (some ⟨k,0,none⟩), .int .i64 (b:Int), .slice a 512 c] w λe w'=>MO w w' X w.heap.size k (M.AO b d) e:=by
 have ks:=de h;have kf:=xu (c:=c) hs hd;by_cases h0:M.state=0
 .have hc:M.AO b d=M.jr b (qz d):=by unfold MP.AO;rw [if_neg (λe=>e h0)]
  rw [h0] at ks;rw [hc];obtain⟨R,hR⟩:∃R,R=M.jr b (qz d):=⟨_,rfl⟩;rw [<-hR];have Pk:=yh hR;have H:=yh (And.intro h (And.intro hX hp));clear h hX hc h0 hp hs hd hR;have Wn:(b:Int)<2:=by omega
  go_enter func84,ntmps84;go_wp2_with fail;refine ks.mono ?_;rintro e w0 ⟨rfl,dm⟩;have cd:=dm.symm;subst cd;clear dm ks;go_wp2_with fail;refine kf.mono ?_;rintro e w1 ⟨g,c1,rfl,hg,hr,aq⟩;have kl:Calls prog 31 #[.pointer (some ⟨k,0,none⟩), .int .i64 (b:Int),bt g c1] w1 λe w'=>MO w1 w' X w.heap.size k R e:=by
   rw [Pk.o];rcases hb with rfl|rfl
   .exact yT (H.o.1.later aq) H.o.2.1 aq.size hg hr (jq d) H.o.2.2
   .exact yU (H.o.1.later aq) H.o.2.1 aq.size hg hr (jq d) H.o.2.2
  have HB:=yh aq;clear kf hr aq;go_wp2_with fail;refine kl.mono ?_;rintro e w2 ⟨rfl,fi,aK⟩;have HE:=yh (And.intro fi ((ad.ag X HB.o).trans aK (λ_ h=> .inl h)));clear kl fi aK;go_wp2;go_ret;exact⟨rfl,HE.o⟩
 .have hc:M.AO b d=(M.state,M):=by unfold MP.AO;rw [if_pos h0]
  rw [hc];have H:=yh h;clear h hX hc kf;generalize M.state=x at*;go_enter func84,ntmps84;go_wp2_with fail;refine ks.mono ?_;rintro e w0 ⟨rfl,dm⟩;have cd:=dm.symm;subst cd;clear dm ks;go_wp2;go_ret;exact⟨rfl,H.o.mono (λ_ h=> .inl h),ad.refl _ _⟩
def nH (l:List Int):List Int:=(List.range 512).map λi=>l.getD i 0
theorem gL (l:List Int):(nH l).length=512:=by simp [nH]
theorem OB (l:List Int) {i:Nat} (hi:i<512):(nH l).getD i 0=l.getD i 0:=by simp [nH,List.getD,hi]
theorem kR {l:List Int} (h:Bytes l):Bytes (nH l):=λx hx=>by
 obtain⟨i,_,rfl⟩:=List.mem_map.1 hx;exact ij h i
theorem m9 {n:Nat} {l:List Int} (hs:Src w a n l) (hn:n<=140737488355328):Calls prog 83 #[.slice a n c] w λe w'=>∃g c',e= .returned (.slice (some ⟨g,0,none⟩) 512 c')/\w.heap.size<=g/\ao w' 5 g c' (bs (nH l))/\Below w.heap.size w w':=by
 have HS:=yh hs;have zR:l.length=n:=hs.1;clear hs;go_enter func83,ntmps83;go_wp2;go_loopw [3,4] (λv iv wr=>∃j:Nat,j<=512/\iv= .int .i64 (j:Int)/\Own wr w.heap.size v ((nH l).take j)/\Below w.heap.size w wr) (λ_ iv _=>512-(intOf iv).toNat);case atStart=>exact⟨0,Nat.zero_le _,rfl,Own.nil _ _,Below.refl _ _⟩
 case round=>
  obtain⟨j,hj,rfl,bB,bw⟩:=hrel;have nC:=yh bB;have ym:=yh bw;have hzx:=bw.size;clear bB bw;by_cases wJ:j<512
  .have SW:(j:Int)<512:=(by omega);have qI:((nH l).take j).length<=512:=(by rw [List.length_take];omega);have nP:=xJ (nH l) j (by rw [gL];exact wJ);rw [OB l wJ] at nP;by_cases V7:j<n
   .have adu:(j:Int)<(n:Int):=(by omega);cases a with
    |none=>have:=HS.o.2.1 rfl;omega
    |some y=>
    obtain⟨b,o,rfl,hc⟩:=HS.o.spot (by omega);have KU:wr.cell? ⟨b,o+j,none⟩=some (.int .u8 (l.getD j 0)):=(World.cell?_of_block (w:=w) (a:=⟨b,o+j,none⟩) (ym.o.block b (World.block_lt_of_cell? _ _ (hc j V7)))).trans (hc j V7);have Y6:=yh nP;clear nP hc;generalize l.getD j 0=x at*;go_wp2_with (at_builtin;refine tc rfl _ _ rfl w.heap.size u3 _ x rfl rfl nC.o ?b1 ?b2 ?_);case b1=>omega
    case b2=>exact hzx
    intro v' w' ho nh;have HO:Yh (Own w' w.heap.size v' ((nH l).take (j+1))):=(by rw [<-Y6.o];exact ho);have HB':=yh (ym.o.trans nh);clear ho nh nC ym Y6;go_wp2;go_roundw;case rel=>exact⟨j+1,by omega,by go_num,HO.o,HB'.o⟩
    case measure=>simp [intOf];omega
   .have adu:¬(j:Int)<(n:Int):=(by omega);have hz:l.getD j 0=0:=(by rw [List.getD,List.getElem?_eq_none (by omega)];rfl);rw [hz] at nP;have Y6:=yh nP;clear nP hz;go_wp2_with (at_builtin;refine tc rfl _ _ rfl w.heap.size u3 _ 0 rfl rfl nC.o (by omega) hzx ?_);intro v' w' ho nh;have HO:Yh (Own w' w.heap.size v' ((nH l).take (j+1))):=(by rw [<-Y6.o];exact ho);have HB':=yh (ym.o.trans nh);clear ho nh nC ym Y6;go_wp2;go_roundw;case rel=>exact⟨j+1,by omega,by go_num,HO.o,HB'.o⟩
    case measure=>simp [intOf];omega
  .have SW:¬(j:Int)<512:=(by omega);have ho:=nC.o;rw [List.take_of_length_le (by rw [gL];omega)] at ho;obtain⟨g5,c5,e5,Cb,Ic⟩:=ho.Th (by rw [gL];omega);rw [gL] at e5;subst e5;have HE:=yh (And.intro Cb Ic);clear nC ho Cb Ic;go_wp2;go_ret;exact⟨g5,c5,rfl,HE.o.1,HE.o.2,ym.o⟩
end
end
section
section
variable {w w':World} {F X:Nat->Prop} {kr p s cR q l m t n a1 k:Nat} {x2 x3:Value} {S:DS} {G:SG} {T:TG} {M:MP}
theorem eJ {b:Nat} (h0:T.state G S=0) (hb:b<G.y.blocks):T.refusal G S (b:Int)=0:=by
 unfold TG.refusal;rw [if_neg (λe=>e h0),if_neg (by omega)]
theorem FZ (h:TX w F p s cR q l m t n S G T) (hp:ar w F a1 t n) (np:w.heap[kr]? =some (.cells (Dy p q x2 x3 k true) 38 (0,0))) (Bb:¬cq F t n kr) (hm:MX w X k M) (OC:∀j,X j->¬cq F t n j) (h0:T.state G S=0) (fU:M.blocks=G.y.blocks) (If:M.raw.length=G.y.blocks) (rL:∀b,2<=b->b<G.y.blocks->M.raw[b]? =some (T.bq G S b)):
  Calls prog 35 #[.pointer (some ⟨kr,0,none⟩), .pointer (some ⟨a1,0,none⟩)] w λe w'=>e= .returned (.bool true)/\(∃c',TX w' F p s c' q l m t n S G T)/\ad (cq F t n) w w':=by
 have aG:=h.yk.b2;have adw:=h.yk.bl;obtain⟨nb,O1⟩:∃nb,nb=G.y.blocks:=⟨_,rfl⟩;have H:=yh (And.intro h (And.intro hp (And.intro np (And.intro hm OC))));have HS:=yh (And.intro rL h0);have HN:=yh (And.intro O1 (And.intro fU If));rw [<-O1] at aG adw;have V0:Yh (∀wr,ad (cq F t n) w wr->wr.cell? ⟨kr,4,none⟩=some (.pointer (some ⟨k,0,none⟩))/\wr.cell? ⟨k,0,none⟩=some (.int .i64 (nb:Int))):=λwr hk=>by
  obtain⟨g1,c1,g2,c2,g3,c3,g4,c4,v5,v6,v7,nz⟩:=hm.apart hk (λj hj hx=>OC j hx hj);exact⟨aa ((hk.block kr (af np) Bb).trans np) (j:=4) rfl,by rw [O1,<-fU];exact aa nz.b (j:=0) rfl⟩
 clear h hp np hm OC h0 fU rL O1 If;go_enter func35,ntmps35;go_wp2;go_loopw [5] (λiv wr=>∃j c':Nat,2<=j/\j<=nb/\iv= .int .i64 (j:Int)/\TX wr F p s c' q l m t n S G T/\ad (cq F t n) w wr) (λiv _=>nb-(intOf iv).toNat);case atStart=>exact⟨2,cR,Nat.le_refl _,aG,rfl,H.o.1,ad.refl _ _⟩
 case round=>
  obtain⟨j,c',hj2,hj,rfl,hx,hk⟩:=hrel;obtain⟨ce1,ce2⟩:=V0.o wr hk;by_cases aS:j<nb
  .have cH:(j:Int)<(nb:Int):=(by omega);have ZZ:j<G.y.blocks:=(by have:=HN.o.1;omega);have hp:=H.o.2.1.ak hk;have c0:=hp.c0;have kg:=vT hx j (eJ HS.o.2 ZZ);have PO:=hx.len j ZZ;have hxt:=hx.st.d.lt;have HK:=yh hk;clear hx hk hp;go_wp2_with fail;refine kg.mono ?_;rintro e w1 ⟨⟨g1,rfl,gm,aA⟩,dj,bo⟩;have Uh:ad (cq F t n) w w1:=HK.o.trans (bo.mono (λ_ h=> .inl h)) (λ_ h=> .inl h);obtain⟨ce3,_⟩:=V0.o w1 Uh;obtain⟨SA,Pt,Rl,Rm,OD,OE,OF,OG,v5,v6,v7,nz⟩:=H.o.2.2.2.1.apart Uh (λj hj hx=>H.o.2.2.2.2 j hx hj);have hjr:j<M.raw.length:=(by have:=HN.o.2.2;omega);obtain⟨gv,cv,g2,c2,ev,Y7,_,tI,_⟩:=nz.raw.at hjr;have hrj:M.raw[j]=T.bq G S j:=by
    have h9:=HS.o.1 j hj2 ZZ;rw [List.getElem?_eq_getElem hjr] at h9;exact Option.some.inj h9
   rw [hrj] at tI;have c8:w1.cell? ⟨k,8,none⟩=some (.slice (some ⟨gv,0,none⟩) nb cv):=by
    have h9:w1.cell? ⟨k,8,none⟩=some v6:=aa nz.b (j:=8) rfl;rw [h9,ev,HN.o.2.2,<-HN.o.1]
   obtain⟨sx,hs⟩:∃sx,sx=strOfNums (T.bq G S j):=⟨_,rfl⟩;have HC:Yh (∀w',Below w1.heap.size w1 w'->w'.cell? ⟨kr,4,none⟩=some (.pointer (some ⟨k,0,none⟩))/\w'.cell? ⟨k,8,none⟩=some (.slice (some ⟨gv,0,none⟩) nb cv)/\w'.cell? ⟨gv,j,none⟩=some (.slice (some ⟨g2,0,none⟩) 512 c2)/\(convert 44 9 (.slice (some ⟨g1,0,none⟩) 512 512)).run prog w'= .ok (.string sx) w'/\(convert 44 9 (.slice (some ⟨g2,0,none⟩) 512 c2)).run prog w'= .ok (.string sx) w'):=λw' hb=>by
    refine⟨cell_later hb ce3,cell_later hb c8,cell_later hb Y7,?_,?_⟩
    .rw [hs];exact run_convert_bytes_arg (P:=prog) w' 44 5 underlying44 underlying5 g1 0 512 512 (T.bq G S j) PO (λi hi=>by rw [Nat.zero_add];exact cell_later hb (aA.cell (by omega))) 9 underlying9
    .rw [hs];exact run_convert_bytes_arg (P:=prog) w' 44 5 underlying44 underlying5 g2 0 512 c2 (T.bq G S j) PO (λi hi=>by rw [Nat.zero_add];exact cell_later hb (tI.get (by omega))) 9 underlying9
   have Aj:Yh (Below w1.heap.size w1 w1.drew):=(ad.drew (λ_=>False) w1).below (λ_ h=>h.elim) (Nat.le_refl _);have WM:Yh (TX w1.drew F p s (c'+1) q l m t n S G T/\ad (cq F t n) w w1.drew):=⟨dj.later Aj.o,Uh.trans (ad.drew (λ_=>False) w1) (λ_ h=>h.elim)⟩;have P5:(0:Int)<=(j:Int):=(by omega);clear kg aA dj bo Uh nz ev Y7 tI hrj c8 hs ce1 ce2 ce3 c0 PO hxt;go_wp2_with fail;refine wp_region_held_drew (S:=(λw'=>w'.cell? ⟨kr,4,none⟩=some (.pointer (some ⟨k,0,none⟩))/\w'.cell? ⟨k,8,none⟩=some (.slice (some ⟨gv,0,none⟩) nb cv)/\w'.cell? ⟨gv,j,none⟩=some (.slice (some ⟨g2,0,none⟩) 512 c2)/\(convert 44 9 (.slice (some ⟨g1,0,none⟩) 512 512)).run prog w'= .ok (.string sx) w'/\(convert 44 9 (.slice (some ⟨g2,0,none⟩) 512 c2)).run prog w'= .ok (.string sx) w')) (by kernel_rfl) (HC.o _ Aj.o) (λaC=>?_);refine wpAnyH_take (i:=0) (oi:={dst:=some 28,op:=Op.move (Operand.tmp 7),type:=39,pos:= "exact.go:129",after:= #[],guard:=none}) (v:= .int .i64 0) rfl (by kernel_rfl) (by kernel_rfl) (by kernel_rfl) (λ_ _ _ h=>h) (Or.inl ⟨by rfl,?_⟩) (by assumption) ?_
   .intro w aw
    (try dsimp only at aw)
    go_simp
   try simp only [Act.put,List.setIfInBounds_toArray,List.set_cons_zero,List.set_cons_succ]
   refine wpAnyH_ready (rs:= [1]) (by kernel_rfl) (by simp) ?_;refine AllReadyH.cons (o:={dst:=some 29,op:=Op.call {callee:=Callee.value (Operand.func 13),args:= #[Operand.tmp 28],argTypes:= #[39]},type:=3,pos:= "exact.go:129",after:= #[{on:=0,ground:=Ground.data}],guard:=none}) rfl (λK hK=>?_) AllReadyH.nil;go_simp;refine(bF 0 w1.drew).mono ?_;rintro e wx ⟨rfl,cU⟩;have bR:=cU.symm;subst bR;clear cU;refine hK.out _ _ ?_ (λaC=>?_)
   .exact HC.o _ Aj.o
   clear hK K;try simp only [Act.put,List.setIfInBounds_toArray,List.set_cons_zero,List.set_cons_succ]
   refine wpAnyH_take (i:=2) (oi:={dst:=some 30,op:=Op.binOp BinOp.neq 3 (Operand.tmp 29) (Operand.const (Value.int IntKind.i64 0)) 3,type:=4,pos:= "exact.go:129",after:= #[{on:=1,ground:=Ground.data}],guard:=none}) (v:= .bool false) rfl (by kernel_rfl) (by kernel_rfl) (by kernel_rfl) (λ_ _ _ h=>h) (Or.inl ⟨by rfl,?_⟩) (by assumption) ?_
   .intro w aw
    (try dsimp only at aw)
    go_simp
   try simp only [Act.put,List.setIfInBounds_toArray,List.set_cons_zero,List.set_cons_succ]
   refine wpAnyH_take (i:=3) (oi:={dst:=some 31,op:=Op.move (Operand.tmp 30),type:=4,pos:= "exact.go:129",after:= #[{on:=2,ground:=Ground.data},{on:=1,ground:=Ground.chain}],guard:=none}) (v:= .bool false) rfl (by kernel_rfl) (by kernel_rfl) (by kernel_rfl) (λ_ _ _ h=>h) (Or.inl ⟨by rfl,?_⟩) (by assumption) ?_
   .intro w aw
    (try dsimp only at aw)
    go_simp
   try simp only [Act.put,List.setIfInBounds_toArray,List.set_cons_zero,List.set_cons_succ]
   refine wpAnyH_take (i:=4) (oi:={dst:=some 32,op:=Op.move (Operand.tmp 6),type:=44,pos:= "exact.go:129",after:= #[{on:=3,ground:=Ground.guard}],guard:=some (3,false)}) (v:= .slice (some ⟨g1,0,none⟩) 512 512) rfl (by kernel_rfl) (by kernel_rfl) (by kernel_rfl) (λ_ _ _ h=>h) (Or.inl ⟨by rfl,?_⟩) (by assumption) ?_
   .intro w aw
    (try dsimp only at aw)
    go_simp
   try simp only [Act.put,List.setIfInBounds_toArray,List.set_cons_zero,List.set_cons_succ]
   refine wpAnyH_take (i:=5) (oi:={dst:=some 33,op:=Op.convert 44 9 (Operand.tmp 32),type:=9,pos:= "exact.go:129",after:= #[{on:=4,ground:=Ground.data},{on:=3,ground:=Ground.guard}],guard:=some (3,false)}) (v:= .string sx) rfl (by kernel_rfl) (by kernel_rfl) (by kernel_rfl) (λ_ _ _ h=>h) (Or.inl ⟨by rfl,?_⟩) (by assumption) ?_
   .intro w aw
    (try dsimp only at aw)
    go_simp
   try simp only [Act.put,List.setIfInBounds_toArray,List.set_cons_zero,List.set_cons_succ]
   refine wpAnyH_take (i:=6) (oi:={dst:=some 34,op:=Op.move (Operand.tmp 0),type:=28,pos:= "exact.go:129",after:= #[{on:=3,ground:=Ground.guard}],guard:=some (3,false)}) (v:= .pointer (some ⟨kr,0,none⟩)) rfl (by kernel_rfl) (by kernel_rfl) (by kernel_rfl) (λ_ _ _ h=>h) (Or.inl ⟨by rfl,?_⟩) (by assumption) ?_
   .intro w aw
    (try dsimp only at aw)
    go_simp
   try simp only [Act.put,List.setIfInBounds_toArray,List.set_cons_zero,List.set_cons_succ]
   refine wpAnyH_take (i:=7) (oi:={dst:=some 35,op:=Op.nilCheck (Operand.tmp 34),type:=0,pos:= "exact.go:129",after:= #[{on:=6,ground:=Ground.data},{on:=3,ground:=Ground.guard}],guard:=some (3,false)}) (v:= .pointer (some ⟨kr,0,none⟩)) rfl (by kernel_rfl) (by kernel_rfl) (by kernel_rfl) (λ_ _ _ h=>h) (Or.inl ⟨by rfl,?_⟩) (by assumption) ?_
   .intro w aw
    (try dsimp only at aw)
    go_simp
   try simp only [Act.put,List.setIfInBounds_toArray,List.set_cons_zero,List.set_cons_succ]
   refine wpAnyH_take (i:=8) (oi:={dst:=some 36,op:=Op.fieldAddr 38 (Operand.tmp 35) 4,type:=0,pos:= "exact.go:129",after:= #[{on:=7,ground:=Ground.data},{on:=3,ground:=Ground.guard}],guard:=some (3,false)}) (v:= .pointer (some ⟨kr,4,none⟩)) rfl (by kernel_rfl) (by kernel_rfl) (by kernel_rfl) (λ_ _ _ h=>h) (Or.inl ⟨by rfl,?_⟩) (by assumption) ?_
   .intro w aw
    (try dsimp only at aw)
    go_simp
   try simp only [Act.put,List.setIfInBounds_toArray,List.set_cons_zero,List.set_cons_succ]
   refine wpAnyH_take (i:=9) (oi:={dst:=some 37,op:=Op.load 36 (Operand.tmp 36),type:=36,pos:= "exact.go:129",after:= #[{on:=8,ground:=Ground.data},{on:=3,ground:=Ground.guard}],guard:=some (3,false)}) (v:= .pointer (some ⟨k,0,none⟩)) rfl (by kernel_rfl) (by kernel_rfl) (by kernel_rfl) (λ_ _ _ h=>h) (Or.inl ⟨by rfl,?_⟩) (by assumption) ?_
   .intro w aw
    (try dsimp only at aw)
    go_simp
   try simp only [Act.put,List.setIfInBounds_toArray,List.set_cons_zero,List.set_cons_succ]
   refine wpAnyH_take (i:=10) (oi:={dst:=some 38,op:=Op.nilCheck (Operand.tmp 37),type:=0,pos:= "exact.go:129",after:= #[{on:=9,ground:=Ground.data},{on:=3,ground:=Ground.guard}],guard:=some (3,false)}) (v:= .pointer (some ⟨k,0,none⟩)) rfl (by kernel_rfl) (by kernel_rfl) (by kernel_rfl) (λ_ _ _ h=>h) (Or.inl ⟨by rfl,?_⟩) (by assumption) ?_
   .intro w aw
    (try dsimp only at aw)
    go_simp
   try simp only [Act.put,List.setIfInBounds_toArray,List.set_cons_zero,List.set_cons_succ]
   refine wpAnyH_take (i:=11) (oi:={dst:=some 39,op:=Op.fieldAddr 72 (Operand.tmp 38) 6,type:=0,pos:= "exact.go:129",after:= #[{on:=10,ground:=Ground.data},{on:=3,ground:=Ground.guard}],guard:=some (3,false)}) (v:= .pointer (some ⟨k,8,none⟩)) rfl (by kernel_rfl) (by kernel_rfl) (by kernel_rfl) (λ_ _ _ h=>h) (Or.inl ⟨by rfl,?_⟩) (by assumption) ?_
   .intro w aw
    (try dsimp only at aw)
    go_simp
   try simp only [Act.put,List.setIfInBounds_toArray,List.set_cons_zero,List.set_cons_succ]
   refine wpAnyH_take (i:=12) (oi:={dst:=some 40,op:=Op.load 70 (Operand.tmp 39),type:=70,pos:= "exact.go:129",after:= #[{on:=11,ground:=Ground.data},{on:=3,ground:=Ground.guard}],guard:=some (3,false)}) (v:= .slice (some ⟨gv,0,none⟩) nb cv) rfl (by kernel_rfl) (by kernel_rfl) (by kernel_rfl) (λ_ _ _ h=>h) (Or.inl ⟨by rfl,?_⟩) (by assumption) ?_
   .intro w aw
    (try dsimp only at aw)
    go_simp
   try simp only [Act.put,List.setIfInBounds_toArray,List.set_cons_zero,List.set_cons_succ]
   refine wpAnyH_take (i:=13) (oi:={dst:=some 41,op:=Op.move (Operand.tmp 5),type:=3,pos:= "exact.go:129",after:= #[{on:=3,ground:=Ground.guard}],guard:=some (3,false)}) (v:= .int .i64 (j:Int)) rfl (by kernel_rfl) (by kernel_rfl) (by kernel_rfl) (λ_ _ _ h=>h) (Or.inl ⟨by rfl,?_⟩) (by assumption) ?_
   .intro w aw
    (try dsimp only at aw)
    go_simp
   try simp only [Act.put,List.setIfInBounds_toArray,List.set_cons_zero,List.set_cons_succ]
   refine wpAnyH_take (i:=14) (oi:={dst:=some 42,op:=Op.indexAddr 70 (Operand.tmp 40) (Operand.tmp 41),type:=0,pos:= "exact.go:129",after:= #[{on:=12,ground:=Ground.data},{on:=13,ground:=Ground.data},{on:=3,ground:=Ground.guard}],guard:=some (3,false)}) (v:= .pointer (some ⟨gv,j,none⟩)) rfl (by kernel_rfl) (by kernel_rfl) (by kernel_rfl) (λ_ _ _ h=>h) (Or.inl ⟨by rfl,?_⟩) (by assumption) ?_
   .intro w aw
    (try dsimp only at aw)
    go_simp
   try simp only [Act.put,List.setIfInBounds_toArray,List.set_cons_zero,List.set_cons_succ]
   refine wpAnyH_take (i:=15) (oi:={dst:=some 43,op:=Op.load 44 (Operand.tmp 42),type:=44,pos:= "exact.go:129",after:= #[{on:=14,ground:=Ground.data},{on:=3,ground:=Ground.guard}],guard:=some (3,false)}) (v:= .slice (some ⟨g2,0,none⟩) 512 c2) rfl (by kernel_rfl) (by kernel_rfl) (by kernel_rfl) (λ_ _ _ h=>h) (Or.inl ⟨by rfl,?_⟩) (by assumption) ?_
   .intro w aw
    (try dsimp only at aw)
    go_simp
   try simp only [Act.put,List.setIfInBounds_toArray,List.set_cons_zero,List.set_cons_succ]
   refine wpAnyH_take (i:=16) (oi:={dst:=some 44,op:=Op.convert 44 9 (Operand.tmp 43),type:=9,pos:= "exact.go:129",after:= #[{on:=15,ground:=Ground.data},{on:=3,ground:=Ground.guard}],guard:=some (3,false)}) (v:= .string sx) rfl (by kernel_rfl) (by kernel_rfl) (by kernel_rfl) (λ_ _ _ h=>h) (Or.inl ⟨by rfl,?_⟩) (by assumption) ?_
   .intro w aw
    (try dsimp only at aw)
    go_simp
   try simp only [Act.put,List.setIfInBounds_toArray,List.set_cons_zero,List.set_cons_succ]
   refine wpAnyH_take (i:=17) (oi:={dst:=some 45,op:=Op.binOp BinOp.neq 9 (Operand.tmp 33) (Operand.tmp 44) 9,type:=4,pos:= "exact.go:129",after:= #[{on:=5,ground:=Ground.data},{on:=16,ground:=Ground.data},{on:=3,ground:=Ground.guard}],guard:=some (3,false)}) (v:= .bool false) rfl (by kernel_rfl) (by kernel_rfl) (by kernel_rfl) (λ_ _ _ h=>h) (Or.inl ⟨by rfl,?_⟩) (by assumption) ?_
   .intro w aw
    (try dsimp only at aw)
    go_simp
   try simp only [Act.put,List.setIfInBounds_toArray,List.set_cons_zero,List.set_cons_succ]
   refine wpAnyH_take (i:=18) (oi:={dst:=some 46,op:=Op.pick (Operand.tmp 31) (Operand.const (Value.bool true)) (Operand.tmp 45),type:=4,pos:= "exact.go:129",after:= #[{on:=3,ground:=Ground.data},{on:=17,ground:=Ground.data}],guard:=none}) (v:= .bool false) rfl (by kernel_rfl) (by kernel_rfl) (by kernel_rfl) (λ_ _ _ h=>h) (Or.inl ⟨by rfl,?_⟩) (by assumption) ?_
   .intro w aw
    (try dsimp only at aw)
    go_simp
   try simp only [Act.put,List.setIfInBounds_toArray,List.set_cons_zero,List.set_cons_succ]
   refine wpAnyH_done (by kernel_rfl) ?_ _;clear aC HC Aj;go_wp2;go_roundw;case rel=>exact⟨j+1,_,by omega,by omega,by go_num,WM.o⟩
   case measure=>simp [intOf];omega
  .obtain rfl:j=nb:=(by omega);have cH:¬(j:Int)<(j:Int):=(by omega);have HE:=yh (And.intro hx hk);clear hx hk;go_wp2;go_ret;exact⟨rfl,⟨_,HE.o.1⟩,HE.o.2⟩
end
end
section
section
variable {w w':World} {F X:Nat->Prop} {kr p s cR q l m t n a1 k:Nat} {x2 x3:Value} {S:DS} {G:SG} {T:TG} {M:MP}
theorem Im {g g' c c':Nat} {ty:TypeId} {d d':List Int} (h:gA w ty g d) (h':ao w 5 g' c' (bs d')) (hl:d.length=512) (QA:d'.length=512):Calls prog 33 #[.slice (some ⟨g,0,none⟩) 512 c, .slice (some ⟨g',0,none⟩) 512 c'] w λe w'=>e= .returned (.bool (decide (d=d')))/\Below w.heap.size w w':=
 Kt g 0 g' 0 512 c c' d d' w (by omega) hl QA (λi hi=>by rw [Nat.zero_add];exact h.cell (by omega)) (λi hi=>by rw [Nat.zero_add];exact h'.get (by omega))
theorem gA.later {ty:TypeId} {g:Nat} {d:List Int} (h:gA w ty g d) (hb:Below w.heap.size w w'):gA w' ty g d:=(hb.block g h.lt).trans h
theorem OH (h:TX w F p s cR q l m t n S G T) (hp:ar w F a1 t n) (np:w.heap[kr]? =some (.cells (Dy p q x2 x3 k true) 38 (0,0))) (Bb:¬cq F t n kr) (hm:MX w X k M) (OC:∀j,X j->¬cq F t n j) (h0:T.state G S=0) (JO:M.state=0) (fU:M.blocks=G.y.blocks) (If:M.raw.length=G.y.blocks) (rL:∀b,2<=b->b<G.y.blocks->M.raw[b]? =some (T.bq G S b)) (e0:T.bq G S 0=dB M.nb) (e1:T.bq G S 1=dB M.nn):
  Calls prog 14 #[.pointer (some ⟨kr,0,none⟩), .pointer (some ⟨a1,0,none⟩)] w λe w'=>e= .returned (.bool true)/\(∃c',TX w' F p s c' q l m t n S G T)/\ad (cq F t n) w w':=by
 have aG:=h.yk.b2;have k1:=vT h 0 (eJ h0 (by omega));have k2:=λ(w1:World) (dj:TX w1 F p s (cR+1) q l m t n S G T)=>vT dj 1 (eJ h0 (by omega));have oY:=h.len 0 (by omega);have dD:=h.len 1 (by omega);have c0:=hp.c0;have V0:Yh (∀wr,ad (cq F t n) w wr->wr.cell? ⟨kr,4,none⟩=some (.pointer (some ⟨k,0,none⟩))/\MX wr X k M):=λwr hk=>⟨aa ((hk.block kr (af np) Bb).trans np) (j:=4) rfl,hm.apart hk (λj hj hx=>OC j hx hj)⟩;have HO:Yh (∀(wr:World) (c':Nat),ad (cq F t n) w wr->TX wr F p s c' q l m t n S G T->Calls prog 35 #[.pointer (some ⟨kr,0,none⟩), .pointer (some ⟨a1,0,none⟩)] wr λe w'=>e= .returned (.bool true)/\(∃c',TX w' F p s c' q l m t n S G T)/\ad (cq F t n) wr w'):=λwr c' hk hx=>FZ hx (hp.ak hk) ((hk.block kr (af np) Bb).trans np) Bb (hm.apart hk (λj hj hx=>OC j hx hj)) OC h0 fU If rL;have HP:=yh hp;have HE0:=yh (And.intro e0 e1);have HLT:=yh h.st.d.lt;clear h hp np hm OC h0 fU If rL Bb aG e0 e1;go_enter func14,ntmps14;go_wp2_with fail;refine k1.mono ?_;rintro e w1 ⟨⟨g1,rfl,gm,fG⟩,dj,bo⟩;have gM:=HP.o.ak (bo.mono (λ_ h=> .inl h));have om:=gM.c0;have k3:=k2 w1 dj;have HA:=yh (And.intro fG bo);clear k1 k2 dj gM c0 fG bo;go_wp2_with fail;refine k3.mono ?_;rintro e w2 ⟨⟨g2,rfl,dU,GT⟩,dV,aK⟩;have aq:gA w2 113 g1 (T.bq G S 0):=(aK.block g1 HA.o.1.lt (λhf=>by have:=HLT.o g1 hf;omega)).trans HA.o.1;have U2:ad (cq F t n) w w2:=(HA.o.2.trans aK (λ_ h=> .inl h)).mono (λ_ h=> .inl h);obtain⟨ce,fi⟩:=V0.o w2 U2;have km:=de fi;rw [JO] at km;have H2:=yh (And.intro dV (And.intro U2 (And.intro aq GT)));have HM:=yh fi;clear k3 dV aK U2 aq GT fi HA om gm dU;go_wp2_with fail;refine km.mono ?_;rintro e wx ⟨rfl,cU⟩;have bR:=cU.symm;subst bR;clear cU km;have kn:=bF 0 w2;obtain⟨SA,Pt,Rl,Rm,OD,OE,OF,OG,v5,v6,v7,nz⟩:=HM.o;have c5:w2.cell? ⟨k,5,none⟩=some (bt OD OE):=aa nz.b (j:=5) rfl;have c6:w2.cell? ⟨k,6,none⟩=some (bt OF OG):=aa nz.b (j:=6) rfl;have X9:=qp nz.nb.2.1 nz.nb.2.2;have Y8:=yh (And.intro nz (And.intro c6 ce));clear nz;go_wp2_with fail;refine kn.mono ?_;rintro e wx ⟨rfl,cU⟩;have bR:=cU.symm;subst bR;clear cU;go_wp2_with fail;refine kn.mono ?_;rintro e wx ⟨rfl,cU⟩;have bR:=cU.symm;subst bR;clear cU kn;go_wp2_with fail;refine X9.mono ?_;rintro e w3 ⟨v3,rfl,L3,bH⟩;obtain⟨g3,c3,e3,xA,rQ⟩:=L3.Th (by rw [ck];omega);rw [ck] at e3;subst e3;have V1:=Im (c:=512) (H2.o.2.2.1.later bH) rQ oY (ck _);rw [decide_eq_true HE0.o.1] at V1;have nB:=yh bH;clear X9 L3 rQ bH c5 c6 ce;go_wp2_with fail;refine V1.mono ?_;rintro e w4 ⟨rfl,eK⟩;have mu:Below w2.heap.size w2 w4:=nB.o.trans (eK.mono nB.o.size);have R9:=cell_later mu Y8.o.2.1;have ce':=cell_later mu Y8.o.2.2;have kb2:=qp (w:=w4) (Y8.o.1.nn.2.1.agree (mu.block _ Y8.o.1.nn.2.1.lt)) Y8.o.1.nn.2.2;have mB:=yh mu;clear V1 eK mu nB;go_wp2_with fail;refine kb2.mono ?_;rintro e w5 ⟨v5',rfl,Qn,gc⟩;obtain⟨g5,Lb,e5,Cb,Ic⟩:=Qn.Th (by rw [ck];omega);rw [ck] at e5;subst e5;have ue:Below w2.heap.size w2 w5:=mB.o.trans (gc.mono mB.o.size);have V2:=Im (c:=512) (H2.o.2.2.2.later ue) Ic dD (ck _);rw [decide_eq_true HE0.o.2] at V2
 have pt:=yh ue;clear kb2 Qn Ic gc ue R9 ce' mB;go_wp2_with fail;refine V2.mono ?_;rintro e w6 ⟨rfl,DZ⟩;have rT:Below w2.heap.size w2 w6:=pt.o.trans (DZ.mono pt.o.size);have hK6:ad (cq F t n) w w6:=H2.o.2.1.trans (ad.ag (λ_=>False) rT) (λ_ h=>h.elim);have ko:=HO.o w6 _ hK6 (H2.o.1.later rT);have HK6:=yh hK6;clear V2 DZ rT hK6 pt;go_wp2_with fail;refine ko.mono ?_;rintro e w7 ⟨rfl,SB,iu⟩;have HE:=yh (And.intro SB (HK6.o.trans iu (λ_ h=> .inl h)));clear ko SB iu;go_wp2;go_ret;exact⟨rfl,HE.o⟩
end
end
section
section
variable {w w' w1:World} {F X Y Z:Nat->Prop} {kr p s cR q l m t n a1 a2 k:Nat} {S:DS} {G:SG} {T T':TG} {M M':MP}
theorem TX.apart (h:TX w F p s cR q l m t n S G T) (hk:ad Z w w') (hz:∀j,Z j->¬F j/\j≠q/\j≠l/\j≠m/\j≠t/\j≠n):TX w' F p s cR q l m t n S G T:=
   ⟨⟨h.st.d.ak hk (λj hj e=>(hz j e).1 hj),h.st.st.ak hk (λe=>(hz _ e).2.1 rfl),h.st.lp.ak hk (λe=>(hz _ e).2.2.1 rfl),h.st.ch.ak hk (λe=>(hz _ e).2.2.2.1 rfl),h.st.nq,h.st.nl,h.st.nm,h.st.ql,h.st.qm,h.st.lm,h.st.lk,h.st.bg,h.st.hs,h.st.kb⟩,⟨(hk.block t (af h.tx.tx) (λe=>(hz _ e).2.2.2.2.1 rfl)).trans h.tx.tx,h.tx.ch.ak hk (λe=>(hz _ e).2.2.2.2.2 rfl),h.tx.nt,h.tx.nn,h.tx.tq,h.tx.tl,h.tx.tm,h.tx.tn,h.tx.nq,h.tx.nl,h.tx.nm,h.tx.kb⟩,h.jl,h.pu,h.yk⟩
theorem jY.after (h:jY w F X kr p s cR q l m t n a1 a2 k S G T M) {c':Nat} (hx:TX w' F p s c' q l m t n S G T') (hm:MX w' Y k M') (hk:ad (λj=>cq F t n j\/X j) w w') (hY:∀j,Y j->X j\/(w.heap.size<=j/\j<w'.heap.size)):jY w' F Y kr p s c' q l m t n a1 a2 k S G T' M':=by
 have hb:=hx.low;have h0:=h.x.low;have lu:∀j,(¬F j/\j≠q/\j≠l/\j≠m/\j≠t/\j≠n)->¬cq F t n j:=λj hj e=>by
  rcases e with e|e|e
  .exact hj.1 e
  .exact hj.2.2.2.2.1 e
  .exact hj.2.2.2.2.2 e
 have Bb:¬(cq F t n kr\/X kr):=λe=>by
  rcases e with e|e
  .exact lu kr h.nk e
  .exact(h.xa kr e).2.2.2.2.2.2.1 rfl
 have hp:∀a,ar w F a t n->(∀j,X j->j≠a)->ar w' F a t n:=λa ha hxa=>⟨(hk.block a ha.lt (λe=>by
  rcases e with e|e
  .exact ha.nf e
  .exact hxa a e rfl)).trans ha.b,ha.nf⟩
 refine⟨(hk.block kr (af h.b) Bb).trans h.b,hx,hp a1 h.p1 (λj hj=>(h.xa j hj).2.2.2.2.2.2.2.1),hp a2 h.p2 (λj hj=>(h.xa j hj).2.2.2.2.2.2.2.2),hm,λj hj=>?_,h.nk,λj hj=>?_⟩
 .rcases hY j hj with e|e
  .exact Nat.lt_of_lt_of_le (h.xl j e) hk.size
  .exact e.2
 .rcases hY j hj with e|e
  .exact h.xa j e
  .obtain⟨o1,o2,o3,o4,o5,o6⟩:=h0;have z1:=af h.b;have z2:=h.p1.lt;have z3:=h.p2.lt;exact⟨λe2=>by have:=o1 j e2;omega,by omega,by omega,by omega,by omega,by omega,by omega,by omega,by omega⟩
end
end
section
abbrev rM (kd N:Int) (who two:Bool) (da:Option Addr) (dn dc:Nat):Value:= .agg #[.int .i64 kd, .int .i64 N, .bool who, .bool two, .slice da dn dc]
abbrev aY (kd N:Int) (who two:Bool) (da:Option Addr) (dn dc:Nat):Obj:= .cells #[.int .i64 kd, .int .i64 N, .bool who, .bool two, .slice da dn dc] 46
section
variable {w w' w1:World} {F X Y Z:Nat->Prop} {kr p s cR q l m t n a1 a2 k pa:Nat} {S:DS} {G:SG} {T T':TG} {M M':MP} {N:Int} {who two:Bool} {da:Option Addr} {dn dc:Nat}
theorem jY.qA (h:jY w F X kr p s cR q l m t n a1 a2 k S G T M):∀j,X j->¬cq F t n j:=λj hj e=>by
 have h9:=h.xa j hj;rcases e with e|e|e
 .exact h9.1 e
 .exact h9.2.2.2.2.1 e
 .exact h9.2.2.2.2.2.1 e
theorem jY.later (h:jY w F X kr p s cR q l m t n a1 a2 k S G T M) (hb:Below w.heap.size w w'):jY w' F X kr p s cR q l m t n a1 a2 k S G T M:=
 h.after (h.x.later hb) (h.mm.later hb) (ad.ag _ hb) (λ_ h=> .inl h)
theorem jY.Y9 (h:jY w F X kr p s cR q l m t n a1 a2 k S G T M):¬cq F t n kr:=λe=>by
 rcases e with e|e|e
 .exact h.nk.1 e
 .exact h.nk.2.2.2.2.1 e
 .exact h.nk.2.2.2.2.2 e
end
end
section
def U3:Option Nat->Int
 |none=> -1
 |some i=>(i:Int)
section
variable {w:World} {g c:Nat} {l:List Bool}
theorem vV (h:ao w 4 g c (fK l)) (hl:l.length=4096) (lo n:Nat) (hn:lo+n<=4096):
  Calls prog 113 #[bt g c, .int .i64 (lo:Int), .int .i64 ((lo+n:Nat):Int)] w λe w'=>e= .returned (.int .i64 (U3 (bX (dB l) lo n)))/\w'=w:=by
 obtain⟨R,hR⟩:∃R,R=bX (dB l) lo n:=⟨_,rfl⟩;rw [<-hR];have H:=yh (And.intro h hR);obtain⟨hi,D0⟩:∃hi,hi=lo+n:=⟨_,rfl⟩;rw [<-D0];clear h hR;go_enter func113,ntmps113;go_wp2;go_loopw [7] (λiv wr=>∃j:Nat,j<=n/\iv= .int .i64 ((lo+j:Nat):Int)/\(∀i,lo<=i->i<lo+j->cy (dB l) i=true)/\wr=w) (λiv _=>hi-(intOf iv).toNat);case atStart=>exact⟨0,Nat.zero_le _,rfl,λi h1 h2=>by omega,rfl⟩
 case round=>
  obtain⟨j,hj,rfl,bC,Fh⟩:=hrel;subst Fh;obtain⟨m,hm⟩:∃m,m=lo+j:=⟨_,rfl⟩;rw [<-hm] at bC⊢;by_cases aS:m<hi
  .have cH:(m:Int)<(hi:Int):=(by omega);have JO:(0:Int)<=(m:Int):=(by omega);have wK:(m:Int)<4096:=(by omega);have cm:=H.o.1.nw (i:=m) (by omega);have Fs:=jE l (i:=m) (by omega);have RG:=tD (l:=dB l) (k:=j) (n:=n-j) (a:=lo) (λi h1 h2=>bC i h1 (by omega));cases hx:l.getD m false
   .rw [hx] at cm Fs;have HR:Yh (R=some m):=by
     show R=some m;rw [H.o.2,show n=j+(n-j) by omega,RG,<-hm,show n-j=(n-j-1)+1 by omega];unfold bX;rw [if_pos Fs]
    clear hx Fs RG bC hm D0;go_wp2;go_ret;rw [HR.o];exact⟨rfl,rfl⟩
   .rw [hx] at cm Fs;have HA:Yh (∀i,lo<=i->i<lo+(j+1)->cy (dB l) i=true):=λi h1 h2=>by
     by_cases e:i=m
     .rw [e];exact Fs
     .exact bC i h1 (by omega)
    have HM:=yh (And.intro hm D0);clear hx Fs RG bC hm D0;go_wp2;go_roundw;case rel=>exact⟨j+1,by have:=HM.o;omega,by rw [show lo+(j+1)=m+1 by have:=HM.o;omega];go_num,HA.o,trivial⟩
    case measure=>simp [intOf];omega
  .have cH:¬(m:Int)<(hi:Int):=(by omega);have V7:j=n:=(by omega);have HR:Yh (R=none):=by
    show R=none;rw [H.o.2];cases e:bX (dB l) lo n with
    |none=>rfl
    |some b=>
     obtain⟨q1,q2,q3,_⟩:=ik e;rw [bC b q1 (by omega)] at q3;cases q3
   clear bC hm D0;go_wp2;go_ret;rw [HR.o];exact⟨rfl,rfl⟩
end
end
section
def V3 (w w':World) (X:Nat->Prop) (k:Nat) (R:Int×Int×MP) (e:Ending):Prop:=
 e= .returned (.tuple #[.int .i64 R.1, .int .i64 R.2.1])/\MX w' (more X w w') k R.2.2/\ad X w w'
def MP.kS (M:MP):Int×Int×MP:=
 if M.state≠0 then (0,M.state,M) else match bX (dB M.nb) (2+M.nodes / 4) (M.blocks-(2+M.nodes / 4)) with
 |none=>(0,60,{M with bad:=60})
 |some i=>if (M.puts 0).1≠0 then (0,M.puts 0) else ((i:Int),0,{(M.puts 0).2 with nb:=M.nb.set i true})
def MP.kT (M:MP):Int×Int×MP:=
 if M.state≠0 then (0,M.state,M) else match bX (dB M.nn) 0 M.nodes with
 |none=>(0,61,{M with bad:=61})
 |some i=>if (M.puts 1).1≠0 then (0,M.puts 1) else ((i:Int)+1,0,{(M.puts 1).2 with nn:=M.nn.set i true})
theorem uq (M:MP) (b:Nat):(M.puts b).2.nb=M.nb/\(M.puts b).2.nn=M.nn:=by
 unfold MP.puts;split
 .exact⟨rfl,rfl⟩
 .split <;> exact⟨rfl,rfl⟩
section
variable {w w':World} {X Y Z:Nat->Prop} {k:Nat} {M:MP}
theorem MX.F4 (h:MX w X k M) (x:Int):w.cell? ⟨k,10,none⟩=some (.int .i64 M.bad)/\w.frozen? ⟨k,10,none⟩=false/\MX (w.setCell ⟨k,10,none⟩ (.int .i64 x)) X k {M with bad:=x}/\ad X w (w.setCell ⟨k,10,none⟩ (.int .i64 x)):=by
 obtain⟨g1,c1,g2,c2,g3,c3,g4,c4,v5,v6,v7,h⟩:=h;have fU:=h.b;have hs:(w.setCell ⟨k,10,none⟩ (.int .i64 x)).heap[k]? =some (.cells (tY {M with bad:=x} (bt g1 c1) (bt g2 c2) (bt g3 c3) (bt g4 c4) v5 v6 v7) 72 (0,0)):=heap_setCell_same _ _ _ _ _ _ fU;have hk:=ad.setCell (F:=λj=>j=k) w (p:=⟨k,10,none⟩) rfl (.int .i64 x);have oU:IL w X v7 M.put:=⟨h.put.1,h.put.2⟩;have iW:=oU.ak hk (λg hg e=>by
  obtain⟨cur,hc⟩:=ay oU.own hg;rw [e,fU] at hc;cases hc)
 exact⟨aa fU (j:=10) rfl,ae fU 10,⟨_,_,_,_,_,_,_,_,_,_,_,h.qG (M':={M with bad:=x}) hk (λg hg=>by subst hg;exact⟨_,_,_,fU,by decide,by decide,by decide⟩) (λ_ h=>h) hs ⟨iW.own,iW.x⟩ rfl rfl rfl rfl rfl rfl rfl⟩,hk.mono (λj hj=>by rw [hj];exact h.xk)⟩
theorem MX.In (h:MX w X k M) {i:Nat} (hi:i<4096) (x:Bool):∃g c,w.cell? ⟨k,5,none⟩=some (bt g c)/\4096<=c/\w.cell? ⟨g,i,none⟩=some (.bool (M.nb.getD i false))/\w.frozen? ⟨g,i,none⟩=false/\MX (w.setCell ⟨g,i,none⟩ (.bool x)) X k {M with nb:=M.nb.set i x}/\ad X w (w.setCell ⟨g,i,none⟩ (.bool x)):=by
 obtain⟨g1,c1,g2,c2,g3,c3,g4,c4,v5,v6,v7,h⟩:=h;have hk:=ad.setCell (F:=λj=>j=g3) w (p:=⟨g3,i,none⟩) rfl (.bool x);obtain⟨cur,sT,_⟩:=id h.nb.2.1;have Za:∀g,g=g3->∃cur t fz,w.heap[g]? =some (.cells cur t fz)/\t≠5/\t≠44:=λg hg=>by subst hg;exact⟨_,_,_,sT,by decide,by decide⟩
 have oU:IL w X v7 M.put:=⟨h.put.1,h.put.2⟩;have iW:=oU.ak hk (λg hg e=>by
  obtain⟨cu,hc⟩:=ay oU.own hg;rw [e,sT] at hc;cases hc)
 have tt:(w.setCell ⟨g3,i,none⟩ (.bool x)).heap[k]? =_:=(hk.block k (af h.b) (λe=>by
  have h9:=h.b;rw [e,sT] at h9;cases h9)).trans h.b
 have row:∀g c l,g≠g3->ao w 4 g c (fK l)->ao (w.setCell ⟨g3,i,none⟩ (.bool x)) 4 g c (fK l):=λg c l hg hr=>hr.agree (hk.block g hr.lt hg);refine⟨g3,c3,aa h.b (j:=5) rfl,?_,h.nb.2.1.nw (by rw [h.nb.2.2];exact hi),h.nb.2.1.Rj i,⟨_,_,_,_,_,_,_,_,_,_,_,⟨tt,h.xk,⟨h.ob.1,row _ _ _ h.Pp h.ob.2.1,h.ob.2.2⟩,⟨h.on.1,row _ _ _ h.Pr h.on.2.1,h.on.2.2⟩,⟨h.nb.1,h.nb.2.1.rK i x,by rw [List.length_set];exact h.nb.2.2⟩,⟨h.nn.1,row _ _ _ (λe=>h.NS e.symm) h.nn.2.1,h.nn.2.2⟩,h.KZ,h.Pp,h.Pq,h.Pr,h.Ps,h.NS,h.eI.ak hk Za,h.raw.ak hk Za,⟨iW.own,iW.x⟩,h.own⟩⟩,hk.mono (λj hj=>by rw [hj];exact h.nb.1)⟩;have:=h.nb.2.1.le;have hl:=h.nb.2.2;simp [fK] at this;omega
theorem MX.Io (h:MX w X k M) {i:Nat} (hi:i<4096) (x:Bool):∃g c,w.cell? ⟨k,6,none⟩=some (bt g c)/\4096<=c/\w.cell? ⟨g,i,none⟩=some (.bool (M.nn.getD i false))/\w.frozen? ⟨g,i,none⟩=false/\MX (w.setCell ⟨g,i,none⟩ (.bool x)) X k {M with nn:=M.nn.set i x}/\ad X w (w.setCell ⟨g,i,none⟩ (.bool x)):=by
 obtain⟨g1,c1,g2,c2,g3,c3,g4,c4,v5,v6,v7,h⟩:=h;have hk:=ad.setCell (F:=λj=>j=g4) w (p:=⟨g4,i,none⟩) rfl (.bool x);obtain⟨cur,sT,_⟩:=id h.nn.2.1;have Za:∀g,g=g4->∃cur t fz,w.heap[g]? =some (.cells cur t fz)/\t≠5/\t≠44:=λg hg=>by subst hg;exact⟨_,_,_,sT,by decide,by decide⟩
 have oU:IL w X v7 M.put:=⟨h.put.1,h.put.2⟩;have iW:=oU.ak hk (λg hg e=>by
  obtain⟨cu,hc⟩:=ay oU.own hg;rw [e,sT] at hc;cases hc)
 have tt:(w.setCell ⟨g4,i,none⟩ (.bool x)).heap[k]? =_:=(hk.block k (af h.b) (λe=>by
  have h9:=h.b;rw [e,sT] at h9;cases h9)).trans h.b
 have row:∀g c l,g≠g4->ao w 4 g c (fK l)->ao (w.setCell ⟨g4,i,none⟩ (.bool x)) 4 g c (fK l):=λg c l hg hr=>hr.agree (hk.block g hr.lt hg);refine⟨g4,c4,aa h.b (j:=6) rfl,?_,h.nn.2.1.nw (by rw [h.nn.2.2];exact hi),h.nn.2.1.Rj i,⟨_,_,_,_,_,_,_,_,_,_,_,⟨tt,h.xk,⟨h.ob.1,row _ _ _ h.Pq h.ob.2.1,h.ob.2.2⟩,⟨h.on.1,row _ _ _ h.Ps h.on.2.1,h.on.2.2⟩,⟨h.nb.1,row _ _ _ h.NS h.nb.2.1,h.nb.2.2⟩,⟨h.nn.1,h.nn.2.1.rK i x,by rw [List.length_set];exact h.nn.2.2⟩,h.KZ,h.Pp,h.Pq,h.Pr,h.Ps,h.NS,h.eI.ak hk Za,h.raw.ak hk Za,⟨iW.own,iW.x⟩,h.own⟩⟩,hk.mono (λj hj=>by rw [hj];exact h.nn.1)⟩;have:=h.nn.2.1.le;have hl:=h.nn.2.2;simp [fK] at this;omega
end
end
section
section
variable {w w':World} {X Y Z:Nat->Prop} {k:Nat} {M:MP}
theorem F6 (h:MX w X k M) (hp:M.put.length<=16) (hD:2+M.nodes / 4<=M.blocks) (hB:M.blocks<=4096) (_hN:M.nodes<=4096):
  Calls prog 70 #[.pointer (some ⟨k,0,none⟩)] w λe w'=>V3 w w' X k M.kS e:=by
 have ks:=de h;by_cases h0:M.state=0
 .have hc:M.kS=match bX (dB M.nb) (2+M.nodes / 4) (M.blocks-(2+M.nodes / 4)) with|none=>(0,60,{M with bad:=60})|some i=>if (M.puts 0).1≠0 then (0,M.puts 0) else ((i:Int),0,{(M.puts 0).2 with nb:=M.nb.set i true}):=by unfold MP.kS;rw [if_neg (λe=>e h0)] <;> rfl
  rw [h0] at ks;rw [hc];clear hc h0;obtain⟨D,oc⟩:∃D,D=2+M.nodes / 4:=⟨_,rfl⟩;have lV:∀i,Below w.heap.size w (w.drewN i):=λi=>below_drewN (Below.refl _ _) i;obtain⟨g1,c1,g2,c2,g3,c3,g4,c4,v5,v6,v7,hm⟩:=id h;have e0:w.cell? ⟨k,0,none⟩=some (.int .i64 (M.blocks:Int)):=aa hm.b (j:=0) rfl;have e1:w.cell? ⟨k,1,none⟩=some (.int .i64 (M.nodes:Int)):=aa hm.b (j:=1) rfl;have e2:w.cell? ⟨k,2,none⟩=some (.int .i64 (D:Int)):=by rw [oc];exact aa hm.b (j:=2) rfl
  have e5:w.cell? ⟨k,5,none⟩=some (bt g3 c3):=aa hm.b (j:=5) rfl;have e6:w.cell? ⟨k,6,none⟩=some (bt g4 c4):=aa hm.b (j:=6) rfl;have me:∀i,Calls prog 113 #[bt g3 c3, .int .i64 (D:Int), .int .i64 (M.blocks:Int)] (w.drewN i) λe w'=>e= .returned (.int .i64 (U3 (bX (dB M.nb) (2+M.nodes / 4) (M.blocks-(2+M.nodes / 4)))))/\w'=w.drewN i:=λi=>by
   have h9:=vV (w:=w.drewN i) (hm.nb.2.1.agree ((lV i).block _ hm.nb.2.1.lt)) hm.nb.2.2 (2+M.nodes / 4) (M.blocks-(2+M.nodes / 4)) (by omega);rw [show (2+M.nodes / 4)+(M.blocks-(2+M.nodes / 4))=M.blocks by omega] at h9;rw [oc];exact h9
  have kJ:∀i,Calls prog 66 #[.pointer (some ⟨k,0,none⟩), .int .i64 0] (w.drewN i) λe w'=>e= .returned (.int .i64 (M.puts 0).1)/\MX w' (more X (w.drewN i) w') k (M.puts 0).2/\ad X (w.drewN i) w':=λi=>kQ (h.later (lV i)) 0 hp;have jH:∀i,bX (dB M.nb) (2+M.nodes / 4) (M.blocks-(2+M.nodes / 4))=some i->i<4096:=λi hi=>by have:=(ik hi).2.1;omega
  have H:=yh (And.intro h lV);have Kz:=yh (uq M 0);clear h hm lV oc;generalize bX (dB M.nb) (2+M.nodes / 4) (M.blocks-(2+M.nodes / 4))=R at*;cases R with
  |none=>
   have kU:∀i,Calls prog 113 #[bt g3 c3, .int .i64 (D:Int), .int .i64 (M.blocks:Int)] (w.drewN i) λe w'=>e= .returned (.int .i64 (-1))/\w'=w.drewN i:=me;clear me kJ jH;go_enter func70,ntmps70;go_wp2_with fail;refine ks.mono ?_;rintro e w0 ⟨rfl,dm⟩;have cd:=dm.symm;subst cd;clear dm ks;go_wp2_with fail;go_quiet ((go_at_call 113;exact Calls.quiet_of_same (kU _)));obtain⟨wq,vW⟩:∃wq,wq=w.drewN nq:=⟨_,rfl⟩;have AP:Below w.heap.size w wq:=(by rw [vW];exact H.o.2 nq);rw [<-vW];obtain⟨x1,x2,x3,x4⟩:=(H.o.1.later AP).F4 60;have HE:Yh (MX (wq.setCell ⟨k,10,none⟩ (.int .i64 60)) (more X w (wq.setCell ⟨k,10,none⟩ (.int .i64 60))) k {M with bad:=60}/\ad X w (wq.setCell ⟨k,10,none⟩ (.int .i64 60))):=⟨x3.mono (λ_ h=> .inl h),(ad.ag X AP).trans x4 (λ_ h=> .inl h)⟩;clear vW AP x3 x4 kU e0 e1 e2 e5 e6;go_wp2;go_ret2;exact⟨rfl,HE.o⟩
  |some i=>
   have kU:∀j,Calls prog 113 #[bt g3 c3, .int .i64 (D:Int), .int .i64 (M.blocks:Int)] (w.drewN j) λe w'=>e= .returned (.int .i64 (i:Int))/\w'=w.drewN j:=me;have FO:=jH i rfl;have zo:¬(i:Int)<0:=(by omega);have ZP:(0:Int)<=(i:Int):=(by omega);have LP:(i:Int)<4096:=(by omega);clear me jH;obtain⟨Q,hQ⟩:∃Q,Q=M.puts 0:=⟨_,rfl⟩;rw [<-hQ] at kJ Kz
   dsimp only
   rw [<-hQ];clear hQ;by_cases s7:Q.1=0
   .rw [if_neg (λe=>e s7)];rw [s7] at kJ;go_enter func70,ntmps70;go_wp2_with fail;refine ks.mono ?_;rintro e w0 ⟨rfl,dm⟩;have cd:=dm.symm;subst cd;clear dm ks;go_wp2_with fail;go_quiet ((go_at_call 113;exact Calls.quiet_of_same (kU _)));have kp:=kJ nq;obtain⟨wq,vW⟩:∃wq,wq=w.drewN nq:=⟨_,rfl⟩;have AP:Below w.heap.size w wq:=(by rw [vW];exact H.o.2 nq);rw [<-vW] at kp⊢;have HB:=yh AP;clear vW AP kU kJ e0 e1 e2 e5 e6;go_wp2_with fail;refine kp.mono ?_;rintro e w1 ⟨rfl,l5,bo⟩;obtain⟨g,cg,x1,x2,x3,x4,x5,x6⟩:=l5.In FO true;rw [Kz.o.1] at x3 x5;have Ba:cg<=9223372036854775807:=by
     obtain⟨SA,Pt,Rl,Rm,OD,OE,OF,OG,v5',VP,U0,nz⟩:=l5;have h9:w1.cell? ⟨k,5,none⟩=some (bt OD OE):=aa nz.b (j:=5) rfl;rw [x1] at h9;injection h9 with h8;injection h8 with h7 h6 h5;have:=nz.nb.2.1.max;unfold maxLen at this;omega
    have HE:Yh (MX (w1.setCell ⟨g,i,none⟩ (.bool true)) (more X w (w1.setCell ⟨g,i,none⟩ (.bool true))) k {Q.2 with nb:=M.nb.set i true}/\ad X w (w1.setCell ⟨g,i,none⟩ (.bool true))):=by
     have z1:=HB.o.size;have z2:=bo.size;have z3:=x6.size;refine⟨x5.mono (λj hj=>hj.imp (λe=>e) (λe=>⟨by have:=e.1;omega,by have:=e.2;omega⟩)),((ad.ag X HB.o).trans bo (λ_ h=> .inl h)).trans x6 (λj hj=>hj.imp (λe=>e) (λe=>by have:=e.1;omega))⟩
    generalize M.nb.getD i false=z at*;clear kp l5 bo x5 x6 HB;go_wp2;go_ret2;exact⟨rfl,HE.o⟩
   .rw [if_pos s7];go_enter func70,ntmps70;go_wp2_with fail;refine ks.mono ?_;rintro e w0 ⟨rfl,dm⟩;have cd:=dm.symm;subst cd;clear dm ks;go_wp2_with fail;go_quiet ((go_at_call 113;exact Calls.quiet_of_same (kU _)));have kp:=kJ nq;obtain⟨wq,vW⟩:∃wq,wq=w.drewN nq:=⟨_,rfl⟩;have AP:Below w.heap.size w wq:=(by rw [vW];exact H.o.2 nq);rw [<-vW] at kp⊢;have HB:=yh AP;clear vW AP kU kJ e0 e1 e2 e5 e6;obtain⟨r,hr⟩:∃r,r=Q.1:=⟨_,rfl⟩;rw [<-hr] at kp s7;have qD:=yh hr;clear hr;go_wp2_with fail;refine kp.mono ?_;rintro e w1 ⟨rfl,l5,bo⟩;have HE:Yh (MX w1 (more X w w1) k Q.2/\ad X w w1):=by
     have z1:=HB.o.size;refine⟨l5.mono (λj hj=>hj.imp (λe=>e) (λe=>⟨by have:=e.1;omega,e.2⟩)),(ad.ag X HB.o).trans bo (λ_ h=> .inl h)⟩
    clear kp l5 bo HB;go_wp2;go_ret2;exact⟨by rw [qD.o];rfl,HE.o⟩
 .have hc:M.kS=(0,M.state,M):=by unfold MP.kS;rw [if_pos h0]
  rw [hc];have H:=yh h;clear h hc;generalize M.state=x at*;go_enter func70,ntmps70;go_wp2_with fail;refine ks.mono ?_;rintro e w0 ⟨rfl,dm⟩;have cd:=dm.symm;subst cd;clear dm ks;go_wp2;go_ret2;exact⟨rfl,H.o.mono (λ_ h=> .inl h),ad.refl _ _⟩
theorem F7 (h:MX w X k M) (hp:M.put.length<=16) (_hD:2+M.nodes / 4<=M.blocks) (_hB:M.blocks<=4096) (hN:M.nodes<=4096):
  Calls prog 74 #[.pointer (some ⟨k,0,none⟩)] w λe w'=>V3 w w' X k M.kT e:=by
 have ks:=de h;by_cases h0:M.state=0
 .have hc:M.kT=match bX (dB M.nn) 0 M.nodes with|none=>(0,61,{M with bad:=61})|some i=>if (M.puts 1).1≠0 then (0,M.puts 1) else ((i:Int)+1,0,{(M.puts 1).2 with nn:=M.nn.set i true}):=by unfold MP.kT;rw [if_neg (λe=>e h0)] <;> rfl
  rw [h0] at ks;rw [hc];clear hc h0;obtain⟨D,oc⟩:∃D,D=2+M.nodes / 4:=⟨_,rfl⟩;have lV:∀i,Below w.heap.size w (w.drewN i):=λi=>below_drewN (Below.refl _ _) i;obtain⟨g1,c1,g2,c2,g3,c3,g4,c4,v5,v6,v7,hm⟩:=id h;have e0:w.cell? ⟨k,0,none⟩=some (.int .i64 (M.blocks:Int)):=aa hm.b (j:=0) rfl;have e1:w.cell? ⟨k,1,none⟩=some (.int .i64 (M.nodes:Int)):=aa hm.b (j:=1) rfl;have e2:w.cell? ⟨k,2,none⟩=some (.int .i64 (D:Int)):=by rw [oc];exact aa hm.b (j:=2) rfl
  have e5:w.cell? ⟨k,5,none⟩=some (bt g3 c3):=aa hm.b (j:=5) rfl;have e6:w.cell? ⟨k,6,none⟩=some (bt g4 c4):=aa hm.b (j:=6) rfl;have me:∀i,Calls prog 113 #[bt g4 c4, .int .i64 0, .int .i64 (M.nodes:Int)] (w.drewN i) λe w'=>e= .returned (.int .i64 (U3 (bX (dB M.nn) 0 M.nodes)))/\w'=w.drewN i:=λi=>by
   have h9:=vV (w:=w.drewN i) (hm.nn.2.1.agree ((lV i).block _ hm.nn.2.1.lt)) hm.nn.2.2 0 M.nodes (by omega);rw [show 0+M.nodes=M.nodes by omega] at h9
   skip
   exact h9
  have kJ:∀i,Calls prog 66 #[.pointer (some ⟨k,0,none⟩), .int .i64 1] (w.drewN i) λe w'=>e= .returned (.int .i64 (M.puts 1).1)/\MX w' (more X (w.drewN i) w') k (M.puts 1).2/\ad X (w.drewN i) w':=λi=>kQ (h.later (lV i)) 1 hp;have jH:∀i,bX (dB M.nn) 0 M.nodes=some i->i<4096:=λi hi=>by have:=(ik hi).2.1;omega
  have H:=yh (And.intro h lV);have Kz:=yh (uq M 1);clear h hm lV oc;generalize bX (dB M.nn) 0 M.nodes=R at*;cases R with
  |none=>
   have kU:∀i,Calls prog 113 #[bt g4 c4, .int .i64 0, .int .i64 (M.nodes:Int)] (w.drewN i) λe w'=>e= .returned (.int .i64 (-1))/\w'=w.drewN i:=me;clear me kJ jH;go_enter func74,ntmps74;go_wp2_with fail;refine ks.mono ?_;rintro e w0 ⟨rfl,dm⟩;have cd:=dm.symm;subst cd;clear dm ks;go_wp2_with fail;go_quiet ((go_at_call 113;exact Calls.quiet_of_same (kU _)));obtain⟨wq,vW⟩:∃wq,wq=w.drewN nq:=⟨_,rfl⟩;have AP:Below w.heap.size w wq:=(by rw [vW];exact H.o.2 nq);rw [<-vW];obtain⟨x1,x2,x3,x4⟩:=(H.o.1.later AP).F4 61;have HE:Yh (MX (wq.setCell ⟨k,10,none⟩ (.int .i64 61)) (more X w (wq.setCell ⟨k,10,none⟩ (.int .i64 61))) k {M with bad:=61}/\ad X w (wq.setCell ⟨k,10,none⟩ (.int .i64 61))):=⟨x3.mono (λ_ h=> .inl h),(ad.ag X AP).trans x4 (λ_ h=> .inl h)⟩;clear vW AP x3 x4 kU e0 e1 e2 e5 e6;go_wp2;go_ret2;exact⟨rfl,HE.o⟩
  |some i=>
   have kU:∀j,Calls prog 113 #[bt g4 c4, .int .i64 0, .int .i64 (M.nodes:Int)] (w.drewN j) λe w'=>e= .returned (.int .i64 (i:Int))/\w'=w.drewN j:=me;have FO:=jH i rfl;have zo:¬(i:Int)<0:=(by omega);have ZP:(0:Int)<=(i:Int):=(by omega);have LP:(i:Int)<4096:=(by omega);clear me jH;obtain⟨Q,hQ⟩:∃Q,Q=M.puts 1:=⟨_,rfl⟩;rw [<-hQ] at kJ Kz
   dsimp only
   rw [<-hQ];clear hQ;by_cases s7:Q.1=0
   .rw [if_neg (λe=>e s7)];rw [s7] at kJ;go_enter func74,ntmps74;go_wp2_with fail;refine ks.mono ?_;rintro e w0 ⟨rfl,dm⟩;have cd:=dm.symm;subst cd;clear dm ks;go_wp2_with fail;go_quiet ((go_at_call 113;exact Calls.quiet_of_same (kU _)));have kp:=kJ nq;obtain⟨wq,vW⟩:∃wq,wq=w.drewN nq:=⟨_,rfl⟩;have AP:Below w.heap.size w wq:=(by rw [vW];exact H.o.2 nq);rw [<-vW] at kp⊢;have HB:=yh AP;clear vW AP kU kJ e0 e1 e2 e5 e6;go_wp2_with fail;refine kp.mono ?_;rintro e w1 ⟨rfl,l5,bo⟩;obtain⟨g,cg,x1,x2,x3,x4,x5,x6⟩:=l5.Io FO true;rw [Kz.o.2] at x3 x5;have Ba:cg<=9223372036854775807:=by
     obtain⟨SA,Pt,Rl,Rm,OD,OE,OF,OG,v5',VP,U0,nz⟩:=l5;have h9:w1.cell? ⟨k,6,none⟩=some (bt OF OG):=aa nz.b (j:=6) rfl;rw [x1] at h9;injection h9 with h8;injection h8 with h7 h6 h5;have:=nz.nn.2.1.max;unfold maxLen at this;omega
    have HE:Yh (MX (w1.setCell ⟨g,i,none⟩ (.bool true)) (more X w (w1.setCell ⟨g,i,none⟩ (.bool true))) k {Q.2 with nn:=M.nn.set i true}/\ad X w (w1.setCell ⟨g,i,none⟩ (.bool true))):=by
     have z1:=HB.o.size;have z2:=bo.size;have z3:=x6.size;refine⟨x5.mono (λj hj=>hj.imp (λe=>e) (λe=>⟨by have:=e.1;omega,by have:=e.2;omega⟩)),((ad.ag X HB.o).trans bo (λ_ h=> .inl h)).trans x6 (λj hj=>hj.imp (λe=>e) (λe=>by have:=e.1;omega))⟩
    generalize M.nn.getD i false=z at*;clear kp l5 bo x5 x6 HB;go_wp2;go_ret2;exact⟨rfl,HE.o⟩
   .rw [if_pos s7];go_enter func74,ntmps74;go_wp2_with fail;refine ks.mono ?_;rintro e w0 ⟨rfl,dm⟩;have cd:=dm.symm;subst cd;clear dm ks;go_wp2_with fail;go_quiet ((go_at_call 113;exact Calls.quiet_of_same (kU _)));have kp:=kJ nq;obtain⟨wq,vW⟩:∃wq,wq=w.drewN nq:=⟨_,rfl⟩;have AP:Below w.heap.size w wq:=(by rw [vW];exact H.o.2 nq);rw [<-vW] at kp⊢;have HB:=yh AP;clear vW AP kU kJ e0 e1 e2 e5 e6;obtain⟨r,hr⟩:∃r,r=Q.1:=⟨_,rfl⟩;rw [<-hr] at kp s7;have qD:=yh hr;clear hr;go_wp2_with fail;refine kp.mono ?_;rintro e w1 ⟨rfl,l5,bo⟩;have HE:Yh (MX w1 (more X w w1) k Q.2/\ad X w w1):=by
     have z1:=HB.o.size;refine⟨l5.mono (λj hj=>hj.imp (λe=>e) (λe=>⟨by have:=e.1;omega,e.2⟩)),(ad.ag X HB.o).trans bo (λ_ h=> .inl h)⟩
    clear kp l5 bo HB;go_wp2;go_ret2;exact⟨by rw [qD.o];rfl,HE.o⟩
 .have hc:M.kT=(0,M.state,M):=by unfold MP.kT;rw [if_pos h0]
  rw [hc];have H:=yh h;clear h hc;generalize M.state=x at*;go_enter func74,ntmps74;go_wp2_with fail;refine ks.mono ?_;rintro e w0 ⟨rfl,dm⟩;have cd:=dm.symm;subst cd;clear dm ks;go_wp2;go_ret2;exact⟨rfl,H.o.mono (λ_ h=> .inl h),ad.refl _ _⟩
end
end
section
def MP.mo (M:MP) (x:Int):Int×MP:=
 if M.state≠0 then (M.state,M) else if x<(2+M.nodes / 4:Nat)\/(M.blocks:Int)<=x then (11,M) else if M.nb.getD x.toNat false=false then (62,M) else if (M.puts 0).1≠0 then M.puts 0 else (0,{(M.puts 0).2 with nb:=M.nb.set x.toNat false})
def MP.mq (M:MP) (x:Int):Int×MP:=
 if M.state≠0 then (M.state,M) else if x<1\/(M.nodes:Int)<x then (11,M) else if M.nn.getD (x-1).toNat false=false then (62,M) else if (M.puts 1).1≠0 then M.puts 1 else (0,{(M.puts 1).2 with nn:=M.nn.set (x-1).toNat false})
section
variable {w w':World} {X Y Z:Nat->Prop} {k:Nat} {M:MP}
theorem F8 (h:MX w X k M) (hp:M.put.length<=16) (_hD:2+M.nodes / 4<=M.blocks) (hB:M.blocks<=4096) (hN:M.nodes<=4096) (x:Int):
  Calls prog 72 #[.pointer (some ⟨k,0,none⟩), .int .i64 x] w λe w'=>MO w w' X w.heap.size k (M.mo x) e:=by
 have ks:=de h;by_cases h0:M.state=0
 .have hc:M.mo x=if x<((2+M.nodes / 4:Nat):Int)\/(M.blocks:Int)<=x then (11,M) else if M.nb.getD x.toNat false=false then (62,M) else if (M.puts 0).1≠0 then M.puts 0 else (0,{(M.puts 0).2 with nb:=M.nb.set x.toNat false}):=by unfold MP.mo;rw [if_neg (λe=>e h0)]
  rw [h0] at ks;rw [hc];clear hc h0;obtain⟨D,oc⟩:∃D,D=2+M.nodes / 4:=⟨_,rfl⟩;obtain⟨g1,c1,g2,c2,g3,c3,g4,c4,v5,v6,v7,hm⟩:=id h;have e0:w.cell? ⟨k,0,none⟩=some (.int .i64 (M.blocks:Int)):=aa hm.b (j:=0) rfl;have e1:w.cell? ⟨k,1,none⟩=some (.int .i64 (M.nodes:Int)):=aa hm.b (j:=1) rfl;have e2:w.cell? ⟨k,2,none⟩=some (.int .i64 (D:Int)):=by rw [oc];exact aa hm.b (j:=2) rfl
  have H:=yh h;by_cases hr:x<((2+M.nodes / 4:Nat):Int)\/(M.blocks:Int)<=x
  .rw [if_pos hr];clear hm;rw [<-oc] at hr;clear oc;by_cases cI:x<(D:Int)
   .clear hr;go_enter func72,ntmps72;go_wp2_with fail;refine ks.mono ?_;rintro e w0 ⟨rfl,dm⟩;have cd:=dm.symm;subst cd;clear dm ks;go_wp2;go_ret;exact⟨rfl,H.o.mono (λ_ h=> .inl h),ad.refl _ _⟩
   .have eB:=hr.resolve_left cI;clear hr;go_enter func72,ntmps72;go_wp2_with fail;refine ks.mono ?_;rintro e w0 ⟨rfl,dm⟩;have cd:=dm.symm;subst cd;clear dm ks;go_wp2;go_ret;exact⟨rfl,H.o.mono (λ_ h=> .inl h),ad.refl _ _⟩
  .rw [if_neg hr];obtain⟨i,hi⟩:∃i:Nat,x=(i:Int):=⟨x.toNat,by omega⟩;rw [hi,Int.toNat_natCast];obtain⟨xx,VZ⟩:∃xx:Nat,x=(xx:Int):=⟨x.toNat,by omega⟩;subst VZ;have FO:i<4096:=(by omega);have o8:¬(xx:Int)<(D:Int):=(by omega);have D0:¬(M.blocks:Int)<=(xx:Int):=(by omega);have ZP:(0:Int)<=(i:Int):=(by omega);have LP:(i:Int)<4096:=(by omega);have e5:w.cell? ⟨k,5,none⟩=some (bt g3 c3):=aa hm.b (j:=5) rfl;have e6:w.cell? ⟨k,6,none⟩=some (bt g4 c4):=aa hm.b (j:=6) rfl;have cm:=hm.nb.2.1.nw (i:=i) (by rw [hm.nb.2.2];exact FO);have kZ:4096<=c3:=(by have:=hm.nb.2.1.le;have:=hm.nb.2.2;simp [fK] at*;omega);have Ba:c3<=9223372036854775807:=(by have:=hm.nb.2.1.max;unfold maxLen at this;omega);have kp:=kQ h 0 hp;have Kz:=yh (uq M 0);clear hm h hr oc;obtain rfl:i=xx:=(by omega);cases KA:M.nb.getD i false
   .rw [if_pos rfl];rw [KA] at cm;clear KA kp;go_enter func72,ntmps72;go_wp2_with fail;refine ks.mono ?_;rintro e w0 ⟨rfl,dm⟩;have cd:=dm.symm;subst cd;clear dm ks;go_wp2;go_ret;exact⟨rfl,H.o.mono (λ_ h=> .inl h),ad.refl _ _⟩
   .rw [if_neg (by decide)];rw [KA] at cm;obtain⟨Q,hQ⟩:∃Q,Q=M.puts 0:=⟨_,rfl⟩;rw [<-hQ] at kp Kz⊢;clear hQ;by_cases s7:Q.1=0
    .rw [if_neg (λe=>e s7)];rw [s7] at kp;go_enter func72,ntmps72;go_wp2_with fail;refine ks.mono ?_;rintro e w0 ⟨rfl,dm⟩;have cd:=dm.symm;subst cd;clear dm ks;go_wp2_with fail;refine kp.mono ?_;rintro e w1 ⟨rfl,l5,bo⟩;obtain⟨g,cg,x1,x2,x3,x4,x5,x6⟩:=l5.In FO false;rw [Kz.o.1,KA] at x3;rw [Kz.o.1] at x5;have QW:cg<=9223372036854775807:=by
      obtain⟨SA,Pt,Rl,Rm,OD,OE,OF,OG,v5',VP,U0,nz⟩:=l5;have h9:w1.cell? ⟨k,5,none⟩=some (bt OD OE):=aa nz.b (j:=5) rfl;rw [x1] at h9;injection h9 with h8;injection h8 with h7 h6 h5;have:=nz.nb.2.1.max;unfold maxLen at this;omega
     have HE:Yh (MX (w1.setCell ⟨g,i,none⟩ (.bool false)) (λj=>X j\/(w.heap.size<=j/\j<(w1.setCell ⟨g,i,none⟩ (.bool false)).heap.size)) k {Q.2 with nb:=M.nb.set i false}/\ad X w (w1.setCell ⟨g,i,none⟩ (.bool false))):=by
      have z2:=bo.size;have z3:=x6.size;refine⟨x5.mono (λj hj=>hj.imp (λe=>e) (λe=>⟨e.1,by have:=e.2;omega⟩)),bo.trans x6 (λj hj=>hj.imp (λe=>e) (λe=>e.1))⟩
     clear kp l5 bo x5 x6 KA cm e5 e6;go_wp2;go_ret;exact⟨rfl,HE.o⟩
    .rw [if_pos s7];obtain⟨r,D4⟩:∃r,r=Q.1:=⟨_,rfl⟩;rw [<-D4] at kp s7;have qD:=yh D4;clear D4 KA;go_enter func72,ntmps72;go_wp2_with fail;refine ks.mono ?_;rintro e w0 ⟨rfl,dm⟩;have cd:=dm.symm;subst cd;clear dm ks;go_wp2_with fail;refine kp.mono ?_;rintro e w1 ⟨rfl,l5,bo⟩;have HE:Yh (MX w1 (λj=>X j\/(w.heap.size<=j/\j<w1.heap.size)) k Q.2/\ad X w w1):=⟨l5,bo⟩;clear kp l5 bo;go_wp2;go_ret;exact⟨by rw [qD.o];rfl,HE.o⟩
 .have hc:M.mo x=(M.state,M):=by unfold MP.mo;rw [if_pos h0]
  rw [hc];have H:=yh h;clear h hc;generalize M.state=y at*;go_enter func72,ntmps72;go_wp2_with fail;refine ks.mono ?_;rintro e w0 ⟨rfl,dm⟩;have cd:=dm.symm;subst cd;clear dm ks;go_wp2;go_ret;exact⟨rfl,H.o.mono (λ_ h=> .inl h),ad.refl _ _⟩
theorem F9 (h:MX w X k M) (hp:M.put.length<=16) (_hD:2+M.nodes / 4<=M.blocks) (_hB:M.blocks<=4096) (hN:M.nodes<=4096) (x:Int):
  Calls prog 76 #[.pointer (some ⟨k,0,none⟩), .int .i64 x] w λe w'=>MO w w' X w.heap.size k (M.mq x) e:=by
 have ks:=de h;by_cases h0:M.state=0
 .have hc:M.mq x=if x<1\/(M.nodes:Int)<x then (11,M) else if M.nn.getD (x-1).toNat false=false then (62,M) else if (M.puts 1).1≠0 then M.puts 1 else (0,{(M.puts 1).2 with nn:=M.nn.set (x-1).toNat false}):=by unfold MP.mq;rw [if_neg (λe=>e h0)]
  rw [h0] at ks;rw [hc];clear hc h0;obtain⟨D,oc⟩:∃D,D=2+M.nodes / 4:=⟨_,rfl⟩;obtain⟨g1,c1,g2,c2,g3,c3,g4,c4,v5,v6,v7,hm⟩:=id h;have e0:w.cell? ⟨k,0,none⟩=some (.int .i64 (M.blocks:Int)):=aa hm.b (j:=0) rfl;have e1:w.cell? ⟨k,1,none⟩=some (.int .i64 (M.nodes:Int)):=aa hm.b (j:=1) rfl;have e2:w.cell? ⟨k,2,none⟩=some (.int .i64 (D:Int)):=by rw [oc];exact aa hm.b (j:=2) rfl
  have H:=yh h;by_cases hr:x<1\/(M.nodes:Int)<x
  .rw [if_pos hr];clear hm;clear oc;by_cases cI:x<1
   .clear hr;go_enter func76,ntmps76;go_wp2_with fail;refine ks.mono ?_;rintro e w0 ⟨rfl,dm⟩;have cd:=dm.symm;subst cd;clear dm ks;go_wp2;go_ret;exact⟨rfl,H.o.mono (λ_ h=> .inl h),ad.refl _ _⟩
   .have eB:=hr.resolve_left cI;clear hr;go_enter func76,ntmps76;go_wp2_with fail;refine ks.mono ?_;rintro e w0 ⟨rfl,dm⟩;have cd:=dm.symm;subst cd;clear dm ks;go_wp2;go_ret;exact⟨rfl,H.o.mono (λ_ h=> .inl h),ad.refl _ _⟩
  .rw [if_neg hr];obtain⟨i,hi⟩:∃i:Nat,(x-1)=(i:Int):=⟨(x-1).toNat,by omega⟩;rw [hi,Int.toNat_natCast];obtain⟨xx,VZ⟩:∃xx:Nat,x=(xx:Int):=⟨x.toNat,by omega⟩;subst VZ;have FO:i<4096:=(by omega);have o8:¬(xx:Int)<1:=(by omega);have D0:¬(M.nodes:Int)<(xx:Int):=(by omega);have ZP:(0:Int)<=(i:Int):=(by omega);have LP:(i:Int)<4096:=(by omega);have e5:w.cell? ⟨k,5,none⟩=some (bt g3 c3):=aa hm.b (j:=5) rfl;have e6:w.cell? ⟨k,6,none⟩=some (bt g4 c4):=aa hm.b (j:=6) rfl;have cm:=hm.nn.2.1.nw (i:=i) (by rw [hm.nn.2.2];exact FO);have kZ:4096<=c4:=(by have:=hm.nn.2.1.le;have:=hm.nn.2.2;simp [fK] at*;omega);have Ba:c4<=9223372036854775807:=(by have:=hm.nn.2.1.max;unfold maxLen at this;omega);have kp:=kQ h 1 hp;have Kz:=yh (uq M 1);clear hm h hr oc
   skip
   cases KA:M.nn.getD i false
   .rw [if_pos rfl];rw [KA] at cm;clear KA kp;go_enter func76,ntmps76;go_wp2_with fail;refine ks.mono ?_;rintro e w0 ⟨rfl,dm⟩;have cd:=dm.symm;subst cd;clear dm ks;go_wp2;go_ret;exact⟨rfl,H.o.mono (λ_ h=> .inl h),ad.refl _ _⟩
   .rw [if_neg (by decide)];rw [KA] at cm;obtain⟨Q,hQ⟩:∃Q,Q=M.puts 1:=⟨_,rfl⟩;rw [<-hQ] at kp Kz⊢;clear hQ;by_cases s7:Q.1=0
    .rw [if_neg (λe=>e s7)];rw [s7] at kp;go_enter func76,ntmps76;go_wp2_with fail;refine ks.mono ?_;rintro e w0 ⟨rfl,dm⟩;have cd:=dm.symm;subst cd;clear dm ks;go_wp2_with fail;refine kp.mono ?_;rintro e w1 ⟨rfl,l5,bo⟩;obtain⟨g,cg,x1,x2,x3,x4,x5,x6⟩:=l5.Io FO false;rw [Kz.o.2,KA] at x3;rw [Kz.o.2] at x5;have QW:cg<=9223372036854775807:=by
      obtain⟨SA,Pt,Rl,Rm,OD,OE,OF,OG,v5',VP,U0,nz⟩:=l5;have h9:w1.cell? ⟨k,6,none⟩=some (bt OF OG):=aa nz.b (j:=6) rfl;rw [x1] at h9;injection h9 with h8;injection h8 with h7 h6 h5;have:=nz.nn.2.1.max;unfold maxLen at this;omega
     have HE:Yh (MX (w1.setCell ⟨g,i,none⟩ (.bool false)) (λj=>X j\/(w.heap.size<=j/\j<(w1.setCell ⟨g,i,none⟩ (.bool false)).heap.size)) k {Q.2 with nn:=M.nn.set i false}/\ad X w (w1.setCell ⟨g,i,none⟩ (.bool false))):=by
      have z2:=bo.size;have z3:=x6.size;refine⟨x5.mono (λj hj=>hj.imp (λe=>e) (λe=>⟨e.1,by have:=e.2;omega⟩)),bo.trans x6 (λj hj=>hj.imp (λe=>e) (λe=>e.1))⟩
     clear kp l5 bo x5 x6 KA cm e5 e6;go_wp2;go_ret;exact⟨rfl,HE.o⟩
    .rw [if_pos s7];obtain⟨r,D4⟩:∃r,r=Q.1:=⟨_,rfl⟩;rw [<-D4] at kp s7;have qD:=yh D4;clear D4 KA;go_enter func76,ntmps76;go_wp2_with fail;refine ks.mono ?_;rintro e w0 ⟨rfl,dm⟩;have cd:=dm.symm;subst cd;clear dm ks;go_wp2_with fail;refine kp.mono ?_;rintro e w1 ⟨rfl,l5,bo⟩;have HE:Yh (MX w1 (λj=>X j\/(w.heap.size<=j/\j<w1.heap.size)) k Q.2/\ad X w w1):=⟨l5,bo⟩;clear kp l5 bo;go_wp2;go_ret;exact⟨by rw [qD.o];rfl,HE.o⟩
 .have hc:M.mq x=(M.state,M):=by unfold MP.mq;rw [if_pos h0]
  rw [hc];have H:=yh h;clear h hc;generalize M.state=y at*;go_enter func76,ntmps76;go_wp2_with fail;refine ks.mono ?_;rintro e w0 ⟨rfl,dm⟩;have cd:=dm.symm;subst cd;clear dm ks;go_wp2;go_ret;exact⟨rfl,H.o.mono (λ_ h=> .inl h),ad.refl _ _⟩
end
end
section
def pj (l:List Bool) (i:Nat):Nat->Nat
 |0=>0
 |n+1=>pj l i n+(if l.getD (i+n) false=false then 1 else 0)
theorem Ip (l:List Bool) (i:Nat):∀n,pj l i n<=n
 |0=>Nat.le_refl _
 |n+1=>by
  have:=Ip l i n;unfold pj;split <;> omega
section
variable {w:World} {g c:Nat} {l:List Bool}
theorem tK (h:ao w 4 g c (fK l)) (hl:l.length=4096) (lo n:Nat) (hn:lo+n<=4096):
  Calls prog 120 #[bt g c, .int .i64 (lo:Int), .int .i64 ((lo+n:Nat):Int)] w λe w'=>e= .returned (.int .i64 (pj l lo n:Int))/\w'=w:=by
 have H:=yh h;obtain⟨hi,D0⟩:∃hi,hi=lo+n:=⟨_,rfl⟩;rw [<-D0];have HH:=yh D0;have FO:hi<=4096:=by omega
 clear h D0 hn;go_enter func120,ntmps120;go_wp2;go_loopw [7,8] (λnv iv wr=>∃j:Nat,j<=n/\iv= .int .i64 ((lo+j:Nat):Int)/\nv= .int .i64 (pj l lo j:Int)/\wr=w) (λ_ iv _=>hi-(intOf iv).toNat);case atStart=>exact⟨0,Nat.zero_le _,rfl,rfl,rfl⟩
 case round=>
  obtain⟨j,hj,rfl,rfl,Fh⟩:=hrel;subst Fh;obtain⟨m,hm⟩:∃m,m=lo+j:=⟨_,rfl⟩;rw [<-hm];have HM:=yh hm;have hmj:j<=m:=by omega
  clear hm;have hle:=Ip l lo j;by_cases aS:m<hi
  .have cH:(m:Int)<(hi:Int):=(by omega);have JO:(0:Int)<=(m:Int):=(by omega);have wK:(m:Int)<4096:=(by omega);have cm:=H.o.nw (i:=m) (by omega);have bu:pj l lo (j+1)=pj l lo j+(if l.getD m false=false then 1 else 0):=(by show _+(if l.getD (lo+j) false=false then 1 else 0)=_;rw [<-HM.o]);obtain⟨y,hy⟩:∃y,y=pj l lo j:=⟨_,rfl⟩;rw [<-hy] at bu hle⊢;clear hy;cases hx:l.getD m false
   .rw [hx] at cm bu;have HS:Yh (pj l lo (j+1)=y+1):=bu;clear hx bu;go_wp2;go_roundw;case rel=>exact⟨j+1,by have:=HM.o;have:=HH.o;omega,by rw [show lo+(j+1)=m+1 by have:=HM.o;omega];go_num,by rw [HS.o];go_num,trivial⟩
    case measure=>simp [intOf];omega
   .rw [hx] at cm bu;have HS:Yh (pj l lo (j+1)=y):=bu;clear hx bu;go_wp2;go_roundw;case rel=>exact⟨j+1,by have:=HM.o;have:=HH.o;omega,by rw [show lo+(j+1)=m+1 by have:=HM.o;omega];go_num,by rw [HS.o],trivial⟩
    case measure=>simp [intOf];omega
  .have cH:¬(m:Int)<(hi:Int):=(by omega);have HJ:Yh (j=n):=(by show j=n;have:=HM.o;have:=HH.o;omega);go_wp2;go_ret;rw [HJ.o];exact⟨rfl,rfl⟩
end
end
section
def MP.Iq (M:MP):Nat:=pj M.nb (2+M.nodes / 4) (M.blocks-(2+M.nodes / 4))
def MP.Ir (M:MP):Nat:=pj M.nn 0 M.nodes
section
variable {w w':World} {X Y Z:Nat->Prop} {k:Nat} {M:MP}
theorem OI (h:MX w X k M) (h0:M.state=0) (hD:2+M.nodes / 4<=M.blocks) (hB:M.blocks<=4096) (hN:M.nodes<=4096):
  Calls prog 78 #[.pointer (some ⟨k,0,none⟩)] w λe w'=>e= .returned (.tuple #[.int .i64 (M.Iq:Int), .int .i64 (M.Ir:Int), .int .i64 0])/\∃n,w'=w.drewN n:=by
 have ks:=de h;rw [h0] at ks;clear h0;obtain⟨D,oc⟩:∃D,D=2+M.nodes / 4:=⟨_,rfl⟩;have lV:∀i,Below w.heap.size w (w.drewN i):=λi=>below_drewN (Below.refl _ _) i;obtain⟨g1,c1,g2,c2,g3,c3,g4,c4,v5,v6,v7,hm⟩:=id h;have e0:w.cell? ⟨k,0,none⟩=some (.int .i64 (M.blocks:Int)):=aa hm.b (j:=0) rfl;have e1:w.cell? ⟨k,1,none⟩=some (.int .i64 (M.nodes:Int)):=aa hm.b (j:=1) rfl;have e2:w.cell? ⟨k,2,none⟩=some (.int .i64 (D:Int)):=by rw [oc];exact aa hm.b (j:=2) rfl
 have e5:w.cell? ⟨k,5,none⟩=some (bt g3 c3):=aa hm.b (j:=5) rfl;have e6:w.cell? ⟨k,6,none⟩=some (bt g4 c4):=aa hm.b (j:=6) rfl;have k0:∀i,Calls prog 120 #[bt g3 c3, .int .i64 (D:Int), .int .i64 (M.blocks:Int)] (w.drewN i) λe w'=>e= .returned (.int .i64 (M.Iq:Int))/\w'=w.drewN i:=λi=>by
  have h9:=tK (w:=w.drewN i) (hm.nb.2.1.agree ((lV i).block _ hm.nb.2.1.lt)) hm.nb.2.2 (2+M.nodes / 4) (M.blocks-(2+M.nodes / 4)) (by omega);rw [show (2+M.nodes / 4)+(M.blocks-(2+M.nodes / 4))=M.blocks by omega] at h9;rw [oc];exact h9
 have k1:∀i,Calls prog 120 #[bt g4 c4, .int .i64 0, .int .i64 (M.nodes:Int)] (w.drewN i) λe w'=>e= .returned (.int .i64 (M.Ir:Int))/\w'=w.drewN i:=λi=>by
  have h9:=tK (w:=w.drewN i) (hm.nn.2.1.agree ((lV i).block _ hm.nn.2.1.lt)) hm.nn.2.2 0 M.nodes (by omega);rw [Nat.zero_add] at h9;exact h9
 clear h hm lV oc hD hB hN;generalize M.Iq=l0 at*;generalize M.Ir=l1 at*;generalize M.blocks=B at*;generalize M.nodes=N at*;go_enter func78,ntmps78;go_wp2_with fail;refine ks.mono ?_;rintro e w0 ⟨rfl,dm⟩;have cd:=dm.symm;subst cd;clear dm ks;go_wp2_with fail;go_quiet (first|(go_at_call_of 120 (bt g3 c3);exact Calls.quiet_of_same (k0 _))|(go_at_call_of 120 (bt g4 c4);exact Calls.quiet_of_same (k1 _)));go_wp2;go_ret3;exact⟨rfl,nq,rfl⟩
theorem OJ (h:MX w X k M) (h0:M.state≠0):
  Calls prog 78 #[.pointer (some ⟨k,0,none⟩)] w λe w'=>e= .returned (.tuple #[.int .i64 0, .int .i64 0, .int .i64 M.state])/\w'=w:=by
 have ks:=de h;generalize M.state=s at*;clear h;go_enter func78,ntmps78;go_wp2_with fail;refine ks.mono ?_;rintro e w0 ⟨rfl,dm⟩;have cd:=dm.symm;subst cd;clear dm ks;go_wp2;go_ret3;exact⟨rfl,rfl⟩
end
end
section
theorem AQ {l:List Bool} {i:Nat} (hi:i<l.length) (x:Bool) (j:Nat):(l.set i x).getD j false=if j=i then x else l.getD j false:=by
 simp only [List.getD_eq_getElem?_getD,List.getElem?_set];by_cases h:i=j
 .subst h;rw [if_pos rfl,if_pos hi,if_pos rfl];rfl
 .rw [if_neg h,if_neg (λe=>h e.symm)]
theorem Is {l:List Bool} (hl:l.length=4096) {i:Nat} (hi:i<4096):bv (dB l) i=dB (l.set i (!l.getD i false)):=by
 refine sJ (jb (oA l)) (oA _) (by rw [jm,ck,ck]) (λj hj=>?_);rw [jm,ck] at hj;rw [tC (oA l) (by rw [ck];omega),jE l hi,jE l (by omega:j<4096),jE (l.set i (!l.getD i false)) (by omega:j<4096),AQ (by omega)]
theorem CM.Ga {ms:CM} (h:CM.Ok ms):(CM.keys ms).Nodup:=by
 unfold CM.keys;rw [List.nodup_iff_pairwise_ne,List.pairwise_map];exact h.imp (λaS=>Nat.ne_of_lt aS)
theorem CM.mem_keys {ms:CM} (h:CM.Ok ms) {b:Nat}:b∈CM.keys ms↔(CM.get ms b).isSome=true:=by
 unfold CM.keys;rw [List.mem_map];constructor
 .rintro ⟨⟨k,c⟩,hm,rfl⟩;rw [CM.get_of_mem h hm];rfl
 .intro hs;cases hg:CM.get ms b with
  |none=>rw [hg] at hs;cases hs
  |some c=>exact⟨(b,c),CM.get_mem hg,rfl⟩
structure LK (G:SG) (S:DS) (T:TG) (M:MP):Prop where
 bad:T.bad=M.bad
 en:T.ended=false
 op:M.opn=true
 dd:G.L.dead S=M.dead
 pk:∀b,b∈M.put↔(CM.get T.puts b).isSome=true
 nd:M.put.Nodup
 le:M.put.length<=16
 s0:T.bq G S 0=dB M.nb
 s1:T.bq G S 1=dB M.nn
 so:∀b,2<=b->b<G.y.blocks->M.raw[b]? =some (T.bq G S b)
 mb:M.blocks=G.y.blocks
 mn:M.nodes=G.y.nodes
 rl:M.raw.length=G.y.blocks
 l0:M.nb.length=4096
 l1:M.nn.length=4096
 o0:G.block S 0=dB M.ob
 o1:G.block S 1=dB M.on
 oo:∀b,2<=b->b<G.y.blocks->M.eI[b]? =some (G.block S b)
 Rn:M.eI.length=G.y.blocks
 k0:M.ob.length=4096
 k1:M.on.length=4096
section
variable {S:DS} {G:SG} {T T':TG} {M M':MP}
theorem LK.state (h:LK G S T M):T.state G S=M.state:=by
 unfold TG.state TG.dM MP.state;rw [h.dd,h.en,h.op,h.bad];cases M.dead <;> rfl
theorem LK.DD (h:LK G S T M):M.put.length<=16:=h.le
theorem LK.len (h:LK G S T M) (dw:CM.Ok T.puts):T.puts.length=M.put.length:=by
 have hp:(CM.keys T.puts).Perm M.put:=(List.perm_ext_iff_of_nodup (CM.Ga dw) h.nd).2 (λb=>(CM.mem_keys dw).trans (h.pk b).symm);have:=hp.length_eq;unfold CM.keys at this;rwa [List.length_map] at this
theorem LK.puts (h:LK G S T M) (dw:CM.Ok T.puts) (h0:M.state=0) {b:Nat} (hb:b<G.y.blocks) {d:List Int} (hl:d.length=512) (eM:d≠T.bq G S b):
    (T.put G S (b:Int) d=(50,{T with bad:=50})/\M.puts b=(50,{M with bad:=50}))\/
  ∃r,T.put G S (b:Int) d=(0,{T with puts:=CM.put T.puts b d})/\M.puts b=(0,{M with put:=r})/\(∀x,x∈r↔(CM.get (CM.put T.puts b d) x).isSome=true)/\r.Nodup/\r.length<=16:=by
 have hr:T.refusal G S (b:Int)=0:=eJ (h.state.trans h0) hb;have hle:=h.len dw;have hk:∀x,(CM.get (CM.put T.puts b d) x).isSome=true↔x=b\/x∈M.put:=λx=>by
  rw [CM.jK _ _ _ _ dw,h.pk];by_cases e:x=b
  .rw [if_pos e];simp [e]
  .rw [if_neg e];simp [e]
 unfold TG.put MP.puts;rw [if_neg (λh=>h hr),if_neg (λh=>h hl),Int.toNat_natCast,if_neg eM];by_cases hm:b∈M.put
 .right;have hs:(CM.get T.puts b).isSome=true:=(h.pk b).1 hm;rw [if_neg (λe=>by rw [hs] at e;exact absurd e.1 (by decide)),if_pos hm];refine⟨M.put,rfl,rfl,λx=>?_,h.nd,h.le⟩;rw [hk];exact⟨.inr,λe=>by rcases e with rfl|e;exact hm;exact e⟩
 .have hs:(CM.get T.puts b).isSome=false:=by
   cases e:(CM.get T.puts b).isSome
   .rfl
   .exact absurd ((h.pk b).2 e) hm
  by_cases rV:M.put.length=16
  .left;rw [if_pos ⟨hs,hle.trans rV⟩,if_neg hm,if_pos rV];exact⟨rfl,rfl⟩
  .right;rw [if_neg (λe=>rV (hle.symm.trans e.2)),if_neg hm,if_neg rV];refine⟨_,rfl,rfl,λx=>?_,?_,?_⟩
   .rw [hk,List.mem_append,List.mem_singleton];exact⟨λe=>e.symm,λe=>e.symm⟩
   .rw [List.nodup_append];exact⟨h.nd,by simp,λa ha c hc e=>by
     simp at hc;subst hc;subst e;exact hm ha⟩
   .have:=h.le;rw [List.length_append];simp;omega
theorem LK.spoilt (h:LK G S T M) (x:Int):LK G S {T with bad:=x} {M with bad:=x}:=
   ⟨rfl,h.en,h.op,h.dd,h.pk,h.nd,h.le,h.s0,h.s1,h.so,h.mb,h.mn,h.rl,h.l0,h.l1,h.o0,h.o1,h.oo,h.Rn,h.k0,h.k1⟩
theorem LK.lay (h:LK G S T M) (h0:M.state=0) (hy:CJ G.y) (dw:CM.Ok T.puts) {b:Nat} (hb:b<2) {l:List Bool} (hl:l.length=4096):∃z T' M',T.put G S (b:Int) (dB l)=(z,T')/\M.jr b l=(z,M')/\LK G S T' M'/\CM.Ok T'.puts/\(z=0->M'.state=0)/\(z≠0->M'.state=z):=by
 have Zb:b=0\/b=1:=by omega
 have zI:T.bq G S b=dB (if b=1 then M.nn else M.nb):=by
  rcases Zb with rfl|rfl
  .exact h.s0
  .exact h.s1
 have si:(if b=1 then M.nn else M.nb).length=4096:=by split;exact h.l1;exact h.l0
 have kj:b<G.y.blocks:=by have:=hy.b2;omega
 by_cases he:(if b=1 then M.nn else M.nb)=l
 .refine⟨0,T,M,?_,?_,h,dw,λ_=>h0,λe=>absurd rfl e⟩
  .have hr:T.refusal G S (b:Int)=0:=eJ (h.state.trans h0) kj;unfold TG.put;rw [if_neg (λh=>h hr),if_neg (λh=>h (ck l)),Int.toNat_natCast,if_pos (by rw [zI,he])]
  .unfold MP.jr;rw [if_pos he]
 .have eM:dB l≠T.bq G S b:=λe=>he (UY si hl (by rw [<-zI,e]));have qd:M.dead=false:=by
   unfold MP.state at h0;cases hd:M.dead
   .rfl
   .rw [hd] at h0;cases h0
  rcases h.puts dw h0 kj (ck l) eM with ⟨p1,p2⟩|⟨r,p1,p2,p3,p4,p5⟩
  .refine⟨50,_,_,p1,?_,h.spoilt 50,dw,λe=>absurd e (by decide),λ_=>?_⟩
   .unfold MP.jr;rw [if_neg he,p2];rfl
   .unfold MP.state
    dsimp only
    rw [qd,h.op];rfl
  .have hg:=λi=>DC (G:=G) (S:=S) (T:=T) (bm:=b) (d:=dB l) dw i;refine⟨0,_,if b=1 then {M with put:=r,nn:=l} else {M with put:=r,nb:=l},p1,?_,?_,CM.zh dw _ _,λ_=>?_,λe=>absurd rfl e⟩
   .unfold MP.jr;rw [if_neg he,p2];rfl
   .rcases Zb with rfl|rfl
    .rw [if_neg (by decide)];exact⟨h.bad,h.en,h.op,h.dd,p3,p4,p5,by rw [hg,if_pos rfl],by rw [hg,if_neg (by decide)];exact h.s1,λc h1 h2=>by rw [hg,if_neg (by omega)];exact h.so c h1 h2,h.mb,h.mn,h.rl,hl,h.l1,h.o0,h.o1,h.oo,h.Rn,h.k0,h.k1⟩
    .rw [if_pos rfl];exact⟨h.bad,h.en,h.op,h.dd,p3,p4,p5,by rw [hg,if_neg (by decide)];exact h.s0,by rw [hg,if_pos rfl],λc h1 h2=>by rw [hg,if_neg (by omega)];exact h.so c h1 h2,h.mb,h.mn,h.rl,h.l0,hl,h.o0,h.o1,h.oo,h.Rn,h.k0,h.k1⟩
   .split
    .exact h0
    .exact h0
theorem jt {x:Int} (h0:T.state G S≠0):(T.aT G S x).2=T:=by unfold TG.aT;rw [if_pos h0]
theorem qB {b:Int} (h0:T.state G S≠0):T.refusal G S b=T.state G S:=by unfold TG.refusal;rw [if_pos h0]
theorem Gb {b:Int} {d:List Int} (h0:T.state G S≠0):T.put G S b d=(T.state G S,T):=by
 unfold TG.put;rw [qB h0,if_pos h0]
theorem DE (h0:T.state G S≠0):T.mV G S=(T.state G S,T):=by
 unfold TG.mV;rw [Gb h0]
 dsimp only
 rw [if_pos h0,jt h0]
theorem LK.clear (h:LK G S T M) (hy:CJ G.y) (fZ:G.y.data=2+G.y.nodes / 4) (dw:CM.Ok T.puts):∃z T' M',T.mV G S=(z,T')/\M.clear=(z,M')/\LK G S T' M':=by
 by_cases h0:M.state=0
 .have hn:=hy.nd;have e1:nI (dh G.y).first=dB (rI (2+M.nodes / 4)):=by
   rw [h.mn,<-fZ];show nI G.y.data=_;have:=hy.dy;have:=hy.bl;exact(UZ (by omega)).symm
  have e2:nI 0=dB noBits:=kx.symm;obtain⟨z1,T1,M1,a1,a2,a3,a4,a5,a6⟩:=h.lay h0 hy dw (b:=0) (by omega) (rJ (2+M.nodes / 4));have a1':T.put G S ((dh G.y).bm:Int) (nI (dh G.y).first)=(z1,T1):=by rw [e1];exact a1
  have hm:M.clear=if z1≠0 then (z1,M1) else M1.jr 1 noBits:=by
   unfold MP.clear;rw [if_neg (λe=>e h0),a2]
  have hp:T.mV G S=if z1≠0 then (z1,(T1.aT G S z1).2) else if (T1.put G S ((dX G.y).bm:Int) (nI 0)).1≠0 then ((T1.put G S ((dX G.y).bm:Int) (nI 0)).1,((T1.put G S ((dX G.y).bm:Int) (nI 0)).2.aT G S (T1.put G S ((dX G.y).bm:Int) (nI 0)).1).2) else (0,(T1.put G S ((dX G.y).bm:Int) (nI 0)).2):=by
   unfold TG.mV;rw [a1']
  by_cases hz:z1=0
  .subst hz;obtain⟨z2,T2,M2,b1,b2,b3,b4,b5,b6⟩:=a3.lay (a5 rfl) hy a4 (b:=1) (by omega) (l:=noBits) List.length_replicate;have b1':T1.put G S ((dX G.y).bm:Int) (nI 0)=(z2,T2):=(by rw [e2];exact b1);rw [if_neg (λe=>e rfl),b1'] at hp;rw [if_neg (λe=>e rfl),b2] at hm
   dsimp only at hp
   by_cases eE:z2=0
   .subst eE;rw [if_neg (λe=>e rfl)] at hp;exact⟨0,T2,M2,hp,hm,b3⟩
   .rw [if_pos eE,jt (by rw [b3.state,b6 eE];exact eE)] at hp;exact⟨z2,T2,M2,hp,hm,b3⟩
  .rw [if_pos hz,jt (by rw [a3.state,a6 hz];exact hz)] at hp;rw [if_pos hz] at hm;exact⟨z1,T1,M1,hp,hm,a3⟩
 .refine⟨M.state,T,M,?_,?_,h⟩
  .rw [DE (by rw [h.state];exact h0),h.state]
  .unfold MP.clear;rw [if_pos h0]
theorem LK.AO (h:LK G S T M) (hy:CJ G.y) (dw:CM.Ok T.puts) {b:Nat} (hb:b<2) {d:List Int} (ey:Bytes d) (hl:d.length=512):∃z T' M',T.put G S (b:Int) d=(z,T')/\M.AO b d=(z,M')/\LK G S T' M':=by
 unfold MP.AO;by_cases h0:M.state=0
 .obtain⟨z1,T1,M1,a1,a2,a3,_⟩:=h.lay h0 hy dw hb (jq d);rw [Oo ey hl] at a1;exact⟨z1,T1,M1,a1,by rw [if_neg (λe=>e h0)];exact a2,a3⟩
 .exact⟨M.state,T,M,by rw [Gb (by rw [h.state];exact h0),h.state],by rw [if_pos h0],h⟩
theorem LK.SI (h:LK G S T M) (h0:M.state=0) (hy:CJ G.y) (dw:CM.Ok T.puts) {i:Nat} (hi:i<4096):
  ∃z T' M',T.put G S (0:Nat) (bv (T.bq G S 0) i)=(z,T')/\(if (M.puts 0).1≠0 then M.puts 0 else (0,{(M.puts 0).2 with nb:=M.nb.set i (!M.nb.getD i false)}))=(z,M')/\LK G S T' M'/\(z≠0->T'.state G S=z)/\(M.puts 0).1=z:=by
 have eM:M.nb≠M.nb.set i (!M.nb.getD i false):=λe=>by
  have h9:=AQ (l:=M.nb) (i:=i) (by have:=h.l0;omega) (!M.nb.getD i false) i;rw [<-e,if_pos rfl] at h9;cases hx:M.nb.getD i false <;> rw [hx] at h9 <;> cases h9
 obtain⟨z,T1,M1,a1,a2,a3,a4,a5,a6⟩:=h.lay h0 hy dw (b:=0) (by omega) (l:=M.nb.set i (!M.nb.getD i false)) (by rw [List.length_set];exact h.l0);unfold MP.jr at a2;rw [if_neg (show¬(if (0:Nat)=1 then M.nn else M.nb)=M.nb.set i (!M.nb.getD i false) from eM)] at a2;refine⟨z,T1,M1,by rw [h.s0,Is h.l0 hi];exact a1,a2,a3,λe=>(a3.state).trans (a6 e),?_⟩;split at a2
 .exact congrArg Prod.fst a2
 .rename_i e;have h9:=congrArg Prod.fst a2;exact(Decidable.of_not_not e).trans h9
theorem LK.SJ (h:LK G S T M) (h0:M.state=0) (hy:CJ G.y) (dw:CM.Ok T.puts) {i:Nat} (hi:i<4096):
  ∃z T' M',T.put G S (1:Nat) (bv (T.bq G S 1) i)=(z,T')/\(if (M.puts 1).1≠0 then M.puts 1 else (0,{(M.puts 1).2 with nn:=M.nn.set i (!M.nn.getD i false)}))=(z,M')/\LK G S T' M'/\(z≠0->T'.state G S=z)/\(M.puts 1).1=z:=by
 have eM:M.nn≠M.nn.set i (!M.nn.getD i false):=λe=>by
  have h9:=AQ (l:=M.nn) (i:=i) (by have:=h.l1;omega) (!M.nn.getD i false) i;rw [<-e,if_pos rfl] at h9;cases hx:M.nn.getD i false <;> rw [hx] at h9 <;> cases h9
 obtain⟨z,T1,M1,a1,a2,a3,a4,a5,a6⟩:=h.lay h0 hy dw (b:=1) (by omega) (l:=M.nn.set i (!M.nn.getD i false)) (by rw [List.length_set];exact h.l1);unfold MP.jr at a2;rw [if_neg (show¬(if (1:Nat)=1 then M.nn else M.nb)=M.nn.set i (!M.nn.getD i false) from eM)] at a2;refine⟨z,T1,M1,by rw [h.s1,Is h.l1 hi];exact a1,a2,a3,λe=>(a3.state).trans (a6 e),?_⟩;split at a2
 .exact congrArg Prod.fst a2
 .rename_i e;have h9:=congrArg Prod.fst a2;exact(Decidable.of_not_not e).trans h9
theorem rN (k:pg) (h0:T.state G S≠0):T.il G S k=(0,T.state G S,T):=by
 have e1:T.dr G S k=(none,T.state G S,T):=by unfold TG.dr;rw [qB h0,if_pos h0]
 unfold TG.il;rw [e1];show (0,T.state G S,(T.aT G S (T.state G S)).2)=_;rw [jt h0]
theorem vX {k:pg} (hr:T.refusal G S k.bm=0) (h0:T.state G S=0) (hk:k.no=60\/k.no=61) (hl:bX (T.bq G S k.bm) (k.first-k.zero) k.bf=none):T.il G S k=(0,k.no,{T with bad:=k.no}):=by
 have e1:T.dr G S k=(none,k.no,T):=by unfold TG.dr;rw [if_neg (λe=>e hr),hl];rfl
 unfold TG.il;rw [e1];show (0,k.no,(T.aT G S k.no).2)=_;unfold TG.aT;rw [if_neg (λe=>e h0),if_pos (by omega)]
theorem vY {k:pg} {b:Nat} (hr:T.refusal G S k.bm=0) (hl:bX (T.bq G S k.bm) (k.first-k.zero) k.bf=some b) (hp:T.put G S k.bm (bv (T.bq G S k.bm) b)=(0,T')):T.il G S k=(((b+k.zero:Nat):Int),0,T'):=by
 have e1:T.dr G S k=(some (b+k.zero),0,T'):=by
  unfold TG.dr;rw [if_neg (λe=>e hr),hl];unfold TG.CI
  dsimp only
  rw [hp,if_pos rfl]
 unfold TG.il;rw [e1]
theorem vZ {k:pg} {b:Nat} {z:Int} (hr:T.refusal G S k.bm=0) (hl:bX (T.bq G S k.bm) (k.first-k.zero) k.bf=some b) (hp:T.put G S k.bm (bv (T.bq G S k.bm) b)=(z,T')) (hz:z≠0) (hs:T'.state G S=z):T.il G S k=(0,z,T'):=by
 have e1:T.dr G S k=(none,z,T'):=by
  unfold TG.dr;rw [if_neg (λe=>e hr),hl];unfold TG.CI
  dsimp only
  rw [hp,if_neg hz]
 unfold TG.il;rw [e1];show (0,z,(T'.aT G S z).2)=_;rw [jt (by rw [hs];exact hz)]
theorem LK.kS (h:LK G S T M) (hy:CJ G.y) (fZ:G.y.data=2+G.y.nodes / 4) (dw:CM.Ok T.puts):∃T',T.il G S (dh G.y)=(M.kS.1,M.kS.2.1,T')/\LK G S T' M.kS.2.2:=by
 have hs:=h.state;by_cases h0:M.state=0
 .rw [h0] at hs;have hr:T.refusal G S ((dh G.y).bm:Int)=0:=eJ hs (by have:=hy.b2;show 0<_;omega);have hl:bX (T.bq G S (dh G.y).bm) ((dh G.y).first-(dh G.y).zero) (dh G.y).bf=bX (dB M.nb) (2+M.nodes / 4) (M.blocks-(2+M.nodes / 4)):=by
   rw [h.mn,h.mb,<-fZ,<-h.s0];rfl
  unfold MP.kS;rw [if_neg (λe=>e h0)];generalize hR:bX (dB M.nb) (2+M.nodes / 4) (M.blocks-(2+M.nodes / 4))=R at*;cases R with
  |none=>exact⟨_,vX hr hs (.inl rfl) hl,h.spoilt 60⟩
  |some i=>
   obtain⟨q1,q2,q3,_⟩:=ik hR;have hi:i<4096:=(by have:=hy.bl;have:=h.mb;omega);rw [jE _ hi] at q3;obtain⟨z,T1,M1,f1,f2,f3,f4,f5⟩:=h.SI h0 hy dw hi;rw [q3] at f2
   dsimp only
   by_cases hz:z=0
   .subst hz;rw [if_neg (λe=>e f5)] at f2⊢;have f6:M1={(M.puts 0).2 with nb:=M.nb.set i true}:=(congrArg Prod.snd f2).symm;rw [f6] at f3;exact⟨T1,vY hr hl f1,f3⟩
   .rw [if_pos (by rw [f5];exact hz)] at f2⊢;rw [f2];exact⟨T1,vZ hr hl f1 hz (f4 hz),f3⟩
 .refine⟨T,?_,?_⟩
  .rw [rN _ (by rw [hs];exact h0),hs];unfold MP.kS;rw [if_pos h0]
  .unfold MP.kS;rw [if_pos h0];exact h
theorem LK.kT (h:LK G S T M) (hy:CJ G.y) (dw:CM.Ok T.puts):∃T',T.il G S (dX G.y)=(M.kT.1,M.kT.2.1,T')/\LK G S T' M.kT.2.2:=by
 have hs:=h.state;by_cases h0:M.state=0
 .rw [h0] at hs;have hr:T.refusal G S ((dX G.y).bm:Int)=0:=eJ hs (by have:=hy.b2;show 1<_;omega);have hl:bX (T.bq G S (dX G.y).bm) ((dX G.y).first-(dX G.y).zero) (dX G.y).bf=bX (dB M.nn) 0 M.nodes:=by
   rw [h.mn,<-h.s1];rfl
  unfold MP.kT;rw [if_neg (λe=>e h0)];generalize hR:bX (dB M.nn) 0 M.nodes=R at*;cases R with
  |none=>exact⟨_,vX hr hs (.inr rfl) hl,h.spoilt 61⟩
  |some i=>
   obtain⟨q1,q2,q3,_⟩:=ik hR;have hi:i<4096:=(by have:=hy.nd;have:=h.mn;omega);rw [jE _ hi] at q3;obtain⟨z,T1,M1,f1,f2,f3,f4,f5⟩:=h.SJ h0 hy dw hi;rw [q3] at f2
   dsimp only
   by_cases hz:z=0
   .subst hz;rw [if_neg (λe=>e f5)] at f2⊢;have f6:M1={(M.puts 1).2 with nn:=M.nn.set i true}:=(congrArg Prod.snd f2).symm;rw [f6] at f3;exact⟨T1,vY hr hl f1,f3⟩
   .rw [if_pos (by rw [f5];exact hz)] at f2⊢;rw [f2];exact⟨T1,vZ hr hl f1 hz (f4 hz),f3⟩
 .refine⟨T,?_,?_⟩
  .rw [rN _ (by rw [hs];exact h0),hs];unfold MP.kT;rw [if_pos h0]
  .unfold MP.kT;rw [if_pos h0];exact h
theorem LK.Nv (h:LK G S T M) (hy:CJ G.y) (fZ:G.y.data=2+G.y.nodes / 4):2+M.nodes / 4<=M.blocks/\M.blocks<=4096/\M.nodes<=4096:=by
 have h1:M.blocks=G.y.blocks:=h.mb;have h2:M.nodes=G.y.nodes:=h.mn;have:=hy.dy;have:=hy.bl;have:=hy.nd;rw [h1,h2];omega
theorem mr {x:Int} (h0:T.state G S≠0):T.eU G S x=T:=by
 unfold TG.eU;split
 .rfl
 .exact jt h0
theorem oV {x:Int} (h0:T.state G S=0) (hx:x=0\/x=11\/x=62):T.eU G S x=T:=by
 unfold TG.eU;split
 .rfl
 .unfold TG.aT;rw [if_neg (λe=>e h0),if_neg (by omega)]
theorem DF {z:Int} (h:z≠0->T.state G S=z):T.eU G S z=T:=by
 by_cases hz:z=0
 .unfold TG.eU;rw [if_pos hz]
 .exact mr (by rw [h hz];exact hz)
section
variable {k:pg} {x:Int}
theorem ur (h0:T.state G S≠0):T.cE G S k x=(T.state G S,T):=by unfold TG.cE;rw [if_pos h0]
theorem DG (h0:T.state G S=0) (hx:x<(k.first:Int)\/(k.first:Int)+k.bf-1<x):T.cE G S k x=(11,T):=by unfold TG.cE;rw [if_neg (λe=>e h0),if_pos hx]
theorem yW (h0:T.state G S=0) (hx:¬(x<(k.first:Int)\/(k.first:Int)+k.bf-1<x)) (hr:T.refusal G S k.bm=0) (hb:cy (T.bq G S k.bm) (x.toNat-k.zero)=false):T.cE G S k x=(62,T):=by unfold TG.cE;rw [if_neg (λe=>e h0),if_neg hx,if_neg (λe=>e hr),if_pos hb]
theorem DH (h0:T.state G S=0) (hx:¬(x<(k.first:Int)\/(k.first:Int)+k.bf-1<x)) (hr:T.refusal G S k.bm=0) (hb:cy (T.bq G S k.bm) (x.toNat-k.zero)=true):T.cE G S k x=T.put G S k.bm (bv (T.bq G S k.bm) (x.toNat-k.zero)):=by unfold TG.cE;rw [if_neg (λe=>e h0),if_neg hx,if_neg (λe=>e hr),if_neg (by rw [hb];decide)]
end
theorem LK.mo (h:LK G S T M) (hy:CJ G.y) (fZ:G.y.data=2+G.y.nodes / 4) (dw:CM.Ok T.puts) (x:Int):(T.cE G S (dh G.y) x).1=(M.mo x).1/\LK G S ((T.cE G S (dh G.y) x).2.eU G S (T.cE G S (dh G.y) x).1) (M.mo x).2:=by
 have hs:=h.state;by_cases h0:M.state=0
 .rw [h0] at hs;have hr:T.refusal G S ((dh G.y).bm:Int)=0:=eJ hs (by have:=hy.b2;show 0<_;omega);have U4:(x<((dh G.y).first:Int)\/((dh G.y).first:Int)+(dh G.y).bf-1<x)↔(x<((2+M.nodes / 4:Nat):Int)\/(M.blocks:Int)<=x):=by
   have:=hy.dy;have:=h.mb;have:=h.mn;show (x<(G.y.data:Int)\/(G.y.data:Int)+(G.y.blocks-G.y.data:Nat)-1<x)↔_;omega
  unfold MP.mo;rw [if_neg (λe=>e h0)];by_cases ho:x<((2+M.nodes / 4:Nat):Int)\/(M.blocks:Int)<=x
  .rw [if_pos ho,DG hs (U4.mpr ho)];exact⟨rfl,by rw [oV hs (by omega)];exact h⟩
  .have hi:(x).toNat<4096:=(by have:=hy.bl;have:=h.mb;omega);have rL:cy (T.bq G S (dh G.y).bm) (x.toNat-(dh G.y).zero)=M.nb.getD (x).toNat false:=by
    show cy (T.bq G S 0) (x.toNat-0)=_;rw [h.s0,Nat.sub_zero,jE _ hi]
   rw [if_neg ho];cases hb:M.nb.getD (x).toNat false
   .rw [if_pos rfl,yW hs (λe=>ho (U4.mp e)) hr (by rw [rL,hb])];exact⟨rfl,by rw [oV hs (by omega)];exact h⟩
   .obtain⟨z,T1,M1,f1,f2,f3,f4,f5⟩:=h.SI h0 hy dw hi;rw [hb] at f2;have e1:T.cE G S (dh G.y) x=(z,T1):=by
     rw [DH hs (λe=>ho (U4.mp e)) hr (by rw [rL,hb])];show T.put G S (0:Nat) (bv (T.bq G S 0) (x.toNat-0))=_;rw [Nat.sub_zero];exact f1
    rw [if_neg (by decide),e1];refine⟨(congrArg Prod.fst f2).symm,?_⟩
    dsimp only
    rw [DF f4,show (if (M.puts 0).1≠0 then M.puts 0 else (0,{(M.puts 0).2 with nb:=M.nb.set x.toNat false})).2=M1 from congrArg Prod.snd f2];exact f3
 .have zl:T.state G S≠0:=by rw [hs];exact h0
  rw [ur zl];unfold MP.mo;rw [if_pos h0];exact⟨hs,by rw [mr zl];exact h⟩
theorem LK.mq (h:LK G S T M) (hy:CJ G.y) (dw:CM.Ok T.puts) (x:Int):(T.cE G S (dX G.y) x).1=(M.mq x).1/\LK G S ((T.cE G S (dX G.y) x).2.eU G S (T.cE G S (dX G.y) x).1) (M.mq x).2:=by
 have hs:=h.state;by_cases h0:M.state=0
 .rw [h0] at hs;have hr:T.refusal G S ((dX G.y).bm:Int)=0:=eJ hs (by have:=hy.b2;show 1<_;omega);have U4:(x<((dX G.y).first:Int)\/((dX G.y).first:Int)+(dX G.y).bf-1<x)↔(x<1\/(M.nodes:Int)<x):=by
   have:=h.mn;show (x<((1:Nat):Int)\/((1:Nat):Int)+(G.y.nodes:Int)-1<x)↔_;omega
  unfold MP.mq;rw [if_neg (λe=>e h0)];by_cases ho:x<1\/(M.nodes:Int)<x
  .rw [if_pos ho,DG hs (U4.mpr ho)];exact⟨rfl,by rw [oV hs (by omega)];exact h⟩
  .have hi:(x-1).toNat<4096:=(by have:=hy.nd;have:=h.mn;omega);have rL:cy (T.bq G S (dX G.y).bm) (x.toNat-(dX G.y).zero)=M.nn.getD (x-1).toNat false:=by
    show cy (T.bq G S 1) (x.toNat-1)=_;rw [h.s1,show x.toNat-1=(x-1).toNat by omega,jE _ hi]
   rw [if_neg ho];cases hb:M.nn.getD (x-1).toNat false
   .rw [if_pos rfl,yW hs (λe=>ho (U4.mp e)) hr (by rw [rL,hb])];exact⟨rfl,by rw [oV hs (by omega)];exact h⟩
   .obtain⟨z,T1,M1,f1,f2,f3,f4,f5⟩:=h.SJ h0 hy dw hi;rw [hb] at f2;have e1:T.cE G S (dX G.y) x=(z,T1):=by
     rw [DH hs (λe=>ho (U4.mp e)) hr (by rw [rL,hb])];show T.put G S (1:Nat) (bv (T.bq G S 1) (x.toNat-1))=_;rw [show x.toNat-1=(x-1).toNat by omega];exact f1
    rw [if_neg (by decide),e1];refine⟨(congrArg Prod.fst f2).symm,?_⟩
    dsimp only
    rw [DF f4,show (if (M.puts 1).1≠0 then M.puts 1 else (0,{(M.puts 1).2 with nn:=M.nn.set (x-1).toNat false})).2=M1 from congrArg Prod.snd f2];exact f3
 .have zl:T.state G S≠0:=by rw [hs];exact h0
  rw [ur zl];unfold MP.mq;rw [if_pos h0];exact⟨hs,by rw [mr zl];exact h⟩
end
end
section
def lc (w w':World) (F X:Nat->Prop) (kr p s q l m t n a1 a2 k:Nat) (S:DS) (G:SG) (e:Ending):Prop:=
 e= .returned (.bool true)/\∃X' T' M' c',jY w' F X' kr p s c' q l m t n a1 a2 k S G T' M'/\LK G S T' M'/\ad (λj=>cq F t n j\/X j) w w'/\(∀j,X' j->X j\/(w.heap.size<=j/\j<w'.heap.size))
section
variable {w w' w0 w1 w2:World} {F X Y Z:Nat->Prop} {kr p s cR c' q l m t n a1 a2 k pa:Nat} {S:DS} {G:SG} {T T':TG} {M M':MP} {N:Int} {who two:Bool} {da:Option Addr} {dn dc:Nat} {e:Ending}
theorem jY.both (h1:jY w1 F X kr p s c' q l m t n a1 a2 k S G T' M) (hB:Below w.heap.size w w0) (bo:ad (λj=>cq F t n j\/X j) w0 w1) (hc:LK G S T' M') (fi:MX w2 (more X w1 w2) k M') (aK:ad X w1 w2):lc w w2 F X kr p s q l m t n a1 a2 k S G (.returned (.bool true)):=by
 have z0:=hB.size;have z1:=bo.size;refine⟨rfl,_,T',M',_,h1.after (h1.x.apart aK (λj hj=>?_)) fi (aK.mono (λ_ h=> .inr h)) (λ_ h=>h),hc,((ad.ag _ hB).trans bo (λ_ h=> .inl h)).trans (aK.mono (λ_ h=> .inr h)) (λ_ h=> .inl h),λj hj=>hj.imp (λe=>e) (λe=>⟨by have:=e.1;omega,e.2⟩)⟩;have h9:=h1.xa j hj;exact⟨h9.1,h9.2.1,h9.2.2.1,h9.2.2.2.1,h9.2.2.2.2.1,h9.2.2.2.2.2.1⟩
theorem Gc (h:jY w F X kr p s cR q l m t n a1 a2 k S G T M) (hc:LK G S T M) (fZ:G.y.data=2+G.y.nodes / 4) (gh:ar w F pa t n):
  Calls prog 36 #[.pointer (some ⟨kr,0,none⟩), .pointer (some ⟨pa,0,none⟩),rM 2 N who two da dn dc] w λe w'=>lc w w' F X kr p s q l m t n a1 a2 k S G e:=by
 obtain⟨T1,q1,kZ⟩:=hc.kS h.x.yk fZ h.x.tx.ch.ok;obtain⟨KB,KC,KD⟩:=hc.Nv h.x.yk fZ;have tP:=hc.DD;have fD:=an w (aY 2 N who two da dn dc);have bw:=heap_alloc_new w (aY 2 N who two da dn dc);have g0:(w.alloc (aY 2 N who two da dn dc)).cell? ⟨w.heap.size,0,none⟩=some (.int .i64 2):=aa bw (j:=0) rfl;have h0:=h.later fD;have kc:=pC h0.x (gh.later fD);rw [q1] at kc;have KM:Yh (∀w1,MX w1 X k M->Calls prog 70 #[.pointer (some ⟨k,0,none⟩)] w1 λe w'=>V3 w1 w' X k M.kS e):=λw1 hm=>F6 hm (by omega) KB KC KD;have H0:=yh (And.intro h0 fD);have HC:=yh kZ;clear h hc fZ gh q1 kZ fD bw h0 KB KC KD tP;generalize M.kS=R at*;obtain⟨rx,ry,RM⟩:=R
 dsimp only at kc
 unfold V3 at KM
 dsimp only at KM HC
 go_enter func36,ntmps36;go_wp2_with fail;refine kc.mono ?_;rintro e w1 ⟨rfl,dj,bo⟩;have gj:ad (λj=>cq F t n j\/X j) (w.alloc (aY 2 N who two da dn dc)) w1:=bo.mono (λ_ h=> .inl h);have h1:=H0.o.1.after (Y:=X) dj (H0.o.1.mm.apart bo (λj e hx=>H0.o.1.qA j hx e)) gj (λ_ h=> .inl h);have ce:w1.cell? ⟨kr,4,none⟩=some (.pointer (some ⟨k,0,none⟩)):=aa h1.b (j:=4) rfl;have km:=KM.out w1 h1.mm;have H1:=yh (And.intro h1 gj);clear kc dj bo gj h1 g0 KM;go_wp2_with fail;refine km.mono ?_;rintro e w2 ⟨rfl,fi,aK⟩;have HE:Yh (lc w w2 F X kr p s q l m t n a1 a2 k S G (.returned (.bool true))):=H1.o.1.both H0.o.2 H1.o.2 HC.o fi aK;have kn:=bF ry w2;clear km fi aK H1 ce HC H0;go_wp2_with fail;refine kn.mono ?_;rintro e wx ⟨rfl,cU⟩;have bR:=cU.symm;subst bR;clear cU kn;go_wp2;go_ret;exact HE.o
theorem Gd (h:jY w F X kr p s cR q l m t n a1 a2 k S G T M) (hc:LK G S T M) (fZ:G.y.data=2+G.y.nodes / 4) (gh:ar w F pa t n):
  Calls prog 36 #[.pointer (some ⟨kr,0,none⟩), .pointer (some ⟨pa,0,none⟩),rM 4 N who two da dn dc] w λe w'=>lc w w' F X kr p s q l m t n a1 a2 k S G e:=by
 obtain⟨T1,q1,kZ⟩:=hc.kT h.x.yk h.x.tx.ch.ok;obtain⟨KB,KC,KD⟩:=hc.Nv h.x.yk fZ;have tP:=hc.DD;have fD:=an w (aY 4 N who two da dn dc);have bw:=heap_alloc_new w (aY 4 N who two da dn dc);have g0:(w.alloc (aY 4 N who two da dn dc)).cell? ⟨w.heap.size,0,none⟩=some (.int .i64 4):=aa bw (j:=0) rfl;have h0:=h.later fD;have kc:=rp h0.x (gh.later fD);rw [q1] at kc;have KM:Yh (∀w1,MX w1 X k M->Calls prog 74 #[.pointer (some ⟨k,0,none⟩)] w1 λe w'=>V3 w1 w' X k M.kT e):=λw1 hm=>F7 hm (by omega) KB KC KD;have H0:=yh (And.intro h0 fD);have HC:=yh kZ;clear h hc fZ gh q1 kZ fD bw h0 KB KC KD tP;generalize M.kT=R at*;obtain⟨rx,ry,RM⟩:=R
 dsimp only at kc
 unfold V3 at KM
 dsimp only at KM HC
 go_enter func36,ntmps36;go_wp2_with fail;refine kc.mono ?_;rintro e w1 ⟨rfl,dj,bo⟩;have gj:ad (λj=>cq F t n j\/X j) (w.alloc (aY 4 N who two da dn dc)) w1:=bo.mono (λ_ h=> .inl h);have h1:=H0.o.1.after (Y:=X) dj (H0.o.1.mm.apart bo (λj e hx=>H0.o.1.qA j hx e)) gj (λ_ h=> .inl h);have ce:w1.cell? ⟨kr,4,none⟩=some (.pointer (some ⟨k,0,none⟩)):=aa h1.b (j:=4) rfl;have km:=KM.out w1 h1.mm;have H1:=yh (And.intro h1 gj);clear kc dj bo gj h1 g0 KM;go_wp2_with fail;refine km.mono ?_;rintro e w2 ⟨rfl,fi,aK⟩;have HE:Yh (lc w w2 F X kr p s q l m t n a1 a2 k S G (.returned (.bool true))):=H1.o.1.both H0.o.2 H1.o.2 HC.o fi aK;have kn:=bF ry w2;clear km fi aK H1 ce HC H0;go_wp2_with fail;refine kn.mono ?_;rintro e wx ⟨rfl,cU⟩;have bR:=cU.symm;subst bR;clear cU kn;go_wp2;go_ret;exact HE.o
end
end
end Go.Proofs.YtkiehemoiapkkaaGreat
