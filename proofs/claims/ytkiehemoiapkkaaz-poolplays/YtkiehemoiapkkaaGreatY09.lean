import Derived.Test.YtkiehemoiapkkaaGreatY01
import Derived.Test.YtkiehemoiapkkaaGreatY03
import Derived.Test.YtkiehemoiapkkaaGreatY04
import Derived.Test.YtkiehemoiapkkaaGreatY05
import Derived.Test.YtkiehemoiapkkaaGreatY06
import Derived.Test.YtkiehemoiapkkaaGreatY07
import Derived.Test.YtkiehemoiapkkaaGreatY08
import Derived.Deep.RegionHeld3
set_option maxRecDepth 20000
set_option maxHeartbeats 8000000
set_option linter.all false
namespace Go.Proofs.YtkiehemoiapkkaaGreat
open Go.Proofs.Tryz
open Go.RowKit Go.Maps
variable {cs ov:CM} {S:DS} {y:LY} {rs:List (List Int)} {d:List Int} {blocks c n p s:Nat} {F:Nat->Prop} {w:World}
section
theorem vK {w:World} {k:Nat} {M:MP} {v1 v2 v3 v4 v5 v6 v7:Value} (h:w.heap[k]? =some (.cells (tY M v1 v2 v3 v4 v5 v6 v7) 72 (0,0))):
  w.cell? ⟨k,3,none⟩=some v1/\w.cell? ⟨k,4,none⟩=some v2/\w.cell? ⟨k,5,none⟩=some v3/\w.cell? ⟨k,6,none⟩=some v4/\w.cell? ⟨k,7,none⟩=some v5/\w.cell? ⟨k,8,none⟩=some v6/\w.cell? ⟨k,9,none⟩=some v7:=
   ⟨aa h (j:=3) rfl,aa h (j:=4) rfl,aa h (j:=5) rfl,aa h (j:=6) rfl,aa h (j:=7) rfl,aa h (j:=8) rfl,aa h (j:=9) rfl⟩
section
variable {w w':World} {X:Nat->Prop} {k g1 c1 g2 c2 g3 c3 g4 c4:Nat} {v5 v6 v7:Value} {M:MP}
theorem nG.at {rs:List (List Int)} (h:nG w X v5 rs) {j:Nat} (hj:j<rs.length):∃gv cv g c,v5= .slice (some ⟨gv,0,none⟩) rs.length cv/\w.cell? ⟨gv,j,none⟩=some (.slice (some ⟨g,0,none⟩) 512 c)/\X g/\ao w 5 g c (bs rs[j])/\(∃cur,w.heap[gv]? =some (.cells cur 44 (0,0))/\X gv):=by
 obtain⟨xs,h1,h2,h3⟩:=h;obtain⟨g,c,e1,e2,e3⟩:=h3 j hj;obtain⟨gv,cv,rfl,hg,hr,_⟩:=ao.eQ h1 (by
  intro e;obtain⟨_,⟨_,hn⟩|⟨g,c,cur,e',_⟩⟩:=h1
  .omega
  .rw [e] at e';cases e')
 obtain⟨cur,hb,_⟩:=hr;exact⟨gv,cv,g,c,rfl,ao.cell ⟨cur,hb,by assumption⟩ e1,e2,e3,cur,hb,h2 gv rfl⟩
theorem FJ (l:List (List Int)) (j:Nat) (h:j<l.length):l.take j ++ [l[j]]=l.take (j+1):=(List.take_succ_eq_append_getElem h).symm
def MP.begun (M:MP):MP:={M with nb:=M.ob,nn:=M.on,raw:=M.eI,put:= [],bad:=0,opn:=true}
def Yl (w w':World) (X:Nat->Prop) (k g1 c1 g2 c2:Nat) (v5:Value) (M:MP):Prop:=∃g3 c3 g4 c4 v6,Po w' (more X w w') k g1 c1 g2 c2 g3 c3 g4 c4 v5 v6 (.slice none 0 0) M.begun/\ad (λj=>j=k) w w'
theorem FK (h:Po w X k g1 c1 g2 c2 g3 c3 g4 c4 v5 v6 v7 M) (hX:∀j,X j->j<w.heap.size) (hn:M.eI.length<=2048):
  Calls prog 59 #[.pointer (some ⟨k,0,none⟩)] w λe w'=>e= .returned (.tuple #[])/\Yl w w' X k g1 c1 g2 c2 v5 M:=by
 have k1:=yJ h.ob.2.1 h.on.2.1 h.ob.2.2 h.on.2.2;obtain⟨e3,e4,e5,e6,e7,e8,e9⟩:=vK h.b;have H:=yh h;have vo:=af h.b;clear h;go_enter func59,ntmps59;go_wp2_with fail;refine k1.mono ?_;rintro e w1 ⟨u1,u2,d1,d2,rfl,hu1,hu2,UI,cI,eB,aq⟩;have ia:=(aq.block _ vo).trans H.o.b;obtain⟨i3,i4,i5,i6,i7,i8,i9⟩:=vK ia;have f5:=ae ia 5;have f6:=ae ia 6;have f8:=ae ia 8;have eR:=aq.size;have m1:=(heap_setCell_same w1 k 5 _ _ (bt u1 d1) ia).trans (by rfl:_=some (.cells (tY M (bt g1 c1) (bt g2 c2) (bt u1 d1) (bt g4 c4) v5 v6 v7) 72 (0,0)));have m2:=(heap_setCell_same _ k 6 _ _ (bt u2 d2) m1).trans (by rfl:_=some (.cells (tY M (bt g1 c1) (bt g2 c2) (bt u1 d1) (bt u2 d2) v5 v6 v7) 72 (0,0)));have m3:=(heap_setCell_same _ k 8 _ _ (.slice none 0 0) m2).trans (by rfl:_=some (.cells (tY M (bt g1 c1) (bt g2 c2) (bt u1 d1) (bt u2 d2) v5 (.slice none 0 0) v7) 72 (0,0)));have pR:ad (λj=>j=k) w1 (((w1.setCell ⟨k,5,none⟩ (bt u1 d1)).setCell ⟨k,6,none⟩ (bt u2 d2)).setCell ⟨k,8,none⟩ (.slice none 0 0)):=((ad.setCell (F:=λj=>j=k) w1 (p:=⟨k,5,none⟩) rfl _).trans (ad.setCell (F:=λj=>j=k) _ (p:=⟨k,6,none⟩) rfl _) (λ_ h=> .inl h)).trans (ad.setCell (F:=λj=>j=k) _ (p:=⟨k,8,none⟩) rfl _) (λ_ h=> .inl h);have Fy:∀q,q=k->∃cur t fz,w1.heap[q]? =some (.cells cur t fz)/\t≠4:=λq hq=>by subst hq;exact⟨_,_,_,ia,by decide⟩
 have HA:Yh ((((w1.setCell ⟨k,5,none⟩ (bt u1 d1)).setCell ⟨k,6,none⟩ (bt u2 d2)).setCell ⟨k,8,none⟩ (.slice none 0 0)).heap[k]? =some (.cells (tY M (bt g1 c1) (bt g2 c2) (bt u1 d1) (bt u2 d2) v5 (.slice none 0 0) v7) 72 (0,0))/\ad (λj=>j=k) w (((w1.setCell ⟨k,5,none⟩ (bt u1 d1)).setCell ⟨k,6,none⟩ (bt u2 d2)).setCell ⟨k,8,none⟩ (.slice none 0 0))/\ao (((w1.setCell ⟨k,5,none⟩ (bt u1 d1)).setCell ⟨k,6,none⟩ (bt u2 d2)).setCell ⟨k,8,none⟩ (.slice none 0 0)) 4 u1 d1 (fK M.ob)/\ao (((w1.setCell ⟨k,5,none⟩ (bt u1 d1)).setCell ⟨k,6,none⟩ (bt u2 d2)).setCell ⟨k,8,none⟩ (.slice none 0 0)) 4 u2 d2 (fK M.on)):=
    ⟨m3,(ad.ag _ aq).trans pR (λ_ h=> .inl h),cI.dP pR Fy,eB.dP pR Fy⟩
 clear k1 e3 e4 e5 e6 e7 e8 e9 aq cI eB pR m1 m2 m3 ia Fy;go_wp2;obtain⟨w2,ed⟩:∃w2,w2=((w1.setCell ⟨k,5,none⟩ (bt u1 d1)).setCell ⟨k,6,none⟩ (bt u2 d2)).setCell ⟨k,8,none⟩ (.slice none 0 0):=⟨_,rfl⟩;rw [<-ed] at HA
 dsimp only [bt] at ed
 rw [<-ed];clear ed i3 i4 i5 i6 i7 i8 i9 f5 f6 f8;obtain⟨a5,c5,hv5⟩:=H.o.eI.form;have HV5:=yh hv5;clear hv5;go_loopw [2] (λiv wr=>∃(j:Nat) (v6:Value),j<=M.eI.length/\iv= .int .i64 (j:Int)/\wr.heap[k]? =some (.cells (tY M (bt g1 c1) (bt g2 c2) (bt u1 d1) (bt u2 d2) v5 v6 v7) 72 (0,0))/\nG wr (λj=>X j\/w.heap.size<=j) v6 (M.eI.take j)/\(∀g,v6.ownBlock=some g->w.heap.size<=g)/\ad (λj=>j=k) w wr/\ao wr 4 u1 d1 (fK M.ob)/\ao wr 4 u2 d2 (fK M.on)) (λiv _=>M.eI.length-(intOf iv).toNat);case atStart=>exact⟨0,_,Nat.zero_le _,rfl,HA.o.1,nG.nil _ _,(λg h=>by simp [Value.ownBlock] at h),HA.o.2⟩
 case round=>
  clear HA;obtain⟨j,VP,hj,rfl,ia,tI,So,dR,t1,t2⟩:=hrel;obtain⟨i3,i4,i5,i6,i7,i8,i9⟩:=vK ia;have hkT:∀(e:TypeId),72≠e->∀q,q=k->∃cur t fz,w.heap[q]? =some (.cells cur t fz)/\t≠e:=λe he q hq=>by subst hq;exact⟨_,_,_,H.o.b,he⟩
  have UJ:nG wr X v5 M.eI:=H.o.eI.ak dR (λq hq=>by subst hq;exact⟨_,_,_,H.o.b,by decide,by decide⟩);obtain⟨a6,c6,rfl⟩:=tI.form;have hl6:(M.eI.take j).length=j:=by rw [List.length_take];omega
  rw [hl6] at ia tI So i8;have hvv:=HV5.o;by_cases aS:j<M.eI.length
  .obtain⟨gv,cv,ge,ce,hve,ZK,hxe,VQ,aif,Sp,hxv⟩:=UJ.at aS;subst hve;obtain⟨N,hN⟩:∃N,N=M.eI.length:=⟨_,rfl⟩;rw [<-hN] at i7 ia aS;have cH:(j:Int)<(N:Int):=(by omega);have P5:(0:Int)<=(j:Int):=(by omega);have HNN:=yh hN;have lQ:Below wr.heap.size wr wr.drew:=ah (Below.refl _ _);obtain⟨gn,cn,w7,ct,AI,iu,NV⟩:=(tI.later lQ).app (l:=M.eI[j]'(by rw [<-hN];exact aS)) (.inl hxe) (VQ.agree (lQ.block _ VQ.lt)) (by rw [hl6];omega);rw [hl6] at ct AI;rw [FJ _ _ (by rw [<-hN];exact aS)] at AI;obtain⟨xs0,VO,_,_⟩:=tI.later lQ;rw [hl6] at VO;have hZ:∀q,(Value.slice a6 j c6).ownBlock=some q->∃cur,wr.drew.heap[q]? =some (.cells cur 44 (0,0)):=λq hq=>ay VO hq;have Q1:wr.drew.heap[k]? =_:=ia;have rE:w7.heap[k]? =_:=(iu.block _ (af Q1) (λhq=>by
    obtain⟨cur,h1⟩:=hZ _ hq;exact fH Q1 h1 (by decide))).trans Q1
   have lN:=ad.setCell (F:=λq=>q=k) w7 (p:=⟨k,8,none⟩) rfl (.slice (some ⟨gn,0,none⟩) (j+1) cn);have Kl:=(heap_setCell_same w7 k 8 _ _ (.slice (some ⟨gn,0,none⟩) (j+1) cn) rE).trans (by rfl:_=some (.cells (tY M (bt g1 c1) (bt g2 c2) (bt u1 d1) (bt u2 d2) (.slice (some ⟨gv,0,none⟩) N cv) (.slice (some ⟨gn,0,none⟩) (j+1) cn) v7) 72 (0,0)));have mv:∀{g c:Nat} {xs:List Value},ao wr 4 g c xs->ao (w7.setCell ⟨k,8,none⟩ (.slice (some ⟨gn,0,none⟩) (j+1) cn)) 4 g c xs:=λhr=>((hr.agree (lQ.block _ hr.lt)).dP iu (λq hq=>by obtain⟨cur,h1⟩:=hZ q hq;exact⟨cur,_,_,h1,by decide⟩)).dP lN (λq hq=>by subst hq;exact⟨_,_,_,rE,by decide⟩);have ac1:gv≠k:=λe=>by subst e;exact fH Sp ia (by decide)
   have A8:=dR.size;have HE:Yh ((w7.setCell ⟨k,8,none⟩ (.slice (some ⟨gn,0,none⟩) (j+1) cn)).heap[k]? =some (.cells (tY M (bt g1 c1) (bt g2 c2) (bt u1 d1) (bt u2 d2) (.slice (some ⟨gv,0,none⟩) M.eI.length cv) (.slice (some ⟨gn,0,none⟩) (j+1) cn) v7) 72 (0,0))/\nG (w7.setCell ⟨k,8,none⟩ (.slice (some ⟨gn,0,none⟩) (j+1) cn)) (λj=>X j\/w.heap.size<=j) (.slice (some ⟨gn,0,none⟩) (j+1) cn) (M.eI.take (j+1))/\(∀g,(Value.slice (some ⟨gn,0,none⟩) (j+1) cn).ownBlock=some g->w.heap.size<=g)/\ad (λj=>j=k) w (w7.setCell ⟨k,8,none⟩ (.slice (some ⟨gn,0,none⟩) (j+1) cn))/\ao (w7.setCell ⟨k,8,none⟩ (.slice (some ⟨gn,0,none⟩) (j+1) cn)) 4 u1 d1 (fK M.ob)/\ao (w7.setCell ⟨k,8,none⟩ (.slice (some ⟨gn,0,none⟩) (j+1) cn)) 4 u2 d2 (fK M.on)):=
      ⟨by rw [<-hN];exact Kl,(AI.ak lN (λq hq=>by subst hq;exact⟨_,_,_,rE,by decide,by decide⟩)).mono (λq hq=>by
     rcases hq with (hq|hq)|hq
     .exact .inl hq
     .exact .inr hq
     .exact .inr (Nat.le_trans A8 hq)),λg hg=>by
      have eg:gn=g:=(by simpa [Value.ownBlock] using hg);subst eg;rcases NV with h9|h9
      .exact So _ h9
      .exact Nat.le_trans A8 h9,((dR.trans (ad.ag (λ_=>False) lQ) (λ_ h=>h.elim)).trans iu (λq hq=> .inr (So q hq))).trans lN (λ_ h=> .inl h),mv t1,mv t2⟩
   have d8:(wr.alloc (.cells #[.slice (some ⟨ge,0,none⟩) 512 ce] 44)).cell? ⟨k,8,none⟩=some (.slice a6 j c6):=aa ((Below.heap_alloc _ _ _ (af ia)).trans ia) (j:=8) rfl;have q8:wr.drew.cell? ⟨k,8,none⟩=some (.slice a6 j c6):=i8;have y7:w7.cell? ⟨k,7,none⟩=some (.slice (some ⟨gv,0,none⟩) N cv):=aa rE (j:=7) rfl;have y8:w7.cell? ⟨k,8,none⟩=some (.slice a6 j c6):=aa rE (j:=8) rfl;have f8:=ae rE 8;have q7:wr.drew.cell? ⟨k,7,none⟩=some (.slice (some ⟨gv,0,none⟩) N cv):=i7;have qe:wr.drew.cell? ⟨gv,j,none⟩=some (.slice (some ⟨ge,0,none⟩) 512 ce):=ZK;have b7:(wr.drew.alloc (.cells #[.slice (some ⟨ge,0,none⟩) 512 ce] 44)).cell? ⟨k,7,none⟩=some (.slice (some ⟨gv,0,none⟩) N cv):=cell_later (an _ _) q7;have be:(wr.drew.alloc (.cells #[.slice (some ⟨ge,0,none⟩) 512 ce] 44)).cell? ⟨gv,j,none⟩=some (.slice (some ⟨ge,0,none⟩) 512 ce):=cell_later (an _ _) qe;have hZn:(Value.slice a6 j c6).ownBlock≠some gv:=λe=>by have h8:=So _ e;have h9:=hX _ hxv;omega
   have ye:w7.cell? ⟨gv,j,none⟩=some (.slice (some ⟨ge,0,none⟩) 512 ce):=(by rw [World.cell?_of_block (iu.block _ (World.block_lt_of_cell? _ _ qe) (λe=>hZn e))];exact qe);have ss:Yh ((Builtin.append_ #[70,70] 70 #[.slice a6 j c6, .slice (some ⟨wr.heap.size,0,none⟩) 1 1]).run prog (wr.alloc (.cells #[.slice (some ⟨ge,0,none⟩) 512 ce] 44)).drew= .ok (.slice (some ⟨gn,0,none⟩) (j+1) cn) w7):=ct;have HZ:Yh ((w7.setCell ⟨k,8,none⟩ (.slice (some ⟨gn,0,none⟩) (j+1) cn)).cell? ⟨k,7,none⟩=some (.slice (some ⟨gv,0,none⟩) N cv)/\(w7.setCell ⟨k,8,none⟩ (.slice (some ⟨gn,0,none⟩) (j+1) cn)).cell? ⟨gv,j,none⟩=some (.slice (some ⟨ge,0,none⟩) 512 ce)):=⟨aa Kl (j:=7) rfl,by rw [World.cell?_of_block (lN.block _ (World.block_lt_of_cell? _ _ ye) ac1)];exact ye⟩;clear i3 i4 i5 i6 i8 i9 hkT UJ ia tI So dR t1 t2 VQ hxe Sp lQ AI iu NV VO hZ Q1 rE lN Kl mv hN hvv hZn ZK ct;go_wp2_with fail;refine wp_region_held_drew (S:=(λw'=>w'.cell? ⟨k,7,none⟩=some (.slice (some ⟨gv,0,none⟩) N cv)/\w'.cell? ⟨gv,j,none⟩=some (.slice (some ⟨ge,0,none⟩) 512 ce))) (by kernel_rfl) (⟨q7,qe⟩) (λaC=>?_);refine wpAnyH_take (i:=0) (oi:={dst:=some 23,op:=Op.move (Operand.tmp 0),type:=36,pos:= "ref.go:70",after:= #[],guard:=none}) (v:= .pointer (some ⟨k,0,none⟩)) rfl (by kernel_rfl) (by kernel_rfl) (by kernel_rfl) (λ_ _ _ h=>h) (Or.inl ⟨by rfl,?_⟩) (by assumption) ?_
   .intro w aw
    (try dsimp only at aw)
    go_simp
   try simp only [Act.put,List.setIfInBounds_toArray,List.set_cons_zero,List.set_cons_succ]
   refine wpAnyH_take (i:=1) (oi:={dst:=some 24,op:=Op.move (Operand.tmp 0),type:=36,pos:= "ref.go:70",after:= #[],guard:=none}) (v:= .pointer (some ⟨k,0,none⟩)) rfl (by kernel_rfl) (by kernel_rfl) (by kernel_rfl) (λ_ _ _ h=>h) (Or.inl ⟨by rfl,?_⟩) (by assumption) ?_
   .intro w aw
    (try dsimp only at aw)
    go_simp
   try simp only [Act.put,List.setIfInBounds_toArray,List.set_cons_zero,List.set_cons_succ]
   refine wpAnyH_take (i:=2) (oi:={dst:=some 25,op:=Op.nilCheck (Operand.tmp 24),type:=0,pos:= "ref.go:70",after:= #[{on:=1,ground:=Ground.data}],guard:=none}) (v:= .pointer (some ⟨k,0,none⟩)) rfl (by kernel_rfl) (by kernel_rfl) (by kernel_rfl) (λ_ _ _ h=>h) (Or.inl ⟨by rfl,?_⟩) (by assumption) ?_
   .intro w aw
    (try dsimp only at aw)
    go_simp
   try simp only [Act.put,List.setIfInBounds_toArray,List.set_cons_zero,List.set_cons_succ]
   refine wpAnyH_take (i:=3) (oi:={dst:=some 26,op:=Op.fieldAddr 72 (Operand.tmp 25) 6,type:=0,pos:= "ref.go:70",after:= #[{on:=2,ground:=Ground.data}],guard:=none}) (v:= .pointer (some ⟨k,8,none⟩)) rfl (by kernel_rfl) (by kernel_rfl) (by kernel_rfl) (λ_ _ _ h=>h) (Or.inl ⟨by rfl,?_⟩) (by assumption) ?_
   .intro w aw
    (try dsimp only at aw)
    go_simp
   try simp only [Act.put,List.setIfInBounds_toArray,List.set_cons_zero,List.set_cons_succ]
   refine wpAnyH_take (i:=5) (oi:={dst:=some 28,op:=Op.move (Operand.tmp 0),type:=36,pos:= "ref.go:70",after:= #[],guard:=none}) (v:= .pointer (some ⟨k,0,none⟩)) rfl (by kernel_rfl) (by kernel_rfl) (by kernel_rfl) (λ_ _ _ h=>h) (Or.inl ⟨by rfl,?_⟩) (by assumption) ?_
   .intro w aw
    (try dsimp only at aw)
    go_simp
   try simp only [Act.put,List.setIfInBounds_toArray,List.set_cons_zero,List.set_cons_succ]
   refine wpAnyH_take (i:=6) (oi:={dst:=some 29,op:=Op.nilCheck (Operand.tmp 28),type:=0,pos:= "ref.go:70",after:= #[{on:=5,ground:=Ground.data}],guard:=none}) (v:= .pointer (some ⟨k,0,none⟩)) rfl (by kernel_rfl) (by kernel_rfl) (by kernel_rfl) (λ_ _ _ h=>h) (Or.inl ⟨by rfl,?_⟩) (by assumption) ?_
   .intro w aw
    (try dsimp only at aw)
    go_simp
   try simp only [Act.put,List.setIfInBounds_toArray,List.set_cons_zero,List.set_cons_succ]
   refine wpAnyH_take (i:=7) (oi:={dst:=some 30,op:=Op.fieldAddr 72 (Operand.tmp 29) 5,type:=0,pos:= "ref.go:70",after:= #[{on:=6,ground:=Ground.data}],guard:=none}) (v:= .pointer (some ⟨k,7,none⟩)) rfl (by kernel_rfl) (by kernel_rfl) (by kernel_rfl) (λ_ _ _ h=>h) (Or.inl ⟨by rfl,?_⟩) (by assumption) ?_
   .intro w aw
    (try dsimp only at aw)
    go_simp
   try simp only [Act.put,List.setIfInBounds_toArray,List.set_cons_zero,List.set_cons_succ]
   refine wpAnyH_take (i:=8) (oi:={dst:=some 31,op:=Op.load 70 (Operand.tmp 30),type:=70,pos:= "ref.go:70",after:= #[{on:=7,ground:=Ground.data}],guard:=none}) (v:= .slice (some ⟨gv,0,none⟩) N cv) rfl (by kernel_rfl) (by kernel_rfl) (by kernel_rfl) (λ_ _ _ h=>h) (Or.inl ⟨by rfl,?_⟩) (by assumption) ?_
   .intro w aw
    (try dsimp only at aw)
    go_simp
   try simp only [Act.put,List.setIfInBounds_toArray,List.set_cons_zero,List.set_cons_succ]
   refine wpAnyH_take (i:=9) (oi:={dst:=some 32,op:=Op.move (Operand.tmp 2),type:=3,pos:= "ref.go:70",after:= #[],guard:=none}) (v:= .int .i64 (j:Int)) rfl (by kernel_rfl) (by kernel_rfl) (by kernel_rfl) (λ_ _ _ h=>h) (Or.inl ⟨by rfl,?_⟩) (by assumption) ?_
   .intro w aw
    (try dsimp only at aw)
    go_simp
   try simp only [Act.put,List.setIfInBounds_toArray,List.set_cons_zero,List.set_cons_succ]
   refine wpAnyH_take (i:=10) (oi:={dst:=some 33,op:=Op.indexAddr 70 (Operand.tmp 31) (Operand.tmp 32),type:=0,pos:= "ref.go:70",after:= #[{on:=8,ground:=Ground.data},{on:=9,ground:=Ground.data}],guard:=none}) (v:= .pointer (some ⟨gv,j,none⟩)) rfl (by kernel_rfl) (by kernel_rfl) (by kernel_rfl) (λ_ _ _ h=>h) (Or.inl ⟨by rfl,?_⟩) (by assumption) ?_
   .intro w aw
    (try dsimp only at aw)
    go_simp
   try simp only [Act.put,List.setIfInBounds_toArray,List.set_cons_zero,List.set_cons_succ]
   refine wpAnyH_take (i:=11) (oi:={dst:=some 34,op:=Op.load 44 (Operand.tmp 33),type:=44,pos:= "ref.go:70",after:= #[{on:=10,ground:=Ground.data}],guard:=none}) (v:= .slice (some ⟨ge,0,none⟩) 512 ce) rfl (by kernel_rfl) (by kernel_rfl) (by kernel_rfl) (λ_ _ _ h=>h) (Or.inl ⟨by rfl,?_⟩) (by assumption) ?_
   .intro w aw
    (try dsimp only at aw)
    go_simp
   try simp only [Act.put,List.setIfInBounds_toArray,List.set_cons_zero,List.set_cons_succ]
   refine wpAnyH_ready (rs:= [4,12]) (by kernel_rfl) (by simp) ?_;refine AllReadyH.cons (o:={dst:=some 27,op:=Op.load 70 (Operand.tmp 26),type:=70,pos:= "ref.go:70",after:= #[{on:=3,ground:=Ground.data}],guard:=none}) rfl (λK hK=>?_) (AllReadyH.cons (o:={dst:=some 35,op:=Op.buildSlice 70 1 #[(0,Operand.tmp 34)],type:=70,pos:= "ref.go:70",after:= #[{on:=11,ground:=Ground.data}],guard:=none}) rfl (λK hK=>?_) AllReadyH.nil)
   .go_simp;refine hK.out _ _ ?_ (λaC=>?_)
    .exact⟨q7,qe⟩
    clear hK K;try simp only [Act.put,List.setIfInBounds_toArray,List.set_cons_zero,List.set_cons_succ]
    refine wpAnyH_ready (rs:= [12]) (by kernel_rfl) (by simp) ?_;refine AllReadyH.cons (o:={dst:=some 35,op:=Op.buildSlice 70 1 #[(0,Operand.tmp 34)],type:=70,pos:= "ref.go:70",after:= #[{on:=11,ground:=Ground.data}],guard:=none}) rfl (λK hK=>?_) AllReadyH.nil;go_simp;refine hK.out _ _ ?_ (λaC=>?_)
    .exact⟨b7,be⟩
    clear hK K;try simp only [Act.put,List.setIfInBounds_toArray,List.set_cons_zero,List.set_cons_succ]
    refine wpAnyH_ready (rs:= [13]) (by kernel_rfl) (by simp) ?_;refine AllReadyH.cons (o:={dst:=some 36,op:=Op.call {callee:=Callee.builtin Builtin.append,args:= #[Operand.tmp 27,Operand.tmp 35],argTypes:= #[70,70]},type:=70,pos:= "ref.go:70",after:= #[{on:=4,ground:=Ground.data},{on:=12,ground:=Ground.data}],guard:=none}) rfl (λK hK=>?_) AllReadyH.nil;rw [if_pos (by rfl)];refine cf _ _ 70 rfl (.slice a6 j c6) (.slice (some ⟨wr.heap.size,0,none⟩) 1 1) _ rfl rfl ss.o ?_;refine hK.out _ _ ?_ (λaC=>?_)
    .exact⟨y7,ye⟩
    clear hK K;try simp only [Act.put,List.setIfInBounds_toArray,List.set_cons_zero,List.set_cons_succ]
    have z7:(w7.setCell ⟨k,8,none⟩ (.slice (some ⟨gn,0,none⟩) (j+1) cn)).cell? ⟨k,7,none⟩=some (.slice (some ⟨gv,0,none⟩) N cv):=HZ.o.1;have ze:(w7.setCell ⟨k,8,none⟩ (.slice (some ⟨gn,0,none⟩) (j+1) cn)).cell? ⟨gv,j,none⟩=some (.slice (some ⟨ge,0,none⟩) 512 ce):=HZ.o.2;refine wpAnyH_take (i:=14) (oi:={dst:=some 37,op:=Op.nilCheck (Operand.tmp 23),type:=0,pos:= "ref.go:70",after:= #[{on:=0,ground:=Ground.data},{on:=0,ground:=Ground.phase},{on:=1,ground:=Ground.phase},{on:=2,ground:=Ground.phase},{on:=3,ground:=Ground.phase},{on:=4,ground:=Ground.phase},{on:=5,ground:=Ground.phase},{on:=6,ground:=Ground.phase},{on:=7,ground:=Ground.phase},{on:=8,ground:=Ground.phase},{on:=9,ground:=Ground.phase},{on:=10,ground:=Ground.phase},{on:=11,ground:=Ground.phase},{on:=12,ground:=Ground.phase},{on:=13,ground:=Ground.phase}],guard:=none}) (v:= .pointer (some ⟨k,0,none⟩)) rfl (by kernel_rfl) (by kernel_rfl) (by kernel_rfl) (λ_ _ _ h=>h) (Or.inl ⟨by rfl,?_⟩) (by assumption) ?_
    .intro w aw
     (try dsimp only at aw)
     go_simp
    try simp only [Act.put,List.setIfInBounds_toArray,List.set_cons_zero,List.set_cons_succ]
    refine wpAnyH_take (i:=15) (oi:={dst:=some 38,op:=Op.fieldAddr 72 (Operand.tmp 37) 6,type:=0,pos:= "ref.go:70",after:= #[{on:=14,ground:=Ground.data},{on:=0,ground:=Ground.phase},{on:=1,ground:=Ground.phase},{on:=2,ground:=Ground.phase},{on:=3,ground:=Ground.phase},{on:=4,ground:=Ground.phase},{on:=5,ground:=Ground.phase},{on:=6,ground:=Ground.phase},{on:=7,ground:=Ground.phase},{on:=8,ground:=Ground.phase},{on:=9,ground:=Ground.phase},{on:=10,ground:=Ground.phase},{on:=11,ground:=Ground.phase},{on:=12,ground:=Ground.phase},{on:=13,ground:=Ground.phase}],guard:=none}) (v:= .pointer (some ⟨k,8,none⟩)) rfl (by kernel_rfl) (by kernel_rfl) (by kernel_rfl) (λ_ _ _ h=>h) (Or.inl ⟨by rfl,?_⟩) (by assumption) ?_
    .intro w aw
     (try dsimp only at aw)
     go_simp
    try simp only [Act.put,List.setIfInBounds_toArray,List.set_cons_zero,List.set_cons_succ]
    refine wpAnyH_ready (rs:= [16]) (by kernel_rfl) (by simp) ?_;refine AllReadyH.cons (o:={dst:=none,op:=Op.store 70 (Operand.tmp 38) (Operand.tmp 36),type:=0,pos:= "ref.go:70",after:= #[{on:=15,ground:=Ground.data},{on:=13,ground:=Ground.data},{on:=13,ground:=Ground.chain},{on:=0,ground:=Ground.phase},{on:=1,ground:=Ground.phase},{on:=2,ground:=Ground.phase},{on:=3,ground:=Ground.phase},{on:=4,ground:=Ground.phase},{on:=5,ground:=Ground.phase},{on:=6,ground:=Ground.phase},{on:=7,ground:=Ground.phase},{on:=8,ground:=Ground.phase},{on:=9,ground:=Ground.phase},{on:=10,ground:=Ground.phase},{on:=11,ground:=Ground.phase},{on:=12,ground:=Ground.phase},{on:=13,ground:=Ground.phase}],guard:=none}) rfl (λK hK=>?_) AllReadyH.nil;go_simp;refine hK.out _ _ ?_ (λaC=>?_)
    .exact⟨z7,ze⟩
    clear hK K;try simp only [Act.put,List.setIfInBounds_toArray,List.set_cons_zero,List.set_cons_succ]
    refine wpAnyH_done (by kernel_rfl) ?_ _;clear aC z7 ze y7 ye y8 f8 d8 q8 q7 qe b7 be;go_wp2;go_roundw;case rel=>exact⟨j+1,_,by omega,by go_num,HE.o⟩
    case measure=>simp [intOf];omega
   .go_simp;refine hK.out _ _ ?_ (λaC=>?_)
    .exact⟨b7,be⟩
    clear hK K;try simp only [Act.put,List.setIfInBounds_toArray,List.set_cons_zero,List.set_cons_succ]
    refine wpAnyH_ready (rs:= [4]) (by kernel_rfl) (by simp) ?_;refine AllReadyH.cons (o:={dst:=some 27,op:=Op.load 70 (Operand.tmp 26),type:=70,pos:= "ref.go:70",after:= #[{on:=3,ground:=Ground.data}],guard:=none}) rfl (λK hK=>?_) AllReadyH.nil;go_simp;refine hK.out _ _ ?_ (λaC=>?_)
    .exact⟨b7,be⟩
    clear hK K;try simp only [Act.put,List.setIfInBounds_toArray,List.set_cons_zero,List.set_cons_succ]
    refine wpAnyH_ready (rs:= [13]) (by kernel_rfl) (by simp) ?_;refine AllReadyH.cons (o:={dst:=some 36,op:=Op.call {callee:=Callee.builtin Builtin.append,args:= #[Operand.tmp 27,Operand.tmp 35],argTypes:= #[70,70]},type:=70,pos:= "ref.go:70",after:= #[{on:=4,ground:=Ground.data},{on:=12,ground:=Ground.data}],guard:=none}) rfl (λK hK=>?_) AllReadyH.nil;rw [if_pos (by rfl)];refine cf _ _ 70 rfl (.slice a6 j c6) (.slice (some ⟨wr.heap.size,0,none⟩) 1 1) _ rfl rfl ss.o ?_;refine hK.out _ _ ?_ (λaC=>?_)
    .exact⟨y7,ye⟩
    clear hK K;try simp only [Act.put,List.setIfInBounds_toArray,List.set_cons_zero,List.set_cons_succ]
    have z7:(w7.setCell ⟨k,8,none⟩ (.slice (some ⟨gn,0,none⟩) (j+1) cn)).cell? ⟨k,7,none⟩=some (.slice (some ⟨gv,0,none⟩) N cv):=HZ.o.1;have ze:(w7.setCell ⟨k,8,none⟩ (.slice (some ⟨gn,0,none⟩) (j+1) cn)).cell? ⟨gv,j,none⟩=some (.slice (some ⟨ge,0,none⟩) 512 ce):=HZ.o.2;refine wpAnyH_take (i:=14) (oi:={dst:=some 37,op:=Op.nilCheck (Operand.tmp 23),type:=0,pos:= "ref.go:70",after:= #[{on:=0,ground:=Ground.data},{on:=0,ground:=Ground.phase},{on:=1,ground:=Ground.phase},{on:=2,ground:=Ground.phase},{on:=3,ground:=Ground.phase},{on:=4,ground:=Ground.phase},{on:=5,ground:=Ground.phase},{on:=6,ground:=Ground.phase},{on:=7,ground:=Ground.phase},{on:=8,ground:=Ground.phase},{on:=9,ground:=Ground.phase},{on:=10,ground:=Ground.phase},{on:=11,ground:=Ground.phase},{on:=12,ground:=Ground.phase},{on:=13,ground:=Ground.phase}],guard:=none}) (v:= .pointer (some ⟨k,0,none⟩)) rfl (by kernel_rfl) (by kernel_rfl) (by kernel_rfl) (λ_ _ _ h=>h) (Or.inl ⟨by rfl,?_⟩) (by assumption) ?_
    .intro w aw
     (try dsimp only at aw)
     go_simp
    try simp only [Act.put,List.setIfInBounds_toArray,List.set_cons_zero,List.set_cons_succ]
    refine wpAnyH_take (i:=15) (oi:={dst:=some 38,op:=Op.fieldAddr 72 (Operand.tmp 37) 6,type:=0,pos:= "ref.go:70",after:= #[{on:=14,ground:=Ground.data},{on:=0,ground:=Ground.phase},{on:=1,ground:=Ground.phase},{on:=2,ground:=Ground.phase},{on:=3,ground:=Ground.phase},{on:=4,ground:=Ground.phase},{on:=5,ground:=Ground.phase},{on:=6,ground:=Ground.phase},{on:=7,ground:=Ground.phase},{on:=8,ground:=Ground.phase},{on:=9,ground:=Ground.phase},{on:=10,ground:=Ground.phase},{on:=11,ground:=Ground.phase},{on:=12,ground:=Ground.phase},{on:=13,ground:=Ground.phase}],guard:=none}) (v:= .pointer (some ⟨k,8,none⟩)) rfl (by kernel_rfl) (by kernel_rfl) (by kernel_rfl) (λ_ _ _ h=>h) (Or.inl ⟨by rfl,?_⟩) (by assumption) ?_
    .intro w aw
     (try dsimp only at aw)
     go_simp
    try simp only [Act.put,List.setIfInBounds_toArray,List.set_cons_zero,List.set_cons_succ]
    refine wpAnyH_ready (rs:= [16]) (by kernel_rfl) (by simp) ?_;refine AllReadyH.cons (o:={dst:=none,op:=Op.store 70 (Operand.tmp 38) (Operand.tmp 36),type:=0,pos:= "ref.go:70",after:= #[{on:=15,ground:=Ground.data},{on:=13,ground:=Ground.data},{on:=13,ground:=Ground.chain},{on:=0,ground:=Ground.phase},{on:=1,ground:=Ground.phase},{on:=2,ground:=Ground.phase},{on:=3,ground:=Ground.phase},{on:=4,ground:=Ground.phase},{on:=5,ground:=Ground.phase},{on:=6,ground:=Ground.phase},{on:=7,ground:=Ground.phase},{on:=8,ground:=Ground.phase},{on:=9,ground:=Ground.phase},{on:=10,ground:=Ground.phase},{on:=11,ground:=Ground.phase},{on:=12,ground:=Ground.phase},{on:=13,ground:=Ground.phase}],guard:=none}) rfl (λK hK=>?_) AllReadyH.nil;go_simp;refine hK.out _ _ ?_ (λaC=>?_)
    .exact⟨z7,ze⟩
    clear hK K;try simp only [Act.put,List.setIfInBounds_toArray,List.set_cons_zero,List.set_cons_succ]
    refine wpAnyH_done (by kernel_rfl) ?_ _;clear aC z7 ze y7 ye y8 f8 d8 q8 q7 qe b7 be;go_wp2;go_roundw;case rel=>exact⟨j+1,_,by omega,by go_num,HE.o⟩
    case measure=>simp [intOf];omega
  .obtain rfl:j=M.eI.length:=(by omega);rw [List.take_of_length_le (Nat.le_refl _)] at tI;subst hvv;obtain⟨N,hN⟩:∃N,N=M.eI.length:=⟨_,rfl⟩;have hsp:=tI;have DX:=ia;rw [<-hN] at i7 i8 ia tI So;rw [<-hN];have cH:¬(N:Int)<(N:Int):=(by omega);have f9:=ae ia 9;have f10:=ae ia 10;have f11:=ae ia 11;have i10:wr.cell? ⟨k,10,none⟩=some (.int .i64 M.bad):=aa ia (j:=10) rfl;have i11:wr.cell? ⟨k,11,none⟩=some (.bool M.opn):=aa ia (j:=11) rfl;have m1:=(heap_setCell_same wr k 9 _ _ (.slice none 0 0) ia).trans (by rfl:_=some (.cells (tY M (bt g1 c1) (bt g2 c2) (bt u1 d1) (bt u2 d2) (.slice a5 N c5) (.slice a6 N c6) (.slice none 0 0)) 72 (0,0)));have m2:=(heap_setCell_same _ k 10 _ _ (.int .i64 0) m1).trans (by rfl:_=some (.cells (tY {M with bad:=0} (bt g1 c1) (bt g2 c2) (bt u1 d1) (bt u2 d2) (.slice a5 N c5) (.slice a6 N c6) (.slice none 0 0)) 72 (0,0)));have m3:=(heap_setCell_same _ k 11 _ _ (.bool true) m2).trans (by rfl:_=some (.cells (tY {M with bad:=0,opn:=true} (bt g1 c1) (bt g2 c2) (bt u1 d1) (bt u2 d2) (.slice a5 N c5) (.slice a6 N c6) (.slice none 0 0)) 72 (0,0)));have pR:ad (λj=>j=k) wr (((wr.setCell ⟨k,9,none⟩ (.slice none 0 0)).setCell ⟨k,10,none⟩ (.int .i64 0)).setCell ⟨k,11,none⟩ (.bool true)):=((ad.setCell (F:=λj=>j=k) wr (p:=⟨k,9,none⟩) rfl _).trans (ad.setCell (F:=λj=>j=k) _ (p:=⟨k,10,none⟩) rfl _) (λ_ h=> .inl h)).trans (ad.setCell (F:=λj=>j=k) _ (p:=⟨k,11,none⟩) rfl _) (λ_ h=> .inl h);have hwk:=dR.trans pR (λ_ h=> .inl h);have pB:∀q,q=k->∃cur t fz,wr.heap[q]? =some (.cells cur t fz)/\t≠4:=λq hq=>by subst hq;exact⟨_,_,_,ia,by decide⟩
   have pW:∀q,q=k->∃cur t fz,wr.heap[q]? =some (.cells cur t fz)/\t≠5/\t≠44:=λq hq=>by subst hq;exact⟨_,_,_,ia,by decide,by decide⟩
   have zz:=dR.size;have zk:=pR.size;have Ym:∀q,X q->more X w (((wr.setCell ⟨k,9,none⟩ (.slice none 0 0)).setCell ⟨k,10,none⟩ (.int .i64 0)).setCell ⟨k,11,none⟩ (.bool true)) q:=λq hq=> .inl hq;have y1:=t1.lt;have y2:=t2.lt;have x1:=H.o.ob.1;have x2:=H.o.on.1;have w1x:=hX _ x1;have w2x:=hX _ x2;have hBB:∀{g c:Nat} {l:List Bool},BX w X g c l->BX (((wr.setCell ⟨k,9,none⟩ (.slice none 0 0)).setCell ⟨k,10,none⟩ (.int .i64 0)).setCell ⟨k,11,none⟩ (.bool true)) (more X w (((wr.setCell ⟨k,9,none⟩ (.slice none 0 0)).setCell ⟨k,10,none⟩ (.int .i64 0)).setCell ⟨k,11,none⟩ (.bool true))) g c l:=λh=>⟨.inl h.1,h.2.1.dP hwk (hkT _ (by decide)),h.2.2⟩;have HE:Yh (Yl w (((wr.setCell ⟨k,9,none⟩ (.slice none 0 0)).setCell ⟨k,10,none⟩ (.int .i64 0)).setCell ⟨k,11,none⟩ (.bool true)) X k g1 c1 g2 c2 (.slice a5 N c5) M):=by
    refine⟨u1,d1,u2,d2, .slice a6 N c6,⟨m3, .inl H.o.xk,hBB H.o.ob,hBB H.o.on,⟨.inr ⟨hu1,by omega⟩,t1.dP pR pB,H.o.ob.2.2⟩,⟨.inr ⟨hu2,by omega⟩,t2.dP pR pB,H.o.on.2.2⟩,H.o.KZ,by omega,by omega,by omega,by omega,UI,?_,?_,NX.nil _ _,λ_ g hg VC=>?_⟩,hwk⟩
    .have:=(H.o.eI.ak hwk (λq hq=>by subst hq;exact⟨_,_,_,H.o.b,by decide,by decide⟩)).mono Ym;rw [<-hN] at this;exact this
    .refine((tI.ak pR pW).bound).mono (λq hq=>?_);rcases hq with ⟨hq|hq,h9⟩
     .exact .inl hq
     .exact .inr ⟨hq,h9⟩
    .have h1:=So _ VC;have h2:X g:=by
      obtain⟨xs,_,h2,_⟩:=H.o.eI;rw [<-hN] at h2;exact h2 g hg
     have:=hX _ h2;omega
   have UK:=yh hN;clear ia tI So dR t1 t2 UJ hkT m1 m2 m3 pR hwk pB pW Ym hBB hsp DX hN;go_wp2
   go_end0
   refine⟨rfl,?_⟩;rw [<-UK.o];exact HE.o
end
end
def FL {L:LG} (h:L.Ok s) (h0:(L.start S s).1=0):(L.start S s).2.2.Ok s/\(L.start S s).2.2.begun=true:=by
 unfold LG.start at*;split
 .rename_i k;rw [aN k] at h0;cases h0
 .rename_i k;rw [aB k] at h0;split
  .rename_i a;rw [aN a] at h0;cases h0
  .rename_i a;rw [aB a] at h0;split
   .rename_i b;rw [aN b] at h0;exact absurd h0 b
   .have c:=h.top;exact⟨⟨h.s,h.n1,h.n2,by show L.top+1<=_;omega,h.top,di _,by show 0<=_;omega,by show 0<=_;omega,λ_=>by show 0<=_;omega⟩,rfl⟩
def rF:∀{ks:List Nat} {l r:List Int} {cs:CM},dL ks l=some (cs,r)->Bytes l->∀x∈cs,Bytes x.2
 | [],l,r,cs,h,_=>by
  simp only [dL,Option.some.injEq,Prod.mk.injEq] at h;obtain⟨rfl,_⟩:=h;simp
 |k :: ks,l,r,cs,h,hb=>by
  rw [jo] at h;split at h
  .cases h
  .cases a:dL ks (l.drop 512) with
   |none=>rw [a] at h;cases h
   |some x=>
    rw [a] at h;simp only [Option.map_some,Option.some.injEq,Prod.mk.injEq] at h;obtain⟨rfl,rfl⟩:=h;intro z b;rcases List.mem_cons.1 b with rfl|b
    .exact hb.take 512
    .exact rF (cs:=x.1) (r:=x.2) a (hb.drop 512) z b
def rG {blocks:Nat}:∀{n lo:Nat} {l r:List Int} {ks:List Nat},fC blocks n lo l=some (ks,r)->Bytes l->Bytes r
 |0,lo,l,r,ks,h,hb=>by
  simp only [fC,Option.some.injEq,Prod.mk.injEq] at h;obtain⟨_,rfl⟩:=h;exact hb
 |n+1,lo,l,r,ks,h,hb=>by
  rw [ou] at h;split at h
  .cases h
  .split at h
   .cases a:fC blocks n (le (l.take 4)+1) (l.drop 4) with
    |none=>rw [a] at h;cases h
    |some x=>
     rw [a] at h;simp only [Option.map_some,Option.some.injEq,Prod.mk.injEq] at h;obtain⟨_,rfl⟩:=h;exact rG (ks:=x.1) (r:=x.2) a (hb.drop 4)
   .cases h
def Dk (h:gJ blocks d=some cs) (c:Bytes d):∀x∈cs,Bytes x.2:=by
 unfold gJ at h;split at h
 .cases h
 .split at h
  .split at h
   .cases h
   .rename_i ks r e;cases b:dL ks r with
    |none=>rw [b] at h;cases h
    |some x=>
     obtain⟨g,f⟩:=x;rw [b] at h;cases f with
     |nil=>
      simp only [jD,Option.some.injEq] at h;subst h;exact rF b (rG e (c.drop 2))
     |cons a t=>cases h
  .cases h
def FM {ms:CM}:∀{cs:CM},(∀x∈ms,Bytes x.2)->(∀x∈cs,Bytes x.2)->∀x∈CM.dM ms cs,Bytes x.2:=by
 intro cs
 induction cs generalizing ms with
 |nil=>intro h _ x a;exact h x a
 |cons q c f=>
  intro d b;have e:CM.dM ms (q :: c)=CM.dM (CM.put ms q.1 q.2) c:=rfl;rw [e];refine f (λx a=>?_) (λx a=>b x (List.mem_cons_of_mem _ a));rcases CM.oG a with rfl|a
  .exact b q (by simp)
  .exact d x a
def ox {blocks:Nat}:∀{rs:List (List Int)} {ms ov:CM},io blocks ms rs=some ov->(∀x∈ms,Bytes x.2)->(∀r∈rs,Bytes r)->∀x∈ov,Bytes x.2
 | [],ms,ov,h,hm,_=>by
  simp only [io,Option.some.injEq] at h;subst h;exact hm
 |r :: rs,ms,ov,h,hm,hr=>by
  unfold io at h;cases a:gJ blocks r with
  |none=>rw [a] at h;cases h
  |some cs=>
   rw [a] at h;exact ox h (FM hm (Dk a (hr r (by simp)))) (λx b=>hr x (List.mem_cons_of_mem _ b))
def yL (h:S.fL) (b:∀x∈ov,Bytes x.2):(dT S s y ov rs).2.fL:=by
 unfold dT;split
 .exact h
 .have a:=mP h s y.home (ms:=ov) b;split
  .exact a
  .exact a.fl s
def FN (h0:(dT S s y ov rs).1=0):(dT S s y ov rs).2.puts.length<=S.puts.length:=by
 unfold dT at*;split
 .exact di _
 .rename_i k;rw [aB k] at h0;split
  .rename_i a;rw [aN a] at h0;exact absurd h0 a
  .rename_i a;rw [aB a] at h0;rw [gS h0];exact iq _
def mY (h:pD (S.now 0) s):(co (S.now 0)).home+(co (S.now 0)).blocks<=s/\1+2+(co (S.now 0)).log<=s/\18<=(co (S.now 0)).log/\(co (S.now 0)).log<=256/\(co (S.now 0)).blocks<=2048:=by
 have d:=h.1.Nv;have e:=h.2;unfold vy at d;unfold co;simp only;generalize u32 (S.now 0) 8=a at*;generalize u32 (S.now 0) 12=b at*;generalize u32 (S.now 0) 16=c at*;omega
def AJ (S:DS) (s:Nat) (L:LG):Prop:=∃rs hd ov,jc S 1 (co (S.now 0)).log rs hd/\io (co (S.now 0)).blocks [] rs=some ov/\L=((gK S 1 (co (S.now 0)).log hd).start (dT (bU S s 1 ((co (S.now 0)).log:Nat)).2 s (co (S.now 0)) ov rs).2 s).2.2
def NW (w:World) (F:Nat->Prop) (p s c:Nat) (S:DS) (e:Ending) (w':World):Prop:=∃x S' cR,cR<=c+5+(co (S.now 0)).log/\pi S s x S'/\ad F w w'/\((x≠0/\e= .returned (.tuple #[.pointer none,iV x])/\B.aj w' (more F w w') p s S' cR)\/(x=0/\∃q l m L F',AJ S s L/\e= .returned (.tuple #[pQ q,iV 0])/\(∀k,F' k->more F w w' k)/\w.heap.size<=q/\w.heap.size<=l/\w.heap.size<=m/\ip w' F' p s cR q l m S' ⟨co (S.now 0),L, [],false⟩))
def Yn {a:World} {u:Value} {y:Int} (x:Int) (aS:∀k,F k->k<w.heap.size\/w.heap.size+2<=k) (gm:a.heap[w.heap.size]? =some (.cells #[u] 34 (0,0))) (dU:a.heap[w.heap.size+1]? =some (.cells #[.int .i64 y] 39 (0,0))) (hd:B.aj a F p s S c):
    (a.setCell ⟨w.heap.size+1,0,none⟩ (.int .i64 x)).heap[w.heap.size]? =some (.cells #[u] 34 (0,0))/\(a.setCell ⟨w.heap.size+1,0,none⟩ (.int .i64 x)).heap[w.heap.size+1]? =some (.cells #[.int .i64 x] 39 (0,0))/\B.aj (a.setCell ⟨w.heap.size+1,0,none⟩ (.int .i64 x)) F p s S c/\ad (λk=>k=w.heap.size+1) a (a.setCell ⟨w.heap.size+1,0,none⟩ (.int .i64 x)):=by
 have b:=ad.setCell (F:=λk=>k=w.heap.size+1) a (p:=⟨w.heap.size+1,0,none⟩) rfl (iV x);refine⟨(Below.heap_setCell _ _ _ _ (by simp)).trans gm,?_,hd.ak b (λk d e=>by have:=aS _ d;omega),b⟩;rw [heap_setCell_same _ _ _ _ _ _ dU];rfl
def UL (S:DS) (s n:Nat):B.UF S s 1 (n:Int)<=n+2:=by
 unfold B.UF;split <;> simp
def Yo {a:World} {l:Nat} (aS:∀k,F k->k<w.heap.size) (gm:a.heap[w.heap.size]? =some (.cells #[.pointer none] 34 (0,0))) (dU:a.heap[w.heap.size+1]? =some (.cells #[.int .i64 0] 39 (0,0))) (hd:B.aj a F p s S c) {b:World} (NY:b=((a.setCell ⟨w.heap.size,0,none⟩ (.pointer (some ⟨a.heap.size+1,0,none⟩))).alloc (.map #[] 0)).alloc (.cells (K0 p l a.heap.size y false) 96)):
  b.heap[w.heap.size]? =some (.cells #[.pointer (some ⟨a.heap.size+1,0,none⟩)] 34 (0,0))/\b.heap[w.heap.size+1]? =some (.cells #[.int .i64 0] 39 (0,0))/\lT b (a.heap.size+1) p l a.heap.size y false/\Ch b a.heap.size []/\B.aj b F p s S c/\ad (λk=>k=w.heap.size) a b/\b.heap.size=a.heap.size+2:=by
 have n:=ad.setCell (F:=λk=>k=w.heap.size) a (p:=(aD w.heap.size 0)) rfl (.pointer (some ⟨a.heap.size+1,0,none⟩));have j:=size_setCell a ⟨w.heap.size,0,none⟩ (.pointer (some ⟨a.heap.size+1,0,none⟩));have g:(a.setCell ⟨w.heap.size,0,none⟩ (.pointer (some ⟨a.heap.size+1,0,none⟩))).heap[w.heap.size]? =some (.cells #[.pointer (some ⟨a.heap.size+1,0,none⟩)] 34 (0,0)):=by
  rw [heap_setCell_same _ _ _ _ _ _ gm];rfl
 have i:(a.setCell ⟨w.heap.size,0,none⟩ (.pointer (some ⟨a.heap.size+1,0,none⟩))).heap[w.heap.size+1]? =some (.cells #[.int .i64 0] 39 (0,0)):=(Below.heap_setCell _ _ _ _ (by simp)).trans dU;generalize a.setCell ⟨w.heap.size,0,none⟩ (.pointer (some ⟨a.heap.size+1,0,none⟩))=d at*;have f:=bQ d (.map #[] 0) (.cells (K0 p l a.heap.size y false) 96);have oM:=(Ch.made d).later (an (d.alloc (.map #[] 0)) (.cells (K0 p l a.heap.size y false) 96));have bu:((d.alloc (.map #[] 0)).alloc (.cells (K0 p l a.heap.size y false) 96)).heap[d.heap.size+1]? =some (.cells (K0 p l a.heap.size y false) 96 (0,0)):=by
  have:=heap_alloc_new (d.alloc (.map #[] 0)) (.cells (K0 p l a.heap.size y false) 96);rwa [World.size_alloc] at this
 rw [j] at oM bu;have m:((d.alloc (.map #[] 0)).alloc (.cells (K0 p l a.heap.size y false) 96)).heap.size=a.heap.size+2:=by rw [World.size_alloc,World.size_alloc,j]
 rw [<-NY] at f oM bu m;exact⟨(f.block _ (af g)).trans g,(f.block _ (af i)).trans i,bu,oM,(hd.ak n (λk o e=>by have:=aS _ o;omega)).later f,n.trans (ad.ag (λ_=>False) f) (λ_ h=>h.elim),m⟩
def eh.ac3 {B:Nat} {v:Value} {X:Nat->Prop} (h:eh w B v rs X):FG w v rs:=by
 obtain⟨k,f,j⟩:=h;refine⟨k,?_,λi hi=>?_⟩
 .obtain⟨d,h|⟨g,a,cur,rfl,l,ia,b⟩⟩:=f
  .exact⟨d, .inl h⟩
  .exact⟨d, .inr ⟨g,a,cur,rfl,iq _,ia,b⟩⟩
 .obtain⟨g,c,b,e,_⟩:=j i hi;exact⟨g,c,b,e⟩
def Km (h:B.aj w F p s S c) (ey:S.fL) (bn:S.puts.length+6000<=4000000000000) (hf:S.fuse≠0) (qw:pD (S.now 0) s):
  Calls prog 19 #[pQ p] w λe w'=>NW w F p s c S e w':=by
 obtain⟨w1,bd⟩:=cF ((w.alloc (.cells #[.pointer none] 34)).alloc (.cells #[.int .i64 0] 39));have aH:bW w w1:=by rw [bd];exact bQ w _ _
 have jx:w1.heap.size=w.heap.size+2:=by rw [bd];simp
 have gm:w1.heap[w.heap.size]? =some (.cells #[.pointer none] 34 (0,0)):=by rw [bd];exact heap_alloc2_old _ _ _
 have dU:w1.heap[w.heap.size+1]? =some (.cells #[.int .i64 0] 39 (0,0)):=by rw [bd];exact heap_alloc2_new _ _ _
 have aS:=h.lt;have K5:=rA (h.later aH) ey (by omega);have AK:=mY qw;clear h
 go_enter_defers func19,ntmps19
 go_wp2_with fail;rw [<-bd];clear bd;refine K5.mono ?_;rintro e w2 ⟨y,x,rfl,o8,dS,aK⟩;have eE:=aK.size;have D2:x=0/\y=co (S.now 0):=by
  rcases o8 with ⟨h1,_⟩|⟨_,_,h2,h3⟩|⟨_,h1,_⟩
  .exact absurd h1 hf
  .exact⟨h3,h2⟩
  .exact absurd qw h1
 obtain⟨rfl,XD⟩:=D2;rw [<-XD] at AK;have I:=yh XD;have Q0:=(aK.block w.heap.size (by omega) (λg=>by have:=aS _ g;omega)).trans gm;have Di:=(aK.block (w.heap.size+1) (by omega) (λg=>by have:=aS _ g;omega)).trans dU;have HK:Yh (B.aj w2 F p s S (c+1)/\ad F w w2):=⟨dS,(ad.ag F aH).trans aK (λ_ h=> .inl h)⟩;have d0:=aL Di;have e0:=ae Di 0;have ir:w.heap.size+1<w2.heap.size:=by omega
 obtain⟨A,K,U,M,o5,o6⟩:=Yf aS ir Q0 Di HK.o.1 HK.o.2 0 (.cells #[.int .i64 (y.log:Int), .int .i64 (y.home:Int), .int .i64 (y.blocks:Int), .int .i64 (y.nodes:Int), .int .i64 (y.data:Int)] 87);clear K5 o8 dS aK XD
 dsimp only [Ph]
 go_upto_region 3 with fail
 generalize (w2.setCell ⟨w.heap.size+1,0,none⟩ (.int .i64 0)).alloc (.cells #[.int .i64 (y.log:Int), .int .i64 (y.home:Int), .int .i64 (y.blocks:Int), .int .i64 (y.nodes:Int), .int .i64 (y.data:Int)] 87)=w3 at*;have HW:=yh (aQ A (aQ K (aQ U (aQ M o5))));have J:=aa K (j:=0) (u:=iV 0) rfl;have l0:=aL U;have wn:=B.NO M ey 1 (y.log:Int) (by omega);clear A K U M o5 d0 e0 Q0 Di HK gm dU aH;go_wp2_with fail;refine wn.mono ?_;rintro e w4 ⟨Dl,tQ,dF⟩;clear wn J l0;have wt:=dF.size;have aq:=(dF.block w.heap.size (by omega) (λg=>by have:=aS _ g;omega)).trans HW.o.1;have aG:=(dF.block (w.heap.size+1) (by omega) (λg=>by have:=aS _ g;omega)).trans HW.o.2.1;have bH:=(dF.block w2.heap.size (by omega) (λg=>by have:=aS _ g;omega)).trans HW.o.2.2.1;have Fx:=HW.o.2.2.2.2.trans dF (λ_ h=> .inl h);have Jz:=UL S s y.log;unfold EX at Dl;by_cases ke:(bU S s 1 (y.log:Int)).1=0
 .rw [aB (λh=>h ke)] at Dl;obtain⟨l,v,rs,hd,rfl,qI,NZ⟩:=Dl;obtain⟨A,K,U,M⟩:=Yn 0 (λk g=> .inl (aS k g)) aq aG tQ;have J:=aa aG (j:=0) (u:=iV 0) rfl;have f2:=ae aG 0;have aih:=NZ.p.lt;have Kn:=(M.block w2.heap.size (by omega) (by omega)).trans bH;have HT:=yh NZ;have R4:=yh ke;clear dF aq aG bH tQ HW NZ ke
  go_upto_region 6 with fail
  generalize Lc:w4.setCell ⟨w.heap.size+1,0,none⟩ (.int .i64 0)=a at*;have ud:a.heap.size=w4.heap.size:=by rw [<-Lc,size_setCell]
  clear J f2 Lc;obtain⟨c1,f1,J,l0,l1,l2,l3,l4⟩:=PE (aL A) (ae A 0) (aa K (j:=0) (u:=iV 0) rfl) (aL Kn) (bY Kn) (cJ Kn) (jw Kn) (jI Kn);have aii:w.heap.size<a.heap.size:=by omega
  have HX:=yh (aQ A (aQ K (aQ U M)));have Z0:=yh ud;have hbN:=bQ a (.map #[] 0) (.cells (K0 p l a.heap.size y false) 96);have c1N:=aa ((hbN.block _ (af A)).trans A) (j:=0) (u:= .pointer none) rfl;have f1N:=ae ((hbN.block _ (af A)).trans A) 0;clear A K U Kn ud hbN;have OZ:= @run_makeMap prog
  go_upto_region 9 with fail
  obtain⟨E,NY⟩:=cF (((a.setCell ⟨w.heap.size,0,none⟩ (.pointer (some ⟨a.heap.size+1,0,none⟩))).alloc (.map #[] 0)).alloc (.cells (K0 p l a.heap.size y false) 96));rw [<-NY];obtain⟨r1,r2,r3,r4,r5,r6,r7⟩:=Yo (l:=l) (y:=y) aS HX.o.1 HX.o.2.1 HX.o.2.2.1 NY;have VR:=(HT.o.ak HX.o.2.2.2 (λk e=>by omega) (by omega)).ak r6 (λk e=>by omega) (by omega);have J3:jc S 1 y.log rs hd:=⟨VR.t,VR.x⟩;obtain⟨Yp,N0,Q2,N3⟩:=mX (f:=1) R4.o;obtain⟨oI,zJ,P6,TT⟩:=J3.small ey (by omega);have P:(bU S s 1 (y.log:Int)).2.puts= []:=by
   have:=R4.o;rw [show bU S s 1 (y.log:Int)=S.take.fl s from N3] at this⊢;exact gS this
  have UM:(bU S s 1 (y.log:Int)).2.fL:=by
   rw [show bU S s 1 (y.log:Int)=S.take.fl s from N3];exact ey.take.fl s
  obtain⟨S1,UN⟩:∃S1,S1=(bU S s 1 (y.log:Int)).2:=⟨_,rfl⟩;rw [<-UN] at r5 P UM;have TC:¬F (a.heap.size+1):=λg=>by have:=aS _ g;omega
  have hkm:¬F a.heap.size:=λg=>by have:=aS _ g;omega
  have VQ:=NJ r5 r3 r4 TC hkm AK.1 VR.r.ac3 zJ (by omega) (by rw [P];simp);have b:=yh (aQ r1 (aQ r2 (aQ r3 (aQ r5 (aQ VR (aQ J3 (aQ P (aQ UM (aQ UN (aQ zJ (aQ r6 (aQ N0 Q2))))))))))));have Pt:=aL r1;clear r1 r2 r3 r4 r5 VR J3 P UM UN oI zJ P6 TT Yp N0 Q2 N3 NY HT HX c1 J f1 c1N f1N l0 l1 l2 l3 l4 OZ;have VS:=r7;clear r7 r6;go_wp2_with fail;refine VQ.mono ?_;rintro e m Dh;clear VQ Pt;have C4:=(Fx.trans M (λk e=> .inr (by omega))).trans b.o.2.2.2.2.2.2.2.2.2.2.1 (λk e=> .inr (by omega));have ud:=Z0.o;clear Fx M;rcases Dh with ⟨hn,rfl,Sq,iu⟩|⟨ov,Bc,rfl,Sq,iu,Q3⟩
  .have hz7:=iu.size;have n:=(iu.block w.heap.size (by omega) (by omega)).trans b.o.1;have q:=(iu.block (w.heap.size+1) (by omega) (by omega)).trans b.o.2.1;obtain⟨C,D,p3,i⟩:=oset (w:=w) (v:= .pointer none) (x:=6) (λk g=> .inl (aS k g)) n q Sq;have HG:=yh (aQ n q);have O:Yh (pi S s 6 S1):=by
    unfold pi;rw [<-I.o];exact .inr ⟨qw,hf, .inr ⟨R4.o,rs,hd,b.o.2.2.2.2.2.1, .inl ⟨hn,rfl,b.o.2.2.2.2.2.2.2.2.1⟩⟩⟩
   have d:=yh (aQ C (aQ D (aQ p3 ((C4.trans iu (λk e=> .inr (by omega))).trans i (λk e=> .inr (by omega)):ad F w _))));clear C D p3 i Sq iu n q hn C4;go_wp2;refine leaves_cons (f:=51) (args:= #[pQ w.heap.size, .pointer (some ⟨w.heap.size+1,0,none⟩)]) (by simp) (by simp [go_sem]) ?_;refine(AH w.heap.size (w.heap.size+1) _ _ _ HG.o.1 HG.o.2 (by omega)).mono ?_;rintro e u' zn ⟨rfl,rfl,Yq⟩;rw [<-Yq] at d;have W:=aa d.o.1 (j:=0) (u:= .pointer none) rfl;have X:=aa d.o.2.1 (j:=0) (u:=iV 6) rfl;clear Yq;simp [Leaves,settle,results,results19,go_sem,W,X];exact⟨6,S1,_,by have:=I.o;rw [<-this];omega,O.o,d.o.2.2.2, .inl ⟨by decide,rfl,d.o.2.2.1.more⟩⟩
  .obtain⟨R,G⟩:=cF (dT S1 s y ov rs);rw [<-G] at Sq Q3;rw [<-G];have hz7:=iu.size;have n:=(iu.block w.heap.size (by omega) (λe=>by rcases e with e|e;omega;have:=aS _ e;omega)).trans b.o.1;have q:=(iu.block (w.heap.size+1) (by omega) (λe=>by rcases e with e|e;omega;have:=aS _ e;omega)).trans b.o.2.1;have c1:=aL n;have f1:=ae n 0;have J:=aa q (j:=0) (u:=iV 0) rfl;have f2:=ae q 0;have Q4:∀k,more F E m k->k<w.heap.size\/w.heap.size+2<=k:=λk h=>by
    rcases h with h|h
    .exact .inl (aS k h)
    .exact .inr (by omega)
   have Q5:=C4.trans iu (λk e=>by rcases e with e|e;exact .inr (by omega);exact .inl e);by_cases N:R.1=0
   .have dz:(R.1 == 0)=true:=(by rw [N];rfl);have dz2:(R.1 != 0)=false:=(by simp [N]);obtain⟨L,hL⟩:=cF (gK S 1 y.log hd);have Yr:bO E l p L:=(by rw [hL];exact b.o.2.2.2.2.1.p);have AL:L.Ok s:=(by rw [hL];exact AG b.o.2.2.2.2.2.1 ey b.o.2.2.2.2.2.2.2.2.2.2.2.1 b.o.2.2.2.2.2.2.2.2.2.2.2.2 AK.2.1 AK.2.2.1 AK.2.2.2.1);have wJ:l≠a.heap.size:=(by omega);have hlF:¬F l:=λe=>by have:=aS _ e;omega
    have ac6:¬more F E m l:=λe=>by
     rcases e with e|e
     .exact hlF e
     .omega
    have Ys:=Yr.ak iu (λe=>by rcases e with e|e;exact wJ e;exact hlF e);have Yt:=b.o.2.2.1.ak iu (λe=>by rcases e with e|e;omega;exact TC e);have hRb:R.2.fL:=(by rw [G];exact yL b.o.2.2.2.2.2.2.2.1 (ox Bc (λx hx=>by cases hx) (λr hr=>(b.o.2.2.2.2.2.2.2.2.2.1 r hr).1)));have hRp:R.2.puts.length<=0:=by
     have h1:=FN (S:=S1) (s:=s) (y:=y) (ov:=ov) (rs:=rs) (by rw [<-G];exact N);rw [<-G,b.o.2.2.2.2.2.2.1] at h1;exact h1
    have UO:=B.Ki Sq Ys AL ac6 hRb (by omega);obtain⟨T,hT⟩:=cF (L.start R.2 s);rw [<-hT] at UO;have O:Yh (pi S s T.1 T.2.1):=by
     unfold pi;rw [<-I.o];exact .inr ⟨qw,hf, .inr ⟨R4.o,rs,hd,b.o.2.2.2.2.2.1, .inr ⟨ov,Bc, .inr ⟨by rw [<-b.o.2.2.2.2.2.2.2.2.1,<-G];exact N,by rw [<-b.o.2.2.2.2.2.2.2.2.1,<-G,<-hL,<-hT],by rw [<-b.o.2.2.2.2.2.2.2.2.1,<-G,<-hL,<-hT]⟩⟩⟩⟩
    have HSL:Yh (AJ S s T.2.2):=by
     unfold AJ;rw [<-I.o];exact⟨rs,hd,ov,b.o.2.2.2.2.2.1,Bc,by rw [<-b.o.2.2.2.2.2.2.2.2.1,<-G,<-hL,<-hT]⟩
    have Sr:T.1=0->T.2.2.Ok s/\T.2.2.begun=true:=(by rw [hT];exact FL AL);have Z:=yh (aQ n (aQ q (aQ Yt (aQ (Q3 N) (aQ Q5 Sr)))));clear Sq iu n q C4 Q5 G Q3 N hL Yr AL Ys Yt hRb hRp hT Sr Bc c1 J f1 f2 ud;generalize R.1=z at*;go_wp2_with fail;refine zg UO λH Q UP lN=>?_;clear UO;have ud:=Z0.o;have hz8:=lN.size;have n:=(lN.block w.heap.size (by omega) (λe=>by rcases e with e|e;rcases Q4 _ e with e|e <;> omega;omega)).trans Z.o.1;have q:=(lN.block (w.heap.size+1) (by omega) (λe=>by rcases e with e|e;rcases Q4 _ e with e|e <;> omega;omega)).trans Z.o.2.1;have c1:=aa n (j:=0) (u:= .pointer (some ⟨a.heap.size+1,0,none⟩)) rfl;have f1:=ae n 0;have J:=aa q (j:=0) (u:=iV 0) rfl;have f2:=ae q 0;have Ss:∀k,more (more F E m) m H k->k<w.heap.size\/w.heap.size+2<=k:=λk h=>by
     rcases h with h|h
     .exact Q4 k h
     .exact .inr (by omega)
    have Q6:=Z.o.2.2.2.2.1.trans lN (λk e=>by
     rcases e with (e|e)|e
     .exact .inl e
     .exact .inr (by omega)
     .exact .inr (by omega))
    have Qy:∀(w9:World),H.heap.size<=w9.heap.size->∀k,more (more F E m) m H k->more F w w9 k:=λw9 hz k h=>by
     rcases h with (h|h)|h
     .exact .inl h
     .exact .inr (by omega)
     .exact .inr (by omega)
    by_cases Y:T.1=0
    .have dt:(T.1 == 0)=true:=(by rw [Y];rfl);have dt2:(T.1 != 0)=false:=(by simp [Y]);obtain⟨C,D,p3,i⟩:=oset (w:=w) (v:= .pointer (some ⟨a.heap.size+1,0,none⟩)) (x:=0) Ss n q Q;have hq8:¬more (more F E m) m H (a.heap.size+1):=λe=>by
      rcases e with (e|e)|e
      .exact TC e
      .omega
      .omega
     have hm8:¬more (more F E m) m H a.heap.size:=λe=>by
      rcases e with (e|e)|e
      .exact hkm e
      .omega
      .omega
     have hl8:¬more (more F E m) m H l:=λe=>by
      rcases e with (e|e)|e
      .exact hlF e
      .omega
      .omega
     have Yu:=(Z.o.2.2.1.ak lN (λe=>by rcases e with e|e;exact hq8 (.inl e);omega)).ak i (by omega);have Yv:=(Z.o.2.2.2.1.ak lN (λe=>by rcases e with e|e;exact hm8 (.inl e);omega)).ak i (by omega);have Yw:=UP.ak i (by omega);have A3:=Z.o.2.2.2.2.2 Y;have hSt:ip ((H.setCell ⟨w.heap.size,0,none⟩ (.pointer (some ⟨a.heap.size+1,0,none⟩))).setCell ⟨w.heap.size+1,0,none⟩ (.int .i64 0)) (more (more F E m) m H) p s (c+1+B.UF S s 1 (y.log:Int)+2) (a.heap.size+1) l a.heap.size T.2.1 ⟨y,T.2.2, [],false⟩:=
        ⟨p3,Yu,Yw,Yv,hq8,hl8,hm8,by omega,by omega,wJ,A3.1,A3.2,AK.1,(λx hx=>by cases hx)⟩
     obtain⟨d,HT0⟩:=eA (aQ C (aQ D (aQ hSt (aQ (Q6.trans i (λk e=> .inr (by omega)):ad F w _) (Qy _ i.size))))) Y;have HW5:=yh (aQ (by omega:w.heap.size<=a.heap.size+1) (aQ (by omega:w.heap.size<=l) (by omega:w.heap.size<=a.heap.size)));clear C D p3 i Q UP lN n q Q6 Qy Yu Yv Yw A3 hSt Z Y ud;go_wp2;generalize (H.setCell ⟨w.heap.size,0,none⟩ (.pointer (some ⟨a.heap.size+1,0,none⟩))).setCell ⟨w.heap.size+1,0,none⟩ (.int .i64 0)=w9 at*;have W:=aa d.o.1 (j:=0) (u:= .pointer (some ⟨a.heap.size+1,0,none⟩)) rfl;have X:=aa d.o.2.1 (j:=0) (u:=iV 0) rfl;refine leaves_cons (f:=51) (args:= #[pQ w.heap.size, .pointer (some ⟨w.heap.size+1,0,none⟩)]) (by simp) (by simp [go_sem]) ?_;refine(jp _ _ _).mono ?_;rintro e u' zn ⟨rfl,rfl,rfl⟩;simp [Leaves,settle,results,results19,go_sem,W,X];have bu:=d.o.2.2.1;rw [I.o] at bu;have ho:=O.o;rw [HT0.o] at ho;exact⟨0,T.2.1,_,by have:=I.o;rw [<-this];omega,ho,d.o.2.2.2.1, .inr ⟨rfl,a.heap.size+1,l,a.heap.size,T.2.2,_,HSL.o,rfl,d.o.2.2.2.2,HW5.o.1,HW5.o.2.1,HW5.o.2.2,bu⟩⟩
    .have dt:(T.1 == 0)=false:=(by simpa using Y);have dt2:(T.1 != 0)=true:=(by simp [Y]);obtain⟨C,D,p3,i⟩:=oset (w:=w) (v:= .pointer none) (x:=T.1) Ss n q Q;have Yx:∀k,more F w ((H.setCell ⟨w.heap.size,0,none⟩ (.pointer none)).setCell ⟨w.heap.size+1,0,none⟩ (.int .i64 T.1)) k->k<((H.setCell ⟨w.heap.size,0,none⟩ (.pointer none)).setCell ⟨w.heap.size+1,0,none⟩ (.int .i64 T.1)).heap.size:=λk h=>by
      have A8:=i.size;rcases h with h|h
      .have:=aS k h;omega
      .omega
     obtain⟨d,HT0⟩:=eA (aQ C (aQ D (aQ (p3.mono (Qy _ i.size) Yx) (Q6.trans i (λk e=> .inr (by omega)):ad F w _)))) Y;clear C D p3 i Q UP lN n q Q6 Qy Yx Z Y;generalize T.1=t at*;go_wp2;generalize (H.setCell ⟨w.heap.size,0,none⟩ (.pointer none)).setCell ⟨w.heap.size+1,0,none⟩ (.int .i64 t)=w9 at*;have W:=aa d.o.1 (j:=0) (u:= .pointer none) rfl;have X:=aa d.o.2.1 (j:=0) (u:=iV t) rfl;refine leaves_cons (f:=51) (args:= #[pQ w.heap.size, .pointer (some ⟨w.heap.size+1,0,none⟩)]) (by simp) (by simp [go_sem]) ?_;refine(jp _ _ _).mono ?_;rintro e u' zn ⟨rfl,rfl,rfl⟩;simp [Leaves,settle,results,results19,go_sem,W,X];exact⟨t,T.2.1,_,by have:=I.o;rw [<-this];omega,O.o,d.o.2.2.2, .inl ⟨HT0.o,rfl,d.o.2.2.1⟩⟩
   .have dz:(R.1 == 0)=false:=(by simpa using N);have dz2:(R.1 != 0)=true:=(by simp [N]);obtain⟨C,D,p3,i⟩:=oset (w:=w) (v:= .pointer none) (x:=R.1) Q4 n q Sq;have O:Yh (pi S s R.1 R.2):=by
     unfold pi;rw [<-I.o];exact .inr ⟨qw,hf, .inr ⟨R4.o,rs,hd,b.o.2.2.2.2.2.1, .inr ⟨ov,Bc, .inl ⟨by rw [G,b.o.2.2.2.2.2.2.2.2.1],N,by rw [G,b.o.2.2.2.2.2.2.2.2.1]⟩⟩⟩⟩
    have fi:B.aj ((m.setCell ⟨w.heap.size,0,none⟩ (.pointer none)).setCell ⟨w.heap.size+1,0,none⟩ (.int .i64 R.1)) (more F w ((m.setCell ⟨w.heap.size,0,none⟩ (.pointer none)).setCell ⟨w.heap.size+1,0,none⟩ (.int .i64 R.1))) p s R.2 (c+1+B.UF S s 1 (y.log:Int)):=by
     have A8:=i.size;refine p3.mono (λk h=>?_) (λk h=>?_)
     .rcases h with h|h
      .exact .inl h
      .exact .inr (by omega)
     .rcases h with h|h
      .have:=aS k h;omega
      .omega
    obtain⟨d,HZ0⟩:=eA (aQ C (aQ D (aQ fi (Q5.trans i (λk e=> .inr (by omega)):ad F w _)))) N;clear C D p3 i Sq iu n q C4 Q5 fi G Q3 N;generalize R.1=z at*;go_wp2;generalize (m.setCell ⟨w.heap.size,0,none⟩ (.pointer none)).setCell ⟨w.heap.size+1,0,none⟩ (.int .i64 z)=H at*;have W:=aa d.o.1 (j:=0) (u:= .pointer none) rfl;have X:=aa d.o.2.1 (j:=0) (u:=iV z) rfl;refine leaves_cons (f:=51) (args:= #[pQ w.heap.size, .pointer (some ⟨w.heap.size+1,0,none⟩)]) (by simp) (by simp [go_sem]) ?_;refine(jp _ _ _).mono ?_;rintro e u' zn ⟨rfl,rfl,rfl⟩;simp [Leaves,settle,results,results19,go_sem,W,X];exact⟨z,R.2,_,by have:=I.o;rw [<-this];omega,O.o,d.o.2.2.2, .inl ⟨HZ0.o,rfl,d.o.2.2.1⟩⟩
 .rw [aN ke] at Dl;subst Dl;have O:Yh (pi S s (bU S s 1 (y.log:Int)).1 (bU S s 1 (y.log:Int)).2):= .inr ⟨qw,hf, .inl ⟨by rw [<-I.o],ke,by rw [<-I.o]⟩⟩;obtain⟨S',hS'⟩:∃S',S'=(bU S s 1 (y.log:Int)).2:=⟨_,rfl⟩;rw [<-hS'] at O tQ;obtain⟨x,hx⟩:∃x,x=(bU S s 1 (y.log:Int)).1:=⟨_,rfl⟩;rw [<-hx] at O ke;rw [<-hx];have dx2:(x != 0)=true:=by simp [ke]
  obtain⟨A,K,U,M⟩:=Yn x (λk g=> .inl (aS k g)) aq aG tQ;have J:=aa aG (j:=0) (u:=iV 0) rfl;have f2:=ae aG 0;clear hx hS' dF aq aG bH tQ HW
  go_upto_region 6 with fail
  generalize w4.setCell ⟨w.heap.size+1,0,none⟩ (.int .i64 x)=a at*;clear J f2;have c1:=aL A;have f1:=ae A 0;have J:=aa K (j:=0) (u:=iV x) rfl;have f2:=ae K 0;obtain⟨C,D,p3,i⟩:=oset (w:=w) (v:= .pointer none) (x:=x) (λk g=> .inl (aS k g)) A K U;clear A K U
  go_upto_region 7 with fail
  go_region
  have vo:=Fx.trans M (λk e=> .inr (by omega));generalize (a.setCell ⟨w.heap.size,0,none⟩ (.pointer none)).setCell ⟨w.heap.size+1,0,none⟩ (.int .i64 x)=E at*;have lQ:bW E E.drew:=ah (cW _ _);have HF:Yh (B.aj E.drew F p s S' (c+1+B.UF S s 1 (y.log:Int))/\ad F w E.drew):=⟨p3.later lQ,(vo.trans i (λk e=> .inr (by omega))).trans (ad.ag (λ_=>False) lQ) (λ_ h=>h.elim)⟩;have W:=aa ((lQ.block _ (af C)).trans C) (j:=0) (u:= .pointer none) rfl;have X:=aa ((lQ.block _ (af D)).trans D) (j:=0) (u:=iV x) rfl;clear C D p3 i lQ c1 J f1 f2 M vo Fx;generalize E.drew=m at*;go_wp2;refine leaves_cons (f:=51) (args:= #[pQ w.heap.size, .pointer (some ⟨w.heap.size+1,0,none⟩)]) (by simp) (by simp [go_sem]) ?_;refine(jp _ _ _).mono ?_;rintro e u' zn ⟨rfl,rfl,rfl⟩;simp [Leaves,settle,results,results19,go_sem,W,X];exact⟨x,S',_,by have:=I.o;rw [<-this];omega,O.o,HF.o.2, .inl ⟨ke,rfl,HF.o.1.more⟩⟩
section
def vL (blocks:Nat) (ms:CM) (r:List Int) (rs:List (List Int)):io blocks ms (r :: rs)=match gJ blocks r with|none=>none|some cs=>io blocks (CM.dM ms cs) rs:=rfl
def Ii {a b:Nat} (h:(bG S a).2.2=0):S.num a<(iC S a b+1)*4294967296:=by
 have d:(bG S a).1=S.num a / 4294967296:=by
  unfold bG gQ at*;split at h
  .cases h
  .rename_i c;rw [aB c];rfl
 have e:(bG S a).1<=iC S a b:=by unfold iC;omega
 omega
section
variable {w w':World} {X Y:Nat->Prop} {B B':Nat} {v u:Value} {ps qs:List (Nat×List Int)}
end
end
def qx (s l n:Nat):(eT (bV s l n)).length=512:=(qi _).trans (congrArg (·+4) (eC s l n))
section
section
variable {S S':DS} {s t i:Nat} {ls:List LG} {L:LG} {G:SG}
def V.Inv.idle (h:V.Inv S s ls t) (lu:∀M∈ls,M.life<S.life) (c:S'.Ok s) (jl:S'.fL) (f:S'.puts.length<=6000) (d:S'.fuse≠0->S'.puts.length<=256) (b:S'.life=S.life):V.Inv S' s ls t:=
   ⟨c,jl,f,d,by rw [b];exact h.l0,by rw [b];exact h.lt,λM a=>by rw [b];exact h.ol M a,h.li,λM a e=>by have:=lu M a;omega⟩
def wj (h:S.Ok s):(S.fl s).2.Ok s/\(S.fl s).2.life=S.life/\((S.fl s).1≠0->(S.fl s).2.fuse=0/\(S.fl s).2.puts.length<=S.puts.length)/\((S.fl s).1=0->(S.fl s).2.puts= []):=
   ⟨oD h,ff _ _,λc=>by obtain⟨a,b,_⟩:=jF c;rw [a];exact⟨b,di _⟩,gS⟩
def oy (h:S.Ok s) {a:Nat} (p:a+n<=s):(el S s a n).2.Ok s/\(el S s a n).2.life=S.life/\((el S s a n).1≠0->(el S s a n).2.fuse=0)/\((el S s a n).1=0->(el S s a n).2.puts= []):=by
 obtain⟨m,b,c,e,o⟩:=fd (h0:=a) (ms:=fS n) h (λq d=>by
  unfold fS at d;obtain⟨i,hi,rfl⟩:=List.mem_map.1 d;have:=List.mem_range.1 hi;exact⟨by show a+i<s;omega,bN 512⟩)
 unfold el;split
 .rename_i q;exact⟨c,b,e,λh0=>absurd h0 q⟩
 .obtain⟨f,g,j,k⟩:=wj c;exact⟨f,g.trans b,λl=>(j l).1,k⟩
def pE (h:S.Ok s) (oY:0<=S.life) {t:Nat} (aS:S.life<=t) (k:t<=1000000000000000000) (d:S.fuse≠0) (j:S.puts= []) (f n:Int):(cT S s f n).2.Ok s/\(S.life<=(cT S s f n).2.life)/\((cT S s f n).1=0->(cT S s f n).2.puts= []):=by
 unfold cT;split
 .exact⟨h,Int.le_refl _,λ_=>j⟩
 .rename_i e;obtain⟨_,a,b,rfl,rfl,pA,aq,aG⟩:=it (Decidable.of_not_not e);simp only [t7];have vx:=iR oY aS k;have dw:S.take.Ok s:=⟨h.len,h.lo,h.hi,h.puts,h.fuse⟩;obtain⟨l,c,p,m⟩:=lC (f:=a) (n:=b) dw pA;have rP:=l.trans vx;split
  .rename_i h0;exact⟨c,by omega,λi=>absurd i h0⟩
  .rename_i h0;obtain⟨o,q⟩:=m (Decidable.of_not_not h0);have ir:=(fo (dq S.take s a b).2 s a 4294967296).trans rP;refine⟨(l9 c (by omega) _).1,by omega,λg=>?_⟩;exact(og (s:=s) (f:=a) (N:=4294967296) c (by omega) (by omega) (by omega) (by rw [o];omega) g).2
def V.Inv.ada (h:V.Inv S s ls t) (Z:t+2<=1000000000000000000) (a b c:Int):V.Inv (cZ S s a b c).2 s ls (t+2):=by
 unfold cZ;split
 .exact h.step.step
 .rename_i Q;split
  .rename_i R;obtain⟨gm,Y⟩:=R;obtain⟨⟨l1,l2⟩,⟨n1,n2⟩,X,s1,s2⟩:=gm;have gV:1<=s:=(by omega);have rR:=h.take (by omega:t<=1000000000000000000);have Pu:S.take.life=S.life+1:=iR h.l0 h.lt (by omega);have lu:∀M∈ls,M.life<S.life+1:=λM v=>by have:=(h.ol M v).2;omega
   have A1:=h.p2 Q;obtain⟨a1,a2,y,z⟩:=oy rR.ok (a:=0) (n:=1) (by omega);have p:=ku rR.jl s 0 1;have H:=mR S.take s 0 1;have T:S.take.puts.length=S.puts.length:=rfl;unfold oO;have L:pn S s=el S.take s 0 1:=rfl;have N:po S s=el (pn S s).2 s 1 (s-1):=rfl;have F:∀l,kW S s l=cT (po S s).2 s 1 (l:Int):=λ_=>rfl;have O:∀l n,mt S s l n=(kW S s l).2.wr s 0 512 (gq s l n):=λ_ _=>rfl;rw [<-L] at a1 a2 y z p H;generalize pn S s=x at*;by_cases j:x.1≠0
   .rw [aN j];exact(rR.idle (by rw [Pu];exact lu) a1 p (by have:=h.p6;omega) (λc=>absurd (y j) c) a2).step
   .rw [aB j];obtain⟨i,q,A,C⟩:=oy a1 (a:=1) (n:=s-1) (by omega);have r:=ku p s 1 (s-1);have u:=mR x.2 s 1 (s-1);have PT:=h.ok.hi;rw [<-N] at i q A C r u;generalize po S s=o at*;by_cases m:o.1≠0
    .rw [aN m];exact(rR.idle (by rw [Pu];exact lu) i r (by rw [(z (Decidable.not_not.1 j))] at u;simp at u;omega) (λc=>absurd (A m) c) (q.trans a2)).step
    .rw [aB m];have d:=C (Decidable.not_not.1 m);have LP:=rR.idle (by rw [Pu];exact lu) i r (by rw [d];exact iq _) (λ_=>by rw [d];exact iq _) (q.trans a2);by_cases IZ:o.2.fuse=0
     .have P:∀l,kW S s l=(3,o.2):=λl=>by
       rw [F];unfold cT cP;rw [aN IZ];simp
      rw [P,aN (by show (3:Int)≠0;decide)];exact LP.step
     .obtain⟨D,I,E⟩:=pE i LP.l0 LP.lt (by omega) IZ d 1 ((b.toNat:Nat):Int);have K6:=LP.format (by omega) 1 ((b.toNat:Nat):Int) D;rw [<-F] at D I E K6;have Up:=O b.toNat c.toNat;generalize kW S s b.toNat=P3 at*;have Yy:∀M∈ls,M.life<P3.2.life:=λM v=>by have:=lu M v;omega
      by_cases w:P3.1≠0
      .rw [aN w];exact K6
      .rw [aB w];have UQ:=lB P3.2 s 0 512 (gq s b.toNat c.toNat);have Yz:=jL P3.2 s 0 512 (gq s b.toNat c.toNat);have YA:(gq s b.toNat c.toNat).length=512:=qx _ _ _;have RP:Bytes (gq s b.toNat c.toNat):=(ja _ _ _).append (fW _ _);have e:=K6.jl.wr s 0 512 RP;have Fe:(P3.2.wr s 0 512 (gq s b.toNat c.toNat)).2.Ok s:=by
        by_cases f:P3.2.fuse=0
        .have:P3.2.wr s 0 512 (gq s b.toNat c.toNat)=(3,P3.2):=(by unfold DS.wr;rw [aN f]);rw [this];exact K6.ok
        .exact ra (k:=0) K6.ok f (by omega) YA
       rw [<-Up] at UQ Yz e Fe;rw [(E (Decidable.not_not.1 w))] at Yz;generalize mt S s b.toNat c.toNat=g at*;have FO:V.Inv g.2 s ls (t+2):=K6.idle Yy Fe e (by simp at Yz;omega) (λ_=>by simp at Yz;omega) UQ;by_cases G:g.1≠0
       .rw [aN G];exact FO
       .rw [aB G];obtain⟨J,K,U,W⟩:=wj Fe;refine FO.idle (by rw [UQ];exact Yy) J (e.fl s) ?_ ?_ K
        .have:=oC g.2 s;have:=FO.p6;omega
        .intro _;have:=oC g.2 s;simp at Yz;omega
  .exact h.step.step
end
end
section
section
variable {S S1 S2:DS} {s t:Nat} {ls:List LG} {L L':LG} {x y:Int}
def jc.same {f hd VT:Nat} {O6:List (List Int)} (a:jc S f n rs hd) (b:jc S f n O6 VT):rs=O6/\hd=VT:=dI.unique a.t a.x b.t b.x
def yM (dw:S.Ok s) (b:L.Ok s) (i:L.begun=false) (g:L.life=S.life) (j:S.num L.f<(L.top+1)*4294967296) (h0:(L.start S s).1≠0):(L.start S s).2.1.fuse=0/\(L.start S s).2.1.life=S.life/\(L.start S s).2.1.Ok s/\(L.start S s).2.1.puts.length<=S.puts.length+1:=by
 obtain⟨l,oI,k⟩:=tO b.s b.n1 b.top;unfold LG.start at h0⊢;by_cases hd:L.dead S=true
 .rw [aN hd];refine⟨?_,rfl,dw,by show S.puts.length<=_;omega⟩;unfold LG.dead at hd;rw [g] at hd;simpa using hd
 .rw [aB hd,aB (by rw [i];decide)] at h0⊢;have e:(((L.top+1:Nat):Int)*4294967296+((0:Nat):Int))=(((L.top+1)*4294967296:Nat):Int):=by omega
  rw [e] at h0⊢;by_cases a:(cw S s L.f (((L.top+1)*4294967296:Nat):Int)).1≠0
  .rw [aN a];obtain⟨c,d⟩:=kL (by omega) (iy (bT dw L.f (by omega)) (bT dw (L.f+1) (by omega)) (N:=(L.top+1)*4294967296) (by omega) j) a;exact⟨c,fo _ _ _ _,(l9 dw (by omega) _).1,d⟩
  .rw [aB a] at h0;exact absurd rfl h0
def vM:∀{ks:List Nat} {l r:List Int} {cs:CM},dL ks l=some (cs,r)->∀q∈cs,q.2.length=512
 | [],l,r,cs,h=>by
  simp only [dL,Option.some.injEq,Prod.mk.injEq] at h;obtain⟨rfl,_⟩:=h;intro q a;cases a
 |k :: ks,l,r,cs,h=>by
  rw [jo] at h;split at h
  .cases h
  .rename_i c;cases b:dL ks (l.drop 512) with
   |none=>rw [b] at h;cases h
   |some x=>
    rw [b] at h;simp only [Option.map_some,Option.some.injEq,Prod.mk.injEq] at h;obtain⟨rfl,rfl⟩:=h;intro q a;rcases List.mem_cons.1 a with rfl|a
    .show (l.take 512).length=512;rw [Iz];omega
    .exact vM (cs:=x.1) (r:=x.2) b q a
def Ko (h:gJ blocks d=some cs):∀q∈cs,q.1<blocks/\q.2.length=512:=λq f=>by
 refine⟨qv h q f,?_⟩;unfold gJ at h;split at h
 .cases h
 .split at h
  .cases g:fC blocks (le (d.take 2)) 0 (d.drop 2) with
   |none=>rw [g] at h;cases h
   |some x=>
    obtain⟨ks,r⟩:=x;rw [g] at h;have c:jD (dL ks r)=some cs:=h;cases e:dL ks r with
    |none=>rw [e] at c;cases c
    |some y=>
     obtain⟨j,i⟩:=y;rw [e] at c;cases i with
     |nil=>
      simp only [jD,Option.some.injEq] at c;subst c;exact vM e q f
     |cons a b=>cases c
  .cases h
def yN {blocks:Nat}:∀{rs:List (List Int)} {ms ov:CM},io blocks ms rs=some ov->(∀q∈ms,q.1<blocks/\q.2.length=512)->∀q∈ov,q.1<blocks/\q.2.length=512
 | [],ms,ov,h,hm=>by
  simp only [io,Option.some.injEq] at h;rw [<-h];exact hm
 |r :: rs,ms,ov,h,hm=>by
  rw [vL] at h;cases a:gJ blocks r with
  |none=>rw [a] at h;cases h
  |some cs=>
   rw [a] at h;exact yN h (λq b=>(q9 b).elim (hm q) (Ko a q))
def Dm {blocks:Nat}:∀{rs:List (List Int)} {ms ov:CM},io blocks ms rs=some ov->CM.Ok ms->CM.Ok ov
 | [],ms,ov,h,hm=>by
  simp only [io,Option.some.injEq] at h;rw [<-h];exact hm
 |r :: rs,ms,ov,h,hm=>by
  rw [vL] at h;cases a:gJ blocks r with
  |none=>rw [a] at h;cases h
  |some cs=>
   rw [a] at h;exact Dm h (CM.t8 hm cs)
def N5 (dw:S.Ok s) (a:L.Ok s):(L.start S s).2.1.Ok s:=by
 have b:=a.s;have oI:=a.n1;unfold LG.start;split
 .exact dw
 .split
  .exact dw
  .split <;> exact(l9 dw (by omega) _).1
def Dn {y:LY} (dw:S.Ok s) (b:S.puts= []) (m:∀q∈ov,y.home+q.1<s/\q.2.length=512) (t:ov.length<=2048) (p:3<=y.home) (o7:3<=s):(dT S s y ov rs).2.Ok s/\(dT S s y ov rs).2.life=S.life/\((dT S s y ov rs).1≠0->(dT S s y ov rs).2.fuse=0)/\((dT S s y ov rs).1=0->(dT S s y ov rs).2.puts= [])/\(dT S s y ov rs).2.puts.length<=3000/\∀i,i<3->(dT S s y ov rs).2.now i=S.now i:=by
 obtain⟨r,c,a,f,d⟩:=fd (h0:=y.home) (ms:=ov) dw m;have VF:=eZ S s y.home ov;rw [b] at VF;have aip:(ax S s y.home ov).2.puts.length<=2048:=by simp at VF;omega
 unfold dT;split
 .exact⟨dw,rfl,λh=>absurd rfl h,λ_=>b,by show S.puts.length<=3000;rw [b];exact iq _,λ_ _=>rfl⟩
 .split
  .rename_i q;exact⟨a,c,f,λh=>absurd h q,by omega,λi hi=>d i (λq o e=>by omega)⟩
  .obtain⟨g,j,k,l⟩:=wj a;have:=oC (ax S s y.home ov).2 s;exact⟨g,j.trans c,λn=>(k n).1,l,by omega,λi hi=>(eW a (by omega)).trans (d i (λq o e=>by omega))⟩
def V.Inv.fF (h:V.Inv S s ls t) (W:t+2<=1000000000000000000) (I:pi S s x S1):(x≠0->V.Inv S1 s ls (t+1))/\(x=0->∀L,AJ S s L->V.Inv S1 s (ls ++ [L]) (t+1)):=by
 rcases I with ⟨_,N,rfl⟩|⟨qw,U,k⟩
 .exact⟨λ_=>h.step,λh0=>absurd h0 N⟩
 .rcases k with ⟨l,d,rfl⟩|⟨j,rs,hd,J3,k⟩
  .exact⟨λ_=>h.ug (by omega) _ _ (by rw [l];exact d),λh0=>absurd h0 d⟩
  .have AK:=mY qw;obtain⟨y,C⟩:=cF (co (S.now 0));have v:3<=y.home:=(by rw [C];show 3<=3+u32 (S.now 0) 12;omega);unfold AJ;rw [<-C] at AK j J3 k⊢;obtain⟨Yp,N0,Q2,N3⟩:=mX (f:=1) j;obtain⟨GQ,np,o,p⟩:=J3.small h.jl (by omega);have AL:=AG (s:=s) J3 h.jl N0 Q2 (by omega) (by omega) (by omega);have Sk:=iR h.l0 h.lt (by omega:t<=1000000000000000000);have rR:S.take.Ok s:=⟨h.ok.len,h.ok.lo,h.ok.hi,h.ok.puts,h.ok.fuse⟩;have o8:bU S s 1 (y.log:Int)=S.take.fl s:=N3;have w:(S.take.fl s).1=0:=(by rw [<-o8];exact j);have gM:=gS w;have UR:=oD (s:=s) rR;have YB:=h.jl.take.fl s;have dD:(S.take.fl s).2.life=S.life+1:=(ff _ _).trans Sk;have oI:∀i,i<s->(S.take.fl s).2.now i=S.now i:=λi hi=>eW (S:=S.take) rR hi;have IX:S.num 1<((gK S 1 y.log hd).top+1)*4294967296:=Ii N0;have YC:(gK S 1 y.log hd).life=S.life+1:=Sk;have lu:∀M∈ls,M.life<S.life+1:=λM H=>by have:=(h.ol M H).2;omega
   have Dl:=h.opened (by omega:t<=1000000000000000000) 1 (y.log:Int) (by rw [o8];exact UR) j (hd:=hd) o (by simpa using p);rw [o8] at k Dl⊢;have yt:=h.next UR YB (by rw [gM];exact iq _) (λ_=>by rw [gM];exact iq _) dD;have YD:V.Inv (S.take.fl s).2 s (ls ++ [gK S 1 y.log hd]) (t+1):=Dl;generalize S.take.fl s=P at*;have YE:∀M∈ls,M.life<P.2.life:=(by rw [dD];exact lu);rcases k with ⟨a1,rfl,rfl⟩|⟨ov,Bc,k⟩
   .exact⟨λ_=>yt,λh0=>absurd h0 (by decide)⟩
   .have YF:=yN Bc (λq a=>by cases a);have b:∀q∈ov,y.home+q.1<s/\q.2.length=512:=λq a=>⟨by have:=(YF q a).1;omega,(YF q a).2⟩;have adf:ov.length<=2048:=by
     have:=h.ok.hi;rcases CM.length_le (n:=2048) (Dm Bc Xz) (λq a=>by have:=(b q a).1;omega) 0 (λ_ _=>iq _) with h1|h1
     .omega
     .rw [h1];simp
    obtain⟨e,g,Q,D,X,E⟩:=Dn (rs:=rs) UR gM b adf v (by omega);have N6:=yL (s:=s) (y:=y) (rs:=rs) YB (ox Bc (λx u=>by cases u) (λr J=>(np r J).1));have YG:∀L,(∃O6 VT Sa,jc S 1 y.log O6 VT/\io y.blocks [] O6=some Sa/\L=((gK S 1 y.log VT).start (dT P.2 s y Sa O6).2 s).2.2)->L=((gK S 1 y.log hd).start (dT P.2 s y ov rs).2 s).2.2:=λL m=>by
     obtain⟨O6,VT,Sa,R,O,rfl⟩:=m;obtain⟨rfl,rfl⟩:=J3.same R;obtain rfl:ov=Sa:=Option.some.inj (Bc.symm.trans O);rfl
    generalize dT P.2 s y ov rs=Rd at*;have St:=yt.idle YE e N6 (by omega) (λIZ=>by
     by_cases q:Rd.1=0
     .rw [D q];exact iq _
     .exact absurd (Q q) IZ) g
    have Su:Rd.2.num (gK S 1 y.log hd).f<((gK S 1 y.log hd).top+1)*4294967296:=by
     show Rd.2.num 1<_;rw [Ap (S:=S) (S':=Rd.2) ((E 1 (by omega)).trans (oI 1 (by omega))) ((E 2 (by omega)).trans (oI 2 (by omega)))];exact IX
    have adg:(gK S 1 y.log hd).life=Rd.2.life:=(by rw [YC,g,dD]);rcases k with ⟨rfl,K,rfl⟩|⟨d,rfl,rfl⟩
    .exact⟨λ_=>St,λh0=>absurd h0 K⟩
    .have adh:((gK S 1 y.log hd).start Rd.2 s).2.1.fL:=by
      unfold LG.start;split
      .exact N6
      .split
       .exact N6
       .split <;> exact N6.cw s _ _
     refine⟨λu=>?_,λ_ L m=>?_⟩
     .obtain⟨l,F,G,T⟩:=yM e AL rfl adg Su u;exact St.idle (by rw [g];exact YE) G adh (by omega) (λc=>absurd l c) F
     .rw [YG L m];have hi:(ls ++ [gK S 1 y.log hd])[ls.length]? =some (gK S 1 y.log hd):=(by simp);have z:=YD.on hi (by rw [YC,dD]) e N6 g (by omega) AL rfl (λ_=>⟨λc=>(by cases c),λ_=>⟨by rw [D d];rfl,Su⟩⟩);have jf:(ls ++ [gK S 1 y.log hd]).set ls.length (gK S 1 y.log hd)=ls ++ [gK S 1 y.log hd]:=(by simp);rw [jf] at z;have A:=z.start hi (N5 e AL);have YH:(ls ++ [gK S 1 y.log hd]).set ls.length ((gK S 1 y.log hd).start Rd.2 s).2.2=ls ++ [((gK S 1 y.log hd).start Rd.2 s).2.2]:=(by simp);rw [YH] at A;exact A
end
end
section
section
variable {w w':World} {F:Nat->Prop} {p r s c:Nat} {S S':DS} {L:LG} {x:Int}
def Kp (w:World) (F:Nat->Prop) (p s c:Nat) (S:DS) (e:Ending) (w':World):Prop:=∃x S' cR,cR<=c+261/\pi S s x S'/\ad F w w'/\((x≠0/\e= .returned (.tuple #[.pointer none, .int .i64 x])/\B.aj w' (more F w w') p s S' cR)\/(x=0/\∃q l m L F',AJ S s L/\e= .returned (.tuple #[.pointer (some ⟨q,0,none⟩), .int .i64 0])/\(∀k,F' k->more F w w' k)/\w.heap.size<=q/\w.heap.size<=l/\w.heap.size<=m/\ip w' F' p s cR q l m S' ⟨co (S.now 0),L, [],false⟩))
theorem FP (h:B.aj w F p s S c) (ey:S.fL) (bn:S.puts.length+6000<=4000000000000):
  Calls prog 19 #[.pointer (some ⟨p,0,none⟩)] w λe w'=>Kp w F p s c S e w':=by
 by_cases lu:S.fuse=0\/¬pD (S.now 0) s
 .have D2:∀x,pi S s x S->x≠0:=λx ho e=>by
   rcases ho with ⟨_,n,_⟩|⟨a,b,_⟩
   .exact n e
   .exact lu.elim b (λh=>h a)
  refine(Kj h ey (by omega) lu).mono ?_;rintro e w' ⟨x,rfl,h1,h2,h3⟩;exact⟨x,S,c+1,by omega,h1,h3, .inl ⟨D2 x h1,rfl,h2.more⟩⟩
 .have qw:=Classical.byContradiction (λe=>lu (.inr e));refine(Km h ey bn (λe=>lu (.inl e)) qw).mono ?_;rintro e w' ⟨x,S',cR,h1,h2⟩;exact⟨x,S',cR,by have:=mY qw;omega,h2⟩
theorem mj {home:Nat}:∀{ms:CM} {S:DS},(ax S s home ms).2.life=S.life
 | [],_=>rfl
 |q :: qs,S=>by
  have h1:=lB S s ((home+q.1:Nat):Int) 512 q.2;unfold ax;split
  .exact h1
  .exact mj.trans h1
theorem N7 (S:DS) (s:Nat) (f n:Int):(bU S s f n).2=S\/(bU S s f n).2.life=wrap64 (S.life+1):=by
 unfold bU;split
 .exact .inl rfl
 .split
  .exact .inr rfl
  .split
   .exact .inr rfl
   .exact .inr (ff _ _)
theorem Do {y:LY} {ov:CM} {rs:List (List Int)}:(dT S s y ov rs).2.life=S.life:=by
 unfold dT;split
 .rfl
 .split
  .exact mj
  .exact(ff _ _).trans mj
theorem N8:(L.start S s).2.1.life=S.life:=by
 unfold LG.start;split
 .rfl
 .split
  .rfl
  .split <;> exact fo _ _ _ _
theorem pi.life (h:pi S s x S'):(S'=S/\x≠0)\/S'.life=wrap64 (S.life+1):=by
 rcases h with ⟨_,n,rfl⟩|⟨qw,hf,k⟩
 .exact .inl ⟨rfl,n⟩
 .rcases k with ⟨_,n,rfl⟩|⟨z1,rs,hd,J3,k⟩
  .exact(N7 S s 1 (((co (S.now 0)).log:Nat):Int)).imp (λh=>⟨h,n⟩) id
  .refine .inr ?_;have ho:(bU S s 1 (((co (S.now 0)).log:Nat):Int)).2.life=wrap64 (S.life+1):=by
    obtain⟨_,_,_,e⟩:=mX (f:=1) z1;have e':bU S s 1 (((co (S.now 0)).log:Nat):Int)=S.take.fl s:=e;rw [e'];exact ff _ _
   rcases k with ⟨_,_,rfl⟩|⟨ov,Bc,k⟩
   .exact ho
   .rcases k with ⟨_,_,rfl⟩|⟨_,_,rfl⟩
    .exact Do.trans ho
    .exact N8.trans (Do.trans ho)
theorem Dp (S:DS) (s a n:Nat):(el S s a n).2.life=S.life:=by
 unfold el;split
 .exact mj
 .exact(ff _ _).trans mj
end
end
section
section
variable {S S2:DS} {s h0:Nat} {x:Int}
theorem tJ:∀{ms:CM} {S:DS},S.fuse= -1->(ax S s h0 ms).2.fuse= -1
 | [],_,h=>h
 |q :: qs,S,h=>by
  have h1:=lF h s ((h0+q.1:Nat):Int) 512 q.2;unfold ax;split
  .exact h1
  .exact tJ h1
theorem yP:∀{ms:CM} {S:DS},S.fuse= -1->(∀q∈ms,h0+q.1<s/\q.2=zs 512)->(∀j,j<s->S.now j=zs 512)->∀j,j<s->(ax S s h0 ms).2.now j=zs 512
 | [],_,_,_,hz=>hz
 |q :: qs,S,h,hm,hz=>by
  obtain⟨m1,m2⟩:=hm q (List.mem_cons_self ..);have h2:∀j,j<s->(S.wr s ((h0+q.1:Nat):Int) 512 q.2).2.now j=zs 512:=λj hj=>by
   rw [ix (by omega) m1];split
   .exact m2
   .exact hz j hj
  unfold ax;split
  .exact h2
  .exact yP (lF h s ((h0+q.1:Nat):Int) 512 q.2) (λx hx=>hm x (List.mem_cons_of_mem _ hx)) h2
theorem AM {n a:Nat} (hn:a+n<=s):∀q∈fS n,a+q.1<s/\q.2=zs 512:=λq hq=>by
 unfold fS at hq;obtain⟨i,hi,rfl⟩:=List.mem_map.1 hq;have:=List.mem_range.1 hi;exact⟨by show a+i<s;omega,rfl⟩
theorem A0 (hf:S.fuse= -1):(S.fl s).1=0:=Decidable.byContradiction (λe=>by have:=(jF e).2.1;omega)
theorem vO {a n:Nat} (dw:S.Ok s) (hf:S.fuse= -1) (hn:a+n<=s) (hz:∀j,j<s->S.now j=zs 512):(el S s a n).1=0/\(el S s a n).2.fuse= -1/\(el S s a n).2.Ok s/\(el S s a n).2.puts= []/\(∀j,j<s->(el S s a n).2.now j=zs 512):=by
 obtain⟨a1,_,_,a4⟩:=oy dw hn;obtain⟨_,_,b3,b4,_⟩:=fd (h0:=a) (ms:=fS n) dw (λq hq=>⟨(AM hn q hq).1,by rw [(AM hn q hq).2];exact bN 512⟩);have c1:=tJ (s:=s) (h0:=a) (ms:=fS n) hf;have c3:=Decidable.byContradiction (λe=>by have:=b4 e;omega);have e:el S s a n=(ax S s a (fS n)).2.fl s:=by unfold el;rw [if_neg (λh=>h c3)]
 have d0:(el S s a n).1=0:=by rw [e];exact A0 c1
 refine⟨d0,by rw [e];exact lG c1 s,a1,a4 d0,λj hj=>?_⟩;rw [e,eW b3 hj];exact(yP (s:=s) (h0:=a) hf (AM hn) hz) j hj
theorem US {k:Nat} (hk:k<s) (l:List Int) {j:Nat} (hj:j≠k):(S.wr s (k:Int) 512 l).2.now j=S.now j:=by
 by_cases hf:S.fuse=0
 .unfold DS.wr;rw [if_pos hf]
 .rw [ix hf hk,if_neg hj]
theorem vP {f j:Nat}:∀k,f+k<=s->f+k<=j->(bE S s f k).2.now j=S.now j
 |0,_,_=>rfl
 |k+1,h1,h2=>by
  have h3:(bE S s f k).2.now j=S.now j:=vP k (by omega) (by omega);show (bK S _ (k+1)).2.now j=_;unfold bK;split
  .exact h3
  .exact(US (k:=f+k) (by omega) _ (by omega)).trans h3
theorem Ds {a b j:Nat} (dw:S.Ok s) (pA:a+2+b<=s) (hj:a+2+b<=j) (hjs:j<s):(cT S s (a:Int) (b:Int)).2.now j=S.now j:=by
 have rR:S.take.Ok s:=⟨dw.len,dw.lo,dw.hi,dw.puts,dw.fuse⟩;obtain⟨_,k2,_,_⟩:=jR (f:=a) rR (n:=b+2) (by omega) (b+2) (Nat.le_refl _);have h1:(bE S.take s a (b+2)).2.now j=S.now j:=vP (S:=S.take) (b+2) (by omega) (by omega);have h2:(dq S.take s a b).2.now j=S.now j:=by
  unfold dq;split
  .exact h1
  .exact(eW k2 hjs).trans h1
 obtain⟨_,k3,_,_⟩:=lC (f:=a) (n:=b) rR pA;unfold cT;split
 .rfl
 .simp only [Int.toNat_natCast];split
  .exact h2
  .exact((l9 k3 (by omega) _).2 j (by omega) hjs).trans h2
theorem uo (n k:Nat):(br n k).take n=br n k:=List.take_of_length_le (by rw [aP];omega)
theorem Dt {a b c:Nat} (hg:vy a b c):pD (gq a b c) a/\(co (gq a b c)).log=b/\(co (gq a b c)).home=3+b/\(co (gq a b c)).blocks=a-(3+b):=by
 have VC:=hg;obtain⟨⟨h1,h2⟩,⟨h3,h4⟩,h5,h6,h7⟩:=hg;have hlen:=qx a b c;have ny:iI.length=8:=rfl;have hp:∀q m,q+m<=508->part (eT (bV a b c)) q m=part (bV a b c) q m:=λq m h=>eV _ _ _ _ (by rw [eC];exact h);have q8:u32 (eT (bV a b c)) 8=a:=by
  unfold u32;rw [hp 8 4 (by omega)];unfold bV;rw [eV _ _ _ _ (by simp only [List.length_append,aP,ny];omega),eV _ _ _ _ (by simp only [List.length_append,aP,ny];omega),eV _ _ _ _ (by simp only [List.length_append,aP,ny];omega),mi _ _ _ _ ny.symm,uo,sQ _ _ (by omega)]
 have YI:u32 (eT (bV a b c)) 12=b:=by
  unfold u32;rw [hp 12 4 (by omega)];unfold bV;rw [eV _ _ _ _ (by simp only [List.length_append,aP,ny];omega),eV _ _ _ _ (by simp only [List.length_append,aP,ny];omega),mi _ _ _ _ (by simp only [List.length_append,aP,ny]),uo,sQ _ _ (by omega)]
 have q16:u32 (eT (bV a b c)) 16=c:=by
  unfold u32;rw [hp 16 4 (by omega)];unfold bV;rw [eV _ _ _ _ (by simp only [List.length_append,aP,ny];omega),mi _ _ _ _ (by simp only [List.length_append,aP,ny]),uo,sQ _ _ (by omega)]
 have hb:Bytes (eT (bV a b c)):=(ja _ _ _).append (fW _ _);refine⟨⟨(J9 hb hlen).2 ⟨?_,?_⟩,q8⟩,?_,?_,?_⟩
 .rw [q8,YI,q16];exact VC
 .rw [q8,YI,q16]
 .unfold co;exact YI
 .unfold co;show 3+u32 _ 12=_;rw [YI]
 .unfold co;show u32 _ 8-(3+u32 _ 12)=_;rw [q8,YI]
theorem AN {a b c:Nat} (dw:S.Ok a) (ey:S.fL) (hf:S.fuse= -1) (oY:0<=S.life) (dD:S.life<=1) (hg:vy a b c) (hz:∀j,j<a->S.now j=zs 512):
    (cZ S a a b c).1=0/\(cZ S a a b c).2.fuse= -1/\(cZ S a a b c).2.Ok a/\(cZ S a a b c).2.puts= []/\(cZ S a a b c).2.now 0=gq a b c/\bG (cZ S a a b c).2 1=(1,0,0)/\∀j,3<=j->j<a->(cZ S a a b c).2.now j=zs 512:=by
 obtain⟨⟨g1,g2⟩,⟨g3,g4⟩,g5,g6,g7⟩:=hg;have hg:vy a b c:=⟨⟨g1,g2⟩,⟨g3,g4⟩,g5,g6,g7⟩;have rR:S.take.Ok a:=⟨dw.len,dw.lo,dw.hi,dw.puts,dw.fuse⟩;have e0:cZ S a a b c=oO S a b c:=by
  unfold cZ;rw [if_neg (by omega)]
  haveI:=Na (a:Int) (b:Int) (c:Int)
  rw [if_pos ⟨hg,rfl⟩,Int.toNat_natCast,Int.toNat_natCast]
 obtain⟨a1,a2,a3,a4,a5⟩:=vO (s:=a) (a:=0) (n:=1) rR hf (by omega) (λj hj=>hz j hj);have ab:=ku ey.take a 0 1;have al:=Dp S.take a 0 1;have f1:pn S a=el S.take a 0 1:=rfl;rw [<-f1] at a1 a2 a3 a4 a5 ab al;obtain⟨b1,b2,b3,b4,b5⟩:=vO (s:=a) (a:=1) (n:=a-1) a3 a2 (by omega) a5;have bb:=ku ab a 1 (a-1);have bl:=(Dp (pn S a).2 a 1 (a-1)).trans al;have f2:po S a=el (pn S a).2 a 1 (a-1):=rfl;rw [<-f2] at b1 b2 b3 b4 b5 bb bl;have aS:S.take.life=S.life+1:=by show wrap64 (S.life+1)=_;unfold wrap64;omega
 obtain⟨c1,c2,c3,c4⟩:=DV (a:=1) (b:=b) b3 b2 (by omega) (by omega) (by omega);obtain⟨d1,_,d3⟩:=pE (S:=(po S a).2) (s:=a) (t:=10) b3 (by omega) (by omega) (by omega) (by omega) b4 1 (b:Int);have UT:∀j,3+b<=j->j<a->(cT (po S a).2 a 1 (b:Int)).2.now j=zs 512:=λj h1 h2=>(Ds (a:=1) (b:=b) b3 (by omega) (by omega) h2).trans (b5 j h2);have c1:(kW S a b).1=0:=c1;have c2:(kW S a b).2.fuse= -1:=c2;have c3:bG (kW S a b).2 1=(1,0,0):=c3;have c4:∀j,j<b->(kW S a b).2.now (1+2+j)=zs 512:=c4;have d1:(kW S a b).2.Ok a:=d1;have UT:∀j,3+b<=j->j<a->(kW S a b).2.now j=zs 512:=UT;have kD:(gq a b c).length=512:=qx _ _ _;have f4:mt S a b c=(kW S a b).2.wr a ((0:Nat):Int) 512 (gq a b c):=rfl;have e1:(mt S a b c).1=0:=by rw [f4,n9 (by omega) (by omega)]
 have e2:(mt S a b c).2.fuse= -1:=lF c2 _ _ _ _;have e3:(mt S a b c).2.Ok a:=by rw [f4];exact ra d1 (by omega) (by omega) kD
 have e4:∀j,(mt S a b c).2.now j=if j=0 then gq a b c else (kW S a b).2.now j:=λj=>by rw [f4];exact ix (by omega) (by omega) _ j
 have e5:oO S a b c=(mt S a b c).2.fl a:=by
  unfold oO;rw [if_neg (λh=>h a1),if_neg (λh=>h b1),if_neg (λh=>h c1),if_neg (λh=>h e1)]
 rw [e0,e5];have nj:∀j,j<a->((mt S a b c).2.fl a).2.now j=(mt S a b c).2.now j:=λj hj=>eW e3 hj;refine⟨A0 e2,lG e2 a,oD e3,gS (A0 e2),?_,?_,λj h1 h2=>?_⟩
 .rw [nj 0 (by omega),e4 0,if_pos rfl]
 .have o1:((mt S a b c).2.fl a).2.now 1=(kW S a b).2.now 1:=by rw [nj 1 (by omega),e4 1,if_neg (by omega)]
  have o2:((mt S a b c).2.fl a).2.now 2=(kW S a b).2.now 2:=by rw [nj 2 (by omega),e4 2,if_neg (by omega)]
  rw [<-c3];unfold bG;rw [o1,o2]
 .rw [nj j h2,e4 j,if_neg (by omega)];by_cases h3:j<3+b
  .have:=c4 (j-3) (by omega);rwa [show 1+2+(j-3)=j by omega] at this
  .exact UT j (by omega) h2
theorem Du {L:LG} (hf:S.fuse= -1):(L.start S s).2.1.fuse= -1:=by
 unfold LG.start;split
 .exact hf
 .split
  .exact hf
  .split <;> exact sH hf _ _ _
theorem Dw {L:LG}:(L.start S s).2.2.life=L.life:=by
 unfold LG.start;split
 .rfl
 .split
  .rfl
  .split <;> rfl
theorem AJ.life {L:LG} (h:AJ S s L):L.life=wrap64 (S.life+1):=by
 obtain⟨rs,hd,ov,_,_,rfl⟩:=h;exact Dw
theorem FT (dw:S.Ok s) (ey:S.fL) (hf:S.fuse= -1) (qw:pD (S.now 0) s) (hn:bG S 1=(1,0,0)) (hz:∀j,j<(co (S.now 0)).log->S.now (1+2+j)=zs 512) (ho:pi S s x S2):x=0/\S2.fuse= -1/\∀j,3<=j->j<s->S2.now j=S.now j:=by
 have AK:=mY qw;obtain⟨c1,c2,c3,c4,c5⟩:=Kq (a:=1) (b:=(co (S.now 0)).log) dw hf (by omega) (by omega) (by omega) hn hz;have Hv:(bU S s 1 (((co (S.now 0)).log:Nat):Int)).1=0:=c1;obtain⟨_,z2,z3,o8⟩:=mX (f:=1) Hv;have Mn:bU S s 1 (((co (S.now 0)).log:Nat):Int)=S.take.fl s:=o8;have rR:S.take.Ok s:=⟨dw.len,dw.lo,dw.hi,dw.puts,dw.fuse⟩;rcases ho with ⟨hl,n1,rfl⟩|⟨_,_,k⟩
 .exfalso;rcases hl with ⟨a1,_,_⟩|⟨_,_,_,e⟩|⟨_,a2,_,_⟩
  .omega
  .exact n1 e
  .exact a2 qw
 .rcases k with ⟨e1,m1,_⟩|⟨_,rs,hd,J3,k⟩
  .exact absurd (e1.symm.trans Hv) m1
  .obtain⟨rfl,rfl⟩:=c4 rs hd J3.t;rcases k with ⟨a1,_,_⟩|⟨ov,Bc,k⟩
   .cases a1
   .have hr:dT (bU S s 1 (((co (S.now 0)).log:Nat):Int)).2 s (co (S.now 0)) ov []=(0,(bU S s 1 (((co (S.now 0)).log:Nat):Int)).2):=(by unfold dT;rw [if_pos rfl]);rw [hr] at k;rcases k with ⟨a1,a2,_⟩|⟨_,a2,rfl⟩
    .exact absurd a1.symm a2
    .have AL:=AG (s:=s) J3 ey z2 z3 (by omega) (by omega) (by omega);have IX:S.num 1<((gK S 1 (co (S.now 0)).log 0).top+1)*4294967296:=Ii z2;rw [Mn] at a2⊢;have YJ:=oD (s:=s) rR;have zI:∀j,j<s->(S.take.fl s).2.now j=S.now j:=λj hj=>eW (S:=S.take) rR hj;have mH:(S.take.fl s).2.num (gK S 1 (co (S.now 0)).log 0).f<((gK S 1 (co (S.now 0)).log 0).top+1)*4294967296:=by
      show (S.take.fl s).2.num 1<_;rw [Ap (S:=S) (S':=(S.take.fl s).2) (zI 1 (by omega)) (zI 2 (by omega))];exact IX
     have JZ:(gK S 1 (co (S.now 0)).log 0).life=(S.take.fl s).2.life:=(ff S.take s).symm;have hfP:=lG (S:=S.take) hf s;have JA:=Du (s:=s) (L:=gK S 1 (co (S.now 0)).log 0) hfP;refine⟨Decidable.byContradiction (λe=>?_),JA,λj h1 h2=>?_⟩
     .have:=(yM YJ AL rfl JZ mH (by show ((gK S 1 (co (S.now 0)).log 0).start (S.take.fl s).2 s).1≠0;rw [a2];exact e)).1;omega
     .refine Eq.trans ?_ (zI j h2);show ((gK S 1 (co (S.now 0)).log 0).start (S.take.fl s).2 s).2.1.now j=_;unfold LG.start;split
      .rfl
      .split
       .rfl
       .split <;> exact(l9 YJ (by show 1+1<s;omega) _).2 j (by show 1+2<=j;omega) h2
end
end
theorem bF (x:Int) (w:World):Calls prog 13 #[.int .i64 x] w λe w'=>e= .returned (.int .i64 x)/\w'=w:=by
 go_enter func13,ntmps13;go_wp2;go_ret;exact⟨rfl,rfl⟩
def iz (n:Int) (lo hi:Nat):Nat:=lo+(n.emod (hi-lo+1:Nat)).toNat
theorem jX (n:Int) {lo hi:Nat} (h:lo<=hi):lo<=iz n lo hi/\iz n lo hi<=hi:=by
 unfold iz;have h1:(0:Int)<((hi-lo+1:Nat):Int):=by omega
 have h2:=Int.emod_nonneg n (by omega:((hi-lo+1:Nat):Int)≠0);have h3:=Int.emod_lt_of_pos n h1;have h4:n.emod ((hi-lo+1:Nat):Int)=n%((hi-lo+1:Nat):Int):=rfl;omega
theorem Kr {n:Int} {m:Nat} (hm:0<m):(0<=n.tmod m->n.tmod m=n%m)/\(n.tmod m<0->n.tmod m+m=n%m):=by
 have h0:(m:Int)≠0:=by omega
 have h1:=Int.emod_nonneg n h0;have h2:=Int.emod_lt_of_pos n (by omega:(0:Int)<m);have h3:=Int.tmod_add_mul_tdiv n m;have h4:=Int.emod_add_mul_ediv n m;have h5:n.tmod m<m:=Int.tmod_lt_of_pos n (by omega);have h6: -(m:Int)<n.tmod m:=Int.neg_lt_of_neg_lt (by
  have:=Int.lt_tmod_of_pos n (by omega:(0:Int)<m);omega)
 have key:∀r:Int,0<=r->r<m->∀q:Int,r+m*q=n->r=n%m:=λr Wq cI q hq=>by
  rw [<-hq,Int.add_mul_emod_self_left,Int.emod_eq_of_lt Wq cI]
 refine⟨λh=>key _ h h5 _ h3,λh=>key _ (by omega) (by omega) (n.tdiv m-1) ?_⟩;rw [Int.mul_sub];omega
theorem fT (n:Int) (lo hi:Nat) (h:lo<=hi) (hh:hi<=1000000) (_hn: -9223372036854775808<=n/\n<=9223372036854775807) (w:World):Calls prog 21 #[.int .i64 n, .int .i64 (lo:Int), .int .i64 (hi:Int)] w λe w'=>e= .returned (.int .i64 (iz n lo hi:Int))/\w'=w:=by
 obtain⟨m,hm⟩:∃m:Nat,m=hi-lo+1:=⟨_,rfl⟩;have hr:(iz n lo hi:Int)=(lo:Int)+n%(m:Int):=by
  have h2:=Int.emod_nonneg n (by omega:(m:Int)≠0);unfold iz;rw [<-hm];have h4:n.emod (m:Int)=n%(m:Int):=rfl;omega
 obtain⟨t1,t2⟩:=Kr (n:=n) (m:=m) (by omega);have h2:=Int.emod_nonneg n (by omega:(m:Int)≠0);have h3:=Int.emod_lt_of_pos n (by omega:(0:Int)<m);have Te:(hi:Int)-(lo:Int)+1=(m:Int):=by omega
 have e4:((hi:Int)-(lo:Int)+1 == 0)=false:=by rw [Te];simpa using (by omega:(m:Int)≠0)
 obtain⟨R,hR⟩:∃R:Int,R=n.tmod m:=⟨_,rfl⟩;have e5:n.tmod ((hi:Int)-(lo:Int)+1)=R:=by rw [Te];exact hR.symm
 rw [hr];rw [<-hR] at t1 t2;have hRb: -1000002<=R/\R<=1000002:=by
  by_cases q:0<=R
  .have:=t1 q;omega
  .have:=t2 (by omega);omega
 obtain⟨V,hV⟩:∃V:Int,V=(lo:Int)+n%(m:Int):=⟨_,rfl⟩;rw [<-hV];by_cases q:0<=R
 .have q1:¬R<0:=by omega
  have e7:(lo:Int)+R=V:=by have:=t1 q;omega
  have e8:wrap64 V=V:=gI (by omega) (by omega);clear hr t1 t2 h2 h3 hR hV q hm Te;go_enter func21,ntmps21;go_wp2;go_ret;exact⟨rfl,rfl⟩
 .have q1:R<0:=by omega
  obtain⟨R2,Vq⟩:∃R2:Int,R+((hi:Int)-(lo:Int)+1)=R2:=⟨_,rfl⟩;have e6:wrap64 R2=R2:=gI (by omega) (by omega);have e7:(lo:Int)+R2=V:=by have:=t2 q1;omega
  have e8:wrap64 V=V:=gI (by omega) (by omega);clear hr t1 t2 h2 h3 hR hV q hm Te;go_enter func21,ntmps21;go_wp2;go_ret;exact⟨rfl,rfl⟩
structure Ld where
 s:Nat
 l:Nat
 n:Nat
def fh (B L N:Int):Ld:=⟨iz B (3+iz L 18 256+2+iz N 1 256+1) 2048,iz L 18 256,4*iz N 1 256⟩
theorem Dx (B L N:Int):vy (fh B L N).s (fh B L N).l (fh B L N).n/\(fh B L N).s<=2048/\18<=(fh B L N).l/\(fh B L N).l<=256/\4<=(fh B L N).n/\(fh B L N).n<=1024/\3+(fh B L N).l+2+(fh B L N).n / 4+1<=(fh B L N).s/\(fh B L N).n%4=0:=by
 have h1:=jX L (lo:=18) (hi:=256) (by omega);have h2:=jX N (lo:=1) (hi:=256) (by omega);have h3:=jX B (lo:=3+iz L 18 256+2+iz N 1 256+1) (hi:=2048) (by omega);unfold fh
 dsimp only
 generalize iz B (3+iz L 18 256+2+iz N 1 256+1) 2048=s at*;generalize iz L 18 256=l at*;generalize iz N 1 256=n at*;refine⟨?_,by omega,by omega,by omega,by omega,by omega,by omega,by omega⟩;unfold vy;omega
abbrev Oa (g:Ld):Value:= .agg #[.int .i64 (g.s:Int), .int .i64 (g.l:Int), .int .i64 (g.n:Int)]
theorem Ij:(prog.info? 31).map (·.size)=some 3:=by kernel_rfl
theorem Ks {w:World} {g:Nat} {a b c:Value} (hx:w.heap[g]? =some (.cells #[a,b,c] 31 (0,0))):w.rangeAt g 0 [a,b,c]:=by
 intro j v hv
 match j,hv with
 |0,hv=>cases hv;exact aa hx (j:=0) rfl
 |1,hv=>cases hv;exact aa hx (j:=1) rfl
 |2,hv=>cases hv;exact aa hx (j:=2) rfl
 |j+3,hv=>simp at hv
theorem Ob {a b:Nat} (i1:18<=b/\b<=256) (i2:1<=a/\a<=256):∃x A x1 x2 x3:Nat,x=3+b+2+a+1/\A=4*a/\x<=2048/\wrap64 (4*(a:Int))=(A:Int)/\(A:Int).tdiv 4=(a:Int)/\wrap64 (3+(b:Int))=(x1:Int)/\wrap64 ((x1:Int)+2)=(x2:Int)/\wrap64 (a:Int)=(a:Int)/\wrap64 ((x2:Int)+(a:Int))=(x3:Int)/\wrap64 ((x3:Int)+1)=(x:Int)/\¬(2048:Int)<(x:Int):=
   ⟨3+b+2+a+1,4*a,3+b,3+b+2,3+b+2+a,rfl,rfl,by omega,(gI (by omega) (by omega)).trans (by omega),by rw [Yj];omega,(gI (by omega) (by omega)).trans (by omega),(gI (by omega) (by omega)).trans (by omega),gI (by omega) (by omega),(gI (by omega) (by omega)).trans (by omega),(gI (by omega) (by omega)).trans (by omega),by omega⟩
theorem Oc {w:World} {b:Nat} {t:TypeId} {a0 a1 a2:Value} (v0 v1 v2:Value) (h:w.heap[b]? =some (.cells #[a0,a1,a2] t (0,0))):
    (w.setCells b 0 [v0,v1,v2]).heap[b]? =some (.cells #[v0,v1,v2] t (0,0)):=by
 have h0:=(heap_setCell_same w b 0 _ t v0 h).trans (by rfl:_=some (Obj.cells #[v0,a1,a2] t (0,0)));have h1:=(heap_setCell_same _ b 1 _ t v1 h0).trans (by rfl:_=some (Obj.cells #[v0,v1,a2] t (0,0)));exact(heap_setCell_same _ b 2 _ t v2 h1).trans rfl
theorem vQ (B L N:Int) (hB:nN B) (hL:nN L) (hN:nN N) (w:World):Calls prog 10 #[.agg #[.int .i64 B, .int .i64 L, .int .i64 N]] w λe w'=>e= .returned (Oa (fh B L N))/\Below w.heap.size w w':=by
 have i1:=jX L (lo:=18) (hi:=256) (by omega);have i2:=jX N (lo:=1) (hi:=256) (by omega);have k1:=λw=>fT N 1 256 (by omega) (by omega) hN w;have k2:=λw=>fT L 18 256 (by omega) (by omega) hL w;obtain⟨a,ha⟩:∃a,a=iz N 1 256:=⟨_,rfl⟩;obtain⟨b,hb⟩:∃b,b=iz L 18 256:=⟨_,rfl⟩;rw [<-ha] at i2 k1;rw [<-hb] at i1 k2;obtain⟨x,A,x1,x2,x3,hx,hA,dV,e1,e2,f1,f2,f3,f4,f5,e4⟩:=Ob i1 i2;have k3:=λw=>fT B x 2048 dV (by omega) hB w;obtain⟨c,hc⟩:∃c,c=iz B x 2048:=⟨_,rfl⟩;rw [<-hc] at k3;have hG:fh B L N=⟨c,b,A⟩:=by unfold fh;rw [<-ha,<-hb,<-hx,<-hc,<-hA]
 rw [hG];obtain⟨w1,bd⟩:∃w1,w1=(w.alloc (.cells #[.int .i64 B, .int .i64 L, .int .i64 N] 23)).alloc (.cells #[.int .i64 0, .int .i64 0, .int .i64 0] 31):=⟨_,rfl⟩;have bw:w1.heap[w.heap.size+1]? =some (.cells #[.int .i64 0, .int .i64 0, .int .i64 0] 31 (0,0)):=by rw [bd];exact heap_alloc2_new _ _ _
 have aH:Below w.heap.size w w1:=by rw [bd];exact bQ w _ _
 have cC:=aZ bw (n:=3) rfl;have oH:=Ks (Oc (.int .i64 (c:Int)) (.int .i64 (b:Int)) (.int .i64 (A:Int)) bw);have Uf:Yh ((w1.setCells (w.heap.size+1) 0 [.int .i64 (c:Int), .int .i64 (b:Int), .int .i64 (A:Int)]).rangeAt (w.heap.size+1) 0 [.int .i64 (c:Int), .int .i64 (b:Int), .int .i64 (A:Int)]):=oH;have HE:Yh (Below w.heap.size w (w1.setCells (w.heap.size+1) 0 [.int .i64 (c:Int), .int .i64 (b:Int), .int .i64 (A:Int)])):=aH.trans ((ad.setCells (F:=λj=>j=w.heap.size+1) rfl _ 0 _).below (λj hj=>by omega) aH.size);have d0:w1.cell? ⟨w.heap.size,0,none⟩=some (.int .i64 B):=by rw [bd];exact aa (heap_alloc2_old _ _ _) (j:=0) rfl
 have d1:w1.cell? ⟨w.heap.size,1,none⟩=some (.int .i64 L):=by rw [bd];exact aa (heap_alloc2_old _ _ _) (j:=1) rfl
 have d2:w1.cell? ⟨w.heap.size,2,none⟩=some (.int .i64 N):=by rw [bd];exact aa (heap_alloc2_old _ _ _) (j:=2) rfl
 have h1:=k1 w1;have h2:=k2 w1;have h3:=k3 w1;rw [show ((1:Nat):Int)=1 from rfl,show ((256:Nat):Int)=256 from rfl] at h1;rw [show ((18:Nat):Int)=18 from rfl,show ((256:Nat):Int)=256 from rfl] at h2;rw [show ((2048:Nat):Int)=2048 from rfl] at h3;clear k1 k2 k3 ha hb hc hx hG hA oH aH bw hB hL hN i1 i2 dV;go_enter func10,ntmps10;go_wp2_with fail;rw [<-bd];clear bd;refine h1.mono ?_;rintro e w9 ⟨rfl,un⟩;have ow:=un.symm;subst ow;clear un h1;go_wp2_with fail;refine h2.mono ?_;rintro e w9 ⟨rfl,un⟩;have ow:=un.symm;subst ow;clear un h2;go_wp2_with fail;refine h3.mono ?_;rintro e w9 ⟨rfl,un⟩;have ow:=un.symm;subst ow;clear un h3;go_wp2_with (refine wpList_store_mid rfl 31 _ _ rfl (w.heap.size+1) 0 #[.int .i64 (c:Int), .int .i64 (b:Int), .int .i64 (A:Int)] rfl rfl ?h1 ?h2 ?h3 ?_);case h1=>exact cC
 case h2=>exact Ij
 case h3=>simp [Value.oneCell']
 refine bodyPost_ret (cN (P:=prog) rfl _ _ (w.heap.size+1) _ _ rfl Uf.o underlying31 rfl Ij) rfl ⟨rfl,HE.o⟩
theorem Ik (t:Nat) (w:World):Calls prog 58 #[.pointer (some ⟨t,0,none⟩)] w λe w'=>e= .returned (.pointer (some ⟨w.heap.size,0,none⟩))/\w'=w.alloc (.cells #[.pointer (some ⟨t,0,none⟩)] 59):=by
 go_enter func58,ntmps58;go_wp2;go_ret;exact⟨rfl,rfl⟩
abbrev Dy (p q:Nat) (x2 x3:Value) (k:Nat) (b:Bool):Array Value:= #[.pointer (some ⟨p,0,none⟩), .pointer (some ⟨q,0,none⟩),x2,x3, .pointer (some ⟨k,0,none⟩), .bool b]
def MX (w:World) (X:Nat->Prop) (k:Nat) (M:MP):Prop:=∃g1 c1 g2 c2 g3 c3 g4 c4 v5 v6 v7,Po w X k g1 c1 g2 c2 g3 c3 g4 c4 v5 v6 v7 M
theorem BX.ak {w w':World} {X Z:Nat->Prop} {g c:Nat} {l:List Bool} (h:BX w X g c l) (hk:ad Z w w') (hZ:∀j,Z j->¬X j):BX w' X g c l:=⟨h.1,h.2.1.agree (hk.block g h.2.1.lt (λe=>hZ g e h.1)),h.2.2⟩
theorem nG.apart {w w':World} {X Z:Nat->Prop} {v:Value} {rs:List (List Int)} (h:nG w X v rs) (hk:ad Z w w') (hZ:∀j,Z j->¬X j):nG w' X v rs:=by
 obtain⟨xs,h1,h2,h3⟩:=h;refine⟨xs,bP h1 (λg hg=>?_),h2,λi hi=>?_⟩
 .obtain⟨cur,hc⟩:=ay h1 hg;exact hk.block g (af hc) (λe=>hZ g e (h2 g hg))
 .obtain⟨g,c,e1,e2,e3⟩:=h3 i hi;exact⟨g,c,e1,e2,e3.agree (hk.block g e3.lt (λe=>hZ g e e2))⟩
theorem NX.apart {w w':World} {X Z:Nat->Prop} {v:Value} {l:List Nat} (h:NX w X v l) (hk:ad Z w w') (hZ:∀j,Z j->¬X j):NX w' X v l:=
   ⟨bP h.1 (λg hg=>by obtain⟨cur,hc⟩:=ay h.1 hg;exact hk.block g (af hc) (λe=>hZ g e (h.2 g hg))),h.2⟩
theorem MX.apart {w w':World} {X Z:Nat->Prop} {k:Nat} {M:MP} (h:MX w X k M) (hk:ad Z w w') (hZ:∀j,Z j->¬X j):MX w' X k M:=by
 obtain⟨g1,c1,g2,c2,g3,c3,g4,c4,v5,v6,v7,h⟩:=h;exact⟨g1,c1,g2,c2,g3,c3,g4,c4,v5,v6,v7,⟨(hk.block k (af h.b) (λe=>hZ k e h.xk)).trans h.b,h.xk,h.ob.ak hk hZ,h.on.ak hk hZ,h.nb.ak hk hZ,h.nn.ak hk hZ,h.KZ,h.Pp,h.Pq,h.Pr,h.Ps,h.NS,h.eI.apart hk hZ,h.raw.apart hk hZ,h.put.apart hk hZ,h.own⟩⟩
structure BG (w0 w:World) (F X:Nat->Prop) (kr p s q l m t n k:Nat) (x2 x3:Value) (S:DS) (G:SG) (M:MP) (r:Int):Prop where
 b:w.heap[kr]? =some (.cells (Dy p q x2 x3 k true) 38 (0,0))
 d:aI w F p s (S.pY r)
 st:lT w q p l m G.y true
 lp:bO w l p G.L
 ch:Ch w m G.ov
 tx:w.heap[t]? =some (.cells (A9 q n ⟨[],0,false⟩) 106 (0,0))
 cn:Ch w n []
 mm:MX w X k M
 kp:ad (λj=>j=kr\/j=q) w0 w
theorem BG.ak {w0 w w':World} {F X Z:Nat->Prop} {kr p s q l m t n k:Nat} {x2 x3:Value} {S:DS} {G:SG} {M:MP} {r:Int} (h:BG w0 w F X kr p s q l m t n k x2 x3 S G M r) (hk:ad Z w w') (hZ:∀j,Z j->¬F j/\j≠kr/\j≠q/\j≠l/\j≠m/\j≠t/\j≠n/\¬X j/\w0.heap.size<=j):BG w0 w' F X kr p s q l m t n k x2 x3 S G M r:=
   ⟨(hk.block _ (af h.b) (λe=>(hZ _ e).2.1 rfl)).trans h.b,h.d.ak hk (λj hj e=>(hZ j e).1 hj),h.st.ak hk (λe=>(hZ _ e).2.2.1 rfl),h.lp.ak hk (λe=>(hZ _ e).2.2.2.1 rfl),h.ch.ak hk (λe=>(hZ _ e).2.2.2.2.1 rfl),(hk.block _ (af h.tx) (λe=>(hZ _ e).2.2.2.2.2.1 rfl)).trans h.tx,h.cn.ak hk (λe=>(hZ _ e).2.2.2.2.2.2.1 rfl),h.mm.apart hk (λj e=>(hZ j e).2.2.2.2.2.2.2.1),h.kp.trans hk (λj e=> .inr (hZ j e).2.2.2.2.2.2.2.2)⟩
theorem BG.later {w0 w w':World} {F X:Nat->Prop} {kr p s q l m t n k:Nat} {x2 x3:Value} {S:DS} {G:SG} {M:MP} {r:Int} (h:BG w0 w F X kr p s q l m t n k x2 x3 S G M r) (hb:Below w.heap.size w w'):BG w0 w' F X kr p s q l m t n k x2 x3 S G M r:=h.ak (ad.ag (λ_=>False) hb) (λ_ h=>h.elim)
theorem BG.set {w0 w w':World} {F X:Nat->Prop} {kr p s q l m t n k:Nat} {x2 x3 y2 y3:Value} {S:DS} {G:SG} {M:MP} {r:Int} (h:BG w0 w F X kr p s q l m t n k x2 x3 S G M r) (hk:ad (λj=>j=kr) w w') (hb:w'.heap[kr]? =some (.cells (Dy p q y2 y3 k true) 38 (0,0))) (n1:¬F kr) (n2:kr≠q) (n3:kr≠l) (n4:kr≠m) (n5:kr≠t) (n6:kr≠n) (n7:¬X kr):BG w0 w' F X kr p s q l m t n k y2 y3 S G M r:=
   ⟨hb,h.d.ak hk (λ_j hj e=>n1 (e▸hj)),h.st.ak hk (λe=>n2 e.symm),h.lp.ak hk (λe=>n3 e.symm),h.ch.ak hk (λe=>n4 e.symm),(hk.block _ (af h.tx) (λe=>n5 e.symm)).trans h.tx,h.cn.ak hk (λe=>n6 e.symm),h.mm.apart hk (λ_j e hx=>n7 (e▸hx)),h.kp.trans hk (λ_j e=> .inl (.inl e))⟩
theorem BG.cells {w0 w:World} {F X:Nat->Prop} {kr p s q l m t n k:Nat} {x2 x3:Value} {S:DS} {G:SG} {M:MP} {r:Int} (h:BG w0 w F X kr p s q l m t n k x2 x3 S G M r):w.cell? ⟨kr,0,none⟩=some (.pointer (some ⟨p,0,none⟩))/\w.cell? ⟨kr,2,none⟩=some x2/\w.cell? ⟨kr,3,none⟩=some x3/\w.cell? ⟨kr,4,none⟩=some (.pointer (some ⟨k,0,none⟩))/\w.cell? ⟨kr,5,none⟩=some (.bool true):=
   ⟨aa h.b (j:=0) rfl,aa h.b (j:=2) rfl,aa h.b (j:=3) rfl,aa h.b (j:=4) rfl,aa h.b (j:=5) rfl⟩
structure jY (w:World) (F X:Nat->Prop) (kr p s cR q l m t n a1 a2 k:Nat) (S:DS) (G:SG) (T:TG) (M:MP):Prop where
 b:w.heap[kr]? =some (.cells (Dy p q (.pointer (some ⟨a1,0,none⟩)) (.pointer (some ⟨a2,0,none⟩)) k true) 38 (0,0))
 x:TX w F p s cR q l m t n S G T
 p1:ar w F a1 t n
 p2:ar w F a2 t n
 mm:MX w X k M
 xl:∀j,X j->j<w.heap.size
 nk:¬F kr/\kr≠q/\kr≠l/\kr≠m/\kr≠t/\kr≠n
 xa:∀j,X j->¬F j/\j≠q/\j≠l/\j≠m/\j≠t/\j≠n/\j≠kr/\j≠a1/\j≠a2
theorem qy {w:World} {F X:Nat->Prop} {kr p s cR q l m k:Nat} {x2 x3:Value} {S:DS} {G:SG} {M:MP}
    (hb:w.heap[kr]? =some (.cells (Dy p q x2 x3 k true) 38 (0,0))) (bu:ip w F p s cR q l m S G) (Sv:G.busy=false) (yQ:G.L.dead S=false) (ey:S.fL) (uj:S.puts.length<=6000) (hyk:CJ G.y)
    (hm:MX w X k M) (hX:∀j,X j->j<w.heap.size) (hn:M.eI.length<=2048) (nk:¬F kr/\kr≠q/\kr≠l/\kr≠m) (hXa:∀j,X j->¬F j/\j≠q/\j≠l/\j≠m/\j≠kr):
  Calls prog 20 #[.pointer (some ⟨kr,0,none⟩)] w λe w'=>e= .returned (.tuple #[])/\∃t n a1 a2 X',jY w' F X' kr p s cR q l m t n a1 a2 k S {G with busy:=true} ⟨[],0,false⟩ M.begun/\(∀j,X' j->X j\/w.heap.size<=j)/\ad (λj=>j=kr\/j=q\/j=k) w w'/\w.heap.size<=t/\w.heap.size<=n/\w.heap.size<=a1/\w.heap.size<=a2:=by
 have k1:=(E4 bu).mono (λe w' h=>by unfold vl at h;rw [if_neg (λh=>h (by unfold SG.begin;rw [yQ,Sv];rfl))] at h;exact h);obtain⟨r,lV,np⟩:=bu.d;have c1:w.cell? ⟨kr,1,none⟩=some (.pointer (some ⟨q,0,none⟩)):=aa hb (j:=1) rfl;have aS:=bu.d.lt;have Hi:=bu.st.lt;have qI:=bu.lp.lt;have Lp:=bu.ch.lt;have adi:=af hb;have ig:=yh bu;have HBk:=yh hb;have HM:=yh hm;have HD:=yh lV;have HXa:=yh hXa;have HRb:=yh np;clear bu hb hm lV yQ Sv hXa np;go_enter func20,ntmps20;go_wp2_with fail;refine k1.mono ?_;rintro e w1 ⟨t,n,rfl,oI,ht1,htn,htx,oM,YK,bo⟩;have eR:=bo.size;have Pu:t<w1.heap.size:=af htx;have si:n<w1.heap.size:=oM.lt;have Od:BG w w1 F X kr p s q l m t n k x2 x3 S G M r:=⟨(bo.block _ adi nk.2.1).trans HBk.o,HD.o.ak bo (λj hj e=>ig.o.nq (e▸hj)),YK,ig.o.lp.ak bo (λe=>ig.o.ql e.symm),ig.o.ch.ak bo (λe=>ig.o.qm e.symm),htx,oM,HM.o.apart bo (λj e hx=>(HXa.o j hx).2.1 e),bo.mono (λj e=> .inr e)⟩;obtain⟨i0,i2,i3,i4,i5⟩:=Od.cells;have f5:=ae Od.b 5;have VU:kr≠t:=by omega
 have VV:kr≠n:=by omega
 have YL:¬X kr:=λh=>(HXa.o kr h).2.2.2.2 rfl;have YM:=Od.set (ad.setCell (F:=λj=>j=kr) w1 (p:=⟨kr,5,none⟩) rfl (.bool true)) ((heap_setCell_same _ _ 5 _ _ (.bool true) Od.b).trans rfl) nk.1 nk.2.1 nk.2.2.1 nk.2.2.2 VU VV YL;have kn:=bF 0 w1;have HB2:=yh YM;have eE:(w1.setCell ⟨kr,5,none⟩ (.bool true)).heap.size=w1.heap.size:=by simp [World.setCell]
 clear k1 c1 htx oM YK bo Od YM;go_wp2_with fail;refine kn.mono ?_;rintro e w9 ⟨rfl,un⟩;have ow:=un.symm;subst ow;clear kn un;obtain⟨w2,ed⟩:∃w2,w2=w1.setCell ⟨kr,5,none⟩ (.bool true):=⟨_,rfl⟩;rw [<-ed] at HB2 eE;go_wp2_with fail;rw [<-ed];clear ed i0 i2 i3 i4 i5 f5;have kc:=uw p s F (S.pY r) w2 HB2.o.d (by show S.puts.length<=_;omega);have UU:∀w',aI w' F p s (S.pY r)->Calls prog 57 #[.pointer (some ⟨p,0,none⟩)] w' λe zn=>e= .returned (.agg (du (S.pY r).reads (S.pY r).writes (S.pY r).flushes (S.pY r).refused (S.pY r).puts.length))/\Below w'.heap.size w' zn:=λw' h=>uw p s F (S.pY r) w' h (by show S.puts.length<=_;omega);generalize (S.pY r).reads=n0 at kc UU;generalize (S.pY r).writes=sR at kc UU;generalize (S.pY r).flushes=FU at kc UU;generalize (S.pY r).refused=Le at kc UU;generalize ((S.pY r).puts.length:Int)=Lf at kc UU;have HKC:=yh UU;clear UU;refine kc.mono ?_;rintro e w3 ⟨rfl,bH⟩;have rS:=bH.size;have gP:=HB2.o.later bH;have lW:=an w3 (.cells (du n0 sR FU Le Lf) 101);have mu:=gP.later lW;have YN:=heap_alloc_new w3 (.cells (du n0 sR FU Le Lf) 101);have wt:(w3.alloc (.cells (du n0 sR FU Le Lf) 101)).heap.size=w3.heap.size+1:=by rw [World.size_alloc]
 have mB:=yh mu;have P7:=yh YN;clear kc bH gP lW mu YN;go_wp2_with fail;refine(Ik t _).mono ?_;rintro e w5 ⟨rfl,Lc⟩;have gc:Below (w3.alloc (.cells (du n0 sR FU Le Lf) 101)).heap.size (w3.alloc (.cells (du n0 sR FU Le Lf) 101)) w5:=by rw [Lc];exact an _ _
 have Pa:w5.heap[w3.heap.size+1]? =some (.cells #[.pointer (some ⟨t,0,none⟩)] 59 (0,0)):=by rw [Lc,<-wt];exact heap_alloc_new _ _
 have ud:w5.heap.size=w3.heap.size+2:=by rw [Lc,World.size_alloc,wt]
 have ue:=mB.o.later gc;have Oe:=(gc.block _ (af P7.o)).trans P7.o;obtain⟨i0,i2,i3,i4,i5⟩:=ue.cells;have f2:=ae ue.b 2;have YM:=ue.set (y2:= .pointer (some ⟨w3.heap.size+1,0,none⟩)) (ad.setCell (F:=λj=>j=kr) w5 (p:=⟨kr,2,none⟩) rfl (.pointer (some ⟨w3.heap.size+1,0,none⟩))) ((heap_setCell_same _ _ 2 _ _ (.pointer (some ⟨w3.heap.size+1,0,none⟩)) ue.b).trans rfl) nk.1 nk.2.1 nk.2.2.1 nk.2.2.2 VU VV YL;have cB:=ad.setCell (F:=λj=>j=kr) w5 (p:=⟨kr,2,none⟩) rfl (.pointer (some ⟨w3.heap.size+1,0,none⟩));have pt:Yh (BG w (w5.setCell ⟨kr,2,none⟩ (.pointer (some ⟨w3.heap.size+1,0,none⟩))) F X kr p s q l m t n k (.pointer (some ⟨w3.heap.size+1,0,none⟩)) x3 S G M r/\(w5.setCell ⟨kr,2,none⟩ (.pointer (some ⟨w3.heap.size+1,0,none⟩))).heap[w3.heap.size]? =some (.cells (du n0 sR FU Le Lf) 101 (0,0))/\(w5.setCell ⟨kr,2,none⟩ (.pointer (some ⟨w3.heap.size+1,0,none⟩))).heap[w3.heap.size+1]? =some (.cells #[.pointer (some ⟨t,0,none⟩)] 59 (0,0))):=⟨YM,(cB.block _ (af Oe) (by omega)).trans Oe,(cB.block _ (af Pa) (by omega)).trans Pa⟩;have VS:(w5.setCell ⟨kr,2,none⟩ (.pointer (some ⟨w3.heap.size+1,0,none⟩))).heap.size=w3.heap.size+2:=by rw [<-ud];simp [World.setCell]
 rw [wt];clear Lc gc Pa ue Oe YM cB mB P7 wt;go_wp2_with fail;refine(Ik t _).mono ?_;rintro e w7 ⟨rfl,A6⟩;have GU:Below (w5.setCell ⟨kr,2,none⟩ (.pointer (some ⟨w3.heap.size+1,0,none⟩))).heap.size (w5.setCell ⟨kr,2,none⟩ (.pointer (some ⟨w3.heap.size+1,0,none⟩))) w7:=by rw [A6];exact an _ _
 have Jq:w7.heap[w3.heap.size+2]? =some (.cells #[.pointer (some ⟨t,0,none⟩)] 59 (0,0)):=by rw [A6,<-VS];exact heap_alloc_new _ _
 have hz7:w7.heap.size=w3.heap.size+3:=by rw [A6,World.size_alloc,VS]
 have sk:=pt.o.1.later GU;have Of:=(GU.block _ (af pt.o.2.1)).trans pt.o.2.1;have UV:=(GU.block _ (af pt.o.2.2)).trans pt.o.2.2;clear i0 i2 i3 i4 i5 f2;obtain⟨i0,i2,i3,i4,i5⟩:=sk.cells;have f3:=ae sk.b 3;have iu:=ad.setCell (F:=λj=>j=kr) w7 (p:=⟨kr,3,none⟩) rfl (.pointer (some ⟨w3.heap.size+2,0,none⟩));have Nx:=sk.set (y2:= .pointer (some ⟨w3.heap.size+1,0,none⟩)) (y3:= .pointer (some ⟨w3.heap.size+2,0,none⟩)) iu ((heap_setCell_same _ _ 3 _ _ (.pointer (some ⟨w3.heap.size+2,0,none⟩)) sk.b).trans rfl) nk.1 nk.2.1 nk.2.2.1 nk.2.2.2 VU VV YL;obtain⟨w8,hw8⟩:∃w8,w8=w7.setCell ⟨kr,3,none⟩ (.pointer (some ⟨w3.heap.size+2,0,none⟩)):=⟨_,rfl⟩;have HB8:Yh (BG w w8 F X kr p s q l m t n k (.pointer (some ⟨w3.heap.size+1,0,none⟩)) (.pointer (some ⟨w3.heap.size+2,0,none⟩)) S G M r/\w8.heap[w3.heap.size]? =some (.cells (du n0 sR FU Le Lf) 101 (0,0))/\w8.heap[w3.heap.size+1]? =some (.cells #[.pointer (some ⟨t,0,none⟩)] 59 (0,0))/\w8.heap[w3.heap.size+2]? =some (.cells #[.pointer (some ⟨t,0,none⟩)] 59 (0,0))):=by
  rw [hw8];exact⟨Nx,(iu.block _ (af Of) (by omega)).trans Of,(iu.block _ (af UV) (by omega)).trans UV,(iu.block _ (af Jq) (by omega)).trans Jq⟩
 have hz8:w8.heap.size=w3.heap.size+3:=by rw [<-hz7,hw8];simp [World.setCell]
 rw [VS];clear A6 GU Jq sk Of UV Nx iu pt;go_wp2_with fail;rw [<-hw8];clear hw8 i0 i2 i3 i4 i5 f3 VS ud hz7;have lQ:Below w8.heap.size w8 w8.drew:=ah (Below.refl _ _);have Pm:=HB8.o.1.later lQ;obtain⟨i0,i2,i3,i4,i5⟩:=Pm.cells;have VW:w8.drew.heap[w3.heap.size]? =some (.cells (du n0 sR FU Le Lf) 101 (0,0)):=HB8.o.2.1;have q0:w8.drew.cell? ⟨w3.heap.size,0,none⟩=some (.int .i64 n0):=aa VW (j:=0) rfl;have q1:w8.drew.cell? ⟨w3.heap.size,1,none⟩=some (.int .i64 sR):=aa VW (j:=1) rfl;have q2:w8.drew.cell? ⟨w3.heap.size,2,none⟩=some (.int .i64 FU):=aa VW (j:=2) rfl;have q3:w8.drew.cell? ⟨w3.heap.size,3,none⟩=some (.int .i64 Le):=aa VW (j:=3) rfl;have q4:w8.drew.cell? ⟨w3.heap.size,4,none⟩=some (.int .i64 Lf):=aa VW (j:=4) rfl;have kd:=HKC.o w8.drew Pm.d;have HBd:=yh Pm;have hzd:w8.drew.heap.size=w3.heap.size+3:=hz8;clear Pm VW HKC;refine wp_region_held_drew (S:=(λw'=>w'.cell? ⟨kr,0,none⟩=some (.pointer (some ⟨p,0,none⟩))/\w'.cell? ⟨kr,2,none⟩=some (.pointer (some ⟨w3.heap.size+1,0,none⟩))/\w'.cell? ⟨kr,3,none⟩=some (.pointer (some ⟨w3.heap.size+2,0,none⟩))/\w'.cell? ⟨w3.heap.size,0,none⟩=some (.int .i64 n0)/\w'.cell? ⟨w3.heap.size,1,none⟩=some (.int .i64 sR)/\w'.cell? ⟨w3.heap.size,2,none⟩=some (.int .i64 FU)/\w'.cell? ⟨w3.heap.size,3,none⟩=some (.int .i64 Le)/\w'.cell? ⟨w3.heap.size,4,none⟩=some (.int .i64 Lf))) (by kernel_rfl) (⟨i0,i2,i3,q0,q1,q2,q3,q4⟩) (λaC=>?_);refine wpAnyH_take (i:=0) (oi:={dst:=some 49,op:=Op.move (Operand.tmp 0),type:=28,pos:= "exact.go:76",after:= #[],guard:=none}) (v:= .pointer (some ⟨kr,0,none⟩)) rfl (by kernel_rfl) (by kernel_rfl) (by kernel_rfl) (λ_ _ _ h=>h) (Or.inl ⟨by rfl,?_⟩) (by assumption) ?_
 .intro w aw
  (try dsimp only at aw)
  go_simp
 try simp only [Act.put,List.setIfInBounds_toArray,List.set_cons_zero,List.set_cons_succ]
 refine wpAnyH_take (i:=1) (oi:={dst:=some 50,op:=Op.move (Operand.tmp 0),type:=28,pos:= "exact.go:76",after:= #[],guard:=none}) (v:= .pointer (some ⟨kr,0,none⟩)) rfl (by kernel_rfl) (by kernel_rfl) (by kernel_rfl) (λ_ _ _ h=>h) (Or.inl ⟨by rfl,?_⟩) (by assumption) ?_
 .intro w aw
  (try dsimp only at aw)
  go_simp
 try simp only [Act.put,List.setIfInBounds_toArray,List.set_cons_zero,List.set_cons_succ]
 refine wpAnyH_take (i:=2) (oi:={dst:=some 51,op:=Op.nilCheck (Operand.tmp 50),type:=0,pos:= "exact.go:76",after:= #[{on:=1,ground:=Ground.data}],guard:=none}) (v:= .pointer (some ⟨kr,0,none⟩)) rfl (by kernel_rfl) (by kernel_rfl) (by kernel_rfl) (λ_ _ _ h=>h) (Or.inl ⟨by rfl,?_⟩) (by assumption) ?_
 .intro w aw
  (try dsimp only at aw)
  go_simp
 try simp only [Act.put,List.setIfInBounds_toArray,List.set_cons_zero,List.set_cons_succ]
 refine wpAnyH_take (i:=3) (oi:={dst:=some 52,op:=Op.fieldAddr 38 (Operand.tmp 51) 2,type:=0,pos:= "exact.go:76",after:= #[{on:=2,ground:=Ground.data}],guard:=none}) (v:= .pointer (some ⟨kr,2,none⟩)) rfl (by kernel_rfl) (by kernel_rfl) (by kernel_rfl) (λ_ _ _ h=>h) (Or.inl ⟨by rfl,?_⟩) (by assumption) ?_
 .intro w aw
  (try dsimp only at aw)
  go_simp
 try simp only [Act.put,List.setIfInBounds_toArray,List.set_cons_zero,List.set_cons_succ]
 refine wpAnyH_take (i:=4) (oi:={dst:=some 53,op:=Op.load 35 (Operand.tmp 52),type:=35,pos:= "exact.go:76",after:= #[{on:=3,ground:=Ground.data}],guard:=none}) (v:= .pointer (some ⟨w3.heap.size+1,0,none⟩)) rfl (by kernel_rfl) (by kernel_rfl) (by kernel_rfl) (λ_ _ _ h=>h) (Or.inl ⟨by rfl,?_⟩) (by assumption) ?_
 .intro w aw
  (try dsimp only at aw)
  go_simp
 try simp only [Act.put,List.setIfInBounds_toArray,List.set_cons_zero,List.set_cons_succ]
 refine wpAnyH_take (i:=5) (oi:={dst:=some 54,op:=Op.binOp BinOp.neq 35 (Operand.tmp 53) (Operand.const (Value.pointer none)) 35,type:=4,pos:= "exact.go:76",after:= #[{on:=4,ground:=Ground.data}],guard:=none}) (v:= .bool true) rfl (by kernel_rfl) (by kernel_rfl) (by kernel_rfl) (λ_ _ _ h=>h) (Or.inl ⟨by rfl,?_⟩) (by assumption) ?_
 .intro w aw
  (try dsimp only at aw)
  go_simp
 try simp only [Act.put,List.setIfInBounds_toArray,List.set_cons_zero,List.set_cons_succ]
 refine wpAnyH_take (i:=6) (oi:={dst:=some 55,op:=Op.move (Operand.tmp 54),type:=4,pos:= "exact.go:76",after:= #[{on:=5,ground:=Ground.data}],guard:=none}) (v:= .bool true) rfl (by kernel_rfl) (by kernel_rfl) (by kernel_rfl) (λ_ _ _ h=>h) (Or.inl ⟨by rfl,?_⟩) (by assumption) ?_
 .intro w aw
  (try dsimp only at aw)
  go_simp
 try simp only [Act.put,List.setIfInBounds_toArray,List.set_cons_zero,List.set_cons_succ]
 refine wpAnyH_take (i:=7) (oi:={dst:=some 56,op:=Op.move (Operand.tmp 0),type:=28,pos:= "exact.go:76",after:= #[{on:=6,ground:=Ground.guard}],guard:=some (6,true)}) (v:= .pointer (some ⟨kr,0,none⟩)) rfl (by kernel_rfl) (by kernel_rfl) (by kernel_rfl) (λ_ _ _ h=>h) (Or.inl ⟨by rfl,?_⟩) (by assumption) ?_
 .intro w aw
  (try dsimp only at aw)
  go_simp
 try simp only [Act.put,List.setIfInBounds_toArray,List.set_cons_zero,List.set_cons_succ]
 refine wpAnyH_take (i:=8) (oi:={dst:=some 57,op:=Op.nilCheck (Operand.tmp 56),type:=0,pos:= "exact.go:76",after:= #[{on:=7,ground:=Ground.data},{on:=6,ground:=Ground.guard}],guard:=some (6,true)}) (v:= .pointer (some ⟨kr,0,none⟩)) rfl (by kernel_rfl) (by kernel_rfl) (by kernel_rfl) (λ_ _ _ h=>h) (Or.inl ⟨by rfl,?_⟩) (by assumption) ?_
 .intro w aw
  (try dsimp only at aw)
  go_simp
 try simp only [Act.put,List.setIfInBounds_toArray,List.set_cons_zero,List.set_cons_succ]
 refine wpAnyH_take (i:=9) (oi:={dst:=some 58,op:=Op.fieldAddr 38 (Operand.tmp 57) 3,type:=0,pos:= "exact.go:76",after:= #[{on:=8,ground:=Ground.data},{on:=6,ground:=Ground.guard}],guard:=some (6,true)}) (v:= .pointer (some ⟨kr,3,none⟩)) rfl (by kernel_rfl) (by kernel_rfl) (by kernel_rfl) (λ_ _ _ h=>h) (Or.inl ⟨by rfl,?_⟩) (by assumption) ?_
 .intro w aw
  (try dsimp only at aw)
  go_simp
 try simp only [Act.put,List.setIfInBounds_toArray,List.set_cons_zero,List.set_cons_succ]
 refine wpAnyH_take (i:=10) (oi:={dst:=some 59,op:=Op.load 35 (Operand.tmp 58),type:=35,pos:= "exact.go:76",after:= #[{on:=9,ground:=Ground.data},{on:=6,ground:=Ground.guard}],guard:=some (6,true)}) (v:= .pointer (some ⟨w3.heap.size+2,0,none⟩)) rfl (by kernel_rfl) (by kernel_rfl) (by kernel_rfl) (λ_ _ _ h=>h) (Or.inl ⟨by rfl,?_⟩) (by assumption) ?_
 .intro w aw
  (try dsimp only at aw)
  go_simp
 try simp only [Act.put,List.setIfInBounds_toArray,List.set_cons_zero,List.set_cons_succ]
 refine wpAnyH_take (i:=11) (oi:={dst:=some 60,op:=Op.binOp BinOp.neq 35 (Operand.tmp 59) (Operand.const (Value.pointer none)) 35,type:=4,pos:= "exact.go:76",after:= #[{on:=10,ground:=Ground.data},{on:=6,ground:=Ground.guard}],guard:=some (6,true)}) (v:= .bool true) rfl (by kernel_rfl) (by kernel_rfl) (by kernel_rfl) (λ_ _ _ h=>h) (Or.inl ⟨by rfl,?_⟩) (by assumption) ?_
 .intro w aw
  (try dsimp only at aw)
  go_simp
 try simp only [Act.put,List.setIfInBounds_toArray,List.set_cons_zero,List.set_cons_succ]
 refine wpAnyH_take (i:=12) (oi:={dst:=some 61,op:=Op.pick (Operand.tmp 55) (Operand.tmp 60) (Operand.const (Value.bool false)),type:=4,pos:= "exact.go:76",after:= #[{on:=6,ground:=Ground.data},{on:=11,ground:=Ground.data}],guard:=none}) (v:= .bool true) rfl (by kernel_rfl) (by kernel_rfl) (by kernel_rfl) (λ_ _ _ h=>h) (Or.inl ⟨by rfl,?_⟩) (by assumption) ?_
 .intro w aw
  (try dsimp only at aw)
  go_simp
 try simp only [Act.put,List.setIfInBounds_toArray,List.set_cons_zero,List.set_cons_succ]
 refine wpAnyH_take (i:=13) (oi:={dst:=some 62,op:=Op.move (Operand.tmp 61),type:=4,pos:= "exact.go:76",after:= #[{on:=12,ground:=Ground.data},{on:=6,ground:=Ground.chain}],guard:=none}) (v:= .bool true) rfl (by kernel_rfl) (by kernel_rfl) (by kernel_rfl) (λ_ _ _ h=>h) (Or.inl ⟨by rfl,?_⟩) (by assumption) ?_
 .intro w aw
  (try dsimp only at aw)
  go_simp
 try simp only [Act.put,List.setIfInBounds_toArray,List.set_cons_zero,List.set_cons_succ]
 refine wpAnyH_take (i:=14) (oi:={dst:=some 63,op:=Op.move (Operand.tmp 0),type:=28,pos:= "exact.go:76",after:= #[{on:=13,ground:=Ground.guard}],guard:=some (13,true)}) (v:= .pointer (some ⟨kr,0,none⟩)) rfl (by kernel_rfl) (by kernel_rfl) (by kernel_rfl) (λ_ _ _ h=>h) (Or.inl ⟨by rfl,?_⟩) (by assumption) ?_
 .intro w aw
  (try dsimp only at aw)
  go_simp
 try simp only [Act.put,List.setIfInBounds_toArray,List.set_cons_zero,List.set_cons_succ]
 refine wpAnyH_take (i:=15) (oi:={dst:=some 64,op:=Op.nilCheck (Operand.tmp 63),type:=0,pos:= "exact.go:76",after:= #[{on:=14,ground:=Ground.data},{on:=13,ground:=Ground.guard}],guard:=some (13,true)}) (v:= .pointer (some ⟨kr,0,none⟩)) rfl (by kernel_rfl) (by kernel_rfl) (by kernel_rfl) (λ_ _ _ h=>h) (Or.inl ⟨by rfl,?_⟩) (by assumption) ?_
 .intro w aw
  (try dsimp only at aw)
  go_simp
 try simp only [Act.put,List.setIfInBounds_toArray,List.set_cons_zero,List.set_cons_succ]
 refine wpAnyH_take (i:=16) (oi:={dst:=some 65,op:=Op.fieldAddr 38 (Operand.tmp 64) 0,type:=0,pos:= "exact.go:76",after:= #[{on:=15,ground:=Ground.data},{on:=13,ground:=Ground.guard}],guard:=some (13,true)}) (v:= .pointer (some ⟨kr,0,none⟩)) rfl (by kernel_rfl) (by kernel_rfl) (by kernel_rfl) (λ_ _ _ h=>h) (Or.inl ⟨by rfl,?_⟩) (by assumption) ?_
 .intro w aw
  (try dsimp only at aw)
  go_simp
 try simp only [Act.put,List.setIfInBounds_toArray,List.set_cons_zero,List.set_cons_succ]
 refine wpAnyH_take (i:=17) (oi:={dst:=some 66,op:=Op.load 33 (Operand.tmp 65),type:=33,pos:= "exact.go:76",after:= #[{on:=16,ground:=Ground.data},{on:=13,ground:=Ground.guard}],guard:=some (13,true)}) (v:= .pointer (some ⟨p,0,none⟩)) rfl (by kernel_rfl) (by kernel_rfl) (by kernel_rfl) (λ_ _ _ h=>h) (Or.inl ⟨by rfl,?_⟩) (by assumption) ?_
 .intro w aw
  (try dsimp only at aw)
  go_simp
 try simp only [Act.put,List.setIfInBounds_toArray,List.set_cons_zero,List.set_cons_succ]
 refine wpAnyH_take (i:=19) (oi:={dst:=some 68,op:=Op.load 101 (Operand.tmp 4),type:=101,pos:= "exact.go:76",after:= #[{on:=13,ground:=Ground.guard}],guard:=some (13,true)}) (v:= .agg #[.int .i64 n0, .int .i64 sR, .int .i64 FU, .int .i64 Le, .int .i64 Lf]) rfl (by kernel_rfl) (by kernel_rfl) (by kernel_rfl) (λ_ _ _ h=>h) (Or.inl ⟨by rfl,?_⟩) (by assumption) ?_
 .intro w aw
  (try dsimp only at aw)
  go_simp
 try simp only [Act.put,List.setIfInBounds_toArray,List.set_cons_zero,List.set_cons_succ]
 refine wpAnyH_ready (rs:= [18]) (by kernel_rfl) (by simp) ?_;refine AllReadyH.cons (o:={dst:=some 67,op:=Op.call {callee:=Callee.value (Operand.func 57),args:= #[Operand.tmp 66],argTypes:= #[33]},type:=101,pos:= "exact.go:76",after:= #[{on:=17,ground:=Ground.data},{on:=13,ground:=Ground.chain},{on:=13,ground:=Ground.guard}],guard:=some (13,true)}) rfl (λK hK=>?_) AllReadyH.nil;go_simp;refine kd.mono ?_;rintro e w9 ⟨rfl,DX⟩;have j0:=cell_later DX i0;have j1:=cell_later DX i2;have j2:=cell_later DX i3;have j3:=cell_later DX q0;have j4:=cell_later DX q1;have j5:=cell_later DX q2;have j6:=cell_later DX q3;have j7:=cell_later DX q4;refine hK.out _ _ ?_ (λaC=>?_)
 .exact⟨j0,j1,j2,j3,j4,j5,j6,j7⟩
 clear hK K;try simp only [Act.put,List.setIfInBounds_toArray,List.set_cons_zero,List.set_cons_succ]
 refine wpAnyH_take (i:=20) (oi:={dst:=some 69,op:=Op.binOp BinOp.eql 101 (Operand.tmp 67) (Operand.tmp 68) 101,type:=4,pos:= "exact.go:76",after:= #[{on:=18,ground:=Ground.data},{on:=19,ground:=Ground.data},{on:=13,ground:=Ground.guard}],guard:=some (13,true)}) (v:= .bool true) rfl (by kernel_rfl) (by kernel_rfl) (by kernel_rfl) (λ_ _ _ h=>h) (Or.inl ⟨by rfl,?_⟩) (by assumption) ?_
 .intro w aw
  (try dsimp only at aw)
  go_simp
 try simp only [Act.put,List.setIfInBounds_toArray,List.set_cons_zero,List.set_cons_succ]
 refine wpAnyH_take (i:=21) (oi:={dst:=some 70,op:=Op.pick (Operand.tmp 62) (Operand.tmp 69) (Operand.const (Value.bool false)),type:=4,pos:= "exact.go:76",after:= #[{on:=13,ground:=Ground.data},{on:=20,ground:=Ground.data}],guard:=none}) (v:= .bool true) rfl (by kernel_rfl) (by kernel_rfl) (by kernel_rfl) (λ_ _ _ h=>h) (Or.inl ⟨by rfl,?_⟩) (by assumption) ?_
 .intro w aw
  (try dsimp only at aw)
  go_simp
 try simp only [Act.put,List.setIfInBounds_toArray,List.set_cons_zero,List.set_cons_succ]
 refine wpAnyH_take (i:=22) (oi:={dst:=some 71,op:=Op.nilCheck (Operand.tmp 49),type:=0,pos:= "exact.go:76",after:= #[{on:=0,ground:=Ground.data},{on:=0,ground:=Ground.phase},{on:=1,ground:=Ground.phase},{on:=2,ground:=Ground.phase},{on:=3,ground:=Ground.phase},{on:=4,ground:=Ground.phase},{on:=5,ground:=Ground.phase},{on:=6,ground:=Ground.phase},{on:=7,ground:=Ground.phase},{on:=8,ground:=Ground.phase},{on:=9,ground:=Ground.phase},{on:=10,ground:=Ground.phase},{on:=11,ground:=Ground.phase},{on:=12,ground:=Ground.phase},{on:=13,ground:=Ground.phase},{on:=14,ground:=Ground.phase},{on:=15,ground:=Ground.phase},{on:=16,ground:=Ground.phase},{on:=17,ground:=Ground.phase},{on:=18,ground:=Ground.phase},{on:=19,ground:=Ground.phase},{on:=20,ground:=Ground.phase},{on:=21,ground:=Ground.phase}],guard:=none}) (v:= .pointer (some ⟨kr,0,none⟩)) rfl (by kernel_rfl) (by kernel_rfl) (by kernel_rfl) (λ_ _ _ h=>h) (Or.inl ⟨by rfl,?_⟩) (by assumption) ?_
 .intro w aw
  (try dsimp only at aw)
  go_simp
 try simp only [Act.put,List.setIfInBounds_toArray,List.set_cons_zero,List.set_cons_succ]
 refine wpAnyH_take (i:=23) (oi:={dst:=some 72,op:=Op.fieldAddr 38 (Operand.tmp 71) 5,type:=0,pos:= "exact.go:76",after:= #[{on:=22,ground:=Ground.data},{on:=0,ground:=Ground.phase},{on:=1,ground:=Ground.phase},{on:=2,ground:=Ground.phase},{on:=3,ground:=Ground.phase},{on:=4,ground:=Ground.phase},{on:=5,ground:=Ground.phase},{on:=6,ground:=Ground.phase},{on:=7,ground:=Ground.phase},{on:=8,ground:=Ground.phase},{on:=9,ground:=Ground.phase},{on:=10,ground:=Ground.phase},{on:=11,ground:=Ground.phase},{on:=12,ground:=Ground.phase},{on:=13,ground:=Ground.phase},{on:=14,ground:=Ground.phase},{on:=15,ground:=Ground.phase},{on:=16,ground:=Ground.phase},{on:=17,ground:=Ground.phase},{on:=18,ground:=Ground.phase},{on:=19,ground:=Ground.phase},{on:=20,ground:=Ground.phase},{on:=21,ground:=Ground.phase}],guard:=none}) (v:= .pointer (some ⟨kr,5,none⟩)) rfl (by kernel_rfl) (by kernel_rfl) (by kernel_rfl) (λ_ _ _ h=>h) (Or.inl ⟨by rfl,?_⟩) (by assumption) ?_
 .intro w aw
  (try dsimp only at aw)
  go_simp
 try simp only [Act.put,List.setIfInBounds_toArray,List.set_cons_zero,List.set_cons_succ]
 have Mf:=HBd.o.later DX;have f5:=ae Mf.b 5;have c5:w9.cell? ⟨kr,5,none⟩=some (.bool true):=aa Mf.b (j:=5) rfl;have Ew:=ad.setCell (F:=λj=>j=kr) w9 (p:=⟨kr,5,none⟩) rfl (.bool true);have hs9:=Mf.set (y2:= .pointer (some ⟨w3.heap.size+1,0,none⟩)) (y3:= .pointer (some ⟨w3.heap.size+2,0,none⟩)) Ew ((heap_setCell_same _ _ 5 _ _ (.bool true) Mf.b).trans rfl) nk.1 nk.2.1 nk.2.2.1 nk.2.2.2 VU VV YL;obtain⟨u0,u2,u3,u4,u5⟩:=hs9.cells;have tM:∀(g i:Nat) (v:Value),g≠kr->w9.cell? ⟨g,i,none⟩=some v->(w9.setCell ⟨kr,5,none⟩ (.bool true)).cell? ⟨g,i,none⟩=some v:=λg i v hg hc=>by rw [World.cell?_of_block (Ew.block g (World.block_lt_of_cell? _ _ hc) hg)];exact hc
 have gk:w3.heap.size≠kr:=by omega
 have VX:Yh ((w9.setCell ⟨kr,5,none⟩ (.bool true)).cell? ⟨w3.heap.size,0,none⟩=some (.int .i64 n0)/\(w9.setCell ⟨kr,5,none⟩ (.bool true)).cell? ⟨w3.heap.size,1,none⟩=some (.int .i64 sR)/\(w9.setCell ⟨kr,5,none⟩ (.bool true)).cell? ⟨w3.heap.size,2,none⟩=some (.int .i64 FU)/\(w9.setCell ⟨kr,5,none⟩ (.bool true)).cell? ⟨w3.heap.size,3,none⟩=some (.int .i64 Le)/\(w9.setCell ⟨kr,5,none⟩ (.bool true)).cell? ⟨w3.heap.size,4,none⟩=some (.int .i64 Lf)):=⟨tM _ _ _ gk j3,tM _ _ _ gk j4,tM _ _ _ gk j5,tM _ _ _ gk j6,tM _ _ _ gk j7⟩;have hz9:=DX.size;have mp:∀g,w3.heap.size<g->∀o,w8.drew.heap[g]? =some o->(w9.setCell ⟨kr,5,none⟩ (.bool true)).heap[g]? =some o:=λg hg o ho=>(Ew.block g (Nat.lt_of_lt_of_le (Array.getElem?_eq_some_iff.1 ho).1 hz9) (by omega)).trans ((DX.block g (Array.getElem?_eq_some_iff.1 ho).1).trans ho);have HP:Yh ((w9.setCell ⟨kr,5,none⟩ (.bool true)).heap[w3.heap.size+1]? =some (.cells #[.pointer (some ⟨t,0,none⟩)] 59 (0,0))/\(w9.setCell ⟨kr,5,none⟩ (.bool true)).heap[w3.heap.size+2]? =some (.cells #[.pointer (some ⟨t,0,none⟩)] 59 (0,0))):=⟨mp _ (by omega) _ HB8.o.2.2.1,mp _ (by omega) _ HB8.o.2.2.2⟩;have YO:=yh hs9;clear tM mp hs9 Ew Mf j0 j1 j2 j3 j4 j5 j6 j7;refine wpAnyH_ready (rs:= [24]) (by kernel_rfl) (by simp) ?_;refine AllReadyH.cons (o:={dst:=none,op:=Op.store 4 (Operand.tmp 72) (Operand.tmp 70),type:=0,pos:= "exact.go:76",after:= #[{on:=23,ground:=Ground.data},{on:=21,ground:=Ground.data},{on:=18,ground:=Ground.chain},{on:=0,ground:=Ground.phase},{on:=1,ground:=Ground.phase},{on:=2,ground:=Ground.phase},{on:=3,ground:=Ground.phase},{on:=4,ground:=Ground.phase},{on:=5,ground:=Ground.phase},{on:=6,ground:=Ground.phase},{on:=7,ground:=Ground.phase},{on:=8,ground:=Ground.phase},{on:=9,ground:=Ground.phase},{on:=10,ground:=Ground.phase},{on:=11,ground:=Ground.phase},{on:=12,ground:=Ground.phase},{on:=13,ground:=Ground.phase},{on:=14,ground:=Ground.phase},{on:=15,ground:=Ground.phase},{on:=16,ground:=Ground.phase},{on:=17,ground:=Ground.phase},{on:=18,ground:=Ground.phase},{on:=19,ground:=Ground.phase},{on:=20,ground:=Ground.phase},{on:=21,ground:=Ground.phase}],guard:=none}) rfl (λK hK=>?_) AllReadyH.nil;go_simp;refine hK.out _ _ ?_ (λaC=>?_)
 .exact⟨u0,u2,u3,VX.o.1,VX.o.2.1,VX.o.2.2.1,VX.o.2.2.2.1,VX.o.2.2.2.2⟩
 clear hK K;try simp only [Act.put,List.setIfInBounds_toArray,List.set_cons_zero,List.set_cons_succ]
 refine wpAnyH_done (by kernel_rfl) ?_ _;clear aC c5 f5 u0 u2 u3 u4 u5 i0 i2 i3 i4 i5 q0 q1 q2 q3 q4 kd DX;obtain⟨Il,Q7⟩:∃Il,Il=w9.setCell ⟨kr,5,none⟩ (.bool true):=⟨_,rfl⟩;rw [<-Q7] at HP YO;rw [<-Q7];have aiz:Il.heap.size=w9.heap.size:=by rw [Q7];simp [World.setCell]
 clear Q7 VX;obtain⟨i0,i2,i3,i4,i5⟩:=YO.o.cells;have p1c:Il.cell? ⟨w3.heap.size+1,0,none⟩=some (.pointer (some ⟨t,0,none⟩)):=aa HP.o.1 (j:=0) rfl;have p2c:Il.cell? ⟨w3.heap.size+2,0,none⟩=some (.pointer (some ⟨t,0,none⟩)):=aa HP.o.2 (j:=0) rfl;have f5:=ae YO.o.b 5;have xp:=ad.setCell (F:=λj=>j=kr) Il (p:=⟨kr,5,none⟩) rfl (.bool true);have Q9:=YO.o.set (y2:= .pointer (some ⟨w3.heap.size+1,0,none⟩)) (y3:= .pointer (some ⟨w3.heap.size+2,0,none⟩)) xp ((heap_setCell_same _ _ 5 _ _ (.bool true) YO.o.b).trans rfl) nk.1 nk.2.1 nk.2.2.1 nk.2.2.2 VU VV YL;have ha1:=(xp.block _ (af HP.o.1) (by omega)).trans HP.o.1;have ha2:=(xp.block _ (af HP.o.2) (by omega)).trans HP.o.2;obtain⟨VY,Rc⟩:∃VY,VY=Il.setCell ⟨kr,5,none⟩ (.bool true):=⟨_,rfl⟩;rw [<-Rc] at Q9 ha1 ha2;have aiC:VY.heap.size=Il.heap.size:=by rw [Rc];simp [World.setCell]
 obtain⟨g1,c1,g2,c2,g3,c3,g4,c4,v5,v6,v7,FV⟩:=Q9.mm;have hXw:∀j,X j->j<VY.heap.size:=λj hj=>by have:=hX j hj;omega
 have kb:=FK FV hXw hn;have Vz:=FV.xk;have ado:=yh Q9;have Re:=yh (And.intro ha1 ha2);clear Q9 ha1 ha2 xp FV;go_wp2_with fail;rw [<-Rc];clear Rc;refine kb.mono ?_;rintro e Sw ⟨rfl,g3',c3',g4',c4',VP,YP,tZ⟩;have aiI:=tZ.size;have hB:=ado.o;have nx:=HXa.o;obtain⟨y1,y2,y3,y4,y5⟩:=nx k Vz;have rP:=hX k Vz;have Ym:∀j,more X VY Sw j->X j\/w.heap.size<=j:=λj hj=>hj.imp (λh=>h) (λh=>by omega);have d12:aI Sw F p s (S.pY r):=hB.d.ak tZ (λj hj e=>y1 (e▸hj));have YQ:lT Sw q p l m G.y true:=hB.st.ak tZ (λe=>y2 e.symm);have EO:=(tZ.block _ (af hB.b) (λe=>y5 e.symm)).trans hB.b;have YR:=(tZ.block _ (af hB.tx) (λe=>by omega)).trans hB.tx;have YS:=hB.cn.ak tZ (λe=>by omega);have a12:=(tZ.block _ (af Re.o.1) (by omega)).trans Re.o.1;have a22:=(tZ.block _ (af Re.o.2) (by omega)).trans Re.o.2;have hs:=ig.o;have YT:ip Sw F p s cR q l m S {G with busy:=true}:=⟨⟨r,d12,HRb.o⟩,YQ,hB.lp.ak tZ (λe=>y3 e.symm),hB.ch.ak tZ (λe=>y4 e.symm),hs.nq,hs.nl,hs.nm,hs.ql,hs.qm,hs.lm,hs.lk,hs.bg,hs.hs,hs.kb⟩;have htW:lU Sw F q l m t n {G with busy:=true} ⟨[],0,false⟩:=⟨YR,YS,λhx=>by have:=aS _ hx;omega,λhx=>by have:=aS _ hx;omega,by omega,by omega,by omega,htn,by omega,by omega,by omega,λx hx=>by cases hx⟩;have no:∀g,w3.heap.size<=g->g≠t->g≠n->¬cq F t n g:=λg hg h1 h2 hx=>by
  rcases hx with hx|hx|hx
  .have:=aS _ hx;omega
  .exact h1 hx
  .exact h2 hx
 have HE:Yh (∃t n a1 a2 X',jY Sw F X' kr p s cR q l m t n a1 a2 k S {G with busy:=true} ⟨[],0,false⟩ M.begun/\(∀j,X' j->X j\/w.heap.size<=j)/\ad (λj=>j=kr\/j=q\/j=k) w Sw/\w.heap.size<=t/\w.heap.size<=n/\w.heap.size<=a1/\w.heap.size<=a2):=by
  refine⟨t,n,w3.heap.size+1,w3.heap.size+2,more X VY Sw,⟨EO,⟨YT,htW,ey,uj,hyk⟩,⟨a12,no _ (by omega) (by omega) (by omega)⟩,⟨a22,no _ (by omega) (by omega) (by omega)⟩,⟨g1,c1,g2,c2,g3',c3',g4',c4',v5,VP,_,YP⟩,λj hj=>?_,⟨nk.1,nk.2.1,nk.2.2.1,nk.2.2.2,VU,VV⟩,λj hj=>?_⟩,Ym,(hB.kp.mono (λj e=>e.imp (λh=>h) (λh=> .inl h))).trans tZ (λj e=> .inl (.inr (.inr e))),ht1,oI,by omega,by omega⟩
  .rcases hj with hj|hj
   .have:=hX j hj;omega
   .exact hj.2
  .rcases hj with hj|hj
   .obtain⟨z1,z2,z3,z4,z5⟩:=nx j hj;have:=hX j hj;exact⟨z1,z2,z3,z4,by omega,by omega,z5,by omega,by omega⟩
   .exact⟨λhf=>by have:=aS _ hf;omega,by omega,by omega,by omega,by omega,by omega,by omega,by omega,by omega⟩
 clear hB nx d12 YQ EO YR YS a12 a22 hs YT htW no Ym YP tZ kb i0 i2 i3 i4 i5 p1c p2c f5;go_wp2
 go_end0
 exact⟨rfl,HE.o⟩
theorem Rf {a b c:Nat} (hg:vy a b c):co (gq a b c)=⟨b,3+b,a-(3+b),c,2+c / 4⟩:=by
 obtain⟨_,h1,h2,h3⟩:=Dt hg;have ny:iI.length=8:=rfl;obtain⟨⟨g1,g2⟩,⟨g3,g4⟩,g5,g6,g7⟩:=hg;have hp:∀q m,q+m<=508->part (eT (bV a b c)) q m=part (bV a b c) q m:=λq m h=>eV _ _ _ _ (by rw [eC];exact h);have q16:u32 (eT (bV a b c)) 16=c:=by
  unfold u32;rw [hp 16 4 (by omega)];unfold bV;rw [eV _ _ _ _ (by simp only [List.length_append,aP,ny];omega),mi _ _ _ _ (by simp only [List.length_append,aP,ny]),uo,sQ _ _ (by omega)]
 unfold co at h1 h2 h3⊢
 dsimp only at h1 h2 h3
 have adp:u32 (gq a b c) 16=c:=q16;rw [adp,h3,h1]
theorem Gy {s j:Nat} (hj:j<s):(DS.fresh (List.replicate (s*512) 0)).now j=zs 512:=by
 show gW (List.replicate (s*512) 0) j=zs 512;unfold gW zs;rw [List.drop_replicate,List.take_replicate];congr 1;have:(j+1)*512<=s*512:=Nat.mul_le_mul_right _ hj;omega
structure Sx (S:DS) (g:Ld):Prop where
 c:(cZ S g.s g.s g.l g.n).1=0
 f:(cZ S g.s g.s g.l g.n).2.fuse= -1
 i:V.Inv (cZ S g.s g.s g.l g.n).2 g.s [] 3
 u:pD ((cZ S g.s g.s g.l g.n).2.now 0) g.s
 y:co ((cZ S g.s g.s g.l g.n).2.now 0)=⟨g.l,3+g.l,g.s-(3+g.l),g.n,2+g.n / 4⟩
 n:bG (cZ S g.s g.s g.l g.n).2 1=(1,0,0)
 z:∀j,3<=j->j<g.s->(cZ S g.s g.s g.l g.n).2.now j=zs 512
theorem Og {S:DS} {g:Ld} (hg:vy g.s g.l g.n) (dw:S.Ok g.s) (ey:S.fL) (hp:S.puts.length=0) (hf:S.fuse= -1) (hl:S.life=1) (hz:∀j,j<g.s->S.now j=zs 512):Sx S g:=by
 obtain⟨a1,a2,a3,a4,a5,a6,a7⟩:=AN (a:=g.s) (b:=g.l) (c:=g.n) dw ey hf (by omega) (by omega) hg hz;obtain⟨b1,b2,b3,b4⟩:=Dt hg;have hi:V.Inv S g.s [] 1:=V.Inv.zero dw ey hp (by omega) (by omega);exact⟨a1,a2,hi.ada (by omega) g.s g.l g.n,by rw [a5];exact b1,by rw [a5];exact Rf hg,a6,a7⟩
abbrev Oh (g:Ld):LY:=⟨g.l,3+g.l,g.s-(3+g.l),g.n,2+g.n / 4⟩
theorem UW {g:Ld} (h1:g.s<=2048) (h2:g.n<=1024) (h3:3+g.l+2+g.n / 4+1<=g.s):CJ (Oh g):=
   ⟨by show 2<=g.s-(3+g.l);omega,by show g.s-(3+g.l)<=2048;omega,by show 2+g.n / 4<=g.s-(3+g.l);omega,by show g.n<=4096;omega⟩
abbrev MP.new (g:Ld):MP:=⟨g.s-3-g.l,g.n,List.replicate 4096 false,List.replicate 4096 false,List.replicate 4096 false,List.replicate 4096 false,List.replicate (g.s-3-g.l) (zs 512), [], [],0,false,false⟩
section
theorem Rg {k:pg} (hk:k.Ok) {x:Int} (h1:¬x<(k.first:Int)) (h2:¬(k.first:Int)+(k.bf:Int)-1<x):x.toNat-k.zero<4096/\wrap64 (x-(k.zero:Int))=((x.toNat-k.zero:Nat):Int):=by
 have h3:=hk.lo;have h4:=hk.hi;have h5:=hk.z;exact⟨by omega,(gI (by omega) (by omega)).trans (by omega)⟩
theorem FW {v:Value} (x:Int) (h:x≠0):CK x v (.panicked (iD x)):=by unfold CK;rw [if_neg h]
section
variable {w w':World} {F:Nat->Prop} {p s cR q l m t n a:Nat} {S:DS} {G:SG} {T:TG}
theorem mZ (h:TX w F p s cR q l m t n S G T) (k:pg) (hk:k.Ok) (h0:T.state G S=0):T.refusal G S k.bm=0:=by
 have h1:=hk.bm;have h2:=h.yk.b2;unfold TG.refusal;rw [if_neg (λe=>e h0),if_neg (by omega)]
theorem Oi (h:TX w F p s cR q l m t n S G T) (hp:ar w F a t n) (k:pg) (x:Int) (h0:T.state G S≠0):
  Calls prog 115 #[.pointer (some ⟨a,0,none⟩),fe k, .int .i64 x] w λe w'=>e= .panicked (iD (T.state G S))/\Below w.heap.size w w':=by
 have aH:=an w (iE k);have c0:=(hp.later aH).c0;have h1:=gg (h.later aH).st (h.later aH).tx;have h2:=λw=>sK w (T.state G S) h0;have HB:=yh aH;generalize T.state G S=R at*;clear h hp aH h0;unfold iE at*;go_enter func115,ntmps115;go_wp2_with fail;refine h1.mono ?_;rintro e w2 ⟨rfl,aG⟩;clear h1;go_wp2_with fail;refine(h2 w2).mono ?_;rintro e w3 ⟨rfl,rfl⟩;exact⟨rfl,rfl,HB.o.trans (aG.mono HB.o.size)⟩
theorem Oj (h:TX w F p s cR q l m t n S G T) (hp:ar w F a t n) (k:pg) (x:Int) (h0:T.state G S=0) (hx:x<(k.first:Int)):
  Calls prog 115 #[.pointer (some ⟨a,0,none⟩),fe k, .int .i64 x] w λe w'=>e= .panicked (iD 11)/\Below w.heap.size w w':=by
 have aH:=an w (iE k);have bw:(w.alloc (iE k)).heap[w.heap.size]? =some (.cells #[.int .i64 (k.bm:Int), .int .i64 (k.zero:Int), .int .i64 (k.first:Int), .int .i64 ((k.first:Int)+(k.bf:Int)-1), .int .i64 k.no] 61 (0,0)):=heap_alloc_new _ _;have c0:=(hp.later aH).c0;have h1:=gg (h.later aH).st (h.later aH).tx;rw [h0] at h1;have HB:=yh aH;have mI:=yh bw;clear h hp aH h0 bw;unfold iE at*;go_enter func115,ntmps115;go_wp2_with fail;refine h1.mono ?_;rintro e w2 ⟨rfl,aG⟩;obtain⟨d0,d1,d2,d3,d4⟩:=gR ((aG.block _ (af mI.o)).trans mI.o);have HB2:Yh (Below w.heap.size w w2):=HB.o.trans (aG.mono HB.o.size);clear h1 aG;go_wp2_with fail;refine(mc w2).mono ?_;rintro e w3 ⟨rfl,kB⟩;subst kB;go_wp2_with fail;refine(vB w3 11).mono ?_;rintro e w4 ⟨rfl,rfl⟩;exact⟨rfl,rfl,HB2.o⟩
theorem Ol (h:TX w F p s cR q l m t n S G T) (hp:ar w F a t n) (k:pg) (x:Int) (h0:T.state G S=0) (hx:¬x<(k.first:Int)) (hy:(k.first:Int)+(k.bf:Int)-1<x):
  Calls prog 115 #[.pointer (some ⟨a,0,none⟩),fe k, .int .i64 x] w λe w'=>e= .panicked (iD 11)/\Below w.heap.size w w':=by
 have aH:=an w (iE k);have bw:(w.alloc (iE k)).heap[w.heap.size]? =some (.cells #[.int .i64 (k.bm:Int), .int .i64 (k.zero:Int), .int .i64 (k.first:Int), .int .i64 ((k.first:Int)+(k.bf:Int)-1), .int .i64 k.no] 61 (0,0)):=heap_alloc_new _ _;have c0:=(hp.later aH).c0;have h1:=gg (h.later aH).st (h.later aH).tx;rw [h0] at h1;have HB:=yh aH;have mI:=yh bw;clear h hp aH h0 bw;unfold iE at*;go_enter func115,ntmps115;go_wp2_with fail;refine h1.mono ?_;rintro e w2 ⟨rfl,aG⟩;obtain⟨d0,d1,d2,d3,d4⟩:=gR ((aG.block _ (af mI.o)).trans mI.o);have HB2:Yh (Below w.heap.size w w2):=HB.o.trans (aG.mono HB.o.size);clear h1 aG;go_wp2_with fail;refine(mc w2).mono ?_;rintro e w3 ⟨rfl,kB⟩;subst kB;generalize (k.first:Int)+(k.bf:Int)-1=L at*;go_wp2_with fail;refine(vB w3 11).mono ?_;rintro e w4 ⟨rfl,rfl⟩;exact⟨rfl,rfl,HB2.o⟩
theorem Om (h:TX w F p s cR q l m t n S G T) (hp:ar w F a t n) (k:pg) (hk:k.Ok) (x:Int) (h0:T.state G S=0) (hx:¬x<(k.first:Int)) (hy:¬(k.first:Int)+(k.bf:Int)-1<x) (y:Bool) (RU:cy (T.bq G S k.bm) (x.toNat-k.zero)=y):
  Calls prog 115 #[.pointer (some ⟨a,0,none⟩),fe k, .int .i64 x] w λe w'=>(y=false->e= .panicked (iD 62)/\TX w' F p s (cR+2) q l m t n S G T)/\(y=true->CK (T.put G S k.bm (bv (T.bq G S k.bm) (x.toNat-k.zero))).1 (.tuple #[]) e/\TX w' F p s (cR+2) q l m t n S G (T.put G S k.bm (bv (T.bq G S k.bm) (x.toNat-k.zero))).2)/\ad (cq F t n) w w':=by
 have aH:=an w (iE k);have bw:(w.alloc (iE k)).heap[w.heap.size]? =some (.cells #[.int .i64 (k.bm:Int), .int .i64 (k.zero:Int), .int .i64 (k.first:Int), .int .i64 ((k.first:Int)+(k.bf:Int)-1), .int .i64 k.no] 61 (0,0)):=heap_alloc_new _ _;have c0:=(hp.later aH).c0;have h1:=gg (h.later aH).st (h.later aH).tx;rw [h0] at h1;have HG:Yh (∀w2,Below w.heap.size w w2->Calls prog 145 #[.pointer (some ⟨a,0,none⟩),fe k] w2 λe w'=>∃g,e= .returned (.slice (some ⟨g,0,none⟩) 512 512)/\w2.heap.size<=g/\gA w' 113 g (T.bq G S k.bm)/\TX w' F p s (cR+1) q l m t n S G T/\ad F w2 w'):=λw2 hb=>Ar (h.later hb) (hp.later hb) k (mZ h k hk h0);have Fs:k.bm<G.y.blocks:=by have:=hk.bm;have:=h.yk.b2;omega
 have hlen:=h.len k.bm Fs;have jS:=h.bytes k.bm;obtain⟨yD,Fh⟩:=Rg hk hx hy;obtain⟨b,hb⟩:∃b,b=x.toNat-k.zero:=⟨_,rfl⟩;rw [<-hb] at RU yD Fh;rw [<-hb];obtain⟨d,hd⟩:∃d,d=T.bq G S k.bm:=⟨_,rfl⟩;rw [<-hd] at RU hlen jS HG;rw [<-hd];have HB:=yh aH;have mI:=yh bw;have HP:=yh hp;have rn:=yh h.low;have XL:=yh h.st.d.lt;have gh:=hp.lt;have HL:=yh (And.intro hlen jS);clear h hp aH h0 bw Fs hb hd hlen jS;unfold iE at*;go_enter func115,ntmps115;go_wp2_with fail;refine h1.mono ?_;rintro e w2 ⟨rfl,aG⟩;have jW:=(aG.block _ (af mI.o)).trans mI.o;obtain⟨d0,d1,d2,d3,d4⟩:=gR jW;have HB2:Yh (Below w.heap.size w w2):=HB.o.trans (aG.mono HB.o.size);have J2:=yh jW;clear h1 aG jW HB mI;go_wp2_with fail;refine(mc w2).mono ?_;rintro e w3 ⟨rfl,kB⟩;subst kB;obtain⟨L,hL⟩:∃L:Int,L=(k.first:Int)+(k.bf:Int)-1:=⟨_,rfl⟩;have hg:=HG.o w3 HB2.o;have bu:fe k= .agg #[.int .i64 (k.bm:Int), .int .i64 (k.zero:Int), .int .i64 (k.first:Int), .int .i64 L, .int .i64 k.no]:=by rw [hL]
 rw [bu] at hg;rw [<-hL] at d3 hy;have HLL:=yh hL;clear hL bu;have qd:(decide (x<(k.first:Int)) || decide (L<x))=false:=by rw [decide_eq_false (by omega),decide_eq_false (by omega)];rfl
 go_wp2_with fail;clear qd;refine(CH w3 11).mono ?_;rintro e w4 ⟨rfl,mD⟩;subst mD;go_wp2_with fail;refine hg.mono ?_;rintro e w5 ⟨g,rfl,hgs,aA,rW,cB⟩;have tW:¬F w.heap.size:=λhf=>by have:=XL.o _ hf;omega
 have k9:=(cB.block _ (af J2.o) tW).trans J2.o;obtain⟨om,c1,c2,c3,c4⟩:=gR k9;have Sb:w.heap.size<g:=by have:=af J2.o;omega
 have G0:Yh (ad F w w5):=(ad.ag F HB2.o).trans cB (λ_ h=> .inl h);have O4:=yh rW;have YU:=yh k9;have h3:=qo (c:=512) aA HL.o.1 HL.o.2 b yD;rw [RU] at h3;have HBK:=yh aA;clear hg aA rW cB k9 hgs d0 d1 d2 d3 d4;go_wp2_with fail;refine h3.mono ?_;rintro e w6 ⟨rfl,NY⟩;subst NY;clear h3;cases y
 .go_wp2_with fail;refine(vB w6 62).mono ?_;rintro e w7 ⟨rfl,rfl⟩;exact⟨rfl,λ_=>⟨rfl,O4.o.le (by omega)⟩,(λh=>by cases h),G0.o.mono (λ_ h=> .inl h)⟩
 .go_wp2_with fail;refine(CH w6 62).mono ?_;rintro e w7 ⟨rfl,A6⟩;subst A6;have h4:=sL (c:=512) HBK.o HL.o.1 HL.o.2 b yD;go_wp2_with fail;refine h4.mono ?_;rintro e w8 ⟨rfl,YV,lN⟩;have Sy:TX w8 F p s (cR+1) q l m t n S G T:=O4.o.side rn.o lN (λz hz=>by omega);have hp8:ar w8 F a t n:=by
   have Jq:=HP.o.ak (G0.o.mono (λ_ h=> .inl h));exact⟨(lN.block a Jq.lt (by omega)).trans Jq.b,Jq.nf⟩
  have YW:=(lN.block _ (af YU.o) (by omega)).trans YU.o;obtain⟨e0,e1,e2,e3,e4⟩:=gR YW;have h5:=rm (c:=512) Sy hp8 k YV (jm.trans HL.o.1) (jb HL.o.2);have Mz:Yh (ad (cq F t n) w w8):=(G0.o.mono (λ_ h=> .inl h)).trans lN (λz hz=> .inr (by omega));rw [<-HLL.o] at e3;have bu:fe k= .agg #[.int .i64 (k.bm:Int), .int .i64 (k.zero:Int), .int .i64 (k.first:Int), .int .i64 L, .int .i64 k.no]:=by rw [HLL.o]
  rw [bu] at h5;clear h4 YV lN Sy hp8 YW bu;go_wp2_with fail;refine h5.mono ?_;rintro e w9 ⟨iF,Sz,Ew⟩;have HE:Yh (TX w9 F p s (cR+2) q l m t n S G (T.put G S k.bm (bv d b)).2/\ad (cq F t n) w w9):=⟨Sz,Mz.o.trans Ew (λ_ h=> .inl h)⟩;clear h5 Sz Ew;unfold CK at iF;by_cases hr:(T.put G S k.bm (bv d b)).1=0
  .rw [if_pos hr] at iF;subst iF;have HR:=yh hr;clear hr;go_wp2
   go_end0
   exact⟨⟨by unfold CK;rw [if_pos HR.o],HE.o.1⟩,HE.o.2⟩
  .rw [if_neg hr] at iF;subst iF;exact⟨rfl,(λh=>by cases h),λ_=>⟨by unfold CK;rw [if_neg hr],HE.o.1⟩,HE.o.2⟩
theorem yR (h:TX w F p s cR q l m t n S G T) (hp:ar w F a t n) (k:pg) (hk:k.Ok) (x:Int):
  Calls prog 115 #[.pointer (some ⟨a,0,none⟩),fe k, .int .i64 x] w λe w'=>CK (T.cE G S k x).1 (.tuple #[]) e/\TX w' F p s (cR+2) q l m t n S G (T.cE G S k x).2/\ad (cq F t n) w w':=by
 by_cases h0:T.state G S=0
 .by_cases hx:x<(k.first:Int)
  .have e:T.cE G S k x=(11,T):=(by unfold TG.cE;rw [if_neg (λe=>e h0),if_pos (.inl hx)]);rw [e];refine(Oj h hp k x h0 hx).mono ?_;rintro e w' ⟨rfl,hb⟩;exact⟨FW _ (by simp),(h.later hb).le (by omega),ad.ag _ hb⟩
  .by_cases hy:(k.first:Int)+(k.bf:Int)-1<x
   .have e:T.cE G S k x=(11,T):=(by unfold TG.cE;rw [if_neg (λe=>e h0),if_pos (.inr hy)]);rw [e];refine(Ol h hp k x h0 hx hy).mono ?_;rintro e w' ⟨rfl,hb⟩;exact⟨FW _ (by simp),(h.later hb).le (by omega),ad.ag _ hb⟩
   .have hr:=mZ h k hk h0;have e:T.cE G S k x=if cy (T.bq G S k.bm) (x.toNat-k.zero)=false then (62,T) else T.put G S k.bm (bv (T.bq G S k.bm) (x.toNat-k.zero)):=by
     unfold TG.cE;rw [if_neg (λe=>e h0),if_neg (λe=>e.elim hx hy),if_neg (λe=>e hr)]
    rw [e];refine(Om h hp k hk x h0 hx hy _ rfl).mono ?_;rintro e w' ⟨g1,g2,g3⟩;by_cases hb:cy (T.bq G S k.bm) (x.toNat-k.zero)=false
    .rw [if_pos hb];obtain⟨rfl,hx⟩:=g1 hb;exact⟨FW _ (by simp),hx,g3⟩
    .rw [if_neg hb];obtain⟨h1,h2⟩:=g2 (by simpa using hb);exact⟨h1,h2,g3⟩
 .have e:T.cE G S k x=(T.state G S,T):=by unfold TG.cE;rw [if_pos h0]
  rw [e];refine(Oi h hp k x h0).mono ?_;rintro e w' ⟨rfl,hb⟩;exact⟨by unfold CK;rw [if_neg h0],(h.later hb).le (by omega),ad.ag _ hb⟩
end
end
section
def lH (d:List Int) (i:Nat):Nat->Nat
 |0=>0
 |n+1=>lH d i n+(if cy d (i+n)=false then 1 else 0)
theorem OY (d:List Int) (i n:Nat):lH d i n<=n:=by
 induction n with
 |zero=>exact Nat.le_refl _
 |succ n ih=>unfold lH;split <;> omega
def TG.oz (T:TG) (G:SG) (S:DS) (k:pg):Nat:=lH (T.bq G S k.bm) (k.first-k.zero) k.bf
theorem UX {c:Nat} (h:c<=4096):wrap64 ((c:Int)+1)=((c+1:Nat):Int):=(gI (by omega) (by omega)).trans (by omega)
section
variable {w w':World} {F:Nat->Prop} {p s cR q l m t n a:Nat} {S:DS} {G:SG} {T:TG}
theorem On (h:TX w F p s cR q l m t n S G T) (hp:ar w F a t n) (k:pg) (h0:T.refusal G S k.bm≠0):
  Calls prog 119 #[.pointer (some ⟨a,0,none⟩),fe k] w λe w'=>e= .panicked (iD (T.refusal G S k.bm))/\TX w' F p s (cR+1) q l m t n S G T/\ad F w w':=by
 have aH:=an w (iE k);have bw:(w.alloc (iE k)).heap[w.heap.size]? =some (.cells #[.int .i64 (k.bm:Int), .int .i64 (k.zero:Int), .int .i64 (k.first:Int), .int .i64 ((k.first:Int)+(k.bf:Int)-1), .int .i64 k.no] 61 (0,0)):=heap_alloc_new _ _;have h1:=Hw (h.later aH) (hp.later aH) k h0;have HB:=yh aH;generalize T.refusal G S k.bm=R at*;clear h hp aH bw h0;unfold iE at*;go_enter func119,ntmps119;go_wp2_with fail;refine h1.mono ?_;rintro e w2 ⟨rfl,dV,aK⟩;exact⟨rfl,rfl,dV,(ad.ag F HB.o).trans aK (λ_ h=> .inl h)⟩
theorem Dz (h:TX w F p s cR q l m t n S G T) (hp:ar w F a t n) (k:pg) (hk:k.Ok) (h0:T.refusal G S k.bm=0):
  Calls prog 119 #[.pointer (some ⟨a,0,none⟩),fe k] w λe w'=>e= .returned (.int .i64 (T.oz G S k:Int))/\TX w' F p s (cR+1) q l m t n S G T/\ad F w w':=by
 have aH:=an w (iE k);have bw:(w.alloc (iE k)).heap[w.heap.size]? =some (.cells #[.int .i64 (k.bm:Int), .int .i64 (k.zero:Int), .int .i64 (k.first:Int), .int .i64 ((k.first:Int)+(k.bf:Int)-1), .int .i64 k.no] 61 (0,0)):=heap_alloc_new _ _;have h1:=Ar (h.later aH) (hp.later aH) k h0;have Fs:k.bm<G.y.blocks:=by have:=hk.bm;have:=h.yk.b2;omega
 have hlen:=h.len k.bm Fs;have jS:=h.bytes k.bm;have hR:T.oz G S k=lH (T.bq G S k.bm) (k.first-k.zero) k.bf:=rfl;obtain⟨R,CS⟩:∃R,R=T.oz G S k:=⟨_,rfl⟩;rw [<-CS] at hR;rw [<-CS];obtain⟨d,hd⟩:∃d,d=T.bq G S k.bm:=⟨_,rfl⟩;rw [<-hd] at hlen jS hR h1;have HR:=yh hR;have HB:=yh aH;have mI:=yh bw;have XL:=yh h.st.d.lt;clear h hp aH bw h0 hR CS hd Fs;unfold iE at*;go_enter func119,ntmps119;go_wp2_with fail;refine h1.mono ?_;rintro e w2 ⟨g,rfl,hg,aA,dV,aK⟩;have tW:¬F w.heap.size:=λhf=>by have:=XL.o _ hf;omega
 have jW:=(aK.block _ (af mI.o) tW).trans mI.o;obtain⟨c0,c1,c2,c3,c4⟩:=gR jW;have HW:Yh (gA w2 113 g d/\TX w2 F p s (cR+1) q l m t n S G T/\ad F w w2):=⟨aA,dV,(ad.ag F HB.o).trans aK (λ_ h=> .inl h)⟩;obtain⟨L,hL⟩:∃L:Int,L=(k.first:Int)+(k.bf:Int)-1:=⟨_,rfl⟩;rw [<-hL] at c3;have HL:=yh hL;clear h1 aA dV aK jW hL hg;go_wp2;go_loopw [6,7] (λfv iv wr=>∃j:Nat,j<=k.bf/\iv= .int .i64 ((k.first+j:Nat):Int)/\fv= .int .i64 (lH d (k.first-k.zero) j:Int)/\wr=w2) (λ_ iv _=>k.first+k.bf-(intOf iv).toNat);case atStart=>exact⟨0,Nat.zero_le _,by simp,rfl,rfl⟩
 case round=>
  obtain⟨j,hj,rfl,rfl,Fh⟩:=hrel;subst Fh;obtain⟨N,N1,hN,Tr,f1,f2,f3,f4⟩:=CR hk hj;rw [<-hN];rw [<-HL.o] at f1 f2;have HN:=yh (And.intro hN Tr);clear hN Tr;by_cases aS:j<k.bf
  .have g1:=f1 aS;have yD:k.first-k.zero+j<4096:=(by have:=hk.hi;omega);have h3:=qo (c:=512) HW.o.1 hlen jS (k.first-k.zero+j) yD;have Ui:lH d (k.first-k.zero) (j+1)=lH d (k.first-k.zero) j+(if cy d (k.first-k.zero+j)=false then 1 else 0):=rfl;have KV:lH d (k.first-k.zero) j<=4096:=(by have:=OY d (k.first-k.zero) j;omega);obtain⟨b,hb⟩:∃b,b=k.first-k.zero+j:=⟨_,rfl⟩;rw [<-hb] at h3 f3 Ui;obtain⟨y,hy⟩:∃y,y=cy d b:=⟨_,rfl⟩;rw [<-hy] at h3 Ui;have h5:=UX KV;have HLs:=yh Ui;clear f1 f2 hy hb Ui yD KV;generalize lH d (k.first-k.zero) j=fr at*;cases y
   .go_wp2_with fail;refine h3.mono ?_;rintro e w3 ⟨rfl,kB⟩;subst kB;clear h3;go_wp2;go_roundw;case rel=>exact⟨j+1,by omega,by rw [f4,HN.o.2],by rw [h5,HLs.o];rfl,trivial⟩
    case measure=>
     rw [f4];exact As HN.o.1 HN.o.2 aS
   .go_wp2_with fail;refine h3.mono ?_;rintro e w3 ⟨rfl,kB⟩;subst kB;clear h3;go_wp2;go_roundw;case rel=>exact⟨j+1,by omega,by rw [f4,HN.o.2],by rw [HLs.o];rfl,trivial⟩
    case measure=>
     rw [f4];exact As HN.o.1 HN.o.2 aS
  .have g2:=f2 aS;have XN:j=k.bf:=(by omega);rw [XN];rw [<-HR.o];clear XN f1 f2;go_wp2;go_ret;exact⟨rfl,HW.o.2⟩
end
end
end Go.Proofs.YtkiehemoiapkkaaGreat
