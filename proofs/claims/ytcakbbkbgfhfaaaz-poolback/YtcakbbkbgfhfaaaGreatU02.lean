import Derived.Test.YtcakbbkbgfhfaaaGreatW27
import Derived.Test.YtcakbbkbgfhfaaaGreatU01
section
namespace Go.Proofs.YtcakbbkbgfhfaaaGreat
open Go.RowKit Go.Maps
theorem span_st {g:GEO} {L:LG} (h4:3+g.l+2+g.n / 4+1≤g.s) (b:Bool):(spanOf g b).1=(stB b (⟨lyG g,L, [],true⟩:SG).y).first∧(spanOf g b).2=(stB b (⟨lyG g,L, [],true⟩:SG).y).first+(stB b (⟨lyG g,L, [],true⟩:SG).y).cnt:=by
 cases b
 ·exact⟨rfl,by show g.s-3-g.l=2+g.n / 4+(g.s-(3+g.l)-(2+g.n / 4));omega⟩
 ·exact⟨rfl,by show g.n+1=1+g.n;omega⟩
def Nxt (G:SG) (S:DS) (T T':TG) (b:Bool) (tb tn l':List Nat):Prop:=
 QF G S T' (if b then tb else l') (if b then l' else tn)∨(T'={T with bad:=fullOf b}∧l'=(if b then tn else tb)∧l'.length=(stB b G.y).cnt)
def GiveO (w w':World) (F:Nat→Prop) (B0 p s cR q l m t n:Nat) (S:DS) (G:SG) (T:TG) (b:Bool) (tb tn:List Nat) (v:Value) (e:Ending):Prop:=
 ∃v' l' T',e= .returned (.tuple #[v', .bool true])∧TX w' F p s (cR+2) q l m t n S G T'∧Keeps (fun j=>OwT F t n j∨v.ownBlock=some j) w w'∧IL w' (fun j=>B0≤j) v' l'∧Nxt G S T T' b tb tn l'∧∀j,v'.ownBlock=some j→v.ownBlock=some j∨w.heap.size≤j
section
variable {w w':World} {F:Nat→Prop} {B0 p cR q l m t n a1:Nat} {S:DS} {T:TG} {g:GEO} {L:LG} {tb tn:List Nat} {v:Value}
set_option maxRecDepth 20000 in
set_option maxHeartbeats 8000000 in
theorem give_any (h:TX w F p g.s cR q l m t n S ⟨lyG g,L, [],true⟩ T) (hp:PoolAt w F a1 t n) (hd:L.dead S=false) (h1:g.s≤2048) (h2:g.l≤256) (h3:g.n≤1024) (h4:3+g.l+2+g.n / 4+1≤g.s) (b:Bool) (hq:QF ⟨lyG g,L, [],true⟩ S T tb tn) (hil:IL w (fun j=>B0≤j) v (if b then tn else tb)) (hlo:TXlt B0 F q l m t n) (hBw:B0≤w.heap.size):
  Calls Tryz.prog 34 #[.pointer (some ⟨a1,0,none⟩),supV g,v, .bool b] w fun e w'=>GiveO w w' F B0 p g.s cR q l m t n S ⟨lyG g,L, [],true⟩ T b tb tn v e:=by
 obtain⟨s1,s2⟩:=span_st (L:=L) h4 b
 have hyk:=h.yk
 have hkO:=stB_ok hyk b
 have hS2:(spanOf g b).2≤4096:=(span_le h1 h3 h4).2
 have hb2:2≤(⟨lyG g,L, [],true⟩:SG).y.blocks:=hyk.b2
 have hbm:(stB b (⟨lyG g,L, [],true⟩:SG).y).bm<(⟨lyG g,L, [],true⟩:SG).y.blocks:=by have:=hkO.bm;omega
 have htk:=hq.take hd hb2 h.tx.ch.ok hyk b (h.bytes _) (h.len _ hbm)
 have hll:(if b then tn else tb).length≤4096:=by
  have:=(hq.of b).fr
  have:=hkO.hi
  omega
 have hB1:=below_box w (.cells #[.int .i64 (g.s:Int), .int .i64 (g.l:Int), .int .i64 (g.n:Int)] 31)
 have hbx:=heap_alloc_new w (.cells #[.int .i64 (g.s:Int), .int .i64 (g.l:Int), .int .i64 (g.n:Int)] 31)
 have k1:=span6_any g h1 h2 h3 h4 b (w.alloc (.cells #[.int .i64 (g.s:Int), .int .i64 (g.l:Int), .int .i64 (g.n:Int)] 31))
 have HT:Hid (∀w2,Below w.heap.size w w2→Calls Tryz.prog 12 #[.pointer (some ⟨a1,0,none⟩), .bool b] w2 fun e w'=>e= .returned (.tuple #[.int .i64 (T.takes ⟨lyG g,L, [],true⟩ S (stB b (⟨lyG g,L, [],true⟩:SG).y)).1, .int .i64 (T.takes ⟨lyG g,L, [],true⟩ S (stB b (⟨lyG g,L, [],true⟩:SG).y)).2.1])∧TX w' F p g.s (cR+2) q l m t n S ⟨lyG g,L, [],true⟩ (T.takes ⟨lyG g,L, [],true⟩ S (stB b (⟨lyG g,L, [],true⟩:SG).y)).2.2∧Keeps (OwT F t n) w2 w'):=fun w2 hb=>takes6_any (h.later hb) (hp.later hb) b
 generalize (⟨lyG g,L, [],true⟩:SG)=G at*
 rw [←s1] at htk
 have hcn:(stB b G.y).cnt=(spanOf g b).2-(spanOf g b).1:=by omega
 have hS12:(spanOf g b).1≤(spanOf g b).2:=by omega
 obtain⟨S1,hS1⟩:∃S1,S1=(spanOf g b).1:=⟨_,rfl⟩
 obtain⟨S2,hS2e⟩:∃S2,S2=(spanOf g b).2:=⟨_,rfl⟩
 rw [←hS1,←hS2e] at k1 hcn hS12
 rw [←hS2e] at hS2
 rw [←hS1] at htk
 have hle2:S1+(stB b G.y).cnt=S2:=by omega
 have hx:∀j,B0≤j→¬OwT F t n j:=fun j hj ho=>by
  obtain⟨o1,o2,o3,o4,o5,o6⟩:=hlo
  rcases ho with ho|ho|ho
  ·have:=o1 j ho;omega
  ·omega
  ·omega
 have HX:=Hid.mk hx
 have HLO:=Hid.mk hlo
 have HIL:=Hid.mk hil
 have HB:=Hid.mk (And.intro hB1 hbx)
 have HTK:=Hid.mk htk
 have HC:=Hid.mk (And.intro hcn hle2)
 have HQ:=Hid.mk hq
 have HP:=Hid.mk hp
 obtain⟨va,vc,rfl⟩:=hil.form
 obtain⟨ll,hlle⟩:∃ll,ll=(if b then tn else tb):=⟨_,rfl⟩
 rw [←hlle] at HIL HTK hll
 rw [←hlle]
 have HLE:=Hid.mk hlle
 have hlw:∀j,(Value.slice va ll.length vc).ownBlock=some j→j<w.heap.size:=fun j hj=>HIL.out.lt hj
 have HLw:=Hid.mk hlw
 clear h hp hq hil hx hlo hyk hkO hb2 hbm htk hB1 hbx s1 s2 hS1 hS2e hcn hle2 hlle h1 h2 h3 h4 hd hlw
 go_enter Tryz.func34,Tryz.ntmps34
 go_wp2_with fail
 refine k1.mono ?_
 rintro e w1 ⟨rfl,hb1⟩
 have hbw1:=HB.out.1.trans (hb1.mono HB.out.1.size)
 have k2:=HT.out w1 hbw1
 have HB1:=Hid.mk hbw1
 clear k1 hb1 hbw1 HB HT
 rcases HTK.out with ⟨x,T',ht,hx1,hx2,hx3,hx4⟩|⟨ht,hfull⟩
 ·rw [ht] at k2
  have HXX:=Hid.mk (And.intro hx1 (And.intro hx2 (And.intro hx3 hx4)))
  have hx9:x<S2:=by have:=hx1.2;have:=HC.out.2;omega
  have hx8:S1≤x:=hx1.1
  clear ht hx1 hx2 hx3 hx4 HTK
  go_wp2_with fail
  refine k2.mono ?_
  rintro e w2 ⟨rfl,hxt,hkt⟩
  have hkw:Keeps (OwT F t n) w w2:=(Keeps.of_below _ HB1.out).trans hkt (fun _ h=> .inl h)
  have hil2:IL w2 (fun j=>B0≤j) (.slice va ll.length vc) ll:=HIL.out.keep hkw (fun j hj=>HX.out j (HIL.out.x j hj))
  have kh:=has_any hil2 x (by omega)
  rw [decide_eq_false HXX.out.2.1] at kh
  have hc1:¬(x:Int)<(S1:Int):=by omega
  have hc2:¬(S2:Int)≤(x:Int):=by omega
  have HW:Hid (TX w2 F p g.s (cR+2) q l m t n S G T'∧Keeps (OwT F t n) w w2∧IL w2 (fun j=>B0≤j) (.slice va ll.length vc) ll):=⟨hxt,hkw,hil2⟩
  clear k2 hxt hkt hkw hil2 HB1
  go_wp2_with fail
  refine kh.mono ?_
  rintro e w3 ⟨rfl,hw3⟩
  subst hw3
  have HX8:=Hid.mk (And.intro hx8 hx9)
  clear kh
  go_wp2
  clear hc1 hc2 hx8 hx9
  generalize decide (x<S1)=D1
  generalize decide (S2≤x)=D2
  generalize (D1 || D2)=D3
  go_loopw [8,9,14] (fun _ _ iv wr=>∃j:Nat,S1≤j∧j≤x∧iv= .int .i64 (j:Int)∧wr=w3) (fun _ _ iv _=>x-(intOf iv).toNat)
  case atStart=>exact⟨S1,Nat.le_refl _,HX8.out.1,rfl,rfl⟩
  case round=>
   obtain⟨j,hj1,hj2,rfl,hwr⟩:=hrel
   subst hwr
   by_cases hlt:j<x
   ·have hlt':(j:Int)<(x:Int):=by omega
    have kh:=has_any HW.out.2.2 j (by omega)
    rw [decide_eq_true (HXX.out.2.2.1 j hj1 hlt)] at kh
    go_wp2_with fail
    refine kh.mono ?_
    rintro e w4 ⟨rfl,hw4⟩
    subst hw4
    clear kh
    go_wp2
    go_roundw
    case rel=>exact⟨j+1,by omega,by omega,by go_num,trivial⟩
    case measure=>simp [intOf];omega
   ·have hlt':¬(j:Int)<(x:Int):=by omega
    obtain⟨g2,cap2,w5,hrun,hil5,hk5,hat⟩:=HW.out.2.2.app x (by omega)
    have HRun:=Hid.mk hrun
    have hz:w.heap.size≤wr.heap.size:=HW.out.2.1.size
    have hE:GiveO w w5 F B0 p g.s cR q l m t n S G T b tb tn (.slice va ll.length vc) (.returned (.tuple #[.slice (some ⟨g2,0,none⟩) (ll.length+1) cap2, .bool true])):=by
     refine⟨_,ll ++ [x],T',rfl,?_,?_,hil5.mono (fun j hj=>hj.elim (fun e=>e) (fun e=>by omega)), .inl ?_,fun j hj=>?_⟩
     ·exact HW.out.1.side HLO.out hk5 (fun j hj=>HW.out.2.2.x j hj)
     ·exact(HW.out.2.1.mono (fun _ h=> .inl h)).trans hk5 (fun j hj=> .inl (.inr hj))
     ·have:=HXX.out.2.2.2
      rw [HLE.out]
      cases b
      ·exact this
      ·exact this
     ·have eg:g2=j:=by simpa [Value.ownBlock] using hj
      subst eg
      exact hat.imp (fun e=>e) (fun e=>by omega)
    have HE:=Hid.mk hE
    clear hrun hil5 hk5 hat hE
    go_wp2_with (at_builtin;refine wpList_append_run rfl _ _ 49 rfl (.slice va ll.length vc) (.slice (some ⟨wr.heap.size,0,none⟩) 1 1) _ rfl rfl HRun.out ?_)
    go_ret2
    exact HE.out
 ·rw [ht] at k2
  have hne:fullOf b≠0:=full_ne b
  have hlc:ll.length=(stB b G.y).cnt:=hfull
  have hsub:(S2:Int)-(S1:Int)=(ll.length:Int):=by have:=HC.out.2;omega
  have HLC:=Hid.mk hlc
  clear ht HTK hlc hfull
  obtain⟨fb,hfb⟩:∃fb,fb=fullOf b:=⟨_,rfl⟩
  rw [←hfb] at k2 hne
  have HFB:=Hid.mk hfb
  clear hfb
  go_wp2_with fail
  refine k2.mono ?_
  rintro e w2 ⟨rfl,hxt,hkt⟩
  have hkw:Keeps (OwT F t n) w w2:=(Keeps.of_below _ HB1.out).trans hkt (fun _ h=> .inl h)
  have hil2:IL w2 (fun j=>B0≤j) (.slice va ll.length vc) ll:=HIL.out.keep hkw (fun j hj=>HX.out j (HIL.out.x j hj))
  have HE:Hid (GiveO w w2 F B0 p g.s cR q l m t n S G T b tb tn (.slice va ll.length vc) (.returned (.tuple #[.slice va ll.length vc, .bool true]))):=⟨_,ll,_,rfl,hxt,hkw.mono (fun _ h=> .inl h),hil2, .inr ⟨HFB.out▸rfl,HLE.out,HLC.out⟩,fun j hj=> .inl hj⟩
  clear k2 hxt hkt hkw hil2 HB1
  go_wp2
  go_ret2
  exact HE.out
end
end Go.Proofs.YtcakbbkbgfhfaaaGreat
end

section
namespace Go.Proofs.YtcakbbkbgfhfaaaGreat
open Go.RowKit Go.Maps
def ActO (w w':World) (F:Nat→Prop) (B0 p s q l m t n:Nat) (S:DS) (G:SG) (T:TG) (tb tn:List Nat) (vb vn:Value) (e:Ending):Prop:=
 ∃vb' vn' tb' tn' T' cR',e= .returned (.tuple #[.agg #[vb',vn'], .bool true])∧TX w' F p s cR' q l m t n S G T'∧Keeps (fun j=>OwT F t n j∨vb.ownBlock=some j∨vn.ownBlock=some j) w w'∧IL w' (fun j=>B0≤j) vb' tb'∧IL w' (fun j=>B0≤j) vn' tn'∧(∀j,vb'.ownBlock=some j→vn'.ownBlock≠some j)∧
    (QF G S T' tb' tn'∨∃b,T'={T with bad:=fullOf b}∧tb'=tb∧tn'=tn∧(if b then tn' else tb').length=(stB b G.y).cnt)
theorem heap4 (w:World) (a b c d:Obj):Below w.heap.size w ((((w.alloc a).alloc b).alloc c).alloc d)∧((((w.alloc a).alloc b).alloc c).alloc d).heap[w.heap.size]? =some a∧((((w.alloc a).alloc b).alloc c).alloc d).heap[w.heap.size+1]? =some b∧((((w.alloc a).alloc b).alloc c).alloc d).heap[w.heap.size+1+1]? =some c∧((((w.alloc a).alloc b).alloc c).alloc d).heap[w.heap.size+1+1+1]? =some d∧((((w.alloc a).alloc b).alloc c).alloc d).heap.size=w.heap.size+4:=by
 have z1:(w.alloc a).heap.size=w.heap.size+1:=by rw [World.size_alloc]
 have z2:((w.alloc a).alloc b).heap.size=w.heap.size+1+1:=by rw [World.size_alloc,z1]
 have z3:(((w.alloc a).alloc b).alloc c).heap.size=w.heap.size+1+1+1:=by rw [World.size_alloc,z2]
 have z4:((((w.alloc a).alloc b).alloc c).alloc d).heap.size=w.heap.size+1+1+1+1:=by rw [World.size_alloc,z3]
 have b1:=below_box w a
 have b2:=b1.trans ((below_box (w.alloc a) b).mono (by omega))
 have b3:=b2.trans ((below_box ((w.alloc a).alloc b) c).mono (by omega))
 have b4:=b3.trans ((below_box (((w.alloc a).alloc b).alloc c) d).mono (by omega))
 have n1:=heap_alloc_new w a
 have n2:=heap_alloc_new (w.alloc a) b
 have n3:=heap_alloc_new ((w.alloc a).alloc b) c
 have n4:=heap_alloc_new (((w.alloc a).alloc b).alloc c) d
 rw [z1] at n2
 rw [z2] at n3
 rw [z3] at n4
 refine⟨b4,?_,?_,?_,n4,z4⟩
 ·rw [Below.heap_alloc _ _ _ (by omega),Below.heap_alloc _ _ _ (by omega),Below.heap_alloc _ _ _ (by omega),n1]
 ·rw [Below.heap_alloc _ _ _ (by omega),Below.heap_alloc _ _ _ (by omega),n2]
 ·rw [Below.heap_alloc _ _ _ (by omega),n3]
theorem IL.away {w:World} {X:Nat→Prop} {v:Value} {l:List Nat} {j:Nat} {cs:Array Value} {t:TypeId} {fr:Nat×Nat} (h:IL w X v l) (hb:w.heap[j]? =some (.cells cs t fr)) (ht:t≠3):v.ownBlock≠some j:=fun e=>by
 obtain⟨cur,hc⟩:=owns_block h.own e
 exact type_ne hb hc ht
theorem ends {w2:World} {K:Nat} {vb vn x y u n0 n1:Value} (t2:w2.heap[K+1]? =some (.cells #[vb,vn] 51 (0,0))) (r2:w2.heap[K+1+1+1]? =some (.cells #[n0,n1] 51 (0,0))) (i:Nat) (hi:(#[vb,vn]:Array Value).setIfInBounds i u= #[x,y]):
    (w2.setCell ⟨K+1,i,none⟩ u).cell? ⟨K+1,0,none⟩=some x∧(w2.setCell ⟨K+1,i,none⟩ u).cell? ⟨K+1,1,none⟩=some y∧(w2.setCell ⟨K+1,i,none⟩ u).cell? ⟨K+1+1+1,0,none⟩=some n0∧(w2.setCell ⟨K+1,i,none⟩ u).frozen? ⟨K+1+1+1,0,none⟩=false∧
    ((w2.setCell ⟨K+1,i,none⟩ u).setCell ⟨K+1+1+1,0,none⟩ x).cell? ⟨K+1+1+1,1,none⟩=some n1∧((w2.setCell ⟨K+1,i,none⟩ u).setCell ⟨K+1+1+1,0,none⟩ x).frozen? ⟨K+1+1+1,1,none⟩=false∧
    (((w2.setCell ⟨K+1,i,none⟩ u).setCell ⟨K+1+1+1,0,none⟩ x).setCell ⟨K+1+1+1,1,none⟩ y).cell? ⟨K+1+1+1,0,none⟩=some x∧(((w2.setCell ⟨K+1,i,none⟩ u).setCell ⟨K+1+1+1,0,none⟩ x).setCell ⟨K+1+1+1,1,none⟩ y).cell? ⟨K+1+1+1,1,none⟩=some y∧
  Keeps (fun j=>j=K+1∨j=K+1+1+1) w2 (((w2.setCell ⟨K+1,i,none⟩ u).setCell ⟨K+1+1+1,0,none⟩ x).setCell ⟨K+1+1+1,1,none⟩ y):=by
 have t3:(w2.setCell ⟨K+1,i,none⟩ u).heap[K+1]? =some (.cells #[x,y] 51 (0,0)):=by rw [←hi];exact heap_setCell_same _ _ _ _ _ _ t2
 have k3:Keeps (fun j=>j=K+1) w2 (w2.setCell ⟨K+1,i,none⟩ u):=Keeps.setCell (F:=fun k=>k=K+1) w2 (p:=⟨K+1,i,none⟩) rfl _
 have r3:=(k3.block _ (lt_there r2) (by omega)).trans r2
 have r4:((w2.setCell ⟨K+1,i,none⟩ u).setCell ⟨K+1+1+1,0,none⟩ x).heap[K+1+1+1]? =some (.cells #[x,n1] 51 (0,0)):=heap_setCell_same _ _ _ _ _ _ r3
 have r5:(((w2.setCell ⟨K+1,i,none⟩ u).setCell ⟨K+1+1+1,0,none⟩ x).setCell ⟨K+1+1+1,1,none⟩ y).heap[K+1+1+1]? =some (.cells #[x,y] 51 (0,0)):=heap_setCell_same _ _ _ _ _ _ r4
 have k4:=Keeps.setCell (F:=fun k=>k=K+1+1+1) (w2.setCell ⟨K+1,i,none⟩ u) (p:=⟨K+1+1+1,0,none⟩) rfl x
 have k5:=Keeps.setCell (F:=fun k=>k=K+1+1+1) ((w2.setCell ⟨K+1,i,none⟩ u).setCell ⟨K+1+1+1,0,none⟩ x) (p:=⟨K+1+1+1,1,none⟩) rfl y
 exact⟨cell_of_block t3 (j:=0) rfl,cell_of_block t3 (j:=1) rfl,cell_of_block r3 (j:=0) rfl,frozen_of_block r3 0,cell_of_block r4 (j:=1) rfl,frozen_of_block r4 1,cell_of_block r5 (j:=0) rfl,cell_of_block r5 (j:=1) rfl,((k3.mono (fun j hj=>by omega)).trans k4 (fun j hj=> .inl (by omega))).trans k5 (fun j hj=> .inl (by omega))⟩
section
variable {w w':World} {F:Nat→Prop} {B0 p cR q l m t n a1:Nat} {S:DS} {T:TG} {g:GEO} {L:LG} {tb tn:List Nat} {vb vn:Value}
set_option maxRecDepth 20000 in
set_option maxHeartbeats 8000000 in
theorem act_give0 (h:TX w F p g.s cR q l m t n S ⟨lyG g,L, [],true⟩ T) (hp:PoolAt w F a1 t n) (hd:L.dead S=false) (h1:g.s≤2048) (h2:g.l≤256) (h3:g.n≤1024) (h4:3+g.l+2+g.n / 4+1≤g.s) (hq:QF ⟨lyG g,L, [],true⟩ S T tb tn) (hib:IL w (fun j=>B0≤j) vb tb) (hin:IL w (fun j=>B0≤j) vn tn) (hsep:∀j,vb.ownBlock=some j→vn.ownBlock≠some j) (hlo:TXlt B0 F q l m t n) (hBw:B0≤w.heap.size) (wh:Bool) (at_:Int):
  Calls Tryz.prog 16 #[.pointer (some ⟨a1,0,none⟩),supV g, .agg #[vb,vn], .agg #[.bool false, .bool false, .bool wh, .int .i64 at_]] w fun e w'=>ActO w w' F B0 p g.s q l m t n S ⟨lyG g,L, [],true⟩ T tb tn vb vn e:=by
 obtain⟨ab,cb,rfl⟩:=hib.form
 obtain⟨an,cn,rfl⟩:=hin.form
 obtain⟨hB1,g1,g2,g3,g4,hz1⟩:=heap4 w (.cells #[.int .i64 (g.s:Int), .int .i64 (g.l:Int), .int .i64 (g.n:Int)] 31) (.cells #[.slice ab tb.length cb, .slice an tn.length cn] 51) (.cells #[.bool false, .bool false, .bool wh, .int .i64 at_] 53) (.cells #[.slice none 0 0, .slice none 0 0] 51)
 have k1:=give_any (h.later hB1) (hp.later hB1) hd h1 h2 h3 h4 false hq (hib.later hB1) hlo (Nat.le_trans hBw hB1.size)
 have hx:∀j,B0≤j→¬OwT F t n j:=fun j hj ho=>by
  obtain⟨o1,o2,o3,o4,o5,o6⟩:=hlo
  rcases ho with ho|ho|ho
  ·have:=o1 j ho;omega
  ·omega
  ·omega
 have hzb:∀j,w.heap.size≤j→¬(OwT F t n j∨(Value.slice ab tb.length cb).ownBlock=some j):=fun j hj e=>by
  rcases e with e|e
  ·exact hx j (by omega) e
  ·have:=hib.lt e;omega
 have hnk:∀j,(Value.slice an tn.length cn).ownBlock=some j→¬(OwT F t n j∨(Value.slice ab tb.length cb).ownBlock=some j):=fun j hj e=>by
  rcases e with e|e
  ·exact hx j (hin.x j hj) e
  ·exact hsep j e hj
 have HN:Hid (IL _ _ (Value.slice an tn.length cn) tn):=hin.later hB1
 have HZ:=Hid.mk (And.intro hzb hnk)
 have HB:=Hid.mk hB1
 have HG:=Hid.mk (And.intro g2 (And.intro g3 g4))
 have HLO:=Hid.mk hlo
 have hlb:∀j,(Value.slice an tn.length cn).ownBlock=some j→j<w.heap.size:=fun j hj=>hin.lt hj
 have HLB:=Hid.mk hlb
 clear h hp hd hq hib hin hB1 hx hzb hnk g1 g2 g3 g4 hlo h1 h2 h3 h4 hsep hlb
 go_enter Tryz.func16,Tryz.ntmps16
 go_wp2_with fail
 refine k1.mono ?_
 rintro e w2 ⟨v',l',T',rfl,hx2,hk2,hil2,hnx,hob⟩
 obtain⟨a2',c2',rfl⟩:=hil2.form
 have hz2:=hk2.size
 rw [hz1] at hz2
 have t2:=(hk2.block _ (lt_there HG.out.1) (HZ.out.1 _ (by omega))).trans HG.out.1
 have a2:=(hk2.block _ (lt_there HG.out.2.1) (HZ.out.1 _ (by omega))).trans HG.out.2.1
 have r2:=(hk2.block _ (lt_there HG.out.2.2) (HZ.out.1 _ (by omega))).trans HG.out.2.2
 have c1:w2.cell? ⟨w.heap.size+1+1,1,none⟩=some (.bool false):=cell_of_block a2 (j:=1) rfl
 have c2:w2.cell? ⟨w.heap.size+1,0,none⟩=some (.slice ab tb.length cb):=cell_of_block t2 (j:=0) rfl
 have f2:=frozen_of_block t2 0
 obtain⟨d0,d1,d2,d3,d4,d5,d6,d7,d8⟩:=ends t2 r2 0 (u:= .slice a2' l'.length c2') (x:= .slice a2' l'.length c2') (y:= .slice an tn.length cn) rfl
 have HK2:=Hid.mk hk2
 have HOB:=Hid.mk hob
 have HE:=Hid.mk (And.intro hx2 (And.intro hil2 hnx))
 have hE:ActO w (((w2.setCell ⟨w.heap.size+1,0,none⟩ (.slice a2' l'.length c2')).setCell ⟨w.heap.size+1+1+1,0,none⟩ (.slice a2' l'.length c2')).setCell ⟨w.heap.size+1+1+1,1,none⟩ (.slice an tn.length cn)) F B0 p g.s q l m t n S ⟨lyG g,L, [],true⟩ T tb tn (.slice ab tb.length cb) (.slice an tn.length cn) (.returned (.tuple #[.agg #[.slice a2' l'.length c2', .slice an tn.length cn], .bool true])):=by
  have hn2:=HN.out.keep HK2.out HZ.out.2
  refine⟨_,_,l',tn,T',cR+2,rfl,HE.out.1.side HLO.out d8 (fun j hj=>by omega),?_,HE.out.2.1.keep d8 (fun j hj e=>?_),hn2.keep d8 (fun j hj e=>?_),fun j hj e=>?_,?_⟩
  ·refine((Keeps.of_below _ HB.out).trans (HK2.out.mono (fun j hj=>?_)) (fun _ h=> .inl h)).trans d8 (fun j hj=> .inr (by omega))
   exact hj.imp (fun e=>e) (fun e=> .inl e)
  ·rcases e with rfl|rfl
   ·exact HE.out.2.1.away t2 (by decide) hj
   ·exact HE.out.2.1.away r2 (by decide) hj
  ·have:=HLB.out j hj
   omega
  ·rcases HOB.out j hj with h9|h9
   ·exact HZ.out.2 j e (.inr h9)
   ·have:=HLB.out j e
    have:=HB.out.size
    omega
  ·rcases HE.out.2.2 with h9|⟨h9,h8,h7⟩
   ·exact .inl h9
   ·exact .inr ⟨false,h9,h8,rfl,h7⟩
 have HEE:=Hid.mk hE
 clear k1 hx2 hk2 hil2 hnx hob t2 a2 r2 d8 HE hE HK2 HB HN HG
 go_wp2
 refine bodyPost_ret (v:= .tuple #[.agg #[.slice a2' l'.length c2', .slice an tn.length cn], .bool true]) (by simp [results,Tryz.results16,go_sem,d6,d7]) rfl ?_
 exact HEE.out
end
end Go.Proofs.YtcakbbkbgfhfaaaGreat
end

section
namespace Go.Proofs.YtcakbbkbgfhfaaaGreat
open Go.RowKit Go.Maps
section
variable {w w':World} {F:Nat→Prop} {B0 p cR q l m t n a1:Nat} {S:DS} {T:TG} {g:GEO} {L:LG} {tb tn:List Nat} {vb vn:Value}
set_option maxRecDepth 20000 in
set_option maxHeartbeats 8000000 in
theorem act_give1 (h:TX w F p g.s cR q l m t n S ⟨lyG g,L, [],true⟩ T) (hp:PoolAt w F a1 t n) (hd:L.dead S=false) (h1:g.s≤2048) (h2:g.l≤256) (h3:g.n≤1024) (h4:3+g.l+2+g.n / 4+1≤g.s) (hq:QF ⟨lyG g,L, [],true⟩ S T tb tn) (hib:IL w (fun j=>B0≤j) vb tb) (hin:IL w (fun j=>B0≤j) vn tn) (hsep:∀j,vb.ownBlock=some j→vn.ownBlock≠some j) (hlo:TXlt B0 F q l m t n) (hBw:B0≤w.heap.size) (wh:Bool) (at_:Int):
  Calls Tryz.prog 16 #[.pointer (some ⟨a1,0,none⟩),supV g, .agg #[vb,vn], .agg #[.bool false, .bool true, .bool wh, .int .i64 at_]] w fun e w'=>ActO w w' F B0 p g.s q l m t n S ⟨lyG g,L, [],true⟩ T tb tn vb vn e:=by
 obtain⟨ab,cb,rfl⟩:=hib.form
 obtain⟨an,cn,rfl⟩:=hin.form
 obtain⟨hB1,g1,g2,g3,g4,hz1⟩:=heap4 w (.cells #[.int .i64 (g.s:Int), .int .i64 (g.l:Int), .int .i64 (g.n:Int)] 31) (.cells #[.slice ab tb.length cb, .slice an tn.length cn] 51) (.cells #[.bool false, .bool true, .bool wh, .int .i64 at_] 53) (.cells #[.slice none 0 0, .slice none 0 0] 51)
 have k1:=give_any (h.later hB1) (hp.later hB1) hd h1 h2 h3 h4 true hq (hin.later hB1) hlo (Nat.le_trans hBw hB1.size)
 have hx:∀j,B0≤j→¬OwT F t n j:=fun j hj ho=>by
  obtain⟨o1,o2,o3,o4,o5,o6⟩:=hlo
  rcases ho with ho|ho|ho
  ·have:=o1 j ho;omega
  ·omega
  ·omega
 have hzb:∀j,w.heap.size≤j→¬(OwT F t n j∨(Value.slice an tn.length cn).ownBlock=some j):=fun j hj e=>by
  rcases e with e|e
  ·exact hx j (by omega) e
  ·have:=hin.lt e;omega
 have hnk:∀j,(Value.slice ab tb.length cb).ownBlock=some j→¬(OwT F t n j∨(Value.slice an tn.length cn).ownBlock=some j):=fun j hj e=>by
  rcases e with e|e
  ·exact hx j (hib.x j hj) e
  ·exact hsep j hj e
 have HN:Hid (IL _ _ (Value.slice ab tb.length cb) tb):=hib.later hB1
 have HZ:=Hid.mk (And.intro hzb hnk)
 have HB:=Hid.mk hB1
 have HG:=Hid.mk (And.intro g2 (And.intro g3 g4))
 have HLO:=Hid.mk hlo
 have hlb:∀j,(Value.slice ab tb.length cb).ownBlock=some j→j<w.heap.size:=fun j hj=>hib.lt hj
 have HLB:=Hid.mk hlb
 clear h hp hd hq hib hin hB1 hx hzb hnk g1 g2 g3 g4 hlo h1 h2 h3 h4 hsep hlb
 go_enter Tryz.func16,Tryz.ntmps16
 go_wp2_with fail
 refine k1.mono ?_
 rintro e w2 ⟨v',l',T',rfl,hx2,hk2,hil2,hnx,hob⟩
 obtain⟨a2',c2',rfl⟩:=hil2.form
 have hz2:=hk2.size
 rw [hz1] at hz2
 have t2:=(hk2.block _ (lt_there HG.out.1) (HZ.out.1 _ (by omega))).trans HG.out.1
 have a2:=(hk2.block _ (lt_there HG.out.2.1) (HZ.out.1 _ (by omega))).trans HG.out.2.1
 have r2:=(hk2.block _ (lt_there HG.out.2.2) (HZ.out.1 _ (by omega))).trans HG.out.2.2
 have c1:w2.cell? ⟨w.heap.size+1+1,1,none⟩=some (.bool true):=cell_of_block a2 (j:=1) rfl
 have c2:w2.cell? ⟨w.heap.size+1,1,none⟩=some (.slice an tn.length cn):=cell_of_block t2 (j:=1) rfl
 have f2:=frozen_of_block t2 1
 obtain⟨d0,d1,d2,d3,d4,d5,d6,d7,d8⟩:=ends t2 r2 1 (u:= .slice a2' l'.length c2') (x:= .slice ab tb.length cb) (y:= .slice a2' l'.length c2') rfl
 have HK2:=Hid.mk hk2
 have HOB:=Hid.mk hob
 have HE:=Hid.mk (And.intro hx2 (And.intro hil2 hnx))
 have hE:ActO w (((w2.setCell ⟨w.heap.size+1,1,none⟩ (.slice a2' l'.length c2')).setCell ⟨w.heap.size+1+1+1,0,none⟩ (.slice ab tb.length cb)).setCell ⟨w.heap.size+1+1+1,1,none⟩ (.slice a2' l'.length c2')) F B0 p g.s q l m t n S ⟨lyG g,L, [],true⟩ T tb tn (.slice ab tb.length cb) (.slice an tn.length cn) (.returned (.tuple #[.agg #[.slice ab tb.length cb, .slice a2' l'.length c2'], .bool true])):=by
  have hn2:=HN.out.keep HK2.out HZ.out.2
  refine⟨_,_,tb,l',T',cR+2,rfl,HE.out.1.side HLO.out d8 (fun j hj=>by omega),?_,hn2.keep d8 (fun j hj e=>?_),HE.out.2.1.keep d8 (fun j hj e=>?_),fun j e hj=>?_,?_⟩
  ·refine((Keeps.of_below _ HB.out).trans (HK2.out.mono (fun j hj=>?_)) (fun _ h=> .inl h)).trans d8 (fun j hj=> .inr (by omega))
   exact hj.imp (fun e=>e) (fun e=> .inr e)
  ·have:=HLB.out j hj
   omega
  ·rcases e with rfl|rfl
   ·exact HE.out.2.1.away t2 (by decide) hj
   ·exact HE.out.2.1.away r2 (by decide) hj
  ·rcases HOB.out j hj with h9|h9
   ·exact HZ.out.2 j e (.inr h9)
   ·have:=HLB.out j e
    have:=HB.out.size
    omega
  ·rcases HE.out.2.2 with h9|⟨h9,h8,h7⟩
   ·exact .inl h9
   ·exact .inr ⟨true,h9,rfl,h8,h7⟩
 have HEE:=Hid.mk hE
 clear k1 hx2 hk2 hil2 hnx hob t2 a2 r2 d8 HE hE HK2 HB HN HG
 go_wp2
 refine bodyPost_ret (v:= .tuple #[.agg #[.slice ab tb.length cb, .slice a2' l'.length c2'], .bool true]) (by simp [results,Tryz.results16,go_sem,d6,d7]) rfl ?_
 exact HEE.out
end
end Go.Proofs.YtcakbbkbgfhfaaaGreat
end

section
namespace Go.Proofs.YtcakbbkbgfhfaaaGreat
open Go.RowKit Go.Maps
set_option maxRecDepth 20000 in
set_option maxHeartbeats 2000000 in
theorem same6_any (b o b' o':Nat) (n c d:Nat) (l l':List Int) (w:World) (hn:n≤140737488355328) (hl:l.length=n) (hl':l'.length=n) (h1:∀i,i<n→w.cell? ⟨b,o+i,none⟩=some (.int .u8 (l.getD i 0))) (h2:∀i,i<n→w.cell? ⟨b',o'+i,none⟩=some (.int .u8 (l'.getD i 0))):
  Calls Tryz.prog 18 #[.slice (some ⟨b,o,none⟩) n c, .slice (some ⟨b',o',none⟩) n d] w fun e w'=>e= .returned (.bool (decide (l=l')))∧Below w.heap.size w w':=by
 have h':(((n:Int)) != (n:Int))=false:=by simp
 have H1:=Hid.mk h1
 have H2:=Hid.mk h2
 clear h1 h2
 go_enter Tryz.func18,Tryz.ntmps18
 go_wp2
 go_loopw [5] (fun i wr=>∃k:Nat,k≤n∧i= .int .i64 k∧l.take k=l'.take k∧Below w.heap.size w wr) (fun i _=>n-(intOf i).toNat)
 case atStart=>exact⟨0,Nat.zero_le _,rfl,by simp,Below.refl _ _⟩
 case round=>
  obtain⟨k,hk,rfl,htk,hb⟩:=hrel
  have Htk:=Hid.mk htk
  clear htk
  by_cases hlt:k<n
  ·have c1:=cell_later hb (H1.out k hlt)
   have c2:=cell_later hb (H2.out k hlt)
   have hlt':(k:Int)<(n:Int):=by omega
   by_cases hx:l.getD k 0=l'.getD k 0
   ·have Hnx:=Hid.mk (take_eq_next Htk.out (by omega) (by omega) hx)
    have hb2:=Hid.mk (fun j=>below_drewN hb j)
    rw [hx] at c1
    generalize l'.getD k 0=x at*
    clear hx
    go_wp2
    go_quiet (fail)
    go_wp2
    go_roundw
    case rel=>exact⟨k+1,by omega,by go_num,Hnx.out,below_drewN hb _⟩
    case measure=>simp [intOf];omega
   ·have hne:l≠l':=ne_of_getD hx
    have hd:Hid (decide (l=l')=false):=by show decide (l=l')=false;simp [hne]
    have hxx:((l.getD k 0) != (l'.getD k 0))=true:=by rw [bne_iff_ne];exact hx
    generalize l'.getD k 0=x at*
    generalize l.getD k 0=y at*
    clear hx hne
    go_wp2
    go_quiet (fail)
    go_wp2
    go_ret
    exact⟨by rw [hd.out];rfl,below_drewN hb _⟩
  ·have hlt':¬(k:Int)<(n:Int):=by omega
   have hd:Hid (decide (l=l')=true):=by
    have:=Htk.out
    rw [List.take_of_length_le (by omega),List.take_of_length_le (by omega)] at this
    show decide (l=l')=true
    simp [this]
   go_wp2
   go_ret
   exact⟨by rw [hd.out];rfl,hb⟩
end Go.Proofs.YtcakbbkbgfhfaaaGreat
end

section
namespace Go.Proofs.YtcakbbkbgfhfaaaGreat
open Go.RowKit Go.Maps
structure OV (d0 d:List Int) (k:STK) (m:List Nat):Prop where
 b0:Bytes d0
 l0:d0.length=512
 b:Bytes d
 l:d.length=512
 nd:m.Nodup
 rg:∀x∈m,k.zero≤x∧x-k.zero<4096
 fr:∀x∈m,bitOf d0 (x-k.zero)=false
 bt:∀j,j<4096→bitOf d j=(bitOf d0 j || decide (j+k.zero∈m))
theorem mem_erase_nd {l:List Nat} {a x:Nat} (hn:l.Nodup) (hx:l[a]? =some x) (y:Nat):y∈l.eraseIdx a↔y∈l∧y≠x:=by
 obtain⟨ha,hxa⟩:=List.getElem?_eq_some_iff.1 hx
 rw [←hxa,List.mem_eraseIdx_iff_getElem]
 constructor
 ·rintro ⟨i,hi,hne,rfl⟩
  exact⟨List.getElem_mem _,fun e=>by
   rcases Nat.lt_trichotomy i a with h9|h9|h9
   ·exact List.pairwise_iff_getElem.1 hn i a hi ha h9 e
   ·exact hne h9
   ·exact List.pairwise_iff_getElem.1 hn a i ha hi h9 e.symm⟩
 ·rintro ⟨hm,hne⟩
  obtain⟨i,hi,rfl⟩:=List.mem_iff_getElem.1 hm
  exact⟨i,hi,fun e=>hne (by subst e;rfl),rfl⟩
section
variable {d0 d:List Int} {k:STK} {m:List Nat}
theorem OV.start (hb:Bytes d) (hl:d.length=512):OV d d k []:=⟨hb,hl,hb,hl,List.nodup_nil,(fun x hx=>by cases hx),(fun x hx=>by cases hx),fun j _=>by simp⟩
theorem OV.take (h:OV d0 d k m) {c:Nat} (hc:c<4096) (hbit:bitOf d c=false):OV d0 (turnBit d c) k (m ++ [c+k.zero]):=by
 have hh:=h.bt c hc
 rw [hbit] at hh
 have h1:bitOf d0 c=false:=by cases e:bitOf d0 c <;> rw [e] at hh <;> simp_all
 have h2:c+k.zero∉m:=fun hm=>by rw [h1,decide_eq_true hm] at hh;cases hh
 have tb:∀j,bitOf (turnBit d c) j=if j=c then !bitOf d c else bitOf d j:=fun j=>turnBit_bit h.b (by have:=h.l;omega)
 refine⟨h.b0,h.l0,turnBit_bytes h.b,turnBit_len.trans h.l,?_,fun x hx=>?_,fun x hx=>?_,fun j hj=>?_⟩
 ·rw [List.nodup_append]
  exact⟨h.nd,by simp,fun a ha b hb e=>by
   simp at hb
   subst hb
   subst e
   exact h2 ha⟩
 ·rw [List.mem_append] at hx
  rcases hx with hx|hx
  ·exact h.rg x hx
  ·simp at hx
   omega
 ·rw [List.mem_append] at hx
  rcases hx with hx|hx
  ·exact h.fr x hx
  ·simp at hx
   rw [hx,Nat.add_sub_cancel]
   exact h1
 ·rw [tb]
  by_cases e:j=c
  ·rw [if_pos e,hbit,e,decide_eq_true (List.mem_append_right _ (by simp))]
   simp
  ·rw [if_neg e,h.bt j hj]
   have:(j+k.zero∈m ++ [c+k.zero])↔j+k.zero∈m:=by
    rw [List.mem_append]
    simp
    omega
   simp only [this]
theorem OV.drop (h:OV d0 d k m) {a x:Nat} (hx:m[a]? =some x):OV d0 (turnBit d (x-k.zero)) k (m.eraseIdx a):=by
 have hm:x∈m:=List.mem_of_getElem? hx
 obtain⟨g1,g2⟩:=h.rg x hm
 have hme:=mem_erase_nd h.nd hx
 have tb:∀j,bitOf (turnBit d (x-k.zero)) j=if j=x-k.zero then !bitOf d (x-k.zero) else bitOf d j:=fun j=>turnBit_bit h.b (by have:=h.l;omega)
 refine⟨h.b0,h.l0,turnBit_bytes h.b,turnBit_len.trans h.l,h.nd.sublist (List.eraseIdx_sublist m a),fun y hy=>h.rg y ((hme y).1 hy).1,fun y hy=>h.fr y ((hme y).1 hy).1,fun j hj=>?_⟩
 rw [tb]
 by_cases e:j=x-k.zero
 ·have e2:j+k.zero=x:=by omega
  rw [if_pos e,h.bt _ g2,←e,e2,decide_eq_true hm,decide_eq_false (fun e3=>((hme x).1 e3).2 rfl)]
  have:=h.fr x hm
  rw [←e] at this
  rw [this]
  rfl
 ·rw [if_neg e,h.bt j hj]
  have:(j+k.zero∈m.eraseIdx a)↔j+k.zero∈m:=by
   rw [hme]
   exact⟨fun e3=>e3.1,fun e3=>⟨e3,by omega⟩⟩
  simp only [this]
theorem OV.back (h:OV d0 d k []):d=d0:=bits_same h.b h.b0 (h.l.trans h.l0.symm) (fun i hi=>by rw [h.bt i (by have:=h.l;omega)];simp)
theorem OV.ne (h:OV d0 d k m) (hm:m≠ []):d≠d0:=fun e=>by
 obtain⟨x,hx⟩:=List.exists_mem_of_ne_nil m hm
 obtain⟨g1,g2⟩:=h.rg x hx
 have h1:=h.bt _ g2
 rw [e,h.fr x hx,Nat.sub_add_cancel g1,decide_eq_true hx] at h1
 cases h1
end
section
variable {G:SG} {S:DS} {T T0:TG} {tb tn:List Nat}
theorem sees_put {bm:Nat} {d:List Int} (hok:CM.Ok T.puts) (i:Nat):({T with puts:=CM.put T.puts bm d}:TG).sees G S i=if i=bm then d else T.sees G S i:=by
 show (CM.get (CM.put T.puts bm d) i).getD _=_
 rw [CM.get_put _ _ _ _ hok]
 split <;> rfl
theorem QF.take2 (h:QF G S T tb tn) (hd:G.L.dead S=false) (h2:2≤G.y.blocks) (hok:CM.Ok T.puts) (hy:YOk G.y) (b:Bool) (hby:Bytes (T.sees G S (stB b G.y).bm)) (hl:(T.sees G S (stB b G.y).bm).length=512) (hfl:(if b then tn else tb).length<(stB b G.y).cnt):
  ∃c T',T.takes G S (stB b G.y)=(((c+(stB b G.y).zero:Nat):Int),0,T')∧c<4096∧bitOf (T.sees G S (stB b G.y).bm) c=false∧(∀i,T'.sees G S i=if i=(stB b G.y).bm then turnBit (T.sees G S (stB b G.y).bm) c else T.sees G S i)∧QF G S T' (if b then tb else tb ++ [c+(stB b G.y).zero]) (if b then tn ++ [c+(stB b G.y).zero] else tn):=by
 have hr:=h.refusal hd h2 b
 have hk:=stB_ok hy b
 have hkn:=h.of b
 cases hlow:lowBit (T.sees G S (stB b G.y).bm) ((stB b G.y).first-(stB b G.y).zero) (stB b G.y).cnt with
 |none=>
  have:=hkn.full hlow
  omega
 |some c=>
  obtain⟨r1,r2,r3,r4,r5,r6⟩:=hkn.take hk hby hl hlow
  have hp:=h.put hd h2 hok b (d:=turnBit (T.sees G S (stB b G.y).bm) c) (turnBit_len.trans hl) (turn_ne hby hl r5)
  have hq:=h.set hok b r6
  refine⟨c,{T with puts:=CM.put T.puts (stB b G.y).bm (turnBit (T.sees G S (stB b G.y).bm) c)},?_,r5,r4,fun i=>sees_put hok i,?_⟩
  ·have e:T.ptake G S (stB b G.y)=(some (c+(stB b G.y).zero),0,{T with puts:=CM.put T.puts (stB b G.y).bm (turnBit (T.sees G S (stB b G.y).bm) c)}):=by
    unfold TG.ptake
    rw [if_neg (fun h=>h hr),hlow]
    unfold TG.ptook
    dsimp only
    rw [hp]
    rfl
   unfold TG.takes
   rw [e]
  ·cases b
   ·exact hq
   ·exact hq
theorem QF.drop2 (h:QF G S T tb tn) (hd:G.L.dead S=false) (h2:2≤G.y.blocks) (hok:CM.Ok T.puts) (hy:YOk G.y) (b:Bool) (hby:Bytes (T.sees G S (stB b G.y).bm)) (hl:(T.sees G S (stB b G.y).bm).length=512) {a x:Nat} (hx:(if b then tn else tb)[a]? =some x):
  ∃T',T.pdrop G S (stB b G.y) x=(0,T')∧(∀i,T'.sees G S i=if i=(stB b G.y).bm then turnBit (T.sees G S (stB b G.y).bm) (x-(stB b G.y).zero) else T.sees G S i)∧QF G S T' (if b then tb else tb.eraseIdx a) (if b then tn.eraseIdx a else tn):=by
 have hk:=stB_ok hy b
 have hr:=h.refusal hd h2 b
 have hkn:=h.of b
 obtain⟨ha,_⟩:=List.getElem?_eq_some_iff.1 hx
 obtain⟨⟨r1,r2⟩,r3,r4,r5,r6⟩:=hkn.drop hk hby hl ha hx
 have hp:=h.put hd h2 hok b (d:=turnBit (T.sees G S (stB b G.y).bm) (x-(stB b G.y).zero)) (turnBit_len.trans hl) (turn_ne hby hl r5)
 have hq:=h.set hok b r6
 refine⟨{T with puts:=CM.put T.puts (stB b G.y).bm (turnBit (T.sees G S (stB b G.y).bm) (x-(stB b G.y).zero))},?_,fun i=>sees_put hok i,?_⟩
 ·unfold TG.pdrop
  rw [if_neg (fun e=>e (h.state hd)),if_neg (by omega),if_neg (fun e=>e hr),Int.toNat_natCast,if_neg (by rw [r3];decide),hp]
 ·cases b
  ·exact hq
  ·exact hq
structure BK (G:SG) (S:DS) (T0 T:TG) (b:Bool) (tb tn mine:List Nat):Prop where
 qf:QF G S T (if b then tb else tb ++ mine) (if b then tn ++ mine else tn)
 ov:OV (T0.sees G S (stB b G.y).bm) (T.sees G S (stB b G.y).bm) (stB b G.y) mine
 ot:∀i,i≠(stB b G.y).bm→T.sees G S i=T0.sees G S i
theorem BK.start (h:QF G S T tb tn) (b:Bool) (hby:Bytes (T.sees G S (stB b G.y).bm)) (hl:(T.sees G S (stB b G.y).bm).length=512):BK G S T T b tb tn []:=
   ⟨by rw [List.append_nil,List.append_nil];cases b <;> exact h,OV.start hby hl,fun _ _=>rfl⟩
theorem BK.take {b:Bool} {mine:List Nat} (h:BK G S T0 T b tb tn mine) (hd:G.L.dead S=false) (h2:2≤G.y.blocks) (hok:CM.Ok T.puts) (hy:YOk G.y) (hfl:(if b then tn else tb).length+mine.length<(stB b G.y).cnt):
  ∃(x:Nat) (T':TG),T.takes G S (stB b G.y)=((x:Int),0,T')∧BK G S T0 T' b tb tn (mine ++ [x]):=by
 obtain⟨c,T',e1,e2,e3,e4,e5⟩:=h.qf.take2 hd h2 hok hy b h.ov.b h.ov.l (by cases b <;> simp <;> simp at hfl <;> omega)
 refine⟨_,T',e1,?_,?_,fun i hi=>?_⟩
 ·cases b
  ·simpa [List.append_assoc] using e5
  ·simpa [List.append_assoc] using e5
 ·rw [e4,if_pos rfl]
  exact h.ov.take e2 e3
 ·rw [e4,if_neg hi]
  exact h.ot i hi
theorem BK.drop {b:Bool} {mine:List Nat} {a x:Nat} (h:BK G S T0 T b tb tn mine) (hd:G.L.dead S=false) (h2:2≤G.y.blocks) (hok:CM.Ok T.puts) (hy:YOk G.y) (hx:mine[a]? =some x):
  ∃T':TG,T.pdrop G S (stB b G.y) x=(0,T')∧T'.caught G S 0=T'∧BK G S T0 T' b tb tn (mine.eraseIdx a):=by
 have hap:∀l:List Nat,(l ++ mine)[l.length+a]? =some x∧(l ++ mine).eraseIdx (l.length+a)=l ++ mine.eraseIdx a:=fun l=>by
  refine⟨?_,?_⟩
  ·rw [List.getElem?_append_right (by omega),Nat.add_sub_cancel_left,hx]
  ·rw [List.eraseIdx_append_of_length_le (by omega),Nat.add_sub_cancel_left]
 obtain⟨T',e1,e2,e3⟩:=h.qf.drop2 hd h2 hok hy b h.ov.b h.ov.l (a:=(if b then tn else tb).length+a) (x:=x) (by cases b;exact(hap tb).1;exact(hap tn).1)
 have e4:QF G S T' (if b then tb else tb ++ mine.eraseIdx a) (if b then tn ++ mine.eraseIdx a else tn):=by
  cases b
  ·have e5:QF G S T' ((tb ++ mine).eraseIdx (tb.length+a)) tn:=e3
   rw [(hap tb).2] at e5
   exact e5
  ·have e5:QF G S T' tb ((tn ++ mine).eraseIdx (tn.length+a)):=e3
   rw [(hap tn).2] at e5
   exact e5
 refine⟨T',e1,(caught_ok hd e4).1,e4,?_,fun i hi=>?_⟩
 ·rw [e2,if_pos rfl]
  exact h.ov.drop hx
 ·rw [e2,if_neg hi]
  exact h.ot i hi
def TG.maps (T:TG) (G:SG) (S:DS):List Int:=T.sees G S 0 ++ T.sees G S 1
theorem BK.back {b:Bool} (h:BK G S T0 T b tb tn []):T.maps G S=T0.maps G S:=by
 have h1:=h.ov.back
 unfold TG.maps
 cases b
 ·have h2:T.sees G S 0=T0.sees G S 0:=h1
  rw [h2,h.ot 1 (by simp [stB,bSt])]
 ·have h2:T.sees G S 1=T0.sees G S 1:=h1
  rw [h2,h.ot 0 (by simp [stB,nSt])]
theorem BK.ne {b:Bool} {mine:List Nat} (h:BK G S T0 T b tb tn mine) (hm:mine≠ []):T.maps G S≠T0.maps G S:=fun e=>by
 have h1:=h.ov.ne hm
 have h2:=h.ov.l
 have h3:=h.ov.l0
 unfold TG.maps at e
 cases b
 ·have h4:T.sees G S 1=T0.sees G S 1:=h.ot 1 (by simp [stB,bSt])
  rw [h4] at e
  exact h1 (List.append_cancel_right e)
 ·have h4:T.sees G S 0=T0.sees G S 0:=h.ot 0 (by simp [stB,nSt])
  rw [h4] at e
  exact h1 (List.append_cancel_left e)
end
end Go.Proofs.YtcakbbkbgfhfaaaGreat
end

section
namespace Go.Proofs.YtcakbbkbgfhfaaaGreat
open Go.RowKit Go.Maps
section
variable {w:World} {F:Nat→Prop} {p s cR q l m t n a1:Nat} {S:DS} {G:SG} {T:TG}
theorem get6_any (h:TX w F p s cR q l m t n S G T) (b:Nat) (r0:T.refusal G S b=0):Calls Tryz.prog 35 #[.pointer (some ⟨t,0,none⟩), .int .i64 (b:Int)] w fun e w'=>(∃g,e= .returned (.tuple #[.slice (some ⟨g,0,none⟩) 512 512, .int .i64 0])∧w.heap.size≤g∧Blk w' 108 g (T.sees G S b))∧TX w' F p s (cR+1) q l m t n S G T∧Keeps F w w':=
   (Get_any h.st h.tx (b:Int) h.big).mono (fun e w' ⟨hx,hd,hk⟩=>by
  unfold GetOut at hx
  rw [if_neg (fun hh=>hh r0),Int.toNat_natCast] at hx
  exact⟨hx,h.asked hd hk,hk⟩)
set_option maxRecDepth 20000 in
set_option maxHeartbeats 4000000 in
theorem bitmaps_any (h:TX w F p s cR q l m t n S G T) (hp:PoolAt w F a1 t n) (r0:T.refusal G S (0:Nat)=0) (r1:T.refusal G S (1:Nat)=0) (h2:2≤G.y.blocks):
  Calls Tryz.prog 17 #[.pointer (some ⟨a1,0,none⟩)] w fun e w'=>∃g c,e= .returned (.slice (some ⟨g,0,none⟩) 1024 c)∧w.heap.size≤g∧RowAt w' 5 g c (bs (T.maps G S))∧TX w' F p s (cR+2) q l m t n S G T∧Keeps (OwT F t n) w w':=by
 have k1:=get6_any h 0 r0
 have hla:=h.len 0 (by omega)
 have hlc:=h.len 1 (by omega)
 unfold TG.maps
 have c0:=hp.c0
 have hlt:=h.st.d.lt
 have HP:=Hid.mk hp
 have HR:=Hid.mk r1
 have HLT:=Hid.mk hlt
 clear h hp r0 r1 hlt
 have k2:=fun (w1:World) (hx1:TX w1 F p s (cR+1) q l m t n S G T)=>get6_any hx1 1 HR.out
 generalize T.sees G S 0=A at*
 generalize T.sees G S 1=C at*
 go_enter Tryz.func17,Tryz.ntmps17
 go_wp2_with fail
 refine k1.mono ?_
 rintro e w1 ⟨⟨g,rfl,hg,hblk⟩,hx1,hk1⟩
 have hp1:=HP.out.keep (hk1.mono (fun _ h=> .inl h))
 have c0':=hp1.c0
 have k3:=k2 w1 hx1
 have HE1:=Hid.mk (And.intro hblk hk1)
 clear k1 k2 hx1 hp1 c0 hblk hk1
 go_wp2_with fail
 refine k3.mono ?_
 rintro e w2 ⟨⟨g2,rfl,hg2,hblk2⟩,hx2,hk2⟩
 have kn:=num6_any 0 w2
 have hb1:Blk w2 108 g A:=(hk2.block g HE1.out.1.lt (fun hf=>by have:=HLT.out g hf;omega)).trans HE1.out.1
 have hK:Hid (Keeps (OwT F t n) w w2):=(HE1.out.2.trans hk2 (fun _ h=> .inl h)).mono (fun _ h=> .inl h)
 have hz2:w.heap.size≤w2.heap.size:=hK.out.size
 have HX:=Hid.mk hx2
 have HA:=Hid.mk hb1
 have HC:=Hid.mk hblk2
 clear k3 hx2 hb1 hblk2 hk2 HE1 HR HP c0' HLT hg hg2
 go_wp2_with fail
 refine kn.mono ?_
 rintro e wx ⟨rfl,hwx⟩
 have hwx':=hwx.symm
 subst hwx'
 clear hwx
 go_wp2_with fail
 refine kn.mono ?_
 rintro e wx ⟨rfl,hwx⟩
 have hwx':=hwx.symm
 subst hwx'
 clear hwx kn
 go_wp2
 go_loopw [7,8] (fun v i wr=>∃j:Nat,j≤512∧i= .int .i64 (j:Int)∧Own wr w2.heap.size v (A.take j)∧Below w2.heap.size w2 wr) (fun _ i _=>512-(intOf i).toNat)
 case atStart=>exact⟨0,Nat.zero_le _,rfl,Own.nil _ _,Below.refl _ _⟩
 case round=>
  obtain⟨j,hj,rfl,hown,hbx⟩:=hrel
  have Hown:=Hid.mk hown
  have HBx:=Hid.mk hbx
  have hzx:=hbx.size
  clear hown hbx
  by_cases hlm:j<512
  ·have hlm':(j:Int)<512:=by omega
   have hc:=cell_later HBx.out (HA.out.cell (i:=j) (by omega))
   have HeN:=Hid.mk (take_snoc A j (by omega))
   have hll:(A.take j).length≤512:=by rw [List.length_take];omega
   generalize A.getD j 0=x at*
   go_wp2_with (at_builtin;refine wpList_app1 rfl _ _ rfl w2.heap.size u7 _ x rfl rfl Hown.out ?b1 ?b2 ?_)
   case b1=>omega
   case b2=>exact hzx
   intro v' w' ho hb'
   have HO:Hid (Own w' w2.heap.size v' (A.take (j+1))):=by rw [←HeN.out];exact ho
   have HB':=Hid.mk (HBx.out.trans hb')
   clear ho hb' Hown HBx HeN
   go_wp2
   go_roundw
   case rel=>exact⟨j+1,by omega,by go_num,HO.out,HB'.out⟩
   case measure=>simp [intOf];omega
  ·have hlm':¬(j:Int)<512:=by omega
   have HO:Hid (Own wr w2.heap.size u7 (A ++ C.take 0)):=by
    have:=Hown.out
    rw [List.take_of_length_le (by omega)] at this
    show Own _ _ _ _
    simpa using this
   clear Hown
   go_wp2
   go_loopw [7,9] (fun v i wy=>∃j:Nat,j≤512∧i= .int .i64 (j:Int)∧Own wy w2.heap.size v (A ++ C.take j)∧Below w2.heap.size w2 wy) (fun _ i _=>512-(intOf i).toNat)
   case atStart=>exact⟨0,Nat.zero_le _,rfl,HO.out,HBx.out⟩
   case round=>
    clear HO HBx hlm hlm' hzx hj
    obtain⟨j,hj,rfl,hown,hbx⟩:=hrel
    have Hown:=Hid.mk hown
    have HBx:=Hid.mk hbx
    have hzx:=hbx.size
    clear hown hbx
    by_cases hlm:j<512
    ·have hlm':(j:Int)<512:=by omega
     have hc:=cell_later HBx.out (HC.out.cell (i:=j) (by omega))
     have HeN:=Hid.mk (take_snoc C j (by omega))
     have hll:(A ++ C.take j).length≤1024:=by rw [List.length_append,List.length_take];omega
     generalize C.getD j 0=x at*
     go_wp2_with (at_builtin;refine wpList_app1 rfl _ _ rfl w2.heap.size u7 _ x rfl rfl Hown.out ?b1 ?b2 ?_)
     case b1=>omega
     case b2=>exact hzx
     intro v' w' ho hb'
     have HO:Hid (Own w' w2.heap.size v' (A ++ C.take (j+1))):=by rw [←HeN.out];exact ho
     have HB':=Hid.mk (HBx.out.trans hb')
     clear ho hb' Hown HBx HeN
     go_wp2
     go_roundw
     case rel=>exact⟨j+1,by omega,by go_num,HO.out,HB'.out⟩
     case measure=>simp [intOf];omega
    ·have hlm':¬(j:Int)<512:=by omega
     have ho:=Hown.out
     rw [List.take_of_length_le (by omega)] at ho
     have hAC:(A ++ C).length=1024:=by rw [List.length_append];omega
     obtain⟨g5,c5,e5,hg5,hr5⟩:=ho.row' (by omega)
     rw [hAC] at e5
     subst e5
     have HE:=Hid.mk (And.intro hg5 hr5)
     clear Hown ho hg5 hr5
     go_wp2
     go_ret
     exact⟨g5,c5,rfl,by have:=HE.out.1;omega,by rw [←List.map_append];exact HE.out.2,HX.out.later HBx.out,hK.out.trans (Keeps.of_below (fun _=>False) HBx.out) (fun _ h=>h.elim)⟩
end
end Go.Proofs.YtcakbbkbgfhfaaaGreat
end
