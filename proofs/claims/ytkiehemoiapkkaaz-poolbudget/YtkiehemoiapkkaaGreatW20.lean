import Derived.Test.YtkiehemoiapkkaaGreatW11
import Derived.Test.YtkiehemoiapkkaaGreatW19
section
namespace Go.Proofs.YtkiehemoiapkkaaGreat
open Go.RowKit Go.Maps
def rdAll (blocks:Nat):CM→List (List Int)→Option CM
 |ms, []=>some ms
 |ms,r :: rs=>match rdRec blocks r with
  |none=>none
  |some cs=>rdAll blocks (CM.over ms cs) rs
def sredo (S:DS) (s:Nat) (y:LY) (ov:CM) (rs:List (List Int)):Int×DS:=
 if rs= [] then (0,S) else if (sbring S s y.home ov).1≠0 then sbring S s y.home ov else (sbring S s y.home ov).2.fl s
theorem over_keys {ms:CM} {P:Nat→Prop}:∀{cs:CM},(∀x∈ms,P x.1)→(∀x∈cs,P x.1)→∀x∈CM.over ms cs,P x.1:=by
 intro cs
 induction cs generalizing ms with
 |nil=>intro h _ x hx;exact h x hx
 |cons q qs ih=>
  intro h1 h2
  have e:CM.over ms (q :: qs)=CM.over (CM.put ms q.1 q.2) qs:=rfl
  rw [e]
  refine ih (fun x hx=>?_) (fun x hx=>h2 x (List.mem_cons_of_mem _ hx))
  rcases CM.put_key hx with rfl|hx
  ·exact h2 q (by simp)
  ·exact h1 x hx
theorem Ch.notCells {w:World} {m:Nat} {ms:CM} (h:Ch w m ms) {cur:Array Value} {t:TypeId} {fz:Nat×Nat} (hc:w.heap[m]? =some (.cells cur t fz)):False:=by
 obtain⟨D,h⟩:=h
 obtain⟨es,clock,h1,_⟩:=h.own
 rw [h1] at hc
 cases hc
def Recs (w:World) (v:Value) (rs:List (List Int)):Prop:=
 ∃vs,w.ownsRow 0 44 1 v rs.length vs∧∀i (hi:i<rs.length),∃g c,vs[i]? =some (.slice (some ⟨g,0,none⟩) (rs[i]).length c)∧RowAt w 5 g c (bs rs[i])
theorem Recs.shape {w:World} {v:Value} {rs:List (List Int)} (h:Recs w v rs):∃a n c,v= .slice a n c∧n=rs.length∧∀i (hi:i<rs.length),∃b g c',a=some ⟨b,0,none⟩∧w.cell? ⟨b,i,none⟩=some (.slice (some ⟨g,0,none⟩) (rs[i]).length c')∧RowAt w 5 g c' (bs rs[i]):=by
 obtain⟨vs,ho,hr⟩:=h
 have ho':=ho
 obtain⟨hl,⟨rfl,h0⟩|⟨g,cap,cur,rfl,hg,hb,h1⟩⟩:=ho
 ·exact⟨none,0,0,rfl,h0.symm,fun i hi=>by omega⟩
 ·refine⟨_,_,cap,rfl,rfl,fun i hi=>?_⟩
  obtain⟨g',c',h2,h3⟩:=hr i hi
  refine⟨g,g',c',rfl,?_,h3⟩
  have:=ho'.cells (g:=g) rfl i _ h2
  rwa [addr_add,Nat.zero_add] at this
theorem Recs.keep {w w':World} {m:Nat} {ms:CM} {v:Value} {rs:List (List Int)} (h:Recs w v rs) (hm:Ch w m ms) (hk:Keeps (fun k=>k=m) w w'):Recs w' v rs:=by
 obtain⟨vs,ho,hr⟩:=h
 refine⟨vs,owns_agreeS ho (fun g hg=>?_),fun i hi=>?_⟩
 ·obtain⟨cur,hc⟩:=owns_block ho hg
  exact hk.block g (lt_there hc) (fun e=>hm.notCells (by rw [←e];exact hc))
 ·obtain⟨g,c,h1,h2⟩:=hr i hi
  refine⟨g,c,h1,h2.agree (hk.block g h2.lt (fun e=>?_))⟩
  obtain⟨cur,hc,_⟩:=h2
  exact hm.notCells (by rw [←e];exact hc)
section
variable {w:World} {F:Nat→Prop} {p s c q l m:Nat} {S:DS} {y:LY} {busy:Bool}
set_option maxRecDepth 20000 in
set_option maxHeartbeats 8000000 in
theorem redo_any (hd:B.DiskR w F p s S c) (hs:StP w q p l m y busy) (hm:Ch w m []) (hq:¬F q) (hFm:¬F m) (hy:y.home+y.blocks≤s) {v:Value} {rs:List (List Int)} (hv:Recs w v rs) (hrb:∀r∈rs,Bytes r∧r.length≤1000000) (hrl:rs.length≤1000000) (hbig:S.puts.length+3000≤4000000000000):
  Calls Tryz.prog 54 #[.pointer (some ⟨q,0,none⟩),v] w fun e w'=>(rdAll y.blocks [] rs=none∧e= .panicked sGave∧B.DiskR w' F p s S c∧Keeps (fun k=>k=m) w w')∨(∃ov,rdAll y.blocks [] rs=some ov∧e= .returned (.int .i64 (sredo S s y ov rs).1)∧B.DiskR w' (more F w w') p s (sredo S s y ov rs).2 c∧Keeps (fun k=>k=m∨F k) w w'∧((sredo S s y ov rs).1=0→Ch w' m [])):=by
 obtain⟨a,n,cp,rfl,hn,hcell⟩:=hv.shape
 have hss:=hd.ok.hi
 have HH:=Hid.mk (And.intro hd (And.intro hs (And.intro hm (And.intro hv (And.intro hrb hrl)))))
 obtain⟨R,hR⟩:∃R,R=rdAll y.blocks [] rs:=⟨_,rfl⟩
 rw [←hR]
 clear hd hs hm hv hrb hcell
 by_cases k0:n=0
 ·have d0:(((n:Nat):Int) == 0)=true:=by rw [k0];rfl
  obtain rfl:rs= []:=List.eq_nil_of_length_eq_zero (by omega)
  have HR:=Hid.mk (show R=some [] from hR)
  clear hR k0 hn
  go_enter Tryz.func54,Tryz.ntmps54
  go_wp2
  go_ret
  refine .inr ⟨[],HR.out,rfl,?_,Keeps.refl _ _,fun _=>HH.out.2.2.1⟩
  exact HH.out.1.more
 ·have d0:(((n:Nat):Int) == 0)=false:=by
   rw [beq_eq_false_iff_ne]
   omega
  have HR:=Hid.mk (And.intro hR (And.intro hn k0))
  have hn6:n≤1000000:=by omega
  clear hR k0 hn hrl
  go_enter Tryz.func54,Tryz.ntmps54
  go_wp2
  go_loopw [14] (fun iv wr=>∃(i:Nat) (ms:CM),iv= .int .i64 i∧i≤n∧Ch wr m ms∧(∀x∈ms,x.1<y.blocks)∧Keeps (fun k=>k=m) w wr∧R=rdAll y.blocks ms (rs.drop i)) (fun iv _=>n-(intOf iv).toNat)
  case atStart=>exact⟨0, [],rfl,Nat.zero_le _,HH.out.2.2.1,(fun x hx=>by cases hx),Keeps.refl _ _,HR.out.1⟩
  case round=>
   obtain⟨i,ms,rfl,hi,hch,hkeys,hkp,hRi⟩:=hrel
   have hqm:q≠m:=fun e=>HH.out.2.2.1.notCells (by rw [←e];exact HH.out.2.1)
   have hst:=HH.out.2.1.keep hkp (fun e=>hqm e)
   have hrec:=HH.out.2.2.2.1.keep HH.out.2.2.1 hkp
   have hdr:=HH.out.1.keep hkp (fun k hF e=>hFm (e▸hF))
   by_cases hlt:i<n
   ·have hlt':(i:Int)<(n:Int):=by omega
    have hil:i<rs.length:=by rw [←HR.out.2.1];exact hlt
    obtain⟨a2,n2,cp2,e2,hnn,hcell⟩:=hrec.shape
    cases e2
    clear hnn
    obtain⟨b,g,c',rfl,q0,hrow⟩:=hcell i hil
    have hby:=HH.out.2.2.2.2.1 _ (List.getElem_mem hil)
    have hgm:g≠m:=fun e=>by
     obtain⟨cur,hc,_⟩:=hrow
     exact hch.notCells (by rw [←e];exact hc)
    have h1:=fun (wx:World) (hb:Below wr.heap.size wr wx)=>sread_any (hch.later hb) (some ⟨g,0,none⟩) (rs[i]).length c' rs[i] (hrow.src.later hb) hby.1 hby.2 (by have:=hrow.le;simpa [bs] using this) (by have:=hrow.max;unfold maxLen at this;omega) (fun x hx _=>by cases hx;exact hgm) y.blocks (by omega)
    rw [List.drop_eq_getElem_cons hil] at hRi
    have HI:=Hid.mk (And.intro hkeys (And.intro hkp (And.intro hRi hdr)))
    generalize rs[i]=r at*
    have cc7:=hst.c7
    have cc4:=hst.c4
    have HC:=Hid.mk (And.intro cc7 cc4)
    have HNo:=Hid.mk (fun (e1:rdRec y.blocks r=none)=>(by rw [HI.out.2.2.1];unfold rdAll;rw [e1]:R=none))
    have hkd:Below wr.heap.size wr wr.drew:=below_drew (Below.refl _ _)
    have HKy:=Hid.mk (fun (wy:World) (hky:Keeps (fun k=>k=m) wr.drew wy)=>((HI.out.2.1.trans (Keeps.of_below (fun _=>False) hkd) (fun _ h=>h.elim)).trans hky (fun _ h=> .inl h):Keeps (fun k=>k=m) w wy))
    have HCy:=Hid.mk (fun (wy:World) (hky:Keeps (fun k=>k=m) wr.drew wy)=>(⟨((hst.later hkd).keep hky (fun e=>hqm e)).c7,((hst.later hkd).keep hky (fun e=>hqm e)).c4⟩:wy.cell? ⟨q,7,none⟩=some (.map (some m))∧wy.cell? ⟨q,4,none⟩=some (.int .i64 (y.blocks:Int))))
    clear hkeys hkp hRi hdr hch hrec hst hcell hrow hby hgm
    go_wp2_with fail
    refine wp_region_held_drew (S:=(fun w'=>w'.cell? ⟨q,7,none⟩=some (.map (some m))∧w'.cell? ⟨q,4,none⟩=some (.int .i64 (y.blocks:Int)))) (by kernel_rfl) (HC.out) (fun hHeld=>?_)
    refine wpAnyH_take (i:=0) (oi:={dst:=some 18,op:=Op.move (Operand.tmp 0),type:=34,pos:= "store.go:111",after:= #[],guard:=none}) (v:= .pointer (some ⟨q,0,none⟩)) rfl (by kernel_rfl) (by kernel_rfl) (by kernel_rfl) (fun _ _ _ h=>h) (Or.inl ⟨by rfl,?_⟩) (by assumption) ?_
    ·intro w hSw
     (try dsimp only at hSw)
     go_simp
    try simp only [Act.put,List.setIfInBounds_toArray,List.set_cons_zero,List.set_cons_succ]
    refine wpAnyH_take (i:=1) (oi:={dst:=some 19,op:=Op.nilCheck (Operand.tmp 18),type:=0,pos:= "store.go:111",after:= #[{on:=0,ground:=Ground.data}],guard:=none}) (v:= .pointer (some ⟨q,0,none⟩)) rfl (by kernel_rfl) (by kernel_rfl) (by kernel_rfl) (fun _ _ _ h=>h) (Or.inl ⟨by rfl,?_⟩) (by assumption) ?_
    ·intro w hSw
     (try dsimp only at hSw)
     go_simp
    try simp only [Act.put,List.setIfInBounds_toArray,List.set_cons_zero,List.set_cons_succ]
    refine wpAnyH_take (i:=2) (oi:={dst:=some 20,op:=Op.fieldAddr 96 (Operand.tmp 19) 3,type:=0,pos:= "store.go:111",after:= #[{on:=1,ground:=Ground.data}],guard:=none}) (v:= .pointer (some ⟨q,7,none⟩)) rfl (by kernel_rfl) (by kernel_rfl) (by kernel_rfl) (fun _ _ _ h=>h) (Or.inl ⟨by rfl,?_⟩) (by assumption) ?_
    ·intro w hSw
     (try dsimp only at hSw)
     go_simp
    try simp only [Act.put,List.setIfInBounds_toArray,List.set_cons_zero,List.set_cons_succ]
    refine wpAnyH_take (i:=3) (oi:={dst:=some 21,op:=Op.load 94 (Operand.tmp 20),type:=94,pos:= "store.go:111",after:= #[{on:=2,ground:=Ground.data}],guard:=none}) (v:= .map (some m)) rfl (by kernel_rfl) (by kernel_rfl) (by kernel_rfl) (fun _ _ _ h=>h) (Or.inl ⟨by rfl,?_⟩) (by assumption) ?_
    ·intro w hSw
     (try dsimp only at hSw)
     go_simp
    try simp only [Act.put,List.setIfInBounds_toArray,List.set_cons_zero,List.set_cons_succ]
    refine wpAnyH_take (i:=4) (oi:={dst:=some 22,op:=Op.move (Operand.tmp 6),type:=44,pos:= "store.go:111",after:= #[],guard:=none}) (v:= .slice (some ⟨g,0,none⟩) r.length c') rfl (by kernel_rfl) (by kernel_rfl) (by kernel_rfl) (fun _ _ _ h=>h) (Or.inl ⟨by rfl,?_⟩) (by assumption) ?_
    ·intro w hSw
     (try dsimp only at hSw)
     go_simp
    try simp only [Act.put,List.setIfInBounds_toArray,List.set_cons_zero,List.set_cons_succ]
    refine wpAnyH_take (i:=5) (oi:={dst:=some 23,op:=Op.move (Operand.tmp 0),type:=34,pos:= "store.go:111",after:= #[],guard:=none}) (v:= .pointer (some ⟨q,0,none⟩)) rfl (by kernel_rfl) (by kernel_rfl) (by kernel_rfl) (fun _ _ _ h=>h) (Or.inl ⟨by rfl,?_⟩) (by assumption) ?_
    ·intro w hSw
     (try dsimp only at hSw)
     go_simp
    try simp only [Act.put,List.setIfInBounds_toArray,List.set_cons_zero,List.set_cons_succ]
    refine wpAnyH_take (i:=6) (oi:={dst:=some 24,op:=Op.nilCheck (Operand.tmp 23),type:=0,pos:= "store.go:111",after:= #[{on:=5,ground:=Ground.data}],guard:=none}) (v:= .pointer (some ⟨q,0,none⟩)) rfl (by kernel_rfl) (by kernel_rfl) (by kernel_rfl) (fun _ _ _ h=>h) (Or.inl ⟨by rfl,?_⟩) (by assumption) ?_
    ·intro w hSw
     (try dsimp only at hSw)
     go_simp
    try simp only [Act.put,List.setIfInBounds_toArray,List.set_cons_zero,List.set_cons_succ]
    refine wpAnyH_take (i:=7) (oi:={dst:=some 25,op:=Op.fieldAddr 96 (Operand.tmp 24) 2,type:=0,pos:= "store.go:111",after:= #[{on:=6,ground:=Ground.data}],guard:=none}) (v:= .pointer (some ⟨q,2,none⟩)) rfl (by kernel_rfl) (by kernel_rfl) (by kernel_rfl) (fun _ _ _ h=>h) (Or.inl ⟨by rfl,?_⟩) (by assumption) ?_
    ·intro w hSw
     (try dsimp only at hSw)
     go_simp
    try simp only [Act.put,List.setIfInBounds_toArray,List.set_cons_zero,List.set_cons_succ]
    refine wpAnyH_take (i:=8) (oi:={dst:=some 26,op:=Op.fieldAddr 87 (Operand.tmp 25) 2,type:=0,pos:= "store.go:111",after:= #[{on:=7,ground:=Ground.data}],guard:=none}) (v:= .pointer (some ⟨q,4,none⟩)) rfl (by kernel_rfl) (by kernel_rfl) (by kernel_rfl) (fun _ _ _ h=>h) (Or.inl ⟨by rfl,?_⟩) (by assumption) ?_
    ·intro w hSw
     (try dsimp only at hSw)
     go_simp
    try simp only [Act.put,List.setIfInBounds_toArray,List.set_cons_zero,List.set_cons_succ]
    refine wpAnyH_take (i:=9) (oi:={dst:=some 27,op:=Op.load 3 (Operand.tmp 26),type:=3,pos:= "store.go:111",after:= #[{on:=8,ground:=Ground.data}],guard:=none}) (v:= .int .i64 (y.blocks:Int)) rfl (by kernel_rfl) (by kernel_rfl) (by kernel_rfl) (fun _ _ _ h=>h) (Or.inl ⟨by rfl,?_⟩) (by assumption) ?_
    ·intro w hSw
     (try dsimp only at hSw)
     go_simp
    try simp only [Act.put,List.setIfInBounds_toArray,List.set_cons_zero,List.set_cons_succ]
    refine wpAnyH_ready (rs:= [10]) (by kernel_rfl) (by simp) ?_
    refine AllReadyH.cons (o:={dst:=some 28,op:=Op.call {callee:=Callee.value (Operand.func 106),args:= #[Operand.tmp 21,Operand.tmp 22,Operand.tmp 27],argTypes:= #[94,44,3]},type:=4,pos:= "store.go:111",after:= #[{on:=3,ground:=Ground.data},{on:=4,ground:=Ground.data},{on:=9,ground:=Ground.data}],guard:=none}) rfl (fun K hK=>?_) AllReadyH.nil
    go_simp
    refine(h1 _ (below_drew (Below.refl _ _))).mono ?_
    rintro e wy ⟨hky,hpost⟩
    rcases hpost.symm with ⟨e1,rfl,_⟩|⟨cs,e1,rfl,hch2⟩
    ·refine hK.out _ _ (HCy.out _ hky) (fun hHeld=>?_)
     clear hK K
     try simp only [Act.put,List.setIfInBounds_toArray,List.set_cons_zero,List.set_cons_succ]
     refine wpAnyH_ready (rs:= [11]) (by kernel_rfl) (by simp) ?_
     refine AllReadyH.cons (o:={dst:=some 29,op:=Op.call {callee:=Callee.value (Operand.func 105),args:= #[Operand.tmp 28],argTypes:= #[4]},type:=0,pos:= "store.go:111",after:= #[{on:=10,ground:=Ground.data},{on:=10,ground:=Ground.chain}],guard:=none}) rfl (fun K hK=>?_) AllReadyH.nil
     go_simp
     refine(smust_f wy).mono ?_
     rintro e w9 ⟨rfl,hw9⟩
     have hw9':=hw9.symm
     subst hw9'
     exact⟨rfl, .inl ⟨HNo.out e1,rfl,HH.out.1.keep (HKy.out _ hky) (fun k hF e=>hFm (e▸hF)),HKy.out _ hky⟩⟩
    refine hK.out _ _ (HCy.out _ hky) (fun hHeld=>?_)
    clear hK K
    try simp only [Act.put,List.setIfInBounds_toArray,List.set_cons_zero,List.set_cons_succ]
    refine wpAnyH_ready (rs:= [11]) (by kernel_rfl) (by simp) ?_
    refine AllReadyH.cons (o:={dst:=some 29,op:=Op.call {callee:=Callee.value (Operand.func 105),args:= #[Operand.tmp 28],argTypes:= #[4]},type:=0,pos:= "store.go:111",after:= #[{on:=10,ground:=Ground.data},{on:=10,ground:=Ground.chain}],guard:=none}) rfl (fun K hK=>?_) AllReadyH.nil
    go_simp
    refine(smust_t wy).mono ?_
    rintro e w9 ⟨rfl,hw9⟩
    have hw9':=hw9.symm
    subst hw9'
    refine hK.out _ _ (HCy.out _ hky) (fun hHeld2=>?_)
    clear hK K hHeld2
    try simp only [Act.put,List.setIfInBounds_toArray,List.set_cons_zero,List.set_cons_succ]
    refine wpAnyH_done (by kernel_rfl) ?_ _
    have hpn:=hpost
    clear hpn hpost hHeld
    have HE:=Hid.mk (And.intro (HKy.out _ hky) (And.intro e1 hch2))
    clear hky e1 hch2 h1 HCy HKy HNo hkd q0
    go_wp2
    go_roundw
    case rel=>exact⟨i+1,CM.over ms cs,by go_num,by omega,HE.out.2.2,over_keys (P:=fun k=>k<y.blocks) HI.out.1 (rdRec_keys HE.out.2.1),HE.out.1,by
     have h2:=HI.out.2.2.1
     unfold rdAll at h2
     rw [HE.out.2.1] at h2
     exact h2⟩
    case measure=>exact smeas (S:=n) (i:=i) (k:=i+1) hlt (by omega)
   ·have hlt':¬(i:Int)<(n:Int):=by omega
    rw [List.drop_eq_nil_of_le (by have:=HR.out.2.1;omega)] at hRi
    have hRs:R=some ms:=hRi
    have hsm:=hch.small
    have h2:=bringHome_any hdr hst hch hq hFm (fun x hx=>by have:=hkeys x hx;omega) hbig
    have hpl:=sbring_puts S s y.home ms
    obtain⟨T,hT⟩:∃T,T=sbring S s y.home ms:=⟨_,rfl⟩
    have hsr:sredo S s y ms rs=if T.1≠0 then T else T.2.fl s:=by
     unfold sredo
     rw [if_neg (fun e=>by rw [e] at HR;have:=HR.out.2;simp at this),←hT]
    rw [←hT] at h2 hpl
    have HD:=Hid.mk (And.intro hRs (And.intro hsr (And.intro hkp (And.intro hst (And.intro hch hdr.lt)))))
    clear hRi hRs hT hkeys hkp hst hrec hdr hch HR hsr
    go_wp2_with fail
    refine h2.mono ?_
    rintro e w2 ⟨rfl,hd2,hk2⟩
    clear h2
    have hz1:=HD.out.2.2.1.size
    have hz2:=hk2.size
    have hml:=HD.out.2.2.2.2.1.lt
    have hql:=HD.out.2.2.2.1.lt
    by_cases k1:T.1=0
    ·have d1:(T.1 == 0)=true:=by rw [k1];rfl
     have d2:(T.1 != 0)=false:=by simp [k1]
     have h3:=B.dflush hd2 (by omega)
     have hst2:=HD.out.2.2.2.1.keep hk2 hq
     have cc0:=hst2.c0
     have hsr:=HD.out.2.1
     rw [if_neg (fun h=>h k1)] at hsr
     obtain⟨U,hU⟩:∃U,U=T.2.fl s:=⟨_,rfl⟩
     rw [←hU] at h3 hsr
     have HS:=Hid.mk (And.intro hsr (And.intro hk2 (And.intro hst2 (HD.out.2.2.2.2.1.keep hk2 hFm))))
     clear hU hsr hst2 hd2 hk2 k1
     go_wp2_with fail
     refine h3.mono ?_
     rintro e w3 ⟨rfl,hd3,hk3⟩
     clear h3 cc0
     have hz3:=hk3.size
     have hmm:¬more F wr w2 m:=fun h=>by rcases h with h|h;exact hFm h;omega
     have hqm2:¬more F wr w2 q:=fun h=>by rcases h with h|h;exact hq h;omega
     have hst3:=HS.out.2.2.1.keep hk3 hqm2
     have hch3:=HS.out.2.2.2.keep hk3 hmm
     have hkk:Keeps (fun k=>k=m∨F k) w w3:=((HD.out.2.2.1.mono (G:=fun k=>k=m∨F k) (fun k e=> .inl e)).trans HS.out.2.1 (fun k h=> .inl (.inr h))).trans hk3 (fun k h=>by rcases h with h|h;exact .inl (.inr h);exact .inr (by omega))
     by_cases k2:U.1=0
     ·have d3:(U.1 != 0)=false:=by simp [k2]
      have d4:(U.1 == 0)=true:=by rw [k2];rfl
      obtain⟨w4,hclr,hch4,hk4,hz4⟩:=hch3.cleared
      have cc7:=hst3.c7
      have HZ:=Hid.mk (And.intro hd3 (And.intro hkk (And.intro hch4 (And.intro hk4 (And.intro k2 hz4)))))
      clear hd3 hk3 hst3 hch3 hkk hch4 hk4 k2 hz4
      go_wp2
      go_ret
      refine .inr ⟨ms,HD.out.1,by rw [HS.out.1,HZ.out.2.2.2.2.1];rfl,?_,HZ.out.2.1.trans HZ.out.2.2.2.1 (fun k e=> .inl (.inl e)),fun _=>HZ.out.2.2.1⟩
      rw [HS.out.1]
      have hz4:=HZ.out.2.2.2.2.2
      refine(HZ.out.1.keep HZ.out.2.2.2.1 (fun k h e=>hmm (e▸h))).mono (fun k h=>?_) (fun k h=>?_)
      ·rcases h with h|h
       ·exact .inl h
       ·exact .inr (by omega)
      ·rcases h with h|h
       ·have:=HD.out.2.2.2.2.2 k h;omega
       ·omega
     ·have d3:(U.1 != 0)=true:=by simp [k2]
      have d4:(U.1 == 0)=false:=by simpa using k2
      have HZ:=Hid.mk (And.intro hd3 (And.intro hkk k2))
      clear hd3 hk3 hst3 hch3 hkk k2
      go_wp2
      go_ret
      refine .inr ⟨ms,HD.out.1,by rw [HS.out.1];rfl,?_,HZ.out.2.1,fun h=>absurd (by rw [HS.out.1] at h;exact h) HZ.out.2.2⟩
      rw [HS.out.1]
      refine HZ.out.1.mono (fun k h=>?_) (fun k h=>?_)
      ·rcases h with h|h
       ·exact .inl h
       ·exact .inr (by omega)
      ·rcases h with h|h
       ·have:=HD.out.2.2.2.2.2 k h;omega
       ·omega
    ·have d1:(T.1 == 0)=false:=by simpa using k1
     have d2:(T.1 != 0)=true:=by simp [k1]
     have hsr:=HD.out.2.1
     rw [if_pos k1] at hsr
     have HS:=Hid.mk (And.intro hsr (And.intro hk2 (And.intro hd2 k1)))
     clear hsr hd2 hk2 k1
     go_wp2
     go_ret
     refine .inr ⟨ms,HD.out.1,by rw [HS.out.1];rfl,?_,(HD.out.2.2.1.mono (G:=fun k=>k=m∨F k) (fun k e=> .inl e)).trans HS.out.2.1 (fun k h=> .inl (.inr h)),fun h=>absurd (by rw [HS.out.1] at h;exact h) HS.out.2.2.2⟩
     rw [HS.out.1]
     refine HS.out.2.2.1.mono (fun k h=>?_) (fun k h=>?_)
     ·rcases h with h|h
      ·exact .inl h
      ·exact .inr (by omega)
     ·rcases h with h|h
      ·have:=HD.out.2.2.2.2.2 k h;omega
      ·omega
end
end Go.Proofs.YtkiehemoiapkkaaGreat
end
section
namespace Go.Proofs.YtkiehemoiapkkaaGreat.B
open Go.RowKit
set_option maxRecDepth 20000 in
set_option maxHeartbeats 8000000 in
theorem ring_any {w:World} {F:Nat→Prop} {p s cR:Nat} {S:DS} (h:DiskR w F p s S cR) (hby:S.Byt) (f n:Nat) (hfn:f+2+n≤s) (hn1:1≤n) (hn:n≤256) (hf:S.fuse≠0) (hbig:S.puts.length+1≤4000000000000):
  Calls Tryz.prog 138 #[areaV p f n] w fun e w'=>∃v,e= .returned (.tuple #[v, .int .i64 0])∧RingOut w.heap.size w' n (fun i=>pcOf (S.now (f+2+i))) v∧DiskR w' F p s S (cR+n)∧Keeps F w w':=by
 obtain⟨i0,hi,hz0,hz1,hz2⟩:=info_parts infoPiece3
 have hs:=h.ok.hi
 have HL:=Hid.mk h.lt
 have HD0:=Hid.mk (h.boxed (.cells #[.pointer (some ⟨p,0,none⟩), .int .i64 f, .int .i64 n] 136))
 have HBY:=Hid.mk hby
 clear h hby
 go_enter Tryz.func138,Tryz.ntmps138
 go_wp2_with (at_make;refine wpList_make_full _ rfl _ _ 171 rfl (w.heap.size+1) 207 i0 _ 5 Tryz.underlying171 hi hz0 hz1 _ _ _ _ n rfl rfl ?c1 ?c2 ?c3 ?c4 ?c5 ?_)
 case c1=>rfl
 case c2=>rfl
 case c3=>rw [hz2];omega
 case c4=>unfold maxLen;omega
 case c5=>simp
 intro w1 hown hgrow
 have hb1:Below (w.heap.size+1) (w.alloc (.cells #[.pointer (some ⟨p,0,none⟩), .int .i64 f, .int .i64 n] 136)) w1:=(Below.refl _ _).grown hgrow (by simp) (by intro k hk;cases hk)
 obtain⟨_,⟨hv,_⟩|⟨g',cap,cur,hv,hg0,hg,_,_,hcs,_⟩⟩:=hown
 ·cases hv
 cases hv
 have hbox:=(hb1.block _ (by omega)).trans (heap_alloc_new _ _)
 have HB1:=Hid.mk ((Hid.mk (below_box w (.cells #[.pointer (some ⟨p,0,none⟩), .int .i64 f, .int .i64 n] 136))).out.trans (hb1.mono (by omega)))
 have hlt:=lt_there hg
 have HR0:Hid (RingTo w1 w1.heap.size (w.heap.size+1) n 0 (fun i=>pcOf (S.now (f+2+i)))):=⟨⟨cur,hg,hcs⟩,fun i hi=>by omega⟩
 have HD1:=Hid.mk (HD0.out.later (by rw [World.size_alloc];exact hb1))
 have HX:=Hid.mk hbox
 have HF:Hid (¬F w.heap.size∧¬F (w.heap.size+1)):=⟨fun h=>by have:=HL.out _ h;omega,fun h=>by have:=HL.out _ h;omega⟩
 obtain⟨R,hR⟩:∃R,R=(fun i=>pcOf (S.now (f+2+i))):=⟨_,rfl⟩
 rw [←hR] at HR0
 have HRR:=Hid.mk hR
 clear hgrow hb1 hbox hg hg0 hcs hR
 go_wp2
 go_loopw [13] (fun i wr=>∃k:Nat,k≤n∧i= .int .i64 k∧RingTo wr w1.heap.size (w.heap.size+1) n k R∧DiskR wr F p s S (cR+k)∧Keeps (fun j=>F j∨j=w.heap.size+1) w1 wr) (fun i _=>n-(intOf i).toNat)
 case atStart=>exact⟨0,Nat.zero_le _,rfl,HR0.out,HD1.out,Keeps.refl _ _⟩
 case round=>
  obtain⟨k,hk,rfl,hring,hd,hkp⟩:=hrel
  by_cases q:k<n
  ·have q':(k:Int)<(n:Int):=by omega
   have hbox:=box_after HX.out hkp (fun h=>by rcases h with h|h;exact HF.out.1 h;omega)
   have c0:=cell_of_block hbox (j:=0) rfl
   have c1:=cell_of_block hbox (j:=1) rfl
   have c2:=cell_of_block hbox (j:=2) rfl
   have h1:=fun wx=>aat_any p f n k wx (by omega) (by omega) (by omega) (by omega) (by omega)
   rw [show (f:Int)+2+(k:Int)%(n:Int)=((f+2+k:Nat):Int) by rw [Int.emod_eq_of_lt (by omega) (by omega)];omega] at h1
   have H1:=Hid.mk h1
   have HRg:=Hid.mk hring
   have HDr:=Hid.mk hd
   have HKr:=Hid.mk hkp
   have HXr:=Hid.mk hbox
   clear h1 hring hd hkp hbox
   go_wp2_with fail
   go_region_held3 (fun w'=>w'.cell? ⟨w.heap.size,0,none⟩=some (.pointer (some ⟨p,0,none⟩))∧w'.cell? ⟨w.heap.size,1,none⟩=some (.int .i64 (f:Int))∧w'.cell? ⟨w.heap.size,2,none⟩=some (.int .i64 (n:Int)))
    (first|exact⟨c0,c1,c2⟩|exact⟨cell_of_block hx2 (j:=0) rfl,cell_of_block hx2 (j:=1) rfl,cell_of_block hx2 (j:=2) rfl⟩|exact⟨cell_of_block hx3 (j:=0) rfl,cell_of_block hx3 (j:=1) rfl,cell_of_block hx3 (j:=2) rfl⟩)
    (first
     |(go_at_call 166;refine(H1.out _).mono ?_;rintro e w2 ⟨rfl,hb2⟩;have hb3:=(below_drew (Below.refl wr.heap.size wr)).trans hb2;have hx2:=(hb3.block _ (lt_there HXr.out)).trans HXr.out;have hd2:=HDr.out.later hb3)
     |(go_at_call 102;refine(dread_ok hd2 (f+2+k) (by omega) hbig hf).mono ?_;rintro e w3 ⟨v,rfl,ho,hd3,hk3⟩;have hx3:=box_after hx2 hk3 HF.out.1))
   obtain⟨av,cv,rfl,hsv,hlov⟩:=ho
   have hk4:=(HKr.out.trans (Keeps.of_below (fun _=>False) hb3) (fun _ h=>h.elim)).trans hk3 (fun _ h=> .inl (.inl h))
   have hring3:=((HRg.out.keep (Keeps.of_below (fun _=>False) hb3) (fun h=>h) (fun _ h=>h.elim)).keep hk3 HF.out.2 (fun j hj=>by have:=HL.out j hj;omega))
   have hp:=pieceOf_any av _ cv (S.now (f+2+k)) w3 hsv (HBY.out.now _)
   rw [show pcOf (S.now (f+2+k))=R k by rw [HRR.out]] at hp
   have HR3:=Hid.mk hring3
   have HD3:=Hid.mk hd3
   have HK4:=Hid.mk hk4
   clear hb2 hb3 hx2 hx3 hd2 hd3 hk3 hk4 hring3 hsv hlov c0 c1 c2
   go_wp2_with fail
   refine hp.mono ?_
   rintro e w4 ⟨a4,k4,rfl,hs4,hlo4,hb4⟩
   have hr4:=HR3.out.keep (Keeps.of_below (fun _=>False) hb4) (fun h=>h) (fun _ h=>h.elim)
   have hz4:=HK4.out.size
   have hth:w4.there (w.heap.size+1) (k*5) (pieceC ((R k).e:Int) ((R k).p:Int) ((R k).i:Int) ((R k).c:Int) a4 (R k).d.length k4).size:=fun j hj=>by
    obtain⟨v,e⟩:=hr4.spot q j hj
    exact⟨by rw [e];rfl,hr4.fz _⟩
   have HTh:=Hid.mk hth
   have hsn:=hr4.snoc q (by omega) a4 k4 hs4 (fun y hy=>by have:=hlo4 y hy;omega)
   have hks:=keeps_set5at w4 (w.heap.size+1) (k*5) (.int .i64 ((R k).e:Int)) (.int .i64 ((R k).p:Int)) (.int .i64 ((R k).i:Int)) (.int .i64 ((R k).c:Int)) (.slice a4 (R k).d.length k4)
   have hk5:=(HK4.out.trans (Keeps.of_below (fun _=>False) hb4) (fun _ h=>h.elim)).trans hks (fun _ h=> .inl (.inr h))
   have hd5:=(HD3.out.later hb4).keep hks (fun j hj e=>HF.out.2 (e▸hj))
   have HS:=Hid.mk (And.intro hsn (And.intro hd5 hk5))
   have hkn:(0:Int)≤(k:Int):=by omega
   clear hr4 hsn hks hk5 hd5 hs4 hlo4 hb4 hp hth
   go_wp2_with (refine wpList_store_mid rfl 207 _ _ rfl (w.heap.size+1) (k*5) (pieceC ((R k).e:Int) ((R k).p:Int) ((R k).i:Int) ((R k).c:Int) a4 (R k).d.length k4) rfl rfl ?s1 ?s2 ?s3 ?_)
   case s1=>exact HTh.out
   case s2=>exact infoPiece
   case s3=>simp [Value.oneCell']
   go_roundw
   case rel=>exact⟨k+1,by omega,by go_num,HS.out⟩
   case measure=>simp [intOf];omega
  ·have q':¬(k:Int)<(n:Int):=by omega
   obtain rfl:k=n:=by omega
   have HZ:=Hid.mk (And.intro hring (And.intro hd hkp))
   clear hring hd hkp
   go_wp2
   go_ret2
   refine⟨_,rfl,⟨w.heap.size+1,w1.heap.size,rfl,by omega,by omega,HRR.out▸HZ.out.1⟩,HZ.out.2.1,?_⟩
   exact(Keeps.of_below F HB1.out).trans HZ.out.2.2 (fun j hj=>by
    rcases hj with hj|hj
    ·exact .inl hj
    ·exact .inr (by omega))
end Go.Proofs.YtkiehemoiapkkaaGreat.B
end
section
namespace Go.Proofs.YtkiehemoiapkkaaGreat.B
open Go.RowKit
section
variable {w:World} {F:Nat→Prop} {p s l cR:Nat} {S:DS} {L:LG}
theorem ring_o (h:DiskR w F p s S cR) (hby:S.Byt) (f n:Nat) (hfn:f+2+n≤s) (hn1:1≤n) (hn:n≤256) (hf:S.fuse≠0) (hbig:S.puts.length+1≤4000000000000):
  Calls Tryz.prog 138 #[areaV p f n] w fun e w'=>∃v,e= .returned (.tuple #[v, .int .i64 0])∧RingOut w.heap.size w' n (oRing S f) v∧DiskR w' F p s S (cR+n)∧Keeps F w w':=ring_any h hby f n hfn hn1 hn hf hbig
set_option maxRecDepth 20000 in
set_option maxHeartbeats 8000000 in
theorem recall_any (h:DiskR w F p s S cR) (hl:LogP w l p L) (hF:¬F l) (hby:S.Byt) (hs:L.f+2+L.n≤s) (hn1:1≤L.n) (hn:L.n≤256) (hf:S.fuse≠0) (hbig:S.puts.length+1≤4000000000000):
  Calls Tryz.prog 104 #[.pointer (some ⟨l,0,none⟩)] w fun e w'=>Recalled w' w.heap.size l p L S e∧DiskR w' F p s S (cR+2+L.n)∧Keeps (fun k=>F k∨k=l) w w':=by
 have h1:=dnewest h L.f L.n hbig hf (by omega) (hby.now _) (hby.now _)
 have hlt:=hl.lt
 have c0:=hl.c0
 have c1:=hl.c1
 have c2:=hl.c2
 have HRs:=(fun i=>pcOf_small (hby.now (L.f+2+i)))
 have hR:=fun w1 (hd1:DiskR w1 F p s S (cR+2))=>ring_o hd1 hby L.f L.n hs hn1 hn hf hbig
 unfold Recalled
 change Calls _ _ _ _ (fun e w'=>e= .returned (.tuple #[.int .i64 ((oNew S L.f).1:Int), .int .i64 ((oNew S L.f).2.1:Int), .int .i64 ((oNew S L.f).2.2:Int)])∧DiskR w' F p s S (cR+2)∧Keeps F w w') at h1
 by_cases k0:(oNew S L.f).2.2=0
 ·rw [k0] at h1
  have ho:=(oNew_ok (S:=S) (f:=L.f)) k0
  simp only [if_neg (fun h:¬(oNew S L.f).2.2=0=>h k0)]
  by_cases k1:oTop S L.f L.n=1073741824
  ·simp only [if_pos k1]
   have d1:(max ((oNew S L.f).1:Int) (rtop (oRing S L.f) L.n:Int) == 1073741824)=true:=by unfold oTop at k1;rw [beq_iff_eq];omega
   go_enter Tryz.func104,Tryz.ntmps104
   go_wp2_with fail
   refine h1.mono ?_
   rintro e w1 ⟨rfl,hd1,hk1⟩
   have hl1:=hl.keep hk1 hF
   have c0:=hl1.c0
   have c1:=hl1.c1
   have c2:=hl1.c2
   go_wp2_with fail
   refine(hR w1 hd1).mono ?_
   rintro e w2 ⟨v,rfl,⟨g,B,rfl,hg,hgB,hr⟩,hd2,hk2⟩
   go_wp2_with fail
   refine(top_any hr hn).mono ?_
   rintro e w3 ⟨rfl,hb3⟩
   have hl3:=(hl1.keep hk2 hF).later hb3
   have c5:=hl3.c5
   have c6:=hl3.c6
   have c7:=hl3.c7
   have c8:=hl3.c8
   have f5:=hl3.fz 5
   have f6:=hl3.fz 6
   have f7:=hl3.fz 7
   have f8:=hl3.fz 8
   have hk3:Keeps (fun k=>F k∨k=l) w (w3.setCell ⟨l,8,none⟩ (.int .i64 (max ((oNew S L.f).1:Int) (rtop (oRing S L.f) L.n:Int)))):=(((hk1.trans hk2 (fun _ h=> .inl h)).trans (Keeps.of_below (fun _=>False) hb3) (fun _ h=>h.elim)).mono (fun _ h=> .inl h)).trans (keeps_set (F:=fun k=>F k∨k=l) w3 (.inr rfl) 8 _) (fun _ h=> .inl h)
   have hd3:DiskR (w3.setCell ⟨l,8,none⟩ (.int .i64 (max ((oNew S L.f).1:Int) (rtop (oRing S L.f) L.n:Int)))) F p s S (cR+2+L.n):=(hd2.later hb3).keep (keeps_set (F:=fun k=>k=l) w3 rfl 8 _) (fun k hk e=>hF (e▸hk))
   go_wp2_with fail
   go_ret2
   exact⟨rfl,(And.intro hd3 hk3)⟩
  ·simp only [if_neg k1]
   have d1:(max ((oNew S L.f).1:Int) (rtop (oRing S L.f) L.n:Int) == 1073741824)=false:=by unfold oTop at k1;rw [beq_eq_false_iff_ne];omega
   go_enter Tryz.func104,Tryz.ntmps104
   go_wp2_with fail
   refine h1.mono ?_
   rintro e w1 ⟨rfl,hd1,hk1⟩
   have hl1:=hl.keep hk1 hF
   have c0:=hl1.c0
   have c1:=hl1.c1
   have c2:=hl1.c2
   go_wp2_with fail
   refine(hR w1 hd1).mono ?_
   rintro e w2 ⟨v,rfl,⟨g,B,rfl,hg,hgB,hr⟩,hd2,hk2⟩
   go_wp2_with fail
   refine(top_any hr hn).mono ?_
   rintro e w3 ⟨rfl,hb3⟩
   have hl3:=(hl1.keep hk2 hF).later hb3
   have c6:=hl3.c6
   have c7:=hl3.c7
   have c8:=hl3.c8
   have f5:=hl3.fz 5
   have f6:=hl3.fz 6
   have f7:=hl3.fz 7
   have f8:=hl3.fz 8
   have hk3:Keeps (fun k=>F k∨k=l) w (w3.setCell ⟨l,8,none⟩ (.int .i64 (max ((oNew S L.f).1:Int) (rtop (oRing S L.f) L.n:Int)))):=(((hk1.trans hk2 (fun _ h=> .inl h)).trans (Keeps.of_below (fun _=>False) hb3) (fun _ h=>h.elim)).mono (fun _ h=> .inl h)).trans (keeps_set (F:=fun k=>F k∨k=l) w3 (.inr rfl) 8 _) (fun _ h=> .inl h)
   have hd3:DiskR (w3.setCell ⟨l,8,none⟩ (.int .i64 (max ((oNew S L.f).1:Int) (rtop (oRing S L.f) L.n:Int)))) F p s S (cR+2+L.n):=(hd2.later hb3).keep (keeps_set (F:=fun k=>k=l) w3 rfl 8 _) (fun k hk e=>hF (e▸hk))
   have hz1:=hk1.size
   have h4:=scan_any g L.n (oNew S L.f).1 (oNew S L.f).2.1 (oRing S L.f) _ B ((hr.keep (Keeps.of_below (fun _=>False) hb3) (fun h=>h) (fun _ h=>h.elim)).keep (keeps_set (F:=fun k=>k=l) w3 rfl 8 (.int .i64 (max ((oNew S L.f).1:Int) (rtop (oRing S L.f) L.n:Int)))) (by omega) (fun k hk=>by omega)) hn1 hn ho.2.2 ho.2.1 (fun i=>(HRs i).2.2.2.2.1) (fun i=>by have:=(HRs i).2.2.2.1;unfold oRing;omega)
   have HL3:=(hl3.topped (max ((oNew S L.f).1:Int) (rtop (oRing S L.f) L.n:Int)) (oTop S L.f L.n) (by unfold oTop;omega))
   have HZ:=(And.intro hd3 hk3)
   go_wp2_with fail
   refine h4.mono ?_
   rintro e w4 ⟨v,hd,rs,rfl,hrs,ht,hx,hb4⟩
   have hl4:=HL3.later hb4
   have hl3.c5:=hl4.c5
   have c6:=hl4.c6
   have c7:=hl4.c7
   have f5:=hl4.fz 5
   have f6:=hl4.fz 6
   have f7:=hl4.fz 7
   have hzs:=HZ.2.size
   have hks:=((keeps_set (F:=fun k=>k=l) w4 rfl 5 (.int .i64 ((oNew S L.f).1:Int))).trans (keeps_set (F:=fun k=>k=l) _ rfl 6 (.int .i64 ((oNew S L.f).2.1:Int))) (fun _ h=> .inl h)).trans (keeps_set (F:=fun k=>k=l) _ rfl 7 (.int .i64 (hd:Int))) (fun _ h=> .inl h)
   have HE:=(And.intro (Told.mk ((((hrs.setb (b:=l) (by omega) 5 (.int .i64 ((oNew S L.f).1:Int))).setb (b:=l) (by omega) 6 (.int .i64 ((oNew S L.f).2.1:Int))).setb (b:=l) (by omega) 7 (.int .i64 (hd:Int))).low hzs (fun _ h=>h)) ht hx (hl4.marked (oNew S L.f).1 (oNew S L.f).2.1 hd)) (And.intro ((HZ.1.later hb4).keep hks (fun k hk e=>hF (e▸hk))) ((HZ.2.trans (Keeps.of_below (fun _=>False) hb4) (fun _ h=>h.elim)).trans (hks.mono (G:=fun k=>F k∨k=l) (fun _ h=> .inr h)) (fun _ h=> .inl h))))
   go_wp2_with fail
   go_ret2
   exact⟨⟨_,_,_,rfl,HE.1⟩,HE.2⟩
 ·have d0:(((oNew S L.f).2.2:Int) == 0)=false:=by rw [beq_eq_false_iff_ne];omega
  simp only [if_pos (fun h=>k0 h:¬(oNew S L.f).2.2=0)]
  go_enter Tryz.func104,Tryz.ntmps104
  go_wp2_with fail
  refine h1.mono ?_
  rintro e w1 ⟨rfl,hd1,hk1⟩
  go_wp2_with fail
  go_ret2
  exact⟨rfl,(And.intro (hd1.le (by omega:cR+2≤cR+2+L.n)) (hk1.mono (G:=fun k=>F k∨k=l) (fun _ h=> .inl h)))⟩
end
end Go.Proofs.YtkiehemoiapkkaaGreat.B
end
section
namespace Go.Proofs.YtkiehemoiapkkaaGreat.B
open Go.RowKit
def oRd (S:DS) (s:Nat) (f n:Int):Nat:=if lrefuse S s f n≠0 then 0 else n.toNat+2
section
variable {w:World} {F:Nat→Prop} {p s cR:Nat} {S:DS}
set_option maxRecDepth 20000 in
set_option maxHeartbeats 8000000 in
theorem Open_any (h:DiskR w F p s S cR) (hby:S.Byt) (f n:Int) (hbig:S.puts.length+500≤4000000000000):
  Calls Tryz.prog 53 #[.pointer (some ⟨p,0,none⟩), .int .i64 f, .int .i64 n] w fun e w'=>Opened w w' p s S f n e∧DiskR w' F p s (lopen S s f n).2 (cR+oRd S s f n)∧Keeps F w w':=by
 have HL:=h.lt
 have hFb:¬F w.heap.size:=fun h1=>by have:=h.lt _ h1;omega
 have HB:=(below_box w (.cells #[.pointer (some ⟨p,0,none⟩), .int .i64 f, .int .i64 n] 136))
 have hx0:(w.alloc (.cells #[.pointer (some ⟨p,0,none⟩), .int .i64 f, .int .i64 n] 136)).heap[w.heap.size]? =some (.cells #[.pointer (some ⟨p,0,none⟩), .int .i64 f, .int .i64 n] 136 (0,0)):=heap_alloc_new _ _
 have hd0:=h.boxed (.cells #[.pointer (some ⟨p,0,none⟩), .int .i64 f, .int .i64 n] 136)
 have h1:=drefusal hd0 f n
 unfold Opened lopen oRd
 by_cases q:lrefuse S s f n=0
 ·simp only [if_neg (fun h:¬lrefuse S s f n=0=>h q)]
  obtain⟨hf0,a,b,rfl,rfl,hab,hb1,hb2⟩:=lrefuse_zero q
  rw [q] at h1
  simp only [Int.toNat_natCast]
  have H3:=(fun (w2:World) (l:Nat) (hd2:DiskR w2 F p s S.take cR) (hl:LogP w2 l p (LG.new S a b)) (hFl:¬F l)=>(recall_any hd2 hl hFl hby.take hab (by show 1≤b;omega) hb2 hf0 (by show S.puts.length+1≤_;omega)).mono (fun e w' h=>And.intro h.1.took (And.intro (show DiskR w' F p s S.take (cR+2+b) from h.2.1) h.2.2)))
  by_cases k0:(oNew S a).2.2=0
  ·have HK0:=k0
   simp only [if_neg (fun h:¬(oNew S a).2.2=0=>h k0)]
   by_cases k1:oTop S a b=1073741824
   ·have HK1:=k1
    simp only [if_pos k1]
    simp only [if_pos (show (41:Int)≠0 by decide)]
    go_enter Tryz.func53,Tryz.ntmps53
    go_wp2_with fail
    refine h1.mono ?_
    rintro e w1 ⟨rfl,hb⟩
    have hx1:w1.heap[w.heap.size]? =_:=(hb.block _ (by simp)).trans hx0
    have c0:=cell_of_block hx1 (j:=0) rfl
    have c1:=cell_of_block hx1 (j:=1) rfl
    have c2:=cell_of_block hx1 (j:=2) rfl
    have HB1:=(HB.trans (hb.mono (by simp)))
    go_wp2_with fail
    go_region_held3 (fun w'=>w'.cell? ⟨w.heap.size,0,none⟩=some (.pointer (some ⟨p,0,none⟩))∧w'.cell? ⟨w.heap.size,1,none⟩=some (.int .i64 (a:Int))∧w'.cell? ⟨w.heap.size,2,none⟩=some (.int .i64 (b:Int)))
     (first|exact⟨c0,c1,c2⟩|exact⟨cell_of_block hx2 (j:=0) rfl,cell_of_block hx2 (j:=1) rfl,cell_of_block hx2 (j:=2) rfl⟩|exact⟨cell_of_block (hx3 _) (j:=0) rfl,cell_of_block (hx3 _) (j:=1) rfl,cell_of_block (hx3 _) (j:=2) rfl⟩)
       ((go_at_call 42;refine(dtake (hd0.later (hb.trans (below_drew (Below.refl w1.heap.size w1) |>.mono hb.size)))).mono ?_;rintro e w2 ⟨rfl,hd2,hk2⟩;have hx2:=box_after (w:=w1.drew) hx1 hk2 hFb;have hx3:=fun o=>(below_box w2 o).block _ (lt_there hx2) |>.trans hx2))
    have hz1:w.heap.size<w1.heap.size:=by have:=HB1.size;have:=lt_there hx1;omega
    have hz2:w1.heap.size≤w2.heap.size:=hk2.size
    have hl2:LogP (w2.alloc (.cells (lgC p (LG.new S a b)) 143)) w2.heap.size p (LG.new S a b):=heap_alloc_new _ _
    have HFl:=(fun h:F w2.heap.size=>by have:=HL _ h;omega:¬F w2.heap.size)
    have hkw:Keeps F w (w2.alloc (.cells (lgC p (LG.new S a b)) 143)):=((Keeps.of_below F (below_drew HB1)).trans hk2 (fun _ h=> .inl h)).trans (Keeps.boxed F _) (fun _ h=> .inl h)
    go_wp2_with fail
    refine(H3 _ w2.heap.size (hd2.boxed (.cells (lgC p (LG.new S a b)) 143)) hl2 HFl).mono ?_
    rintro e w3 ⟨h4,hd3,hk3⟩
    rw [if_neg (fun h=>h HK0),if_pos HK1] at h4
    subst h4
    go_wp2_with fail
    go_ret3
    exact⟨rfl,(And.intro (hd3.le (by omega:cR+2+b≤cR+(b+2))) (hkw.trans hk3 (fun k h=>h.elim .inl (fun e=> .inr (by omega)))))⟩
   ·have HK1:=k1
    simp only [if_neg k1]
    have H5:=(fun (w3:World) (hd3:DiskR w3 F p s S.take (cR+2+b))=>dflush hd3 (by show S.puts.length+1≤_;omega))
    generalize S.take.fl s=Y at*
    by_cases k:Y.1=0
    ·simp only [if_neg (fun h:¬Y.1=0=>h k)]
     have d:(Y.1 == 0)=true:=by rw [beq_iff_eq];exact k
     go_enter Tryz.func53,Tryz.ntmps53
     go_wp2_with fail
     refine h1.mono ?_
     rintro e w1 ⟨rfl,hb⟩
     have hx1:w1.heap[w.heap.size]? =_:=(hb.block _ (by simp)).trans hx0
     have c0:=cell_of_block hx1 (j:=0) rfl
     have c1:=cell_of_block hx1 (j:=1) rfl
     have c2:=cell_of_block hx1 (j:=2) rfl
     have HB1:=(HB.trans (hb.mono (by simp)))
     go_wp2_with fail
     go_region_held3 (fun w'=>w'.cell? ⟨w.heap.size,0,none⟩=some (.pointer (some ⟨p,0,none⟩))∧w'.cell? ⟨w.heap.size,1,none⟩=some (.int .i64 (a:Int))∧w'.cell? ⟨w.heap.size,2,none⟩=some (.int .i64 (b:Int)))
      (first|exact⟨c0,c1,c2⟩|exact⟨cell_of_block hx2 (j:=0) rfl,cell_of_block hx2 (j:=1) rfl,cell_of_block hx2 (j:=2) rfl⟩|exact⟨cell_of_block (hx3 _) (j:=0) rfl,cell_of_block (hx3 _) (j:=1) rfl,cell_of_block (hx3 _) (j:=2) rfl⟩)
        ((go_at_call 42;refine(dtake (hd0.later (hb.trans (below_drew (Below.refl w1.heap.size w1) |>.mono hb.size)))).mono ?_;rintro e w2 ⟨rfl,hd2,hk2⟩;have hx2:=box_after (w:=w1.drew) hx1 hk2 hFb;have hx3:=fun o=>(below_box w2 o).block _ (lt_there hx2) |>.trans hx2))
     have hz1:w.heap.size<w1.heap.size:=by have:=HB1.size;have:=lt_there hx1;omega
     have hz2:w1.heap.size≤w2.heap.size:=hk2.size
     have hl2:LogP (w2.alloc (.cells (lgC p (LG.new S a b)) 143)) w2.heap.size p (LG.new S a b):=heap_alloc_new _ _
     have HFl:=(fun h:F w2.heap.size=>by have:=HL _ h;omega:¬F w2.heap.size)
     have hkw:Keeps F w (w2.alloc (.cells (lgC p (LG.new S a b)) 143)):=((Keeps.of_below F (below_drew HB1)).trans hk2 (fun _ h=> .inl h)).trans (Keeps.boxed F _) (fun _ h=> .inl h)
     go_wp2_with fail
     refine(H3 _ w2.heap.size (hd2.boxed (.cells (lgC p (LG.new S a b)) 143)) hl2 HFl).mono ?_
     rintro e w3 ⟨h4,hd3,hk3⟩
     rw [if_neg (fun h=>h HK0),if_neg HK1] at h4
     obtain⟨v,rs,hd,rfl,ht⟩:=h4
     have HK3:=(hkw.trans hk3 (fun k h=>h.elim .inl (fun e=> .inr (by omega))))
     have hzA:w.heap.size≤(w2.alloc (.cells (lgC p (LG.new S a b)) 143)).heap.size:=by simp;omega
     go_wp2_with fail
     refine(H5 w3 hd3).mono ?_
     rintro e w4 ⟨rfl,hd4,hk4⟩
     have HZ:=(And.intro ((ht.low (B':=w.heap.size) hzA).keep hk4 (fun k hk=>HL k hk) HFl) (And.intro (hd4.le (by omega:cR+2+b≤cR+(b+2))) (HK3.trans hk4 (fun _ h=> .inl h))))
     go_wp2_with fail
     go_ret3
     exact⟨⟨_,_,_,_,rfl,by omega,HZ.1⟩,HZ.2⟩
    ·simp only [if_pos (fun h=>k h:¬Y.1=0)]
     have d:(Y.1 == 0)=false:=by rw [beq_eq_false_iff_ne];exact k
     go_enter Tryz.func53,Tryz.ntmps53
     go_wp2_with fail
     refine h1.mono ?_
     rintro e w1 ⟨rfl,hb⟩
     have hx1:w1.heap[w.heap.size]? =_:=(hb.block _ (by simp)).trans hx0
     have c0:=cell_of_block hx1 (j:=0) rfl
     have c1:=cell_of_block hx1 (j:=1) rfl
     have c2:=cell_of_block hx1 (j:=2) rfl
     have HB1:=(HB.trans (hb.mono (by simp)))
     go_wp2_with fail
     go_region_held3 (fun w'=>w'.cell? ⟨w.heap.size,0,none⟩=some (.pointer (some ⟨p,0,none⟩))∧w'.cell? ⟨w.heap.size,1,none⟩=some (.int .i64 (a:Int))∧w'.cell? ⟨w.heap.size,2,none⟩=some (.int .i64 (b:Int)))
      (first|exact⟨c0,c1,c2⟩|exact⟨cell_of_block hx2 (j:=0) rfl,cell_of_block hx2 (j:=1) rfl,cell_of_block hx2 (j:=2) rfl⟩|exact⟨cell_of_block (hx3 _) (j:=0) rfl,cell_of_block (hx3 _) (j:=1) rfl,cell_of_block (hx3 _) (j:=2) rfl⟩)
        ((go_at_call 42;refine(dtake (hd0.later (hb.trans (below_drew (Below.refl w1.heap.size w1) |>.mono hb.size)))).mono ?_;rintro e w2 ⟨rfl,hd2,hk2⟩;have hx2:=box_after (w:=w1.drew) hx1 hk2 hFb;have hx3:=fun o=>(below_box w2 o).block _ (lt_there hx2) |>.trans hx2))
     have hz1:w.heap.size<w1.heap.size:=by have:=HB1.size;have:=lt_there hx1;omega
     have hz2:w1.heap.size≤w2.heap.size:=hk2.size
     have hl2:LogP (w2.alloc (.cells (lgC p (LG.new S a b)) 143)) w2.heap.size p (LG.new S a b):=heap_alloc_new _ _
     have HFl:=(fun h:F w2.heap.size=>by have:=HL _ h;omega:¬F w2.heap.size)
     have hkw:Keeps F w (w2.alloc (.cells (lgC p (LG.new S a b)) 143)):=((Keeps.of_below F (below_drew HB1)).trans hk2 (fun _ h=> .inl h)).trans (Keeps.boxed F _) (fun _ h=> .inl h)
     go_wp2_with fail
     refine(H3 _ w2.heap.size (hd2.boxed (.cells (lgC p (LG.new S a b)) 143)) hl2 HFl).mono ?_
     rintro e w3 ⟨h4,hd3,hk3⟩
     rw [if_neg (fun h=>h HK0),if_neg HK1] at h4
     obtain⟨v,rs,hd,rfl,ht⟩:=h4
     have HK3:=(hkw.trans hk3 (fun k h=>h.elim .inl (fun e=> .inr (by omega))))
     go_wp2_with fail
     refine(H5 w3 hd3).mono ?_
     rintro e w4 ⟨rfl,hd4,hk4⟩
     go_wp2_with fail
     go_ret3
     exact⟨rfl,(And.intro (hd4.le (by omega:cR+2+b≤cR+(b+2))) (HK3.trans hk4 (fun _ h=> .inl h)))⟩
  ·have HK0:=k0
   have d0:(((oNew S a).2.2:Int) == 0)=false:=by rw [beq_eq_false_iff_ne];omega
   simp only [if_pos (fun h=>k0 h:¬(oNew S a).2.2=0)]
   simp only [if_pos (show (((oNew S a).2.2:Nat):Int)≠0 by omega)]
   go_enter Tryz.func53,Tryz.ntmps53
   go_wp2_with fail
   refine h1.mono ?_
   rintro e w1 ⟨rfl,hb⟩
   have hx1:w1.heap[w.heap.size]? =_:=(hb.block _ (by simp)).trans hx0
   have c0:=cell_of_block hx1 (j:=0) rfl
   have c1:=cell_of_block hx1 (j:=1) rfl
   have c2:=cell_of_block hx1 (j:=2) rfl
   have HB1:=(HB.trans (hb.mono (by simp)))
   go_wp2_with fail
   go_region_held3 (fun w'=>w'.cell? ⟨w.heap.size,0,none⟩=some (.pointer (some ⟨p,0,none⟩))∧w'.cell? ⟨w.heap.size,1,none⟩=some (.int .i64 (a:Int))∧w'.cell? ⟨w.heap.size,2,none⟩=some (.int .i64 (b:Int)))
    (first|exact⟨c0,c1,c2⟩|exact⟨cell_of_block hx2 (j:=0) rfl,cell_of_block hx2 (j:=1) rfl,cell_of_block hx2 (j:=2) rfl⟩|exact⟨cell_of_block (hx3 _) (j:=0) rfl,cell_of_block (hx3 _) (j:=1) rfl,cell_of_block (hx3 _) (j:=2) rfl⟩)
      ((go_at_call 42;refine(dtake (hd0.later (hb.trans (below_drew (Below.refl w1.heap.size w1) |>.mono hb.size)))).mono ?_;rintro e w2 ⟨rfl,hd2,hk2⟩;have hx2:=box_after (w:=w1.drew) hx1 hk2 hFb;have hx3:=fun o=>(below_box w2 o).block _ (lt_there hx2) |>.trans hx2))
   have hz1:w.heap.size<w1.heap.size:=by have:=HB1.size;have:=lt_there hx1;omega
   have hz2:w1.heap.size≤w2.heap.size:=hk2.size
   have hl2:LogP (w2.alloc (.cells (lgC p (LG.new S a b)) 143)) w2.heap.size p (LG.new S a b):=heap_alloc_new _ _
   have HFl:=(fun h:F w2.heap.size=>by have:=HL _ h;omega:¬F w2.heap.size)
   have hkw:Keeps F w (w2.alloc (.cells (lgC p (LG.new S a b)) 143)):=((Keeps.of_below F (below_drew HB1)).trans hk2 (fun _ h=> .inl h)).trans (Keeps.boxed F _) (fun _ h=> .inl h)
   go_wp2_with fail
   refine(H3 _ w2.heap.size (hd2.boxed (.cells (lgC p (LG.new S a b)) 143)) hl2 HFl).mono ?_
   rintro e w3 ⟨h4,hd3,hk3⟩
   rw [if_pos (fun h=>HK0 h)] at h4
   subst h4
   go_wp2_with fail
   go_ret3
   exact⟨rfl,(And.intro (hd3.le (by omega:cR+2+b≤cR+(b+2))) (hkw.trans hk3 (fun k h=>h.elim .inl (fun e=> .inr (by omega)))))⟩
 ·simp only [if_pos (fun h=>q h:¬lrefuse S s f n=0)]
  have d0:(lrefuse S s f n == 0)=false:=by rw [beq_eq_false_iff_ne];exact q
  go_enter Tryz.func53,Tryz.ntmps53
  go_wp2_with fail
  refine h1.mono ?_
  rintro e w1 ⟨rfl,hb⟩
  go_wp2_with fail
  go_ret3
  exact⟨rfl,(And.intro (hd0.later hb) (Keeps.of_below F (HB.trans (hb.mono (by simp)))))⟩
end
end Go.Proofs.YtkiehemoiapkkaaGreat.B
end
section
namespace Go.Proofs.YtkiehemoiapkkaaGreat.B
open Go.RowKit
section
variable {w:World} {F:Nat→Prop} {p s l cR:Nat} {S:DS} {L:LG}
set_option maxRecDepth 20000 in
set_option maxHeartbeats 8000000 in
theorem Start_any (h:DiskR w F p s S cR) (hl:LogP w l p L) (hk:L.Ok s) (hF:¬F l) (hby:S.Byt) (hbig:S.puts.length+2≤4000000000000):
  Calls Tryz.prog 55 #[.pointer (some ⟨l,0,none⟩)] w fun e w'=>e= .returned (.int .i64 (L.start S s).1)∧DiskR w' (more F w w') p s (L.start S s).2.1 (cR+2)∧LogP w' l p (L.start S s).2.2∧Keeps (fun k=>F k∨k=l) w w':=by
 have h1:=dead_any h hl
 have HL:=hl
 have HD:=h
 have hlt:=hl.lt
 have hs:=hk.s
 have htop:=hk.top
 unfold LG.start
 have H3:=(fun w2 (hd2:DiskR w2 F p s S cR)=>drenew hd2 L.f L.n (L.top+1) 0 (by omega) (by omega) hbig (by have:=hk.n1;omega) (hby.now _) (hby.now _))
 go_enter Tryz.func55,Tryz.ntmps55
 cases hd:L.dead S
 ·rw [hd] at h1
  rw [if_neg (by decide)]
  cases hb:L.begun
  ·rw [if_neg (by decide)]
   generalize hY:anew S s L.f (((L.top+1:Nat):Int)*4294967296+((0:Nat):Int))=Y at*
   by_cases k:Y.1=0
   ·rw [if_neg (fun h=>h k)]
    have d:(Y.1 == 0)=true:=by rw [beq_iff_eq];exact k
    go_wp2_with fail
    refine h1.mono ?_
    rintro e w1 ⟨rfl,hb1⟩
    have hl1:=HL.later hb1
    have c0:=hl1.c0
    have c1:=hl1.c1
    have c2:=hl1.c2
    have c4:=hl1.c4
    have c8:=hl1.c8
    rw [hb] at c4
    have h3:=H3 w1 (HD.later hb1)
    rw [show ((L.top+1:Nat):Int)=(L.top:Int)+1 by omega,show (((0:Nat):Int))=0 from rfl] at h3
    go_wp2_with fail
    refine h3.mono ?_
    rintro e w2 ⟨rfl,hd2,hk2⟩
    have hl2:=hl1.keep hk2 hF
    have f4:=hl2.fz 4
    have f5:=hl2.fz 5
    have f6:=hl2.fz 6
    have f7:=hl2.fz 7
    have c4:=hl2.c4
    have c5:=hl2.c5
    have c6:=hl2.c6
    have c7:=hl2.c7
    have hz1:=hb1.size
    have hz2:=hk2.size
    have hK:Keeps (fun k=>F k∨k=l) w ((((w2.setCell ⟨l,4,none⟩ (.bool true)).setCell ⟨l,5,none⟩ (.int .i64 ((L.top:Int)+1))).setCell ⟨l,6,none⟩ (.int .i64 0)).setCell ⟨l,7,none⟩ (.int .i64 0)):=
       (((((Keeps.of_below (fun k=>F k∨k=l) hb1).trans hk2 (fun _ h=> .inl (.inl h))).trans (keeps_set (F:=fun k=>k=l) w2 rfl 4 _) (fun _ h=> .inl (.inr h))).trans (keeps_set (F:=fun k=>k=l) _ rfl 5 _) (fun _ h=> .inl (.inr h))).trans (keeps_set (F:=fun k=>k=l) _ rfl 6 _) (fun _ h=> .inl (.inr h))).trans (keeps_set (F:=fun k=>k=l) _ rfl 7 _) (fun _ h=> .inl (.inr h))
    have hD4:DiskR ((((w2.setCell ⟨l,4,none⟩ (.bool true)).setCell ⟨l,5,none⟩ (.int .i64 ((L.top:Int)+1))).setCell ⟨l,6,none⟩ (.int .i64 0)).setCell ⟨l,7,none⟩ (.int .i64 0)) (more F w1 w2) p s Y.2 (cR+2):=by
     have hne:∀k,more F w1 w2 k→¬k=l:=fun k hk e=>by
      subst e
      rcases hk with hk|hk
      ·exact hF hk
      ·omega
     exact(((hd2.keep (keeps_set (F:=fun k=>k=l) w2 rfl 4 _) hne).keep (keeps_set (F:=fun k=>k=l) _ rfl 5 _) hne).keep (keeps_set (F:=fun k=>k=l) _ rfl 6 _) hne).keep (keeps_set (F:=fun k=>k=l) _ rfl 7 _) hne
    have hsz:((((w2.setCell ⟨l,4,none⟩ (.bool true)).setCell ⟨l,5,none⟩ (.int .i64 ((L.top:Int)+1))).setCell ⟨l,6,none⟩ (.int .i64 0)).setCell ⟨l,7,none⟩ (.int .i64 0)).heap.size=w2.heap.size:=by simp [World.setCell]
    have HZ:=(And.intro ((hD4.mono (G:=more F w ((((w2.setCell ⟨l,4,none⟩ (.bool true)).setCell ⟨l,5,none⟩ (.int .i64 ((L.top:Int)+1))).setCell ⟨l,6,none⟩ (.int .i64 0)).setCell ⟨l,7,none⟩ (.int .i64 0))) (fun k hk=>by
      rcases hk with hk|hk
      ·exact .inl hk
      ·exact .inr ⟨by omega,by rw [hsz];exact hk.2⟩) (more_lt (F:=F) (w:=w) HD.lt (by rw [hsz];omega)))) (And.intro (hl2.started ((L.top:Int)+1) (L.top+1) (by omega)) hK))
    go_wp2
    go_ret
    exact⟨rfl,HZ⟩
   ·rw [if_pos k]
    have d:(Y.1 == 0)=false:=by rw [beq_eq_false_iff_ne];exact k
    go_wp2_with fail
    refine h1.mono ?_
    rintro e w1 ⟨rfl,hb1⟩
    have hl1:=HL.later hb1
    have c0:=hl1.c0
    have c1:=hl1.c1
    have c2:=hl1.c2
    have c4:=hl1.c4
    have c8:=hl1.c8
    rw [hb] at c4
    have h3:=H3 w1 (HD.later hb1)
    rw [show ((L.top+1:Nat):Int)=(L.top:Int)+1 by omega,show (((0:Nat):Int))=0 from rfl] at h3
    have HB1:=hb1
    go_wp2_with fail
    refine h3.mono ?_
    rintro e w2 ⟨rfl,hd2,hk2⟩
    go_wp2
    go_ret
    exact⟨rfl,(And.intro (hd2.from HD.lt HB1.size hk2.size) (And.intro (hl1.keep hk2 hF) ((Keeps.of_below (fun k=>F k∨k=l) HB1).trans hk2 (fun _ h=> .inl (.inl h)))))⟩
  ·rw [if_pos rfl]
   go_wp2_with fail
   refine h1.mono ?_
   rintro e w1 ⟨rfl,hb1⟩
   have c4:=(HL.later hb1).c4
   rw [hb] at c4
   go_wp2
   go_ret
   exact⟨rfl,(And.intro (((HD.later hb1).more (w:=w)).le (by omega:cR≤cR+2)) (And.intro (HL.later hb1) (Keeps.of_below (fun k=>F k∨k=l) hb1)))⟩
 ·rw [hd] at h1
  rw [if_pos rfl]
  go_wp2_with fail
  refine h1.mono ?_
  rintro e w1 ⟨rfl,hb1⟩
  go_wp2
  go_ret
  exact⟨rfl,(And.intro (((HD.later hb1).more (w:=w)).le (by omega:cR≤cR+2)) (And.intro (HL.later hb1) (Keeps.of_below (fun k=>F k∨k=l) hb1)))⟩
end
end Go.Proofs.YtkiehemoiapkkaaGreat.B
end
section
namespace Go.Proofs.YtkiehemoiapkkaaGreat
open Go.RowKit Go.Maps
theorem tells_len {R:Nat→PC} {E:Nat} (hR:∀q,(R q).d.length≤492):∀{rs:List (List Int)} {P h:Nat},Tells R E P rs h→∀d∈rs,d.length≤8364
 | [],_,_,_,d,hd=>by cases hd
 |x :: xs,P,h,⟨k,hk,ht⟩,d,hd=>by
  rcases List.mem_cons.1 hd with rfl|h1
  ·have h2:∀c,(dataTo R P c).length≤492*c:=fun c=>by
    induction c with
    |zero=>simp [dataTo_zero]
    |succ c ih=>rw [dataTo_succ,List.length_append];have:=hR (P+c);omega
   have:=h2 k
   have:=hk.2.1
   rw [hk.2.2.2]
   omega
  ·exact tells_len hR ht d h1
theorem tells_bytes {R:Nat→PC} {E:Nat} (hR:∀q,Bytes (R q).d):∀{rs:List (List Int)} {P h:Nat},Tells R E P rs h→∀d∈rs,Bytes d
 | [],_,_,_,d,hd=>by cases hd
 |x :: xs,P,h,⟨k,hk,ht⟩,d,hd=>by
  rcases List.mem_cons.1 hd with rfl|h1
  ·have h2:∀c,Bytes (dataTo R P c):=fun c=>by
    induction c with
    |zero=>intro x hx;simp [dataTo_zero] at hx
    |succ c ih=>
     rw [dataTo_succ]
     intro x hx
     rcases List.mem_append.1 hx with hx|hx
     ·exact ih x hx
     ·exact hR _ x hx
   rw [hk.2.2.2]
   exact h2 k
  ·exact tells_bytes hR ht d h1
structure TellsAt (S:DS) (f n:Nat) (rs:List (List Int)) (hd:Nat):Prop where
 t:Tells (Rp (oRing S f) n) (oNew S f).1 (oNew S f).2.1 rs hd
 x:∀c d,¬Rec (Rp (oRing S f) n) (oNew S f).1 hd c d
theorem TellsAt.small {S:DS} {a b:Nat} {rs:List (List Int)} {hd:Nat} (h:TellsAt S a b rs hd) (hby:S.Byt) (hb1:1≤b):rs.length≤b∧(∀r∈rs,Bytes r∧r.length≤1000000)∧(oNew S a).2.1≤hd∧hd≤(oNew S a).2.1+b:=by
 have h1:=Tells.round hb1 (Rp_round (oRing S a) b) h.t
 have h2:=Tells.length h.t
 have h3:=Tells.le h.t
 refine⟨by omega,fun r hr=>⟨?_,?_⟩,h3,h1⟩
 ·exact tells_bytes (fun q=>(pcOf_small (hby.now (a+2+q%b))).2.2.2.2.2) h.t r hr
 ·have:=tells_len (fun q=>(pcOf_small (hby.now (a+2+q%b))).2.2.2.2.1) h.t r hr
  omega
def lgOf (S:DS) (f n hd:Nat):LG:={LG.new S f n with ep:=(oNew S f).1,tail:=(oNew S f).2.1,head:=hd,top:=oTop S f n}
theorem lgOf_ok {S:DS} {s a b:Nat} {rs:List (List Int)} {hd:Nat} (h:TellsAt S a b rs hd) (hby:S.Byt) (hz:(oNew S a).2.2=0) (ht:oTop S a b≠1073741824) (hab:a+2+b≤s) (hb1:18≤b) (hb2:b≤256):(lgOf S a b hd).Ok s:=by
 obtain⟨_,_,h1,h2⟩:=h.small hby (by omega)
 have hzz:=oNew_ok hz
 have hto:=oTop_le (n:=b) hz
 refine⟨hab,hb1,hb2,hzz.2.1,?_,h1,h2,?_,fun c=>by cases c⟩
 ·show oTop S a b<_;omega
 ·show hd≤_;omega
theorem lopen_zero {S:DS} {s:Nat} {f n:Nat} (h:(lopen S s f n).1=0):lrefuse S s f n=0∧(oNew S f).2.2=0∧oTop S f n≠1073741824∧lopen S s f n=S.take.fl s:=by
 unfold lopen at*
 simp only [Int.toNat_natCast] at*
 split at h
 ·rename_i k;exact absurd h k
 ·rename_i k1
  split at h
  ·rename_i k;exact absurd (Int.ofNat_eq_zero.1 h) k
  ·rename_i k2
   split at h
   ·cases h
   ·rename_i k3
    exact⟨Decidable.of_not_not k1,Decidable.of_not_not k2,k3,by rw [if_neg k1,if_neg k2,if_neg k3]⟩
end Go.Proofs.YtkiehemoiapkkaaGreat
end
