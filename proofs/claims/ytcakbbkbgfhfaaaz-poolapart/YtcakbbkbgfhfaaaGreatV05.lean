import Derived.Test.YtcakbbkbgfhfaaaGreatW27
import Derived.Test.YtcakbbkbgfhfaaaGreatV04
section
namespace Go.Proofs.YtcakbbkbgfhfaaaGreat
open Go.RowKit Go.Maps
def ApI (w0 wr:World) (g:GEO) (F:Nat→Prop) (B0 kr p q l m t n a1 a2 k:Nat) (S:DS) (L:LG) (K7 K13:Nat) (vb vn:Value) (tb tn:List Nat):Prop:=
 ∃cR T,RP wr F kr p g.s cR q l m t n a1 a2 k S ⟨lyG g,L, [],true⟩ T∧QF ⟨lyG g,L, [],true⟩ S T tb tn∧IL wr (fun j=>B0≤j) vb tb∧IL wr (fun j=>B0≤j) vn tn∧(∀j,vb.ownBlock=some j→vn.ownBlock≠some j)∧wr.heap[K7]? =some (.cells #[.int .i64 (g.s:Int), .int .i64 (g.l:Int), .int .i64 (g.n:Int)] 31 (0,0))∧wr.heap[K13]? =some (.cells #[vb,vn] 51 (0,0))∧Below w0.heap.size w0 wr
theorem PF.qf {G:SG} {S:DS} {T:TG} (h:PF G S T (bSt G.y).first 0) (hy:YOk G.y):QF G S T [] []:=by
 refine⟨h.bad,h.en,h.ks,KN.empty (bSt_ok hy) (fun j h1 h2=>?_),KN.empty (nSt_ok hy) (fun j h1 h2=>?_)⟩
 ·have h3:=(bSt_ok hy).hi
  have h4:(bSt G.y).zero=0:=rfl
  rw [h.s0,ebm_bit _ (by omega)]
  simp
  omega
 ·rw [h.s1,ebm_bit _ (by omega)]
  simp
theorem QF.left {G:SG} {S:DS} {T:TG} {tb tn:List Nat} (h:QF G S T tb tn):T.pleft G S (bSt G.y)+tb.length=(bSt G.y).cnt∧T.pleft G S (nSt G.y)+tn.length=(nSt G.y).cnt:=⟨h.kb.fr,h.kn.fr⟩
theorem RP.onZ {w w':World} {F Z:Nat→Prop} {kr p s cR c' q l m t n a1 a2 k:Nat} {S:DS} {G:SG} {T T':TG} (h:RP w F kr p s cR q l m t n a1 a2 k S G T) (hx:TX w' F p s c' q l m t n S G T') (hk:Keeps Z w w') (h0:¬Z kr) (h1:¬Z a1) (h2:¬Z a2):RP w' F kr p s c' q l m t n a1 a2 k S G T':=
   ⟨(hk.block _ (lt_there h.b) h0).trans h.b,hx,⟨(hk.block _ h.p1.lt h1).trans h.p1.b,h.p1.nf⟩,⟨(hk.block _ h.p2.lt h2).trans h.p2.b,h.p2.nf⟩,h.nk⟩
theorem puts2 {w:World} {K:Nat} {vb vn x y:Value} (u:w.heap[K]? =some (.cells #[vb,vn] 51 (0,0))):
  w.cell? ⟨K,0,none⟩=some vb∧w.frozen? ⟨K,0,none⟩=false∧(w.setCell ⟨K,0,none⟩ x).cell? ⟨K,1,none⟩=some vn∧(w.setCell ⟨K,0,none⟩ x).frozen? ⟨K,1,none⟩=false∧((w.setCell ⟨K,0,none⟩ x).setCell ⟨K,1,none⟩ y).heap[K]? =some (.cells #[x,y] 51 (0,0))∧Keeps (fun j=>j=K) w ((w.setCell ⟨K,0,none⟩ x).setCell ⟨K,1,none⟩ y):=by
 have r4:(w.setCell ⟨K,0,none⟩ x).heap[K]? =some (.cells #[x,vn] 51 (0,0)):=heap_setCell_same _ _ _ _ _ _ u
 have r5:((w.setCell ⟨K,0,none⟩ x).setCell ⟨K,1,none⟩ y).heap[K]? =some (.cells #[x,y] 51 (0,0)):=heap_setCell_same _ _ _ _ _ _ r4
 have k4:=Keeps.setCell (F:=fun k=>k=K) w (p:=⟨K,0,none⟩) rfl x
 have k5:=Keeps.setCell (F:=fun k=>k=K) (w.setCell ⟨K,0,none⟩ x) (p:=⟨K,1,none⟩) rfl y
 exact⟨cell_of_block u (j:=0) rfl,frozen_of_block u 0,cell_of_block r4 (j:=1) rfl,frozen_of_block r4 1,r5,k4.trans k5 (fun j hj=> .inl hj)⟩
set_option maxRecDepth 20000 in
set_option maxHeartbeats 8000000 in
theorem poolApart_any (B L N:Int) (hB:I64 B) (hL:I64 L) (hN:I64 N) (sa:Option Addr) (sn sc:Nat) (w:World) (hsc:Acts6 w w.heap.size sa sn) (_hsn:16*sn≤140737488355328):Calls Tryz.prog 4 #[.agg #[.int .i64 B, .int .i64 L, .int .i64 N], .slice sa sn sc] w fun e w'=>e= .returned (.bool true)∧Below w.heap.size w w':=by
 obtain⟨hG,h1,h2,h3,h5,h6,h4,h7⟩:=geoOf_ok B L N
 have hb0:=below_box w (.cells #[.int .i64 B, .int .i64 L, .int .i64 N] 23)
 have hbx:=heap_alloc_new w (.cells #[.int .i64 B, .int .i64 L, .int .i64 N] 23)
 have hz0:(w.alloc (.cells #[.int .i64 B, .int .i64 L, .int .i64 N] 23)).heap.size=w.heap.size+1:=by rw [World.size_alloc]
 have k1:=fresh6_any B L N hB hL hN (w.alloc (.cells #[.int .i64 B, .int .i64 L, .int .i64 N] 23))
 have HSu:Hid (∀w,Calls Tryz.prog 11 #[.agg #[.int .i64 B, .int .i64 L, .int .i64 N]] w fun e w'=>e= .returned (supV (geoOf B L N))∧Below w.heap.size w w'):=fun w=>super6_any B L N hB hL hN w
 generalize geoOf B L N=g at*
 have HB0:=Hid.mk (And.intro hb0 hbx)
 have HSC:=Hid.mk hsc
 clear hb0 hbx hB hL hN hG h7 hsc
 go_enter Tryz.func4,Tryz.ntmps4
 go_wp2_with fail
 refine k1.mono ?_
 rintro e w1 ⟨F,kr,p,cR,q,l,m,t,n,a1,a2,k,S,L',rfl,hrp,hfr,hlo1,hb1⟩
 have hz1:=hb1.size
 rw [hz0] at hz1 hlo1
 have hbx1:=(hb1.block _ (lt_there HB0.out.2)).trans HB0.out.2
 have hlo:∀j,OwT F t n j→w.heap.size≤j:=fun j hj=>by have:=hlo1 j hj;omega
 have hB1:=HB0.out.1.trans (hb1.mono (by omega))
 have g0:w1.cell? ⟨w.heap.size,0,none⟩=some (.int .i64 B):=cell_of_block hbx1 (j:=0) rfl
 have g1:w1.cell? ⟨w.heap.size,1,none⟩=some (.int .i64 L):=cell_of_block hbx1 (j:=1) rfl
 have g2:w1.cell? ⟨w.heap.size,2,none⟩=some (.int .i64 N):=cell_of_block hbx1 (j:=2) rfl
 have k2:=HSu.out w1
 obtain⟨_,hpf⟩:=fresh_clear hfr h4 h1
 have HI:=Hid.mk (And.intro hrp (And.intro hpf hB1))
 have HFr:=Hid.mk hfr
 have HLo:=Hid.mk hlo
 clear k1 hrp hfr hlo1 hb1 hbx1 hlo hB1 hpf HB0 HSu
 go_wp2_with fail
 refine k2.mono ?_
 rintro e w2 ⟨rfl,hb2⟩
 have hz2:=hb2.size
 have HB2:=Hid.mk hb2
 clear k2 hb2 g0 g1 g2
 have k3:=span6_any g h1 h3 h6 h4 false (w2.alloc (.cells #[.int .i64 (g.s:Int), .int .i64 (g.l:Int), .int .i64 (g.n:Int)] 31))
 have hbs:=below_box w2 (.cells #[.int .i64 (g.s:Int), .int .i64 (g.l:Int), .int .i64 (g.n:Int)] 31)
 have hbn:=heap_alloc_new w2 (.cells #[.int .i64 (g.s:Int), .int .i64 (g.l:Int), .int .i64 (g.n:Int)] 31)
 have HBS:=Hid.mk (And.intro hbs hbn)
 clear hbs hbn
 obtain⟨S1,hS1⟩:∃S1,S1=(spanOf g false).1:=⟨_,rfl⟩
 obtain⟨S2,hS2⟩:∃S2,S2=(spanOf g false).2:=⟨_,rfl⟩
 obtain⟨C,hC⟩:∃C,C=(bSt (lyG g)).cnt:=⟨_,rfl⟩
 rw [←hS1,←hS2] at k3
 have hsub:(S2:Int)-(S1:Int)=(C:Int):=by
  have e1:S1=2+g.n / 4:=hS1
  have e2:S2=g.s-3-g.l:=hS2
  have e3:C=g.s-(3+g.l)-(2+g.n / 4):=hC
  omega
 have hS2l:S2≤4096:=by rw [hS2];exact(span_le h1 h6 h4).2
 have HC:=Hid.mk hC
 have hC4:C≤4096:=by omega
 clear hS1 hS2 hC
 go_wp2_with fail
 refine k3.mono ?_
 rintro e w3 ⟨rfl,hb3⟩
 have hb23:Below w1.heap.size w1 w3:=(HB2.out.trans (HBS.out.1.mono hz2)).trans (hb3.mono (by have:=HBS.out.1.size;omega))
 have hrp3:=HI.out.1.later hb23
 have h7b:=(hb3.block _ (lt_there HBS.out.2)).trans HBS.out.2
 have kl:=left_ok hrp3.x hrp3.p1 (HI.out.2.1.state HFr.out.dead)
 have hqf:=HI.out.2.1.qf hrp3.x.yk
 have hl1:TG.pleft _ _ S (bSt (lyG g))=C:=hqf.left.1.trans HC.out.symm
 have hl2:TG.pleft _ _ S (nSt (lyG g))=g.n:=hqf.left.2
 rw [hl1,hl2] at kl
 have HQF:=Hid.mk hqf
 have HL3:=Hid.mk (And.intro hrp3 (And.intro hb23 h7b))
 clear k3 hb3 hb23 hrp3 h7b HBS HB2 hqf hl1 hl2
 go_wp2_with fail
 refine kl.mono ?_
 rintro e w4 ⟨rfl,hx4,hk4⟩
 have hlt7:w2.heap.size<w3.heap.size:=lt_there HL3.out.2.2
 have hlow:=HL3.out.1.x.lt
 have hn7:¬OwT F t n w2.heap.size:=fun ho=>by
  have:=HI.out.1.x.lt _ ho
  omega
 have h7c:=(hk4.block _ hlt7 hn7).trans HL3.out.2.2
 have c72:w4.cell? ⟨w2.heap.size,2,none⟩=some (.int .i64 (g.n:Int)):=cell_of_block h7c (j:=2) rfl
 have kn:=num6_any 0 w4
 have hrp4:=HL3.out.1.on hx4 hk4
 have hbw4:Below w.heap.size w w4:=(HI.out.2.2.trans (HL3.out.2.1.mono HI.out.2.2.size)).trans (hk4.below HLo.out (by have:=HI.out.2.2.size;have:=HL3.out.2.1.size;omega))
 have HL4:=Hid.mk (And.intro hrp4 (And.intro h7c hbw4))
 have hz4:w2.heap.size<w4.heap.size:=lt_there h7c
 have HN7:=Hid.mk hn7
 have HRL:Hid (kr<w4.heap.size∧a1<w4.heap.size∧a2<w4.heap.size):=⟨lt_there hrp4.b,hrp4.p1.lt,hrp4.p2.lt⟩
 have hz24:w.heap.size≤w4.heap.size:=hbw4.size
 clear kl hx4 hk4 HL3 hlow h7c hrp4 hbw4 hn7 hlt7
 go_wp2_with fail
 refine kn.mono ?_
 rintro e w9 ⟨rfl,hw9⟩
 have hw9':=hw9.symm
 subst hw9'
 clear kn hw9
 have HA:Hid (ApI w (w4.alloc (.cells #[.slice none 0 0, .slice none 0 0] 51)) g F w4.heap.size kr p q l m t n a1 a2 k S L' w2.heap.size w4.heap.size (.slice none 0 0) (.slice none 0 0) [] []):=by
  have hb:=below_box w4 (.cells #[.slice none 0 0, .slice none 0 0] 51)
  exact⟨_,_,HL4.out.1.later hb,HQF.out,IL.nil _ _,IL.nil _ _,(fun j hj=>by simp [Value.ownBlock] at hj),(hb.block _ hz4).trans HL4.out.2.1,heap_alloc_new _ _,HL4.out.2.2.trans (hb.mono HL4.out.2.2.size)⟩
 have HLOW:Hid (TXlt w4.heap.size F q l m t n):=HL4.out.1.x.low
 clear HQF HI HL4 c72
 go_wp2
 go_loopw [14] (fun iv wr=>∃(j:Nat) (vb vn:Value) (tb tn:List Nat),j≤sn∧iv= .int .i64 (j:Int)∧ApI w wr g F w4.heap.size kr p q l m t n a1 a2 k S L' w2.heap.size w4.heap.size vb vn tb tn) (fun iv _=>sn-(intOf iv).toNat)
 case atStart=>exact⟨0,_,_, [], [],Nat.zero_le _,rfl,HA.out⟩
 case round=>
  obtain⟨j,vb,vn,tb,tn,hj,rfl,hap⟩:=hrel
  clear HA
  by_cases hlt:j<sn
  ·have hlt':(j:Int)<(sn:Int):=by omega
   by_cases hl4:j<400
   ·have hl4':(j:Int)<400:=by omega
    obtain⟨cR,T,hrp,hq,hib,hin,hsep,b7,b13,hbw⟩:=hap
    rcases sa with _|sx
    ·have:=HSC.out.1 rfl
     omega
    obtain⟨b,o,rfl,hbb,dr,nd,wh,at_,x0,x1,x2,x3,hat⟩:=(HSC.out.far hbw).2 sx rfl j hlt
    have s0:wr.cell? ⟨w2.heap.size,0,none⟩=some (.int .i64 (g.s:Int)):=cell_of_block b7 (j:=0) rfl
    have s1:wr.cell? ⟨w2.heap.size,1,none⟩=some (.int .i64 (g.l:Int)):=cell_of_block b7 (j:=1) rfl
    have s2:wr.cell? ⟨w2.heap.size,2,none⟩=some (.int .i64 (g.n:Int)):=cell_of_block b7 (j:=2) rfl
    have y0:wr.drew.cell? ⟨w4.heap.size,0,none⟩=some vb:=cell_of_block (w:=wr.drew) b13 (j:=0) rfl
    have y1:wr.drew.cell? ⟨w4.heap.size,1,none⟩=some vn:=cell_of_block (w:=wr.drew) b13 (j:=1) rfl
    have cq:wr.cell? ⟨kr,3,none⟩=some (.pointer (some ⟨a2,0,none⟩)):=cell_of_block hrp.b (j:=3) rfl
    have HS:=Hid.mk (And.intro hrp (And.intro hq (And.intro hib (And.intro hin (And.intro hsep (And.intro b7 (And.intro b13 hbw)))))))
    clear hrp hq hib hin hsep b7 b13 hbw
    cases wh
    ·go_wp2_with fail
     refine wp_region_held_drew (S:=(fun w'=>w'.cell? ⟨w2.heap.size,0,none⟩=some (.int .i64 (g.s:Int))∧w'.cell? ⟨w2.heap.size,1,none⟩=some (.int .i64 (g.l:Int))∧w'.cell? ⟨w2.heap.size,2,none⟩=some (.int .i64 (g.n:Int))∧w'.cell? ⟨b,o+j*4,none⟩=some (.bool dr)∧w'.cell? ⟨b,o+j*4+1,none⟩=some (.bool nd)∧w'.cell? ⟨b,o+j*4+2,none⟩=some (.bool false)∧w'.cell? ⟨b,o+j*4+3,none⟩=some (.int .i64 at_))) (by kernel_rfl) (⟨s0,s1,s2,x0,x1,x2,x3⟩) (fun hHeld=>?_)
     refine wpAnyH_take (i:=0) (oi:={dst:=some 76,op:=Op.move (Operand.tmp 15),type:=25,pos:= "outright.go:170",after:= #[],guard:=none}) (v:= .pointer (some ⟨a1,0,none⟩)) rfl (by kernel_rfl) (by kernel_rfl) (by kernel_rfl) (fun _ _ _ h=>h) (Or.inl ⟨by rfl,?_⟩) (by assumption) ?_
     ·intro w hSw
      (try dsimp only at hSw)
      go_simp
     try simp only [Act.put,List.setIfInBounds_toArray,List.set_cons_zero,List.set_cons_succ]
     refine wpAnyH_take (i:=1) (oi:={dst:=some 77,op:=Op.load 31 (Operand.tmp 7),type:=31,pos:= "outright.go:170",after:= #[],guard:=none}) (v:=supV g) rfl (by kernel_rfl) (by kernel_rfl) (by kernel_rfl) (fun _ _ _ h=>h) (Or.inl ⟨by rfl,?_⟩) (by assumption) ?_
     ·intro w hSw
      (try dsimp only at hSw)
      go_simp
     try simp only [Act.put,List.setIfInBounds_toArray,List.set_cons_zero,List.set_cons_succ]
     refine wpAnyH_take (i:=3) (oi:={dst:=some 79,op:=Op.move (Operand.tmp 1),type:=46,pos:= "outright.go:170",after:= #[],guard:=none}) (v:= .slice (some ⟨b,o,none⟩) sn sc) rfl (by kernel_rfl) (by kernel_rfl) (by kernel_rfl) (fun _ _ _ h=>h) (Or.inl ⟨by rfl,?_⟩) (by assumption) ?_
     ·intro w hSw
      (try dsimp only at hSw)
      go_simp
     try simp only [Act.put,List.setIfInBounds_toArray,List.set_cons_zero,List.set_cons_succ]
     refine wpAnyH_take (i:=4) (oi:={dst:=some 80,op:=Op.move (Operand.tmp 14),type:=3,pos:= "outright.go:170",after:= #[],guard:=none}) (v:= .int .i64 (j:Int)) rfl (by kernel_rfl) (by kernel_rfl) (by kernel_rfl) (fun _ _ _ h=>h) (Or.inl ⟨by rfl,?_⟩) (by assumption) ?_
     ·intro w hSw
      (try dsimp only at hSw)
      go_simp
     try simp only [Act.put,List.setIfInBounds_toArray,List.set_cons_zero,List.set_cons_succ]
     refine wpAnyH_take (i:=5) (oi:={dst:=some 81,op:=Op.indexAddr 46 (Operand.tmp 79) (Operand.tmp 80),type:=0,pos:= "outright.go:170",after:= #[{on:=3,ground:=Ground.data},{on:=4,ground:=Ground.data}],guard:=none}) (v:= .pointer (some ⟨b,o+j*4,none⟩)) rfl (by kernel_rfl) (by kernel_rfl) (by kernel_rfl) (fun _ _ _ h=>h) (Or.inl ⟨by rfl,?_⟩) (by assumption) ?_
     ·intro w hSw
      (try dsimp only at hSw)
      go_simp
     try simp only [Act.put,List.setIfInBounds_toArray,List.set_cons_zero,List.set_cons_succ]
     refine wpAnyH_take (i:=6) (oi:={dst:=some 82,op:=Op.load 53 (Operand.tmp 81),type:=53,pos:= "outright.go:170",after:= #[{on:=5,ground:=Ground.data}],guard:=none}) (v:= .agg #[.bool dr, .bool nd, .bool false, .int .i64 at_]) rfl (by kernel_rfl) (by kernel_rfl) (by kernel_rfl) (fun _ _ _ h=>h) (Or.inl ⟨by rfl,?_⟩) (by assumption) ?_
     ·intro w hSw
      (try dsimp only at hSw)
      go_simp
     try simp only [Act.put,List.setIfInBounds_toArray,List.set_cons_zero,List.set_cons_succ]
     refine wpAnyH_ready (rs:= [2]) (by kernel_rfl) (by simp) ?_
     refine AllReadyH.cons (o:={dst:=some 78,op:=Op.load 51 (Operand.tmp 13),type:=51,pos:= "outright.go:170",after:= #[],guard:=none}) rfl (fun K hK=>?_) AllReadyH.nil
     go_simp
     refine hK.out _ _ ?_ (fun hHeld=>?_)
     ·exact⟨s0,s1,s2,x0,x1,x2,x3⟩
     clear hK K
     try simp only [Act.put,List.setIfInBounds_toArray,List.set_cons_zero,List.set_cons_succ]
     refine wpAnyH_ready (rs:= [7]) (by kernel_rfl) (by simp) ?_
     refine AllReadyH.cons (o:={dst:=some 83,op:=Op.call {callee:=Callee.value (Operand.func 16),args:= #[Operand.tmp 76,Operand.tmp 77,Operand.tmp 78,Operand.tmp 82],argTypes:= #[25,31,51,53]},type:=54,pos:= "outright.go:170",after:= #[{on:=0,ground:=Ground.data},{on:=1,ground:=Ground.data},{on:=2,ground:=Ground.data},{on:=6,ground:=Ground.data}],guard:=none}) rfl (fun K hK=>?_) AllReadyH.nil
     go_simp
     have bd:Below wr.heap.size wr wr.drew:=below_drew (Below.refl _ _)
     have hBz:w4.heap.size<wr.heap.size:=lt_there HS.out.2.2.2.2.2.2.1
     have ka:=act_any (HS.out.1.x.later bd) (HS.out.1.p1.later bd) HFr.out.dead h1 h3 h6 h4 HS.out.2.1 (HS.out.2.2.1.later bd) (HS.out.2.2.2.1.later bd) HS.out.2.2.2.2.1 HLOW.out (Nat.le_of_lt hBz) dr nd false at_ hat
     refine ka.mono ?_
     rintro e w6 ⟨vb2,vn2,tb2,tn2,T2,cR2,rfl,hx6,hk6,hib6,hin6,hsep6,hnx⟩
     obtain⟨a6,c6,rfl⟩:=hib6.form
     obtain⟨a7,c7,rfl⟩:=hin6.form
     have hZ:∀i,(OwT F t n i∨vb.ownBlock=some i∨vn.ownBlock=some i)→w.heap.size≤i:=fun i hi=>by
      rcases hi with hi|hi|hi
      ·exact HLo.out i hi
      ·have:=HS.out.2.2.1.x i hi;omega
      ·have:=HS.out.2.2.2.1.x i hi;omega
     have u7:w6.heap[w2.heap.size]? =_:=(hk6.block _ (lt_there HS.out.2.2.2.2.2.1) (fun e=>by
      rcases e with e|e|e
      ·exact HN7.out e
      ·exact HS.out.2.2.1.away HS.out.2.2.2.2.2.1 (by decide) e
      ·exact HS.out.2.2.2.1.away HS.out.2.2.2.2.2.1 (by decide) e)).trans HS.out.2.2.2.2.2.1
     have u13:w6.heap[w4.heap.size]? =_:=(hk6.block _ (lt_there HS.out.2.2.2.2.2.2.1) (fun e=>by
      rcases e with e|e|e
      ·obtain⟨o1,o2,o3,o4,o5,o6⟩:=HLOW.out;rcases e with e|e|e
       ·have:=o1 _ e;omega
       ·omega
       ·omega
      ·exact HS.out.2.2.1.away HS.out.2.2.2.2.2.2.1 (by decide) e
      ·exact HS.out.2.2.2.1.away HS.out.2.2.2.2.2.2.1 (by decide) e)).trans HS.out.2.2.2.2.2.2.1
     have ub:w6.heap[b]? =wr.heap[b]? :=hk6.block b (Nat.lt_of_lt_of_le hbb HS.out.2.2.2.2.2.2.2.size) (fun e=>by have:=hZ b e;omega)
     obtain⟨q0,q1,q2,q3,q4,q5⟩:=puts2 (x:= .slice a6 tb2.length c6) (y:= .slice a7 tn2.length c7) u13
     have t7:((w6.setCell ⟨w4.heap.size,0,none⟩ (.slice a6 tb2.length c6)).setCell ⟨w4.heap.size,1,none⟩ (.slice a7 tn2.length c7)).heap[w2.heap.size]? =_:=(q5.block _ (lt_there u7) (by omega)).trans u7
     have tb7:((w6.setCell ⟨w4.heap.size,0,none⟩ (.slice a6 tb2.length c6)).setCell ⟨w4.heap.size,1,none⟩ (.slice a7 tn2.length c7)).heap[b]? =wr.heap[b]? :=(q5.block b (Nat.lt_of_lt_of_le (Nat.lt_of_lt_of_le hbb HS.out.2.2.2.2.2.2.2.size) hk6.size) (by omega)).trans ub
     have S6:w6.cell? ⟨w2.heap.size,0,none⟩=some (.int .i64 (g.s:Int))∧w6.cell? ⟨w2.heap.size,1,none⟩=some (.int .i64 (g.l:Int))∧w6.cell? ⟨w2.heap.size,2,none⟩=some (.int .i64 (g.n:Int))∧w6.cell? ⟨b,o+j*4,none⟩=some (.bool dr)∧w6.cell? ⟨b,o+j*4+1,none⟩=some (.bool nd)∧w6.cell? ⟨b,o+j*4+2,none⟩=some (.bool false)∧w6.cell? ⟨b,o+j*4+3,none⟩=some (.int .i64 at_):=⟨cell_of_block u7 (j:=0) rfl,cell_of_block u7 (j:=1) rfl,cell_of_block u7 (j:=2) rfl,(World.cell?_of_block (a:=⟨b,_,none⟩) ub).trans x0,(World.cell?_of_block (a:=⟨b,_,none⟩) ub).trans x1,(World.cell?_of_block (a:=⟨b,_,none⟩) ub).trans x2,(World.cell?_of_block (a:=⟨b,_,none⟩) ub).trans x3⟩
     have S7:((w6.setCell ⟨w4.heap.size,0,none⟩ (.slice a6 tb2.length c6)).setCell ⟨w4.heap.size,1,none⟩ (.slice a7 tn2.length c7)).cell? ⟨w2.heap.size,0,none⟩=some (.int .i64 (g.s:Int))∧((w6.setCell ⟨w4.heap.size,0,none⟩ (.slice a6 tb2.length c6)).setCell ⟨w4.heap.size,1,none⟩ (.slice a7 tn2.length c7)).cell? ⟨w2.heap.size,1,none⟩=some (.int .i64 (g.l:Int))∧((w6.setCell ⟨w4.heap.size,0,none⟩ (.slice a6 tb2.length c6)).setCell ⟨w4.heap.size,1,none⟩ (.slice a7 tn2.length c7)).cell? ⟨w2.heap.size,2,none⟩=some (.int .i64 (g.n:Int))∧((w6.setCell ⟨w4.heap.size,0,none⟩ (.slice a6 tb2.length c6)).setCell ⟨w4.heap.size,1,none⟩ (.slice a7 tn2.length c7)).cell? ⟨b,o+j*4,none⟩=some (.bool dr)∧((w6.setCell ⟨w4.heap.size,0,none⟩ (.slice a6 tb2.length c6)).setCell ⟨w4.heap.size,1,none⟩ (.slice a7 tn2.length c7)).cell? ⟨b,o+j*4+1,none⟩=some (.bool nd)∧((w6.setCell ⟨w4.heap.size,0,none⟩ (.slice a6 tb2.length c6)).setCell ⟨w4.heap.size,1,none⟩ (.slice a7 tn2.length c7)).cell? ⟨b,o+j*4+2,none⟩=some (.bool false)∧((w6.setCell ⟨w4.heap.size,0,none⟩ (.slice a6 tb2.length c6)).setCell ⟨w4.heap.size,1,none⟩ (.slice a7 tn2.length c7)).cell? ⟨b,o+j*4+3,none⟩=some (.int .i64 at_):=⟨cell_of_block t7 (j:=0) rfl,cell_of_block t7 (j:=1) rfl,cell_of_block t7 (j:=2) rfl,(World.cell?_of_block (a:=⟨b,_,none⟩) tb7).trans x0,(World.cell?_of_block (a:=⟨b,_,none⟩) tb7).trans x1,(World.cell?_of_block (a:=⟨b,_,none⟩) tb7).trans x2,(World.cell?_of_block (a:=⟨b,_,none⟩) tb7).trans x3⟩
     have HS6:=Hid.mk (And.intro hx6 (And.intro hk6 (And.intro hib6 (And.intro hin6 (And.intro hsep6 (And.intro hnx (And.intro t7 (And.intro q4 (And.intro q5 hZ)))))))))
     have HS7:=Hid.mk S7
     have u13k:=u13
     clear ka hx6 hk6 hib6 hin6 hsep6 hnx u7 u13 ub t7 tb7 q4 q5 hZ y0 y1 bd
     refine hK.out _ _ ?_ (fun hHeld=>?_)
     ·exact S6
     clear hK K
     try simp only [Act.put,List.setIfInBounds_toArray,List.set_cons_zero,List.set_cons_succ]
     refine wpAnyH_take (i:=8) (oi:={dst:=some 75,op:=Op.move (Operand.tmp 83),type:=54,pos:= "outright.go:170",after:= #[{on:=7,ground:=Ground.data}],guard:=none}) (v:= .tuple #[.agg #[.slice a6 tb2.length c6, .slice a7 tn2.length c7], .bool true]) rfl (by kernel_rfl) (by kernel_rfl) (by kernel_rfl) (fun _ _ _ h=>h) (Or.inl ⟨by rfl,?_⟩) (by assumption) ?_
     ·intro w hSw
      (try dsimp only at hSw)
      go_simp
     try simp only [Act.put,List.setIfInBounds_toArray,List.set_cons_zero,List.set_cons_succ]
     refine wpAnyH_take (i:=9) (oi:={dst:=some 84,op:=Op.extract (Operand.tmp 75) 0,type:=51,pos:= "outright.go:170",after:= #[{on:=8,ground:=Ground.data}],guard:=none}) (v:= .agg #[.slice a6 tb2.length c6, .slice a7 tn2.length c7]) rfl (by kernel_rfl) (by kernel_rfl) (by kernel_rfl) (fun _ _ _ h=>h) (Or.inl ⟨by rfl,?_⟩) (by assumption) ?_
     ·intro w hSw
      (try dsimp only at hSw)
      go_simp
     try simp only [Act.put,List.setIfInBounds_toArray,List.set_cons_zero,List.set_cons_succ]
     refine wpAnyH_take (i:=10) (oi:={dst:=some 85,op:=Op.extract (Operand.tmp 75) 1,type:=4,pos:= "outright.go:170",after:= #[{on:=8,ground:=Ground.data},{on:=11,ground:=Ground.gcOnly Departure.lateStores}],guard:=none}) (v:= .bool true) rfl (by kernel_rfl) (by kernel_rfl) (by kernel_rfl) (fun _ _ _ h=>h) (Or.inl ⟨by rfl,?_⟩) (by assumption) ?_
     ·intro w hSw
      (try dsimp only at hSw)
      go_simp
     try simp only [Act.put,List.setIfInBounds_toArray,List.set_cons_zero,List.set_cons_succ]
     refine wpAnyH_ready (rs:= [11]) (by kernel_rfl) (by simp) ?_
     refine AllReadyH.cons (o:={dst:=none,op:=Op.store 51 (Operand.tmp 13) (Operand.tmp 84),type:=0,pos:= "outright.go:170",after:= #[{on:=9,ground:=Ground.data},{on:=7,ground:=Ground.chain},{on:=0,ground:=Ground.phase},{on:=1,ground:=Ground.phase},{on:=2,ground:=Ground.phase},{on:=3,ground:=Ground.phase},{on:=4,ground:=Ground.phase},{on:=5,ground:=Ground.phase},{on:=6,ground:=Ground.phase},{on:=7,ground:=Ground.phase},{on:=8,ground:=Ground.phase},{on:=9,ground:=Ground.phase},{on:=10,ground:=Ground.textOnly Departure.lateStores}],guard:=none}) rfl (fun K hK=>?_) AllReadyH.nil
     go_simp
     refine hK.out _ _ ?_ (fun hHeld=>?_)
     ·exact HS7.out
     clear hK K
     try simp only [Act.put,List.setIfInBounds_toArray,List.set_cons_zero,List.set_cons_succ]
     refine wpAnyH_ready (rs:= [12]) (by kernel_rfl) (by simp) ?_
     refine AllReadyH.cons (o:={dst:=some 16,op:=Op.assign (Operand.tmp 85),type:=4,pos:= "outright.go:170",after:= #[{on:=10,ground:=Ground.data},{on:=11,ground:=Ground.chain},{on:=0,ground:=Ground.phase},{on:=1,ground:=Ground.phase},{on:=2,ground:=Ground.phase},{on:=3,ground:=Ground.phase},{on:=4,ground:=Ground.phase},{on:=5,ground:=Ground.phase},{on:=6,ground:=Ground.phase},{on:=7,ground:=Ground.phase},{on:=8,ground:=Ground.phase},{on:=9,ground:=Ground.phase},{on:=10,ground:=Ground.phase},{on:=11,ground:=Ground.phase}],guard:=none}) rfl (fun K hK=>?_) AllReadyH.nil
     go_simp
     refine hK.out _ _ ?_ (fun hHeld=>?_)
     ·exact HS7.out
     clear hK K
     try simp only [Act.put,List.setIfInBounds_toArray,List.set_cons_zero,List.set_cons_succ]
     refine wpAnyH_done (by kernel_rfl) ?_ _
     obtain⟨w7,hw7⟩:∃w7,w7=((w6.setCell ⟨w4.heap.size,0,none⟩ (.slice a6 tb2.length c6)).setCell ⟨w4.heap.size,1,none⟩ (.slice a7 tn2.length c7)):=⟨_,rfl⟩
     obtain⟨hx6,hk6,hib6,hin6,hsep6,hnx,t7,q4,q5,hZ⟩:=HS6.out
     rw [←hw7] at t7 q4 q5
     rw [←hw7]
     have hk7:Keeps (fun i=>(OwT F t n i∨vb.ownBlock=some i∨vn.ownBlock=some i)∨i=w4.heap.size) wr w7:=((Keeps.of_below _ (below_drew (Below.refl _ _))).trans (hk6.mono (fun _ h=> .inl h)) (fun _ h=> .inl h)).trans q5 (fun i hi=> .inl (.inr hi))
     have hzz:∀i,i<w4.heap.size→¬OwT F t n i→¬((OwT F t n i∨vb.ownBlock=some i∨vn.ownBlock=some i)∨i=w4.heap.size):=fun i hi hn e=>by
      rcases e with (e|e|e)|e
      ·exact hn e
      ·have:=HS.out.2.2.1.x i e;omega
      ·have:=HS.out.2.2.2.1.x i e;omega
      ·omega
     have hrp7:=HS.out.1.onZ (hx6.side HLOW.out q5 (fun i hi=>by omega)) hk7 (hzz kr HRL.out.1 HS.out.1.nk) (hzz a1 HRL.out.2.1 HS.out.1.p1.nf) (hzz a2 HRL.out.2.2 HS.out.1.p2.nf)
     have hib7:=hib6.keep q5 (fun i hi e=>by subst e;exact hib6.away u13k (by decide) hi)
     have hin7:=hin6.keep q5 (fun i hi e=>by subst e;exact hin6.away u13k (by decide) hi)
     have hbw7:Below w.heap.size w w7:=HS.out.2.2.2.2.2.2.2.trans (hk7.below (fun i hi=>by rcases hi with hi|hi;exact hZ i hi;omega) HS.out.2.2.2.2.2.2.2.size)
     have hOw:∀i,w4.heap.size≤i→¬OwT F t n i:=fun i hi e=>by
      obtain⟨o1,o2,o3,o4,o5,o6⟩:=HLOW.out
      rcases e with e|e|e
      ·have:=o1 _ e;omega
      ·omega
      ·omega
     have HOw:=Hid.mk hOw
     have HEN:=Hid.mk HS.out.2.1.en
     have H7:=Hid.mk (And.intro hrp7 (And.intro hib7 (And.intro hin7 (And.intro t7 (And.intro q4 hbw7)))))
     clear HS6 HS7 HS hw7 hx6 hk6 hib6 hin6 t7 q4 q5 hZ hk7 hzz hrp7 hib7 hin7 hbw7 hOw hHeld S6 q0 q1 q2 q3 s0 s1 s2 x0 x1 x2 x3 cq hbb hat
     rcases hnx with hq|⟨bb,hT,htb,htn,hfu⟩
     ·have kl:=left_ok H7.out.1.x H7.out.1.p1 (hq.state HFr.out.dead)
      have hl1:=hq.left.1
      have hl2:TG.pleft _ _ S (nSt (lyG g))+tn2.length=g.n:=hq.left.2
      have hl3:TG.pleft _ _ S (bSt (lyG g))+tb2.length=C:=hl1.trans HC.out.symm
      have hst:=hq.state HFr.out.dead
      obtain⟨P1,hP1⟩:∃P1,P1=T2.pleft ⟨lyG g,L', [],true⟩ S (bSt (lyG g)):=⟨_,rfl⟩
      obtain⟨P2,hP2⟩:∃P2,P2=T2.pleft ⟨lyG g,L', [],true⟩ S (nSt (lyG g)):=⟨_,rfl⟩
      rw [←hP1] at hl3
      rw [←hP2] at hl2
      have kl2:Calls Tryz.prog 15 #[.pointer (some ⟨a1,0,none⟩)] w7 fun e w'=>e= .returned (.tuple #[.int .i64 (P1:Int), .int .i64 (P2:Int), .int .i64 0])∧TX w' F p g.s (cR2+2) q l m t n S ⟨lyG g,L', [],true⟩ T2∧Keeps (OwT F t n) w7 w':=by
       rw [hP1,hP2]
       exact kl
      have hp1:(C:Int)-(tb2.length:Int)=(P1:Int):=by omega
      have hp2:(g.n:Int)-(tn2.length:Int)=(P2:Int):=by omega
      have htl:tb2.length≤C:=by omega
      have hnl:tn2.length≤g.n:=by omega
      have HQ:=Hid.mk hq
      have HST:=Hid.mk hst
      clear kl hl1 hl2 hl3 hst hq hP1 hP2
      go_wp2_with fail
      refine kl2.mono ?_
      rintro e w8 ⟨rfl,hx8,hk8⟩
      have hrp8:=H7.out.1.on hx8 hk8
      have c0:=hrp8.p1.c0
      have ks:=state_any hx8.st hx8.tx
      rw [HST.out] at ks
      have z7:=(hk8.block _ (lt_there H7.out.2.2.2.1) HN7.out).trans H7.out.2.2.2.1
      have z13:=(hk8.block _ (lt_there H7.out.2.2.2.2.1) (HOw.out _ (Nat.le_refl _))).trans H7.out.2.2.2.2.1
      have H8:=Hid.mk (And.intro hrp8 (And.intro (H7.out.2.1.keep hk8 (fun i hi=>HOw.out i (H7.out.2.1.x i hi))) (And.intro (H7.out.2.2.1.keep hk8 (fun i hi=>HOw.out i (H7.out.2.2.1.x i hi))) (And.intro z7 (And.intro z13 (H7.out.2.2.2.2.2.trans (hk8.below HLo.out H7.out.2.2.2.2.2.size)))))))
      clear kl2 hx8 hk8 hrp8 z7 z13 H7
      go_wp2_with fail
      refine ks.mono ?_
      rintro e w9 ⟨rfl,hb9⟩
      have z13:=(hb9.block _ (lt_there H8.out.2.2.2.2.1)).trans H8.out.2.2.2.2.1
      have z7:=(hb9.block _ (lt_there H8.out.2.2.2.1)).trans H8.out.2.2.2.1
      have e0:w9.cell? ⟨w4.heap.size,0,none⟩=some (.slice a6 tb2.length c6):=cell_of_block z13 (j:=0) rfl
      have e1:w9.cell? ⟨w4.heap.size,1,none⟩=some (.slice a7 tn2.length c7):=cell_of_block z13 (j:=1) rfl
      have e2:w9.cell? ⟨w2.heap.size,2,none⟩=some (.int .i64 (g.n:Int)):=cell_of_block z7 (j:=2) rfl
      have kn:=num6_any 0 w9
      have HE:Hid (ApI w w9 g F w4.heap.size kr p q l m t n a1 a2 k S L' w2.heap.size w4.heap.size (.slice a6 tb2.length c6) (.slice a7 tn2.length c7) tb2 tn2):=⟨_,_,H8.out.1.later hb9,HQ.out,H8.out.2.1.later hb9,H8.out.2.2.1.later hb9,hsep6,z7,z13,H8.out.2.2.2.2.2.trans (hb9.mono H8.out.2.2.2.2.2.size)⟩
      clear ks hb9 z13 z7 H8 HQ HST c0 hsep6
      go_wp2_with fail
      refine kn.mono ?_
      rintro e wx ⟨rfl,hwx⟩
      have hwx':=hwx.symm
      subst hwx'
      clear hwx
      go_wp2_with fail
      refine kn.mono ?_
      rintro e wx ⟨rfl,hwx⟩
      have hwx':=hwx.symm
      subst hwx'
      clear hwx kn
      go_wp2
      go_roundw
      case rel=>exact⟨j+1,_,_,tb2,tn2,by omega,by go_num,HE.out⟩
      case measure=>simp [intOf];omega
     ·have hbad:T2.bad=fullOf bb:=by rw [hT]
      have hen:T2.ended=false:=by rw [hT];exact HEN.out
      have hst:T2.state ⟨lyG g,L', [],true⟩ S=fullOf bb:=(bad_state HFr.out.dead hen (by rw [hbad];exact full_ne bb)).trans hbad
      have hsn0:T2.state ⟨lyG g,L', [],true⟩ S≠0:=by rw [hst];exact full_ne bb
      have kl:=left_no H7.out.1.x H7.out.1.p1 hsn0
      have hsp:(T2.spoil ⟨lyG g,L', [],true⟩ S (T2.state ⟨lyG g,L', [],true⟩ S)).2=T2:=by unfold TG.spoil;rw [if_pos hsn0]
      rw [hsp,hst] at kl
      obtain⟨fb,hfb⟩:∃fb,fb=fullOf bb:=⟨_,rfl⟩
      have hfne:fb≠0:=by rw [hfb];exact full_ne bb
      rw [←hfb] at kl hst
      have hor:tb2.length=C∨(tb2.length≠C∧tn2.length=g.n):=by
       cases bb
       ·exact .inl (hfu.trans HC.out.symm)
       ·by_cases e9:tb2.length=C
        ·exact .inl e9
        ·exact .inr ⟨e9,hfu⟩
      have HST:=Hid.mk hst
      have HOR:=Hid.mk hor
      clear hbad hen hsn0 hsp hfb hst hor hT htb htn hfu
      go_wp2_with fail
      refine kl.mono ?_
      rintro e w8 ⟨rfl,hx8,hk8⟩
      have hrp8:=H7.out.1.on hx8 hk8
      have c0:=hrp8.p1.c0
      have ks:=state_any hx8.st hx8.tx
      rw [HST.out] at ks
      have z7:=(hk8.block _ (lt_there H7.out.2.2.2.1) HN7.out).trans H7.out.2.2.2.1
      have z13:=(hk8.block _ (lt_there H7.out.2.2.2.2.1) (HOw.out _ (Nat.le_refl _))).trans H7.out.2.2.2.2.1
      have H8:=Hid.mk (And.intro z7 (And.intro z13 (H7.out.2.2.2.2.2.trans (hk8.below HLo.out H7.out.2.2.2.2.2.size))))
      clear kl hx8 hk8 hrp8 z7 z13 H7
      go_wp2_with fail
      refine ks.mono ?_
      rintro e w9 ⟨rfl,hb9⟩
      have z13:=(hb9.block _ (lt_there H8.out.2.1)).trans H8.out.2.1
      have z7:=(hb9.block _ (lt_there H8.out.1)).trans H8.out.1
      have e0:w9.cell? ⟨w4.heap.size,0,none⟩=some (.slice a6 tb2.length c6):=cell_of_block z13 (j:=0) rfl
      have e1:w9.cell? ⟨w4.heap.size,1,none⟩=some (.slice a7 tn2.length c7):=cell_of_block z13 (j:=1) rfl
      have e2:w9.cell? ⟨w2.heap.size,2,none⟩=some (.int .i64 (g.n:Int)):=cell_of_block z7 (j:=2) rfl
      have kn:=num6_any fb w9
      have HE:=Hid.mk (H8.out.2.2.trans (hb9.mono H8.out.2.2.size))
      clear ks hb9 z13 z7 H8 HST c0 hsep6
      go_wp2_with fail
      refine kn.mono ?_
      rintro e wx ⟨rfl,hwx⟩
      have hwx':=hwx.symm
      subst hwx'
      clear hwx
      rcases HOR.out with h9|⟨h9,h8⟩
      ·have h9i:(tb2.length:Int)=(C:Int):=by omega
       clear h9
       go_wp2_with fail
       refine kn.mono ?_
       rintro e wx ⟨rfl,hwx⟩
       have hwx':=hwx.symm
       subst hwx'
       clear hwx
       go_wp2_with fail
       refine kn.mono ?_
       rintro e wx ⟨rfl,hwx⟩
       have hwx':=hwx.symm
       subst hwx'
       clear hwx
       go_wp2
       go_ret
       exact⟨rfl,HE.out⟩
      ·have h9i:¬(tb2.length:Int)=(C:Int):=by omega
       have h8i:(tn2.length:Int)=(g.n:Int):=by omega
       clear h9 h8
       go_wp2_with fail
       refine kn.mono ?_
       rintro e wx ⟨rfl,hwx⟩
       have hwx':=hwx.symm
       subst hwx'
       clear hwx
       go_wp2_with fail
       refine kn.mono ?_
       rintro e wx ⟨rfl,hwx⟩
       have hwx':=hwx.symm
       subst hwx'
       clear hwx
       go_wp2
       go_ret
       exact⟨rfl,HE.out⟩
    ·go_wp2_with fail
     refine wp_region_held_drew (S:=(fun w'=>w'.cell? ⟨w2.heap.size,0,none⟩=some (.int .i64 (g.s:Int))∧w'.cell? ⟨w2.heap.size,1,none⟩=some (.int .i64 (g.l:Int))∧w'.cell? ⟨w2.heap.size,2,none⟩=some (.int .i64 (g.n:Int))∧w'.cell? ⟨b,o+j*4,none⟩=some (.bool dr)∧w'.cell? ⟨b,o+j*4+1,none⟩=some (.bool nd)∧w'.cell? ⟨b,o+j*4+2,none⟩=some (.bool true)∧w'.cell? ⟨b,o+j*4+3,none⟩=some (.int .i64 at_))) (by kernel_rfl) (⟨s0,s1,s2,x0,x1,x2,x3⟩) (fun hHeld=>?_)
     refine wpAnyH_take (i:=0) (oi:={dst:=some 76,op:=Op.move (Operand.tmp 15),type:=25,pos:= "outright.go:170",after:= #[],guard:=none}) (v:= .pointer (some ⟨a2,0,none⟩)) rfl (by kernel_rfl) (by kernel_rfl) (by kernel_rfl) (fun _ _ _ h=>h) (Or.inl ⟨by rfl,?_⟩) (by assumption) ?_
     ·intro w hSw
      (try dsimp only at hSw)
      go_simp
     try simp only [Act.put,List.setIfInBounds_toArray,List.set_cons_zero,List.set_cons_succ]
     refine wpAnyH_take (i:=1) (oi:={dst:=some 77,op:=Op.load 31 (Operand.tmp 7),type:=31,pos:= "outright.go:170",after:= #[],guard:=none}) (v:=supV g) rfl (by kernel_rfl) (by kernel_rfl) (by kernel_rfl) (fun _ _ _ h=>h) (Or.inl ⟨by rfl,?_⟩) (by assumption) ?_
     ·intro w hSw
      (try dsimp only at hSw)
      go_simp
     try simp only [Act.put,List.setIfInBounds_toArray,List.set_cons_zero,List.set_cons_succ]
     refine wpAnyH_take (i:=3) (oi:={dst:=some 79,op:=Op.move (Operand.tmp 1),type:=46,pos:= "outright.go:170",after:= #[],guard:=none}) (v:= .slice (some ⟨b,o,none⟩) sn sc) rfl (by kernel_rfl) (by kernel_rfl) (by kernel_rfl) (fun _ _ _ h=>h) (Or.inl ⟨by rfl,?_⟩) (by assumption) ?_
     ·intro w hSw
      (try dsimp only at hSw)
      go_simp
     try simp only [Act.put,List.setIfInBounds_toArray,List.set_cons_zero,List.set_cons_succ]
     refine wpAnyH_take (i:=4) (oi:={dst:=some 80,op:=Op.move (Operand.tmp 14),type:=3,pos:= "outright.go:170",after:= #[],guard:=none}) (v:= .int .i64 (j:Int)) rfl (by kernel_rfl) (by kernel_rfl) (by kernel_rfl) (fun _ _ _ h=>h) (Or.inl ⟨by rfl,?_⟩) (by assumption) ?_
     ·intro w hSw
      (try dsimp only at hSw)
      go_simp
     try simp only [Act.put,List.setIfInBounds_toArray,List.set_cons_zero,List.set_cons_succ]
     refine wpAnyH_take (i:=5) (oi:={dst:=some 81,op:=Op.indexAddr 46 (Operand.tmp 79) (Operand.tmp 80),type:=0,pos:= "outright.go:170",after:= #[{on:=3,ground:=Ground.data},{on:=4,ground:=Ground.data}],guard:=none}) (v:= .pointer (some ⟨b,o+j*4,none⟩)) rfl (by kernel_rfl) (by kernel_rfl) (by kernel_rfl) (fun _ _ _ h=>h) (Or.inl ⟨by rfl,?_⟩) (by assumption) ?_
     ·intro w hSw
      (try dsimp only at hSw)
      go_simp
     try simp only [Act.put,List.setIfInBounds_toArray,List.set_cons_zero,List.set_cons_succ]
     refine wpAnyH_take (i:=6) (oi:={dst:=some 82,op:=Op.load 53 (Operand.tmp 81),type:=53,pos:= "outright.go:170",after:= #[{on:=5,ground:=Ground.data}],guard:=none}) (v:= .agg #[.bool dr, .bool nd, .bool true, .int .i64 at_]) rfl (by kernel_rfl) (by kernel_rfl) (by kernel_rfl) (fun _ _ _ h=>h) (Or.inl ⟨by rfl,?_⟩) (by assumption) ?_
     ·intro w hSw
      (try dsimp only at hSw)
      go_simp
     try simp only [Act.put,List.setIfInBounds_toArray,List.set_cons_zero,List.set_cons_succ]
     refine wpAnyH_ready (rs:= [2]) (by kernel_rfl) (by simp) ?_
     refine AllReadyH.cons (o:={dst:=some 78,op:=Op.load 51 (Operand.tmp 13),type:=51,pos:= "outright.go:170",after:= #[],guard:=none}) rfl (fun K hK=>?_) AllReadyH.nil
     go_simp
     refine hK.out _ _ ?_ (fun hHeld=>?_)
     ·exact⟨s0,s1,s2,x0,x1,x2,x3⟩
     clear hK K
     try simp only [Act.put,List.setIfInBounds_toArray,List.set_cons_zero,List.set_cons_succ]
     refine wpAnyH_ready (rs:= [7]) (by kernel_rfl) (by simp) ?_
     refine AllReadyH.cons (o:={dst:=some 83,op:=Op.call {callee:=Callee.value (Operand.func 16),args:= #[Operand.tmp 76,Operand.tmp 77,Operand.tmp 78,Operand.tmp 82],argTypes:= #[25,31,51,53]},type:=54,pos:= "outright.go:170",after:= #[{on:=0,ground:=Ground.data},{on:=1,ground:=Ground.data},{on:=2,ground:=Ground.data},{on:=6,ground:=Ground.data}],guard:=none}) rfl (fun K hK=>?_) AllReadyH.nil
     go_simp
     have bd:Below wr.heap.size wr wr.drew:=below_drew (Below.refl _ _)
     have hBz:w4.heap.size<wr.heap.size:=lt_there HS.out.2.2.2.2.2.2.1
     have ka:=act_any (HS.out.1.x.later bd) (HS.out.1.p2.later bd) HFr.out.dead h1 h3 h6 h4 HS.out.2.1 (HS.out.2.2.1.later bd) (HS.out.2.2.2.1.later bd) HS.out.2.2.2.2.1 HLOW.out (Nat.le_of_lt hBz) dr nd true at_ hat
     refine ka.mono ?_
     rintro e w6 ⟨vb2,vn2,tb2,tn2,T2,cR2,rfl,hx6,hk6,hib6,hin6,hsep6,hnx⟩
     obtain⟨a6,c6,rfl⟩:=hib6.form
     obtain⟨a7,c7,rfl⟩:=hin6.form
     have hZ:∀i,(OwT F t n i∨vb.ownBlock=some i∨vn.ownBlock=some i)→w.heap.size≤i:=fun i hi=>by
      rcases hi with hi|hi|hi
      ·exact HLo.out i hi
      ·have:=HS.out.2.2.1.x i hi;omega
      ·have:=HS.out.2.2.2.1.x i hi;omega
     have u7:w6.heap[w2.heap.size]? =_:=(hk6.block _ (lt_there HS.out.2.2.2.2.2.1) (fun e=>by
      rcases e with e|e|e
      ·exact HN7.out e
      ·exact HS.out.2.2.1.away HS.out.2.2.2.2.2.1 (by decide) e
      ·exact HS.out.2.2.2.1.away HS.out.2.2.2.2.2.1 (by decide) e)).trans HS.out.2.2.2.2.2.1
     have u13:w6.heap[w4.heap.size]? =_:=(hk6.block _ (lt_there HS.out.2.2.2.2.2.2.1) (fun e=>by
      rcases e with e|e|e
      ·obtain⟨o1,o2,o3,o4,o5,o6⟩:=HLOW.out;rcases e with e|e|e
       ·have:=o1 _ e;omega
       ·omega
       ·omega
      ·exact HS.out.2.2.1.away HS.out.2.2.2.2.2.2.1 (by decide) e
      ·exact HS.out.2.2.2.1.away HS.out.2.2.2.2.2.2.1 (by decide) e)).trans HS.out.2.2.2.2.2.2.1
     have ub:w6.heap[b]? =wr.heap[b]? :=hk6.block b (Nat.lt_of_lt_of_le hbb HS.out.2.2.2.2.2.2.2.size) (fun e=>by have:=hZ b e;omega)
     obtain⟨q0,q1,q2,q3,q4,q5⟩:=puts2 (x:= .slice a6 tb2.length c6) (y:= .slice a7 tn2.length c7) u13
     have t7:((w6.setCell ⟨w4.heap.size,0,none⟩ (.slice a6 tb2.length c6)).setCell ⟨w4.heap.size,1,none⟩ (.slice a7 tn2.length c7)).heap[w2.heap.size]? =_:=(q5.block _ (lt_there u7) (by omega)).trans u7
     have tb7:((w6.setCell ⟨w4.heap.size,0,none⟩ (.slice a6 tb2.length c6)).setCell ⟨w4.heap.size,1,none⟩ (.slice a7 tn2.length c7)).heap[b]? =wr.heap[b]? :=(q5.block b (Nat.lt_of_lt_of_le (Nat.lt_of_lt_of_le hbb HS.out.2.2.2.2.2.2.2.size) hk6.size) (by omega)).trans ub
     have S6:w6.cell? ⟨w2.heap.size,0,none⟩=some (.int .i64 (g.s:Int))∧w6.cell? ⟨w2.heap.size,1,none⟩=some (.int .i64 (g.l:Int))∧w6.cell? ⟨w2.heap.size,2,none⟩=some (.int .i64 (g.n:Int))∧w6.cell? ⟨b,o+j*4,none⟩=some (.bool dr)∧w6.cell? ⟨b,o+j*4+1,none⟩=some (.bool nd)∧w6.cell? ⟨b,o+j*4+2,none⟩=some (.bool true)∧w6.cell? ⟨b,o+j*4+3,none⟩=some (.int .i64 at_):=⟨cell_of_block u7 (j:=0) rfl,cell_of_block u7 (j:=1) rfl,cell_of_block u7 (j:=2) rfl,(World.cell?_of_block (a:=⟨b,_,none⟩) ub).trans x0,(World.cell?_of_block (a:=⟨b,_,none⟩) ub).trans x1,(World.cell?_of_block (a:=⟨b,_,none⟩) ub).trans x2,(World.cell?_of_block (a:=⟨b,_,none⟩) ub).trans x3⟩
     have S7:((w6.setCell ⟨w4.heap.size,0,none⟩ (.slice a6 tb2.length c6)).setCell ⟨w4.heap.size,1,none⟩ (.slice a7 tn2.length c7)).cell? ⟨w2.heap.size,0,none⟩=some (.int .i64 (g.s:Int))∧((w6.setCell ⟨w4.heap.size,0,none⟩ (.slice a6 tb2.length c6)).setCell ⟨w4.heap.size,1,none⟩ (.slice a7 tn2.length c7)).cell? ⟨w2.heap.size,1,none⟩=some (.int .i64 (g.l:Int))∧((w6.setCell ⟨w4.heap.size,0,none⟩ (.slice a6 tb2.length c6)).setCell ⟨w4.heap.size,1,none⟩ (.slice a7 tn2.length c7)).cell? ⟨w2.heap.size,2,none⟩=some (.int .i64 (g.n:Int))∧((w6.setCell ⟨w4.heap.size,0,none⟩ (.slice a6 tb2.length c6)).setCell ⟨w4.heap.size,1,none⟩ (.slice a7 tn2.length c7)).cell? ⟨b,o+j*4,none⟩=some (.bool dr)∧((w6.setCell ⟨w4.heap.size,0,none⟩ (.slice a6 tb2.length c6)).setCell ⟨w4.heap.size,1,none⟩ (.slice a7 tn2.length c7)).cell? ⟨b,o+j*4+1,none⟩=some (.bool nd)∧((w6.setCell ⟨w4.heap.size,0,none⟩ (.slice a6 tb2.length c6)).setCell ⟨w4.heap.size,1,none⟩ (.slice a7 tn2.length c7)).cell? ⟨b,o+j*4+2,none⟩=some (.bool true)∧((w6.setCell ⟨w4.heap.size,0,none⟩ (.slice a6 tb2.length c6)).setCell ⟨w4.heap.size,1,none⟩ (.slice a7 tn2.length c7)).cell? ⟨b,o+j*4+3,none⟩=some (.int .i64 at_):=⟨cell_of_block t7 (j:=0) rfl,cell_of_block t7 (j:=1) rfl,cell_of_block t7 (j:=2) rfl,(World.cell?_of_block (a:=⟨b,_,none⟩) tb7).trans x0,(World.cell?_of_block (a:=⟨b,_,none⟩) tb7).trans x1,(World.cell?_of_block (a:=⟨b,_,none⟩) tb7).trans x2,(World.cell?_of_block (a:=⟨b,_,none⟩) tb7).trans x3⟩
     have HS6:=Hid.mk (And.intro hx6 (And.intro hk6 (And.intro hib6 (And.intro hin6 (And.intro hsep6 (And.intro hnx (And.intro t7 (And.intro q4 (And.intro q5 hZ)))))))))
     have HS7:=Hid.mk S7
     have u13k:=u13
     clear ka hx6 hk6 hib6 hin6 hsep6 hnx u7 u13 ub t7 tb7 q4 q5 hZ y0 y1 bd
     refine hK.out _ _ ?_ (fun hHeld=>?_)
     ·exact S6
     clear hK K
     try simp only [Act.put,List.setIfInBounds_toArray,List.set_cons_zero,List.set_cons_succ]
     refine wpAnyH_take (i:=8) (oi:={dst:=some 75,op:=Op.move (Operand.tmp 83),type:=54,pos:= "outright.go:170",after:= #[{on:=7,ground:=Ground.data}],guard:=none}) (v:= .tuple #[.agg #[.slice a6 tb2.length c6, .slice a7 tn2.length c7], .bool true]) rfl (by kernel_rfl) (by kernel_rfl) (by kernel_rfl) (fun _ _ _ h=>h) (Or.inl ⟨by rfl,?_⟩) (by assumption) ?_
     ·intro w hSw
      (try dsimp only at hSw)
      go_simp
     try simp only [Act.put,List.setIfInBounds_toArray,List.set_cons_zero,List.set_cons_succ]
     refine wpAnyH_take (i:=9) (oi:={dst:=some 84,op:=Op.extract (Operand.tmp 75) 0,type:=51,pos:= "outright.go:170",after:= #[{on:=8,ground:=Ground.data}],guard:=none}) (v:= .agg #[.slice a6 tb2.length c6, .slice a7 tn2.length c7]) rfl (by kernel_rfl) (by kernel_rfl) (by kernel_rfl) (fun _ _ _ h=>h) (Or.inl ⟨by rfl,?_⟩) (by assumption) ?_
     ·intro w hSw
      (try dsimp only at hSw)
      go_simp
     try simp only [Act.put,List.setIfInBounds_toArray,List.set_cons_zero,List.set_cons_succ]
     refine wpAnyH_take (i:=10) (oi:={dst:=some 85,op:=Op.extract (Operand.tmp 75) 1,type:=4,pos:= "outright.go:170",after:= #[{on:=8,ground:=Ground.data},{on:=11,ground:=Ground.gcOnly Departure.lateStores}],guard:=none}) (v:= .bool true) rfl (by kernel_rfl) (by kernel_rfl) (by kernel_rfl) (fun _ _ _ h=>h) (Or.inl ⟨by rfl,?_⟩) (by assumption) ?_
     ·intro w hSw
      (try dsimp only at hSw)
      go_simp
     try simp only [Act.put,List.setIfInBounds_toArray,List.set_cons_zero,List.set_cons_succ]
     refine wpAnyH_ready (rs:= [11]) (by kernel_rfl) (by simp) ?_
     refine AllReadyH.cons (o:={dst:=none,op:=Op.store 51 (Operand.tmp 13) (Operand.tmp 84),type:=0,pos:= "outright.go:170",after:= #[{on:=9,ground:=Ground.data},{on:=7,ground:=Ground.chain},{on:=0,ground:=Ground.phase},{on:=1,ground:=Ground.phase},{on:=2,ground:=Ground.phase},{on:=3,ground:=Ground.phase},{on:=4,ground:=Ground.phase},{on:=5,ground:=Ground.phase},{on:=6,ground:=Ground.phase},{on:=7,ground:=Ground.phase},{on:=8,ground:=Ground.phase},{on:=9,ground:=Ground.phase},{on:=10,ground:=Ground.textOnly Departure.lateStores}],guard:=none}) rfl (fun K hK=>?_) AllReadyH.nil
     go_simp
     refine hK.out _ _ ?_ (fun hHeld=>?_)
     ·exact HS7.out
     clear hK K
     try simp only [Act.put,List.setIfInBounds_toArray,List.set_cons_zero,List.set_cons_succ]
     refine wpAnyH_ready (rs:= [12]) (by kernel_rfl) (by simp) ?_
     refine AllReadyH.cons (o:={dst:=some 16,op:=Op.assign (Operand.tmp 85),type:=4,pos:= "outright.go:170",after:= #[{on:=10,ground:=Ground.data},{on:=11,ground:=Ground.chain},{on:=0,ground:=Ground.phase},{on:=1,ground:=Ground.phase},{on:=2,ground:=Ground.phase},{on:=3,ground:=Ground.phase},{on:=4,ground:=Ground.phase},{on:=5,ground:=Ground.phase},{on:=6,ground:=Ground.phase},{on:=7,ground:=Ground.phase},{on:=8,ground:=Ground.phase},{on:=9,ground:=Ground.phase},{on:=10,ground:=Ground.phase},{on:=11,ground:=Ground.phase}],guard:=none}) rfl (fun K hK=>?_) AllReadyH.nil
     go_simp
     refine hK.out _ _ ?_ (fun hHeld=>?_)
     ·exact HS7.out
     clear hK K
     try simp only [Act.put,List.setIfInBounds_toArray,List.set_cons_zero,List.set_cons_succ]
     refine wpAnyH_done (by kernel_rfl) ?_ _
     obtain⟨w7,hw7⟩:∃w7,w7=((w6.setCell ⟨w4.heap.size,0,none⟩ (.slice a6 tb2.length c6)).setCell ⟨w4.heap.size,1,none⟩ (.slice a7 tn2.length c7)):=⟨_,rfl⟩
     obtain⟨hx6,hk6,hib6,hin6,hsep6,hnx,t7,q4,q5,hZ⟩:=HS6.out
     rw [←hw7] at t7 q4 q5
     rw [←hw7]
     have hk7:Keeps (fun i=>(OwT F t n i∨vb.ownBlock=some i∨vn.ownBlock=some i)∨i=w4.heap.size) wr w7:=((Keeps.of_below _ (below_drew (Below.refl _ _))).trans (hk6.mono (fun _ h=> .inl h)) (fun _ h=> .inl h)).trans q5 (fun i hi=> .inl (.inr hi))
     have hzz:∀i,i<w4.heap.size→¬OwT F t n i→¬((OwT F t n i∨vb.ownBlock=some i∨vn.ownBlock=some i)∨i=w4.heap.size):=fun i hi hn e=>by
      rcases e with (e|e|e)|e
      ·exact hn e
      ·have:=HS.out.2.2.1.x i e;omega
      ·have:=HS.out.2.2.2.1.x i e;omega
      ·omega
     have hrp7:=HS.out.1.onZ (hx6.side HLOW.out q5 (fun i hi=>by omega)) hk7 (hzz kr HRL.out.1 HS.out.1.nk) (hzz a1 HRL.out.2.1 HS.out.1.p1.nf) (hzz a2 HRL.out.2.2 HS.out.1.p2.nf)
     have hib7:=hib6.keep q5 (fun i hi e=>by subst e;exact hib6.away u13k (by decide) hi)
     have hin7:=hin6.keep q5 (fun i hi e=>by subst e;exact hin6.away u13k (by decide) hi)
     have hbw7:Below w.heap.size w w7:=HS.out.2.2.2.2.2.2.2.trans (hk7.below (fun i hi=>by rcases hi with hi|hi;exact hZ i hi;omega) HS.out.2.2.2.2.2.2.2.size)
     have hOw:∀i,w4.heap.size≤i→¬OwT F t n i:=fun i hi e=>by
      obtain⟨o1,o2,o3,o4,o5,o6⟩:=HLOW.out
      rcases e with e|e|e
      ·have:=o1 _ e;omega
      ·omega
      ·omega
     have HOw:=Hid.mk hOw
     have HEN:=Hid.mk HS.out.2.1.en
     have H7:=Hid.mk (And.intro hrp7 (And.intro hib7 (And.intro hin7 (And.intro t7 (And.intro q4 hbw7)))))
     clear HS6 HS7 HS hw7 hx6 hk6 hib6 hin6 t7 q4 q5 hZ hk7 hzz hrp7 hib7 hin7 hbw7 hOw hHeld S6 q0 q1 q2 q3 s0 s1 s2 x0 x1 x2 x3 cq hbb hat
     rcases hnx with hq|⟨bb,hT,htb,htn,hfu⟩
     ·have kl:=left_ok H7.out.1.x H7.out.1.p1 (hq.state HFr.out.dead)
      have hl1:=hq.left.1
      have hl2:TG.pleft _ _ S (nSt (lyG g))+tn2.length=g.n:=hq.left.2
      have hl3:TG.pleft _ _ S (bSt (lyG g))+tb2.length=C:=hl1.trans HC.out.symm
      have hst:=hq.state HFr.out.dead
      obtain⟨P1,hP1⟩:∃P1,P1=T2.pleft ⟨lyG g,L', [],true⟩ S (bSt (lyG g)):=⟨_,rfl⟩
      obtain⟨P2,hP2⟩:∃P2,P2=T2.pleft ⟨lyG g,L', [],true⟩ S (nSt (lyG g)):=⟨_,rfl⟩
      rw [←hP1] at hl3
      rw [←hP2] at hl2
      have kl2:Calls Tryz.prog 15 #[.pointer (some ⟨a1,0,none⟩)] w7 fun e w'=>e= .returned (.tuple #[.int .i64 (P1:Int), .int .i64 (P2:Int), .int .i64 0])∧TX w' F p g.s (cR2+2) q l m t n S ⟨lyG g,L', [],true⟩ T2∧Keeps (OwT F t n) w7 w':=by
       rw [hP1,hP2]
       exact kl
      have hp1:(C:Int)-(tb2.length:Int)=(P1:Int):=by omega
      have hp2:(g.n:Int)-(tn2.length:Int)=(P2:Int):=by omega
      have htl:tb2.length≤C:=by omega
      have hnl:tn2.length≤g.n:=by omega
      have HQ:=Hid.mk hq
      have HST:=Hid.mk hst
      clear kl hl1 hl2 hl3 hst hq hP1 hP2
      go_wp2_with fail
      refine kl2.mono ?_
      rintro e w8 ⟨rfl,hx8,hk8⟩
      have hrp8:=H7.out.1.on hx8 hk8
      have c0:=hrp8.p1.c0
      have ks:=state_any hx8.st hx8.tx
      rw [HST.out] at ks
      have z7:=(hk8.block _ (lt_there H7.out.2.2.2.1) HN7.out).trans H7.out.2.2.2.1
      have z13:=(hk8.block _ (lt_there H7.out.2.2.2.2.1) (HOw.out _ (Nat.le_refl _))).trans H7.out.2.2.2.2.1
      have H8:=Hid.mk (And.intro hrp8 (And.intro (H7.out.2.1.keep hk8 (fun i hi=>HOw.out i (H7.out.2.1.x i hi))) (And.intro (H7.out.2.2.1.keep hk8 (fun i hi=>HOw.out i (H7.out.2.2.1.x i hi))) (And.intro z7 (And.intro z13 (H7.out.2.2.2.2.2.trans (hk8.below HLo.out H7.out.2.2.2.2.2.size)))))))
      clear kl2 hx8 hk8 hrp8 z7 z13 H7
      go_wp2_with fail
      refine ks.mono ?_
      rintro e w9 ⟨rfl,hb9⟩
      have z13:=(hb9.block _ (lt_there H8.out.2.2.2.2.1)).trans H8.out.2.2.2.2.1
      have z7:=(hb9.block _ (lt_there H8.out.2.2.2.1)).trans H8.out.2.2.2.1
      have e0:w9.cell? ⟨w4.heap.size,0,none⟩=some (.slice a6 tb2.length c6):=cell_of_block z13 (j:=0) rfl
      have e1:w9.cell? ⟨w4.heap.size,1,none⟩=some (.slice a7 tn2.length c7):=cell_of_block z13 (j:=1) rfl
      have e2:w9.cell? ⟨w2.heap.size,2,none⟩=some (.int .i64 (g.n:Int)):=cell_of_block z7 (j:=2) rfl
      have kn:=num6_any 0 w9
      have HE:Hid (ApI w w9 g F w4.heap.size kr p q l m t n a1 a2 k S L' w2.heap.size w4.heap.size (.slice a6 tb2.length c6) (.slice a7 tn2.length c7) tb2 tn2):=⟨_,_,H8.out.1.later hb9,HQ.out,H8.out.2.1.later hb9,H8.out.2.2.1.later hb9,hsep6,z7,z13,H8.out.2.2.2.2.2.trans (hb9.mono H8.out.2.2.2.2.2.size)⟩
      clear ks hb9 z13 z7 H8 HQ HST c0 hsep6
      go_wp2_with fail
      refine kn.mono ?_
      rintro e wx ⟨rfl,hwx⟩
      have hwx':=hwx.symm
      subst hwx'
      clear hwx
      go_wp2_with fail
      refine kn.mono ?_
      rintro e wx ⟨rfl,hwx⟩
      have hwx':=hwx.symm
      subst hwx'
      clear hwx kn
      go_wp2
      go_roundw
      case rel=>exact⟨j+1,_,_,tb2,tn2,by omega,by go_num,HE.out⟩
      case measure=>simp [intOf];omega
     ·have hbad:T2.bad=fullOf bb:=by rw [hT]
      have hen:T2.ended=false:=by rw [hT];exact HEN.out
      have hst:T2.state ⟨lyG g,L', [],true⟩ S=fullOf bb:=(bad_state HFr.out.dead hen (by rw [hbad];exact full_ne bb)).trans hbad
      have hsn0:T2.state ⟨lyG g,L', [],true⟩ S≠0:=by rw [hst];exact full_ne bb
      have kl:=left_no H7.out.1.x H7.out.1.p1 hsn0
      have hsp:(T2.spoil ⟨lyG g,L', [],true⟩ S (T2.state ⟨lyG g,L', [],true⟩ S)).2=T2:=by unfold TG.spoil;rw [if_pos hsn0]
      rw [hsp,hst] at kl
      obtain⟨fb,hfb⟩:∃fb,fb=fullOf bb:=⟨_,rfl⟩
      have hfne:fb≠0:=by rw [hfb];exact full_ne bb
      rw [←hfb] at kl hst
      have hor:tb2.length=C∨(tb2.length≠C∧tn2.length=g.n):=by
       cases bb
       ·exact .inl (hfu.trans HC.out.symm)
       ·by_cases e9:tb2.length=C
        ·exact .inl e9
        ·exact .inr ⟨e9,hfu⟩
      have HST:=Hid.mk hst
      have HOR:=Hid.mk hor
      clear hbad hen hsn0 hsp hfb hst hor hT htb htn hfu
      go_wp2_with fail
      refine kl.mono ?_
      rintro e w8 ⟨rfl,hx8,hk8⟩
      have hrp8:=H7.out.1.on hx8 hk8
      have c0:=hrp8.p1.c0
      have ks:=state_any hx8.st hx8.tx
      rw [HST.out] at ks
      have z7:=(hk8.block _ (lt_there H7.out.2.2.2.1) HN7.out).trans H7.out.2.2.2.1
      have z13:=(hk8.block _ (lt_there H7.out.2.2.2.2.1) (HOw.out _ (Nat.le_refl _))).trans H7.out.2.2.2.2.1
      have H8:=Hid.mk (And.intro z7 (And.intro z13 (H7.out.2.2.2.2.2.trans (hk8.below HLo.out H7.out.2.2.2.2.2.size))))
      clear kl hx8 hk8 hrp8 z7 z13 H7
      go_wp2_with fail
      refine ks.mono ?_
      rintro e w9 ⟨rfl,hb9⟩
      have z13:=(hb9.block _ (lt_there H8.out.2.1)).trans H8.out.2.1
      have z7:=(hb9.block _ (lt_there H8.out.1)).trans H8.out.1
      have e0:w9.cell? ⟨w4.heap.size,0,none⟩=some (.slice a6 tb2.length c6):=cell_of_block z13 (j:=0) rfl
      have e1:w9.cell? ⟨w4.heap.size,1,none⟩=some (.slice a7 tn2.length c7):=cell_of_block z13 (j:=1) rfl
      have e2:w9.cell? ⟨w2.heap.size,2,none⟩=some (.int .i64 (g.n:Int)):=cell_of_block z7 (j:=2) rfl
      have kn:=num6_any fb w9
      have HE:=Hid.mk (H8.out.2.2.trans (hb9.mono H8.out.2.2.size))
      clear ks hb9 z13 z7 H8 HST c0 hsep6
      go_wp2_with fail
      refine kn.mono ?_
      rintro e wx ⟨rfl,hwx⟩
      have hwx':=hwx.symm
      subst hwx'
      clear hwx
      rcases HOR.out with h9|⟨h9,h8⟩
      ·have h9i:(tb2.length:Int)=(C:Int):=by omega
       clear h9
       go_wp2_with fail
       refine kn.mono ?_
       rintro e wx ⟨rfl,hwx⟩
       have hwx':=hwx.symm
       subst hwx'
       clear hwx
       go_wp2_with fail
       refine kn.mono ?_
       rintro e wx ⟨rfl,hwx⟩
       have hwx':=hwx.symm
       subst hwx'
       clear hwx
       go_wp2
       go_ret
       exact⟨rfl,HE.out⟩
      ·have h9i:¬(tb2.length:Int)=(C:Int):=by omega
       have h8i:(tn2.length:Int)=(g.n:Int):=by omega
       clear h9 h8
       go_wp2_with fail
       refine kn.mono ?_
       rintro e wx ⟨rfl,hwx⟩
       have hwx':=hwx.symm
       subst hwx'
       clear hwx
       go_wp2_with fail
       refine kn.mono ?_
       rintro e wx ⟨rfl,hwx⟩
       have hwx':=hwx.symm
       subst hwx'
       clear hwx
       go_wp2
       go_ret
       exact⟨rfl,HE.out⟩
   ·have hl4':¬(j:Int)<400:=by omega
    have hbw:Below w.heap.size w wr:=by obtain⟨_,_,_,_,_,_,_,_,_,hbw⟩:=hap;exact hbw
    have HBW:=Hid.mk hbw
    clear hap hbw
    go_wp2
    go_ret
    exact⟨rfl,HBW.out⟩
  ·have hlt':¬(j:Int)<(sn:Int):=by omega
   have hbw:Below w.heap.size w wr:=by obtain⟨_,_,_,_,_,_,_,_,_,hbw⟩:=hap;exact hbw
   have HBW:=Hid.mk hbw
   clear hap hbw
   go_wp2
   go_ret
   exact⟨rfl,HBW.out⟩
end Go.Proofs.YtcakbbkbgfhfaaaGreat
end
