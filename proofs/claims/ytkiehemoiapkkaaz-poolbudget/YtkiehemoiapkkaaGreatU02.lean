import Derived.Test.YtkiehemoiapkkaaGreatU01
import Derived.ProofKit
import Derived.OpenShut
import Derived.ShutString
import Derived.ChangeOld
import Derived.SizedLaws
import Derived.Deep.Slices
section
namespace Go.Proofs.YtkiehemoiapkkaaGreat
open Go.RowKit
section
variable {w w':World} {F X:Nat→Prop} {kr p s cR q l m t n a1 k:Nat} {x2 x3:Value} {S:DS} {G:SG} {T:TG} {M:MP}
theorem refusal_in {b:Nat} (h0:T.state G S=0) (hb:b<G.y.blocks):T.refusal G S (b:Int)=0:=by
 unfold TG.refusal
 rw [if_neg (fun e=>e h0),if_neg (by omega)]
set_option maxRecDepth 20000 in
set_option maxHeartbeats 4000000 in
theorem others_any (h:TX w F p s cR q l m t n S G T) (hp:PoolAt w F a1 t n) (hrb:w.heap[kr]? =some (.cells (rigC p q x2 x3 k true) 38 (0,0))) (hkr:¬OwT F t n kr) (hm:MX w X k M) (hXO:∀j,X j→¬OwT F t n j) (h0:T.state G S=0) (hbl:M.blocks=G.y.blocks) (hrl:M.raw.length=G.y.blocks) (hsee:∀b,2≤b→b<G.y.blocks→M.raw[b]? =some (T.sees G S b)):
  Calls Tryz.prog 35 #[.pointer (some ⟨kr,0,none⟩), .pointer (some ⟨a1,0,none⟩)] w fun e w'=>e= .returned (.bool true)∧(∃c',TX w' F p s c' q l m t n S G T)∧Keeps (OwT F t n) w w':=by
 have hb2:=h.yk.b2
 have hb48:=h.yk.bl
 obtain⟨nb,hnb⟩:∃nb,nb=G.y.blocks:=⟨_,rfl⟩
 have H:=Hid.mk (And.intro h (And.intro hp (And.intro hrb (And.intro hm hXO))))
 have HS:=Hid.mk (And.intro hsee h0)
 have HN:=Hid.mk (And.intro hnb (And.intro hbl hrl))
 rw [←hnb] at hb2 hb48
 have HCe:Hid (∀wr,Keeps (OwT F t n) w wr→wr.cell? ⟨kr,4,none⟩=some (.pointer (some ⟨k,0,none⟩))∧wr.cell? ⟨k,0,none⟩=some (.int .i64 (nb:Int))):=fun wr hk=>by
  obtain⟨g1,c1,g2,c2,g3,c3,g4,c4,v5,v6,v7,hma⟩:=hm.apart hk (fun j hj hx=>hXO j hx hj)
  exact⟨cell_of_block ((hk.block kr (lt_there hrb) hkr).trans hrb) (j:=4) rfl,by rw [hnb,←hbl];exact cell_of_block hma.b (j:=0) rfl⟩
 clear h hp hrb hm hXO h0 hbl hsee hnb hrl
 go_enter Tryz.func35,Tryz.ntmps35
 go_wp2
 go_loopw [5] (fun iv wr=>∃j c':Nat,2≤j∧j≤nb∧iv= .int .i64 (j:Int)∧TX wr F p s c' q l m t n S G T∧Keeps (OwT F t n) w wr) (fun iv _=>nb-(intOf iv).toNat)
 case atStart=>exact⟨2,cR,Nat.le_refl _,hb2,rfl,H.out.1,Keeps.refl _ _⟩
 case round=>
  obtain⟨j,c',hj2,hj,rfl,hx,hk⟩:=hrel
  obtain⟨ce1,ce2⟩:=HCe.out wr hk
  by_cases hlt:j<nb
  ·have hlt':(j:Int)<(nb:Int):=by omega
   have hjb:j<G.y.blocks:=by have:=HN.out.1;omega
   have hp:=H.out.2.1.keep hk
   have c0:=hp.c0
   have kg:=get6_any hx j (refusal_in HS.out.2 hjb)
   have hxl:=hx.len j hjb
   have hxt:=hx.st.d.lt
   have HK:=Hid.mk hk
   clear hx hk hp
   go_wp2_with fail
   refine kg.mono ?_
   rintro e w1 ⟨⟨g1,rfl,hg1,hblk⟩,hx1,hk1⟩
   have hK1:Keeps (OwT F t n) w w1:=HK.out.trans (hk1.mono (fun _ h=> .inl h)) (fun _ h=> .inl h)
   obtain⟨ce3,_⟩:=HCe.out w1 hK1
   obtain⟨gq1,cq1,gq2,cq2,gq3,cq3,gq4,cq4,v5,v6,v7,hma⟩:=H.out.2.2.2.1.apart hK1 (fun j hj hx=>H.out.2.2.2.2 j hx hj)
   have hjr:j<M.raw.length:=by have:=HN.out.2.2;omega
   obtain⟨gv,cv,g2,c2,ev,cvj,_,hrw,_⟩:=hma.raw.at hjr
   have hrj:M.raw[j]=T.sees G S j:=by
    have h9:=HS.out.1 j hj2 hjb
    rw [List.getElem?_eq_getElem hjr] at h9
    exact Option.some.inj h9
   rw [hrj] at hrw
   have c8:w1.cell? ⟨k,8,none⟩=some (.slice (some ⟨gv,0,none⟩) nb cv):=by
    have h9:w1.cell? ⟨k,8,none⟩=some v6:=cell_of_block hma.b (j:=8) rfl
    rw [h9,ev,HN.out.2.2,←HN.out.1]
   obtain⟨sx,hs⟩:∃sx,sx=strOfNums (T.sees G S j):=⟨_,rfl⟩
   have HC:Hid (∀w',Below w1.heap.size w1 w'→w'.cell? ⟨kr,4,none⟩=some (.pointer (some ⟨k,0,none⟩))∧w'.cell? ⟨k,8,none⟩=some (.slice (some ⟨gv,0,none⟩) nb cv)∧w'.cell? ⟨gv,j,none⟩=some (.slice (some ⟨g2,0,none⟩) 512 c2)∧(convert 44 9 (.slice (some ⟨g1,0,none⟩) 512 512)).run Tryz.prog w'= .ok (.string sx) w'∧(convert 44 9 (.slice (some ⟨g2,0,none⟩) 512 c2)).run Tryz.prog w'= .ok (.string sx) w'):=fun w' hb=>by
    refine⟨cell_later hb ce3,cell_later hb c8,cell_later hb cvj,?_,?_⟩
    ·rw [hs]
     exact run_convert_bytes_arg (P:=Tryz.prog) w' 44 5 Tryz.underlying44 Tryz.underlying5 g1 0 512 512 (T.sees G S j) hxl (fun i hi=>by rw [Nat.zero_add];exact cell_later hb (hblk.cell (by omega))) 9 Tryz.underlying9
    ·rw [hs]
     exact run_convert_bytes_arg (P:=Tryz.prog) w' 44 5 Tryz.underlying44 Tryz.underlying5 g2 0 512 c2 (T.sees G S j) hxl (fun i hi=>by rw [Nat.zero_add];exact cell_later hb (hrw.get (by omega))) 9 Tryz.underlying9
   have HDr:Hid (Below w1.heap.size w1 w1.drew):=(Keeps.drew (fun _=>False) w1).below (fun _ h=>h.elim) (Nat.le_refl _)
   have HX1:Hid (TX w1.drew F p s (c'+1) q l m t n S G T∧Keeps (OwT F t n) w w1.drew):=⟨hx1.later HDr.out,hK1.trans (Keeps.drew (fun _=>False) w1) (fun _ h=>h.elim)⟩
   have hj0:(0:Int)≤(j:Int):=by omega
   clear kg hblk hx1 hk1 hK1 hma ev cvj hrw hrj c8 hs ce1 ce2 ce3 c0 hxl hxt
   go_wp2_with fail
   refine wp_region_held_drew (S:=(fun w'=>w'.cell? ⟨kr,4,none⟩=some (.pointer (some ⟨k,0,none⟩))∧w'.cell? ⟨k,8,none⟩=some (.slice (some ⟨gv,0,none⟩) nb cv)∧w'.cell? ⟨gv,j,none⟩=some (.slice (some ⟨g2,0,none⟩) 512 c2)∧(convert 44 9 (.slice (some ⟨g1,0,none⟩) 512 512)).run Tryz.prog w'= .ok (.string sx) w'∧(convert 44 9 (.slice (some ⟨g2,0,none⟩) 512 c2)).run Tryz.prog w'= .ok (.string sx) w')) (by kernel_rfl) (HC.out _ HDr.out) (fun hHeld=>?_)
   refine wpAnyH_take (i:=0) (oi:={dst:=some 28,op:=Op.move (Operand.tmp 7),type:=39,pos:= "exact.go:129",after:= #[],guard:=none}) (v:= .int .i64 0) rfl (by kernel_rfl) (by kernel_rfl) (by kernel_rfl) (fun _ _ _ h=>h) (Or.inl ⟨by rfl,?_⟩) (by assumption) ?_
   ·intro w hSw
    (try dsimp only at hSw)
    go_simp
   try simp only [Act.put,List.setIfInBounds_toArray,List.set_cons_zero,List.set_cons_succ]
   refine wpAnyH_ready (rs:= [1]) (by kernel_rfl) (by simp) ?_
   refine AllReadyH.cons (o:={dst:=some 29,op:=Op.call {callee:=Callee.value (Operand.func 13),args:= #[Operand.tmp 28],argTypes:= #[39]},type:=3,pos:= "exact.go:129",after:= #[{on:=0,ground:=Ground.data}],guard:=none}) rfl (fun K hK=>?_) AllReadyH.nil
   go_simp
   refine(num6_any 0 w1.drew).mono ?_
   rintro e wx ⟨rfl,hwx⟩
   have hwx':=hwx.symm
   subst hwx'
   clear hwx
   refine hK.out _ _ ?_ (fun hHeld=>?_)
   ·exact HC.out _ HDr.out
   clear hK K
   try simp only [Act.put,List.setIfInBounds_toArray,List.set_cons_zero,List.set_cons_succ]
   refine wpAnyH_take (i:=2) (oi:={dst:=some 30,op:=Op.binOp BinOp.neq 3 (Operand.tmp 29) (Operand.const (Value.int IntKind.i64 0)) 3,type:=4,pos:= "exact.go:129",after:= #[{on:=1,ground:=Ground.data}],guard:=none}) (v:= .bool false) rfl (by kernel_rfl) (by kernel_rfl) (by kernel_rfl) (fun _ _ _ h=>h) (Or.inl ⟨by rfl,?_⟩) (by assumption) ?_
   ·intro w hSw
    (try dsimp only at hSw)
    go_simp
   try simp only [Act.put,List.setIfInBounds_toArray,List.set_cons_zero,List.set_cons_succ]
   refine wpAnyH_take (i:=3) (oi:={dst:=some 31,op:=Op.move (Operand.tmp 30),type:=4,pos:= "exact.go:129",after:= #[{on:=2,ground:=Ground.data},{on:=1,ground:=Ground.chain}],guard:=none}) (v:= .bool false) rfl (by kernel_rfl) (by kernel_rfl) (by kernel_rfl) (fun _ _ _ h=>h) (Or.inl ⟨by rfl,?_⟩) (by assumption) ?_
   ·intro w hSw
    (try dsimp only at hSw)
    go_simp
   try simp only [Act.put,List.setIfInBounds_toArray,List.set_cons_zero,List.set_cons_succ]
   refine wpAnyH_take (i:=4) (oi:={dst:=some 32,op:=Op.move (Operand.tmp 6),type:=44,pos:= "exact.go:129",after:= #[{on:=3,ground:=Ground.guard}],guard:=some (3,false)}) (v:= .slice (some ⟨g1,0,none⟩) 512 512) rfl (by kernel_rfl) (by kernel_rfl) (by kernel_rfl) (fun _ _ _ h=>h) (Or.inl ⟨by rfl,?_⟩) (by assumption) ?_
   ·intro w hSw
    (try dsimp only at hSw)
    go_simp
   try simp only [Act.put,List.setIfInBounds_toArray,List.set_cons_zero,List.set_cons_succ]
   refine wpAnyH_take (i:=5) (oi:={dst:=some 33,op:=Op.convert 44 9 (Operand.tmp 32),type:=9,pos:= "exact.go:129",after:= #[{on:=4,ground:=Ground.data},{on:=3,ground:=Ground.guard}],guard:=some (3,false)}) (v:= .string sx) rfl (by kernel_rfl) (by kernel_rfl) (by kernel_rfl) (fun _ _ _ h=>h) (Or.inl ⟨by rfl,?_⟩) (by assumption) ?_
   ·intro w hSw
    (try dsimp only at hSw)
    go_simp
   try simp only [Act.put,List.setIfInBounds_toArray,List.set_cons_zero,List.set_cons_succ]
   refine wpAnyH_take (i:=6) (oi:={dst:=some 34,op:=Op.move (Operand.tmp 0),type:=28,pos:= "exact.go:129",after:= #[{on:=3,ground:=Ground.guard}],guard:=some (3,false)}) (v:= .pointer (some ⟨kr,0,none⟩)) rfl (by kernel_rfl) (by kernel_rfl) (by kernel_rfl) (fun _ _ _ h=>h) (Or.inl ⟨by rfl,?_⟩) (by assumption) ?_
   ·intro w hSw
    (try dsimp only at hSw)
    go_simp
   try simp only [Act.put,List.setIfInBounds_toArray,List.set_cons_zero,List.set_cons_succ]
   refine wpAnyH_take (i:=7) (oi:={dst:=some 35,op:=Op.nilCheck (Operand.tmp 34),type:=0,pos:= "exact.go:129",after:= #[{on:=6,ground:=Ground.data},{on:=3,ground:=Ground.guard}],guard:=some (3,false)}) (v:= .pointer (some ⟨kr,0,none⟩)) rfl (by kernel_rfl) (by kernel_rfl) (by kernel_rfl) (fun _ _ _ h=>h) (Or.inl ⟨by rfl,?_⟩) (by assumption) ?_
   ·intro w hSw
    (try dsimp only at hSw)
    go_simp
   try simp only [Act.put,List.setIfInBounds_toArray,List.set_cons_zero,List.set_cons_succ]
   refine wpAnyH_take (i:=8) (oi:={dst:=some 36,op:=Op.fieldAddr 38 (Operand.tmp 35) 4,type:=0,pos:= "exact.go:129",after:= #[{on:=7,ground:=Ground.data},{on:=3,ground:=Ground.guard}],guard:=some (3,false)}) (v:= .pointer (some ⟨kr,4,none⟩)) rfl (by kernel_rfl) (by kernel_rfl) (by kernel_rfl) (fun _ _ _ h=>h) (Or.inl ⟨by rfl,?_⟩) (by assumption) ?_
   ·intro w hSw
    (try dsimp only at hSw)
    go_simp
   try simp only [Act.put,List.setIfInBounds_toArray,List.set_cons_zero,List.set_cons_succ]
   refine wpAnyH_take (i:=9) (oi:={dst:=some 37,op:=Op.load 36 (Operand.tmp 36),type:=36,pos:= "exact.go:129",after:= #[{on:=8,ground:=Ground.data},{on:=3,ground:=Ground.guard}],guard:=some (3,false)}) (v:= .pointer (some ⟨k,0,none⟩)) rfl (by kernel_rfl) (by kernel_rfl) (by kernel_rfl) (fun _ _ _ h=>h) (Or.inl ⟨by rfl,?_⟩) (by assumption) ?_
   ·intro w hSw
    (try dsimp only at hSw)
    go_simp
   try simp only [Act.put,List.setIfInBounds_toArray,List.set_cons_zero,List.set_cons_succ]
   refine wpAnyH_take (i:=10) (oi:={dst:=some 38,op:=Op.nilCheck (Operand.tmp 37),type:=0,pos:= "exact.go:129",after:= #[{on:=9,ground:=Ground.data},{on:=3,ground:=Ground.guard}],guard:=some (3,false)}) (v:= .pointer (some ⟨k,0,none⟩)) rfl (by kernel_rfl) (by kernel_rfl) (by kernel_rfl) (fun _ _ _ h=>h) (Or.inl ⟨by rfl,?_⟩) (by assumption) ?_
   ·intro w hSw
    (try dsimp only at hSw)
    go_simp
   try simp only [Act.put,List.setIfInBounds_toArray,List.set_cons_zero,List.set_cons_succ]
   refine wpAnyH_take (i:=11) (oi:={dst:=some 39,op:=Op.fieldAddr 72 (Operand.tmp 38) 6,type:=0,pos:= "exact.go:129",after:= #[{on:=10,ground:=Ground.data},{on:=3,ground:=Ground.guard}],guard:=some (3,false)}) (v:= .pointer (some ⟨k,8,none⟩)) rfl (by kernel_rfl) (by kernel_rfl) (by kernel_rfl) (fun _ _ _ h=>h) (Or.inl ⟨by rfl,?_⟩) (by assumption) ?_
   ·intro w hSw
    (try dsimp only at hSw)
    go_simp
   try simp only [Act.put,List.setIfInBounds_toArray,List.set_cons_zero,List.set_cons_succ]
   refine wpAnyH_take (i:=12) (oi:={dst:=some 40,op:=Op.load 70 (Operand.tmp 39),type:=70,pos:= "exact.go:129",after:= #[{on:=11,ground:=Ground.data},{on:=3,ground:=Ground.guard}],guard:=some (3,false)}) (v:= .slice (some ⟨gv,0,none⟩) nb cv) rfl (by kernel_rfl) (by kernel_rfl) (by kernel_rfl) (fun _ _ _ h=>h) (Or.inl ⟨by rfl,?_⟩) (by assumption) ?_
   ·intro w hSw
    (try dsimp only at hSw)
    go_simp
   try simp only [Act.put,List.setIfInBounds_toArray,List.set_cons_zero,List.set_cons_succ]
   refine wpAnyH_take (i:=13) (oi:={dst:=some 41,op:=Op.move (Operand.tmp 5),type:=3,pos:= "exact.go:129",after:= #[{on:=3,ground:=Ground.guard}],guard:=some (3,false)}) (v:= .int .i64 (j:Int)) rfl (by kernel_rfl) (by kernel_rfl) (by kernel_rfl) (fun _ _ _ h=>h) (Or.inl ⟨by rfl,?_⟩) (by assumption) ?_
   ·intro w hSw
    (try dsimp only at hSw)
    go_simp
   try simp only [Act.put,List.setIfInBounds_toArray,List.set_cons_zero,List.set_cons_succ]
   refine wpAnyH_take (i:=14) (oi:={dst:=some 42,op:=Op.indexAddr 70 (Operand.tmp 40) (Operand.tmp 41),type:=0,pos:= "exact.go:129",after:= #[{on:=12,ground:=Ground.data},{on:=13,ground:=Ground.data},{on:=3,ground:=Ground.guard}],guard:=some (3,false)}) (v:= .pointer (some ⟨gv,j,none⟩)) rfl (by kernel_rfl) (by kernel_rfl) (by kernel_rfl) (fun _ _ _ h=>h) (Or.inl ⟨by rfl,?_⟩) (by assumption) ?_
   ·intro w hSw
    (try dsimp only at hSw)
    go_simp
   try simp only [Act.put,List.setIfInBounds_toArray,List.set_cons_zero,List.set_cons_succ]
   refine wpAnyH_take (i:=15) (oi:={dst:=some 43,op:=Op.load 44 (Operand.tmp 42),type:=44,pos:= "exact.go:129",after:= #[{on:=14,ground:=Ground.data},{on:=3,ground:=Ground.guard}],guard:=some (3,false)}) (v:= .slice (some ⟨g2,0,none⟩) 512 c2) rfl (by kernel_rfl) (by kernel_rfl) (by kernel_rfl) (fun _ _ _ h=>h) (Or.inl ⟨by rfl,?_⟩) (by assumption) ?_
   ·intro w hSw
    (try dsimp only at hSw)
    go_simp
   try simp only [Act.put,List.setIfInBounds_toArray,List.set_cons_zero,List.set_cons_succ]
   refine wpAnyH_take (i:=16) (oi:={dst:=some 44,op:=Op.convert 44 9 (Operand.tmp 43),type:=9,pos:= "exact.go:129",after:= #[{on:=15,ground:=Ground.data},{on:=3,ground:=Ground.guard}],guard:=some (3,false)}) (v:= .string sx) rfl (by kernel_rfl) (by kernel_rfl) (by kernel_rfl) (fun _ _ _ h=>h) (Or.inl ⟨by rfl,?_⟩) (by assumption) ?_
   ·intro w hSw
    (try dsimp only at hSw)
    go_simp
   try simp only [Act.put,List.setIfInBounds_toArray,List.set_cons_zero,List.set_cons_succ]
   refine wpAnyH_take (i:=17) (oi:={dst:=some 45,op:=Op.binOp BinOp.neq 9 (Operand.tmp 33) (Operand.tmp 44) 9,type:=4,pos:= "exact.go:129",after:= #[{on:=5,ground:=Ground.data},{on:=16,ground:=Ground.data},{on:=3,ground:=Ground.guard}],guard:=some (3,false)}) (v:= .bool false) rfl (by kernel_rfl) (by kernel_rfl) (by kernel_rfl) (fun _ _ _ h=>h) (Or.inl ⟨by rfl,?_⟩) (by assumption) ?_
   ·intro w hSw
    (try dsimp only at hSw)
    go_simp
   try simp only [Act.put,List.setIfInBounds_toArray,List.set_cons_zero,List.set_cons_succ]
   refine wpAnyH_take (i:=18) (oi:={dst:=some 46,op:=Op.pick (Operand.tmp 31) (Operand.const (Value.bool true)) (Operand.tmp 45),type:=4,pos:= "exact.go:129",after:= #[{on:=3,ground:=Ground.data},{on:=17,ground:=Ground.data}],guard:=none}) (v:= .bool false) rfl (by kernel_rfl) (by kernel_rfl) (by kernel_rfl) (fun _ _ _ h=>h) (Or.inl ⟨by rfl,?_⟩) (by assumption) ?_
   ·intro w hSw
    (try dsimp only at hSw)
    go_simp
   try simp only [Act.put,List.setIfInBounds_toArray,List.set_cons_zero,List.set_cons_succ]
   refine wpAnyH_done (by kernel_rfl) ?_ _
   clear hHeld HC HDr
   go_wp2
   go_roundw
   case rel=>exact⟨j+1,_,by omega,by omega,by go_num,HX1.out⟩
   case measure=>simp [intOf];omega
  ·obtain rfl:j=nb:=by omega
   have hlt':¬(j:Int)<(j:Int):=by omega
   have HE:=Hid.mk (And.intro hx hk)
   clear hx hk
   go_wp2
   go_ret
   exact⟨rfl,⟨_,HE.out.1⟩,HE.out.2⟩
end
end Go.Proofs.YtkiehemoiapkkaaGreat
end
section
namespace Go.Proofs.YtkiehemoiapkkaaGreat
open Go.RowKit
section
variable {w w':World} {F X:Nat→Prop} {kr p s cR q l m t n a1 k:Nat} {x2 x3:Value} {S:DS} {G:SG} {T:TG} {M:MP}
theorem same512 {g g' c c':Nat} {ty:TypeId} {d d':List Int} (h:Blk w ty g d) (h':RowAt w 5 g' c' (bs d')) (hl:d.length=512) (hl':d'.length=512):Calls Tryz.prog 33 #[.slice (some ⟨g,0,none⟩) 512 c, .slice (some ⟨g',0,none⟩) 512 c'] w fun e w'=>e= .returned (.bool (decide (d=d')))∧Below w.heap.size w w':=
 same6_any g 0 g' 0 512 c c' d d' w (by omega) hl hl' (fun i hi=>by rw [Nat.zero_add];exact h.cell (by omega)) (fun i hi=>by rw [Nat.zero_add];exact h'.get (by omega))
theorem Blk.later {ty:TypeId} {g:Nat} {d:List Int} (h:Blk w ty g d) (hb:Below w.heap.size w w'):Blk w' ty g d:=(hb.block g h.lt).trans h
set_option maxRecDepth 20000 in
set_option maxHeartbeats 8000000 in
theorem looks_ok (h:TX w F p s cR q l m t n S G T) (hp:PoolAt w F a1 t n) (hrb:w.heap[kr]? =some (.cells (rigC p q x2 x3 k true) 38 (0,0))) (hkr:¬OwT F t n kr) (hm:MX w X k M) (hXO:∀j,X j→¬OwT F t n j) (h0:T.state G S=0) (hm0:M.state=0) (hbl:M.blocks=G.y.blocks) (hrl:M.raw.length=G.y.blocks) (hsee:∀b,2≤b→b<G.y.blocks→M.raw[b]? =some (T.sees G S b)) (e0:T.sees G S 0=bmOf M.nb) (e1:T.sees G S 1=bmOf M.nn):
  Calls Tryz.prog 14 #[.pointer (some ⟨kr,0,none⟩), .pointer (some ⟨a1,0,none⟩)] w fun e w'=>e= .returned (.bool true)∧(∃c',TX w' F p s c' q l m t n S G T)∧Keeps (OwT F t n) w w':=by
 have hb2:=h.yk.b2
 have k1:=get6_any h 0 (refusal_in h0 (by omega))
 have k2:=fun (w1:World) (hx1:TX w1 F p s (cR+1) q l m t n S G T)=>get6_any hx1 1 (refusal_in h0 (by omega))
 have hl0:=h.len 0 (by omega)
 have hl1:=h.len 1 (by omega)
 have c0:=hp.c0
 have HCe:Hid (∀wr,Keeps (OwT F t n) w wr→wr.cell? ⟨kr,4,none⟩=some (.pointer (some ⟨k,0,none⟩))∧MX wr X k M):=fun wr hk=>⟨cell_of_block ((hk.block kr (lt_there hrb) hkr).trans hrb) (j:=4) rfl,hm.apart hk (fun j hj hx=>hXO j hx hj)⟩
 have HO:Hid (∀(wr:World) (c':Nat),Keeps (OwT F t n) w wr→TX wr F p s c' q l m t n S G T→Calls Tryz.prog 35 #[.pointer (some ⟨kr,0,none⟩), .pointer (some ⟨a1,0,none⟩)] wr fun e w'=>e= .returned (.bool true)∧(∃c',TX w' F p s c' q l m t n S G T)∧Keeps (OwT F t n) wr w'):=fun wr c' hk hx=>others_any hx (hp.keep hk) ((hk.block kr (lt_there hrb) hkr).trans hrb) hkr (hm.apart hk (fun j hj hx=>hXO j hx hj)) hXO h0 hbl hrl hsee
 have HP:=Hid.mk hp
 have HE0:=Hid.mk (And.intro e0 e1)
 have HLT:=Hid.mk h.st.d.lt
 clear h hp hrb hm hXO h0 hbl hrl hsee hkr hb2 e0 e1
 go_enter Tryz.func14,Tryz.ntmps14
 go_wp2_with fail
 refine k1.mono ?_
 rintro e w1 ⟨⟨g1,rfl,hg1,hblk1⟩,hx1,hk1⟩
 have hp1:=HP.out.keep (hk1.mono (fun _ h=> .inl h))
 have c0':=hp1.c0
 have k3:=k2 w1 hx1
 have HA:=Hid.mk (And.intro hblk1 hk1)
 clear k1 k2 hx1 hp1 c0 hblk1 hk1
 go_wp2_with fail
 refine k3.mono ?_
 rintro e w2 ⟨⟨g2,rfl,hg2,hblk2⟩,hx2,hk2⟩
 have hb1:Blk w2 113 g1 (T.sees G S 0):=(hk2.block g1 HA.out.1.lt (fun hf=>by have:=HLT.out g1 hf;omega)).trans HA.out.1
 have hK2:Keeps (OwT F t n) w w2:=(HA.out.2.trans hk2 (fun _ h=> .inl h)).mono (fun _ h=> .inl h)
 obtain⟨ce,hm2⟩:=HCe.out w2 hK2
 have km:=mstate_any hm2
 rw [hm0] at km
 have H2:=Hid.mk (And.intro hx2 (And.intro hK2 (And.intro hb1 hblk2)))
 have HM:=Hid.mk hm2
 clear k3 hx2 hk2 hK2 hb1 hblk2 hm2 HA c0' hg1 hg2
 go_wp2_with fail
 refine km.mono ?_
 rintro e wx ⟨rfl,hwx⟩
 have hwx':=hwx.symm
 subst hwx'
 clear hwx km
 have kn:=num6_any 0 w2
 obtain⟨gq1,cq1,gq2,cq2,gq3,cq3,gq4,cq4,v5,v6,v7,hma⟩:=HM.out
 have c5:w2.cell? ⟨k,5,none⟩=some (slB gq3 cq3):=cell_of_block hma.b (j:=5) rfl
 have c6:w2.cell? ⟨k,6,none⟩=some (slB gq4 cq4):=cell_of_block hma.b (j:=6) rfl
 have kb1:=bytes6_any hma.nb.2.1 hma.nb.2.2
 have Hma:=Hid.mk (And.intro hma (And.intro c6 ce))
 clear hma
 go_wp2_with fail
 refine kn.mono ?_
 rintro e wx ⟨rfl,hwx⟩
 have hwx':=hwx.symm
 subst hwx'
 clear hwx
 go_wp2_with fail
 refine kn.mono ?_
 rintro e wx ⟨rfl,hwx⟩
 have hwx':=hwx.symm
 subst hwx'
 clear hwx kn
 go_wp2_with fail
 refine kb1.mono ?_
 rintro e w3 ⟨v3,rfl,ho3,hb3⟩
 obtain⟨g3,c3,e3,hg3,hr3⟩:=ho3.row' (by rw [bmOf_len];omega)
 rw [bmOf_len] at e3
 subst e3
 have ks1:=same512 (c:=512) (H2.out.2.2.1.later hb3) hr3 hl0 (bmOf_len _)
 rw [decide_eq_true HE0.out.1] at ks1
 have HB3:=Hid.mk hb3
 clear kb1 ho3 hr3 hb3 c5 c6 ce
 go_wp2_with fail
 refine ks1.mono ?_
 rintro e w4 ⟨rfl,hb4⟩
 have hB4:Below w2.heap.size w2 w4:=HB3.out.trans (hb4.mono HB3.out.size)
 have c6':=cell_later hB4 Hma.out.2.1
 have ce':=cell_later hB4 Hma.out.2.2
 have kb2:=bytes6_any (w:=w4) (Hma.out.1.nn.2.1.agree (hB4.block _ Hma.out.1.nn.2.1.lt)) Hma.out.1.nn.2.2
 have HB4:=Hid.mk hB4
 clear ks1 hb4 hB4 HB3
 go_wp2_with fail
 refine kb2.mono ?_
 rintro e w5 ⟨v5',rfl,ho5,hb5⟩
 obtain⟨g5,c5',e5,hg5,hr5⟩:=ho5.row' (by rw [bmOf_len];omega)
 rw [bmOf_len] at e5
 subst e5
 have hB5:Below w2.heap.size w2 w5:=HB4.out.trans (hb5.mono HB4.out.size)
 have ks2:=same512 (c:=512) (H2.out.2.2.2.later hB5) hr5 hl1 (bmOf_len _)
 rw [decide_eq_true HE0.out.2] at ks2
 have HB5:=Hid.mk hB5
 clear kb2 ho5 hr5 hb5 hB5 c6' ce' HB4
 go_wp2_with fail
 refine ks2.mono ?_
 rintro e w6 ⟨rfl,hb6⟩
 have hB6:Below w2.heap.size w2 w6:=HB5.out.trans (hb6.mono HB5.out.size)
 have hK6:Keeps (OwT F t n) w w6:=H2.out.2.1.trans (Keeps.of_below (fun _=>False) hB6) (fun _ h=>h.elim)
 have ko:=HO.out w6 _ hK6 (H2.out.1.later hB6)
 have HK6:=Hid.mk hK6
 clear ks2 hb6 hB6 hK6 HB5
 go_wp2_with fail
 refine ko.mono ?_
 rintro e w7 ⟨rfl,hx7,hk7⟩
 have HE:=Hid.mk (And.intro hx7 (HK6.out.trans hk7 (fun _ h=> .inl h)))
 clear ko hx7 hk7
 go_wp2
 go_ret
 exact⟨rfl,HE.out⟩
end
end Go.Proofs.YtkiehemoiapkkaaGreat
end
section
namespace Go.Proofs.YtkiehemoiapkkaaGreat
open Go.RowKit Go.Maps
section
variable {w w' w1:World} {F X Y Z:Nat→Prop} {kr p s cR q l m t n a1 a2 k:Nat} {S:DS} {G:SG} {T T':TG} {M M':MP}
theorem TX.apart (h:TX w F p s cR q l m t n S G T) (hk:Keeps Z w w') (hz:∀j,Z j→¬F j∧j≠q∧j≠l∧j≠m∧j≠t∧j≠n):TX w' F p s cR q l m t n S G T:=
   ⟨⟨h.st.d.keep hk (fun j hj e=>(hz j e).1 hj),h.st.st.keep hk (fun e=>(hz _ e).2.1 rfl),h.st.lp.keep hk (fun e=>(hz _ e).2.2.1 rfl),h.st.ch.keep hk (fun e=>(hz _ e).2.2.2.1 rfl),h.st.nq,h.st.nl,h.st.nm,h.st.ql,h.st.qm,h.st.lm,h.st.lk,h.st.bg,h.st.hs,h.st.kb⟩,⟨(hk.block t (lt_there h.tx.tx) (fun e=>(hz _ e).2.2.2.2.1 rfl)).trans h.tx.tx,h.tx.ch.keep hk (fun e=>(hz _ e).2.2.2.2.2 rfl),h.tx.nt,h.tx.nn,h.tx.tq,h.tx.tl,h.tx.tm,h.tx.tn,h.tx.nq,h.tx.nl,h.tx.nm,h.tx.kb⟩,h.byt,h.pu,h.yk⟩
theorem RgW.after (h:RgW w F X kr p s cR q l m t n a1 a2 k S G T M) {c':Nat} (hx:TX w' F p s c' q l m t n S G T') (hm:MX w' Y k M') (hk:Keeps (fun j=>OwT F t n j∨X j) w w') (hY:∀j,Y j→X j∨(w.heap.size≤j∧j<w'.heap.size)):RgW w' F Y kr p s c' q l m t n a1 a2 k S G T' M':=by
 have hb:=hx.low
 have h0:=h.x.low
 have hno:∀j,(¬F j∧j≠q∧j≠l∧j≠m∧j≠t∧j≠n)→¬OwT F t n j:=fun j hj e=>by
  rcases e with e|e|e
  ·exact hj.1 e
  ·exact hj.2.2.2.2.1 e
  ·exact hj.2.2.2.2.2 e
 have hkr:¬(OwT F t n kr∨X kr):=fun e=>by
  rcases e with e|e
  ·exact hno kr h.nk e
  ·exact(h.xa kr e).2.2.2.2.2.2.1 rfl
 have hp:∀a,PoolAt w F a t n→(∀j,X j→j≠a)→PoolAt w' F a t n:=fun a ha hxa=>⟨(hk.block a ha.lt (fun e=>by
  rcases e with e|e
  ·exact ha.nf e
  ·exact hxa a e rfl)).trans ha.b,ha.nf⟩
 refine⟨(hk.block kr (lt_there h.b) hkr).trans h.b,hx,hp a1 h.p1 (fun j hj=>(h.xa j hj).2.2.2.2.2.2.2.1),hp a2 h.p2 (fun j hj=>(h.xa j hj).2.2.2.2.2.2.2.2),hm,fun j hj=>?_,h.nk,fun j hj=>?_⟩
 ·rcases hY j hj with e|e
  ·exact Nat.lt_of_lt_of_le (h.xl j e) hk.size
  ·exact e.2
 ·rcases hY j hj with e|e
  ·exact h.xa j e
  ·obtain⟨o1,o2,o3,o4,o5,o6⟩:=h0
   have z1:=lt_there h.b
   have z2:=h.p1.lt
   have z3:=h.p2.lt
   exact⟨fun e2=>by have:=o1 j e2;omega,by omega,by omega,by omega,by omega,by omega,by omega,by omega,by omega⟩
end
end Go.Proofs.YtkiehemoiapkkaaGreat
end
section
namespace Go.Proofs.YtkiehemoiapkkaaGreat
open Go.RowKit Go.Maps
abbrev stpV (kd N:Int) (who two:Bool) (da:Option Addr) (dn dc:Nat):Value:= .agg #[.int .i64 kd, .int .i64 N, .bool who, .bool two, .slice da dn dc]
abbrev stpC (kd N:Int) (who two:Bool) (da:Option Addr) (dn dc:Nat):Obj:= .cells #[.int .i64 kd, .int .i64 N, .bool who, .bool two, .slice da dn dc] 46
section
variable {w w' w1:World} {F X Y Z:Nat→Prop} {kr p s cR q l m t n a1 a2 k pa:Nat} {S:DS} {G:SG} {T T':TG} {M M':MP} {N:Int} {who two:Bool} {da:Option Addr} {dn dc:Nat}
theorem RgW.offX (h:RgW w F X kr p s cR q l m t n a1 a2 k S G T M):∀j,X j→¬OwT F t n j:=fun j hj e=>by
 have h9:=h.xa j hj
 rcases e with e|e|e
 ·exact h9.1 e
 ·exact h9.2.2.2.2.1 e
 ·exact h9.2.2.2.2.2.1 e
theorem RgW.later (h:RgW w F X kr p s cR q l m t n a1 a2 k S G T M) (hb:Below w.heap.size w w'):RgW w' F X kr p s cR q l m t n a1 a2 k S G T M:=
 h.after (h.x.later hb) (h.mm.later hb) (Keeps.of_below _ hb) (fun _ h=> .inl h)
theorem RgW.offR (h:RgW w F X kr p s cR q l m t n a1 a2 k S G T M):¬OwT F t n kr:=fun e=>by
 rcases e with e|e|e
 ·exact h.nk.1 e
 ·exact h.nk.2.2.2.2.1 e
 ·exact h.nk.2.2.2.2.2 e
end
end Go.Proofs.YtkiehemoiapkkaaGreat
end
section
namespace Go.Proofs.YtkiehemoiapkkaaGreat
open Go.ChangeShapes Go.WideShapes Go.ChangeAt Go.RowKit Go.Deep
theorem cellsBool:Tryz.prog.cellsOf 4=1:=by kernel_rfl
theorem bytesStep:Tryz.prog.bytesOf 46=48:=by kernel_rfl
theorem cellsStep:Tryz.prog.cellsOf 46=5:=by kernel_rfl
def Steps6 (w:World) (B:Nat) (sa:Option Addr) (n:Nat):Prop:=
   (sa=none→n=0)∧∀y,sa=some y→∀i,i<n→∃b o,y=⟨b,o,none⟩∧b<B∧∃(kd N:Int) (who two:Bool) (da:Option Addr) (dn dc:Nat) (dl:List Int),w.cell? ⟨b,o+i*5,none⟩=some (.int .i64 kd)∧w.cell? ⟨b,o+i*5+1,none⟩=some (.int .i64 N)∧w.cell? ⟨b,o+i*5+2,none⟩=some (.bool who)∧w.cell? ⟨b,o+i*5+3,none⟩=some (.bool two)∧w.cell? ⟨b,o+i*5+4,none⟩=some (.slice da dn dc)∧I64 N∧Src w da dn dl∧Bytes dl∧dn≤140737488355328∧∀x,da=some x→0<dn→x.block<B
theorem Steps6.far {w w':World} {B:Nat} {sa:Option Addr} {n:Nat} (h:Steps6 w B sa n) (hb:Below B w w'):Steps6 w' B sa n:=by
 refine⟨h.1,fun y hy i hi=>?_⟩
 obtain⟨b,o,rfl,hbB,kd,N,who,two,da,dn,dc,dl,c0,c1,c2,c3,c4,h5,h6,h7,h8,h9⟩:=h.2 y hy i hi
 have e:=hb.block b hbB
 exact⟨b,o,rfl,hbB,kd,N,who,two,da,dn,dc,dl,(World.cell?_of_block (w:=w) (a:=⟨b,_,none⟩) e).trans c0,(World.cell?_of_block (w:=w) (a:=⟨b,_,none⟩) e).trans c1,(World.cell?_of_block (w:=w) (a:=⟨b,_,none⟩) e).trans c2,(World.cell?_of_block (w:=w) (a:=⟨b,_,none⟩) e).trans c3,(World.cell?_of_block (w:=w) (a:=⟨b,_,none⟩) e).trans c4,h5,h6.far hb h9,h7,h8,h9⟩
section
variable {H:Type} {enc:TypeId×Value→H} {W:World} {base:Nat} {spare:Nat→Bool} {held:Bool}
theorem trod5 {P:Program} {e:TypeId} {f0 f1 f2 f3 f4:Field} {n:Nat} {cs:List Value} {x:DataW H×List MemPlace} (he:P.underlying e=some (.struct #[f0,f1,f2,f3,f4])) (ce:P.cellsOf e=5) (o0:f0.offset=0) (o1:f1.offset=1) (o2:f2.offset=2) (o3:f3.offset=3) (o4:f4.offset=4)
    (c0:P.cellsOf f0.type=1) (c1:P.cellsOf f1.type=1) (c2:P.cellsOf f2.type=1) (c3:P.cellsOf f3.type=1) (c4:P.cellsOf f4.type=1) (h:DataW.trod enc P W base spare held n e cs=some x):
  ∃v0 v1 v2 v3 v4 y0 y1 y2 y3 y4 k,cs= [v0,v1,v2,v3,v4]∧x.1= .agg [y0.1,y1.1,y2.1,y3.1,y4.1]∧DataW.trod enc P W base spare held k f0.type [v0]=some y0∧DataW.trod enc P W base spare held k f1.type [v1]=some y1∧DataW.trod enc P W base spare held k f2.type [v2]=some y2∧DataW.trod enc P W base spare held k f3.type [v3]=some y3∧DataW.trod enc P W base spare held k f4.type [v4]=some y4∧(∀m∈y4.1.weights P f4.type,m∈x.1.weights P e):=by
 obtain⟨xs,k,_,hxy,hlen,hxl,hf⟩:=DataW.trod_struct he h
 rw [ce] at hlen
 match xs,hxl,cs,hlen with
 | [y0,y1,y2,y3,y4],_, [v0,v1,v2,v3,v4],_=>
  have g0:=hf 0 f0 rfl
  have g1:=hf 1 f1 rfl
  have g2:=hf 2 f2 rfl
  have g3:=hf 3 f3 rfl
  have g4:=hf 4 f4 rfl
  simp [o0,o1,o2,o3,o4,c0,c1,c2,c3,c4] at g0 g1 g2 g3 g4
  have ex:x.1= .agg [y0.1,y1.1,y2.1,y3.1,y4.1]:=by rw [hxy];rfl
  refine⟨v0,v1,v2,v3,v4,y0,y1,y2,y3,y4,k,rfl,ex,g0,g1,g2,g3,g4,fun m hm=>?_⟩
  rw [ex]
  simp [DataW.weights,he,DataW.weightsEach,hm]
theorem open_steps {fuel:Nat} {v:Value} {d:DataW H} {pl:List MemPlace} (h:DataW.trod enc Tryz.prog W base spare held fuel 24 [v]=some (d,pl)) (hw:∀n∈d.weights Tryz.prog 24,n≤reachBytes):
  ∃a n c,v= .slice a n c∧Steps6 W W.heap.size a n∧48*n≤140737488355328:=by
 rcases open_slice Tryz.underlying24 h with ⟨hcs,_⟩|⟨x,len,cap,m,k,D,Pl,hcs,_,hl,hm,hmm,hd,hx⟩
 ·simp only [List.cons.injEq,and_true] at hcs
  exact⟨none,0,0,hcs,⟨fun _=>rfl,(fun x hx=>by cases hx)⟩,Nat.zero_le _⟩
 ·simp only [List.cons.injEq,and_true] at hcs
  simp only [Prod.mk.injEq] at hd
  replace hd:=hd.1
  subst hd
  have hlm:len≤m:=by rw [hmm];split <;> omega
  have h1:=hw ((((List.range len).map D).length+((List.range (m-len)).map fun j=>D (len+j)).length)*Tryz.prog.bytesOf 46) (by simp [DataW.weights,Tryz.underlying24])
  rw [bytesStep] at h1
  simp only [List.length_map,List.length_range,reachBytes] at h1
  rw [cellsStep] at hx
  have hwe:∀i,i<len→∀n∈(D i).weights Tryz.prog 46,n≤reachBytes:=fun i hi n hn=>hw n (by
   simp only [DataW.weights,Tryz.underlying24]
   exact List.mem_cons_of_mem _ (List.mem_append_left _ (weightsAll_mem (List.mem_map.2 ⟨i,List.mem_range.2 hi,rfl⟩) hn)))
  refine⟨some x,len,cap,hcs,⟨(fun h=>by cases h),fun y hy i hi=>?_⟩,by omega⟩
  cases hy
  obtain⟨cs',e1,e2⟩:=hx i (by omega)
  obtain⟨_,hlen,hcell⟩:=World.cells?_some e1
  obtain⟨v0,v1,v2,v3,v4,y0,y1,y2,y3,y4,k',rfl,_,g0,g1,g2,g3,g4,hwt⟩:=trod5 Tryz.underlying46 cellsStep rfl rfl rfl rfl rfl cellsInt cellsInt cellsBool cellsBool cellsBytes e2
  obtain⟨a,na,ca,l,rfl,hs,hb,hc,hsn⟩:=open_bytes g4 (fun m hm=>hwe i hi m (hwt m hm))
  obtain⟨n0,q0,_,w0⟩:=DataW.trod_int Tryz.underlying3 g0
  obtain⟨n1,q1,_,w1⟩:=DataW.trod_int Tryz.underlying3 g1
  obtain⟨n2,q2,_⟩:=DataW.trod_bool Tryz.underlying4 g2
  obtain⟨n3,q3,_⟩:=DataW.trod_bool Tryz.underlying4 g3
  simp only [List.cons.injEq,and_true] at q0 q1 q2 q3
  subst q0 q1 q2 q3
  have c0:=hcell 0 (by omega)
  have c1:=hcell 1 (by omega)
  have c2:=hcell 2 (by omega)
  have c3:=hcell 3 (by omega)
  have c4:=hcell 4 (by omega)
  rw [add_add] at c0 c1 c2 c3 c4
  obtain⟨cs0,z1,z2⟩:=hx 0 (by omega)
  obtain⟨b0,b1,b2,b3,b4,_,_,_,_,_,_,rfl,_⟩:=trod5 Tryz.underlying46 cellsStep rfl rfl rfl rfl rfl cellsInt cellsInt cellsBool cellsBool cellsBytes z2
  obtain⟨_,_,zcell⟩:=World.cells?_some z1
  have z0:=zcell 0 (by omega)
  rw [add_add] at z0
  obtain⟨b,o,spot⟩:=x
  have hspot:spot=none:=by simpa [Addr.add] using World.cell?_spot z0
  subst hspot
  rw [addr_add] at c0 c1 c2 c3 c4
  simp at c0 c1 c2 c3 c4
  exact⟨b,o,rfl,World.block_lt_of_cell? _ _ c0,n0,n1,n2,n3,a,na,ca,l,c0,by simpa [Nat.add_assoc] using c1,by simpa [Nat.add_assoc] using c2,by simpa [Nat.add_assoc] using c3,by simpa [Nat.add_assoc] using c4,int_wf w1,hs,hb,hsn,hs.old⟩
end
end Go.Proofs.YtkiehemoiapkkaaGreat
end
section
namespace Go.Proofs.YtkiehemoiapkkaaGreat
open Go.RowKit
def lowA:Option Nat→Int
 |none=> -1
 |some i=>(i:Int)
section
variable {w:World} {g c:Nat} {l:List Bool}
set_option maxRecDepth 20000 in
set_option maxHeartbeats 4000000 in
theorem lowest_any (h:RowAt w 4 g c (bls l)) (hl:l.length=4096) (lo n:Nat) (hn:lo+n≤4096):
  Calls Tryz.prog 113 #[slB g c, .int .i64 (lo:Int), .int .i64 ((lo+n:Nat):Int)] w fun e w'=>e= .returned (.int .i64 (lowA (lowBit (bmOf l) lo n)))∧w'=w:=by
 obtain⟨R,hR⟩:∃R,R=lowBit (bmOf l) lo n:=⟨_,rfl⟩
 rw [←hR]
 have H:=Hid.mk (And.intro h hR)
 obtain⟨hi,hhi⟩:∃hi,hi=lo+n:=⟨_,rfl⟩
 rw [←hhi]
 clear h hR
 go_enter Tryz.func113,Tryz.ntmps113
 go_wp2
 go_loopw [7] (fun iv wr=>∃j:Nat,j≤n∧iv= .int .i64 ((lo+j:Nat):Int)∧(∀i,lo≤i→i<lo+j→bitOf (bmOf l) i=true)∧wr=w) (fun iv _=>hi-(intOf iv).toNat)
 case atStart=>exact⟨0,Nat.zero_le _,rfl,fun i h1 h2=>by omega,rfl⟩
 case round=>
  obtain⟨j,hj,rfl,hall,hwr⟩:=hrel
  subst hwr
  obtain⟨m,hm⟩:∃m,m=lo+j:=⟨_,rfl⟩
  rw [←hm] at hall⊢
  by_cases hlt:m<hi
  ·have hlt':(m:Int)<(hi:Int):=by omega
   have hm0:(0:Int)≤(m:Int):=by omega
   have hm4:(m:Int)<4096:=by omega
   have cm:=H.out.1.truth (i:=m) (by omega)
   have hbm:=bm_bit l (i:=m) (by omega)
   have hsk:=lowBit_skip (l:=bmOf l) (k:=j) (n:=n-j) (a:=lo) (fun i h1 h2=>hall i h1 (by omega))
   cases hx:l.getD m false
   ·rw [hx] at cm hbm
    have HR:Hid (R=some m):=by
     show R=some m
     rw [H.out.2,show n=j+(n-j) by omega,hsk,←hm,show n-j=(n-j-1)+1 by omega]
     unfold lowBit
     rw [if_pos hbm]
    clear hx hbm hsk hall hm hhi
    go_wp2
    go_ret
    rw [HR.out]
    exact⟨rfl,rfl⟩
   ·rw [hx] at cm hbm
    have HA:Hid (∀i,lo≤i→i<lo+(j+1)→bitOf (bmOf l) i=true):=fun i h1 h2=>by
     by_cases e:i=m
     ·rw [e];exact hbm
     ·exact hall i h1 (by omega)
    have HM:=Hid.mk (And.intro hm hhi)
    clear hx hbm hsk hall hm hhi
    go_wp2
    go_roundw
    case rel=>exact⟨j+1,by have:=HM.out;omega,by rw [show lo+(j+1)=m+1 by have:=HM.out;omega];go_num,HA.out,trivial⟩
    case measure=>simp [intOf];omega
  ·have hlt':¬(m:Int)<(hi:Int):=by omega
   have hjn:j=n:=by omega
   have HR:Hid (R=none):=by
    show R=none
    rw [H.out.2]
    cases e:lowBit (bmOf l) lo n with
    |none=>rfl
    |some b=>
     obtain⟨q1,q2,q3,_⟩:=lowBit_some e
     rw [hall b q1 (by omega)] at q3
     cases q3
   clear hall hm hhi
   go_wp2
   go_ret
   rw [HR.out]
   exact⟨rfl,rfl⟩
end
end Go.Proofs.YtkiehemoiapkkaaGreat
end
section
namespace Go.Proofs.YtkiehemoiapkkaaGreat
open Go.RowKit
def MO3 (w w':World) (X:Nat→Prop) (k:Nat) (R:Int×Int×MP) (e:Ending):Prop:=
 e= .returned (.tuple #[.int .i64 R.1, .int .i64 R.2.1])∧MX w' (more X w w') k R.2.2∧Keeps X w w'
def MP.take0 (M:MP):Int×Int×MP:=
 if M.state≠0 then (0,M.state,M) else match lowBit (bmOf M.nb) (2+M.nodes / 4) (M.blocks-(2+M.nodes / 4)) with
 |none=>(0,60,{M with bad:=60})
 |some i=>if (M.puts 0).1≠0 then (0,M.puts 0) else ((i:Int),0,{(M.puts 0).2 with nb:=M.nb.set i true})
def MP.take1 (M:MP):Int×Int×MP:=
 if M.state≠0 then (0,M.state,M) else match lowBit (bmOf M.nn) 0 M.nodes with
 |none=>(0,61,{M with bad:=61})
 |some i=>if (M.puts 1).1≠0 then (0,M.puts 1) else ((i:Int)+1,0,{(M.puts 1).2 with nn:=M.nn.set i true})
theorem puts_nb (M:MP) (b:Nat):(M.puts b).2.nb=M.nb∧(M.puts b).2.nn=M.nn:=by
 unfold MP.puts
 split
 ·exact⟨rfl,rfl⟩
 ·split <;> exact⟨rfl,rfl⟩
section
variable {w w':World} {X Y Z:Nat→Prop} {k:Nat} {M:MP}
theorem MX.setBad (h:MX w X k M) (x:Int):w.cell? ⟨k,10,none⟩=some (.int .i64 M.bad)∧w.frozen? ⟨k,10,none⟩=false∧MX (w.setCell ⟨k,10,none⟩ (.int .i64 x)) X k {M with bad:=x}∧Keeps X w (w.setCell ⟨k,10,none⟩ (.int .i64 x)):=by
 obtain⟨g1,c1,g2,c2,g3,c3,g4,c4,v5,v6,v7,h⟩:=h
 have hbl:=h.b
 have hs:(w.setCell ⟨k,10,none⟩ (.int .i64 x)).heap[k]? =some (.cells (mpC {M with bad:=x} (slB g1 c1) (slB g2 c2) (slB g3 c3) (slB g4 c4) v5 v6 v7) 72 (0,0)):=heap_setCell_same _ _ _ _ _ _ hbl
 have hk:=Keeps.setCell (F:=fun j=>j=k) w (p:=⟨k,10,none⟩) rfl (.int .i64 x)
 have hil:IL w X v7 M.put:=⟨h.put.1,h.put.2⟩
 have hil2:=hil.keep hk (fun g hg e=>by
  obtain⟨cur,hc⟩:=owns_block hil.own hg
  rw [e,hbl] at hc
  cases hc)
 exact⟨cell_of_block hbl (j:=10) rfl,frozen_of_block hbl 10,⟨_,_,_,_,_,_,_,_,_,_,_,h.turn (M':={M with bad:=x}) hk (fun g hg=>by subst hg;exact⟨_,_,_,hbl,by decide,by decide,by decide⟩) (fun _ h=>h) hs ⟨hil2.own,hil2.x⟩ rfl rfl rfl rfl rfl rfl rfl⟩,hk.mono (fun j hj=>by rw [hj];exact h.xk)⟩
theorem MX.setBit0 (h:MX w X k M) {i:Nat} (hi:i<4096) (x:Bool):∃g c,w.cell? ⟨k,5,none⟩=some (slB g c)∧4096≤c∧w.cell? ⟨g,i,none⟩=some (.bool (M.nb.getD i false))∧w.frozen? ⟨g,i,none⟩=false∧MX (w.setCell ⟨g,i,none⟩ (.bool x)) X k {M with nb:=M.nb.set i x}∧Keeps X w (w.setCell ⟨g,i,none⟩ (.bool x)):=by
 obtain⟨g1,c1,g2,c2,g3,c3,g4,c4,v5,v6,v7,h⟩:=h
 have hk:=Keeps.setCell (F:=fun j=>j=g3) w (p:=⟨g3,i,none⟩) rfl (.bool x)
 obtain⟨cur,hcur,_⟩:=id h.nb.2.1
 have hty:∀g,g=g3→∃cur t fz,w.heap[g]? =some (.cells cur t fz)∧t≠5∧t≠44:=fun g hg=>by subst hg;exact⟨_,_,_,hcur,by decide,by decide⟩
 have hil:IL w X v7 M.put:=⟨h.put.1,h.put.2⟩
 have hil2:=hil.keep hk (fun g hg e=>by
  obtain⟨cu,hc⟩:=owns_block hil.own hg
  rw [e,hcur] at hc
  cases hc)
 have hkb:(w.setCell ⟨g3,i,none⟩ (.bool x)).heap[k]? =_:=(hk.block k (lt_there h.b) (fun e=>by
  have h9:=h.b
  rw [e,hcur] at h9
  cases h9)).trans h.b
 have row:∀g c l,g≠g3→RowAt w 4 g c (bls l)→RowAt (w.setCell ⟨g3,i,none⟩ (.bool x)) 4 g c (bls l):=fun g c l hg hr=>hr.agree (hk.block g hr.lt hg)
 refine⟨g3,c3,cell_of_block h.b (j:=5) rfl,?_,h.nb.2.1.truth (by rw [h.nb.2.2];exact hi),h.nb.2.1.thaw i,⟨_,_,_,_,_,_,_,_,_,_,_,⟨hkb,h.xk,⟨h.ob.1,row _ _ _ h.n13 h.ob.2.1,h.ob.2.2⟩,⟨h.on.1,row _ _ _ h.n23 h.on.2.1,h.on.2.2⟩,⟨h.nb.1,h.nb.2.1.setTruth i x,by rw [List.length_set];exact h.nb.2.2⟩,⟨h.nn.1,row _ _ _ (fun e=>h.n34 e.symm) h.nn.2.1,h.nn.2.2⟩,h.n12,h.n13,h.n14,h.n23,h.n24,h.n34,h.oraw.keep hk hty,h.raw.keep hk hty,⟨hil2.own,hil2.x⟩,h.own⟩⟩,hk.mono (fun j hj=>by rw [hj];exact h.nb.1)⟩
 have:=h.nb.2.1.le
 have hl:=h.nb.2.2
 simp [bls] at this
 omega
theorem MX.setBit1 (h:MX w X k M) {i:Nat} (hi:i<4096) (x:Bool):∃g c,w.cell? ⟨k,6,none⟩=some (slB g c)∧4096≤c∧w.cell? ⟨g,i,none⟩=some (.bool (M.nn.getD i false))∧w.frozen? ⟨g,i,none⟩=false∧MX (w.setCell ⟨g,i,none⟩ (.bool x)) X k {M with nn:=M.nn.set i x}∧Keeps X w (w.setCell ⟨g,i,none⟩ (.bool x)):=by
 obtain⟨g1,c1,g2,c2,g3,c3,g4,c4,v5,v6,v7,h⟩:=h
 have hk:=Keeps.setCell (F:=fun j=>j=g4) w (p:=⟨g4,i,none⟩) rfl (.bool x)
 obtain⟨cur,hcur,_⟩:=id h.nn.2.1
 have hty:∀g,g=g4→∃cur t fz,w.heap[g]? =some (.cells cur t fz)∧t≠5∧t≠44:=fun g hg=>by subst hg;exact⟨_,_,_,hcur,by decide,by decide⟩
 have hil:IL w X v7 M.put:=⟨h.put.1,h.put.2⟩
 have hil2:=hil.keep hk (fun g hg e=>by
  obtain⟨cu,hc⟩:=owns_block hil.own hg
  rw [e,hcur] at hc
  cases hc)
 have hkb:(w.setCell ⟨g4,i,none⟩ (.bool x)).heap[k]? =_:=(hk.block k (lt_there h.b) (fun e=>by
  have h9:=h.b
  rw [e,hcur] at h9
  cases h9)).trans h.b
 have row:∀g c l,g≠g4→RowAt w 4 g c (bls l)→RowAt (w.setCell ⟨g4,i,none⟩ (.bool x)) 4 g c (bls l):=fun g c l hg hr=>hr.agree (hk.block g hr.lt hg)
 refine⟨g4,c4,cell_of_block h.b (j:=6) rfl,?_,h.nn.2.1.truth (by rw [h.nn.2.2];exact hi),h.nn.2.1.thaw i,⟨_,_,_,_,_,_,_,_,_,_,_,⟨hkb,h.xk,⟨h.ob.1,row _ _ _ h.n14 h.ob.2.1,h.ob.2.2⟩,⟨h.on.1,row _ _ _ h.n24 h.on.2.1,h.on.2.2⟩,⟨h.nb.1,row _ _ _ h.n34 h.nb.2.1,h.nb.2.2⟩,⟨h.nn.1,h.nn.2.1.setTruth i x,by rw [List.length_set];exact h.nn.2.2⟩,h.n12,h.n13,h.n14,h.n23,h.n24,h.n34,h.oraw.keep hk hty,h.raw.keep hk hty,⟨hil2.own,hil2.x⟩,h.own⟩⟩,hk.mono (fun j hj=>by rw [hj];exact h.nn.1)⟩
 have:=h.nn.2.1.le
 have hl:=h.nn.2.2
 simp [bls] at this
 omega
end
end Go.Proofs.YtkiehemoiapkkaaGreat
end
section
namespace Go.Proofs.YtkiehemoiapkkaaGreat
open Go.RowKit
section
variable {w w':World} {X Y Z:Nat→Prop} {k:Nat} {M:MP}
set_option maxRecDepth 20000 in
set_option maxHeartbeats 8000000 in
theorem mtake0_any (h:MX w X k M) (hp:M.put.length≤16) (hD:2+M.nodes / 4≤M.blocks) (hB:M.blocks≤4096) (_hN:M.nodes≤4096):
  Calls Tryz.prog 70 #[.pointer (some ⟨k,0,none⟩)] w fun e w'=>MO3 w w' X k M.take0 e:=by
 have ks:=mstate_any h
 by_cases h0:M.state=0
 ·have hc:M.take0=match lowBit (bmOf M.nb) (2+M.nodes / 4) (M.blocks-(2+M.nodes / 4)) with|none=>(0,60,{M with bad:=60})|some i=>if (M.puts 0).1≠0 then (0,M.puts 0) else ((i:Int),0,{(M.puts 0).2 with nb:=M.nb.set i true}):=by unfold MP.take0;rw [if_neg (fun e=>e h0)] <;> rfl
  rw [h0] at ks
  rw [hc]
  clear hc h0
  obtain⟨D,hDD⟩:∃D,D=2+M.nodes / 4:=⟨_,rfl⟩
  have hdr:∀i,Below w.heap.size w (w.drewN i):=fun i=>below_drewN (Below.refl _ _) i
  obtain⟨g1,c1,g2,c2,g3,c3,g4,c4,v5,v6,v7,hm⟩:=id h
  have e0:w.cell? ⟨k,0,none⟩=some (.int .i64 (M.blocks:Int)):=cell_of_block hm.b (j:=0) rfl
  have e1:w.cell? ⟨k,1,none⟩=some (.int .i64 (M.nodes:Int)):=cell_of_block hm.b (j:=1) rfl
  have e2:w.cell? ⟨k,2,none⟩=some (.int .i64 (D:Int)):=by rw [hDD];exact cell_of_block hm.b (j:=2) rfl
  have e5:w.cell? ⟨k,5,none⟩=some (slB g3 c3):=cell_of_block hm.b (j:=5) rfl
  have e6:w.cell? ⟨k,6,none⟩=some (slB g4 c4):=cell_of_block hm.b (j:=6) rfl
  have hlow:∀i,Calls Tryz.prog 113 #[slB g3 c3, .int .i64 (D:Int), .int .i64 (M.blocks:Int)] (w.drewN i) fun e w'=>e= .returned (.int .i64 (lowA (lowBit (bmOf M.nb) (2+M.nodes / 4) (M.blocks-(2+M.nodes / 4)))))∧w'=w.drewN i:=fun i=>by
   have h9:=lowest_any (w:=w.drewN i) (hm.nb.2.1.agree ((hdr i).block _ hm.nb.2.1.lt)) hm.nb.2.2 (2+M.nodes / 4) (M.blocks-(2+M.nodes / 4)) (by omega)
   rw [show (2+M.nodes / 4)+(M.blocks-(2+M.nodes / 4))=M.blocks by omega] at h9
   rw [hDD]
   exact h9
  have hput:∀i,Calls Tryz.prog 66 #[.pointer (some ⟨k,0,none⟩), .int .i64 0] (w.drewN i) fun e w'=>e= .returned (.int .i64 (M.puts 0).1)∧MX w' (more X (w.drewN i) w') k (M.puts 0).2∧Keeps X (w.drewN i) w':=fun i=>puts_any (h.later (hdr i)) 0 hp
  have hrg:∀i,lowBit (bmOf M.nb) (2+M.nodes / 4) (M.blocks-(2+M.nodes / 4))=some i→i<4096:=fun i hi=>by have:=(lowBit_some hi).2.1;omega
  have H:=Hid.mk (And.intro h hdr)
  have HPn:=Hid.mk (puts_nb M 0)
  clear h hm hdr hDD
  generalize lowBit (bmOf M.nb) (2+M.nodes / 4) (M.blocks-(2+M.nodes / 4))=R at*
  cases R with
  |none=>
   have hlow':∀i,Calls Tryz.prog 113 #[slB g3 c3, .int .i64 (D:Int), .int .i64 (M.blocks:Int)] (w.drewN i) fun e w'=>e= .returned (.int .i64 (-1))∧w'=w.drewN i:=hlow
   clear hlow hput hrg
   go_enter Tryz.func70,Tryz.ntmps70
   go_wp2_with fail
   refine ks.mono ?_
   rintro e w0 ⟨rfl,hw0⟩
   have hw0':=hw0.symm
   subst hw0'
   clear hw0 ks
   go_wp2_with fail
   go_quiet ((go_at_call 113;exact Calls.quiet_of_same (hlow' _)))
   obtain⟨wq,hwq⟩:∃wq,wq=w.drewN nq:=⟨_,rfl⟩
   have hbq:Below w.heap.size w wq:=by rw [hwq];exact H.out.2 nq
   rw [←hwq]
   obtain⟨x1,x2,x3,x4⟩:=(H.out.1.later hbq).setBad 60
   have HE:Hid (MX (wq.setCell ⟨k,10,none⟩ (.int .i64 60)) (more X w (wq.setCell ⟨k,10,none⟩ (.int .i64 60))) k {M with bad:=60}∧Keeps X w (wq.setCell ⟨k,10,none⟩ (.int .i64 60))):=⟨x3.mono (fun _ h=> .inl h),(Keeps.of_below X hbq).trans x4 (fun _ h=> .inl h)⟩
   clear hwq hbq x3 x4 hlow' e0 e1 e2 e5 e6
   go_wp2
   go_ret2
   exact⟨rfl,HE.out⟩
  |some i=>
   have hlow':∀j,Calls Tryz.prog 113 #[slB g3 c3, .int .i64 (D:Int), .int .i64 (M.blocks:Int)] (w.drewN j) fun e w'=>e= .returned (.int .i64 (i:Int))∧w'=w.drewN j:=hlow
   have hi4:=hrg i rfl
   have hi0:¬(i:Int)<0:=by omega
   have hi1:(0:Int)≤(i:Int):=by omega
   have hi2:(i:Int)<4096:=by omega
   clear hlow hrg
   obtain⟨Q,hQ⟩:∃Q,Q=M.puts 0:=⟨_,rfl⟩
   rw [←hQ] at hput HPn
   dsimp only
   rw [←hQ]
   clear hQ
   by_cases hq0:Q.1=0
   ·rw [if_neg (fun e=>e hq0)]
    rw [hq0] at hput
    go_enter Tryz.func70,Tryz.ntmps70
    go_wp2_with fail
    refine ks.mono ?_
    rintro e w0 ⟨rfl,hw0⟩
    have hw0':=hw0.symm
    subst hw0'
    clear hw0 ks
    go_wp2_with fail
    go_quiet ((go_at_call 113;exact Calls.quiet_of_same (hlow' _)))
    have kp:=hput nq
    obtain⟨wq,hwq⟩:∃wq,wq=w.drewN nq:=⟨_,rfl⟩
    have hbq:Below w.heap.size w wq:=by rw [hwq];exact H.out.2 nq
    rw [←hwq] at kp⊢
    have HB:=Hid.mk hbq
    clear hwq hbq hlow' hput e0 e1 e2 e5 e6
    go_wp2_with fail
    refine kp.mono ?_
    rintro e w1 ⟨rfl,hm1,hk1⟩
    obtain⟨g,cg,x1,x2,x3,x4,x5,x6⟩:=hm1.setBit0 hi4 true
    rw [HPn.out.1] at x3 x5
    have hcm:cg≤9223372036854775807:=by
     obtain⟨gq1,cq1,gq2,cq2,gq3,cq3,gq4,cq4,v5',v6',v7',hma⟩:=hm1
     have h9:w1.cell? ⟨k,5,none⟩=some (slB gq3 cq3):=cell_of_block hma.b (j:=5) rfl
     rw [x1] at h9
     injection h9 with h8
     injection h8 with h7 h6 h5
     have:=hma.nb.2.1.max
     unfold maxLen at this
     omega
    have HE:Hid (MX (w1.setCell ⟨g,i,none⟩ (.bool true)) (more X w (w1.setCell ⟨g,i,none⟩ (.bool true))) k {Q.2 with nb:=M.nb.set i true}∧Keeps X w (w1.setCell ⟨g,i,none⟩ (.bool true))):=by
     have z1:=HB.out.size
     have z2:=hk1.size
     have z3:=x6.size
     refine⟨x5.mono (fun j hj=>hj.imp (fun e=>e) (fun e=>⟨by have:=e.1;omega,by have:=e.2;omega⟩)),((Keeps.of_below X HB.out).trans hk1 (fun _ h=> .inl h)).trans x6 (fun j hj=>hj.imp (fun e=>e) (fun e=>by have:=e.1;omega))⟩
    generalize M.nb.getD i false=z at*
    clear kp hm1 hk1 x5 x6 HB
    go_wp2
    go_ret2
    exact⟨rfl,HE.out⟩
   ·rw [if_pos hq0]
    go_enter Tryz.func70,Tryz.ntmps70
    go_wp2_with fail
    refine ks.mono ?_
    rintro e w0 ⟨rfl,hw0⟩
    have hw0':=hw0.symm
    subst hw0'
    clear hw0 ks
    go_wp2_with fail
    go_quiet ((go_at_call 113;exact Calls.quiet_of_same (hlow' _)))
    have kp:=hput nq
    obtain⟨wq,hwq⟩:∃wq,wq=w.drewN nq:=⟨_,rfl⟩
    have hbq:Below w.heap.size w wq:=by rw [hwq];exact H.out.2 nq
    rw [←hwq] at kp⊢
    have HB:=Hid.mk hbq
    clear hwq hbq hlow' hput e0 e1 e2 e5 e6
    obtain⟨r,hr⟩:∃r,r=Q.1:=⟨_,rfl⟩
    rw [←hr] at kp hq0
    have HRR:=Hid.mk hr
    clear hr
    go_wp2_with fail
    refine kp.mono ?_
    rintro e w1 ⟨rfl,hm1,hk1⟩
    have HE:Hid (MX w1 (more X w w1) k Q.2∧Keeps X w w1):=by
     have z1:=HB.out.size
     refine⟨hm1.mono (fun j hj=>hj.imp (fun e=>e) (fun e=>⟨by have:=e.1;omega,e.2⟩)),(Keeps.of_below X HB.out).trans hk1 (fun _ h=> .inl h)⟩
    clear kp hm1 hk1 HB
    go_wp2
    go_ret2
    exact⟨by rw [HRR.out];rfl,HE.out⟩
 ·have hc:M.take0=(0,M.state,M):=by unfold MP.take0;rw [if_pos h0]
  rw [hc]
  have H:=Hid.mk h
  clear h hc
  generalize M.state=x at*
  go_enter Tryz.func70,Tryz.ntmps70
  go_wp2_with fail
  refine ks.mono ?_
  rintro e w0 ⟨rfl,hw0⟩
  have hw0':=hw0.symm
  subst hw0'
  clear hw0 ks
  go_wp2
  go_ret2
  exact⟨rfl,H.out.mono (fun _ h=> .inl h),Keeps.refl _ _⟩
set_option maxRecDepth 20000 in
set_option maxHeartbeats 8000000 in
theorem mtake1_any (h:MX w X k M) (hp:M.put.length≤16) (_hD:2+M.nodes / 4≤M.blocks) (_hB:M.blocks≤4096) (hN:M.nodes≤4096):
  Calls Tryz.prog 74 #[.pointer (some ⟨k,0,none⟩)] w fun e w'=>MO3 w w' X k M.take1 e:=by
 have ks:=mstate_any h
 by_cases h0:M.state=0
 ·have hc:M.take1=match lowBit (bmOf M.nn) 0 M.nodes with|none=>(0,61,{M with bad:=61})|some i=>if (M.puts 1).1≠0 then (0,M.puts 1) else ((i:Int)+1,0,{(M.puts 1).2 with nn:=M.nn.set i true}):=by unfold MP.take1;rw [if_neg (fun e=>e h0)] <;> rfl
  rw [h0] at ks
  rw [hc]
  clear hc h0
  obtain⟨D,hDD⟩:∃D,D=2+M.nodes / 4:=⟨_,rfl⟩
  have hdr:∀i,Below w.heap.size w (w.drewN i):=fun i=>below_drewN (Below.refl _ _) i
  obtain⟨g1,c1,g2,c2,g3,c3,g4,c4,v5,v6,v7,hm⟩:=id h
  have e0:w.cell? ⟨k,0,none⟩=some (.int .i64 (M.blocks:Int)):=cell_of_block hm.b (j:=0) rfl
  have e1:w.cell? ⟨k,1,none⟩=some (.int .i64 (M.nodes:Int)):=cell_of_block hm.b (j:=1) rfl
  have e2:w.cell? ⟨k,2,none⟩=some (.int .i64 (D:Int)):=by rw [hDD];exact cell_of_block hm.b (j:=2) rfl
  have e5:w.cell? ⟨k,5,none⟩=some (slB g3 c3):=cell_of_block hm.b (j:=5) rfl
  have e6:w.cell? ⟨k,6,none⟩=some (slB g4 c4):=cell_of_block hm.b (j:=6) rfl
  have hlow:∀i,Calls Tryz.prog 113 #[slB g4 c4, .int .i64 0, .int .i64 (M.nodes:Int)] (w.drewN i) fun e w'=>e= .returned (.int .i64 (lowA (lowBit (bmOf M.nn) 0 M.nodes)))∧w'=w.drewN i:=fun i=>by
   have h9:=lowest_any (w:=w.drewN i) (hm.nn.2.1.agree ((hdr i).block _ hm.nn.2.1.lt)) hm.nn.2.2 0 M.nodes (by omega)
   rw [show 0+M.nodes=M.nodes by omega] at h9
   skip
   exact h9
  have hput:∀i,Calls Tryz.prog 66 #[.pointer (some ⟨k,0,none⟩), .int .i64 1] (w.drewN i) fun e w'=>e= .returned (.int .i64 (M.puts 1).1)∧MX w' (more X (w.drewN i) w') k (M.puts 1).2∧Keeps X (w.drewN i) w':=fun i=>puts_any (h.later (hdr i)) 1 hp
  have hrg:∀i,lowBit (bmOf M.nn) 0 M.nodes=some i→i<4096:=fun i hi=>by have:=(lowBit_some hi).2.1;omega
  have H:=Hid.mk (And.intro h hdr)
  have HPn:=Hid.mk (puts_nb M 1)
  clear h hm hdr hDD
  generalize lowBit (bmOf M.nn) 0 M.nodes=R at*
  cases R with
  |none=>
   have hlow':∀i,Calls Tryz.prog 113 #[slB g4 c4, .int .i64 0, .int .i64 (M.nodes:Int)] (w.drewN i) fun e w'=>e= .returned (.int .i64 (-1))∧w'=w.drewN i:=hlow
   clear hlow hput hrg
   go_enter Tryz.func74,Tryz.ntmps74
   go_wp2_with fail
   refine ks.mono ?_
   rintro e w0 ⟨rfl,hw0⟩
   have hw0':=hw0.symm
   subst hw0'
   clear hw0 ks
   go_wp2_with fail
   go_quiet ((go_at_call 113;exact Calls.quiet_of_same (hlow' _)))
   obtain⟨wq,hwq⟩:∃wq,wq=w.drewN nq:=⟨_,rfl⟩
   have hbq:Below w.heap.size w wq:=by rw [hwq];exact H.out.2 nq
   rw [←hwq]
   obtain⟨x1,x2,x3,x4⟩:=(H.out.1.later hbq).setBad 61
   have HE:Hid (MX (wq.setCell ⟨k,10,none⟩ (.int .i64 61)) (more X w (wq.setCell ⟨k,10,none⟩ (.int .i64 61))) k {M with bad:=61}∧Keeps X w (wq.setCell ⟨k,10,none⟩ (.int .i64 61))):=⟨x3.mono (fun _ h=> .inl h),(Keeps.of_below X hbq).trans x4 (fun _ h=> .inl h)⟩
   clear hwq hbq x3 x4 hlow' e0 e1 e2 e5 e6
   go_wp2
   go_ret2
   exact⟨rfl,HE.out⟩
  |some i=>
   have hlow':∀j,Calls Tryz.prog 113 #[slB g4 c4, .int .i64 0, .int .i64 (M.nodes:Int)] (w.drewN j) fun e w'=>e= .returned (.int .i64 (i:Int))∧w'=w.drewN j:=hlow
   have hi4:=hrg i rfl
   have hi0:¬(i:Int)<0:=by omega
   have hi1:(0:Int)≤(i:Int):=by omega
   have hi2:(i:Int)<4096:=by omega
   clear hlow hrg
   obtain⟨Q,hQ⟩:∃Q,Q=M.puts 1:=⟨_,rfl⟩
   rw [←hQ] at hput HPn
   dsimp only
   rw [←hQ]
   clear hQ
   by_cases hq0:Q.1=0
   ·rw [if_neg (fun e=>e hq0)]
    rw [hq0] at hput
    go_enter Tryz.func74,Tryz.ntmps74
    go_wp2_with fail
    refine ks.mono ?_
    rintro e w0 ⟨rfl,hw0⟩
    have hw0':=hw0.symm
    subst hw0'
    clear hw0 ks
    go_wp2_with fail
    go_quiet ((go_at_call 113;exact Calls.quiet_of_same (hlow' _)))
    have kp:=hput nq
    obtain⟨wq,hwq⟩:∃wq,wq=w.drewN nq:=⟨_,rfl⟩
    have hbq:Below w.heap.size w wq:=by rw [hwq];exact H.out.2 nq
    rw [←hwq] at kp⊢
    have HB:=Hid.mk hbq
    clear hwq hbq hlow' hput e0 e1 e2 e5 e6
    go_wp2_with fail
    refine kp.mono ?_
    rintro e w1 ⟨rfl,hm1,hk1⟩
    obtain⟨g,cg,x1,x2,x3,x4,x5,x6⟩:=hm1.setBit1 hi4 true
    rw [HPn.out.2] at x3 x5
    have hcm:cg≤9223372036854775807:=by
     obtain⟨gq1,cq1,gq2,cq2,gq3,cq3,gq4,cq4,v5',v6',v7',hma⟩:=hm1
     have h9:w1.cell? ⟨k,6,none⟩=some (slB gq4 cq4):=cell_of_block hma.b (j:=6) rfl
     rw [x1] at h9
     injection h9 with h8
     injection h8 with h7 h6 h5
     have:=hma.nn.2.1.max
     unfold maxLen at this
     omega
    have HE:Hid (MX (w1.setCell ⟨g,i,none⟩ (.bool true)) (more X w (w1.setCell ⟨g,i,none⟩ (.bool true))) k {Q.2 with nn:=M.nn.set i true}∧Keeps X w (w1.setCell ⟨g,i,none⟩ (.bool true))):=by
     have z1:=HB.out.size
     have z2:=hk1.size
     have z3:=x6.size
     refine⟨x5.mono (fun j hj=>hj.imp (fun e=>e) (fun e=>⟨by have:=e.1;omega,by have:=e.2;omega⟩)),((Keeps.of_below X HB.out).trans hk1 (fun _ h=> .inl h)).trans x6 (fun j hj=>hj.imp (fun e=>e) (fun e=>by have:=e.1;omega))⟩
    generalize M.nn.getD i false=z at*
    clear kp hm1 hk1 x5 x6 HB
    go_wp2
    go_ret2
    exact⟨rfl,HE.out⟩
   ·rw [if_pos hq0]
    go_enter Tryz.func74,Tryz.ntmps74
    go_wp2_with fail
    refine ks.mono ?_
    rintro e w0 ⟨rfl,hw0⟩
    have hw0':=hw0.symm
    subst hw0'
    clear hw0 ks
    go_wp2_with fail
    go_quiet ((go_at_call 113;exact Calls.quiet_of_same (hlow' _)))
    have kp:=hput nq
    obtain⟨wq,hwq⟩:∃wq,wq=w.drewN nq:=⟨_,rfl⟩
    have hbq:Below w.heap.size w wq:=by rw [hwq];exact H.out.2 nq
    rw [←hwq] at kp⊢
    have HB:=Hid.mk hbq
    clear hwq hbq hlow' hput e0 e1 e2 e5 e6
    obtain⟨r,hr⟩:∃r,r=Q.1:=⟨_,rfl⟩
    rw [←hr] at kp hq0
    have HRR:=Hid.mk hr
    clear hr
    go_wp2_with fail
    refine kp.mono ?_
    rintro e w1 ⟨rfl,hm1,hk1⟩
    have HE:Hid (MX w1 (more X w w1) k Q.2∧Keeps X w w1):=by
     have z1:=HB.out.size
     refine⟨hm1.mono (fun j hj=>hj.imp (fun e=>e) (fun e=>⟨by have:=e.1;omega,e.2⟩)),(Keeps.of_below X HB.out).trans hk1 (fun _ h=> .inl h)⟩
    clear kp hm1 hk1 HB
    go_wp2
    go_ret2
    exact⟨by rw [HRR.out];rfl,HE.out⟩
 ·have hc:M.take1=(0,M.state,M):=by unfold MP.take1;rw [if_pos h0]
  rw [hc]
  have H:=Hid.mk h
  clear h hc
  generalize M.state=x at*
  go_enter Tryz.func74,Tryz.ntmps74
  go_wp2_with fail
  refine ks.mono ?_
  rintro e w0 ⟨rfl,hw0⟩
  have hw0':=hw0.symm
  subst hw0'
  clear hw0 ks
  go_wp2
  go_ret2
  exact⟨rfl,H.out.mono (fun _ h=> .inl h),Keeps.refl _ _⟩
end
end Go.Proofs.YtkiehemoiapkkaaGreat
end
section
namespace Go.Proofs.YtkiehemoiapkkaaGreat
open Go.RowKit
def MP.drop0 (M:MP) (x:Int):Int×MP:=
 if M.state≠0 then (M.state,M) else if x<(2+M.nodes / 4:Nat)∨(M.blocks:Int)≤x then (11,M) else if M.nb.getD x.toNat false=false then (62,M) else if (M.puts 0).1≠0 then M.puts 0 else (0,{(M.puts 0).2 with nb:=M.nb.set x.toNat false})
def MP.drop1 (M:MP) (x:Int):Int×MP:=
 if M.state≠0 then (M.state,M) else if x<1∨(M.nodes:Int)<x then (11,M) else if M.nn.getD (x-1).toNat false=false then (62,M) else if (M.puts 1).1≠0 then M.puts 1 else (0,{(M.puts 1).2 with nn:=M.nn.set (x-1).toNat false})
section
variable {w w':World} {X Y Z:Nat→Prop} {k:Nat} {M:MP}
set_option maxRecDepth 20000 in
set_option maxHeartbeats 8000000 in
theorem mdrop0_any (h:MX w X k M) (hp:M.put.length≤16) (_hD:2+M.nodes / 4≤M.blocks) (hB:M.blocks≤4096) (hN:M.nodes≤4096) (x:Int):
  Calls Tryz.prog 72 #[.pointer (some ⟨k,0,none⟩), .int .i64 x] w fun e w'=>MO w w' X w.heap.size k (M.drop0 x) e:=by
 have ks:=mstate_any h
 by_cases h0:M.state=0
 ·have hc:M.drop0 x=if x<((2+M.nodes / 4:Nat):Int)∨(M.blocks:Int)≤x then (11,M) else if M.nb.getD x.toNat false=false then (62,M) else if (M.puts 0).1≠0 then M.puts 0 else (0,{(M.puts 0).2 with nb:=M.nb.set x.toNat false}):=by unfold MP.drop0;rw [if_neg (fun e=>e h0)]
  rw [h0] at ks
  rw [hc]
  clear hc h0
  obtain⟨D,hDD⟩:∃D,D=2+M.nodes / 4:=⟨_,rfl⟩
  obtain⟨g1,c1,g2,c2,g3,c3,g4,c4,v5,v6,v7,hm⟩:=id h
  have e0:w.cell? ⟨k,0,none⟩=some (.int .i64 (M.blocks:Int)):=cell_of_block hm.b (j:=0) rfl
  have e1:w.cell? ⟨k,1,none⟩=some (.int .i64 (M.nodes:Int)):=cell_of_block hm.b (j:=1) rfl
  have e2:w.cell? ⟨k,2,none⟩=some (.int .i64 (D:Int)):=by rw [hDD];exact cell_of_block hm.b (j:=2) rfl
  have H:=Hid.mk h
  by_cases hr:x<((2+M.nodes / 4:Nat):Int)∨(M.blocks:Int)≤x
  ·rw [if_pos hr]
   clear hm
   rw [←hDD] at hr
   clear hDD
   by_cases hr1:x<(D:Int)
   ·clear hr
    go_enter Tryz.func72,Tryz.ntmps72
    go_wp2_with fail
    refine ks.mono ?_
    rintro e w0 ⟨rfl,hw0⟩
    have hw0':=hw0.symm
    subst hw0'
    clear hw0 ks
    go_wp2
    go_ret
    exact⟨rfl,H.out.mono (fun _ h=> .inl h),Keeps.refl _ _⟩
   ·have hr2:=hr.resolve_left hr1
    clear hr
    go_enter Tryz.func72,Tryz.ntmps72
    go_wp2_with fail
    refine ks.mono ?_
    rintro e w0 ⟨rfl,hw0⟩
    have hw0':=hw0.symm
    subst hw0'
    clear hw0 ks
    go_wp2
    go_ret
    exact⟨rfl,H.out.mono (fun _ h=> .inl h),Keeps.refl _ _⟩
  ·rw [if_neg hr]
   obtain⟨i,hi⟩:∃i:Nat,x=(i:Int):=⟨x.toNat,by omega⟩
   rw [hi,Int.toNat_natCast]
   obtain⟨xx,hxx⟩:∃xx:Nat,x=(xx:Int):=⟨x.toNat,by omega⟩
   subst hxx
   have hi4:i<4096:=by omega
   have hlo:¬(xx:Int)<(D:Int):=by omega
   have hhi:¬(M.blocks:Int)≤(xx:Int):=by omega
   have hi1:(0:Int)≤(i:Int):=by omega
   have hi2:(i:Int)<4096:=by omega
   have e5:w.cell? ⟨k,5,none⟩=some (slB g3 c3):=cell_of_block hm.b (j:=5) rfl
   have e6:w.cell? ⟨k,6,none⟩=some (slB g4 c4):=cell_of_block hm.b (j:=6) rfl
   have cm:=hm.nb.2.1.truth (i:=i) (by rw [hm.nb.2.2];exact hi4)
   have hc1:4096≤c3:=by have:=hm.nb.2.1.le;have:=hm.nb.2.2;simp [bls] at*;omega
   have hcm:c3≤9223372036854775807:=by have:=hm.nb.2.1.max;unfold maxLen at this;omega
   have kp:=puts_any h 0 hp
   have HPn:=Hid.mk (puts_nb M 0)
   clear hm h hr hDD
   obtain rfl:i=xx:=by omega
   cases hbt:M.nb.getD i false
   ·rw [if_pos rfl]
    rw [hbt] at cm
    clear hbt kp
    go_enter Tryz.func72,Tryz.ntmps72
    go_wp2_with fail
    refine ks.mono ?_
    rintro e w0 ⟨rfl,hw0⟩
    have hw0':=hw0.symm
    subst hw0'
    clear hw0 ks
    go_wp2
    go_ret
    exact⟨rfl,H.out.mono (fun _ h=> .inl h),Keeps.refl _ _⟩
   ·rw [if_neg (by decide)]
    rw [hbt] at cm
    obtain⟨Q,hQ⟩:∃Q,Q=M.puts 0:=⟨_,rfl⟩
    rw [←hQ] at kp HPn⊢
    clear hQ
    by_cases hq0:Q.1=0
    ·rw [if_neg (fun e=>e hq0)]
     rw [hq0] at kp
     go_enter Tryz.func72,Tryz.ntmps72
     go_wp2_with fail
     refine ks.mono ?_
     rintro e w0 ⟨rfl,hw0⟩
     have hw0':=hw0.symm
     subst hw0'
     clear hw0 ks
     go_wp2_with fail
     refine kp.mono ?_
     rintro e w1 ⟨rfl,hm1,hk1⟩
     obtain⟨g,cg,x1,x2,x3,x4,x5,x6⟩:=hm1.setBit0 hi4 false
     rw [HPn.out.1,hbt] at x3
     rw [HPn.out.1] at x5
     have hcm2:cg≤9223372036854775807:=by
      obtain⟨gq1,cq1,gq2,cq2,gq3,cq3,gq4,cq4,v5',v6',v7',hma⟩:=hm1
      have h9:w1.cell? ⟨k,5,none⟩=some (slB gq3 cq3):=cell_of_block hma.b (j:=5) rfl
      rw [x1] at h9
      injection h9 with h8
      injection h8 with h7 h6 h5
      have:=hma.nb.2.1.max
      unfold maxLen at this
      omega
     have HE:Hid (MX (w1.setCell ⟨g,i,none⟩ (.bool false)) (fun j=>X j∨(w.heap.size≤j∧j<(w1.setCell ⟨g,i,none⟩ (.bool false)).heap.size)) k {Q.2 with nb:=M.nb.set i false}∧Keeps X w (w1.setCell ⟨g,i,none⟩ (.bool false))):=by
      have z2:=hk1.size
      have z3:=x6.size
      refine⟨x5.mono (fun j hj=>hj.imp (fun e=>e) (fun e=>⟨e.1,by have:=e.2;omega⟩)),hk1.trans x6 (fun j hj=>hj.imp (fun e=>e) (fun e=>e.1))⟩
     clear kp hm1 hk1 x5 x6 hbt cm e5 e6
     go_wp2
     go_ret
     exact⟨rfl,HE.out⟩
    ·rw [if_pos hq0]
     obtain⟨r,hrr⟩:∃r,r=Q.1:=⟨_,rfl⟩
     rw [←hrr] at kp hq0
     have HRR:=Hid.mk hrr
     clear hrr hbt
     go_enter Tryz.func72,Tryz.ntmps72
     go_wp2_with fail
     refine ks.mono ?_
     rintro e w0 ⟨rfl,hw0⟩
     have hw0':=hw0.symm
     subst hw0'
     clear hw0 ks
     go_wp2_with fail
     refine kp.mono ?_
     rintro e w1 ⟨rfl,hm1,hk1⟩
     have HE:Hid (MX w1 (fun j=>X j∨(w.heap.size≤j∧j<w1.heap.size)) k Q.2∧Keeps X w w1):=⟨hm1,hk1⟩
     clear kp hm1 hk1
     go_wp2
     go_ret
     exact⟨by rw [HRR.out];rfl,HE.out⟩
 ·have hc:M.drop0 x=(M.state,M):=by unfold MP.drop0;rw [if_pos h0]
  rw [hc]
  have H:=Hid.mk h
  clear h hc
  generalize M.state=y at*
  go_enter Tryz.func72,Tryz.ntmps72
  go_wp2_with fail
  refine ks.mono ?_
  rintro e w0 ⟨rfl,hw0⟩
  have hw0':=hw0.symm
  subst hw0'
  clear hw0 ks
  go_wp2
  go_ret
  exact⟨rfl,H.out.mono (fun _ h=> .inl h),Keeps.refl _ _⟩
set_option maxRecDepth 20000 in
set_option maxHeartbeats 8000000 in
theorem mdrop1_any (h:MX w X k M) (hp:M.put.length≤16) (_hD:2+M.nodes / 4≤M.blocks) (_hB:M.blocks≤4096) (hN:M.nodes≤4096) (x:Int):
  Calls Tryz.prog 76 #[.pointer (some ⟨k,0,none⟩), .int .i64 x] w fun e w'=>MO w w' X w.heap.size k (M.drop1 x) e:=by
 have ks:=mstate_any h
 by_cases h0:M.state=0
 ·have hc:M.drop1 x=if x<1∨(M.nodes:Int)<x then (11,M) else if M.nn.getD (x-1).toNat false=false then (62,M) else if (M.puts 1).1≠0 then M.puts 1 else (0,{(M.puts 1).2 with nn:=M.nn.set (x-1).toNat false}):=by unfold MP.drop1;rw [if_neg (fun e=>e h0)]
  rw [h0] at ks
  rw [hc]
  clear hc h0
  obtain⟨D,hDD⟩:∃D,D=2+M.nodes / 4:=⟨_,rfl⟩
  obtain⟨g1,c1,g2,c2,g3,c3,g4,c4,v5,v6,v7,hm⟩:=id h
  have e0:w.cell? ⟨k,0,none⟩=some (.int .i64 (M.blocks:Int)):=cell_of_block hm.b (j:=0) rfl
  have e1:w.cell? ⟨k,1,none⟩=some (.int .i64 (M.nodes:Int)):=cell_of_block hm.b (j:=1) rfl
  have e2:w.cell? ⟨k,2,none⟩=some (.int .i64 (D:Int)):=by rw [hDD];exact cell_of_block hm.b (j:=2) rfl
  have H:=Hid.mk h
  by_cases hr:x<1∨(M.nodes:Int)<x
  ·rw [if_pos hr]
   clear hm
   clear hDD
   by_cases hr1:x<1
   ·clear hr
    go_enter Tryz.func76,Tryz.ntmps76
    go_wp2_with fail
    refine ks.mono ?_
    rintro e w0 ⟨rfl,hw0⟩
    have hw0':=hw0.symm
    subst hw0'
    clear hw0 ks
    go_wp2
    go_ret
    exact⟨rfl,H.out.mono (fun _ h=> .inl h),Keeps.refl _ _⟩
   ·have hr2:=hr.resolve_left hr1
    clear hr
    go_enter Tryz.func76,Tryz.ntmps76
    go_wp2_with fail
    refine ks.mono ?_
    rintro e w0 ⟨rfl,hw0⟩
    have hw0':=hw0.symm
    subst hw0'
    clear hw0 ks
    go_wp2
    go_ret
    exact⟨rfl,H.out.mono (fun _ h=> .inl h),Keeps.refl _ _⟩
  ·rw [if_neg hr]
   obtain⟨i,hi⟩:∃i:Nat,(x-1)=(i:Int):=⟨(x-1).toNat,by omega⟩
   rw [hi,Int.toNat_natCast]
   obtain⟨xx,hxx⟩:∃xx:Nat,x=(xx:Int):=⟨x.toNat,by omega⟩
   subst hxx
   have hi4:i<4096:=by omega
   have hlo:¬(xx:Int)<1:=by omega
   have hhi:¬(M.nodes:Int)<(xx:Int):=by omega
   have hi1:(0:Int)≤(i:Int):=by omega
   have hi2:(i:Int)<4096:=by omega
   have e5:w.cell? ⟨k,5,none⟩=some (slB g3 c3):=cell_of_block hm.b (j:=5) rfl
   have e6:w.cell? ⟨k,6,none⟩=some (slB g4 c4):=cell_of_block hm.b (j:=6) rfl
   have cm:=hm.nn.2.1.truth (i:=i) (by rw [hm.nn.2.2];exact hi4)
   have hc1:4096≤c4:=by have:=hm.nn.2.1.le;have:=hm.nn.2.2;simp [bls] at*;omega
   have hcm:c4≤9223372036854775807:=by have:=hm.nn.2.1.max;unfold maxLen at this;omega
   have kp:=puts_any h 1 hp
   have HPn:=Hid.mk (puts_nb M 1)
   clear hm h hr hDD
   skip
   cases hbt:M.nn.getD i false
   ·rw [if_pos rfl]
    rw [hbt] at cm
    clear hbt kp
    go_enter Tryz.func76,Tryz.ntmps76
    go_wp2_with fail
    refine ks.mono ?_
    rintro e w0 ⟨rfl,hw0⟩
    have hw0':=hw0.symm
    subst hw0'
    clear hw0 ks
    go_wp2
    go_ret
    exact⟨rfl,H.out.mono (fun _ h=> .inl h),Keeps.refl _ _⟩
   ·rw [if_neg (by decide)]
    rw [hbt] at cm
    obtain⟨Q,hQ⟩:∃Q,Q=M.puts 1:=⟨_,rfl⟩
    rw [←hQ] at kp HPn⊢
    clear hQ
    by_cases hq0:Q.1=0
    ·rw [if_neg (fun e=>e hq0)]
     rw [hq0] at kp
     go_enter Tryz.func76,Tryz.ntmps76
     go_wp2_with fail
     refine ks.mono ?_
     rintro e w0 ⟨rfl,hw0⟩
     have hw0':=hw0.symm
     subst hw0'
     clear hw0 ks
     go_wp2_with fail
     refine kp.mono ?_
     rintro e w1 ⟨rfl,hm1,hk1⟩
     obtain⟨g,cg,x1,x2,x3,x4,x5,x6⟩:=hm1.setBit1 hi4 false
     rw [HPn.out.2,hbt] at x3
     rw [HPn.out.2] at x5
     have hcm2:cg≤9223372036854775807:=by
      obtain⟨gq1,cq1,gq2,cq2,gq3,cq3,gq4,cq4,v5',v6',v7',hma⟩:=hm1
      have h9:w1.cell? ⟨k,6,none⟩=some (slB gq4 cq4):=cell_of_block hma.b (j:=6) rfl
      rw [x1] at h9
      injection h9 with h8
      injection h8 with h7 h6 h5
      have:=hma.nn.2.1.max
      unfold maxLen at this
      omega
     have HE:Hid (MX (w1.setCell ⟨g,i,none⟩ (.bool false)) (fun j=>X j∨(w.heap.size≤j∧j<(w1.setCell ⟨g,i,none⟩ (.bool false)).heap.size)) k {Q.2 with nn:=M.nn.set i false}∧Keeps X w (w1.setCell ⟨g,i,none⟩ (.bool false))):=by
      have z2:=hk1.size
      have z3:=x6.size
      refine⟨x5.mono (fun j hj=>hj.imp (fun e=>e) (fun e=>⟨e.1,by have:=e.2;omega⟩)),hk1.trans x6 (fun j hj=>hj.imp (fun e=>e) (fun e=>e.1))⟩
     clear kp hm1 hk1 x5 x6 hbt cm e5 e6
     go_wp2
     go_ret
     exact⟨rfl,HE.out⟩
    ·rw [if_pos hq0]
     obtain⟨r,hrr⟩:∃r,r=Q.1:=⟨_,rfl⟩
     rw [←hrr] at kp hq0
     have HRR:=Hid.mk hrr
     clear hrr hbt
     go_enter Tryz.func76,Tryz.ntmps76
     go_wp2_with fail
     refine ks.mono ?_
     rintro e w0 ⟨rfl,hw0⟩
     have hw0':=hw0.symm
     subst hw0'
     clear hw0 ks
     go_wp2_with fail
     refine kp.mono ?_
     rintro e w1 ⟨rfl,hm1,hk1⟩
     have HE:Hid (MX w1 (fun j=>X j∨(w.heap.size≤j∧j<w1.heap.size)) k Q.2∧Keeps X w w1):=⟨hm1,hk1⟩
     clear kp hm1 hk1
     go_wp2
     go_ret
     exact⟨by rw [HRR.out];rfl,HE.out⟩
 ·have hc:M.drop1 x=(M.state,M):=by unfold MP.drop1;rw [if_pos h0]
  rw [hc]
  have H:=Hid.mk h
  clear h hc
  generalize M.state=y at*
  go_enter Tryz.func76,Tryz.ntmps76
  go_wp2_with fail
  refine ks.mono ?_
  rintro e w0 ⟨rfl,hw0⟩
  have hw0':=hw0.symm
  subst hw0'
  clear hw0 ks
  go_wp2
  go_ret
  exact⟨rfl,H.out.mono (fun _ h=> .inl h),Keeps.refl _ _⟩
end
end Go.Proofs.YtkiehemoiapkkaaGreat
end
