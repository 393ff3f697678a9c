import Derived.Test.YtkiehemoiapkkaaGreatW10
import Derived.Test.YtkiehemoiapkkaaGreatW11
import Derived.Test.YtkiehemoiapkkaaGreatW13
import Derived.Test.YtkiehemoiapkkaaGreatW17
section
namespace Go.Proofs.YtkiehemoiapkkaaGreat
open Go.RowKit Go.Maps
section
variable {w:World} {F:Nat→Prop} {p s c:Nat} {S:DS}
theorem dread_row (h:B.DiskR w F p s S c) (k:Nat) (hk:k<s) (hbig:S.puts.length+1≤4000000000000) (hf:S.fuse≠0):
  Calls Tryz.prog 102 #[.pointer (some ⟨p,0,none⟩), .int .i64 (k:Int)] w fun e w'=>∃g cp,e= .returned (.tuple #[.slice (some ⟨g,0,none⟩) 512 cp, .int .i64 0])∧w.heap.size≤g∧RowAt w' 5 g cp (bs (S.now k))∧B.DiskR w' F p s S (c+1)∧Keeps F w w':=by
 obtain⟨r,h,hr⟩:=h
 refine(read_ok h k hf hk (by show S.puts.length≤_;omega)).mono ?_
 rintro e w' ⟨g,cp,rfl,hg,hrow,h3,h4⟩
 exact⟨g,cp,rfl,hg,hrow,⟨_,h3,hr.read⟩,h4⟩
end
def SupAt (l:List Int) (s:Nat):Prop:=SuperOk l∧u32 l 8=s
def lyOf (l:List Int):LY:=⟨u32 l 12,3+u32 l 12,u32 l 8-(3+u32 l 12),u32 l 16,2+u32 l 16 / 4⟩
abbrev ly0:LY:=⟨0,0,0,0,0⟩
def LayOut (S:DS) (s:Nat) (y:LY) (x:Int):Prop:=
   (S.fuse=0∧y=ly0∧x=3)∨(S.fuse≠0∧SupAt (S.now 0) s∧y=lyOf (S.now 0)∧x=0)∨(S.fuse≠0∧¬SupAt (S.now 0) s∧y=ly0∧x=6)
theorem SuperOk.geo {l:List Int} (h:SuperOk l):Geo (u32 l 8) (u32 l 12) (u32 l 16):=by
 simpa only [u32,part_take (show 8+4≤508 by omega),part_take (show 12+4≤508 by omega),part_take (show 16+4≤508 by omega)] using h.2.geo
theorem lyOf_v (l:List Int) {s:Nat} (hs:u32 l 8=s) (h3:((u32 l 12:Nat):Int)+((u32 l 16:Nat):Int) / 4+6≤(s:Int)):
  Ending.returned (.tuple #[.agg #[.int .i64 ((u32 l 12:Nat):Int), .int .i64 (3+((u32 l 12:Nat):Int)), .int .i64 ((s:Int)-(3+((u32 l 12:Nat):Int))), .int .i64 ((u32 l 16:Nat):Int), .int .i64 (2+((u32 l 16:Nat):Int) / 4)], .int .i64 0])=Ending.returned (.tuple #[lyV (lyOf l), .int .i64 0]):=by
 unfold lyOf lyV
 generalize u32 l 12=y at*
 generalize u32 l 16=z at*
 rw [hs]
 have e1:((3+y:Nat):Int)=3+(y:Int):=by omega
 have e2:((s-(3+y):Nat):Int)=(s:Int)-(3+(y:Int)):=by omega
 have e3:((2+z / 4:Nat):Int)=2+(z:Int) / 4:=by omega
 simp only [e1,e2,e3]
theorem set5l {W:World} {g:Nat} {a0 a1 a2 a3 a4:Value} {t:TypeId} (h:W.heap[g]? =some (.cells #[a0,a1,a2,a3,a4] t (0,0))) (v0 v1 v2 v3 v4:Value):
    (((((W.setCell ⟨g,0,none⟩ v0).setCell ⟨g,1,none⟩ v1).setCell ⟨g,2,none⟩ v2).setCell ⟨g,3,none⟩ v3).setCell ⟨g,4,none⟩ v4).heap[g]? =some (.cells #[v0,v1,v2,v3,v4] t (0,0))∧Keeps (fun k=>k=g) W (((((W.setCell ⟨g,0,none⟩ v0).setCell ⟨g,1,none⟩ v1).setCell ⟨g,2,none⟩ v2).setCell ⟨g,3,none⟩ v3).setCell ⟨g,4,none⟩ v4):=by
 refine⟨set5 v0 v1 v2 v3 v4 h,?_⟩
 have k1:=fun (w:World) (i:Nat) (v:Value)=>Keeps.setCell (F:=fun k=>k=g) w (p:=⟨g,i,none⟩) rfl v
 exact((((k1 _ 0 v0).trans (k1 _ 1 v1) (fun _ h=> .inl h)).trans (k1 _ 2 v2) (fun _ h=> .inl h)).trans (k1 _ 3 v3) (fun _ h=> .inl h)).trans (k1 _ 4 v4) (fun _ h=> .inl h)
set_option maxRecDepth 20000 in
set_option maxHeartbeats 8000000 in
theorem layoutOf_any {w:World} {F:Nat→Prop} {p s c:Nat} {S:DS} (h:B.DiskR w F p s S c) (hby:S.Byt) (hbig:S.puts.length+1≤4000000000000):
  Calls Tryz.prog 52 #[.pointer (some ⟨p,0,none⟩)] w fun e w'=>∃y x,e= .returned (.tuple #[lyV y, .int .i64 x])∧LayOut S s y x∧B.DiskR w' F p s S (c+1)∧Keeps F w w':=by
 obtain⟨w0,hw0⟩:∃w0,w0=w.alloc (.cells #[.int .i64 0, .int .i64 0, .int .i64 0, .int .i64 0, .int .i64 0] 87):=⟨_,rfl⟩
 have hb0:Below w.heap.size w w0:=by rw [hw0];exact below_box _ _
 have hbox:w0.heap[w.heap.size]? =some (.cells #[.int .i64 0, .int .i64 0, .int .i64 0, .int .i64 0, .int .i64 0] 87 (0,0)):=by rw [hw0];exact heap_alloc_new _ _
 have hd0:=h.later hb0
 have hlt:=h.lt
 go_enter Tryz.func52,Tryz.ntmps52
 go_wp2_with fail
 by_cases hf:S.fuse=0
 ·have h1:=B.dread_dead hd0 0 hf
  have HD:=(And.intro hd0 (And.intro hb0 hbox))
  subst hw0
  clear h hd0 hb0 hbox
  refine h1.mono ?_
  rintro e w1 ⟨rfl,hw1⟩
  subst hw1
  clear h1
  go_wp2
  exact bodyPost_ret (v:= .tuple #[lyV ly0, .int .i64 3]) (by simp [results,Tryz.results52,go_sem]) rfl ⟨ly0,3,rfl, .inl ⟨hf,rfl,rfl⟩,HD.1.le (by omega),Keeps.of_below F HD.2.1⟩
 ·have hok:=h.ok
  have h1:=dread_row hd0 0 (by have:=hok.lo;omega) hbig hf
  have hl:=now_len hok 0 (by have:=hok.lo;omega)
  have hbyt:=hby.now 0
  have HD:=(And.intro hb0 hbox)
  have hz0:w0.heap.size=w.heap.size+1:=by rw [hw0,World.size_alloc]
  have HZ:=hz0
  rw [hw0] at HD HZ h1
  clear h hd0 hb0 hbox hw0 hz0 w0
  refine h1.mono ?_
  rintro e w1 ⟨g,cp,rfl,hg,hrow,hd1,hk1⟩
  clear h1
  have hbx1:=(hk1.block w.heap.size (by rw [HZ];omega) (fun hF=>by have:=hlt _ hF;omega)).trans HD.2
  have hcp:=hrow.le
  have hcm:=hrow.max
  have hsr:∀i,i<512→w1.cell? ⟨g,0+i,none⟩=some (.int .u8 ((S.now 0).getD i 0)):=fun i hi=>by
   have:=hrow.byte (i:=i) (by omega)
   rwa [addr_add] at this
  have hcp2:512≤cp:=by rw [←hl];simpa [bs] using hcp
  have hcm2:cp≤9223372036854775807:=by unfold maxLen at hcm;omega
  have hks:=(Keeps.of_below F HD.1).trans hk1 (fun _ h=> .inl h)
  have hw1:=hk1.size
  rw [HZ] at hw1
  by_cases ho:SuperOk (S.now 0)
  ·have h2:=decsuper_ok g 0 cp (S.now 0) w1 hl hcp2 hcm2 hbyt hsr ho
   have HG:=ho.geo
   have HK:=(And.intro hd1 (And.intro hks (And.intro hbx1 ho)))
   clear hrow hd1 hk1 hsr hbx1 hks hcp hcm ho
   go_wp2_with fail
   refine h2.mono ?_
   rintro e w2 ⟨rfl,hb2⟩
   clear h2
   have hz2:=hb2.size
   obtain⟨w3,hw3⟩:∃w3,w3=w2.alloc (.cells #[.int .i64 ((u32 (S.now 0) 8:Nat):Int), .int .i64 ((u32 (S.now 0) 12:Nat):Int), .int .i64 ((u32 (S.now 0) 16:Nat):Int)] 31):=⟨_,rfl⟩
   have hbx3:w3.heap[w2.heap.size]? =some (.cells #[.int .i64 ((u32 (S.now 0) 8:Nat):Int), .int .i64 ((u32 (S.now 0) 12:Nat):Int), .int .i64 ((u32 (S.now 0) 16:Nat):Int)] 31 (0,0)):=by rw [hw3];exact heap_alloc_new _ _
   have hb3:Below w1.heap.size w1 w3:=by rw [hw3];exact hb2.alloc hz2 _
   have hz3:w3.heap.size=w2.heap.size+1:=by rw [hw3,World.size_alloc]
   go_wp2_with fail
   rw [←hw3]
   clear hw3 hb2
   have hd3:=HK.1.later hb3
   have hbr3:=(hb3.block w.heap.size (by omega)).trans HK.2.2.1
   have hks3:=HK.2.1.trans (Keeps.of_below (fun _=>False) hb3) (fun _ h=>h.elim)
   have c0:=cell_of_block hbx3 (j:=0) rfl
   have hsec:=fun k=>B.dsectors (hd3.later (below_drewN (Below.refl _ _) k))
   have HW:=(And.intro hd3 (And.intro hks3 (And.intro hbr3 hbx3)))
   clear hd3 hks3 hbr3 hbx3 hb3
   by_cases hxs:u32 (S.now 0) 8=s
   ·have hxs':(((u32 (S.now 0) 8:Nat):Int) == ((s:Nat):Int))=true:=by rw [hxs];simp
    go_quiet (first|(go_at_call 46;refine Calls.quiet_of_same (hsec _)))
    have hq:∀k,Below w3.heap.size w3 (w3.drewN k):=fun k=>below_drewN (Below.refl _ _) k
    have HW2:=(fun k=>And.intro (HW.1.later (hq k)) (And.intro (HW.2.1.trans (Keeps.of_below (fun _=>False) (hq k)) (fun _ h=>h.elim)) (And.intro (((hq k).block w.heap.size (by omega)).trans HW.2.2.1) (((hq k).block w2.heap.size (by omega)).trans HW.2.2.2))))
    clear HW c0 hsec hq
    rename_i nq _
    have HW:=(HW2 nq)
    have hzW:(w3.drewN nq).heap.size=w3.heap.size:=rfl
    clear HW2
    generalize w3.drewN nq=W at*
    have r0:=cell_of_block HW.2.2.1 (j:=0) rfl
    have r1:=cell_of_block HW.2.2.1 (j:=1) rfl
    have r2:=cell_of_block HW.2.2.1 (j:=2) rfl
    have r3:=cell_of_block HW.2.2.1 (j:=3) rfl
    have r4:=cell_of_block HW.2.2.1 (j:=4) rfl
    have g0:=frozen_of_block HW.2.2.1 0
    have g1:=frozen_of_block HW.2.2.1 1
    have g2:=frozen_of_block HW.2.2.1 2
    have g3:=frozen_of_block HW.2.2.1 3
    have g4:=frozen_of_block HW.2.2.1 4
    have s0:=cell_of_block HW.2.2.2 (j:=0) rfl
    have s1:=cell_of_block HW.2.2.2 (j:=1) rfl
    have s2:=cell_of_block HW.2.2.2 (j:=2) rfl
    have hpl:=plan_good (s:Int) ((u32 (S.now 0) 12:Nat):Int) ((u32 (S.now 0) 16:Nat):Int) W (by have:=HG;rw [hxs] at this;exact this.1.1) (by have:=HG;rw [hxs] at this;exact this.1.2) (by have:=HG;rw [hxs] at this;exact this.2.1.1) (by have:=HG;rw [hxs] at this;exact this.2.1.2) (by have:=HG;rw [hxs] at this;exact this.2.2.1) (by have:=HG;rw [hxs] at this;exact this.2.2.2.1) (by have:=HG;rw [hxs] at this;exact this.2.2.2.2)
    go_wp2_with fail
    refine hpl.mono ?_
    rintro e W3 ⟨rfl,hbX⟩
    clear hpl r0 r1 r2 r3 r4 g0 g1 g2 g3 g4 s0 s1 s2
    have hbrX:=(hbX.block w.heap.size (by omega)).trans HW.2.2.1
    have HX:=(And.intro (HW.1.later hbX) (HW.2.1.trans (Keeps.of_below (fun _=>False) hbX) (fun _ h=>h.elim)))
    have r0:=cell_of_block hbrX (j:=0) rfl
    have r1:=cell_of_block hbrX (j:=1) rfl
    have r2:=cell_of_block hbrX (j:=2) rfl
    have r3:=cell_of_block hbrX (j:=3) rfl
    have r4:=cell_of_block hbrX (j:=4) rfl
    have g0:=frozen_of_block hbrX 0
    have g1:=frozen_of_block hbrX 1
    have g2:=frozen_of_block hbrX 2
    have g3:=frozen_of_block hbrX 3
    have g4:=frozen_of_block hbrX 4
    have hly:Ending.returned (.tuple #[.agg #[(.int .i64 ((u32 (S.now 0) 12:Nat):Int)),(.int .i64 (3+((u32 (S.now 0) 12:Nat):Int))),(.int .i64 ((s:Int)-(3+((u32 (S.now 0) 12:Nat):Int)))),(.int .i64 ((u32 (S.now 0) 16:Nat):Int)),(.int .i64 (2+((u32 (S.now 0) 16:Nat):Int) / 4))], .int .i64 0])=Ending.returned (.tuple #[lyV (lyOf (S.now 0)), .int .i64 0]):=by
     have h3:=HG.2.2.2.1
     rw [hxs] at h3
     exact lyOf_v (S.now 0) hxs h3
    go_wp2
    obtain⟨hbf,hkf⟩:=set5l hbrX (.int .i64 ((u32 (S.now 0) 12:Nat):Int)) (.int .i64 (3+((u32 (S.now 0) 12:Nat):Int))) (.int .i64 ((s:Int)-(3+((u32 (S.now 0) 12:Nat):Int)))) (.int .i64 ((u32 (S.now 0) 16:Nat):Int)) (.int .i64 (2+((u32 (S.now 0) 16:Nat):Int) / 4))
    generalize ((((W3.setCell ⟨w.heap.size,0,none⟩ (.int .i64 ((u32 (S.now 0) 12:Nat):Int))).setCell ⟨w.heap.size,1,none⟩ (.int .i64 (3+((u32 (S.now 0) 12:Nat):Int)))).setCell ⟨w.heap.size,2,none⟩ (.int .i64 ((s:Int)-(3+((u32 (S.now 0) 12:Nat):Int))))).setCell ⟨w.heap.size,3,none⟩ (.int .i64 ((u32 (S.now 0) 16:Nat):Int))).setCell ⟨w.heap.size,4,none⟩ (.int .i64 (2+((u32 (S.now 0) 16:Nat):Int) / 4))=WW at*
    have q0:=cell_of_block hbf (j:=0) (u:=(.int .i64 ((u32 (S.now 0) 12:Nat):Int))) rfl
    have q1:=cell_of_block hbf (j:=1) (u:=(.int .i64 (3+((u32 (S.now 0) 12:Nat):Int)))) rfl
    have q2:=cell_of_block hbf (j:=2) (u:=(.int .i64 ((s:Int)-(3+((u32 (S.now 0) 12:Nat):Int))))) rfl
    have q3:=cell_of_block hbf (j:=3) (u:=(.int .i64 ((u32 (S.now 0) 16:Nat):Int))) rfl
    have q4:=cell_of_block hbf (j:=4) (u:=(.int .i64 (2+((u32 (S.now 0) 16:Nat):Int) / 4))) rfl
    exact bodyPost_ret (v:= .tuple #[.agg #[(.int .i64 ((u32 (S.now 0) 12:Nat):Int)),(.int .i64 (3+((u32 (S.now 0) 12:Nat):Int))),(.int .i64 ((s:Int)-(3+((u32 (S.now 0) 12:Nat):Int)))),(.int .i64 ((u32 (S.now 0) 16:Nat):Int)),(.int .i64 (2+((u32 (S.now 0) 16:Nat):Int) / 4))], .int .i64 0]) (by simp [results,Tryz.results52,go_sem,q0,q1,q2,q3,q4]) rfl ⟨(lyOf (S.now 0)),0,hly, .inr (.inl ⟨hf,⟨HK.2.2.2,hxs⟩,rfl,rfl⟩),HX.1.keep hkf (fun k hF e=>by subst e;have:=hlt _ hF;omega),HX.2.trans hkf (fun k e=> .inr (by omega))⟩
   ·have hxs':(((u32 (S.now 0) 8:Nat):Int) == ((s:Nat):Int))=false:=by rw [beq_eq_false_iff_ne];omega
    go_quiet (first|(go_at_call 46;refine Calls.quiet_of_same (hsec _)))
    have hq:∀k,Below w3.heap.size w3 (w3.drewN k):=fun k=>below_drewN (Below.refl _ _) k
    have HW2:=(fun k=>And.intro (HW.1.later (hq k)) (And.intro (HW.2.1.trans (Keeps.of_below (fun _=>False) (hq k)) (fun _ h=>h.elim)) (And.intro (((hq k).block w.heap.size (by omega)).trans HW.2.2.1) (((hq k).block w2.heap.size (by omega)).trans HW.2.2.2))))
    clear HW c0 hsec hq
    rename_i nq _
    have HW:=(HW2 nq)
    have hzW:(w3.drewN nq).heap.size=w3.heap.size:=rfl
    clear HW2
    generalize w3.drewN nq=W at*
    have r0:=cell_of_block HW.2.2.1 (j:=0) rfl
    have r1:=cell_of_block HW.2.2.1 (j:=1) rfl
    have r2:=cell_of_block HW.2.2.1 (j:=2) rfl
    have r3:=cell_of_block HW.2.2.1 (j:=3) rfl
    have r4:=cell_of_block HW.2.2.1 (j:=4) rfl
    have g0:=frozen_of_block HW.2.2.1 0
    have g1:=frozen_of_block HW.2.2.1 1
    have g2:=frozen_of_block HW.2.2.1 2
    have g3:=frozen_of_block HW.2.2.1 3
    have g4:=frozen_of_block HW.2.2.1 4
    have hxs2:(((u32 (S.now 0) 8:Nat):Int) != ((s:Nat):Int))=true:=by simp [bne,hxs']
    go_wp2
    obtain⟨hbf,hkf⟩:=set5l HW.2.2.1 (.int .i64 0) (.int .i64 0) (.int .i64 0) (.int .i64 0) (.int .i64 0)
    generalize ((((W.setCell ⟨w.heap.size,0,none⟩ (.int .i64 0)).setCell ⟨w.heap.size,1,none⟩ (.int .i64 0)).setCell ⟨w.heap.size,2,none⟩ (.int .i64 0)).setCell ⟨w.heap.size,3,none⟩ (.int .i64 0)).setCell ⟨w.heap.size,4,none⟩ (.int .i64 0)=WW at*
    have q0:=cell_of_block hbf (j:=0) (u:=(.int .i64 0)) rfl
    have q1:=cell_of_block hbf (j:=1) (u:=(.int .i64 0)) rfl
    have q2:=cell_of_block hbf (j:=2) (u:=(.int .i64 0)) rfl
    have q3:=cell_of_block hbf (j:=3) (u:=(.int .i64 0)) rfl
    have q4:=cell_of_block hbf (j:=4) (u:=(.int .i64 0)) rfl
    exact bodyPost_ret (v:= .tuple #[.agg #[(.int .i64 0),(.int .i64 0),(.int .i64 0),(.int .i64 0),(.int .i64 0)], .int .i64 6]) (by simp [results,Tryz.results52,go_sem,q0,q1,q2,q3,q4]) rfl ⟨ly0,6,rfl, .inr (.inr ⟨hf,fun h=>hxs h.2,rfl,rfl⟩),HW.1.keep hkf (fun k hF e=>by subst e;have:=hlt _ hF;omega),HW.2.1.trans hkf (fun k e=> .inr (by omega))⟩
  ·have h2:=decsuper_no g 0 cp (S.now 0) w1 hl hcp2 hcm2 hbyt hsr ho
   have HK:=(And.intro hd1 (And.intro hks (And.intro hbx1 ho)))
   clear hrow hd1 hk1 hsr hbx1 hks hcp hcm ho
   go_wp2_with fail
   refine h2.mono ?_
   rintro e w2 ⟨rfl,hb2⟩
   clear h2
   have hz2:=hb2.size
   obtain⟨w3,hw3⟩:∃w3,w3=w2.alloc (.cells #[.int .i64 0, .int .i64 0, .int .i64 0] 31):=⟨_,rfl⟩
   have hbx3:w3.heap[w2.heap.size]? =some (.cells #[.int .i64 0, .int .i64 0, .int .i64 0] 31 (0,0)):=by rw [hw3];exact heap_alloc_new _ _
   have hb3:Below w1.heap.size w1 w3:=by rw [hw3];exact hb2.alloc hz2 _
   have hz3:w3.heap.size=w2.heap.size+1:=by rw [hw3,World.size_alloc]
   go_wp2_with fail
   rw [←hw3]
   clear hw3 hb2
   have hd3:=HK.1.later hb3
   have hbr3:=(hb3.block w.heap.size (by omega)).trans HK.2.2.1
   have hks3:=HK.2.1.trans (Keeps.of_below (fun _=>False) hb3) (fun _ h=>h.elim)
   have HW:=(And.intro hd3 (And.intro hks3 (And.intro hbr3 hbx3)))
   clear hd3 hks3 hbr3 hbx3 hb3
   go_quiet (fail)
   have hq:∀k,Below w3.heap.size w3 (w3.drewN k):=fun k=>below_drewN (Below.refl _ _) k
   have HW2:=(fun k=>And.intro (HW.1.later (hq k)) (And.intro (HW.2.1.trans (Keeps.of_below (fun _=>False) (hq k)) (fun _ h=>h.elim)) (And.intro (((hq k).block w.heap.size (by omega)).trans HW.2.2.1) (((hq k).block w2.heap.size (by omega)).trans HW.2.2.2))))
   clear HW hq
   rename_i nq _
   have HW:=(HW2 nq)
   have hzW:(w3.drewN nq).heap.size=w3.heap.size:=rfl
   clear HW2
   generalize w3.drewN nq=W at*
   have r0:=cell_of_block HW.2.2.1 (j:=0) rfl
   have r1:=cell_of_block HW.2.2.1 (j:=1) rfl
   have r2:=cell_of_block HW.2.2.1 (j:=2) rfl
   have r3:=cell_of_block HW.2.2.1 (j:=3) rfl
   have r4:=cell_of_block HW.2.2.1 (j:=4) rfl
   have g0:=frozen_of_block HW.2.2.1 0
   have g1:=frozen_of_block HW.2.2.1 1
   have g2:=frozen_of_block HW.2.2.1 2
   have g3:=frozen_of_block HW.2.2.1 3
   have g4:=frozen_of_block HW.2.2.1 4
   go_wp2
   obtain⟨hbf,hkf⟩:=set5l HW.2.2.1 (.int .i64 0) (.int .i64 0) (.int .i64 0) (.int .i64 0) (.int .i64 0)
   generalize ((((W.setCell ⟨w.heap.size,0,none⟩ (.int .i64 0)).setCell ⟨w.heap.size,1,none⟩ (.int .i64 0)).setCell ⟨w.heap.size,2,none⟩ (.int .i64 0)).setCell ⟨w.heap.size,3,none⟩ (.int .i64 0)).setCell ⟨w.heap.size,4,none⟩ (.int .i64 0)=WW at*
   have q0:=cell_of_block hbf (j:=0) (u:=(.int .i64 0)) rfl
   have q1:=cell_of_block hbf (j:=1) (u:=(.int .i64 0)) rfl
   have q2:=cell_of_block hbf (j:=2) (u:=(.int .i64 0)) rfl
   have q3:=cell_of_block hbf (j:=3) (u:=(.int .i64 0)) rfl
   have q4:=cell_of_block hbf (j:=4) (u:=(.int .i64 0)) rfl
   exact bodyPost_ret (v:= .tuple #[.agg #[(.int .i64 0),(.int .i64 0),(.int .i64 0),(.int .i64 0),(.int .i64 0)], .int .i64 6]) (by simp [results,Tryz.results52,go_sem,q0,q1,q2,q3,q4]) rfl ⟨ly0,6,rfl, .inr (.inr ⟨hf,fun h=>HK.2.2.2 h.1,rfl,rfl⟩),HW.1.keep hkf (fun k hF e=>by subst e;have:=hlt _ hF;omega),HW.2.1.trans hkf (fun k e=> .inr (by omega))⟩
end Go.Proofs.YtkiehemoiapkkaaGreat
end
section
namespace Go.Proofs.YtkiehemoiapkkaaGreat
open Go.RowKit Go.Maps
def rdNums (blocks:Nat):Nat→Nat→List Int→Option (List Nat×List Int)
 |0,_,l=>some ([],l)
 |n+1,lo,l=>if l.length<4 then none else if lo≤le (l.take 4)∧le (l.take 4)<blocks then (rdNums blocks n (le (l.take 4)+1) (l.drop 4)).map (fun x=>(le (l.take 4) :: x.1,x.2)) else none
def rdCons:List Nat→List Int→Option (CM×List Int)
 | [],l=>some ([],l)
 |k :: ks,l=>if l.length<512 then none else (rdCons ks (l.drop 512)).map (fun x=>((k,l.take 512) :: x.1,x.2))
def rdTail:Option (CM×List Int)→Option CM
 |some (cs, [])=>some cs
 |_=>none
def rdRec (blocks:Nat) (d:List Int):Option CM:=
 if d.length<2 then none else if 1≤le (d.take 2)∧le (d.take 2)≤16 then
  match rdNums blocks (le (d.take 2)) 0 (d.drop 2) with
  |none=>none
  |some (ks,r)=>rdTail (rdCons ks r)
 else none
theorem rdNums_len {blocks:Nat}:∀{n lo:Nat} {l r:List Int} {ks:List Nat},rdNums blocks n lo l=some (ks,r)→ks.length=n∧∀k∈ks,k<blocks
 |0,lo,l,r,ks,h=>by
  simp only [rdNums,Option.some.injEq,Prod.mk.injEq] at h
  obtain⟨rfl,_⟩:=h
  simp
 |n+1,lo,l,r,ks,h=>by
  unfold rdNums at h
  split at h
  ·cases h
  ·split at h
   ·rename_i hb
    cases hr:rdNums blocks n (le (l.take 4)+1) (l.drop 4) with
    |none=>rw [hr] at h;cases h
    |some x=>
     rw [hr] at h
     simp only [Option.map_some,Option.some.injEq,Prod.mk.injEq] at h
     obtain⟨rfl,rfl⟩:=h
     obtain⟨h1,h2⟩:=rdNums_len (ks:=x.1) (r:=x.2) hr
     refine⟨by simp [h1],fun k hk=>?_⟩
     rcases List.mem_cons.1 hk with rfl|hk
     ·exact hb.2
     ·exact h2 k hk
   ·cases h
theorem smeas {S i k:Nat} (h:i<S) (hk:i<k):S-k<S-i:=by omega
theorem rdNums_succ (blocks n lo:Nat) (l:List Int):rdNums blocks (n+1) lo l=if l.length<4 then none else if lo≤le (l.take 4)∧le (l.take 4)<blocks then (rdNums blocks n (le (l.take 4)+1) (l.drop 4)).map (fun x=>(le (l.take 4) :: x.1,x.2)) else none:=rfl
theorem rdCons_cons (k:Nat) (ks:List Nat) (l:List Int):rdCons (k :: ks) l=if l.length<512 then none else (rdCons ks (l.drop 512)).map (fun x=>((k,l.take 512) :: x.1,x.2)):=rfl
theorem over_snoc (ms cs:CM) (k:Nat) (c:List Int):CM.over ms (cs ++ [(k,c)])=CM.put (CM.over ms cs) k c:=by
 unfold CM.over
 rw [List.foldl_append]
 rfl
def zipc:List Nat→List Int→CM
 | [],_=> []
 |k :: ks,r=>(k,r.take 512) :: zipc ks (r.drop 512)
theorem zipc_len:∀(ks:List Nat) (r:List Int),(zipc ks r).length=ks.length
 | [],_=>rfl
 |k :: ks,r=>by simp [zipc,zipc_len ks]
theorem rdCons_zip:∀(ks:List Nat) (r:List Int),512*ks.length≤r.length→rdCons ks r=some (zipc ks r,r.drop (512*ks.length))
 | [],r,_=>rfl
 |k :: ks,r,h=>by
  rw [List.length_cons] at h
  rw [rdCons_cons,if_neg (by omega),rdCons_zip ks (r.drop 512) (by rw [List.length_drop];omega),List.drop_drop,List.length_cons,show 512+512*ks.length=512*(ks.length+1) by omega]
  rfl
theorem rdCons_short:∀(ks:List Nat) (r:List Int),r.length<512*ks.length→rdCons ks r=none
 | [],r,h=>by simp at h
 |k :: ks,r,h=>by
  rw [List.length_cons] at h
  rw [rdCons_cons]
  split
  ·rfl
  ·rw [rdCons_short ks (r.drop 512) (by rw [List.length_drop];omega)];rfl
theorem rdTail_zip {ks:List Nat} {r:List Int} (h:r.length=512*ks.length):rdTail (rdCons ks r)=some (zipc ks r):=by
 rw [rdCons_zip ks r (by omega),List.drop_eq_nil_of_le (by omega)]
 rfl
theorem rdTail_no {ks:List Nat} {r:List Int} (h:r.length≠512*ks.length):rdTail (rdCons ks r)=none:=by
 by_cases h1:r.length<512*ks.length
 ·rw [rdCons_short ks r h1];rfl
 ·rw [rdCons_zip ks r (by omega)]
  have:0<(r.drop (512*ks.length)).length:=by rw [List.length_drop];omega
  cases hd:r.drop (512*ks.length) with
  |nil=>rw [hd] at this;simp at this
  |cons x xs=>rfl
theorem rdNums_rest {blocks:Nat}:∀{n lo:Nat} {l r:List Int} {ks:List Nat},rdNums blocks n lo l=some (ks,r)→4*n≤l.length∧r=l.drop (4*n)
 |0,lo,l,r,ks,h=>by
  simp only [rdNums,Option.some.injEq,Prod.mk.injEq] at h
  exact⟨by omega,by rw [←h.2];rfl⟩
 |n+1,lo,l,r,ks,h=>by
  rw [rdNums_succ] at h
  split at h
  ·cases h
  ·split at h
   ·cases hr:rdNums blocks n (le (l.take 4)+1) (l.drop 4) with
    |none=>rw [hr] at h;cases h
    |some x=>
     rw [hr] at h
     simp only [Option.map_some,Option.some.injEq,Prod.mk.injEq] at h
     obtain⟨rfl,rfl⟩:=h
     obtain⟨h1,h2⟩:=rdNums_rest (ks:=x.1) (r:=x.2) hr
     rw [List.length_drop] at h1
     refine⟨by omega,?_⟩
     rw [h2,List.drop_drop]
     congr 1
     omega
   ·cases h
def rdFrom (blocks:Nat) (d:List Int) (c:Nat) (ks:List Nat) (lo i:Nat):Option CM:=
 match rdNums blocks (c-i) lo (d.drop (2+4*i)) with
 |none=>none
 |some (js,r)=>rdTail (rdCons (ks ++ js) r)
theorem rdRec_no {blocks:Nat} {d:List Int} (h:d.length<2∨¬(1≤le (d.take 2)∧le (d.take 2)≤16)∨d.length≠2+516*le (d.take 2)):rdRec blocks d=none:=by
 unfold rdRec
 by_cases h1:d.length<2
 ·rw [if_pos h1]
 ·rw [if_neg h1]
  by_cases h2:1≤le (d.take 2)∧le (d.take 2)≤16
  ·rw [if_pos h2]
   cases hr:rdNums blocks (le (d.take 2)) 0 (d.drop 2) with
   |none=>rfl
   |some x=>
    obtain⟨ks,r⟩:=x
    obtain⟨e1,e2⟩:=rdNums_rest hr
    have e3:=(rdNums_len hr).1
    rw [List.length_drop] at e1
    show rdTail (rdCons ks r)=none
    refine rdTail_no ?_
    rw [e2,e3,List.length_drop,List.length_drop]
    omega
  ·rw [if_neg h2]
theorem rdRec_from {blocks:Nat} {d:List Int} (h0:¬d.length<2) (h1:1≤le (d.take 2)∧le (d.take 2)≤16):rdRec blocks d=rdFrom blocks d (le (d.take 2)) [] 0 0:=by
 unfold rdRec rdFrom
 rw [if_neg h0,if_pos h1]
 rfl
theorem rdFrom_end {blocks:Nat} {d:List Int} {c lo:Nat} {ks:List Nat} (hk:ks.length=c) (hd:d.length=2+516*c):rdFrom blocks d c ks lo c=some (zipc ks (d.drop (2+4*c))):=by
 unfold rdFrom
 rw [Nat.sub_self]
 show rdTail (rdCons (ks ++ []) (d.drop (2+4*c)))=_
 rw [List.append_nil]
 exact rdTail_zip (by rw [List.length_drop];omega)
theorem rdFrom_step {blocks:Nat} {d:List Int} {c lo i:Nat} {ks:List Nat} (hi:i<c) (hd:d.length=2+516*c):
  rdFrom blocks d c ks lo i=if lo≤le ((d.drop (2+4*i)).take 4)∧le ((d.drop (2+4*i)).take 4)<blocks then rdFrom blocks d c (ks ++ [le ((d.drop (2+4*i)).take 4)]) (le ((d.drop (2+4*i)).take 4)+1) (i+1) else none:=by
 unfold rdFrom
 rw [show c-i=(c-(i+1))+1 by omega,rdNums_succ,if_neg (by rw [List.length_drop];omega),List.drop_drop,show 2+4*i+4=2+4*(i+1) by omega]
 generalize le ((d.drop (2+4*i)).take 4)=K
 by_cases h:lo≤K∧K<blocks
 ·rw [if_pos h,if_pos h]
  cases rdNums blocks (c-(i+1)) (K+1) (d.drop (2+4*(i+1))) with
  |none=>rfl
  |some x=>
   show rdTail (rdCons (ks ++ K :: x.1) x.2)=rdTail (rdCons ((ks ++ [K]) ++ x.1) x.2)
   rw [List.append_assoc]
   rfl
 ·rw [if_neg h,if_neg h]
theorem rdCons_keys:∀{ks:List Nat} {l r:List Int} {cs:CM},rdCons ks l=some (cs,r)→∀x∈cs,x.1∈ks
 | [],l,r,cs,h=>by
  simp only [rdCons,Option.some.injEq,Prod.mk.injEq] at h
  obtain⟨rfl,_⟩:=h
  simp
 |k :: ks,l,r,cs,h=>by
  rw [rdCons_cons] at h
  split at h
  ·cases h
  ·cases hr:rdCons ks (l.drop 512) with
   |none=>rw [hr] at h;cases h
   |some x=>
    rw [hr] at h
    simp only [Option.map_some,Option.some.injEq,Prod.mk.injEq] at h
    obtain⟨rfl,rfl⟩:=h
    intro z hz
    rcases List.mem_cons.1 hz with rfl|hz
    ·simp
    ·exact List.mem_cons_of_mem _ (rdCons_keys (cs:=x.1) (r:=x.2) hr z hz)
theorem rdRec_keys {blocks:Nat} {d:List Int} {cs:CM} (h:rdRec blocks d=some cs):∀x∈cs,x.1<blocks:=by
 unfold rdRec at h
 split at h
 ·cases h
 ·split at h
  ·split at h
   ·cases h
   ·rename_i ks r hn
    cases hc:rdCons ks r with
    |none=>rw [hc] at h;cases h
    |some x=>
     obtain⟨x1,x2⟩:=x
     rw [hc] at h
     cases x2 with
     |nil=>
      simp only [rdTail,Option.some.injEq] at h
      subst h
      intro z hz
      exact(rdNums_len hn).2 _ (rdCons_keys hc z hz)
     |cons a t=>cases h
  ·cases h
end Go.Proofs.YtkiehemoiapkkaaGreat
end
section
namespace Go.Proofs.YtkiehemoiapkkaaGreat
open Go.RowKit Go.Shelf
attribute [local go_sem] Oper.semAt_some
set_option maxRecDepth 20000 in
set_option maxHeartbeats 4000000 in
theorem chunk4_any (a:Option Addr) (n c:Nat) (w:World):
  Calls Tryz.prog 172 #[.slice a n c, .int .i64 4] w fun e w'=>e= .returned (.func (.func 191) #[] #[.pointer (some ⟨w.heap.size,0,none⟩), .pointer (some ⟨w.heap.size+1,0,none⟩)])∧w'=(w.alloc (.cells #[.slice a n c] 44)).alloc (.cells #[.int .i64 4] 3):=by
 go_enter Tryz.func172,Tryz.ntmps172
 go_wp2
 go_ret
 exact⟨rfl,rfl⟩
def chLen4 (n k:Nat):Nat:=min 4 (n-4*k)
def encC4 (b o n q:Nat) (x:Fin q):Array Value:= #[.slice (some ⟨b,o+4*x.1,none⟩) (chLen4 n x.1) (chLen4 n x.1)]
set_option maxRecDepth 100000 in
set_option maxHeartbeats 4000000 in
theorem chunk4_in (m:Nat) (hm:1≤m) (l Bs Bn b o n c q:Nat) (hn0:1≤n) (hn:n≤64) (hc:n≤c) (hq:q=(n+3) / 4) (J Jx:List (Fin q)→World→Prop)
    (hY:∀pre (x:Fin q) W,J pre W→pre.length<q→YieldAt Fence.wide (m-1) Tryz.prog l (encC4 b o n q x) W fun e W'=>
     (e= .returned (.bool true)∧J (pre ++ [x]) W'∧KpC Bs Bn W W')∨(e= .returned (.bool false)∧Jx (pre ++ [x]) W'))
    (W:World) (hBs:W.heap[Bs]? =some (.cells #[.slice (some ⟨b,o,none⟩) n c] 44 (0,0))) (hBn:W.heap[Bn]? =some (.cells #[.int .i64 4] 3 (0,0))) (hJ:AbidesFrom W.heap.size J) (h0:J [] W):
  CallsIn Fence.wide m Tryz.prog 191 #[.func (.yield l) #[] #[], .pointer (some ⟨Bs,0,none⟩), .pointer (some ⟨Bn,0,none⟩)] W fun e W'=>(∃v,e= .returned v)∧
     ((∃ys,InO ys q∧J ys W')∨(∃pre,(∃k,k<q∧InO pre (k+1))∧Jx pre W')):=by
 have HQ:=Hid.mk hq
 have hqn:n≤4*q∧4*q<n+4:=by omega
 clear hq
 refine callsIn_of_wp Tryz.func191 rfl trivial ?_ rfl
 simp only [Tryz.ntmps191,List.size_toArray,List.length_cons,List.length_nil,Nat.reduceAdd,Nat.reduceSub,Array.replicate_succ,Array.replicate_zero,List.push_toArray,List.append_toArray,List.nil_append,List.cons_append]
 gi_wp2
 gi_loopw [4] (fun i wr=>∃(k:Nat) (pre:List (Fin q)),k≤q∧i= .int .i64 ((4*k:Nat):Int)∧InO pre k∧J pre wr∧KpC Bs Bn W wr)
    (fun i _=>4*q-(intOf i).toNat)
 case atStart=>exact⟨0, [],Nat.zero_le _,rfl,InO.nil,h0,KpC.refl _ _ _⟩
 case round=>
  obtain⟨k,pre,hk,rfl,hpre,hJs,hkp⟩:=hrel
  have hlen:pre.length=k:=hpre.length
  have hs1:=cell_of_block (hkp.1.trans hBs) (j:=0) rfl
  have hp1:=cell_of_block (hkp.2.trans hBn) (j:=0) rfl
  by_cases hlt:k<q
  ·have hJd:J pre wr.drew:=hJ pre wr wr.drew none hJs ⟨rfl,rfl,rfl,Nat.le_refl _,fun _ _ _=>rfl⟩ (fun r e=>by cases e)
   obtain⟨fn,tmps,assign,body,hy,hRo⟩:=hY pre ⟨k,hlt⟩ wr.drew hJd (by omega)
   have hmx:Tryz.prog.follows .mixedOrders=true:=by kernel_rfl
   dsimp only [encC4] at hy
   have hcl:chLen4 n k=min 4 (n-4*k):=rfl
   obtain⟨I,hI⟩:∃I,I=4*k:=⟨_,rfl⟩
   rw [←hI] at hy hcl⊢
   have hIn:I<n:=by omega
   obtain⟨z,hz⟩:∃z,z=chLen4 n k:=⟨_,rfl⟩
   rw [←hz] at hy hcl
   have hmin:min (4:Int) ((n-I:Nat):Int)=(z:Int):=by omega
   have hto:((I:Int)+(z:Int)).toNat-I=z:=by omega
   have hlt':(I:Int)<(n:Int):=by omega
   have hIc:(I:Int)<(c:Int):=by omega
   have hnc:(n:Int)≤(c:Int):=by omega
   have hzn:(I:Int)+(z:Int)≤(n:Int):=by omega
   have hz1:(1:Int)≤(z:Int):=by omega
   have HI:=Hid.mk hI
   have HZ:=Hid.mk hz
   clear hI hz hcl
   have hRo':=round_bool hRo
   have HK:=Hid.mk hkp
   have HJ:=Hid.mk hJ
   have HPre:=Hid.mk hpre
   clear hRo hY hJs hJd hkp hJ hpre
   gi_wp2
   gi_region_with_o (fail)
   all_goals
    gi_wp2_with fail
    refine hRo'.mono ?_
    rintro e W3 ⟨r,rfl,hr1,hr2⟩
    have HR1:=Hid.mk hr1
    have HR2:=Hid.mk hr2
    clear hr1 hr2
    cases r
    ·gi_wp2
     refine bodyPost_ret (results_none rfl _ _ _) rfl ?_
     exact⟨⟨_,rfl⟩, .inr ⟨_,⟨k,hlt,HPre.out.snoc hlt⟩,HR2.out (by simp)⟩⟩
    ·have hk3:KpC Bs Bn W W3:=HK.out.t (KpC.t (B:=wr.drew) ⟨rfl,rfl⟩ (HR1.out rfl).2)
     have hp3:=cell_of_block (hk3.2.trans hBn) (j:=0) rfl
     have HK3:=Hid.mk hk3
     clear hk3
     gi_wp2
     go_roundw
     case rel=>exact⟨k+1,_,by omega,by rw [HI.out];go_num,HPre.out.snoc hlt,(HR1.out (by simp)).1,HK3.out⟩
     case measure=>have:=HI.out;simp [intOf];omega
  ·have hkq:=Hid.mk (show k=q by omega)
   have hge:¬((4*k:Nat):Int)<(n:Int):=by omega
   gi_wp2
   go_end0
   exact⟨⟨_,rfl⟩, .inl ⟨pre,(by rw [hkq.out] at hpre;exact hpre),hJs⟩⟩
theorem chunk4_stops (m:Nat) (hm:1≤m) (Bs Bn b o n c q:Nat) (hn0:1≤n) (hn:n≤64) (hc:n≤c) (hq:q=(n+3) / 4) (w:World)
    (hBs:w.heap[Bs]? =some (.cells #[.slice (some ⟨b,o,none⟩) n c] 44 (0,0))) (hBn:w.heap[Bn]? =some (.cells #[.int .i64 4] 3 (0,0))):
  SeqStopsK Fence.wide m Tryz.prog 191 #[.pointer (some ⟨Bs,0,none⟩), .pointer (some ⟨Bn,0,none⟩)] (encC4 b o n q) (KpC Bs Bn) (fun ys=>InO ys q) (fun pre=>∃k,k<q∧InO pre (k+1)) q w:=
 fun l J Jx W hW hJ _ hY h0=>chunk4_in m hm l Bs Bn b o n c q hn0 hn hc hq J Jx hY W ((hW.block _ (lt_there hBs)).trans hBs) ((hW.block _ (lt_there hBn)).trans hBn) hJ h0
end Go.Proofs.YtkiehemoiapkkaaGreat
end
