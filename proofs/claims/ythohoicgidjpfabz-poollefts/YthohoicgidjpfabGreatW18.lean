import Derived.Test.YthohoicgidjpfabGreatW11
import Derived.Test.YthohoicgidjpfabGreatW13
import Derived.Test.YthohoicgidjpfabGreatW17
section
namespace Go.Proofs.YthohoicgidjpfabGreat
open Go.RowKit Go.Maps
section
variable {w:World} {F:Nat→Prop} {p s c:Nat} {S:DS}
theorem dread_row (h:B.DiskR w F p s S c) (k:Nat) (hk:k<s) (hbig:S.puts.length+1≤4000000000000) (hf:S.fuse≠0):
  Calls Tryz.prog 99 #[.pointer (some ⟨p,0,none⟩), .int .i64 (k:Int)] w fun e w'=>∃g cp,e= .returned (.tuple #[.slice (some ⟨g,0,none⟩) 512 cp, .int .i64 0])∧w.heap.size≤g∧RowAt w' 5 g cp (bs (S.now k))∧B.DiskR w' F p s S (c+1)∧Keeps F w w':=by
 obtain⟨r,h,hr⟩:=h
 refine(read_ok h k hf hk (by show S.puts.length≤_;omega)).mono ?_
 rintro e w' ⟨g,cp,rfl,hg,hrow,h3,h4⟩
 exact⟨g,cp,rfl,hg,hrow,⟨_,h3,hr.read⟩,h4⟩
end
def SupAt (l:List Int) (s:Nat):Prop:=SuperOk l∧u32 l 8=s
def lyOf (l:List Int):LY:=⟨u32 l 12,3+u32 l 12,u32 l 8-(3+u32 l 12),u32 l 16,2+u32 l 16 / 4⟩
abbrev ly0:LY:=⟨0,0,0,0,0⟩
def LayOut (S:DS) (s:Nat) (y:LY) (x:Int):Prop:=
   (S.fuse=0∧y=ly0∧x=3)∨(S.fuse≠0∧SupAt (S.now 0) s∧y=lyOf (S.now 0)∧x=0)∨(S.fuse≠0∧¬SupAt (S.now 0) s∧y=ly0∧x=6)
theorem SuperOk.geo {l:List Int} (h:SuperOk l):Geo (u32 l 8) (u32 l 12) (u32 l 16):=by
 simpa only [u32,part_take (show 8+4≤508 by omega),part_take (show 12+4≤508 by omega),part_take (show 16+4≤508 by omega)] using h.2.geo
theorem lyOf_v (l:List Int) {s:Nat} (hs:u32 l 8=s) (h3:((u32 l 12:Nat):Int)+((u32 l 16:Nat):Int) / 4+6≤(s:Int)):
  Ending.returned (.tuple #[.agg #[.int .i64 ((u32 l 12:Nat):Int), .int .i64 (3+((u32 l 12:Nat):Int)), .int .i64 ((s:Int)-(3+((u32 l 12:Nat):Int))), .int .i64 ((u32 l 16:Nat):Int), .int .i64 (2+((u32 l 16:Nat):Int) / 4)], .int .i64 0])=Ending.returned (.tuple #[lyV (lyOf l), .int .i64 0]):=by
 unfold lyOf lyV
 generalize u32 l 12=y at*
 generalize u32 l 16=z at*
 rw [hs]
 have e1:((3+y:Nat):Int)=3+(y:Int):=by omega
 have e2:((s-(3+y):Nat):Int)=(s:Int)-(3+(y:Int)):=by omega
 have e3:((2+z / 4:Nat):Int)=2+(z:Int) / 4:=by omega
 simp only [e1,e2,e3]
theorem set5l {W:World} {g:Nat} {a0 a1 a2 a3 a4:Value} {t:TypeId} (h:W.heap[g]? =some (.cells #[a0,a1,a2,a3,a4] t (0,0))) (v0 v1 v2 v3 v4:Value):
    (((((W.setCell ⟨g,0,none⟩ v0).setCell ⟨g,1,none⟩ v1).setCell ⟨g,2,none⟩ v2).setCell ⟨g,3,none⟩ v3).setCell ⟨g,4,none⟩ v4).heap[g]? =some (.cells #[v0,v1,v2,v3,v4] t (0,0))∧Keeps (fun k=>k=g) W (((((W.setCell ⟨g,0,none⟩ v0).setCell ⟨g,1,none⟩ v1).setCell ⟨g,2,none⟩ v2).setCell ⟨g,3,none⟩ v3).setCell ⟨g,4,none⟩ v4):=by
 refine⟨set5 v0 v1 v2 v3 v4 h,?_⟩
 have k1:=fun (w:World) (i:Nat) (v:Value)=>Keeps.setCell (F:=fun k=>k=g) w (p:=⟨g,i,none⟩) rfl v
 exact((((k1 _ 0 v0).trans (k1 _ 1 v1) (fun _ h=> .inl h)).trans (k1 _ 2 v2) (fun _ h=> .inl h)).trans (k1 _ 3 v3) (fun _ h=> .inl h)).trans (k1 _ 4 v4) (fun _ h=> .inl h)
set_option maxRecDepth 20000 in
set_option maxHeartbeats 8000000 in
theorem layoutOf_any {w:World} {F:Nat→Prop} {p s c:Nat} {S:DS} (h:B.DiskR w F p s S c) (hby:S.Byt) (hbig:S.puts.length+1≤4000000000000):
  Calls Tryz.prog 50 #[.pointer (some ⟨p,0,none⟩)] w fun e w'=>∃y x,e= .returned (.tuple #[lyV y, .int .i64 x])∧LayOut S s y x∧B.DiskR w' F p s S (c+1)∧Keeps F w w':=by
 obtain⟨w0,hw0⟩:∃w0,w0=w.alloc (.cells #[.int .i64 0, .int .i64 0, .int .i64 0, .int .i64 0, .int .i64 0] 87):=⟨_,rfl⟩
 have hb0:Below w.heap.size w w0:=by rw [hw0];exact below_box _ _
 have hbox:w0.heap[w.heap.size]? =some (.cells #[.int .i64 0, .int .i64 0, .int .i64 0, .int .i64 0, .int .i64 0] 87 (0,0)):=by rw [hw0];exact heap_alloc_new _ _
 have hd0:=h.later hb0
 have hlt:=h.lt
 go_enter Tryz.func50,Tryz.ntmps50
 go_wp2_with fail
 by_cases hf:S.fuse=0
 ·have h1:=B.dread_dead hd0 0 hf
  have HD:=(And.intro hd0 (And.intro hb0 hbox))
  subst hw0
  clear h hd0 hb0 hbox
  refine h1.mono ?_
  rintro e w1 ⟨rfl,hw1⟩
  subst hw1
  clear h1
  go_wp2
  exact bodyPost_ret (v:= .tuple #[lyV ly0, .int .i64 3]) (by simp [results,Tryz.results50,go_sem]) rfl ⟨ly0,3,rfl, .inl ⟨hf,rfl,rfl⟩,HD.1.le (by omega),Keeps.of_below F HD.2.1⟩
 ·have hok:=h.ok
  have h1:=dread_row hd0 0 (by have:=hok.lo;omega) hbig hf
  have hl:=now_len hok 0 (by have:=hok.lo;omega)
  have hbyt:=hby.now 0
  have HD:=(And.intro hb0 hbox)
  have hz0:w0.heap.size=w.heap.size+1:=by rw [hw0,World.size_alloc]
  have HZ:=hz0
  rw [hw0] at HD HZ h1
  clear h hd0 hb0 hbox hw0 hz0 w0
  refine h1.mono ?_
  rintro e w1 ⟨g,cp,rfl,hg,hrow,hd1,hk1⟩
  clear h1
  have hbx1:=(hk1.block w.heap.size (by rw [HZ];omega) (fun hF=>by have:=hlt _ hF;omega)).trans HD.2
  have hcp:=hrow.le
  have hcm:=hrow.max
  have hsr:∀i,i<512→w1.cell? ⟨g,0+i,none⟩=some (.int .u8 ((S.now 0).getD i 0)):=fun i hi=>by
   have:=hrow.byte (i:=i) (by omega)
   rwa [addr_add] at this
  have hcp2:512≤cp:=by rw [←hl];simpa [bs] using hcp
  have hcm2:cp≤9223372036854775807:=by unfold maxLen at hcm;omega
  have hks:=(Keeps.of_below F HD.1).trans hk1 (fun _ h=> .inl h)
  have hw1:=hk1.size
  rw [HZ] at hw1
  by_cases ho:SuperOk (S.now 0)
  ·have h2:=decsuper_ok g 0 cp (S.now 0) w1 hl hcp2 hcm2 hbyt hsr ho
   have HG:=ho.geo
   have HK:=(And.intro hd1 (And.intro hks (And.intro hbx1 ho)))
   clear hrow hd1 hk1 hsr hbx1 hks hcp hcm ho
   go_wp2_with fail
   refine h2.mono ?_
   rintro e w2 ⟨rfl,hb2⟩
   clear h2
   have hz2:=hb2.size
   obtain⟨w3,hw3⟩:∃w3,w3=w2.alloc (.cells #[.int .i64 ((u32 (S.now 0) 8:Nat):Int), .int .i64 ((u32 (S.now 0) 12:Nat):Int), .int .i64 ((u32 (S.now 0) 16:Nat):Int)] 31):=⟨_,rfl⟩
   have hbx3:w3.heap[w2.heap.size]? =some (.cells #[.int .i64 ((u32 (S.now 0) 8:Nat):Int), .int .i64 ((u32 (S.now 0) 12:Nat):Int), .int .i64 ((u32 (S.now 0) 16:Nat):Int)] 31 (0,0)):=by rw [hw3];exact heap_alloc_new _ _
   have hb3:Below w1.heap.size w1 w3:=by rw [hw3];exact hb2.alloc hz2 _
   have hz3:w3.heap.size=w2.heap.size+1:=by rw [hw3,World.size_alloc]
   go_wp2_with fail
   rw [←hw3]
   clear hw3 hb2
   have hd3:=HK.1.later hb3
   have hbr3:=(hb3.block w.heap.size (by omega)).trans HK.2.2.1
   have hks3:=HK.2.1.trans (Keeps.of_below (fun _=>False) hb3) (fun _ h=>h.elim)
   have c0:=cell_of_block hbx3 (j:=0) rfl
   have hsec:=fun k=>B.dsectors (hd3.later (below_drewN (Below.refl _ _) k))
   have HW:=(And.intro hd3 (And.intro hks3 (And.intro hbr3 hbx3)))
   clear hd3 hks3 hbr3 hbx3 hb3
   by_cases hxs:u32 (S.now 0) 8=s
   ·have hxs':(((u32 (S.now 0) 8:Nat):Int) == ((s:Nat):Int))=true:=by rw [hxs];simp
    go_quiet (first|(go_at_call 44;refine Calls.quiet_of_same (hsec _)))
    have hq:∀k,Below w3.heap.size w3 (w3.drewN k):=fun k=>below_drewN (Below.refl _ _) k
    have HW2:=(fun k=>And.intro (HW.1.later (hq k)) (And.intro (HW.2.1.trans (Keeps.of_below (fun _=>False) (hq k)) (fun _ h=>h.elim)) (And.intro (((hq k).block w.heap.size (by omega)).trans HW.2.2.1) (((hq k).block w2.heap.size (by omega)).trans HW.2.2.2))))
    clear HW c0 hsec hq
    rename_i nq _
    have HW:=(HW2 nq)
    have hzW:(w3.drewN nq).heap.size=w3.heap.size:=rfl
    clear HW2
    generalize w3.drewN nq=W at*
    have r0:=cell_of_block HW.2.2.1 (j:=0) rfl
    have r1:=cell_of_block HW.2.2.1 (j:=1) rfl
    have r2:=cell_of_block HW.2.2.1 (j:=2) rfl
    have r3:=cell_of_block HW.2.2.1 (j:=3) rfl
    have r4:=cell_of_block HW.2.2.1 (j:=4) rfl
    have g0:=frozen_of_block HW.2.2.1 0
    have g1:=frozen_of_block HW.2.2.1 1
    have g2:=frozen_of_block HW.2.2.1 2
    have g3:=frozen_of_block HW.2.2.1 3
    have g4:=frozen_of_block HW.2.2.1 4
    have s0:=cell_of_block HW.2.2.2 (j:=0) rfl
    have s1:=cell_of_block HW.2.2.2 (j:=1) rfl
    have s2:=cell_of_block HW.2.2.2 (j:=2) rfl
    have hpl:=plan_good (s:Int) ((u32 (S.now 0) 12:Nat):Int) ((u32 (S.now 0) 16:Nat):Int) W (by have:=HG;rw [hxs] at this;exact this.1.1) (by have:=HG;rw [hxs] at this;exact this.1.2) (by have:=HG;rw [hxs] at this;exact this.2.1.1) (by have:=HG;rw [hxs] at this;exact this.2.1.2) (by have:=HG;rw [hxs] at this;exact this.2.2.1) (by have:=HG;rw [hxs] at this;exact this.2.2.2.1) (by have:=HG;rw [hxs] at this;exact this.2.2.2.2)
    go_wp2_with fail
    refine hpl.mono ?_
    rintro e W3 ⟨rfl,hbX⟩
    clear hpl r0 r1 r2 r3 r4 g0 g1 g2 g3 g4 s0 s1 s2
    have hbrX:=(hbX.block w.heap.size (by omega)).trans HW.2.2.1
    have HX:=(And.intro (HW.1.later hbX) (HW.2.1.trans (Keeps.of_below (fun _=>False) hbX) (fun _ h=>h.elim)))
    have r0:=cell_of_block hbrX (j:=0) rfl
    have r1:=cell_of_block hbrX (j:=1) rfl
    have r2:=cell_of_block hbrX (j:=2) rfl
    have r3:=cell_of_block hbrX (j:=3) rfl
    have r4:=cell_of_block hbrX (j:=4) rfl
    have g0:=frozen_of_block hbrX 0
    have g1:=frozen_of_block hbrX 1
    have g2:=frozen_of_block hbrX 2
    have g3:=frozen_of_block hbrX 3
    have g4:=frozen_of_block hbrX 4
    have hly:Ending.returned (.tuple #[.agg #[(.int .i64 ((u32 (S.now 0) 12:Nat):Int)),(.int .i64 (3+((u32 (S.now 0) 12:Nat):Int))),(.int .i64 ((s:Int)-(3+((u32 (S.now 0) 12:Nat):Int)))),(.int .i64 ((u32 (S.now 0) 16:Nat):Int)),(.int .i64 (2+((u32 (S.now 0) 16:Nat):Int) / 4))], .int .i64 0])=Ending.returned (.tuple #[lyV (lyOf (S.now 0)), .int .i64 0]):=by
     have h3:=HG.2.2.2.1
     rw [hxs] at h3
     exact lyOf_v (S.now 0) hxs h3
    go_wp2
    obtain⟨hbf,hkf⟩:=set5l hbrX (.int .i64 ((u32 (S.now 0) 12:Nat):Int)) (.int .i64 (3+((u32 (S.now 0) 12:Nat):Int))) (.int .i64 ((s:Int)-(3+((u32 (S.now 0) 12:Nat):Int)))) (.int .i64 ((u32 (S.now 0) 16:Nat):Int)) (.int .i64 (2+((u32 (S.now 0) 16:Nat):Int) / 4))
    generalize ((((W3.setCell ⟨w.heap.size,0,none⟩ (.int .i64 ((u32 (S.now 0) 12:Nat):Int))).setCell ⟨w.heap.size,1,none⟩ (.int .i64 (3+((u32 (S.now 0) 12:Nat):Int)))).setCell ⟨w.heap.size,2,none⟩ (.int .i64 ((s:Int)-(3+((u32 (S.now 0) 12:Nat):Int))))).setCell ⟨w.heap.size,3,none⟩ (.int .i64 ((u32 (S.now 0) 16:Nat):Int))).setCell ⟨w.heap.size,4,none⟩ (.int .i64 (2+((u32 (S.now 0) 16:Nat):Int) / 4))=WW at*
    have q0:=cell_of_block hbf (j:=0) (u:=(.int .i64 ((u32 (S.now 0) 12:Nat):Int))) rfl
    have q1:=cell_of_block hbf (j:=1) (u:=(.int .i64 (3+((u32 (S.now 0) 12:Nat):Int)))) rfl
    have q2:=cell_of_block hbf (j:=2) (u:=(.int .i64 ((s:Int)-(3+((u32 (S.now 0) 12:Nat):Int))))) rfl
    have q3:=cell_of_block hbf (j:=3) (u:=(.int .i64 ((u32 (S.now 0) 16:Nat):Int))) rfl
    have q4:=cell_of_block hbf (j:=4) (u:=(.int .i64 (2+((u32 (S.now 0) 16:Nat):Int) / 4))) rfl
    exact bodyPost_ret (v:= .tuple #[.agg #[(.int .i64 ((u32 (S.now 0) 12:Nat):Int)),(.int .i64 (3+((u32 (S.now 0) 12:Nat):Int))),(.int .i64 ((s:Int)-(3+((u32 (S.now 0) 12:Nat):Int)))),(.int .i64 ((u32 (S.now 0) 16:Nat):Int)),(.int .i64 (2+((u32 (S.now 0) 16:Nat):Int) / 4))], .int .i64 0]) (by simp [results,Tryz.results50,go_sem,q0,q1,q2,q3,q4]) rfl ⟨(lyOf (S.now 0)),0,hly, .inr (.inl ⟨hf,⟨HK.2.2.2,hxs⟩,rfl,rfl⟩),HX.1.keep hkf (fun k hF e=>by subst e;have:=hlt _ hF;omega),HX.2.trans hkf (fun k e=> .inr (by omega))⟩
   ·have hxs':(((u32 (S.now 0) 8:Nat):Int) == ((s:Nat):Int))=false:=by rw [beq_eq_false_iff_ne];omega
    go_quiet (first|(go_at_call 44;refine Calls.quiet_of_same (hsec _)))
    have hq:∀k,Below w3.heap.size w3 (w3.drewN k):=fun k=>below_drewN (Below.refl _ _) k
    have HW2:=(fun k=>And.intro (HW.1.later (hq k)) (And.intro (HW.2.1.trans (Keeps.of_below (fun _=>False) (hq k)) (fun _ h=>h.elim)) (And.intro (((hq k).block w.heap.size (by omega)).trans HW.2.2.1) (((hq k).block w2.heap.size (by omega)).trans HW.2.2.2))))
    clear HW c0 hsec hq
    rename_i nq _
    have HW:=(HW2 nq)
    have hzW:(w3.drewN nq).heap.size=w3.heap.size:=rfl
    clear HW2
    generalize w3.drewN nq=W at*
    have r0:=cell_of_block HW.2.2.1 (j:=0) rfl
    have r1:=cell_of_block HW.2.2.1 (j:=1) rfl
    have r2:=cell_of_block HW.2.2.1 (j:=2) rfl
    have r3:=cell_of_block HW.2.2.1 (j:=3) rfl
    have r4:=cell_of_block HW.2.2.1 (j:=4) rfl
    have g0:=frozen_of_block HW.2.2.1 0
    have g1:=frozen_of_block HW.2.2.1 1
    have g2:=frozen_of_block HW.2.2.1 2
    have g3:=frozen_of_block HW.2.2.1 3
    have g4:=frozen_of_block HW.2.2.1 4
    have hxs2:(((u32 (S.now 0) 8:Nat):Int) != ((s:Nat):Int))=true:=by simp [bne,hxs']
    go_wp2
    obtain⟨hbf,hkf⟩:=set5l HW.2.2.1 (.int .i64 0) (.int .i64 0) (.int .i64 0) (.int .i64 0) (.int .i64 0)
    generalize ((((W.setCell ⟨w.heap.size,0,none⟩ (.int .i64 0)).setCell ⟨w.heap.size,1,none⟩ (.int .i64 0)).setCell ⟨w.heap.size,2,none⟩ (.int .i64 0)).setCell ⟨w.heap.size,3,none⟩ (.int .i64 0)).setCell ⟨w.heap.size,4,none⟩ (.int .i64 0)=WW at*
    have q0:=cell_of_block hbf (j:=0) (u:=(.int .i64 0)) rfl
    have q1:=cell_of_block hbf (j:=1) (u:=(.int .i64 0)) rfl
    have q2:=cell_of_block hbf (j:=2) (u:=(.int .i64 0)) rfl
    have q3:=cell_of_block hbf (j:=3) (u:=(.int .i64 0)) rfl
    have q4:=cell_of_block hbf (j:=4) (u:=(.int .i64 0)) rfl
    exact bodyPost_ret (v:= .tuple #[.agg #[(.int .i64 0),(.int .i64 0),(.int .i64 0),(.int .i64 0),(.int .i64 0)], .int .i64 6]) (by simp [results,Tryz.results50,go_sem,q0,q1,q2,q3,q4]) rfl ⟨ly0,6,rfl, .inr (.inr ⟨hf,fun h=>hxs h.2,rfl,rfl⟩),HW.1.keep hkf (fun k hF e=>by subst e;have:=hlt _ hF;omega),HW.2.1.trans hkf (fun k e=> .inr (by omega))⟩
  ·have h2:=decsuper_no g 0 cp (S.now 0) w1 hl hcp2 hcm2 hbyt hsr ho
   have HK:=(And.intro hd1 (And.intro hks (And.intro hbx1 ho)))
   clear hrow hd1 hk1 hsr hbx1 hks hcp hcm ho
   go_wp2_with fail
   refine h2.mono ?_
   rintro e w2 ⟨rfl,hb2⟩
   clear h2
   have hz2:=hb2.size
   obtain⟨w3,hw3⟩:∃w3,w3=w2.alloc (.cells #[.int .i64 0, .int .i64 0, .int .i64 0] 31):=⟨_,rfl⟩
   have hbx3:w3.heap[w2.heap.size]? =some (.cells #[.int .i64 0, .int .i64 0, .int .i64 0] 31 (0,0)):=by rw [hw3];exact heap_alloc_new _ _
   have hb3:Below w1.heap.size w1 w3:=by rw [hw3];exact hb2.alloc hz2 _
   have hz3:w3.heap.size=w2.heap.size+1:=by rw [hw3,World.size_alloc]
   go_wp2_with fail
   rw [←hw3]
   clear hw3 hb2
   have hd3:=HK.1.later hb3
   have hbr3:=(hb3.block w.heap.size (by omega)).trans HK.2.2.1
   have hks3:=HK.2.1.trans (Keeps.of_below (fun _=>False) hb3) (fun _ h=>h.elim)
   have HW:=(And.intro hd3 (And.intro hks3 (And.intro hbr3 hbx3)))
   clear hd3 hks3 hbr3 hbx3 hb3
   go_quiet (fail)
   have hq:∀k,Below w3.heap.size w3 (w3.drewN k):=fun k=>below_drewN (Below.refl _ _) k
   have HW2:=(fun k=>And.intro (HW.1.later (hq k)) (And.intro (HW.2.1.trans (Keeps.of_below (fun _=>False) (hq k)) (fun _ h=>h.elim)) (And.intro (((hq k).block w.heap.size (by omega)).trans HW.2.2.1) (((hq k).block w2.heap.size (by omega)).trans HW.2.2.2))))
   clear HW hq
   rename_i nq _
   have HW:=(HW2 nq)
   have hzW:(w3.drewN nq).heap.size=w3.heap.size:=rfl
   clear HW2
   generalize w3.drewN nq=W at*
   have r0:=cell_of_block HW.2.2.1 (j:=0) rfl
   have r1:=cell_of_block HW.2.2.1 (j:=1) rfl
   have r2:=cell_of_block HW.2.2.1 (j:=2) rfl
   have r3:=cell_of_block HW.2.2.1 (j:=3) rfl
   have r4:=cell_of_block HW.2.2.1 (j:=4) rfl
   have g0:=frozen_of_block HW.2.2.1 0
   have g1:=frozen_of_block HW.2.2.1 1
   have g2:=frozen_of_block HW.2.2.1 2
   have g3:=frozen_of_block HW.2.2.1 3
   have g4:=frozen_of_block HW.2.2.1 4
   go_wp2
   obtain⟨hbf,hkf⟩:=set5l HW.2.2.1 (.int .i64 0) (.int .i64 0) (.int .i64 0) (.int .i64 0) (.int .i64 0)
   generalize ((((W.setCell ⟨w.heap.size,0,none⟩ (.int .i64 0)).setCell ⟨w.heap.size,1,none⟩ (.int .i64 0)).setCell ⟨w.heap.size,2,none⟩ (.int .i64 0)).setCell ⟨w.heap.size,3,none⟩ (.int .i64 0)).setCell ⟨w.heap.size,4,none⟩ (.int .i64 0)=WW at*
   have q0:=cell_of_block hbf (j:=0) (u:=(.int .i64 0)) rfl
   have q1:=cell_of_block hbf (j:=1) (u:=(.int .i64 0)) rfl
   have q2:=cell_of_block hbf (j:=2) (u:=(.int .i64 0)) rfl
   have q3:=cell_of_block hbf (j:=3) (u:=(.int .i64 0)) rfl
   have q4:=cell_of_block hbf (j:=4) (u:=(.int .i64 0)) rfl
   exact bodyPost_ret (v:= .tuple #[.agg #[(.int .i64 0),(.int .i64 0),(.int .i64 0),(.int .i64 0),(.int .i64 0)], .int .i64 6]) (by simp [results,Tryz.results50,go_sem,q0,q1,q2,q3,q4]) rfl ⟨ly0,6,rfl, .inr (.inr ⟨hf,fun h=>HK.2.2.2 h.1,rfl,rfl⟩),HW.1.keep hkf (fun k hF e=>by subst e;have:=hlt _ hF;omega),HW.2.1.trans hkf (fun k e=> .inr (by omega))⟩
end Go.Proofs.YthohoicgidjpfabGreat
end
section
namespace Go.Proofs.YthohoicgidjpfabGreat
open Go.RowKit Go.Maps
def rdNums (blocks:Nat):Nat→Nat→List Int→Option (List Nat×List Int)
 |0,_,l=>some ([],l)
 |n+1,lo,l=>if l.length<4 then none else if lo≤le (l.take 4)∧le (l.take 4)<blocks then (rdNums blocks n (le (l.take 4)+1) (l.drop 4)).map (fun x=>(le (l.take 4) :: x.1,x.2)) else none
def rdCons:List Nat→List Int→Option (CM×List Int)
 | [],l=>some ([],l)
 |k :: ks,l=>if l.length<512 then none else (rdCons ks (l.drop 512)).map (fun x=>((k,l.take 512) :: x.1,x.2))
def rdTail:Option (CM×List Int)→Option CM
 |some (cs, [])=>some cs
 |_=>none
def rdRec (blocks:Nat) (d:List Int):Option CM:=
 if d.length<2 then none else if 1≤le (d.take 2)∧le (d.take 2)≤16 then
  match rdNums blocks (le (d.take 2)) 0 (d.drop 2) with
  |none=>none
  |some (ks,r)=>rdTail (rdCons ks r)
 else none
theorem rdNums_len {blocks:Nat}:∀{n lo:Nat} {l r:List Int} {ks:List Nat},rdNums blocks n lo l=some (ks,r)→ks.length=n∧∀k∈ks,k<blocks
 |0,lo,l,r,ks,h=>by
  simp only [rdNums,Option.some.injEq,Prod.mk.injEq] at h
  obtain⟨rfl,_⟩:=h
  simp
 |n+1,lo,l,r,ks,h=>by
  unfold rdNums at h
  split at h
  ·cases h
  ·split at h
   ·rename_i hb
    cases hr:rdNums blocks n (le (l.take 4)+1) (l.drop 4) with
    |none=>rw [hr] at h;cases h
    |some x=>
     rw [hr] at h
     simp only [Option.map_some,Option.some.injEq,Prod.mk.injEq] at h
     obtain⟨rfl,rfl⟩:=h
     obtain⟨h1,h2⟩:=rdNums_len (ks:=x.1) (r:=x.2) hr
     refine⟨by simp [h1],fun k hk=>?_⟩
     rcases List.mem_cons.1 hk with rfl|hk
     ·exact hb.2
     ·exact h2 k hk
   ·cases h
def NRow (w:World) (g cnt:Nat) (ks:List Nat):Prop:=∃xs:List Value,w.heap[g]? =some (.cells xs.toArray 3 (0,0))∧xs.length=cnt∧xs.take ks.length=is_ ks∧ks.length≤cnt
theorem NRow.agree {w w':World} {g cnt:Nat} {ks:List Nat} (h:NRow w g cnt ks) (hb:w'.heap[g]? =w.heap[g]?):NRow w' g cnt ks:=by
 obtain⟨xs,h1,h2⟩:=h
 exact⟨xs,hb.trans h1,h2⟩
theorem NRow.lt {w:World} {g cnt:Nat} {ks:List Nat} (h:NRow w g cnt ks):g<w.heap.size:=by
 obtain⟨xs,h1,_⟩:=h
 exact lt_there h1
theorem NRow.there {w:World} {g cnt:Nat} {ks:List Nat} (h:NRow w g cnt ks) {j:Nat} (hj:j<cnt):(∃u,w.cell? ⟨g,j,none⟩=some u)∧w.frozen? ⟨g,j,none⟩=false:=by
 obtain⟨xs,h1,h2,_⟩:=h
 exact⟨⟨xs[j]'(by omega),cell_of_block h1 (by simp [h2,hj])⟩,frozen_of_block h1 j⟩
theorem NRow.cell {w:World} {g cnt:Nat} {ks:List Nat} (h:NRow w g cnt ks) {j:Nat} (hj:j<ks.length):w.cell? ⟨g,j,none⟩=some (.int .i64 (ks[j]:Int)):=by
 obtain⟨xs,h1,h2,h3,h4⟩:=h
 refine cell_of_block h1 ?_
 have h5:(xs.take ks.length)[j]? =some (.int .i64 (ks[j]:Int)):=by rw [h3];simp [is_,List.getElem?_eq_getElem hj]
 rw [List.getElem?_take,if_pos hj] at h5
 simpa using h5
theorem NRow.put {w:World} {g cnt:Nat} {ks:List Nat} (h:NRow w g cnt ks) (hl:ks.length<cnt) (b:Nat):NRow (w.setCell ⟨g,ks.length,none⟩ (.int .i64 (b:Int))) g cnt (ks ++ [b]):=by
 obtain⟨xs,h1,h2,h3,h4⟩:=h
 refine⟨xs.set ks.length (.int .i64 (b:Int)),?_,by rw [List.length_set];exact h2,?_,by simp;omega⟩
 ·rw [heap_setCell_same _ _ _ _ _ _ h1]
  simp
 ·rw [List.length_append,List.length_singleton,is_,List.map_append]
  have e:xs.set ks.length (.int .i64 (b:Int))=xs.take ks.length ++ .int .i64 (b:Int) :: xs.drop (ks.length+1):=by
   rw [List.set_eq_take_append_cons_drop,if_pos (by omega)]
  rw [e,h3]
  have:(is_ ks).length=ks.length:=by simp [is_]
  rw [List.take_append,this,List.take_of_length_le (by omega)]
  simp
theorem NRow.made {w:World} {base g cnt:Nat} (h:w.ownsRow base 3 1 (.slice (some ⟨g,0,none⟩) cnt cnt) cnt (madeCells #[Value.int .i64 0] cnt).toList):NRow w g cnt []:=by
 obtain⟨g',c,hv,_,hr,hl⟩:=RowAt.of_owns h (by simp)
 cases hv
 obtain⟨cur,hb,hc,_⟩:=hr
 exact⟨cur.toList,by simpa using hb,by simpa using hc,rfl,Nat.zero_le _⟩
end Go.Proofs.YthohoicgidjpfabGreat
end
section
namespace Go.Proofs.YthohoicgidjpfabGreat
open Go.RowKit Go.Maps
theorem SRd.mono {Av:Nat→Prop} {w:World} {rb:Nat} {l:List Int} {G:Nat→Prop} {w':World} (h:SRd Av w rb l) (hk:Keeps G w w') (hrb:¬G rb) (hA:∀x,Av x→¬G x):SRd Av w' rb l:=by
 obtain⟨a,n,c,h0,hs,h1,h2,h3,h4⟩:=h
 exact⟨a,n,c,(hk.block rb (lt_there h0) hrb).trans h0,hs.avoid hk (fun y hy hn=>hA _ (h4 y hy hn).2),h1,h2,h3,h4⟩
theorem smeas {S i k:Nat} (h:i<S) (hk:i<k):S-k<S-i:=by omega
theorem rdNums_succ (blocks n lo:Nat) (l:List Int):rdNums blocks (n+1) lo l=if l.length<4 then none else if lo≤le (l.take 4)∧le (l.take 4)<blocks then (rdNums blocks n (le (l.take 4)+1) (l.drop 4)).map (fun x=>(le (l.take 4) :: x.1,x.2)) else none:=rfl
theorem NRow.putAt {w:World} {g cnt:Nat} {ks:List Nat} (h:NRow w g cnt ks) {i:Nat} (hi:ks.length=i) (hl:i<cnt) (b:Nat):NRow (w.setCell ⟨g,i,none⟩ (.int .i64 (b:Int))) g cnt (ks ++ [b]):=by
 subst hi
 exact h.put hl b
theorem rdCons_cons (k:Nat) (ks:List Nat) (l:List Int):rdCons (k :: ks) l=if l.length<512 then none else (rdCons ks (l.drop 512)).map (fun x=>((k,l.take 512) :: x.1,x.2)):=rfl
theorem over_snoc (ms cs:CM) (k:Nat) (c:List Int):CM.over ms (cs ++ [(k,c)])=CM.put (CM.over ms cs) k c:=by
 unfold CM.over
 rw [List.foldl_append]
 rfl
set_option maxRecDepth 20000 in
set_option maxHeartbeats 8000000 in
theorem sread_any {w:World} {m:Nat} {ms:CM} (h:Ch w m ms) (a:Option Addr) (n c:Nat) (d:List Int) (hs:Src w a n d) (hd:Bytes d) (hn:n≤1000000) (hnc:n≤c) (hcc:c≤9223372036854775807) (ham:∀x,a=some x→0<n→x.block≠m) (blocks:Nat) (hbl:blocks≤2048):
  Calls Tryz.prog 102 #[.map (some m), .slice a n c, .int .i64 (blocks:Int)] w fun e w'=>Keeps (fun k=>k=m) w w'∧((∃cs,rdRec blocks d=some cs∧e= .returned (.tuple #[])∧Ch w' m (CM.over ms cs))∨(rdRec blocks d=none∧e= .panicked sGave)):=by
 have hml:=h.lt
 obtain⟨Av,hAv⟩:∃Av:Nat→Prop,Av=fun x=>x≠m∧x<w.heap.size:=⟨_,rfl⟩
 obtain⟨w0,hw0⟩:∃w0,w0=w.alloc (.cells #[.slice a n c] 175):=⟨_,rfl⟩
 have hb0:Below w.heap.size w w0:=by rw [hw0];exact below_box _ _
 have hz0:w0.heap.size=w.heap.size+1:=by rw [hw0,World.size_alloc]
 have hr0:SRd Av w0 w.heap.size d:=by
  refine⟨a,n,c,?_,hs.later hb0,hnc,hcc,hn,fun x hx hp=>?_⟩
  ·rw [hw0];exact heap_alloc_new _ _
  ·have h1:=hs.old x hx hp
   rw [hAv]
   exact⟨by omega,ham x hx hp,h1⟩
 have hdl:=hs.1
 obtain⟨R,hR⟩:∃R,R=rdRec blocks d:=⟨_,rfl⟩
 rw [←hR]
 have HM:=Hid.mk (And.intro h hml)
 have HAv:=Hid.mk hAv
 clear hAv
 clear hs ham h hnc hcc
 by_cases k1:d.length<2
 ·have h1:=snumber_no hr0 2 k1 (by omega)
  have HR:=Hid.mk (by rw [hR];unfold rdRec;rw [if_pos k1]:R=none)
  have HB:=Hid.mk hb0
  subst hw0
  clear hr0 hb0 hR k1
  go_enter Tryz.func102,Tryz.ntmps102
  go_wp2_with fail
  refine h1.mono ?_
  rintro e w1 ⟨rfl,hw⟩
  have hw':=hw.symm
  subst hw'
  exact⟨rfl,Keeps.of_below _ HB.out, .inr ⟨HR.out,rfl⟩⟩
 ·have h1:=snumber_ok hr0 hd 2 (by omega) (by omega) (by omega)
  unfold rdRec at hR
  rw [if_neg k1] at hR
  obtain⟨cnt,hcnt⟩:∃cnt,cnt=le (d.take 2):=⟨_,rfl⟩
  have hc65:cnt<65536:=by
   rw [hcnt]
   have:=le_lt (hd.take 2)
   have e:(d.take 2).length=2:=by simp;omega
   rw [e] at this
   exact this
  rw [←hcnt] at h1 hR
  have HB:=Hid.mk hb0
  subst hw0
  clear hr0 hb0 k1 hcnt
  by_cases k2:1≤cnt∧cnt≤16
  ·rw [if_pos k2] at hR
   have HR:=Hid.mk hR
   clear hR
   have k21:(1:Int)≤(cnt:Int):=by omega
   have k22:(cnt:Int)≤16:=by omega
   go_enter Tryz.func102,Tryz.ntmps102
   go_wp2_with fail
   refine h1.mono ?_
   rintro e w1 ⟨rfl,hr1,hk1⟩
   have hb1:=HB.out.trans (hk1.below (fun k e=>by omega) (by omega))
   have hz1:=hk1.size
   rw [hz0] at hz1
   have hm:=smust_t w1
   obtain⟨i0,hi,hzz0,hzz1,hzz2⟩:=info_parts infoInt
   clear h1 hk1
   go_wp2_with (first|(go_at_call 138;refine hm.mono ?_;rintro e wy ⟨rfl,hwy⟩;have hwy':=hwy.symm;subst hwy';clear hwy)|(at_make;refine wpList_make_full _ rfl _ _ 26 rfl w1.heap.size 3 i0 (.int .i64 0) 1 Tryz.underlying26 hi hzz0 hzz1 _ _ _ _ cnt rfl rfl ?c1 ?c2 ?c3 ?c4 ?c5 ?_))
   case c1=>rfl
   case c2=>rfl
   case c3=>rw [hzz2];omega
   case c4=>unfold maxLen;omega
   case c5=>exact Nat.le_refl _
   intro w2 hown hgrow
   have hrow:=NRow.made hown
   have hb2:=(Below.refl _ w1).grown hgrow (Nat.le_refl _) (by intro k hk;cases hk)
   have hr2:=hr1.mono (G:=fun _=>False) (Keeps.of_below _ hb2) (fun h=>h) (fun _ _ h=>h)
   have HB2:=Hid.mk (And.intro (hb1.trans (hb2.mono (by omega))) (And.intro hrow hr2))
   clear hown hgrow hrow hb2 hr2 hr1 hb1 hi hzz0 hzz1 hzz2
   go_wp2
   go_loopw [9,28] (fun av iv wr=>∃(i lo:Nat) (A:Int) (ks:List Nat) (l:List Int),iv= .int .i64 i∧av= .int .i64 A∧A=(lo:Int)-1∧lo≤2048∧i≤cnt∧ks.length=i∧SRd Av wr w.heap.size l∧Bytes l∧NRow wr w1.heap.size cnt ks∧Below w.heap.size w wr∧rdNums blocks cnt 0 (d.drop 2)=(rdNums blocks (cnt-i) lo l).map (fun x=>(ks ++ x.1,x.2))) (fun _ iv _=>cnt-(intOf iv).toNat)
   case atStart=>exact⟨0,0,-1, [],d.drop 2,rfl,rfl,by omega,by omega,by omega,rfl,HB2.out.2.2,(hd.drop 2),HB2.out.2.1,HB2.out.1,by simp⟩
   case round=>
    obtain⟨i,lo,A,ks,l,rfl,rfl,hA,hlo,hi,hkl,hr,hbl2,hrow,hb,hnum⟩:=hrel
    have HA:=Hid.mk hA
    by_cases hlt:i<cnt
    ·have hlt':(i:Int)<(cnt:Int):=by omega
     obtain⟨j,hj⟩:∃j,cnt-i=j+1:=⟨cnt-i-1,by omega⟩
     rw [hj] at hnum
     by_cases k4:l.length<4
     ·have h3:=snumber_no hr 4 k4 (by omega)
      have HN:=Hid.mk (by rw [HR.out,hnum,rdNums_succ,if_pos k4];rfl:R=none)
      have HBb:=Hid.mk hb
      clear hr hrow hb hnum hA
      go_wp2_with fail
      refine h3.mono ?_
      rintro e w3 ⟨rfl,hw⟩
      have hw':=hw.symm
      subst hw'
      exact⟨rfl,Keeps.of_below _ HBb.out, .inr ⟨HN.out,rfl⟩⟩
     ·have h3:=snumber_ok hr hbl2 4 (by omega) (by omega) (by omega)
      rw [rdNums_succ,if_neg k4] at hnum
      have hgN:=hrow.lt
      generalize le (l.take 4)=b at*
      by_cases kb:lo≤b∧b<blocks
      ·rw [if_pos kb] at hnum
       have kb1:A<(b:Int):=by omega
       have hnum':rdNums blocks cnt 0 (d.drop 2)=(rdNums blocks (cnt-(i+1)) (b+1) (l.drop 4)).map (fun x=>((ks ++ [b]) ++ x.1,x.2)):=by
        rw [hnum,Option.map_map,show cnt-(i+1)=j by omega]
        congr 1
        funext x
        simp
       have HN:=Hid.mk (And.intro hnum' (And.intro hb (And.intro hrow (hbl2.drop 4))))
       clear hr hrow hb hnum hnum' hA
       go_wp2_with fail
       refine h3.mono ?_
       rintro e w3 ⟨rfl,hr3,hk3⟩
       have hrow3:=HN.out.2.2.1.agree (hk3.block _ hgN (by omega))
       obtain⟨⟨u0,q0⟩,q1⟩:=hrow3.there (j:=i) hlt
       have hb3:=HN.out.2.1.trans (hk3.below (fun k e=>by omega) HN.out.2.1.size)
       have hput:=hrow3.putAt hkl hlt b
       have hks:=Keeps.setCell (F:=fun k=>k=w1.heap.size) w3 (p:=⟨w1.heap.size,i,none⟩) rfl (.int .i64 (b:Int))
       have hr4:=hr3.mono hks (by omega) (fun x hx e=>by rw [HAv.out] at hx;omega)
       have hb4:=hb3.trans (hks.below (fun k e=>by omega) hb3.size)
       have HP:=Hid.mk (And.intro hput (And.intro hr4 hb4))
       clear h3 hr3 hk3 hrow3 hb3 hput hks hr4 hb4
       go_wp2_with fail
       refine(smust_t w3).mono ?_
       rintro e wy ⟨rfl,hwy⟩
       have hwy':=hwy.symm
       subst hwy'
       have HKK:=Hid.mk (And.intro hkl (And.intro kb hbl))
       clear hwy hj hkl kb kb1 k4 hdl hd hn hbl hc65 k2 hml
       go_wp2
       go_roundw
       case rel=>exact⟨i+1,b+1,_,ks ++ [b],l.drop 4,by go_num,rfl,by omega,by have:=HKK.out.2;omega,by omega,by rw [List.length_append,HKK.out.1];rfl,HP.out.2.1,HN.out.2.2.2,HP.out.1,HP.out.2.2,HN.out.1⟩
       case measure=>exact smeas (S:=cnt) (i:=i) (k:=i+1) hlt (by omega)
      ·rw [if_neg kb] at hnum
       have HN:=Hid.mk (by rw [HR.out,hnum];rfl:R=none)
       have HBb:=Hid.mk hb
       have key:(¬A<(b:Int))∨(A<(b:Int)∧decide (b<blocks)=false):=by
        rw [decide_eq_false_iff_not]
        omega
       clear hr hrow hb hnum hA
       rcases key with kb1|⟨kb1,kb2⟩
       all_goals
        go_wp2_with fail
        refine h3.mono ?_
        rintro e w3 ⟨rfl,hr3,hk3⟩
        have hb3:=HBb.out.trans (hk3.below (fun k e=>by omega) HBb.out.size)
        clear h3 hr3 hk3
        go_wp2_with fail
        refine(smust_f w3).mono ?_
        rintro e w4 ⟨rfl,hw⟩
        have hw':=hw.symm
        subst hw'
        exact⟨rfl,Keeps.of_below _ hb3, .inr ⟨HN.out,rfl⟩⟩
    ·have hlt':¬(i:Int)<(cnt:Int):=by omega
     obtain rfl:i=cnt:=by omega
     rw [Nat.sub_self] at hnum
     simp only [rdNums,Option.map_some,List.append_nil] at hnum
     have hkb:=(rdNums_len hnum).2
     have hRR:R=rdTail (rdCons ks l):=by rw [HR.out,hnum]
     have hgN:=hrow.lt
     subst hkl
     have HRR:=Hid.mk hRR
     have HI:=Hid.mk (And.intro hr (And.intro hbl2 (And.intro hrow (And.intro hb hkb))))
     clear hr hbl2 hrow hb hkb hnum hRR HA hA HR
     obtain⟨W,hW⟩:∃W,W=wr:=⟨_,rfl⟩
     subst hW
     go_wp2
     go_loopw [49] (fun iv wx=>∃(i:Nat) (l':List Int) (cs:CM),iv= .int .i64 i∧i≤ks.length∧SRd Av wx w.heap.size l'∧Bytes l'∧NRow wx w1.heap.size ks.length ks∧Ch wx m (CM.over ms cs)∧Keeps (fun k=>k=m) w wx∧rdCons ks l=(rdCons (ks.drop i) l').map (fun x=>(cs ++ x.1,x.2))) (fun iv _=>ks.length-(intOf iv).toNat)
     case atStart=>exact⟨0,l, [],rfl,Nat.zero_le _,HI.out.1,HI.out.2.1,HI.out.2.2.1,HM.out.1.later (HI.out.2.2.2.1.mono (Nat.le_refl _)),Keeps.of_below _ HI.out.2.2.2.1,by simp⟩
     case round=>
      obtain⟨i,l',cs,rfl,hi2,hr2,hbl3,hrow2,hch,hkp,hcons⟩:=hrel
      have HI2:=Hid.mk (And.intro hr2 (And.intro hbl3 (And.intro hrow2 (And.intro hch (And.intro hkp hcons)))))
      clear hr2 hbl3 hrow2 hch hkp hcons
      by_cases hlt2:i<ks.length
      ·have hlt2':(i:Int)<(ks.length:Int):=by omega
       have hkb:=HI.out.2.2.2.2 _ (List.getElem_mem hlt2)
       have c0:=HI2.out.2.2.1.cell hlt2
       have hcons:=HI2.out.2.2.2.2.2
       rw [List.drop_eq_getElem_cons hlt2,rdCons_cons] at hcons
       generalize ks[i]=k at*
       by_cases k5:l'.length<512
       ·have h5:=stake_no HI2.out.1 512 k5 (by omega)
        have HN:=Hid.mk (by rw [HRR.out,hcons,if_pos k5];rfl:R=none)
        have HK:=Hid.mk HI2.out.2.2.2.2.1
        clear hcons HI2 HI
        go_wp2_with fail
        refine h5.mono ?_
        rintro e w3 ⟨rfl,hw⟩
        have hw':=hw.symm
        subst hw'
        exact⟨rfl,HK.out, .inr ⟨HN.out,rfl⟩⟩
       ·have h5:=stake_ok HI2.out.1 512 (by omega) (by omega)
        rw [if_neg k5,Option.map_map] at hcons
        have hcons':rdCons ks l=(rdCons (ks.drop (i+1)) (l'.drop 512)).map (fun x=>((cs ++ [(k,l'.take 512)]) ++ x.1,x.2)):=by
         rw [hcons]
         congr 1
         funext x
         simp
        have hCl:(l'.take 512).length=512:=by rw [List.length_take];omega
        have hCb:=HI2.out.2.1.take 512
        have HC:=Hid.mk (And.intro hcons' (HI2.out.2.1.drop 512))
        have hinfo:=infoConL hCl
        obtain⟨C,hC⟩:∃C,C=l'.take 512:=⟨_,rfl⟩
        rw [←hC] at hCl hCb hinfo HC h5
        obtain⟨A,hA⟩:∃A,A=bs C:=⟨_,rfl⟩
        rw [←hA] at hinfo
        have HA:=Hid.mk hA
        clear hcons hcons' hA hC HI
        go_wp2_with fail
        refine h5.mono ?_
        rintro e w3 ⟨b,o,c',rfl,hsrc,hbr,hr3,hk3⟩
        have hmr:¬m=w.heap.size:=by omega
        obtain⟨wU,hrun,hchU,hkU,hszU⟩:=(HI2.out.2.2.2.1.keep hk3 hmr).store k (by omega) C hCl hCb
        have hra:w3.rangeAt b o A:=by rw [HA.out];exact src_range hsrc
        have hrun':(Instr.mapUpdate 94 (.map (some m)) (.int .i64 (k:Int)) (.agg A.toArray)).run Tryz.prog w3= .ok () wU:=by rw [HA.out];exact hrun
        have hrU:=hr3.mono hkU (by omega) (fun x hx e=>by rw [HAv.out] at hx;exact hx.1 e)
        have hgN2:=HI2.out.2.2.1.lt
        have hrowU:=(HI2.out.2.2.1.agree (hk3.block _ hgN2 (by omega))).agree (hkU.block _ (Nat.lt_of_lt_of_le hgN2 hk3.size) (by omega))
        have hkpU:=(HI2.out.2.2.2.2.1.trans hk3 (fun j e=> .inr (by omega))).trans hkU (fun _ h=> .inl h)
        have HU:=Hid.mk (And.intro hrU (And.intro hrowU (And.intro hchU hkpU)))
        clear h5 hsrc hbr hr3 hk3 hrun hchU hkU hszU hrU hrowU hkpU HI2 hkb hgN hgN2 k5 hCl hCb hmr hdl hd hn hbl hc65 k2
        have hac:=arrayCon
        go_wp2_with (refine wpList_load_mid rfl 112 _ rfl b o rfl A _ hra Tryz.underlying112 rfl hinfo ?_)
        go_roundw
        case rel=>exact⟨i+1,l'.drop 512,cs ++ [(k,C)],by go_num,by omega,HU.out.1,HC.out.2,HU.out.2.1,by rw [over_snoc];exact HU.out.2.2.1,HU.out.2.2.2,HC.out.1⟩
        case measure=>exact smeas (S:=ks.length) (i:=i) (k:=i+1) hlt2 (by omega)
      ·have hlt2':¬(i:Int)<(ks.length:Int):=by omega
       have hcons:=HI2.out.2.2.2.2.2
       rw [List.drop_eq_nil_of_le (by omega)] at hcons
       simp only [rdCons,Option.map_some,List.append_nil] at hcons
       obtain⟨a',n',c',h0,hs',_⟩:=HI2.out.1
       have hl':=hs'.1
       have q0:=cell_of_block h0 (j:=0) rfl
       have HK:=Hid.mk (And.intro HI2.out.2.2.2.2.1 HI2.out.2.2.2.1)
       have hRl:=HRR.out
       rw [hcons] at hRl
       clear hs' h0 HI2 HI hcons HRR
       by_cases k6:n'=0
       ·have d6:(((n':Nat):Int) == 0)=true:=by rw [k6];rfl
        obtain rfl:l'= []:=List.eq_nil_of_length_eq_zero (by omega)
        have HN:=Hid.mk (show R=some cs from hRl)
        have hm3:=smust_t wr
        clear hRl k6 hl'
        go_wp2_with (go_at_call 138;refine hm3.mono ?_;rintro e wy ⟨rfl,hwy⟩;have hwy':=hwy.symm;subst hwy';clear hwy)
        go_end0
        exact⟨HK.out.1, .inl ⟨cs,HN.out,rfl,HK.out.2⟩⟩
       ·have d6:(((n':Nat):Int) == 0)=false:=by
         rw [beq_eq_false_iff_ne]
         omega
        have HN:Hid (R=none):=by
         cases l' with
         |nil=>simp at hl';omega
         |cons x t=>exact hRl
        clear hRl k6 hl'
        go_wp2_with fail
        refine(smust_f wr).mono ?_
        rintro e w3 ⟨rfl,hw⟩
        have hw':=hw.symm
        subst hw'
        exact⟨rfl,HK.out.1, .inr ⟨HN.out,rfl⟩⟩
  ·rw [if_neg k2] at hR
   have HR:=Hid.mk hR
   clear hR
   have key:(¬(1:Int)≤(cnt:Int))∨((1:Int)≤(cnt:Int)∧decide ((cnt:Int)≤16)=false):=by
    rw [decide_eq_false_iff_not]
    omega
   rcases key with k21|⟨k21,k22⟩
   all_goals
    go_enter Tryz.func102,Tryz.ntmps102
    go_wp2_with fail
    refine h1.mono ?_
    rintro e w1 ⟨rfl,hr1,hk1⟩
    have hb1:=HB.out.trans (hk1.below (fun k e=>by omega) (by omega))
    clear h1 hk1 hr1
    go_wp2_with fail
    refine(smust_f w1).mono ?_
    rintro e w2 ⟨rfl,hw⟩
    have hw':=hw.symm
    subst hw'
    exact⟨rfl,Keeps.of_below _ hb1, .inr ⟨HR.out,rfl⟩⟩
end Go.Proofs.YthohoicgidjpfabGreat
end
