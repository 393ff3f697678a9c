import Derived.Test.YtmgknloijelbiaaGreatW24
import Derived.Deep.RegionHeld3
import Derived.Laws.Shifts
section
namespace Go.Proofs.YtmgknloijelbiaaGreat
open Go.RowKit
theorem lowBit_none {l:List Int}:∀{n a:Nat},lowBit l a n=none→∀i,a≤i→i<a+n→bitOf l i=true
 |0,a,_,i,h1,h2=>by omega
 |n+1,a,h,i,h1,h2=>by
  unfold lowBit at h
  split at h
  ·cases h
  ·rename_i h3
   by_cases e:i=a
   ·subst e;simpa using h3
   ·exact lowBit_none h i (by omega) (by omega)
end Go.Proofs.YtmgknloijelbiaaGreat
end

section
namespace Go.Proofs.YtmgknloijelbiaaGreat
open Go.RowKit
theorem haltIf_f (w:World) (x:Int):Calls Tryz.prog 96 #[.bool false, .int .i64 x] w fun e w'=>e= .returned (.tuple #[])∧w'=w:=by
 go_enter Tryz.func96,Tryz.ntmps96
 go_wp2
 go_end0
 exact⟨rfl,rfl⟩
theorem haltIf_t (w:World) (x:Int):Calls Tryz.prog 96 #[.bool true, .int .i64 x] w fun e w'=>e= .panicked (gave x)∧w'=w:=by
 go_enter Tryz.func96,Tryz.ntmps96
 go_wp2
 exact⟨rfl,rfl,rfl⟩
end Go.Proofs.YtmgknloijelbiaaGreat
end

section
namespace Go.Proofs.YtmgknloijelbiaaGreat
open Go.RowKit Go.Maps
def TG.pdrop (T:TG) (G:SG) (S:DS) (k:STK) (x:Int):Int×TG:=
 if T.state G S≠0 then (T.state G S,T) else
 if x<(k.first:Int)∨(k.first:Int)+k.cnt-1<x then (11,T) else
 if T.refusal G S k.bm≠0 then (T.refusal G S k.bm,T) else
 if bitOf (T.sees G S k.bm) (x.toNat-k.zero)=false then (62,T) else T.put G S k.bm (turnBit (T.sees G S k.bm) (x.toNat-k.zero))
def TG.caught (T:TG) (G:SG) (S:DS) (e:Int):TG:=if e=0 then T else (T.spoil G S e).2
section
variable {w w':World} {F:Nat→Prop} {p s cR q l m t n a:Nat} {S:DS} {G:SG} {T:TG}
end
end Go.Proofs.YtmgknloijelbiaaGreat
end

section
namespace Go.Proofs.YtmgknloijelbiaaGreat
open Go.RowKit Go.Maps
section
variable {w:World} {F:Nat→Prop} {p s cR q l m t n a gp ge:Nat} {S:DS} {G:SG} {T:TG}
set_option maxRecDepth 20000 in
set_option maxHeartbeats 4000000 in
theorem dropBC_idle (hp:PoolAt w F a t n) (h1:w.heap[gp]? =some (.cells #[.pointer (some ⟨a,0,none⟩)] 25 (0,0))) {x:Value} (h2:w.heap[ge]? =some (.cells #[x] 34 (0,0))):
  CallsD Tryz.prog 61 #[.pointer (some ⟨gp,0,none⟩), .pointer (some ⟨ge,0,none⟩)] .returning w fun e u' w'=>e= .returned (.tuple #[])∧u'= .returning∧PutsE w w' ge 0:=by
 have c0:w.drew.cell? ⟨gp,0,none⟩=some (.pointer (some ⟨a,0,none⟩)):=cell_of_block (w:=w.drew) h1 (j:=0) rfl
 have c1:w.drew.cell? ⟨a,0,none⟩=some (.pointer (some ⟨t,0,none⟩)):=cell_of_block (w:=w.drew) hp.b (j:=0) rfl
 have c2:w.drew.cell? ⟨ge,0,none⟩=some x:=cell_of_block (w:=w.drew) h2 (j:=0) rfl
 have f2:w.drew.frozen? ⟨ge,0,none⟩=false:=frozen_of_block (w:=w.drew) h2 0
 have hc:=caught_nil (.func (.func 30) #[.pointer (some ⟨t,0,none⟩)] #[]) w.drew
 have HE:=Hid.mk (putsE (w:=w) (w':=w.drew) (x:=0) (.int .i64 0) rfl (Keeps.drew _ w) h2)
 have hdr:w.drew.setCell ⟨ge,0,none⟩ (.int .i64 0)=(w.setCell ⟨ge,0,none⟩ (.int .i64 0)).drew:=rfl
 rw [hdr] at HE
 clear h1 h2 hp hdr
 refine callsD_of_wpS Tryz.func61 rfl fun c₀ cs hu=>?_
 refine wpS_region_six (by kernel_rfl) ⟨rfl,by decide+kernel,by decide+kernel,by decide+kernel⟩ (fun o ho=>?_)
 simp only [List.mem_cons,List.not_mem_nil,or_false] at ho
 rcases ho with rfl|rfl|rfl|rfl|rfl|rfl
 all_goals
  simp [wpOpsS,go_sem,recoverD,hu,c0,c1,Tryz.ntmps61]
  refine hc.mono ?_
  rintro e w2 ⟨rfl,hw2⟩
  subst hw2
  simp [go_sem,c2,f2,bodyPostS,results,Tryz.results61]
  exact⟨c₀.mode,rfl,hu,HE.out⟩
set_option maxRecDepth 20000 in
set_option maxHeartbeats 4000000 in
theorem dropBC_panic (h:TX w F p s cR q l m t n S G T) (hp:PoolAt w F a t n) (h1:w.heap[gp]? =some (.cells #[.pointer (some ⟨a,0,none⟩)] 25 (0,0))) {y:Value} (h2:w.heap[ge]? =some (.cells #[y] 34 (0,0))) (hgt:ge≠t) (x:Int):
  CallsD Tryz.prog 61 #[.pointer (some ⟨gp,0,none⟩), .pointer (some ⟨ge,0,none⟩)] (.panicking (gave x)) w fun e u' w'=>e= .returned (.tuple #[])∧u'= .panicking [{v:= .iface 34 (.int .i64 x),recovered:=true}]∧∃w2,TX w2 F p s cR q l m t n S G (T.spoil G S x).2∧Keeps (fun k=>k=t) w w2∧PutsE w2 w' ge x:=by
 have c0:w.drew.cell? ⟨gp,0,none⟩=some (.pointer (some ⟨a,0,none⟩)):=cell_of_block (w:=w.drew) h1 (j:=0) rfl
 have c1:w.drew.cell? ⟨a,0,none⟩=some (.pointer (some ⟨t,0,none⟩)):=cell_of_block (w:=w.drew) hp.b (j:=0) rfl
 have hdw:Below w.heap.size w w.drew:=below_drew (Below.refl _ _)
 have hc:=caught_err (h.later hdw) x
 have HB:Hid (∀w2,Keeps (fun k=>k=t) w.drew w2→w2.heap[ge]? =some (.cells #[y] 34 (0,0))∧Keeps (fun k=>k=t) w w2):=fun w2 hk=>⟨(hk.block _ (lt_there h2) hgt).trans h2,(Keeps.drew _ w).trans hk (fun _ h=> .inl h)⟩
 clear h h1 h2 hp hdw
 refine callsD_of_wpS Tryz.func61 rfl fun c₀ cs hu=>?_
 refine wpS_region_six (by kernel_rfl) ⟨rfl,by decide+kernel,by decide+kernel,by decide+kernel⟩ (fun o ho=>?_)
 simp only [List.mem_cons,List.not_mem_nil,or_false] at ho
 rcases ho with rfl|rfl|rfl|rfl|rfl|rfl
 all_goals
  simp [wpOpsS,go_sem,recoverD,hu,c0,c1,Tryz.ntmps61]
  refine hc.mono ?_
  rintro e w2 ⟨rfl,hx2,hk2⟩
  obtain⟨hb2,hk3⟩:=HB.out w2 hk2
  have c2:w2.cell? ⟨ge,0,none⟩=some y:=cell_of_block hb2 (j:=0) rfl
  have f2:w2.frozen? ⟨ge,0,none⟩=false:=frozen_of_block hb2 0
  simp [go_sem,c2,f2,bodyPostS,results,Tryz.results61]
  exact⟨w2,hx2,hk3,putsE _ rfl (Keeps.refl _ _) hb2⟩
end
end Go.Proofs.YtmgknloijelbiaaGreat
end

section
namespace Go.Proofs.YtmgknloijelbiaaGreat
open Go.RowKit Go.Maps
section
variable {w:World} {F:Nat→Prop} {p s cR q l m t n a gp ge:Nat} {S:DS} {G:SG} {T:TG}
set_option maxRecDepth 20000 in
set_option maxHeartbeats 4000000 in
theorem dropNC_idle (hp:PoolAt w F a t n) (h1:w.heap[gp]? =some (.cells #[.pointer (some ⟨a,0,none⟩)] 25 (0,0))) {x:Value} (h2:w.heap[ge]? =some (.cells #[x] 34 (0,0))):
  CallsD Tryz.prog 59 #[.pointer (some ⟨gp,0,none⟩), .pointer (some ⟨ge,0,none⟩)] .returning w fun e u' w'=>e= .returned (.tuple #[])∧u'= .returning∧PutsE w w' ge 0:=by
 have c0:w.drew.cell? ⟨gp,0,none⟩=some (.pointer (some ⟨a,0,none⟩)):=cell_of_block (w:=w.drew) h1 (j:=0) rfl
 have c1:w.drew.cell? ⟨a,0,none⟩=some (.pointer (some ⟨t,0,none⟩)):=cell_of_block (w:=w.drew) hp.b (j:=0) rfl
 have c2:w.drew.cell? ⟨ge,0,none⟩=some x:=cell_of_block (w:=w.drew) h2 (j:=0) rfl
 have f2:w.drew.frozen? ⟨ge,0,none⟩=false:=frozen_of_block (w:=w.drew) h2 0
 have hc:=caught_nil (.func (.func 30) #[.pointer (some ⟨t,0,none⟩)] #[]) w.drew
 have HE:=Hid.mk (putsE (w:=w) (w':=w.drew) (x:=0) (.int .i64 0) rfl (Keeps.drew _ w) h2)
 have hdr:w.drew.setCell ⟨ge,0,none⟩ (.int .i64 0)=(w.setCell ⟨ge,0,none⟩ (.int .i64 0)).drew:=rfl
 rw [hdr] at HE
 clear h1 h2 hp hdr
 refine callsD_of_wpS Tryz.func59 rfl fun c₀ cs hu=>?_
 refine wpS_region_six (by kernel_rfl) ⟨rfl,by decide+kernel,by decide+kernel,by decide+kernel⟩ (fun o ho=>?_)
 simp only [List.mem_cons,List.not_mem_nil,or_false] at ho
 rcases ho with rfl|rfl|rfl|rfl|rfl|rfl
 all_goals
  simp [wpOpsS,go_sem,recoverD,hu,c0,c1,Tryz.ntmps59]
  refine hc.mono ?_
  rintro e w2 ⟨rfl,hw2⟩
  subst hw2
  simp [go_sem,c2,f2,bodyPostS,results,Tryz.results59]
  exact⟨c₀.mode,rfl,hu,HE.out⟩
set_option maxRecDepth 20000 in
set_option maxHeartbeats 4000000 in
theorem dropNC_panic (h:TX w F p s cR q l m t n S G T) (hp:PoolAt w F a t n) (h1:w.heap[gp]? =some (.cells #[.pointer (some ⟨a,0,none⟩)] 25 (0,0))) {y:Value} (h2:w.heap[ge]? =some (.cells #[y] 34 (0,0))) (hgt:ge≠t) (x:Int):
  CallsD Tryz.prog 59 #[.pointer (some ⟨gp,0,none⟩), .pointer (some ⟨ge,0,none⟩)] (.panicking (gave x)) w fun e u' w'=>e= .returned (.tuple #[])∧u'= .panicking [{v:= .iface 34 (.int .i64 x),recovered:=true}]∧∃w2,TX w2 F p s cR q l m t n S G (T.spoil G S x).2∧Keeps (fun k=>k=t) w w2∧PutsE w2 w' ge x:=by
 have c0:w.drew.cell? ⟨gp,0,none⟩=some (.pointer (some ⟨a,0,none⟩)):=cell_of_block (w:=w.drew) h1 (j:=0) rfl
 have c1:w.drew.cell? ⟨a,0,none⟩=some (.pointer (some ⟨t,0,none⟩)):=cell_of_block (w:=w.drew) hp.b (j:=0) rfl
 have hdw:Below w.heap.size w w.drew:=below_drew (Below.refl _ _)
 have hc:=caught_err (h.later hdw) x
 have HB:Hid (∀w2,Keeps (fun k=>k=t) w.drew w2→w2.heap[ge]? =some (.cells #[y] 34 (0,0))∧Keeps (fun k=>k=t) w w2):=fun w2 hk=>⟨(hk.block _ (lt_there h2) hgt).trans h2,(Keeps.drew _ w).trans hk (fun _ h=> .inl h)⟩
 clear h h1 h2 hp hdw
 refine callsD_of_wpS Tryz.func59 rfl fun c₀ cs hu=>?_
 refine wpS_region_six (by kernel_rfl) ⟨rfl,by decide+kernel,by decide+kernel,by decide+kernel⟩ (fun o ho=>?_)
 simp only [List.mem_cons,List.not_mem_nil,or_false] at ho
 rcases ho with rfl|rfl|rfl|rfl|rfl|rfl
 all_goals
  simp [wpOpsS,go_sem,recoverD,hu,c0,c1,Tryz.ntmps59]
  refine hc.mono ?_
  rintro e w2 ⟨rfl,hx2,hk2⟩
  obtain⟨hb2,hk3⟩:=HB.out w2 hk2
  have c2:w2.cell? ⟨ge,0,none⟩=some y:=cell_of_block hb2 (j:=0) rfl
  have f2:w2.frozen? ⟨ge,0,none⟩=false:=frozen_of_block hb2 0
  simp [go_sem,c2,f2,bodyPostS,results,Tryz.results59]
  exact⟨w2,hx2,hk3,putsE _ rfl (Keeps.refl _ _) hb2⟩
set_option maxRecDepth 20000 in
set_option maxHeartbeats 4000000 in
theorem leftC_idle (hp:PoolAt w F a t n) (h1:w.heap[gp]? =some (.cells #[.pointer (some ⟨a,0,none⟩)] 25 (0,0))) {x:Value} (h2:w.heap[ge]? =some (.cells #[x] 34 (0,0))):
  CallsD Tryz.prog 28 #[.pointer (some ⟨gp,0,none⟩), .pointer (some ⟨ge,0,none⟩)] .returning w fun e u' w'=>e= .returned (.tuple #[])∧u'= .returning∧PutsE w w' ge 0:=by
 have c0:w.drew.cell? ⟨gp,0,none⟩=some (.pointer (some ⟨a,0,none⟩)):=cell_of_block (w:=w.drew) h1 (j:=0) rfl
 have c1:w.drew.cell? ⟨a,0,none⟩=some (.pointer (some ⟨t,0,none⟩)):=cell_of_block (w:=w.drew) hp.b (j:=0) rfl
 have c2:w.drew.cell? ⟨ge,0,none⟩=some x:=cell_of_block (w:=w.drew) h2 (j:=0) rfl
 have f2:w.drew.frozen? ⟨ge,0,none⟩=false:=frozen_of_block (w:=w.drew) h2 0
 have hc:=caught_nil (.func (.func 30) #[.pointer (some ⟨t,0,none⟩)] #[]) w.drew
 have HE:=Hid.mk (putsE (w:=w) (w':=w.drew) (x:=0) (.int .i64 0) rfl (Keeps.drew _ w) h2)
 have hdr:w.drew.setCell ⟨ge,0,none⟩ (.int .i64 0)=(w.setCell ⟨ge,0,none⟩ (.int .i64 0)).drew:=rfl
 rw [hdr] at HE
 clear h1 h2 hp hdr
 refine callsD_of_wpS Tryz.func28 rfl fun c₀ cs hu=>?_
 refine wpS_region_six (by kernel_rfl) ⟨rfl,by decide+kernel,by decide+kernel,by decide+kernel⟩ (fun o ho=>?_)
 simp only [List.mem_cons,List.not_mem_nil,or_false] at ho
 rcases ho with rfl|rfl|rfl|rfl|rfl|rfl
 all_goals
  simp [wpOpsS,go_sem,recoverD,hu,c0,c1,Tryz.ntmps28]
  refine hc.mono ?_
  rintro e w2 ⟨rfl,hw2⟩
  subst hw2
  simp [go_sem,c2,f2,bodyPostS,results,Tryz.results28]
  exact⟨c₀.mode,rfl,hu,HE.out⟩
set_option maxRecDepth 20000 in
set_option maxHeartbeats 4000000 in
theorem leftC_panic (h:TX w F p s cR q l m t n S G T) (hp:PoolAt w F a t n) (h1:w.heap[gp]? =some (.cells #[.pointer (some ⟨a,0,none⟩)] 25 (0,0))) {y:Value} (h2:w.heap[ge]? =some (.cells #[y] 34 (0,0))) (hgt:ge≠t) (x:Int):
  CallsD Tryz.prog 28 #[.pointer (some ⟨gp,0,none⟩), .pointer (some ⟨ge,0,none⟩)] (.panicking (gave x)) w fun e u' w'=>e= .returned (.tuple #[])∧u'= .panicking [{v:= .iface 34 (.int .i64 x),recovered:=true}]∧∃w2,TX w2 F p s cR q l m t n S G (T.spoil G S x).2∧Keeps (fun k=>k=t) w w2∧PutsE w2 w' ge x:=by
 have c0:w.drew.cell? ⟨gp,0,none⟩=some (.pointer (some ⟨a,0,none⟩)):=cell_of_block (w:=w.drew) h1 (j:=0) rfl
 have c1:w.drew.cell? ⟨a,0,none⟩=some (.pointer (some ⟨t,0,none⟩)):=cell_of_block (w:=w.drew) hp.b (j:=0) rfl
 have hdw:Below w.heap.size w w.drew:=below_drew (Below.refl _ _)
 have hc:=caught_err (h.later hdw) x
 have HB:Hid (∀w2,Keeps (fun k=>k=t) w.drew w2→w2.heap[ge]? =some (.cells #[y] 34 (0,0))∧Keeps (fun k=>k=t) w w2):=fun w2 hk=>⟨(hk.block _ (lt_there h2) hgt).trans h2,(Keeps.drew _ w).trans hk (fun _ h=> .inl h)⟩
 clear h h1 h2 hp hdw
 refine callsD_of_wpS Tryz.func28 rfl fun c₀ cs hu=>?_
 refine wpS_region_six (by kernel_rfl) ⟨rfl,by decide+kernel,by decide+kernel,by decide+kernel⟩ (fun o ho=>?_)
 simp only [List.mem_cons,List.not_mem_nil,or_false] at ho
 rcases ho with rfl|rfl|rfl|rfl|rfl|rfl
 all_goals
  simp [wpOpsS,go_sem,recoverD,hu,c0,c1,Tryz.ntmps28]
  refine hc.mono ?_
  rintro e w2 ⟨rfl,hx2,hk2⟩
  obtain⟨hb2,hk3⟩:=HB.out w2 hk2
  have c2:w2.cell? ⟨ge,0,none⟩=some y:=cell_of_block hb2 (j:=0) rfl
  have f2:w2.frozen? ⟨ge,0,none⟩=false:=frozen_of_block hb2 0
  simp [go_sem,c2,f2,bodyPostS,results,Tryz.results28]
  exact⟨w2,hx2,hk3,putsE _ rfl (Keeps.refl _ _) hb2⟩
end
end Go.Proofs.YtmgknloijelbiaaGreat
end
