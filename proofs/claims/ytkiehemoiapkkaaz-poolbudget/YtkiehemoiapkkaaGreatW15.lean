import Derived.Test.YtkiehemoiapkkaaGreatW14
import Derived.Recover
import Derived.Orders
section
namespace Go.Proofs.YtkiehemoiapkkaaGreat
open Go.RowKit Go.Maps
section
variable {P:Program} {ops:Array Oper} {md:Region.Mode}
theorem lin_one {fuel t i:Nat} {listed:Array Bool} (h:Region.ready md ops listed= [i]):Region.linearise.go md ops (fuel+1) t listed []=i :: Region.linearise.go md ops fuel t (listed.setIfInBounds i true) []:=by
 simp only [Region.linearise.go]
 change (match (Region.ready md ops listed)[t%(Region.ready md ops listed).length]? with
   |some i=>Region.linearise.go md ops fuel (t / (Region.ready md ops listed).length) (listed.setIfInBounds i true) [i]
   |none=> [].reverse)=_
 rw [h]
 simp only [List.length_singleton,Nat.mod_one,Nat.div_one,List.getElem?_cons_zero]
 rw [linearise_go_acc]
 rfl
theorem lin_two {fuel t i j:Nat} {listed:Array Bool} (h:Region.ready md ops listed= [i,j]):∃t',Region.linearise.go md ops (fuel+1) t listed []=i :: Region.linearise.go md ops fuel t' (listed.setIfInBounds i true) []∨Region.linearise.go md ops (fuel+1) t listed []=j :: Region.linearise.go md ops fuel t' (listed.setIfInBounds j true) []:=by
 refine⟨t / 2,?_⟩
 simp only [Region.linearise.go]
 change (match (Region.ready md ops listed)[t%(Region.ready md ops listed).length]? with
   |some i=>Region.linearise.go md ops fuel (t / (Region.ready md ops listed).length) (listed.setIfInBounds i true) [i]
   |none=> [].reverse)=_∨(match (Region.ready md ops listed)[t%(Region.ready md ops listed).length]? with
   |some i=>Region.linearise.go md ops fuel (t / (Region.ready md ops listed).length) (listed.setIfInBounds i true) [i]
   |none=> [].reverse)=_
 rw [h]
 have h2:t%2=0∨t%2=1:=by omega
 simp only [List.length_cons,List.length_nil,Nat.zero_add,Nat.reduceAdd]
 rcases h2 with h2|h2
 ·left
  rw [h2]
  simp only [List.getElem?_cons_zero]
  rw [linearise_go_acc]
  rfl
 ·right
  rw [h2]
  simp only [List.getElem?_cons_succ,List.getElem?_cons_zero]
  rw [linearise_go_acc]
  rfl
theorem wpS_region_draw {Q:Exit→Act→List Frame→World→Prop} {a:Act} {cs:List Frame} {w:World} {id:Nat} (hm:P.follows .mixedOrders=true)
    (h:∀t,wpOpsS P ops Q (Region.linearise.go .any ops ops.size t (Array.replicate ops.size false) []) a cs w.drew):(Code.region id ops true).wpS P Q a cs w:=by
 intro b k hb hr
 have h1:=h (w.tape w.drawn (.order b.fn id))
 obtain⟨e,a',cs',w',q,r⟩:=wp_opsS _ a cs _ h1 b k hb hr
 refine⟨e,a',cs',w',q, .of_steps (.one ?_) r⟩
 rw [step_region_draw]
 simp only [Region.schedule,hm,Bool.true_or,if_true]
 rfl
end
section
variable {w w':World} {F:Nat→Prop} {p s cR q l m t n a:Nat} {S:DS} {G:SG} {T:TG}
theorem thrown_nil (w:World):Calls Tryz.prog 60 #[.nilIface] w fun e w'=>e= .returned (.int .i64 0)∧w'=w:=by
 go_enter Tryz.func60,Tryz.ntmps60
 go_wp2
 go_ret
 exact⟨rfl,rfl⟩
theorem thrown_err (x:Int) (w:World):Calls Tryz.prog 60 #[.iface 39 (.int .i64 x)] w fun e w'=>e= .returned (.int .i64 x)∧w'=w:=by
 have hta:∀w,(Instr.typeAssert (.iface 39 (.int .i64 x)) 20 39 false).run Tryz.prog w= .ok (.int .i64 x) w:=fun _=>by kernel_rfl
 go_enter Tryz.func60,Tryz.ntmps60
 go_wp2
 go_ret
 exact⟨rfl,rfl⟩
theorem caught_nil (v:Value) (w:World):Calls Tryz.prog 23 #[.nilIface,v] w fun e w'=>e= .returned (.int .i64 0)∧w'=w:=by
 have h1:=thrown_nil w
 go_enter Tryz.func23,Tryz.ntmps23
 go_wp2_with fail
 refine h1.mono ?_
 rintro e w1 ⟨rfl,rfl⟩
 clear h1
 go_wp2
 go_ret
 exact⟨rfl,rfl⟩
theorem TX.spoil (h:TX w F p s cR q l m t n S G T) (x:Int):Calls Tryz.prog 24 #[.pointer (some ⟨t,0,none⟩), .int .i64 x] w fun e w'=>e= .returned (.int .i64 (T.spoil G S x).1)∧TX w' F p s cR q l m t n S G (T.spoil G S x).2∧Keeps (fun k=>k=t) w w':=by
 refine(spoil_any h.st h.tx x).mono ?_
 rintro e w' ⟨rfl,h1,h2⟩
 have hp:(T.spoil G S x).2.puts=T.puts:=by
  unfold TG.spoil
  split
  ·rfl
  ·split <;> rfl
 refine⟨rfl,h.turn h1 ?_ (h.st.d.keep h2 (fun k hk e=>h.tx.nt (e▸hk))) (h2.mono (fun _ h=> .inr (.inl h))) (by rw [hp];exact h.tx.kb),h2⟩
 rw [hp]
 exact h.tx.ch.keep h2 (fun e=>h.tx.tn e.symm)
theorem TG.spoil_0 (T:TG) (G:SG) (S:DS):(T.spoil G S 0).2=T:=by
 unfold TG.spoil
 split
 ·rfl
 ·rw [if_neg (by decide)]
set_option maxRecDepth 20000 in
theorem caught_err (h:TX w F p s cR q l m t n S G T) (x:Int):
  Calls Tryz.prog 23 #[.iface 39 (.int .i64 x), .func (.func 24) #[.pointer (some ⟨t,0,none⟩)] #[]] w fun e w'=>e= .returned (.int .i64 x)∧TX w' F p s cR q l m t n S G (T.spoil G S x).2∧Keeps (fun k=>k=t) w w':=by
 have h1:=h.spoil x
 have k1:=thrown_err x w
 by_cases hx:x=0
 ·subst hx
  have HN:Hid (TX w F p s cR q l m t n S G (T.spoil G S 0).2):=Hid.mk (by rw [TG.spoil_0];exact h)
  clear h h1
  go_enter Tryz.func23,Tryz.ntmps23
  go_wp2_with fail
  refine k1.mono ?_
  rintro e w1 ⟨rfl,rfl⟩
  clear k1
  go_wp2
  go_ret
  exact⟨rfl,HN.out,Keeps.refl _ _⟩
 ·have q0:(x != 0)=true:=by simp [hx]
  clear h hx
  go_enter Tryz.func23,Tryz.ntmps23
  go_wp2_with fail
  refine k1.mono ?_
  rintro e w1 ⟨rfl,rfl⟩
  clear k1
  go_wp2_with fail
  refine h1.mono ?_
  rintro e w2 ⟨rfl,hx,hk⟩
  have HN:=Hid.mk (And.intro hx hk)
  clear h1 hx hk
  go_wp2
  go_ret
  exact⟨rfl,HN.out⟩
end
end Go.Proofs.YtkiehemoiapkkaaGreat
end
section
namespace Go.Proofs.YtkiehemoiapkkaaGreat
open Go.RowKit Go.Maps
def msk (z:Bool) (k:Nat):Array Bool:= #[z,decide (1≤k),decide (2≤k),decide (3≤k),decide (4≤k),decide (5≤k),decide (6≤k),decide (7≤k)]
theorem msk_zero (k:Nat):(msk false k).setIfInBounds 0 true=msk true k:=rfl
theorem msk_next:∀(z:Bool) (k:Nat),k<7→(msk z k).setIfInBounds (k+1) true=msk z (k+1)
 |_,0,_=>rfl
 |_,1,_=>rfl
 |_,2,_=>rfl
 |_,3,_=>rfl
 |_,4,_=>rfl
 |_,5,_=>rfl
 |_,6,_=>rfl
structure Six (ops:Array Oper):Prop where
 n:ops.size=8
 a:∀k,k<5→Region.ready .any ops (msk false k)= [0,k+1]
 b:Region.ready .any ops (msk false 5)= [0]
 c:∀k,k<7→Region.ready .any ops (msk true k)= [k+1]
theorem Six.tail {ops:Array Oper} (h:Six ops):∀(r k t:Nat),k+r=7→Region.linearise.go .any ops r t (msk true k) []=List.range' (k+1) r
 |0,_,_,_=>rfl
 |r+1,k,t,hk=>by
  rw [lin_one (h.c k (by omega)),msk_next true k (by omega),h.tail r (k+1) t (by omega)]
  rfl
theorem Six.head {ops:Array Oper} (h:Six ops):∀(r k t:Nat),k+r=5→∃j,j≤r∧Region.linearise.go .any ops (8-k) t (msk false k) []=List.range' (k+1) j ++ 0 :: List.range' (k+j+1) (7-(k+j))
 |0,k,t,hk=>by
  obtain rfl:k=5:=by omega
  refine⟨0,Nat.le_refl _,?_⟩
  rw [show 8-5=2+1 from rfl,lin_one h.b,msk_zero,h.tail 2 5 t rfl]
  rfl
 |r+1,k,t,hk=>by
  rw [show 8-k=(7-k)+1 by omega]
  obtain⟨t',h1|h1⟩:=lin_two (fuel:=7-k) (t:=t) (h.a k (by omega))
  ·refine⟨0,Nat.zero_le _,?_⟩
   rw [h1,msk_zero,h.tail (7-k) k t' (by omega)]
   rfl
  ·obtain⟨j,hj,h2⟩:=h.head r (k+1) t' (by omega)
   refine⟨j+1,by omega,?_⟩
   rw [h1,msk_next false k (by omega),show 7-k=8-(k+1) by omega,h2,List.range'_succ,show k+1+j=k+(j+1) by omega]
   rfl
theorem Six.orders {ops:Array Oper} (h:Six ops) (t:Nat):Region.linearise.go .any ops ops.size t (Array.replicate ops.size false) []∈ [[0,1,2,3,4,5,6,7], [1,0,2,3,4,5,6,7], [1,2,0,3,4,5,6,7], [1,2,3,0,4,5,6,7], [1,2,3,4,0,5,6,7], [1,2,3,4,5,0,6,7]]:=by
 obtain⟨j,hj,e⟩:=h.head 5 0 t rfl
 rw [h.n]
 have e':Region.linearise.go .any ops 8 t (Array.replicate 8 false) []=List.range' 1 j ++ 0 :: List.range' (j+1) (7-j):=by
  have:=e
  simp only [Nat.zero_add,Nat.sub_zero] at this
  exact this
 rw [e']
 match j,hj with
 |0,_=>decide
 |1,_=>decide
 |2,_=>decide
 |3,_=>decide
 |4,_=>decide
 |5,_=>decide
theorem wpS_region_six {P:Program} {ops:Array Oper} {Q:Exit→Act→List Frame→World→Prop} {a:Act} {cs:List Frame} {w:World} {id:Nat} (hm:P.follows .mixedOrders=true) (h6:Six ops)
    (h:∀o∈ [[0,1,2,3,4,5,6,7], [1,0,2,3,4,5,6,7], [1,2,0,3,4,5,6,7], [1,2,3,0,4,5,6,7], [1,2,3,4,0,5,6,7], [1,2,3,4,5,0,6,7]],wpOpsS P ops Q o a cs w.drew):(Code.region id ops true).wpS P Q a cs w:=
 wpS_region_draw hm (fun t=>h _ (h6.orders t))
section
variable {w w':World} {F:Nat→Prop} {p s cR q l m t n a gp ge:Nat} {S:DS} {G:SG} {T:TG}
def PutsE (w w':World) (ge:Nat) (x:Int):Prop:=w'.heap[ge]? =some (.cells #[.int .i64 x] 39 (0,0))∧Keeps (fun k=>k=ge) w w'
theorem putsE {y:Value} {x:Int} (v:Value) (hv:v= .int .i64 x) (hk:Keeps (fun k=>k=ge) w w') (h2:w'.heap[ge]? =some (.cells #[y] 39 (0,0))):PutsE w (w'.setCell ⟨ge,0,none⟩ v) ge x:=by
 subst hv
 exact⟨(heap_setCell_same _ _ 0 _ _ _ h2).trans rfl,hk.trans (Keeps.setCell (F:=fun k=>k=ge) w' (p:=⟨ge,0,none⟩) rfl _) (fun _ h=> .inl h)⟩
end
end Go.Proofs.YtkiehemoiapkkaaGreat
end
section
namespace Go.Proofs.YtkiehemoiapkkaaGreat
open Go.RowKit Go.Maps
section
variable {w:World} {F:Nat→Prop} {p s cR q l m t n a gp ge:Nat} {S:DS} {G:SG} {T:TG}
set_option maxRecDepth 20000 in
set_option maxHeartbeats 4000000 in
theorem clearC_idle (hp:PoolAt w F a t n) (h1:w.heap[gp]? =some (.cells #[.pointer (some ⟨a,0,none⟩)] 35 (0,0))) {x:Value} (h2:w.heap[ge]? =some (.cells #[x] 39 (0,0))):
  CallsD Tryz.prog 22 #[.pointer (some ⟨gp,0,none⟩), .pointer (some ⟨ge,0,none⟩)] .returning w fun e u' w'=>e= .returned (.tuple #[])∧u'= .returning∧PutsE w w' ge 0:=by
 have c0:w.drew.cell? ⟨gp,0,none⟩=some (.pointer (some ⟨a,0,none⟩)):=cell_of_block (w:=w.drew) h1 (j:=0) rfl
 have c1:w.drew.cell? ⟨a,0,none⟩=some (.pointer (some ⟨t,0,none⟩)):=cell_of_block (w:=w.drew) hp.b (j:=0) rfl
 have c2:w.drew.cell? ⟨ge,0,none⟩=some x:=cell_of_block (w:=w.drew) h2 (j:=0) rfl
 have f2:w.drew.frozen? ⟨ge,0,none⟩=false:=frozen_of_block (w:=w.drew) h2 0
 have hc:=caught_nil (.func (.func 24) #[.pointer (some ⟨t,0,none⟩)] #[]) w.drew
 have HE:=Hid.mk (putsE (w:=w) (w':=w.drew) (x:=0) (.int .i64 0) rfl (Keeps.drew _ w) h2)
 have hdr:w.drew.setCell ⟨ge,0,none⟩ (.int .i64 0)=(w.setCell ⟨ge,0,none⟩ (.int .i64 0)).drew:=rfl
 rw [hdr] at HE
 clear h1 h2 hp hdr
 refine callsD_of_wpS Tryz.func22 rfl fun c₀ cs hu=>?_
 refine wpS_region_six (by kernel_rfl) ⟨rfl,by decide+kernel,by decide+kernel,by decide+kernel⟩ (fun o ho=>?_)
 simp only [List.mem_cons,List.not_mem_nil,or_false] at ho
 rcases ho with rfl|rfl|rfl|rfl|rfl|rfl
 all_goals
  simp [wpOpsS,go_sem,recoverD,hu,c0,c1,Tryz.ntmps22]
  refine hc.mono ?_
  rintro e w2 ⟨rfl,hw2⟩
  subst hw2
  simp [go_sem,c2,f2,bodyPostS,results,Tryz.results22]
  exact⟨c₀.mode,rfl,hu,HE.out⟩
set_option maxRecDepth 20000 in
set_option maxHeartbeats 4000000 in
theorem clearC_panic (h:TX w F p s cR q l m t n S G T) (hp:PoolAt w F a t n) (h1:w.heap[gp]? =some (.cells #[.pointer (some ⟨a,0,none⟩)] 35 (0,0))) {y:Value} (h2:w.heap[ge]? =some (.cells #[y] 39 (0,0))) (hgt:ge≠t) (x:Int):
  CallsD Tryz.prog 22 #[.pointer (some ⟨gp,0,none⟩), .pointer (some ⟨ge,0,none⟩)] (.panicking (gave x)) w fun e u' w'=>e= .returned (.tuple #[])∧u'= .panicking [{v:= .iface 39 (.int .i64 x),recovered:=true}]∧∃w2,TX w2 F p s cR q l m t n S G (T.spoil G S x).2∧Keeps (fun k=>k=t) w w2∧PutsE w2 w' ge x:=by
 have c0:w.drew.cell? ⟨gp,0,none⟩=some (.pointer (some ⟨a,0,none⟩)):=cell_of_block (w:=w.drew) h1 (j:=0) rfl
 have c1:w.drew.cell? ⟨a,0,none⟩=some (.pointer (some ⟨t,0,none⟩)):=cell_of_block (w:=w.drew) hp.b (j:=0) rfl
 have hdw:Below w.heap.size w w.drew:=below_drew (Below.refl _ _)
 have hc:=caught_err (h.later hdw) x
 have HB:Hid (∀w2,Keeps (fun k=>k=t) w.drew w2→w2.heap[ge]? =some (.cells #[y] 39 (0,0))∧Keeps (fun k=>k=t) w w2):=fun w2 hk=>⟨(hk.block _ (lt_there h2) hgt).trans h2,(Keeps.drew _ w).trans hk (fun _ h=> .inl h)⟩
 clear h h1 h2 hp hdw
 refine callsD_of_wpS Tryz.func22 rfl fun c₀ cs hu=>?_
 refine wpS_region_six (by kernel_rfl) ⟨rfl,by decide+kernel,by decide+kernel,by decide+kernel⟩ (fun o ho=>?_)
 simp only [List.mem_cons,List.not_mem_nil,or_false] at ho
 rcases ho with rfl|rfl|rfl|rfl|rfl|rfl
 all_goals
  simp [wpOpsS,go_sem,recoverD,hu,c0,c1,Tryz.ntmps22]
  refine hc.mono ?_
  rintro e w2 ⟨rfl,hx2,hk2⟩
  obtain⟨hb2,hk3⟩:=HB.out w2 hk2
  have c2:w2.cell? ⟨ge,0,none⟩=some y:=cell_of_block hb2 (j:=0) rfl
  have f2:w2.frozen? ⟨ge,0,none⟩=false:=frozen_of_block hb2 0
  simp [go_sem,c2,f2,bodyPostS,results,Tryz.results22]
  exact⟨w2,hx2,hk3,putsE _ rfl (Keeps.refl _ _) hb2⟩
set_option maxRecDepth 20000 in
set_option maxHeartbeats 4000000 in
theorem takeBC_idle (hp:PoolAt w F a t n) (h1:w.heap[gp]? =some (.cells #[.pointer (some ⟨a,0,none⟩)] 35 (0,0))) {x:Value} (h2:w.heap[ge]? =some (.cells #[x] 39 (0,0))):
  CallsD Tryz.prog 111 #[.pointer (some ⟨gp,0,none⟩), .pointer (some ⟨ge,0,none⟩)] .returning w fun e u' w'=>e= .returned (.tuple #[])∧u'= .returning∧PutsE w w' ge 0:=by
 have c0:w.drew.cell? ⟨gp,0,none⟩=some (.pointer (some ⟨a,0,none⟩)):=cell_of_block (w:=w.drew) h1 (j:=0) rfl
 have c1:w.drew.cell? ⟨a,0,none⟩=some (.pointer (some ⟨t,0,none⟩)):=cell_of_block (w:=w.drew) hp.b (j:=0) rfl
 have c2:w.drew.cell? ⟨ge,0,none⟩=some x:=cell_of_block (w:=w.drew) h2 (j:=0) rfl
 have f2:w.drew.frozen? ⟨ge,0,none⟩=false:=frozen_of_block (w:=w.drew) h2 0
 have hc:=caught_nil (.func (.func 24) #[.pointer (some ⟨t,0,none⟩)] #[]) w.drew
 have HE:=Hid.mk (putsE (w:=w) (w':=w.drew) (x:=0) (.int .i64 0) rfl (Keeps.drew _ w) h2)
 have hdr:w.drew.setCell ⟨ge,0,none⟩ (.int .i64 0)=(w.setCell ⟨ge,0,none⟩ (.int .i64 0)).drew:=rfl
 rw [hdr] at HE
 clear h1 h2 hp hdr
 refine callsD_of_wpS Tryz.func111 rfl fun c₀ cs hu=>?_
 refine wpS_region_six (by kernel_rfl) ⟨rfl,by decide+kernel,by decide+kernel,by decide+kernel⟩ (fun o ho=>?_)
 simp only [List.mem_cons,List.not_mem_nil,or_false] at ho
 rcases ho with rfl|rfl|rfl|rfl|rfl|rfl
 all_goals
  simp [wpOpsS,go_sem,recoverD,hu,c0,c1,Tryz.ntmps111]
  refine hc.mono ?_
  rintro e w2 ⟨rfl,hw2⟩
  subst hw2
  simp [go_sem,c2,f2,bodyPostS,results,Tryz.results111]
  exact⟨c₀.mode,rfl,hu,HE.out⟩
set_option maxRecDepth 20000 in
set_option maxHeartbeats 4000000 in
theorem takeBC_panic (h:TX w F p s cR q l m t n S G T) (hp:PoolAt w F a t n) (h1:w.heap[gp]? =some (.cells #[.pointer (some ⟨a,0,none⟩)] 35 (0,0))) {y:Value} (h2:w.heap[ge]? =some (.cells #[y] 39 (0,0))) (hgt:ge≠t) (x:Int):
  CallsD Tryz.prog 111 #[.pointer (some ⟨gp,0,none⟩), .pointer (some ⟨ge,0,none⟩)] (.panicking (gave x)) w fun e u' w'=>e= .returned (.tuple #[])∧u'= .panicking [{v:= .iface 39 (.int .i64 x),recovered:=true}]∧∃w2,TX w2 F p s cR q l m t n S G (T.spoil G S x).2∧Keeps (fun k=>k=t) w w2∧PutsE w2 w' ge x:=by
 have c0:w.drew.cell? ⟨gp,0,none⟩=some (.pointer (some ⟨a,0,none⟩)):=cell_of_block (w:=w.drew) h1 (j:=0) rfl
 have c1:w.drew.cell? ⟨a,0,none⟩=some (.pointer (some ⟨t,0,none⟩)):=cell_of_block (w:=w.drew) hp.b (j:=0) rfl
 have hdw:Below w.heap.size w w.drew:=below_drew (Below.refl _ _)
 have hc:=caught_err (h.later hdw) x
 have HB:Hid (∀w2,Keeps (fun k=>k=t) w.drew w2→w2.heap[ge]? =some (.cells #[y] 39 (0,0))∧Keeps (fun k=>k=t) w w2):=fun w2 hk=>⟨(hk.block _ (lt_there h2) hgt).trans h2,(Keeps.drew _ w).trans hk (fun _ h=> .inl h)⟩
 clear h h1 h2 hp hdw
 refine callsD_of_wpS Tryz.func111 rfl fun c₀ cs hu=>?_
 refine wpS_region_six (by kernel_rfl) ⟨rfl,by decide+kernel,by decide+kernel,by decide+kernel⟩ (fun o ho=>?_)
 simp only [List.mem_cons,List.not_mem_nil,or_false] at ho
 rcases ho with rfl|rfl|rfl|rfl|rfl|rfl
 all_goals
  simp [wpOpsS,go_sem,recoverD,hu,c0,c1,Tryz.ntmps111]
  refine hc.mono ?_
  rintro e w2 ⟨rfl,hx2,hk2⟩
  obtain⟨hb2,hk3⟩:=HB.out w2 hk2
  have c2:w2.cell? ⟨ge,0,none⟩=some y:=cell_of_block hb2 (j:=0) rfl
  have f2:w2.frozen? ⟨ge,0,none⟩=false:=frozen_of_block hb2 0
  simp [go_sem,c2,f2,bodyPostS,results,Tryz.results111]
  exact⟨w2,hx2,hk3,putsE _ rfl (Keeps.refl _ _) hb2⟩
end
end Go.Proofs.YtkiehemoiapkkaaGreat
end
section
namespace Go.Proofs.YtkiehemoiapkkaaGreat
open Go.RowKit Go.Maps
section
variable {w:World} {F:Nat→Prop} {p s cR q l m t n a gp ge:Nat} {S:DS} {G:SG} {T:TG}
set_option maxRecDepth 20000 in
set_option maxHeartbeats 4000000 in
theorem takeNC_idle (hp:PoolAt w F a t n) (h1:w.heap[gp]? =some (.cells #[.pointer (some ⟨a,0,none⟩)] 35 (0,0))) {x:Value} (h2:w.heap[ge]? =some (.cells #[x] 39 (0,0))):
  CallsD Tryz.prog 116 #[.pointer (some ⟨gp,0,none⟩), .pointer (some ⟨ge,0,none⟩)] .returning w fun e u' w'=>e= .returned (.tuple #[])∧u'= .returning∧PutsE w w' ge 0:=by
 have c0:w.drew.cell? ⟨gp,0,none⟩=some (.pointer (some ⟨a,0,none⟩)):=cell_of_block (w:=w.drew) h1 (j:=0) rfl
 have c1:w.drew.cell? ⟨a,0,none⟩=some (.pointer (some ⟨t,0,none⟩)):=cell_of_block (w:=w.drew) hp.b (j:=0) rfl
 have c2:w.drew.cell? ⟨ge,0,none⟩=some x:=cell_of_block (w:=w.drew) h2 (j:=0) rfl
 have f2:w.drew.frozen? ⟨ge,0,none⟩=false:=frozen_of_block (w:=w.drew) h2 0
 have hc:=caught_nil (.func (.func 24) #[.pointer (some ⟨t,0,none⟩)] #[]) w.drew
 have HE:=Hid.mk (putsE (w:=w) (w':=w.drew) (x:=0) (.int .i64 0) rfl (Keeps.drew _ w) h2)
 have hdr:w.drew.setCell ⟨ge,0,none⟩ (.int .i64 0)=(w.setCell ⟨ge,0,none⟩ (.int .i64 0)).drew:=rfl
 rw [hdr] at HE
 clear h1 h2 hp hdr
 refine callsD_of_wpS Tryz.func116 rfl fun c₀ cs hu=>?_
 refine wpS_region_six (by kernel_rfl) ⟨rfl,by decide+kernel,by decide+kernel,by decide+kernel⟩ (fun o ho=>?_)
 simp only [List.mem_cons,List.not_mem_nil,or_false] at ho
 rcases ho with rfl|rfl|rfl|rfl|rfl|rfl
 all_goals
  simp [wpOpsS,go_sem,recoverD,hu,c0,c1,Tryz.ntmps116]
  refine hc.mono ?_
  rintro e w2 ⟨rfl,hw2⟩
  subst hw2
  simp [go_sem,c2,f2,bodyPostS,results,Tryz.results116]
  exact⟨c₀.mode,rfl,hu,HE.out⟩
set_option maxRecDepth 20000 in
set_option maxHeartbeats 4000000 in
theorem takeNC_panic (h:TX w F p s cR q l m t n S G T) (hp:PoolAt w F a t n) (h1:w.heap[gp]? =some (.cells #[.pointer (some ⟨a,0,none⟩)] 35 (0,0))) {y:Value} (h2:w.heap[ge]? =some (.cells #[y] 39 (0,0))) (hgt:ge≠t) (x:Int):
  CallsD Tryz.prog 116 #[.pointer (some ⟨gp,0,none⟩), .pointer (some ⟨ge,0,none⟩)] (.panicking (gave x)) w fun e u' w'=>e= .returned (.tuple #[])∧u'= .panicking [{v:= .iface 39 (.int .i64 x),recovered:=true}]∧∃w2,TX w2 F p s cR q l m t n S G (T.spoil G S x).2∧Keeps (fun k=>k=t) w w2∧PutsE w2 w' ge x:=by
 have c0:w.drew.cell? ⟨gp,0,none⟩=some (.pointer (some ⟨a,0,none⟩)):=cell_of_block (w:=w.drew) h1 (j:=0) rfl
 have c1:w.drew.cell? ⟨a,0,none⟩=some (.pointer (some ⟨t,0,none⟩)):=cell_of_block (w:=w.drew) hp.b (j:=0) rfl
 have hdw:Below w.heap.size w w.drew:=below_drew (Below.refl _ _)
 have hc:=caught_err (h.later hdw) x
 have HB:Hid (∀w2,Keeps (fun k=>k=t) w.drew w2→w2.heap[ge]? =some (.cells #[y] 39 (0,0))∧Keeps (fun k=>k=t) w w2):=fun w2 hk=>⟨(hk.block _ (lt_there h2) hgt).trans h2,(Keeps.drew _ w).trans hk (fun _ h=> .inl h)⟩
 clear h h1 h2 hp hdw
 refine callsD_of_wpS Tryz.func116 rfl fun c₀ cs hu=>?_
 refine wpS_region_six (by kernel_rfl) ⟨rfl,by decide+kernel,by decide+kernel,by decide+kernel⟩ (fun o ho=>?_)
 simp only [List.mem_cons,List.not_mem_nil,or_false] at ho
 rcases ho with rfl|rfl|rfl|rfl|rfl|rfl
 all_goals
  simp [wpOpsS,go_sem,recoverD,hu,c0,c1,Tryz.ntmps116]
  refine hc.mono ?_
  rintro e w2 ⟨rfl,hx2,hk2⟩
  obtain⟨hb2,hk3⟩:=HB.out w2 hk2
  have c2:w2.cell? ⟨ge,0,none⟩=some y:=cell_of_block hb2 (j:=0) rfl
  have f2:w2.frozen? ⟨ge,0,none⟩=false:=frozen_of_block hb2 0
  simp [go_sem,c2,f2,bodyPostS,results,Tryz.results116]
  exact⟨w2,hx2,hk3,putsE _ rfl (Keeps.refl _ _) hb2⟩
set_option maxRecDepth 20000 in
set_option maxHeartbeats 4000000 in
theorem dropBC_idle (hp:PoolAt w F a t n) (h1:w.heap[gp]? =some (.cells #[.pointer (some ⟨a,0,none⟩)] 35 (0,0))) {x:Value} (h2:w.heap[ge]? =some (.cells #[x] 39 (0,0))):
  CallsD Tryz.prog 114 #[.pointer (some ⟨gp,0,none⟩), .pointer (some ⟨ge,0,none⟩)] .returning w fun e u' w'=>e= .returned (.tuple #[])∧u'= .returning∧PutsE w w' ge 0:=by
 have c0:w.drew.cell? ⟨gp,0,none⟩=some (.pointer (some ⟨a,0,none⟩)):=cell_of_block (w:=w.drew) h1 (j:=0) rfl
 have c1:w.drew.cell? ⟨a,0,none⟩=some (.pointer (some ⟨t,0,none⟩)):=cell_of_block (w:=w.drew) hp.b (j:=0) rfl
 have c2:w.drew.cell? ⟨ge,0,none⟩=some x:=cell_of_block (w:=w.drew) h2 (j:=0) rfl
 have f2:w.drew.frozen? ⟨ge,0,none⟩=false:=frozen_of_block (w:=w.drew) h2 0
 have hc:=caught_nil (.func (.func 24) #[.pointer (some ⟨t,0,none⟩)] #[]) w.drew
 have HE:=Hid.mk (putsE (w:=w) (w':=w.drew) (x:=0) (.int .i64 0) rfl (Keeps.drew _ w) h2)
 have hdr:w.drew.setCell ⟨ge,0,none⟩ (.int .i64 0)=(w.setCell ⟨ge,0,none⟩ (.int .i64 0)).drew:=rfl
 rw [hdr] at HE
 clear h1 h2 hp hdr
 refine callsD_of_wpS Tryz.func114 rfl fun c₀ cs hu=>?_
 refine wpS_region_six (by kernel_rfl) ⟨rfl,by decide+kernel,by decide+kernel,by decide+kernel⟩ (fun o ho=>?_)
 simp only [List.mem_cons,List.not_mem_nil,or_false] at ho
 rcases ho with rfl|rfl|rfl|rfl|rfl|rfl
 all_goals
  simp [wpOpsS,go_sem,recoverD,hu,c0,c1,Tryz.ntmps114]
  refine hc.mono ?_
  rintro e w2 ⟨rfl,hw2⟩
  subst hw2
  simp [go_sem,c2,f2,bodyPostS,results,Tryz.results114]
  exact⟨c₀.mode,rfl,hu,HE.out⟩
set_option maxRecDepth 20000 in
set_option maxHeartbeats 4000000 in
theorem dropBC_panic (h:TX w F p s cR q l m t n S G T) (hp:PoolAt w F a t n) (h1:w.heap[gp]? =some (.cells #[.pointer (some ⟨a,0,none⟩)] 35 (0,0))) {y:Value} (h2:w.heap[ge]? =some (.cells #[y] 39 (0,0))) (hgt:ge≠t) (x:Int):
  CallsD Tryz.prog 114 #[.pointer (some ⟨gp,0,none⟩), .pointer (some ⟨ge,0,none⟩)] (.panicking (gave x)) w fun e u' w'=>e= .returned (.tuple #[])∧u'= .panicking [{v:= .iface 39 (.int .i64 x),recovered:=true}]∧∃w2,TX w2 F p s cR q l m t n S G (T.spoil G S x).2∧Keeps (fun k=>k=t) w w2∧PutsE w2 w' ge x:=by
 have c0:w.drew.cell? ⟨gp,0,none⟩=some (.pointer (some ⟨a,0,none⟩)):=cell_of_block (w:=w.drew) h1 (j:=0) rfl
 have c1:w.drew.cell? ⟨a,0,none⟩=some (.pointer (some ⟨t,0,none⟩)):=cell_of_block (w:=w.drew) hp.b (j:=0) rfl
 have hdw:Below w.heap.size w w.drew:=below_drew (Below.refl _ _)
 have hc:=caught_err (h.later hdw) x
 have HB:Hid (∀w2,Keeps (fun k=>k=t) w.drew w2→w2.heap[ge]? =some (.cells #[y] 39 (0,0))∧Keeps (fun k=>k=t) w w2):=fun w2 hk=>⟨(hk.block _ (lt_there h2) hgt).trans h2,(Keeps.drew _ w).trans hk (fun _ h=> .inl h)⟩
 clear h h1 h2 hp hdw
 refine callsD_of_wpS Tryz.func114 rfl fun c₀ cs hu=>?_
 refine wpS_region_six (by kernel_rfl) ⟨rfl,by decide+kernel,by decide+kernel,by decide+kernel⟩ (fun o ho=>?_)
 simp only [List.mem_cons,List.not_mem_nil,or_false] at ho
 rcases ho with rfl|rfl|rfl|rfl|rfl|rfl
 all_goals
  simp [wpOpsS,go_sem,recoverD,hu,c0,c1,Tryz.ntmps114]
  refine hc.mono ?_
  rintro e w2 ⟨rfl,hx2,hk2⟩
  obtain⟨hb2,hk3⟩:=HB.out w2 hk2
  have c2:w2.cell? ⟨ge,0,none⟩=some y:=cell_of_block hb2 (j:=0) rfl
  have f2:w2.frozen? ⟨ge,0,none⟩=false:=frozen_of_block hb2 0
  simp [go_sem,c2,f2,bodyPostS,results,Tryz.results114]
  exact⟨w2,hx2,hk3,putsE _ rfl (Keeps.refl _ _) hb2⟩
end
end Go.Proofs.YtkiehemoiapkkaaGreat
end
section
namespace Go.Proofs.YtkiehemoiapkkaaGreat
open Go.RowKit Go.Maps
section
variable {w:World} {F:Nat→Prop} {p s cR q l m t n a gp ge:Nat} {S:DS} {G:SG} {T:TG}
set_option maxRecDepth 20000 in
set_option maxHeartbeats 4000000 in
theorem dropNC_idle (hp:PoolAt w F a t n) (h1:w.heap[gp]? =some (.cells #[.pointer (some ⟨a,0,none⟩)] 35 (0,0))) {x:Value} (h2:w.heap[ge]? =some (.cells #[x] 39 (0,0))):
  CallsD Tryz.prog 117 #[.pointer (some ⟨gp,0,none⟩), .pointer (some ⟨ge,0,none⟩)] .returning w fun e u' w'=>e= .returned (.tuple #[])∧u'= .returning∧PutsE w w' ge 0:=by
 have c0:w.drew.cell? ⟨gp,0,none⟩=some (.pointer (some ⟨a,0,none⟩)):=cell_of_block (w:=w.drew) h1 (j:=0) rfl
 have c1:w.drew.cell? ⟨a,0,none⟩=some (.pointer (some ⟨t,0,none⟩)):=cell_of_block (w:=w.drew) hp.b (j:=0) rfl
 have c2:w.drew.cell? ⟨ge,0,none⟩=some x:=cell_of_block (w:=w.drew) h2 (j:=0) rfl
 have f2:w.drew.frozen? ⟨ge,0,none⟩=false:=frozen_of_block (w:=w.drew) h2 0
 have hc:=caught_nil (.func (.func 24) #[.pointer (some ⟨t,0,none⟩)] #[]) w.drew
 have HE:=Hid.mk (putsE (w:=w) (w':=w.drew) (x:=0) (.int .i64 0) rfl (Keeps.drew _ w) h2)
 have hdr:w.drew.setCell ⟨ge,0,none⟩ (.int .i64 0)=(w.setCell ⟨ge,0,none⟩ (.int .i64 0)).drew:=rfl
 rw [hdr] at HE
 clear h1 h2 hp hdr
 refine callsD_of_wpS Tryz.func117 rfl fun c₀ cs hu=>?_
 refine wpS_region_six (by kernel_rfl) ⟨rfl,by decide+kernel,by decide+kernel,by decide+kernel⟩ (fun o ho=>?_)
 simp only [List.mem_cons,List.not_mem_nil,or_false] at ho
 rcases ho with rfl|rfl|rfl|rfl|rfl|rfl
 all_goals
  simp [wpOpsS,go_sem,recoverD,hu,c0,c1,Tryz.ntmps117]
  refine hc.mono ?_
  rintro e w2 ⟨rfl,hw2⟩
  subst hw2
  simp [go_sem,c2,f2,bodyPostS,results,Tryz.results117]
  exact⟨c₀.mode,rfl,hu,HE.out⟩
set_option maxRecDepth 20000 in
set_option maxHeartbeats 4000000 in
theorem dropNC_panic (h:TX w F p s cR q l m t n S G T) (hp:PoolAt w F a t n) (h1:w.heap[gp]? =some (.cells #[.pointer (some ⟨a,0,none⟩)] 35 (0,0))) {y:Value} (h2:w.heap[ge]? =some (.cells #[y] 39 (0,0))) (hgt:ge≠t) (x:Int):
  CallsD Tryz.prog 117 #[.pointer (some ⟨gp,0,none⟩), .pointer (some ⟨ge,0,none⟩)] (.panicking (gave x)) w fun e u' w'=>e= .returned (.tuple #[])∧u'= .panicking [{v:= .iface 39 (.int .i64 x),recovered:=true}]∧∃w2,TX w2 F p s cR q l m t n S G (T.spoil G S x).2∧Keeps (fun k=>k=t) w w2∧PutsE w2 w' ge x:=by
 have c0:w.drew.cell? ⟨gp,0,none⟩=some (.pointer (some ⟨a,0,none⟩)):=cell_of_block (w:=w.drew) h1 (j:=0) rfl
 have c1:w.drew.cell? ⟨a,0,none⟩=some (.pointer (some ⟨t,0,none⟩)):=cell_of_block (w:=w.drew) hp.b (j:=0) rfl
 have hdw:Below w.heap.size w w.drew:=below_drew (Below.refl _ _)
 have hc:=caught_err (h.later hdw) x
 have HB:Hid (∀w2,Keeps (fun k=>k=t) w.drew w2→w2.heap[ge]? =some (.cells #[y] 39 (0,0))∧Keeps (fun k=>k=t) w w2):=fun w2 hk=>⟨(hk.block _ (lt_there h2) hgt).trans h2,(Keeps.drew _ w).trans hk (fun _ h=> .inl h)⟩
 clear h h1 h2 hp hdw
 refine callsD_of_wpS Tryz.func117 rfl fun c₀ cs hu=>?_
 refine wpS_region_six (by kernel_rfl) ⟨rfl,by decide+kernel,by decide+kernel,by decide+kernel⟩ (fun o ho=>?_)
 simp only [List.mem_cons,List.not_mem_nil,or_false] at ho
 rcases ho with rfl|rfl|rfl|rfl|rfl|rfl
 all_goals
  simp [wpOpsS,go_sem,recoverD,hu,c0,c1,Tryz.ntmps117]
  refine hc.mono ?_
  rintro e w2 ⟨rfl,hx2,hk2⟩
  obtain⟨hb2,hk3⟩:=HB.out w2 hk2
  have c2:w2.cell? ⟨ge,0,none⟩=some y:=cell_of_block hb2 (j:=0) rfl
  have f2:w2.frozen? ⟨ge,0,none⟩=false:=frozen_of_block hb2 0
  simp [go_sem,c2,f2,bodyPostS,results,Tryz.results117]
  exact⟨w2,hx2,hk3,putsE _ rfl (Keeps.refl _ _) hb2⟩
set_option maxRecDepth 20000 in
set_option maxHeartbeats 4000000 in
theorem leftC_idle (hp:PoolAt w F a t n) (h1:w.heap[gp]? =some (.cells #[.pointer (some ⟨a,0,none⟩)] 35 (0,0))) {x:Value} (h2:w.heap[ge]? =some (.cells #[x] 39 (0,0))):
  CallsD Tryz.prog 118 #[.pointer (some ⟨gp,0,none⟩), .pointer (some ⟨ge,0,none⟩)] .returning w fun e u' w'=>e= .returned (.tuple #[])∧u'= .returning∧PutsE w w' ge 0:=by
 have c0:w.drew.cell? ⟨gp,0,none⟩=some (.pointer (some ⟨a,0,none⟩)):=cell_of_block (w:=w.drew) h1 (j:=0) rfl
 have c1:w.drew.cell? ⟨a,0,none⟩=some (.pointer (some ⟨t,0,none⟩)):=cell_of_block (w:=w.drew) hp.b (j:=0) rfl
 have c2:w.drew.cell? ⟨ge,0,none⟩=some x:=cell_of_block (w:=w.drew) h2 (j:=0) rfl
 have f2:w.drew.frozen? ⟨ge,0,none⟩=false:=frozen_of_block (w:=w.drew) h2 0
 have hc:=caught_nil (.func (.func 24) #[.pointer (some ⟨t,0,none⟩)] #[]) w.drew
 have HE:=Hid.mk (putsE (w:=w) (w':=w.drew) (x:=0) (.int .i64 0) rfl (Keeps.drew _ w) h2)
 have hdr:w.drew.setCell ⟨ge,0,none⟩ (.int .i64 0)=(w.setCell ⟨ge,0,none⟩ (.int .i64 0)).drew:=rfl
 rw [hdr] at HE
 clear h1 h2 hp hdr
 refine callsD_of_wpS Tryz.func118 rfl fun c₀ cs hu=>?_
 refine wpS_region_six (by kernel_rfl) ⟨rfl,by decide+kernel,by decide+kernel,by decide+kernel⟩ (fun o ho=>?_)
 simp only [List.mem_cons,List.not_mem_nil,or_false] at ho
 rcases ho with rfl|rfl|rfl|rfl|rfl|rfl
 all_goals
  simp [wpOpsS,go_sem,recoverD,hu,c0,c1,Tryz.ntmps118]
  refine hc.mono ?_
  rintro e w2 ⟨rfl,hw2⟩
  subst hw2
  simp [go_sem,c2,f2,bodyPostS,results,Tryz.results118]
  exact⟨c₀.mode,rfl,hu,HE.out⟩
set_option maxRecDepth 20000 in
set_option maxHeartbeats 4000000 in
theorem leftC_panic (h:TX w F p s cR q l m t n S G T) (hp:PoolAt w F a t n) (h1:w.heap[gp]? =some (.cells #[.pointer (some ⟨a,0,none⟩)] 35 (0,0))) {y:Value} (h2:w.heap[ge]? =some (.cells #[y] 39 (0,0))) (hgt:ge≠t) (x:Int):
  CallsD Tryz.prog 118 #[.pointer (some ⟨gp,0,none⟩), .pointer (some ⟨ge,0,none⟩)] (.panicking (gave x)) w fun e u' w'=>e= .returned (.tuple #[])∧u'= .panicking [{v:= .iface 39 (.int .i64 x),recovered:=true}]∧∃w2,TX w2 F p s cR q l m t n S G (T.spoil G S x).2∧Keeps (fun k=>k=t) w w2∧PutsE w2 w' ge x:=by
 have c0:w.drew.cell? ⟨gp,0,none⟩=some (.pointer (some ⟨a,0,none⟩)):=cell_of_block (w:=w.drew) h1 (j:=0) rfl
 have c1:w.drew.cell? ⟨a,0,none⟩=some (.pointer (some ⟨t,0,none⟩)):=cell_of_block (w:=w.drew) hp.b (j:=0) rfl
 have hdw:Below w.heap.size w w.drew:=below_drew (Below.refl _ _)
 have hc:=caught_err (h.later hdw) x
 have HB:Hid (∀w2,Keeps (fun k=>k=t) w.drew w2→w2.heap[ge]? =some (.cells #[y] 39 (0,0))∧Keeps (fun k=>k=t) w w2):=fun w2 hk=>⟨(hk.block _ (lt_there h2) hgt).trans h2,(Keeps.drew _ w).trans hk (fun _ h=> .inl h)⟩
 clear h h1 h2 hp hdw
 refine callsD_of_wpS Tryz.func118 rfl fun c₀ cs hu=>?_
 refine wpS_region_six (by kernel_rfl) ⟨rfl,by decide+kernel,by decide+kernel,by decide+kernel⟩ (fun o ho=>?_)
 simp only [List.mem_cons,List.not_mem_nil,or_false] at ho
 rcases ho with rfl|rfl|rfl|rfl|rfl|rfl
 all_goals
  simp [wpOpsS,go_sem,recoverD,hu,c0,c1,Tryz.ntmps118]
  refine hc.mono ?_
  rintro e w2 ⟨rfl,hx2,hk2⟩
  obtain⟨hb2,hk3⟩:=HB.out w2 hk2
  have c2:w2.cell? ⟨ge,0,none⟩=some y:=cell_of_block hb2 (j:=0) rfl
  have f2:w2.frozen? ⟨ge,0,none⟩=false:=frozen_of_block hb2 0
  simp [go_sem,c2,f2,bodyPostS,results,Tryz.results118]
  exact⟨w2,hx2,hk3,putsE _ rfl (Keeps.refl _ _) hb2⟩
end
end Go.Proofs.YtkiehemoiapkkaaGreat
end
section
namespace Go.Proofs.YtkiehemoiapkkaaGreat
open Go.RowKit Go.Maps
def TG.takes (T:TG) (G:SG) (S:DS) (k:STK):Int×Int×TG:=match (T.ptake G S k).1 with
 |some x=>((x:Int),0,(T.ptake G S k).2.2)
 |none=>(0,(T.ptake G S k).2.1,((T.ptake G S k).2.2.spoil G S (T.ptake G S k).2.1).2)
theorem bSt_ok {y:LY} (h:YOk y):(bSt y).Ok:=⟨by show 0<2;omega,Nat.zero_le _,by have:=h.bl;have:=h.dy;show y.data-0+(y.blocks-y.data)≤4096;omega,by show 0≤1;omega⟩
theorem nSt_ok {y:LY} (h:YOk y):(nSt y).Ok:=⟨by show 1<2;omega,by show 1≤1;omega,by have:=h.nd;show 1-1+y.nodes≤4096;omega,by show 1≤1;omega⟩
def mixP (Pn:List PanicEntry→Act→World→Prop) (Q:Exit→Act→World→Prop):Exit→Act→World→Prop
 | .panic c,a,w=>Pn c a w
 |e,a,w=>Q e a w
theorem wp_mixed {P:Program} {c:Code} {Q:Exit→Act→World→Prop} {a:Act} {w:World} (Pn:List PanicEntry→Act→World→Prop) (h1:∀c a w,Pn c a w→Q (.panic c) a w) (h2:c.wp P (mixP Pn Q) a w):c.wp P Q a w:=
 Code.wp_mono (fun e a w h=>by cases e <;> first|exact h1 _ _ _ h|exact h) h2
def PnT (D:List Deferred) (sl:List (Nat×Value)) (W:List PanicEntry→World→Prop) (c:List PanicEntry) (a:Act) (w:World):Prop:=a.defers=D∧(∀x∈sl,a.tmps.getD x.1 undef=x.2)∧W c w
theorem PnT.put {D:List Deferred} {sl:List (Nat×Value)} {W:List PanicEntry→World→Prop} {c:List PanicEntry} {a:Act} {w:World} {d:Nat} {v:Value} (h:PnT D sl W c (a.put (some d) v) w) (hd:∀x∈sl,x.1≠d):PnT D sl W c a w:=by
 obtain⟨e1,e2,e4⟩:=h
 refine⟨e1,fun x hx=>?_,e4⟩
 have:=e2 x hx
 rw [←this]
 show _=(a.tmps.setIfInBounds d v).getD x.1 undef
 simp only [Array.getD_eq_getD_getElem?]
 rw [Array.getElem?_setIfInBounds_ne (fun e=>hd x hx e.symm)]
theorem mixPut {D:List Deferred} {sl:List (Nat×Value)} {W:List PanicEntry→World→Prop} {Q:Exit→Act→World→Prop} {d:Nat} {v:Value} (hd:∀x∈sl,x.1≠d):∀c a w,mixP (PnT D sl W) Q (.panic c) (a.put (some d) v) w→mixP (PnT D sl W) Q (.panic c) a w:=fun _ _ _ h=>PnT.put h hd
theorem heap2 (w:World) (o o':Obj):Below w.heap.size w ((w.alloc o).alloc o').drew∧((w.alloc o).alloc o').drew.heap[w.heap.size]? =some o∧((w.alloc o).alloc o').drew.heap[w.heap.size+1]? =some o'∧((w.alloc o).alloc o').drew.heap.size=w.heap.size+2:=
   ⟨below_drew (cbelow_two w _ _),heap_alloc2_old _ _ _,heap_alloc2_new _ _ _,by show ((w.alloc o).alloc o').heap.size=_;simp⟩
section
variable {w:World} {F:Nat→Prop} {p s cR q l m t n a:Nat} {S:DS} {G:SG} {T:TG}
theorem take_any (h:TX w F p s cR q l m t n S G T) (hp:PoolAt w F a t n) (k:STK) (hk:k.Ok):
  Calls Tryz.prog 112 #[.pointer (some ⟨a,0,none⟩),stkV k] w fun e w'=>TakeR (T.ptake G S k) e∧TX w' F p s (cR+2) q l m t n S G (T.ptake G S k).2.2∧Keeps (OwT F t n) w w':=by
 by_cases h0:T.refusal G S k.bm=0
 ·exact ptake_ok h hp k hk h0
 ·have e:T.ptake G S k=(none,T.refusal G S k.bm,T):=by unfold TG.ptake;rw [if_pos h0]
  rw [e]
  refine(ptake_no h hp k h0).mono ?_
  rintro e w' ⟨rfl,h1,h2⟩
  exact⟨rfl,h1.le (by omega),h2.mono (fun _ h=> .inl h)⟩
end
end Go.Proofs.YtkiehemoiapkkaaGreat
end
section
namespace Go.Proofs.YtkiehemoiapkkaaGreat
open Go.RowKit Go.Maps
section
variable {w:World} {F:Nat→Prop} {p s cR q l m t n a:Nat} {S:DS} {G:SG} {T:TG}
set_option maxRecDepth 20000 in
set_option maxHeartbeats 8000000 in
theorem takeBlock_any (h:TX w F p s cR q l m t n S G T) (hp:PoolAt w F a t n):
  Calls Tryz.prog 69 #[.pointer (some ⟨a,0,none⟩)] w fun e w'=>e= .returned (.tuple #[.int .i64 (T.takes G S (bSt G.y)).1, .int .i64 (T.takes G S (bSt G.y)).2.1])∧TX w' F p s (cR+2) q l m t n S G (T.takes G S (bSt G.y)).2.2∧Keeps (OwT F t n) w w':=by
 obtain⟨hB1,hg1,hg2,hsz1⟩:=heap2 w (.cells #[.pointer (some ⟨a,0,none⟩)] 35) (.cells #[.int .i64 0] 39)
 obtain⟨w1,hw1⟩:∃w1,w1=(w.alloc (.cells #[.pointer (some ⟨a,0,none⟩)] 35)).alloc (.cells #[.int .i64 0] 39):=⟨_,rfl⟩
 rw [←hw1] at hB1 hg1 hg2 hsz1
 have hlt:=h.lt
 have hx1:=h.later hB1
 have hp1:=hp.later hB1
 have hblk:=blocks_any hx1 hp1
 have HT:Hid (∀w2,Below w1.drew.heap.size w1.drew w2→Calls Tryz.prog 112 #[.pointer (some ⟨a,0,none⟩),stkV (bSt G.y)] w2 fun e w'=>TakeR (T.ptake G S (bSt G.y)) e∧TX w' F p s (cR+2) q l m t n S G (T.ptake G S (bSt G.y)).2.2∧Keeps (OwT F t n) w2 w'):=fun w2 hb=>take_any (hx1.later hb) (hp1.later hb) (bSt G.y) (bSt_ok h.yk)
 have HTK:Hid ((T.takes G S (bSt G.y))=match (T.ptake G S (bSt G.y)).1 with|some x=>((x:Int),0,(T.ptake G S (bSt G.y)).2.2)|none=>(0,(T.ptake G S (bSt G.y)).2.1,((T.ptake G S (bSt G.y)).2.2.spoil G S (T.ptake G S (bSt G.y)).2.1).2)):=rfl
 have c0:w1.drew.cell? ⟨w.heap.size,0,none⟩=some (.pointer (some ⟨a,0,none⟩)):=cell_of_block hg1 (j:=0) rfl
 have n1:¬OwT F t n w.heap.size:=fun hf=>by have:=hlt _ hf;omega
 have n2:¬OwT F t n (w.heap.size+1):=fun hf=>by have:=hlt _ hf;omega
 have HG:=Hid.mk (And.intro hg1 hg2)
 have HB:=Hid.mk hB1
 have HP:=Hid.mk hp1
 have HLo:=Hid.mk h.low
 have hpa:=hp.lt
 generalize T.takes G S (bSt G.y)=Z at*
 generalize T.ptake G S (bSt G.y)=R at*
 generalize stkV (bSt G.y)=V at*
 have ht2:w.heap.size+1≠t:=fun e=>n2 (.inr (.inl e))
 clear h hp hB1 hx1 hp1 hg1 hg2
 go_enter_defers Tryz.func69,Tryz.ntmps69
 go_wp2_with fail
 rw [←hw1]
 clear hw1
 refine wp_mixed (PnT [{target:= .fn (.func 111) #[.pointer (some ⟨w.heap.size,0,none⟩), .pointer (some ⟨w.heap.size+1,0,none⟩)],args:= #[]}] [(2, .int .i64 0),(3, .pointer (some ⟨w.heap.size+1,0,none⟩))] (fun c w3=>∃x,c=gave x∧Z=(0,x,(R.2.2.spoil G S x).2)∧TX w3 F p s (cR+2) q l m t n S G R.2.2∧Keeps (OwT F t n) w w3∧PoolAt w3 F a t n∧w3.heap[w.heap.size]? =some (.cells #[.pointer (some ⟨a,0,none⟩)] 35 (0,0))∧w3.heap[w.heap.size+1]? =some (.cells #[.int .i64 0] 39 (0,0)))) ?_ ?_
 ·rintro c A w3 ⟨hd,hsl,x,rfl,hZ,hx3,hk3,hp3,g1,g2⟩
  have s2:=hsl (2, .int .i64 0) (by simp)
  have s3:=hsl (3, .pointer (some ⟨w.heap.size+1,0,none⟩)) (by simp)
  dsimp only at s2 s3
  rw [Array.getD_eq_getD_getElem?] at s2 s3
  go_wp2
  show Leaves Tryz.prog _ A.tmps _ A.defers _ w3
  rw [hd]
  refine leaves_cons (f:=111) (args:= #[.pointer (some ⟨w.heap.size,0,none⟩), .pointer (some ⟨w.heap.size+1,0,none⟩)]) (by simp) (by simp [go_sem]) ?_
  refine(takeBC_panic hx3 hp3 g1 g2 ht2 x).mono ?_
  rintro e u' w4 ⟨rfl,rfl,w5,hx5,hk5,hb5,hk6⟩
  have q2:w4.cell? ⟨w.heap.size+1,0,none⟩=some (.int .i64 x):=cell_of_block hb5 (j:=0) rfl
  simp [Leaves,settle,results,Tryz.results69,go_sem,s2,s3,q2,hZ]
  exact⟨hx5.side HLo.out hk6 (fun k e=>by omega),(hk3.trans hk5 (fun _ e=> .inl (.inr (.inl e)))).trans hk6 (fun k e=> .inr (by omega))⟩
 refine wp_region_held_drew (S:=(fun w'=>w'.cell? ⟨w.heap.size,0,none⟩=some (.pointer (some ⟨a,0,none⟩)))) (by kernel_rfl) (c0) (fun hHeld=>?_)
 refine wpAnyH_take (i:=0) (oi:={dst:=some 5,op:=Op.load 35 (Operand.tmp 1),type:=35,pos:= "pool.go:30",after:= #[],guard:=none}) (v:= .pointer (some ⟨a,0,none⟩)) rfl (by kernel_rfl) (by kernel_rfl) (by kernel_rfl) (mixPut (d:=5) (by simp)) (Or.inl ⟨by rfl,?_⟩) (by assumption) ?_
 ·intro w hSw
  (try dsimp only at hSw)
  go_simp
 try simp only [Act.put,List.setIfInBounds_toArray,List.set_cons_zero,List.set_cons_succ]
 refine wpAnyH_take (i:=1) (oi:={dst:=some 6,op:=Op.load 35 (Operand.tmp 1),type:=35,pos:= "pool.go:30",after:= #[],guard:=none}) (v:= .pointer (some ⟨a,0,none⟩)) rfl (by kernel_rfl) (by kernel_rfl) (by kernel_rfl) (mixPut (d:=6) (by simp)) (Or.inl ⟨by rfl,?_⟩) (by assumption) ?_
 ·intro w hSw
  (try dsimp only at hSw)
  go_simp
 try simp only [Act.put,List.setIfInBounds_toArray,List.set_cons_zero,List.set_cons_succ]
 refine wpAnyH_ready (rs:= [2]) (by kernel_rfl) (by simp) ?_
 refine AllReadyH.cons (o:={dst:=some 7,op:=Op.call {callee:=Callee.value (Operand.func 25),args:= #[Operand.tmp 6],argTypes:= #[35]},type:=61,pos:= "pool.go:30",after:= #[{on:=1,ground:=Ground.data}],guard:=none}) rfl (fun K hK=>?_) AllReadyH.nil
 go_simp
 refine hblk.mono ?_
 rintro e w2 ⟨rfl,hb2⟩
 have c0':w2.cell? ⟨w.heap.size,0,none⟩=some (.pointer (some ⟨a,0,none⟩)):=cell_of_block ((hb2.block _ (lt_there HG.out.1)).trans HG.out.1) (j:=0) rfl
 refine hK.out _ _ ?_ (fun hHeld=>?_)
 ·exact c0'
 clear hK K
 try simp only [Act.put,List.setIfInBounds_toArray,List.set_cons_zero,List.set_cons_succ]
 refine wpAnyH_ready (rs:= [3]) (by kernel_rfl) (by simp) ?_
 refine AllReadyH.cons (o:={dst:=some 8,op:=Op.call {callee:=Callee.value (Operand.func 112),args:= #[Operand.tmp 5,Operand.tmp 7],argTypes:= #[35,61]},type:=3,pos:= "pool.go:30",after:= #[{on:=0,ground:=Ground.data},{on:=2,ground:=Ground.data},{on:=2,ground:=Ground.chain}],guard:=none}) rfl (fun K hK=>?_) AllReadyH.nil
 go_simp
 refine(HT.out w2 hb2).mono ?_
 rintro e w3 ⟨htr,hx3,hk3⟩
 have hk3w:=(Keeps.of_below (OwT F t n) HB.out).trans ((Keeps.of_below (OwT F t n) hb2).trans hk3 (fun _ h=> .inl h)) (fun _ h=> .inl h)
 have g1:=(hk3.block _ (Nat.lt_of_lt_of_le (lt_there HG.out.1) hb2.size) n1).trans ((hb2.block _ (lt_there HG.out.1)).trans HG.out.1)
 have g2:=(hk3.block _ (Nat.lt_of_lt_of_le (lt_there HG.out.2) hb2.size) n2).trans ((hb2.block _ (lt_there HG.out.2)).trans HG.out.2)
 have hp3:=(HP.out.later hb2).keep hk3
 have HQ:Hid (TX w3 F p s (cR+2) q l m t n S G R.2.2∧Keeps (OwT F t n) w w3∧PoolAt w3 F a t n):=⟨hx3,hk3w,hp3⟩
 have HGG:=Hid.mk (And.intro g1 g2)
 have hTK:=HTK.out
 unfold TakeR at htr
 have c0'':w3.cell? ⟨w.heap.size,0,none⟩=some (.pointer (some ⟨a,0,none⟩)):=cell_of_block g1 (j:=0) rfl
 have d0:w3.cell? ⟨w.heap.size+1,0,none⟩=some (.int .i64 0):=cell_of_block g2 (j:=0) rfl
 have f0:=frozen_of_block g2 0
 clear hblk hb2 c0 c0' hx3 hk3 hk3w g1 g2 hp3
 cases hr1:R.1 with
 |none=>
  rw [hr1] at htr hTK
  dsimp only at htr hTK
  subst htr
  exact⟨rfl,by simp,_,rfl,hTK,HQ.out.1,HQ.out.2.1,HQ.out.2.2,HGG.out.1,HGG.out.2⟩
 |some x=>
  rw [hr1] at htr hTK
  dsimp only at htr hTK
  subst htr
  have HTK2:=Hid.mk hTK
  clear hTK hr1
  refine hK.out _ _ ?_ (fun hHeld=>?_)
  ·exact c0''
  clear hK K
  try simp only [Act.put,List.setIfInBounds_toArray,List.set_cons_zero,List.set_cons_succ]
  refine wpAnyH_ready (rs:= [4]) (by kernel_rfl) (by simp) ?_
  refine AllReadyH.cons (o:={dst:=some 2,op:=Op.assign (Operand.tmp 8),type:=3,pos:= "pool.go:30",after:= #[{on:=3,ground:=Ground.data},{on:=3,ground:=Ground.chain},{on:=0,ground:=Ground.phase},{on:=1,ground:=Ground.phase},{on:=2,ground:=Ground.phase},{on:=3,ground:=Ground.phase}],guard:=none}) rfl (fun K hK=>?_) AllReadyH.nil
  go_simp
  refine hK.out _ _ ?_ (fun hHeld=>?_)
  ·exact c0''
  clear hK K
  try simp only [Act.put,List.setIfInBounds_toArray,List.set_cons_zero,List.set_cons_succ]
  have pe:=putsE (w:=w3) (w':=w3) (x:=0) (.int .i64 0) rfl (Keeps.refl _ _) HGG.out.2
  have c9:(w3.setCell ⟨w.heap.size+1,0,none⟩ (.int .i64 0)).cell? ⟨w.heap.size,0,none⟩=some (.pointer (some ⟨a,0,none⟩)):=cell_of_block ((pe.2.block _ (lt_there HGG.out.1) (by omega)).trans HGG.out.1) (j:=0) rfl
  refine wpAnyH_ready (rs:= [5]) (by kernel_rfl) (by simp) ?_
  refine AllReadyH.cons (o:={dst:=none,op:=Op.store 39 (Operand.tmp 3) (Operand.const (Value.int IntKind.i64 0)),type:=0,pos:= "pool.go:30",after:= #[{on:=4,ground:=Ground.chain},{on:=0,ground:=Ground.phase},{on:=1,ground:=Ground.phase},{on:=2,ground:=Ground.phase},{on:=3,ground:=Ground.phase},{on:=4,ground:=Ground.phase}],guard:=none}) rfl (fun K hK=>?_) AllReadyH.nil
  go_simp
  refine hK.out _ _ ?_ (fun hHeld=>?_)
  ·exact c9
  clear hK K
  try simp only [Act.put,List.setIfInBounds_toArray,List.set_cons_zero,List.set_cons_succ]
  refine wpAnyH_done (by kernel_rfl) ?_ _
  dsimp only [mixP]
  obtain⟨w4,hw4⟩:∃w4,w4=w3.setCell ⟨w.heap.size+1,0,none⟩ (.int .i64 0):=⟨_,rfl⟩
  rw [←hw4] at pe
  rw [←hw4]
  clear hw4 hHeld c9
  have HPe:=Hid.mk pe
  clear pe c0'' d0 f0
  go_wp2
  refine leaves_cons (f:=111) (args:= #[.pointer (some ⟨w.heap.size,0,none⟩), .pointer (some ⟨w.heap.size+1,0,none⟩)]) (by simp) (by simp [go_sem]) ?_
  have hp4:PoolAt w4 F a t n:=⟨(HPe.out.2.block a HQ.out.2.2.lt (by omega)).trans HQ.out.2.2.b,HQ.out.2.2.nf⟩
  have g4:=(HPe.out.2.block _ (lt_there HGG.out.1) (by omega)).trans HGG.out.1
  refine(takeBC_idle hp4 g4 HPe.out.1).mono ?_
  rintro e u' w5 ⟨rfl,rfl,hb5,hk5⟩
  have q2:w5.cell? ⟨w.heap.size+1,0,none⟩=some (.int .i64 0):=cell_of_block hb5 (j:=0) rfl
  simp [Leaves,settle,results,Tryz.results69,go_sem,q2,HTK2.out]
  exact⟨(HQ.out.1.side HLo.out HPe.out.2 (fun k e=>by omega)).side HLo.out hk5 (fun k e=>by omega),(HQ.out.2.1.trans HPe.out.2 (fun k e=> .inr (by omega))).trans hk5 (fun k e=> .inr (by omega))⟩
set_option maxRecDepth 20000 in
set_option maxHeartbeats 8000000 in
theorem takeNode_any (h:TX w F p s cR q l m t n S G T) (hp:PoolAt w F a t n):
  Calls Tryz.prog 73 #[.pointer (some ⟨a,0,none⟩)] w fun e w'=>e= .returned (.tuple #[.int .i64 (T.takes G S (nSt G.y)).1, .int .i64 (T.takes G S (nSt G.y)).2.1])∧TX w' F p s (cR+2) q l m t n S G (T.takes G S (nSt G.y)).2.2∧Keeps (OwT F t n) w w':=by
 obtain⟨hB1,hg1,hg2,hsz1⟩:=heap2 w (.cells #[.pointer (some ⟨a,0,none⟩)] 35) (.cells #[.int .i64 0] 39)
 obtain⟨w1,hw1⟩:∃w1,w1=(w.alloc (.cells #[.pointer (some ⟨a,0,none⟩)] 35)).alloc (.cells #[.int .i64 0] 39):=⟨_,rfl⟩
 rw [←hw1] at hB1 hg1 hg2 hsz1
 have hlt:=h.lt
 have hx1:=h.later hB1
 have hp1:=hp.later hB1
 have hblk:=nodes_any hx1 hp1
 have HT:Hid (∀w2,Below w1.drew.heap.size w1.drew w2→Calls Tryz.prog 112 #[.pointer (some ⟨a,0,none⟩),stkV (nSt G.y)] w2 fun e w'=>TakeR (T.ptake G S (nSt G.y)) e∧TX w' F p s (cR+2) q l m t n S G (T.ptake G S (nSt G.y)).2.2∧Keeps (OwT F t n) w2 w'):=fun w2 hb=>take_any (hx1.later hb) (hp1.later hb) (nSt G.y) (nSt_ok h.yk)
 have HTK:Hid ((T.takes G S (nSt G.y))=match (T.ptake G S (nSt G.y)).1 with|some x=>((x:Int),0,(T.ptake G S (nSt G.y)).2.2)|none=>(0,(T.ptake G S (nSt G.y)).2.1,((T.ptake G S (nSt G.y)).2.2.spoil G S (T.ptake G S (nSt G.y)).2.1).2)):=rfl
 have c0:w1.drew.cell? ⟨w.heap.size,0,none⟩=some (.pointer (some ⟨a,0,none⟩)):=cell_of_block hg1 (j:=0) rfl
 have n1:¬OwT F t n w.heap.size:=fun hf=>by have:=hlt _ hf;omega
 have n2:¬OwT F t n (w.heap.size+1):=fun hf=>by have:=hlt _ hf;omega
 have HG:=Hid.mk (And.intro hg1 hg2)
 have HB:=Hid.mk hB1
 have HP:=Hid.mk hp1
 have HLo:=Hid.mk h.low
 have hpa:=hp.lt
 generalize T.takes G S (nSt G.y)=Z at*
 generalize T.ptake G S (nSt G.y)=R at*
 generalize stkV (nSt G.y)=V at*
 have ht2:w.heap.size+1≠t:=fun e=>n2 (.inr (.inl e))
 clear h hp hB1 hx1 hp1 hg1 hg2
 go_enter_defers Tryz.func73,Tryz.ntmps73
 go_wp2_with fail
 rw [←hw1]
 clear hw1
 refine wp_mixed (PnT [{target:= .fn (.func 116) #[.pointer (some ⟨w.heap.size,0,none⟩), .pointer (some ⟨w.heap.size+1,0,none⟩)],args:= #[]}] [(2, .int .i64 0),(3, .pointer (some ⟨w.heap.size+1,0,none⟩))] (fun c w3=>∃x,c=gave x∧Z=(0,x,(R.2.2.spoil G S x).2)∧TX w3 F p s (cR+2) q l m t n S G R.2.2∧Keeps (OwT F t n) w w3∧PoolAt w3 F a t n∧w3.heap[w.heap.size]? =some (.cells #[.pointer (some ⟨a,0,none⟩)] 35 (0,0))∧w3.heap[w.heap.size+1]? =some (.cells #[.int .i64 0] 39 (0,0)))) ?_ ?_
 ·rintro c A w3 ⟨hd,hsl,x,rfl,hZ,hx3,hk3,hp3,g1,g2⟩
  have s2:=hsl (2, .int .i64 0) (by simp)
  have s3:=hsl (3, .pointer (some ⟨w.heap.size+1,0,none⟩)) (by simp)
  dsimp only at s2 s3
  rw [Array.getD_eq_getD_getElem?] at s2 s3
  go_wp2
  show Leaves Tryz.prog _ A.tmps _ A.defers _ w3
  rw [hd]
  refine leaves_cons (f:=116) (args:= #[.pointer (some ⟨w.heap.size,0,none⟩), .pointer (some ⟨w.heap.size+1,0,none⟩)]) (by simp) (by simp [go_sem]) ?_
  refine(takeNC_panic hx3 hp3 g1 g2 ht2 x).mono ?_
  rintro e u' w4 ⟨rfl,rfl,w5,hx5,hk5,hb5,hk6⟩
  have q2:w4.cell? ⟨w.heap.size+1,0,none⟩=some (.int .i64 x):=cell_of_block hb5 (j:=0) rfl
  simp [Leaves,settle,results,Tryz.results73,go_sem,s2,s3,q2,hZ]
  exact⟨hx5.side HLo.out hk6 (fun k e=>by omega),(hk3.trans hk5 (fun _ e=> .inl (.inr (.inl e)))).trans hk6 (fun k e=> .inr (by omega))⟩
 refine wp_region_held_drew (S:=(fun w'=>w'.cell? ⟨w.heap.size,0,none⟩=some (.pointer (some ⟨a,0,none⟩)))) (by kernel_rfl) (c0) (fun hHeld=>?_)
 refine wpAnyH_take (i:=0) (oi:={dst:=some 5,op:=Op.load 35 (Operand.tmp 1),type:=35,pos:= "pool.go:43",after:= #[],guard:=none}) (v:= .pointer (some ⟨a,0,none⟩)) rfl (by kernel_rfl) (by kernel_rfl) (by kernel_rfl) (mixPut (d:=5) (by simp)) (Or.inl ⟨by rfl,?_⟩) (by assumption) ?_
 ·intro w hSw
  (try dsimp only at hSw)
  go_simp
 try simp only [Act.put,List.setIfInBounds_toArray,List.set_cons_zero,List.set_cons_succ]
 refine wpAnyH_take (i:=1) (oi:={dst:=some 6,op:=Op.load 35 (Operand.tmp 1),type:=35,pos:= "pool.go:43",after:= #[],guard:=none}) (v:= .pointer (some ⟨a,0,none⟩)) rfl (by kernel_rfl) (by kernel_rfl) (by kernel_rfl) (mixPut (d:=6) (by simp)) (Or.inl ⟨by rfl,?_⟩) (by assumption) ?_
 ·intro w hSw
  (try dsimp only at hSw)
  go_simp
 try simp only [Act.put,List.setIfInBounds_toArray,List.set_cons_zero,List.set_cons_succ]
 refine wpAnyH_ready (rs:= [2]) (by kernel_rfl) (by simp) ?_
 refine AllReadyH.cons (o:={dst:=some 7,op:=Op.call {callee:=Callee.value (Operand.func 26),args:= #[Operand.tmp 6],argTypes:= #[35]},type:=61,pos:= "pool.go:43",after:= #[{on:=1,ground:=Ground.data}],guard:=none}) rfl (fun K hK=>?_) AllReadyH.nil
 go_simp
 refine hblk.mono ?_
 rintro e w2 ⟨rfl,hb2⟩
 have c0':w2.cell? ⟨w.heap.size,0,none⟩=some (.pointer (some ⟨a,0,none⟩)):=cell_of_block ((hb2.block _ (lt_there HG.out.1)).trans HG.out.1) (j:=0) rfl
 refine hK.out _ _ ?_ (fun hHeld=>?_)
 ·exact c0'
 clear hK K
 try simp only [Act.put,List.setIfInBounds_toArray,List.set_cons_zero,List.set_cons_succ]
 refine wpAnyH_ready (rs:= [3]) (by kernel_rfl) (by simp) ?_
 refine AllReadyH.cons (o:={dst:=some 8,op:=Op.call {callee:=Callee.value (Operand.func 112),args:= #[Operand.tmp 5,Operand.tmp 7],argTypes:= #[35,61]},type:=3,pos:= "pool.go:43",after:= #[{on:=0,ground:=Ground.data},{on:=2,ground:=Ground.data},{on:=2,ground:=Ground.chain}],guard:=none}) rfl (fun K hK=>?_) AllReadyH.nil
 go_simp
 refine(HT.out w2 hb2).mono ?_
 rintro e w3 ⟨htr,hx3,hk3⟩
 have hk3w:=(Keeps.of_below (OwT F t n) HB.out).trans ((Keeps.of_below (OwT F t n) hb2).trans hk3 (fun _ h=> .inl h)) (fun _ h=> .inl h)
 have g1:=(hk3.block _ (Nat.lt_of_lt_of_le (lt_there HG.out.1) hb2.size) n1).trans ((hb2.block _ (lt_there HG.out.1)).trans HG.out.1)
 have g2:=(hk3.block _ (Nat.lt_of_lt_of_le (lt_there HG.out.2) hb2.size) n2).trans ((hb2.block _ (lt_there HG.out.2)).trans HG.out.2)
 have hp3:=(HP.out.later hb2).keep hk3
 have HQ:Hid (TX w3 F p s (cR+2) q l m t n S G R.2.2∧Keeps (OwT F t n) w w3∧PoolAt w3 F a t n):=⟨hx3,hk3w,hp3⟩
 have HGG:=Hid.mk (And.intro g1 g2)
 have hTK:=HTK.out
 unfold TakeR at htr
 have c0'':w3.cell? ⟨w.heap.size,0,none⟩=some (.pointer (some ⟨a,0,none⟩)):=cell_of_block g1 (j:=0) rfl
 have d0:w3.cell? ⟨w.heap.size+1,0,none⟩=some (.int .i64 0):=cell_of_block g2 (j:=0) rfl
 have f0:=frozen_of_block g2 0
 clear hblk hb2 c0 c0' hx3 hk3 hk3w g1 g2 hp3
 cases hr1:R.1 with
 |none=>
  rw [hr1] at htr hTK
  dsimp only at htr hTK
  subst htr
  exact⟨rfl,by simp,_,rfl,hTK,HQ.out.1,HQ.out.2.1,HQ.out.2.2,HGG.out.1,HGG.out.2⟩
 |some x=>
  rw [hr1] at htr hTK
  dsimp only at htr hTK
  subst htr
  have HTK2:=Hid.mk hTK
  clear hTK hr1
  refine hK.out _ _ ?_ (fun hHeld=>?_)
  ·exact c0''
  clear hK K
  try simp only [Act.put,List.setIfInBounds_toArray,List.set_cons_zero,List.set_cons_succ]
  refine wpAnyH_ready (rs:= [4]) (by kernel_rfl) (by simp) ?_
  refine AllReadyH.cons (o:={dst:=some 2,op:=Op.assign (Operand.tmp 8),type:=3,pos:= "pool.go:43",after:= #[{on:=3,ground:=Ground.data},{on:=3,ground:=Ground.chain},{on:=0,ground:=Ground.phase},{on:=1,ground:=Ground.phase},{on:=2,ground:=Ground.phase},{on:=3,ground:=Ground.phase}],guard:=none}) rfl (fun K hK=>?_) AllReadyH.nil
  go_simp
  refine hK.out _ _ ?_ (fun hHeld=>?_)
  ·exact c0''
  clear hK K
  try simp only [Act.put,List.setIfInBounds_toArray,List.set_cons_zero,List.set_cons_succ]
  have pe:=putsE (w:=w3) (w':=w3) (x:=0) (.int .i64 0) rfl (Keeps.refl _ _) HGG.out.2
  have c9:(w3.setCell ⟨w.heap.size+1,0,none⟩ (.int .i64 0)).cell? ⟨w.heap.size,0,none⟩=some (.pointer (some ⟨a,0,none⟩)):=cell_of_block ((pe.2.block _ (lt_there HGG.out.1) (by omega)).trans HGG.out.1) (j:=0) rfl
  refine wpAnyH_ready (rs:= [5]) (by kernel_rfl) (by simp) ?_
  refine AllReadyH.cons (o:={dst:=none,op:=Op.store 39 (Operand.tmp 3) (Operand.const (Value.int IntKind.i64 0)),type:=0,pos:= "pool.go:43",after:= #[{on:=4,ground:=Ground.chain},{on:=0,ground:=Ground.phase},{on:=1,ground:=Ground.phase},{on:=2,ground:=Ground.phase},{on:=3,ground:=Ground.phase},{on:=4,ground:=Ground.phase}],guard:=none}) rfl (fun K hK=>?_) AllReadyH.nil
  go_simp
  refine hK.out _ _ ?_ (fun hHeld=>?_)
  ·exact c9
  clear hK K
  try simp only [Act.put,List.setIfInBounds_toArray,List.set_cons_zero,List.set_cons_succ]
  refine wpAnyH_done (by kernel_rfl) ?_ _
  dsimp only [mixP]
  obtain⟨w4,hw4⟩:∃w4,w4=w3.setCell ⟨w.heap.size+1,0,none⟩ (.int .i64 0):=⟨_,rfl⟩
  rw [←hw4] at pe
  rw [←hw4]
  clear hw4 hHeld c9
  have HPe:=Hid.mk pe
  clear pe c0'' d0 f0
  go_wp2
  refine leaves_cons (f:=116) (args:= #[.pointer (some ⟨w.heap.size,0,none⟩), .pointer (some ⟨w.heap.size+1,0,none⟩)]) (by simp) (by simp [go_sem]) ?_
  have hp4:PoolAt w4 F a t n:=⟨(HPe.out.2.block a HQ.out.2.2.lt (by omega)).trans HQ.out.2.2.b,HQ.out.2.2.nf⟩
  have g4:=(HPe.out.2.block _ (lt_there HGG.out.1) (by omega)).trans HGG.out.1
  refine(takeNC_idle hp4 g4 HPe.out.1).mono ?_
  rintro e u' w5 ⟨rfl,rfl,hb5,hk5⟩
  have q2:w5.cell? ⟨w.heap.size+1,0,none⟩=some (.int .i64 0):=cell_of_block hb5 (j:=0) rfl
  simp [Leaves,settle,results,Tryz.results73,go_sem,q2,HTK2.out]
  exact⟨(HQ.out.1.side HLo.out HPe.out.2 (fun k e=>by omega)).side HLo.out hk5 (fun k e=>by omega),(HQ.out.2.1.trans HPe.out.2 (fun k e=> .inr (by omega))).trans hk5 (fun k e=> .inr (by omega))⟩
end
end Go.Proofs.YtkiehemoiapkkaaGreat
end
