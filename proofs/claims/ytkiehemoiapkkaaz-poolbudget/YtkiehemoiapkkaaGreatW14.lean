import Derived.Test.YtkiehemoiapkkaaGreatW07
import Derived.Test.YtkiehemoiapkkaaGreatW12
import Derived.Test.YtkiehemoiapkkaaGreatW13
import Derived.Deep.OwnRows
section
namespace Go.Proofs.YtkiehemoiapkkaaGreat
open Go.RowKit Go.Maps
structure STK where
 bm:Nat
 zero:Nat
 first:Nat
 cnt:Nat
 no:Int
def bSt (y:LY):STK:=⟨0,0,y.data,y.blocks-y.data,60⟩
def nSt (y:LY):STK:=⟨1,1,1,y.nodes,61⟩
abbrev stkV (k:STK):Value:= .agg #[.int .i64 (k.bm:Int), .int .i64 (k.zero:Int), .int .i64 (k.first:Int), .int .i64 ((k.first:Int)+(k.cnt:Int)-1), .int .i64 k.no]
structure STK.Ok (k:STK):Prop where
 bm:k.bm<2
 lo:k.zero≤k.first
 hi:k.first-k.zero+k.cnt≤4096
 z:k.zero≤1
def TG.ptook (T:TG) (G:SG) (S:DS) (k:STK):Option Nat→Option Nat×Int×TG
 |none=>(none,k.no,T)
 |some b=>if (T.put G S k.bm (turnBit (T.sees G S k.bm) b)).1=0 then (some (b+k.zero),0,(T.put G S k.bm (turnBit (T.sees G S k.bm) b)).2) else (none,(T.put G S k.bm (turnBit (T.sees G S k.bm) b)).1,(T.put G S k.bm (turnBit (T.sees G S k.bm) b)).2)
def TG.ptake (T:TG) (G:SG) (S:DS) (k:STK):Option Nat×Int×TG:=
 if T.refusal G S k.bm≠0 then (none,T.refusal G S k.bm,T) else T.ptook G S k (lowBit (T.sees G S k.bm) (k.first-k.zero) k.cnt)
def TG.pdrop (T:TG) (G:SG) (S:DS) (k:STK) (x:Int):Int×TG:=
 if T.state G S≠0 then (T.state G S,T) else
 if x<(k.first:Int)∨(k.first:Int)+k.cnt-1<x then (11,T) else
 if T.refusal G S k.bm≠0 then (T.refusal G S k.bm,T) else
 if bitOf (T.sees G S k.bm) (x.toNat-k.zero)=false then (62,T) else T.put G S k.bm (turnBit (T.sees G S k.bm) (x.toNat-k.zero))
def TG.caught (T:TG) (G:SG) (S:DS) (e:Int):TG:=if e=0 then T else (T.spoil G S e).2
structure YOk (y:LY):Prop where
 b2:2≤y.blocks
 bl:y.blocks≤2048
 dy:y.data≤y.blocks
 nd:y.nodes≤4096
structure TX (w:World) (F:Nat→Prop) (p s cR q l m t n:Nat) (S:DS) (G:SG) (T:TG):Prop where
 st:StW w F p s cR q l m S G
 tx:TxW w F q l m t n G T
 byt:S.Byt
 pu:S.puts.length≤6000
 yk:YOk G.y
abbrev OwT (F:Nat→Prop) (t n:Nat):Nat→Prop:=fun k=>F k∨k=t∨k=n
structure PoolAt (w:World) (F:Nat→Prop) (a t n:Nat):Prop where
 b:w.heap[a]? =some (.cells #[.pointer (some ⟨t,0,none⟩)] 59 (0,0))
 nf:¬OwT F t n a
def Ran (x:Int) (v:Value) (e:Ending):Prop:=if x=0 then e= .returned v else e= .panicked (gave x)
section
variable {w w':World} {F:Nat→Prop} {p s cR q l m t n a:Nat} {S:DS} {G:SG} {T:TG}
theorem PoolAt.lt (h:PoolAt w F a t n):a<w.heap.size:=lt_there h.b
theorem PoolAt.keep (h:PoolAt w F a t n) (hk:Keeps (OwT F t n) w w'):PoolAt w' F a t n:=⟨(hk.block a h.lt h.nf).trans h.b,h.nf⟩
theorem PoolAt.later (h:PoolAt w F a t n) (hb:Below w.heap.size w w'):PoolAt w' F a t n:=⟨(hb.block a h.lt).trans h.b,h.nf⟩
theorem PoolAt.c0 (h:PoolAt w F a t n):w.cell? ⟨a,0,none⟩=some (.pointer (some ⟨t,0,none⟩)):=cell_of_block h.b (j:=0) rfl
theorem TX.later (h:TX w F p s cR q l m t n S G T) (hb:Below w.heap.size w w'):TX w' F p s cR q l m t n S G T:=⟨h.st.later hb,h.tx.later hb,h.byt,h.pu,h.yk⟩
theorem TX.asked {c':Nat} (h:TX w F p s cR q l m t n S G T) (hd:B.DiskR w' F p s S c') (hk:Keeps F w w'):TX w' F p s c' q l m t n S G T:=⟨h.st.asked hd hk,h.tx.asked hk,h.byt,h.pu,h.yk⟩
theorem TX.le {c':Nat} (h:TX w F p s cR q l m t n S G T) (hc:cR≤c'):TX w F p s c' q l m t n S G T:=
   ⟨⟨h.st.d.le hc,h.st.st,h.st.lp,h.st.ch,h.st.nq,h.st.nl,h.st.nm,h.st.ql,h.st.qm,h.st.lm,h.st.lk,h.st.bg,h.st.hs,h.st.kb⟩,h.tx,h.byt,h.pu,h.yk⟩
theorem TX.lt (h:TX w F p s cR q l m t n S G T):∀k,OwT F t n k→k<w.heap.size:=fun k hk=>by
 rcases hk with hk|rfl|rfl
 ·exact h.st.d.lt k hk
 ·exact lt_there h.tx.tx
 ·exact h.tx.ch.lt
def TXlt (B:Nat) (F:Nat→Prop) (q l m t n:Nat):Prop:=(∀k,F k→k<B)∧q<B∧l<B∧m<B∧t<B∧n<B
theorem TX.low (h:TX w F p s cR q l m t n S G T):TXlt w.heap.size F q l m t n:=⟨h.st.d.lt,h.st.st.lt,h.st.lp.lt,h.st.ch.lt,lt_there h.tx.tx,h.tx.ch.lt⟩
theorem TX.side {B:Nat} {Z:Nat→Prop} (h:TX w F p s cR q l m t n S G T) (hb:TXlt B F q l m t n) (hk:Keeps Z w w') (hz:∀k,Z k→B≤k):TX w' F p s cR q l m t n S G T:=by
 obtain⟨b1,b2,b3,b4,b5,b6⟩:=hb
 have no:∀k,k<B→¬Z k:=fun k h1 h2=>by have:=hz k h2;omega
 exact⟨⟨h.st.d.keep hk (fun k hk=>no k (b1 k hk)),h.st.st.keep hk (no _ b2),h.st.lp.keep hk (no _ b3),h.st.ch.keep hk (no _ b4),h.st.nq,h.st.nl,h.st.nm,h.st.ql,h.st.qm,h.st.lm,h.st.lk,h.st.bg,h.st.hs,h.st.kb⟩,⟨(hk.block t (lt_there h.tx.tx) (no _ b5)).trans h.tx.tx,h.tx.ch.keep hk (no _ b6),h.tx.nt,h.tx.nn,h.tx.tq,h.tx.tl,h.tx.tm,h.tx.tn,h.tx.nq,h.tx.nl,h.tx.nm,h.tx.kb⟩,h.byt,h.pu,h.yk⟩
theorem TX.turn {c':Nat} {T':TG} (h:TX w F p s cR q l m t n S G T) (h1:w'.heap[t]? =some (.cells (txC q n T') 106 (0,0))) (h2:Ch w' n T'.puts) (h3:B.DiskR w' F p s S c') (hk:Keeps (OwT F t n) w w') (hb:∀x∈T'.puts,x.1<G.y.blocks):TX w' F p s c' q l m t n S G T':=by
 have no:∀k,¬F k→k≠t→k≠n→¬OwT F t n k:=fun k a b c hx=>by
  rcases hx with hx|hx|hx
  ·exact a hx
  ·exact b hx
  ·exact c hx
 exact⟨⟨h3,h.st.st.keep hk (no _ h.st.nq h.tx.tq.symm h.tx.nq.symm),h.st.lp.keep hk (no _ h.st.nl h.tx.tl.symm h.tx.nl.symm),h.st.ch.keep hk (no _ h.st.nm h.tx.tm.symm h.tx.nm.symm),h.st.nq,h.st.nl,h.st.nm,h.st.ql,h.st.qm,h.st.lm,h.st.lk,h.st.bg,h.st.hs,h.st.kb⟩,⟨h1,h2,h.tx.nt,h.tx.nn,h.tx.tq,h.tx.tl,h.tx.tm,h.tx.tn,h.tx.nq,h.tx.nl,h.tx.nm,hb⟩,h.byt,h.pu,h.yk⟩
theorem put_kb {b:Int} {d:List Int} (hT:∀x∈T.puts,x.1<G.y.blocks):∀x∈(T.put G S b d).2.puts,x.1<G.y.blocks:=by
 unfold TG.put
 split
 ·exact hT
 ·rename_i h0
  obtain⟨_,_,_,r4,r5⟩:=refusal_zero (Decidable.of_not_not h0)
  split
  ·exact hT
  ·split
   ·exact hT
   ·split
    ·exact hT
    ·intro x hx
     rcases CM.put_key hx with rfl|hx
     ·show b.toNat<G.y.blocks;omega
     ·exact hT x hx
theorem TX.put {c':Nat} {b:Int} {d:List Int} {e:Ending} (h:TX w F p s cR q l m t n S G T) (hP:PutOut w w' F p s c' q t n S (T.put G S b d) e):TX w' F p s c' q l m t n S G (T.put G S b d).2∧Keeps (OwT F t n) w w':=by
 obtain⟨_,h1,h2,h3,h4⟩:=hP
 exact⟨h.turn h1 h2 h3 h4 (put_kb h.tx.kb),h4⟩
theorem TX.bytes (h:TX w F p s cR q l m t n S G T) (b:Nat):Bytes (T.sees G S b):=by
 unfold TG.sees SG.block
 cases hg:CM.get T.puts b with
 |some c=>exact(h.tx.ch.len _ (CM.get_mem hg)).2.2
 |none=>
  show Bytes ((CM.get G.ov b).getD _)
  cases hg':CM.get G.ov b with
  |some c=>exact(h.st.ch.len _ (CM.get_mem hg')).2.2
  |none=>exact h.byt.now _
theorem TX.len (h:TX w F p s cR q l m t n S G T) (b:Nat) (hb:b<G.y.blocks):(T.sees G S b).length=512:=sees_len h.st h.tx b hb
theorem TX.big (h:TX w F p s cR q l m t n S G T):S.puts.length+1≤4000000000000:=by have:=h.pu;omega
set_option maxRecDepth 20000 in
set_option maxHeartbeats 4000000 in
theorem bits_ok (h:TX w F p s cR q l m t n S G T) (hp:PoolAt w F a t n) (k:STK) (h0:T.refusal G S k.bm=0):
  Calls Tryz.prog 145 #[.pointer (some ⟨a,0,none⟩),stkV k] w fun e w'=>∃g,e= .returned (.slice (some ⟨g,0,none⟩) 512 512)∧w.heap.size≤g∧Blk w' 113 g (T.sees G S k.bm)∧TX w' F p s (cR+1) q l m t n S G T∧Keeps F w w':=by
 obtain⟨w1,hw1⟩:∃w1,w1=w.alloc (.cells #[.int .i64 (k.bm:Int), .int .i64 (k.zero:Int), .int .i64 (k.first:Int), .int .i64 ((k.first:Int)+(k.cnt:Int)-1), .int .i64 k.no] 61):=⟨_,rfl⟩
 have hB1:Below w.heap.size w w1:=by rw [hw1];exact below_box _ _
 have hbx:w1.heap[w.heap.size]? =some (.cells #[.int .i64 (k.bm:Int), .int .i64 (k.zero:Int), .int .i64 (k.first:Int), .int .i64 ((k.first:Int)+(k.cnt:Int)-1), .int .i64 k.no] 61 (0,0)):=by rw [hw1];exact heap_alloc_new _ _
 have hB1d:Below w.heap.size w w1.drew:=below_drew hB1
 have c0:w1.drew.cell? ⟨a,0,none⟩=some (.pointer (some ⟨t,0,none⟩)):=(hp.later hB1d).c0
 have c1:w1.drew.cell? ⟨w.heap.size,0,none⟩=some (.int .i64 (k.bm:Int)):=cell_of_block (w:=w1.drew) hbx (j:=0) rfl
 have h1:=(Get_any (h.later hB1d).st (h.later hB1d).tx (k.bm:Int) h.big).mono (fun e w' hx=>by unfold GetOut at hx;rw [if_neg (fun hh=>hh h0),Int.toNat_natCast] at hx;exact hx)
 have hz1:w1.heap.size=w.heap.size+1:=by rw [hw1,World.size_alloc]
 have HX:=Hid.mk (h.later hB1d)
 have HB:=Hid.mk hB1d
 have HP:=Hid.mk (hp.later hB1d)
 have HLt:=Hid.mk h.lt
 have hnF:¬F w.heap.size:=fun hf=>by have:=h.st.d.lt _ hf;omega
 have hbx':w1.drew.heap[w.heap.size]? =some (.cells #[.int .i64 (k.bm:Int), .int .i64 (k.zero:Int), .int .i64 (k.first:Int), .int .i64 ((k.first:Int)+(k.cnt:Int)-1), .int .i64 k.no] 61 (0,0)):=hbx
 have HBX:=Hid.mk hbx'
 clear h hp hB1 hB1d hbx hbx' h0
 go_enter Tryz.func145,Tryz.ntmps145
 go_wp2_with fail
 rw [←hw1]
 clear hw1
 go_region_held3 (fun w'=>w'.cell? ⟨a,0,none⟩=some (.pointer (some ⟨t,0,none⟩))∧w'.cell? ⟨w.heap.size,0,none⟩=some (.int .i64 (k.bm:Int)))
  (first|exact⟨c0,c1⟩|exact⟨c0',c1'⟩)
  (first
   |(go_at_call 32;refine h1.mono ?_;rintro e w2 ⟨⟨g,rfl,hg,hblk⟩,hd2,hk2⟩;have c0':w2.cell? ⟨a,0,none⟩=some (.pointer (some ⟨t,0,none⟩)):=(HP.out.keep (hk2.mono (fun _ h=> .inl h))).c0;have c1':w2.cell? ⟨w.heap.size,0,none⟩=some (.int .i64 (k.bm:Int)):=cell_of_block ((hk2.block _ (lt_there HBX.out) hnF).trans HBX.out) (j:=0) rfl)
   |(go_at_call 174;refine(haltGot_ok _ _ _ _).mono ?_;rintro e w3 ⟨rfl,hw3⟩;have hw3':=hw3.symm;clear hw3;subst hw3'))
 have HN:Hid (w.heap.size≤g∧Blk w2 113 g (T.sees G S k.bm)∧TX w2 F p s (cR+1) q l m t n S G T∧Keeps F w w2):=⟨Nat.le_trans HB.out.size hg,hblk,HX.out.asked hd2 hk2,(Keeps.of_below F HB.out).trans hk2 (fun _ h=> .inl h)⟩
 clear h1 hblk hd2 hk2 c0 c1 c0' c1'
 go_wp2
 go_ret
 exact⟨g,rfl,HN.out⟩
end
end Go.Proofs.YtkiehemoiapkkaaGreat
end
section
namespace Go.Proofs.YtkiehemoiapkkaaGreat
open Go.RowKit Go.Maps
abbrev stkO (k:STK):Obj:= .cells #[.int .i64 (k.bm:Int), .int .i64 (k.zero:Int), .int .i64 (k.first:Int), .int .i64 ((k.first:Int)+(k.cnt:Int)-1), .int .i64 k.no] 61
theorem haltOn_ran (w:World) (x:Int):Calls Tryz.prog 62 #[.int .i64 x] w fun e w'=>(if x=0 then e= .returned (.tuple #[]) else e= .panicked (gave x))∧w'=w:=by
 by_cases h:x=0
 ·rw [h]
  exact(haltOn_ok w).mono (fun e w' hx=>⟨(if_pos rfl).mpr hx.1,hx.2⟩)
 ·exact(haltOn_no w x h).mono (fun e w' hx=>⟨(if_neg h).mpr hx.1,hx.2⟩)
section
variable {w w':World} {F:Nat→Prop} {p s cR q l m t n a:Nat} {S:DS} {G:SG} {T:TG}
theorem Src.of_cells {E:TypeId} {g:Nat} {d:List Int} (hb:w.heap[g]? =some (.cells (bs d).toArray E (0,0))):Src w (some ⟨g,0,none⟩) d.length d:=
   ⟨rfl,(fun h=>by cases h),fun x hx i hi=>by
  cases hx
  rw [addr_add,Nat.zero_add]
  exact cell_of_block hb (by simp [bs,List.getD,hi])⟩
set_option maxRecDepth 20000 in
set_option maxHeartbeats 4000000 in
theorem bits_no (h:TX w F p s cR q l m t n S G T) (hp:PoolAt w F a t n) (k:STK) (h0:T.refusal G S k.bm≠0):
  Calls Tryz.prog 145 #[.pointer (some ⟨a,0,none⟩),stkV k] w fun e w'=>e= .panicked (gave (T.refusal G S k.bm))∧TX w' F p s (cR+1) q l m t n S G T∧Keeps F w w':=by
 obtain⟨w1,hw1⟩:∃w1,w1=w.alloc (stkO k):=⟨_,rfl⟩
 have hB1:Below w.heap.size w w1:=by rw [hw1];exact below_box _ _
 have hbx:w1.heap[w.heap.size]? =some (.cells #[.int .i64 (k.bm:Int), .int .i64 (k.zero:Int), .int .i64 (k.first:Int), .int .i64 ((k.first:Int)+(k.cnt:Int)-1), .int .i64 k.no] 61 (0,0)):=by rw [hw1];exact heap_alloc_new _ _
 have hB1d:Below w.heap.size w w1.drew:=below_drew hB1
 have c0:w1.drew.cell? ⟨a,0,none⟩=some (.pointer (some ⟨t,0,none⟩)):=(hp.later hB1d).c0
 have c1:w1.drew.cell? ⟨w.heap.size,0,none⟩=some (.int .i64 (k.bm:Int)):=cell_of_block (w:=w1.drew) hbx (j:=0) rfl
 have h1:=(Get_any (h.later hB1d).st (h.later hB1d).tx (k.bm:Int) h.big).mono (fun e w' hx=>by unfold GetOut at hx;rw [if_pos h0] at hx;exact hx)
 generalize T.refusal G S k.bm=R at*
 have HX:=Hid.mk (h.later hB1d)
 have HB:=Hid.mk hB1d
 have HP:=Hid.mk (hp.later hB1d)
 have hnF:¬F w.heap.size:=fun hf=>by have:=h.st.d.lt _ hf;omega
 have hbx':w1.drew.heap[w.heap.size]? =some (.cells #[.int .i64 (k.bm:Int), .int .i64 (k.zero:Int), .int .i64 (k.first:Int), .int .i64 ((k.first:Int)+(k.cnt:Int)-1), .int .i64 k.no] 61 (0,0)):=hbx
 have HBX:=Hid.mk hbx'
 have HR:=Hid.mk h0
 unfold stkO at hw1
 clear h hp hB1 hB1d hbx hbx' h0
 go_enter Tryz.func145,Tryz.ntmps145
 go_wp2_with fail
 rw [←hw1]
 clear hw1
 refine wp_region_held_drew (S:=(fun w'=>w'.cell? ⟨a,0,none⟩=some (.pointer (some ⟨t,0,none⟩))∧w'.cell? ⟨w.heap.size,0,none⟩=some (.int .i64 (k.bm:Int)))) (by kernel_rfl) (⟨c0,c1⟩) (fun hHeld=>?_)
 refine wpAnyH_take (i:=0) (oi:={dst:=some 5,op:=Op.move (Operand.tmp 0),type:=35,pos:= "stock.go:67",after:= #[],guard:=none}) (v:= .pointer (some ⟨a,0,none⟩)) rfl (by kernel_rfl) (by kernel_rfl) (by kernel_rfl) (fun _ _ _ h=>h) (Or.inl ⟨by rfl,?_⟩) (by assumption) ?_
 ·intro w hSw
  (try dsimp only at hSw)
  go_simp
 try simp only [Act.put,List.setIfInBounds_toArray,List.set_cons_zero,List.set_cons_succ]
 refine wpAnyH_take (i:=1) (oi:={dst:=some 6,op:=Op.nilCheck (Operand.tmp 5),type:=0,pos:= "stock.go:67",after:= #[{on:=0,ground:=Ground.data}],guard:=none}) (v:= .pointer (some ⟨a,0,none⟩)) rfl (by kernel_rfl) (by kernel_rfl) (by kernel_rfl) (fun _ _ _ h=>h) (Or.inl ⟨by rfl,?_⟩) (by assumption) ?_
 ·intro w hSw
  (try dsimp only at hSw)
  go_simp
 try simp only [Act.put,List.setIfInBounds_toArray,List.set_cons_zero,List.set_cons_succ]
 refine wpAnyH_take (i:=2) (oi:={dst:=some 7,op:=Op.fieldAddr 59 (Operand.tmp 6) 0,type:=0,pos:= "stock.go:67",after:= #[{on:=1,ground:=Ground.data}],guard:=none}) (v:= .pointer (some ⟨a,0,none⟩)) rfl (by kernel_rfl) (by kernel_rfl) (by kernel_rfl) (fun _ _ _ h=>h) (Or.inl ⟨by rfl,?_⟩) (by assumption) ?_
 ·intro w hSw
  (try dsimp only at hSw)
  go_simp
 try simp only [Act.put,List.setIfInBounds_toArray,List.set_cons_zero,List.set_cons_succ]
 refine wpAnyH_take (i:=3) (oi:={dst:=some 8,op:=Op.load 57 (Operand.tmp 7),type:=57,pos:= "stock.go:67",after:= #[{on:=2,ground:=Ground.data}],guard:=none}) (v:= .pointer (some ⟨t,0,none⟩)) rfl (by kernel_rfl) (by kernel_rfl) (by kernel_rfl) (fun _ _ _ h=>h) (Or.inl ⟨by rfl,?_⟩) (by assumption) ?_
 ·intro w hSw
  (try dsimp only at hSw)
  go_simp
 try simp only [Act.put,List.setIfInBounds_toArray,List.set_cons_zero,List.set_cons_succ]
 refine wpAnyH_take (i:=4) (oi:={dst:=some 9,op:=Op.fieldAddr 61 (Operand.tmp 3) 0,type:=0,pos:= "stock.go:67",after:= #[],guard:=none}) (v:= .pointer (some ⟨w.heap.size,0,none⟩)) rfl (by kernel_rfl) (by kernel_rfl) (by kernel_rfl) (fun _ _ _ h=>h) (Or.inl ⟨by rfl,?_⟩) (by assumption) ?_
 ·intro w hSw
  (try dsimp only at hSw)
  go_simp
 try simp only [Act.put,List.setIfInBounds_toArray,List.set_cons_zero,List.set_cons_succ]
 refine wpAnyH_take (i:=5) (oi:={dst:=some 10,op:=Op.load 3 (Operand.tmp 9),type:=3,pos:= "stock.go:67",after:= #[{on:=4,ground:=Ground.data}],guard:=none}) (v:= .int .i64 (k.bm:Int)) rfl (by kernel_rfl) (by kernel_rfl) (by kernel_rfl) (fun _ _ _ h=>h) (Or.inl ⟨by rfl,?_⟩) (by assumption) ?_
 ·intro w hSw
  (try dsimp only at hSw)
  go_simp
 try simp only [Act.put,List.setIfInBounds_toArray,List.set_cons_zero,List.set_cons_succ]
 refine wpAnyH_ready (rs:= [6]) (by kernel_rfl) (by simp) ?_
 refine AllReadyH.cons (o:={dst:=some 11,op:=Op.call {callee:=Callee.value (Operand.func 32),args:= #[Operand.tmp 8,Operand.tmp 10],argTypes:= #[57,3]},type:=74,pos:= "stock.go:67",after:= #[{on:=3,ground:=Ground.data},{on:=5,ground:=Ground.data}],guard:=none}) rfl (fun K hK=>?_) AllReadyH.nil
 go_simp
 refine h1.mono ?_
 rintro e w2 ⟨rfl,hd2,hk2⟩
 have c0':w2.cell? ⟨a,0,none⟩=some (.pointer (some ⟨t,0,none⟩)):=(HP.out.keep (hk2.mono (fun _ h=> .inl h))).c0
 have c1':w2.cell? ⟨w.heap.size,0,none⟩=some (.int .i64 (k.bm:Int)):=cell_of_block ((hk2.block _ (lt_there HBX.out) hnF).trans HBX.out) (j:=0) rfl
 refine hK.out _ _ ?_ (fun hHeld=>?_)
 ·exact⟨c0',c1'⟩
 clear hK K
 try simp only [Act.put,List.setIfInBounds_toArray,List.set_cons_zero,List.set_cons_succ]
 refine wpAnyH_take (i:=7) (oi:={dst:=some 12,op:=Op.extract (Operand.tmp 11) 0,type:=44,pos:= "stock.go:67",after:= #[{on:=6,ground:=Ground.data}],guard:=none}) (v:= .slice none 0 0) rfl (by kernel_rfl) (by kernel_rfl) (by kernel_rfl) (fun _ _ _ h=>h) (Or.inl ⟨by rfl,?_⟩) (by assumption) ?_
 ·intro w hSw
  (try dsimp only at hSw)
  go_simp
 try simp only [Act.put,List.setIfInBounds_toArray,List.set_cons_zero,List.set_cons_succ]
 refine wpAnyH_take (i:=8) (oi:={dst:=some 13,op:=Op.extract (Operand.tmp 11) 1,type:=39,pos:= "stock.go:67",after:= #[{on:=6,ground:=Ground.data}],guard:=none}) (v:= .int .i64 R) rfl (by kernel_rfl) (by kernel_rfl) (by kernel_rfl) (fun _ _ _ h=>h) (Or.inl ⟨by rfl,?_⟩) (by assumption) ?_
 ·intro w hSw
  (try dsimp only at hSw)
  go_simp
 try simp only [Act.put,List.setIfInBounds_toArray,List.set_cons_zero,List.set_cons_succ]
 refine wpAnyH_ready (rs:= [9]) (by kernel_rfl) (by simp) ?_
 refine AllReadyH.cons (o:={dst:=some 14,op:=Op.call {callee:=Callee.value (Operand.func 174),args:= #[Operand.tmp 12,Operand.tmp 13],argTypes:= #[44,39]},type:=44,pos:= "stock.go:67",after:= #[{on:=7,ground:=Ground.data},{on:=8,ground:=Ground.data},{on:=6,ground:=Ground.chain}],guard:=none}) rfl (fun K hK=>?_) AllReadyH.nil
 go_simp
 refine(haltGot_no _ _ _ HR.out).mono ?_
 rintro e w3 ⟨rfl,hw3⟩
 have hw3':=hw3.symm
 subst hw3'
 exact⟨rfl,rfl,HX.out.asked hd2 hk2,(Keeps.of_below F HB.out).trans hk2 (fun _ h=> .inl h)⟩
set_option maxRecDepth 20000 in
set_option maxHeartbeats 4000000 in
theorem play_any {E:TypeId} {g c:Nat} {d:List Int} (h:TX w F p s cR q l m t n S G T) (hp:PoolAt w F a t n) (k:STK) (hg:w.heap[g]? =some (.cells (bs d).toArray E (0,0))) (hl:d.length=512) (hbd:Bytes d):
  Calls Tryz.prog 27 #[.pointer (some ⟨a,0,none⟩),stkV k, .slice (some ⟨g,0,none⟩) 512 c] w fun e w'=>Ran (T.put G S k.bm d).1 (.tuple #[]) e∧TX w' F p s (cR+1) q l m t n S G (T.put G S k.bm d).2∧Keeps (OwT F t n) w w':=by
 obtain⟨w1,hw1⟩:∃w1,w1=w.alloc (stkO k):=⟨_,rfl⟩
 have hB1:Below w.heap.size w w1:=by rw [hw1];exact below_box _ _
 have hbx:w1.heap[w.heap.size]? =some (.cells #[.int .i64 (k.bm:Int), .int .i64 (k.zero:Int), .int .i64 (k.first:Int), .int .i64 ((k.first:Int)+(k.cnt:Int)-1), .int .i64 k.no] 61 (0,0)):=by rw [hw1];exact heap_alloc_new _ _
 have hB1d:Below w.heap.size w w1.drew:=below_drew hB1
 have c0:w1.drew.cell? ⟨a,0,none⟩=some (.pointer (some ⟨t,0,none⟩)):=(hp.later hB1d).c0
 have c1:w1.drew.cell? ⟨w.heap.size,0,none⟩=some (.int .i64 (k.bm:Int)):=cell_of_block (w:=w1.drew) hbx (j:=0) rfl
 have hsrc:Src w1.drew (some ⟨g,0,none⟩) 512 d:=by
  have:=Src.of_cells ((hB1d.block g (lt_there hg)).trans hg)
  rwa [hl] at this
 have h1:=Put_any (h.later hB1d).st (h.later hB1d).tx (k.bm:Int) (some ⟨g,0,none⟩) 512 c d hsrc (by omega) hbd h.big
 have HX:=Hid.mk (h.later hB1d)
 have HB:=Hid.mk hB1d
 have HP:=Hid.mk (hp.later hB1d)
 have hnF:¬OwT F t n w.heap.size:=fun hf=>by have:=h.lt _ hf;omega
 have hbx':w1.drew.heap[w.heap.size]? =some (.cells #[.int .i64 (k.bm:Int), .int .i64 (k.zero:Int), .int .i64 (k.first:Int), .int .i64 ((k.first:Int)+(k.cnt:Int)-1), .int .i64 k.no] 61 (0,0)):=hbx
 have HBX:=Hid.mk hbx'
 unfold stkO at hw1
 have h2:Calls Tryz.prog 63 #[.pointer (some ⟨t,0,none⟩), .int .i64 (k.bm:Int), .slice (some ⟨g,0,none⟩) 512 c] w1.drew fun e w'=>e= .returned (.int .i64 (T.put G S k.bm d).1)∧TX w' F p s (cR+1) q l m t n S G (T.put G S k.bm d).2∧Keeps (OwT F t n) w1.drew w':=
  h1.mono (fun e w' hx=>⟨hx.1,HX.out.put hx⟩)
 clear h hp hB1 hB1d hbx hbx' h1 hsrc hg hl hbd HX
 generalize T.put G S k.bm d=R at*
 unfold Ran
 have HwX:=Hid.mk hw1
 clear hw1
 go_enter Tryz.func27,Tryz.ntmps27
 go_wp2_with fail
 rw [←HwX.out]
 clear HwX
 refine wp_region_held_drew (S:=(fun w'=>w'.cell? ⟨a,0,none⟩=some (.pointer (some ⟨t,0,none⟩))∧w'.cell? ⟨w.heap.size,0,none⟩=some (.int .i64 (k.bm:Int)))) (by kernel_rfl) (⟨c0,c1⟩) (fun hHeld=>?_)
 refine wpAnyH_take (i:=0) (oi:={dst:=some 6,op:=Op.move (Operand.tmp 0),type:=35,pos:= "stock.go:69",after:= #[],guard:=none}) (v:= .pointer (some ⟨a,0,none⟩)) rfl (by kernel_rfl) (by kernel_rfl) (by kernel_rfl) (fun _ _ _ h=>h) (Or.inl ⟨by rfl,?_⟩) (by assumption) ?_
 ·intro w hSw
  (try dsimp only at hSw)
  go_simp
 try simp only [Act.put,List.setIfInBounds_toArray,List.set_cons_zero,List.set_cons_succ]
 refine wpAnyH_take (i:=1) (oi:={dst:=some 7,op:=Op.nilCheck (Operand.tmp 6),type:=0,pos:= "stock.go:69",after:= #[{on:=0,ground:=Ground.data}],guard:=none}) (v:= .pointer (some ⟨a,0,none⟩)) rfl (by kernel_rfl) (by kernel_rfl) (by kernel_rfl) (fun _ _ _ h=>h) (Or.inl ⟨by rfl,?_⟩) (by assumption) ?_
 ·intro w hSw
  (try dsimp only at hSw)
  go_simp
 try simp only [Act.put,List.setIfInBounds_toArray,List.set_cons_zero,List.set_cons_succ]
 refine wpAnyH_take (i:=2) (oi:={dst:=some 8,op:=Op.fieldAddr 59 (Operand.tmp 7) 0,type:=0,pos:= "stock.go:69",after:= #[{on:=1,ground:=Ground.data}],guard:=none}) (v:= .pointer (some ⟨a,0,none⟩)) rfl (by kernel_rfl) (by kernel_rfl) (by kernel_rfl) (fun _ _ _ h=>h) (Or.inl ⟨by rfl,?_⟩) (by assumption) ?_
 ·intro w hSw
  (try dsimp only at hSw)
  go_simp
 try simp only [Act.put,List.setIfInBounds_toArray,List.set_cons_zero,List.set_cons_succ]
 refine wpAnyH_take (i:=3) (oi:={dst:=some 9,op:=Op.load 57 (Operand.tmp 8),type:=57,pos:= "stock.go:69",after:= #[{on:=2,ground:=Ground.data}],guard:=none}) (v:= .pointer (some ⟨t,0,none⟩)) rfl (by kernel_rfl) (by kernel_rfl) (by kernel_rfl) (fun _ _ _ h=>h) (Or.inl ⟨by rfl,?_⟩) (by assumption) ?_
 ·intro w hSw
  (try dsimp only at hSw)
  go_simp
 try simp only [Act.put,List.setIfInBounds_toArray,List.set_cons_zero,List.set_cons_succ]
 refine wpAnyH_take (i:=4) (oi:={dst:=some 10,op:=Op.fieldAddr 61 (Operand.tmp 4) 0,type:=0,pos:= "stock.go:69",after:= #[],guard:=none}) (v:= .pointer (some ⟨w.heap.size,0,none⟩)) rfl (by kernel_rfl) (by kernel_rfl) (by kernel_rfl) (fun _ _ _ h=>h) (Or.inl ⟨by rfl,?_⟩) (by assumption) ?_
 ·intro w hSw
  (try dsimp only at hSw)
  go_simp
 try simp only [Act.put,List.setIfInBounds_toArray,List.set_cons_zero,List.set_cons_succ]
 refine wpAnyH_take (i:=5) (oi:={dst:=some 11,op:=Op.load 3 (Operand.tmp 10),type:=3,pos:= "stock.go:69",after:= #[{on:=4,ground:=Ground.data}],guard:=none}) (v:= .int .i64 (k.bm:Int)) rfl (by kernel_rfl) (by kernel_rfl) (by kernel_rfl) (fun _ _ _ h=>h) (Or.inl ⟨by rfl,?_⟩) (by assumption) ?_
 ·intro w hSw
  (try dsimp only at hSw)
  go_simp
 try simp only [Act.put,List.setIfInBounds_toArray,List.set_cons_zero,List.set_cons_succ]
 refine wpAnyH_take (i:=6) (oi:={dst:=some 12,op:=Op.move (Operand.tmp 2),type:=64,pos:= "stock.go:69",after:= #[],guard:=none}) (v:= .slice (some ⟨g,0,none⟩) 512 c) rfl (by kernel_rfl) (by kernel_rfl) (by kernel_rfl) (fun _ _ _ h=>h) (Or.inl ⟨by rfl,?_⟩) (by assumption) ?_
 ·intro w hSw
  (try dsimp only at hSw)
  go_simp
 try simp only [Act.put,List.setIfInBounds_toArray,List.set_cons_zero,List.set_cons_succ]
 refine wpAnyH_ready (rs:= [7]) (by kernel_rfl) (by simp) ?_
 refine AllReadyH.cons (o:={dst:=some 13,op:=Op.call {callee:=Callee.value (Operand.func 63),args:= #[Operand.tmp 9,Operand.tmp 11,Operand.tmp 12],argTypes:= #[57,3,44]},type:=39,pos:= "stock.go:69",after:= #[{on:=3,ground:=Ground.data},{on:=5,ground:=Ground.data},{on:=6,ground:=Ground.data}],guard:=none}) rfl (fun K hK=>?_) AllReadyH.nil
 go_simp
 refine h2.mono ?_
 rintro e w2 ⟨rfl,hx2,hk2⟩
 have c0':w2.cell? ⟨a,0,none⟩=some (.pointer (some ⟨t,0,none⟩)):=(HP.out.keep hk2).c0
 have c1':w2.cell? ⟨w.heap.size,0,none⟩=some (.int .i64 (k.bm:Int)):=cell_of_block ((hk2.block _ (lt_there HBX.out) hnF).trans HBX.out) (j:=0) rfl
 have HN:Hid (TX w2 F p s (cR+1) q l m t n S G R.2∧Keeps (OwT F t n) w w2):=⟨hx2,(Keeps.of_below _ HB.out).trans hk2 (fun _ h=> .inl h)⟩
 clear h2 hx2 hk2
 refine hK.out _ _ ?_ (fun hHeld=>?_)
 ·exact⟨c0',c1'⟩
 clear hK K
 try simp only [Act.put,List.setIfInBounds_toArray,List.set_cons_zero,List.set_cons_succ]
 refine wpAnyH_ready (rs:= [8]) (by kernel_rfl) (by simp) ?_
 refine AllReadyH.cons (o:={dst:=some 14,op:=Op.call {callee:=Callee.value (Operand.func 62),args:= #[Operand.tmp 13],argTypes:= #[39]},type:=0,pos:= "stock.go:69",after:= #[{on:=7,ground:=Ground.data},{on:=7,ground:=Ground.chain}],guard:=none}) rfl (fun K hK=>?_) AllReadyH.nil
 go_simp
 refine(haltOn_ran w2 R.1).mono ?_
 rintro e w3 ⟨hran,hw3⟩
 have hw3':=hw3.symm
 subst hw3'
 clear hw3
 by_cases hr:R.1=0
 ·rw [if_pos hr] at hran
  subst hran
  refine hK.out _ _ ?_ (fun hHeld=>?_)
  ·exact⟨c0',c1'⟩
  clear hK K
  try simp only [Act.put,List.setIfInBounds_toArray,List.set_cons_zero,List.set_cons_succ]
  refine wpAnyH_done (by kernel_rfl) ?_ _
  go_end0
  exact⟨(if_pos hr).mpr rfl,HN.out⟩
 ·rw [if_neg hr] at hran
  subst hran
  exact⟨rfl,(if_neg hr).mpr rfl,HN.out⟩
end
end Go.Proofs.YtkiehemoiapkkaaGreat
end
section
namespace Go.Proofs.YtkiehemoiapkkaaGreat
open Go.RowKit Go.Maps
theorem infoStk:(Tryz.prog.info? 61).map (·.size)=some 5:=by kernel_rfl
section
variable {w w':World} {F:Nat→Prop} {p s cR q l m t n a:Nat} {S:DS} {G:SG} {T:TG}
set_option maxRecDepth 20000 in
set_option maxHeartbeats 4000000 in
theorem blocks_any (h:TX w F p s cR q l m t n S G T) (hp:PoolAt w F a t n):
  Calls Tryz.prog 25 #[.pointer (some ⟨a,0,none⟩)] w fun e w'=>e= .returned (stkV (bSt G.y))∧Below w.heap.size w w':=by
 have hb:=below_box w (.cells #[.int .i64 0, .int .i64 0, .int .i64 0, .int .i64 0, .int .i64 0] 61)
 have hbx:=heap_alloc_new w (.cells #[.int .i64 0, .int .i64 0, .int .i64 0, .int .i64 0, .int .i64 0] 61)
 have c0:=(hp.later hb).c0
 have h1:=tlayout_any (h.later hb).st.st (h.later hb).tx
 have e1:wrap64 ((G.y.blocks:Int)-1)=((bSt G.y).first:Int)+((bSt G.y).cnt:Int)-1:=by
  have h1:=h.yk.bl
  have h2:=h.yk.dy
  show wrap64 ((G.y.blocks:Int)-1)=(G.y.data:Int)+((G.y.blocks-G.y.data:Nat):Int)-1
  unfold wrap64
  omega
 have e2:(bSt G.y).first=G.y.data:=rfl
 have HB:=Hid.mk hb
 have hz:(w.alloc (.cells #[.int .i64 0, .int .i64 0, .int .i64 0, .int .i64 0, .int .i64 0] 61)).heap.size=w.heap.size+1:=by rw [World.size_alloc]
 clear h hp hb
 show Calls _ _ _ _ fun e w'=>e= .returned (.agg #[.int .i64 0, .int .i64 0, .int .i64 (G.y.data:Int), .int .i64 (((bSt G.y).first:Int)+((bSt G.y).cnt:Int)-1), .int .i64 60])∧_
 obtain⟨L,hL⟩:∃L:Int,L=((bSt G.y).first:Int)+((bSt G.y).cnt:Int)-1:=⟨_,rfl⟩
 rw [←hL] at e1
 rw [←hL]
 clear hL e2
 go_enter Tryz.func25,Tryz.ntmps25
 go_wp2_with fail
 refine h1.mono ?_
 rintro e w2 ⟨rfl,hb2⟩
 have hbx2:=(hb2.block _ (lt_there hbx)).trans hbx
 have HB2:=Hid.mk (HB.out.trans (hb2.mono (by omega)))
 have hlt2:w.heap.size<w2.heap.size:=lt_there hbx2
 dsimp only [lyV]
 clear h1 hb2 hbx
 have hbl:=below_box w2 (.cells #[.int .i64 (G.y.log:Int), .int .i64 (G.y.home:Int), .int .i64 (G.y.blocks:Int), .int .i64 (G.y.nodes:Int), .int .i64 (G.y.data:Int)] 87)
 have hbx3:=(hbl.block _ hlt2).trans hbx2
 have hth:=there_of hbx3 (n:=5) rfl
 have hra:((w2.alloc (.cells #[.int .i64 (G.y.log:Int), .int .i64 (G.y.home:Int), .int .i64 (G.y.blocks:Int), .int .i64 (G.y.nodes:Int), .int .i64 (G.y.data:Int)] 87)).setCells w.heap.size 0 [.int .i64 0, .int .i64 0, .int .i64 (G.y.data:Int), .int .i64 L, .int .i64 60]).rangeAt w.heap.size 0 [.int .i64 0, .int .i64 0, .int .i64 (G.y.data:Int), .int .i64 L, .int .i64 60]:=World.rangeAt_setCells_same _ w.heap.size 0 _ hth
 have HE:Hid (Below w.heap.size w ((w2.alloc (.cells #[.int .i64 (G.y.log:Int), .int .i64 (G.y.home:Int), .int .i64 (G.y.blocks:Int), .int .i64 (G.y.nodes:Int), .int .i64 (G.y.data:Int)] 87)).setCells w.heap.size 0 [.int .i64 0, .int .i64 0, .int .i64 (G.y.data:Int), .int .i64 L, .int .i64 60])):=
    (HB2.out.trans (hbl.mono (by omega))).trans ((Keeps.setCells (F:=fun j=>j=w.heap.size) rfl _ 0 _).below (fun j hj=>by omega) (by have:=hbl.size;omega))
 have HRa:=Hid.mk hra
 clear hbl hbx2 hbx3 hra
 go_wp2_with (refine wpList_store_mid rfl 61 _ _ rfl w.heap.size 0 #[.int .i64 0, .int .i64 0, .int .i64 (G.y.data:Int), .int .i64 L, .int .i64 60] rfl rfl ?h1 ?h2 ?h3 ?_)
 case h1=>exact hth
 case h2=>exact infoStk
 case h3=>simp [Value.oneCell']
 refine bodyPost_ret (results_cell_mid (P:=Tryz.prog) rfl _ _ w.heap.size _ _ rfl HRa.out Tryz.underlying61 rfl infoStk) rfl ⟨rfl,HE.out⟩
theorem ly_nodes (y:LY) (w:World):(Instr.field 87 (lyV y) 3).run Tryz.prog w= .ok (.int .i64 (y.nodes:Int)) w:=by kernel_rfl
set_option maxRecDepth 20000 in
set_option maxHeartbeats 4000000 in
theorem nodes_any (h:TX w F p s cR q l m t n S G T) (hp:PoolAt w F a t n):
  Calls Tryz.prog 26 #[.pointer (some ⟨a,0,none⟩)] w fun e w'=>e= .returned (stkV (nSt G.y))∧Below w.heap.size w w':=by
 have hb:=below_box w (.cells #[.int .i64 0, .int .i64 0, .int .i64 0, .int .i64 0, .int .i64 0] 61)
 have hbx:=heap_alloc_new w (.cells #[.int .i64 0, .int .i64 0, .int .i64 0, .int .i64 0, .int .i64 0] 61)
 have c0:=(hp.later hb).c0
 have h1:=tlayout_any (h.later hb).st.st (h.later hb).tx
 have hfd:=ly_nodes G.y
 have HB:=Hid.mk hb
 have hz:(w.alloc (.cells #[.int .i64 0, .int .i64 0, .int .i64 0, .int .i64 0, .int .i64 0] 61)).heap.size=w.heap.size+1:=by rw [World.size_alloc]
 clear h hp hb
 have e9:stkV (nSt G.y)= .agg #[.int .i64 1, .int .i64 1, .int .i64 1, .int .i64 (G.y.nodes:Int), .int .i64 61]:=by
  have:((nSt G.y).first:Int)+((nSt G.y).cnt:Int)-1=(G.y.nodes:Int):=by
   show (1:Int)+(G.y.nodes:Int)-1=_
   omega
  unfold stkV
  rw [this]
  rfl
 rw [e9]
 clear e9
 go_enter Tryz.func26,Tryz.ntmps26
 go_wp2_with fail
 refine h1.mono ?_
 rintro e w2 ⟨rfl,hb2⟩
 have hbx2:=(hb2.block _ (lt_there hbx)).trans hbx
 have HB2:=Hid.mk (HB.out.trans (hb2.mono (by omega)))
 have hlt2:w.heap.size<w2.heap.size:=lt_there hbx2
 clear h1 hb2 hbx
 have hth:=there_of hbx2 (n:=5) rfl
 have hra:(w2.setCells w.heap.size 0 [.int .i64 1, .int .i64 1, .int .i64 1, .int .i64 (G.y.nodes:Int), .int .i64 61]).rangeAt w.heap.size 0 [.int .i64 1, .int .i64 1, .int .i64 1, .int .i64 (G.y.nodes:Int), .int .i64 61]:=World.rangeAt_setCells_same _ w.heap.size 0 _ hth
 have HE:Hid (Below w.heap.size w (w2.setCells w.heap.size 0 [.int .i64 1, .int .i64 1, .int .i64 1, .int .i64 (G.y.nodes:Int), .int .i64 61])):=
  HB2.out.trans ((Keeps.setCells (F:=fun j=>j=w.heap.size) rfl _ 0 _).below (fun j hj=>by omega) (by omega))
 have HRa:=Hid.mk hra
 clear hbx2 hra
 go_wp2_with (refine wpList_store_mid rfl 61 _ _ rfl w.heap.size 0 #[.int .i64 1, .int .i64 1, .int .i64 1, .int .i64 (G.y.nodes:Int), .int .i64 61] rfl rfl ?h1 ?h2 ?h3 ?_)
 case h1=>exact hth
 case h2=>exact infoStk
 case h3=>simp [Value.oneCell']
 refine bodyPost_ret (results_cell_mid (P:=Tryz.prog) rfl _ _ w.heap.size _ _ rfl HRa.out Tryz.underlying61 rfl infoStk) rfl ⟨rfl,HE.out⟩
end
end Go.Proofs.YtkiehemoiapkkaaGreat
end
section
namespace Go.Proofs.YtkiehemoiapkkaaGreat
open Go.RowKit
theorem infoBool:(Tryz.prog.info? 4).map (fun i=>(i.zero,i.size,i.bytes))=some (some (.bool false),1,1):=by kernel_rfl
abbrev bls (l:List Bool):List Value:=l.map Value.bool
def BL (w:World) (B:Nat) (v:Value) (l:List Bool):Prop:=w.ownsRow B 4 1 v l.length (bls l)
theorem bls_snoc (l:List Bool) (x:Bool):bls l ++ [.bool x]=bls (l ++ [x]):=by simp [bls]
theorem one_bool (x:Bool):∀v∈ [Value.bool x],v.oneCell'=true:=fun v hv=>by
 rw [List.mem_singleton.1 hv]
 rfl
theorem rep_snoc (j:Nat):List.replicate j false ++ [false]=List.replicate (j+1) false:=by rw [List.replicate_succ']
theorem take_snocB (l:List Bool) (k:Nat) (h:k<l.length):l.take k ++ [l.getD k false]=l.take (k+1):=by
 rw [List.take_succ_eq_append_getElem h]
 simp [List.getD,h]
section
variable {w w':World} {B:Nat} {v:Value} {l:List Bool}
theorem BL.row (h:BL w B v l) (h0:0<l.length):∃g c,v= .slice (some ⟨g,0,none⟩) l.length c∧B≤g∧RowAt w 4 g c (bls l):=by
 obtain⟨g,c,e,hg,hr,hl⟩:=RowAt.of_owns h (by
  intro e
  subst e
  obtain⟨_,⟨_,hn⟩|⟨g,c,cur,e,_⟩⟩:=h
  ·omega
  ·cases e)
 exact⟨g,c,e,hg,hr⟩
theorem RowAt.truth {g c:Nat} (h:RowAt w 4 g c (bls l)) {i:Nat} (hi:i<l.length):w.cell? ⟨g,i,none⟩=some (.bool (l.getD i false)):=h.cell (by simp [bls,List.getD,List.getElem?_eq_getElem hi])
set_option maxRecDepth 20000 in
set_option maxHeartbeats 4000000 in
theorem none_any (w:World):Calls Tryz.prog 30 #[] w fun e w'=>∃v,e= .returned v∧BL w' w.heap.size v (List.replicate 4096 false)∧Below w.heap.size w w':=by
 obtain⟨i0,hi0,hz0,hz1,hz2⟩:=info_parts infoBool
 obtain⟨N,hN⟩:∃N:Nat,N=4096:=⟨_,rfl⟩
 rw [←hN]
 have HN:=Hid.mk hN
 clear hN
 go_enter Tryz.func30,Tryz.ntmps30
 go_wp2
 go_loopw [1,2] (fun u i wr=>∃j:Nat,j≤N∧i= .int .i64 (j:Int)∧wr.ownsRow w.heap.size 4 1 u j (bls (List.replicate j false))∧Below w.heap.size w wr) (fun _ i _=>N-(intOf i).toNat)
 case atStart=>exact⟨0,Nat.zero_le _,rfl,⟨by simp [bls], .inl ⟨rfl,rfl⟩⟩,Below.refl _ _⟩
 case round=>
  obtain⟨j,hj,rfl,hrow,hb⟩:=hrel
  have hbz:=hb.size
  by_cases hlt:j<N
  ·have hlt':(j:Int)<4096:=by have:=HN.out;omega
   have hj4:j<4096:=by have:=HN.out;omega
   have Hrow:=hrow
   go_wp2_with (at_builtin;refine wpList_append_own _ rfl _ _ 66 rfl w.heap.size 4 i0 (.bool false) 1 1 Tryz.underlying66 hi0 hz0 hz1 hz2 rfl (by decide) _ _ _ rfl (Hrow.alloc _) ⟨wr.heap.size,0,none⟩ 1 1 [.bool false] rfl rfl (cell_one_new _ _ _) (one_bool false) (by unfold maxLen;omega) (by omega) (by simp;omega) ?_)
   intro v' w3 hown' hgrow hnil
   have hgr2:=fun q e=>(hrow.lt q e).1
   have hb3:=(hb.alloc (by omega) _).grown hgrow (by simp;omega) (fun q e=>hgr2 q e)
   have hown2:w3.ownsRow w.heap.size 4 1 v' (j+1) (bls (List.replicate (j+1) false)):=by
    rw [←rep_snoc,←bls_snoc]
    simpa [bls] using hown'
   go_wp2
   go_roundw
   case rel=>exact⟨j+1,by omega,by go_num,hown2,hb3⟩
   case measure=>simp [intOf];omega
  ·have hlt':¬(j:Int)<4096:=by have:=HN.out;omega
   obtain rfl:j=N:=by omega
   have HZ:=Hid.mk (And.intro hrow hb)
   clear hrow hb
   go_wp2
   go_ret
   refine⟨_,rfl,?_,HZ.out.2⟩
   unfold BL
   rw [List.length_replicate]
   exact HZ.out.1
set_option maxRecDepth 20000 in
set_option maxHeartbeats 4000000 in
theorem copied_any {g c:Nat} (h:RowAt w 4 g c (bls l)) (hl:l.length≤4096):Calls Tryz.prog 144 #[.slice (some ⟨g,0,none⟩) l.length c] w fun e w'=>∃v,e= .returned v∧BL w' w.heap.size v l∧Below w.heap.size w w':=by
 obtain⟨i0,hi0,hz0,hz1,hz2⟩:=info_parts infoBool
 obtain⟨n,hn⟩:∃n,n=l.length:=⟨_,rfl⟩
 rw [←hn]
 have HL:=Hid.mk hn
 have hg:=h.lt
 have H:=Hid.mk h
 rw [←hn] at hl
 clear h hn
 go_enter Tryz.func144,Tryz.ntmps144
 go_wp2
 go_loopw [3,4] (fun u i wr=>∃j:Nat,j≤n∧i= .int .i64 (j:Int)∧wr.ownsRow w.heap.size 4 1 u j (bls (l.take j))∧Below w.heap.size w wr) (fun _ i _=>n-(intOf i).toNat)
 case atStart=>exact⟨0,Nat.zero_le _,rfl,⟨by simp [bls], .inl ⟨rfl,rfl⟩⟩,Below.refl _ _⟩
 case round=>
  obtain⟨j,hj,rfl,hrow,hb⟩:=hrel
  have hbz:=hb.size
  by_cases hlt:j<n
  ·have hlt':(j:Int)<(n:Int):=by omega
   have h0:(0:Int)≤(j:Int):=by omega
   have hjl:j<l.length:=by have:=HL.out;omega
   have hc:wr.cell? ⟨g,j,none⟩=some (.bool (l.getD j false)):=cell_later hb (H.out.truth hjl)
   have Hrow:=hrow
   obtain⟨x,hx⟩:∃x,x=l.getD j false:=⟨_,rfl⟩
   rw [←hx] at hc
   have HX:=Hid.mk hx
   clear hx
   go_wp2_with (at_builtin;refine wpList_append_own _ rfl _ _ 66 rfl w.heap.size 4 i0 (.bool false) 1 1 Tryz.underlying66 hi0 hz0 hz1 hz2 rfl (by decide) _ _ _ rfl (Hrow.alloc _) ⟨wr.heap.size,0,none⟩ 1 1 [.bool x] rfl rfl (cell_one_new _ _ _) (one_bool x) (by unfold maxLen;omega) (by omega) (by simp;omega) ?_)
   intro v' w3 hown' hgrow hnil
   have hgr2:=fun q e=>(hrow.lt q e).1
   have hb3:=(hb.alloc (by omega) _).grown hgrow (by simp;omega) (fun q e=>hgr2 q e)
   have hown2:w3.ownsRow w.heap.size 4 1 v' (j+1) (bls (l.take (j+1))):=by
    rw [←take_snocB l j hjl,←HX.out,←bls_snoc,bls,List.map_take]
    exact hown'
   go_wp2
   go_roundw
   case rel=>exact⟨j+1,by omega,by go_num,hown2,hb3⟩
   case measure=>simp [intOf];omega
  ·have hlt':¬(j:Int)<(n:Int):=by omega
   obtain rfl:j=n:=by omega
   have HZ:=Hid.mk (And.intro hrow hb)
   clear hrow hb
   go_wp2
   go_ret
   refine⟨_,rfl,?_,HZ.out.2⟩
   unfold BL
   have e:=HZ.out.1
   rw [HL.out,List.take_of_length_le (Nat.le_refl _)] at e
   exact e
end
end Go.Proofs.YtkiehemoiapkkaaGreat
end
section
namespace Go.Proofs.YtkiehemoiapkkaaGreat
open Go.RowKit
def accB (l:List Bool) (a:Nat):Nat→Nat
 |0=>0
 |c+1=>2*accB l a c+(if l.getD (a+7-c) false then 1 else 0)
theorem accB_lt (l:List Bool) (a:Nat):∀c,accB l a c<2 ^ c
 |0=>by show 0<1;omega
 |c+1=>by
  have:=accB_lt l a c
  show 2*accB l a c+_<2 ^ (c+1)
  rw [Nat.pow_succ]
  split <;> omega
def bmOf (l:List Bool):List Int:=(List.range 512).map fun i=>(accB l (8*i) 8:Int)
theorem bmOf_len (l:List Bool):(bmOf l).length=512:=by simp [bmOf]
theorem bmOf_getD (l:List Bool) (i:Nat) (hi:i<512):(bmOf l).getD i 0=(accB l (8*i) 8:Int):=by
 simp [bmOf,List.getD,hi]
theorem bmTake (l:List Bool) (i:Nat) (hi:i<512):(bmOf l).take i ++ [(accB l (8*i) 8:Int)]=(bmOf l).take (i+1):=by
 rw [←bmOf_getD l i hi]
 exact take_snoc _ _ (by rw [bmOf_len];exact hi)
theorem wrapS {z:Int} (h0: -4611686018427387904≤z) (h1:z≤4611686018427387904):wrap64 z=z:=by
 unfold wrap64
 omega
theorem accFacts {j k x:Nat} (hj:j<512) (hk:k<8) (hx:x<128):∃(z:Nat) (K K1 X2 X3:Int),K=7-(k:Int)∧K1=7-((k+1:Nat):Int)∧X2=((2*x+0:Nat):Int)∧X3=((2*x+1:Nat):Int)∧z=8*j+7-k∧z<4096∧(z:Int)<4096∧(0:Int)≤(z:Int)∧(0:Int)≤K∧wrap64 (2*(x:Int))=X2∧wrap64 (8*(j:Int)+K)=(z:Int)∧wrap64 (X2+1)=X3∧wrap64 (K-1)=K1:=
   ⟨8*j+7-k,7-(k:Int),7-((k+1:Nat):Int),((2*x+0:Nat):Int),((2*x+1:Nat):Int),rfl,rfl,rfl,rfl,rfl,by omega,by omega,by omega,by omega,(wrapS (by omega) (by omega)).trans (by omega),(wrapS (by omega) (by omega)).trans (by omega),(wrapS (by omega) (by omega)).trans (by omega),(wrapS (by omega) (by omega)).trans (by omega)⟩
theorem accMeas {K K1:Int} {k:Nat} (h:K=7-(k:Int)) (h1:K1=7-((k+1:Nat):Int)) (h0:0≤K):(K1+1).toNat<(K+1).toNat:=by omega
theorem accStep {l:List Bool} {a k x z:Nat} (hx:x=accB l a k) (hz:z=a+7-k):accB l a (k+1)=2*x+(if l.getD z false then 1 else 0):=by
 rw [hx,hz]
 rfl
theorem accSmall {l:List Bool} {a k x:Nat} (hx:x=accB l a k) (hk:k<8):x<128:=by
 have h1:=accB_lt l a k
 have hp:2 ^ k≤2 ^ 7:=Nat.pow_le_pow_right (by omega) (by omega)
 omega
theorem accLast {l:List Bool} {a x:Nat} (hx:x=accB l a 8):x<256∧(x:Int)%256=(x:Int):=by
 have h1:=accB_lt l a 8
 omega
section
variable {w:World} {l:List Bool}
set_option maxRecDepth 20000 in
set_option maxHeartbeats 8000000 in
theorem bytes6_any {g c:Nat} (h:RowAt w 4 g c (bls l)) (hl:l.length=4096):Calls Tryz.prog 34 #[.slice (some ⟨g,0,none⟩) 4096 c] w fun e w'=>∃v,e= .returned v∧Own w' w.heap.size v (bmOf l)∧Below w.heap.size w w':=by
 obtain⟨i0,hi0,hz0,hz1,hz2⟩:=info_parts infoU8
 have hg:=h.lt
 have H:=Hid.mk h
 obtain⟨N,hN⟩:∃N:Nat,N=512:=⟨_,rfl⟩
 have HN:=Hid.mk hN
 have HL:=Hid.mk hl
 clear h hN hl
 go_enter Tryz.func34,Tryz.ntmps34
 go_wp2
 go_loopw [3,4] (fun u i wr=>∃j:Nat,j≤N∧i= .int .i64 (j:Int)∧wr.ownsRow w.heap.size 5 1 u j (bs ((bmOf l).take j))∧Below w.heap.size w wr) (fun _ i _=>N-(intOf i).toNat)
 case atStart=>exact⟨0,Nat.zero_le _,rfl,⟨by simp [bs], .inl ⟨rfl,rfl⟩⟩,Below.refl _ _⟩
 case round=>
  obtain⟨j,hj,rfl,hrow,hb⟩:=hrel
  have hbz:=hb.size
  by_cases hlt:j<N
  ·have hlt':(j:Int)<512:=by have:=HN.out;omega
   have hj5:j<512:=by have:=HN.out;omega
   have Hrow:=Hid.mk hrow
   have HB:=Hid.mk hb
   clear hrow hb
   rename World=>wo
   go_wp2
   go_loopw [5,6] (fun u i wr=>∃k:Nat,k≤8∧i= .int .i64 (7-(k:Int))∧u= .int .i64 (accB l (8*j) k:Int)∧wr=wo) (fun _ i _=>((intOf i)+1).toNat)
   case atStart=>exact⟨0,by omega,rfl,rfl,rfl⟩
   case round=>
    obtain⟨k,hk,rfl,rfl,hwo⟩:=hrel
    subst hwo
    by_cases hk8:k<8
    ·obtain⟨x,hx⟩:∃x,x=accB l (8*j) k:=⟨_,rfl⟩
     rw [←hx]
     obtain⟨z,K,K1,X2,X3,hK,hK1,hX2,hX3,ez,hz4,hz4',hz0,hk0,w1,w3,w4,w5⟩:=accFacts (x:=x) hj5 hk8 (accSmall hx hk8)
     rw [←hK]
     have hc:wr.cell? ⟨g,z,none⟩=some (.bool (l.getD z false)):=cell_later HB.out (H.out.truth (by rw [HL.out];exact hz4))
     have HS:Hid (accB l (8*j) (k+1)=2*x+(if l.getD z false then 1 else 0)):=accStep hx ez
     have HE:Hid (K=7-(k:Int)∧K1=7-((k+1:Nat):Int)∧X2=((2*x+0:Nat):Int)∧X3=((2*x+1:Nat):Int)):=⟨hK,hK1,hX2,hX3⟩
     obtain⟨y,hy⟩:∃y,y=l.getD z false:=⟨_,rfl⟩
     rw [←hy] at hc HS
     clear hx ez hy hK hK1 hX2 hX3
     cases y
     ·go_wp2
      go_roundw
      case rel=>exact⟨k+1,hk8,by rw [w5,HE.out.2.1],by rw [HS.out,w1,HE.out.2.2.1];rfl,trivial⟩
      case measure=>
       rw [w5]
       exact accMeas HE.out.1 HE.out.2.1 hk0
     ·go_wp2
      go_roundw
      case rel=>exact⟨k+1,hk8,by rw [w5,HE.out.2.1],by rw [HS.out,w4,HE.out.2.2.2];rfl,trivial⟩
      case measure=>
       rw [w5]
       exact accMeas HE.out.1 HE.out.2.1 hk0
    ·obtain rfl:k=8:=by omega
     have hk0:¬(0:Int)≤7-((8:Nat):Int):=by omega
     obtain⟨x,hx⟩:∃x,x=accB l (8*j) 8:=⟨_,rfl⟩
     rw [←hx]
     obtain⟨hx256,e1⟩:=accLast hx
     have HX:=Hid.mk hx
     clear hx
     have hrow:=Hrow.out
     go_wp2_with (at_builtin;refine wpList_append_own _ rfl _ _ 44 rfl w.heap.size 5 i0 (.int .u8 0) 1 1 Tryz.underlying44 hi0 hz0 hz1 hz2 rfl (by decide) _ _ _ rfl (hrow.alloc _) ⟨wr.heap.size,0,none⟩ 1 1 [.int .u8 (x:Int)] rfl rfl (cell_one_new _ _ _) (ints_oneCell .u8 [(x:Int)]) (by unfold maxLen;omega) (by omega) (by simp;omega) ?_)
     intro v' w3 hown' hgrow hnil
     have hgr2:=fun q e=>(hrow.lt q e).1
     have hb3:=(HB.out.alloc (by omega) _).grown hgrow (by simp;omega) (fun q e=>hgr2 q e)
     have hown2:w3.ownsRow w.heap.size 5 1 v' (j+1) (bs ((bmOf l).take (j+1))):=by
      rw [←bmTake l j hj5,←HX.out,←bs_snoc]
      simpa [bs] using hown'
     clear hrow
     go_wp2
     go_roundw
     case rel=>exact⟨j+1,by omega,by go_num,hown2,hb3⟩
     case measure=>simp [intOf];omega
  ·have hlt':¬(j:Int)<512:=by have:=HN.out;omega
   obtain rfl:j=N:=by omega
   have HZ:=Hid.mk (And.intro hrow hb)
   clear hrow hb
   go_wp2
   go_ret
   refine⟨_,rfl,?_,HZ.out.2⟩
   unfold Own
   have e:=HZ.out.1
   rw [List.take_of_length_le (by rw [bmOf_len,HN.out];omega)] at e
   rw [bmOf_len,←HN.out]
   exact e
end
end Go.Proofs.YtkiehemoiapkkaaGreat
end
section
namespace Go.Proofs.YtkiehemoiapkkaaGreat
open Go.RowKit Go.Maps
def TakeR (r:Option Nat×Int×TG) (e:Ending):Prop:=match r.1 with
 |some x=>e= .returned (.int .i64 (x:Int))
 |none=>e= .panicked (gave r.2.1)
theorem stkFacts {k:STK} (hk:k.Ok) {j:Nat} (hj:j≤k.cnt):∃(N N1:Int),N=((k.first+j:Nat):Int)∧N1=((k.first+(j+1):Nat):Int)∧(j<k.cnt→N≤(k.first:Int)+(k.cnt:Int)-1)∧(¬j<k.cnt→¬N≤(k.first:Int)+(k.cnt:Int)-1)∧wrap64 (N-(k.zero:Int))=((k.first-k.zero+j:Nat):Int)∧wrap64 (N+1)=N1:=by
 have h1:=hk.lo
 have h2:=hk.hi
 have h3:=hk.z
 exact⟨((k.first+j:Nat):Int),((k.first+(j+1):Nat):Int),rfl,rfl,fun h=>by omega,fun h=>by omega,(wrapS (by omega) (by omega)).trans (by omega),(wrapS (by omega) (by omega)).trans (by omega)⟩
theorem stkMeas {N N1:Int} {f j c:Nat} (h:N=((f+j:Nat):Int)) (h1:N1=((f+(j+1):Nat):Int)) (h0:j<c):f+c-N1.toNat<f+c-N.toNat:=by omega
section
variable {w w':World} {F:Nat→Prop} {p s cR q l m t n a:Nat} {S:DS} {G:SG} {T:TG}
theorem box_stk {k:STK} (hbx:w.heap[a]? =some (.cells #[.int .i64 (k.bm:Int), .int .i64 (k.zero:Int), .int .i64 (k.first:Int), .int .i64 ((k.first:Int)+(k.cnt:Int)-1), .int .i64 k.no] 61 (0,0))):
  w.cell? ⟨a,0,none⟩=some (.int .i64 (k.bm:Int))∧w.cell? ⟨a,1,none⟩=some (.int .i64 (k.zero:Int))∧w.cell? ⟨a,2,none⟩=some (.int .i64 (k.first:Int))∧w.cell? ⟨a,3,none⟩=some (.int .i64 ((k.first:Int)+(k.cnt:Int)-1))∧w.cell? ⟨a,4,none⟩=some (.int .i64 k.no):=
   ⟨cell_of_block hbx (j:=0) rfl,cell_of_block hbx (j:=1) rfl,cell_of_block hbx (j:=2) rfl,cell_of_block hbx (j:=3) rfl,cell_of_block hbx (j:=4) rfl⟩
set_option maxRecDepth 20000 in
set_option maxHeartbeats 4000000 in
theorem ptake_no (h:TX w F p s cR q l m t n S G T) (hp:PoolAt w F a t n) (k:STK) (h0:T.refusal G S k.bm≠0):
  Calls Tryz.prog 112 #[.pointer (some ⟨a,0,none⟩),stkV k] w fun e w'=>e= .panicked (gave (T.refusal G S k.bm))∧TX w' F p s (cR+1) q l m t n S G T∧Keeps F w w':=by
 have hB1:=below_box w (stkO k)
 have hbx:(w.alloc (stkO k)).heap[w.heap.size]? =some (.cells #[.int .i64 (k.bm:Int), .int .i64 (k.zero:Int), .int .i64 (k.first:Int), .int .i64 ((k.first:Int)+(k.cnt:Int)-1), .int .i64 k.no] 61 (0,0)):=heap_alloc_new _ _
 have h1:=bits_no (h.later hB1) (hp.later hB1) k h0
 have HB:=Hid.mk hB1
 generalize T.refusal G S k.bm=R at*
 clear h hp hB1 hbx h0
 unfold stkO at*
 go_enter Tryz.func112,Tryz.ntmps112
 go_wp2_with fail
 refine h1.mono ?_
 rintro e w2 ⟨rfl,hx2,hk2⟩
 exact⟨rfl,rfl,hx2,(Keeps.of_below F HB.out).trans hk2 (fun _ h=> .inl h)⟩
set_option maxRecDepth 20000 in
set_option maxHeartbeats 8000000 in
theorem ptake_ok (h:TX w F p s cR q l m t n S G T) (hp:PoolAt w F a t n) (k:STK) (hk:k.Ok) (h0:T.refusal G S k.bm=0):
  Calls Tryz.prog 112 #[.pointer (some ⟨a,0,none⟩),stkV k] w fun e w'=>TakeR (T.ptake G S k) e∧TX w' F p s (cR+2) q l m t n S G (T.ptake G S k).2.2∧Keeps (OwT F t n) w w':=by
 have hB1:=below_box w (stkO k)
 have hbx:(w.alloc (stkO k)).heap[w.heap.size]? =some (.cells #[.int .i64 (k.bm:Int), .int .i64 (k.zero:Int), .int .i64 (k.first:Int), .int .i64 ((k.first:Int)+(k.cnt:Int)-1), .int .i64 k.no] 61 (0,0)):=heap_alloc_new _ _
 have h1:=bits_ok (h.later hB1) (hp.later hB1) k h0
 have hbm:k.bm<G.y.blocks:=by have:=hk.bm;have:=h.yk.b2;omega
 have hlen:=h.len k.bm hbm
 have hbyt:=h.bytes k.bm
 have hR:T.ptake G S k=T.ptook G S k (lowBit (T.sees G S k.bm) (k.first-k.zero) k.cnt):=by
  unfold TG.ptake
  rw [if_neg (fun hh=>hh h0)]
 obtain⟨R,hRR⟩:∃R,R=T.ptake G S k:=⟨_,rfl⟩
 rw [←hRR] at hR
 rw [←hRR]
 obtain⟨d,hd⟩:∃d,d=T.sees G S k.bm:=⟨_,rfl⟩
 rw [←hd] at hlen hbyt hR h1
 have HD:=Hid.mk hd
 have HR:=Hid.mk hR
 have HB:=Hid.mk hB1
 have HP:=Hid.mk (hp.later hB1)
 have HBX:=Hid.mk hbx
 have HLt:=Hid.mk h.lt
 have HXx:=Hid.mk h.st.d.lt
 have HLo:=Hid.mk h.low
 have hpa:=hp.lt
 have HPb:=Hid.mk hp
 have hcz:w.heap.size+1=(w.alloc (stkO k)).heap.size:=by rw [World.size_alloc]
 have HCZ:=Hid.mk hcz
 clear h hp hB1 hbx h0 hR hRR hd hbm hcz
 unfold stkO at*
 go_enter Tryz.func112,Tryz.ntmps112
 go_wp2_with fail
 refine h1.mono ?_
 rintro e w2 ⟨g,rfl,hg,hblk,hx2,hk2⟩
 have hnF:¬F w.heap.size:=fun hf=>by have:=HXx.out _ hf;omega
 have hbx2:=(hk2.block _ (lt_there HBX.out) hnF).trans HBX.out
 obtain⟨c0,c1,c2,c3,c4⟩:=box_stk hbx2
 have HW:Hid (Blk w2 113 g d∧TX w2 F p s (cR+1) q l m t n S G T∧Keeps F w w2∧PoolAt w2 F a t n):=⟨hblk,hx2,(Keeps.of_below F HB.out).trans hk2 (fun _ h=> .inl h),HP.out.keep (hk2.mono (fun _ h=> .inl h))⟩
 have HBX2:=Hid.mk hbx2
 have hgw:w.heap.size<g:=by have:=HCZ.out;omega
 obtain⟨L,hL⟩:∃L:Int,L=(k.first:Int)+(k.cnt:Int)-1:=⟨_,rfl⟩
 rw [←hL] at c3
 have HL:=Hid.mk hL
 clear h1 hblk hx2 hk2 hbx2 hL hg HCZ
 go_wp2
 go_loopw [6] (fun iv wr=>∃j:Nat,j≤k.cnt∧iv= .int .i64 ((k.first+j:Nat):Int)∧lowBit d (k.first-k.zero) k.cnt=lowBit d (k.first-k.zero+j) (k.cnt-j)∧wr=w2) (fun iv _=>k.first+k.cnt-(intOf iv).toNat)
 case atStart=>exact⟨0,Nat.zero_le _,by simp,rfl,rfl⟩
 case round=>
  obtain⟨j,hj,rfl,hlow,hwr⟩:=hrel
  subst hwr
  obtain⟨N,N1,hN,hN1,f1,f2,f3,f4⟩:=stkFacts hk hj
  rw [←hN]
  rw [←HL.out] at f1 f2
  have HN:=Hid.mk (And.intro hN hN1)
  clear hN hN1
  by_cases hlt:j<k.cnt
  ·have g1:=f1 hlt
   have hb8:k.first-k.zero+j<4096:=by have:=hk.hi;omega
   have h3:=ptaken_any (c:=512) HW.out.1 hlen hbyt (k.first-k.zero+j) hb8
   have hls:lowBit d (k.first-k.zero+j) (k.cnt-j)=if bitOf d (k.first-k.zero+j)=false then some (k.first-k.zero+j) else lowBit d (k.first-k.zero+(j+1)) (k.cnt-(j+1)):=by
    rw [show k.cnt-j=(k.cnt-(j+1))+1 by omega]
    rfl
   rw [hls] at hlow
   obtain⟨b,hb⟩:∃b,b=k.first-k.zero+j:=⟨_,rfl⟩
   rw [←hb] at h3 f3 hlow hb8
   obtain⟨y,hy⟩:∃y,y=bitOf d b:=⟨_,rfl⟩
   rw [←hy] at h3 hlow
   have HLow:=Hid.mk hlow
   have Hb:=Hid.mk hb
   clear hls hlow f1 f2 hy hb
   cases y
   ·have hlo:lowBit d (k.first-k.zero) k.cnt=some b:=HLow.out
    have hR:=HR.out
    rw [hlo] at hR
    have h4:=pturn_any (c:=512) HW.out.1 hlen hbyt b hb8
    have HRR:=Hid.mk hR
    clear hlo hR HLow
    go_wp2_with fail
    refine h3.mono ?_
    rintro e w3 ⟨rfl,hw3⟩
    subst hw3
    clear h3
    go_wp2_with fail
    refine h4.mono ?_
    rintro e w4 ⟨rfl,hb4,hk4⟩
    have hz4:=hk4.size
    have hx4:TX w4 F p s (cR+1) q l m t n S G T:=HW.out.2.1.side HLo.out hk4 (fun z hz=>by omega)
    have hp4:PoolAt w4 F a t n:=⟨(hk4.block a HW.out.2.2.2.lt (by omega)).trans HW.out.2.2.2.b,HW.out.2.2.2.nf⟩
    have hbx4:=(hk4.block _ (lt_there HBX2.out) (by omega)).trans HBX2.out
    obtain⟨d0,d1,d2,d3,d4⟩:=box_stk hbx4
    rw [←HL.out] at d3
    have h5:=play_any (c:=512) hx4 hp4 k hb4 (turnBit_len.trans hlen) (turnBit_bytes hbyt)
    have hst:stkV k= .agg #[.int .i64 (k.bm:Int), .int .i64 (k.zero:Int), .int .i64 (k.first:Int), .int .i64 L, .int .i64 k.no]:=by rw [HL.out]
    rw [hst] at h5
    have HK4:Hid (Keeps (OwT F t n) w w4):=(HW.out.2.2.1.mono (fun _ h=> .inl h)).trans hk4 (fun z hz=> .inr (by omega))
    clear h4 hb4 hk4 hx4 hp4 hbx4 hst
    go_wp2_with fail
    refine h5.mono ?_
    rintro e w5 ⟨hran,hx5,hk5⟩
    have HE:Hid (TX w5 F p s (cR+2) q l m t n S G (T.put G S k.bm (turnBit d b)).2∧Keeps (OwT F t n) w w5):=⟨hx5,HK4.out.trans hk5 (fun _ h=> .inl h)⟩
    have HRz:Hid (R=if (T.put G S k.bm (turnBit d b)).1=0 then (some (b+k.zero),0,(T.put G S k.bm (turnBit d b)).2) else (none,(T.put G S k.bm (turnBit d b)).1,(T.put G S k.bm (turnBit d b)).2)):=by
     have:=HRR.out
     unfold TG.ptook at this
     rw [←HD.out] at this
     exact this
    clear hx5 hk5 h5
    unfold Ran at hran
    by_cases hr:(T.put G S k.bm (turnBit d b)).1=0
    ·rw [if_pos hr] at hran
     have hRz:=HRz.out
     rw [if_pos hr] at hRz
     have HRe:=Hid.mk hRz
     subst hran
     have hbz:N=((b+k.zero:Nat):Int):=by
      have h8:=HN.out.1
      have h9:=Hb.out
      have h10:=hk.lo
      omega
     have HBz:=Hid.mk hbz
     clear hr hRz hbz HRz
     go_wp2
     go_ret
     exact⟨by rw [HRe.out,HBz.out];rfl,by rw [HRe.out];exact HE.out.1,HE.out.2⟩
    ·rw [if_neg hr] at hran
     have hRz:=HRz.out
     rw [if_neg hr] at hRz
     subst hran
     exact⟨rfl,by rw [hRz];rfl,by rw [hRz];exact HE.out.1,HE.out.2⟩
   ·go_wp2_with fail
    refine h3.mono ?_
    rintro e w3 ⟨rfl,hw3⟩
    subst hw3
    clear h3
    go_wp2
    go_roundw
    case rel=>exact⟨j+1,by omega,by rw [f4,HN.out.2],HLow.out,trivial⟩
    case measure=>
     rw [f4]
     exact stkMeas HN.out.1 HN.out.2 hlt
  ·have g2:=f2 hlt
   have hjc:k.cnt-j=0:=by omega
   rw [hjc] at hlow
   have hR:=HR.out
   rw [hlow] at hR
   have HRR:=Hid.mk hR
   clear hlow hR hjc f1 f2
   go_wp2
   exact⟨rfl,by rw [HRR.out];rfl,by rw [HRR.out];exact HW.out.2.1.le (by omega),HW.out.2.2.1.mono (fun _ h=> .inl h)⟩
end
end Go.Proofs.YtkiehemoiapkkaaGreat
end
