import Derived.Test.YtkiehemoiapkkaaGreatW07
import Derived.Test.YtkiehemoiapkkaaGreatW11
import Derived.Scope
import Derived.WalkMore
section
namespace Go.Proofs.YtkiehemoiapkkaaGreat
open Go.RowKit Go.Maps
def TG.spoil (T:TG) (G:SG) (S:DS) (x:Int):Int×TG:=
 if T.state G S≠0 then (T.state G S,T) else if x=6∨x=50∨x=60∨x=61 then (x,{T with bad:=x}) else (1,T)
def TG.close (T:TG):TG:={T with puts:= [],ended:=true}
def TG.abort (T:TG) (G:SG) (S:DS):Int×TG×SG:=if T.over G S≠0 then (T.over G S,T,G) else (0,T.close,{G with busy:=false})
section
variable {w w':World} {F:Nat→Prop} {p s cR q l m t n:Nat} {S:DS} {G:SG} {T:TG}
set_option maxRecDepth 20000 in
set_option maxHeartbeats 4000000 in
theorem spoil_any (h:StW w F p s cR q l m S G) (ht:TxW w F q l m t n G T) (x:Int):
  Calls Tryz.prog 24 #[.pointer (some ⟨t,0,none⟩), .int .i64 x] w fun e w'=>e= .returned (.int .i64 (T.spoil G S x).1)∧w'.heap[t]? =some (.cells (txC q n (T.spoil G S x).2) 106 (0,0))∧Keeps (fun k=>k=t) w w':=by
 have h1:=state_any h ht
 have HT:=ht
 unfold TG.spoil
 generalize T.state G S=E at*
 go_enter Tryz.func24,Tryz.ntmps24
 by_cases k:E=0
 ·have d:(E != 0)=false:=by rw [k];rfl
  rw [if_neg (fun h=>h k)]
  have yes:∀(w1:World),Below w.heap.size w w1→(w1.setCell ⟨t,2,none⟩ (.int .i64 x)).heap[t]? =some (.cells (txC q n {T with bad:=x}) 106 (0,0))∧Keeps (fun k=>k=t) w (w1.setCell ⟨t,2,none⟩ (.int .i64 x)):=fun w1 hb1=>
     ⟨(heap_setCell_same _ _ 2 _ _ _ (HT.later hb1).tx).trans (by simp [txC]),(Keeps.of_below (fun k=>k=t) hb1).trans (keeps_set (F:=fun k=>k=t) w1 rfl 2 _) (fun _ h=> .inl h)⟩
  by_cases k6:x=6
  ·subst k6
   rw [if_pos (.inl rfl)]
   go_wp2_with fail
   refine h1.mono ?_
   rintro e w1 ⟨rfl,hb1⟩
   have c2:=(HT.later hb1).c2
   have f2:=frozen_of_block (HT.later hb1).tx 2
   go_wp2
   go_ret
   exact⟨rfl,(yes w1 hb1)⟩
  ·have d6:(x == 6)=false:=by rw [beq_eq_false_iff_ne];exact k6
   by_cases k50:x=50
   ·subst k50
    rw [if_pos (.inr (.inl rfl))]
    go_wp2_with fail
    refine h1.mono ?_
    rintro e w1 ⟨rfl,hb1⟩
    have c2:=(HT.later hb1).c2
    have f2:=frozen_of_block (HT.later hb1).tx 2
    go_wp2
    go_ret
    exact⟨rfl,(yes w1 hb1)⟩
   ·have d50:(x == 50)=false:=by rw [beq_eq_false_iff_ne];exact k50
    by_cases k60:x=60
    ·subst k60
     rw [if_pos (.inr (.inr (.inl rfl)))]
     go_wp2_with fail
     refine h1.mono ?_
     rintro e w1 ⟨rfl,hb1⟩
     have c2:=(HT.later hb1).c2
     have f2:=frozen_of_block (HT.later hb1).tx 2
     go_wp2
     go_ret
     exact⟨rfl,(yes w1 hb1)⟩
    ·have d60:(x == 60)=false:=by rw [beq_eq_false_iff_ne];exact k60
     by_cases k61:x=61
     ·subst k61
      rw [if_pos (.inr (.inr (.inr rfl)))]
      go_wp2_with fail
      refine h1.mono ?_
      rintro e w1 ⟨rfl,hb1⟩
      have c2:=(HT.later hb1).c2
      have f2:=frozen_of_block (HT.later hb1).tx 2
      go_wp2
      go_ret
      exact⟨rfl,(yes w1 hb1)⟩
     ·have d61:(x == 61)=false:=by rw [beq_eq_false_iff_ne];exact k61
      rw [if_neg (fun h=>h.elim k6 (fun h=>h.elim k50 (fun h=>h.elim k60 k61)))]
      go_wp2_with fail
      refine h1.mono ?_
      rintro e w1 ⟨rfl,hb1⟩
      go_wp2
      go_ret
      exact⟨rfl,(And.intro (HT.later hb1).tx (Keeps.of_below (fun k=>k=t) hb1))⟩
 ·have d:(E != 0)=true:=by rw [bne_iff_ne];exact k
  rw [if_pos k]
  go_wp2_with fail
  refine h1.mono ?_
  rintro e w1 ⟨rfl,hb1⟩
  go_wp2
  go_ret
  exact⟨rfl,(And.intro (HT.later hb1).tx (Keeps.of_below (fun k=>k=t) hb1))⟩
set_option maxRecDepth 20000 in
set_option maxHeartbeats 4000000 in
theorem end_any (h:StP w q p l m G.y G.busy) (ht:TxW w F q l m t n G T):
  Calls Tryz.prog 123 #[.pointer (some ⟨t,0,none⟩)] w fun e w'=>e= .returned (.tuple #[])∧w'.heap[t]? =some (.cells (txC q n T.close) 106 (0,0))∧Ch w' n []∧StP w' q p l m G.y false∧Keeps (fun k=>k=t∨k=n∨k=q) w w':=by
 obtain⟨wC,hcl,hch,hkc,hsz⟩:=ht.ch.cleared
 have c1:=ht.c1
 have t1:=(hkc.block t (lt_there ht.tx) (fun e=>ht.tn e)).trans ht.tx
 have s1:=h.keep hkc (fun e=>ht.nq e.symm)
 have d3:wC.cell? ⟨t,3,none⟩=some (.bool T.ended):=cell_of_block t1 (j:=3) rfl
 have f3:=frozen_of_block t1 3
 have hqt:q≠t:=fun e=>ht.tq e.symm
 have t2:(wC.setCell ⟨t,3,none⟩ (.bool true)).heap[t]? =some (.cells #[.pointer (some ⟨q,0,none⟩), .map (some n), .int .i64 T.bad, .bool true] 106 (0,0)):=(heap_setCell_same _ _ 3 _ _ _ t1).trans (by simp [txC])
 have k2:=keeps_set (F:=fun k=>k=t) wC rfl 3 (.bool true)
 have s2:=s1.keep k2 hqt
 have e0:(wC.setCell ⟨t,3,none⟩ (.bool true)).cell? ⟨t,0,none⟩=some (.pointer (some ⟨q,0,none⟩)):=cell_of_block t2 (j:=0) rfl
 have e8:=s2.c8
 have g8:=frozen_of_block s2 8
 have k3:=keeps_set (F:=fun k=>k=q) (wC.setCell ⟨t,3,none⟩ (.bool true)) rfl 8 (.bool false)
 have s3:StP ((wC.setCell ⟨t,3,none⟩ (.bool true)).setCell ⟨q,8,none⟩ (.bool false)) q p l m G.y false:=(heap_setCell_same _ _ 8 _ _ _ s2).trans (by simp [stC])
 have HN:(((wC.setCell ⟨t,3,none⟩ (.bool true)).setCell ⟨q,8,none⟩ (.bool false)).heap[t]? =some (.cells (txC q n T.close) 106 (0,0))∧Ch ((wC.setCell ⟨t,3,none⟩ (.bool true)).setCell ⟨q,8,none⟩ (.bool false)) n []∧StP ((wC.setCell ⟨t,3,none⟩ (.bool true)).setCell ⟨q,8,none⟩ (.bool false)) q p l m G.y false∧Keeps (fun k=>k=t∨k=n∨k=q) w ((wC.setCell ⟨t,3,none⟩ (.bool true)).setCell ⟨q,8,none⟩ (.bool false))):=by
  refine⟨(k3.block t (lt_there t2) (fun e=>hqt e.symm)).trans t2,(hch.keep k2 (fun e=>ht.tn e.symm)).keep k3 ht.nq,s3,?_⟩
  exact((hkc.mono (fun _ e=> .inr (.inl e))).trans k2 (fun _ e=> .inl (.inl e))).trans k3 (fun _ e=> .inl (.inr (.inr e)))
 go_enter Tryz.func123,Tryz.ntmps123
 go_wp2
 go_end0
 exact⟨rfl,HN⟩
set_option maxRecDepth 20000 in
set_option maxHeartbeats 4000000 in
theorem abort_any (h:StW w F p s cR q l m S G) (ht:TxW w F q l m t n G T):
  Calls Tryz.prog 81 #[.pointer (some ⟨t,0,none⟩)] w fun e w'=>e= .returned (.int .i64 (T.abort G S).1)∧w'.heap[t]? =some (.cells (txC q n (T.abort G S).2.1) 106 (0,0))∧Ch w' n (T.abort G S).2.1.puts∧StP w' q p l m G.y (T.abort G S).2.2.busy∧Keeps (fun k=>k=t∨k=n∨k=q) w w':=by
 have h1:=over_any h ht
 have HT:=ht
 have HS:=h.st
 unfold TG.abort
 generalize T.over G S=E at*
 go_enter Tryz.func81,Tryz.ntmps81
 by_cases k:E=0
 ·have d:(E != 0)=false:=by rw [k];rfl
  rw [if_neg (fun h=>h k)]
  go_wp2_with fail
  refine h1.mono ?_
  rintro e w1 ⟨rfl,hb1⟩
  go_wp2_with fail
  refine(end_any (HS.later hb1) (HT.later hb1)).mono ?_
  rintro e w2 ⟨rfl,h3,h4,h5,h6⟩
  go_wp2
  go_ret
  exact⟨rfl,(And.intro h3 (And.intro h4 (And.intro h5 ((Keeps.of_below (fun k=>k=t∨k=n∨k=q) hb1).trans h6 (fun _ h=> .inl h)))))⟩
 ·have d:(E != 0)=true:=by rw [bne_iff_ne];exact k
  rw [if_pos k]
  go_wp2_with fail
  refine h1.mono ?_
  rintro e w1 ⟨rfl,hb1⟩
  go_wp2
  go_ret
  exact⟨rfl,(And.intro (HT.later hb1).tx (And.intro (HT.later hb1).ch (And.intro (HS.later hb1) (Keeps.of_below (fun k=>k=t∨k=n∨k=q) hb1))))⟩
def SG.begin (G:SG) (S:DS):Int:=if G.L.dead S=true then 3 else if G.busy=true then 5 else 0
def BegOut (w w':World) (q p l m:Nat) (y:LY) (busy:Bool) (code:Int) (e:Ending):Prop:=
 if code≠0 then e= .returned (.tuple #[.pointer none, .int .i64 code])∧StP w' q p l m y busy∧Below w.heap.size w w'
 else∃t n,e= .returned (.tuple #[.pointer (some ⟨t,0,none⟩), .int .i64 0])∧w.heap.size≤n∧w.heap.size≤t∧t≠n∧w'.heap[t]? =some (.cells (txC q n ⟨[],0,false⟩) 106 (0,0))∧Ch w' n []∧StP w' q p l m y true∧Keeps (fun k=>k=q) w w'
set_option maxRecDepth 20000 in
set_option maxHeartbeats 4000000 in
theorem sbegin_any (h:StW w F p s cR q l m S G):
  Calls Tryz.prog 56 #[.pointer (some ⟨q,0,none⟩)] w fun e w'=>BegOut w w' q p l m G.y G.busy (G.begin S) e:=by
 have h1:=h.dead
 have HS:=h.st
 unfold SG.begin
 go_enter Tryz.func56,Tryz.ntmps56
 cases hd:G.L.dead S
 ·rw [hd] at h1
  rw [if_neg (by decide)]
  cases hb:G.busy
  ·rw [if_neg (by decide)]
   go_wp2_with fail
   refine h1.mono ?_
   rintro e w1 ⟨rfl,hb1⟩
   have hs1:=HS.later hb1
   rw [hb] at hs1
   have c8:=hs1.c8
   have g8:=frozen_of_block hs1 8
   have k3:=keeps_set (F:=fun k=>k=q) w1 rfl 8 (.bool true)
   have s3:StP (w1.setCell ⟨q,8,none⟩ (.bool true)) q p l m G.y true:=(heap_setCell_same _ _ 8 _ _ _ hs1).trans (by simp [stC])
   have hz:(w1.setCell ⟨q,8,none⟩ (.bool true)).heap.size=w1.heap.size:=by simp [World.setCell]
   have hb1z:=hb1.size
   have hm:=Ch.made (w1.setCell ⟨q,8,none⟩ (.bool true))
   rw [hz] at hm
   obtain⟨wM,hwM⟩:∃wM,wM=(w1.setCell ⟨q,8,none⟩ (.bool true)).alloc (.map #[] 0):=⟨_,rfl⟩
   rw [←hwM] at hm
   have hbM:Below (w1.setCell ⟨q,8,none⟩ (.bool true)).heap.size (w1.setCell ⟨q,8,none⟩ (.bool true)) wM:=by rw [hwM];exact below_box _ _
   have hzM:wM.heap.size=w1.heap.size+1:=by rw [hwM,World.size_alloc,hz]
   have hbx:=below_box wM (.cells (txC q w1.heap.size ⟨[],0,false⟩) 106)
   have HN:((wM.alloc (.cells (txC q w1.heap.size ⟨[],0,false⟩) 106)).heap[w1.heap.size+1]? =some (.cells (txC q w1.heap.size ⟨[],0,false⟩) 106 (0,0))∧Ch (wM.alloc (.cells (txC q w1.heap.size ⟨[],0,false⟩) 106)) w1.heap.size []∧StP (wM.alloc (.cells (txC q w1.heap.size ⟨[],0,false⟩) 106)) q p l m G.y true∧Keeps (fun k=>k=q) w (wM.alloc (.cells (txC q w1.heap.size ⟨[],0,false⟩) 106))):=by
    refine⟨by rw [←hzM];exact heap_alloc_new _ _,hm.later hbx,(s3.later hbM).later hbx,?_⟩
    exact(((Keeps.of_below (fun k=>k=q) hb1).trans k3 (fun _ h=> .inl h)).trans (Keeps.of_below (fun _=>False) hbM) (fun _ h=>h.elim)).trans (Keeps.of_below (fun _=>False) hbx) (fun _ h=>h.elim)
   have hmm:= @run_makeMap Tryz.prog
   go_wp2
   rw [←hwM]
   go_ret2
   unfold BegOut
   rw [if_neg (fun h=>h rfl)]
   refine⟨w1.heap.size+1,w1.heap.size,?_,hb1z,by omega,by omega,HN⟩
   first|rfl|(rw [hzM];rfl)
  ·rw [if_pos rfl]
   go_wp2_with fail
   refine h1.mono ?_
   rintro e w1 ⟨rfl,hb1⟩
   have hs1:=HS.later hb1
   rw [hb] at hs1
   have c8:=hs1.c8
   go_wp2
   go_ret2
   unfold BegOut
   rw [if_pos (by decide)]
   exact⟨rfl,(And.intro hs1 hb1)⟩
 ·rw [hd] at h1
  rw [if_pos rfl]
  go_wp2_with fail
  refine h1.mono ?_
  rintro e w1 ⟨rfl,hb1⟩
  go_wp2
  go_ret2
  unfold BegOut
  rw [if_pos (by decide)]
  exact⟨rfl,(And.intro (HS.later hb1) hb1)⟩
end
end Go.Proofs.YtkiehemoiapkkaaGreat
end
section
namespace Go.Proofs.YtkiehemoiapkkaaGreat
open Go.RowKit Go.Maps
def GetOut (w w':World) (code:Int) (c:List Int) (e:Ending):Prop:=
 if code≠0 then e= .returned (.tuple #[.slice none 0 0, .int .i64 code])
 else∃g,e= .returned (.tuple #[.slice (some ⟨g,0,none⟩) 512 512, .int .i64 0])∧w.heap.size≤g∧Blk w' 113 g c
section
variable {w w':World} {F:Nat→Prop} {p s cR q l m t n:Nat} {S:DS} {G:SG} {T:TG}
theorem refusal_zero {b:Int} (h:T.refusal G S b=0):G.L.dead S=false∧T.ended=false∧T.bad=0∧0≤b∧b<(G.y.blocks:Int):=by
 unfold TG.refusal TG.state TG.over at h
 cases hd:G.L.dead S
 ·cases he:T.ended
  ·rw [hd,he] at h
   simp only [Bool.false_eq_true,if_false,ne_eq,not_true_eq_false] at h
   split at h
   ·rename_i h1;exact absurd h h1
   ·rename_i h1
    split at h
    ·omega
    ·refine⟨rfl,rfl,?_,by omega,by omega⟩
     exact Decidable.byContradiction h1
  ·rw [hd,he] at h
   simp at h
 ·rw [hd] at h
  simp at h
theorem dead_fuse {L:LG} (h:L.dead S=false):S.fuse≠0:=fun e=>by
 unfold LG.dead at h
 rw [show (S.fuse == 0)=true by rw [beq_iff_eq];exact e] at h
 simp at h
set_option maxRecDepth 20000 in
set_option maxHeartbeats 4000000 in
theorem Get_any (h:StW w F p s cR q l m S G) (ht:TxW w F q l m t n G T) (b:Int) (hbig:S.puts.length+1≤4000000000000):
  Calls Tryz.prog 32 #[.pointer (some ⟨t,0,none⟩), .int .i64 b] w fun e w'=>GetOut w w' (T.refusal G S b) (T.sees G S b.toNat) e∧B.DiskR w' F p s S (cR+1)∧Keeps F w w':=by
 have h1:=refusal_tx h ht b
 go_enter Tryz.func32,Tryz.ntmps32
 by_cases k:T.refusal G S b=0
 ·obtain⟨r1,r2,r3,r4,r5⟩:=refusal_zero k
  obtain⟨b,rfl⟩:∃b':Nat,b=(b':Int):=⟨b.toNat,by omega⟩
  have hb:b<G.y.blocks:=by omega
  have hlen:=sees_len h ht b hb
  rw [k] at h1
  have HS:=h
  have HT:=ht
  have HK:=k
  have hzc:=zeroCon
  have hfu:=dead_fuse r1
  clear h ht k r1 r2 r3 r4 r5
  go_wp2_with fail
  refine h1.mono ?_
  rintro e w1 ⟨rfl,hb1⟩
  have h2:=sees_any (HS.later hb1) (HT.later hb1) b hb hfu hbig
  have HB:=hb1
  have hz1:=hb1.size
  unfold cV at h2
  obtain⟨A,hA⟩:∃A,A=bs (T.sees G S b):=⟨_,rfl⟩
  rw [←hA] at h2
  clear h1 hb1
  go_wp2_with fail
  refine h2.mono ?_
  rintro e w2 ⟨rfl,hd2,hk2⟩
  have hst:=con_stored w2 hlen
  have hinfo:=infoConL hlen
  have hone:=bs_one (T.sees G S b)
  rw [←hA] at hst hinfo hone
  have hF5:A.length=512:=by rw [hA,bs,List.length_map,hlen]
  have hall:=all_oneCell_toArray hone
  have hth:=hst.2.2
  have hz2:=hk2.size
  have HN:(Blk ((w2.alloc (.cells zsec 113)).setCells w2.heap.size 0 A) 113 w2.heap.size (T.sees G S b)∧B.DiskR ((w2.alloc (.cells zsec 113)).setCells w2.heap.size 0 A) F p s S (cR+1)∧Keeps F w ((w2.alloc (.cells zsec 113)).setCells w2.heap.size 0 A)):=⟨hst.1,hd2.later hst.2.1,((Keeps.of_below F HB).trans hk2 (fun _ h=> .inl h)).trans (Keeps.of_below (fun _=>False) hst.2.1) (fun _ h=>h.elim)⟩
  clear h2 hd2 hk2 hst hone hA
  generalize zsec=Z at*
  go_wp2_with (refine wpList_store_mid rfl 113 _ _ rfl w2.heap.size 0 A.toArray rfl rfl ?h1 ?h2 hall ?_)
  case h1=>first|simpa using hth|(rw [hF5] at hth;simpa using hth)
  case h2=>simpa using hinfo
  go_ret2
  refine⟨?_,HN.2⟩
  unfold GetOut
  rw [if_neg (fun h=>h HK)]
  exact⟨w2.heap.size,rfl,by omega,HN.1⟩
 ·have d:(T.refusal G S b != 0)=true:=by rw [bne_iff_ne];exact k
  have HD:=h.d
  have HK:=k
  clear h ht k
  generalize T.refusal G S b=E at*
  go_wp2_with fail
  refine h1.mono ?_
  rintro e w1 ⟨rfl,hb1⟩
  have HB:=hb1
  clear h1 hb1
  go_wp2
  go_ret2
  refine⟨?_,(HD.later HB).le (by omega),Keeps.of_below F HB⟩
  unfold GetOut
  rw [if_pos HK]
  rfl
end
end Go.Proofs.YtkiehemoiapkkaaGreat
end
section
namespace Go.Proofs.YtkiehemoiapkkaaGreat
open Go.RowKit Go.Maps
theorem guardCon:Tryz.prog.eqGuardType Tryz.prog.depth 113=false:=by kernel_rfl
theorem eqop_con (l m:List Int) (hl:l.length=512) (hm:m.length=512) (w:World) (x y:Operand):
    (do eqGuard .eql 113 x y (.agg (bs l).toArray) (.agg (bs m).toArray);binOp .eql 113 (.agg (bs l).toArray) (.agg (bs m).toArray)).run Tryz.prog w= .ok (.bool (decide (l=m))) w:=by
 rw [Sem.run_bind,run_eqGuard_agg (P:=Tryz.prog) w .eql 113 x y _ _ guardCon,Result.andThen_ok]
 show (binOp .eql 113 (.agg (bs l).toArray) (.agg (bs m).toArray)).run Tryz.prog w=_
 unfold binOp Op.equal Op.maxDepth
 rw [Sem.run_bind,(eq_row 512 9998 113 l m hl hm w Tryz.underlying113),Result.andThen_ok,Sem.run_pure]
theorem wpList_eq_con {ops:Array Oper} {rest:List Oper} {op:Oper} {a:Act} {w:World} {Q:Exit→Act→World→Prop} (hgd:op.guard=none) (x y:Operand) (T:TypeId) (ho:op.op= .binOp .eql 113 x y T)
    (A C:List Value) (l m:List Int) (hA:A=bs l) (hC:C=bs m) (hx:a.eval x= .agg A.toArray) (hy:a.eval y= .agg C.toArray) (hl:l.length=512) (hm:m.length=512) (v:Bool) (hv:decide (l=m)=v)
    (h:wpList Tryz.prog ops Q rest (a.put op.dst (.bool v)) w):wpList Tryz.prog ops Q (op :: rest) a w:=
 wpList_plain hgd fun K hK=>by
  subst hA hC hv
  unfold Oper.wp execOp
  simp only [ho,hx,hy]
  have:=eqop_con l m hl hm w x y
  rw [Sem.run_bind,this]
  exact hK _ _ h
def TG.put (T:TG) (G:SG) (S:DS) (b:Int) (d:List Int):Int×TG:=
 if T.refusal G S b≠0 then (T.refusal G S b,T) else if d.length≠512 then (2,T) else if d=T.sees G S b.toNat then (0,T)
 else if (CM.get T.puts b.toNat).isSome=false∧T.puts.length=16 then (50,{T with bad:=50}) else (0,{T with puts:=CM.put T.puts b.toNat d})
end Go.Proofs.YtkiehemoiapkkaaGreat
end
section
namespace Go.Proofs.YtkiehemoiapkkaaGreat
open Go.RowKit Go.Maps
def PutOut (w w':World) (F:Nat→Prop) (p s c q t n:Nat) (S:DS) (r:Int×TG) (e:Ending):Prop:=
 e= .returned (.int .i64 r.1)∧w'.heap[t]? =some (.cells (txC q n r.2) 106 (0,0))∧Ch w' n r.2.puts∧B.DiskR w' F p s S c∧Keeps (fun k=>F k∨k=t∨k=n) w w'
theorem conV_cells (g:Option (List Int)) (hg:∀c,g=some c→c.length=512):∃CL:List Value,conV g= .agg CL.toArray∧CL.length=512∧CL.toArray.all Value.oneCell'=true∧(Tryz.prog.info? 113).map (·.size)=some CL.length:=by
 cases g with
 |none=>exact⟨bs (zs 512),rfl,by rw [bs,List.length_map,zs_len],all_oneCell_toArray (bs_one _),infoConL (zs_len 512)⟩
 |some c=>exact⟨bs c,rfl,by rw [bs,List.length_map,hg c rfl],all_oneCell_toArray (bs_one _),infoConL (hg c rfl)⟩
theorem cells_stored (w:World) {A:List Value} (hA:A.length=512):Below w.heap.size w ((w.alloc (.cells zsec 113)).setCells w.heap.size 0 A)∧(w.alloc (.cells zsec 113)).there w.heap.size 0 A.length:=by
 have hw1:(w.alloc (.cells zsec 113)).heap[w.heap.size]? =some (.cells zsec 113 (0,0)):=heap_alloc_new _ _
 have hB1:Below w.heap.size w (w.alloc (.cells zsec 113)):=(Below.refl _ w).alloc (Nat.le_refl _) _
 refine⟨hB1.trans ((Keeps.setCells (F:=fun j=>j=w.heap.size) rfl A 0 _).below (fun j hj=>by omega) hB1.size),?_⟩
 rw [hA]
 exact(there_of hw1 zsec_size)
section
variable {w w':World} {F:Nat→Prop} {p s cR q l m t n:Nat} {S:DS} {G:SG} {T:TG}
set_option maxRecDepth 20000 in
set_option maxHeartbeats 8000000 in
theorem Put_any (h:StW w F p s cR q l m S G) (ht:TxW w F q l m t n G T) (b:Int) (a:Option Addr) (x c:Nat) (d:List Int) (hs:Src w a x d) (hx:x≤140737488355328) (hbd:Bytes d) (hbig:S.puts.length+1≤4000000000000):
  Calls Tryz.prog 63 #[.pointer (some ⟨t,0,none⟩), .int .i64 b, .slice a x c] w fun e w'=>PutOut w w' F p s (cR+1) q t n S (T.put G S b d) e:=by
 have h1:=refusal_tx h ht b
 have HS:=Hid.mk h
 have HT:=Hid.mk ht
 have hxd:=hs.1
 have HX:=Hid.mk hs
 have hself:∀w1,Below w.heap.size w w1→∀z:Int,PutOut w w1 F p s (cR+1) q t n S (z,T) (.returned (.int .i64 z)):=fun w1 hb1 z=>⟨rfl,(HT.out.later hb1).tx,(HT.out.later hb1).ch,(HS.out.d.later hb1).le (by omega),Keeps.of_below _ hb1⟩
 have HSelf:=Hid.mk hself
 obtain⟨R,hR⟩:∃R,R=T.put G S b d:=⟨_,rfl⟩
 rw [←hR]
 unfold TG.put at hR
 go_enter Tryz.func63,Tryz.ntmps63
 go_wp2_with fail
 by_cases k:T.refusal G S b=0
 ·rw [if_neg (fun h=>h k)] at hR
  obtain⟨r1,r2,r3,r4,r5⟩:=refusal_zero k
  obtain⟨b,rfl⟩:∃b':Nat,b=(b':Int):=⟨b.toNat,by omega⟩
  rw [k] at h1
  rw [Int.toNat_natCast] at hR
  refine h1.mono ?_
  rintro e w1 ⟨rfl,hb1⟩
  by_cases k2:d.length=512
  ·rw [if_neg (fun h=>h k2)] at hR
   have HRR:=Hid.mk hR
   clear hR
   obtain rfl:x=512:=by omega
   obtain⟨b0,o0,rfl⟩:=src_spot hs (by omega)
   have hb:b<G.y.blocks:=by omega
   have hlen:=sees_len h ht b hb
   have hzc:=zeroCon
   have hfu:=dead_fuse r1
   have hLt:=h.d.lt
   have HLt:=Hid.mk hLt
   have harr:=arrayCon (some ⟨b0,o0,none⟩) c
   have hinfo:=infoConL k2
   have hone:=bs_one d
   obtain⟨A,hA⟩:∃A,A=bs d:=⟨_,rfl⟩
   rw [←hA] at hinfo hone
   have hF5:A.length=512:=by rw [hA,bs,List.length_map,k2]
   have hall:=all_oneCell_toArray hone
   have HA:=Hid.mk hA
   have HR:=Hid.mk (And.intro r1 (And.intro r2 r3))
   clear h ht hs hself k r1 r2 r3 r4 r5 hone hA hLt
   have hra1:w1.rangeAt b0 o0 A:=by rw [HA.out];exact src_range (HX.out.later hb1)
   have hst:=con_stored w1 k2
   rw [←HA.out] at hst
   have hth:=hst.2.2
   obtain⟨wB,hwB⟩:∃wB,wB=(w1.alloc (.cells zsec 113)).setCells w1.heap.size 0 A:=⟨_,rfl⟩
   have hbB:Below w.heap.size w wB:=hb1.trans (by rw [hwB];exact hst.2.1.mono hb1.size)
   have hblk:Blk wB 113 w1.heap.size d:=by rw [hwB];exact hst.1
   have hz1:=hb1.size
   have h2:=sees_any (HS.out.later hbB) (HT.out.later hbB) b hb hfu hbig
   have HBB:=Hid.mk hbB
   have HBlk:=Hid.mk hblk
   have HwB:=Hid.mk hwB
   clear h1 hb1 hst hbB hblk hwB
   go_upto_region 7 with (first|refine wpList_load_mid rfl 113 _ rfl b0 o0 rfl A _ hra1 Tryz.underlying113 rfl hinfo ?_|refine wpList_store_mid rfl 113 _ _ rfl w1.heap.size 0 A.toArray rfl rfl ?h1 ?h2 hall ?_)
   case h1=>first|simpa using hth|(rw [hF5] at hth;simpa using hth)
   case h2=>simpa using hinfo
   have hwB':=HwB.out
   subst hwB'
   generalize hww:(w1.alloc (.cells zsec 113)).setCells w1.heap.size 0 A=wB at*
   clear hww hra1 hth HwB harr
   unfold cV at h2
   obtain⟨C,hC⟩:∃C,C=bs (T.sees G S b):=⟨_,rfl⟩
   rw [←hC] at h2
   have HC:=Hid.mk hC
   clear hC
   go_wp2_with fail
   refine h2.mono ?_
   rintro e w2 ⟨rfl,hd2,hk2⟩
   have hz2:=hk2.size
   have hzB:=HBlk.out.lt
   have hst:=con_stored w2 hlen
   have hinfoC:=infoConL hlen
   have honeC:=bs_one (T.sees G S b)
   rw [←HC.out] at hst hinfoC honeC
   have hC5:C.length=512:=by rw [HC.out,bs,List.length_map,hlen]
   have hallC:=all_oneCell_toArray honeC
   have hth:=hst.2.2
   have hn1:¬F w1.heap.size:=fun hf=>by have:=HLt.out _ hf;omega
   obtain⟨wD,hwD⟩:∃wD,wD=(w2.alloc (.cells zsec 113)).setCells w2.heap.size 0 C:=⟨_,rfl⟩
   have hbD:Below w2.heap.size w2 wD:=by rw [hwD];exact hst.2.1
   have hblkC:Blk wD 113 w2.heap.size (T.sees G S b):=by rw [hwD];exact hst.1
   have hblkA:=(HBlk.out.keep (hk2.block _ hzB hn1)).keep (hbD.block _ (by omega))
   have raA:wD.rangeAt w1.heap.size 0 A:=fun j v hv=>by
    have:=hblkA.news j v (by rw [←HA.out];exact hv)
    rwa [addr_add] at this
   have raC:wD.rangeAt w2.heap.size 0 C:=fun j v hv=>by
    have:=hblkC.news j v (by rw [←HC.out];exact hv)
    rwa [addr_add] at this
   have hsD:=((HS.out.later HBB.out).asked hd2 hk2).later hbD
   have htD:=((HT.out.later HBB.out).asked hk2).later hbD
   have HK0:=Hid.mk (((Keeps.of_below F HBB.out).trans hk2 (fun _ h=> .inl h)).trans (Keeps.of_below (fun _=>False) hbD) (fun _ h=>h.elim):Keeps F w wD)
   have HsD:=Hid.mk hsD
   have HtD:=Hid.mk htD
   have HwD:=Hid.mk hwD
   have HBa:=Hid.mk hblkA
   have hzD:=hbD.size
   clear h2 hd2 hk2 hst honeC hbD hblkC hblkA hsD htD hwD
   by_cases ke:d=T.sees G S b
   ·have dv:=decide_eq_true ke
    have HKe:=Hid.mk ke
    clear ke
    have hwD':=HwD.out
    subst hwD'
    go_wp2_with (first|refine wpList_store_mid rfl 113 _ _ rfl w2.heap.size 0 C.toArray rfl rfl ?h1 ?h2 hallC ?_|refine wpList_load_mid rfl 113 _ rfl w1.heap.size 0 rfl A _ raA Tryz.underlying113 rfl hinfo ?_|refine wpList_load_mid rfl 113 _ rfl w2.heap.size 0 rfl C _ raC Tryz.underlying113 rfl hinfoC ?_|refine wpList_eq_con rfl _ _ _ rfl A C d (T.sees G S b) HA.out HC.out rfl rfl k2 hlen true dv ?_)
    case h1=>first|simpa using hth|(rw [hC5] at hth;simpa using hth)
    case h2=>simpa using hinfoC
    go_ret
    rw [HRR.out,if_pos HKe.out]
    exact⟨rfl,HtD.out.tx,HtD.out.ch,HsD.out.d,HK0.out.mono (fun _ h=> .inl h)⟩
   ·have dv:=decide_eq_false ke
    have HKe:=Hid.mk ke
    clear ke
    have hwD':=HwD.out
    subst hwD'
    go_upto_region 12 with (first|refine wpList_store_mid rfl 113 _ _ rfl w2.heap.size 0 C.toArray rfl rfl ?h3 ?h4 hallC ?_|refine wpList_load_mid rfl 113 _ rfl w1.heap.size 0 rfl A _ raA Tryz.underlying113 rfl hinfo ?_|refine wpList_load_mid rfl 113 _ rfl w2.heap.size 0 rfl C _ raC Tryz.underlying113 rfl hinfoC ?_|refine wpList_eq_con rfl _ _ _ rfl A C d (T.sees G S b) HA.out HC.out rfl rfl k2 hlen false dv ?_)
    case h3=>first|simpa using hth|(rw [hC5] at hth;simpa using hth)
    case h4=>simpa using hinfoC
    generalize hww:(w2.alloc (.cells zsec 113)).setCells w2.heap.size 0 C=wD at*
    clear hww hth HwD raC
    have hb2:b<2048:=by have:=HS.out.hs;have:=HS.out.d.ok.hi;omega
    have hlook:=HtD.out.ch.look b hb2
    obtain⟨CL,hcv,hCL5,hallL,hinfoL⟩:=conV_cells (CM.get T.puts b) (fun c hc=>(HtD.out.ch.len _ (CM.get_mem hc)).2.1)
    rw [hcv] at hlook
    have hst:=cells_stored wD hCL5
    have hth:=hst.2
    have c1:=HtD.out.c1
    obtain⟨wE,hwE⟩:∃wE,wE=(wD.alloc (.cells zsec 113)).setCells wD.heap.size 0 CL:=⟨_,rfl⟩
    have hbE:Below wD.heap.size wD wE:=by rw [hwE];exact hst.1
    have HsE:=Hid.mk (HsD.out.later hbE)
    have HtE:=Hid.mk (HtD.out.later hbE)
    have HKE:=Hid.mk (HK0.out.trans (Keeps.of_below (fun _=>False) hbE) (fun _ h=>h.elim):Keeps F w wE)
    have HBe:=Hid.mk (HBa.out.keep (hbE.block _ (lt_there HBa.out)):Blk wE 113 w1.heap.size d)
    have HwE:=Hid.mk hwE
    clear hst hbE hwE hcv
    go_upto_region 13 with (refine wpList_store_mid rfl 113 _ _ rfl wD.heap.size 0 CL.toArray rfl rfl ?h5 ?h6 hallL ?_)
    case h5=>first|simpa using hth|(rw [hCL5] at hth;simpa using hth)
    case h6=>simpa using hinfoL
    have hwE':=HwE.out
    subst hwE'
    generalize hww:(wD.alloc (.cells zsec 113)).setCells wD.heap.size 0 CL=wE at*
    clear hww hth HwE hlook c1
    have c1:=HtE.out.c1
    have hlen3:=fun ty=>HtE.out.ch.length ty
    by_cases kk1:(CM.get T.puts b).isSome=false∧T.puts.length=16
    ·have ka:=kk1.1
     have kb:((T.puts.length:Int) == 16)=true:=by rw [beq_iff_eq];omega
     have h3:=spoil_any HsE.out HtE.out 50
     have e3:T.spoil G S 50=(50,{T with bad:=50}):=by
      unfold TG.spoil TG.state TG.over
      rw [HR.out.1,HR.out.2.1,HR.out.2.2]
      simp
     rw [e3] at h3
     have HK1:=Hid.mk kk1
     clear kk1 e3
     go_wp2_with fail
     refine h3.mono ?_
     rintro e w4 ⟨rfl,h4,h5⟩
     have HN:Hid (PutOut w w4 F p s (cR+1) q t n S (50,{T with bad:=50}) (.returned (.int .i64 50))):=⟨rfl,h4,HtE.out.ch.keep h5 (fun e=>HtE.out.tn e.symm),HsE.out.d.keep h5 (fun k hk e=>HtE.out.nt (e▸hk)),(HKE.out.mono (fun _ h=> .inl h)).trans h5 (fun _ e=> .inl (.inr (.inl e)))⟩
     clear h3 h4 h5
     go_wp2
     go_ret
     rw [HRR.out,if_neg HKe.out,if_pos HK1.out]
     exact HN.out
    ·have hchd:=HtE.out.ch.later (below_drew (Below.refl _ _))
     obtain⟨wU,hrun,hch,hkU,hszU⟩:=hchd.store b hb2 d k2 hbd
     have hrun':(Instr.mapUpdate 94 (.map (some n)) (.int .i64 (b:Int)) (.agg A.toArray)).run Tryz.prog wE.drew= .ok () wU:=by rw [HA.out];exact hrun
     have raE:wE.rangeAt w1.heap.size 0 A:=fun j v hv=>by
      have:=HBe.out.news j v (by rw [←HA.out];exact hv)
      rwa [addr_add] at this
     have hkU2:=(Keeps.of_below (fun k=>k=n) (below_drew (Below.refl wE.heap.size wE))).trans hkU (fun _ h=> .inl h)
     have HN:Hid (PutOut w wU F p s (cR+1) q t n S (0,{T with puts:=CM.put T.puts b d}) (.returned (.int .i64 0))):=⟨rfl,(hkU2.block t (lt_there HtE.out.tx) HtE.out.tn).trans HtE.out.tx,hch,HsE.out.d.keep hkU2 (fun k hk e=>HtE.out.nn (e▸hk)),(HKE.out.mono (fun _ h=> .inl h)).trans hkU2 (fun _ e=> .inl (.inr (.inr e)))⟩
     have HK1:=Hid.mk kk1
     have HC1:=Hid.mk c1
     have hund:=Tryz.underlying113
     have hnw1:w1.heap.size≠n:=by have:=HT.out.ch.lt;omega
     have hblkU:=HBe.out.keep (hkU2.block _ (lt_there HBe.out) hnw1)
     have HC2:Hid (wU.cell? ⟨t,1,none⟩=some (.map (some n))∧wU.rangeAt w1.heap.size 0 A):=⟨cell_of_block ((hkU2.block t (lt_there HtE.out.tx) HtE.out.tn).trans HtE.out.tx) (j:=1) rfl,fun j v hv=>by
      have:=hblkU.news j v (by rw [←HA.out];exact hv)
      rwa [addr_add] at this⟩
     clear hblkU
     cases hg:(CM.get T.puts b).isSome
     ·have kb:((T.puts.length:Int) == 16)=false:=by
       rw [beq_eq_false_iff_ne]
       intro e
       exact kk1 ⟨hg,by omega⟩
      clear kk1 hchd hrun hch hkU hkU2
      go_wp2_with fail
      go_region_held3 (fun w'=>w'.cell? ⟨t,1,none⟩=some (.map (some n))∧w'.rangeAt w1.heap.size 0 A) (first|exact⟨HC1.out,raE⟩|exact HC2.out) (fail)
      go_wp2
      go_ret
      rw [HRR.out,if_neg HKe.out,if_neg HK1.out]
      exact HN.out
     ·clear kk1 hchd hrun hch hkU hkU2
      go_wp2_with fail
      go_region_held3 (fun w'=>w'.cell? ⟨t,1,none⟩=some (.map (some n))∧w'.rangeAt w1.heap.size 0 A) (first|exact⟨HC1.out,raE⟩|exact HC2.out) (fail)
      go_wp2
      go_ret
      rw [HRR.out,if_neg HKe.out,if_neg HK1.out]
      exact HN.out
  ·rw [if_pos k2] at hR
   have HRR:=Hid.mk hR
   clear hR
   have dx:((x:Int) != 512)=true:=by rw [bne_iff_ne];omega
   clear h ht hs hself k r1 r2 r3 r4 r5 k2
   have HB:=Hid.mk hb1
   clear h1 hb1
   go_wp2
   go_ret
   rw [HRR.out]
   exact HSelf.out _ HB.out 2
 ·rw [if_pos k] at hR
  have HRR:=Hid.mk hR
  clear hR
  have dk:(T.refusal G S b != 0)=true:=by rw [bne_iff_ne];exact k
  clear h ht hs hself k
  generalize T.refusal G S b=E at*
  refine h1.mono ?_
  rintro e w1 ⟨rfl,hb1⟩
  have HB:=Hid.mk hb1
  clear h1 hb1
  go_wp2
  go_ret
  rw [HRR.out]
  exact HSelf.out _ HB.out E
end
end Go.Proofs.YtkiehemoiapkkaaGreat
end
section
namespace Go.Proofs.YtkiehemoiapkkaaGreat
open Go.RowKit Go.Maps
end Go.Proofs.YtkiehemoiapkkaaGreat
end
section
namespace Go.Proofs.YtkiehemoiapkkaaGreat
open Go.RowKit Go.Maps
end Go.Proofs.YtkiehemoiapkkaaGreat
end
section
namespace Go.Proofs.YtkiehemoiapkkaaGreat.B
open Go.RowKit
section
variable {w:World} {F:Nat→Prop} {p s l cR:Nat} {S:DS} {L:LG}
end
end Go.Proofs.YtkiehemoiapkkaaGreat.B
end
section
namespace Go.Proofs.YtkiehemoiapkkaaGreat
open Go.RowKit Go.Maps
theorem sbring_byt {S:DS} (hS:S.Byt) (s h:Nat):∀{ms:CM},(∀q∈ms,Bytes q.2)→(sbring S s h ms).2.Byt:=fun {ms} hm=>by
 induction ms generalizing S with
 |nil=>exact hS
 |cons q qs ih=>
  rw [sbring_cons]
  have h1:(S.wr s ((h+q.1:Nat):Int) 512 q.2).2.Byt:=hS.wr s _ _ (hm q List.mem_cons_self)
  split
  ·exact h1
  ·exact ih h1 (fun x hx=>hm x (List.mem_cons_of_mem _ hx))
section
variable {w w':World} {F:Nat→Prop} {p s cR q l m t n:Nat} {S:DS} {G:SG} {T:TG}
end
end Go.Proofs.YtkiehemoiapkkaaGreat
end
section
namespace Go.Proofs.YtkiehemoiapkkaaGreat.B
open Go.RowKit
section
variable {w w':World} {F G:Nat→Prop} {p s m c:Nat} {S:DS}
end
end Go.Proofs.YtkiehemoiapkkaaGreat.B
end
section
namespace Go.Proofs.YtkiehemoiapkkaaGreat.B
open Go.RowKit
section
variable {w W W':World} {F:Nat→Prop} {l p s m M n0 cR:Nat} {L:LG} {S:DS} {d:List Int} {xs:List Nat}
end
end Go.Proofs.YtkiehemoiapkkaaGreat.B
end
section
namespace Go.Proofs.YtkiehemoiapkkaaGreat.B
open Go.RowKit Go.Shelf
attribute [local go_sem] Oper.semAt_some
section
variable {w:World} {F:Nat→Prop} {p s l cR:Nat} {S:DS} {L:LG}
end
end Go.Proofs.YtkiehemoiapkkaaGreat.B
end
section
namespace Go.Proofs.YtkiehemoiapkkaaGreat
open Go.RowKit Go.Maps
theorem over_mem:∀{ns ms:CM} {x:Nat×List Int},x∈CM.over ms ns→x∈ms∨x∈ns
 | [],_,_,h=> .inl h
 |q :: qs,ms,x,h=>by
  rcases over_mem (ns:=qs) (ms:=CM.put ms q.1 q.2) h with h|h
  ·rcases CM.put_key h with e|h
   ·exact .inr (e▸List.mem_cons_self)
   ·exact .inl h
  ·exact .inr (List.mem_cons_of_mem _ h)
theorem fl_putsS (S:DS) (s:Nat):(S.fl s).2.puts.length≤S.puts.length:=by
 unfold DS.fl
 split
 ·exact Nat.le_refl _
 ·exact Nat.zero_le _
theorem anew_putsS (S:DS) (s f:Nat) (x:Int):(anew S s f x).2.puts.length≤S.puts.length+1:=by
 unfold anew
 split
 ·exact Nat.le_succ _
 ·split
  ·exact Nat.le_succ _
  ·split
   ·exact wr_puts _ _ _ _ _
   ·exact Nat.le_trans (fl_putsS _ _) (wr_puts _ _ _ _ _)
section
variable {w w':World} {F:Nat→Prop} {p s cR q l m n:Nat} {S:DS} {G:SG} {cs:CM}
end
end Go.Proofs.YtkiehemoiapkkaaGreat
end
section
namespace Go.Proofs.YtkiehemoiapkkaaGreat
open Go.RowKit Go.Maps
section
variable {w w':World} {F:Nat→Prop} {p s cR q l m t n:Nat} {S:DS} {G:SG} {T:TG}
end
end Go.Proofs.YtkiehemoiapkkaaGreat
end
section
namespace Go.Proofs.YtkiehemoiapkkaaGreat
open Go.RowKit Go.Maps
end Go.Proofs.YtkiehemoiapkkaaGreat
end
section
namespace Go.Proofs.YtkiehemoiapkkaaGreat
open Go.RowKit Go.Maps
section
variable {w w':World} {F:Nat→Prop} {p s cR q l m t n:Nat} {S:DS} {G:SG} {T:TG}
end
end Go.Proofs.YtkiehemoiapkkaaGreat
end
section
namespace Go.Proofs.YtkiehemoiapkkaaGreat
open Go.RowKit Go.Maps
section
variable {w w':World} {F:Nat→Prop} {p s cR q l m t n:Nat} {S:DS} {G:SG} {T:TG}
end
end Go.Proofs.YtkiehemoiapkkaaGreat
end
section
namespace Go.Proofs.YtkiehemoiapkkaaGreat
open Go.RowKit Go.Maps
def zrow (n:Nat):CM:=(List.range n).map fun i=>(i,zs 512)
theorem zrow_len (n:Nat):(zrow n).length=n:=by simp [zrow]
theorem zrow_succ (n:Nat):zrow (n+1)=zrow n ++ [(n,zs 512)]:=by simp [zrow,List.range_succ]
theorem zrow_more {j n:Nat} (h:j≤n):∃r,zrow n=zrow j ++ r:=by
 refine⟨(zrow n).drop j,?_⟩
 have:zrow j=(zrow n).take j:=by
  unfold zrow
  rw [←List.map_take,List.take_range,Nat.min_eq_left h]
 rw [this,List.take_append_drop]
def swipe (S:DS) (s a n:Nat):Int×DS:=if (sbring S s a (zrow n)).1≠0 then sbring S s a (zrow n) else (sbring S s a (zrow n)).2.fl s
theorem swipe_puts (S:DS) (s a n:Nat):(swipe S s a n).2.puts.length≤S.puts.length+n:=by
 have h:=sbring_puts S s a (zrow n)
 rw [zrow_len] at h
 unfold swipe
 split
 ·exact h
 ·exact Nat.le_trans (fl_putsS _ _) h
set_option maxRecDepth 20000 in
set_option maxHeartbeats 4000000 in
theorem swipe_any {w:World} {F:Nat→Prop} {p s c:Nat} {S:DS} (hd:B.DiskR w F p s S c) (a b:Nat) (hab:a≤b) (hb:b≤4000000000) (hbig:S.puts.length+(b-a)+1≤4000000000000):
  Calls Tryz.prog 47 #[.pointer (some ⟨p,0,none⟩), .int .i64 (a:Int), .int .i64 (b:Int)] w fun e w'=>e= .returned (.int .i64 (swipe S s a (b-a)).1)∧B.DiskR w' (more F w w') p s (swipe S s a (b-a)).2 c∧Keeps F w w':=by
 obtain⟨n,rfl⟩:∃n,b=a+n:=⟨b-a,by omega⟩
 rw [Nat.add_sub_cancel_left] at hbig⊢
 clear hab
 obtain⟨R,hR⟩:∃R,R=swipe S s a n:=⟨_,rfl⟩
 rw [←hR]
 unfold swipe at hR
 have HLt:=Hid.mk hd.lt
 have HD:=Hid.mk hd
 have HR:=Hid.mk hR
 clear hd hR
 go_enter Tryz.func47,Tryz.ntmps47
 go_wp2_with (at_make;refine wpList_make_part _ rfl _ _ rfl _ 512 512 rfl rfl rfl (Nat.le_refl _) (by omega) ?_;intro w1 hblk hb1)
 have hlb:=hblk.lt
 have hsrc:Src w1 (some ⟨w.heap.size,0,none⟩) 512 (zs 512):=by
  have:=hblk.src (o:=0) (n:=512) (by rw [zs_len];omega)
  rwa [List.drop_zero,List.take_of_length_le (by rw [zs_len];omega)] at this
 have HSr:=Hid.mk hsrc
 have HD1:=Hid.mk (HD.out.later hb1)
 have HB1:=Hid.mk hb1
 clear hblk hb1 hsrc
 have hbc:((a+n:Nat):Int)≤4000000000:=by omega
 go_loopw [8] (fun i wr=>∃j:Nat,j≤n∧i= .int .i64 ((a+j:Nat):Int)∧(sbring S s a (zrow j)).1=0∧B.DiskR wr (more F w1 wr) p s (sbring S s a (zrow j)).2 c∧Keeps F w1 wr) (fun i _=>a+n-(intOf i).toNat)
 case atStart=>exact⟨0,Nat.zero_le _,rfl,rfl,HD1.out.more,Keeps.refl _ _⟩
 case round=>
  clear HD1
  obtain⟨j,hj,rfl,hz,hd,hkp⟩:=hrel
  have hkz:=hkp.size
  have hpu:=sbring_puts S s a (zrow j)
  rw [zrow_len] at hpu
  have HLr:Hid (∀k,F k→k<w1.heap.size):=fun k hf=>by have:=HLt.out k hf;omega
  have hgF:¬F w.heap.size:=fun hf=>by have:=HLt.out _ hf;omega
  by_cases hlt:j<n
  ·have hlt':((a+j:Nat):Int)<((a+n:Nat):Int):=by omega
   have hsr:=HSr.out.avoid hkp (fun y hy _ e=>by
    cases hy
    exact hgF e)
   have hsn:sbring S s a (zrow (j+1))=(sbring S s a (zrow j)).2.wr s ((a+j:Nat):Int) 512 (zs 512):=by
    rw [zrow_succ,sbring_append,if_neg (fun h=>h hz)]
    simp only [sbring]
    split
    ·rfl
    ·rename_i h
     generalize DS.wr _ _ _ _ _=Z at*
     rw [←(Decidable.byContradiction h)]
   have hw:=B.dwrite hd ((a+j:Nat):Int) (some ⟨w.heap.size,0,none⟩) 512 512 (zs 512) hsr (by omega)
   rw [←hsn] at hw
   obtain⟨r,hr⟩:=zrow_more (Nat.succ_le_of_lt hlt)
   have hend:sbring S s a (zrow n)=if (sbring S s a (zrow (j+1))).1≠0 then sbring S s a (zrow (j+1)) else sbring (sbring S s a (zrow (j+1))).2 s a r:=by
    rw [hr]
    exact sbring_append S s a _ _
   obtain⟨Y,hY⟩:∃Y,Y=sbring S s a (zrow (j+1)):=⟨_,rfl⟩
   rw [←hY] at hw hend
   have HY:=Hid.mk hY
   have HE:=Hid.mk hend
   have HK:=Hid.mk hkp
   clear hY hend hsn hr hd hkp hsr hz hpu
   by_cases kY:Y.1=0
   ·have dY:(Y.1 != 0)=false:=by rw [kY];rfl
    have HKY:=Hid.mk kY
    clear kY
    go_wp2_with fail
    refine hw.mono ?_
    rintro e w5 ⟨rfl,hd5,hk5⟩
    have hz5:=hk5.size
    have HN:Hid (B.DiskR w5 (more F w1 w5) p s Y.2 c∧Keeps F w1 w5):=⟨hd5.mono (more_more hkz hz5) (more_lt (F:=F) (w:=w1) HLr.out (by omega)),HK.out.trans hk5 (fun k hk=>hk.elim .inl (fun h=> .inr h.1))⟩
    clear hw hd5 hk5
    go_wp2
    go_roundw
    case rel=>exact⟨j+1,by omega,by go_num,by rw [←HY.out];exact HKY.out,by rw [←HY.out];exact HN.out.1,HN.out.2⟩
    case measure=>simp [intOf];omega
   ·have dY:(Y.1 != 0)=true:=by rw [bne_iff_ne];exact kY
    have HKY:=Hid.mk kY
    clear kY
    go_wp2_with fail
    refine hw.mono ?_
    rintro e w5 ⟨rfl,hd5,hk5⟩
    have hz5:=hk5.size
    have HN:Hid (B.DiskR w5 (more F w w5) p s Y.2 c∧Keeps F w w5):=⟨hd5.mono (fun k hk=>by
     rcases hk with (hk|hk)|hk
     ·exact .inl hk
     ·exact .inr ⟨by omega,by omega⟩
     ·exact .inr ⟨by omega,hk.2⟩) (more_lt (F:=F) (w:=w) HLt.out (by omega)),((Keeps.of_below F HB1.out).trans HK.out (fun _ h=> .inl h)).trans hk5 (fun k hk=>hk.elim .inl (fun h=> .inr (by omega)))⟩
    clear hw hd5 hk5
    go_wp2
    go_ret
    have hRY:R=Y:=by rw [HR.out,HE.out,if_pos HKY.out,if_pos HKY.out]
    rw [hRY]
    exact⟨rfl,HN.out⟩
  ·obtain rfl:j=n:=by omega
   have hw:=B.dflush hd (by omega)
   have HK:=Hid.mk hkp
   have hRZ:R=(sbring S s a (zrow j)).2.fl s:=by rw [HR.out,if_neg (fun h=>h hz)]
   rw [←hRZ] at hw
   clear hd hkp hRZ hz hpu hlt
   go_wp2_with fail
   refine hw.mono ?_
   rintro e w5 ⟨rfl,hd5,hk5⟩
   have hz5:=hk5.size
   have HN:Hid (B.DiskR w5 (more F w w5) p s R.2 c∧Keeps F w w5):=⟨hd5.mono (fun k hk=>by
    rcases hk with hk|hk
    ·exact .inl hk
    ·exact .inr ⟨by omega,by omega⟩) (more_lt (F:=F) (w:=w) HLt.out (by omega)),((Keeps.of_below F HB1.out).trans HK.out (fun _ h=> .inl h)).trans hk5 (fun k hk=>hk.elim .inl (fun h=> .inr (by omega)))⟩
   clear hw hd5 hk5
   go_wp2
   go_ret
   exact⟨rfl,HN.out⟩
end Go.Proofs.YtkiehemoiapkkaaGreat
end
section
namespace Go.Proofs.YtkiehemoiapkkaaGreat.B
open Go.RowKit
set_option maxRecDepth 20000 in
set_option maxHeartbeats 8000000 in
theorem wipe_any {w:World} {F:Nat→Prop} {p s cR:Nat} {S:DS} (h:DiskR w F p s S cR) (f n:Nat) (hfn:f+2+n≤s) (hn:n≤256) (hbig:S.puts.length+400≤4000000000000):
  Calls Tryz.prog 95 #[areaV p f n] w fun e w'=>e= .returned (.int .i64 (awipe S s f n).1)∧DiskR w' (more F w w') p s (awipe S s f n).2 cR∧Keeps F w w':=by
 have hs:=h.ok.hi
 have HL:=h.lt
 have hB:=(Below.refl w.heap.size w).alloc (Nat.le_refl _) (.cells #[.pointer (some ⟨p,0,none⟩), .int .i64 f, .int .i64 n] 136)
 have HD0:=(h.boxed (.cells #[.pointer (some ⟨p,0,none⟩), .int .i64 f, .int .i64 n] 136))
 have HB:=hB
 clear h hB
 go_enter Tryz.func95,Tryz.ntmps95
 go_wp2_with (at_make;refine wpList_make_part _ rfl _ _ rfl _ 512 512 rfl rfl ?c1 ?c2 ?c3 ?_)
 case c1=>rfl
 case c2=>omega
 case c3=>omega
 intro w1 hblk hb1
 have hd1:=HD0.later (by rw [World.size_alloc];exact hb1)
 have hbox:w1.heap[w.heap.size]? =some (.cells #[.pointer (some ⟨p,0,none⟩), .int .i64 f, .int .i64 n] 136 (0,0)):=(hb1.block _ (by simp)).trans (heap_alloc_new _ _)
 have hsz:=hblk.lt
 have HX:=hbox
 have HZ:=hblk
 have HD1:=hd1
 have HB1:=(HB.trans (hb1.mono (by simp)))
 have HF:(¬F w.heap.size∧¬F (w.heap.size+1)):=⟨fun h=>by have:=HL _ h;omega,fun h=>by have:=HL _ h;omega⟩
 have c1:=cell_of_block hbox (j:=1) rfl
 clear hblk hb1 hd1 hbox
 go_wp2
 clear c1
 go_loopw [4] (fun i wr=>∃k:Nat,k≤n+2∧i= .int .i64 ((f+k:Nat):Int)∧(wipeTo S s f k).1=0∧DiskR wr (more F w1 wr) p s (wipeTo S s f k).2 cR∧Keeps F w1 wr) (fun i _=>f+n+2-(intOf i).toNat)
 case atStart=>exact⟨0,Nat.zero_le _,by simp,rfl,HD1.more,Keeps.refl _ _⟩
 case round=>
  obtain⟨k,hk,rfl,he,hd,hkp⟩:=hrel
  have hbox:=(hkp.block _ (by omega) HF.1).trans HX
  have hzr:Blk wr 5 (w.heap.size+1) (zs 512):=(hkp.block _ (by omega) HF.2).trans HZ
  have c0:=cell_of_block hbox (j:=0) rfl
  have c1:=cell_of_block hbox (j:=1) rfl
  have c2:=cell_of_block hbox (j:=2) rfl
  have hx:=aend_any p f n wr (by omega) (by omega) (by omega) (by omega)
  have HE:=he
  have HDr:=hd
  have HKr:=hkp
  have HBX:=hbox
  have HZr:=hzr
  clear he hd hkp hbox hzr
  go_wp2_with fail
  refine hx.mono ?_
  rintro e w2 ⟨rfl,hb2⟩
  have hbox:=(hb2.block _ (lt_there HBX)).trans HBX
  have hzr:Blk w2 5 (w.heap.size+1) (zs 512):=(hb2.block _ (lt_there HZr)).trans HZr
  have hd2:=HDr.later hb2
  have HK2:=(HKr.trans (Keeps.of_below (fun _=>False) hb2) (fun _ h=>h.elim))
  have hz2:=hb2.size
  have hz3:=HKr.size
  have hp2:=wipeTo_puts S s f k
  clear hx hb2 c0 c1 c2
  have c0:=cell_of_block hbox (j:=0) rfl
  by_cases q:k<n+2
  ·have hlt:((f+k:Nat):Int)<(f:Int)+2+(n:Int):=by omega
   have hsrc:=hzr.src (o:=0) (n:=512) (by rw [zs_len];omega)
   rw [List.drop_zero,List.take_of_length_le (by rw [zs_len];omega)] at hsrc
   have hw:=dwrite hd2 ((f+k:Nat):Int) (some ⟨w.heap.size+1,0,none⟩) 512 512 (zs 512) hsrc (by omega)
   have e1:wipeTo S s f (k+1)=(wipeTo S s f k).2.wr s ((f+k:Nat):Int) 512 (zs 512):=stepsTo_ok HE
   rw [←e1] at hw
   clear hsrc e1 hbox hzr hd2
   go_wp2_with fail
   refine hw.mono ?_
   rintro e w3 ⟨rfl,hd3,hk3⟩
   have hj:=(hd3.mono (fun k hk=>by rcases hk with (hk|hk)|hk;exact .inl hk;exact .inr ⟨hk.1,by have:=hk3.size;omega⟩;exact .inr ⟨by omega,hk.2⟩) (more_lt (F:=F) (w:=w1) (fun k hk=>by have:=HL k hk;omega) (by have:=hk3.size;omega)):DiskR w3 (more F w1 w3) p s (wipeTo S s f (k+1)).2 cR)
   have hkj:=HK2.trans hk3 (fun j hj=>by rcases hj with hj|hj;exact .inl hj;exact .inr hj.1)
   have HDj:=hj
   have HKj:=hkj
   clear hd3 hk3 hw hj hkj
   by_cases q2:(wipeTo S s f (k+1)).1=0
   ·have d:((wipeTo S s f (k+1)).1 == 0)=true:=by rw [beq_iff_eq];exact q2
    have HQ:=q2
    clear q2
    go_wp2
    go_roundw
    case rel=>exact⟨k+1,by omega,by go_num,HQ,HDj,HKj⟩
    case measure=>simp [intOf];omega
   ·have d:((wipeTo S s f (k+1)).1 == 0)=false:=by rw [beq_eq_false_iff_ne];exact q2
    have e2:awipe S s f n=wipeTo S s f (k+1):=by
     have:wipeTo S s f (n+2)=wipeTo S s f (k+1):=stepsTo_err q2 (n+2) (by omega)
     unfold awipe
     rw [this,if_pos q2]
    clear q2
    go_wp2
    go_ret
    rw [e2]
    exact⟨rfl,HDj.from (w:=w) HL (by omega) HKj.size,(Keeps.of_below F HB1).trans HKj (fun _ h=> .inl h)⟩
  ·have hlt:¬((f+k:Nat):Int)<(f:Int)+2+(n:Int):=by omega
   obtain rfl:k=n+2:=by omega
   have hw:=dflush hd2 (by omega)
   have e2:awipe S s f n=(wipeTo S s f (n+2)).2.fl s:=by
    unfold awipe
    rw [if_neg (by have:=HE;omega)]
   have HE2:=e2
   clear e2 hbox hzr hd2
   go_wp2_with fail
   refine hw.mono ?_
   rintro e w3 ⟨rfl,hd3,hk3⟩
   have HDj:=((hd3.wide (fun k hk=>by have:=HL k hk;omega) hz3 (by have:=hk3.size;omega):DiskR w3 (more F w1 w3) p s ((wipeTo S s f (n+2)).2.fl s).2 cR))
   have HKj:=(HK2.trans hk3 (fun j hj=>by rcases hj with hj|hj;exact .inl hj;exact .inr hj.1):Keeps F w1 w3)
   clear hd3 hk3 hw
   go_wp2
   go_ret
   rw [HE2]
   exact⟨rfl,HDj.from (w:=w) HL (by omega) HKj.size,(Keeps.of_below F HB1).trans HKj (fun _ h=> .inl h)⟩
set_option maxRecDepth 20000 in
set_option maxHeartbeats 8000000 in
theorem Format_any {w:World} {F:Nat→Prop} {p s cR:Nat} {S:DS} (h:DiskR w F p s S cR) (hby:S.Byt) (f n:Int) (hbig:S.puts.length+500≤4000000000000):
  Calls Tryz.prog 48 #[.pointer (some ⟨p,0,none⟩), .int .i64 f, .int .i64 n] w fun e w'=>e= .returned (.int .i64 (lformat S s f n).1)∧DiskR w' (more F w w') p s (lformat S s f n).2 (cR+2)∧Keeps F w w':=by
 have HL:=h.lt
 have hFb:¬F w.heap.size:=fun h1=>by have:=h.lt _ h1;omega
 have HB:=(below_box w (.cells #[.pointer (some ⟨p,0,none⟩), .int .i64 f, .int .i64 n] 136))
 have hx0:(w.alloc (.cells #[.pointer (some ⟨p,0,none⟩), .int .i64 f, .int .i64 n] 136)).heap[w.heap.size]? =some (.cells #[.pointer (some ⟨p,0,none⟩), .int .i64 f, .int .i64 n] 136 (0,0)):=heap_alloc_new _ _
 have hd0:=h.boxed (.cells #[.pointer (some ⟨p,0,none⟩), .int .i64 f, .int .i64 n] 136)
 have h1:=drefusal hd0 f n
 have HD:=hd0
 unfold lformat
 by_cases q:lrefuse S s f n=0
 ·rw [if_neg (by omega)]
  obtain⟨hf0,a,b,rfl,rfl,hab,hb1,hb2⟩:=lrefuse_zero q
  rw [q] at h1
  simp only [Int.toNat_natCast]
  have hpt:=awipe_puts S.take s a b
  have hpt2:S.take.puts.length=S.puts.length:=rfl
  have HBW:=((hby.take).wipe s a b)
  have H3:=(fun w2 (hd2:DiskR w2 F p s S.take cR)=>wipe_any hd2 a b hab hb2 (by simpa [DS.take] using (show S.puts.length+400≤4000000000000 by omega)))
  generalize awipe S.take s a b=Y at*
  by_cases k:Y.1=0
  ·rw [if_neg (fun h=>h k)]
   have d:(Y.1 == 0)=true:=by rw [beq_iff_eq];exact k
   go_enter Tryz.func48,Tryz.ntmps48
   go_wp2_with fail
   refine h1.mono ?_
   rintro e w1 ⟨rfl,hb⟩
   have hx1:w1.heap[w.heap.size]? =_:=(hb.block _ (by simp)).trans hx0
   go_wp2_with fail
   refine(dtake (HD.later hb)).mono ?_
   rintro e w2 ⟨rfl,hd2,hk2⟩
   have hx2:=box_after hx1 hk2 hFb
   have c0:=cell_of_block hx2 (j:=0) rfl
   have c1:=cell_of_block hx2 (j:=1) rfl
   have c2:=cell_of_block hx2 (j:=2) rfl
   have HK2:=((Keeps.of_below F (HB.trans (hb.mono (by simp)))).trans hk2 (fun _ h=> .inl h))
   go_wp2_with fail
   refine(H3 w2 hd2).mono ?_
   rintro e w3 ⟨rfl,hd3,hk3⟩
   have hx3:=box_after hx2 hk3 hFb
   have c0:=cell_of_block hx3 (j:=0) rfl
   have c1:=cell_of_block hx3 (j:=1) rfl
   have c2:=cell_of_block hx3 (j:=2) rfl
   have HK3:=(HK2.trans hk3 (fun _ h=> .inl h))
   have hz2:=HK2.size
   have hz3:=hk3.size
   have h4:=drenew hd3 a b 1 0 (by omega) (by omega) (by omega) (by omega) (HBW.now a) (HBW.now (a+1))
   rw [show ((1:Nat):Int)*4294967296+((0:Nat):Int)=4294967296 by decide] at h4
   go_wp2_with fail
   refine h4.mono ?_
   rintro e w4 ⟨rfl,hd4,hk4⟩
   have hz4:=hk4.size
   have HZ:=(And.intro ((hd4.mono (fun k hk=>by
    rcases hk with (hk|hk)|hk
    ·exact .inl hk
    ·exact .inr ⟨by omega,by omega⟩
    ·exact .inr ⟨by omega,hk.2⟩) (more_lt (F:=F) (w:=w) HL (by omega)):DiskR w4 (more F w w4) p s _ (cR+2))) (HK3.trans hk4 (fun j hj=>by
    rcases hj with hj|hj
    ·exact .inl hj
    ·exact .inr (by omega))))
   go_wp2
   go_ret
   exact⟨rfl,HZ⟩
  ·rw [if_pos k]
   have d:(Y.1 == 0)=false:=by rw [beq_eq_false_iff_ne];exact k
   go_enter Tryz.func48,Tryz.ntmps48
   go_wp2_with fail
   refine h1.mono ?_
   rintro e w1 ⟨rfl,hb⟩
   have hx1:w1.heap[w.heap.size]? =_:=(hb.block _ (by simp)).trans hx0
   go_wp2_with fail
   refine(dtake (HD.later hb)).mono ?_
   rintro e w2 ⟨rfl,hd2,hk2⟩
   have hx2:=box_after hx1 hk2 hFb
   have c0:=cell_of_block hx2 (j:=0) rfl
   have c1:=cell_of_block hx2 (j:=1) rfl
   have c2:=cell_of_block hx2 (j:=2) rfl
   have HK2:=((Keeps.of_below F (HB.trans (hb.mono (by simp)))).trans hk2 (fun _ h=> .inl h))
   go_wp2_with fail
   refine(H3 w2 hd2).mono ?_
   rintro e w3 ⟨rfl,hd3,hk3⟩
   have hx3:=box_after hx2 hk3 hFb
   have c0:=cell_of_block hx3 (j:=0) rfl
   have c1:=cell_of_block hx3 (j:=1) rfl
   have c2:=cell_of_block hx3 (j:=2) rfl
   go_wp2
   go_ret
   exact⟨rfl,(And.intro (((hd3.from HL HK2.size hk3.size).le (by omega):DiskR w3 (more F w w3) p s Y.2 (cR+2))) (HK2.trans hk3 (fun _ h=> .inl h)))⟩
 ·rw [if_pos q]
  have d:(lrefuse S s f n == 0)=false:=by rw [beq_eq_false_iff_ne];exact q
  generalize lrefuse S s f n=U at*
  go_enter Tryz.func48,Tryz.ntmps48
  go_wp2_with fail
  refine h1.mono ?_
  rintro e w1 ⟨rfl,hb⟩
  go_wp2
  go_ret
  exact⟨rfl,(And.intro (((HD.later hb).more (w:=w)).le (by omega:cR≤cR+2)) (Keeps.of_below F (HB.trans (hb.mono (by simp)))))⟩
end Go.Proofs.YtkiehemoiapkkaaGreat.B
end
