import Derived.Test.YtkiehemoiapkkaaGreatW15
section
namespace Go.Proofs.YtkiehemoiapkkaaGreat
open Go.RowKit Go.Maps
theorem dropNum {k:STK} (hk:k.Ok) {x:Int} (h1:¬x<(k.first:Int)) (h2:¬(k.first:Int)+(k.cnt:Int)-1<x):x.toNat-k.zero<4096∧wrap64 (x-(k.zero:Int))=((x.toNat-k.zero:Nat):Int):=by
 have h3:=hk.lo
 have h4:=hk.hi
 have h5:=hk.z
 exact⟨by omega,(wrapS (by omega) (by omega)).trans (by omega)⟩
theorem ran_no {v:Value} (x:Int) (h:x≠0):Ran x v (.panicked (gave x)):=by unfold Ran;rw [if_neg h]
section
variable {w w':World} {F:Nat→Prop} {p s cR q l m t n a:Nat} {S:DS} {G:SG} {T:TG}
theorem refusal_ok (h:TX w F p s cR q l m t n S G T) (k:STK) (hk:k.Ok) (h0:T.state G S=0):T.refusal G S k.bm=0:=by
 have h1:=hk.bm
 have h2:=h.yk.b2
 unfold TG.refusal
 rw [if_neg (fun e=>e h0),if_neg (by omega)]
set_option maxRecDepth 20000 in
set_option maxHeartbeats 4000000 in
theorem pdrop_st (h:TX w F p s cR q l m t n S G T) (hp:PoolAt w F a t n) (k:STK) (x:Int) (h0:T.state G S≠0):
  Calls Tryz.prog 115 #[.pointer (some ⟨a,0,none⟩),stkV k, .int .i64 x] w fun e w'=>e= .panicked (gave (T.state G S))∧Below w.heap.size w w':=by
 have hB1:=below_box w (stkO k)
 have c0:=(hp.later hB1).c0
 have h1:=state_any (h.later hB1).st (h.later hB1).tx
 have h2:=fun w=>haltOn_no w (T.state G S) h0
 have HB:=Hid.mk hB1
 generalize T.state G S=R at*
 clear h hp hB1 h0
 unfold stkO at*
 go_enter Tryz.func115,Tryz.ntmps115
 go_wp2_with fail
 refine h1.mono ?_
 rintro e w2 ⟨rfl,hb2⟩
 clear h1
 go_wp2_with fail
 refine(h2 w2).mono ?_
 rintro e w3 ⟨rfl,rfl⟩
 exact⟨rfl,rfl,HB.out.trans (hb2.mono HB.out.size)⟩
set_option maxRecDepth 20000 in
set_option maxHeartbeats 4000000 in
theorem pdrop_lo (h:TX w F p s cR q l m t n S G T) (hp:PoolAt w F a t n) (k:STK) (x:Int) (h0:T.state G S=0) (hx:x<(k.first:Int)):
  Calls Tryz.prog 115 #[.pointer (some ⟨a,0,none⟩),stkV k, .int .i64 x] w fun e w'=>e= .panicked (gave 11)∧Below w.heap.size w w':=by
 have hB1:=below_box w (stkO k)
 have hbx:(w.alloc (stkO k)).heap[w.heap.size]? =some (.cells #[.int .i64 (k.bm:Int), .int .i64 (k.zero:Int), .int .i64 (k.first:Int), .int .i64 ((k.first:Int)+(k.cnt:Int)-1), .int .i64 k.no] 61 (0,0)):=heap_alloc_new _ _
 have c0:=(hp.later hB1).c0
 have h1:=state_any (h.later hB1).st (h.later hB1).tx
 rw [h0] at h1
 have HB:=Hid.mk hB1
 have HBX:=Hid.mk hbx
 clear h hp hB1 h0 hbx
 unfold stkO at*
 go_enter Tryz.func115,Tryz.ntmps115
 go_wp2_with fail
 refine h1.mono ?_
 rintro e w2 ⟨rfl,hb2⟩
 obtain⟨d0,d1,d2,d3,d4⟩:=box_stk ((hb2.block _ (lt_there HBX.out)).trans HBX.out)
 have HB2:Hid (Below w.heap.size w w2):=HB.out.trans (hb2.mono HB.out.size)
 clear h1 hb2
 go_wp2_with fail
 refine(haltOn_ok w2).mono ?_
 rintro e w3 ⟨rfl,hw3⟩
 subst hw3
 go_wp2_with fail
 refine(haltIf_t w3 11).mono ?_
 rintro e w4 ⟨rfl,rfl⟩
 exact⟨rfl,rfl,HB2.out⟩
set_option maxRecDepth 20000 in
set_option maxHeartbeats 4000000 in
theorem pdrop_hi (h:TX w F p s cR q l m t n S G T) (hp:PoolAt w F a t n) (k:STK) (x:Int) (h0:T.state G S=0) (hx:¬x<(k.first:Int)) (hy:(k.first:Int)+(k.cnt:Int)-1<x):
  Calls Tryz.prog 115 #[.pointer (some ⟨a,0,none⟩),stkV k, .int .i64 x] w fun e w'=>e= .panicked (gave 11)∧Below w.heap.size w w':=by
 have hB1:=below_box w (stkO k)
 have hbx:(w.alloc (stkO k)).heap[w.heap.size]? =some (.cells #[.int .i64 (k.bm:Int), .int .i64 (k.zero:Int), .int .i64 (k.first:Int), .int .i64 ((k.first:Int)+(k.cnt:Int)-1), .int .i64 k.no] 61 (0,0)):=heap_alloc_new _ _
 have c0:=(hp.later hB1).c0
 have h1:=state_any (h.later hB1).st (h.later hB1).tx
 rw [h0] at h1
 have HB:=Hid.mk hB1
 have HBX:=Hid.mk hbx
 clear h hp hB1 h0 hbx
 unfold stkO at*
 go_enter Tryz.func115,Tryz.ntmps115
 go_wp2_with fail
 refine h1.mono ?_
 rintro e w2 ⟨rfl,hb2⟩
 obtain⟨d0,d1,d2,d3,d4⟩:=box_stk ((hb2.block _ (lt_there HBX.out)).trans HBX.out)
 have HB2:Hid (Below w.heap.size w w2):=HB.out.trans (hb2.mono HB.out.size)
 clear h1 hb2
 go_wp2_with fail
 refine(haltOn_ok w2).mono ?_
 rintro e w3 ⟨rfl,hw3⟩
 subst hw3
 generalize (k.first:Int)+(k.cnt:Int)-1=L at*
 go_wp2_with fail
 refine(haltIf_t w3 11).mono ?_
 rintro e w4 ⟨rfl,rfl⟩
 exact⟨rfl,rfl,HB2.out⟩
set_option maxRecDepth 20000 in
set_option maxHeartbeats 8000000 in
theorem pdrop_in (h:TX w F p s cR q l m t n S G T) (hp:PoolAt w F a t n) (k:STK) (hk:k.Ok) (x:Int) (h0:T.state G S=0) (hx:¬x<(k.first:Int)) (hy:¬(k.first:Int)+(k.cnt:Int)-1<x) (y:Bool) (hyb:bitOf (T.sees G S k.bm) (x.toNat-k.zero)=y):
  Calls Tryz.prog 115 #[.pointer (some ⟨a,0,none⟩),stkV k, .int .i64 x] w fun e w'=>(y=false→e= .panicked (gave 62)∧TX w' F p s (cR+2) q l m t n S G T)∧(y=true→Ran (T.put G S k.bm (turnBit (T.sees G S k.bm) (x.toNat-k.zero))).1 (.tuple #[]) e∧TX w' F p s (cR+2) q l m t n S G (T.put G S k.bm (turnBit (T.sees G S k.bm) (x.toNat-k.zero))).2)∧Keeps (OwT F t n) w w':=by
 have hB1:=below_box w (stkO k)
 have hbx:(w.alloc (stkO k)).heap[w.heap.size]? =some (.cells #[.int .i64 (k.bm:Int), .int .i64 (k.zero:Int), .int .i64 (k.first:Int), .int .i64 ((k.first:Int)+(k.cnt:Int)-1), .int .i64 k.no] 61 (0,0)):=heap_alloc_new _ _
 have c0:=(hp.later hB1).c0
 have h1:=state_any (h.later hB1).st (h.later hB1).tx
 rw [h0] at h1
 have HG:Hid (∀w2,Below w.heap.size w w2→Calls Tryz.prog 145 #[.pointer (some ⟨a,0,none⟩),stkV k] w2 fun e w'=>∃g,e= .returned (.slice (some ⟨g,0,none⟩) 512 512)∧w2.heap.size≤g∧Blk w' 113 g (T.sees G S k.bm)∧TX w' F p s (cR+1) q l m t n S G T∧Keeps F w2 w'):=fun w2 hb=>bits_ok (h.later hb) (hp.later hb) k (refusal_ok h k hk h0)
 have hbm:k.bm<G.y.blocks:=by have:=hk.bm;have:=h.yk.b2;omega
 have hlen:=h.len k.bm hbm
 have hbyt:=h.bytes k.bm
 obtain⟨hb8,hwr⟩:=dropNum hk hx hy
 obtain⟨b,hb⟩:∃b,b=x.toNat-k.zero:=⟨_,rfl⟩
 rw [←hb] at hyb hb8 hwr
 rw [←hb]
 obtain⟨d,hd⟩:∃d,d=T.sees G S k.bm:=⟨_,rfl⟩
 rw [←hd] at hyb hlen hbyt HG
 rw [←hd]
 have HB:=Hid.mk hB1
 have HBX:=Hid.mk hbx
 have HP:=Hid.mk hp
 have HLo:=Hid.mk h.low
 have HXx:=Hid.mk h.st.d.lt
 have hpa:=hp.lt
 have HL:=Hid.mk (And.intro hlen hbyt)
 clear h hp hB1 h0 hbx hbm hb hd hlen hbyt
 unfold stkO at*
 go_enter Tryz.func115,Tryz.ntmps115
 go_wp2_with fail
 refine h1.mono ?_
 rintro e w2 ⟨rfl,hb2⟩
 have hbx2:=(hb2.block _ (lt_there HBX.out)).trans HBX.out
 obtain⟨d0,d1,d2,d3,d4⟩:=box_stk hbx2
 have HB2:Hid (Below w.heap.size w w2):=HB.out.trans (hb2.mono HB.out.size)
 have HBX2:=Hid.mk hbx2
 clear h1 hb2 hbx2 HB HBX
 go_wp2_with fail
 refine(haltOn_ok w2).mono ?_
 rintro e w3 ⟨rfl,hw3⟩
 subst hw3
 obtain⟨L,hL⟩:∃L:Int,L=(k.first:Int)+(k.cnt:Int)-1:=⟨_,rfl⟩
 have hg:=HG.out w3 HB2.out
 have hst:stkV k= .agg #[.int .i64 (k.bm:Int), .int .i64 (k.zero:Int), .int .i64 (k.first:Int), .int .i64 L, .int .i64 k.no]:=by rw [hL]
 rw [hst] at hg
 rw [←hL] at d3 hy
 have HLL:=Hid.mk hL
 clear hL hst
 have hdd:(decide (x<(k.first:Int)) || decide (L<x))=false:=by rw [decide_eq_false (by omega),decide_eq_false (by omega)];rfl
 go_wp2_with fail
 clear hdd
 refine(haltIf_f w3 11).mono ?_
 rintro e w4 ⟨rfl,hw4⟩
 subst hw4
 go_wp2_with fail
 refine hg.mono ?_
 rintro e w5 ⟨g,rfl,hgs,hblk,hx5,hk5⟩
 have hnF:¬F w.heap.size:=fun hf=>by have:=HXx.out _ hf;omega
 have hbx5:=(hk5.block _ (lt_there HBX2.out) hnF).trans HBX2.out
 obtain⟨c0',c1,c2,c3,c4⟩:=box_stk hbx5
 have hgw:w.heap.size<g:=by have:=lt_there HBX2.out;omega
 have HK5:Hid (Keeps F w w5):=(Keeps.of_below F HB2.out).trans hk5 (fun _ h=> .inl h)
 have HX5:=Hid.mk hx5
 have HBX5:=Hid.mk hbx5
 have h3:=ptaken_any (c:=512) hblk HL.out.1 HL.out.2 b hb8
 rw [hyb] at h3
 have HBK:=Hid.mk hblk
 clear hg hblk hx5 hk5 hbx5 hgs d0 d1 d2 d3 d4
 go_wp2_with fail
 refine h3.mono ?_
 rintro e w6 ⟨rfl,hw6⟩
 subst hw6
 clear h3
 cases y
 ·go_wp2_with fail
  refine(haltIf_t w6 62).mono ?_
  rintro e w7 ⟨rfl,rfl⟩
  exact⟨rfl,fun _=>⟨rfl,HX5.out.le (by omega)⟩,(fun h=>by cases h),HK5.out.mono (fun _ h=> .inl h)⟩
 ·go_wp2_with fail
  refine(haltIf_f w6 62).mono ?_
  rintro e w7 ⟨rfl,hw7⟩
  subst hw7
  have h4:=pturn_any (c:=512) HBK.out HL.out.1 HL.out.2 b hb8
  go_wp2_with fail
  refine h4.mono ?_
  rintro e w8 ⟨rfl,hb8',hk8⟩
  have hx8:TX w8 F p s (cR+1) q l m t n S G T:=HX5.out.side HLo.out hk8 (fun z hz=>by omega)
  have hp8:PoolAt w8 F a t n:=by
   have hp7:=HP.out.keep (HK5.out.mono (fun _ h=> .inl h))
   exact⟨(hk8.block a hp7.lt (by omega)).trans hp7.b,hp7.nf⟩
  have hbx8:=(hk8.block _ (lt_there HBX5.out) (by omega)).trans HBX5.out
  obtain⟨e0,e1,e2,e3,e4⟩:=box_stk hbx8
  have h5:=play_any (c:=512) hx8 hp8 k hb8' (turnBit_len.trans HL.out.1) (turnBit_bytes HL.out.2)
  have HK8:Hid (Keeps (OwT F t n) w w8):=(HK5.out.mono (fun _ h=> .inl h)).trans hk8 (fun z hz=> .inr (by omega))
  rw [←HLL.out] at e3
  have hst:stkV k= .agg #[.int .i64 (k.bm:Int), .int .i64 (k.zero:Int), .int .i64 (k.first:Int), .int .i64 L, .int .i64 k.no]:=by rw [HLL.out]
  rw [hst] at h5
  clear h4 hb8' hk8 hx8 hp8 hbx8 hst
  go_wp2_with fail
  refine h5.mono ?_
  rintro e w9 ⟨hran,hx9,hk9⟩
  have HE:Hid (TX w9 F p s (cR+2) q l m t n S G (T.put G S k.bm (turnBit d b)).2∧Keeps (OwT F t n) w w9):=⟨hx9,HK8.out.trans hk9 (fun _ h=> .inl h)⟩
  clear h5 hx9 hk9
  unfold Ran at hran
  by_cases hr:(T.put G S k.bm (turnBit d b)).1=0
  ·rw [if_pos hr] at hran
   subst hran
   have HR:=Hid.mk hr
   clear hr
   go_wp2
   go_end0
   exact⟨⟨by unfold Ran;rw [if_pos HR.out],HE.out.1⟩,HE.out.2⟩
  ·rw [if_neg hr] at hran
   subst hran
   exact⟨rfl,(fun h=>by cases h),fun _=>⟨by unfold Ran;rw [if_neg hr],HE.out.1⟩,HE.out.2⟩
theorem pdrop_any (h:TX w F p s cR q l m t n S G T) (hp:PoolAt w F a t n) (k:STK) (hk:k.Ok) (x:Int):
  Calls Tryz.prog 115 #[.pointer (some ⟨a,0,none⟩),stkV k, .int .i64 x] w fun e w'=>Ran (T.pdrop G S k x).1 (.tuple #[]) e∧TX w' F p s (cR+2) q l m t n S G (T.pdrop G S k x).2∧Keeps (OwT F t n) w w':=by
 by_cases h0:T.state G S=0
 ·by_cases hx:x<(k.first:Int)
  ·have e:T.pdrop G S k x=(11,T):=by unfold TG.pdrop;rw [if_neg (fun e=>e h0),if_pos (.inl hx)]
   rw [e]
   refine(pdrop_lo h hp k x h0 hx).mono ?_
   rintro e w' ⟨rfl,hb⟩
   exact⟨ran_no _ (by simp),(h.later hb).le (by omega),Keeps.of_below _ hb⟩
  ·by_cases hy:(k.first:Int)+(k.cnt:Int)-1<x
   ·have e:T.pdrop G S k x=(11,T):=by unfold TG.pdrop;rw [if_neg (fun e=>e h0),if_pos (.inr hy)]
    rw [e]
    refine(pdrop_hi h hp k x h0 hx hy).mono ?_
    rintro e w' ⟨rfl,hb⟩
    exact⟨ran_no _ (by simp),(h.later hb).le (by omega),Keeps.of_below _ hb⟩
   ·have hr:=refusal_ok h k hk h0
    have e:T.pdrop G S k x=if bitOf (T.sees G S k.bm) (x.toNat-k.zero)=false then (62,T) else T.put G S k.bm (turnBit (T.sees G S k.bm) (x.toNat-k.zero)):=by
     unfold TG.pdrop
     rw [if_neg (fun e=>e h0),if_neg (fun e=>e.elim hx hy),if_neg (fun e=>e hr)]
    rw [e]
    refine(pdrop_in h hp k hk x h0 hx hy _ rfl).mono ?_
    rintro e w' ⟨g1,g2,g3⟩
    by_cases hb:bitOf (T.sees G S k.bm) (x.toNat-k.zero)=false
    ·rw [if_pos hb]
     obtain⟨rfl,hx⟩:=g1 hb
     exact⟨ran_no _ (by simp),hx,g3⟩
    ·rw [if_neg hb]
     obtain⟨h1,h2⟩:=g2 (by simpa using hb)
     exact⟨h1,h2,g3⟩
 ·have e:T.pdrop G S k x=(T.state G S,T):=by unfold TG.pdrop;rw [if_pos h0]
  rw [e]
  refine(pdrop_st h hp k x h0).mono ?_
  rintro e w' ⟨rfl,hb⟩
  exact⟨by unfold Ran;rw [if_neg h0],(h.later hb).le (by omega),Keeps.of_below _ hb⟩
end
end Go.Proofs.YtkiehemoiapkkaaGreat
end
section
namespace Go.Proofs.YtkiehemoiapkkaaGreat
open Go.RowKit Go.Maps
def freeN (d:List Int) (i:Nat):Nat→Nat
 |0=>0
 |n+1=>freeN d i n+(if bitOf d (i+n)=false then 1 else 0)
theorem freeN_le (d:List Int) (i n:Nat):freeN d i n≤n:=by
 induction n with
 |zero=>exact Nat.le_refl _
 |succ n ih=>unfold freeN;split <;> omega
def TG.pleft (T:TG) (G:SG) (S:DS) (k:STK):Nat:=freeN (T.sees G S k.bm) (k.first-k.zero) k.cnt
theorem addOne {c:Nat} (h:c≤4096):wrap64 ((c:Int)+1)=((c+1:Nat):Int):=(wrapS (by omega) (by omega)).trans (by omega)
section
variable {w w':World} {F:Nat→Prop} {p s cR q l m t n a:Nat} {S:DS} {G:SG} {T:TG}
set_option maxRecDepth 20000 in
set_option maxHeartbeats 4000000 in
theorem pleft_no (h:TX w F p s cR q l m t n S G T) (hp:PoolAt w F a t n) (k:STK) (h0:T.refusal G S k.bm≠0):
  Calls Tryz.prog 119 #[.pointer (some ⟨a,0,none⟩),stkV k] w fun e w'=>e= .panicked (gave (T.refusal G S k.bm))∧TX w' F p s (cR+1) q l m t n S G T∧Keeps F w w':=by
 have hB1:=below_box w (stkO k)
 have hbx:(w.alloc (stkO k)).heap[w.heap.size]? =some (.cells #[.int .i64 (k.bm:Int), .int .i64 (k.zero:Int), .int .i64 (k.first:Int), .int .i64 ((k.first:Int)+(k.cnt:Int)-1), .int .i64 k.no] 61 (0,0)):=heap_alloc_new _ _
 have h1:=bits_no (h.later hB1) (hp.later hB1) k h0
 have HB:=Hid.mk hB1
 generalize T.refusal G S k.bm=R at*
 clear h hp hB1 hbx h0
 unfold stkO at*
 go_enter Tryz.func119,Tryz.ntmps119
 go_wp2_with fail
 refine h1.mono ?_
 rintro e w2 ⟨rfl,hx2,hk2⟩
 exact⟨rfl,rfl,hx2,(Keeps.of_below F HB.out).trans hk2 (fun _ h=> .inl h)⟩
set_option maxRecDepth 20000 in
set_option maxHeartbeats 8000000 in
theorem pleft_ok (h:TX w F p s cR q l m t n S G T) (hp:PoolAt w F a t n) (k:STK) (hk:k.Ok) (h0:T.refusal G S k.bm=0):
  Calls Tryz.prog 119 #[.pointer (some ⟨a,0,none⟩),stkV k] w fun e w'=>e= .returned (.int .i64 (T.pleft G S k:Int))∧TX w' F p s (cR+1) q l m t n S G T∧Keeps F w w':=by
 have hB1:=below_box w (stkO k)
 have hbx:(w.alloc (stkO k)).heap[w.heap.size]? =some (.cells #[.int .i64 (k.bm:Int), .int .i64 (k.zero:Int), .int .i64 (k.first:Int), .int .i64 ((k.first:Int)+(k.cnt:Int)-1), .int .i64 k.no] 61 (0,0)):=heap_alloc_new _ _
 have h1:=bits_ok (h.later hB1) (hp.later hB1) k h0
 have hbm:k.bm<G.y.blocks:=by have:=hk.bm;have:=h.yk.b2;omega
 have hlen:=h.len k.bm hbm
 have hbyt:=h.bytes k.bm
 have hR:T.pleft G S k=freeN (T.sees G S k.bm) (k.first-k.zero) k.cnt:=rfl
 obtain⟨R,hRR⟩:∃R,R=T.pleft G S k:=⟨_,rfl⟩
 rw [←hRR] at hR
 rw [←hRR]
 obtain⟨d,hd⟩:∃d,d=T.sees G S k.bm:=⟨_,rfl⟩
 rw [←hd] at hlen hbyt hR h1
 have HR:=Hid.mk hR
 have HB:=Hid.mk hB1
 have HBX:=Hid.mk hbx
 have HXx:=Hid.mk h.st.d.lt
 clear h hp hB1 hbx h0 hR hRR hd hbm
 unfold stkO at*
 go_enter Tryz.func119,Tryz.ntmps119
 go_wp2_with fail
 refine h1.mono ?_
 rintro e w2 ⟨g,rfl,hg,hblk,hx2,hk2⟩
 have hnF:¬F w.heap.size:=fun hf=>by have:=HXx.out _ hf;omega
 have hbx2:=(hk2.block _ (lt_there HBX.out) hnF).trans HBX.out
 obtain⟨c0,c1,c2,c3,c4⟩:=box_stk hbx2
 have HW:Hid (Blk w2 113 g d∧TX w2 F p s (cR+1) q l m t n S G T∧Keeps F w w2):=⟨hblk,hx2,(Keeps.of_below F HB.out).trans hk2 (fun _ h=> .inl h)⟩
 obtain⟨L,hL⟩:∃L:Int,L=(k.first:Int)+(k.cnt:Int)-1:=⟨_,rfl⟩
 rw [←hL] at c3
 have HL:=Hid.mk hL
 clear h1 hblk hx2 hk2 hbx2 hL hg
 go_wp2
 go_loopw [6,7] (fun fv iv wr=>∃j:Nat,j≤k.cnt∧iv= .int .i64 ((k.first+j:Nat):Int)∧fv= .int .i64 (freeN d (k.first-k.zero) j:Int)∧wr=w2) (fun _ iv _=>k.first+k.cnt-(intOf iv).toNat)
 case atStart=>exact⟨0,Nat.zero_le _,by simp,rfl,rfl⟩
 case round=>
  obtain⟨j,hj,rfl,rfl,hwr⟩:=hrel
  subst hwr
  obtain⟨N,N1,hN,hN1,f1,f2,f3,f4⟩:=stkFacts hk hj
  rw [←hN]
  rw [←HL.out] at f1 f2
  have HN:=Hid.mk (And.intro hN hN1)
  clear hN hN1
  by_cases hlt:j<k.cnt
  ·have g1:=f1 hlt
   have hb8:k.first-k.zero+j<4096:=by have:=hk.hi;omega
   have h3:=ptaken_any (c:=512) HW.out.1 hlen hbyt (k.first-k.zero+j) hb8
   have hls:freeN d (k.first-k.zero) (j+1)=freeN d (k.first-k.zero) j+(if bitOf d (k.first-k.zero+j)=false then 1 else 0):=rfl
   have hf0:freeN d (k.first-k.zero) j≤4096:=by have:=freeN_le d (k.first-k.zero) j;omega
   obtain⟨b,hb⟩:∃b,b=k.first-k.zero+j:=⟨_,rfl⟩
   rw [←hb] at h3 f3 hls
   obtain⟨y,hy⟩:∃y,y=bitOf d b:=⟨_,rfl⟩
   rw [←hy] at h3 hls
   have h5:=addOne hf0
   have HLs:=Hid.mk hls
   clear f1 f2 hy hb hls hb8 hf0
   generalize freeN d (k.first-k.zero) j=fr at*
   cases y
   ·go_wp2_with fail
    refine h3.mono ?_
    rintro e w3 ⟨rfl,hw3⟩
    subst hw3
    clear h3
    go_wp2
    go_roundw
    case rel=>exact⟨j+1,by omega,by rw [f4,HN.out.2],by rw [h5,HLs.out];rfl,trivial⟩
    case measure=>
     rw [f4]
     exact stkMeas HN.out.1 HN.out.2 hlt
   ·go_wp2_with fail
    refine h3.mono ?_
    rintro e w3 ⟨rfl,hw3⟩
    subst hw3
    clear h3
    go_wp2
    go_roundw
    case rel=>exact⟨j+1,by omega,by rw [f4,HN.out.2],by rw [HLs.out];rfl,trivial⟩
    case measure=>
     rw [f4]
     exact stkMeas HN.out.1 HN.out.2 hlt
  ·have g2:=f2 hlt
   have hjc:j=k.cnt:=by omega
   rw [hjc]
   rw [←HR.out]
   clear hjc f1 f2
   go_wp2
   go_ret
   exact⟨rfl,HW.out.2⟩
end
end Go.Proofs.YtkiehemoiapkkaaGreat
end
section
namespace Go.Proofs.YtkiehemoiapkkaaGreat
open Go.RowKit Go.Maps
section
variable {w:World} {F:Nat→Prop} {p s cR q l m t n a:Nat} {S:DS} {G:SG} {T:TG}
set_option maxRecDepth 20000 in
set_option maxHeartbeats 8000000 in
theorem dropBlock_any (h:TX w F p s cR q l m t n S G T) (hp:PoolAt w F a t n) (x:Int):
  Calls Tryz.prog 71 #[.pointer (some ⟨a,0,none⟩), .int .i64 x] w fun e w'=>e= .returned (.int .i64 (T.pdrop G S (bSt G.y) x).1)∧TX w' F p s (cR+2) q l m t n S G ((T.pdrop G S (bSt G.y) x).2.caught G S (T.pdrop G S (bSt G.y) x).1)∧Keeps (OwT F t n) w w':=by
 obtain⟨hB1,hg1,hg2,hsz1⟩:=heap2 w (.cells #[.pointer (some ⟨a,0,none⟩)] 35) (.cells #[.int .i64 0] 39)
 obtain⟨w1,hw1⟩:∃w1,w1=(w.alloc (.cells #[.pointer (some ⟨a,0,none⟩)] 35)).alloc (.cells #[.int .i64 0] 39):=⟨_,rfl⟩
 rw [←hw1] at hB1 hg1 hg2 hsz1
 have hlt:=h.lt
 have hx1:=h.later hB1
 have hp1:=hp.later hB1
 have hblk:=blocks_any hx1 hp1
 have HT:Hid (∀w2,Below w1.drew.heap.size w1.drew w2→Calls Tryz.prog 115 #[.pointer (some ⟨a,0,none⟩),stkV (bSt G.y), .int .i64 x] w2 fun e w'=>Ran (T.pdrop G S (bSt G.y) x).1 (.tuple #[]) e∧TX w' F p s (cR+2) q l m t n S G (T.pdrop G S (bSt G.y) x).2∧Keeps (OwT F t n) w2 w'):=fun w2 hb=>pdrop_any (hx1.later hb) (hp1.later hb) (bSt G.y) (bSt_ok h.yk) x
 have c0:w1.drew.cell? ⟨w.heap.size,0,none⟩=some (.pointer (some ⟨a,0,none⟩)):=cell_of_block hg1 (j:=0) rfl
 have n1:¬OwT F t n w.heap.size:=fun hf=>by have:=hlt _ hf;omega
 have n2:¬OwT F t n (w.heap.size+1):=fun hf=>by have:=hlt _ hf;omega
 have HG:=Hid.mk (And.intro hg1 hg2)
 have HB:=Hid.mk hB1
 have HP:=Hid.mk hp1
 have HLo:=Hid.mk h.low
 have hpa:=hp.lt
 generalize T.pdrop G S (bSt G.y) x=R at*
 generalize stkV (bSt G.y)=V at*
 have ht2:w.heap.size+1≠t:=fun e=>n2 (.inr (.inl e))
 clear h hp hB1 hx1 hp1 hg1 hg2
 go_enter_defers Tryz.func71,Tryz.ntmps71
 go_wp2_with fail
 rw [←hw1]
 clear hw1
 refine wp_mixed (PnT [{target:= .fn (.func 114) #[.pointer (some ⟨w.heap.size,0,none⟩), .pointer (some ⟨w.heap.size+1,0,none⟩)],args:= #[]}] [(4, .pointer (some ⟨w.heap.size+1,0,none⟩))] (fun c w3=>c=gave R.1∧R.1≠0∧TX w3 F p s (cR+2) q l m t n S G R.2∧Keeps (OwT F t n) w w3∧PoolAt w3 F a t n∧w3.heap[w.heap.size]? =some (.cells #[.pointer (some ⟨a,0,none⟩)] 35 (0,0))∧w3.heap[w.heap.size+1]? =some (.cells #[.int .i64 0] 39 (0,0)))) ?_ ?_
 ·rintro c A w3 ⟨hd,hsl,rfl,hZ,hx3,hk3,hp3,g1,g2⟩
  have s3:=hsl (4, .pointer (some ⟨w.heap.size+1,0,none⟩)) (by simp)
  dsimp only at s3
  rw [Array.getD_eq_getD_getElem?] at s3
  have hca:R.2.caught G S R.1=(R.2.spoil G S R.1).2:=by unfold TG.caught;rw [if_neg hZ]
  have HCA:=Hid.mk hca
  clear hca
  go_wp2
  show Leaves Tryz.prog _ A.tmps _ A.defers _ w3
  rw [hd]
  refine leaves_cons (f:=114) (args:= #[.pointer (some ⟨w.heap.size,0,none⟩), .pointer (some ⟨w.heap.size+1,0,none⟩)]) (by simp) (by simp [go_sem]) ?_
  refine(dropBC_panic hx3 hp3 g1 g2 ht2 R.1).mono ?_
  rintro e u' w4 ⟨rfl,rfl,w5,hx5,hk5,hb5,hk6⟩
  have q2:w4.cell? ⟨w.heap.size+1,0,none⟩=some (.int .i64 R.1):=cell_of_block hb5 (j:=0) rfl
  simp [Leaves,settle,results,Tryz.results71,go_sem,s3,q2,HCA.out]
  exact⟨hx5.side HLo.out hk6 (fun k e=>by omega),(hk3.trans hk5 (fun _ e=> .inl (.inr (.inl e)))).trans hk6 (fun k e=> .inr (by omega))⟩
 refine wp_region_held_drew (S:=(fun w'=>w'.cell? ⟨w.heap.size,0,none⟩=some (.pointer (some ⟨a,0,none⟩)))) (by kernel_rfl) (c0) (fun hHeld=>?_)
 refine wpAnyH_take (i:=0) (oi:={dst:=some 6,op:=Op.load 35 (Operand.tmp 2),type:=35,pos:= "pool.go:36",after:= #[],guard:=none}) (v:= .pointer (some ⟨a,0,none⟩)) rfl (by kernel_rfl) (by kernel_rfl) (by kernel_rfl) (mixPut (d:=6) (by simp)) (Or.inl ⟨by rfl,?_⟩) (by assumption) ?_
 ·intro w hSw
  (try dsimp only at hSw)
  go_simp
 try simp only [Act.put,List.setIfInBounds_toArray,List.set_cons_zero,List.set_cons_succ]
 refine wpAnyH_take (i:=1) (oi:={dst:=some 7,op:=Op.load 35 (Operand.tmp 2),type:=35,pos:= "pool.go:36",after:= #[],guard:=none}) (v:= .pointer (some ⟨a,0,none⟩)) rfl (by kernel_rfl) (by kernel_rfl) (by kernel_rfl) (mixPut (d:=7) (by simp)) (Or.inl ⟨by rfl,?_⟩) (by assumption) ?_
 ·intro w hSw
  (try dsimp only at hSw)
  go_simp
 try simp only [Act.put,List.setIfInBounds_toArray,List.set_cons_zero,List.set_cons_succ]
 refine wpAnyH_take (i:=3) (oi:={dst:=some 9,op:=Op.move (Operand.tmp 1),type:=3,pos:= "pool.go:36",after:= #[],guard:=none}) (v:= .int .i64 x) rfl (by kernel_rfl) (by kernel_rfl) (by kernel_rfl) (mixPut (d:=9) (by simp)) (Or.inl ⟨by rfl,?_⟩) (by assumption) ?_
 ·intro w hSw
  (try dsimp only at hSw)
  go_simp
 try simp only [Act.put,List.setIfInBounds_toArray,List.set_cons_zero,List.set_cons_succ]
 refine wpAnyH_ready (rs:= [2]) (by kernel_rfl) (by simp) ?_
 refine AllReadyH.cons (o:={dst:=some 8,op:=Op.call {callee:=Callee.value (Operand.func 25),args:= #[Operand.tmp 7],argTypes:= #[35]},type:=61,pos:= "pool.go:36",after:= #[{on:=1,ground:=Ground.data}],guard:=none}) rfl (fun K hK=>?_) AllReadyH.nil
 go_simp
 refine hblk.mono ?_
 rintro e w2 ⟨rfl,hb2⟩
 have c0':w2.cell? ⟨w.heap.size,0,none⟩=some (.pointer (some ⟨a,0,none⟩)):=cell_of_block ((hb2.block _ (lt_there HG.out.1)).trans HG.out.1) (j:=0) rfl
 refine hK.out _ _ ?_ (fun hHeld=>?_)
 ·exact c0'
 clear hK K
 try simp only [Act.put,List.setIfInBounds_toArray,List.set_cons_zero,List.set_cons_succ]
 refine wpAnyH_ready (rs:= [4]) (by kernel_rfl) (by simp) ?_
 refine AllReadyH.cons (o:={dst:=some 10,op:=Op.call {callee:=Callee.value (Operand.func 115),args:= #[Operand.tmp 6,Operand.tmp 8,Operand.tmp 9],argTypes:= #[35,61,3]},type:=0,pos:= "pool.go:36",after:= #[{on:=0,ground:=Ground.data},{on:=2,ground:=Ground.data},{on:=3,ground:=Ground.data},{on:=2,ground:=Ground.chain}],guard:=none}) rfl (fun K hK=>?_) AllReadyH.nil
 go_simp
 refine(HT.out w2 hb2).mono ?_
 rintro e w3 ⟨htr,hx3,hk3⟩
 have hk3w:=(Keeps.of_below (OwT F t n) HB.out).trans ((Keeps.of_below (OwT F t n) hb2).trans hk3 (fun _ h=> .inl h)) (fun _ h=> .inl h)
 have g1:=(hk3.block _ (Nat.lt_of_lt_of_le (lt_there HG.out.1) hb2.size) n1).trans ((hb2.block _ (lt_there HG.out.1)).trans HG.out.1)
 have g2:=(hk3.block _ (Nat.lt_of_lt_of_le (lt_there HG.out.2) hb2.size) n2).trans ((hb2.block _ (lt_there HG.out.2)).trans HG.out.2)
 have hp3:=(HP.out.later hb2).keep hk3
 have HQ:Hid (TX w3 F p s (cR+2) q l m t n S G R.2∧Keeps (OwT F t n) w w3∧PoolAt w3 F a t n):=⟨hx3,hk3w,hp3⟩
 have HGG:=Hid.mk (And.intro g1 g2)
 unfold Ran at htr
 have c0'':w3.cell? ⟨w.heap.size,0,none⟩=some (.pointer (some ⟨a,0,none⟩)):=cell_of_block g1 (j:=0) rfl
 have d0:w3.cell? ⟨w.heap.size+1,0,none⟩=some (.int .i64 0):=cell_of_block g2 (j:=0) rfl
 have f0:=frozen_of_block g2 0
 clear hblk hb2 c0 c0' hx3 hk3 hk3w g1 g2 hp3
 by_cases hr1:R.1=0
 rotate_left
 ·rw [if_neg hr1] at htr
  subst htr
  exact⟨rfl,by simp,rfl,hr1,HQ.out.1,HQ.out.2.1,HQ.out.2.2,HGG.out.1,HGG.out.2⟩
 ·rw [if_pos hr1] at htr
  subst htr
  have HCA:Hid (R.1=0∧R.2.caught G S 0=R.2):=⟨hr1,by unfold TG.caught;rw [if_pos rfl]⟩
  clear hr1
  refine hK.out _ _ ?_ (fun hHeld=>?_)
  ·exact c0''
  clear hK K
  try simp only [Act.put,List.setIfInBounds_toArray,List.set_cons_zero,List.set_cons_succ]
  have pe:=putsE (w:=w3) (w':=w3) (x:=0) (.int .i64 0) rfl (Keeps.refl _ _) HGG.out.2
  refine wpAnyH_done (by kernel_rfl) ?_ _
  dsimp only [mixP]
  have HPE:=Hid.mk pe
  clear pe hHeld c0''
  go_wp2
  have pe:=HPE.out
  obtain⟨w4,hw4⟩:∃w4,w4=w3.setCell ⟨w.heap.size+1,0,none⟩ (.int .i64 0):=⟨_,rfl⟩
  rw [←hw4] at pe
  rw [←hw4]
  have HPe:=Hid.mk pe
  clear pe hw4 HPE d0 f0
  refine leaves_cons (f:=114) (args:= #[.pointer (some ⟨w.heap.size,0,none⟩), .pointer (some ⟨w.heap.size+1,0,none⟩)]) (by simp) (by simp [go_sem]) ?_
  have hp4:PoolAt w4 F a t n:=⟨(HPe.out.2.block a HQ.out.2.2.lt (by omega)).trans HQ.out.2.2.b,HQ.out.2.2.nf⟩
  have g4:=(HPe.out.2.block _ (lt_there HGG.out.1) (by omega)).trans HGG.out.1
  refine(dropBC_idle hp4 g4 HPe.out.1).mono ?_
  rintro e u' w5 ⟨rfl,rfl,hb5,hk5⟩
  have q2:w5.cell? ⟨w.heap.size+1,0,none⟩=some (.int .i64 0):=cell_of_block hb5 (j:=0) rfl
  simp [Leaves,settle,results,Tryz.results71,go_sem,q2,HCA.out.1,HCA.out.2]
  exact⟨(HQ.out.1.side HLo.out HPe.out.2 (fun k e=>by omega)).side HLo.out hk5 (fun k e=>by omega),(HQ.out.2.1.trans HPe.out.2 (fun k e=> .inr (by omega))).trans hk5 (fun k e=> .inr (by omega))⟩
set_option maxRecDepth 20000 in
set_option maxHeartbeats 8000000 in
theorem dropNode_any (h:TX w F p s cR q l m t n S G T) (hp:PoolAt w F a t n) (x:Int):
  Calls Tryz.prog 75 #[.pointer (some ⟨a,0,none⟩), .int .i64 x] w fun e w'=>e= .returned (.int .i64 (T.pdrop G S (nSt G.y) x).1)∧TX w' F p s (cR+2) q l m t n S G ((T.pdrop G S (nSt G.y) x).2.caught G S (T.pdrop G S (nSt G.y) x).1)∧Keeps (OwT F t n) w w':=by
 obtain⟨hB1,hg1,hg2,hsz1⟩:=heap2 w (.cells #[.pointer (some ⟨a,0,none⟩)] 35) (.cells #[.int .i64 0] 39)
 obtain⟨w1,hw1⟩:∃w1,w1=(w.alloc (.cells #[.pointer (some ⟨a,0,none⟩)] 35)).alloc (.cells #[.int .i64 0] 39):=⟨_,rfl⟩
 rw [←hw1] at hB1 hg1 hg2 hsz1
 have hlt:=h.lt
 have hx1:=h.later hB1
 have hp1:=hp.later hB1
 have hblk:=nodes_any hx1 hp1
 have HT:Hid (∀w2,Below w1.drew.heap.size w1.drew w2→Calls Tryz.prog 115 #[.pointer (some ⟨a,0,none⟩),stkV (nSt G.y), .int .i64 x] w2 fun e w'=>Ran (T.pdrop G S (nSt G.y) x).1 (.tuple #[]) e∧TX w' F p s (cR+2) q l m t n S G (T.pdrop G S (nSt G.y) x).2∧Keeps (OwT F t n) w2 w'):=fun w2 hb=>pdrop_any (hx1.later hb) (hp1.later hb) (nSt G.y) (nSt_ok h.yk) x
 have c0:w1.drew.cell? ⟨w.heap.size,0,none⟩=some (.pointer (some ⟨a,0,none⟩)):=cell_of_block hg1 (j:=0) rfl
 have n1:¬OwT F t n w.heap.size:=fun hf=>by have:=hlt _ hf;omega
 have n2:¬OwT F t n (w.heap.size+1):=fun hf=>by have:=hlt _ hf;omega
 have HG:=Hid.mk (And.intro hg1 hg2)
 have HB:=Hid.mk hB1
 have HP:=Hid.mk hp1
 have HLo:=Hid.mk h.low
 have hpa:=hp.lt
 generalize T.pdrop G S (nSt G.y) x=R at*
 generalize stkV (nSt G.y)=V at*
 have ht2:w.heap.size+1≠t:=fun e=>n2 (.inr (.inl e))
 clear h hp hB1 hx1 hp1 hg1 hg2
 go_enter_defers Tryz.func75,Tryz.ntmps75
 go_wp2_with fail
 rw [←hw1]
 clear hw1
 refine wp_mixed (PnT [{target:= .fn (.func 117) #[.pointer (some ⟨w.heap.size,0,none⟩), .pointer (some ⟨w.heap.size+1,0,none⟩)],args:= #[]}] [(4, .pointer (some ⟨w.heap.size+1,0,none⟩))] (fun c w3=>c=gave R.1∧R.1≠0∧TX w3 F p s (cR+2) q l m t n S G R.2∧Keeps (OwT F t n) w w3∧PoolAt w3 F a t n∧w3.heap[w.heap.size]? =some (.cells #[.pointer (some ⟨a,0,none⟩)] 35 (0,0))∧w3.heap[w.heap.size+1]? =some (.cells #[.int .i64 0] 39 (0,0)))) ?_ ?_
 ·rintro c A w3 ⟨hd,hsl,rfl,hZ,hx3,hk3,hp3,g1,g2⟩
  have s3:=hsl (4, .pointer (some ⟨w.heap.size+1,0,none⟩)) (by simp)
  dsimp only at s3
  rw [Array.getD_eq_getD_getElem?] at s3
  have hca:R.2.caught G S R.1=(R.2.spoil G S R.1).2:=by unfold TG.caught;rw [if_neg hZ]
  have HCA:=Hid.mk hca
  clear hca
  go_wp2
  show Leaves Tryz.prog _ A.tmps _ A.defers _ w3
  rw [hd]
  refine leaves_cons (f:=117) (args:= #[.pointer (some ⟨w.heap.size,0,none⟩), .pointer (some ⟨w.heap.size+1,0,none⟩)]) (by simp) (by simp [go_sem]) ?_
  refine(dropNC_panic hx3 hp3 g1 g2 ht2 R.1).mono ?_
  rintro e u' w4 ⟨rfl,rfl,w5,hx5,hk5,hb5,hk6⟩
  have q2:w4.cell? ⟨w.heap.size+1,0,none⟩=some (.int .i64 R.1):=cell_of_block hb5 (j:=0) rfl
  simp [Leaves,settle,results,Tryz.results75,go_sem,s3,q2,HCA.out]
  exact⟨hx5.side HLo.out hk6 (fun k e=>by omega),(hk3.trans hk5 (fun _ e=> .inl (.inr (.inl e)))).trans hk6 (fun k e=> .inr (by omega))⟩
 refine wp_region_held_drew (S:=(fun w'=>w'.cell? ⟨w.heap.size,0,none⟩=some (.pointer (some ⟨a,0,none⟩)))) (by kernel_rfl) (c0) (fun hHeld=>?_)
 refine wpAnyH_take (i:=0) (oi:={dst:=some 6,op:=Op.load 35 (Operand.tmp 2),type:=35,pos:= "pool.go:49",after:= #[],guard:=none}) (v:= .pointer (some ⟨a,0,none⟩)) rfl (by kernel_rfl) (by kernel_rfl) (by kernel_rfl) (mixPut (d:=6) (by simp)) (Or.inl ⟨by rfl,?_⟩) (by assumption) ?_
 ·intro w hSw
  (try dsimp only at hSw)
  go_simp
 try simp only [Act.put,List.setIfInBounds_toArray,List.set_cons_zero,List.set_cons_succ]
 refine wpAnyH_take (i:=1) (oi:={dst:=some 7,op:=Op.load 35 (Operand.tmp 2),type:=35,pos:= "pool.go:49",after:= #[],guard:=none}) (v:= .pointer (some ⟨a,0,none⟩)) rfl (by kernel_rfl) (by kernel_rfl) (by kernel_rfl) (mixPut (d:=7) (by simp)) (Or.inl ⟨by rfl,?_⟩) (by assumption) ?_
 ·intro w hSw
  (try dsimp only at hSw)
  go_simp
 try simp only [Act.put,List.setIfInBounds_toArray,List.set_cons_zero,List.set_cons_succ]
 refine wpAnyH_take (i:=3) (oi:={dst:=some 9,op:=Op.move (Operand.tmp 1),type:=3,pos:= "pool.go:49",after:= #[],guard:=none}) (v:= .int .i64 x) rfl (by kernel_rfl) (by kernel_rfl) (by kernel_rfl) (mixPut (d:=9) (by simp)) (Or.inl ⟨by rfl,?_⟩) (by assumption) ?_
 ·intro w hSw
  (try dsimp only at hSw)
  go_simp
 try simp only [Act.put,List.setIfInBounds_toArray,List.set_cons_zero,List.set_cons_succ]
 refine wpAnyH_ready (rs:= [2]) (by kernel_rfl) (by simp) ?_
 refine AllReadyH.cons (o:={dst:=some 8,op:=Op.call {callee:=Callee.value (Operand.func 26),args:= #[Operand.tmp 7],argTypes:= #[35]},type:=61,pos:= "pool.go:49",after:= #[{on:=1,ground:=Ground.data}],guard:=none}) rfl (fun K hK=>?_) AllReadyH.nil
 go_simp
 refine hblk.mono ?_
 rintro e w2 ⟨rfl,hb2⟩
 have c0':w2.cell? ⟨w.heap.size,0,none⟩=some (.pointer (some ⟨a,0,none⟩)):=cell_of_block ((hb2.block _ (lt_there HG.out.1)).trans HG.out.1) (j:=0) rfl
 refine hK.out _ _ ?_ (fun hHeld=>?_)
 ·exact c0'
 clear hK K
 try simp only [Act.put,List.setIfInBounds_toArray,List.set_cons_zero,List.set_cons_succ]
 refine wpAnyH_ready (rs:= [4]) (by kernel_rfl) (by simp) ?_
 refine AllReadyH.cons (o:={dst:=some 10,op:=Op.call {callee:=Callee.value (Operand.func 115),args:= #[Operand.tmp 6,Operand.tmp 8,Operand.tmp 9],argTypes:= #[35,61,3]},type:=0,pos:= "pool.go:49",after:= #[{on:=0,ground:=Ground.data},{on:=2,ground:=Ground.data},{on:=3,ground:=Ground.data},{on:=2,ground:=Ground.chain}],guard:=none}) rfl (fun K hK=>?_) AllReadyH.nil
 go_simp
 refine(HT.out w2 hb2).mono ?_
 rintro e w3 ⟨htr,hx3,hk3⟩
 have hk3w:=(Keeps.of_below (OwT F t n) HB.out).trans ((Keeps.of_below (OwT F t n) hb2).trans hk3 (fun _ h=> .inl h)) (fun _ h=> .inl h)
 have g1:=(hk3.block _ (Nat.lt_of_lt_of_le (lt_there HG.out.1) hb2.size) n1).trans ((hb2.block _ (lt_there HG.out.1)).trans HG.out.1)
 have g2:=(hk3.block _ (Nat.lt_of_lt_of_le (lt_there HG.out.2) hb2.size) n2).trans ((hb2.block _ (lt_there HG.out.2)).trans HG.out.2)
 have hp3:=(HP.out.later hb2).keep hk3
 have HQ:Hid (TX w3 F p s (cR+2) q l m t n S G R.2∧Keeps (OwT F t n) w w3∧PoolAt w3 F a t n):=⟨hx3,hk3w,hp3⟩
 have HGG:=Hid.mk (And.intro g1 g2)
 unfold Ran at htr
 have c0'':w3.cell? ⟨w.heap.size,0,none⟩=some (.pointer (some ⟨a,0,none⟩)):=cell_of_block g1 (j:=0) rfl
 have d0:w3.cell? ⟨w.heap.size+1,0,none⟩=some (.int .i64 0):=cell_of_block g2 (j:=0) rfl
 have f0:=frozen_of_block g2 0
 clear hblk hb2 c0 c0' hx3 hk3 hk3w g1 g2 hp3
 by_cases hr1:R.1=0
 rotate_left
 ·rw [if_neg hr1] at htr
  subst htr
  exact⟨rfl,by simp,rfl,hr1,HQ.out.1,HQ.out.2.1,HQ.out.2.2,HGG.out.1,HGG.out.2⟩
 ·rw [if_pos hr1] at htr
  subst htr
  have HCA:Hid (R.1=0∧R.2.caught G S 0=R.2):=⟨hr1,by unfold TG.caught;rw [if_pos rfl]⟩
  clear hr1
  refine hK.out _ _ ?_ (fun hHeld=>?_)
  ·exact c0''
  clear hK K
  try simp only [Act.put,List.setIfInBounds_toArray,List.set_cons_zero,List.set_cons_succ]
  have pe:=putsE (w:=w3) (w':=w3) (x:=0) (.int .i64 0) rfl (Keeps.refl _ _) HGG.out.2
  refine wpAnyH_done (by kernel_rfl) ?_ _
  dsimp only [mixP]
  have HPE:=Hid.mk pe
  clear pe hHeld c0''
  go_wp2
  have pe:=HPE.out
  obtain⟨w4,hw4⟩:∃w4,w4=w3.setCell ⟨w.heap.size+1,0,none⟩ (.int .i64 0):=⟨_,rfl⟩
  rw [←hw4] at pe
  rw [←hw4]
  have HPe:=Hid.mk pe
  clear pe hw4 HPE d0 f0
  refine leaves_cons (f:=117) (args:= #[.pointer (some ⟨w.heap.size,0,none⟩), .pointer (some ⟨w.heap.size+1,0,none⟩)]) (by simp) (by simp [go_sem]) ?_
  have hp4:PoolAt w4 F a t n:=⟨(HPe.out.2.block a HQ.out.2.2.lt (by omega)).trans HQ.out.2.2.b,HQ.out.2.2.nf⟩
  have g4:=(HPe.out.2.block _ (lt_there HGG.out.1) (by omega)).trans HGG.out.1
  refine(dropNC_idle hp4 g4 HPe.out.1).mono ?_
  rintro e u' w5 ⟨rfl,rfl,hb5,hk5⟩
  have q2:w5.cell? ⟨w.heap.size+1,0,none⟩=some (.int .i64 0):=cell_of_block hb5 (j:=0) rfl
  simp [Leaves,settle,results,Tryz.results75,go_sem,q2,HCA.out.1,HCA.out.2]
  exact⟨(HQ.out.1.side HLo.out HPe.out.2 (fun k e=>by omega)).side HLo.out hk5 (fun k e=>by omega),(HQ.out.2.1.trans HPe.out.2 (fun k e=> .inr (by omega))).trans hk5 (fun k e=> .inr (by omega))⟩
end
end Go.Proofs.YtkiehemoiapkkaaGreat
end
