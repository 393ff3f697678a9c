import Derived.Test.YtkiehemoiapkkaaGreatW01
import Derived.Test.YtkiehemoiapkkaaGreatW10
import Derived.Test.YtkiehemoiapkkaaGreatW12
import Derived.Test.YtkiehemoiapkkaaGreatW13
import Derived.Test.YtkiehemoiapkkaaGreatW16
import Derived.Test.YtkiehemoiapkkaaGreatW17
import Derived.Test.YtkiehemoiapkkaaGreatW18
import Derived.Test.YtkiehemoiapkkaaGreatW20
import Derived.Test.YtkiehemoiapkkaaGreatW21
import Derived.Test.YtkiehemoiapkkaaGreatW22
section
namespace Go.Proofs.YtkiehemoiapkkaaGreat
open Go.RowKit Go.Maps
set_option maxRecDepth 20000 in
set_option maxHeartbeats 8000000 in
theorem stOpen_ok {w:World} {F:Nat→Prop} {p s c:Nat} {S:DS} (h:B.DiskR w F p s S c) (hby:S.Byt) (hbig:S.puts.length+6000≤4000000000000) (hf:S.fuse≠0) (hsup:SupAt (S.now 0) s):
  Calls Tryz.prog 19 #[.pointer (some ⟨p,0,none⟩)] w fun e w'=>StOpened w F p s c S e w':=by
 obtain⟨w1,hw1⟩:∃w1,w1=(w.alloc (.cells #[.pointer none] 34)).alloc (.cells #[.int .i64 0] 39):=⟨_,rfl⟩
 have hB1:Below w.heap.size w w1:=by rw [hw1];exact cbelow_two w _ _
 have hsz1:w1.heap.size=w.heap.size+2:=by rw [hw1];simp
 have hg1:w1.heap[w.heap.size]? =some (.cells #[.pointer none] 34 (0,0)):=by rw [hw1];exact heap_alloc2_old _ _ _
 have hg2:w1.heap[w.heap.size+1]? =some (.cells #[.int .i64 0] 39 (0,0)):=by rw [hw1];exact heap_alloc2_new _ _ _
 have hlt:=h.lt
 have hly:=layoutOf_any (h.later hB1) hby (by omega)
 have hgeo:=stOpen_geo hsup
 clear h
 go_enter_defers Tryz.func19,Tryz.ntmps19
 go_wp2_with fail
 rw [←hw1]
 clear hw1
 refine hly.mono ?_
 rintro e w2 ⟨y,x,rfl,hlo,hd2,hk2⟩
 have hz2:=hk2.size
 have hx0:x=0∧y=lyOf (S.now 0):=by
  rcases hlo with ⟨h1,_⟩|⟨_,_,h2,h3⟩|⟨_,h1,_⟩
  ·exact absurd h1 hf
  ·exact⟨h3,h2⟩
  ·exact absurd hsup h1
 obtain⟨rfl,hyy⟩:=hx0
 rw [←hyy] at hgeo
 have HY:=Hid.mk hyy
 have hgg1:=(hk2.block w.heap.size (by omega) (fun hF=>by have:=hlt _ hF;omega)).trans hg1
 have hgg2:=(hk2.block (w.heap.size+1) (by omega) (fun hF=>by have:=hlt _ hF;omega)).trans hg2
 have HK:Hid (B.DiskR w2 F p s S (c+1)∧Keeps F w w2):=⟨hd2,(Keeps.of_below F hB1).trans hk2 (fun _ h=> .inl h)⟩
 have d0:=cell_of_block hgg2 (j:=0) rfl
 have e0:=frozen_of_block hgg2 0
 have hl2:w.heap.size+1<w2.heap.size:=by omega
 obtain⟨o1,o2,o3,o4,o5,o6⟩:=obox hlt hl2 hgg1 hgg2 HK.out.1 HK.out.2 0 (.cells #[.int .i64 (y.log:Int), .int .i64 (y.home:Int), .int .i64 (y.blocks:Int), .int .i64 (y.nodes:Int), .int .i64 (y.data:Int)] 87)
 clear hly hlo hd2 hk2 hyy
 dsimp only [lyV]
 go_upto_region 3 with fail
 generalize (w2.setCell ⟨w.heap.size+1,0,none⟩ (.int .i64 0)).alloc (.cells #[.int .i64 (y.log:Int), .int .i64 (y.home:Int), .int .i64 (y.blocks:Int), .int .i64 (y.nodes:Int), .int .i64 (y.data:Int)] 87)=w3 at*
 have HW:=Hid.mk (And.intro o1 (And.intro o2 (And.intro o3 (And.intro o4 o5))))
 have c2:=cell_of_block o2 (j:=0) (u:= .int .i64 0) rfl
 have l0:=cell_of_block o3 (j:=0) rfl
 have hop:=B.Open_any o4 hby 1 (y.log:Int) (by omega)
 clear o1 o2 o3 o4 o5 d0 e0 hgg1 hgg2 HK hg1 hg2 hB1
 go_wp2_with fail
 refine hop.mono ?_
 rintro e w4 ⟨hopd,hd4,hk4⟩
 clear hop c2 l0
 have hz4:=hk4.size
 have hb1:=(hk4.block w.heap.size (by omega) (fun hF=>by have:=hlt _ hF;omega)).trans HW.out.1
 have hb2:=(hk4.block (w.heap.size+1) (by omega) (fun hF=>by have:=hlt _ hF;omega)).trans HW.out.2.1
 have hb3:=(hk4.block w2.heap.size (by omega) (fun hF=>by have:=hlt _ hF;omega)).trans HW.out.2.2.1
 have hkw4:=HW.out.2.2.2.2.trans hk4 (fun _ h=> .inl h)
 have hrd:=oRd_le S s y.log
 unfold Opened at hopd
 by_cases ke:(lopen S s 1 (y.log:Int)).1=0
 ·rw [if_neg (fun h=>h ke)] at hopd
  obtain⟨l,v,rs,hd,rfl,hll,htold⟩:=hopd
  obtain⟨o1,o2,o3,o4⟩:=oerr 0 (fun k hF=> .inl (hlt k hF)) hb1 hb2 hd4
  have c2:=cell_of_block hb2 (j:=0) (u:= .int .i64 0) rfl
  have f2:=frozen_of_block hb2 0
  have hll4:=htold.p.lt
  have hlb5:=(o4.block w2.heap.size (by omega) (by omega)).trans hb3
  have HT:=Hid.mk htold
  have HKE:=Hid.mk ke
  clear hk4 hb1 hb2 hb3 hd4 HW htold ke
  go_upto_region 6 with fail
  generalize hw5:w4.setCell ⟨w.heap.size+1,0,none⟩ (.int .i64 0)=w5 at*
  have hz5:w5.heap.size=w4.heap.size:=by rw [←hw5,size_setCell]
  clear c2 f2 hw5
  have c1:=cell_of_block o1 (j:=0) rfl
  have f1:=frozen_of_block o1 0
  have c2:=cell_of_block o2 (j:=0) (u:= .int .i64 0) rfl
  have l0:=cell_of_block hlb5 (j:=0) rfl
  have l1:=cell_of_block hlb5 (j:=1) rfl
  have l2:=cell_of_block hlb5 (j:=2) rfl
  have l3:=cell_of_block hlb5 (j:=3) rfl
  have l4:=cell_of_block hlb5 (j:=4) rfl
  have hlw5:w.heap.size<w5.heap.size:=by omega
  have HX:=Hid.mk (And.intro o1 (And.intro o2 (And.intro o3 o4)))
  have HZ5:=Hid.mk hz5
  have hbN:=cbelow_two w5 (.map #[] 0) (.cells (stC p l w5.heap.size y false) 96)
  have c1N:=cell_of_block ((hbN.block _ (lt_there o1)).trans o1) (j:=0) (u:= .pointer none) rfl
  have f1N:=frozen_of_block ((hbN.block _ (lt_there o1)).trans o1) 0
  clear o1 o2 o3 hlb5 hz5 hbN
  have hmm:= @run_makeMap Tryz.prog
  go_upto_region 9 with fail
  obtain⟨w6,hw6⟩:∃w6,w6=((w5.setCell ⟨w.heap.size,0,none⟩ (.pointer (some ⟨w5.heap.size+1,0,none⟩))).alloc (.map #[] 0)).alloc (.cells (stC p l w5.heap.size y false) 96):=⟨_,rfl⟩
  rw [←hw6]
  obtain⟨r1,r2,r3,r4,r5,r6,r7⟩:=omade (l:=l) (y:=y) hlt HX.out.1 HX.out.2.1 HX.out.2.2.1 hw6
  have ht6:=(HT.out.keep HX.out.2.2.2 (fun k e=>by omega) (by omega)).keep r6 (fun k e=>by omega) (by omega)
  have hta:TellsAt S 1 y.log rs hd:=⟨ht6.t,ht6.x⟩
  obtain⟨hlz1,hlz2,hlz3,hlz4⟩:=lopen_zero (f:=1) HKE.out
  obtain⟨hn1,hn2,hn3,hn4⟩:=hta.small hby (by omega)
  have hS1:(lopen S s 1 (y.log:Int)).2.puts= []:=by
   have:=HKE.out
   rw [show lopen S s 1 (y.log:Int)=S.take.fl s from hlz4] at this⊢
   exact fl_zero this
  have hbS1:(lopen S s 1 (y.log:Int)).2.Byt:=by
   rw [show lopen S s 1 (y.log:Int)=S.take.fl s from hlz4]
   exact hby.take.fl s
  obtain⟨S1,hS1e⟩:∃S1,S1=(lopen S s 1 (y.log:Int)).2:=⟨_,rfl⟩
  rw [←hS1e] at r5 hS1 hbS1
  have hkq:¬F (w5.heap.size+1):=fun hF=>by have:=hlt _ hF;omega
  have hkm:¬F w5.heap.size:=fun hF=>by have:=hlt _ hF;omega
  have hre:=redo_any r5 r3 r4 hkq hkm hgeo.1 ht6.r.recs hn2 (by omega) (by rw [hS1];simp)
  have HM:=Hid.mk (And.intro r1 (And.intro r2 (And.intro r3 (And.intro r5 (And.intro ht6 (And.intro hta (And.intro hS1 (And.intro hbS1 (And.intro hS1e (And.intro hn2 (And.intro r6 (And.intro hlz2 hlz3))))))))))))
  have cq1:=cell_of_block r1 (j:=0) rfl
  clear r1 r2 r3 r4 r5 ht6 hta hS1 hbS1 hS1e hn1 hn2 hn3 hn4 hlz1 hlz2 hlz3 hlz4 hw6 HT HX c1 c2 f1 c1N f1N l0 l1 l2 l3 l4 hmm
  have hz6:=r7
  clear r7 r6
  go_wp2_with fail
  refine hre.mono ?_
  rintro e w7 hpost
  clear hre cq1
  have hkw6:=(hkw4.trans o4 (fun k e=> .inr (by omega))).trans HM.out.2.2.2.2.2.2.2.2.2.2.1 (fun k e=> .inr (by omega))
  have hz5:=HZ5.out
  clear hkw4 o4
  rcases hpost with ⟨hn,rfl,hd7,hk7⟩|⟨ov,hov,rfl,hd7,hk7,hch7⟩
  ·have hz7:=hk7.size
   have g1:=(hk7.block w.heap.size (by omega) (by omega)).trans HM.out.1
   have g2:=(hk7.block (w.heap.size+1) (by omega) (by omega)).trans HM.out.2.1
   obtain⟨p1,p2,p3,p4⟩:=oset (w:=w) (v:= .pointer none) (x:=6) (fun k hF=> .inl (hlt k hF)) g1 g2 hd7
   have HG:=Hid.mk (And.intro g1 g2)
   have HO:Hid (SOut S s 6 S1):=by
    unfold SOut
    rw [←HY.out]
    exact .inr ⟨hsup,hf, .inr ⟨HKE.out,rs,hd,HM.out.2.2.2.2.2.1, .inl ⟨hn,rfl,HM.out.2.2.2.2.2.2.2.2.1⟩⟩⟩
   have HP:=Hid.mk (And.intro p1 (And.intro p2 (And.intro p3 ((hkw6.trans hk7 (fun k e=> .inr (by omega))).trans p4 (fun k e=> .inr (by omega)):Keeps F w _))))
   clear p1 p2 p3 p4 hd7 hk7 g1 g2 hn hkw6
   go_wp2
   refine leaves_cons (f:=51) (args:= #[.pointer (some ⟨w.heap.size,0,none⟩), .pointer (some ⟨w.heap.size+1,0,none⟩)]) (by simp) (by simp [go_sem]) ?_
   refine(ocatch_panic w.heap.size (w.heap.size+1) _ _ _ HG.out.1 HG.out.2 (by omega)).mono ?_
   rintro e u' w'' ⟨rfl,rfl,hw''⟩
   rw [←hw''] at HP
   have q1:=cell_of_block HP.out.1 (j:=0) (u:= .pointer none) rfl
   have q2:=cell_of_block HP.out.2.1 (j:=0) (u:= .int .i64 6) rfl
   clear hw''
   simp [Leaves,settle,results,Tryz.results19,go_sem,q1,q2]
   exact⟨6,S1,_,by have:=HY.out;rw [←this];omega,HO.out,HP.out.2.2.2, .inl ⟨by decide,rfl,HP.out.2.2.1.more⟩⟩
  ·obtain⟨R,hR⟩:∃R,R=sredo S1 s y ov rs:=⟨_,rfl⟩
   rw [←hR] at hd7 hch7
   rw [←hR]
   have hz7:=hk7.size
   have g1:=(hk7.block w.heap.size (by omega) (fun e=>by rcases e with e|e;omega;have:=hlt _ e;omega)).trans HM.out.1
   have g2:=(hk7.block (w.heap.size+1) (by omega) (fun e=>by rcases e with e|e;omega;have:=hlt _ e;omega)).trans HM.out.2.1
   have c1:=cell_of_block g1 (j:=0) rfl
   have f1:=frozen_of_block g1 0
   have c2:=cell_of_block g2 (j:=0) (u:= .int .i64 0) rfl
   have f2:=frozen_of_block g2 0
   have hltF:∀k,more F w6 w7 k→k<w.heap.size∨w.heap.size+2≤k:=fun k h=>by
    rcases h with h|h
    ·exact .inl (hlt k h)
    ·exact .inr (by omega)
   have hkw7:=hkw6.trans hk7 (fun k e=>by rcases e with e|e;exact .inr (by omega);exact .inl e)
   by_cases z0:R.1=0
   ·have dz:(R.1 == 0)=true:=by rw [z0];rfl
    have dz2:(R.1 != 0)=false:=by simp [z0]
    obtain⟨L,hL⟩:∃L,L=lgOf S 1 y.log hd:=⟨_,rfl⟩
    have hlp6:LogP w6 l p L:=by rw [hL];exact HM.out.2.2.2.2.1.p
    have hlok:L.Ok s:=by rw [hL];exact lgOf_ok HM.out.2.2.2.2.2.1 hby HM.out.2.2.2.2.2.2.2.2.2.2.2.1 HM.out.2.2.2.2.2.2.2.2.2.2.2.2 hgeo.2.1 hgeo.2.2.1 hgeo.2.2.2.1
    have hlm:l≠w5.heap.size:=by omega
    have hlF:¬F l:=fun e=>by have:=hlt _ e;omega
    have hlF7:¬more F w6 w7 l:=fun e=>by
     rcases e with e|e
     ·exact hlF e
     ·omega
    have hlp7:=hlp6.keep hk7 (fun e=>by rcases e with e|e;exact hlm e;exact hlF e)
    have hst7:=HM.out.2.2.1.keep hk7 (fun e=>by rcases e with e|e;omega;exact hkq e)
    have hRb:R.2.Byt:=by rw [hR];exact sredo_byt HM.out.2.2.2.2.2.2.2.1 (rdAll_bytes hov (fun x hx=>by cases hx) (fun r hr=>(HM.out.2.2.2.2.2.2.2.2.2.1 r hr).1))
    have hRp:R.2.puts.length≤0:=by
     have h1:=sredo_puts (S:=S1) (s:=s) (y:=y) (ov:=ov) (rs:=rs) (by rw [←hR];exact z0)
     rw [←hR,HM.out.2.2.2.2.2.2.1] at h1
     exact h1
    have hsta:=B.Start_any hd7 hlp7 hlok hlF7 hRb (by omega)
    obtain⟨T,hT⟩:∃T,T=L.start R.2 s:=⟨_,rfl⟩
    rw [←hT] at hsta
    have HO:Hid (SOut S s T.1 T.2.1):=by
     unfold SOut
     rw [←HY.out]
     exact .inr ⟨hsup,hf, .inr ⟨HKE.out,rs,hd,HM.out.2.2.2.2.2.1, .inr ⟨ov,hov, .inr ⟨by rw [←HM.out.2.2.2.2.2.2.2.2.1,←hR];exact z0,by rw [←HM.out.2.2.2.2.2.2.2.2.1,←hR,←hL,←hT],by rw [←HM.out.2.2.2.2.2.2.2.2.1,←hR,←hL,←hT]⟩⟩⟩⟩
    have HSL:Hid (SLog S s T.2.2):=by
     unfold SLog
     rw [←HY.out]
     exact⟨rs,hd,ov,HM.out.2.2.2.2.2.1,hov,by rw [←HM.out.2.2.2.2.2.2.2.2.1,←hR,←hL,←hT]⟩
    have hgood:T.1=0→T.2.2.Ok s∧T.2.2.begun=true:=by rw [hT];exact start_good hlok
    have HQ:=Hid.mk (And.intro g1 (And.intro g2 (And.intro hst7 (And.intro (hch7 z0) (And.intro hkw7 hgood)))))
    clear hd7 hk7 g1 g2 hkw6 hkw7 hR hch7 z0 hL hlp6 hlok hlp7 hst7 hRb hRp hT hgood hov c1 c2 f1 f2 hz5
    generalize R.1=z at*
    go_wp2_with fail
    refine hsta.mono ?_
    rintro e w8 ⟨rfl,hd8,hlp8,hk8⟩
    clear hsta
    have hz5:=HZ5.out
    have hz8:=hk8.size
    have g1:=(hk8.block w.heap.size (by omega) (fun e=>by rcases e with e|e;rcases hltF _ e with e|e <;> omega;omega)).trans HQ.out.1
    have g2:=(hk8.block (w.heap.size+1) (by omega) (fun e=>by rcases e with e|e;rcases hltF _ e with e|e <;> omega;omega)).trans HQ.out.2.1
    have c1:=cell_of_block g1 (j:=0) (u:= .pointer (some ⟨w5.heap.size+1,0,none⟩)) rfl
    have f1:=frozen_of_block g1 0
    have c2:=cell_of_block g2 (j:=0) (u:= .int .i64 0) rfl
    have f2:=frozen_of_block g2 0
    have hltF8:∀k,more (more F w6 w7) w7 w8 k→k<w.heap.size∨w.heap.size+2≤k:=fun k h=>by
     rcases h with h|h
     ·exact hltF k h
     ·exact .inr (by omega)
    have hkw8:=HQ.out.2.2.2.2.1.trans hk8 (fun k e=>by
     rcases e with (e|e)|e
     ·exact .inl e
     ·exact .inr (by omega)
     ·exact .inr (by omega))
    have hmw:∀(w9:World),w8.heap.size≤w9.heap.size→∀k,more (more F w6 w7) w7 w8 k→more F w w9 k:=fun w9 hz k h=>by
     rcases h with (h|h)|h
     ·exact .inl h
     ·exact .inr (by omega)
     ·exact .inr (by omega)
    by_cases t0:T.1=0
    ·have dt:(T.1 == 0)=true:=by rw [t0];rfl
     have dt2:(T.1 != 0)=false:=by simp [t0]
     obtain⟨p1,p2,p3,p4⟩:=oset (w:=w) (v:= .pointer (some ⟨w5.heap.size+1,0,none⟩)) (x:=0) hltF8 g1 g2 hd8
     have hq8:¬more (more F w6 w7) w7 w8 (w5.heap.size+1):=fun e=>by
      rcases e with (e|e)|e
      ·exact hkq e
      ·omega
      ·omega
     have hm8:¬more (more F w6 w7) w7 w8 w5.heap.size:=fun e=>by
      rcases e with (e|e)|e
      ·exact hkm e
      ·omega
      ·omega
     have hl8:¬more (more F w6 w7) w7 w8 l:=fun e=>by
      rcases e with (e|e)|e
      ·exact hlF e
      ·omega
      ·omega
     have hst8:=(HQ.out.2.2.1.keep hk8 (fun e=>by rcases e with e|e;exact hq8 (.inl e);omega)).keep p4 (by omega)
     have hch8:=(HQ.out.2.2.2.1.keep hk8 (fun e=>by rcases e with e|e;exact hm8 (.inl e);omega)).keep p4 (by omega)
     have hlp9:=hlp8.keep p4 (by omega)
     have hgd:=HQ.out.2.2.2.2.2 t0
     have hSt:StW ((w8.setCell ⟨w.heap.size,0,none⟩ (.pointer (some ⟨w5.heap.size+1,0,none⟩))).setCell ⟨w.heap.size+1,0,none⟩ (.int .i64 0)) (more (more F w6 w7) w7 w8) p s (c+1+B.oRd S s 1 (y.log:Int)+2) (w5.heap.size+1) l w5.heap.size T.2.1 ⟨y,T.2.2, [],false⟩:=
        ⟨p3,hst8,hlp9,hch8,hq8,hl8,hm8,by omega,by omega,hlm,hgd.1,hgd.2,hgeo.1,(fun x hx=>by cases hx)⟩
     have HP:=Hid.mk (And.intro p1 (And.intro p2 (And.intro hSt (And.intro (hkw8.trans p4 (fun k e=> .inr (by omega)):Keeps F w _) (hmw _ p4.size)))))
     have HT0:=Hid.mk t0
     have HW5:=Hid.mk (And.intro (by omega:w.heap.size≤w5.heap.size+1) (And.intro (by omega:w.heap.size≤l) (by omega:w.heap.size≤w5.heap.size)))
     clear p1 p2 p3 p4 hd8 hlp8 hk8 g1 g2 hkw8 hmw hst8 hch8 hlp9 hgd hSt HQ t0 hz5
     go_wp2
     generalize (w8.setCell ⟨w.heap.size,0,none⟩ (.pointer (some ⟨w5.heap.size+1,0,none⟩))).setCell ⟨w.heap.size+1,0,none⟩ (.int .i64 0)=w9 at*
     have q1:=cell_of_block HP.out.1 (j:=0) (u:= .pointer (some ⟨w5.heap.size+1,0,none⟩)) rfl
     have q2:=cell_of_block HP.out.2.1 (j:=0) (u:= .int .i64 0) rfl
     refine leaves_cons (f:=51) (args:= #[.pointer (some ⟨w.heap.size,0,none⟩), .pointer (some ⟨w.heap.size+1,0,none⟩)]) (by simp) (by simp [go_sem]) ?_
     refine(ocatch_idle _ _ _).mono ?_
     rintro e u' w'' ⟨rfl,rfl,rfl⟩
     simp [Leaves,settle,results,Tryz.results19,go_sem,q1,q2]
     have hst:=HP.out.2.2.1
     rw [HY.out] at hst
     have ho:=HO.out
     rw [HT0.out] at ho
     exact⟨0,T.2.1,_,by have:=HY.out;rw [←this];omega,ho,HP.out.2.2.2.1, .inr ⟨rfl,w5.heap.size+1,l,w5.heap.size,T.2.2,_,HSL.out,rfl,HP.out.2.2.2.2,HW5.out.1,HW5.out.2.1,HW5.out.2.2,hst⟩⟩
    ·have dt:(T.1 == 0)=false:=by simpa using t0
     have dt2:(T.1 != 0)=true:=by simp [t0]
     obtain⟨p1,p2,p3,p4⟩:=oset (w:=w) (v:= .pointer none) (x:=T.1) hltF8 g1 g2 hd8
     have hlt9:∀k,more F w ((w8.setCell ⟨w.heap.size,0,none⟩ (.pointer none)).setCell ⟨w.heap.size+1,0,none⟩ (.int .i64 T.1)) k→k<((w8.setCell ⟨w.heap.size,0,none⟩ (.pointer none)).setCell ⟨w.heap.size+1,0,none⟩ (.int .i64 T.1)).heap.size:=fun k h=>by
      have hzz:=p4.size
      rcases h with h|h
      ·have:=hlt k h;omega
      ·omega
     have HP:=Hid.mk (And.intro p1 (And.intro p2 (And.intro (p3.mono (hmw _ p4.size) hlt9) (hkw8.trans p4 (fun k e=> .inr (by omega)):Keeps F w _))))
     have HT0:=Hid.mk t0
     clear p1 p2 p3 p4 hd8 hlp8 hk8 g1 g2 hkw8 hmw hlt9 HQ t0
     generalize T.1=t at*
     go_wp2
     generalize (w8.setCell ⟨w.heap.size,0,none⟩ (.pointer none)).setCell ⟨w.heap.size+1,0,none⟩ (.int .i64 t)=w9 at*
     have q1:=cell_of_block HP.out.1 (j:=0) (u:= .pointer none) rfl
     have q2:=cell_of_block HP.out.2.1 (j:=0) (u:= .int .i64 t) rfl
     refine leaves_cons (f:=51) (args:= #[.pointer (some ⟨w.heap.size,0,none⟩), .pointer (some ⟨w.heap.size+1,0,none⟩)]) (by simp) (by simp [go_sem]) ?_
     refine(ocatch_idle _ _ _).mono ?_
     rintro e u' w'' ⟨rfl,rfl,rfl⟩
     simp [Leaves,settle,results,Tryz.results19,go_sem,q1,q2]
     exact⟨t,T.2.1,_,by have:=HY.out;rw [←this];omega,HO.out,HP.out.2.2.2, .inl ⟨HT0.out,rfl,HP.out.2.2.1⟩⟩
   ·have dz:(R.1 == 0)=false:=by simpa using z0
    have dz2:(R.1 != 0)=true:=by simp [z0]
    obtain⟨p1,p2,p3,p4⟩:=oset (w:=w) (v:= .pointer none) (x:=R.1) hltF g1 g2 hd7
    have HO:Hid (SOut S s R.1 R.2):=by
     unfold SOut
     rw [←HY.out]
     exact .inr ⟨hsup,hf, .inr ⟨HKE.out,rs,hd,HM.out.2.2.2.2.2.1, .inr ⟨ov,hov, .inl ⟨by rw [hR,HM.out.2.2.2.2.2.2.2.2.1],z0,by rw [hR,HM.out.2.2.2.2.2.2.2.2.1]⟩⟩⟩⟩
    have hm2:B.DiskR ((w7.setCell ⟨w.heap.size,0,none⟩ (.pointer none)).setCell ⟨w.heap.size+1,0,none⟩ (.int .i64 R.1)) (more F w ((w7.setCell ⟨w.heap.size,0,none⟩ (.pointer none)).setCell ⟨w.heap.size+1,0,none⟩ (.int .i64 R.1))) p s R.2 (c+1+B.oRd S s 1 (y.log:Int)):=by
     have hzz:=p4.size
     refine p3.mono (fun k h=>?_) (fun k h=>?_)
     ·rcases h with h|h
      ·exact .inl h
      ·exact .inr (by omega)
     ·rcases h with h|h
      ·have:=hlt k h;omega
      ·omega
    have HP:=Hid.mk (And.intro p1 (And.intro p2 (And.intro hm2 (hkw7.trans p4 (fun k e=> .inr (by omega)):Keeps F w _))))
    have HZ0:=Hid.mk z0
    clear p1 p2 p3 p4 hd7 hk7 g1 g2 hkw6 hkw7 hm2 hR hch7 z0
    generalize R.1=z at*
    go_wp2
    generalize (w7.setCell ⟨w.heap.size,0,none⟩ (.pointer none)).setCell ⟨w.heap.size+1,0,none⟩ (.int .i64 z)=w8 at*
    have q1:=cell_of_block HP.out.1 (j:=0) (u:= .pointer none) rfl
    have q2:=cell_of_block HP.out.2.1 (j:=0) (u:= .int .i64 z) rfl
    refine leaves_cons (f:=51) (args:= #[.pointer (some ⟨w.heap.size,0,none⟩), .pointer (some ⟨w.heap.size+1,0,none⟩)]) (by simp) (by simp [go_sem]) ?_
    refine(ocatch_idle _ _ _).mono ?_
    rintro e u' w'' ⟨rfl,rfl,rfl⟩
    simp [Leaves,settle,results,Tryz.results19,go_sem,q1,q2]
    exact⟨z,R.2,_,by have:=HY.out;rw [←this];omega,HO.out,HP.out.2.2.2, .inl ⟨HZ0.out,rfl,HP.out.2.2.1⟩⟩
 ·rw [if_pos ke] at hopd
  subst hopd
  have HO:Hid (SOut S s (lopen S s 1 (y.log:Int)).1 (lopen S s 1 (y.log:Int)).2):= .inr ⟨hsup,hf, .inl ⟨by rw [←HY.out],ke,by rw [←HY.out]⟩⟩
  obtain⟨S',hS'⟩:∃S',S'=(lopen S s 1 (y.log:Int)).2:=⟨_,rfl⟩
  rw [←hS'] at HO hd4
  obtain⟨x,hx⟩:∃x,x=(lopen S s 1 (y.log:Int)).1:=⟨_,rfl⟩
  rw [←hx] at HO ke
  rw [←hx]
  have dx2:(x != 0)=true:=by simp [ke]
  obtain⟨o1,o2,o3,o4⟩:=oerr x (fun k hF=> .inl (hlt k hF)) hb1 hb2 hd4
  have c2:=cell_of_block hb2 (j:=0) (u:= .int .i64 0) rfl
  have f2:=frozen_of_block hb2 0
  clear hx hS' hk4 hb1 hb2 hb3 hd4 HW
  go_upto_region 6 with fail
  generalize w4.setCell ⟨w.heap.size+1,0,none⟩ (.int .i64 x)=w5 at*
  clear c2 f2
  have c1:=cell_of_block o1 (j:=0) rfl
  have f1:=frozen_of_block o1 0
  have c2:=cell_of_block o2 (j:=0) (u:= .int .i64 x) rfl
  have f2:=frozen_of_block o2 0
  obtain⟨p1,p2,p3,p4⟩:=oset (w:=w) (v:= .pointer none) (x:=x) (fun k hF=> .inl (hlt k hF)) o1 o2 o3
  clear o1 o2 o3
  go_upto_region 7 with fail
  go_region
  have hkw:=hkw4.trans o4 (fun k e=> .inr (by omega))
  generalize (w5.setCell ⟨w.heap.size,0,none⟩ (.pointer none)).setCell ⟨w.heap.size+1,0,none⟩ (.int .i64 x)=w6 at*
  have hdw:Below w6.heap.size w6 w6.drew:=below_drew (Below.refl _ _)
  have HF:Hid (B.DiskR w6.drew F p s S' (c+1+B.oRd S s 1 (y.log:Int))∧Keeps F w w6.drew):=⟨p3.later hdw,(hkw.trans p4 (fun k e=> .inr (by omega))).trans (Keeps.of_below (fun _=>False) hdw) (fun _ h=>h.elim)⟩
  have q1:=cell_of_block ((hdw.block _ (lt_there p1)).trans p1) (j:=0) (u:= .pointer none) rfl
  have q2:=cell_of_block ((hdw.block _ (lt_there p2)).trans p2) (j:=0) (u:= .int .i64 x) rfl
  clear p1 p2 p3 p4 hdw c1 c2 f1 f2 o4 hkw hkw4
  generalize w6.drew=w7 at*
  go_wp2
  refine leaves_cons (f:=51) (args:= #[.pointer (some ⟨w.heap.size,0,none⟩), .pointer (some ⟨w.heap.size+1,0,none⟩)]) (by simp) (by simp [go_sem]) ?_
  refine(ocatch_idle _ _ _).mono ?_
  rintro e u' w'' ⟨rfl,rfl,rfl⟩
  simp [Leaves,settle,results,Tryz.results19,go_sem,q1,q2]
  exact⟨x,S',_,by have:=HY.out;rw [←this];omega,HO.out,HF.out.2, .inl ⟨ke,rfl,HF.out.1.more⟩⟩
end Go.Proofs.YtkiehemoiapkkaaGreat
end
section
namespace Go.Proofs.YtkiehemoiapkkaaGreat
open Go.RowKit
def LG.Fit (L:LG) (S:DS):Prop:=
   (L.begun=true→S.puts.length≤L.head-L.tail∧S.num L.f≤L.ep*4294967296+L.tail)∧(L.begun=false→S.puts.length=0∧S.num L.f<(L.top+1)*4294967296)
theorem wrap_life {x:Int} {t:Nat} (h0:0≤x) (h1:x≤t) (ht:t≤1000000000000000000):wrap64 (x+1)=x+1:=by
 unfold wrap64
 omega
section
variable {S S':DS} {s t i:Nat} {ls:List LG} {L L':LG}
def LG.opened (S:DS) (f n hd:Nat):LG:={LG.new S f n with ep:=(oNew S f).1,tail:=(oNew S f).2.1,head:=hd,top:=oTop S f n}
end
end Go.Proofs.YtkiehemoiapkkaaGreat
end
section
namespace Go.Proofs.YtkiehemoiapkkaaGreat
open Go.RowKit
namespace V
structure Inv (S:DS) (s:Nat) (ls:List LG) (t:Nat):Prop where
 ok:S.Ok s
 byt:S.Byt
 p6:S.puts.length≤6000
 p2:S.fuse≠0→S.puts.length≤256
 l0:0≤S.life
 lt:S.life≤t
 ol:∀L∈ls,L.Ok s∧L.life≤S.life
 li:(ls.map LG.life).Pairwise (·< ·)
 al:∀L∈ls,L.life=S.life→S.fuse≠0→L.Fit S
theorem wrap_life {x:Int} {t:Nat} (h0:0≤x) (h1:x≤t) (ht:t≤1000000000000000000):wrap64 (x+1)=x+1:=by
 unfold wrap64
 omega
section
variable {S S':DS} {s t i:Nat} {ls:List LG} {L L':LG}
theorem Inv.zero (ok:S.Ok s) (byt:S.Byt) (hp:S.puts.length=0) (l0:0≤S.life) (lt:S.life≤t):Inv S s [] t:=
   ⟨ok,byt,by omega,fun _=>by omega,l0,lt,fun _ h=>(by cases h),List.Pairwise.nil,fun _ h=>(by cases h)⟩
theorem Inv.step (h:Inv S s ls t):Inv S s ls (t+1):=⟨h.ok,h.byt,h.p6,h.p2,h.l0,by have:=h.lt;omega,h.ol,h.li,h.al⟩
theorem Inv.next (h:Inv S s ls t) (ok:S'.Ok s) (byt:S'.Byt) (p6:S'.puts.length≤6000) (p2:S'.fuse≠0→S'.puts.length≤256) (hl:S'.life=S.life+1):Inv S' s ls (t+1):=by
 refine⟨ok,byt,p6,p2,by have:=h.l0;omega,by have:=h.lt;omega,fun L hL=>⟨(h.ol L hL).1,?_⟩,h.li,fun L hL e=>?_⟩
 ·have:=(h.ol L hL).2;omega
 ·have:=(h.ol L hL).2;omega
theorem Inv.at (h:Inv S s ls t) (hi:ls[i]? =some L):L.Ok s∧L.life≤S.life:=h.ol L (List.mem_of_getElem? hi)
theorem lives_alone (h:(ls.map LG.life).Pairwise (·< ·)) (hi:ls[i]? =some L) {j:Nat} (hj:ls[j]? =some L') (e:L'.life=L.life):j=i:=by
 rw [List.pairwise_iff_getElem] at h
 obtain⟨h1,e1⟩:=List.getElem?_eq_some_iff.1 hi
 obtain⟨h2,e2⟩:=List.getElem?_eq_some_iff.1 hj
 rcases Nat.lt_trichotomy j i with h3|h3|h3
 ·have:=h j i (by simpa using h2) (by simpa using h1) h3
  simp only [List.getElem_map,e1,e2] at this
  omega
 ·exact h3
 ·have:=h i j (by simpa using h1) (by simpa using h2) h3
  simp only [List.getElem_map,e1,e2] at this
  omega
theorem Inv.on (h:Inv S s ls t) (hi:ls[i]? =some L) (ha:L.life=S.life) (ok:S'.Ok s) (byt:S'.Byt) (hl:S'.life=S.life) (p6:S'.puts.length≤6000) (ok':L'.Ok s) (hl':L'.life=L.life) (fit:S'.fuse≠0→L'.Fit S'):Inv S' s (ls.set i L') t:=by
 have hlt:=(List.getElem?_eq_some_iff.1 hi).1
 have hmem:∀M∈ls.set i L',M=L'∨∃j,j≠i∧ls[j]? =some M:=fun M hM=>by
  obtain⟨j,hj⟩:=List.mem_iff_getElem?.1 hM
  by_cases e:j=i
  ·subst e
   rw [List.getElem?_set_self hlt] at hj
   exact .inl (Option.some.inj hj).symm
  ·rw [List.getElem?_set_ne (fun h=>e h.symm)] at hj
   exact .inr ⟨j,e,hj⟩
 refine⟨ok,byt,p6,fun hf=>?_,by have:=h.l0;omega,by have:=h.lt;omega,fun M hM=>?_,?_,fun M hM e hf=>?_⟩
 ·have:=fit hf
  unfold LG.Fit at this
  have a1:=ok'.hn
  have a2:=ok'.n2
  cases hb:L'.begun with
  |true=>have:=(this.1 hb).1;omega
  |false=>have:=(this.2 hb).1;omega
 ·rcases hmem M hM with rfl|⟨j,_,hj⟩
  ·exact⟨ok',by omega⟩
  ·have:=h.at hj;exact⟨this.1,by omega⟩
 ·rw [List.map_set,hl']
  have:ls.map LG.life=(ls.map LG.life).set i L.life:=by
   apply List.ext_getElem?
   intro j
   by_cases e:j=i
   ·subst e;rw [List.getElem?_set_self (by simpa using hlt),List.getElem?_map,hi];rfl
   ·rw [List.getElem?_set_ne (fun h=>e h.symm)]
  rw [←this]
  exact h.li
 ·rcases hmem M hM with rfl|⟨j,hne,hj⟩
  ·exact fit hf
  ·exact absurd (lives_alone h.li hi hj (by omega)) hne
theorem Inv.same (h:Inv S s ls t) (hi:ls[i]? =some L):Inv S s (ls.set i L) t:=by
 have:ls.set i L=ls:=by
  apply List.ext_getElem?
  intro j
  by_cases e:j=i
  ·subst e;rw [List.getElem?_set_self (List.getElem?_eq_some_iff.1 hi).1,hi]
  ·rw [List.getElem?_set_ne (fun h=>e h.symm)]
 rw [this]
 exact h
theorem dead_no (h:L.dead S=false):L.life=S.life∧S.fuse≠0:=by
 unfold LG.dead at h
 rw [Bool.or_eq_false_iff] at h
 have h1:=h.1
 rw [beq_eq_false_iff_ne] at h1
 have:S.life=L.life:=by simpa using h.2
 exact⟨this.symm,h1⟩
theorem unready_no (h:L.unready S=0):L.dead S=false∧L.begun=true:=by
 unfold LG.unready at h
 split at h
 ·omega
 ·rename_i h1
  split at h
  ·rename_i h2;exact⟨by simpa using h1,h2⟩
  ·omega
theorem num_fl {f:Nat} (h:S.Ok s) (hf:f+1<s):(S.fl s).2.num f=S.num f:=by
 unfold DS.num
 rw [fl_now h (by omega),fl_now h hf]
theorem Inv.take (h:Inv S s ls t) (ht:t≤1000000000000000000):Inv S.take s ls (t+1):=
 h.next ⟨h.ok.len,h.ok.lo,h.ok.hi,h.ok.puts,h.ok.fuse⟩ h.byt.take h.p6 h.p2 (wrap_life h.l0 h.lt ht)
theorem Inv.start (h:Inv S s ls t) (hi:ls[i]? =some L) (ok:(L.start S s).2.1.Ok s):Inv (L.start S s).2.1 s (ls.set i (L.start S s).2.2) t:=by
 unfold LG.start at*
 split
 ·exact h.same hi
 ·rename_i hd
  rw [if_neg hd] at ok
  obtain⟨ha,hf⟩:=dead_no (by simpa using hd:L.dead S=false)
  split
  ·exact h.same hi
  ·rename_i hb
   rw [if_neg hb] at ok
   have hb':L.begun=false:=by simpa using hb
   have hL:=(h.at hi).1
   have hfit:=(h.al L (List.mem_of_getElem? hi) ha hf).2 hb'
   have hs:=hL.s
   have hn:=hL.n1
   have ht:=hL.top
   have eN:(((L.top+1:Nat):Int)*4294967296+((0:Nat):Int))=(((L.top+1)*4294967296:Nat):Int):=by omega
   rw [eN] at ok⊢
   obtain⟨N,hN⟩:∃N,N=(L.top+1)*4294967296:=⟨_,rfl⟩
   rw [←hN] at ok hfit⊢
   have hr:=renew_ok (now_len h.ok L.f (by omega)) (now_len h.ok (L.f+1) (by omega)) (N:=N) (by omega) hfit.2
   split
   ·rename_i h0
    rw [if_pos h0] at ok
    obtain⟨e1,e2⟩:=anew_err (by omega) hr h0
    dsimp only at ok⊢
    exact h.on hi ha ok (h.byt.anew s L.f _) (anew_life _ _ _ _) (by omega) hL rfl (fun c=>absurd e1 c)
   ·rename_i h0
    rw [if_neg h0] at ok
    obtain⟨e1,e2⟩:=anew_num (s:=s) (f:=L.f) (N:=N) h.ok (by omega) (by omega) (by omega) hfit.2 (Decidable.of_not_not h0)
    dsimp only at ok⊢
    refine h.on hi ha ok (h.byt.anew s L.f _) (anew_life _ _ _ _) (by rw [e2];exact Nat.zero_le _) ⟨hs,hn,hL.n2,by show L.top+1≤_;omega,hL.top,Nat.le_refl _,by show 0≤_;omega,by show 0≤_;omega,fun _=>by show 0≤_;omega⟩ rfl (fun _=>⟨fun _=>⟨by rw [e2];exact Nat.zero_le _,?_⟩,fun c=>by cases c⟩)
    show (anew S s L.f (N:Int)).2.num L.f≤(L.top+1)*4294967296+0
    rw [e1]
    omega
theorem refuses_no (h:L.refuses S i=0):L.unready S=0∧1≤i∧i≤8364∧L.head+cntOf i≤1073741824∧L.head+cntOf i≤L.tail+L.n:=by
 unfold LG.refuses at h
 repeat' split at h
 all_goals first|omega|(rename_i h1 h2 h3 h4 h5;exact⟨by omega,by omega,by omega,by omega,by omega⟩)
theorem appTo_byt {d:List Int} (h:S.Byt) (hd:Bytes d) (k:Nat):(appTo L S s d k).2.Byt:=
 stepsTo_byt h (fun j T hT=>by
  unfold aput
  split
  ·exact hT
  ·exact hT.wr s _ _ (sseal_bytes (pbody_bytes ((hd.drop _).take _)))) k
theorem Inv.append (h:Inv S s ls t) (hi:ls[i]? =some L) {d:List Int} (hd:Bytes d) (ok:(L.append S s d).2.1.Ok s):Inv (L.append S s d).2.1 s (ls.set i (L.append S s d).2.2) t:=by
 unfold LG.append at*
 split
 ·exact h.same hi
 ·rename_i h1
  rw [if_neg h1] at ok
  obtain⟨hu,hx1,hx2,hh,hr⟩:=refuses_no (Decidable.of_not_not h1)
  obtain⟨hdd,hb⟩:=unready_no hu
  obtain⟨ha,hf⟩:=dead_no hdd
  have hL:=(h.at hi).1
  have hfit:=(h.al L (List.mem_of_getElem? hi) ha hf).1 hb
  have hs:=hL.s
  have hn:=hL.n1
  have hn2:=hL.n2
  have hth:=hL.th
  have hp2:=h.p2 hf
  have hc:cntOf d.length≤17:=by unfold cntOf;omega
  obtain⟨k1,k2,k3,k4⟩:=appTo_keeps (L:=L) (S:=S) (s:=s) (d:=d) (by omega) hs (cntOf d.length)
  have hby:=appTo_byt (L:=L) (s:=s) h.byt hd (cntOf d.length)
  split
  ·rename_i h0
   rw [if_pos h0] at ok
   dsimp only at ok⊢
   exact h.on hi ha ok hby k1 (by omega) hL rfl (fun c=>absurd (k3 h0) c)
  ·rename_i h0
   rw [if_neg h0] at ok
   dsimp only at ok⊢
   refine h.on hi ha ok hby k1 (by omega) ⟨hs,hn,hn2,hL.ep,hL.top,by show L.tail≤L.head+_;omega,by show L.head+_≤_;omega,by show L.head+_≤_;omega,fun _=>hh⟩ rfl (fun _=>⟨fun _=>⟨?_,?_⟩,fun c=>by rw [show ({L with head:=L.head+cntOf d.length}:LG).begun=L.begun from rfl,hb] at c;cases c⟩)
   ·show _≤L.head+cntOf d.length-L.tail
    omega
   ·show DS.num _ L.f≤_
    unfold DS.num
    rw [k2 L.f (by omega),k2 (L.f+1) (by omega)]
    exact hfit.2
theorem Inv.format (h:Inv S s ls t) (ht:t≤1000000000000000000) (f n:Int) (ok:(lformat S s f n).2.Ok s):Inv (lformat S s f n).2 s ls (t+1):=by
 unfold lformat at*
 split
 ·exact h.step
 ·rename_i h1
  rw [if_neg h1] at ok
  obtain⟨hf,a,b,rfl,rfl,hab,hb1,hb2⟩:=lrefuse_zero (Decidable.of_not_not h1)
  simp only [Int.toNat_natCast] at*
  have hlife:=wrap_life h.l0 h.lt ht
  have hok:S.take.Ok s:=⟨h.ok.len,h.ok.lo,h.ok.hi,h.ok.puts,h.ok.fuse⟩
  obtain⟨k1,k2,k3,k4⟩:=awipe_keeps (f:=a) (n:=b) hok hab
  have hp:=awipe_puts S.take s a b
  have hp2:S.take.puts.length≤256:=h.p2 hf
  split
  ·rename_i h0
   rw [if_pos h0] at ok
   exact h.next ok (h.byt.take.wipe s a b) (by omega) (fun c=>absurd (k3 h0) c) (k1.trans hlife)
  ·rename_i h0
   rw [if_neg h0] at ok
   obtain⟨q1,q2⟩:=k4 (Decidable.of_not_not h0)
   have hr:=renew_ok (now_len k2 a (by omega)) (now_len k2 (a+1) (by omega)) (N:=4294967296) (by omega) (by show DS.num _ a<_;rw [q1];omega)
   have hl2:=(anew_life (awipe S.take s a b).2 s a 4294967296).trans (k1.trans hlife)
   by_cases h3:(anew (awipe S.take s a b).2 s a 4294967296).1=0
   ·obtain⟨e1,e2⟩:=anew_num (s:=s) (f:=a) (N:=4294967296) k2 (by omega) (by omega) (by omega) (by rw [q1];omega) h3
    have e3:(anew (awipe S.take s a b).2 s a 4294967296).2.puts.length=0:=congrArg List.length e2
    exact h.next ok ((h.byt.take.wipe s a b).anew s a _) (by omega) (fun _=>by omega) hl2
   ·obtain⟨e1,e2⟩:=anew_err (by omega) hr h3
    rw [q2] at e2
    exact h.next ok ((h.byt.take.wipe s a b).anew s a _) (Nat.le_trans e2 (by simp)) (fun c=>absurd e1 c) hl2
theorem Inv.open_no (h:Inv S s ls t) (ht:t≤1000000000000000000) (f n:Int) (he:(lopen S s f n).1≠0):Inv (lopen S s f n).2 s ls (t+1):=by
 unfold lopen at*
 split
 ·exact h.step
 ·rename_i h1
  rw [if_neg h1] at he
  split
  ·exact h.take ht
  ·rename_i h2
   rw [if_neg h2] at he
   split
   ·exact h.take ht
   ·rename_i h3
    rw [if_neg h3] at he
    obtain⟨e1,e2,_⟩:=fl_err he
    rw [e1]
    exact h.take ht
theorem Inv.opened (h:Inv S s ls t) (ht:t≤1000000000000000000) (f n:Int) (ok:(lopen S s f n).2.Ok s) (he:(lopen S s f n).1=0) {hd:Nat} (h1:(oNew S f.toNat).2.1≤hd) (h2:hd≤(oNew S f.toNat).2.1+n.toNat):Inv (lopen S s f n).2 s (ls ++ [LG.opened S f.toNat n.toNat hd]) (t+1):=by
 unfold lopen at*
 split
 ·rename_i k1;rw [if_pos k1] at he;exact absurd he k1
 ·rename_i k1
  rw [if_neg k1] at ok he
  split
  ·rename_i k2;rw [if_pos k2] at he;exact absurd (Int.ofNat_eq_zero.1 he) k2
  ·rename_i k2
   rw [if_neg k2] at ok he
   split
   ·rename_i k3;rw [if_pos k3] at he;cases he
   ·rename_i k3
    rw [if_neg k3] at ok he
    obtain⟨hf,a,b,rfl,rfl,hab,hb1,hb2⟩:=lrefuse_zero (Decidable.of_not_not k1)
    simp only [Int.toNat_natCast] at*
    have hlife:=wrap_life h.l0 h.lt ht
    have hok:S.take.Ok s:=⟨h.ok.len,h.ok.lo,h.ok.hi,h.ok.puts,h.ok.fuse⟩
    have hp:=fl_zero he
    have hl2:(S.take.fl s).2.life=S.life+1:=(fl_life _ _).trans hlife
    have hz:=oNew_ok (Decidable.of_not_not k2)
    have hto:=oTop_le (n:=b) (Decidable.of_not_not k2)
    have hn:=h.next ok (h.byt.take.fl s) (by rw [hp];exact Nat.zero_le _) (fun _=>by rw [hp];exact Nat.zero_le _) hl2
    have hLl:(LG.opened S a b hd).life=S.life+1:=hlife
    refine⟨hn.ok,hn.byt,hn.p6,hn.p2,hn.l0,hn.lt,fun M hM=>?_,?_,fun M hM e hf=>?_⟩
    ·rcases List.mem_append.1 hM with h3|h3
     ·exact hn.ol M h3
     ·obtain rfl:=List.mem_singleton.1 h3
      refine⟨⟨hab,hb1,hb2,hz.2.1,?_,h1,h2,?_,fun c=>by cases c⟩,by omega⟩
      ·show oTop S a b<_;omega
      ·show hd≤_;omega
    ·rw [List.map_append,List.pairwise_append]
     refine⟨h.li,List.pairwise_singleton _ _,fun x hx y hy=>?_⟩
     obtain⟨M,hM,rfl⟩:=List.mem_map.1 hx
     have:=(h.ol M hM).2
     simp only [List.map_cons,List.map_nil,List.mem_singleton] at hy
     omega
    ·rcases List.mem_append.1 hM with h3|h3
     ·have:=(h.ol M h3).2;omega
     ·obtain rfl:=List.mem_singleton.1 h3
      refine⟨fun c=>(by cases c),fun _=>⟨(by rw [hp];rfl),?_⟩⟩
      rw [show (LG.opened S a b hd).f=a from rfl,num_fl hok (by omega)]
      have e1:S.take.num a=S.num a:=rfl
      have e2:(oNew S a).1=S.num a / 4294967296:=by
       have k4:=Decidable.of_not_not k2
       unfold oNew lnewest at*
       split at k4
       ·cases k4
       ·rename_i k5;rw [if_neg k5];rfl
      have e3:(oNew S a).1≤oTop S a b:=by unfold oTop;omega
      rw [e1]
      show S.num a<(oTop S a b+1)*4294967296
      omega
end
end V
end Go.Proofs.YtkiehemoiapkkaaGreat
end
section
namespace Go.Proofs.YtkiehemoiapkkaaGreat
open Go.RowKit Go.Maps
section
variable {w w':World} {F X:Nat→Prop} {r s k kl t hm:Nat} {S:DS} {y:LY} {L:LG} {G:SG} {T:TG} {pv nv tv:Value} {ps us:List (Nat×List Int)}
end
end Go.Proofs.YtkiehemoiapkkaaGreat
end
section
namespace Go.Proofs.YtkiehemoiapkkaaGreat
open Go.RowKit Go.Maps
section
variable {w w':World} {F X:Nat→Prop} {r s k kl t hm:Nat} {S:DS} {y:LY} {L:LG} {G:SG} {T:TG} {pv nv tv:Value} {ps us:List (Nat×List Int)}
end
end Go.Proofs.YtkiehemoiapkkaaGreat
end
section
namespace Go.Proofs.YtkiehemoiapkkaaGreat
open Go.RowKit Go.Maps
theorem wr_code5 {S:DS} {s k:Nat} (hk:k<s) (l:List Int):(S.wr s (k:Int) 512 l).1=0∨(S.wr s (k:Int) 512 l).1=3:=by
 unfold DS.wr
 split
 ·exact .inr rfl
 ·rw [if_neg (by omega),if_neg (by omega)];exact .inl rfl
theorem sbring_facts {s h0:Nat}:∀{ms:CM} {S:DS},S.Ok s→(∀q∈ms,h0+q.1<s∧q.2.length=512)→((sbring S s h0 ms).1=0∨(sbring S s h0 ms).1=3)∧(sbring S s h0 ms).2.life=S.life∧(sbring S s h0 ms).2.Ok s∧((sbring S s h0 ms).1≠0→(sbring S s h0 ms).2.fuse=0)∧(∀j,(∀q∈ms,h0+q.1≠j)→(sbring S s h0 ms).2.now j=S.now j)
 | [],S,hS,_=>⟨.inl rfl,rfl,hS,fun h=>absurd rfl h,fun _ _=>rfl⟩
 |q :: qs,S,hS,hk=>by
  have hq:=hk q List.mem_cons_self
  rw [sbring_cons]
  by_cases e:(S.wr s ((h0+q.1:Nat):Int) 512 q.2).1≠0
  ·rw [if_pos e]
   obtain⟨e1,e2⟩:=wr_err hq.1 e
   refine⟨wr_code5 hq.1 _,wr_life _ _ _ _ _,by rw [e1];exact hS,fun _=>by rw [e1];exact e2,fun j _=>by rw [e1]⟩
  ·rw [if_neg e]
   have hf:=wr_zero (Decidable.not_not.1 e)
   obtain⟨a1,a2,a3,a4,a5⟩:=sbring_facts (ms:=qs) (wr_ok hS hf hq.1 hq.2) (fun x hx=>hk x (List.mem_cons_of_mem _ hx))
   refine⟨a1,a2.trans (wr_life _ _ _ _ _),a3,a4,fun j hj=>?_⟩
   rw [a5 j (fun x hx=>hj x (List.mem_cons_of_mem _ hx)),wr_now hf hq.1,if_neg (fun h=>hj q List.mem_cons_self h.symm)]
section
variable {w w':World} {F X:Nat→Prop} {r s k kl t hm:Nat} {S:DS} {y:LY} {v:Value} {ps:List (Nat×List Int)}
end
end Go.Proofs.YtkiehemoiapkkaaGreat
end
section
namespace Go.Proofs.YtkiehemoiapkkaaGreat
open Go.RowKit Go.Maps
section
variable {w w':World} {F X:Nat→Prop} {r s k kl t hm:Nat} {S:DS} {G:SG} {T:TG} {pv nv tv:Value} {ps us:List (Nat×List Int)}
end
end Go.Proofs.YtkiehemoiapkkaaGreat
end
section
namespace Go.Proofs.YtkiehemoiapkkaaGreat
open Go.RowKit
end Go.Proofs.YtkiehemoiapkkaaGreat
end
section
namespace Go.Proofs.YtkiehemoiapkkaaGreat
open Go.RowKit Go.Maps
section
variable {w w' w1 w2:World} {F X:Nat→Prop} {r s k kl t hm:Nat} {S:DS} {G:SG} {T:TG} {v pv nv tv:Value} {ps us:List (Nat×List Int)} {xs:List Value}
end
end Go.Proofs.YtkiehemoiapkkaaGreat
end
section
namespace Go.Proofs.YtkiehemoiapkkaaGreat
open Go.RowKit
end Go.Proofs.YtkiehemoiapkkaaGreat
end
section
namespace Go.Proofs.YtkiehemoiapkkaaGreat
open Go.RowKit
end Go.Proofs.YtkiehemoiapkkaaGreat
end
section
namespace Go.Proofs.YtkiehemoiapkkaaGreat
open Go.RowKit Go.Maps
section
variable {w w' w1 w2:World} {F X:Nat→Prop} {r s k kl t hm:Nat} {S:DS} {G:SG} {T:TG} {v pv nv tv:Value} {ps us:List (Nat×List Int)} {xs:List Value}
end
end Go.Proofs.YtkiehemoiapkkaaGreat
end
section
namespace Go.Proofs.YtkiehemoiapkkaaGreat
open Go.RowKit Go.Maps
section
variable {w w' w1 w2:World} {F X:Nat→Prop} {r s k kl t hm:Nat} {S:DS} {G:SG} {T:TG} {v pv nv tv:Value} {ps us:List (Nat×List Int)} {xs:List Value}
end
end Go.Proofs.YtkiehemoiapkkaaGreat
end
section
namespace Go.Proofs.YtkiehemoiapkkaaGreat
open Go.RowKit
section
variable {w w':World} {F G:Nat→Prop} {r s k:Nat} {S:DS} {L:LG}
end
end Go.Proofs.YtkiehemoiapkkaaGreat
end
section
namespace Go.Proofs.YtkiehemoiapkkaaGreat
open Go.RowKit
section
variable {w w':World} {F G:Nat→Prop} {r s k:Nat} {S:DS} {L:LG}
end
end Go.Proofs.YtkiehemoiapkkaaGreat
end
section
namespace Go.Proofs.YtkiehemoiapkkaaGreat
open Go.RowKit Go.Maps
section
variable {w w' w1 w2:World} {F X Y:Nat→Prop} {r s k kl t hm:Nat} {S:DS} {G:SG} {T:TG} {L:LG} {v u pv nv tv:Value} {ps qs us:List (Nat×List Int)} {xs ys:List Value}
end
end Go.Proofs.YtkiehemoiapkkaaGreat
end
section
namespace Go.Proofs.YtkiehemoiapkkaaGreat
open Go.RowKit Go.Maps
section
variable {S:DS} {s f:Nat} {L:LG} {G:SG}
theorem anew_far (h:S.Ok s) (hf:f+1<s) (num:Int):(anew S s f num).2.Ok s∧∀j,f+2≤j→j<s→(anew S s f num).2.now j=S.now j:=by
 unfold anew
 by_cases h1:S.fuse=0
 ·rw [if_pos h1];exact⟨h,fun _ _ _=>rfl⟩
 ·rw [if_neg h1]
  by_cases h2:(srenew (S.now f) (S.now (f+1)) num []).2.2≠0
  ·rw [if_pos h2];exact⟨h,fun _ _ _=>rfl⟩
  ·rw [if_neg h2]
   have hsl:=srenew_slot (S.now f) (S.now (f+1)) num []
   have hfu:=srenew_full (S.now f) (S.now (f+1)) num [] (by omega)
   generalize srenew (S.now f) (S.now (f+1)) num []=Y at*
   rw [show (f:Int)+(Y.1:Int)=((f+Y.1:Nat):Int) by omega]
   by_cases h3:(S.wr s ((f+Y.1:Nat):Int) 512 Y.2.1).1≠0
   ·exact absurd (wr_err (by omega) h3).2 h1
   ·rw [if_neg h3]
    have hwo:=wr_ok h h1 (show f+Y.1<s by omega) hfu
    refine⟨fl_ok hwo,fun j hj hjs=>?_⟩
    rw [fl_now hwo hjs,wr_now h1 (by omega),if_neg (by omega)]
end
section
variable {w w':World} {F X:Nat→Prop} {r s k kl t hm:Nat} {S:DS} {G:SG} {pv nv:Value} {ps:List (Nat×List Int)}
theorem num_eq {S S':DS} {f:Nat} (h1:S'.now f=S.now f) (h2:S'.now (f+1)=S.now (f+1)):S'.num f=S.num f:=by unfold DS.num;rw [h1,h2]
end
end Go.Proofs.YtkiehemoiapkkaaGreat
end
section
namespace Go.Proofs.YtkiehemoiapkkaaGreat
open Go.RowKit Go.Maps
section
variable {w w':World} {F X:Nat→Prop} {r s k kl t hm:Nat} {S:DS} {G:SG} {pv nv:Value} {ps:List (Nat×List Int)}
end
end Go.Proofs.YtkiehemoiapkkaaGreat
end
section
namespace Go.Proofs.YtkiehemoiapkkaaGreat
open Go.RowKit Go.Maps
section
variable {w w' w1 w2:World} {F F' X X' Y Z:Nat→Prop} {r s k kl t hm:Nat} {S:DS} {G:SG} {T:TG} {L:LG} {v u pv pv' nv tv:Value} {ps qs us:List (Nat×List Int)} {xs ys:List Value}
end
end Go.Proofs.YtkiehemoiapkkaaGreat
end
section
namespace Go.Proofs.YtkiehemoiapkkaaGreat
open Go.RowKit Go.Maps
section
variable {T:TG} {G:SG} {S:DS} {b:Nat} {l:List Int}
end
section
variable {w w' w5 w6 w7:World} {F F5 X:Nat→Prop} {r s k kl t hm hm5 g2 cap2:Nat} {S S5:DS} {G G5:SG} {T:TG} {pv nv tv lv:Value} {ps us:List (Nat×List Int)} {ns:CM} {xs ys:List Value}
end
end Go.Proofs.YtkiehemoiapkkaaGreat
end
section
namespace Go.Proofs.YtkiehemoiapkkaaGreat
open Go.RowKit Go.Maps
section
variable {w w' w5 w6 w7:World} {F F5 X:Nat→Prop} {r s k kl t hm hm5 g2 cap2:Nat} {S S5:DS} {G G5:SG} {T:TG} {pv nv tv lv:Value} {ps us:List (Nat×List Int)} {ns:CM} {xs ys:List Value}
end
section
variable {w w' w1 w2:World} {F F' X X':Nat→Prop} {r s k kl t hm:Nat} {S:DS} {G:SG} {T:TG} {pv nv tv:Value} {ps us:List (Nat×List Int)}
end
end Go.Proofs.YtkiehemoiapkkaaGreat
end
section
namespace Go.Proofs.YtkiehemoiapkkaaGreat
open Go.RowKit
section
variable {S:DS} {s t i:Nat} {ls:List LG} {L:LG} {G:SG}
end
end Go.Proofs.YtkiehemoiapkkaaGreat
end
section
end
section
namespace Go.Proofs.YtkiehemoiapkkaaGreat
open Go.RowKit
section
variable {w w':World} {F G:Nat→Prop} {r s k:Nat} {S:DS} {L:LG}
end
end Go.Proofs.YtkiehemoiapkkaaGreat
end
section
namespace Go.Proofs.YtkiehemoiapkkaaGreat
open Go.RowKit Go.Maps
end Go.Proofs.YtkiehemoiapkkaaGreat
end
section
namespace Go.Proofs.YtkiehemoiapkkaaGreat
open Go.RowKit Go.Maps
theorem rdAll_cons (blocks:Nat) (ms:CM) (r:List Int) (rs:List (List Int)):rdAll blocks ms (r :: rs)=match rdRec blocks r with|none=>none|some cs=>rdAll blocks (CM.over ms cs) rs:=rfl
theorem num_top {S:DS} {a b:Nat} (h:(oNew S a).2.2=0):S.num a<(oTop S a b+1)*4294967296:=by
 have e2:(oNew S a).1=S.num a / 4294967296:=by
  unfold oNew lnewest at*
  split at h
  ·cases h
  ·rename_i k5;rw [if_neg k5];rfl
 have e3:(oNew S a).1≤oTop S a b:=by unfold oTop;omega
 omega
section
variable {w w':World} {X Y:Nat→Prop} {B B':Nat} {v u:Value} {ps qs:List (Nat×List Int)}
end
end Go.Proofs.YtkiehemoiapkkaaGreat
end
section
namespace Go.Proofs.YtkiehemoiapkkaaGreat
open Go.RowKit
end Go.Proofs.YtkiehemoiapkkaaGreat
end
section
namespace Go.Proofs.YtkiehemoiapkkaaGreat
open Go.RowKit
end Go.Proofs.YtkiehemoiapkkaaGreat
end
section
namespace Go.Proofs.YtkiehemoiapkkaaGreat
open Go.RowKit
theorem sealed_sup (s l n:Nat):(sealed (supBody s l n)).length=512:=(sealed_len _).trans (congrArg (·+4) (supBody_len s l n))
end Go.Proofs.YtkiehemoiapkkaaGreat
end
section
namespace Go.Proofs.YtkiehemoiapkkaaGreat
open Go.RowKit
section
variable {w w':World} {F G:Nat→Prop} {r s k:Nat} {S:DS} {L:LG}
end
end Go.Proofs.YtkiehemoiapkkaaGreat
end
section
namespace Go.Proofs.YtkiehemoiapkkaaGreat
open Go.RowKit
section
variable {w w':World} {F G:Nat→Prop} {r s k:Nat} {S:DS} {L:LG}
end
end Go.Proofs.YtkiehemoiapkkaaGreat
end
section
namespace Go.Proofs.YtkiehemoiapkkaaGreat
open Go.RowKit
section
variable {w w':World} {F G:Nat→Prop} {r s k:Nat} {S:DS} {L:LG}
end
end Go.Proofs.YtkiehemoiapkkaaGreat
end
section
namespace Go.Proofs.YtkiehemoiapkkaaGreat
open Go.RowKit
section
variable {w w':World} {F G:Nat→Prop} {r s k:Nat} {S:DS} {L:LG}
end
end Go.Proofs.YtkiehemoiapkkaaGreat
end
section
namespace Go.Proofs.YtkiehemoiapkkaaGreat
open Go.RowKit Go.Maps
section
variable {w w':World} {F:Nat→Prop} {r s:Nat} {S:DS}
end
end Go.Proofs.YtkiehemoiapkkaaGreat
end
section
namespace Go.Proofs.YtkiehemoiapkkaaGreat
open Go.RowKit Go.Maps
section
variable {w w' U wx wy wz:World} {F:Nat→Prop} {r s:Nat} {S S':DS}
end
end Go.Proofs.YtkiehemoiapkkaaGreat
end
section
namespace Go.Proofs.YtkiehemoiapkkaaGreat
open Go.RowKit
section
variable {S S':DS} {s t i:Nat} {ls:List LG} {L:LG} {G:SG}
theorem V.Inv.idle (h:V.Inv S s ls t) (hno:∀M∈ls,M.life<S.life) (ok:S'.Ok s) (byt:S'.Byt) (p6:S'.puts.length≤6000) (p2:S'.fuse≠0→S'.puts.length≤256) (hl:S'.life=S.life):V.Inv S' s ls t:=
   ⟨ok,byt,p6,p2,by rw [hl];exact h.l0,by rw [hl];exact h.lt,fun M hM=>by rw [hl];exact h.ol M hM,h.li,fun M hM e=>by have:=hno M hM;omega⟩
theorem fl_facts (h:S.Ok s):(S.fl s).2.Ok s∧(S.fl s).2.life=S.life∧((S.fl s).1≠0→(S.fl s).2.fuse=0∧(S.fl s).2.puts.length≤S.puts.length)∧((S.fl s).1=0→(S.fl s).2.puts= []):=
   ⟨fl_ok h,fl_life _ _,fun he=>by obtain⟨e1,e2,_⟩:=fl_err he;rw [e1];exact⟨e2,Nat.le_refl _⟩,fl_zero⟩
theorem swipe_facts (h:S.Ok s) {a n:Nat} (hn:a+n≤s):(swipe S s a n).2.Ok s∧(swipe S s a n).2.life=S.life∧((swipe S s a n).1≠0→(swipe S s a n).2.fuse=0)∧((swipe S s a n).1=0→(swipe S s a n).2.puts= []):=by
 obtain⟨b1,b2,b3,b4,b5⟩:=sbring_facts (h0:=a) (ms:=zrow n) h (fun q hq=>by
  unfold zrow at hq
  obtain⟨i,hi,rfl⟩:=List.mem_map.1 hq
  have:=List.mem_range.1 hi
  exact⟨by show a+i<s;omega,zs_len 512⟩)
 unfold swipe
 split
 ·rename_i q;exact⟨b3,b2,b4,fun h0=>absurd h0 q⟩
 ·obtain⟨c1,c2,c3,c4⟩:=fl_facts b3
  exact⟨c1,c2.trans b2,fun he=>(c3 he).1,c4⟩
theorem lformat_facts (h:S.Ok s) (hl0:0≤S.life) {t:Nat} (hlt:S.life≤t) (ht:t≤1000000000000000000) (_hf:S.fuse≠0) (hp:S.puts= []) (f n:Int):(lformat S s f n).2.Ok s∧(S.life≤(lformat S s f n).2.life)∧((lformat S s f n).1=0→(lformat S s f n).2.puts= []):=by
 unfold lformat
 split
 ·exact⟨h,Int.le_refl _,fun _=>hp⟩
 ·rename_i h1
  obtain⟨_,a,b,rfl,rfl,hab,hb1,hb2⟩:=lrefuse_zero (Decidable.of_not_not h1)
  simp only [Int.toNat_natCast]
  have hlife:=wrap_life hl0 hlt ht
  have hok:S.take.Ok s:=⟨h.len,h.lo,h.hi,h.puts,h.fuse⟩
  obtain⟨k1,k2,k3,k4⟩:=awipe_keeps (f:=a) (n:=b) hok hab
  have hkl:=k1.trans hlife
  split
  ·rename_i h0
   exact⟨k2,by omega,fun h9=>absurd h9 h0⟩
  ·rename_i h0
   obtain⟨q1,q2⟩:=k4 (Decidable.of_not_not h0)
   have hl2:=(anew_life (awipe S.take s a b).2 s a 4294967296).trans hkl
   refine⟨(anew_far k2 (by omega) _).1,by omega,fun h3=>?_⟩
   exact(anew_num (s:=s) (f:=a) (N:=4294967296) k2 (by omega) (by omega) (by omega) (by rw [q1];omega) h3).2
theorem V.Inv.sfmt (h:V.Inv S s ls t) (ht:t+2≤1000000000000000000) (a b c:Int):V.Inv (sformat S s a b c).2 s ls (t+2):=by
 unfold sformat
 split
 ·exact h.step.step
 ·rename_i hf
  split
  ·rename_i hg
   obtain⟨hg1,hs⟩:=hg
   obtain⟨⟨l1,l2⟩,⟨n1,n2⟩,h3,s1,s2⟩:=hg1
   have hs1:1≤s:=by omega
   have htk:=h.take (by omega:t≤1000000000000000000)
   have htl:S.take.life=S.life+1:=wrap_life h.l0 h.lt (by omega)
   have hno:∀M∈ls,M.life<S.life+1:=fun M hM=>by have:=(h.ol M hM).2;omega
   have hp2:=h.p2 hf
   obtain⟨a1,a2,a3,a4⟩:=swipe_facts htk.ok (a:=0) (n:=1) (by omega)
   have ab:=swipe_byt htk.byt s 0 1
   have ap:=swipe_puts S.take s 0 1
   have htp:S.take.puts.length=S.puts.length:=rfl
   unfold sformed
   have e1:fmt1 S s=swipe S.take s 0 1:=rfl
   have e2:fmt2 S s=swipe (fmt1 S s).2 s 1 (s-1):=rfl
   have e3:∀l,fmt3 S s l=lformat (fmt2 S s).2 s 1 (l:Int):=fun _=>rfl
   have e4:∀l n,fmt4 S s l n=(fmt3 S s l).2.wr s 0 512 (supOf s l n):=fun _ _=>rfl
   rw [←e1] at a1 a2 a3 a4 ab ap
   generalize fmt1 S s=P1 at*
   by_cases q1:P1.1≠0
   ·rw [if_pos q1]
    exact(htk.idle (by rw [htl];exact hno) a1 ab (by have:=h.p6;omega) (fun c=>absurd (a3 q1) c) a2).step
   ·rw [if_neg q1]
    obtain⟨b1,b2,b3,b4⟩:=swipe_facts a1 (a:=1) (n:=s-1) (by omega)
    have bb:=swipe_byt ab s 1 (s-1)
    have bp:=swipe_puts P1.2 s 1 (s-1)
    have hsm:=h.ok.hi
    rw [←e2] at b1 b2 b3 b4 bb bp
    generalize fmt2 S s=P2 at*
    by_cases q2:P2.1≠0
    ·rw [if_pos q2]
     exact(htk.idle (by rw [htl];exact hno) b1 bb (by rw [(a4 (Decidable.not_not.1 q1))] at bp;simp at bp;omega) (fun c=>absurd (b3 q2) c) (b2.trans a2)).step
    ·rw [if_neg q2]
     have bp0:=b4 (Decidable.not_not.1 q2)
     have hi2:=htk.idle (by rw [htl];exact hno) b1 bb (by rw [bp0];exact Nat.zero_le _) (fun _=>by rw [bp0];exact Nat.zero_le _) (b2.trans a2)
     by_cases hf2:P2.2.fuse=0
     ·have e5:∀l,fmt3 S s l=(3,P2.2):=fun l=>by
       rw [e3]
       unfold lformat lrefuse
       rw [if_pos hf2]
       simp
      rw [e5,if_pos (by show (3:Int)≠0;decide)]
      exact hi2.step
     ·obtain⟨c1,c2,c3⟩:=lformat_facts b1 hi2.l0 hi2.lt (by omega) hf2 bp0 1 ((b.toNat:Nat):Int)
      have hi3:=hi2.format (by omega) 1 ((b.toNat:Nat):Int) c1
      rw [←e3] at c1 c2 c3 hi3
      have e4':=e4 b.toNat c.toNat
      generalize fmt3 S s b.toNat=P3 at*
      have hno3:∀M∈ls,M.life<P3.2.life:=fun M hM=>by have:=hno M hM;omega
      by_cases q3:P3.1≠0
      ·rw [if_pos q3]
       exact hi3
      ·rw [if_neg q3]
       have hwl2:=wr_life P3.2 s 0 512 (supOf s b.toNat c.toNat)
       have hwp:=wr_puts P3.2 s 0 512 (supOf s b.toNat c.toNat)
       have hslen:(supOf s b.toNat c.toNat).length=512:=sealed_sup _ _ _
       have hsb:Bytes (supOf s b.toNat c.toNat):=(supBody_bytes _ _ _).append (leb_bytes _ _)
       have hwb:=hi3.byt.wr s 0 512 hsb
       have hwo:(P3.2.wr s 0 512 (supOf s b.toNat c.toNat)).2.Ok s:=by
        by_cases hf3:P3.2.fuse=0
        ·have:P3.2.wr s 0 512 (supOf s b.toNat c.toNat)=(3,P3.2):=by unfold DS.wr;rw [if_pos hf3]
         rw [this];exact hi3.ok
        ·exact wr_ok (k:=0) hi3.ok hf3 (by omega) hslen
       rw [←e4'] at hwl2 hwp hwb hwo
       rw [(c3 (Decidable.not_not.1 q3))] at hwp
       generalize fmt4 S s b.toNat c.toNat=P4 at*
       have hi4:V.Inv P4.2 s ls (t+2):=hi3.idle hno3 hwo hwb (by simp at hwp;omega) (fun _=>by simp at hwp;omega) hwl2
       by_cases q4:P4.1≠0
       ·rw [if_pos q4]
        exact hi4
       ·rw [if_neg q4]
        obtain⟨d1,d2,d3,d4⟩:=fl_facts hwo
        refine hi4.idle (by rw [hwl2];exact hno3) d1 (hwb.fl s) ?_ ?_ d2
        ·have:=fl_putsS P4.2 s
         have:=hi4.p6
         omega
        ·intro _
         have:=fl_putsS P4.2 s
         simp at hwp
         omega
  ·exact h.step.step
end
end Go.Proofs.YtkiehemoiapkkaaGreat
end
