import Derived.Test.YtcakbbkbgfhfaaaGreatW27
import Derived.Test.YtcakbbkbgfhfaaaGreatX03
section
namespace Go.Proofs.YtcakbbkbgfhfaaaGreat
open Go.RowKit Go.Maps
set_option maxRecDepth 20000 in
set_option maxHeartbeats 16000000 in
theorem plays_any (B1 L1 N1 B2 L2 N2:Int) (i1:I64 B1) (i2:I64 L1) (i3:I64 N1) (i4:I64 B2) (i5:I64 L2) (i6:I64 N2) (sa:Option Addr) (sn sc kk kc:Nat) (w:World) (hst:Steps6 w w.heap.size sa sn) (_hsn:48*sn≤140737488355328) (hkk:kk<w.heap.size) (hkc:∀j,j<3→w.cell? ⟨kk,j,none⟩=some (.int .i64 (kAt j))):
  Calls Tryz.prog 22 #[.agg #[.int .i64 B1, .int .i64 L1, .int .i64 N1], .agg #[.int .i64 B2, .int .i64 L2, .int .i64 N2], .slice sa sn sc, .slice (some ⟨kk,0,none⟩) 3 kc] w fun e w'=>e= .returned (.bool true)∧Below w.heap.size w w':=by
 obtain⟨hG1,_,_,_,_,_,_,_⟩:=geoOf_ok B1 L1 N1
 obtain⟨hG2,_,_,_,_,_,_,_⟩:=geoOf_ok B2 L2 N2
 have b1:=below_box w (.cells #[.int .i64 B1, .int .i64 L1, .int .i64 N1] 23)
 have b2:=below_box (w.alloc (.cells #[.int .i64 B1, .int .i64 L1, .int .i64 N1] 23)) (.cells #[.int .i64 B2, .int .i64 L2, .int .i64 N2] 23)
 have n1:=heap_alloc_new w (.cells #[.int .i64 B1, .int .i64 L1, .int .i64 N1] 23)
 have n2:=heap_alloc_new (w.alloc (.cells #[.int .i64 B1, .int .i64 L1, .int .i64 N1] 23)) (.cells #[.int .i64 B2, .int .i64 L2, .int .i64 N2] 23)
 have z1:(w.alloc (.cells #[.int .i64 B1, .int .i64 L1, .int .i64 N1] 23)).heap.size=w.heap.size+1:=by rw [World.size_alloc]
 rw [z1] at n2
 have n1':=(b2.block _ (lt_there n1)).trans n1
 have b12:Below w.heap.size w _:=b1.trans (b2.mono b1.size)
 have g0:=cell_of_block n1' (j:=0) rfl
 have g1:=cell_of_block n1' (j:=1) rfl
 have g2:=cell_of_block n1' (j:=2) rfl
 have ks1:=super6_any B1 L1 N1 i1 i2 i3 ((w.alloc (.cells #[.int .i64 B1, .int .i64 L1, .int .i64 N1] 23)).alloc (.cells #[.int .i64 B2, .int .i64 L2, .int .i64 N2] 23))
 have KR1:Hid (∀w,Calls Tryz.prog 23 #[supV (geoOf B1 L1 N1)] w fun e w'=>RigO w w' (geoOf B1 L1 N1) e):=fun w=>rig_any (geoOf B1 L1 N1) hG1 w
 have KS2:Hid (∀w,Calls Tryz.prog 11 #[.agg #[.int .i64 B2, .int .i64 L2, .int .i64 N2]] w fun e w'=>e= .returned (supV (geoOf B2 L2 N2))∧Below w.heap.size w w'):=fun w=>super6_any B2 L2 N2 i4 i5 i6 w
 have KR2:Hid (∀w,Calls Tryz.prog 23 #[supV (geoOf B2 L2 N2)] w fun e w'=>RigO w w' (geoOf B2 L2 N2) e):=fun w=>rig_any (geoOf B2 L2 N2) hG2 w
 generalize geoOf B1 L1 N1=ga at*
 generalize geoOf B2 L2 N2=gb at*
 have HN2:=Hid.mk (And.intro n2 b12)
 have HST:=Hid.mk (And.intro hst hkc)
 clear hG1 hG2 i1 i2 i3 i4 i5 i6 b1 b2 n1 n2 n1' b12 z1 hst hkc
 go_enter Tryz.func22,Tryz.ntmps22
 go_wp2_with fail
 refine ks1.mono ?_
 rintro e w1 ⟨rfl,hb1⟩
 have kr1:=KR1.out w1
 have HB1:=Hid.mk (HN2.out.2.trans (hb1.mono HN2.out.2.size))
 have n2':=(hb1.block _ (lt_there HN2.out.1)).trans HN2.out.1
 have HN3:=Hid.mk n2'
 clear ks1 hb1 n2' g0 g1 g2 HN2
 go_wp2_with fail
 refine kr1.mono ?_
 intro e w2 hR
 obtain⟨ka,he,hra,hb2⟩:=hR.rg
 subst he
 have n3:=(hb2.block _ (lt_there HN3.out)).trans HN3.out
 have g0:=cell_of_block n3 (j:=0) rfl
 have g1:=cell_of_block n3 (j:=1) rfl
 have g2:=cell_of_block n3 (j:=2) rfl
 have ks2:=KS2.out w2
 have HA:=Hid.mk (And.intro hra hb2)
 clear kr1 hR hra hb2 n3
 go_wp2_with fail
 refine ks2.mono ?_
 rintro e w3 ⟨rfl,hb3⟩
 have kr2:=KR2.out w3
 have HB3:=Hid.mk hb3
 clear ks2 hb3 g0 g1 g2
 go_wp2_with fail
 refine kr2.mono ?_
 intro e w4 hR
 obtain⟨kb,he,hrb,hb4⟩:=hR.rg
 subst he
 have hrr:=HA.out.1.later (HB3.out.trans (hb4.mono HB3.out.size))
 have ca:=hrr.cells
 have cb:=hrb.cells
 obtain⟨a1,k,c2,kc1⟩:=hrr.clear
 have HP:Hid (RG w4 (fun j=>w3.heap.size≤j∧j<w4.heap.size) kb∧(∀j,(w1.heap.size≤j∧j<w2.heap.size)→¬(w3.heap.size≤j∧j<w4.heap.size))∧(∀j,(w1.heap.size≤j∧j<w2.heap.size)→w.heap.size≤j)∧(∀j,(w3.heap.size≤j∧j<w4.heap.size)→w.heap.size≤j)∧Below w.heap.size w w4):=by
  have y1:=HB1.out.size
  have y2:=HA.out.2.size
  have y3:=HB3.out.size
  exact⟨hrb,fun j h1 h2=>by omega,fun j h1=>by omega,fun j h1=>by omega,((HB1.out.trans (HA.out.2.mono y1)).trans (HB3.out.mono (by omega))).trans (hb4.mono (by omega))⟩
 clear kr2 hR hrb hb4 hrr HA HB1 HB3 HN3
 go_wp2_with fail
 refine kc1.mono ?_
 rintro e w5 ⟨rfl,c4,km⟩
 clear kc1 c2 ca cb
 go_wp2_with fail
 refine km.mono ?_
 rintro e w6 ⟨rfl,hr6,hk6⟩
 have HI6:Hid (PlI w w6 ka kb):=PlI.a hr6 hk6 HP.out.1 HP.out.2.1 HP.out.2.2.1 HP.out.2.2.2.1 HP.out.2.2.2.2
 have kn:=num6_any 0 w6
 clear km hr6 hk6 HP c4
 go_wp2_with fail
 refine kn.mono ?_
 rintro e wx ⟨rfl,hwx⟩
 have hwx':=hwx.symm
 subst hwx'
 clear hwx kn
 obtain⟨E1,E2,r1,r2,r3,r4,r5,r6⟩:=HI6.out
 obtain⟨a2,c3,kl⟩:=r1.looks
 have HI:Hid (RG w6 E2 kb∧(∀j,E1 j→¬E2 j)∧(∀j,E1 j→w.heap.size≤j)∧(∀j,E2 j→w.heap.size≤j)∧Below w.heap.size w w6):=⟨r2,r3,r4,r5,r6⟩
 clear r1 r2 r3 r4 r5 r6 HI6
 go_wp2_with fail
 refine kl.mono ?_
 rintro e w7 ⟨rfl,hr7,hk7⟩
 have HI7:Hid (PlI w w7 ka kb):=PlI.a hr7 hk7 HI.out.1 HI.out.2.1 HI.out.2.2.1 HI.out.2.2.2.1 HI.out.2.2.2.2
 clear kl hr7 hk7 HI c3
 go_wp2
 go_loopw [13] (fun iv wr=>∃i:Nat,i≤sn∧iv= .int .i64 (i:Int)∧PlI w wr ka kb) (fun iv _=>sn-(intOf iv).toNat)
 case atStart=>exact⟨0,Nat.zero_le _,rfl,HI7.out⟩
 case round=>
  clear HI7
  obtain⟨i,hi,rfl,hI⟩:=hrel
  have HJ:=Hid.mk hI
  clear hI
  by_cases hlt:i<sn
  ·have hlt':(i:Int)<(sn:Int):=by omega
   by_cases hl2:i<3000
   ·have hl2':(i:Int)<3000:=by omega
    have hbw:Below w.heap.size w wr:=by obtain⟨E1,E2,_,_,_,_,_,r6⟩:=HJ.out;exact r6
    cases sa with
    |none=>have:=HST.out.1.1 rfl;omega
    |some y=>
    obtain⟨b,o,rfl,hbb,kd,N,who,two,da,dn,dc,dl,s0,s1,s2,s3,s4,hN,hsr,hby,hdn,hsl⟩:=(HST.out.1.far hbw).2 y rfl i hlt
    have hkc:∀j,j<3→wr.cell? ⟨kk,j,none⟩=some (.int .i64 (kAt j)):=fun j hj=>(World.cell?_of_block (w:=w) (a:=⟨kk,j,none⟩) (hbw.block kk hkk)).trans (HST.out.2 j hj)
    have HK:=Hid.mk (And.intro hkc (And.intro s0 (And.intro s1 (And.intro s2 (And.intro s3 s4)))))
    have HD:=Hid.mk (And.intro hN (And.intro hsr (And.intro hsl (And.intro hby hdn))))
    have hi0:(0:Int)≤(i:Int):=by omega
    clear hkc s0 s1 s2 s3 s4 hN hsr hsl hby hdn hbw hbb
    go_wp2
    rename World=>wo
    go_loopw [14,15] (fun nv jv wx=>∃j:Nat,j≤3∧jv= .int .i64 (j:Int)∧nv= .bool (inB kd j)∧Below wo.heap.size wo wx) (fun _ jv _=>3-(intOf jv).toNat)
    case atStart=>exact⟨0,Nat.zero_le _,rfl,rfl,Below.refl _ _⟩
    case round=>
     obtain⟨j,hj,rfl,rfl,hbx⟩:=hrel
     by_cases hlt3:j<3
     ·have hlt3':(j:Int)<3:=by omega
      have hj0:(0:Int)≤(j:Int):=by omega
      have k0:=cell_later hbx (HK.out.1 j hlt3)
      have t0:=cell_later hbx HK.out.2.1
      cases hin:inB kd j
      ·have HIn:Hid (inB kd (j+1)=(kAt j == kd)):=by show (inB kd j || (kAt j == kd))=_;rw [hin];rfl
       clear hin
       generalize kAt j=kv at*
       go_wp2
       go_quiet (fail)
       go_wp2
       go_roundw
       case rel=>exact⟨j+1,by omega,by go_num,by rw [HIn.out],below_drewN hbx _⟩
       case measure=>simp [intOf];omega
      ·have HIn:Hid (inB kd (j+1)=true):=by show (inB kd j || (kAt j == kd))=_;rw [hin];rfl
       clear hin k0
       go_wp2
       go_quiet (fail)
       go_wp2
       go_roundw
       case rel=>exact⟨j+1,by omega,by go_num,by rw [HIn.out],below_drewN hbx _⟩
       case measure=>simp [intOf];omega
     ·obtain rfl:j=3:=by omega
      have hlt3':¬(3:Int)<3:=by omega
      have HJ2:=Hid.mk (HJ.out.later hbx)
      cases hin:inB kd 3
      ·clear hin
       go_wp2
       go_roundw
       case rel=>exact⟨i+1,by omega,by go_num,HJ2.out⟩
       case measure=>simp [intOf];omega
      ·have hkd:=inB_three hin
       have t0:=cell_later hbx HK.out.2.1
       have t1:=cell_later hbx HK.out.2.2.1
       have t2:=cell_later hbx HK.out.2.2.2.1
       have t3:=cell_later hbx HK.out.2.2.2.2.1
       have t4:=cell_later hbx HK.out.2.2.2.2.2
       have hsr:=HD.out.2.1.later hbx
       have HKd:=Hid.mk hkd
       clear hin hkd
       cases two
       ·have kst:=HJ2.out.step (who:=who) (two:=false) (dc:=dc) HD.out.1 hsr HD.out.2.2.1 HD.out.2.2.2.1 HD.out.2.2.2.2 kd HKd.out
        clear hsr
        go_wp2_with fail
        refine kst.mono ?_
        rintro e w8 ⟨rfl,hI8⟩
        have HI8:=Hid.mk hI8
        clear kst hI8 t0 t1 t2 t3 t4
        go_wp2
        go_roundw
        case rel=>exact⟨i+1,by omega,by go_num,HI8.out⟩
        case measure=>simp [intOf];omega
       ·have kst:=HJ2.out.swap.step (who:=who) (two:=true) (dc:=dc) HD.out.1 hsr HD.out.2.2.1 HD.out.2.2.2.1 HD.out.2.2.2.2 kd HKd.out
        clear hsr
        go_wp2_with fail
        refine kst.mono ?_
        rintro e w8 ⟨rfl,hI8⟩
        have HI8:=Hid.mk hI8.swap
        clear kst hI8 t0 t1 t2 t3 t4
        go_wp2
        go_roundw
        case rel=>exact⟨i+1,by omega,by go_num,HI8.out⟩
        case measure=>simp [intOf];omega
   ·have hl2':¬(i:Int)<3000:=by omega
    go_wp2
    go_ret
    obtain⟨E1,E2,_,_,_,_,_,r6⟩:=HJ.out
    exact⟨rfl,r6⟩
  ·have hlt':¬(i:Int)<(sn:Int):=by omega
   go_wp2
   go_ret
   obtain⟨E1,E2,_,_,_,_,_,r6⟩:=HJ.out
   exact⟨rfl,r6⟩
end Go.Proofs.YtcakbbkbgfhfaaaGreat
end

section
namespace Go.Proofs.YtcakbbkbgfhfaaaGreat
open Go.ChangeShapes Go.WideShapes Go.ChangeAt Go.RowKit Go.Deep
set_option maxRecDepth 20000 in
set_option maxHeartbeats 4000000 in
theorem poolClears_any (B1 L1 N1 B2 L2 N2:Int) (i1:I64 B1) (i2:I64 L1) (i3:I64 N1) (i4:I64 B2) (i5:I64 L2) (i6:I64 N2) (sa:Option Addr) (sn sc:Nat) (w:World) (hst:Steps6 w w.heap.size sa sn) (hsn:48*sn≤140737488355328):
  Calls Tryz.prog 6 #[.agg #[.int .i64 B1, .int .i64 L1, .int .i64 N1], .agg #[.int .i64 B2, .int .i64 L2, .int .i64 N2], .slice sa sn sc] w fun e w'=>e= .returned (.bool true)∧Below w.heap.size w w':=by
 have b1:=below_box w (.cells #[.int .i64 B1, .int .i64 L1, .int .i64 N1] 23)
 have b2:=below_box (w.alloc (.cells #[.int .i64 B1, .int .i64 L1, .int .i64 N1] 23)) (.cells #[.int .i64 B2, .int .i64 L2, .int .i64 N2] 23)
 have n1:=heap_alloc_new w (.cells #[.int .i64 B1, .int .i64 L1, .int .i64 N1] 23)
 have n2:=heap_alloc_new (w.alloc (.cells #[.int .i64 B1, .int .i64 L1, .int .i64 N1] 23)) (.cells #[.int .i64 B2, .int .i64 L2, .int .i64 N2] 23)
 have z1:(w.alloc (.cells #[.int .i64 B1, .int .i64 L1, .int .i64 N1] 23)).heap.size=w.heap.size+1:=by rw [World.size_alloc]
 have z2:((w.alloc (.cells #[.int .i64 B1, .int .i64 L1, .int .i64 N1] 23)).alloc (.cells #[.int .i64 B2, .int .i64 L2, .int .i64 N2] 23)).heap.size=w.heap.size+2:=by rw [World.size_alloc,z1]
 rw [z1] at n2
 have n1':=(b2.block _ (lt_there n1)).trans n1
 have b12:Below w.heap.size w _:=b1.trans (b2.mono b1.size)
 have g0:=cell_of_block n1' (j:=0) rfl
 have g1:=cell_of_block n1' (j:=1) rfl
 have g2:=cell_of_block n1' (j:=2) rfl
 have g3:=cell_of_block n2 (j:=0) rfl
 have g4:=cell_of_block n2 (j:=1) rfl
 have g5:=cell_of_block n2 (j:=2) rfl
 have b3:=below_box ((w.alloc (.cells #[.int .i64 B1, .int .i64 L1, .int .i64 N1] 23)).alloc (.cells #[.int .i64 B2, .int .i64 L2, .int .i64 N2] 23)) (.cells #[.int .i64 1, .int .i64 7, .int .i64 11] 3)
 have n3:=heap_alloc_new ((w.alloc (.cells #[.int .i64 B1, .int .i64 L1, .int .i64 N1] 23)).alloc (.cells #[.int .i64 B2, .int .i64 L2, .int .i64 N2] 23)) (.cells #[.int .i64 1, .int .i64 7, .int .i64 11] 3)
 rw [z2] at n3
 have b123:Below w.heap.size w _:=b12.trans (b3.mono b12.size)
 have kp:=plays_any B1 L1 N1 B2 L2 N2 i1 i2 i3 i4 i5 i6 sa sn sc (w.heap.size+2) 3 (((w.alloc (.cells #[.int .i64 B1, .int .i64 L1, .int .i64 N1] 23)).alloc (.cells #[.int .i64 B2, .int .i64 L2, .int .i64 N2] 23)).alloc (.cells #[.int .i64 1, .int .i64 7, .int .i64 11] 3)) ((hst.far b123).mono b123.size) hsn (lt_there n3) (fun j hj=>cell_of_block n3 (j:=j) (by
  match j,hj with
  |0,_=>rfl
  |1,_=>rfl
  |2,_=>rfl))
 have HB:=Hid.mk b123
 clear i1 i2 i3 i4 i5 i6 b1 b2 n1 n2 n1' b12 b3 n3 b123 hst z1 z2
 go_enter Tryz.func6,Tryz.ntmps6
 go_wp2_with fail
 refine kp.mono ?_
 rintro e w4 ⟨rfl,hb4⟩
 have HE:=Hid.mk (HB.out.trans (hb4.mono HB.out.size))
 clear kp hb4 g0 g1 g2 g3 g4 g5
 go_wp2
 go_ret
 exact⟨rfl,HE.out⟩
end Go.Proofs.YtcakbbkbgfhfaaaGreat
end
