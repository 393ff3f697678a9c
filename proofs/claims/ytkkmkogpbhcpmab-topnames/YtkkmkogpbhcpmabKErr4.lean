import Derived.Test.YtkkmkogpbhcpmabKErr3
namespace Go.Proofs.Ytkkmkogpbhcpmab
open Go.RowKit

set_option maxRecDepth 100000 in
set_option maxHeartbeats 40000000 in
theorem words_any (w : World) : Calls Try.prog 44 #[] w fun r w' => r = .returned (.bool true) ∧ Below w.heap.size w w' := by
  have HB := Hid.mk (Below.refl w.heap.size w)
  go_enter Try.func44, Try.ntmps44
  go_wp2_with fail
  refine (er0 _).mono ?_
  rintro e w0 ⟨rfl, hb0⟩
  have HB0 : Hid (Below w.heap.size w w0) := HB.out.trans (hb0.mono HB.out.size)
  clear hb0 HB
  go_wp2_with fail
  refine (er1 _).mono ?_
  rintro e w1 ⟨rfl, hb1⟩
  have HB1 : Hid (Below w.heap.size w w1) := HB0.out.trans (hb1.mono HB0.out.size)
  clear hb1 HB0
  go_wp2_with fail
  refine (er2 _).mono ?_
  rintro e w2 ⟨rfl, hb2⟩
  have HB2 : Hid (Below w.heap.size w w2) := HB1.out.trans (hb2.mono HB1.out.size)
  clear hb2 HB1
  go_wp2_with fail
  refine (er3 _).mono ?_
  rintro e w3 ⟨rfl, hb3⟩
  have HB3 : Hid (Below w.heap.size w w3) := HB2.out.trans (hb3.mono HB2.out.size)
  clear hb3 HB2
  go_wp2_with fail
  refine (er4 _).mono ?_
  rintro e w4 ⟨rfl, hb4⟩
  have HB4 : Hid (Below w.heap.size w w4) := HB3.out.trans (hb4.mono HB3.out.size)
  clear hb4 HB3
  go_wp2_with fail
  refine (er5 _).mono ?_
  rintro e w5 ⟨rfl, hb5⟩
  have HB5 : Hid (Below w.heap.size w w5) := HB4.out.trans (hb5.mono HB4.out.size)
  clear hb5 HB4
  go_wp2_with fail
  refine (er6 _).mono ?_
  rintro e w6 ⟨rfl, hb6⟩
  have HB6 : Hid (Below w.heap.size w w6) := HB5.out.trans (hb6.mono HB5.out.size)
  clear hb6 HB5
  go_wp2_with fail
  refine (er7 _).mono ?_
  rintro e w7 ⟨rfl, hb7⟩
  have HB7 : Hid (Below w.heap.size w w7) := HB6.out.trans (hb7.mono HB6.out.size)
  clear hb7 HB6
  go_wp2_with fail
  refine (er8 _).mono ?_
  rintro e w8 ⟨rfl, hb8⟩
  have HB8 : Hid (Below w.heap.size w w8) := HB7.out.trans (hb8.mono HB7.out.size)
  clear hb8 HB7
  go_wp2_with fail
  refine (er9 _).mono ?_
  rintro e w9 ⟨rfl, hb9⟩
  have HB9 : Hid (Below w.heap.size w w9) := HB8.out.trans (hb9.mono HB8.out.size)
  clear hb9 HB8
  go_wp2_with fail
  refine (er10 _).mono ?_
  rintro e w10 ⟨rfl, hb10⟩
  have HB10 : Hid (Below w.heap.size w w10) := HB9.out.trans (hb10.mono HB9.out.size)
  clear hb10 HB9
  go_wp2_with fail
  refine (er11 _).mono ?_
  rintro e w11 ⟨rfl, hb11⟩
  have HB11 : Hid (Below w.heap.size w w11) := HB10.out.trans (hb11.mono HB10.out.size)
  clear hb11 HB10
  go_wp2_with fail
  refine (er12 _).mono ?_
  rintro e w12 ⟨rfl, hb12⟩
  have HB12 : Hid (Below w.heap.size w w12) := HB11.out.trans (hb12.mono HB11.out.size)
  clear hb12 HB11
  go_wp2_with fail
  refine (er13 _).mono ?_
  rintro e w13 ⟨rfl, hb13⟩
  have HB13 : Hid (Below w.heap.size w w13) := HB12.out.trans (hb13.mono HB12.out.size)
  clear hb13 HB12
  go_wp2_with fail
  refine (er14 _).mono ?_
  rintro e w14 ⟨rfl, hb14⟩
  have HB14 : Hid (Below w.heap.size w w14) := HB13.out.trans (hb14.mono HB13.out.size)
  clear hb14 HB13
  go_wp2_with fail
  refine (er15 _).mono ?_
  rintro e w15 ⟨rfl, hb15⟩
  have HB15 : Hid (Below w.heap.size w w15) := HB14.out.trans (hb15.mono HB14.out.size)
  clear hb15 HB14
  go_wp2_with fail
  refine (er16 _).mono ?_
  rintro e w16 ⟨rfl, hb16⟩
  have HB16 : Hid (Below w.heap.size w w16) := HB15.out.trans (hb16.mono HB15.out.size)
  clear hb16 HB15
  go_wp2_with fail
  refine (er17 _).mono ?_
  rintro e w17 ⟨rfl, hb17⟩
  have HB17 : Hid (Below w.heap.size w w17) := HB16.out.trans (hb17.mono HB16.out.size)
  clear hb17 HB16
  go_wp2_with fail
  refine (er18 _).mono ?_
  rintro e w18 ⟨rfl, hb18⟩
  have HB18 : Hid (Below w.heap.size w w18) := HB17.out.trans (hb18.mono HB17.out.size)
  clear hb18 HB17
  go_wp2_with fail
  refine (er19 _).mono ?_
  rintro e w19 ⟨rfl, hb19⟩
  have HB19 : Hid (Below w.heap.size w w19) := HB18.out.trans (hb19.mono HB18.out.size)
  clear hb19 HB18
  go_wp2_with fail
  refine (er20 _).mono ?_
  rintro e w20 ⟨rfl, hb20⟩
  have HB20 : Hid (Below w.heap.size w w20) := HB19.out.trans (hb20.mono HB19.out.size)
  clear hb20 HB19
  go_wp2_with fail
  refine (er21 _).mono ?_
  rintro e w21 ⟨rfl, hb21⟩
  have HB21 : Hid (Below w.heap.size w w21) := HB20.out.trans (hb21.mono HB20.out.size)
  clear hb21 HB20
  go_wp2_with fail
  refine (er22 _).mono ?_
  rintro e w22 ⟨rfl, hb22⟩
  have HB22 : Hid (Below w.heap.size w w22) := HB21.out.trans (hb22.mono HB21.out.size)
  clear hb22 HB21
  go_wp2_with fail
  refine (er23 _).mono ?_
  rintro e w23 ⟨rfl, hb23⟩
  have HB23 : Hid (Below w.heap.size w w23) := HB22.out.trans (hb23.mono HB22.out.size)
  clear hb23 HB22
  go_wp2_with fail
  refine (er24 _).mono ?_
  rintro e w24 ⟨rfl, hb24⟩
  have HB24 : Hid (Below w.heap.size w w24) := HB23.out.trans (hb24.mono HB23.out.size)
  clear hb24 HB23
  go_wp2_with fail
  refine (er25 _).mono ?_
  rintro e w25 ⟨rfl, hb25⟩
  have HB25 : Hid (Below w.heap.size w w25) := HB24.out.trans (hb25.mono HB24.out.size)
  clear hb25 HB24
  go_wp2_with fail
  refine (er26 _).mono ?_
  rintro e w26 ⟨rfl, hb26⟩
  have HB26 : Hid (Below w.heap.size w w26) := HB25.out.trans (hb26.mono HB25.out.size)
  clear hb26 HB25
  go_wp2_with fail
  refine (er27 _).mono ?_
  rintro e w27 ⟨rfl, hb27⟩
  have HB27 : Hid (Below w.heap.size w w27) := HB26.out.trans (hb27.mono HB26.out.size)
  clear hb27 HB26
  go_wp2_with fail
  refine (er28 _).mono ?_
  rintro e w28 ⟨rfl, hb28⟩
  have HB28 : Hid (Below w.heap.size w w28) := HB27.out.trans (hb28.mono HB27.out.size)
  clear hb28 HB27
  go_wp2_with fail
  refine (er29 _).mono ?_
  rintro e w29 ⟨rfl, hb29⟩
  have HB29 : Hid (Below w.heap.size w w29) := HB28.out.trans (hb29.mono HB28.out.size)
  clear hb29 HB28
  go_wp2_with fail
  refine (er30 _).mono ?_
  rintro e w30 ⟨rfl, hb30⟩
  have HB30 : Hid (Below w.heap.size w w30) := HB29.out.trans (hb30.mono HB29.out.size)
  clear hb30 HB29
  go_wp2_with fail
  refine (er31 _).mono ?_
  rintro e w31 ⟨rfl, hb31⟩
  have HB31 : Hid (Below w.heap.size w w31) := HB30.out.trans (hb31.mono HB30.out.size)
  clear hb31 HB30
  go_wp2_with fail
  refine (er32 _).mono ?_
  rintro e w32 ⟨rfl, hb32⟩
  have HB32 : Hid (Below w.heap.size w w32) := HB31.out.trans (hb32.mono HB31.out.size)
  clear hb32 HB31
  go_wp2_with fail
  refine (er33 _).mono ?_
  rintro e w33 ⟨rfl, hb33⟩
  have HB33 : Hid (Below w.heap.size w w33) := HB32.out.trans (hb33.mono HB32.out.size)
  clear hb33 HB32
  go_wp2_with fail
  refine (er34 _).mono ?_
  rintro e w34 ⟨rfl, hb34⟩
  have HB34 : Hid (Below w.heap.size w w34) := HB33.out.trans (hb34.mono HB33.out.size)
  clear hb34 HB33
  go_wp2_with fail
  refine (er35 _).mono ?_
  rintro e w35 ⟨rfl, hb35⟩
  have HB35 : Hid (Below w.heap.size w w35) := HB34.out.trans (hb35.mono HB34.out.size)
  clear hb35 HB34
  go_wp2_with fail
  refine (er36 _).mono ?_
  rintro e w36 ⟨rfl, hb36⟩
  have HB36 : Hid (Below w.heap.size w w36) := HB35.out.trans (hb36.mono HB35.out.size)
  clear hb36 HB35
  go_wp2_with fail
  refine (er37 _).mono ?_
  rintro e w37 ⟨rfl, hb37⟩
  have HB37 : Hid (Below w.heap.size w w37) := HB36.out.trans (hb37.mono HB36.out.size)
  clear hb37 HB36
  go_wp2_with fail
  refine (er38 _).mono ?_
  rintro e w38 ⟨rfl, hb38⟩
  have HB38 : Hid (Below w.heap.size w w38) := HB37.out.trans (hb38.mono HB37.out.size)
  clear hb38 HB37
  go_wp2_with fail
  refine (er39 _).mono ?_
  rintro e w39 ⟨rfl, hb39⟩
  have HB39 : Hid (Below w.heap.size w w39) := HB38.out.trans (hb39.mono HB38.out.size)
  clear hb39 HB38
  go_wp2_with fail
  refine (er40 _).mono ?_
  rintro e w40 ⟨rfl, hb40⟩
  have HB40 : Hid (Below w.heap.size w w40) := HB39.out.trans (hb40.mono HB39.out.size)
  clear hb40 HB39
  go_wp2_with fail
  refine (er41 _).mono ?_
  rintro e w41 ⟨rfl, hb41⟩
  have HB41 : Hid (Below w.heap.size w w41) := HB40.out.trans (hb41.mono HB40.out.size)
  clear hb41 HB40
  go_wp2_with fail
  refine (er42 _).mono ?_
  rintro e w42 ⟨rfl, hb42⟩
  have HB42 : Hid (Below w.heap.size w w42) := HB41.out.trans (hb42.mono HB41.out.size)
  clear hb42 HB41
  go_wp2_with fail
  refine (er43 _).mono ?_
  rintro e w43 ⟨rfl, hb43⟩
  have HB43 : Hid (Below w.heap.size w w43) := HB42.out.trans (hb43.mono HB42.out.size)
  clear hb43 HB42
  go_wp2_with fail
  refine (er44 _).mono ?_
  rintro e w44 ⟨rfl, hb44⟩
  have HB44 : Hid (Below w.heap.size w w44) := HB43.out.trans (hb44.mono HB43.out.size)
  clear hb44 HB43
  go_wp2_with fail
  refine (er45 _).mono ?_
  rintro e w45 ⟨rfl, hb45⟩
  have HB45 : Hid (Below w.heap.size w w45) := HB44.out.trans (hb45.mono HB44.out.size)
  clear hb45 HB44
  go_wp2_with fail
  refine (er46 _).mono ?_
  rintro e w46 ⟨rfl, hb46⟩
  have HB46 : Hid (Below w.heap.size w w46) := HB45.out.trans (hb46.mono HB45.out.size)
  clear hb46 HB45
  go_wp2_with fail
  refine (er47 _).mono ?_
  rintro e w47 ⟨rfl, hb47⟩
  have HB47 : Hid (Below w.heap.size w w47) := HB46.out.trans (hb47.mono HB46.out.size)
  clear hb47 HB46
  go_wp2_with fail
  refine (er48 _).mono ?_
  rintro e w48 ⟨rfl, hb48⟩
  have HB48 : Hid (Below w.heap.size w w48) := HB47.out.trans (hb48.mono HB47.out.size)
  clear hb48 HB47
  go_wp2_with fail
  refine (er49 _).mono ?_
  rintro e w49 ⟨rfl, hb49⟩
  have HB49 : Hid (Below w.heap.size w w49) := HB48.out.trans (hb49.mono HB48.out.size)
  clear hb49 HB48
  go_wp2_with fail
  refine (er50 _).mono ?_
  rintro e w50 ⟨rfl, hb50⟩
  have HB50 : Hid (Below w.heap.size w w50) := HB49.out.trans (hb50.mono HB49.out.size)
  clear hb50 HB49
  go_wp2_with fail
  refine (er51 _).mono ?_
  rintro e w51 ⟨rfl, hb51⟩
  have HB51 : Hid (Below w.heap.size w w51) := HB50.out.trans (hb51.mono HB50.out.size)
  clear hb51 HB50
  go_wp2_with fail
  refine (er52 _).mono ?_
  rintro e w52 ⟨rfl, hb52⟩
  have HB52 : Hid (Below w.heap.size w w52) := HB51.out.trans (hb52.mono HB51.out.size)
  clear hb52 HB51
  go_wp2_with fail
  refine (er53 _).mono ?_
  rintro e w53 ⟨rfl, hb53⟩
  have HB53 : Hid (Below w.heap.size w w53) := HB52.out.trans (hb53.mono HB52.out.size)
  clear hb53 HB52
  go_wp2_with fail
  refine (er54 _).mono ?_
  rintro e w54 ⟨rfl, hb54⟩
  have HB54 : Hid (Below w.heap.size w w54) := HB53.out.trans (hb54.mono HB53.out.size)
  clear hb54 HB53
  go_wp2
  go_ret
  exact ⟨rfl, HB54.out⟩
end Go.Proofs.Ytkkmkogpbhcpmab
