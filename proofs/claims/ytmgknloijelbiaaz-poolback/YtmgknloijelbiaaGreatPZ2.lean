import Derived.Test.YtmgknloijelbiaaGreatPZ1
namespace Go.Proofs.YtmgknloijelbiaaGreat
open Go.RowKit Go.Maps
section
variable {w:World} {F:Nat→Prop} {p s cR q l m t n a1:Nat} {S:DS} {G:SG} {T:TG}
theorem get6_any (h:TX w F p s cR q l m t n S G T) (b:Nat) (r0:T.refusal G S b=0):Calls Tryz.prog 35 #[.pointer (some ⟨t,0,none⟩), .int .i64 (b:Int)] w fun e w'=>(∃g,e= .returned (.tuple #[.slice (some ⟨g,0,none⟩) 512 512, .int .i64 0])∧w.heap.size≤g∧Blk w' 107 g (T.sees G S b))∧TX w' F p s (cR+1) q l m t n S G T∧Keeps F w w':=
   (Get_any h.st h.tx (b:Int) h.big).mono (fun e w' ⟨hx,hd,hk⟩=>by
  unfold GetOut at hx
  rw [if_neg (fun hh=>hh r0),Int.toNat_natCast] at hx
  exact⟨hx,h.asked hd hk,hk⟩)
set_option maxRecDepth 20000 in
set_option maxHeartbeats 4000000 in
theorem bitmaps_any (h:TX w F p s cR q l m t n S G T) (hp:PoolAt w F a1 t n) (r0:T.refusal G S (0:Nat)=0) (r1:T.refusal G S (1:Nat)=0) (h2:2≤G.y.blocks):
  Calls Tryz.prog 17 #[.pointer (some ⟨a1,0,none⟩)] w fun e w'=>∃g c,e= .returned (.slice (some ⟨g,0,none⟩) 1024 c)∧w.heap.size≤g∧RowAt w' 5 g c (bs (T.maps G S))∧TX w' F p s (cR+2) q l m t n S G T∧Keeps (OwT F t n) w w':=by
 have k1:=get6_any h 0 r0
 have hla:=h.len 0 (by omega)
 have hlc:=h.len 1 (by omega)
 unfold TG.maps
 have c0:=hp.c0
 have hlt:=h.st.d.lt
 have HP:=Hid.mk hp
 have HR:=Hid.mk r1
 have HLT:=Hid.mk hlt
 clear h hp r0 r1 hlt
 have k2:=fun (w1:World) (hx1:TX w1 F p s (cR+1) q l m t n S G T)=>get6_any hx1 1 HR.out
 generalize T.sees G S 0=A at*
 generalize T.sees G S 1=C at*
 go_enter Tryz.func17,Tryz.ntmps17
 go_wp2_with fail
 refine k1.mono ?_
 rintro e w1 ⟨⟨g,rfl,hg,hblk⟩,hx1,hk1⟩
 have hp1:=HP.out.keep (hk1.mono (fun _ h=> .inl h))
 have c0':=hp1.c0
 have k3:=k2 w1 hx1
 have HE1:=Hid.mk (And.intro hblk hk1)
 clear k1 k2 hx1 hp1 c0 hblk hk1
 go_wp2_with fail
 refine k3.mono ?_
 rintro e w2 ⟨⟨g2,rfl,hg2,hblk2⟩,hx2,hk2⟩
 have kn:=num6_any 0 w2
 have hb1:Blk w2 107 g A:=(hk2.block g HE1.out.1.lt (fun hf=>by have:=HLT.out g hf;omega)).trans HE1.out.1
 have hK:Hid (Keeps (OwT F t n) w w2):=(HE1.out.2.trans hk2 (fun _ h=> .inl h)).mono (fun _ h=> .inl h)
 have hz2:w.heap.size≤w2.heap.size:=hK.out.size
 have HX:=Hid.mk hx2
 have HA:=Hid.mk hb1
 have HC:=Hid.mk hblk2
 clear k3 hx2 hb1 hblk2 hk2 HE1 HR HP c0' HLT hg hg2
 go_wp2_with fail
 refine kn.mono ?_
 rintro e wx ⟨rfl,hwx⟩
 have hwx':=hwx.symm
 subst hwx'
 clear hwx
 go_wp2_with fail
 refine kn.mono ?_
 rintro e wx ⟨rfl,hwx⟩
 have hwx':=hwx.symm
 subst hwx'
 clear hwx kn
 go_wp2
 go_loopw [7,8] (fun v i wr=>∃j:Nat,j≤512∧i= .int .i64 (j:Int)∧Own wr w2.heap.size v (A.take j)∧Below w2.heap.size w2 wr) (fun _ i _=>512-(intOf i).toNat)
 case atStart=>exact⟨0,Nat.zero_le _,rfl,Own.nil _ _,Below.refl _ _⟩
 case round=>
  obtain⟨j,hj,rfl,hown,hbx⟩:=hrel
  have Hown:=Hid.mk hown
  have HBx:=Hid.mk hbx
  have hzx:=hbx.size
  clear hown hbx
  by_cases hlm:j<512
  ·have hlm':(j:Int)<512:=by omega
   have hc:=cell_later HBx.out (HA.out.cell (i:=j) (by omega))
   have HeN:=Hid.mk (take_snoc A j (by omega))
   have hll:(A.take j).length≤512:=by rw [List.length_take];omega
   generalize A.getD j 0=x at*
   go_wp2_with (at_builtin;refine wpList_app1 rfl _ _ rfl w2.heap.size u7 _ x rfl rfl Hown.out ?b1 ?b2 ?_)
   case b1=>omega
   case b2=>exact hzx
   intro v' w' ho hb'
   have HO:Hid (Own w' w2.heap.size v' (A.take (j+1))):=by rw [←HeN.out];exact ho
   have HB':=Hid.mk (HBx.out.trans hb')
   clear ho hb' Hown HBx HeN
   go_wp2
   go_roundw
   case rel=>exact⟨j+1,by omega,by go_num,HO.out,HB'.out⟩
   case measure=>simp [intOf];omega
  ·have hlm':¬(j:Int)<512:=by omega
   have HO:Hid (Own wr w2.heap.size u7 (A ++ C.take 0)):=by
    have:=Hown.out
    rw [List.take_of_length_le (by omega)] at this
    show Own _ _ _ _
    simpa using this
   clear Hown
   go_wp2
   go_loopw [7,9] (fun v i wy=>∃j:Nat,j≤512∧i= .int .i64 (j:Int)∧Own wy w2.heap.size v (A ++ C.take j)∧Below w2.heap.size w2 wy) (fun _ i _=>512-(intOf i).toNat)
   case atStart=>exact⟨0,Nat.zero_le _,rfl,HO.out,HBx.out⟩
   case round=>
    clear HO HBx hlm hlm' hzx hj
    obtain⟨j,hj,rfl,hown,hbx⟩:=hrel
    have Hown:=Hid.mk hown
    have HBx:=Hid.mk hbx
    have hzx:=hbx.size
    clear hown hbx
    by_cases hlm:j<512
    ·have hlm':(j:Int)<512:=by omega
     have hc:=cell_later HBx.out (HC.out.cell (i:=j) (by omega))
     have HeN:=Hid.mk (take_snoc C j (by omega))
     have hll:(A ++ C.take j).length≤1024:=by rw [List.length_append,List.length_take];omega
     generalize C.getD j 0=x at*
     go_wp2_with (at_builtin;refine wpList_app1 rfl _ _ rfl w2.heap.size u7 _ x rfl rfl Hown.out ?b1 ?b2 ?_)
     case b1=>omega
     case b2=>exact hzx
     intro v' w' ho hb'
     have HO:Hid (Own w' w2.heap.size v' (A ++ C.take (j+1))):=by rw [←HeN.out];exact ho
     have HB':=Hid.mk (HBx.out.trans hb')
     clear ho hb' Hown HBx HeN
     go_wp2
     go_roundw
     case rel=>exact⟨j+1,by omega,by go_num,HO.out,HB'.out⟩
     case measure=>simp [intOf];omega
    ·have hlm':¬(j:Int)<512:=by omega
     have ho:=Hown.out
     rw [List.take_of_length_le (by omega)] at ho
     have hAC:(A ++ C).length=1024:=by rw [List.length_append];omega
     obtain⟨g5,c5,e5,hg5,hr5⟩:=ho.row' (by omega)
     rw [hAC] at e5
     subst e5
     have HE:=Hid.mk (And.intro hg5 hr5)
     clear Hown ho hg5 hr5
     go_wp2
     go_ret
     exact⟨g5,c5,rfl,by have:=HE.out.1;omega,by rw [←List.map_append];exact HE.out.2,HX.out.later HBx.out,hK.out.trans (Keeps.of_below (fun _=>False) HBx.out) (fun _ h=>h.elim)⟩
end
end Go.Proofs.YtmgknloijelbiaaGreat
