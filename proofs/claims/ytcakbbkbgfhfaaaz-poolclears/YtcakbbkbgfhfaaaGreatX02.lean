import Derived.Test.YtcakbbkbgfhfaaaGreatW27
import Derived.Test.YtcakbbkbgfhfaaaGreatX01
section
namespace Go.Proofs.YtcakbbkbgfhfaaaGreat
open Go.RowKit
def lowTo (m:Nat):List Bool:=List.replicate m true ++ List.replicate (4096-m) false
theorem lowTo_zero:lowTo 0=List.replicate 4096 false:=by unfold lowTo;rw [List.replicate_zero,List.nil_append,Nat.sub_zero]
theorem lowTo_len {m:Nat} (hm:m≤4096):(lowTo m).length=4096:=by unfold lowTo;rw [List.length_append,List.length_replicate,List.length_replicate];omega
theorem lowTo_set {m:Nat} (hm:m<4096):(lowTo m).set m true=lowTo (m+1):=by
 unfold lowTo
 rw [List.set_append_right _ _ (by rw [List.length_replicate];exact Nat.le_refl _),List.length_replicate,Nat.sub_self,show 4096-m=(4096-(m+1))+1 by omega,List.replicate_succ,List.set_cons_zero,List.replicate_succ' (n:=m),List.append_assoc]
 rfl
theorem lowTo_get {m i:Nat} (hi:i<4096):(lowTo m).getD i false=decide (i<m):=by
 unfold lowTo
 by_cases h:i<m
 ·rw [List.getD,List.getElem?_append_left (by rw [List.length_replicate];exact h),List.getElem?_replicate,if_pos h]
  simp [h]
 ·rw [List.getD,List.getElem?_append_right (by rw [List.length_replicate];omega),List.length_replicate,List.getElem?_replicate,if_pos (by omega)]
  simp [h]
theorem lowTo_is {m:Nat} (hm:m≤4096):lowTo m=lowB m:=by
 apply List.ext_getElem ((lowTo_len hm).trans (lowB_len m).symm)
 intro i h1 h2
 have hi:i<4096:=by rw [lowB_len] at h2;exact h2
 have e1:=lowB_get m hi
 have e2:=lowTo_get (m:=m) hi
 rw [List.getD,List.getElem?_eq_getElem h2,Option.getD_some] at e1
 rw [List.getD,List.getElem?_eq_getElem h1,Option.getD_some] at e2
 rw [e1,e2]
section
variable {w w':World} {X Y Z:Nat→Prop} {k B g' c':Nat} {M:MP} {l:List Bool} {d:List Int}
set_option maxRecDepth 20000 in
set_option maxHeartbeats 4000000 in
theorem mclear_any (h:MX w X k M) (hX:∀j,X j→j<w.heap.size) (hp:M.put.length≤16) (hn:M.nodes≤4096):
  Calls Tryz.prog 38 #[.pointer (some ⟨k,0,none⟩)] w fun e w'=>MO w w' X w.heap.size k M.clear e:=by
 have ks:=mstate_any h
 by_cases h0:M.state=0
 ·have hc:M.clear=if (M.lays 0 (lowB (2+M.nodes / 4))).1≠0 then M.lays 0 (lowB (2+M.nodes / 4)) else (M.lays 0 (lowB (2+M.nodes / 4))).2.lays 1 noBits:=by unfold MP.clear;rw [if_neg (fun e=>e h0)]
  rw [h0] at ks
  rw [hc]
  obtain⟨D,hD⟩:∃D,D=2+M.nodes / 4:=⟨_,rfl⟩
  have hD4:D≤4096:=by omega
  have c2':w.cell? ⟨k,2,none⟩=some (.int .i64 (D:Int)):=by
   obtain⟨g1,c1,g2,c2,g3,c3,g4,c4,v5,v6,v7,hm⟩:=h
   rw [hD]
   exact cell_of_block hm.b (j:=2) rfl
  rw [←hD]
  have hkl:k<w.heap.size:=by
   obtain⟨g1,c1,g2,c2,g3,c3,g4,c4,v5,v6,v7,hm⟩:=h
   exact lt_there hm.b
  obtain⟨R,hR⟩:∃R,R=M.lays 0 (lowB D):=⟨_,rfl⟩
  have HRp:Hid (R.2.put.length≤16):=by rw [hR];exact lays_len hp
  rw [←hR]
  have HR0:=Hid.mk hR
  have H:=Hid.mk (And.intro h (And.intro hX hp))
  clear h hX hc h0 hD hp hR
  go_enter Tryz.func38,Tryz.ntmps38
  go_wp2_with fail
  refine ks.mono ?_
  rintro e w0 ⟨rfl,hw0⟩
  have hw0':=hw0.symm
  subst hw0'
  clear hw0 ks
  have kn:=none_any w
  go_wp2_with fail
  refine kn.mono ?_
  rintro e w1 ⟨v,rfl,hbl,hb1⟩
  obtain⟨g,cg,hv,hg,hr⟩:=hbl.row (by simp)
  rw [List.length_replicate] at hv
  subst hv
  have hcg:4096≤cg:=by have:=hr.le;simpa [bls] using this
  have hcm:cg≤9223372036854775807:=by have:=hr.max;unfold maxLen at this;omega
  have HR:Hid (RowAt w1 4 g cg (bls (lowTo 0))∧Below w.heap.size w w1):=⟨by rw [lowTo_zero];exact hr,hb1⟩
  clear kn hbl hr hb1
  go_wp2
  go_loopw [5] (fun iv wr=>∃i:Nat,i≤D∧iv= .int .i64 (i:Int)∧RowAt wr 4 g cg (bls (lowTo i))∧Below w.heap.size w wr) (fun iv _=>D-(intOf iv).toNat)
  case atStart=>exact⟨0,Nat.zero_le _,rfl,HR.out⟩
  case round=>
   clear HR
   obtain⟨i,hi,rfl,hr,hb⟩:=hrel
   have c2'':=(World.cell?_of_block (w:=w) (a:=⟨k,2,none⟩) (hb.block k hkl)).trans c2'
   by_cases hlt:i<D
   ·have hlt':(i:Int)<(D:Int):=by omega
    have hi4:(i:Int)<4096:=by omega
    have hi0:(0:Int)≤(i:Int):=by omega
    have cm:=hr.truth (i:=i) (by rw [lowTo_len (by omega)];omega)
    have fm:=hr.thaw i
    have hset:=hr.setTruth i true
    rw [lowTo_set (by omega)] at hset
    have HE:=Hid.mk (And.intro hset (hb.trans ((Below.refl w.heap.size wr).setCell (p:=⟨g,i,none⟩) (by simpa using hg) (.bool true))))
    clear hr hb hset
    generalize (lowTo i).getD i false=z at*
    go_wp2
    go_roundw
    case rel=>exact⟨i+1,by omega,by go_num,HE.out⟩
    case measure=>simp [intOf];omega
   ·obtain rfl:i=D:=by omega
    have hlt':¬(i:Int)<(i:Int):=by omega
    rw [lowTo_is hD4] at hr
    have kl:=lays0_any (B:=w.heap.size) (H.out.1.apart (Keeps.of_below (fun _=>False) (show Below w.heap.size w wr from hb)) (fun _ h=>h.elim)) H.out.2.1 hb.size hg hr (lowB_len _) H.out.2.2
    have HB:=Hid.mk hb
    rw [←HR0.out] at kl
    clear hr hb
    by_cases hR0:R.1=0
    ·have HZ:=Hid.mk hR0
     unfold MO at kl
     rw [hR0] at kl
     clear hR0
     go_wp2_with fail
     refine kl.mono ?_
     rintro e w3 ⟨rfl,hm3,hk3⟩
     have kn2:=none_any w3
     have H3:=Hid.mk (And.intro hm3 hk3)
     clear kl hm3 hk3 c2''
     go_wp2_with fail
     refine kn2.mono ?_
     rintro e w4 ⟨v4,rfl,hbl4,hb4⟩
     obtain⟨g4,cg4,hv4,hg4,hr4⟩:=hbl4.row (by simp)
     rw [List.length_replicate] at hv4
     subst hv4
     have z0:=HB.out.size
     have z3:=H3.out.2.size
     have kl2:=lays1_any (B:=w3.heap.size) (H3.out.1.later hb4) (fun j hj=>by
      rcases hj with hj|hj
      ·have:=H.out.2.1 _ hj;omega
      ·exact hj.2) hb4.size hg4 (show RowAt w4 4 g4 cg4 (bls noBits) from hr4) (by unfold noBits;simp) HRp.out
     have HB4:=Hid.mk hb4
     clear kn2 hbl4 hb4 hr4
     go_wp2_with fail
     refine kl2.mono ?_
     rintro e w5 ⟨rfl,hm5,hk5⟩
     have HE:Hid (MX w5 (fun j=>X j∨(w.heap.size≤j∧j<w5.heap.size)) k (R.2.lays 1 noBits).2∧Keeps X w w5):=by
      have z4:=HB4.out.size
      have z5:=hk5.size
      refine⟨hm5.mono (fun j hj=>?_),(((Keeps.of_below X HB.out).trans H3.out.2 (fun _ h=> .inl h)).trans (Keeps.of_below (fun _=>False) HB4.out) (fun _ h=>h.elim)).trans hk5 (fun j hj=>hj.imp (fun e=>e) (fun e=>e.1))⟩
      rcases hj with (hj|hj)|hj
      ·exact .inl hj
      ·exact .inr ⟨hj.1,by have:=hj.2;omega⟩
      ·exact .inr ⟨by have:=hj.1;omega,hj.2⟩
     clear kl2 hm5 hk5 HB4 H3
     go_wp2
     go_ret
     try rw [if_neg (fun e=>e HZ.out)]
     exact⟨rfl,HE.out⟩
    ·have HZ:=Hid.mk hR0
     unfold MO at kl
     obtain⟨r,hr⟩:∃r,r=R.1:=⟨_,rfl⟩
     rw [←hr] at kl hR0
     have HRR:=Hid.mk hr
     clear hr
     go_wp2_with fail
     refine kl.mono ?_
     rintro e w3 ⟨rfl,hm3,hk3⟩
     have HE:Hid (MX w3 (fun j=>X j∨(w.heap.size≤j∧j<w3.heap.size)) k R.2∧Keeps X w w3):=⟨hm3,(Keeps.of_below X HB.out).trans hk3 (fun _ h=> .inl h)⟩
     clear kl hm3 hk3
     go_wp2
     go_ret
     try rw [if_pos HZ.out]
     exact⟨by rw [HRR.out];rfl,HE.out⟩
 ·have hc:M.clear=(M.state,M):=by unfold MP.clear;rw [if_pos h0]
  rw [hc]
  have H:=Hid.mk h
  clear h hX hc
  generalize M.state=x at*
  go_enter Tryz.func38,Tryz.ntmps38
  go_wp2_with fail
  refine ks.mono ?_
  rintro e w0 ⟨rfl,hw0⟩
  have hw0':=hw0.symm
  subst hw0'
  clear hw0 ks
  go_wp2
  go_ret
  exact⟨rfl,H.out.mono (fun _ h=> .inl h),Keeps.refl _ _⟩
end
end Go.Proofs.YtcakbbkbgfhfaaaGreat
end

section
namespace Go.Proofs.YtcakbbkbgfhfaaaGreat
open Go.RowKit
section
variable {w w':World} {X:Nat→Prop} {k:Nat} {M:MP} {d:List Int} {a:Option Addr} {c:Nat}
set_option maxRecDepth 20000 in
set_option maxHeartbeats 4000000 in
theorem mwmap_any (h:MX w X k M) (hX:∀j,X j→j<w.heap.size) (hp:M.put.length≤16) (hs:Src w a 512 d) (hd:Bytes d) (b:Nat) (hb:b=0∨b=1):
  Calls Tryz.prog 110 #[.pointer (some ⟨k,0,none⟩), .int .i64 (b:Int), .slice a 512 c] w fun e w'=>MO w w' X w.heap.size k (M.wmap b d) e:=by
 have ks:=mstate_any h
 have kf:=fromBytes_any (c:=c) hs hd
 by_cases h0:M.state=0
 ·have hc:M.wmap b d=M.lays b (blOf d):=by unfold MP.wmap;rw [if_neg (fun e=>e h0)]
  rw [h0] at ks
  rw [hc]
  obtain⟨R,hR⟩:∃R,R=M.lays b (blOf d):=⟨_,rfl⟩
  rw [←hR]
  have HR0:=Hid.mk hR
  have H:=Hid.mk (And.intro h (And.intro hX hp))
  clear h hX hc h0 hp hs hd hR
  have hbi:(b:Int)<2:=by omega
  go_enter Tryz.func110,Tryz.ntmps110
  go_wp2_with fail
  refine ks.mono ?_
  rintro e w0 ⟨rfl,hw0⟩
  have hw0':=hw0.symm
  subst hw0'
  clear hw0 ks
  go_wp2_with fail
  refine kf.mono ?_
  rintro e w1 ⟨g,c1,rfl,hg,hr,hb1⟩
  have kl:Calls Tryz.prog 65 #[.pointer (some ⟨k,0,none⟩), .int .i64 (b:Int),slB g c1] w1 fun e w'=>MO w1 w' X w.heap.size k R e:=by
   rw [HR0.out]
   rcases hb with rfl|rfl
   ·exact lays0_any (H.out.1.later hb1) H.out.2.1 hb1.size hg hr (blOf_len d) H.out.2.2
   ·exact lays1_any (H.out.1.later hb1) H.out.2.1 hb1.size hg hr (blOf_len d) H.out.2.2
  have HB:=Hid.mk hb1
  clear kf hr hb1
  go_wp2_with fail
  refine kl.mono ?_
  rintro e w2 ⟨rfl,hm2,hk2⟩
  have HE:=Hid.mk (And.intro hm2 ((Keeps.of_below X HB.out).trans hk2 (fun _ h=> .inl h)))
  clear kl hm2 hk2
  go_wp2
  go_ret
  exact⟨rfl,HE.out⟩
 ·have hc:M.wmap b d=(M.state,M):=by unfold MP.wmap;rw [if_pos h0]
  rw [hc]
  have H:=Hid.mk h
  clear h hX hc kf
  generalize M.state=x at*
  go_enter Tryz.func110,Tryz.ntmps110
  go_wp2_with fail
  refine ks.mono ?_
  rintro e w0 ⟨rfl,hw0⟩
  have hw0':=hw0.symm
  subst hw0'
  clear hw0 ks
  go_wp2
  go_ret
  exact⟨rfl,H.out.mono (fun _ h=> .inl h),Keeps.refl _ _⟩
def pad5 (l:List Int):List Int:=(List.range 512).map fun i=>l.getD i 0
theorem pad5_len (l:List Int):(pad5 l).length=512:=by simp [pad5]
theorem pad5_get (l:List Int) {i:Nat} (hi:i<512):(pad5 l).getD i 0=l.getD i 0:=by simp [pad5,List.getD,hi]
theorem pad5_bytes {l:List Int} (h:Bytes l):Bytes (pad5 l):=fun x hx=>by
 obtain⟨i,_,rfl⟩:=List.mem_map.1 hx
 exact getD_byte h i
set_option maxRecDepth 20000 in
set_option maxHeartbeats 4000000 in
theorem padded_any {n:Nat} {l:List Int} (hs:Src w a n l) (hn:n≤140737488355328):Calls Tryz.prog 109 #[.slice a n c] w fun e w'=>∃g c',e= .returned (.slice (some ⟨g,0,none⟩) 512 c')∧w.heap.size≤g∧RowAt w' 5 g c' (bs (pad5 l))∧Below w.heap.size w w':=by
 have HS:=Hid.mk hs
 have hln:l.length=n:=hs.1
 clear hs
 go_enter Tryz.func109,Tryz.ntmps109
 go_wp2
 go_loopw [3,4] (fun v iv wr=>∃j:Nat,j≤512∧iv= .int .i64 (j:Int)∧Own wr w.heap.size v ((pad5 l).take j)∧Below w.heap.size w wr) (fun _ iv _=>512-(intOf iv).toNat)
 case atStart=>exact⟨0,Nat.zero_le _,rfl,Own.nil _ _,Below.refl _ _⟩
 case round=>
  obtain⟨j,hj,rfl,hown,hbx⟩:=hrel
  have Hown:=Hid.mk hown
  have HBx:=Hid.mk hbx
  have hzx:=hbx.size
  clear hown hbx
  by_cases hlm:j<512
  ·have hlm':(j:Int)<512:=by omega
   have hll:((pad5 l).take j).length≤512:=by rw [List.length_take];omega
   have hsn:=take_snoc (pad5 l) j (by rw [pad5_len];exact hlm)
   rw [pad5_get l hlm] at hsn
   by_cases hjn:j<n
   ·have hjn':(j:Int)<(n:Int):=by omega
    cases a with
    |none=>have:=HS.out.2.1 rfl;omega
    |some y=>
    obtain⟨b,o,rfl,hc⟩:=HS.out.spot (by omega)
    have hc0:wr.cell? ⟨b,o+j,none⟩=some (.int .u8 (l.getD j 0)):=(World.cell?_of_block (w:=w) (a:=⟨b,o+j,none⟩) (HBx.out.block b (World.block_lt_of_cell? _ _ (hc j hjn)))).trans (hc j hjn)
    have HeN:=Hid.mk hsn
    clear hsn hc
    generalize l.getD j 0=x at*
    go_wp2_with (at_builtin;refine wpList_app1 rfl _ _ rfl w.heap.size u3 _ x rfl rfl Hown.out ?b1 ?b2 ?_)
    case b1=>omega
    case b2=>exact hzx
    intro v' w' ho hb'
    have HO:Hid (Own w' w.heap.size v' ((pad5 l).take (j+1))):=by rw [←HeN.out];exact ho
    have HB':=Hid.mk (HBx.out.trans hb')
    clear ho hb' Hown HBx HeN
    go_wp2
    go_roundw
    case rel=>exact⟨j+1,by omega,by go_num,HO.out,HB'.out⟩
    case measure=>simp [intOf];omega
   ·have hjn':¬(j:Int)<(n:Int):=by omega
    have hz:l.getD j 0=0:=by rw [List.getD,List.getElem?_eq_none (by omega)];rfl
    rw [hz] at hsn
    have HeN:=Hid.mk hsn
    clear hsn hz
    go_wp2_with (at_builtin;refine wpList_app1 rfl _ _ rfl w.heap.size u3 _ 0 rfl rfl Hown.out (by omega) hzx ?_)
    intro v' w' ho hb'
    have HO:Hid (Own w' w.heap.size v' ((pad5 l).take (j+1))):=by rw [←HeN.out];exact ho
    have HB':=Hid.mk (HBx.out.trans hb')
    clear ho hb' Hown HBx HeN
    go_wp2
    go_roundw
    case rel=>exact⟨j+1,by omega,by go_num,HO.out,HB'.out⟩
    case measure=>simp [intOf];omega
  ·have hlm':¬(j:Int)<512:=by omega
   have ho:=Hown.out
   rw [List.take_of_length_le (by rw [pad5_len];omega)] at ho
   obtain⟨g5,c5,e5,hg5,hr5⟩:=ho.row' (by rw [pad5_len];omega)
   rw [pad5_len] at e5
   subst e5
   have HE:=Hid.mk (And.intro hg5 hr5)
   clear Hown ho hg5 hr5
   go_wp2
   go_ret
   exact⟨g5,c5,rfl,HE.out.1,HE.out.2,HBx.out⟩
end
end Go.Proofs.YtcakbbkbgfhfaaaGreat
end

section
namespace Go.Proofs.YtcakbbkbgfhfaaaGreat
open Go.RowKit
section
variable {w w':World} {F X:Nat→Prop} {kr p s cR q l m t n a1 k:Nat} {x2 x3:Value} {S:DS} {G:SG} {T:TG} {M:MP}
theorem refusal_in {b:Nat} (h0:T.state G S=0) (hb:b<G.y.blocks):T.refusal G S (b:Int)=0:=by
 unfold TG.refusal
 rw [if_neg (fun e=>e h0),if_neg (by omega)]
set_option maxRecDepth 20000 in
set_option maxHeartbeats 4000000 in
theorem others_any (h:TX w F p s cR q l m t n S G T) (hp:PoolAt w F a1 t n) (hrb:w.heap[kr]? =some (.cells (rigC p q x2 x3 k true) 39 (0,0))) (hkr:¬OwT F t n kr) (hm:MX w X k M) (hXO:∀j,X j→¬OwT F t n j) (h0:T.state G S=0) (hbl:M.blocks=G.y.blocks) (hrl:M.raw.length=G.y.blocks) (hsee:∀b,2≤b→b<G.y.blocks→M.raw[b]? =some (T.sees G S b)):
  Calls Tryz.prog 67 #[.pointer (some ⟨kr,0,none⟩), .pointer (some ⟨a1,0,none⟩)] w fun e w'=>e= .returned (.bool true)∧(∃c',TX w' F p s c' q l m t n S G T)∧Keeps (OwT F t n) w w':=by
 have hb2:=h.yk.b2
 have hb48:=h.yk.bl
 obtain⟨nb,hnb⟩:∃nb,nb=G.y.blocks:=⟨_,rfl⟩
 have H:=Hid.mk (And.intro h (And.intro hp (And.intro hrb (And.intro hm hXO))))
 have HS:=Hid.mk (And.intro hsee h0)
 have HN:=Hid.mk (And.intro hnb (And.intro hbl hrl))
 rw [←hnb] at hb2 hb48
 have HCe:Hid (∀wr,Keeps (OwT F t n) w wr→wr.cell? ⟨kr,4,none⟩=some (.pointer (some ⟨k,0,none⟩))∧wr.cell? ⟨k,0,none⟩=some (.int .i64 (nb:Int))):=fun wr hk=>by
  obtain⟨g1,c1,g2,c2,g3,c3,g4,c4,v5,v6,v7,hma⟩:=hm.apart hk (fun j hj hx=>hXO j hx hj)
  exact⟨cell_of_block ((hk.block kr (lt_there hrb) hkr).trans hrb) (j:=4) rfl,by rw [hnb,←hbl];exact cell_of_block hma.b (j:=0) rfl⟩
 clear h hp hrb hm hXO h0 hbl hsee hnb hrl
 go_enter Tryz.func67,Tryz.ntmps67
 go_wp2
 go_loopw [5] (fun iv wr=>∃j c':Nat,2≤j∧j≤nb∧iv= .int .i64 (j:Int)∧TX wr F p s c' q l m t n S G T∧Keeps (OwT F t n) w wr) (fun iv _=>nb-(intOf iv).toNat)
 case atStart=>exact⟨2,cR,Nat.le_refl _,hb2,rfl,H.out.1,Keeps.refl _ _⟩
 case round=>
  obtain⟨j,c',hj2,hj,rfl,hx,hk⟩:=hrel
  obtain⟨ce1,ce2⟩:=HCe.out wr hk
  by_cases hlt:j<nb
  ·have hlt':(j:Int)<(nb:Int):=by omega
   have hjb:j<G.y.blocks:=by have:=HN.out.1;omega
   have hp:=H.out.2.1.keep hk
   have c0:=hp.c0
   have kg:=get6_any hx j (refusal_in HS.out.2 hjb)
   have hxl:=hx.len j hjb
   have hxt:=hx.st.d.lt
   have HK:=Hid.mk hk
   clear hx hk hp
   go_wp2_with fail
   refine kg.mono ?_
   rintro e w1 ⟨⟨g1,rfl,hg1,hblk⟩,hx1,hk1⟩
   have hK1:Keeps (OwT F t n) w w1:=HK.out.trans (hk1.mono (fun _ h=> .inl h)) (fun _ h=> .inl h)
   obtain⟨ce3,_⟩:=HCe.out w1 hK1
   obtain⟨gq1,cq1,gq2,cq2,gq3,cq3,gq4,cq4,v5,v6,v7,hma⟩:=H.out.2.2.2.1.apart hK1 (fun j hj hx=>H.out.2.2.2.2 j hx hj)
   have hjr:j<M.raw.length:=by have:=HN.out.2.2;omega
   obtain⟨gv,cv,g2,c2,ev,cvj,_,hrw,_⟩:=hma.raw.at hjr
   have hrj:M.raw[j]=T.sees G S j:=by
    have h9:=HS.out.1 j hj2 hjb
    rw [List.getElem?_eq_getElem hjr] at h9
    exact Option.some.inj h9
   rw [hrj] at hrw
   have c8:w1.cell? ⟨k,8,none⟩=some (.slice (some ⟨gv,0,none⟩) nb cv):=by
    have h9:w1.cell? ⟨k,8,none⟩=some v6:=cell_of_block hma.b (j:=8) rfl
    rw [h9,ev,HN.out.2.2,←HN.out.1]
   obtain⟨sx,hs⟩:∃sx,sx=strOfNums (T.sees G S j):=⟨_,rfl⟩
   have HC:Hid (∀w',Below w1.heap.size w1 w'→w'.cell? ⟨kr,4,none⟩=some (.pointer (some ⟨k,0,none⟩))∧w'.cell? ⟨k,8,none⟩=some (.slice (some ⟨gv,0,none⟩) nb cv)∧w'.cell? ⟨gv,j,none⟩=some (.slice (some ⟨g2,0,none⟩) 512 c2)∧(convert 57 9 (.slice (some ⟨g1,0,none⟩) 512 512)).run Tryz.prog w'= .ok (.string sx) w'∧(convert 57 9 (.slice (some ⟨g2,0,none⟩) 512 c2)).run Tryz.prog w'= .ok (.string sx) w'):=fun w' hb=>by
    refine⟨cell_later hb ce3,cell_later hb c8,cell_later hb cvj,?_,?_⟩
    ·rw [hs]
     exact run_convert_bytes_arg (P:=Tryz.prog) w' 57 5 Tryz.underlying57 Tryz.underlying5 g1 0 512 512 (T.sees G S j) hxl (fun i hi=>by rw [Nat.zero_add];exact cell_later hb (hblk.cell (by omega))) 9 Tryz.underlying9
    ·rw [hs]
     exact run_convert_bytes_arg (P:=Tryz.prog) w' 57 5 Tryz.underlying57 Tryz.underlying5 g2 0 512 c2 (T.sees G S j) hxl (fun i hi=>by rw [Nat.zero_add];exact cell_later hb (hrw.get (by omega))) 9 Tryz.underlying9
   have HDr:Hid (Below w1.heap.size w1 w1.drew):=(Keeps.drew (fun _=>False) w1).below (fun _ h=>h.elim) (Nat.le_refl _)
   have HX1:Hid (TX w1.drew F p s (c'+1) q l m t n S G T∧Keeps (OwT F t n) w w1.drew):=⟨hx1.later HDr.out,hK1.trans (Keeps.drew (fun _=>False) w1) (fun _ h=>h.elim)⟩
   have hj0:(0:Int)≤(j:Int):=by omega
   clear kg hblk hx1 hk1 hK1 hma ev cvj hrw hrj c8 hs ce1 ce2 ce3 c0 hxl hxt
   go_wp2_with fail
   refine wp_region_held_drew (S:=(fun w'=>w'.cell? ⟨kr,4,none⟩=some (.pointer (some ⟨k,0,none⟩))∧w'.cell? ⟨k,8,none⟩=some (.slice (some ⟨gv,0,none⟩) nb cv)∧w'.cell? ⟨gv,j,none⟩=some (.slice (some ⟨g2,0,none⟩) 512 c2)∧(convert 57 9 (.slice (some ⟨g1,0,none⟩) 512 512)).run Tryz.prog w'= .ok (.string sx) w'∧(convert 57 9 (.slice (some ⟨g2,0,none⟩) 512 c2)).run Tryz.prog w'= .ok (.string sx) w')) (by kernel_rfl) (HC.out _ HDr.out) (fun hHeld=>?_)
   refine wpAnyH_take (i:=0) (oi:={dst:=some 28,op:=Op.move (Operand.tmp 7),type:=34,pos:= "exact.go:129",after:= #[],guard:=none}) (v:= .int .i64 0) rfl (by kernel_rfl) (by kernel_rfl) (by kernel_rfl) (fun _ _ _ h=>h) (Or.inl ⟨by rfl,?_⟩) (by assumption) ?_
   ·intro w hSw
    (try dsimp only at hSw)
    go_simp
   try simp only [Act.put,List.setIfInBounds_toArray,List.set_cons_zero,List.set_cons_succ]
   refine wpAnyH_ready (rs:= [1]) (by kernel_rfl) (by simp) ?_
   refine AllReadyH.cons (o:={dst:=some 29,op:=Op.call {callee:=Callee.value (Operand.func 14),args:= #[Operand.tmp 28],argTypes:= #[34]},type:=3,pos:= "exact.go:129",after:= #[{on:=0,ground:=Ground.data}],guard:=none}) rfl (fun K hK=>?_) AllReadyH.nil
   go_simp
   refine(num6_any 0 w1.drew).mono ?_
   rintro e wx ⟨rfl,hwx⟩
   have hwx':=hwx.symm
   subst hwx'
   clear hwx
   refine hK.out _ _ ?_ (fun hHeld=>?_)
   ·exact HC.out _ HDr.out
   clear hK K
   try simp only [Act.put,List.setIfInBounds_toArray,List.set_cons_zero,List.set_cons_succ]
   refine wpAnyH_take (i:=2) (oi:={dst:=some 30,op:=Op.binOp BinOp.neq 3 (Operand.tmp 29) (Operand.const (Value.int IntKind.i64 0)) 3,type:=4,pos:= "exact.go:129",after:= #[{on:=1,ground:=Ground.data}],guard:=none}) (v:= .bool false) rfl (by kernel_rfl) (by kernel_rfl) (by kernel_rfl) (fun _ _ _ h=>h) (Or.inl ⟨by rfl,?_⟩) (by assumption) ?_
   ·intro w hSw
    (try dsimp only at hSw)
    go_simp
   try simp only [Act.put,List.setIfInBounds_toArray,List.set_cons_zero,List.set_cons_succ]
   refine wpAnyH_take (i:=3) (oi:={dst:=some 31,op:=Op.move (Operand.tmp 30),type:=4,pos:= "exact.go:129",after:= #[{on:=2,ground:=Ground.data},{on:=1,ground:=Ground.chain}],guard:=none}) (v:= .bool false) rfl (by kernel_rfl) (by kernel_rfl) (by kernel_rfl) (fun _ _ _ h=>h) (Or.inl ⟨by rfl,?_⟩) (by assumption) ?_
   ·intro w hSw
    (try dsimp only at hSw)
    go_simp
   try simp only [Act.put,List.setIfInBounds_toArray,List.set_cons_zero,List.set_cons_succ]
   refine wpAnyH_take (i:=4) (oi:={dst:=some 32,op:=Op.move (Operand.tmp 6),type:=57,pos:= "exact.go:129",after:= #[{on:=3,ground:=Ground.guard}],guard:=some (3,false)}) (v:= .slice (some ⟨g1,0,none⟩) 512 512) rfl (by kernel_rfl) (by kernel_rfl) (by kernel_rfl) (fun _ _ _ h=>h) (Or.inl ⟨by rfl,?_⟩) (by assumption) ?_
   ·intro w hSw
    (try dsimp only at hSw)
    go_simp
   try simp only [Act.put,List.setIfInBounds_toArray,List.set_cons_zero,List.set_cons_succ]
   refine wpAnyH_take (i:=5) (oi:={dst:=some 33,op:=Op.convert 57 9 (Operand.tmp 32),type:=9,pos:= "exact.go:129",after:= #[{on:=4,ground:=Ground.data},{on:=3,ground:=Ground.guard}],guard:=some (3,false)}) (v:= .string sx) rfl (by kernel_rfl) (by kernel_rfl) (by kernel_rfl) (fun _ _ _ h=>h) (Or.inl ⟨by rfl,?_⟩) (by assumption) ?_
   ·intro w hSw
    (try dsimp only at hSw)
    go_simp
   try simp only [Act.put,List.setIfInBounds_toArray,List.set_cons_zero,List.set_cons_succ]
   refine wpAnyH_take (i:=6) (oi:={dst:=some 34,op:=Op.move (Operand.tmp 0),type:=24,pos:= "exact.go:129",after:= #[{on:=3,ground:=Ground.guard}],guard:=some (3,false)}) (v:= .pointer (some ⟨kr,0,none⟩)) rfl (by kernel_rfl) (by kernel_rfl) (by kernel_rfl) (fun _ _ _ h=>h) (Or.inl ⟨by rfl,?_⟩) (by assumption) ?_
   ·intro w hSw
    (try dsimp only at hSw)
    go_simp
   try simp only [Act.put,List.setIfInBounds_toArray,List.set_cons_zero,List.set_cons_succ]
   refine wpAnyH_take (i:=7) (oi:={dst:=some 35,op:=Op.nilCheck (Operand.tmp 34),type:=0,pos:= "exact.go:129",after:= #[{on:=6,ground:=Ground.data},{on:=3,ground:=Ground.guard}],guard:=some (3,false)}) (v:= .pointer (some ⟨kr,0,none⟩)) rfl (by kernel_rfl) (by kernel_rfl) (by kernel_rfl) (fun _ _ _ h=>h) (Or.inl ⟨by rfl,?_⟩) (by assumption) ?_
   ·intro w hSw
    (try dsimp only at hSw)
    go_simp
   try simp only [Act.put,List.setIfInBounds_toArray,List.set_cons_zero,List.set_cons_succ]
   refine wpAnyH_take (i:=8) (oi:={dst:=some 36,op:=Op.fieldAddr 39 (Operand.tmp 35) 4,type:=0,pos:= "exact.go:129",after:= #[{on:=7,ground:=Ground.data},{on:=3,ground:=Ground.guard}],guard:=some (3,false)}) (v:= .pointer (some ⟨kr,4,none⟩)) rfl (by kernel_rfl) (by kernel_rfl) (by kernel_rfl) (fun _ _ _ h=>h) (Or.inl ⟨by rfl,?_⟩) (by assumption) ?_
   ·intro w hSw
    (try dsimp only at hSw)
    go_simp
   try simp only [Act.put,List.setIfInBounds_toArray,List.set_cons_zero,List.set_cons_succ]
   refine wpAnyH_take (i:=9) (oi:={dst:=some 37,op:=Op.load 37 (Operand.tmp 36),type:=37,pos:= "exact.go:129",after:= #[{on:=8,ground:=Ground.data},{on:=3,ground:=Ground.guard}],guard:=some (3,false)}) (v:= .pointer (some ⟨k,0,none⟩)) rfl (by kernel_rfl) (by kernel_rfl) (by kernel_rfl) (fun _ _ _ h=>h) (Or.inl ⟨by rfl,?_⟩) (by assumption) ?_
   ·intro w hSw
    (try dsimp only at hSw)
    go_simp
   try simp only [Act.put,List.setIfInBounds_toArray,List.set_cons_zero,List.set_cons_succ]
   refine wpAnyH_take (i:=10) (oi:={dst:=some 38,op:=Op.nilCheck (Operand.tmp 37),type:=0,pos:= "exact.go:129",after:= #[{on:=9,ground:=Ground.data},{on:=3,ground:=Ground.guard}],guard:=some (3,false)}) (v:= .pointer (some ⟨k,0,none⟩)) rfl (by kernel_rfl) (by kernel_rfl) (by kernel_rfl) (fun _ _ _ h=>h) (Or.inl ⟨by rfl,?_⟩) (by assumption) ?_
   ·intro w hSw
    (try dsimp only at hSw)
    go_simp
   try simp only [Act.put,List.setIfInBounds_toArray,List.set_cons_zero,List.set_cons_succ]
   refine wpAnyH_take (i:=11) (oi:={dst:=some 39,op:=Op.fieldAddr 118 (Operand.tmp 38) 6,type:=0,pos:= "exact.go:129",after:= #[{on:=10,ground:=Ground.data},{on:=3,ground:=Ground.guard}],guard:=some (3,false)}) (v:= .pointer (some ⟨k,8,none⟩)) rfl (by kernel_rfl) (by kernel_rfl) (by kernel_rfl) (fun _ _ _ h=>h) (Or.inl ⟨by rfl,?_⟩) (by assumption) ?_
   ·intro w hSw
    (try dsimp only at hSw)
    go_simp
   try simp only [Act.put,List.setIfInBounds_toArray,List.set_cons_zero,List.set_cons_succ]
   refine wpAnyH_take (i:=12) (oi:={dst:=some 40,op:=Op.load 116 (Operand.tmp 39),type:=116,pos:= "exact.go:129",after:= #[{on:=11,ground:=Ground.data},{on:=3,ground:=Ground.guard}],guard:=some (3,false)}) (v:= .slice (some ⟨gv,0,none⟩) nb cv) rfl (by kernel_rfl) (by kernel_rfl) (by kernel_rfl) (fun _ _ _ h=>h) (Or.inl ⟨by rfl,?_⟩) (by assumption) ?_
   ·intro w hSw
    (try dsimp only at hSw)
    go_simp
   try simp only [Act.put,List.setIfInBounds_toArray,List.set_cons_zero,List.set_cons_succ]
   refine wpAnyH_take (i:=13) (oi:={dst:=some 41,op:=Op.move (Operand.tmp 5),type:=3,pos:= "exact.go:129",after:= #[{on:=3,ground:=Ground.guard}],guard:=some (3,false)}) (v:= .int .i64 (j:Int)) rfl (by kernel_rfl) (by kernel_rfl) (by kernel_rfl) (fun _ _ _ h=>h) (Or.inl ⟨by rfl,?_⟩) (by assumption) ?_
   ·intro w hSw
    (try dsimp only at hSw)
    go_simp
   try simp only [Act.put,List.setIfInBounds_toArray,List.set_cons_zero,List.set_cons_succ]
   refine wpAnyH_take (i:=14) (oi:={dst:=some 42,op:=Op.indexAddr 116 (Operand.tmp 40) (Operand.tmp 41),type:=0,pos:= "exact.go:129",after:= #[{on:=12,ground:=Ground.data},{on:=13,ground:=Ground.data},{on:=3,ground:=Ground.guard}],guard:=some (3,false)}) (v:= .pointer (some ⟨gv,j,none⟩)) rfl (by kernel_rfl) (by kernel_rfl) (by kernel_rfl) (fun _ _ _ h=>h) (Or.inl ⟨by rfl,?_⟩) (by assumption) ?_
   ·intro w hSw
    (try dsimp only at hSw)
    go_simp
   try simp only [Act.put,List.setIfInBounds_toArray,List.set_cons_zero,List.set_cons_succ]
   refine wpAnyH_take (i:=15) (oi:={dst:=some 43,op:=Op.load 57 (Operand.tmp 42),type:=57,pos:= "exact.go:129",after:= #[{on:=14,ground:=Ground.data},{on:=3,ground:=Ground.guard}],guard:=some (3,false)}) (v:= .slice (some ⟨g2,0,none⟩) 512 c2) rfl (by kernel_rfl) (by kernel_rfl) (by kernel_rfl) (fun _ _ _ h=>h) (Or.inl ⟨by rfl,?_⟩) (by assumption) ?_
   ·intro w hSw
    (try dsimp only at hSw)
    go_simp
   try simp only [Act.put,List.setIfInBounds_toArray,List.set_cons_zero,List.set_cons_succ]
   refine wpAnyH_take (i:=16) (oi:={dst:=some 44,op:=Op.convert 57 9 (Operand.tmp 43),type:=9,pos:= "exact.go:129",after:= #[{on:=15,ground:=Ground.data},{on:=3,ground:=Ground.guard}],guard:=some (3,false)}) (v:= .string sx) rfl (by kernel_rfl) (by kernel_rfl) (by kernel_rfl) (fun _ _ _ h=>h) (Or.inl ⟨by rfl,?_⟩) (by assumption) ?_
   ·intro w hSw
    (try dsimp only at hSw)
    go_simp
   try simp only [Act.put,List.setIfInBounds_toArray,List.set_cons_zero,List.set_cons_succ]
   refine wpAnyH_take (i:=17) (oi:={dst:=some 45,op:=Op.binOp BinOp.neq 9 (Operand.tmp 33) (Operand.tmp 44) 9,type:=4,pos:= "exact.go:129",after:= #[{on:=5,ground:=Ground.data},{on:=16,ground:=Ground.data},{on:=3,ground:=Ground.guard}],guard:=some (3,false)}) (v:= .bool false) rfl (by kernel_rfl) (by kernel_rfl) (by kernel_rfl) (fun _ _ _ h=>h) (Or.inl ⟨by rfl,?_⟩) (by assumption) ?_
   ·intro w hSw
    (try dsimp only at hSw)
    go_simp
   try simp only [Act.put,List.setIfInBounds_toArray,List.set_cons_zero,List.set_cons_succ]
   refine wpAnyH_take (i:=18) (oi:={dst:=some 46,op:=Op.pick (Operand.tmp 31) (Operand.const (Value.bool true)) (Operand.tmp 45),type:=4,pos:= "exact.go:129",after:= #[{on:=3,ground:=Ground.data},{on:=17,ground:=Ground.data}],guard:=none}) (v:= .bool false) rfl (by kernel_rfl) (by kernel_rfl) (by kernel_rfl) (fun _ _ _ h=>h) (Or.inl ⟨by rfl,?_⟩) (by assumption) ?_
   ·intro w hSw
    (try dsimp only at hSw)
    go_simp
   try simp only [Act.put,List.setIfInBounds_toArray,List.set_cons_zero,List.set_cons_succ]
   refine wpAnyH_done (by kernel_rfl) ?_ _
   clear hHeld HC HDr
   go_wp2
   go_roundw
   case rel=>exact⟨j+1,_,by omega,by omega,by go_num,HX1.out⟩
   case measure=>simp [intOf];omega
  ·obtain rfl:j=nb:=by omega
   have hlt':¬(j:Int)<(j:Int):=by omega
   have HE:=Hid.mk (And.intro hx hk)
   clear hx hk
   go_wp2
   go_ret
   exact⟨rfl,⟨_,HE.out.1⟩,HE.out.2⟩
end
end Go.Proofs.YtcakbbkbgfhfaaaGreat
end

section
namespace Go.Proofs.YtcakbbkbgfhfaaaGreat
open Go.RowKit
section
variable {w w':World} {F X:Nat→Prop} {kr p s cR q l m t n a1 k:Nat} {x2 x3:Value} {S:DS} {G:SG} {T:TG} {M:MP}
theorem same512 {g g' c c':Nat} {ty:TypeId} {d d':List Int} (h:Blk w ty g d) (h':RowAt w 5 g' c' (bs d')) (hl:d.length=512) (hl':d'.length=512):Calls Tryz.prog 18 #[.slice (some ⟨g,0,none⟩) 512 c, .slice (some ⟨g',0,none⟩) 512 c'] w fun e w'=>e= .returned (.bool (decide (d=d')))∧Below w.heap.size w w':=
 same6_any g 0 g' 0 512 c c' d d' w (by omega) hl hl' (fun i hi=>by rw [Nat.zero_add];exact h.cell (by omega)) (fun i hi=>by rw [Nat.zero_add];exact h'.get (by omega))
theorem Blk.later {ty:TypeId} {g:Nat} {d:List Int} (h:Blk w ty g d) (hb:Below w.heap.size w w'):Blk w' ty g d:=(hb.block g h.lt).trans h
set_option maxRecDepth 20000 in
set_option maxHeartbeats 8000000 in
theorem looks_ok (h:TX w F p s cR q l m t n S G T) (hp:PoolAt w F a1 t n) (hrb:w.heap[kr]? =some (.cells (rigC p q x2 x3 k true) 39 (0,0))) (hkr:¬OwT F t n kr) (hm:MX w X k M) (hXO:∀j,X j→¬OwT F t n j) (h0:T.state G S=0) (hm0:M.state=0) (hbl:M.blocks=G.y.blocks) (hrl:M.raw.length=G.y.blocks) (hsee:∀b,2≤b→b<G.y.blocks→M.raw[b]? =some (T.sees G S b)) (e0:T.sees G S 0=bmOf M.nb) (e1:T.sees G S 1=bmOf M.nn):
  Calls Tryz.prog 39 #[.pointer (some ⟨kr,0,none⟩), .pointer (some ⟨a1,0,none⟩)] w fun e w'=>e= .returned (.bool true)∧(∃c',TX w' F p s c' q l m t n S G T)∧Keeps (OwT F t n) w w':=by
 have hb2:=h.yk.b2
 have k1:=get6_any h 0 (refusal_in h0 (by omega))
 have k2:=fun (w1:World) (hx1:TX w1 F p s (cR+1) q l m t n S G T)=>get6_any hx1 1 (refusal_in h0 (by omega))
 have hl0:=h.len 0 (by omega)
 have hl1:=h.len 1 (by omega)
 have c0:=hp.c0
 have HCe:Hid (∀wr,Keeps (OwT F t n) w wr→wr.cell? ⟨kr,4,none⟩=some (.pointer (some ⟨k,0,none⟩))∧MX wr X k M):=fun wr hk=>⟨cell_of_block ((hk.block kr (lt_there hrb) hkr).trans hrb) (j:=4) rfl,hm.apart hk (fun j hj hx=>hXO j hx hj)⟩
 have HO:Hid (∀(wr:World) (c':Nat),Keeps (OwT F t n) w wr→TX wr F p s c' q l m t n S G T→Calls Tryz.prog 67 #[.pointer (some ⟨kr,0,none⟩), .pointer (some ⟨a1,0,none⟩)] wr fun e w'=>e= .returned (.bool true)∧(∃c',TX w' F p s c' q l m t n S G T)∧Keeps (OwT F t n) wr w'):=fun wr c' hk hx=>others_any hx (hp.keep hk) ((hk.block kr (lt_there hrb) hkr).trans hrb) hkr (hm.apart hk (fun j hj hx=>hXO j hx hj)) hXO h0 hbl hrl hsee
 have HP:=Hid.mk hp
 have HE0:=Hid.mk (And.intro e0 e1)
 have HLT:=Hid.mk h.st.d.lt
 clear h hp hrb hm hXO h0 hbl hrl hsee hkr hb2 e0 e1
 go_enter Tryz.func39,Tryz.ntmps39
 go_wp2_with fail
 refine k1.mono ?_
 rintro e w1 ⟨⟨g1,rfl,hg1,hblk1⟩,hx1,hk1⟩
 have hp1:=HP.out.keep (hk1.mono (fun _ h=> .inl h))
 have c0':=hp1.c0
 have k3:=k2 w1 hx1
 have HA:=Hid.mk (And.intro hblk1 hk1)
 clear k1 k2 hx1 hp1 c0 hblk1 hk1
 go_wp2_with fail
 refine k3.mono ?_
 rintro e w2 ⟨⟨g2,rfl,hg2,hblk2⟩,hx2,hk2⟩
 have hb1:Blk w2 108 g1 (T.sees G S 0):=(hk2.block g1 HA.out.1.lt (fun hf=>by have:=HLT.out g1 hf;omega)).trans HA.out.1
 have hK2:Keeps (OwT F t n) w w2:=(HA.out.2.trans hk2 (fun _ h=> .inl h)).mono (fun _ h=> .inl h)
 obtain⟨ce,hm2⟩:=HCe.out w2 hK2
 have km:=mstate_any hm2
 rw [hm0] at km
 have H2:=Hid.mk (And.intro hx2 (And.intro hK2 (And.intro hb1 hblk2)))
 have HM:=Hid.mk hm2
 clear k3 hx2 hk2 hK2 hb1 hblk2 hm2 HA c0' hg1 hg2
 go_wp2_with fail
 refine km.mono ?_
 rintro e wx ⟨rfl,hwx⟩
 have hwx':=hwx.symm
 subst hwx'
 clear hwx km
 have kn:=num6_any 0 w2
 obtain⟨gq1,cq1,gq2,cq2,gq3,cq3,gq4,cq4,v5,v6,v7,hma⟩:=HM.out
 have c5:w2.cell? ⟨k,5,none⟩=some (slB gq3 cq3):=cell_of_block hma.b (j:=5) rfl
 have c6:w2.cell? ⟨k,6,none⟩=some (slB gq4 cq4):=cell_of_block hma.b (j:=6) rfl
 have kb1:=bytes6_any hma.nb.2.1 hma.nb.2.2
 have Hma:=Hid.mk (And.intro hma (And.intro c6 ce))
 clear hma
 go_wp2_with fail
 refine kn.mono ?_
 rintro e wx ⟨rfl,hwx⟩
 have hwx':=hwx.symm
 subst hwx'
 clear hwx
 go_wp2_with fail
 refine kn.mono ?_
 rintro e wx ⟨rfl,hwx⟩
 have hwx':=hwx.symm
 subst hwx'
 clear hwx kn
 go_wp2_with fail
 refine kb1.mono ?_
 rintro e w3 ⟨v3,rfl,ho3,hb3⟩
 obtain⟨g3,c3,e3,hg3,hr3⟩:=ho3.row' (by rw [bmOf_len];omega)
 rw [bmOf_len] at e3
 subst e3
 have ks1:=same512 (c:=512) (H2.out.2.2.1.later hb3) hr3 hl0 (bmOf_len _)
 rw [decide_eq_true HE0.out.1] at ks1
 have HB3:=Hid.mk hb3
 clear kb1 ho3 hr3 hb3 c5 c6 ce
 go_wp2_with fail
 refine ks1.mono ?_
 rintro e w4 ⟨rfl,hb4⟩
 have hB4:Below w2.heap.size w2 w4:=HB3.out.trans (hb4.mono HB3.out.size)
 have c6':=cell_later hB4 Hma.out.2.1
 have ce':=cell_later hB4 Hma.out.2.2
 have kb2:=bytes6_any (w:=w4) (Hma.out.1.nn.2.1.agree (hB4.block _ Hma.out.1.nn.2.1.lt)) Hma.out.1.nn.2.2
 have HB4:=Hid.mk hB4
 clear ks1 hb4 hB4 HB3
 go_wp2_with fail
 refine kb2.mono ?_
 rintro e w5 ⟨v5',rfl,ho5,hb5⟩
 obtain⟨g5,c5',e5,hg5,hr5⟩:=ho5.row' (by rw [bmOf_len];omega)
 rw [bmOf_len] at e5
 subst e5
 have hB5:Below w2.heap.size w2 w5:=HB4.out.trans (hb5.mono HB4.out.size)
 have ks2:=same512 (c:=512) (H2.out.2.2.2.later hB5) hr5 hl1 (bmOf_len _)
 rw [decide_eq_true HE0.out.2] at ks2
 have HB5:=Hid.mk hB5
 clear kb2 ho5 hr5 hb5 hB5 c6' ce' HB4
 go_wp2_with fail
 refine ks2.mono ?_
 rintro e w6 ⟨rfl,hb6⟩
 have hB6:Below w2.heap.size w2 w6:=HB5.out.trans (hb6.mono HB5.out.size)
 have hK6:Keeps (OwT F t n) w w6:=H2.out.2.1.trans (Keeps.of_below (fun _=>False) hB6) (fun _ h=>h.elim)
 have ko:=HO.out w6 _ hK6 (H2.out.1.later hB6)
 have HK6:=Hid.mk hK6
 clear ks2 hb6 hB6 hK6 HB5
 go_wp2_with fail
 refine ko.mono ?_
 rintro e w7 ⟨rfl,hx7,hk7⟩
 have HE:=Hid.mk (And.intro hx7 (HK6.out.trans hk7 (fun _ h=> .inl h)))
 clear ko hx7 hk7
 go_wp2
 go_ret
 exact⟨rfl,HE.out⟩
end
end Go.Proofs.YtcakbbkbgfhfaaaGreat
end

section
namespace Go.Proofs.YtcakbbkbgfhfaaaGreat
open Go.RowKit Go.Maps
section
variable {w w' w1:World} {F X Y Z:Nat→Prop} {kr p s cR q l m t n a1 a2 k:Nat} {S:DS} {G:SG} {T T':TG} {M M':MP}
theorem TX.apart (h:TX w F p s cR q l m t n S G T) (hk:Keeps Z w w') (hz:∀j,Z j→¬F j∧j≠q∧j≠l∧j≠m∧j≠t∧j≠n):TX w' F p s cR q l m t n S G T:=
   ⟨⟨h.st.d.keep hk (fun j hj e=>(hz j e).1 hj),h.st.st.keep hk (fun e=>(hz _ e).2.1 rfl),h.st.lp.keep hk (fun e=>(hz _ e).2.2.1 rfl),h.st.ch.keep hk (fun e=>(hz _ e).2.2.2.1 rfl),h.st.nq,h.st.nl,h.st.nm,h.st.ql,h.st.qm,h.st.lm,h.st.lk,h.st.bg,h.st.hs,h.st.kb⟩,⟨(hk.block t (lt_there h.tx.tx) (fun e=>(hz _ e).2.2.2.2.1 rfl)).trans h.tx.tx,h.tx.ch.keep hk (fun e=>(hz _ e).2.2.2.2.2 rfl),h.tx.nt,h.tx.nn,h.tx.tq,h.tx.tl,h.tx.tm,h.tx.tn,h.tx.nq,h.tx.nl,h.tx.nm,h.tx.kb⟩,h.byt,h.pu,h.yk⟩
structure CL (G:SG) (S:DS) (T:TG) (M:MP):Prop where
 bad:T.bad=0
 en:T.ended=false
 ks:∀x∈T.puts,x.1<2
 s0:T.sees G S 0=bmOf M.nb
 s1:T.sees G S 1=bmOf M.nn
 so:∀b,2≤b→b<G.y.blocks→M.raw[b]? =some (T.sees G S b)
 mb:M.blocks=G.y.blocks
 mn:M.nodes=G.y.nodes
 rl:M.raw.length=G.y.blocks
 mbad:M.bad=0
 op:M.opn=true
 dd:M.dead=false
 mp:∀x∈M.put,x<2
 nd:M.put.Nodup
 l0:M.nb.length=4096
 l1:M.nn.length=4096
theorem CL.state (h:CL G S T M) (hd:G.L.dead S=false):T.state G S=0:=by
 have e1:T.over G S=0:=by unfold TG.over;rw [hd,h.en];rfl
 unfold TG.state
 rw [e1,h.bad]
 rfl
theorem CL.mstate (h:CL G S T M):M.state=0:=by
 unfold MP.state
 rw [h.dd,h.op,h.mbad]
 rfl
theorem nodup2:∀{l:List Nat},l.Nodup→(∀x∈l,x<2)→l.length≤2
 | [],_,_=>by simp
 | [_],_,_=>by simp
 | [_,_],_,_=>by simp
 |a :: b :: c :: r,h,h2=>by
  have ha:=h2 a (by simp)
  have hb:=h2 b (by simp)
  have hc:=h2 c (by simp)
  simp [List.nodup_cons] at h
  omega
theorem CL.plen (h:CL G S T M):M.put.length≤2:=nodup2 h.nd h.mp
theorem CL.puts (h:CL G S T M) {b:Nat} (hb:b<2):(M.puts b).1=0∧∃r,(M.puts b).2={M with put:=r}∧(∀x∈r,x<2)∧r.Nodup:=by
 unfold MP.puts
 by_cases hm:b∈M.put
 ·rw [if_pos hm]
  exact⟨rfl,M.put,rfl,h.mp,h.nd⟩
 ·rw [if_neg hm,if_neg (by have:=h.plen;omega)]
  refine⟨rfl,_,rfl,fun x hx=>?_,?_⟩
  ·rw [List.mem_append] at hx
   rcases hx with hx|hx
   ·exact h.mp x hx
   ·simp at hx
    omega
  ·rw [List.nodup_append]
   exact⟨h.nd,by simp,fun a ha c hc e=>by
    simp at hc
    subst hc
    subst e
    exact hm ha⟩
theorem CL.lay (h:CL G S T M) (hd:G.L.dead S=false) (hy:YOk G.y) (hok:CM.Ok T.puts) {b:Nat} (hb:b<2) {l:List Bool} (hl:l.length=4096):∃T' M',T.put G S (b:Int) (bmOf l)=(0,T')∧M.lays b l=(0,M')∧CL G S T' M'∧CM.Ok T'.puts:=by
 have hr:T.refusal G S (b:Int)=0:=refusal_in (h.state hd) (by have:=hy.b2;omega)
 have hlen:T.puts.length≤2:=by
  rcases CM.length_le (n:=2) hok h.ks 0 (fun _ _=>Nat.zero_le _) with h9|h9
  ·omega
  ·rw [h9];exact Nat.zero_le _
 have hb01:b=0∨b=1:=by omega
 have hnow:T.sees G S b=bmOf (if b=1 then M.nn else M.nb):=by
  rcases hb01 with rfl|rfl
  ·exact h.s0
  ·exact h.s1
 have hnl:(if b=1 then M.nn else M.nb).length=4096:=by split;exact h.l1;exact h.l0
 by_cases he:(if b=1 then M.nn else M.nb)=l
 ·refine⟨T,M,?_,?_,h,hok⟩
  ·unfold TG.put
   rw [if_neg (fun h=>h hr),if_neg (fun h=>h (bmOf_len l)),Int.toNat_natCast,if_pos (by rw [hnow,he])]
  ·unfold MP.lays
   rw [if_pos he]
 ·have hne:bmOf l≠T.sees G S b:=fun e=>he (bm_inj hnl hl (by rw [←hnow,e]))
  obtain⟨p1,r,p2,p3,p4⟩:=h.puts hb
  have hg:=fun i=>sees_put (G:=G) (S:=S) (T:=T) (bm:=b) (d:=bmOf l) hok i
  have k0:∀x∈CM.put T.puts b (bmOf l),x.1<2:=fun x hx=>by
   rcases CM.put_key hx with rfl|hx
   ·exact hb
   ·exact h.ks x hx
  refine⟨{T with puts:=CM.put T.puts b (bmOf l)},if b=1 then {M with put:=r,nn:=l} else {M with put:=r,nb:=l},?_,?_,?_,CM.put_ok hok _ _⟩
  ·unfold TG.put
   rw [if_neg (fun h=>h hr),if_neg (fun h=>h (bmOf_len l)),Int.toNat_natCast,if_neg hne,if_neg (fun h=>by omega)]
  ·unfold MP.lays
   rw [if_neg he,if_neg (fun e=>e p1),p2]
  ·rcases hb01 with rfl|rfl
   ·rw [if_neg (by decide)]
    exact⟨h.bad,h.en,k0,by rw [hg,if_pos rfl],by rw [hg,if_neg (by decide)];exact h.s1,fun c h1 h2=>by rw [hg,if_neg (by omega)];exact h.so c h1 h2,h.mb,h.mn,h.rl,h.mbad,h.op,h.dd,p3,p4,hl,h.l1⟩
   ·rw [if_pos rfl]
    exact⟨h.bad,h.en,k0,by rw [hg,if_neg (by decide)];exact h.s0,by rw [hg,if_pos rfl],fun c h1 h2=>by rw [hg,if_neg (by omega)];exact h.so c h1 h2,h.mb,h.mn,h.rl,h.mbad,h.op,h.dd,p3,p4,h.l0,hl⟩
theorem CL.clear (h:CL G S T M) (hd:G.L.dead S=false) (hy:YOk G.y) (hdt:G.y.data=2+G.y.nodes / 4) (hok:CM.Ok T.puts):∃T' M',T.pclear G S=(0,T')∧M.clear=(0,M')∧CL G S T' M':=by
 have hn:=hy.nd
 have e1:ebm (bSt G.y).first=bmOf (lowB (2+M.nodes / 4)):=by
  rw [h.mn,←hdt]
  show ebm G.y.data=_
  exact(bm_low (by omega)).symm
 have e2:ebm 0=bmOf noBits:=bmOf_none.symm
 obtain⟨T1,M1,a1,a2,a3,a4⟩:=h.lay hd hy hok (b:=0) (by omega) (lowB_len (2+M.nodes / 4))
 obtain⟨T2,M2,b1,b2,b3,_⟩:=a3.lay hd hy a4 (b:=1) (by omega) (l:=noBits) List.length_replicate
 have a1':T.put G S ((bSt G.y).bm:Int) (ebm (bSt G.y).first)=(0,T1):=by rw [e1];exact a1
 have b1':T1.put G S ((nSt G.y).bm:Int) (ebm 0)=(0,T2):=by rw [e2];exact b1
 refine⟨T2,M2,?_,?_,b3⟩
 ·unfold TG.pclear
  rw [a1']
  dsimp only
  rw [b1']
  rfl
 ·unfold MP.clear
  rw [if_neg (fun e=>e h.mstate),a2]
  dsimp only
  rw [if_neg (fun e=>e rfl)]
  exact b2
theorem CL.wmap (h:CL G S T M) (hd:G.L.dead S=false) (hy:YOk G.y) (hok:CM.Ok T.puts) {b:Nat} (hb:b<2) {d:List Int} (hby:Bytes d) (hl:d.length=512):∃T' M',T.put G S (b:Int) d=(0,T')∧M.wmap b d=(0,M')∧CL G S T' M':=by
 obtain⟨T1,M1,a1,a2,a3,_⟩:=h.lay hd hy hok hb (blOf_len d)
 rw [bm_of_bl hby hl] at a1
 refine⟨T1,M1,a1,?_,a3⟩
 unfold MP.wmap
 rw [if_neg (fun e=>e h.mstate)]
 exact a2
theorem RgW.after (h:RgW w F X kr p s cR q l m t n a1 a2 k S G T M) {c':Nat} (hx:TX w' F p s c' q l m t n S G T') (hm:MX w' Y k M') (hk:Keeps (fun j=>OwT F t n j∨X j) w w') (hY:∀j,Y j→X j∨(w.heap.size≤j∧j<w'.heap.size)):RgW w' F Y kr p s c' q l m t n a1 a2 k S G T' M':=by
 have hb:=hx.low
 have h0:=h.x.low
 have hno:∀j,(¬F j∧j≠q∧j≠l∧j≠m∧j≠t∧j≠n)→¬OwT F t n j:=fun j hj e=>by
  rcases e with e|e|e
  ·exact hj.1 e
  ·exact hj.2.2.2.2.1 e
  ·exact hj.2.2.2.2.2 e
 have hkr:¬(OwT F t n kr∨X kr):=fun e=>by
  rcases e with e|e
  ·exact hno kr h.nk e
  ·exact(h.xa kr e).2.2.2.2.2.2.1 rfl
 have hp:∀a,PoolAt w F a t n→(∀j,X j→j≠a)→PoolAt w' F a t n:=fun a ha hxa=>⟨(hk.block a ha.lt (fun e=>by
  rcases e with e|e
  ·exact ha.nf e
  ·exact hxa a e rfl)).trans ha.b,ha.nf⟩
 refine⟨(hk.block kr (lt_there h.b) hkr).trans h.b,hx,hp a1 h.p1 (fun j hj=>(h.xa j hj).2.2.2.2.2.2.2.1),hp a2 h.p2 (fun j hj=>(h.xa j hj).2.2.2.2.2.2.2.2),hm,fun j hj=>?_,h.nk,fun j hj=>?_⟩
 ·rcases hY j hj with e|e
  ·exact Nat.lt_of_lt_of_le (h.xl j e) hk.size
  ·exact e.2
 ·rcases hY j hj with e|e
  ·exact h.xa j e
  ·obtain⟨o1,o2,o3,o4,o5,o6⟩:=h0
   have z1:=lt_there h.b
   have z2:=h.p1.lt
   have z3:=h.p2.lt
   exact⟨fun e2=>by have:=o1 j e2;omega,by omega,by omega,by omega,by omega,by omega,by omega,by omega,by omega⟩
end
end Go.Proofs.YtcakbbkbgfhfaaaGreat
end
