import Derived.Test.YtkamfcffkhjmlaaGreatW01
import Derived.Test.YtkamfcffkhjmlaaGreatW24
section
namespace Go.Proofs.YtkamfcffkhjmlaaGreat
open Go.RowKit Go.Maps

/-- The rig without the document's pool. -/
structure RP (w : World) (F : Nat → Prop) (kr p s cR q l m t n a1 a2 k : Nat) (S : DS) (G : SG) (T : TG) : Prop where
  b : w.heap[kr]? = some (.cells (rigC p q (.pointer (some ⟨a1, 0, none⟩)) (.pointer (some ⟨a2, 0, none⟩)) k true) 39 (0, 0))
  x : TX w F p s cR q l m t n S G T
  p1 : PoolAt w F a1 t n
  p2 : PoolAt w F a2 t n
  nk : ¬ OwT F t n kr
section
variable {w w' : World} {F X : Nat → Prop} {kr p s cR q l m t n a1 a2 k : Nat} {S : DS} {G : SG} {T T' : TG} {M : MP}
theorem RgW.rp (h : RgW w F X kr p s cR q l m t n a1 a2 k S G T M) : RP w F kr p s cR q l m t n a1 a2 k S G T :=
  ⟨h.b, h.x, h.p1, h.p2, fun e => by rcases e with e | e | e; exact h.nk.1 e; exact h.nk.2.2.2.2.1 e; exact h.nk.2.2.2.2.2 e⟩
theorem RP.on {c' : Nat} (h : RP w F kr p s cR q l m t n a1 a2 k S G T) (hx : TX w' F p s c' q l m t n S G T') (hk : Keeps (OwT F t n) w w') : RP w' F kr p s c' q l m t n a1 a2 k S G T' :=
  ⟨(hk.block _ (lt_there h.b) h.nk).trans h.b, hx, h.p1.keep hk, h.p2.keep hk, h.nk⟩
theorem RP.later (h : RP w F kr p s cR q l m t n a1 a2 k S G T) (hb : Below w.heap.size w w') : RP w' F kr p s cR q l m t n a1 a2 k S G T := h.on (h.x.later hb) (Keeps.of_below _ hb)

/-- Bits below i are taken in the block bitmap, below j in the node bitmap. -/
structure PF (G : SG) (S : DS) (T : TG) (i j : Nat) : Prop where
  bad : T.bad = 0
  en : T.ended = false
  s0 : T.sees G S 0 = ebm i
  s1 : T.sees G S 1 = ebm j
  ks : ∀ x ∈ T.puts, x.1 < 2
theorem PF.refusal {i j b : Nat} (h : PF G S T i j) (hd : G.L.dead S = false) (hb : b < G.y.blocks) : T.refusal G S b = 0 := by
  have e1 : T.over G S = 0 := by unfold TG.over; rw [hd, h.en]; rfl
  have e2 : T.state G S = 0 := by unfold TG.state; rw [e1, h.bad]; rfl
  unfold TG.refusal
  rw [e2, if_neg (fun h => h rfl), if_neg (by omega)]
theorem PF.state {i j : Nat} (h : PF G S T i j) (hd : G.L.dead S = false) : T.state G S = 0 := by
  have e1 : T.over G S = 0 := by unfold TG.over; rw [hd, h.en]; rfl
  unfold TG.state
  rw [e1, h.bad]
  rfl
theorem ebm_ne {i : Nat} (h : i < 4096) : ebm (i + 1) ≠ ebm i := fun e => by
  have h1 := ebm_bit (i + 1) (by omega) i
  have h2 := ebm_bit i (by omega) i
  rw [e, h2] at h1
  simp at h1
/-- One more bit. -/
theorem PF.put {i j : Nat} (h : PF G S T i j) (hd : G.L.dead S = false) (h2 : 2 ≤ G.y.blocks) (hok : CM.Ok T.puts) (bm c : Nat) (hbm : bm = 0 ∨ bm = 1) (hl : (ebm (c + 1)).length = 512) (hc : c < 4096) (hs : T.sees G S bm = ebm c) :
    (T.put G S bm (ebm (c + 1))).1 = 0 ∧ (T.put G S bm (ebm (c + 1))).2 = { T with puts := CM.put T.puts bm (ebm (c + 1)) } := by
  have hr := h.refusal (b := bm) hd (by omega)
  have hlen : T.puts.length ≤ 2 := by
    rcases CM.length_le (n := 2) hok h.ks 0 (fun _ _ => Nat.zero_le _) with h9 | h9
    · omega
    · rw [h9]; exact Nat.zero_le _
  have e : T.put G S bm (ebm (c + 1)) = (0, { T with puts := CM.put T.puts bm (ebm (c + 1)) }) := by
    unfold TG.put
    rw [if_neg (fun h => h hr), if_neg (fun h => h hl), Int.toNat_natCast, if_neg (by rw [hs]; exact ebm_ne hc), if_neg (fun h => by omega)]
  rw [e]
  exact ⟨rfl, rfl⟩
theorem PF.seen {i j : Nat} (h : PF G S T i j) (hok : CM.Ok T.puts) (c : Nat) : PF G S { T with puts := CM.put T.puts 0 (ebm c) } c j ∧ PF G S { T with puts := CM.put T.puts 1 (ebm c) } i c := by
  have k0 : ∀ b, b < 2 → ∀ x ∈ CM.put T.puts b (ebm c), x.1 < 2 := fun b hb x hx => by
    rcases CM.put_key hx with rfl | hx
    · exact hb
    · exact h.ks x hx
  have g : ∀ b b', ({ T with puts := CM.put T.puts b (ebm c) } : TG).sees G S b' = if b' = b then ebm c else T.sees G S b' := fun b b' => by
    show (CM.get (CM.put T.puts b (ebm c)) b').getD _ = _
    rw [CM.get_put _ _ _ _ hok]
    split <;> rfl
  refine ⟨⟨h.bad, h.en, (g 0 0).trans (if_pos rfl), (g 0 1).trans ((if_neg (by omega)).trans h.s1), k0 0 (by omega)⟩, ⟨h.bad, h.en, (g 1 0).trans ((if_neg (by omega)).trans h.s0), (g 1 1).trans (if_pos rfl), k0 1 (by omega)⟩⟩
theorem ebm_low {a i c : Nat} (h1 : a ≤ i) (h2 : i < a + c) (h3 : a + c ≤ 4096) : lowBit (ebm i) a c = some i := by
  obtain ⟨k, rfl⟩ : ∃ k, i = a + k := ⟨i - a, by omega⟩
  obtain ⟨r, rfl⟩ : ∃ r, c = k + (r + 1) := ⟨c - k - 1, by omega⟩
  rw [lowBit_skip (fun j h4 h5 => by rw [ebm_bit _ (by omega)]; simpa using h5)]
  show (if bitOf (ebm (a + k)) (a + k) = false then some (a + k) else _) = _
  rw [if_pos (by rw [ebm_bit _ (by omega)]; simp)]
theorem ebm_full {a c : Nat} (h3 : a + c ≤ 4096) : lowBit (ebm (a + c)) a c = none := by
  have := lowBit_skip (l := ebm (a + c)) (k := c) (n := 0) (a := a) (fun j h4 h5 => by rw [ebm_bit _ (by omega)]; simpa using h5)
  rw [Nat.add_zero] at this
  rw [this]
  rfl
end
end Go.Proofs.YtkamfcffkhjmlaaGreat
end

section
namespace Go.Proofs.YtkamfcffkhjmlaaGreat
open Go.RowKit Go.Maps

section
variable {w w' : World} {F X : Nat → Prop} {kr p s cR q l m t n a1 a2 k : Nat} {S : DS} {G : SG} {T T' : TG} {M : MP}
theorem PF.takeK {i j c : Nat} (h : PF G S T i j) (hd : G.L.dead S = false) (h2 : 2 ≤ G.y.blocks) (hok : CM.Ok T.puts) {k : STK} (hk : k.Ok) (hs : T.sees G S k.bm = ebm c) (h3 : k.first - k.zero ≤ c) (h4 : c < k.first - k.zero + k.cnt) :
    T.takes G S k = (((c + k.zero : Nat) : Int), 0, { T with puts := CM.put T.puts k.bm (ebm (c + 1)) }) := by
  have hbm := hk.bm
  have hhi := hk.hi
  have hr := h.refusal (b := k.bm) hd (by omega)
  obtain ⟨p1, p2⟩ := h.put hd h2 hok k.bm c (by omega) (ebm_len _) (by omega) hs
  have e : T.ptake G S k = (some (c + k.zero), 0, { T with puts := CM.put T.puts k.bm (ebm (c + 1)) }) := by
    unfold TG.ptake
    rw [if_neg (fun h => h hr), hs, ebm_low h3 h4 (by omega)]
    unfold TG.ptook
    dsimp only
    rw [hs]
    have e9 : turnBit (ebm c) c = ebm (c + 1) := rfl
    rw [e9, if_pos p1, p2]
  unfold TG.takes
  rw [e]
theorem PF.spoilK {i j : Nat} (h : PF G S T i j) (hd : G.L.dead S = false) {x : Int} (hx : x = 60 ∨ x = 61) : (T.spoil G S x).2 = { T with bad := x } := by
  unfold TG.spoil
  rw [if_neg (fun e => e (h.state hd)), if_pos (by omega)]
theorem PF.takeNo {i j c : Nat} (h : PF G S T i j) (hd : G.L.dead S = false) (h2 : 2 ≤ G.y.blocks) {k : STK} (hk : k.Ok) (hs : T.sees G S k.bm = ebm c) (h3 : c = k.first - k.zero + k.cnt) (hn : k.no = 60 ∨ k.no = 61) :
    T.takes G S k = (0, k.no, { T with bad := k.no }) := by
  have hbm := hk.bm
  have hhi := hk.hi
  have hr := h.refusal (b := k.bm) hd (by omega)
  have e : T.ptake G S k = (none, k.no, T) := by
    unfold TG.ptake
    rw [if_neg (fun h => h hr), hs, h3, ebm_full (by omega)]
    rfl
  unfold TG.takes
  rw [e]
  dsimp only
  rw [h.spoilK hd hn]
/-- A spoilt transaction refuses. -/
theorem bad_state (hd : G.L.dead S = false) (he : T.ended = false) (_hb : T.bad ≠ 0) : T.state G S = T.bad := by
  have e1 : T.over G S = 0 := by unfold TG.over; rw [hd, he]; rfl
  unfold TG.state
  rw [e1]
  rfl
theorem bad_take (hd : G.L.dead S = false) (he : T.ended = false) (hb : T.bad ≠ 0) (k : STK) : T.takes G S k = (0, T.bad, T) := by
  have hs := bad_state hd he hb
  have hr : T.refusal G S k.bm = T.bad := by
    unfold TG.refusal
    rw [hs, if_pos hb]
  have e : T.ptake G S k = (none, T.bad, T) := by
    unfold TG.ptake
    rw [hr, if_pos hb]
  unfold TG.takes
  rw [e]
  dsimp only
  have e2 : (T.spoil G S T.bad).2 = T := by
    unfold TG.spoil
    rw [hs, if_pos hb]
  rw [e2]
/-- A transaction just begun on a store just made. -/
theorem fresh_sees {g : GEO} {L : LG} (hf : FreshG g S L) {b : Nat} (hb : 3 + g.l + b < g.s) (T : TG) (hT : CM.get T.puts b = none) : T.sees ⟨lyG g, L, [], true⟩ S b = zs 512 := by
  unfold TG.sees SG.block
  rw [hT]
  show S.now (3 + g.l + b) = zs 512
  exact hf.z _ (by omega) hb
theorem fresh_clear {g : GEO} {L : LG} (hf : FreshG g S L) (h4 : 3 + g.l + 2 + g.n / 4 + 1 ≤ g.s) (h1 : g.s ≤ 2048) : ((⟨[], 0, false⟩ : TG).pclear ⟨lyG g, L, [], true⟩ S) = (0, ⟨[(0, ebm (2 + g.n / 4))], 0, false⟩) ∧ PF ⟨lyG g, L, [], true⟩ S ⟨[(0, ebm (2 + g.n / 4))], 0, false⟩ (2 + g.n / 4) 0 := by
  have p0 : PF ⟨lyG g, L, [], true⟩ S ⟨[], 0, false⟩ 0 0 := ⟨rfl, rfl, fresh_sees hf (b := 0) (by omega) _ rfl, fresh_sees hf (b := 1) (by omega) _ rfl, fun x hx => by cases hx⟩
  have r0 := p0.refusal (b := 0) hf.dead (by show 0 < g.s - (3 + g.l); omega)
  have hne : ebm (2 + g.n / 4) ≠ zs 512 := fun e => by
    have h1 := ebm_bit (2 + g.n / 4) (by omega) 0
    have h2 := ebm_bit 0 (by omega) 0
    rw [e] at h1
    rw [show ebm 0 = zs 512 from rfl, h1] at h2
    simp at h2
  have e1 : (⟨[], 0, false⟩ : TG).put ⟨lyG g, L, [], true⟩ S ((0 : Nat) : Int) (ebm (2 + g.n / 4)) = (0, ⟨[(0, ebm (2 + g.n / 4))], 0, false⟩) := by
    unfold TG.put
    rw [if_neg (fun h => h r0), if_neg (fun h => h (ebm_len _)), Int.toNat_natCast, if_neg (by rw [p0.s0]; exact hne), if_neg (fun h => by have := h.2; simp at this)]
    rfl
  have p1 : PF ⟨lyG g, L, [], true⟩ S ⟨[(0, ebm (2 + g.n / 4))], 0, false⟩ (2 + g.n / 4) 0 := by
    have := (p0.seen (by unfold CM.Ok; exact List.Pairwise.nil) (2 + g.n / 4)).1
    exact this
  have r1 := p1.refusal (b := 1) hf.dead (by show 1 < g.s - (3 + g.l); omega)
  have e2 : (⟨[(0, ebm (2 + g.n / 4))], 0, false⟩ : TG).put ⟨lyG g, L, [], true⟩ S ((1 : Nat) : Int) (ebm 0) = (0, ⟨[(0, ebm (2 + g.n / 4))], 0, false⟩) := by
    unfold TG.put
    rw [if_neg (fun h => h r1), if_neg (fun h => h (ebm_len _)), Int.toNat_natCast, if_pos p1.s1.symm]
  refine ⟨?_, p1⟩
  unfold TG.pclear
  show (if ((⟨[], 0, false⟩ : TG).put ⟨lyG g, L, [], true⟩ S ((0 : Nat) : Int) (ebm (2 + g.n / 4))).1 ≠ 0 then _ else if (((⟨[], 0, false⟩ : TG).put ⟨lyG g, L, [], true⟩ S ((0 : Nat) : Int) (ebm (2 + g.n / 4))).2.put ⟨lyG g, L, [], true⟩ S ((1 : Nat) : Int) (ebm 0)).1 ≠ 0 then _ else (0, (((⟨[], 0, false⟩ : TG).put ⟨lyG g, L, [], true⟩ S ((0 : Nat) : Int) (ebm (2 + g.n / 4))).2.put ⟨lyG g, L, [], true⟩ S ((1 : Nat) : Int) (ebm 0)).2)) = _
  rw [e1, if_neg (fun h => h rfl), e2, if_neg (fun h => h rfl)]
set_option maxRecDepth 20000 in
theorem takes6_any (h : TX w F p s cR q l m t n S G T) (hp : PoolAt w F a1 t n) (b : Bool) :
    Calls Tryz.prog 12 #[.pointer (some ⟨a1, 0, none⟩), .bool b] w fun e w' => e = .returned (.tuple #[.int .i64 (T.takes G S (if b then nSt G.y else bSt G.y)).1, .int .i64 (T.takes G S (if b then nSt G.y else bSt G.y)).2.1]) ∧ TX w' F p s (cR + 2) q l m t n S G (T.takes G S (if b then nSt G.y else bSt G.y)).2.2 ∧ Keeps (OwT F t n) w w' := by
  cases b
  · have k1 := takeBlock_any h hp
    show Calls _ _ _ _ fun e w' => e = .returned (.tuple #[.int .i64 (T.takes G S (bSt G.y)).1, .int .i64 (T.takes G S (bSt G.y)).2.1]) ∧ TX w' F p s (cR + 2) q l m t n S G (T.takes G S (bSt G.y)).2.2 ∧ Keeps (OwT F t n) w w'
    generalize T.takes G S (bSt G.y) = R at *
    clear h hp
    go_enter Tryz.func12, Tryz.ntmps12
    go_wp2_with fail
    refine k1.mono ?_
    rintro e w1 ⟨rfl, hx, hk⟩
    have kn := num6_any R.2.1 w1
    have HE := Hid.mk (And.intro hx hk)
    clear k1 hx hk
    go_wp2_with fail
    refine kn.mono ?_
    rintro e w9 ⟨rfl, hw9⟩
    have hw9' := hw9.symm
    subst hw9'
    clear kn hw9
    go_wp2
    go_ret2
    exact ⟨rfl, HE.out⟩
  · have k1 := takeNode_any h hp
    show Calls _ _ _ _ fun e w' => e = .returned (.tuple #[.int .i64 (T.takes G S (nSt G.y)).1, .int .i64 (T.takes G S (nSt G.y)).2.1]) ∧ TX w' F p s (cR + 2) q l m t n S G (T.takes G S (nSt G.y)).2.2 ∧ Keeps (OwT F t n) w w'
    generalize T.takes G S (nSt G.y) = R at *
    clear h hp
    go_enter Tryz.func12, Tryz.ntmps12
    go_wp2_with fail
    refine k1.mono ?_
    rintro e w1 ⟨rfl, hx, hk⟩
    have kn := num6_any R.2.1 w1
    have HE := Hid.mk (And.intro hx hk)
    clear k1 hx hk
    go_wp2_with fail
    refine kn.mono ?_
    rintro e w9 ⟨rfl, hw9⟩
    have hw9' := hw9.symm
    subst hw9'
    clear kn hw9
    go_wp2
    go_ret2
    exact ⟨rfl, HE.out⟩
end
end Go.Proofs.YtkamfcffkhjmlaaGreat
end

section
namespace Go.Proofs.YtkamfcffkhjmlaaGreat
open Go.RowKit Go.Maps

/-- A cleared pool on a new store. -/
def FreshO (w w' : World) (g : GEO) (e : Ending) : Prop := ∃ F kr p cR q l m t n a1 a2 k S L, e = .returned (.tuple #[.pointer (some ⟨kr, 0, none⟩), .pointer (some ⟨a1, 0, none⟩)]) ∧ RP w' F kr p g.s cR q l m t n a1 a2 k S ⟨lyG g, L, [], true⟩ ⟨[(0, ebm (2 + g.n / 4))], 0, false⟩ ∧ FreshG g S L ∧ (∀ j, OwT F t n j → w.heap.size ≤ j) ∧ Below w.heap.size w w'
set_option maxRecDepth 20000 in
set_option maxHeartbeats 4000000 in
theorem fresh6_any (B L N : Int) (hB : I64 B) (hL : I64 L) (hN : I64 N) (w : World) : Calls Tryz.prog 9 #[.agg #[.int .i64 B, .int .i64 L, .int .i64 N]] w fun e w' => FreshO w w' (geoOf B L N) e := by
  obtain ⟨hG, h1, h2, h3, h5, h6, h4, h7⟩ := geoOf_ok B L N
  have hb0 := below_box w (.cells #[.int .i64 B, .int .i64 L, .int .i64 N] 23)
  have hbx := heap_alloc_new w (.cells #[.int .i64 B, .int .i64 L, .int .i64 N] 23)
  have hz0 : (w.alloc (.cells #[.int .i64 B, .int .i64 L, .int .i64 N] 23)).heap.size = w.heap.size + 1 := by rw [World.size_alloc]
  have k1 := super6_any B L N hB hL hN (w.alloc (.cells #[.int .i64 B, .int .i64 L, .int .i64 N] 23))
  generalize geoOf B L N = g at *
  have HB0 := Hid.mk hb0
  have HG := Hid.mk hG
  clear hb0 hbx hB hL hN hG
  go_enter Tryz.func9, Tryz.ntmps9
  go_wp2_with fail
  refine k1.mono ?_
  rintro e w1 ⟨rfl, hb1⟩
  have k2 := rig_any g HG.out w1
  have hz1 := hb1.size
  have HB1 := Hid.mk (HB0.out.trans (hb1.mono (by omega)))
  clear k1 hb1 HB0
  go_wp2_with fail
  refine k2.mono ?_
  rintro e w2 ⟨F, X, kr, p, cR, q, l, m, t, n, a1, a2, k, S, L', rfl, hkr, hrg, hfr, lF, lX, lq, ll, lm, lt, ln, hb2⟩
  have hrp := hrg.rp
  have c5 : w2.cell? ⟨kr, 5, none⟩ = some (.bool true) := cell_of_block hrp.b (j := 5) rfl
  have c2 : w2.cell? ⟨kr, 2, none⟩ = some (.pointer (some ⟨a1, 0, none⟩)) := cell_of_block hrp.b (j := 2) rfl
  have k3 := clear_any hrp.x hrp.p1
  obtain ⟨e1, e2⟩ := fresh_clear hfr h4 h1
  rw [e1] at k3
  have HR := Hid.mk hrp
  have hz2 := hb2.size
  have HB2 := Hid.mk (HB1.out.trans (hb2.mono (by omega)))
  have hlo : ∀ j, OwT F t n j → w.heap.size ≤ j := fun j hj => by
    rcases hj with hj | hj | hj
    · have := lF j hj; omega
    · omega
    · omega
  have HLo := Hid.mk hlo
  have HFr := Hid.mk hfr
  clear k2 hrg hrp hfr lF lX hb2 hlo e1 e2 HB1 HG
  go_wp2_with fail
  refine k3.mono ?_
  rintro e w3 ⟨rfl, hx3, hk3⟩
  have hr3 := HR.out.on hx3 hk3
  have d2 : w3.cell? ⟨kr, 2, none⟩ = some (.pointer (some ⟨a1, 0, none⟩)) := cell_of_block hr3.b (j := 2) rfl
  have d2d : w3.drew.cell? ⟨kr, 2, none⟩ = some (.pointer (some ⟨a1, 0, none⟩)) := d2
  have kn := num6_any 0 w3
  have hB3 := HB2.out.trans (hk3.below (fun j hj => HLo.out j hj) (by omega))
  have HE : Hid (FreshO w w3.drew g (.returned (.tuple #[.pointer (some ⟨kr, 0, none⟩), .pointer (some ⟨a1, 0, none⟩)]))) := ⟨F, kr, p, _, q, l, m, t, n, a1, a2, k, S, L', rfl, hr3.later (below_drew (Below.refl _ _)), HFr.out, HLo.out, below_drew hB3⟩
  clear k3 c5 c2 hx3 hk3 hr3 hB3 HR HB2
  go_wp2_with fail
  refine kn.mono ?_
  rintro e w9 ⟨rfl, hw9⟩
  have hw9' := hw9.symm
  subst hw9'
  clear kn hw9
  go_wp2_with fail
  go_region
  go_wp2
  go_ret2
  exact HE.out
/-- What the rounds of PoolFills keep: how many are taken. -/
def FillI (w0 wr : World) (g : GEO) (b : Bool) (F : Nat → Prop) (kr p q l m t n a1 a2 k : Nat) (S : DS) (L : LG) (c : Nat) : Prop := ∃ cR T i j, RP wr F kr p g.s cR q l m t n a1 a2 k S ⟨lyG g, L, [], true⟩ T ∧ PF ⟨lyG g, L, [], true⟩ S T i j ∧ (b = false → i = c) ∧ (b = true → j + 1 = c) ∧ (b = false → j = 0) ∧ (b = true → i = 2 + g.n / 4) ∧ Below w0.heap.size w0 wr
end Go.Proofs.YtkamfcffkhjmlaaGreat
end

section
namespace Go.Proofs.YtkamfcffkhjmlaaGreat
open Go.RowKit Go.Maps

section
variable {w0 wr : World} {g : GEO} {b : Bool} {F : Nat → Prop} {kr p q l m t n a1 a2 k c : Nat} {S : DS} {L : LG}
theorem fill_take (h : FillI w0 wr g b F kr p q l m t n a1 a2 k S L c) (hf : FreshG g S L) (_h1 : g.s ≤ 2048) (h3 : g.n ≤ 1024) (h4 : 3 + g.l + 2 + g.n / 4 + 1 ≤ g.s) (hlo : ∀ j, OwT F t n j → w0.heap.size ≤ j) (hc1 : (spanOf g b).1 ≤ c) (hc2 : c < (spanOf g b).2) :
    Calls Tryz.prog 12 #[.pointer (some ⟨a1, 0, none⟩), .bool b] wr fun e w' => e = .returned (.tuple #[.int .i64 (c : Int), .int .i64 0]) ∧ FillI w0 w' g b F kr p q l m t n a1 a2 k S L (c + 1) := by
  obtain ⟨cR, T, i, j, hrp, hpf, e1, e2, e3, e4, hbl⟩ := h
  have hok := hrp.x.tx.ch.ok
  have k1 := takes6_any hrp.x hrp.p1 b
  have h2 : 2 ≤ (⟨lyG g, L, [], true⟩ : SG).y.blocks := hrp.x.yk.b2
  cases b
  · have hi := e1 rfl
    have hj := e3 rfl
    have c1 : 2 + g.n / 4 ≤ c := hc1
    have c2 : c < g.s - 3 - g.l := hc2
    have ht := hpf.takeK hf.dead h2 hok (k := bSt (⟨lyG g, L, [], true⟩ : SG).y) (bSt_ok hrp.x.yk) (c := i) hpf.s0 (by show 2 + g.n / 4 - 0 ≤ i; omega) (by show i < 2 + g.n / 4 - 0 + (g.s - (3 + g.l) - (2 + g.n / 4)); omega)
    rw [if_neg (by decide), ht] at k1
    refine k1.mono ?_
    rintro e w' ⟨rfl, hx, hk⟩
    refine ⟨by rw [hi]; rfl, _, _, i + 1, j, hrp.on hx hk, (hpf.seen hok (i + 1)).1, fun _ => by omega, (fun h => by cases h), e3, (fun h => by cases h), hbl.trans (hk.below hlo hbl.size)⟩
  · have hj := e2 rfl
    have hi := e4 rfl
    have c1 : 1 ≤ c := hc1
    have c2 : c < g.n + 1 := hc2
    have ht := hpf.takeK hf.dead h2 hok (k := nSt (⟨lyG g, L, [], true⟩ : SG).y) (nSt_ok hrp.x.yk) (c := j) hpf.s1 (by show 1 - 1 ≤ j; omega) (by show j < 1 - 1 + g.n; omega)
    rw [if_pos rfl, ht] at k1
    refine k1.mono ?_
    rintro e w' ⟨rfl, hx, hk⟩
    refine ⟨by rw [← hj]; rfl, _, _, i, j + 1, hrp.on hx hk, (hpf.seen hok (j + 1)).2, (fun h => by cases h), fun _ => by omega, (fun h => by cases h), e4, hbl.trans (hk.below hlo hbl.size)⟩
/-- What is answered where none is free. -/
def fullOf (b : Bool) : Int := if b then 61 else 60
/-- A spoilt transaction under a rig. -/
def SpoilI (w0 wr : World) (g : GEO) (b : Bool) (F : Nat → Prop) (kr p q l m t n a1 a2 k : Nat) (S : DS) (L : LG) : Prop := ∃ cR T, RP wr F kr p g.s cR q l m t n a1 a2 k S ⟨lyG g, L, [], true⟩ T ∧ T.bad = fullOf b ∧ T.ended = false ∧ Below w0.heap.size w0 wr
theorem fill_full (h : FillI w0 wr g b F kr p q l m t n a1 a2 k S L c) (hf : FreshG g S L) (_h1 : g.s ≤ 2048) (h3 : g.n ≤ 1024) (h4 : 3 + g.l + 2 + g.n / 4 + 1 ≤ g.s) (hlo : ∀ j, OwT F t n j → w0.heap.size ≤ j) (hc : c = (spanOf g b).2) :
    Calls Tryz.prog 12 #[.pointer (some ⟨a1, 0, none⟩), .bool b] wr fun e w' => e = .returned (.tuple #[.int .i64 0, .int .i64 (fullOf b)]) ∧ SpoilI w0 w' g b F kr p q l m t n a1 a2 k S L := by
  obtain ⟨cR, T, i, j, hrp, hpf, e1, e2, e3, e4, hbl⟩ := h
  have k1 := takes6_any hrp.x hrp.p1 b
  have h2 : 2 ≤ (⟨lyG g, L, [], true⟩ : SG).y.blocks := hrp.x.yk.b2
  cases b
  · have hi := e1 rfl
    have c2 : c = g.s - 3 - g.l := hc
    have ht := hpf.takeNo hf.dead h2 (k := bSt (⟨lyG g, L, [], true⟩ : SG).y) (bSt_ok hrp.x.yk) (c := i) hpf.s0 (by show i = 2 + g.n / 4 - 0 + (g.s - (3 + g.l) - (2 + g.n / 4)); omega) (.inl rfl)
    rw [if_neg (by decide), ht] at k1
    refine k1.mono ?_
    rintro e w' ⟨rfl, hx, hk⟩
    exact ⟨rfl, _, _, hrp.on hx hk, rfl, hpf.en, hbl.trans (hk.below hlo hbl.size)⟩
  · have hj := e2 rfl
    have c2 : c = g.n + 1 := hc
    have ht := hpf.takeNo hf.dead h2 (k := nSt (⟨lyG g, L, [], true⟩ : SG).y) (nSt_ok hrp.x.yk) (c := j) hpf.s1 (by show j = 1 - 1 + g.n; omega) (.inr rfl)
    rw [if_pos rfl, ht] at k1
    refine k1.mono ?_
    rintro e w' ⟨rfl, hx, hk⟩
    exact ⟨rfl, _, _, hrp.on hx hk, rfl, hpf.en, hbl.trans (hk.below hlo hbl.size)⟩
theorem spoil_cells (h : SpoilI w0 wr g b F kr p q l m t n a1 a2 k S L) : wr.cell? ⟨kr, 3, none⟩ = some (.pointer (some ⟨a2, 0, none⟩)) ∧ wr.cell? ⟨a2, 0, none⟩ = some (.pointer (some ⟨t, 0, none⟩)) := by
  obtain ⟨cR, T, hrp, _⟩ := h
  exact ⟨cell_of_block hrp.b (j := 3) rfl, hrp.p2.c0⟩
theorem full_ne (b : Bool) : fullOf b ≠ 0 := by cases b <;> decide
theorem spoil_state (h : SpoilI w0 wr g b F kr p q l m t n a1 a2 k S L) (hf : FreshG g S L) :
    Calls Tryz.prog 13 #[.pointer (some ⟨t, 0, none⟩)] wr fun e w' => e = .returned (.int .i64 (fullOf b)) ∧ SpoilI w0 w' g b F kr p q l m t n a1 a2 k S L := by
  obtain ⟨cR, T, hrp, hb, he, hbl⟩ := h
  have k1 := state_any hrp.x.st hrp.x.tx
  rw [bad_state hf.dead he (by rw [hb]; exact full_ne b), hb] at k1
  refine k1.mono ?_
  rintro e w' ⟨rfl, hb1⟩
  exact ⟨rfl, _, T, hrp.later hb1, hb, he, hbl.trans (hb1.mono hbl.size)⟩
theorem spoil_take (h : SpoilI w0 wr g b F kr p q l m t n a1 a2 k S L) (hf : FreshG g S L) (hlo : ∀ j, OwT F t n j → w0.heap.size ≤ j) (b' : Bool) :
    Calls Tryz.prog 12 #[.pointer (some ⟨a2, 0, none⟩), .bool b'] wr fun e w' => e = .returned (.tuple #[.int .i64 0, .int .i64 (fullOf b)]) ∧ Below w0.heap.size w0 w' := by
  obtain ⟨cR, T, hrp, hb, he, hbl⟩ := h
  have k1 := takes6_any hrp.x hrp.p2 b'
  rw [bad_take hf.dead he (by rw [hb]; exact full_ne b), hb] at k1
  refine k1.mono ?_
  rintro e w' ⟨rfl, hx, hk⟩
  exact ⟨rfl, hbl.trans (hk.below hlo hbl.size)⟩
end
theorem span_le {g : GEO} {b : Bool} (h1 : g.s ≤ 2048) (h3 : g.n ≤ 1024) (h4 : 3 + g.l + 2 + g.n / 4 + 1 ≤ g.s) : (spanOf g b).1 ≤ (spanOf g b).2 ∧ (spanOf g b).2 ≤ 4096 := by
  cases b
  · show 2 + g.n / 4 ≤ g.s - 3 - g.l ∧ g.s - 3 - g.l ≤ 4096; omega
  · show 1 ≤ g.n + 1 ∧ g.n + 1 ≤ 4096; omega
set_option maxRecDepth 20000 in
set_option maxHeartbeats 8000000 in
theorem poolFills_any (B L N : Int) (b : Bool) (hB : I64 B) (hL : I64 L) (hN : I64 N) (w : World) : Calls Tryz.prog 3 #[.agg #[.int .i64 B, .int .i64 L, .int .i64 N], .bool b] w fun e w' => e = .returned (.bool true) ∧ Below w.heap.size w w' := by
  obtain ⟨hG, h1, h2, h3, h5, h6, h4, h7⟩ := geoOf_ok B L N
  have hb0 := below_box w (.cells #[.int .i64 B, .int .i64 L, .int .i64 N] 23)
  have hbx := heap_alloc_new w (.cells #[.int .i64 B, .int .i64 L, .int .i64 N] 23)
  have hz0 : (w.alloc (.cells #[.int .i64 B, .int .i64 L, .int .i64 N] 23)).heap.size = w.heap.size + 1 := by rw [World.size_alloc]
  have k1 := fresh6_any B L N hB hL hN (w.alloc (.cells #[.int .i64 B, .int .i64 L, .int .i64 N] 23))
  have HSu : Hid (∀ w, Calls Tryz.prog 11 #[.agg #[.int .i64 B, .int .i64 L, .int .i64 N]] w fun e w' => e = .returned (supV (geoOf B L N)) ∧ Below w.heap.size w w') := fun w => super6_any B L N hB hL hN w
  generalize geoOf B L N = g at *
  have HB0 := Hid.mk (And.intro hb0 hbx)
  clear hb0 hbx hB hL hN hG h7
  go_enter Tryz.func3, Tryz.ntmps3
  go_wp2_with fail
  refine k1.mono ?_
  rintro e w1 ⟨F, kr, p, cR, q, l, m, t, n, a1, a2, k, S, L', rfl, hrp, hfr, hlo1, hb1⟩
  have hz1 := hb1.size
  rw [hz0] at hz1 hlo1
  have hbx1 := (hb1.block _ (lt_there HB0.out.2)).trans HB0.out.2
  have hlo : ∀ j, OwT F t n j → w.heap.size ≤ j := fun j hj => by have := hlo1 j hj; omega
  have hB1 := HB0.out.1.trans (hb1.mono (by omega))
  have g0 : w1.cell? ⟨w.heap.size, 0, none⟩ = some (.int .i64 B) := cell_of_block hbx1 (j := 0) rfl
  have g1 : w1.cell? ⟨w.heap.size, 1, none⟩ = some (.int .i64 L) := cell_of_block hbx1 (j := 1) rfl
  have g2 : w1.cell? ⟨w.heap.size, 2, none⟩ = some (.int .i64 N) := cell_of_block hbx1 (j := 2) rfl
  have k2 := HSu.out w1
  obtain ⟨_, hpf⟩ := fresh_clear hfr h4 h1
  have HI := Hid.mk (And.intro hrp (And.intro hpf hB1))
  have HFr := Hid.mk hfr
  have HLo := Hid.mk hlo
  clear k1 hrp hfr hlo1 hb1 hbx1 hlo hB1 hpf HB0 HSu
  go_wp2_with fail
  refine k2.mono ?_
  rintro e w2 ⟨rfl, hb2⟩
  have k3 := span6_any g h1 h3 h6 h4 b w2
  have hz2 := hb2.size
  have HB2 := Hid.mk hb2
  obtain ⟨s1, s2⟩ := span_le (b := b) h1 h6 h4
  obtain ⟨S1, hS1⟩ : ∃ S1, S1 = (spanOf g b).1 := ⟨_, rfl⟩
  obtain ⟨S2, hS2⟩ : ∃ S2, S2 = (spanOf g b).2 := ⟨_, rfl⟩
  rw [← hS1, ← hS2] at k3 s1
  rw [← hS2] at s2
  have HS1 := Hid.mk hS1
  have HS2 := Hid.mk hS2
  clear k2 hb2 g0 g1 g2 hS1 hS2
  go_wp2_with fail
  refine k3.mono ?_
  rintro e w3 ⟨rfl, hb3⟩
  have hz3 := hb3.size
  have HF : Hid (FillI w w3 g b F kr p q l m t n a1 a2 k S L' S1) := by
    have hb23 := HB2.out.trans (hb3.mono hz2)
    refine ⟨_, _, _, _, HI.out.1.later hb23, HI.out.2.1, fun e => ?_, fun e => ?_, fun _ => rfl, fun _ => rfl, HI.out.2.2.trans (hb23.mono HI.out.2.2.size)⟩
    · rw [HS1.out, e]; rfl
    · rw [HS1.out, e]; rfl
  clear k3 hb3 HI HB2
  go_wp2
  go_loopw [9, 10, 11] (fun iv _ _ wr => ∃ c : Nat, S1 ≤ c ∧ c ≤ S2 ∧ iv = .int .i64 (c : Int) ∧ FillI w wr g b F kr p q l m t n a1 a2 k S L' c) (fun iv _ _ _ => S2 - (intOf iv).toNat)
  case atStart => exact ⟨S1, Nat.le_refl _, s1, rfl, HF.out⟩
  case round =>
    obtain ⟨c, hc1, hc2, rfl, hfi⟩ := hrel
    clear HF
    by_cases hlt : c < S2
    · have hlt' : (c : Int) < (S2 : Int) := by omega
      have k4 := fill_take hfi HFr.out h1 h6 h4 HLo.out (by rw [← HS1.out]; exact hc1) (by rw [← HS2.out]; exact hlt)
      clear hfi
      go_wp2_with fail
      refine k4.mono ?_
      rintro e w4 ⟨rfl, hfi4⟩
      have HFI := Hid.mk hfi4
      clear k4 hfi4
      go_wp2
      go_roundw
      case rel => exact ⟨c + 1, by omega, by omega, by go_num, HFI.out⟩
      case measure => simp [intOf]; omega
    · have hlt' : ¬ (c : Int) < (S2 : Int) := by omega
      have k4 := fill_full hfi HFr.out h1 h6 h4 HLo.out (by rw [← HS2.out]; omega)
      clear hfi
      cases b
      · rw [show fullOf false = 60 from rfl] at k4
        go_wp2_with fail
        refine k4.mono ?_
        rintro e w4 ⟨rfl, hsp⟩
        obtain ⟨c3, c0⟩ := spoil_cells hsp
        have k5 := spoil_state hsp HFr.out
        clear k4 hsp
        go_wp2_with fail
        refine k5.mono ?_
        rintro e w5 ⟨rfl, hsp⟩
        obtain ⟨d3, d0⟩ := spoil_cells hsp
        have k6 := spoil_take hsp HFr.out HLo.out true
        rw [show fullOf false = 60 from rfl] at k6
        rw [show fullOf false = 60 from rfl]
        clear k5 hsp c3 c0
        go_wp2_with fail
        refine k6.mono ?_
        rintro e w6 ⟨rfl, hb6⟩
        have kn := num6_any 60 w6
        have HB6 := Hid.mk hb6
        clear k6 hb6 d3 d0
        go_wp2_with fail
        refine kn.mono ?_
        rintro e w9 ⟨rfl, hw9⟩
        have hw9' := hw9.symm
        subst hw9'
        clear kn hw9
        go_wp2
        go_ret
        exact ⟨rfl, HB6.out⟩
      · rw [show fullOf true = 61 from rfl] at k4
        go_wp2_with fail
        refine k4.mono ?_
        rintro e w4 ⟨rfl, hsp⟩
        obtain ⟨c3, c0⟩ := spoil_cells hsp
        have k5 := spoil_state hsp HFr.out
        clear k4 hsp
        go_wp2_with fail
        refine k5.mono ?_
        rintro e w5 ⟨rfl, hsp⟩
        obtain ⟨d3, d0⟩ := spoil_cells hsp
        have k6 := spoil_take hsp HFr.out HLo.out false
        rw [show fullOf true = 61 from rfl] at k6
        rw [show fullOf true = 61 from rfl]
        clear k5 hsp c3 c0
        go_wp2_with fail
        refine k6.mono ?_
        rintro e w6 ⟨rfl, hb6⟩
        have kn := num6_any 61 w6
        have HB6 := Hid.mk hb6
        clear k6 hb6 d3 d0
        go_wp2_with fail
        refine kn.mono ?_
        rintro e w9 ⟨rfl, hw9⟩
        have hw9' := hw9.symm
        subst hw9'
        clear kn hw9
        go_wp2
        go_ret
        exact ⟨rfl, HB6.out⟩
end Go.Proofs.YtkamfcffkhjmlaaGreat
end

section
namespace Go.Proofs.YtkamfcffkhjmlaaGreat
open Go.ChangeShapes Go.WideShapes Go.ChangeAt Go.RowKit Go.Deep

theorem cellsGeo : Tryz.prog.cellsOf 23 = 3 := by kernel_rfl
theorem open_geo {H : Type} {enc : TypeId × Value → H} {W : World} {base : Nat} {spare : Nat → Bool} {held : Bool} {fuel : Nat} {cs : List Value} {y : DataW H × List MemPlace} (h : DataW.trod enc Tryz.prog W base spare held fuel 23 cs = some y) : ∃ s l n, cs = [.int .i64 s, .int .i64 l, .int .i64 n] ∧ I64 s ∧ I64 l ∧ I64 n := by
  obtain ⟨v0, v1, v2, y0, y1, y2, k', rfl, _, g0, g1, g2⟩ := trod3 Tryz.underlying23 cellsGeo rfl rfl rfl cellsInt cellsInt cellsInt h
  obtain ⟨n0, q0, _, w0⟩ := DataW.trod_int Tryz.underlying3 g0
  obtain ⟨n1, q1, _, w1⟩ := DataW.trod_int Tryz.underlying3 g1
  obtain ⟨n2, q2, _, w2⟩ := DataW.trod_int Tryz.underlying3 g2
  simp only [List.cons.injEq, and_true] at q0 q1 q2
  subst q0 q1 q2
  exact ⟨n0, n1, n2, rfl, int_wf w0, int_wf w1, int_wf w2⟩
end Go.Proofs.YtkamfcffkhjmlaaGreat
end
