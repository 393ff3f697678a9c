import Derived.Test.YtalokopnagpgcaaDoorSH5
namespace Go.Proofs.YtalokopnagpgcaaDoor
open Go.RowKit Go.Maps

theorem get_at {s : ByteArray} {i : Nat} {c : UInt8} (h : s.data.toList[i]? = some c) : ∀ h', ((s[i]'h').toNat : Int) = (c.toNat : Int) := fun h' => by
  have h1 := getb s h'
  rw [h] at h1
  rw [Option.some.inj h1, byte_at s h']
theorem ext_to (s : ByteArray) (a : Nat) : s.extract a s.size = ⟨(s.data.toList.drop a).toArray⟩ := by
  have h : (s.extract a s.size).data.toList = s.data.toList.drop a := by
    rw [ext_list, List.take_of_length_le (by simp)]
  rw [← h]
theorem ext_from (s : ByteArray) (b : Nat) : s.extract 0 b = ⟨(s.data.toList.take b).toArray⟩ := by
  have h : (s.extract 0 b).data.toList = s.data.toList.take b := by
    rw [ext_list]
    simp
  rw [← h]

theorem parse_ok (a b : UInt8) (x y : Nat) (ha : hexN a.toNat = some x) (hb : hexN b.toNat = some y) (w : World) :
    Calls Tryd.prog 44 #[.string ⟨#[a, b]⟩, .int .i64 16, .int .i64 8] w fun e w' => e = .returned (.tuple #[.int .u64 ((16 * x + y : Nat) : Int), .nilIface]) ∧ Below w.heap.size w w' := by
  have h := iparse_any a b w
  have hp : parse2 a.toNat b.toNat = .tuple #[.int .u64 ((16 * x + y : Nat) : Int), .nilIface] := by
    unfold parse2
    rw [ha, hb]
  rw [hp] at h
  clear hp
  generalize (⟨#[a, b]⟩ : ByteArray) = s at *
  generalize 16 * x + y = M at *
  go_enter Tryd.func44, Tryd.ntmps44
  go_wp2_with fail
  refine h.mono ?_
  rintro e w1 ⟨rfl, hb1⟩
  have HB := Hid.mk hb1
  clear hb1 h
  go_wp2
  go_ret2
  exact ⟨rfl, HB.out⟩

/-- What a byte that is written as two digits stands for, and what follows. -/
def hexR : List UInt8 → Option (UInt8 × List UInt8)
  | a :: b :: r => match hexN a.toNat, hexN b.toNat with
    | some x, some y => some (UInt8.ofNat (16 * x + y), r)
    | _, _ => none
  | _ => none
set_option maxRecDepth 20000 in
theorem hexa_ok (s : ByteArray) (c : UInt8) (r : List UInt8) (h : hexR s.data.toList = some (c, r)) (w : World) :
    Calls Tryd.prog 39 #[.string s] w fun e w' => e = .returned (.tuple #[.int .u8 c.toNat, .string ⟨r.toArray⟩, .bool true]) ∧ Below w.heap.size w w' := by
  match hl : s.data.toList, h with
  | a :: b :: r', h =>
    have hsz : s.size = r'.length + 2 := by rw [← len_size, hl]; simp
    have e2 := ext_to s 2
    have e0 := ext_from s 2
    rw [hl] at e2 e0
    simp only [List.drop_succ_cons, List.drop_zero, List.take_succ_cons, List.take_zero] at e2 e0
    cases hx : hexN a.toNat with
    | none => simp [hexR, hx] at h
    | some x =>
      cases hy : hexN b.toNat with
      | none => simp [hexR, hx, hy] at h
      | some y =>
        simp only [hexR, hx, hy, Option.some.injEq, Prod.mk.injEq] at h
        obtain ⟨h1, h2⟩ := h
        subst h2
        have hxl := hexN_lt hx
        have hyl := hexN_lt hy
        have hc : c.toNat = 16 * x + y := by
          rw [← h1, UInt8.toNat_ofNat']
          omega
        have hcv : IntKind.u8.wrap ((16 * x + y : Nat) : Int) = ((16 * x + y : Nat) : Int) := by rw [IntKind.wrap_u8]; omega
        have hp := parse_ok a b x y hx hy
        rw [hc]
        clear h1 hc hx hy hl
        generalize 16 * x + y = M at *
        have hge : ¬ ((s.size : Int) < 2) := by omega
        have hge2 : (2 : Int) ≤ (s.size : Int) := by omega
        go_enter Tryd.func39, Tryd.ntmps39
        clear hsz h
        go_wp2_with fail
        refine (hp _).mono ?_
        rintro e w1 ⟨rfl, hb1⟩
        have HB := Hid.mk hb1
        clear hb1 hp
        go_wp2
        go_region
        go_wp2
        go_ret3
        exact ⟨rfl, below_drew HB.out⟩

/-- A byte that stands for itself. -/
def plainB (c : UInt8) : Bool := plainR (c.toNat : Int)
/-- The byte for which the beginning of a quoted word's inside stands, and what follows. -/
def oneB : List UInt8 → Option (UInt8 × List UInt8)
  | [] => none
  | c :: t => if plainB c then some (c, t) else if c = 92 then match t with
    | [] => none
    | d :: r => if d = 92 ∨ d = 34 then some (d, r) else if d = 110 then some (10, r) else if d = 116 then some (9, r) else if d = 120 then hexR r else none
    else none
end Go.Proofs.YtalokopnagpgcaaDoor
