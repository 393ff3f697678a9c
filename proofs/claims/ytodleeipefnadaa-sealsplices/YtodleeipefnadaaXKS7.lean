import Derived.Test.YtodleeipefnadaaXKS6
namespace Go.Proofs.Ytodleeipefnadaa
open Go.RowKit

/-- Zeros. -/
def zs (n : Nat) : List Int := List.replicate n 0
theorem zs_len (n : Nat) : (zs n).length = n := List.length_replicate
theorem zs_succ (n : Nat) : zs (n + 1) = 0 :: zs n := List.replicate_succ
theorem zs_add (n m : Nat) : zs (n + m) = zs n ++ zs m := by unfold zs; rw [List.replicate_append_replicate]
def zsec : Array Value := (bs (zs 512)).toArray
theorem infoSec : (Try.prog.info? 91).map (fun i => (i.zero, i.size)) = some (some (.agg zsec), 512) := by kernel_rfl
theorem zeroSec (w : World) : (zeroValue 91).run Try.prog w = .ok (.agg zsec) w := by
  obtain ⟨i, hi, he⟩ := Option.map_eq_some_iff.1 infoSec
  simp only [Prod.mk.injEq] at he
  simp [zeroValue, typeInfo, hi, he.1]
theorem sizeSec : (Try.prog.info? 91).map (·.size) = some 512 := by
  obtain ⟨i, hi, he⟩ := Option.map_eq_some_iff.1 infoSec
  simp only [Prod.mk.injEq] at he
  rw [hi, ← he.2]; rfl

theorem leb2 (n : Nat) (h : n < 65536) : leb 2 n = [((n % 256 : Nat) : Int), ((n / 256 : Nat) : Int)] := by
  simp only [leb]
  congr 3
  omega
theorem leb4 (s : Nat) : leb 4 s = bytes4 s := by
  simp only [leb, bytes4, Nat.div_div_eq_div_mul]
theorem set_last (l : List Int) (x y : Int) : (l ++ [x]).set l.length y = l ++ [y] := by
  rw [List.set_append_right _ _ (Nat.le_refl _), Nat.sub_self]; rfl
/-- The empty sector with its turns. -/
def s1 (t : Int) : List Int := t :: (zs 510 ++ [t])
theorem s1_len (t : Int) : (s1 t).length = 512 := by simp only [s1, List.length_cons, List.length_append, zs_len, List.length_nil]
def s2 (t : Int) (n : Nat) : List Int := t :: ((n % 256 : Nat) : Int) :: ((n / 256 : Nat) : Int) :: (zs 508 ++ [t])
theorem s2_len (t : Int) (n : Nat) : (s2 t n).length = 512 := by simp only [s2, List.length_cons, List.length_append, zs_len, List.length_nil]
theorem s2_of (t : Int) (n : Nat) (h : n < 65536) : put (s1 t) 1 (leb 2 n) = s2 t n := by
  rw [leb2 n h]
  unfold s1 s2
  rw [zs_succ 509, zs_succ 508]
  simp only [put, List.take_succ_cons, List.take_zero, List.length_cons, List.length_nil, List.cons_append, List.nil_append, List.drop_succ_cons, List.drop_zero]
def s3 (t : Int) (body : List Int) : List Int := t :: ((body.length % 256 : Nat) : Int) :: ((body.length / 256 : Nat) : Int) :: 0 :: 0 :: 0 :: 0 :: (body ++ (List.replicate (504 - body.length) 0 ++ [t]))
theorem s3_len (t : Int) {body : List Int} (h : body.length ≤ 504) : (s3 t body).length = 512 := by simp [s3]; omega
theorem s3_of (t : Int) (body : List Int) (h : body.length ≤ 504) : put (s2 t body.length) 7 body = s3 t body := by
  unfold s2 s3
  have e : (zs 508 ++ [t]) = 0 :: 0 :: 0 :: 0 :: (zs body.length ++ (zs (504 - body.length) ++ [t])) := by
    rw [← List.append_assoc, ← zs_add, show body.length + (504 - body.length) = 504 by omega, zs_succ 507, zs_succ 506, zs_succ 505, zs_succ 504]
    rfl
  rw [e]
  simp only [put, List.take_succ_cons, List.take_zero, List.cons_append, List.nil_append]
  rw [show 7 + body.length = body.length + 7 by omega]
  simp only [List.drop_succ_cons]
  rw [List.drop_left' (zs_len _)]
  rfl
theorem s3_bytes {t : Int} {body : List Int} (ht : 0 ≤ t ∧ t < 256) (hb : Bytes body) (h : body.length ≤ 504) : Bytes (s3 t body) :=
  .cons ht (.cons (by omega) (.cons (by omega) (.cons (by omega) (.cons (by omega) (.cons (by omega) (.cons (by omega) (hb.append ((Bytes.zeros _).append (.cons ht .nil)))))))))
theorem s3_text (t : Int) (body : List Int) (h : body.length ≤ 504) : stextOf (s3 t body) = stext body := by
  unfold stextOf s3 stext
  simp only [List.drop_succ_cons, List.drop_zero, List.take_succ_cons, List.take_zero, List.cons_append, List.nil_append]
  rw [← List.append_assoc, List.take_left' (by simp; omega)]
theorem s4_of (t : Int) (body : List Int) : put (s3 t body) 3 (leb 4 (sumOf (stext body))) = sform t body := by
  rw [leb4]
  unfold s3 sform
  simp only [put, List.take_succ_cons, List.take_zero, bytes4_len, List.cons_append, List.nil_append, List.drop_succ_cons, List.drop_zero]

theorem bs_put (l xs : List Int) (o : Nat) : splice (bs l) o (bs xs) = bs (put l o xs) := by
  simp [splice, bs, put, List.map_take, List.map_drop]
/-- copy of bytes into a part of a block of bytes. -/
theorem copy_blk (w : World) (ty T : TypeId) (g off dLen dCap : Nat) (a : Option Addr) (sLen sCap : Nat) (cur l : List Int) (hg : Blk w T g cur)
    (hs : Src w a sLen l) (hle : sLen ≤ dLen) (hfit : off + dLen ≤ cur.length) :
    ∃ w2, (Builtin.copy_ #[30, 30] ty #[.slice (some ⟨g, off, none⟩) dLen dCap, .slice a sLen sCap]).run Try.prog w = .ok (goInt sLen) w2 ∧
      Blk w2 T g (put cur off l) ∧ Keeps (fun k => k = g) w w2 ∧ w2.heap.size = w.heap.size := by
  have hl := hs.1
  by_cases h0 : sLen = 0
  · refine ⟨w, ?_, ?_, Keeps.refl _ _, rfl⟩
    · have := run_copy_none (P := Try.prog) w 30 30 ty 5 (some ⟨g, off, none⟩) a dLen dCap sLen sCap Try.underlying30 sizeU8 (by rw [h0]; exact Nat.zero_min _)
      rw [h0] at this ⊢
      exact this
    · have : l = [] := List.eq_nil_of_length_eq_zero (by omega)
      rw [this, put_nil]; exact hg
  · cases a with
    | none => have := hs.2.1 rfl; omega
    | some x =>
      have hlen : (bs l).length = Nat.min sLen dLen := by
        have e : Nat.min sLen dLen = sLen := Nat.min_eq_left hle
        simp only [bs, List.length_map, e]; omega
      have hrun := run_copy_row (P := Try.prog) w 30 30 ty 5 g off dLen dCap x sLen sCap (bs cur).toArray T (bs l) Try.underlying30 sizeU8 hg hlen
        (fun j v hj => by
          obtain ⟨hj', rfl⟩ := bs_getElem hj
          rw [hs.2.2 x rfl j (by omega)]) (by simp only [List.size_toArray]; simp [bs]; omega) (bs_one _)
      have e : (bs l).length = sLen := by simp only [bs, List.length_map]; omega
      rw [e] at hrun
      refine ⟨_, hrun, ?_, ⟨rfl, rfl, rfl, by simp, fun k _ hk => setRow_other w g k _ hk⟩, by simp⟩
      unfold Blk
      rw [setRow_heap w g _ _ T _ hg, ← bs_put]
      simp only [splice, List.append_assoc, e]
theorem s1_of (t : Int) : (zsec.setIfInBounds 0 (Value.int .u8 t)).setIfInBounds 511 (Value.int .u8 t) = (bs (s1 t)).toArray := by
  apply Array.ext'
  rw [Array.toList_setIfInBounds, Array.toList_setIfInBounds]
  unfold zsec s1
  show ((bs (zs 512)).set 0 (Value.int .u8 t)).set 511 (Value.int .u8 t) = bs (t :: (zs 510 ++ [t]))
  rw [bs, bs, ← List.map_set, ← List.map_set, zs_succ 511, List.set_cons_zero, List.set_cons_succ, zs_add 510 1]
  have := set_last (zs 510) 0 t
  rw [zs_len] at this
  have e : zs 1 = [0] := rfl
  rw [e, this]
end Go.Proofs.Ytodleeipefnadaa
