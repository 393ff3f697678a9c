import Derived.Test.YtpihehpmejicaaaPA1
import Derived.Test.YtpihehpmejicaaaKOpenT
import Derived.Test.YtpihehpmejicaaaPA0
import Derived.Deep.AppendLies
import Derived.Lib.OthersKept
import Derived.Lib.AppendZeros
namespace Go.Proofs.Ytpihehpmejicaaa
open Go.RowKit Go.Maps

theorem right_any (s : ByteArray) (w : World) :
    Calls Try.prog 18 #[.string s] w fun e w' => e = .returned (.int .i64 (rightErr s.data.toList)) ∧ w' = w := by
  have hn := name_any s
  by_cases h : s.toList = [46, 46]
  · have e : rightErr s.data.toList = 0 := by
      rw [ByteArray.toList_eq] at h
      simp [rightErr, h]
    rw [e]
    go_enter Try.func18, Try.ntmps18
    go_wp2
    go_ret
    exact ⟨rfl, rfl⟩
  · have e : rightErr s.data.toList = nameErr s.data.toList := by
      rw [ByteArray.toList_eq] at h
      simp [rightErr, h]
    rw [e]
    have e3 : (s.toList == [46, 46]) = false := by simp; exact h
    clear h
    go_enter Try.func18, Try.ntmps18
    go_wp2_with fail
    refine (hn _).mono ?_
    rintro e w1 ⟨rfl, hw⟩
    have hw' := hw.symm
    subst hw'
    go_wp2
    go_ret
    exact ⟨rfl, rfl⟩

theorem ext_list (s : ByteArray) (a b : Nat) : (s.extract a b).data.toList = (s.data.toList.drop a).take (b - a) := by
  simp [ByteArray.data_extract]

theorem stringslite_any (s : ByteArray) (w : World) :
    Calls Try.prog 21 #[.string s, .string ⟨#[47]⟩] w fun e w' => e = .returned (.bool (s.data.toList.head? == some 47)) ∧ w' = w := by
  by_cases h : 1 ≤ (s.size : Int)
  · go_enter Try.func21, Try.ntmps21
    go_wp2
    go_ret
    refine ⟨?_, rfl⟩
    rw [ByteArray.toList_eq, ext_list]
    have hl : s.data.toList.length = s.size := len_size s
    cases hs : s.data.toList with
    | nil => rw [hs] at hl; simp at hl; omega
    | cons c t => simp
  · go_enter Try.func21, Try.ntmps21
    go_wp2
    go_ret
    refine ⟨?_, rfl⟩
    have hl : s.data.toList.length = s.size := len_size s
    cases hs : s.data.toList with
    | nil => rfl
    | cons c t => rw [hs] at hl; simp at hl; omega
theorem hasPrefix_any (s : ByteArray) (w : World) :
    Calls Try.prog 17 #[.string s, .string ⟨#[47]⟩] w fun e w' => e = .returned (.bool (s.data.toList.head? == some 47)) ∧ w' = w := by
  have hn := stringslite_any s
  generalize (s.data.toList.head? == some 47) = R at *
  go_enter Try.func17, Try.ntmps17
  go_wp2_with fail
  refine (hn _).mono ?_
  rintro e w1 ⟨rfl, hw⟩
  have hw' := hw.symm
  subst hw'
  go_wp2
  go_ret
  exact ⟨rfl, rfl⟩
theorem rooted_any (s : ByteArray) (w : World) :
    Calls Try.prog 12 #[.string s] w fun e w' => e = .returned (.bool (s.data.toList.head? == some 47)) ∧ w' = w := by
  have hn := hasPrefix_any s
  generalize (s.data.toList.head? == some 47) = R at *
  go_enter Try.func12, Try.ntmps12
  go_wp2_with fail
  refine (hn _).mono ?_
  rintro e w1 ⟨rfl, hw⟩
  have hw' := hw.symm
  subst hw'
  go_wp2
  go_ret
  exact ⟨rfl, rfl⟩

/-! lists of texts -/
theorem infoStr : (Try.prog.info? 9).map (fun i => (i.zero, i.size, i.bytes)) = some (some (.string ⟨#[]⟩), 1, 16) := by kernel_rfl
/-- Texts as cells. -/
abbrev strs (l : List (List UInt8)) : List Value := l.map (fun x => Value.string ⟨x.toArray⟩)
theorem app_str {W : World} {B k : Nat} {v : Value} {vs : List Value} (hrow : W.ownsRow B 9 1 v k vs) (x : Value) (hx : x.oneCell' = true) (hk : k ≤ 100000000) (hB : B ≤ W.heap.size) :
    ∃ g cap w', (Builtin.append_ #[22, 22] 22 #[v, .slice (some ⟨W.heap.size, 0, none⟩) 1 1]).run Try.prog (W.alloc (.cells #[x] 9)) = .ok (.slice (some ⟨g, 0, none⟩) (k + 1) cap) w' ∧ w'.ownsRow B 9 1 (.slice (some ⟨g, 0, none⟩) (k + 1) cap) (k + 1) (vs ++ [x]) ∧ (W.alloc (.cells #[x] 9)).grownBy w' v.ownBlock ∧ (v.ownBlock = some g ∨ g = W.heap.size + 1) := by
  obtain ⟨i0, hi, hz0, hz1, hz2⟩ := info_parts infoStr
  obtain ⟨g, cap, w', h1, h2, h3, h4, _⟩ := run_append_lies (P := Try.prog) (W.alloc (.cells #[x] 9)) 22 22 B 9 i0 (.string ⟨#[]⟩) 1 16 Try.underlying22 hi hz0 hz1 hz2 rfl (by decide) v k vs (rowAgree hrow (fun g hg => Below.heap_alloc _ _ _ (rowLt hrow hg))) ⟨W.heap.size, 0, none⟩ 1 1 [x] rfl (World.news_of_block (cs := #[x]) (t := 9) (fr := (0, 0)) (heap_alloc_new W _)) (by simpa using hx) (by omega) (by unfold maxLen; omega) (by omega) (by simp; omega) _ rfl
  exact ⟨g, cap, w', h1, h2, h3, h4.imp (fun e => e) (fun e => e.trans (by simp))⟩
end Go.Proofs.Ytpihehpmejicaaa
