/-
  What package arithmetic's Value returns: the twelve operations. Condition: numbers of 64 bits.
-/
import Derived.Test.YtimiofmmhccmmaaDoorRows
import Derived.Test.YtimiofmmhccmmaaDoorArith
import Derived.Lib.Hide
namespace Go.Proofs.YtimiofmmhccmmaaDoor
open Go.RowKit

theorem quot_zero (a b : Int) (h : b = 0) (w : World) : Calls Tryd.prog 43 #[.int .i64 a, .int .i64 b] w fun e w' => e = .returned (.int .i64 0) ∧ w' = w := by
  subst h
  go_enter Tryd.func43, Tryd.ntmps43
  go_wp2
  go_ret
  exact ⟨rfl, rfl⟩
theorem quot_any (a b : Int) (h : b ≠ 0) (w : World) : Calls Tryd.prog 43 #[.int .i64 a, .int .i64 b] w fun e w' => e = .returned (.int .i64 (wrap64 (a.tdiv b))) ∧ w' = w := by
  have hq : (b == 0) = false := by simpa using h
  go_enter Tryd.func43, Tryd.ntmps43
  go_wp2
  go_ret
  exact ⟨rfl, rfl⟩
theorem truth_any (p : Bool) (w : World) : Calls Tryd.prog 44 #[.bool p] w fun e w' => e = .returned (.int .i64 (if p then 1 else 0)) ∧ w' = w := by
  cases p
  · go_enter Tryd.func44, Tryd.ntmps44
    go_wp2
    go_ret
    exact ⟨rfl, rfl⟩
  · go_enter Tryd.func44, Tryd.ntmps44
    go_wp2
    go_ret
    exact ⟨rfl, rfl⟩
theorem value_0 (a b : Int) (ha : I64 a) (hb : I64 b) (w : World) : Calls Tryd.prog 37 #[.int .i64 6, .int .i64 a, .int .i64 b] w fun e w' => e = .returned (.int .i64 (wrap64 (a + b))) ∧ w' = w := by
  obtain ⟨a0, a1⟩ := ha
  obtain ⟨b0, b1⟩ := hb
  go_enter Tryd.func37, Tryd.ntmps37
  go_wp2
  go_ret
  exact ⟨rfl, rfl⟩
theorem value_1 (a b : Int) (ha : I64 a) (hb : I64 b) (w : World) : Calls Tryd.prog 37 #[.int .i64 7, .int .i64 a, .int .i64 b] w fun e w' => e = .returned (.int .i64 (wrap64 (a - b))) ∧ w' = w := by
  obtain ⟨a0, a1⟩ := ha
  obtain ⟨b0, b1⟩ := hb
  go_enter Tryd.func37, Tryd.ntmps37
  go_wp2
  go_ret
  exact ⟨rfl, rfl⟩
theorem value_2 (a b : Int) (ha : I64 a) (hb : I64 b) (w : World) : Calls Tryd.prog 37 #[.int .i64 8, .int .i64 a, .int .i64 b] w fun e w' => e = .returned (.int .i64 (wrap64 (a * b))) ∧ w' = w := by
  obtain ⟨a0, a1⟩ := ha
  obtain ⟨b0, b1⟩ := hb
  go_enter Tryd.func37, Tryd.ntmps37
  go_wp2
  go_ret
  exact ⟨rfl, rfl⟩
theorem value_3z (a b : Int) (ha : I64 a) (hb : I64 b) (h : b = 0) (w : World) : Calls Tryd.prog 37 #[.int .i64 9, .int .i64 a, .int .i64 b] w fun e w' => e = .returned (.int .i64 (0)) ∧ w' = w := by
  subst h
  obtain ⟨a0, a1⟩ := ha
  obtain ⟨b0, b1⟩ := hb
  go_enter Tryd.func37, Tryd.ntmps37
  go_wp2_with (go_at_call 43; refine (quot_zero _ _ rfl _).mono ?_; rintro e w' ⟨rfl, rfl⟩)
  go_ret
  exact ⟨rfl, rfl⟩
theorem value_3 (a b : Int) (ha : I64 a) (hb : I64 b) (h : b ≠ 0) (w : World) : Calls Tryd.prog 37 #[.int .i64 9, .int .i64 a, .int .i64 b] w fun e w' => e = .returned (.int .i64 (wrap64 (a.tdiv b))) ∧ w' = w := by
  have HN := Lib.hid h
  clear h
  obtain ⟨a0, a1⟩ := ha
  obtain ⟨b0, b1⟩ := hb
  go_enter Tryd.func37, Tryd.ntmps37
  go_wp2_with (go_at_call 43; refine (quot_any _ _ HN.out _).mono ?_; rintro e w' ⟨rfl, rfl⟩)
  go_ret
  exact ⟨rfl, rfl⟩
theorem value_4z (a b : Int) (ha : I64 a) (hb : I64 b) (h : b = 0) (w : World) : Calls Tryd.prog 37 #[.int .i64 10, .int .i64 a, .int .i64 b] w fun e w' => e = .returned (.int .i64 (a)) ∧ w' = w := by
  subst h
  obtain ⟨a0, a1⟩ := ha
  obtain ⟨b0, b1⟩ := hb
  go_enter Tryd.func37, Tryd.ntmps37
  go_wp2_with (go_at_call 43; refine (quot_zero _ _ rfl _).mono ?_; rintro e w' ⟨rfl, rfl⟩)
  go_ret
  exact ⟨rfl, rfl⟩
theorem value_4 (a b : Int) (ha : I64 a) (hb : I64 b) (h : b ≠ 0) (w : World) : Calls Tryd.prog 37 #[.int .i64 10, .int .i64 a, .int .i64 b] w fun e w' => e = .returned (.int .i64 (a.tmod b)) ∧ w' = w := by
  have HN := Lib.hid h
  have HR := Lib.hid (rem_of ha hb)
  clear h
  obtain ⟨a0, a1⟩ := ha
  obtain ⟨b0, b1⟩ := hb
  go_enter Tryd.func37, Tryd.ntmps37
  go_wp2_with (go_at_call 43; refine (quot_any _ _ HN.out _).mono ?_; rintro e w' ⟨rfl, rfl⟩)
  go_ret
  exact ⟨by rw [← HR.out]; rfl, rfl⟩
theorem value_5 (a b : Int) (ha : I64 a) (hb : I64 b) (w : World) : Calls Tryd.prog 37 #[.int .i64 11, .int .i64 a, .int .i64 b] w fun e w' => e = .returned (.int .i64 (bits .and .i64 a b)) ∧ w' = w := by
  obtain ⟨a0, a1⟩ := ha
  obtain ⟨b0, b1⟩ := hb
  go_enter Tryd.func37, Tryd.ntmps37
  go_wp2
  go_ret
  exact ⟨rfl, rfl⟩
theorem value_6 (a b : Int) (ha : I64 a) (hb : I64 b) (w : World) : Calls Tryd.prog 37 #[.int .i64 12, .int .i64 a, .int .i64 b] w fun e w' => e = .returned (.int .i64 (bits .or .i64 a b)) ∧ w' = w := by
  obtain ⟨a0, a1⟩ := ha
  obtain ⟨b0, b1⟩ := hb
  go_enter Tryd.func37, Tryd.ntmps37
  go_wp2
  go_ret
  exact ⟨rfl, rfl⟩
theorem value_7 (a b : Int) (ha : I64 a) (hb : I64 b) (w : World) : Calls Tryd.prog 37 #[.int .i64 13, .int .i64 a, .int .i64 b] w fun e w' => e = .returned (.int .i64 (bits .xor .i64 a b)) ∧ w' = w := by
  obtain ⟨a0, a1⟩ := ha
  obtain ⟨b0, b1⟩ := hb
  go_enter Tryd.func37, Tryd.ntmps37
  go_wp2
  go_ret
  exact ⟨rfl, rfl⟩
theorem value_8y (a b : Int) (ha : I64 a) (hb : I64 b) (h : a < b) (w : World) : Calls Tryd.prog 37 #[.int .i64 14, .int .i64 a, .int .i64 b] w fun e w' => e = .returned (.int .i64 (1)) ∧ w' = w := by
  obtain ⟨a0, a1⟩ := ha
  obtain ⟨b0, b1⟩ := hb
  go_enter Tryd.func37, Tryd.ntmps37
  go_wp2_with (go_at_call 44; refine (truth_any _ _).mono ?_; rintro e w' ⟨rfl, rfl⟩)
  go_ret
  exact ⟨rfl, rfl⟩
theorem value_8 (a b : Int) (ha : I64 a) (hb : I64 b) (h : ¬ a < b) (w : World) : Calls Tryd.prog 37 #[.int .i64 14, .int .i64 a, .int .i64 b] w fun e w' => e = .returned (.int .i64 (0)) ∧ w' = w := by
  obtain ⟨a0, a1⟩ := ha
  obtain ⟨b0, b1⟩ := hb
  go_enter Tryd.func37, Tryd.ntmps37
  go_wp2_with (go_at_call 44; refine (truth_any _ _).mono ?_; rintro e w' ⟨rfl, rfl⟩)
  go_ret
  exact ⟨rfl, rfl⟩
theorem value_9y (a b : Int) (ha : I64 a) (hb : I64 b) (h : a ≤ b) (w : World) : Calls Tryd.prog 37 #[.int .i64 15, .int .i64 a, .int .i64 b] w fun e w' => e = .returned (.int .i64 (1)) ∧ w' = w := by
  obtain ⟨a0, a1⟩ := ha
  obtain ⟨b0, b1⟩ := hb
  go_enter Tryd.func37, Tryd.ntmps37
  go_wp2_with (go_at_call 44; refine (truth_any _ _).mono ?_; rintro e w' ⟨rfl, rfl⟩)
  go_ret
  exact ⟨rfl, rfl⟩
theorem value_9 (a b : Int) (ha : I64 a) (hb : I64 b) (h : ¬ a ≤ b) (w : World) : Calls Tryd.prog 37 #[.int .i64 15, .int .i64 a, .int .i64 b] w fun e w' => e = .returned (.int .i64 (0)) ∧ w' = w := by
  obtain ⟨a0, a1⟩ := ha
  obtain ⟨b0, b1⟩ := hb
  go_enter Tryd.func37, Tryd.ntmps37
  go_wp2_with (go_at_call 44; refine (truth_any _ _).mono ?_; rintro e w' ⟨rfl, rfl⟩)
  go_ret
  exact ⟨rfl, rfl⟩
theorem value_10y (a b : Int) (ha : I64 a) (hb : I64 b) (h : a = b) (w : World) : Calls Tryd.prog 37 #[.int .i64 16, .int .i64 a, .int .i64 b] w fun e w' => e = .returned (.int .i64 (1)) ∧ w' = w := by
  subst h
  obtain ⟨a0, a1⟩ := ha
  obtain ⟨b0, b1⟩ := hb
  go_enter Tryd.func37, Tryd.ntmps37
  go_wp2_with (go_at_call 44; refine (truth_any _ _).mono ?_; rintro e w' ⟨rfl, rfl⟩)
  go_ret
  exact ⟨rfl, rfl⟩
theorem value_10 (a b : Int) (ha : I64 a) (hb : I64 b) (h : a ≠ b) (w : World) : Calls Tryd.prog 37 #[.int .i64 16, .int .i64 a, .int .i64 b] w fun e w' => e = .returned (.int .i64 (0)) ∧ w' = w := by
  have hq : (a == b) = false := by simpa using h
  obtain ⟨a0, a1⟩ := ha
  obtain ⟨b0, b1⟩ := hb
  go_enter Tryd.func37, Tryd.ntmps37
  go_wp2_with (go_at_call 44; refine (truth_any _ _).mono ?_; rintro e w' ⟨rfl, rfl⟩)
  go_ret
  exact ⟨rfl, rfl⟩
theorem value_11y (a b : Int) (ha : I64 a) (hb : I64 b) (h : a = b) (w : World) : Calls Tryd.prog 37 #[.int .i64 17, .int .i64 a, .int .i64 b] w fun e w' => e = .returned (.int .i64 (0)) ∧ w' = w := by
  subst h
  obtain ⟨a0, a1⟩ := ha
  obtain ⟨b0, b1⟩ := hb
  go_enter Tryd.func37, Tryd.ntmps37
  go_wp2_with (go_at_call 44; refine (truth_any _ _).mono ?_; rintro e w' ⟨rfl, rfl⟩)
  go_ret
  exact ⟨rfl, rfl⟩
theorem value_11 (a b : Int) (ha : I64 a) (hb : I64 b) (h : a ≠ b) (w : World) : Calls Tryd.prog 37 #[.int .i64 17, .int .i64 a, .int .i64 b] w fun e w' => e = .returned (.int .i64 (1)) ∧ w' = w := by
  have hq : (a == b) = false := by simpa using h
  have hq2 : (a != b) = true := by simpa using h
  obtain ⟨a0, a1⟩ := ha
  obtain ⟨b0, b1⟩ := hb
  go_enter Tryd.func37, Tryd.ntmps37
  go_wp2_with (go_at_call 44; refine (truth_any _ _).mono ?_; rintro e w' ⟨rfl, rfl⟩)
  go_ret
  exact ⟨rfl, rfl⟩
/-- All twelve. -/
theorem value_any (k a b : Int) (h0 : 0 ≤ k) (h1 : k ≤ 11) (ha : I64 a) (hb : I64 b) (w : World) : Calls Tryd.prog 37 #[.int .i64 (k + 6), .int .i64 a, .int .i64 b] w fun e w' => e = .returned (.int .i64 (opv k a b)) ∧ w' = w := by
  rcases (show k = 0 ∨ k = 1 ∨ k = 2 ∨ k = 3 ∨ k = 4 ∨ k = 5 ∨ k = 6 ∨ k = 7 ∨ k = 8 ∨ k = 9 ∨ k = 10 ∨ k = 11 by omega) with rfl | rfl | rfl | rfl | rfl | rfl | rfl | rfl | rfl | rfl | rfl | rfl
  · exact value_0 a b ha hb w
  · exact value_1 a b ha hb w
  · exact value_2 a b ha hb w
  · by_cases h : b = 0
    · rw [show opv 3 a b = 0 from if_pos h]
      exact value_3z a b ha hb h w
    · rw [show opv 3 a b = wrap64 (a.tdiv b) from if_neg h]
      exact value_3 a b ha hb h w
  · by_cases h : b = 0
    · rw [show opv 4 a b = a from if_pos h]
      exact value_4z a b ha hb h w
    · rw [show opv 4 a b = a.tmod b from if_neg h]
      exact value_4 a b ha hb h w
  · exact value_5 a b ha hb w
  · exact value_6 a b ha hb w
  · exact value_7 a b ha hb w
  · by_cases h : a < b
    · rw [show opv 8 a b = 1 from if_pos h]
      exact value_8y a b ha hb h w
    · rw [show opv 8 a b = 0 from if_neg h]
      exact value_8 a b ha hb h w
  · by_cases h : a ≤ b
    · rw [show opv 9 a b = 1 from if_pos h]
      exact value_9y a b ha hb h w
    · rw [show opv 9 a b = 0 from if_neg h]
      exact value_9 a b ha hb h w
  · by_cases h : a = b
    · rw [show opv 10 a b = 1 from if_pos h]
      exact value_10y a b ha hb h w
    · rw [show opv 10 a b = 0 from if_neg h]
      exact value_10 a b ha hb h w
  · by_cases h : a = b
    · rw [show opv 11 a b = 0 from if_pos h]
      exact value_11y a b ha hb h w
    · rw [show opv 11 a b = 1 from if_neg h]
      exact value_11 a b ha hb h w
end Go.Proofs.YtimiofmmhccmmaaDoor
