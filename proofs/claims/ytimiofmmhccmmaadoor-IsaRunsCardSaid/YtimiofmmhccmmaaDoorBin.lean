/-
  What the specification's Binary returns: the twelve operations. Condition: numbers of 64 bits.
-/
import Derived.Test.YtimiofmmhccmmaaDoorRows
import Derived.Test.YtimiofmmhccmmaaDoorArith
import Derived.Lib.Hide
namespace Go.Proofs.YtimiofmmhccmmaaDoor
open Go.RowKit

theorem refBinary_0 (a b : Int) (ha : I64 a) (hb : I64 b) (w : World) : Calls Tryd.prog 27 #[.int .i64 0, .int .i64 a, .int .i64 b] w fun e w' => e = .returned (.int .i64 (wrap64 (a + b))) ∧ w' = w := by
  obtain ⟨a0, a1⟩ := ha
  obtain ⟨b0, b1⟩ := hb
  go_enter Tryd.func27, Tryd.ntmps27
  go_wp2
  go_ret
  exact ⟨rfl, rfl⟩
theorem refBinary_1 (a b : Int) (ha : I64 a) (hb : I64 b) (w : World) : Calls Tryd.prog 27 #[.int .i64 1, .int .i64 a, .int .i64 b] w fun e w' => e = .returned (.int .i64 (wrap64 (a - b))) ∧ w' = w := by
  obtain ⟨a0, a1⟩ := ha
  obtain ⟨b0, b1⟩ := hb
  go_enter Tryd.func27, Tryd.ntmps27
  go_wp2
  go_ret
  exact ⟨rfl, rfl⟩
theorem refBinary_2 (a b : Int) (ha : I64 a) (hb : I64 b) (w : World) : Calls Tryd.prog 27 #[.int .i64 2, .int .i64 a, .int .i64 b] w fun e w' => e = .returned (.int .i64 (wrap64 (a * b))) ∧ w' = w := by
  obtain ⟨a0, a1⟩ := ha
  obtain ⟨b0, b1⟩ := hb
  go_enter Tryd.func27, Tryd.ntmps27
  go_wp2
  go_ret
  exact ⟨rfl, rfl⟩
theorem refBinary_3z (a b : Int) (ha : I64 a) (hb : I64 b) (h : b = 0) (w : World) : Calls Tryd.prog 27 #[.int .i64 3, .int .i64 a, .int .i64 b] w fun e w' => e = .returned (.int .i64 (0)) ∧ w' = w := by
  obtain ⟨a0, a1⟩ := ha
  obtain ⟨b0, b1⟩ := hb
  subst h
  go_enter Tryd.func27, Tryd.ntmps27
  go_wp2
  go_ret
  exact ⟨rfl, rfl⟩
theorem refBinary_3 (a b : Int) (ha : I64 a) (hb : I64 b) (h : b ≠ 0) (w : World) : Calls Tryd.prog 27 #[.int .i64 3, .int .i64 a, .int .i64 b] w fun e w' => e = .returned (.int .i64 (wrap64 (a.tdiv b))) ∧ w' = w := by
  obtain ⟨a0, a1⟩ := ha
  obtain ⟨b0, b1⟩ := hb
  have hq : (b == 0) = false := by simpa using h
  go_enter Tryd.func27, Tryd.ntmps27
  go_wp2
  go_ret
  exact ⟨rfl, rfl⟩
theorem refBinary_4z (a b : Int) (ha : I64 a) (hb : I64 b) (h : b = 0) (w : World) : Calls Tryd.prog 27 #[.int .i64 4, .int .i64 a, .int .i64 b] w fun e w' => e = .returned (.int .i64 (a)) ∧ w' = w := by
  obtain ⟨a0, a1⟩ := ha
  obtain ⟨b0, b1⟩ := hb
  subst h
  go_enter Tryd.func27, Tryd.ntmps27
  go_wp2
  go_ret
  exact ⟨rfl, rfl⟩
theorem refBinary_4 (a b : Int) (ha : I64 a) (hb : I64 b) (h : b ≠ 0) (w : World) : Calls Tryd.prog 27 #[.int .i64 4, .int .i64 a, .int .i64 b] w fun e w' => e = .returned (.int .i64 (a.tmod b)) ∧ w' = w := by
  obtain ⟨a0, a1⟩ := ha
  obtain ⟨b0, b1⟩ := hb
  have hq : (b == 0) = false := by simpa using h
  go_enter Tryd.func27, Tryd.ntmps27
  go_wp2
  go_ret
  exact ⟨rfl, rfl⟩
theorem refBinary_5 (a b : Int) (ha : I64 a) (hb : I64 b) (w : World) : Calls Tryd.prog 27 #[.int .i64 5, .int .i64 a, .int .i64 b] w fun e w' => e = .returned (.int .i64 (bits .and .i64 a b)) ∧ w' = w := by
  obtain ⟨a0, a1⟩ := ha
  obtain ⟨b0, b1⟩ := hb
  go_enter Tryd.func27, Tryd.ntmps27
  go_wp2
  go_ret
  exact ⟨rfl, rfl⟩
theorem refBinary_6 (a b : Int) (ha : I64 a) (hb : I64 b) (w : World) : Calls Tryd.prog 27 #[.int .i64 6, .int .i64 a, .int .i64 b] w fun e w' => e = .returned (.int .i64 (bits .or .i64 a b)) ∧ w' = w := by
  obtain ⟨a0, a1⟩ := ha
  obtain ⟨b0, b1⟩ := hb
  go_enter Tryd.func27, Tryd.ntmps27
  go_wp2
  go_ret
  exact ⟨rfl, rfl⟩
theorem refBinary_7 (a b : Int) (ha : I64 a) (hb : I64 b) (w : World) : Calls Tryd.prog 27 #[.int .i64 7, .int .i64 a, .int .i64 b] w fun e w' => e = .returned (.int .i64 (bits .xor .i64 a b)) ∧ w' = w := by
  obtain ⟨a0, a1⟩ := ha
  obtain ⟨b0, b1⟩ := hb
  go_enter Tryd.func27, Tryd.ntmps27
  go_wp2
  go_ret
  exact ⟨rfl, rfl⟩
theorem refBinary_8y (a b : Int) (ha : I64 a) (hb : I64 b) (h : a < b) (w : World) : Calls Tryd.prog 27 #[.int .i64 8, .int .i64 a, .int .i64 b] w fun e w' => e = .returned (.int .i64 (1)) ∧ w' = w := by
  obtain ⟨a0, a1⟩ := ha
  obtain ⟨b0, b1⟩ := hb
  go_enter Tryd.func27, Tryd.ntmps27
  go_wp2
  go_ret
  exact ⟨rfl, rfl⟩
theorem refBinary_8 (a b : Int) (ha : I64 a) (hb : I64 b) (h : ¬ a < b) (w : World) : Calls Tryd.prog 27 #[.int .i64 8, .int .i64 a, .int .i64 b] w fun e w' => e = .returned (.int .i64 (0)) ∧ w' = w := by
  obtain ⟨a0, a1⟩ := ha
  obtain ⟨b0, b1⟩ := hb
  go_enter Tryd.func27, Tryd.ntmps27
  go_wp2
  go_ret
  exact ⟨rfl, rfl⟩
theorem refBinary_9y (a b : Int) (ha : I64 a) (hb : I64 b) (h : a ≤ b) (w : World) : Calls Tryd.prog 27 #[.int .i64 9, .int .i64 a, .int .i64 b] w fun e w' => e = .returned (.int .i64 (1)) ∧ w' = w := by
  obtain ⟨a0, a1⟩ := ha
  obtain ⟨b0, b1⟩ := hb
  go_enter Tryd.func27, Tryd.ntmps27
  go_wp2
  go_ret
  exact ⟨rfl, rfl⟩
theorem refBinary_9 (a b : Int) (ha : I64 a) (hb : I64 b) (h : ¬ a ≤ b) (w : World) : Calls Tryd.prog 27 #[.int .i64 9, .int .i64 a, .int .i64 b] w fun e w' => e = .returned (.int .i64 (0)) ∧ w' = w := by
  obtain ⟨a0, a1⟩ := ha
  obtain ⟨b0, b1⟩ := hb
  go_enter Tryd.func27, Tryd.ntmps27
  go_wp2
  go_ret
  exact ⟨rfl, rfl⟩
theorem refBinary_10y (a b : Int) (ha : I64 a) (hb : I64 b) (h : a = b) (w : World) : Calls Tryd.prog 27 #[.int .i64 10, .int .i64 a, .int .i64 b] w fun e w' => e = .returned (.int .i64 (1)) ∧ w' = w := by
  obtain ⟨a0, a1⟩ := ha
  obtain ⟨b0, b1⟩ := hb
  subst h
  go_enter Tryd.func27, Tryd.ntmps27
  go_wp2
  go_ret
  exact ⟨rfl, rfl⟩
theorem refBinary_10 (a b : Int) (ha : I64 a) (hb : I64 b) (h : a ≠ b) (w : World) : Calls Tryd.prog 27 #[.int .i64 10, .int .i64 a, .int .i64 b] w fun e w' => e = .returned (.int .i64 (0)) ∧ w' = w := by
  obtain ⟨a0, a1⟩ := ha
  obtain ⟨b0, b1⟩ := hb
  have hq : (a == b) = false := by simpa using h
  go_enter Tryd.func27, Tryd.ntmps27
  go_wp2
  go_ret
  exact ⟨rfl, rfl⟩
theorem refBinary_11y (a b : Int) (ha : I64 a) (hb : I64 b) (h : a = b) (w : World) : Calls Tryd.prog 27 #[.int .i64 11, .int .i64 a, .int .i64 b] w fun e w' => e = .returned (.int .i64 (0)) ∧ w' = w := by
  obtain ⟨a0, a1⟩ := ha
  obtain ⟨b0, b1⟩ := hb
  subst h
  go_enter Tryd.func27, Tryd.ntmps27
  go_wp2
  go_ret
  exact ⟨rfl, rfl⟩
theorem refBinary_11 (a b : Int) (ha : I64 a) (hb : I64 b) (h : a ≠ b) (w : World) : Calls Tryd.prog 27 #[.int .i64 11, .int .i64 a, .int .i64 b] w fun e w' => e = .returned (.int .i64 (1)) ∧ w' = w := by
  obtain ⟨a0, a1⟩ := ha
  obtain ⟨b0, b1⟩ := hb
  have hq : (a == b) = false := by simpa using h
  have hq2 : (a != b) = true := by simpa using h
  go_enter Tryd.func27, Tryd.ntmps27
  go_wp2
  go_ret
  exact ⟨rfl, rfl⟩
/-- All twelve. -/
theorem refBinary_any (k a b : Int) (h0 : 0 ≤ k) (h1 : k ≤ 11) (ha : I64 a) (hb : I64 b) (w : World) : Calls Tryd.prog 27 #[.int .i64 k, .int .i64 a, .int .i64 b] w fun e w' => e = .returned (.int .i64 (opv k a b)) ∧ w' = w := by
  rcases (show k = 0 ∨ k = 1 ∨ k = 2 ∨ k = 3 ∨ k = 4 ∨ k = 5 ∨ k = 6 ∨ k = 7 ∨ k = 8 ∨ k = 9 ∨ k = 10 ∨ k = 11 by omega) with rfl | rfl | rfl | rfl | rfl | rfl | rfl | rfl | rfl | rfl | rfl | rfl
  · exact refBinary_0 a b ha hb w
  · exact refBinary_1 a b ha hb w
  · exact refBinary_2 a b ha hb w
  · by_cases h : b = 0
    · rw [show opv 3 a b = 0 from if_pos h]
      exact refBinary_3z a b ha hb h w
    · rw [show opv 3 a b = wrap64 (a.tdiv b) from if_neg h]
      exact refBinary_3 a b ha hb h w
  · by_cases h : b = 0
    · rw [show opv 4 a b = a from if_pos h]
      exact refBinary_4z a b ha hb h w
    · rw [show opv 4 a b = a.tmod b from if_neg h]
      exact refBinary_4 a b ha hb h w
  · exact refBinary_5 a b ha hb w
  · exact refBinary_6 a b ha hb w
  · exact refBinary_7 a b ha hb w
  · by_cases h : a < b
    · rw [show opv 8 a b = 1 from if_pos h]
      exact refBinary_8y a b ha hb h w
    · rw [show opv 8 a b = 0 from if_neg h]
      exact refBinary_8 a b ha hb h w
  · by_cases h : a ≤ b
    · rw [show opv 9 a b = 1 from if_pos h]
      exact refBinary_9y a b ha hb h w
    · rw [show opv 9 a b = 0 from if_neg h]
      exact refBinary_9 a b ha hb h w
  · by_cases h : a = b
    · rw [show opv 10 a b = 1 from if_pos h]
      exact refBinary_10y a b ha hb h w
    · rw [show opv 10 a b = 0 from if_neg h]
      exact refBinary_10 a b ha hb h w
  · by_cases h : a = b
    · rw [show opv 11 a b = 0 from if_pos h]
      exact refBinary_11y a b ha hb h w
    · rw [show opv 11 a b = 1 from if_neg h]
      exact refBinary_11 a b ha hb h w
end Go.Proofs.YtimiofmmhccmmaaDoor
