/-
  The table of parentheses around operands, whole. No condition. The walks of the statements' operand and operator, and of ParserParens. Conditions: the packages' variables.
-/
import Derived.Test.YtpfefjfpnmchcaaDoorZTa
import Derived.Test.YtpfefjfpnmchcaaDoorZTb
import Derived.Test.YtpfefjfpnmchcaaDoorZMd
import Derived.Test.YtpfefjfpnmchcaaDoorZSa
namespace Go.Proofs.YtpfefjfpnmchcaaDoor
theorem parens_same {i j k : Nat} (hi : i < 8) (hj : j < 8) (hk : k < 12) : ∃ x r r', parseP 400 (valSrc (plainS i j k)) = .ok x r ∧ parseP 400 (valSrc (parenS i j k)) = .ok x r' := by
  have h1 : parensB i = true := by
    rcases (by omega : i = 0 ∨ i = 1 ∨ i = 2 ∨ i = 3 ∨ i = 4 ∨ i = 5 ∨ i = 6 ∨ i = 7) with rfl | rfl | rfl | rfl | rfl | rfl | rfl | rfl
    · exact parens_0
    · exact parens_1
    · exact parens_2
    · exact parens_3
    · exact parens_4
    · exact parens_5
    · exact parens_6
    · exact parens_7
  unfold parensB at h1
  rw [List.all_eq_true] at h1
  have h2 := h1 j (List.mem_range.2 hj)
  rw [List.all_eq_true] at h2
  exact sameB_ok (h2 k (List.mem_range.2 hk))
end Go.Proofs.YtpfefjfpnmchcaaDoor
namespace Go.Proofs.YtpfefjfpnmchcaaDoor
open Go.RowKit

set_option maxHeartbeats 4000000 in
set_option maxRecDepth 100000 in
theorem operandL (n : Int) (k : Nat) (w : World) (h1 : n < 9223372036854775808) (hk : k < 8) (hn : Hid (n % 8 = (k : Int))) :
    Calls Tryd.prog 8 #[.int .i64 n] w fun e w' => e = .returned (.string ⟨(opd k).toArray⟩) ∧ Below w.heap.size w w' := by
  have HM := fun W => mod_any n 8 W h1 (by decide) (by decide) k hn
  go_enter Tryd.func8, Tryd.ntmps8
  go_wp2_with fail
  refine (HM _).mono ?_
  clear HM hn
  rcases (by omega : k = 0 ∨ k = 1 ∨ k = 2 ∨ k = 3 ∨ k = 4 ∨ k = 5 ∨ k = 6 ∨ k = 7) with rfl | rfl | rfl | rfl | rfl | rfl | rfl | rfl
  all_goals
    rintro e w' ⟨rfl, hw⟩
    subst hw
    go_wp2_with fail
    go_ret
    exact ⟨rfl, (Below.refl _ _).alloc (Nat.le_refl _) _⟩
set_option maxHeartbeats 8000000 in
set_option maxRecDepth 100000 in
theorem operatorL (n : Int) (k : Nat) (w : World) (h1 : n < 9223372036854775808) (hk : k < 12) (hn : Hid (n % 12 = (k : Int))) :
    Calls Tryd.prog 7 #[.int .i64 n] w fun e w' => e = .returned (.tuple #[.string ⟨(sgn k).toArray⟩, .int .i64 (lvl k)]) ∧ Below w.heap.size w w' := by
  have HM := fun W => mod_any n 12 W h1 (by decide) (by decide) k hn
  go_enter Tryd.func7, Tryd.ntmps7
  go_wp2_with fail
  refine (HM _).mono ?_
  clear HM hn
  rcases (by omega : k = 0 ∨ k = 1 ∨ k = 2 ∨ k = 3 ∨ k = 4 ∨ k = 5 ∨ k = 6 ∨ k = 7 ∨ k = 8 ∨ k = 9 ∨ k = 10 ∨ k = 11) with rfl | rfl | rfl | rfl | rfl | rfl | rfl | rfl | rfl | rfl | rfl | rfl
  all_goals
    rintro e w' ⟨rfl, hw⟩
    subst hw
    go_wp2_with fail
    go_region
    all_goals
      go_wp2_with fail
      go_ret2
      exact ⟨rfl, (((Below.refl _ _).alloc (Nat.le_refl _) _).alloc (by simp) _).drew⟩
end Go.Proofs.YtpfefjfpnmchcaaDoor
