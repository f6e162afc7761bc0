/-
  Plain words: the loop that adds the numbers from k down to 1. No condition.
-/
import Derived.Test.YtimiofmmhccmmaaDoorRun
import Derived.KernelRfl
namespace Go.Proofs.YtimiofmmhccmmaaDoor
open Go.RowKit

def loopW : List Int := [word ⟨3, 0, 0, 0, 0⟩, word ⟨22, 1, 0, 0, 5⟩, word ⟨6, 0, 0, 1, 0⟩, word ⟨18, 1, 1, 0, -1⟩, word ⟨21, 0, 0, 0, 1⟩, word ⟨25, 1, 0, 0, 0⟩, word ⟨24, 0, 0, 0, 0⟩]
def loopM : List Int := mem0 loopW 60
/-- The registers: the sum, the number, the stack. -/
def loopR (s x sp : Int) : List Int := [s, x, 0, 0, 0, 0, 0, 0, 0, 0, 0, 0, 0, 0, sp, 0]
theorem step_0 (x : Int) : stepP loopM ⟨loopR 0 x 59, 0⟩ = some (loopM, ⟨⟨loopR 0 x 59, 1⟩, false, 0, 0, false, 0⟩) := by kernel_rfl
theorem step_1 (s x : Int) : stepP loopM ⟨loopR s x 59, 1⟩ = some (loopM, ⟨⟨loopR s x 59, if x = 0 then 5 else 2⟩, false, 0, 0, false, 0⟩) := by kernel_rfl
theorem step_2 (s x : Int) : stepP loopM ⟨loopR s x 59, 2⟩ = some (loopM, ⟨⟨loopR (wrap64 (s + x)) x 59, 3⟩, false, 0, 0, false, 0⟩) := by kernel_rfl
theorem step_3 (s x : Int) : stepP loopM ⟨loopR s x 59, 3⟩ = some (loopM, ⟨⟨loopR s (wrap64 (x + -1)) 59, 4⟩, false, 0, 0, false, 0⟩) := by kernel_rfl
theorem step_4 (s x : Int) : stepP loopM ⟨loopR s x 59, 4⟩ = some (loopM, ⟨⟨loopR s x 59, 1⟩, false, 0, 0, false, 0⟩) := by kernel_rfl
theorem step_5 (s x : Int) : stepP loopM ⟨loopR s x 59, 5⟩ = some (loopM, ⟨⟨loopR s x 59, 6⟩, false, 0, 0, true, x⟩) := by kernel_rfl
theorem step_6 (s x : Int) : stepP loopM ⟨loopR s x 59, 6⟩ = some (loopM, ⟨⟨loopR s x 60, -1⟩, false, 0, 0, false, 0⟩) := by kernel_rfl
theorem loop_round (n : Nat) (s x : Int) (hx : x ≠ 0) : runP (n + 4) loopM ⟨loopR s x 59, 1⟩ [] = runP n loopM ⟨loopR (wrap64 (s + x)) (wrap64 (x + -1)) 59, 1⟩ [] := by
  rw [runP_step (by show (1 : Int) ≠ -1; decide) (step_1 s x)]
  simp only [if_neg hx, Bool.false_eq_true, if_false]
  rw [runP_step (by show (2 : Int) ≠ -1; decide) (step_2 s x)]
  simp only [Bool.false_eq_true, if_false]
  rw [runP_step (by show (3 : Int) ≠ -1; decide) (step_3 _ x)]
  simp only [Bool.false_eq_true, if_false]
  rw [runP_step (by show (4 : Int) ≠ -1; decide) (step_4 _ _)]
  simp only [Bool.false_eq_true, if_false]
/-- The sum of the numbers up to j. -/
def tri : Nat → Nat
  | 0 => 0
  | j + 1 => tri j + (j + 1)
theorem tri_eq (j : Nat) : ((tri j : Nat) : Int) = (j : Int) * (j + 1) / 2 := by
  induction j with
  | zero => rfl
  | succ j ih =>
    rw [tri]
    have h : ((j + 1 : Nat) : Int) * (((j + 1 : Nat) : Int) + 1) = (j : Int) * (j + 1) + 2 * ((j : Int) + 1) := by
      push_cast
      rw [Int.add_mul, Int.mul_add, Int.mul_add, Int.mul_add]
      omega
    rw [h, Int.add_mul_ediv_left _ _ (by decide), ← ih]
    push_cast
    rfl
theorem tri_le (j : Nat) (h : j ≤ 1000) : tri j ≤ 1000 * j := by
  induction j with
  | zero => exact Nat.le_refl _
  | succ j ih =>
    have := ih (by omega)
    rw [tri]
    omega
theorem loop_all (m : Nat) : ∀ (j : Nat) (s : Int), 0 ≤ s → j ≤ 1000 → s + tri j ≤ 1000000000 → runP (4 * j + m) loopM ⟨loopR s j 59, 1⟩ [] = runP m loopM ⟨loopR (s + tri j) 0 59, 1⟩ []
  | 0, s, _, _, _ => by simp [tri]
  | j + 1, s, h, hj, h1 => by
    rw [tri] at h1
    rw [show 4 * (j + 1) + m = (4 * j + m) + 4 by omega, loop_round _ _ _ (by omega)]
    rw [wrap64_id (x := s + ((j + 1 : Nat) : Int)) (by unfold I64; omega), wrap64_id (x := ((j + 1 : Nat) : Int) + -1) (by unfold I64; omega)]
    rw [show (((j + 1 : Nat) : Int) + -1) = (j : Int) by omega, loop_all m j _ (by omega) (by omega) (by omega)]
    rw [show s + ((j + 1 : Nat) : Int) + ((tri j : Nat) : Int) = s + ((tri (j + 1) : Nat) : Int) by rw [tri]; omega]
theorem loop_begin (k n : Nat) : runP (n + 1) loopM (cpuB 60 0 [(k : Int)]) [] = runP n loopM ⟨loopR 0 k 59, 1⟩ [] := by
  show runP (n + 1) loopM ⟨loopR 0 k 59, 0⟩ [] = _
  rw [runP_step (by show (0 : Int) ≠ -1; decide) (step_0 _)]
  simp only [Bool.false_eq_true, if_false]
theorem runO_in {l m : List Int} {size entry steps : Int} (h : ¬ (size < l.length + 16 ∨ 16384 < size ∨ 4 < m.length ∨ steps < 0 ∨ 200000 < steps)) : runO l size entry m steps = runP steps.toNat (mem0 l size.toNat) (cpuB size.toNat entry m) [] := by
  unfold runO
  rw [if_neg h]
/-- The sum, in as many steps as its rounds ask for. -/
theorem loop_sum (k : Nat) (hk : k < 200) : runO loopW 60 0 [(k : Int)] (4 * (k : Int) + 4) = ⟨0, false, (k : Int) * (k + 1) / 2, [0]⟩ := by
  have ht := tri_le k (by omega)
  rw [runO_in (by show ¬ ((60 : Int) < 7 + 16 ∨ (16384 : Int) < 60 ∨ 4 < 1 ∨ _ ∨ _); omega)]
  rw [show (4 * (k : Int) + 4).toNat = ((4 * k + 3) + 1) by omega]
  show runP _ loopM (cpuB 60 0 [(k : Int)]) [] = _
  rw [loop_begin, loop_all 3 k 0 (by omega) (by omega) (by omega), Int.zero_add]
  rw [runP_step (by show (1 : Int) ≠ -1; decide) (step_1 _ 0)]
  simp only [Bool.false_eq_true, if_false, if_true]
  rw [runP_step (by show (5 : Int) ≠ -1; decide) (step_5 _ 0)]
  simp only [if_true, List.nil_append]
  rw [runP_step (by show (6 : Int) ≠ -1; decide) (step_6 _ 0)]
  simp only [Bool.false_eq_true, if_false]
  rw [runP_end rfl, ← tri_eq]
  rfl
/-- One step fewer. -/
theorem loop_fuel (k : Nat) (hk : k < 200) : runO loopW 60 0 [(k : Int)] (4 * (k : Int) + 3) = ⟨13, false, 0, [0]⟩ := by
  have ht := tri_le k (by omega)
  rw [runO_in (by show ¬ ((60 : Int) < 7 + 16 ∨ (16384 : Int) < 60 ∨ 4 < 1 ∨ _ ∨ _); omega)]
  rw [show (4 * (k : Int) + 3).toNat = ((4 * k + 2) + 1) by omega]
  show runP _ loopM (cpuB 60 0 [(k : Int)]) [] = _
  rw [loop_begin, loop_all 2 k 0 (by omega) (by omega) (by omega), Int.zero_add]
  rw [runP_step (by show (1 : Int) ≠ -1; decide) (step_1 _ 0)]
  simp only [Bool.false_eq_true, if_false, if_true]
  rw [runP_step (by show (5 : Int) ≠ -1; decide) (step_5 _ 0)]
  simp only [if_true, List.nil_append]
  rw [runP_zero (by show (6 : Int) ≠ -1; decide)]
end Go.Proofs.YtimiofmmhccmmaaDoor
