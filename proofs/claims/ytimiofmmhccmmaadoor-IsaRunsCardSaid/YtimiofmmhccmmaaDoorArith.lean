/-
  Plain words on int's arithmetic: the remainder that is made out of the quotient is the remainder; the ranges of the twelve operations. No condition.
-/
import Derived.Test.YtimiofmmhccmmaaDoorCpu
namespace Go.Proofs.YtimiofmmhccmmaaDoor
open Go.RowKit

theorem wrap64_eq (x : Int) : wrap64 x = (x + 9223372036854775808) % 18446744073709551616 - 9223372036854775808 := by
  unfold wrap64
  omega
theorem wrap64_kind (x : Int) : IntKind.i64.wrap x = wrap64 x := by
  rw [IntKind.wrap_i64, wrap64_eq]
theorem wrap64_fits (x : Int) : I64 (wrap64 x) := by
  rw [wrap64_eq]
  unfold I64
  omega
theorem wrap64_same {x y : Int} (k : Int) (h : x = y + 18446744073709551616 * k) : wrap64 x = wrap64 y := by
  rw [wrap64_eq, wrap64_eq]
  omega
theorem wrap64_ex (x : Int) : ∃ k, wrap64 x = x + 18446744073709551616 * k := by
  refine ⟨-((x + 9223372036854775808) / 18446744073709551616), ?_⟩
  rw [wrap64_eq]
  omega
theorem wrap64_id {x : Int} (h : I64 x) : wrap64 x = x := by
  unfold I64 at h
  rw [wrap64_eq]
  omega
theorem tmod_fits {a b : Int} (ha : I64 a) (hb : I64 b) : I64 (a.tmod b) := by
  by_cases h0 : b = 0
  · subst h0
    simpa using ha
  · unfold I64 at *
    have h1 := Int.natAbs_tmod a b
    have h2 := Nat.mod_lt a.natAbs (show 0 < b.natAbs by omega)
    omega
theorem rem_of {a b : Int} (ha : I64 a) (hb : I64 b) : wrap64 (a - wrap64 (wrap64 (a.tdiv b) * b)) = a.tmod b := by
  obtain ⟨k, hk⟩ := wrap64_ex (a.tdiv b)
  obtain ⟨j, hj⟩ := wrap64_ex (wrap64 (a.tdiv b) * b)
  have e := Int.mul_tdiv_add_tmod a b
  have h : a - wrap64 (wrap64 (a.tdiv b) * b) = a.tmod b + 18446744073709551616 * (-(k * b) - j) := by
    rw [hj, hk, Int.add_mul, Int.mul_assoc, Int.mul_comm (a.tdiv b) b]
    generalize b * a.tdiv b = q at *
    generalize k * b = m at *
    omega
  rw [wrap64_same _ h, wrap64_id (tmod_fits ha hb)]
theorem bits_fits (o : BinOp) (x y : Int) : I64 (bits o .i64 x y) := by
  show I64 (IntKind.i64.wrap _)
  rw [IntKind.wrap_i64]
  unfold I64
  omega
theorem fits_ite {p : Prop} [Decidable p] {x y : Int} (hx : I64 x) (hy : I64 y) : I64 (if p then x else y) := by
  by_cases h : p
  · rw [if_pos h]; exact hx
  · rw [if_neg h]; exact hy
theorem opv_fits {a b : Int} (k : Int) (ha : I64 a) (hb : I64 b) : I64 (opv k a b) := by
  have h0 : I64 0 := ⟨by decide, by decide⟩
  have h1 : I64 1 := ⟨by decide, by decide⟩
  unfold opv
  repeat' (first | exact bits_fits _ _ _ | refine fits_ite ?_ ?_)
  all_goals first | exact wrap64_fits _ | exact bits_fits _ _ _ | exact h0 | exact h1 | exact ha | exact tmod_fits ha hb
end Go.Proofs.YtimiofmmhccmmaaDoor
