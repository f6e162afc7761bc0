/-
  The walk of the statements' Mod. Condition: its divisor is from 1 on.
-/
import Derived.Test.YtimiofmmhccmmaaDoorRows
import Derived.WalkKit
import Derived.Lib.Hide
namespace Go.Proofs.YtimiofmmhccmmaaDoor
open Go.RowKit

theorem ret_i64 {a b : Int} (h : a = b) : Ending.returned (.int .i64 a) = .returned (.int .i64 b) := by rw [h]

theorem modb_pos (n k : Int) (w : World) (hn : 0 ≤ n) (h2 : n < 9223372036854775808) (hk : 1 ≤ k) (hk2 : k < 100000000000) (r : Int) (hr : Hid (n % k = r)) : Calls Tryd.prog 22 #[.int .i64 n, .int .i64 k] w fun e w' => e = .returned (.int .i64 r) ∧ w = w' := by
  have h0 : 0 ≤ n % k := Int.emod_nonneg _ (by omega)
  have h3 : n % k < k := Int.emod_lt_of_pos _ (by omega)
  go_enter Tryd.func22, Tryd.ntmps22
  go_wp2
  go_ret
  exact ⟨ret_i64 hr.out, rfl⟩
theorem tmodb_neg (n k : Int) (hn : n < 0) (hk : 1 ≤ k) : -k < n.tmod k ∧ n.tmod k ≤ 0 ∧ (n.tmod k = 0 → n % k = 0) ∧ (n.tmod k < 0 → n % k = n.tmod k + k) := by
  have h1 : n.tmod k = -((-n) % k) := by
    rw [show n = -(-n) from by omega, Int.neg_tmod, Int.neg_neg, Int.tmod_eq_emod_of_nonneg (by omega)]
  have h2 : 0 ≤ (-n) % k := Int.emod_nonneg _ (by omega)
  have h3 : (-n) % k < k := Int.emod_lt_of_pos _ (by omega)
  have h4 := Int.mul_ediv_add_emod (-n) k
  have h5 := Int.mul_ediv_add_emod n k
  have h6 : 0 ≤ n % k := Int.emod_nonneg _ (by omega)
  have h7 : n % k < k := Int.emod_lt_of_pos _ (by omega)
  refine ⟨by omega, by omega, fun h => ?_, fun h => ?_⟩
  · have hz : (-n) % k = 0 := by omega
    rw [Int.neg_emod_eq_sub_emod] at hz
    have : (k ∣ n) := by
      have := Int.dvd_of_emod_eq_zero (show (-n) % k = 0 by omega)
      exact (Int.dvd_neg).1 this
    exact Int.emod_eq_zero_of_dvd this
  · rw [h1]
    have hd : k * (n / k + (-n) / k + 1) = k - n % k - (-n) % k := by
      rw [Int.mul_add, Int.mul_add]; omega
    have hb : -k < k - n % k - (-n) % k ∧ k - n % k - (-n) % k < k := by omega
    have hz : n / k + (-n) / k + 1 = 0 := by
      rw [← hd] at hb
      have a1 : -1 < n / k + (-n) / k + 1 := by
        apply Int.lt_of_mul_lt_mul_left (a := k) (by rw [Int.mul_neg, Int.mul_one]; exact hb.1) (by omega)
      have a2 : n / k + (-n) / k + 1 < 1 := by
        apply Int.lt_of_mul_lt_mul_left (a := k) (by rw [Int.mul_one]; exact hb.2) (by omega)
      omega
    rw [hz] at hd
    omega
theorem modb_neg (n k : Int) (w : World) (hn : n < 0) (hk : 1 ≤ k) (hk2 : k < 100000000000) (r : Int) (hr : Hid (n % k = r)) : Calls Tryd.prog 22 #[.int .i64 n, .int .i64 k] w fun e w' => e = .returned (.int .i64 r) ∧ w = w' := by
  obtain ⟨a1, a2, a3, a4⟩ := tmodb_neg n k hn hk
  have HA := Lib.hid a3
  have HB := Lib.hid a4
  clear a3 a4
  by_cases hz : n.tmod k = 0
  · go_enter Tryd.func22, Tryd.ntmps22
    go_wp2
    go_ret
    exact ⟨ret_i64 (by rw [← hr.out, HA.out hz]; try exact hz), rfl⟩
  · have hl : n.tmod k < 0 := by omega
    clear hz
    go_enter Tryd.func22, Tryd.ntmps22
    go_wp2
    go_ret
    exact ⟨ret_i64 (by rw [← hr.out, HB.out hl]), rfl⟩
theorem modb_any (n k : Int) (w : World) (h2 : n < 9223372036854775808) (hk : 1 ≤ k) (hk2 : k < 100000000000) (r : Int) (hr : Hid (n % k = r)) : Calls Tryd.prog 22 #[.int .i64 n, .int .i64 k] w fun e w' => e = .returned (.int .i64 r) ∧ w = w' := by
  by_cases hn : n < 0
  · exact modb_neg n k w hn hk hk2 r hr
  · exact modb_pos n k w (by omega) h2 hk hk2 r hr
end Go.Proofs.YtimiofmmhccmmaaDoor
