/-
  The walks of the letters and digits of code and specification, and of a text's beginning. No condition.
-/
import Derived.Test.YtbkmpamcelphgaaDoorRows
import Derived.Test.YtbkmpamcelphgaaDoorLex
import Derived.WalkKit
import Derived.Lib.Hide
import Derived.Lib.Split
namespace Go.Proofs.YtbkmpamcelphgaaDoor
open Go.RowKit

theorem ret_bool {a b : Bool} (h : a = b) : Ending.returned (.bool a) = .returned (.bool b) := by rw [h]
theorem isDigit_any (n : Nat) (hn : n < 2147483648) (w : World) (r : Bool) (hr : Hid (isD n = r)) : Calls Tryd.prog 33 #[.int .i32 n] w fun e w' => e = .returned (.bool r) ∧ w = w' := by
  by_cases h1 : 48 ≤ n
  · go_enter Tryd.func33, Tryd.ntmps33
    go_wp2_with fail
    go_ret
    exact ⟨ret_bool (by rw [← hr.out]; unfold isD; rw [Bool.eq_iff_iff]; simp; try omega), rfl⟩
  · have h3 : n < 48 := by omega
    clear h1
    go_enter Tryd.func33, Tryd.ntmps33
    go_wp2_with fail
    go_ret
    exact ⟨ret_bool (by rw [← hr.out]; unfold isD; rw [Bool.eq_iff_iff]; simp; try omega), rfl⟩
theorem digit_any (n : Nat) (hn : n < 2147483648) (w : World) (r : Bool) (hr : Hid (isD n = r)) : Calls Tryd.prog 38 #[.int .u8 n] w fun e w' => e = .returned (.bool r) ∧ w = w' := by
  by_cases h1 : 48 ≤ n
  · go_enter Tryd.func38, Tryd.ntmps38
    go_wp2_with fail
    go_ret
    exact ⟨ret_bool (by rw [← hr.out]; unfold isD; rw [Bool.eq_iff_iff]; simp; try omega), rfl⟩
  · have h3 : n < 48 := by omega
    clear h1
    go_enter Tryd.func38, Tryd.ntmps38
    go_wp2_with fail
    go_ret
    exact ⟨ret_bool (by rw [← hr.out]; unfold isD; rw [Bool.eq_iff_iff]; simp; try omega), rfl⟩
theorem isLetter_any (n : Nat) (hn : n < 2147483648) (w : World) (r : Bool) (hr : Hid (isL n = r)) : Calls Tryd.prog 35 #[.int .i32 n] w fun e w' => e = .returned (.bool r) ∧ w = w' := by
  by_cases h1 : 97 ≤ n
  · by_cases h2 : n ≤ 122
    · go_enter Tryd.func35, Tryd.ntmps35
      go_wp2_with fail
      go_ret
      exact ⟨ret_bool (by rw [← hr.out]; unfold isL; rw [Bool.eq_iff_iff]; simp; try omega), rfl⟩
    · have h3 : 122 < n := by omega
      clear h2
      go_enter Tryd.func35, Tryd.ntmps35
      go_wp2_with fail
      go_ret
      exact ⟨ret_bool (by rw [← hr.out]; unfold isL; rw [Bool.eq_iff_iff]; simp; try omega), rfl⟩
  · have h4 : n < 97 := by omega
    clear h1
    by_cases h5 : 65 ≤ n
    · by_cases h6 : n ≤ 90
      · go_enter Tryd.func35, Tryd.ntmps35
        go_wp2_with fail
        go_ret
        exact ⟨ret_bool (by rw [← hr.out]; unfold isL; rw [Bool.eq_iff_iff]; simp; try omega), rfl⟩
      · have h7 : 90 < n := by omega
        clear h6
        go_enter Tryd.func35, Tryd.ntmps35
        go_wp2_with fail
        go_ret
        exact ⟨ret_bool (by rw [← hr.out]; unfold isL; rw [Bool.eq_iff_iff]; simp; try omega), rfl⟩
    · have h8 : n < 65 := by omega
      clear h5
      go_enter Tryd.func35, Tryd.ntmps35
      go_wp2_with fail
      go_ret
      exact ⟨ret_bool (by rw [← hr.out]; unfold isL; rw [Bool.eq_iff_iff]; simp; try omega), rfl⟩
theorem letter_any (n : Nat) (hn : n < 2147483648) (w : World) (r : Bool) (hr : Hid (isL n = r)) : Calls Tryd.prog 37 #[.int .u8 n] w fun e w' => e = .returned (.bool r) ∧ w = w' := by
  by_cases h1 : 97 ≤ n
  · by_cases h2 : n ≤ 122
    · go_enter Tryd.func37, Tryd.ntmps37
      go_wp2_with fail
      go_ret
      exact ⟨ret_bool (by rw [← hr.out]; unfold isL; rw [Bool.eq_iff_iff]; simp; try omega), rfl⟩
    · have h3 : 122 < n := by omega
      clear h2
      go_enter Tryd.func37, Tryd.ntmps37
      go_wp2_with fail
      go_ret
      exact ⟨ret_bool (by rw [← hr.out]; unfold isL; rw [Bool.eq_iff_iff]; simp; try omega), rfl⟩
  · have h4 : n < 97 := by omega
    clear h1
    by_cases h5 : 65 ≤ n
    · by_cases h6 : n ≤ 90
      · go_enter Tryd.func37, Tryd.ntmps37
        go_wp2_with fail
        go_ret
        exact ⟨ret_bool (by rw [← hr.out]; unfold isL; rw [Bool.eq_iff_iff]; simp; try omega), rfl⟩
      · have h7 : 90 < n := by omega
        clear h6
        go_enter Tryd.func37, Tryd.ntmps37
        go_wp2_with fail
        go_ret
        exact ⟨ret_bool (by rw [← hr.out]; unfold isL; rw [Bool.eq_iff_iff]; simp; try omega), rfl⟩
    · have h8 : n < 65 := by omega
      clear h5
      go_enter Tryd.func37, Tryd.ntmps37
      go_wp2_with fail
      go_ret
      exact ⟨ret_bool (by rw [← hr.out]; unfold isL; rw [Bool.eq_iff_iff]; simp; try omega), rfl⟩

theorem isLD_any (n : Nat) (hn : n < 2147483648) (w : World) (r : Bool) (hr : Hid (isLD n = r)) : Calls Tryd.prog 54 #[.int .i32 n] w fun e w' => e = .returned (.bool r) ∧ w = w' := by
  by_cases hl : isL n = true
  · have H1 := Lib.hid hl
    have h0 : r = true := by rw [← hr.out]; unfold isLD; simp [hl]
    subst h0
    clear hl
    go_enter Tryd.func54, Tryd.ntmps54
    go_wp2_with (go_at_call 35; refine (isLetter_any n hn _ _ H1).mono ?_; rintro e w1 ⟨rfl, rfl⟩)
    go_ret
    exact ⟨rfl, rfl⟩
  · have hl : isL n = false := by simpa using hl
    have H1 := Lib.hid hl
    have hd : isD n = r := by rw [← hr.out]; unfold isLD; simp [hl]
    have H2 := Lib.hid hd
    clear hl hd
    go_enter Tryd.func54, Tryd.ntmps54
    go_wp2_with (first | (go_at_call 35; refine (isLetter_any n hn _ _ H1).mono ?_; rintro e w1 ⟨rfl, rfl⟩) | (go_at_call 33; refine (isDigit_any n hn _ _ H2).mono ?_; rintro e w1 ⟨rfl, rfl⟩))
    go_ret
    exact ⟨rfl, rfl⟩

/-- Does one text begin with another? -/
def pre (s p : List UInt8) : Bool := decide (s.take p.length = p)
theorem take_eq (s p : ByteArray) : ((s.extract 0 p.size).toList == p.toList) = pre s.data.toList p.data.toList := by
  unfold pre
  rw [Lib.toList_data, Lib.toList_data, Lib.extract_from_zero, Bool.eq_iff_iff]
  simp
theorem hasPrefix_any (s p : ByteArray) (w : World) (r : Bool) (hr : Hid (pre s.data.toList p.data.toList = r)) :
    Calls Tryd.prog 32 #[.string s, .string p] w fun e w' => e = .returned (.bool r) ∧ w = w' := by
  by_cases h : p.size ≤ s.size
  · have ht := take_eq s p
    rw [hr.out] at ht
    have HT := Lib.hid ht
    clear ht
    go_enter Tryd.func32, Tryd.ntmps32
    go_wp2
    go_ret
    exact ⟨ret_bool (by first | exact HT.out | simpa using HT.out), rfl⟩
  · have h' : s.size < p.size := by omega
    clear h
    have hf : r = false := by
      rw [← hr.out]; unfold pre; rw [decide_eq_false_iff_not]; intro e
      have := congrArg List.length e
      simp at this; omega
    subst hf
    go_enter Tryd.func32, Tryd.ntmps32
    go_wp2
    go_ret
    exact ⟨rfl, rfl⟩
end Go.Proofs.YtbkmpamcelphgaaDoor
