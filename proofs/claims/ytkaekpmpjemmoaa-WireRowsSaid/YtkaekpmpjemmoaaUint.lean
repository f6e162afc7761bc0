/-
  The walks of Uint and Int, the code's and the specification's, at any place.
-/
import Derived.Test.YtkaekpmpjemmoaaNum
import Derived.Test.YtkaekpmpjemmoaaNumr
namespace Go.Proofs.Ytkaekpmpjemmoaa
open Go.RowKit

section
variable (A : Option Addr) (c : Nat) (l : List Int) (a : Int) (w : World)

theorem number_code_all (W : Nat) (last : Int) (hb : Byt w w.heap.size A c l) (ha1 : -9223372036854775808 ≤ a) (ha2 : a < 9223372036854775808) (hlast0 : 0 ≤ last) (hlast : last ≤ 127) (hW0 : 1 ≤ W) (hW : W ≤ 9 ∨ (W = 10 ∧ last ≤ 1))
    (N k : Nat) (E : Int) (hN : Hid (readNum W last l a = (N, k, E))) :
    Calls Try.prog 29 #[.slice A l.length c, .int .i64 a, .int .i64 W, .int .u8 last] w fun e w' =>
      e = .returned (.tuple #[.int .u64 N, .int .i64 k, .int .i64 E]) ∧ Below w.heap.size w w' := by
  by_cases h : a < 0 ∨ (l.length : Int) < a
  · have hn := hN.out
    unfold readNum at hn
    rw [if_pos h] at hn
    obtain ⟨rfl, rfl, rfl⟩ := triple hn.symm
    have hmax : l.length ≤ 9223372036854775807 := by have := hb.len; have := hb.cap; unfold maxLen at this; omega
    rcases Int.lt_or_le a 0 with h1 | h1
    · go_enter Try.func29, Try.ntmps29
      go_wp2
      go_ret3
      exact ⟨rfl, Below.refl _ _⟩
    · have h2 : (l.length : Int) < a := by omega
      go_enter Try.func29, Try.ntmps29
      go_wp2
      go_ret3
      exact ⟨rfl, Below.refl _ _⟩
  · have hn := hN.out
    unfold readNum at hn
    rw [if_neg h] at hn
    obtain ⟨n, rfl⟩ := Int.eq_ofNat_of_zero_le (show 0 ≤ a by omega)
    exact number_code A c l n W last w hb (by omega) hlast0 hlast hW0 hW N k E hn

theorem number_ref_all (W : Nat) (last : Int) (B : Nat) (hb : Byt w B A c l) (ha1 : -9223372036854775808 ≤ a) (ha2 : a < 9223372036854775808) (hlast0 : 0 ≤ last) (hlast : last ≤ 127) (hW0 : 1 ≤ W) (hW : W ≤ 9 ∨ (W = 10 ∧ last ≤ 1))
    (N k : Nat) (E : Int) (hN : Hid (readNum W last l a = (N, k, E))) :
    Calls Try.prog 30 #[.slice A l.length c, .int .i64 a, .int .i64 W, .int .u8 last] w fun e w' =>
      e = .returned (.tuple #[.int .u64 N, .int .i64 k, .int .i64 E]) ∧ w = w' := by
  by_cases h : a < 0 ∨ (l.length : Int) < a
  · have hn := hN.out
    unfold readNum at hn
    rw [if_pos h] at hn
    obtain ⟨rfl, rfl, rfl⟩ := triple hn.symm
    have hmax : l.length ≤ 9223372036854775807 := by have := hb.len; have := hb.cap; unfold maxLen at this; omega
    rcases Int.lt_or_le a 0 with h1 | h1
    · go_enter Try.func30, Try.ntmps30
      go_wp2
      go_ret3
      exact ⟨rfl, rfl⟩
    · have h2 : (l.length : Int) < a := by omega
      go_enter Try.func30, Try.ntmps30
      go_wp2
      go_ret3
      exact ⟨rfl, rfl⟩
  · have hn := hN.out
    unfold readNum at hn
    rw [if_neg h] at hn
    obtain ⟨n, rfl⟩ := Int.eq_ofNat_of_zero_le (show 0 ≤ a by omega)
    exact number_ref A c l n W last w B hb (by omega) hlast0 hlast hW0 hW N k E hn

theorem uint_code (hb : Byt w w.heap.size A c l) (ha1 : -9223372036854775808 ≤ a) (ha2 : a < 9223372036854775808) (N k : Nat) (E : Int) (hN : Hid (readNum 9 127 l a = (N, k, E))) :
    Calls Try.prog 20 #[.slice A l.length c, .int .i64 a] w fun e w' => e = .returned (.tuple #[.int .i64 N, .int .i64 k, .int .i64 E]) ∧ Below w.heap.size w w' := by
  have hf := (readNum_facts 9 127 l a hb.range (by omega) (by omega) (by omega) hN.out).2.1 (by omega)
  go_enter Try.func20, Try.ntmps20
  go_wp2_with (go_at_call 29; refine (number_code_all A c l a w 9 127 hb ha1 ha2 (by omega) (by omega) (by omega) (by omega) N k E hN).mono ?_; rintro e w1 ⟨rfl, hb1⟩)
  go_ret3
  exact ⟨rfl, hb1⟩

theorem uint_ref (B : Nat) (hb : Byt w B A c l) (ha1 : -9223372036854775808 ≤ a) (ha2 : a < 9223372036854775808) (N k : Nat) (E : Int) (hN : Hid (readNum 9 127 l a = (N, k, E))) :
    Calls Try.prog 26 #[.slice A l.length c, .int .i64 a] w fun e w' => e = .returned (.tuple #[.int .i64 N, .int .i64 k, .int .i64 E]) ∧ w = w' := by
  have hf := (readNum_facts 9 127 l a hb.range (by omega) (by omega) (by omega) hN.out).2.1 (by omega)
  go_enter Try.func26, Try.ntmps26
  go_wp2_with (go_at_call 30; refine (number_ref_all A c l a w 9 127 B hb ha1 ha2 (by omega) (by omega) (by omega) (by omega) N k E hN).mono ?_; rintro e w1 ⟨rfl, rfl⟩)
  go_ret3
  exact ⟨rfl, rfl⟩

theorem int_code (hb : Byt w w.heap.size A c l) (ha1 : -9223372036854775808 ≤ a) (ha2 : a < 9223372036854775808) (N k : Nat) (E : Int) (hN : Hid (readNum 10 1 l a = (N, k, E))) (z : Int) (hz : Hid (zag N = z)) :
    Calls Try.prog 21 #[.slice A l.length c, .int .i64 a] w fun e w' => e = .returned (.tuple #[.int .i64 z, .int .i64 k, .int .i64 E]) ∧ Below w.heap.size w w' := by
  have hf := (readNum_facts 10 1 l a hb.range (by omega) (by omega) (by omega) hN.out).1
  by_cases ho : N % 2 = 1
  · have ht : (bits .and .u64 (N : Int) 1 == 1) = true := by rw [and1 N hf, ho]; rfl
    go_enter Try.func21, Try.ntmps21
    go_wp2_with (go_at_call 29; refine (number_code_all A c l a w 10 1 hb ha1 ha2 (by omega) (by omega) (by omega) (by omega) N k E hN).mono ?_; rintro e w1 ⟨rfl, hb1⟩)
    go_ret3
    exact ⟨ret_i64 ((zag_odd hf ho).trans hz.out) rfl rfl, hb1⟩
  · have ht : (bits .and .u64 (N : Int) 1 == 1) = false := by rw [and1 N hf, show N % 2 = 0 from by omega]; rfl
    go_enter Try.func21, Try.ntmps21
    go_wp2_with (go_at_call 29; refine (number_code_all A c l a w 10 1 hb ha1 ha2 (by omega) (by omega) (by omega) (by omega) N k E hN).mono ?_; rintro e w1 ⟨rfl, hb1⟩)
    go_ret3
    exact ⟨ret_i64 ((zag_even ho).trans hz.out) rfl rfl, hb1⟩

theorem int_ref (B : Nat) (hb : Byt w B A c l) (ha1 : -9223372036854775808 ≤ a) (ha2 : a < 9223372036854775808) (N k : Nat) (E : Int) (hN : Hid (readNum 10 1 l a = (N, k, E))) (z : Int) (hz : Hid (zag N = z)) :
    Calls Try.prog 27 #[.slice A l.length c, .int .i64 a] w fun e w' => e = .returned (.tuple #[.int .i64 z, .int .i64 k, .int .i64 E]) ∧ w = w' := by
  have hf := (readNum_facts 10 1 l a hb.range (by omega) (by omega) (by omega) hN.out).1
  by_cases ho : N % 2 = 1
  · have ht : ((N : Int) % 2 == 1) = true := by rw [beq_iff_eq]; omega
    go_enter Try.func27, Try.ntmps27
    go_wp2_with (go_at_call 30; refine (number_ref_all A c l a w 10 1 B hb ha1 ha2 (by omega) (by omega) (by omega) (by omega) N k E hN).mono ?_; rintro e w1 ⟨rfl, rfl⟩)
    go_ret3
    exact ⟨ret_i64 ((zag_odd' hf ho).trans hz.out) rfl rfl, rfl⟩
  · have ht : ((N : Int) % 2 == 1) = false := by rw [beq_eq_false_iff_ne]; omega
    go_enter Try.func27, Try.ntmps27
    go_wp2_with (go_at_call 30; refine (number_ref_all A c l a w 10 1 B hb ha1 ha2 (by omega) (by omega) (by omega) (by omega) N k E hN).mono ?_; rintro e w1 ⟨rfl, rfl⟩)
    go_ret3
    exact ⟨ret_i64 ((zag_even ho).trans hz.out) rfl rfl, rfl⟩
end
end Go.Proofs.Ytkaekpmpjemmoaa
