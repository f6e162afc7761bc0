/-
  The walk of the law WireLengths: whatever the number, it returns true and changes nothing that was there. No condition.
-/
import Derived.Test.YtkaekpmpjemmoaaKnown
import Derived.Test.YtkaekpmpjemmoaaBack
namespace Go.Proofs.Ytkaekpmpjemmoaa
set_option linter.unusedVariables false
open Go.RowKit

theorem enc_mono (b : Nat) : ∀ a, a ≤ b → (enc a).length ≤ (enc b).length := by
  induction b using Nat.strongRecOn with
  | ind b ih =>
    intro a hab
    by_cases ha : a < 128
    · rw [enc_small ha]; simp; exact enc_pos b
    · rw [enc_large ha, enc_large (n := b) (by omega)]
      have := ih (b / 128) (by omega) (a / 128) (by omega)
      simp; exact this
theorem enc_double (n : Nat) : (enc n).length ≤ (enc (2 * n)).length ∧ (enc (2 * n)).length ≤ (enc n).length + 1 := by
  refine ⟨enc_mono _ _ (by omega), ?_⟩
  by_cases h0 : n = 0
  · subst h0; simp [enc_small]
  have h := enc_mono (128 * n) (2 * n) (by omega)
  rw [enc_large (n := 128 * n) (by omega), show 128 * n / 128 = n from by omega] at h
  simpa using h

set_option maxHeartbeats 800000 in
set_option maxRecDepth 100000 in
theorem lengths_any (v : Int) (w : World) (h1 : -9223372036854775808 ≤ v) (h2 : v < 9223372036854775808) :
    Calls Try.prog 9 #[.int .i64 v] w fun e w' => e = .returned (.bool true) ∧ Below w.heap.size w w' := by
  obtain ⟨u, hu⟩ : ∃ u : Nat, Hid (v % 9223372036854775808 = (u : Int)) := ⟨(v % 9223372036854775808).toNat, show _ = _ by omega⟩
  have hub : u < 9223372036854775808 := by have := hu.out; omega
  have hand : bits .and .i64 v 9223372036854775807 = (u : Int) := by rw [and63 v]; exact hu.out
  obtain ⟨m, hm⟩ : ∃ m, Hid ((enc u).length = m) := ⟨_, rfl⟩
  have hm9 : m ≤ 9 := by rw [← hm.out]; exact enc_len63 hub
  have hzu : zig u = 2 * u := by unfold zig; rw [if_pos (by omega)]; omega
  obtain ⟨r1, hr1⟩ : ∃ r : List Int, Hid ([] ++ enc (zig u) = r) := ⟨_, Lib.hid rfl⟩
  obtain ⟨r2, hr2⟩ : ∃ r : List Int, Hid ([] ++ enc (zig (v.tmod 64)) = r) := ⟨_, Lib.hid rfl⟩
  obtain ⟨r3, hr3⟩ : ∃ r : List Int, Hid ([] ++ enc u = r) := ⟨_, Lib.hid rfl⟩
  have ht1 := Int.tmod_lt_of_pos v (b := 64) (by decide)
  have ht2 := Int.lt_tmod_of_pos v (b := 64) (by decide)
  have hr2l : Hid (r2.length = 1) := by
    show r2.length = 1
    rw [← hr2.out, List.nil_append, enc_small (by unfold zig; split <;> omega)]; rfl
  have hr3l : Hid (r3.length = m) := by show r3.length = m; rw [← hr3.out]; exact hm.out
  have hr1a : m ≤ r1.length ∧ r1.length ≤ m + 1 := by
    rw [← hr1.out, List.nil_append, hzu, ← hm.out]; exact enc_double u
  have d1 : ((r2.length : Int) == 1) = true := by rw [hr2l.out]; rfl
  have d2 : ((r3.length : Int) == (m : Int)) = true := by rw [hr3l.out]; simp
  have D1 := Lib.hid d1
  have D2 := Lib.hid d2
  clear d1 d2 hzu
  go_enter Try.func9, Try.ntmps9
  go_wp2_with fail
  go_loop [4, 5] (fun n x => ∃ k X : Nat, n = .int .i64 k ∧ x = .int .i64 X ∧ X < 9223372036854775808 ∧ k + (enc X).length = m + 1) (fun _ x => (intOf x).toNat)
  case atStart => exact ⟨1, u, rfl, rfl, hub, by rw [hm.out]; omega⟩
  case round =>
    obtain ⟨k, X, rfl, rfl, hX, hk⟩ := hrel
    have HK := Lib.hid hk
    have hpos := enc_pos X
    have hk9 : k ≤ 10 := by omega
    clear hk
    by_cases hs : 128 ≤ X
    · go_wp2_with fail
      have hst : k + 1 + (enc (X / 128)).length = m + 1 := by
        have := HK.out
        rw [enc_large (n := X) (by omega)] at this
        simp at this
        omega
      go_round
      case rel => exact ⟨k + 1, X / 128, by go_num, by go_num, by omega, hst⟩
      case measure => simp [intOf]; omega
    · have hkm : k = m := by
        have := HK.out
        rw [enc_small (n := X) (by omega)] at this
        simp at this
        omega
      subst hkm
      go_wp2_with fail
      refine (appendInt_any none 0 [] u w (byt_nil _ _) (by simp) (by omega) (by omega) r1 hr1).mono ?_
      rintro e w1 ⟨A1, C1, rfl, o1, b1⟩
      go_wp2_with fail
      refine (appendInt_any none 0 [] (v.tmod 64) w1 (byt_nil _ _) (by simp) (by omega) (by omega) r2 hr2).mono ?_
      rintro e w2 ⟨A2, C2, rfl, o2, b2⟩
      have c2 := b1.trans (b2.mono b1.size)
      go_wp2_with fail
      refine (appendUint_pos none 0 [] u w2 (byt_nil _ _) (by simp) hub r3 hr3).mono ?_
      rintro e w3 ⟨A3, C3, rfl, o3, b3⟩
      have c3 := c2.trans (b3.mono c2.size)
      have x1 := D1.out
      have x2 := D2.out
      go_wp2_with fail
      refine (known_any w3).mono ?_
      rintro e w4 ⟨rfl, b4⟩
      go_wp2_with fail
      go_ret
      exact ⟨rfl, c3.trans (b4.mono c3.size)⟩
end Go.Proofs.Ytkaekpmpjemmoaa
