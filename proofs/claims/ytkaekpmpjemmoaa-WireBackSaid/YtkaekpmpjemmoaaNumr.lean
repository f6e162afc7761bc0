/-
  The walk of the specification's number.
-/
import Derived.Test.YtkaekpmpjemmoaaRows
import Derived.Test.YtkaekpmpjemmoaaDec
namespace Go.Proofs.Ytkaekpmpjemmoaa
open Go.RowKit

set_option maxHeartbeats 3200000 in
theorem number_ref (A : Option Addr) (c : Nat) (l : List Int) (a W : Nat) (last : Int) (w : World) (B : Nat) (hb : Byt w B A c l) (ha : a ≤ l.length) (hlast0 : 0 ≤ last) (hlast : last ≤ 127) (hW0 : 1 ≤ W) (hW : W ≤ 9 ∨ (W = 10 ∧ last ≤ 1))
    (N k : Nat) (E : Int) (hN : Hid (numFrom W last l a W 0 0 = (N, k, E))) :
    Calls Try.prog 30 #[.slice A l.length c, .int .i64 a, .int .i64 W, .int .u8 last] w fun e w' =>
      e = .returned (.tuple #[.int .u64 N, .int .i64 k, .int .i64 E]) ∧ w = w' := by
  have hmax : l.length ≤ 9223372036854775807 := by have := hb.len; have := hb.cap; unfold maxLen at this; omega
  have H0 := Lib.hid hb
  clear hb
  go_enter Try.func30, Try.ntmps30
  go_wp2_with fail
  go_loop [11, 12] (fun n i => ∃ (m j : Nat), n = .int .u64 m ∧ i = .int .i64 j ∧ j + 1 ≤ W ∧ a + j ≤ l.length ∧ m < 128 ^ j ∧ numFrom W last l a (W - j) j m = (N, k, E)) (fun _ i => W - (intOf i).toNat)
  case atStart => exact ⟨0, 0, rfl, rfl, hW0, ha, by simp, hN.out⟩
  case round =>
    obtain ⟨m, j, rfl, rfl, hj, haj, hm, hnum⟩ := hrel
    have HM := Lib.hid hm
    have HN := Lib.hid hnum
    clear hm hnum hN
    by_cases hend : l.length ≤ a + j
    · go_wp2_with fail
      have hv := num_short (W := W) (last := last) (f := W - j - 1) (i := j) (n := m) hend
      rw [show W - j - 1 + 1 = W - j from by omega, HN.out] at hv
      go_ret3
      exact ⟨by injection hv with h1 h2; injection h2 with h2 h3; subst h1; subst h2; subst h3; rfl, rfl⟩
    obtain ⟨x, hx⟩ : ∃ x, Hid (l[a + j]?.getD 0 = x) := ⟨_, rfl⟩
    have hxr : 0 ≤ x ∧ x ≤ 255 := by rw [← hx.out]; exact H0.out.range _
    have HX : Hid (byteAt l (a + j) = x) := hx
    have hn' : numFrom W last l a (W - j - 1 + 1) j m = (N, k, E) := by rw [show W - j - 1 + 1 = W - j from by omega]; exact HN.out
    have HE := Lib.hid hn'
    obtain ⟨b, o, rfl, hbB, hc⟩ := H0.out.off (k := a + j) (by omega)
    have hcell := hc (a + j) (by omega)
    rw [hx.out] at hcell
    clear hn' HN H0 hc
    have htj : j + 1 ≠ W → ((j : Int) == (W : Int) - 1) = false := fun h => by rw [beq_eq_false_iff_ne]; omega
    have htx : x ≠ 0 → (x == 0) = false := fun h => by rw [beq_eq_false_iff_ne]; exact h
    rcases Nat.lt_or_eq_of_le hj with hjW | hjW
    · have tj := htj (by omega)
      clear htj
      by_cases hx0 : x = 0
      · subst hx0
        clear htx
        rcases Nat.eq_zero_or_pos j with hj0 | hj0
        · subst hj0
          simp only [Nat.add_zero] at hcell
          go_wp2_with fail
          have hg := group_value' HM.out hxr (by omega)
          obtain ⟨rfl, rfl, rfl⟩ := triple (HE.out.symm.trans (num_done hend HX.out (by omega) (by omega) (by omega)))
          go_ret3
          refine ⟨ret_num (by first | exact hg | simpa using hg) (by omega) rfl, rfl⟩
        · go_wp2_with fail
          obtain ⟨rfl, rfl, rfl⟩ := triple (HE.out.symm.trans (num_form hend HX.out (by omega) (by omega) rfl))
          go_ret3
          exact ⟨rfl, rfl⟩
      · have tx := htx hx0
        have hxp : 0 < x := by omega
        clear htx hx0
        by_cases hx7 : x ≤ 127
        · go_wp2_with fail
          have hg := group_value' HM.out hxr (by omega)
          obtain ⟨rfl, rfl, rfl⟩ := triple (HE.out.symm.trans (num_done hend HX.out (by omega) (by omega) (by omega)))
          go_ret3
          refine ⟨ret_num (by first | exact hg | simpa using hg) (by omega) rfl, rfl⟩
        · go_wp2_with fail
          have hg := group_value' HM.out hxr (by omega)
          have hfit := (group_fits (d := (x % 128).toNat) HM.out (by omega) (by omega)).2.2
          have hnx := HE.out.symm.trans (num_next hend HX.out (by omega) (by omega) (by omega))
          go_round
          case rel => exact ⟨m + (x % 128).toNat * 128 ^ j, j + 1, congrArg (Value.int .u64) hg, by go_num, by omega, by omega, hfit, by rw [show W - (j + 1) = W - j - 1 from by omega]; exact hnx.symm⟩
          case measure => simp [intOf]; omega
    · subst hjW
      clear htj
      by_cases hl7 : last < x
      · clear htx
        go_wp2_with fail
        obtain ⟨rfl, rfl, rfl⟩ := triple (HE.out.symm.trans (num_range hend HX.out (by omega) (by omega)))
        go_ret3
        exact ⟨rfl, rfl⟩
      · by_cases hx0 : x = 0
        · subst hx0
          clear htx
          rcases Nat.eq_zero_or_pos j with hj0 | hj0
          · subst hj0
            simp only [Nat.add_zero] at hcell
            go_wp2_with fail
            have hg := group_value' HM.out hxr (by omega)
            obtain ⟨rfl, rfl, rfl⟩ := triple (HE.out.symm.trans (num_done hend HX.out (by omega) (by omega) (by omega)))
            go_ret3
            refine ⟨ret_num (by first | exact hg | simpa using hg) (by omega) rfl, rfl⟩
          · go_wp2_with fail
            obtain ⟨rfl, rfl, rfl⟩ := triple (HE.out.symm.trans (num_form hend HX.out (by omega) (by omega) rfl))
            go_ret3
            exact ⟨rfl, rfl⟩
        · have tx := htx hx0
          have hxp : 0 < x := by omega
          clear htx hx0
          go_wp2_with fail
          have hg := group_value' HM.out hxr (by omega)
          obtain ⟨rfl, rfl, rfl⟩ := triple (HE.out.symm.trans (num_done hend HX.out (by omega) (by omega) (by omega)))
          go_ret3
          refine ⟨ret_num (by first | exact hg | simpa using hg) (by omega) rfl, rfl⟩
end Go.Proofs.Ytkaekpmpjemmoaa
