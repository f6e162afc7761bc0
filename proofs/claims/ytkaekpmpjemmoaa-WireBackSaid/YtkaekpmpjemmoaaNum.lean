/-
  The walk of wire.number.
-/
import Derived.Test.YtkaekpmpjemmoaaTake
import Derived.Test.YtkaekpmpjemmoaaDec
namespace Go.Proofs.Ytkaekpmpjemmoaa
open Go.RowKit

set_option maxHeartbeats 3200000 in
theorem number_code (A : Option Addr) (c : Nat) (l : List Int) (a W : Nat) (last : Int) (w : World) (hb : Byt w w.heap.size A c l) (ha : a ≤ l.length) (hlast0 : 0 ≤ last) (hlast : last ≤ 127) (hW0 : 1 ≤ W) (hW : W ≤ 9 ∨ (W = 10 ∧ last ≤ 1))
    (N k : Nat) (E : Int) (hN : Hid (numFrom W last l a W 0 0 = (N, k, E))) :
    Calls Try.prog 29 #[.slice A l.length c, .int .i64 a, .int .i64 W, .int .u8 last] w fun e w' =>
      e = .returned (.tuple #[.int .u64 N, .int .i64 k, .int .i64 E]) ∧ Below w.heap.size w w' := by
  have hmax : l.length ≤ 9223372036854775807 := by have := hb.len; have := hb.cap; unfold maxLen at this; omega
  go_enter Try.func29, Try.ntmps29
  go_wp2_with (go_at_call 31; refine (bytesFrom_any A l.length c a w).mono ?_; rintro e w1 ⟨rfl, rfl⟩)
  have hbel1 : Below w.heap.size w ((w.alloc (.cells #[.slice A l.length c] 22)).alloc (.cells #[.int .i64 a] 3)) := ((Below.refl _ _).alloc (Nat.le_refl _) _).alloc (by simp) _
  have hq1 : ((w.alloc (.cells #[.slice A l.length c] 22)).alloc (.cells #[.int .i64 a] 3)).cell? ⟨w.heap.size, 0, none⟩ = some (.slice A l.length c) := by
    rw [World.cell?_alloc_past _ _ _ (by simp), World.cell?_alloc_at _ _ _ _ rfl]; rfl
  have hp1 : ((w.alloc (.cells #[.slice A l.length c] 22)).alloc (.cells #[.int .i64 a] 3)).cell? ⟨w.heap.size + 1, 0, none⟩ = some (.int .i64 a) := by
    rw [World.cell?_alloc_at _ _ _ _ (by simp)]; rfl
  have hf1 : ((w.alloc (.cells #[.slice A l.length c] 22)).alloc (.cells #[.int .i64 a] 3)).frozen? ⟨w.heap.size + 1, 0, none⟩ = false := World.frozen?_alloc_at _ _ _ _ (by simp)
  generalize (w.alloc (.cells #[.slice A l.length c] 22)).alloc (.cells #[.int .i64 a] 3) = w1 at *
  have K1 := Lib.hid hq1
  have K2 := Lib.hid hp1
  have K3 := Lib.hid hf1
  clear hq1 hp1 hf1
  go_loopw [12, 13] (fun n i wr => ∃ (m j : Nat), n = .int .u64 m ∧ i = .int .i64 j ∧ j + 1 ≤ W ∧ a + j ≤ l.length ∧ m < 128 ^ j ∧ numFrom W last l a (W - j) j m = (N, k, E) ∧ Below w.heap.size w wr ∧ wr.cell? ⟨w.heap.size, 0, none⟩ = some (.slice A l.length c) ∧ wr.cell? ⟨w.heap.size + 1, 0, none⟩ = some (.int .i64 ((a + j : Nat) : Int)) ∧ wr.frozen? ⟨w.heap.size + 1, 0, none⟩ = false) (fun _ i _ => W - (intOf i).toNat)
  case atStart => exact ⟨0, 0, rfl, rfl, hW0, ha, by simp, hN.out, hbel1, K1.out, K2.out, K3.out⟩
  case round =>
    obtain ⟨m, j, rfl, rfl, hj, haj, hm, hnum, hbel, hq, hp, hf⟩ := hrel
    have HM := Lib.hid hm
    have HN := Lib.hid hnum
    have HQ := Lib.hid hq
    have HP := Lib.hid hp
    have HF := Lib.hid hf
    clear hm hnum hq hp hf K1 K2 K3 hN
    by_cases hend : l.length ≤ a + j
    · go_wp2_with (go_at_call 32; refine (take_end (w.heap.size + 1) w.heap.size A l.length c (a + j) _ HP.out HQ.out hend).mono ?_; rintro e w2 ⟨rfl, rfl⟩)
      have hv := num_short (W := W) (last := last) (f := W - j - 1) (i := j) (n := m) hend
      rw [show W - j - 1 + 1 = W - j from by omega, HN.out] at hv
      go_ret3
      exact ⟨by injection hv with h1 h2; injection h2 with h2 h3; subst h1; subst h2; subst h3; rfl, hbel⟩
    obtain ⟨x, hx⟩ : ∃ x, Hid (l[a + j]?.getD 0 = x) := ⟨_, rfl⟩
    have hxr : 0 ≤ x ∧ x ≤ 255 := by rw [← hx.out]; exact hb.range _
    have htake := take_more (w.heap.size + 1) w.heap.size A c (a + j) w.heap.size l wr HP.out HF.out HQ.out (by omega) (hb.keep (Nat.le_refl _) fun p hp => hbel.cell hp) (by omega) (by omega) x hx
    have HT := Lib.hid htake
    clear htake
    have HX : Hid (byteAt l (a + j) = x) := hx
    have hn' : numFrom W last l a (W - j - 1 + 1) j m = (N, k, E) := by rw [show W - j - 1 + 1 = W - j from by omega]; exact HN.out
    have HE := Lib.hid hn'
    clear hn' HN hb
    have htj : j + 1 ≠ W → ((j : Int) == (W : Int) - 1) = false := fun h => by rw [beq_eq_false_iff_ne]; omega
    have htx : x ≠ 0 → (x == 0) = false := fun h => by rw [beq_eq_false_iff_ne]; exact h
    have hbw : ∀ w2, Drew (wr.setCell ⟨w.heap.size + 1, 0, none⟩ (.int .i64 (((a + j : Nat) : Int) + 1))) w2 → Below w.heap.size w w2 := fun w2 hd => (hbel.setCell (p := ⟨w.heap.size + 1, 0, none⟩) (by simp) _).trans (hd.below _)
    have HB := Lib.hid hbw
    clear hbw
    have hcells : ∀ w2, Drew (wr.setCell ⟨w.heap.size + 1, 0, none⟩ (.int .i64 (((a + j : Nat) : Int) + 1))) w2 → w2.cell? ⟨w.heap.size, 0, none⟩ = some (.slice A l.length c) ∧ w2.cell? ⟨w.heap.size + 1, 0, none⟩ = some (.int .i64 ((a + (j + 1) : Nat) : Int)) ∧ w2.frozen? ⟨w.heap.size + 1, 0, none⟩ = false := fun w2 hd => by
      refine ⟨(hd.cell _).trans ?_, (hd.cell _).trans ?_, (hd.frozen _).trans ?_⟩
      · rw [World.cell?_setCell_other _ _ _ _ (by intro e; injection e; omega)]; exact HQ.out
      · rw [World.cell?_setCell_same _ _ _ HP.out]; congr 2
      · rw [World.frozen?_setCell]; exact HF.out
    have HC := Lib.hid hcells
    clear hcells
    rcases Nat.lt_or_eq_of_le hj with hjW | hjW
    · have tj := htj (by omega)
      clear htj
      rcases Nat.eq_zero_or_pos j with hj0 | hj0
      · subst hj0
        clear htx
        by_cases hx7 : x ≤ 127
        · go_wp2_with (go_at_call 32; refine (HT.out).mono ?_; rintro e w2 ⟨rfl, hd⟩)
          obtain ⟨rfl, rfl, rfl⟩ := triple (HE.out.symm.trans (num_done hend HX.out (by omega) (by omega) (by omega)))
          go_ret3
          have hg := group_value HM.out hxr (by omega)
          refine ⟨ret_num (by first | exact hg | simpa using hg) (by omega) rfl, HB.out _ hd⟩
        · go_wp2_with (go_at_call 32; refine (HT.out).mono ?_; rintro e w2 ⟨rfl, hd⟩)
          have hg := group_value HM.out hxr (by omega)
          have hfit := (group_fits (d := (x % 128).toNat) HM.out (by omega) (by omega)).2.2
          have hnx := HE.out.symm.trans (num_next hend HX.out (by omega) (by omega) (by omega))
          obtain ⟨c1, c2, c3⟩ := HC.out _ hd
          go_roundw
          case rel => exact ⟨m + (x % 128).toNat * 128 ^ 0, 0 + 1, congrArg (Value.int .u64) (by first | exact hg | simpa using hg), by go_num, by omega, by omega, hfit, by rw [show W - (0 + 1) = W - 0 - 1 from by omega]; exact hnx.symm, HB.out _ hd, c1, c2, c3⟩
          case measure => simp [intOf]; omega
      · by_cases hx0 : x = 0
        · subst hx0
          clear htx
          go_wp2_with (go_at_call 32; refine (HT.out).mono ?_; rintro e w2 ⟨rfl, hd⟩)
          obtain ⟨rfl, rfl, rfl⟩ := triple (HE.out.symm.trans (num_form hend HX.out (by omega) (by omega) rfl))
          go_ret3
          exact ⟨rfl, HB.out _ hd⟩
        · have tx := htx hx0
          have hxp : 0 < x := by omega
          clear htx hx0
          by_cases hx7 : x ≤ 127
          · go_wp2_with (go_at_call 32; refine (HT.out).mono ?_; rintro e w2 ⟨rfl, hd⟩)
            obtain ⟨rfl, rfl, rfl⟩ := triple (HE.out.symm.trans (num_done hend HX.out (by omega) (by omega) (by omega)))
            go_ret3
            have hg := group_value HM.out hxr (by omega)
            refine ⟨ret_num (by first | exact hg | simpa using hg) (by omega) rfl, HB.out _ hd⟩
          · go_wp2_with (go_at_call 32; refine (HT.out).mono ?_; rintro e w2 ⟨rfl, hd⟩)
            have hg := group_value HM.out hxr (by omega)
            have hfit := (group_fits (d := (x % 128).toNat) HM.out (by omega) (by omega)).2.2
            have hnx := HE.out.symm.trans (num_next hend HX.out (by omega) (by omega) (by omega))
            obtain ⟨c1, c2, c3⟩ := HC.out _ hd
            go_roundw
            case rel => exact ⟨m + (x % 128).toNat * 128 ^ j, j + 1, congrArg (Value.int .u64) (by first | exact hg | simpa using hg), by go_num, by omega, by omega, hfit, by rw [show W - (j + 1) = W - j - 1 from by omega]; exact hnx.symm, HB.out _ hd, c1, c2, c3⟩
            case measure => simp [intOf]; omega
    · subst hjW
      clear htj
      by_cases hl7 : last < x
      · clear htx
        go_wp2_with (go_at_call 32; refine (HT.out).mono ?_; rintro e w2 ⟨rfl, hd⟩)
        obtain ⟨rfl, rfl, rfl⟩ := triple (HE.out.symm.trans (num_range hend HX.out (by omega) (by omega)))
        go_ret3
        exact ⟨rfl, HB.out _ hd⟩
      · rcases Nat.eq_zero_or_pos j with hj0 | hj0
        · subst hj0
          clear htx
          go_wp2_with (go_at_call 32; refine (HT.out).mono ?_; rintro e w2 ⟨rfl, hd⟩)
          obtain ⟨rfl, rfl, rfl⟩ := triple (HE.out.symm.trans (num_done hend HX.out (by omega) (by omega) (by omega)))
          go_ret3
          have hg := group_value HM.out hxr (by omega)
          refine ⟨ret_num (by first | exact hg | simpa using hg) (by omega) rfl, HB.out _ hd⟩
        · by_cases hx0 : x = 0
          · subst hx0
            clear htx
            go_wp2_with (go_at_call 32; refine (HT.out).mono ?_; rintro e w2 ⟨rfl, hd⟩)
            obtain ⟨rfl, rfl, rfl⟩ := triple (HE.out.symm.trans (num_form hend HX.out (by omega) (by omega) rfl))
            go_ret3
            exact ⟨rfl, HB.out _ hd⟩
          · have tx := htx hx0
            have hxp : 0 < x := by omega
            clear htx hx0
            go_wp2_with (go_at_call 32; refine (HT.out).mono ?_; rintro e w2 ⟨rfl, hd⟩)
            obtain ⟨rfl, rfl, rfl⟩ := triple (HE.out.symm.trans (num_done hend HX.out (by omega) (by omega) (by omega)))
            go_ret3
            have hg := group_value HM.out hxr (by omega)
            refine ⟨ret_num (by first | exact hg | simpa using hg) (by omega) rfl, HB.out _ hd⟩
end Go.Proofs.Ytkaekpmpjemmoaa
