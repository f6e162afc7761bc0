/-
  The walk of the law WireReads: whatever the bytes and the place, it returns true and changes nothing that was there. No condition.
-/
import Derived.Test.YtkaekpmpjemmoaaKnown
namespace Go.Proofs.Ytkaekpmpjemmoaa
open Go.RowKit

theorem reads_any (A : Option Addr) (c : Nat) (l : List Int) (n : Nat) (hn : n = l.length) (a : Int) (w : World) (hb : Byt w w.heap.size A c l) (h1 : -9223372036854775808 ≤ a) (h2 : a < 9223372036854775808) :
    Calls Try.prog 19 #[.slice A n c, .int .i64 a] w fun e w' => e = .returned (.bool true) ∧ Below w.heap.size w w' := by
  subst hn
  obtain ⟨N, k, E, n1⟩ : ∃ N k E, Hid (readNum 9 127 l a = (N, k, E)) := ⟨_, _, _, rfl⟩
  obtain ⟨N', k', E', n2⟩ : ∃ N k E, Hid (readNum 10 1 l a = (N, k, E)) := ⟨_, _, _, rfl⟩
  obtain ⟨z, hz⟩ : ∃ z, Hid (zag N' = z) := ⟨_, rfl⟩
  obtain ⟨xs, k'', E'', n3⟩ : ∃ xs k E, Hid (readText l a = (xs, k, E)) := ⟨_, _, _, rfl⟩
  go_enter Try.func19, Try.ntmps19
  go_wp2_with fail
  refine (uint_code A c l a w hb h1 h2 N k E n1).mono ?_
  rintro e w1 ⟨rfl, b1⟩
  have t1 := hb.below b1 (Nat.le_refl _) b1.size
  go_wp2_with fail
  refine (uint_ref A c l a w1 _ t1 h1 h2 N k E n1).mono ?_
  rintro e w2 ⟨rfl, rfl⟩
  go_wp2_with fail
  refine (int_code A c l a w1 t1 h1 h2 N' k' E' n2 z hz).mono ?_
  rintro e w3 ⟨rfl, b3⟩
  have c3 : Below w.heap.size w w3 := b1.trans (b3.mono b1.size)
  have t3 := hb.below c3 (Nat.le_refl _) c3.size
  go_wp2_with fail
  refine (int_ref A c l a w3 _ t3 h1 h2 N' k' E' n2 z hz).mono ?_
  rintro e w4 ⟨rfl, rfl⟩
  go_wp2_with fail
  refine (text_code A c l a w3 t3 h1 h2 xs k'' E'' n3).mono ?_
  rintro e w5 ⟨rfl, b5⟩
  have c5 : Below w.heap.size w w5 := c3.trans (b5.mono c3.size)
  have t5 := hb.below c5 (Nat.le_refl _) c5.size
  go_wp2_with fail
  refine (text_ref A c l a w5 _ t5 h1 h2 xs k'' E'' n3).mono ?_
  rintro e w6 ⟨rfl, rfl⟩
  go_wp2_with fail
  go_ret
  exact ⟨rfl, c5⟩

theorem wireReads_short (A : Option Addr) (c : Nat) (l : List Int) (a : Int) (w : World) (hb : Byt w w.heap.size A c l) (h1 : -9223372036854775808 ≤ a) (h2 : a < 9223372036854775808) (hl : l.length ≤ 200) :
    Calls Try.prog 4 #[.slice A l.length c, .int .i64 a] w fun e w' => e = .returned (.bool true) ∧ Below w.heap.size w w' := by
  have hlc := hb.len
  have hcm : c ≤ 9223372036854775807 := by have := hb.cap; unfold maxLen at this; omega
  go_enter Try.func4, Try.ntmps4
  go_wp2_with fail
  go_loopw [5] (fun i wr => ∃ k : Nat, k ≤ l.length + 1 ∧ i = .int .i64 k ∧ Below w.heap.size w wr) (fun i _ => l.length + 1 - (intOf i).toNat)
  case atStart => exact ⟨0, by omega, rfl, Below.refl _ _⟩
  case round =>
    obtain ⟨k, hk, rfl, hbel⟩ := hrel
    have ht := hb.below hbel (Nat.le_refl _) hbel.size
    by_cases hlt : k ≤ l.length
    · go_wp2_with (go_at_call 19; refine (reads_any A c _ l.length rfl k wr ht (by omega) (by omega)).mono ?_; rintro e w1 ⟨rfl, b1⟩)
      go_roundw
      case rel => exact ⟨k + 1, by omega, by go_num, hbel.trans (b1.mono hbel.size)⟩
      case measure => simp [intOf]; omega
    · go_wp2_with fail
      refine (reads_any A c _ l.length rfl a wr ht h1 h2).mono ?_
      rintro e w1 ⟨rfl, b1⟩
      have c1 : Below w.heap.size w w1 := hbel.trans (b1.mono hbel.size)
      go_wp2_with fail
      refine (known_any w1).mono ?_
      rintro e w2 ⟨rfl, b2⟩
      go_wp2_with fail
      go_ret
      exact ⟨rfl, c1.trans (b2.mono c1.size)⟩

theorem wireReads_long (A : Option Addr) (c : Nat) (l : List Int) (a : Int) (w : World) (hb : Byt w w.heap.size A c l) (h1 : -9223372036854775808 ≤ a) (h2 : a < 9223372036854775808) (hl : 200 < l.length) :
    Calls Try.prog 4 #[.slice A l.length c, .int .i64 a] w fun e w' => e = .returned (.bool true) ∧ Below w.heap.size w w' := by
  have hlc := hb.len
  have hcm : c ≤ 9223372036854775807 := by have := hb.cap; unfold maxLen at this; omega
  have hq : Hid (200 = (l.take 200).length) := by show 200 = _; simp; omega
  have hdec : decide ((200 : Int) < (l.length : Int)) = true := by simp; omega
  go_enter Try.func4, Try.ntmps4
  go_wp2_with fail
  go_loopw [5] (fun i wr => ∃ k : Nat, k ≤ 200 + 1 ∧ i = .int .i64 k ∧ Below w.heap.size w wr) (fun i _ => 200 + 1 - (intOf i).toNat)
  case atStart => exact ⟨0, by omega, rfl, Below.refl _ _⟩
  case round =>
    obtain ⟨k, hk, rfl, hbel⟩ := hrel
    have ht := (hb.head 200).below hbel (Nat.le_refl _) hbel.size
    by_cases hlt : k ≤ 200
    · go_wp2_with (go_at_call 19; refine (reads_any A c _ 200 hq.out k wr ht (by omega) (by omega)).mono ?_; rintro e w1 ⟨rfl, b1⟩)
      go_roundw
      case rel => exact ⟨k + 1, by omega, by go_num, hbel.trans (b1.mono hbel.size)⟩
      case measure => simp [intOf]; omega
    · go_wp2_with fail
      refine (reads_any A c _ 200 hq.out a wr ht h1 h2).mono ?_
      rintro e w1 ⟨rfl, b1⟩
      have c1 : Below w.heap.size w w1 := hbel.trans (b1.mono hbel.size)
      go_wp2_with fail
      refine (known_any w1).mono ?_
      rintro e w2 ⟨rfl, b2⟩
      go_wp2_with fail
      go_ret
      exact ⟨rfl, c1.trans (b2.mono c1.size)⟩

end Go.Proofs.Ytkaekpmpjemmoaa
