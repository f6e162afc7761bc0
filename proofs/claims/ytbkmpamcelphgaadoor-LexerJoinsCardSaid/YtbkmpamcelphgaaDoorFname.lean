/-
  The walk of lexer.firstName. Condition: the text is no longer than a text may be.
-/
import Derived.Test.YtbkmpamcelphgaaDoorFnum
import Derived.Test.YtbkmpamcelphgaaDoorClone
import Derived.Test.YtbkmpamcelphgaaDoorWords
namespace Go.Proofs.YtbkmpamcelphgaaDoor
open Go.RowKit

theorem fname_long (s : ByteArray) (b : Nat) (w : World) (n : Nat) (hn : Hid (span isLD s.data.toList = n)) (h : 12 < n) :
    Calls Tryd.prog 36 #[.string s, .map (some b)] w fun e w' => e = fstV 0 0 [] 0 0 5 ∧ Below w.heap.size w w' := by
  go_enter Tryd.func36, Tryd.ntmps36
  go_wp2_with (go_at_call 53; refine (span_ld s _ n hn).mono ?_; rintro e w1 ⟨rfl, hb1⟩; obtain ⟨hc, hf⟩ := bcell hb1; have hz := hb1.size; simp at hz)
  refine bodyPost_ret (v := .tuple #[tokV 0 0 [] 0, .int .i64 0, .int .i64 5]) ?_ rfl ⟨rfl, ?_⟩
  · simp [results, Tryd.results36, go_sem, hc]
  · exact fst_four (((Below.refl _ _).alloc (Nat.le_refl _) _).trans (hb1.mono (by simp))) (Nat.le_refl _) _ _ _ _


set_option maxHeartbeats 800000 in
theorem fname_word (s : ByteArray) (b : Nat) (w : World) (hW : WordsAt w b) (n : Nat) (hn : Hid (span isLD s.data.toList = n)) (h : n ≤ 12) (hle : n ≤ s.size) (hin : Hid (decide (s.data.toList.take n ∈ words) = true)) (tx : List UInt8) (htx : Hid (s.data.toList.take n = tx)) :
    Calls Tryd.prog 36 #[.string s, .map (some b)] w fun e w' => e = fstV 3 0 tx 0 n 0 ∧ Below w.heap.size w w' := by
  have hlt := hW.lt
  have hlook : Hid (∀ W : World, Below w.heap.size w W → (Instr.lookup 50 (.map (some b)) (.string (s.extract 0 n)) false).run Tryd.prog W = .ok (.bool true) W) := Lib.hid fun W hb =>
    (hW.below hb hlt).look (s.extract 0 n) (by simp [maxLen]; omega) true (by rw [Lib.extract_from_zero]; exact hin)
  have hW' := Lib.hid hW
  clear hW
  go_enter Tryd.func36, Tryd.ntmps36
  go_wp2_with fail
  refine (span_ld s _ n hn).mono ?_
  rintro e w1 ⟨rfl, hb1⟩
  obtain ⟨hc, hf⟩ := bcell hb1
  have hz := hb1.size
  simp at hz
  have hz2 : w.heap.size < w1.heap.size := by omega
  have hb1' : Below w.heap.size w w1 := ((Below.refl _ _).alloc (Nat.le_refl _) _).trans (hb1.mono (by simp))
  have hl1 := hlook.out w1 hb1'
  go_wp2_with fail
  refine (clone_any (s.extract 0 n) _ (by simp; omega)).mono ?_
  rintro e w2 ⟨rfl, hb2⟩
  obtain ⟨hc2, hf2⟩ := bcell hb2
  go_wp2_with fail
  refine bodyPost_ret (v := .tuple #[tokV 3 0 tx 0, .int .i64 n, .int .i64 0]) ?_ rfl ⟨rfl, ?_⟩
  · have hx : s.extract 0 n = ⟨tx.toArray⟩ := by
      apply ByteArray.ext
      apply Array.ext'
      rw [Lib.extract_from_zero, htx.out]
    simp [results, Tryd.results36, go_sem, hc, hc2, hz2, hx]
  · exact fst_four (hb1'.trans (hb2.mono (Nat.le_of_lt hz2))) (Nat.le_refl _) _ _ _ _

set_option maxHeartbeats 800000 in
theorem fname_name (s : ByteArray) (b : Nat) (w : World) (hW : WordsAt w b) (n : Nat) (hn : Hid (span isLD s.data.toList = n)) (h : n ≤ 12) (hle : n ≤ s.size) (hin : Hid (decide (s.data.toList.take n ∈ words) = false)) (tx : List UInt8) (htx : Hid (s.data.toList.take n = tx)) :
    Calls Tryd.prog 36 #[.string s, .map (some b)] w fun e w' => e = fstV 1 0 tx 0 n 0 ∧ Below w.heap.size w w' := by
  have hlt := hW.lt
  have hlook : Hid (∀ W : World, Below w.heap.size w W → (Instr.lookup 50 (.map (some b)) (.string (s.extract 0 n)) false).run Tryd.prog W = .ok (.bool false) W) := Lib.hid fun W hb =>
    (hW.below hb hlt).look (s.extract 0 n) (by simp [maxLen]; omega) false (by rw [Lib.extract_from_zero]; exact hin)
  have hW' := Lib.hid hW
  clear hW
  go_enter Tryd.func36, Tryd.ntmps36
  go_wp2_with fail
  refine (span_ld s _ n hn).mono ?_
  rintro e w1 ⟨rfl, hb1⟩
  obtain ⟨hc, hf⟩ := bcell hb1
  have hz := hb1.size
  simp at hz
  have hz2 : w.heap.size < w1.heap.size := by omega
  have hb1' : Below w.heap.size w w1 := ((Below.refl _ _).alloc (Nat.le_refl _) _).trans (hb1.mono (by simp))
  have hl1 := hlook.out w1 hb1'
  go_wp2_with fail
  refine (clone_any (s.extract 0 n) _ (by simp; omega)).mono ?_
  rintro e w2 ⟨rfl, hb2⟩
  obtain ⟨hc2, hf2⟩ := bcell hb2
  go_wp2_with fail
  refine bodyPost_ret (v := .tuple #[tokV 1 0 tx 0, .int .i64 n, .int .i64 0]) ?_ rfl ⟨rfl, ?_⟩
  · have hx : s.extract 0 n = ⟨tx.toArray⟩ := by
      apply ByteArray.ext
      apply Array.ext'
      rw [Lib.extract_from_zero, htx.out]
    simp [results, Tryd.results36, go_sem, hc, hc2, hz2, hx]
  · exact fst_four (hb1'.trans (hb2.mono (Nat.le_of_lt hz2))) (Nat.le_refl _) _ _ _ _
end Go.Proofs.YtbkmpamcelphgaaDoor
