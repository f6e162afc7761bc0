/-
  The walk of lexer.span at isDigit and at isLetterOrDigit: how many bytes ahead belong. No condition.
-/
import Derived.Test.YtbkmpamcelphgaaDoorChar
namespace Go.Proofs.YtbkmpamcelphgaaDoor
open Go.RowKit

/-- What is known of a rune: a byte below 128 stands for itself, any other rune is 128 or more. -/
theorem decode_low (s : ByteArray) (pos : Nat) (h : pos < s.size) (ha : (s[pos]'h).toNat < 128) : Utf8.decode s pos = ((s[pos]'h).toNat, 1) := decode_ascii s pos h ha
theorem width_pos (s : ByteArray) (pos : Nat) (h : pos < s.size) : 1 ≤ (Utf8.decode s pos).2 := by
  by_cases ha : (s[pos]'h).toNat < 128
  · rw [decode_ascii s pos h ha]
    exact Nat.le_refl _
  · exact (decode_high s pos h (by omega)).2
theorem drop_cons (s : ByteArray) (pos : Nat) (h : pos < s.size) : s.data.toList.drop pos = (s[pos]'h) :: s.data.toList.drop (pos + 1) := by
  rw [List.drop_eq_getElem_cons (by simpa using h)]
  rfl
theorem drop_end (s : ByteArray) (pos : Nat) (h : ¬ pos < s.size) : s.data.toList.drop pos = [] := List.drop_eq_nil_of_le (by simp at *; omega)
theorem isD_low {n : Nat} (h : isD n = true) : n < 128 := by simp only [isD, decide_eq_true_eq] at h; omega
theorem isL_low {n : Nat} (h : isL n = true) : n < 128 := by simp only [isL, decide_eq_true_eq] at h; omega
theorem isLD_low {n : Nat} (h : isLD n = true) : n < 128 := by
  simp only [isLD, Bool.or_eq_true] at h
  rcases h with h | h
  · exact isL_low h
  · exact isD_low h
/-- A rune belongs exactly if its byte does. -/
theorem rune_belongs {p : Nat → Bool} (hp : ∀ n, p n = true → n < 128) (s : ByteArray) (pos : Nat) (h : pos < s.size) : p (Utf8.decode s pos).1 = p (s[pos]'h).toNat := by
  by_cases ha : (s[pos]'h).toNat < 128
  · rw [decode_ascii s pos h ha]
  · have := (decode_high s pos h (by omega)).1
    rw [Bool.eq_iff_iff]
    exact ⟨fun e => by have := hp _ e; omega, fun e => by have := hp _ e; omega⟩
theorem rune_width {p : Nat → Bool} (hp : ∀ n, p n = true → n < 128) (s : ByteArray) (pos : Nat) (h : pos < s.size) (hb : p (Utf8.decode s pos).1 = true) : (Utf8.decode s pos).2 = 1 := by
  by_cases ha : (s[pos]'h).toNat < 128
  · rw [decode_ascii s pos h ha]
  · have := (decode_high s pos h (by omega)).1
    have := hp _ hb
    omega

theorem iter_below (w : World) (s : ByteArray) (pos : Nat) : Below w.heap.size w (w.iter s pos) := (Below.refl _ _).alloc (Nat.le_refl _) _

theorem ret_i64 {a b : Int} (h : a = b) : Ending.returned (.int .i64 a) = .returned (.int .i64 b) := by rw [h]

/-- A character class of bytes below 128. -/
structure Low (p : Nat → Bool) : Prop where
  low : ∀ n, p n = true → n < 128
theorem Low.width {p : Nat → Bool} (hp : Low p) {s : ByteArray} {pos : Nat} (h : pos < s.size) : p (Utf8.decode s pos).1 = true → (Utf8.decode s pos).2 = 1 := rune_width hp.low s pos h
theorem Low.belongs {p : Nat → Bool} (hp : Low p) {s : ByteArray} {pos : Nat} (h : pos < s.size) : p (Utf8.decode s pos).1 = p (s[pos]'h).toNat := rune_belongs hp.low s pos h
theorem low_D : Low isD := ⟨fun _ => isD_low⟩
theorem low_LD : Low isLD := ⟨fun _ => isLD_low⟩

set_option maxRecDepth 100000 in
theorem span_digit (s : ByteArray) (w : World) (r : Nat) (hr : Hid (span isD s.data.toList = r)) :
    Calls Tryd.prog 53 #[.string s, .func (.func 33) #[] #[]] w fun e w' => e = .returned (.int .i64 r) ∧ Below w.heap.size w w' := by
  go_enter Tryd.func53, Tryd.ntmps53
  go_wp2_with fail
  go_loopw [] (fun wr => ∃ pos : Nat, wr = w.iter s pos ∧ pos ≤ s.size ∧ pos + span isD (s.data.toList.drop pos) = r) (fun wr => s.size - wr.iterPos w.heap.size)
  case atStart => exact ⟨0, rfl, Nat.zero_le _, by rw [← hr.out]; simp⟩
  case round =>
    obtain ⟨pos, rfl, hpos, hrel⟩ := hrel
    have HR := Lib.hid hrel
    clear hrel
    by_cases hp : pos < s.size
    · have hnx : ∀ ty, (Instr.next (.pointer (some ⟨w.heap.size, 0, none⟩)) true ty).run Tryd.prog (w.iter s pos) = _ := fun ty => run_next_any w s pos ty hp
      have hw1 := low_D.width (s := s) (pos := pos) hp
      have hbl := low_D.belongs (s := s) (pos := pos) hp
      have hdl := decode_le s pos
      have hdc := drop_cons s pos hp
      by_cases hb : isD (s[pos]'hp).toNat = true
      · rw [hb] at hbl
        have hwd := hw1 hbl
        have HB := Lib.hid hbl
        have HD := Lib.hid hdc
        have HH := Lib.hid hb
        have hwd1 : pos + (Utf8.decode s pos).2 = pos + 1 := by rw [hwd]
        have HW := Lib.hid hwd1
        clear hbl hdc hb hwd hw1 hwd1
        generalize (Utf8.decode s pos).1 = c at *
        generalize pos + (Utf8.decode s pos).2 = pos' at *
        go_wp2_with (go_at_call 33; refine (isDigit_any c (by omega) _ true HB).mono ?_; rintro e w1 ⟨rfl, rfl⟩)
        obtain rfl := HW.out
        go_roundw
        case rel => exact ⟨pos + 1, rfl, by omega, by rw [← HR.out, HD.out, span_in _ HH.out]; omega⟩
        case measure => simp; omega
      · have hb : isD (s[pos]'hp).toNat = false := by simpa using hb
        rw [hb] at hbl
        have HB := Lib.hid hbl
        have hz : r = pos := by rw [← HR.out, hdc, span_out _ hb]; rfl
        subst hz
        clear hbl hdc hb hw1
        generalize (Utf8.decode s r).1 = c at *
        go_wp2_with (go_at_call 33; refine (isDigit_any c (by omega) _ false HB).mono ?_; rintro e w1 ⟨rfl, rfl⟩)
        go_ret
        exact ⟨rfl, iter_below _ _ _⟩
    · have hnx : ∀ ty, (Instr.next (.pointer (some ⟨w.heap.size, 0, none⟩)) true ty).run Tryd.prog (w.iter s pos) = _ := fun ty => run_next_end w s pos ty hp
      have hz : r = s.size := by rw [← HR.out, drop_end s pos hp]; simp [span]; omega
      subst hz
      go_wp2_with fail
      go_ret
      exact ⟨rfl, iter_below _ _ _⟩

set_option maxRecDepth 100000 in
theorem span_ld (s : ByteArray) (w : World) (r : Nat) (hr : Hid (span isLD s.data.toList = r)) :
    Calls Tryd.prog 53 #[.string s, .func (.func 54) #[] #[]] w fun e w' => e = .returned (.int .i64 r) ∧ Below w.heap.size w w' := by
  go_enter Tryd.func53, Tryd.ntmps53
  go_wp2_with fail
  go_loopw [] (fun wr => ∃ pos : Nat, wr = w.iter s pos ∧ pos ≤ s.size ∧ pos + span isLD (s.data.toList.drop pos) = r) (fun wr => s.size - wr.iterPos w.heap.size)
  case atStart => exact ⟨0, rfl, Nat.zero_le _, by rw [← hr.out]; simp⟩
  case round =>
    obtain ⟨pos, rfl, hpos, hrel⟩ := hrel
    have HR := Lib.hid hrel
    clear hrel
    by_cases hp : pos < s.size
    · have hnx : ∀ ty, (Instr.next (.pointer (some ⟨w.heap.size, 0, none⟩)) true ty).run Tryd.prog (w.iter s pos) = _ := fun ty => run_next_any w s pos ty hp
      have hw1 := low_LD.width (s := s) (pos := pos) hp
      have hbl := low_LD.belongs (s := s) (pos := pos) hp
      have hdl := decode_le s pos
      have hdc := drop_cons s pos hp
      by_cases hb : isLD (s[pos]'hp).toNat = true
      · rw [hb] at hbl
        have hwd := hw1 hbl
        have HB := Lib.hid hbl
        have HD := Lib.hid hdc
        have HH := Lib.hid hb
        have hwd1 : pos + (Utf8.decode s pos).2 = pos + 1 := by rw [hwd]
        have HW := Lib.hid hwd1
        clear hbl hdc hb hwd hw1 hwd1
        generalize (Utf8.decode s pos).1 = c at *
        generalize pos + (Utf8.decode s pos).2 = pos' at *
        go_wp2_with (go_at_call 54; refine (isLD_any c (by omega) _ true HB).mono ?_; rintro e w1 ⟨rfl, rfl⟩)
        obtain rfl := HW.out
        go_roundw
        case rel => exact ⟨pos + 1, rfl, by omega, by rw [← HR.out, HD.out, span_in _ HH.out]; omega⟩
        case measure => simp; omega
      · have hb : isLD (s[pos]'hp).toNat = false := by simpa using hb
        rw [hb] at hbl
        have HB := Lib.hid hbl
        have hz : r = pos := by rw [← HR.out, hdc, span_out _ hb]; rfl
        subst hz
        clear hbl hdc hb hw1
        generalize (Utf8.decode s r).1 = c at *
        go_wp2_with (go_at_call 54; refine (isLD_any c (by omega) _ false HB).mono ?_; rintro e w1 ⟨rfl, rfl⟩)
        go_ret
        exact ⟨rfl, iter_below _ _ _⟩
    · have hnx : ∀ ty, (Instr.next (.pointer (some ⟨w.heap.size, 0, none⟩)) true ty).run Tryd.prog (w.iter s pos) = _ := fun ty => run_next_end w s pos ty hp
      have hz : r = s.size := by rw [← HR.out, drop_end s pos hp]; simp [span]; omega
      subst hz
      go_wp2_with fail
      go_ret
      exact ⟨rfl, iter_below _ _ _⟩
end Go.Proofs.YtbkmpamcelphgaaDoor
