/-
  The walk of the law LexerLimits: whatever the number, it returns true and changes nothing that was there. Condition: the package's variable holds the signs.
-/
import Derived.Test.YtbkmpamcelphgaaDoorKnown
import Derived.Test.YtbkmpamcelphgaaDoorMod
namespace Go.Proofs.YtbkmpamcelphgaaDoor
open Go.RowKit

theorem span_rep (p : Nat → Bool) (c : UInt8) (h : p c.toNat = true) : ∀ n, span p (List.replicate n c) = n
  | 0 => rfl
  | n + 1 => by rw [List.replicate_succ, span_in _ h, span_rep p c h n]
theorem gap_none (c : UInt8) (l : List UInt8) (h : c.toNat = 97 ∨ c.toNat = 55 ∨ c.toNat = 59) : gap false (c :: l) = (0, 0) := gap_stop l (by omega) (by omega) (by omega) (by omega) (by omega)
theorem gap_spaces : ∀ n, gap false (List.replicate n 32) = (n, 0)
  | 0 => rfl
  | n + 1 => by rw [List.replicate_succ, gap_blank false _ (.inl rfl), gap_spaces n]

theorem fst_a (n : Nat) : fst (List.replicate (n + 1) 97) = fstName (List.replicate (n + 1) 97) := rfl
theorem fst_7 (n : Nat) : fst (List.replicate (n + 1) 55) = fstNum (List.replicate (n + 1) 55) := rfl
theorem fst_semi (l : List UInt8) : fst (59 :: l) = ⟨4, [59], 0, 1, 0⟩ := by
  have hs : sign (59 :: l) = [59] := by
    unfold sign
    rw [if_neg, if_pos ⟨59, rfl, by decide⟩]
    · rfl
    · match l with
      | [] => decide
      | x :: l => simp [twos]
  show fstSign (59 :: l) = _
  unfold fstSign
  rw [hs]
  rfl

theorem scan_a (n : Nat) (h0 : 0 < n) (h1 : n ≤ 4000) : (n ≤ 12 → (scan (List.replicate n 97)).2.2 = 0) ∧ (12 < n → (scan (List.replicate n 97)).2.2 = 5) := by
  obtain ⟨m, rfl⟩ : ∃ m, n = m + 1 := ⟨n - 1, by omega⟩
  have hg : gap false (List.replicate (m + 1) 97) = (0, 0) := by rw [List.replicate_succ]; exact gap_none _ _ (.inl rfl)
  have hsp : span isLD (List.replicate (m + 1) 97) = m + 1 := span_rep isLD 97 (by decide) _
  have hne : List.replicate (m + 1) (97 : UInt8) ≠ [] := by simp
  refine ⟨fun h => ?_, fun h => ?_⟩
  · have hf : fst (List.replicate (m + 1) 97) = ⟨if List.replicate (m + 1) 97 ∈ words then 3 else 1, List.replicate (m + 1) 97, 0, m + 1, 0⟩ := by
      rw [fst_a]; unfold fstName; rw [hsp, if_neg (by omega)]
      have : (List.replicate (m + 1) (97 : UInt8)).take (m + 1) = List.replicate (m + 1) 97 := by rw [List.take_of_length_le (by simp)]
      rw [this]
    unfold scan
    rw [if_neg (by simp; omega), scanF]
    simp only [hg, List.drop_zero, hne, if_false, hf, List.length_replicate, ne_eq, not_true_eq_false, List.length_nil]
    rw [if_neg (by omega)]
    simp only [List.drop_of_length_le (show (List.replicate (m + 1) (97 : UInt8)).length ≤ m + 1 by simp)]
    rw [scanF]
    simp [gap_nil]
  · have hf : fst (List.replicate (m + 1) 97) = ⟨0, [], 0, 0, 5⟩ := by
      rw [fst_a]; unfold fstName; rw [hsp, if_pos h]
    unfold scan
    rw [if_neg (by simp; omega), scanF]
    simp [hg, hf]
theorem scan_7 (n : Nat) (h0 : 0 < n) (h1 : n ≤ 4000) : (n ≤ 18 → (scan (List.replicate n 55)).2.2 = 0) ∧ (18 < n → (scan (List.replicate n 55)).2.2 = 5) := by
  obtain ⟨m, rfl⟩ : ∃ m, n = m + 1 := ⟨n - 1, by omega⟩
  have hg : gap false (List.replicate (m + 1) 55) = (0, 0) := by rw [List.replicate_succ]; exact gap_none _ _ (.inr (.inl rfl))
  have hsp : span isD (List.replicate (m + 1) 55) = m + 1 := span_rep isD 55 (by decide) _
  have hne : List.replicate (m + 1) (55 : UInt8) ≠ [] := by simp
  refine ⟨fun h => ?_, fun h => ?_⟩
  · obtain ⟨v, hf⟩ : ∃ v, fst (List.replicate (m + 1) 55) = ⟨2, [], v, m + 1, 0⟩ := by
      refine ⟨numV ((List.replicate (m + 1) 55).take (m + 1)), ?_⟩
      rw [fst_7]; unfold fstNum; rw [hsp, if_neg (by omega), if_neg]
      rw [List.drop_of_length_le (by simp)]
      simp
    unfold scan
    rw [if_neg (by simp; omega), scanF]
    simp only [hg, List.drop_zero, hne, if_false, hf, List.length_replicate, ne_eq, not_true_eq_false, List.length_nil]
    rw [if_neg (by omega)]
    simp only [List.drop_of_length_le (show (List.replicate (m + 1) (55 : UInt8)).length ≤ m + 1 by simp)]
    rw [scanF]
    simp [gap_nil]
  · have hf : fst (List.replicate (m + 1) 55) = ⟨0, [], 0, 0, 5⟩ := by
      rw [fst_7]; unfold fstNum; rw [hsp, if_pos h]
    unfold scan
    rw [if_neg (by simp; omega), scanF]
    simp [hg, hf]
theorem scan_spaces (n : Nat) : (n ≤ 4000 → (scan (List.replicate n 32)).2.2 = 0) ∧ (4000 < n → (scan (List.replicate n 32)).2.2 = 5) := by
  refine ⟨fun h => ?_, fun h => ?_⟩
  · unfold scan
    rw [if_neg (by simp; omega), scanF, gap_spaces, if_pos (List.drop_of_length_le (by simp))]
  · unfold scan
    rw [if_pos (by simpa using h)]
theorem scanF_semi : ∀ (n f : Nat) (L : Nat) (acc : List Tok), n < f → acc.length ≤ 2000 → (acc.length + n ≤ 2000 → (scanF f (List.replicate n 59) L acc).2.2 = 0 ∧ (scanF f (List.replicate n 59) L acc).1.length = acc.length + n + 1) ∧ (2000 < acc.length + n → (scanF f (List.replicate n 59) L acc).2.2 = 5)
  | n, 0, _, _, h, _ => by omega
  | 0, f + 1, L, acc, _, hacc => by
    refine ⟨fun _ => ?_, fun h => by omega⟩
    rw [scanF]
    simp [gap_nil]
  | n + 1, f + 1, L, acc, hf, hacc => by
    have hg : gap false (List.replicate (n + 1) 59) = (0, 0) := by rw [List.replicate_succ]; exact gap_none _ _ (.inr (.inr rfl))
    have hft : fst (List.replicate (n + 1) 59) = ⟨4, [59], 0, 1, 0⟩ := by rw [List.replicate_succ]; exact fst_semi _
    have hne : List.replicate (n + 1) (59 : UInt8) ≠ [] := by simp
    have hd : (List.replicate (n + 1) (59 : UInt8)).drop 1 = List.replicate n 59 := by rw [List.replicate_succ]; rfl
    rw [scanF]
    simp only [hg, List.drop_zero, hne, if_false, hft, ne_eq, not_true_eq_false, hd]
    by_cases h2 : acc.length = 2000
    · simp only [h2, if_true]
      exact ⟨fun h => by omega, fun _ => by trivial⟩
    · simp only [h2, if_false]
      have ih := scanF_semi n f (L + 0) (acc ++ [⟨4, L + 0, [59], 0⟩]) (by omega) (by simp; omega)
      simp only [List.length_append, List.length_cons, List.length_nil] at ih
      exact ⟨fun h => ⟨(ih.1 (by omega)).1, by rw [(ih.1 (by omega)).2]; omega⟩, fun h => ih.2 (by omega)⟩
theorem scan_semi (n : Nat) (h1 : n ≤ 4000) : (n ≤ 2000 → (scan (List.replicate n 59)).2.2 = 0 ∧ (scan (List.replicate n 59)).1.length = n + 1) ∧ (2000 < n → (scan (List.replicate n 59)).2.2 = 5) := by
  have h := scanF_semi n (n + 1) 1 [] (by omega) (by simp)
  have hs : scan (List.replicate n 59) = scanF (n + 1) (List.replicate n 59) 1 [] := by
    unfold scan
    rw [if_neg (by simp; omega), List.length_replicate]
  rw [hs]
  simpa using h

/-- One of the statement's four texts, and what Scan says of it. -/
theorem text_of (c : UInt8) (n : Nat) (er : Nat) (he : (scan (List.replicate n c)).2.2 = er) : ∃ (t : ByteArray) (ts : List Tok) (ln : Nat), Hid ((⟨(List.replicate n c).toArray⟩ : ByteArray) = t) ∧ Hid (scan t.data.toList = (ts, ln, er)) ∧ t.size = n ∧ (scan (List.replicate n c)).1 = ts := by
  refine ⟨⟨(List.replicate n c).toArray⟩, (scan (List.replicate n c)).1, (scan (List.replicate n c)).2.1, Lib.hid rfl, Lib.hid ?_, by simp [ByteArray.size], rfl⟩
  show scan (List.replicate n c) = _
  rw [← he]

set_option maxHeartbeats 1600000 in
set_option maxRecDepth 1000000 in
theorem limits_0 (n : Int) (w : World) (hS : SignsAt w) (h2 : n < 9223372036854775808) (hm : Hid (n % 5 = 0)) : Calls Tryd.prog 8 #[.int .i64 n] w fun e w' => e = .returned (.bool true) ∧ Below w.heap.size w w' := by
  have HS := Lib.hid hS
  have hlt := hS.lt
  clear hS
  obtain ⟨t1, a1, l1, T1, R1, z1, _⟩ := text_of 97 10 0 (by have h := scan_a 10 (by omega) (by omega); exact h.1 (by omega))
  obtain ⟨t2, b1, l2, T2, R2, z2, _⟩ := text_of 55 16 0 (by have h := scan_7 16 (by omega) (by omega); exact h.1 (by omega))
  obtain ⟨t3, c1, l3, T3, R3, z3, hc1⟩ := text_of 59 1998 0 (by have h := scan_semi 1998 (by omega); exact (h.1 (by omega)).1)
  obtain ⟨t4, d1, l4, T4, R4, z4, _⟩ := text_of 32 3998 0 (by have h := scan_spaces 3998; exact h.1 (by omega))
  have hcl : ((c1.length : Int) == 1999) = true := by
    have h := ((scan_semi 1998 (by omega)).1 (by omega)).2
    rw [hc1] at h
    rw [beq_iff_eq]; omega
  have y1 : t1.size ≤ 9223372036854775807 := by omega
  have y2 : t2.size ≤ 9223372036854775807 := by omega
  have y3 : t3.size ≤ 9223372036854775807 := by omega
  have y4 : t4.size ≤ 9223372036854775807 := by omega
  clear z1 z2 z3 z4 hc1
  go_enter Tryd.func8, Tryd.ntmps8
  go_wp2_with fail
  refine (mod_any n 5 w h2 (by omega) (by omega) 0 hm).mono ?_
  rintro e w0 ⟨rfl, rfl⟩
  go_wp2_with fail
  refine (repeat_any 97 10 w (by omega) t1 T1).mono ?_
  rintro e w0 ⟨rfl, rfl⟩
  go_wp2_with fail
  refine (scan_any t1 w HS.out y1 _ R1).mono ?_
  rintro e w1 ⟨A1, C1, rfl, _, hb1⟩
  have HS1 := Lib.hid (HS.out.below hb1 hlt)
  have hz1 := hb1.size
  have hlt1 : 0 < w1.heap.size := by omega
  go_wp2_with fail
  refine (repeat_any 55 16 w1 (by omega) t2 T2).mono ?_
  rintro e w0 ⟨rfl, rfl⟩
  go_wp2_with fail
  refine (scan_any t2 w1 HS1.out y2 _ R2).mono ?_
  rintro e w2 ⟨A2, C2, rfl, _, hb2⟩
  have HB2 := Lib.hid (hb1.trans (hb2.mono hz1))
  have HS2 := Lib.hid (HS1.out.below hb2 hlt1)
  have hz2 := HB2.out.size
  have hlt2 : 0 < w2.heap.size := by omega
  clear hb1 hb2
  go_wp2_with fail
  refine (repeat_any 59 1998 w2 (by omega) t3 T3).mono ?_
  rintro e w0 ⟨rfl, rfl⟩
  go_wp2_with fail
  refine (scan_any t3 w2 HS2.out y3 _ R3).mono ?_
  rintro e w3 ⟨A3, C3, rfl, _, hb3⟩
  have HB3 := Lib.hid (HB2.out.trans (hb3.mono hz2))
  have HS3 := Lib.hid (HS2.out.below hb3 hlt2)
  have hz3 := HB3.out.size
  have hlt3 : 0 < w3.heap.size := by omega
  clear hb3
  go_wp2_with fail
  refine (repeat_any 32 3998 w3 (by omega) t4 T4).mono ?_
  rintro e w0 ⟨rfl, rfl⟩
  go_wp2_with fail
  refine (scan_any t4 w3 HS3.out y4 _ R4).mono ?_
  rintro e w4 ⟨A4, C4, rfl, _, hb4⟩
  have HB4 := Lib.hid (HB3.out.trans (hb4.mono hz3))
  have HS4 := Lib.hid (HS3.out.below hb4 hlt3)
  have hz4 := HB4.out.size
  clear hb4
  go_wp2_with fail
  refine (known_any w4 HS4.out).mono ?_
  rintro e w5 ⟨rfl, hb5⟩
  go_wp2_with fail
  go_ret
  exact ⟨rfl, HB4.out.trans (hb5.mono hz4)⟩

set_option maxHeartbeats 1600000 in
set_option maxRecDepth 1000000 in
theorem limits_1 (n : Int) (w : World) (hS : SignsAt w) (h2 : n < 9223372036854775808) (hm : Hid (n % 5 = 1)) : Calls Tryd.prog 8 #[.int .i64 n] w fun e w' => e = .returned (.bool true) ∧ Below w.heap.size w w' := by
  have HS := Lib.hid hS
  have hlt := hS.lt
  clear hS
  obtain ⟨t1, a1, l1, T1, R1, z1, _⟩ := text_of 97 11 0 (by have h := scan_a 11 (by omega) (by omega); exact h.1 (by omega))
  obtain ⟨t2, b1, l2, T2, R2, z2, _⟩ := text_of 55 17 0 (by have h := scan_7 17 (by omega) (by omega); exact h.1 (by omega))
  obtain ⟨t3, c1, l3, T3, R3, z3, hc1⟩ := text_of 59 1999 0 (by have h := scan_semi 1999 (by omega); exact (h.1 (by omega)).1)
  obtain ⟨t4, d1, l4, T4, R4, z4, _⟩ := text_of 32 3999 0 (by have h := scan_spaces 3999; exact h.1 (by omega))
  have hcl : ((c1.length : Int) == 2000) = true := by
    have h := ((scan_semi 1999 (by omega)).1 (by omega)).2
    rw [hc1] at h
    rw [beq_iff_eq]; omega
  have y1 : t1.size ≤ 9223372036854775807 := by omega
  have y2 : t2.size ≤ 9223372036854775807 := by omega
  have y3 : t3.size ≤ 9223372036854775807 := by omega
  have y4 : t4.size ≤ 9223372036854775807 := by omega
  clear z1 z2 z3 z4 hc1
  go_enter Tryd.func8, Tryd.ntmps8
  go_wp2_with fail
  refine (mod_any n 5 w h2 (by omega) (by omega) 1 hm).mono ?_
  rintro e w0 ⟨rfl, rfl⟩
  go_wp2_with fail
  refine (repeat_any 97 11 w (by omega) t1 T1).mono ?_
  rintro e w0 ⟨rfl, rfl⟩
  go_wp2_with fail
  refine (scan_any t1 w HS.out y1 _ R1).mono ?_
  rintro e w1 ⟨A1, C1, rfl, _, hb1⟩
  have HS1 := Lib.hid (HS.out.below hb1 hlt)
  have hz1 := hb1.size
  have hlt1 : 0 < w1.heap.size := by omega
  go_wp2_with fail
  refine (repeat_any 55 17 w1 (by omega) t2 T2).mono ?_
  rintro e w0 ⟨rfl, rfl⟩
  go_wp2_with fail
  refine (scan_any t2 w1 HS1.out y2 _ R2).mono ?_
  rintro e w2 ⟨A2, C2, rfl, _, hb2⟩
  have HB2 := Lib.hid (hb1.trans (hb2.mono hz1))
  have HS2 := Lib.hid (HS1.out.below hb2 hlt1)
  have hz2 := HB2.out.size
  have hlt2 : 0 < w2.heap.size := by omega
  clear hb1 hb2
  go_wp2_with fail
  refine (repeat_any 59 1999 w2 (by omega) t3 T3).mono ?_
  rintro e w0 ⟨rfl, rfl⟩
  go_wp2_with fail
  refine (scan_any t3 w2 HS2.out y3 _ R3).mono ?_
  rintro e w3 ⟨A3, C3, rfl, _, hb3⟩
  have HB3 := Lib.hid (HB2.out.trans (hb3.mono hz2))
  have HS3 := Lib.hid (HS2.out.below hb3 hlt2)
  have hz3 := HB3.out.size
  have hlt3 : 0 < w3.heap.size := by omega
  clear hb3
  go_wp2_with fail
  refine (repeat_any 32 3999 w3 (by omega) t4 T4).mono ?_
  rintro e w0 ⟨rfl, rfl⟩
  go_wp2_with fail
  refine (scan_any t4 w3 HS3.out y4 _ R4).mono ?_
  rintro e w4 ⟨A4, C4, rfl, _, hb4⟩
  have HB4 := Lib.hid (HB3.out.trans (hb4.mono hz3))
  have HS4 := Lib.hid (HS3.out.below hb4 hlt3)
  have hz4 := HB4.out.size
  clear hb4
  go_wp2_with fail
  refine (known_any w4 HS4.out).mono ?_
  rintro e w5 ⟨rfl, hb5⟩
  go_wp2_with fail
  go_ret
  exact ⟨rfl, HB4.out.trans (hb5.mono hz4)⟩

set_option maxHeartbeats 1600000 in
set_option maxRecDepth 1000000 in
theorem limits_2 (n : Int) (w : World) (hS : SignsAt w) (h2 : n < 9223372036854775808) (hm : Hid (n % 5 = 2)) : Calls Tryd.prog 8 #[.int .i64 n] w fun e w' => e = .returned (.bool true) ∧ Below w.heap.size w w' := by
  have HS := Lib.hid hS
  have hlt := hS.lt
  clear hS
  obtain ⟨t1, a1, l1, T1, R1, z1, _⟩ := text_of 97 12 0 (by have h := scan_a 12 (by omega) (by omega); exact h.1 (by omega))
  obtain ⟨t2, b1, l2, T2, R2, z2, _⟩ := text_of 55 18 0 (by have h := scan_7 18 (by omega) (by omega); exact h.1 (by omega))
  obtain ⟨t3, c1, l3, T3, R3, z3, hc1⟩ := text_of 59 2000 0 (by have h := scan_semi 2000 (by omega); exact (h.1 (by omega)).1)
  obtain ⟨t4, d1, l4, T4, R4, z4, _⟩ := text_of 32 4000 0 (by have h := scan_spaces 4000; exact h.1 (by omega))
  have hcl : ((c1.length : Int) == 2001) = true := by
    have h := ((scan_semi 2000 (by omega)).1 (by omega)).2
    rw [hc1] at h
    rw [beq_iff_eq]; omega
  have y1 : t1.size ≤ 9223372036854775807 := by omega
  have y2 : t2.size ≤ 9223372036854775807 := by omega
  have y3 : t3.size ≤ 9223372036854775807 := by omega
  have y4 : t4.size ≤ 9223372036854775807 := by omega
  clear z1 z2 z3 z4 hc1
  go_enter Tryd.func8, Tryd.ntmps8
  go_wp2_with fail
  refine (mod_any n 5 w h2 (by omega) (by omega) 2 hm).mono ?_
  rintro e w0 ⟨rfl, rfl⟩
  go_wp2_with fail
  refine (repeat_any 97 12 w (by omega) t1 T1).mono ?_
  rintro e w0 ⟨rfl, rfl⟩
  go_wp2_with fail
  refine (scan_any t1 w HS.out y1 _ R1).mono ?_
  rintro e w1 ⟨A1, C1, rfl, _, hb1⟩
  have HS1 := Lib.hid (HS.out.below hb1 hlt)
  have hz1 := hb1.size
  have hlt1 : 0 < w1.heap.size := by omega
  go_wp2_with fail
  refine (repeat_any 55 18 w1 (by omega) t2 T2).mono ?_
  rintro e w0 ⟨rfl, rfl⟩
  go_wp2_with fail
  refine (scan_any t2 w1 HS1.out y2 _ R2).mono ?_
  rintro e w2 ⟨A2, C2, rfl, _, hb2⟩
  have HB2 := Lib.hid (hb1.trans (hb2.mono hz1))
  have HS2 := Lib.hid (HS1.out.below hb2 hlt1)
  have hz2 := HB2.out.size
  have hlt2 : 0 < w2.heap.size := by omega
  clear hb1 hb2
  go_wp2_with fail
  refine (repeat_any 59 2000 w2 (by omega) t3 T3).mono ?_
  rintro e w0 ⟨rfl, rfl⟩
  go_wp2_with fail
  refine (scan_any t3 w2 HS2.out y3 _ R3).mono ?_
  rintro e w3 ⟨A3, C3, rfl, _, hb3⟩
  have HB3 := Lib.hid (HB2.out.trans (hb3.mono hz2))
  have HS3 := Lib.hid (HS2.out.below hb3 hlt2)
  have hz3 := HB3.out.size
  have hlt3 : 0 < w3.heap.size := by omega
  clear hb3
  go_wp2_with fail
  refine (repeat_any 32 4000 w3 (by omega) t4 T4).mono ?_
  rintro e w0 ⟨rfl, rfl⟩
  go_wp2_with fail
  refine (scan_any t4 w3 HS3.out y4 _ R4).mono ?_
  rintro e w4 ⟨A4, C4, rfl, _, hb4⟩
  have HB4 := Lib.hid (HB3.out.trans (hb4.mono hz3))
  have HS4 := Lib.hid (HS3.out.below hb4 hlt3)
  have hz4 := HB4.out.size
  clear hb4
  go_wp2_with fail
  refine (known_any w4 HS4.out).mono ?_
  rintro e w5 ⟨rfl, hb5⟩
  go_wp2_with fail
  go_ret
  exact ⟨rfl, HB4.out.trans (hb5.mono hz4)⟩

set_option maxHeartbeats 1600000 in
set_option maxRecDepth 1000000 in
theorem limits_3 (n : Int) (w : World) (hS : SignsAt w) (h2 : n < 9223372036854775808) (hm : Hid (n % 5 = 3)) : Calls Tryd.prog 8 #[.int .i64 n] w fun e w' => e = .returned (.bool true) ∧ Below w.heap.size w w' := by
  have HS := Lib.hid hS
  have hlt := hS.lt
  clear hS
  obtain ⟨t1, a1, l1, T1, R1, z1, _⟩ := text_of 97 13 5 (by have h := scan_a 13 (by omega) (by omega); exact h.2 (by omega))
  obtain ⟨t2, b1, l2, T2, R2, z2, _⟩ := text_of 55 19 5 (by have h := scan_7 19 (by omega) (by omega); exact h.2 (by omega))
  obtain ⟨t3, c1, l3, T3, R3, z3, hc1⟩ := text_of 59 2001 5 (by have h := scan_semi 2001 (by omega); exact h.2 (by omega))
  obtain ⟨t4, d1, l4, T4, R4, z4, _⟩ := text_of 32 4001 5 (by have h := scan_spaces 4001; exact h.2 (by omega))
  have y1 : t1.size ≤ 9223372036854775807 := by omega
  have y2 : t2.size ≤ 9223372036854775807 := by omega
  have y3 : t3.size ≤ 9223372036854775807 := by omega
  have y4 : t4.size ≤ 9223372036854775807 := by omega
  clear z1 z2 z3 z4 hc1
  go_enter Tryd.func8, Tryd.ntmps8
  go_wp2_with fail
  refine (mod_any n 5 w h2 (by omega) (by omega) 3 hm).mono ?_
  rintro e w0 ⟨rfl, rfl⟩
  go_wp2_with fail
  refine (repeat_any 97 13 w (by omega) t1 T1).mono ?_
  rintro e w0 ⟨rfl, rfl⟩
  go_wp2_with fail
  refine (scan_any t1 w HS.out y1 _ R1).mono ?_
  rintro e w1 ⟨A1, C1, rfl, _, hb1⟩
  have HS1 := Lib.hid (HS.out.below hb1 hlt)
  have hz1 := hb1.size
  have hlt1 : 0 < w1.heap.size := by omega
  go_wp2_with fail
  refine (repeat_any 55 19 w1 (by omega) t2 T2).mono ?_
  rintro e w0 ⟨rfl, rfl⟩
  go_wp2_with fail
  refine (scan_any t2 w1 HS1.out y2 _ R2).mono ?_
  rintro e w2 ⟨A2, C2, rfl, _, hb2⟩
  have HB2 := Lib.hid (hb1.trans (hb2.mono hz1))
  have HS2 := Lib.hid (HS1.out.below hb2 hlt1)
  have hz2 := HB2.out.size
  have hlt2 : 0 < w2.heap.size := by omega
  clear hb1 hb2
  go_wp2_with fail
  refine (repeat_any 59 2001 w2 (by omega) t3 T3).mono ?_
  rintro e w0 ⟨rfl, rfl⟩
  go_wp2_with fail
  refine (scan_any t3 w2 HS2.out y3 _ R3).mono ?_
  rintro e w3 ⟨A3, C3, rfl, _, hb3⟩
  have HB3 := Lib.hid (HB2.out.trans (hb3.mono hz2))
  have HS3 := Lib.hid (HS2.out.below hb3 hlt2)
  have hz3 := HB3.out.size
  have hlt3 : 0 < w3.heap.size := by omega
  clear hb3
  go_wp2_with fail
  refine (repeat_any 32 4001 w3 (by omega) t4 T4).mono ?_
  rintro e w0 ⟨rfl, rfl⟩
  go_wp2_with fail
  refine (scan_any t4 w3 HS3.out y4 _ R4).mono ?_
  rintro e w4 ⟨A4, C4, rfl, _, hb4⟩
  have HB4 := Lib.hid (HB3.out.trans (hb4.mono hz3))
  have HS4 := Lib.hid (HS3.out.below hb4 hlt3)
  have hz4 := HB4.out.size
  clear hb4
  go_wp2_with fail
  refine (known_any w4 HS4.out).mono ?_
  rintro e w5 ⟨rfl, hb5⟩
  go_wp2_with fail
  go_ret
  exact ⟨rfl, HB4.out.trans (hb5.mono hz4)⟩

set_option maxHeartbeats 1600000 in
set_option maxRecDepth 1000000 in
theorem limits_4 (n : Int) (w : World) (hS : SignsAt w) (h2 : n < 9223372036854775808) (hm : Hid (n % 5 = 4)) : Calls Tryd.prog 8 #[.int .i64 n] w fun e w' => e = .returned (.bool true) ∧ Below w.heap.size w w' := by
  have HS := Lib.hid hS
  have hlt := hS.lt
  clear hS
  obtain ⟨t1, a1, l1, T1, R1, z1, _⟩ := text_of 97 14 5 (by have h := scan_a 14 (by omega) (by omega); exact h.2 (by omega))
  obtain ⟨t2, b1, l2, T2, R2, z2, _⟩ := text_of 55 20 5 (by have h := scan_7 20 (by omega) (by omega); exact h.2 (by omega))
  obtain ⟨t3, c1, l3, T3, R3, z3, hc1⟩ := text_of 59 2002 5 (by have h := scan_semi 2002 (by omega); exact h.2 (by omega))
  obtain ⟨t4, d1, l4, T4, R4, z4, _⟩ := text_of 32 4002 5 (by have h := scan_spaces 4002; exact h.2 (by omega))
  have y1 : t1.size ≤ 9223372036854775807 := by omega
  have y2 : t2.size ≤ 9223372036854775807 := by omega
  have y3 : t3.size ≤ 9223372036854775807 := by omega
  have y4 : t4.size ≤ 9223372036854775807 := by omega
  clear z1 z2 z3 z4 hc1
  go_enter Tryd.func8, Tryd.ntmps8
  go_wp2_with fail
  refine (mod_any n 5 w h2 (by omega) (by omega) 4 hm).mono ?_
  rintro e w0 ⟨rfl, rfl⟩
  go_wp2_with fail
  refine (repeat_any 97 14 w (by omega) t1 T1).mono ?_
  rintro e w0 ⟨rfl, rfl⟩
  go_wp2_with fail
  refine (scan_any t1 w HS.out y1 _ R1).mono ?_
  rintro e w1 ⟨A1, C1, rfl, _, hb1⟩
  have HS1 := Lib.hid (HS.out.below hb1 hlt)
  have hz1 := hb1.size
  have hlt1 : 0 < w1.heap.size := by omega
  go_wp2_with fail
  refine (repeat_any 55 20 w1 (by omega) t2 T2).mono ?_
  rintro e w0 ⟨rfl, rfl⟩
  go_wp2_with fail
  refine (scan_any t2 w1 HS1.out y2 _ R2).mono ?_
  rintro e w2 ⟨A2, C2, rfl, _, hb2⟩
  have HB2 := Lib.hid (hb1.trans (hb2.mono hz1))
  have HS2 := Lib.hid (HS1.out.below hb2 hlt1)
  have hz2 := HB2.out.size
  have hlt2 : 0 < w2.heap.size := by omega
  clear hb1 hb2
  go_wp2_with fail
  refine (repeat_any 59 2002 w2 (by omega) t3 T3).mono ?_
  rintro e w0 ⟨rfl, rfl⟩
  go_wp2_with fail
  refine (scan_any t3 w2 HS2.out y3 _ R3).mono ?_
  rintro e w3 ⟨A3, C3, rfl, _, hb3⟩
  have HB3 := Lib.hid (HB2.out.trans (hb3.mono hz2))
  have HS3 := Lib.hid (HS2.out.below hb3 hlt2)
  have hz3 := HB3.out.size
  have hlt3 : 0 < w3.heap.size := by omega
  clear hb3
  go_wp2_with fail
  refine (repeat_any 32 4002 w3 (by omega) t4 T4).mono ?_
  rintro e w0 ⟨rfl, rfl⟩
  go_wp2_with fail
  refine (scan_any t4 w3 HS3.out y4 _ R4).mono ?_
  rintro e w4 ⟨A4, C4, rfl, _, hb4⟩
  have HB4 := Lib.hid (HB3.out.trans (hb4.mono hz3))
  have HS4 := Lib.hid (HS3.out.below hb4 hlt3)
  have hz4 := HB4.out.size
  clear hb4
  go_wp2_with fail
  refine (known_any w4 HS4.out).mono ?_
  rintro e w5 ⟨rfl, hb5⟩
  go_wp2_with fail
  go_ret
  exact ⟨rfl, HB4.out.trans (hb5.mono hz4)⟩

theorem limits_any (n : Int) (w : World) (hS : SignsAt w) (h2 : n < 9223372036854775808) : Calls Tryd.prog 8 #[.int .i64 n] w fun e w' => e = .returned (.bool true) ∧ Below w.heap.size w w' := by
  have h0 : 0 ≤ n % 5 := Int.emod_nonneg _ (by omega)
  have h5 : n % 5 < 5 := Int.emod_lt_of_pos _ (by omega)
  by_cases e0 : n % 5 = 0
  · exact limits_0 n w hS h2 (Lib.hid e0)
  by_cases e1 : n % 5 = 1
  · exact limits_1 n w hS h2 (Lib.hid e1)
  by_cases e2 : n % 5 = 2
  · exact limits_2 n w hS h2 (Lib.hid e2)
  by_cases e3 : n % 5 = 3
  · exact limits_3 n w hS h2 (Lib.hid e3)
  exact limits_4 n w hS h2 (Lib.hid (by omega))
end Go.Proofs.YtbkmpamcelphgaaDoor
