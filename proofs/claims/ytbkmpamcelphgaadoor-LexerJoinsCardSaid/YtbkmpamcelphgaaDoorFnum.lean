/-
  The walk of lexer.firstNumber. Condition: the text is no longer than a text may be.
-/
import Derived.Test.YtbkmpamcelphgaaDoorGap
namespace Go.Proofs.YtbkmpamcelphgaaDoor
open Go.RowKit

/-- A token as a value, and what a token's reader hands back: the token without its line, its size and the error. -/
abbrev tokV (kd ln : Nat) (tx : List UInt8) (nm : Nat) : Value := .agg #[.int .i64 kd, .int .i64 ln, .string ⟨tx.toArray⟩, .int .i64 nm]
abbrev fstV (kd ln : Nat) (tx : List UInt8) (nm sz er : Nat) : Ending := .returned (.tuple #[tokV kd ln tx nm, .int .i64 sz, .int .i64 er])

theorem bcell {W w1 : World} (hb : Below W.heap.size W w1) : (∀ b o, b < W.heap.size → w1.cell? ⟨b, o, none⟩ = W.cell? ⟨b, o, none⟩) ∧ (∀ b o, b < W.heap.size → w1.frozen? ⟨b, o, none⟩ = W.frozen? ⟨b, o, none⟩) :=
  ⟨fun b o h => hb.cell (p := ⟨b, o, none⟩) h, fun b o h => hb.frozen (p := ⟨b, o, none⟩) h⟩

theorem fst_four {W w : World} {b : Nat} (h : Below b W w) {g : Nat} (hg : b ≤ g) (v0 v1 v2 v3 : Value) : Below b W ((((w.setCell ⟨g, 0, none⟩ v0).setCell ⟨g, 1, none⟩ v1).setCell ⟨g, 2, none⟩ v2).setCell ⟨g, 3, none⟩ v3) :=
  (((h.setCell (by simpa using hg) _).setCell (by simpa using hg) _).setCell (by simpa using hg) _).setCell (by simpa using hg) _

theorem fnum_long (s : ByteArray) (w : World) (n : Nat) (hn : Hid (span isD s.data.toList = n)) (h : 18 < n) :
    Calls Tryd.prog 34 #[.string s] w fun e w' => e = fstV 0 0 [] 0 0 5 ∧ Below w.heap.size w w' := by
  go_enter Tryd.func34, Tryd.ntmps34
  go_wp2_with (go_at_call 53; refine (span_digit s _ n hn).mono ?_; rintro e w1 ⟨rfl, hb1⟩; obtain ⟨hc, hf⟩ := bcell hb1; have hz := hb1.size; simp at hz)
  refine bodyPost_ret (v := .tuple #[tokV 0 0 [] 0, .int .i64 0, .int .i64 5]) ?_ rfl ⟨rfl, ?_⟩
  · simp [results, Tryd.results34, go_sem, hc]
  · exact fst_four (((Below.refl _ _).alloc (Nat.le_refl _) _).trans (hb1.mono (by simp))) (Nat.le_refl _) _ _ _ _

theorem fnum_bad (s : ByteArray) (w : World) (n : Nat) (hn : Hid (span isD s.data.toList = n)) (h : n ≤ 18) (hlt : n < s.size) (hl : Hid (isL (s[n]'hlt).toNat = true)) :
    Calls Tryd.prog 34 #[.string s] w fun e w' => e = fstV 0 0 [] 0 0 6 ∧ Below w.heap.size w w' := by
  have hu : (s[n]'hlt).toNat < 256 := (s[n]'hlt).toNat_lt
  go_enter Tryd.func34, Tryd.ntmps34
  go_wp2_with (first
    | (go_at_call 53; refine (span_digit s _ n hn).mono ?_; rintro e w1 ⟨rfl, hb1⟩; obtain ⟨hc, hf⟩ := bcell hb1; have hz := hb1.size; simp at hz)
    | (go_at_call 35; refine (isLetter_any (s[n]'hlt).toNat (by omega) _ true hl).mono ?_; rintro e w2 ⟨rfl, rfl⟩))
  refine bodyPost_ret (v := .tuple #[tokV 0 0 [] 0, .int .i64 0, .int .i64 6]) ?_ rfl ⟨rfl, ?_⟩
  · simp [results, Tryd.results34, go_sem, hc]
  · exact fst_four (((Below.refl _ _).alloc (Nat.le_refl _) _).trans (hb1.mono (by simp))) (Nat.le_refl _) _ _ _ _

theorem take_snoc (s : ByteArray) (k : Nat) (h : k < s.size) : s.data.toList.take (k + 1) = s.data.toList.take k ++ [s[k]] := by
  rw [List.take_succ_eq_append_getElem (by simpa using h)]; rfl
theorem extract_get (s : ByteArray) (n pos : Nat) (h : pos < (s.extract 0 n).size) (h' : pos < s.size) : (s.extract 0 n)[pos]'h = s[pos]'h' := by
  show (s.extract 0 n).data[pos]'(by simpa using h) = s.data[pos]
  simp
theorem digits_of (s : ByteArray) (n : Nat) (hn : span isD s.data.toList = n) (pos : Nat) (hp : pos < n) (h' : pos < s.size) : isD (s[pos]'h').toNat = true := by
  have h := span_all isD s.data.toList (s[pos]'h') (by
    rw [hn]
    have hlen : pos < (s.data.toList.take n).length := by simp; omega
    have : (s.data.toList.take n)[pos] = s[pos]'h' := by rw [List.getElem_take]; rfl
    rw [← this]; exact List.getElem_mem hlen)
  exact h
theorem numV_head (s : ByteArray) (n : Nat) (hn : span isD s.data.toList = n) (h : n ≤ 18) (pos : Nat) (hp : pos ≤ n) : numV (s.data.toList.take pos) < 1000000000000000000 :=
  numV_lt18 _ (by simp; omega) fun c hc => span_all isD s.data.toList c (by
    rw [hn]
    have : s.data.toList.take pos = (s.data.toList.take n).take pos := by rw [List.take_take, Nat.min_eq_left hp]
    rw [this] at hc
    exact List.mem_of_mem_take hc)

set_option maxHeartbeats 1600000 in
set_option maxRecDepth 100000 in
theorem fnum_good (s : ByteArray) (w : World) (n : Nat) (hn : Hid (span isD s.data.toList = n)) (h : n ≤ 18) (hle : n ≤ s.size)
    (hl : ∀ hlt : n < s.size, Hid (isL (s[n]'hlt).toNat = false)) (v : Nat) (hv : Hid (numV (s.data.toList.take n) = v)) :
    Calls Tryd.prog 34 #[.string s] w fun e w' => e = fstV 2 0 [] v n 0 ∧ Below w.heap.size w w' := by
  have HL := Lib.hid hl
  clear hl
  obtain ⟨t, ht⟩ : ∃ t, Hid (s.extract 0 n = t) := ⟨_, Lib.hid rfl⟩
  have htz : t.size = n := by rw [← ht.out]; simp; omega
  have HZ := Lib.hid htz
  clear htz
  by_cases hlt : n < s.size
  · have hu : (s[n]'hlt).toNat < 256 := (s[n]'hlt).toNat_lt
    go_enter Tryd.func34, Tryd.ntmps34
    go_wp2_with (first
      | (go_at_call 53; refine (span_digit s _ n hn).mono ?_; rintro e w1 ⟨rfl, hb1⟩; obtain ⟨hc, hf⟩ := bcell hb1; have hz := hb1.size; simp at hz)
      | (go_at_call 35; refine (isLetter_any (s[n]'hlt).toNat (by omega) _ false (HL.out hlt)).mono ?_; rintro e w2 ⟨rfl, rfl⟩))
    rw [ht.out]
    go_loopw [6] (fun mv wr => ∃ pos m : Nat, wr = w1.iter t pos ∧ pos ≤ n ∧ mv = .int .i64 m ∧ m < 1000000000000000000 ∧ numV (s.data.toList.take pos) = m) (fun _ wr => n - wr.iterPos w1.heap.size)
    case atStart => exact ⟨0, 0, rfl, Nat.zero_le _, rfl, by omega, rfl⟩
    case round =>
      obtain ⟨pos, m, rfl, hpos, rfl, hm, hmv⟩ := hrel
      have HM := Lib.hid hmv
      clear hmv
      by_cases hp : pos < n
      · have hpt : pos < t.size := by rw [HZ.out]; exact hp
        have hps : pos < s.size := by omega
        have hg : t[pos]'hpt = s[pos]'hps := by
          have h1 := extract_get s n pos (by rw [ht.out]; exact hpt) hps
          rw [← h1]; congr 1; exact ht.out.symm
        have hdig := digits_of s n hn.out pos hp hps
        have hlow := isD_low hdig
        have hdec := decode_low t pos hpt (by rw [hg]; exact hlow)
        have hnx : ∀ ty, (Instr.next (.pointer (some ⟨w1.heap.size, 0, none⟩)) true ty).run Tryd.prog (w1.iter t pos) = .ok (.tuple #[.bool true, .int .i64 pos, .int .i32 (s[pos]'hps).toNat]) (w1.iter t (pos + 1)) := fun ty => by
          have h1 := run_next_any (P := Tryd.prog) w1 t pos ty hpt
          rw [hdec, hg] at h1
          exact h1
        have hsn : Hid (numV (s.data.toList.take (pos + 1)) = 10 * numV (s.data.toList.take pos) + ((s[pos]'hps).toNat - 48)) := by
          show Hid _
          rw [take_snoc s pos hps]; exact Lib.hid (numV_snoc _ _)
        have hm2 := numV_head s n hn.out h (pos + 1) (by omega)
        rw [hsn.out, HM.out] at hm2
        have hb : 48 ≤ (s[pos]'hps).toNat ∧ (s[pos]'hps).toNat ≤ 57 := by simpa [isD] using hdig
        obtain ⟨hb1', hb2'⟩ := hb
        clear hdec hdig hg
        go_wp2_with fail
        go_roundw
        case rel => exact ⟨pos + 1, 10 * m + ((s[pos]'hps).toNat - 48), rfl, by omega, congrArg (Value.int .i64) (by omega), hm2, by rw [hsn.out, HM.out]⟩
        case measure => simp; omega
      · obtain rfl : pos = n := by omega
        have hnx : ∀ ty, (Instr.next (.pointer (some ⟨w1.heap.size, 0, none⟩)) true ty).run Tryd.prog (w1.iter t pos) = _ := fun ty => run_next_end w1 t pos ty (by rw [HZ.out]; exact hp)
        obtain ⟨hc2, hf2⟩ := bcell (iter_below w1 t pos)
        have hz2 : w.heap.size < w1.heap.size := by omega
        go_wp2_with fail
        obtain rfl : m = v := HM.out.symm.trans hv.out
        refine bodyPost_ret (v := .tuple #[tokV 2 0 [] m, .int .i64 pos, .int .i64 0]) ?_ rfl ⟨rfl, ?_⟩
        · simp [results, Tryd.results34, go_sem, hc, hc2, hz2]
        · exact fst_four ((((Below.refl _ _).alloc (Nat.le_refl _) _).trans (hb1.mono (by simp))).trans ((iter_below _ _ _).mono (by omega))) (Nat.le_refl _) _ _ _ _
  · have hlt' : n = s.size := by omega
    have hlt2 : s.size ≤ n := by omega
    clear hlt hlt'
    go_enter Tryd.func34, Tryd.ntmps34
    go_wp2_with (go_at_call 53; refine (span_digit s _ n hn).mono ?_; rintro e w1 ⟨rfl, hb1⟩; obtain ⟨hc, hf⟩ := bcell hb1; have hz := hb1.size; simp at hz)
    rw [ht.out]
    go_loopw [6] (fun mv wr => ∃ pos m : Nat, wr = w1.iter t pos ∧ pos ≤ n ∧ mv = .int .i64 m ∧ m < 1000000000000000000 ∧ numV (s.data.toList.take pos) = m) (fun _ wr => n - wr.iterPos w1.heap.size)
    case atStart => exact ⟨0, 0, rfl, Nat.zero_le _, rfl, by omega, rfl⟩
    case round =>
      obtain ⟨pos, m, rfl, hpos, rfl, hm, hmv⟩ := hrel
      have HM := Lib.hid hmv
      clear hmv
      by_cases hp : pos < n
      · have hpt : pos < t.size := by rw [HZ.out]; exact hp
        have hps : pos < s.size := by omega
        have hg : t[pos]'hpt = s[pos]'hps := by
          have h1 := extract_get s n pos (by rw [ht.out]; exact hpt) hps
          rw [← h1]; congr 1; exact ht.out.symm
        have hdig := digits_of s n hn.out pos hp hps
        have hlow := isD_low hdig
        have hdec := decode_low t pos hpt (by rw [hg]; exact hlow)
        have hnx : ∀ ty, (Instr.next (.pointer (some ⟨w1.heap.size, 0, none⟩)) true ty).run Tryd.prog (w1.iter t pos) = .ok (.tuple #[.bool true, .int .i64 pos, .int .i32 (s[pos]'hps).toNat]) (w1.iter t (pos + 1)) := fun ty => by
          have h1 := run_next_any (P := Tryd.prog) w1 t pos ty hpt
          rw [hdec, hg] at h1
          exact h1
        have hsn : Hid (numV (s.data.toList.take (pos + 1)) = 10 * numV (s.data.toList.take pos) + ((s[pos]'hps).toNat - 48)) := by
          show Hid _
          rw [take_snoc s pos hps]; exact Lib.hid (numV_snoc _ _)
        have hm2 := numV_head s n hn.out h (pos + 1) (by omega)
        rw [hsn.out, HM.out] at hm2
        have hb : 48 ≤ (s[pos]'hps).toNat ∧ (s[pos]'hps).toNat ≤ 57 := by simpa [isD] using hdig
        obtain ⟨hb1', hb2'⟩ := hb
        clear hdec hdig hg
        go_wp2_with fail
        go_roundw
        case rel => exact ⟨pos + 1, 10 * m + ((s[pos]'hps).toNat - 48), rfl, by omega, congrArg (Value.int .i64) (by omega), hm2, by rw [hsn.out, HM.out]⟩
        case measure => simp; omega
      · obtain rfl : pos = n := by omega
        have hnx : ∀ ty, (Instr.next (.pointer (some ⟨w1.heap.size, 0, none⟩)) true ty).run Tryd.prog (w1.iter t pos) = _ := fun ty => run_next_end w1 t pos ty (by rw [HZ.out]; exact hp)
        obtain ⟨hc2, hf2⟩ := bcell (iter_below w1 t pos)
        have hz2 : w.heap.size < w1.heap.size := by omega
        go_wp2_with fail
        obtain rfl : m = v := HM.out.symm.trans hv.out
        refine bodyPost_ret (v := .tuple #[tokV 2 0 [] m, .int .i64 pos, .int .i64 0]) ?_ rfl ⟨rfl, ?_⟩
        · simp [results, Tryd.results34, go_sem, hc, hc2, hz2]
        · exact fst_four ((((Below.refl _ _).alloc (Nat.le_refl _) _).trans (hb1.mono (by simp))).trans ((iter_below _ _ _).mono (by omega))) (Nat.le_refl _) _ _ _ _
end Go.Proofs.YtbkmpamcelphgaaDoor
