/-
  The walks of Text, the code's and the specification's, at any place.
-/
import Derived.Test.YtkaekpmpjemmoaaUint
namespace Go.Proofs.Ytkaekpmpjemmoaa
open Go.RowKit

/-- A slice of bytes as a string. -/
theorem run_text {B c : Nat} {A : Option Addr} {l : List Int} {w : World} (hb : Byt w B A c l) : (convert 22 9 (.slice A l.length c)).run Try.prog w = .ok (.string (str l)) w := by
  rw [run_convert_bytes_string w 22 9 5 A l.length c Try.underlying22 Try.underlying5 Try.underlying9]
  cases A with
  | none =>
    have : l = [] := List.eq_nil_of_length_eq_zero (hb.none_ rfl).1
    subst this
    rfl
  | some ad =>
    have h := run_loadCells_list (P := Try.prog) w ad (vals l) (hb.cells ad rfl)
    rw [show (vals l).length = l.length from by simp [vals]] at h
    exact run_bytesToString w ad l.length c l h

/-- A part of a slice of bytes, as Go cuts it. -/
theorem byt_part {B c p n : Nat} {A : Option Addr} {l : List Int} {w : World} (hb : Byt w B A c l) (h : p + n ≤ l.length) : Byt w B (Option.map (fun x => x.add p) A) (c - p) ((l.drop p).take n) := by
  have hl : ((l.drop p).take n).length = n := by simp; omega
  refine ⟨bytes_take (bytes_drop hb.range p) n, by have := hb.len; omega, by have := hb.cap; omega, fun h0 => ?_, fun hne => ?_⟩
  · cases A with
    | none => have := hb.bare rfl; omega
    | some ad => cases h0
  · have hn : 0 < n := by
      rcases Nat.eq_zero_or_pos n with h0 | h0
      · subst h0; simp at hne
      · exact h0
    obtain ⟨b, o, rfl, hbB, hcell⟩ := hb.off (k := p) (by omega)
    refine ⟨b, o + p, by rw [Option.map_some, Addr.add_lit], hbB, fun k hk => ?_⟩
    rw [hl] at hk
    rw [Nat.add_assoc, hcell (p + k) (by omega)]
    simp [hk]

theorem cut_text {B c p n : Nat} {A : Option Addr} {l : List Int} {w : World} (hb : Byt w B A c l) (h : p + n ≤ l.length) :
    (convert 22 9 (.slice (Option.map (fun x => x.add p) A) n (c - p))).run Try.prog w = .ok (.string (str ((l.drop p).take n))) w := by
  have := run_text (byt_part hb h)
  rwa [show ((l.drop p).take n).length = n from by simp; omega] at this

/-- An empty slice as a string. -/
theorem none_text {c : Nat} {A : Option Addr} {w : World} : (convert 22 9 (.slice A 0 c)).run Try.prog w = .ok (.string (str [])) w := by
  rw [run_convert_bytes_string w 22 9 5 A 0 c Try.underlying22 Try.underlying5 Try.underlying9]
  cases A with
  | none => rfl
  | some ad =>
    have h := run_loadCells_list (P := Try.prog) w ad [] (by simp)
    exact run_bytesToString w ad 0 c [] h

theorem ret_str {a : ByteArray} {b k b' k' : Int} (h2 : b = b') (h3 : k = k') : Ending.returned (.tuple #[.string a, .int .i64 b, .int .i64 k]) = Ending.returned (.tuple #[.string a, .int .i64 b', .int .i64 k']) := by rw [h2, h3]

section
variable (A : Option Addr) (c : Nat) (l : List Int) (a : Int) (w : World)

theorem text_code (hb : Byt w w.heap.size A c l) (ha1 : -9223372036854775808 ≤ a) (ha2 : a < 9223372036854775808) (xs : List Int) (k : Nat) (E : Int) (hT : Hid (readText l a = (xs, k, E))) :
    Calls Try.prog 22 #[.slice A l.length c, .int .i64 a] w fun e w' => e = .returned (.tuple #[.string (str xs), .int .i64 k, .int .i64 E]) ∧ Below w.heap.size w w' := by
  obtain ⟨N, p, F, hN⟩ : ∃ N p F, Hid (readNum 9 127 l a = (N, p, F)) := ⟨_, _, _, rfl⟩
  obtain ⟨_, hf, hp⟩ := readNum_facts 9 127 l a hb.range (by omega) (by omega) (by omega) hN.out
  have hNb := hf (by omega)
  have hmax : l.length ≤ 9223372036854775807 := by have := hb.len; have := hb.cap; unfold maxLen at this; omega
  have hlc := hb.len
  have hv := hT.out
  unfold readText at hv
  rw [hN.out] at hv
  simp only at hv
  clear hf
  by_cases hF : F = 0
  · subst hF
    have hpl := hp rfl
    rw [if_neg (by simp)] at hv
    by_cases hlong : l.length < p + N
    · rw [if_pos hlong] at hv
      injection hv with h1 h2
      injection h2 with h2 h3
      subst h1; subst h2; subst h3
      go_enter Try.func22, Try.ntmps22
      go_wp2_with (go_at_call 20; refine (uint_code A c l a w hb ha1 ha2 N p 0 hN).mono ?_; rintro e w1 ⟨rfl, hb1⟩)
      go_ret3
      exact ⟨rfl, hb1⟩
    · rw [if_neg hlong] at hv
      injection hv with h1 h2
      injection h2 with h2 h3
      have HV := Lib.hid h1
      clear h1
      subst h2; subst h3
      by_cases hcp : c = p
      · have hN0 : N = 0 := by omega
        subst hN0
        obtain rfl : xs = [] := by rw [← HV.out]; simp
        have hcv : ∀ w1, (convert 22 9 (.slice A 0 0)).run Try.prog w1 = .ok (.string (str [])) w1 := fun w1 => none_text
        subst hcp
        go_enter Try.func22, Try.ntmps22
        go_wp2_with (go_at_call 20; refine (uint_code A c l a w hb ha1 ha2 0 c 0 hN).mono ?_; rintro e w1 ⟨rfl, hb1⟩)
        go_ret3
        exact ⟨ret_str (by omega) rfl, hb1⟩
      · have hby : ∀ w1, Below w.heap.size w w1 → Byt w1 w.heap.size A c l := fun w1 h => hb.keep (Nat.le_refl _) fun q hq => h.cell hq
        have HBY := Lib.hid hby
        clear hby
        go_enter Try.func22, Try.ntmps22
        go_wp2_with (go_at_call 20; refine (uint_code A c l a w hb ha1 ha2 N p 0 hN).mono ?_; rintro e w1 ⟨rfl, hb1⟩; have hcv := cut_text (HBY.out w1 hb1) (p := p) (n := N) (by omega); rw [HV.out] at hcv)
        go_ret3
        exact ⟨ret_str (by omega) rfl, hb1⟩
  · rw [if_pos hF] at hv
    injection hv with h1 h2
    injection h2 with h2 h3
    subst h1; subst h2; subst h3
    have hF' : (F != 0) = true := by rw [bne_iff_ne]; exact hF
    go_enter Try.func22, Try.ntmps22
    go_wp2_with (go_at_call 20; refine (uint_code A c l a w hb ha1 ha2 N p F hN).mono ?_; rintro e w1 ⟨rfl, hb1⟩)
    go_ret3
    exact ⟨rfl, hb1⟩

theorem text_ref (B : Nat) (hb : Byt w B A c l) (ha1 : -9223372036854775808 ≤ a) (ha2 : a < 9223372036854775808) (xs : List Int) (k : Nat) (E : Int) (hT : Hid (readText l a = (xs, k, E))) :
    Calls Try.prog 28 #[.slice A l.length c, .int .i64 a] w fun e w' => e = .returned (.tuple #[.string (str xs), .int .i64 k, .int .i64 E]) ∧ w = w' := by
  obtain ⟨N, p, F, hN⟩ : ∃ N p F, Hid (readNum 9 127 l a = (N, p, F)) := ⟨_, _, _, rfl⟩
  obtain ⟨_, hf, hp⟩ := readNum_facts 9 127 l a hb.range (by omega) (by omega) (by omega) hN.out
  have hNb := hf (by omega)
  have hmax : l.length ≤ 9223372036854775807 := by have := hb.len; have := hb.cap; unfold maxLen at this; omega
  have hlc := hb.len
  have hv := hT.out
  unfold readText at hv
  rw [hN.out] at hv
  simp only at hv
  clear hf
  by_cases hF : F = 0
  · subst hF
    have hpl := hp rfl
    rw [if_neg (by simp)] at hv
    by_cases hlong : l.length < p + N
    · rw [if_pos hlong] at hv
      injection hv with h1 h2
      injection h2 with h2 h3
      subst h1; subst h2; subst h3
      go_enter Try.func28, Try.ntmps28
      go_wp2_with (go_at_call 26; refine (uint_ref A c l a w B hb ha1 ha2 N p 0 hN).mono ?_; rintro e w1 ⟨rfl, rfl⟩)
      go_ret3
      exact ⟨rfl, rfl⟩
    · rw [if_neg hlong] at hv
      injection hv with h1 h2
      injection h2 with h2 h3
      have HV := Lib.hid h1
      clear h1
      subst h2; subst h3
      by_cases hcp : c = p
      · have hN0 : N = 0 := by omega
        subst hN0
        obtain rfl : xs = [] := by rw [← HV.out]; simp
        have hcv : ∀ w1, (convert 22 9 (.slice A 0 0)).run Try.prog w1 = .ok (.string (str [])) w1 := fun w1 => none_text
        subst hcp
        go_enter Try.func28, Try.ntmps28
        go_wp2_with (go_at_call 26; refine (uint_ref A c l a w B hb ha1 ha2 0 c 0 hN).mono ?_; rintro e w1 ⟨rfl, rfl⟩)
        go_ret3
        exact ⟨ret_str (by omega) rfl, rfl⟩
      · have hcv := cut_text hb (p := p) (n := N) (by omega)
        rw [HV.out] at hcv
        go_enter Try.func28, Try.ntmps28
        go_wp2_with (go_at_call 26; refine (uint_ref A c l a w B hb ha1 ha2 N p 0 hN).mono ?_; rintro e w1 ⟨rfl, rfl⟩)
        go_ret3
        exact ⟨ret_str (by omega) rfl, rfl⟩
  · rw [if_pos hF] at hv
    injection hv with h1 h2
    injection h2 with h2 h3
    subst h1; subst h2; subst h3
    have hF' : (F != 0) = true := by rw [bne_iff_ne]; exact hF
    go_enter Try.func28, Try.ntmps28
    go_wp2_with (go_at_call 26; refine (uint_ref A c l a w B hb ha1 ha2 N p F hN).mono ?_; rintro e w1 ⟨rfl, rfl⟩)
    go_ret3
    exact ⟨rfl, rfl⟩

end
end Go.Proofs.Ytkaekpmpjemmoaa
