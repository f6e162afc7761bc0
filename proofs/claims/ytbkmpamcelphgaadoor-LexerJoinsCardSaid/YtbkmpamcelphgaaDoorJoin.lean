/-
  Plain lists: the tokens of two texts with a line feed between them. No condition.
-/
import Derived.Test.YtbkmpamcelphgaaDoorLex
namespace Go.Proofs.YtbkmpamcelphgaaDoor

theorem gap_append : ∀ (l b : List UInt8) (cm : Bool), ((gap cm l).1 < l.length → gap cm (l ++ 10 :: b) = gap cm l) ∧ ((gap cm l).1 = l.length → gap cm (l ++ 10 :: b) = (l.length + 1 + (gap false b).1, (gap cm l).2 + 1 + (gap false b).2))
  | [], b, cm => by
    refine ⟨fun h => by rw [gap_nil] at h; simp at h, fun _ => ?_⟩
    rw [List.nil_append, gap_feed cm b (by rfl), gap_nil]
    simp; omega
  | c :: l, b, cm => by
    have hf := gap_append l b false
    have ht := gap_append l b true
    have hc := gap_append l b cm
    by_cases h10 : c.toNat = 10
    · rw [List.cons_append, gap_feed cm _ h10, gap_feed cm _ h10]
      refine ⟨fun h => ?_, fun h => ?_⟩
      · simp only [List.length_cons] at h
        rw [hf.1 (by omega)]
      · simp only [List.length_cons] at h
        rw [hf.2 (by omega)]
        simp; omega
    · by_cases hb : cm = true ∨ c.toNat = 32 ∨ c.toNat = 9 ∨ c.toNat = 13
      · have e1 : ∀ m, gap cm (c :: m) = ((gap cm m).1 + 1, (gap cm m).2) := fun m => by rw [gap, if_neg h10, if_pos hb]
        rw [List.cons_append, e1, e1]
        refine ⟨fun h => ?_, fun h => ?_⟩
        · simp only [List.length_cons] at h
          rw [hc.1 (by omega)]
        · simp only [List.length_cons] at h
          rw [hc.2 (by omega)]
          simp; omega
      · by_cases hd : c.toNat = 47 ∧ ∃ d ∈ l.head?, d.toNat = 47
        · have e1 : gap cm (c :: l) = ((gap true l).1 + 1, (gap true l).2) := by rw [gap, if_neg h10, if_neg hb, if_pos hd]
          have hd' : c.toNat = 47 ∧ ∃ d ∈ (l ++ 10 :: b).head?, d.toNat = 47 := by
            obtain ⟨h1, d, hm, h2⟩ := hd
            refine ⟨h1, d, ?_, h2⟩
            match l, hm with
            | x :: l, hm => exact hm
          have e2 : gap cm (c :: (l ++ 10 :: b)) = ((gap true (l ++ 10 :: b)).1 + 1, (gap true (l ++ 10 :: b)).2) := by rw [gap, if_neg h10, if_neg hb, if_pos hd']
          rw [List.cons_append, e1, e2]
          refine ⟨fun h => ?_, fun h => ?_⟩
          · simp only [List.length_cons] at h
            rw [ht.1 (by omega)]
          · simp only [List.length_cons] at h
            rw [ht.2 (by omega)]
            simp; omega
        · have e1 : gap cm (c :: l) = (0, 0) := by rw [gap, if_neg h10, if_neg hb, if_neg hd]
          have hd' : ¬ (c.toNat = 47 ∧ ∃ d ∈ (l ++ 10 :: b).head?, d.toNat = 47) := by
            rintro ⟨h1, d, hm, h2⟩
            apply hd
            refine ⟨h1, d, ?_, h2⟩
            match l, hm with
            | [], hm =>
              have : d = 10 := by simpa using hm.symm
              subst this
              exact absurd h2 (by decide)
            | x :: l, hm => exact hm
          have e2 : gap cm (c :: (l ++ 10 :: b)) = (0, 0) := by rw [gap, if_neg h10, if_neg hb, if_neg hd']
          rw [List.cons_append, e1, e2]
          exact ⟨fun _ => rfl, fun h => by simp at h⟩

theorem span_append {p : Nat → Bool} (hp : p 10 = false) (b : List UInt8) : ∀ l : List UInt8, span p (l ++ 10 :: b) = span p l
  | [] => by rw [List.nil_append, span_out _ (by exact hp)]; rfl
  | c :: l => by
    rw [List.cons_append]
    by_cases h : p c.toNat = true
    · rw [span_in _ h, span_in _ h, span_append hp b l]
    · rw [span_out _ (by simpa using h), span_out _ (by simpa using h)]

theorem sign_append (l b : List UInt8) (hl : l ≠ []) : sign (l ++ 10 :: b) = sign l := by
  match l, hl with
  | [c], _ =>
    have h1 : ¬ ([c] ++ 10 :: b).take 2 ∈ twos := by simp [twos]
    have h2 : ¬ ([c] : List UInt8).take 2 ∈ twos := by simp [twos]
    unfold sign
    rw [if_neg h1, if_neg h2]
    rfl
  | c :: d :: l, _ => rfl

theorem fst_append (l b : List UInt8) (hl : l ≠ []) : fst (l ++ 10 :: b) = fst l := by
  match l, hl with
  | c :: l, _ =>
    have hD := span_append (p := isD) (by decide) b (c :: l)
    have hN := span_append (p := isLD) (by decide) b (c :: l)
    have hleD := span_le isD (c :: l)
    have hleN := span_le isLD (c :: l)
    have hS := sign_append (c :: l) b (by simp)
    have h1 : fstNum (c :: l ++ 10 :: b) = fstNum (c :: l) := by
      unfold fstNum
      rw [hD, List.take_append_of_le_length hleD, List.drop_append_of_le_length hleD]
      have hq : (∃ x ∈ ((c :: l).drop (span isD (c :: l)) ++ 10 :: b).head?, isL x.toNat = true) ↔ (∃ x ∈ ((c :: l).drop (span isD (c :: l))).head?, isL x.toNat = true) := by
        cases (c :: l).drop (span isD (c :: l)) with
        | nil => simp; decide
        | cons x m => simp
      simp only [hq]
    have h2 : fstName (c :: l ++ 10 :: b) = fstName (c :: l) := by
      unfold fstName
      rw [hN, List.take_append_of_le_length hleN]
    have h3 : fstSign (c :: l ++ 10 :: b) = fstSign (c :: l) := by
      unfold fstSign
      rw [hS]
    show (if isD c.toNat = true then fstNum (c :: l ++ 10 :: b) else if isL c.toNat = true then fstName (c :: l ++ 10 :: b) else fstSign (c :: l ++ 10 :: b)) = _
    rw [h1, h2, h3]
    rfl

/-- A text that is scanned whole: what was found, then the end; with a second text behind a line feed the scan goes on there. A text that is refused is refused with whatever stands behind. -/
theorem scanF_append (b : List UInt8) : ∀ (f : Nat) (l : List UInt8) (L : Nat) (acc : List Tok), l.length < f →
    ((scanF f l L acc).2.2 = 0 → ∃ acc' M, scanF f l L acc = (acc' ++ [⟨0, M, [], 0⟩], 0, 0) ∧ acc'.length ≤ acc.length + l.length ∧ ∀ g, (l ++ 10 :: b).length < g → scanF g (l ++ 10 :: b) L acc = scanF g b (M + 1) acc') ∧
    ((scanF f l L acc).2.2 ≠ 0 → ∀ g, (l ++ 10 :: b).length < g → (scanF g (l ++ 10 :: b) L acc).2.2 ≠ 0)
  | 0, _, _, _, h => by omega
  | f + 1, l, L, acc, hf => by
    have hga := gap_append l b false
    have hle := (gap_le l false).1
    by_cases hend : l.drop (gap false l).1 = []
    · have hn : (gap false l).1 = l.length := by
        have := congrArg List.length hend
        simp at this; omega
      have hs : scanF (f + 1) l L acc = (acc ++ [⟨0, L + (gap false l).2, [], 0⟩], 0, 0) := by rw [scanF, if_pos hend]
      rw [hs]
      refine ⟨fun _ => ⟨acc, L + (gap false l).2, rfl, by omega, fun g hg => ?_⟩, fun h => absurd rfl h⟩
      obtain ⟨g', rfl⟩ : ∃ g', g = g' + 1 := ⟨g - 1, by omega⟩
      have hd : (l ++ 10 :: b).drop (l.length + 1 + (gap false b).1) = b.drop (gap false b).1 := by
        rw [Nat.add_assoc, ← List.drop_drop, List.drop_append_of_le_length (Nat.le_refl _), List.drop_length, List.nil_append, Nat.add_comm 1, List.drop_succ_cons]
      rw [scanF, scanF, hga.2 hn]
      simp only [hd]
      rw [show L + ((gap false l).2 + 1 + (gap false b).2) = L + (gap false l).2 + 1 + (gap false b).2 from by omega]
    · have hn : (gap false l).1 < l.length := by
        rcases Nat.lt_or_eq_of_le hle with h | h
        · exact h
        · exact absurd (by rw [h]; simp) hend
      have hg1 := hga.1 hn
      have hd1 : (l ++ 10 :: b).drop (gap false l).1 = l.drop (gap false l).1 ++ 10 :: b := List.drop_append_of_le_length hle
      have hft := fst_append (l.drop (gap false l).1) b hend
      have hne : ¬ (l.drop (gap false l).1 ++ 10 :: b) = [] := by simp
      have big : ∀ g, scanF (g + 1) (l ++ 10 :: b) L acc = if (fst (l.drop (gap false l).1)).err ≠ 0 then ([], L + (gap false l).2, (fst (l.drop (gap false l).1)).err) else if acc.length = 2000 then ([], L + (gap false l).2, 5) else
          scanF g ((l.drop (gap false l).1 ++ 10 :: b).drop (fst (l.drop (gap false l).1)).size) (L + (gap false l).2) (acc ++ [⟨(fst (l.drop (gap false l).1)).kind, L + (gap false l).2, (fst (l.drop (gap false l).1)).text, (fst (l.drop (gap false l).1)).num⟩]) := fun g => by
        rw [scanF, hg1, hd1, hft, if_neg hne]
      have small : scanF (f + 1) l L acc = if (fst (l.drop (gap false l).1)).err ≠ 0 then ([], L + (gap false l).2, (fst (l.drop (gap false l).1)).err) else if acc.length = 2000 then ([], L + (gap false l).2, 5) else
          scanF f ((l.drop (gap false l).1).drop (fst (l.drop (gap false l).1)).size) (L + (gap false l).2) (acc ++ [⟨(fst (l.drop (gap false l).1)).kind, L + (gap false l).2, (fst (l.drop (gap false l).1)).text, (fst (l.drop (gap false l).1)).num⟩]) := by
        rw [scanF, if_neg hend]
      by_cases he : (fst (l.drop (gap false l).1)).err ≠ 0
      · rw [small, if_pos he]
        refine ⟨fun h => absurd h he, fun _ g hg => ?_⟩
        obtain ⟨g', rfl⟩ : ∃ g', g = g' + 1 := ⟨g - 1, by omega⟩
        rw [big, if_pos he]; exact he
      · by_cases hfull : acc.length = 2000
        · rw [small, if_neg he, if_pos hfull]
          refine ⟨fun h => absurd h (by simp), fun _ g hg => ?_⟩
          obtain ⟨g', rfl⟩ : ∃ g', g = g' + 1 := ⟨g - 1, by omega⟩
          rw [big, if_neg he, if_pos hfull]; simp
        · have hsz := fst_size (l.drop (gap false l).1) (by simpa using he)
          have hlen : ((l.drop (gap false l).1).drop (fst (l.drop (gap false l).1)).size).length < l.length := by
            simp only [List.length_drop] at hsz ⊢; omega
          have hdd : (l.drop (gap false l).1 ++ 10 :: b).drop (fst (l.drop (gap false l).1)).size = (l.drop (gap false l).1).drop (fst (l.drop (gap false l).1)).size ++ 10 :: b := List.drop_append_of_le_length hsz.2
          have ih := scanF_append b f ((l.drop (gap false l).1).drop (fst (l.drop (gap false l).1)).size) (L + (gap false l).2) (acc ++ [⟨(fst (l.drop (gap false l).1)).kind, L + (gap false l).2, (fst (l.drop (gap false l).1)).text, (fst (l.drop (gap false l).1)).num⟩]) (by omega)
          have hlb : ((l.drop (gap false l).1).drop (fst (l.drop (gap false l).1)).size ++ 10 :: b).length < (l ++ 10 :: b).length := by
            simp only [List.length_append]; omega
          rw [small, if_neg he, if_neg hfull]
          refine ⟨fun h => ?_, fun h g hg => ?_⟩
          · obtain ⟨acc', M, h1, h2, h3⟩ := ih.1 h
            refine ⟨acc', M, h1, ?_, fun g hg => ?_⟩
            · simp only [List.length_append, List.length_cons, List.length_nil] at h2; omega
            · obtain ⟨g', rfl⟩ : ∃ g', g = g' + 1 := ⟨g - 1, by omega⟩
              rw [big, if_neg he, if_neg hfull, hdd, h3 g' (by omega)]
              have hbl : b.length < g' := by simp only [List.length_append, List.length_cons] at hg; omega
              exact scanF_fuel g' (g' + 1) b _ _ hbl (by omega)
          · obtain ⟨g', rfl⟩ : ∃ g', g = g' + 1 := ⟨g - 1, by omega⟩
            rw [big, if_neg he, if_neg hfull, hdd]
            exact ih.2 h g' (by omega)

/-- A token some lines later. -/
def later (d : Nat) (t : Tok) : Tok := { t with line := t.line + d }
theorem scanF_later (d : Nat) (pre : List Tok) : ∀ (f : Nat) (l : List UInt8) (L : Nat) (acc : List Tok), l.length < f → pre.length + acc.length + l.length ≤ 2000 →
    ((scanF f l L acc).2.2 = 0 → scanF f l (L + d) (pre ++ acc.map (later d)) = (pre ++ (scanF f l L acc).1.map (later d), 0, 0)) ∧
    ((scanF f l L acc).2.2 ≠ 0 → scanF f l (L + d) (pre ++ acc.map (later d)) = ([], (scanF f l L acc).2.1 + d, (scanF f l L acc).2.2))
  | 0, _, _, _, h, _ => by omega
  | f + 1, l, L, acc, hf, hroom => by
    have hle := (gap_le l false).1
    have hadd : L + d + (gap false l).2 = L + (gap false l).2 + d := by omega
    by_cases hend : l.drop (gap false l).1 = []
    · have hs : ∀ L acc, scanF (f + 1) l L acc = (acc ++ [⟨0, L + (gap false l).2, [], 0⟩], 0, 0) := fun L acc => by rw [scanF, if_pos hend]
      rw [hs, hs, hadd]
      exact ⟨fun _ => by simp [later], fun h => absurd rfl h⟩
    · have small : ∀ L acc, scanF (f + 1) l L acc = if (fst (l.drop (gap false l).1)).err ≠ 0 then ([], L + (gap false l).2, (fst (l.drop (gap false l).1)).err) else if acc.length = 2000 then ([], L + (gap false l).2, 5) else
          scanF f ((l.drop (gap false l).1).drop (fst (l.drop (gap false l).1)).size) (L + (gap false l).2) (acc ++ [⟨(fst (l.drop (gap false l).1)).kind, L + (gap false l).2, (fst (l.drop (gap false l).1)).text, (fst (l.drop (gap false l).1)).num⟩]) := fun L acc => by
        rw [scanF, if_neg hend]
      have hn : (gap false l).1 < l.length := by
        rcases Nat.lt_or_eq_of_le hle with h | h
        · exact h
        · exact absurd (by rw [h]; simp) hend
      rw [small, small, hadd]
      by_cases he : (fst (l.drop (gap false l).1)).err ≠ 0
      · rw [if_pos he, if_pos he]
        exact ⟨fun h => absurd h he, fun _ => rfl⟩
      · have hl1 : ¬ acc.length = 2000 := by omega
        have hl2 : ¬ (pre ++ acc.map (later d)).length = 2000 := by simp; omega
        have hsz := fst_size (l.drop (gap false l).1) (by simpa using he)
        rw [if_neg he, if_neg he, if_neg hl1, if_neg hl2]
        have ih := scanF_later d pre f ((l.drop (gap false l).1).drop (fst (l.drop (gap false l).1)).size) (L + (gap false l).2) (acc ++ [⟨(fst (l.drop (gap false l).1)).kind, L + (gap false l).2, (fst (l.drop (gap false l).1)).text, (fst (l.drop (gap false l).1)).num⟩]) (by simp only [List.length_drop] at *; omega) (by simp only [List.length_drop, List.length_append, List.length_cons, List.length_nil] at *; omega)
        have hmap : pre ++ (acc ++ [(⟨(fst (l.drop (gap false l).1)).kind, L + (gap false l).2, (fst (l.drop (gap false l).1)).text, (fst (l.drop (gap false l).1)).num⟩ : Tok)]).map (later d) = pre ++ acc.map (later d) ++ [⟨(fst (l.drop (gap false l).1)).kind, L + (gap false l).2 + d, (fst (l.drop (gap false l).1)).text, (fst (l.drop (gap false l).1)).num⟩] := by
          simp [later]
        rw [hmap] at ih
        exact ih

/-- The two texts. -/
theorem scan_join (a b : List UInt8) (h : a.length + b.length ≤ 2000) :
    ((scan a).2.2 ≠ 0 → (scan (a ++ 10 :: b)).2.2 ≠ 0) ∧
    ((scan a).2.2 = 0 → ∃ acc M, scan a = (acc ++ [⟨0, M, [], 0⟩], 0, 0) ∧
      ((scan b).2.2 ≠ 0 → scan (a ++ 10 :: b) = ([], (scan b).2.1 + M, (scan b).2.2)) ∧
      ((scan b).2.2 = 0 → scan (a ++ 10 :: b) = (acc ++ (scan b).1.map (later M), 0, 0))) := by
  have ha : scan a = scanF (a.length + 1) a 1 [] := by unfold scan; rw [if_neg (by omega)]
  have hb : scan b = scanF (b.length + 1) b 1 [] := by unfold scan; rw [if_neg (by omega)]
  have hab : scan (a ++ 10 :: b) = scanF ((a ++ 10 :: b).length + 1) (a ++ 10 :: b) 1 [] := by unfold scan; rw [if_neg (by simp; omega)]
  have hA := scanF_append b (a.length + 1) a 1 [] (by omega)
  rw [← ha] at hA
  refine ⟨fun he => by rw [hab]; exact hA.2 he _ (by omega), fun he => ?_⟩
  obtain ⟨acc, M, h1, h2, h3⟩ := hA.1 he
  have hgo := h3 ((a ++ 10 :: b).length + 1) (by omega)
  rw [← hab] at hgo
  simp only [List.length_nil, Nat.zero_add] at h2
  have hbl : b.length < (a ++ 10 :: b).length + 1 := by simp only [List.length_append, List.length_cons]; omega
  have hS := scanF_later M acc (b.length + 1) b 1 [] (by omega) (by simp only [List.length_nil]; omega)
  have hfu : scanF ((a ++ 10 :: b).length + 1) b (M + 1) acc = scanF (b.length + 1) b (1 + M) (acc ++ [].map (later M)) := by
    rw [Nat.add_comm 1 M, List.map_nil, List.append_nil]
    exact scanF_fuel _ _ b _ _ hbl (by omega)
  rw [hfu] at hgo
  rw [← hb] at hS
  exact ⟨acc, M, h1, fun hbe => by rw [hgo]; exact hS.2 hbe, fun hbe => by rw [hgo]; exact hS.1 hbe⟩

/-- How far lines and tokens may go. -/
theorem scanF_bounds : ∀ (f : Nat) (l : List UInt8) (L : Nat) (acc : List Tok), (∀ t ∈ acc, t.line ≤ L) →
    (scanF f l L acc).2.1 ≤ L + l.length ∧ (scanF f l L acc).1.length ≤ acc.length + l.length + 1 ∧ ∀ t ∈ (scanF f l L acc).1, t.line ≤ L + l.length
  | 0, l, L, acc, _ => by simp [scanF]
  | f + 1, l, L, acc, hacc => by
    have hle := gap_le l false
    rw [scanF]
    split
    · refine ⟨by simp, by simp, fun t ht => ?_⟩
      rcases List.mem_append.1 ht with h | h
      · have := hacc t h; omega
      · obtain rfl := List.mem_singleton.1 h
        show L + _ ≤ _; omega
    · split
      · exact ⟨by simp only; omega, by simp, fun t ht => by simp at ht⟩
      · split
        · exact ⟨by simp only; omega, by simp, fun t ht => by simp at ht⟩
        · rename_i h1 h2 h3
          have hsz := fst_size (l.drop (gap false l).1) (by simpa using h2)
          have ih := scanF_bounds f ((l.drop (gap false l).1).drop (fst (l.drop (gap false l).1)).size) (L + (gap false l).2) (acc ++ [⟨(fst (l.drop (gap false l).1)).kind, L + (gap false l).2, (fst (l.drop (gap false l).1)).text, (fst (l.drop (gap false l).1)).num⟩]) (fun t ht => by
            rcases List.mem_append.1 ht with h | h
            · have := hacc t h; omega
            · obtain rfl := List.mem_singleton.1 h
              exact Nat.le_refl _)
          simp only [List.length_drop, List.length_append, List.length_cons, List.length_nil] at ih hsz
          refine ⟨by omega, by omega, fun t ht => ?_⟩
          have := ih.2.2 t ht
          omega
theorem scan_bounds (l : List UInt8) : (scan l).2.1 ≤ l.length + 1 ∧ (scan l).1.length ≤ l.length + 1 ∧ ∀ t ∈ (scan l).1, t.line ≤ l.length + 1 := by
  unfold scan
  split
  · exact ⟨by simp, by simp, fun t ht => by simp at ht⟩
  · have h := scanF_bounds (l.length + 1) l 1 [] (fun t ht => by simp at ht)
    simp only [List.length_nil, Nat.zero_add] at h
    exact ⟨by omega, by omega, fun t ht => by have := h.2.2 t ht; omega⟩

/-- Where nothing is wrong the line of the error is 0. -/
theorem scanF_ok : ∀ (f : Nat) (l : List UInt8) (L : Nat) (acc : List Tok), (scanF f l L acc).2.2 = 0 → (scanF f l L acc).2.1 = 0
  | 0, l, L, acc => fun _ => rfl
  | f + 1, l, L, acc => by
    rw [scanF]
    split
    · exact fun _ => rfl
    · split
      · rename_i h; exact fun h' => absurd h' h
      · split
        · exact fun h' => by simp at h'
        · exact scanF_ok f _ _ _
theorem scan_ok {l : List UInt8} {Y : List Tok} {ln : Nat} (h : scan l = (Y, ln, 0)) : ln = 0 := by
  unfold scan at h
  split at h
  · injection h with _ h; injection h with _ h; cases h
  · have := scanF_ok (l.length + 1) l 1 []
    rw [h] at this
    exact this rfl
end Go.Proofs.YtbkmpamcelphgaaDoor
