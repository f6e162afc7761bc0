/-
  Plain lists: the tokens of two texts with a line feed between them. No condition. Plain lists: the tokens of texts without comments that stand in one line with blanks between them. No condition. Plain: the tokens of operands and operators, and how two operators of whatever levels are parsed. No condition.
-/
import Derived.Test.YtpfefjfpnmchcaaDoorZLx
import Derived.Test.YtpfefjfpnmchcaaDoorZMd
namespace Go.Proofs.YtpfefjfpnmchcaaDoor

theorem gap_append : ∀ (l b : List UInt8) (cm : Bool), ((gap cm l).1 < l.length → gap cm (l ++ 10 :: b) = gap cm l) ∧ ((gap cm l).1 = l.length → gap cm (l ++ 10 :: b) = (l.length + 1 + (gap false b).1, (gap cm l).2 + 1 + (gap false b).2))
  | [], b, cm => by
    refine ⟨fun h => by rw [gap_nil] at h; simp at h, fun _ => ?_⟩
    rw [List.nil_append, gap_feed cm b (by rfl), gap_nil]
    simp; omega
  | c :: l, b, cm => by
    have hf := gap_append l b false
    have ht := gap_append l b true
    have hc := gap_append l b cm
    by_cases h10 : c.toNat = 10
    · rw [List.cons_append, gap_feed cm _ h10, gap_feed cm _ h10]
      refine ⟨fun h => ?_, fun h => ?_⟩
      · simp only [List.length_cons] at h
        rw [hf.1 (by omega)]
      · simp only [List.length_cons] at h
        rw [hf.2 (by omega)]
        simp; omega
    · by_cases hb : cm = true ∨ c.toNat = 32 ∨ c.toNat = 9 ∨ c.toNat = 13
      · have e1 : ∀ m, gap cm (c :: m) = ((gap cm m).1 + 1, (gap cm m).2) := fun m => by rw [gap, if_neg h10, if_pos hb]
        rw [List.cons_append, e1, e1]
        refine ⟨fun h => ?_, fun h => ?_⟩
        · simp only [List.length_cons] at h
          rw [hc.1 (by omega)]
        · simp only [List.length_cons] at h
          rw [hc.2 (by omega)]
          simp; omega
      · by_cases hd : c.toNat = 47 ∧ ∃ d ∈ l.head?, d.toNat = 47
        · have e1 : gap cm (c :: l) = ((gap true l).1 + 1, (gap true l).2) := by rw [gap, if_neg h10, if_neg hb, if_pos hd]
          have hd' : c.toNat = 47 ∧ ∃ d ∈ (l ++ 10 :: b).head?, d.toNat = 47 := by
            obtain ⟨h1, d, hm, h2⟩ := hd
            refine ⟨h1, d, ?_, h2⟩
            match l, hm with
            | x :: l, hm => exact hm
          have e2 : gap cm (c :: (l ++ 10 :: b)) = ((gap true (l ++ 10 :: b)).1 + 1, (gap true (l ++ 10 :: b)).2) := by rw [gap, if_neg h10, if_neg hb, if_pos hd']
          rw [List.cons_append, e1, e2]
          refine ⟨fun h => ?_, fun h => ?_⟩
          · simp only [List.length_cons] at h
            rw [ht.1 (by omega)]
          · simp only [List.length_cons] at h
            rw [ht.2 (by omega)]
            simp; omega
        · have e1 : gap cm (c :: l) = (0, 0) := by rw [gap, if_neg h10, if_neg hb, if_neg hd]
          have hd' : ¬ (c.toNat = 47 ∧ ∃ d ∈ (l ++ 10 :: b).head?, d.toNat = 47) := by
            rintro ⟨h1, d, hm, h2⟩
            apply hd
            refine ⟨h1, d, ?_, h2⟩
            match l, hm with
            | [], hm =>
              have : d = 10 := by simpa using hm.symm
              subst this
              exact absurd h2 (by decide)
            | x :: l, hm => exact hm
          have e2 : gap cm (c :: (l ++ 10 :: b)) = (0, 0) := by rw [gap, if_neg h10, if_neg hb, if_neg hd']
          rw [List.cons_append, e1, e2]
          exact ⟨fun _ => rfl, fun h => by simp at h⟩

theorem span_append {p : Nat → Bool} (hp : p 10 = false) (b : List UInt8) : ∀ l : List UInt8, span p (l ++ 10 :: b) = span p l
  | [] => by rw [List.nil_append, span_out _ (by exact hp)]; rfl
  | c :: l => by
    rw [List.cons_append]
    by_cases h : p c.toNat = true
    · rw [span_in _ h, span_in _ h, span_append hp b l]
    · rw [span_out _ (by simpa using h), span_out _ (by simpa using h)]

theorem sign_append (l b : List UInt8) (hl : l ≠ []) : sign (l ++ 10 :: b) = sign l := by
  match l, hl with
  | [c], _ =>
    have h1 : ¬ ([c] ++ 10 :: b).take 2 ∈ twos := by simp [twos]
    have h2 : ¬ ([c] : List UInt8).take 2 ∈ twos := by simp [twos]
    unfold sign
    rw [if_neg h1, if_neg h2]
    rfl
  | c :: d :: l, _ => rfl

theorem fst_append (l b : List UInt8) (hl : l ≠ []) : fst (l ++ 10 :: b) = fst l := by
  match l, hl with
  | c :: l, _ =>
    have hD := span_append (p := isD) (by decide) b (c :: l)
    have hN := span_append (p := isLD) (by decide) b (c :: l)
    have hleD := span_le isD (c :: l)
    have hleN := span_le isLD (c :: l)
    have hS := sign_append (c :: l) b (by simp)
    have h1 : fstNum (c :: l ++ 10 :: b) = fstNum (c :: l) := by
      unfold fstNum
      rw [hD, List.take_append_of_le_length hleD, List.drop_append_of_le_length hleD]
      have hq : (∃ x ∈ ((c :: l).drop (span isD (c :: l)) ++ 10 :: b).head?, isL x.toNat = true) ↔ (∃ x ∈ ((c :: l).drop (span isD (c :: l))).head?, isL x.toNat = true) := by
        cases (c :: l).drop (span isD (c :: l)) with
        | nil => simp; decide
        | cons x m => simp
      simp only [hq]
    have h2 : fstName (c :: l ++ 10 :: b) = fstName (c :: l) := by
      unfold fstName
      rw [hN, List.take_append_of_le_length hleN]
    have h3 : fstSign (c :: l ++ 10 :: b) = fstSign (c :: l) := by
      unfold fstSign
      rw [hS]
    show (if isD c.toNat = true then fstNum (c :: l ++ 10 :: b) else if isL c.toNat = true then fstName (c :: l ++ 10 :: b) else fstSign (c :: l ++ 10 :: b)) = _
    rw [h1, h2, h3]
    rfl

/-- A text that is scanned whole: what was found, then the end; with a second text behind a line feed the scan goes on there. A text that is refused is refused with whatever stands behind. -/
theorem scanF_append (b : List UInt8) : ∀ (f : Nat) (l : List UInt8) (L : Nat) (acc : List Tok), l.length < f →
    ((scanF f l L acc).2.2 = 0 → ∃ acc' M, scanF f l L acc = (acc' ++ [⟨0, M, [], 0⟩], 0, 0) ∧ acc'.length ≤ acc.length + l.length ∧ ∀ g, (l ++ 10 :: b).length < g → scanF g (l ++ 10 :: b) L acc = scanF g b (M + 1) acc') ∧
    ((scanF f l L acc).2.2 ≠ 0 → ∀ g, (l ++ 10 :: b).length < g → (scanF g (l ++ 10 :: b) L acc).2.2 ≠ 0)
  | 0, _, _, _, h => by omega
  | f + 1, l, L, acc, hf => by
    have hga := gap_append l b false
    have hle := (gap_le l false).1
    by_cases hend : l.drop (gap false l).1 = []
    · have hn : (gap false l).1 = l.length := by
        have := congrArg List.length hend
        simp at this; omega
      have hs : scanF (f + 1) l L acc = (acc ++ [⟨0, L + (gap false l).2, [], 0⟩], 0, 0) := by rw [scanF, if_pos hend]
      rw [hs]
      refine ⟨fun _ => ⟨acc, L + (gap false l).2, rfl, by omega, fun g hg => ?_⟩, fun h => absurd rfl h⟩
      obtain ⟨g', rfl⟩ : ∃ g', g = g' + 1 := ⟨g - 1, by omega⟩
      have hd : (l ++ 10 :: b).drop (l.length + 1 + (gap false b).1) = b.drop (gap false b).1 := by
        rw [Nat.add_assoc, ← List.drop_drop, List.drop_append_of_le_length (Nat.le_refl _), List.drop_length, List.nil_append, Nat.add_comm 1, List.drop_succ_cons]
      rw [scanF, scanF, hga.2 hn]
      simp only [hd]
      rw [show L + ((gap false l).2 + 1 + (gap false b).2) = L + (gap false l).2 + 1 + (gap false b).2 from by omega]
    · have hn : (gap false l).1 < l.length := by
        rcases Nat.lt_or_eq_of_le hle with h | h
        · exact h
        · exact absurd (by rw [h]; simp) hend
      have hg1 := hga.1 hn
      have hd1 : (l ++ 10 :: b).drop (gap false l).1 = l.drop (gap false l).1 ++ 10 :: b := List.drop_append_of_le_length hle
      have hft := fst_append (l.drop (gap false l).1) b hend
      have hne : ¬ (l.drop (gap false l).1 ++ 10 :: b) = [] := by simp
      have big : ∀ g, scanF (g + 1) (l ++ 10 :: b) L acc = if (fst (l.drop (gap false l).1)).err ≠ 0 then ([], L + (gap false l).2, (fst (l.drop (gap false l).1)).err) else if acc.length = 2000 then ([], L + (gap false l).2, 5) else
          scanF g ((l.drop (gap false l).1 ++ 10 :: b).drop (fst (l.drop (gap false l).1)).size) (L + (gap false l).2) (acc ++ [⟨(fst (l.drop (gap false l).1)).kind, L + (gap false l).2, (fst (l.drop (gap false l).1)).text, (fst (l.drop (gap false l).1)).num⟩]) := fun g => by
        rw [scanF, hg1, hd1, hft, if_neg hne]
      have small : scanF (f + 1) l L acc = if (fst (l.drop (gap false l).1)).err ≠ 0 then ([], L + (gap false l).2, (fst (l.drop (gap false l).1)).err) else if acc.length = 2000 then ([], L + (gap false l).2, 5) else
          scanF f ((l.drop (gap false l).1).drop (fst (l.drop (gap false l).1)).size) (L + (gap false l).2) (acc ++ [⟨(fst (l.drop (gap false l).1)).kind, L + (gap false l).2, (fst (l.drop (gap false l).1)).text, (fst (l.drop (gap false l).1)).num⟩]) := by
        rw [scanF, if_neg hend]
      by_cases he : (fst (l.drop (gap false l).1)).err ≠ 0
      · rw [small, if_pos he]
        refine ⟨fun h => absurd h he, fun _ g hg => ?_⟩
        obtain ⟨g', rfl⟩ : ∃ g', g = g' + 1 := ⟨g - 1, by omega⟩
        rw [big, if_pos he]; exact he
      · by_cases hfull : acc.length = 2000
        · rw [small, if_neg he, if_pos hfull]
          refine ⟨fun h => absurd h (by simp), fun _ g hg => ?_⟩
          obtain ⟨g', rfl⟩ : ∃ g', g = g' + 1 := ⟨g - 1, by omega⟩
          rw [big, if_neg he, if_pos hfull]; simp
        · have hsz := fst_size (l.drop (gap false l).1) (by simpa using he)
          have hlen : ((l.drop (gap false l).1).drop (fst (l.drop (gap false l).1)).size).length < l.length := by
            simp only [List.length_drop] at hsz ⊢; omega
          have hdd : (l.drop (gap false l).1 ++ 10 :: b).drop (fst (l.drop (gap false l).1)).size = (l.drop (gap false l).1).drop (fst (l.drop (gap false l).1)).size ++ 10 :: b := List.drop_append_of_le_length hsz.2
          have ih := scanF_append b f ((l.drop (gap false l).1).drop (fst (l.drop (gap false l).1)).size) (L + (gap false l).2) (acc ++ [⟨(fst (l.drop (gap false l).1)).kind, L + (gap false l).2, (fst (l.drop (gap false l).1)).text, (fst (l.drop (gap false l).1)).num⟩]) (by omega)
          have hlb : ((l.drop (gap false l).1).drop (fst (l.drop (gap false l).1)).size ++ 10 :: b).length < (l ++ 10 :: b).length := by
            simp only [List.length_append]; omega
          rw [small, if_neg he, if_neg hfull]
          refine ⟨fun h => ?_, fun h g hg => ?_⟩
          · obtain ⟨acc', M, h1, h2, h3⟩ := ih.1 h
            refine ⟨acc', M, h1, ?_, fun g hg => ?_⟩
            · simp only [List.length_append, List.length_cons, List.length_nil] at h2; omega
            · obtain ⟨g', rfl⟩ : ∃ g', g = g' + 1 := ⟨g - 1, by omega⟩
              rw [big, if_neg he, if_neg hfull, hdd, h3 g' (by omega)]
              have hbl : b.length < g' := by simp only [List.length_append, List.length_cons] at hg; omega
              exact scanF_fuel g' (g' + 1) b _ _ hbl (by omega)
          · obtain ⟨g', rfl⟩ : ∃ g', g = g' + 1 := ⟨g - 1, by omega⟩
            rw [big, if_neg he, if_neg hfull, hdd]
            exact ih.2 h g' (by omega)

/-- A token some lines later. -/
def later (d : Nat) (t : Tok) : Tok := { t with line := t.line + d }
theorem scanF_later (d : Nat) (pre : List Tok) : ∀ (f : Nat) (l : List UInt8) (L : Nat) (acc : List Tok), l.length < f → pre.length + acc.length + l.length ≤ 2000 →
    ((scanF f l L acc).2.2 = 0 → scanF f l (L + d) (pre ++ acc.map (later d)) = (pre ++ (scanF f l L acc).1.map (later d), 0, 0)) ∧
    ((scanF f l L acc).2.2 ≠ 0 → scanF f l (L + d) (pre ++ acc.map (later d)) = ([], (scanF f l L acc).2.1 + d, (scanF f l L acc).2.2))
  | 0, _, _, _, h, _ => by omega
  | f + 1, l, L, acc, hf, hroom => by
    have hle := (gap_le l false).1
    have hadd : L + d + (gap false l).2 = L + (gap false l).2 + d := by omega
    by_cases hend : l.drop (gap false l).1 = []
    · have hs : ∀ L acc, scanF (f + 1) l L acc = (acc ++ [⟨0, L + (gap false l).2, [], 0⟩], 0, 0) := fun L acc => by rw [scanF, if_pos hend]
      rw [hs, hs, hadd]
      exact ⟨fun _ => by simp [later], fun h => absurd rfl h⟩
    · have small : ∀ L acc, scanF (f + 1) l L acc = if (fst (l.drop (gap false l).1)).err ≠ 0 then ([], L + (gap false l).2, (fst (l.drop (gap false l).1)).err) else if acc.length = 2000 then ([], L + (gap false l).2, 5) else
          scanF f ((l.drop (gap false l).1).drop (fst (l.drop (gap false l).1)).size) (L + (gap false l).2) (acc ++ [⟨(fst (l.drop (gap false l).1)).kind, L + (gap false l).2, (fst (l.drop (gap false l).1)).text, (fst (l.drop (gap false l).1)).num⟩]) := fun L acc => by
        rw [scanF, if_neg hend]
      have hn : (gap false l).1 < l.length := by
        rcases Nat.lt_or_eq_of_le hle with h | h
        · exact h
        · exact absurd (by rw [h]; simp) hend
      rw [small, small, hadd]
      by_cases he : (fst (l.drop (gap false l).1)).err ≠ 0
      · rw [if_pos he, if_pos he]
        exact ⟨fun h => absurd h he, fun _ => rfl⟩
      · have hl1 : ¬ acc.length = 2000 := by omega
        have hl2 : ¬ (pre ++ acc.map (later d)).length = 2000 := by simp; omega
        have hsz := fst_size (l.drop (gap false l).1) (by simpa using he)
        rw [if_neg he, if_neg he, if_neg hl1, if_neg hl2]
        have ih := scanF_later d pre f ((l.drop (gap false l).1).drop (fst (l.drop (gap false l).1)).size) (L + (gap false l).2) (acc ++ [⟨(fst (l.drop (gap false l).1)).kind, L + (gap false l).2, (fst (l.drop (gap false l).1)).text, (fst (l.drop (gap false l).1)).num⟩]) (by simp only [List.length_drop] at *; omega) (by simp only [List.length_drop, List.length_append, List.length_cons, List.length_nil] at *; omega)
        have hmap : pre ++ (acc ++ [(⟨(fst (l.drop (gap false l).1)).kind, L + (gap false l).2, (fst (l.drop (gap false l).1)).text, (fst (l.drop (gap false l).1)).num⟩ : Tok)]).map (later d) = pre ++ acc.map (later d) ++ [⟨(fst (l.drop (gap false l).1)).kind, L + (gap false l).2 + d, (fst (l.drop (gap false l).1)).text, (fst (l.drop (gap false l).1)).num⟩] := by
          simp [later]
        rw [hmap] at ih
        exact ih

/-- The two texts. -/
theorem scan_join (a b : List UInt8) (h : a.length + b.length ≤ 2000) :
    ((scan a).2.2 ≠ 0 → (scan (a ++ 10 :: b)).2.2 ≠ 0) ∧
    ((scan a).2.2 = 0 → ∃ acc M, scan a = (acc ++ [⟨0, M, [], 0⟩], 0, 0) ∧
      ((scan b).2.2 ≠ 0 → scan (a ++ 10 :: b) = ([], (scan b).2.1 + M, (scan b).2.2)) ∧
      ((scan b).2.2 = 0 → scan (a ++ 10 :: b) = (acc ++ (scan b).1.map (later M), 0, 0))) := by
  have ha : scan a = scanF (a.length + 1) a 1 [] := by unfold scan; rw [if_neg (by omega)]
  have hb : scan b = scanF (b.length + 1) b 1 [] := by unfold scan; rw [if_neg (by omega)]
  have hab : scan (a ++ 10 :: b) = scanF ((a ++ 10 :: b).length + 1) (a ++ 10 :: b) 1 [] := by unfold scan; rw [if_neg (by simp; omega)]
  have hA := scanF_append b (a.length + 1) a 1 [] (by omega)
  rw [← ha] at hA
  refine ⟨fun he => by rw [hab]; exact hA.2 he _ (by omega), fun he => ?_⟩
  obtain ⟨acc, M, h1, h2, h3⟩ := hA.1 he
  have hgo := h3 ((a ++ 10 :: b).length + 1) (by omega)
  rw [← hab] at hgo
  simp only [List.length_nil, Nat.zero_add] at h2
  have hbl : b.length < (a ++ 10 :: b).length + 1 := by simp only [List.length_append, List.length_cons]; omega
  have hS := scanF_later M acc (b.length + 1) b 1 [] (by omega) (by simp only [List.length_nil]; omega)
  have hfu : scanF ((a ++ 10 :: b).length + 1) b (M + 1) acc = scanF (b.length + 1) b (1 + M) (acc ++ [].map (later M)) := by
    rw [Nat.add_comm 1 M, List.map_nil, List.append_nil]
    exact scanF_fuel _ _ b _ _ hbl (by omega)
  rw [hfu] at hgo
  rw [← hb] at hS
  exact ⟨acc, M, h1, fun hbe => by rw [hgo]; exact hS.2 hbe, fun hbe => by rw [hgo]; exact hS.1 hbe⟩

/-- How far lines and tokens may go. -/
theorem scanF_bounds : ∀ (f : Nat) (l : List UInt8) (L : Nat) (acc : List Tok), (∀ t ∈ acc, t.line ≤ L) →
    (scanF f l L acc).2.1 ≤ L + l.length ∧ (scanF f l L acc).1.length ≤ acc.length + l.length + 1 ∧ ∀ t ∈ (scanF f l L acc).1, t.line ≤ L + l.length
  | 0, l, L, acc, _ => by simp [scanF]
  | f + 1, l, L, acc, hacc => by
    have hle := gap_le l false
    rw [scanF]
    split
    · refine ⟨by simp, by simp, fun t ht => ?_⟩
      rcases List.mem_append.1 ht with h | h
      · have := hacc t h; omega
      · obtain rfl := List.mem_singleton.1 h
        show L + _ ≤ _; omega
    · split
      · exact ⟨by simp only; omega, by simp, fun t ht => by simp at ht⟩
      · split
        · exact ⟨by simp only; omega, by simp, fun t ht => by simp at ht⟩
        · rename_i h1 h2 h3
          have hsz := fst_size (l.drop (gap false l).1) (by simpa using h2)
          have ih := scanF_bounds f ((l.drop (gap false l).1).drop (fst (l.drop (gap false l).1)).size) (L + (gap false l).2) (acc ++ [⟨(fst (l.drop (gap false l).1)).kind, L + (gap false l).2, (fst (l.drop (gap false l).1)).text, (fst (l.drop (gap false l).1)).num⟩]) (fun t ht => by
            rcases List.mem_append.1 ht with h | h
            · have := hacc t h; omega
            · obtain rfl := List.mem_singleton.1 h
              exact Nat.le_refl _)
          simp only [List.length_drop, List.length_append, List.length_cons, List.length_nil] at ih hsz
          refine ⟨by omega, by omega, fun t ht => ?_⟩
          have := ih.2.2 t ht
          omega
theorem scan_bounds (l : List UInt8) : (scan l).2.1 ≤ l.length + 1 ∧ (scan l).1.length ≤ l.length + 1 ∧ ∀ t ∈ (scan l).1, t.line ≤ l.length + 1 := by
  unfold scan
  split
  · exact ⟨by simp, by simp, fun t ht => by simp at ht⟩
  · have h := scanF_bounds (l.length + 1) l 1 [] (fun t ht => by simp at ht)
    simp only [List.length_nil, Nat.zero_add] at h
    exact ⟨by omega, by omega, fun t ht => by have := h.2.2 t ht; omega⟩

/-- Where nothing is wrong the line of the error is 0. -/
theorem scanF_ok : ∀ (f : Nat) (l : List UInt8) (L : Nat) (acc : List Tok), (scanF f l L acc).2.2 = 0 → (scanF f l L acc).2.1 = 0
  | 0, l, L, acc => fun _ => rfl
  | f + 1, l, L, acc => by
    rw [scanF]
    split
    · exact fun _ => rfl
    · split
      · rename_i h; exact fun h' => absurd h' h
      · split
        · exact fun h' => by simp at h'
        · exact scanF_ok f _ _ _
theorem scan_ok {l : List UInt8} {Y : List Tok} {ln : Nat} (h : scan l = (Y, ln, 0)) : ln = 0 := by
  unfold scan at h
  split at h
  · injection h with _ h; injection h with _ h; cases h
  · have := scanF_ok (l.length + 1) l 1 []
    rw [h] at this
    exact this rfl
end Go.Proofs.YtpfefjfpnmchcaaDoor
namespace Go.Proofs.YtpfefjfpnmchcaaDoor

/-- No two strokes side by side: no comment begins. -/
def noCm : List UInt8 → Bool
  | c :: d :: l => !(c == 47 && d == 47) && noCm (d :: l)
  | _ => true
theorem noCm_tail : ∀ {c : UInt8} {l : List UInt8}, noCm (c :: l) = true → noCm l = true
  | _, [], _ => rfl
  | c, d :: l, h => by
    simp only [noCm, Bool.and_eq_true] at h
    exact h.2
theorem noCm_drop : ∀ (n : Nat) {l : List UInt8}, noCm l = true → noCm (l.drop n) = true
  | 0, l, h => by simpa using h
  | n + 1, [], h => by simpa using h
  | n + 1, c :: l, h => by
    rw [List.drop_succ_cons]
    exact noCm_drop n (noCm_tail h)
theorem noCm_append : ∀ {a b : List UInt8}, noCm a = true → noCm b = true → noCm (a ++ 32 :: b) = true
  | [], b, _, hb => by
    cases b with
    | nil => rfl
    | cons d b => rw [List.nil_append, noCm, hb]; rfl
  | [c], b, _, hb => by
    have := noCm_append (a := []) rfl hb
    rw [List.nil_append] at this
    show noCm (c :: 32 :: b) = true
    rw [noCm, this]
    simp
  | c :: d :: a, b, ha, hb => by
    have h2 := noCm_append (a := d :: a) (noCm_tail ha) hb
    simp only [noCm, Bool.and_eq_true] at ha
    show noCm (c :: d :: (a ++ 32 :: b)) = true
    rw [noCm, show noCm (d :: (a ++ 32 :: b)) = true from h2, ha.1]
    rfl

theorem noCm_not {c : UInt8} {l : List UInt8} (h : noCm (c :: l) = true) : ¬ (c.toNat = 47 ∧ ∃ d ∈ l.head?, d.toNat = 47) := by
  rintro ⟨h1, d, hd, h2⟩
  match l, hd with
  | x :: l, hd =>
    have : x = d := by simpa using hd
    subst this
    simp only [noCm, Bool.and_eq_true, Bool.not_eq_true', Bool.and_eq_false_imp, beq_iff_eq] at h
    have hc : c = 47 := UInt8.toNat_inj.1 h1
    have hx : x = 47 := UInt8.toNat_inj.1 h2
    have := h.1 hc
    simp [hx] at this

theorem gap_blanked : ∀ (l b : List UInt8), noCm l = true → ((gap false l).1 < l.length → gap false (l ++ 32 :: b) = gap false l) ∧ ((gap false l).1 = l.length → gap false (l ++ 32 :: b) = (l.length + 1 + (gap false b).1, (gap false l).2 + (gap false b).2))
  | [], b, _ => by
    refine ⟨fun h => by rw [gap_nil] at h; simp at h, fun _ => ?_⟩
    rw [List.nil_append, gap_blank false b (by left; rfl), gap_nil]
    simp; omega
  | c :: l, b, hn => by
    have hf := gap_blanked l b (noCm_tail hn)
    by_cases h10 : c.toNat = 10
    · rw [List.cons_append, gap_feed false _ h10, gap_feed false _ h10]
      refine ⟨fun h => ?_, fun h => ?_⟩
      · simp only [List.length_cons] at h
        rw [hf.1 (by omega)]
      · simp only [List.length_cons] at h
        rw [hf.2 (by omega)]
        simp; omega
    · by_cases hb : c.toNat = 32 ∨ c.toNat = 9 ∨ c.toNat = 13
      · have e1 : ∀ m, gap false (c :: m) = ((gap false m).1 + 1, (gap false m).2) := fun m => gap_blank false m hb
        rw [List.cons_append, e1, e1]
        refine ⟨fun h => ?_, fun h => ?_⟩
        · simp only [List.length_cons] at h
          rw [hf.1 (by omega)]
        · simp only [List.length_cons] at h
          rw [hf.2 (by omega)]
          simp; omega
      · have hd := noCm_not hn
        have e1 : gap false (c :: l) = (0, 0) := by rw [gap, if_neg h10, if_neg (by simpa using hb), if_neg hd]
        have hd' : ¬ (c.toNat = 47 ∧ ∃ d ∈ (l ++ 32 :: b).head?, d.toNat = 47) := by
          rintro ⟨h1, d, hm, h2⟩
          apply hd
          refine ⟨h1, d, ?_, h2⟩
          match l, hm with
          | [], hm =>
            have : d = 32 := by simpa using hm.symm
            subst this
            exact absurd h2 (by decide)
          | x :: l, hm => exact hm
        have e2 : gap false (c :: (l ++ 32 :: b)) = (0, 0) := by rw [gap, if_neg h10, if_neg (by simpa using hb), if_neg hd']
        rw [List.cons_append, e1, e2]
        exact ⟨fun _ => rfl, fun h => by simp at h⟩
theorem span_blanked {p : Nat → Bool} (hp : p 32 = false) (b : List UInt8) : ∀ l : List UInt8, span p (l ++ 32 :: b) = span p l
  | [] => by rw [List.nil_append, span_out _ (by exact hp)]; rfl
  | c :: l => by
    rw [List.cons_append]
    by_cases h : p c.toNat = true
    · rw [span_in _ h, span_in _ h, span_blanked hp b l]
    · rw [span_out _ (by simpa using h), span_out _ (by simpa using h)]
theorem sign_blanked (l b : List UInt8) (hl : l ≠ []) : sign (l ++ 32 :: b) = sign l := by
  match l, hl with
  | [c], _ =>
    have h1 : ¬ ([c] ++ 32 :: b).take 2 ∈ twos := by simp [twos]
    have h2 : ¬ ([c] : List UInt8).take 2 ∈ twos := by simp [twos]
    unfold sign
    rw [if_neg h1, if_neg h2]
    rfl
  | c :: d :: l, _ => rfl
theorem fst_blanked (l b : List UInt8) (hl : l ≠ []) : fst (l ++ 32 :: b) = fst l := by
  match l, hl with
  | c :: l, _ =>
    have hD := span_blanked (p := isD) (by decide) b (c :: l)
    have hN := span_blanked (p := isLD) (by decide) b (c :: l)
    have hleD := span_le isD (c :: l)
    have hleN := span_le isLD (c :: l)
    have hS := sign_blanked (c :: l) b (by simp)
    have h1 : fstNum (c :: l ++ 32 :: b) = fstNum (c :: l) := by
      unfold fstNum
      rw [hD, List.take_append_of_le_length hleD, List.drop_append_of_le_length hleD]
      have hq : (∃ x ∈ ((c :: l).drop (span isD (c :: l)) ++ 32 :: b).head?, isL x.toNat = true) ↔ (∃ x ∈ ((c :: l).drop (span isD (c :: l))).head?, isL x.toNat = true) := by
        cases (c :: l).drop (span isD (c :: l)) with
        | nil => simp; decide
        | cons x m => simp
      simp only [hq]
    have h2 : fstName (c :: l ++ 32 :: b) = fstName (c :: l) := by
      unfold fstName
      rw [hN, List.take_append_of_le_length hleN]
    have h3 : fstSign (c :: l ++ 32 :: b) = fstSign (c :: l) := by
      unfold fstSign
      rw [hS]
    show (if isD c.toNat = true then fstNum (c :: l ++ 32 :: b) else if isL c.toNat = true then fstName (c :: l ++ 32 :: b) else fstSign (c :: l ++ 32 :: b)) = _
    rw [h1, h2, h3]
    rfl
/-- A text without comments that is scanned whole: what was found, then the end; with a second text behind a blank the scan goes on there. -/
theorem scanF_blanked (b : List UInt8) : ∀ (f : Nat) (l : List UInt8) (L : Nat) (acc : List Tok), l.length < f → noCm l = true → (scanF f l L acc).2.2 = 0 →
    ∃ acc' M, scanF f l L acc = (acc' ++ [⟨0, M, [], 0⟩], 0, 0) ∧ acc'.length ≤ acc.length + l.length ∧ ∀ g, (l ++ 32 :: b).length < g → scanF g (l ++ 32 :: b) L acc = scanF g b M acc'
  | 0, _, _, _, h, _, _ => by omega
  | f + 1, l, L, acc, hf, hcm, hz => by
    have hga := gap_blanked l b hcm
    have hle := (gap_le l false).1
    by_cases hend : l.drop (gap false l).1 = []
    · have hn : (gap false l).1 = l.length := by
        have := congrArg List.length hend
        simp at this; omega
      have hs : scanF (f + 1) l L acc = (acc ++ [⟨0, L + (gap false l).2, [], 0⟩], 0, 0) := by rw [scanF, if_pos hend]
      rw [hs]
      refine ⟨acc, L + (gap false l).2, rfl, by omega, fun g hg => ?_⟩
      obtain ⟨g', rfl⟩ : ∃ g', g = g' + 1 := ⟨g - 1, by omega⟩
      have hd : (l ++ 32 :: b).drop (l.length + 1 + (gap false b).1) = b.drop (gap false b).1 := by
        rw [Nat.add_assoc, ← List.drop_drop, List.drop_append_of_le_length (Nat.le_refl _), List.drop_length, List.nil_append, Nat.add_comm 1, List.drop_succ_cons]
      rw [scanF, scanF, hga.2 hn]
      simp only [hd]
      rw [show L + ((gap false l).2 + (gap false b).2) = L + (gap false l).2 + (gap false b).2 from by omega]
    · have hn : (gap false l).1 < l.length := by
        rcases Nat.lt_or_eq_of_le hle with h | h
        · exact h
        · exact absurd (by rw [h]; simp) hend
      have hg1 := hga.1 hn
      have hd1 : (l ++ 32 :: b).drop (gap false l).1 = l.drop (gap false l).1 ++ 32 :: b := List.drop_append_of_le_length hle
      have hft := fst_blanked (l.drop (gap false l).1) b hend
      have hne : ¬ (l.drop (gap false l).1 ++ 32 :: b) = [] := by simp
      have big : ∀ g, scanF (g + 1) (l ++ 32 :: b) L acc = if (fst (l.drop (gap false l).1)).err ≠ 0 then ([], L + (gap false l).2, (fst (l.drop (gap false l).1)).err) else if acc.length = 2000 then ([], L + (gap false l).2, 5) else
          scanF g ((l.drop (gap false l).1 ++ 32 :: b).drop (fst (l.drop (gap false l).1)).size) (L + (gap false l).2) (acc ++ [⟨(fst (l.drop (gap false l).1)).kind, L + (gap false l).2, (fst (l.drop (gap false l).1)).text, (fst (l.drop (gap false l).1)).num⟩]) := fun g => by
        rw [scanF, hg1, hd1, hft, if_neg hne]
      have small : scanF (f + 1) l L acc = if (fst (l.drop (gap false l).1)).err ≠ 0 then ([], L + (gap false l).2, (fst (l.drop (gap false l).1)).err) else if acc.length = 2000 then ([], L + (gap false l).2, 5) else
          scanF f ((l.drop (gap false l).1).drop (fst (l.drop (gap false l).1)).size) (L + (gap false l).2) (acc ++ [⟨(fst (l.drop (gap false l).1)).kind, L + (gap false l).2, (fst (l.drop (gap false l).1)).text, (fst (l.drop (gap false l).1)).num⟩]) := by
        rw [scanF, if_neg hend]
      by_cases he : (fst (l.drop (gap false l).1)).err ≠ 0
      · rw [small, if_pos he] at hz
        exact absurd hz he
      · by_cases hfull : acc.length = 2000
        · rw [small, if_neg he, if_pos hfull] at hz
          exact absurd hz (by simp)
        · have hsz := fst_size (l.drop (gap false l).1) (by simpa using he)
          have hlen : ((l.drop (gap false l).1).drop (fst (l.drop (gap false l).1)).size).length < l.length := by
            simp only [List.length_drop] at hsz ⊢; omega
          have hdd : (l.drop (gap false l).1 ++ 32 :: b).drop (fst (l.drop (gap false l).1)).size = (l.drop (gap false l).1).drop (fst (l.drop (gap false l).1)).size ++ 32 :: b := List.drop_append_of_le_length hsz.2
          have hcm2 := noCm_drop (fst (l.drop (gap false l).1)).size (noCm_drop (gap false l).1 hcm)
          rw [small, if_neg he, if_neg hfull] at hz
          obtain ⟨acc', M, h1, h2, h3⟩ := scanF_blanked b f ((l.drop (gap false l).1).drop (fst (l.drop (gap false l).1)).size) (L + (gap false l).2) (acc ++ [⟨(fst (l.drop (gap false l).1)).kind, L + (gap false l).2, (fst (l.drop (gap false l).1)).text, (fst (l.drop (gap false l).1)).num⟩]) (by omega) hcm2 hz
          have hlb : ((l.drop (gap false l).1).drop (fst (l.drop (gap false l).1)).size ++ 32 :: b).length < (l ++ 32 :: b).length := by
            simp only [List.length_append]; omega
          rw [small, if_neg he, if_neg hfull]
          refine ⟨acc', M, h1, ?_, fun g hg => ?_⟩
          · simp only [List.length_append, List.length_cons, List.length_nil] at h2; omega
          · obtain ⟨g', rfl⟩ : ∃ g', g = g' + 1 := ⟨g - 1, by omega⟩
            rw [big, if_neg he, if_neg hfull, hdd, h3 g' (by omega)]
            have hbl : b.length < g' := by simp only [List.length_append, List.length_cons] at hg; omega
            exact scanF_fuel g' (g' + 1) b _ _ hbl (by omega)
/-- A text without comments, of one line, that has these tokens. -/
def Seg (l : List UInt8) (ts : List Tok) : Prop := noCm l = true ∧ l.length ≤ 300 ∧ scanF (l.length + 1) l 1 [] = (ts ++ [⟨0, 1, [], 0⟩], 0, 0)
def segB (l : List UInt8) (ts : List Tok) : Bool := noCm l && (decide (l.length ≤ 300) && decide (scanF (l.length + 1) l 1 [] = (ts ++ [⟨0, 1, [], 0⟩], 0, 0)))
theorem segB_ok {l : List UInt8} {ts : List Tok} (h : segB l ts = true) : Seg l ts := by
  simp only [segB, Bool.and_eq_true, decide_eq_true_eq] at h
  exact h
theorem later_zero (l : List Tok) : l.map (later 0) = l := by
  have : later 0 = id := funext fun t => by cases t; rfl
  rw [this, List.map_id]
theorem Seg.join {a b : List UInt8} {ta tb : List Tok} (ha : Seg a ta) (hb : Seg b tb) (hl : a.length + b.length ≤ 299) : Seg (a ++ 32 :: b) (ta ++ tb) := by
  obtain ⟨a1, a2, a3⟩ := ha
  obtain ⟨b1, b2, b3⟩ := hb
  obtain ⟨acc, M, h1, h2, h3⟩ := scanF_blanked b (a.length + 1) a 1 [] (by omega) a1 (by rw [a3])
  rw [a3] at h1
  have hacc : acc = ta ∧ M = 1 := by
    have h4 := congrArg Prod.fst h1
    have h4' := List.append_inj' h4 rfl
    refine ⟨h4'.1.symm, ?_⟩
    have h5 := h4'.2
    simp at h5
    exact h5.symm
  obtain ⟨rfl, rfl⟩ := hacc
  have hgo := h3 ((a ++ 32 :: b).length + 1) (by omega)
  have hS := (scanF_later 0 acc (b.length + 1) b 1 [] (by omega) (by simp only [List.length_nil] at h2 ⊢; omega)).1 (by rw [b3])
  rw [b3, List.map_nil, List.append_nil, later_zero] at hS
  refine ⟨noCm_append a1 b1, by simp only [List.length_append, List.length_cons]; omega, ?_⟩
  rw [hgo, scanF_fuel _ (b.length + 1) b _ _ (by simp only [List.length_append, List.length_cons]; omega) (by omega), List.append_assoc]
  exact hS
theorem Seg.scan {l : List UInt8} {ts : List Tok} (h : Seg l ts) : scan l = (ts ++ [⟨0, 1, [], 0⟩], 0, 0) := by
  unfold Go.Proofs.YtpfefjfpnmchcaaDoor.scan
  rw [if_neg (by have := h.2.1; omega)]
  exact h.2.2
end Go.Proofs.YtpfefjfpnmchcaaDoor
namespace Go.Proofs.YtpfefjfpnmchcaaDoor

def nmT (x : List UInt8) : Tok := ⟨1, 1, x, 0⟩
def sgT (x : List UInt8) : Tok := ⟨4, 1, x, 0⟩
def opdTs : List (List Tok) := [[nmT [97]], [⟨2, 1, [], 7⟩], [nmT [112], sgT [46], nmT [120]], [nmT [116], sgT [91], nmT [97], sgT [93]], [sgT [45], nmT [97]], [sgT [33], nmT [98]], [sgT [40], nmT [97], sgT [43], nmT [98], sgT [41]], [nmT [116], sgT [91], nmT [97], sgT [60], nmT [98], sgT [93]]]
def opdT (i : Nat) : List Tok := opdTs.getD i []
def vaE (x : List UInt8) : Ex := .mk 1 0 0 x [] []
def opdEs : List Ex := [vaE [97], .mk 0 7 0 [] [] [], .mk 2 0 0 [112] [120] [], .mk 3 0 0 [116] [] [vaE [97]], .mk 4 0 0 [] [] [vaE [97]], .mk 5 0 0 [] [] [vaE [98]], .mk 6 0 0 [] [] [vaE [97], vaE [98]], .mk 3 0 0 [116] [] [.mk 14 0 0 [] [] [vaE [97], vaE [98]]]]
def opdE (i : Nat) : Ex := opdEs.getD i (vaE [])
/-- Tokens with which an operand ends here, whatever it is. -/
def Ends (ts : List Tok) : Prop := (hd ts).text ≠ [46] ∧ (hd ts).text ≠ [91]
/-- Tokens that read as an operand. -/
def UnitOf (N L : Nat) (A : List Tok) (E : Ex) : Prop := ∀ (n lev : Nat) (ts : List Tok), lev ≤ L → Ends ts → unaryP (n + N) lev (A ++ ts) = .ok E ts
theorem UnitOf.more {N L : Nat} {A : List Tok} {E : Ex} (h : UnitOf N L A E) {M K : Nat} (hM : N ≤ M) (hK : K ≤ L) : UnitOf M K A E := fun n lev ts hl he => by
  have := h (n + (M - N)) lev ts (by omega) he
  rwa [show n + (M - N) + N = n + M by omega] at this
theorem hd_cons (t : Tok) (ts : List Tok) : hd (t :: ts) = t := rfl
theorem unit_var (x : List UInt8) : UnitOf 10 8 [nmT x] (vaE x) := by
  intro n lev ts hl ⟨h1, h2⟩
  have h8 : ¬ 8 < lev := by omega
  simp [nmT, vaE, unaryP, targetP, nameP, hd_cons, begins, Res.ok_bind, h1, h2, h8]
/-- What is read at a rank is read at lower ranks, if no operator of these stands behind it. -/
theorem op_up {S : List Tok} {X : Ex} {ts : List Tok} {lev k F : Nat} (hF : 1 ≤ F) (hk : k ≤ 5) (h : ∀ f, F ≤ f → operP f k lev S = .ok X ts) : ∀ d, d + 1 ≤ k → (∀ r, k - d ≤ r → r < k → operAt opers 6 r (hd ts).text = none) → ∀ f, F + d ≤ f → operP f (k - d) lev S = .ok X ts
  | 0, _, _, f, hf => h f hf
  | d + 1, hd, hn, f, hf => by
    obtain ⟨g, rfl⟩ : ∃ g, f = g + 1 := ⟨f - 1, by omega⟩
    obtain ⟨g', rfl⟩ : ∃ g', g = g' + 1 := ⟨g - 1, by omega⟩
    have ih := op_up hF hk h d (by omega) (fun r h1 h2 => hn r (by omega) h2) (g' + 1) (by omega)
    rw [operP, if_neg (by omega), show k - (d + 1) + 1 = k - d by omega, ih, Res.ok_bind, loopP, hn (k - (d + 1)) (Nat.le_refl _) (by omega)]
/-- An operand at any rank. -/
theorem op_unit {N L : Nat} {A : List Tok} {E : Ex} (hU : UnitOf N L A E) {lev : Nat} (hl : lev ≤ L) {ts : List Tok} (he : Ends ts) {r : Nat} (h1 : 1 ≤ r) (h5 : r ≤ 5) (hn : ∀ r', r ≤ r' → r' < 5 → operAt opers 6 r' (hd ts).text = none) : ∀ f, N + 6 ≤ f → operP f r lev (A ++ ts) = .ok E ts := by
  intro f hf
  have h : ∀ f, N + 1 ≤ f → operP f 5 lev (A ++ ts) = .ok E ts := fun f hf => by
    obtain ⟨g, rfl⟩ : ∃ g, f = g + N + 1 := ⟨f - (N + 1), by omega⟩
    rw [operP, if_pos rfl]
    exact hU g lev ts hl he
  have := op_up (by omega) (Nat.le_refl 5) h (5 - r) (by omega) (fun r' h1 h2 => hn r' (by omega) h2) f (by omega)
  rwa [show 5 - (5 - r) = r by omega] at this
/-- A token of an operator: its rank, its number. -/
structure OpOf (o : Tok) (k c : Nat) : Prop where
  at_ : ∀ r, 1 ≤ r → r ≤ 4 → operAt opers 6 r o.text = if r = k then some c else none
  lo : 1 ≤ k
  hi : k ≤ 4
  e1 : o.text ≠ [46]
  e2 : o.text ≠ [91]
theorem OpOf.ends {o : Tok} {k c : Nat} (h : OpOf o k c) (ts : List Tok) : Ends (o :: ts) := ⟨h.e1, h.e2⟩
theorem OpOf.none {o : Tok} {k c : Nat} (h : OpOf o k c) (ts : List Tok) {r : Nat} (h1 : 1 ≤ r) (h4 : r < 5) (hr : r ≠ k) : operAt opers 6 r (hd (o :: ts)).text = none := by
  rw [hd_cons, h.at_ r h1 (by omega), if_neg hr]
def bin (c : Nat) (E F : Ex) : Ex := .mk c 0 0 [] [] [E, F]
theorem loop_go {o : Tok} {k c : Nat} (ho : OpOf o k c) {lev f : Nat} {E F : Ex} {S ts : List Tok} (h : operP f (k + 1) lev S = .ok F ts) : loopP (f + 1) k lev E (o :: S) = if k = 1 then .ok (bin c E F) ts else loopP f k lev (bin c E F) ts := by
  rw [loopP, hd_cons, ho.at_ k ho.lo ho.hi, if_pos rfl]
  dsimp only
  rw [List.tail_cons, h, Res.ok_bind]
  rfl
theorem loop_stop {k lev f : Nat} {E : Ex} {ts : List Tok} (h : operAt opers 6 k (hd ts).text = none) : loopP (f + 1) k lev E ts = .ok E ts := by rw [loopP, h]
theorem op_loop {k lev f : Nat} {E : Ex} {S ts : List Tok} (hk : k ≤ 4) (h : operP f (k + 1) lev S = .ok E ts) : operP (f + 1) k lev S = loopP f k lev E ts := by
  rw [operP, if_neg (by omega), h, Res.ok_bind]
/-- An operation whose operands are read at the next rank, at its own rank. -/
theorem op_bin {o : Tok} {k c : Nat} (ho : OpOf o k c) {lev F0 : Nat} {E F : Ex} {A S ts : List Tok} (hE : ∀ f, F0 ≤ f → operP f (k + 1) lev (A ++ o :: S) = .ok E (o :: S)) (hF : ∀ f, F0 ≤ f → operP f (k + 1) lev S = .ok F ts) (hs : k ≠ 1 → operAt opers 6 k (hd ts).text = none) :
    ∀ f, F0 + 3 ≤ f → operP f k lev (A ++ o :: S) = .ok (bin c E F) ts := by
  intro f hf
  obtain ⟨g, rfl⟩ : ∃ g, f = g + 1 + 1 + 1 := ⟨f - 3, by omega⟩
  rw [op_loop ho.hi (hE (g + 1 + 1) (by omega)), loop_go ho (hF (g + 1) (by omega))]
  split
  · rfl
  · rename_i h1
    exact loop_stop (hs h1)
/-- Tokens behind which nothing of an expression stands. -/
def Stops (ts : List Tok) : Prop := Ends ts ∧ ∀ r, 1 ≤ r → r < 5 → operAt opers 6 r (hd ts).text = none
/-- Two operands, at a rank up to the operator's. -/
theorem op_two {o : Tok} {k c : Nat} (ho : OpOf o k c) {N L lev : Nat} (hl : lev ≤ L) {E F : Ex} {A B ts : List Tok} (hA : UnitOf N L A E) (hB : UnitOf N L B F) (he : Ends ts) {r : Nat} (h1 : 1 ≤ r) (hr : r ≤ k) (hn : ∀ r', r ≤ r' → r' < 5 → operAt opers 6 r' (hd ts).text = none) :
    ∀ f, N + 20 ≤ f → operP f r lev (A ++ o :: (B ++ ts)) = .ok (bin c E F) ts := by
  intro f hf
  have lo := ho.lo
  have hi := ho.hi
  have h := op_bin ho (F0 := N + 6) (op_unit hA hl (ho.ends _) (by omega) (by omega) (fun r' a b => ho.none _ (by omega) b (by omega))) (op_unit hB hl he (r := k + 1) (by omega) (by omega) (fun r' a b => hn r' (by omega) b)) (fun _ => hn k hr (by omega))
  have := op_up (by omega) (by omega) h (k - r) (by omega) (fun r' a b => hn r' (by omega) (by omega)) f (by omega)
  rwa [show k - (k - r) = r by omega] at this
theorem op_sgn {x : Nat} (hx : x < 12) : OpOf (sgT (sgn x)) (lvl x) (6 + x) := by
  rcases (by omega : x = 0 ∨ x = 1 ∨ x = 2 ∨ x = 3 ∨ x = 4 ∨ x = 5 ∨ x = 6 ∨ x = 7 ∨ x = 8 ∨ x = 9 ∨ x = 10 ∨ x = 11) with rfl | rfl | rfl | rfl | rfl | rfl | rfl | rfl | rfl | rfl | rfl | rfl
  all_goals exact ⟨fun r h1 h4 => by rcases (by omega : r = 1 ∨ r = 2 ∨ r = 3 ∨ r = 4) with rfl | rfl | rfl | rfl <;> decide, by decide, by decide, by decide, by decide⟩
theorem stops_close (x : List UInt8) (hx : x = [41] ∨ x = [93] ∨ x = [59]) (ts : List Tok) : Stops (sgT x :: ts) := by
  rcases hx with rfl | rfl | rfl
  all_goals
    refine ⟨⟨fun e => by simp [hd_cons, sgT] at e, fun e => by simp [hd_cons, sgT] at e⟩, fun r h1 h5 => ?_⟩
    rw [hd_cons]
    rcases (by omega : r = 1 ∨ r = 2 ∨ r = 3 ∨ r = 4) with rfl | rfl | rfl | rfl <;> decide
/-- Parentheses around what is read as an expression. -/
theorem unit_paren {N L : Nat} {S : List Tok} {E : Ex} (hL : L ≤ 7) (h : ∀ lev, lev ≤ L + 1 → ∀ ts f, N ≤ f → operP f 1 lev (S ++ sgT [41] :: ts) = .ok E (sgT [41] :: ts)) : UnitOf (N + 1) L (sgT [40] :: (S ++ [sgT [41]])) E := by
  intro n lev ts hl _
  have h8 : ¬ 8 < lev := by omega
  have e : sgT [40] :: (S ++ [sgT [41]]) ++ ts = sgT [40] :: (S ++ sgT [41] :: ts) := by simp
  rw [e, ← Nat.add_assoc, unaryP, hd_cons, List.tail_cons, h (lev + 1) (by omega) ts (n + N) (by omega)]
  simp [sgT, begins, h8, Res.ok_bind, expectP, hd_cons]
theorem paren_two {o : Tok} {k c : Nat} (ho : OpOf o k c) {N L : Nat} (hL : L ≤ 7) {A B : List Tok} {E F : Ex} (hA : UnitOf N (L + 1) A E) (hB : UnitOf N (L + 1) B F) : UnitOf (N + 21) L (sgT [40] :: ((A ++ o :: B) ++ [sgT [41]])) (bin c E F) :=
  unit_paren hL fun lev hl ts f hf => by
    have hs := stops_close [41] (.inl rfl) ts
    have := op_two ho hl hA hB hs.1 (Nat.le_refl 1) ho.lo (fun r a b => hs.2 r a b) f hf
    rwa [List.append_assoc, List.cons_append]
/-- An element whose index is read as an expression. -/
theorem unit_element {N L : Nat} (x : List UInt8) {S : List Tok} {E : Ex} (hL : L ≤ 7) (h : ∀ lev, lev ≤ L + 1 → ∀ ts f, N ≤ f → operP f 1 lev (S ++ sgT [93] :: ts) = .ok E (sgT [93] :: ts)) : UnitOf (N + 2) L (nmT x :: sgT [91] :: (S ++ [sgT [93]])) (.mk 3 0 0 x [] [E]) := by
  intro n lev ts hl _
  have h8 : ¬ 8 < lev := by omega
  have e : nmT x :: sgT [91] :: (S ++ [sgT [93]]) ++ ts = nmT x :: sgT [91] :: (S ++ sgT [93] :: ts) := by simp
  rw [e, ← Nat.add_assoc, unaryP, hd_cons, targetP]
  simp [nmT, sgT, begins, h8, nameP, hd_cons, Res.ok_bind]
  have := h (lev + 1) (by omega) ts (n + N) (by omega)
  simp only [sgT] at this
  rw [this]
  simp [Res.ok_bind, expectP, hd_cons]
theorem unit_opd {i : Nat} (hi : i < 8) : UnitOf 60 7 (opdT i) (opdE i) := by
  rcases (by omega : i = 0 ∨ i = 1 ∨ i = 2 ∨ i = 3 ∨ i = 4 ∨ i = 5 ∨ i = 6 ∨ i = 7) with rfl | rfl | rfl | rfl | rfl | rfl | rfl | rfl
  · exact (unit_var [97]).more (by omega) (by omega)
  · intro n lev ts hl _
    have h8 : ¬ 8 < lev := by omega
    simp [opdT, opdTs, opdE, opdEs, unaryP, hd_cons, begins, h8]
  · intro n lev ts hl _
    have h8 : ¬ 8 < lev := by omega
    simp [opdT, opdTs, opdE, opdEs, nmT, sgT, unaryP, targetP, nameP, hd_cons, begins, Res.ok_bind, h8]
  · refine (unit_element (N := 50) [116] (S := [nmT [97]]) (Nat.le_refl 7) (fun lev hl ts f hf => ?_)).more (by omega) (by omega)
    have hs := stops_close [93] (.inr (.inl rfl)) ts
    exact op_unit (unit_var [97]) hl hs.1 (Nat.le_refl 1) (by omega) (fun r a b => hs.2 r a b) f (by omega)
  · intro n lev ts hl ⟨h1, h2⟩
    have h8 : ¬ 8 < lev := by omega
    have h9 : ¬ 8 < lev + 1 := by omega
    simp [opdT, opdTs, opdE, opdEs, nmT, sgT, vaE, unaryP, targetP, nameP, hd_cons, begins, Res.ok_bind, h8, h9, h1, h2]
  · intro n lev ts hl ⟨h1, h2⟩
    have h8 : ¬ 8 < lev := by omega
    have h9 : ¬ 8 < lev + 1 := by omega
    simp [opdT, opdTs, opdE, opdEs, nmT, sgT, vaE, unaryP, targetP, nameP, hd_cons, begins, Res.ok_bind, h8, h9, h1, h2]
  · exact (paren_two (op_sgn (x := 0) (by omega)) (L := 7) (by omega) (unit_var [97]) (unit_var [98])).more (by omega) (by omega)
  · refine (unit_element (N := 50) [116] (S := [nmT [97]] ++ sgT [60] :: [nmT [98]]) (Nat.le_refl 7) (fun lev hl ts f hf => ?_)).more (by omega) (by omega)
    have hs := stops_close [93] (.inr (.inl rfl)) ts
    exact op_two (op_sgn (x := 8) (by omega)) hl (unit_var [97]) (unit_var [98]) hs.1 (Nat.le_refl 1) (by decide) (fun r a b => hs.2 r a b) f (by omega)
section
variable {o p : Tok} {k l c c' : Nat} {N L lev : Nat} {E F G : Ex} {A B C ts : List Tok}
theorem three_right (ho : OpOf o k c) (hp : OpOf p l c') (hl : lev ≤ L) (hA : UnitOf N L A E) (hB : UnitOf N L B F) (hC : UnitOf N L C G) (hs : Stops ts) (hkl : k < l) : ∀ f, N + 40 ≤ f → operP f 1 lev (A ++ o :: (B ++ p :: (C ++ ts))) = .ok (bin c E (bin c' F G)) ts := by
  intro f hf
  have lo := ho.lo
  have hi := ho.hi
  have h := op_bin ho (F0 := N + 20) (fun f hf => op_unit hA hl (ho.ends (B ++ p :: (C ++ ts))) (r := k + 1) (by omega) (by omega) (fun r' a b => ho.none _ (by omega) b (by omega)) f (by omega)) (op_two hp hl hB hC hs.1 (r := k + 1) (by omega) (by omega) (fun r' a b => hs.2 r' (by omega) b)) (fun _ => hs.2 k lo (by omega))
  have := op_up (by omega) (by omega) h (k - 1) (by omega) (fun r' a b => hs.2 r' (by omega) (by omega)) f (by omega)
  rwa [show k - (k - 1) = 1 by omega] at this
theorem three_left (ho : OpOf o k c) (hp : OpOf p l c') (hl : lev ≤ L) (hA : UnitOf N L A E) (hB : UnitOf N L B F) (hC : UnitOf N L C G) (hs : Stops ts) (hkl : l < k) : ∀ f, N + 40 ≤ f → operP f 1 lev (A ++ o :: (B ++ p :: (C ++ ts))) = .ok (bin c' (bin c E F) G) ts := by
  intro f hf
  have lo := hp.lo
  have hi := hp.hi
  have hi' := ho.hi
  have e : A ++ o :: (B ++ p :: (C ++ ts)) = (A ++ o :: B) ++ p :: (C ++ ts) := by simp
  have h := op_bin hp (F0 := N + 20) (A := A ++ o :: B) (S := C ++ ts) (E := bin c E F) (F := G) (ts := ts) (lev := lev) (fun f hf => by
    rw [← e]
    exact op_two ho hl hA hB (hp.ends (C ++ ts)) (r := l + 1) (by omega) (by omega) (fun r' a b => hp.none _ (by omega) b (by omega)) f (by omega)) (fun f hf => op_unit hC hl hs.1 (by omega) (by omega) (fun r' a b => hs.2 r' (by omega) b) f (by omega)) (fun _ => hs.2 l lo (by omega))
  have := op_up (by omega) (by omega) h (l - 1) (by omega) (fun r' a b => hs.2 r' (by omega) (by omega)) f (by omega)
  rwa [show l - (l - 1) = 1 by omega, ← e] at this
theorem three_same (ho : OpOf o k c) (hp : OpOf p k c') (hl : lev ≤ L) (hA : UnitOf N L A E) (hB : UnitOf N L B F) (hC : UnitOf N L C G) (hs : Stops ts) (hk : k ≠ 1) : ∀ f, N + 40 ≤ f → operP f 1 lev (A ++ o :: (B ++ p :: (C ++ ts))) = .ok (bin c' (bin c E F) G) ts := by
  intro f hf
  have lo := ho.lo
  have hi := ho.hi
  have h : ∀ f, N + 20 ≤ f → operP f k lev (A ++ o :: (B ++ p :: (C ++ ts))) = .ok (bin c' (bin c E F) G) ts := fun f hf => by
    obtain ⟨g, rfl⟩ : ∃ g, f = g + 1 + 1 + 1 + 1 := ⟨f - 4, by omega⟩
    rw [op_loop hi (op_unit hA hl (ho.ends _) (by omega) (by omega) (fun r' a b => ho.none _ (by omega) b (by omega)) (g + 1 + 1 + 1) (by omega)),
      loop_go ho (op_unit hB hl (hp.ends _) (by omega) (by omega) (fun r' a b => hp.none _ (by omega) b (by omega)) (g + 1 + 1) (by omega)), if_neg hk,
      loop_go hp (op_unit hC hl hs.1 (by omega) (by omega) (fun r' a b => hs.2 r' (by omega) b) (g + 1) (by omega)), if_neg hk]
    exact loop_stop (hs.2 k lo (by omega))
  have := op_up (by omega) (by omega) h (k - 1) (by omega) (fun r' a b => hs.2 r' (by omega) (by omega)) f (by omega)
  rwa [show k - (k - 1) = 1 by omega] at this
theorem three_two (ho : OpOf o 1 c) (hp : OpOf p 1 c') (hl : lev ≤ L) (hA : UnitOf N L A E) (hB : UnitOf N L B F) : ∀ f, N + 40 ≤ f → operP f 1 lev (A ++ o :: (B ++ p :: ts)) = .ok (bin c E F) (p :: ts) := by
  intro f hf
  obtain ⟨g, rfl⟩ : ∃ g, f = g + 1 + 1 := ⟨f - 2, by omega⟩
  rw [op_loop (by omega) (op_unit hA hl (ho.ends _) (by omega) (by omega) (fun r' a b => ho.none _ (by omega) b (by omega)) (g + 1) (by omega)),
      loop_go ho (op_unit hB hl (hp.ends _) (by omega) (by omega) (fun r' a b => hp.none _ (by omega) b (by omega)) g (by omega)), if_pos rfl]
end
def prePT : List Tok := [⟨3, 1, [102, 117, 110, 99], 0⟩, nmT [102], sgT [40], sgT [41], sgT [123], ⟨3, 1, [112, 114, 105, 110, 116], 0⟩]
def eofT : Tok := ⟨0, 1, [], 0⟩
/-- The program that prints an expression. -/
def prgOf (E : Ex) : Prg := ⟨[], [⟨[102], 1, [], [.mk 9 1 0 [] [] 0 0 [] [] 0 [E] [] [], .mk 10 1 0 [] [] 0 0 [] [] 0 [] [] []]⟩]⟩
section
variable {R : List Tok} {E : Ex} (m : Nat)
theorem expect_yes {x : List UInt8} {t : Tok} {ts : List Tok} (h : t.text = x) : expectP x (t :: ts) = .ok () ts := by
  unfold expectP
  rw [if_pos (by rw [hd_cons]; exact h)]
  rfl
theorem expect_no {x : List UInt8} {t : Tok} {ts : List Tok} (h : t.text ≠ x) : expectP x (t :: ts) = .err t.line 7 := by
  unfold expectP
  rw [if_neg (by rw [hd_cons]; exact h)]
  rfl
theorem name_yes {t : Tok} {ts : List Tok} (h : t.kind = 1) : nameP (t :: ts) = .ok t.text ts := by
  unfold nameP
  rw [if_pos (by rw [hd_cons]; exact h)]
  rfl
theorem value_yes (n : Nat) {ts : List Tok} (h : operP n 1 0 R = .ok E (sgT [59] :: ts)) : valueP n 9 R = .ok (.mk 9 0 0 [] [] 0 0 [] [] 0 [E] [] []) ts := by
  unfold valueP
  rw [h, Res.ok_bind, expect_yes (by rfl), Res.ok_bind]
  rfl
theorem value_no (n : Nat) {t : Tok} {ts : List Tok} (h : operP n 1 0 R = .ok E (t :: ts)) (ht : t.text ≠ [59]) : valueP n 9 R = .err t.line 7 := by
  unfold valueP
  rw [h, Res.ok_bind, expect_no ht]
  rfl
def printT : Tok := ⟨3, 1, [112, 114, 105, 110, 116], 0⟩
theorem line_print (n nest : Nat) (hn : nest ≤ 8) (b : Blk) : lineP n b nest (printT :: R) = (valueP n 9 R).bind fun s ts' => .ok (s.lined 1) ts' := by
  unfold lineP
  rw [hd_cons, if_neg (by decide), if_neg (by omega)]
  unfold partP
  rw [hd_cons, if_neg (by decide), if_neg (by decide), if_neg (by decide), if_neg (by decide), if_neg (by decide), if_neg (by decide), if_neg (by decide)]
  unfold printP
  rw [expect_yes (by rfl), Res.ok_bind]
  rfl
theorem block_print : blockP (m + 3) 0 (sgT [123] :: printT :: R) = ((valueP (m + 1) 9 R).bind fun s ts' => .ok (s.lined 1) ts').bind fun x ts => stmtsP (m + 1) 1 [x] ts := by
  rw [blockP, expect_yes (by rfl), Res.ok_bind, stmtsP, hd_cons, if_neg (by decide), line_print _ _ (by omega)]
  rfl
theorem prog_pre : progP (m + 4) (prePT ++ R) = (((valueP (m + 1) 9 R).bind fun s ts' => .ok (s.lined 1) ts').bind fun x ts => stmtsP (m + 1) 1 [x] ts).bind fun b ts' =>
    (funsP (m + 3) [⟨[102], 1, [], b.1 ++ [.mk 10 b.2 0 [] [] 0 0 [] [] 0 [] [] []]⟩] ts').bind fun f ts => if (hd ts).kind ≠ 0 then refuse 7 ts else .ok ⟨[], f⟩ ts := by
  unfold progP
  rw [show prePT ++ R = ⟨3, 1, [102, 117, 110, 99], 0⟩ :: nmT [102] :: sgT [40] :: sgT [41] :: sgT [123] :: printT :: R from rfl, recsP, hd_cons, if_neg (by decide), Res.ok_bind, funsP, hd_cons, if_pos (by rfl)]
  unfold funP
  rw [expect_yes (by rfl), Res.ok_bind, name_yes (by rfl), Res.ok_bind, expect_yes (by rfl), Res.ok_bind, hd_cons, if_pos (by rfl), Res.ok_bind, expect_yes (by rfl), Res.ok_bind, block_print, hd_cons]
  cases (valueP (m + 1) 9 R) with
  | ok v ts =>
    simp only [Res.ok_bind]
    cases stmtsP (m + 1) 1 [Sm.lined 1 v] ts with
    | ok b ts' => rfl
    | err l e => rfl
    | out => rfl
  | err l e => rfl
  | out => rfl
theorem prog_value (h : operP (m + 2) 1 0 R = .ok E [sgT [59], sgT [125], eofT]) : progP (m + 5) (prePT ++ R) = .ok (prgOf E) [eofT] := by
  rw [prog_pre (m + 1), value_yes _ h, Res.ok_bind, Res.ok_bind, stmtsP, hd_cons, if_pos (by rfl), Res.ok_bind]
  show (funsP (m + 1 + 3) _ [eofT]).bind _ = _
  rw [funsP, hd_cons, if_neg (by decide), Res.ok_bind, hd_cons, if_neg (by decide)]
  rfl
theorem prog_refused {t : Tok} {ts : List Tok} (h : operP (m + 2) 1 0 R = .ok E (t :: ts)) (ht : t.text ≠ [59]) : progP (m + 5) (prePT ++ R) = .err t.line 7 := by
  rw [prog_pre (m + 1), value_no _ h ht]
  rfl
end
/-- The texts of the law. -/
def gotS (i j c x y : Nat) : List UInt8 := opd i ++ ([32] ++ (sgn x ++ ([32] ++ (opd j ++ (sgn y ++ opd c)))))
def leftS (i j c x y : Nat) : List UInt8 := [40] ++ (opd i ++ ([32] ++ (sgn x ++ ([32] ++ (opd j ++ ([41, 32] ++ (sgn y ++ ([32] ++ opd c))))))))
def rightS (i j c x y : Nat) : List UInt8 := opd i ++ ([32] ++ (sgn x ++ ([32, 40] ++ (opd j ++ ([32] ++ (sgn y ++ ([32] ++ (opd c ++ [41]))))))))
def rng (p : Nat → Bool) (n : Nat) : Bool := (List.range n).all p
theorem rng_ok {p : Nat → Bool} {n : Nat} (h : rng p n = true) {k : Nat} (hk : k < n) : p k = true := (List.all_eq_true.1 h) k (List.mem_range.2 hk)
def pre0 : List UInt8 := [102, 117, 110, 99, 32, 102, 40, 41, 32, 123, 32, 112, 114, 105, 110, 116]
theorem seg_pre : Seg pre0 prePT := segB_ok (by decide +kernel)
theorem seg_end : Seg [125] [sgT [125]] := segB_ok (by decide +kernel)
theorem seg_opd {i : Nat} (hi : i < 8) : Seg (opd i) (opdT i) := segB_ok (rng_ok (p := fun i => segB (opd i) (opdT i)) (n := 8) (by decide +kernel) hi)
theorem seg_sgn {i : Nat} (hi : i < 12) : Seg (sgn i) [sgT (sgn i)] := segB_ok (rng_ok (p := fun i => segB (sgn i) [sgT (sgn i)]) (n := 12) (by decide +kernel) hi)
theorem seg_open {i : Nat} (hi : i < 8) : Seg ([40] ++ opd i) (sgT [40] :: opdT i) := segB_ok (rng_ok (p := fun i => segB ([40] ++ opd i) (sgT [40] :: opdT i)) (n := 8) (by decide +kernel) hi)
theorem seg_shut {i : Nat} (hi : i < 8) : Seg (opd i ++ [41]) (opdT i ++ [sgT [41]]) := segB_ok (rng_ok (p := fun i => segB (opd i ++ [41]) (opdT i ++ [sgT [41]])) (n := 8) (by decide +kernel) hi)
theorem seg_semi {i : Nat} (hi : i < 8) : Seg (opd i ++ [59]) (opdT i ++ [sgT [59]]) := segB_ok (rng_ok (p := fun i => segB (opd i ++ [59]) (opdT i ++ [sgT [59]])) (n := 8) (by decide +kernel) hi)
theorem seg_both {i : Nat} (hi : i < 8) : Seg (opd i ++ [41, 59]) (opdT i ++ [sgT [41], sgT [59]]) := segB_ok (rng_ok (p := fun i => segB (opd i ++ [41, 59]) (opdT i ++ [sgT [41], sgT [59]])) (n := 8) (by decide +kernel) hi)
theorem seg_tail {j y c : Nat} (hj : j < 8) (hy : y < 12) (hc : c < 8) : Seg (opd j ++ (sgn y ++ (opd c ++ [59]))) (opdT j ++ sgT (sgn y) :: (opdT c ++ [sgT [59]])) :=
  segB_ok (rng_ok (rng_ok (rng_ok (p := fun j => rng (fun y => rng (fun c => segB (opd j ++ (sgn y ++ (opd c ++ [59]))) (opdT j ++ sgT (sgn y) :: (opdT c ++ [sgT [59]]))) 8) 12) (n := 8) (by decide +kernel) hj) hy) hc)
end Go.Proofs.YtpfefjfpnmchcaaDoor
