/-
  Tokens in memory: a slice of tokens that reads as a list; the token that a text begins with, in one contract.
-/
import Derived.Test.YtbkmpamcelphgaaDoorFtok
import Derived.Laws.AppendOwn
namespace Go.Proofs.YtbkmpamcelphgaaDoor
open Go.RowKit

theorem tokinfo : (Tryd.prog.info? 36).map (fun i => (i.zero, i.size, i.bytes)) = some (some (.agg #[.int .i64 0, .int .i64 0, .string ⟨#[]⟩, .int .i64 0]), 4, 40) := by kernel_rfl

/-- A token's cells. -/
def Tok.cells (t : Tok) : List Value := [.int .i64 t.kind, .int .i64 t.line, .string ⟨t.text.toArray⟩, .int .i64 t.num]
def tvals (l : List Tok) : List Value := l.flatMap Tok.cells
theorem tvals_append (a b : List Tok) : tvals (a ++ b) = tvals a ++ tvals b := by simp [tvals]
theorem tvals_one (t : Tok) : tvals [t] = t.cells := by simp [tvals]
theorem tvals_length : ∀ l : List Tok, (tvals l).length = l.length * 4
  | [] => rfl
  | t :: l => by
    have := tvals_length l
    simp only [tvals, List.flatMap_cons, List.length_append, List.length_cons] at *
    have h : t.cells.length = 4 := rfl
    omega
theorem tvals_at : ∀ (l : List Tok) (k j : Nat) (t : Tok), l[k]? = some t → j < 4 → (tvals l)[k * 4 + j]? = t.cells[j]?
  | [], k, j, t, h, _ => by simp at h
  | x :: l, 0, j, t, h, hj => by
    obtain rfl : x = t := by simpa using h
    have hl : x.cells.length = 4 := rfl
    simp only [tvals, List.flatMap_cons]
    rw [List.getElem?_append_left (by omega)]
    congr 1; omega
  | x :: l, k + 1, j, t, h, hj => by
    have ih := tvals_at l k j t (by simpa using h) hj
    have hl : x.cells.length = 4 := rfl
    simp only [tvals, List.flatMap_cons] at *
    rw [List.getElem?_append_right (by omega), ← ih]
    congr 1; omega
theorem tok_oneCell (t : Tok) : ∀ u ∈ t.cells, u.oneCell' = true := by
  intro u hu
  simp only [Tok.cells, List.mem_cons, List.not_mem_nil, or_false] at hu
  rcases hu with rfl | rfl | rfl | rfl <;> rfl

/-- The slice value '.slice A l.length c' reads as the tokens l, in blocks below B. -/
structure Toks (w : World) (B : Nat) (A : Option Addr) (c : Nat) (l : List Tok) : Prop where
  len : l.length ≤ c
  cap : c ≤ maxLen
  bare : A = none → c = 0
  at_ : l ≠ [] → ∃ b, A = some ⟨b, 0, none⟩ ∧ b < B ∧ ∀ k t, l[k]? = some t →
    w.cell? ⟨b, k * 4, none⟩ = some (.int .i64 t.kind) ∧ w.cell? ⟨b, k * 4 + 1, none⟩ = some (.int .i64 t.line) ∧ w.cell? ⟨b, k * 4 + 2, none⟩ = some (.string ⟨t.text.toArray⟩) ∧ w.cell? ⟨b, k * 4 + 3, none⟩ = some (.int .i64 t.num)

section
variable {w w' : World} {B c : Nat} {A : Option Addr} {l : List Tok}
theorem Toks.keep {B' : Nat} (h : Toks w B A c l) (hB : B ≤ B') (hk : ∀ p : Addr, p.block < B → w'.cell? p = w.cell? p) : Toks w' B' A c l :=
  ⟨h.len, h.cap, h.bare, fun hl => by
    obtain ⟨b, e, hb, hc⟩ := h.at_ hl
    refine ⟨b, e, by omega, fun k t ht => ?_⟩
    obtain ⟨h1, h2, h3, h4⟩ := hc k t ht
    exact ⟨(hk _ hb).trans h1, (hk _ hb).trans h2, (hk _ hb).trans h3, (hk _ hb).trans h4⟩⟩
theorem Toks.below {B' : Nat} (h : Toks w B A c l) (hb : Below B' w w') (hB : B ≤ B') (hs : B ≤ w'.heap.size) : Toks w' w'.heap.size A c l :=
  h.keep hs fun p hp => hb.cell (by omega)
theorem toks_nil (w : World) (B : Nat) : Toks w B none 0 [] := ⟨by simp, by simp [maxLen], fun _ => rfl, fun h => absurd rfl h⟩
theorem toks_own {base n : Nat} {v : Value} (h : w.ownsRow base 36 4 v n (tvals l)) : ∃ A C, v = .slice A l.length C ∧ n = l.length ∧ Toks w w.heap.size A C l := by
  have hlen := h.1
  rw [tvals_length] at hlen
  have hn : n = l.length := by omega
  subst hn
  rcases h.2 with ⟨hv, hn⟩ | ⟨g, cap, cur, hv, hb, hg, hnc, hcm, hs, ht⟩
  · have : l = [] := List.eq_nil_of_length_eq_zero hn
    subst this
    exact ⟨_, _, hv, rfl, toks_nil _ _⟩
  · refine ⟨_, _, hv, rfl, hnc, hcm, fun h => (by cases h), fun hl => ⟨g, rfl, (Array.getElem?_eq_some_iff.1 hg).1, fun k t hkt => ?_⟩⟩
    have hown : v.ownBlock = some g := by rw [hv]; rfl
    have hc : ∀ j, j < 4 → w.cell? ⟨g, k * 4 + j, none⟩ = t.cells[j]? := fun j hj => by
      have h1 := tvals_at l k j t hkt hj
      have h3 : j < t.cells.length := hj
      have h2 := h.cells hown (k * 4 + j) (t.cells[j]'h3) (by rw [h1, List.getElem?_eq_getElem h3])
      rw [List.getElem?_eq_getElem h3]
      rw [← h2]
      congr 1
      unfold Addr.add
      split <;> simp_all
    exact ⟨hc 0 (by omega), hc 1 (by omega), hc 2 (by omega), hc 3 (by omega)⟩
end

theorem head_zero (s : ByteArray) (hz : 0 < s.size) : ∃ l, s.data.toList = (s[0]'hz) :: l := ⟨_, drop_cons s 0 hz⟩
theorem head_at (s : ByteArray) (n : Nat) : (∀ h : n < s.size, (s.data.toList.drop n).head? = some (s[n]'h)) ∧ (¬ n < s.size → (s.data.toList.drop n).head? = none) := by
  refine ⟨fun h => ?_, fun h => ?_⟩
  · rw [drop_cons s n h]; rfl
  · rw [drop_end s n h]; rfl

/-- The token that a text begins with. -/
theorem ftok_any (s : ByteArray) (b : Nat) (w : World) (hS : SignsAt w) (hW : WordsAt w b) (hz : 0 < s.size) (kd : Nat) (tx : List UInt8) (nm sz er : Nat) (hF : Hid (fst s.data.toList = ⟨kd, tx, nm, sz, er⟩)) :
    Calls Tryd.prog 24 #[.string s, .map (some b)] w fun e w' => e = fstV kd 0 tx nm sz er ∧ Below w.heap.size w w' := by
  obtain ⟨l, hl⟩ := head_zero s hz
  have hF' := hF.out
  have hfd : fst s.data.toList = if isD (s[0]'hz).toNat = true then fstNum s.data.toList else if isL (s[0]'hz).toNat = true then fstName s.data.toList else fstSign s.data.toList := by rw [hl]; rfl
  rw [hfd] at hF'
  by_cases hd : isD (s[0]'hz).toNat = true
  · rw [if_pos hd] at hF'
    refine ftok_digit s b w hz (Lib.hid hd) kd tx nm sz er (Lib.hid fun W => ?_)
    unfold fstNum at hF'
    have hle := span_le isD s.data.toList
    by_cases h18 : 18 < span isD s.data.toList
    · rw [if_pos h18] at hF'
      injection hF' with e1 e2 e3 e4 e5
      subst e1; subst e2; subst e3; subst e4; subst e5
      exact fnum_long s W _ (Lib.hid rfl) h18
    · rw [if_neg h18] at hF'
      by_cases hlt : span isD s.data.toList < s.size
      · have hh := (head_at s (span isD s.data.toList)).1 hlt
        by_cases hlet : isL (s[span isD s.data.toList]'hlt).toNat = true
        · rw [if_pos ⟨_, hh, hlet⟩] at hF'
          injection hF' with e1 e2 e3 e4 e5
          subst e1; subst e2; subst e3; subst e4; subst e5
          exact fnum_bad s W _ (Lib.hid rfl) (by omega) hlt (Lib.hid hlet)
        · rw [if_neg (by rintro ⟨c, hc, hc'⟩; rw [hh] at hc; obtain rfl := Option.some.inj hc; exact hlet hc')] at hF'
          injection hF' with e1 e2 e3 e4 e5
          subst e1; subst e2; subst e3; subst e4; subst e5
          exact fnum_good s W _ (Lib.hid rfl) (by omega) (by omega) (fun _ => Lib.hid (by simpa using hlet)) _ (Lib.hid rfl)
      · have hh := (head_at s (span isD s.data.toList)).2 hlt
        rw [if_neg (by rintro ⟨c, hc, _⟩; rw [hh] at hc; cases hc)] at hF'
        injection hF' with e1 e2 e3 e4 e5
        subst e1; subst e2; subst e3; subst e4; subst e5
        exact fnum_good s W _ (Lib.hid rfl) (by omega) (by simpa using hle) (fun h => absurd h hlt) _ (Lib.hid rfl)
  · rw [if_neg hd] at hF'
    have hd : isD (s[0]'hz).toNat = false := by simpa using hd
    by_cases hlet : isL (s[0]'hz).toNat = true
    · rw [if_pos hlet] at hF'
      refine ftok_name s b w hW hz (Lib.hid hd) (Lib.hid hlet) kd tx nm sz er (Lib.hid fun W hWW => ?_)
      unfold fstName at hF'
      have hle := span_le isLD s.data.toList
      by_cases h12 : 12 < span isLD s.data.toList
      · rw [if_pos h12] at hF'
        injection hF' with e1 e2 e3 e4 e5
        subst e1; subst e2; subst e3; subst e4; subst e5
        exact fname_long s b W _ (Lib.hid rfl) h12
      · rw [if_neg h12] at hF'
        injection hF' with e1 e2 e3 e4 e5
        subst e2; subst e3; subst e4; subst e5
        by_cases hin : s.data.toList.take (span isLD s.data.toList) ∈ words
        · rw [if_pos hin] at e1
          subst e1
          exact fname_word s b W hWW _ (Lib.hid rfl) (by omega) (by simpa using hle) (Lib.hid (decide_eq_true hin)) _ (Lib.hid rfl)
        · rw [if_neg hin] at e1
          subst e1
          exact fname_name s b W hWW _ (Lib.hid rfl) (by omega) (by simpa using hle) (Lib.hid (decide_eq_false hin)) _ (Lib.hid rfl)
    · rw [if_neg hlet] at hF'
      unfold fstSign at hF'
      refine (ftok_sign s b w hS hz (Lib.hid hd) (Lib.hid (by simpa using hlet)) _ (Lib.hid rfl)).mono fun e w' h => ?_
      by_cases hn : sign s.data.toList = []
      · rw [if_pos hn] at hF'
        injection hF' with e1 e2 e3 e4 e5
        subst e1; subst e2; subst e3; subst e4; subst e5
        exact ⟨h.1 hn, h.2.2⟩
      · rw [if_neg hn] at hF'
        injection hF' with e1 e2 e3 e4 e5
        subst e1; subst e2; subst e3; subst e4; subst e5
        exact ⟨h.2.1 hn, h.2.2⟩
end Go.Proofs.YtbkmpamcelphgaaDoor
