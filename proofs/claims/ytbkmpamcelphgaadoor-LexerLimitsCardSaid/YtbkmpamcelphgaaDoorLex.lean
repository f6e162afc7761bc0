/-
  Plain lists: what the text of chapter 2 says of gaps, names, numbers, signs and tokens, as functions of a list of bytes. No condition.
-/
import Init
namespace Go.Proofs.YtbkmpamcelphgaaDoor

def isL (n : Nat) : Bool := decide (97 ≤ n ∧ n ≤ 122 ∨ 65 ≤ n ∧ n ≤ 90 ∨ n = 95)
def isD (n : Nat) : Bool := decide (48 ≤ n ∧ n ≤ 57)
def isLD (n : Nat) : Bool := isL n || isD n

/-- Blanks and comments ahead: how many bytes, how many line feeds; the mark says whether a comment has begun. -/
def gap : Bool → List UInt8 → Nat × Nat
  | _, [] => (0, 0)
  | cm, c :: l =>
    if c.toNat = 10 then ((gap false l).1 + 1, (gap false l).2 + 1)
    else if cm = true ∨ c.toNat = 32 ∨ c.toNat = 9 ∨ c.toNat = 13 then ((gap cm l).1 + 1, (gap cm l).2)
    else if c.toNat = 47 ∧ ∃ d ∈ l.head?, d.toNat = 47 then ((gap true l).1 + 1, (gap true l).2)
    else (0, 0)

theorem gap_nil (cm : Bool) : gap cm [] = (0, 0) := by cases cm <;> rfl
theorem gap_feed (cm : Bool) {c : UInt8} (l : List UInt8) (h : c.toNat = 10) : gap cm (c :: l) = ((gap false l).1 + 1, (gap false l).2 + 1) := by
  rw [gap, if_pos h]
theorem gap_in {c : UInt8} (l : List UInt8) (h : c.toNat ≠ 10) : gap true (c :: l) = ((gap true l).1 + 1, (gap true l).2) := by
  rw [gap, if_neg h, if_pos (.inl rfl)]
theorem gap_blank (cm : Bool) {c : UInt8} (l : List UInt8) (h : c.toNat = 32 ∨ c.toNat = 9 ∨ c.toNat = 13) : gap cm (c :: l) = ((gap cm l).1 + 1, (gap cm l).2) := by
  rw [gap, if_neg (by omega), if_pos (.inr h)]
theorem gap_begin {c d : UInt8} (l : List UInt8) (h : c.toNat = 47) (h' : d.toNat = 47) : gap false (c :: d :: l) = ((gap true (d :: l)).1 + 1, (gap true (d :: l)).2) := by
  rw [gap, if_neg (by omega), if_neg (by simp; omega), if_pos ⟨h, d, rfl, h'⟩]
theorem gap_stop {c : UInt8} (l : List UInt8) (h0 : c.toNat ≠ 10) (h1 : c.toNat ≠ 32) (h2 : c.toNat ≠ 9) (h3 : c.toNat ≠ 13) (h4 : c.toNat = 47 → ∀ d ∈ l.head?, d.toNat ≠ 47) : gap false (c :: l) = (0, 0) := by
  rw [gap, if_neg h0, if_neg (by simp; omega), if_neg]
  rintro ⟨h, d, hd, h'⟩
  exact h4 h d hd h'
theorem gap_le : ∀ (l : List UInt8) (cm : Bool), (gap cm l).1 ≤ l.length ∧ (gap cm l).2 ≤ (gap cm l).1
  | [], cm => by rw [gap_nil]; simp
  | c :: l, cm => by
    have h1 := gap_le l false
    have h2 := gap_le l true
    have h3 := gap_le l cm
    rw [gap]
    split
    · simp; omega
    · split
      · simp; omega
      · split
        · simp; omega
        · simp
/-- Within a comment, bytes that are no line feed are passed. -/
theorem gap_pass : ∀ (n : Nat) (l : List UInt8), n ≤ l.length → (∀ k, (h : k < n) → ∀ c, l[k]? = some c → c.toNat ≠ 10) → gap true l = ((gap true (l.drop n)).1 + n, (gap true (l.drop n)).2)
  | 0, l, _, _ => by simp
  | n + 1, [], h, _ => by simp at h
  | n + 1, c :: l, h, hc => by
    rw [gap_in l (hc 0 (by omega) c rfl), gap_pass n l (by simpa using h) (fun k hk d hd => hc (k + 1) (by omega) d (by simpa using hd))]
    simp; omega
/-- Behind a gap stands nothing, or something that is no gap. -/
theorem gap_behind : ∀ (l : List UInt8) (cm : Bool), gap false (l.drop (gap cm l).1) = (0, 0)
  | [], cm => by simp [gap_nil]
  | c :: l, cm => by
    have h1 := gap_behind l false
    have h2 := gap_behind l true
    have h3 := gap_behind l cm
    by_cases ha : c.toNat = 10
    · rw [gap_feed cm l ha]; simpa using h1
    · by_cases hb : cm = true ∨ c.toNat = 32 ∨ c.toNat = 9 ∨ c.toNat = 13
      · have : gap cm (c :: l) = ((gap cm l).1 + 1, (gap cm l).2) := by rw [gap, if_neg ha, if_pos hb]
        rw [this]; simpa using h3
      · by_cases hd : c.toNat = 47 ∧ ∃ d ∈ l.head?, d.toNat = 47
        · have : gap cm (c :: l) = ((gap true l).1 + 1, (gap true l).2) := by rw [gap, if_neg ha, if_neg hb, if_pos hd]
          rw [this]; simpa using h2
        · have hcm : cm = false := by cases cm <;> simp_all
          subst hcm
          have : gap false (c :: l) = (0, 0) := by rw [gap, if_neg ha, if_neg hb, if_neg hd]
          rw [this]; simpa using this

/-- How many bytes ahead belong. -/
def span (p : Nat → Bool) : List UInt8 → Nat
  | [] => 0
  | c :: l => if p c.toNat then span p l + 1 else 0
theorem span_le (p : Nat → Bool) : ∀ l : List UInt8, span p l ≤ l.length
  | [] => by simp [span]
  | c :: l => by
    have := span_le p l
    rw [span]; split <;> simp; omega
theorem span_in {p : Nat → Bool} {c : UInt8} (l : List UInt8) (h : p c.toNat = true) : span p (c :: l) = span p l + 1 := by rw [span, if_pos h]
theorem span_out {p : Nat → Bool} {c : UInt8} (l : List UInt8) (h : p c.toNat = false) : span p (c :: l) = 0 := by rw [span, if_neg (by simp [h])]
theorem span_all (p : Nat → Bool) : ∀ (l : List UInt8), ∀ c ∈ l.take (span p l), p c.toNat = true
  | [], c, hc => by simp at hc
  | x :: l, c, hc => by
    by_cases h : p x.toNat = true
    · rw [span_in l h] at hc
      simp only [List.take_succ_cons, List.mem_cons] at hc
      rcases hc with rfl | hc
      · exact h
      · exact span_all p l c hc
    · rw [span, if_neg h] at hc; simp at hc

/-- The number that digits say. -/
def numV (l : List UInt8) : Nat := l.foldl (fun n c => 10 * n + (c.toNat - 48)) 0
theorem numV_snoc (l : List UInt8) (c : UInt8) : numV (l ++ [c]) = 10 * numV l + (c.toNat - 48) := by simp [numV, List.foldl_append]
theorem numV_lt : ∀ (n : Nat) (l : List UInt8), l.length = n → (∀ c ∈ l, isD c.toNat = true) → numV l < 10 ^ n
  | 0, l, h, _ => by
    obtain rfl := List.eq_nil_of_length_eq_zero h
    simp [numV]
  | n + 1, l, h, hd => by
    obtain ⟨l', c, rfl⟩ : ∃ l' c, l = l' ++ [c] := ⟨l.dropLast, l.getLast (by rintro rfl; simp at h), (List.dropLast_concat_getLast _).symm⟩
    have ih := numV_lt n l' (by simpa using h) (fun x hx => hd x (by simp [hx]))
    have hc := hd c (by simp)
    rw [numV_snoc, Nat.pow_succ]
    simp only [isD, decide_eq_true_eq] at hc
    omega
theorem numV_lt18 (l : List UInt8) (h : l.length ≤ 18) (hd : ∀ c ∈ l, isD c.toNat = true) : numV l < 1000000000000000000 :=
  Nat.lt_of_lt_of_le (numV_lt _ l rfl hd) (Nat.pow_le_pow_right (by decide) h)

/-- The reserved words and the signs. -/
def words : List (List UInt8) := [[114, 101, 99, 111, 114, 100], [102, 117, 110, 99], [118, 97, 114], [105, 110, 116], [105, 102], [101, 108, 115, 101], [119, 104, 105, 108, 101], [114, 101, 116, 117, 114, 110], [116, 104, 114, 111, 119], [116, 114, 121], [99, 97, 116, 99, 104], [112, 114, 105, 110, 116]]
def twos : List (List UInt8) := [[60, 61], [61, 61], [33, 61]]
def ones : List UInt8 := [40, 41, 123, 125, 91, 93, 44, 59, 58, 46, 43, 45, 42, 47, 37, 38, 124, 94, 60, 61, 33]
/-- The sign that a text begins with, or nothing. -/
def sign (l : List UInt8) : List UInt8 := if l.take 2 ∈ twos then l.take 2 else if ∃ c ∈ l.head?, c ∈ ones then l.take 1 else []

/-- A token without its line, its size, and the error. -/
structure Fst where
  kind : Nat
  text : List UInt8
  num : Nat
  size : Nat
  err : Nat
def fstNum (l : List UInt8) : Fst :=
  if 18 < span isD l then ⟨0, [], 0, 0, 5⟩
  else if ∃ c ∈ (l.drop (span isD l)).head?, isL c.toNat = true then ⟨0, [], 0, 0, 6⟩
  else ⟨2, [], numV (l.take (span isD l)), span isD l, 0⟩
def fstName (l : List UInt8) : Fst :=
  if 12 < span isLD l then ⟨0, [], 0, 0, 5⟩
  else ⟨if l.take (span isLD l) ∈ words then 3 else 1, l.take (span isLD l), 0, span isLD l, 0⟩
def fstSign (l : List UInt8) : Fst := if sign l = [] then ⟨0, [], 0, 0, 6⟩ else ⟨4, sign l, 0, (sign l).length, 0⟩
def fst (l : List UInt8) : Fst :=
  match l with
  | [] => ⟨0, [], 0, 0, 6⟩
  | c :: l => if isD c.toNat = true then fstNum (c :: l) else if isL c.toNat = true then fstName (c :: l) else fstSign (c :: l)

theorem isL_not_D {n : Nat} (h : isL n = true) : isD n = false := by
  simp only [isL, isD, decide_eq_true_eq, decide_eq_false_iff_not] at *
  omega

theorem sign_le (l : List UInt8) : (sign l).length ≤ l.length ∧ (sign l).length ≤ 2 := by
  unfold sign
  split
  · simp; omega
  · split
    · simp; omega
    · simp
theorem fst_size (l : List UInt8) (h : (fst l).err = 0) : 1 ≤ (fst l).size ∧ (fst l).size ≤ l.length := by
  unfold fst at *
  split
  · simp at h
  · rename_i c l
    dsimp only at h
    split
    · rename_i hd
      rw [if_pos hd] at h
      unfold fstNum at *
      have hs := span_le isD (c :: l)
      have := span_in l hd
      split
      · rename_i h1; rw [if_pos h1] at h; simp at h
      · split
        · rename_i h1 h2; rw [if_neg h1, if_pos h2] at h; simp at h
        · simp only at *; omega
    · rename_i hd
      rw [if_neg hd] at h
      split
      · rename_i hl
        unfold fstName
        have hs := span_le isLD (c :: l)
        have := span_in (p := isLD) (c := c) l (by simp [isLD, hl])
        rw [if_pos hl] at h
        unfold fstName at h
        split
        · rename_i h1; rw [if_pos h1] at h; simp at h
        · simp only at *; omega
      · rename_i hl
        rw [if_neg hl] at h
        unfold fstSign at *
        split
        · rename_i h1; rw [if_pos h1] at h; simp at h
        · rename_i h1
          have := sign_le (c :: l)
          have h0 : (sign (c :: l)).length ≠ 0 := fun e => h1 (List.eq_nil_of_length_eq_zero e)
          simp only at *; omega

/-- A token. -/
structure Tok where
  kind : Nat
  line : Nat
  text : List UInt8
  num : Nat
deriving DecidableEq

/-- The tokens of a text from a line on, behind tokens that were found; fuel: more than the text has bytes. -/
def scanF : Nat → List UInt8 → Nat → List Tok → List Tok × Nat × Nat
  | 0, _, _, _ => ([], 0, 0)
  | f + 1, l, line, acc =>
    if l.drop (gap false l).1 = [] then (acc ++ [⟨0, line + (gap false l).2, [], 0⟩], 0, 0)
    else if (fst (l.drop (gap false l).1)).err ≠ 0 then ([], line + (gap false l).2, (fst (l.drop (gap false l).1)).err)
    else if acc.length = 2000 then ([], line + (gap false l).2, 5)
    else scanF f ((l.drop (gap false l).1).drop (fst (l.drop (gap false l).1)).size) (line + (gap false l).2)
      (acc ++ [⟨(fst (l.drop (gap false l).1)).kind, line + (gap false l).2, (fst (l.drop (gap false l).1)).text, (fst (l.drop (gap false l).1)).num⟩])
def scan (l : List UInt8) : List Tok × Nat × Nat := if 4000 < l.length then ([], 0, 5) else scanF (l.length + 1) l 1 []

theorem scanF_fuel : ∀ (f g : Nat) (l : List UInt8) (line : Nat) (acc : List Tok), l.length < f → l.length < g → scanF f l line acc = scanF g l line acc
  | 0, _, _, _, _, h, _ => by omega
  | _, 0, _, _, _, _, h => by omega
  | f + 1, g + 1, l, line, acc, hf, hg => by
    unfold scanF
    split
    · rfl
    · split
      · rfl
      · split
        · rfl
        · rename_i h1 h2 h3
          have hs := fst_size (l.drop (gap false l).1) (by simpa using h2)
          have hl : ((l.drop (gap false l).1).drop (fst (l.drop (gap false l).1)).size).length < l.length := by
            have := (gap_le l false).1
            simp only [List.length_drop] at *
            omega
          exact scanF_fuel f g _ _ _ (by omega) (by omega)
end Go.Proofs.YtbkmpamcelphgaaDoor
