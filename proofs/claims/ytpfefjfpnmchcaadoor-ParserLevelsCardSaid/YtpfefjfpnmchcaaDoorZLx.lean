/-
  Plain lists: what the text of chapter 2 says of gaps, names, numbers, signs and tokens, as functions of a list of bytes. No condition. The walks of the letters and digits of code and specification, and of a text's beginning. No condition. The walk of lexer.span at isDigit and at isLetterOrDigit: how many bytes ahead belong. No condition. The walk of lexer.gap: blanks and comments ahead. Condition: the text is no longer than a text may be. The walk of lexer.firstNumber. Condition: the text is no longer than a text may be. The walk of strings.Clone: the same bytes, in memory of its own. Condition: the text is no longer than a million bytes. The walk of lexer.reservedWords: the map that it makes says of each text whether it is a reserved word. No condition. The walk of lexer.firstName. Condition: the text is no longer than a text may be. The walk of lexer.firstToken: the token that a text begins with. Conditions: the text is not empty and no longer than a text may be; the package's variable holds the signs. Tokens in memory: a slice of tokens that reads as a list; the token that a text begins with, in one contract. The walk of lexer.Scan: the tokens of a text, or the line of the first error. Condition: the package's variable holds the signs. The walk of the statements' sanity check: the tokens of a short text. Condition: the package's variable holds the signs.
-/
import Init
import Derived.Test.YtpfefjfpnmchcaaDoorRows
import Derived.WalkKit
import Derived.Lib.Hide
import Derived.Lib.Split
import Derived.Lib.BufferWrite
import Derived.Lib.UnsafeStr
import Derived.Laws.MakeOwn
import Derived.Maps.Own
import Derived.Maps.Views
import Derived.Laws.Rows
import Derived.Laws.AppendOwn
namespace Go.Proofs.YtpfefjfpnmchcaaDoor

def isL (n : Nat) : Bool := decide (97 ≤ n ∧ n ≤ 122 ∨ 65 ≤ n ∧ n ≤ 90 ∨ n = 95)
def isD (n : Nat) : Bool := decide (48 ≤ n ∧ n ≤ 57)
def isLD (n : Nat) : Bool := isL n || isD n

/-- Blanks and comments ahead: how many bytes, how many line feeds; the mark says whether a comment has begun. -/
def gap : Bool → List UInt8 → Nat × Nat
  | _, [] => (0, 0)
  | cm, c :: l =>
    if c.toNat = 10 then ((gap false l).1 + 1, (gap false l).2 + 1)
    else if cm = true ∨ c.toNat = 32 ∨ c.toNat = 9 ∨ c.toNat = 13 then ((gap cm l).1 + 1, (gap cm l).2)
    else if c.toNat = 47 ∧ ∃ d ∈ l.head?, d.toNat = 47 then ((gap true l).1 + 1, (gap true l).2)
    else (0, 0)

theorem gap_nil (cm : Bool) : gap cm [] = (0, 0) := by cases cm <;> rfl
theorem gap_feed (cm : Bool) {c : UInt8} (l : List UInt8) (h : c.toNat = 10) : gap cm (c :: l) = ((gap false l).1 + 1, (gap false l).2 + 1) := by
  rw [gap, if_pos h]
theorem gap_in {c : UInt8} (l : List UInt8) (h : c.toNat ≠ 10) : gap true (c :: l) = ((gap true l).1 + 1, (gap true l).2) := by
  rw [gap, if_neg h, if_pos (.inl rfl)]
theorem gap_blank (cm : Bool) {c : UInt8} (l : List UInt8) (h : c.toNat = 32 ∨ c.toNat = 9 ∨ c.toNat = 13) : gap cm (c :: l) = ((gap cm l).1 + 1, (gap cm l).2) := by
  rw [gap, if_neg (by omega), if_pos (.inr h)]
theorem gap_begin {c d : UInt8} (l : List UInt8) (h : c.toNat = 47) (h' : d.toNat = 47) : gap false (c :: d :: l) = ((gap true (d :: l)).1 + 1, (gap true (d :: l)).2) := by
  rw [gap, if_neg (by omega), if_neg (by simp; omega), if_pos ⟨h, d, rfl, h'⟩]
theorem gap_stop {c : UInt8} (l : List UInt8) (h0 : c.toNat ≠ 10) (h1 : c.toNat ≠ 32) (h2 : c.toNat ≠ 9) (h3 : c.toNat ≠ 13) (h4 : c.toNat = 47 → ∀ d ∈ l.head?, d.toNat ≠ 47) : gap false (c :: l) = (0, 0) := by
  rw [gap, if_neg h0, if_neg (by simp; omega), if_neg]
  rintro ⟨h, d, hd, h'⟩
  exact h4 h d hd h'
theorem gap_le : ∀ (l : List UInt8) (cm : Bool), (gap cm l).1 ≤ l.length ∧ (gap cm l).2 ≤ (gap cm l).1
  | [], cm => by rw [gap_nil]; simp
  | c :: l, cm => by
    have h1 := gap_le l false
    have h2 := gap_le l true
    have h3 := gap_le l cm
    rw [gap]
    split
    · simp; omega
    · split
      · simp; omega
      · split
        · simp; omega
        · simp
/-- Within a comment, bytes that are no line feed are passed. -/
theorem gap_pass : ∀ (n : Nat) (l : List UInt8), n ≤ l.length → (∀ k, (h : k < n) → ∀ c, l[k]? = some c → c.toNat ≠ 10) → gap true l = ((gap true (l.drop n)).1 + n, (gap true (l.drop n)).2)
  | 0, l, _, _ => by simp
  | n + 1, [], h, _ => by simp at h
  | n + 1, c :: l, h, hc => by
    rw [gap_in l (hc 0 (by omega) c rfl), gap_pass n l (by simpa using h) (fun k hk d hd => hc (k + 1) (by omega) d (by simpa using hd))]
    simp; omega
/-- Behind a gap stands nothing, or something that is no gap. -/
theorem gap_behind : ∀ (l : List UInt8) (cm : Bool), gap false (l.drop (gap cm l).1) = (0, 0)
  | [], cm => by simp [gap_nil]
  | c :: l, cm => by
    have h1 := gap_behind l false
    have h2 := gap_behind l true
    have h3 := gap_behind l cm
    by_cases ha : c.toNat = 10
    · rw [gap_feed cm l ha]; simpa using h1
    · by_cases hb : cm = true ∨ c.toNat = 32 ∨ c.toNat = 9 ∨ c.toNat = 13
      · have : gap cm (c :: l) = ((gap cm l).1 + 1, (gap cm l).2) := by rw [gap, if_neg ha, if_pos hb]
        rw [this]; simpa using h3
      · by_cases hd : c.toNat = 47 ∧ ∃ d ∈ l.head?, d.toNat = 47
        · have : gap cm (c :: l) = ((gap true l).1 + 1, (gap true l).2) := by rw [gap, if_neg ha, if_neg hb, if_pos hd]
          rw [this]; simpa using h2
        · have hcm : cm = false := by cases cm <;> simp_all
          subst hcm
          have : gap false (c :: l) = (0, 0) := by rw [gap, if_neg ha, if_neg hb, if_neg hd]
          rw [this]; simpa using this

/-- How many bytes ahead belong. -/
def span (p : Nat → Bool) : List UInt8 → Nat
  | [] => 0
  | c :: l => if p c.toNat then span p l + 1 else 0
theorem span_le (p : Nat → Bool) : ∀ l : List UInt8, span p l ≤ l.length
  | [] => by simp [span]
  | c :: l => by
    have := span_le p l
    rw [span]; split <;> simp; omega
theorem span_in {p : Nat → Bool} {c : UInt8} (l : List UInt8) (h : p c.toNat = true) : span p (c :: l) = span p l + 1 := by rw [span, if_pos h]
theorem span_out {p : Nat → Bool} {c : UInt8} (l : List UInt8) (h : p c.toNat = false) : span p (c :: l) = 0 := by rw [span, if_neg (by simp [h])]
theorem span_all (p : Nat → Bool) : ∀ (l : List UInt8), ∀ c ∈ l.take (span p l), p c.toNat = true
  | [], c, hc => by simp at hc
  | x :: l, c, hc => by
    by_cases h : p x.toNat = true
    · rw [span_in l h] at hc
      simp only [List.take_succ_cons, List.mem_cons] at hc
      rcases hc with rfl | hc
      · exact h
      · exact span_all p l c hc
    · rw [span, if_neg h] at hc; simp at hc

/-- The number that digits say. -/
def numV (l : List UInt8) : Nat := l.foldl (fun n c => 10 * n + (c.toNat - 48)) 0
theorem numV_snoc (l : List UInt8) (c : UInt8) : numV (l ++ [c]) = 10 * numV l + (c.toNat - 48) := by simp [numV, List.foldl_append]
theorem numV_lt : ∀ (n : Nat) (l : List UInt8), l.length = n → (∀ c ∈ l, isD c.toNat = true) → numV l < 10 ^ n
  | 0, l, h, _ => by
    obtain rfl := List.eq_nil_of_length_eq_zero h
    simp [numV]
  | n + 1, l, h, hd => by
    obtain ⟨l', c, rfl⟩ : ∃ l' c, l = l' ++ [c] := ⟨l.dropLast, l.getLast (by rintro rfl; simp at h), (List.dropLast_concat_getLast _).symm⟩
    have ih := numV_lt n l' (by simpa using h) (fun x hx => hd x (by simp [hx]))
    have hc := hd c (by simp)
    rw [numV_snoc, Nat.pow_succ]
    simp only [isD, decide_eq_true_eq] at hc
    omega
theorem numV_lt18 (l : List UInt8) (h : l.length ≤ 18) (hd : ∀ c ∈ l, isD c.toNat = true) : numV l < 1000000000000000000 :=
  Nat.lt_of_lt_of_le (numV_lt _ l rfl hd) (Nat.pow_le_pow_right (by decide) h)

/-- The reserved words and the signs. -/
def words : List (List UInt8) := [[114, 101, 99, 111, 114, 100], [102, 117, 110, 99], [118, 97, 114], [105, 110, 116], [105, 102], [101, 108, 115, 101], [119, 104, 105, 108, 101], [114, 101, 116, 117, 114, 110], [116, 104, 114, 111, 119], [116, 114, 121], [99, 97, 116, 99, 104], [112, 114, 105, 110, 116]]
def twos : List (List UInt8) := [[60, 61], [61, 61], [33, 61]]
def ones : List UInt8 := [40, 41, 123, 125, 91, 93, 44, 59, 58, 46, 43, 45, 42, 47, 37, 38, 124, 94, 60, 61, 33]
/-- The sign that a text begins with, or nothing. -/
def sign (l : List UInt8) : List UInt8 := if l.take 2 ∈ twos then l.take 2 else if ∃ c ∈ l.head?, c ∈ ones then l.take 1 else []

/-- A token without its line, its size, and the error. -/
structure Fst where
  kind : Nat
  text : List UInt8
  num : Nat
  size : Nat
  err : Nat
def fstNum (l : List UInt8) : Fst :=
  if 18 < span isD l then ⟨0, [], 0, 0, 5⟩
  else if ∃ c ∈ (l.drop (span isD l)).head?, isL c.toNat = true then ⟨0, [], 0, 0, 6⟩
  else ⟨2, [], numV (l.take (span isD l)), span isD l, 0⟩
def fstName (l : List UInt8) : Fst :=
  if 12 < span isLD l then ⟨0, [], 0, 0, 5⟩
  else ⟨if l.take (span isLD l) ∈ words then 3 else 1, l.take (span isLD l), 0, span isLD l, 0⟩
def fstSign (l : List UInt8) : Fst := if sign l = [] then ⟨0, [], 0, 0, 6⟩ else ⟨4, sign l, 0, (sign l).length, 0⟩
def fst (l : List UInt8) : Fst :=
  match l with
  | [] => ⟨0, [], 0, 0, 6⟩
  | c :: l => if isD c.toNat = true then fstNum (c :: l) else if isL c.toNat = true then fstName (c :: l) else fstSign (c :: l)

theorem isL_not_D {n : Nat} (h : isL n = true) : isD n = false := by
  simp only [isL, isD, decide_eq_true_eq, decide_eq_false_iff_not] at *
  omega

theorem sign_le (l : List UInt8) : (sign l).length ≤ l.length ∧ (sign l).length ≤ 2 := by
  unfold sign
  split
  · simp; omega
  · split
    · simp; omega
    · simp
theorem fst_size (l : List UInt8) (h : (fst l).err = 0) : 1 ≤ (fst l).size ∧ (fst l).size ≤ l.length := by
  unfold fst at *
  split
  · simp at h
  · rename_i c l
    dsimp only at h
    split
    · rename_i hd
      rw [if_pos hd] at h
      unfold fstNum at *
      have hs := span_le isD (c :: l)
      have := span_in l hd
      split
      · rename_i h1; rw [if_pos h1] at h; simp at h
      · split
        · rename_i h1 h2; rw [if_neg h1, if_pos h2] at h; simp at h
        · simp only at *; omega
    · rename_i hd
      rw [if_neg hd] at h
      split
      · rename_i hl
        unfold fstName
        have hs := span_le isLD (c :: l)
        have := span_in (p := isLD) (c := c) l (by simp [isLD, hl])
        rw [if_pos hl] at h
        unfold fstName at h
        split
        · rename_i h1; rw [if_pos h1] at h; simp at h
        · simp only at *; omega
      · rename_i hl
        rw [if_neg hl] at h
        unfold fstSign at *
        split
        · rename_i h1; rw [if_pos h1] at h; simp at h
        · rename_i h1
          have := sign_le (c :: l)
          have h0 : (sign (c :: l)).length ≠ 0 := fun e => h1 (List.eq_nil_of_length_eq_zero e)
          simp only at *; omega

/-- A token. -/
structure Tok where
  kind : Nat
  line : Nat
  text : List UInt8
  num : Nat
deriving DecidableEq

/-- The tokens of a text from a line on, behind tokens that were found; fuel: more than the text has bytes. -/
def scanF : Nat → List UInt8 → Nat → List Tok → List Tok × Nat × Nat
  | 0, _, _, _ => ([], 0, 0)
  | f + 1, l, line, acc =>
    if l.drop (gap false l).1 = [] then (acc ++ [⟨0, line + (gap false l).2, [], 0⟩], 0, 0)
    else if (fst (l.drop (gap false l).1)).err ≠ 0 then ([], line + (gap false l).2, (fst (l.drop (gap false l).1)).err)
    else if acc.length = 2000 then ([], line + (gap false l).2, 5)
    else scanF f ((l.drop (gap false l).1).drop (fst (l.drop (gap false l).1)).size) (line + (gap false l).2)
      (acc ++ [⟨(fst (l.drop (gap false l).1)).kind, line + (gap false l).2, (fst (l.drop (gap false l).1)).text, (fst (l.drop (gap false l).1)).num⟩])
def scan (l : List UInt8) : List Tok × Nat × Nat := if 4000 < l.length then ([], 0, 5) else scanF (l.length + 1) l 1 []

theorem scanF_fuel : ∀ (f g : Nat) (l : List UInt8) (line : Nat) (acc : List Tok), l.length < f → l.length < g → scanF f l line acc = scanF g l line acc
  | 0, _, _, _, _, h, _ => by omega
  | _, 0, _, _, _, _, h => by omega
  | f + 1, g + 1, l, line, acc, hf, hg => by
    unfold scanF
    split
    · rfl
    · split
      · rfl
      · split
        · rfl
        · rename_i h1 h2 h3
          have hs := fst_size (l.drop (gap false l).1) (by simpa using h2)
          have hl : ((l.drop (gap false l).1).drop (fst (l.drop (gap false l).1)).size).length < l.length := by
            have := (gap_le l false).1
            simp only [List.length_drop] at *
            omega
          exact scanF_fuel f g _ _ _ (by omega) (by omega)
end Go.Proofs.YtpfefjfpnmchcaaDoor
namespace Go.Proofs.YtpfefjfpnmchcaaDoor
open Go.RowKit

theorem ret_bool {a b : Bool} (h : a = b) : Ending.returned (.bool a) = .returned (.bool b) := by rw [h]
theorem isDigit_any (n : Nat) (hn : n < 2147483648) (w : World) (r : Bool) (hr : Hid (isD n = r)) : Calls Tryd.prog 46 #[.int .i32 n] w fun e w' => e = .returned (.bool r) ∧ w = w' := by
  by_cases h1 : 48 ≤ n
  · go_enter Tryd.func46, Tryd.ntmps46
    go_wp2_with fail
    go_ret
    exact ⟨ret_bool (by rw [← hr.out]; unfold isD; rw [Bool.eq_iff_iff]; simp; try omega), rfl⟩
  · have h3 : n < 48 := by omega
    clear h1
    go_enter Tryd.func46, Tryd.ntmps46
    go_wp2_with fail
    go_ret
    exact ⟨ret_bool (by rw [← hr.out]; unfold isD; rw [Bool.eq_iff_iff]; simp; try omega), rfl⟩
theorem isLetter_any (n : Nat) (hn : n < 2147483648) (w : World) (r : Bool) (hr : Hid (isL n = r)) : Calls Tryd.prog 48 #[.int .i32 n] w fun e w' => e = .returned (.bool r) ∧ w = w' := by
  by_cases h1 : 97 ≤ n
  · by_cases h2 : n ≤ 122
    · go_enter Tryd.func48, Tryd.ntmps48
      go_wp2_with fail
      go_ret
      exact ⟨ret_bool (by rw [← hr.out]; unfold isL; rw [Bool.eq_iff_iff]; simp; try omega), rfl⟩
    · have h3 : 122 < n := by omega
      clear h2
      go_enter Tryd.func48, Tryd.ntmps48
      go_wp2_with fail
      go_ret
      exact ⟨ret_bool (by rw [← hr.out]; unfold isL; rw [Bool.eq_iff_iff]; simp; try omega), rfl⟩
  · have h4 : n < 97 := by omega
    clear h1
    by_cases h5 : 65 ≤ n
    · by_cases h6 : n ≤ 90
      · go_enter Tryd.func48, Tryd.ntmps48
        go_wp2_with fail
        go_ret
        exact ⟨ret_bool (by rw [← hr.out]; unfold isL; rw [Bool.eq_iff_iff]; simp; try omega), rfl⟩
      · have h7 : 90 < n := by omega
        clear h6
        go_enter Tryd.func48, Tryd.ntmps48
        go_wp2_with fail
        go_ret
        exact ⟨ret_bool (by rw [← hr.out]; unfold isL; rw [Bool.eq_iff_iff]; simp; try omega), rfl⟩
    · have h8 : n < 65 := by omega
      clear h5
      go_enter Tryd.func48, Tryd.ntmps48
      go_wp2_with fail
      go_ret
      exact ⟨ret_bool (by rw [← hr.out]; unfold isL; rw [Bool.eq_iff_iff]; simp; try omega), rfl⟩

theorem isLD_any (n : Nat) (hn : n < 2147483648) (w : World) (r : Bool) (hr : Hid (isLD n = r)) : Calls Tryd.prog 69 #[.int .i32 n] w fun e w' => e = .returned (.bool r) ∧ w = w' := by
  by_cases hl : isL n = true
  · have H1 := Lib.hid hl
    have h0 : r = true := by rw [← hr.out]; unfold isLD; simp [hl]
    subst h0
    clear hl
    go_enter Tryd.func69, Tryd.ntmps69
    go_wp2_with (go_at_call 48; refine (isLetter_any n hn _ _ H1).mono ?_; rintro e w1 ⟨rfl, rfl⟩)
    go_ret
    exact ⟨rfl, rfl⟩
  · have hl : isL n = false := by simpa using hl
    have H1 := Lib.hid hl
    have hd : isD n = r := by rw [← hr.out]; unfold isLD; simp [hl]
    have H2 := Lib.hid hd
    clear hl hd
    go_enter Tryd.func69, Tryd.ntmps69
    go_wp2_with (first | (go_at_call 48; refine (isLetter_any n hn _ _ H1).mono ?_; rintro e w1 ⟨rfl, rfl⟩) | (go_at_call 46; refine (isDigit_any n hn _ _ H2).mono ?_; rintro e w1 ⟨rfl, rfl⟩))
    go_ret
    exact ⟨rfl, rfl⟩

/-- Does one text begin with another? -/
def pre (s p : List UInt8) : Bool := decide (s.take p.length = p)
theorem take_eq (s p : ByteArray) : ((s.extract 0 p.size).toList == p.toList) = pre s.data.toList p.data.toList := by
  unfold pre
  rw [Lib.toList_data, Lib.toList_data, Lib.extract_from_zero, Bool.eq_iff_iff]
  simp
theorem hasPrefix_any (s p : ByteArray) (w : World) (r : Bool) (hr : Hid (pre s.data.toList p.data.toList = r)) :
    Calls Tryd.prog 45 #[.string s, .string p] w fun e w' => e = .returned (.bool r) ∧ w = w' := by
  by_cases h : p.size ≤ s.size
  · have ht := take_eq s p
    rw [hr.out] at ht
    have HT := Lib.hid ht
    clear ht
    go_enter Tryd.func45, Tryd.ntmps45
    go_wp2
    go_ret
    exact ⟨ret_bool (by first | exact HT.out | simpa using HT.out), rfl⟩
  · have h' : s.size < p.size := by omega
    clear h
    have hf : r = false := by
      rw [← hr.out]; unfold pre; rw [decide_eq_false_iff_not]; intro e
      have := congrArg List.length e
      simp at this; omega
    subst hf
    go_enter Tryd.func45, Tryd.ntmps45
    go_wp2
    go_ret
    exact ⟨rfl, rfl⟩
end Go.Proofs.YtpfefjfpnmchcaaDoor
namespace Go.Proofs.YtpfefjfpnmchcaaDoor
open Go.RowKit

/-- What is known of a rune: a byte below 128 stands for itself, any other rune is 128 or more. -/
theorem decode_low (s : ByteArray) (pos : Nat) (h : pos < s.size) (ha : (s[pos]'h).toNat < 128) : Utf8.decode s pos = ((s[pos]'h).toNat, 1) := decode_ascii s pos h ha
theorem width_pos (s : ByteArray) (pos : Nat) (h : pos < s.size) : 1 ≤ (Utf8.decode s pos).2 := by
  by_cases ha : (s[pos]'h).toNat < 128
  · rw [decode_ascii s pos h ha]
    exact Nat.le_refl _
  · exact (decode_high s pos h (by omega)).2
theorem drop_cons (s : ByteArray) (pos : Nat) (h : pos < s.size) : s.data.toList.drop pos = (s[pos]'h) :: s.data.toList.drop (pos + 1) := by
  rw [List.drop_eq_getElem_cons (by simpa using h)]
  rfl
theorem drop_end (s : ByteArray) (pos : Nat) (h : ¬ pos < s.size) : s.data.toList.drop pos = [] := List.drop_eq_nil_of_le (by simp at *; omega)
theorem isD_low {n : Nat} (h : isD n = true) : n < 128 := by simp only [isD, decide_eq_true_eq] at h; omega
theorem isL_low {n : Nat} (h : isL n = true) : n < 128 := by simp only [isL, decide_eq_true_eq] at h; omega
theorem isLD_low {n : Nat} (h : isLD n = true) : n < 128 := by
  simp only [isLD, Bool.or_eq_true] at h
  rcases h with h | h
  · exact isL_low h
  · exact isD_low h
/-- A rune belongs exactly if its byte does. -/
theorem rune_belongs {p : Nat → Bool} (hp : ∀ n, p n = true → n < 128) (s : ByteArray) (pos : Nat) (h : pos < s.size) : p (Utf8.decode s pos).1 = p (s[pos]'h).toNat := by
  by_cases ha : (s[pos]'h).toNat < 128
  · rw [decode_ascii s pos h ha]
  · have := (decode_high s pos h (by omega)).1
    rw [Bool.eq_iff_iff]
    exact ⟨fun e => by have := hp _ e; omega, fun e => by have := hp _ e; omega⟩
theorem rune_width {p : Nat → Bool} (hp : ∀ n, p n = true → n < 128) (s : ByteArray) (pos : Nat) (h : pos < s.size) (hb : p (Utf8.decode s pos).1 = true) : (Utf8.decode s pos).2 = 1 := by
  by_cases ha : (s[pos]'h).toNat < 128
  · rw [decode_ascii s pos h ha]
  · have := (decode_high s pos h (by omega)).1
    have := hp _ hb
    omega

theorem iter_below (w : World) (s : ByteArray) (pos : Nat) : Below w.heap.size w (w.iter s pos) := (Below.refl _ _).alloc (Nat.le_refl _) _

theorem ret_i64 {a b : Int} (h : a = b) : Ending.returned (.int .i64 a) = .returned (.int .i64 b) := by rw [h]

/-- A character class of bytes below 128. -/
structure Low (p : Nat → Bool) : Prop where
  low : ∀ n, p n = true → n < 128
theorem Low.width {p : Nat → Bool} (hp : Low p) {s : ByteArray} {pos : Nat} (h : pos < s.size) : p (Utf8.decode s pos).1 = true → (Utf8.decode s pos).2 = 1 := rune_width hp.low s pos h
theorem Low.belongs {p : Nat → Bool} (hp : Low p) {s : ByteArray} {pos : Nat} (h : pos < s.size) : p (Utf8.decode s pos).1 = p (s[pos]'h).toNat := rune_belongs hp.low s pos h
theorem low_D : Low isD := ⟨fun _ => isD_low⟩
theorem low_LD : Low isLD := ⟨fun _ => isLD_low⟩

set_option maxRecDepth 100000 in
theorem span_digit (s : ByteArray) (w : World) (r : Nat) (hr : Hid (span isD s.data.toList = r)) :
    Calls Tryd.prog 68 #[.string s, .func (.func 46) #[] #[]] w fun e w' => e = .returned (.int .i64 r) ∧ Below w.heap.size w w' := by
  go_enter Tryd.func68, Tryd.ntmps68
  go_wp2_with fail
  go_loopw [] (fun wr => ∃ pos : Nat, wr = w.iter s pos ∧ pos ≤ s.size ∧ pos + span isD (s.data.toList.drop pos) = r) (fun wr => s.size - wr.iterPos w.heap.size)
  case atStart => exact ⟨0, rfl, Nat.zero_le _, by rw [← hr.out]; simp⟩
  case round =>
    obtain ⟨pos, rfl, hpos, hrel⟩ := hrel
    have HR := Lib.hid hrel
    clear hrel
    by_cases hp : pos < s.size
    · have hnx : ∀ ty, (Instr.next (.pointer (some ⟨w.heap.size, 0, none⟩)) true ty).run Tryd.prog (w.iter s pos) = _ := fun ty => run_next_any w s pos ty hp
      have hw1 := low_D.width (s := s) (pos := pos) hp
      have hbl := low_D.belongs (s := s) (pos := pos) hp
      have hdl := decode_le s pos
      have hdc := drop_cons s pos hp
      by_cases hb : isD (s[pos]'hp).toNat = true
      · rw [hb] at hbl
        have hwd := hw1 hbl
        have HB := Lib.hid hbl
        have HD := Lib.hid hdc
        have HH := Lib.hid hb
        have hwd1 : pos + (Utf8.decode s pos).2 = pos + 1 := by rw [hwd]
        have HW := Lib.hid hwd1
        clear hbl hdc hb hwd hw1 hwd1
        generalize (Utf8.decode s pos).1 = c at *
        generalize pos + (Utf8.decode s pos).2 = pos' at *
        go_wp2_with (go_at_call 46; refine (isDigit_any c (by omega) _ true HB).mono ?_; rintro e w1 ⟨rfl, rfl⟩)
        obtain rfl := HW.out
        go_roundw
        case rel => exact ⟨pos + 1, rfl, by omega, by rw [← HR.out, HD.out, span_in _ HH.out]; omega⟩
        case measure => simp; omega
      · have hb : isD (s[pos]'hp).toNat = false := by simpa using hb
        rw [hb] at hbl
        have HB := Lib.hid hbl
        have hz : r = pos := by rw [← HR.out, hdc, span_out _ hb]; rfl
        subst hz
        clear hbl hdc hb hw1
        generalize (Utf8.decode s r).1 = c at *
        go_wp2_with (go_at_call 46; refine (isDigit_any c (by omega) _ false HB).mono ?_; rintro e w1 ⟨rfl, rfl⟩)
        go_ret
        exact ⟨rfl, iter_below _ _ _⟩
    · have hnx : ∀ ty, (Instr.next (.pointer (some ⟨w.heap.size, 0, none⟩)) true ty).run Tryd.prog (w.iter s pos) = _ := fun ty => run_next_end w s pos ty hp
      have hz : r = s.size := by rw [← HR.out, drop_end s pos hp]; simp [span]; omega
      subst hz
      go_wp2_with fail
      go_ret
      exact ⟨rfl, iter_below _ _ _⟩

set_option maxRecDepth 100000 in
theorem span_ld (s : ByteArray) (w : World) (r : Nat) (hr : Hid (span isLD s.data.toList = r)) :
    Calls Tryd.prog 68 #[.string s, .func (.func 69) #[] #[]] w fun e w' => e = .returned (.int .i64 r) ∧ Below w.heap.size w w' := by
  go_enter Tryd.func68, Tryd.ntmps68
  go_wp2_with fail
  go_loopw [] (fun wr => ∃ pos : Nat, wr = w.iter s pos ∧ pos ≤ s.size ∧ pos + span isLD (s.data.toList.drop pos) = r) (fun wr => s.size - wr.iterPos w.heap.size)
  case atStart => exact ⟨0, rfl, Nat.zero_le _, by rw [← hr.out]; simp⟩
  case round =>
    obtain ⟨pos, rfl, hpos, hrel⟩ := hrel
    have HR := Lib.hid hrel
    clear hrel
    by_cases hp : pos < s.size
    · have hnx : ∀ ty, (Instr.next (.pointer (some ⟨w.heap.size, 0, none⟩)) true ty).run Tryd.prog (w.iter s pos) = _ := fun ty => run_next_any w s pos ty hp
      have hw1 := low_LD.width (s := s) (pos := pos) hp
      have hbl := low_LD.belongs (s := s) (pos := pos) hp
      have hdl := decode_le s pos
      have hdc := drop_cons s pos hp
      by_cases hb : isLD (s[pos]'hp).toNat = true
      · rw [hb] at hbl
        have hwd := hw1 hbl
        have HB := Lib.hid hbl
        have HD := Lib.hid hdc
        have HH := Lib.hid hb
        have hwd1 : pos + (Utf8.decode s pos).2 = pos + 1 := by rw [hwd]
        have HW := Lib.hid hwd1
        clear hbl hdc hb hwd hw1 hwd1
        generalize (Utf8.decode s pos).1 = c at *
        generalize pos + (Utf8.decode s pos).2 = pos' at *
        go_wp2_with (go_at_call 69; refine (isLD_any c (by omega) _ true HB).mono ?_; rintro e w1 ⟨rfl, rfl⟩)
        obtain rfl := HW.out
        go_roundw
        case rel => exact ⟨pos + 1, rfl, by omega, by rw [← HR.out, HD.out, span_in _ HH.out]; omega⟩
        case measure => simp; omega
      · have hb : isLD (s[pos]'hp).toNat = false := by simpa using hb
        rw [hb] at hbl
        have HB := Lib.hid hbl
        have hz : r = pos := by rw [← HR.out, hdc, span_out _ hb]; rfl
        subst hz
        clear hbl hdc hb hw1
        generalize (Utf8.decode s r).1 = c at *
        go_wp2_with (go_at_call 69; refine (isLD_any c (by omega) _ false HB).mono ?_; rintro e w1 ⟨rfl, rfl⟩)
        go_ret
        exact ⟨rfl, iter_below _ _ _⟩
    · have hnx : ∀ ty, (Instr.next (.pointer (some ⟨w.heap.size, 0, none⟩)) true ty).run Tryd.prog (w.iter s pos) = _ := fun ty => run_next_end w s pos ty hp
      have hz : r = s.size := by rw [← HR.out, drop_end s pos hp]; simp [span]; omega
      subst hz
      go_wp2_with fail
      go_ret
      exact ⟨rfl, iter_below _ _ _⟩
end Go.Proofs.YtpfefjfpnmchcaaDoor
namespace Go.Proofs.YtpfefjfpnmchcaaDoor
open Go.RowKit

/-- The bytes that a rune of several bytes takes behind its first one are no line feeds. -/
theorem decode_cont (s : ByteArray) (pos : Nat) (h : pos < s.size) : pos + (Utf8.decode s pos).2 ≤ s.size ∧ ∀ k, 1 ≤ k → k < (Utf8.decode s pos).2 → 128 ≤ (s.get! (pos + k)).toNat := by
  simp only [Utf8.decode]
  repeat' split
  all_goals (refine ⟨?_, fun k h1 h2 => ?_⟩)
  all_goals first
    | (simp_all; done)
    | (exfalso; simp at h2; omega)
    | (simp_all; omega)
    | (simp at h2
       have hk : k = 1 ∨ k = 2 ∨ k = 3 := by omega
       rcases hk with rfl | rfl | rfl <;> (simp_all; try omega))
theorem get_list (s : ByteArray) (k : Nat) (c : UInt8) (h : s.data.toList[k]? = some c) : s.get! k = c := by
  have hk : k < s.data.toList.length := (List.getElem?_eq_some_iff.1 h).1
  have h2 := (List.getElem?_eq_some_iff.1 h).2
  have hk' : k < s.size := by simpa using hk
  show s.get! k = c
  rw [← h2]
  simp [ByteArray.get!, getElem!_pos, hk']
theorem gap_rune (s : ByteArray) (pos : Nat) (h : pos < s.size) (ha : 128 ≤ (s[pos]'h).toNat) :
    gap true (s.data.toList.drop pos) = ((gap true (s.data.toList.drop (pos + (Utf8.decode s pos).2))).1 + (Utf8.decode s pos).2, (gap true (s.data.toList.drop (pos + (Utf8.decode s pos).2))).2) := by
  have hc := decode_cont s pos h
  have hp := gap_pass (Utf8.decode s pos).2 (s.data.toList.drop pos) (by simp; have := hc.1; omega) (fun k hk c hkc => by
    rw [List.getElem?_drop] at hkc
    by_cases h0 : k = 0
    · subst h0
      have e := get_list s (pos + 0) c hkc
      rw [get_at s pos h] at e
      rw [← e]; omega
    · have := hc.2 k (by omega) hk
      rw [get_list s (pos + k) c hkc] at this
      omega)
  rw [List.drop_drop] at hp
  exact hp

theorem beq_no {a b : Int} (h : a ≠ b) : (a == b) = false := by rw [beq_eq_false_iff_ne]; exact h
theorem pre_slashes {l : List UInt8} (h : pre l [47, 47] = true) : ∃ m, l = 47 :: 47 :: m := by
  simp only [pre, decide_eq_true_eq, List.length_cons, List.length_nil] at h
  match l, h with
  | a :: b :: m, h =>
    simp at h
    exact ⟨m, by rw [h.1, h.2]⟩
theorem gap_slashes {l : List UInt8} (h : pre l [47, 47] = true) : gap false l = ((gap true (l.drop 1)).1 + 1, (gap true (l.drop 1)).2) := by
  obtain ⟨m, rfl⟩ := pre_slashes h
  exact gap_begin m rfl rfl
theorem pre_no {c : UInt8} {l : List UInt8} (h : pre (c :: l) [47, 47] = false) : c.toNat = 47 → ∀ d ∈ l.head?, d.toNat ≠ 47 := by
  intro hc d hd hd'
  simp only [pre, decide_eq_false_iff_not, List.length_cons, List.length_nil] at h
  match l, hd with
  | x :: l, hd =>
    have hx : x = d := by simpa using hd
    subst hx
    apply h
    have h1 : c = 47 := UInt8.toNat_inj.1 hc
    have h2 : x = 47 := UInt8.toNat_inj.1 hd'
    simp [h1, h2]

theorem ret2 {a b c d : Nat} (h : a = b) (h' : c = d) : Ending.returned (.tuple #[.int .i64 a, .int .i64 c]) = .returned (.tuple #[.int .i64 b, .int .i64 d]) := by rw [h, h']

set_option maxHeartbeats 1600000 in
set_option maxRecDepth 100000 in
theorem gap_any (s : ByteArray) (w : World) (hs : s.size ≤ 1000000) (N F : Nat) (hr : Hid (gap false s.data.toList = (N, F))) :
    Calls Tryd.prog 28 #[.string s] w fun e w' => e = .returned (.tuple #[.int .i64 N, .int .i64 F]) ∧ Below w.heap.size w w' := by
  go_enter Tryd.func28, Tryd.ntmps28
  go_wp2_with fail
  go_loopw [4, 5] (fun fv cv wr => ∃ (pos k : Nat) (cm : Bool), wr = w.iter s pos ∧ fv = .int .i64 k ∧ cv = .bool cm ∧ pos ≤ s.size ∧ k ≤ pos ∧ pos + (gap cm (s.data.toList.drop pos)).1 = N ∧ k + (gap cm (s.data.toList.drop pos)).2 = F) (fun _ _ wr => s.size - wr.iterPos w.heap.size)
  case atStart => exact ⟨0, 0, false, rfl, rfl, rfl, Nat.zero_le _, Nat.le_refl _, by simp [hr.out], by simp [hr.out]⟩
  case round =>
    obtain ⟨pos, k, cm, rfl, rfl, rfl, hpos, hk, hN, hF⟩ := hrel
    by_cases hp : pos < s.size
    · obtain ⟨c, hc⟩ : ∃ c, Hid ((Utf8.decode s pos).1 = c) := ⟨_, Lib.hid rfl⟩
      obtain ⟨wd, hwd⟩ : ∃ wd, Hid ((Utf8.decode s pos).2 = wd) := ⟨_, Lib.hid rfl⟩
      have hnx : ∀ ty, (Instr.next (.pointer (some ⟨w.heap.size, 0, none⟩)) true ty).run Tryd.prog (w.iter s pos) = .ok (.tuple #[.bool true, .int .i64 pos, .int .i32 c]) (w.iter s (pos + wd)) := fun ty => by
        rw [← hc.out, ← hwd.out]; exact run_next_any w s pos ty hp
      have hcl : c ≤ 2147483647 := by rw [← hc.out]; exact decode_le s pos
      have hw1 : 1 ≤ wd := by rw [← hwd.out]; exact width_pos s pos hp
      have hwe : pos + wd ≤ s.size := by rw [← hwd.out]; exact (decode_cont s pos hp).1
      have hdc := drop_cons s pos hp
      by_cases h10 : (s[pos]'hp).toNat = 10
      · have hd := decode_low s pos hp (by omega)
        obtain rfl : c = 10 := by rw [← hc.out, hd]; exact h10
        obtain rfl : wd = 1 := by rw [← hwd.out, hd]
        rw [hdc, gap_feed cm _ h10] at hN hF
        have H1 := Lib.hid hN
        have H2 := Lib.hid hF
        clear hN hF hdc hd h10 hc hwd
        go_wp2_with fail
        go_roundw
        case rel => exact ⟨pos + 1, k + 1, false, rfl, by go_num, rfl, by omega, by omega, by have := H1.out; simp only at this; omega, by have := H2.out; simp only at this; omega⟩
        case measure => simp; omega
      · cases cm with
        | true =>
          have hne : c ≠ 10 := by
            rw [← hc.out]
            by_cases ha : (s[pos]'hp).toNat < 128
            · rw [decode_low s pos hp ha]; exact h10
            · have := (decode_high s pos hp (by omega)).1; omega
          have hgo : pos + wd + (gap true (s.data.toList.drop (pos + wd))).1 = N ∧ k + (gap true (s.data.toList.drop (pos + wd))).2 = F := by
            by_cases ha : (s[pos]'hp).toNat < 128
            · have hd := decode_low s pos hp ha
              obtain rfl : wd = 1 := by rw [← hwd.out, hd]
              rw [hdc, gap_in _ h10] at hN hF
              simp only at hN hF
              exact ⟨by omega, hF⟩
            · have hg := gap_rune s pos hp (by omega)
              rw [hwd.out] at hg
              rw [hg] at hN hF
              simp only at hN hF
              exact ⟨by omega, hF⟩
          have hb := beq_no (show (c : Int) ≠ 10 by omega)
          have H1 := Lib.hid hgo
          clear hgo hN hF hdc h10 hc hwd hne
          go_wp2_with fail
          go_roundw
          case rel => exact ⟨pos + wd, k, true, rfl, rfl, rfl, by omega, by omega, H1.out.1, H1.out.2⟩
          case measure => simp; omega
        | false =>
          by_cases hbl : (s[pos]'hp).toNat = 32 ∨ (s[pos]'hp).toNat = 9 ∨ (s[pos]'hp).toNat = 13
          · have hd := decode_low s pos hp (by omega)
            have hcc : c = 32 ∨ c = 9 ∨ c = 13 := by rw [← hc.out, hd]; exact hbl
            obtain rfl : wd = 1 := by rw [← hwd.out, hd]
            rw [hdc, gap_blank _ _ hbl] at hN hF
            have H1 := Lib.hid hN
            have H2 := Lib.hid hF
            clear hN hF hdc hd h10 hc hwd hbl
            rcases hcc with rfl | rfl | rfl
            all_goals
              go_wp2_with fail
              go_roundw
              case rel => exact ⟨pos + 1, k, false, rfl, rfl, rfl, by omega, by omega, by have := H1.out; simp only at this; omega, by have := H2.out; simp only at this; omega⟩
              case measure => simp; omega
          · have hx : ∀ v : Nat, v < 128 → (s[pos]'hp).toNat ≠ v → c ≠ v := fun v hv hne => by
              rw [← hc.out]
              by_cases ha : (s[pos]'hp).toNat < 128
              · rw [decode_low s pos hp ha]; exact hne
              · have := (decode_high s pos hp (by omega)).1; omega
            have b1 := beq_no (show (c : Int) ≠ 10 by have := hx 10 (by omega) h10; omega)
            have b2 := beq_no (show (c : Int) ≠ 32 by have := hx 32 (by omega) (by omega); omega)
            have b3 := beq_no (show (c : Int) ≠ 9 by have := hx 9 (by omega) (by omega); omega)
            have b4 := beq_no (show (c : Int) ≠ 13 by have := hx 13 (by omega) (by omega); omega)
            clear hx
            have hex : (s.extract pos s.size).data.toList = s.data.toList.drop pos := Lib.extract_to_end s pos
            by_cases hpre : pre (s.data.toList.drop pos) [47, 47] = true
            · have h47 : (s[pos]'hp).toNat = 47 := by
                obtain ⟨m, hm⟩ := pre_slashes hpre
                rw [hdc] at hm
                injection hm with hm _
                rw [hm]; rfl
              have hd := decode_low s pos hp (by omega)
              obtain rfl : wd = 1 := by rw [← hwd.out, hd]
              rw [gap_slashes hpre] at hN hF
              rw [List.drop_drop] at hN hF
              have H1 := Lib.hid hN
              have H2 := Lib.hid hF
              have HP : Hid (pre (s.extract pos s.size).data.toList [47, 47] = true) := by rw [hex]; exact Lib.hid hpre
              clear hN hF hdc hd h10 hc hwd hbl h47 hpre hex
              go_wp2_with (go_at_call 45; refine (hasPrefix_any _ ⟨#[47, 47]⟩ _ true HP).mono ?_; rintro e w1 ⟨rfl, rfl⟩)
              go_roundw
              case rel => exact ⟨pos + 1, k, true, rfl, rfl, rfl, by omega, by omega, by have := H1.out; omega, by have := H2.out; omega⟩
              case measure => simp; omega
            · have hpre : pre (s.data.toList.drop pos) [47, 47] = false := by simpa using hpre
              have HP : Hid (pre (s.extract pos s.size).data.toList [47, 47] = false) := by rw [hex]; exact Lib.hid hpre
              rw [hdc] at hpre hN hF
              rw [gap_stop _ h10 (by omega) (by omega) (by omega) (pre_no hpre)] at hN hF
              simp only [Nat.add_zero] at hN hF
              subst hN hF
              clear hdc h10 hc hwd hbl hpre hex
              go_wp2_with (go_at_call 45; refine (hasPrefix_any _ ⟨#[47, 47]⟩ _ false HP).mono ?_; rintro e w1 ⟨rfl, rfl⟩)
              go_ret2
              exact ⟨rfl, iter_below _ _ _⟩
    · have hnx : ∀ ty, (Instr.next (.pointer (some ⟨w.heap.size, 0, none⟩)) true ty).run Tryd.prog (w.iter s pos) = _ := fun ty => run_next_end w s pos ty hp
      rw [drop_end s pos hp, gap_nil] at hN hF
      simp only [Nat.add_zero] at hN hF
      obtain rfl : N = s.size := by omega
      clear hN
      subst hF
      go_wp2_with fail
      go_ret2
      exact ⟨rfl, iter_below _ _ _⟩
end Go.Proofs.YtpfefjfpnmchcaaDoor
namespace Go.Proofs.YtpfefjfpnmchcaaDoor
open Go.RowKit

/-- A token as a value, and what a token's reader hands back: the token without its line, its size and the error. -/
abbrev tokV (kd ln : Nat) (tx : List UInt8) (nm : Nat) : Value := .agg #[.int .i64 kd, .int .i64 ln, .string ⟨tx.toArray⟩, .int .i64 nm]
abbrev fstV (kd ln : Nat) (tx : List UInt8) (nm sz er : Nat) : Ending := .returned (.tuple #[tokV kd ln tx nm, .int .i64 sz, .int .i64 er])

theorem bcell {W w1 : World} (hb : Below W.heap.size W w1) : (∀ b o, b < W.heap.size → w1.cell? ⟨b, o, none⟩ = W.cell? ⟨b, o, none⟩) ∧ (∀ b o, b < W.heap.size → w1.frozen? ⟨b, o, none⟩ = W.frozen? ⟨b, o, none⟩) :=
  ⟨fun b o h => hb.cell (p := ⟨b, o, none⟩) h, fun b o h => hb.frozen (p := ⟨b, o, none⟩) h⟩

theorem fst_four {W w : World} {b : Nat} (h : Below b W w) {g : Nat} (hg : b ≤ g) (v0 v1 v2 v3 : Value) : Below b W ((((w.setCell ⟨g, 0, none⟩ v0).setCell ⟨g, 1, none⟩ v1).setCell ⟨g, 2, none⟩ v2).setCell ⟨g, 3, none⟩ v3) :=
  (((h.setCell (by simpa using hg) _).setCell (by simpa using hg) _).setCell (by simpa using hg) _).setCell (by simpa using hg) _

theorem fnum_long (s : ByteArray) (w : World) (n : Nat) (hn : Hid (span isD s.data.toList = n)) (h : 18 < n) :
    Calls Tryd.prog 47 #[.string s] w fun e w' => e = fstV 0 0 [] 0 0 5 ∧ Below w.heap.size w w' := by
  go_enter Tryd.func47, Tryd.ntmps47
  go_wp2_with (go_at_call 68; refine (span_digit s _ n hn).mono ?_; rintro e w1 ⟨rfl, hb1⟩; obtain ⟨hc, hf⟩ := bcell hb1; have hz := hb1.size; simp at hz)
  refine bodyPost_ret (v := .tuple #[tokV 0 0 [] 0, .int .i64 0, .int .i64 5]) ?_ rfl ⟨rfl, ?_⟩
  · simp [results, Tryd.results47, go_sem, hc]
  · exact fst_four (((Below.refl _ _).alloc (Nat.le_refl _) _).trans (hb1.mono (by simp))) (Nat.le_refl _) _ _ _ _

theorem fnum_bad (s : ByteArray) (w : World) (n : Nat) (hn : Hid (span isD s.data.toList = n)) (h : n ≤ 18) (hlt : n < s.size) (hl : Hid (isL (s[n]'hlt).toNat = true)) :
    Calls Tryd.prog 47 #[.string s] w fun e w' => e = fstV 0 0 [] 0 0 6 ∧ Below w.heap.size w w' := by
  have hu : (s[n]'hlt).toNat < 256 := (s[n]'hlt).toNat_lt
  go_enter Tryd.func47, Tryd.ntmps47
  go_wp2_with (first
    | (go_at_call 68; refine (span_digit s _ n hn).mono ?_; rintro e w1 ⟨rfl, hb1⟩; obtain ⟨hc, hf⟩ := bcell hb1; have hz := hb1.size; simp at hz)
    | (go_at_call 48; refine (isLetter_any (s[n]'hlt).toNat (by omega) _ true hl).mono ?_; rintro e w2 ⟨rfl, rfl⟩))
  refine bodyPost_ret (v := .tuple #[tokV 0 0 [] 0, .int .i64 0, .int .i64 6]) ?_ rfl ⟨rfl, ?_⟩
  · simp [results, Tryd.results47, go_sem, hc]
  · exact fst_four (((Below.refl _ _).alloc (Nat.le_refl _) _).trans (hb1.mono (by simp))) (Nat.le_refl _) _ _ _ _

theorem take_snoc (s : ByteArray) (k : Nat) (h : k < s.size) : s.data.toList.take (k + 1) = s.data.toList.take k ++ [s[k]] := by
  rw [List.take_succ_eq_append_getElem (by simpa using h)]; rfl
theorem extract_get (s : ByteArray) (n pos : Nat) (h : pos < (s.extract 0 n).size) (h' : pos < s.size) : (s.extract 0 n)[pos]'h = s[pos]'h' := by
  show (s.extract 0 n).data[pos]'(by simpa using h) = s.data[pos]
  simp
theorem digits_of (s : ByteArray) (n : Nat) (hn : span isD s.data.toList = n) (pos : Nat) (hp : pos < n) (h' : pos < s.size) : isD (s[pos]'h').toNat = true := by
  have h := span_all isD s.data.toList (s[pos]'h') (by
    rw [hn]
    have hlen : pos < (s.data.toList.take n).length := by simp; omega
    have : (s.data.toList.take n)[pos] = s[pos]'h' := by rw [List.getElem_take]; rfl
    rw [← this]; exact List.getElem_mem hlen)
  exact h
theorem numV_head (s : ByteArray) (n : Nat) (hn : span isD s.data.toList = n) (h : n ≤ 18) (pos : Nat) (hp : pos ≤ n) : numV (s.data.toList.take pos) < 1000000000000000000 :=
  numV_lt18 _ (by simp; omega) fun c hc => span_all isD s.data.toList c (by
    rw [hn]
    have : s.data.toList.take pos = (s.data.toList.take n).take pos := by rw [List.take_take, Nat.min_eq_left hp]
    rw [this] at hc
    exact List.mem_of_mem_take hc)

set_option maxHeartbeats 1600000 in
set_option maxRecDepth 100000 in
theorem fnum_good (s : ByteArray) (w : World) (n : Nat) (hn : Hid (span isD s.data.toList = n)) (h : n ≤ 18) (hle : n ≤ s.size)
    (hl : ∀ hlt : n < s.size, Hid (isL (s[n]'hlt).toNat = false)) (v : Nat) (hv : Hid (numV (s.data.toList.take n) = v)) :
    Calls Tryd.prog 47 #[.string s] w fun e w' => e = fstV 2 0 [] v n 0 ∧ Below w.heap.size w w' := by
  have HL := Lib.hid hl
  clear hl
  obtain ⟨t, ht⟩ : ∃ t, Hid (s.extract 0 n = t) := ⟨_, Lib.hid rfl⟩
  have htz : t.size = n := by rw [← ht.out]; simp; omega
  have HZ := Lib.hid htz
  clear htz
  by_cases hlt : n < s.size
  · have hu : (s[n]'hlt).toNat < 256 := (s[n]'hlt).toNat_lt
    go_enter Tryd.func47, Tryd.ntmps47
    go_wp2_with (first
      | (go_at_call 68; refine (span_digit s _ n hn).mono ?_; rintro e w1 ⟨rfl, hb1⟩; obtain ⟨hc, hf⟩ := bcell hb1; have hz := hb1.size; simp at hz)
      | (go_at_call 48; refine (isLetter_any (s[n]'hlt).toNat (by omega) _ false (HL.out hlt)).mono ?_; rintro e w2 ⟨rfl, rfl⟩))
    rw [ht.out]
    go_loopw [6] (fun mv wr => ∃ pos m : Nat, wr = w1.iter t pos ∧ pos ≤ n ∧ mv = .int .i64 m ∧ m < 1000000000000000000 ∧ numV (s.data.toList.take pos) = m) (fun _ wr => n - wr.iterPos w1.heap.size)
    case atStart => exact ⟨0, 0, rfl, Nat.zero_le _, rfl, by omega, rfl⟩
    case round =>
      obtain ⟨pos, m, rfl, hpos, rfl, hm, hmv⟩ := hrel
      have HM := Lib.hid hmv
      clear hmv
      by_cases hp : pos < n
      · have hpt : pos < t.size := by rw [HZ.out]; exact hp
        have hps : pos < s.size := by omega
        have hg : t[pos]'hpt = s[pos]'hps := by
          have h1 := extract_get s n pos (by rw [ht.out]; exact hpt) hps
          rw [← h1]; congr 1; exact ht.out.symm
        have hdig := digits_of s n hn.out pos hp hps
        have hlow := isD_low hdig
        have hdec := decode_low t pos hpt (by rw [hg]; exact hlow)
        have hnx : ∀ ty, (Instr.next (.pointer (some ⟨w1.heap.size, 0, none⟩)) true ty).run Tryd.prog (w1.iter t pos) = .ok (.tuple #[.bool true, .int .i64 pos, .int .i32 (s[pos]'hps).toNat]) (w1.iter t (pos + 1)) := fun ty => by
          have h1 := run_next_any (P := Tryd.prog) w1 t pos ty hpt
          rw [hdec, hg] at h1
          exact h1
        have hsn : Hid (numV (s.data.toList.take (pos + 1)) = 10 * numV (s.data.toList.take pos) + ((s[pos]'hps).toNat - 48)) := by
          show Hid _
          rw [take_snoc s pos hps]; exact Lib.hid (numV_snoc _ _)
        have hm2 := numV_head s n hn.out h (pos + 1) (by omega)
        rw [hsn.out, HM.out] at hm2
        have hb : 48 ≤ (s[pos]'hps).toNat ∧ (s[pos]'hps).toNat ≤ 57 := by simpa [isD] using hdig
        obtain ⟨hb1', hb2'⟩ := hb
        clear hdec hdig hg
        go_wp2_with fail
        go_roundw
        case rel => exact ⟨pos + 1, 10 * m + ((s[pos]'hps).toNat - 48), rfl, by omega, congrArg (Value.int .i64) (by omega), hm2, by rw [hsn.out, HM.out]⟩
        case measure => simp; omega
      · obtain rfl : pos = n := by omega
        have hnx : ∀ ty, (Instr.next (.pointer (some ⟨w1.heap.size, 0, none⟩)) true ty).run Tryd.prog (w1.iter t pos) = _ := fun ty => run_next_end w1 t pos ty (by rw [HZ.out]; exact hp)
        obtain ⟨hc2, hf2⟩ := bcell (iter_below w1 t pos)
        have hz2 : w.heap.size < w1.heap.size := by omega
        go_wp2_with fail
        obtain rfl : m = v := HM.out.symm.trans hv.out
        refine bodyPost_ret (v := .tuple #[tokV 2 0 [] m, .int .i64 pos, .int .i64 0]) ?_ rfl ⟨rfl, ?_⟩
        · simp [results, Tryd.results47, go_sem, hc, hc2, hz2]
        · exact fst_four ((((Below.refl _ _).alloc (Nat.le_refl _) _).trans (hb1.mono (by simp))).trans ((iter_below _ _ _).mono (by omega))) (Nat.le_refl _) _ _ _ _
  · have hlt' : n = s.size := by omega
    have hlt2 : s.size ≤ n := by omega
    clear hlt hlt'
    go_enter Tryd.func47, Tryd.ntmps47
    go_wp2_with (go_at_call 68; refine (span_digit s _ n hn).mono ?_; rintro e w1 ⟨rfl, hb1⟩; obtain ⟨hc, hf⟩ := bcell hb1; have hz := hb1.size; simp at hz)
    rw [ht.out]
    go_loopw [6] (fun mv wr => ∃ pos m : Nat, wr = w1.iter t pos ∧ pos ≤ n ∧ mv = .int .i64 m ∧ m < 1000000000000000000 ∧ numV (s.data.toList.take pos) = m) (fun _ wr => n - wr.iterPos w1.heap.size)
    case atStart => exact ⟨0, 0, rfl, Nat.zero_le _, rfl, by omega, rfl⟩
    case round =>
      obtain ⟨pos, m, rfl, hpos, rfl, hm, hmv⟩ := hrel
      have HM := Lib.hid hmv
      clear hmv
      by_cases hp : pos < n
      · have hpt : pos < t.size := by rw [HZ.out]; exact hp
        have hps : pos < s.size := by omega
        have hg : t[pos]'hpt = s[pos]'hps := by
          have h1 := extract_get s n pos (by rw [ht.out]; exact hpt) hps
          rw [← h1]; congr 1; exact ht.out.symm
        have hdig := digits_of s n hn.out pos hp hps
        have hlow := isD_low hdig
        have hdec := decode_low t pos hpt (by rw [hg]; exact hlow)
        have hnx : ∀ ty, (Instr.next (.pointer (some ⟨w1.heap.size, 0, none⟩)) true ty).run Tryd.prog (w1.iter t pos) = .ok (.tuple #[.bool true, .int .i64 pos, .int .i32 (s[pos]'hps).toNat]) (w1.iter t (pos + 1)) := fun ty => by
          have h1 := run_next_any (P := Tryd.prog) w1 t pos ty hpt
          rw [hdec, hg] at h1
          exact h1
        have hsn : Hid (numV (s.data.toList.take (pos + 1)) = 10 * numV (s.data.toList.take pos) + ((s[pos]'hps).toNat - 48)) := by
          show Hid _
          rw [take_snoc s pos hps]; exact Lib.hid (numV_snoc _ _)
        have hm2 := numV_head s n hn.out h (pos + 1) (by omega)
        rw [hsn.out, HM.out] at hm2
        have hb : 48 ≤ (s[pos]'hps).toNat ∧ (s[pos]'hps).toNat ≤ 57 := by simpa [isD] using hdig
        obtain ⟨hb1', hb2'⟩ := hb
        clear hdec hdig hg
        go_wp2_with fail
        go_roundw
        case rel => exact ⟨pos + 1, 10 * m + ((s[pos]'hps).toNat - 48), rfl, by omega, congrArg (Value.int .i64) (by omega), hm2, by rw [hsn.out, HM.out]⟩
        case measure => simp; omega
      · obtain rfl : pos = n := by omega
        have hnx : ∀ ty, (Instr.next (.pointer (some ⟨w1.heap.size, 0, none⟩)) true ty).run Tryd.prog (w1.iter t pos) = _ := fun ty => run_next_end w1 t pos ty (by rw [HZ.out]; exact hp)
        obtain ⟨hc2, hf2⟩ := bcell (iter_below w1 t pos)
        have hz2 : w.heap.size < w1.heap.size := by omega
        go_wp2_with fail
        obtain rfl : m = v := HM.out.symm.trans hv.out
        refine bodyPost_ret (v := .tuple #[tokV 2 0 [] m, .int .i64 pos, .int .i64 0]) ?_ rfl ⟨rfl, ?_⟩
        · simp [results, Tryd.results47, go_sem, hc, hc2, hz2]
        · exact fst_four ((((Below.refl _ _).alloc (Nat.le_refl _) _).trans (hb1.mono (by simp))).trans ((iter_below _ _ _).mono (by omega))) (Nat.le_refl _) _ _ _ _
end Go.Proofs.YtpfefjfpnmchcaaDoor
namespace Go.Proofs.YtpfefjfpnmchcaaDoor
open Go.RowKit

theorem u8info : (Tryd.prog.info? 5).map (fun i => (i.zero, i.size, i.bytes)) = some (some (.int .u8 0), 1, 1) := by kernel_rfl

theorem clone_none (w : World) : Calls Tryd.prog 79 #[.string ⟨#[]⟩] w fun e w' => e = .returned (.string ⟨#[]⟩) ∧ Below w.heap.size w w' := by
  go_enter Tryd.func79, Tryd.ntmps79
  go_wp2
  go_ret
  exact ⟨rfl, Below.refl _ _⟩

set_option maxHeartbeats 1600000 in
set_option maxRecDepth 100000 in
theorem clone_some (s : ByteArray) (w : World) (hs : s.size ≤ 1000000) (h0 : 0 < s.size) :
    Calls Tryd.prog 79 #[.string s] w fun e w' => e = .returned (.string s) ∧ Below w.heap.size w w' := by
  obtain ⟨i0, hi, hz0, hz1, hz2⟩ := info_parts u8info
  have hinfo : (Tryd.prog.info? 5).map (·.size) = some 1 := by rw [hi]; simp [hz1]
  have hco : Tryd.prog.cellsOf 5 = 1 := by simp [Program.cellsOf, hi, hz1]
  -- the row that make lays, under a name
  obtain ⟨M, hM⟩ : ∃ M, M = madeCells (Value.int .u8 0).cells (((s.size : Nat) : Int).toNat * i0.size) := ⟨_, rfl⟩
  have hMs : M.size = s.size := by rw [hM, size_madeCells, hz1]; simp
  have hmake : ∀ W : World, (Instr.makeSlice 72 (.int .i64 (s.size : Int)) (.int .i64 (s.size : Int))).run Tryd.prog W = .ok (.slice (some ⟨W.heap.size, 0, none⟩) s.size s.size) (W.alloc (.cells M 5)) := fun W => by
    have h := run_make (P := Tryd.prog) W 72 5 i0 (.int .u8 0) Tryd.underlying72 hi hz0 .i64 .i64 (s.size : Int) (s.size : Int) (by omega) (by omega) (by rw [hz2]; omega) (by omega)
    rw [← hM] at h
    simpa using h
  clear hM
  have hcopy := Lib.run_copy_row_string (P := Tryd.prog) (w.alloc (.cells M 5)) 72 9 3 5 w.heap.size 0 s.size s.size s M 5 Tryd.underlying72 hinfo (heap_alloc_new w _) (Nat.le_refl _) (by omega)
  obtain ⟨Y, hY⟩ : ∃ Y, Y = (M.toList.take 0 ++ Lib.byteCells s.data.toList ++ M.toList.drop (0 + s.size)).toArray := ⟨_, rfl⟩
  rw [← hY] at hcopy
  have hYl : Y.toList = Lib.byteCells s.data.toList := by
    rw [hY, List.take_zero, List.nil_append, List.drop_of_length_le (by rw [Array.length_toList]; omega), List.append_nil]
  have hYs : Y.size = s.size := by rw [← Array.length_toList, hYl, Lib.byteCells_length, ← Lib.size_eq]
  have hgY : ((w.alloc (.cells M 5)).setRow w.heap.size Y).heap[w.heap.size]? = some (.cells Y 5 (0, 0)) := setRow_heap _ _ M _ 5 (0, 0) (heap_alloc_new w _)
  have hne : s.data.toList ≠ [] := fun e => by
    have h2 : s.size = 0 := by rw [Lib.size_eq, e]; rfl
    omega
  have hstr := Lib.run_unsafeString_row (P := Tryd.prog) ((w.alloc (.cells M 5)).setRow w.heap.size Y) 102 3 9 5 Tryd.underlying102 hco w.heap.size Y.size (by unfold World.shape?; rw [hgY]) s.data.toList hne (by rw [← Lib.size_eq s, hYs]; exact Nat.le_refl _) (by rw [← Lib.size_eq s]; omega)
    (fun j x hx => Lib.cells_of_row hgY Y.size j _ (by rw [List.take_of_length_le (by rw [Array.length_toList]; exact Nat.le_refl _), hYl]; simp [Lib.byteCells, hx]))
  rw [← Lib.size_eq] at hstr
  clear hY
  have hb1 : Below w.heap.size w (w.alloc (.cells M 5)) := (Below.refl _ w).alloc (Nat.le_refl _) _
  have hb2 : Below w.heap.size (w.alloc (.cells M 5)) ((w.alloc (.cells M 5)).setRow w.heap.size Y) := ⟨rfl, rfl, rfl, by simp, fun k hk => setRow_other (w.alloc (.cells M 5)) w.heap.size k Y (Nat.ne_of_lt hk)⟩
  have HB := Lib.hid (hb1.trans hb2)
  clear hb1 hb2
  go_enter Tryd.func79, Tryd.ntmps79
  go_wp2
  go_ret
  exact ⟨rfl, Lib.below_freeze HB.out (p := ⟨w.heap.size, 0, none⟩) (Nat.le_refl _) _⟩

theorem clone_any (s : ByteArray) (w : World) (hs : s.size ≤ 1000000) :
    Calls Tryd.prog 70 #[.string s] w fun e w' => e = .returned (.string s) ∧ Below w.heap.size w w' := by
  by_cases h0 : s.size = 0
  · obtain rfl : s = ⟨#[]⟩ := ByteArray.ext (Array.eq_empty_of_size_eq_zero h0)
    clear h0
    go_enter Tryd.func70, Tryd.ntmps70
    go_wp2_with (go_at_call 79; refine (clone_none _).mono ?_; rintro e w1 ⟨rfl, hb1⟩)
    go_ret
    exact ⟨rfl, hb1⟩
  · have h0' : 0 < s.size := by omega
    clear h0
    go_enter Tryd.func70, Tryd.ntmps70
    go_wp2_with (go_at_call 79; refine (clone_some s _ hs h0').mono ?_; rintro e w1 ⟨rfl, hb1⟩)
    go_ret
    exact ⟨rfl, hb1⟩
end Go.Proofs.YtpfefjfpnmchcaaDoor
namespace Go.Proofs.YtpfefjfpnmchcaaDoor
open Go.RowKit
open Go.Maps (setOf IsMap isMap_empty atKey_put_same atKey_put_other)

theorem keyed : Go.Maps.Keyed Tryd.prog 9 := Go.Maps.string_keyed Tryd.underlying9
theorem zeroB (w : World) : (zeroValue 4).run Tryd.prog w = .ok (.bool false) w := by kernel_rfl
abbrev yes : DataW Unit := .lit (.bool true)

/-- Block b is a map that says of a text whether it is a reserved word. -/
def WordsAt (w : World) (b : Nat) : Prop := w.ownsMap (H := Unit) Tryd.prog 9 (plainElem Tryd.prog 4) b 12 (setOf yes (words.map Lit.string))

theorem WordsAt.keep {w w' : World} {b : Nat} (h : WordsAt w b) (hb : w'.heap[b]? = w.heap[b]?) : WordsAt w' b := by
  obtain ⟨es, clock, h1, h2⟩ := h
  exact ⟨es, clock, hb.trans h1, h2⟩
theorem WordsAt.lt {w : World} {b : Nat} (h : WordsAt w b) : b < w.heap.size := World.ownsMap.lt h
theorem WordsAt.below {w w' : World} {b B : Nat} (h : WordsAt w b) (hb : Below B w w') (hB : b < B) : WordsAt w' b := h.keep (hb.block b hB)

theorem atKey_fold (k : Lit) (hk : WideAt.IsKeyLit k) : ∀ (acc : List Lit) (m : DataW Unit), IsMap m → ∀ z, (k ∈ acc → (acc.foldl (fun m x => m.put x yes) m).atKey k z = yes) ∧ (k ∉ acc → (acc.foldl (fun m x => m.put x yes) m).atKey k z = m.atKey k z)
  | [], m, _, z => ⟨fun h => by simp at h, fun _ => rfl⟩
  | x :: acc, m, hm, z => by
    have ih := atKey_fold k hk acc _ (hm.put x yes) z
    rw [List.foldl_cons]
    refine ⟨fun h => ?_, fun h => ?_⟩
    · by_cases h1 : k ∈ acc
      · exact ih.1 h1
      · rw [ih.2 h1]
        obtain rfl : k = x := by
          rcases List.mem_cons.1 h with h | h
          · exact h
          · exact absurd h h1
        exact atKey_put_same hm hk _ _
    · rw [ih.2 (fun e => h (List.mem_cons_of_mem _ e))]
      exact atKey_put_other (fun e => h (by rw [e]; exact List.mem_cons_self)) _ _

set_option maxRecDepth 100000 in
theorem WordsAt.look {w : World} {b : Nat} (h : WordsAt w b) (s : ByteArray) (hs : s.size ≤ maxLen) (r : Bool) (hr : Hid (decide (s.data.toList ∈ words) = r)) :
    (Instr.lookup 82 (.map (some b)) (.string s) false).run Tryd.prog w = .ok (.bool r) w := by
  obtain ⟨v, ps, hrun, hv⟩ := World.ownsMap.lookup h keyed Tryd.underlying82 (zeroB w) (plainElem_bool Tryd.underlying4 false) (Go.WideMaps.keyOf_string_mk Tryd.underlying9 hs)
  have hk : WideAt.IsKeyLit (.string s.data.toList) := by simp [WideAt.IsKeyLit]
  have hat : (setOf yes (words.map Lit.string)).atKey (.string s.data.toList) (.lit (.bool false)) = (.lit (.bool r) : DataW Unit) := by
    unfold setOf
    have hf := atKey_fold _ hk (words.map Lit.string) _ isMap_empty (.lit (.bool false))
    have hmem : Lit.string s.data.toList ∈ words.map Lit.string ↔ s.data.toList ∈ words := by simp
    by_cases hin : s.data.toList ∈ words
    · rw [hf.1 (hmem.2 hin), ← hr.out, decide_eq_true hin]
    · rw [hf.2 (fun e => hin (hmem.1 e)), ← hr.out, decide_eq_false hin]; rfl
  rw [hat] at hv
  have hvb : v = .bool r := by
    unfold plainElem at hv
    rw [Tryd.underlying4] at hv
    cases v <;> simp at hv
    rw [hv.1]
  rw [hrun, hvb]

set_option maxRecDepth 100000 in
set_option maxHeartbeats 1600000 in
theorem reserved_any (w : World) : Calls Tryd.prog 27 #[] w fun e w' => ∃ b, e = .returned (.map (some b)) ∧ WordsAt w' b ∧ w.heap.size ≤ b ∧ Below w.heap.size w w' := by
  have hmm := @run_makeMap Tryd.prog
  have hm := Below.alloc (Below.refl w.heap.size w) (Nat.le_refl _) (.map #[] 0)
  have o0 := World.ownsMap_made (H := Unit) w Tryd.prog 9 (plainElem Tryd.prog 4)
  obtain ⟨w1, r1, o1, g1⟩ := o0.update keyed Tryd.underlying82 (by unfold maxLen; omega) (key := .string ⟨#[114, 101, 99, 111, 114, 100]⟩) (val := .bool true) (Go.WideMaps.keyOf_string_mk Tryd.underlying9 (by decide)) (plainElem_bool Tryd.underlying4 true)
  obtain ⟨w2, r2, o2, g2⟩ := o1.update keyed Tryd.underlying82 (by unfold maxLen; omega) (key := .string ⟨#[102, 117, 110, 99]⟩) (val := .bool true) (Go.WideMaps.keyOf_string_mk Tryd.underlying9 (by decide)) (plainElem_bool Tryd.underlying4 true)
  obtain ⟨w3, r3, o3, g3⟩ := o2.update keyed Tryd.underlying82 (by unfold maxLen; omega) (key := .string ⟨#[118, 97, 114]⟩) (val := .bool true) (Go.WideMaps.keyOf_string_mk Tryd.underlying9 (by decide)) (plainElem_bool Tryd.underlying4 true)
  obtain ⟨w4, r4, o4, g4⟩ := o3.update keyed Tryd.underlying82 (by unfold maxLen; omega) (key := .string ⟨#[105, 110, 116]⟩) (val := .bool true) (Go.WideMaps.keyOf_string_mk Tryd.underlying9 (by decide)) (plainElem_bool Tryd.underlying4 true)
  obtain ⟨w5, r5, o5, g5⟩ := o4.update keyed Tryd.underlying82 (by unfold maxLen; omega) (key := .string ⟨#[105, 102]⟩) (val := .bool true) (Go.WideMaps.keyOf_string_mk Tryd.underlying9 (by decide)) (plainElem_bool Tryd.underlying4 true)
  obtain ⟨w6, r6, o6, g6⟩ := o5.update keyed Tryd.underlying82 (by unfold maxLen; omega) (key := .string ⟨#[101, 108, 115, 101]⟩) (val := .bool true) (Go.WideMaps.keyOf_string_mk Tryd.underlying9 (by decide)) (plainElem_bool Tryd.underlying4 true)
  obtain ⟨w7, r7, o7, g7⟩ := o6.update keyed Tryd.underlying82 (by unfold maxLen; omega) (key := .string ⟨#[119, 104, 105, 108, 101]⟩) (val := .bool true) (Go.WideMaps.keyOf_string_mk Tryd.underlying9 (by decide)) (plainElem_bool Tryd.underlying4 true)
  obtain ⟨w8, r8, o8, g8⟩ := o7.update keyed Tryd.underlying82 (by unfold maxLen; omega) (key := .string ⟨#[114, 101, 116, 117, 114, 110]⟩) (val := .bool true) (Go.WideMaps.keyOf_string_mk Tryd.underlying9 (by decide)) (plainElem_bool Tryd.underlying4 true)
  obtain ⟨w9, r9, o9, g9⟩ := o8.update keyed Tryd.underlying82 (by unfold maxLen; omega) (key := .string ⟨#[116, 104, 114, 111, 119]⟩) (val := .bool true) (Go.WideMaps.keyOf_string_mk Tryd.underlying9 (by decide)) (plainElem_bool Tryd.underlying4 true)
  obtain ⟨w10, r10, o10, g10⟩ := o9.update keyed Tryd.underlying82 (by unfold maxLen; omega) (key := .string ⟨#[116, 114, 121]⟩) (val := .bool true) (Go.WideMaps.keyOf_string_mk Tryd.underlying9 (by decide)) (plainElem_bool Tryd.underlying4 true)
  obtain ⟨w11, r11, o11, g11⟩ := o10.update keyed Tryd.underlying82 (by unfold maxLen; omega) (key := .string ⟨#[99, 97, 116, 99, 104]⟩) (val := .bool true) (Go.WideMaps.keyOf_string_mk Tryd.underlying9 (by decide)) (plainElem_bool Tryd.underlying4 true)
  obtain ⟨w12, r12, o12, g12⟩ := o11.update keyed Tryd.underlying82 (by unfold maxLen; omega) (key := .string ⟨#[112, 114, 105, 110, 116]⟩) (val := .bool true) (Go.WideMaps.keyOf_string_mk Tryd.underlying9 (by decide)) (plainElem_bool Tryd.underlying4 true)
  have hb1 := hm.grown g1 (by simp) (by simp)
  have hb2 := hb1.grown g2 (hb1.size) (by simp)
  have hb3 := hb2.grown g3 (hb2.size) (by simp)
  have hb4 := hb3.grown g4 (hb3.size) (by simp)
  have hb5 := hb4.grown g5 (hb4.size) (by simp)
  have hb6 := hb5.grown g6 (hb5.size) (by simp)
  have hb7 := hb6.grown g7 (hb6.size) (by simp)
  have hb8 := hb7.grown g8 (hb7.size) (by simp)
  have hb9 := hb8.grown g9 (hb8.size) (by simp)
  have hb10 := hb9.grown g10 (hb9.size) (by simp)
  have hb11 := hb10.grown g11 (hb10.size) (by simp)
  have hb12 := hb11.grown g12 (hb11.size) (by simp)
  have HO : Hid (WordsAt w12 w.heap.size) := o12
  have HB := Lib.hid hb12
  clear o1 g1 hb1 o2 g2 hb2 o3 g3 hb3 o4 g4 hb4 o5 g5 hb5 o6 g6 hb6 o7 g7 hb7 o8 g8 hb8 o9 g9 hb9 o10 g10 hb10 o11 g11 hb11 o12 g12 hb12 o0 hm
  go_enter Tryd.func27, Tryd.ntmps27
  go_wp2
  go_ret
  exact ⟨_, rfl, HO.out, Nat.le_refl _, HB.out⟩
end Go.Proofs.YtpfefjfpnmchcaaDoor
namespace Go.Proofs.YtpfefjfpnmchcaaDoor
open Go.RowKit

set_option maxRecDepth 100000 in
theorem fname_long (s : ByteArray) (b : Nat) (w : World) (n : Nat) (hn : Hid (span isLD s.data.toList = n)) (h : 12 < n) :
    Calls Tryd.prog 49 #[.string s, .map (some b)] w fun e w' => e = fstV 0 0 [] 0 0 5 ∧ Below w.heap.size w w' := by
  go_enter Tryd.func49, Tryd.ntmps49
  go_wp2_with (go_at_call 68; refine (span_ld s _ n hn).mono ?_; rintro e w1 ⟨rfl, hb1⟩; obtain ⟨hc, hf⟩ := bcell hb1; have hz := hb1.size; simp at hz)
  refine bodyPost_ret (v := .tuple #[tokV 0 0 [] 0, .int .i64 0, .int .i64 5]) ?_ rfl ⟨rfl, ?_⟩
  · simp [results, Tryd.results49, go_sem, hc]
  · exact fst_four (((Below.refl _ _).alloc (Nat.le_refl _) _).trans (hb1.mono (by simp))) (Nat.le_refl _) _ _ _ _


set_option maxRecDepth 100000 in
set_option maxHeartbeats 800000 in
theorem fname_word (s : ByteArray) (b : Nat) (w : World) (hW : WordsAt w b) (n : Nat) (hn : Hid (span isLD s.data.toList = n)) (h : n ≤ 12) (hle : n ≤ s.size) (hin : Hid (decide (s.data.toList.take n ∈ words) = true)) (tx : List UInt8) (htx : Hid (s.data.toList.take n = tx)) :
    Calls Tryd.prog 49 #[.string s, .map (some b)] w fun e w' => e = fstV 3 0 tx 0 n 0 ∧ Below w.heap.size w w' := by
  have hlt := hW.lt
  have hlook : Hid (∀ W : World, Below w.heap.size w W → (Instr.lookup 82 (.map (some b)) (.string (s.extract 0 n)) false).run Tryd.prog W = .ok (.bool true) W) := Lib.hid fun W hb =>
    (hW.below hb hlt).look (s.extract 0 n) (by simp [maxLen]; omega) true (by rw [Lib.extract_from_zero]; exact hin)
  have hW' := Lib.hid hW
  clear hW
  go_enter Tryd.func49, Tryd.ntmps49
  go_wp2_with fail
  refine (span_ld s _ n hn).mono ?_
  rintro e w1 ⟨rfl, hb1⟩
  obtain ⟨hc, hf⟩ := bcell hb1
  have hz := hb1.size
  simp at hz
  have hz2 : w.heap.size < w1.heap.size := by omega
  have hb1' : Below w.heap.size w w1 := ((Below.refl _ _).alloc (Nat.le_refl _) _).trans (hb1.mono (by simp))
  have hl1 := hlook.out w1 hb1'
  go_wp2_with fail
  refine (clone_any (s.extract 0 n) _ (by simp; omega)).mono ?_
  rintro e w2 ⟨rfl, hb2⟩
  obtain ⟨hc2, hf2⟩ := bcell hb2
  go_wp2_with fail
  refine bodyPost_ret (v := .tuple #[tokV 3 0 tx 0, .int .i64 n, .int .i64 0]) ?_ rfl ⟨rfl, ?_⟩
  · have hx : s.extract 0 n = ⟨tx.toArray⟩ := by
      apply ByteArray.ext
      apply Array.ext'
      rw [Lib.extract_from_zero, htx.out]
    simp [results, Tryd.results49, go_sem, hc, hc2, hz2, hx]
  · exact fst_four (hb1'.trans (hb2.mono (Nat.le_of_lt hz2))) (Nat.le_refl _) _ _ _ _

set_option maxRecDepth 100000 in
set_option maxHeartbeats 800000 in
theorem fname_name (s : ByteArray) (b : Nat) (w : World) (hW : WordsAt w b) (n : Nat) (hn : Hid (span isLD s.data.toList = n)) (h : n ≤ 12) (hle : n ≤ s.size) (hin : Hid (decide (s.data.toList.take n ∈ words) = false)) (tx : List UInt8) (htx : Hid (s.data.toList.take n = tx)) :
    Calls Tryd.prog 49 #[.string s, .map (some b)] w fun e w' => e = fstV 1 0 tx 0 n 0 ∧ Below w.heap.size w w' := by
  have hlt := hW.lt
  have hlook : Hid (∀ W : World, Below w.heap.size w W → (Instr.lookup 82 (.map (some b)) (.string (s.extract 0 n)) false).run Tryd.prog W = .ok (.bool false) W) := Lib.hid fun W hb =>
    (hW.below hb hlt).look (s.extract 0 n) (by simp [maxLen]; omega) false (by rw [Lib.extract_from_zero]; exact hin)
  have hW' := Lib.hid hW
  clear hW
  go_enter Tryd.func49, Tryd.ntmps49
  go_wp2_with fail
  refine (span_ld s _ n hn).mono ?_
  rintro e w1 ⟨rfl, hb1⟩
  obtain ⟨hc, hf⟩ := bcell hb1
  have hz := hb1.size
  simp at hz
  have hz2 : w.heap.size < w1.heap.size := by omega
  have hb1' : Below w.heap.size w w1 := ((Below.refl _ _).alloc (Nat.le_refl _) _).trans (hb1.mono (by simp))
  have hl1 := hlook.out w1 hb1'
  go_wp2_with fail
  refine (clone_any (s.extract 0 n) _ (by simp; omega)).mono ?_
  rintro e w2 ⟨rfl, hb2⟩
  obtain ⟨hc2, hf2⟩ := bcell hb2
  go_wp2_with fail
  refine bodyPost_ret (v := .tuple #[tokV 1 0 tx 0, .int .i64 n, .int .i64 0]) ?_ rfl ⟨rfl, ?_⟩
  · have hx : s.extract 0 n = ⟨tx.toArray⟩ := by
      apply ByteArray.ext
      apply Array.ext'
      rw [Lib.extract_from_zero, htx.out]
    simp [results, Tryd.results49, go_sem, hc, hc2, hz2, hx]
  · exact fst_four (hb1'.trans (hb2.mono (Nat.le_of_lt hz2))) (Nat.le_refl _) _ _ _ _
end Go.Proofs.YtpfefjfpnmchcaaDoor
namespace Go.Proofs.YtpfefjfpnmchcaaDoor
open Go.RowKit

/-- The signs, in the order in which the code looks for them. -/
def signs : List (List UInt8) := [[60, 61], [61, 61], [33, 61], [40], [41], [123], [125], [91], [93], [44], [59], [58], [46], [43], [45], [42], [47], [37], [38], [124], [94], [60], [61], [33]]
def signsA : Array Value := #[.string ⟨#[60, 61]⟩, .string ⟨#[61, 61]⟩, .string ⟨#[33, 61]⟩, .string ⟨#[40]⟩, .string ⟨#[41]⟩, .string ⟨#[123]⟩, .string ⟨#[125]⟩, .string ⟨#[91]⟩, .string ⟨#[93]⟩, .string ⟨#[44]⟩, .string ⟨#[59]⟩, .string ⟨#[58]⟩, .string ⟨#[46]⟩, .string ⟨#[43]⟩, .string ⟨#[45]⟩, .string ⟨#[42]⟩, .string ⟨#[47]⟩, .string ⟨#[37]⟩, .string ⟨#[38]⟩, .string ⟨#[124]⟩, .string ⟨#[94]⟩, .string ⟨#[60]⟩, .string ⟨#[61]⟩, .string ⟨#[33]⟩]
/-- The package's variable holds the signs. -/
def SignsAt (w : World) : Prop := ∃ t fr, w.heap[0]? = some (.cells signsA t fr)
set_option maxRecDepth 100000 in
theorem SignsAt.lt {w : World} (h : SignsAt w) : 0 < w.heap.size := by
  obtain ⟨t, fr, h⟩ := h
  exact (Array.getElem?_eq_some_iff.1 h).1
set_option maxRecDepth 100000 in
theorem SignsAt.below {w w' : World} {B : Nat} (h : SignsAt w) (hb : Below B w w') (hB : 0 < B) : SignsAt w' := by
  obtain ⟨t, fr, h⟩ := h
  exact ⟨t, fr, (hb.block 0 hB).trans h⟩

set_option maxRecDepth 100000 in
theorem pre_iff {l p : List UInt8} : pre l p = true ↔ l.take p.length = p := by simp [pre]
set_option maxRecDepth 100000 in
theorem pre_not {l p : List UInt8} : pre l p = false ↔ l.take p.length ≠ p := by simp [pre]
set_option maxRecDepth 100000 in
theorem signs_one : ∀ k, k < 24 → 3 ≤ k → ∃ c ∈ ones, signs.getD k [] = [c] := by decide
set_option maxRecDepth 100000 in
theorem ones_sign : ∀ c ∈ ones, ∃ k, k < 24 ∧ 3 ≤ k ∧ signs.getD k [] = [c] := by decide
set_option maxRecDepth 100000 in
theorem twos_sign : ∀ x ∈ twos, ∃ k, k < 3 ∧ signs.getD k [] = x := by decide
set_option maxRecDepth 100000 in
theorem signs_two : ∀ k, k < 3 → signs.getD k [] ∈ twos ∧ (signs.getD k []).length = 2 := by decide
set_option maxRecDepth 100000 in
theorem signs_ne : ∀ k, k < 24 → signs.getD k [] ≠ [] := by decide
set_option maxRecDepth 100000 in
theorem sign_none {l : List UInt8} (h : ∀ j, j < 24 → pre l (signs.getD j []) = false) : sign l = [] := by
  unfold sign
  rw [if_neg, if_neg]
  · rintro ⟨c, hc, hone⟩
    obtain ⟨k, hk, _, hs⟩ := ones_sign c hone
    have h1 := h k hk
    rw [hs, pre_not] at h1
    apply h1
    match l, hc with
    | x :: l, hc => simpa using hc
  · intro ht
    obtain ⟨k, hk, hs⟩ := twos_sign _ ht
    have h1 := h k (by omega)
    rw [pre_not] at h1
    apply h1
    rw [(signs_two k hk).2, hs]
set_option maxRecDepth 100000 in
theorem sign_found {l : List UInt8} {k : Nat} (hk : k < 24) (h : ∀ j, j < k → pre l (signs.getD j []) = false) (hp : pre l (signs.getD k []) = true) : sign l = signs.getD k [] := by
  rw [pre_iff] at hp
  unfold sign
  by_cases h3 : k < 3
  · have ht := signs_two k h3
    rw [ht.2] at hp
    rw [hp, if_pos ht.1]
  · obtain ⟨c, hc, hs⟩ := signs_one k hk (by omega)
    rw [hs] at hp ⊢
    rw [if_neg, if_pos]
    · exact hp
    · match l, hp with
      | x :: l, hp =>
        have hx : x = c := by simpa using hp
        exact ⟨x, rfl, by rw [hx]; exact hc⟩
    · intro ht
      obtain ⟨j, hj, hs2⟩ := twos_sign _ ht
      have h1 := h j (by omega)
      rw [pre_not] at h1
      apply h1
      rw [(signs_two j hj).2, hs2]

set_option maxRecDepth 100000 in
theorem sign_index (w : World) : ∀ k : Nat, k < 24 → (Instr.index 106 (.agg signsA) (.int .i64 k)).run Tryd.prog w = .ok (.string ⟨(signs.getD k []).toArray⟩) w
  | 0, _ => by kernel_rfl
  | 1, _ => by kernel_rfl
  | 2, _ => by kernel_rfl
  | 3, _ => by kernel_rfl
  | 4, _ => by kernel_rfl
  | 5, _ => by kernel_rfl
  | 6, _ => by kernel_rfl
  | 7, _ => by kernel_rfl
  | 8, _ => by kernel_rfl
  | 9, _ => by kernel_rfl
  | 10, _ => by kernel_rfl
  | 11, _ => by kernel_rfl
  | 12, _ => by kernel_rfl
  | 13, _ => by kernel_rfl
  | 14, _ => by kernel_rfl
  | 15, _ => by kernel_rfl
  | 16, _ => by kernel_rfl
  | 17, _ => by kernel_rfl
  | 18, _ => by kernel_rfl
  | 19, _ => by kernel_rfl
  | 20, _ => by kernel_rfl
  | 21, _ => by kernel_rfl
  | 22, _ => by kernel_rfl
  | 23, _ => by kernel_rfl
  | k + 24, h => absurd h (by omega)

set_option maxRecDepth 100000 in
theorem ret_tok {a b : Nat} (h : a = b) (kd ln : Nat) (tx : List UInt8) (nm er : Nat) : fstV kd ln tx nm a er = fstV kd ln tx nm b er := by rw [h]

set_option maxHeartbeats 1600000 in
set_option maxRecDepth 100000 in
theorem ftok_sign (s : ByteArray) (b : Nat) (w : World) (hS : SignsAt w) (hz : 0 < s.size) (hd : Hid (isD (s[0]'hz).toNat = false)) (hl : Hid (isL (s[0]'hz).toNat = false)) (tx : List UInt8) (htx : Hid (sign s.data.toList = tx)) :
    Calls Tryd.prog 29 #[.string s, .map (some b)] w fun e w' => (tx = [] → e = fstV 0 0 [] 0 0 6) ∧ (tx ≠ [] → e = fstV 4 0 tx 0 tx.length 0) ∧ Below w.heap.size w w' := by
  have hlt := hS.lt
  obtain ⟨t, fr, hg⟩ := hS
  have hg1 : (w.alloc (.cells #[.int .i64 0, .int .i64 0, .string ⟨#[]⟩, .int .i64 0] 87)).heap[0]? = some (.cells signsA t fr) := by rw [heap_alloc_old _ _ hlt]; exact hg
  have HG := Lib.hid hg1
  clear hg hg1
  have hsz : (Tryd.prog.info? 106).map (·.size) = some signsA.size := by kernel_rfl
  have HS := Lib.hid hsz
  clear hsz
  have hu : (s[0]'hz).toNat < 256 := (s[0]'hz).toNat_lt
  go_enter Tryd.func29, Tryd.ntmps29
  go_wp2_with (first
    | (go_at_call 46; refine (isDigit_any (s[0]'hz).toNat (by omega) _ false hd).mono ?_; rintro e w2 ⟨rfl, rfl⟩)
    | (go_at_call 48; refine (isLetter_any (s[0]'hz).toNat (by omega) _ false hl).mono ?_; rintro e w2 ⟨rfl, rfl⟩)
    | (with_reducible refine wpList_load_row rfl 106 (.global 0) rfl 0 rfl t signsA fr _ HG.out Tryd.underlying106 rfl HS.out ?_))
  go_loop [31] (fun i => ∃ k : Nat, i = .int .i64 k ∧ k ≤ 24 ∧ ∀ j, j < k → pre s.data.toList (signs.getD j []) = false) (fun i => 24 - (intOf i).toNat)
  case atStart => exact ⟨0, rfl, by omega, fun j hj => by omega⟩
  case round =>
    obtain ⟨k, rfl, hk, hall⟩ := hrel
    have HA := Lib.hid hall
    clear hall
    by_cases hlt24 : k < 24
    · have hix : ∀ W, (Instr.index 106 (.agg signsA) (.int .i64 k)).run Tryd.prog W = .ok (.string ⟨(signs.getD k []).toArray⟩) W := fun W => sign_index W k hlt24
      obtain ⟨p, hp⟩ : ∃ p, Hid ((⟨(signs.getD k []).toArray⟩ : ByteArray) = p) := ⟨_, Lib.hid rfl⟩
      rw [hp.out] at hix
      have hpl : p.data.toList = signs.getD k [] := by rw [← hp.out]
      have HPL := Lib.hid hpl
      clear hpl
      by_cases hpre : pre s.data.toList (signs.getD k []) = true
      · have HP : Hid (pre s.data.toList p.data.toList = true) := by rw [HPL.out]; exact Lib.hid hpre
        have HF := Lib.hid (sign_found hlt24 HA.out hpre)
        clear hpre
        go_wp2_with (go_at_call 45; refine (hasPrefix_any s p _ true HP).mono ?_; rintro e w1 ⟨rfl, rfl⟩)
        have hk1 : signs.getD k [] = tx := HF.out.symm.trans htx.out
        have hx : p = ⟨tx.toArray⟩ := by rw [← hp.out, hk1]
        have hne : tx ≠ [] := by rw [← hk1]; exact signs_ne k hlt24
        refine bodyPost_ret (v := .tuple #[tokV 4 0 tx 0, .int .i64 tx.length, .int .i64 0]) ?_ rfl ⟨fun h => absurd h hne, fun _ => rfl, ?_⟩
        · simp [results, Tryd.results29, go_sem, hx]
        · exact (Below.refl _ _).alloc (Nat.le_refl _) _
      · have hpre : pre s.data.toList (signs.getD k []) = false := by simpa using hpre
        have HP : Hid (pre s.data.toList p.data.toList = false) := by rw [HPL.out]; exact Lib.hid hpre
        have HN : Hid (∀ j, j < k + 1 → pre s.data.toList (signs.getD j []) = false) := Lib.hid fun j hj => by
          by_cases hjk : j = k
          · rw [hjk]; exact hpre
          · exact HA.out j (by omega)
        clear hpre
        go_wp2_with (go_at_call 45; refine (hasPrefix_any s p _ false HP).mono ?_; rintro e w1 ⟨rfl, rfl⟩)
        go_round
        case rel => exact ⟨k + 1, by go_num, by omega, HN.out⟩
        case measure => simp [intOf]; omega
    · obtain rfl : k = 24 := by omega
      have hn := sign_none HA.out
      rw [htx.out] at hn
      subst hn
      go_wp2_with fail
      refine bodyPost_ret (v := .tuple #[tokV 0 0 [] 0, .int .i64 0, .int .i64 6]) ?_ rfl ⟨rfl, ?_⟩
      · simp [results, Tryd.results29, go_sem]
      · exact (Below.refl _ _).alloc (Nat.le_refl _) _

set_option maxRecDepth 100000 in
set_option maxHeartbeats 800000 in
theorem ftok_digit (s : ByteArray) (b : Nat) (w : World) (hz : 0 < s.size) (hd : Hid (isD (s[0]'hz).toNat = true)) (kd : Nat) (tx : List UInt8) (nm sz er : Nat)
    (hc0 : Hid (∀ W : World, Calls Tryd.prog 47 #[.string s] W fun e w' => e = fstV kd 0 tx nm sz er ∧ Below W.heap.size W w')) :
    Calls Tryd.prog 29 #[.string s, .map (some b)] w fun e w' => e = fstV kd 0 tx nm sz er ∧ Below w.heap.size w w' := by
  have hu : (s[0]'hz).toNat < 256 := (s[0]'hz).toNat_lt
  go_enter Tryd.func29, Tryd.ntmps29
  go_wp2_with (first
    | (go_at_call 46; refine (isDigit_any (s[0]'hz).toNat (by omega) _ true hd).mono ?_; rintro e w2 ⟨rfl, rfl⟩)
    | (go_at_call 47; refine (hc0.out _).mono ?_; rintro e w1 ⟨rfl, hb1⟩; obtain ⟨hc, hf⟩ := bcell hb1))
  refine bodyPost_ret (v := .tuple #[tokV kd 0 tx nm, .int .i64 sz, .int .i64 er]) ?_ rfl ⟨rfl, ?_⟩
  · simp [results, Tryd.results29, go_sem, hc]
  · exact fst_four (((Below.refl _ _).alloc (Nat.le_refl _) _).trans (hb1.mono (by simp))) (Nat.le_refl _) _ _ _ _

set_option maxRecDepth 100000 in
set_option maxHeartbeats 800000 in
theorem ftok_name (s : ByteArray) (b : Nat) (w : World) (hW : WordsAt w b) (hz : 0 < s.size) (hd : Hid (isD (s[0]'hz).toNat = false)) (hl : Hid (isL (s[0]'hz).toNat = true)) (kd : Nat) (tx : List UInt8) (nm sz er : Nat)
    (hc0 : Hid (∀ W : World, WordsAt W b → Calls Tryd.prog 49 #[.string s, .map (some b)] W fun e w' => e = fstV kd 0 tx nm sz er ∧ Below W.heap.size W w')) :
    Calls Tryd.prog 29 #[.string s, .map (some b)] w fun e w' => e = fstV kd 0 tx nm sz er ∧ Below w.heap.size w w' := by
  have hu : (s[0]'hz).toNat < 256 := (s[0]'hz).toNat_lt
  have HW := Lib.hid (hW.below ((Below.refl _ _).alloc (Nat.le_refl _) (.cells #[.int .i64 0, .int .i64 0, .string ⟨#[]⟩, .int .i64 0] 87)) hW.lt)
  clear hW
  go_enter Tryd.func29, Tryd.ntmps29
  go_wp2_with (first
    | (go_at_call 46; refine (isDigit_any (s[0]'hz).toNat (by omega) _ false hd).mono ?_; rintro e w2 ⟨rfl, rfl⟩)
    | (go_at_call 48; refine (isLetter_any (s[0]'hz).toNat (by omega) _ true hl).mono ?_; rintro e w2 ⟨rfl, rfl⟩)
    | (go_at_call 49; refine (hc0.out _ HW.out).mono ?_; rintro e w1 ⟨rfl, hb1⟩; obtain ⟨hc, hf⟩ := bcell hb1))
  refine bodyPost_ret (v := .tuple #[tokV kd 0 tx nm, .int .i64 sz, .int .i64 er]) ?_ rfl ⟨rfl, ?_⟩
  · simp [results, Tryd.results29, go_sem, hc]
  · exact fst_four (((Below.refl _ _).alloc (Nat.le_refl _) _).trans (hb1.mono (by simp))) (Nat.le_refl _) _ _ _ _
end Go.Proofs.YtpfefjfpnmchcaaDoor
namespace Go.Proofs.YtpfefjfpnmchcaaDoor
open Go.RowKit

set_option maxRecDepth 100000 in
theorem tokinfo : (Tryd.prog.info? 87).map (fun i => (i.zero, i.size, i.bytes)) = some (some (.agg #[.int .i64 0, .int .i64 0, .string ⟨#[]⟩, .int .i64 0]), 4, 40) := by kernel_rfl

/-- A token's cells. -/
def Tok.cells (t : Tok) : List Value := [.int .i64 t.kind, .int .i64 t.line, .string ⟨t.text.toArray⟩, .int .i64 t.num]
def tvals (l : List Tok) : List Value := l.flatMap Tok.cells
set_option maxRecDepth 100000 in
theorem tvals_append (a b : List Tok) : tvals (a ++ b) = tvals a ++ tvals b := by simp [tvals]
set_option maxRecDepth 100000 in
theorem tvals_one (t : Tok) : tvals [t] = t.cells := by simp [tvals]
set_option maxRecDepth 100000 in
theorem tvals_length : ∀ l : List Tok, (tvals l).length = l.length * 4
  | [] => rfl
  | t :: l => by
    have := tvals_length l
    simp only [tvals, List.flatMap_cons, List.length_append, List.length_cons] at *
    have h : t.cells.length = 4 := rfl
    omega
set_option maxRecDepth 100000 in
theorem tvals_at : ∀ (l : List Tok) (k j : Nat) (t : Tok), l[k]? = some t → j < 4 → (tvals l)[k * 4 + j]? = t.cells[j]?
  | [], k, j, t, h, _ => by simp at h
  | x :: l, 0, j, t, h, hj => by
    obtain rfl : x = t := by simpa using h
    have hl : x.cells.length = 4 := rfl
    simp only [tvals, List.flatMap_cons]
    rw [List.getElem?_append_left (by omega)]
    congr 1; omega
  | x :: l, k + 1, j, t, h, hj => by
    have ih := tvals_at l k j t (by simpa using h) hj
    have hl : x.cells.length = 4 := rfl
    simp only [tvals, List.flatMap_cons] at *
    rw [List.getElem?_append_right (by omega), ← ih]
    congr 1; omega
set_option maxRecDepth 100000 in
theorem tok_oneCell (t : Tok) : ∀ u ∈ t.cells, u.oneCell' = true := by
  intro u hu
  simp only [Tok.cells, List.mem_cons, List.not_mem_nil, or_false] at hu
  rcases hu with rfl | rfl | rfl | rfl <;> rfl

/-- The slice value '.slice A l.length c' reads as the tokens l, in blocks below B. -/
structure Toks (w : World) (B : Nat) (A : Option Addr) (c : Nat) (l : List Tok) : Prop where
  len : l.length ≤ c
  cap : c ≤ maxLen
  bare : A = none → c = 0
  at_ : l ≠ [] → ∃ b, A = some ⟨b, 0, none⟩ ∧ b < B ∧ ∀ k t, l[k]? = some t →
    w.cell? ⟨b, k * 4, none⟩ = some (.int .i64 t.kind) ∧ w.cell? ⟨b, k * 4 + 1, none⟩ = some (.int .i64 t.line) ∧ w.cell? ⟨b, k * 4 + 2, none⟩ = some (.string ⟨t.text.toArray⟩) ∧ w.cell? ⟨b, k * 4 + 3, none⟩ = some (.int .i64 t.num)

section
variable {w w' : World} {B c : Nat} {A : Option Addr} {l : List Tok}
set_option maxRecDepth 100000 in
theorem Toks.keep {B' : Nat} (h : Toks w B A c l) (hB : B ≤ B') (hk : ∀ p : Addr, p.block < B → w'.cell? p = w.cell? p) : Toks w' B' A c l :=
  ⟨h.len, h.cap, h.bare, fun hl => by
    obtain ⟨b, e, hb, hc⟩ := h.at_ hl
    refine ⟨b, e, by omega, fun k t ht => ?_⟩
    obtain ⟨h1, h2, h3, h4⟩ := hc k t ht
    exact ⟨(hk _ hb).trans h1, (hk _ hb).trans h2, (hk _ hb).trans h3, (hk _ hb).trans h4⟩⟩
set_option maxRecDepth 100000 in
theorem Toks.below {B' : Nat} (h : Toks w B A c l) (hb : Below B' w w') (hB : B ≤ B') (hs : B ≤ w'.heap.size) : Toks w' w'.heap.size A c l :=
  h.keep hs fun p hp => hb.cell (by omega)
set_option maxRecDepth 100000 in
theorem toks_nil (w : World) (B : Nat) : Toks w B none 0 [] := ⟨by simp, by simp [maxLen], fun _ => rfl, fun h => absurd rfl h⟩
set_option maxRecDepth 100000 in
theorem toks_own {base n : Nat} {v : Value} (h : w.ownsRow base 87 4 v n (tvals l)) : ∃ A C, v = .slice A l.length C ∧ n = l.length ∧ Toks w w.heap.size A C l := by
  have hlen := h.1
  rw [tvals_length] at hlen
  have hn : n = l.length := by omega
  subst hn
  rcases h.2 with ⟨hv, hn⟩ | ⟨g, cap, cur, hv, hb, hg, hnc, hcm, hs, ht⟩
  · have : l = [] := List.eq_nil_of_length_eq_zero hn
    subst this
    exact ⟨_, _, hv, rfl, toks_nil _ _⟩
  · refine ⟨_, _, hv, rfl, hnc, hcm, fun h => (by cases h), fun hl => ⟨g, rfl, (Array.getElem?_eq_some_iff.1 hg).1, fun k t hkt => ?_⟩⟩
    have hown : v.ownBlock = some g := by rw [hv]; rfl
    have hc : ∀ j, j < 4 → w.cell? ⟨g, k * 4 + j, none⟩ = t.cells[j]? := fun j hj => by
      have h1 := tvals_at l k j t hkt hj
      have h3 : j < t.cells.length := hj
      have h2 := h.cells hown (k * 4 + j) (t.cells[j]'h3) (by rw [h1, List.getElem?_eq_getElem h3])
      rw [List.getElem?_eq_getElem h3]
      rw [← h2]
      congr 1
      unfold Addr.add
      split <;> simp_all
    exact ⟨hc 0 (by omega), hc 1 (by omega), hc 2 (by omega), hc 3 (by omega)⟩
end

set_option maxRecDepth 100000 in
theorem head_zero (s : ByteArray) (hz : 0 < s.size) : ∃ l, s.data.toList = (s[0]'hz) :: l := ⟨_, drop_cons s 0 hz⟩
set_option maxRecDepth 100000 in
theorem head_at (s : ByteArray) (n : Nat) : (∀ h : n < s.size, (s.data.toList.drop n).head? = some (s[n]'h)) ∧ (¬ n < s.size → (s.data.toList.drop n).head? = none) := by
  refine ⟨fun h => ?_, fun h => ?_⟩
  · rw [drop_cons s n h]; rfl
  · rw [drop_end s n h]; rfl

set_option maxRecDepth 100000 in
/-- The token that a text begins with. -/
theorem ftok_any (s : ByteArray) (b : Nat) (w : World) (hS : SignsAt w) (hW : WordsAt w b) (hz : 0 < s.size) (kd : Nat) (tx : List UInt8) (nm sz er : Nat) (hF : Hid (fst s.data.toList = ⟨kd, tx, nm, sz, er⟩)) :
    Calls Tryd.prog 29 #[.string s, .map (some b)] w fun e w' => e = fstV kd 0 tx nm sz er ∧ Below w.heap.size w w' := by
  obtain ⟨l, hl⟩ := head_zero s hz
  have hF' := hF.out
  have hfd : fst s.data.toList = if isD (s[0]'hz).toNat = true then fstNum s.data.toList else if isL (s[0]'hz).toNat = true then fstName s.data.toList else fstSign s.data.toList := by rw [hl]; rfl
  rw [hfd] at hF'
  by_cases hd : isD (s[0]'hz).toNat = true
  · rw [if_pos hd] at hF'
    refine ftok_digit s b w hz (Lib.hid hd) kd tx nm sz er (Lib.hid fun W => ?_)
    unfold fstNum at hF'
    have hle := span_le isD s.data.toList
    by_cases h18 : 18 < span isD s.data.toList
    · rw [if_pos h18] at hF'
      injection hF' with e1 e2 e3 e4 e5
      subst e1; subst e2; subst e3; subst e4; subst e5
      exact fnum_long s W _ (Lib.hid rfl) h18
    · rw [if_neg h18] at hF'
      by_cases hlt : span isD s.data.toList < s.size
      · have hh := (head_at s (span isD s.data.toList)).1 hlt
        by_cases hlet : isL (s[span isD s.data.toList]'hlt).toNat = true
        · rw [if_pos ⟨_, hh, hlet⟩] at hF'
          injection hF' with e1 e2 e3 e4 e5
          subst e1; subst e2; subst e3; subst e4; subst e5
          exact fnum_bad s W _ (Lib.hid rfl) (by omega) hlt (Lib.hid hlet)
        · rw [if_neg (by rintro ⟨c, hc, hc'⟩; rw [hh] at hc; obtain rfl := Option.some.inj hc; exact hlet hc')] at hF'
          injection hF' with e1 e2 e3 e4 e5
          subst e1; subst e2; subst e3; subst e4; subst e5
          exact fnum_good s W _ (Lib.hid rfl) (by omega) (by omega) (fun _ => Lib.hid (by simpa using hlet)) _ (Lib.hid rfl)
      · have hh := (head_at s (span isD s.data.toList)).2 hlt
        rw [if_neg (by rintro ⟨c, hc, _⟩; rw [hh] at hc; cases hc)] at hF'
        injection hF' with e1 e2 e3 e4 e5
        subst e1; subst e2; subst e3; subst e4; subst e5
        exact fnum_good s W _ (Lib.hid rfl) (by omega) (by simpa using hle) (fun h => absurd h hlt) _ (Lib.hid rfl)
  · rw [if_neg hd] at hF'
    have hd : isD (s[0]'hz).toNat = false := by simpa using hd
    by_cases hlet : isL (s[0]'hz).toNat = true
    · rw [if_pos hlet] at hF'
      refine ftok_name s b w hW hz (Lib.hid hd) (Lib.hid hlet) kd tx nm sz er (Lib.hid fun W hWW => ?_)
      unfold fstName at hF'
      have hle := span_le isLD s.data.toList
      by_cases h12 : 12 < span isLD s.data.toList
      · rw [if_pos h12] at hF'
        injection hF' with e1 e2 e3 e4 e5
        subst e1; subst e2; subst e3; subst e4; subst e5
        exact fname_long s b W _ (Lib.hid rfl) h12
      · rw [if_neg h12] at hF'
        injection hF' with e1 e2 e3 e4 e5
        subst e2; subst e3; subst e4; subst e5
        by_cases hin : s.data.toList.take (span isLD s.data.toList) ∈ words
        · rw [if_pos hin] at e1
          subst e1
          exact fname_word s b W hWW _ (Lib.hid rfl) (by omega) (by simpa using hle) (Lib.hid (decide_eq_true hin)) _ (Lib.hid rfl)
        · rw [if_neg hin] at e1
          subst e1
          exact fname_name s b W hWW _ (Lib.hid rfl) (by omega) (by simpa using hle) (Lib.hid (decide_eq_false hin)) _ (Lib.hid rfl)
    · rw [if_neg hlet] at hF'
      unfold fstSign at hF'
      refine (ftok_sign s b w hS hz (Lib.hid hd) (Lib.hid (by simpa using hlet)) _ (Lib.hid rfl)).mono fun e w' h => ?_
      by_cases hn : sign s.data.toList = []
      · rw [if_pos hn] at hF'
        injection hF' with e1 e2 e3 e4 e5
        subst e1; subst e2; subst e3; subst e4; subst e5
        exact ⟨h.1 hn, h.2.2⟩
      · rw [if_neg hn] at hF'
        injection hF' with e1 e2 e3 e4 e5
        subst e1; subst e2; subst e3; subst e4; subst e5
        exact ⟨h.2.1 hn, h.2.2⟩
end Go.Proofs.YtpfefjfpnmchcaaDoor
namespace Go.Proofs.YtpfefjfpnmchcaaDoor
open Go.RowKit

/-- What Scan hands back: tokens, line and error, in memory of its own. -/
def Scanned (w : World) (R : List Tok × Nat × Nat) (e : Ending) (w' : World) : Prop :=
  ∃ A C, e = .returned (.tuple #[.slice A R.1.length C, .int .i64 R.2.1, .int .i64 R.2.2]) ∧ Toks w' w'.heap.size A C R.1 ∧ Below w.heap.size w w'

set_option maxRecDepth 100000 in
theorem scan_long (s : ByteArray) (w : World) (h : 4000 < s.size) (hm : s.size ≤ 9223372036854775807) (R : List Tok × Nat × Nat) (hR : Hid (scan s.data.toList = R)) :
    Calls Tryd.prog 18 #[.string s] w (Scanned w R) := by
  obtain rfl : R = ([], 0, 5) := by rw [← hR.out]; unfold scan; rw [if_pos (by simpa using h)]
  go_enter Tryd.func18, Tryd.ntmps18
  go_wp2_with fail
  go_ret3
  exact ⟨none, 0, rfl, toks_nil _ _, Below.refl _ _⟩

set_option maxRecDepth 100000 in
/-- A map's block and a row of tokens are different blocks. -/
theorem words_apart {w : World} {b base n : Nat} {v : Value} {xs : List Value} (h : WordsAt w b) (ho : w.ownsRow base 87 4 v n xs) : v.ownBlock ≠ some b := by
  intro e
  obtain ⟨es, clock, h1, _⟩ := h
  rcases ho.2 with ⟨rfl, _⟩ | ⟨g, cap, cur, rfl, _, hg, _⟩
  · simp [Value.ownBlock] at e
  · simp [Value.ownBlock] at e
    subst e
    rw [h1] at hg
    cases hg
set_option maxRecDepth 100000 in
theorem WordsAt.grown {w w' : World} {b : Nat} {row : Option Nat} (h : WordsAt w b) (hg : w.grownBy w' row) (hne : row ≠ some b) : WordsAt w' b := h.keep (hg.block b h.lt (fun e => hne e.symm))

set_option maxRecDepth 100000 in
theorem own_below {w w' : World} {base size n : Nat} {e : TypeId} {v : Value} {xs : List Value} (h : w.ownsRow base e size v n xs) (hb : Below w.heap.size w w') : w'.ownsRow base e size v n xs :=
  h.kept (row := none) ⟨hb.os, hb.tape, hb.output, hb.size, fun k hk _ => hb.block k hk⟩ (by cases hv : v.ownBlock <;> simp)
set_option maxRecDepth 100000 in
theorem row_new (w : World) (xs : List Value) (t : TypeId) (j : Nat) (u : Value) (h : xs[j]? = some u) : (w.alloc (.cells xs.toArray t)).cell? ((⟨w.heap.size, 0, none⟩ : Addr).add j) = some u := by
  rw [Addr.add_lit, Nat.zero_add, World.cell?_alloc_at _ _ _ _ rfl]
  simpa using h
set_option maxRecDepth 100000 in
theorem row_new2 (w : World) (o : Obj) (xs : List Value) (t : TypeId) (j : Nat) (u : Value) (h : xs[j]? = some u) : ((w.alloc o).alloc (.cells xs.toArray t)).cell? ((⟨w.heap.size + 1, 0, none⟩ : Addr).add j) = some u := by
  rw [Addr.add_lit, Nat.zero_add, World.cell?_alloc_at _ _ _ _ (by simp)]
  simpa using h
set_option maxRecDepth 100000 in
theorem tok_one (a b : Int) (tx : List UInt8) (n : Int) : ∀ u ∈ [Value.int .i64 a, .int .i64 b, .string ⟨tx.toArray⟩, .int .i64 n], u.oneCell' = true := by
  intro u hu
  simp only [List.mem_cons, List.not_mem_nil, or_false] at hu
  rcases hu with rfl | rfl | rfl | rfl <;> rfl

set_option maxHeartbeats 3200000 in
set_option maxRecDepth 100000 in
theorem scan_short (s : ByteArray) (w : World) (hS : SignsAt w) (h : s.size ≤ 4000) (R : List Tok × Nat × Nat) (hR : Hid (scan s.data.toList = R)) :
    Calls Tryd.prog 18 #[.string s] w (Scanned w R) := by
  obtain ⟨i0, hi, hz0, hz1, hz2⟩ := info_parts tokinfo
  have hlt0 := hS.lt
  have HS := Lib.hid hS
  clear hS
  have hR' : Hid (scanF (s.data.toList.length + 1) s.data.toList 1 [] = R) := by
    rw [← hR.out]; unfold scan; rw [if_neg (by simp; omega)]; exact Lib.hid rfl
  clear hR
  go_enter Tryd.func18, Tryd.ntmps18
  go_wp2_with (go_at_call 27; refine (reserved_any _).mono ?_; rintro e w1 ⟨b, rfl, hW1, hbb, hb1⟩)
  have hb1' : Below w.heap.size w (w1.alloc (.cells #[] 87)) := hb1.alloc hb1.size _
  have hW1' := hW1.below ((Below.refl _ _).alloc (Nat.le_refl _) (.cells #[] 87)) hW1.lt
  have hown0 := World.ownsRow_made (base := w.heap.size) (e := 87) (size := 4) w1 #[] 0 hb1.size (by simp [maxLen]) (by simp)
  have K1 := Lib.hid hb1'
  have K2 := Lib.hid hW1'
  have K3 := Lib.hid hown0
  clear hb1' hW1' hown0 hb1 hW1
  go_loopw [6, 7, 8] (fun v ln at_ wr => ∃ (p L f : Nat) (acc : List Tok), at_ = .int .i64 p ∧ ln = .int .i64 L ∧ p ≤ s.size ∧ L ≤ p + 1 ∧ acc.length ≤ 2000 ∧ wr.ownsRow w.heap.size 87 4 v acc.length (tvals acc) ∧ WordsAt wr b ∧ Below w.heap.size w wr ∧ scanF f (s.data.toList.drop p) L acc = R ∧ s.size - p < f) (fun _ _ at_ _ => s.size - (intOf at_).toNat)
  case atStart => exact ⟨0, 1, _, [], rfl, rfl, Nat.zero_le _, Nat.le_refl _, by simp, K3.out, K2.out, K1.out, hR'.out, by simp⟩
  case round =>
    obtain ⟨p, L, f, acc, rfl, rfl, hp, hL, hacc, hown, hW, hbel, hscan, hf⟩ := hrel
    obtain ⟨A, C, rfl, _, htk⟩ := toks_own hown
    have HT := Lib.hid htk
    have HO := Lib.hid hown
    have HW := Lib.hid hW
    have HR := Lib.hid hscan
    have HB := Lib.hid hbel
    clear htk hown hW hscan hbel K1 K2 K3 hR'
    obtain ⟨N, F, hg⟩ : ∃ N F, Hid (gap false (s.data.toList.drop p) = (N, F)) := ⟨_, _, Lib.hid rfl⟩
    have hNF : N ≤ s.size - p ∧ F ≤ N := by
      have := gap_le (s.data.toList.drop p) false
      rw [hg.out] at this
      simpa using this
    obtain ⟨hN, hF⟩ := hNF
    have hg' : Hid (gap false (s.extract p s.size).data.toList = (N, F)) := by rw [Lib.extract_to_end]; exact hg
    go_wp2_with fail
    refine (gap_any (s.extract p s.size) _ (by simp; omega) N F hg').mono ?_
    rintro e w2 ⟨rfl, hb2⟩
    by_cases hend : p + N = s.size
    · have hq : ((p : Int) + (N : Int) == (s.size : Int)) = true := by rw [beq_iff_eq]; omega
      have HO2 := Lib.hid (own_below HO.out hb2)
      have HB2 := Lib.hid (HB.out.trans (hb2.mono HB.out.size))
      have hsz := HB2.out.size
      go_wp2_with (at_builtin; refine wpList_append_own _ rfl _ _ 58 rfl w.heap.size 87 i0 _ 4 40 Tryd.underlying58 hi hz0 hz1 hz2 rfl (by decide) _ acc.length (tvals acc) rfl (HO2.out.alloc _) ⟨w2.heap.size, 0, none⟩ 1 1 [.int .i64 0, .int .i64 ((L : Int) + (F : Int)), .string ⟨#[]⟩, .int .i64 0] rfl rfl (fun j u hu => row_new w2 _ _ j u hu) (tok_one _ _ [] _) (by unfold maxLen; omega) (by omega) (by simp; omega) ?_; intro v3 w3 hown3 hgrow3 _)
      have hx : (acc ++ [⟨0, L + F, [], 0⟩], 0, 0) = R := by
        rw [← HR.out]
        obtain ⟨f', rfl⟩ : ∃ f', f = f' + 1 := ⟨f - 1, by omega⟩
        unfold scanF
        have hd : (s.data.toList.drop p).drop (gap false (s.data.toList.drop p)).1 = [] := by
          rw [hg.out, List.drop_drop]; exact drop_end s _ (by omega)
        rw [if_pos hd, hg.out]
      subst hx
      have hts : tvals acc ++ [.int .i64 0, .int .i64 ((L : Int) + (F : Int)), .string ⟨#[]⟩, .int .i64 0] = tvals (acc ++ [⟨0, L + F, [], 0⟩]) := by
        rw [tvals_append, tvals_one]; simp [Tok.cells]
      rw [hts] at hown3
      obtain ⟨A3, C3, rfl, _, htk3⟩ := toks_own hown3
      go_ret3
      refine ⟨A3, C3, rfl, htk3, ?_⟩
      exact (HB2.out.alloc hsz _).grown hgrow3 (by simp; omega) (fun k hk => (HO2.out.lt k hk).1)
    · have hlt : p + N < s.size := by omega
      have hq : ((p : Int) + (N : Int) == (s.size : Int)) = false := beq_no (by omega)
      clear hend
      obtain ⟨kd, tx, nm, sz, er, hF0⟩ : ∃ kd tx nm sz er, Hid (fst (s.data.toList.drop (p + N)) = ⟨kd, tx, nm, sz, er⟩) := ⟨_, _, _, _, _, Lib.hid rfl⟩
      have hF1 : Hid (fst (s.extract (p + N) s.size).data.toList = ⟨kd, tx, nm, sz, er⟩) := by rw [Lib.extract_to_end]; exact hF0
      have HB2 := Lib.hid (HB.out.trans (hb2.mono HB.out.size))
      have HO2 := Lib.hid (own_below HO.out hb2)
      have HW2 := Lib.hid (HW.out.below hb2 HW.out.lt)
      have HS2 := Lib.hid (HS.out.below HB2.out hlt0)
      have hsz2 := HB2.out.size
      have hstep : Hid (scanF f (s.data.toList.drop p) L acc = if er ≠ 0 then ([], L + F, er) else if acc.length = 2000 then ([], L + F, 5) else scanF (f - 1) (s.data.toList.drop (p + N + sz)) (L + F) (acc ++ [⟨kd, L + F, tx, nm⟩])) := by
        obtain ⟨f', rfl⟩ : ∃ f', f = f' + 1 := ⟨f - 1, by omega⟩
        have hd : ¬ (s.data.toList.drop (p + N)) = [] := by rw [drop_cons s _ hlt]; simp
        rw [scanF]
        simp only [hg.out, List.drop_drop, hF0.out, hd, if_false, Nat.add_sub_cancel]
        exact Lib.hid trivial
      have hstep2 := hstep.out
      rw [HR.out] at hstep2
      have HX := Lib.hid hstep2
      clear hstep hstep2
      go_wp2_with fail
      refine (ftok_any (s.extract (p + N) s.size) b w2 HS2.out HW2.out (by simp; omega) kd tx nm sz er hF1).mono ?_
      rintro e w3 ⟨rfl, hb3⟩
      have HB3 := Lib.hid (HB2.out.trans (hb3.mono hsz2))
      have HO3 := Lib.hid (own_below HO2.out hb3)
      have HW3 := Lib.hid (HW2.out.below hb3 HW2.out.lt)
      have hsz3 := HB3.out.size
      by_cases her : er = 0
      · subst her
        by_cases hfull : acc.length = 2000
        · have hq2 : ((acc.length : Int) == 2000) = true := by rw [beq_iff_eq]; omega
          have HF := Lib.hid hfull
          clear hfull
          go_wp2_with fail
          have hx := HX.out
          rw [if_neg (by simp), if_pos HF.out] at hx
          subst hx
          go_ret3
          exact ⟨none, 0, rfl, toks_nil _ _, HB3.out.alloc hsz3 _⟩
        · have hq2 : ((acc.length : Int) == 2000) = false := beq_no (by omega)
          have hless : acc.length < 2000 := by omega
          clear hfull
          have hsb := fst_size (s.data.toList.drop (p + N)) (by rw [hF0.out])
          rw [hF0.out] at hsb
          simp only [List.length_drop, Array.length_toList, ByteArray.size_data] at hsb
          obtain ⟨hsb1, hsb2⟩ := hsb
          go_wp2_with (at_builtin; refine wpList_append_own _ rfl _ _ 58 rfl w.heap.size 87 i0 _ 4 40 Tryd.underlying58 hi hz0 hz1 hz2 rfl (by decide) _ acc.length (tvals acc) rfl ((HO3.out.alloc _).alloc _) ⟨w3.heap.size + 1, 0, none⟩ 1 1 [.int .i64 kd, .int .i64 ((L : Int) + (F : Int)), .string ⟨tx.toArray⟩, .int .i64 nm] rfl rfl (fun j u hu => row_new2 w3 _ _ _ j u hu) (tok_one _ _ tx _) (by unfold maxLen; omega) (by omega) (by simp; omega) ?_; intro v4 w4 hown4 hgrow4 _)
          have hx := HX.out
          rw [if_neg (by simp), if_neg (by omega)] at hx
          have hts : tvals acc ++ [.int .i64 kd, .int .i64 ((L : Int) + (F : Int)), .string ⟨tx.toArray⟩, .int .i64 nm] = tvals (acc ++ [⟨kd, L + F, tx, nm⟩]) := by
            rw [tvals_append, tvals_one]; simp [Tok.cells]
          rw [hts] at hown4
          have hbw := ((HB3.out.alloc hsz3 (.cells #[.int .i64 kd, .int .i64 ((L : Int) + (F : Int)), .string ⟨tx.toArray⟩, .int .i64 nm] 87)).alloc (by simp; omega) (.cells #[.int .i64 kd, .int .i64 ((L : Int) + (F : Int)), .string ⟨tx.toArray⟩, .int .i64 nm] 87)).grown hgrow4 (by simp; omega) (fun k hk => (HO3.out.lt k hk).1)
          have hww : WordsAt w4 b := by
            refine WordsAt.grown ?_ hgrow4 (words_apart HW3.out HO3.out)
            exact (HW3.out.below ((Below.refl _ _).alloc (Nat.le_refl _) _) HW3.out.lt).below ((Below.refl _ _).alloc (Nat.le_refl _) _) (by simp; have := HW3.out.lt; omega)
          have hln : (acc ++ [(⟨kd, L + F, tx, nm⟩ : Tok)]).length = acc.length + 1 := by simp
          have HX2 := Lib.hid hx.symm
          have HLN := Lib.hid hln
          have HWW := Lib.hid hww
          have HBW := Lib.hid hbw
          have HON := Lib.hid hown4
          clear hx hln hww hbw hown4 hts
          go_roundw
          case rel => exact ⟨p + N + sz, L + F, f - 1, _, by go_num, by go_num, by omega, by omega, by rw [HLN.out]; omega, by rw [HLN.out]; exact HON.out, HWW.out, HBW.out, HX2.out, by omega⟩
          case measure => simp [intOf]; omega
      · have hq3 : ((er : Int) == 0) = false := beq_no (by omega)
        have hx := HX.out
        rw [if_pos her] at hx
        subst hx
        clear her HX
        go_wp2_with fail
        go_ret3
        exact ⟨none, 0, rfl, toks_nil _ _, HB3.out.alloc hsz3 _⟩
end Go.Proofs.YtpfefjfpnmchcaaDoor
namespace Go.Proofs.YtpfefjfpnmchcaaDoor
open Go.RowKit

theorem scan_any (s : ByteArray) (w : World) (hS : SignsAt w) (hs : s.size ≤ 9223372036854775807) (R : List Tok × Nat × Nat) (hR : Hid (scan s.data.toList = R)) :
    Calls Tryd.prog 18 #[.string s] w (Scanned w R) := by
  by_cases h : 4000 < s.size
  · exact scan_long s w h hs R hR
  · exact scan_short s w hS (by omega) R hR

theorem scan_example : scan [120, 49, 32, 60, 61, 32, 48, 55] = ([⟨1, 1, [120, 49], 0⟩, ⟨4, 1, [60, 61], 0⟩, ⟨2, 1, [], 7⟩, ⟨0, 1, [], 0⟩], 0, 0) := by decide

end Go.Proofs.YtpfefjfpnmchcaaDoor
