/-
  The walk of the laws' word: a token as a text; a number by its decimal digits. Conditions: the number is not negative and below 10^18; the text's size is an int. What the word of a number is: digits, at least one, and the number they stand for. A token's word, with a blank or a line feed or nothing behind it, is read as that token again. What fst reads, written as a word, with a blank or a line feed or nothing behind it, is read as the same token. Ahead of a token's word there is no blank and no comment. A row of tokens' words with any gaps between them is scanned as these tokens, with the lines that the gaps make. What a good scan returns: tokens that fst read, and the end. The laid text grows token by token; what word does with a token that was read. No condition. The walk of the law LexerGaps. Conditions: the package's variable of signs holds what the program gives it; the second row of numbers can be read; what the generator's Text does.
-/
import Derived.Test.YtchibamdkaejdaaDoorZA
import Derived.Test.YtchibamdkaejdaaDoorZLx
import Derived.Test.YtchibamdkaejdaaDoorZBa
import Derived.BigQuiet
namespace Go.Proofs.YtchibamdkaejdaaDoor
open Go.RowKit

/-- The digits of a number ahead of those that are there. -/
def wordF : Nat → Nat → List UInt8 → List UInt8
  | 0, _, acc => acc
  | f + 1, n, acc => if 0 < n ∨ acc = [] then wordF f (n / 10) (UInt8.ofNat (48 + n % 10) :: acc) else acc
def emptyOf : Value → Nat
  | .string u => if u.size = 0 then 1 else 0
  | _ => 0
theorem oneByte_nat (n : Nat) : (oneByte (48 + ((n : Nat) : Int))).data.toList = [UInt8.ofNat (48 + n)] := by
  rw [oneByte_list]; congr 1

set_option maxHeartbeats 1600000 in
set_option maxRecDepth 100000 in
theorem word_text (kind line num : Int) (text : ByteArray) (w : World) (hk : kind ≠ 2) :
    Calls Tryd.prog 13 #[.agg #[.int .i64 kind, .int .i64 line, .string text, .int .i64 num]] w fun e w' => e = .returned (.string text) ∧ Below w.heap.size w w' := by
  go_enter Tryd.func13, Tryd.ntmps13
  go_wp2_with fail
  go_ret
  exact ⟨rfl, (Below.refl _ _).alloc (Nat.le_refl _) _⟩

set_option maxHeartbeats 3200000 in
set_option maxRecDepth 100000 in
theorem word_num (line : Int) (num : Nat) (text : ByteArray) (w : World) (hn : num < 1000000000000000000) (R : List UInt8) (hR : Hid (wordF 19 num [] = R)) :
    Calls Tryd.prog 13 #[.agg #[.int .i64 2, .int .i64 line, .string text, .int .i64 num]] w fun e w' => (∃ s : ByteArray, e = .returned (.string s) ∧ s.data.toList = R ∧ s.size ≤ 18) ∧ Below w.heap.size w w' := by
  go_enter Tryd.func13, Tryd.ntmps13
  go_wp2_with fail
  go_loopw [3, 4] (fun v i wr => ∃ (k n : Nat) (s : ByteArray), k ≤ 18 ∧ n < 10 ^ k ∧ i = .int .i64 n ∧ v = .string s ∧ s.size + k ≤ 18 ∧ (s.size = 0 → k = 18) ∧ wordF (k + 1) n s.data.toList = R ∧ Below w.heap.size w wr) (fun v i _ => 2 * (intOf i).toNat + emptyOf v)
  case atStart => exact ⟨18, num, _, Nat.le_refl _, by simpa using hn, rfl, rfl, by decide, fun _ => rfl, hR.out, (Below.refl _ _).alloc (Nat.le_refl _) _⟩
  case round =>
    obtain ⟨k, n, s, hk, hnk, rfl, rfl, hsz, hs0, hrec, hb⟩ := hrel
    have HB := Lib.hid hb
    have HREC := Lib.hid hrec
    have HP := Lib.hid hnk
    have hmax : n < 1000000000000000000 := Nat.lt_of_lt_of_le hnk (Nat.pow_le_pow_right (by decide) hk)
    clear hb hrec hnk
    have hconv := conv_one (wr.alloc (.cells #[.int .u8 (48 + (n : Int) % 10)] 5)) (48 + (n : Int) % 10) wr.heap.size (by rw [World.cell?_alloc_at _ _ _ _ rfl]; rfl)
    obtain ⟨u, hu⟩ : ∃ u, Hid (oneByte (48 + (n : Int) % 10) = u) := ⟨_, Lib.hid rfl⟩
    have hus : u.size = 1 := by rw [← hu.out]; exact oneByte_size _
    have hul : Hid (u.data.toList = [UInt8.ofNat (48 + n % 10)]) := Lib.hid (by
      rw [← hu.out, oneByte_list]
      have : (48 + (n : Int) % 10).toNat = 48 + n % 10 := by omega
      rw [this])
    rw [hu.out] at hconv
    have hw : Below w.heap.size w (wr.alloc (.cells #[.int .u8 (48 + (n : Int) % 10)] 5)) := HB.out.alloc HB.out.size _
    have HW := Lib.hid hw
    clear hw
    by_cases h0 : 0 < n
    · obtain ⟨j, rfl⟩ : ∃ j, k = j + 1 := ⟨k - 1, by
        have : k ≠ 0 := by
          rintro rfl
          have := HP.out
          simp at this
          omega
        omega⟩
      have hnext : Hid (n / 10 < 10 ^ j) := Lib.hid (by rw [Nat.div_lt_iff_lt_mul (by decide)]; have := HP.out; rwa [Nat.pow_succ] at this)
      have hstep : Hid (wordF (j + 1) (n / 10) (UInt8.ofNat (48 + n % 10) :: s.data.toList) = R) := Lib.hid (by rw [← HREC.out]; conv => rhs; rw [wordF, if_pos (.inl h0)])
      have hsn : u.size + s.size + j ≤ 18 := by omega
      go_wp2_with fail
      go_roundw
      case rel => exact ⟨j, n / 10, u ++ s, by omega, hnext.out, by go_num, rfl, by rw [ByteArray.size_append]; omega, by rw [ByteArray.size_append]; omega, by rw [ByteArray.toList_data_append, hul.out]; exact hstep.out, HW.out⟩
      case measure =>
        have hq : (u ++ s).size ≠ 0 := by rw [ByteArray.size_append]; omega
        simp only [intOf, emptyOf, hq, if_false]
        split <;> omega
    · by_cases hz : s.size = 0
      · obtain rfl : s = ⟨#[]⟩ := ByteArray.ext (Array.eq_empty_of_size_eq_zero hz)
        obtain rfl : k = 18 := hs0 rfl
        have hnext : Hid (n / 10 < 10 ^ 17) := Lib.hid (by have : n = 0 := by omega
                                                           subst this; decide)
        have hstep : Hid (wordF 18 (n / 10) (UInt8.ofNat (48 + n % 10) :: []) = R) := Lib.hid (by rw [← HREC.out]; conv => rhs; rw [wordF, if_pos (.inr rfl)])
        go_wp2_with fail
        go_roundw
        case rel => exact ⟨17, n / 10, u ++ ⟨#[]⟩, by omega, hnext.out, by go_num, rfl, by rw [ByteArray.size_append, hus]; decide, by rw [ByteArray.size_append]; omega, by rw [ByteArray.toList_data_append, hul.out]; exact hstep.out, HW.out⟩
        case measure =>
          have hq : (u ++ ⟨#[]⟩).size ≠ 0 := by rw [ByteArray.size_append]; omega
          simp only [intOf, emptyOf, hq, if_false]
          split <;> omega
      · have hne : s ≠ ⟨#[]⟩ := by rintro rfl; exact hz rfl
        have hnl : s.data.toList ≠ [] := by intro h; apply hz; show s.data.size = 0; rw [← Array.length_toList, h]; rfl
        have hq : s.toList.isEmpty = false := by
          rw [Lib.toList_data]
          cases hl : s.data.toList with
          | nil => exact absurd hl hnl
          | cons x l => rfl
        have hfin : Hid (s.data.toList = R) := Lib.hid (by rw [← HREC.out, wordF, if_neg (by rintro (h | h); exact h0 h; exact hnl h)])
        go_wp2_with fail
        go_ret
        exact ⟨⟨s, rfl, hfin.out, by omega⟩, HB.out⟩
end Go.Proofs.YtchibamdkaejdaaDoor
namespace Go.Proofs.YtchibamdkaejdaaDoor
open Go.RowKit

theorem numV_fold : ∀ (l : List UInt8) (a : Nat), l.foldl (fun n c => 10 * n + (c.toNat - 48)) a = a * 10 ^ l.length + numV l
 | [], a => by simp [numV]
 | c :: l, a => by
  have h1 := numV_fold l (10 * a + (c.toNat - 48))
  have h2 := numV_fold l (10 * 0 + (c.toNat - 48))
  simp only [numV, List.foldl_cons, List.length_cons] at *
  rw [h1, h2, Nat.pow_succ, Nat.add_mul, Nat.add_mul]
  have : 10 * a * 10 ^ l.length = a * (10 ^ l.length * 10) := by rw [Nat.mul_comm 10 a, Nat.mul_assoc, Nat.mul_comm 10]
  omega
theorem numV_cons (c : UInt8) (l : List UInt8) : numV (c :: l) = (c.toNat - 48) * 10 ^ l.length + numV l := by
 have := numV_fold l (10 * 0 + (c.toNat - 48))
 simpa [numV] using this
theorem digit_nat (n : Nat) : (UInt8.ofNat (48 + n % 10)).toNat = 48 + n % 10 := by
 simp; omega
theorem wordF_digits : ∀ (f n : Nat) (acc : List UInt8), (∀ c ∈ acc, isD c.toNat = true) → ∀ c ∈ wordF f n acc, isD c.toNat = true
 | 0, _, _, h => h
 | f + 1, n, acc, h => by
  rw [wordF]
  split
  ·refine wordF_digits f _ _ fun c hc => ?_
   rcases List.mem_cons.1 hc with rfl | hc
   ·rw [digit_nat]; simp [isD]; omega
   ·exact h c hc
  ·exact h
theorem wordF_ne : ∀ (f n : Nat) (acc : List UInt8), acc ≠ [] → wordF f n acc ≠ []
 | 0, _, _, h => h
 | f + 1, n, acc, h => by
  rw [wordF]
  split
  ·exact wordF_ne f _ _ (by simp)
  ·exact h
theorem word_ne (f n : Nat) : wordF (f + 1) n [] ≠ [] := by
 rw [wordF, if_pos (.inr rfl)]
 exact wordF_ne f _ _ (by simp)
theorem wordF_value : ∀ (f n : Nat) (acc : List UInt8), n < 10 ^ f → numV (wordF f n acc) = n * 10 ^ acc.length + numV acc
 | 0, n, acc, h => by
  obtain rfl : n = 0 := by simpa using h
  simp [wordF]
 | f + 1, n, acc, h => by
  rw [wordF]
  split
  ·rw [wordF_value f (n / 10) _ (by rw [Nat.div_lt_iff_lt_mul (by decide)]; rwa [Nat.pow_succ] at h), numV_cons, digit_nat, List.length_cons, Nat.pow_succ]
   have h1 : n / 10 * (10 ^ acc.length * 10) + n % 10 * 10 ^ acc.length = n * 10 ^ acc.length := by
    rw [Nat.mul_comm (10 ^ acc.length) 10, ← Nat.mul_assoc, ← Nat.add_mul]
    congr 1
    omega
   have h2 : 48 + n % 10 - 48 = n % 10 := by omega
   rw [h2]
   omega
  ·rename_i hc
   obtain rfl : n = 0 := by
    rcases Nat.eq_zero_or_pos n with h0 | h0
    ·exact h0
    ·exact absurd (.inl h0) hc
   simp
theorem word_value (n : Nat) (h : n < 1000000000000000000) : numV (wordF 19 n []) = n := by
 rw [wordF_value 19 n [] (by omega)]
 simp [numV]
end Go.Proofs.YtchibamdkaejdaaDoor
namespace Go.Proofs.YtchibamdkaejdaaDoor
open Go.RowKit

def Apart (rest : List UInt8) : Prop := ∀ c ∈ rest.head?, c.toNat = 32 ∨ c.toNat = 9 ∨ c.toNat = 10 ∨ c.toNat = 13
theorem span_whole {p : Nat → Bool} : ∀ (a r : List UInt8), (∀ c ∈ a, p c.toNat = true) → (∀ c ∈ r.head?, p c.toNat = false) → span p (a ++ r) = a.length
 | [], [], _, _ => rfl
 | [], c :: r, _, h => span_out _ (h c (by simp))
 | c :: a, r, h, hr => by
  rw [List.cons_append, span_in _ (h c (by simp)), span_whole a r (fun x hx => h x (by simp [hx])) hr]
  rfl
theorem Apart.notD {r : List UInt8} (h : Apart r) : ∀ c ∈ r.head?, isD c.toNat = false := fun c hc => by
 have := h c hc
 simp only [isD, decide_eq_false_iff_not]; omega
theorem Apart.notL {r : List UInt8} (h : Apart r) : ∀ c ∈ r.head?, isL c.toNat = false := fun c hc => by
 have := h c hc
 simp only [isL, decide_eq_false_iff_not]; omega
theorem Apart.notLD {r : List UInt8} (h : Apart r) : ∀ c ∈ r.head?, isLD c.toNat = false := fun c hc => by
 unfold isLD
 rw [h.notL c hc, h.notD c hc]; rfl

theorem reread_num (a r : List UInt8) (ha : ∀ c ∈ a, isD c.toNat = true) (hne : a ≠ []) (h18 : a.length ≤ 18) (hr : Apart r) : fst (a ++ r) = ⟨2, [], numV a, a.length, 0⟩ := by
 have hs := span_whole a r ha hr.notD
 have hf : fst (a ++ r) = fstNum (a ++ r) := by
  cases a with
  | nil => exact absurd rfl hne
  | cons c a => show (if isD c.toNat = true then _ else _) = _; rw [if_pos (ha c (by simp))]; rfl
 rw [hf]
 unfold fstNum
 rw [hs, if_neg (by omega), List.drop_left, if_neg, List.take_left]
 rintro ⟨c, hc, hL⟩
 rw [hr.notL c hc] at hL
 cases hL
theorem reread_name (a r : List UInt8) (ha : ∀ c ∈ a, isLD c.toNat = true) (h0 : ∃ c ∈ a.head?, isL c.toNat = true) (h12 : a.length ≤ 12) (hr : Apart r) : fst (a ++ r) = ⟨if a ∈ words then 3 else 1, a, 0, a.length, 0⟩ := by
 have hs := span_whole a r ha hr.notLD
 have hf : fst (a ++ r) = fstName (a ++ r) := by
  obtain ⟨c, hc, hL⟩ := h0
  cases a with
  | nil => cases hc
  | cons d a =>
   obtain rfl : d = c := by simpa using hc
   show (if isD d.toNat = true then _ else if isL d.toNat = true then _ else _) = _
   rw [if_neg (by rw [isL_not_D hL]; decide), if_pos hL]; rfl
 rw [hf]
 unfold fstName
 rw [hs, if_neg (by omega), List.take_left]

theorem Apart.not61 {r : List UInt8} (h : Apart r) : ∀ c ∈ r.head?, c ≠ 61 := fun c hc => by
 have := h c hc
 rintro rfl
 revert this; decide
theorem reread_sign (a r : List UInt8) (ha : a ∈ twos ∨ ∃ c ∈ ones, a = [c]) (hr : Apart r) : fst (a ++ r) = ⟨4, a, 0, a.length, 0⟩ := by
 have hs : sign (a ++ r) = a := by
  rcases ha with h | ⟨c, hc, rfl⟩
  ·have h2 : (a ++ r).take 2 = a := by
    have hl : a.length = 2 := by
     simp only [twos, List.mem_cons, List.not_mem_nil, or_false] at h
     rcases h with rfl | rfl | rfl <;> rfl
    rw [← hl, List.take_left]
   unfold sign
   rw [h2, if_pos h]
  ·unfold sign
   rw [if_neg, if_pos ⟨c, rfl, hc⟩]
   ·rfl
   ·cases r with
    | nil => simp [twos]
    | cons d r =>
     have := hr.not61 d rfl
     simp [twos, this]
 have hne : a ≠ [] := by
  rcases ha with h | ⟨c, _, rfl⟩
  ·rintro rfl; revert h; decide
  ·simp
 have hf : fst (a ++ r) = fstSign (a ++ r) := by
  have hh : ∃ c ∈ a.head?, isD c.toNat = false ∧ isL c.toNat = false := by
   rcases ha with h | ⟨c, hc, rfl⟩
   ·simp only [twos, List.mem_cons, List.not_mem_nil, or_false] at h
    rcases h with rfl | rfl | rfl <;> exact ⟨_, rfl, by decide, by decide⟩
   ·refine ⟨c, rfl, ?_⟩
    have : ∀ c ∈ ones, isD c.toNat = false ∧ isL c.toNat = false := by decide
    exact this c hc
  obtain ⟨c, hc, hD, hL⟩ := hh
  cases a with
  | nil => cases hc
  | cons d a =>
   obtain rfl : d = c := by simpa using hc
   show (if isD d.toNat = true then _ else if isL d.toNat = true then _ else _) = _
   rw [if_neg (by rw [hD]; decide), if_neg (by rw [hL]; decide)]; rfl
 rw [hf]
 unfold fstSign
 rw [hs, if_neg hne]
end Go.Proofs.YtchibamdkaejdaaDoor
namespace Go.Proofs.YtchibamdkaejdaaDoor
open Go.RowKit

theorem wordF_len : ∀ (f k n : Nat) (acc : List UInt8), n < 10 ^ k → acc.length + k ≤ 18 → (acc = [] → 1 ≤ k) → (wordF f n acc).length ≤ 18
 | 0, k, n, acc, _, h, _ => by rw [wordF]; omega
 | f + 1, k, n, acc, hn, h, h0 => by
  rw [wordF]
  split
  ·rename_i hc
   have hk : k ≠ 0 := by
    rintro rfl
    rcases hc with hc | hc
    ·simp at hn; omega
    ·have := h0 hc; omega
   obtain ⟨j, rfl⟩ : ∃ j, k = j + 1 := ⟨k - 1, by omega⟩
   exact wordF_len f j _ _ (by rw [Nat.div_lt_iff_lt_mul (by decide)]; rwa [Nat.pow_succ] at hn) (by simp; omega) (by intro h; cases h)
  ·omega
theorem span_take {p : Nat → Bool} : ∀ l : List UInt8, ∀ c ∈ l.take (span p l), p c.toNat = true
 | [] => by simp
 | d :: l => by
  intro c hc
  rw [span] at hc
  split at hc
  ·rename_i hp
   rw [List.take_succ_cons] at hc
   rcases List.mem_cons.1 hc with rfl | hc
   ·exact hp
   ·exact span_take l c hc
  ·simp at hc
def reread (k : Nat) (tx : List UInt8) (nm : Nat) : List UInt8 := if k = 2 then wordF 19 nm [] else tx
theorem fst_again (l r : List UInt8) (he : (fst l).err = 0) (hr : Apart r) :
  fst (reread (fst l).kind (fst l).text (fst l).num ++ r) = ⟨(fst l).kind, (fst l).text, (fst l).num, (reread (fst l).kind (fst l).text (fst l).num).length, 0⟩ := by
 cases l with
 | nil => simp [fst] at he
 | cons c l =>
  by_cases hD : isD c.toNat = true
  ·have hf : fst (c :: l) = fstNum (c :: l) := by show (if isD c.toNat = true then _ else _) = _; rw [if_pos hD]
   rw [hf] at he ⊢
   unfold fstNum at he ⊢
   by_cases h18 : 18 < span isD (c :: l)
   ·rw [if_pos h18] at he; cases he
   ·rw [if_neg h18] at he ⊢
    split at he
    ·cases he
    ·rename_i hL
     rw [if_neg hL]
     have hlt := numV_lt18 ((c :: l).take (span isD (c :: l))) (by rw [List.length_take]; omega) (span_take _)
     show fst (wordF 19 _ [] ++ r) = _
     rw [reread_num _ r (wordF_digits 19 _ [] (by simp)) (word_ne 18 _) (wordF_len 19 18 _ [] (by simpa using hlt) (by simp) (by omega)) hr, word_value _ hlt]
     rfl
  ·by_cases hL : isL c.toNat = true
   ·have hf : fst (c :: l) = fstName (c :: l) := by
     show (if isD c.toNat = true then _ else if isL c.toNat = true then _ else _) = _; rw [if_neg hD, if_pos hL]
    rw [hf] at he ⊢
    unfold fstName at he ⊢
    by_cases h12 : 12 < span isLD (c :: l)
    ·rw [if_pos h12] at he; cases he
    ·rw [if_neg h12] at he ⊢
     have hk : ∀ x : List UInt8, (if x ∈ words then 3 else 1) ≠ 2 := fun x => by split <;> decide
     have hre : ∀ x : List UInt8, reread (if x ∈ words then 3 else 1) x 0 = x := fun x => if_neg (hk x)
     dsimp only
     rw [hre]
     rw [reread_name _ r (span_take _) ⟨c, by rw [span_in l (by unfold isLD; rw [hL]; rfl)]; rfl, hL⟩ (by rw [List.length_take]; omega) hr]
   ·have hf : fst (c :: l) = fstSign (c :: l) := by
     show (if isD c.toNat = true then _ else if isL c.toNat = true then _ else _) = _; rw [if_neg hD, if_neg hL]
    rw [hf] at he ⊢
    unfold fstSign at he ⊢
    by_cases hs : sign (c :: l) = []
    ·rw [if_pos hs] at he; cases he
    ·rw [if_neg hs]
     show fst (sign (c :: l) ++ r) = _
     rw [reread_sign _ r ?_ hr]
     ·rfl
     ·unfold sign at hs ⊢
      split
      ·rename_i h; exact .inl h
      ·rename_i h
       rw [if_neg h] at hs
       split
       ·rename_i h1
        obtain ⟨d, hd, ho⟩ := h1
        obtain rfl : c = d := by simpa using hd
        exact .inr ⟨c, ho, rfl⟩
       ·rename_i h1
        rw [if_neg h1] at hs
        exact absurd rfl hs
end Go.Proofs.YtchibamdkaejdaaDoor
namespace Go.Proofs.YtchibamdkaejdaaDoor
open Go.RowKit

theorem sign_head (c : UInt8) (l : List UInt8) (h : c ≠ 60 ∧ c ≠ 61 ∧ c ≠ 33) : sign (c :: l) = if c ∈ ones then [c] else [] := by
  obtain ⟨h1, h2, h3⟩ := h
  unfold sign
  rw [if_neg]
  · by_cases hc : c ∈ ones
    · rw [if_pos ⟨c, rfl, hc⟩, if_pos hc]; rfl
    · rw [if_neg (by rintro ⟨d, hd, ho⟩; obtain rfl : c = d := by simpa using hd
                     exact hc ho), if_neg hc]
  · cases l with
    | nil => simp [twos]
    | cons d l => simp [twos, h1, h2, h3]
theorem fst_blank (c : UInt8) (l : List UInt8) (h : c = 10 ∨ c = 32 ∨ c = 9 ∨ c = 13) : (fst (c :: l)).err = 6 := by
  have hs : sign (c :: l) = [] := by
    rw [sign_head c l (by rcases h with rfl | rfl | rfl | rfl <;> decide), if_neg (by rcases h with rfl | rfl | rfl | rfl <;> decide)]
  have hf : fst (c :: l) = fstSign (c :: l) := by
    show (if isD c.toNat = true then _ else if isL c.toNat = true then _ else _) = _
    rw [if_neg (by rcases h with rfl | rfl | rfl | rfl <;> decide), if_neg (by rcases h with rfl | rfl | rfl | rfl <;> decide)]
  rw [hf]
  unfold fstSign
  rw [if_pos hs]
theorem fst_slash (l : List UInt8) : (fst (47 :: l)).size = 1 := by
  have hs : sign (47 :: l) = [47] := by rw [sign_head 47 l (by decide), if_pos (by decide)]
  have hf : fst (47 :: l) = fstSign (47 :: l) := rfl
  rw [hf]
  unfold fstSign
  rw [hs]
  rfl
theorem toNat_is {c d : UInt8} (h : c.toNat = d.toNat) : c = d := UInt8.toNat_inj.1 h
theorem gap_again (l r : List UInt8) (he : (fst l).err = 0) (hr : Apart r) : gap false (reread (fst l).kind (fst l).text (fst l).num ++ r) = (0, 0) ∧ reread (fst l).kind (fst l).text (fst l).num ≠ [] := by
  have h := fst_again l r he hr
  generalize reread (fst l).kind (fst l).text (fst l).num = x at *
  cases x with
  | nil =>
    rw [List.nil_append] at h
    exfalso
    have h1 := fst_size r (by rw [h])
    rw [h] at h1
    simp at h1
  | cons c x =>
    refine ⟨?_, by simp⟩
    rw [List.cons_append] at h ⊢
    have hb : ¬ (c = 10 ∨ c = 32 ∨ c = 9 ∨ c = 13) := fun hb => by
      have := fst_blank c (x ++ r) hb
      rw [h] at this
      cases this
    refine gap_stop _ (fun e => hb (.inl (toNat_is e))) (fun e => hb (.inr (.inl (toNat_is e)))) (fun e => hb (.inr (.inr (.inl (toNat_is e))))) (fun e => hb (.inr (.inr (.inr (toNat_is e))))) ?_
    intro e d hd hd2
    obtain rfl : c = 47 := toNat_is e
    have hsz := fst_slash (x ++ r)
    rw [h] at hsz
    obtain rfl : x = [] := List.eq_nil_of_length_eq_zero (by simpa using hsz)
    have := hr d (by simpa using hd)
    omega
end Go.Proofs.YtchibamdkaejdaaDoor
namespace Go.Proofs.YtchibamdkaejdaaDoor
open Go.RowKit

def gapB (g : Nat) : List UInt8 := if g = 0 then [32] else if g = 1 then [9, 32] else if g = 2 then [10] else if g = 3 then [32, 47, 47, 32, 97, 32, 42, 32, 49, 98, 32, 36, 10] else [13, 10]
def gapL (g : Nat) : Nat := if 2 ≤ g then 1 else 0
theorem gapB_cases (P : List UInt8 → Nat → Prop) (g : Nat) (h0 : P [32] 0) (h1 : P [9, 32] 0) (h2 : P [10] 1) (h3 : P [32, 47, 47, 32, 97, 32, 42, 32, 49, 98, 32, 36, 10] 1) (h4 : P [13, 10] 1) : P (gapB g) (gapL g) := by
 unfold gapB gapL
 by_cases e0 : g = 0
 ·subst e0; exact h0
 rw [if_neg e0]
 by_cases e1 : g = 1
 ·subst e1; exact h1
 rw [if_neg e1, if_pos (show 2 ≤ g by omega)]
 by_cases e2 : g = 2
 ·rw [if_pos e2]; exact h2
 rw [if_neg e2]
 by_cases e3 : g = 3
 ·rw [if_pos e3]; exact h3
 rw [if_neg e3]
 exact h4
theorem gap_gapB (g : Nat) (r : List UInt8) (h : gap false r = (0, 0)) : gap false (gapB g ++ r) = ((gapB g).length, gapL g) := by
 refine gapB_cases (fun b k => gap false (b ++ r) = (b.length, k)) g ?_ ?_ ?_ ?_ ?_ <;> simp [gap, h]
theorem gapB_apart (g : Nat) (r : List UInt8) : Apart (gapB g ++ r) := by
 refine gapB_cases (fun b _ => Apart (b ++ r)) g ?_ ?_ ?_ ?_ ?_ <;> intro c hc <;> (simp at hc; subst hc; decide)

structure Read (t : Tok) : Prop where
 ex : ∃ l, (fst l).err = 0 ∧ t.kind = (fst l).kind ∧ t.text = (fst l).text ∧ t.num = (fst l).num
def wordOf (t : Tok) : List UInt8 := reread t.kind t.text t.num
def lay : List (Tok × Nat) → List UInt8
 | [] => []
 | (t, g) :: L => gapB g ++ (wordOf t ++ lay L)
def wants : Nat → List (Tok × Nat) → List Tok
 | _, [] => []
 | n, (t, g) :: L => ⟨t.kind, n + gapL g, t.text, t.num⟩ :: wants (n + gapL g) L
def lastLine : Nat → List (Tok × Nat) → Nat
 | n, [] => n
 | n, (_, g) :: L => lastLine (n + gapL g) L

theorem scanF_lay (ge : Nat) : ∀ (L : List (Tok × Nat)) (f line : Nat) (acc : List Tok), (∀ p ∈ L, Read p.1) → acc.length + L.length ≤ 2000 → (lay L ++ gapB ge).length < f →
  scanF f (lay L ++ gapB ge) line acc = (acc ++ wants line L ++ [⟨0, lastLine line L + gapL ge, [], 0⟩], 0, 0)
 | _, 0, _, _, _, _, h => by omega
 | [], f + 1, line, acc, _, _, _ => by
  have hg : gap false (lay [] ++ gapB ge) = ((gapB ge).length, gapL ge) := by
   have := gap_gapB ge [] (gap_nil false)
   rwa [List.append_nil] at this
  rw [scanF, hg]
  rw [if_pos (by show (gapB ge).drop (gapB ge).length = []; simp)]
  simp [wants, lastLine]
 | (t, g) :: L, f + 1, line, acc, hr, hn, hf => by
  obtain ⟨l, he, hk, ht, hm⟩ := (hr (t, g) (by simp)).ex
  replace hk : t.kind = (fst l).kind := hk
  replace ht : t.text = (fst l).text := ht
  replace hm : t.num = (fst l).num := hm
  have hap : Apart (lay L ++ gapB ge) := by
   cases L with
   | nil => have := gapB_apart ge []; rwa [List.append_nil] at this
   | cons p L => obtain ⟨t', g'⟩ := p; rw [lay, List.append_assoc]; exact gapB_apart _ _
  have hw : wordOf t = reread (fst l).kind (fst l).text (fst l).num := by unfold wordOf; rw [hk, ht, hm]
  obtain ⟨hga, hne⟩ := gap_again l _ he hap
  have hfa := fst_again l _ he hap
  rw [← hw] at hga hne hfa
  have htxt : lay ((t, g) :: L) ++ gapB ge = gapB g ++ (wordOf t ++ (lay L ++ gapB ge)) := by simp [lay]
  have hlen : (lay L ++ gapB ge).length < f := by
   rw [htxt] at hf
   simp only [List.length_append] at hf ⊢
   have : 0 < (wordOf t).length := List.length_pos_iff.2 hne
   omega
  have hg := gap_gapB g _ hga
  rw [htxt, scanF, hg]
  simp only [List.drop_left]
  rw [if_neg (by simp [hne]), hfa]
  simp only [ne_eq, not_true_eq_false, if_false, List.drop_left]
  rw [if_neg (by simp only [List.length_cons] at hn; omega), scanF_lay ge L f _ _ (fun p hp => hr p (by simp [hp])) (by simp only [List.length_cons, List.length_append, List.length_nil] at hn ⊢; omega) hlen]
  simp [wants, lastLine, hk, ht, hm]
end Go.Proofs.YtchibamdkaejdaaDoor
namespace Go.Proofs.YtchibamdkaejdaaDoor
open Go.RowKit

theorem scanF_reads : ∀ (f : Nat) (l : List UInt8) (line : Nat) (acc : List Tok), l.length < f → acc.length ≤ 2000 → (∀ t ∈ acc, Read t) → (scanF f l line acc).2.2 = 0 →
  ∃ L n, (scanF f l line acc).1 = L ++ [⟨0, n, [], 0⟩] ∧ (∀ t ∈ L, Read t) ∧ L.length ≤ 2000
 | 0, _, _, _, h, _, _, _ => by omega
 | f + 1, l, line, acc, hf, hn, hr, h => by
  rw [scanF] at h ⊢
  by_cases hd : l.drop (gap false l).1 = []
  ·rw [if_pos hd]
   exact ⟨acc, _, rfl, hr, hn⟩
  ·rw [if_neg hd] at h ⊢
   by_cases he : (fst (l.drop (gap false l).1)).err ≠ 0
   ·rw [if_pos he] at h
    exact absurd h he
   ·rw [if_neg he] at h ⊢
    have he' := Decidable.not_not.1 he
    by_cases h2 : acc.length = 2000
    ·rw [if_pos h2] at h; cases h
    ·rw [if_neg h2] at h ⊢
     have hs := fst_size _ he'
     refine scanF_reads f _ _ _ ?_ ?_ ?_ h
     ·simp only [List.length_drop] at hs ⊢; omega
     ·simp; omega
     ·intro t ht
      rcases List.mem_append.1 ht with ht | ht
      ·exact hr t ht
      ·obtain rfl : t = _ := by simpa using ht
       exact ⟨_, he', rfl, rfl, rfl⟩
theorem scan_reads (l : List UInt8) (h : (scan l).2.2 = 0) : ∃ L n, (scan l).1 = L ++ [⟨0, n, [], 0⟩] ∧ (∀ t ∈ L, Read t) ∧ L.length ≤ 2000 := by
 unfold scan at h ⊢
 split at h
 ·cases h
 ·rename_i hl
  rw [if_neg hl]
  exact scanF_reads _ l 1 [] (Nat.lt_succ_self _) (by simp) (by simp) h
theorem scan_lay (L : List (Tok × Nat)) (ge : Nat) (hr : ∀ p ∈ L, Read p.1) (hn : L.length ≤ 2000) (h4 : (lay L ++ gapB ge).length ≤ 4000) :
  scan (lay L ++ gapB ge) = (wants 1 L ++ [⟨0, lastLine 1 L + gapL ge, [], 0⟩], 0, 0) := by
 unfold scan
 rw [if_neg (by omega), scanF_lay ge L _ 1 [] hr (by simpa using hn) (Nat.lt_succ_self _)]
 simp
end Go.Proofs.YtchibamdkaejdaaDoor
namespace Go.Proofs.YtchibamdkaejdaaDoor
open Go.RowKit

theorem lay_snoc : ∀ (Z : List (Tok × Nat)) (t : Tok) (g : Nat), lay (Z ++ [(t, g)]) = lay Z ++ gapB g ++ wordOf t
 | [], t, g => by simp [lay]
 | (t', g') :: Z, t, g => by
  rw [List.cons_append, lay, lay, lay_snoc Z t g]
  simp
theorem last_snoc : ∀ (Z : List (Tok × Nat)) (n : Nat) (t : Tok) (g : Nat), lastLine n (Z ++ [(t, g)]) = lastLine n Z + gapL g
 | [], n, t, g => rfl
 | (t', g') :: Z, n, t, g => by
  rw [List.cons_append, lastLine, lastLine, last_snoc Z _ t g]
theorem wants_snoc : ∀ (Z : List (Tok × Nat)) (n : Nat) (t : Tok) (g : Nat), wants n (Z ++ [(t, g)]) = wants n Z ++ [⟨t.kind, lastLine n Z + gapL g, t.text, t.num⟩]
 | [], n, t, g => rfl
 | (t', g') :: Z, n, t, g => by
  rw [List.cons_append, wants, wants, lastLine, wants_snoc Z _ t g]
  rfl
theorem wants_len : ∀ (Z : List (Tok × Nat)) (n : Nat), (wants n Z).length = Z.length
 | [], _ => rfl
 | (t, g) :: Z, n => by rw [wants, List.length_cons, List.length_cons, wants_len Z]
theorem gapL_le (g : Nat) : gapL g ≤ 1 := by unfold gapL; split <;> omega
theorem gapB_le (g : Nat) : (gapB g).length ≤ 13 := by
 refine gapB_cases (fun b _ => b.length ≤ 13) g ?_ ?_ ?_ ?_ ?_ <;> decide
/-- A token whose text and number are small. -/
def Small (t : Tok) : Prop := t.text.length ≤ 18 ∧ t.num < 1000000000000000000
theorem fst_small (l : List UInt8) (h : (fst l).err = 0) : (fst l).text.length ≤ 18 ∧ (fst l).num < 1000000000000000000 := by
 unfold fst at *
 split
 ·simp at h
 ·rename_i c l
  dsimp only at h
  split
  ·rename_i hd
   rw [if_pos hd] at h
   unfold fstNum at *
   split
   ·simp
   ·split
    ·simp
    ·rename_i h1 h2
     exact ⟨by simp, numV_lt18 _ (by rw [List.length_take]; omega) (span_all isD (c :: l))⟩
  ·rename_i hd
   rw [if_neg hd] at h
   split
   ·unfold fstName
    split
    ·simp
    ·rename_i h1
     exact ⟨by dsimp only; rw [List.length_take]; omega, by simp⟩
   ·unfold fstSign
    have := sign_le (c :: l)
    split
    ·simp
    ·exact ⟨by dsimp only; omega, by simp⟩
theorem Read.small {t : Tok} (h : Read t) : Small t := by
 obtain ⟨l, he, h1, h2, h3⟩ := h.ex
 have := fst_small l he
 exact ⟨by rw [h2]; exact this.1, by rw [h3]; exact this.2⟩
theorem word_any (kd : Nat) (line : Int) (tx : List UInt8) (nm li : Nat) (w : World) (h : Small ⟨kd, li, tx, nm⟩) :
  Calls Tryd.prog 13 #[.agg #[.int .i64 kd, .int .i64 line, .string ⟨tx.toArray⟩, .int .i64 nm]] w fun e w' => ∃ s : ByteArray, e = .returned (.string s) ∧ s.data.toList = wordOf ⟨kd, li, tx, nm⟩ ∧ s.size ≤ 18 ∧ Below w.heap.size w w' := by
 obtain ⟨h1, h2⟩ := h
 dsimp only at h1 h2
 by_cases hk : kd = 2
 ·subst hk
  refine (word_num line nm ⟨tx.toArray⟩ w h2 _ (Lib.hid rfl)).mono ?_
  rintro e w1 ⟨⟨s, rfl, hs, hz⟩, hb⟩
  exact ⟨s, rfl, by rw [hs]; rfl, hz, hb⟩
 ·refine (word_text kd line nm ⟨tx.toArray⟩ w (by omega)).mono ?_
  rintro e w1 ⟨rfl, hb⟩
  exact ⟨_, rfl, by unfold wordOf reread; rw [if_neg hk], (by show tx.toArray.size ≤ 18; simpa using h1), hb⟩
theorem scan_small (l : List UInt8) (h : (scan l).2.2 = 0) : ∃ L n, (scan l).1 = L ++ [⟨0, n, [], 0⟩] ∧ (∀ t ∈ L, Read t) ∧ L.length ≤ 2000 ∧ ∀ t ∈ (scan l).1, Small t := by
 obtain ⟨L, n, h1, h2, h3⟩ := scan_reads l h
 refine ⟨L, n, h1, h2, h3, fun t ht => ?_⟩
 rw [h1] at ht
 rcases List.mem_append.1 ht with ht | ht
 ·exact (h2 t ht).small
 ·simp at ht
  subst ht
  exact ⟨by simp, by simp⟩
end Go.Proofs.YtchibamdkaejdaaDoor
namespace Go.Proofs.YtchibamdkaejdaaDoor
open Go.RowKit

theorem cat' (a b : ByteArray) (h : a.size + b.size ≤ 9223372036854775807) : ∀ W : World, (Op.stringOp .add a b).run Tryd.prog W = .ok (.string (a ++ b)) W := fun W => run_string_add_sum W a b h
/-- The five gaps. -/
def gaps5 : Array Value := #[.string ⟨#[32]⟩, .string ⟨#[9, 32]⟩, .string ⟨#[10]⟩, .string ⟨#[32, 47, 47, 32, 97, 32, 42, 32, 49, 98, 32, 36, 10]⟩, .string ⟨#[13, 10]⟩]
theorem gaps5_get (g : Nat) (h : g < 5) : ∃ gs : ByteArray, gaps5[g]? = some (.string gs) ∧ gs.data.toList = gapB g ∧ gs.size ≤ 13 := by
 have : g = 0 ∨ g = 1 ∨ g = 2 ∨ g = 3 ∨ g = 4 := by omega
 rcases this with rfl | rfl | rfl | rfl | rfl <;> exact ⟨_, rfl, by decide, by decide⟩
theorem append_list (a b : ByteArray) : (a ++ b).data.toList = a.data.toList ++ b.data.toList := by simp
set_option linter.unusedSimpArgs false in
set_option linter.unusedVariables false in
set_option maxHeartbeats 0 in
set_option maxRecDepth 100000 in
theorem gapslaw_any (A A2 : Option Addr) (l c l2 c2 : Nat) (w : World) (hS : SignsAt w) (hl : l ≤ c) (hc : c ≤ 9223372036854775807) (hl2 : l2 ≤ 9223372036854775807)
  (hG : ∀ i, i < l2 → ∃ (b o : Nat) (x : Int), A2 = some ⟨b, o, none⟩ ∧ b < w.heap.size ∧ -9223372036854775808 ≤ x ∧ x < 9223372036854775808 ∧ w.cell? ⟨b, o + i, none⟩ = some (.int .i64 x))
  (hT : ∀ w1, Below w.heap.size w w1 → ∀ l' c', l' ≤ 200 → l' ≤ l → (l' ≤ c' ∧ c' ≤ 9223372036854775807) → Calls Tryd.prog 8 #[.slice A l' c'] w1 (Str w1 1000000000)) :
  Calls Tryd.prog 5 #[.slice A l c, .slice A2 l2 c2] w fun e w' => e = .returned (.bool true) ∧ Below w.heap.size w w' := by
 obtain ⟨i0, hi, hz0, hz1, hz2⟩ := info_parts tokinfo
 have HT := Lib.hid hT
 have HG := Lib.hid hG
 clear hT hG
 go_enter Tryd.func5, Tryd.ntmps5
 go_wp2_with fail
 refine (short_any A l c w hl hc).mono ?_
 rintro e w2 ⟨rfl, l', c', rfl, h200, hll, hlc⟩
 go_wp2_with fail
 refine (HT.out w2 (Below.refl _ _) l' c' h200 hll hlc).mono ?_
 rintro e w3 ⟨s0, rfl, hs0, hb3⟩
 have HB3 := Lib.hid hb3
 clear hb3
 obtain ⟨R, hR⟩ : ∃ R, Hid (scan s0.data.toList = R) := ⟨_, Lib.hid rfl⟩
 obtain ⟨Y, ln, er⟩ := R
 go_wp2_with fail
 refine (scan_any s0 w3 (hS.below HB3.out hS.lt) (by omega) (Y, ln, er) hR).mono ?_
 rintro e w4 ⟨A4, C4, rfl, ht4, hb4⟩
 have HB4 := Lib.hid (HB3.out.trans (hb4.mono HB3.out.size))
 have HT4 := Lib.hid ht4
 have hYl := ht4.len
 have hYc : C4 ≤ 9223372036854775807 := ht4.cap
 dsimp only at hYl
 clear hb4 ht4
 by_cases her : er = 0
 ·subst her
  obtain ⟨L, n, hY, hread, hL, hsm⟩ := scan_small s0.data.toList (by rw [hR.out])
  rw [hR.out] at hY hsm
  dsimp only at hY hsm
  have HY := Lib.hid hY
  have hYn : Y.length = L.length + 1 := by rw [hY]; simp
  have HRD := Lib.hid hread
  have HSM := Lib.hid hsm
  clear hY hread hsm
  go_wp2_with fail
  go_loopw [8, 9, 10, 30] (fun sv lv wv i wr => ∃ (k : Nat) (Z : List (Tok × Nat)) (sb : ByteArray), i = .int .i64 (k : Int) ∧ k ≤ Y.length ∧ Z.length = k ∧ Z.map (·.1) = Y.take k ∧ sv = .string sb ∧ sb.data.toList = lay Z ∧ sb.size ≤ 40 * k ∧ lv = .int .i64 ((lastLine 1 Z : Nat) : Int) ∧ lastLine 1 Z ≤ 1 + k ∧ wr.ownsRow w4.heap.size 36 4 wv (wants 1 Z).length (tvals (wants 1 Z)) ∧ Below w4.heap.size w4 wr) (fun _ _ _ i _ => Y.length - (intOf i).toNat)
  case atStart => exact ⟨0, [], ⟨#[]⟩, rfl, Nat.zero_le _, rfl, rfl, rfl, rfl, Nat.zero_le _, rfl, Nat.le_refl _, World.ownsRow_nil _ _ _ 4, Below.refl _ _⟩
  case round =>
   obtain ⟨k, Z, sb, rfl, hk, hZl, hZm, rfl, hsb, hsz, rfl, hla, hown, hbel⟩ := hrel
   have hwl : (wants 1 Z).length = k := (wants_len Z 1).trans hZl
   obtain ⟨wA, wC, rfl, _, htk⟩ := toks_own hown
   rw [hwl] at hown
   rw [hwl]
   have HO := Lib.hid hown
   have HTK := Lib.hid htk
   have HB := Lib.hid hbel
   have HBr := Lib.hid (HB4.out.trans (hbel.mono HB4.out.size))
   have hzr := hbel.size
   have HZM := Lib.hid hZm
   have HSB := Lib.hid hsb
   have HWL := Lib.hid hwl
   clear hwl
   obtain ⟨Ln, hLn⟩ : ∃ x, lastLine 1 Z = x := ⟨_, rfl⟩
   have HLn := Lib.hid hLn
   rw [hLn] at hla
   rw [hLn]
   clear hown htk hbel hZm hsb hLn
   by_cases hlt : k < Y.length
   ·obtain ⟨⟨kd, li, tx, nm⟩, ht⟩ : ∃ t, Y[k]? = some t := ⟨_, List.getElem?_eq_getElem hlt⟩
    obtain ⟨b4, rfl, hb4l, hc4⟩ := HT4.out.at_ (by rintro rfl; simp at hlt)
    obtain ⟨z0, z1, z2, z3⟩ := hc4 k _ ht
    have z0 := (HB.out.cell (p := ⟨b4, _, none⟩) hb4l).trans z0
    have z1 := (HB.out.cell (p := ⟨b4, _, none⟩) hb4l).trans z1
    have z2 := (HB.out.cell (p := ⟨b4, _, none⟩) hb4l).trans z2
    have z3 := (HB.out.cell (p := ⟨b4, _, none⟩) hb4l).trans z3
    have n4 : b4 < wr.heap.size := by omega
    have hsmall := HSM.out _ (List.mem_of_getElem? ht)
    have HSml := Lib.hid hsmall
    have HTt := Lib.hid ht
    clear hc4 ht hsmall
    by_cases hi2 : k < l2
    ·obtain ⟨gb, go, gx, rfl, hgb, hgx1, hgx2, hgx⟩ := HG.out k hi2
     have gx' := (HBr.out.cell (p := ⟨gb, go + k, none⟩) hgb).trans hgx
     have hgbr : gb < wr.heap.size := Nat.lt_of_lt_of_le hgb HBr.out.size
     obtain ⟨g, hg⟩ : ∃ g : Nat, gx % 5 = (g : Int) := ⟨(gx % 5).toNat, by omega⟩
     have hg5 : g < 5 := by omega
     go_wp2_with fail
     refine (mod_any gx 5 _ (by omega) (by omega) (by omega) (g : Int) (Lib.hid hg)).mono ?_
     rintro e w5 ⟨rfl, rfl⟩
     by_cases hbig : 2 ≤ g
     ·obtain ⟨gs, hgs, hgsl, hgsz⟩ := gaps5_get g hg5
      have hg5' : (g : Int) < 5 := by omega
      have hg0' : (0 : Int) ≤ (g : Int) := by omega
      have hcell5 : ((wr.alloc (.cells #[.int .i64 (kd : Int), .int .i64 (li : Int), .string ⟨tx.toArray⟩, .int .i64 (nm : Int)] 36)).alloc (.cells #[.string ⟨#[32]⟩, .string ⟨#[9, 32]⟩, .string ⟨#[10]⟩, .string ⟨#[32, 47, 47, 32, 97, 32, 42, 32, 49, 98, 32, 36, 10]⟩, .string ⟨#[13, 10]⟩] 9)).cell? ⟨wr.heap.size + 1, g, none⟩ = some (.string gs) := by rw [World.cell?_alloc_at _ _ _ _ (Array.size_push _).symm]; exact hgs
      have HGSL := Lib.hid hgsl
      clear hgsl
      have hsbz : sb.size ≤ 100000 := by omega
      have hcat1 := cat' sb gs (by omega)
      have hgl : gapL g = 1 := if_pos hbig
      have hb2 : (2 : Int) ≤ (g : Int) := by omega
      obtain ⟨V1, hV1⟩ : ∃ W, Hid (wr.alloc (.cells #[.int .i64 (kd : Int), .int .i64 ((Ln : Int) + 1), .string ⟨tx.toArray⟩, .int .i64 (nm : Int)] 36) = W) := ⟨_, Lib.hid rfl⟩
      have hb1 : Below wr.heap.size wr V1 := by rw [← hV1.out]; exact (Below.refl _ _).alloc (Nat.le_refl _) _
      have hs1 : V1.heap.size = wr.heap.size + 1 := by rw [← hV1.out]; exact Array.size_push _
      have HX1 : Hid (V1.heap[wr.heap.size]? = some (.cells #[.int .i64 (kd : Int), .int .i64 ((Ln : Int) + 1), .string ⟨tx.toArray⟩, .int .i64 (nm : Int)] 36 (0, 0))) := Lib.hid (by rw [← hV1.out]; exact Array.getElem?_push_size)
      obtain ⟨V2, hV2⟩ : ∃ W, Hid (V1.alloc (.cells #[.string ⟨#[32]⟩, .string ⟨#[9, 32]⟩, .string ⟨#[10]⟩, .string ⟨#[32, 47, 47, 32, 97, 32, 42, 32, 49, 98, 32, 36, 10]⟩, .string ⟨#[13, 10]⟩] 9) = W) := ⟨_, Lib.hid rfl⟩
      have hb2' : Below V1.heap.size V1 V2 := by rw [← hV2.out]; exact (Below.refl _ _).alloc (Nat.le_refl _) _
      have hs2 : V2.heap.size = wr.heap.size + 1 + 1 := by rw [← hV2.out, ← hs1]; exact Array.size_push _
      obtain ⟨V3, hV3⟩ : ∃ W, Hid (V2.alloc (.cells #[.int .i64 (kd : Int), .int .i64 ((Ln : Int) + 1), .string ⟨tx.toArray⟩, .int .i64 (nm : Int)] 36) = W) := ⟨_, Lib.hid rfl⟩
      have hb3' : Below V2.heap.size V2 V3 := by rw [← hV3.out]; exact (Below.refl _ _).alloc (Nat.le_refl _) _
      have HCEL : Hid (∀ j u, ([.int .i64 (kd : Int), .int .i64 ((Ln : Int) + 1), .string ⟨tx.toArray⟩, .int .i64 (nm : Int)] : List Value)[j]? = some u → V3.cell? ((⟨wr.heap.size + 1 + 1, 0, none⟩ : Addr).add j) = some u) := Lib.hid (fun j u hu => by rw [← hV3.out, ← hs2]; exact row_new V2 _ _ j u hu)
      have HB3' : Hid (Below wr.heap.size wr V3) := Lib.hid (hb1.trans ((hb2'.trans (hb3'.mono hb2'.size)).mono hb1.size))
      have HX3 : Hid (V3.heap[wr.heap.size]? = some (.cells #[.int .i64 (kd : Int), .int .i64 ((Ln : Int) + 1), .string ⟨tx.toArray⟩, .int .i64 (nm : Int)] 36 (0, 0))) := Lib.hid ((hb3'.block _ (by omega)).trans ((hb2'.block _ (by omega)).trans HX1.out))
      have HO3 := Lib.hid (own_below HO.out HB3'.out)
      have HZ3 : Hid (w4.heap.size ≤ V3.heap.size) := Lib.hid (Nat.le_trans hzr HB3'.out.size)
      have HXl : Hid (wr.heap.size < V3.heap.size) := Lib.hid (Array.getElem?_eq_some_iff.1 HX3.out).1
      clear hb1 hb2' hb3' hs1 hs2 HX1
      go_wp2_with (at_builtin; rw [hV1.out, hV2.out, hV3.out]; refine wpList_append_own _ rfl _ _ 31 rfl w4.heap.size 36 i0 _ 4 40 Tryd.underlying31 hi hz0 hz1 hz2 rfl (by decide) _ k (tvals (wants 1 Z)) rfl HO3.out ⟨wr.heap.size + 1 + 1, 0, none⟩ 1 1 [.int .i64 (kd : Int), .int .i64 ((Ln : Int) + 1), .string ⟨tx.toArray⟩, .int .i64 (nm : Int)] rfl rfl HCEL.out (tok_one _ _ tx _) (by unfold maxLen; omega) (by omega) HZ3.out ?_; intro v6 w6 hown6 hgrow6 _; have hX6 : w6.heap[wr.heap.size]? = some (.cells #[.int .i64 (kd : Int), .int .i64 ((Ln : Int) + 1), .string ⟨tx.toArray⟩, .int .i64 (nm : Int)] 36 (0, 0)) := (hgrow6.block _ HXl.out (fun e => by have := (HO.out.lt _ e.symm).2; omega)).trans HX3.out; have HO6 := Lib.hid hown6; have HG6 := Lib.hid hgrow6; have HX6 := Lib.hid hX6; have y0 : w6.cell? ⟨wr.heap.size, 0, none⟩ = some (.int .i64 (kd : Int)) := (by rw [cell_of_row w6 _ 0 _ _ _ hX6]; rfl); have y1 : w6.cell? ⟨wr.heap.size, 1, none⟩ = some (.int .i64 ((Ln : Int) + 1)) := (by rw [cell_of_row w6 _ 1 _ _ _ hX6]; rfl); have y2 : w6.cell? ⟨wr.heap.size, 2, none⟩ = some (.string ⟨tx.toArray⟩) := (by rw [cell_of_row w6 _ 2 _ _ _ hX6]; rfl); have y3 : w6.cell? ⟨wr.heap.size, 3, none⟩ = some (.int .i64 (nm : Int)) := (by rw [cell_of_row w6 _ 3 _ _ _ hX6]; rfl); clear hown6 hgrow6 hX6)
      refine (word_any kd ((Ln : Int) + 1) tx nm li w6 HSml.out).mono ?_
      rintro e w7 ⟨wd, rfl, hwd, hwdz, hb7⟩
      have hgz : (sb ++ gs).size ≤ 100100 := by simp; omega
      have hcat2 := cat' (sb ++ gs) wd (by omega)
      have HWD := Lib.hid hwd
      have HB7 := Lib.hid hb7
      clear hwd hb7
      go_wp2_with fail
      have hB7 : Below w4.heap.size w4 w7 := ((HB.out.trans (HB3'.out.mono hzr)).grown HG6.out HZ3.out (fun x hx => (HO.out.lt x hx).1)).trans (HB7.out.mono (Nat.le_trans HZ3.out HG6.out.size))
      have hown7 : w7.ownsRow w4.heap.size 36 4 v6 (wants 1 (Z ++ [(⟨kd, li, tx, nm⟩, g)])).length (tvals (wants 1 (Z ++ [(⟨kd, li, tx, nm⟩, g)]))) := by
       rw [wants_len, wants_snoc, tvals_append, tvals_one, HLn.out, hgl, List.length_append, hZl]
       exact own_below HO6.out HB7.out
      go_roundw
      case rel => exact ⟨k + 1, Z ++ [(⟨kd, li, tx, nm⟩, g)], sb ++ gs ++ wd, by go_num, by omega, by simp [hZl], by rw [List.map_append, HZM.out, List.take_add_one, HTt.out]; rfl, rfl, by rw [append_list, append_list, lay_snoc, HSB.out, HGSL.out, HWD.out], by simp; omega, by rw [last_snoc, HLn.out, hgl]; go_num, by rw [last_snoc, HLn.out, hgl]; omega, hown7, hB7⟩
      case measure => simp [intOf]; omega
     ·obtain ⟨gs, hgs, hgsl, hgsz⟩ := gaps5_get g hg5
      have hg5' : (g : Int) < 5 := by omega
      have hg0' : (0 : Int) ≤ (g : Int) := by omega
      have hcell5 : ((wr.alloc (.cells #[.int .i64 (kd : Int), .int .i64 (li : Int), .string ⟨tx.toArray⟩, .int .i64 (nm : Int)] 36)).alloc (.cells #[.string ⟨#[32]⟩, .string ⟨#[9, 32]⟩, .string ⟨#[10]⟩, .string ⟨#[32, 47, 47, 32, 97, 32, 42, 32, 49, 98, 32, 36, 10]⟩, .string ⟨#[13, 10]⟩] 9)).cell? ⟨wr.heap.size + 1, g, none⟩ = some (.string gs) := by rw [World.cell?_alloc_at _ _ _ _ (Array.size_push _).symm]; exact hgs
      have HGSL := Lib.hid hgsl
      clear hgsl
      have hsbz : sb.size ≤ 100000 := by omega
      have hcat1 := cat' sb gs (by omega)
      have hgl : gapL g = 0 := if_neg hbig
      have hb2 : ¬ (2 : Int) ≤ (g : Int) := by omega
      obtain ⟨V1, hV1⟩ : ∃ W, Hid (wr.alloc (.cells #[.int .i64 (kd : Int), .int .i64 (Ln : Int), .string ⟨tx.toArray⟩, .int .i64 (nm : Int)] 36) = W) := ⟨_, Lib.hid rfl⟩
      have hb1 : Below wr.heap.size wr V1 := by rw [← hV1.out]; exact (Below.refl _ _).alloc (Nat.le_refl _) _
      have hs1 : V1.heap.size = wr.heap.size + 1 := by rw [← hV1.out]; exact Array.size_push _
      have HX1 : Hid (V1.heap[wr.heap.size]? = some (.cells #[.int .i64 (kd : Int), .int .i64 (Ln : Int), .string ⟨tx.toArray⟩, .int .i64 (nm : Int)] 36 (0, 0))) := Lib.hid (by rw [← hV1.out]; exact Array.getElem?_push_size)
      obtain ⟨V2, hV2⟩ : ∃ W, Hid (V1.alloc (.cells #[.string ⟨#[32]⟩, .string ⟨#[9, 32]⟩, .string ⟨#[10]⟩, .string ⟨#[32, 47, 47, 32, 97, 32, 42, 32, 49, 98, 32, 36, 10]⟩, .string ⟨#[13, 10]⟩] 9) = W) := ⟨_, Lib.hid rfl⟩
      have hb2' : Below V1.heap.size V1 V2 := by rw [← hV2.out]; exact (Below.refl _ _).alloc (Nat.le_refl _) _
      have hs2 : V2.heap.size = wr.heap.size + 1 + 1 := by rw [← hV2.out, ← hs1]; exact Array.size_push _
      obtain ⟨V3, hV3⟩ : ∃ W, Hid (V2.alloc (.cells #[.int .i64 (kd : Int), .int .i64 (Ln : Int), .string ⟨tx.toArray⟩, .int .i64 (nm : Int)] 36) = W) := ⟨_, Lib.hid rfl⟩
      have hb3' : Below V2.heap.size V2 V3 := by rw [← hV3.out]; exact (Below.refl _ _).alloc (Nat.le_refl _) _
      have HCEL : Hid (∀ j u, ([.int .i64 (kd : Int), .int .i64 (Ln : Int), .string ⟨tx.toArray⟩, .int .i64 (nm : Int)] : List Value)[j]? = some u → V3.cell? ((⟨wr.heap.size + 1 + 1, 0, none⟩ : Addr).add j) = some u) := Lib.hid (fun j u hu => by rw [← hV3.out, ← hs2]; exact row_new V2 _ _ j u hu)
      have HB3' : Hid (Below wr.heap.size wr V3) := Lib.hid (hb1.trans ((hb2'.trans (hb3'.mono hb2'.size)).mono hb1.size))
      have HX3 : Hid (V3.heap[wr.heap.size]? = some (.cells #[.int .i64 (kd : Int), .int .i64 (Ln : Int), .string ⟨tx.toArray⟩, .int .i64 (nm : Int)] 36 (0, 0))) := Lib.hid ((hb3'.block _ (by omega)).trans ((hb2'.block _ (by omega)).trans HX1.out))
      have HO3 := Lib.hid (own_below HO.out HB3'.out)
      have HZ3 : Hid (w4.heap.size ≤ V3.heap.size) := Lib.hid (Nat.le_trans hzr HB3'.out.size)
      have HXl : Hid (wr.heap.size < V3.heap.size) := Lib.hid (Array.getElem?_eq_some_iff.1 HX3.out).1
      clear hb1 hb2' hb3' hs1 hs2 HX1
      go_wp2_with (at_builtin; rw [hV1.out, hV2.out, hV3.out]; refine wpList_append_own _ rfl _ _ 31 rfl w4.heap.size 36 i0 _ 4 40 Tryd.underlying31 hi hz0 hz1 hz2 rfl (by decide) _ k (tvals (wants 1 Z)) rfl HO3.out ⟨wr.heap.size + 1 + 1, 0, none⟩ 1 1 [.int .i64 (kd : Int), .int .i64 (Ln : Int), .string ⟨tx.toArray⟩, .int .i64 (nm : Int)] rfl rfl HCEL.out (tok_one _ _ tx _) (by unfold maxLen; omega) (by omega) HZ3.out ?_; intro v6 w6 hown6 hgrow6 _; have hX6 : w6.heap[wr.heap.size]? = some (.cells #[.int .i64 (kd : Int), .int .i64 (Ln : Int), .string ⟨tx.toArray⟩, .int .i64 (nm : Int)] 36 (0, 0)) := (hgrow6.block _ HXl.out (fun e => by have := (HO.out.lt _ e.symm).2; omega)).trans HX3.out; have HO6 := Lib.hid hown6; have HG6 := Lib.hid hgrow6; have HX6 := Lib.hid hX6; have y0 : w6.cell? ⟨wr.heap.size, 0, none⟩ = some (.int .i64 (kd : Int)) := (by rw [cell_of_row w6 _ 0 _ _ _ hX6]; rfl); have y1 : w6.cell? ⟨wr.heap.size, 1, none⟩ = some (.int .i64 (Ln : Int)) := (by rw [cell_of_row w6 _ 1 _ _ _ hX6]; rfl); have y2 : w6.cell? ⟨wr.heap.size, 2, none⟩ = some (.string ⟨tx.toArray⟩) := (by rw [cell_of_row w6 _ 2 _ _ _ hX6]; rfl); have y3 : w6.cell? ⟨wr.heap.size, 3, none⟩ = some (.int .i64 (nm : Int)) := (by rw [cell_of_row w6 _ 3 _ _ _ hX6]; rfl); clear hown6 hgrow6 hX6)
      refine (word_any kd (Ln : Int) tx nm li w6 HSml.out).mono ?_
      rintro e w7 ⟨wd, rfl, hwd, hwdz, hb7⟩
      have hgz : (sb ++ gs).size ≤ 100100 := by simp; omega
      have hcat2 := cat' (sb ++ gs) wd (by omega)
      have HWD := Lib.hid hwd
      have HB7 := Lib.hid hb7
      clear hwd hb7
      go_wp2_with fail
      have hB7 : Below w4.heap.size w4 w7 := ((HB.out.trans (HB3'.out.mono hzr)).grown HG6.out HZ3.out (fun x hx => (HO.out.lt x hx).1)).trans (HB7.out.mono (Nat.le_trans HZ3.out HG6.out.size))
      have hown7 : w7.ownsRow w4.heap.size 36 4 v6 (wants 1 (Z ++ [(⟨kd, li, tx, nm⟩, g)])).length (tvals (wants 1 (Z ++ [(⟨kd, li, tx, nm⟩, g)]))) := by
       rw [wants_len, wants_snoc, tvals_append, tvals_one, HLn.out, hgl, List.length_append, hZl]
       exact own_below HO6.out HB7.out
      go_roundw
      case rel => exact ⟨k + 1, Z ++ [(⟨kd, li, tx, nm⟩, g)], sb ++ gs ++ wd, by go_num, by omega, by simp [hZl], by rw [List.map_append, HZM.out, List.take_add_one, HTt.out]; rfl, rfl, by rw [append_list, append_list, lay_snoc, HSB.out, HGSL.out, HWD.out], by simp; omega, by rw [last_snoc, HLn.out, hgl]; go_num, by rw [last_snoc, HLn.out, hgl]; omega, hown7, hB7⟩
      case measure => simp [intOf]; omega
    ·have hi2' : ¬ (k : Int) < (l2 : Int) := by omega
     have hgsl : (⟨#[32]⟩ : ByteArray).data.toList = gapB 0 := by decide
     have hgsz : (⟨#[32]⟩ : ByteArray).size ≤ 13 := by decide
     have HGSL := Lib.hid hgsl
     clear hgsl
     have hsbz : sb.size ≤ 100000 := by omega
     have hcat1 := cat' sb ⟨#[32]⟩ (by omega)
     have hgl : gapL 0 = 0 := rfl
     obtain ⟨V1, hV1⟩ : ∃ W, Hid (wr.alloc (.cells #[.int .i64 (kd : Int), .int .i64 (Ln : Int), .string ⟨tx.toArray⟩, .int .i64 (nm : Int)] 36) = W) := ⟨_, Lib.hid rfl⟩
     have hb1 : Below wr.heap.size wr V1 := by rw [← hV1.out]; exact (Below.refl _ _).alloc (Nat.le_refl _) _
     have hs1 : V1.heap.size = wr.heap.size + 1 := by rw [← hV1.out]; exact Array.size_push _
     have HX1 : Hid (V1.heap[wr.heap.size]? = some (.cells #[.int .i64 (kd : Int), .int .i64 (Ln : Int), .string ⟨tx.toArray⟩, .int .i64 (nm : Int)] 36 (0, 0))) := Lib.hid (by rw [← hV1.out]; exact Array.getElem?_push_size)
     obtain ⟨V2, hV2⟩ : ∃ W, Hid (V1.alloc (.cells #[.string ⟨#[32]⟩, .string ⟨#[9, 32]⟩, .string ⟨#[10]⟩, .string ⟨#[32, 47, 47, 32, 97, 32, 42, 32, 49, 98, 32, 36, 10]⟩, .string ⟨#[13, 10]⟩] 9) = W) := ⟨_, Lib.hid rfl⟩
     have hb2' : Below V1.heap.size V1 V2 := by rw [← hV2.out]; exact (Below.refl _ _).alloc (Nat.le_refl _) _
     have hs2 : V2.heap.size = wr.heap.size + 1 + 1 := by rw [← hV2.out, ← hs1]; exact Array.size_push _
     obtain ⟨V3, hV3⟩ : ∃ W, Hid (V2.alloc (.cells #[.int .i64 (kd : Int), .int .i64 (Ln : Int), .string ⟨tx.toArray⟩, .int .i64 (nm : Int)] 36) = W) := ⟨_, Lib.hid rfl⟩
     have hb3' : Below V2.heap.size V2 V3 := by rw [← hV3.out]; exact (Below.refl _ _).alloc (Nat.le_refl _) _
     have HCEL : Hid (∀ j u, ([.int .i64 (kd : Int), .int .i64 (Ln : Int), .string ⟨tx.toArray⟩, .int .i64 (nm : Int)] : List Value)[j]? = some u → V3.cell? ((⟨wr.heap.size + 1 + 1, 0, none⟩ : Addr).add j) = some u) := Lib.hid (fun j u hu => by rw [← hV3.out, ← hs2]; exact row_new V2 _ _ j u hu)
     have HB3' : Hid (Below wr.heap.size wr V3) := Lib.hid (hb1.trans ((hb2'.trans (hb3'.mono hb2'.size)).mono hb1.size))
     have HX3 : Hid (V3.heap[wr.heap.size]? = some (.cells #[.int .i64 (kd : Int), .int .i64 (Ln : Int), .string ⟨tx.toArray⟩, .int .i64 (nm : Int)] 36 (0, 0))) := Lib.hid ((hb3'.block _ (by omega)).trans ((hb2'.block _ (by omega)).trans HX1.out))
     have HO3 := Lib.hid (own_below HO.out HB3'.out)
     have HZ3 : Hid (w4.heap.size ≤ V3.heap.size) := Lib.hid (Nat.le_trans hzr HB3'.out.size)
     have HXl : Hid (wr.heap.size < V3.heap.size) := Lib.hid (Array.getElem?_eq_some_iff.1 HX3.out).1
     clear hb1 hb2' hb3' hs1 hs2 HX1
     go_wp2_with (at_builtin; rw [hV1.out, hV2.out, hV3.out]; refine wpList_append_own _ rfl _ _ 31 rfl w4.heap.size 36 i0 _ 4 40 Tryd.underlying31 hi hz0 hz1 hz2 rfl (by decide) _ k (tvals (wants 1 Z)) rfl HO3.out ⟨wr.heap.size + 1 + 1, 0, none⟩ 1 1 [.int .i64 (kd : Int), .int .i64 (Ln : Int), .string ⟨tx.toArray⟩, .int .i64 (nm : Int)] rfl rfl HCEL.out (tok_one _ _ tx _) (by unfold maxLen; omega) (by omega) HZ3.out ?_; intro v6 w6 hown6 hgrow6 _; have hX6 : w6.heap[wr.heap.size]? = some (.cells #[.int .i64 (kd : Int), .int .i64 (Ln : Int), .string ⟨tx.toArray⟩, .int .i64 (nm : Int)] 36 (0, 0)) := (hgrow6.block _ HXl.out (fun e => by have := (HO.out.lt _ e.symm).2; omega)).trans HX3.out; have HO6 := Lib.hid hown6; have HG6 := Lib.hid hgrow6; have HX6 := Lib.hid hX6; have y0 : w6.cell? ⟨wr.heap.size, 0, none⟩ = some (.int .i64 (kd : Int)) := (by rw [cell_of_row w6 _ 0 _ _ _ hX6]; rfl); have y1 : w6.cell? ⟨wr.heap.size, 1, none⟩ = some (.int .i64 (Ln : Int)) := (by rw [cell_of_row w6 _ 1 _ _ _ hX6]; rfl); have y2 : w6.cell? ⟨wr.heap.size, 2, none⟩ = some (.string ⟨tx.toArray⟩) := (by rw [cell_of_row w6 _ 2 _ _ _ hX6]; rfl); have y3 : w6.cell? ⟨wr.heap.size, 3, none⟩ = some (.int .i64 (nm : Int)) := (by rw [cell_of_row w6 _ 3 _ _ _ hX6]; rfl); clear hown6 hgrow6 hX6)
     refine (word_any kd (Ln : Int) tx nm li w6 HSml.out).mono ?_
     rintro e w7 ⟨wd, rfl, hwd, hwdz, hb7⟩
     have hgz : (sb ++ (⟨#[32]⟩ : ByteArray)).size ≤ 100100 := by simp; omega
     have hcat2 := cat' (sb ++ (⟨#[32]⟩ : ByteArray)) wd (by omega)
     have HWD := Lib.hid hwd
     have HB7 := Lib.hid hb7
     clear hwd hb7
     go_wp2_with fail
     have hB7 : Below w4.heap.size w4 w7 := ((HB.out.trans (HB3'.out.mono hzr)).grown HG6.out HZ3.out (fun x hx => (HO.out.lt x hx).1)).trans (HB7.out.mono (Nat.le_trans HZ3.out HG6.out.size))
     have hown7 : w7.ownsRow w4.heap.size 36 4 v6 (wants 1 (Z ++ [(⟨kd, li, tx, nm⟩, 0)])).length (tvals (wants 1 (Z ++ [(⟨kd, li, tx, nm⟩, 0)]))) := by
      rw [wants_len, wants_snoc, tvals_append, tvals_one, HLn.out, hgl, List.length_append, hZl]
      exact own_below HO6.out HB7.out
     go_roundw
     case rel => exact ⟨k + 1, Z ++ [(⟨kd, li, tx, nm⟩, 0)], sb ++ (⟨#[32]⟩ : ByteArray) ++ wd, by go_num, by omega, by simp [hZl], by rw [List.map_append, HZM.out, List.take_add_one, HTt.out]; rfl, rfl, by rw [append_list, append_list, lay_snoc, HSB.out, HGSL.out, HWD.out], by simp; omega, by rw [last_snoc, HLn.out, hgl]; go_num, by rw [last_snoc, HLn.out, hgl]; omega, hown7, hB7⟩
     case measure => simp [intOf]; omega
   ·obtain rfl : k = Y.length := by omega
    have hlt' : ¬ (Y.length : Int) < (Y.length : Int) := by omega
    obtain ⟨R2, hR2⟩ : ∃ R, Hid (scan sb.data.toList = R) := ⟨_, Lib.hid rfl⟩
    obtain ⟨Y2, l3, e3⟩ := R2
    have hres : (4000 < sb.size → e3 = 5) ∧ (sb.size ≤ 4000 → Y2 = wants 1 Z ∧ e3 = 0) := by
     have hm := HZM.out
     rw [List.take_of_length_le (Nat.le_refl _), HY.out] at hm
     obtain ⟨Z1, Z2, rfl, hz1', hz2'⟩ := List.map_eq_append_iff.1 hm
     obtain ⟨⟨te, ge⟩, rfl, hte⟩ : ∃ p, Z2 = [p] ∧ p.1 = (⟨0, n, [], 0⟩ : Tok) := by
      cases Z2 with
      | nil => simp at hz2'
      | cons p r =>
       simp at hz2'
       exact ⟨p, by rw [hz2'.2], hz2'.1⟩
     dsimp only at hte
     subst hte
     have hsb' := HSB.out
     rw [lay_snoc] at hsb'
     have hwo : wordOf (⟨0, n, [], 0⟩ : Tok) = [] := rfl
     rw [hwo, List.append_nil] at hsb'
     have h2 := hR2.out
     have hlen : (lay Z1 ++ gapB ge).length = sb.size := by rw [← hsb']; simp
     constructor
     ·intro hbig
      rw [hsb'] at h2
      unfold scan at h2
      rw [if_pos (by rw [hlen]; exact hbig)] at h2
      simp only [Prod.mk.injEq] at h2
      exact h2.2.2.symm
     ·intro hsmall
      rw [hsb', scan_lay Z1 ge (fun p hp => HRD.out p.1 (by rw [← hz1']; exact List.mem_map_of_mem hp)) (by rw [← List.length_map (f := (·.1)), hz1']; exact hL) (by rw [hlen]; exact hsmall)] at h2
      simp only [Prod.mk.injEq] at h2
      exact ⟨by rw [wants_snoc]; exact h2.1.symm, h2.2.2.symm⟩
    have HRES := Lib.hid hres
    have hz4 : sb.size ≤ 100000 := by omega
    clear hres
    go_wp2_with fail
    refine (scan_any sb wr (hS.below HBr.out hS.lt) (by omega) (Y2, l3, e3) hR2).mono ?_
    rintro e w8 ⟨A8, C8, rfl, ht8, hb8⟩
    have HB8 := Lib.hid (HBr.out.trans (hb8.mono HBr.out.size))
    have HT8 := Lib.hid ht8
    have HTW := Lib.hid (HTK.out.below hb8 (Nat.le_refl _) hb8.size)
    clear hb8 ht8
    by_cases hbig : 4000 < sb.size
    ·obtain rfl := HRES.out.1 hbig
     have hbig' : (4000 : Int) < (sb.size : Int) := by omega
     go_wp2_with fail
     refine (known_any w8 (hS.below HB8.out hS.lt)).mono ?_
     rintro e w9 ⟨rfl, hb9⟩
     have HB9 := Lib.hid (HB8.out.trans (hb9.mono HB8.out.size))
     clear hb9
     go_wp2_with fail
     go_ret
     exact ⟨rfl, HB9.out⟩
    ·obtain ⟨hY2, rfl⟩ := HRES.out.2 (by omega)
     subst hY2
     have hbig' : ¬ (4000 : Int) < (sb.size : Int) := by omega
     have hcall := list_same A8 wA C8 wC (wants 1 Z) w8 _ _ HT8.out HTW.out
     have hwl2 := HWL.out
     rw [hwl2, hYn] at hcall
     have HCALL := Lib.hid hcall
     clear hcall
     go_wp2_with fail
     refine HCALL.out.mono ?_
     rintro e w9 ⟨rfl, hd9⟩
     have HB9 := Lib.hid (HB8.out.trans ((hd9.below w8.heap.size).mono HB8.out.size))
     clear hd9
     go_wp2_with fail
     refine (known_any w9 (hS.below HB9.out hS.lt)).mono ?_
     rintro e w10 ⟨rfl, hb10⟩
     have HB10 := Lib.hid (HB9.out.trans (hb10.mono HB9.out.size))
     clear hb10
     go_wp2_with fail
     go_ret
     exact ⟨rfl, HB10.out⟩
 ·have her' : (er : Int) ≠ 0 := by omega
  go_wp2_with fail
  refine (known_any w4 (hS.below HB4.out hS.lt)).mono ?_
  rintro e w5 ⟨rfl, hb5⟩
  have HB5 := Lib.hid (HB4.out.trans (hb5.mono HB4.out.size))
  clear hb5
  go_wp2_with fail
  go_ret
  exact ⟨rfl, HB5.out⟩
end Go.Proofs.YtchibamdkaejdaaDoor
