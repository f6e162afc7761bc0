/-
  Line feeds and the lines of tokens: lines do not decrease, and the last token has the last line. No condition. The walk of the law LexerLines. Conditions: the package's variable of signs holds what the program gives it; what the generator's Text does.
-/
import Derived.Test.YtchibamdkaejdaaDoorZA
import Derived.Test.YtchibamdkaejdaaDoorZLx
import Derived.Test.YtchibamdkaejdaaDoorZBa
import Derived.BigQuiet
namespace Go.Proofs.YtchibamdkaejdaaDoor

/-- How many line feeds a text has. -/
def nl : List UInt8 → Nat
 | [] => 0
 | c :: l => (if c.toNat = 10 then 1 else 0) + nl l
theorem nl_append : ∀ a b : List UInt8, nl (a ++ b) = nl a + nl b
 | [], b => by simp [nl]
 | c :: a, b => by
  rw [List.cons_append, nl, nl, nl_append a b]
  omega
theorem nl_none : ∀ l : List UInt8, (∀ c ∈ l, c.toNat ≠ 10) → nl l = 0
 | [], _ => rfl
 | c :: l, h => by
  rw [nl, if_neg (h c (by simp)), nl_none l (fun d hd => h d (by simp [hd]))]
theorem gap_nl : ∀ (l : List UInt8) (cm : Bool), nl (l.drop (gap cm l).1) + (gap cm l).2 = nl l
 | [], cm => by rw [gap_nil]; rfl
 | c :: l, cm => by
  have h1 := gap_nl l false
  have h2 := gap_nl l true
  have h3 := gap_nl l cm
  rw [gap]
  split
  ·rename_i h
   simp only [List.drop_succ_cons, nl, if_pos h]
   omega
  ·rename_i h
   split
   ·simp only [List.drop_succ_cons, nl, if_neg h]
    omega
   ·split
    ·simp only [List.drop_succ_cons, nl, if_neg h]
     omega
    ·simp
theorem take_len (l : List UInt8) (k : Nat) : l.take (l.take k).length = l.take k := by
 rw [List.length_take]
 by_cases h : k ≤ l.length
 ·rw [Nat.min_eq_left h]
 ·rw [Nat.min_eq_right (by omega), List.take_of_length_le (Nat.le_refl _), List.take_of_length_le (by omega)]
theorem sign_nl (l : List UInt8) : l.take (sign l).length = sign l ∧ ∀ c ∈ sign l, c.toNat ≠ 10 := by
 unfold sign
 split
 ·rename_i h
  refine ⟨take_len l 2, fun c hc => ?_⟩
  have hall : ∀ t ∈ twos, ∀ c ∈ t, c.toNat ≠ 10 := by decide
  exact hall _ h c hc
 ·split
  ·rename_i h
   refine ⟨take_len l 1, fun c hc => ?_⟩
   obtain ⟨d, hd, ho⟩ := h
   have hall : ∀ c ∈ ones, c.toNat ≠ 10 := by decide
   cases l with
   | nil => simp at hc
   | cons x l =>
    simp at hd hc
    subst hd hc
    exact hall _ ho
  ·exact ⟨by simp, fun c hc => by simp at hc⟩
theorem fst_feeds (l : List UInt8) (h : (fst l).err = 0) : ∀ c ∈ l.take (fst l).size, c.toNat ≠ 10 := by
 unfold fst at *
 split
 ·simp at h
 ·rename_i c l
  dsimp only at h
  split
  ·rename_i hd
   rw [if_pos hd] at h
   unfold fstNum at *
   have hs := span_all isD (c :: l)
   split
   ·rename_i h1; rw [if_pos h1] at h; simp at h
   ·split
    ·rename_i h1 h2; rw [if_neg h1, if_pos h2] at h; simp at h
    ·intro d hdm
     have := hs d hdm
     simp only [isD, decide_eq_true_eq] at this
     omega
  ·rename_i hd
   rw [if_neg hd] at h
   split
   ·rename_i hl
    unfold fstName
    have hs := span_all isLD (c :: l)
    rw [if_pos hl] at h
    unfold fstName at h
    split
    ·rename_i h1; rw [if_pos h1] at h; simp at h
    ·intro d hdm
     have := hs d hdm
     simp only [isLD, isL, isD, Bool.or_eq_true, decide_eq_true_eq] at this
     omega
   ·rename_i hl
    rw [if_neg hl] at h
    unfold fstSign at *
    split
    ·rename_i h1; rw [if_pos h1] at h; simp at h
    ·have hs := sign_nl (c :: l)
     intro d hdm
     dsimp only at hdm
     rw [hs.1] at hdm
     exact hs.2 d hdm
theorem fst_nl (l : List UInt8) (h : (fst l).err = 0) : nl (l.drop (fst l).size) = nl l := by
 have h1 := nl_append (l.take (fst l).size) (l.drop (fst l).size)
 rw [List.take_append_drop, nl_none _ (fst_feeds l h)] at h1
 omega
/-- From a line on, the lines of the tokens do not decrease, and the last one is n. -/
def up : Nat → List Tok → Nat → Prop
 | was, [], n => was = n
 | was, t :: l, n => was ≤ t.line ∧ up t.line l n
theorem up_snoc : ∀ (acc : List Tok) (was L : Nat) (t : Tok), up was acc L → L ≤ t.line → up was (acc ++ [t]) t.line
 | [], was, L, t, h, hL => by
  have h : was = L := h
  exact ⟨by omega, rfl⟩
 | a :: acc, was, L, t, h, hL => ⟨h.1, up_snoc acc a.line L t h.2 hL⟩
theorem scanF_lines : ∀ (f : Nat) (l : List UInt8) (L L0 : Nat) (acc : List Tok), l.length < f → up 1 acc L0 → L0 ≤ L →
  ((scanF f l L acc).2.2 = 0 → up 1 (scanF f l L acc).1 (L + nl l)) ∧ ((scanF f l L acc).2.2 ≠ 0 → (scanF f l L acc).1 = [] ∧ (scanF f l L acc).2.1 ≤ L + nl l)
 | 0, _, _, _, _, h, _, _ => by omega
 | f + 1, l, L, L0, acc, hf, hup, hL => by
  have hg := gap_nl l false
  rw [scanF]
  split
  ·rename_i h0
   refine ⟨fun _ => ?_, fun h => absurd rfl h⟩
   rw [h0] at hg
   have h1 := up_snoc acc 1 L0 ⟨0, L + (gap false l).2, [], 0⟩ hup (by dsimp only; omega)
   dsimp only at h1 ⊢
   rw [show L + nl l = L + (gap false l).2 by rw [← hg]; simp [nl]]
   exact h1
  ·split
   ·rename_i h1
    exact ⟨fun h => absurd h h1, fun _ => ⟨rfl, by dsimp only; omega⟩⟩
   ·rename_i h0 h1
    split
    ·exact ⟨fun h => by simp at h, fun _ => ⟨rfl, by dsimp only; omega⟩⟩
    ·have herr : (fst (l.drop (gap false l).1)).err = 0 := by omega
     have hsz := fst_size _ herr
     have hn := fst_nl _ herr
     have ih := scanF_lines f ((l.drop (gap false l).1).drop (fst (l.drop (gap false l).1)).size) (L + (gap false l).2) (L + (gap false l).2) (acc ++ [⟨(fst (l.drop (gap false l).1)).kind, L + (gap false l).2, (fst (l.drop (gap false l).1)).text, (fst (l.drop (gap false l).1)).num⟩]) (by
      rw [List.length_drop, List.length_drop]
      rw [List.length_drop] at hsz
      omega) (up_snoc acc 1 L0 _ hup (by dsimp only; omega)) (Nat.le_refl _)
     rw [show L + (gap false l).2 + nl ((l.drop (gap false l).1).drop (fst (l.drop (gap false l).1)).size) = L + nl l by omega] at ih
     exact ih
theorem scan_lines (l : List UInt8) : ((scan l).2.2 = 0 → up 1 (scan l).1 (1 + nl l)) ∧ ((scan l).2.2 ≠ 0 → (scan l).1 = [] ∧ (scan l).2.1 ≤ 1 + nl l) := by
 unfold scan
 split
 ·exact ⟨fun h => by simp at h, fun _ => ⟨rfl, by simp⟩⟩
 ·exact scanF_lines (l.length + 1) l 1 1 [] (by omega) rfl (Nat.le_refl _)
theorem up_get : ∀ (l : List Tok) (was n k : Nat) (t : Tok), up was l n → l[k]? = some t → (match k with | 0 => was | k + 1 => (l.getD k ⟨0, 0, [], 0⟩).line) ≤ t.line
 | [], _, _, k, _, _, h => by simp at h
 | a :: l, was, n, 0, t, h, hk => by
  simp at hk
  subst hk
  exact h.1
 | a :: l, was, n, k + 1, t, h, hk => by
  have := up_get l a.line n k t h.2 (by simpa using hk)
  cases k with
  | zero => simpa using this
  | succ k => simpa using this
end Go.Proofs.YtchibamdkaejdaaDoor
namespace Go.Proofs.YtchibamdkaejdaaDoor
open Go.RowKit

theorem drop_get {α : Type} {l : List α} {k : Nat} {t : α} (h : l[k]? = some t) : l.drop k = t :: l.drop (k + 1) := by
 obtain ⟨hk, e⟩ := List.getElem?_eq_some_iff.1 h
 rw [List.drop_eq_getElem_cons hk, e]
theorem take_get {l : List UInt8} {k : Nat} {c : UInt8} (h : l[k]? = some c) : nl (l.take (k + 1)) = nl (l.take k) + (if c.toNat = 10 then 1 else 0) := by
 have e : l.take (k + 1) = l.take k ++ [c] := by rw [List.take_add_one, h]; rfl
 rw [e, nl_append]
 simp [nl]
theorem nl_le : ∀ l : List UInt8, nl l ≤ l.length
 | [] => Nat.le_refl _
 | c :: l => by
  have := nl_le l
  rw [nl, List.length_cons]
  split <;> omega
set_option linter.unusedSimpArgs false in
set_option linter.unusedVariables false in
set_option maxHeartbeats 0 in
set_option maxRecDepth 100000 in
theorem lineslaw_any (s : ByteArray) (A : Option Addr) (l c : Nat) (w : World) (hS : SignsAt w) (hs : s.size ≤ 9223372036854775807) (hl : l ≤ c) (hc : c ≤ 9223372036854775807)
  (hT : ∀ w1, Below w.heap.size w w1 → ∀ l' c', l' ≤ 200 → l' ≤ l → (l' ≤ c' ∧ c' ≤ 9223372036854775807) → Calls Tryd.prog 8 #[.slice A l' c'] w1 (Str w1 1000000000)) :
  Calls Tryd.prog 6 #[.string s, .slice A l c] w fun e w' => e = .returned (.bool true) ∧ Below w.heap.size w w' := by
 have HT := Lib.hid hT
 clear hT
 by_cases h : 2000 < s.size
 ·have hq : decide ((2000 : Int) < (s.size : Int)) = true := by simp; omega
  obtain ⟨s', hs'⟩ : ∃ x, Hid (s.extract 0 2000 = x) := ⟨_, Lib.hid rfl⟩
  have hz : s'.size ≤ 1000000000 := by rw [← hs'.out]; simp; omega
  go_enter Tryd.func6, Tryd.ntmps6
  go_wp2_with fail
  rw [hs'.out]
  refine (short_any A l c w hl hc).mono ?_
  rintro e w2 ⟨rfl, l', c', rfl, h200, hll, hlc⟩
  go_wp2_with fail
  refine (HT.out w2 (Below.refl _ _) l' c' h200 hll hlc).mono ?_
  rintro e w3 ⟨t2, rfl, ht2, hb3⟩
  have HB3 := Lib.hid hb3
  clear hb3
  obtain ⟨W, hW⟩ : ∃ W, Hid (w3.alloc (.cells #[.string s', .string t2] 9) = W) := ⟨_, Lib.hid rfl⟩
  have HBW : Hid (Below w2.heap.size w2 W) := Lib.hid (by rw [← hW.out]; exact HB3.out.alloc HB3.out.size _)
  have HR : Hid (W.heap[w3.heap.size]? = some (.cells #[.string s', .string t2] 9 (0, 0))) := Lib.hid (by rw [← hW.out]; exact Array.getElem?_push_size)
  go_wp2_with fail
  rw [hW.out]
  go_loopw [26] (fun i wr => ∃ k : Nat, k ≤ 2 ∧ i = .int .i64 (k : Int) ∧ Below W.heap.size W wr) (fun i _ => 2 - (intOf i).toNat)
  case atStart => exact ⟨0, by omega, rfl, Below.refl _ _⟩
  case round =>
   obtain ⟨k, hk, rfl, hbel⟩ := hrel
   have HB := Lib.hid hbel
   have HBr := Lib.hid (HBW.out.trans (hbel.mono HBW.out.size))
   clear hbel
   by_cases hlt : k < 2
   ·obtain ⟨u, hu, huc⟩ : ∃ u : ByteArray, u.size ≤ 1000000000 ∧ wr.cell? ⟨w3.heap.size, k, none⟩ = some (.string u) := by
     have hr := (HB.out.block _ (Array.getElem?_eq_some_iff.1 HR.out).1).trans HR.out
     have : k = 0 ∨ k = 1 := by omega
     rcases this with rfl | rfl
     ·exact ⟨s', hz, by rw [cell_of_row wr _ 0 _ _ _ hr]; rfl⟩
     ·exact ⟨t2, ht2, by rw [cell_of_row wr _ 1 _ _ _ hr]; rfl⟩
    have hlt' : (k : Int) < 2 := by omega
    obtain ⟨R, hR⟩ : ∃ R, Hid (scan u.data.toList = R) := ⟨_, Lib.hid rfl⟩
    obtain ⟨Y, ln, er⟩ := R
    have hlines := scan_lines u.data.toList
    rw [hR.out] at hlines
    dsimp only at hlines
    have HL := Lib.hid hlines
    have hnl := nl_le u.data.toList
    have hnl : nl u.data.toList ≤ 1000000000 := Nat.le_trans hnl (by simpa using hu)
    clear hlines
    go_wp2_with fail
    go_loop [7, 8] (fun nv iv => ∃ q m : Nat, iv = .int .i64 (q : Int) ∧ q ≤ u.size ∧ nv = .int .i64 (m : Int) ∧ m = 1 + nl (u.data.toList.take q)) (fun _ iv => u.size - (intOf iv).toNat)
    case atStart => exact ⟨0, 1, rfl, Nat.zero_le _, rfl, by simp [nl]⟩
    case round =>
     obtain ⟨q, m, rfl, hq', rfl, hm⟩ := hrel
     have hml : m ≤ 1 + q := by have := nl_le (u.data.toList.take q); rw [List.length_take] at this; omega
     by_cases hqs : q < u.size
     ·obtain ⟨x, hx⟩ : ∃ x, (u[q]'hqs) = x := ⟨_, rfl⟩
      have hxl := x.toNat_lt
      have hget : u.data.toList[q]? = some x := by
       rw [← hx, Array.getElem?_toList]
       exact Array.getElem?_eq_getElem (by simpa using hqs)
      have htk := take_get hget
      have HM := Lib.hid hm
      have HTK := Lib.hid htk
      clear hm htk hget
      by_cases h10 : x.toNat = 10
      ·go_wp2_with fail
       go_round
       case rel => exact ⟨q + 1, m + 1, by go_num, by omega, by go_num, by have h1 := HM.out; have h2 := HTK.out; rw [if_pos h10] at h2; omega⟩
       case measure => simp [intOf]; omega
      ·go_wp2_with fail
       go_round
       case rel => exact ⟨q + 1, m, by go_num, by omega, rfl, by have h1 := HM.out; have h2 := HTK.out; rw [if_neg h10] at h2; omega⟩
       case measure => simp [intOf]; omega
     ·obtain rfl : q = u.size := by omega
      have hm' : m = 1 + nl u.data.toList := by rw [hm, List.take_of_length_le (by simp)]
      clear hm
      have hqs' : ¬ (u.size : Int) < (u.size : Int) := by omega
      go_wp2_with fail
      refine (scan_any u wr (hS.below HBr.out hS.lt) (by omega) (Y, ln, er) hR).mono ?_
      rintro e w5 ⟨A5, C5, rfl, ht, hb5⟩
      have HB5 := Lib.hid (HBr.out.trans (hb5.mono HBr.out.size))
      have HBW5 := Lib.hid (HB.out.trans (hb5.mono HB.out.size))
      have HTk := Lib.hid ht
      have hYl := ht.len
      have hYc : C5 ≤ 9223372036854775807 := ht.cap
      dsimp only at hYl
      clear hb5 ht
      by_cases her : er = 0
      ·subst her
       have hup := HL.out.1 rfl
       have HUP := Lib.hid hup
       clear hup
       go_wp2_with fail
       go_loopw [12, 64] (fun v i wq => ∃ j was : Nat, j ≤ Y.length ∧ i = .int .i64 (j : Int) ∧ v = .int .i64 (was : Int) ∧ up was (Y.drop j) (1 + nl u.data.toList) ∧ Below w5.heap.size w5 wq) (fun _ i _ => Y.length - (intOf i).toNat)
       case atStart => exact ⟨0, 1, Nat.zero_le _, rfl, rfl, HUP.out, Below.refl _ _⟩
       case round =>
        obtain ⟨j, was, hj, rfl, rfl, hup, hbq⟩ := hrel
        have HUJ := Lib.hid hup
        have HBQ := Lib.hid hbq
        have hzq := hbq.size
        clear hup hbq
        by_cases hjl : j < Y.length
        ·obtain ⟨⟨kd, li, tx, nm⟩, htj⟩ : ∃ t, Y[j]? = some t := ⟨_, List.getElem?_eq_getElem hjl⟩
         obtain ⟨b5, rfl, hb5l, hc5⟩ := HTk.out.at_ (by rintro rfl; simp at hjl)
         obtain ⟨z0, z1, z2, z3⟩ := hc5 j _ htj
         have hup := HUJ.out
         rw [drop_get htj] at hup
         obtain ⟨hle, hup⟩ := hup
         dsimp only at hle hup
         have hle' : ¬ (li : Int) < (was : Int) := by omega
         have HUN := Lib.hid hup
         have z0 := (HBQ.out.cell (p := ⟨b5, _, none⟩) hb5l).trans z0
         have z1 := (HBQ.out.cell (p := ⟨b5, _, none⟩) hb5l).trans z1
         have z2 := (HBQ.out.cell (p := ⟨b5, _, none⟩) hb5l).trans z2
         have z3 := (HBQ.out.cell (p := ⟨b5, _, none⟩) hb5l).trans z3
         have n2 : b5 < wr.heap.size := by omega
         clear hc5 htj hup
         go_wp2_with fail
         go_roundw
         case rel => exact ⟨j + 1, li, by omega, by go_num, rfl, HUN.out, HBQ.out.alloc hzq _⟩
         case measure => simp [intOf]; omega
        ·obtain rfl : j = Y.length := by omega
         have hup := HUJ.out
         rw [List.drop_of_length_le (Nat.le_refl _)] at hup
         have hwas : was = 1 + nl u.data.toList := hup
         clear hup
         have hww : (was : Int) = (m : Int) := by omega
         have hjl' : ¬ (Y.length : Int) < (Y.length : Int) := by omega
         go_wp2_with fail
         go_roundw
         case rel => exact ⟨k + 1, by omega, by go_num, HBW5.out.trans (HBQ.out.mono HBW5.out.size)⟩
         case measure => simp [intOf]; omega
      ·obtain ⟨hY, hln⟩ := HL.out.2 her
       subst hY
       have her' : (er : Int) ≠ 0 := by omega
       have g1 : ¬ (ln : Int) < 0 := by omega
       have g2 : ¬ (m : Int) < (ln : Int) := by omega
       go_wp2_with fail
       go_roundw
       case rel => exact ⟨k + 1, by omega, by go_num, HBW5.out⟩
       case measure => simp [intOf]; omega
   ·obtain rfl : k = 2 := by omega
    go_wp2_with fail
    refine (known_any wr (hS.below HBr.out hS.lt)).mono ?_
    rintro e w9 ⟨rfl, hb9⟩
    have HB9 := Lib.hid (HBr.out.trans (hb9.mono HBr.out.size))
    clear hb9
    go_wp2_with fail
    go_ret
    exact ⟨rfl, HB9.out⟩
 ·have hq : decide ((2000 : Int) < (s.size : Int)) = false := by simp; omega
  have hz : s.size ≤ 1000000000 := by omega
  go_enter Tryd.func6, Tryd.ntmps6
  go_wp2_with fail
  refine (short_any A l c w hl hc).mono ?_
  rintro e w2 ⟨rfl, l', c', rfl, h200, hll, hlc⟩
  go_wp2_with fail
  refine (HT.out w2 (Below.refl _ _) l' c' h200 hll hlc).mono ?_
  rintro e w3 ⟨t2, rfl, ht2, hb3⟩
  have HB3 := Lib.hid hb3
  clear hb3
  obtain ⟨W, hW⟩ : ∃ W, Hid (w3.alloc (.cells #[.string s, .string t2] 9) = W) := ⟨_, Lib.hid rfl⟩
  have HBW : Hid (Below w2.heap.size w2 W) := Lib.hid (by rw [← hW.out]; exact HB3.out.alloc HB3.out.size _)
  have HR : Hid (W.heap[w3.heap.size]? = some (.cells #[.string s, .string t2] 9 (0, 0))) := Lib.hid (by rw [← hW.out]; exact Array.getElem?_push_size)
  go_wp2_with fail
  rw [hW.out]
  go_loopw [26] (fun i wr => ∃ k : Nat, k ≤ 2 ∧ i = .int .i64 (k : Int) ∧ Below W.heap.size W wr) (fun i _ => 2 - (intOf i).toNat)
  case atStart => exact ⟨0, by omega, rfl, Below.refl _ _⟩
  case round =>
   obtain ⟨k, hk, rfl, hbel⟩ := hrel
   have HB := Lib.hid hbel
   have HBr := Lib.hid (HBW.out.trans (hbel.mono HBW.out.size))
   clear hbel
   by_cases hlt : k < 2
   ·obtain ⟨u, hu, huc⟩ : ∃ u : ByteArray, u.size ≤ 1000000000 ∧ wr.cell? ⟨w3.heap.size, k, none⟩ = some (.string u) := by
     have hr := (HB.out.block _ (Array.getElem?_eq_some_iff.1 HR.out).1).trans HR.out
     have : k = 0 ∨ k = 1 := by omega
     rcases this with rfl | rfl
     ·exact ⟨s, hz, by rw [cell_of_row wr _ 0 _ _ _ hr]; rfl⟩
     ·exact ⟨t2, ht2, by rw [cell_of_row wr _ 1 _ _ _ hr]; rfl⟩
    have hlt' : (k : Int) < 2 := by omega
    obtain ⟨R, hR⟩ : ∃ R, Hid (scan u.data.toList = R) := ⟨_, Lib.hid rfl⟩
    obtain ⟨Y, ln, er⟩ := R
    have hlines := scan_lines u.data.toList
    rw [hR.out] at hlines
    dsimp only at hlines
    have HL := Lib.hid hlines
    have hnl := nl_le u.data.toList
    have hnl : nl u.data.toList ≤ 1000000000 := Nat.le_trans hnl (by simpa using hu)
    clear hlines
    go_wp2_with fail
    go_loop [7, 8] (fun nv iv => ∃ q m : Nat, iv = .int .i64 (q : Int) ∧ q ≤ u.size ∧ nv = .int .i64 (m : Int) ∧ m = 1 + nl (u.data.toList.take q)) (fun _ iv => u.size - (intOf iv).toNat)
    case atStart => exact ⟨0, 1, rfl, Nat.zero_le _, rfl, by simp [nl]⟩
    case round =>
     obtain ⟨q, m, rfl, hq', rfl, hm⟩ := hrel
     have hml : m ≤ 1 + q := by have := nl_le (u.data.toList.take q); rw [List.length_take] at this; omega
     by_cases hqs : q < u.size
     ·obtain ⟨x, hx⟩ : ∃ x, (u[q]'hqs) = x := ⟨_, rfl⟩
      have hxl := x.toNat_lt
      have hget : u.data.toList[q]? = some x := by
       rw [← hx, Array.getElem?_toList]
       exact Array.getElem?_eq_getElem (by simpa using hqs)
      have htk := take_get hget
      have HM := Lib.hid hm
      have HTK := Lib.hid htk
      clear hm htk hget
      by_cases h10 : x.toNat = 10
      ·go_wp2_with fail
       go_round
       case rel => exact ⟨q + 1, m + 1, by go_num, by omega, by go_num, by have h1 := HM.out; have h2 := HTK.out; rw [if_pos h10] at h2; omega⟩
       case measure => simp [intOf]; omega
      ·go_wp2_with fail
       go_round
       case rel => exact ⟨q + 1, m, by go_num, by omega, rfl, by have h1 := HM.out; have h2 := HTK.out; rw [if_neg h10] at h2; omega⟩
       case measure => simp [intOf]; omega
     ·obtain rfl : q = u.size := by omega
      have hm' : m = 1 + nl u.data.toList := by rw [hm, List.take_of_length_le (by simp)]
      clear hm
      have hqs' : ¬ (u.size : Int) < (u.size : Int) := by omega
      go_wp2_with fail
      refine (scan_any u wr (hS.below HBr.out hS.lt) (by omega) (Y, ln, er) hR).mono ?_
      rintro e w5 ⟨A5, C5, rfl, ht, hb5⟩
      have HB5 := Lib.hid (HBr.out.trans (hb5.mono HBr.out.size))
      have HBW5 := Lib.hid (HB.out.trans (hb5.mono HB.out.size))
      have HTk := Lib.hid ht
      have hYl := ht.len
      have hYc : C5 ≤ 9223372036854775807 := ht.cap
      dsimp only at hYl
      clear hb5 ht
      by_cases her : er = 0
      ·subst her
       have hup := HL.out.1 rfl
       have HUP := Lib.hid hup
       clear hup
       go_wp2_with fail
       go_loopw [12, 64] (fun v i wq => ∃ j was : Nat, j ≤ Y.length ∧ i = .int .i64 (j : Int) ∧ v = .int .i64 (was : Int) ∧ up was (Y.drop j) (1 + nl u.data.toList) ∧ Below w5.heap.size w5 wq) (fun _ i _ => Y.length - (intOf i).toNat)
       case atStart => exact ⟨0, 1, Nat.zero_le _, rfl, rfl, HUP.out, Below.refl _ _⟩
       case round =>
        obtain ⟨j, was, hj, rfl, rfl, hup, hbq⟩ := hrel
        have HUJ := Lib.hid hup
        have HBQ := Lib.hid hbq
        have hzq := hbq.size
        clear hup hbq
        by_cases hjl : j < Y.length
        ·obtain ⟨⟨kd, li, tx, nm⟩, htj⟩ : ∃ t, Y[j]? = some t := ⟨_, List.getElem?_eq_getElem hjl⟩
         obtain ⟨b5, rfl, hb5l, hc5⟩ := HTk.out.at_ (by rintro rfl; simp at hjl)
         obtain ⟨z0, z1, z2, z3⟩ := hc5 j _ htj
         have hup := HUJ.out
         rw [drop_get htj] at hup
         obtain ⟨hle, hup⟩ := hup
         dsimp only at hle hup
         have hle' : ¬ (li : Int) < (was : Int) := by omega
         have HUN := Lib.hid hup
         have z0 := (HBQ.out.cell (p := ⟨b5, _, none⟩) hb5l).trans z0
         have z1 := (HBQ.out.cell (p := ⟨b5, _, none⟩) hb5l).trans z1
         have z2 := (HBQ.out.cell (p := ⟨b5, _, none⟩) hb5l).trans z2
         have z3 := (HBQ.out.cell (p := ⟨b5, _, none⟩) hb5l).trans z3
         have n2 : b5 < wr.heap.size := by omega
         clear hc5 htj hup
         go_wp2_with fail
         go_roundw
         case rel => exact ⟨j + 1, li, by omega, by go_num, rfl, HUN.out, HBQ.out.alloc hzq _⟩
         case measure => simp [intOf]; omega
        ·obtain rfl : j = Y.length := by omega
         have hup := HUJ.out
         rw [List.drop_of_length_le (Nat.le_refl _)] at hup
         have hwas : was = 1 + nl u.data.toList := hup
         clear hup
         have hww : (was : Int) = (m : Int) := by omega
         have hjl' : ¬ (Y.length : Int) < (Y.length : Int) := by omega
         go_wp2_with fail
         go_roundw
         case rel => exact ⟨k + 1, by omega, by go_num, HBW5.out.trans (HBQ.out.mono HBW5.out.size)⟩
         case measure => simp [intOf]; omega
      ·obtain ⟨hY, hln⟩ := HL.out.2 her
       subst hY
       have her' : (er : Int) ≠ 0 := by omega
       have g1 : ¬ (ln : Int) < 0 := by omega
       have g2 : ¬ (m : Int) < (ln : Int) := by omega
       go_wp2_with fail
       go_roundw
       case rel => exact ⟨k + 1, by omega, by go_num, HBW5.out⟩
       case measure => simp [intOf]; omega
   ·obtain rfl : k = 2 := by omega
    go_wp2_with fail
    refine (known_any wr (hS.below HBr.out hS.lt)).mono ?_
    rintro e w9 ⟨rfl, hb9⟩
    have HB9 := Lib.hid (HBr.out.trans (hb9.mono HBr.out.size))
    clear hb9
    go_wp2_with fail
    go_ret
    exact ⟨rfl, HB9.out⟩
end Go.Proofs.YtchibamdkaejdaaDoor
