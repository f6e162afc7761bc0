/-
  The walk of the specification's skip. Condition: the place is in the text. The walk of the specification's Reserved. No condition. The walk of the specification's one, at a name. Conditions: the place is in the text; a letter stands there. The walk of the specification's one, at a number. Conditions: the place is in the text; a digit stands there. The walk of the specification's sign. Condition: the place is in the text. The walk of the specification's one, at a sign. Conditions: the place is in the text; no letter and no digit stands there. The walk of the specification's one. Condition: the place is in the text. The walk of the specification's Scan: the tokens of a text, or the line of the first error. Condition: the text's size is an int. The walk of the statements' scans: the program's tokens are the specification's. Conditions: the package's variable holds the signs; the text's size is an int.
-/
import Derived.Test.YtchibamdkaejdaaDoorZA
import Derived.Test.YtchibamdkaejdaaDoorZLx
import Derived.IntWalk
import Derived.Laws.Rows
import Derived.Test.YtchibamdkaejdaaDoorZCx
import Derived.Lib.SlBytesConst
namespace Go.Proofs.YtchibamdkaejdaaDoor
open Go.RowKit

theorem beq_false {a b : Int} (h : a ≠ b) : (a == b) = false := by rw [beq_eq_false_iff_ne]; exact h
theorem gap_true_begin {c d : UInt8} (l : List UInt8) (h : c.toNat = 47) (h' : d.toNat = 47) : gap false (c :: d :: l) = gap true (c :: d :: l) := by
 rw [gap_begin l h h', gap_in (d :: l) (by omega)]
set_option linter.unusedSimpArgs false in
set_option maxHeartbeats 1600000 in
set_option maxRecDepth 100000 in
theorem skip_any (s : ByteArray) (p L N F : Nat) (w : World) (hp : p ≤ s.size) (hs : s.size ≤ 5000) (hL : L ≤ 1000000) (hg : Hid (gap false (s.data.toList.drop p) = (N, F))) :
  Calls Tryd.prog 21 #[.string s, .int .i64 p, .int .i64 L] w fun e w' => e = .returned (.tuple #[.int .i64 (p + N : Nat), .int .i64 (L + F : Nat)]) ∧ w = w' := by
 go_enter Tryd.func21, Tryd.ntmps21
 go_wp2_with fail
 go_loop [1, 2] (fun av lv => ∃ q l : Nat, av = .int .i64 q ∧ lv = .int .i64 l ∧ q ≤ s.size ∧ l ≤ L + q ∧ q + (gap false (s.data.toList.drop q)).1 = p + N ∧ l + (gap false (s.data.toList.drop q)).2 = L + F) (fun av _ => s.size - (intOf av).toNat)
 case atStart => exact ⟨p, L, rfl, rfl, hp, by omega, by rw [hg.out], by rw [hg.out]⟩
 case round =>
  obtain ⟨q, l, rfl, rfl, hq, hl, hN, hF⟩ := hrel
  by_cases hlt : q < s.size
  ·have hd := drop_cons s q hlt
   obtain ⟨c, hc⟩ : ∃ c, (s[q]'hlt) = c := ⟨_, rfl⟩
   rw [hd, hc] at hN hF
   have hcl := c.toNat_lt
   by_cases h10 : c.toNat = 10
   ·rw [gap_feed false _ h10] at hN hF
    have HN := Lib.hid hN
    have HF := Lib.hid hF
    clear hN hF hd
    go_wp2_with fail
    go_round
    case rel => exact ⟨q + 1, l + 1, by go_num, by go_num, by omega, by omega, by have := HN.out; dsimp only at this; omega, by have := HF.out; dsimp only at this; omega⟩
    case measure => simp [intOf]; omega
   ·by_cases hbl : c.toNat = 32 ∨ c.toNat = 9 ∨ c.toNat = 13
    ·rw [gap_blank false _ hbl] at hN hF
     have HN := Lib.hid hN
     have HF := Lib.hid hF
     clear hN hF hd
     rcases hbl with hx | hx | hx
     ·skip
      go_wp2_with fail
      all_goals
       go_round
       case rel => exact ⟨q + 1, l, by go_num, rfl, by omega, by omega, by have := HN.out; dsimp only at this; omega, HF.out⟩
       case measure => simp [intOf]; omega
     ·skip
      go_wp2_with fail
      all_goals
       go_round
       case rel => exact ⟨q + 1, l, by go_num, rfl, by omega, by omega, by have := HN.out; dsimp only at this; omega, HF.out⟩
       case measure => simp [intOf]; omega
     ·skip
      go_wp2_with fail
      all_goals
       go_round
       case rel => exact ⟨q + 1, l, by go_num, rfl, by omega, by omega, by have := HN.out; dsimp only at this; omega, HF.out⟩
       case measure => simp [intOf]; omega
    ·have g32 : c.toNat ≠ 32 := by omega
     have g9 : c.toNat ≠ 9 := by omega
     have g13 : c.toNat ≠ 13 := by omega
     by_cases h47 : c.toNat = 47
     ·skip
      by_cases hnext : q + 1 < s.size
      ·have hd2 := drop_cons s (q + 1) hnext
       obtain ⟨c2, hc2⟩ : ∃ c2, (s[q + 1]'hnext) = c2 := ⟨_, rfl⟩
       rw [hc2] at hd2
       have hqi : (q : Int) + 1 < (s.size : Int) := by omega
       by_cases h472 : c2.toNat = 47
       ·have hb2 : ((c2.toNat : Int) == 47) = true := by rw [beq_iff_eq]; omega
        rw [hd2, gap_true_begin _ h47 h472, ← hd2, ← hc, ← hd] at hN hF
        have HN := Lib.hid hN
        have HF := Lib.hid hF
        have HC := Lib.hid hc
        clear hN hF hd hd2
        go_wp2_with fail
        go_loop [1] (fun av => ∃ q2 : Nat, av = .int .i64 q2 ∧ q ≤ q2 ∧ q2 ≤ s.size ∧ q2 + (gap true (s.data.toList.drop q2)).1 = p + N ∧ l + (gap true (s.data.toList.drop q2)).2 = L + F) (fun av => s.size - (intOf av).toNat)
        case atStart => exact ⟨q, rfl, Nat.le_refl _, hq, HN.out, HF.out⟩
        case round =>
         obtain ⟨q2, rfl, hq1, hq2, hN2, hF2⟩ := hrel
         by_cases hlt2 : q2 < s.size
         ·have hd3 := drop_cons s q2 hlt2
          obtain ⟨c3, hc3⟩ : ∃ c3, (s[q2]'hlt2) = c3 := ⟨_, rfl⟩
          rw [hc3] at hd3
          rw [hd3] at hN2 hF2
          by_cases hx : c3.toNat = 10
          ·have hb3 : ((c3.toNat : Int) == 10) = true := by rw [beq_iff_eq]; omega
           rw [gap_feed true _ hx, ← gap_feed false _ hx, ← hd3] at hN2 hF2
           have HN2 := Lib.hid hN2
           have HF2 := Lib.hid hF2
           have hne : q < q2 := by
            rcases Nat.lt_or_ge q q2 with h | h
            ·exact h
            ·obtain rfl : q2 = q := by omega
             rw [hc3] at hc
             rw [hc] at hx
             omega
           clear hN2 hF2 hd3
           go_wp2_with fail
           go_round
           case rel => exact ⟨q2, l, rfl, rfl, hq2, by omega, HN2.out, HF2.out⟩
           case measure => simp [intOf]; omega
          ·have hb3 : ((c3.toNat : Int) == 10) = false := beq_false (by omega)
           rw [gap_in _ hx] at hN2 hF2
           have HN2 := Lib.hid hN2
           have HF2 := Lib.hid hF2
           clear hN2 hF2 hd3
           go_wp2_with fail
           go_round
           case rel => exact ⟨q2 + 1, by go_num, by omega, by omega, by have := HN2.out; dsimp only at this; omega, HF2.out⟩
           case measure => simp [intOf]; omega
         ·obtain rfl : q2 = s.size := by omega
          rw [drop_end s s.size (by omega)] at hN2 hF2
          rw [gap_nil, ← gap_nil false, ← drop_end s s.size (by omega)] at hN2 hF2
          have HN2 := Lib.hid hN2
          have HF2 := Lib.hid hF2
          clear hN2 hF2
          go_wp2_with fail
          go_round
          case rel => exact ⟨s.size, l, rfl, rfl, Nat.le_refl _, by omega, HN2.out, HF2.out⟩
          case measure => simp [intOf]; omega
       ·have hb2 : ((c2.toNat : Int) == 47) = false := beq_false (by omega)
        rw [gap_stop _ h10 (by omega) (by omega) (by omega) (fun _ d hdd => by rw [hd2] at hdd; simp at hdd; rw [← hdd]; exact h472)] at hN hF
        have hN' : q = p + N := hN
        have hF' : l = L + F := hF
        have HQ := Lib.hid hN'
        have HLF := Lib.hid hF'
        clear hN hF hd hd2 hN' hF'
        go_wp2_with fail
        go_ret2
        have x1 := HQ.out
        have x2 := HLF.out
        exact ⟨by rw [show (p : Int) + (N : Int) = (q : Int) by omega, show (L : Int) + (F : Int) = (l : Int) by omega]; rfl, rfl⟩
      ·have hqi : ¬ ((q : Int) + 1 < (s.size : Int)) := by omega
       rw [gap_stop _ h10 (by omega) (by omega) (by omega) (fun _ d hdd => by rw [drop_end s (q + 1) hnext] at hdd; simp at hdd)] at hN hF
       have hN' : q = p + N := hN
       have hF' : l = L + F := hF
       have HQ := Lib.hid hN'
       have HLF := Lib.hid hF'
       clear hN hF hd hN' hF'
       go_wp2_with fail
       go_ret2
       have x1 := HQ.out
       have x2 := HLF.out
       exact ⟨by rw [show (p : Int) + (N : Int) = (q : Int) by omega, show (L : Int) + (F : Int) = (l : Int) by omega]; rfl, rfl⟩
     ·have k10 : ((c.toNat : Int) == 10) = false := beq_false (by omega)
      have k32 : ((c.toNat : Int) == 32) = false := beq_false (by omega)
      have k9 : ((c.toNat : Int) == 9) = false := beq_false (by omega)
      have k13 : ((c.toNat : Int) == 13) = false := beq_false (by omega)
      have k47 : ((c.toNat : Int) == 47) = false := beq_false (by omega)
      have n10 : ((c.toNat : Int) != 10) = true := by rw [bne, k10]; rfl
      have n32 : ((c.toNat : Int) != 32) = true := by rw [bne, k32]; rfl
      have n9 : ((c.toNat : Int) != 9) = true := by rw [bne, k9]; rfl
      have n13 : ((c.toNat : Int) != 13) = true := by rw [bne, k13]; rfl
      rw [gap_stop _ h10 (by omega) (by omega) (by omega) (fun h => absurd h h47)] at hN hF
      have hN' : q = p + N := hN
      have hF' : l = L + F := hF
      have HQ := Lib.hid hN'
      have HLF := Lib.hid hF'
      clear hN hF hd hN' hF'
      go_wp2_with fail
      go_ret2
      have x1 := HQ.out
      have x2 := HLF.out
      exact ⟨by rw [show (p : Int) + (N : Int) = (q : Int) by omega, show (L : Int) + (F : Int) = (l : Int) by omega]; rfl, rfl⟩
  ·obtain rfl : q = s.size := by omega
   rw [drop_end s s.size (by omega), gap_nil] at hN hF
   have hN' : s.size = p + N := hN
   have hF' : l = L + F := hF
   clear hN hF
   go_wp2_with fail
   go_ret2
   exact ⟨rfl, rfl⟩
end Go.Proofs.YtchibamdkaejdaaDoor
namespace Go.Proofs.YtchibamdkaejdaaDoor
open Go.RowKit

/-- The k-th reserved word. -/
def wordB (k : Nat) : ByteArray := ⟨(words.getD k []).toArray⟩
theorem wordB_row (w : World) (k : Nat) (hk : k < 12) : (w.alloc (.cells #[.string ⟨#[114, 101, 99, 111, 114, 100]⟩, .string ⟨#[102, 117, 110, 99]⟩, .string ⟨#[118, 97, 114]⟩, .string ⟨#[105, 110, 116]⟩, .string ⟨#[105, 102]⟩, .string ⟨#[101, 108, 115, 101]⟩, .string ⟨#[119, 104, 105, 108, 101]⟩, .string ⟨#[114, 101, 116, 117, 114, 110]⟩, .string ⟨#[116, 104, 114, 111, 119]⟩, .string ⟨#[116, 114, 121]⟩, .string ⟨#[99, 97, 116, 99, 104]⟩, .string ⟨#[112, 114, 105, 110, 116]⟩] 9)).cell? ⟨w.heap.size, k, none⟩ = some (.string (wordB k)) := by
 rw [World.cell?_alloc_at _ _ _ _ rfl]
 have h : k = 0 ∨ k = 1 ∨ k = 2 ∨ k = 3 ∨ k = 4 ∨ k = 5 ∨ k = 6 ∨ k = 7 ∨ k = 8 ∨ k = 9 ∨ k = 10 ∨ k = 11 := by omega
 rcases h with rfl | rfl | rfl | rfl | rfl | rfl | rfl | rfl | rfl | rfl | rfl | rfl <;> rfl
set_option maxHeartbeats 800000 in
set_option maxRecDepth 100000 in
theorem resv_any (s : ByteArray) (w : World) (r : Bool) (hr : Hid (decide (s.data.toList ∈ words) = r)) :
  Calls Tryd.prog 35 #[.string s] w fun e w' => e = .returned (.bool r) ∧ Below w.heap.size w w' := by
 obtain ⟨V, hV⟩ : ∃ V, Hid (w.alloc (.cells #[.string ⟨#[114, 101, 99, 111, 114, 100]⟩, .string ⟨#[102, 117, 110, 99]⟩, .string ⟨#[118, 97, 114]⟩, .string ⟨#[105, 110, 116]⟩, .string ⟨#[105, 102]⟩, .string ⟨#[101, 108, 115, 101]⟩, .string ⟨#[119, 104, 105, 108, 101]⟩, .string ⟨#[114, 101, 116, 117, 114, 110]⟩, .string ⟨#[116, 104, 114, 111, 119]⟩, .string ⟨#[116, 114, 121]⟩, .string ⟨#[99, 97, 116, 99, 104]⟩, .string ⟨#[112, 114, 105, 110, 116]⟩] 9) = V) := ⟨_, Lib.hid rfl⟩
 have hrow := wordB_row w
 have hb : Below w.heap.size w V := by rw [← hV.out]; exact (Below.refl _ _).alloc (Nat.le_refl _) _
 rw [hV.out] at hrow
 have HROW := Lib.hid hrow
 have HB := Lib.hid hb
 clear hrow hb
 go_enter Tryd.func35, Tryd.ntmps35
 go_wp2_with fail
 rw [hV.out]
 go_loop [7] (fun i => ∃ k : Nat, i = .int .i64 k ∧ k ≤ 12 ∧ ∀ j, j < k → words.getD j [] ≠ s.data.toList) (fun i => 12 - (intOf i).toNat)
 case atStart => exact ⟨0, rfl, by omega, fun j hj => absurd hj (by omega)⟩
 case round =>
  obtain ⟨k, rfl, hk, hno⟩ := hrel
  by_cases hlt : k < 12
  ·have gk := HROW.out k hlt
   obtain ⟨u, hu⟩ : ∃ u, wordB k = u := ⟨_, rfl⟩
   rw [hu] at gk
   have HNO := Lib.hid hno
   clear hno
   by_cases he : u = s
   ·have hq : (u.toList == s.toList) = true := by rw [he, beq_iff_eq]
    have HE := Lib.hid he
    have HU := Lib.hid hu
    clear he hu
    go_wp2_with fail
    go_ret
    exact ⟨ret_bool (by
     rw [← hr.out, eq_comm, decide_eq_true_eq, ← HE.out, ← HU.out]
     show words.getD k [] ∈ words
     rw [List.getD_eq_getElem?_getD, List.getElem?_eq_getElem (by exact hlt)]
     exact List.getElem_mem _), HB.out⟩
   ·have hq : (u.toList == s.toList) = false := by
     rw [beq_eq_false_iff_ne]
     intro e
     rw [Lib.toList_data, Lib.toList_data] at e
     exact he (by rw [ByteArray.ext_iff]; exact Array.ext' e)
    have HU := Lib.hid (show words.getD k [] ≠ s.data.toList from fun e => he (by
     rw [← hu]
     unfold wordB
     rw [ByteArray.ext_iff]
     show (words.getD k []).toArray = s.data
     rw [e]))
    clear he hu
    go_wp2_with fail
    go_round
    case rel => exact ⟨k + 1, by go_num, by omega, fun j hj => by
     rcases Nat.lt_or_ge j k with h | h
     ·exact HNO.out j h
     ·obtain rfl : j = k := by omega
      exact HU.out⟩
    case measure => simp [intOf]; omega
  ·obtain rfl : k = 12 := by omega
   have HNO := Lib.hid hno
   clear hno
   go_wp2_with fail
   go_ret
   exact ⟨ret_bool (by
    rw [← hr.out, eq_comm, decide_eq_false_iff_not]
    intro hm
    obtain ⟨j, hj, e⟩ := List.mem_iff_getElem.1 hm
    exact HNO.out j hj (by rw [List.getD_eq_getElem?_getD, List.getElem?_eq_getElem hj]; exact e)), HB.out⟩
end Go.Proofs.YtchibamdkaejdaaDoor
namespace Go.Proofs.YtchibamdkaejdaaDoor
open Go.RowKit

theorem below_setB {n N : Nat} {w V U : World} {cs : Array Value} {e : TypeId} (h : Below n w V) (hs : SetB N cs e V U) (hN : n ≤ N) : Below n w U :=
  ⟨hs.os.trans h.os, hs.tape.trans h.tape, hs.output.trans h.output, by rw [hs.size]; exact h.size, fun b hb => (hs.block b (by omega)).trans (h.block b hb)⟩
/-- A token's cells are written one after another. -/
theorem token_put {V : World} {N : Nat} {old : Array Value} (v0 v1 v2 v3 : Value) (ho : old.size = 4) (h : V.heap[N]? = some (.cells old 36 (0, 0))) :
    SetB N #[v0, v1, v2, v3] 36 V ((((V.setCell ⟨N, 0, none⟩ v0).setCell ⟨N, 1, none⟩ v1).setCell ⟨N, 2, none⟩ v2).setCell ⟨N, 3, none⟩ v3) :=
  setB_cells (vs := [v0, v1, v2, v3]) h (by rw [ho]; rfl)
theorem token_cells {U : World} {N : Nat} {v0 v1 v2 v3 : Value} (h : U.heap[N]? = some (.cells #[v0, v1, v2, v3] 36 (0, 0))) :
    (U.cell? ⟨N, 0, none⟩ = some v0 ∧ U.cell? ⟨N, 1, none⟩ = some v1 ∧ U.cell? ⟨N, 2, none⟩ = some v2 ∧ U.cell? ⟨N, 3, none⟩ = some v3) ∧ U.frozen? ⟨N, 0, none⟩ = false ∧ U.frozen? ⟨N, 1, none⟩ = false ∧ U.frozen? ⟨N, 2, none⟩ = false ∧ U.frozen? ⟨N, 3, none⟩ = false :=
  ⟨⟨by rw [cell_of_row U N 0 _ _ _ h]; rfl, by rw [cell_of_row U N 1 _ _ _ h]; rfl, by rw [cell_of_row U N 2 _ _ _ h]; rfl, by rw [cell_of_row U N 3 _ _ _ h]; rfl⟩, by rw [World.frozen?]; simp only [h]; rfl, by rw [World.frozen?]; simp only [h]; rfl, by rw [World.frozen?]; simp only [h]; rfl, by rw [World.frozen?]; simp only [h]; rfl⟩
set_option linter.unusedSimpArgs false in
set_option maxHeartbeats 1600000 in
set_option maxRecDepth 100000 in
theorem one_name (s : ByteArray) (p L : Nat) (w : World) (hp : p < s.size) (hs : s.size ≤ 5000) (sp : Nat) (hsp : Hid (span isLD (s.data.toList.drop p) = sp)) (hlet : isL (s[p]'hp).toNat = true)
    (rb : Bool) (hrb : Hid (decide ((s.extract p (p + sp)).data.toList ∈ words) = rb)) (K : Int) (hK : Hid ((if rb = true then (3 : Int) else 1) = K)) :
    Calls Tryd.prog 22 #[.string s, .int .i64 p, .int .i64 L] w fun e w' => Below w.heap.size w w' ∧
      ((12 < sp ∧ e = .returned (.tuple #[.agg #[.int .i64 0, .int .i64 0, .string ⟨#[]⟩, .int .i64 0], .int .i64 0, .int .i64 5])) ∨
       (sp ≤ 12 ∧ e = .returned (.tuple #[.agg #[.int .i64 K, .int .i64 L, .string (s.extract p (p + sp)), .int .i64 0], .int .i64 (p + sp : Nat), .int .i64 0]))) := by
  obtain ⟨V, hV⟩ : ∃ V, Hid (w.alloc (.cells #[.int .i64 0, .int .i64 0, .string ⟨#[]⟩, .int .i64 0] 36) = V) := ⟨_, Lib.hid rfl⟩
  have hb : Below w.heap.size w V := by rw [← hV.out]; exact (Below.refl _ _).alloc (Nat.le_refl _) _
  have hblk : V.heap[w.heap.size]? = some (.cells #[.int .i64 0, .int .i64 0, .string ⟨#[]⟩, .int .i64 0] 36 (0, 0)) := by rw [← hV.out]; exact Array.getElem?_push_size
  have HB := Lib.hid hb
  have HBLK := Lib.hid hblk
  obtain ⟨c, hc⟩ : ∃ c, (s[p]'hp) = c := ⟨_, rfl⟩
  rw [hc] at hlet
  have hcl := c.toNat_lt
  have HLET := Lib.hid hlet
  clear hb hblk hlet
  go_enter Tryd.func22, Tryd.ntmps22
  go_wp2_with (go_at_call 33; refine (letter_any c.toNat (by omega) _ true HLET).mono ?_; rintro e w1 ⟨rfl, rfl⟩)
  rw [hV.out]
  go_loop [1] (fun av => ∃ q : Nat, av = .int .i64 q ∧ p ≤ q ∧ q ≤ s.size ∧ q + span isLD (s.data.toList.drop q) = p + sp) (fun av => s.size - (intOf av).toNat)
  case atStart => exact ⟨p, rfl, Nat.le_refl _, by omega, by rw [hsp.out]⟩
  case round =>
    obtain ⟨q, rfl, hq1, hq2, hq3⟩ := hrel
    by_cases hlt : q < s.size
    · have hd := drop_cons s q hlt
      obtain ⟨c2, hc2⟩ : ∃ c2, (s[q]'hlt) = c2 := ⟨_, rfl⟩
      rw [hd, hc2] at hq3
      have hcl2 := c2.toNat_lt
      cases hl : isL c2.toNat with
      | true =>
        have hld : isLD c2.toNat = true := by unfold isLD; rw [hl]; rfl
        rw [span_in _ hld] at hq3
        have HL2 := Lib.hid hl
        clear hl hld hd
        go_wp2_with (first | (go_at_call 33; refine (letter_any c2.toNat (by omega) _ true HL2).mono ?_; rintro e w1 ⟨rfl, rfl⟩))
        go_round
        case rel => exact ⟨q + 1, by go_num, by omega, by omega, by omega⟩
        case measure => simp [intOf]; omega
      | false =>
        cases hdg : isD c2.toNat with
        | true =>
          have hld : isLD c2.toNat = true := by unfold isLD; rw [hl, hdg]; rfl
          rw [span_in _ hld] at hq3
          have HL2 := Lib.hid hl
          have HD2 := Lib.hid hdg
          clear hl hdg hld hd
          go_wp2_with (first | (go_at_call 33; refine (letter_any c2.toNat (by omega) _ false HL2).mono ?_; rintro e w1 ⟨rfl, rfl⟩) | (go_at_call 34; refine (digit_any c2.toNat (by omega) _ true HD2).mono ?_; rintro e w1 ⟨rfl, rfl⟩))
          go_round
          case rel => exact ⟨q + 1, by go_num, by omega, by omega, by omega⟩
          case measure => simp [intOf]; omega
        | false =>
          have hld : isLD c2.toNat = false := by unfold isLD; rw [hl, hdg]; rfl
          rw [span_out _ hld] at hq3
          have HL2 := Lib.hid hl
          have HD2 := Lib.hid hdg
          clear hl hdg hld hd
          have HQ : Hid (q = p + sp) := Lib.hid (by omega)
          have hqp : (q : Int) - (p : Int) = (sp : Int) := by omega
          obtain ⟨⟨k0, k1, k2, k3⟩, f0, f1, f2, f3⟩ := token_cells HBLK.out
          clear hq3
          by_cases h12 : 12 < sp
          · have hs12 : (12 : Int) < (sp : Int) := by omega
            have hset := token_put (.int .i64 0) (.int .i64 0) (.string ⟨#[]⟩) (.int .i64 0) rfl HBLK.out
            obtain ⟨U, hU⟩ : ∃ U, Hid ((((V.setCell ⟨w.heap.size, 0, none⟩ (.int .i64 0)).setCell ⟨w.heap.size, 1, none⟩ (.int .i64 0)).setCell ⟨w.heap.size, 2, none⟩ (.string ⟨#[]⟩)).setCell ⟨w.heap.size, 3, none⟩ (.int .i64 0) = U) := ⟨_, Lib.hid rfl⟩
            rw [hU.out] at hset
            have HSET := Lib.hid hset
            clear hset
            go_wp2_with (first | (go_at_call 33; refine (letter_any c2.toNat (by omega) _ false HL2).mono ?_; rintro e w1 ⟨rfl, rfl⟩) | (go_at_call 34; refine (digit_any c2.toNat (by omega) _ false HD2).mono ?_; rintro e w1 ⟨rfl, rfl⟩))
            rw [hU.out]
            clear k0 k1 k2 k3 f0 f1 f2 f3
            (try simp only [Exit.inBlock, Exit.then])
            obtain ⟨⟨u0, u1, u2, u3⟩, _⟩ := token_cells HSET.out.at_
            refine bodyPost_ret (by simp [results, Tryd.results22, go_sem, u0, u1, u2, u3]; try rfl) rfl ?_
            first
              | exact ⟨below_setB HB.out HSET.out (Nat.le_refl _), .inl ⟨h12, rfl⟩⟩
              | exact ⟨below_setB HB.out HSET.out (Nat.le_refl _), .inl rfl⟩
              | exact ⟨below_setB HB.out HSET.out (Nat.le_refl _), rfl⟩
          · have hs12 : (sp : Int) ≤ 12 := by omega
            have hp0 : (0 : Int) ≤ (p : Int) := by omega
            have hpq : (p : Int) ≤ (q : Int) := by omega
            have hqs : (q : Int) ≤ (s.size : Int) := by omega
            clear k0 k1 k2 k3 f0 f1 f2 f3
            go_wp2_with (first | (go_at_call 33; refine (letter_any c2.toNat (by omega) _ false HL2).mono ?_; rintro e w1 ⟨rfl, rfl⟩) | (go_at_call 34; refine (digit_any c2.toNat (by omega) _ false HD2).mono ?_; rintro e w1 ⟨rfl, rfl⟩))
            have hrb2 : Hid (decide ((s.extract p q).data.toList ∈ words) = rb) := by rw [HQ.out]; exact hrb
            refine (resv_any (s.extract p q) V rb hrb2).mono ?_
            rintro e w2 ⟨rfl, hb2⟩
            have hblk2 := (hb2.block w.heap.size (Array.getElem?_eq_some_iff.1 HBLK.out).1).trans HBLK.out
            obtain ⟨⟨k0, k1, k2, k3⟩, f0, f1, f2, f3⟩ := token_cells hblk2
            have HBL2 := Lib.hid hblk2
            have HB2 := Lib.hid (HB.out.trans (hb2.mono HB.out.size))
            clear hb2 hblk2
            cases rb with
            | true =>
              obtain rfl : (3 : Int) = K := hK.out
              have hset := token_put (.int .i64 3) (.int .i64 L) (.string (s.extract p q)) (.int .i64 0) rfl HBL2.out
              obtain ⟨U, hU⟩ : ∃ U, Hid ((((w2.setCell ⟨w.heap.size, 0, none⟩ (.int .i64 3)).setCell ⟨w.heap.size, 1, none⟩ (.int .i64 L)).setCell ⟨w.heap.size, 2, none⟩ (.string (s.extract p q))).setCell ⟨w.heap.size, 3, none⟩ (.int .i64 0) = U) := ⟨_, Lib.hid rfl⟩
              rw [hU.out] at hset
              have HSET := Lib.hid hset
              clear hset
              go_wp2_with fail
              rw [hU.out]
              clear k0 k1 k2 k3 f0 f1 f2 f3
              (try simp only [Exit.inBlock, Exit.then])
              obtain ⟨⟨u0, u1, u2, u3⟩, _⟩ := token_cells HSET.out.at_
              refine bodyPost_ret (by simp [results, Tryd.results22, go_sem, u0, u1, u2, u3]; try rfl) rfl ?_
              exact ⟨below_setB HB2.out HSET.out (Nat.le_refl _), .inr ⟨by omega, by have x := HQ.out; subst x; rfl⟩⟩
            | false =>
              obtain rfl : (1 : Int) = K := hK.out
              have hset := token_put (.int .i64 1) (.int .i64 L) (.string (s.extract p q)) (.int .i64 0) rfl HBL2.out
              obtain ⟨U, hU⟩ : ∃ U, Hid ((((w2.setCell ⟨w.heap.size, 0, none⟩ (.int .i64 1)).setCell ⟨w.heap.size, 1, none⟩ (.int .i64 L)).setCell ⟨w.heap.size, 2, none⟩ (.string (s.extract p q))).setCell ⟨w.heap.size, 3, none⟩ (.int .i64 0) = U) := ⟨_, Lib.hid rfl⟩
              rw [hU.out] at hset
              have HSET := Lib.hid hset
              clear hset
              go_wp2_with fail
              rw [hU.out]
              clear k0 k1 k2 k3 f0 f1 f2 f3
              (try simp only [Exit.inBlock, Exit.then])
              obtain ⟨⟨u0, u1, u2, u3⟩, _⟩ := token_cells HSET.out.at_
              refine bodyPost_ret (by simp [results, Tryd.results22, go_sem, u0, u1, u2, u3]; try rfl) rfl ?_
              exact ⟨below_setB HB2.out HSET.out (Nat.le_refl _), .inr ⟨by omega, by have x := HQ.out; subst x; rfl⟩⟩
    · have hqe : q = s.size := by omega
      rw [drop_end s q hlt] at hq3
      have hq3 : q = p + sp := hq3
      clear hqe
      have HQ : Hid (q = p + sp) := Lib.hid (by omega)
      have hqp : (q : Int) - (p : Int) = (sp : Int) := by omega
      obtain ⟨⟨k0, k1, k2, k3⟩, f0, f1, f2, f3⟩ := token_cells HBLK.out
      clear hq3
      by_cases h12 : 12 < sp
      · have hs12 : (12 : Int) < (sp : Int) := by omega
        have hset := token_put (.int .i64 0) (.int .i64 0) (.string ⟨#[]⟩) (.int .i64 0) rfl HBLK.out
        obtain ⟨U, hU⟩ : ∃ U, Hid ((((V.setCell ⟨w.heap.size, 0, none⟩ (.int .i64 0)).setCell ⟨w.heap.size, 1, none⟩ (.int .i64 0)).setCell ⟨w.heap.size, 2, none⟩ (.string ⟨#[]⟩)).setCell ⟨w.heap.size, 3, none⟩ (.int .i64 0) = U) := ⟨_, Lib.hid rfl⟩
        rw [hU.out] at hset
        have HSET := Lib.hid hset
        clear hset
        go_wp2_with fail
        rw [hU.out]
        clear k0 k1 k2 k3 f0 f1 f2 f3
        (try simp only [Exit.inBlock, Exit.then])
        obtain ⟨⟨u0, u1, u2, u3⟩, _⟩ := token_cells HSET.out.at_
        refine bodyPost_ret (by simp [results, Tryd.results22, go_sem, u0, u1, u2, u3]; try rfl) rfl ?_
        first
          | exact ⟨below_setB HB.out HSET.out (Nat.le_refl _), .inl ⟨h12, rfl⟩⟩
          | exact ⟨below_setB HB.out HSET.out (Nat.le_refl _), .inl rfl⟩
          | exact ⟨below_setB HB.out HSET.out (Nat.le_refl _), rfl⟩
      · have hs12 : (sp : Int) ≤ 12 := by omega
        have hp0 : (0 : Int) ≤ (p : Int) := by omega
        have hpq : (p : Int) ≤ (q : Int) := by omega
        have hqs : (q : Int) ≤ (s.size : Int) := by omega
        clear k0 k1 k2 k3 f0 f1 f2 f3
        go_wp2_with fail
        have hrb2 : Hid (decide ((s.extract p q).data.toList ∈ words) = rb) := by rw [HQ.out]; exact hrb
        refine (resv_any (s.extract p q) V rb hrb2).mono ?_
        rintro e w2 ⟨rfl, hb2⟩
        have hblk2 := (hb2.block w.heap.size (Array.getElem?_eq_some_iff.1 HBLK.out).1).trans HBLK.out
        obtain ⟨⟨k0, k1, k2, k3⟩, f0, f1, f2, f3⟩ := token_cells hblk2
        have HBL2 := Lib.hid hblk2
        have HB2 := Lib.hid (HB.out.trans (hb2.mono HB.out.size))
        clear hb2 hblk2
        cases rb with
        | true =>
          obtain rfl : (3 : Int) = K := hK.out
          have hset := token_put (.int .i64 3) (.int .i64 L) (.string (s.extract p q)) (.int .i64 0) rfl HBL2.out
          obtain ⟨U, hU⟩ : ∃ U, Hid ((((w2.setCell ⟨w.heap.size, 0, none⟩ (.int .i64 3)).setCell ⟨w.heap.size, 1, none⟩ (.int .i64 L)).setCell ⟨w.heap.size, 2, none⟩ (.string (s.extract p q))).setCell ⟨w.heap.size, 3, none⟩ (.int .i64 0) = U) := ⟨_, Lib.hid rfl⟩
          rw [hU.out] at hset
          have HSET := Lib.hid hset
          clear hset
          go_wp2_with fail
          rw [hU.out]
          clear k0 k1 k2 k3 f0 f1 f2 f3
          (try simp only [Exit.inBlock, Exit.then])
          obtain ⟨⟨u0, u1, u2, u3⟩, _⟩ := token_cells HSET.out.at_
          refine bodyPost_ret (by simp [results, Tryd.results22, go_sem, u0, u1, u2, u3]; try rfl) rfl ?_
          exact ⟨below_setB HB2.out HSET.out (Nat.le_refl _), .inr ⟨by omega, by have x := HQ.out; subst x; rfl⟩⟩
        | false =>
          obtain rfl : (1 : Int) = K := hK.out
          have hset := token_put (.int .i64 1) (.int .i64 L) (.string (s.extract p q)) (.int .i64 0) rfl HBL2.out
          obtain ⟨U, hU⟩ : ∃ U, Hid ((((w2.setCell ⟨w.heap.size, 0, none⟩ (.int .i64 1)).setCell ⟨w.heap.size, 1, none⟩ (.int .i64 L)).setCell ⟨w.heap.size, 2, none⟩ (.string (s.extract p q))).setCell ⟨w.heap.size, 3, none⟩ (.int .i64 0) = U) := ⟨_, Lib.hid rfl⟩
          rw [hU.out] at hset
          have HSET := Lib.hid hset
          clear hset
          go_wp2_with fail
          rw [hU.out]
          clear k0 k1 k2 k3 f0 f1 f2 f3
          (try simp only [Exit.inBlock, Exit.then])
          obtain ⟨⟨u0, u1, u2, u3⟩, _⟩ := token_cells HSET.out.at_
          refine bodyPost_ret (by simp [results, Tryd.results22, go_sem, u0, u1, u2, u3]; try rfl) rfl ?_
          exact ⟨below_setB HB2.out HSET.out (Nat.le_refl _), .inr ⟨by omega, by have x := HQ.out; subst x; rfl⟩⟩
end Go.Proofs.YtchibamdkaejdaaDoor
namespace Go.Proofs.YtchibamdkaejdaaDoor
open Go.RowKit

theorem digits_at_p (s : ByteArray) (p k : Nat) (hk : k ≤ span isD (s.data.toList.drop p)) : ∀ c ∈ (s.data.toList.drop p).take k, isD c.toNat = true := fun c hc => by
  refine span_all isD (s.data.toList.drop p) c ?_
  rw [← Nat.min_eq_left hk, ← List.take_take] at hc
  exact List.mem_of_mem_take hc
theorem take_next_p (s : ByteArray) (p k : Nat) (c : UInt8) (h : p + k < s.size) (hc : (s[p + k]'h) = c) : (s.data.toList.drop p).take (k + 1) = (s.data.toList.drop p).take k ++ [c] := by
  have h1 : (s.data.toList.drop p)[k]? = some c := by
    rw [List.getElem?_drop, ← hc, List.getElem?_eq_getElem (by simpa using h)]
    rfl
  rw [List.take_add_one, h1]
  rfl
set_option linter.unusedSimpArgs false in
set_option maxHeartbeats 1600000 in
set_option maxRecDepth 100000 in
theorem one_num (s : ByteArray) (p L : Nat) (w : World) (hp : p < s.size) (hs : s.size ≤ 5000) (sp : Nat) (hsp : Hid (span isD (s.data.toList.drop p) = sp)) (hlet : isL (s[p]'hp).toNat = false) (hdig : isD (s[p]'hp).toNat = true) (nv : Nat) (hnv : Hid (numV ((s.data.toList.drop p).take sp) = nv)) :
    Calls Tryd.prog 22 #[.string s, .int .i64 p, .int .i64 L] w fun e w' => Below w.heap.size w w' ∧
      ((18 < sp ∧ e = .returned (.tuple #[.agg #[.int .i64 0, .int .i64 0, .string ⟨#[]⟩, .int .i64 0], .int .i64 0, .int .i64 5])) ∨
       (sp ≤ 18 ∧ (∃ c ∈ ((s.data.toList.drop p).drop sp).head?, isL c.toNat = true) ∧ e = .returned (.tuple #[.agg #[.int .i64 0, .int .i64 0, .string ⟨#[]⟩, .int .i64 0], .int .i64 0, .int .i64 6])) ∨
       (sp ≤ 18 ∧ ¬ (∃ c ∈ ((s.data.toList.drop p).drop sp).head?, isL c.toNat = true) ∧ e = .returned (.tuple #[.agg #[.int .i64 2, .int .i64 L, .string ⟨#[]⟩, .int .i64 nv], .int .i64 (p + sp : Nat), .int .i64 0]))) := by
  obtain ⟨V, hV⟩ : ∃ V, Hid (w.alloc (.cells #[.int .i64 0, .int .i64 0, .string ⟨#[]⟩, .int .i64 0] 36) = V) := ⟨_, Lib.hid rfl⟩
  have hb : Below w.heap.size w V := by rw [← hV.out]; exact (Below.refl _ _).alloc (Nat.le_refl _) _
  have hblk : V.heap[w.heap.size]? = some (.cells #[.int .i64 0, .int .i64 0, .string ⟨#[]⟩, .int .i64 0] 36 (0, 0)) := by rw [← hV.out]; exact Array.getElem?_push_size
  have HB := Lib.hid hb
  have HBLK := Lib.hid hblk
  obtain ⟨c, hc⟩ : ∃ c, (s[p]'hp) = c := ⟨_, rfl⟩
  rw [hc] at hlet hdig
  have hcl := c.toNat_lt
  have HLET := Lib.hid hlet
  have HDIG := Lib.hid hdig
  clear hb hblk hlet hdig
  go_enter Tryd.func22, Tryd.ntmps22
  go_wp2_with (first | (go_at_call 33; refine (letter_any c.toNat (by omega) _ false HLET).mono ?_; rintro e w1 ⟨rfl, rfl⟩) | (go_at_call 34; refine (digit_any c.toNat (by omega) _ true HDIG).mono ?_; rintro e w1 ⟨rfl, rfl⟩))
  rw [hV.out]
  go_loop [1, 11] (fun av nw => ∃ q m : Nat, av = .int .i64 q ∧ nw = .int .i64 m ∧ p ≤ q ∧ q ≤ s.size ∧ q + span isD (s.data.toList.drop q) = p + sp ∧ numV ((s.data.toList.drop p).take (min 18 (q - p))) = m) (fun av _ => s.size - (intOf av).toNat)
  case atStart => exact ⟨p, 0, rfl, rfl, Nat.le_refl _, by omega, by rw [hsp.out], by rw [Nat.sub_self]; rfl⟩
  case round =>
    obtain ⟨q, m, rfl, rfl, hq1, hq2, hq3, hm⟩ := hrel
    have HM := Lib.hid hm
    by_cases hlt : q < s.size
    · have hd := drop_cons s q hlt
      obtain ⟨c2, hc2⟩ : ∃ c2, (s[q]'hlt) = c2 := ⟨_, rfl⟩
      rw [hd, hc2] at hq3
      have hcl2 := c2.toNat_lt
      cases hdg : isD c2.toNat with
      | true =>
        rw [span_in _ hdg] at hq3
        have hr : 48 ≤ c2.toNat ∧ c2.toNat ≤ 57 := by simpa [isD] using hdg
        obtain ⟨hr1, hr2⟩ := hr
        have HD2 := Lib.hid hdg
        by_cases h18 : q - p < 18
        · have hi18 : (q : Int) - (p : Int) < 18 := by omega
          have hmb : m < 100000000000000000 := by
            rw [← hm, Nat.min_eq_right (by omega)]
            have h1 := numV_lt (q - p) ((s.data.toList.drop p).take (q - p)) (by rw [List.length_take, List.length_drop]; simp; omega) (digits_at_p s p (q - p) (by rw [hsp.out]; omega))
            exact Nat.lt_of_lt_of_le h1 (Nat.pow_le_pow_right (n := 10) (by omega) (show q - p ≤ 17 by omega))
          have hnext : numV ((s.data.toList.drop p).take (min 18 (q + 1 - p))) = 10 * m + (c2.toNat - 48) := by
            have hk : q = p + (q - p) := by omega
            rw [Nat.min_eq_right (by omega), show q + 1 - p = (q - p) + 1 by omega, take_next_p s p (q - p) c2 (by omega) (by rw [← hc2]; congr 1; omega), numV_snoc, ← hm, Nat.min_eq_right (by omega)]
          have HNEXT := Lib.hid hnext
          clear hdg hd hm hnext
          go_wp2_with (first | (go_at_call 34; refine (digit_any c2.toNat (by omega) _ true HD2).mono ?_; rintro e w1 ⟨rfl, rfl⟩))
          go_round
          case rel => exact ⟨q + 1, 10 * m + (c2.toNat - 48), by go_num, by go_num, by omega, by omega, by omega, HNEXT.out⟩
          case measure => simp [intOf]; omega
        · have hi18 : ¬ ((q : Int) - (p : Int) < 18) := by omega
          clear hdg hd hm
          go_wp2_with (first | (go_at_call 34; refine (digit_any c2.toNat (by omega) _ true HD2).mono ?_; rintro e w1 ⟨rfl, rfl⟩))
          go_round
          case rel => exact ⟨q + 1, m, by go_num, rfl, by omega, by omega, by omega, by rw [← HM.out, Nat.min_eq_left (by omega), Nat.min_eq_left (by omega)]⟩
          case measure => simp [intOf]; omega
      | false =>
        rw [span_out _ hdg] at hq3
        have HD2 := Lib.hid hdg
        have HQ : Hid (q = p + sp) := Lib.hid (by omega)
        have hqp : (q : Int) - (p : Int) = (sp : Int) := by omega
        obtain ⟨⟨k0, k1, k2, k3⟩, f0, f1, f2, f3⟩ := token_cells HBLK.out
        have HHD : Hid (((s.data.toList.drop p).drop sp).head? = some c2) := Lib.hid (by rw [List.drop_drop, ← HQ.out, hd, hc2]; rfl)
        clear hq3 hm hd hdg
        by_cases h18 : 18 < sp
        · have hs18 : (18 : Int) < (sp : Int) := by omega
          have hset := token_put (.int .i64 0) (.int .i64 0) (.string ⟨#[]⟩) (.int .i64 0) rfl HBLK.out
          obtain ⟨U, hU⟩ : ∃ U, Hid (((((V.setCell ⟨w.heap.size, 0, none⟩ (.int .i64 0)).setCell ⟨w.heap.size, 1, none⟩ (.int .i64 0)).setCell ⟨w.heap.size, 2, none⟩ (.string ⟨#[]⟩)).setCell ⟨w.heap.size, 3, none⟩ (.int .i64 0)) = U) := ⟨_, Lib.hid rfl⟩
          rw [hU.out] at hset
          have HSET := Lib.hid hset
          clear hset
          go_wp2_with (first | (go_at_call 34; refine (digit_any c2.toNat (by omega) _ false HD2).mono ?_; rintro e w1 ⟨rfl, rfl⟩))
          rw [hU.out]
          clear k0 k1 k2 k3 f0 f1 f2 f3
          (try simp only [Exit.inBlock, Exit.then])
          obtain ⟨⟨u0, u1, u2, u3⟩, _⟩ := token_cells HSET.out.at_
          refine bodyPost_ret (by simp [results, Tryd.results22, go_sem, u0, u1, u2, u3]; try rfl) rfl ?_
          first
            | exact ⟨below_setB HB.out HSET.out (Nat.le_refl _), .inl ⟨h18, rfl⟩⟩
            | exact ⟨below_setB HB.out HSET.out (Nat.le_refl _), .inl rfl⟩
            | exact ⟨below_setB HB.out HSET.out (Nat.le_refl _), rfl⟩
        · have hs18 : (sp : Int) ≤ 18 := by omega
          have HNV : Hid (m = nv) := Lib.hid (by rw [← HM.out, ← hnv.out, HQ.out, Nat.add_sub_cancel_left, Nat.min_eq_right (by omega)])
          cases hl2 : isL c2.toNat with
          | true =>
            have HL2 := Lib.hid hl2
            clear hl2
            have hset := token_put (.int .i64 0) (.int .i64 0) (.string ⟨#[]⟩) (.int .i64 0) rfl HBLK.out
            obtain ⟨U, hU⟩ : ∃ U, Hid (((((V.setCell ⟨w.heap.size, 0, none⟩ (.int .i64 0)).setCell ⟨w.heap.size, 1, none⟩ (.int .i64 0)).setCell ⟨w.heap.size, 2, none⟩ (.string ⟨#[]⟩)).setCell ⟨w.heap.size, 3, none⟩ (.int .i64 0)) = U) := ⟨_, Lib.hid rfl⟩
            rw [hU.out] at hset
            have HSET := Lib.hid hset
            clear hset
            go_wp2_with (first | (go_at_call 34; refine (digit_any c2.toNat (by omega) _ false HD2).mono ?_; rintro e w1 ⟨rfl, rfl⟩) | (go_at_call 33; refine (letter_any c2.toNat (by omega) _ true HL2).mono ?_; rintro e w1 ⟨rfl, rfl⟩))
            rw [hU.out]
            clear k0 k1 k2 k3 f0 f1 f2 f3
            (try simp only [Exit.inBlock, Exit.then])
            obtain ⟨⟨u0, u1, u2, u3⟩, _⟩ := token_cells HSET.out.at_
            refine bodyPost_ret (by simp [results, Tryd.results22, go_sem, u0, u1, u2, u3]; try rfl) rfl ?_
            exact ⟨below_setB HB.out HSET.out (Nat.le_refl _), .inr (.inl ⟨by omega, ⟨c2, HHD.out, HL2.out⟩, rfl⟩)⟩
          | false =>
            have HL2 := Lib.hid hl2
            clear hl2
            have hset := token_put (.int .i64 2) (.int .i64 L) (.string ⟨#[]⟩) (.int .i64 m) rfl HBLK.out
            obtain ⟨U, hU⟩ : ∃ U, Hid (((((V.setCell ⟨w.heap.size, 0, none⟩ (.int .i64 2)).setCell ⟨w.heap.size, 1, none⟩ (.int .i64 L)).setCell ⟨w.heap.size, 2, none⟩ (.string ⟨#[]⟩)).setCell ⟨w.heap.size, 3, none⟩ (.int .i64 m)) = U) := ⟨_, Lib.hid rfl⟩
            rw [hU.out] at hset
            have HSET := Lib.hid hset
            clear hset
            go_wp2_with (first | (go_at_call 34; refine (digit_any c2.toNat (by omega) _ false HD2).mono ?_; rintro e w1 ⟨rfl, rfl⟩) | (go_at_call 33; refine (letter_any c2.toNat (by omega) _ false HL2).mono ?_; rintro e w1 ⟨rfl, rfl⟩))
            rw [hU.out]
            clear k0 k1 k2 k3 f0 f1 f2 f3
            (try simp only [Exit.inBlock, Exit.then])
            obtain ⟨⟨u0, u1, u2, u3⟩, _⟩ := token_cells HSET.out.at_
            refine bodyPost_ret (by simp [results, Tryd.results22, go_sem, u0, u1, u2, u3]; try rfl) rfl ?_
            exact ⟨below_setB HB.out HSET.out (Nat.le_refl _), .inr (.inr ⟨by omega, (fun ⟨d, hd, hh⟩ => by rw [HHD.out] at hd; injection hd with hd; subst hd; rw [HL2.out] at hh; cases hh), by have x := HQ.out; have y := HNV.out; subst x; subst y; rfl⟩)⟩
    · rw [drop_end s q hlt] at hq3
      have hq3 : q = p + sp := hq3
      have HQ : Hid (q = p + sp) := Lib.hid (by omega)
      have hqp : (q : Int) - (p : Int) = (sp : Int) := by omega
      obtain ⟨⟨k0, k1, k2, k3⟩, f0, f1, f2, f3⟩ := token_cells HBLK.out
      have HNO : Hid (¬ ∃ c ∈ ((s.data.toList.drop p).drop sp).head?, isL c.toNat = true) := Lib.hid (by rw [List.drop_drop, drop_end s (p + sp) (by omega)]; simp)
      clear hq3 hm
      by_cases h18 : 18 < sp
      · have hs18 : (18 : Int) < (sp : Int) := by omega
        have hset := token_put (.int .i64 0) (.int .i64 0) (.string ⟨#[]⟩) (.int .i64 0) rfl HBLK.out
        obtain ⟨U, hU⟩ : ∃ U, Hid (((((V.setCell ⟨w.heap.size, 0, none⟩ (.int .i64 0)).setCell ⟨w.heap.size, 1, none⟩ (.int .i64 0)).setCell ⟨w.heap.size, 2, none⟩ (.string ⟨#[]⟩)).setCell ⟨w.heap.size, 3, none⟩ (.int .i64 0)) = U) := ⟨_, Lib.hid rfl⟩
        rw [hU.out] at hset
        have HSET := Lib.hid hset
        clear hset
        go_wp2_with fail
        rw [hU.out]
        clear k0 k1 k2 k3 f0 f1 f2 f3
        (try simp only [Exit.inBlock, Exit.then])
        obtain ⟨⟨u0, u1, u2, u3⟩, _⟩ := token_cells HSET.out.at_
        refine bodyPost_ret (by simp [results, Tryd.results22, go_sem, u0, u1, u2, u3]; try rfl) rfl ?_
        first
          | exact ⟨below_setB HB.out HSET.out (Nat.le_refl _), .inl ⟨h18, rfl⟩⟩
          | exact ⟨below_setB HB.out HSET.out (Nat.le_refl _), .inl rfl⟩
          | exact ⟨below_setB HB.out HSET.out (Nat.le_refl _), rfl⟩
      · have hs18 : (sp : Int) ≤ 18 := by omega
        have HNV : Hid (m = nv) := Lib.hid (by rw [← HM.out, ← hnv.out, HQ.out, Nat.add_sub_cancel_left, Nat.min_eq_right (by omega)])
        have hset := token_put (.int .i64 2) (.int .i64 L) (.string ⟨#[]⟩) (.int .i64 m) rfl HBLK.out
        obtain ⟨U, hU⟩ : ∃ U, Hid (((((V.setCell ⟨w.heap.size, 0, none⟩ (.int .i64 2)).setCell ⟨w.heap.size, 1, none⟩ (.int .i64 L)).setCell ⟨w.heap.size, 2, none⟩ (.string ⟨#[]⟩)).setCell ⟨w.heap.size, 3, none⟩ (.int .i64 m)) = U) := ⟨_, Lib.hid rfl⟩
        rw [hU.out] at hset
        have HSET := Lib.hid hset
        clear hset
        go_wp2_with fail
        rw [hU.out]
        clear k0 k1 k2 k3 f0 f1 f2 f3
        (try simp only [Exit.inBlock, Exit.then])
        obtain ⟨⟨u0, u1, u2, u3⟩, _⟩ := token_cells HSET.out.at_
        refine bodyPost_ret (by simp [results, Tryd.results22, go_sem, u0, u1, u2, u3]; try rfl) rfl ?_
        first
          | exact ⟨below_setB HB.out HSET.out (Nat.le_refl _), .inr (.inr ⟨by omega, HNO.out, by have x := HQ.out; have y := HNV.out; subst x; subst y; rfl⟩)⟩
          | exact ⟨below_setB HB.out HSET.out (Nat.le_refl _), ⟨by omega, fun x hx => absurd hx (by have z := HQ.out; rw [Array.getElem?_eq_none (by show s.size ≤ p + sp; omega)]; simp), by have x := HQ.out; have y := HNV.out; subst x; subst y; rfl⟩⟩
          | exact ⟨below_setB HB.out HSET.out (Nat.le_refl _), .inr ⟨by omega, fun x hx => absurd hx (by have z := HQ.out; rw [Array.getElem?_eq_none (by show s.size ≤ p + sp; omega)]; simp), by have x := HQ.out; have y := HNV.out; subst x; subst y; rfl⟩⟩
          | exact ⟨below_setB HB.out HSET.out (Nat.le_refl _), .inr (.inr ⟨by omega, fun x hx => absurd hx (by have z := HQ.out; rw [Array.getElem?_eq_none (by show s.size ≤ p + sp; omega)]; simp), by have x := HQ.out; have y := HNV.out; subst x; subst y; rfl⟩)⟩
end Go.Proofs.YtchibamdkaejdaaDoor
namespace Go.Proofs.YtchibamdkaejdaaDoor
open Go.RowKit

/-- The k-th sign of two bytes. -/
def twoB (k : Nat) : ByteArray := ⟨(twos.getD k []).toArray⟩
theorem twoB_row (w : World) (k : Nat) (hk : k < 3) : (w.alloc (.cells #[.string ⟨#[60, 61]⟩, .string ⟨#[61, 61]⟩, .string ⟨#[33, 61]⟩] 9)).cell? ⟨w.heap.size, k, none⟩ = some (.string (twoB k)) := by
 rw [World.cell?_alloc_at _ _ _ _ rfl]
 have h : k = 0 ∨ k = 1 ∨ k = 2 := by omega
 rcases h with rfl | rfl | rfl <;> rfl
theorem oneB_row (w : World) (k : Nat) (hk : k < 21) : (w.alloc (.cells #[.int .u8 40, .int .u8 41, .int .u8 123, .int .u8 125, .int .u8 91, .int .u8 93, .int .u8 44, .int .u8 59, .int .u8 58, .int .u8 46, .int .u8 43, .int .u8 45, .int .u8 42, .int .u8 47, .int .u8 37, .int .u8 38, .int .u8 124, .int .u8 94, .int .u8 60, .int .u8 61, .int .u8 33] 5 (21, 22))).cell? ⟨w.heap.size, k, none⟩ = some (.int .u8 (ones.getD k 0).toNat) := by
 rw [cell_of_row (w.alloc (.cells #[.int .u8 40, .int .u8 41, .int .u8 123, .int .u8 125, .int .u8 91, .int .u8 93, .int .u8 44, .int .u8 59, .int .u8 58, .int .u8 46, .int .u8 43, .int .u8 45, .int .u8 42, .int .u8 47, .int .u8 37, .int .u8 38, .int .u8 124, .int .u8 94, .int .u8 60, .int .u8 61, .int .u8 33] 5 (21, 22))) w.heap.size k _ _ (21, 22) Array.getElem?_push_size]
 have h : k = 0 ∨ k = 1 ∨ k = 2 ∨ k = 3 ∨ k = 4 ∨ k = 5 ∨ k = 6 ∨ k = 7 ∨ k = 8 ∨ k = 9 ∨ k = 10 ∨ k = 11 ∨ k = 12 ∨ k = 13 ∨ k = 14 ∨ k = 15 ∨ k = 16 ∨ k = 17 ∨ k = 18 ∨ k = 19 ∨ k = 20 := by omega
 rcases h with rfl | rfl | rfl | rfl | rfl | rfl | rfl | rfl | rfl | rfl | rfl | rfl | rfl | rfl | rfl | rfl | rfl | rfl | rfl | rfl | rfl <;> rfl
theorem sub_list (s : ByteArray) (a b : Nat) : (s.extract a b).data.toList = (s.data.toList.drop a).take (b - a) := by
 rw [ByteArray.data_extract, Array.toList_extract]
theorem beq_nay {a b : Int} (h : a ≠ b) : (a == b) = false := by rw [beq_eq_false_iff_ne]; exact h
theorem bytes_of_list {s : ByteArray} {t : List UInt8} (h : s.data.toList = t) : (⟨t.toArray⟩ : ByteArray) = s := by
 rw [ByteArray.ext_iff]
 exact Array.ext' (by rw [← h])
theorem two_at {s : ByteArray} {k : Nat} (hk : k < 3) (h : twos.getD k [] = s.data.toList) : s.data.toList ∈ twos := by
 rw [← h, List.getD_eq_getElem?_getD, List.getElem?_eq_getElem (by exact hk)]
 exact List.getElem_mem _
theorem two_not {t : List UInt8} (h : ∀ j, j < 3 → twos.getD j [] ≠ t) : t ∉ twos := fun hm => by
 obtain ⟨j, hj, e⟩ := List.mem_iff_getElem.1 hm
 exact h j hj (by rw [List.getD_eq_getElem?_getD, List.getElem?_eq_getElem hj]; exact e)
theorem one_at {c : UInt8} {k : Nat} (hk : k < 21) (h : ones.getD k 0 = c) : c ∈ ones := by
 rw [← h, List.getD_eq_getElem?_getD, List.getElem?_eq_getElem (by exact hk)]
 exact List.getElem_mem _
theorem one_not {c : UInt8} (h : ∀ j, j < 21 → ones.getD j 0 ≠ c) : c ∉ ones := fun hm => by
 obtain ⟨j, hj, e⟩ := List.mem_iff_getElem.1 hm
 exact h j hj (by rw [List.getD_eq_getElem?_getD, List.getElem?_eq_getElem hj]; exact e)
set_option linter.unusedSimpArgs false in
set_option maxHeartbeats 1600000 in
set_option maxRecDepth 100000 in
theorem sign_any (s : ByteArray) (p : Nat) (w : World) (hp : p < s.size) (hs : s.size ≤ 5000) (t : List UInt8) (ht : Hid (sign (s.data.toList.drop p) = t)) :
  Calls Tryd.prog 36 #[.string s, .int .i64 p] w fun e w' => e = .returned (.string ⟨t.toArray⟩) ∧ Below w.heap.size w w' := by
 have hd := drop_cons s p hp
 obtain ⟨c, hc⟩ : ∃ c, (s[p]'hp) = c := ⟨_, rfl⟩
 rw [hc] at hd
 have HD := Lib.hid hd
 clear hd
 by_cases hnext : p + 1 < s.size
 ·have hi : (p : Int) + 1 < (s.size : Int) := by omega
  obtain ⟨V, hV⟩ : ∃ V, Hid (w.alloc (.cells #[.string ⟨#[60, 61]⟩, .string ⟨#[61, 61]⟩, .string ⟨#[33, 61]⟩] 9) = V) := ⟨_, Lib.hid rfl⟩
  have hrow := twoB_row w
  have hb : Below w.heap.size w V := by rw [← hV.out]; exact (Below.refl _ _).alloc (Nat.le_refl _) _
  rw [hV.out] at hrow
  have HROW := Lib.hid hrow
  have HB := Lib.hid hb
  have hl2 : (s.extract p (p + 2)).data.toList = (s.data.toList.drop p).take 2 := by rw [sub_list s p (p + 2)]; congr 1; omega
  have HL2 := Lib.hid hl2
  clear hrow hb hl2
  have hq2 : (p : Int) + 2 ≤ (s.size : Int) := by omega
  have hq0 : (0 : Int) ≤ (p : Int) := by omega
  have hq1 : (p : Int) ≤ (p : Int) + 2 := by omega
  go_enter Tryd.func36, Tryd.ntmps36
  go_wp2_with fail
  rw [hV.out]
  go_loop [16] (fun i => ∃ k : Nat, i = .int .i64 k ∧ k ≤ 3 ∧ ∀ j, j < k → twos.getD j [] ≠ (s.extract p (p + 2)).data.toList) (fun i => 3 - (intOf i).toNat)
  case atStart => exact ⟨0, rfl, by omega, fun j hj => absurd hj (by omega)⟩
  case round =>
   obtain ⟨k, rfl, hk, hno⟩ := hrel
   have HNO := Lib.hid hno
   clear hno
   by_cases hlt : k < 3
   ·have gk := HROW.out k hlt
    obtain ⟨u, hu⟩ : ∃ u, twoB k = u := ⟨_, rfl⟩
    rw [hu] at gk
    by_cases he : s.extract p (p + 2) = u
    ·have hq : ((s.extract p (p + 2)).toList == u.toList) = true := by rw [he, beq_iff_eq]
     have HE := Lib.hid he
     have HU := Lib.hid hu
     clear he hu
     go_wp2_with fail
     go_ret
     refine ⟨?_, HB.out⟩
     have h1 : twos.getD k [] = (s.extract p (p + 2)).data.toList := by rw [HE.out, ← HU.out]; rfl
     have h2 := two_at hlt h1
     rw [HL2.out] at h2
     have h3 : t = (s.extract p (p + 2)).data.toList := by rw [← ht.out, HL2.out]; unfold sign; rw [if_pos h2]
     rw [bytes_of_list h3.symm, HE.out]
     rfl
    ·have hq : ((s.extract p (p + 2)).toList == u.toList) = false := by
      rw [beq_eq_false_iff_ne]
      intro e
      rw [Lib.toList_data, Lib.toList_data] at e
      exact he (by rw [ByteArray.ext_iff]; exact Array.ext' e)
     have HU := Lib.hid (show twos.getD k [] ≠ (s.extract p (p + 2)).data.toList from fun e => he (by
      rw [← hu]
      unfold twoB
      exact (bytes_of_list e.symm).symm))
     clear he hu
     go_wp2_with fail
     go_round
     case rel => exact ⟨k + 1, by go_num, by omega, fun j hj => by
      rcases Nat.lt_or_ge j k with h | h
      ·exact HNO.out j h
      ·obtain rfl : j = k := by omega
       exact HU.out⟩
     case measure => simp [intOf]; omega
   ·obtain rfl : k = 3 := by omega
    have hntwo := two_not HNO.out
    rw [HL2.out] at hntwo
    have HN2 := Lib.hid hntwo
    clear hntwo
    have hconv : (convert 29 29 (.slice (some ⟨V.heap.size, 0, none⟩) 21 21)).run Tryd.prog (V.alloc (.cells #[.int .u8 40, .int .u8 41, .int .u8 123, .int .u8 125, .int .u8 91, .int .u8 93, .int .u8 44, .int .u8 59, .int .u8 58, .int .u8 46, .int .u8 43, .int .u8 45, .int .u8 42, .int .u8 47, .int .u8 37, .int .u8 38, .int .u8 124, .int .u8 94, .int .u8 60, .int .u8 61, .int .u8 33] 5)) = .ok (.slice (some ⟨V.heap.size, 0, none⟩) 21 21) (V.alloc (.cells #[.int .u8 40, .int .u8 41, .int .u8 123, .int .u8 125, .int .u8 91, .int .u8 93, .int .u8 44, .int .u8 59, .int .u8 58, .int .u8 46, .int .u8 43, .int .u8 45, .int .u8 42, .int .u8 47, .int .u8 37, .int .u8 38, .int .u8 124, .int .u8 94, .int .u8 60, .int .u8 61, .int .u8 33] 5 (21, 22))) := Lib.run_convert_bytes_const (P := Tryd.prog) V 29 5 #[.int .u8 40, .int .u8 41, .int .u8 123, .int .u8 125, .int .u8 91, .int .u8 93, .int .u8 44, .int .u8 59, .int .u8 58, .int .u8 46, .int .u8 43, .int .u8 45, .int .u8 42, .int .u8 47, .int .u8 37, .int .u8 38, .int .u8 124, .int .u8 94, .int .u8 60, .int .u8 61, .int .u8 33] 21 21 Tryd.underlying29 Tryd.underlying5
    go_wp2_with fail
    obtain ⟨Y, hY⟩ : ∃ Y, Hid (V.alloc (.cells #[.int .u8 40, .int .u8 41, .int .u8 123, .int .u8 125, .int .u8 91, .int .u8 93, .int .u8 44, .int .u8 59, .int .u8 58, .int .u8 46, .int .u8 43, .int .u8 45, .int .u8 42, .int .u8 47, .int .u8 37, .int .u8 38, .int .u8 124, .int .u8 94, .int .u8 60, .int .u8 61, .int .u8 33] 5 (21, 22)) = Y) := ⟨_, Lib.hid rfl⟩
    have hrow2 := oneB_row V
    rw [hY.out] at hrow2
    have HR2 := Lib.hid hrow2
    have HBY : Hid (Below w.heap.size w Y) := Lib.hid (by rw [← hY.out]; exact HB.out.alloc HB.out.size _)
    clear hrow2
    rw [hY.out]
    go_loop [32] (fun i => ∃ k : Nat, i = .int .i64 k ∧ k ≤ 21 ∧ ∀ j, j < k → ones.getD j 0 ≠ c) (fun i => 21 - (intOf i).toNat)
    case atStart => exact ⟨0, rfl, by omega, fun j hj => absurd hj (by omega)⟩
    case round =>
     obtain ⟨k, rfl, hk, hno⟩ := hrel
     have HNO1 := Lib.hid hno
     clear hno
     by_cases hlt : k < 21
     ·have gk := HR2.out k hlt
      obtain ⟨u, hu⟩ : ∃ u, ones.getD k 0 = u := ⟨_, rfl⟩
      rw [hu] at gk
      by_cases he : c = u
      ·have hq : ((c.toNat : Int) == (u.toNat : Int)) = true := by rw [he, beq_iff_eq]
       have HE := Lib.hid he
       have HU := Lib.hid hu
       have hp1 : (p : Int) + 1 ≤ (s.size : Int) := by omega
       have hp0 : (0 : Int) ≤ (p : Int) := by omega
       have hp2 : (p : Int) ≤ (p : Int) + 1 := by omega
       clear he hu
       go_wp2_with fail
       go_ret
       refine ⟨?_, HBY.out⟩
       have h1 := one_at hlt (HU.out.trans HE.out.symm)
       have h2 : (s.extract p (p + 1)).data.toList = (s.data.toList.drop p).take 1 := by rw [sub_list s p (p + 1)]; congr 1; omega
       have h3 : t = (s.extract p (p + 1)).data.toList := by
        rw [← ht.out, h2]
        unfold sign
        rw [if_neg HN2.out, HD.out, if_pos ⟨c, rfl, h1⟩]
       rw [bytes_of_list h3.symm]
       rfl
      ·have hq : ((c.toNat : Int) == (u.toNat : Int)) = false := beq_nay (fun e => he (UInt8.toNat_inj.1 (by omega)))
       have HU := Lib.hid (show ones.getD k 0 ≠ c from fun e => he (e.symm.trans hu))
       clear he hu
       go_wp2_with fail
       go_round
       case rel => exact ⟨k + 1, by go_num, by omega, fun j hj => by
        rcases Nat.lt_or_ge j k with h | h
        ·exact HNO1.out j h
        ·obtain rfl : j = k := by omega
         exact HU.out⟩
       case measure => simp [intOf]; omega
     ·obtain rfl : k = 21 := by omega
      have h1 := one_not HNO1.out
      have H1 := Lib.hid h1
      clear h1
      go_wp2_with fail
      go_ret
      refine ⟨?_, HBY.out⟩
      have h3 : t = [] := by
       rw [← ht.out]
       unfold sign
       rw [if_neg HN2.out, HD.out, if_neg]
       rintro ⟨d, hd, hm⟩
       obtain rfl : c = d := by simpa using hd
       exact H1.out hm
      rw [h3]
      rfl
 ·have hi : ¬ ((p : Int) + 1 < (s.size : Int)) := by omega
  have hntwo : (s.data.toList.drop p).take 2 ∉ twos := by
   rw [HD.out, drop_end s (p + 1) hnext]
   simp [twos]
  have HN2 := Lib.hid hntwo
  have HB := Lib.hid (Below.refl w.heap.size w)
  clear hntwo
  go_enter Tryd.func36, Tryd.ntmps36
  have hconv : (convert 29 29 (.slice (some ⟨w.heap.size, 0, none⟩) 21 21)).run Tryd.prog (w.alloc (.cells #[.int .u8 40, .int .u8 41, .int .u8 123, .int .u8 125, .int .u8 91, .int .u8 93, .int .u8 44, .int .u8 59, .int .u8 58, .int .u8 46, .int .u8 43, .int .u8 45, .int .u8 42, .int .u8 47, .int .u8 37, .int .u8 38, .int .u8 124, .int .u8 94, .int .u8 60, .int .u8 61, .int .u8 33] 5)) = .ok (.slice (some ⟨w.heap.size, 0, none⟩) 21 21) (w.alloc (.cells #[.int .u8 40, .int .u8 41, .int .u8 123, .int .u8 125, .int .u8 91, .int .u8 93, .int .u8 44, .int .u8 59, .int .u8 58, .int .u8 46, .int .u8 43, .int .u8 45, .int .u8 42, .int .u8 47, .int .u8 37, .int .u8 38, .int .u8 124, .int .u8 94, .int .u8 60, .int .u8 61, .int .u8 33] 5 (21, 22))) := Lib.run_convert_bytes_const (P := Tryd.prog) w 29 5 #[.int .u8 40, .int .u8 41, .int .u8 123, .int .u8 125, .int .u8 91, .int .u8 93, .int .u8 44, .int .u8 59, .int .u8 58, .int .u8 46, .int .u8 43, .int .u8 45, .int .u8 42, .int .u8 47, .int .u8 37, .int .u8 38, .int .u8 124, .int .u8 94, .int .u8 60, .int .u8 61, .int .u8 33] 21 21 Tryd.underlying29 Tryd.underlying5
  go_wp2_with fail
  obtain ⟨Y, hY⟩ : ∃ Y, Hid (w.alloc (.cells #[.int .u8 40, .int .u8 41, .int .u8 123, .int .u8 125, .int .u8 91, .int .u8 93, .int .u8 44, .int .u8 59, .int .u8 58, .int .u8 46, .int .u8 43, .int .u8 45, .int .u8 42, .int .u8 47, .int .u8 37, .int .u8 38, .int .u8 124, .int .u8 94, .int .u8 60, .int .u8 61, .int .u8 33] 5 (21, 22)) = Y) := ⟨_, Lib.hid rfl⟩
  have hrow2 := oneB_row w
  rw [hY.out] at hrow2
  have HR2 := Lib.hid hrow2
  have HBY : Hid (Below w.heap.size w Y) := Lib.hid (by rw [← hY.out]; exact HB.out.alloc HB.out.size _)
  clear hrow2
  rw [hY.out]
  go_loop [32] (fun i => ∃ k : Nat, i = .int .i64 k ∧ k ≤ 21 ∧ ∀ j, j < k → ones.getD j 0 ≠ c) (fun i => 21 - (intOf i).toNat)
  case atStart => exact ⟨0, rfl, by omega, fun j hj => absurd hj (by omega)⟩
  case round =>
   obtain ⟨k, rfl, hk, hno⟩ := hrel
   have HNO1 := Lib.hid hno
   clear hno
   by_cases hlt : k < 21
   ·have gk := HR2.out k hlt
    obtain ⟨u, hu⟩ : ∃ u, ones.getD k 0 = u := ⟨_, rfl⟩
    rw [hu] at gk
    by_cases he : c = u
    ·have hq : ((c.toNat : Int) == (u.toNat : Int)) = true := by rw [he, beq_iff_eq]
     have HE := Lib.hid he
     have HU := Lib.hid hu
     have hp1 : (p : Int) + 1 ≤ (s.size : Int) := by omega
     have hp0 : (0 : Int) ≤ (p : Int) := by omega
     have hp2 : (p : Int) ≤ (p : Int) + 1 := by omega
     clear he hu
     go_wp2_with fail
     go_ret
     refine ⟨?_, HBY.out⟩
     have h1 := one_at hlt (HU.out.trans HE.out.symm)
     have h2 : (s.extract p (p + 1)).data.toList = (s.data.toList.drop p).take 1 := by rw [sub_list s p (p + 1)]; congr 1; omega
     have h3 : t = (s.extract p (p + 1)).data.toList := by
      rw [← ht.out, h2]
      unfold sign
      rw [if_neg HN2.out, HD.out, if_pos ⟨c, rfl, h1⟩]
     rw [bytes_of_list h3.symm]
     rfl
    ·have hq : ((c.toNat : Int) == (u.toNat : Int)) = false := beq_nay (fun e => he (UInt8.toNat_inj.1 (by omega)))
     have HU := Lib.hid (show ones.getD k 0 ≠ c from fun e => he (e.symm.trans hu))
     clear he hu
     go_wp2_with fail
     go_round
     case rel => exact ⟨k + 1, by go_num, by omega, fun j hj => by
      rcases Nat.lt_or_ge j k with h | h
      ·exact HNO1.out j h
      ·obtain rfl : j = k := by omega
       exact HU.out⟩
     case measure => simp [intOf]; omega
   ·obtain rfl : k = 21 := by omega
    have h1 := one_not HNO1.out
    have H1 := Lib.hid h1
    clear h1
    go_wp2_with fail
    go_ret
    refine ⟨?_, HBY.out⟩
    have h3 : t = [] := by
     rw [← ht.out]
     unfold sign
     rw [if_neg HN2.out, HD.out, if_neg]
     rintro ⟨d, hd, hm⟩
     obtain rfl : c = d := by simpa using hd
     exact H1.out hm
    rw [h3]
    rfl
end Go.Proofs.YtchibamdkaejdaaDoor
namespace Go.Proofs.YtchibamdkaejdaaDoor
open Go.RowKit

set_option linter.unusedSimpArgs false in
set_option maxHeartbeats 1600000 in
set_option maxRecDepth 100000 in
theorem one_sign (s : ByteArray) (p L : Nat) (w : World) (hp : p < s.size) (hs : s.size ≤ 5000) (hlet : isL (s[p]'hp).toNat = false) (hdig : isD (s[p]'hp).toNat = false)
    (t : List UInt8) (ht : Hid (sign (s.data.toList.drop p) = t)) (htl : t.length ≤ 2) :
    Calls Tryd.prog 22 #[.string s, .int .i64 p, .int .i64 L] w fun e w' => Below w.heap.size w w' ∧
      ((t = [] ∧ e = .returned (.tuple #[.agg #[.int .i64 0, .int .i64 0, .string ⟨#[]⟩, .int .i64 0], .int .i64 0, .int .i64 6])) ∨
       (t ≠ [] ∧ e = .returned (.tuple #[.agg #[.int .i64 4, .int .i64 L, .string ⟨t.toArray⟩, .int .i64 0], .int .i64 (p + t.length : Nat), .int .i64 0]))) := by
  obtain ⟨V, hV⟩ : ∃ V, Hid (w.alloc (.cells #[.int .i64 0, .int .i64 0, .string ⟨#[]⟩, .int .i64 0] 36) = V) := ⟨_, Lib.hid rfl⟩
  have hb : Below w.heap.size w V := by rw [← hV.out]; exact (Below.refl _ _).alloc (Nat.le_refl _) _
  have hblk : V.heap[w.heap.size]? = some (.cells #[.int .i64 0, .int .i64 0, .string ⟨#[]⟩, .int .i64 0] 36 (0, 0)) := by rw [← hV.out]; exact Array.getElem?_push_size
  have HB := Lib.hid hb
  have HBLK := Lib.hid hblk
  obtain ⟨c, hc⟩ : ∃ c, (s[p]'hp) = c := ⟨_, rfl⟩
  rw [hc] at hlet hdig
  have hcl := c.toNat_lt
  have HLET := Lib.hid hlet
  have HDIG := Lib.hid hdig
  clear hb hblk hlet hdig
  go_enter Tryd.func22, Tryd.ntmps22
  go_wp2_with (first | (go_at_call 33; refine (letter_any c.toNat (by omega) _ false HLET).mono ?_; rintro e w1 ⟨rfl, rfl⟩) | (go_at_call 34; refine (digit_any c.toNat (by omega) _ false HDIG).mono ?_; rintro e w1 ⟨rfl, rfl⟩))
  rw [hV.out]
  refine (sign_any s p V hp hs t ht).mono ?_
  rintro e w2 ⟨rfl, hb2⟩
  have hblk2 := (hb2.block w.heap.size (Array.getElem?_eq_some_iff.1 HBLK.out).1).trans HBLK.out
  obtain ⟨⟨k0, k1, k2, k3⟩, f0, f1, f2, f3⟩ := token_cells hblk2
  have HBL2 := Lib.hid hblk2
  have HB2 := Lib.hid (HB.out.trans (hb2.mono HB.out.size))
  clear hb2 hblk2
  obtain ⟨tb, htb⟩ : ∃ tb : ByteArray, (⟨t.toArray⟩ : ByteArray) = tb := ⟨_, rfl⟩
  have htd : tb.data.toList = t := by rw [← htb]
  have hts : tb.size = t.length := by rw [← htb]; show t.toArray.size = _; simp
  rw [htb]
  have HTB := Lib.hid htb
  have HTS := Lib.hid hts
  clear htb hts
  by_cases hem : t = []
  · have hq : tb.toList.isEmpty = true := by rw [Lib.toList_data, htd, hem]; rfl
    have hset := token_put (.int .i64 0) (.int .i64 0) (.string ⟨#[]⟩) (.int .i64 0) rfl HBL2.out
    obtain ⟨U, hU⟩ : ∃ U, Hid ((((w2.setCell ⟨w.heap.size, 0, none⟩ (.int .i64 0)).setCell ⟨w.heap.size, 1, none⟩ (.int .i64 0)).setCell ⟨w.heap.size, 2, none⟩ (.string ⟨#[]⟩)).setCell ⟨w.heap.size, 3, none⟩ (.int .i64 0) = U) := ⟨_, Lib.hid rfl⟩
    rw [hU.out] at hset
    have HSET := Lib.hid hset
    have HEM := Lib.hid hem
    clear hset hem htd
    go_wp2_with fail
    rw [hU.out]
    clear k0 k1 k2 k3 f0 f1 f2 f3
    (try simp only [Exit.inBlock, Exit.then])
    obtain ⟨⟨u0, u1, u2, u3⟩, _⟩ := token_cells HSET.out.at_
    refine bodyPost_ret (by simp [results, Tryd.results22, go_sem, u0, u1, u2, u3]; try rfl) rfl ?_
    exact ⟨below_setB HB2.out HSET.out (Nat.le_refl _), .inl ⟨HEM.out, rfl⟩⟩
  · have hq : tb.toList.isEmpty = false := by
      rw [Lib.toList_data, htd]
      cases t with
      | nil => exact absurd rfl hem
      | cons a b => rfl
    have hset := token_put (.int .i64 4) (.int .i64 L) (.string tb) (.int .i64 0) rfl HBL2.out
    obtain ⟨U, hU⟩ : ∃ U, Hid ((((w2.setCell ⟨w.heap.size, 0, none⟩ (.int .i64 4)).setCell ⟨w.heap.size, 1, none⟩ (.int .i64 L)).setCell ⟨w.heap.size, 2, none⟩ (.string tb)).setCell ⟨w.heap.size, 3, none⟩ (.int .i64 0) = U) := ⟨_, Lib.hid rfl⟩
    rw [hU.out] at hset
    have HSET := Lib.hid hset
    have HEM := Lib.hid hem
    have hsz : tb.size ≤ 2 := by rw [HTS.out]; exact htl
    clear hset hem htd
    go_wp2_with fail
    rw [hU.out]
    clear k0 k1 k2 k3 f0 f1 f2 f3
    (try simp only [Exit.inBlock, Exit.then])
    obtain ⟨⟨u0, u1, u2, u3⟩, _⟩ := token_cells HSET.out.at_
    refine bodyPost_ret (by simp [results, Tryd.results22, go_sem, u0, u1, u2, u3]; try rfl) rfl ?_
    exact ⟨below_setB HB2.out HSET.out (Nat.le_refl _), .inr ⟨HEM.out, by rw [← HTS.out, HTB.out]; rfl⟩⟩
end Go.Proofs.YtchibamdkaejdaaDoor
namespace Go.Proofs.YtchibamdkaejdaaDoor
open Go.RowKit

theorem one_any (s : ByteArray) (p L : Nat) (w : World) (hp : p < s.size) (hs : s.size ≤ 5000) (kd : Nat) (tx : List UInt8) (nm sz er : Nat) (hF : Hid (fst (s.data.toList.drop p) = ⟨kd, tx, nm, sz, er⟩)) :
    Calls Tryd.prog 22 #[.string s, .int .i64 p, .int .i64 L] w fun e w' => Below w.heap.size w w' ∧
      ((er ≠ 0 ∧ e = .returned (.tuple #[.agg #[.int .i64 0, .int .i64 0, .string ⟨#[]⟩, .int .i64 0], .int .i64 0, .int .i64 er])) ∨
       (er = 0 ∧ e = .returned (.tuple #[.agg #[.int .i64 kd, .int .i64 L, .string ⟨tx.toArray⟩, .int .i64 nm], .int .i64 (p + sz : Nat), .int .i64 0]))) := by
  have hd := drop_cons s p hp
  have hf := hF.out
  have hfst : fst (s.data.toList.drop p) = if isD (s[p]'hp).toNat = true then fstNum (s.data.toList.drop p) else if isL (s[p]'hp).toNat = true then fstName (s.data.toList.drop p) else fstSign (s.data.toList.drop p) := by
    rw [hd]; rfl
  rw [hfst] at hf
  cases hdg : isD (s[p]'hp).toNat with
  | true =>
    have hl : isL (s[p]'hp).toNat = false := by
      cases h : isL (s[p]'hp).toNat with
      | true => rw [isL_not_D h] at hdg; cases hdg
      | false => rfl
    rw [hdg, if_pos rfl] at hf
    refine (one_num s p L w hp hs _ (Lib.hid rfl) hl hdg _ (Lib.hid rfl)).mono ?_
    rintro e w' ⟨hb, h⟩
    refine ⟨hb, ?_⟩
    unfold fstNum at hf
    rcases h with ⟨h1, rfl⟩ | ⟨h1, h2, rfl⟩ | ⟨h1, h2, rfl⟩
    · rw [if_pos h1] at hf
      injection hf with g1 g2 g3 g4 g5
      subst g5
      exact .inl ⟨by omega, rfl⟩
    · rw [if_neg (by omega), if_pos h2] at hf
      injection hf with g1 g2 g3 g4 g5
      subst g5
      exact .inl ⟨by omega, rfl⟩
    · rw [if_neg (by omega), if_neg h2] at hf
      injection hf with g1 g2 g3 g4 g5
      subst g1 g2 g3 g4 g5
      exact .inr ⟨rfl, rfl⟩
  | false =>
    rw [hdg, if_neg (by decide)] at hf
    cases hl : isL (s[p]'hp).toNat with
    | true =>
      rw [hl, if_pos rfl] at hf
      refine (one_name s p L w hp hs _ (Lib.hid rfl) hl _ (Lib.hid rfl) _ (Lib.hid rfl)).mono ?_
      rintro e w' ⟨hb, h⟩
      refine ⟨hb, ?_⟩
      unfold fstName at hf
      have hx : (s.extract p (p + span isLD (s.data.toList.drop p))).data.toList = (s.data.toList.drop p).take (span isLD (s.data.toList.drop p)) := by rw [sub_list]; congr 1; omega
      rcases h with ⟨h1, rfl⟩ | ⟨h1, rfl⟩
      · rw [if_pos h1] at hf
        injection hf with g1 g2 g3 g4 g5
        subst g5
        exact .inl ⟨by omega, rfl⟩
      · rw [if_neg (by omega)] at hf
        injection hf with g1 g2 g3 g4 g5
        subst g2 g3 g4 g5
        refine .inr ⟨rfl, ?_⟩
        rw [bytes_of_list hx, ← g1, hx]
        by_cases hw : (s.data.toList.drop p).take (span isLD (s.data.toList.drop p)) ∈ words
        · simp [hw]
        · simp [hw]
    | false =>
      rw [hl, if_neg (by decide)] at hf
      refine (one_sign s p L w hp hs hl hdg _ (Lib.hid rfl) (sign_le _).2).mono ?_
      rintro e w' ⟨hb, h⟩
      refine ⟨hb, ?_⟩
      unfold fstSign at hf
      rcases h with ⟨h1, rfl⟩ | ⟨h1, rfl⟩
      · rw [if_pos h1] at hf
        injection hf with g1 g2 g3 g4 g5
        subst g5
        exact .inl ⟨by omega, rfl⟩
      · rw [if_neg h1] at hf
        injection hf with g1 g2 g3 g4 g5
        subst g1 g2 g3 g4 g5
        exact .inr ⟨rfl, rfl⟩
end Go.Proofs.YtchibamdkaejdaaDoor
namespace Go.Proofs.YtchibamdkaejdaaDoor
open Go.RowKit

theorem refscan_long (s : ByteArray) (w : World) (h : 4000 < s.size) (hm : s.size ≤ 9223372036854775807) (R : List Tok × Nat × Nat) (hR : Hid (scan s.data.toList = R)) :
  Calls Tryd.prog 15 #[.string s] w (Scanned w R) := by
 obtain rfl : R = ([], 0, 5) := by rw [← hR.out]; unfold scan; rw [if_pos (by simpa using h)]
 go_enter Tryd.func15, Tryd.ntmps15
 go_wp2_with fail
 go_ret3
 exact ⟨none, 0, rfl, toks_nil _ _, Below.refl _ _⟩

set_option linter.unusedSimpArgs false in
set_option maxHeartbeats 3200000 in
set_option maxRecDepth 100000 in
theorem refscan_short (s : ByteArray) (w : World) (h : s.size ≤ 4000) (R : List Tok × Nat × Nat) (hR : Hid (scan s.data.toList = R)) :
  Calls Tryd.prog 15 #[.string s] w (Scanned w R) := by
 obtain ⟨i0, hi, hz0, hz1, hz2⟩ := info_parts tokinfo
 have hR' : Hid (scanF (s.data.toList.length + 1) s.data.toList 1 [] = R) := by
  rw [← hR.out]; unfold scan; rw [if_neg (by simp; omega)]; exact Lib.hid rfl
 clear hR
 obtain ⟨N0, F0, hg0⟩ : ∃ N F, Hid (gap false (s.data.toList.drop 0) = (N, F)) := ⟨_, _, Lib.hid rfl⟩
 have hskip := skip_any s 0 1 N0 F0 w (by omega) (by omega) (by omega) hg0
 rw [show ((0 : Nat) : Int) = 0 from rfl, show ((1 : Nat) : Int) = 1 from rfl] at hskip
 have HSK := Lib.hid hskip
 clear hskip
 go_enter Tryd.func15, Tryd.ntmps15
 obtain ⟨q0, hq0⟩ : ∃ q0 : Nat, 0 + N0 = q0 := ⟨_, rfl⟩
 obtain ⟨l0, hl0⟩ : ∃ l0 : Nat, 1 + F0 = l0 := ⟨_, rfl⟩
 have HSK2 := HSK.out
 rw [hq0, hl0] at HSK2
 have HSK3 := Lib.hid HSK2
 clear HSK2 HSK
 go_wp2_with fail
 refine HSK3.out.mono ?_
 rintro e w1 ⟨rfl, rfl⟩
 go_wp2_with fail
 go_loopw [5, 6, 7] (fun v at_ ln wr => ∃ (p L f N F q l : Nat) (acc : List Tok), at_ = .int .i64 q ∧ ln = .int .i64 l ∧ Hid (p + N = q ∧ L + F = l) ∧ p ≤ s.size ∧ L ≤ p + 1 ∧ acc.length ≤ 2000 ∧ wr.ownsRow w.heap.size 36 4 v acc.length (tvals acc) ∧ Below w.heap.size w wr ∧ Hid (gap false (s.data.toList.drop p) = (N, F)) ∧ scanF f (s.data.toList.drop p) L acc = R ∧ s.size - p < f) (fun _ at_ _ _ => s.size - (intOf at_).toNat)
 case atStart => exact ⟨0, 1, _, N0, F0, q0, l0, [], rfl, rfl, Lib.hid ⟨hq0, hl0⟩, Nat.zero_le _, Nat.le_refl _, by simp, World.ownsRow_nil _ _ _ _, Below.refl _ _, hg0, hR'.out, by simp⟩
 case round =>
  obtain ⟨p, L, f, N, F, q, l, acc, rfl, rfl, hql, hp, hL, hacc, hown, hbel, hg, hscan, hf⟩ := hrel
  have hNF : N ≤ s.size - p ∧ F ≤ N := by
   have := gap_le (s.data.toList.drop p) false
   rw [hg.out] at this
   simpa using this
  obtain ⟨hN, hF⟩ := hNF
  obtain ⟨hq, hl⟩ := hql.out
  have hqs : q ≤ s.size := by omega
  have hlq : l ≤ q + 1 := by omega
  have HO := Lib.hid hown
  have HB := Lib.hid hbel
  have HR := Lib.hid hscan
  have HQL := Lib.hid (And.intro hq hl)
  have hsz := HB.out.size
  obtain ⟨A, C, rfl, _, htk⟩ := toks_own hown
  clear hown hbel hscan hq hl hql htk
  by_cases hend : q = s.size
  ·have hx : (acc ++ [⟨0, l, [], 0⟩], 0, 0) = R := by
    rw [← HR.out]
    obtain ⟨f', rfl⟩ : ∃ f', f = f' + 1 := ⟨f - 1, by omega⟩
    unfold scanF
    have hd : (s.data.toList.drop p).drop (gap false (s.data.toList.drop p)).1 = [] := by
     rw [hg.out, List.drop_drop]; exact drop_end s _ (by have := HQL.out; omega)
    rw [if_pos hd, hg.out]
    rw [← HQL.out.2]
   have hnlt : ¬ ((q : Int) < (s.size : Int)) := by omega
   subst hx
   clear hend
   go_wp2_with (at_builtin; refine wpList_append_own _ rfl _ _ 31 rfl w.heap.size 36 i0 _ 4 40 Tryd.underlying31 hi hz0 hz1 hz2 rfl (by decide) _ acc.length (tvals acc) rfl (HO.out.alloc _) ⟨wr.heap.size, 0, none⟩ 1 1 [.int .i64 0, .int .i64 l, .string ⟨#[]⟩, .int .i64 0] rfl rfl (fun j u hu => row_new wr _ _ j u hu) (tok_one _ _ [] _) (by unfold maxLen; omega) (by omega) (by simp; omega) ?_; intro v3 w3 hown3 hgrow3 _)
   have hts : tvals acc ++ [.int .i64 0, .int .i64 l, .string ⟨#[]⟩, .int .i64 0] = tvals (acc ++ [⟨0, l, [], 0⟩]) := by
    rw [tvals_append, tvals_one]; simp [Tok.cells]
   rw [hts] at hown3
   obtain ⟨A3, C3, rfl, _, htk3⟩ := toks_own hown3
   go_ret3
   refine ⟨A3, C3, rfl, htk3, ?_⟩
   exact (HB.out.alloc hsz _).grown hgrow3 (by simp; omega) (fun k hk => (HO.out.lt k hk).1)
  ·have hlt : q < s.size := by omega
   have hilt : (q : Int) < (s.size : Int) := by omega
   clear hend
   obtain ⟨kd, tx, nm, sz, er, hF0⟩ : ∃ kd tx nm sz er, Hid (fst (s.data.toList.drop q) = ⟨kd, tx, nm, sz, er⟩) := ⟨_, _, _, _, _, Lib.hid rfl⟩
   have hstep : Hid (scanF f (s.data.toList.drop p) L acc = if er ≠ 0 then ([], l, er) else if acc.length = 2000 then ([], l, 5) else scanF (f - 1) (s.data.toList.drop (q + sz)) l (acc ++ [⟨kd, l, tx, nm⟩])) := by
    obtain ⟨f', rfl⟩ : ∃ f', f = f' + 1 := ⟨f - 1, by omega⟩
    have hpN : p + N = q := HQL.out.1
    have hLF : L + F = l := HQL.out.2
    have hd : ¬ (s.data.toList.drop q) = [] := by rw [drop_cons s _ hlt]; simp
    rw [scanF]
    simp only [hg.out, List.drop_drop, hpN, hLF, hF0.out, hd, if_false, Nat.add_sub_cancel]
    exact Lib.hid trivial
   have hstep2 := hstep.out
   rw [HR.out] at hstep2
   have HX := Lib.hid hstep2
   clear hstep hstep2
   go_wp2_with fail
   obtain ⟨q2, hq2⟩ : ∃ q2, q + sz = q2 := ⟨_, rfl⟩
   have hone := one_any s q l wr hlt (by omega) kd tx nm sz er hF0
   rw [hq2] at hone
   have HQ2 := Lib.hid hq2
   clear hq2
   refine hone.mono ?_
   clear hone
   rintro e w3 ⟨hb3, hres⟩
   have HB3 := Lib.hid (HB.out.trans (hb3.mono hsz))
   have HO3 := Lib.hid (own_below HO.out hb3)
   have hsz3 := HB3.out.size
   clear hb3
   rcases hres with ⟨her, rfl⟩ | ⟨her, rfl⟩
   ·have hx := HX.out
    rw [if_pos her] at hx
    subst hx
    have hq3 : ((er : Int) == 0) = false := beq_false (by omega)
    clear her HX
    go_wp2_with fail
    go_ret3
    exact ⟨none, 0, rfl, toks_nil _ _, HB3.out.alloc hsz3 _⟩
   ·subst her
    by_cases hfull : acc.length = 2000
    ·have hx := HX.out
     rw [if_neg (by simp), if_pos hfull] at hx
     subst hx
     have hge : (2000 : Int) ≤ (acc.length : Int) := by omega
     clear HX
     go_wp2_with fail
     go_ret3
     exact ⟨none, 0, rfl, toks_nil _ _, HB3.out.alloc hsz3 _⟩
    ·have hless : acc.length < 2000 := by omega
     have hge : ¬ ((2000 : Int) ≤ (acc.length : Int)) := by omega
     have hsb := fst_size (s.data.toList.drop q) (by rw [hF0.out])
     rw [hF0.out] at hsb
     simp only [List.length_drop, Array.length_toList, ByteArray.size_data] at hsb
     obtain ⟨hsb1, hsb2⟩ := hsb
     have hq2s : q2 ≤ s.size := by have := HQ2.out; omega
     have hq2l : q < q2 := by have := HQ2.out; omega
     have hpq : p ≤ q := by have := HQL.out.1; omega
     have hx := HX.out
     rw [if_neg (by simp), if_neg hfull, HQ2.out] at hx
     have HX2 := Lib.hid hx.symm
     clear hx HX hfull
     go_wp2_with (at_builtin; refine wpList_append_own _ rfl _ _ 31 rfl w.heap.size 36 i0 _ 4 40 Tryd.underlying31 hi hz0 hz1 hz2 rfl (by decide) _ acc.length (tvals acc) rfl ((HO3.out.alloc _).alloc _) ⟨w3.heap.size + 1, 0, none⟩ 1 1 [.int .i64 kd, .int .i64 l, .string ⟨tx.toArray⟩, .int .i64 nm] rfl rfl (fun j u hu => row_new2 w3 _ _ _ j u hu) (tok_one _ _ tx _) (by unfold maxLen; omega) (by omega) (by simp; omega) ?_; intro v4 w4 hown4 hgrow4 _)
     obtain ⟨N2, F2, hg2⟩ : ∃ N F, Hid (gap false (s.data.toList.drop q2) = (N, F)) := ⟨_, _, Lib.hid rfl⟩
     obtain ⟨q3, hq3⟩ : ∃ q3 : Nat, q2 + N2 = q3 := ⟨_, rfl⟩
     obtain ⟨l3, hl3⟩ : ∃ l3 : Nat, l + F2 = l3 := ⟨_, rfl⟩
     have hsk := skip_any s q2 l N2 F2 w4 hq2s (by omega) (by omega) hg2
     rw [hq3, hl3] at hsk
     have hts : tvals acc ++ [.int .i64 kd, .int .i64 l, .string ⟨tx.toArray⟩, .int .i64 nm] = tvals (acc ++ [⟨kd, l, tx, nm⟩]) := by
      rw [tvals_append, tvals_one]; simp [Tok.cells]
     rw [hts] at hown4
     have hbw := ((HB3.out.alloc hsz3 (.cells #[.int .i64 kd, .int .i64 l, .string ⟨tx.toArray⟩, .int .i64 nm] 36)).alloc (by simp; omega) (.cells #[.int .i64 kd, .int .i64 l, .string ⟨tx.toArray⟩, .int .i64 nm] 36)).grown hgrow4 (by simp; omega) (fun k hk => (HO3.out.lt k hk).1)
     have hln : (acc ++ [(⟨kd, l, tx, nm⟩ : Tok)]).length = acc.length + 1 := by simp
     have HQ3 := Lib.hid (And.intro hq3 hl3)
     have HLN := Lib.hid hln
     have HBW := Lib.hid hbw
     have HON := Lib.hid hown4
     have hq23 : q2 ≤ q3 := by omega
     have hm3 : q3 ≤ s.size := by
      have := gap_le (s.data.toList.drop q2) false
      rw [hg2.out] at this
      have h1 : N2 ≤ s.size - q2 := by simpa using this.1
      omega
     clear hln hbw hown4 hts hq3 hl3
     refine hsk.mono ?_
     rintro e w5 ⟨rfl, rfl⟩
     clear hsk
     go_wp2_with fail
     go_roundw
     case rel => exact ⟨q2, l, f - 1, N2, F2, q3, l3, _, rfl, rfl, HQ3, hq2s, by omega, by rw [HLN.out]; omega, by rw [HLN.out]; exact HON.out, HBW.out, hg2, HX2.out, by omega⟩
     case measure => simp [intOf]; omega
theorem refscan_any (s : ByteArray) (w : World) (hm : s.size ≤ 9223372036854775807) (R : List Tok × Nat × Nat) (hR : Hid (scan s.data.toList = R)) :
  Calls Tryd.prog 15 #[.string s] w (Scanned w R) := by
 by_cases h : 4000 < s.size
 ·exact refscan_long s w h hm R hR
 ·exact refscan_short s w (by omega) R hR
end Go.Proofs.YtchibamdkaejdaaDoor
namespace Go.Proofs.YtchibamdkaejdaaDoor
open Go.RowKit

set_option maxHeartbeats 1600000 in
set_option maxRecDepth 100000 in
theorem scans_any (s : ByteArray) (w : World) (hS : SignsAt w) (hs : s.size ≤ 9223372036854775807) :
  Calls Tryd.prog 7 #[.string s] w fun e w' => e = .returned (.bool true) ∧ Below w.heap.size w w' := by
 obtain ⟨ts, l, er, hR⟩ : ∃ ts l er, Hid (scan s.data.toList = (ts, l, er)) := ⟨_, _, _, Lib.hid rfl⟩
 have h1 := scan_any s w hS hs _ hR
 have H1 := Lib.hid h1
 clear h1
 go_enter Tryd.func7, Tryd.ntmps7
 go_wp2_with fail
 refine H1.out.mono ?_
 rintro e w1 ⟨A, C, rfl, htk, hb1⟩
 dsimp only at htk
 have HTK := Lib.hid htk
 have HB1 := Lib.hid hb1
 clear htk hb1
 go_wp2_with fail
 refine (refscan_any s w1 hs _ hR).mono ?_
 rintro e w2 ⟨A2, C2, rfl, htk2, hb2⟩
 dsimp only at htk2
 have HTK2 := Lib.hid htk2
 have HTK3 := Lib.hid (HTK.out.below hb2 (Nat.le_refl _) hb2.size)
 have HB2 := Lib.hid (HB1.out.trans (hb2.mono HB1.out.size))
 clear htk2 hb2
 have hb1t : ((l : Int) == (l : Int)) = true := by rw [beq_iff_eq]
 have hb2t : ((er : Int) == (er : Int)) = true := by rw [beq_iff_eq]
 go_wp2_with fail
 refine (list_same A A2 C C2 ts w2 _ _ HTK3.out HTK2.out).mono ?_
 rintro e w3 ⟨rfl, hd⟩
 go_wp2_with fail
 go_ret
 exact ⟨rfl, HB2.out.trans ((hd.below w2.heap.size).mono HB2.out.size)⟩
end Go.Proofs.YtchibamdkaejdaaDoor
