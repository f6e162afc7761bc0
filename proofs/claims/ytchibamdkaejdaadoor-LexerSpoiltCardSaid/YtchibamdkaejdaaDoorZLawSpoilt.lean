/-
  The walk of the law LexerSpoilt, given what Text does with any row that Short returns. Condition: the package's variable holds the signs. The walk of the law LexerSpoilt, given what Text does with any row that Short returns: a byte changed (how = 0). Condition: the package's variable holds the signs. The walk of the law LexerSpoilt, given what Text does with any row that Short returns: a byte inserted (how = 1). Condition: the package's variable holds the signs.
-/
import Derived.Test.YtchibamdkaejdaaDoorZA
import Derived.Test.YtchibamdkaejdaaDoorZRf
import Derived.Test.YtchibamdkaejdaaDoorZLx
import Derived.Test.YtchibamdkaejdaaDoorZBa
import Derived.BigQuiet
import Derived.BigRegion
namespace Go.Proofs.YtchibamdkaejdaaDoor
open Go.RowKit

theorem belowN {B : Nat} {a w : World} (h : Below B a w) (n : Nat) : Below B a (w.drewN n) := ⟨h.os, h.tape, h.output, h.size, h.block⟩
theorem cut_hi (t : ByteArray) (i : Nat) (h : i ≤ t.size) : (t.extract 0 i).size ≤ t.size := by simp; omega
theorem cut_lo (t : ByteArray) (i : Nat) : (t.extract i t.size).size ≤ t.size := by simp

set_option maxHeartbeats 1600000 in
set_option maxRecDepth 100000 in
theorem spoilt_cut (A : Option Addr) (l c : Nat) (atn how b : Int) (w : World) (hS : SignsAt w) (hl : l ≤ c) (hc : c ≤ 9223372036854775807) (ha : atn < 9223372036854775808) (hh : how < 9223372036854775808)
  (hcase : Hid (how % 3 = 2)) 
  (hT : ∀ w1, Below w.heap.size w w1 → ∀ l' c', l' ≤ 200 → l' ≤ l → (l' ≤ c' ∧ c' ≤ 9223372036854775807) → Calls Tryd.prog 8 #[.slice A l' c'] w1 (Str w1 1000000000)) :
  Calls Tryd.prog 4 #[.slice A l c, .int .i64 atn, .int .i64 how, .int .u8 b] w fun e w' => e = .returned (.bool true) ∧ Below w.heap.size w w' := by
 have HT := Lib.hid hT
 clear hT
 go_enter Tryd.func4, Tryd.ntmps4
 go_wp2_with fail
 refine (short_any A l c w hl hc).mono ?_
 rintro e w2 ⟨rfl, l', c', rfl, h200, hll, hlc⟩
 go_wp2_with fail
 refine (HT.out w2 (Below.refl _ _) l' c' h200 hll hlc).mono ?_
 rintro e w3 ⟨t, rfl, ht, hb3⟩
 have HB3 := Lib.hid hb3
 clear hb3
 go_wp2_with fail
 obtain ⟨i, hi⟩ : ∃ i : Nat, atn % ((t.size : Int) + 1) = (i : Int) := ⟨(atn % ((t.size : Int) + 1)).toNat, by have := Int.emod_nonneg atn (show ((t.size : Int) + 1) ≠ 0 by omega); omega⟩
 have hit : i ≤ t.size := by have := Int.emod_lt_of_pos atn (show 0 < ((t.size : Int) + 1) by omega); omega
 refine (modb_any atn ((t.size : Int) + 1) w3 ha (by omega) (by omega) _ (Lib.hid hi)).mono ?_
 rintro e w4 ⟨rfl, rfl⟩
 go_wp2_with fail
 all_goals
  refine (modb_any how 3 w3 hh (by omega) (by omega) _ hcase).mono ?_
  rintro e w5 ⟨rfl, rfl⟩
  go_wp2_with fail
  go_quiet (fail)
  go_wp2_with fail
  have HB4 := Lib.hid (belowN HB3.out nq)
  refine (scans_any _ _ (hS.below HB4.out hS.lt) ?_).mono ?_
  ·simp only [ByteArray.size_append, ByteArray.size_extract]; omega
  rintro e w6 ⟨rfl, hb6⟩
  have HB6 := Lib.hid (HB4.out.trans (hb6.mono HB4.out.size))
  clear hb6
  go_wp2_with fail
  refine (known_any w6 (hS.below HB6.out hS.lt)).mono ?_
  rintro e w7 ⟨rfl, hb7⟩
  have HB7 := Lib.hid (HB6.out.trans (hb7.mono HB6.out.size))
  clear hb7
  go_wp2_with fail
  go_ret
  exact ⟨rfl, HB7.out⟩
end Go.Proofs.YtchibamdkaejdaaDoor
namespace Go.Proofs.YtchibamdkaejdaaDoor
open Go.RowKit

theorem below_drew {B : Nat} {a w : World} (h : Below B a w) : Below B a w.drew := ⟨h.os, h.tape, h.output, h.size, h.block⟩

set_option maxHeartbeats 1600000 in
set_option maxRecDepth 100000 in
theorem spoilt_set (A : Option Addr) (l c : Nat) (atn how b : Int) (w : World) (hS : SignsAt w) (hl : l ≤ c) (hc : c ≤ 9223372036854775807) (ha : atn < 9223372036854775808) (hh : how < 9223372036854775808)
  (hcase : Hid (how % 3 = 0))
  (hT : ∀ w1, Below w.heap.size w w1 → ∀ l' c', l' ≤ 200 → l' ≤ l → (l' ≤ c' ∧ c' ≤ 9223372036854775807) → Calls Tryd.prog 8 #[.slice A l' c'] w1 (Str w1 1000000000)) :
  Calls Tryd.prog 4 #[.slice A l c, .int .i64 atn, .int .i64 how, .int .u8 b] w fun e w' => e = .returned (.bool true) ∧ Below w.heap.size w w' := by
 have HT := Lib.hid hT
 clear hT
 go_enter Tryd.func4, Tryd.ntmps4
 go_wp2_with fail
 refine (short_any A l c w hl hc).mono ?_
 rintro e w2 ⟨rfl, l', c', rfl, h200, hll, hlc⟩
 go_wp2_with fail
 refine (HT.out w2 (Below.refl _ _) l' c' h200 hll hlc).mono ?_
 rintro e w3 ⟨t, rfl, ht, hb3⟩
 have HB3 := Lib.hid hb3
 clear hb3
 go_wp2_with fail
 obtain ⟨i, hi⟩ : ∃ i : Nat, atn % ((t.size : Int) + 1) = (i : Int) := ⟨(atn % ((t.size : Int) + 1)).toNat, by have := Int.emod_nonneg atn (show ((t.size : Int) + 1) ≠ 0 by omega); omega⟩
 have hit : i ≤ t.size := by have := Int.emod_lt_of_pos atn (show 0 < ((t.size : Int) + 1) by omega); omega
 refine (modb_any atn ((t.size : Int) + 1) w3 ha (by omega) (by omega) _ (Lib.hid hi)).mono ?_
 rintro e w4 ⟨rfl, rfl⟩
 go_wp2_with fail
 all_goals
  refine (modb_any how 3 w3 hh (by omega) (by omega) _ hcase).mono ?_
  rintro e w5 ⟨rfl, rfl⟩
  go_wp2_with fail
  obtain ⟨u, hu⟩ : ∃ u, Hid (oneByte b = u) := ⟨_, Lib.hid rfl⟩
  have hus : u.size = 1 := by rw [← hu.out]; exact oneByte_size _
  have hconv : (convert 29 9 (.slice (some ⟨w3.heap.size, 0, none⟩) 1 1)).run Tryd.prog (w3.alloc (.cells #[.int .u8 b] 5)).drew = .ok (.string (oneByte b)) (w3.alloc (.cells #[.int .u8 b] 5)).drew := conv_one _ b w3.heap.size (by show (w3.alloc _).cell? ⟨w3.heap.size, 0, none⟩ = _; rw [World.cell?_alloc_at _ _ _ _ rfl]; rfl)
  rw [hu.out] at hconv
  go_region
  go_wp2_with fail
  have HB4 := Lib.hid (below_drew (HB3.out.alloc HB3.out.size (.cells #[.int .u8 b] 5)))
  refine (scans_any _ _ (hS.below HB4.out hS.lt) ?_).mono ?_
  ·simp only [ByteArray.size_append, ByteArray.size_extract]; omega
  rintro e w6 ⟨rfl, hb6⟩
  have HB6 := Lib.hid (HB4.out.trans (hb6.mono HB4.out.size))
  clear hb6
  go_wp2_with fail
  refine (known_any w6 (hS.below HB6.out hS.lt)).mono ?_
  rintro e w7 ⟨rfl, hb7⟩
  have HB7 := Lib.hid (HB6.out.trans (hb7.mono HB6.out.size))
  clear hb7
  go_wp2_with fail
  go_ret
  exact ⟨rfl, HB7.out⟩
end Go.Proofs.YtchibamdkaejdaaDoor
namespace Go.Proofs.YtchibamdkaejdaaDoor
open Go.RowKit

set_option maxHeartbeats 1600000 in
set_option maxRecDepth 100000 in
theorem spoilt_put (A : Option Addr) (l c : Nat) (atn how b : Int) (w : World) (hS : SignsAt w) (hl : l ≤ c) (hc : c ≤ 9223372036854775807) (ha : atn < 9223372036854775808) (hh : how < 9223372036854775808)
  (hcase : Hid (how % 3 = 1))
  (hT : ∀ w1, Below w.heap.size w w1 → ∀ l' c', l' ≤ 200 → l' ≤ l → (l' ≤ c' ∧ c' ≤ 9223372036854775807) → Calls Tryd.prog 8 #[.slice A l' c'] w1 (Str w1 1000000000)) :
  Calls Tryd.prog 4 #[.slice A l c, .int .i64 atn, .int .i64 how, .int .u8 b] w fun e w' => e = .returned (.bool true) ∧ Below w.heap.size w w' := by
 have HT := Lib.hid hT
 clear hT
 go_enter Tryd.func4, Tryd.ntmps4
 go_wp2_with fail
 refine (short_any A l c w hl hc).mono ?_
 rintro e w2 ⟨rfl, l', c', rfl, h200, hll, hlc⟩
 go_wp2_with fail
 refine (HT.out w2 (Below.refl _ _) l' c' h200 hll hlc).mono ?_
 rintro e w3 ⟨t, rfl, ht, hb3⟩
 have HB3 := Lib.hid hb3
 clear hb3
 go_wp2_with fail
 obtain ⟨i, hi⟩ : ∃ i : Nat, atn % ((t.size : Int) + 1) = (i : Int) := ⟨(atn % ((t.size : Int) + 1)).toNat, by have := Int.emod_nonneg atn (show ((t.size : Int) + 1) ≠ 0 by omega); omega⟩
 have hit : i ≤ t.size := by have := Int.emod_lt_of_pos atn (show 0 < ((t.size : Int) + 1) by omega); omega
 refine (modb_any atn ((t.size : Int) + 1) w3 ha (by omega) (by omega) _ (Lib.hid hi)).mono ?_
 rintro e w4 ⟨rfl, rfl⟩
 go_wp2_with fail
 all_goals
  refine (modb_any how 3 w3 hh (by omega) (by omega) _ hcase).mono ?_
  rintro e w5 ⟨rfl, rfl⟩
  go_wp2_with fail
  obtain ⟨u, hu⟩ : ∃ u, Hid (oneByte b = u) := ⟨_, Lib.hid rfl⟩
  have hus : u.size = 1 := by rw [← hu.out]; exact oneByte_size _
  have hconv : (convert 29 9 (.slice (some ⟨w3.heap.size, 0, none⟩) 1 1)).run Tryd.prog (w3.alloc (.cells #[.int .u8 b] 5)).drew = .ok (.string (oneByte b)) (w3.alloc (.cells #[.int .u8 b] 5)).drew := conv_one _ b w3.heap.size (by show (w3.alloc _).cell? ⟨w3.heap.size, 0, none⟩ = _; rw [World.cell?_alloc_at _ _ _ _ rfl]; rfl)
  rw [hu.out] at hconv
  go_region
  go_wp2_with fail
  have HB4 := Lib.hid (below_drew (HB3.out.alloc HB3.out.size (.cells #[.int .u8 b] 5)))
  refine (scans_any _ _ (hS.below HB4.out hS.lt) ?_).mono ?_
  ·simp only [ByteArray.size_append, ByteArray.size_extract]; omega
  rintro e w6 ⟨rfl, hb6⟩
  have HB6 := Lib.hid (HB4.out.trans (hb6.mono HB4.out.size))
  clear hb6
  go_wp2_with fail
  refine (known_any w6 (hS.below HB6.out hS.lt)).mono ?_
  rintro e w7 ⟨rfl, hb7⟩
  have HB7 := Lib.hid (HB6.out.trans (hb7.mono HB6.out.size))
  clear hb7
  go_wp2_with fail
  go_ret
  exact ⟨rfl, HB7.out⟩

theorem spoilt_any (A : Option Addr) (l c : Nat) (atn how b : Int) (w : World) (hS : SignsAt w) (hl : l ≤ c) (hc : c ≤ 9223372036854775807) (ha : atn < 9223372036854775808) (hh : how < 9223372036854775808)
  (hT : ∀ w1, Below w.heap.size w w1 → ∀ l' c', l' ≤ 200 → l' ≤ l → (l' ≤ c' ∧ c' ≤ 9223372036854775807) → Calls Tryd.prog 8 #[.slice A l' c'] w1 (Str w1 1000000000)) :
  Calls Tryd.prog 4 #[.slice A l c, .int .i64 atn, .int .i64 how, .int .u8 b] w fun e w' => e = .returned (.bool true) ∧ Below w.heap.size w w' := by
 have h3 : how % 3 = 0 ∨ how % 3 = 1 ∨ how % 3 = 2 := by omega
 rcases h3 with h | h | h
 ·exact spoilt_set A l c atn how b w hS hl hc ha hh (Lib.hid h) hT
 ·exact spoilt_put A l c atn how b w hS hl hc ha hh (Lib.hid h) hT
 ·exact spoilt_cut A l c atn how b w hS hl hc ha hh (Lib.hid h) hT
end Go.Proofs.YtchibamdkaejdaaDoor
