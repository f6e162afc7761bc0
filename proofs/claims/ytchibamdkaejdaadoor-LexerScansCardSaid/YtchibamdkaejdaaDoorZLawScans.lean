/-
  The walk of the law LexerScans, given what Text does with any row that Short returns. Condition: the package's variable holds the signs; the text's size is an int.
-/
import Derived.Test.YtchibamdkaejdaaDoorZA
import Derived.Test.YtchibamdkaejdaaDoorZRf
import Derived.Test.YtchibamdkaejdaaDoorZLx
import Derived.Test.YtchibamdkaejdaaDoorZBa
namespace Go.Proofs.YtchibamdkaejdaaDoor
open Go.RowKit

set_option maxHeartbeats 1600000 in
set_option maxRecDepth 100000 in
theorem scanslaw_any (s : ByteArray) (A : Option Addr) (l c : Nat) (w : World) (hS : SignsAt w) (hs : s.size ≤ 9223372036854775807) (hl : l ≤ c) (hc : c ≤ 9223372036854775807)
  (hT : ∀ w1, Below w.heap.size w w1 → ∀ l' c', l' ≤ 200 → l' ≤ l → (l' ≤ c' ∧ c' ≤ 9223372036854775807) → Calls Tryd.prog 8 #[.slice A l' c'] w1 (Str w1 1000000000)) :
  Calls Tryd.prog 3 #[.string s, .slice A l c] w fun e w' => e = .returned (.bool true) ∧ Below w.heap.size w w' := by
 have HT := Lib.hid hT
 clear hT
 have tail : ∀ s' : ByteArray, s'.size ≤ 9223372036854775807 → Calls Tryd.prog 7 #[.string s'] w fun e w' => e = .returned (.bool true) ∧ Below w.heap.size w w' := fun s' h' => scans_any s' w hS h'
 have TAIL := Lib.hid tail
 clear tail
 by_cases h : 5000 < s.size
 ·have hq : decide ((5000 : Int) < (s.size : Int)) = true := by simp; omega
  go_enter Tryd.func3, Tryd.ntmps3
  go_wp2_with fail
  refine (TAIL.out _ ?_).mono ?_
  ·simp; omega
  rintro e w1 ⟨rfl, hb1⟩
  go_wp2_with fail
  refine (short_any A l c w1 hl hc).mono ?_
  rintro e w2 ⟨rfl, l', c', rfl, h200, hll, hlc⟩
  go_wp2_with fail
  refine (HT.out w2 hb1 l' c' h200 hll hlc).mono ?_
  rintro e w3 ⟨t, rfl, ht, hb3⟩
  have HB3 := Lib.hid (hb1.trans (hb3.mono hb1.size))
  clear hb3
  go_wp2_with fail
  refine (scans_any t w3 (hS.below HB3.out hS.lt) (by omega)).mono ?_
  rintro e w4 ⟨rfl, hb4⟩
  have HB4 := Lib.hid (HB3.out.trans (hb4.mono HB3.out.size))
  clear hb4
  go_wp2_with fail
  refine (known_any w4 (hS.below HB4.out hS.lt)).mono ?_
  rintro e w5 ⟨rfl, hb5⟩
  have HB5 := Lib.hid (HB4.out.trans (hb5.mono HB4.out.size))
  clear hb5
  go_wp2_with fail
  go_ret
  exact ⟨rfl, HB5.out⟩
 ·have hq : decide ((5000 : Int) < (s.size : Int)) = false := by simp; omega
  go_enter Tryd.func3, Tryd.ntmps3
  go_wp2_with fail
  refine (TAIL.out _ hs).mono ?_
  rintro e w1 ⟨rfl, hb1⟩
  go_wp2_with fail
  refine (short_any A l c w1 hl hc).mono ?_
  rintro e w2 ⟨rfl, l', c', rfl, h200, hll, hlc⟩
  go_wp2_with fail
  refine (HT.out w2 hb1 l' c' h200 hll hlc).mono ?_
  rintro e w3 ⟨t, rfl, ht, hb3⟩
  have HB3 := Lib.hid (hb1.trans (hb3.mono hb1.size))
  clear hb3
  go_wp2_with fail
  refine (scans_any t w3 (hS.below HB3.out hS.lt) (by omega)).mono ?_
  rintro e w4 ⟨rfl, hb4⟩
  have HB4 := Lib.hid (HB3.out.trans (hb4.mono HB3.out.size))
  clear hb4
  go_wp2_with fail
  refine (known_any w4 (hS.below HB4.out hS.lt)).mono ?_
  rintro e w5 ⟨rfl, hb5⟩
  have HB5 := Lib.hid (HB4.out.trans (hb5.mono HB4.out.size))
  clear hb5
  go_wp2_with fail
  go_ret
  exact ⟨rfl, HB5.out⟩
end Go.Proofs.YtchibamdkaejdaaDoor
