/-
  The walk of the statements' sanity check: the tokens of a short text. Condition: the package's variable holds the signs.
-/
import Derived.Test.YtbkmpamcelphgaaDoorScan
namespace Go.Proofs.YtbkmpamcelphgaaDoor
open Go.RowKit

theorem scan_any (s : ByteArray) (w : World) (hS : SignsAt w) (hs : s.size ≤ 9223372036854775807) (R : List Tok × Nat × Nat) (hR : Hid (scan s.data.toList = R)) :
    Calls Tryd.prog 15 #[.string s] w (Scanned w R) := by
  by_cases h : 4000 < s.size
  · exact scan_long s w h hs R hR
  · exact scan_short s w hS (by omega) R hR

theorem scan_example : scan [120, 49, 32, 60, 61, 32, 48, 55] = ([⟨1, 1, [120, 49], 0⟩, ⟨4, 1, [60, 61], 0⟩, ⟨2, 1, [], 7⟩, ⟨0, 1, [], 0⟩], 0, 0) := by decide

set_option maxRecDepth 100000 in
theorem known_any (w : World) (hS : SignsAt w) : Calls Tryd.prog 13 #[] w fun e w' => e = .returned (.bool true) ∧ Below w.heap.size w w' := by
  have HR : Hid (scan (⟨#[120, 49, 32, 60, 61, 32, 48, 55]⟩ : ByteArray).data.toList = ([⟨1, 1, [120, 49], 0⟩, ⟨4, 1, [60, 61], 0⟩, ⟨2, 1, [], 7⟩, ⟨0, 1, [], 0⟩], 0, 0)) := Lib.hid scan_example
  go_enter Tryd.func13, Tryd.ntmps13
  go_wp2_with fail
  refine (scan_any ⟨#[120, 49, 32, 60, 61, 32, 48, 55]⟩ w hS (by decide) _ HR).mono ?_
  rintro e w1 ⟨A, C, rfl, ht, hb⟩
  obtain ⟨b, rfl, hbl, hc⟩ := ht.at_ (by simp)
  have hlen : 4 ≤ C := ht.len
  have hcap : C ≤ 9223372036854775807 := by have := ht.cap; unfold maxLen at this; omega
  obtain ⟨a0, a1, a2, a3⟩ := hc 0 _ rfl
  obtain ⟨b0, b1, b2, b3⟩ := hc 1 _ rfl
  obtain ⟨c0, c1, c2, c3⟩ := hc 2 _ rfl
  obtain ⟨d0, d1, d2, d3⟩ := hc 3 _ rfl
  clear hc ht HR
  simp only [Nat.zero_mul, Nat.zero_add, Nat.one_mul, Nat.reduceMul, Nat.reduceAdd] at a0 a1 a2 a3 b0 b1 b2 b3 c0 c1 c2 c3 d0 d1 d2 d3
  go_wp2_with fail
  go_ret
  exact ⟨rfl, hb⟩
end Go.Proofs.YtbkmpamcelphgaaDoor
