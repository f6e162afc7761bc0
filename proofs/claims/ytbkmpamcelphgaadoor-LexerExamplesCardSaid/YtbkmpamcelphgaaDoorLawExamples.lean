/-
  The walk of the law LexerExamples: it returns true and changes nothing that was there. Condition: the package's variable holds the signs.
-/
import Derived.Test.YtbkmpamcelphgaaDoorKnown
namespace Go.Proofs.YtbkmpamcelphgaaDoor
open Go.RowKit

theorem scan_1 : scan [119, 104, 105, 108, 101, 115, 32, 119, 104, 105, 108, 101, 60, 61, 61, 33, 61, 47, 47, 120, 10, 33, 57, 32] = ([⟨1, 1, [119, 104, 105, 108, 101, 115], 0⟩, ⟨3, 1, [119, 104, 105, 108, 101], 0⟩, ⟨4, 1, [60, 61], 0⟩, ⟨4, 1, [61], 0⟩, ⟨4, 1, [33, 61], 0⟩, ⟨4, 2, [33], 0⟩, ⟨2, 2, [], 9⟩, ⟨0, 2, [], 0⟩], 0, 0) := by decide
theorem scan_2 : scan [97, 10, 10, 36] = ([], 3, 6) := by decide
theorem scan_3 : scan [49, 10, 50, 120] = ([], 2, 6) := by decide

set_option maxHeartbeats 1600000 in
set_option maxRecDepth 1000000 in
theorem examples_any (w : World) (hS : SignsAt w) : Calls Tryd.prog 9 #[] w fun e w' => e = .returned (.bool true) ∧ Below w.heap.size w w' := by
  have HS := Lib.hid hS
  have hlt := hS.lt
  have HR1 : Hid (scan (⟨#[119, 104, 105, 108, 101, 115, 32, 119, 104, 105, 108, 101, 60, 61, 61, 33, 61, 47, 47, 120, 10, 33, 57, 32]⟩ : ByteArray).data.toList = ([⟨1, 1, [119, 104, 105, 108, 101, 115], 0⟩, ⟨3, 1, [119, 104, 105, 108, 101], 0⟩, ⟨4, 1, [60, 61], 0⟩, ⟨4, 1, [61], 0⟩, ⟨4, 1, [33, 61], 0⟩, ⟨4, 2, [33], 0⟩, ⟨2, 2, [], 9⟩, ⟨0, 2, [], 0⟩], 0, 0)) := Lib.hid scan_1
  have HR2 : Hid (scan (⟨#[97, 10, 10, 36]⟩ : ByteArray).data.toList = ([], 3, 6)) := Lib.hid scan_2
  have HR3 : Hid (scan (⟨#[49, 10, 50, 120]⟩ : ByteArray).data.toList = ([], 2, 6)) := Lib.hid scan_3
  clear hS
  go_enter Tryd.func9, Tryd.ntmps9
  go_wp2_with fail
  refine (scan_any ⟨#[119, 104, 105, 108, 101, 115, 32, 119, 104, 105, 108, 101, 60, 61, 61, 33, 61, 47, 47, 120, 10, 33, 57, 32]⟩ w HS.out (by decide) _ HR1).mono ?_
  rintro e w1 ⟨A, C, rfl, ht, hb⟩
  have HT := Lib.hid ht
  have HS1 := Lib.hid (HS.out.below hb hlt)
  have hz1 := hb.size
  clear ht
  go_wp2_with fail
  refine (scan_any ⟨#[97, 10, 10, 36]⟩ w1 HS1.out (by decide) _ HR2).mono ?_
  rintro e w2 ⟨A2, C2, rfl, _, hb2⟩
  have HS2 := Lib.hid (HS1.out.below hb2 (by omega))
  have hz2 := hb2.size
  have HB2 := Lib.hid (hb.trans (hb2.mono hz1))
  go_wp2_with fail
  refine (scan_any ⟨#[49, 10, 50, 120]⟩ w2 HS2.out (by decide) _ HR3).mono ?_
  rintro e w3 ⟨A3, C3, rfl, _, hb3⟩
  have hz3 := hb3.size
  have HB3 := Lib.hid (HB2.out.trans (hb3.mono (by omega)))
  have HS3 := Lib.hid (HS2.out.below hb3 (by omega))
  have ht := (HT.out.below hb2 (Nat.le_refl _) hz2).below hb3 (Nat.le_refl _) hz3
  obtain ⟨b, rfl, hbl, hc⟩ := ht.at_ (by simp)
  have hlen : 8 ≤ C := ht.len
  have hcap : C ≤ 9223372036854775807 := by have := ht.cap; unfold maxLen at this; omega
  obtain ⟨a0, b0, c0, d0⟩ := hc 0 _ rfl
  obtain ⟨a1, b1, c1, d1⟩ := hc 1 _ rfl
  obtain ⟨a2, b2, c2, d2⟩ := hc 2 _ rfl
  obtain ⟨a3, b3, c3, d3⟩ := hc 3 _ rfl
  obtain ⟨a4, b4, c4, d4⟩ := hc 4 _ rfl
  obtain ⟨a5, b5, c5, d5⟩ := hc 5 _ rfl
  obtain ⟨a6, b6, c6, d6⟩ := hc 6 _ rfl
  obtain ⟨a7, b7, c7, d7⟩ := hc 7 _ rfl
  clear hc ht HT HR1 HR2 HR3 hb hb2 hb3
  simp only [Nat.zero_mul, Nat.zero_add, Nat.one_mul, Nat.reduceMul, Nat.reduceAdd] at a0 b0 c0 d0 a1 b1 c1 d1 a2 b2 c2 d2 a3 b3 c3 d3 a4 b4 c4 d4 a5 b5 c5 d5 a6 b6 c6 d6 a7 b7 c7 d7
  go_wp2_with (go_at_call 13; refine (known_any w3 HS3.out).mono ?_; rintro e w4 ⟨rfl, hb4⟩)
  go_ret
  exact ⟨rfl, HB3.out.trans (hb4.mono (by omega))⟩
end Go.Proofs.YtbkmpamcelphgaaDoor
