/-
  The walk of the law WireWrites: whatever the bytes, the number and the text, it returns true and changes nothing that was there. No condition.
-/
import Derived.Test.YtkaekpmpjemmoaaKnown
namespace Go.Proofs.Ytkaekpmpjemmoaa
open Go.RowKit

theorem writes_any (A : Option Addr) (c : Nat) (l : List Int) (v : Int) (s : ByteArray) (w : World) (hb : Byt w w.heap.size A c l) (hs : s.size ≤ maxLen) (h1 : -9223372036854775808 ≤ v) (h2 : v < 9223372036854775808) :
    Calls Try.prog 3 #[.slice A l.length c, .int .i64 v, .string s] w fun e w' => e = .returned (.bool true) ∧ Below w.heap.size w w' := by
  have hmax : l.length ≤ 9223372036854775807 := by have := hb.len; have := hb.cap; unfold maxLen at this; omega
  unfold maxLen at hs
  by_cases hl : 300 < l.length
  · go_enter Try.func3, Try.ntmps3
    go_wp2_with (go_at_call 11; refine (known_any w).mono ?_; rintro e w1 ⟨rfl, hb1⟩)
    go_ret
    exact ⟨rfl, hb1⟩
  by_cases hs5 : 500 < s.size
  · go_enter Try.func3, Try.ntmps3
    go_wp2_with (go_at_call 11; refine (known_any w).mono ?_; rintro e w1 ⟨rfl, hb1⟩)
    go_ret
    exact ⟨rfl, hb1⟩
  obtain ⟨r1, hr1⟩ : ∃ r, Hid (uintOn l v = r) := ⟨_, rfl⟩
  obtain ⟨r2, hr2⟩ : ∃ r, Hid (l ++ enc (zig v) = r) := ⟨_, rfl⟩
  obtain ⟨r3, hr3⟩ : ∃ r, Hid (l ++ enc s.size ++ strList s = r) := ⟨_, rfl⟩
  have y1 : Bytes r1 := by rw [← hr1.out]; exact uintOn_bytes hb.range v
  have y2 : Bytes r2 := by rw [← hr2.out]; exact bytes_append hb.range (enc_bytes _)
  have y3 : Bytes r3 := by rw [← hr3.out]; exact bytes_append (bytes_append hb.range (enc_bytes _)) (strList_bytes s)
  go_enter Try.func3, Try.ntmps3
  go_wp2_with fail
  refine (appendUint_any A c l v w hb (by omega) h2 r1 hr1).mono ?_
  rintro e w1 ⟨A1, C1, rfl, o1, b1⟩
  have t1 := Byt.own y1 o1
  go_wp2_with fail
  refine (refUint_any A c l v w1 (hb.below b1 (Nat.le_refl _) b1.size) (by omega) h2 r1 hr1).mono ?_
  rintro e w2 ⟨A2, C2, rfl, o2, b2⟩
  have t2 := Byt.own y1 o2
  have c2 : Below w.heap.size w w2 := b1.trans (b2.mono b1.size)
  go_wp2_with fail
  refine (list_same A1 A2 C1 C2 r1 w2 _ _ (t1.below b2 (Nat.le_refl _) b2.size) t2 _ _ rfl rfl).mono ?_
  rintro e w3 ⟨rfl, d3⟩
  have c3 : Below w.heap.size w w3 := c2.trans (d3.below _)
  go_wp2_with fail
  refine (appendInt_any A c l v w3 (hb.below c3 (Nat.le_refl _) c3.size) (by omega) h1 h2 r2 hr2).mono ?_
  rintro e w4 ⟨A4, C4, rfl, o4, b4⟩
  have t4 := Byt.own y2 o4
  have c4 : Below w.heap.size w w4 := c3.trans (b4.mono c3.size)
  go_wp2_with fail
  refine (refInt_any A c l v w4 (hb.below c4 (Nat.le_refl _) c4.size) (by omega) h1 h2 r2 hr2).mono ?_
  rintro e w5 ⟨A5, C5, rfl, o5, b5⟩
  have t5 := Byt.own y2 o5
  have c5 : Below w.heap.size w w5 := c4.trans (b5.mono c4.size)
  go_wp2_with fail
  refine (list_same A4 A5 C4 C5 r2 w5 _ _ (t4.below b5 (Nat.le_refl _) b5.size) t5 _ _ rfl rfl).mono ?_
  rintro e w6 ⟨rfl, d6⟩
  have c6 : Below w.heap.size w w6 := c5.trans (d6.below _)
  go_wp2_with fail
  refine (appendText_any A c l s w6 (hb.below c6 (Nat.le_refl _) c6.size) (by omega) (by omega) r3 hr3).mono ?_
  rintro e w7 ⟨A7, C7, rfl, o7, b7⟩
  have t7 := Byt.own y3 o7
  have c7 : Below w.heap.size w w7 := c6.trans (b7.mono c6.size)
  go_wp2_with fail
  refine (refText_any A c l s w7 (hb.below c7 (Nat.le_refl _) c7.size) (by omega) (by omega) r3 hr3).mono ?_
  rintro e w8 ⟨A8, C8, rfl, o8, b8⟩
  have t8 := Byt.own y3 o8
  have c8 : Below w.heap.size w w8 := c7.trans (b8.mono c7.size)
  go_wp2_with fail
  refine (list_same A7 A8 C7 C8 r3 w8 _ _ (t7.below b8 (Nat.le_refl _) b8.size) t8 _ _ rfl rfl).mono ?_
  rintro e w9 ⟨rfl, d9⟩
  have c9 : Below w.heap.size w w9 := c8.trans (d9.below _)
  go_wp2_with fail
  refine (known_any w9).mono ?_
  rintro e w10 ⟨rfl, b10⟩
  have c10 : Below w.heap.size w w10 := c9.trans (b10.mono c9.size)
  go_wp2_with fail
  go_ret
  exact ⟨rfl, c10⟩
end Go.Proofs.Ytkaekpmpjemmoaa
