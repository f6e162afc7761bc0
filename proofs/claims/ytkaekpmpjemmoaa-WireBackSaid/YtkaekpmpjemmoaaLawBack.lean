/-
  The walk of the law WireBack: whatever the bytes ahead, the number, the text and the bytes behind, it returns true and changes nothing that was there. No condition.
-/
import Derived.Test.YtkaekpmpjemmoaaKnown
import Derived.Test.YtkaekpmpjemmoaaBack
namespace Go.Proofs.Ytkaekpmpjemmoaa
set_option linter.unusedVariables false
open Go.RowKit

set_option maxHeartbeats 1600000 in
theorem back_any (A D : Option Addr) (c d : Nat) (l m : List Int) (v : Int) (s : ByteArray) (w : World) (hb : Byt w w.heap.size A c l) (hm : Byt w w.heap.size D d m) (h1 : -9223372036854775808 ≤ v) (h2 : v < 9223372036854775808)
    (hl : l.length ≤ 300) (hs : s.size ≤ 500) (hml : m.length ≤ 300) :
    Calls Try.prog 5 #[.slice A l.length c, .int .i64 v, .string s, .slice D m.length d] w fun e w' => e = .returned (.bool true) ∧ Below w.heap.size w w' := by
  obtain ⟨i0, hi, hz0, hz1, hz2⟩ := info_parts u8info
  obtain ⟨u, hu⟩ : ∃ u : Nat, Hid (v % 9223372036854775808 = (u : Int)) := ⟨(v % 9223372036854775808).toNat, show _ = _ by omega⟩
  have hub : u < 9223372036854775808 := by have := hu.out; omega
  have hand : bits .and .i64 v 9223372036854775807 = (u : Int) := by rw [and63 v]; exact hu.out
  have hzb := zig_lt h1 h2
  obtain ⟨r1, hr1⟩ : ∃ r, Hid (l ++ enc u = r) := ⟨_, rfl⟩
  obtain ⟨r2, hr2⟩ : ∃ r, Hid (l ++ enc (zig v) = r) := ⟨_, rfl⟩
  obtain ⟨r3, hr3⟩ : ∃ r, Hid (l ++ enc s.size ++ strList s = r) := ⟨_, rfl⟩
  have l1 : r1.length ≤ 310 := by rw [← hr1.out, List.length_append]; have := enc_len63 hub; omega
  have l2 : r2.length ≤ 310 := by rw [← hr2.out, List.length_append]; have := enc_len64 hzb; omega
  have l3 : r3.length ≤ 810 := by rw [← hr3.out, List.length_append, List.length_append, strList_length]; have := enc_len64 (n := s.size) (by omega); omega
  obtain ⟨q1, hq1⟩ : ∃ q, Hid (r1 ++ m = q) := ⟨_, rfl⟩
  obtain ⟨q2, hq2⟩ : ∃ q, Hid (r2 ++ m = q) := ⟨_, rfl⟩
  obtain ⟨q3, hq3⟩ : ∃ q, Hid (r3 ++ m = q) := ⟨_, rfl⟩
  have y1 : Bytes q1 := by rw [← hq1.out, ← hr1.out]; exact bytes_append (bytes_append hb.range (enc_bytes _)) hm.range
  have y2 : Bytes q2 := by rw [← hq2.out, ← hr2.out]; exact bytes_append (bytes_append hb.range (enc_bytes _)) hm.range
  have y3 : Bytes q3 := by rw [← hq3.out, ← hr3.out]; exact bytes_append (bytes_append (bytes_append hb.range (enc_bytes _)) (strList_bytes s)) hm.range
  have n1 : Hid (readNum 9 127 q1 l.length = (u, r1.length, 0)) := by
    show readNum 9 127 q1 l.length = _
    rw [← hq1.out, ← hr1.out, read_uint l m u hub, List.length_append]
  have n2 : Hid (readNum 10 1 q2 l.length = (zig v, r2.length, 0)) := by
    show readNum 10 1 q2 l.length = _
    rw [← hq2.out, ← hr2.out, read_int l m _ hzb, List.length_append]
  have n3 : Hid (readText q3 l.length = (strList s, r3.length, 0)) := by
    show readText q3 l.length = _
    rw [← hq3.out, ← hr3.out]
    have := read_text l m (strList s) (by rw [strList_length]; omega)
    rwa [strList_length] at this
  have e1 : r1.length + m.length = q1.length := by rw [← hq1.out, List.length_append]
  have e2 : r2.length + m.length = q2.length := by rw [← hq2.out, List.length_append]
  have e3 : r3.length + m.length = q3.length := by rw [← hq3.out, List.length_append]
  have E1 := Lib.hid e1
  have E2 := Lib.hid e2
  have E3 := Lib.hid e3
  have d1 : ((r1.length : Int) == (q1.length : Int) - (m.length : Int)) = true := by rw [beq_iff_eq]; omega
  have d2 : ((r2.length : Int) == (q2.length : Int) - (m.length : Int)) = true := by rw [beq_iff_eq]; omega
  have d3 : ((r3.length : Int) == (q3.length : Int) - (m.length : Int)) = true := by rw [beq_iff_eq]; omega
  have D1 := Lib.hid d1
  have D2 := Lib.hid d2
  have D3 := Lib.hid d3
  have q1b : q1.length ≤ 1000000 := by omega
  have q2b : q2.length ≤ 1000000 := by omega
  have q3b : q3.length ≤ 1000000 := by omega
  have HS : Hid (str (strList s) = s) := str_strList s
  clear e1 e2 e3 d1 d2 d3
  go_enter Try.func5, Try.ntmps5
  go_wp2_with fail
  refine (appendUint_pos A c l u w hb (by omega) hub r1 hr1).mono ?_
  rintro e w1 ⟨A1, C1, rfl, o1, b1⟩
  have c1 : Below w.heap.size w w1 := b1
  go_wp2_with (at_builtin; refine wpList_append_byt rfl _ _ 22 rfl w.heap.size 5 i0 Try.underlying22 hi hz0 hz1 hz2 _ r1.length (vals r1) rfl o1 w.heap.size D d m rfl (hm.keep (Nat.le_refl _) fun p hp => c1.cell hp) (by omega) b1.size ?_; intro v2 w2 o2 g2; have b2 : Below w.heap.size w1 w2 := (Below.refl _ _).grown g2 b1.size (fun j hj => (o1.lt j hj).1); rw [E1.out, ← vals_append, hq1.out] at o2; obtain ⟨A2, C2, rfl⟩ := own_form o2; clear g2)
  have c2 : Below w.heap.size w w2 := c1.trans (b2.mono (Nat.le_refl _))
  have t2 := Byt.own y1 o2
  go_wp2_with fail
  refine (appendInt_any A c l v w2 (hb.below c2 (Nat.le_refl _) c2.size) (by omega) h1 h2 r2 hr2).mono ?_
  rintro e w3 ⟨A3, C3, rfl, o3, b3⟩
  have c3 : Below w.heap.size w w3 := c2.trans (b3.mono c2.size)
  go_wp2_with (at_builtin; refine wpList_append_byt rfl _ _ 22 rfl w2.heap.size 5 i0 Try.underlying22 hi hz0 hz1 hz2 _ r2.length (vals r2) rfl o3 w.heap.size D d m rfl (hm.keep (Nat.le_refl _) fun p hp => c3.cell hp) (by omega) b3.size ?_; intro v4 w4 o4 g4; have b4 : Below w2.heap.size w3 w4 := (Below.refl _ _).grown g4 b3.size (fun j hj => (o3.lt j hj).1); rw [E2.out, ← vals_append, hq2.out] at o4; obtain ⟨A4, C4, rfl⟩ := own_form o4; clear g4)
  have c4 : Below w.heap.size w w4 := c3.trans (b4.mono c2.size)
  have t4 := Byt.own y2 o4
  have s2' := (t2.below (b3.trans b4) (Nat.le_refl _) (b3.trans b4).size)
  go_wp2_with fail
  refine (appendText_any A c l s w4 (hb.below c4 (Nat.le_refl _) c4.size) (by omega) (by omega) r3 hr3).mono ?_
  rintro e w5 ⟨A5, C5, rfl, o5, b5⟩
  have c5 : Below w.heap.size w w5 := c4.trans (b5.mono c4.size)
  go_wp2_with (at_builtin; refine wpList_append_byt rfl _ _ 22 rfl w4.heap.size 5 i0 Try.underlying22 hi hz0 hz1 hz2 _ r3.length (vals r3) rfl o5 w.heap.size D d m rfl (hm.keep (Nat.le_refl _) fun p hp => c5.cell hp) (by omega) b5.size ?_; intro v6 w6 o6 g6; have b6 : Below w4.heap.size w5 w6 := (Below.refl _ _).grown g6 b5.size (fun j hj => (o5.lt j hj).1); rw [E3.out, ← vals_append, hq3.out] at o6; obtain ⟨A6, C6, rfl⟩ := own_form o6; clear g6)
  have c6 : Below w.heap.size w w6 := c5.trans (b6.mono c4.size)
  have t6 := Byt.own y3 o6
  have s4 := t4.below (b5.trans b6) (Nat.le_refl _) (b5.trans b6).size
  have s3 := s2'.below ((b5.trans b6)) (Nat.le_refl _) (b5.trans b6).size
  go_wp2_with fail
  refine (uint_code A2 C2 q1 l.length w6 s3 (by omega) (by omega) u r1.length 0 n1).mono ?_
  rintro e w7 ⟨rfl, b7⟩
  have c7 := c6.trans (b7.mono c6.size)
  go_wp2_with fail
  refine (int_code A4 C4 q2 l.length w7 (s4.below b7 (Nat.le_refl _) b7.size) (by omega) (by omega) (zig v) r2.length 0 n2 v zag_zig).mono ?_
  rintro e w8 ⟨rfl, b8⟩
  have c8 := c7.trans (b8.mono c7.size)
  go_wp2_with fail
  refine (text_code A6 C6 q3 l.length w8 (t6.below (b7.trans (b8.mono b7.size)) (Nat.le_refl _) (b7.trans (b8.mono b7.size)).size) (by omega) (by omega) (strList s) r3.length 0 n3).mono ?_
  rw [HS.out]
  rintro e w9 ⟨rfl, b9⟩
  have c9 := c8.trans (b9.mono c8.size)
  have x1 := D1.out
  have x2 := D2.out
  have x3 := D3.out
  go_wp2_with fail
  refine (known_any w9).mono ?_
  rintro e w10 ⟨rfl, b10⟩
  have c10 := c9.trans (b10.mono c9.size)
  go_wp2_with fail
  go_ret
  exact ⟨rfl, c10⟩

theorem back_out1 (A D : Option Addr) (c d : Nat) (l m : List Int) (v : Int) (s : ByteArray) (w : World) (hl0 : l.length ≤ maxLen) (hs0 : s.size ≤ maxLen) (hm0 : m.length ≤ maxLen) (h1 : 300 < l.length) :
    Calls Try.prog 5 #[.slice A l.length c, .int .i64 v, .string s, .slice D m.length d] w fun e w' => e = .returned (.bool true) ∧ Below w.heap.size w w' := by
  unfold maxLen at hl0 hs0 hm0
  go_enter Try.func5, Try.ntmps5
  go_wp2_with (go_at_call 11; refine (known_any w).mono ?_; rintro e w1 ⟨rfl, hb1⟩)
  go_ret
  exact ⟨rfl, hb1⟩

theorem back_out2 (A D : Option Addr) (c d : Nat) (l m : List Int) (v : Int) (s : ByteArray) (w : World) (hl0 : l.length ≤ maxLen) (hs0 : s.size ≤ maxLen) (hm0 : m.length ≤ maxLen) (h1 : l.length ≤ 300) (h2 : 500 < s.size) :
    Calls Try.prog 5 #[.slice A l.length c, .int .i64 v, .string s, .slice D m.length d] w fun e w' => e = .returned (.bool true) ∧ Below w.heap.size w w' := by
  unfold maxLen at hl0 hs0 hm0
  go_enter Try.func5, Try.ntmps5
  go_wp2_with (go_at_call 11; refine (known_any w).mono ?_; rintro e w1 ⟨rfl, hb1⟩)
  go_ret
  exact ⟨rfl, hb1⟩

theorem back_out3 (A D : Option Addr) (c d : Nat) (l m : List Int) (v : Int) (s : ByteArray) (w : World) (hl0 : l.length ≤ maxLen) (hs0 : s.size ≤ maxLen) (hm0 : m.length ≤ maxLen) (h1 : l.length ≤ 300) (h2 : s.size ≤ 500) (h3 : 300 < m.length) :
    Calls Try.prog 5 #[.slice A l.length c, .int .i64 v, .string s, .slice D m.length d] w fun e w' => e = .returned (.bool true) ∧ Below w.heap.size w w' := by
  unfold maxLen at hl0 hs0 hm0
  go_enter Try.func5, Try.ntmps5
  go_wp2_with (go_at_call 11; refine (known_any w).mono ?_; rintro e w1 ⟨rfl, hb1⟩)
  go_ret
  exact ⟨rfl, hb1⟩

end Go.Proofs.Ytkaekpmpjemmoaa
