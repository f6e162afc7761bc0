/-
  The walk of the law WireCut: whatever the number and the text, no proper beginning of their bytes is read; it returns true and changes nothing that was there. No condition.
-/
import Derived.Test.YtkaekpmpjemmoaaKnown
import Derived.Test.YtkaekpmpjemmoaaBack
namespace Go.Proofs.Ytkaekpmpjemmoaa
set_option linter.unusedVariables false
open Go.RowKit

/-- A proper beginning of a number is short. -/
theorem num_cut (W : Nat) (last : Int) (l : List Int) (a : Nat) (h0 : 0 ≤ last) (h127 : last ≤ 127) : ∀ f i n u k : Nat, i + f + 1 = W → k < (enc u).length → l.drop (a + i) = (enc u).take k → (u : Int) < (last + 1) * 128 ^ f →
    numFrom W last l a (f + 1) i n = (0, 0, 3) := by
  intro f
  induction f with
  | zero =>
    intro i n u k hi hk hd hu
    have hs : u < 128 := by have := hu; simp at this; omega
    rw [enc_small hs] at hd hk
    simp at hk
    subst hk
    simp at hd
    exact num_short hd
  | succ f ih =>
    intro i n u k hi hk hd hu
    cases k with
    | zero =>
      simp at hd
      exact num_short hd
    | succ k =>
      by_cases hs : u < 128
      · rw [enc_small hs] at hk; simp at hk
      · rw [enc_large hs] at hd hk
        rw [List.take_succ_cons] at hd
        obtain ⟨k1, k2, k3⟩ := byteAt_drop hd
        rw [num_next k1 k2 (by omega) (by omega) (by omega)]
        have hpow : (128 : Int) ^ (f + 1) = 128 * 128 ^ f := by rw [Int.pow_succ, Int.mul_comm]
        have hu' : ((u / 128 : Nat) : Int) < (last + 1) * 128 ^ f := by
          rw [hpow, Int.mul_left_comm] at hu
          generalize (last + 1) * 128 ^ f = t at hu ⊢
          omega
        exact ih (i + 1) _ (u / 128) k (by omega) (by simp at hk; omega) (by rw [← Nat.add_assoc]; exact k3) hu'

theorem cut_int (u k : Nat) (hu : u < 18446744073709551616) (hk : k < (enc u).length) : readNum 10 1 ((enc u).take k) 0 = (0, 0, 3) := by
  unfold readNum
  rw [if_neg (by omega)]
  exact num_cut 10 1 _ 0 (by decide) (by decide) 9 0 0 u k rfl hk (by simp) (by omega)
theorem cut_uint (u k : Nat) (hu : u < 9223372036854775808) (hk : k < (enc u).length) : readNum 9 127 ((enc u).take k) 0 = (0, 0, 3) := by
  unfold readNum
  rw [if_neg (by omega)]
  exact num_cut 9 127 _ 0 (by decide) (by decide) 8 0 0 u k rfl hk (by simp) (by omega)
theorem cut_str (xs : List Int) (k : Nat) (hx : xs.length < 9223372036854775808) (hk : k < (enc xs.length ++ xs).length) : readText ((enc xs.length ++ xs).take k) 0 = ([], 0, 3) := by
  unfold readText
  by_cases h : k < (enc xs.length).length
  · rw [List.take_append_of_le_length (by omega), cut_uint _ k hx h]
    simp
  · have hr := read_uint [] (xs.take (k - (enc xs.length).length)) xs.length hx
    rw [List.nil_append] at hr
    rw [List.take_append, List.take_of_length_le (by omega)]
    rw [show ((List.length ([] : List Int) : Nat) : Int) = 0 from rfl] at hr
    rw [hr]
    simp at hk ⊢
    omega

set_option maxHeartbeats 1600000 in
set_option maxRecDepth 100000 in
theorem cut_any (v : Int) (s : ByteArray) (w : World) (h1 : -9223372036854775808 ≤ v) (h2 : v < 9223372036854775808) (hs : s.size ≤ 200) :
    Calls Try.prog 6 #[.int .i64 v, .string s] w fun e w' => e = .returned (.bool true) ∧ Below w.heap.size w w' := by
  have hzb := zig_lt h1 h2
  obtain ⟨r1, hr1⟩ : ∃ r : List Int, Hid (enc (zig v) = r) := ⟨_, Lib.hid rfl⟩
  obtain ⟨r2, hr2⟩ : ∃ r : List Int, Hid (enc s.size ++ strList s = r) := ⟨_, Lib.hid rfl⟩
  have l1 : 1 ≤ r1.length ∧ r1.length ≤ 10 := by rw [← hr1.out]; exact ⟨enc_pos _, enc_len64 hzb⟩
  have l2 : 1 ≤ r2.length ∧ r2.length ≤ 300 := by
    rw [← hr2.out, List.length_append, strList_length]
    have := enc_pos s.size
    have := enc_len64 (n := s.size) (by omega)
    omega
  have y1 : Bytes r1 := by rw [← hr1.out]; exact enc_bytes _
  have y2 : Bytes r2 := by rw [← hr2.out]; exact bytes_append (enc_bytes _) (strList_bytes s)
  have n1 : ∀ k, k < r1.length → readNum 10 1 (r1.take k) 0 = (0, 0, 3) := fun k hk => by
    rw [← hr1.out] at hk ⊢
    exact cut_int _ k hzb hk
  have n2 : ∀ k, k < r2.length → readText (r2.take k) 0 = ([], 0, 3) := fun k hk => by
    rw [← hr2.out] at hk ⊢
    have := cut_str (strList s) k (by rw [strList_length]; omega)
    rw [strList_length] at this
    exact this hk
  have N1 := Lib.hid n1
  have N2 := Lib.hid n2
  clear n1 n2
  go_enter Try.func6, Try.ntmps6
  go_wp2_with fail
  refine (appendInt_any none 0 [] v w (byt_nil _ _) (by simp) h1 h2 r1 (by rw [List.nil_append]; exact hr1)).mono ?_
  rintro e w1 ⟨A1, C1, rfl, o1, b1⟩
  have t1 := Byt.own y1 o1
  go_wp2_with fail
  refine (appendText_any none 0 [] s w1 (byt_nil _ _) (by simp) (by omega) r2 (by rw [List.nil_append]; exact hr2)).mono ?_
  rintro e w2 ⟨A2, C2, rfl, o2, b2⟩
  have t2 := Byt.own y2 o2
  have c2 := b1.trans (b2.mono b1.size)
  have s1 := t1.below b2 (Nat.le_refl _) b2.size
  go_wp2_with fail
  go_loopw [7] (fun i wr => ∃ k : Nat, k ≤ r1.length ∧ i = .int .i64 k ∧ Below w2.heap.size w2 wr) (fun i _ => r1.length - (intOf i).toNat)
  case atStart => exact ⟨0, by omega, rfl, Below.refl _ _⟩
  case round =>
    obtain ⟨k, hk, rfl, hbel⟩ := hrel
    by_cases hlt : k < r1.length
    · have hlen : (r1.take k).length = k := by simp; omega
      have hc := int_code A1 C1 (r1.take k) 0 wr ((s1.head k).below hbel (Nat.le_refl _) hbel.size) (by omega) (by omega) 0 0 3 (N1.out k hlt) 0 (show zag 0 = 0 by decide)
      rw [hlen] at hc
      have hcap : k ≤ C1 := by have := s1.len; omega
      have HC := Lib.hid hc
      clear hc hlen
      go_wp2_with fail
      refine HC.out.mono ?_
      rintro e w3 ⟨rfl, b3⟩
      go_wp2_with fail
      go_roundw
      case rel => exact ⟨k + 1, by omega, by go_num, hbel.trans (b3.mono hbel.size)⟩
      case measure => simp [intOf]; omega
    · have hk1 : k = r1.length := by omega
      subst hk1
      go_wp2_with fail
      have c3 : Below w.heap.size w wr := c2.trans (hbel.mono c2.size)
      go_loopw [11] (fun i wq => ∃ k : Nat, k ≤ r2.length ∧ i = .int .i64 k ∧ Below wr.heap.size wr wq) (fun i _ => r2.length - (intOf i).toNat)
      case atStart => exact ⟨0, by omega, rfl, Below.refl _ _⟩
      case round =>
        obtain ⟨k, hk, rfl, hbel2⟩ := hrel
        by_cases hlt : k < r2.length
        · have hlen : (r2.take k).length = k := by simp; omega
          have hc := text_code A2 C2 (r2.take k) 0 _ (((t2.below hbel (Nat.le_refl _) hbel.size).head k).below hbel2 (Nat.le_refl _) hbel2.size) (by omega) (by omega) [] 0 3 (N2.out k hlt)
          rw [hlen] at hc
          have hcap : k ≤ C2 := by have := t2.len; omega
          have HC := Lib.hid hc
          clear hc hlen
          go_wp2_with fail
          refine HC.out.mono ?_
          rintro e w3 ⟨rfl, b3⟩
          go_wp2_with fail
          go_roundw
          case rel => exact ⟨k + 1, by omega, by go_num, hbel2.trans (b3.mono hbel2.size)⟩
          case measure => simp [intOf]; omega
        · have hk1 : k = r2.length := by omega
          subst hk1
          go_wp2_with fail
          refine (known_any _).mono ?_
          rintro e w7 ⟨rfl, b7⟩
          go_wp2_with fail
          go_ret
          have c4 := c3.trans (hbel2.mono c3.size)
          exact ⟨rfl, c4.trans (b7.mono c4.size)⟩
set_option maxHeartbeats 1600000 in
set_option maxRecDepth 100000 in
theorem cut_long (v : Int) (z s : ByteArray) (w : World) (h1 : -9223372036854775808 ≤ v) (h2 : v < 9223372036854775808) (hz : 200 < z.size) (hzm : z.size ≤ maxLen) (hzs : Hid (z.extract 0 200 = s)) :
    Calls Try.prog 6 #[.int .i64 v, .string z] w fun e w' => e = .returned (.bool true) ∧ Below w.heap.size w w' := by
  unfold maxLen at hzm
  have hs : s.size ≤ 200 := by rw [← hzs.out, ByteArray.size_extract]; omega
  have hzb := zig_lt h1 h2
  obtain ⟨r1, hr1⟩ : ∃ r : List Int, Hid (enc (zig v) = r) := ⟨_, Lib.hid rfl⟩
  obtain ⟨r2, hr2⟩ : ∃ r : List Int, Hid (enc s.size ++ strList s = r) := ⟨_, Lib.hid rfl⟩
  have l1 : 1 ≤ r1.length ∧ r1.length ≤ 10 := by rw [← hr1.out]; exact ⟨enc_pos _, enc_len64 hzb⟩
  have l2 : 1 ≤ r2.length ∧ r2.length ≤ 300 := by
    rw [← hr2.out, List.length_append, strList_length]
    have := enc_pos s.size
    have := enc_len64 (n := s.size) (by omega)
    omega
  have y1 : Bytes r1 := by rw [← hr1.out]; exact enc_bytes _
  have y2 : Bytes r2 := by rw [← hr2.out]; exact bytes_append (enc_bytes _) (strList_bytes s)
  have n1 : ∀ k, k < r1.length → readNum 10 1 (r1.take k) 0 = (0, 0, 3) := fun k hk => by
    rw [← hr1.out] at hk ⊢
    exact cut_int _ k hzb hk
  have n2 : ∀ k, k < r2.length → readText (r2.take k) 0 = ([], 0, 3) := fun k hk => by
    rw [← hr2.out] at hk ⊢
    have := cut_str (strList s) k (by rw [strList_length]; omega)
    rw [strList_length] at this
    exact this hk
  have N1 := Lib.hid n1
  have N2 := Lib.hid n2
  clear n1 n2
  go_enter Try.func6, Try.ntmps6
  go_wp2_with fail
  rw [hzs.out]
  refine (appendInt_any none 0 [] v w (byt_nil _ _) (by simp) h1 h2 r1 (by rw [List.nil_append]; exact hr1)).mono ?_
  rintro e w1 ⟨A1, C1, rfl, o1, b1⟩
  have t1 := Byt.own y1 o1
  go_wp2_with fail
  refine (appendText_any none 0 [] s w1 (byt_nil _ _) (by simp) (by omega) r2 (by rw [List.nil_append]; exact hr2)).mono ?_
  rintro e w2 ⟨A2, C2, rfl, o2, b2⟩
  have t2 := Byt.own y2 o2
  have c2 := b1.trans (b2.mono b1.size)
  have s1 := t1.below b2 (Nat.le_refl _) b2.size
  go_wp2_with fail
  go_loopw [7] (fun i wr => ∃ k : Nat, k ≤ r1.length ∧ i = .int .i64 k ∧ Below w2.heap.size w2 wr) (fun i _ => r1.length - (intOf i).toNat)
  case atStart => exact ⟨0, by omega, rfl, Below.refl _ _⟩
  case round =>
    obtain ⟨k, hk, rfl, hbel⟩ := hrel
    by_cases hlt : k < r1.length
    · have hlen : (r1.take k).length = k := by simp; omega
      have hc := int_code A1 C1 (r1.take k) 0 wr ((s1.head k).below hbel (Nat.le_refl _) hbel.size) (by omega) (by omega) 0 0 3 (N1.out k hlt) 0 (show zag 0 = 0 by decide)
      rw [hlen] at hc
      have hcap : k ≤ C1 := by have := s1.len; omega
      have HC := Lib.hid hc
      clear hc hlen
      go_wp2_with fail
      refine HC.out.mono ?_
      rintro e w3 ⟨rfl, b3⟩
      go_wp2_with fail
      go_roundw
      case rel => exact ⟨k + 1, by omega, by go_num, hbel.trans (b3.mono hbel.size)⟩
      case measure => simp [intOf]; omega
    · have hk1 : k = r1.length := by omega
      subst hk1
      go_wp2_with fail
      have c3 : Below w.heap.size w wr := c2.trans (hbel.mono c2.size)
      go_loopw [11] (fun i wq => ∃ k : Nat, k ≤ r2.length ∧ i = .int .i64 k ∧ Below wr.heap.size wr wq) (fun i _ => r2.length - (intOf i).toNat)
      case atStart => exact ⟨0, by omega, rfl, Below.refl _ _⟩
      case round =>
        obtain ⟨k, hk, rfl, hbel2⟩ := hrel
        by_cases hlt : k < r2.length
        · have hlen : (r2.take k).length = k := by simp; omega
          have hc := text_code A2 C2 (r2.take k) 0 _ (((t2.below hbel (Nat.le_refl _) hbel.size).head k).below hbel2 (Nat.le_refl _) hbel2.size) (by omega) (by omega) [] 0 3 (N2.out k hlt)
          rw [hlen] at hc
          have hcap : k ≤ C2 := by have := t2.len; omega
          have HC := Lib.hid hc
          clear hc hlen
          go_wp2_with fail
          refine HC.out.mono ?_
          rintro e w3 ⟨rfl, b3⟩
          go_wp2_with fail
          go_roundw
          case rel => exact ⟨k + 1, by omega, by go_num, hbel2.trans (b3.mono hbel2.size)⟩
          case measure => simp [intOf]; omega
        · have hk1 : k = r2.length := by omega
          subst hk1
          go_wp2_with fail
          refine (known_any _).mono ?_
          rintro e w7 ⟨rfl, b7⟩
          go_wp2_with fail
          go_ret
          have c4 := c3.trans (hbel2.mono c3.size)
          exact ⟨rfl, c4.trans (b7.mono c4.size)⟩
end Go.Proofs.Ytkaekpmpjemmoaa
