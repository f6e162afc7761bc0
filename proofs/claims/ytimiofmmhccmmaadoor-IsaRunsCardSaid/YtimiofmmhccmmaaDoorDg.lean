/-
  What the specification's Digits returns: the decimal text. Condition: a number of 64 bits.
-/
import Derived.Test.YtimiofmmhccmmaaDoorPure
import Derived.Test.YtimiofmmhccmmaaDoorRows
import Derived.Lib.Hide
import Derived.Lib.ItoaNum
import Derived.Laws.BytesArg
import Derived.IntWalk
namespace Go.Proofs.YtimiofmmhccmmaaDoor
open Go.RowKit

/-- A text out of bytes. -/
def bs (l : List UInt8) : ByteArray := ⟨l.toArray⟩
theorem bs_append (a b : List UInt8) : bs a ++ bs b = bs (a ++ b) := by
  have h : (bs a ++ bs b).data = (bs (a ++ b)).data := by
    rw [ByteArray.data_append]
    simp [bs]
  obtain ⟨d⟩ : ∃ d, d = bs a ++ bs b := ⟨_, rfl⟩
  exact ByteArray.ext h
/-- One byte as a text. -/
theorem one_byte (n : Nat) : strOfNums [48 + (n : Int)] = bs [UInt8.ofNat (48 + n)] := by
  apply ByteArray.ext
  apply Array.ext'
  have h : (strOfNums [48 + (n : Int)]).data.toList = [UInt8.ofNat (48 + (n : Int)).toNat] := by simp [strOfNums]
  rw [h, show (48 + (n : Int)).toNat = 48 + n by omega]
  rfl
theorem bs_size (l : List UInt8) : (bs l).size = l.length := by simp [bs, ByteArray.size]
theorem dec_len : ∀ (k n : Nat), 1 ≤ k → n < 10 ^ k → (Lib.decDigits n).length ≤ k
  | 0, _, h, _ => by omega
  | k + 1, n, _, h => by
    rw [Lib.decDigits]
    by_cases h10 : n < 10
    · rw [dif_pos h10]
      simp
    · rw [dif_neg h10]
      have hk : 1 ≤ k := by
        rcases Nat.eq_zero_or_pos k with h0 | h0
        · subst h0; simp at h; omega
        · exact h0
      have := dec_len k (n / 10) hk (by rw [Nat.div_lt_iff_lt_mul (by decide)]; rw [Nat.pow_succ] at h; exact h)
      simp
      omega
theorem conv_one (w : World) (x : Int) (b : Nat) (hc : w.cell? ⟨b, 0, none⟩ = some (.int .u8 x)) : (convert 80 9 (.slice (some ⟨b, 0, none⟩) 1 1)).run Tryd.prog w = .ok (.string (strOfNums [x])) w :=
  run_convert_bytes_arg (P := Tryd.prog) w 80 5 Tryd.underlying80 Tryd.underlying5 b 0 1 1 [x] rfl (fun i hi => by
    obtain rfl : i = 0 := by omega
    exact hc) 9 Tryd.underlying9
/-- A call that returns a text, and makes memory at most. -/
def GivesT (w : World) (l : List UInt8) (e : Ending) (w' : World) : Prop := e = .returned (.string (bs l)) ∧ Below w.heap.size w w'
set_option maxRecDepth 100000 in
theorem dig_one (n : Nat) (w : World) (hn : n < 10) : Calls Tryd.prog 34 #[.int .i64 n] w (GivesT w [UInt8.ofNat (48 + n)]) := by
  have hconv := conv_one (w.alloc (.cells #[.int .u8 (48 + (n : Int))] 5)) (48 + (n : Int)) w.heap.size (by rw [World.cell?_alloc_at _ _ _ _ rfl]; rfl)
  rw [one_byte n] at hconv
  obtain ⟨s, hs⟩ : ∃ s, Hid (bs [UInt8.ofNat (48 + n)] = s) := ⟨_, Lib.hid rfl⟩
  rw [hs.out] at hconv
  unfold GivesT
  rw [hs.out]
  go_enter Tryd.func34, Tryd.ntmps34
  go_wp2_with fail
  go_ret
  exact ⟨rfl, (Below.refl _ _).alloc (Nat.le_refl _) _⟩
set_option maxRecDepth 100000 in
theorem dig_nat (k : Nat) : ∀ (n : Nat) (w : World), 1 ≤ k → k ≤ 19 → n < 10 ^ k → n < 9223372036854775808 → Calls Tryd.prog 34 #[.int .i64 n] w (GivesT w (Lib.decDigits n)) := by
  induction k with
  | zero => intro n w h; omega
  | succ k ih =>
    intro n w _ hk hn hmax
    by_cases h10 : n < 10
    · rw [Lib.decDigits_one h10]
      exact dig_one n w h10
    · have hk1 : 1 ≤ k := by
        rcases Nat.eq_zero_or_pos k with h0 | h0
        · subst h0; simp at hn; omega
        · exact h0
      have H1 := Lib.hid (show n / 10 < 10 ^ k by rw [Nat.div_lt_iff_lt_mul (by decide)]; rw [Nat.pow_succ] at hn; exact hn)
      have H2 := Lib.hid (show n % 10 < 10 by omega)
      have HD := Lib.hid (show Lib.decDigits n = Lib.decDigits (n / 10) ++ [UInt8.ofNat (48 + n % 10)] by rw [Lib.decDigits, dif_neg h10])
      have h10' : 10 ≤ n := by omega
      clear hn h10
      go_enter Tryd.func34, Tryd.ntmps34
      go_wp2_with fail
      refine (ih (n / 10) _ hk1 (by omega) H1.out (by omega)).mono ?_
      rintro e w1 ⟨rfl, hb1⟩
      obtain ⟨s1, hs1⟩ : ∃ s, Hid (bs (Lib.decDigits (n / 10)) = s) := ⟨_, Lib.hid rfl⟩
      have z1 : s1.size ≤ 19 := by rw [← hs1.out, bs_size]; have := dec_len k (n / 10) hk1 H1.out; omega
      rw [hs1.out]
      go_wp2_with fail
      refine (dig_one (n % 10) _ H2.out).mono ?_
      rintro e w2 ⟨rfl, hb2⟩
      obtain ⟨s2, hs2⟩ : ∃ s, Hid (bs [UInt8.ofNat (48 + n % 10)] = s) := ⟨_, Lib.hid rfl⟩
      have z2 : s2.size ≤ 1 := by rw [← hs2.out, bs_size]; simp
      rw [hs2.out]
      go_wp2_with fail
      go_ret
      exact ⟨by rw [HD.out, ← bs_append, hs1.out, hs2.out]; rfl, hb1.trans (hb2.mono hb1.size)⟩
set_option maxRecDepth 100000 in
theorem digits_any (n : Int) (hn : I64 n) (w : World) : Calls Tryd.prog 34 #[.int .i64 n] w (GivesT w (Lib.itoa n)) := by
  obtain ⟨h0, h1⟩ := hn
  by_cases hneg : n < 0
  · by_cases hmin : n = -9223372036854775808
    · subst hmin
      have he : Lib.itoa (-9223372036854775808) = [45, 57, 50, 50, 51, 51, 55, 50, 48, 51, 54, 56, 53, 52, 55, 55, 53, 56, 48, 56] := by
        rw [Lib.itoa, if_pos (by decide)]
        rw [show (-9223372036854775808 : Int).natAbs = 9223372036854775808 from rfl]
        congr 1
        iterate 18 (rw [Lib.decDigits, dif_neg (by decide)])
        rw [Lib.decDigits_one (by decide)]
        decide
      rw [he]
      go_enter Tryd.func34, Tryd.ntmps34
      go_wp2_with fail
      go_ret
      exact ⟨rfl, Below.refl _ _⟩
    · obtain ⟨m, hm⟩ : ∃ m : Nat, n = -(m : Int) := ⟨n.natAbs, by omega⟩
      subst hm
      have he : Lib.itoa (-(m : Int)) = 45 :: Lib.decDigits m := by
        unfold Lib.itoa
        rw [if_pos hneg]
        simp
      rw [he]
      have hq : ((-(m : Int)) == -9223372036854775808) = false := by simpa using hmin
      have HW := Lib.hid (show wrap64 (m : Int) = m from IntWalk.wrap64_in _ ⟨by omega, by omega⟩)
      have HM := Lib.hid (show m < 9223372036854775808 by omega)
      have H19 := Lib.hid (Nat.lt_of_lt_of_le HM.out (show 9223372036854775808 ≤ 10 ^ 19 by decide))
      clear hmin he
      go_enter Tryd.func34, Tryd.ntmps34
      go_wp2_with fail
      rw [HW.out]
      refine (dig_nat 19 m _ (by decide) (by decide) H19.out HM.out).mono ?_
      rintro e w1 ⟨rfl, hb1⟩
      obtain ⟨s1, hs1⟩ : ∃ s, Hid (bs (Lib.decDigits m) = s) := ⟨_, Lib.hid rfl⟩
      have z1 : s1.size ≤ 19 := by rw [← hs1.out, bs_size]; exact dec_len 19 m (by decide) H19.out
      rw [hs1.out]
      go_wp2_with fail
      go_ret
      exact ⟨by rw [show (45 : UInt8) :: Lib.decDigits m = [45] ++ Lib.decDigits m from rfl, ← bs_append, hs1.out]; rfl, hb1⟩
  · obtain ⟨m, rfl⟩ := Int.eq_ofNat_of_zero_le (show 0 ≤ n by omega)
    have he : Lib.itoa (m : Int) = Lib.decDigits m := by
      unfold Lib.itoa
      rw [if_neg hneg]
      simp
    rw [he]
    exact dig_nat 19 m w (by decide) (by decide) (by omega) (by omega)
end Go.Proofs.YtimiofmmhccmmaaDoor
