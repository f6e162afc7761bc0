/-
  What a number at a place of a list of bytes is: the plain function that the code's and the specification's readers compute. No condition.
-/
import Derived.Test.YtkaekpmpjemmoaaPure
namespace Go.Proofs.Ytkaekpmpjemmoaa
open Go.RowKit

/-- The byte at a place. -/
def byteAt (l : List Int) (k : Nat) : Int := l[k]?.getD 0
/-- A number of at most W groups, the last possible one at most 'last', of which i groups are read and make n: the number, the next place, the error. -/
def numFrom (W : Nat) (last : Int) (l : List Int) (at_ : Nat) : Nat → Nat → Nat → Nat × Nat × Int
  | 0, _, _ => (0, 0, 0)
  | f + 1, i, n =>
    if l.length ≤ at_ + i then (0, 0, 3)
    else if i + 1 = W ∧ last < byteAt l (at_ + i) then (0, 0, 2)
    else if 0 < i ∧ byteAt l (at_ + i) = 0 then (0, 0, 4)
    else if byteAt l (at_ + i) ≤ 127 then (n + (byteAt l (at_ + i) % 128).toNat * 128 ^ i, at_ + i + 1, 0)
    else numFrom W last l at_ f (i + 1) (n + (byteAt l (at_ + i) % 128).toNat * 128 ^ i)

section
variable {W : Nat} {last : Int} {l : List Int} {at_ f i n : Nat} {x : Int}
theorem num_short (h : l.length ≤ at_ + i) : numFrom W last l at_ (f + 1) i n = (0, 0, 3) := by rw [numFrom, if_pos h]
theorem num_range (h : ¬ l.length ≤ at_ + i) (hx : byteAt l (at_ + i) = x) (h1 : i + 1 = W) (h2 : last < x) : numFrom W last l at_ (f + 1) i n = (0, 0, 2) := by
  rw [numFrom, if_neg h, if_pos ⟨h1, by rw [hx]; exact h2⟩]
theorem num_form (h : ¬ l.length ≤ at_ + i) (hx : byteAt l (at_ + i) = x) (h1 : ¬ (i + 1 = W ∧ last < x)) (h2 : 0 < i) (h3 : x = 0) : numFrom W last l at_ (f + 1) i n = (0, 0, 4) := by
  rw [numFrom, if_neg h, if_neg (by rw [hx]; exact h1), if_pos ⟨h2, by rw [hx]; exact h3⟩]
theorem num_done (h : ¬ l.length ≤ at_ + i) (hx : byteAt l (at_ + i) = x) (h1 : ¬ (i + 1 = W ∧ last < x)) (h2 : ¬ (0 < i ∧ x = 0)) (h3 : x ≤ 127) : numFrom W last l at_ (f + 1) i n = (n + (x % 128).toNat * 128 ^ i, at_ + i + 1, 0) := by
  rw [numFrom, if_neg h, hx, if_neg h1, if_neg h2, if_pos h3]
theorem num_next (h : ¬ l.length ≤ at_ + i) (hx : byteAt l (at_ + i) = x) (h1 : ¬ (i + 1 = W ∧ last < x)) (h2 : ¬ (0 < i ∧ x = 0)) (h3 : ¬ x ≤ 127) : numFrom W last l at_ (f + 1) i n = numFrom W last l at_ f (i + 1) (n + (x % 128).toNat * 128 ^ i) := by
  rw [numFrom, if_neg h, hx, if_neg h1, if_neg h2, if_neg h3]
end

theorem pow_le9 {i : Nat} (h : i ≤ 9) : 128 ^ i ≤ 9223372036854775808 := by
  have := Nat.pow_le_pow_right (n := 128) (by decide) h
  have e : 128 ^ 9 = 9223372036854775808 := by decide
  omega
theorem pow_le8 {i : Nat} (h : i ≤ 8) : 128 ^ i ≤ 72057594037927936 := by
  have := Nat.pow_le_pow_right (n := 128) (by decide) h
  have e : 128 ^ 8 = 72057594037927936 := by decide
  omega
/-- A further group: it stands above those that are read, and the number still fits. -/
theorem group_fits {n i d : Nat} (hn : n < 128 ^ i) (hd : d ≤ 127) (hi : i ≤ 8 ∨ (i = 9 ∧ d ≤ 1)) : d * 128 ^ i < 18446744073709551616 ∧ n + d * 128 ^ i < 18446744073709551616 ∧ n + d * 128 ^ i < 128 ^ (i + 1) := by
  have h1 : n + d * 128 ^ i < 128 ^ (i + 1) := by
    have := Nat.mul_le_mul_right (128 ^ i) hd
    rw [Nat.pow_succ]; omega
  rcases hi with hi | ⟨rfl, hd⟩
  · have := pow_le8 hi
    have := Nat.mul_le_mul hd this
    omega
  · have e : 128 ^ 9 = 9223372036854775808 := by decide
    rw [e] at hn h1 ⊢
    omega
theorem or_group {n i d : Nat} (hn : n < 128 ^ i) (hb : n < 18446744073709551616) (h1 : d * 128 ^ i < 18446744073709551616) : bits .or .u64 (n : Int) ((d * 128 ^ i : Nat) : Int) = ((n + d * 128 ^ i : Nat) : Int) := by
  rw [u64_or_nat _ _ hb h1, Nat.or_comm, nat_join (7 * i) _ _ (by rw [show (2 : Nat) ^ (7 * i) = 128 ^ i from by rw [Nat.pow_mul]]; exact Nat.mul_mod_left _ _) (by rw [show (2 : Nat) ^ (7 * i) = 128 ^ i from by rw [Nat.pow_mul]]; exact hn), Nat.add_comm]
theorem group_value {m j : Nat} {x : Int} (hm : m < 128 ^ j) (hx : 0 ≤ x ∧ x ≤ 255) (hi : j ≤ 8 ∨ (j = 9 ∧ x ≤ 1)) :
    bits .or .u64 (m : Int) (IntKind.u64.wrap (IntKind.u64.wrap (bits .and .u8 x 127) * 2 ^ (7 * j))) = ((m + (x % 128).toNat * 128 ^ j : Nat) : Int) := by
  have hp := pow_le9 (i := j) (by omega)
  obtain ⟨f1, f2, _⟩ := group_fits (d := (x % 128).toNat) hm (by omega) (by omega)
  have e1 : bits .and .u8 x 127 = (((x % 128).toNat : Nat) : Int) := by
    have h : bits .and .u8 x 127 = x % 128 := bits_mask .u8 8 (by decide) wraps_u8 7 (by decide) x hx.1 (by omega)
    omega
  have e2 : IntKind.u64.wrap (((x % 128).toNat : Nat) : Int) = (((x % 128).toNat : Nat) : Int) := by rw [IntKind.wrap_u64]; omega
  have e3 : (2 : Int) ^ (7 * j) = ((128 ^ j : Nat) : Int) := by
    rw [Int.pow_mul]
    norm_cast
  rw [e1, e2, e3, ← Int.natCast_mul, IntKind.wrap_u64, Int.emod_eq_of_lt (by omega) (by omega)]
  exact or_group hm (by omega) f1
theorem group_value' {m j : Nat} {x : Int} (hm : m < 128 ^ j) (hx : 0 ≤ x ∧ x ≤ 255) (hi : j ≤ 8 ∨ (j = 9 ∧ x ≤ 1)) :
    bits .or .u64 (m : Int) (IntKind.u64.wrap (x % 128 * 2 ^ (7 * j))) = ((m + (x % 128).toNat * 128 ^ j : Nat) : Int) := by
  rw [← group_value hm hx hi]
  have h : bits .and .u8 x 127 = x % 128 := bits_mask .u8 8 (by decide) wraps_u8 7 (by decide) x hx.1 (by omega)
  have e2 : IntKind.u64.wrap (x % 128) = x % 128 := by rw [IntKind.wrap_u64]; omega
  rw [h, e2]
theorem triple {N k N' k' : Nat} {E E' : Int} (h : (N, k, E) = (N', k', E')) : N = N' ∧ k = k' ∧ E = E' := by
  injection h with h1 h2
  injection h2 with h2 h3
  exact ⟨h1, h2, h3⟩
theorem ret_num {a b : Int} {k : Int} {a' b' k' : Int} (h1 : a = a') (h2 : b = b') (h3 : k = k') : Ending.returned (.tuple #[.int .u64 a, .int .i64 b, .int .i64 k]) = Ending.returned (.tuple #[.int .u64 a', .int .i64 b', .int .i64 k']) := by rw [h1, h2, h3]

/-- Wherever a reading ends: the number fits, and without an error the next place lies behind the first one and within the bytes. -/
theorem num_facts (W : Nat) (last : Int) (l : List Int) (a : Nat) (hl : Bytes l) (hlast : last ≤ 127) (hW : W ≤ 9 ∨ (W = 10 ∧ last ≤ 1)) : ∀ f i n, i + f = W → n < 128 ^ i → n < 18446744073709551616 →
    (numFrom W last l a f i n).1 < 18446744073709551616 ∧ (W ≤ 9 → (numFrom W last l a f i n).1 < 9223372036854775808) ∧ ((numFrom W last l a f i n).2.2 = 0 → 0 < f → a < (numFrom W last l a f i n).2.1 ∧ (numFrom W last l a f i n).2.1 ≤ l.length) := by
  intro f
  induction f with
  | zero => intro i n _ _ _; simp [numFrom]
  | succ f ih =>
    intro i n hi hn hb
    have hx := hl (a + i)
    by_cases h1 : l.length ≤ a + i
    · rw [num_short h1]; simp
    by_cases h2 : i + 1 = W ∧ last < byteAt l (a + i)
    · rw [num_range h1 rfl h2.1 h2.2]; simp
    by_cases h3 : 0 < i ∧ byteAt l (a + i) = 0
    · rw [num_form h1 rfl h2 h3.1 h3.2]; simp
    have hx2 : 0 ≤ byteAt l (a + i) ∧ byteAt l (a + i) ≤ 255 := hx
    obtain ⟨g1, g2, g3⟩ := group_fits (n := n) (i := i) (d := (byteAt l (a + i) % 128).toNat) hn (by omega) (by omega)
    by_cases h4 : byteAt l (a + i) ≤ 127
    · rw [num_done h1 rfl h2 h3 h4]
      refine ⟨g2, fun h9 => ?_, fun _ _ => ⟨by simp; omega, by simp; omega⟩⟩
      have := pow_le9 (i := i + 1) (by omega)
      simp only
      omega
    · rw [num_next h1 rfl h2 h3 h4]
      have hf : f ≠ 0 := by
        rintro rfl
        exact h2 ⟨by omega, by omega⟩
      obtain ⟨r1, r2, r3⟩ := ih (i + 1) _ (by omega) g3 g2
      exact ⟨r1, r2, fun h0 _ => r3 h0 (by omega)⟩

/-- A number at any place, whether or not it is one of the bytes. -/
def readNum (W : Nat) (last : Int) (l : List Int) (a : Int) : Nat × Nat × Int := if a < 0 ∨ (l.length : Int) < a then (0, 0, 1) else numFrom W last l a.toNat W 0 0
/-- What Int makes of the number that it reads. -/
def zag (n : Nat) : Int := if n % 2 = 1 then -((n / 2 : Nat) : Int) - 1 else ((n / 2 : Nat) : Int)
theorem zag_zig {v : Int} : zag (zig v) = v := by unfold zag zig; split <;> split <;> omega
theorem ret_i64 {a b : Int} {k : Int} {a' b' k' : Int} (h1 : a = a') (h2 : b = b') (h3 : k = k') : Ending.returned (.tuple #[.int .i64 a, .int .i64 b, .int .i64 k]) = Ending.returned (.tuple #[.int .i64 a', .int .i64 b', .int .i64 k']) := by rw [h1, h2, h3]
theorem and1 (n : Nat) (h : n < 18446744073709551616) : bits .and .u64 (n : Int) 1 = ((n % 2 : Nat) : Int) := by
  have := u64_and_nat n 1 h (by decide)
  rw [nat_mask1] at this
  exact this
theorem zag_odd {n : Nat} (h : n < 18446744073709551616) (ho : n % 2 = 1) : bits .xor .i64 (-1) ((n : Int) / 2) = zag n := by
  rw [not_i64 _ (by omega) (by omega)]; unfold zag; rw [if_pos ho]; omega
theorem zag_odd' {n : Nat} (h : n < 18446744073709551616) (ho : n % 2 = 1) : wrap64 (bits .xor .u64 IntKind.u64.max ((n : Int) / 2)) = zag n := by
  rw [not_u64 _ (by omega) (by omega)]; unfold zag wrap64; rw [if_pos ho]; omega
theorem zag_even {n : Nat} (ho : ¬ n % 2 = 1) : ((n : Int) / 2) = zag n := by unfold zag; rw [if_neg ho]; omega
/-- The text of a list of bytes. -/
def str (xs : List Int) : ByteArray := xs.foldl (fun r n => r.push (UInt8.ofNat n.toNat)) ByteArray.empty
/-- A text at any place: its bytes, the next place, the error. -/
def readText (l : List Int) (a : Int) : List Int × Nat × Int :=
  if (readNum 9 127 l a).2.2 ≠ 0 then ([], 0, (readNum 9 127 l a).2.2)
  else if l.length < (readNum 9 127 l a).2.1 + (readNum 9 127 l a).1 then ([], 0, 3)
  else ((l.drop (readNum 9 127 l a).2.1).take (readNum 9 127 l a).1, (readNum 9 127 l a).2.1 + (readNum 9 127 l a).1, 0)
theorem readNum_facts (W : Nat) (last : Int) (l : List Int) (a : Int) (hl : Bytes l) (hlast : last ≤ 127) (hW0 : 1 ≤ W) (hW : W ≤ 9 ∨ (W = 10 ∧ last ≤ 1)) {N k : Nat} {E : Int} (h : readNum W last l a = (N, k, E)) :
    N < 18446744073709551616 ∧ (W ≤ 9 → N < 9223372036854775808) ∧ (E = 0 → k ≤ l.length) := by
  unfold readNum at h
  split at h
  · obtain ⟨rfl, rfl, rfl⟩ := triple h; simp
  · have := num_facts W last l a.toNat hl hlast hW W 0 0 (by omega) (by decide) (by decide)
    rw [h] at this
    exact ⟨this.1, this.2.1, fun h0 => (this.2.2 h0 hW0).2⟩
end Go.Proofs.Ytkaekpmpjemmoaa
