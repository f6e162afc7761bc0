/-
  Numbers in groups of seven bits: the plain functions that the code and the specification of the wire layer compute, and their laws. No condition.
-/
import Derived.Test.YtkaekpmpjemmoaaWords
namespace Go.Proofs.Ytkaekpmpjemmoaa

/-- A number's groups, the lowest first. -/
def enc (n : Nat) : List Int := if n < 128 then [(n : Int)] else ((n : Int) % 128 + 128) :: enc (n / 128)
termination_by n
decreasing_by omega

theorem enc_small {n : Nat} (h : n < 128) : enc n = [(n : Int)] := by rw [enc, if_pos h]
theorem enc_large {n : Nat} (h : ¬ n < 128) : enc n = ((n : Int) % 128 + 128) :: enc (n / 128) := by rw [enc, if_neg h]
theorem enc_pos (n : Nat) : 1 ≤ (enc n).length := by
  by_cases h : n < 128
  · rw [enc_small h]; simp
  · rw [enc_large h]; simp
theorem enc_bytes (n : Nat) : Bytes (enc n) := by
  induction n using Nat.strongRecOn with
  | ind n ih =>
    by_cases h : n < 128
    · rw [enc_small h]; exact bytes_cons ⟨by omega, by omega⟩ bytes_nil
    · rw [enc_large h]; exact bytes_cons ⟨by omega, by omega⟩ (ih _ (by omega))
theorem enc_len (k : Nat) : ∀ n : Nat, n < 128 ^ (k + 1) → (enc n).length ≤ k + 1 := by
  induction k with
  | zero => intro n h; rw [enc_small (by simpa using h)]; simp
  | succ k ih =>
    intro n h
    by_cases hs : n < 128
    · rw [enc_small hs]; simp
    · rw [enc_large hs]
      have := ih (n / 128) (by rw [Nat.pow_succ] at h; omega)
      simp; omega
theorem enc_len64 {n : Nat} (h : n < 18446744073709551616) : (enc n).length ≤ 10 := enc_len 9 n (by omega)
theorem enc_len63 {n : Nat} (h : n < 9223372036854775808) : (enc n).length ≤ 9 := enc_len 8 n (by omega)

theorem or128_nat : ∀ a : Nat, a < 256 → a ||| 128 = a % 128 + 128 := by decide +kernel
/-- byte(n) | 128 -/
theorem or128 (n : Nat) : bits .or .u8 ((n : Int) % 256) 128 = (n : Int) % 128 + 128 := by
  have h : bits .or .u8 (((n % 256 : Nat)) : Int) ((128 : Nat) : Int) = (((n % 256) ||| 128 : Nat) : Int) := u8_or_nat _ _ (by omega) (by omega)
  rw [or128_nat _ (by omega)] at h
  have e : ((n : Int) % 256) = ((n % 256 : Nat) : Int) := by omega
  rw [e]
  refine h.trans ?_
  omega
theorem vals_append (l m : List Int) : vals (l ++ m) = vals l ++ vals m := by simp [vals]
theorem enc_step {xs : List Int} {N : Nat} {full : List Int} (h : xs ++ enc N = full) (hN : ¬ N ≤ 127) : (xs ++ [(N : Int) % 128 + 128]) ++ enc (N / 128) = full := by
  rw [← h, enc_large (n := N) (by omega), List.append_assoc]; rfl
theorem enc_room {xs : List Int} {N : Nat} {full : List Int} (h : xs ++ enc N = full) : xs.length + 1 ≤ full.length := by
  rw [← h, List.length_append]
  have := enc_pos N
  omega

/-- What AppendInt writes of v: 2v from 0 on, -2v - 1 below. -/
def zig (v : Int) : Nat := if 0 ≤ v then (2 * v).toNat else (-2 * v - 1).toNat
theorem zig_lt {v : Int} (h1 : -9223372036854775808 ≤ v) (h2 : v < 9223372036854775808) : zig v < 18446744073709551616 := by unfold zig; split <;> omega
/-- A string's bytes. -/
def strList (s : ByteArray) : List Int := s.data.toList.map fun b => (b.toNat : Int)
theorem strList_length (s : ByteArray) : (strList s).length = s.size := by
  rw [strList, List.length_map, Array.length_toList]; rfl
theorem strList_vals (s : ByteArray) : Lib.strCells s = vals (strList s) := by simp [Lib.strCells, vals, strList]
theorem strList_bytes (s : ByteArray) : Bytes (strList s) := bytes_mem fun x hx => by
  obtain ⟨b, _, rfl⟩ := List.mem_map.1 hx
  have := b.toNat_lt
  omega

/-- ^u of a uint64, and of an int. -/
theorem not_u64 (x : Int) (h0 : 0 ≤ x) (h1 : x < 18446744073709551616) : bits .xor .u64 IntKind.u64.max x = 18446744073709551615 - x := by
  have e : BitVec.ofInt 64 (IntKind.u64.max) = BitVec.allOnes 64 := by decide
  show IntKind.u64.wrap (((BitVec.ofInt 64 IntKind.u64.max) ^^^ (BitVec.ofInt 64 x)).toNat : Int) = _
  rw [e, BitVec.allOnes_xor, BitVec.toNat_not, BitVec.toNat_ofInt, IntKind.wrap_u64]
  omega
theorem not_i64 (v : Int) (h0 : -9223372036854775808 ≤ v) (h1 : v < 9223372036854775808) : bits .xor .i64 (-1) v = -v - 1 := by
  have e : BitVec.ofInt 64 (-1) = BitVec.allOnes 64 := by decide
  show IntKind.i64.wrap (((BitVec.ofInt 64 (-1)) ^^^ (BitVec.ofInt 64 v)).toNat : Int) = _
  rw [e, BitVec.allOnes_xor, BitVec.toNat_not, BitVec.toNat_ofInt, IntKind.wrap_i64]
  omega
theorem zig_neg {v : Int} (h1 : -9223372036854775808 ≤ v) (h2 : v < 0) : bits .xor .u64 IntKind.u64.max (IntKind.u64.wrap (IntKind.u64.wrap v * 2)) = (zig v : Int) := by
  rw [IntKind.wrap_u64, IntKind.wrap_u64, not_u64 _ (by omega) (by omega)]
  unfold zig
  rw [if_neg (by omega)]
  omega
theorem zig_pos {v : Int} (h1 : 0 ≤ v) : v * 2 = (zig v : Int) := by
  unfold zig
  rw [if_pos h1]
  omega
end Go.Proofs.Ytkaekpmpjemmoaa
