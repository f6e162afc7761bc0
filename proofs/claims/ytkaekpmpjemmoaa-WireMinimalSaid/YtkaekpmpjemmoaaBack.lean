/-
  Reading what was written: the plain laws. No condition.
-/
import Derived.Test.YtkaekpmpjemmoaaDec
namespace Go.Proofs.Ytkaekpmpjemmoaa
open Go.RowKit

theorem byteAt_drop {l : List Int} {k : Nat} {x : Int} {r : List Int} (h : l.drop k = x :: r) : ¬ l.length ≤ k ∧ byteAt l k = x ∧ l.drop (k + 1) = r := by
  have hk : k < l.length := by
    rcases Nat.lt_or_ge k l.length with h1 | h1
    · exact h1
    · rw [List.drop_eq_nil_of_le h1] at h; cases h
  rw [List.drop_eq_getElem_cons hk] at h
  injection h with h1 h2
  refine ⟨by omega, ?_, h2⟩
  unfold byteAt
  rw [List.getElem?_eq_getElem hk, Option.getD_some, h1]

/-- What is written is read: the number and the place behind it, whatever follows. -/
theorem num_enc (W : Nat) (last : Int) (l : List Int) (a : Nat) (post : List Int) (h0 : 0 ≤ last) (h127 : last ≤ 127) : ∀ f i n u : Nat, i + f + 1 = W → l.drop (a + i) = enc u ++ post → (u : Int) < (last + 1) * 128 ^ f → (0 < i → 0 < u) →
    numFrom W last l a (f + 1) i n = (n + u * 128 ^ i, a + i + (enc u).length, 0) := by
  intro f
  induction f with
  | zero =>
    intro i n u hi hd hu h0u
    have hs : u < 128 := by have := hu; simp at this; omega
    rw [enc_small hs] at hd ⊢
    obtain ⟨k1, k2, _⟩ := byteAt_drop hd
    rw [num_done k1 k2 (by simp at hu; omega) (by omega) (by omega)]
    simp
    have : ((u : Int) % 128).toNat = u := by omega
    rw [this]
  | succ f ih =>
    intro i n u hi hd hu h0u
    by_cases hs : u < 128
    · rw [enc_small hs] at hd ⊢
      obtain ⟨k1, k2, _⟩ := byteAt_drop hd
      rw [num_done k1 k2 (by omega) (by omega) (by omega)]
      simp
      have : ((u : Int) % 128).toNat = u := by omega
      rw [this]
    · rw [enc_large hs] at hd ⊢
      obtain ⟨k1, k2, k3⟩ := byteAt_drop hd
      rw [num_next k1 k2 (by omega) (by omega) (by omega)]
      have hpow : (128 : Int) ^ (f + 1) = 128 * 128 ^ f := by rw [Int.pow_succ, Int.mul_comm]
      have hu' : ((u / 128 : Nat) : Int) < (last + 1) * 128 ^ f := by
        rw [hpow, Int.mul_left_comm] at hu
        generalize (last + 1) * 128 ^ f = t at hu ⊢
        omega
      rw [ih (i + 1) _ (u / 128) (by omega) (by rw [← Nat.add_assoc]; exact k3) hu' (by omega)]
      have hd128 : (((u : Int) % 128 + 128) % 128).toNat = u % 128 := by omega
      rw [hd128, Nat.pow_succ]
      simp only [List.length_cons, Prod.mk.injEq, and_true]
      refine ⟨?_, by omega⟩
      have : u * 128 ^ i = (u % 128) * 128 ^ i + (u / 128) * (128 ^ i * 128) := by
        conv => lhs; rw [← Nat.mod_add_div u 128, Nat.add_mul]
        rw [Nat.mul_comm 128 (u / 128), Nat.mul_assoc, Nat.mul_comm 128 (128 ^ i)]
      omega

theorem read_uint (l post : List Int) (u : Nat) (hu : u < 9223372036854775808) : readNum 9 127 (l ++ enc u ++ post) l.length = (u, l.length + (enc u).length, 0) := by
  unfold readNum
  rw [if_neg (by simp; omega)]
  have := num_enc 9 127 (l ++ enc u ++ post) l.length post (by decide) (by decide) 8 0 0 u rfl (by simp) (by omega) (by omega)
  simpa using this
theorem read_int (l post : List Int) (u : Nat) (hu : u < 18446744073709551616) : readNum 10 1 (l ++ enc u ++ post) l.length = (u, l.length + (enc u).length, 0) := by
  unfold readNum
  rw [if_neg (by simp; omega)]
  have := num_enc 10 1 (l ++ enc u ++ post) l.length post (by decide) (by decide) 9 0 0 u rfl (by simp) (by omega) (by omega)
  simpa using this
theorem read_text (l post xs : List Int) (hu : xs.length < 9223372036854775808) : readText (l ++ enc xs.length ++ xs ++ post) l.length = (xs, (l ++ enc xs.length ++ xs).length, 0) := by
  unfold readText
  have h := read_uint l (xs ++ post) xs.length hu
  rw [← List.append_assoc] at h
  rw [h]
  simp only
  rw [if_neg (by simp), if_neg (by simp; omega)]
  have h2 : (l ++ enc xs.length ++ xs ++ post).drop (l.length + (enc xs.length).length) = xs ++ post := by
    rw [List.append_assoc, ← List.length_append, List.drop_left]
  rw [h2, List.take_left]
  simp [Nat.add_assoc]

theorem str_push : ∀ (xs : List Int) (acc : ByteArray), (xs.foldl (fun r n => r.push (UInt8.ofNat n.toNat)) acc).data = acc.data ++ (xs.map fun n => UInt8.ofNat n.toNat).toArray := by
  intro xs
  induction xs with
  | nil => intro acc; simp
  | cons x xs ih =>
    intro acc
    rw [List.foldl_cons, ih]
    simp [ByteArray.push]
theorem str_strList (s : ByteArray) : str (strList s) = s := by
  have h : (str (strList s)).data = s.data := by
    unfold str
    rw [str_push, show ByteArray.empty.data = #[] from rfl]
    have e : ((fun n : Int => UInt8.ofNat n.toNat) ∘ fun b : UInt8 => (b.toNat : Int)) = id := by funext b; simp
    simp [strList, e]
  obtain ⟨d⟩ := s
  obtain ⟨d', hd⟩ : ∃ d', str (strList ⟨d⟩) = ⟨d'⟩ := ⟨_, rfl⟩
  rw [hd] at h ⊢
  exact congrArg ByteArray.mk h
theorem and63 (v : Int) : bits .and .i64 v 9223372036854775807 = v % 9223372036854775808 := by
  have e : (BitVec.ofInt 64 9223372036854775807) = BitVec.ofNat 64 9223372036854775807 := by decide
  show IntKind.i64.wrap (((BitVec.ofInt 64 v) &&& (BitVec.ofInt 64 9223372036854775807)).toNat : Int) = _
  rw [e, BitVec.toNat_and, BitVec.toNat_ofInt, BitVec.toNat_ofNat]
  have h : (9223372036854775807 % 2 ^ 64 : Nat) = 2 ^ 63 - 1 := by decide
  rw [h, Nat.and_two_pow_sub_one_eq_mod, IntKind.wrap_i64]
  omega
theorem and40 (v : Int) : bits .and .i64 v 1099511627775 = v % 1099511627776 := by
  have e : (BitVec.ofInt 64 1099511627775) = BitVec.ofNat 64 1099511627775 := by decide
  show IntKind.i64.wrap (((BitVec.ofInt 64 v) &&& (BitVec.ofInt 64 1099511627775)).toNat : Int) = _
  rw [e, BitVec.toNat_and, BitVec.toNat_ofInt, BitVec.toNat_ofNat]
  have h : (1099511627775 % 2 ^ 64 : Nat) = 2 ^ 40 - 1 := by decide
  rw [h, Nat.and_two_pow_sub_one_eq_mod, IntKind.wrap_i64]
  omega
theorem and1i (v : Int) : bits .and .i64 v 1 = v % 2 := by
  have e : (BitVec.ofInt 64 1) = BitVec.ofNat 64 1 := by decide
  show IntKind.i64.wrap (((BitVec.ofInt 64 v) &&& (BitVec.ofInt 64 1)).toNat : Int) = _
  rw [e, BitVec.toNat_and, BitVec.toNat_ofInt, BitVec.toNat_ofNat]
  have h : (1 % 2 ^ 64 : Nat) = 2 ^ 1 - 1 := by decide
  rw [h, Nat.and_two_pow_sub_one_eq_mod, IntKind.wrap_i64]
  omega
end Go.Proofs.Ytkaekpmpjemmoaa
