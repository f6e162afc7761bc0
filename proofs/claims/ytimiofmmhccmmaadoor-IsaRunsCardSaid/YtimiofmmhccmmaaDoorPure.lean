/-
  Plain words on the machine's instructions: their words of 64 bits, and what the bit operations of int make of them. No condition.
-/
import Derived.WalkKit
import Derived.Laws.Entries
namespace Go.Proofs.YtimiofmmhccmmaaDoor
open Go.RowKit

/-- An instruction. -/
structure Ins where
  op : Int
  a : Int
  b : Int
  c : Int
  imm : Int
/-- A number of 64 bits. -/
def I64 (n : Int) : Prop := -9223372036854775808 ≤ n ∧ n < 9223372036854775808
/-- All fields are numbers of 64 bits. -/
structure Ins.Fits (i : Ins) : Prop where
  op : I64 i.op
  a : I64 i.a
  b : I64 i.b
  c : I64 i.c
  imm : I64 i.imm
/-- A field names a register. -/
def reg (n : Int) : Bool := decide (0 ≤ n) && decide (n < 16)
theorem reg_yes {n : Int} (h : reg n = true) : 0 ≤ n ∧ n < 16 := by simpa [reg] using h
theorem reg_no {n : Int} (h : reg n = false) : n < 0 ∨ 16 ≤ n := by
  simp [reg] at h
  omega
theorem reg_mk {n : Int} (h0 : 0 ≤ n) (h1 : n < 16) : reg n = true := by simp [reg]; omega
/-- The error of an instruction. -/
def encE (i : Ins) : Int :=
  if i.imm < -2147483648 ∨ 2147483648 ≤ i.imm ∨ reg i.a = false ∨ reg i.b = false ∨ reg i.c = false then 2 else if i.op < 1 ∨ 26 ≤ i.op then 4 else 0
/-- Its word. -/
def word (i : Ins) : Int := i.imm * 4294967296 + i.c * 16777216 + i.b * 65536 + i.a * 256 + i.op
def encW (i : Ins) : Int := if encE i = 0 then word i else 0
/-- What lies in a word's bits. -/
def split (w : Int) : Ins := ⟨w % 256, w / 256 % 256, w / 65536 % 256, w / 16777216 % 256, w / 4294967296⟩
def decE (w : Int) : Int := if encE (split w) = 0 then 0 else 4
def decI (w : Int) : Ins := if encE (split w) = 0 then split w else ⟨0, 0, 0, 0, 0⟩

theorem encE_cases (i : Ins) : encE i = 0 ∨ encE i = 2 ∨ encE i = 4 := by
  unfold encE
  split
  · exact .inr (.inl rfl)
  · split
    · exact .inr (.inr rfl)
    · exact .inl rfl
/-- What is encoded lies within its limits. -/
structure Ins.Ok (i : Ins) : Prop where
  op : 1 ≤ i.op ∧ i.op < 26
  a : 0 ≤ i.a ∧ i.a < 16
  b : 0 ≤ i.b ∧ i.b < 16
  c : 0 ≤ i.c ∧ i.c < 16
  imm : -2147483648 ≤ i.imm ∧ i.imm < 2147483648
theorem ok_of {i : Ins} (h : encE i = 0) : i.Ok := by
  unfold encE at h
  split at h
  · cases h
  · split at h
    · cases h
    · rename_i h1 h2
      simp only [not_or] at h1 h2
      obtain ⟨x1, x2, x3, x4, x5⟩ := h1
      simp only [Bool.not_eq_false] at x3 x4 x5
      exact ⟨by omega, reg_yes x3, reg_yes x4, reg_yes x5, by omega⟩
theorem of_ok {i : Ins} (h : i.Ok) : encE i = 0 := by
  obtain ⟨h1, h2, h3, h4, h5⟩ := h
  unfold encE
  rw [reg_mk h2.1 h2.2, reg_mk h3.1 h3.2, reg_mk h4.1 h4.2, if_neg (by simp; omega), if_neg (by omega)]
theorem enc_form {i : Ins} (h1 : -2147483648 ≤ i.imm) (h2 : i.imm < 2147483648) (ha : reg i.a = true) (hb : reg i.b = true) (hc : reg i.c = true) (ho : i.op < 1 ∨ 26 ≤ i.op) : encE i = 4 := by
  unfold encE
  rw [ha, hb, hc, if_neg (by simp; omega), if_pos ho]
theorem enc_range {i : Ins} (h : i.imm < -2147483648 ∨ 2147483648 ≤ i.imm ∨ reg i.a = false ∨ reg i.b = false ∨ reg i.c = false) : encE i = 2 := by
  unfold encE
  rw [if_pos h]
theorem encW_no {i : Ins} (h : encE i ≠ 0) : encW i = 0 := by
  unfold encW
  rw [if_neg h]
theorem encW_yes {i : Ins} (h : encE i = 0) : encW i = word i := by
  unfold encW
  rw [if_pos h]
theorem encW_fits (i : Ins) : I64 (encW i) := by
  by_cases h : encE i = 0
  · have hk := ok_of h
    obtain ⟨h1, h2, h3, h4, h5⟩ := hk
    rw [encW_yes h]
    unfold word I64
    omega
  · rw [encW_no h]
    exact ⟨by decide, by decide⟩
theorem split_word {i : Ins} (h : i.Ok) : split (word i) = i := by
  obtain ⟨op, a, b, c, imm⟩ := i
  obtain ⟨h1, h2, h3, h4, h5⟩ := h
  simp only [split, word, Ins.mk.injEq] at *
  refine ⟨?_, ?_, ?_, ?_, ?_⟩ <;> omega
theorem word_split (w : Int) : word (split w) = w := by
  simp only [split, word]
  omega
theorem split_fits {w : Int} (h : I64 w) : (split w).Fits := by
  unfold I64 at h
  refine ⟨?_, ?_, ?_, ?_, ?_⟩ <;> (unfold I64 split; simp only; omega)
theorem dec_enc {i : Ins} (h : i.Ok) : decE (encW i) = 0 ∧ decI (encW i) = i := by
  have e := of_ok h
  rw [encW_yes e]
  unfold decE decI
  rw [split_word h, if_pos e, if_pos e]
  exact ⟨rfl, rfl⟩
theorem enc_dec {w : Int} (h : decE w = 0) : encE (decI w) = 0 ∧ encW (decI w) = w := by
  unfold decE at h
  split at h
  · rename_i e
    unfold decI
    rw [if_pos e, encW_yes e, word_split]
    exact ⟨e, rfl⟩
  · cases h
theorem decE_cases (w : Int) : decE w = 0 ∨ decE w = 4 := by
  unfold decE
  split
  · exact .inl rfl
  · exact .inr rfl
theorem decI_no {w : Int} (h : encE (split w) ≠ 0) : decI w = ⟨0, 0, 0, 0, 0⟩ := by unfold decI; rw [if_neg h]
theorem decI_yes {w : Int} (h : encE (split w) = 0) : decI w = split w := by unfold decI; rw [if_pos h]
theorem decE_no {w : Int} (h : encE (split w) ≠ 0) : decE w = 4 := by unfold decE; rw [if_neg h]
theorem decE_yes {w : Int} (h : encE (split w) = 0) : decE w = 0 := by unfold decE; rw [if_pos h]

/-- A number whose low bits are 0, and one that has low bits alone. -/
theorem or_low (k : Nat) (p : Nat) (hp : 2 ^ k = p) (hd : ∃ q, 18446744073709551616 = p * q) (x y : Int) (hy0 : 0 ≤ y) (hy : y < p) (hx : ∃ z : Int, x = z * p) (hf : I64 (x + y)) : bits .or .i64 x y = x + y := by
  show IntKind.i64.wrap (((BitVec.ofInt 64 x) ||| (BitVec.ofInt 64 y)).toNat : Int) = _
  rw [BitVec.toNat_or, BitVec.toNat_ofInt, BitVec.toNat_ofInt]
  obtain ⟨y', rfl⟩ := Int.eq_ofNat_of_zero_le hy0
  obtain ⟨q, hq⟩ := hd
  obtain ⟨z, rfl⟩ := hx
  have hp0 : 0 < p := by rw [← hp]; exact Nat.two_pow_pos k
  have hq0 : 0 < q := by
    rcases Nat.eq_zero_or_pos q with h | h
    · subst h; simp at hq
    · exact h
  have hpl : p ≤ 18446744073709551616 := by rw [hq]; exact Nat.le_mul_of_pos_right p hq0
  have e1 : (z * (p : Int) % ((2 ^ 64 : Nat) : Int)).toNat = (z % (q : Int)).toNat <<< k := by
    rw [show ((2 ^ 64 : Nat) : Int) = ((p * q : Nat) : Int) by rw [← hq]]
    rw [Nat.shiftLeft_eq, hp]
    have h1 : z * (p : Int) % ((p * q : Nat) : Int) = (z % (q : Int)) * p := by
      rw [Int.natCast_mul, Int.mul_comm z, Int.mul_emod_mul_of_pos _ _ (by omega), Int.mul_comm]
    rw [h1, Int.toNat_mul (Int.emod_nonneg _ (by omega)) (by omega)]
    simp
  have e2 : (((y' : Nat) : Int) % ((2 ^ 64 : Nat) : Int)).toNat = y' := by
    rw [Int.emod_eq_of_lt (by omega) (by omega)]
    rfl
  have e3 : ((z * (p : Int) % ((2 ^ 64 : Nat) : Int)).toNat : Int) = z * p % 18446744073709551616 := by
    rw [Int.toNat_of_nonneg (Int.emod_nonneg _ (by decide))]
    rfl
  rw [e2, e1, ← Nat.shiftLeft_add_eq_or_of_lt (by rw [hp]; omega), ← e1, Int.natCast_add, e3, IntKind.wrap_i64]
  unfold I64 at hf
  generalize z * (p : Int) = x at *
  omega
theorem or32 (x y : Int) (hy0 : 0 ≤ y) (hy : y < 4294967296) (hf : I64 (x * 4294967296 + y)) : bits .or .i64 (x * 4294967296) y = x * 4294967296 + y :=
  or_low 32 4294967296 (by decide) ⟨4294967296, by decide⟩ _ y hy0 hy ⟨x, rfl⟩ hf
/-- Numbers each of which has the bits behind the other's: their sum. -/
theorem or_at (k p : Nat) (hp : 2 ^ k = p) (hd : ∃ q, 18446744073709551616 = p * q) (x y : Int) (hy0 : 0 ≤ y) (hy : y < p) (hx : x % p = 0) (hf : I64 (x + y)) : bits .or .i64 x y = x + y :=
  or_low k p hp hd x y hy0 hy ⟨x / p, by have := Int.emod_add_mul_ediv x p; rw [hx, Int.zero_add, Int.mul_comm] at this; exact this.symm⟩ hf
/-- The word that the code's or's make, field by field from the highest one. -/
theorem or_word {i : Ins} (h : i.Ok) : bits .or .i64 (bits .or .i64 (bits .or .i64 (bits .or .i64 (i.imm * 4294967296) (i.c * 16777216)) (i.b * 65536)) (i.a * 256)) i.op = word i := by
  obtain ⟨h1, h2, h3, h4, h5⟩ := h
  rw [or_at 32 4294967296 (by decide) ⟨4294967296, by decide⟩ (i.imm * 4294967296) (i.c * 16777216) (by omega) (by omega) (by omega) (by unfold I64; omega),
    or_at 24 16777216 (by decide) ⟨1099511627776, by decide⟩ _ (i.b * 65536) (by omega) (by omega) (by omega) (by unfold I64; omega),
    or_at 16 65536 (by decide) ⟨281474976710656, by decide⟩ _ (i.a * 256) (by omega) (by omega) (by omega) (by unfold I64; omega),
    or_at 8 256 (by decide) ⟨72057594037927936, by decide⟩ _ i.op (by omega) (by omega) (by omega) (by unfold I64; omega)]
  rfl
theorem or_comm (x y : Int) : bits .or .i64 x y = bits .or .i64 y x := by
  show IntKind.i64.wrap (((BitVec.ofInt 64 x) ||| (BitVec.ofInt 64 y)).toNat : Int) = IntKind.i64.wrap (((BitVec.ofInt 64 y) ||| (BitVec.ofInt 64 x)).toNat : Int)
  rw [BitVec.or_comm]
theorem or_assoc (x y z : Int) : bits .or .i64 (bits .or .i64 x y) z = bits .or .i64 x (bits .or .i64 y z) := by
  have e : ∀ a b : Int, BitVec.ofInt 64 (bits .or .i64 a b) = BitVec.ofInt 64 a ||| BitVec.ofInt 64 b := by
    intro a b
    show BitVec.ofInt 64 (IntKind.i64.wrap (((BitVec.ofInt 64 a) ||| (BitVec.ofInt 64 b)).toNat : Int)) = _
    rw [IntKind.wrap_i64]
    apply BitVec.eq_of_toNat_eq
    rw [BitVec.toNat_ofInt]
    have := (BitVec.ofInt 64 a ||| BitVec.ofInt 64 b).isLt
    omega
  show IntKind.i64.wrap (((BitVec.ofInt 64 (bits .or .i64 x y)) ||| (BitVec.ofInt 64 z)).toNat : Int) = IntKind.i64.wrap (((BitVec.ofInt 64 x) ||| (BitVec.ofInt 64 (bits .or .i64 y z))).toNat : Int)
  rw [e, e, BitVec.or_assoc]
theorem and255 (v : Int) : bits .and .i64 v 255 = v % 256 := by
  have e : (BitVec.ofInt 64 255) = BitVec.ofNat 64 255 := by decide
  show IntKind.i64.wrap (((BitVec.ofInt 64 v) &&& (BitVec.ofInt 64 255)).toNat : Int) = _
  rw [e, BitVec.toNat_and, BitVec.toNat_ofInt, BitVec.toNat_ofNat]
  have h : (255 % 2 ^ 64 : Nat) = 2 ^ 8 - 1 := by decide
  rw [h, Nat.and_two_pow_sub_one_eq_mod, IntKind.wrap_i64]
  omega
end Go.Proofs.YtimiofmmhccmmaaDoor
