/-
  What comes in as a slice of bytes reads as a list of bytes.
-/
import Derived.Test.YtkaekpmpjemmoaaWords
import Derived.OpenShut
import Derived.ProofKit
namespace Go.Proofs.Ytkaekpmpjemmoaa
open Go.RowKit Go.WideShapes

/-- A slice of integers that came in: nil, or a row of cells. -/
def RowOf (k : IntKind) (w : World) (a : Option Addr) (len cap : Nat) (zs : List Int) : Prop :=
  (a = none ∧ len = 0 ∧ cap = 0 ∧ zs = []) ∨
  ∃ x, a = some x ∧ len ≤ cap ∧ cap ≤ maxLen ∧ zs.length = cap ∧ (∀ i, i < zs.length → w.cell? (x.add i) = some (.int k (zs.getD i 0))) ∧ ∀ n ∈ zs, (Lit.int k n).wf = true

theorem u8_wf {n : Int} (h : (Lit.int .u8 n).wf = true) : 0 ≤ n ∧ n ≤ 255 := by
  simp [Lit.wf, IntKind.min, IntKind.max, IntKind.signed, IntKind.bits] at h
  omega
theorem i64_wf {n : Int} (h : (Lit.int .i64 n).wf = true) : -9223372036854775808 ≤ n ∧ n < 9223372036854775808 := by
  simp [Lit.wf, IntKind.min, IntKind.max, IntKind.signed, IntKind.bits] at h
  omega

theorem byt_of_row {w : World} {a : Option Addr} {len cap : Nat} {zs : List Int} (h : RowOf .u8 w a len cap zs) : ∃ l, l.length = len ∧ Byt w w.heap.size a cap l := by
  rcases h with ⟨rfl, rfl, rfl, rfl⟩ | ⟨x, rfl, hlc, hcm, hz, hcell, hwf⟩
  · exact ⟨[], rfl, byt_nil _ _⟩
  · have hl : (zs.take len).length = len := by simp; omega
    refine ⟨zs.take len, hl, bytes_take (bytes_mem fun n hn => u8_wf (hwf n hn)) len, by omega, hcm, fun h => by (cases h), fun hne => ?_⟩
    have hpos : 0 < zs.length := by
      rcases Nat.eq_zero_or_pos zs.length with h0 | h0
      · exact absurd (by rw [List.eq_nil_of_length_eq_zero h0]; simp) hne
      · exact h0
    obtain ⟨b, off, rfl, hc⟩ := ints_at hcell hpos
    refine ⟨b, off, rfl, World.block_lt_of_cell? w ⟨b, off + 0, none⟩ (hc 0 hpos), fun k hk => ?_⟩
    rw [hl] at hk
    rw [hc k (by omega), List.getElem?_take_of_lt hk]
    simp [List.getD]

/-- The slice value '.slice A l.length c' reads as the ints l, in blocks below B. -/
structure Nums (w : World) (B : Nat) (A : Option Addr) (c : Nat) (l : List Int) : Prop where
  range : ∀ k : Nat, -9223372036854775808 ≤ l[k]?.getD 0 ∧ l[k]?.getD 0 < 9223372036854775808
  len : l.length ≤ c
  cap : c ≤ maxLen
  at_ : l ≠ [] → ∃ b o, A = some ⟨b, o, none⟩ ∧ b < B ∧ ∀ k, k < l.length → w.cell? ⟨b, o + k, none⟩ = some (.int .i64 (l[k]?.getD 0))
theorem Nums.below {w w' : World} {B B' c : Nat} {A : Option Addr} {l : List Int} (h : Nums w B A c l) (hb : Below B' w w') (hB : B ≤ B') : Nums w' B A c l :=
  ⟨h.range, h.len, h.cap, fun hl => by
    obtain ⟨b, o, e, hb2, hc⟩ := h.at_ hl
    exact ⟨b, o, e, hb2, fun k hk => (hb.cell (Nat.lt_of_lt_of_le hb2 hB)).trans (hc k hk)⟩⟩
theorem Nums.head {w : World} {B c : Nat} {A : Option Addr} {l : List Int} (h : Nums w B A c l) (n : Nat) : Nums w B A c (l.take n) := by
  refine ⟨fun k => ?_, by have := h.len; simp; omega, h.cap, fun hne => ?_⟩
  · by_cases hk : k < n
    · rw [List.getElem?_take_of_lt hk]; exact h.range k
    · rw [List.getElem?_eq_none (by simp; omega)]; simp
  · obtain ⟨b, o, e, hb, hc⟩ := h.at_ (by rintro rfl; simp at hne)
    refine ⟨b, o, e, hb, fun k hk => ?_⟩
    have hk' : k < n ∧ k < l.length := by simp at hk; omega
    rw [hc k hk'.2, List.getElem?_take_of_lt hk'.1]
theorem nums_of_row {w : World} {a : Option Addr} {len cap : Nat} {zs : List Int} (h : RowOf .i64 w a len cap zs) : ∃ l, l.length = len ∧ Nums w w.heap.size a cap l := by
  rcases h with ⟨rfl, rfl, rfl, rfl⟩ | ⟨x, rfl, hlc, hcm, hz, hcell, hwf⟩
  · exact ⟨[], rfl, ⟨fun k => by simp, by simp, by simp [maxLen], fun h => absurd rfl h⟩⟩
  · have hl : (zs.take len).length = len := by simp; omega
    refine ⟨zs.take len, hl, fun k => ?_, by omega, hcm, fun hne => ?_⟩
    · by_cases hk : k < (zs.take len).length
      · rw [List.getElem?_eq_getElem hk]
        exact i64_wf (hwf _ (List.mem_of_mem_take (List.getElem_mem hk)))
      · rw [List.getElem?_eq_none (by omega)]; simp
    · have hpos : 0 < zs.length := by
        rcases Nat.eq_zero_or_pos zs.length with h0 | h0
        · exact absurd (by rw [List.eq_nil_of_length_eq_zero h0]; simp) hne
        · exact h0
      obtain ⟨b, off, rfl, hc⟩ := ints_at hcell hpos
      refine ⟨b, off, rfl, World.block_lt_of_cell? w ⟨b, off + 0, none⟩ (hc 0 hpos), fun k hk => ?_⟩
      rw [hl] at hk
      rw [hc k (by omega), List.getElem?_take_of_lt hk]
      simp [List.getD]
end Go.Proofs.Ytkaekpmpjemmoaa
