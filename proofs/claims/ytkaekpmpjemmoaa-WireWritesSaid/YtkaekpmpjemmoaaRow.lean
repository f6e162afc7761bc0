/-
  What comes in as a slice of bytes reads as a list of bytes.
-/
import Derived.Test.YtkaekpmpjemmoaaWords
import Derived.OpenShut
import Derived.ProofKit
namespace Go.Proofs.Ytkaekpmpjemmoaa
open Go.RowKit Go.WideShapes

/-- A slice of integers that came in: nil, or a row of cells. -/
def RowOf (k : IntKind) (w : World) (a : Option Addr) (len cap : Nat) (zs : List Int) : Prop :=
  (a = none ∧ len = 0 ∧ cap = 0 ∧ zs = []) ∨
  ∃ x, a = some x ∧ len ≤ cap ∧ cap ≤ maxLen ∧ zs.length = cap ∧ (∀ i, i < zs.length → w.cell? (x.add i) = some (.int k (zs.getD i 0))) ∧ ∀ n ∈ zs, (Lit.int k n).wf = true

theorem u8_wf {n : Int} (h : (Lit.int .u8 n).wf = true) : 0 ≤ n ∧ n ≤ 255 := by
  simp [Lit.wf, IntKind.min, IntKind.max, IntKind.signed, IntKind.bits] at h
  omega
theorem i64_wf {n : Int} (h : (Lit.int .i64 n).wf = true) : -9223372036854775808 ≤ n ∧ n < 9223372036854775808 := by
  simp [Lit.wf, IntKind.min, IntKind.max, IntKind.signed, IntKind.bits] at h
  omega

theorem byt_of_row {w : World} {a : Option Addr} {len cap : Nat} {zs : List Int} (h : RowOf .u8 w a len cap zs) : ∃ l, l.length = len ∧ Byt w w.heap.size a cap l := by
  rcases h with ⟨rfl, rfl, rfl, rfl⟩ | ⟨x, rfl, hlc, hcm, hz, hcell, hwf⟩
  · exact ⟨[], rfl, byt_nil _ _⟩
  · have hl : (zs.take len).length = len := by simp; omega
    refine ⟨zs.take len, hl, bytes_take (bytes_mem fun n hn => u8_wf (hwf n hn)) len, by omega, hcm, fun h => by (cases h), fun hne => ?_⟩
    have hpos : 0 < zs.length := by
      rcases Nat.eq_zero_or_pos zs.length with h0 | h0
      · exact absurd (by rw [List.eq_nil_of_length_eq_zero h0]; simp) hne
      · exact h0
    obtain ⟨b, off, rfl, hc⟩ := ints_at hcell hpos
    refine ⟨b, off, rfl, World.block_lt_of_cell? w ⟨b, off + 0, none⟩ (hc 0 hpos), fun k hk => ?_⟩
    rw [hl] at hk
    rw [hc k (by omega), List.getElem?_take_of_lt hk]
    simp [List.getD]
end Go.Proofs.Ytkaekpmpjemmoaa
