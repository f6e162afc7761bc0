/-
  A slice of numbers that came in: it reads as a list wherever it lies. No condition.
-/
import Derived.Test.YtimiofmmhccmmaaDoorNums
namespace Go.Proofs.YtimiofmmhccmmaaDoor
open Go.RowKit

/-- The slice at A reads as the numbers l, now and in every world in which what is there now stays. -/
structure Srcs (w : World) (A : Option Addr) (l : List Int) : Prop where
  fits : ∀ k : Nat, I64 (l.getD k 0)
  len : l.length ≤ maxLen
  src : ∀ U : World, Below w.heap.size w U → 0 < (l.map (Value.int .i64)).length → ∃ ad, A = some ad ∧ ∀ (j : Nat) (v : Value), (l.map (Value.int .i64))[j]? = some v → U.cell? (ad.add j) = some v
theorem Srcs.below {w w' : World} {A : Option Addr} {l : List Int} (h : Srcs w A l) (hb : Below w.heap.size w w') : Srcs w' A l :=
  ⟨h.fits, h.len, fun U hU h0 => h.src U (hb.trans (hU.mono hb.size)) h0⟩
theorem Nums.srcs {w : World} {A : Option Addr} {c : Nat} {l : List Int} (h : Nums w A c l) : Srcs w A l :=
  ⟨h.fits, Nat.le_trans h.len h.cap, fun U hb h0 => by
    have hne : l ≠ [] := by rintro rfl; simp at h0
    obtain ⟨b, o, rfl, hlt, hc⟩ := h.at_ hne
    refine ⟨_, rfl, fun j v hj => ?_⟩
    rw [List.getElem?_map, Option.map_eq_some_iff] at hj
    obtain ⟨x, hx, rfl⟩ := hj
    have hjl := (List.getElem?_eq_some_iff.1 hx).1
    rw [Addr.add_lit, hb.cell (p := ⟨b, o + j, none⟩) hlt, hc j hjl]
    simp [List.getD_eq_getElem?_getD, hx]⟩
end Go.Proofs.YtimiofmmhccmmaaDoor
