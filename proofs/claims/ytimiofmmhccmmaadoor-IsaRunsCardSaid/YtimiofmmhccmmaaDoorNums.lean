/-
  A slice of numbers that reads as a list; what a run returns. No condition.
-/
import Derived.Test.YtimiofmmhccmmaaDoorNear
import Derived.Test.YtimiofmmhccmmaaDoorRun
namespace Go.Proofs.YtimiofmmhccmmaaDoor
open Go.RowKit

/-- The slice value '.slice A l.length c' reads as the numbers l. -/
structure Nums (w : World) (A : Option Addr) (c : Nat) (l : List Int) : Prop where
  fits : ∀ k : Nat, I64 (l.getD k 0)
  len : l.length ≤ c
  cap : c ≤ maxLen
  bare : A = none → c = 0
  at_ : l ≠ [] → ∃ b o, A = some ⟨b, o, none⟩ ∧ b < w.heap.size ∧ ∀ k, k < l.length → w.cell? ⟨b, o + k, none⟩ = some (.int .i64 (l.getD k 0))
theorem nums_nil (w : World) : Nums w none 0 [] := ⟨fun k => by simp [I64], by simp, by simp [maxLen], fun _ => rfl, fun h => absurd rfl h⟩
theorem Nums.below {w w' : World} {A : Option Addr} {c : Nat} {l : List Int} (h : Nums w A c l) (hb : Below w.heap.size w w') : Nums w' A c l :=
  ⟨h.fits, h.len, h.cap, h.bare, fun hl => by
    obtain ⟨b, o, e, hlt, hc⟩ := h.at_ hl
    exact ⟨b, o, e, Nat.lt_of_lt_of_le hlt hb.size, fun k hk => (hb.cell hlt).trans (hc k hk)⟩⟩
/-- What a run returns: an outcome. -/
def RunOut (w : World) (o : Outc) (e : Ending) (w' : World) : Prop := ∃ A c, e = .returned (.agg #[.int .i64 o.err, .bool o.thrown, .int .i64 o.value, .slice A o.output.length c]) ∧ Nums w' A c o.output ∧ Below w.heap.size w w'
/-- The run of the sanity check. -/
theorem known_run : (runO [word ⟨3, 0, 0, 0, 7⟩, word ⟨24, 0, 0, 0, 0⟩] 40 0 [] 9).err = 0 ∧ (runO [word ⟨3, 0, 0, 0, 7⟩, word ⟨24, 0, 0, 0, 0⟩] 40 0 [] 9).value = 7 := by decide +kernel
end Go.Proofs.YtimiofmmhccmmaaDoor
