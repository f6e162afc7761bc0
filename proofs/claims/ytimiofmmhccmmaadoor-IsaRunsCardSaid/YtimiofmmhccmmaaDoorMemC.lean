/-
  A memory's cells: the numbers of a list. No condition.
-/
import Derived.WalkKit
namespace Go.Proofs.YtimiofmmhccmmaaDoor
open Go.RowKit

/-- A memory's cells. -/
def numsC (m : List Int) : Array Value := (m.map (Value.int .i64)).toArray
theorem numsC_at (m : List Int) (k : Nat) (h : k < m.length) : (numsC m)[k]? = some (.int .i64 (m.getD k 0)) := by
  simp [numsC, h, List.getD_eq_getElem?_getD]
theorem numsC_size (m : List Int) : (numsC m).size = m.length := by simp [numsC]
theorem numsC_set (m : List Int) (k : Nat) (v : Int) : (numsC m).setIfInBounds k (.int .i64 v) = numsC (m.set k v) := by
  simp [numsC, List.map_set]
end Go.Proofs.YtimiofmmhccmmaaDoor
