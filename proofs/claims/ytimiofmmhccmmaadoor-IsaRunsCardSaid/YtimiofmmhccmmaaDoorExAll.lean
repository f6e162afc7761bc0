/-
  What the specification's Execute returns. Condition: fields and registers of 64 bits.
-/
import Derived.Test.YtimiofmmhccmmaaDoorEx
import Derived.Test.YtimiofmmhccmmaaDoorExb
namespace Go.Proofs.YtimiofmmhccmmaaDoor
open Go.RowKit

theorem exE_yes {i : Ins} (h : encE i = 0) (h2 : i.op ≠ 2) : exE i = 0 := if_pos ⟨h, h2⟩
theorem exV_yes {i : Ins} (c : Cpu) (ld : Int) (h : encE i = 0) (h2 : i.op ≠ 2) : exV c i ld = exec c i ld := if_pos ⟨h, h2⟩
theorem exE_no {i : Ins} (h : ¬ (encE i = 0 ∧ i.op ≠ 2)) : exE i = 14 := if_neg h
theorem exV_no {i : Ins} (c : Cpu) (ld : Int) (h : ¬ (encE i = 0 ∧ i.op ≠ 2)) : exV c i ld = eff0 := if_neg h
theorem refExecute_any (c : Cpu) (hc : c.Fits) (i : Ins) (hi : i.Fits) (ld : Int) (w : World) : Calls Tryd.prog 21 #[.agg (cpuC c), insV i, .int .i64 ld] w (Gives2 w (.agg (effC (exV c i ld))) (.int .i64 (exE i))) := by
  by_cases hE : encE i = 0
  · by_cases h2 : i.op = 2
    · rw [exE_no (fun h => h.2 h2), exV_no c ld (fun h => h.2 h2)]
      exact refExecute_two c hc i hi ld hE h2 w
    · rw [exE_yes hE h2, exV_yes c ld hE h2]
      exact refExecute_ok c hc i hi ld hE h2 w
  · rw [exE_no (fun h => hE h.1), exV_no c ld (fun h => hE h.1)]
    exact refExecute_not c hc i hi ld hE w
end Go.Proofs.YtimiofmmhccmmaaDoor
