/-
  Plain words on a run: a memory of words, steps, the outcome. No condition.
-/
import Derived.Test.YtimiofmmhccmmaaDoorArith
namespace Go.Proofs.YtimiofmmhccmmaaDoor
open Go.RowKit

/-- A run's outcome. -/
structure Outc where
  err : Int
  thrown : Bool
  value : Int
  output : List Int
/-- One instruction, on a memory. -/
def stepP (mem : List Int) (c : Cpu) : Option (List Int × Eff) :=
  if c.pc < 0 ∨ mem.length ≤ c.pc then none
  else if decE (mem.getD c.pc.toNat 0) ≠ 0 then none
  else if readsB (decI (mem.getD c.pc.toNat 0)) = true ∧ (readsA c (decI (mem.getD c.pc.toNat 0)) < 0 ∨ mem.length ≤ readsA c (decI (mem.getD c.pc.toNat 0))) then none
  else if exE (decI (mem.getD c.pc.toNat 0)) ≠ 0 then none
  else
    let i := decI (mem.getD c.pc.toNat 0)
    let x := exec c i (if readsB i then mem.getD (readsA c i).toNat 0 else 0)
    if x.stores = true ∧ (x.addr < 0 ∨ mem.length ≤ x.addr) then none
    else some (if x.stores then mem.set x.addr.toNat x.word else mem, x)
/-- The outcome at a run's end. -/
def endO (c : Cpu) (out : List Int) : Outc := ⟨0, !decide (c.at_ 13 = 0), c.at_ 0, out⟩
/-- At most so many instructions. -/
def runP : Nat → List Int → Cpu → List Int → Outc
  | 0, _, c, out => if c.pc = -1 then endO c out else ⟨13, false, 0, out⟩
  | n + 1, mem, c, out => if c.pc = -1 then endO c out else match stepP mem c with
    | none => ⟨14, false, 0, out⟩
    | some (mem', x) => runP n mem' x.cpu (if x.prints then out ++ [x.print] else out)
theorem runP_step {n : Nat} {mem mem' : List Int} {c : Cpu} {x : Eff} {out : List Int} (h : c.pc ≠ -1) (hs : stepP mem c = some (mem', x)) : runP (n + 1) mem c out = runP n mem' x.cpu (if x.prints then out ++ [x.print] else out) := by
  rw [runP, if_neg h]
  simp only [hs]
theorem runP_fault {n : Nat} {mem : List Int} {c : Cpu} {out : List Int} (h : c.pc ≠ -1) (hs : stepP mem c = none) : runP (n + 1) mem c out = ⟨14, false, 0, out⟩ := by
  rw [runP, if_neg h]
  simp only [hs]
theorem runP_zero {mem : List Int} {c : Cpu} {out : List Int} (h : c.pc ≠ -1) : runP 0 mem c out = ⟨13, false, 0, out⟩ := by
  rw [runP, if_neg h]
theorem runP_end {n : Nat} {mem : List Int} {c : Cpu} {out : List Int} (h : c.pc = -1) : runP n mem c out = endO c out := by
  cases n <;> rw [runP, if_pos h]
/-- The memory and the processor that a run begins with. -/
def mem0 (words : List Int) (size : Nat) : List Int := (words ++ List.replicate (size - words.length) 0).set (size - 1) (-1)
def cpuB (size : Nat) (entry : Int) (args : List Int) : Cpu := ⟨(0 :: args ++ List.replicate (15 - args.length) 0).set 14 (size - 1), entry⟩
def runO (words : List Int) (size entry : Int) (args : List Int) (steps : Int) : Outc :=
  if size < words.length + 16 ∨ 16384 < size ∨ 4 < args.length ∨ steps < 0 ∨ 200000 < steps then ⟨1, false, 0, []⟩
  else runP steps.toNat (mem0 words size.toNat) (cpuB size.toNat entry args) []
end Go.Proofs.YtimiofmmhccmmaaDoor
