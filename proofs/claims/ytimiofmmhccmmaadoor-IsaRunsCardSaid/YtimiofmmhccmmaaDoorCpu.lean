/-
  Plain words on the processor: what an instruction does to its registers, as lists. No condition.
-/
import Derived.Test.YtimiofmmhccmmaaDoorPure
namespace Go.Proofs.YtimiofmmhccmmaaDoor
open Go.RowKit

/-- A processor between two instructions. -/
structure Cpu where
  r : List Int
  pc : Int
/-- Sixteen registers, and all are numbers of 64 bits. -/
structure Cpu.Fits (c : Cpu) : Prop where
  len : c.r.length = 16
  r : ∀ k : Nat, I64 (c.r.getD k 0)
  pc : I64 c.pc
/-- What an instruction does. -/
structure Eff where
  cpu : Cpu
  stores : Bool
  addr : Int
  word : Int
  prints : Bool
  print : Int
/-- A register. -/
def Cpu.at_ (c : Cpu) (n : Int) : Int := c.r.getD n.toNat 0
/-- The twelve operations. -/
def opv (k a b : Int) : Int :=
  if k = 0 then wrap64 (a + b) else if k = 1 then wrap64 (a - b) else if k = 2 then wrap64 (a * b)
  else if k = 3 then (if b = 0 then 0 else wrap64 (a.tdiv b)) else if k = 4 then (if b = 0 then a else a.tmod b)
  else if k = 5 then bits .and .i64 a b else if k = 6 then bits .or .i64 a b else if k = 7 then bits .xor .i64 a b
  else if k = 8 then (if a < b then 1 else 0) else if k = 9 then (if a ≤ b then 1 else 0) else if k = 10 then (if a = b then 1 else 0) else if k = 11 then (if a = b then 0 else 1) else 0
/-- What Reads returns. -/
def readsA (c : Cpu) (i : Ins) : Int :=
  if i.op = 4 then i.imm else if i.op = 19 then wrap64 ((if reg i.b then c.at_ i.b else 0) + i.imm) else if i.op = 24 then c.at_ 14 else 0
def readsB (i : Ins) : Bool := decide (i.op = 4) || decide (i.op = 19) || decide (i.op = 24)
/-- What Execute returns of an instruction that is encoded and no Break. -/
def exec (c : Cpu) (i : Ins) (ld : Int) : Eff :=
  let a := c.at_ i.a
  let b := c.at_ i.b
  let to := fun (r : List Int) => (⟨⟨r, wrap64 (c.pc + 1)⟩, false, 0, 0, false, 0⟩ : Eff)
  if i.op = 1 then to c.r
  else if i.op = 3 then to (c.r.set i.a.toNat i.imm)
  else if i.op = 4 ∨ i.op = 19 then to (c.r.set i.a.toNat ld)
  else if i.op = 5 then to (c.r.set i.a.toNat b)
  else if i.op = 18 then to (c.r.set i.a.toNat (wrap64 (b + i.imm)))
  else if i.op = 20 then ⟨⟨c.r, wrap64 (c.pc + 1)⟩, true, wrap64 (b + i.imm), a, false, 0⟩
  else if i.op = 21 then ⟨⟨c.r, i.imm⟩, false, 0, 0, false, 0⟩
  else if i.op = 22 then ⟨⟨c.r, if a = 0 then i.imm else wrap64 (c.pc + 1)⟩, false, 0, 0, false, 0⟩
  else if i.op = 23 then ⟨⟨c.r.set 14 (wrap64 (c.at_ 14 - 1)), i.imm⟩, true, wrap64 (c.at_ 14 - 1), wrap64 (c.pc + 1), false, 0⟩
  else if i.op = 24 then ⟨⟨c.r.set 14 (wrap64 (c.at_ 14 + 1)), ld⟩, false, 0, 0, false, 0⟩
  else if i.op = 25 then ⟨⟨c.r, wrap64 (c.pc + 1)⟩, false, 0, 0, true, a⟩
  else to (c.r.set i.a.toNat (opv (i.op - 6) b (c.at_ i.c)))
/-- No processor. -/
def cpu0 : Cpu := ⟨List.replicate 16 0, 0⟩
def eff0 : Eff := ⟨cpu0, false, 0, 0, false, 0⟩
def exE (i : Ins) : Int := if encE i = 0 ∧ i.op ≠ 2 then 0 else 14
def exV (c : Cpu) (i : Ins) (ld : Int) : Eff := if encE i = 0 ∧ i.op ≠ 2 then exec c i ld else eff0
end Go.Proofs.YtimiofmmhccmmaaDoor
