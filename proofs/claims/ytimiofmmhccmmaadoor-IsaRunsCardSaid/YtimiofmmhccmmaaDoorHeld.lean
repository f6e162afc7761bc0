/-
  What is held while an instruction is executed: the processor, the instruction and the result in three blocks. No condition.
-/
import Derived.Test.YtimiofmmhccmmaaDoorVal
import Derived.Deep.Draws
namespace Go.Proofs.YtimiofmmhccmmaaDoor
open Go.RowKit

/-- The three blocks from n on. -/
structure Held (n : Nat) (cs : Array Value) (op A B D imm : Int) (w : World) : Prop where
  cpu : w.heap[n]? = some (.cells cs 35 (0, 0))
  ins : w.heap[n + 1]? = some (.cells #[.int .i64 op, .int .i64 A, .int .i64 B, .int .i64 D, .int .i64 imm] 23 (0, 0))
  res : w.heap[n + 1 + 1]? = some (.cells (effC eff0) 40 (0, 0))
section
variable {n : Nat} {cs : Array Value} {op A B D imm : Int} {w : World}
theorem Held.set {U : World} {N : Nat} {xs : Array Value} {T : TypeId} (h : Held n cs op A B D imm w) (hN : n + 1 + 1 < N) (hU : SetC N xs T w U) : Held n cs op A B D imm U :=
  ⟨(hU.block _ (by omega)).trans h.cpu, (hU.block _ (by omega)).trans h.ins, (hU.block _ (by omega)).trans h.res⟩
theorem Held.alloc (h : Held n cs op A B D imm w) (hn : n + 1 + 1 < w.heap.size) (o : Obj) : Held n cs op A B D imm (w.alloc o) :=
  ⟨(Below.heap_alloc _ _ _ (by omega)).trans h.cpu, (Below.heap_alloc _ _ _ (by omega)).trans h.ins, (Below.heap_alloc _ _ _ (by omega)).trans h.res⟩
theorem Held.drewN (h : Held n cs op A B D imm w) (k : Nat) : Held n cs op A B D imm (w.drewN k) := ⟨h.cpu, h.ins, h.res⟩
theorem Held.reg {k : Nat} {x : Int} (h : Held n cs op A B D imm w) (hk : cs[k]? = some (.int .i64 x)) : w.cell? ⟨n, k, none⟩ = some (.int .i64 x) := (cell_of_row _ _ k _ _ _ h.cpu).trans hk
theorem Held.i0 (h : Held n cs op A B D imm w) : w.cell? ⟨n + 1, 0, none⟩ = some (.int .i64 op) := cell_of_row _ _ 0 _ _ _ h.ins
theorem Held.i1 (h : Held n cs op A B D imm w) : w.cell? ⟨n + 1, 1, none⟩ = some (.int .i64 A) := cell_of_row _ _ 1 _ _ _ h.ins
theorem Held.i2 (h : Held n cs op A B D imm w) : w.cell? ⟨n + 1, 2, none⟩ = some (.int .i64 B) := cell_of_row _ _ 2 _ _ _ h.ins
theorem Held.i3 (h : Held n cs op A B D imm w) : w.cell? ⟨n + 1, 3, none⟩ = some (.int .i64 D) := cell_of_row _ _ 3 _ _ _ h.ins
theorem Held.i4 (h : Held n cs op A B D imm w) : w.cell? ⟨n + 1, 4, none⟩ = some (.int .i64 imm) := cell_of_row _ _ 4 _ _ _ h.ins
end
section
variable {P : Program} {ops : Array Oper} {rest : List Oper} {op : Oper} {a : Act} {w : World} {Q : Exit → Act → World → Prop}
/-- A struct is built out of one field: what is known of it is taken. -/
theorem wpList_build (hgd : op.guard = none) (T : TypeId) (k : Nat) (x : Operand) (ho : op.op = .build T #[(k, x)]) (v : Value) (hb : (Instr.build T #[(k, a.eval x)]).run P w = .ok v w)
    (h : wpList P ops Q rest (a.put op.dst v) w) : wpList P ops Q (op :: rest) a w :=
  wpList_plain hgd fun _ hK => by
    unfold Oper.wp execOp
    have e : (#[(k, x)].map fun ((i, x) : Nat × Operand) => (i, a.eval x)) = #[(k, a.eval x)] := by simp
    simp only [ho, e, Sem.run_bind, hb, Result.andThen_ok, Sem.run_pure]
    exact hK _ _ h
end
end Go.Proofs.YtimiofmmhccmmaaDoor
