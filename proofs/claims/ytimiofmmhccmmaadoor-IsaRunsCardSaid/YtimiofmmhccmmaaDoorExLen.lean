/-
  An effect has sixteen registers. No condition.
-/
import Derived.Test.YtimiofmmhccmmaaDoorCpu
namespace Go.Proofs.YtimiofmmhccmmaaDoor
open Go.RowKit

theorem exec_len (c : Cpu) (i : Ins) (ld : Int) (h : c.r.length = 16) : (exec c i ld).cpu.r.length = 16 := by
  unfold exec
  (try simp only)
  by_cases h1 : i.op = 1
  · rw [if_pos h1]; exact h
  rw [if_neg h1]
  by_cases h3 : i.op = 3
  · rw [if_pos h3]; simp [h]
  rw [if_neg h3]
  by_cases h4 : i.op = 4 ∨ i.op = 19
  · rw [if_pos h4]; simp [h]
  rw [if_neg h4]
  by_cases h5 : i.op = 5
  · rw [if_pos h5]; simp [h]
  rw [if_neg h5]
  by_cases h18 : i.op = 18
  · rw [if_pos h18]; simp [h]
  rw [if_neg h18]
  by_cases h20 : i.op = 20
  · rw [if_pos h20]; exact h
  rw [if_neg h20]
  by_cases h21 : i.op = 21
  · rw [if_pos h21]; exact h
  rw [if_neg h21]
  by_cases h22 : i.op = 22
  · rw [if_pos h22]; exact h
  rw [if_neg h22]
  by_cases h23 : i.op = 23
  · rw [if_pos h23]; simp [h]
  rw [if_neg h23]
  by_cases h24 : i.op = 24
  · rw [if_pos h24]; simp [h]
  rw [if_neg h24]
  by_cases h25 : i.op = 25
  · rw [if_pos h25]; exact h
  rw [if_neg h25]
  simp [h]
theorem exV_len (c : Cpu) (i : Ins) (ld : Int) (h : c.r.length = 16) : (exV c i ld).cpu.r.length = 16 := by
  unfold exV
  split
  · exact exec_len c i ld h
  · rfl
end Go.Proofs.YtimiofmmhccmmaaDoor
