/-
  Plain words: what is executed keeps numbers of 64 bits: registers, memory, the output. No condition.
-/
import Derived.Test.YtimiofmmhccmmaaDoorRun
namespace Go.Proofs.YtimiofmmhccmmaaDoor
open Go.RowKit

theorem zero64 : I64 0 := ⟨by decide, by decide⟩
/-- All elements are numbers of 64 bits. -/
def All64 (l : List Int) : Prop := ∀ k : Nat, I64 (l.getD k 0)
theorem all_set {l : List Int} (h : All64 l) (n : Nat) {v : Int} (hv : I64 v) : All64 (l.set n v) := fun k => by
  by_cases hk : n = k
  · subst hk
    by_cases hl : n < l.length
    · simpa [List.getD_eq_getElem?_getD, hl] using hv
    · rw [List.getD_eq_getElem?_getD, List.getElem?_eq_none (by simp; omega)]
      exact zero64
  · have := h k
    rw [List.getD_eq_getElem?_getD] at this ⊢
    rwa [List.getElem?_set_ne hk]
theorem all_append {l m : List Int} (h : All64 l) (h' : All64 m) : All64 (l ++ m) := fun k => by
  rw [List.getD_eq_getElem?_getD]
  by_cases hk : k < l.length
  · rw [List.getElem?_append_left hk, ← List.getD_eq_getElem?_getD]
    exact h k
  · rw [List.getElem?_append_right (by omega), ← List.getD_eq_getElem?_getD]
    exact h' _
theorem all_nil : All64 [] := fun k => by simpa using zero64
theorem all_one {v : Int} (h : I64 v) : All64 [v] := fun k => by
  cases k with
  | zero => exact h
  | succ k => simpa using zero64
theorem exec_fits {c : Cpu} {i : Ins} {ld : Int} (hc : c.Fits) (hi : i.Fits) (hld : I64 ld) : (exec c i ld).cpu.Fits ∧ I64 (exec c i ld).addr ∧ I64 (exec c i ld).word ∧ I64 (exec c i ld).print := by
  have hr : All64 c.r := hc.r
  have hat : ∀ n : Int, I64 (c.at_ n) := fun n => hc.r n.toNat
  have mk : ∀ (r : List Int) (p : Int), r.length = 16 → All64 r → I64 p → (⟨r, p⟩ : Cpu).Fits := fun r p h1 h2 h3 => ⟨h1, h2, h3⟩
  have put : ∀ (n : Nat) (v : Int), I64 v → (⟨c.r.set n v, wrap64 (c.pc + 1)⟩ : Cpu).Fits := fun n v hv => mk _ _ (by simpa using hc.len) (all_set hr n hv) (wrap64_fits _)
  have same : (⟨c.r, wrap64 (c.pc + 1)⟩ : Cpu).Fits := mk _ _ hc.len hr (wrap64_fits _)
  unfold exec
  (try simp only)
  by_cases h1 : i.op = 1
  · rw [if_pos h1]; exact ⟨same, zero64, zero64, zero64⟩
  rw [if_neg h1]
  by_cases h3 : i.op = 3
  · rw [if_pos h3]; exact ⟨put _ _ hi.imm, zero64, zero64, zero64⟩
  rw [if_neg h3]
  by_cases h4 : i.op = 4 ∨ i.op = 19
  · rw [if_pos h4]; exact ⟨put _ _ hld, zero64, zero64, zero64⟩
  rw [if_neg h4]
  by_cases h5 : i.op = 5
  · rw [if_pos h5]; exact ⟨put _ _ (hat _), zero64, zero64, zero64⟩
  rw [if_neg h5]
  by_cases h18 : i.op = 18
  · rw [if_pos h18]; exact ⟨put _ _ (wrap64_fits _), zero64, zero64, zero64⟩
  rw [if_neg h18]
  by_cases h20 : i.op = 20
  · rw [if_pos h20]; exact ⟨same, wrap64_fits _, hat _, zero64⟩
  rw [if_neg h20]
  by_cases h21 : i.op = 21
  · rw [if_pos h21]; exact ⟨mk _ _ hc.len hr hi.imm, zero64, zero64, zero64⟩
  rw [if_neg h21]
  by_cases h22 : i.op = 22
  · rw [if_pos h22]; exact ⟨mk _ _ hc.len hr (fits_ite hi.imm (wrap64_fits _)), zero64, zero64, zero64⟩
  rw [if_neg h22]
  by_cases h23 : i.op = 23
  · rw [if_pos h23]; exact ⟨mk _ _ (by simpa using hc.len) (all_set hr _ (wrap64_fits _)) hi.imm, wrap64_fits _, wrap64_fits _, zero64⟩
  rw [if_neg h23]
  by_cases h24 : i.op = 24
  · rw [if_pos h24]; exact ⟨mk _ _ (by simpa using hc.len) (all_set hr _ (wrap64_fits _)) hld, zero64, zero64, zero64⟩
  rw [if_neg h24]
  by_cases h25 : i.op = 25
  · rw [if_pos h25]; exact ⟨same, zero64, zero64, hat _⟩
  rw [if_neg h25]
  exact ⟨put _ _ (opv_fits _ (hat _) (hat _)), zero64, zero64, zero64⟩
theorem decI_fits {v : Int} (hv : I64 v) : (decI v).Fits := by
  by_cases h : encE (split v) = 0
  · rw [decI_yes h]; exact split_fits hv
  · rw [decI_no h]; exact ⟨zero64, zero64, zero64, zero64, zero64⟩
/-- A step keeps them, and the memory's length. -/
theorem step_fits {mem mem' : List Int} {c : Cpu} {x : Eff} (hm : All64 mem) (hc : c.Fits) (h : stepP mem c = some (mem', x)) : All64 mem' ∧ mem'.length = mem.length ∧ x.cpu.Fits ∧ I64 x.print := by
  unfold stepP at h
  by_cases a1 : c.pc < 0 ∨ (mem.length : Int) ≤ c.pc
  · rw [if_pos a1] at h; cases h
  rw [if_neg a1] at h
  have hv : I64 (mem.getD c.pc.toNat 0) := hm _
  generalize mem.getD c.pc.toNat 0 = v at h hv
  by_cases a2 : decE v ≠ 0
  · rw [if_pos a2] at h; cases h
  rw [if_neg a2] at h
  by_cases a3 : readsB (decI v) = true ∧ (readsA c (decI v) < 0 ∨ (mem.length : Int) ≤ readsA c (decI v))
  · rw [if_pos a3] at h; cases h
  rw [if_neg a3] at h
  by_cases a4 : exE (decI v) ≠ 0
  · rw [if_pos a4] at h; cases h
  rw [if_neg a4] at h
  have hld : I64 (if readsB (decI v) = true then mem.getD (readsA c (decI v)).toNat 0 else 0) := fits_ite (hm _) zero64
  have he := exec_fits hc (decI_fits hv) hld
  obtain ⟨X, hX⟩ : ∃ X, exec c (decI v) (if readsB (decI v) = true then mem.getD (readsA c (decI v)).toNat 0 else 0) = X := ⟨_, rfl⟩
  have h' : (if X.stores = true ∧ (X.addr < 0 ∨ (mem.length : Int) ≤ X.addr) then none else some (if X.stores = true then mem.set X.addr.toNat X.word else mem, X)) = some (mem', x) := by
    rw [← hX]
    exact h
  rw [hX] at he
  by_cases a5 : X.stores = true ∧ (X.addr < 0 ∨ (mem.length : Int) ≤ X.addr)
  · rw [if_pos a5] at h'; cases h'
  rw [if_neg a5] at h'
  simp only [Option.some.injEq, Prod.mk.injEq] at h'
  obtain ⟨h1, h2⟩ := h'
  subst h2
  refine ⟨?_, ?_, he.1, he.2.2.2⟩
  · rw [← h1]
    split
    · exact all_set hm _ he.2.2.1
    · exact hm
  · rw [← h1]
    split
    · simp
    · rfl
/-- What a run prints are numbers of 64 bits; its value too. -/
theorem run_fits : ∀ (n : Nat) (mem : List Int) (c : Cpu) (out : List Int), All64 mem → c.Fits → All64 out → All64 (runP n mem c out).output ∧ I64 (runP n mem c out).value
  | 0, mem, c, out, _, hc, ho => by
    by_cases h : c.pc = -1
    · rw [runP_end h]; exact ⟨ho, hc.r 0⟩
    · rw [runP_zero h]; exact ⟨ho, zero64⟩
  | n + 1, mem, c, out, hm, hc, ho => by
    by_cases h : c.pc = -1
    · rw [runP_end h]; exact ⟨ho, hc.r 0⟩
    · cases hs : stepP mem c with
      | none => rw [runP_fault h hs]; exact ⟨ho, zero64⟩
      | some r =>
        obtain ⟨mem', x⟩ := r
        rw [runP_step h hs]
        obtain ⟨h1, h2, h3, h4⟩ := step_fits hm hc hs
        refine run_fits n mem' x.cpu _ h1 h3 ?_
        split
        · exact all_append ho (all_one h4)
        · exact ho
end Go.Proofs.YtimiofmmhccmmaaDoor
