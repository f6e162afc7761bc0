/-
  What the specification's Step returns: the plain step. Condition: a memory of its caller's that reads as a list, registers of 64 bits.
-/
import Derived.Test.YtimiofmmhccmmaaDoorStp
namespace Go.Proofs.YtimiofmmhccmmaaDoor
open Go.RowKit

theorem exV_of {c : Cpu} {i : Ins} {ld : Int} (h : exE i = 0) : exV c i ld = exec c i ld := by
  unfold exE at h
  by_cases hc : encE i = 0 ∧ i.op ≠ 2
  · exact if_pos hc
  · rw [if_neg hc] at h; cases h
theorem exE_cases (i : Ins) : exE i = 0 ∨ exE i = 14 := by
  unfold exE
  split
  · exact .inl rfl
  · exact .inr rfl
/-- A step that fails, or one that is made. -/
def Stepped (w : World) (M : Nat) (m : List Int) (c : Cpu) (e : Ending) (w' : World) : Prop := (stepP m c = none ∧ Fails w c e w') ∨ ∃ m' x, stepP m c = some (m', x) ∧ Steps w M m' x e w'
theorem refStep_any (m : List Int) (hm : All64 m) (M : Nat) (c : Cpu) (hc : c.Fits) (w : World) (hM : w.heap[M]? = some (.cells (numsC m) 3 (0, 0))) (hlen : m.length ≤ 16384) : Calls Tryd.prog 41 #[.slice (some ⟨M, 0, none⟩) m.length m.length, .agg (cpuC c)] w (Stepped w M m c) := by
  by_cases a0 : c.pc < 0
  · exact (stp_low m hm M c hc w hM hlen a0).mono fun _ _ h => .inl ⟨by unfold stepP; rw [if_pos (.inl a0)], h⟩
  by_cases a1 : (m.length : Int) ≤ c.pc
  · exact (stp_high m hm M c hc w hM hlen (by omega) a1).mono fun _ _ h => .inl ⟨by unfold stepP; rw [if_pos (.inr a1)], h⟩
  obtain ⟨p, hp⟩ := Int.eq_ofNat_of_zero_le (show 0 ≤ c.pc by omega)
  have hlt : p < m.length := by omega
  obtain ⟨v, hv⟩ : ∃ v, m.getD p 0 = v := ⟨_, rfl⟩
  obtain ⟨x, hx⟩ : ∃ x, decI v = x := ⟨_, rfl⟩
  have q0 : ¬ (c.pc < 0 ∨ (m.length : Int) ≤ c.pc) := by omega
  have qv : m.getD c.pc.toNat 0 = v := by rw [hp]; exact hv
  by_cases a2 : decE v ≠ 0
  · exact (stp_dec m hm M c hc w hM hlen p hp hlt v hv x hx a2).mono fun _ _ h => .inl ⟨by unfold stepP; rw [if_neg q0, qv, if_pos a2], h⟩
  have a2' : decE v = 0 := by simpa using a2
  cases hrb : readsB x with
  | true =>
    by_cases b0 : readsA c x < 0
    · exact (stp_rlow m hm M c hc w hM hlen p hp hlt v hv x hx a2' hrb b0).mono fun _ _ h => .inl ⟨by unfold stepP; rw [if_neg q0, qv, if_neg a2, hx, if_pos ⟨hrb, .inl b0⟩], h⟩
    by_cases b1 : (m.length : Int) ≤ readsA c x
    · exact (stp_rhigh m hm M c hc w hM hlen p hp hlt v hv x hx a2' hrb (by omega) b1).mono fun _ _ h => .inl ⟨by unfold stepP; rw [if_neg q0, qv, if_neg a2, hx, if_pos ⟨hrb, .inr b1⟩], h⟩
    have q3 : ¬ (readsB x = true ∧ (readsA c x < 0 ∨ (m.length : Int) ≤ readsA c x)) := fun h => by omega
    obtain ⟨q, hq⟩ := Int.eq_ofNat_of_zero_le (show 0 ≤ readsA c x by omega)
    have hqm : q < m.length := by omega
    obtain ⟨ld, hld⟩ : ∃ y, m.getD q 0 = y := ⟨_, rfl⟩
    have qld : (if readsB x = true then m.getD (readsA c x).toNat 0 else 0) = ld := by rw [if_pos hrb, hq]; exact hld
    rcases exE_cases x with he | he
    · have hX : exV c x ld = exec c x ld := exV_of he
      have e0 : stepP m c = if (exV c x ld).stores = true ∧ ((exV c x ld).addr < 0 ∨ (m.length : Int) ≤ (exV c x ld).addr) then none else some (if (exV c x ld).stores = true then m.set (exV c x ld).addr.toNat (exV c x ld).word else m, exV c x ld) := by
        unfold stepP
        rw [if_neg q0, qv, if_neg a2, hx, if_neg q3, if_neg (by rw [he]; decide)]
        simp only
        rw [qld, ← hX]
      cases hst : (exV c x ld).stores with
      | false => exact (stp_ok_r m hm M c hc w hM hlen p hp hlt v hv x hx a2' hrb q hq hqm ld hld he hst).mono fun _ _ h => .inr ⟨_, _, by rw [e0, hst]; rfl, h⟩
      | true =>
        by_cases s0 : (exV c x ld).addr < 0
        · exact (stp_slow_r m hm M c hc w hM hlen p hp hlt v hv x hx a2' hrb q hq hqm ld hld he hst s0).mono fun _ _ h => .inl ⟨by rw [e0, if_pos ⟨hst, .inl s0⟩], h⟩
        by_cases s1 : (m.length : Int) ≤ (exV c x ld).addr
        · exact (stp_shigh_r m hm M c hc w hM hlen p hp hlt v hv x hx a2' hrb q hq hqm ld hld he hst (by omega) s1).mono fun _ _ h => .inl ⟨by rw [e0, if_pos ⟨hst, .inr s1⟩], h⟩
        obtain ⟨ad, had⟩ := Int.eq_ofNat_of_zero_le (show 0 ≤ (exV c x ld).addr by omega)
        exact (stp_set_r m hm M c hc w hM hlen p hp hlt v hv x hx a2' hrb q hq hqm ld hld he hst ad had (by omega)).mono fun _ _ h => .inr ⟨_, _, by rw [e0, if_neg (fun h => by omega), if_pos hst, had]; rfl, h⟩
    · exact (stp_exec_r m hm M c hc w hM hlen p hp hlt v hv x hx a2' hrb q hq hqm ld hld he).mono fun _ _ h => .inl ⟨by unfold stepP; rw [if_neg q0, qv, if_neg a2, hx, if_neg q3, if_pos (by rw [he]; decide)], h⟩
  | false =>
    have q3 : ¬ (readsB x = true ∧ (readsA c x < 0 ∨ (m.length : Int) ≤ readsA c x)) := fun h => by rw [hrb] at h; cases h.1
    have qld : (if readsB x = true then m.getD (readsA c x).toNat 0 else 0) = 0 := by rw [hrb]; rfl
    rcases exE_cases x with he | he
    · have hX : exV c x 0 = exec c x 0 := exV_of he
      have e0 : stepP m c = if (exV c x 0).stores = true ∧ ((exV c x 0).addr < 0 ∨ (m.length : Int) ≤ (exV c x 0).addr) then none else some (if (exV c x 0).stores = true then m.set (exV c x 0).addr.toNat (exV c x 0).word else m, exV c x 0) := by
        unfold stepP
        rw [if_neg q0, qv, if_neg a2, hx, if_neg q3, if_neg (by rw [he]; decide)]
        simp only
        rw [qld, ← hX]
      cases hst : (exV c x 0).stores with
      | false => exact (stp_ok_n m hm M c hc w hM hlen p hp hlt v hv x hx a2' hrb he hst).mono fun _ _ h => .inr ⟨_, _, by rw [e0, hst]; rfl, h⟩
      | true =>
        by_cases s0 : (exV c x 0).addr < 0
        · exact (stp_slow_n m hm M c hc w hM hlen p hp hlt v hv x hx a2' hrb he hst s0).mono fun _ _ h => .inl ⟨by rw [e0, if_pos ⟨hst, .inl s0⟩], h⟩
        by_cases s1 : (m.length : Int) ≤ (exV c x 0).addr
        · exact (stp_shigh_n m hm M c hc w hM hlen p hp hlt v hv x hx a2' hrb he hst (by omega) s1).mono fun _ _ h => .inl ⟨by rw [e0, if_pos ⟨hst, .inr s1⟩], h⟩
        obtain ⟨ad, had⟩ := Int.eq_ofNat_of_zero_le (show 0 ≤ (exV c x 0).addr by omega)
        exact (stp_set_n m hm M c hc w hM hlen p hp hlt v hv x hx a2' hrb he hst ad had (by omega)).mono fun _ _ h => .inr ⟨_, _, by rw [e0, if_neg (fun h => by omega), if_pos hst, had]; rfl, h⟩
    · exact (stp_exec_n m hm M c hc w hM hlen p hp hlt v hv x hx a2' hrb he).mono fun _ _ h => .inl ⟨by unfold stepP; rw [if_neg q0, qv, if_neg a2, hx, if_neg q3, if_pos (by rw [he]; decide)], h⟩
end Go.Proofs.YtimiofmmhccmmaaDoor
