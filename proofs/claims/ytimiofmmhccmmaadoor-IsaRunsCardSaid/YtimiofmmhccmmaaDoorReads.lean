/-
  What the specification's get and Reads return. Condition: fields and registers of 64 bits.
-/
import Derived.Test.YtimiofmmhccmmaaDoorHeld
import Derived.Deep.RegionHeld3
namespace Go.Proofs.YtimiofmmhccmmaaDoor
open Go.RowKit

set_option maxRecDepth 100000 in
theorem get_any (c : Cpu) (hlen : c.r.length = 16) (n : Int) (hn : I64 n) (w : World) :
    Calls Tryd.prog 35 #[.agg (cpuC c), .int .i64 n] w fun e w' => e = .returned (.int .i64 (if reg n then c.at_ n else 0)) ∧ Below w.heap.size w w' := by
  obtain ⟨hn0, hn1⟩ := hn
  cases hr : reg n with
  | false =>
    obtain ⟨cs, hcs⟩ : ∃ cs, Hid (cpuC c = cs) := ⟨_, rfl⟩
    rw [hcs.out]
    go_enter Tryd.func35, Tryd.ntmps35
    go_wp2_with (go_at_call 30; refine (register_any _ _).mono ?_; rintro e w' ⟨rfl, rfl⟩)
    go_ret
    exact ⟨rfl, (Below.refl _ _).alloc (Nat.le_refl _) _⟩
  | true =>
    obtain ⟨h0, h1⟩ := reg_yes hr
    obtain ⟨A, rfl⟩ := Int.eq_ofNat_of_zero_le h0
    have qA := Lib.hid (cpuC_reg hlen (show A < 16 by omega))
    obtain ⟨x, hx⟩ : ∃ x, Hid (c.r.getD A 0 = x) := ⟨_, rfl⟩
    have hv : (if (true : Bool) = true then c.at_ (A : Int) else 0) = x := hx.out
    rw [hv]
    obtain ⟨cs, hcs⟩ : ∃ cs, Hid (cpuC c = cs) := ⟨_, rfl⟩
    rw [hcs.out, hx.out] at qA
    rw [hcs.out]
    have hz := Lib.hid (heap_alloc_new w (.cells cs 35))
    have cA := (cell_of_row _ _ A _ _ _ hz.out).trans qA.out
    clear hv
    go_enter Tryd.func35, Tryd.ntmps35
    go_wp2_with (go_at_call 30; refine (register_any _ _).mono ?_; rintro e w' ⟨rfl, rfl⟩)
    go_ret
    exact ⟨rfl, (Below.refl _ _).alloc (Nat.le_refl _) _⟩
-- READS
/-- A call that returns a number and a mark, and makes memory at most. -/
def GivesB (w : World) (x : Int) (y : Bool) (e : Ending) (w' : World) : Prop := e = .returned (.tuple #[.int .i64 x, .bool y]) ∧ Below w.heap.size w w'
set_option maxRecDepth 100000 in
set_option maxHeartbeats 2000000 in
theorem refReads_any (c : Cpu) (hc : c.Fits) (i : Ins) (hi : i.Fits) (w : World) :
    Calls Tryd.prog 19 #[.agg (cpuC c), insV i] w (GivesB w (readsA c i) (readsB i)) := by
  obtain ⟨hlen, hr, hpc⟩ := hc
  obtain ⟨op, a, b, d, imm⟩ := i
  have hbf := hi.b
  clear hi
  obtain ⟨l, pc⟩ := c
  simp only at hlen
  obtain ⟨r0, r1, r2, r3, r4, r5, r6, r7, r8, r9, r10, r11, r12, r13, r14, r15, rfl⟩ := list16 hlen
  clear hr hpc hlen
  obtain ⟨X, hX⟩ : ∃ X, Hid (readsA ⟨[r0, r1, r2, r3, r4, r5, r6, r7, r8, r9, r10, r11, r12, r13, r14, r15], pc⟩ ⟨op, a, b, d, imm⟩ = X) := ⟨_, rfl⟩
  obtain ⟨Y, hY⟩ : ∃ Y, Hid (readsB ⟨op, a, b, d, imm⟩ = Y) := ⟨_, rfl⟩
  rw [hX.out, hY.out]
  change Calls _ _ #[.agg #[.int .i64 r0, .int .i64 r1, .int .i64 r2, .int .i64 r3, .int .i64 r4, .int .i64 r5, .int .i64 r6, .int .i64 r7, .int .i64 r8, .int .i64 r9, .int .i64 r10, .int .i64 r11, .int .i64 r12, .int .i64 r13, .int .i64 r14, .int .i64 r15, .int .i64 pc], _] _ _
  by_cases h4 : op = 4
  · subst h4
    have hx : X = imm := hX.out.symm
    have hy : Y = true := hY.out.symm
    clear hX hY
    subst hx hy
    go_enter Tryd.func19, Tryd.ntmps19
    go_wp2_with fail
    go_ret2
    exact ⟨rfl, ((Below.refl _ _).alloc (Nat.le_refl _) _).alloc (by simp) _⟩
  by_cases h24 : op = 24
  · subst h24
    have hx : X = r14 := hX.out.symm
    have hy : Y = true := hY.out.symm
    clear hX hY
    subst hx hy
    go_enter Tryd.func19, Tryd.ntmps19
    go_wp2_with fail
    go_ret2
    exact ⟨rfl, ((Below.refl _ _).alloc (Nat.le_refl _) _).alloc (by simp) _⟩
  by_cases h19 : op = 19
  · subst h19
    obtain ⟨g, hg⟩ : ∃ g, Hid ((if reg b then (⟨[r0, r1, r2, r3, r4, r5, r6, r7, r8, r9, r10, r11, r12, r13, r14, r15], pc⟩ : Cpu).at_ b else 0) = g) := ⟨_, rfl⟩
    have hx : X = wrap64 (g + imm) := hX.out.symm.trans (by rw [← hg.out]; rfl)
    have hy : Y = true := hY.out.symm
    clear hX hY h4 h24
    subst hx hy
    have key : ∀ W : World, Calls Tryd.prog 35 #[.agg #[.int .i64 r0, .int .i64 r1, .int .i64 r2, .int .i64 r3, .int .i64 r4, .int .i64 r5, .int .i64 r6, .int .i64 r7, .int .i64 r8, .int .i64 r9, .int .i64 r10, .int .i64 r11, .int .i64 r12, .int .i64 r13, .int .i64 r14, .int .i64 r15, .int .i64 pc], .int .i64 b] W fun e w' => e = .returned (.int .i64 g) ∧ Below W.heap.size W w' := fun W => by
      rw [← hg.out]
      exact get_any ⟨[r0, r1, r2, r3, r4, r5, r6, r7, r8, r9, r10, r11, r12, r13, r14, r15], pc⟩ rfl b hbf W
    have key := Lib.hid key
    clear hbf
    go_enter Tryd.func19, Tryd.ntmps19
    go_wp2_with fail
    have hS : (fun w' => w'.cell? ⟨w.heap.size, 0, none⟩ = some (.int .i64 r0) ∧ w'.cell? ⟨w.heap.size, 1, none⟩ = some (.int .i64 r1) ∧ w'.cell? ⟨w.heap.size, 2, none⟩ = some (.int .i64 r2) ∧ w'.cell? ⟨w.heap.size, 3, none⟩ = some (.int .i64 r3) ∧ w'.cell? ⟨w.heap.size, 4, none⟩ = some (.int .i64 r4) ∧ w'.cell? ⟨w.heap.size, 5, none⟩ = some (.int .i64 r5) ∧ w'.cell? ⟨w.heap.size, 6, none⟩ = some (.int .i64 r6) ∧ w'.cell? ⟨w.heap.size, 7, none⟩ = some (.int .i64 r7) ∧ w'.cell? ⟨w.heap.size, 8, none⟩ = some (.int .i64 r8) ∧ w'.cell? ⟨w.heap.size, 9, none⟩ = some (.int .i64 r9) ∧ w'.cell? ⟨w.heap.size, 10, none⟩ = some (.int .i64 r10) ∧ w'.cell? ⟨w.heap.size, 11, none⟩ = some (.int .i64 r11) ∧ w'.cell? ⟨w.heap.size, 12, none⟩ = some (.int .i64 r12) ∧ w'.cell? ⟨w.heap.size, 13, none⟩ = some (.int .i64 r13) ∧ w'.cell? ⟨w.heap.size, 14, none⟩ = some (.int .i64 r14) ∧ w'.cell? ⟨w.heap.size, 15, none⟩ = some (.int .i64 r15) ∧ w'.cell? ⟨w.heap.size, 16, none⟩ = some (.int .i64 pc) ∧ w'.cell? ⟨w.heap.size + 1, 2, none⟩ = some (.int .i64 b) ∧ w'.cell? ⟨w.heap.size + 1, 4, none⟩ = some (.int .i64 imm)) ((w.alloc (.cells #[.int .i64 r0, .int .i64 r1, .int .i64 r2, .int .i64 r3, .int .i64 r4, .int .i64 r5, .int .i64 r6, .int .i64 r7, .int .i64 r8, .int .i64 r9, .int .i64 r10, .int .i64 r11, .int .i64 r12, .int .i64 r13, .int .i64 r14, .int .i64 r15, .int .i64 pc] 35)).alloc (.cells #[.int .i64 19, .int .i64 a, .int .i64 b, .int .i64 d, .int .i64 imm] 23)) := by
      refine ⟨?_, ?_, ?_, ?_, ?_, ?_, ?_, ?_, ?_, ?_, ?_, ?_, ?_, ?_, ?_, ?_, ?_, ?_, ?_⟩ <;> go_cell
    obtain ⟨s0, s1, s2, s3, s4, s5, s6, s7, s8, s9, s10, s11, s12, s13, s14, s15, s16, s17, s18⟩ := id hS
    go_region_held3 (fun w' => w'.cell? ⟨w.heap.size, 0, none⟩ = some (.int .i64 r0) ∧ w'.cell? ⟨w.heap.size, 1, none⟩ = some (.int .i64 r1) ∧ w'.cell? ⟨w.heap.size, 2, none⟩ = some (.int .i64 r2) ∧ w'.cell? ⟨w.heap.size, 3, none⟩ = some (.int .i64 r3) ∧ w'.cell? ⟨w.heap.size, 4, none⟩ = some (.int .i64 r4) ∧ w'.cell? ⟨w.heap.size, 5, none⟩ = some (.int .i64 r5) ∧ w'.cell? ⟨w.heap.size, 6, none⟩ = some (.int .i64 r6) ∧ w'.cell? ⟨w.heap.size, 7, none⟩ = some (.int .i64 r7) ∧ w'.cell? ⟨w.heap.size, 8, none⟩ = some (.int .i64 r8) ∧ w'.cell? ⟨w.heap.size, 9, none⟩ = some (.int .i64 r9) ∧ w'.cell? ⟨w.heap.size, 10, none⟩ = some (.int .i64 r10) ∧ w'.cell? ⟨w.heap.size, 11, none⟩ = some (.int .i64 r11) ∧ w'.cell? ⟨w.heap.size, 12, none⟩ = some (.int .i64 r12) ∧ w'.cell? ⟨w.heap.size, 13, none⟩ = some (.int .i64 r13) ∧ w'.cell? ⟨w.heap.size, 14, none⟩ = some (.int .i64 r14) ∧ w'.cell? ⟨w.heap.size, 15, none⟩ = some (.int .i64 r15) ∧ w'.cell? ⟨w.heap.size, 16, none⟩ = some (.int .i64 pc) ∧ w'.cell? ⟨w.heap.size + 1, 2, none⟩ = some (.int .i64 b) ∧ w'.cell? ⟨w.heap.size + 1, 4, none⟩ = some (.int .i64 imm)) (first | assumption) ((go_at_call 35; refine (key.out _).mono ?_; rintro e w1 ⟨rfl, hb1⟩; have hS1 : (fun w' => w'.cell? ⟨w.heap.size, 0, none⟩ = some (.int .i64 r0) ∧ w'.cell? ⟨w.heap.size, 1, none⟩ = some (.int .i64 r1) ∧ w'.cell? ⟨w.heap.size, 2, none⟩ = some (.int .i64 r2) ∧ w'.cell? ⟨w.heap.size, 3, none⟩ = some (.int .i64 r3) ∧ w'.cell? ⟨w.heap.size, 4, none⟩ = some (.int .i64 r4) ∧ w'.cell? ⟨w.heap.size, 5, none⟩ = some (.int .i64 r5) ∧ w'.cell? ⟨w.heap.size, 6, none⟩ = some (.int .i64 r6) ∧ w'.cell? ⟨w.heap.size, 7, none⟩ = some (.int .i64 r7) ∧ w'.cell? ⟨w.heap.size, 8, none⟩ = some (.int .i64 r8) ∧ w'.cell? ⟨w.heap.size, 9, none⟩ = some (.int .i64 r9) ∧ w'.cell? ⟨w.heap.size, 10, none⟩ = some (.int .i64 r10) ∧ w'.cell? ⟨w.heap.size, 11, none⟩ = some (.int .i64 r11) ∧ w'.cell? ⟨w.heap.size, 12, none⟩ = some (.int .i64 r12) ∧ w'.cell? ⟨w.heap.size, 13, none⟩ = some (.int .i64 r13) ∧ w'.cell? ⟨w.heap.size, 14, none⟩ = some (.int .i64 r14) ∧ w'.cell? ⟨w.heap.size, 15, none⟩ = some (.int .i64 r15) ∧ w'.cell? ⟨w.heap.size, 16, none⟩ = some (.int .i64 pc) ∧ w'.cell? ⟨w.heap.size + 1, 2, none⟩ = some (.int .i64 b) ∧ w'.cell? ⟨w.heap.size + 1, 4, none⟩ = some (.int .i64 imm)) w1 := ⟨(hb1.cell (by simp; omega)).trans s0, (hb1.cell (by simp; omega)).trans s1, (hb1.cell (by simp; omega)).trans s2, (hb1.cell (by simp; omega)).trans s3, (hb1.cell (by simp; omega)).trans s4, (hb1.cell (by simp; omega)).trans s5, (hb1.cell (by simp; omega)).trans s6, (hb1.cell (by simp; omega)).trans s7, (hb1.cell (by simp; omega)).trans s8, (hb1.cell (by simp; omega)).trans s9, (hb1.cell (by simp; omega)).trans s10, (hb1.cell (by simp; omega)).trans s11, (hb1.cell (by simp; omega)).trans s12, (hb1.cell (by simp; omega)).trans s13, (hb1.cell (by simp; omega)).trans s14, (hb1.cell (by simp; omega)).trans s15, (hb1.cell (by simp; omega)).trans s16, (hb1.cell (by simp)).trans s17, (hb1.cell (by simp)).trans s18⟩))
    have HB := Lib.hid (((((Below.refl w.heap.size w).alloc (Nat.le_refl _) (.cells #[.int .i64 r0, .int .i64 r1, .int .i64 r2, .int .i64 r3, .int .i64 r4, .int .i64 r5, .int .i64 r6, .int .i64 r7, .int .i64 r8, .int .i64 r9, .int .i64 r10, .int .i64 r11, .int .i64 r12, .int .i64 r13, .int .i64 r14, .int .i64 r15, .int .i64 pc] 35)).alloc (by simp) (.cells #[.int .i64 19, .int .i64 a, .int .i64 b, .int .i64 d, .int .i64 imm] 23)).drew).trans (hb1.mono (by simp; omega)))
    clear hS s0 s1 s2 s3 s4 s5 s6 s7 s8 s9 s10 s11 s12 s13 s14 s15 s16 s17 s18 hS1 hb1
    go_wp2_with fail
    go_ret2
    exact ⟨by rw [← wrap64_kind]; rfl, HB.out⟩
  · have hx : X = 0 := hX.out.symm.trans (by unfold readsA; rw [if_neg h4, if_neg h19, if_neg h24])
    have hy : Y = false := hY.out.symm.trans (by simp [readsB, h4, h19, h24])
    clear hX hY
    subst hx hy
    have n4 : (op == 4) = false := by simpa using h4
    have n19 : (op == 19) = false := by simpa using h19
    have n24 : (op == 24) = false := by simpa using h24
    go_enter Tryd.func19, Tryd.ntmps19
    go_wp2_with fail
    go_ret2
    exact ⟨rfl, ((Below.refl _ _).alloc (Nat.le_refl _) _).alloc (by simp) _⟩
end Go.Proofs.YtimiofmmhccmmaaDoor
