/-
  What the program's Reads returns. Condition: fields and registers of 64 bits.
-/
import Derived.Test.YtimiofmmhccmmaaDoorIDec
import Derived.Test.YtimiofmmhccmmaaDoorReads
import Derived.Test.YtimiofmmhccmmaaDoorHeld
import Derived.Deep.QuietTactic
import Derived.BigQuiet
namespace Go.Proofs.YtimiofmmhccmmaaDoor
open Go.RowKit

theorem two_old (w : World) (A B : Obj) : ((w.alloc A).alloc B).heap[w.heap.size]? = some A := heap_alloc2_old _ _ _
set_option maxRecDepth 100000 in
theorem reads_any (c : Cpu) (hc : c.Fits) (i : Ins) (hi : i.Fits) (w : World) : Calls Tryd.prog 18 #[.agg (cpuC c), insV i] w (GivesB w (readsA c i) (readsB i)) := by
  obtain ⟨hlen, hr, hpc⟩ := hc
  obtain ⟨op, a, b, d, imm⟩ := i
  obtain ⟨X, hX⟩ : ∃ X, Hid (readsA c ⟨op, a, b, d, imm⟩ = X) := ⟨_, rfl⟩
  obtain ⟨Y, hY⟩ : ∃ Y, Hid (readsB ⟨op, a, b, d, imm⟩ = Y) := ⟨_, rfl⟩
  rw [hX.out, hY.out]
  have qS := Lib.hid (cpuC_reg hlen (show 14 < 16 by omega))
  have qR := fun k (hk : k < 16) => cpuC_reg hlen hk
  have QR := Lib.hid qR
  clear qR
  have qz := Lib.hid (cpuC_size hlen)
  have rb16 : ∀ k, I64 (c.r.getD k 0) := hr
  have RB := Lib.hid rb16
  have IB := Lib.hid hi.imm
  clear rb16 hr hpc hi
  obtain ⟨cs, hcs⟩ : ∃ cs, Hid (cpuC c = cs) := ⟨_, rfl⟩
  rw [hcs.out] at qS qz QR ⊢
  by_cases h4 : op = 4
  · subst h4
    have hx : X = imm := hX.out.symm
    have hy : Y = true := hY.out.symm
    clear hX hY
    subst hx hy
    go_enter Tryd.func18, Tryd.ntmps18
    go_wp2_with fail
    go_ret2
    exact ⟨rfl, ((Below.refl _ _).alloc (Nat.le_refl _) _).alloc (by simp) _⟩
  by_cases h24 : op = 24
  · subst h24
    obtain ⟨x, hx⟩ : ∃ x, Hid (c.r.getD 14 0 = x) := ⟨_, rfl⟩
    have hX2 : X = x := hX.out.symm.trans hx.out
    rw [hx.out] at qS
    have hy : Y = true := hY.out.symm
    clear hX hY hx
    subst hX2 hy
    have B0 := Lib.hid (two_old w (.cells cs 35) (.cells #[.int .i64 24, .int .i64 a, .int .i64 b, .int .i64 d, .int .i64 imm] 23))
    have cS := (cell_of_row _ _ 14 _ _ _ B0.out).trans qS.out
    go_enter Tryd.func18, Tryd.ntmps18
    go_wp2_with fail
    go_ret2
    exact ⟨rfl, ((Below.refl _ _).alloc (Nat.le_refl _) _).alloc (by simp) _⟩
  by_cases h19 : op = 19
  · subst h19
    have hy : Y = true := hY.out.symm
    cases hrb : reg b with
    | false =>
      have hX2 : X = wrap64 (0 + imm) := hX.out.symm.trans (show wrap64 ((if reg b then c.at_ b else 0) + imm) = _ by rw [hrb]; rfl)
      have hX3 : X = imm := by rw [hX2, Int.zero_add, wrap64_id IB.out]
      clear hX hY hX2 h4 h24
      subst hX3 hy
      go_enter Tryd.func18, Tryd.ntmps18
      go_wp2_with (go_at_call 29; refine (reg_isa _ _).mono ?_; rintro e w' ⟨rfl, rfl⟩)
      go_ret2
      exact ⟨rfl, ((Below.refl _ _).alloc (Nat.le_refl _) _).alloc (by simp) _⟩
    | true =>
      obtain ⟨b0, b1⟩ := reg_yes hrb
      have HX := Lib.hid (hX.out.symm.trans (show readsA c ⟨19, a, b, d, imm⟩ = wrap64 (c.at_ b + imm) by show wrap64 ((if reg b then c.at_ b else 0) + imm) = _; rw [hrb]; rfl))
      clear hX hY h4 h24
      subst hy
      obtain ⟨B, rfl⟩ := Int.eq_ofNat_of_zero_le b0
      obtain ⟨x, hx⟩ : ∃ x, Hid (c.r.getD B 0 = x) := ⟨_, rfl⟩
      have qB := QR.out B (by omega)
      rw [hx.out] at qB
      have HX2 : Hid (X = wrap64 (x + imm)) := Lib.hid (HX.out.trans (by rw [← hx.out]; rfl))
      have QB := Lib.hid qB
      clear HX qB hx
      have B0 := Lib.hid (two_old w (.cells cs 35) (.cells #[.int .i64 19, .int .i64 a, .int .i64 B, .int .i64 d, .int .i64 imm] 23))
      have B1 := Lib.hid (heap_alloc2_new w (.cells cs 35) (.cells #[.int .i64 19, .int .i64 a, .int .i64 B, .int .i64 d, .int .i64 imm] 23))
      go_enter Tryd.func18, Tryd.ntmps18
      go_wp2_with (go_at_call 29; refine (reg_isa _ _).mono ?_; rintro e w' ⟨rfl, rfl⟩)
      have cB := (cell_of_row _ _ B _ _ _ B0.out).trans QB.out
      have c2 := cell_of_row _ _ 2 _ _ _ B1.out
      have c4 := cell_of_row _ _ 4 _ _ _ B1.out
      simp only [List.getElem?_toArray, List.getElem?_cons_zero, List.getElem?_cons_succ] at c2 c4
      go_quiet (fail)
      clear cB c2 c4
      go_wp2_with fail
      go_ret2
      have HB := ((Below.refl w.heap.size w).alloc (Nat.le_refl _) (.cells cs 35)).alloc (by simp) (.cells #[.int .i64 19, .int .i64 a, .int .i64 B, .int .i64 d, .int .i64 imm] 23)
      exact ⟨by rw [HX2.out, ← wrap64_kind]; rfl, ⟨HB.os, HB.tape, HB.output, HB.size, HB.block⟩⟩
  · have hx : X = 0 := hX.out.symm.trans (by unfold readsA; rw [if_neg h4, if_neg h19, if_neg h24])
    have hy : Y = false := hY.out.symm.trans (by simp [readsB, h4, h19, h24])
    clear hX hY
    subst hx hy
    have n4 : (op == 4) = false := by simpa using h4
    have n19 : (op == 19) = false := by simpa using h19
    have n24 : (op == 24) = false := by simpa using h24
    go_enter Tryd.func18, Tryd.ntmps18
    go_wp2_with fail
    go_ret2
    exact ⟨rfl, ((Below.refl _ _).alloc (Nat.le_refl _) _).alloc (by simp) _⟩
end Go.Proofs.YtimiofmmhccmmaaDoor
