/-
  IsaCalls: a call and a return. Condition: the program's functions (see XIsaC).
-/
import Derived.Test.YtimiofmmhccmmaaDoorLawBack
import Derived.Test.YtimiofmmhccmmaaDoorExAll
namespace Go.Proofs.YtimiofmmhccmmaaDoor
open Go.RowKit

theorem z64 : I64 0 := ⟨by decide, by decide⟩
theorem enc_call (imm : Int) (h0 : 0 ≤ imm) (h1 : imm < 1073741824) : encE ⟨23, 0, 0, 0, imm⟩ = 0 := of_ok ⟨(by decide : (1 : Int) ≤ 23 ∧ (23 : Int) < 26), (by decide : (0 : Int) ≤ 0 ∧ (0 : Int) < 16), (by decide : (0 : Int) ≤ 0 ∧ (0 : Int) < 16), (by decide : (0 : Int) ≤ 0 ∧ (0 : Int) < 16), by show _ ≤ imm ∧ imm < _; omega⟩
theorem enc_ret : encE ⟨24, 0, 0, 0, 0⟩ = 0 := by decide
theorem up_down {x : Int} (h : I64 x) : wrap64 (wrap64 (x - 1) + 1) = x := by
  rw [wrap64_eq, wrap64_eq]
  unfold I64 at h
  omega
/-- The call's effect, and the return's. -/
theorem call_then {c : Cpu} (hc : c.Fits) (imm bk : Int) (h0 : 0 ≤ imm) (h1 : imm < 1073741824) : ∃ p q : Eff, exV c ⟨23, 0, 0, 0, imm⟩ 0 = p ∧ p.cpu.Fits ∧ p.cpu.pc = imm ∧ p.stores = true ∧ p.word = wrap64 (c.pc + 1) ∧ readsA p.cpu ⟨24, 0, 0, 0, 0⟩ = p.addr ∧ exV p.cpu ⟨24, 0, 0, 0, 0⟩ bk = q ∧ q.cpu.pc = bk ∧ q.cpu.r = c.r := by
  refine ⟨_, _, exV_yes c 0 (enc_call imm h0 h1) (show (23 : Int) ≠ 2 by decide), ?_, rfl, rfl, rfl, ?_, exV_yes _ bk enc_ret (show (24 : Int) ≠ 2 by decide), rfl, ?_⟩
  · obtain ⟨l, pc⟩ := c
    have hlen := hc.len
    simp only at hlen
    obtain ⟨r0, r1, r2, r3, r4, r5, r6, r7, r8, r9, r10, r11, r12, r13, r14, r15, rfl⟩ := list16 hlen
    refine ⟨rfl, fun k => ?_, ⟨by show _ ≤ imm; omega, by show imm < _; omega⟩⟩
    have := hc.r k
    match k with
    | 14 => exact wrap64_fits _
    | 0 | 1 | 2 | 3 | 4 | 5 | 6 | 7 | 8 | 9 | 10 | 11 | 12 | 13 | 15 => exact this
    | n + 16 => exact z64
  · obtain ⟨l, pc⟩ := c
    have hlen := hc.len
    simp only at hlen
    obtain ⟨r0, r1, r2, r3, r4, r5, r6, r7, r8, r9, r10, r11, r12, r13, r14, r15, rfl⟩ := list16 hlen
    rfl
  · obtain ⟨l, pc⟩ := c
    have hlen := hc.len
    simp only at hlen
    obtain ⟨r0, r1, r2, r3, r4, r5, r6, r7, r8, r9, r10, r11, r12, r13, r14, r15, rfl⟩ := list16 hlen
    show [r0, r1, r2, r3, r4, r5, r6, r7, r8, r9, r10, r11, r12, r13, wrap64 (wrap64 (r14 - 1) + 1), r15] = _
    rw [show wrap64 (wrap64 (r14 - 1) + 1) = r14 from up_down (hc.r 14)]
set_option maxRecDepth 100000 in
set_option maxHeartbeats 4000000 in
theorem isaCalls_any (c : Cpu) (hc : c.Fits) (to bk : Int) (hto : I64 to) (w : World) (hw : VarsAt w) : Calls Tryd.prog 8 #[.agg (cpuC c), .int .i64 to, .int .i64 bk] w (Right w) := by
  obtain ⟨imm, him⟩ : ∃ x, Hid (to % 1073741824 = x) := ⟨_, rfl⟩
  have i0 : 0 ≤ imm := by rw [← him.out]; exact Int.emod_nonneg _ (by decide)
  have i1 : imm < 1073741824 := by rw [← him.out]; exact Int.emod_lt_of_pos _ (by decide)
  have hif : Ins.Fits ⟨23, 0, 0, 0, imm⟩ := ⟨(⟨by decide, by decide⟩ : I64 23), z64, z64, z64, ⟨by show _ ≤ imm; omega, by show imm < _; omega⟩⟩
  have hrf : Ins.Fits ⟨24, 0, 0, 0, 0⟩ := ⟨(⟨by decide, by decide⟩ : I64 24), z64, z64, z64, z64⟩
  obtain ⟨p, q, hp, hpf, hp1, hp2, hp3, hp4, hq, hq1, hq2⟩ := call_then hc imm bk i0 i1
  have Y1 := Lib.hid (exE_yes (enc_call imm i0 i1) (show (23 : Int) ≠ 2 by decide))
  have Y2 := Lib.hid (exE_yes enc_ret (show (24 : Int) ≠ 2 by decide))
  have Y3 := Lib.hid (show readsB ⟨24, 0, 0, 0, 0⟩ = true from rfl)
  have HP := Lib.hid hp
  have HQ := Lib.hid hq
  have HP4 := Lib.hid hp4
  have plen := Lib.hid hpf.len
  have clen := Lib.hid hc.len
  have qlen := Lib.hid (show q.cpu.r.length = 16 by rw [hq2]; exact hc.len)
  obtain ⟨hto0, hto1⟩ := hto
  have HC := Lib.hid hc
  have HPF := Lib.hid hpf
  -- the cells that are read
  have kP16 := Lib.hid (effC_at16 p plen.out)
  have kP17 := Lib.hid (effC_at17 p plen.out)
  have kQ16 := Lib.hid (effC_at16 q qlen.out)
  have kC16 := Lib.hid (cpuC_pc clen.out)
  rw [hp1] at kP16
  rw [hp2, hp3] at kP17
  rw [hq1] at kQ16
  have sP := Lib.hid (effC_size plen.out)
  have sQ := Lib.hid (effC_size qlen.out)
  have oP := Lib.hid (effC_one p)
  have oQ := Lib.hid (effC_one q)
  have gP := Lib.hid (effC_cpu p plen.out)
  have gQ := Lib.hid (effC_regs q)
  have gC := Lib.hid (cpuC_regs c)
  rw [hq2] at gQ
  have elen := Lib.hid (show (cpuC p.cpu).toList.length = 17 by rw [Array.length_toList, cpuC_size plen.out])
  have rlen := Lib.hid (show (regsC c.r).length = 16 by simp [regsC, clen.out])
  have heq := Lib.hid (eql_regs clen.out)
  obtain ⟨pcn, hpcn⟩ : ∃ x, Hid (wrap64 (c.pc + 1) = x) := ⟨_, rfl⟩
  obtain ⟨ad, had⟩ : ∃ x, Hid (p.addr = x) := ⟨_, rfl⟩
  rw [had.out] at kP17 HP4
  obtain ⟨pc, hpc⟩ : ∃ x, Hid (c.pc = x) := ⟨_, rfl⟩
  rw [hpc.out] at kC16 kP17
  clear hp hpf hp1 hp2 hp3 hp4 hq hq1 hq2 hc hpcn had hpc
  obtain ⟨ps, hps⟩ : ∃ x, Hid (effC p = x) := ⟨_, rfl⟩
  obtain ⟨qs, hqs⟩ : ∃ x, Hid (effC q = x) := ⟨_, rfl⟩
  obtain ⟨cs, hcs⟩ : ∃ x, Hid (cpuC c = x) := ⟨_, rfl⟩
  obtain ⟨rs, hrs⟩ : ∃ x, Hid (regsC c.r = x) := ⟨_, rfl⟩
  rw [hps.out] at kP16 kP17 sP gP oP
  rw [hqs.out] at kQ16 sQ gQ oQ
  rw [hcs.out] at kC16 gC ⊢
  rw [hrs.out] at gQ gC rlen heq
  obtain ⟨cl, hcl⟩ : ∃ x, Hid ((cpuC p.cpu).toList = x) := ⟨_, rfl⟩
  rw [hcl.out] at gP elen
  have K1 := Lib.hid (show ∀ W : World, Calls Tryd.prog 20 #[.agg cs, insV ⟨23, 0, 0, 0, imm⟩, .int .i64 0] W (Gives2 W (.agg ps) (.int .i64 0)) from fun W => by
    have := execute_any c HC.out ⟨23, 0, 0, 0, imm⟩ hif 0 W
    rw [HP.out, hcs.out, hps.out, Y1.out] at this
    exact this)
  have K2 := Lib.hid (show ∀ W : World, Calls Tryd.prog 18 #[.agg cl.toArray, insV ⟨24, 0, 0, 0, 0⟩] W (GivesB W ad true) from fun W => by
    have := reads_any p.cpu HPF.out ⟨24, 0, 0, 0, 0⟩ hrf W
    rw [HP4.out, Y3.out] at this
    rw [← hcl.out]
    exact this)
  have K3 := Lib.hid (show ∀ W : World, Calls Tryd.prog 20 #[.agg cl.toArray, insV ⟨24, 0, 0, 0, 0⟩, .int .i64 bk] W (Gives2 W (.agg qs) (.int .i64 0)) from fun W => by
    have := execute_any p.cpu HPF.out ⟨24, 0, 0, 0, 0⟩ hrf bk W
    rw [HQ.out, hqs.out, Y2.out] at this
    rw [← hcl.out]
    exact this)
  have nc := Lib.hid (show cs.toList.length = 17 by rw [← hcs.out, Array.length_toList, cpuC_size clen.out])
  clear HP HQ HP4 HC HPF hps hqs hcs hrs hcl Y1 Y2 Y3 hif hrf plen clen qlen
  go_enter Tryd.func8, Tryd.ntmps8
  go_wp2_with (first | (go_at_call 22; refine (modq to 1073741824 _ hto1 (by decide) (by decide)).mono ?_; rintro e w' ⟨rfl, rfl⟩; rw [him.out]) | ((with_reducible show wpList _ _ _ (Oper.mk _ (Op.load 35 _) _ _ _ _ :: _) _ _); refine wpList_load_part rfl 35 _ rfl (w.heap.size) rfl (cs.toList) _ (range_of (heap_alloc_new _ _) (fun j v h => by rw [← Array.getElem?_toList]; exact h)) Tryd.underlying35 rfl (by rw [nc.out]; kernel_rfl) ?_))
  refine (K1.out _).mono ?_
  rintro e w1 ⟨rfl, hb1⟩
  have A0 := Lib.hid ((hb1.block w.heap.size (by simp)).trans (heap_alloc_new w (.cells cs 35)))
  have HB1 := Lib.hid (((Below.refl w.heap.size w).alloc (Nat.le_refl _) (.cells cs 35)).trans (hb1.mono (by simp)))
  have hz1 : w.heap.size < w1.heap.size := by have := hb1.size; simp at this; omega
  clear hb1
  go_wp2_with (first | ((with_reducible show wpList _ _ _ (Oper.mk none (Op.store 40 _ _) _ _ _ _ :: _) _ _); refine wpList_store_all rfl rfl 40 _ _ rfl w1.heap.size _ ps rfl rfl (heap_alloc_new _ _) (by rw [sP.out]; rfl) (by rw [sP.out]; kernel_rfl) oP.out ?_; intro U hU; have E1 := Lib.hid hU.at_; have HU := Lib.hid ((HB1.out.alloc (Nat.le_of_lt hz1) _).setC (Nat.le_of_lt hz1) hU); have A1 := Lib.hid ((hU.block _ (Nat.ne_of_lt hz1)).trans ((Below.heap_alloc _ _ _ hz1).trans A0.out)); have hzU : w1.heap.size < U.heap.size := (by rw [hU.size]; simp); clear hU) | ((with_reducible show wpList _ _ _ (Oper.mk _ (Op.load 35 _) _ _ _ _ :: _) _ _); refine wpList_load_part rfl 35 _ rfl (w1.heap.size) rfl (cl) _ (range_of E1.out gP.out) Tryd.underlying35 rfl (by rw [elen.out]; kernel_rfl) ?_))
  refine (K2.out _).mono ?_
  rintro e w2 ⟨rfl, hb2⟩
  have E2 := Lib.hid ((hb2.block w1.heap.size hzU).trans E1.out)
  have A2 := Lib.hid ((hb2.block w.heap.size (by omega)).trans A1.out)
  have HB2 := Lib.hid (HU.out.trans (hb2.mono (Nat.le_trans (Nat.le_of_lt hz1) (Nat.le_of_lt hzU))))
  have hz2 : w1.heap.size < w2.heap.size := Nat.lt_of_lt_of_le hzU hb2.size
  clear hb2 E1 A1 HU hzU A0 HB1
  go_wp2_with ((with_reducible show wpList _ _ _ (Oper.mk _ (Op.load 35 _) _ _ _ _ :: _) _ _); refine wpList_load_part rfl 35 _ rfl (w1.heap.size) rfl (cl) _ (range_of E2.out gP.out) Tryd.underlying35 rfl (by rw [elen.out]; kernel_rfl) ?_)
  refine (K3.out _).mono ?_
  rintro e w3 ⟨rfl, hb3⟩
  have E3 := Lib.hid ((hb3.block w1.heap.size hz2).trans E2.out)
  have A3 := Lib.hid ((hb3.block w.heap.size (by omega)).trans A2.out)
  have HB3 := Lib.hid (HB2.out.trans (hb3.mono (by omega)))
  have hz3 : w1.heap.size < w3.heap.size := Nat.lt_of_lt_of_le hz2 hb3.size
  clear hb3 E2 A2 HB2
  have hq := heq.out
  go_wp2_with (first | ((with_reducible show wpList _ _ _ (Oper.mk none (Op.store 40 _ _) _ _ _ _ :: _) _ _); refine wpList_store_all rfl rfl 40 _ _ rfl w3.heap.size _ qs rfl rfl (heap_alloc_new _ _) (by rw [sQ.out]; rfl) (by rw [sQ.out]; kernel_rfl) oQ.out ?_; intro V hV; have Q4 := Lib.hid hV.at_; have P4 := Lib.hid ((hV.block _ (Nat.ne_of_lt hz3)).trans ((Below.heap_alloc _ _ _ hz3).trans E3.out)); have A4 := Lib.hid ((hV.block _ (Nat.ne_of_lt (Nat.lt_trans hz1 hz3))).trans ((Below.heap_alloc _ _ _ (Nat.lt_trans hz1 hz3)).trans A3.out)); have HV := Lib.hid ((HB3.out.alloc (Nat.le_of_lt (Nat.lt_trans hz1 hz3)) _).setC (Nat.le_of_lt (Nat.lt_trans hz1 hz3)) hV); clear hV; have m1 := (cell_of_row _ _ 16 _ _ _ P4.out).trans kP16.out; have m2 := (cell_of_row _ _ 17 _ _ _ P4.out).trans kP17.out.1; have m3 := (cell_of_row _ _ 18 _ _ _ P4.out).trans kP17.out.2.1; have m4 := (cell_of_row _ _ 19 _ _ _ P4.out).trans kP17.out.2.2; have m5 := (cell_of_row _ _ 16 _ _ _ Q4.out).trans kQ16.out; have m6 := (cell_of_row _ _ 16 _ _ _ A4.out).trans kC16.out) | ((with_reducible show wpList _ _ _ (Oper.mk _ (Op.load 33 _) _ _ _ _ :: _) _ _); refine wpList_load_part rfl 33 _ rfl (w3.heap.size) rfl (rs) _ (range_of Q4.out gQ.out) Tryd.underlying33 rfl (by rw [rlen.out]; kernel_rfl) ?_) | ((with_reducible show wpList _ _ _ (Oper.mk _ (Op.load 33 _) _ _ _ _ :: _) _ _); refine wpList_load_part rfl 33 _ rfl (w.heap.size) rfl (rs) _ (range_of A4.out gC.out) Tryd.underlying33 rfl (by rw [rlen.out]; kernel_rfl) ?_) | (go_at_call 16; refine (known_any _ (hw.below HV.out)).mono ?_; rintro e w6 ⟨rfl, hb6⟩))
  go_ret
  exact ⟨rfl, HV.out.trans (hb6.mono HV.out.size)⟩
end Go.Proofs.YtimiofmmhccmmaaDoor
