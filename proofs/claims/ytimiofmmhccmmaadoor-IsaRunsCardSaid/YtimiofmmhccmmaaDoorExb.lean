/-
  What the specification's Execute returns of what cannot be executed. Condition: fields and registers of 64 bits.
-/
import Derived.Test.YtimiofmmhccmmaaDoorHeld
namespace Go.Proofs.YtimiofmmhccmmaaDoor
open Go.RowKit

set_option maxRecDepth 100000 in
theorem refExecute_two (c : Cpu) (hc : c.Fits) (i : Ins) (hi : i.Fits) (ld : Int) (hE : encE i = 0) (h2 : i.op = 2) (w : World) :
    Calls Tryd.prog 21 #[.agg (cpuC c), insV i, .int .i64 ld] w (Gives2 w (.agg (effC eff0)) (.int .i64 14)) := by
  obtain ⟨hlen, hr, hpc⟩ := hc
  obtain ⟨op, a, b, d, imm⟩ := i
  have qz := Lib.hid (cpuC_size hlen)
  obtain ⟨cs, hcs⟩ : ∃ cs, Hid (cpuC c = cs) := ⟨_, rfl⟩
  rw [hcs.out] at qz ⊢
  have HE := Lib.hid hE
  clear hE hr hpc
  simp only at h2
  subst h2
  go_enter Tryd.func21, Tryd.ntmps21
  go_wp2_with fail
  refine (refEncode_any ⟨_, _, _, _, _⟩ hi _).mono ?_
  rintro e w1 ⟨rfl, hb1⟩
  rw [HE.out]
  have M := Lib.hid (new3 w (.cells cs 35) (.cells #[.int .i64 2, .int .i64 a, .int .i64 b, .int .i64 d, .int .i64 imm] 23) (.cells (effC eff0) 40))
  have ms := Lib.hid (new3_size w (.cells cs 35) (.cells #[.int .i64 2, .int .i64 a, .int .i64 b, .int .i64 d, .int .i64 imm] 23) (.cells (effC eff0) 40))
  change Below (((w.alloc (.cells cs 35)).alloc (.cells #[.int .i64 2, .int .i64 a, .int .i64 b, .int .i64 d, .int .i64 imm] 23)).alloc (.cells (effC eff0) 40)).heap.size _ _ at hb1
  have H1 := Lib.hid (show Held w.heap.size cs 2 a b d imm w1 from ⟨(hb1.block w.heap.size (by rw [ms.out]; omega)).trans M.out.1, (hb1.block (w.heap.size + 1) (by rw [ms.out]; omega)).trans M.out.2.1, (hb1.block (w.heap.size + 1 + 1) (by rw [ms.out]; omega)).trans M.out.2.2⟩)
  have HB := Lib.hid ((Below.new3 w (.cells cs 35) (.cells #[.int .i64 2, .int .i64 a, .int .i64 b, .int .i64 d, .int .i64 imm] 23) (.cells (effC eff0) 40)).trans (hb1.mono (by rw [ms.out]; omega)))
  clear hb1 M ms
  have c0 := H1.out.i0
  go_wp2_with ((with_reducible show wpList _ _ _ (Oper.mk none (Op.store 40 _ _) _ _ _ none :: _) _ _); refine wpList_store_all rfl rfl 40 _ _ rfl (w.heap.size + 1 + 1) _ (effC eff0) rfl rfl H1.out.res rfl (by kernel_rfl) (effC_one _) ?_; intro U hU)
  (try simp only [Exit.inBlock, Exit.then])
  have hld := ret_all (P := Tryd.prog) 40 (w.heap.size + 1 + 1) _ _ hU.at_ Tryd.underlying40 rfl (by kernel_rfl)
  refine bodyPost_ret (v := .tuple #[.agg (effC eff0), .int .i64 14]) (by simp [results, Tryd.results21, asAddr, hld]) rfl ?_
  exact ⟨rfl, HB.out.setC (Nat.le_add_right _ 2) hU⟩
set_option maxRecDepth 100000 in
theorem refExecute_not (c : Cpu) (hc : c.Fits) (i : Ins) (hi : i.Fits) (ld : Int) (hE : encE i ≠ 0) (w : World) :
    Calls Tryd.prog 21 #[.agg (cpuC c), insV i, .int .i64 ld] w (Gives2 w (.agg (effC eff0)) (.int .i64 14)) := by
  obtain ⟨hlen, hr, hpc⟩ := hc
  obtain ⟨op, a, b, d, imm⟩ := i
  have qz := Lib.hid (cpuC_size hlen)
  obtain ⟨cs, hcs⟩ : ∃ cs, Hid (cpuC c = cs) := ⟨_, rfl⟩
  rw [hcs.out] at qz ⊢
  have HE := Lib.hid hE
  clear hE hr hpc
  go_enter Tryd.func21, Tryd.ntmps21
  go_wp2_with fail
  refine (refEncode_any ⟨_, _, _, _, _⟩ hi _).mono ?_
  rintro e w1 ⟨rfl, hb1⟩
  obtain ⟨E, hE⟩ : ∃ E, Hid (encE ⟨op, a, b, d, imm⟩ = E) := ⟨_, rfl⟩
  have hne : ¬ E = 0 := by rw [← hE.out]; exact HE.out
  rw [hE.out]
  have hnb : (E == 0) = false := by simpa using hne
  have hnb' : (E != 0) = true := by simpa using hne
  have M := Lib.hid (new3 w (.cells cs 35) (.cells #[.int .i64 op, .int .i64 a, .int .i64 b, .int .i64 d, .int .i64 imm] 23) (.cells (effC eff0) 40))
  have ms := Lib.hid (new3_size w (.cells cs 35) (.cells #[.int .i64 op, .int .i64 a, .int .i64 b, .int .i64 d, .int .i64 imm] 23) (.cells (effC eff0) 40))
  change Below (((w.alloc (.cells cs 35)).alloc (.cells #[.int .i64 op, .int .i64 a, .int .i64 b, .int .i64 d, .int .i64 imm] 23)).alloc (.cells (effC eff0) 40)).heap.size _ _ at hb1
  have H1 := Lib.hid (show Held w.heap.size cs op a b d imm w1 from ⟨(hb1.block w.heap.size (by rw [ms.out]; omega)).trans M.out.1, (hb1.block (w.heap.size + 1) (by rw [ms.out]; omega)).trans M.out.2.1, (hb1.block (w.heap.size + 1 + 1) (by rw [ms.out]; omega)).trans M.out.2.2⟩)
  have HB := Lib.hid ((Below.new3 w (.cells cs 35) (.cells #[.int .i64 op, .int .i64 a, .int .i64 b, .int .i64 d, .int .i64 imm] 23) (.cells (effC eff0) 40)).trans (hb1.mono (by rw [ms.out]; omega)))
  clear hb1 M ms
  have c0 := H1.out.i0
  go_wp2_with ((with_reducible show wpList _ _ _ (Oper.mk none (Op.store 40 _ _) _ _ _ none :: _) _ _); refine wpList_store_all rfl rfl 40 _ _ rfl (w.heap.size + 1 + 1) _ (effC eff0) rfl rfl H1.out.res rfl (by kernel_rfl) (effC_one _) ?_; intro U hU)
  (try simp only [Exit.inBlock, Exit.then])
  have hld := ret_all (P := Tryd.prog) 40 (w.heap.size + 1 + 1) _ _ hU.at_ Tryd.underlying40 rfl (by kernel_rfl)
  refine bodyPost_ret (v := .tuple #[.agg (effC eff0), .int .i64 14]) (by simp [results, Tryd.results21, asAddr, hld]) rfl ?_
  exact ⟨rfl, HB.out.setC (Nat.le_add_right _ 2) hU⟩
end Go.Proofs.YtimiofmmhccmmaaDoor
