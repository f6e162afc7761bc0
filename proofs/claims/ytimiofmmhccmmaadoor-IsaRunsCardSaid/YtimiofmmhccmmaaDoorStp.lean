/-
  What the specification's Step returns. Condition: a memory of its caller's that reads as a list, registers of 64 bits.
-/
import Derived.Test.YtimiofmmhccmmaaDoorExAll
import Derived.Test.YtimiofmmhccmmaaDoorReads
import Derived.Test.YtimiofmmhccmmaaDoorFits
import Derived.Test.YtimiofmmhccmmaaDoorDec
import Derived.Test.YtimiofmmhccmmaaDoorExLen
import Derived.Test.YtimiofmmhccmmaaDoorMemC
import Derived.Deep.RegionHeld3
namespace Go.Proofs.YtimiofmmhccmmaaDoor
open Go.RowKit

/-- The memory block is turned, and nothing else that was there. -/
structure Turn (M : Nat) (m : List Int) (w w' : World) : Prop where
  os : w'.os = w.os
  tape : w'.tape = w.tape
  output : w'.output = w.output
  size : w.heap.size ≤ w'.heap.size
  at_ : w'.heap[M]? = some (.cells (numsC m) 3 (0, 0))
  block : ∀ b, b < w.heap.size → b ≠ M → w'.heap[b]? = w.heap[b]?
/-- What a step that fails returns, and one that does not. -/
def Fails (w : World) (c : Cpu) (e : Ending) (w' : World) : Prop := e = .returned (.tuple #[.agg (cpuC c), .agg (effC eff0), .int .i64 14]) ∧ Below w.heap.size w w'
def Steps (w : World) (M : Nat) (m : List Int) (x : Eff) (e : Ending) (w' : World) : Prop := e = .returned (.tuple #[.agg (cpuC x.cpu), .agg (effC x), .int .i64 0]) ∧ Turn M m w w'
theorem Turn.of_below {M : Nat} {m : List Int} {w w' : World} (h : Below w.heap.size w w') (hM : w.heap[M]? = some (.cells (numsC m) 3 (0, 0))) : Turn M m w w' :=
  ⟨h.os, h.tape, h.output, h.size, (h.block M (Array.getElem?_eq_some_iff.1 hM).1).trans hM, fun b hb _ => h.block b hb⟩
theorem Turn.set {M k : Nat} {m : List Int} {v : Int} {w w' U : World} (h : Below w.heap.size w w') (hU : SetC M ((numsC m).setIfInBounds k (.int .i64 v)) 3 w' U) : Turn M (m.set k v) w U :=
  ⟨hU.os.trans h.os, hU.tape.trans h.tape, hU.output.trans h.output, by rw [hU.size]; exact h.size, by rw [hU.at_, numsC_set], fun b hb hM => (hU.block b hM).trans (h.block b hb)⟩
theorem Turn.setC {M N : Nat} {m : List Int} {cs : Array Value} {T : TypeId} {w w' U : World} (h : Turn M m w w') (hM : M < w.heap.size) (hN : w.heap.size ≤ N) (hU : SetC N cs T w' U) : Turn M m w U :=
  ⟨hU.os.trans h.os, hU.tape.trans h.tape, hU.output.trans h.output, by rw [hU.size]; exact h.size, (hU.block M (by omega)).trans h.at_, fun b hb hb2 => (hU.block b (by omega)).trans (h.block b hb hb2)⟩
theorem Turn.drew {M : Nat} {m : List Int} {w w' : World} (h : Turn M m w w') : Turn M m w w'.drew := ⟨h.os, h.tape, h.output, h.size, h.at_, h.block⟩
theorem z17 : cpuC cpu0 = #[.int .i64 0, .int .i64 0, .int .i64 0, .int .i64 0, .int .i64 0, .int .i64 0, .int .i64 0, .int .i64 0, .int .i64 0, .int .i64 0, .int .i64 0, .int .i64 0, .int .i64 0, .int .i64 0, .int .i64 0, .int .i64 0, .int .i64 0] := rfl
set_option linter.unusedVariables false in
set_option linter.unusedSimpArgs false in
set_option maxRecDepth 100000 in
set_option maxHeartbeats 4000000 in
theorem stp_low (m : List Int) (hm : All64 m) (M : Nat) (c : Cpu) (hc : c.Fits) (w : World) (hM : w.heap[M]? = some (.cells (numsC m) 3 (0, 0))) (hlen : m.length ≤ 16384) (h : c.pc < 0) : Calls Tryd.prog 41 #[.slice (some ⟨M, 0, none⟩) m.length m.length, .agg (cpuC c)] w (Fails w c) := by
  have hMlt : M < w.heap.size := (Array.getElem?_eq_some_iff.1 hM).1
  have qz := Lib.hid (cpuC_size hc.len)
  have qP := Lib.hid (cpuC_pc hc.len)
  have one := Lib.hid (cpuC_one c)
  have HC := Lib.hid hc
  have HM := Lib.hid hM
  clear hc hM
  obtain ⟨pc, hpc⟩ : ∃ y, Hid (c.pc = y) := ⟨_, rfl⟩
  obtain ⟨cs, hcs⟩ : ∃ y, Hid (cpuC c = y) := ⟨_, rfl⟩
  obtain ⟨L, hL⟩ : ∃ y : Nat, Hid (m.length = y) := ⟨_, rfl⟩
  rw [hpc.out] at qP
  rw [hcs.out] at qz qP one
  rw [hpc.out] at h
  unfold Fails
  rw [hcs.out, hL.out]
  rw [hL.out] at hlen
  have P16 : ∀ o1 o2 : Obj, (((w.alloc (.cells cs 35)).alloc o1).alloc o2).cell? ⟨w.heap.size, 16, none⟩ = some (.int .i64 pc) := fun o1 o2 => (cell_of_row _ _ 16 _ _ _ (new3 w _ o1 o2).1).trans qP.out
  have F0 := Lib.hid (new3 w (.cells cs 35) (.cells (cpuC cpu0) 35) (.cells (effC eff0) 40)).1
  have F1 := Lib.hid (new3 w (.cells cs 35) (.cells (cpuC cpu0) 35) (.cells (effC eff0) 40)).2.1
  have F2 := Lib.hid (new3 w (.cells cs 35) (.cells (cpuC cpu0) 35) (.cells (effC eff0) 40)).2.2
  have BW := Lib.hid (Below.new3 w (.cells cs 35) (.cells (cpuC cpu0) 35) (.cells (effC eff0) 40))
  clear hpc hL hcs HM HC
  go_enter Tryd.func41, Tryd.ntmps41
  go_wp2_with (first | ((with_reducible show wpList _ _ _ (Oper.mk _ (Op.load 35 _) _ _ _ _ :: _) _ _); refine wpList_load_all rfl 35 _ rfl (w.heap.size) _ _ rfl F0.out Tryd.underlying35 rfl (by rw [qz.out]; kernel_rfl) ?_) | ((with_reducible show wpList _ _ _ (Oper.mk none (Op.store 35 _ _) _ _ _ _ :: _) _ _); refine wpList_store_all rfl rfl 35 _ _ rfl (w.heap.size + 1) _ cs rfl rfl F1.out (by rw [qz.out]; rfl) (by rw [qz.out]; kernel_rfl) one.out ?_; intro U hU; have G2 := Lib.hid ((hU.block _ (Nat.succ_ne_self _)).trans F2.out); have BU := Lib.hid (BW.out.setC (Nat.le_add_right _ 1) hU); have G1 := Lib.hid hU.at_; clear hU) | ((with_reducible show wpList _ _ _ (Oper.mk none (Op.store 40 _ _) _ _ _ _ :: _) _ _); refine wpList_store_all rfl rfl 40 _ _ rfl (w.heap.size + 1 + 1) _ (effC eff0) rfl rfl G2.out rfl (by kernel_rfl) (effC_one _) ?_; intro T hT))
  (try simp only [Exit.inBlock, Exit.then])
  have hld1 := ret_all (P := Tryd.prog) 35 (w.heap.size + 1) _ _ ((hT.block _ (Nat.ne_of_lt (Nat.lt_succ_self _))).trans G1.out) Tryd.underlying35 rfl (by rw [qz.out]; kernel_rfl)
  have hld2 := ret_all (P := Tryd.prog) 40 (w.heap.size + 1 + 1) _ _ hT.at_ Tryd.underlying40 rfl (by kernel_rfl)
  refine bodyPost_ret (v := .tuple #[.agg cs, .agg (effC eff0), .int .i64 14]) (by simp [results, Tryd.results41, asAddr, hld1, hld2]) rfl ?_
  exact ⟨rfl, BU.out.setC (Nat.le_add_right _ 2) hT⟩
set_option linter.unusedVariables false in
set_option linter.unusedSimpArgs false in
set_option maxRecDepth 100000 in
set_option maxHeartbeats 4000000 in
theorem stp_high (m : List Int) (hm : All64 m) (M : Nat) (c : Cpu) (hc : c.Fits) (w : World) (hM : w.heap[M]? = some (.cells (numsC m) 3 (0, 0))) (hlen : m.length ≤ 16384) (h0 : 0 ≤ c.pc) (h : (m.length : Int) ≤ c.pc) : Calls Tryd.prog 41 #[.slice (some ⟨M, 0, none⟩) m.length m.length, .agg (cpuC c)] w (Fails w c) := by
  have hMlt : M < w.heap.size := (Array.getElem?_eq_some_iff.1 hM).1
  have qz := Lib.hid (cpuC_size hc.len)
  have qP := Lib.hid (cpuC_pc hc.len)
  have one := Lib.hid (cpuC_one c)
  have HC := Lib.hid hc
  have HM := Lib.hid hM
  clear hc hM
  obtain ⟨pc, hpc⟩ : ∃ y, Hid (c.pc = y) := ⟨_, rfl⟩
  obtain ⟨cs, hcs⟩ : ∃ y, Hid (cpuC c = y) := ⟨_, rfl⟩
  obtain ⟨L, hL⟩ : ∃ y : Nat, Hid (m.length = y) := ⟨_, rfl⟩
  rw [hpc.out] at qP
  rw [hcs.out] at qz qP one
  rw [hpc.out] at h0 h
  rw [hL.out] at h
  unfold Fails
  rw [hcs.out, hL.out]
  rw [hL.out] at hlen
  have P16 : ∀ o1 o2 : Obj, (((w.alloc (.cells cs 35)).alloc o1).alloc o2).cell? ⟨w.heap.size, 16, none⟩ = some (.int .i64 pc) := fun o1 o2 => (cell_of_row _ _ 16 _ _ _ (new3 w _ o1 o2).1).trans qP.out
  have F0 := Lib.hid (new3 w (.cells cs 35) (.cells (cpuC cpu0) 35) (.cells (effC eff0) 40)).1
  have F1 := Lib.hid (new3 w (.cells cs 35) (.cells (cpuC cpu0) 35) (.cells (effC eff0) 40)).2.1
  have F2 := Lib.hid (new3 w (.cells cs 35) (.cells (cpuC cpu0) 35) (.cells (effC eff0) 40)).2.2
  have BW := Lib.hid (Below.new3 w (.cells cs 35) (.cells (cpuC cpu0) 35) (.cells (effC eff0) 40))
  clear hpc hL hcs HM HC
  go_enter Tryd.func41, Tryd.ntmps41
  go_wp2_with (first | ((with_reducible show wpList _ _ _ (Oper.mk _ (Op.load 35 _) _ _ _ _ :: _) _ _); refine wpList_load_all rfl 35 _ rfl (w.heap.size) _ _ rfl F0.out Tryd.underlying35 rfl (by rw [qz.out]; kernel_rfl) ?_) | ((with_reducible show wpList _ _ _ (Oper.mk none (Op.store 35 _ _) _ _ _ _ :: _) _ _); refine wpList_store_all rfl rfl 35 _ _ rfl (w.heap.size + 1) _ cs rfl rfl F1.out (by rw [qz.out]; rfl) (by rw [qz.out]; kernel_rfl) one.out ?_; intro U hU; have G2 := Lib.hid ((hU.block _ (Nat.succ_ne_self _)).trans F2.out); have BU := Lib.hid (BW.out.setC (Nat.le_add_right _ 1) hU); have G1 := Lib.hid hU.at_; clear hU) | ((with_reducible show wpList _ _ _ (Oper.mk none (Op.store 40 _ _) _ _ _ _ :: _) _ _); refine wpList_store_all rfl rfl 40 _ _ rfl (w.heap.size + 1 + 1) _ (effC eff0) rfl rfl G2.out rfl (by kernel_rfl) (effC_one _) ?_; intro T hT))
  (try simp only [Exit.inBlock, Exit.then])
  have hld1 := ret_all (P := Tryd.prog) 35 (w.heap.size + 1) _ _ ((hT.block _ (Nat.ne_of_lt (Nat.lt_succ_self _))).trans G1.out) Tryd.underlying35 rfl (by rw [qz.out]; kernel_rfl)
  have hld2 := ret_all (P := Tryd.prog) 40 (w.heap.size + 1 + 1) _ _ hT.at_ Tryd.underlying40 rfl (by kernel_rfl)
  refine bodyPost_ret (v := .tuple #[.agg cs, .agg (effC eff0), .int .i64 14]) (by simp [results, Tryd.results41, asAddr, hld1, hld2]) rfl ?_
  exact ⟨rfl, BU.out.setC (Nat.le_add_right _ 2) hT⟩
set_option linter.unusedVariables false in
set_option linter.unusedSimpArgs false in
set_option maxRecDepth 100000 in
set_option maxHeartbeats 8000000 in
theorem stp_dec (m : List Int) (hm : All64 m) (M : Nat) (c : Cpu) (hc : c.Fits) (w : World) (hM : w.heap[M]? = some (.cells (numsC m) 3 (0, 0))) (hlen : m.length ≤ 16384) (p : Nat) (hp : c.pc = p) (hlt : p < m.length) (v : Int) (hv : m.getD p 0 = v) (x : Ins) (hx : decI v = x) (hd : decE v ≠ 0) : Calls Tryd.prog 41 #[.slice (some ⟨M, 0, none⟩) m.length m.length, .agg (cpuC c)] w (Fails w c) := by
  have hMlt : M < w.heap.size := (Array.getElem?_eq_some_iff.1 hM).1
  have hvf : I64 v := hv ▸ hm p
  have hxf : x.Fits := hx ▸ decI_fits hvf
  have qz := Lib.hid (cpuC_size hc.len)
  have qP := Lib.hid (cpuC_pc hc.len)
  have one := Lib.hid (cpuC_one c)
  have HC := Lib.hid hc
  have HM := Lib.hid hM
  have mP : ∀ o0 o1 o2 : Obj, (((w.alloc o0).alloc o1).alloc o2).cell? ⟨M, p, none⟩ = some (.int .i64 v) := fun o0 o1 o2 => ((Below.new3 w o0 o1 o2).cell (p := ⟨M, p, none⟩) hMlt).trans ((cell_of_row _ _ p _ _ _ hM).trans ((numsC_at m p hlt).trans (by rw [hv])))
  have hx' := Lib.hid hx
  rw [hp] at qP
  have HP := Lib.hid hp
  clear hc hM hv hx hp hm
  obtain ⟨cs, hcs⟩ : ∃ y, Hid (cpuC c = y) := ⟨_, rfl⟩
  obtain ⟨L, hL⟩ : ∃ y : Nat, Hid (m.length = y) := ⟨_, rfl⟩
  rw [hcs.out] at qz qP one
  rw [hL.out] at hlt hlen
  obtain ⟨pc, hpc⟩ : ∃ y : Int, Hid ((p : Int) = y) := ⟨_, rfl⟩
  obtain ⟨x0, x1, x2, x3, x4⟩ := x
  have hd4 : decE v = 4 := (decE_cases v).resolve_left hd
  have HD := Lib.hid hd4
  clear hd hd4
  unfold Fails
  rw [hcs.out, hL.out]
  have P16 : ∀ o1 o2 : Obj, (((w.alloc (.cells cs 35)).alloc o1).alloc o2).cell? ⟨w.heap.size, 16, none⟩ = some (.int .i64 (p : Int)) := fun o1 o2 => (cell_of_row _ _ 16 _ _ _ (new3 w _ o1 o2).1).trans qP.out
  clear hpc
  go_enter Tryd.func41, Tryd.ntmps41
  go_wp2_with fail
  refine (refDecode_any v hvf _).mono ?_
  rintro e w1 ⟨rfl, hb1⟩
  rw [hx'.out]
  change Below (((w.alloc (.cells cs 35)).alloc (.cells (cpuC cpu0) 35)).alloc (.cells (effC eff0) 40)).heap.size _ _ at hb1
  have M3 := Lib.hid (new3 w (.cells cs 35) (.cells (cpuC cpu0) 35) (.cells (effC eff0) 40))
  have ms := Lib.hid (new3_size w (.cells cs 35) (.cells (cpuC cpu0) 35) (.cells (effC eff0) 40))
  have B3 := Lib.hid (Below.new3 w (.cells cs 35) (.cells (cpuC cpu0) 35) (.cells (effC eff0) 40))
  have hz1 : w.heap.size + 1 + 1 < w1.heap.size := Nat.le_trans (Nat.le_of_eq ms.out.symm) hb1.size
  have F0 := Lib.hid ((Below.heap_alloc w1 (.cells #[.int .i64 x0, .int .i64 x1, .int .i64 x2, .int .i64 x3, .int .i64 x4] 23) _ (by omega)).trans ((hb1.block (w.heap.size) (by rw [ms.out]; omega)).trans M3.out.1))
  have F1 := Lib.hid ((Below.heap_alloc w1 (.cells #[.int .i64 x0, .int .i64 x1, .int .i64 x2, .int .i64 x3, .int .i64 x4] 23) _ (by omega)).trans ((hb1.block (w.heap.size + 1) (by rw [ms.out]; omega)).trans M3.out.2.1))
  have F2 := Lib.hid ((Below.heap_alloc w1 (.cells #[.int .i64 x0, .int .i64 x1, .int .i64 x2, .int .i64 x3, .int .i64 x4] 23) _ (by omega)).trans ((hb1.block (w.heap.size + 1 + 1) (by rw [ms.out]; omega)).trans M3.out.2.2))
  have FX := Lib.hid (heap_alloc_new w1 (.cells #[.int .i64 x0, .int .i64 x1, .int .i64 x2, .int .i64 x3, .int .i64 x4] 23))
  have BW := Lib.hid ((B3.out.trans (hb1.mono (by rw [ms.out]; omega))).alloc (by omega) (.cells #[.int .i64 x0, .int .i64 x1, .int .i64 x2, .int .i64 x3, .int .i64 x4] 23))
  clear hb1 M3 ms B3 P16 mP
  rw [HD.out]
  go_wp2_with (first | ((with_reducible show wpList _ _ _ (Oper.mk _ (Op.load 35 _) _ _ _ _ :: _) _ _); refine wpList_load_all rfl 35 _ rfl (w.heap.size) _ _ rfl F0.out Tryd.underlying35 rfl (by rw [qz.out]; kernel_rfl) ?_) | ((with_reducible show wpList _ _ _ (Oper.mk none (Op.store 35 _ _) _ _ _ _ :: _) _ _); refine wpList_store_all rfl rfl 35 _ _ rfl (w.heap.size + 1) _ cs rfl rfl F1.out (by rw [qz.out]; rfl) (by rw [qz.out]; kernel_rfl) one.out ?_; intro U hU; have G2 := Lib.hid ((hU.block _ (Nat.succ_ne_self _)).trans F2.out); have BU := Lib.hid (BW.out.setC (Nat.le_add_right _ 1) hU); have G1 := Lib.hid hU.at_; clear hU) | ((with_reducible show wpList _ _ _ (Oper.mk none (Op.store 40 _ _) _ _ _ _ :: _) _ _); refine wpList_store_all rfl rfl 40 _ _ rfl (w.heap.size + 1 + 1) _ (effC eff0) rfl rfl G2.out rfl (by kernel_rfl) (effC_one _) ?_; intro T hT))
  (try simp only [Exit.inBlock, Exit.then])
  have hld1 := ret_all (P := Tryd.prog) 35 (w.heap.size + 1) _ _ ((hT.block _ (Nat.ne_of_lt (Nat.lt_succ_self _))).trans G1.out) Tryd.underlying35 rfl (by rw [qz.out]; kernel_rfl)
  have hld2 := ret_all (P := Tryd.prog) 40 (w.heap.size + 1 + 1) _ _ hT.at_ Tryd.underlying40 rfl (by kernel_rfl)
  refine bodyPost_ret (v := .tuple #[.agg cs, .agg (effC eff0), .int .i64 14]) (by simp [results, Tryd.results41, asAddr, hld1, hld2]) rfl ?_
  exact ⟨rfl, BU.out.setC (Nat.le_add_right _ 2) hT⟩
set_option linter.unusedVariables false in
set_option linter.unusedSimpArgs false in
set_option maxRecDepth 100000 in
set_option maxHeartbeats 8000000 in
theorem stp_rlow (m : List Int) (hm : All64 m) (M : Nat) (c : Cpu) (hc : c.Fits) (w : World) (hM : w.heap[M]? = some (.cells (numsC m) 3 (0, 0))) (hlen : m.length ≤ 16384) (p : Nat) (hp : c.pc = p) (hlt : p < m.length) (v : Int) (hv : m.getD p 0 = v) (x : Ins) (hx : decI v = x) (hd : decE v = 0) (hrb : readsB x = true) (ho : readsA c x < 0) : Calls Tryd.prog 41 #[.slice (some ⟨M, 0, none⟩) m.length m.length, .agg (cpuC c)] w (Fails w c) := by
  have hMlt : M < w.heap.size := (Array.getElem?_eq_some_iff.1 hM).1
  have hvf : I64 v := hv ▸ hm p
  have hxf : x.Fits := hx ▸ decI_fits hvf
  have qz := Lib.hid (cpuC_size hc.len)
  have qP := Lib.hid (cpuC_pc hc.len)
  have one := Lib.hid (cpuC_one c)
  have HC := Lib.hid hc
  have HM := Lib.hid hM
  have mP : ∀ o0 o1 o2 : Obj, (((w.alloc o0).alloc o1).alloc o2).cell? ⟨M, p, none⟩ = some (.int .i64 v) := fun o0 o1 o2 => ((Below.new3 w o0 o1 o2).cell (p := ⟨M, p, none⟩) hMlt).trans ((cell_of_row _ _ p _ _ _ hM).trans ((numsC_at m p hlt).trans (by rw [hv])))
  have hx' := Lib.hid hx
  rw [hp] at qP
  have HP := Lib.hid hp
  clear hc hM hv hx hp hm
  obtain ⟨cs, hcs⟩ : ∃ y, Hid (cpuC c = y) := ⟨_, rfl⟩
  obtain ⟨L, hL⟩ : ∃ y : Nat, Hid (m.length = y) := ⟨_, rfl⟩
  rw [hcs.out] at qz qP one
  rw [hL.out] at hlt hlen
  obtain ⟨pc, hpc⟩ : ∃ y : Int, Hid ((p : Int) = y) := ⟨_, rfl⟩
  obtain ⟨x0, x1, x2, x3, x4⟩ := x
  have HD := Lib.hid hd
  clear hd
  unfold Fails
  obtain ⟨ra, hra⟩ : ∃ y, Hid (readsA c ⟨x0, x1, x2, x3, x4⟩ = y) := ⟨_, rfl⟩
  have KR := Lib.hid (show ∀ W : World, Calls Tryd.prog 19 #[.agg cs, insV ⟨x0, x1, x2, x3, x4⟩] W (GivesB W ra true) from fun W => by
    have := refReads_any c HC.out ⟨x0, x1, x2, x3, x4⟩ hxf W
    rw [hcs.out, hra.out, hrb] at this
    exact this)
  rw [hra.out] at ho
  clear hrb hra
  rw [hcs.out, hL.out]
  have P16 : ∀ o1 o2 : Obj, (((w.alloc (.cells cs 35)).alloc o1).alloc o2).cell? ⟨w.heap.size, 16, none⟩ = some (.int .i64 (p : Int)) := fun o1 o2 => (cell_of_row _ _ 16 _ _ _ (new3 w _ o1 o2).1).trans qP.out
  clear hpc
  go_enter Tryd.func41, Tryd.ntmps41
  go_wp2_with fail
  refine (refDecode_any v hvf _).mono ?_
  rintro e w1 ⟨rfl, hb1⟩
  rw [hx'.out]
  change Below (((w.alloc (.cells cs 35)).alloc (.cells (cpuC cpu0) 35)).alloc (.cells (effC eff0) 40)).heap.size _ _ at hb1
  have M3 := Lib.hid (new3 w (.cells cs 35) (.cells (cpuC cpu0) 35) (.cells (effC eff0) 40))
  have ms := Lib.hid (new3_size w (.cells cs 35) (.cells (cpuC cpu0) 35) (.cells (effC eff0) 40))
  have B3 := Lib.hid (Below.new3 w (.cells cs 35) (.cells (cpuC cpu0) 35) (.cells (effC eff0) 40))
  have hz1 : w.heap.size + 1 + 1 < w1.heap.size := Nat.le_trans (Nat.le_of_eq ms.out.symm) hb1.size
  have F0 := Lib.hid ((Below.heap_alloc w1 (.cells #[.int .i64 x0, .int .i64 x1, .int .i64 x2, .int .i64 x3, .int .i64 x4] 23) _ (by omega)).trans ((hb1.block (w.heap.size) (by rw [ms.out]; omega)).trans M3.out.1))
  have F1 := Lib.hid ((Below.heap_alloc w1 (.cells #[.int .i64 x0, .int .i64 x1, .int .i64 x2, .int .i64 x3, .int .i64 x4] 23) _ (by omega)).trans ((hb1.block (w.heap.size + 1) (by rw [ms.out]; omega)).trans M3.out.2.1))
  have F2 := Lib.hid ((Below.heap_alloc w1 (.cells #[.int .i64 x0, .int .i64 x1, .int .i64 x2, .int .i64 x3, .int .i64 x4] 23) _ (by omega)).trans ((hb1.block (w.heap.size + 1 + 1) (by rw [ms.out]; omega)).trans M3.out.2.2))
  have FX := Lib.hid (heap_alloc_new w1 (.cells #[.int .i64 x0, .int .i64 x1, .int .i64 x2, .int .i64 x3, .int .i64 x4] 23))
  have BW := Lib.hid ((B3.out.trans (hb1.mono (by rw [ms.out]; omega))).alloc (by omega) (.cells #[.int .i64 x0, .int .i64 x1, .int .i64 x2, .int .i64 x3, .int .i64 x4] 23))
  clear hb1 M3 ms B3 P16 mP
  rw [HD.out]
  go_wp2_with ((with_reducible show wpList _ _ _ (Oper.mk _ (Op.load 35 _) _ _ _ _ :: _) _ _); refine wpList_load_all rfl 35 _ rfl (w.heap.size) _ _ rfl F0.out Tryd.underlying35 rfl (by rw [qz.out]; kernel_rfl) ?_)
  refine (KR.out _).mono ?_
  rintro e w2 ⟨rfl, hb2⟩
  have hz2 : w1.heap.size < w2.heap.size := by have := hb2.size; simp at this; omega
  have F0n := Lib.hid ((hb2.block (w.heap.size) (by simp; omega)).trans F0.out)
  have F1n := Lib.hid ((hb2.block (w.heap.size + 1) (by simp; omega)).trans F1.out)
  have F2n := Lib.hid ((hb2.block (w.heap.size + 1 + 1) (by simp; omega)).trans F2.out)
  have FXn := Lib.hid ((hb2.block w1.heap.size (by simp)).trans FX.out)
  have BWn := Lib.hid (BW.out.trans (hb2.mono (by simp; omega)))
  clear F0 F1 F2 FX BW
  have F0 := F0n
  have F1 := F1n
  have F2 := F2n
  have FX := FXn
  have BW := BWn
  clear F0n F1n F2n FXn BWn
  clear hb2 KR
  have e0 := cell_of_row _ _ 0 _ _ _ FX.out
  have e1 := cell_of_row _ _ 1 _ _ _ FX.out
  have e2 := cell_of_row _ _ 2 _ _ _ FX.out
  have e3 := cell_of_row _ _ 3 _ _ _ FX.out
  have e4 := cell_of_row _ _ 4 _ _ _ FX.out
  simp only [List.getElem?_toArray, List.getElem?_cons_zero, List.getElem?_cons_succ] at e0 e1 e2 e3 e4
  go_wp2_with (first | ((with_reducible show wpList _ _ _ (Oper.mk _ (Op.load 35 _) _ _ _ _ :: _) _ _); refine wpList_load_all rfl 35 _ rfl (w.heap.size) _ _ rfl F0.out Tryd.underlying35 rfl (by rw [qz.out]; kernel_rfl) ?_) | ((with_reducible show wpList _ _ _ (Oper.mk none (Op.store 35 _ _) _ _ _ _ :: _) _ _); refine wpList_store_all rfl rfl 35 _ _ rfl (w.heap.size + 1) _ cs rfl rfl F1.out (by rw [qz.out]; rfl) (by rw [qz.out]; kernel_rfl) one.out ?_; intro U hU; have G2 := Lib.hid ((hU.block _ (Nat.succ_ne_self _)).trans F2.out); have BU := Lib.hid (BW.out.setC (Nat.le_add_right _ 1) hU); have G1 := Lib.hid hU.at_; clear hU) | ((with_reducible show wpList _ _ _ (Oper.mk none (Op.store 40 _ _) _ _ _ _ :: _) _ _); refine wpList_store_all rfl rfl 40 _ _ rfl (w.heap.size + 1 + 1) _ (effC eff0) rfl rfl G2.out rfl (by kernel_rfl) (effC_one _) ?_; intro T hT))
  (try simp only [Exit.inBlock, Exit.then])
  have hld1 := ret_all (P := Tryd.prog) 35 (w.heap.size + 1) _ _ ((hT.block _ (Nat.ne_of_lt (Nat.lt_succ_self _))).trans G1.out) Tryd.underlying35 rfl (by rw [qz.out]; kernel_rfl)
  have hld2 := ret_all (P := Tryd.prog) 40 (w.heap.size + 1 + 1) _ _ hT.at_ Tryd.underlying40 rfl (by kernel_rfl)
  refine bodyPost_ret (v := .tuple #[.agg cs, .agg (effC eff0), .int .i64 14]) (by simp [results, Tryd.results41, asAddr, hld1, hld2]) rfl ?_
  exact ⟨rfl, BU.out.setC (Nat.le_add_right _ 2) hT⟩
set_option linter.unusedVariables false in
set_option linter.unusedSimpArgs false in
set_option maxRecDepth 100000 in
set_option maxHeartbeats 8000000 in
theorem stp_rhigh (m : List Int) (hm : All64 m) (M : Nat) (c : Cpu) (hc : c.Fits) (w : World) (hM : w.heap[M]? = some (.cells (numsC m) 3 (0, 0))) (hlen : m.length ≤ 16384) (p : Nat) (hp : c.pc = p) (hlt : p < m.length) (v : Int) (hv : m.getD p 0 = v) (x : Ins) (hx : decI v = x) (hd : decE v = 0) (hrb : readsB x = true) (h0 : 0 ≤ readsA c x) (ho : (m.length : Int) ≤ readsA c x) : Calls Tryd.prog 41 #[.slice (some ⟨M, 0, none⟩) m.length m.length, .agg (cpuC c)] w (Fails w c) := by
  have hMlt : M < w.heap.size := (Array.getElem?_eq_some_iff.1 hM).1
  have hvf : I64 v := hv ▸ hm p
  have hxf : x.Fits := hx ▸ decI_fits hvf
  have qz := Lib.hid (cpuC_size hc.len)
  have qP := Lib.hid (cpuC_pc hc.len)
  have one := Lib.hid (cpuC_one c)
  have HC := Lib.hid hc
  have HM := Lib.hid hM
  have mP : ∀ o0 o1 o2 : Obj, (((w.alloc o0).alloc o1).alloc o2).cell? ⟨M, p, none⟩ = some (.int .i64 v) := fun o0 o1 o2 => ((Below.new3 w o0 o1 o2).cell (p := ⟨M, p, none⟩) hMlt).trans ((cell_of_row _ _ p _ _ _ hM).trans ((numsC_at m p hlt).trans (by rw [hv])))
  have hx' := Lib.hid hx
  rw [hp] at qP
  have HP := Lib.hid hp
  clear hc hM hv hx hp hm
  obtain ⟨cs, hcs⟩ : ∃ y, Hid (cpuC c = y) := ⟨_, rfl⟩
  obtain ⟨L, hL⟩ : ∃ y : Nat, Hid (m.length = y) := ⟨_, rfl⟩
  rw [hcs.out] at qz qP one
  rw [hL.out] at hlt hlen
  obtain ⟨pc, hpc⟩ : ∃ y : Int, Hid ((p : Int) = y) := ⟨_, rfl⟩
  obtain ⟨x0, x1, x2, x3, x4⟩ := x
  have HD := Lib.hid hd
  clear hd
  unfold Fails
  obtain ⟨ra, hra⟩ : ∃ y, Hid (readsA c ⟨x0, x1, x2, x3, x4⟩ = y) := ⟨_, rfl⟩
  have KR := Lib.hid (show ∀ W : World, Calls Tryd.prog 19 #[.agg cs, insV ⟨x0, x1, x2, x3, x4⟩] W (GivesB W ra true) from fun W => by
    have := refReads_any c HC.out ⟨x0, x1, x2, x3, x4⟩ hxf W
    rw [hcs.out, hra.out, hrb] at this
    exact this)
  rw [hra.out] at h0 ho
  rw [hL.out] at ho
  clear hrb hra
  rw [hcs.out, hL.out]
  have P16 : ∀ o1 o2 : Obj, (((w.alloc (.cells cs 35)).alloc o1).alloc o2).cell? ⟨w.heap.size, 16, none⟩ = some (.int .i64 (p : Int)) := fun o1 o2 => (cell_of_row _ _ 16 _ _ _ (new3 w _ o1 o2).1).trans qP.out
  clear hpc
  go_enter Tryd.func41, Tryd.ntmps41
  go_wp2_with fail
  refine (refDecode_any v hvf _).mono ?_
  rintro e w1 ⟨rfl, hb1⟩
  rw [hx'.out]
  change Below (((w.alloc (.cells cs 35)).alloc (.cells (cpuC cpu0) 35)).alloc (.cells (effC eff0) 40)).heap.size _ _ at hb1
  have M3 := Lib.hid (new3 w (.cells cs 35) (.cells (cpuC cpu0) 35) (.cells (effC eff0) 40))
  have ms := Lib.hid (new3_size w (.cells cs 35) (.cells (cpuC cpu0) 35) (.cells (effC eff0) 40))
  have B3 := Lib.hid (Below.new3 w (.cells cs 35) (.cells (cpuC cpu0) 35) (.cells (effC eff0) 40))
  have hz1 : w.heap.size + 1 + 1 < w1.heap.size := Nat.le_trans (Nat.le_of_eq ms.out.symm) hb1.size
  have F0 := Lib.hid ((Below.heap_alloc w1 (.cells #[.int .i64 x0, .int .i64 x1, .int .i64 x2, .int .i64 x3, .int .i64 x4] 23) _ (by omega)).trans ((hb1.block (w.heap.size) (by rw [ms.out]; omega)).trans M3.out.1))
  have F1 := Lib.hid ((Below.heap_alloc w1 (.cells #[.int .i64 x0, .int .i64 x1, .int .i64 x2, .int .i64 x3, .int .i64 x4] 23) _ (by omega)).trans ((hb1.block (w.heap.size + 1) (by rw [ms.out]; omega)).trans M3.out.2.1))
  have F2 := Lib.hid ((Below.heap_alloc w1 (.cells #[.int .i64 x0, .int .i64 x1, .int .i64 x2, .int .i64 x3, .int .i64 x4] 23) _ (by omega)).trans ((hb1.block (w.heap.size + 1 + 1) (by rw [ms.out]; omega)).trans M3.out.2.2))
  have FX := Lib.hid (heap_alloc_new w1 (.cells #[.int .i64 x0, .int .i64 x1, .int .i64 x2, .int .i64 x3, .int .i64 x4] 23))
  have BW := Lib.hid ((B3.out.trans (hb1.mono (by rw [ms.out]; omega))).alloc (by omega) (.cells #[.int .i64 x0, .int .i64 x1, .int .i64 x2, .int .i64 x3, .int .i64 x4] 23))
  clear hb1 M3 ms B3 P16 mP
  rw [HD.out]
  go_wp2_with ((with_reducible show wpList _ _ _ (Oper.mk _ (Op.load 35 _) _ _ _ _ :: _) _ _); refine wpList_load_all rfl 35 _ rfl (w.heap.size) _ _ rfl F0.out Tryd.underlying35 rfl (by rw [qz.out]; kernel_rfl) ?_)
  refine (KR.out _).mono ?_
  rintro e w2 ⟨rfl, hb2⟩
  have hz2 : w1.heap.size < w2.heap.size := by have := hb2.size; simp at this; omega
  have F0n := Lib.hid ((hb2.block (w.heap.size) (by simp; omega)).trans F0.out)
  have F1n := Lib.hid ((hb2.block (w.heap.size + 1) (by simp; omega)).trans F1.out)
  have F2n := Lib.hid ((hb2.block (w.heap.size + 1 + 1) (by simp; omega)).trans F2.out)
  have FXn := Lib.hid ((hb2.block w1.heap.size (by simp)).trans FX.out)
  have BWn := Lib.hid (BW.out.trans (hb2.mono (by simp; omega)))
  clear F0 F1 F2 FX BW
  have F0 := F0n
  have F1 := F1n
  have F2 := F2n
  have FX := FXn
  have BW := BWn
  clear F0n F1n F2n FXn BWn
  clear hb2 KR
  have e0 := cell_of_row _ _ 0 _ _ _ FX.out
  have e1 := cell_of_row _ _ 1 _ _ _ FX.out
  have e2 := cell_of_row _ _ 2 _ _ _ FX.out
  have e3 := cell_of_row _ _ 3 _ _ _ FX.out
  have e4 := cell_of_row _ _ 4 _ _ _ FX.out
  simp only [List.getElem?_toArray, List.getElem?_cons_zero, List.getElem?_cons_succ] at e0 e1 e2 e3 e4
  go_wp2_with (first | ((with_reducible show wpList _ _ _ (Oper.mk _ (Op.load 35 _) _ _ _ _ :: _) _ _); refine wpList_load_all rfl 35 _ rfl (w.heap.size) _ _ rfl F0.out Tryd.underlying35 rfl (by rw [qz.out]; kernel_rfl) ?_) | ((with_reducible show wpList _ _ _ (Oper.mk none (Op.store 35 _ _) _ _ _ _ :: _) _ _); refine wpList_store_all rfl rfl 35 _ _ rfl (w.heap.size + 1) _ cs rfl rfl F1.out (by rw [qz.out]; rfl) (by rw [qz.out]; kernel_rfl) one.out ?_; intro U hU; have G2 := Lib.hid ((hU.block _ (Nat.succ_ne_self _)).trans F2.out); have BU := Lib.hid (BW.out.setC (Nat.le_add_right _ 1) hU); have G1 := Lib.hid hU.at_; clear hU) | ((with_reducible show wpList _ _ _ (Oper.mk none (Op.store 40 _ _) _ _ _ _ :: _) _ _); refine wpList_store_all rfl rfl 40 _ _ rfl (w.heap.size + 1 + 1) _ (effC eff0) rfl rfl G2.out rfl (by kernel_rfl) (effC_one _) ?_; intro T hT))
  (try simp only [Exit.inBlock, Exit.then])
  have hld1 := ret_all (P := Tryd.prog) 35 (w.heap.size + 1) _ _ ((hT.block _ (Nat.ne_of_lt (Nat.lt_succ_self _))).trans G1.out) Tryd.underlying35 rfl (by rw [qz.out]; kernel_rfl)
  have hld2 := ret_all (P := Tryd.prog) 40 (w.heap.size + 1 + 1) _ _ hT.at_ Tryd.underlying40 rfl (by kernel_rfl)
  refine bodyPost_ret (v := .tuple #[.agg cs, .agg (effC eff0), .int .i64 14]) (by simp [results, Tryd.results41, asAddr, hld1, hld2]) rfl ?_
  exact ⟨rfl, BU.out.setC (Nat.le_add_right _ 2) hT⟩
set_option linter.unusedVariables false in
set_option linter.unusedSimpArgs false in
set_option maxRecDepth 100000 in
set_option maxHeartbeats 8000000 in
theorem stp_exec_n (m : List Int) (hm : All64 m) (M : Nat) (c : Cpu) (hc : c.Fits) (w : World) (hM : w.heap[M]? = some (.cells (numsC m) 3 (0, 0))) (hlen : m.length ≤ 16384) (p : Nat) (hp : c.pc = p) (hlt : p < m.length) (v : Int) (hv : m.getD p 0 = v) (x : Ins) (hx : decI v = x) (hd : decE v = 0) (hrb : readsB x = false) (hex : exE x = 14) : Calls Tryd.prog 41 #[.slice (some ⟨M, 0, none⟩) m.length m.length, .agg (cpuC c)] w (Fails w c) := by
  have hMlt : M < w.heap.size := (Array.getElem?_eq_some_iff.1 hM).1
  have hvf : I64 v := hv ▸ hm p
  have hxf : x.Fits := hx ▸ decI_fits hvf
  have qz := Lib.hid (cpuC_size hc.len)
  have qP := Lib.hid (cpuC_pc hc.len)
  have one := Lib.hid (cpuC_one c)
  have HC := Lib.hid hc
  have HM := Lib.hid hM
  have mP : ∀ o0 o1 o2 : Obj, (((w.alloc o0).alloc o1).alloc o2).cell? ⟨M, p, none⟩ = some (.int .i64 v) := fun o0 o1 o2 => ((Below.new3 w o0 o1 o2).cell (p := ⟨M, p, none⟩) hMlt).trans ((cell_of_row _ _ p _ _ _ hM).trans ((numsC_at m p hlt).trans (by rw [hv])))
  have hx' := Lib.hid hx
  rw [hp] at qP
  have HP := Lib.hid hp
  clear hc hM hv hx hp hm
  obtain ⟨cs, hcs⟩ : ∃ y, Hid (cpuC c = y) := ⟨_, rfl⟩
  obtain ⟨L, hL⟩ : ∃ y : Nat, Hid (m.length = y) := ⟨_, rfl⟩
  rw [hcs.out] at qz qP one
  rw [hL.out] at hlt hlen
  obtain ⟨pc, hpc⟩ : ∃ y : Int, Hid ((p : Int) = y) := ⟨_, rfl⟩
  obtain ⟨x0, x1, x2, x3, x4⟩ := x
  have HD := Lib.hid hd
  clear hd
  unfold Fails
  obtain ⟨ra, hra⟩ : ∃ y, Hid (readsA c ⟨x0, x1, x2, x3, x4⟩ = y) := ⟨_, rfl⟩
  have KR := Lib.hid (show ∀ W : World, Calls Tryd.prog 19 #[.agg cs, insV ⟨x0, x1, x2, x3, x4⟩] W (GivesB W ra false) from fun W => by
    have := refReads_any c HC.out ⟨x0, x1, x2, x3, x4⟩ hxf W
    rw [hcs.out, hra.out, hrb] at this
    exact this)
  obtain ⟨X, hX⟩ : ∃ y, Hid (exV c ⟨x0, x1, x2, x3, x4⟩ 0 = y) := ⟨_, rfl⟩
  have KX := Lib.hid (show ∀ W : World, Calls Tryd.prog 21 #[.agg cs, insV ⟨x0, x1, x2, x3, x4⟩, .int .i64 0] W (Gives2 W (.agg (effC X)) (.int .i64 14)) from fun W => by
    have := refExecute_any c HC.out ⟨x0, x1, x2, x3, x4⟩ hxf 0 W
    rw [hcs.out, hX.out, hex] at this
    exact this)
  have xl := Lib.hid (show X.cpu.r.length = 16 by rw [← hX.out]; exact exV_len c _ 0 HC.out.len)
  have k16 := Lib.hid (effC_at16 X xl.out)
  have k17 := Lib.hid (effC_at17 X xl.out)
  have ksz := Lib.hid (effC_size xl.out)
  have kone := Lib.hid (effC_one X)
  obtain ⟨ps, hps⟩ : ∃ y, Hid (effC X = y) := ⟨_, rfl⟩
  rw [hps.out] at KX k16 k17 ksz kone
  clear hrb hra hex hX hps
  rw [hcs.out, hL.out]
  have P16 : ∀ o1 o2 : Obj, (((w.alloc (.cells cs 35)).alloc o1).alloc o2).cell? ⟨w.heap.size, 16, none⟩ = some (.int .i64 (p : Int)) := fun o1 o2 => (cell_of_row _ _ 16 _ _ _ (new3 w _ o1 o2).1).trans qP.out
  clear hpc
  go_enter Tryd.func41, Tryd.ntmps41
  go_wp2_with fail
  refine (refDecode_any v hvf _).mono ?_
  rintro e w1 ⟨rfl, hb1⟩
  rw [hx'.out]
  change Below (((w.alloc (.cells cs 35)).alloc (.cells (cpuC cpu0) 35)).alloc (.cells (effC eff0) 40)).heap.size _ _ at hb1
  have M3 := Lib.hid (new3 w (.cells cs 35) (.cells (cpuC cpu0) 35) (.cells (effC eff0) 40))
  have ms := Lib.hid (new3_size w (.cells cs 35) (.cells (cpuC cpu0) 35) (.cells (effC eff0) 40))
  have B3 := Lib.hid (Below.new3 w (.cells cs 35) (.cells (cpuC cpu0) 35) (.cells (effC eff0) 40))
  have hz1 : w.heap.size + 1 + 1 < w1.heap.size := Nat.le_trans (Nat.le_of_eq ms.out.symm) hb1.size
  have F0 := Lib.hid ((Below.heap_alloc w1 (.cells #[.int .i64 x0, .int .i64 x1, .int .i64 x2, .int .i64 x3, .int .i64 x4] 23) _ (by omega)).trans ((hb1.block (w.heap.size) (by rw [ms.out]; omega)).trans M3.out.1))
  have F1 := Lib.hid ((Below.heap_alloc w1 (.cells #[.int .i64 x0, .int .i64 x1, .int .i64 x2, .int .i64 x3, .int .i64 x4] 23) _ (by omega)).trans ((hb1.block (w.heap.size + 1) (by rw [ms.out]; omega)).trans M3.out.2.1))
  have F2 := Lib.hid ((Below.heap_alloc w1 (.cells #[.int .i64 x0, .int .i64 x1, .int .i64 x2, .int .i64 x3, .int .i64 x4] 23) _ (by omega)).trans ((hb1.block (w.heap.size + 1 + 1) (by rw [ms.out]; omega)).trans M3.out.2.2))
  have FX := Lib.hid (heap_alloc_new w1 (.cells #[.int .i64 x0, .int .i64 x1, .int .i64 x2, .int .i64 x3, .int .i64 x4] 23))
  have BW := Lib.hid ((B3.out.trans (hb1.mono (by rw [ms.out]; omega))).alloc (by omega) (.cells #[.int .i64 x0, .int .i64 x1, .int .i64 x2, .int .i64 x3, .int .i64 x4] 23))
  clear hb1 M3 ms B3 P16 mP
  rw [HD.out]
  go_wp2_with ((with_reducible show wpList _ _ _ (Oper.mk _ (Op.load 35 _) _ _ _ _ :: _) _ _); refine wpList_load_all rfl 35 _ rfl (w.heap.size) _ _ rfl F0.out Tryd.underlying35 rfl (by rw [qz.out]; kernel_rfl) ?_)
  refine (KR.out _).mono ?_
  rintro e w2 ⟨rfl, hb2⟩
  have hz2 : w1.heap.size < w2.heap.size := by have := hb2.size; simp at this; omega
  have F0n := Lib.hid ((hb2.block (w.heap.size) (by simp; omega)).trans F0.out)
  have F1n := Lib.hid ((hb2.block (w.heap.size + 1) (by simp; omega)).trans F1.out)
  have F2n := Lib.hid ((hb2.block (w.heap.size + 1 + 1) (by simp; omega)).trans F2.out)
  have FXn := Lib.hid ((hb2.block w1.heap.size (by simp)).trans FX.out)
  have BWn := Lib.hid (BW.out.trans (hb2.mono (by simp; omega)))
  clear F0 F1 F2 FX BW
  have F0 := F0n
  have F1 := F1n
  have F2 := F2n
  have FX := FXn
  have BW := BWn
  clear F0n F1n F2n FXn BWn
  clear hb2 KR
  have e0 := cell_of_row _ _ 0 _ _ _ FX.out
  have e1 := cell_of_row _ _ 1 _ _ _ FX.out
  have e2 := cell_of_row _ _ 2 _ _ _ FX.out
  have e3 := cell_of_row _ _ 3 _ _ _ FX.out
  have e4 := cell_of_row _ _ 4 _ _ _ FX.out
  simp only [List.getElem?_toArray, List.getElem?_cons_zero, List.getElem?_cons_succ] at e0 e1 e2 e3 e4
  go_wp2_with ((with_reducible show wpList _ _ _ (Oper.mk _ (Op.load 35 _) _ _ _ _ :: _) _ _); refine wpList_load_all rfl 35 _ rfl (w.heap.size) _ _ rfl F0.out Tryd.underlying35 rfl (by rw [qz.out]; kernel_rfl) ?_)
  refine (KX.out _).mono ?_
  rintro e w3 ⟨rfl, hb3⟩
  have hz3 : w1.heap.size < w3.heap.size := Nat.lt_of_lt_of_le hz2 hb3.size
  clear e0 e1 e2 e3 e4
  have F0n := Lib.hid ((hb3.block (w.heap.size) (by omega)).trans F0.out)
  have F1n := Lib.hid ((hb3.block (w.heap.size + 1) (by omega)).trans F1.out)
  have F2n := Lib.hid ((hb3.block (w.heap.size + 1 + 1) (by omega)).trans F2.out)
  have FXn := Lib.hid ((hb3.block w1.heap.size (by omega)).trans FX.out)
  have BWn := Lib.hid (BW.out.trans (hb3.mono (by omega)))
  clear F0 F1 F2 FX BW
  have F0 := F0n
  have F1 := F1n
  have F2 := F2n
  have FX := FXn
  have BW := BWn
  clear F0n F1n F2n FXn BWn
  clear hb3 KX
  go_wp2_with (first | ((with_reducible show wpList _ _ _ (Oper.mk none (Op.store 40 _ _) _ _ _ _ :: _) _ _); refine wpList_store_all rfl rfl 40 _ _ rfl w3.heap.size _ ps rfl rfl (heap_alloc_new _ _) (by rw [ksz.out]; rfl) (by rw [ksz.out]; kernel_rfl) kone.out ?_; intro U3 hU; have FP := Lib.hid hU.at_; have F0n := Lib.hid ((hU.block _ (by omega)).trans ((Below.heap_alloc _ _ _ (by omega)).trans F0.out)); have F1n := Lib.hid ((hU.block _ (by omega)).trans ((Below.heap_alloc _ _ _ (by omega)).trans F1.out)); have F2n := Lib.hid ((hU.block _ (by omega)).trans ((Below.heap_alloc _ _ _ (by omega)).trans F2.out)); have BWn := Lib.hid ((BW.out.alloc (by omega) _).setC (by omega) hU); clear F0 F1 F2 BW; have F0 := F0n; have F1 := F1n; have F2 := F2n; have BW := BWn; clear F0n F1n F2n BWn; have hzU : w3.heap.size < U3.heap.size := (by rw [hU.size]; simp); clear hU; have m16 := (cell_of_row _ _ 16 _ _ _ FP.out).trans k16.out; have m17 := (cell_of_row _ _ 17 _ _ _ FP.out).trans k17.out.1; have m18 := (cell_of_row _ _ 18 _ _ _ FP.out).trans k17.out.2.1; have m19 := (cell_of_row _ _ 19 _ _ _ FP.out).trans k17.out.2.2) | ((with_reducible show wpList _ _ _ (Oper.mk _ (Op.load 35 _) _ _ _ _ :: _) _ _); refine wpList_load_all rfl 35 _ rfl (w.heap.size) _ _ rfl F0.out Tryd.underlying35 rfl (by rw [qz.out]; kernel_rfl) ?_) | ((with_reducible show wpList _ _ _ (Oper.mk none (Op.store 35 _ _) _ _ _ _ :: _) _ _); refine wpList_store_all rfl rfl 35 _ _ rfl (w.heap.size + 1) _ cs rfl rfl F1.out (by rw [qz.out]; rfl) (by rw [qz.out]; kernel_rfl) one.out ?_; intro U hU; have G2 := Lib.hid ((hU.block _ (Nat.succ_ne_self _)).trans F2.out); have BU := Lib.hid (BW.out.setC (Nat.le_add_right _ 1) hU); have G1 := Lib.hid hU.at_; clear hU) | ((with_reducible show wpList _ _ _ (Oper.mk none (Op.store 40 _ _) _ _ _ _ :: _) _ _); refine wpList_store_all rfl rfl 40 _ _ rfl (w.heap.size + 1 + 1) _ (effC eff0) rfl rfl G2.out rfl (by kernel_rfl) (effC_one _) ?_; intro T hT))
  (try simp only [Exit.inBlock, Exit.then])
  have hld1 := ret_all (P := Tryd.prog) 35 (w.heap.size + 1) _ _ ((hT.block _ (Nat.ne_of_lt (Nat.lt_succ_self _))).trans G1.out) Tryd.underlying35 rfl (by rw [qz.out]; kernel_rfl)
  have hld2 := ret_all (P := Tryd.prog) 40 (w.heap.size + 1 + 1) _ _ hT.at_ Tryd.underlying40 rfl (by kernel_rfl)
  refine bodyPost_ret (v := .tuple #[.agg cs, .agg (effC eff0), .int .i64 14]) (by simp [results, Tryd.results41, asAddr, hld1, hld2]) rfl ?_
  exact ⟨rfl, BU.out.setC (Nat.le_add_right _ 2) hT⟩
set_option linter.unusedVariables false in
set_option linter.unusedSimpArgs false in
set_option maxRecDepth 100000 in
set_option maxHeartbeats 8000000 in
theorem stp_exec_r (m : List Int) (hm : All64 m) (M : Nat) (c : Cpu) (hc : c.Fits) (w : World) (hM : w.heap[M]? = some (.cells (numsC m) 3 (0, 0))) (hlen : m.length ≤ 16384) (p : Nat) (hp : c.pc = p) (hlt : p < m.length) (v : Int) (hv : m.getD p 0 = v) (x : Ins) (hx : decI v = x) (hd : decE v = 0) (hrb : readsB x = true) (q : Nat) (hq : readsA c x = q) (hqm : q < m.length) (ld : Int) (hq2 : m.getD q 0 = ld) (hex : exE x = 14) : Calls Tryd.prog 41 #[.slice (some ⟨M, 0, none⟩) m.length m.length, .agg (cpuC c)] w (Fails w c) := by
  have hMlt : M < w.heap.size := (Array.getElem?_eq_some_iff.1 hM).1
  have hvf : I64 v := hv ▸ hm p
  have hxf : x.Fits := hx ▸ decI_fits hvf
  have qz := Lib.hid (cpuC_size hc.len)
  have qP := Lib.hid (cpuC_pc hc.len)
  have one := Lib.hid (cpuC_one c)
  have HC := Lib.hid hc
  have HM := Lib.hid hM
  have mP : ∀ o0 o1 o2 : Obj, (((w.alloc o0).alloc o1).alloc o2).cell? ⟨M, p, none⟩ = some (.int .i64 v) := fun o0 o1 o2 => ((Below.new3 w o0 o1 o2).cell (p := ⟨M, p, none⟩) hMlt).trans ((cell_of_row _ _ p _ _ _ hM).trans ((numsC_at m p hlt).trans (by rw [hv])))
  have hx' := Lib.hid hx
  rw [hp] at qP
  have HP := Lib.hid hp
  clear hc hM hv hx hp hm
  obtain ⟨cs, hcs⟩ : ∃ y, Hid (cpuC c = y) := ⟨_, rfl⟩
  obtain ⟨L, hL⟩ : ∃ y : Nat, Hid (m.length = y) := ⟨_, rfl⟩
  rw [hcs.out] at qz qP one
  rw [hL.out] at hlt hlen
  obtain ⟨pc, hpc⟩ : ∃ y : Int, Hid ((p : Int) = y) := ⟨_, rfl⟩
  obtain ⟨x0, x1, x2, x3, x4⟩ := x
  have HD := Lib.hid hd
  clear hd
  have HQ2 := Lib.hid hq2
  clear hq2
  have hqL : q < L := by rw [← hL.out]; exact hqm
  unfold Fails
  obtain ⟨ra, hra⟩ : ∃ y, Hid (readsA c ⟨x0, x1, x2, x3, x4⟩ = y) := ⟨_, rfl⟩
  have KR := Lib.hid (show ∀ W : World, Calls Tryd.prog 19 #[.agg cs, insV ⟨x0, x1, x2, x3, x4⟩] W (GivesB W ra true) from fun W => by
    have := refReads_any c HC.out ⟨x0, x1, x2, x3, x4⟩ hxf W
    rw [hcs.out, hra.out, hrb] at this
    exact this)
  rw [hra.out] at hq
  subst hq
  obtain ⟨X, hX⟩ : ∃ y, Hid (exV c ⟨x0, x1, x2, x3, x4⟩ ld = y) := ⟨_, rfl⟩
  have KX := Lib.hid (show ∀ W : World, Calls Tryd.prog 21 #[.agg cs, insV ⟨x0, x1, x2, x3, x4⟩, .int .i64 ld] W (Gives2 W (.agg (effC X)) (.int .i64 14)) from fun W => by
    have := refExecute_any c HC.out ⟨x0, x1, x2, x3, x4⟩ hxf ld W
    rw [hcs.out, hX.out, hex] at this
    exact this)
  have xl := Lib.hid (show X.cpu.r.length = 16 by rw [← hX.out]; exact exV_len c _ ld HC.out.len)
  have k16 := Lib.hid (effC_at16 X xl.out)
  have k17 := Lib.hid (effC_at17 X xl.out)
  have ksz := Lib.hid (effC_size xl.out)
  have kone := Lib.hid (effC_one X)
  obtain ⟨ps, hps⟩ : ∃ y, Hid (effC X = y) := ⟨_, rfl⟩
  rw [hps.out] at KX k16 k17 ksz kone
  clear hrb hra hex hX hps
  rw [hcs.out, hL.out]
  have P16 : ∀ o1 o2 : Obj, (((w.alloc (.cells cs 35)).alloc o1).alloc o2).cell? ⟨w.heap.size, 16, none⟩ = some (.int .i64 (p : Int)) := fun o1 o2 => (cell_of_row _ _ 16 _ _ _ (new3 w _ o1 o2).1).trans qP.out
  clear hpc
  go_enter Tryd.func41, Tryd.ntmps41
  go_wp2_with fail
  refine (refDecode_any v hvf _).mono ?_
  rintro e w1 ⟨rfl, hb1⟩
  rw [hx'.out]
  change Below (((w.alloc (.cells cs 35)).alloc (.cells (cpuC cpu0) 35)).alloc (.cells (effC eff0) 40)).heap.size _ _ at hb1
  have M3 := Lib.hid (new3 w (.cells cs 35) (.cells (cpuC cpu0) 35) (.cells (effC eff0) 40))
  have ms := Lib.hid (new3_size w (.cells cs 35) (.cells (cpuC cpu0) 35) (.cells (effC eff0) 40))
  have B3 := Lib.hid (Below.new3 w (.cells cs 35) (.cells (cpuC cpu0) 35) (.cells (effC eff0) 40))
  have hz1 : w.heap.size + 1 + 1 < w1.heap.size := Nat.le_trans (Nat.le_of_eq ms.out.symm) hb1.size
  have F0 := Lib.hid ((Below.heap_alloc w1 (.cells #[.int .i64 x0, .int .i64 x1, .int .i64 x2, .int .i64 x3, .int .i64 x4] 23) _ (by omega)).trans ((hb1.block (w.heap.size) (by rw [ms.out]; omega)).trans M3.out.1))
  have F1 := Lib.hid ((Below.heap_alloc w1 (.cells #[.int .i64 x0, .int .i64 x1, .int .i64 x2, .int .i64 x3, .int .i64 x4] 23) _ (by omega)).trans ((hb1.block (w.heap.size + 1) (by rw [ms.out]; omega)).trans M3.out.2.1))
  have F2 := Lib.hid ((Below.heap_alloc w1 (.cells #[.int .i64 x0, .int .i64 x1, .int .i64 x2, .int .i64 x3, .int .i64 x4] 23) _ (by omega)).trans ((hb1.block (w.heap.size + 1 + 1) (by rw [ms.out]; omega)).trans M3.out.2.2))
  have FX := Lib.hid (heap_alloc_new w1 (.cells #[.int .i64 x0, .int .i64 x1, .int .i64 x2, .int .i64 x3, .int .i64 x4] 23))
  have BW := Lib.hid ((B3.out.trans (hb1.mono (by rw [ms.out]; omega))).alloc (by omega) (.cells #[.int .i64 x0, .int .i64 x1, .int .i64 x2, .int .i64 x3, .int .i64 x4] 23))
  clear hb1 M3 ms B3 P16 mP
  rw [HD.out]
  go_wp2_with ((with_reducible show wpList _ _ _ (Oper.mk _ (Op.load 35 _) _ _ _ _ :: _) _ _); refine wpList_load_all rfl 35 _ rfl (w.heap.size) _ _ rfl F0.out Tryd.underlying35 rfl (by rw [qz.out]; kernel_rfl) ?_)
  refine (KR.out _).mono ?_
  rintro e w2 ⟨rfl, hb2⟩
  have hz2 : w1.heap.size < w2.heap.size := by have := hb2.size; simp at this; omega
  have F0n := Lib.hid ((hb2.block (w.heap.size) (by simp; omega)).trans F0.out)
  have F1n := Lib.hid ((hb2.block (w.heap.size + 1) (by simp; omega)).trans F1.out)
  have F2n := Lib.hid ((hb2.block (w.heap.size + 1 + 1) (by simp; omega)).trans F2.out)
  have FXn := Lib.hid ((hb2.block w1.heap.size (by simp)).trans FX.out)
  have BWn := Lib.hid (BW.out.trans (hb2.mono (by simp; omega)))
  clear F0 F1 F2 FX BW
  have F0 := F0n
  have F1 := F1n
  have F2 := F2n
  have FX := FXn
  have BW := BWn
  clear F0n F1n F2n FXn BWn
  clear hb2 KR
  have e0 := cell_of_row _ _ 0 _ _ _ FX.out
  have e1 := cell_of_row _ _ 1 _ _ _ FX.out
  have e2 := cell_of_row _ _ 2 _ _ _ FX.out
  have e3 := cell_of_row _ _ 3 _ _ _ FX.out
  have e4 := cell_of_row _ _ 4 _ _ _ FX.out
  simp only [List.getElem?_toArray, List.getElem?_cons_zero, List.getElem?_cons_succ] at e0 e1 e2 e3 e4
  have eM := (BW.out.cell (p := ⟨M, q, none⟩) hMlt).trans ((cell_of_row _ _ q _ _ _ HM.out).trans ((numsC_at m q hqm).trans (by rw [HQ2.out])))
  clear hqm
  go_wp2_with ((with_reducible show wpList _ _ _ (Oper.mk _ (Op.load 35 _) _ _ _ _ :: _) _ _); refine wpList_load_all rfl 35 _ rfl (w.heap.size) _ _ rfl F0.out Tryd.underlying35 rfl (by rw [qz.out]; kernel_rfl) ?_)
  refine (KX.out _).mono ?_
  rintro e w3 ⟨rfl, hb3⟩
  have hz3 : w1.heap.size < w3.heap.size := Nat.lt_of_lt_of_le hz2 hb3.size
  clear e0 e1 e2 e3 e4 eM
  have F0n := Lib.hid ((hb3.block (w.heap.size) (by omega)).trans F0.out)
  have F1n := Lib.hid ((hb3.block (w.heap.size + 1) (by omega)).trans F1.out)
  have F2n := Lib.hid ((hb3.block (w.heap.size + 1 + 1) (by omega)).trans F2.out)
  have FXn := Lib.hid ((hb3.block w1.heap.size (by omega)).trans FX.out)
  have BWn := Lib.hid (BW.out.trans (hb3.mono (by omega)))
  clear F0 F1 F2 FX BW
  have F0 := F0n
  have F1 := F1n
  have F2 := F2n
  have FX := FXn
  have BW := BWn
  clear F0n F1n F2n FXn BWn
  clear hb3 KX
  go_wp2_with (first | ((with_reducible show wpList _ _ _ (Oper.mk none (Op.store 40 _ _) _ _ _ _ :: _) _ _); refine wpList_store_all rfl rfl 40 _ _ rfl w3.heap.size _ ps rfl rfl (heap_alloc_new _ _) (by rw [ksz.out]; rfl) (by rw [ksz.out]; kernel_rfl) kone.out ?_; intro U3 hU; have FP := Lib.hid hU.at_; have F0n := Lib.hid ((hU.block _ (by omega)).trans ((Below.heap_alloc _ _ _ (by omega)).trans F0.out)); have F1n := Lib.hid ((hU.block _ (by omega)).trans ((Below.heap_alloc _ _ _ (by omega)).trans F1.out)); have F2n := Lib.hid ((hU.block _ (by omega)).trans ((Below.heap_alloc _ _ _ (by omega)).trans F2.out)); have BWn := Lib.hid ((BW.out.alloc (by omega) _).setC (by omega) hU); clear F0 F1 F2 BW; have F0 := F0n; have F1 := F1n; have F2 := F2n; have BW := BWn; clear F0n F1n F2n BWn; have hzU : w3.heap.size < U3.heap.size := (by rw [hU.size]; simp); clear hU; have m16 := (cell_of_row _ _ 16 _ _ _ FP.out).trans k16.out; have m17 := (cell_of_row _ _ 17 _ _ _ FP.out).trans k17.out.1; have m18 := (cell_of_row _ _ 18 _ _ _ FP.out).trans k17.out.2.1; have m19 := (cell_of_row _ _ 19 _ _ _ FP.out).trans k17.out.2.2) | ((with_reducible show wpList _ _ _ (Oper.mk _ (Op.load 35 _) _ _ _ _ :: _) _ _); refine wpList_load_all rfl 35 _ rfl (w.heap.size) _ _ rfl F0.out Tryd.underlying35 rfl (by rw [qz.out]; kernel_rfl) ?_) | ((with_reducible show wpList _ _ _ (Oper.mk none (Op.store 35 _ _) _ _ _ _ :: _) _ _); refine wpList_store_all rfl rfl 35 _ _ rfl (w.heap.size + 1) _ cs rfl rfl F1.out (by rw [qz.out]; rfl) (by rw [qz.out]; kernel_rfl) one.out ?_; intro U hU; have G2 := Lib.hid ((hU.block _ (Nat.succ_ne_self _)).trans F2.out); have BU := Lib.hid (BW.out.setC (Nat.le_add_right _ 1) hU); have G1 := Lib.hid hU.at_; clear hU) | ((with_reducible show wpList _ _ _ (Oper.mk none (Op.store 40 _ _) _ _ _ _ :: _) _ _); refine wpList_store_all rfl rfl 40 _ _ rfl (w.heap.size + 1 + 1) _ (effC eff0) rfl rfl G2.out rfl (by kernel_rfl) (effC_one _) ?_; intro T hT))
  (try simp only [Exit.inBlock, Exit.then])
  have hld1 := ret_all (P := Tryd.prog) 35 (w.heap.size + 1) _ _ ((hT.block _ (Nat.ne_of_lt (Nat.lt_succ_self _))).trans G1.out) Tryd.underlying35 rfl (by rw [qz.out]; kernel_rfl)
  have hld2 := ret_all (P := Tryd.prog) 40 (w.heap.size + 1 + 1) _ _ hT.at_ Tryd.underlying40 rfl (by kernel_rfl)
  refine bodyPost_ret (v := .tuple #[.agg cs, .agg (effC eff0), .int .i64 14]) (by simp [results, Tryd.results41, asAddr, hld1, hld2]) rfl ?_
  exact ⟨rfl, BU.out.setC (Nat.le_add_right _ 2) hT⟩
set_option linter.unusedVariables false in
set_option linter.unusedSimpArgs false in
set_option maxRecDepth 100000 in
set_option maxHeartbeats 8000000 in
theorem stp_slow_n (m : List Int) (hm : All64 m) (M : Nat) (c : Cpu) (hc : c.Fits) (w : World) (hM : w.heap[M]? = some (.cells (numsC m) 3 (0, 0))) (hlen : m.length ≤ 16384) (p : Nat) (hp : c.pc = p) (hlt : p < m.length) (v : Int) (hv : m.getD p 0 = v) (x : Ins) (hx : decI v = x) (hd : decE v = 0) (hrb : readsB x = false) (hex : exE x = 0) (hst : (exV c x 0).stores = true) (hlo : (exV c x 0).addr < 0) : Calls Tryd.prog 41 #[.slice (some ⟨M, 0, none⟩) m.length m.length, .agg (cpuC c)] w (Fails w c) := by
  have hMlt : M < w.heap.size := (Array.getElem?_eq_some_iff.1 hM).1
  have hvf : I64 v := hv ▸ hm p
  have hxf : x.Fits := hx ▸ decI_fits hvf
  have qz := Lib.hid (cpuC_size hc.len)
  have qP := Lib.hid (cpuC_pc hc.len)
  have one := Lib.hid (cpuC_one c)
  have HC := Lib.hid hc
  have HM := Lib.hid hM
  have mP : ∀ o0 o1 o2 : Obj, (((w.alloc o0).alloc o1).alloc o2).cell? ⟨M, p, none⟩ = some (.int .i64 v) := fun o0 o1 o2 => ((Below.new3 w o0 o1 o2).cell (p := ⟨M, p, none⟩) hMlt).trans ((cell_of_row _ _ p _ _ _ hM).trans ((numsC_at m p hlt).trans (by rw [hv])))
  have hx' := Lib.hid hx
  rw [hp] at qP
  have HP := Lib.hid hp
  clear hc hM hv hx hp hm
  obtain ⟨cs, hcs⟩ : ∃ y, Hid (cpuC c = y) := ⟨_, rfl⟩
  obtain ⟨L, hL⟩ : ∃ y : Nat, Hid (m.length = y) := ⟨_, rfl⟩
  rw [hcs.out] at qz qP one
  rw [hL.out] at hlt hlen
  obtain ⟨pc, hpc⟩ : ∃ y : Int, Hid ((p : Int) = y) := ⟨_, rfl⟩
  obtain ⟨x0, x1, x2, x3, x4⟩ := x
  have HD := Lib.hid hd
  clear hd
  unfold Fails
  obtain ⟨ra, hra⟩ : ∃ y, Hid (readsA c ⟨x0, x1, x2, x3, x4⟩ = y) := ⟨_, rfl⟩
  have KR := Lib.hid (show ∀ W : World, Calls Tryd.prog 19 #[.agg cs, insV ⟨x0, x1, x2, x3, x4⟩] W (GivesB W ra false) from fun W => by
    have := refReads_any c HC.out ⟨x0, x1, x2, x3, x4⟩ hxf W
    rw [hcs.out, hra.out, hrb] at this
    exact this)
  obtain ⟨X, hX⟩ : ∃ y, Hid (exV c ⟨x0, x1, x2, x3, x4⟩ 0 = y) := ⟨_, rfl⟩
  have KX := Lib.hid (show ∀ W : World, Calls Tryd.prog 21 #[.agg cs, insV ⟨x0, x1, x2, x3, x4⟩, .int .i64 0] W (Gives2 W (.agg (effC X)) (.int .i64 0)) from fun W => by
    have := refExecute_any c HC.out ⟨x0, x1, x2, x3, x4⟩ hxf 0 W
    rw [hcs.out, hX.out, hex] at this
    exact this)
  have xl := Lib.hid (show X.cpu.r.length = 16 by rw [← hX.out]; exact exV_len c _ 0 HC.out.len)
  have k16 := Lib.hid (effC_at16 X xl.out)
  have k17 := Lib.hid (effC_at17 X xl.out)
  have ksz := Lib.hid (effC_size xl.out)
  have kone := Lib.hid (effC_one X)
  rw [hX.out] at hst
  rw [hst] at k17
  obtain ⟨ad, had⟩ : ∃ y, Hid (X.addr = y) := ⟨_, rfl⟩
  obtain ⟨wd, hwd⟩ : ∃ y, Hid (X.word = y) := ⟨_, rfl⟩
  rw [had.out, hwd.out] at k17
  obtain ⟨ps, hps⟩ : ∃ y, Hid (effC X = y) := ⟨_, rfl⟩
  rw [hps.out] at KX k16 k17 ksz kone
  rw [hX.out, had.out] at hlo
  clear hrb hra hex hX hps hst had hwd
  rw [hcs.out, hL.out]
  have P16 : ∀ o1 o2 : Obj, (((w.alloc (.cells cs 35)).alloc o1).alloc o2).cell? ⟨w.heap.size, 16, none⟩ = some (.int .i64 (p : Int)) := fun o1 o2 => (cell_of_row _ _ 16 _ _ _ (new3 w _ o1 o2).1).trans qP.out
  clear hpc
  go_enter Tryd.func41, Tryd.ntmps41
  go_wp2_with fail
  refine (refDecode_any v hvf _).mono ?_
  rintro e w1 ⟨rfl, hb1⟩
  rw [hx'.out]
  change Below (((w.alloc (.cells cs 35)).alloc (.cells (cpuC cpu0) 35)).alloc (.cells (effC eff0) 40)).heap.size _ _ at hb1
  have M3 := Lib.hid (new3 w (.cells cs 35) (.cells (cpuC cpu0) 35) (.cells (effC eff0) 40))
  have ms := Lib.hid (new3_size w (.cells cs 35) (.cells (cpuC cpu0) 35) (.cells (effC eff0) 40))
  have B3 := Lib.hid (Below.new3 w (.cells cs 35) (.cells (cpuC cpu0) 35) (.cells (effC eff0) 40))
  have hz1 : w.heap.size + 1 + 1 < w1.heap.size := Nat.le_trans (Nat.le_of_eq ms.out.symm) hb1.size
  have F0 := Lib.hid ((Below.heap_alloc w1 (.cells #[.int .i64 x0, .int .i64 x1, .int .i64 x2, .int .i64 x3, .int .i64 x4] 23) _ (by omega)).trans ((hb1.block (w.heap.size) (by rw [ms.out]; omega)).trans M3.out.1))
  have F1 := Lib.hid ((Below.heap_alloc w1 (.cells #[.int .i64 x0, .int .i64 x1, .int .i64 x2, .int .i64 x3, .int .i64 x4] 23) _ (by omega)).trans ((hb1.block (w.heap.size + 1) (by rw [ms.out]; omega)).trans M3.out.2.1))
  have F2 := Lib.hid ((Below.heap_alloc w1 (.cells #[.int .i64 x0, .int .i64 x1, .int .i64 x2, .int .i64 x3, .int .i64 x4] 23) _ (by omega)).trans ((hb1.block (w.heap.size + 1 + 1) (by rw [ms.out]; omega)).trans M3.out.2.2))
  have FX := Lib.hid (heap_alloc_new w1 (.cells #[.int .i64 x0, .int .i64 x1, .int .i64 x2, .int .i64 x3, .int .i64 x4] 23))
  have BW := Lib.hid ((B3.out.trans (hb1.mono (by rw [ms.out]; omega))).alloc (by omega) (.cells #[.int .i64 x0, .int .i64 x1, .int .i64 x2, .int .i64 x3, .int .i64 x4] 23))
  clear hb1 M3 ms B3 P16 mP
  rw [HD.out]
  go_wp2_with ((with_reducible show wpList _ _ _ (Oper.mk _ (Op.load 35 _) _ _ _ _ :: _) _ _); refine wpList_load_all rfl 35 _ rfl (w.heap.size) _ _ rfl F0.out Tryd.underlying35 rfl (by rw [qz.out]; kernel_rfl) ?_)
  refine (KR.out _).mono ?_
  rintro e w2 ⟨rfl, hb2⟩
  have hz2 : w1.heap.size < w2.heap.size := by have := hb2.size; simp at this; omega
  have F0n := Lib.hid ((hb2.block (w.heap.size) (by simp; omega)).trans F0.out)
  have F1n := Lib.hid ((hb2.block (w.heap.size + 1) (by simp; omega)).trans F1.out)
  have F2n := Lib.hid ((hb2.block (w.heap.size + 1 + 1) (by simp; omega)).trans F2.out)
  have FXn := Lib.hid ((hb2.block w1.heap.size (by simp)).trans FX.out)
  have BWn := Lib.hid (BW.out.trans (hb2.mono (by simp; omega)))
  clear F0 F1 F2 FX BW
  have F0 := F0n
  have F1 := F1n
  have F2 := F2n
  have FX := FXn
  have BW := BWn
  clear F0n F1n F2n FXn BWn
  clear hb2 KR
  have e0 := cell_of_row _ _ 0 _ _ _ FX.out
  have e1 := cell_of_row _ _ 1 _ _ _ FX.out
  have e2 := cell_of_row _ _ 2 _ _ _ FX.out
  have e3 := cell_of_row _ _ 3 _ _ _ FX.out
  have e4 := cell_of_row _ _ 4 _ _ _ FX.out
  simp only [List.getElem?_toArray, List.getElem?_cons_zero, List.getElem?_cons_succ] at e0 e1 e2 e3 e4
  go_wp2_with ((with_reducible show wpList _ _ _ (Oper.mk _ (Op.load 35 _) _ _ _ _ :: _) _ _); refine wpList_load_all rfl 35 _ rfl (w.heap.size) _ _ rfl F0.out Tryd.underlying35 rfl (by rw [qz.out]; kernel_rfl) ?_)
  refine (KX.out _).mono ?_
  rintro e w3 ⟨rfl, hb3⟩
  have hz3 : w1.heap.size < w3.heap.size := Nat.lt_of_lt_of_le hz2 hb3.size
  clear e0 e1 e2 e3 e4
  have F0n := Lib.hid ((hb3.block (w.heap.size) (by omega)).trans F0.out)
  have F1n := Lib.hid ((hb3.block (w.heap.size + 1) (by omega)).trans F1.out)
  have F2n := Lib.hid ((hb3.block (w.heap.size + 1 + 1) (by omega)).trans F2.out)
  have FXn := Lib.hid ((hb3.block w1.heap.size (by omega)).trans FX.out)
  have BWn := Lib.hid (BW.out.trans (hb3.mono (by omega)))
  clear F0 F1 F2 FX BW
  have F0 := F0n
  have F1 := F1n
  have F2 := F2n
  have FX := FXn
  have BW := BWn
  clear F0n F1n F2n FXn BWn
  clear hb3 KX
  go_wp2_with (first | ((with_reducible show wpList _ _ _ (Oper.mk none (Op.store 40 _ _) _ _ _ _ :: _) _ _); refine wpList_store_all rfl rfl 40 _ _ rfl w3.heap.size _ ps rfl rfl (heap_alloc_new _ _) (by rw [ksz.out]; rfl) (by rw [ksz.out]; kernel_rfl) kone.out ?_; intro U3 hU; have FP := Lib.hid hU.at_; have F0n := Lib.hid ((hU.block _ (by omega)).trans ((Below.heap_alloc _ _ _ (by omega)).trans F0.out)); have F1n := Lib.hid ((hU.block _ (by omega)).trans ((Below.heap_alloc _ _ _ (by omega)).trans F1.out)); have F2n := Lib.hid ((hU.block _ (by omega)).trans ((Below.heap_alloc _ _ _ (by omega)).trans F2.out)); have BWn := Lib.hid ((BW.out.alloc (by omega) _).setC (by omega) hU); clear F0 F1 F2 BW; have F0 := F0n; have F1 := F1n; have F2 := F2n; have BW := BWn; clear F0n F1n F2n BWn; have hzU : w3.heap.size < U3.heap.size := (by rw [hU.size]; simp); clear hU; have m16 := (cell_of_row _ _ 16 _ _ _ FP.out).trans k16.out; have m17 := (cell_of_row _ _ 17 _ _ _ FP.out).trans k17.out.1; have m18 := (cell_of_row _ _ 18 _ _ _ FP.out).trans k17.out.2.1; have m19 := (cell_of_row _ _ 19 _ _ _ FP.out).trans k17.out.2.2) | ((with_reducible show wpList _ _ _ (Oper.mk _ (Op.load 35 _) _ _ _ _ :: _) _ _); refine wpList_load_all rfl 35 _ rfl (w.heap.size) _ _ rfl F0.out Tryd.underlying35 rfl (by rw [qz.out]; kernel_rfl) ?_) | ((with_reducible show wpList _ _ _ (Oper.mk none (Op.store 35 _ _) _ _ _ _ :: _) _ _); refine wpList_store_all rfl rfl 35 _ _ rfl (w.heap.size + 1) _ cs rfl rfl F1.out (by rw [qz.out]; rfl) (by rw [qz.out]; kernel_rfl) one.out ?_; intro U hU; have G2 := Lib.hid ((hU.block _ (Nat.succ_ne_self _)).trans F2.out); have BU := Lib.hid (BW.out.setC (Nat.le_add_right _ 1) hU); have G1 := Lib.hid hU.at_; clear hU) | ((with_reducible show wpList _ _ _ (Oper.mk none (Op.store 40 _ _) _ _ _ _ :: _) _ _); refine wpList_store_all rfl rfl 40 _ _ rfl (w.heap.size + 1 + 1) _ (effC eff0) rfl rfl G2.out rfl (by kernel_rfl) (effC_one _) ?_; intro T hT))
  (try simp only [Exit.inBlock, Exit.then])
  have hld1 := ret_all (P := Tryd.prog) 35 (w.heap.size + 1) _ _ ((hT.block _ (Nat.ne_of_lt (Nat.lt_succ_self _))).trans G1.out) Tryd.underlying35 rfl (by rw [qz.out]; kernel_rfl)
  have hld2 := ret_all (P := Tryd.prog) 40 (w.heap.size + 1 + 1) _ _ hT.at_ Tryd.underlying40 rfl (by kernel_rfl)
  refine bodyPost_ret (v := .tuple #[.agg cs, .agg (effC eff0), .int .i64 14]) (by simp [results, Tryd.results41, asAddr, hld1, hld2]) rfl ?_
  exact ⟨rfl, BU.out.setC (Nat.le_add_right _ 2) hT⟩
set_option linter.unusedVariables false in
set_option linter.unusedSimpArgs false in
set_option maxRecDepth 100000 in
set_option maxHeartbeats 8000000 in
theorem stp_shigh_n (m : List Int) (hm : All64 m) (M : Nat) (c : Cpu) (hc : c.Fits) (w : World) (hM : w.heap[M]? = some (.cells (numsC m) 3 (0, 0))) (hlen : m.length ≤ 16384) (p : Nat) (hp : c.pc = p) (hlt : p < m.length) (v : Int) (hv : m.getD p 0 = v) (x : Ins) (hx : decI v = x) (hd : decE v = 0) (hrb : readsB x = false) (hex : exE x = 0) (hst : (exV c x 0).stores = true) (h0 : 0 ≤ (exV c x 0).addr) (hlo : (m.length : Int) ≤ (exV c x 0).addr) : Calls Tryd.prog 41 #[.slice (some ⟨M, 0, none⟩) m.length m.length, .agg (cpuC c)] w (Fails w c) := by
  have hMlt : M < w.heap.size := (Array.getElem?_eq_some_iff.1 hM).1
  have hvf : I64 v := hv ▸ hm p
  have hxf : x.Fits := hx ▸ decI_fits hvf
  have qz := Lib.hid (cpuC_size hc.len)
  have qP := Lib.hid (cpuC_pc hc.len)
  have one := Lib.hid (cpuC_one c)
  have HC := Lib.hid hc
  have HM := Lib.hid hM
  have mP : ∀ o0 o1 o2 : Obj, (((w.alloc o0).alloc o1).alloc o2).cell? ⟨M, p, none⟩ = some (.int .i64 v) := fun o0 o1 o2 => ((Below.new3 w o0 o1 o2).cell (p := ⟨M, p, none⟩) hMlt).trans ((cell_of_row _ _ p _ _ _ hM).trans ((numsC_at m p hlt).trans (by rw [hv])))
  have hx' := Lib.hid hx
  rw [hp] at qP
  have HP := Lib.hid hp
  clear hc hM hv hx hp hm
  obtain ⟨cs, hcs⟩ : ∃ y, Hid (cpuC c = y) := ⟨_, rfl⟩
  obtain ⟨L, hL⟩ : ∃ y : Nat, Hid (m.length = y) := ⟨_, rfl⟩
  rw [hcs.out] at qz qP one
  rw [hL.out] at hlt hlen
  obtain ⟨pc, hpc⟩ : ∃ y : Int, Hid ((p : Int) = y) := ⟨_, rfl⟩
  obtain ⟨x0, x1, x2, x3, x4⟩ := x
  have HD := Lib.hid hd
  clear hd
  unfold Fails
  obtain ⟨ra, hra⟩ : ∃ y, Hid (readsA c ⟨x0, x1, x2, x3, x4⟩ = y) := ⟨_, rfl⟩
  have KR := Lib.hid (show ∀ W : World, Calls Tryd.prog 19 #[.agg cs, insV ⟨x0, x1, x2, x3, x4⟩] W (GivesB W ra false) from fun W => by
    have := refReads_any c HC.out ⟨x0, x1, x2, x3, x4⟩ hxf W
    rw [hcs.out, hra.out, hrb] at this
    exact this)
  obtain ⟨X, hX⟩ : ∃ y, Hid (exV c ⟨x0, x1, x2, x3, x4⟩ 0 = y) := ⟨_, rfl⟩
  have KX := Lib.hid (show ∀ W : World, Calls Tryd.prog 21 #[.agg cs, insV ⟨x0, x1, x2, x3, x4⟩, .int .i64 0] W (Gives2 W (.agg (effC X)) (.int .i64 0)) from fun W => by
    have := refExecute_any c HC.out ⟨x0, x1, x2, x3, x4⟩ hxf 0 W
    rw [hcs.out, hX.out, hex] at this
    exact this)
  have xl := Lib.hid (show X.cpu.r.length = 16 by rw [← hX.out]; exact exV_len c _ 0 HC.out.len)
  have k16 := Lib.hid (effC_at16 X xl.out)
  have k17 := Lib.hid (effC_at17 X xl.out)
  have ksz := Lib.hid (effC_size xl.out)
  have kone := Lib.hid (effC_one X)
  rw [hX.out] at hst
  rw [hst] at k17
  obtain ⟨ad, had⟩ : ∃ y, Hid (X.addr = y) := ⟨_, rfl⟩
  obtain ⟨wd, hwd⟩ : ∃ y, Hid (X.word = y) := ⟨_, rfl⟩
  rw [had.out, hwd.out] at k17
  obtain ⟨ps, hps⟩ : ∃ y, Hid (effC X = y) := ⟨_, rfl⟩
  rw [hps.out] at KX k16 k17 ksz kone
  rw [hX.out, had.out] at h0 hlo
  rw [hL.out] at hlo
  clear hrb hra hex hX hps hst had hwd
  rw [hcs.out, hL.out]
  have P16 : ∀ o1 o2 : Obj, (((w.alloc (.cells cs 35)).alloc o1).alloc o2).cell? ⟨w.heap.size, 16, none⟩ = some (.int .i64 (p : Int)) := fun o1 o2 => (cell_of_row _ _ 16 _ _ _ (new3 w _ o1 o2).1).trans qP.out
  clear hpc
  go_enter Tryd.func41, Tryd.ntmps41
  go_wp2_with fail
  refine (refDecode_any v hvf _).mono ?_
  rintro e w1 ⟨rfl, hb1⟩
  rw [hx'.out]
  change Below (((w.alloc (.cells cs 35)).alloc (.cells (cpuC cpu0) 35)).alloc (.cells (effC eff0) 40)).heap.size _ _ at hb1
  have M3 := Lib.hid (new3 w (.cells cs 35) (.cells (cpuC cpu0) 35) (.cells (effC eff0) 40))
  have ms := Lib.hid (new3_size w (.cells cs 35) (.cells (cpuC cpu0) 35) (.cells (effC eff0) 40))
  have B3 := Lib.hid (Below.new3 w (.cells cs 35) (.cells (cpuC cpu0) 35) (.cells (effC eff0) 40))
  have hz1 : w.heap.size + 1 + 1 < w1.heap.size := Nat.le_trans (Nat.le_of_eq ms.out.symm) hb1.size
  have F0 := Lib.hid ((Below.heap_alloc w1 (.cells #[.int .i64 x0, .int .i64 x1, .int .i64 x2, .int .i64 x3, .int .i64 x4] 23) _ (by omega)).trans ((hb1.block (w.heap.size) (by rw [ms.out]; omega)).trans M3.out.1))
  have F1 := Lib.hid ((Below.heap_alloc w1 (.cells #[.int .i64 x0, .int .i64 x1, .int .i64 x2, .int .i64 x3, .int .i64 x4] 23) _ (by omega)).trans ((hb1.block (w.heap.size + 1) (by rw [ms.out]; omega)).trans M3.out.2.1))
  have F2 := Lib.hid ((Below.heap_alloc w1 (.cells #[.int .i64 x0, .int .i64 x1, .int .i64 x2, .int .i64 x3, .int .i64 x4] 23) _ (by omega)).trans ((hb1.block (w.heap.size + 1 + 1) (by rw [ms.out]; omega)).trans M3.out.2.2))
  have FX := Lib.hid (heap_alloc_new w1 (.cells #[.int .i64 x0, .int .i64 x1, .int .i64 x2, .int .i64 x3, .int .i64 x4] 23))
  have BW := Lib.hid ((B3.out.trans (hb1.mono (by rw [ms.out]; omega))).alloc (by omega) (.cells #[.int .i64 x0, .int .i64 x1, .int .i64 x2, .int .i64 x3, .int .i64 x4] 23))
  clear hb1 M3 ms B3 P16 mP
  rw [HD.out]
  go_wp2_with ((with_reducible show wpList _ _ _ (Oper.mk _ (Op.load 35 _) _ _ _ _ :: _) _ _); refine wpList_load_all rfl 35 _ rfl (w.heap.size) _ _ rfl F0.out Tryd.underlying35 rfl (by rw [qz.out]; kernel_rfl) ?_)
  refine (KR.out _).mono ?_
  rintro e w2 ⟨rfl, hb2⟩
  have hz2 : w1.heap.size < w2.heap.size := by have := hb2.size; simp at this; omega
  have F0n := Lib.hid ((hb2.block (w.heap.size) (by simp; omega)).trans F0.out)
  have F1n := Lib.hid ((hb2.block (w.heap.size + 1) (by simp; omega)).trans F1.out)
  have F2n := Lib.hid ((hb2.block (w.heap.size + 1 + 1) (by simp; omega)).trans F2.out)
  have FXn := Lib.hid ((hb2.block w1.heap.size (by simp)).trans FX.out)
  have BWn := Lib.hid (BW.out.trans (hb2.mono (by simp; omega)))
  clear F0 F1 F2 FX BW
  have F0 := F0n
  have F1 := F1n
  have F2 := F2n
  have FX := FXn
  have BW := BWn
  clear F0n F1n F2n FXn BWn
  clear hb2 KR
  have e0 := cell_of_row _ _ 0 _ _ _ FX.out
  have e1 := cell_of_row _ _ 1 _ _ _ FX.out
  have e2 := cell_of_row _ _ 2 _ _ _ FX.out
  have e3 := cell_of_row _ _ 3 _ _ _ FX.out
  have e4 := cell_of_row _ _ 4 _ _ _ FX.out
  simp only [List.getElem?_toArray, List.getElem?_cons_zero, List.getElem?_cons_succ] at e0 e1 e2 e3 e4
  go_wp2_with ((with_reducible show wpList _ _ _ (Oper.mk _ (Op.load 35 _) _ _ _ _ :: _) _ _); refine wpList_load_all rfl 35 _ rfl (w.heap.size) _ _ rfl F0.out Tryd.underlying35 rfl (by rw [qz.out]; kernel_rfl) ?_)
  refine (KX.out _).mono ?_
  rintro e w3 ⟨rfl, hb3⟩
  have hz3 : w1.heap.size < w3.heap.size := Nat.lt_of_lt_of_le hz2 hb3.size
  clear e0 e1 e2 e3 e4
  have F0n := Lib.hid ((hb3.block (w.heap.size) (by omega)).trans F0.out)
  have F1n := Lib.hid ((hb3.block (w.heap.size + 1) (by omega)).trans F1.out)
  have F2n := Lib.hid ((hb3.block (w.heap.size + 1 + 1) (by omega)).trans F2.out)
  have FXn := Lib.hid ((hb3.block w1.heap.size (by omega)).trans FX.out)
  have BWn := Lib.hid (BW.out.trans (hb3.mono (by omega)))
  clear F0 F1 F2 FX BW
  have F0 := F0n
  have F1 := F1n
  have F2 := F2n
  have FX := FXn
  have BW := BWn
  clear F0n F1n F2n FXn BWn
  clear hb3 KX
  go_wp2_with (first | ((with_reducible show wpList _ _ _ (Oper.mk none (Op.store 40 _ _) _ _ _ _ :: _) _ _); refine wpList_store_all rfl rfl 40 _ _ rfl w3.heap.size _ ps rfl rfl (heap_alloc_new _ _) (by rw [ksz.out]; rfl) (by rw [ksz.out]; kernel_rfl) kone.out ?_; intro U3 hU; have FP := Lib.hid hU.at_; have F0n := Lib.hid ((hU.block _ (by omega)).trans ((Below.heap_alloc _ _ _ (by omega)).trans F0.out)); have F1n := Lib.hid ((hU.block _ (by omega)).trans ((Below.heap_alloc _ _ _ (by omega)).trans F1.out)); have F2n := Lib.hid ((hU.block _ (by omega)).trans ((Below.heap_alloc _ _ _ (by omega)).trans F2.out)); have BWn := Lib.hid ((BW.out.alloc (by omega) _).setC (by omega) hU); clear F0 F1 F2 BW; have F0 := F0n; have F1 := F1n; have F2 := F2n; have BW := BWn; clear F0n F1n F2n BWn; have hzU : w3.heap.size < U3.heap.size := (by rw [hU.size]; simp); clear hU; have m16 := (cell_of_row _ _ 16 _ _ _ FP.out).trans k16.out; have m17 := (cell_of_row _ _ 17 _ _ _ FP.out).trans k17.out.1; have m18 := (cell_of_row _ _ 18 _ _ _ FP.out).trans k17.out.2.1; have m19 := (cell_of_row _ _ 19 _ _ _ FP.out).trans k17.out.2.2) | ((with_reducible show wpList _ _ _ (Oper.mk _ (Op.load 35 _) _ _ _ _ :: _) _ _); refine wpList_load_all rfl 35 _ rfl (w.heap.size) _ _ rfl F0.out Tryd.underlying35 rfl (by rw [qz.out]; kernel_rfl) ?_) | ((with_reducible show wpList _ _ _ (Oper.mk none (Op.store 35 _ _) _ _ _ _ :: _) _ _); refine wpList_store_all rfl rfl 35 _ _ rfl (w.heap.size + 1) _ cs rfl rfl F1.out (by rw [qz.out]; rfl) (by rw [qz.out]; kernel_rfl) one.out ?_; intro U hU; have G2 := Lib.hid ((hU.block _ (Nat.succ_ne_self _)).trans F2.out); have BU := Lib.hid (BW.out.setC (Nat.le_add_right _ 1) hU); have G1 := Lib.hid hU.at_; clear hU) | ((with_reducible show wpList _ _ _ (Oper.mk none (Op.store 40 _ _) _ _ _ _ :: _) _ _); refine wpList_store_all rfl rfl 40 _ _ rfl (w.heap.size + 1 + 1) _ (effC eff0) rfl rfl G2.out rfl (by kernel_rfl) (effC_one _) ?_; intro T hT))
  (try simp only [Exit.inBlock, Exit.then])
  have hld1 := ret_all (P := Tryd.prog) 35 (w.heap.size + 1) _ _ ((hT.block _ (Nat.ne_of_lt (Nat.lt_succ_self _))).trans G1.out) Tryd.underlying35 rfl (by rw [qz.out]; kernel_rfl)
  have hld2 := ret_all (P := Tryd.prog) 40 (w.heap.size + 1 + 1) _ _ hT.at_ Tryd.underlying40 rfl (by kernel_rfl)
  refine bodyPost_ret (v := .tuple #[.agg cs, .agg (effC eff0), .int .i64 14]) (by simp [results, Tryd.results41, asAddr, hld1, hld2]) rfl ?_
  exact ⟨rfl, BU.out.setC (Nat.le_add_right _ 2) hT⟩
set_option linter.unusedVariables false in
set_option linter.unusedSimpArgs false in
set_option maxRecDepth 100000 in
set_option maxHeartbeats 8000000 in
theorem stp_slow_r (m : List Int) (hm : All64 m) (M : Nat) (c : Cpu) (hc : c.Fits) (w : World) (hM : w.heap[M]? = some (.cells (numsC m) 3 (0, 0))) (hlen : m.length ≤ 16384) (p : Nat) (hp : c.pc = p) (hlt : p < m.length) (v : Int) (hv : m.getD p 0 = v) (x : Ins) (hx : decI v = x) (hd : decE v = 0) (hrb : readsB x = true) (q : Nat) (hq : readsA c x = q) (hqm : q < m.length) (ld : Int) (hq2 : m.getD q 0 = ld) (hex : exE x = 0) (hst : (exV c x ld).stores = true) (hlo : (exV c x ld).addr < 0) : Calls Tryd.prog 41 #[.slice (some ⟨M, 0, none⟩) m.length m.length, .agg (cpuC c)] w (Fails w c) := by
  have hMlt : M < w.heap.size := (Array.getElem?_eq_some_iff.1 hM).1
  have hvf : I64 v := hv ▸ hm p
  have hxf : x.Fits := hx ▸ decI_fits hvf
  have qz := Lib.hid (cpuC_size hc.len)
  have qP := Lib.hid (cpuC_pc hc.len)
  have one := Lib.hid (cpuC_one c)
  have HC := Lib.hid hc
  have HM := Lib.hid hM
  have mP : ∀ o0 o1 o2 : Obj, (((w.alloc o0).alloc o1).alloc o2).cell? ⟨M, p, none⟩ = some (.int .i64 v) := fun o0 o1 o2 => ((Below.new3 w o0 o1 o2).cell (p := ⟨M, p, none⟩) hMlt).trans ((cell_of_row _ _ p _ _ _ hM).trans ((numsC_at m p hlt).trans (by rw [hv])))
  have hx' := Lib.hid hx
  rw [hp] at qP
  have HP := Lib.hid hp
  clear hc hM hv hx hp hm
  obtain ⟨cs, hcs⟩ : ∃ y, Hid (cpuC c = y) := ⟨_, rfl⟩
  obtain ⟨L, hL⟩ : ∃ y : Nat, Hid (m.length = y) := ⟨_, rfl⟩
  rw [hcs.out] at qz qP one
  rw [hL.out] at hlt hlen
  obtain ⟨pc, hpc⟩ : ∃ y : Int, Hid ((p : Int) = y) := ⟨_, rfl⟩
  obtain ⟨x0, x1, x2, x3, x4⟩ := x
  have HD := Lib.hid hd
  clear hd
  have HQ2 := Lib.hid hq2
  clear hq2
  have hqL : q < L := by rw [← hL.out]; exact hqm
  unfold Fails
  obtain ⟨ra, hra⟩ : ∃ y, Hid (readsA c ⟨x0, x1, x2, x3, x4⟩ = y) := ⟨_, rfl⟩
  have KR := Lib.hid (show ∀ W : World, Calls Tryd.prog 19 #[.agg cs, insV ⟨x0, x1, x2, x3, x4⟩] W (GivesB W ra true) from fun W => by
    have := refReads_any c HC.out ⟨x0, x1, x2, x3, x4⟩ hxf W
    rw [hcs.out, hra.out, hrb] at this
    exact this)
  rw [hra.out] at hq
  subst hq
  obtain ⟨X, hX⟩ : ∃ y, Hid (exV c ⟨x0, x1, x2, x3, x4⟩ ld = y) := ⟨_, rfl⟩
  have KX := Lib.hid (show ∀ W : World, Calls Tryd.prog 21 #[.agg cs, insV ⟨x0, x1, x2, x3, x4⟩, .int .i64 ld] W (Gives2 W (.agg (effC X)) (.int .i64 0)) from fun W => by
    have := refExecute_any c HC.out ⟨x0, x1, x2, x3, x4⟩ hxf ld W
    rw [hcs.out, hX.out, hex] at this
    exact this)
  have xl := Lib.hid (show X.cpu.r.length = 16 by rw [← hX.out]; exact exV_len c _ ld HC.out.len)
  have k16 := Lib.hid (effC_at16 X xl.out)
  have k17 := Lib.hid (effC_at17 X xl.out)
  have ksz := Lib.hid (effC_size xl.out)
  have kone := Lib.hid (effC_one X)
  rw [hX.out] at hst
  rw [hst] at k17
  obtain ⟨ad, had⟩ : ∃ y, Hid (X.addr = y) := ⟨_, rfl⟩
  obtain ⟨wd, hwd⟩ : ∃ y, Hid (X.word = y) := ⟨_, rfl⟩
  rw [had.out, hwd.out] at k17
  obtain ⟨ps, hps⟩ : ∃ y, Hid (effC X = y) := ⟨_, rfl⟩
  rw [hps.out] at KX k16 k17 ksz kone
  rw [hX.out, had.out] at hlo
  clear hrb hra hex hX hps hst had hwd
  rw [hcs.out, hL.out]
  have P16 : ∀ o1 o2 : Obj, (((w.alloc (.cells cs 35)).alloc o1).alloc o2).cell? ⟨w.heap.size, 16, none⟩ = some (.int .i64 (p : Int)) := fun o1 o2 => (cell_of_row _ _ 16 _ _ _ (new3 w _ o1 o2).1).trans qP.out
  clear hpc
  go_enter Tryd.func41, Tryd.ntmps41
  go_wp2_with fail
  refine (refDecode_any v hvf _).mono ?_
  rintro e w1 ⟨rfl, hb1⟩
  rw [hx'.out]
  change Below (((w.alloc (.cells cs 35)).alloc (.cells (cpuC cpu0) 35)).alloc (.cells (effC eff0) 40)).heap.size _ _ at hb1
  have M3 := Lib.hid (new3 w (.cells cs 35) (.cells (cpuC cpu0) 35) (.cells (effC eff0) 40))
  have ms := Lib.hid (new3_size w (.cells cs 35) (.cells (cpuC cpu0) 35) (.cells (effC eff0) 40))
  have B3 := Lib.hid (Below.new3 w (.cells cs 35) (.cells (cpuC cpu0) 35) (.cells (effC eff0) 40))
  have hz1 : w.heap.size + 1 + 1 < w1.heap.size := Nat.le_trans (Nat.le_of_eq ms.out.symm) hb1.size
  have F0 := Lib.hid ((Below.heap_alloc w1 (.cells #[.int .i64 x0, .int .i64 x1, .int .i64 x2, .int .i64 x3, .int .i64 x4] 23) _ (by omega)).trans ((hb1.block (w.heap.size) (by rw [ms.out]; omega)).trans M3.out.1))
  have F1 := Lib.hid ((Below.heap_alloc w1 (.cells #[.int .i64 x0, .int .i64 x1, .int .i64 x2, .int .i64 x3, .int .i64 x4] 23) _ (by omega)).trans ((hb1.block (w.heap.size + 1) (by rw [ms.out]; omega)).trans M3.out.2.1))
  have F2 := Lib.hid ((Below.heap_alloc w1 (.cells #[.int .i64 x0, .int .i64 x1, .int .i64 x2, .int .i64 x3, .int .i64 x4] 23) _ (by omega)).trans ((hb1.block (w.heap.size + 1 + 1) (by rw [ms.out]; omega)).trans M3.out.2.2))
  have FX := Lib.hid (heap_alloc_new w1 (.cells #[.int .i64 x0, .int .i64 x1, .int .i64 x2, .int .i64 x3, .int .i64 x4] 23))
  have BW := Lib.hid ((B3.out.trans (hb1.mono (by rw [ms.out]; omega))).alloc (by omega) (.cells #[.int .i64 x0, .int .i64 x1, .int .i64 x2, .int .i64 x3, .int .i64 x4] 23))
  clear hb1 M3 ms B3 P16 mP
  rw [HD.out]
  go_wp2_with ((with_reducible show wpList _ _ _ (Oper.mk _ (Op.load 35 _) _ _ _ _ :: _) _ _); refine wpList_load_all rfl 35 _ rfl (w.heap.size) _ _ rfl F0.out Tryd.underlying35 rfl (by rw [qz.out]; kernel_rfl) ?_)
  refine (KR.out _).mono ?_
  rintro e w2 ⟨rfl, hb2⟩
  have hz2 : w1.heap.size < w2.heap.size := by have := hb2.size; simp at this; omega
  have F0n := Lib.hid ((hb2.block (w.heap.size) (by simp; omega)).trans F0.out)
  have F1n := Lib.hid ((hb2.block (w.heap.size + 1) (by simp; omega)).trans F1.out)
  have F2n := Lib.hid ((hb2.block (w.heap.size + 1 + 1) (by simp; omega)).trans F2.out)
  have FXn := Lib.hid ((hb2.block w1.heap.size (by simp)).trans FX.out)
  have BWn := Lib.hid (BW.out.trans (hb2.mono (by simp; omega)))
  clear F0 F1 F2 FX BW
  have F0 := F0n
  have F1 := F1n
  have F2 := F2n
  have FX := FXn
  have BW := BWn
  clear F0n F1n F2n FXn BWn
  clear hb2 KR
  have e0 := cell_of_row _ _ 0 _ _ _ FX.out
  have e1 := cell_of_row _ _ 1 _ _ _ FX.out
  have e2 := cell_of_row _ _ 2 _ _ _ FX.out
  have e3 := cell_of_row _ _ 3 _ _ _ FX.out
  have e4 := cell_of_row _ _ 4 _ _ _ FX.out
  simp only [List.getElem?_toArray, List.getElem?_cons_zero, List.getElem?_cons_succ] at e0 e1 e2 e3 e4
  have eM := (BW.out.cell (p := ⟨M, q, none⟩) hMlt).trans ((cell_of_row _ _ q _ _ _ HM.out).trans ((numsC_at m q hqm).trans (by rw [HQ2.out])))
  clear hqm
  go_wp2_with ((with_reducible show wpList _ _ _ (Oper.mk _ (Op.load 35 _) _ _ _ _ :: _) _ _); refine wpList_load_all rfl 35 _ rfl (w.heap.size) _ _ rfl F0.out Tryd.underlying35 rfl (by rw [qz.out]; kernel_rfl) ?_)
  refine (KX.out _).mono ?_
  rintro e w3 ⟨rfl, hb3⟩
  have hz3 : w1.heap.size < w3.heap.size := Nat.lt_of_lt_of_le hz2 hb3.size
  clear e0 e1 e2 e3 e4 eM
  have F0n := Lib.hid ((hb3.block (w.heap.size) (by omega)).trans F0.out)
  have F1n := Lib.hid ((hb3.block (w.heap.size + 1) (by omega)).trans F1.out)
  have F2n := Lib.hid ((hb3.block (w.heap.size + 1 + 1) (by omega)).trans F2.out)
  have FXn := Lib.hid ((hb3.block w1.heap.size (by omega)).trans FX.out)
  have BWn := Lib.hid (BW.out.trans (hb3.mono (by omega)))
  clear F0 F1 F2 FX BW
  have F0 := F0n
  have F1 := F1n
  have F2 := F2n
  have FX := FXn
  have BW := BWn
  clear F0n F1n F2n FXn BWn
  clear hb3 KX
  go_wp2_with (first | ((with_reducible show wpList _ _ _ (Oper.mk none (Op.store 40 _ _) _ _ _ _ :: _) _ _); refine wpList_store_all rfl rfl 40 _ _ rfl w3.heap.size _ ps rfl rfl (heap_alloc_new _ _) (by rw [ksz.out]; rfl) (by rw [ksz.out]; kernel_rfl) kone.out ?_; intro U3 hU; have FP := Lib.hid hU.at_; have F0n := Lib.hid ((hU.block _ (by omega)).trans ((Below.heap_alloc _ _ _ (by omega)).trans F0.out)); have F1n := Lib.hid ((hU.block _ (by omega)).trans ((Below.heap_alloc _ _ _ (by omega)).trans F1.out)); have F2n := Lib.hid ((hU.block _ (by omega)).trans ((Below.heap_alloc _ _ _ (by omega)).trans F2.out)); have BWn := Lib.hid ((BW.out.alloc (by omega) _).setC (by omega) hU); clear F0 F1 F2 BW; have F0 := F0n; have F1 := F1n; have F2 := F2n; have BW := BWn; clear F0n F1n F2n BWn; have hzU : w3.heap.size < U3.heap.size := (by rw [hU.size]; simp); clear hU; have m16 := (cell_of_row _ _ 16 _ _ _ FP.out).trans k16.out; have m17 := (cell_of_row _ _ 17 _ _ _ FP.out).trans k17.out.1; have m18 := (cell_of_row _ _ 18 _ _ _ FP.out).trans k17.out.2.1; have m19 := (cell_of_row _ _ 19 _ _ _ FP.out).trans k17.out.2.2) | ((with_reducible show wpList _ _ _ (Oper.mk _ (Op.load 35 _) _ _ _ _ :: _) _ _); refine wpList_load_all rfl 35 _ rfl (w.heap.size) _ _ rfl F0.out Tryd.underlying35 rfl (by rw [qz.out]; kernel_rfl) ?_) | ((with_reducible show wpList _ _ _ (Oper.mk none (Op.store 35 _ _) _ _ _ _ :: _) _ _); refine wpList_store_all rfl rfl 35 _ _ rfl (w.heap.size + 1) _ cs rfl rfl F1.out (by rw [qz.out]; rfl) (by rw [qz.out]; kernel_rfl) one.out ?_; intro U hU; have G2 := Lib.hid ((hU.block _ (Nat.succ_ne_self _)).trans F2.out); have BU := Lib.hid (BW.out.setC (Nat.le_add_right _ 1) hU); have G1 := Lib.hid hU.at_; clear hU) | ((with_reducible show wpList _ _ _ (Oper.mk none (Op.store 40 _ _) _ _ _ _ :: _) _ _); refine wpList_store_all rfl rfl 40 _ _ rfl (w.heap.size + 1 + 1) _ (effC eff0) rfl rfl G2.out rfl (by kernel_rfl) (effC_one _) ?_; intro T hT))
  (try simp only [Exit.inBlock, Exit.then])
  have hld1 := ret_all (P := Tryd.prog) 35 (w.heap.size + 1) _ _ ((hT.block _ (Nat.ne_of_lt (Nat.lt_succ_self _))).trans G1.out) Tryd.underlying35 rfl (by rw [qz.out]; kernel_rfl)
  have hld2 := ret_all (P := Tryd.prog) 40 (w.heap.size + 1 + 1) _ _ hT.at_ Tryd.underlying40 rfl (by kernel_rfl)
  refine bodyPost_ret (v := .tuple #[.agg cs, .agg (effC eff0), .int .i64 14]) (by simp [results, Tryd.results41, asAddr, hld1, hld2]) rfl ?_
  exact ⟨rfl, BU.out.setC (Nat.le_add_right _ 2) hT⟩
set_option linter.unusedVariables false in
set_option linter.unusedSimpArgs false in
set_option maxRecDepth 100000 in
set_option maxHeartbeats 8000000 in
theorem stp_shigh_r (m : List Int) (hm : All64 m) (M : Nat) (c : Cpu) (hc : c.Fits) (w : World) (hM : w.heap[M]? = some (.cells (numsC m) 3 (0, 0))) (hlen : m.length ≤ 16384) (p : Nat) (hp : c.pc = p) (hlt : p < m.length) (v : Int) (hv : m.getD p 0 = v) (x : Ins) (hx : decI v = x) (hd : decE v = 0) (hrb : readsB x = true) (q : Nat) (hq : readsA c x = q) (hqm : q < m.length) (ld : Int) (hq2 : m.getD q 0 = ld) (hex : exE x = 0) (hst : (exV c x ld).stores = true) (h0 : 0 ≤ (exV c x ld).addr) (hlo : (m.length : Int) ≤ (exV c x ld).addr) : Calls Tryd.prog 41 #[.slice (some ⟨M, 0, none⟩) m.length m.length, .agg (cpuC c)] w (Fails w c) := by
  have hMlt : M < w.heap.size := (Array.getElem?_eq_some_iff.1 hM).1
  have hvf : I64 v := hv ▸ hm p
  have hxf : x.Fits := hx ▸ decI_fits hvf
  have qz := Lib.hid (cpuC_size hc.len)
  have qP := Lib.hid (cpuC_pc hc.len)
  have one := Lib.hid (cpuC_one c)
  have HC := Lib.hid hc
  have HM := Lib.hid hM
  have mP : ∀ o0 o1 o2 : Obj, (((w.alloc o0).alloc o1).alloc o2).cell? ⟨M, p, none⟩ = some (.int .i64 v) := fun o0 o1 o2 => ((Below.new3 w o0 o1 o2).cell (p := ⟨M, p, none⟩) hMlt).trans ((cell_of_row _ _ p _ _ _ hM).trans ((numsC_at m p hlt).trans (by rw [hv])))
  have hx' := Lib.hid hx
  rw [hp] at qP
  have HP := Lib.hid hp
  clear hc hM hv hx hp hm
  obtain ⟨cs, hcs⟩ : ∃ y, Hid (cpuC c = y) := ⟨_, rfl⟩
  obtain ⟨L, hL⟩ : ∃ y : Nat, Hid (m.length = y) := ⟨_, rfl⟩
  rw [hcs.out] at qz qP one
  rw [hL.out] at hlt hlen
  obtain ⟨pc, hpc⟩ : ∃ y : Int, Hid ((p : Int) = y) := ⟨_, rfl⟩
  obtain ⟨x0, x1, x2, x3, x4⟩ := x
  have HD := Lib.hid hd
  clear hd
  have HQ2 := Lib.hid hq2
  clear hq2
  have hqL : q < L := by rw [← hL.out]; exact hqm
  unfold Fails
  obtain ⟨ra, hra⟩ : ∃ y, Hid (readsA c ⟨x0, x1, x2, x3, x4⟩ = y) := ⟨_, rfl⟩
  have KR := Lib.hid (show ∀ W : World, Calls Tryd.prog 19 #[.agg cs, insV ⟨x0, x1, x2, x3, x4⟩] W (GivesB W ra true) from fun W => by
    have := refReads_any c HC.out ⟨x0, x1, x2, x3, x4⟩ hxf W
    rw [hcs.out, hra.out, hrb] at this
    exact this)
  rw [hra.out] at hq
  subst hq
  obtain ⟨X, hX⟩ : ∃ y, Hid (exV c ⟨x0, x1, x2, x3, x4⟩ ld = y) := ⟨_, rfl⟩
  have KX := Lib.hid (show ∀ W : World, Calls Tryd.prog 21 #[.agg cs, insV ⟨x0, x1, x2, x3, x4⟩, .int .i64 ld] W (Gives2 W (.agg (effC X)) (.int .i64 0)) from fun W => by
    have := refExecute_any c HC.out ⟨x0, x1, x2, x3, x4⟩ hxf ld W
    rw [hcs.out, hX.out, hex] at this
    exact this)
  have xl := Lib.hid (show X.cpu.r.length = 16 by rw [← hX.out]; exact exV_len c _ ld HC.out.len)
  have k16 := Lib.hid (effC_at16 X xl.out)
  have k17 := Lib.hid (effC_at17 X xl.out)
  have ksz := Lib.hid (effC_size xl.out)
  have kone := Lib.hid (effC_one X)
  rw [hX.out] at hst
  rw [hst] at k17
  obtain ⟨ad, had⟩ : ∃ y, Hid (X.addr = y) := ⟨_, rfl⟩
  obtain ⟨wd, hwd⟩ : ∃ y, Hid (X.word = y) := ⟨_, rfl⟩
  rw [had.out, hwd.out] at k17
  obtain ⟨ps, hps⟩ : ∃ y, Hid (effC X = y) := ⟨_, rfl⟩
  rw [hps.out] at KX k16 k17 ksz kone
  rw [hX.out, had.out] at h0 hlo
  rw [hL.out] at hlo
  clear hrb hra hex hX hps hst had hwd
  rw [hcs.out, hL.out]
  have P16 : ∀ o1 o2 : Obj, (((w.alloc (.cells cs 35)).alloc o1).alloc o2).cell? ⟨w.heap.size, 16, none⟩ = some (.int .i64 (p : Int)) := fun o1 o2 => (cell_of_row _ _ 16 _ _ _ (new3 w _ o1 o2).1).trans qP.out
  clear hpc
  go_enter Tryd.func41, Tryd.ntmps41
  go_wp2_with fail
  refine (refDecode_any v hvf _).mono ?_
  rintro e w1 ⟨rfl, hb1⟩
  rw [hx'.out]
  change Below (((w.alloc (.cells cs 35)).alloc (.cells (cpuC cpu0) 35)).alloc (.cells (effC eff0) 40)).heap.size _ _ at hb1
  have M3 := Lib.hid (new3 w (.cells cs 35) (.cells (cpuC cpu0) 35) (.cells (effC eff0) 40))
  have ms := Lib.hid (new3_size w (.cells cs 35) (.cells (cpuC cpu0) 35) (.cells (effC eff0) 40))
  have B3 := Lib.hid (Below.new3 w (.cells cs 35) (.cells (cpuC cpu0) 35) (.cells (effC eff0) 40))
  have hz1 : w.heap.size + 1 + 1 < w1.heap.size := Nat.le_trans (Nat.le_of_eq ms.out.symm) hb1.size
  have F0 := Lib.hid ((Below.heap_alloc w1 (.cells #[.int .i64 x0, .int .i64 x1, .int .i64 x2, .int .i64 x3, .int .i64 x4] 23) _ (by omega)).trans ((hb1.block (w.heap.size) (by rw [ms.out]; omega)).trans M3.out.1))
  have F1 := Lib.hid ((Below.heap_alloc w1 (.cells #[.int .i64 x0, .int .i64 x1, .int .i64 x2, .int .i64 x3, .int .i64 x4] 23) _ (by omega)).trans ((hb1.block (w.heap.size + 1) (by rw [ms.out]; omega)).trans M3.out.2.1))
  have F2 := Lib.hid ((Below.heap_alloc w1 (.cells #[.int .i64 x0, .int .i64 x1, .int .i64 x2, .int .i64 x3, .int .i64 x4] 23) _ (by omega)).trans ((hb1.block (w.heap.size + 1 + 1) (by rw [ms.out]; omega)).trans M3.out.2.2))
  have FX := Lib.hid (heap_alloc_new w1 (.cells #[.int .i64 x0, .int .i64 x1, .int .i64 x2, .int .i64 x3, .int .i64 x4] 23))
  have BW := Lib.hid ((B3.out.trans (hb1.mono (by rw [ms.out]; omega))).alloc (by omega) (.cells #[.int .i64 x0, .int .i64 x1, .int .i64 x2, .int .i64 x3, .int .i64 x4] 23))
  clear hb1 M3 ms B3 P16 mP
  rw [HD.out]
  go_wp2_with ((with_reducible show wpList _ _ _ (Oper.mk _ (Op.load 35 _) _ _ _ _ :: _) _ _); refine wpList_load_all rfl 35 _ rfl (w.heap.size) _ _ rfl F0.out Tryd.underlying35 rfl (by rw [qz.out]; kernel_rfl) ?_)
  refine (KR.out _).mono ?_
  rintro e w2 ⟨rfl, hb2⟩
  have hz2 : w1.heap.size < w2.heap.size := by have := hb2.size; simp at this; omega
  have F0n := Lib.hid ((hb2.block (w.heap.size) (by simp; omega)).trans F0.out)
  have F1n := Lib.hid ((hb2.block (w.heap.size + 1) (by simp; omega)).trans F1.out)
  have F2n := Lib.hid ((hb2.block (w.heap.size + 1 + 1) (by simp; omega)).trans F2.out)
  have FXn := Lib.hid ((hb2.block w1.heap.size (by simp)).trans FX.out)
  have BWn := Lib.hid (BW.out.trans (hb2.mono (by simp; omega)))
  clear F0 F1 F2 FX BW
  have F0 := F0n
  have F1 := F1n
  have F2 := F2n
  have FX := FXn
  have BW := BWn
  clear F0n F1n F2n FXn BWn
  clear hb2 KR
  have e0 := cell_of_row _ _ 0 _ _ _ FX.out
  have e1 := cell_of_row _ _ 1 _ _ _ FX.out
  have e2 := cell_of_row _ _ 2 _ _ _ FX.out
  have e3 := cell_of_row _ _ 3 _ _ _ FX.out
  have e4 := cell_of_row _ _ 4 _ _ _ FX.out
  simp only [List.getElem?_toArray, List.getElem?_cons_zero, List.getElem?_cons_succ] at e0 e1 e2 e3 e4
  have eM := (BW.out.cell (p := ⟨M, q, none⟩) hMlt).trans ((cell_of_row _ _ q _ _ _ HM.out).trans ((numsC_at m q hqm).trans (by rw [HQ2.out])))
  clear hqm
  go_wp2_with ((with_reducible show wpList _ _ _ (Oper.mk _ (Op.load 35 _) _ _ _ _ :: _) _ _); refine wpList_load_all rfl 35 _ rfl (w.heap.size) _ _ rfl F0.out Tryd.underlying35 rfl (by rw [qz.out]; kernel_rfl) ?_)
  refine (KX.out _).mono ?_
  rintro e w3 ⟨rfl, hb3⟩
  have hz3 : w1.heap.size < w3.heap.size := Nat.lt_of_lt_of_le hz2 hb3.size
  clear e0 e1 e2 e3 e4 eM
  have F0n := Lib.hid ((hb3.block (w.heap.size) (by omega)).trans F0.out)
  have F1n := Lib.hid ((hb3.block (w.heap.size + 1) (by omega)).trans F1.out)
  have F2n := Lib.hid ((hb3.block (w.heap.size + 1 + 1) (by omega)).trans F2.out)
  have FXn := Lib.hid ((hb3.block w1.heap.size (by omega)).trans FX.out)
  have BWn := Lib.hid (BW.out.trans (hb3.mono (by omega)))
  clear F0 F1 F2 FX BW
  have F0 := F0n
  have F1 := F1n
  have F2 := F2n
  have FX := FXn
  have BW := BWn
  clear F0n F1n F2n FXn BWn
  clear hb3 KX
  go_wp2_with (first | ((with_reducible show wpList _ _ _ (Oper.mk none (Op.store 40 _ _) _ _ _ _ :: _) _ _); refine wpList_store_all rfl rfl 40 _ _ rfl w3.heap.size _ ps rfl rfl (heap_alloc_new _ _) (by rw [ksz.out]; rfl) (by rw [ksz.out]; kernel_rfl) kone.out ?_; intro U3 hU; have FP := Lib.hid hU.at_; have F0n := Lib.hid ((hU.block _ (by omega)).trans ((Below.heap_alloc _ _ _ (by omega)).trans F0.out)); have F1n := Lib.hid ((hU.block _ (by omega)).trans ((Below.heap_alloc _ _ _ (by omega)).trans F1.out)); have F2n := Lib.hid ((hU.block _ (by omega)).trans ((Below.heap_alloc _ _ _ (by omega)).trans F2.out)); have BWn := Lib.hid ((BW.out.alloc (by omega) _).setC (by omega) hU); clear F0 F1 F2 BW; have F0 := F0n; have F1 := F1n; have F2 := F2n; have BW := BWn; clear F0n F1n F2n BWn; have hzU : w3.heap.size < U3.heap.size := (by rw [hU.size]; simp); clear hU; have m16 := (cell_of_row _ _ 16 _ _ _ FP.out).trans k16.out; have m17 := (cell_of_row _ _ 17 _ _ _ FP.out).trans k17.out.1; have m18 := (cell_of_row _ _ 18 _ _ _ FP.out).trans k17.out.2.1; have m19 := (cell_of_row _ _ 19 _ _ _ FP.out).trans k17.out.2.2) | ((with_reducible show wpList _ _ _ (Oper.mk _ (Op.load 35 _) _ _ _ _ :: _) _ _); refine wpList_load_all rfl 35 _ rfl (w.heap.size) _ _ rfl F0.out Tryd.underlying35 rfl (by rw [qz.out]; kernel_rfl) ?_) | ((with_reducible show wpList _ _ _ (Oper.mk none (Op.store 35 _ _) _ _ _ _ :: _) _ _); refine wpList_store_all rfl rfl 35 _ _ rfl (w.heap.size + 1) _ cs rfl rfl F1.out (by rw [qz.out]; rfl) (by rw [qz.out]; kernel_rfl) one.out ?_; intro U hU; have G2 := Lib.hid ((hU.block _ (Nat.succ_ne_self _)).trans F2.out); have BU := Lib.hid (BW.out.setC (Nat.le_add_right _ 1) hU); have G1 := Lib.hid hU.at_; clear hU) | ((with_reducible show wpList _ _ _ (Oper.mk none (Op.store 40 _ _) _ _ _ _ :: _) _ _); refine wpList_store_all rfl rfl 40 _ _ rfl (w.heap.size + 1 + 1) _ (effC eff0) rfl rfl G2.out rfl (by kernel_rfl) (effC_one _) ?_; intro T hT))
  (try simp only [Exit.inBlock, Exit.then])
  have hld1 := ret_all (P := Tryd.prog) 35 (w.heap.size + 1) _ _ ((hT.block _ (Nat.ne_of_lt (Nat.lt_succ_self _))).trans G1.out) Tryd.underlying35 rfl (by rw [qz.out]; kernel_rfl)
  have hld2 := ret_all (P := Tryd.prog) 40 (w.heap.size + 1 + 1) _ _ hT.at_ Tryd.underlying40 rfl (by kernel_rfl)
  refine bodyPost_ret (v := .tuple #[.agg cs, .agg (effC eff0), .int .i64 14]) (by simp [results, Tryd.results41, asAddr, hld1, hld2]) rfl ?_
  exact ⟨rfl, BU.out.setC (Nat.le_add_right _ 2) hT⟩
set_option linter.unusedVariables false in
set_option linter.unusedSimpArgs false in
set_option maxRecDepth 100000 in
set_option maxHeartbeats 8000000 in
theorem stp_ok_n (m : List Int) (hm : All64 m) (M : Nat) (c : Cpu) (hc : c.Fits) (w : World) (hM : w.heap[M]? = some (.cells (numsC m) 3 (0, 0))) (hlen : m.length ≤ 16384) (p : Nat) (hp : c.pc = p) (hlt : p < m.length) (v : Int) (hv : m.getD p 0 = v) (x : Ins) (hx : decI v = x) (hd : decE v = 0) (hrb : readsB x = false) (hex : exE x = 0) (hst : (exV c x 0).stores = false) : Calls Tryd.prog 41 #[.slice (some ⟨M, 0, none⟩) m.length m.length, .agg (cpuC c)] w (Steps w M m (exV c x 0)) := by
  have hMlt : M < w.heap.size := (Array.getElem?_eq_some_iff.1 hM).1
  have hvf : I64 v := hv ▸ hm p
  have hxf : x.Fits := hx ▸ decI_fits hvf
  have qz := Lib.hid (cpuC_size hc.len)
  have qP := Lib.hid (cpuC_pc hc.len)
  have one := Lib.hid (cpuC_one c)
  have HC := Lib.hid hc
  have HM := Lib.hid hM
  have mP : ∀ o0 o1 o2 : Obj, (((w.alloc o0).alloc o1).alloc o2).cell? ⟨M, p, none⟩ = some (.int .i64 v) := fun o0 o1 o2 => ((Below.new3 w o0 o1 o2).cell (p := ⟨M, p, none⟩) hMlt).trans ((cell_of_row _ _ p _ _ _ hM).trans ((numsC_at m p hlt).trans (by rw [hv])))
  have hx' := Lib.hid hx
  rw [hp] at qP
  have HP := Lib.hid hp
  clear hc hM hv hx hp hm
  obtain ⟨cs, hcs⟩ : ∃ y, Hid (cpuC c = y) := ⟨_, rfl⟩
  obtain ⟨L, hL⟩ : ∃ y : Nat, Hid (m.length = y) := ⟨_, rfl⟩
  rw [hcs.out] at qz qP one
  rw [hL.out] at hlt hlen
  obtain ⟨pc, hpc⟩ : ∃ y : Int, Hid ((p : Int) = y) := ⟨_, rfl⟩
  obtain ⟨x0, x1, x2, x3, x4⟩ := x
  have HD := Lib.hid hd
  clear hd
  unfold Steps
  obtain ⟨ra, hra⟩ : ∃ y, Hid (readsA c ⟨x0, x1, x2, x3, x4⟩ = y) := ⟨_, rfl⟩
  have KR := Lib.hid (show ∀ W : World, Calls Tryd.prog 19 #[.agg cs, insV ⟨x0, x1, x2, x3, x4⟩] W (GivesB W ra false) from fun W => by
    have := refReads_any c HC.out ⟨x0, x1, x2, x3, x4⟩ hxf W
    rw [hcs.out, hra.out, hrb] at this
    exact this)
  obtain ⟨X, hX⟩ : ∃ y, Hid (exV c ⟨x0, x1, x2, x3, x4⟩ 0 = y) := ⟨_, rfl⟩
  rw [hX.out]
  have KX := Lib.hid (show ∀ W : World, Calls Tryd.prog 21 #[.agg cs, insV ⟨x0, x1, x2, x3, x4⟩, .int .i64 0] W (Gives2 W (.agg (effC X)) (.int .i64 0)) from fun W => by
    have := refExecute_any c HC.out ⟨x0, x1, x2, x3, x4⟩ hxf 0 W
    rw [hcs.out, hX.out, hex] at this
    exact this)
  have xl := Lib.hid (show X.cpu.r.length = 16 by rw [← hX.out]; exact exV_len c _ 0 HC.out.len)
  have k16 := Lib.hid (effC_at16 X xl.out)
  have k17 := Lib.hid (effC_at17 X xl.out)
  have ksz := Lib.hid (effC_size xl.out)
  have kone := Lib.hid (effC_one X)
  rw [hX.out] at hst
  rw [hst] at k17
  obtain ⟨ad, had⟩ : ∃ y, Hid (X.addr = y) := ⟨_, rfl⟩
  obtain ⟨wd, hwd⟩ : ∃ y, Hid (X.word = y) := ⟨_, rfl⟩
  rw [had.out, hwd.out] at k17
  obtain ⟨ps, hps⟩ : ∃ y, Hid (effC X = y) := ⟨_, rfl⟩
  rw [hps.out] at KX k16 k17 ksz kone
  obtain ⟨cl, hcl⟩ : ∃ y, Hid ((cpuC X.cpu).toList = y) := ⟨_, rfl⟩
  have gcl := Lib.hid (effC_cpu X xl.out)
  have ncl := Lib.hid (show (cpuC X.cpu).toList.length = 17 by rw [Array.length_toList, cpuC_size xl.out])
  have ecl := Lib.hid (show (cpuC X.cpu).toList.toArray = cpuC X.cpu by simp)
  have ocl := Lib.hid (cpuC_one X.cpu)
  have zcl := Lib.hid (cpuC_size xl.out)
  rw [hcl.out] at gcl ncl ecl
  rw [← ecl.out] at ocl zcl
  rw [hps.out] at gcl
  rw [← ecl.out, hps.out]
  clear hrb hra hex hX hps hst had hwd
  rw [hcs.out, hL.out]
  have P16 : ∀ o1 o2 : Obj, (((w.alloc (.cells cs 35)).alloc o1).alloc o2).cell? ⟨w.heap.size, 16, none⟩ = some (.int .i64 (p : Int)) := fun o1 o2 => (cell_of_row _ _ 16 _ _ _ (new3 w _ o1 o2).1).trans qP.out
  clear hpc
  go_enter Tryd.func41, Tryd.ntmps41
  go_wp2_with fail
  refine (refDecode_any v hvf _).mono ?_
  rintro e w1 ⟨rfl, hb1⟩
  rw [hx'.out]
  change Below (((w.alloc (.cells cs 35)).alloc (.cells (cpuC cpu0) 35)).alloc (.cells (effC eff0) 40)).heap.size _ _ at hb1
  have M3 := Lib.hid (new3 w (.cells cs 35) (.cells (cpuC cpu0) 35) (.cells (effC eff0) 40))
  have ms := Lib.hid (new3_size w (.cells cs 35) (.cells (cpuC cpu0) 35) (.cells (effC eff0) 40))
  have B3 := Lib.hid (Below.new3 w (.cells cs 35) (.cells (cpuC cpu0) 35) (.cells (effC eff0) 40))
  have hz1 : w.heap.size + 1 + 1 < w1.heap.size := Nat.le_trans (Nat.le_of_eq ms.out.symm) hb1.size
  have F0 := Lib.hid ((Below.heap_alloc w1 (.cells #[.int .i64 x0, .int .i64 x1, .int .i64 x2, .int .i64 x3, .int .i64 x4] 23) _ (by omega)).trans ((hb1.block (w.heap.size) (by rw [ms.out]; omega)).trans M3.out.1))
  have F1 := Lib.hid ((Below.heap_alloc w1 (.cells #[.int .i64 x0, .int .i64 x1, .int .i64 x2, .int .i64 x3, .int .i64 x4] 23) _ (by omega)).trans ((hb1.block (w.heap.size + 1) (by rw [ms.out]; omega)).trans M3.out.2.1))
  have F2 := Lib.hid ((Below.heap_alloc w1 (.cells #[.int .i64 x0, .int .i64 x1, .int .i64 x2, .int .i64 x3, .int .i64 x4] 23) _ (by omega)).trans ((hb1.block (w.heap.size + 1 + 1) (by rw [ms.out]; omega)).trans M3.out.2.2))
  have FX := Lib.hid (heap_alloc_new w1 (.cells #[.int .i64 x0, .int .i64 x1, .int .i64 x2, .int .i64 x3, .int .i64 x4] 23))
  have BW := Lib.hid ((B3.out.trans (hb1.mono (by rw [ms.out]; omega))).alloc (by omega) (.cells #[.int .i64 x0, .int .i64 x1, .int .i64 x2, .int .i64 x3, .int .i64 x4] 23))
  clear hb1 M3 ms B3 P16 mP
  rw [HD.out]
  go_wp2_with ((with_reducible show wpList _ _ _ (Oper.mk _ (Op.load 35 _) _ _ _ _ :: _) _ _); refine wpList_load_all rfl 35 _ rfl (w.heap.size) _ _ rfl F0.out Tryd.underlying35 rfl (by rw [qz.out]; kernel_rfl) ?_)
  refine (KR.out _).mono ?_
  rintro e w2 ⟨rfl, hb2⟩
  have hz2 : w1.heap.size < w2.heap.size := by have := hb2.size; simp at this; omega
  have F0n := Lib.hid ((hb2.block (w.heap.size) (by simp; omega)).trans F0.out)
  have F1n := Lib.hid ((hb2.block (w.heap.size + 1) (by simp; omega)).trans F1.out)
  have F2n := Lib.hid ((hb2.block (w.heap.size + 1 + 1) (by simp; omega)).trans F2.out)
  have FXn := Lib.hid ((hb2.block w1.heap.size (by simp)).trans FX.out)
  have BWn := Lib.hid (BW.out.trans (hb2.mono (by simp; omega)))
  clear F0 F1 F2 FX BW
  have F0 := F0n
  have F1 := F1n
  have F2 := F2n
  have FX := FXn
  have BW := BWn
  clear F0n F1n F2n FXn BWn
  clear hb2 KR
  have e0 := cell_of_row _ _ 0 _ _ _ FX.out
  have e1 := cell_of_row _ _ 1 _ _ _ FX.out
  have e2 := cell_of_row _ _ 2 _ _ _ FX.out
  have e3 := cell_of_row _ _ 3 _ _ _ FX.out
  have e4 := cell_of_row _ _ 4 _ _ _ FX.out
  simp only [List.getElem?_toArray, List.getElem?_cons_zero, List.getElem?_cons_succ] at e0 e1 e2 e3 e4
  go_wp2_with ((with_reducible show wpList _ _ _ (Oper.mk _ (Op.load 35 _) _ _ _ _ :: _) _ _); refine wpList_load_all rfl 35 _ rfl (w.heap.size) _ _ rfl F0.out Tryd.underlying35 rfl (by rw [qz.out]; kernel_rfl) ?_)
  refine (KX.out _).mono ?_
  rintro e w3 ⟨rfl, hb3⟩
  have hz3 : w1.heap.size < w3.heap.size := Nat.lt_of_lt_of_le hz2 hb3.size
  clear e0 e1 e2 e3 e4
  have F0n := Lib.hid ((hb3.block (w.heap.size) (by omega)).trans F0.out)
  have F1n := Lib.hid ((hb3.block (w.heap.size + 1) (by omega)).trans F1.out)
  have F2n := Lib.hid ((hb3.block (w.heap.size + 1 + 1) (by omega)).trans F2.out)
  have FXn := Lib.hid ((hb3.block w1.heap.size (by omega)).trans FX.out)
  have BWn := Lib.hid (BW.out.trans (hb3.mono (by omega)))
  clear F0 F1 F2 FX BW
  have F0 := F0n
  have F1 := F1n
  have F2 := F2n
  have FX := FXn
  have BW := BWn
  clear F0n F1n F2n FXn BWn
  clear hb3 KX
  go_wp2_with ((with_reducible show wpList _ _ _ (Oper.mk none (Op.store 40 _ _) _ _ _ _ :: _) _ _); refine wpList_store_all rfl rfl 40 _ _ rfl w3.heap.size _ ps rfl rfl (heap_alloc_new _ _) (by rw [ksz.out]; rfl) (by rw [ksz.out]; kernel_rfl) kone.out ?_; intro U3 hU; have FP := Lib.hid hU.at_; have F0n := Lib.hid ((hU.block _ (by omega)).trans ((Below.heap_alloc _ _ _ (by omega)).trans F0.out)); have F1n := Lib.hid ((hU.block _ (by omega)).trans ((Below.heap_alloc _ _ _ (by omega)).trans F1.out)); have F2n := Lib.hid ((hU.block _ (by omega)).trans ((Below.heap_alloc _ _ _ (by omega)).trans F2.out)); have BWn := Lib.hid ((BW.out.alloc (by omega) _).setC (by omega) hU); clear F0 F1 F2 BW; have F0 := F0n; have F1 := F1n; have F2 := F2n; have BW := BWn; clear F0n F1n F2n BWn; have hzU : w3.heap.size < U3.heap.size := (by rw [hU.size]; simp); clear hU; have m16 := (cell_of_row _ _ 16 _ _ _ FP.out).trans k16.out; have m17 := (cell_of_row _ _ 17 _ _ _ FP.out).trans k17.out.1; have m18 := (cell_of_row _ _ 18 _ _ _ FP.out).trans k17.out.2.1; have m19 := (cell_of_row _ _ 19 _ _ _ FP.out).trans k17.out.2.2)
  have TU := Lib.hid (Turn.of_below BW.out HM.out)
  have F1v := F1
  have F2v := F2
  have FPv := FP
  clear F0 F1 F2 BW FP m16 m17 m18 m19
  refine wp_region_held_drew (S := fun w_ => w_.heap[w3.heap.size]? = some (.cells ps 40 (0, 0))) (by kernel_rfl) FPv.out (fun hHeld => ?_)
  have TD := Lib.hid TU.out.drew
  have F1d := Lib.hid (show U3.drew.heap[w.heap.size + 1]? = _ from F1v.out)
  have F2d := Lib.hid (show U3.drew.heap[w.heap.size + 1 + 1]? = _ from F2v.out)
  have FPd := (show U3.drew.heap[w3.heap.size]? = some (.cells ps 40 (0, 0)) from FPv.out)
  clear TU F1v F2v FPv
  obtain ⟨D, hD⟩ : ∃ D, Hid (U3.drew = D) := ⟨_, Lib.hid rfl⟩
  rw [hD.out] at TD F1d F2d FPd ⊢
  clear hD
  refine wpAnyH_take (i := 0) (v := .pointer (some ⟨w3.heap.size, 0, none⟩)) rfl (by kernel_rfl) (by kernel_rfl) (by kernel_rfl) (fun _ _ _ h => h) (Or.inl ⟨by rfl, fun W _ => ?_⟩) FPd ?_
  · go_simp
  try simp only [Act.put, List.getElem_toArray, List.getElem_cons_zero, List.getElem_cons_succ, List.setIfInBounds_toArray, List.set_cons_zero, List.set_cons_succ]
  refine wpAnyH_take (i := 1) (v := .agg cl.toArray) rfl (by kernel_rfl) (by kernel_rfl) (by kernel_rfl) (fun _ _ _ h => h) (yieldsIf_load_mid (by rfl) 35 _ rfl w3.heap.size 0 rfl cl _ (fun W hW => range_of hW gcl.out) Tryd.underlying35 rfl (by rw [ncl.out]; kernel_rfl)) FPd ?_
  try simp only [Act.put, List.getElem_toArray, List.getElem_cons_zero, List.getElem_cons_succ, List.setIfInBounds_toArray, List.set_cons_zero, List.set_cons_succ]
  refine wpAnyH_take (i := 2) (v := .agg ps) rfl (by kernel_rfl) (by kernel_rfl) (by kernel_rfl) (fun _ _ _ h => h) (Or.inl ⟨by rfl, fun W hW => exec_load_all 40 _ rfl w3.heap.size ps _ rfl hW Tryd.underlying40 rfl (by rw [ksz.out]; kernel_rfl)⟩) FPd ?_
  try simp only [Act.put, List.getElem_toArray, List.getElem_cons_zero, List.getElem_cons_succ, List.setIfInBounds_toArray, List.set_cons_zero, List.set_cons_succ]
  refine wpAnyH_ready (rs := [3]) (by kernel_rfl) (by simp) (AllReadyH.cons (i := 3) rfl (fun K hK => ?_) AllReadyH.nil)
  rw [if_pos (by rfl)]
  refine wp_store_all 35 _ _ rfl (w.heap.size + 1) _ cl.toArray rfl rfl F1d.out (by rw [zcl.out]; rfl) (by rw [zcl.out]; kernel_rfl) ocl.out ?_
  intro E1 hE1
  refine hK.out _ _ ((hE1.block _ (by omega)).trans FPd) (fun hP1 => ?_)
  clear hK K
  try simp only [Act.put, List.getElem_toArray, List.getElem_cons_zero, List.getElem_cons_succ, List.setIfInBounds_toArray, List.set_cons_zero, List.set_cons_succ]
  refine wpAnyH_ready (rs := [4]) (by kernel_rfl) (by simp) (AllReadyH.cons (i := 4) rfl (fun K hK => ?_) AllReadyH.nil)
  rw [if_pos (by rfl)]
  refine wp_store_all 40 _ _ rfl (w.heap.size + 1 + 1) _ ps rfl rfl ((hE1.block _ (Nat.succ_ne_self _)).trans F2d.out) (by rw [ksz.out]; rfl) (by rw [ksz.out]; kernel_rfl) kone.out ?_
  intro E2 hE2
  refine hK.out _ _ ((hE2.block _ (by omega)).trans hP1) (fun hP2 => ?_)
  clear hK K
  try simp only [Act.put, List.getElem_toArray, List.getElem_cons_zero, List.getElem_cons_succ, List.setIfInBounds_toArray, List.set_cons_zero, List.set_cons_succ]
  refine wpAnyH_ready (rs := [5]) (by kernel_rfl) (by simp) (AllReadyH.cons (i := 5) rfl (fun K hK => ?_) AllReadyH.nil)
  go_simp
  refine hK.out _ _ hP2 (fun _ => ?_)
  clear hK K
  try simp only [Act.put, List.getElem_toArray, List.getElem_cons_zero, List.getElem_cons_succ, List.setIfInBounds_toArray, List.set_cons_zero, List.set_cons_succ]
  refine wpAnyH_done (by kernel_rfl) ?_ _
  go_wp2_with fail
  (try simp only [Exit.inBlock, Exit.then])
  have hld1 := ret_all (P := Tryd.prog) 35 (w.heap.size + 1) _ _ ((hE2.block _ (Nat.ne_of_lt (Nat.lt_succ_self _))).trans hE1.at_) Tryd.underlying35 rfl (by rw [zcl.out]; kernel_rfl)
  have hld2 := ret_all (P := Tryd.prog) 40 (w.heap.size + 1 + 1) _ _ hE2.at_ Tryd.underlying40 rfl (by rw [ksz.out]; kernel_rfl)
  refine bodyPost_ret (v := .tuple #[.agg cl.toArray, .agg ps, .int .i64 0]) (by simp [results, Tryd.results41, asAddr, hld1, hld2]) rfl ?_
  exact ⟨rfl, (TD.out.setC hMlt (Nat.le_add_right _ 1) hE1).setC hMlt (Nat.le_add_right _ 2) hE2⟩
set_option linter.unusedVariables false in
set_option linter.unusedSimpArgs false in
set_option maxRecDepth 100000 in
set_option maxHeartbeats 8000000 in
theorem stp_set_n (m : List Int) (hm : All64 m) (M : Nat) (c : Cpu) (hc : c.Fits) (w : World) (hM : w.heap[M]? = some (.cells (numsC m) 3 (0, 0))) (hlen : m.length ≤ 16384) (p : Nat) (hp : c.pc = p) (hlt : p < m.length) (v : Int) (hv : m.getD p 0 = v) (x : Ins) (hx : decI v = x) (hd : decE v = 0) (hrb : readsB x = false) (hex : exE x = 0) (hst : (exV c x 0).stores = true) (ad : Nat) (had : (exV c x 0).addr = ad) (hadL : ad < m.length) : Calls Tryd.prog 41 #[.slice (some ⟨M, 0, none⟩) m.length m.length, .agg (cpuC c)] w (Steps w M (m.set ad (exV c x 0).word) (exV c x 0)) := by
  have hMlt : M < w.heap.size := (Array.getElem?_eq_some_iff.1 hM).1
  have hvf : I64 v := hv ▸ hm p
  have hxf : x.Fits := hx ▸ decI_fits hvf
  have qz := Lib.hid (cpuC_size hc.len)
  have qP := Lib.hid (cpuC_pc hc.len)
  have one := Lib.hid (cpuC_one c)
  have HC := Lib.hid hc
  have HM := Lib.hid hM
  have mP : ∀ o0 o1 o2 : Obj, (((w.alloc o0).alloc o1).alloc o2).cell? ⟨M, p, none⟩ = some (.int .i64 v) := fun o0 o1 o2 => ((Below.new3 w o0 o1 o2).cell (p := ⟨M, p, none⟩) hMlt).trans ((cell_of_row _ _ p _ _ _ hM).trans ((numsC_at m p hlt).trans (by rw [hv])))
  have hx' := Lib.hid hx
  rw [hp] at qP
  have HP := Lib.hid hp
  clear hc hM hv hx hp hm
  obtain ⟨cs, hcs⟩ : ∃ y, Hid (cpuC c = y) := ⟨_, rfl⟩
  obtain ⟨L, hL⟩ : ∃ y : Nat, Hid (m.length = y) := ⟨_, rfl⟩
  rw [hcs.out] at qz qP one
  rw [hL.out] at hlt hlen
  obtain ⟨pc, hpc⟩ : ∃ y : Int, Hid ((p : Int) = y) := ⟨_, rfl⟩
  obtain ⟨x0, x1, x2, x3, x4⟩ := x
  have HD := Lib.hid hd
  clear hd
  unfold Steps
  obtain ⟨ra, hra⟩ : ∃ y, Hid (readsA c ⟨x0, x1, x2, x3, x4⟩ = y) := ⟨_, rfl⟩
  have KR := Lib.hid (show ∀ W : World, Calls Tryd.prog 19 #[.agg cs, insV ⟨x0, x1, x2, x3, x4⟩] W (GivesB W ra false) from fun W => by
    have := refReads_any c HC.out ⟨x0, x1, x2, x3, x4⟩ hxf W
    rw [hcs.out, hra.out, hrb] at this
    exact this)
  obtain ⟨X, hX⟩ : ∃ y, Hid (exV c ⟨x0, x1, x2, x3, x4⟩ 0 = y) := ⟨_, rfl⟩
  rw [hX.out]
  have KX := Lib.hid (show ∀ W : World, Calls Tryd.prog 21 #[.agg cs, insV ⟨x0, x1, x2, x3, x4⟩, .int .i64 0] W (Gives2 W (.agg (effC X)) (.int .i64 0)) from fun W => by
    have := refExecute_any c HC.out ⟨x0, x1, x2, x3, x4⟩ hxf 0 W
    rw [hcs.out, hX.out, hex] at this
    exact this)
  have xl := Lib.hid (show X.cpu.r.length = 16 by rw [← hX.out]; exact exV_len c _ 0 HC.out.len)
  have k16 := Lib.hid (effC_at16 X xl.out)
  have k17 := Lib.hid (effC_at17 X xl.out)
  have ksz := Lib.hid (effC_size xl.out)
  have kone := Lib.hid (effC_one X)
  rw [hX.out] at hst had
  rw [hst, had] at k17
  obtain ⟨wd, hwd⟩ : ∃ y, Hid (X.word = y) := ⟨_, rfl⟩
  rw [hwd.out] at k17 ⊢
  rw [hL.out] at hadL
  obtain ⟨ps, hps⟩ : ∃ y, Hid (effC X = y) := ⟨_, rfl⟩
  rw [hps.out] at KX k16 k17 ksz kone
  obtain ⟨cl, hcl⟩ : ∃ y, Hid ((cpuC X.cpu).toList = y) := ⟨_, rfl⟩
  have gcl := Lib.hid (effC_cpu X xl.out)
  have ncl := Lib.hid (show (cpuC X.cpu).toList.length = 17 by rw [Array.length_toList, cpuC_size xl.out])
  have ecl := Lib.hid (show (cpuC X.cpu).toList.toArray = cpuC X.cpu by simp)
  have ocl := Lib.hid (cpuC_one X.cpu)
  have zcl := Lib.hid (cpuC_size xl.out)
  rw [hcl.out] at gcl ncl ecl
  rw [← ecl.out] at ocl zcl
  rw [hps.out] at gcl
  rw [← ecl.out, hps.out]
  clear hrb hra hex hX hps hst hwd
  rw [hcs.out, hL.out]
  have P16 : ∀ o1 o2 : Obj, (((w.alloc (.cells cs 35)).alloc o1).alloc o2).cell? ⟨w.heap.size, 16, none⟩ = some (.int .i64 (p : Int)) := fun o1 o2 => (cell_of_row _ _ 16 _ _ _ (new3 w _ o1 o2).1).trans qP.out
  clear hpc
  go_enter Tryd.func41, Tryd.ntmps41
  go_wp2_with fail
  refine (refDecode_any v hvf _).mono ?_
  rintro e w1 ⟨rfl, hb1⟩
  rw [hx'.out]
  change Below (((w.alloc (.cells cs 35)).alloc (.cells (cpuC cpu0) 35)).alloc (.cells (effC eff0) 40)).heap.size _ _ at hb1
  have M3 := Lib.hid (new3 w (.cells cs 35) (.cells (cpuC cpu0) 35) (.cells (effC eff0) 40))
  have ms := Lib.hid (new3_size w (.cells cs 35) (.cells (cpuC cpu0) 35) (.cells (effC eff0) 40))
  have B3 := Lib.hid (Below.new3 w (.cells cs 35) (.cells (cpuC cpu0) 35) (.cells (effC eff0) 40))
  have hz1 : w.heap.size + 1 + 1 < w1.heap.size := Nat.le_trans (Nat.le_of_eq ms.out.symm) hb1.size
  have F0 := Lib.hid ((Below.heap_alloc w1 (.cells #[.int .i64 x0, .int .i64 x1, .int .i64 x2, .int .i64 x3, .int .i64 x4] 23) _ (by omega)).trans ((hb1.block (w.heap.size) (by rw [ms.out]; omega)).trans M3.out.1))
  have F1 := Lib.hid ((Below.heap_alloc w1 (.cells #[.int .i64 x0, .int .i64 x1, .int .i64 x2, .int .i64 x3, .int .i64 x4] 23) _ (by omega)).trans ((hb1.block (w.heap.size + 1) (by rw [ms.out]; omega)).trans M3.out.2.1))
  have F2 := Lib.hid ((Below.heap_alloc w1 (.cells #[.int .i64 x0, .int .i64 x1, .int .i64 x2, .int .i64 x3, .int .i64 x4] 23) _ (by omega)).trans ((hb1.block (w.heap.size + 1 + 1) (by rw [ms.out]; omega)).trans M3.out.2.2))
  have FX := Lib.hid (heap_alloc_new w1 (.cells #[.int .i64 x0, .int .i64 x1, .int .i64 x2, .int .i64 x3, .int .i64 x4] 23))
  have BW := Lib.hid ((B3.out.trans (hb1.mono (by rw [ms.out]; omega))).alloc (by omega) (.cells #[.int .i64 x0, .int .i64 x1, .int .i64 x2, .int .i64 x3, .int .i64 x4] 23))
  clear hb1 M3 ms B3 P16 mP
  rw [HD.out]
  go_wp2_with ((with_reducible show wpList _ _ _ (Oper.mk _ (Op.load 35 _) _ _ _ _ :: _) _ _); refine wpList_load_all rfl 35 _ rfl (w.heap.size) _ _ rfl F0.out Tryd.underlying35 rfl (by rw [qz.out]; kernel_rfl) ?_)
  refine (KR.out _).mono ?_
  rintro e w2 ⟨rfl, hb2⟩
  have hz2 : w1.heap.size < w2.heap.size := by have := hb2.size; simp at this; omega
  have F0n := Lib.hid ((hb2.block (w.heap.size) (by simp; omega)).trans F0.out)
  have F1n := Lib.hid ((hb2.block (w.heap.size + 1) (by simp; omega)).trans F1.out)
  have F2n := Lib.hid ((hb2.block (w.heap.size + 1 + 1) (by simp; omega)).trans F2.out)
  have FXn := Lib.hid ((hb2.block w1.heap.size (by simp)).trans FX.out)
  have BWn := Lib.hid (BW.out.trans (hb2.mono (by simp; omega)))
  clear F0 F1 F2 FX BW
  have F0 := F0n
  have F1 := F1n
  have F2 := F2n
  have FX := FXn
  have BW := BWn
  clear F0n F1n F2n FXn BWn
  clear hb2 KR
  have e0 := cell_of_row _ _ 0 _ _ _ FX.out
  have e1 := cell_of_row _ _ 1 _ _ _ FX.out
  have e2 := cell_of_row _ _ 2 _ _ _ FX.out
  have e3 := cell_of_row _ _ 3 _ _ _ FX.out
  have e4 := cell_of_row _ _ 4 _ _ _ FX.out
  simp only [List.getElem?_toArray, List.getElem?_cons_zero, List.getElem?_cons_succ] at e0 e1 e2 e3 e4
  go_wp2_with ((with_reducible show wpList _ _ _ (Oper.mk _ (Op.load 35 _) _ _ _ _ :: _) _ _); refine wpList_load_all rfl 35 _ rfl (w.heap.size) _ _ rfl F0.out Tryd.underlying35 rfl (by rw [qz.out]; kernel_rfl) ?_)
  refine (KX.out _).mono ?_
  rintro e w3 ⟨rfl, hb3⟩
  have hz3 : w1.heap.size < w3.heap.size := Nat.lt_of_lt_of_le hz2 hb3.size
  clear e0 e1 e2 e3 e4
  have F0n := Lib.hid ((hb3.block (w.heap.size) (by omega)).trans F0.out)
  have F1n := Lib.hid ((hb3.block (w.heap.size + 1) (by omega)).trans F1.out)
  have F2n := Lib.hid ((hb3.block (w.heap.size + 1 + 1) (by omega)).trans F2.out)
  have FXn := Lib.hid ((hb3.block w1.heap.size (by omega)).trans FX.out)
  have BWn := Lib.hid (BW.out.trans (hb3.mono (by omega)))
  clear F0 F1 F2 FX BW
  have F0 := F0n
  have F1 := F1n
  have F2 := F2n
  have FX := FXn
  have BW := BWn
  clear F0n F1n F2n FXn BWn
  clear hb3 KX
  go_wp2_with (first | ((with_reducible show wpList _ _ _ (Oper.mk none (Op.store 40 _ _) _ _ _ _ :: _) _ _); refine wpList_store_all rfl rfl 40 _ _ rfl w3.heap.size _ ps rfl rfl (heap_alloc_new _ _) (by rw [ksz.out]; rfl) (by rw [ksz.out]; kernel_rfl) kone.out ?_; intro U3 hU; have FP := Lib.hid hU.at_; have F0n := Lib.hid ((hU.block _ (by omega)).trans ((Below.heap_alloc _ _ _ (by omega)).trans F0.out)); have F1n := Lib.hid ((hU.block _ (by omega)).trans ((Below.heap_alloc _ _ _ (by omega)).trans F1.out)); have F2n := Lib.hid ((hU.block _ (by omega)).trans ((Below.heap_alloc _ _ _ (by omega)).trans F2.out)); have BWn := Lib.hid ((BW.out.alloc (by omega) _).setC (by omega) hU); clear F0 F1 F2 BW; have F0 := F0n; have F1 := F1n; have F2 := F2n; have BW := BWn; clear F0n F1n F2n BWn; have hzU : w3.heap.size < U3.heap.size := (by rw [hU.size]; simp); clear hU; have m16 := (cell_of_row _ _ 16 _ _ _ FP.out).trans k16.out; have m17 := (cell_of_row _ _ 17 _ _ _ FP.out).trans k17.out.1; have m18 := (cell_of_row _ _ 18 _ _ _ FP.out).trans k17.out.2.1; have m19 := (cell_of_row _ _ 19 _ _ _ FP.out).trans k17.out.2.2) | ((with_reducible show wpList _ _ _ (Oper.mk none (Op.store 3 _ _) _ _ _ _ :: _) _ _); refine wpList_store_cell rfl rfl 3 _ _ rfl M ad (numsC m) (.int .i64 wd) rfl rfl ((BW.out.block M hMlt).trans HM.out) (by rw [numsC_size, hL.out]; exact hadL) (by kernel_rfl) rfl ?_; intro V3 hV; have TU := Lib.hid (Turn.set BW.out hV); have F1v := Lib.hid ((hV.block _ (by omega)).trans F1.out); have F2v := Lib.hid ((hV.block _ (by omega)).trans F2.out); have FPv := Lib.hid ((hV.block _ (by omega)).trans FP.out); clear hV))
  clear F0 F1 F2 BW FP m16 m17 m18 m19
  refine wp_region_held_drew (S := fun w_ => w_.heap[w3.heap.size]? = some (.cells ps 40 (0, 0))) (by kernel_rfl) FPv.out (fun hHeld => ?_)
  have TD := Lib.hid TU.out.drew
  have F1d := Lib.hid (show V3.drew.heap[w.heap.size + 1]? = _ from F1v.out)
  have F2d := Lib.hid (show V3.drew.heap[w.heap.size + 1 + 1]? = _ from F2v.out)
  have FPd := (show V3.drew.heap[w3.heap.size]? = some (.cells ps 40 (0, 0)) from FPv.out)
  clear TU F1v F2v FPv
  obtain ⟨D, hD⟩ : ∃ D, Hid (V3.drew = D) := ⟨_, Lib.hid rfl⟩
  rw [hD.out] at TD F1d F2d FPd ⊢
  clear hD
  refine wpAnyH_take (i := 0) (v := .pointer (some ⟨w3.heap.size, 0, none⟩)) rfl (by kernel_rfl) (by kernel_rfl) (by kernel_rfl) (fun _ _ _ h => h) (Or.inl ⟨by rfl, fun W _ => ?_⟩) FPd ?_
  · go_simp
  try simp only [Act.put, List.getElem_toArray, List.getElem_cons_zero, List.getElem_cons_succ, List.setIfInBounds_toArray, List.set_cons_zero, List.set_cons_succ]
  refine wpAnyH_take (i := 1) (v := .agg cl.toArray) rfl (by kernel_rfl) (by kernel_rfl) (by kernel_rfl) (fun _ _ _ h => h) (yieldsIf_load_mid (by rfl) 35 _ rfl w3.heap.size 0 rfl cl _ (fun W hW => range_of hW gcl.out) Tryd.underlying35 rfl (by rw [ncl.out]; kernel_rfl)) FPd ?_
  try simp only [Act.put, List.getElem_toArray, List.getElem_cons_zero, List.getElem_cons_succ, List.setIfInBounds_toArray, List.set_cons_zero, List.set_cons_succ]
  refine wpAnyH_take (i := 2) (v := .agg ps) rfl (by kernel_rfl) (by kernel_rfl) (by kernel_rfl) (fun _ _ _ h => h) (Or.inl ⟨by rfl, fun W hW => exec_load_all 40 _ rfl w3.heap.size ps _ rfl hW Tryd.underlying40 rfl (by rw [ksz.out]; kernel_rfl)⟩) FPd ?_
  try simp only [Act.put, List.getElem_toArray, List.getElem_cons_zero, List.getElem_cons_succ, List.setIfInBounds_toArray, List.set_cons_zero, List.set_cons_succ]
  refine wpAnyH_ready (rs := [3]) (by kernel_rfl) (by simp) (AllReadyH.cons (i := 3) rfl (fun K hK => ?_) AllReadyH.nil)
  rw [if_pos (by rfl)]
  refine wp_store_all 35 _ _ rfl (w.heap.size + 1) _ cl.toArray rfl rfl F1d.out (by rw [zcl.out]; rfl) (by rw [zcl.out]; kernel_rfl) ocl.out ?_
  intro E1 hE1
  refine hK.out _ _ ((hE1.block _ (by omega)).trans FPd) (fun hP1 => ?_)
  clear hK K
  try simp only [Act.put, List.getElem_toArray, List.getElem_cons_zero, List.getElem_cons_succ, List.setIfInBounds_toArray, List.set_cons_zero, List.set_cons_succ]
  refine wpAnyH_ready (rs := [4]) (by kernel_rfl) (by simp) (AllReadyH.cons (i := 4) rfl (fun K hK => ?_) AllReadyH.nil)
  rw [if_pos (by rfl)]
  refine wp_store_all 40 _ _ rfl (w.heap.size + 1 + 1) _ ps rfl rfl ((hE1.block _ (Nat.succ_ne_self _)).trans F2d.out) (by rw [ksz.out]; rfl) (by rw [ksz.out]; kernel_rfl) kone.out ?_
  intro E2 hE2
  refine hK.out _ _ ((hE2.block _ (by omega)).trans hP1) (fun hP2 => ?_)
  clear hK K
  try simp only [Act.put, List.getElem_toArray, List.getElem_cons_zero, List.getElem_cons_succ, List.setIfInBounds_toArray, List.set_cons_zero, List.set_cons_succ]
  refine wpAnyH_ready (rs := [5]) (by kernel_rfl) (by simp) (AllReadyH.cons (i := 5) rfl (fun K hK => ?_) AllReadyH.nil)
  go_simp
  refine hK.out _ _ hP2 (fun _ => ?_)
  clear hK K
  try simp only [Act.put, List.getElem_toArray, List.getElem_cons_zero, List.getElem_cons_succ, List.setIfInBounds_toArray, List.set_cons_zero, List.set_cons_succ]
  refine wpAnyH_done (by kernel_rfl) ?_ _
  go_wp2_with fail
  (try simp only [Exit.inBlock, Exit.then])
  have hld1 := ret_all (P := Tryd.prog) 35 (w.heap.size + 1) _ _ ((hE2.block _ (Nat.ne_of_lt (Nat.lt_succ_self _))).trans hE1.at_) Tryd.underlying35 rfl (by rw [zcl.out]; kernel_rfl)
  have hld2 := ret_all (P := Tryd.prog) 40 (w.heap.size + 1 + 1) _ _ hE2.at_ Tryd.underlying40 rfl (by rw [ksz.out]; kernel_rfl)
  refine bodyPost_ret (v := .tuple #[.agg cl.toArray, .agg ps, .int .i64 0]) (by simp [results, Tryd.results41, asAddr, hld1, hld2]) rfl ?_
  exact ⟨rfl, (TD.out.setC hMlt (Nat.le_add_right _ 1) hE1).setC hMlt (Nat.le_add_right _ 2) hE2⟩
set_option linter.unusedVariables false in
set_option linter.unusedSimpArgs false in
set_option maxRecDepth 100000 in
set_option maxHeartbeats 8000000 in
theorem stp_ok_r (m : List Int) (hm : All64 m) (M : Nat) (c : Cpu) (hc : c.Fits) (w : World) (hM : w.heap[M]? = some (.cells (numsC m) 3 (0, 0))) (hlen : m.length ≤ 16384) (p : Nat) (hp : c.pc = p) (hlt : p < m.length) (v : Int) (hv : m.getD p 0 = v) (x : Ins) (hx : decI v = x) (hd : decE v = 0) (hrb : readsB x = true) (q : Nat) (hq : readsA c x = q) (hqm : q < m.length) (ld : Int) (hq2 : m.getD q 0 = ld) (hex : exE x = 0) (hst : (exV c x ld).stores = false) : Calls Tryd.prog 41 #[.slice (some ⟨M, 0, none⟩) m.length m.length, .agg (cpuC c)] w (Steps w M m (exV c x ld)) := by
  have hMlt : M < w.heap.size := (Array.getElem?_eq_some_iff.1 hM).1
  have hvf : I64 v := hv ▸ hm p
  have hxf : x.Fits := hx ▸ decI_fits hvf
  have qz := Lib.hid (cpuC_size hc.len)
  have qP := Lib.hid (cpuC_pc hc.len)
  have one := Lib.hid (cpuC_one c)
  have HC := Lib.hid hc
  have HM := Lib.hid hM
  have mP : ∀ o0 o1 o2 : Obj, (((w.alloc o0).alloc o1).alloc o2).cell? ⟨M, p, none⟩ = some (.int .i64 v) := fun o0 o1 o2 => ((Below.new3 w o0 o1 o2).cell (p := ⟨M, p, none⟩) hMlt).trans ((cell_of_row _ _ p _ _ _ hM).trans ((numsC_at m p hlt).trans (by rw [hv])))
  have hx' := Lib.hid hx
  rw [hp] at qP
  have HP := Lib.hid hp
  clear hc hM hv hx hp hm
  obtain ⟨cs, hcs⟩ : ∃ y, Hid (cpuC c = y) := ⟨_, rfl⟩
  obtain ⟨L, hL⟩ : ∃ y : Nat, Hid (m.length = y) := ⟨_, rfl⟩
  rw [hcs.out] at qz qP one
  rw [hL.out] at hlt hlen
  obtain ⟨pc, hpc⟩ : ∃ y : Int, Hid ((p : Int) = y) := ⟨_, rfl⟩
  obtain ⟨x0, x1, x2, x3, x4⟩ := x
  have HD := Lib.hid hd
  clear hd
  have HQ2 := Lib.hid hq2
  clear hq2
  have hqL : q < L := by rw [← hL.out]; exact hqm
  unfold Steps
  obtain ⟨ra, hra⟩ : ∃ y, Hid (readsA c ⟨x0, x1, x2, x3, x4⟩ = y) := ⟨_, rfl⟩
  have KR := Lib.hid (show ∀ W : World, Calls Tryd.prog 19 #[.agg cs, insV ⟨x0, x1, x2, x3, x4⟩] W (GivesB W ra true) from fun W => by
    have := refReads_any c HC.out ⟨x0, x1, x2, x3, x4⟩ hxf W
    rw [hcs.out, hra.out, hrb] at this
    exact this)
  rw [hra.out] at hq
  subst hq
  obtain ⟨X, hX⟩ : ∃ y, Hid (exV c ⟨x0, x1, x2, x3, x4⟩ ld = y) := ⟨_, rfl⟩
  rw [hX.out]
  have KX := Lib.hid (show ∀ W : World, Calls Tryd.prog 21 #[.agg cs, insV ⟨x0, x1, x2, x3, x4⟩, .int .i64 ld] W (Gives2 W (.agg (effC X)) (.int .i64 0)) from fun W => by
    have := refExecute_any c HC.out ⟨x0, x1, x2, x3, x4⟩ hxf ld W
    rw [hcs.out, hX.out, hex] at this
    exact this)
  have xl := Lib.hid (show X.cpu.r.length = 16 by rw [← hX.out]; exact exV_len c _ ld HC.out.len)
  have k16 := Lib.hid (effC_at16 X xl.out)
  have k17 := Lib.hid (effC_at17 X xl.out)
  have ksz := Lib.hid (effC_size xl.out)
  have kone := Lib.hid (effC_one X)
  rw [hX.out] at hst
  rw [hst] at k17
  obtain ⟨ad, had⟩ : ∃ y, Hid (X.addr = y) := ⟨_, rfl⟩
  obtain ⟨wd, hwd⟩ : ∃ y, Hid (X.word = y) := ⟨_, rfl⟩
  rw [had.out, hwd.out] at k17
  obtain ⟨ps, hps⟩ : ∃ y, Hid (effC X = y) := ⟨_, rfl⟩
  rw [hps.out] at KX k16 k17 ksz kone
  obtain ⟨cl, hcl⟩ : ∃ y, Hid ((cpuC X.cpu).toList = y) := ⟨_, rfl⟩
  have gcl := Lib.hid (effC_cpu X xl.out)
  have ncl := Lib.hid (show (cpuC X.cpu).toList.length = 17 by rw [Array.length_toList, cpuC_size xl.out])
  have ecl := Lib.hid (show (cpuC X.cpu).toList.toArray = cpuC X.cpu by simp)
  have ocl := Lib.hid (cpuC_one X.cpu)
  have zcl := Lib.hid (cpuC_size xl.out)
  rw [hcl.out] at gcl ncl ecl
  rw [← ecl.out] at ocl zcl
  rw [hps.out] at gcl
  rw [← ecl.out, hps.out]
  clear hrb hra hex hX hps hst had hwd
  rw [hcs.out, hL.out]
  have P16 : ∀ o1 o2 : Obj, (((w.alloc (.cells cs 35)).alloc o1).alloc o2).cell? ⟨w.heap.size, 16, none⟩ = some (.int .i64 (p : Int)) := fun o1 o2 => (cell_of_row _ _ 16 _ _ _ (new3 w _ o1 o2).1).trans qP.out
  clear hpc
  go_enter Tryd.func41, Tryd.ntmps41
  go_wp2_with fail
  refine (refDecode_any v hvf _).mono ?_
  rintro e w1 ⟨rfl, hb1⟩
  rw [hx'.out]
  change Below (((w.alloc (.cells cs 35)).alloc (.cells (cpuC cpu0) 35)).alloc (.cells (effC eff0) 40)).heap.size _ _ at hb1
  have M3 := Lib.hid (new3 w (.cells cs 35) (.cells (cpuC cpu0) 35) (.cells (effC eff0) 40))
  have ms := Lib.hid (new3_size w (.cells cs 35) (.cells (cpuC cpu0) 35) (.cells (effC eff0) 40))
  have B3 := Lib.hid (Below.new3 w (.cells cs 35) (.cells (cpuC cpu0) 35) (.cells (effC eff0) 40))
  have hz1 : w.heap.size + 1 + 1 < w1.heap.size := Nat.le_trans (Nat.le_of_eq ms.out.symm) hb1.size
  have F0 := Lib.hid ((Below.heap_alloc w1 (.cells #[.int .i64 x0, .int .i64 x1, .int .i64 x2, .int .i64 x3, .int .i64 x4] 23) _ (by omega)).trans ((hb1.block (w.heap.size) (by rw [ms.out]; omega)).trans M3.out.1))
  have F1 := Lib.hid ((Below.heap_alloc w1 (.cells #[.int .i64 x0, .int .i64 x1, .int .i64 x2, .int .i64 x3, .int .i64 x4] 23) _ (by omega)).trans ((hb1.block (w.heap.size + 1) (by rw [ms.out]; omega)).trans M3.out.2.1))
  have F2 := Lib.hid ((Below.heap_alloc w1 (.cells #[.int .i64 x0, .int .i64 x1, .int .i64 x2, .int .i64 x3, .int .i64 x4] 23) _ (by omega)).trans ((hb1.block (w.heap.size + 1 + 1) (by rw [ms.out]; omega)).trans M3.out.2.2))
  have FX := Lib.hid (heap_alloc_new w1 (.cells #[.int .i64 x0, .int .i64 x1, .int .i64 x2, .int .i64 x3, .int .i64 x4] 23))
  have BW := Lib.hid ((B3.out.trans (hb1.mono (by rw [ms.out]; omega))).alloc (by omega) (.cells #[.int .i64 x0, .int .i64 x1, .int .i64 x2, .int .i64 x3, .int .i64 x4] 23))
  clear hb1 M3 ms B3 P16 mP
  rw [HD.out]
  go_wp2_with ((with_reducible show wpList _ _ _ (Oper.mk _ (Op.load 35 _) _ _ _ _ :: _) _ _); refine wpList_load_all rfl 35 _ rfl (w.heap.size) _ _ rfl F0.out Tryd.underlying35 rfl (by rw [qz.out]; kernel_rfl) ?_)
  refine (KR.out _).mono ?_
  rintro e w2 ⟨rfl, hb2⟩
  have hz2 : w1.heap.size < w2.heap.size := by have := hb2.size; simp at this; omega
  have F0n := Lib.hid ((hb2.block (w.heap.size) (by simp; omega)).trans F0.out)
  have F1n := Lib.hid ((hb2.block (w.heap.size + 1) (by simp; omega)).trans F1.out)
  have F2n := Lib.hid ((hb2.block (w.heap.size + 1 + 1) (by simp; omega)).trans F2.out)
  have FXn := Lib.hid ((hb2.block w1.heap.size (by simp)).trans FX.out)
  have BWn := Lib.hid (BW.out.trans (hb2.mono (by simp; omega)))
  clear F0 F1 F2 FX BW
  have F0 := F0n
  have F1 := F1n
  have F2 := F2n
  have FX := FXn
  have BW := BWn
  clear F0n F1n F2n FXn BWn
  clear hb2 KR
  have e0 := cell_of_row _ _ 0 _ _ _ FX.out
  have e1 := cell_of_row _ _ 1 _ _ _ FX.out
  have e2 := cell_of_row _ _ 2 _ _ _ FX.out
  have e3 := cell_of_row _ _ 3 _ _ _ FX.out
  have e4 := cell_of_row _ _ 4 _ _ _ FX.out
  simp only [List.getElem?_toArray, List.getElem?_cons_zero, List.getElem?_cons_succ] at e0 e1 e2 e3 e4
  have eM := (BW.out.cell (p := ⟨M, q, none⟩) hMlt).trans ((cell_of_row _ _ q _ _ _ HM.out).trans ((numsC_at m q hqm).trans (by rw [HQ2.out])))
  clear hqm
  go_wp2_with ((with_reducible show wpList _ _ _ (Oper.mk _ (Op.load 35 _) _ _ _ _ :: _) _ _); refine wpList_load_all rfl 35 _ rfl (w.heap.size) _ _ rfl F0.out Tryd.underlying35 rfl (by rw [qz.out]; kernel_rfl) ?_)
  refine (KX.out _).mono ?_
  rintro e w3 ⟨rfl, hb3⟩
  have hz3 : w1.heap.size < w3.heap.size := Nat.lt_of_lt_of_le hz2 hb3.size
  clear e0 e1 e2 e3 e4 eM
  have F0n := Lib.hid ((hb3.block (w.heap.size) (by omega)).trans F0.out)
  have F1n := Lib.hid ((hb3.block (w.heap.size + 1) (by omega)).trans F1.out)
  have F2n := Lib.hid ((hb3.block (w.heap.size + 1 + 1) (by omega)).trans F2.out)
  have FXn := Lib.hid ((hb3.block w1.heap.size (by omega)).trans FX.out)
  have BWn := Lib.hid (BW.out.trans (hb3.mono (by omega)))
  clear F0 F1 F2 FX BW
  have F0 := F0n
  have F1 := F1n
  have F2 := F2n
  have FX := FXn
  have BW := BWn
  clear F0n F1n F2n FXn BWn
  clear hb3 KX
  go_wp2_with ((with_reducible show wpList _ _ _ (Oper.mk none (Op.store 40 _ _) _ _ _ _ :: _) _ _); refine wpList_store_all rfl rfl 40 _ _ rfl w3.heap.size _ ps rfl rfl (heap_alloc_new _ _) (by rw [ksz.out]; rfl) (by rw [ksz.out]; kernel_rfl) kone.out ?_; intro U3 hU; have FP := Lib.hid hU.at_; have F0n := Lib.hid ((hU.block _ (by omega)).trans ((Below.heap_alloc _ _ _ (by omega)).trans F0.out)); have F1n := Lib.hid ((hU.block _ (by omega)).trans ((Below.heap_alloc _ _ _ (by omega)).trans F1.out)); have F2n := Lib.hid ((hU.block _ (by omega)).trans ((Below.heap_alloc _ _ _ (by omega)).trans F2.out)); have BWn := Lib.hid ((BW.out.alloc (by omega) _).setC (by omega) hU); clear F0 F1 F2 BW; have F0 := F0n; have F1 := F1n; have F2 := F2n; have BW := BWn; clear F0n F1n F2n BWn; have hzU : w3.heap.size < U3.heap.size := (by rw [hU.size]; simp); clear hU; have m16 := (cell_of_row _ _ 16 _ _ _ FP.out).trans k16.out; have m17 := (cell_of_row _ _ 17 _ _ _ FP.out).trans k17.out.1; have m18 := (cell_of_row _ _ 18 _ _ _ FP.out).trans k17.out.2.1; have m19 := (cell_of_row _ _ 19 _ _ _ FP.out).trans k17.out.2.2)
  have TU := Lib.hid (Turn.of_below BW.out HM.out)
  have F1v := F1
  have F2v := F2
  have FPv := FP
  clear F0 F1 F2 BW FP m16 m17 m18 m19
  refine wp_region_held_drew (S := fun w_ => w_.heap[w3.heap.size]? = some (.cells ps 40 (0, 0))) (by kernel_rfl) FPv.out (fun hHeld => ?_)
  have TD := Lib.hid TU.out.drew
  have F1d := Lib.hid (show U3.drew.heap[w.heap.size + 1]? = _ from F1v.out)
  have F2d := Lib.hid (show U3.drew.heap[w.heap.size + 1 + 1]? = _ from F2v.out)
  have FPd := (show U3.drew.heap[w3.heap.size]? = some (.cells ps 40 (0, 0)) from FPv.out)
  clear TU F1v F2v FPv
  obtain ⟨D, hD⟩ : ∃ D, Hid (U3.drew = D) := ⟨_, Lib.hid rfl⟩
  rw [hD.out] at TD F1d F2d FPd ⊢
  clear hD
  refine wpAnyH_take (i := 0) (v := .pointer (some ⟨w3.heap.size, 0, none⟩)) rfl (by kernel_rfl) (by kernel_rfl) (by kernel_rfl) (fun _ _ _ h => h) (Or.inl ⟨by rfl, fun W _ => ?_⟩) FPd ?_
  · go_simp
  try simp only [Act.put, List.getElem_toArray, List.getElem_cons_zero, List.getElem_cons_succ, List.setIfInBounds_toArray, List.set_cons_zero, List.set_cons_succ]
  refine wpAnyH_take (i := 1) (v := .agg cl.toArray) rfl (by kernel_rfl) (by kernel_rfl) (by kernel_rfl) (fun _ _ _ h => h) (yieldsIf_load_mid (by rfl) 35 _ rfl w3.heap.size 0 rfl cl _ (fun W hW => range_of hW gcl.out) Tryd.underlying35 rfl (by rw [ncl.out]; kernel_rfl)) FPd ?_
  try simp only [Act.put, List.getElem_toArray, List.getElem_cons_zero, List.getElem_cons_succ, List.setIfInBounds_toArray, List.set_cons_zero, List.set_cons_succ]
  refine wpAnyH_take (i := 2) (v := .agg ps) rfl (by kernel_rfl) (by kernel_rfl) (by kernel_rfl) (fun _ _ _ h => h) (Or.inl ⟨by rfl, fun W hW => exec_load_all 40 _ rfl w3.heap.size ps _ rfl hW Tryd.underlying40 rfl (by rw [ksz.out]; kernel_rfl)⟩) FPd ?_
  try simp only [Act.put, List.getElem_toArray, List.getElem_cons_zero, List.getElem_cons_succ, List.setIfInBounds_toArray, List.set_cons_zero, List.set_cons_succ]
  refine wpAnyH_ready (rs := [3]) (by kernel_rfl) (by simp) (AllReadyH.cons (i := 3) rfl (fun K hK => ?_) AllReadyH.nil)
  rw [if_pos (by rfl)]
  refine wp_store_all 35 _ _ rfl (w.heap.size + 1) _ cl.toArray rfl rfl F1d.out (by rw [zcl.out]; rfl) (by rw [zcl.out]; kernel_rfl) ocl.out ?_
  intro E1 hE1
  refine hK.out _ _ ((hE1.block _ (by omega)).trans FPd) (fun hP1 => ?_)
  clear hK K
  try simp only [Act.put, List.getElem_toArray, List.getElem_cons_zero, List.getElem_cons_succ, List.setIfInBounds_toArray, List.set_cons_zero, List.set_cons_succ]
  refine wpAnyH_ready (rs := [4]) (by kernel_rfl) (by simp) (AllReadyH.cons (i := 4) rfl (fun K hK => ?_) AllReadyH.nil)
  rw [if_pos (by rfl)]
  refine wp_store_all 40 _ _ rfl (w.heap.size + 1 + 1) _ ps rfl rfl ((hE1.block _ (Nat.succ_ne_self _)).trans F2d.out) (by rw [ksz.out]; rfl) (by rw [ksz.out]; kernel_rfl) kone.out ?_
  intro E2 hE2
  refine hK.out _ _ ((hE2.block _ (by omega)).trans hP1) (fun hP2 => ?_)
  clear hK K
  try simp only [Act.put, List.getElem_toArray, List.getElem_cons_zero, List.getElem_cons_succ, List.setIfInBounds_toArray, List.set_cons_zero, List.set_cons_succ]
  refine wpAnyH_ready (rs := [5]) (by kernel_rfl) (by simp) (AllReadyH.cons (i := 5) rfl (fun K hK => ?_) AllReadyH.nil)
  go_simp
  refine hK.out _ _ hP2 (fun _ => ?_)
  clear hK K
  try simp only [Act.put, List.getElem_toArray, List.getElem_cons_zero, List.getElem_cons_succ, List.setIfInBounds_toArray, List.set_cons_zero, List.set_cons_succ]
  refine wpAnyH_done (by kernel_rfl) ?_ _
  go_wp2_with fail
  (try simp only [Exit.inBlock, Exit.then])
  have hld1 := ret_all (P := Tryd.prog) 35 (w.heap.size + 1) _ _ ((hE2.block _ (Nat.ne_of_lt (Nat.lt_succ_self _))).trans hE1.at_) Tryd.underlying35 rfl (by rw [zcl.out]; kernel_rfl)
  have hld2 := ret_all (P := Tryd.prog) 40 (w.heap.size + 1 + 1) _ _ hE2.at_ Tryd.underlying40 rfl (by rw [ksz.out]; kernel_rfl)
  refine bodyPost_ret (v := .tuple #[.agg cl.toArray, .agg ps, .int .i64 0]) (by simp [results, Tryd.results41, asAddr, hld1, hld2]) rfl ?_
  exact ⟨rfl, (TD.out.setC hMlt (Nat.le_add_right _ 1) hE1).setC hMlt (Nat.le_add_right _ 2) hE2⟩
set_option linter.unusedVariables false in
set_option linter.unusedSimpArgs false in
set_option maxRecDepth 100000 in
set_option maxHeartbeats 8000000 in
theorem stp_set_r (m : List Int) (hm : All64 m) (M : Nat) (c : Cpu) (hc : c.Fits) (w : World) (hM : w.heap[M]? = some (.cells (numsC m) 3 (0, 0))) (hlen : m.length ≤ 16384) (p : Nat) (hp : c.pc = p) (hlt : p < m.length) (v : Int) (hv : m.getD p 0 = v) (x : Ins) (hx : decI v = x) (hd : decE v = 0) (hrb : readsB x = true) (q : Nat) (hq : readsA c x = q) (hqm : q < m.length) (ld : Int) (hq2 : m.getD q 0 = ld) (hex : exE x = 0) (hst : (exV c x ld).stores = true) (ad : Nat) (had : (exV c x ld).addr = ad) (hadL : ad < m.length) : Calls Tryd.prog 41 #[.slice (some ⟨M, 0, none⟩) m.length m.length, .agg (cpuC c)] w (Steps w M (m.set ad (exV c x ld).word) (exV c x ld)) := by
  have hMlt : M < w.heap.size := (Array.getElem?_eq_some_iff.1 hM).1
  have hvf : I64 v := hv ▸ hm p
  have hxf : x.Fits := hx ▸ decI_fits hvf
  have qz := Lib.hid (cpuC_size hc.len)
  have qP := Lib.hid (cpuC_pc hc.len)
  have one := Lib.hid (cpuC_one c)
  have HC := Lib.hid hc
  have HM := Lib.hid hM
  have mP : ∀ o0 o1 o2 : Obj, (((w.alloc o0).alloc o1).alloc o2).cell? ⟨M, p, none⟩ = some (.int .i64 v) := fun o0 o1 o2 => ((Below.new3 w o0 o1 o2).cell (p := ⟨M, p, none⟩) hMlt).trans ((cell_of_row _ _ p _ _ _ hM).trans ((numsC_at m p hlt).trans (by rw [hv])))
  have hx' := Lib.hid hx
  rw [hp] at qP
  have HP := Lib.hid hp
  clear hc hM hv hx hp hm
  obtain ⟨cs, hcs⟩ : ∃ y, Hid (cpuC c = y) := ⟨_, rfl⟩
  obtain ⟨L, hL⟩ : ∃ y : Nat, Hid (m.length = y) := ⟨_, rfl⟩
  rw [hcs.out] at qz qP one
  rw [hL.out] at hlt hlen
  obtain ⟨pc, hpc⟩ : ∃ y : Int, Hid ((p : Int) = y) := ⟨_, rfl⟩
  obtain ⟨x0, x1, x2, x3, x4⟩ := x
  have HD := Lib.hid hd
  clear hd
  have HQ2 := Lib.hid hq2
  clear hq2
  have hqL : q < L := by rw [← hL.out]; exact hqm
  unfold Steps
  obtain ⟨ra, hra⟩ : ∃ y, Hid (readsA c ⟨x0, x1, x2, x3, x4⟩ = y) := ⟨_, rfl⟩
  have KR := Lib.hid (show ∀ W : World, Calls Tryd.prog 19 #[.agg cs, insV ⟨x0, x1, x2, x3, x4⟩] W (GivesB W ra true) from fun W => by
    have := refReads_any c HC.out ⟨x0, x1, x2, x3, x4⟩ hxf W
    rw [hcs.out, hra.out, hrb] at this
    exact this)
  rw [hra.out] at hq
  subst hq
  obtain ⟨X, hX⟩ : ∃ y, Hid (exV c ⟨x0, x1, x2, x3, x4⟩ ld = y) := ⟨_, rfl⟩
  rw [hX.out]
  have KX := Lib.hid (show ∀ W : World, Calls Tryd.prog 21 #[.agg cs, insV ⟨x0, x1, x2, x3, x4⟩, .int .i64 ld] W (Gives2 W (.agg (effC X)) (.int .i64 0)) from fun W => by
    have := refExecute_any c HC.out ⟨x0, x1, x2, x3, x4⟩ hxf ld W
    rw [hcs.out, hX.out, hex] at this
    exact this)
  have xl := Lib.hid (show X.cpu.r.length = 16 by rw [← hX.out]; exact exV_len c _ ld HC.out.len)
  have k16 := Lib.hid (effC_at16 X xl.out)
  have k17 := Lib.hid (effC_at17 X xl.out)
  have ksz := Lib.hid (effC_size xl.out)
  have kone := Lib.hid (effC_one X)
  rw [hX.out] at hst had
  rw [hst, had] at k17
  obtain ⟨wd, hwd⟩ : ∃ y, Hid (X.word = y) := ⟨_, rfl⟩
  rw [hwd.out] at k17 ⊢
  rw [hL.out] at hadL
  obtain ⟨ps, hps⟩ : ∃ y, Hid (effC X = y) := ⟨_, rfl⟩
  rw [hps.out] at KX k16 k17 ksz kone
  obtain ⟨cl, hcl⟩ : ∃ y, Hid ((cpuC X.cpu).toList = y) := ⟨_, rfl⟩
  have gcl := Lib.hid (effC_cpu X xl.out)
  have ncl := Lib.hid (show (cpuC X.cpu).toList.length = 17 by rw [Array.length_toList, cpuC_size xl.out])
  have ecl := Lib.hid (show (cpuC X.cpu).toList.toArray = cpuC X.cpu by simp)
  have ocl := Lib.hid (cpuC_one X.cpu)
  have zcl := Lib.hid (cpuC_size xl.out)
  rw [hcl.out] at gcl ncl ecl
  rw [← ecl.out] at ocl zcl
  rw [hps.out] at gcl
  rw [← ecl.out, hps.out]
  clear hrb hra hex hX hps hst hwd
  rw [hcs.out, hL.out]
  have P16 : ∀ o1 o2 : Obj, (((w.alloc (.cells cs 35)).alloc o1).alloc o2).cell? ⟨w.heap.size, 16, none⟩ = some (.int .i64 (p : Int)) := fun o1 o2 => (cell_of_row _ _ 16 _ _ _ (new3 w _ o1 o2).1).trans qP.out
  clear hpc
  go_enter Tryd.func41, Tryd.ntmps41
  go_wp2_with fail
  refine (refDecode_any v hvf _).mono ?_
  rintro e w1 ⟨rfl, hb1⟩
  rw [hx'.out]
  change Below (((w.alloc (.cells cs 35)).alloc (.cells (cpuC cpu0) 35)).alloc (.cells (effC eff0) 40)).heap.size _ _ at hb1
  have M3 := Lib.hid (new3 w (.cells cs 35) (.cells (cpuC cpu0) 35) (.cells (effC eff0) 40))
  have ms := Lib.hid (new3_size w (.cells cs 35) (.cells (cpuC cpu0) 35) (.cells (effC eff0) 40))
  have B3 := Lib.hid (Below.new3 w (.cells cs 35) (.cells (cpuC cpu0) 35) (.cells (effC eff0) 40))
  have hz1 : w.heap.size + 1 + 1 < w1.heap.size := Nat.le_trans (Nat.le_of_eq ms.out.symm) hb1.size
  have F0 := Lib.hid ((Below.heap_alloc w1 (.cells #[.int .i64 x0, .int .i64 x1, .int .i64 x2, .int .i64 x3, .int .i64 x4] 23) _ (by omega)).trans ((hb1.block (w.heap.size) (by rw [ms.out]; omega)).trans M3.out.1))
  have F1 := Lib.hid ((Below.heap_alloc w1 (.cells #[.int .i64 x0, .int .i64 x1, .int .i64 x2, .int .i64 x3, .int .i64 x4] 23) _ (by omega)).trans ((hb1.block (w.heap.size + 1) (by rw [ms.out]; omega)).trans M3.out.2.1))
  have F2 := Lib.hid ((Below.heap_alloc w1 (.cells #[.int .i64 x0, .int .i64 x1, .int .i64 x2, .int .i64 x3, .int .i64 x4] 23) _ (by omega)).trans ((hb1.block (w.heap.size + 1 + 1) (by rw [ms.out]; omega)).trans M3.out.2.2))
  have FX := Lib.hid (heap_alloc_new w1 (.cells #[.int .i64 x0, .int .i64 x1, .int .i64 x2, .int .i64 x3, .int .i64 x4] 23))
  have BW := Lib.hid ((B3.out.trans (hb1.mono (by rw [ms.out]; omega))).alloc (by omega) (.cells #[.int .i64 x0, .int .i64 x1, .int .i64 x2, .int .i64 x3, .int .i64 x4] 23))
  clear hb1 M3 ms B3 P16 mP
  rw [HD.out]
  go_wp2_with ((with_reducible show wpList _ _ _ (Oper.mk _ (Op.load 35 _) _ _ _ _ :: _) _ _); refine wpList_load_all rfl 35 _ rfl (w.heap.size) _ _ rfl F0.out Tryd.underlying35 rfl (by rw [qz.out]; kernel_rfl) ?_)
  refine (KR.out _).mono ?_
  rintro e w2 ⟨rfl, hb2⟩
  have hz2 : w1.heap.size < w2.heap.size := by have := hb2.size; simp at this; omega
  have F0n := Lib.hid ((hb2.block (w.heap.size) (by simp; omega)).trans F0.out)
  have F1n := Lib.hid ((hb2.block (w.heap.size + 1) (by simp; omega)).trans F1.out)
  have F2n := Lib.hid ((hb2.block (w.heap.size + 1 + 1) (by simp; omega)).trans F2.out)
  have FXn := Lib.hid ((hb2.block w1.heap.size (by simp)).trans FX.out)
  have BWn := Lib.hid (BW.out.trans (hb2.mono (by simp; omega)))
  clear F0 F1 F2 FX BW
  have F0 := F0n
  have F1 := F1n
  have F2 := F2n
  have FX := FXn
  have BW := BWn
  clear F0n F1n F2n FXn BWn
  clear hb2 KR
  have e0 := cell_of_row _ _ 0 _ _ _ FX.out
  have e1 := cell_of_row _ _ 1 _ _ _ FX.out
  have e2 := cell_of_row _ _ 2 _ _ _ FX.out
  have e3 := cell_of_row _ _ 3 _ _ _ FX.out
  have e4 := cell_of_row _ _ 4 _ _ _ FX.out
  simp only [List.getElem?_toArray, List.getElem?_cons_zero, List.getElem?_cons_succ] at e0 e1 e2 e3 e4
  have eM := (BW.out.cell (p := ⟨M, q, none⟩) hMlt).trans ((cell_of_row _ _ q _ _ _ HM.out).trans ((numsC_at m q hqm).trans (by rw [HQ2.out])))
  clear hqm
  go_wp2_with ((with_reducible show wpList _ _ _ (Oper.mk _ (Op.load 35 _) _ _ _ _ :: _) _ _); refine wpList_load_all rfl 35 _ rfl (w.heap.size) _ _ rfl F0.out Tryd.underlying35 rfl (by rw [qz.out]; kernel_rfl) ?_)
  refine (KX.out _).mono ?_
  rintro e w3 ⟨rfl, hb3⟩
  have hz3 : w1.heap.size < w3.heap.size := Nat.lt_of_lt_of_le hz2 hb3.size
  clear e0 e1 e2 e3 e4 eM
  have F0n := Lib.hid ((hb3.block (w.heap.size) (by omega)).trans F0.out)
  have F1n := Lib.hid ((hb3.block (w.heap.size + 1) (by omega)).trans F1.out)
  have F2n := Lib.hid ((hb3.block (w.heap.size + 1 + 1) (by omega)).trans F2.out)
  have FXn := Lib.hid ((hb3.block w1.heap.size (by omega)).trans FX.out)
  have BWn := Lib.hid (BW.out.trans (hb3.mono (by omega)))
  clear F0 F1 F2 FX BW
  have F0 := F0n
  have F1 := F1n
  have F2 := F2n
  have FX := FXn
  have BW := BWn
  clear F0n F1n F2n FXn BWn
  clear hb3 KX
  go_wp2_with (first | ((with_reducible show wpList _ _ _ (Oper.mk none (Op.store 40 _ _) _ _ _ _ :: _) _ _); refine wpList_store_all rfl rfl 40 _ _ rfl w3.heap.size _ ps rfl rfl (heap_alloc_new _ _) (by rw [ksz.out]; rfl) (by rw [ksz.out]; kernel_rfl) kone.out ?_; intro U3 hU; have FP := Lib.hid hU.at_; have F0n := Lib.hid ((hU.block _ (by omega)).trans ((Below.heap_alloc _ _ _ (by omega)).trans F0.out)); have F1n := Lib.hid ((hU.block _ (by omega)).trans ((Below.heap_alloc _ _ _ (by omega)).trans F1.out)); have F2n := Lib.hid ((hU.block _ (by omega)).trans ((Below.heap_alloc _ _ _ (by omega)).trans F2.out)); have BWn := Lib.hid ((BW.out.alloc (by omega) _).setC (by omega) hU); clear F0 F1 F2 BW; have F0 := F0n; have F1 := F1n; have F2 := F2n; have BW := BWn; clear F0n F1n F2n BWn; have hzU : w3.heap.size < U3.heap.size := (by rw [hU.size]; simp); clear hU; have m16 := (cell_of_row _ _ 16 _ _ _ FP.out).trans k16.out; have m17 := (cell_of_row _ _ 17 _ _ _ FP.out).trans k17.out.1; have m18 := (cell_of_row _ _ 18 _ _ _ FP.out).trans k17.out.2.1; have m19 := (cell_of_row _ _ 19 _ _ _ FP.out).trans k17.out.2.2) | ((with_reducible show wpList _ _ _ (Oper.mk none (Op.store 3 _ _) _ _ _ _ :: _) _ _); refine wpList_store_cell rfl rfl 3 _ _ rfl M ad (numsC m) (.int .i64 wd) rfl rfl ((BW.out.block M hMlt).trans HM.out) (by rw [numsC_size, hL.out]; exact hadL) (by kernel_rfl) rfl ?_; intro V3 hV; have TU := Lib.hid (Turn.set BW.out hV); have F1v := Lib.hid ((hV.block _ (by omega)).trans F1.out); have F2v := Lib.hid ((hV.block _ (by omega)).trans F2.out); have FPv := Lib.hid ((hV.block _ (by omega)).trans FP.out); clear hV))
  clear F0 F1 F2 BW FP m16 m17 m18 m19
  refine wp_region_held_drew (S := fun w_ => w_.heap[w3.heap.size]? = some (.cells ps 40 (0, 0))) (by kernel_rfl) FPv.out (fun hHeld => ?_)
  have TD := Lib.hid TU.out.drew
  have F1d := Lib.hid (show V3.drew.heap[w.heap.size + 1]? = _ from F1v.out)
  have F2d := Lib.hid (show V3.drew.heap[w.heap.size + 1 + 1]? = _ from F2v.out)
  have FPd := (show V3.drew.heap[w3.heap.size]? = some (.cells ps 40 (0, 0)) from FPv.out)
  clear TU F1v F2v FPv
  obtain ⟨D, hD⟩ : ∃ D, Hid (V3.drew = D) := ⟨_, Lib.hid rfl⟩
  rw [hD.out] at TD F1d F2d FPd ⊢
  clear hD
  refine wpAnyH_take (i := 0) (v := .pointer (some ⟨w3.heap.size, 0, none⟩)) rfl (by kernel_rfl) (by kernel_rfl) (by kernel_rfl) (fun _ _ _ h => h) (Or.inl ⟨by rfl, fun W _ => ?_⟩) FPd ?_
  · go_simp
  try simp only [Act.put, List.getElem_toArray, List.getElem_cons_zero, List.getElem_cons_succ, List.setIfInBounds_toArray, List.set_cons_zero, List.set_cons_succ]
  refine wpAnyH_take (i := 1) (v := .agg cl.toArray) rfl (by kernel_rfl) (by kernel_rfl) (by kernel_rfl) (fun _ _ _ h => h) (yieldsIf_load_mid (by rfl) 35 _ rfl w3.heap.size 0 rfl cl _ (fun W hW => range_of hW gcl.out) Tryd.underlying35 rfl (by rw [ncl.out]; kernel_rfl)) FPd ?_
  try simp only [Act.put, List.getElem_toArray, List.getElem_cons_zero, List.getElem_cons_succ, List.setIfInBounds_toArray, List.set_cons_zero, List.set_cons_succ]
  refine wpAnyH_take (i := 2) (v := .agg ps) rfl (by kernel_rfl) (by kernel_rfl) (by kernel_rfl) (fun _ _ _ h => h) (Or.inl ⟨by rfl, fun W hW => exec_load_all 40 _ rfl w3.heap.size ps _ rfl hW Tryd.underlying40 rfl (by rw [ksz.out]; kernel_rfl)⟩) FPd ?_
  try simp only [Act.put, List.getElem_toArray, List.getElem_cons_zero, List.getElem_cons_succ, List.setIfInBounds_toArray, List.set_cons_zero, List.set_cons_succ]
  refine wpAnyH_ready (rs := [3]) (by kernel_rfl) (by simp) (AllReadyH.cons (i := 3) rfl (fun K hK => ?_) AllReadyH.nil)
  rw [if_pos (by rfl)]
  refine wp_store_all 35 _ _ rfl (w.heap.size + 1) _ cl.toArray rfl rfl F1d.out (by rw [zcl.out]; rfl) (by rw [zcl.out]; kernel_rfl) ocl.out ?_
  intro E1 hE1
  refine hK.out _ _ ((hE1.block _ (by omega)).trans FPd) (fun hP1 => ?_)
  clear hK K
  try simp only [Act.put, List.getElem_toArray, List.getElem_cons_zero, List.getElem_cons_succ, List.setIfInBounds_toArray, List.set_cons_zero, List.set_cons_succ]
  refine wpAnyH_ready (rs := [4]) (by kernel_rfl) (by simp) (AllReadyH.cons (i := 4) rfl (fun K hK => ?_) AllReadyH.nil)
  rw [if_pos (by rfl)]
  refine wp_store_all 40 _ _ rfl (w.heap.size + 1 + 1) _ ps rfl rfl ((hE1.block _ (Nat.succ_ne_self _)).trans F2d.out) (by rw [ksz.out]; rfl) (by rw [ksz.out]; kernel_rfl) kone.out ?_
  intro E2 hE2
  refine hK.out _ _ ((hE2.block _ (by omega)).trans hP1) (fun hP2 => ?_)
  clear hK K
  try simp only [Act.put, List.getElem_toArray, List.getElem_cons_zero, List.getElem_cons_succ, List.setIfInBounds_toArray, List.set_cons_zero, List.set_cons_succ]
  refine wpAnyH_ready (rs := [5]) (by kernel_rfl) (by simp) (AllReadyH.cons (i := 5) rfl (fun K hK => ?_) AllReadyH.nil)
  go_simp
  refine hK.out _ _ hP2 (fun _ => ?_)
  clear hK K
  try simp only [Act.put, List.getElem_toArray, List.getElem_cons_zero, List.getElem_cons_succ, List.setIfInBounds_toArray, List.set_cons_zero, List.set_cons_succ]
  refine wpAnyH_done (by kernel_rfl) ?_ _
  go_wp2_with fail
  (try simp only [Exit.inBlock, Exit.then])
  have hld1 := ret_all (P := Tryd.prog) 35 (w.heap.size + 1) _ _ ((hE2.block _ (Nat.ne_of_lt (Nat.lt_succ_self _))).trans hE1.at_) Tryd.underlying35 rfl (by rw [zcl.out]; kernel_rfl)
  have hld2 := ret_all (P := Tryd.prog) 40 (w.heap.size + 1 + 1) _ _ hE2.at_ Tryd.underlying40 rfl (by rw [ksz.out]; kernel_rfl)
  refine bodyPost_ret (v := .tuple #[.agg cl.toArray, .agg ps, .int .i64 0]) (by simp [results, Tryd.results41, asAddr, hld1, hld2]) rfl ?_
  exact ⟨rfl, (TD.out.setC hMlt (Nat.le_add_right _ 1) hE1).setC hMlt (Nat.le_add_right _ 2) hE2⟩
end Go.Proofs.YtimiofmmhccmmaaDoor
