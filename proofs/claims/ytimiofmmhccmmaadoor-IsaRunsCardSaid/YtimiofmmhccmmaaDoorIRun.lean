/-
  What the program's Run returns: the plain run. Condition: slices that read as numbers, an entry of 64 bits.
-/
import Derived.Test.YtimiofmmhccmmaaDoorIBegin
namespace Go.Proofs.YtimiofmmhccmmaaDoor
open Go.RowKit

theorem mem0_fits {l : List Int} {k : Nat} (h : All64 l) : All64 (mem0 l k) := by
  refine all_set (all_append h ?_) _ ⟨by decide, by decide⟩
  intro j
  rw [List.getD_eq_getElem?_getD, List.getElem?_replicate]
  split <;> exact zero64
theorem cpuB_fits {k : Nat} {entry : Int} {l : List Int} (h : All64 l) (h4 : l.length ≤ 4) (hk : k ≤ 16384) (he : I64 entry) : (cpuB k entry l).Fits := by
  refine ⟨by simp [cpuB]; omega, ?_, he⟩
  refine all_set (?_ : All64 (0 :: l ++ List.replicate (15 - l.length) 0)) _ ⟨by omega, by omega⟩
  refine all_append (l := 0 :: l) (fun j => ?_) (fun j => ?_)
  · cases j with
    | zero => exact zero64
    | succ j => exact h j
  · rw [List.getD_eq_getElem?_getD, List.getElem?_replicate]
    split <;> exact zero64
theorem run_bad (A : Option Addr) (c : Nat) (l : List Int) (size entry : Int) (D : Option Addr) (d : Nat) (m : List Int) (steps : Int) (w : World) (hll : l.length ≤ 1000000) (hml : m.length ≤ maxLen) (h : size < l.length + 16 ∨ 16384 < size ∨ 4 < m.length ∨ steps < 0 ∨ 200000 < steps) :
    Calls Tryd.prog 24 #[.slice A l.length c, .int .i64 size, .int .i64 entry, .slice D m.length d, .int .i64 steps] w (RunOut w ⟨1, false, 0, []⟩) := by
  unfold maxLen at hml
  have BLK := Lib.hid (heap_alloc_new w (.cells #[.int .i64 0, .bool false, .int .i64 0, .slice none 0 0] 48))
  by_cases h1 : size < l.length + 16
  · clear h
    go_enter Tryd.func24, Tryd.ntmps24
    go_wp2_with ((with_reducible show wpList _ _ _ (Oper.mk none (Op.store 48 _ _) _ _ _ none :: _) _ _); refine wpList_store_all rfl rfl 48 _ _ rfl w.heap.size _ (#[.int .i64 1, .bool false, .int .i64 0, .slice none 0 0]) rfl rfl BLK.out rfl (by kernel_rfl) (by simp [Value.oneCell']) ?_; intro E hE)
    (try simp only [Exit.inBlock, Exit.then])
    have hld := ret_all (P := Tryd.prog) 48 w.heap.size _ _ hE.at_ Tryd.underlying48 rfl (by kernel_rfl)
    refine bodyPost_ret (v := .agg (#[.int .i64 1, .bool false, .int .i64 0, .slice none 0 0])) (by simp [results, Tryd.results24, asAddr, hld]) rfl ?_
    exact ⟨none, 0, rfl, nums_nil _, ((Below.refl w.heap.size w).alloc (Nat.le_refl _) _).setC (Nat.le_refl _) hE⟩
  by_cases h2 : 16384 < size
  · clear h
    go_enter Tryd.func24, Tryd.ntmps24
    go_wp2_with ((with_reducible show wpList _ _ _ (Oper.mk none (Op.store 48 _ _) _ _ _ none :: _) _ _); refine wpList_store_all rfl rfl 48 _ _ rfl w.heap.size _ (#[.int .i64 1, .bool false, .int .i64 0, .slice none 0 0]) rfl rfl BLK.out rfl (by kernel_rfl) (by simp [Value.oneCell']) ?_; intro E hE)
    (try simp only [Exit.inBlock, Exit.then])
    have hld := ret_all (P := Tryd.prog) 48 w.heap.size _ _ hE.at_ Tryd.underlying48 rfl (by kernel_rfl)
    refine bodyPost_ret (v := .agg (#[.int .i64 1, .bool false, .int .i64 0, .slice none 0 0])) (by simp [results, Tryd.results24, asAddr, hld]) rfl ?_
    exact ⟨none, 0, rfl, nums_nil _, ((Below.refl w.heap.size w).alloc (Nat.le_refl _) _).setC (Nat.le_refl _) hE⟩
  by_cases h3 : 4 < m.length
  · clear h
    have hd3 : decide ((4 : Int) < (m.length : Int)) = true := by simp; omega
    go_enter Tryd.func24, Tryd.ntmps24
    go_wp2_with ((with_reducible show wpList _ _ _ (Oper.mk none (Op.store 48 _ _) _ _ _ none :: _) _ _); refine wpList_store_all rfl rfl 48 _ _ rfl w.heap.size _ (#[.int .i64 1, .bool false, .int .i64 0, .slice none 0 0]) rfl rfl BLK.out rfl (by kernel_rfl) (by simp [Value.oneCell']) ?_; intro E hE)
    (try simp only [Exit.inBlock, Exit.then])
    have hld := ret_all (P := Tryd.prog) 48 w.heap.size _ _ hE.at_ Tryd.underlying48 rfl (by kernel_rfl)
    refine bodyPost_ret (v := .agg (#[.int .i64 1, .bool false, .int .i64 0, .slice none 0 0])) (by simp [results, Tryd.results24, asAddr, hld]) rfl ?_
    exact ⟨none, 0, rfl, nums_nil _, ((Below.refl w.heap.size w).alloc (Nat.le_refl _) _).setC (Nat.le_refl _) hE⟩
  by_cases h4 : steps < 0
  · clear h
    have hd3 : decide ((4 : Int) < (m.length : Int)) = false := by simp; omega
    go_enter Tryd.func24, Tryd.ntmps24
    go_wp2_with ((with_reducible show wpList _ _ _ (Oper.mk none (Op.store 48 _ _) _ _ _ none :: _) _ _); refine wpList_store_all rfl rfl 48 _ _ rfl w.heap.size _ (#[.int .i64 1, .bool false, .int .i64 0, .slice none 0 0]) rfl rfl BLK.out rfl (by kernel_rfl) (by simp [Value.oneCell']) ?_; intro E hE)
    (try simp only [Exit.inBlock, Exit.then])
    have hld := ret_all (P := Tryd.prog) 48 w.heap.size _ _ hE.at_ Tryd.underlying48 rfl (by kernel_rfl)
    refine bodyPost_ret (v := .agg (#[.int .i64 1, .bool false, .int .i64 0, .slice none 0 0])) (by simp [results, Tryd.results24, asAddr, hld]) rfl ?_
    exact ⟨none, 0, rfl, nums_nil _, ((Below.refl w.heap.size w).alloc (Nat.le_refl _) _).setC (Nat.le_refl _) hE⟩
  have h5 : 200000 < steps := by omega
  have hd3 : decide ((4 : Int) < (m.length : Int)) = false := by simp; omega
  clear h
  go_enter Tryd.func24, Tryd.ntmps24
  go_wp2_with ((with_reducible show wpList _ _ _ (Oper.mk none (Op.store 48 _ _) _ _ _ none :: _) _ _); refine wpList_store_all rfl rfl 48 _ _ rfl w.heap.size _ (#[.int .i64 1, .bool false, .int .i64 0, .slice none 0 0]) rfl rfl BLK.out rfl (by kernel_rfl) (by simp [Value.oneCell']) ?_; intro E hE)
  (try simp only [Exit.inBlock, Exit.then])
  have hld := ret_all (P := Tryd.prog) 48 w.heap.size _ _ hE.at_ Tryd.underlying48 rfl (by kernel_rfl)
  refine bodyPost_ret (v := .agg (#[.int .i64 1, .bool false, .int .i64 0, .slice none 0 0])) (by simp [results, Tryd.results24, asAddr, hld]) rfl ?_
  exact ⟨none, 0, rfl, nums_nil _, ((Below.refl w.heap.size w).alloc (Nat.le_refl _) _).setC (Nat.le_refl _) hE⟩
set_option maxRecDepth 100000 in
set_option maxHeartbeats 1000000 in
theorem run_src (A : Option Addr) (c : Nat) (l : List Int) (size entry : Int) (D : Option Addr) (d : Nat) (m : List Int) (steps : Int) (w : World) (hl : Srcs w A l) (hm : Srcs w D m) (he : I64 entry) (hll : l.length ≤ 1000000) :
    Calls Tryd.prog 24 #[.slice A l.length c, .int .i64 size, .int .i64 entry, .slice D m.length d, .int .i64 steps] w (RunOut w (runO l size entry m steps)) := by
  by_cases hbad : size < l.length + 16 ∨ 16384 < size ∨ 4 < m.length ∨ steps < 0 ∨ 200000 < steps
  · rw [show runO l size entry m steps = ⟨1, false, 0, []⟩ from if_pos hbad]
    exact run_bad A c l size entry D d m steps w hll hm.len hbad
  have hnb := hbad
  simp only [not_or] at hnb
  obtain ⟨b1, b2, b3, b4, b5⟩ := hnb
  obtain ⟨k, rfl⟩ : ∃ k : Nat, size = (k : Int) + 1 := ⟨(size - 1).toNat, by omega⟩
  obtain ⟨n, rfl⟩ : ∃ n : Nat, steps = n := ⟨steps.toNat, by omega⟩
  obtain ⟨R, hR⟩ : ∃ R, Hid (runO l ((k : Int) + 1) entry m n = R) := ⟨_, rfl⟩
  have hRP := Lib.hid (show runP n (mem0 l (k + 1)) (cpuB (k + 1) entry m) [] = R by
    rw [← hR.out, runO, if_neg hbad, Int.toNat_natCast, show ((k : Int) + 1).toNat = k + 1 by omega])
  rw [hR.out]
  have HL := Lib.hid hl
  have HD := Lib.hid hm
  have HE := Lib.hid he
  have k1 : l.length + 15 ≤ k := by omega
  have k2 : k < 16384 := by omega
  have k3 : m.length ≤ 4 := by omega
  have k4 : n ≤ 200000 := by omega
  have hd3 : decide ((4 : Int) < (m.length : Int)) = false := by simp; omega
  have hd1 : (l.length : Int) + 16 ≤ (k : Int) + 1 := by omega
  have BLK := Lib.hid (heap_alloc_new w (.cells #[.int .i64 0, .bool false, .int .i64 0, .slice none 0 0] 48))
  have B0 := Lib.hid ((Below.refl w.heap.size w).alloc (Nat.le_refl _) (.cells #[.int .i64 0, .bool false, .int .i64 0, .slice none 0 0] 48))
  have s0 : (w.alloc (.cells #[.int .i64 0, .bool false, .int .i64 0, .slice none 0 0] 48)).heap.size = w.heap.size + 1 := by simp
  clear hbad b1 b2 b3 b4 b5 hR hl hm he
  obtain ⟨W0, hW0⟩ : ∃ V, Hid (w.alloc (.cells #[.int .i64 0, .bool false, .int .i64 0, .slice none 0 0] 48) = V) := ⟨_, Lib.hid rfl⟩
  have KB := Lib.hid (show Calls Tryd.prog 38 #[.slice A l.length c, .int .i64 ((k : Int) + 1), .int .i64 entry, .slice D m.length d] (w.alloc (.cells #[.int .i64 0, .bool false, .int .i64 0, .slice none 0 0] 48)) (Begun k entry l m (w.alloc (.cells #[.int .i64 0, .bool false, .int .i64 0, .slice none 0 0] 48))) from begin_any A c l k entry D d m _ (HL.out.below B0.out) (HD.out.below B0.out) k1 k2 k3)
  rw [hW0.out] at BLK B0 s0 KB
  have S0 := Lib.hid s0
  clear s0
  go_enter Tryd.func24, Tryd.ntmps24
  go_wp2_with fail
  rw [hW0.out]
  refine KB.out.mono ?_
  intro e w1 h
  unfold Begun at h
  obtain ⟨rfl, hM1, hb1⟩ := h
  have hsz : W0.heap.size ≤ w1.heap.size := hb1.size
  obtain ⟨K, hK⟩ : ∃ y, Hid (W0.heap.size + 1 = y) := ⟨_, rfl⟩
  obtain ⟨M, hMM⟩ : ∃ y, Hid (W0.heap.size = y) := ⟨_, rfl⟩
  rw [hK.out, hMM.out] at hM1
  rw [hK.out]
  have HG := Lib.hid (show Goes R w1.heap.size K M (mem0 l (k + 1)).length n w1 from ⟨_, _, _, _, _, hM1, cpuB_fits HD.out.fits k3 (by omega) HE.out, mem0_fits HL.out.fits, all_nil, rfl, by simp; omega, hRP.out⟩)
  have BLK1 := Lib.hid ((hb1.block w.heap.size (by rw [S0.out]; omega)).trans BLK.out)
  have HB1 := Lib.hid (B0.out.trans (hb1.mono (by rw [S0.out]; omega)))
  have nlt : w.heap.size < w1.heap.size := Nat.lt_of_lt_of_le (by rw [S0.out]; omega) hsz
  have nK : K ≠ w.heap.size := by rw [← hK.out, S0.out]; omega
  have nM : M ≠ w.heap.size := by rw [← hMM.out, S0.out]; omega
  have wK : w.heap.size < K := by rw [← hK.out, S0.out]; omega
  have wM : w.heap.size < M := by rw [← hMM.out, S0.out]; omega
  clear hM1 hb1 hK hMM hsz BLK B0 KB hRP HL HD HE hW0 S0
  go_wp2_with fail
  refine (loop_any R w1.heap.size K M _ n w1 HG.out).mono ?_
  intro e w2 h
  unfold RanTo at h
  obtain ⟨rfl, ⟨c', m', A', d', hM2, hc', _, h0, h1⟩, h64, hoth⟩ := h
  have BLK := Lib.hid ((hoth.block w.heap.size nlt (Ne.symm nK) (Ne.symm nM)).trans BLK1.out)
  have HB2 := Lib.hid (show Below w.heap.size w w2 from HB1.out.trans ⟨hoth.os, hoth.tape, hoth.output, hoth.size, fun b hb => hoth.block b (by omega) (by omega) (by omega)⟩)
  have c18 := (cell_of_row _ _ 18 _ _ _ hM2.mach).trans (machC_at hc'.len).2.2
  have OWN := Lib.hid hM2.own
  have N64 := Lib.hid h64
  clear HG BLK1 HB1 h64 hoth
  by_cases hz : R.err = 0
  · have hR := h0 hz
    obtain ⟨x13, hx13⟩ : ∃ y, Hid (c'.r.getD 13 0 = y) := ⟨_, rfl⟩
    obtain ⟨x0, hx0⟩ : ∃ y, Hid (c'.r.getD 0 0 = y) := ⟨_, rfl⟩
    have r1 := Lib.hid (show R.thrown = (x13 != 0) by
      rw [hR, ← hx13.out]
      show (!decide (c'.r.getD 13 0 = 0)) = _
      simp only [bne, BEq.beq])
    have r2 := Lib.hid (show R.value = x0 by rw [hR, ← hx0.out]; rfl)
    have c13 := (cell_of_row _ _ 13 _ _ _ hM2.mach).trans (machC_reg hc'.len 13 (by omega))
    have c0 := (cell_of_row _ _ 0 _ _ _ hM2.mach).trans (machC_reg hc'.len 0 (by omega))
    rw [hx13.out] at c13
    rw [hx0.out] at c0
    have HZ := Lib.hid hz
    clear h0 h1 hR hx13 hx0 hM2 hc' hz
    rw [HZ.out]
    go_wp2_with fail
    go_still_tail 18, (by kernel_rfl)
    change wpList _ _ _ _ _ w2.drew
    have BLKn := Lib.hid (show w2.drew.heap[w.heap.size]? = _ from BLK.out)
    have HBn := Lib.hid HB2.out.drew
    have OWNn := Lib.hid (own_drew OWN.out)
    clear BLK HB2 OWN c0 c13 c18
    obtain ⟨V, hV⟩ : ∃ V, Hid (w2.drew = V) := ⟨_, Lib.hid rfl⟩
    rw [hV.out] at BLKn HBn OWNn ⊢
    have BLK := BLKn
    clear BLKn hV
    go_wp2_with ((with_reducible show wpList _ _ _ (Oper.mk none (Op.store 48 _ _) _ _ _ none :: _) _ _); refine wpList_store_all rfl rfl 48 _ _ rfl w.heap.size _ (#[.int .i64 0, .bool (x13 != 0), .int .i64 x0, .slice A' R.output.length d']) rfl rfl BLK.out rfl (by kernel_rfl) (by simp [Value.oneCell']) ?_; intro E hE)
    (try simp only [Exit.inBlock, Exit.then])
    have hld := ret_all (P := Tryd.prog) 48 w.heap.size _ _ hE.at_ Tryd.underlying48 rfl (by kernel_rfl)
    refine bodyPost_ret (v := .agg (#[.int .i64 0, .bool (x13 != 0), .int .i64 x0, .slice A' R.output.length d'])) (by simp [results, Tryd.results24, asAddr, hld]) rfl ?_
    exact ⟨A', d', by rw [r1.out, r2.out, HZ.out], nums_of_own N64.out (own_set OWNn.out nlt hE), HBn.out.setC (Nat.le_refl _) hE⟩
  · obtain ⟨r1, r2⟩ := h1 hz
    have R1 := Lib.hid r1
    have R2 := Lib.hid r2
    have q1 : (R.err == 0) = false := by simpa using hz
    have q2 : (R.err != 0) = true := by simpa using hz
    clear h0 h1 hM2 hc' hz r1 r2
    go_wp2_with ((with_reducible show wpList _ _ _ (Oper.mk none (Op.store 48 _ _) _ _ _ none :: _) _ _); refine wpList_store_all rfl rfl 48 _ _ rfl w.heap.size _ (#[.int .i64 R.err, .bool false, .int .i64 0, .slice A' R.output.length d']) rfl rfl BLK.out rfl (by kernel_rfl) (by simp [Value.oneCell']) ?_; intro E hE)
    (try simp only [Exit.inBlock, Exit.then])
    have hld := ret_all (P := Tryd.prog) 48 w.heap.size _ _ hE.at_ Tryd.underlying48 rfl (by kernel_rfl)
    refine bodyPost_ret (v := .agg (#[.int .i64 R.err, .bool false, .int .i64 0, .slice A' R.output.length d'])) (by simp [results, Tryd.results24, asAddr, hld]) rfl ?_
    exact ⟨A', d', by rw [R1.out, R2.out], nums_of_own N64.out (own_set OWN.out nlt hE), HB2.out.setC (Nat.le_refl _) hE⟩
theorem run_any (A : Option Addr) (c : Nat) (l : List Int) (size entry : Int) (D : Option Addr) (d : Nat) (m : List Int) (steps : Int) (w : World) (hl : Nums w A c l) (hm : Nums w D d m) (he : I64 entry) (hll : l.length ≤ 1000000) :
    Calls Tryd.prog 24 #[.slice A l.length c, .int .i64 size, .int .i64 entry, .slice D m.length d, .int .i64 steps] w (RunOut w (runO l size entry m steps)) := run_src A c l size entry D d m steps w hl.srcs hm.srcs he hll
end Go.Proofs.YtimiofmmhccmmaaDoor
