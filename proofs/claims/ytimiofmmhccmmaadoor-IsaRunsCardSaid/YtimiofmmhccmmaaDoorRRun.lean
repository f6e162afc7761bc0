/-
  What the specification's Run returns: the plain run. Condition: slices that read as numbers, an entry of 64 bits.
-/
import Derived.Test.YtimiofmmhccmmaaDoorRBegin
import Derived.Test.YtimiofmmhccmmaaDoorIRun
import Derived.Test.YtimiofmmhccmmaaDoorStpAll
namespace Go.Proofs.YtimiofmmhccmmaaDoor
open Go.RowKit

theorem own_turn {w U : World} {base M size n : Nat} {m : List Int} {e : TypeId} {v : Value} {xs : List Value} (h : w.ownsRow base e size v n xs) (hM : M < base) (hU : Turn M m w U) : U.ownsRow base e size v n xs := by
  refine ⟨h.1, ?_⟩
  rcases h.2 with hn | ⟨g, cap, cur, rfl, hb, hgg, rest⟩
  · exact .inl hn
  · exact .inr ⟨g, cap, cur, rfl, hb, (hU.block g (Array.getElem?_eq_some_iff.1 hgg).1 (by omega)).trans hgg, rest⟩
theorem Turn.belowT {w w' : World} {n M : Nat} {m : List Int} (hn : n ≤ M) (hs : n ≤ w.heap.size) (h : Turn M m w w') : Below n w w' :=
  ⟨h.os, h.tape, h.output, h.size, fun b hb => h.block b (by omega) (by omega)⟩
/-- An outcome's cells while the run goes on. -/
def outC (e : Int) (t : Bool) (v : Int) (o : Value) : Array Value := #[.int .i64 e, .bool t, .int .i64 v, o]
/-- The specification's run in memory: the result's block, the memory, the processor at z, the outcome at z + 1, the output a row from z + 2 on. -/
structure Lay (w0 : World) (z : Nat) (c : Cpu) (m : List Int) (A : Option Addr) (d : Nat) (out : List Int) (w : World) : Prop where
  cpu : w.heap[z]? = some (.cells (cpuC c) 35 (0, 0))
  mem : w.heap[w0.heap.size + 1 + 1]? = some (.cells (numsC m) 3 (0, 0))
  outc : w.heap[z + 1]? = some (.cells (outC 0 false 0 (.slice A out.length d)) 48 (0, 0))
  res : w.heap[w0.heap.size]? = some (.cells #[.int .i64 0, .bool false, .int .i64 0, .slice none 0 0] 48 (0, 0))
  own : w.ownsRow (z + 2) 3 1 (.slice A out.length d) out.length (out.map (Value.int .i64))
  below : Below w0.heap.size w0 w
  size : z + 2 ≤ w.heap.size
  far : w0.heap.size + 3 ≤ z
section
variable {w0 w w' : World} {z d : Nat} {c : Cpu} {m out : List Int} {A : Option Addr}
theorem Lay.under (h : Lay w0 z c m A d out w) (hb : Below w.heap.size w w') : Lay w0 z c m A d out w' := by
  have hs := h.size
  have hf := h.far
  exact ⟨(hb.block _ (by omega)).trans h.cpu, (hb.block _ (by omega)).trans h.mem, (hb.block _ (by omega)).trans h.outc, (hb.block _ (by omega)).trans h.res, own_below h.own hb, h.below.trans (hb.mono (by omega)), Nat.le_trans hs hb.size, hf⟩
theorem Lay.turn {m2 : List Int} (h : Lay w0 z c m A d out w) (hb : Turn (w0.heap.size + 1 + 1) m2 w w') : Lay w0 z c m2 A d out w' := by
  have hs := h.size
  have hf := h.far
  exact ⟨(hb.block _ (by omega) (by omega)).trans h.cpu, hb.at_, (hb.block _ (by omega) (by omega)).trans h.outc, (hb.block _ (by omega) (by omega)).trans h.res, own_turn h.own (by omega) hb, h.below.trans (hb.belowT (by omega) (by omega)), Nat.le_trans hs hb.size, hf⟩
theorem Lay.setCpu {x : Cpu} (h : Lay w0 z c m A d out w) (hb : SetC z (cpuC x) 35 w w') : Lay w0 z x m A d out w' := by
  have hs := h.size
  have hf := h.far
  exact ⟨hb.at_, (hb.block _ (by omega)).trans h.mem, (hb.block _ (by omega)).trans h.outc, (hb.block _ (by omega)).trans h.res, own_set h.own (by omega) hb, h.below.setC (by omega) hb, by rw [hb.size]; exact hs, hf⟩
/-- A number is appended to the output, and the slice stored. -/
theorem Lay.push {w5 : World} {A3 : Option Addr} {d3 : Nat} {pv : Int} (h : Lay w0 z c m A d out w) (hg : w.grownBy w5 (Value.slice A out.length d).ownBlock) (ho : w5.ownsRow (z + 2) 3 1 (.slice A3 (out ++ [pv]).length d3) (out ++ [pv]).length ((out ++ [pv]).map (Value.int .i64)))
    (hb : SetC (z + 1) (outC 0 false 0 (.slice A3 (out ++ [pv]).length d3)) 48 w5 w') : Lay w0 z c m A3 d3 (out ++ [pv]) w' := by
  have hs := h.size
  have hf := h.far
  have low : ∀ k, (Value.slice A out.length d).ownBlock = some k → z + 2 ≤ k := fun k hk => (h.own.lt k hk).1
  have ne : ∀ b, b < z + 2 → some b ≠ (Value.slice A out.length d).ownBlock := fun b hb e => by have := low b e.symm; omega
  exact ⟨(hb.block _ (by omega)).trans ((hg.block _ (by omega) (ne _ (by omega))).trans h.cpu), (hb.block _ (by omega)).trans ((hg.block _ (by omega) (ne _ (by omega))).trans h.mem), hb.at_, (hb.block _ (by omega)).trans ((hg.block _ (by omega) (ne _ (by omega))).trans h.res), own_set ho (by omega) hb,
    (h.below.grown hg (by omega) (fun k hk => by have := low k hk; omega)).setC (by omega) hb, by rw [hb.size]; exact Nat.le_trans hs hg.size, hf⟩
end
/-- A run that may go on for so many instructions. -/
structure At (R : Outc) (w0 : World) (z L : Nat) (n : Nat) (c : Cpu) (m : List Int) (A : Option Addr) (d : Nat) (out : List Int) (w : World) : Prop where
  lay : Lay w0 z c m A d out w
  fits : c.Fits
  mem64 : All64 m
  out64 : All64 out
  len : m.length = L
  more : out.length + n ≤ 200000
  runs : runP n m c out = R
def Runs (R : Outc) (w0 : World) (z L : Nat) (n : Nat) (w : World) : Prop := ∃ c m A d out, At R w0 z L n c m A d out w
theorem refRun_bad (A : Option Addr) (c : Nat) (l : List Int) (size entry : Int) (D : Option Addr) (d : Nat) (m : List Int) (steps : Int) (w : World) (hll : l.length ≤ 1000000) (hml : m.length ≤ maxLen) (h : size < l.length + 16 ∨ 16384 < size ∨ 4 < m.length ∨ steps < 0 ∨ 200000 < steps) :
    Calls Tryd.prog 25 #[.slice A l.length c, .int .i64 size, .int .i64 entry, .slice D m.length d, .int .i64 steps] w (RunOut w ⟨1, false, 0, []⟩) := by
  unfold maxLen at hml
  have BLK := Lib.hid (heap_alloc_new w (.cells #[.int .i64 0, .bool false, .int .i64 0, .slice none 0 0] 48))
  by_cases h1 : size < l.length + 16
  · clear h
    go_enter Tryd.func25, Tryd.ntmps25
    go_wp2_with ((with_reducible show wpList _ _ _ (Oper.mk none (Op.store 48 _ _) _ _ _ none :: _) _ _); refine wpList_store_all rfl rfl 48 _ _ rfl w.heap.size _ (#[.int .i64 1, .bool false, .int .i64 0, .slice none 0 0]) rfl rfl BLK.out rfl (by kernel_rfl) (by simp [Value.oneCell']) ?_; intro E hE)
    (try simp only [Exit.inBlock, Exit.then])
    have hld := ret_all (P := Tryd.prog) 48 w.heap.size _ _ hE.at_ Tryd.underlying48 rfl (by kernel_rfl)
    refine bodyPost_ret (v := .agg (#[.int .i64 1, .bool false, .int .i64 0, .slice none 0 0])) (by simp [results, Tryd.results25, asAddr, hld]) rfl ?_
    exact ⟨none, 0, rfl, nums_nil _, ((Below.refl w.heap.size w).alloc (Nat.le_refl _) _).setC (Nat.le_refl _) hE⟩
  by_cases h2 : 16384 < size
  · clear h
    go_enter Tryd.func25, Tryd.ntmps25
    go_wp2_with ((with_reducible show wpList _ _ _ (Oper.mk none (Op.store 48 _ _) _ _ _ none :: _) _ _); refine wpList_store_all rfl rfl 48 _ _ rfl w.heap.size _ (#[.int .i64 1, .bool false, .int .i64 0, .slice none 0 0]) rfl rfl BLK.out rfl (by kernel_rfl) (by simp [Value.oneCell']) ?_; intro E hE)
    (try simp only [Exit.inBlock, Exit.then])
    have hld := ret_all (P := Tryd.prog) 48 w.heap.size _ _ hE.at_ Tryd.underlying48 rfl (by kernel_rfl)
    refine bodyPost_ret (v := .agg (#[.int .i64 1, .bool false, .int .i64 0, .slice none 0 0])) (by simp [results, Tryd.results25, asAddr, hld]) rfl ?_
    exact ⟨none, 0, rfl, nums_nil _, ((Below.refl w.heap.size w).alloc (Nat.le_refl _) _).setC (Nat.le_refl _) hE⟩
  by_cases h3 : 4 < m.length
  · clear h
    have hd3 : decide ((4 : Int) < (m.length : Int)) = true := by simp; omega
    go_enter Tryd.func25, Tryd.ntmps25
    go_wp2_with ((with_reducible show wpList _ _ _ (Oper.mk none (Op.store 48 _ _) _ _ _ none :: _) _ _); refine wpList_store_all rfl rfl 48 _ _ rfl w.heap.size _ (#[.int .i64 1, .bool false, .int .i64 0, .slice none 0 0]) rfl rfl BLK.out rfl (by kernel_rfl) (by simp [Value.oneCell']) ?_; intro E hE)
    (try simp only [Exit.inBlock, Exit.then])
    have hld := ret_all (P := Tryd.prog) 48 w.heap.size _ _ hE.at_ Tryd.underlying48 rfl (by kernel_rfl)
    refine bodyPost_ret (v := .agg (#[.int .i64 1, .bool false, .int .i64 0, .slice none 0 0])) (by simp [results, Tryd.results25, asAddr, hld]) rfl ?_
    exact ⟨none, 0, rfl, nums_nil _, ((Below.refl w.heap.size w).alloc (Nat.le_refl _) _).setC (Nat.le_refl _) hE⟩
  by_cases h4 : steps < 0
  · clear h
    have hd3 : decide ((4 : Int) < (m.length : Int)) = false := by simp; omega
    go_enter Tryd.func25, Tryd.ntmps25
    go_wp2_with ((with_reducible show wpList _ _ _ (Oper.mk none (Op.store 48 _ _) _ _ _ none :: _) _ _); refine wpList_store_all rfl rfl 48 _ _ rfl w.heap.size _ (#[.int .i64 1, .bool false, .int .i64 0, .slice none 0 0]) rfl rfl BLK.out rfl (by kernel_rfl) (by simp [Value.oneCell']) ?_; intro E hE)
    (try simp only [Exit.inBlock, Exit.then])
    have hld := ret_all (P := Tryd.prog) 48 w.heap.size _ _ hE.at_ Tryd.underlying48 rfl (by kernel_rfl)
    refine bodyPost_ret (v := .agg (#[.int .i64 1, .bool false, .int .i64 0, .slice none 0 0])) (by simp [results, Tryd.results25, asAddr, hld]) rfl ?_
    exact ⟨none, 0, rfl, nums_nil _, ((Below.refl w.heap.size w).alloc (Nat.le_refl _) _).setC (Nat.le_refl _) hE⟩
  have h5 : 200000 < steps := by omega
  have hd3 : decide ((4 : Int) < (m.length : Int)) = false := by simp; omega
  clear h
  go_enter Tryd.func25, Tryd.ntmps25
  go_wp2_with ((with_reducible show wpList _ _ _ (Oper.mk none (Op.store 48 _ _) _ _ _ none :: _) _ _); refine wpList_store_all rfl rfl 48 _ _ rfl w.heap.size _ (#[.int .i64 1, .bool false, .int .i64 0, .slice none 0 0]) rfl rfl BLK.out rfl (by kernel_rfl) (by simp [Value.oneCell']) ?_; intro E hE)
  (try simp only [Exit.inBlock, Exit.then])
  have hld := ret_all (P := Tryd.prog) 48 w.heap.size _ _ hE.at_ Tryd.underlying48 rfl (by kernel_rfl)
  refine bodyPost_ret (v := .agg (#[.int .i64 1, .bool false, .int .i64 0, .slice none 0 0])) (by simp [results, Tryd.results25, asAddr, hld]) rfl ?_
  exact ⟨none, 0, rfl, nums_nil _, ((Below.refl w.heap.size w).alloc (Nat.le_refl _) _).setC (Nat.le_refl _) hE⟩
set_option maxRecDepth 100000 in
set_option maxHeartbeats 2000000 in
theorem refRun_src (A : Option Addr) (c : Nat) (l : List Int) (size entry : Int) (D : Option Addr) (d : Nat) (m : List Int) (steps : Int) (w : World) (hl : Srcs w A l) (hm : Srcs w D m) (he : I64 entry) (hll : l.length ≤ 1000000) :
    Calls Tryd.prog 25 #[.slice A l.length c, .int .i64 size, .int .i64 entry, .slice D m.length d, .int .i64 steps] w (RunOut w (runO l size entry m steps)) := by
  by_cases hbad : size < l.length + 16 ∨ 16384 < size ∨ 4 < m.length ∨ steps < 0 ∨ 200000 < steps
  · rw [show runO l size entry m steps = ⟨1, false, 0, []⟩ from if_pos hbad]
    exact refRun_bad A c l size entry D d m steps w hll hm.len hbad
  have hnb := hbad
  simp only [not_or] at hnb
  obtain ⟨b1, b2, b3, b4, b5⟩ := hnb
  obtain ⟨k, rfl⟩ : ∃ k : Nat, size = (k : Int) + 1 := ⟨(size - 1).toNat, by omega⟩
  obtain ⟨N, rfl⟩ : ∃ n : Nat, steps = n := ⟨steps.toNat, by omega⟩
  obtain ⟨R, hR⟩ : ∃ R, Hid (runO l ((k : Int) + 1) entry m N = R) := ⟨_, rfl⟩
  have hRP := Lib.hid (show runP N (mem0 l (k + 1)) (cpuB (k + 1) entry m) [] = R by
    rw [← hR.out, runO, if_neg hbad, Int.toNat_natCast, show ((k : Int) + 1).toNat = k + 1 by omega])
  rw [hR.out]
  have HL := Lib.hid hl
  have HD := Lib.hid hm
  have HE := Lib.hid he
  have k1 : l.length + 15 ≤ k := by omega
  have k2 : k < 16384 := by omega
  have k3 : m.length ≤ 4 := by omega
  have k4 : N ≤ 200000 := by omega
  have hd3 : decide ((4 : Int) < (m.length : Int)) = false := by simp; omega
  have hd1 : (l.length : Int) + 16 ≤ (k : Int) + 1 := by omega
  have BLK := Lib.hid (heap_alloc_new w (.cells #[.int .i64 0, .bool false, .int .i64 0, .slice none 0 0] 48))
  have B0 := Lib.hid ((Below.refl w.heap.size w).alloc (Nat.le_refl _) (.cells #[.int .i64 0, .bool false, .int .i64 0, .slice none 0 0] 48))
  have s0 : (w.alloc (.cells #[.int .i64 0, .bool false, .int .i64 0, .slice none 0 0] 48)).heap.size = w.heap.size + 1 := by simp
  have hml := Lib.hid (show (mem0 l (k + 1)).length = k + 1 by simp [mem0]; omega)
  clear hbad b1 b2 b3 b4 b5 hR hl hm he
  obtain ⟨W0, hW0⟩ : ∃ V, Hid (w.alloc (.cells #[.int .i64 0, .bool false, .int .i64 0, .slice none 0 0] 48) = V) := ⟨_, Lib.hid rfl⟩
  have KB := Lib.hid (show Calls Tryd.prog 40 #[.slice A l.length c, .int .i64 ((k : Int) + 1), .int .i64 entry, .slice D m.length d] (w.alloc (.cells #[.int .i64 0, .bool false, .int .i64 0, .slice none 0 0] 48)) (RefBegun k entry l m (w.alloc (.cells #[.int .i64 0, .bool false, .int .i64 0, .slice none 0 0] 48))) from refBegin_any A c l k entry D d m _ (HL.out.below B0.out) (HD.out.below B0.out) k1 k2 k3)
  rw [hW0.out] at BLK B0 s0 KB
  have S0 := Lib.hid s0
  clear s0
  have cf := Lib.hid (show (cpuB (k + 1) entry m).Fits from cpuB_fits HD.out.fits k3 (by omega) HE.out)
  go_enter Tryd.func25, Tryd.ntmps25
  go_wp2_with fail
  rw [hW0.out]
  refine KB.out.mono ?_
  intro e w1 h
  unfold RefBegun at h
  obtain ⟨rfl, hM1, hb1⟩ := h
  rw [S0.out] at hM1 ⊢
  have zs : w.heap.size + 3 ≤ w1.heap.size := by have := (Array.getElem?_eq_some_iff.1 hM1).1; omega
  have HM1 := Lib.hid hM1
  have HR1 := Lib.hid ((hb1.block w.heap.size (by rw [S0.out]; omega)).trans BLK.out)
  have HB1 := Lib.hid (B0.out.trans (hb1.mono (by rw [S0.out]; omega)))
  clear hM1 hb1 BLK B0 KB hW0 S0
  go_wp2_with ((with_reducible show wpList _ _ _ (Oper.mk none (Op.store 35 _ _) _ _ _ none :: _) _ _); refine wpList_store_all rfl rfl 35 _ _ rfl w1.heap.size _ (cpuC (cpuB (k + 1) entry m)) rfl rfl (heap_alloc_new _ _) (by rw [cpuC_size cf.out.len]; rfl) (by rw [cpuC_size cf.out.len]; kernel_rfl) (cpuC_one _) ?_; intro U1 hU)
  have q1 : U1.heap.size = w1.heap.size + 1 := by rw [hU.size]; simp
  have AT := Lib.hid (show At R w w1.heap.size (k + 1) N (cpuB (k + 1) entry m) (mem0 l (k + 1)) none 0 [] (U1.alloc (.cells #[.int .i64 0, .bool false, .int .i64 0, .slice none 0 0] 48)) from
    ⟨⟨(Below.heap_alloc U1 _ _ (by omega)).trans hU.at_, (Below.heap_alloc U1 _ _ (by omega)).trans ((hU.block _ (by omega)).trans ((Below.heap_alloc w1 _ _ (by omega)).trans HM1.out)), by rw [← q1]; exact heap_alloc_new U1 _, (Below.heap_alloc U1 _ _ (by omega)).trans ((hU.block _ (by omega)).trans ((Below.heap_alloc w1 _ _ (by omega)).trans HR1.out)), World.ownsRow_nil _ _ _ _, ((HB1.out.alloc (by omega) _).setC (by omega) hU).alloc (by omega) _, by simp; omega, zs⟩, cf.out, mem0_fits HL.out.fits, all_nil, hml.out, by simp; omega, hRP.out⟩)
  have Q1 := Lib.hid q1
  clear hU HM1 HR1 HB1 q1 hRP HL HD HE cf hml
  rw [Q1.out]
  obtain ⟨z, hz⟩ : ∃ y, Hid (w1.heap.size = y) := ⟨_, rfl⟩
  rw [hz.out] at AT zs ⊢
  obtain ⟨W2, hW2⟩ : ∃ V, Hid (U1.alloc (.cells #[.int .i64 0, .bool false, .int .i64 0, .slice none 0 0] 48) = V) := ⟨_, Lib.hid rfl⟩
  rw [hW2.out] at AT ⊢
  clear hz hW2 Q1 hd1 hd3 k1 k3 hll
  obtain ⟨i0, hi, hz0, hz1, hz2⟩ := info_parts int_info
  go_loopw [14] (fun s wr => ∃ j : Nat, j ≤ N ∧ s = .int .i64 j ∧ Runs R w z (k + 1) (N - j) wr) (fun s _ => N - (intOf s).toNat)
  case atStart => exact ⟨0, by omega, rfl, _, _, _, _, _, AT.out⟩
  case round =>
    obtain ⟨j, hj, rfl, c', m', A', d', out, hat⟩ := hrel
    have L0 := Lib.hid hat.lay
    have F0 := Lib.hid hat.fits
    have M64 := Lib.hid hat.mem64
    have O64 := Lib.hid hat.out64
    have LEN := Lib.hid hat.len
    have more := hat.more
    have RUN := Lib.hid hat.runs
    clear hat AT
    have c16 := (cell_of_row _ _ 16 _ _ _ L0.out.cpu).trans (cpuC_pc F0.out.len)
    have ncs := Lib.hid (cpuC_size F0.out.len)
    obtain ⟨pc, hpc⟩ : ∃ y, Hid (c'.pc = y) := ⟨_, rfl⟩
    rw [hpc.out] at c16
    by_cases hx : pc = -1
    · have hx' : (pc != -1) = false := by simpa using hx
      have HE := Lib.hid (RUN.out.symm.trans (runP_end (n := N - j) (mem := m') (out := out) (hpc.out.trans hx)))
      clear hx hpc RUN LEN more M64
      obtain ⟨x13, hx13⟩ : ∃ y, Hid (c'.r.getD 13 0 = y) := ⟨_, rfl⟩
      obtain ⟨x0, hx0⟩ : ∃ y, Hid (c'.r.getD 0 0 = y) := ⟨_, rfl⟩
      have c13 := (cell_of_row _ _ 13 _ _ _ L0.out.cpu).trans (cpuC_reg F0.out.len (show 13 < 16 by omega))
      have c0 := (cell_of_row _ _ 0 _ _ _ L0.out.cpu).trans (cpuC_reg F0.out.len (show 0 < 16 by omega))
      rw [hx13.out] at c13
      rw [hx0.out] at c0
      have hne : (z : Nat) ≠ z + 1 := by omega
      have o1 : wr.cell? ⟨z + 1, 1, none⟩ = some (.bool false) := cell_of_row _ _ 1 _ _ _ L0.out.outc
      have o2 : wr.cell? ⟨z + 1, 2, none⟩ = some (.int .i64 0) := cell_of_row _ _ 2 _ _ _ L0.out.outc
      have f1 := frozen_row L0.out.outc 1
      have f2 := frozen_row L0.out.outc 2
      go_wp2_with fail
      go_region
      clear c13 c0 o1 o2 f1 f2 c16
      have S1 := Lib.hid (setC_cell (o := 2) (.int .i64 x0) L0.out.outc)
      have S2 := Lib.hid (setC_cell (o := 1) (.bool (x13 != 0)) S1.out.at_)
      have HOn := Lib.hid (show ((wr.setCell ⟨z + 1, 2, none⟩ (.int .i64 x0)).setCell ⟨z + 1, 1, none⟩ (.bool (x13 != 0))).drew.heap[z + 1]? = some (.cells (outC 0 (x13 != 0) x0 (.slice A' out.length d')) 48 (0, 0)) from S2.out.at_)
      have HRn := Lib.hid (show ((wr.setCell ⟨z + 1, 2, none⟩ (.int .i64 x0)).setCell ⟨z + 1, 1, none⟩ (.bool (x13 != 0))).drew.heap[w.heap.size]? = _ from (S2.out.block _ (by omega)).trans ((S1.out.block _ (by omega)).trans L0.out.res))
      have OWn := Lib.hid (own_drew (own_set (own_set L0.out.own (by omega) S1.out) (by omega) S2.out))
      have BWn := Lib.hid ((L0.out.below.setC (by omega) S1.out).setC (by omega) S2.out).drew
      clear S1 S2 L0
      obtain ⟨V, hV⟩ : ∃ V, Hid (((wr.setCell ⟨z + 1, 2, none⟩ (.int .i64 x0)).setCell ⟨z + 1, 1, none⟩ (.bool (x13 != 0))).drew = V) := ⟨_, Lib.hid rfl⟩
      rw [hV.out] at HOn HRn OWn BWn ⊢
      clear hV
      go_wp2_with (first | ((with_reducible show wpList _ _ _ (Oper.mk _ (Op.load 48 _) _ _ _ none :: _) _ _); refine wpList_load_all rfl 48 _ rfl (z + 1) (outC 0 (x13 != 0) x0 (.slice A' out.length d')) _ rfl HOn.out Tryd.underlying48 rfl (by kernel_rfl) ?_) | ((with_reducible show wpList _ _ _ (Oper.mk none (Op.store 48 _ _) _ _ _ none :: _) _ _); refine wpList_store_all rfl rfl 48 _ _ rfl w.heap.size _ (outC 0 (x13 != 0) x0 (.slice A' out.length d')) rfl rfl HRn.out rfl (by kernel_rfl) (by simp [outC, Value.oneCell']) ?_; intro E hE))
      (try simp only [Exit.inBlock, Exit.then])
      have hld := ret_all (P := Tryd.prog) 48 w.heap.size _ _ hE.at_ Tryd.underlying48 rfl (by kernel_rfl)
      refine bodyPost_ret (v := .agg (outC 0 (x13 != 0) x0 (.slice A' out.length d'))) (by simp [results, Tryd.results25, asAddr, Act.put, hld]) rfl ?_
      rw [HE.out]
      exact ⟨A', d', by
        rw [show (endO c' out).thrown = (x13 != 0) by
          rw [← hx13.out]
          show (!decide (c'.r.getD 13 0 = 0)) = _
          simp only [bne, BEq.beq], show (endO c' out).value = x0 from hx0.out]
        rfl, nums_of_own O64.out (own_set OWn.out (by omega) hE), BWn.out.setC (Nat.le_refl _) hE⟩
    · have hx' : (pc != -1) = true := by simpa using hx
      have HNE := Lib.hid (show c'.pc ≠ -1 by rw [hpc.out]; exact hx)
      clear hx hpc
      by_cases hjN : N ≤ j
      · have HE := Lib.hid (RUN.out.symm.trans ((show N - j = 0 by omega) ▸ runP_zero (mem := m') (out := out) HNE.out))
        clear RUN LEN more M64
        go_wp2_with (first | ((with_reducible show wpList _ _ _ (Oper.mk none (Op.store 24 _ _) _ _ _ none :: _) _ _); refine wpList_store_cell rfl rfl 24 _ _ rfl (z + 1) 0 (outC 0 false 0 (.slice A' out.length d')) (.int .i64 13) rfl rfl L0.out.outc (by simp [outC]) (by kernel_rfl) rfl ?_; intro U5 h5; have HO := Lib.hid h5.at_) | ((with_reducible show wpList _ _ _ (Oper.mk _ (Op.load 48 _) _ _ _ none :: _) _ _); refine wpList_load_all rfl 48 _ rfl (z + 1) (outC 13 false 0 (.slice A' out.length d')) _ rfl HO.out Tryd.underlying48 rfl (by kernel_rfl) ?_) | ((with_reducible show wpList _ _ _ (Oper.mk none (Op.store 48 _ _) _ _ _ none :: _) _ _); refine wpList_store_all rfl rfl 48 _ _ rfl w.heap.size _ (outC 13 false 0 (.slice A' out.length d')) rfl rfl ((h5.block _ (by omega)).trans L0.out.res) rfl (by kernel_rfl) (by simp [outC, Value.oneCell']) ?_; intro E hE))
        (try simp only [Exit.inBlock, Exit.then])
        have hld := ret_all (P := Tryd.prog) 48 w.heap.size _ _ hE.at_ Tryd.underlying48 rfl (by kernel_rfl)
        refine bodyPost_ret (v := .agg (outC 13 false 0 (.slice A' out.length d'))) (by simp [results, Tryd.results25, asAddr, Act.put, hld]) rfl ?_
        rw [HE.out]
        exact ⟨A', d', rfl, nums_of_own O64.out (own_set (own_set L0.out.own (by omega) h5) (by omega) hE), (L0.out.below.setC (by omega) h5).setC (Nat.le_refl _) hE⟩
      · obtain ⟨n, hn⟩ : ∃ n, N - j = n + 1 := ⟨N - j - 1, by omega⟩
        have hn2 : N - (j + 1) = n := by omega
        rw [hn] at RUN more
        have HN2 := Lib.hid hn2
        have LM := Lib.hid (show m'.length ≤ 16384 by rw [LEN.out]; omega)
        have KS := Lib.hid (show Calls Tryd.prog 41 #[.slice (some ⟨w.heap.size + 1 + 1, 0, none⟩) (k + 1) (k + 1), .agg (cpuC c')] wr (Stepped wr (w.heap.size + 1 + 1) m' c') from by
          have := refStep_any m' M64.out (w.heap.size + 1 + 1) c' F0.out wr L0.out.mem LM.out
          rw [LEN.out] at this
          exact this)
        have hjl : (j : Int) < (N : Int) := by omega
        clear hn hn2 hjN
        go_wp2_with (first | ((with_reducible show wpList _ _ _ (Oper.mk _ (Op.load 35 _) _ _ _ none :: _) _ _); refine wpList_load_all rfl 35 _ rfl z _ _ rfl L0.out.cpu Tryd.underlying35 rfl (by rw [ncs.out]; kernel_rfl) ?_))
        refine KS.out.mono ?_
        intro e w3 h
        rcases h with ⟨hs, h⟩ | ⟨m2, x, hs, h⟩
        · have HE := Lib.hid (RUN.out.symm.trans (runP_fault HNE.out hs))
          unfold Fails at h
          obtain ⟨rfl, hb⟩ := h
          have L3 := Lib.hid (L0.out.under hb)
          have zf := L0.out.far
          clear hb hs RUN KS LM HN2 more LEN M64 L0 c16
          go_wp2_with (first | ((with_reducible show wpList _ _ _ (Oper.mk none (Op.store 35 _ _) _ _ _ none :: _) _ _); refine wpList_store_all rfl rfl 35 _ _ rfl w3.heap.size _ (cpuC c') rfl rfl (two_old _ _ _) (by rw [ncs.out]; rfl) (by rw [ncs.out]; kernel_rfl) (cpuC_one _) ?_; intro U5 h5) | ((with_reducible show wpList _ _ _ (Oper.mk none (Op.store 40 _ _) _ _ _ none :: _) _ _); refine wpList_store_all rfl rfl 40 _ _ rfl (w3.heap.size + 1) _ (effC eff0) rfl rfl ((h5.block _ (by omega)).trans (heap_alloc2_new _ _ _)) rfl (by kernel_rfl) (effC_one _) ?_; intro U6 h6; have L6 := Lib.hid (L3.out.under (((((Below.refl w3.heap.size w3).alloc (Nat.le_refl _) _).alloc (by simp) _).setC (Nat.le_refl _) h5).setC (by omega) h6))) | ((with_reducible show wpList _ _ _ (Oper.mk none (Op.store 24 _ _) _ _ _ none :: _) _ _); refine wpList_store_cell rfl rfl 24 _ _ rfl (z + 1) 0 (outC 0 false 0 (.slice A' out.length d')) (.int .i64 14) rfl rfl L6.out.outc (by simp [outC]) (by kernel_rfl) rfl ?_; intro U7 h7; have HO := Lib.hid h7.at_) | ((with_reducible show wpList _ _ _ (Oper.mk _ (Op.load 48 _) _ _ _ none :: _) _ _); refine wpList_load_all rfl 48 _ rfl (z + 1) (outC 14 false 0 (.slice A' out.length d')) _ rfl HO.out Tryd.underlying48 rfl (by kernel_rfl) ?_) | ((with_reducible show wpList _ _ _ (Oper.mk none (Op.store 48 _ _) _ _ _ none :: _) _ _); refine wpList_store_all rfl rfl 48 _ _ rfl w.heap.size _ (outC 14 false 0 (.slice A' out.length d')) rfl rfl ((h7.block _ (by omega)).trans L6.out.res) rfl (by kernel_rfl) (by simp [outC, Value.oneCell']) ?_; intro E hE))
          (try simp only [Exit.inBlock, Exit.then])
          have hld := ret_all (P := Tryd.prog) 48 w.heap.size _ _ hE.at_ Tryd.underlying48 rfl (by kernel_rfl)
          refine bodyPost_ret (v := .agg (outC 14 false 0 (.slice A' out.length d'))) (by simp [results, Tryd.results25, asAddr, Act.put, hld]) rfl ?_
          rw [HE.out]
          exact ⟨A', d', rfl, nums_of_own O64.out (own_set (own_set L6.out.own (by omega) h7) (by omega) hE), (L6.out.below.setC (by omega) h7).setC (Nat.le_refl _) hE⟩
        · have HRR := Lib.hid ((runP_next HNE.out hs).symm.trans RUN.out)
          obtain ⟨f1, f2, f3, f4⟩ := step_fits M64.out F0.out hs
          have FX := Lib.hid (And.intro f1 (And.intro f2 (And.intro f3 f4)))
          unfold Steps at h
          obtain ⟨rfl, ht⟩ := h
          have L3 := Lib.hid (L0.out.turn ht)
          have zf := L0.out.far
          have n1 := Lib.hid (cpuC_size f3.len)
          have n2 := Lib.hid (effC_size f3.len)
          have k20 := Lib.hid (effC_at20 x f3.len)
          obtain ⟨pv, hpv⟩ : ∃ y, Hid (x.print = y) := ⟨_, rfl⟩
          have nP : some w3.heap.size ≠ (Value.slice A' out.length d').ownBlock := fun e => by have := (L3.out.own.lt _ e.symm).2; omega
          have NP := Lib.hid nP
          clear f1 f2 f3 f4 ht hs RUN KS LM M64 L0 c16 nP
          cases hpr : x.prints with
          | false =>
            rw [hpr, hpv.out] at k20
            rw [hpr] at HRR
            have HRX := Lib.hid (show runP n m2 x.cpu out = R from HRR.out)
            clear HRR hpr hpv
            go_wp2_with (first | ((with_reducible show wpList _ _ _ (Oper.mk none (Op.store 35 _ _) _ _ _ none :: _) _ _); refine wpList_store_all rfl rfl 35 _ _ rfl w3.heap.size _ (cpuC x.cpu) rfl rfl (two_old _ _ _) (by rw [n1.out]; rfl) (by rw [n1.out]; kernel_rfl) (cpuC_one _) ?_; intro U5 h5) | ((with_reducible show wpList _ _ _ (Oper.mk none (Op.store 40 _ _) _ _ _ none :: _) _ _); refine wpList_store_all rfl rfl 40 _ _ rfl (w3.heap.size + 1) _ (effC x) rfl rfl ((h5.block _ (by omega)).trans (heap_alloc2_new _ _ _)) (by rw [n2.out]; rfl) (by rw [n2.out]; kernel_rfl) (effC_one _) ?_; intro U6 h6; have L6 := Lib.hid (L3.out.under (((((Below.refl w3.heap.size w3).alloc (Nat.le_refl _) _).alloc (by simp) _).setC (Nat.le_refl _) h5).setC (by omega) h6)); have HP := Lib.hid ((h6.block w3.heap.size (by omega)).trans h5.at_); have m20 := (cell_of_row _ _ 20 _ _ _ h6.at_).trans k20.out.1; have m21 := (cell_of_row _ _ 21 _ _ _ h6.at_).trans k20.out.2; have o3 : U6.cell? ⟨z + 1, 3, none⟩ = some (.slice A' out.length d') := cell_of_row _ _ 3 _ _ _ L6.out.outc; have HPX := HP) | ((with_reducible show wpList _ _ _ (Oper.mk _ (Op.load 35 _) _ _ _ none :: _) _ _); refine wpList_load_all rfl 35 _ rfl w3.heap.size (cpuC x.cpu) _ rfl HPX.out Tryd.underlying35 rfl (by rw [n1.out]; kernel_rfl) ?_) | ((with_reducible show wpList _ _ _ (Oper.mk none (Op.store 35 _ _) _ _ _ none :: _) _ _); refine wpList_store_all rfl rfl 35 _ _ rfl z _ (cpuC x.cpu) rfl rfl L6.out.cpu (by rw [n1.out, ncs.out]) (by rw [n1.out]; kernel_rfl) (cpuC_one _) ?_; intro U9 h9))
            have L9 := Lib.hid (L6.out.setCpu h9)
            clear h5 h6 h9 m20 m21 o3
            go_roundw
            case rel =>
              refine ⟨j + 1, by omega, by go_num, ?_⟩
              rw [HN2.out]
              exact ⟨x.cpu, m2, A', d', out, L9.out, FX.out.2.2.1, FX.out.1, O64.out, FX.out.2.1.trans LEN.out, by omega, HRX.out⟩
            case measure => simp [intOf]; omega
          | true =>
            rw [hpr, hpv.out] at k20
            rw [hpr] at HRR
            have HRX := Lib.hid (show runP n m2 x.cpu (out ++ [pv]) = R by rw [← hpv.out]; exact HRR.out)
            have PF := Lib.hid (show I64 pv from hpv.out ▸ FX.out.2.2.2)
            clear HRR hpr hpv
            go_wp2_with (first | ((with_reducible show wpList _ _ _ (Oper.mk none (Op.store 35 _ _) _ _ _ none :: _) _ _); refine wpList_store_all rfl rfl 35 _ _ rfl w3.heap.size _ (cpuC x.cpu) rfl rfl (two_old _ _ _) (by rw [n1.out]; rfl) (by rw [n1.out]; kernel_rfl) (cpuC_one _) ?_; intro U5 h5) | ((with_reducible show wpList _ _ _ (Oper.mk none (Op.store 40 _ _) _ _ _ none :: _) _ _); refine wpList_store_all rfl rfl 40 _ _ rfl (w3.heap.size + 1) _ (effC x) rfl rfl ((h5.block _ (by omega)).trans (heap_alloc2_new _ _ _)) (by rw [n2.out]; rfl) (by rw [n2.out]; kernel_rfl) (effC_one _) ?_; intro U6 h6; have L6 := Lib.hid (L3.out.under (((((Below.refl w3.heap.size w3).alloc (Nat.le_refl _) _).alloc (by simp) _).setC (Nat.le_refl _) h5).setC (by omega) h6)); have HP := Lib.hid ((h6.block w3.heap.size (by omega)).trans h5.at_); have m20 := (cell_of_row _ _ 20 _ _ _ h6.at_).trans k20.out.1; have m21 := (cell_of_row _ _ 21 _ _ _ h6.at_).trans k20.out.2; have o3 : U6.cell? ⟨z + 1, 3, none⟩ = some (.slice A' out.length d') := cell_of_row _ _ 3 _ _ _ L6.out.outc) | (at_builtin; refine wpList_append_own _ rfl _ _ 44 rfl (z + 2) 3 i0 (.int .i64 0) 1 8 Tryd.underlying44 hi hz0 hz1 hz2 rfl (by decide) (.slice A' out.length d') out.length (out.map (Value.int .i64)) rfl (L6.out.own.alloc _) ⟨U6.heap.size, 0, none⟩ 1 1 [.int .i64 pv] rfl rfl (cell_one _ _ _) (by simp [Value.oneCell']) (by unfold maxLen; omega) (by omega) (by have := L6.out.size; simp; omega) ?_; intro v3 w5 hown3 hgrow3 _; obtain ⟨A3, d3, rfl⟩ := own_form hown3) | ((with_reducible show wpList _ _ _ (Oper.mk none (Op.store 44 _ _) _ _ _ none :: _) _ _); refine wpList_store_cell rfl rfl 44 _ _ rfl (z + 1) 3 (outC 0 false 0 (.slice A' out.length d')) (.slice A3 (out.length + 1) d3) rfl rfl ((hgrow3.block (z + 1) (by have := L6.out.size; simp; omega) (fun e => by have := (L6.out.own.lt _ e.symm).1; omega)).trans ((L6.out.under ((Below.refl U6.heap.size U6).alloc (Nat.le_refl _) _)).outc)) (by simp [outC]) (by kernel_rfl) rfl ?_; intro U8 h8; have e1 : (out ++ [pv]).length = out.length + 1 := (by simp); have L8 := Lib.hid (Lay.push (A3 := A3) (d3 := d3) (pv := pv) (L6.out.under ((Below.refl U6.heap.size U6).alloc (Nat.le_refl _) _)) hgrow3 (by rw [e1, List.map_append]; exact hown3) (by rw [e1]; exact h8)); have HPX := Lib.hid ((h8.block w3.heap.size (by have := L3.out.size; omega)).trans ((hgrow3.block w3.heap.size (by have := h6.size; have := h5.size; simp at *; omega) NP.out).trans ((Below.heap_alloc U6 _ _ (by have := h6.size; have := h5.size; simp at *; omega)).trans HP.out))); clear e1) | ((with_reducible show wpList _ _ _ (Oper.mk _ (Op.load 35 _) _ _ _ none :: _) _ _); refine wpList_load_all rfl 35 _ rfl w3.heap.size (cpuC x.cpu) _ rfl HPX.out Tryd.underlying35 rfl (by rw [n1.out]; kernel_rfl) ?_) | ((with_reducible show wpList _ _ _ (Oper.mk none (Op.store 35 _ _) _ _ _ none :: _) _ _); refine wpList_store_all rfl rfl 35 _ _ rfl z _ (cpuC x.cpu) rfl rfl L8.out.cpu (by rw [n1.out, ncs.out]) (by rw [n1.out]; kernel_rfl) (cpuC_one _) ?_; intro U9 h9))
            have L9 := Lib.hid (L8.out.setCpu h9)
            have e1 : (out ++ [pv]).length = out.length + 1 := by simp
            clear h5 h6 h8 h9 m20 m21 o3 hown3 hgrow3
            go_roundw
            case rel =>
              refine ⟨j + 1, by omega, by go_num, ?_⟩
              rw [HN2.out]
              exact ⟨x.cpu, m2, A3, d3, out ++ [pv], L9.out, FX.out.2.2.1, FX.out.1, all_append O64.out (all_one PF.out), FX.out.2.1.trans LEN.out, by omega, HRX.out⟩
            case measure => simp [intOf]; omega
end Go.Proofs.YtimiofmmhccmmaaDoor
