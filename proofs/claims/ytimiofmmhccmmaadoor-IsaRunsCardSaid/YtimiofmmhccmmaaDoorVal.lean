/-
  A processor and an effect as cells: what lies where, and what a store makes of them. No condition.
-/
import Derived.Test.YtimiofmmhccmmaaDoorDec
import Derived.Test.YtimiofmmhccmmaaDoorRun
import Derived.ChangeKeysEq
namespace Go.Proofs.YtimiofmmhccmmaaDoor
open Go.RowKit

/-- Three new blocks. -/
theorem new3 (w : World) (A B C : Obj) : (((w.alloc A).alloc B).alloc C).heap[w.heap.size]? = some A ∧ (((w.alloc A).alloc B).alloc C).heap[w.heap.size + 1]? = some B ∧ (((w.alloc A).alloc B).alloc C).heap[w.heap.size + 1 + 1]? = some C := by
  have h1 : (w.alloc A).heap.size = w.heap.size + 1 := by simp
  have h2 : ((w.alloc A).alloc B).heap.size = w.heap.size + 1 + 1 := by simp
  refine ⟨?_, ?_, ?_⟩
  · rw [Below.heap_alloc _ _ _ (by omega), Below.heap_alloc _ _ _ (by omega), heap_alloc_new]
  · rw [Below.heap_alloc _ _ _ (by omega), ← h1, heap_alloc_new]
  · rw [← h2, heap_alloc_new]
theorem new3_size (w : World) (A B C : Obj) : (((w.alloc A).alloc B).alloc C).heap.size = w.heap.size + 1 + 1 + 1 := by simp
theorem Below.new3 (w : World) (A B C : Obj) : Below w.heap.size w (((w.alloc A).alloc B).alloc C) :=
  (((Below.refl w.heap.size w).alloc (Nat.le_refl _) A).alloc (by simp) B).alloc (by simp; omega) C
/-- A processor's cells. -/
def cpuC (c : Cpu) : Array Value := (c.r.map (Value.int .i64) ++ [Value.int .i64 c.pc]).toArray
/-- An effect's cells. -/
def effC (x : Eff) : Array Value := (x.cpu.r.map (Value.int .i64) ++ [Value.int .i64 x.cpu.pc, Value.bool x.stores, Value.int .i64 x.addr, Value.int .i64 x.word, Value.bool x.prints, Value.int .i64 x.print]).toArray
theorem list16 {l : List Int} (h : l.length = 16) : ∃ a0 a1 a2 a3 a4 a5 a6 a7 a8 a9 a10 a11 a12 a13 a14 a15 : Int, l = [a0, a1, a2, a3, a4, a5, a6, a7, a8, a9, a10, a11, a12, a13, a14, a15] := by
  match l, h with
  | [a0, a1, a2, a3, a4, a5, a6, a7, a8, a9, a10, a11, a12, a13, a14, a15], _ => exact ⟨a0, a1, a2, a3, a4, a5, a6, a7, a8, a9, a10, a11, a12, a13, a14, a15, rfl⟩
theorem cpuC_size {c : Cpu} (h : c.r.length = 16) : (cpuC c).size = 17 := by simp [cpuC, h]
theorem effC_size {x : Eff} (h : x.cpu.r.length = 16) : (effC x).size = 22 := by simp [effC, h]
theorem cpuC_reg {c : Cpu} {k : Nat} (h : c.r.length = 16) (hk : k < 16) : (cpuC c)[k]? = some (.int .i64 (c.r.getD k 0)) := by
  simp only [cpuC, List.getElem?_toArray]
  rw [List.getElem?_append_left (by simp; omega), List.getElem?_map, List.getElem?_eq_getElem (by omega)]
  simp [List.getD_eq_getElem?_getD, List.getElem?_eq_getElem (show k < c.r.length by omega)]
theorem cpuC_pc {c : Cpu} (h : c.r.length = 16) : (cpuC c)[16]? = some (.int .i64 c.pc) := by
  simp only [cpuC, List.getElem?_toArray]
  rw [List.getElem?_append_right (by simp; omega)]
  simp [h]
theorem cpuC_one (c : Cpu) : (cpuC c).all (·.oneCell') = true := by
  rw [Array.all_eq_true']
  intro v hv
  simp only [cpuC, List.mem_toArray, List.mem_append, List.mem_map, List.mem_singleton] at hv
  rcases hv with ⟨x, _, rfl⟩ | rfl <;> rfl
theorem effC_one (x : Eff) : (effC x).all (·.oneCell') = true := by
  rw [Array.all_eq_true']
  intro v hv
  simp only [effC, List.mem_toArray, List.mem_append, List.mem_map, List.mem_cons, List.not_mem_nil, or_false] at hv
  rcases hv with ⟨x, _, rfl⟩ | rfl | rfl | rfl | rfl | rfl | rfl <;> rfl
/-- A register of an effect is written. -/
theorem effC_set (x : Eff) (h : x.cpu.r.length = 16) {k : Nat} (hk : k < 16) (v : Int) : (effC x).setIfInBounds k (.int .i64 v) = effC { x with cpu := ⟨x.cpu.r.set k v, x.cpu.pc⟩ } := by
  apply Array.ext_getElem?
  intro j
  rw [Array.getElem?_setIfInBounds]
  have hs := effC_size h
  by_cases hj : k = j
  · subst hj
    rw [if_pos rfl, if_pos (by omega)]
    simp only [effC, List.getElem?_toArray]
    rw [List.getElem?_append_left (by simp; omega)]
    simp [h, hk]
  · rw [if_neg hj]
    simp only [effC, List.getElem?_toArray]
    by_cases hj2 : j < 16
    · rw [List.getElem?_append_left (by simp; omega), List.getElem?_append_left (by simp; omega)]
      simp [List.getElem?_set_ne hj]
    · rw [List.getElem?_append_right (by simp; omega), List.getElem?_append_right (by simp; omega)]
      simp
theorem effC_pc (x : Eff) (h : x.cpu.r.length = 16) (v : Int) : (effC x).setIfInBounds 16 (.int .i64 v) = effC { x with cpu := ⟨x.cpu.r, v⟩ } := by
  obtain ⟨⟨r, pc⟩, s, a, d, p, q⟩ := x
  obtain ⟨a0, a1, a2, a3, a4, a5, a6, a7, a8, a9, a10, a11, a12, a13, a14, a15, rfl⟩ := list16 h
  rfl
theorem effC_stores (x : Eff) (h : x.cpu.r.length = 16) (v : Bool) : (effC x).setIfInBounds 17 (.bool v) = effC { x with stores := v } := by
  obtain ⟨⟨r, pc⟩, s, a, d, p, q⟩ := x
  obtain ⟨a0, a1, a2, a3, a4, a5, a6, a7, a8, a9, a10, a11, a12, a13, a14, a15, rfl⟩ := list16 h
  rfl
theorem effC_addr (x : Eff) (h : x.cpu.r.length = 16) (v : Int) : (effC x).setIfInBounds 18 (.int .i64 v) = effC { x with addr := v } := by
  obtain ⟨⟨r, pc⟩, s, a, d, p, q⟩ := x
  obtain ⟨a0, a1, a2, a3, a4, a5, a6, a7, a8, a9, a10, a11, a12, a13, a14, a15, rfl⟩ := list16 h
  rfl
theorem effC_word (x : Eff) (h : x.cpu.r.length = 16) (v : Int) : (effC x).setIfInBounds 19 (.int .i64 v) = effC { x with word := v } := by
  obtain ⟨⟨r, pc⟩, s, a, d, p, q⟩ := x
  obtain ⟨a0, a1, a2, a3, a4, a5, a6, a7, a8, a9, a10, a11, a12, a13, a14, a15, rfl⟩ := list16 h
  rfl
theorem effC_prints (x : Eff) (h : x.cpu.r.length = 16) (v : Bool) : (effC x).setIfInBounds 20 (.bool v) = effC { x with prints := v } := by
  obtain ⟨⟨r, pc⟩, s, a, d, p, q⟩ := x
  obtain ⟨a0, a1, a2, a3, a4, a5, a6, a7, a8, a9, a10, a11, a12, a13, a14, a15, rfl⟩ := list16 h
  rfl
theorem effC_print (x : Eff) (h : x.cpu.r.length = 16) (v : Int) : (effC x).setIfInBounds 21 (.int .i64 v) = effC { x with print := v } := by
  obtain ⟨⟨r, pc⟩, s, a, d, p, q⟩ := x
  obtain ⟨a0, a1, a2, a3, a4, a5, a6, a7, a8, a9, a10, a11, a12, a13, a14, a15, rfl⟩ := list16 h
  rfl
theorem effC_at17 (x : Eff) (h : x.cpu.r.length = 16) : (effC x)[17]? = some (.bool x.stores) ∧ (effC x)[18]? = some (.int .i64 x.addr) ∧ (effC x)[19]? = some (.int .i64 x.word) := by
  obtain ⟨⟨r, pc⟩, s, a, d, p, q⟩ := x
  obtain ⟨a0, a1, a2, a3, a4, a5, a6, a7, a8, a9, a10, a11, a12, a13, a14, a15, rfl⟩ := list16 h
  exact ⟨rfl, rfl, rfl⟩
theorem frozen_row {w : World} {N : Nat} {cs : Array Value} {T : TypeId} (h : w.heap[N]? = some (.cells cs T (0, 0))) (o : Nat) : w.frozen? ⟨N, o, none⟩ = false := by
  rw [World.frozen?]; simp only [h]; simp
theorem effC_at16 (x : Eff) (h : x.cpu.r.length = 16) : (effC x)[16]? = some (.int .i64 x.cpu.pc) := by
  obtain ⟨⟨r, pc⟩, s, a, d, p, q⟩ := x
  obtain ⟨a0, a1, a2, a3, a4, a5, a6, a7, a8, a9, a10, a11, a12, a13, a14, a15, rfl⟩ := list16 h
  rfl
theorem effC_at20 (x : Eff) (h : x.cpu.r.length = 16) : (effC x)[20]? = some (.bool x.prints) ∧ (effC x)[21]? = some (.int .i64 x.print) := by
  obtain ⟨⟨r, pc⟩, s, a, d, p, q⟩ := x
  obtain ⟨a0, a1, a2, a3, a4, a5, a6, a7, a8, a9, a10, a11, a12, a13, a14, a15, rfl⟩ := list16 h
  exact ⟨rfl, rfl⟩
/-- The registers' cells. -/
def regsC (l : List Int) : List Value := l.map (Value.int .i64)
theorem effC_reg (x : Eff) (h : x.cpu.r.length = 16) (k : Nat) (hk : k < 16) : (effC x)[k]? = some (.int .i64 (x.cpu.r.getD k 0)) := by
  simp only [effC, List.getElem?_toArray]
  rw [List.getElem?_append_left (by simp; omega), List.getElem?_map, List.getElem?_eq_getElem (by omega)]
  simp [List.getD_eq_getElem?_getD, List.getElem?_eq_getElem (show k < x.cpu.r.length by omega)]
theorem effC_regs (x : Eff) : ∀ (j : Nat) (v : Value), (regsC x.cpu.r)[j]? = some v → (effC x)[j]? = some v := by
  intro j v hj
  simp only [effC, List.getElem?_toArray]
  rw [List.getElem?_append_left (by have := (List.getElem?_eq_some_iff.1 hj).1; simpa [regsC] using this)]
  exact hj
theorem cpuC_regs (c : Cpu) : ∀ (j : Nat) (v : Value), (regsC c.r)[j]? = some v → (cpuC c)[j]? = some v := by
  intro j v hj
  simp only [cpuC, List.getElem?_toArray]
  rw [List.getElem?_append_left (by have := (List.getElem?_eq_some_iff.1 hj).1; simpa [regsC] using this)]
  exact hj
theorem effC_cpu (x : Eff) (h : x.cpu.r.length = 16) : ∀ (j : Nat) (v : Value), (cpuC x.cpu).toList[j]? = some v → (effC x)[j]? = some v := by
  intro j v hj
  rw [Array.getElem?_toList] at hj
  by_cases h16 : j < 16
  · rw [cpuC_reg h h16] at hj
    rw [effC_reg x h j h16]
    exact hj
  · have hlt := (Array.getElem?_eq_some_iff.1 hj).1
    rw [cpuC_size h] at hlt
    obtain rfl : j = 16 := by omega
    rw [cpuC_pc h] at hj
    rw [effC_at16 x h]
    exact hj
theorem range_of {w : World} {b : Nat} {cs : Array Value} {T : TypeId} {l : List Value} (h : w.heap[b]? = some (.cells cs T (0, 0))) (hl : ∀ (j : Nat) (v : Value), l[j]? = some v → cs[j]? = some v) : w.rangeAt b 0 l := fun j v hv => by
  rw [Nat.zero_add, cell_of_row w b j cs T _ h]
  exact hl j v hv
/-- An effect that has a processor alone is built. -/
theorem build_eff {c : Cpu} (h : c.r.length = 16) (w : World) : (Instr.build 40 #[(0, .agg (cpuC c))]).run Tryd.prog w = .ok (.agg (effC ⟨c, false, 0, 0, false, 0⟩)) w := by
  obtain ⟨r, pc⟩ := c
  obtain ⟨a0, a1, a2, a3, a4, a5, a6, a7, a8, a9, a10, a11, a12, a13, a14, a15, rfl⟩ := list16 h
  kernel_rfl
section
variable {P : Program} {ops : Array Oper} {rest : List Oper} {op : Oper} {a : Act} {w : World} {Q : Exit → Act → World → Prop}
/-- An operation whose guard lets it run. -/
theorem wpList_wanted (hw : Region.wanted op (yielded ops a.tmps) = true) (h : ∀ K : Act → World → Prop, (∀ a w, wpList P ops Q rest a w → K a w) → op.wp P a w K Q) : wpList P ops Q (op :: rest) a w :=
  wpList_step fun K hK => by
    rw [if_pos hw]
    exact h K hK
/-- A row of cells in a block is loaded, under a guard too. -/
theorem wpList_load_part (hw : Region.wanted op (yielded ops a.tmps) = true) (T : TypeId) (x : Operand) (ho : op.op = .load T x) (b : Nat) (hx : a.eval x = .pointer (some ⟨b, 0, none⟩)) (cs : List Value) (d : TypeDesc) (hc : w.rangeAt b 0 cs)
    (hu : P.underlying T = some d) (hd : d.isRow = true) (hi : (P.info? T).map (·.size) = some cs.length) (h : wpList P ops Q rest (a.put op.dst (.agg cs.toArray)) w) : wpList P ops Q (op :: rest) a w :=
  wpList_wanted hw fun _ hK => wp_load_mid T x ho b 0 hx cs d hc hu hd hi (hK _ _ h)
end
/-- Rows of numbers are equal to themselves. -/
theorem items_self (d : Nat) (xs : Array Value) : ∀ (is : List Nat), (∀ i ∈ is, ∃ n, xs[i]? = some (.int .i64 n)) → ∀ w : World, (Op.eqItems (d + 1) 3 1 xs xs is).run Tryd.prog w = .ok true w
  | [], _, w => by simp [Op.eqItems]
  | i :: is, h, w => by
    obtain ⟨n, hn⟩ := h i (by simp)
    have p := run_part_plain (P := Tryd.prog) w (e := 3) (by kernel_rfl) (off := i * 1) (by rw [Nat.mul_one]; exact hn)
    have q := run_equalIn_int (P := Tryd.prog) w d 3 .i64 .i64 n n (by kernel_rfl)
    simp only [Op.eqItems, Sem.run_bind, p, q, Result.andThen_ok, beq_self_eq_true, Bool.not_true, Bool.false_eq_true, if_false]
    exact items_self d xs is (fun j hj => h j (by simp [hj])) w
theorem eql_arr (d : Nat) {l : List Int} (h : l.length = 16) (w : World) : (Op.equalIn (d + 1 + 1) 33 (.agg (regsC l).toArray) (.agg (regsC l).toArray)).run Tryd.prog w = .ok true w := by
  obtain ⟨i, hi⟩ : ∃ i, Tryd.prog.info? 3 = some i := ⟨_, rfl⟩
  rw [run_equalIn_array (P := Tryd.prog) w (d + 1) (n := 16) (e := 3) _ _ (by kernel_rfl) hi]
  rw [show Tryd.prog.cellsOf 3 = 1 by kernel_rfl]
  refine items_self d _ _ (fun i hi => ?_) w
  have hlt : i < 16 := List.mem_range.1 hi
  exact ⟨l.getD i 0, by simp [regsC, h, hlt, List.getD_eq_getElem?_getD]⟩
theorem eql_regs {l : List Int} (h : l.length = 16) (w : World) : (Op.equalIn 10000 33 (.agg (regsC l).toArray) (.agg (regsC l).toArray)).run Tryd.prog w = .ok true w := eql_arr 9998 h w
theorem eql_eff {x : Eff} (h : x.cpu.r.length = 16) (w : World) : (Op.equalIn 10000 40 (.agg (effC x)) (.agg (effC x))).run Tryd.prog w = .ok true w := by
  obtain ⟨⟨r, pc⟩, s, a, d, p, q⟩ := x
  obtain ⟨a0, a1, a2, a3, a4, a5, a6, a7, a8, a9, a10, a11, a12, a13, a14, a15, rfl⟩ := list16 h
  have ha : ∀ w : World, (Op.equalIn 9998 33 (.agg #[.int .i64 a0, .int .i64 a1, .int .i64 a2, .int .i64 a3, .int .i64 a4, .int .i64 a5, .int .i64 a6, .int .i64 a7, .int .i64 a8, .int .i64 a9, .int .i64 a10, .int .i64 a11, .int .i64 a12, .int .i64 a13, .int .i64 a14, .int .i64 a15]) (.agg #[.int .i64 a0, .int .i64 a1, .int .i64 a2, .int .i64 a3, .int .i64 a4, .int .i64 a5, .int .i64 a6, .int .i64 a7, .int .i64 a8, .int .i64 a9, .int .i64 a10, .int .i64 a11, .int .i64 a12, .int .i64 a13, .int .i64 a14, .int .i64 a15])).run Tryd.prog w = .ok true w := eql_arr 9996 (l := [a0, a1, a2, a3, a4, a5, a6, a7, a8, a9, a10, a11, a12, a13, a14, a15]) rfl
  show (Op.equalIn 10000 40 (.agg #[.int .i64 a0, .int .i64 a1, .int .i64 a2, .int .i64 a3, .int .i64 a4, .int .i64 a5, .int .i64 a6, .int .i64 a7, .int .i64 a8, .int .i64 a9, .int .i64 a10, .int .i64 a11, .int .i64 a12, .int .i64 a13, .int .i64 a14, .int .i64 a15, .int .i64 pc, .bool s, .int .i64 a, .int .i64 d, .bool p, .int .i64 q]) (.agg #[.int .i64 a0, .int .i64 a1, .int .i64 a2, .int .i64 a3, .int .i64 a4, .int .i64 a5, .int .i64 a6, .int .i64 a7, .int .i64 a8, .int .i64 a9, .int .i64 a10, .int .i64 a11, .int .i64 a12, .int .i64 a13, .int .i64 a14, .int .i64 a15, .int .i64 pc, .bool s, .int .i64 a, .int .i64 d, .bool p, .int .i64 q])).run Tryd.prog w = .ok true w
  simp [go_sem, ha]
end Go.Proofs.YtimiofmmhccmmaaDoor
