/-
  The machine of a run: its struct, its memory, its output, and what the small methods do with them. Condition: registers and memory of 64 bits.
-/
import Derived.Test.YtimiofmmhccmmaaDoorIExb
import Derived.Test.YtimiofmmhccmmaaDoorIReads
import Derived.Test.YtimiofmmhccmmaaDoorFits
import Derived.Test.YtimiofmmhccmmaaDoorMemC
import Derived.Test.YtimiofmmhccmmaaDoorWrd
import Derived.OwnWalk
import Derived.Laws.AppendOwn
namespace Go.Proofs.YtimiofmmhccmmaaDoor
open Go.RowKit

/-- A machine's cells: the processor, the memory, the output. -/
def machC (c : Cpu) (m o : Value) : Array Value := (c.r.map (Value.int .i64) ++ [Value.int .i64 c.pc, m, o]).toArray
section
variable {c : Cpu} {m o : Value}
theorem machC_size (h : c.r.length = 16) : (machC c m o).size = 19 := by simp [machC, h]
theorem machC_at (h : c.r.length = 16) : (machC c m o)[16]? = some (.int .i64 c.pc) ∧ (machC c m o)[17]? = some m ∧ (machC c m o)[18]? = some o := by
  obtain ⟨r, pc⟩ := c
  obtain ⟨a0, a1, a2, a3, a4, a5, a6, a7, a8, a9, a10, a11, a12, a13, a14, a15, rfl⟩ := list16 h
  exact ⟨rfl, rfl, rfl⟩
theorem machC_reg (h : c.r.length = 16) (k : Nat) (hk : k < 16) : (machC c m o)[k]? = some (.int .i64 (c.r.getD k 0)) := by
  simp only [machC, List.getElem?_toArray]
  rw [List.getElem?_append_left (by simp; omega), List.getElem?_map, List.getElem?_eq_getElem (by omega)]
  simp [List.getD_eq_getElem?_getD, List.getElem?_eq_getElem (show k < c.r.length by omega)]
theorem machC_cpu (h : c.r.length = 16) : ∀ (j : Nat) (v : Value), (cpuC c).toList[j]? = some v → (machC c m o)[j]? = some v := by
  intro j v hj
  rw [Array.getElem?_toList] at hj
  by_cases h16 : j < 16
  · rw [cpuC_reg h h16] at hj
    rw [machC_reg h j h16]
    exact hj
  · have hlt := (Array.getElem?_eq_some_iff.1 hj).1
    rw [cpuC_size h] at hlt
    obtain rfl : j = 16 := by omega
    rw [cpuC_pc h] at hj
    rw [(machC_at h).1]
    exact hj
theorem machC_put (x : Cpu) (h : c.r.length = 16) (hx : x.r.length = 16) : putCs (machC c m o) 0 (cpuC x).toList = machC x m o := by
  have hs := cpuC_size hx
  apply Array.ext_getElem?
  intro j
  rw [putCs_get _ _ _ _ (by rw [machC_size h, Array.length_toList, hs]; omega), if_neg (by omega), Array.length_toList, hs]
  by_cases hj : j < 17
  · rw [if_pos (by omega), Nat.sub_zero]
    have e : (cpuC x).toList[j]? = some ((cpuC x).toList[j]'(by rw [Array.length_toList]; omega)) := List.getElem?_eq_getElem _
    rw [machC_cpu (m := m) (o := o) hx j _ e, e]
  · rw [if_neg (by omega)]
    by_cases h17 : j = 17
    · subst h17; rw [(machC_at h).2.1, (machC_at hx).2.1]
    · by_cases h18 : j = 18
      · subst h18; rw [(machC_at h).2.2, (machC_at hx).2.2]
      · rw [Array.getElem?_eq_none (by rw [machC_size h]; omega), Array.getElem?_eq_none (by rw [machC_size hx]; omega)]
theorem machC_out (h : c.r.length = 16) (v : Value) : (machC c m o).setIfInBounds 18 v = machC c m v := by
  obtain ⟨r, pc⟩ := c
  obtain ⟨a0, a1, a2, a3, a4, a5, a6, a7, a8, a9, a10, a11, a12, a13, a14, a15, rfl⟩ := list16 h
  rfl
end
/-- A machine at K, its memory at M, its output a row from B on. -/
structure Mach (B K M : Nat) (c : Cpu) (m : List Int) (A : Option Addr) (d : Nat) (out : List Int) (w : World) : Prop where
  mach : w.heap[K]? = some (.cells (machC c (.slice (some ⟨M, 0, none⟩) m.length m.length) (.slice A out.length d)) 75 (0, 0))
  mem : w.heap[M]? = some (.cells (numsC m) 3 (0, 0))
  own : w.ownsRow B 3 1 (.slice A out.length d) out.length (out.map (Value.int .i64))
  hK : K < B
  hM : M < B
  ne : K ≠ M
  size : B ≤ w.heap.size
/-- Nothing else below B is turned. -/
structure Others (B K M : Nat) (w w' : World) : Prop where
  os : w'.os = w.os
  tape : w'.tape = w.tape
  output : w'.output = w.output
  size : w.heap.size ≤ w'.heap.size
  block : ∀ b, b < B → b ≠ K → b ≠ M → w'.heap[b]? = w.heap[b]?
theorem Others.refl (B K M : Nat) (w : World) : Others B K M w w := ⟨rfl, rfl, rfl, Nat.le_refl _, fun _ _ _ _ => rfl⟩
theorem Others.trans {B K M : Nat} {w u v : World} (h : Others B K M w u) (k : Others B K M u v) : Others B K M w v :=
  ⟨k.os.trans h.os, k.tape.trans h.tape, k.output.trans h.output, Nat.le_trans h.size k.size, fun b hb h1 h2 => (k.block b hb h1 h2).trans (h.block b hb h1 h2)⟩
theorem Others.of_below {B K M : Nat} {w w' : World} (hB : B ≤ w.heap.size) (h : Below w.heap.size w w') : Others B K M w w' :=
  ⟨h.os, h.tape, h.output, h.size, fun b hb _ _ => h.block b (by omega)⟩
section
variable {B K M d : Nat} {c : Cpu} {m out : List Int} {A : Option Addr} {w w' : World}
theorem Mach.below (h : Mach B K M c m A d out w) (hb : Below w.heap.size w w') : Mach B K M c m A d out w' :=
  ⟨(hb.block _ (Nat.lt_of_lt_of_le h.hK h.size)).trans h.mach, (hb.block _ (Nat.lt_of_lt_of_le h.hM h.size)).trans h.mem, own_below h.own hb, h.hK, h.hM, h.ne, Nat.le_trans h.size hb.size⟩
theorem Mach.drew (h : Mach B K M c m A d out w) : Mach B K M c m A d out w.drew :=
  h.below ((Below.refl _ _).drew)
end
theorem has_yes (K M L : Nat) (cs : Array Value) (a : Int) (w : World) (hz : w.heap[K]? = some (.cells cs 75 (0, 0))) (h17 : cs[17]? = some (.slice (some ⟨M, 0, none⟩) L L)) (h0 : 0 ≤ a) (h1 : a < L) :
    Calls Tryd.prog 48 #[.pointer (some ⟨K, 0, none⟩), .int .i64 a] w fun e w' => e = .returned (.bool true) ∧ w = w' := by
  have c17 := (cell_of_row _ _ 17 _ _ _ hz).trans h17
  clear hz h17
  go_enter Tryd.func48, Tryd.ntmps48
  go_wp2
  go_ret
  exact ⟨rfl, rfl⟩
theorem has_no (K M L : Nat) (cs : Array Value) (a : Int) (w : World) (hz : w.heap[K]? = some (.cells cs 75 (0, 0))) (h17 : cs[17]? = some (.slice (some ⟨M, 0, none⟩) L L)) (h : a < 0 ∨ L ≤ a) :
    Calls Tryd.prog 48 #[.pointer (some ⟨K, 0, none⟩), .int .i64 a] w fun e w' => e = .returned (.bool false) ∧ w = w' := by
  have c17 := (cell_of_row _ _ 17 _ _ _ hz).trans h17
  clear hz h17
  by_cases h0 : a < 0
  · clear h
    go_enter Tryd.func48, Tryd.ntmps48
    go_wp2
    go_ret
    exact ⟨rfl, rfl⟩
  · have h1 : (L : Int) ≤ a := by omega
    have h2 : 0 ≤ a := by omega
    have hd : decide (a < (L : Int)) = false := by simp; omega
    clear h h0
    go_enter Tryd.func48, Tryd.ntmps48
    go_wp2
    go_ret
    exact ⟨rfl, rfl⟩
theorem word_yes (K M L p : Nat) (cs : Array Value) (v : Int) (w : World) (hz : w.heap[K]? = some (.cells cs 75 (0, 0))) (h17 : cs[17]? = some (.slice (some ⟨M, 0, none⟩) L L)) (h1 : p < L) (hc : w.cell? ⟨M, p, none⟩ = some (.int .i64 v)) :
    Calls Tryd.prog 47 #[.pointer (some ⟨K, 0, none⟩), .int .i64 p] w fun e w' => e = .returned (.tuple #[.int .i64 v, .bool true]) ∧ w = w' := by
  have KH := Lib.hid (has_yes K M L cs p w hz h17 (by omega) (by omega))
  have c17 := (cell_of_row _ _ 17 _ _ _ hz).trans h17
  clear hz h17
  go_enter Tryd.func47, Tryd.ntmps47
  go_wp2_with (go_at_call 48; refine (KH.out).mono ?_; rintro e w' ⟨rfl, rfl⟩)
  go_ret2
  exact ⟨rfl, rfl⟩
theorem word_no (K M L : Nat) (cs : Array Value) (a : Int) (w : World) (hz : w.heap[K]? = some (.cells cs 75 (0, 0))) (h17 : cs[17]? = some (.slice (some ⟨M, 0, none⟩) L L)) (h : a < 0 ∨ L ≤ a) :
    Calls Tryd.prog 47 #[.pointer (some ⟨K, 0, none⟩), .int .i64 a] w fun e w' => e = .returned (.tuple #[.int .i64 0, .bool false]) ∧ w = w' := by
  have KH := Lib.hid (has_no K M L cs a w hz h17 h)
  clear hz h17 h
  go_enter Tryd.func47, Tryd.ntmps47
  go_wp2_with (go_at_call 48; refine (KH.out).mono ?_; rintro e w' ⟨rfl, rfl⟩)
  go_ret2
  exact ⟨rfl, rfl⟩
end Go.Proofs.YtimiofmmhccmmaaDoor
