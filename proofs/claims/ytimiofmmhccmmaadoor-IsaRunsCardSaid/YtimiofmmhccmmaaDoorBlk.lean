/-
  A struct's cells in a block of its own: stored, loaded, handed back as one step; a field of it stored. No condition.
-/
import Derived.WalkKit
import Derived.Lib.Hide
import Derived.Laws.Rows
import Derived.Deep.MidRow
namespace Go.Proofs.YtimiofmmhccmmaaDoor
open Go.RowKit

/-- The cells vs written into an array from o on. -/
def putCs (cur : Array Value) : Nat → List Value → Array Value
  | _, [] => cur
  | o, v :: r => putCs (cur.setIfInBounds o v) (o + 1) r
theorem putCs_get : ∀ (vs : List Value) (cur : Array Value) (o j : Nat), o + vs.length ≤ cur.size → (putCs cur o vs)[j]? = if j < o then cur[j]? else if j < o + vs.length then vs[j - o]? else cur[j]?
  | [], cur, o, j, h => by
    unfold putCs
    split
    · rfl
    · rw [if_neg (by simp; omega)]
  | v :: r, cur, o, j, h => by
    simp only [List.length_cons] at h
    unfold putCs
    rw [putCs_get r (cur.setIfInBounds o v) (o + 1) j (by rw [Array.size_setIfInBounds]; omega)]
    have hc : (cur.setIfInBounds o v)[j]? = if j = o then some v else cur[j]? := by
      rw [Array.getElem?_setIfInBounds]
      by_cases hjo : j = o
      · subst hjo
        rw [if_pos rfl, if_pos (by omega), if_pos rfl]
      · rw [if_neg (fun e => hjo e.symm), if_neg hjo]
    rw [hc]
    simp only [List.length_cons]
    by_cases h1 : j < o
    · rw [if_pos (by omega), if_neg (by omega), if_pos h1]
    · rw [if_neg h1]
      by_cases h2 : j = o
      · subst h2
        rw [if_pos (by omega), if_pos rfl, if_pos (by omega)]
        simp
      · rw [if_neg (by omega), if_neg h2]
        by_cases h3 : j < o + (r.length + 1)
        · rw [if_pos (by omega), if_pos h3]
          obtain ⟨k, hk⟩ : ∃ k, j - o = k + 1 := ⟨j - o - 1, by omega⟩
          rw [hk, show j - (o + 1) = k by omega]
          rfl
        · rw [if_neg (by omega), if_neg h3]
theorem putCs_all (cur : Array Value) (vs : List Value) (h : vs.length = cur.size) : putCs cur 0 vs = vs.toArray := by
  apply Array.ext_getElem?
  intro j
  rw [putCs_get vs cur 0 j (by omega), if_neg (by omega)]
  simp only [Nat.zero_add, Nat.sub_zero, List.getElem?_toArray]
  split
  · rfl
  · rw [Array.getElem?_eq_none (by omega), List.getElem?_eq_none (by omega)]
theorem heap_setCs (b : Nat) : ∀ (vs : List Value) (o : Nat) (w : World) (cur : Array Value) (e : TypeId), w.heap[b]? = some (.cells cur e (0, 0)) → (w.setCells b o vs).heap[b]? = some (.cells (putCs cur o vs) e (0, 0))
  | [], _, _, _, _, h => h
  | v :: r, o, w, _, e, h => heap_setCs b r (o + 1) _ _ e (heap_setCell_same w b o _ _ v h)
theorem heap_setCs_other (b x : Nat) (hx : x ≠ b) : ∀ (vs : List Value) (o : Nat) (w : World), (w.setCells b o vs).heap[x]? = w.heap[x]?
  | [], _, _ => rfl
  | v :: r, o, w => (heap_setCs_other b x hx r (o + 1) _).trans (heap_setCell_other w ⟨b, o, none⟩ x v hx)
/-- The block N holds other cells, and nothing else is turned. -/
structure SetC (N : Nat) (cs : Array Value) (e : TypeId) (w U : World) : Prop where
  os : U.os = w.os
  tape : U.tape = w.tape
  output : U.output = w.output
  size : U.heap.size = w.heap.size
  at_ : U.heap[N]? = some (.cells cs e (0, 0))
  block : ∀ b, b ≠ N → U.heap[b]? = w.heap[b]?
theorem setCs_same (b : Nat) : ∀ (vs : List Value) (o : Nat) (w : World), (w.setCells b o vs).os = w.os ∧ (w.setCells b o vs).tape = w.tape ∧ (w.setCells b o vs).output = w.output ∧ (w.setCells b o vs).heap.size = w.heap.size
  | [], _, _ => ⟨rfl, rfl, rfl, rfl⟩
  | v :: r, o, w => by
    obtain ⟨h1, h2, h3, h4⟩ := setCs_same b r (o + 1) (w.setCell ⟨b, o, none⟩ v)
    exact ⟨h1, h2, h3, h4.trans (by simp [World.setCell])⟩
theorem setC_cells {w : World} {N : Nat} {old : Array Value} {e : TypeId} {vs : List Value} (h : w.heap[N]? = some (.cells old e (0, 0))) (hl : vs.length = old.size) : SetC N vs.toArray e w (w.setCells N 0 vs) := by
  obtain ⟨h1, h2, h3, h4⟩ := setCs_same N vs 0 w
  exact ⟨h1, h2, h3, h4, by rw [heap_setCs N vs 0 w old e h, putCs_all _ _ hl], fun b hb => heap_setCs_other N b hb vs 0 w⟩
theorem setC_cell {w : World} {N o : Nat} {old : Array Value} {e : TypeId} (v : Value) (h : w.heap[N]? = some (.cells old e (0, 0))) : SetC N (old.setIfInBounds o v) e w (w.setCell ⟨N, o, none⟩ v) :=
  ⟨rfl, rfl, rfl, by simp [World.setCell], heap_setCell_same w N o old _ v h, fun b hb => heap_setCell_other w ⟨N, o, none⟩ b v hb⟩
theorem there_b {w : World} {N : Nat} {old : Array Value} {e : TypeId} {n : Nat} (h : w.heap[N]? = some (.cells old e (0, 0))) (hn : n ≤ old.size) : w.there N 0 n := fun j hj => by
  constructor
  · rw [Nat.zero_add, cell_of_row w N j old e _ h, Array.getElem?_eq_getElem (by omega)]; rfl
  · rw [Nat.zero_add, World.frozen?]; simp only [h]; simp
theorem range_b {w : World} {N : Nat} {cs : Array Value} {e : TypeId} (h : w.heap[N]? = some (.cells cs e (0, 0))) : w.rangeAt N 0 cs.toList := fun j v hv => by
  rw [Nat.zero_add, cell_of_row w N j cs e _ h, ← Array.getElem?_toList]; exact hv

section
variable {P : Program} {ops : Array Oper} {rest : List Oper} {op : Oper} {a : Act} {w : World} {Q : Exit → Act → World → Prop} {K : Act → World → Prop}
/-- A struct is stored whole. -/
theorem wpList_store_all (hgd : op.guard = none) (hds : op.dst = none) (T : TypeId) (x y : Operand) (ho : op.op = .store T x y) {T' : TypeId} (N : Nat) (old cs : Array Value) (hx : a.eval x = .pointer (some ⟨N, 0, none⟩)) (hy : a.eval y = .agg cs)
    (hz : w.heap[N]? = some (.cells old T' (0, 0))) (hs : old.size = cs.size) (hi : (P.info? T).map (·.size) = some cs.size) (h1 : cs.all (·.oneCell') = true) (h : ∀ U, SetC N cs T' w U → wpList P ops Q rest a U) : wpList P ops Q (op :: rest) a w := by
  refine wpList_store_mid hgd T x y ho N 0 cs hx hy (there_b hz (by omega)) hi h1 ?_
  rw [hds]
  exact h _ (by simpa using setC_cells (vs := cs.toList) hz (by rw [Array.length_toList]; omega))
theorem wp_store_all (T : TypeId) (x y : Operand) (ho : op.op = .store T x y) {T' : TypeId} (N : Nat) (old cs : Array Value) (hx : a.eval x = .pointer (some ⟨N, 0, none⟩)) (hy : a.eval y = .agg cs)
    (hz : w.heap[N]? = some (.cells old T' (0, 0))) (hs : old.size = cs.size) (hi : (P.info? T).map (·.size) = some cs.size) (h1 : cs.all (·.oneCell') = true) (h : ∀ U, SetC N cs T' w U → K (a.put op.dst undef) U) : op.wp P a w K Q := by
  refine wp_store_mid T x y ho N 0 cs hx hy (there_b hz (by omega)) hi h1 ?_
  exact h _ (by simpa using setC_cells (vs := cs.toList) hz (by rw [Array.length_toList]; omega))
/-- A value of one cell is stored into a field. -/
theorem run_store_cell (N o : Nat) (ty : TypeId) {T' : TypeId} (cur : Array Value) (v : Value) (hz : w.heap[N]? = some (.cells cur T' (0, 0))) (hlt : o < cur.size) (hi : (P.info? ty).map (·.size) = some 1) (h1 : v.oneCell' = true) : (storeVar ty ⟨N, o, none⟩ v).run P w = .ok () (w.setCell ⟨N, o, none⟩ v) := by
  have hc : v.cells = #[v] := by cases v <;> first | rfl | cases h1
  have := run_storeCells_cells (P := P) N o [v] 0 w (fun j hj => by
    obtain rfl : j = 0 := by simpa using hj
    rw [show o + 0 + 0 = o from rfl, cell_of_row w N o cur T' _ hz, Array.getElem?_eq_getElem hlt]; rfl) (fun j hj => by
    rw [World.frozen?]; simp only [hz]; simp) (fun x hx => by simp at hx; subst hx; exact h1)
  cases hq : P.info? ty with
  | none => simp [hq] at hi
  | some i =>
    have hs : i.size = 1 := by simpa [hq] using hi
    simp only [Nat.add_zero] at this
    simp [storeVar, sizeOf, typeInfo, hq, hc, hs, this]
    rfl
theorem wp_store_cell (hds : op.dst = none) (ty : TypeId) (x y : Operand) (ho : op.op = .store ty x y) {T' : TypeId} (N o : Nat) (cur : Array Value) (v : Value) (hx : a.eval x = .pointer (some ⟨N, o, none⟩)) (hy : a.eval y = v)
    (hz : w.heap[N]? = some (.cells cur T' (0, 0))) (hlt : o < cur.size) (hi : (P.info? ty).map (·.size) = some 1) (h1 : v.oneCell' = true) (h : ∀ U, SetC N (cur.setIfInBounds o v) T' w U → K a U) : op.wp P a w K Q := by
  unfold Oper.wp execOp
  simp only [ho, hx, hy, Instr.storeAt, Instr.sureAddr, Sem.run_bind, Sem.run_pure, Result.andThen_ok, run_store_cell N o ty cur v hz hlt hi h1]
  show K (a.put op.dst undef) _
  rw [hds]
  exact h _ (setC_cell v hz)
theorem wpList_store_cell (hgd : op.guard = none) (hds : op.dst = none) (ty : TypeId) (x y : Operand) (ho : op.op = .store ty x y) {T' : TypeId} (N o : Nat) (cur : Array Value) (v : Value) (hx : a.eval x = .pointer (some ⟨N, o, none⟩)) (hy : a.eval y = v)
    (hz : w.heap[N]? = some (.cells cur T' (0, 0))) (hlt : o < cur.size) (hi : (P.info? ty).map (·.size) = some 1) (h1 : v.oneCell' = true) (h : ∀ U, SetC N (cur.setIfInBounds o v) T' w U → wpList P ops Q rest a U) : wpList P ops Q (op :: rest) a w :=
  wpList_plain hgd fun _ hK => by
    unfold Oper.wp execOp
    simp only [ho, hx, hy, Instr.storeAt, Instr.sureAddr, Sem.run_bind, Sem.run_pure, Result.andThen_ok, run_store_cell N o ty cur v hz hlt hi h1]
    refine hK _ _ ?_
    rw [hds]
    exact h _ (setC_cell v hz)
theorem exec_load_all (T : TypeId) (x : Operand) (ho : op.op = .load T x) {T' : TypeId} (N : Nat) (cs : Array Value) (d : TypeDesc) (hx : a.eval x = .pointer (some ⟨N, 0, none⟩))
    (hz : w.heap[N]? = some (.cells cs T' (0, 0))) (hu : P.underlying T = some d) (hd : d.isRow = true) (hi : (P.info? T).map (·.size) = some cs.size) : (execOp a.eval op).run P w = .ok (.value (.agg cs)) w := by
  have hl := run_loadVar_mid (P := P) w N 0 T cs.toList d (range_b hz) hu hd (by rw [hi, Array.length_toList])
  unfold execOp
  simp only [ho, hx, Instr.loadAt, Instr.sureAddr, Sem.run_bind, Sem.run_pure, Result.andThen_ok, hl]
/-- A struct is loaded whole. -/
theorem wpList_load_all (hgd : op.guard = none) (T : TypeId) (x : Operand) (ho : op.op = .load T x) {T' : TypeId} (N : Nat) (cs : Array Value) (d : TypeDesc) (hx : a.eval x = .pointer (some ⟨N, 0, none⟩))
    (hz : w.heap[N]? = some (.cells cs T' (0, 0))) (hu : P.underlying T = some d) (hd : d.isRow = true) (hi : (P.info? T).map (·.size) = some cs.size) (h : wpList P ops Q rest (a.put op.dst (.agg cs)) w) : wpList P ops Q (op :: rest) a w :=
  wpList_load_mid hgd T x ho N 0 hx cs.toList d (range_b hz) hu hd (by rw [hi, Array.length_toList]) h
theorem wp_load_all (T : TypeId) (x : Operand) (ho : op.op = .load T x) {T' : TypeId} (N : Nat) (cs : Array Value) (d : TypeDesc) (hx : a.eval x = .pointer (some ⟨N, 0, none⟩))
    (hz : w.heap[N]? = some (.cells cs T' (0, 0))) (hu : P.underlying T = some d) (hd : d.isRow = true) (hi : (P.info? T).map (·.size) = some cs.size) (h : K (a.put op.dst (.agg cs)) w) : op.wp P a w K Q :=
  wp_load_mid T x ho N 0 hx cs.toList d (range_b hz) hu hd (by rw [hi, Array.length_toList]) h
theorem ret_all (T : TypeId) {T' : TypeId} (N : Nat) (cs : Array Value) (d : TypeDesc) (hz : w.heap[N]? = some (.cells cs T' (0, 0))) (hu : P.underlying T = some d) (hd : d.isRow = true) (hi : (P.info? T).map (·.size) = some cs.size) : (loadVar T ⟨N, 0, none⟩).run P w = .ok (.agg cs) w := by
  have := run_loadVar_mid (P := P) w N 0 T cs.toList d (range_b hz) hu hd (by rw [hi, Array.length_toList])
  simpa using this
end
end Go.Proofs.YtimiofmmhccmmaaDoor
