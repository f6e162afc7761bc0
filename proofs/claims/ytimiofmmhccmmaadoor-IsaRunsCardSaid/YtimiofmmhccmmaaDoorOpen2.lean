/-
  Slices of numbers and of instructions that came in. No condition.
-/
import Derived.Test.YtimiofmmhccmmaaDoorOpen
import Derived.Test.YtimiofmmhccmmaaDoorWrd
import Derived.Deep.Slices
import Derived.Deep.Fields
namespace Go.Proofs.YtimiofmmhccmmaaDoor
open Go.ChangeShapes Go.WideShapes Go.RowKit

/-- The address of a cell that is there lies in no spot. -/
theorem bare_addr {w : World} {x : Addr} {v : Value} (h : w.cell? x = some v) : x = ⟨x.block, x.off, none⟩ ∧ x.block < w.heap.size := by
  obtain ⟨b, o, s⟩ := x
  cases s with
  | none =>
    refine ⟨rfl, ?_⟩
    unfold World.cell? at h
    cases hb : w.heap[b]? with
    | none => simp only [hb] at h; cases h
    | some ob => exact (Array.getElem?_eq_some_iff.1 hb).1
  | some s =>
    unfold World.cell? at h
    simp only at h
    split at h
    · simp at h
    · cases h
theorem add_zero (x : Addr) : x.add 0 = x := by unfold Addr.add; simp
theorem nums_of_row {w : World} {x : Addr} {len cap : Nat} {zs : List Int} (hl : len ≤ cap) (hm : cap ≤ maxLen) (hz : zs.length = cap) (hcell : ∀ i, i < zs.length → w.cell? (x.add i) = some (.int .i64 (zs.getD i 0))) (hw : ∀ n ∈ zs, (Lit.int .i64 n).wf = true) :
    Nums w (some x) cap (zs.take len) := by
  have hlen : (zs.take len).length = len := by rw [List.length_take]; omega
  refine ⟨fun k => ?_, by rw [hlen]; exact hl, hm, (fun h => by cases h), fun hne => ?_⟩
  · rw [List.getD_eq_getElem?_getD, List.getElem?_take]
    split
    · cases hk : zs[k]? with
      | none => exact ⟨by decide, by decide⟩
      | some n => exact i64_wf (hw n (List.mem_of_getElem? hk))
    · exact ⟨by decide, by decide⟩
  · have h0 : 0 < len := by
      rcases Nat.eq_zero_or_pos len with h | h
      · subst h; simp at hne
      · exact h
    have hc := hcell 0 (by omega)
    rw [add_zero] at hc
    obtain ⟨e, hb⟩ := bare_addr hc
    refine ⟨x.block, x.off, by rw [← e], hb, fun k hk => ?_⟩
    rw [hlen] at hk
    have := hcell k (by omega)
    rw [e, Addr.add_lit] at this
    rw [this, List.getD_eq_getElem?_getD, List.getD_eq_getElem?_getD, List.getElem?_take, if_pos hk]
section
variable {H : Type} {enc : TypeId × Value → H} {w : World} {base : Nat} {sp : Nat → Bool} {held : Bool}
theorem inst_of_cells {fuel : Nat} {cs : List Value} {x : DataW H × List MemPlace} (hc : cs.length = 5) (hf : DataW.trod enc Tryd.prog w base sp held fuel 23 cs = some x) :
    ∃ i : Ins, cs = [.int .i64 i.op, .int .i64 i.a, .int .i64 i.b, .int .i64 i.c, .int .i64 i.imm] ∧ i.Fits := by
  match cs, hc with
  | [c0, c1, c2, c3, c4], _ =>
  obtain ⟨xs, n, _, hx, _, hlen, hp⟩ := DataW.trod_struct Tryd.underlying23 hf
  match xs, hlen with
  | [y0, y1, y2, y3, y4], _ =>
  have h0 := hp 0 _ rfl
  have h1 := hp 1 _ rfl
  have h2 := hp 2 _ rfl
  have h3 := hp 3 _ rfl
  have h4 := hp 4 _ rfl
  obtain ⟨a0, e0, rfl, w0⟩ := DataW.trod_int Tryd.underlying3 h0
  obtain ⟨a1, e1, rfl, w1⟩ := DataW.trod_int Tryd.underlying3 h1
  obtain ⟨a2, e2, rfl, w2⟩ := DataW.trod_int Tryd.underlying3 h2
  obtain ⟨a3, e3, rfl, w3⟩ := DataW.trod_int Tryd.underlying3 h3
  obtain ⟨a4, e4, rfl, w4⟩ := DataW.trod_int Tryd.underlying3 h4
  simp [cellsNum] at e0 e1 e2 e3 e4
  subst e0 e1 e2 e3 e4
  exact ⟨⟨a0, a1, a2, a3, a4⟩, rfl, ⟨i64_wf w0, i64_wf w1, i64_wf w2, i64_wf w3, i64_wf w4⟩⟩
theorem open_insts {fuel : Nat} {cs : List Value} {x : DataW H × List MemPlace} (h : DataW.trod enc Tryd.prog w base sp held fuel 36 cs = some x) :
    ∃ (A : Option Addr) (cap : Nat) (ls : List Ins), cs = [.slice A ls.length cap] ∧ ls.length ≤ cap ∧ cap ≤ maxLen ∧ Inss w A cap ls := by
  rcases Go.Deep.open_slice Tryd.underlying36 h with ⟨hcs, _⟩ | ⟨a, len, cap, m, n, D, Pl, hcs, hb, hl, hm, hmm, hx, hi⟩
  · exact ⟨none, 0, [], hcs, by simp, by simp [maxLen], ⟨(fun _ h => by cases h), fun h => absurd rfl h⟩⟩
  · have hlm : len ≤ m := by rw [hmm]; split <;> omega
    have each : ∀ i, i < len → ∃ q : Ins, q.Fits ∧ ∀ j v, ([Value.int .i64 q.op, .int .i64 q.a, .int .i64 q.b, .int .i64 q.c, .int .i64 q.imm] : List Value)[j]? = some v → w.cell? (a.add (i * 5 + j)) = some v := by
      intro i hil
      obtain ⟨cs', hc, ht⟩ := hi i (by omega)
      rw [cellsInst] at hc
      obtain ⟨_, hcl, hat⟩ := World.cells?_some hc
      obtain ⟨q, rfl, hq⟩ := inst_of_cells hcl ht
      refine ⟨q, hq, fun j v hj => ?_⟩
      have hjl : j < 5 := (List.getElem?_eq_some_iff.1 hj).1
      rw [← Go.Deep.add_add, hat j hjl, hj]
    haveI : Inhabited Ins := ⟨⟨0, 0, 0, 0, 0⟩⟩
    obtain ⟨V, hV⟩ := Go.Deep.choose_lt (α := Ins) (p := fun i q => q.Fits ∧ ∀ j v, ([Value.int .i64 q.op, .int .i64 q.a, .int .i64 q.b, .int .i64 q.c, .int .i64 q.imm] : List Value)[j]? = some v → w.cell? (a.add (i * 5 + j)) = some v) each
    refine ⟨some a, cap, (List.range len).map V, by simpa using hcs, by simpa using hl, hm, fun i hi => ?_, fun hne => ?_⟩
    · obtain ⟨k, hk, rfl⟩ := List.mem_map.1 hi
      exact (hV k (List.mem_range.1 hk)).1
    · have h0 : 0 < len := by
        rcases Nat.eq_zero_or_pos len with h | h
        · subst h; simp at hne
        · exact h
      have hc := (hV 0 h0).2 0 _ rfl
      rw [Nat.zero_mul, Nat.add_zero, add_zero] at hc
      obtain ⟨e, hblt⟩ := bare_addr hc
      refine ⟨a.block, a.off, by rw [← e], hblt, fun k hk => ?_⟩
      have hk2 : k < len := by simpa using hk
      have q := (hV k hk2).2
      rw [e] at q
      simp only [List.getElem_map, List.getElem_range]
      have r := fun j v hj => (Addr.add_lit a.block a.off (k * 5 + j)) ▸ q j v hj
      refine ⟨?_, ?_, ?_, ?_, ?_⟩
      · exact r 0 _ rfl
      · exact r 1 _ rfl
      · exact r 2 _ rfl
      · exact r 3 _ rfl
      · exact r 4 _ rfl
end
end Go.Proofs.YtimiofmmhccmmaaDoor
