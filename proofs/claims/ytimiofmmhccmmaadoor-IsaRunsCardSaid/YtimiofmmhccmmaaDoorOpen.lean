/-
  An instruction and a processor by value: as they come in, and as they read. No condition.
-/
import Derived.Test.YtimiofmmhccmmaaDoorLaid4
import Derived.Test.YtimiofmmhccmmaaDoorVal
import Derived.ChangeArms
import Derived.OpenShut
import Derived.ProofKit
namespace Go.Proofs.YtimiofmmhccmmaaDoor
open Go.ChangeShapes Go.WideShapes Go.RowKit

theorem wf_i64 {n : Int} (h : I64 n) : (Lit.int .i64 n).wf = true := by
  unfold I64 at h
  simp [Lit.wf, IntKind.min, IntKind.max, IntKind.signed, IntKind.bits]
  omega
theorem cellsInst : Tryd.prog.cellsOf 23 = 5 := by kernel_rfl
theorem cellsNum : Tryd.prog.cellsOf 3 = 1 := by kernel_rfl
theorem cellsCpu : Tryd.prog.cellsOf 35 = 17 := by kernel_rfl
theorem cellsRegs : Tryd.prog.cellsOf 33 = 16 := by kernel_rfl
/-- What they read as. -/
def insD {H : Type} (i : Ins) : DataW H := .agg [.lit (.int .i64 i.op), .lit (.int .i64 i.a), .lit (.int .i64 i.b), .lit (.int .i64 i.c), .lit (.int .i64 i.imm)]
def cpuD {H : Type} (c : Cpu) : DataW H := .agg [.agg (c.r.map fun x => .lit (.int .i64 x)), .lit (.int .i64 c.pc)]
section
variable {H : Type} {enc : TypeId × Value → H} {w : World} {base : Nat} {sp : Nat → Bool} {held : Bool}
theorem num_trod {n : Nat} {x : Int} (h : I64 x) : DataW.trod enc Tryd.prog w base sp held (n + 1) 3 [.int .i64 x] = some (.lit (.int .i64 x), []) := by
  simp [DataW.trod, Tryd.underlying3, wf_i64 h]
theorem open_inst {r : Reach} {b0 : Nat} {v : Value} {d : DataW H} {ps : List MemPlace} (hval : Value.okWide Tryd.prog w r b0 23 v) (hd : DataW.Trod enc Tryd.prog w base sp held 23 v d ps) :
    ∃ i : Ins, v = insV i ∧ d = insD i ∧ ps = [] ∧ i.Fits := by
  obtain ⟨cs, rfl, hsz⟩ := okWide_struct Tryd.underlying23 hval
  rw [cellsInst] at hsz
  obtain ⟨l⟩ := cs
  match l, hsz with
  | [c0, c1, c2, c3, c4], _ =>
  obtain ⟨fuel, hf⟩ := hd
  obtain ⟨xs, n, _, hx, _, hlen, hp⟩ := DataW.trod_struct Tryd.underlying23 hf
  match xs, hlen with
  | [y0, y1, y2, y3, y4], _ =>
  have h0 := hp 0 _ rfl
  have h1 := hp 1 _ rfl
  have h2 := hp 2 _ rfl
  have h3 := hp 3 _ rfl
  have h4 := hp 4 _ rfl
  obtain ⟨a0, e0, rfl, w0⟩ := DataW.trod_int Tryd.underlying3 h0
  obtain ⟨a1, e1, rfl, w1⟩ := DataW.trod_int Tryd.underlying3 h1
  obtain ⟨a2, e2, rfl, w2⟩ := DataW.trod_int Tryd.underlying3 h2
  obtain ⟨a3, e3, rfl, w3⟩ := DataW.trod_int Tryd.underlying3 h3
  obtain ⟨a4, e4, rfl, w4⟩ := DataW.trod_int Tryd.underlying3 h4
  simp [Value.cells, cellsNum] at e0 e1 e2 e3 e4
  subst e0 e1 e2 e3 e4
  simp only [Prod.mk.injEq] at hx
  obtain ⟨rfl, rfl⟩ := hx
  exact ⟨⟨a0, a1, a2, a3, a4⟩, rfl, rfl, rfl, ⟨i64_wf w0, i64_wf w1, i64_wf w2, i64_wf w3, i64_wf w4⟩⟩
theorem shut_inst {i : Ins} (hi : i.Fits) : DataW.Trod enc Tryd.prog w base sp held 23 (insV i) (insD i) [] := ⟨2, by
  have := trod_struct_mk (enc := enc) (P := Tryd.prog) (w := w) (base := base) (spare := sp) (held := held) (n := 1) (cs := [.int .i64 i.op, .int .i64 i.a, .int .i64 i.b, .int .i64 i.c, .int .i64 i.imm]) (xs := [(.lit (.int .i64 i.op), []), (.lit (.int .i64 i.a), []), (.lit (.int .i64 i.b), []), (.lit (.int .i64 i.c), []), (.lit (.int .i64 i.imm), [])]) Tryd.underlying23 (by simp [cellsInst]) (by
    simp [cellsNum, num_trod hi.op, num_trod hi.a, num_trod hi.b, num_trod hi.c, num_trod hi.imm])
  simpa [Value.cells, insD] using this⟩
theorem row_ints {m : Nat} : ∀ (xs : List (DataW H × List MemPlace)) (cs : List Value), cs.length = xs.length → (∀ i : Nat, i < xs.length → DataW.trod enc Tryd.prog w base sp held m 3 ((cs.drop i).take 1) = xs[i]?) →
    ∃ rl : List Int, cs = rl.map (Value.int .i64) ∧ xs = rl.map (fun x => (DataW.lit (.int .i64 x), [])) ∧ ∀ x ∈ rl, I64 x
  | [], [], _, _ => ⟨[], rfl, rfl, fun _ h => by cases h⟩
  | y :: ys, c :: cs, hl, h => by
    have h0 := h 0 (by simp)
    obtain ⟨n, e, hy, wn⟩ := DataW.trod_int (x := y) Tryd.underlying3 h0
    obtain ⟨rl, r1, r2, r3⟩ := row_ints ys cs (by simpa using hl) (fun i hi => by
      have := h (i + 1) (by simp; omega)
      simpa using this)
    simp only [List.drop_zero, List.take_succ_cons, List.take_zero, List.cons.injEq, and_true] at e
    refine ⟨n :: rl, by rw [e, r1]; rfl, by rw [hy, r2]; rfl, fun x hx => ?_⟩
    rcases List.mem_cons.1 hx with rfl | hx
    · exact i64_wf wn
    · exact r3 x hx
theorem open_cpu {r : Reach} {b0 : Nat} {v : Value} {d : DataW H} {ps : List MemPlace} (hval : Value.okWide Tryd.prog w r b0 35 v) (hd : DataW.Trod enc Tryd.prog w base sp held 35 v d ps) :
    ∃ c : Cpu, v = .agg (cpuC c) ∧ d = cpuD c ∧ ps = [] ∧ c.Fits := by
  obtain ⟨cs, rfl, hsz⟩ := okWide_struct Tryd.underlying35 hval
  rw [cellsCpu] at hsz
  obtain ⟨l⟩ := cs
  simp only [List.size_toArray] at hsz
  obtain ⟨fuel, hf⟩ := hd
  obtain ⟨y0, y1, n, hx, _, h0, h1⟩ := trod_struct2 Tryd.underlying35 hf
  obtain ⟨pc, e1, rfl, wp⟩ := DataW.trod_int Tryd.underlying3 h1
  obtain ⟨xs, m, _, rfl, hl, hxl, hp⟩ := DataW.trod_array Tryd.underlying33 h0
  simp only [Value.cells, cellsNum, cellsRegs, List.drop_zero, Nat.mul_one] at e1 hl hp
  obtain ⟨rl, r1, r2, r3⟩ := row_ints (enc := enc) (w := w) (base := base) (sp := sp) (held := held) xs (l.take 16) (by rw [hxl]; simp; omega) (fun i hi => hp i (by omega))
  have hrl : rl.length = 16 := by
    have := congrArg List.length r2
    simp at this
    omega
  have hcl : l = rl.map (Value.int .i64) ++ [.int .i64 pc] := by
    rw [← List.take_append_drop 16 l, r1]
    congr 1
    rw [← e1]
    exact (List.take_of_length_le (by simp; omega)).symm
  simp only [Prod.mk.injEq] at hx
  obtain ⟨rfl, rfl⟩ := hx
  refine ⟨⟨rl, pc⟩, by rw [hcl]; rfl, ?_, ?_, ⟨hrl, fun k => ?_, i64_wf wp⟩⟩
  · rw [r2]
    simp [cpuD]
  · rw [r2]
    simp
  · rw [List.getD_eq_getElem?_getD]
    cases hk : rl[k]? with
    | none => exact ⟨by decide, by decide⟩
    | some x => exact r3 x (List.mem_of_getElem? hk)
theorem shut_cpu {c : Cpu} (hc : c.Fits) : DataW.Trod enc Tryd.prog w base sp held 35 (.agg (cpuC c)) (cpuD c) [] := ⟨3, by
  have hf := hc.r
  have hp := hc.pc
  have hl := hc.len
  obtain ⟨r, pc⟩ := c
  obtain ⟨a0, a1, a2, a3, a4, a5, a6, a7, a8, a9, a10, a11, a12, a13, a14, a15, rfl⟩ := list16 hl
  have g : ∀ k, I64 (([a0, a1, a2, a3, a4, a5, a6, a7, a8, a9, a10, a11, a12, a13, a14, a15] : List Int).getD k 0) := hf
  have n0 : DataW.trod enc Tryd.prog w base sp held 1 3 [.int .i64 a0] = some (.lit (.int .i64 a0), []) := num_trod (n := 0) (g 0)
  have n1 : DataW.trod enc Tryd.prog w base sp held 1 3 [.int .i64 a1] = some (.lit (.int .i64 a1), []) := num_trod (n := 0) (g 1)
  have n2 : DataW.trod enc Tryd.prog w base sp held 1 3 [.int .i64 a2] = some (.lit (.int .i64 a2), []) := num_trod (n := 0) (g 2)
  have n3 : DataW.trod enc Tryd.prog w base sp held 1 3 [.int .i64 a3] = some (.lit (.int .i64 a3), []) := num_trod (n := 0) (g 3)
  have n4 : DataW.trod enc Tryd.prog w base sp held 1 3 [.int .i64 a4] = some (.lit (.int .i64 a4), []) := num_trod (n := 0) (g 4)
  have n5 : DataW.trod enc Tryd.prog w base sp held 1 3 [.int .i64 a5] = some (.lit (.int .i64 a5), []) := num_trod (n := 0) (g 5)
  have n6 : DataW.trod enc Tryd.prog w base sp held 1 3 [.int .i64 a6] = some (.lit (.int .i64 a6), []) := num_trod (n := 0) (g 6)
  have n7 : DataW.trod enc Tryd.prog w base sp held 1 3 [.int .i64 a7] = some (.lit (.int .i64 a7), []) := num_trod (n := 0) (g 7)
  have n8 : DataW.trod enc Tryd.prog w base sp held 1 3 [.int .i64 a8] = some (.lit (.int .i64 a8), []) := num_trod (n := 0) (g 8)
  have n9 : DataW.trod enc Tryd.prog w base sp held 1 3 [.int .i64 a9] = some (.lit (.int .i64 a9), []) := num_trod (n := 0) (g 9)
  have n10 : DataW.trod enc Tryd.prog w base sp held 1 3 [.int .i64 a10] = some (.lit (.int .i64 a10), []) := num_trod (n := 0) (g 10)
  have n11 : DataW.trod enc Tryd.prog w base sp held 1 3 [.int .i64 a11] = some (.lit (.int .i64 a11), []) := num_trod (n := 0) (g 11)
  have n12 : DataW.trod enc Tryd.prog w base sp held 1 3 [.int .i64 a12] = some (.lit (.int .i64 a12), []) := num_trod (n := 0) (g 12)
  have n13 : DataW.trod enc Tryd.prog w base sp held 1 3 [.int .i64 a13] = some (.lit (.int .i64 a13), []) := num_trod (n := 0) (g 13)
  have n14 : DataW.trod enc Tryd.prog w base sp held 1 3 [.int .i64 a14] = some (.lit (.int .i64 a14), []) := num_trod (n := 0) (g 14)
  have n15 : DataW.trod enc Tryd.prog w base sp held 1 3 [.int .i64 a15] = some (.lit (.int .i64 a15), []) := num_trod (n := 0) (g 15)
  have f0 : DataW.trod enc Tryd.prog w base sp held 2 33 [.int .i64 a0, .int .i64 a1, .int .i64 a2, .int .i64 a3, .int .i64 a4, .int .i64 a5, .int .i64 a6, .int .i64 a7, .int .i64 a8, .int .i64 a9, .int .i64 a10, .int .i64 a11, .int .i64 a12, .int .i64 a13, .int .i64 a14, .int .i64 a15] = some (.agg (([a0, a1, a2, a3, a4, a5, a6, a7, a8, a9, a10, a11, a12, a13, a14, a15] : List Int).map fun x => .lit (.int .i64 x)), []) := by
    unfold DataW.trod
    rw [Tryd.underlying33]
    simp [cellsRegs, cellsNum, List.range, List.range.loop, n0, n1, n2, n3, n4, n5, n6, n7, n8, n9, n10, n11, n12, n13, n14, n15]
  have := trod_struct2_mk (enc := enc) (w := w) (base := base) (spare := sp) (held := held) (n := 2) (cs := [.int .i64 a0, .int .i64 a1, .int .i64 a2, .int .i64 a3, .int .i64 a4, .int .i64 a5, .int .i64 a6, .int .i64 a7, .int .i64 a8, .int .i64 a9, .int .i64 a10, .int .i64 a11, .int .i64 a12, .int .i64 a13, .int .i64 a14, .int .i64 a15, .int .i64 pc]) Tryd.underlying35 (by simp [cellsCpu]) (by simpa [cellsRegs] using f0) (by simpa [cellsNum] using num_trod (n := 1) hp)
  simpa [Value.cells, cpuC, cpuD] using this⟩
end
end Go.Proofs.YtimiofmmhccmmaaDoor
