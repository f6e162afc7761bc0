/-
  Functions of a program that is being made: their rows, and how one more is appended. No condition. Sub-programs of the generator's Program; worlds that are alike but for some blocks. No condition. The end of a round of the generator's Program: the statement of a function's end, and the function in its row. Conditions: the rows are the round's own. The middle of a round of the generator's Program: a return of one of the names, or none. Conditions: the maker with rows of its own; the round's rows. The middle of a round of the generator's Program, walked. Conditions: the maker with rows of its own; the round's rows. The head of a round of the generator's Program: the names, the statements, and what follows. Conditions: what stmts makes; the round's rows. A round of the generator's Program. Conditions: what stmts makes; the program's rows so far.
-/
import Derived.Test.YtchibamdkaejdaaDoorZA
import Derived.Test.YtchibamdkaejdaaDoorZCx
import Derived.Test.YtchibamdkaejdaaDoorZPr
import Derived.Test.YtchibamdkaejdaaDoorZCa
import Derived.Test.YtchibamdkaejdaaDoorZBo
namespace Go.Proofs.YtchibamdkaejdaaDoor
open Go.RowKit

section
variable {w w' : World} {p q : Nat → Prop}
theorem StRow.keepP {d l c : Nat} {A : Option Addr} {ns : List Nat} (hE : KeptE w w') (hS : ∀ b cur fr, p b → w.heap[b]? = some (.cells cur 75 fr) → w'.heap[b]? = some (.cells cur 75 fr)) (h : StRow w p d A l c ns) : StRow w' p d A l c ns := by
 obtain ⟨⟨a1, a2, a3, a4⟩, hh⟩ := h
 refine ⟨⟨a1, a2, a3, fun hl => ?_⟩, hh⟩
 obtain ⟨b, cur, fr, hA, hb, hc⟩ := a4 hl
 obtain ⟨b', o, hA', hpb⟩ := hh hl
 rw [hA] at hA'
 injection hA' with hA'
 injection hA' with hA'
 subst hA'
 refine ⟨b, cur, fr, hA, hS b cur fr hpb hb, fun k n hkn => ?_⟩
 obtain ⟨vs, hl', hcell, hP⟩ := hc k n hkn
 exact ⟨vs, hl', hcell, hP.keep hE hS⟩
theorem StRow.deep {d d' l c : Nat} {A : Option Addr} {ns : List Nat} (h : StRow w p d A l c ns) (hd : d ≤ d') : StRow w p d' A l c ns := ⟨h.1.up (fun _ _ hv => hv.le hd), h.2⟩
end
/-- The four names of parameters, in a block of their own. -/
def abcd : Array Value := #[.string ⟨#[97]⟩, .string ⟨#[98]⟩, .string ⟨#[99]⟩, .string ⟨#[100]⟩]
/-- The first l names of parameters, in a block below N. -/
def ParRow (w : World) (N : Nat) (A : Option Addr) (l c : Nat) : Prop := l ≤ 4 ∧ c = 4 ∧ ∃ b, A = some ⟨b, 0, none⟩ ∧ b < N ∧ w.heap[b]? = some (.cells abcd 9 (0, 0))
/-- A function whose rows lie below N. -/
def FnIn (w : World) (N : Nat) (v : Value) : Prop := ∃ (nm : ByteArray) (A1 A2 : Option Addr) (l1 c1 l2 c2 : Nat) (ns : List Nat),
 v = .agg #[.string nm, .int .i64 0, .slice A1 l1 c1, .slice A2 l2 c2] ∧ nm.size ≤ 20 ∧ ParRow w N A1 l1 c1 ∧ StRow w (fun b => b < N) 50 A2 l2 c2 ns ∧ ns.sum ≤ 100000
/-- Rows of names and of statements below N are kept. -/
def KeptN (N : Nat) (w w' : World) : Prop := ∀ (b : Nat) (cur : Array Value) (e : TypeId) (fr : Nat × Nat), b < N → (e = 9 ∨ e = 75) → w.heap[b]? = some (.cells cur e fr) → w'.heap[b]? = some (.cells cur e fr)
theorem ParRow.keep {w w' : World} {N N' l c : Nat} {A : Option Addr} (h : ParRow w N A l c) (hN : N ≤ N') (hk : KeptN N w w') : ParRow w' N' A l c := by
 obtain ⟨h1, h2, b, h3, h4, h5⟩ := h
 exact ⟨h1, h2, b, h3, Nat.lt_of_lt_of_le h4 hN, hk b _ _ _ h4 (.inl rfl) h5⟩
theorem ParRow.words {w : World} {N l c : Nat} {A : Option Addr} (h : ParRow w N A l c) : WordRow w A l c := by
 obtain ⟨h1, rfl, b, h3, h4, h5⟩ := h
 refine ⟨h1, by decide, by omega, fun _ => ⟨b, h3, (Array.getElem?_eq_some_iff.1 h5).1, fun k hk => ?_⟩⟩
 have : k = 0 ∨ k = 1 ∨ k = 2 ∨ k = 3 := by omega
 rcases this with rfl | rfl | rfl | rfl
 ·exact ⟨⟨#[97]⟩, by decide, by rw [cell_of_row w b 0 _ _ _ h5]; rfl⟩
 ·exact ⟨⟨#[98]⟩, by decide, by rw [cell_of_row w b 1 _ _ _ h5]; rfl⟩
 ·exact ⟨⟨#[99]⟩, by decide, by rw [cell_of_row w b 2 _ _ _ h5]; rfl⟩
 ·exact ⟨⟨#[100]⟩, by decide, by rw [cell_of_row w b 3 _ _ _ h5]; rfl⟩
theorem FnIn.keep {w w' : World} {N N' : Nat} {v : Value} (h : FnIn w N v) (hN : N ≤ N') (hE : KeptE w w') (hk : KeptN N w w') : FnIn w' N' v := by
 obtain ⟨nm, A1, A2, l1, c1, l2, c2, ns, h1, h2, h3, h4, h5⟩ := h
 exact ⟨nm, A1, A2, l1, c1, l2, c2, ns, h1, h2, h3.keep hN hk, (h4.keepP hE (fun b cur fr hb hx => hk b cur _ fr hb (.inr rfl) hx)).mono (fun b _ hb => Nat.lt_of_lt_of_le hb hN), h5⟩
/-- A row of functions of its own, from D on; their rows lie below N. -/
def FnsAt (w : World) (N D : Nat) (A : Option Addr) (l c : Nat) : Prop := ∃ xs : List Value, w.ownsRow D 60 4 (.slice A l c) l xs ∧
 ∀ k, k < l → ∃ vs : List Value, vs.length = 4 ∧ (∀ j, j < 4 → xs[k * 4 + j]? = vs[j]?) ∧ FnIn w N (.agg vs.toArray)
theorem FnsAt.nil (w : World) (N D : Nat) : FnsAt w N D none 0 0 := ⟨[], World.ownsRow_nil w D _ 4, fun k hk => by omega⟩
theorem FnsAt.place {w : World} {N D l c : Nat} {A : Option Addr} (h : FnsAt w N D A l c) : ∀ g, blk A = some g → D ≤ g ∧ g < w.heap.size ∧ ∃ cur, w.heap[g]? = some (.cells cur 60 (0, 0)) := by
 obtain ⟨xs, ⟨h1, h2⟩, hx⟩ := h
 intro g hg
 rcases h2 with ⟨e, _⟩ | ⟨g', cap, cur, e, hb, hgg, hr⟩
 ·injection e with e1
  rw [e1] at hg
  exact absurd hg (by simp [blk])
 ·injection e with e1
  rw [e1] at hg
  simp only [blk, Option.map_some, Option.some.injEq] at hg
  subst hg
  exact ⟨hb, (Array.getElem?_eq_some_iff.1 hgg).1, cur, hgg⟩
theorem FnsAt.keep {w w' : World} {N N' D l c : Nat} {A : Option Addr} (h : FnsAt w N D A l c) (hN : N ≤ N') (hA : ∀ g, blk A = some g → w'.heap[g]? = w.heap[g]?) (hE : KeptE w w') (hk : KeptN N w w') : FnsAt w' N' D A l c := by
 obtain ⟨xs, ⟨h1, h2⟩, hx⟩ := h
 refine ⟨xs, ⟨h1, ?_⟩, fun k hkl => ?_⟩
 ·rcases h2 with h2 | ⟨g, cap, cur, e, hb, hg, hr⟩
  ·exact .inl h2
  ·refine .inr ⟨g, cap, cur, e, hb, (hA g ?_).trans hg, hr⟩
   injection e with e1
   rw [e1]
   rfl
 ·obtain ⟨vs, hv, hc, hP⟩ := hx k hkl
  exact ⟨vs, hv, hc, hP.keep hN hE hk⟩
theorem func_parts : ∃ i : TypeInfo, Tryd.prog.info? 60 = some i ∧ i.zero = some (.agg #[.string ⟨#[]⟩, .int .i64 0, .slice none 0 0, .slice none 0 0]) ∧ i.size = 4 ∧ i.bytes = 72 := by
 have h : (Tryd.prog.info? 60).map (fun i => (i.zero, i.size, i.bytes)) = some (some (.agg #[.string ⟨#[]⟩, .int .i64 0, .slice none 0 0, .slice none 0 0]), 4, 72) := by kernel_rfl
 cases hi : Tryd.prog.info? 60 with
 | none => rw [hi] at h; exact absurd h (by simp)
 | some i =>
  rw [hi] at h
  simp only [Option.map_some, Option.some.injEq, Prod.mk.injEq] at h
  exact ⟨i, rfl, h.1, h.2.1, h.2.2⟩
/-- One function is appended to the row of functions. -/
theorem wp_append_fn {o : Oper} {a : Act} {w : World} {K : Act → World → Prop} {Q : Exit → Act → World → Prop} (s x : Operand)
  (ho : o.op = .call { callee := .builtin .append, args := #[s, x], argTypes := #[43, 43] })
  (N D Y l c c1 : Nat) (A : Option Addr) (cs : Array Value) (hs : a.eval s = .slice A l c) (hA : FnsAt w N D A l c) (hx : a.eval x = .slice (some ⟨Y, 0, none⟩) 1 c1)
  (hY : w.heap[Y]? = some (.cells cs 60 (0, 0))) (hcs : cs.size = 4) (h1 : ∀ u ∈ cs.toList, u.oneCell' = true) (hfn : FnIn w N (.agg cs)) (hl : l + 1 ≤ 1000) (hD : D ≤ w.heap.size)
  (h : ∀ A' c' w2, w.grownBy w2 (blk A) → FnsAt w2 N D A' (l + 1) c' → K (a.put o.dst (.slice A' (l + 1) c')) w2) : o.wp Tryd.prog a w K Q := by
 obtain ⟨i, hi, hz, hsz, hby⟩ := func_parts
 have hpl := hA.place
 obtain ⟨xs, hrow, hxs⟩ := hA
 have hlen := hrow.1
 have hrow' := hrow
 rw [← hsz] at hrow'
 refine wp_append_at w s x 43 ho D 60 i _ Tryd.underlying43 hi hz (by rw [hsz]; rfl) (by omega) _ l xs hs hrow' ⟨Y, 0, none⟩ 1 c1 cs.toList hx (by rw [hsz, Array.length_toList, hcs]) (fun j u hu => ?_) h1 (by omega) (by unfold maxLen; omega) (by rw [hby]; omega) hD ?_
 ·rw [Addr.add_mid, Nat.zero_add, cell_of_row w Y j _ _ _ hY, ← Array.getElem?_toList]
  exact hu
 ·intro v' w2 g1 g2 g3
  rw [hsz] at g1
  have hv : ∃ A' c', v' = .slice A' (l + 1) c' := by
   rcases g1.2 with ⟨_, e0⟩ | ⟨g, cap, cur, e, _⟩
   ·exact absurd e0 (by omega)
   ·exact ⟨_, _, e⟩
  obtain ⟨A', c', rfl⟩ := hv
  rw [ownBlock_slice] at g2
  have hne : ∀ (b : Nat) (cur : Array Value) (e : TypeId) (fr : Nat × Nat), e ≠ 60 → w.heap[b]? = some (.cells cur e fr) → w2.heap[b]? = some (.cells cur e fr) := fun b cur e fr he hb => (g2.block b (Array.getElem?_eq_some_iff.1 hb).1 (fun ee => by
   obtain ⟨_, _, cur', hc⟩ := hpl b ee.symm
   rw [hb] at hc
   simp only [Option.some.injEq, Obj.cells.injEq] at hc
   exact he hc.2.1)).trans hb
  have hE : KeptE w w2 := fun b cur fr hb => hne b cur _ fr (by decide) hb
  have hk : KeptN N w w2 := fun b cur e fr _ he hb => hne b cur e fr (by rcases he with rfl | rfl <;> decide) hb
  refine h A' c' w2 g2 ⟨xs ++ cs.toList, g1, fun k hkl => ?_⟩
  by_cases hkk : k < l
  ·obtain ⟨vs, hv, hc, hP⟩ := hxs k hkk
   refine ⟨vs, hv, fun j hj => ?_, hP.keep (Nat.le_refl _) hE hk⟩
   rw [List.getElem?_append_left (by omega)]
   exact hc j hj
  ·obtain rfl : k = l := by omega
   refine ⟨cs.toList, by rw [Array.length_toList, hcs], fun j hj => ?_, by simpa using hfn.keep (Nat.le_refl _) hE hk⟩
   rw [List.getElem?_append_right (by omega), hlen, Nat.add_sub_cancel_left]
end Go.Proofs.YtchibamdkaejdaaDoor
namespace Go.Proofs.YtchibamdkaejdaaDoor
open Go.RowKit

/-- The sub-programs of a program. -/
def pFst : Code → Code
 | .seq a _ => a
 | c => c
def pSnd : Code → Code
 | .seq _ b => b
 | c => c
def pIn : Code → Code
 | .block _ c => c
 | .loop c => c
 | c => c
/-- One sub-program of a program put in place of another. -/
def oFst (f : Code → Code) : Code → Code
 | .seq a b => .seq (f a) b
 | c => c
def oSnd (f : Code → Code) : Code → Code
 | .seq a b => .seq a (f b)
 | c => c
def oIn (f : Code → Code) : Code → Code
 | .block n c => .block n (f c)
 | .loop c => .loop (f c)
 | c => c
/-- The round of Program; behind the two first regions; behind the statements; the last two regions. -/
noncomputable def pgZ : Code := pIn (pFst (pSnd (pIn (pIn (pSnd (pFst (pSnd (pSnd (pSnd (pSnd (pSnd (Tryd.f17.body.getD .skip))))))))))))
noncomputable def pgH : Code := pSnd (pSnd pgZ)
noncomputable def pgM : Code := pSnd (pSnd (pSnd (pSnd pgH)))
noncomputable def pgT : Code := pSnd pgM
/-- Two worlds are alike but for the blocks C. -/
structure But (C : Nat → Prop) (w w' : World) : Prop where
 os : w'.os = w.os
 tape : w'.tape = w.tape
 output : w'.output = w.output
 size : w.heap.size ≤ w'.heap.size
 block : ∀ b : Nat, b < w.heap.size → ¬ C b → w'.heap[b]? = w.heap[b]?
section
variable {C C' : Nat → Prop} {w w' w'' : World}
theorem But.refl (C : Nat → Prop) (w : World) : But C w w := ⟨rfl, rfl, rfl, Nat.le_refl _, fun _ _ _ => rfl⟩
theorem But.trans (h : But C w w') (k : But C w' w'') : But C w w'' :=
 ⟨k.os.trans h.os, k.tape.trans h.tape, k.output.trans h.output, Nat.le_trans h.size k.size, fun b hb hc => (k.block b (Nat.lt_of_lt_of_le hb h.size) hc).trans (h.block b hb hc)⟩
theorem But.of_below (h : Below w.heap.size w w') : But C w w' := ⟨h.os, h.tape, h.output, h.size, fun b hb _ => h.block b hb⟩
theorem But.alloc (h : But C w w') (o : Obj) : But C w (w'.alloc o) := h.trans (But.of_below ((Below.refl _ _).alloc (Nat.le_refl _) o))
theorem But.of_grown {row : Option Nat} (h : w.grownBy w' row) (hc : ∀ b, row = some b → C b) : But C w w' := ⟨h.os, h.tape, h.output, h.size, fun b hb hn => h.block b hb (fun e => hn (hc b e.symm))⟩
theorem But.of_setB {N : Nat} {cs : Array Value} {e : TypeId} (h : SetB N cs e w w') (hc : C N) : But C w w' := ⟨h.os, h.tape, h.output, Nat.le_of_eq h.size.symm, fun b _ hn => h.block b (fun e => hn (e ▸ hc))⟩
theorem But.at_ (h : But C w w') {b : Nat} {o : Obj} (hb : w.heap[b]? = some o) (hn : ¬ C b) : w'.heap[b]? = some o := (h.block b (Array.getElem?_eq_some_iff.1 hb).1 hn).trans hb
theorem But.mono (h : But C w w') (hc : ∀ b, b < w.heap.size → C b → C' b) : But C' w w' := ⟨h.os, h.tape, h.output, h.size, fun b hb hn => h.block b hb (fun c => hn (hc b hb c))⟩
end
theorem StsAt.deep {w : World} {N d d' l c : Nat} {A : Option Addr} {ns : List Nat} (h : StsAt w N d A l c ns) (hd : d ≤ d') : StsAt w N d' A l c ns := by
 obtain ⟨xs, h1, hl, hx⟩ := h
 refine ⟨xs, h1, hl, fun k n hk => ?_⟩
 obtain ⟨vs, hv, hc, hP⟩ := hx k n hk
 exact ⟨vs, hv, hc, hP.le hd⟩
theorem differ {w : World} {b b' : Nat} {cur cur' : Array Value} {e e' : TypeId} {fr fr' : Nat × Nat} (h : w.heap[b]? = some (.cells cur e fr)) (h' : w.heap[b']? = some (.cells cur' e' fr')) (he : e ≠ e') : b ≠ b' := fun ee => by
 subst ee
 rw [h] at h'
 simp only [Option.some.injEq, Obj.cells.injEq] at h'
 exact he h'.2.1
theorem at_frozen {w : World} {b o : Nat} {cur : Array Value} {e : TypeId} (h : w.heap[b]? = some (.cells cur e (0, 0))) : w.frozen? ⟨b, o, none⟩ = false := by rw [World.frozen?]; simp only [h]; simp
theorem at_cell {w : World} {b o : Nat} {cur : Array Value} {e : TypeId} {v : Value} (h : w.heap[b]? = some (.cells cur e (0, 0))) (hv : cur[o]? = some v) : w.cell? ⟨b, o, none⟩ = some v := by rw [cell_of_row w b o _ _ _ h]; exact hv
theorem func_info : (Tryd.prog.info? 60).map (·.size) = some 4 := by kernel_rfl
/-- A function is loaded whole. -/
theorem load_func {ops : Array Oper} {rest : List Oper} {op : Oper} {a : Act} {w : World} {Q : Exit → Act → World → Prop} (hgd : op.guard = none) (x : Operand) (ho : op.op = .load 60 x)
  (N : Nat) (cs : Array Value) (hx : a.eval x = .pointer (some ⟨N, 0, none⟩)) (hz : w.heap[N]? = some (.cells cs 60 (0, 0))) (hcs : cs.size = 4)
  (h : wpList Tryd.prog ops Q rest (a.put op.dst (.agg cs)) w) : wpList Tryd.prog ops Q (op :: rest) a w := by
 refine wpList_load_mid hgd _ x ho N 0 hx cs.toList _ (range_block hz) Tryd.underlying60 rfl (by rw [func_info, Array.length_toList, hcs]) ?_
 exact h
end Go.Proofs.YtchibamdkaejdaaDoor
namespace Go.Proofs.YtchibamdkaejdaaDoor
open Go.RowKit

/-- The round's frame. -/
def PgFrame (C0 T O P M F : Nat) (f funcs : Int) (x0 x1 x11 x12 x13 x14 x15 x16 x17 x18 x19 x20 x21 x22 x23 x24 x25 x26 x27 x107 : Value) (a : Act) : Prop := ∃ x : Nat → Value, a = ⟨#[x0, x1, .pointer (some ⟨C0, 0, none⟩), .pointer (some ⟨T, 0, none⟩), .pointer (some ⟨O, 0, none⟩), .int .i64 funcs, .slice (some ⟨P, 0, none⟩) 4 4, .int .i64 f, .pointer (some ⟨M, 0, none⟩), .pointer (some ⟨F, 0, none⟩), x 10, x11, x12, x13, x14, x15, x16, x17, x18, x19, x20, x21, x22, x23, x24, x25, x26, x27, x 28, x 29, x 30, x 31, x 32, x 33, x 34, x 35, x 36, x 37, x 38, x 39, x 40, x 41, x 42, x 43, x 44, x 45, x 46, x 47, x 48, x 49, x 50, x 51, x 52, x 53, x 54, x 55, x 56, x 57, x 58, x 59, x 60, x 61, x 62, x 63, x 64, x 65, x 66, x 67, x 68, x 69, x 70, x 71, x 72, x 73, x 74, x 75, x 76, x 77, x 78, x 79, x 80, x 81, x 82, x 83, x 84, x 85, x 86, x 87, x 88, x 89, x 90, x 91, x 92, x 93, x 94, x 95, x 96, x 97, x 98, x 99, x 100, x 101, x 102, x 103, x 104, x 105, x 106, x107], []⟩
theorem PgFrame.mk {C0 T O P M F : Nat} {f funcs : Int} {x0 x1 x11 x12 x13 x14 x15 x16 x17 x18 x19 x20 x21 x22 x23 x24 x25 x26 x27 x107 : Value} (a : Act) (h : a = ⟨#[x0, x1, .pointer (some ⟨C0, 0, none⟩), .pointer (some ⟨T, 0, none⟩), .pointer (some ⟨O, 0, none⟩), .int .i64 funcs, .slice (some ⟨P, 0, none⟩) 4 4, .int .i64 f, .pointer (some ⟨M, 0, none⟩), .pointer (some ⟨F, 0, none⟩), a.tmps.getD 10 (.bool false), x11, x12, x13, x14, x15, x16, x17, x18, x19, x20, x21, x22, x23, x24, x25, x26, x27, a.tmps.getD 28 (.bool false), a.tmps.getD 29 (.bool false), a.tmps.getD 30 (.bool false), a.tmps.getD 31 (.bool false), a.tmps.getD 32 (.bool false), a.tmps.getD 33 (.bool false), a.tmps.getD 34 (.bool false), a.tmps.getD 35 (.bool false), a.tmps.getD 36 (.bool false), a.tmps.getD 37 (.bool false), a.tmps.getD 38 (.bool false), a.tmps.getD 39 (.bool false), a.tmps.getD 40 (.bool false), a.tmps.getD 41 (.bool false), a.tmps.getD 42 (.bool false), a.tmps.getD 43 (.bool false), a.tmps.getD 44 (.bool false), a.tmps.getD 45 (.bool false), a.tmps.getD 46 (.bool false), a.tmps.getD 47 (.bool false), a.tmps.getD 48 (.bool false), a.tmps.getD 49 (.bool false), a.tmps.getD 50 (.bool false), a.tmps.getD 51 (.bool false), a.tmps.getD 52 (.bool false), a.tmps.getD 53 (.bool false), a.tmps.getD 54 (.bool false), a.tmps.getD 55 (.bool false), a.tmps.getD 56 (.bool false), a.tmps.getD 57 (.bool false), a.tmps.getD 58 (.bool false), a.tmps.getD 59 (.bool false), a.tmps.getD 60 (.bool false), a.tmps.getD 61 (.bool false), a.tmps.getD 62 (.bool false), a.tmps.getD 63 (.bool false), a.tmps.getD 64 (.bool false), a.tmps.getD 65 (.bool false), a.tmps.getD 66 (.bool false), a.tmps.getD 67 (.bool false), a.tmps.getD 68 (.bool false), a.tmps.getD 69 (.bool false), a.tmps.getD 70 (.bool false), a.tmps.getD 71 (.bool false), a.tmps.getD 72 (.bool false), a.tmps.getD 73 (.bool false), a.tmps.getD 74 (.bool false), a.tmps.getD 75 (.bool false), a.tmps.getD 76 (.bool false), a.tmps.getD 77 (.bool false), a.tmps.getD 78 (.bool false), a.tmps.getD 79 (.bool false), a.tmps.getD 80 (.bool false), a.tmps.getD 81 (.bool false), a.tmps.getD 82 (.bool false), a.tmps.getD 83 (.bool false), a.tmps.getD 84 (.bool false), a.tmps.getD 85 (.bool false), a.tmps.getD 86 (.bool false), a.tmps.getD 87 (.bool false), a.tmps.getD 88 (.bool false), a.tmps.getD 89 (.bool false), a.tmps.getD 90 (.bool false), a.tmps.getD 91 (.bool false), a.tmps.getD 92 (.bool false), a.tmps.getD 93 (.bool false), a.tmps.getD 94 (.bool false), a.tmps.getD 95 (.bool false), a.tmps.getD 96 (.bool false), a.tmps.getD 97 (.bool false), a.tmps.getD 98 (.bool false), a.tmps.getD 99 (.bool false), a.tmps.getD 100 (.bool false), a.tmps.getD 101 (.bool false), a.tmps.getD 102 (.bool false), a.tmps.getD 103 (.bool false), a.tmps.getD 104 (.bool false), a.tmps.getD 105 (.bool false), a.tmps.getD 106 (.bool false), x107], []⟩) : PgFrame C0 T O P M F f funcs x0 x1 x11 x12 x13 x14 x15 x16 x17 x18 x19 x20 x21 x22 x23 x24 x25 x26 x27 x107 a := ⟨fun j => a.tmps.getD j (.bool false), h⟩
/-- Behind the end of a round: one function more. -/
def PgEnd (C0 T O P M F D lF : Nat) (f funcs : Int) (A2 AF : Option Addr) (VR : Value) (x0 x1 x11 x12 x13 x14 x15 x16 x17 x18 x19 x20 x21 x22 x23 x24 x25 x26 x27 x107 : Value) (w : World) (a : Act) (w' : World) : Prop :=
 PgFrame C0 T O P M F f funcs x0 x1 x11 x12 x13 x14 x15 x16 x17 x18 x19 x20 x21 x22 x23 x24 x25 x26 x27 x107 a ∧ ∃ (AF' : Option Addr) (cF' : Nat), w'.heap[O]? = some (.cells #[VR, .slice AF' (lF + 1) cF'] 45 (0, 0)) ∧ FnsAt w' w'.heap.size D AF' (lF + 1) cF' ∧ But (fun b => b = F ∨ b = O ∨ some b = blk A2 ∨ some b = blk AF) w w'
set_option linter.unusedSimpArgs false in
set_option linter.unusedVariables false in
set_option maxHeartbeats 0 in
set_option maxRecDepth 100000 in
theorem pg_tail (C0 T O P M F D N Ns l1 c1 l2 c2 lF cF : Nat) (f funcs : Int) (A1 A2 AF : Option Addr) (nm : ByteArray) (ns : List Nat) (VR : Value) (w : World) (hF : w.heap[F]? = some (.cells #[.string nm, .int .i64 0, .slice A1 l1 c1, .slice A2 l2 c2] 60 (0, 0))) (hnm : nm.size ≤ 20) (hO : w.heap[O]? = some (.cells #[VR, .slice AF lF cF] 45 (0, 0))) (hS : StsAt w Ns 50 A2 l2 c2 ns) (hl2 : l2 ≤ 30) (hsum : ns.sum ≤ 90000) (hPar : ParRow w N A1 l1 c1) (hFns : FnsAt w N D AF lF cF) (hlF : lF ≤ 10) (hD : D ≤ w.heap.size) (hN : N ≤ Ns) (hNs : Ns ≤ w.heap.size) (hFA : some F ≠ blk AF) {x0 x1 x10 x11 x12 x13 x14 x15 x16 x17 x18 x19 x20 x21 x22 x23 x24 x25 x26 x27 x28 x29 x30 x31 x32 x33 x34 x35 x36 x37 x38 x39 x40 x41 x42 x43 x44 x45 x46 x47 x48 x49 x50 x51 x52 x53 x54 x55 x56 x57 x58 x59 x60 x61 x62 x63 x64 x65 x66 x67 x68 x69 x70 x71 x72 x73 x74 x75 x76 x77 x78 x79 x80 x81 x82 x83 x84 x85 x86 x87 x88 x89 x90 x91 x92 x93 x94 x95 x96 x97 x98 x99 x100 x101 x102 x103 x104 x105 x106 x107 : Value} (R : Exit → Act → World → Prop) (hR : ∀ a' w', PgEnd C0 T O P M F D lF f funcs A2 AF VR x0 x1 x11 x12 x13 x14 x15 x16 x17 x18 x19 x20 x21 x22 x23 x24 x25 x26 x27 x107 w a' w' → R .normal a' w') : Code.wp Tryd.prog pgT R ⟨#[x0, x1, .pointer (some ⟨C0, 0, none⟩), .pointer (some ⟨T, 0, none⟩), .pointer (some ⟨O, 0, none⟩), .int .i64 funcs, .slice (some ⟨P, 0, none⟩) 4 4, .int .i64 f, .pointer (some ⟨M, 0, none⟩), .pointer (some ⟨F, 0, none⟩), x10, x11, x12, x13, x14, x15, x16, x17, x18, x19, x20, x21, x22, x23, x24, x25, x26, x27, x28, x29, x30, x31, x32, x33, x34, x35, x36, x37, x38, x39, x40, x41, x42, x43, x44, x45, x46, x47, x48, x49, x50, x51, x52, x53, x54, x55, x56, x57, x58, x59, x60, x61, x62, x63, x64, x65, x66, x67, x68, x69, x70, x71, x72, x73, x74, x75, x76, x77, x78, x79, x80, x81, x82, x83, x84, x85, x86, x87, x88, x89, x90, x91, x92, x93, x94, x95, x96, x97, x98, x99, x100, x101, x102, x103, x104, x105, x106, x107], []⟩ w := by
 have HR := Lib.hid hR
 clear hR
 have HF := Lib.hid hF
 have HO := Lib.hid hO
 have HS := Lib.hid hS
 have HFns := Lib.hid hFns
 have HPar := Lib.hid hPar
 have e3 : w.cell? ⟨F, 3, none⟩ = some (.slice A2 l2 c2) := at_cell (o := 3) hF rfl
 have hFl := (Array.getElem?_eq_some_iff.1 hF).1
 have hOl := (Array.getElem?_eq_some_iff.1 hO).1
 have hFO : F ≠ O := differ hF hO (by decide)
 have h2F : some F ≠ blk A2 := fun e => by
  obtain ⟨_, _, cur, hc⟩ := hS.place F e.symm
  exact differ hF hc (by decide) rfl
 have h2O : some O ≠ blk A2 := fun e => by
  obtain ⟨_, _, cur, hc⟩ := hS.place O e.symm
  exact differ hO hc (by decide) rfl
 have hAO : some O ≠ blk AF := fun e => by
  obtain ⟨_, _, cur, hc⟩ := hFns.place O e.symm
  exact differ hO hc (by decide) rfl
 have hA2 : ∀ g, blk AF = some g → some g ≠ blk A2 := fun g hg e => by
  obtain ⟨_, _, cur, hc⟩ := hS.place g e.symm
  obtain ⟨_, _, cur', hc'⟩ := hFns.place g hg
  exact differ hc' hc (by decide) rfl
 have H2F := Lib.hid h2F
 have H2O := Lib.hid h2O
 have HAO := Lib.hid hAO
 have HA2 := Lib.hid hA2
 have HFA := Lib.hid hFA
 clear hF hO hS hFns hPar h2F h2O hAO hA2 hFA
 simp only [pgT, pgM, pgH, pgZ, pFst, pSnd, pIn, Tryd.f17, Option.getD]
 obtain ⟨V, hV⟩ : ∃ V, Hid (w.alloc (.cells #[.int .i64 10, .int .i64 0, .int .i64 0, .string ⟨#[]⟩, .string ⟨#[]⟩, .int .i64 0, .int .i64 0, .slice none 0 0, .string ⟨#[]⟩, .int .i64 0, .slice none 0 0, .slice none 0 0, .slice none 0 0] 75) = V) := ⟨_, Lib.hid rfl⟩
 have hwV : Below w.heap.size w V := by rw [← hV.out]; exact (Below.refl _ _).alloc (Nat.le_refl _) _
 have HY : Hid (V.heap[w.heap.size]? = some (.cells #[.int .i64 10, .int .i64 0, .int .i64 0, .string ⟨#[]⟩, .string ⟨#[]⟩, .int .i64 0, .int .i64 0, .slice none 0 0, .string ⟨#[]⟩, .int .i64 0, .slice none 0 0, .slice none 0 0, .slice none 0 0] 75 (0, 0))) := Lib.hid (by rw [← hV.out]; exact Array.getElem?_push_size)
 have HBV : Hid (But (fun b => b = F ∨ b = O ∨ some b = blk A2 ∨ some b = blk AF) w V) := Lib.hid (But.of_below hwV)
 have HSV := Lib.hid (HS.out.kept (KeptX.below hwV))
 have HZV := Lib.hid hwV.size
 have hwV2 := Lib.hid hwV
 clear hwV
 have hkN : ∀ W', But (fun b => b = F ∨ b = O ∨ some b = blk A2 ∨ some b = blk AF) w W' → KeptN N w W' := fun W' hB b cur e fr hbN he hb => hB.at_ hb (fun hc => by
  have hne : e ≠ 60 ∧ e ≠ 45 := by rcases he with rfl | rfl <;> decide
  rcases hc with hc | hc | hc | hc
  ·exact differ hb HF.out hne.1 hc
  ·exact differ hb HO.out hne.2 hc
  ·have := (HS.out.place b hc.symm).1; omega
  ·obtain ⟨_, _, cur', hc'⟩ := HFns.out.place b hc.symm
   exact differ hb hc' hne.1 rfl)
 have hkE : ∀ W', But (fun b => b = F ∨ b = O ∨ some b = blk A2 ∨ some b = blk AF) w W' → KeptE w W' := fun W' hB b cur fr hb => hB.at_ hb (fun hc => by
  rcases hc with hc | hc | hc | hc
  ·exact differ hb HF.out (by decide) hc
  ·exact differ hb HO.out (by decide) hc
  ·obtain ⟨_, _, cur', hc'⟩ := HS.out.place b hc.symm
   exact differ hb hc' (by decide) rfl
  ·obtain ⟨_, _, cur', hc'⟩ := HFns.out.place b hc.symm
   exact differ hb hc' (by decide) rfl)
 have hC0 : ∀ W', But (fun b => b = F ∨ b = O ∨ some b = blk A2) w W' → But (fun b => b = F ∨ b = O ∨ some b = blk A2 ∨ some b = blk AF) w W' := fun W' hB => hB.mono (fun b _ hc => by
  rcases hc with hc | hc | hc
  ·exact .inl hc
  ·exact .inr (.inl hc)
  ·exact .inr (.inr (.inl hc)))
 have hkA : ∀ W', But (fun b => b = F ∨ b = O ∨ some b = blk A2) w W' → ∀ g, blk AF = some g → W'.heap[g]? = w.heap[g]? := fun W' hB g hg => hB.block g (HFns.out.place g hg).2.1 (fun hc => by
  rcases hc with hc | hc | hc
  ·exact HFA.out (by rw [← hc]; exact hg.symm)
  ·exact HAO.out (by rw [← hc]; exact hg.symm)
  ·exact HA2.out g hg hc)
 have HkN := Lib.hid hkN
 have HkE := Lib.hid hkE
 have HkA := Lib.hid hkA
 have HC0 := Lib.hid hC0
 clear hkN hkE hC0 hkA
 go_wp2_with (first | ((with_reducible show wpList _ _ _ (Oper.mk _ (Op.load 60 _) _ _ _ none :: _) _ _); rw [hU.out]; refine load_func rfl _ rfl F (#[.string nm, .int .i64 0, .slice A1 l1 c1, .slice A3 (l2 + 1) c3]) rfl HUF.out rfl ?_) | (at_builtin; rw [hV.out]; refine wpList_plain rfl (fun K hK => ?_); refine wp_append_one _ _ rfl Ns w.heap.size 50 l2 c2 1 1 A2 ns _ rfl HSV.out rfl HY.out rfl (asCells_one 10 ⟨#[]⟩ none 0 0 none 0 0) (stIn_plain (kind := 10) ⟨by omega, by omega, .inl rfl⟩ (by decide) (ExRow.nil _) (ExRow.nil _) rfl rfl _ 49) (by omega) (Nat.le_trans hNs HZV.out) ?_; intro A3 c3 w2 hgrow hplace hst; have HS2 := Lib.hid hst; have HB2 : Hid (But (fun b => b = F ∨ b = O ∨ some b = blk A2) w w2) := Lib.hid ((But.of_below hwV2.out).trans (But.of_grown hgrow (fun b hb => .inr (.inr hb.symm)))); have HZ2 : Hid (w.heap.size ≤ w2.heap.size) := Lib.hid HB2.out.size; have HF2 : Hid (w2.heap[F]? = some (.cells #[.string nm, .int .i64 0, .slice A1 l1 c1, .slice A2 l2 c2] 60 (0, 0))) := Lib.hid ((hgrow.block F (Nat.lt_of_lt_of_le hFl HZV.out) H2F.out).trans ((hwV2.out.block F hFl).trans HF.out)); have HO2 : Hid (w2.heap[O]? = some (.cells #[VR, .slice AF lF cF] 45 (0, 0))) := Lib.hid ((hgrow.block O (Nat.lt_of_lt_of_le hOl HZV.out) H2O.out).trans ((hwV2.out.block O hOl).trans HO.out)); have e3 : w2.cell? ⟨F, 3, none⟩ = some (.slice A2 l2 c2) := at_cell (o := 3) HF2.out rfl; have f3 : w2.frozen? ⟨F, 3, none⟩ = false := at_frozen HF2.out; obtain ⟨U, hU⟩ : ∃ U, Hid (w2.setCell ⟨F, 3, none⟩ (.slice A3 (l2 + 1) c3) = U) := ⟨_, Lib.hid rfl⟩; have hset := setB_cell (o := 3) (.slice A3 (l2 + 1) c3) HF2.out; rw [hU.out] at hset; have hset : SetB F (#[.string nm, .int .i64 0, .slice A1 l1 c1, .slice A3 (l2 + 1) c3]) 60 w2 U := hset; have HUF : Hid (U.heap[F]? = some (.cells (#[.string nm, .int .i64 0, .slice A1 l1 c1, .slice A3 (l2 + 1) c3]) 60 (0, 0))) := Lib.hid hset.at_; have HBU : Hid (But (fun b => b = F ∨ b = O ∨ some b = blk A2) w U) := Lib.hid (HB2.out.trans (But.of_setB hset (.inl rfl))); have HUO : Hid (U.heap[O]? = some (.cells #[VR, .slice AF lF cF] 45 (0, 0))) := Lib.hid ((hset.block O (fun e => hFO e.symm)).trans HO2.out); have HSU : Hid (StsAt U Ns 50 A3 (l2 + 1) c3 (ns ++ [1 + 0 + 0])) := Lib.hid (hst.kept (fun b cur e fr he hb => (hset.block b (differ hb HF2.out (by rcases he with rfl | rfl <;> decide))).trans hb)); have o1 : (w2.setCell ⟨F, 3, none⟩ (.slice A3 (l2 + 1) c3)).cell? ⟨O, 1, none⟩ = some (.slice AF lF cF) := (by rw [hU.out]; exact at_cell (o := 1) HUO.out rfl); obtain ⟨W, hW⟩ : ∃ W, Hid (U.alloc (.cells (#[.string nm, .int .i64 0, .slice A1 l1 c1, .slice A3 (l2 + 1) c3]) 60) = W) := ⟨_, Lib.hid rfl⟩; have hwW : Below U.heap.size U W := (by rw [← hW.out]; exact (Below.refl _ _).alloc (Nat.le_refl _) _); have HYW : Hid (W.heap[U.heap.size]? = some (.cells (#[.string nm, .int .i64 0, .slice A1 l1 c1, .slice A3 (l2 + 1) c3]) 60 (0, 0))) := Lib.hid (by rw [← hW.out]; exact Array.getElem?_push_size); have HBW : Hid (But (fun b => b = F ∨ b = O ∨ some b = blk A2) w W) := Lib.hid (HBU.out.trans (But.of_below hwW)); have HZW : Hid (w.heap.size ≤ W.heap.size) := Lib.hid HBW.out.size; have HSW := Lib.hid (HSU.out.kept (KeptX.below hwW)); have HFW : Hid (FnsAt W W.heap.size D AF lF cF) := Lib.hid (HFns.out.keep (Nat.le_trans hN (Nat.le_trans hNs HZW.out)) (HkA.out W HBW.out) (HkE.out W (HC0.out W HBW.out)) (HkN.out W (HC0.out W HBW.out))); have HWO : Hid (W.heap[O]? = some (.cells #[VR, .slice AF lF cF] 45 (0, 0))) := Lib.hid ((hwW.block O (Array.getElem?_eq_some_iff.1 HUO.out).1).trans HUO.out); have HFN : Hid (FnIn W W.heap.size (.agg (#[.string nm, .int .i64 0, .slice A1 l1 c1, .slice A3 (l2 + 1) c3]))) := Lib.hid ⟨nm, A1, A3, l1, c1, l2 + 1, c3, _, rfl, hnm, HPar.out.keep (Nat.le_trans hN (Nat.le_trans hNs HZW.out)) (HkN.out W (HC0.out W HBW.out)), HSW.out.row.mono (fun b hb _ => hb), by rw [List.sum_append]; simp only [List.sum_cons, List.sum_nil]; omega⟩; clear hgrow hplace hst hset hwW; refine hK _ _ ?_; clear hK) | (at_builtin; rw [hW.out]; refine wpList_plain rfl (fun K hK => ?_); refine wp_append_fn _ _ rfl W.heap.size D U.heap.size lF cF 1 AF (#[.string nm, .int .i64 0, .slice A1 l1 c1, .slice A3 (l2 + 1) c3]) rfl HFW.out rfl HYW.out rfl (by intro u hu; simp only [List.mem_cons, List.not_mem_nil, or_false] at hu; rcases hu with rfl | rfl | rfl | rfl <;> rfl) HFN.out (by omega) (Nat.le_trans hD HZW.out) ?_; intro AF4 cF4 w4 hgrow4 hfns4; have HW4 : Hid (w4.heap[O]? = some (.cells #[VR, .slice AF lF cF] 45 (0, 0))) := Lib.hid ((hgrow4.block O (Array.getElem?_eq_some_iff.1 HWO.out).1 HAO.out).trans HWO.out); have e4 : w4.cell? ⟨O, 1, none⟩ = some (.slice AF lF cF) := at_cell (o := 1) HW4.out rfl; have f4 : w4.frozen? ⟨O, 1, none⟩ = false := at_frozen HW4.out; have HB4 : Hid (But (fun b => b = F ∨ b = O ∨ some b = blk A2 ∨ some b = blk AF) w w4) := Lib.hid ((HC0.out W HBW.out).trans (But.of_grown hgrow4 (fun b hb => .inr (.inr (.inr hb.symm))))); have HF4 := Lib.hid hfns4; have HWZ4 := Lib.hid hgrow4.size; clear hgrow4 hfns4; refine hK _ _ ?_; clear hK))
 have hset4 := setB_cell (o := 1) (.slice AF4 (lF + 1) cF4) HW4.out
 refine HR.out _ _ ⟨PgFrame.mk _ rfl, AF4, cF4, hset4.at_, HF4.out.keep (Nat.le_trans HWZ4.out (Nat.le_of_eq hset4.size.symm)) (fun g hg => hset4.block g (fun e => ?_)) (fun b cur fr hb => (hset4.block b (differ hb HW4.out (by decide))).trans hb) (fun b cur e fr _ he hb => (hset4.block b (differ hb HW4.out (by rcases he with rfl | rfl <;> decide))).trans hb), HB4.out.trans (But.of_setB hset4 (.inr (.inl rfl)))⟩
 subst e
 obtain ⟨_, _, cur', hc'⟩ := HF4.out.place _ hg
 exact differ hc' HW4.out (by decide) rfl
end Go.Proofs.YtchibamdkaejdaaDoor
namespace Go.Proofs.YtchibamdkaejdaaDoor
open Go.RowKit

theorem pgM_code : pgM = oSnd (fun _ => pgT) pgM := by kernel_rfl
theorem But.of_grew {C : Nat → Prop} {w w' : World} {T : Nat} {A : Option Addr} {len cap : Nat} (g : Grew T A len cap w w') (hC : C T) : But C w w' := ⟨g.os, g.tape, g.output, g.size, fun b hb hn => g.block b hb (fun e => hn (e ▸ hC))⟩
/-- The tape is kept where neither it nor blocks below lo are turned. -/
theorem TapeAt.but {C : Nat → Prop} {w w' : World} {T lo : Nat} {A : Option Addr} {len cap pos : Nat} (ht : TapeAt w T A len cap pos) (hrow : (∃ (b o : Nat), len = 0 ∨ (A = some ⟨b, o, none⟩ ∧ b < lo))) (hB : But C w w') (hT : ¬ C T) (hC : ∀ b : Nat, C b → lo ≤ b) : TapeAt w' T A len cap pos := by
 obtain ⟨b, o, hr⟩ := hrow
 refine ⟨hB.at_ ht.block hT, ht.len_le, ht.cap_le, fun i hi => ?_⟩
 obtain ⟨b', o', x, e1, h2, h3, h4, h5, h6⟩ := ht.row i hi
 refine ⟨b', o', x, e1, Nat.lt_of_lt_of_le h2 hB.size, h3, h4, h5, ?_⟩
 rcases hr with hr | ⟨e, hr⟩
 ·exact absurd hi (by rw [hr]; omega)
 ·rw [e1] at e
  injection e with e
  injection e with e
  subst e
  rw [← h6]
  exact World.cell?_of_block (w := w) (hB.block _ h2 (fun hc => by have := hC _ hc; (try dsimp only at *); omega))
/-- Behind the middle and the end of a round: one function more. -/
def PgEnd2 (C0 T O P M F D lF len cap : Nat) (f funcs : Int) (A A2 AF : Option Addr) (VR : Value) (x0 x1 x11 x12 x13 x14 x15 x16 x17 x18 x19 x20 x21 x22 x23 x24 x25 x26 x27 x107 : Value) (w : World) (a : Act) (w' : World) : Prop :=
 PgFrame C0 T O P M F f funcs x0 x1 x11 x12 x13 x14 x15 x16 x17 x18 x19 x20 x21 x22 x23 x24 x25 x26 x27 x107 a ∧ ∃ (AF' : Option Addr) (cF' : Nat), w'.heap[O]? = some (.cells #[VR, .slice AF' (lF + 1) cF'] 45 (0, 0)) ∧ FnsAt w' w'.heap.size D AF' (lF + 1) cF' ∧ But (fun b => b = F ∨ b = O ∨ some b = blk A2 ∨ some b = blk AF ∨ b = T) w w' ∧ ∃ pos, TapeAt w' T A len cap pos
set_option linter.unusedSimpArgs false in
set_option linter.unusedVariables false in
set_option maxHeartbeats 0 in
set_option maxRecDepth 100000 in
theorem pg_midend (lo C0 T O P M F D N Ns l1 c1 l2 c2 lF cF len cap : Nat) (f funcs : Int) (A A1 A2 AF : Option Addr) (nm : ByteArray) (ns : List Nat) (VR : Value) (w : World) (hT : ∃ (cur : Array Value) (fr : Nat × Nat), w.heap[T]? = some (.cells cur 64 fr)) (hF : w.heap[F]? = some (.cells #[.string nm, .int .i64 0, .slice A1 l1 c1, .slice A2 l2 c2] 60 (0, 0))) (hnm : nm.size ≤ 20) (hO : w.heap[O]? = some (.cells #[VR, .slice AF lF cF] 45 (0, 0))) (hS : StsAt w Ns 50 A2 l2 c2 ns) (hl2 : l2 ≤ 20) (hsum : ns.sum ≤ 80000) (hPar : ParRow w N A1 l1 c1) (hFns : FnsAt w N D AF lF cF) (hlF : lF ≤ 10) (hD : D ≤ w.heap.size) (hN : N ≤ Ns) (hNs : Ns ≤ w.heap.size) (hFA : some F ≠ blk AF) (loF : lo ≤ F) (loO : lo ≤ O) (loD : lo ≤ D) (loN : lo ≤ Ns) (U : World) (pos : Nat) (A3 : Option Addr) (l3 c3 : Nat) (ns3 : List Nat) (hB : But (fun b => b = F ∨ some b = blk A2 ∨ b = T) w U) (hUF : U.heap[F]? = some (.cells #[.string nm, .int .i64 0, .slice A1 l1 c1, .slice A3 l3 c3] 60 (0, 0))) (hUS : StsAt U Ns 50 A3 l3 c3 ns3) (hA3 : ∀ g, blk A3 = some g → some g = blk A2 ∨ w.heap.size ≤ g) (hl3 : l3 ≤ l2 + 1) (hs3 : ns3.sum ≤ ns.sum + 2) (hTU : TapeAt U T A len cap pos) (hRU : (∃ (b o : Nat), len = 0 ∨ (A = some ⟨b, o, none⟩ ∧ b < lo))) {x0 x1 x10 x11 x12 x13 x14 x15 x16 x17 x18 x19 x20 x21 x22 x23 x24 x25 x26 x27 x28 x29 x30 x31 x32 x33 x34 x35 x36 x37 x38 x39 x40 x41 x42 x43 x44 x45 x46 x47 x48 x49 x50 x51 x52 x53 x54 x55 x56 x57 x58 x59 x60 x61 x62 x63 x64 x65 x66 x67 x68 x69 x70 x71 x72 x73 x74 x75 x76 x77 x78 x79 x80 x81 x82 x83 x84 x85 x86 x87 x88 x89 x90 x91 x92 x93 x94 x95 x96 x97 x98 x99 x100 x101 x102 x103 x104 x105 x106 x107 : Value} (R : Exit → Act → World → Prop) (hR : ∀ a' w', PgEnd2 C0 T O P M F D lF len cap f funcs A A2 AF VR x0 x1 x11 x12 x13 x14 x15 x16 x17 x18 x19 x20 x21 x22 x23 x24 x25 x26 x27 x107 w a' w' → R .normal a' w') : Code.wp Tryd.prog pgT R ⟨#[x0, x1, .pointer (some ⟨C0, 0, none⟩), .pointer (some ⟨T, 0, none⟩), .pointer (some ⟨O, 0, none⟩), .int .i64 funcs, .slice (some ⟨P, 0, none⟩) 4 4, .int .i64 f, .pointer (some ⟨M, 0, none⟩), .pointer (some ⟨F, 0, none⟩), x10, x11, x12, x13, x14, x15, x16, x17, x18, x19, x20, x21, x22, x23, x24, x25, x26, x27, x28, x29, x30, x31, x32, x33, x34, x35, x36, x37, x38, x39, x40, x41, x42, x43, x44, x45, x46, x47, x48, x49, x50, x51, x52, x53, x54, x55, x56, x57, x58, x59, x60, x61, x62, x63, x64, x65, x66, x67, x68, x69, x70, x71, x72, x73, x74, x75, x76, x77, x78, x79, x80, x81, x82, x83, x84, x85, x86, x87, x88, x89, x90, x91, x92, x93, x94, x95, x96, x97, x98, x99, x100, x101, x102, x103, x104, x105, x106, x107], []⟩ U := by
 obtain ⟨curT, frT, hT⟩ := hT
 have hCty : ∀ (b : Nat) (cur : Array Value) (e : TypeId) (fr : Nat × Nat), (fun b => b = F ∨ some b = blk A2 ∨ b = T) b → w.heap[b]? = some (.cells cur e fr) → e = 60 ∨ e = 75 ∨ e = 64 := fun b cur e fr hc hb => by
  rcases hc with rfl | hc | rfl
  ·rw [hF] at hb; simp only [Option.some.injEq, Obj.cells.injEq] at hb; exact .inl hb.2.1.symm
  ·obtain ⟨_, _, cur', hc'⟩ := hS.place b hc.symm
   rw [hc'] at hb; simp only [Option.some.injEq, Obj.cells.injEq] at hb; exact .inr (.inl hb.2.1.symm)
  ·rw [hT] at hb; simp only [Option.some.injEq, Obj.cells.injEq] at hb; exact .inr (.inr hb.2.1.symm)
 have hkN : KeptN N w U := fun b cur e fr hbN he hb => hB.at_ hb (fun hc => by
  rcases hc with rfl | hc | rfl
  ·rcases he with rfl | rfl <;> exact differ hb hF (by decide) rfl
  ·have := (hS.place b hc.symm).1; omega
  ·rcases he with rfl | rfl <;> exact differ hb hT (by decide) rfl)
 have hkE : KeptE w U := fun b cur fr hb => hB.at_ hb (fun hc => by
  rcases hCty _ _ _ _ hc hb with e | e | e <;> exact absurd e (by decide))
 have hUO : U.heap[O]? = some (.cells #[VR, .slice AF lF cF] 45 (0, 0)) := hB.at_ hO (fun hc => by
  rcases hCty _ _ _ _ hc hO with e | e | e <;> exact absurd e (by decide))
 have hUA : ∀ g, blk AF = some g → U.heap[g]? = w.heap[g]? := fun g hg => hB.block g (hFns.place g hg).2.1 (fun hc => by
  obtain ⟨_, _, cur, hcur⟩ := hFns.place g hg
  rcases hc with rfl | hc | rfl
  ·exact hFA hg.symm
  ·obtain ⟨_, _, cur', hc'⟩ := hS.place g hc.symm
   exact differ hcur hc' (by decide) rfl
  ·exact differ hcur hT (by decide) rfl)
 refine pg_tail C0 T O P M F D N Ns l1 c1 l3 c3 lF cF f funcs A1 A3 AF nm ns3 VR U hUF hnm hUO hUS (by omega) (by omega) (hPar.keep (Nat.le_refl _) hkN) (hFns.keep (Nat.le_refl _) hUA hkE hkN) hlF (Nat.le_trans hD hB.size) hN (Nat.le_trans hNs hB.size) hFA R ?_
 rintro a' w' ⟨hfr, AF', cF', h1, h2, h3⟩
 have h4 := hTU.but hRU h3 (fun hc => by
  rcases hc with hc | hc | hc | hc
  ·rw [hc] at hTU; exact differ hUF hTU.block (by decide) rfl
  ·rw [hc] at hTU; exact differ hUO hTU.block (by decide) rfl
  ·obtain ⟨_, _, cur', hc'⟩ := hUS.place T hc.symm
   exact differ hTU.block hc' (by decide) rfl
  ·obtain ⟨_, _, cur', hc'⟩ := hFns.place T hc.symm
   exact differ hT hc' (by decide) rfl) (fun b hc => by
  rcases hc with hc | hc | hc | hc
  ·omega
  ·omega
  ·exact Nat.le_trans loN (hUS.place b hc.symm).1
  ·exact Nat.le_trans loD (hFns.place b hc.symm).1)
 refine hR _ _ ⟨hfr, AF', cF', h1, h2, ⟨h3.os.trans hB.os, h3.tape.trans hB.tape, h3.output.trans hB.output, Nat.le_trans hB.size h3.size, fun b hb hn => ?_⟩, pos, h4⟩
 have n1 : ¬ (fun b => b = F ∨ some b = blk A2 ∨ b = T) b := fun hc => hn (by
  rcases hc with hc | hc | hc
  ·exact .inl hc
  ·exact .inr (.inr (.inl hc))
  ·exact .inr (.inr (.inr (.inr hc))))
 refine (h3.block b (Nat.lt_of_lt_of_le hb hB.size) (fun hc => ?_)).trans (hB.block b hb n1)
 rcases hc with hc | hc | hc | hc
 ·exact hn (.inl hc)
 ·exact hn (.inr (.inl hc))
 ·rcases hA3 b hc.symm with e | e
  ·exact hn (.inr (.inr (.inl e)))
  ·omega
 ·exact hn (.inr (.inr (.inr (.inl hc))))
end Go.Proofs.YtchibamdkaejdaaDoor
namespace Go.Proofs.YtchibamdkaejdaaDoor
open Go.RowKit

theorem held_block {w w' : World} {F M b sl sc l2 c2 : Nat} {A2 : Option Addr} {nm' : Nat → ByteArray} (hF : w'.heap[F]? = w.heap[F]?) (hM : w'.heap[M]? = w.heap[M]?) (hb : w'.heap[b]? = w.heap[b]?) (h : w.cell? ⟨F, 3, none⟩ = some (.slice A2 l2 c2) ∧ w.cell? ⟨M, 4, none⟩ = some (.slice (some ⟨b, 0, none⟩) sl sc) ∧ ∀ j, j < sl → w.cell? ⟨b, j, none⟩ = some (.string (nm' j))) : w'.cell? ⟨F, 3, none⟩ = some (.slice A2 l2 c2) ∧ w'.cell? ⟨M, 4, none⟩ = some (.slice (some ⟨b, 0, none⟩) sl sc) ∧ ∀ j, j < sl → w'.cell? ⟨b, j, none⟩ = some (.string (nm' j)) :=
 ⟨(World.cell?_of_block (w := w) hF).trans h.1, (World.cell?_of_block (w := w) hM).trans h.2.1, fun j hj => (World.cell?_of_block (w := w) hb).trans (h.2.2 j hj)⟩
set_option linter.unusedSimpArgs false in
set_option linter.unusedVariables false in
set_option maxHeartbeats 0 in
set_option maxRecDepth 100000 in
theorem pg_mid (lo B C0 T O P M F D N Ns l1 c1 l2 c2 lF cF len cap sl sc ql qc rl rc : Nat) (f funcs count left : Int) (A A1 A2 AF S Q Rr : Option Addr) (nm : ByteArray) (ns : List Nat) (VR : Value) (w : World) (hC : Cx lo B ⟨M, T, f, funcs, count, left, some ⟨P, 0, none⟩, S, Q, Rr, 4, 4, sl, sc, ql, qc, rl, rc, A, len, cap⟩ w) (hF : w.heap[F]? = some (.cells #[.string nm, .int .i64 0, .slice A1 l1 c1, .slice A2 l2 c2] 60 (0, 0))) (hnm : nm.size ≤ 20) (hO : w.heap[O]? = some (.cells #[VR, .slice AF lF cF] 45 (0, 0))) (hS : StsAt w Ns 50 A2 l2 c2 ns) (hl2 : l2 ≤ 20) (hsum : ns.sum ≤ 80000) (hPar : ParRow w N A1 l1 c1) (hFns : FnsAt w N D AF lF cF) (hlF : lF ≤ 10) (hD : D ≤ w.heap.size) (hN : N ≤ Ns) (hNs : Ns ≤ w.heap.size) (hFA : some F ≠ blk AF) (loF : lo ≤ F) (loO : lo ≤ O) (loD : lo ≤ D) (loN : lo ≤ Ns) {x0 x1 x10 x11 x12 x13 x14 x15 x16 x17 x18 x19 x20 x21 x22 x23 x24 x25 x26 x27 x28 x29 x30 x31 x32 x33 x34 x35 x36 x37 x38 x39 x40 x41 x42 x43 x44 x45 x46 x47 x48 x49 x50 x51 x52 x53 x54 x55 x56 x57 x58 x59 x60 x61 x62 x63 x64 x65 x66 x67 x68 x69 x70 x71 x72 x73 x74 x75 x76 x77 x78 x79 x80 x81 x82 x83 x84 x85 x86 x87 x88 x89 x90 x91 x92 x93 x94 x95 x96 x97 x98 x99 x100 x101 x102 x103 x104 x105 x106 x107 : Value} (R : Exit → Act → World → Prop) (hR : ∀ a' w', PgEnd2 C0 T O P M F D lF len cap f funcs A A2 AF VR x0 x1 x11 x12 x13 x14 x15 x16 x17 x18 x19 x20 x21 x22 x23 x24 x25 x26 x27 x107 w a' w' → R .normal a' w') (hRp : ∀ c (a : Act) (d : Nat) (v : Value) w, R (.panic c) (a.put (some d) v) w → R (.panic c) a w) : Code.wp Tryd.prog pgM R ⟨#[x0, x1, .pointer (some ⟨C0, 0, none⟩), .pointer (some ⟨T, 0, none⟩), .pointer (some ⟨O, 0, none⟩), .int .i64 funcs, .slice (some ⟨P, 0, none⟩) 4 4, .int .i64 f, .pointer (some ⟨M, 0, none⟩), .pointer (some ⟨F, 0, none⟩), x10, x11, x12, x13, x14, x15, x16, x17, x18, x19, x20, x21, x22, x23, x24, x25, x26, x27, x28, x29, x30, x31, x32, x33, x34, x35, x36, x37, x38, x39, x40, x41, x42, x43, x44, x45, x46, x47, x48, x49, x50, x51, x52, x53, x54, x55, x56, x57, x58, x59, x60, x61, x62, x63, x64, x65, x66, x67, x68, x69, x70, x71, x72, x73, x74, x75, x76, x77, x78, x79, x80, x81, x82, x83, x84, x85, x86, x87, x88, x89, x90, x91, x92, x93, x94, x95, x96, x97, x98, x99, x100, x101, x102, x103, x104, x105, x106, x107], []⟩ w := by
 have HC := Lib.hid hC
 have HRo : Hid (∃ (b o : Nat), len = 0 ∨ (A = some ⟨b, o, none⟩ ∧ b < lo)) := Lib.hid hC.row
 obtain ⟨pos, ht⟩ := hC.tape
 have hnum := hC.num
 have hsl : sl ≤ 1000 := by have k1 := hnum.s; have k2 := hnum.sum; have k3 := hnum.left0; dsimp only at k1 k2 k3; omega
 have e4 := hC.maker.cell 4 (.slice S sl sc) rfl
 dsimp only at e4 ht
 have HF := Lib.hid hF
 have HO := Lib.hid hO
 have HS := Lib.hid hS
 have HFns := Lib.hid hFns
 have hFl := (Array.getElem?_eq_some_iff.1 hF).1
 have hMl := hC.maker.lt
 have hFT : F ≠ T := differ hF ht.block (by decide)
 have hMT : M ≠ T := differ hC.maker.block ht.block (by decide)
 have HT := Lib.hid ht
 dsimp only at hMl hMT
 clear hC hnum
 rw [pgM_code]
 simp only [oSnd, pgM, pgH, pgZ, pFst, pSnd, pIn, Tryd.f17, Option.getD]
 by_cases hl : sl = 0
 ·subst hl
  go_wp2_with fail
  refine pg_midend lo C0 T O P M F D N Ns l1 c1 l2 c2 lF cF len cap f funcs A A1 A2 AF nm ns VR w ⟨_, _, ht.block⟩ hF hnm hO hS hl2 hsum hPar hFns hlF hD hN hNs hFA loF loO loD loN w pos A2 l2 c2 (ns) (But.refl _ _) hF hS (fun g hg => .inl hg.symm) (by omega) (by omega) ht HRo.out R hR

 ·go_wp2_with fail
  refine (next_any w T A len cap pos ht 3 (by omega) (by omega)).mono ?_
  rintro e w2 ⟨q, t2, rfl, q0, q1, hm2⟩
  have hg2 := hm2.grew
  have HC2 := Lib.hid (HC.out.grew hg2)
  have HB2 : Hid (But (fun b => b = F ∨ some b = blk A2 ∨ b = T) w w2) := Lib.hid (But.of_grew hg2 (.inr (.inr rfl)))
  have HF2 : Hid (w2.heap[F]? = some (.cells #[.string nm, .int .i64 0, .slice A1 l1 c1, .slice A2 l2 c2] 60 (0, 0))) := Lib.hid ((hg2.block F hFl hFT).trans HF.out)
  have HS2 := Lib.hid (HS.out.kept (HC.out.went hg2).keptX)
  have hs2 := hg2.size
  clear hm2 hg2 e4
  by_cases hq : 0 < q
  ·have e4 := HC2.out.maker.cell 4 (.slice S sl sc) rfl
   obtain ⟨b, nm', eb, hb, hbT, hl1, hl2', hl3, hnm', hnames⟩ := HC2.out.ctx.s.open hl
   dsimp only at e4 eb hb hbT hl1 hl2' hl3 hnm' hnames
   subst eb
   obtain ⟨pd, htd⟩ := HC2.out.drew.tape
   have HTd := Lib.hid htd
   have HD := Lib.hid HC2.out.drew
   have hpos : (1 : Int) ≤ (sl : Int) := by omega
   have hlt : (sl : Int) < 1000000 := by omega
   have HL3 : Hid (w2.drew.cell? ⟨F, 3, none⟩ = some (.slice A2 l2 c2) ∧ w2.drew.cell? ⟨M, 4, none⟩ = some (.slice (some ⟨b, 0, none⟩) sl sc) ∧ ∀ j, j < sl → w2.drew.cell? ⟨b, j, none⟩ = some (.string (nm' j))) := Lib.hid ⟨at_cell (o := 3) HF2.out rfl, e4, hnames⟩
   have hsd : w2.drew.heap.size = w2.heap.size := rfl
   clear hnames htd e4
   go_wp2_with fail
   refine wp_region_U (S := fun w' => w'.cell? ⟨F, 3, none⟩ = some (.slice A2 l2 c2) ∧ w'.cell? ⟨M, 4, none⟩ = some (.slice (some ⟨b, 0, none⟩) sl sc) ∧ ∀ j, j < sl → w'.cell? ⟨b, j, none⟩ = some (.string (nm' j))) (L := [1, 5, 10, 11, 12, 13, 14, 15, 16, 17, 18, 19]) (by kernel_rfl) ?_
   refine wpAnyU_late (i := 0) (v := ?_) rfl (by kernel_rfl) (by kernel_rfl) (by kernel_rfl) (by kernel_rfl) (fun _ _ _ h => hRp _ _ _ _ _ h) (Or.inl ⟨by rfl, ?_⟩) ?_
   rotate_left 1
   ·intro w hSw
    clear hSw
    (go_simp) <;> (with_reducible rfl)
   (try simp only [Act.put, zA, zB, zC, zD, zE, zF])
   refine wpAnyU_late (i := 2) (v := ?_) rfl (by kernel_rfl) (by kernel_rfl) (by kernel_rfl) (by kernel_rfl) (fun _ _ _ h => hRp _ _ _ _ _ h) (Or.inl ⟨by rfl, ?_⟩) ?_
   rotate_left 1
   ·intro w hSw
    clear hSw
    (go_simp) <;> (with_reducible rfl)
   (try simp only [Act.put, zA, zB, zC, zD, zE, zF])
   refine wpAnyU_late (i := 3) (v := ?_) rfl (by kernel_rfl) (by kernel_rfl) (by kernel_rfl) (by kernel_rfl) (fun _ _ _ h => hRp _ _ _ _ _ h) (Or.inl ⟨by rfl, ?_⟩) ?_
   rotate_left 1
   ·intro w hSw
    clear hSw
    (go_simp) <;> (with_reducible rfl)
   (try simp only [Act.put, zA, zB, zC, zD, zE, zF])
   refine wpAnyU_late (i := 4) (v := ?_) rfl (by kernel_rfl) (by kernel_rfl) (by kernel_rfl) (by kernel_rfl) (fun _ _ _ h => hRp _ _ _ _ _ h) (Or.inl ⟨by rfl, ?_⟩) ?_
   rotate_left 1
   ·intro w hSw
    clear hSw
    (go_simp) <;> (with_reducible rfl)
   (try simp only [Act.put, zA, zB, zC, zD, zE, zF])
   refine wpAnyU_late (i := 6) (v := ?_) rfl (by kernel_rfl) (by kernel_rfl) (by kernel_rfl) (by kernel_rfl) (fun _ _ _ h => hRp _ _ _ _ _ h) (Or.inl ⟨by rfl, ?_⟩) ?_
   rotate_left 1
   ·intro w hSw
    clear hSw
    (go_simp) <;> (with_reducible rfl)
   (try simp only [Act.put, zA, zB, zC, zD, zE, zF])
   refine wpAnyU_late (i := 7) (v := ?_) rfl (by kernel_rfl) (by kernel_rfl) (by kernel_rfl) (by kernel_rfl) (fun _ _ _ h => hRp _ _ _ _ _ h) (Or.inl ⟨by rfl, ?_⟩) ?_
   rotate_left 1
   ·intro w hSw
    clear hSw
    (go_simp) <;> (with_reducible rfl)
   (try simp only [Act.put, zA, zB, zC, zD, zE, zF])
   refine wpAnyU_late (i := 8) (v := ?_) rfl (by kernel_rfl) (by kernel_rfl) (by kernel_rfl) (by kernel_rfl) (fun _ _ _ h => hRp _ _ _ _ _ h) (Or.inl ⟨by rfl, ?_⟩) ?_
   rotate_left 1
   ·intro w hSw
    clear hSw
    (go_simp) <;> (with_reducible rfl)
   (try simp only [Act.put, zA, zB, zC, zD, zE, zF])
   refine wpAnyU_late (i := 9) (v := ?_) rfl (by kernel_rfl) (by kernel_rfl) (by kernel_rfl) (by kernel_rfl) (fun _ _ _ h => hRp _ _ _ _ _ h) (Or.inl ⟨by rfl, ?_⟩) ?_
   rotate_left 1
   ·intro w hSw
    clear hSw
    (go_simp) <;> (with_reducible rfl)
   (try simp only [Act.put, zA, zB, zC, zD, zE, zF])
   refine wpAnyU_take (i := 1) (v := ?_) rfl (by kernel_rfl) (by kernel_rfl) (by kernel_rfl) (by kernel_rfl) (by kernel_rfl) (fun _ _ _ h => hRp _ _ _ _ _ h) (Or.inl ⟨by rfl, ?_⟩) HL3.out ?_
   rotate_left 1
   ·intro w hSw
    (try dsimp only at hSw)
    (go_simp) <;> (with_reducible rfl)
   (try simp only [Act.put, zA, zB, zC, zD, zE, zF])
   refine wpAnyU_take (i := 5) (v := ?_) rfl (by kernel_rfl) (by kernel_rfl) (by kernel_rfl) (by kernel_rfl) (by kernel_rfl) (fun _ _ _ h => hRp _ _ _ _ _ h) (Or.inl ⟨by rfl, ?_⟩) HL3.out ?_
   rotate_left 1
   ·intro w hSw
    (try dsimp only at hSw)
    (go_simp) <;> (with_reducible rfl)
   (try simp only [Act.put, zA, zB, zC, zD, zE, zF])
   refine wpAnyU_take (i := 10) (v := ?_) rfl (by kernel_rfl) (by kernel_rfl) (by kernel_rfl) (by kernel_rfl) (by kernel_rfl) (fun _ _ _ h => hRp _ _ _ _ _ h) (Or.inl ⟨by rfl, ?_⟩) HL3.out ?_
   rotate_left 1
   ·intro w hSw
    (try dsimp only at hSw)
    (go_simp) <;> (with_reducible rfl)
   (try simp only [Act.put, zA, zB, zC, zD, zE, zF])
   refine wpAnyU_take (i := 11) (v := ?_) rfl (by kernel_rfl) (by kernel_rfl) (by kernel_rfl) (by kernel_rfl) (by kernel_rfl) (fun _ _ _ h => hRp _ _ _ _ _ h) (Or.inl ⟨by rfl, ?_⟩) HL3.out ?_
   rotate_left 1
   ·intro w hSw
    (try dsimp only at hSw)
    (go_simp) <;> (with_reducible rfl)
   (try simp only [Act.put, zA, zB, zC, zD, zE, zF])
   refine wpAnyU_ready (rs := [12]) (by kernel_rfl) (by simp) (AllU.cons rfl (fun K hK => ?_) AllU.nil)
   go_simp
   refine (next_any _ T A len cap pd HTd.out sl hpos hlt).mono ?_
   rintro e w5 ⟨j', t5, rfl, j0, j1, hm5⟩
   obtain ⟨j, rfl⟩ : ∃ i : Nat, j' = (i : Int) := ⟨j'.toNat, by omega⟩
   have hjr : j < sl := by omega
   have hg5 := hm5.grew
   have HC5 := Lib.hid (HD.out.grew hg5)
   have HB5 : Hid (But (fun b => b = F ∨ some b = blk A2 ∨ b = T) w w5) := Lib.hid (HB2.out.trans ((show But (fun b => b = F ∨ some b = blk A2 ∨ b = T) w2 w2.drew from But.of_below ⟨rfl, rfl, rfl, Nat.le_refl _, fun _ _ => rfl⟩).trans (But.of_grew (C := (fun b => b = F ∨ some b = blk A2 ∨ b = T)) hg5 (.inr (.inr rfl)))))
   have HF5 : Hid (w5.heap[F]? = some (.cells #[.string nm, .int .i64 0, .slice A1 l1 c1, .slice A2 l2 c2] 60 (0, 0))) := Lib.hid ((hg5.block F (Nat.lt_of_lt_of_le hFl hs2) hFT).trans HF2.out)
   have HS5 := Lib.hid (HS2.out.kept (HD.out.went hg5).keptX)
   have HL3 : Hid (w5.cell? ⟨F, 3, none⟩ = some (.slice A2 l2 c2) ∧ w5.cell? ⟨M, 4, none⟩ = some (.slice (some ⟨b, 0, none⟩) sl sc) ∧ ∀ j, j < sl → w5.cell? ⟨b, j, none⟩ = some (.string (nm' j))) := Lib.hid (held_block (hg5.block F (Nat.lt_of_lt_of_le hFl hs2) hFT) (hg5.block M (Nat.lt_of_lt_of_le hMl hs2) hMT) (hg5.block b hb hbT) HL3.out)
   have hs5 : w2.heap.size ≤ w5.heap.size := hg5.size
   clear hm5 hg5
   refine hK.out _ _ (fun _ => HL3.out) ?_
   clear hK K
   (try simp only [Act.put, zA, zB, zC, zD, zE, zF])
   refine wpAnyU_take (i := 13) (v := ?_) rfl (by kernel_rfl) (by kernel_rfl) (by kernel_rfl) (by kernel_rfl) (by kernel_rfl) (fun _ _ _ h => hRp _ _ _ _ _ h) (Or.inl ⟨by rfl, ?_⟩) HL3.out ?_
   rotate_left 1
   ·intro w hSw
    (try dsimp only at hSw)
    (go_simp) <;> (with_reducible rfl)
   (try simp only [Act.put, zA, zB, zC, zD, zE, zF])
   refine wpAnyU_take (i := 14) (v := ?_) rfl (by kernel_rfl) (by kernel_rfl) (by kernel_rfl) (by kernel_rfl) (by kernel_rfl) (fun _ _ _ h => hRp _ _ _ _ _ h) (Or.inl ⟨by rfl, ?_⟩) HL3.out ?_
   rotate_left 1
   ·intro w hSw
    (try dsimp only at hSw)
    (go_simp) <;> (with_reducible rfl)
   (try simp only [Act.put, zA, zB, zC, zD, zE, zF])
   refine wpAnyU_ready (rs := [15]) (by kernel_rfl) (by simp) (AllU.cons rfl (fun K hK => ?_) AllU.nil)
   go_simp
   refine (variable_any w5 (nm' j)).mono ?_
   rintro e w6 ⟨rfl, hb6⟩
   have HC6 := Lib.hid (HC5.out.below hb6)
   have HB6 : Hid (But (fun b => b = F ∨ some b = blk A2 ∨ b = T) w w6) := Lib.hid (HB5.out.trans (But.of_below hb6))
   have HF6 : Hid (w6.heap[F]? = some (.cells #[.string nm, .int .i64 0, .slice A1 l1 c1, .slice A2 l2 c2] 60 (0, 0))) := Lib.hid ((hb6.block F (Nat.lt_of_lt_of_le hFl (Nat.le_trans hs2 hs5))).trans HF5.out)
   have HS6 := Lib.hid (HS5.out.kept (KeptX.below hb6))
   have HL3 : Hid (w6.cell? ⟨F, 3, none⟩ = some (.slice A2 l2 c2) ∧ w6.cell? ⟨M, 4, none⟩ = some (.slice (some ⟨b, 0, none⟩) sl sc) ∧ ∀ j, j < sl → w6.cell? ⟨b, j, none⟩ = some (.string (nm' j))) := Lib.hid (held_block (hb6.block F (by omega)) (hb6.block M (by omega)) (hb6.block b (by omega)) HL3.out)
   have hs6 := hb6.size
   clear hb6
   refine hK.out _ _ (fun _ => HL3.out) ?_
   clear hK K
   (try simp only [Act.put, zA, zB, zC, zD, zE, zF])
   refine wpAnyU_ready (rs := [16]) (by kernel_rfl) (by simp) (AllU.cons rfl (fun K hK => ?_) AllU.nil)
   go_simp
   obtain ⟨W6, hW6⟩ : ∃ W, Hid (w6.alloc (.cells #[.int .i64 1, .int .i64 0, .int .i64 0, .string (nm' j), .string ⟨#[]⟩, .slice none 0 0] 72) = W) := ⟨_, Lib.hid rfl⟩
   have hb7 : Below w6.heap.size w6 W6 := by rw [← hW6.out]; exact (Below.refl _ _).alloc (Nat.le_refl _) _
   have hr6 : ExRow (w6.alloc (.cells #[.int .i64 1, .int .i64 0, .int .i64 0, .string (nm' j), .string ⟨#[]⟩, .slice none 0 0] 72)) (some ⟨w6.heap.size, 0, none⟩) 1 1 [1] := row_made ((exNew_leaf w6 0 1 0 0 (nm' j) ⟨#[]⟩ (by omega) (by omega) (hnm' j hjr) (by decide)).le (by omega))
   rw [hW6.out] at hr6 ⊢
   have HR6 := Lib.hid hr6
   have HC7 := Lib.hid (HC6.out.below hb7)
   have HB7 : Hid (But (fun b => b = F ∨ some b = blk A2 ∨ b = T) w W6) := Lib.hid (HB6.out.trans (But.of_below hb7))
   have HF7 : Hid (W6.heap[F]? = some (.cells #[.string nm, .int .i64 0, .slice A1 l1 c1, .slice A2 l2 c2] 60 (0, 0))) := Lib.hid ((hb7.block F (by omega)).trans HF6.out)
   have HS7 := Lib.hid (HS6.out.kept (KeptX.below hb7))
   have HL3 : Hid (W6.cell? ⟨F, 3, none⟩ = some (.slice A2 l2 c2) ∧ W6.cell? ⟨M, 4, none⟩ = some (.slice (some ⟨b, 0, none⟩) sl sc) ∧ ∀ j, j < sl → W6.cell? ⟨b, j, none⟩ = some (.string (nm' j))) := Lib.hid (held_block (hb7.block F (by omega)) (hb7.block M (by omega)) (hb7.block b (by omega)) HL3.out)
   have hs7 := hb7.size
   clear hb7 hr6
   refine hK.out _ _ (fun _ => HL3.out) ?_
   clear hK K
   (try simp only [Act.put, zA, zB, zC, zD, zE, zF])
   refine wpAnyU_take (i := 17) (v := ?_) rfl (by kernel_rfl) (by kernel_rfl) (by kernel_rfl) (by kernel_rfl) (by kernel_rfl) (fun _ _ _ h => hRp _ _ _ _ _ h) (Or.inl ⟨by rfl, ?_⟩) HL3.out ?_
   rotate_left 1
   ·intro w hSw
    (try dsimp only at hSw)
    (go_simp) <;> (with_reducible rfl)
   (try simp only [Act.put, zA, zB, zC, zD, zE, zF])
   refine wpAnyU_ready (rs := [18]) (by kernel_rfl) (by simp) (AllU.cons rfl (fun K hK => ?_) AllU.nil)
   go_simp
   obtain ⟨W8, hW8⟩ : ∃ W, Hid (W6.alloc (.cells (asCells 6 ⟨#[]⟩ none 0 0 (some ⟨w6.heap.size, 0, none⟩) 1 1) 75) = W) := ⟨_, Lib.hid rfl⟩
   have hW8' := hW8.out
   simp only [asCells] at hW8'
   have hb8 : Below W6.heap.size W6 W8 := by rw [← hW8.out]; exact (Below.refl _ _).alloc (Nat.le_refl _) _
   have HY8 : Hid (W8.heap[W6.heap.size]? = some (.cells (asCells 6 ⟨#[]⟩ none 0 0 (some ⟨w6.heap.size, 0, none⟩) 1 1) 75 (0, 0))) := Lib.hid (by rw [← hW8.out]; exact Array.getElem?_push_size)
   rw [hW8']
   have HR8 : Hid (ExRow W8 (some ⟨w6.heap.size, 0, none⟩) 1 1 [1]) := Lib.hid (HR6.out.keep (KeptX.below hb8).e)
   have HC8 := Lib.hid (HC7.out.below hb8)
   have HB8 : Hid (But (fun b => b = F ∨ some b = blk A2 ∨ b = T) w W8) := Lib.hid (HB7.out.trans (But.of_below hb8))
   have HF8 : Hid (W8.heap[F]? = some (.cells #[.string nm, .int .i64 0, .slice A1 l1 c1, .slice A2 l2 c2] 60 (0, 0))) := Lib.hid ((hb8.block F (by omega)).trans HF7.out)
   have HS8 := Lib.hid (HS7.out.kept (KeptX.below hb8))
   have HL3 : Hid (W8.cell? ⟨F, 3, none⟩ = some (.slice A2 l2 c2) ∧ W8.cell? ⟨M, 4, none⟩ = some (.slice (some ⟨b, 0, none⟩) sl sc) ∧ ∀ j, j < sl → W8.cell? ⟨b, j, none⟩ = some (.string (nm' j))) := Lib.hid (held_block (hb8.block F (by omega)) (hb8.block M (by omega)) (hb8.block b (by omega)) HL3.out)
   have hs8 := hb8.size
   clear hb8 hW8'
   refine hK.out _ _ (fun _ => HL3.out) ?_
   clear hK K
   (try simp only [Act.put, zA, zB, zC, zD, zE, zF])
   refine wpAnyU_ready (rs := [19]) (by kernel_rfl) (by simp) (AllU.cons rfl (fun K hK => ?_) AllU.nil)
   rw [if_pos (by rfl)]
   refine wp_append_one _ _ rfl Ns W6.heap.size 50 l2 c2 1 (1 + ([] : List Nat).sum + ([1] : List Nat).sum) A2 ns _ rfl HS8.out rfl HY8.out rfl (asCells_one 6 ⟨#[]⟩ none 0 0 _ 1 1) (stIn_plain (kind := 6) (fn := ⟨#[]⟩) ⟨by omega, by omega, .inl rfl⟩ (by decide) (ExRow.nil _) HR8.out rfl rfl (fun b => Ns ≤ b ∧ some b ≠ blk A2) 49) (by omega) (by omega) ?_
   intro A3 c3 w9 hgrow hplace hst
   have hF2' : some F ≠ blk A2 := fun e => by
    obtain ⟨_, _, cur, hc⟩ := HS8.out.place F e.symm
    exact differ HF8.out hc (by decide) rfl
   have hM2' : some M ≠ blk A2 := fun e => by
    obtain ⟨_, _, cur, hc⟩ := HS8.out.place M e.symm
    exact differ HC8.out.maker.block hc (by decide) rfl
   have hb2' : some b ≠ blk A2 := fun e => by
    obtain ⟨_, _, cur, hc⟩ := HS8.out.place b e.symm
    obtain ⟨_, _, cur', hc'⟩ := HC8.out.s.place b rfl
    exact differ hc' hc (by decide) rfl
   have HF9 : Hid (w9.heap[F]? = some (.cells #[.string nm, .int .i64 0, .slice A1 l1 c1, .slice A2 l2 c2] 60 (0, 0))) := Lib.hid ((hgrow.block F (by omega) hF2').trans HF8.out)
   have HL3 : Hid (w9.cell? ⟨F, 3, none⟩ = some (.slice A2 l2 c2) ∧ w9.cell? ⟨M, 4, none⟩ = some (.slice (some ⟨b, 0, none⟩) sl sc) ∧ ∀ j, j < sl → w9.cell? ⟨b, j, none⟩ = some (.string (nm' j))) := Lib.hid (held_block (hgrow.block F (by omega) hF2') (hgrow.block M (by omega) hM2') (hgrow.block b (by omega) hb2') HL3.out)
   have HB9 : Hid (But (fun b => b = F ∨ some b = blk A2 ∨ b = T) w w9) := Lib.hid (HB8.out.trans (But.of_grown hgrow (fun x hx => .inr (.inl hx.symm))))
   have HS9 := Lib.hid hst
   have HA9 : Hid (∀ g, blk A3 = some g → some g = blk A2 ∨ w.heap.size ≤ g) := Lib.hid (fun g hg => by
    rcases hplace with ⟨e, _⟩ | e
    ·exact .inl (hg.symm.trans e)
    ·rw [hg] at e
     injection e with e
     exact .inr (by omega))
   obtain ⟨p9, ht9⟩ := HC8.out.tape
   have HX9 := Lib.hid (ht9.but HRo.out (But.of_grown (C := fun b => some b = blk A2) hgrow (fun x hx => hx.symm)) (fun hc => by
    obtain ⟨_, _, cur', hc'⟩ := HS8.out.place _ hc.symm
    exact differ ht9.block hc' (by decide) rfl) (fun b hc => Nat.le_trans loN (HS8.out.place b hc.symm).1))
   clear hgrow hplace hst hF2' hM2' hb2' ht9
   refine hK.out _ _ (fun _ => HL3.out) ?_
   clear hK K
   (try simp only [Act.put, zA, zB, zC, zD, zE, zF])
   refine wpAnyU_late (i := 20) (v := ?_) rfl (by kernel_rfl) (by kernel_rfl) (by kernel_rfl) (by kernel_rfl) (fun _ _ _ h => hRp _ _ _ _ _ h) (Or.inl ⟨by rfl, ?_⟩) ?_
   rotate_left 1
   ·intro w hSw
    clear hSw
    (go_simp) <;> (with_reducible rfl)
   (try simp only [Act.put, zA, zB, zC, zD, zE, zF])
   refine wpAnyU_ready (rs := [21]) (by kernel_rfl) (by simp) (AllU.cons rfl (fun K hK => ?_) AllU.nil)
   have kF := HL3.out.1
   have fF : w9.frozen? ⟨F, 3, none⟩ = false := at_frozen HF9.out
   obtain ⟨U, hU⟩ : ∃ U, Hid (w9.setCell ⟨F, 3, none⟩ (.slice A3 (l2 + 1) c3) = U) := ⟨_, Lib.hid rfl⟩
   have hset := setB_cell (o := 3) (.slice A3 (l2 + 1) c3) HF9.out
   rw [hU.out] at hset
   have hset : SetB F (#[.string nm, .int .i64 0, .slice A1 l1 c1, .slice A3 (l2 + 1) c3]) 60 w9 U := hset
   have HSU : Hid (StsAt U Ns 50 A3 (l2 + 1) c3 (ns ++ [1 + ([] : List Nat).sum + ([1] : List Nat).sum])) := Lib.hid (HS9.out.kept (fun b cur e fr he hb => (hset.block b (differ hb HF9.out (by rcases he with rfl | rfl <;> decide))).trans hb))
   have HBU : Hid (But (fun b => b = F ∨ some b = blk A2 ∨ b = T) w U) := Lib.hid (HB9.out.trans (But.of_setB hset (.inl rfl)))
   have HXU := Lib.hid (HX9.out.but HRo.out (But.of_setB (C := fun b => b = F) hset rfl) (fun hc => hFT hc.symm) (fun b hc => by have hc : b = F := hc; subst hc; exact loF))
   have HUF := Lib.hid hset.at_
   clear hset
   go_simp
   rw [hU.out]
   refine hK.out _ _ (fun hh => absurd hh (by decide)) ?_
   clear hK K kF fF
   refine wpAnyU_done (by kernel_rfl) ?_ _
   go_wp2_with fail
   refine pg_midend lo C0 T O P M F D N Ns l1 c1 l2 c2 lF cF len cap f funcs A A1 A2 AF nm ns VR w ⟨_, _, ht.block⟩ hF hnm hO hS hl2 hsum hPar hFns hlF hD hN hNs hFA loF loO loD loN U _ A3 (l2 + 1) c3 (ns ++ [1 + ([] : List Nat).sum + ([1] : List Nat).sum]) HBU.out HUF.out HSU.out HA9.out (by omega) (by rw [List.sum_append]; simp only [List.sum_cons, List.sum_nil]; omega) HXU.out HRo.out R hR

  ·obtain rfl : q = 0 := by omega
   go_wp2_with fail
   refine pg_midend lo C0 T O P M F D N Ns l1 c1 l2 c2 lF cF len cap f funcs A A1 A2 AF nm ns VR w ⟨_, _, ht.block⟩ hF hnm hO hS hl2 hsum hPar hFns hlF hD hN hNs hFA loF loO loD loN w2 _ A2 l2 c2 (ns) HB2.out HF2.out HS2.out (fun g hg => .inl hg.symm) (by omega) (by omega) HC2.out.tape.choose_spec HRo.out R hR
end Go.Proofs.YtchibamdkaejdaaDoor
namespace Go.Proofs.YtchibamdkaejdaaDoor
open Go.RowKit

theorem pgH_code : pgH = oSnd (oSnd (oSnd (oSnd (fun _ => pgM)))) pgH := by kernel_rfl
/-- What a round leaves as it was: blocks below lo, and all but O, tapes, makers, functions and statements. -/
structure Pres (lo O : Nat) (w w' : World) : Prop where
 os : w'.os = w.os
 tape : w'.tape = w.tape
 output : w'.output = w.output
 size : w.heap.size ≤ w'.heap.size
 low : ∀ b : Nat, b < lo → b < w.heap.size → w'.heap[b]? = w.heap[b]?
 keep : ∀ (b : Nat) (cur : Array Value) (e : TypeId) (fr : Nat × Nat), b ≠ O → e ≠ 64 → e ≠ 68 → e ≠ 60 → e ≠ 75 → w.heap[b]? = some (.cells cur e fr) → w'.heap[b]? = some (.cells cur e fr)
theorem Pres.below {lo O : Nat} {w w' : World} (h : Below w.heap.size w w') : Pres lo O w w' := ⟨h.os, h.tape, h.output, h.size, fun b _ hb => h.block b hb, fun b _ _ _ _ _ _ _ _ hb => (h.block b (Array.getElem?_eq_some_iff.1 hb).1).trans hb⟩
theorem Pres.trans {lo O : Nat} {w w' w'' : World} (h : Pres lo O w w') (k : Pres lo O w' w'') : Pres lo O w w'' :=
 ⟨k.os.trans h.os, k.tape.trans h.tape, k.output.trans h.output, Nat.le_trans h.size k.size, fun b hb hw => (k.low b hb (Nat.lt_of_lt_of_le hw h.size)).trans (h.low b hb hw), fun b cur e fr h1 h2 h3 h4 h5 hb => k.keep b cur e fr h1 h2 h3 h4 h5 (h.keep b cur e fr h1 h2 h3 h4 h5 hb)⟩
/-- Behind a round: one function more. -/
def PgEnd3 (lo C0 T O P M F D lF len cap : Nat) (f funcs : Int) (A : Option Addr) (VR : Value) (x0 x1 x11 x12 x13 x14 x15 x16 x17 x18 x19 x20 x21 x22 x23 x24 x25 x26 x27 x107 : Value) (w : World) (a : Act) (w' : World) : Prop :=
 PgFrame C0 T O P M F f funcs x0 x1 x11 x12 x13 x14 x15 x16 x17 x18 x19 x20 x21 x22 x23 x24 x25 x26 x27 x107 a ∧ ∃ (AF' : Option Addr) (cF' : Nat), w'.heap[O]? = some (.cells #[VR, .slice AF' (lF + 1) cF'] 45 (0, 0)) ∧ FnsAt w' w'.heap.size D AF' (lF + 1) cF' ∧ Pres lo O w w' ∧ ∃ pos, TapeAt w' T A len cap pos
theorem par_own {w : World} {N l c : Nat} {A : Option Addr} (h : ParRow w N A l c) : NameOwn w 0 A 4 4 := by
 obtain ⟨h1, rfl, b, rfl, h4, h5⟩ := h
 refine ⟨abcd.toList, ⟨rfl, .inr ⟨b, 4, abcd, rfl, Nat.zero_le _, h5, Nat.le_refl _, by decide, rfl, rfl⟩⟩, fun x hx => ?_⟩
 simp only [abcd, List.mem_cons, List.not_mem_nil, or_false] at hx
 rcases hx with rfl | rfl | rfl | rfl <;> exact ⟨_, by decide, rfl⟩
set_option linter.unusedSimpArgs false in
set_option linter.unusedVariables false in
set_option maxHeartbeats 0 in
set_option maxRecDepth 100000 in
theorem pg_head (lo C0 T O P M F D N l1 c1 lF cF len cap : Nat) (f funcs : Int) (A A1 AF : Option Addr) (nm : ByteArray) (VR : Value) (w : World) (HSA : Hid (StmtsAt 1 4)) (hM : MakerAt w M T f funcs 0 22 (some ⟨P, 0, none⟩) none none none 4 4 0 0 0 0 0 0) (pos : Nat) (ht : TapeAt w T A len cap pos) (hrow : (∃ (b o : Nat), len = 0 ∨ (A = some ⟨b, o, none⟩ ∧ b < lo))) (p1 p2 p3 : Nat) (hP : w.heap[P]? = some (.cells #[.int .i64 2, .int .i64 p1, .int .i64 p2, .int .i64 p3] 3 (0, 0))) (hp1 : p1 ≤ 4) (hp2 : p2 ≤ 4) (hp3 : p3 ≤ 4) (hf0 : 0 ≤ f) (hf1 : f < funcs) (hfu : funcs ≤ 4) (hF : w.heap[F]? = some (.cells #[.string nm, .int .i64 0, .slice A1 l1 c1, .slice none 0 0] 60 (0, 0))) (hnm : nm.size ≤ 20) (hO : w.heap[O]? = some (.cells #[VR, .slice AF lF cF] 45 (0, 0))) (hPar : ParRow w N A1 l1 c1) (hFns : FnsAt w N D AF lF cF) (hlF : lF ≤ 10) (hN : N ≤ w.heap.size) (hFA : some F ≠ blk AF) (hD : lo ≤ D) (hDw : D ≤ w.heap.size) (loM : lo ≤ M) (loT : lo ≤ T) (loF : lo ≤ F) (loO : lo ≤ O) (low : lo ≤ w.heap.size) {x0 x1 x10 x11 x12 x13 x14 x15 x16 x17 x18 x19 x20 x21 x22 x23 x24 x25 x26 x27 x28 x29 x30 x31 x32 x33 x34 x35 x36 x37 x38 x39 x40 x41 x42 x43 x44 x45 x46 x47 x48 x49 x50 x51 x52 x53 x54 x55 x56 x57 x58 x59 x60 x61 x62 x63 x64 x65 x66 x67 x68 x69 x70 x71 x72 x73 x74 x75 x76 x77 x78 x79 x80 x81 x82 x83 x84 x85 x86 x87 x88 x89 x90 x91 x92 x93 x94 x95 x96 x97 x98 x99 x100 x101 x102 x103 x104 x105 x106 x107 : Value} (R : Exit → Act → World → Prop) (hR : ∀ a' w', PgEnd3 lo C0 T O P M F D lF len cap f funcs A VR x0 x1 x11 x12 x13 x14 x15 x16 x17 x18 x19 x20 x21 x22 x23 x24 x25 x26 x27 x107 w a' w' → R .normal a' w') (hRp : ∀ c (a : Act) (d : Nat) (v : Value) w, R (.panic c) (a.put (some d) v) w → R (.panic c) a w) : Code.wp Tryd.prog pgH R ⟨#[x0, x1, .pointer (some ⟨C0, 0, none⟩), .pointer (some ⟨T, 0, none⟩), .pointer (some ⟨O, 0, none⟩), .int .i64 funcs, .slice (some ⟨P, 0, none⟩) 4 4, .int .i64 f, .pointer (some ⟨M, 0, none⟩), .pointer (some ⟨F, 0, none⟩), x10, x11, x12, x13, x14, x15, x16, x17, x18, x19, x20, x21, x22, x23, x24, x25, x26, x27, x28, x29, x30, x31, x32, x33, x34, x35, x36, x37, x38, x39, x40, x41, x42, x43, x44, x45, x46, x47, x48, x49, x50, x51, x52, x53, x54, x55, x56, x57, x58, x59, x60, x61, x62, x63, x64, x65, x66, x67, x68, x69, x70, x71, x72, x73, x74, x75, x76, x77, x78, x79, x80, x81, x82, x83, x84, x85, x86, x87, x88, x89, x90, x91, x92, x93, x94, x95, x96, x97, x98, x99, x100, x101, x102, x103, x104, x105, x106, x107], []⟩ w := by
 have HF := Lib.hid hF
 have HO := Lib.hid hO
 have HM := Lib.hid hM
 have hMT : M ≠ T := differ hM.block ht.block (by decide)
 have hFM : F ≠ M := differ hF hM.block (by decide)
 have hOM : O ≠ M := differ hO hM.block (by decide)
 have hFO : F ≠ O := differ hF hO (by decide)
 have hPM : P ≠ M := differ hP hM.block (by decide)
 have hMl := hM.lt
 obtain ⟨hl1, hc1, G, hA1, hGN, hG⟩ := id hPar
 subst hc1 hA1
 have e2 : ∀ o, (w.alloc o).cell? ⟨F, 2, none⟩ = some (.slice (some ⟨G, 0, none⟩) l1 4) := fun o => (((Below.refl w.heap.size w).alloc (Nat.le_refl _) o).cell (p := ⟨F, 2, none⟩) (Array.getElem?_eq_some_iff.1 hF).1).trans (at_cell (o := 2) hF rfl)
 have e2' : w.cell? ⟨F, 2, none⟩ = some (.slice (some ⟨G, 0, none⟩) l1 4) := at_cell (o := 2) hF rfl
 rw [pgH_code]
 simp only [oSnd, pgH, pgZ, pFst, pSnd, pIn, Tryd.f17, Option.getD]
 obtain ⟨V, hV⟩ : ∃ V, Hid (w.alloc (.cells #[] 9) = V) := ⟨_, Lib.hid rfl⟩
 have hwV : Below w.heap.size w V := by rw [← hV.out]; exact (Below.refl _ _).alloc (Nat.le_refl _) _
 have HwV := Lib.hid hwV
 have hmade := NameOwn.made (D := w.heap.size) w (Nat.le_refl _)
 rw [hV.out] at hmade
 have HMD := Lib.hid hmade
 have hGl : G < w.heap.size := (Array.getElem?_eq_some_iff.1 hG).1
 have HPV : Hid (ParRow V N (some ⟨G, 0, none⟩) l1 4) := Lib.hid (hPar.keep (Nat.le_refl _) (fun b cur e fr _ _ hb => (hwV.block b (Array.getElem?_eq_some_iff.1 hb).1).trans hb))
 have HZV := Lib.hid hwV.size
 clear hwV hmade
 by_cases hf : f = 0
 ·subst hf
  go_wp2_with (at_builtin; rw [hV.out]; refine wpList_plain rfl (fun K hK => ?_); refine wp_append_names _ _ rfl w.heap.size 0 (some ⟨w.heap.size, 0, none⟩) (some ⟨G, 0, none⟩) 0 4 4 l1 rfl HMD.out rfl (par_own HPV.out) hl1 (by omega) HZV.out ?_; intro X' c' w3 hown hgrow hplace; have hM3 : some M ≠ blk (some ⟨w.heap.size, 0, none⟩) := (fun e => by have : M = w.heap.size := (by simpa [blk] using e); omega); have hbl : ∀ b, b < w.heap.size → w3.heap[b]? = w.heap[b]? := (fun b hb => (hgrow.block b (by have := HZV.out; omega) (fun e => by have : b = w.heap.size := (by simpa [blk] using e); omega)).trans (HwV.out.block b hb)); have HM3 : Hid (MakerAt w3 M T 0 funcs 0 22 (some ⟨P, 0, none⟩) none none none 4 4 0 0 0 0 0 0) := Lib.hid ⟨(hbl M hMl).trans HM.out.block⟩; have e4 := HM3.out.cell 4 (.slice none 0 0) rfl; have f4 := HM3.out.frozen 4; obtain ⟨U, hU⟩ : ∃ U, Hid (w3.setCell ⟨M, 4, none⟩ (.slice X' l1 c') = U) := ⟨_, Lib.hid rfl⟩; have hset := setB_cell (o := 4) (.slice X' l1 c') HM3.out.block; rw [hU.out] at hset; have hz3 : w.heap.size ≤ w3.heap.size := Nat.le_trans HZV.out hgrow.size; have HZU : Hid (w.heap.size ≤ U.heap.size) := Lib.hid (by rw [hset.size]; exact hz3); have HLU : Hid (∀ b, b < w.heap.size → b ≠ M → U.heap[b]? = w.heap[b]?) := Lib.hid (fun b hb hm => (hset.block b hm).trans (hbl b hb)); have HPU : Hid (∀ (b : Nat) (cur : Array Value) (e : TypeId) (fr : Nat × Nat), b < w.heap.size → e ≠ 68 → w.heap[b]? = some (.cells cur e fr) → U.heap[b]? = some (.cells cur e fr)) := Lib.hid (fun b cur e fr hb he hx => (HLU.out b hb (differ hx HM.out.block he)).trans hx); have HFU : Hid (U.heap[F]? = some (.cells #[.string nm, .int .i64 0, .slice (some ⟨G, 0, none⟩) l1 4, .slice none 0 0] 60 (0, 0))) := Lib.hid (HPU.out _ _ _ _ (Array.getElem?_eq_some_iff.1 HF.out).1 (by decide) HF.out); have HOU : Hid (U.heap[O]? = some (.cells #[VR, .slice AF lF cF] 45 (0, 0))) := Lib.hid (HPU.out _ _ _ _ (Array.getElem?_eq_some_iff.1 HO.out).1 (by decide) HO.out); have HXU : Hid (Below 0 w U) := Lib.hid ⟨hset.os.trans (hgrow.os.trans HwV.out.os), hset.tape.trans (hgrow.tape.trans HwV.out.tape), hset.output.trans (hgrow.output.trans HwV.out.output), HZU.out, fun b hb => absurd hb (by omega)⟩; have HXown := Lib.hid (hown.kept (w' := U) (fun g hg => hset.block g (fun e => by subst e; obtain ⟨_, _, cur', hc'⟩ := hown.place _ hg; exact differ hc' HM3.out.block (by decide) rfl))); have hXn : ∃ g, blk X' = some g := (by rcases hplace with e | e <;> exact ⟨_, e⟩); have htU := ht.but hrow (C := fun b => b = M) (w' := U) ⟨HXU.out.os, HXU.out.tape, HXU.out.output, HZU.out, fun b hb hm => HLU.out b hb hm⟩ (fun hc => hMT hc.symm) (fun b hc => by have hc : b = M := hc; omega); have HCU : Hid (Cx lo w.heap.size ⟨M, T, 0, funcs, 0, 22, some ⟨P, 0, none⟩, X', none, none, 4, 4, l1, c', 0, 0, 0, 0, A, len, cap⟩ U) := Lib.hid ⟨⟨hset.at_⟩, ⟨_, htU⟩, HXown.out, NameOwn.nil _ _, NameOwn.nil _ _, (by obtain ⟨g, hg⟩ := hXn; exact .inr (by rw [hg]; simp [blk])), (by obtain ⟨g, hg⟩ := hXn; exact .inr (by rw [hg]; simp [blk])), .inl rfl, ⟨P, 2, p1, p2, p3, rfl, rfl, rfl, HPU.out _ _ _ _ (Array.getElem?_eq_some_iff.1 hP).1 (by decide) hP, by omega, hp1, hp2, hp3⟩, loM, loT, HZU.out, low, ⟨(by dsimp only; omega), (by dsimp only; omega), (by dsimp only; omega), (by dsimp only; omega), (by dsimp only; omega), (by dsimp only; omega), hf0, hf1, hfu⟩, hrow⟩; clear hM3 hbl hown hgrow hplace hset hXn htU hz3; refine hK _ _ ?_; clear hK)
  rw [hU.out]
  have hzu : w.heap.size ≤ U.heap.size := HZU.out
  refine (HSA.out w.heap.size ⟨M, T, 0, funcs, 0, 22, some ⟨P, 0, none⟩, X', none, none, 4, 4, l1, c', 0, 0, 0, 0, A, len, cap⟩ U 10 (by omega) HCU.out).mono ?_
  rintro e w5 ⟨A2, l2, c2, ns, m5, rfl, hst, hl, hkin, hleft, hcl, hsum, hc, hw⟩
  obtain ⟨M5, T5, f5, funcs5, count5, left5, P5, S5, Q5, R5, pl5, pc5, sl5, sc5, ql5, qc5, rl5, rc5, A5, len5, cap5⟩ := m5
  obtain ⟨z1, z2, z3, z4, z5, z6, z7, z8, z9, z10⟩ := hkin.lets
  dsimp only at z1 z2 z3 z4 z5 z6 z7 z8 z9 z10 hleft hcl hsum
  subst z1 z2 z3 z4 z5 z6 z7 z8 z9 z10
  have hn5 := hc.num.left0
  dsimp only at hn5
  clear hkin
  have HF5 : Hid (w5.heap[F]? = some (.cells #[.string nm, .int .i64 0, .slice (some ⟨G, 0, none⟩) l1 4, .slice none 0 0] 60 (0, 0))) := Lib.hid (hw.typed _ _ _ _ (by decide) (by decide) (by decide) HFU.out)
  have HO5 : Hid (w5.heap[O]? = some (.cells #[VR, .slice AF lF cF] 45 (0, 0))) := Lib.hid (hw.typed _ _ _ _ (by decide) (by decide) (by decide) HOU.out)
  have e3 : w5.cell? ⟨F, 3, none⟩ = some (.slice none 0 0) := at_cell (o := 3) HF5.out rfl
  have f3 : w5.frozen? ⟨F, 3, none⟩ = false := at_frozen HF5.out
  obtain ⟨U5, hU5⟩ : ∃ U, Hid (w5.setCell ⟨F, 3, none⟩ (.slice A2 l2 c2) = U) := ⟨_, Lib.hid rfl⟩
  have hset := setB_cell (o := 3) (.slice A2 l2 c2) HF5.out
  rw [hU5.out] at hset
  have hset : SetB F #[.string nm, .int .i64 0, .slice (some ⟨G, 0, none⟩) l1 4, .slice A2 l2 c2] 60 w5 U5 := hset
  have HSet := Lib.hid hset
  have HC5 := Lib.hid (hc.set HF5.out (by decide) hset loF)
  have HS5 : Hid (StsAt U5 U.heap.size 50 A2 l2 c2 ns) := Lib.hid ((hst.kept (fun b cur e fr he hb => (hset.block b (differ hb HF5.out (by rcases he with rfl | rfl <;> decide))).trans hb)).deep (by omega))
  have HW5 := Lib.hid hw
  have HO6 : Hid (U5.heap[O]? = some (.cells #[VR, .slice AF lF cF] 45 (0, 0))) := Lib.hid ((hset.block O (fun e => hFO e.symm)).trans HO5.out)
  have HkN : Hid (KeptN N w U5) := Lib.hid (fun b cur e fr hbN he hb => by
   have hne : e ≠ 64 ∧ e ≠ 68 ∧ e ≠ 60 := by rcases he with rfl | rfl <;> decide
   exact (hset.block b (differ (hw.mid b cur e fr (by omega) hne.1 hne.2.1 (HPU.out b cur e fr (by omega) hne.2.1 hb)) HF5.out hne.2.2)).trans (hw.mid b cur e fr (by omega) hne.1 hne.2.1 (HPU.out b cur e fr (by omega) hne.2.1 hb)))
  have HkE : Hid (KeptE w U5) := Lib.hid (fun b cur fr hb => by
   have h1 := hw.typed b cur _ fr (by decide) (by decide) (by decide) (HPU.out b cur _ fr (Array.getElem?_eq_some_iff.1 hb).1 (by decide) hb)
   exact (hset.block b (differ h1 HF5.out (by decide))).trans h1)
  have HkA : Hid (∀ g, blk AF = some g → U5.heap[g]? = w.heap[g]?) := Lib.hid (fun g hg => by
   obtain ⟨_, hgl, cur, hcur⟩ := hFns.place g hg
   have h1 := hw.typed g cur _ _ (by decide) (by decide) (by decide) (HPU.out g cur _ _ hgl (by decide) hcur)
   exact ((hset.block g (fun e => hFA (by rw [← e]; exact hg.symm))).trans h1).trans hcur.symm)
  have hzz : U.heap.size ≤ U5.heap.size := by rw [hset.size]; exact hw.size
  clear hc hw hst hset
  go_wp2_with fail
  rw [hU5.out]
  refine pg_mid lo w.heap.size C0 T O P M F D N U.heap.size l1 4 l2 c2 lF cF len cap sl5 sc5 ql5 qc5 rl5 rc5 0 funcs count5 left5 A (some ⟨G, 0, none⟩) A2 AF S5 Q5 R5 nm ns VR U5 HC5.out HSet.out.at_ hnm HO6.out HS5.out hl (by omega) (hPar.keep (Nat.le_refl _) HkN.out) (hFns.keep (Nat.le_refl _) HkA.out HkE.out HkN.out) hlF (by omega) (by omega) hzz hFA loF loO hD (Nat.le_trans low hzu) R ?_ hRp
  rintro a' w' ⟨hfr, AF', cF', h1, h2, h3, h4⟩
  refine hR _ _ ⟨hfr, AF', cF', h1, h2, ⟨h3.os.trans (HSet.out.os.trans (HW5.out.os.trans HXU.out.os)), h3.tape.trans (HSet.out.tape.trans (HW5.out.tape.trans HXU.out.tape)), h3.output.trans (HSet.out.output.trans (HW5.out.output.trans HXU.out.output)), Nat.le_trans (by omega) h3.size, fun b hb hbw => ?_, fun b cur e fr g1 g2 g3 g4 g5 hb => ?_⟩, h4⟩
  ·have k1 : U5.heap[b]? = w.heap[b]? := (HSet.out.block b (by omega)).trans ((HW5.out.low b hb (by omega)).trans (HLU.out b hbw (by omega)))
   refine (h3.block b (by omega) (fun hc => ?_)).trans k1
   rcases hc with hc | hc | hc | hc | hc
   ·omega
   ·omega
   ·have := (HS5.out.place b hc.symm).1; omega
   ·have := (hFns.place b hc.symm).1; omega
   ·omega
  ·have hbw := (Array.getElem?_eq_some_iff.1 hb).1
   have k0 := HW5.out.mid b cur e fr hbw g2 g3 (HPU.out b cur e fr hbw g3 hb)
   have k1 := (HSet.out.block b (differ k0 HF5.out g4)).trans k0
   refine h3.at_ k1 (fun hc => ?_)
   rcases hc with hc | hc | hc | hc | hc
   ·subst hc; exact differ k0 HF5.out g4 rfl
   ·exact g1 hc
   ·have := (HS5.out.place b hc.symm).1; omega
   ·obtain ⟨_, _, cur', hc'⟩ := hFns.place b hc.symm
    exact differ hb hc' g4 rfl
   ·subst hc; exact differ hb ht.block g2 rfl
 ·have hfp : 0 < f := by omega
  go_wp2_with (at_builtin; rw [hV.out]; refine wpList_plain rfl (fun K hK => ?_); refine wp_append_names _ _ rfl w.heap.size 0 (some ⟨w.heap.size, 0, none⟩) (some ⟨G, 0, none⟩) 0 4 4 l1 rfl HMD.out rfl (par_own HPV.out) hl1 (by omega) HZV.out ?_; intro X' c' w3 hown hgrow hplace; have hM3 : some M ≠ blk (some ⟨w.heap.size, 0, none⟩) := (fun e => by have : M = w.heap.size := (by simpa [blk] using e); omega); have hbl : ∀ b, b < w.heap.size → w3.heap[b]? = w.heap[b]? := (fun b hb => (hgrow.block b (by have := HZV.out; omega) (fun e => by have : b = w.heap.size := (by simpa [blk] using e); omega)).trans (HwV.out.block b hb)); have HM3 : Hid (MakerAt w3 M T f funcs 0 22 (some ⟨P, 0, none⟩) none none none 4 4 0 0 0 0 0 0) := Lib.hid ⟨(hbl M hMl).trans HM.out.block⟩; have e4 := HM3.out.cell 4 (.slice none 0 0) rfl; have f4 := HM3.out.frozen 4; obtain ⟨U, hU⟩ : ∃ U, Hid (w3.setCell ⟨M, 4, none⟩ (.slice X' l1 c') = U) := ⟨_, Lib.hid rfl⟩; have hset := setB_cell (o := 4) (.slice X' l1 c') HM3.out.block; rw [hU.out] at hset; have hz3 : w.heap.size ≤ w3.heap.size := Nat.le_trans HZV.out hgrow.size; have HZU : Hid (w.heap.size ≤ U.heap.size) := Lib.hid (by rw [hset.size]; exact hz3); have HLU : Hid (∀ b, b < w.heap.size → b ≠ M → U.heap[b]? = w.heap[b]?) := Lib.hid (fun b hb hm => (hset.block b hm).trans (hbl b hb)); have HPU : Hid (∀ (b : Nat) (cur : Array Value) (e : TypeId) (fr : Nat × Nat), b < w.heap.size → e ≠ 68 → w.heap[b]? = some (.cells cur e fr) → U.heap[b]? = some (.cells cur e fr)) := Lib.hid (fun b cur e fr hb he hx => (HLU.out b hb (differ hx HM.out.block he)).trans hx); have HFU : Hid (U.heap[F]? = some (.cells #[.string nm, .int .i64 0, .slice (some ⟨G, 0, none⟩) l1 4, .slice none 0 0] 60 (0, 0))) := Lib.hid (HPU.out _ _ _ _ (Array.getElem?_eq_some_iff.1 HF.out).1 (by decide) HF.out); have HOU : Hid (U.heap[O]? = some (.cells #[VR, .slice AF lF cF] 45 (0, 0))) := Lib.hid (HPU.out _ _ _ _ (Array.getElem?_eq_some_iff.1 HO.out).1 (by decide) HO.out); have HXU : Hid (Below 0 w U) := Lib.hid ⟨hset.os.trans (hgrow.os.trans HwV.out.os), hset.tape.trans (hgrow.tape.trans HwV.out.tape), hset.output.trans (hgrow.output.trans HwV.out.output), HZU.out, fun b hb => absurd hb (by omega)⟩; have HXown := Lib.hid (hown.kept (w' := U) (fun g hg => hset.block g (fun e => by subst e; obtain ⟨_, _, cur', hc'⟩ := hown.place _ hg; exact differ hc' HM3.out.block (by decide) rfl))); have hXn : ∃ g, blk X' = some g := (by rcases hplace with e | e <;> exact ⟨_, e⟩); have htU := ht.but hrow (C := fun b => b = M) (w' := U) ⟨HXU.out.os, HXU.out.tape, HXU.out.output, HZU.out, fun b hb hm => HLU.out b hb hm⟩ (fun hc => hMT hc.symm) (fun b hc => by have hc : b = M := hc; omega); have HCU : Hid (Cx lo w.heap.size ⟨M, T, f, funcs, 0, 22, some ⟨P, 0, none⟩, X', none, none, 4, 4, l1, c', 0, 0, 0, 0, A, len, cap⟩ U) := Lib.hid ⟨⟨hset.at_⟩, ⟨_, htU⟩, HXown.out, NameOwn.nil _ _, NameOwn.nil _ _, (by obtain ⟨g, hg⟩ := hXn; exact .inr (by rw [hg]; simp [blk])), (by obtain ⟨g, hg⟩ := hXn; exact .inr (by rw [hg]; simp [blk])), .inl rfl, ⟨P, 2, p1, p2, p3, rfl, rfl, rfl, HPU.out _ _ _ _ (Array.getElem?_eq_some_iff.1 hP).1 (by decide) hP, by omega, hp1, hp2, hp3⟩, loM, loT, HZU.out, low, ⟨(by dsimp only; omega), (by dsimp only; omega), (by dsimp only; omega), (by dsimp only; omega), (by dsimp only; omega), (by dsimp only; omega), hf0, hf1, hfu⟩, hrow⟩; clear hM3 hbl hown hgrow hplace hset hXn htU hz3; refine hK _ _ ?_; clear hK)
  rw [hU.out]
  have hzu : w.heap.size ≤ U.heap.size := HZU.out
  refine (HSA.out w.heap.size ⟨M, T, f, funcs, 0, 22, some ⟨P, 0, none⟩, X', none, none, 4, 4, l1, c', 0, 0, 0, 0, A, len, cap⟩ U 6 (by omega) HCU.out).mono ?_
  rintro e w5 ⟨A2, l2, c2, ns, m5, rfl, hst, hl, hkin, hleft, hcl, hsum, hc, hw⟩
  obtain ⟨M5, T5, f5, funcs5, count5, left5, P5, S5, Q5, R5, pl5, pc5, sl5, sc5, ql5, qc5, rl5, rc5, A5, len5, cap5⟩ := m5
  obtain ⟨z1, z2, z3, z4, z5, z6, z7, z8, z9, z10⟩ := hkin.lets
  dsimp only at z1 z2 z3 z4 z5 z6 z7 z8 z9 z10 hleft hcl hsum
  subst z1 z2 z3 z4 z5 z6 z7 z8 z9 z10
  have hn5 := hc.num.left0
  dsimp only at hn5
  clear hkin
  have HF5 : Hid (w5.heap[F]? = some (.cells #[.string nm, .int .i64 0, .slice (some ⟨G, 0, none⟩) l1 4, .slice none 0 0] 60 (0, 0))) := Lib.hid (hw.typed _ _ _ _ (by decide) (by decide) (by decide) HFU.out)
  have HO5 : Hid (w5.heap[O]? = some (.cells #[VR, .slice AF lF cF] 45 (0, 0))) := Lib.hid (hw.typed _ _ _ _ (by decide) (by decide) (by decide) HOU.out)
  have e3 : w5.cell? ⟨F, 3, none⟩ = some (.slice none 0 0) := at_cell (o := 3) HF5.out rfl
  have f3 : w5.frozen? ⟨F, 3, none⟩ = false := at_frozen HF5.out
  obtain ⟨U5, hU5⟩ : ∃ U, Hid (w5.setCell ⟨F, 3, none⟩ (.slice A2 l2 c2) = U) := ⟨_, Lib.hid rfl⟩
  have hset := setB_cell (o := 3) (.slice A2 l2 c2) HF5.out
  rw [hU5.out] at hset
  have hset : SetB F #[.string nm, .int .i64 0, .slice (some ⟨G, 0, none⟩) l1 4, .slice A2 l2 c2] 60 w5 U5 := hset
  have HSet := Lib.hid hset
  have HC5 := Lib.hid (hc.set HF5.out (by decide) hset loF)
  have HS5 : Hid (StsAt U5 U.heap.size 50 A2 l2 c2 ns) := Lib.hid ((hst.kept (fun b cur e fr he hb => (hset.block b (differ hb HF5.out (by rcases he with rfl | rfl <;> decide))).trans hb)).deep (by omega))
  have HW5 := Lib.hid hw
  have HO6 : Hid (U5.heap[O]? = some (.cells #[VR, .slice AF lF cF] 45 (0, 0))) := Lib.hid ((hset.block O (fun e => hFO e.symm)).trans HO5.out)
  have HkN : Hid (KeptN N w U5) := Lib.hid (fun b cur e fr hbN he hb => by
   have hne : e ≠ 64 ∧ e ≠ 68 ∧ e ≠ 60 := by rcases he with rfl | rfl <;> decide
   exact (hset.block b (differ (hw.mid b cur e fr (by omega) hne.1 hne.2.1 (HPU.out b cur e fr (by omega) hne.2.1 hb)) HF5.out hne.2.2)).trans (hw.mid b cur e fr (by omega) hne.1 hne.2.1 (HPU.out b cur e fr (by omega) hne.2.1 hb)))
  have HkE : Hid (KeptE w U5) := Lib.hid (fun b cur fr hb => by
   have h1 := hw.typed b cur _ fr (by decide) (by decide) (by decide) (HPU.out b cur _ fr (Array.getElem?_eq_some_iff.1 hb).1 (by decide) hb)
   exact (hset.block b (differ h1 HF5.out (by decide))).trans h1)
  have HkA : Hid (∀ g, blk AF = some g → U5.heap[g]? = w.heap[g]?) := Lib.hid (fun g hg => by
   obtain ⟨_, hgl, cur, hcur⟩ := hFns.place g hg
   have h1 := hw.typed g cur _ _ (by decide) (by decide) (by decide) (HPU.out g cur _ _ hgl (by decide) hcur)
   exact ((hset.block g (fun e => hFA (by rw [← e]; exact hg.symm))).trans h1).trans hcur.symm)
  have hzz : U.heap.size ≤ U5.heap.size := by rw [hset.size]; exact hw.size
  clear hc hw hst hset
  go_wp2_with fail
  rw [hU5.out]
  refine pg_mid lo w.heap.size C0 T O P M F D N U.heap.size l1 4 l2 c2 lF cF len cap sl5 sc5 ql5 qc5 rl5 rc5 f funcs count5 left5 A (some ⟨G, 0, none⟩) A2 AF S5 Q5 R5 nm ns VR U5 HC5.out HSet.out.at_ hnm HO6.out HS5.out hl (by omega) (hPar.keep (Nat.le_refl _) HkN.out) (hFns.keep (Nat.le_refl _) HkA.out HkE.out HkN.out) hlF (by omega) (by omega) hzz hFA loF loO hD (Nat.le_trans low hzu) R ?_ hRp
  rintro a' w' ⟨hfr, AF', cF', h1, h2, h3, h4⟩
  refine hR _ _ ⟨hfr, AF', cF', h1, h2, ⟨h3.os.trans (HSet.out.os.trans (HW5.out.os.trans HXU.out.os)), h3.tape.trans (HSet.out.tape.trans (HW5.out.tape.trans HXU.out.tape)), h3.output.trans (HSet.out.output.trans (HW5.out.output.trans HXU.out.output)), Nat.le_trans (by omega) h3.size, fun b hb hbw => ?_, fun b cur e fr g1 g2 g3 g4 g5 hb => ?_⟩, h4⟩
  ·have k1 : U5.heap[b]? = w.heap[b]? := (HSet.out.block b (by omega)).trans ((HW5.out.low b hb (by omega)).trans (HLU.out b hbw (by omega)))
   refine (h3.block b (by omega) (fun hc => ?_)).trans k1
   rcases hc with hc | hc | hc | hc | hc
   ·omega
   ·omega
   ·have := (HS5.out.place b hc.symm).1; omega
   ·have := (hFns.place b hc.symm).1; omega
   ·omega
  ·have hbw := (Array.getElem?_eq_some_iff.1 hb).1
   have k0 := HW5.out.mid b cur e fr hbw g2 g3 (HPU.out b cur e fr hbw g3 hb)
   have k1 := (HSet.out.block b (differ k0 HF5.out g4)).trans k0
   refine h3.at_ k1 (fun hc => ?_)
   rcases hc with hc | hc | hc | hc | hc
   ·subst hc; exact differ k0 HF5.out g4 rfl
   ·exact g1 hc
   ·have := (HS5.out.place b hc.symm).1; omega
   ·obtain ⟨_, _, cur', hc'⟩ := hFns.place b hc.symm
    exact differ hb hc' g4 rfl
   ·subst hc; exact differ hb ht.block g2 rfl
end Go.Proofs.YtchibamdkaejdaaDoor
namespace Go.Proofs.YtchibamdkaejdaaDoor
open Go.RowKit

theorem pgZ_code : pgZ = oSnd (oSnd (fun _ => pgH)) pgZ := by kernel_rfl
/-- The names of functions. -/
def fghk : Array Value := #[.string ⟨#[102]⟩, .string ⟨#[103]⟩, .string ⟨#[104]⟩, .string ⟨#[107]⟩]
/-- A function is stored whole. -/
theorem wp_store_func {op : Oper} {a : Act} {w : World} {K : Act → World → Prop} {Q : Exit → Act → World → Prop} (x y : Operand) (ho : op.op = .store 60 x y)
  (N : Nat) (old : Array Value) (cs : Array Value) (hx : a.eval x = .pointer (some ⟨N, 0, none⟩)) (hy : a.eval y = .agg cs) (hz : w.heap[N]? = some (.cells old 60 (0, 0))) (ho' : old.size = 4) (hcs : cs.size = 4) (h1 : ∀ v ∈ cs.toList, v.oneCell' = true)
  (h : ∀ U, SetB N cs 60 w U → K (a.put op.dst undef) U) : op.wp Tryd.prog a w K Q := by
 refine wp_store_mid _ x y ho N 0 cs hx hy (there_block hz (by omega)) (by rw [func_info, hcs]) (Array.all_eq_true_iff_forall_mem.2 (fun v hv => h1 v (by simpa using hv))) ?_
 exact h _ (by simpa using setB_cells (vs := cs.toList) hz (by rw [Array.length_toList]; omega))
theorem FnsAt.below {w w' : World} {N N' D l c : Nat} {A : Option Addr} (h : FnsAt w N D A l c) (hN : N ≤ N') (hb : Below w.heap.size w w') : FnsAt w' N' D A l c :=
 h.keep hN (fun g hg => hb.block g (h.place g hg).2.1) (fun b _ _ hx => (hb.block b (Array.getElem?_eq_some_iff.1 hx).1).trans hx) (fun b _ _ _ _ _ hx => (hb.block b (Array.getElem?_eq_some_iff.1 hx).1).trans hx)
/-- Behind a whole round: one function more. -/
def PgEnd4 (lo C0 T O P D lF len cap : Nat) (f funcs : Int) (A : Option Addr) (VR : Value) (x0 x1 x11 x12 x13 x14 x15 x16 x17 x18 x19 x20 x21 x22 x23 x24 x25 x26 x27 x107 : Value) (w : World) (a : Act) (w' : World) : Prop :=
 (∃ M F : Nat, PgFrame C0 T O P M F f funcs x0 x1 x11 x12 x13 x14 x15 x16 x17 x18 x19 x20 x21 x22 x23 x24 x25 x26 x27 x107 a) ∧ ∃ (AF' : Option Addr) (cF' : Nat), w'.heap[O]? = some (.cells #[VR, .slice AF' (lF + 1) cF'] 45 (0, 0)) ∧ FnsAt w' w'.heap.size D AF' (lF + 1) cF' ∧ Pres lo O w w' ∧ ∃ pos, TapeAt w' T A len cap pos
theorem pg_setU {n : Nat} {w V U : World} {X : Nat} {cs : Array Value} {e : TypeId} (h : Below n w V) (hs : SetB X cs e V U) (hX : n ≤ X) : Below n w U :=
 ⟨hs.os.trans h.os, hs.tape.trans h.tape, hs.output.trans h.output, by rw [hs.size]; exact h.size, fun b hb => (hs.block b (by omega)).trans (h.block b hb)⟩
theorem fghk_own {w : World} {G : Nat} (h : w.heap[G]? = some (.cells abcd 9 (0, 0))) : NameOwn w 0 (some ⟨G, 0, none⟩) 4 4 := par_own (N := G + 1) (l := 0) ⟨by omega, rfl, G, rfl, by omega, h⟩
set_option linter.unusedSimpArgs false in
set_option linter.unusedVariables false in
set_option maxHeartbeats 0 in
set_option maxRecDepth 100000 in
theorem pg_join (lo C0 T O P D lF cF len cap k : Nat) (funcs : Int) (A AF : Option Addr) (VR : Value) (w : World) (HSA : Hid (StmtsAt 1 4)) (pos : Nat) (ht : TapeAt w T A len cap pos) (hrow : (∃ (b o : Nat), len = 0 ∨ (A = some ⟨b, o, none⟩ ∧ b < lo))) (p1 p2 p3 : Nat) (hP : w.heap[P]? = some (.cells #[.int .i64 2, .int .i64 p1, .int .i64 p2, .int .i64 p3] 3 (0, 0))) (hp1 : p1 ≤ 4) (hp2 : p2 ≤ 4) (hp3 : p3 ≤ 4) (hk : k < 4) (hf1 : (k : Int) < funcs) (hfu : funcs ≤ 4) (hO : w.heap[O]? = some (.cells #[VR, .slice AF lF cF] 45 (0, 0))) (hFns : FnsAt w w.heap.size D AF lF cF) (hlF : lF ≤ 10) (hD : lo ≤ D) (hDw : D ≤ w.heap.size) (loT : lo ≤ T) (loO : lo ≤ O) (low : lo ≤ w.heap.size) (U : World) (F G p : Nat) (nm : ByteArray) (hp : p ≤ 4) (hnm : nm.size ≤ 20) (hB : Below w.heap.size w U) (hM : U.heap[w.heap.size]? = some (.cells #[.pointer (some ⟨T, 0, none⟩), .int .i64 (k : Int), .int .i64 funcs, .slice (some ⟨P, 0, none⟩) 4 4, .slice none 0 0, .slice none 0 0, .slice none 0 0, .int .i64 0, .int .i64 22] 68 (0, 0))) (hF : U.heap[F]? = some (.cells #[.string nm, .int .i64 0, .slice (some ⟨G, 0, none⟩) p 4, .slice none 0 0] 60 (0, 0))) (hG : U.heap[G]? = some (.cells abcd 9 (0, 0))) (hFw : w.heap.size ≤ F) {x0 x1 x10 x11 x12 x13 x14 x15 x16 x17 x18 x19 x20 x21 x22 x23 x24 x25 x26 x27 x28 x29 x30 x31 x32 x33 x34 x35 x36 x37 x38 x39 x40 x41 x42 x43 x44 x45 x46 x47 x48 x49 x50 x51 x52 x53 x54 x55 x56 x57 x58 x59 x60 x61 x62 x63 x64 x65 x66 x67 x68 x69 x70 x71 x72 x73 x74 x75 x76 x77 x78 x79 x80 x81 x82 x83 x84 x85 x86 x87 x88 x89 x90 x91 x92 x93 x94 x95 x96 x97 x98 x99 x100 x101 x102 x103 x104 x105 x106 x107 : Value} (R : Exit → Act → World → Prop) (hR : ∀ a' w', PgEnd4 lo C0 T O P D lF len cap k funcs A VR x0 x1 x11 x12 x13 x14 x15 x16 x17 x18 x19 x20 x21 x22 x23 x24 x25 x26 x27 x107 w a' w' → R .normal a' w') (hRp : ∀ c (a : Act) (d : Nat) (v : Value) w, R (.panic c) (a.put (some d) v) w → R (.panic c) a w) : Code.wp Tryd.prog pgH R ⟨#[x0, x1, .pointer (some ⟨C0, 0, none⟩), .pointer (some ⟨T, 0, none⟩), .pointer (some ⟨O, 0, none⟩), .int .i64 funcs, .slice (some ⟨P, 0, none⟩) 4 4, .int .i64 (k : Int), .pointer (some ⟨w.heap.size, 0, none⟩), .pointer (some ⟨F, 0, none⟩), x10, x11, x12, x13, x14, x15, x16, x17, x18, x19, x20, x21, x22, x23, x24, x25, x26, x27, x28, x29, x30, x31, x32, x33, x34, x35, x36, x37, x38, x39, x40, x41, x42, x43, x44, x45, x46, x47, x48, x49, x50, x51, x52, x53, x54, x55, x56, x57, x58, x59, x60, x61, x62, x63, x64, x65, x66, x67, x68, x69, x70, x71, x72, x73, x74, x75, x76, x77, x78, x79, x80, x81, x82, x83, x84, x85, x86, x87, x88, x89, x90, x91, x92, x93, x94, x95, x96, x97, x98, x99, x100, x101, x102, x103, x104, x105, x106, x107], []⟩ U := by
 have htU := ht.but hrow (C := fun _ => False) (But.of_below hB) (fun h => h) (fun _ h => h.elim)
 have hz := hB.size
 have hGl := (Array.getElem?_eq_some_iff.1 hG).1
 refine pg_head lo C0 T O P w.heap.size F D U.heap.size p 4 lF cF len cap k funcs A (some ⟨G, 0, none⟩) AF nm VR U HSA ⟨hM⟩ pos htU hrow p1 p2 p3 ((hB.block P (Array.getElem?_eq_some_iff.1 hP).1).trans hP) hp1 hp2 hp3 (by omega) hf1 hfu hF hnm ((hB.block O (Array.getElem?_eq_some_iff.1 hO).1).trans hO) ⟨hp, rfl, G, rfl, hGl, hG⟩ (hFns.below hz hB) hlF (Nat.le_refl _) (fun e => ?_) hD (by omega) low loT (by omega) loO (by omega) R ?_ hRp
 ·have := (hFns.place F e.symm).2.1; omega
 ·rintro a' w' ⟨hfr, AF', cF', h1, h2, h3, h4⟩
  exact hR _ _ ⟨⟨_, _, hfr⟩, AF', cF', h1, h2, (Pres.below hB).trans h3, h4⟩
set_option linter.unusedSimpArgs false in
set_option linter.unusedVariables false in
set_option maxHeartbeats 0 in
set_option maxRecDepth 100000 in
theorem pg_round (lo C0 T O P D lF cF len cap k : Nat) (funcs : Int) (A AF : Option Addr) (VR : Value) (w : World) (HSA : Hid (StmtsAt 1 4)) (pos : Nat) (ht : TapeAt w T A len cap pos) (hrow : (∃ (b o : Nat), len = 0 ∨ (A = some ⟨b, o, none⟩ ∧ b < lo))) (p1 p2 p3 : Nat) (hP : w.heap[P]? = some (.cells #[.int .i64 2, .int .i64 p1, .int .i64 p2, .int .i64 p3] 3 (0, 0))) (hp1 : p1 ≤ 4) (hp2 : p2 ≤ 4) (hp3 : p3 ≤ 4) (hk : k < 4) (hf1 : (k : Int) < funcs) (hfu : funcs ≤ 4) (hO : w.heap[O]? = some (.cells #[VR, .slice AF lF cF] 45 (0, 0))) (hFns : FnsAt w w.heap.size D AF lF cF) (hlF : lF ≤ 10) (hD : lo ≤ D) (hDw : D ≤ w.heap.size) (loT : lo ≤ T) (loO : lo ≤ O) (low : lo ≤ w.heap.size) {x0 x1 x8 x9 x10 x11 x12 x13 x14 x15 x16 x17 x18 x19 x20 x21 x22 x23 x24 x25 x26 x27 x28 x29 x30 x31 x32 x33 x34 x35 x36 x37 x38 x39 x40 x41 x42 x43 x44 x45 x46 x47 x48 x49 x50 x51 x52 x53 x54 x55 x56 x57 x58 x59 x60 x61 x62 x63 x64 x65 x66 x67 x68 x69 x70 x71 x72 x73 x74 x75 x76 x77 x78 x79 x80 x81 x82 x83 x84 x85 x86 x87 x88 x89 x90 x91 x92 x93 x94 x95 x96 x97 x98 x99 x100 x101 x102 x103 x104 x105 x106 x107 : Value} (R : Exit → Act → World → Prop) (hR : ∀ a' w', PgEnd4 lo C0 T O P D lF len cap k funcs A VR x0 x1 x11 x12 x13 x14 x15 x16 x17 x18 x19 x20 x21 x22 x23 x24 x25 x26 x27 x107 w a' w' → R .normal a' w') (hRp : ∀ c (a : Act) (d : Nat) (v : Value) w, R (.panic c) (a.put (some d) v) w → R (.panic c) a w) : Code.wp Tryd.prog pgZ R ⟨#[x0, x1, .pointer (some ⟨C0, 0, none⟩), .pointer (some ⟨T, 0, none⟩), .pointer (some ⟨O, 0, none⟩), .int .i64 funcs, .slice (some ⟨P, 0, none⟩) 4 4, .int .i64 (k : Int), x8, x9, x10, x11, x12, x13, x14, x15, x16, x17, x18, x19, x20, x21, x22, x23, x24, x25, x26, x27, x28, x29, x30, x31, x32, x33, x34, x35, x36, x37, x38, x39, x40, x41, x42, x43, x44, x45, x46, x47, x48, x49, x50, x51, x52, x53, x54, x55, x56, x57, x58, x59, x60, x61, x62, x63, x64, x65, x66, x67, x68, x69, x70, x71, x72, x73, x74, x75, x76, x77, x78, x79, x80, x81, x82, x83, x84, x85, x86, x87, x88, x89, x90, x91, x92, x93, x94, x95, x96, x97, x98, x99, x100, x101, x102, x103, x104, x105, x106, x107], []⟩ w := by
 have hk4 : (k : Int) < 4 := by omega
 obtain ⟨p, hp, hpc⟩ : ∃ p : Nat, p ≤ 4 ∧ (#[.int .i64 2, .int .i64 p1, .int .i64 p2, .int .i64 p3] : Array Value)[k]? = some (.int .i64 (p : Int)) := by
  have : k = 0 ∨ k = 1 ∨ k = 2 ∨ k = 3 := by omega
  rcases this with rfl | rfl | rfl | rfl
  ·exact ⟨2, by omega, rfl⟩
  ·exact ⟨p1, hp1, rfl⟩
  ·exact ⟨p2, hp2, rfl⟩
  ·exact ⟨p3, hp3, rfl⟩
 obtain ⟨nm, hnm, hnc⟩ : ∃ nm : ByteArray, nm.size ≤ 20 ∧ fghk[k]? = some (.string nm) := by
  have : k = 0 ∨ k = 1 ∨ k = 2 ∨ k = 3 := by omega
  rcases this with rfl | rfl | rfl | rfl <;> exact ⟨_, by decide, rfl⟩
 obtain ⟨W0, hW0⟩ : ∃ W, Hid (w.alloc (.cells #[.pointer (some ⟨T, 0, none⟩), .int .i64 (k : Int), .int .i64 funcs, .slice (some ⟨P, 0, none⟩) 4 4, .slice none 0 0, .slice none 0 0, .slice none 0 0, .int .i64 0, .int .i64 22] 68) = W) := ⟨_, Lib.hid rfl⟩
 have hb0 : Below w.heap.size w W0 := by rw [← hW0.out]; exact (Below.refl _ _).alloc (Nat.le_refl _) _
 have HM0 : Hid (W0.heap[w.heap.size]? = some (.cells #[.pointer (some ⟨T, 0, none⟩), .int .i64 (k : Int), .int .i64 funcs, .slice (some ⟨P, 0, none⟩) 4 4, .slice none 0 0, .slice none 0 0, .slice none 0 0, .int .i64 0, .int .i64 22] 68 (0, 0))) := Lib.hid (by rw [← hW0.out]; exact Array.getElem?_push_size)
 have HB0 := Lib.hid hb0
 have hPl := (Array.getElem?_eq_some_iff.1 hP).1
 have hpd : W0.drew.cell? ⟨P, k, none⟩ = some (.int .i64 p) := at_cell (o := k) (show W0.heap[P]? = _ from (hb0.block P hPl).trans hP) hpc
 have HPC := Lib.hid hpd
 have HPL := Lib.hid hPl
 have hz0 := hb0.size
 have HMl : Hid (w.heap.size < W0.heap.size) := Lib.hid (Array.getElem?_eq_some_iff.1 HM0.out).1
 clear hb0 hpd hpc hPl
 rw [pgZ_code]
 simp only [oSnd, pgZ, pFst, pSnd, pIn, Tryd.f17, Option.getD]
 go_wp2_with fail
 rw [hW0.out]
 refine wp_region_held_drew (S := fun w' => w'.cell? ⟨P, k, none⟩ = some (.int .i64 p)) (by kernel_rfl) HPC.out (fun hHeld => ?_)
 obtain ⟨V0, hV0⟩ : ∃ W, Hid (W0.drew = W) := ⟨_, Lib.hid rfl⟩
 rw [hV0.out] at hHeld ⊢
 refine wpAnyH_take (i := 1) (v := ?_) rfl (by kernel_rfl) (by kernel_rfl) (by kernel_rfl) (fun _ _ _ h => hRp _ _ _ _ _ h) (Or.inl ⟨by rfl, ?_⟩) (by assumption) ?_
 rotate_left 1
 ·intro w hSw
  (try dsimp only at hSw)
  (go_simp) <;> (with_reducible rfl)
 (try simp only [Act.put, zA, zB, zC, zD, zE, zF])
 refine wpAnyH_take (i := 5) (v := ?_) rfl (by kernel_rfl) (by kernel_rfl) (by kernel_rfl) (fun _ _ _ h => hRp _ _ _ _ _ h) (Or.inl ⟨by rfl, ?_⟩) (by assumption) ?_
 rotate_left 1
 ·intro w hSw
  (try dsimp only at hSw)
  (go_simp) <;> (with_reducible rfl)
 (try simp only [Act.put, zA, zB, zC, zD, zE, zF])
 refine wpAnyH_take (i := 6) (v := ?_) rfl (by kernel_rfl) (by kernel_rfl) (by kernel_rfl) (fun _ _ _ h => hRp _ _ _ _ _ h) (Or.inl ⟨by rfl, ?_⟩) (by assumption) ?_
 rotate_left 1
 ·intro w hSw
  (try dsimp only at hSw)
  (go_simp) <;> (with_reducible rfl)
 (try simp only [Act.put, zA, zB, zC, zD, zE, zF])
 refine wpAnyH_take (i := 7) (v := ?_) rfl (by kernel_rfl) (by kernel_rfl) (by kernel_rfl) (fun _ _ _ h => hRp _ _ _ _ _ h) (Or.inl ⟨by rfl, ?_⟩) (by assumption) ?_
 rotate_left 1
 ·intro w hSw
  (try dsimp only at hSw)
  (go_simp) <;> (with_reducible rfl)
 (try simp only [Act.put, zA, zB, zC, zD, zE, zF])
 refine wpAnyH_take (i := 8) (v := ?_) rfl (by kernel_rfl) (by kernel_rfl) (by kernel_rfl) (fun _ _ _ h => hRp _ _ _ _ _ h) (Or.inl ⟨by rfl, ?_⟩) (by assumption) ?_
 rotate_left 1
 ·intro w hSw
  (try dsimp only at hSw)
  (go_simp) <;> (with_reducible rfl)
 (try simp only [Act.put, zA, zB, zC, zD, zE, zF])
 have HZ0 : Hid (Below W0.heap.size W0 V0) := Lib.hid (by rw [← hV0.out]; exact ⟨rfl, rfl, rfl, Nat.le_refl _, fun _ _ => rfl⟩)
 have HPC : Hid (W0.cell? ⟨P, k, none⟩ = some (.int .i64 p)) := HPC
 have HPW : Hid (P < W0.heap.size) := Lib.hid (Nat.lt_trans HPL.out HMl.out)
 refine wpAnyH_ready (rs := [0, 4, 11]) (by kernel_rfl) (by simp) (AllReadyH.cons rfl (fun K hK => ?_) (AllReadyH.cons rfl (fun K hK => ?_) (AllReadyH.cons rfl (fun K hK => ?_) AllReadyH.nil)))
 ·go_simp
  obtain ⟨V1, hV1⟩ : ∃ W, Hid (V0.alloc (.cells #[.string ⟨#[102]⟩, .string ⟨#[103]⟩, .string ⟨#[104]⟩, .string ⟨#[107]⟩] 9) = W) := ⟨_, Lib.hid rfl⟩
  have hb1 : Below V0.heap.size V0 V1 := by rw [← hV1.out]; exact (Below.refl _ _).alloc (Nat.le_refl _) _
  have HN1 : Hid (V1.heap[V0.heap.size]? = some (.cells fghk 9 (0, 0))) := Lib.hid (by rw [← hV1.out]; exact Array.getElem?_push_size)
  rw [hV1.out]
  have HZ1 : Hid (Below W0.heap.size W0 V1) := Lib.hid (HZ0.out.trans (hb1.mono HZ0.out.size))
  have HP1 : V1.cell? ⟨P, k, none⟩ = some (.int .i64 p) := (HZ1.out.cell (p := ⟨P, k, none⟩) HPW.out).trans HPC.out
  refine hK.out _ _ HP1 (fun hHeld => ?_)
  clear hK K
  (try simp only [Act.put, zA, zB, zC, zD, zE, zF])
  refine wpAnyH_mono (S' := fun w' => w'.cell? ⟨V0.heap.size, k, none⟩ = some (.string nm) ∧ w'.cell? ⟨P, k, none⟩ = some (.int .i64 p)) (fun _ h => h.2) _ _ _ _ ?_
  clear hHeld
  have hHeld : V1.cell? ⟨V0.heap.size, k, none⟩ = some (.string nm) ∧ V1.cell? ⟨P, k, none⟩ = some (.int .i64 p) := ⟨at_cell (o := k) HN1.out hnc, HP1⟩
  refine wpAnyH_take (i := 2) (v := ?_) rfl (by kernel_rfl) (by kernel_rfl) (by kernel_rfl) (fun _ _ _ h => hRp _ _ _ _ _ h) (Or.inl ⟨by rfl, ?_⟩) (by assumption) ?_
  rotate_left 1
  ·intro w hSw
   (try dsimp only at hSw)
   (go_simp) <;> (with_reducible rfl)
  (try simp only [Act.put, zA, zB, zC, zD, zE, zF])
  refine wpAnyH_take (i := 3) (v := ?_) rfl (by kernel_rfl) (by kernel_rfl) (by kernel_rfl) (fun _ _ _ h => hRp _ _ _ _ _ h) (Or.inl ⟨by rfl, ?_⟩) (by assumption) ?_
  rotate_left 1
  ·intro w hSw
   (try dsimp only at hSw)
   (go_simp) <;> (with_reducible rfl)
  (try simp only [Act.put, zA, zB, zC, zD, zE, zF])
  have hs1 := hb1.size
  clear hb1 HP1
  clear hHeld
  have hHeld : V1.cell? ⟨V0.heap.size, k, none⟩ = some (.string nm) ∧ V1.cell? ⟨P, k, none⟩ = some (.int .i64 p) := ⟨at_cell (o := k) HN1.out hnc, (HZ1.out.cell (p := ⟨P, k, none⟩) HPW.out).trans HPC.out⟩
  refine wpAnyH_ready (rs := [4, 11]) (by kernel_rfl) (by simp) (AllReadyH.cons rfl (fun K hK => ?_) (AllReadyH.cons rfl (fun K hK => ?_) AllReadyH.nil))
  ·go_simp
   obtain ⟨V2, hV2⟩ : ∃ W, Hid (V1.alloc (.cells #[.string ⟨#[97]⟩, .string ⟨#[98]⟩, .string ⟨#[99]⟩, .string ⟨#[100]⟩] 9) = W) := ⟨_, Lib.hid rfl⟩
   have hb2 : Below V1.heap.size V1 V2 := by rw [← hV2.out]; exact (Below.refl _ _).alloc (Nat.le_refl _) _
   have HN2 : Hid (V2.heap[V1.heap.size]? = some (.cells abcd 9 (0, 0))) := Lib.hid (by rw [← hV2.out]; exact Array.getElem?_push_size)
   rw [hV2.out]
   have HN1_2 : Hid (V2.heap[V0.heap.size]? = some (.cells fghk 9 (0, 0))) := Lib.hid ((hb2.block _ (Array.getElem?_eq_some_iff.1 HN1.out).1).trans HN1.out)
   have HZ2 : Hid (Below W0.heap.size W0 V2) := Lib.hid (HZ1.out.trans (hb2.mono HZ1.out.size))
   have HP2 : V2.cell? ⟨P, k, none⟩ = some (.int .i64 p) := (HZ2.out.cell (p := ⟨P, k, none⟩) HPW.out).trans HPC.out
   refine hK.out _ _ ⟨at_cell (o := k) HN1_2.out hnc, HP2⟩ (fun hHeld => ?_)
   clear hK K hHeld
   have hHeld : V2.cell? ⟨V0.heap.size, k, none⟩ = some (.string nm) ∧ V2.cell? ⟨P, k, none⟩ = some (.int .i64 p) := ⟨at_cell (o := k) HN1_2.out hnc, HP2⟩
   (try simp only [Act.put, zA, zB, zC, zD, zE, zF])
   have hs2 := hb2.size
   clear hb2 HP2
   refine wpAnyH_take (i := 9) (v := .slice (some ⟨V1.heap.size, 0, none⟩) p 4) rfl (by kernel_rfl) (by kernel_rfl) (by kernel_rfl) (fun _ _ _ h => hRp _ _ _ _ _ h) (Or.inl ⟨by rfl, fun w _ => slice_names _ _ rfl rfl rfl (fghk_own HN2.out) hp w⟩) (by assumption) ?_
   (try simp only [Act.put, zA, zB, zC, zD, zE, zF])
   refine wpAnyH_take (i := 10) (v := ?_) rfl (by kernel_rfl) (by kernel_rfl) (by kernel_rfl) (fun _ _ _ h => hRp _ _ _ _ _ h) (Or.inl ⟨by rfl, ?_⟩) (by assumption) ?_
   rotate_left 1
   ·intro w hSw
    (try dsimp only at hSw)
    (go_simp) <;> (with_reducible rfl)
   (try simp only [Act.put, zA, zB, zC, zD, zE, zF])
   clear hHeld
   have hHeld : V2.cell? ⟨V0.heap.size, k, none⟩ = some (.string nm) ∧ V2.cell? ⟨P, k, none⟩ = some (.int .i64 p) := ⟨at_cell (o := k) HN1_2.out hnc, (HZ2.out.cell (p := ⟨P, k, none⟩) HPW.out).trans HPC.out⟩
   refine wpAnyH_ready (rs := [11]) (by kernel_rfl) (by simp) (AllReadyH.cons rfl (fun K hK => ?_) AllReadyH.nil)
   go_simp
   obtain ⟨V3, hV3⟩ : ∃ W, Hid (V2.alloc (.cells #[.string ⟨#[]⟩, .int .i64 0, .slice none 0 0, .slice none 0 0] 60) = W) := ⟨_, Lib.hid rfl⟩
   have hb3 : Below V2.heap.size V2 V3 := by rw [← hV3.out]; exact (Below.refl _ _).alloc (Nat.le_refl _) _
   have HN3 : Hid (V3.heap[V2.heap.size]? = some (.cells #[.string ⟨#[]⟩, .int .i64 0, .slice none 0 0, .slice none 0 0] 60 (0, 0))) := Lib.hid (by rw [← hV3.out]; exact Array.getElem?_push_size)
   rw [hV3.out]
   have HN1_2_3 : Hid (V3.heap[V0.heap.size]? = some (.cells fghk 9 (0, 0))) := Lib.hid ((hb3.block _ (Array.getElem?_eq_some_iff.1 HN1_2.out).1).trans HN1_2.out)
   have HN2_3 : Hid (V3.heap[V1.heap.size]? = some (.cells abcd 9 (0, 0))) := Lib.hid ((hb3.block _ (Array.getElem?_eq_some_iff.1 HN2.out).1).trans HN2.out)
   have HZ3 : Hid (Below W0.heap.size W0 V3) := Lib.hid (HZ2.out.trans (hb3.mono HZ2.out.size))
   have HP3 : V3.cell? ⟨P, k, none⟩ = some (.int .i64 p) := (HZ3.out.cell (p := ⟨P, k, none⟩) HPW.out).trans HPC.out
   refine hK.out _ _ ⟨at_cell (o := k) HN1_2_3.out hnc, HP3⟩ (fun hHeld => ?_)
   clear hK K hHeld
   have hHeld : V3.cell? ⟨V0.heap.size, k, none⟩ = some (.string nm) ∧ V3.cell? ⟨P, k, none⟩ = some (.int .i64 p) := ⟨at_cell (o := k) HN1_2_3.out hnc, HP3⟩
   (try simp only [Act.put, zA, zB, zC, zD, zE, zF])
   have hs3 := hb3.size
   clear hb3 HP3
   clear hHeld
   have hHeld : V3.cell? ⟨V0.heap.size, k, none⟩ = some (.string nm) ∧ V3.cell? ⟨P, k, none⟩ = some (.int .i64 p) := ⟨at_cell (o := k) HN1_2_3.out hnc, (HZ3.out.cell (p := ⟨P, k, none⟩) HPW.out).trans HPC.out⟩
   refine wpAnyH_ready (rs := [12]) (by kernel_rfl) (by simp) (AllReadyH.cons rfl (fun K hK => ?_) AllReadyH.nil)
   refine wp_store_func _ _ rfl (V2.heap.size) _ (#[.string nm, .int .i64 0, .slice (some ⟨V1.heap.size, 0, none⟩) p 4, .slice none 0 0]) rfl rfl HN3.out rfl rfl (by intro u hu; simp only [List.mem_cons, List.not_mem_nil, or_false] at hu; rcases hu with rfl | rfl | rfl | rfl <;> rfl) ?_
   intro U hU
   have kH : U.heap[V0.heap.size]? = some (.cells fghk 9 (0, 0)) := (hU.block _ (differ HN1_2_3.out HN3.out (by decide))).trans HN1_2_3.out
   have kG : U.heap[V1.heap.size]? = some (.cells abcd 9 (0, 0)) := (hU.block _ (differ HN2_3.out HN3.out (by decide))).trans HN2_3.out
   have hFw : W0.heap.size ≤ V2.heap.size := by have h0 := HZ2.out.size; omega
   have HZU : Hid (Below W0.heap.size W0 U) := Lib.hid (pg_setU HZ3.out hU hFw)
   refine hK.out _ _ ⟨at_cell (o := k) kH hnc, (HZU.out.cell (p := ⟨P, k, none⟩) HPW.out).trans HPC.out⟩ (fun hHeld => ?_)
   clear hK K hHeld
   refine wpAnyH_done (by kernel_rfl) ?_ _
   go_wp2_with fail
   exact pg_join lo C0 T O P D lF cF len cap k funcs A AF VR w HSA pos ht hrow p1 p2 p3 hP hp1 hp2 hp3 hk hf1 hfu hO hFns hlF hD hDw loT loO low U (V2.heap.size) (V1.heap.size) p nm hp hnm (HB0.out.trans (HZU.out.mono HB0.out.size)) ((HZU.out.block _ HMl.out).trans HM0.out) hU.at_ kG (Nat.le_trans HB0.out.size hFw) R hR hRp
  ·go_simp
   obtain ⟨V4, hV4⟩ : ∃ W, Hid (V1.alloc (.cells #[.string ⟨#[]⟩, .int .i64 0, .slice none 0 0, .slice none 0 0] 60) = W) := ⟨_, Lib.hid rfl⟩
   have hb4 : Below V1.heap.size V1 V4 := by rw [← hV4.out]; exact (Below.refl _ _).alloc (Nat.le_refl _) _
   have HN4 : Hid (V4.heap[V1.heap.size]? = some (.cells #[.string ⟨#[]⟩, .int .i64 0, .slice none 0 0, .slice none 0 0] 60 (0, 0))) := Lib.hid (by rw [← hV4.out]; exact Array.getElem?_push_size)
   rw [hV4.out]
   have HN1_4 : Hid (V4.heap[V0.heap.size]? = some (.cells fghk 9 (0, 0))) := Lib.hid ((hb4.block _ (Array.getElem?_eq_some_iff.1 HN1.out).1).trans HN1.out)
   have HZ4 : Hid (Below W0.heap.size W0 V4) := Lib.hid (HZ1.out.trans (hb4.mono HZ1.out.size))
   have HP4 : V4.cell? ⟨P, k, none⟩ = some (.int .i64 p) := (HZ4.out.cell (p := ⟨P, k, none⟩) HPW.out).trans HPC.out
   refine hK.out _ _ ⟨at_cell (o := k) HN1_4.out hnc, HP4⟩ (fun hHeld => ?_)
   clear hK K hHeld
   have hHeld : V4.cell? ⟨V0.heap.size, k, none⟩ = some (.string nm) ∧ V4.cell? ⟨P, k, none⟩ = some (.int .i64 p) := ⟨at_cell (o := k) HN1_4.out hnc, HP4⟩
   (try simp only [Act.put, zA, zB, zC, zD, zE, zF])
   have hs4 := hb4.size
   clear hb4 HP4
   clear hHeld
   have hHeld : V4.cell? ⟨V0.heap.size, k, none⟩ = some (.string nm) ∧ V4.cell? ⟨P, k, none⟩ = some (.int .i64 p) := ⟨at_cell (o := k) HN1_4.out hnc, (HZ4.out.cell (p := ⟨P, k, none⟩) HPW.out).trans HPC.out⟩
   refine wpAnyH_ready (rs := [4]) (by kernel_rfl) (by simp) (AllReadyH.cons rfl (fun K hK => ?_) AllReadyH.nil)
   go_simp
   obtain ⟨V5, hV5⟩ : ∃ W, Hid (V4.alloc (.cells #[.string ⟨#[97]⟩, .string ⟨#[98]⟩, .string ⟨#[99]⟩, .string ⟨#[100]⟩] 9) = W) := ⟨_, Lib.hid rfl⟩
   have hb5 : Below V4.heap.size V4 V5 := by rw [← hV5.out]; exact (Below.refl _ _).alloc (Nat.le_refl _) _
   have HN5 : Hid (V5.heap[V4.heap.size]? = some (.cells abcd 9 (0, 0))) := Lib.hid (by rw [← hV5.out]; exact Array.getElem?_push_size)
   rw [hV5.out]
   have HN1_4_5 : Hid (V5.heap[V0.heap.size]? = some (.cells fghk 9 (0, 0))) := Lib.hid ((hb5.block _ (Array.getElem?_eq_some_iff.1 HN1_4.out).1).trans HN1_4.out)
   have HN4_5 : Hid (V5.heap[V1.heap.size]? = some (.cells #[.string ⟨#[]⟩, .int .i64 0, .slice none 0 0, .slice none 0 0] 60 (0, 0))) := Lib.hid ((hb5.block _ (Array.getElem?_eq_some_iff.1 HN4.out).1).trans HN4.out)
   have HZ5 : Hid (Below W0.heap.size W0 V5) := Lib.hid (HZ4.out.trans (hb5.mono HZ4.out.size))
   have HP5 : V5.cell? ⟨P, k, none⟩ = some (.int .i64 p) := (HZ5.out.cell (p := ⟨P, k, none⟩) HPW.out).trans HPC.out
   refine hK.out _ _ ⟨at_cell (o := k) HN1_4_5.out hnc, HP5⟩ (fun hHeld => ?_)
   clear hK K hHeld
   have hHeld : V5.cell? ⟨V0.heap.size, k, none⟩ = some (.string nm) ∧ V5.cell? ⟨P, k, none⟩ = some (.int .i64 p) := ⟨at_cell (o := k) HN1_4_5.out hnc, HP5⟩
   (try simp only [Act.put, zA, zB, zC, zD, zE, zF])
   have hs5 := hb5.size
   clear hb5 HP5
   refine wpAnyH_take (i := 9) (v := .slice (some ⟨V4.heap.size, 0, none⟩) p 4) rfl (by kernel_rfl) (by kernel_rfl) (by kernel_rfl) (fun _ _ _ h => hRp _ _ _ _ _ h) (Or.inl ⟨by rfl, fun w _ => slice_names _ _ rfl rfl rfl (fghk_own HN5.out) hp w⟩) (by assumption) ?_
   (try simp only [Act.put, zA, zB, zC, zD, zE, zF])
   refine wpAnyH_take (i := 10) (v := ?_) rfl (by kernel_rfl) (by kernel_rfl) (by kernel_rfl) (fun _ _ _ h => hRp _ _ _ _ _ h) (Or.inl ⟨by rfl, ?_⟩) (by assumption) ?_
   rotate_left 1
   ·intro w hSw
    (try dsimp only at hSw)
    (go_simp) <;> (with_reducible rfl)
   (try simp only [Act.put, zA, zB, zC, zD, zE, zF])
   clear hHeld
   have hHeld : V5.cell? ⟨V0.heap.size, k, none⟩ = some (.string nm) ∧ V5.cell? ⟨P, k, none⟩ = some (.int .i64 p) := ⟨at_cell (o := k) HN1_4_5.out hnc, (HZ5.out.cell (p := ⟨P, k, none⟩) HPW.out).trans HPC.out⟩
   refine wpAnyH_ready (rs := [12]) (by kernel_rfl) (by simp) (AllReadyH.cons rfl (fun K hK => ?_) AllReadyH.nil)
   refine wp_store_func _ _ rfl (V1.heap.size) _ (#[.string nm, .int .i64 0, .slice (some ⟨V4.heap.size, 0, none⟩) p 4, .slice none 0 0]) rfl rfl HN4_5.out rfl rfl (by intro u hu; simp only [List.mem_cons, List.not_mem_nil, or_false] at hu; rcases hu with rfl | rfl | rfl | rfl <;> rfl) ?_
   intro U hU
   have kH : U.heap[V0.heap.size]? = some (.cells fghk 9 (0, 0)) := (hU.block _ (differ HN1_4_5.out HN4_5.out (by decide))).trans HN1_4_5.out
   have kG : U.heap[V4.heap.size]? = some (.cells abcd 9 (0, 0)) := (hU.block _ (differ HN5.out HN4_5.out (by decide))).trans HN5.out
   have hFw : W0.heap.size ≤ V1.heap.size := by have h0 := HZ1.out.size; omega
   have HZU : Hid (Below W0.heap.size W0 U) := Lib.hid (pg_setU HZ5.out hU hFw)
   refine hK.out _ _ ⟨at_cell (o := k) kH hnc, (HZU.out.cell (p := ⟨P, k, none⟩) HPW.out).trans HPC.out⟩ (fun hHeld => ?_)
   clear hK K hHeld
   refine wpAnyH_done (by kernel_rfl) ?_ _
   go_wp2_with fail
   exact pg_join lo C0 T O P D lF cF len cap k funcs A AF VR w HSA pos ht hrow p1 p2 p3 hP hp1 hp2 hp3 hk hf1 hfu hO hFns hlF hD hDw loT loO low U (V1.heap.size) (V4.heap.size) p nm hp hnm (HB0.out.trans (HZU.out.mono HB0.out.size)) ((HZU.out.block _ HMl.out).trans HM0.out) hU.at_ kG (Nat.le_trans HB0.out.size hFw) R hR hRp
 ·go_simp
  obtain ⟨V6, hV6⟩ : ∃ W, Hid (V0.alloc (.cells #[.string ⟨#[97]⟩, .string ⟨#[98]⟩, .string ⟨#[99]⟩, .string ⟨#[100]⟩] 9) = W) := ⟨_, Lib.hid rfl⟩
  have hb6 : Below V0.heap.size V0 V6 := by rw [← hV6.out]; exact (Below.refl _ _).alloc (Nat.le_refl _) _
  have HN6 : Hid (V6.heap[V0.heap.size]? = some (.cells abcd 9 (0, 0))) := Lib.hid (by rw [← hV6.out]; exact Array.getElem?_push_size)
  rw [hV6.out]
  have HZ6 : Hid (Below W0.heap.size W0 V6) := Lib.hid (HZ0.out.trans (hb6.mono HZ0.out.size))
  have HP6 : V6.cell? ⟨P, k, none⟩ = some (.int .i64 p) := (HZ6.out.cell (p := ⟨P, k, none⟩) HPW.out).trans HPC.out
  refine hK.out _ _ HP6 (fun hHeld => ?_)
  clear hK K
  (try simp only [Act.put, zA, zB, zC, zD, zE, zF])
  have hs6 := hb6.size
  clear hb6 HP6
  refine wpAnyH_take (i := 9) (v := .slice (some ⟨V0.heap.size, 0, none⟩) p 4) rfl (by kernel_rfl) (by kernel_rfl) (by kernel_rfl) (fun _ _ _ h => hRp _ _ _ _ _ h) (Or.inl ⟨by rfl, fun w _ => slice_names _ _ rfl rfl rfl (fghk_own HN6.out) hp w⟩) (by assumption) ?_
  (try simp only [Act.put, zA, zB, zC, zD, zE, zF])
  clear hHeld
  have hHeld : V6.cell? ⟨P, k, none⟩ = some (.int .i64 p) := (HZ6.out.cell (p := ⟨P, k, none⟩) HPW.out).trans HPC.out
  refine wpAnyH_ready (rs := [0, 11]) (by kernel_rfl) (by simp) (AllReadyH.cons rfl (fun K hK => ?_) (AllReadyH.cons rfl (fun K hK => ?_) AllReadyH.nil))
  ·go_simp
   obtain ⟨V7, hV7⟩ : ∃ W, Hid (V6.alloc (.cells #[.string ⟨#[102]⟩, .string ⟨#[103]⟩, .string ⟨#[104]⟩, .string ⟨#[107]⟩] 9) = W) := ⟨_, Lib.hid rfl⟩
   have hb7 : Below V6.heap.size V6 V7 := by rw [← hV7.out]; exact (Below.refl _ _).alloc (Nat.le_refl _) _
   have HN7 : Hid (V7.heap[V6.heap.size]? = some (.cells fghk 9 (0, 0))) := Lib.hid (by rw [← hV7.out]; exact Array.getElem?_push_size)
   rw [hV7.out]
   have HN6_7 : Hid (V7.heap[V0.heap.size]? = some (.cells abcd 9 (0, 0))) := Lib.hid ((hb7.block _ (Array.getElem?_eq_some_iff.1 HN6.out).1).trans HN6.out)
   have HZ7 : Hid (Below W0.heap.size W0 V7) := Lib.hid (HZ6.out.trans (hb7.mono HZ6.out.size))
   have HP7 : V7.cell? ⟨P, k, none⟩ = some (.int .i64 p) := (HZ7.out.cell (p := ⟨P, k, none⟩) HPW.out).trans HPC.out
   refine hK.out _ _ HP7 (fun hHeld => ?_)
   clear hK K
   (try simp only [Act.put, zA, zB, zC, zD, zE, zF])
   refine wpAnyH_mono (S' := fun w' => w'.cell? ⟨V6.heap.size, k, none⟩ = some (.string nm) ∧ w'.cell? ⟨P, k, none⟩ = some (.int .i64 p)) (fun _ h => h.2) _ _ _ _ ?_
   clear hHeld
   have hHeld : V7.cell? ⟨V6.heap.size, k, none⟩ = some (.string nm) ∧ V7.cell? ⟨P, k, none⟩ = some (.int .i64 p) := ⟨at_cell (o := k) HN7.out hnc, HP7⟩
   refine wpAnyH_take (i := 2) (v := ?_) rfl (by kernel_rfl) (by kernel_rfl) (by kernel_rfl) (fun _ _ _ h => hRp _ _ _ _ _ h) (Or.inl ⟨by rfl, ?_⟩) (by assumption) ?_
   rotate_left 1
   ·intro w hSw
    (try dsimp only at hSw)
    (go_simp) <;> (with_reducible rfl)
   (try simp only [Act.put, zA, zB, zC, zD, zE, zF])
   refine wpAnyH_take (i := 3) (v := ?_) rfl (by kernel_rfl) (by kernel_rfl) (by kernel_rfl) (fun _ _ _ h => hRp _ _ _ _ _ h) (Or.inl ⟨by rfl, ?_⟩) (by assumption) ?_
   rotate_left 1
   ·intro w hSw
    (try dsimp only at hSw)
    (go_simp) <;> (with_reducible rfl)
   (try simp only [Act.put, zA, zB, zC, zD, zE, zF])
   have hs7 := hb7.size
   clear hb7 HP7
   refine wpAnyH_take (i := 10) (v := ?_) rfl (by kernel_rfl) (by kernel_rfl) (by kernel_rfl) (fun _ _ _ h => hRp _ _ _ _ _ h) (Or.inl ⟨by rfl, ?_⟩) (by assumption) ?_
   rotate_left 1
   ·intro w hSw
    (try dsimp only at hSw)
    (go_simp) <;> (with_reducible rfl)
   (try simp only [Act.put, zA, zB, zC, zD, zE, zF])
   clear hHeld
   have hHeld : V7.cell? ⟨V6.heap.size, k, none⟩ = some (.string nm) ∧ V7.cell? ⟨P, k, none⟩ = some (.int .i64 p) := ⟨at_cell (o := k) HN7.out hnc, (HZ7.out.cell (p := ⟨P, k, none⟩) HPW.out).trans HPC.out⟩
   refine wpAnyH_ready (rs := [11]) (by kernel_rfl) (by simp) (AllReadyH.cons rfl (fun K hK => ?_) AllReadyH.nil)
   go_simp
   obtain ⟨V8, hV8⟩ : ∃ W, Hid (V7.alloc (.cells #[.string ⟨#[]⟩, .int .i64 0, .slice none 0 0, .slice none 0 0] 60) = W) := ⟨_, Lib.hid rfl⟩
   have hb8 : Below V7.heap.size V7 V8 := by rw [← hV8.out]; exact (Below.refl _ _).alloc (Nat.le_refl _) _
   have HN8 : Hid (V8.heap[V7.heap.size]? = some (.cells #[.string ⟨#[]⟩, .int .i64 0, .slice none 0 0, .slice none 0 0] 60 (0, 0))) := Lib.hid (by rw [← hV8.out]; exact Array.getElem?_push_size)
   rw [hV8.out]
   have HN6_7_8 : Hid (V8.heap[V0.heap.size]? = some (.cells abcd 9 (0, 0))) := Lib.hid ((hb8.block _ (Array.getElem?_eq_some_iff.1 HN6_7.out).1).trans HN6_7.out)
   have HN7_8 : Hid (V8.heap[V6.heap.size]? = some (.cells fghk 9 (0, 0))) := Lib.hid ((hb8.block _ (Array.getElem?_eq_some_iff.1 HN7.out).1).trans HN7.out)
   have HZ8 : Hid (Below W0.heap.size W0 V8) := Lib.hid (HZ7.out.trans (hb8.mono HZ7.out.size))
   have HP8 : V8.cell? ⟨P, k, none⟩ = some (.int .i64 p) := (HZ8.out.cell (p := ⟨P, k, none⟩) HPW.out).trans HPC.out
   refine hK.out _ _ ⟨at_cell (o := k) HN7_8.out hnc, HP8⟩ (fun hHeld => ?_)
   clear hK K hHeld
   have hHeld : V8.cell? ⟨V6.heap.size, k, none⟩ = some (.string nm) ∧ V8.cell? ⟨P, k, none⟩ = some (.int .i64 p) := ⟨at_cell (o := k) HN7_8.out hnc, HP8⟩
   (try simp only [Act.put, zA, zB, zC, zD, zE, zF])
   have hs8 := hb8.size
   clear hb8 HP8
   clear hHeld
   have hHeld : V8.cell? ⟨V6.heap.size, k, none⟩ = some (.string nm) ∧ V8.cell? ⟨P, k, none⟩ = some (.int .i64 p) := ⟨at_cell (o := k) HN7_8.out hnc, (HZ8.out.cell (p := ⟨P, k, none⟩) HPW.out).trans HPC.out⟩
   refine wpAnyH_ready (rs := [12]) (by kernel_rfl) (by simp) (AllReadyH.cons rfl (fun K hK => ?_) AllReadyH.nil)
   refine wp_store_func _ _ rfl (V7.heap.size) _ (#[.string nm, .int .i64 0, .slice (some ⟨V0.heap.size, 0, none⟩) p 4, .slice none 0 0]) rfl rfl HN8.out rfl rfl (by intro u hu; simp only [List.mem_cons, List.not_mem_nil, or_false] at hu; rcases hu with rfl | rfl | rfl | rfl <;> rfl) ?_
   intro U hU
   have kH : U.heap[V6.heap.size]? = some (.cells fghk 9 (0, 0)) := (hU.block _ (differ HN7_8.out HN8.out (by decide))).trans HN7_8.out
   have kG : U.heap[V0.heap.size]? = some (.cells abcd 9 (0, 0)) := (hU.block _ (differ HN6_7_8.out HN8.out (by decide))).trans HN6_7_8.out
   have hFw : W0.heap.size ≤ V7.heap.size := by have h0 := HZ7.out.size; omega
   have HZU : Hid (Below W0.heap.size W0 U) := Lib.hid (pg_setU HZ8.out hU hFw)
   refine hK.out _ _ ⟨at_cell (o := k) kH hnc, (HZU.out.cell (p := ⟨P, k, none⟩) HPW.out).trans HPC.out⟩ (fun hHeld => ?_)
   clear hK K hHeld
   refine wpAnyH_done (by kernel_rfl) ?_ _
   go_wp2_with fail
   exact pg_join lo C0 T O P D lF cF len cap k funcs A AF VR w HSA pos ht hrow p1 p2 p3 hP hp1 hp2 hp3 hk hf1 hfu hO hFns hlF hD hDw loT loO low U (V7.heap.size) (V0.heap.size) p nm hp hnm (HB0.out.trans (HZU.out.mono HB0.out.size)) ((HZU.out.block _ HMl.out).trans HM0.out) hU.at_ kG (Nat.le_trans HB0.out.size hFw) R hR hRp
  ·go_simp
   obtain ⟨V9, hV9⟩ : ∃ W, Hid (V6.alloc (.cells #[.string ⟨#[]⟩, .int .i64 0, .slice none 0 0, .slice none 0 0] 60) = W) := ⟨_, Lib.hid rfl⟩
   have hb9 : Below V6.heap.size V6 V9 := by rw [← hV9.out]; exact (Below.refl _ _).alloc (Nat.le_refl _) _
   have HN9 : Hid (V9.heap[V6.heap.size]? = some (.cells #[.string ⟨#[]⟩, .int .i64 0, .slice none 0 0, .slice none 0 0] 60 (0, 0))) := Lib.hid (by rw [← hV9.out]; exact Array.getElem?_push_size)
   rw [hV9.out]
   have HN6_9 : Hid (V9.heap[V0.heap.size]? = some (.cells abcd 9 (0, 0))) := Lib.hid ((hb9.block _ (Array.getElem?_eq_some_iff.1 HN6.out).1).trans HN6.out)
   have HZ9 : Hid (Below W0.heap.size W0 V9) := Lib.hid (HZ6.out.trans (hb9.mono HZ6.out.size))
   have HP9 : V9.cell? ⟨P, k, none⟩ = some (.int .i64 p) := (HZ9.out.cell (p := ⟨P, k, none⟩) HPW.out).trans HPC.out
   refine hK.out _ _ HP9 (fun hHeld => ?_)
   clear hK K
   (try simp only [Act.put, zA, zB, zC, zD, zE, zF])
   have hs9 := hb9.size
   clear hb9 HP9
   clear hHeld
   have hHeld : V9.cell? ⟨P, k, none⟩ = some (.int .i64 p) := (HZ9.out.cell (p := ⟨P, k, none⟩) HPW.out).trans HPC.out
   refine wpAnyH_ready (rs := [0]) (by kernel_rfl) (by simp) (AllReadyH.cons rfl (fun K hK => ?_) AllReadyH.nil)
   go_simp
   obtain ⟨V10, hV10⟩ : ∃ W, Hid (V9.alloc (.cells #[.string ⟨#[102]⟩, .string ⟨#[103]⟩, .string ⟨#[104]⟩, .string ⟨#[107]⟩] 9) = W) := ⟨_, Lib.hid rfl⟩
   have hb10 : Below V9.heap.size V9 V10 := by rw [← hV10.out]; exact (Below.refl _ _).alloc (Nat.le_refl _) _
   have HN10 : Hid (V10.heap[V9.heap.size]? = some (.cells fghk 9 (0, 0))) := Lib.hid (by rw [← hV10.out]; exact Array.getElem?_push_size)
   rw [hV10.out]
   have HN6_9_10 : Hid (V10.heap[V0.heap.size]? = some (.cells abcd 9 (0, 0))) := Lib.hid ((hb10.block _ (Array.getElem?_eq_some_iff.1 HN6_9.out).1).trans HN6_9.out)
   have HN9_10 : Hid (V10.heap[V6.heap.size]? = some (.cells #[.string ⟨#[]⟩, .int .i64 0, .slice none 0 0, .slice none 0 0] 60 (0, 0))) := Lib.hid ((hb10.block _ (Array.getElem?_eq_some_iff.1 HN9.out).1).trans HN9.out)
   have HZ10 : Hid (Below W0.heap.size W0 V10) := Lib.hid (HZ9.out.trans (hb10.mono HZ9.out.size))
   have HP10 : V10.cell? ⟨P, k, none⟩ = some (.int .i64 p) := (HZ10.out.cell (p := ⟨P, k, none⟩) HPW.out).trans HPC.out
   refine hK.out _ _ HP10 (fun hHeld => ?_)
   clear hK K
   (try simp only [Act.put, zA, zB, zC, zD, zE, zF])
   refine wpAnyH_mono (S' := fun w' => w'.cell? ⟨V9.heap.size, k, none⟩ = some (.string nm) ∧ w'.cell? ⟨P, k, none⟩ = some (.int .i64 p)) (fun _ h => h.2) _ _ _ _ ?_
   clear hHeld
   have hHeld : V10.cell? ⟨V9.heap.size, k, none⟩ = some (.string nm) ∧ V10.cell? ⟨P, k, none⟩ = some (.int .i64 p) := ⟨at_cell (o := k) HN10.out hnc, HP10⟩
   refine wpAnyH_take (i := 2) (v := ?_) rfl (by kernel_rfl) (by kernel_rfl) (by kernel_rfl) (fun _ _ _ h => hRp _ _ _ _ _ h) (Or.inl ⟨by rfl, ?_⟩) (by assumption) ?_
   rotate_left 1
   ·intro w hSw
    (try dsimp only at hSw)
    (go_simp) <;> (with_reducible rfl)
   (try simp only [Act.put, zA, zB, zC, zD, zE, zF])
   refine wpAnyH_take (i := 3) (v := ?_) rfl (by kernel_rfl) (by kernel_rfl) (by kernel_rfl) (fun _ _ _ h => hRp _ _ _ _ _ h) (Or.inl ⟨by rfl, ?_⟩) (by assumption) ?_
   rotate_left 1
   ·intro w hSw
    (try dsimp only at hSw)
    (go_simp) <;> (with_reducible rfl)
   (try simp only [Act.put, zA, zB, zC, zD, zE, zF])
   have hs10 := hb10.size
   clear hb10 HP10
   refine wpAnyH_take (i := 10) (v := ?_) rfl (by kernel_rfl) (by kernel_rfl) (by kernel_rfl) (fun _ _ _ h => hRp _ _ _ _ _ h) (Or.inl ⟨by rfl, ?_⟩) (by assumption) ?_
   rotate_left 1
   ·intro w hSw
    (try dsimp only at hSw)
    (go_simp) <;> (with_reducible rfl)
   (try simp only [Act.put, zA, zB, zC, zD, zE, zF])
   clear hHeld
   have hHeld : V10.cell? ⟨V9.heap.size, k, none⟩ = some (.string nm) ∧ V10.cell? ⟨P, k, none⟩ = some (.int .i64 p) := ⟨at_cell (o := k) HN10.out hnc, (HZ10.out.cell (p := ⟨P, k, none⟩) HPW.out).trans HPC.out⟩
   refine wpAnyH_ready (rs := [12]) (by kernel_rfl) (by simp) (AllReadyH.cons rfl (fun K hK => ?_) AllReadyH.nil)
   refine wp_store_func _ _ rfl (V6.heap.size) _ (#[.string nm, .int .i64 0, .slice (some ⟨V0.heap.size, 0, none⟩) p 4, .slice none 0 0]) rfl rfl HN9_10.out rfl rfl (by intro u hu; simp only [List.mem_cons, List.not_mem_nil, or_false] at hu; rcases hu with rfl | rfl | rfl | rfl <;> rfl) ?_
   intro U hU
   have kH : U.heap[V9.heap.size]? = some (.cells fghk 9 (0, 0)) := (hU.block _ (differ HN10.out HN9_10.out (by decide))).trans HN10.out
   have kG : U.heap[V0.heap.size]? = some (.cells abcd 9 (0, 0)) := (hU.block _ (differ HN6_9_10.out HN9_10.out (by decide))).trans HN6_9_10.out
   have hFw : W0.heap.size ≤ V6.heap.size := by have h0 := HZ6.out.size; omega
   have HZU : Hid (Below W0.heap.size W0 U) := Lib.hid (pg_setU HZ10.out hU hFw)
   refine hK.out _ _ ⟨at_cell (o := k) kH hnc, (HZU.out.cell (p := ⟨P, k, none⟩) HPW.out).trans HPC.out⟩ (fun hHeld => ?_)
   clear hK K hHeld
   refine wpAnyH_done (by kernel_rfl) ?_ _
   go_wp2_with fail
   exact pg_join lo C0 T O P D lF cF len cap k funcs A AF VR w HSA pos ht hrow p1 p2 p3 hP hp1 hp2 hp3 hk hf1 hfu hO hFns hlF hD hDw loT loO low U (V6.heap.size) (V0.heap.size) p nm hp hnm (HB0.out.trans (HZU.out.mono HB0.out.size)) ((HZU.out.block _ HMl.out).trans HM0.out) hU.at_ kG (Nat.le_trans HB0.out.size hFw) R hR hRp
 ·go_simp
  obtain ⟨V11, hV11⟩ : ∃ W, Hid (V0.alloc (.cells #[.string ⟨#[]⟩, .int .i64 0, .slice none 0 0, .slice none 0 0] 60) = W) := ⟨_, Lib.hid rfl⟩
  have hb11 : Below V0.heap.size V0 V11 := by rw [← hV11.out]; exact (Below.refl _ _).alloc (Nat.le_refl _) _
  have HN11 : Hid (V11.heap[V0.heap.size]? = some (.cells #[.string ⟨#[]⟩, .int .i64 0, .slice none 0 0, .slice none 0 0] 60 (0, 0))) := Lib.hid (by rw [← hV11.out]; exact Array.getElem?_push_size)
  rw [hV11.out]
  have HZ11 : Hid (Below W0.heap.size W0 V11) := Lib.hid (HZ0.out.trans (hb11.mono HZ0.out.size))
  have HP11 : V11.cell? ⟨P, k, none⟩ = some (.int .i64 p) := (HZ11.out.cell (p := ⟨P, k, none⟩) HPW.out).trans HPC.out
  refine hK.out _ _ HP11 (fun hHeld => ?_)
  clear hK K
  (try simp only [Act.put, zA, zB, zC, zD, zE, zF])
  have hs11 := hb11.size
  clear hb11 HP11
  clear hHeld
  have hHeld : V11.cell? ⟨P, k, none⟩ = some (.int .i64 p) := (HZ11.out.cell (p := ⟨P, k, none⟩) HPW.out).trans HPC.out
  refine wpAnyH_ready (rs := [0, 4]) (by kernel_rfl) (by simp) (AllReadyH.cons rfl (fun K hK => ?_) (AllReadyH.cons rfl (fun K hK => ?_) AllReadyH.nil))
  ·go_simp
   obtain ⟨V12, hV12⟩ : ∃ W, Hid (V11.alloc (.cells #[.string ⟨#[102]⟩, .string ⟨#[103]⟩, .string ⟨#[104]⟩, .string ⟨#[107]⟩] 9) = W) := ⟨_, Lib.hid rfl⟩
   have hb12 : Below V11.heap.size V11 V12 := by rw [← hV12.out]; exact (Below.refl _ _).alloc (Nat.le_refl _) _
   have HN12 : Hid (V12.heap[V11.heap.size]? = some (.cells fghk 9 (0, 0))) := Lib.hid (by rw [← hV12.out]; exact Array.getElem?_push_size)
   rw [hV12.out]
   have HN11_12 : Hid (V12.heap[V0.heap.size]? = some (.cells #[.string ⟨#[]⟩, .int .i64 0, .slice none 0 0, .slice none 0 0] 60 (0, 0))) := Lib.hid ((hb12.block _ (Array.getElem?_eq_some_iff.1 HN11.out).1).trans HN11.out)
   have HZ12 : Hid (Below W0.heap.size W0 V12) := Lib.hid (HZ11.out.trans (hb12.mono HZ11.out.size))
   have HP12 : V12.cell? ⟨P, k, none⟩ = some (.int .i64 p) := (HZ12.out.cell (p := ⟨P, k, none⟩) HPW.out).trans HPC.out
   refine hK.out _ _ HP12 (fun hHeld => ?_)
   clear hK K
   (try simp only [Act.put, zA, zB, zC, zD, zE, zF])
   refine wpAnyH_mono (S' := fun w' => w'.cell? ⟨V11.heap.size, k, none⟩ = some (.string nm) ∧ w'.cell? ⟨P, k, none⟩ = some (.int .i64 p)) (fun _ h => h.2) _ _ _ _ ?_
   clear hHeld
   have hHeld : V12.cell? ⟨V11.heap.size, k, none⟩ = some (.string nm) ∧ V12.cell? ⟨P, k, none⟩ = some (.int .i64 p) := ⟨at_cell (o := k) HN12.out hnc, HP12⟩
   refine wpAnyH_take (i := 2) (v := ?_) rfl (by kernel_rfl) (by kernel_rfl) (by kernel_rfl) (fun _ _ _ h => hRp _ _ _ _ _ h) (Or.inl ⟨by rfl, ?_⟩) (by assumption) ?_
   rotate_left 1
   ·intro w hSw
    (try dsimp only at hSw)
    (go_simp) <;> (with_reducible rfl)
   (try simp only [Act.put, zA, zB, zC, zD, zE, zF])
   refine wpAnyH_take (i := 3) (v := ?_) rfl (by kernel_rfl) (by kernel_rfl) (by kernel_rfl) (fun _ _ _ h => hRp _ _ _ _ _ h) (Or.inl ⟨by rfl, ?_⟩) (by assumption) ?_
   rotate_left 1
   ·intro w hSw
    (try dsimp only at hSw)
    (go_simp) <;> (with_reducible rfl)
   (try simp only [Act.put, zA, zB, zC, zD, zE, zF])
   have hs12 := hb12.size
   clear hb12 HP12
   clear hHeld
   have hHeld : V12.cell? ⟨V11.heap.size, k, none⟩ = some (.string nm) ∧ V12.cell? ⟨P, k, none⟩ = some (.int .i64 p) := ⟨at_cell (o := k) HN12.out hnc, (HZ12.out.cell (p := ⟨P, k, none⟩) HPW.out).trans HPC.out⟩
   refine wpAnyH_ready (rs := [4]) (by kernel_rfl) (by simp) (AllReadyH.cons rfl (fun K hK => ?_) AllReadyH.nil)
   go_simp
   obtain ⟨V13, hV13⟩ : ∃ W, Hid (V12.alloc (.cells #[.string ⟨#[97]⟩, .string ⟨#[98]⟩, .string ⟨#[99]⟩, .string ⟨#[100]⟩] 9) = W) := ⟨_, Lib.hid rfl⟩
   have hb13 : Below V12.heap.size V12 V13 := by rw [← hV13.out]; exact (Below.refl _ _).alloc (Nat.le_refl _) _
   have HN13 : Hid (V13.heap[V12.heap.size]? = some (.cells abcd 9 (0, 0))) := Lib.hid (by rw [← hV13.out]; exact Array.getElem?_push_size)
   rw [hV13.out]
   have HN11_12_13 : Hid (V13.heap[V0.heap.size]? = some (.cells #[.string ⟨#[]⟩, .int .i64 0, .slice none 0 0, .slice none 0 0] 60 (0, 0))) := Lib.hid ((hb13.block _ (Array.getElem?_eq_some_iff.1 HN11_12.out).1).trans HN11_12.out)
   have HN12_13 : Hid (V13.heap[V11.heap.size]? = some (.cells fghk 9 (0, 0))) := Lib.hid ((hb13.block _ (Array.getElem?_eq_some_iff.1 HN12.out).1).trans HN12.out)
   have HZ13 : Hid (Below W0.heap.size W0 V13) := Lib.hid (HZ12.out.trans (hb13.mono HZ12.out.size))
   have HP13 : V13.cell? ⟨P, k, none⟩ = some (.int .i64 p) := (HZ13.out.cell (p := ⟨P, k, none⟩) HPW.out).trans HPC.out
   refine hK.out _ _ ⟨at_cell (o := k) HN12_13.out hnc, HP13⟩ (fun hHeld => ?_)
   clear hK K hHeld
   have hHeld : V13.cell? ⟨V11.heap.size, k, none⟩ = some (.string nm) ∧ V13.cell? ⟨P, k, none⟩ = some (.int .i64 p) := ⟨at_cell (o := k) HN12_13.out hnc, HP13⟩
   (try simp only [Act.put, zA, zB, zC, zD, zE, zF])
   have hs13 := hb13.size
   clear hb13 HP13
   refine wpAnyH_take (i := 9) (v := .slice (some ⟨V12.heap.size, 0, none⟩) p 4) rfl (by kernel_rfl) (by kernel_rfl) (by kernel_rfl) (fun _ _ _ h => hRp _ _ _ _ _ h) (Or.inl ⟨by rfl, fun w _ => slice_names _ _ rfl rfl rfl (fghk_own HN13.out) hp w⟩) (by assumption) ?_
   (try simp only [Act.put, zA, zB, zC, zD, zE, zF])
   refine wpAnyH_take (i := 10) (v := ?_) rfl (by kernel_rfl) (by kernel_rfl) (by kernel_rfl) (fun _ _ _ h => hRp _ _ _ _ _ h) (Or.inl ⟨by rfl, ?_⟩) (by assumption) ?_
   rotate_left 1
   ·intro w hSw
    (try dsimp only at hSw)
    (go_simp) <;> (with_reducible rfl)
   (try simp only [Act.put, zA, zB, zC, zD, zE, zF])
   clear hHeld
   have hHeld : V13.cell? ⟨V11.heap.size, k, none⟩ = some (.string nm) ∧ V13.cell? ⟨P, k, none⟩ = some (.int .i64 p) := ⟨at_cell (o := k) HN12_13.out hnc, (HZ13.out.cell (p := ⟨P, k, none⟩) HPW.out).trans HPC.out⟩
   refine wpAnyH_ready (rs := [12]) (by kernel_rfl) (by simp) (AllReadyH.cons rfl (fun K hK => ?_) AllReadyH.nil)
   refine wp_store_func _ _ rfl (V0.heap.size) _ (#[.string nm, .int .i64 0, .slice (some ⟨V12.heap.size, 0, none⟩) p 4, .slice none 0 0]) rfl rfl HN11_12_13.out rfl rfl (by intro u hu; simp only [List.mem_cons, List.not_mem_nil, or_false] at hu; rcases hu with rfl | rfl | rfl | rfl <;> rfl) ?_
   intro U hU
   have kH : U.heap[V11.heap.size]? = some (.cells fghk 9 (0, 0)) := (hU.block _ (differ HN12_13.out HN11_12_13.out (by decide))).trans HN12_13.out
   have kG : U.heap[V12.heap.size]? = some (.cells abcd 9 (0, 0)) := (hU.block _ (differ HN13.out HN11_12_13.out (by decide))).trans HN13.out
   have hFw : W0.heap.size ≤ V0.heap.size := by have h0 := HZ0.out.size; omega
   have HZU : Hid (Below W0.heap.size W0 U) := Lib.hid (pg_setU HZ13.out hU hFw)
   refine hK.out _ _ ⟨at_cell (o := k) kH hnc, (HZU.out.cell (p := ⟨P, k, none⟩) HPW.out).trans HPC.out⟩ (fun hHeld => ?_)
   clear hK K hHeld
   refine wpAnyH_done (by kernel_rfl) ?_ _
   go_wp2_with fail
   exact pg_join lo C0 T O P D lF cF len cap k funcs A AF VR w HSA pos ht hrow p1 p2 p3 hP hp1 hp2 hp3 hk hf1 hfu hO hFns hlF hD hDw loT loO low U (V0.heap.size) (V12.heap.size) p nm hp hnm (HB0.out.trans (HZU.out.mono HB0.out.size)) ((HZU.out.block _ HMl.out).trans HM0.out) hU.at_ kG (Nat.le_trans HB0.out.size hFw) R hR hRp
  ·go_simp
   obtain ⟨V14, hV14⟩ : ∃ W, Hid (V11.alloc (.cells #[.string ⟨#[97]⟩, .string ⟨#[98]⟩, .string ⟨#[99]⟩, .string ⟨#[100]⟩] 9) = W) := ⟨_, Lib.hid rfl⟩
   have hb14 : Below V11.heap.size V11 V14 := by rw [← hV14.out]; exact (Below.refl _ _).alloc (Nat.le_refl _) _
   have HN14 : Hid (V14.heap[V11.heap.size]? = some (.cells abcd 9 (0, 0))) := Lib.hid (by rw [← hV14.out]; exact Array.getElem?_push_size)
   rw [hV14.out]
   have HN11_14 : Hid (V14.heap[V0.heap.size]? = some (.cells #[.string ⟨#[]⟩, .int .i64 0, .slice none 0 0, .slice none 0 0] 60 (0, 0))) := Lib.hid ((hb14.block _ (Array.getElem?_eq_some_iff.1 HN11.out).1).trans HN11.out)
   have HZ14 : Hid (Below W0.heap.size W0 V14) := Lib.hid (HZ11.out.trans (hb14.mono HZ11.out.size))
   have HP14 : V14.cell? ⟨P, k, none⟩ = some (.int .i64 p) := (HZ14.out.cell (p := ⟨P, k, none⟩) HPW.out).trans HPC.out
   refine hK.out _ _ HP14 (fun hHeld => ?_)
   clear hK K
   (try simp only [Act.put, zA, zB, zC, zD, zE, zF])
   have hs14 := hb14.size
   clear hb14 HP14
   refine wpAnyH_take (i := 9) (v := .slice (some ⟨V11.heap.size, 0, none⟩) p 4) rfl (by kernel_rfl) (by kernel_rfl) (by kernel_rfl) (fun _ _ _ h => hRp _ _ _ _ _ h) (Or.inl ⟨by rfl, fun w _ => slice_names _ _ rfl rfl rfl (fghk_own HN14.out) hp w⟩) (by assumption) ?_
   (try simp only [Act.put, zA, zB, zC, zD, zE, zF])
   clear hHeld
   have hHeld : V14.cell? ⟨P, k, none⟩ = some (.int .i64 p) := (HZ14.out.cell (p := ⟨P, k, none⟩) HPW.out).trans HPC.out
   refine wpAnyH_ready (rs := [0]) (by kernel_rfl) (by simp) (AllReadyH.cons rfl (fun K hK => ?_) AllReadyH.nil)
   go_simp
   obtain ⟨V15, hV15⟩ : ∃ W, Hid (V14.alloc (.cells #[.string ⟨#[102]⟩, .string ⟨#[103]⟩, .string ⟨#[104]⟩, .string ⟨#[107]⟩] 9) = W) := ⟨_, Lib.hid rfl⟩
   have hb15 : Below V14.heap.size V14 V15 := by rw [← hV15.out]; exact (Below.refl _ _).alloc (Nat.le_refl _) _
   have HN15 : Hid (V15.heap[V14.heap.size]? = some (.cells fghk 9 (0, 0))) := Lib.hid (by rw [← hV15.out]; exact Array.getElem?_push_size)
   rw [hV15.out]
   have HN11_14_15 : Hid (V15.heap[V0.heap.size]? = some (.cells #[.string ⟨#[]⟩, .int .i64 0, .slice none 0 0, .slice none 0 0] 60 (0, 0))) := Lib.hid ((hb15.block _ (Array.getElem?_eq_some_iff.1 HN11_14.out).1).trans HN11_14.out)
   have HN14_15 : Hid (V15.heap[V11.heap.size]? = some (.cells abcd 9 (0, 0))) := Lib.hid ((hb15.block _ (Array.getElem?_eq_some_iff.1 HN14.out).1).trans HN14.out)
   have HZ15 : Hid (Below W0.heap.size W0 V15) := Lib.hid (HZ14.out.trans (hb15.mono HZ14.out.size))
   have HP15 : V15.cell? ⟨P, k, none⟩ = some (.int .i64 p) := (HZ15.out.cell (p := ⟨P, k, none⟩) HPW.out).trans HPC.out
   refine hK.out _ _ HP15 (fun hHeld => ?_)
   clear hK K
   (try simp only [Act.put, zA, zB, zC, zD, zE, zF])
   refine wpAnyH_mono (S' := fun w' => w'.cell? ⟨V14.heap.size, k, none⟩ = some (.string nm) ∧ w'.cell? ⟨P, k, none⟩ = some (.int .i64 p)) (fun _ h => h.2) _ _ _ _ ?_
   clear hHeld
   have hHeld : V15.cell? ⟨V14.heap.size, k, none⟩ = some (.string nm) ∧ V15.cell? ⟨P, k, none⟩ = some (.int .i64 p) := ⟨at_cell (o := k) HN15.out hnc, HP15⟩
   refine wpAnyH_take (i := 2) (v := ?_) rfl (by kernel_rfl) (by kernel_rfl) (by kernel_rfl) (fun _ _ _ h => hRp _ _ _ _ _ h) (Or.inl ⟨by rfl, ?_⟩) (by assumption) ?_
   rotate_left 1
   ·intro w hSw
    (try dsimp only at hSw)
    (go_simp) <;> (with_reducible rfl)
   (try simp only [Act.put, zA, zB, zC, zD, zE, zF])
   refine wpAnyH_take (i := 3) (v := ?_) rfl (by kernel_rfl) (by kernel_rfl) (by kernel_rfl) (fun _ _ _ h => hRp _ _ _ _ _ h) (Or.inl ⟨by rfl, ?_⟩) (by assumption) ?_
   rotate_left 1
   ·intro w hSw
    (try dsimp only at hSw)
    (go_simp) <;> (with_reducible rfl)
   (try simp only [Act.put, zA, zB, zC, zD, zE, zF])
   have hs15 := hb15.size
   clear hb15 HP15
   refine wpAnyH_take (i := 10) (v := ?_) rfl (by kernel_rfl) (by kernel_rfl) (by kernel_rfl) (fun _ _ _ h => hRp _ _ _ _ _ h) (Or.inl ⟨by rfl, ?_⟩) (by assumption) ?_
   rotate_left 1
   ·intro w hSw
    (try dsimp only at hSw)
    (go_simp) <;> (with_reducible rfl)
   (try simp only [Act.put, zA, zB, zC, zD, zE, zF])
   clear hHeld
   have hHeld : V15.cell? ⟨V14.heap.size, k, none⟩ = some (.string nm) ∧ V15.cell? ⟨P, k, none⟩ = some (.int .i64 p) := ⟨at_cell (o := k) HN15.out hnc, (HZ15.out.cell (p := ⟨P, k, none⟩) HPW.out).trans HPC.out⟩
   refine wpAnyH_ready (rs := [12]) (by kernel_rfl) (by simp) (AllReadyH.cons rfl (fun K hK => ?_) AllReadyH.nil)
   refine wp_store_func _ _ rfl (V0.heap.size) _ (#[.string nm, .int .i64 0, .slice (some ⟨V11.heap.size, 0, none⟩) p 4, .slice none 0 0]) rfl rfl HN11_14_15.out rfl rfl (by intro u hu; simp only [List.mem_cons, List.not_mem_nil, or_false] at hu; rcases hu with rfl | rfl | rfl | rfl <;> rfl) ?_
   intro U hU
   have kH : U.heap[V14.heap.size]? = some (.cells fghk 9 (0, 0)) := (hU.block _ (differ HN15.out HN11_14_15.out (by decide))).trans HN15.out
   have kG : U.heap[V11.heap.size]? = some (.cells abcd 9 (0, 0)) := (hU.block _ (differ HN14_15.out HN11_14_15.out (by decide))).trans HN14_15.out
   have hFw : W0.heap.size ≤ V0.heap.size := by have h0 := HZ0.out.size; omega
   have HZU : Hid (Below W0.heap.size W0 U) := Lib.hid (pg_setU HZ15.out hU hFw)
   refine hK.out _ _ ⟨at_cell (o := k) kH hnc, (HZU.out.cell (p := ⟨P, k, none⟩) HPW.out).trans HPC.out⟩ (fun hHeld => ?_)
   clear hK K hHeld
   refine wpAnyH_done (by kernel_rfl) ?_ _
   go_wp2_with fail
   exact pg_join lo C0 T O P D lF cF len cap k funcs A AF VR w HSA pos ht hrow p1 p2 p3 hP hp1 hp2 hp3 hk hf1 hfu hO hFns hlF hD hDw loT loO low U (V0.heap.size) (V11.heap.size) p nm hp hnm (HB0.out.trans (HZU.out.mono HB0.out.size)) ((HZU.out.block _ HMl.out).trans HM0.out) hU.at_ kG (Nat.le_trans HB0.out.size hFw) R hR hRp
end Go.Proofs.YtchibamdkaejdaaDoor
