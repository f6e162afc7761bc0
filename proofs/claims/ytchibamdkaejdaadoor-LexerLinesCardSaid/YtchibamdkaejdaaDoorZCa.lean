/-
  The walk of the generator's call. Conditions: the maker with rows of its own; the statement's cells are empty but for its kind. Statements without blocks: their cells, the rows of their expressions, a statement that is being made. No condition. Statements with blocks: their cells, blocks that are made, rows of statements under another block's turn. No condition. A statement is appended to a row of statements of its own; a loop's two statements. Conditions: as they say. What the round of the generator's stmts needs: the maker with one less left, its row of scalars renewed, rows that lie ahead of new blocks. No condition. The switch of the generator's stmts, and what stands behind it. No condition. Behind the switch of the generator's stmts: the frame by a function. No condition.
-/
import Derived.Test.YtchibamdkaejdaaDoorZA
import Derived.Test.YtchibamdkaejdaaDoorZCx
import Derived.Test.YtchibamdkaejdaaDoorZBo
namespace Go.Proofs.YtchibamdkaejdaaDoor
open Go.RowKit
variable {lo : Nat}

/-- A call's cells. -/
def callCells (kind : Int) (fn : ByteArray) (A : Option Addr) (l c : Nat) : Array Value := #[.int .i64 kind, .int .i64 0, .int .i64 0, .string ⟨#[]⟩, .string ⟨#[]⟩, .int .i64 0, .int .i64 0, .slice none 0 0, .string fn, .int .i64 0, .slice A l c, .slice none 0 0, .slice none 0 0]
/-- Everything but T and X is as it was, or new. -/
structure GrewX (T X : Nat) (w w' : World) : Prop where
 os : w'.os = w.os
 tape : w'.tape = w.tape
 output : w'.output = w.output
 size : w.heap.size ≤ w'.heap.size
 block : ∀ b, b < w.heap.size → b ≠ T → b ≠ X → w'.heap[b]? = w.heap[b]?
theorem Grew.x {T X : Nat} {A : Option Addr} {len cap : Nat} {w w' : World} (h : Grew T A len cap w w') : GrewX T X w w' := ⟨h.os, h.tape, h.output, h.size, fun b hb hT _ => h.block b hb hT⟩
theorem GrewX.trans {T X : Nat} {a b c : World} (h : GrewX T X a b) (k : GrewX T X b c) : GrewX T X a c :=
 ⟨k.os.trans h.os, k.tape.trans h.tape, k.output.trans h.output, Nat.le_trans h.size k.size, fun x hx hT hX => (k.block x (Nat.lt_of_lt_of_le hx h.size) hT hX).trans (h.block x hx hT hX)⟩
theorem SetB.x {T X : Nat} {cs : Array Value} {e : TypeId} {w U : World} (h : SetB X cs e w U) : GrewX T X w U := ⟨h.os, h.tape, h.output, by rw [h.size]; exact Nat.le_refl _, fun b _ _ hX => h.block b hX⟩
theorem GrewX.far {T X : Nat} {w a b : World} (h : GrewX T X w a) (h1 : b.os = a.os) (h2 : b.tape = a.tape) (h3 : b.output = a.output) (h4 : a.heap.size ≤ b.heap.size) (hb : ∀ x, x < w.heap.size → b.heap[x]? = a.heap[x]?) : GrewX T X w b :=
 ⟨h1.trans h.os, h2.trans h.tape, h3.trans h.output, Nat.le_trans h.size h4, fun x hx hT hX => (hb x hx).trans (h.block x hx hT hX)⟩
theorem modify_comm {α : Type} (A : Array α) (i j : Nat) (f g : α → α) (h : i ≠ j) : (A.modify i f).modify j g = (A.modify j g).modify i f := by
 apply Array.ext_getElem?
 intro k
 simp only [Array.getElem?_modify]
 by_cases h1 : i = k
 ·have h2 : ¬ j = k := fun e => h (h1.trans e.symm)
  simp [h1, h2]
 ·simp [h1]
theorem setCell_comm (w : World) (a b : Addr) (u v : Value) (h : a.block ≠ b.block) : (w.setCell a u).setCell b v = (w.setCell b v).setCell a u := by
 unfold World.setCell
 simp only [modify_comm _ _ _ _ _ h]
theorem setCells_comm (b : Nat) (a : Addr) (v : Value) (h : a.block ≠ b) : ∀ (vs : List Value) (o : Nat) (w : World), (w.setCell a v).setCells b o vs = (w.setCells b o vs).setCell a v
 | [], _, _ => rfl
 | u :: r, o, w => by
  show ((w.setCell a v).setCell ⟨b, o, none⟩ u).setCells b (o + 1) r = ((w.setCell ⟨b, o, none⟩ u).setCells b (o + 1) r).setCell a v
  rw [setCell_comm w a ⟨b, o, none⟩ v u h, setCells_comm b a v h r (o + 1) _]
theorem below_x {T X : Nat} {w w' : World} (h : Below w.heap.size w w') : GrewX T X w w' := ⟨h.os, h.tape, h.output, h.size, fun b hb _ _ => h.block b hb⟩
/-- A function's number of parameters. -/
def par4 (p0 p1 p2 p3 k : Nat) : Nat := if k = 0 then p0 else if k = 1 then p1 else if k = 2 then p2 else p3
theorem par4_row (p0 p1 p2 p3 k : Nat) (hk : k < 4) : (#[.int .i64 p0, .int .i64 p1, .int .i64 p2, .int .i64 p3] : Array Value)[k]? = some (.int .i64 (par4 p0 p1 p2 p3 k)) := by
 have h : k = 0 ∨ k = 1 ∨ k = 2 ∨ k = 3 := by omega
 rcases h with rfl | rfl | rfl | rfl <;> rfl
theorem par4_le {p0 p1 p2 p3 k : Nat} (h0 : p0 ≤ 4) (h1 : p1 ≤ 4) (h2 : p2 ≤ 4) (h3 : p3 ≤ 4) : par4 p0 p1 p2 p3 k ≤ 4 := by
 unfold par4
 split
 ·exact h0
 ·split
  ·exact h1
  ·split
   ·exact h2
   ·exact h3
/-- The functions' names. -/
def fnm (k : Nat) : ByteArray := if k = 0 then ⟨#[102]⟩ else if k = 1 then ⟨#[103]⟩ else if k = 2 then ⟨#[104]⟩ else ⟨#[107]⟩
theorem fnm_size (k : Nat) : (fnm k).size ≤ 20 := by unfold fnm; split <;> (try split) <;> (try split) <;> decide
theorem fnm_row (k : Nat) (hk : k < 4) : (#[.string ⟨#[102]⟩, .string ⟨#[103]⟩, .string ⟨#[104]⟩, .string ⟨#[107]⟩] : Array Value)[k]? = some (.string (fnm k)) := by
 have h : k = 0 ∨ k = 1 ∨ k = 2 ∨ k = 3 := by omega
 rcases h with rfl | rfl | rfl | rfl <;> rfl
theorem fnm_made (w : World) (k : Nat) (hk : k < 4) : (w.alloc (.cells #[.string ⟨#[102]⟩, .string ⟨#[103]⟩, .string ⟨#[104]⟩, .string ⟨#[107]⟩] 9)).cell? ⟨w.heap.size, k, none⟩ = some (.string (fnm k)) := by
 rw [World.cell?_alloc_at _ _ _ _ rfl]
 exact fnm_row k hk

set_option linter.unusedSimpArgs false in
set_option maxHeartbeats 4000000 in
set_option maxRecDepth 100000 in
theorem call_any (B : Nat) (m : Mk) (w : World) (h : Cx lo B m w) (X : Nat) (kind : Int) (hX : w.heap[X]? = some (.cells (callCells kind ⟨#[]⟩ none 0 0) 75 (0, 0))) (hXlo : lo ≤ X) :
  Calls Tryd.prog 46 #[.pointer (some ⟨m.M, 0, none⟩), .pointer (some ⟨X, 0, none⟩)] w fun e w' => (e = .returned (.bool false) ∧ Grew m.T m.A m.len m.cap w w') ∨
   ∃ (fn : ByteArray) (A : Option Addr) (l c : Nat) (ns : List Nat), e = .returned (.bool true) ∧ fn.size ≤ 20 ∧ w'.heap[X]? = some (.cells (callCells kind fn A l c) 75 (0, 0)) ∧ RowsOk (ExOk w' 8) w' 72 6 A l c ns ∧ ns.sum ≤ 60 ∧ Cx lo B m w' ∧ GrewX m.T X w w' := by
 obtain ⟨M, T, f, funcs, count, left, P, S, Q, R, pl, pc, sl, sc, ql, qc, rl, rc, A, len, cap⟩ := m
 have hn := h.num
 have hf0 := hn.f0
 have hf1 := hn.f1
 have hf4 := hn.funcs
 obtain ⟨pb, p0, p1, p2, p3, hP, hpl, hpc, hpar, hp0, hp1, hp2, hp3⟩ := h.par
 dsimp only at *
 subst hP hpl hpc
 have e0 := h.maker.cell 0 (.pointer (some ⟨T, 0, none⟩)) rfl
 have e1 := h.maker.cell 1 (.int .i64 f) rfl
 have e2 := h.maker.cell 2 (.int .i64 funcs) rfl
 dsimp only at e0 e1 e2
 have HC := Lib.hid h
 have HX := Lib.hid hX
 have HMT := Lib.hid h.ctx.ne
 obtain ⟨q0, hq0⟩ := h.ctx.drew.tape
 have HT := Lib.hid hq0
 obtain ⟨q1, hq1⟩ := h.tape
 have HT1 := Lib.hid hq1
 have hMT : M ≠ T := HMT.out
 have hf5 : f < 4 := by omega
 have HPAR := Lib.hid hpar
 clear h hX hn hq0 hq1 hpar
 go_enter Tryd.func46, Tryd.ntmps46
 by_cases hlast : f + 1 < funcs
 ·have hd1 : (1 : Int) ≤ funcs - (f + 1) := by omega
  have hd2 : funcs - (f + 1) < 1000000 := by omega
  have hwd : IntKind.i64.wrap (funcs - (f + 1)) = funcs - (f + 1) := IntWalk.i64_in _ (by omega)
  go_wp2_with fail
  go_region_held3 (fun w' => w'.cell? ⟨M, 0, none⟩ = some (.pointer (some ⟨T, 0, none⟩)) ∧ w'.cell? ⟨M, 2, none⟩ = some (.int .i64 funcs)) (first | assumption | exact ⟨e0, e2⟩ | exact ⟨e0', e2'⟩)
   (first | (go_at_call 25; refine (next_any _ T A len cap q0 HT.out (funcs - (f + 1)) hd1 hd2).mono ?_; rintro e w1 ⟨r, t1, rfl, hr0, hr1, hm⟩; have e0' := (hm.cell (o := 0) hMT).trans e0; have e2' := (hm.cell (o := 2) hMT).trans e2; have hwr : IntKind.i64.wrap (f + 1 + r) = f + 1 + r := (IntWalk.i64_in _ (by omega))))
  have HC5 := Lib.hid (HC.out.below (show Below w.heap.size w w.drew from ⟨rfl, rfl, rfl, Nat.le_refl _, fun _ _ => rfl⟩) |>.grew hm.grew)
  have HG5 := Lib.hid ((HC.out.ctx.below (show Below w.heap.size w w.drew from ⟨rfl, rfl, rfl, Nat.le_refl _, fun _ _ => rfl⟩)).trans hm.grew)
  clear hm e0 e1 e2 e0' e2' hd1 hd2 hwd HT HT1
  obtain ⟨kk, hkk⟩ : ∃ kk : Nat, f + 1 + r = (kk : Int) := ⟨(f + 1 + r).toNat, by omega⟩
  have hk4 : kk < 4 := by omega
  rw [hkk]
  clear hwr hkk
  (try dsimp only at HG5)
  have hX5 := (HC.out.went HG5.out).typed _ _ _ _ (by decide) (by decide) (by decide) HX.out
  have hXs5 : X < w1.heap.size := (Array.getElem?_eq_some_iff.1 hX5).1
  have hXA : ∀ o, (w1.alloc o).heap[X]? = some (.cells (callCells kind ⟨#[]⟩ none 0 0) 75 (0, 0)) := fun o => (((Below.refl w1.heap.size w1).alloc (Nat.le_refl _) o).block X hXs5).trans hX5
  have c8 : ∀ o, (w1.alloc o).cell? ⟨X, 8, none⟩ = some (.string ⟨#[]⟩) := fun o => by rw [cell_of_row _ X 8 _ _ _ (hXA o)]; rfl
  have f8 : ∀ o, (w1.alloc o).frozen? ⟨X, 8, none⟩ = false := fun o => by rw [World.frozen?]; simp only [hXA o]; simp
  have hfr := fnm_row kk hk4
  have hfm := fnm_made w1 kk hk4
  have hfs := fnm_size kk
  obtain ⟨fn, hfn⟩ : ∃ fn, fnm kk = fn := ⟨_, rfl⟩
  rw [hfn] at hfr hfm hfs
  have hset := setB_cell (o := 8) (.string fn) hX5
  have HXR0 := Lib.hid hX5
  obtain ⟨V, hV⟩ : ∃ V, Hid (w1.setCell ⟨X, 8, none⟩ (.string fn) = V) := ⟨_, Lib.hid rfl⟩
  rw [hV.out] at hset
  obtain ⟨U, hU⟩ : ∃ U, Hid ((w1.setCell ⟨X, 8, none⟩ (.string fn)).alloc (.cells #[.string ⟨#[102]⟩, .string ⟨#[103]⟩, .string ⟨#[104]⟩, .string ⟨#[107]⟩] 9) = U) := ⟨_, Lib.hid rfl⟩
  have HVU : Hid (Below V.heap.size V U) := Lib.hid (by rw [← hU.out, hV.out]; exact (Below.refl _ _).alloc (Nat.le_refl _) _)
  have HSET : Hid (SetB X (callCells kind fn none 0 0) 75 w1 V) := Lib.hid hset
  clear hset hXA hfn hX5
  go_wp2_with fail
  rw [hU.out]
  have HCU := Lib.hid ((HC5.out.set HXR0.out (by decide) HSET.out hXlo).below HVU.out)
  have HGU := Lib.hid ((HG5.out.x (X := X)).trans (HSET.out.x.trans (below_x HVU.out)))
  have hpU : U.heap[pb]? = some (.cells #[.int .i64 p0, .int .i64 p1, .int .i64 p2, .int .i64 p3] 3 (0, 0)) := by
   have h1 := (HC.out.went HG5.out).typed _ _ _ _ (by decide) (by decide) (by decide) HPAR.out
   have h2 := (HSET.out.block pb (fun e => by
    rw [e, HXR0.out] at h1
    simp only [Option.some.injEq, Obj.cells.injEq] at h1
    exact absurd h1.2.1 (by decide))).trans h1
   exact (HVU.out.block pb (Array.getElem?_eq_some_iff.1 h2).1).trans h2
  have hXU : U.heap[X]? = some (.cells (callCells kind fn none 0 0) 75 (0, 0)) := (HVU.out.block X (Array.getElem?_eq_some_iff.1 HSET.out.at_).1).trans HSET.out.at_
  have HXU := Lib.hid hXU
  have hrow := par4_row p0 p1 p2 p3 kk hk4
  have hple := par4_le (k := kk) hp0 hp1 hp2 hp3
  obtain ⟨pk, hpk⟩ : ∃ pk, par4 p0 p1 p2 p3 kk = pk := ⟨_, rfl⟩
  rw [hpk] at hrow hple
  have HPRW := Lib.hid hrow
  have HPU := Lib.hid hpU
  clear hrow hpU hpk hfr hfm c8 f8 hXU
  go_loopw [6] (fun i wr => ∃ (k cc : Nat) (A' : Option Addr) (ns : List Nat), i = .int .i64 k ∧ k ≤ pk ∧ wr.heap[X]? = some (.cells (callCells kind fn A' k cc) 75 (0, 0)) ∧ ArgsAt wr w.heap.size A' k cc ns ∧ ns.sum ≤ 15 * k ∧ Cx lo B ⟨M, T, f, funcs, count, left, some ⟨pb, 0, none⟩, S, Q, R, 4, 4, sl, sc, ql, qc, rl, rc, A, len, cap⟩ wr ∧ GrewX T X w wr ∧ wr.heap[pb]? = some (.cells #[.int .i64 p0, .int .i64 p1, .int .i64 p2, .int .i64 p3] 3 (0, 0))) (fun i _ => pk - (intOf i).toNat)
  case atStart => exact ⟨0, 0, none, [], rfl, Nat.zero_le _, HXU.out, ArgsAt.nil _ _, Nat.zero_le _, HCU.out, HGU.out, HPU.out⟩
  case round =>
   obtain ⟨k, cc, A', ns, rfl, hk, hXr, hargs, hsum, hcr, hgx, hparr⟩ := hrel
   have e3 := hcr.maker.cell 3 (.slice (some ⟨pb, 0, none⟩) 4 4) rfl
   dsimp only at e3
   have ep : wr.cell? ⟨pb, kk, none⟩ = some (.int .i64 pk) := by rw [cell_of_row wr pb kk _ _ _ hparr]; exact HPRW.out
   have HCR := Lib.hid hcr
   have HCD : Hid (Cx lo B ⟨M, T, f, funcs, count, left, some ⟨pb, 0, none⟩, S, Q, R, 4, 4, sl, sc, ql, qc, rl, rc, A, len, cap⟩ wr.drew) := Lib.hid (hcr.below ⟨rfl, rfl, rfl, Nat.le_refl _, fun _ _ => rfl⟩)
   have HXR := Lib.hid hXr
   have HARG := Lib.hid hargs
   have HGX := Lib.hid hgx
   have HPR := Lib.hid hparr
   have hgxs := hgx.size
   have hk1 : (k : Int) < (k : Int) + 1 := by omega
   have hTr : T < wr.heap.size := by
    obtain ⟨p, hp⟩ := hcr.tape
    exact hp.lt
   clear hXr hargs hcr hgx hparr
   by_cases hlt : k < pk
   ·have HL3 : Hid (wr.drew.cell? ⟨X, 10, none⟩ = some (.slice A' k cc)) := Lib.hid (by
     show wr.cell? ⟨X, 10, none⟩ = _
     rw [cell_of_row wr X 10 _ _ _ HXR.out]; rfl)
    go_wp2_with fail
    refine wp_region_U (S := fun w' => w'.cell? ⟨X, 10, none⟩ = some (.slice A' k cc)) (L := [3, 5, 7, 8]) (by kernel_rfl) ?_
    refine wpAnyU_late (i := 0) (v := ?_) rfl (by kernel_rfl) (by kernel_rfl) (by kernel_rfl) (by kernel_rfl) (fun _ _ _ h => h) (Or.inl ⟨by rfl, ?_⟩) ?_
    rotate_left 1
    ·intro w hSw
     clear hSw
     (go_simp) <;> (with_reducible rfl)
    (try simp only [Act.put, zA, zB, zC, zD, zE, zF])
    refine wpAnyU_late (i := 1) (v := ?_) rfl (by kernel_rfl) (by kernel_rfl) (by kernel_rfl) (by kernel_rfl) (fun _ _ _ h => h) (Or.inl ⟨by rfl, ?_⟩) ?_
    rotate_left 1
    ·intro w hSw
     clear hSw
     (go_simp) <;> (with_reducible rfl)
    (try simp only [Act.put, zA, zB, zC, zD, zE, zF])
    refine wpAnyU_late (i := 2) (v := ?_) rfl (by kernel_rfl) (by kernel_rfl) (by kernel_rfl) (by kernel_rfl) (fun _ _ _ h => h) (Or.inl ⟨by rfl, ?_⟩) ?_
    rotate_left 1
    ·intro w hSw
     clear hSw
     (go_simp) <;> (with_reducible rfl)
    (try simp only [Act.put, zA, zB, zC, zD, zE, zF])
    refine wpAnyU_late (i := 4) (v := ?_) rfl (by kernel_rfl) (by kernel_rfl) (by kernel_rfl) (by kernel_rfl) (fun _ _ _ h => h) (Or.inl ⟨by rfl, ?_⟩) ?_
    rotate_left 1
    ·intro w hSw
     clear hSw
     (go_simp) <;> (with_reducible rfl)
    (try simp only [Act.put, zA, zB, zC, zD, zE, zF])
    refine wpAnyU_take (i := 3) (v := ?_) rfl (by kernel_rfl) (by kernel_rfl) (by kernel_rfl) (by kernel_rfl) (by kernel_rfl) (fun _ _ _ h => h) (Or.inl ⟨by rfl, ?_⟩) HL3.out ?_
    rotate_left 1
    ·intro w hSw
     (try dsimp only at hSw)
     (go_simp) <;> (with_reducible rfl)
    (try simp only [Act.put, zA, zB, zC, zD, zE, zF])
    refine wpAnyU_late (i := 6) (v := ?_) rfl (by kernel_rfl) (by kernel_rfl) (by kernel_rfl) (by kernel_rfl) (fun _ _ _ h => h) (Or.inl ⟨by rfl, ?_⟩) ?_
    rotate_left 1
    ·intro w hSw
     clear hSw
     (go_simp) <;> (with_reducible rfl)
    (try simp only [Act.put, zA, zB, zC, zD, zE, zF])
    refine wpAnyU_ready (rs := [5, 7]) (by kernel_rfl) (by simp) (AllU.cons rfl (fun K hK => ?_) (AllU.cons rfl (fun K hK => ?_) AllU.nil))
    ·go_simp
     refine (expr_any ⟨M, T, f, funcs, count, left, some ⟨pb, 0, none⟩, S, Q, R, 4, 4, sl, sc, ql, qc, rl, rc, A, len, cap⟩ wr.drew 2 (by omega) HCD.out.ctx).mono ?_
     rintro e w4 ⟨v, n, rfl, hex, hn15, hg4⟩
     obtain ⟨op1, num, vr, nm, fld, A5, l5, c5, rfl⟩ := hex.shape
     dsimp only at hg4
     have hs4 : wr.heap.size ≤ w4.heap.size := hg4.size
     have hc4 := HCD.out.grew hg4
     have hw4 := HCD.out.went hg4
     have hk4 := (hw4.typed _ _ _ _ (by decide) (by decide) (by decide) HXR.out)
     have hd4 : w4.cell? ⟨X, 10, none⟩ = some (.slice A' k cc) := by rw [cell_of_row w4 X 10 _ _ _ hk4]; rfl
     refine hK.out _ _ (fun _ => hd4) ?_
     clear hK K
     (try simp only [Act.put, zA, zB, zC, zD, zE, zF])
     refine wpAnyU_ready (rs := [7]) (by kernel_rfl) (by simp) (AllU.cons rfl (fun K hK => ?_) AllU.nil)
     go_simp
     obtain ⟨W5, hW5⟩ : ∃ W, Hid (w4.alloc (.cells #[.int .i64 0, .int .i64 0, .int .i64 0, .string ⟨#[]⟩, .string ⟨#[]⟩, .slice none 0 0] 72) = W) := ⟨_, Lib.hid rfl⟩
     have hb5 : Below w4.heap.size w4 W5 := by rw [← hW5.out]; exact (Below.refl _ _).alloc (Nat.le_refl _) _
     have hY : Zero W5 w4.heap.size := by rw [← hW5.out]; exact Array.getElem?_push_size
     have hc5 := hc4.below hb5
     have hwr5 := hw4.trans (Went.of_below (lo := lo) (B := B) hb5)
     have hnew := hex.keep (KeptX.below hb5).from
     have hX0 : wr.heap.size ≤ wr.drew.heap.size := Nat.le_refl _
     have hgx5 : GrewX T X wr W5 := (show GrewX T X wr w4 from ⟨hg4.os, hg4.tape, hg4.output, hg4.size, fun b hb hT _ => hg4.block b hb hT⟩).trans (below_x hb5)
     rw [hW5.out]
     have hk5 := (hwr5.typed _ _ _ _ (by decide) (by decide) (by decide) HXR.out)
     have hd5 : W5.cell? ⟨X, 10, none⟩ = some (.slice A' k cc) := by rw [cell_of_row W5 X 10 _ _ _ hk5]; rfl
     have hs5 := hwr5.size
     have HA5 := Lib.hid (HARG.out.kept (fun b cur fr _ hb => hwr5.typed b cur _ fr (by decide) (by decide) (by decide) hb))
     refine hK.out _ _ (fun _ => hd5) ?_
     clear hK K
     (try simp only [Act.put, zA, zB, zC, zD, zE, zF])
     refine wpAnyU_ready (rs := [8]) (by kernel_rfl) (by simp) (AllU.cons rfl (fun K hK => ?_) AllU.nil)
     rw [if_pos (by rfl)]
     refine wp_append_zero _ _ rfl w.heap.size wr.drew.heap.size w4.heap.size k cc 1 n A' ns (.int .i64 op1) (.int .i64 num) (.int .i64 vr) (.string nm) (.string fld) (.slice A5 l5 c5) rfl HA5.out rfl hY (by omega) (by omega) hnew (fun g hg => Nat.lt_of_lt_of_le (HARG.out.place g hg).2.1 hX0) (by omega) ?_
     intro g c' w6 hgrow hNg hg6 hgw hcur hargs6
     have hrowA : ∀ x, blk A' = some x → ∃ cur, W5.heap[x]? = some (.cells cur 72 (0, 0)) := fun x hx => (HA5.out.place x hx).2.2
     have hc6 := hc5.other (blk A') 72 hrowA (by decide) hgrow.size (fun b hb hr => hgrow.block b hb hr) (fun x hx => Nat.le_trans (Nat.le_trans HC.out.loB HC.out.bW) (HA5.out.place x hx).1)
     have hXblk : some X ≠ blk A' := fun e => by
      obtain ⟨cur, hc⟩ := hrowA X e.symm
      rw [hk5] at hc
      simp only [Option.some.injEq, Obj.cells.injEq] at hc
      exact absurd hc.2.1 (by decide)
     have hXlt : X < W5.heap.size := (Array.getElem?_eq_some_iff.1 hk5).1
     have hk6 := (hgrow.block X hXlt hXblk).trans hk5
     have hd6 : w6.cell? ⟨X, 10, none⟩ = some (.slice A' k cc) := by rw [cell_of_row w6 X 10 _ _ _ hk6]; rfl
     obtain ⟨cur6, hcur6, hsz6⟩ := hcur
     obtain ⟨U1, hU1⟩ : ∃ U, Hid (w6.setCells g (k * 6) [.int .i64 op1, .int .i64 num, .int .i64 vr, .string nm, .string fld, .slice A5 l5 c5] = U) := ⟨_, Lib.hid rfl⟩
     have hXg : X ≠ g := fun e => by
      rw [e, hcur6] at hk6
      simp only [Option.some.injEq, Obj.cells.injEq] at hk6
      exact absurd hk6.2.1 (by decide)
     have hsame := setCells_same g [.int .i64 op1, .int .i64 num, .int .i64 vr, .string nm, .string fld, .slice A5 l5 c5] (k * 6) w6
     have hoth : ∀ x, x ≠ g → (w6.setCells g (k * 6) [.int .i64 op1, .int .i64 num, .int .i64 vr, .string nm, .string fld, .slice A5 l5 c5]).heap[x]? = w6.heap[x]? := fun x hx => heap_setCells_other g x hx _ _ _
     have hc7 := hc6.other (some g) 72 (fun x hx => by injection hx with hx; subst hx; exact ⟨cur6, hcur6⟩) (by decide) (Nat.le_of_eq hsame.2.2.2.symm) (fun b _ hr => hoth b (fun e => hr (by rw [e]))) (fun x hx => by injection hx with hx; subst hx; exact Nat.le_trans (Nat.le_trans HC.out.loB HC.out.bW) hNg)
     have hk7 := (hoth X hXg).trans hk6
     have hthere : w6.there g (k * 6) 6 := fun j hj => by
      constructor
      ·rw [cell_of_row w6 g _ cur6 _ _ hcur6, Array.getElem?_eq_getElem (by omega)]; rfl
      ·rw [World.frozen?]; simp only [hcur6]; simp
     have hgx7 : GrewX T X w (w6.setCells g (k * 6) [.int .i64 op1, .int .i64 num, .int .i64 vr, .string nm, .string fld, .slice A5 l5 c5]) := (HGX.out.trans hgx5).far (hsame.1.trans hgrow.os) (hsame.2.1.trans hgrow.tape) (hsame.2.2.1.trans hgrow.output) (by rw [hsame.2.2.2]; exact hgrow.size) (fun x hx => (hoth x (by omega)).trans (hgrow.block x (by omega) (fun e => by have := (HA5.out.place x e.symm).1; omega)))
     have hset8 := setB_cell (o := 10) (.slice (some ⟨g, 0, none⟩) (k + 1) c') hk7
     have hc8 := hc7.set hk7 (by decide) hset8 hXlo
     have hgx8 := hgx7.trans hset8.x
     have ha8 := hargs6.kept (w' := (w6.setCells g (k * 6) [.int .i64 op1, .int .i64 num, .int .i64 vr, .string nm, .string fld, .slice A5 l5 c5]).setCell ⟨X, 10, none⟩ (.slice (some ⟨g, 0, none⟩) (k + 1) c')) (fun b cur fr _ hb => (hset8.block b (fun e => by
      rw [e, hk7] at hb
      simp only [Option.some.injEq, Obj.cells.injEq] at hb
      exact absurd hb.2.1 (by decide))).trans hb)
     have hp5 := hwr5.typed _ _ _ _ (by decide) (by decide) (by decide) HPR.out
     have hp6 := (hgrow.block pb (Array.getElem?_eq_some_iff.1 hp5).1 (fun e => by
      obtain ⟨cur, hc⟩ := hrowA pb e.symm
      rw [hp5] at hc
      simp only [Option.some.injEq, Obj.cells.injEq] at hc
      exact absurd hc.2.1 (by decide))).trans hp5
     have hp7 := (hoth pb (fun e => by
      rw [e, hcur6] at hp6
      simp only [Option.some.injEq, Obj.cells.injEq] at hp6
      exact absurd hp6.2.1 (by decide))).trans hp6
     have hp8 := (hset8.block pb (fun e => by
      rw [e, hk7] at hp7
      simp only [Option.some.injEq, Obj.cells.injEq] at hp7
      exact absurd hp7.2.1 (by decide))).trans hp7
     have hcomm := setCells_comm g ⟨X, 10, none⟩ (.slice (some ⟨g, 0, none⟩) (k + 1) c') hXg [.int .i64 op1, .int .i64 num, .int .i64 vr, .string nm, .string fld, .slice A5 l5 c5] (k * 6) w6
     have d7 : (w6.setCells g (k * 6) [.int .i64 op1, .int .i64 num, .int .i64 vr, .string nm, .string fld, .slice A5 l5 c5]).cell? ⟨X, 10, none⟩ = some (.slice A' k cc) := by rw [cell_of_row _ X 10 _ _ _ hk7]; rfl
     have f7 : (w6.setCells g (k * 6) [.int .i64 op1, .int .i64 num, .int .i64 vr, .string nm, .string fld, .slice A5 l5 c5]).frozen? ⟨X, 10, none⟩ = false := by rw [World.frozen?]; simp only [hk7]; rfl
     have f6 : w6.frozen? ⟨X, 10, none⟩ = false := by rw [World.frozen?]; simp only [hk6]; rfl
     have hthere' : (w6.setCell ⟨X, 10, none⟩ (.slice (some ⟨g, 0, none⟩) (k + 1) c')).there g (k * 6) 6 := fun j hj => by
      have hb := (heap_setCell_other w6 ⟨X, 10, none⟩ g (.slice (some ⟨g, 0, none⟩) (k + 1) c') (fun e => hXg e.symm)).trans hcur6
      constructor
      ·rw [cell_of_row _ g _ cur6 _ _ hb, Array.getElem?_eq_getElem (by omega)]; rfl
      ·rw [World.frozen?]; simp only [hb]; simp
     obtain ⟨U2, hU2⟩ : ∃ U, Hid ((w6.setCells g (k * 6) [.int .i64 op1, .int .i64 num, .int .i64 vr, .string nm, .string fld, .slice A5 l5 c5]).setCell ⟨X, 10, none⟩ (.slice (some ⟨g, 0, none⟩) (k + 1) c') = U) := ⟨_, Lib.hid rfl⟩
     rw [hU2.out] at hset8 hc8 hgx8 ha8 hp8 hcomm
     have HX8 := Lib.hid hset8.at_
     have HC8 := Lib.hid hc8
     have HGX8 := Lib.hid hgx8
     have HA8 := Lib.hid ha8
     have HP8 := Lib.hid hp8
     have hns : (ns ++ [n]).sum ≤ 15 * (k + 1) := by rw [List.sum_append]; simp; omega
     refine hK.out _ _ (fun _ => hd6) ?_
     clear hK K hset8 hc8 hgx8 ha8 hp8 hp7 hp6 hp5 hargs6 hgx7 hc7 hc6 hgx5
     (try simp only [Act.put, zA, zB, zC, zD, zE, zF])
     refine wpAnyU_late (i := 9) (v := ?_) rfl (by kernel_rfl) (by kernel_rfl) (by kernel_rfl) (by kernel_rfl) (fun _ _ _ h => h) (Or.inl ⟨by rfl, ?_⟩) ?_
     rotate_left 1
     ·intro w hSw
      clear hSw
      (go_simp) <;> (with_reducible rfl)
     (try simp only [Act.put, zA, zB, zC, zD, zE, zF])
     refine wpAnyU_late (i := 11) (v := ?_) rfl (by kernel_rfl) (by kernel_rfl) (by kernel_rfl) (by kernel_rfl) (fun _ _ _ h => h) (Or.inl ⟨by rfl, ?_⟩) ?_
     rotate_left 1
     ·intro w hSw
      clear hSw
      (go_simp) <;> (with_reducible rfl)
     (try simp only [Act.put, zA, zB, zC, zD, zE, zF])
     refine wpAnyU_late (i := 12) (v := ?_) rfl (by kernel_rfl) (by kernel_rfl) (by kernel_rfl) (by kernel_rfl) (fun _ _ _ h => h) (Or.inl ⟨by rfl, ?_⟩) ?_
     rotate_left 1
     ·intro w hSw
      clear hSw
      (go_simp) <;> (with_reducible rfl)
     (try simp only [Act.put, zA, zB, zC, zD, zE, zF])
     refine wpAnyU_ready (rs := [10, 13]) (by kernel_rfl) (by simp) (AllU.cons rfl (fun K hK => ?_) (AllU.cons rfl (fun K hK => ?_) AllU.nil))
     ·rw [if_pos (by rfl)]
      refine wp_store_mid 72 _ _ rfl g (k * 6) #[.int .i64 op1, .int .i64 num, .int .i64 vr, .string nm, .string fld, .slice A5 l5 c5] rfl rfl hthere expr_info (by simp [Value.oneCell']) ?_
      refine hK.out _ _ (fun hh => absurd hh (by decide)) ?_
      clear hK K
      (try simp only [Act.put, zA, zB, zC, zD, zE, zF])
      refine wpAnyU_ready (rs := [13]) (by kernel_rfl) (by simp) (AllU.cons rfl (fun K hK => ?_) AllU.nil)
      show _
      go_simp
      rw [hU2.out]
      refine hK.out _ _ (fun hh => absurd hh (by decide)) ?_
      clear hK K
      refine wpAnyU_done (by kernel_rfl) ?_ _
      clear hd6 d7 f7 f6 hthere hthere' hcomm hsame hoth hk7 hk6
      go_wp2_with fail
      go_roundw
      case rel => exact ⟨k + 1, c', some ⟨g, 0, none⟩, ns ++ [n], by go_num, by omega, HX8.out, HA8.out, hns, HC8.out, HGX8.out, HP8.out⟩
      case measure => simp [intOf]; omega
     ·go_simp
      refine hK.out _ _ (fun hh => absurd hh (by decide)) ?_
      clear hK K
      (try simp only [Act.put, zA, zB, zC, zD, zE, zF])
      refine wpAnyU_ready (rs := [10]) (by kernel_rfl) (by simp) (AllU.cons rfl (fun K hK => ?_) AllU.nil)
      rw [if_pos (by rfl)]
      refine wp_store_mid 72 _ _ rfl g (k * 6) #[.int .i64 op1, .int .i64 num, .int .i64 vr, .string nm, .string fld, .slice A5 l5 c5] rfl rfl hthere' expr_info (by simp [Value.oneCell']) ?_
      rw [show (#[.int .i64 op1, .int .i64 num, .int .i64 vr, .string nm, .string fld, .slice A5 l5 c5] : Array Value).toList = [.int .i64 op1, .int .i64 num, .int .i64 vr, .string nm, .string fld, .slice A5 l5 c5] from rfl, hcomm]
      refine hK.out _ _ (fun hh => absurd hh (by decide)) ?_
      clear hK K
      refine wpAnyU_done (by kernel_rfl) ?_ _
      clear hd6 d7 f7 f6 hthere hthere' hcomm hsame hoth hk7 hk6
      go_wp2_with fail
      go_roundw
      case rel => exact ⟨k + 1, c', some ⟨g, 0, none⟩, ns ++ [n], by go_num, by omega, HX8.out, HA8.out, hns, HC8.out, HGX8.out, HP8.out⟩
      case measure => simp [intOf]; omega
    ·go_simp
     obtain ⟨W4, hW4⟩ : ∃ W, Hid ((wr.alloc (.cells #[.int .i64 0, .int .i64 0, .int .i64 0, .string ⟨#[]⟩, .string ⟨#[]⟩, .slice none 0 0] 72)).drew = W) := ⟨_, Lib.hid rfl⟩
     have hb4 : Below wr.heap.size wr W4 := by rw [← hW4.out]; exact below_drewed ((Below.refl _ _).alloc (Nat.le_refl _) _)
     have hY4 : Zero W4 wr.heap.size := by rw [← hW4.out]; exact Array.getElem?_push_size
     have hc4 := HCR.out.below hb4
     have hw4 := Went.of_below (lo := lo) (B := B) hb4
     have hk4 := (hw4.typed _ _ _ _ (by decide) (by decide) (by decide) HXR.out)
     have hd4 : W4.cell? ⟨X, 10, none⟩ = some (.slice A' k cc) := by rw [cell_of_row W4 X 10 _ _ _ hk4]; rfl
     rw [hW4.out]
     refine hK.out _ _ (fun _ => hd4) ?_
     clear hK K
     (try simp only [Act.put, zA, zB, zC, zD, zE, zF])
     refine wpAnyU_ready (rs := [5]) (by kernel_rfl) (by simp) (AllU.cons rfl (fun K hK => ?_) AllU.nil)
     go_simp
     refine (expr_any ⟨M, T, f, funcs, count, left, some ⟨pb, 0, none⟩, S, Q, R, 4, 4, sl, sc, ql, qc, rl, rc, A, len, cap⟩ W4 2 (by omega) hc4.ctx).mono ?_
     rintro e W5 ⟨v, n, rfl, hnew, hn15, hg4⟩
     obtain ⟨op1, num, vr, nm, fld, A5, l5, c5, rfl⟩ := hnew.shape
     dsimp only at hg4
     have hc5 := hc4.grew hg4
     have hwr5 := hw4.trans (hc4.went hg4)
     have hY : Zero W5 wr.heap.size := hY4.grew hg4 (by omega)
     have hX0 : wr.heap.size ≤ W4.heap.size := hb4.size
     have hgx5 : GrewX T X wr W5 := (below_x hb4).trans hg4.x
     have hk5 := (hwr5.typed _ _ _ _ (by decide) (by decide) (by decide) HXR.out)
     have hd5 : W5.cell? ⟨X, 10, none⟩ = some (.slice A' k cc) := by rw [cell_of_row W5 X 10 _ _ _ hk5]; rfl
     have hs5 := hwr5.size
     have HA5 := Lib.hid (HARG.out.kept (fun b cur fr _ hb => hwr5.typed b cur _ fr (by decide) (by decide) (by decide) hb))
     refine hK.out _ _ (fun _ => hd5) ?_
     clear hK K
     (try simp only [Act.put, zA, zB, zC, zD, zE, zF])
     refine wpAnyU_ready (rs := [8]) (by kernel_rfl) (by simp) (AllU.cons rfl (fun K hK => ?_) AllU.nil)
     rw [if_pos (by rfl)]
     refine wp_append_zero _ _ rfl w.heap.size W4.heap.size wr.heap.size k cc 1 n A' ns (.int .i64 op1) (.int .i64 num) (.int .i64 vr) (.string nm) (.string fld) (.slice A5 l5 c5) rfl HA5.out rfl hY (by omega) (by omega) hnew (fun g hg => Nat.lt_of_lt_of_le (HARG.out.place g hg).2.1 hX0) (by omega) ?_
     intro g c' w6 hgrow hNg hg6 hgw hcur hargs6
     have hrowA : ∀ x, blk A' = some x → ∃ cur, W5.heap[x]? = some (.cells cur 72 (0, 0)) := fun x hx => (HA5.out.place x hx).2.2
     have hc6 := hc5.other (blk A') 72 hrowA (by decide) hgrow.size (fun b hb hr => hgrow.block b hb hr) (fun x hx => Nat.le_trans (Nat.le_trans HC.out.loB HC.out.bW) (HA5.out.place x hx).1)
     have hXblk : some X ≠ blk A' := fun e => by
      obtain ⟨cur, hc⟩ := hrowA X e.symm
      rw [hk5] at hc
      simp only [Option.some.injEq, Obj.cells.injEq] at hc
      exact absurd hc.2.1 (by decide)
     have hXlt : X < W5.heap.size := (Array.getElem?_eq_some_iff.1 hk5).1
     have hk6 := (hgrow.block X hXlt hXblk).trans hk5
     have hd6 : w6.cell? ⟨X, 10, none⟩ = some (.slice A' k cc) := by rw [cell_of_row w6 X 10 _ _ _ hk6]; rfl
     obtain ⟨cur6, hcur6, hsz6⟩ := hcur
     obtain ⟨U1, hU1⟩ : ∃ U, Hid (w6.setCells g (k * 6) [.int .i64 op1, .int .i64 num, .int .i64 vr, .string nm, .string fld, .slice A5 l5 c5] = U) := ⟨_, Lib.hid rfl⟩
     have hXg : X ≠ g := fun e => by
      rw [e, hcur6] at hk6
      simp only [Option.some.injEq, Obj.cells.injEq] at hk6
      exact absurd hk6.2.1 (by decide)
     have hsame := setCells_same g [.int .i64 op1, .int .i64 num, .int .i64 vr, .string nm, .string fld, .slice A5 l5 c5] (k * 6) w6
     have hoth : ∀ x, x ≠ g → (w6.setCells g (k * 6) [.int .i64 op1, .int .i64 num, .int .i64 vr, .string nm, .string fld, .slice A5 l5 c5]).heap[x]? = w6.heap[x]? := fun x hx => heap_setCells_other g x hx _ _ _
     have hc7 := hc6.other (some g) 72 (fun x hx => by injection hx with hx; subst hx; exact ⟨cur6, hcur6⟩) (by decide) (Nat.le_of_eq hsame.2.2.2.symm) (fun b _ hr => hoth b (fun e => hr (by rw [e]))) (fun x hx => by injection hx with hx; subst hx; exact Nat.le_trans (Nat.le_trans HC.out.loB HC.out.bW) hNg)
     have hk7 := (hoth X hXg).trans hk6
     have hthere : w6.there g (k * 6) 6 := fun j hj => by
      constructor
      ·rw [cell_of_row w6 g _ cur6 _ _ hcur6, Array.getElem?_eq_getElem (by omega)]; rfl
      ·rw [World.frozen?]; simp only [hcur6]; simp
     have hgx7 : GrewX T X w (w6.setCells g (k * 6) [.int .i64 op1, .int .i64 num, .int .i64 vr, .string nm, .string fld, .slice A5 l5 c5]) := (HGX.out.trans hgx5).far (hsame.1.trans hgrow.os) (hsame.2.1.trans hgrow.tape) (hsame.2.2.1.trans hgrow.output) (by rw [hsame.2.2.2]; exact hgrow.size) (fun x hx => (hoth x (by omega)).trans (hgrow.block x (by omega) (fun e => by have := (HA5.out.place x e.symm).1; omega)))
     have hset8 := setB_cell (o := 10) (.slice (some ⟨g, 0, none⟩) (k + 1) c') hk7
     have hc8 := hc7.set hk7 (by decide) hset8 hXlo
     have hgx8 := hgx7.trans hset8.x
     have ha8 := hargs6.kept (w' := (w6.setCells g (k * 6) [.int .i64 op1, .int .i64 num, .int .i64 vr, .string nm, .string fld, .slice A5 l5 c5]).setCell ⟨X, 10, none⟩ (.slice (some ⟨g, 0, none⟩) (k + 1) c')) (fun b cur fr _ hb => (hset8.block b (fun e => by
      rw [e, hk7] at hb
      simp only [Option.some.injEq, Obj.cells.injEq] at hb
      exact absurd hb.2.1 (by decide))).trans hb)
     have hp5 := hwr5.typed _ _ _ _ (by decide) (by decide) (by decide) HPR.out
     have hp6 := (hgrow.block pb (Array.getElem?_eq_some_iff.1 hp5).1 (fun e => by
      obtain ⟨cur, hc⟩ := hrowA pb e.symm
      rw [hp5] at hc
      simp only [Option.some.injEq, Obj.cells.injEq] at hc
      exact absurd hc.2.1 (by decide))).trans hp5
     have hp7 := (hoth pb (fun e => by
      rw [e, hcur6] at hp6
      simp only [Option.some.injEq, Obj.cells.injEq] at hp6
      exact absurd hp6.2.1 (by decide))).trans hp6
     have hp8 := (hset8.block pb (fun e => by
      rw [e, hk7] at hp7
      simp only [Option.some.injEq, Obj.cells.injEq] at hp7
      exact absurd hp7.2.1 (by decide))).trans hp7
     have hcomm := setCells_comm g ⟨X, 10, none⟩ (.slice (some ⟨g, 0, none⟩) (k + 1) c') hXg [.int .i64 op1, .int .i64 num, .int .i64 vr, .string nm, .string fld, .slice A5 l5 c5] (k * 6) w6
     have d7 : (w6.setCells g (k * 6) [.int .i64 op1, .int .i64 num, .int .i64 vr, .string nm, .string fld, .slice A5 l5 c5]).cell? ⟨X, 10, none⟩ = some (.slice A' k cc) := by rw [cell_of_row _ X 10 _ _ _ hk7]; rfl
     have f7 : (w6.setCells g (k * 6) [.int .i64 op1, .int .i64 num, .int .i64 vr, .string nm, .string fld, .slice A5 l5 c5]).frozen? ⟨X, 10, none⟩ = false := by rw [World.frozen?]; simp only [hk7]; rfl
     have f6 : w6.frozen? ⟨X, 10, none⟩ = false := by rw [World.frozen?]; simp only [hk6]; rfl
     have hthere' : (w6.setCell ⟨X, 10, none⟩ (.slice (some ⟨g, 0, none⟩) (k + 1) c')).there g (k * 6) 6 := fun j hj => by
      have hb := (heap_setCell_other w6 ⟨X, 10, none⟩ g (.slice (some ⟨g, 0, none⟩) (k + 1) c') (fun e => hXg e.symm)).trans hcur6
      constructor
      ·rw [cell_of_row _ g _ cur6 _ _ hb, Array.getElem?_eq_getElem (by omega)]; rfl
      ·rw [World.frozen?]; simp only [hb]; simp
     obtain ⟨U2, hU2⟩ : ∃ U, Hid ((w6.setCells g (k * 6) [.int .i64 op1, .int .i64 num, .int .i64 vr, .string nm, .string fld, .slice A5 l5 c5]).setCell ⟨X, 10, none⟩ (.slice (some ⟨g, 0, none⟩) (k + 1) c') = U) := ⟨_, Lib.hid rfl⟩
     rw [hU2.out] at hset8 hc8 hgx8 ha8 hp8 hcomm
     have HX8 := Lib.hid hset8.at_
     have HC8 := Lib.hid hc8
     have HGX8 := Lib.hid hgx8
     have HA8 := Lib.hid ha8
     have HP8 := Lib.hid hp8
     have hns : (ns ++ [n]).sum ≤ 15 * (k + 1) := by rw [List.sum_append]; simp; omega
     refine hK.out _ _ (fun _ => hd6) ?_
     clear hK K hset8 hc8 hgx8 ha8 hp8 hp7 hp6 hp5 hargs6 hgx7 hc7 hc6 hgx5
     (try simp only [Act.put, zA, zB, zC, zD, zE, zF])
     refine wpAnyU_late (i := 9) (v := ?_) rfl (by kernel_rfl) (by kernel_rfl) (by kernel_rfl) (by kernel_rfl) (fun _ _ _ h => h) (Or.inl ⟨by rfl, ?_⟩) ?_
     rotate_left 1
     ·intro w hSw
      clear hSw
      (go_simp) <;> (with_reducible rfl)
     (try simp only [Act.put, zA, zB, zC, zD, zE, zF])
     refine wpAnyU_late (i := 11) (v := ?_) rfl (by kernel_rfl) (by kernel_rfl) (by kernel_rfl) (by kernel_rfl) (fun _ _ _ h => h) (Or.inl ⟨by rfl, ?_⟩) ?_
     rotate_left 1
     ·intro w hSw
      clear hSw
      (go_simp) <;> (with_reducible rfl)
     (try simp only [Act.put, zA, zB, zC, zD, zE, zF])
     refine wpAnyU_late (i := 12) (v := ?_) rfl (by kernel_rfl) (by kernel_rfl) (by kernel_rfl) (by kernel_rfl) (fun _ _ _ h => h) (Or.inl ⟨by rfl, ?_⟩) ?_
     rotate_left 1
     ·intro w hSw
      clear hSw
      (go_simp) <;> (with_reducible rfl)
     (try simp only [Act.put, zA, zB, zC, zD, zE, zF])
     refine wpAnyU_ready (rs := [10, 13]) (by kernel_rfl) (by simp) (AllU.cons rfl (fun K hK => ?_) (AllU.cons rfl (fun K hK => ?_) AllU.nil))
     ·rw [if_pos (by rfl)]
      refine wp_store_mid 72 _ _ rfl g (k * 6) #[.int .i64 op1, .int .i64 num, .int .i64 vr, .string nm, .string fld, .slice A5 l5 c5] rfl rfl hthere expr_info (by simp [Value.oneCell']) ?_
      refine hK.out _ _ (fun hh => absurd hh (by decide)) ?_
      clear hK K
      (try simp only [Act.put, zA, zB, zC, zD, zE, zF])
      refine wpAnyU_ready (rs := [13]) (by kernel_rfl) (by simp) (AllU.cons rfl (fun K hK => ?_) AllU.nil)
      show _
      go_simp
      rw [hU2.out]
      refine hK.out _ _ (fun hh => absurd hh (by decide)) ?_
      clear hK K
      refine wpAnyU_done (by kernel_rfl) ?_ _
      clear hd6 d7 f7 f6 hthere hthere' hcomm hsame hoth hk7 hk6
      go_wp2_with fail
      go_roundw
      case rel => exact ⟨k + 1, c', some ⟨g, 0, none⟩, ns ++ [n], by go_num, by omega, HX8.out, HA8.out, hns, HC8.out, HGX8.out, HP8.out⟩
      case measure => simp [intOf]; omega
     ·go_simp
      refine hK.out _ _ (fun hh => absurd hh (by decide)) ?_
      clear hK K
      (try simp only [Act.put, zA, zB, zC, zD, zE, zF])
      refine wpAnyU_ready (rs := [10]) (by kernel_rfl) (by simp) (AllU.cons rfl (fun K hK => ?_) AllU.nil)
      rw [if_pos (by rfl)]
      refine wp_store_mid 72 _ _ rfl g (k * 6) #[.int .i64 op1, .int .i64 num, .int .i64 vr, .string nm, .string fld, .slice A5 l5 c5] rfl rfl hthere' expr_info (by simp [Value.oneCell']) ?_
      rw [show (#[.int .i64 op1, .int .i64 num, .int .i64 vr, .string nm, .string fld, .slice A5 l5 c5] : Array Value).toList = [.int .i64 op1, .int .i64 num, .int .i64 vr, .string nm, .string fld, .slice A5 l5 c5] from rfl, hcomm]
      refine hK.out _ _ (fun hh => absurd hh (by decide)) ?_
      clear hK K
      refine wpAnyU_done (by kernel_rfl) ?_ _
      clear hd6 d7 f7 f6 hthere hthere' hcomm hsame hoth hk7 hk6
      go_wp2_with fail
      go_roundw
      case rel => exact ⟨k + 1, c', some ⟨g, 0, none⟩, ns ++ [n], by go_num, by omega, HX8.out, HA8.out, hns, HC8.out, HGX8.out, HP8.out⟩
      case measure => simp [intOf]; omega
   ·obtain rfl : k = pk := by omega
    go_wp2_with fail
    go_ret
    exact .inr ⟨fn, A', k, cc, ns, rfl, hfs, HXR.out, HARG.out.rows, by omega, HCR.out, HGX.out⟩
 ·have hd1 : (1 : Int) ≤ funcs := by omega
  have hd2 : funcs < 1000000 := by omega
  go_wp2_with fail
  refine (next_any w T A len cap q1 HT1.out 4 (by omega) (by omega)).mono ?_
  rintro e w1 ⟨r, t1, rfl, hr0, hr1, hm⟩
  have e0' := (hm.cell (o := 0) hMT).trans e0
  have e2' := (hm.cell (o := 2) hMT).trans e2
  have HG1 := Lib.hid hm.grew
  have HC1 := Lib.hid (HC.out.grew hm.grew)
  clear hm e0 e2
  by_cases hr3 : r = 3
  ·subst hr3
   obtain ⟨q2, hq2⟩ := HC1.out.ctx.drew.tape
   have HT2 := Lib.hid hq2
   clear hq2
   go_wp2_with fail
   go_region_held3 (fun w' => w'.cell? ⟨M, 0, none⟩ = some (.pointer (some ⟨T, 0, none⟩)) ∧ w'.cell? ⟨M, 2, none⟩ = some (.int .i64 funcs)) (first | assumption | exact ⟨e0', e2'⟩ | exact ⟨e0'', e2''⟩)
    (first | (go_at_call 25; refine (next_any _ T A len cap q2 HT2.out funcs hd1 hd2).mono ?_; rintro e w2 ⟨r2, t2, rfl, hr20, hr21, hm⟩; have e0'' := (hm.cell (o := 0) hMT).trans e0'; have e2'' := (hm.cell (o := 2) hMT).trans e2'))
   have hg2 : Grew T A len cap w1 w2 := ⟨hm.grew.os, hm.grew.tape, hm.grew.output, hm.grew.size, hm.grew.block, hm.grew.at_⟩
   have HC5 := Lib.hid (HC1.out.grew hg2)
   have HG5 := Lib.hid (HG1.out.trans hg2)
   clear hm hg2 e0' e1 e2' e0'' e2'' hd1 hd2 HT HT1 HT2
   obtain ⟨kk, rfl⟩ : ∃ kk : Nat, r2 = (kk : Int) := ⟨r2.toNat, by omega⟩
   have hk4 : kk < 4 := by omega
   (try dsimp only at HG5)
   have hX5 := (HC.out.went HG5.out).typed _ _ _ _ (by decide) (by decide) (by decide) HX.out
   have hXs5 : X < w2.heap.size := (Array.getElem?_eq_some_iff.1 hX5).1
   have hXA : ∀ o, (w2.alloc o).heap[X]? = some (.cells (callCells kind ⟨#[]⟩ none 0 0) 75 (0, 0)) := fun o => (((Below.refl w2.heap.size w2).alloc (Nat.le_refl _) o).block X hXs5).trans hX5
   have c8 : ∀ o, (w2.alloc o).cell? ⟨X, 8, none⟩ = some (.string ⟨#[]⟩) := fun o => by rw [cell_of_row _ X 8 _ _ _ (hXA o)]; rfl
   have f8 : ∀ o, (w2.alloc o).frozen? ⟨X, 8, none⟩ = false := fun o => by rw [World.frozen?]; simp only [hXA o]; simp
   have hfr := fnm_row kk hk4
   have hfm := fnm_made w2 kk hk4
   have hfs := fnm_size kk
   obtain ⟨fn, hfn⟩ : ∃ fn, fnm kk = fn := ⟨_, rfl⟩
   rw [hfn] at hfr hfm hfs
   have hset := setB_cell (o := 8) (.string fn) hX5
   have HXR0 := Lib.hid hX5
   obtain ⟨V, hV⟩ : ∃ V, Hid (w2.setCell ⟨X, 8, none⟩ (.string fn) = V) := ⟨_, Lib.hid rfl⟩
   rw [hV.out] at hset
   obtain ⟨U, hU⟩ : ∃ U, Hid ((w2.setCell ⟨X, 8, none⟩ (.string fn)).alloc (.cells #[.string ⟨#[102]⟩, .string ⟨#[103]⟩, .string ⟨#[104]⟩, .string ⟨#[107]⟩] 9) = U) := ⟨_, Lib.hid rfl⟩
   have HVU : Hid (Below V.heap.size V U) := Lib.hid (by rw [← hU.out, hV.out]; exact (Below.refl _ _).alloc (Nat.le_refl _) _)
   have HSET : Hid (SetB X (callCells kind fn none 0 0) 75 w2 V) := Lib.hid hset
   clear hset hXA hfn hX5
   go_wp2_with fail
   rw [hU.out]
   have HCU := Lib.hid ((HC5.out.set HXR0.out (by decide) HSET.out hXlo).below HVU.out)
   have HGU := Lib.hid ((HG5.out.x (X := X)).trans (HSET.out.x.trans (below_x HVU.out)))
   have hpU : U.heap[pb]? = some (.cells #[.int .i64 p0, .int .i64 p1, .int .i64 p2, .int .i64 p3] 3 (0, 0)) := by
    have h1 := (HC.out.went HG5.out).typed _ _ _ _ (by decide) (by decide) (by decide) HPAR.out
    have h2 := (HSET.out.block pb (fun e => by
     rw [e, HXR0.out] at h1
     simp only [Option.some.injEq, Obj.cells.injEq] at h1
     exact absurd h1.2.1 (by decide))).trans h1
    exact (HVU.out.block pb (Array.getElem?_eq_some_iff.1 h2).1).trans h2
   have hXU : U.heap[X]? = some (.cells (callCells kind fn none 0 0) 75 (0, 0)) := (HVU.out.block X (Array.getElem?_eq_some_iff.1 HSET.out.at_).1).trans HSET.out.at_
   have HXU := Lib.hid hXU
   have hrow := par4_row p0 p1 p2 p3 kk hk4
   have hple := par4_le (k := kk) hp0 hp1 hp2 hp3
   obtain ⟨pk, hpk⟩ : ∃ pk, par4 p0 p1 p2 p3 kk = pk := ⟨_, rfl⟩
   rw [hpk] at hrow hple
   have HPRW := Lib.hid hrow
   have HPU := Lib.hid hpU
   clear hrow hpU hpk hfr hfm c8 f8 hXU
   go_loopw [6] (fun i wr => ∃ (k cc : Nat) (A' : Option Addr) (ns : List Nat), i = .int .i64 k ∧ k ≤ pk ∧ wr.heap[X]? = some (.cells (callCells kind fn A' k cc) 75 (0, 0)) ∧ ArgsAt wr w.heap.size A' k cc ns ∧ ns.sum ≤ 15 * k ∧ Cx lo B ⟨M, T, f, funcs, count, left, some ⟨pb, 0, none⟩, S, Q, R, 4, 4, sl, sc, ql, qc, rl, rc, A, len, cap⟩ wr ∧ GrewX T X w wr ∧ wr.heap[pb]? = some (.cells #[.int .i64 p0, .int .i64 p1, .int .i64 p2, .int .i64 p3] 3 (0, 0))) (fun i _ => pk - (intOf i).toNat)
   case atStart => exact ⟨0, 0, none, [], rfl, Nat.zero_le _, HXU.out, ArgsAt.nil _ _, Nat.zero_le _, HCU.out, HGU.out, HPU.out⟩
   case round =>
    obtain ⟨k, cc, A', ns, rfl, hk, hXr, hargs, hsum, hcr, hgx, hparr⟩ := hrel
    have e3 := hcr.maker.cell 3 (.slice (some ⟨pb, 0, none⟩) 4 4) rfl
    dsimp only at e3
    have ep : wr.cell? ⟨pb, kk, none⟩ = some (.int .i64 pk) := by rw [cell_of_row wr pb kk _ _ _ hparr]; exact HPRW.out
    have HCR := Lib.hid hcr
    have HCD : Hid (Cx lo B ⟨M, T, f, funcs, count, left, some ⟨pb, 0, none⟩, S, Q, R, 4, 4, sl, sc, ql, qc, rl, rc, A, len, cap⟩ wr.drew) := Lib.hid (hcr.below ⟨rfl, rfl, rfl, Nat.le_refl _, fun _ _ => rfl⟩)
    have HXR := Lib.hid hXr
    have HARG := Lib.hid hargs
    have HGX := Lib.hid hgx
    have HPR := Lib.hid hparr
    have hgxs := hgx.size
    have hk1 : (k : Int) < (k : Int) + 1 := by omega
    have hTr : T < wr.heap.size := by
     obtain ⟨p, hp⟩ := hcr.tape
     exact hp.lt
    clear hXr hargs hcr hgx hparr
    by_cases hlt : k < pk
    ·have HL3 : Hid (wr.drew.cell? ⟨X, 10, none⟩ = some (.slice A' k cc)) := Lib.hid (by
      show wr.cell? ⟨X, 10, none⟩ = _
      rw [cell_of_row wr X 10 _ _ _ HXR.out]; rfl)
     go_wp2_with fail
     refine wp_region_U (S := fun w' => w'.cell? ⟨X, 10, none⟩ = some (.slice A' k cc)) (L := [3, 5, 7, 8]) (by kernel_rfl) ?_
     refine wpAnyU_late (i := 0) (v := ?_) rfl (by kernel_rfl) (by kernel_rfl) (by kernel_rfl) (by kernel_rfl) (fun _ _ _ h => h) (Or.inl ⟨by rfl, ?_⟩) ?_
     rotate_left 1
     ·intro w hSw
      clear hSw
      (go_simp) <;> (with_reducible rfl)
     (try simp only [Act.put, zA, zB, zC, zD, zE, zF])
     refine wpAnyU_late (i := 1) (v := ?_) rfl (by kernel_rfl) (by kernel_rfl) (by kernel_rfl) (by kernel_rfl) (fun _ _ _ h => h) (Or.inl ⟨by rfl, ?_⟩) ?_
     rotate_left 1
     ·intro w hSw
      clear hSw
      (go_simp) <;> (with_reducible rfl)
     (try simp only [Act.put, zA, zB, zC, zD, zE, zF])
     refine wpAnyU_late (i := 2) (v := ?_) rfl (by kernel_rfl) (by kernel_rfl) (by kernel_rfl) (by kernel_rfl) (fun _ _ _ h => h) (Or.inl ⟨by rfl, ?_⟩) ?_
     rotate_left 1
     ·intro w hSw
      clear hSw
      (go_simp) <;> (with_reducible rfl)
     (try simp only [Act.put, zA, zB, zC, zD, zE, zF])
     refine wpAnyU_late (i := 4) (v := ?_) rfl (by kernel_rfl) (by kernel_rfl) (by kernel_rfl) (by kernel_rfl) (fun _ _ _ h => h) (Or.inl ⟨by rfl, ?_⟩) ?_
     rotate_left 1
     ·intro w hSw
      clear hSw
      (go_simp) <;> (with_reducible rfl)
     (try simp only [Act.put, zA, zB, zC, zD, zE, zF])
     refine wpAnyU_take (i := 3) (v := ?_) rfl (by kernel_rfl) (by kernel_rfl) (by kernel_rfl) (by kernel_rfl) (by kernel_rfl) (fun _ _ _ h => h) (Or.inl ⟨by rfl, ?_⟩) HL3.out ?_
     rotate_left 1
     ·intro w hSw
      (try dsimp only at hSw)
      (go_simp) <;> (with_reducible rfl)
     (try simp only [Act.put, zA, zB, zC, zD, zE, zF])
     refine wpAnyU_late (i := 6) (v := ?_) rfl (by kernel_rfl) (by kernel_rfl) (by kernel_rfl) (by kernel_rfl) (fun _ _ _ h => h) (Or.inl ⟨by rfl, ?_⟩) ?_
     rotate_left 1
     ·intro w hSw
      clear hSw
      (go_simp) <;> (with_reducible rfl)
     (try simp only [Act.put, zA, zB, zC, zD, zE, zF])
     refine wpAnyU_ready (rs := [5, 7]) (by kernel_rfl) (by simp) (AllU.cons rfl (fun K hK => ?_) (AllU.cons rfl (fun K hK => ?_) AllU.nil))
     ·go_simp
      refine (expr_any ⟨M, T, f, funcs, count, left, some ⟨pb, 0, none⟩, S, Q, R, 4, 4, sl, sc, ql, qc, rl, rc, A, len, cap⟩ wr.drew 2 (by omega) HCD.out.ctx).mono ?_
      rintro e w4 ⟨v, n, rfl, hex, hn15, hg4⟩
      obtain ⟨op1, num, vr, nm, fld, A5, l5, c5, rfl⟩ := hex.shape
      dsimp only at hg4
      have hs4 : wr.heap.size ≤ w4.heap.size := hg4.size
      have hc4 := HCD.out.grew hg4
      have hw4 := HCD.out.went hg4
      have hk4 := (hw4.typed _ _ _ _ (by decide) (by decide) (by decide) HXR.out)
      have hd4 : w4.cell? ⟨X, 10, none⟩ = some (.slice A' k cc) := by rw [cell_of_row w4 X 10 _ _ _ hk4]; rfl
      refine hK.out _ _ (fun _ => hd4) ?_
      clear hK K
      (try simp only [Act.put, zA, zB, zC, zD, zE, zF])
      refine wpAnyU_ready (rs := [7]) (by kernel_rfl) (by simp) (AllU.cons rfl (fun K hK => ?_) AllU.nil)
      go_simp
      obtain ⟨W5, hW5⟩ : ∃ W, Hid (w4.alloc (.cells #[.int .i64 0, .int .i64 0, .int .i64 0, .string ⟨#[]⟩, .string ⟨#[]⟩, .slice none 0 0] 72) = W) := ⟨_, Lib.hid rfl⟩
      have hb5 : Below w4.heap.size w4 W5 := by rw [← hW5.out]; exact (Below.refl _ _).alloc (Nat.le_refl _) _
      have hY : Zero W5 w4.heap.size := by rw [← hW5.out]; exact Array.getElem?_push_size
      have hc5 := hc4.below hb5
      have hwr5 := hw4.trans (Went.of_below (lo := lo) (B := B) hb5)
      have hnew := hex.keep (KeptX.below hb5).from
      have hX0 : wr.heap.size ≤ wr.drew.heap.size := Nat.le_refl _
      have hgx5 : GrewX T X wr W5 := (show GrewX T X wr w4 from ⟨hg4.os, hg4.tape, hg4.output, hg4.size, fun b hb hT _ => hg4.block b hb hT⟩).trans (below_x hb5)
      rw [hW5.out]
      have hk5 := (hwr5.typed _ _ _ _ (by decide) (by decide) (by decide) HXR.out)
      have hd5 : W5.cell? ⟨X, 10, none⟩ = some (.slice A' k cc) := by rw [cell_of_row W5 X 10 _ _ _ hk5]; rfl
      have hs5 := hwr5.size
      have HA5 := Lib.hid (HARG.out.kept (fun b cur fr _ hb => hwr5.typed b cur _ fr (by decide) (by decide) (by decide) hb))
      refine hK.out _ _ (fun _ => hd5) ?_
      clear hK K
      (try simp only [Act.put, zA, zB, zC, zD, zE, zF])
      refine wpAnyU_ready (rs := [8]) (by kernel_rfl) (by simp) (AllU.cons rfl (fun K hK => ?_) AllU.nil)
      rw [if_pos (by rfl)]
      refine wp_append_zero _ _ rfl w.heap.size wr.drew.heap.size w4.heap.size k cc 1 n A' ns (.int .i64 op1) (.int .i64 num) (.int .i64 vr) (.string nm) (.string fld) (.slice A5 l5 c5) rfl HA5.out rfl hY (by omega) (by omega) hnew (fun g hg => Nat.lt_of_lt_of_le (HARG.out.place g hg).2.1 hX0) (by omega) ?_
      intro g c' w6 hgrow hNg hg6 hgw hcur hargs6
      have hrowA : ∀ x, blk A' = some x → ∃ cur, W5.heap[x]? = some (.cells cur 72 (0, 0)) := fun x hx => (HA5.out.place x hx).2.2
      have hc6 := hc5.other (blk A') 72 hrowA (by decide) hgrow.size (fun b hb hr => hgrow.block b hb hr) (fun x hx => Nat.le_trans (Nat.le_trans HC.out.loB HC.out.bW) (HA5.out.place x hx).1)
      have hXblk : some X ≠ blk A' := fun e => by
       obtain ⟨cur, hc⟩ := hrowA X e.symm
       rw [hk5] at hc
       simp only [Option.some.injEq, Obj.cells.injEq] at hc
       exact absurd hc.2.1 (by decide)
      have hXlt : X < W5.heap.size := (Array.getElem?_eq_some_iff.1 hk5).1
      have hk6 := (hgrow.block X hXlt hXblk).trans hk5
      have hd6 : w6.cell? ⟨X, 10, none⟩ = some (.slice A' k cc) := by rw [cell_of_row w6 X 10 _ _ _ hk6]; rfl
      obtain ⟨cur6, hcur6, hsz6⟩ := hcur
      obtain ⟨U1, hU1⟩ : ∃ U, Hid (w6.setCells g (k * 6) [.int .i64 op1, .int .i64 num, .int .i64 vr, .string nm, .string fld, .slice A5 l5 c5] = U) := ⟨_, Lib.hid rfl⟩
      have hXg : X ≠ g := fun e => by
       rw [e, hcur6] at hk6
       simp only [Option.some.injEq, Obj.cells.injEq] at hk6
       exact absurd hk6.2.1 (by decide)
      have hsame := setCells_same g [.int .i64 op1, .int .i64 num, .int .i64 vr, .string nm, .string fld, .slice A5 l5 c5] (k * 6) w6
      have hoth : ∀ x, x ≠ g → (w6.setCells g (k * 6) [.int .i64 op1, .int .i64 num, .int .i64 vr, .string nm, .string fld, .slice A5 l5 c5]).heap[x]? = w6.heap[x]? := fun x hx => heap_setCells_other g x hx _ _ _
      have hc7 := hc6.other (some g) 72 (fun x hx => by injection hx with hx; subst hx; exact ⟨cur6, hcur6⟩) (by decide) (Nat.le_of_eq hsame.2.2.2.symm) (fun b _ hr => hoth b (fun e => hr (by rw [e]))) (fun x hx => by injection hx with hx; subst hx; exact Nat.le_trans (Nat.le_trans HC.out.loB HC.out.bW) hNg)
      have hk7 := (hoth X hXg).trans hk6
      have hthere : w6.there g (k * 6) 6 := fun j hj => by
       constructor
       ·rw [cell_of_row w6 g _ cur6 _ _ hcur6, Array.getElem?_eq_getElem (by omega)]; rfl
       ·rw [World.frozen?]; simp only [hcur6]; simp
      have hgx7 : GrewX T X w (w6.setCells g (k * 6) [.int .i64 op1, .int .i64 num, .int .i64 vr, .string nm, .string fld, .slice A5 l5 c5]) := (HGX.out.trans hgx5).far (hsame.1.trans hgrow.os) (hsame.2.1.trans hgrow.tape) (hsame.2.2.1.trans hgrow.output) (by rw [hsame.2.2.2]; exact hgrow.size) (fun x hx => (hoth x (by omega)).trans (hgrow.block x (by omega) (fun e => by have := (HA5.out.place x e.symm).1; omega)))
      have hset8 := setB_cell (o := 10) (.slice (some ⟨g, 0, none⟩) (k + 1) c') hk7
      have hc8 := hc7.set hk7 (by decide) hset8 hXlo
      have hgx8 := hgx7.trans hset8.x
      have ha8 := hargs6.kept (w' := (w6.setCells g (k * 6) [.int .i64 op1, .int .i64 num, .int .i64 vr, .string nm, .string fld, .slice A5 l5 c5]).setCell ⟨X, 10, none⟩ (.slice (some ⟨g, 0, none⟩) (k + 1) c')) (fun b cur fr _ hb => (hset8.block b (fun e => by
       rw [e, hk7] at hb
       simp only [Option.some.injEq, Obj.cells.injEq] at hb
       exact absurd hb.2.1 (by decide))).trans hb)
      have hp5 := hwr5.typed _ _ _ _ (by decide) (by decide) (by decide) HPR.out
      have hp6 := (hgrow.block pb (Array.getElem?_eq_some_iff.1 hp5).1 (fun e => by
       obtain ⟨cur, hc⟩ := hrowA pb e.symm
       rw [hp5] at hc
       simp only [Option.some.injEq, Obj.cells.injEq] at hc
       exact absurd hc.2.1 (by decide))).trans hp5
      have hp7 := (hoth pb (fun e => by
       rw [e, hcur6] at hp6
       simp only [Option.some.injEq, Obj.cells.injEq] at hp6
       exact absurd hp6.2.1 (by decide))).trans hp6
      have hp8 := (hset8.block pb (fun e => by
       rw [e, hk7] at hp7
       simp only [Option.some.injEq, Obj.cells.injEq] at hp7
       exact absurd hp7.2.1 (by decide))).trans hp7
      have hcomm := setCells_comm g ⟨X, 10, none⟩ (.slice (some ⟨g, 0, none⟩) (k + 1) c') hXg [.int .i64 op1, .int .i64 num, .int .i64 vr, .string nm, .string fld, .slice A5 l5 c5] (k * 6) w6
      have d7 : (w6.setCells g (k * 6) [.int .i64 op1, .int .i64 num, .int .i64 vr, .string nm, .string fld, .slice A5 l5 c5]).cell? ⟨X, 10, none⟩ = some (.slice A' k cc) := by rw [cell_of_row _ X 10 _ _ _ hk7]; rfl
      have f7 : (w6.setCells g (k * 6) [.int .i64 op1, .int .i64 num, .int .i64 vr, .string nm, .string fld, .slice A5 l5 c5]).frozen? ⟨X, 10, none⟩ = false := by rw [World.frozen?]; simp only [hk7]; rfl
      have f6 : w6.frozen? ⟨X, 10, none⟩ = false := by rw [World.frozen?]; simp only [hk6]; rfl
      have hthere' : (w6.setCell ⟨X, 10, none⟩ (.slice (some ⟨g, 0, none⟩) (k + 1) c')).there g (k * 6) 6 := fun j hj => by
       have hb := (heap_setCell_other w6 ⟨X, 10, none⟩ g (.slice (some ⟨g, 0, none⟩) (k + 1) c') (fun e => hXg e.symm)).trans hcur6
       constructor
       ·rw [cell_of_row _ g _ cur6 _ _ hb, Array.getElem?_eq_getElem (by omega)]; rfl
       ·rw [World.frozen?]; simp only [hb]; simp
      obtain ⟨U2, hU2⟩ : ∃ U, Hid ((w6.setCells g (k * 6) [.int .i64 op1, .int .i64 num, .int .i64 vr, .string nm, .string fld, .slice A5 l5 c5]).setCell ⟨X, 10, none⟩ (.slice (some ⟨g, 0, none⟩) (k + 1) c') = U) := ⟨_, Lib.hid rfl⟩
      rw [hU2.out] at hset8 hc8 hgx8 ha8 hp8 hcomm
      have HX8 := Lib.hid hset8.at_
      have HC8 := Lib.hid hc8
      have HGX8 := Lib.hid hgx8
      have HA8 := Lib.hid ha8
      have HP8 := Lib.hid hp8
      have hns : (ns ++ [n]).sum ≤ 15 * (k + 1) := by rw [List.sum_append]; simp; omega
      refine hK.out _ _ (fun _ => hd6) ?_
      clear hK K hset8 hc8 hgx8 ha8 hp8 hp7 hp6 hp5 hargs6 hgx7 hc7 hc6 hgx5
      (try simp only [Act.put, zA, zB, zC, zD, zE, zF])
      refine wpAnyU_late (i := 9) (v := ?_) rfl (by kernel_rfl) (by kernel_rfl) (by kernel_rfl) (by kernel_rfl) (fun _ _ _ h => h) (Or.inl ⟨by rfl, ?_⟩) ?_
      rotate_left 1
      ·intro w hSw
       clear hSw
       (go_simp) <;> (with_reducible rfl)
      (try simp only [Act.put, zA, zB, zC, zD, zE, zF])
      refine wpAnyU_late (i := 11) (v := ?_) rfl (by kernel_rfl) (by kernel_rfl) (by kernel_rfl) (by kernel_rfl) (fun _ _ _ h => h) (Or.inl ⟨by rfl, ?_⟩) ?_
      rotate_left 1
      ·intro w hSw
       clear hSw
       (go_simp) <;> (with_reducible rfl)
      (try simp only [Act.put, zA, zB, zC, zD, zE, zF])
      refine wpAnyU_late (i := 12) (v := ?_) rfl (by kernel_rfl) (by kernel_rfl) (by kernel_rfl) (by kernel_rfl) (fun _ _ _ h => h) (Or.inl ⟨by rfl, ?_⟩) ?_
      rotate_left 1
      ·intro w hSw
       clear hSw
       (go_simp) <;> (with_reducible rfl)
      (try simp only [Act.put, zA, zB, zC, zD, zE, zF])
      refine wpAnyU_ready (rs := [10, 13]) (by kernel_rfl) (by simp) (AllU.cons rfl (fun K hK => ?_) (AllU.cons rfl (fun K hK => ?_) AllU.nil))
      ·rw [if_pos (by rfl)]
       refine wp_store_mid 72 _ _ rfl g (k * 6) #[.int .i64 op1, .int .i64 num, .int .i64 vr, .string nm, .string fld, .slice A5 l5 c5] rfl rfl hthere expr_info (by simp [Value.oneCell']) ?_
       refine hK.out _ _ (fun hh => absurd hh (by decide)) ?_
       clear hK K
       (try simp only [Act.put, zA, zB, zC, zD, zE, zF])
       refine wpAnyU_ready (rs := [13]) (by kernel_rfl) (by simp) (AllU.cons rfl (fun K hK => ?_) AllU.nil)
       show _
       go_simp
       rw [hU2.out]
       refine hK.out _ _ (fun hh => absurd hh (by decide)) ?_
       clear hK K
       refine wpAnyU_done (by kernel_rfl) ?_ _
       clear hd6 d7 f7 f6 hthere hthere' hcomm hsame hoth hk7 hk6
       go_wp2_with fail
       go_roundw
       case rel => exact ⟨k + 1, c', some ⟨g, 0, none⟩, ns ++ [n], by go_num, by omega, HX8.out, HA8.out, hns, HC8.out, HGX8.out, HP8.out⟩
       case measure => simp [intOf]; omega
      ·go_simp
       refine hK.out _ _ (fun hh => absurd hh (by decide)) ?_
       clear hK K
       (try simp only [Act.put, zA, zB, zC, zD, zE, zF])
       refine wpAnyU_ready (rs := [10]) (by kernel_rfl) (by simp) (AllU.cons rfl (fun K hK => ?_) AllU.nil)
       rw [if_pos (by rfl)]
       refine wp_store_mid 72 _ _ rfl g (k * 6) #[.int .i64 op1, .int .i64 num, .int .i64 vr, .string nm, .string fld, .slice A5 l5 c5] rfl rfl hthere' expr_info (by simp [Value.oneCell']) ?_
       rw [show (#[.int .i64 op1, .int .i64 num, .int .i64 vr, .string nm, .string fld, .slice A5 l5 c5] : Array Value).toList = [.int .i64 op1, .int .i64 num, .int .i64 vr, .string nm, .string fld, .slice A5 l5 c5] from rfl, hcomm]
       refine hK.out _ _ (fun hh => absurd hh (by decide)) ?_
       clear hK K
       refine wpAnyU_done (by kernel_rfl) ?_ _
       clear hd6 d7 f7 f6 hthere hthere' hcomm hsame hoth hk7 hk6
       go_wp2_with fail
       go_roundw
       case rel => exact ⟨k + 1, c', some ⟨g, 0, none⟩, ns ++ [n], by go_num, by omega, HX8.out, HA8.out, hns, HC8.out, HGX8.out, HP8.out⟩
       case measure => simp [intOf]; omega
     ·go_simp
      obtain ⟨W4, hW4⟩ : ∃ W, Hid ((wr.alloc (.cells #[.int .i64 0, .int .i64 0, .int .i64 0, .string ⟨#[]⟩, .string ⟨#[]⟩, .slice none 0 0] 72)).drew = W) := ⟨_, Lib.hid rfl⟩
      have hb4 : Below wr.heap.size wr W4 := by rw [← hW4.out]; exact below_drewed ((Below.refl _ _).alloc (Nat.le_refl _) _)
      have hY4 : Zero W4 wr.heap.size := by rw [← hW4.out]; exact Array.getElem?_push_size
      have hc4 := HCR.out.below hb4
      have hw4 := Went.of_below (lo := lo) (B := B) hb4
      have hk4 := (hw4.typed _ _ _ _ (by decide) (by decide) (by decide) HXR.out)
      have hd4 : W4.cell? ⟨X, 10, none⟩ = some (.slice A' k cc) := by rw [cell_of_row W4 X 10 _ _ _ hk4]; rfl
      rw [hW4.out]
      refine hK.out _ _ (fun _ => hd4) ?_
      clear hK K
      (try simp only [Act.put, zA, zB, zC, zD, zE, zF])
      refine wpAnyU_ready (rs := [5]) (by kernel_rfl) (by simp) (AllU.cons rfl (fun K hK => ?_) AllU.nil)
      go_simp
      refine (expr_any ⟨M, T, f, funcs, count, left, some ⟨pb, 0, none⟩, S, Q, R, 4, 4, sl, sc, ql, qc, rl, rc, A, len, cap⟩ W4 2 (by omega) hc4.ctx).mono ?_
      rintro e W5 ⟨v, n, rfl, hnew, hn15, hg4⟩
      obtain ⟨op1, num, vr, nm, fld, A5, l5, c5, rfl⟩ := hnew.shape
      dsimp only at hg4
      have hc5 := hc4.grew hg4
      have hwr5 := hw4.trans (hc4.went hg4)
      have hY : Zero W5 wr.heap.size := hY4.grew hg4 (by omega)
      have hX0 : wr.heap.size ≤ W4.heap.size := hb4.size
      have hgx5 : GrewX T X wr W5 := (below_x hb4).trans hg4.x
      have hk5 := (hwr5.typed _ _ _ _ (by decide) (by decide) (by decide) HXR.out)
      have hd5 : W5.cell? ⟨X, 10, none⟩ = some (.slice A' k cc) := by rw [cell_of_row W5 X 10 _ _ _ hk5]; rfl
      have hs5 := hwr5.size
      have HA5 := Lib.hid (HARG.out.kept (fun b cur fr _ hb => hwr5.typed b cur _ fr (by decide) (by decide) (by decide) hb))
      refine hK.out _ _ (fun _ => hd5) ?_
      clear hK K
      (try simp only [Act.put, zA, zB, zC, zD, zE, zF])
      refine wpAnyU_ready (rs := [8]) (by kernel_rfl) (by simp) (AllU.cons rfl (fun K hK => ?_) AllU.nil)
      rw [if_pos (by rfl)]
      refine wp_append_zero _ _ rfl w.heap.size W4.heap.size wr.heap.size k cc 1 n A' ns (.int .i64 op1) (.int .i64 num) (.int .i64 vr) (.string nm) (.string fld) (.slice A5 l5 c5) rfl HA5.out rfl hY (by omega) (by omega) hnew (fun g hg => Nat.lt_of_lt_of_le (HARG.out.place g hg).2.1 hX0) (by omega) ?_
      intro g c' w6 hgrow hNg hg6 hgw hcur hargs6
      have hrowA : ∀ x, blk A' = some x → ∃ cur, W5.heap[x]? = some (.cells cur 72 (0, 0)) := fun x hx => (HA5.out.place x hx).2.2
      have hc6 := hc5.other (blk A') 72 hrowA (by decide) hgrow.size (fun b hb hr => hgrow.block b hb hr) (fun x hx => Nat.le_trans (Nat.le_trans HC.out.loB HC.out.bW) (HA5.out.place x hx).1)
      have hXblk : some X ≠ blk A' := fun e => by
       obtain ⟨cur, hc⟩ := hrowA X e.symm
       rw [hk5] at hc
       simp only [Option.some.injEq, Obj.cells.injEq] at hc
       exact absurd hc.2.1 (by decide)
      have hXlt : X < W5.heap.size := (Array.getElem?_eq_some_iff.1 hk5).1
      have hk6 := (hgrow.block X hXlt hXblk).trans hk5
      have hd6 : w6.cell? ⟨X, 10, none⟩ = some (.slice A' k cc) := by rw [cell_of_row w6 X 10 _ _ _ hk6]; rfl
      obtain ⟨cur6, hcur6, hsz6⟩ := hcur
      obtain ⟨U1, hU1⟩ : ∃ U, Hid (w6.setCells g (k * 6) [.int .i64 op1, .int .i64 num, .int .i64 vr, .string nm, .string fld, .slice A5 l5 c5] = U) := ⟨_, Lib.hid rfl⟩
      have hXg : X ≠ g := fun e => by
       rw [e, hcur6] at hk6
       simp only [Option.some.injEq, Obj.cells.injEq] at hk6
       exact absurd hk6.2.1 (by decide)
      have hsame := setCells_same g [.int .i64 op1, .int .i64 num, .int .i64 vr, .string nm, .string fld, .slice A5 l5 c5] (k * 6) w6
      have hoth : ∀ x, x ≠ g → (w6.setCells g (k * 6) [.int .i64 op1, .int .i64 num, .int .i64 vr, .string nm, .string fld, .slice A5 l5 c5]).heap[x]? = w6.heap[x]? := fun x hx => heap_setCells_other g x hx _ _ _
      have hc7 := hc6.other (some g) 72 (fun x hx => by injection hx with hx; subst hx; exact ⟨cur6, hcur6⟩) (by decide) (Nat.le_of_eq hsame.2.2.2.symm) (fun b _ hr => hoth b (fun e => hr (by rw [e]))) (fun x hx => by injection hx with hx; subst hx; exact Nat.le_trans (Nat.le_trans HC.out.loB HC.out.bW) hNg)
      have hk7 := (hoth X hXg).trans hk6
      have hthere : w6.there g (k * 6) 6 := fun j hj => by
       constructor
       ·rw [cell_of_row w6 g _ cur6 _ _ hcur6, Array.getElem?_eq_getElem (by omega)]; rfl
       ·rw [World.frozen?]; simp only [hcur6]; simp
      have hgx7 : GrewX T X w (w6.setCells g (k * 6) [.int .i64 op1, .int .i64 num, .int .i64 vr, .string nm, .string fld, .slice A5 l5 c5]) := (HGX.out.trans hgx5).far (hsame.1.trans hgrow.os) (hsame.2.1.trans hgrow.tape) (hsame.2.2.1.trans hgrow.output) (by rw [hsame.2.2.2]; exact hgrow.size) (fun x hx => (hoth x (by omega)).trans (hgrow.block x (by omega) (fun e => by have := (HA5.out.place x e.symm).1; omega)))
      have hset8 := setB_cell (o := 10) (.slice (some ⟨g, 0, none⟩) (k + 1) c') hk7
      have hc8 := hc7.set hk7 (by decide) hset8 hXlo
      have hgx8 := hgx7.trans hset8.x
      have ha8 := hargs6.kept (w' := (w6.setCells g (k * 6) [.int .i64 op1, .int .i64 num, .int .i64 vr, .string nm, .string fld, .slice A5 l5 c5]).setCell ⟨X, 10, none⟩ (.slice (some ⟨g, 0, none⟩) (k + 1) c')) (fun b cur fr _ hb => (hset8.block b (fun e => by
       rw [e, hk7] at hb
       simp only [Option.some.injEq, Obj.cells.injEq] at hb
       exact absurd hb.2.1 (by decide))).trans hb)
      have hp5 := hwr5.typed _ _ _ _ (by decide) (by decide) (by decide) HPR.out
      have hp6 := (hgrow.block pb (Array.getElem?_eq_some_iff.1 hp5).1 (fun e => by
       obtain ⟨cur, hc⟩ := hrowA pb e.symm
       rw [hp5] at hc
       simp only [Option.some.injEq, Obj.cells.injEq] at hc
       exact absurd hc.2.1 (by decide))).trans hp5
      have hp7 := (hoth pb (fun e => by
       rw [e, hcur6] at hp6
       simp only [Option.some.injEq, Obj.cells.injEq] at hp6
       exact absurd hp6.2.1 (by decide))).trans hp6
      have hp8 := (hset8.block pb (fun e => by
       rw [e, hk7] at hp7
       simp only [Option.some.injEq, Obj.cells.injEq] at hp7
       exact absurd hp7.2.1 (by decide))).trans hp7
      have hcomm := setCells_comm g ⟨X, 10, none⟩ (.slice (some ⟨g, 0, none⟩) (k + 1) c') hXg [.int .i64 op1, .int .i64 num, .int .i64 vr, .string nm, .string fld, .slice A5 l5 c5] (k * 6) w6
      have d7 : (w6.setCells g (k * 6) [.int .i64 op1, .int .i64 num, .int .i64 vr, .string nm, .string fld, .slice A5 l5 c5]).cell? ⟨X, 10, none⟩ = some (.slice A' k cc) := by rw [cell_of_row _ X 10 _ _ _ hk7]; rfl
      have f7 : (w6.setCells g (k * 6) [.int .i64 op1, .int .i64 num, .int .i64 vr, .string nm, .string fld, .slice A5 l5 c5]).frozen? ⟨X, 10, none⟩ = false := by rw [World.frozen?]; simp only [hk7]; rfl
      have f6 : w6.frozen? ⟨X, 10, none⟩ = false := by rw [World.frozen?]; simp only [hk6]; rfl
      have hthere' : (w6.setCell ⟨X, 10, none⟩ (.slice (some ⟨g, 0, none⟩) (k + 1) c')).there g (k * 6) 6 := fun j hj => by
       have hb := (heap_setCell_other w6 ⟨X, 10, none⟩ g (.slice (some ⟨g, 0, none⟩) (k + 1) c') (fun e => hXg e.symm)).trans hcur6
       constructor
       ·rw [cell_of_row _ g _ cur6 _ _ hb, Array.getElem?_eq_getElem (by omega)]; rfl
       ·rw [World.frozen?]; simp only [hb]; simp
      obtain ⟨U2, hU2⟩ : ∃ U, Hid ((w6.setCells g (k * 6) [.int .i64 op1, .int .i64 num, .int .i64 vr, .string nm, .string fld, .slice A5 l5 c5]).setCell ⟨X, 10, none⟩ (.slice (some ⟨g, 0, none⟩) (k + 1) c') = U) := ⟨_, Lib.hid rfl⟩
      rw [hU2.out] at hset8 hc8 hgx8 ha8 hp8 hcomm
      have HX8 := Lib.hid hset8.at_
      have HC8 := Lib.hid hc8
      have HGX8 := Lib.hid hgx8
      have HA8 := Lib.hid ha8
      have HP8 := Lib.hid hp8
      have hns : (ns ++ [n]).sum ≤ 15 * (k + 1) := by rw [List.sum_append]; simp; omega
      refine hK.out _ _ (fun _ => hd6) ?_
      clear hK K hset8 hc8 hgx8 ha8 hp8 hp7 hp6 hp5 hargs6 hgx7 hc7 hc6 hgx5
      (try simp only [Act.put, zA, zB, zC, zD, zE, zF])
      refine wpAnyU_late (i := 9) (v := ?_) rfl (by kernel_rfl) (by kernel_rfl) (by kernel_rfl) (by kernel_rfl) (fun _ _ _ h => h) (Or.inl ⟨by rfl, ?_⟩) ?_
      rotate_left 1
      ·intro w hSw
       clear hSw
       (go_simp) <;> (with_reducible rfl)
      (try simp only [Act.put, zA, zB, zC, zD, zE, zF])
      refine wpAnyU_late (i := 11) (v := ?_) rfl (by kernel_rfl) (by kernel_rfl) (by kernel_rfl) (by kernel_rfl) (fun _ _ _ h => h) (Or.inl ⟨by rfl, ?_⟩) ?_
      rotate_left 1
      ·intro w hSw
       clear hSw
       (go_simp) <;> (with_reducible rfl)
      (try simp only [Act.put, zA, zB, zC, zD, zE, zF])
      refine wpAnyU_late (i := 12) (v := ?_) rfl (by kernel_rfl) (by kernel_rfl) (by kernel_rfl) (by kernel_rfl) (fun _ _ _ h => h) (Or.inl ⟨by rfl, ?_⟩) ?_
      rotate_left 1
      ·intro w hSw
       clear hSw
       (go_simp) <;> (with_reducible rfl)
      (try simp only [Act.put, zA, zB, zC, zD, zE, zF])
      refine wpAnyU_ready (rs := [10, 13]) (by kernel_rfl) (by simp) (AllU.cons rfl (fun K hK => ?_) (AllU.cons rfl (fun K hK => ?_) AllU.nil))
      ·rw [if_pos (by rfl)]
       refine wp_store_mid 72 _ _ rfl g (k * 6) #[.int .i64 op1, .int .i64 num, .int .i64 vr, .string nm, .string fld, .slice A5 l5 c5] rfl rfl hthere expr_info (by simp [Value.oneCell']) ?_
       refine hK.out _ _ (fun hh => absurd hh (by decide)) ?_
       clear hK K
       (try simp only [Act.put, zA, zB, zC, zD, zE, zF])
       refine wpAnyU_ready (rs := [13]) (by kernel_rfl) (by simp) (AllU.cons rfl (fun K hK => ?_) AllU.nil)
       show _
       go_simp
       rw [hU2.out]
       refine hK.out _ _ (fun hh => absurd hh (by decide)) ?_
       clear hK K
       refine wpAnyU_done (by kernel_rfl) ?_ _
       clear hd6 d7 f7 f6 hthere hthere' hcomm hsame hoth hk7 hk6
       go_wp2_with fail
       go_roundw
       case rel => exact ⟨k + 1, c', some ⟨g, 0, none⟩, ns ++ [n], by go_num, by omega, HX8.out, HA8.out, hns, HC8.out, HGX8.out, HP8.out⟩
       case measure => simp [intOf]; omega
      ·go_simp
       refine hK.out _ _ (fun hh => absurd hh (by decide)) ?_
       clear hK K
       (try simp only [Act.put, zA, zB, zC, zD, zE, zF])
       refine wpAnyU_ready (rs := [10]) (by kernel_rfl) (by simp) (AllU.cons rfl (fun K hK => ?_) AllU.nil)
       rw [if_pos (by rfl)]
       refine wp_store_mid 72 _ _ rfl g (k * 6) #[.int .i64 op1, .int .i64 num, .int .i64 vr, .string nm, .string fld, .slice A5 l5 c5] rfl rfl hthere' expr_info (by simp [Value.oneCell']) ?_
       rw [show (#[.int .i64 op1, .int .i64 num, .int .i64 vr, .string nm, .string fld, .slice A5 l5 c5] : Array Value).toList = [.int .i64 op1, .int .i64 num, .int .i64 vr, .string nm, .string fld, .slice A5 l5 c5] from rfl, hcomm]
       refine hK.out _ _ (fun hh => absurd hh (by decide)) ?_
       clear hK K
       refine wpAnyU_done (by kernel_rfl) ?_ _
       clear hd6 d7 f7 f6 hthere hthere' hcomm hsame hoth hk7 hk6
       go_wp2_with fail
       go_roundw
       case rel => exact ⟨k + 1, c', some ⟨g, 0, none⟩, ns ++ [n], by go_num, by omega, HX8.out, HA8.out, hns, HC8.out, HGX8.out, HP8.out⟩
       case measure => simp [intOf]; omega
    ·obtain rfl : k = pk := by omega
     go_wp2_with fail
     go_ret
     exact .inr ⟨fn, A', k, cc, ns, rfl, hfs, HXR.out, HARG.out.rows, by omega, HCR.out, HGX.out⟩
  ·go_wp2_with fail
   go_ret
   exact .inl ⟨rfl, HG1.out⟩
end Go.Proofs.YtchibamdkaejdaaDoor
namespace Go.Proofs.YtchibamdkaejdaaDoor
open Go.RowKit
variable {lo : Nat}

/-- The cells of a statement without blocks. -/
def asCells (kind : Int) (fn : ByteArray) (A1 : Option Addr) (l1 c1 : Nat) (A2 : Option Addr) (l2 c2 : Nat) : Array Value := #[.int .i64 kind, .int .i64 0, .int .i64 0, .string ⟨#[]⟩, .string ⟨#[]⟩, .int .i64 0, .int .i64 0, .slice A1 l1 c1, .string fn, .int .i64 0, .slice A2 l2 c2, .slice none 0 0, .slice none 0 0]
theorem asCells_one (kind : Int) (fn : ByteArray) (A1 : Option Addr) (l1 c1 : Nat) (A2 : Option Addr) (l2 c2 : Nat) : ∀ v ∈ (asCells kind fn A1 l1 c1 A2 l2 c2).toList, v.oneCell' = true := by
 intro v hv
 simp only [asCells, List.mem_cons, List.not_mem_nil, or_false] at hv
 rcases hv with rfl | rfl | rfl | rfl | rfl | rfl | rfl | rfl | rfl | rfl | rfl | rfl | rfl <;> rfl
/-- A row of expressions, with its weights. -/
def ExRow (w : World) (A : Option Addr) (l c : Nat) (ns : List Nat) : Prop := RowsOk (ExOk w 8) w 72 6 A l c ns
theorem ExRow.nil (w : World) : ExRow w none 0 0 [] := ⟨rfl, Nat.le_refl _, by decide, fun h => absurd rfl h⟩
theorem ExRow.keep {w w' : World} {A : Option Addr} {l c : Nat} {ns : List Nat} (h : ExRow w A l c ns) (hk : KeptE w w') : ExRow w' A l c ns := RowsOk.keepE hk h
theorem KeptE.trans {a b c : World} (h : KeptE a b) (k : KeptE b c) : KeptE a c := fun x cur fr hx => k x cur fr (h x cur fr hx)
/-- One expression in a new row. -/
theorem row_made {w : World} {B op num n : Nat} {vr : Int} {nm fld : ByteArray} {A : Option Addr} {len cap : Nat} (h : ExNew w B 4 (.agg #[.int .i64 op, .int .i64 num, .int .i64 vr, .string nm, .string fld, .slice A len cap]) n) :
  ExRow (w.alloc (.cells #[.int .i64 op, .int .i64 num, .int .i64 vr, .string nm, .string fld, .slice A len cap] 72)) (some ⟨w.heap.size, 0, none⟩) 1 1 [n] :=
 (row_one (h.keep (KeptX.below ((Below.refl _ _).alloc (Nat.le_refl _) _)).from) (Array.getElem?_push_size)).up (fun _ _ hv => hv.ok.le (by omega))
theorem SetB.keptE {w U : World} {X : Nat} {old cs : Array Value} (hX : w.heap[X]? = some (.cells old 75 (0, 0))) (h : SetB X cs 75 w U) : KeptE w U := fun b cur fr hb => (h.block b (fun e => by
 rw [e, hX] at hb
 simp only [Option.some.injEq, Obj.cells.injEq] at hb
 exact absurd hb.2.1 (by decide))).trans hb
theorem Went.x {B : Nat} {m : Mk} {w w2 w3 : World} {X : Nat} (h : Went lo B w w2) (hc : Cx lo B m w2) (g : GrewX m.T X w2 w3) (hX : w.heap.size ≤ X) : Went lo B w w3 := by
 obtain ⟨pos, ht⟩ := hc.tape
 refine ⟨g.os.trans h.os, g.tape.trans h.tape, g.output.trans h.output, Nat.le_trans h.size g.size, fun b hb hw => (g.block b (Nat.lt_of_lt_of_le hw h.size) (fun e => by have := hc.bT; omega) (by omega)).trans (h.low b hb hw), fun b cur e fr hB h1 h2 hbw => ?_, fun b cur e fr h1 h2 h3 hbw => ?_⟩
 ·have hb2 := h.mid b cur e fr hB h1 h2 hbw
  have hlt : b < w.heap.size := (Array.getElem?_eq_some_iff.1 hbw).1
  refine (g.block b (Nat.lt_of_lt_of_le hlt h.size) (fun e' => ?_) (by omega)).trans hb2
  rw [e', ht.block] at hb2
  simp only [Option.some.injEq, Obj.cells.injEq] at hb2
  exact h1 hb2.2.1.symm
 have hb2 := h.typed b cur e fr h1 h2 h3 hbw
 have hlt : b < w.heap.size := (Array.getElem?_eq_some_iff.1 hbw).1
 refine (g.block b (Nat.lt_of_lt_of_le hlt h.size) (fun e' => ?_) (by omega)).trans hb2
 rw [e', ht.block] at hb2
 simp only [Option.some.injEq, Obj.cells.injEq] at hb2
 exact h1 hb2.2.1.symm
/-- An empty statement's cells. -/
def zCells : Array Value := #[.int .i64 0, .int .i64 0, .int .i64 0, .string ⟨#[]⟩, .string ⟨#[]⟩, .int .i64 0, .int .i64 0, .slice none 0 0, .string ⟨#[]⟩, .int .i64 0, .slice none 0 0, .slice none 0 0, .slice none 0 0]
/-- A statement is being made at X; the result's cell at N is empty. -/
structure As (lo B : Nat) (m : Mk) (w0 : World) (N X : Nat) (cs : Array Value) (w : World) : Prop where
 cx : Cx lo B m w
 went : Went lo B w0 w
 lo0 : lo ≤ w0.heap.size
 x : w.heap[X]? = some (.cells cs 75 (0, 0))
 n : w.heap[N]? = some (.cells zCells 75 (0, 0))
 hX : w0.heap.size ≤ X
 hN : w0.heap.size ≤ N
 ne : N ≠ X
section
variable {B : Nat} {m : Mk} {w0 w w' : World} {N X : Nat} {cs : Array Value}
theorem As.lt (h : As lo B m w0 N X cs w) : X < w.heap.size := (Array.getElem?_eq_some_iff.1 h.x).1
theorem As.nlt (h : As lo B m w0 N X cs w) : N < w.heap.size := (Array.getElem?_eq_some_iff.1 h.n).1
theorem As.grew (h : As lo B m w0 N X cs w) (g : Grew m.T m.A m.len m.cap w w') : As lo B m w0 N X cs w' :=
 ⟨h.cx.grew g, h.went.trans (h.cx.went g), h.lo0, (h.cx.went g).typed _ _ _ _ (by decide) (by decide) (by decide) h.x, (h.cx.went g).typed _ _ _ _ (by decide) (by decide) (by decide) h.n, h.hX, h.hN, h.ne⟩
theorem As.keptG (h : As lo B m w0 N X cs w) (g : Grew m.T m.A m.len m.cap w w') : KeptE w w' := (h.cx.went g).keptX.e
theorem As.below (h : As lo B m w0 N X cs w) (g : Below w.heap.size w w') : As lo B m w0 N X cs w' := h.grew (h.cx.ctx.below g)
theorem As.alloc (h : As lo B m w0 N X cs w) (o : Obj) : As lo B m w0 N X cs (w.alloc o) := h.below ((Below.refl _ _).alloc (Nat.le_refl _) o)
theorem As.drew (h : As lo B m w0 N X cs w) : As lo B m w0 N X cs w.drew := h.below ⟨rfl, rfl, rfl, Nat.le_refl _, fun _ _ => rfl⟩
theorem As.setB {cs' : Array Value} (h : As lo B m w0 N X cs w) (hs : SetB X cs' 75 w w') : As lo B m w0 N X cs' w' :=
 ⟨h.cx.set h.x (by decide) hs (Nat.le_trans h.lo0 h.hX), h.went.set hs h.hX, h.lo0, hs.at_, (hs.block N h.ne).trans h.n, h.hX, h.hN, h.ne⟩
theorem As.set (h : As lo B m w0 N X cs w) (o : Nat) (v : Value) : As lo B m w0 N X (cs.setIfInBounds o v) (w.setCell ⟨X, o, none⟩ v) := h.setB (setB_cell v h.x)
theorem As.keptS (h : As lo B m w0 N X cs w) (o : Nat) (v : Value) : KeptE w (w.setCell ⟨X, o, none⟩ v) := (setB_cell v h.x).keptE h.x
theorem As.cell (h : As lo B m w0 N X cs w) (o : Nat) (v : Value) (hv : cs[o]? = some v) : w.cell? ⟨X, o, none⟩ = some v := by rw [cell_of_row w X o _ _ _ h.x]; exact hv
theorem As.frozen (h : As lo B m w0 N X cs w) (o : Nat) : w.frozen? ⟨X, o, none⟩ = false := by rw [World.frozen?]; simp only [h.x]; simp
/-- The names of a row of the maker's: they lie neither at X nor at N. -/
theorem As.names {S : Option Addr} {sl sc : Nat} (h : As lo B m w0 N X cs w) (hS : NameRow w m.T S sl sc) (h0 : ∃ k : Int, cs[0]? = some (.int .i64 k)) (hl : sl ≠ 0) : ∃ (b : Nat) (nm : Nat → ByteArray), S = some ⟨b, 0, none⟩ ∧ b < w.heap.size ∧ b ≠ m.T ∧ b ≠ X ∧ b ≠ N ∧ sl ≤ sc ∧ (sc : Int) ≤ 9223372036854775807 ∧ sl ≤ 1000 ∧ (∀ k, k < sl → (nm k).size ≤ 20) ∧ ∀ k, k < sl → w.cell? ⟨b, k, none⟩ = some (.string (nm k)) := by
 obtain ⟨b, nm, e, hb, hbT, hl1, hl2, hl3, hnm, hnames⟩ := hS.open hl
 have hn0 := hnames 0 (by omega)
 refine ⟨b, nm, e, hb, hbT, fun e => ?_, fun e => ?_, hl1, by unfold maxLen at hl2; omega, hl3, hnm, hnames⟩
 ·obtain ⟨k, hk⟩ := h0
  rw [e, h.cell 0 _ hk] at hn0
  simp at hn0
 ·rw [e, cell_of_row w N 0 _ _ _ h.n] at hn0
  simp [zCells] at hn0
theorem limb_setX {T : Nat} {M b c n k X : Nat} {nm : Nat → ByteArray} (o : Nat) (v : Value) (hM : M ≠ X) (hb : b ≠ X) (h : (w.cell? ⟨M, 0, none⟩ = some (.pointer (some ⟨T, 0, none⟩)) ∧ w.cell? ⟨M, c, none⟩ = some (.slice (some ⟨b, 0, none⟩) n k) ∧ ∀ j, j < n → w.cell? ⟨b, j, none⟩ = some (.string (nm j)))) : ((w.setCell ⟨X, o, none⟩ v).cell? ⟨M, 0, none⟩ = some (.pointer (some ⟨T, 0, none⟩)) ∧ (w.setCell ⟨X, o, none⟩ v).cell? ⟨M, c, none⟩ = some (.slice (some ⟨b, 0, none⟩) n k) ∧ ∀ j, j < n → (w.setCell ⟨X, o, none⟩ v).cell? ⟨b, j, none⟩ = some (.string (nm j))) :=
 have hf : ∀ x i, x ≠ X → (w.setCell ⟨X, o, none⟩ v).cell? ⟨x, i, none⟩ = w.cell? ⟨x, i, none⟩ := fun x _ hx => World.cell?_of_block (w := w) (heap_setCell_other w ⟨X, o, none⟩ x v hx)
 ⟨(hf _ _ hM).trans h.1, (hf _ _ hM).trans h.2.1, fun j hj => (hf _ _ hb).trans (h.2.2 j hj)⟩
end
/-- A statement without blocks, wherever rows of statements may lie. -/
theorem stIn_plain {w : World} {kind n1s n2s : Nat} {fn : ByteArray} {A1 A2 : Option Addr} {l1 c1 l2 c2 : Nat} {n1 n2 : List Nat} (hk : 1 ≤ kind ∧ kind ≤ 10 ∧ (l1 = 0 ∨ kind = 2 ∨ kind = 3)) (hf : fn.size ≤ 20) (h1 : ExRow w A1 l1 c1 n1) (h2 : ExRow w A2 l2 c2 n2) (e1 : n1.sum = n1s) (e2 : n2.sum = n2s) (p : Nat → Prop) (d : Nat) :
  StIn w p (d + 1) (.agg (asCells kind fn A1 l1 c1 A2 l2 c2)) (1 + n1s + n2s) :=
 ⟨kind, 0, 0, 0, 0, 0, ⟨#[]⟩, ⟨#[]⟩, fn, A1, A2, none, none, l1, c1, l2, c2, 0, 0, 0, 0, n1, n2, [], [], rfl, hk, by omega, by decide, by decide, hf, h1, h2, ⟨rfl, Nat.le_refl _, by decide, fun h => absurd rfl h⟩, ⟨rfl, Nat.le_refl _, by decide, fun h => absurd rfl h⟩, fun h => absurd rfl h, fun h => absurd rfl h, by simp [e1, e2]⟩
end Go.Proofs.YtchibamdkaejdaaDoor
namespace Go.Proofs.YtchibamdkaejdaaDoor
open Go.RowKit
variable {lo : Nat}

/-- The cells of a statement with blocks. -/
def cmCells (kind : Int) (nm : ByteArray) (A2 : Option Addr) (l2 c2 : Nat) (A3 : Option Addr) (l3 c3 : Nat) (A4 : Option Addr) (l4 c4 : Nat) : Array Value := #[.int .i64 kind, .int .i64 0, .int .i64 0, .string nm, .string ⟨#[]⟩, .int .i64 0, .int .i64 0, .slice none 0 0, .string ⟨#[]⟩, .int .i64 0, .slice A2 l2 c2, .slice A3 l3 c3, .slice A4 l4 c4]
theorem cmCells_one (kind : Int) (nm : ByteArray) (A2 : Option Addr) (l2 c2 : Nat) (A3 : Option Addr) (l3 c3 : Nat) (A4 : Option Addr) (l4 c4 : Nat) : ∀ v ∈ (cmCells kind nm A2 l2 c2 A3 l3 c3 A4 l4 c4).toList, v.oneCell' = true := by
 intro v hv
 simp only [cmCells, List.mem_cons, List.not_mem_nil, or_false] at hv
 rcases hv with rfl | rfl | rfl | rfl | rfl | rfl | rfl | rfl | rfl | rfl | rfl | rfl | rfl <;> rfl
theorem stIn_comp {w : World} {p : Nat → Prop} {d kind : Nat} {nm : ByteArray} {A2 A3 A4 : Option Addr} {l2 c2 l3 c3 l4 c4 : Nat} {n2 n3 n4 : List Nat} (hk : 1 ≤ kind ∧ kind ≤ 10) (hnm : nm.size ≤ 20) (h2 : ExRow w A2 l2 c2 n2) (h3 : StRow w p d A3 l3 c3 n3) (h4 : StRow w p d A4 l4 c4 n4) :
  StIn w p (d + 1) (.agg (cmCells kind nm A2 l2 c2 A3 l3 c3 A4 l4 c4)) (1 + n2.sum + n3.sum + n4.sum) :=
 ⟨kind, 0, 0, 0, 0, 0, nm, ⟨#[]⟩, ⟨#[]⟩, none, A2, A3, A4, 0, 0, l2, c2, l3, c3, l4, c4, [], n2, n3, n4, rfl, ⟨hk.1, hk.2, .inl rfl⟩, by omega, hnm, by decide, by decide, ⟨rfl, Nat.le_refl _, by decide, fun h => absurd rfl h⟩, h2, h3.1, h4.1, h3.2, h4.2, by simp⟩
theorem stIn_decl (w : World) (p : Nat → Prop) (d : Nat) (nm ty : ByteArray) (ln : Nat) (h1 : nm.size ≤ 20) (h2 : ty.size ≤ 20) (h3 : ln ≤ 3) : StIn w p (d + 1) (.agg (declCells nm ty ln)) 1 :=
 ⟨1, ln, 0, 0, 0, 0, nm, ty, ⟨#[]⟩, none, none, none, none, 0, 0, 0, 0, 0, 0, 0, 0, [], [], [], [], rfl, ⟨by omega, by omega, .inl rfl⟩, by omega, h1, h2, by decide, ⟨rfl, Nat.le_refl _, by decide, fun h => absurd rfl h⟩, ⟨rfl, Nat.le_refl _, by decide, fun h => absurd rfl h⟩, ⟨rfl, Nat.le_refl _, by decide, fun h => absurd rfl h⟩, ⟨rfl, Nat.le_refl _, by decide, fun h => absurd rfl h⟩, fun h => absurd rfl h, fun h => absurd rfl h, rfl⟩
/-- Statements are being made in blocks of their own. -/
structure Mks (lo B : Nat) (m : Mk) (w0 : World) (bs : List (Nat × Array Value)) (w : World) : Prop where
 cx : Cx lo B m w
 went : Went lo B w0 w
 lo0 : lo ≤ w0.heap.size
 at_ : ∀ p ∈ bs, w0.heap.size ≤ p.1 ∧ w.heap[p.1]? = some (.cells p.2 75 (0, 0))
section
variable {B : Nat} {m m' : Mk} {w0 w w' : World} {bs : List (Nat × Array Value)} {X : Nat} {cs cs' : Array Value}
theorem Mks.turned (h : Mks lo B m w0 bs w) (hc : Cx lo B m' w') (hw : Went lo B w w') : Mks lo B m' w0 bs w' := ⟨hc, h.went.trans hw, h.lo0, fun p hp => ⟨(h.at_ p hp).1, hw.typed _ _ _ _ (by decide) (by decide) (by decide) (h.at_ p hp).2⟩⟩
theorem Mks.grew (h : Mks lo B m w0 bs w) (g : Grew m.T m.A m.len m.cap w w') : Mks lo B m w0 bs w' := h.turned (h.cx.grew g) (h.cx.went g)
theorem Mks.below (h : Mks lo B m w0 bs w) (g : Below w.heap.size w w') : Mks lo B m w0 bs w' := h.grew (h.cx.ctx.below g)
theorem Mks.alloc (h : Mks lo B m w0 bs w) (o : Obj) : Mks lo B m w0 bs (w.alloc o) := h.below ((Below.refl _ _).alloc (Nat.le_refl _) o)
theorem Mks.drew (h : Mks lo B m w0 bs w) : Mks lo B m w0 bs w.drew := h.below ⟨rfl, rfl, rfl, Nat.le_refl _, fun _ _ => rfl⟩
theorem Mks.more (h : Mks lo B m w0 bs w) (cs : Array Value) : Mks lo B m w0 ((w.heap.size, cs) :: bs) (w.alloc (.cells cs 75)) :=
 have h1 := h.alloc (.cells cs 75)
 ⟨h1.cx, h1.went, h1.lo0, fun p hp => by
  rcases List.mem_cons.1 hp with rfl | hp
  ·exact ⟨h.went.size, Array.getElem?_push_size⟩
  ·exact h1.at_ p hp⟩
theorem Mks.head (h : Mks lo B m w0 ((X, cs) :: bs) w) : w.heap[X]? = some (.cells cs 75 (0, 0)) := (h.at_ _ (List.mem_cons_self ..)).2
theorem Mks.low (h : Mks lo B m w0 ((X, cs) :: bs) w) : w0.heap.size ≤ X := (h.at_ _ (List.mem_cons_self ..)).1
theorem Mks.lt (h : Mks lo B m w0 ((X, cs) :: bs) w) : X < w.heap.size := (Array.getElem?_eq_some_iff.1 h.head).1
theorem Mks.next {Y : Nat} {ds : Array Value} (h : Mks lo B m w0 ((X, cs) :: (Y, ds) :: bs) w) : w.heap[Y]? = some (.cells ds 75 (0, 0)) := (h.at_ (Y, ds) (by simp)).2
theorem Mks.setB (h : Mks lo B m w0 ((X, cs) :: bs) w) (hs : SetB X cs' 75 w w') (hne : ∀ p ∈ bs, p.1 ≠ X) : Mks lo B m w0 ((X, cs') :: bs) w' :=
 ⟨h.cx.set h.head (by decide) hs (Nat.le_trans h.lo0 h.low), h.went.set hs h.low, h.lo0, fun p hp => by
  rcases List.mem_cons.1 hp with rfl | hp
  ·exact ⟨h.low, hs.at_⟩
  ·exact ⟨(h.at_ p (List.mem_cons_of_mem _ hp)).1, (hs.block _ (hne p hp)).trans (h.at_ p (List.mem_cons_of_mem _ hp)).2⟩⟩
theorem Mks.cell (h : Mks lo B m w0 ((X, cs) :: bs) w) (o : Nat) (v : Value) (hv : cs[o]? = some v) : w.cell? ⟨X, o, none⟩ = some v := by rw [cell_of_row w X o _ _ _ h.head]; exact hv
theorem Mks.frozen (h : Mks lo B m w0 ((X, cs) :: bs) w) (o : Nat) : w.frozen? ⟨X, o, none⟩ = false := by rw [World.frozen?]; simp only [h.head]; simp
/-- A row of statements has grown beside the blocks. -/
theorem Mks.rows {N d l c : Nat} {A : Option Addr} {ns : List Nat} (h : Mks lo B m w0 bs w) (hA : StsAt w N d A l c ns) (hN : w0.heap.size ≤ N) (hbs : ∀ p ∈ bs, some p.1 ≠ blk A) (hg : w.grownBy w' (blk A)) : Mks lo B m w0 bs w' :=
 ⟨h.cx.other (blk A) 75 (fun g hg => (hA.place g hg).2.2) (by decide) hg.size (fun b hb hr => hg.block b hb hr) (fun g hg' => Nat.le_trans h.lo0 (Nat.le_trans hN (hA.place g hg').1)),
  ⟨hg.os.trans h.went.os, hg.tape.trans h.went.tape, hg.output.trans h.went.output, Nat.le_trans h.went.size hg.size, fun b hb hw => (hg.block b (Nat.lt_of_lt_of_le hw h.went.size) (fun e => by have := (hA.place b e.symm).1; omega)).trans (h.went.low b hb hw),
   fun b cur e fr hB h1 h2 hb => (hg.block b (Nat.lt_of_lt_of_le (Array.getElem?_eq_some_iff.1 hb).1 h.went.size) (fun e => by have := (hA.place b e.symm).1; have := (Array.getElem?_eq_some_iff.1 hb).1; omega)).trans (h.went.mid b cur e fr hB h1 h2 hb),
   fun b cur e fr h1 h2 h3 hb => (hg.block b (Nat.lt_of_lt_of_le (Array.getElem?_eq_some_iff.1 hb).1 h.went.size) (fun e => by have := (hA.place b e.symm).1; have := (Array.getElem?_eq_some_iff.1 hb).1; omega)).trans (h.went.typed b cur e fr h1 h2 h3 hb)⟩, h.lo0,
  fun p hp => ⟨(h.at_ p hp).1, (hg.block _ (Array.getElem?_eq_some_iff.1 (h.at_ p hp).2).1 (hbs p hp)).trans (h.at_ p hp).2⟩⟩
theorem Mks.drop (h : Mks lo B m w0 ((X, cs) :: bs) w) : Mks lo B m w0 bs w := ⟨h.cx, h.went, h.lo0, fun p hp => h.at_ p (List.mem_cons_of_mem _ hp)⟩
end
/-- A row of statements is kept where only blocks ahead of it are turned. -/
theorem StsAt.keptP {w w' : World} {N d l c : Nat} {A : Option Addr} {ns : List Nat} (h : StsAt w N d A l c ns) (hE : KeptE w w') (hS : ∀ b cur fr, N ≤ b → w.heap[b]? = some (.cells cur 75 fr) → w'.heap[b]? = some (.cells cur 75 fr)) : StsAt w' N d A l c ns := by
 obtain ⟨xs, ⟨h1, h2⟩, hl, hx⟩ := h
 refine ⟨xs, ⟨h1, ?_⟩, hl, fun k n hkn => ?_⟩
 ·rcases h2 with h2 | ⟨g, cap, cur, e, hb, hg, hr⟩
  ·exact .inl h2
  ·exact .inr ⟨g, cap, cur, e, hb, hS g cur _ hb hg, hr⟩
 ·obtain ⟨vs, hv, hc, hP⟩ := hx k n hkn
  exact ⟨vs, hv, hc, hP.keep hE (fun b cur fr hp hb => hS b cur fr hp.1 hb)⟩
theorem StsAt.setB {w w' : World} {N d l c X : Nat} {A : Option Addr} {ns : List Nat} {old cs : Array Value} (h : StsAt w N d A l c ns) (hX : w.heap[X]? = some (.cells old 75 (0, 0))) (hs : SetB X cs 75 w w') (hN : X < N) : StsAt w' N d A l c ns :=
 h.keptP (hs.keptE hX) (fun b cur fr hb hc => (hs.block b (by omega)).trans hc)
/-- A statement is stored whole where the region draws its order. -/
theorem wp_store_stmt {op : Oper} {a : Act} {w : World} {K : Act → World → Prop} {Q : Exit → Act → World → Prop} (x y : Operand) (ho : op.op = .store 75 x y)
  (N : Nat) (old cs : Array Value) (hx : a.eval x = .pointer (some ⟨N, 0, none⟩)) (hy : a.eval y = .agg cs) (hz : w.heap[N]? = some (.cells old 75 (0, 0))) (ho' : old.size = 13) (hcs : cs.size = 13) (h1 : ∀ v ∈ cs.toList, v.oneCell' = true)
  (h : ∀ U, SetB N cs 75 w U → K (a.put op.dst undef) U) : op.wp Tryd.prog a w K Q := by
 refine wp_store_mid _ x y ho N 0 cs hx hy (there_block hz (by omega)) (by rw [stmt_info, hcs]) (Array.all_eq_true_iff_forall_mem.2 (fun v hv => h1 v (by simpa using hv))) ?_
 exact h _ (by simpa using setB_cells (vs := cs.toList) hz (by rw [Array.length_toList]; omega))
/-- An expression over a name and a number, its row in a new block. -/
theorem pair_made {w : World} (op : Nat) (hop : op ≤ 17) (nm : ByteArray) (hnm : nm.size ≤ 20) (n : Nat) (hn : n < 1000000000000000000) :
  ExNew (w.alloc (.cells #[.int .i64 1, .int .i64 0, .int .i64 0, .string nm, .string ⟨#[]⟩, .slice none 0 0, .int .i64 0, .int .i64 n, .int .i64 0, .string ⟨#[]⟩, .string ⟨#[]⟩, .slice none 0 0] 72)) 0 4 (.agg #[.int .i64 op, .int .i64 (0 : Nat), .int .i64 0, .string ⟨#[]⟩, .string ⟨#[]⟩, .slice (some ⟨w.heap.size, 0, none⟩) 2 2]) 3 :=
 have h1 := exNew_leaf (w.alloc (.cells #[.int .i64 1, .int .i64 0, .int .i64 0, .string nm, .string ⟨#[]⟩, .slice none 0 0, .int .i64 0, .int .i64 n, .int .i64 0, .string ⟨#[]⟩, .string ⟨#[]⟩, .slice none 0 0] 72)) 0 1 0 0 nm ⟨#[]⟩ (by omega) (by omega) hnm (by decide)
 have h2 := exNew_leaf (w.alloc (.cells #[.int .i64 1, .int .i64 0, .int .i64 0, .string nm, .string ⟨#[]⟩, .slice none 0 0, .int .i64 0, .int .i64 n, .int .i64 0, .string ⟨#[]⟩, .string ⟨#[]⟩, .slice none 0 0] 72)) 0 0 n 0 ⟨#[]⟩ ⟨#[]⟩ (by omega) hn (by decide) (by decide)
 ⟨op, 0, 0, ⟨#[]⟩, ⟨#[]⟩, some ⟨w.heap.size, 0, none⟩, 2, 2, [1, 1], rfl, ⟨hop, fun _ => by decide, fun _ => by decide⟩, by decide, by decide, by decide, row_two (h1.le (d' := 3) (by omega)) (h2.le (d' := 3) (by omega)) Array.getElem?_push_size, fun _ => ⟨_, _, rfl, Nat.zero_le _⟩, rfl⟩
end Go.Proofs.YtchibamdkaejdaaDoor
namespace Go.Proofs.YtchibamdkaejdaaDoor
open Go.RowKit
variable {lo : Nat}

theorem StsAt.grownE {w w2 : World} {N d l c : Nat} {A : Option Addr} {ns : List Nat} (h : StsAt w N d A l c ns) (hg : w.grownBy w2 (blk A)) : KeptE w w2 := fun b cur fr hb => (hg.block b (Array.getElem?_eq_some_iff.1 hb).1 (fun e => by
 obtain ⟨_, _, cur', hc⟩ := h.place b e.symm
 rw [hb] at hc
 simp only [Option.some.injEq, Obj.cells.injEq] at hc
 exact absurd hc.2.1 (by decide))).trans hb
/-- One statement, whose cells lie in a block, is appended. -/
theorem wp_append_one {o : Oper} {a : Act} {w : World} {K : Act → World → Prop} {Q : Exit → Act → World → Prop} (s x : Operand)
  (ho : o.op = .call { callee := .builtin .append, args := #[s, x], argTypes := #[58, 58] })
  (N Y d l c c1 n : Nat) (A : Option Addr) (ns : List Nat) (cs : Array Value) (hs : a.eval s = .slice A l c) (hA : StsAt w N d A l c ns) (hx : a.eval x = .slice (some ⟨Y, 0, none⟩) 1 c1)
  (hY : w.heap[Y]? = some (.cells cs 75 (0, 0))) (hcs : cs.size = 13) (h1 : ∀ u ∈ cs.toList, u.oneCell' = true)
  (hst : StIn w (fun b => N ≤ b ∧ some b ≠ blk A) d (.agg cs) n) (hl : l + 1 ≤ 1000) (hN : N ≤ w.heap.size)
  (h : ∀ A' c' w2, w.grownBy w2 (blk A) → (blk A' = blk A ∧ blk A ≠ none ∨ blk A' = some w.heap.size) → StsAt w2 N d A' (l + 1) c' (ns ++ [n]) → K (a.put o.dst (.slice A' (l + 1) c')) w2) : o.wp Tryd.prog a w K Q := by
 refine wp_append_stmts s x ho N Y d l c c1 1 A ns [n] cs.toList hs hA hx (by rw [Array.length_toList, hcs]) (fun j u hu => ?_) h1 (by omega) hl hN rfl (fun k n' hk => ?_) h
 ·rw [cell_of_row w Y j _ _ _ hY, ← Array.getElem?_toList]; exact hu
 ·obtain ⟨rfl, rfl⟩ : k = 0 ∧ n' = n := by
   cases k with
   | zero => simp at hk; exact ⟨rfl, hk.symm⟩
   | succ k => simp at hk
  exact ⟨cs.toList, by rw [Array.length_toList, hcs], fun j _ => by rw [Nat.zero_mul, Nat.zero_add], hst⟩
/-- Two statements, whose cells lie in a block one behind the other, are appended. -/
theorem wp_append_two {o : Oper} {a : Act} {w : World} {K : Act → World → Prop} {Q : Exit → Act → World → Prop} (s x : Operand)
  (ho : o.op = .call { callee := .builtin .append, args := #[s, x], argTypes := #[58, 58] })
  (N Y d l c c1 n1 n2 : Nat) (A : Option Addr) (ns : List Nat) (cs cs1 cs2 : Array Value) (hs : a.eval s = .slice A l c) (hA : StsAt w N d A l c ns) (hx : a.eval x = .slice (some ⟨Y, 0, none⟩) 2 c1)
  (hY : w.heap[Y]? = some (.cells cs 75 (0, 0))) (hcc : cs.toList = cs1.toList ++ cs2.toList) (hcs1 : cs1.size = 13) (hcs2 : cs2.size = 13) (h1 : ∀ u ∈ cs1.toList, u.oneCell' = true) (h2 : ∀ u ∈ cs2.toList, u.oneCell' = true)
  (hst1 : StIn w (fun b => N ≤ b ∧ some b ≠ blk A) d (.agg cs1) n1) (hst2 : StIn w (fun b => N ≤ b ∧ some b ≠ blk A) d (.agg cs2) n2) (hl : l + 2 ≤ 1000) (hN : N ≤ w.heap.size)
  (h : ∀ A' c' w2, w.grownBy w2 (blk A) → (blk A' = blk A ∧ blk A ≠ none ∨ blk A' = some w.heap.size) → StsAt w2 N d A' (l + 2) c' (ns ++ [n1, n2]) → K (a.put o.dst (.slice A' (l + 2) c')) w2) : o.wp Tryd.prog a w K Q := by
 refine wp_append_stmts s x ho N Y d l c c1 2 A ns [n1, n2] (cs1.toList ++ cs2.toList) hs hA hx (by rw [List.length_append, Array.length_toList, Array.length_toList, hcs1, hcs2]) (fun j u hu => ?_) (fun u hu => ?_) (by omega) hl hN rfl (fun k n' hk => ?_) h
 ·rw [cell_of_row w Y j _ _ _ hY, ← Array.getElem?_toList, hcc]; exact hu
 ·rcases List.mem_append.1 hu with hu | hu
  ·exact h1 u hu
  ·exact h2 u hu
 ·have hk' : (k = 0 ∧ n' = n1) ∨ (k = 1 ∧ n' = n2) := by
   match k, hk with
   | 0, hk => simp at hk; exact .inl ⟨rfl, hk.symm⟩
   | 1, hk => simp at hk; exact .inr ⟨rfl, hk.symm⟩
   | k + 2, hk => simp at hk
  rcases hk' with ⟨rfl, rfl⟩ | ⟨rfl, rfl⟩
  ·exact ⟨cs1.toList, by rw [Array.length_toList, hcs1], fun j hj => by rw [Nat.zero_mul, Nat.zero_add, List.getElem?_append_left (by rw [Array.length_toList, hcs1]; exact hj)], hst1⟩
  ·exact ⟨cs2.toList, by rw [Array.length_toList, hcs2], fun j hj => by rw [List.getElem?_append_right (by rw [Array.length_toList, hcs1]; omega), Array.length_toList, hcs1, show 1 * 13 + j - 13 = j by omega], hst2⟩
/-- The cells of a declaration and of a loop behind it. -/
def loopCells (nm : ByteArray) (A2 : Option Addr) (l2 c2 : Nat) (A3 : Option Addr) (l3 c3 : Nat) : Array Value := #[.int .i64 1, .int .i64 0, .int .i64 0, .string nm, .string ⟨#[]⟩, .int .i64 0, .int .i64 0, .slice none 0 0, .string ⟨#[]⟩, .int .i64 0, .slice none 0 0, .slice none 0 0, .slice none 0 0, .int .i64 5, .int .i64 0, .int .i64 0, .string ⟨#[]⟩, .string ⟨#[]⟩, .int .i64 0, .int .i64 0, .slice none 0 0, .string ⟨#[]⟩, .int .i64 0, .slice A2 l2 c2, .slice A3 l3 c3, .slice none 0 0]
theorem loopCells_two (nm : ByteArray) (A2 : Option Addr) (l2 c2 : Nat) (A3 : Option Addr) (l3 c3 : Nat) : (loopCells nm A2 l2 c2 A3 l3 c3).toList = (declCells nm ⟨#[]⟩ 0).toList ++ (cmCells 5 ⟨#[]⟩ A2 l2 c2 A3 l3 c3 none 0 0).toList := rfl
/-- A loop has been made: a declaration and the loop, in a new row. -/
def LoopMade (lo B : Nat) (m : Mk) (w : World) (d : Nat) (e : Ending) (w' : World) : Prop :=
 ∃ (Y : Nat) (nm : ByteArray) (A2 A3 : Option Addr) (l2 c2 l3 c3 : Nat) (n2 n3 : List Nat) (m' : Mk), e = .returned (.slice (some ⟨Y, 0, none⟩) 2 2) ∧ w.heap.size ≤ Y ∧ nm.size ≤ 20 ∧ w'.heap[Y]? = some (.cells (loopCells nm A2 l2 c2 A3 l3 c3) 75 (0, 0)) ∧ ExRow w' A2 l2 c2 n2 ∧ n2.sum ≤ 4 ∧ StRow w' (fun b => w.heap.size ≤ b) d A3 l3 c3 n3 ∧ Kin m m' ∧ m'.left ≤ m.left ∧ m'.count + m'.left ≤ m.count + m.left + 1 ∧ (n3.sum : Int) ≤ 10 + 100 * (m.left - m'.left) ∧ Cx lo B m' w' ∧ Went lo B w w'
def LoopAt (nest d : Nat) : Prop := ∀ {lo : Nat} (B : Nat) (m : Mk) (w : World), Cx lo B m w → m.count + m.left ≤ 21 →
 Calls Tryd.prog 44 #[.pointer (some ⟨m.M, 0, none⟩), .int .i64 nest] w (LoopMade lo B m w d)
end Go.Proofs.YtchibamdkaejdaaDoor
namespace Go.Proofs.YtchibamdkaejdaaDoor
open Go.RowKit
variable {lo : Nat}

section
variable {B : Nat} {m : Mk} {w w0 w1 w' U : World} {bs : List (Nat × Array Value)} {N d l c X : Nat} {A : Option Addr} {ns : List Nat} {cs : Array Value} {e : TypeId}
theorem Cx.less (h : Cx lo B m w) (hl : 1 ≤ m.left) : Cx lo B { m with left := m.left - 1 } (w.setCell ⟨m.M, 8, none⟩ (.int .i64 (m.left - 1))) ∧ Went lo B w (w.setCell ⟨m.M, 8, none⟩ (.int .i64 (m.left - 1))) := by
 have a1 := setB_cell (o := 8) (.int .i64 (m.left - 1)) h.maker.block
 have hn := h.num
 have g := hn.sum
 exact h.turn (count := m.count) (left := m.left - 1) ⟨rfl, rfl, rfl, by rw [a1.size]; exact Nat.le_refl _, fun b _ hb => a1.block b hb⟩ ⟨a1.at_⟩ h.s h.q h.r h.sq h.sr h.qr
  ⟨hn.count0, by show (0 : Int) ≤ m.left - 1; omega, by show m.count + (m.left - 1) ≤ 22; omega, hn.s, hn.q, hn.r, hn.f0, hn.f1, hn.funcs⟩
theorem Mks.less (h : Mks lo B m w0 bs w) (hl : 1 ≤ m.left) : Mks lo B { m with left := m.left - 1 } w0 bs (w.setCell ⟨m.M, 8, none⟩ (.int .i64 (m.left - 1))) :=
 have g := h.cx.less hl
 h.turned g.1 g.2
theorem Cx.putS (h : Cx lo B m w) {S : Option Addr} {n k : Nat} (hS : NameOwn w B S n k) (sq : blk S ≠ blk m.Q) (sr : blk S ≠ blk m.R) (hn : n ≤ m.sl) : Cx lo B { m with S := S, sl := n, sc := k } (w.setCell ⟨m.M, 4, none⟩ (.slice S n k)) ∧ Went lo B w (w.setCell ⟨m.M, 4, none⟩ (.slice S n k)) := by
 have a1 := setB_cell (o := 4) (.slice S n k) h.maker.block
 have hn' := h.num
 have g := hn'.s
 exact h.turn (count := m.count) (left := m.left) (S := S) (sl := n) (sc := k) ⟨rfl, rfl, rfl, by rw [a1.size]; exact Nat.le_refl _, fun b _ hb => a1.block b hb⟩ ⟨a1.at_⟩ hS h.q h.r (.inr sq) (.inr sr) h.qr
  ⟨hn'.count0, hn'.left0, hn'.sum, by show (n : Int) ≤ 4 + m.count; omega, hn'.q, hn'.r, hn'.f0, hn'.f1, hn'.funcs⟩
theorem KeptX.trans' (h : KeptX w w1) (k : KeptX w1 w') : KeptX w w' := fun b cur e fr he hb => k b cur e fr he (h b cur e fr he hb)
theorem KeptX.setB (h : KeptX w w1) (hs : SetB X cs e w1 U) (hX : w.heap.size ≤ X) : KeptX w U := fun b cur e fr he hb => (hs.block b (by have := (Array.getElem?_eq_some_iff.1 hb).1; omega)).trans (h b cur e fr he hb)
theorem KeptX.id (w : World) : KeptX w w := fun _ _ _ _ _ h => h
theorem KeptX.alloc (h : KeptX w w1) (o : Obj) : KeptX w (w1.alloc o) := h.trans' (KeptX.below ((Below.refl _ _).alloc (Nat.le_refl _) o))
theorem KeptX.grewX (h : KeptX w w1) (hg : GrewX m.T X w1 w') (hc : Cx lo B m w1) (hX : w.heap.size ≤ X) : KeptX w w' := fun b cur e fr he hb => by
 have hlt := (Array.getElem?_eq_some_iff.1 hb).1
 have h1 := h b cur e fr he hb
 obtain ⟨pos, ht⟩ := hc.tape
 refine (hg.block b (Array.getElem?_eq_some_iff.1 h1).1 (fun ee => ?_) (by omega)).trans h1
 rw [ee, ht.block] at h1
 simp only [Option.some.injEq, Obj.cells.injEq] at h1
 rcases he with rfl | rfl <;> exact absurd h1.2.1 (by decide)
theorem Mks.keptX (h : Mks lo B m w0 bs w) (g : Grew m.T m.A m.len m.cap w w') : KeptX w w' := (h.cx.went g).keptX
theorem StsAt.beyond (h : StsAt w N d A l c ns) (hN : N ≤ w.heap.size) {b : Nat} (hb : w.heap.size ≤ b) : N ≤ b ∧ some b ≠ blk A := ⟨Nat.le_trans hN hb, fun e => by
 have := (h.place b e.symm).2.1
 omega⟩
theorem Kin.lets {m m' : Mk} (h : Kin m m') : m.M = m'.M ∧ m.T = m'.T ∧ m.f = m'.f ∧ m.funcs = m'.funcs ∧ m.P = m'.P ∧ m.pl = m'.pl ∧ m.pc = m'.pc ∧ m.A = m'.A ∧ m.len = m'.len ∧ m.cap = m'.cap := ⟨h.M.symm, h.T.symm, h.f.symm, h.funcs.symm, h.P.symm, h.pl.symm, h.pc.symm, h.A.symm, h.len.symm, h.cap.symm⟩
end
/-- Between two rounds: the statements so far. -/
def RelS (lo B : Nat) (m : Mk) (w : World) (d most : Nat) (v i : Value) (wr : World) : Prop :=
 ∃ (k l c : Nat) (A : Option Addr) (ns : List Nat) (m' : Mk), i = .int .i64 k ∧ k ≤ most ∧ v = .slice A l c ∧ l ≤ 2 * k ∧ StsAt wr w.heap.size d A l c ns ∧ Kin m m' ∧ m'.left ≤ m.left ∧ m'.count + m'.left ≤ m.count + m.left ∧ (ns.sum : Int) ≤ 100 * (m.left - m'.left) ∧ Mks lo B m' w [] wr
end Go.Proofs.YtchibamdkaejdaaDoor
namespace Go.Proofs.YtchibamdkaejdaaDoor
open Go.RowKit
variable {lo : Nat}

/-- The sub-programs of a program. -/
def cFst : Code → Code
 | .seq a _ => a
 | c => c
def cSnd : Code → Code
 | .seq _ b => b
 | c => c
def cIn : Code → Code
 | .block _ c => c
 | .loop c => c
 | c => c
/-- The switch of stmts. -/
noncomputable def swBlock : Code := cSnd (cSnd (cIn (cFst (cSnd (cIn (cIn (cSnd (cFst (cSnd (cSnd (Tryd.f26.body.getD .skip)))))))))))
set_option maxRecDepth 100000 in
/-- Behind the switch: statements more. -/
def SwEnd (lo B : Nat) (w : World) (M nest most k l d : Nat) (left0 count0 : Int) (m : Mk) (x3 x4 x5 x6 x258 : Value) (a : Act) (w' : World) : Prop :=
 ∃ (x9 x10 x11 x12 x13 x14 x15 x16 x17 x18 x19 x20 x21 x22 x23 x24 x25 x26 x27 x28 x29 x30 x31 x32 x33 x34 x35 x36 x37 x38 x39 x40 x41 x42 x43 x44 x45 x46 x47 x48 x49 x50 x51 x52 x53 x54 x55 x56 x57 x58 x59 x60 x61 x62 x63 x64 x65 x66 x67 x68 x69 x70 x71 x72 x73 x74 x75 x76 x77 x78 x79 x80 x81 x82 x83 x84 x85 x86 x87 x88 x89 x90 x91 x92 x93 x94 x95 x96 x97 x98 x99 x100 x101 x102 x103 x104 x105 x106 x107 x108 x109 x110 x111 x112 x113 x114 x115 x116 x117 x118 x119 x120 x121 x122 x123 x124 x125 x126 x127 x128 x129 x130 x131 x132 x133 x134 x135 x136 x137 x138 x139 x140 x141 x142 x143 x144 x145 x146 x147 x148 x149 x150 x151 x152 x153 x154 x155 x156 x157 x158 x159 x160 x161 x162 x163 x164 x165 x166 x167 x168 x169 x170 x171 x172 x173 x174 x175 x176 x177 x178 x179 x180 x181 x182 x183 x184 x185 x186 x187 x188 x189 x190 x191 x192 x193 x194 x195 x196 x197 x198 x199 x200 x201 x202 x203 x204 x205 x206 x207 x208 x209 x210 x211 x212 x213 x214 x215 x216 x217 x218 x219 x220 x221 x222 x223 x224 x225 x226 x227 x228 x229 x230 x231 x232 x233 x234 x235 x236 x237 x238 x239 x240 x241 x242 x243 x244 x245 x246 x247 x248 x249 x250 x251 x252 x253 x254 x255 x256 x257 : Value) (l3 c3 : Nat) (A3 : Option Addr) (ns : List Nat) (m' : Mk), a = ⟨#[.pointer (some ⟨M, 0, none⟩), .int .i64 nest, .int .i64 most, x3, x4, x5, x6, .slice A3 l3 c3, .int .i64 k, x9, x10, x11, x12, x13, x14, x15, x16, x17, x18, x19, x20, x21, x22, x23, x24, x25, x26, x27, x28, x29, x30, x31, x32, x33, x34, x35, x36, x37, x38, x39, x40, x41, x42, x43, x44, x45, x46, x47, x48, x49, x50, x51, x52, x53, x54, x55, x56, x57, x58, x59, x60, x61, x62, x63, x64, x65, x66, x67, x68, x69, x70, x71, x72, x73, x74, x75, x76, x77, x78, x79, x80, x81, x82, x83, x84, x85, x86, x87, x88, x89, x90, x91, x92, x93, x94, x95, x96, x97, x98, x99, x100, x101, x102, x103, x104, x105, x106, x107, x108, x109, x110, x111, x112, x113, x114, x115, x116, x117, x118, x119, x120, x121, x122, x123, x124, x125, x126, x127, x128, x129, x130, x131, x132, x133, x134, x135, x136, x137, x138, x139, x140, x141, x142, x143, x144, x145, x146, x147, x148, x149, x150, x151, x152, x153, x154, x155, x156, x157, x158, x159, x160, x161, x162, x163, x164, x165, x166, x167, x168, x169, x170, x171, x172, x173, x174, x175, x176, x177, x178, x179, x180, x181, x182, x183, x184, x185, x186, x187, x188, x189, x190, x191, x192, x193, x194, x195, x196, x197, x198, x199, x200, x201, x202, x203, x204, x205, x206, x207, x208, x209, x210, x211, x212, x213, x214, x215, x216, x217, x218, x219, x220, x221, x222, x223, x224, x225, x226, x227, x228, x229, x230, x231, x232, x233, x234, x235, x236, x237, x238, x239, x240, x241, x242, x243, x244, x245, x246, x247, x248, x249, x250, x251, x252, x253, x254, x255, x256, x257, x258], []⟩ ∧ l3 ≤ l + 2 ∧ StsAt w' w.heap.size (d + 1) A3 l3 c3 ns ∧ Kin m m' ∧ m'.left ≤ left0 ∧ m'.count + m'.left ≤ count0 + left0 ∧ (ns.sum : Int) ≤ 100 * (left0 - m'.left) ∧ Mks lo B m' w [] w'
end Go.Proofs.YtchibamdkaejdaaDoor
namespace Go.Proofs.YtchibamdkaejdaaDoor
open Go.RowKit
variable {lo : Nat}

set_option maxRecDepth 100000 in
set_option maxHeartbeats 0 in
theorem SwEnd.fn {B : Nat} {w : World} {M nest most k l d : Nat} {left0 count0 : Int} {m : Mk} {x3 x4 x5 x6 x258 : Value} {a : Act} {w' : World} (h : SwEnd lo B w M nest most k l d left0 count0 m x3 x4 x5 x6 x258 a w') :
  ∃ (x : Nat → Value) (l3 c3 : Nat) (A3 : Option Addr) (ns : List Nat) (m' : Mk), a = ⟨#[.pointer (some ⟨M, 0, none⟩), .int .i64 nest, .int .i64 most, x3, x4, x5, x6, .slice A3 l3 c3, .int .i64 k, x 9, x 10, x 11, x 12, x 13, x 14, x 15, x 16, x 17, x 18, x 19, x 20, x 21, x 22, x 23, x 24, x 25, x 26, x 27, x 28, x 29, x 30, x 31, x 32, x 33, x 34, x 35, x 36, x 37, x 38, x 39, x 40, x 41, x 42, x 43, x 44, x 45, x 46, x 47, x 48, x 49, x 50, x 51, x 52, x 53, x 54, x 55, x 56, x 57, x 58, x 59, x 60, x 61, x 62, x 63, x 64, x 65, x 66, x 67, x 68, x 69, x 70, x 71, x 72, x 73, x 74, x 75, x 76, x 77, x 78, x 79, x 80, x 81, x 82, x 83, x 84, x 85, x 86, x 87, x 88, x 89, x 90, x 91, x 92, x 93, x 94, x 95, x 96, x 97, x 98, x 99, x 100, x 101, x 102, x 103, x 104, x 105, x 106, x 107, x 108, x 109, x 110, x 111, x 112, x 113, x 114, x 115, x 116, x 117, x 118, x 119, x 120, x 121, x 122, x 123, x 124, x 125, x 126, x 127, x 128, x 129, x 130, x 131, x 132, x 133, x 134, x 135, x 136, x 137, x 138, x 139, x 140, x 141, x 142, x 143, x 144, x 145, x 146, x 147, x 148, x 149, x 150, x 151, x 152, x 153, x 154, x 155, x 156, x 157, x 158, x 159, x 160, x 161, x 162, x 163, x 164, x 165, x 166, x 167, x 168, x 169, x 170, x 171, x 172, x 173, x 174, x 175, x 176, x 177, x 178, x 179, x 180, x 181, x 182, x 183, x 184, x 185, x 186, x 187, x 188, x 189, x 190, x 191, x 192, x 193, x 194, x 195, x 196, x 197, x 198, x 199, x 200, x 201, x 202, x 203, x 204, x 205, x 206, x 207, x 208, x 209, x 210, x 211, x 212, x 213, x 214, x 215, x 216, x 217, x 218, x 219, x 220, x 221, x 222, x 223, x 224, x 225, x 226, x 227, x 228, x 229, x 230, x 231, x 232, x 233, x 234, x 235, x 236, x 237, x 238, x 239, x 240, x 241, x 242, x 243, x 244, x 245, x 246, x 247, x 248, x 249, x 250, x 251, x 252, x 253, x 254, x 255, x 256, x 257, x258], []⟩ ∧ l3 ≤ l + 2 ∧ StsAt w' w.heap.size (d + 1) A3 l3 c3 ns ∧ Kin m m' ∧ m'.left ≤ left0 ∧ m'.count + m'.left ≤ count0 + left0 ∧ (ns.sum : Int) ≤ 100 * (left0 - m'.left) ∧ Mks lo B m' w [] w' :=
 Exists.elim h fun x9 h => Exists.elim h fun x10 h => Exists.elim h fun x11 h => Exists.elim h fun x12 h => Exists.elim h fun x13 h => Exists.elim h fun x14 h => Exists.elim h fun x15 h => Exists.elim h fun x16 h => Exists.elim h fun x17 h => Exists.elim h fun x18 h => Exists.elim h fun x19 h => Exists.elim h fun x20 h => Exists.elim h fun x21 h => Exists.elim h fun x22 h => Exists.elim h fun x23 h => Exists.elim h fun x24 h => Exists.elim h fun x25 h => Exists.elim h fun x26 h => Exists.elim h fun x27 h => Exists.elim h fun x28 h => Exists.elim h fun x29 h => Exists.elim h fun x30 h => Exists.elim h fun x31 h => Exists.elim h fun x32 h => Exists.elim h fun x33 h => Exists.elim h fun x34 h => Exists.elim h fun x35 h => Exists.elim h fun x36 h => Exists.elim h fun x37 h => Exists.elim h fun x38 h => Exists.elim h fun x39 h => Exists.elim h fun x40 h => Exists.elim h fun x41 h => Exists.elim h fun x42 h => Exists.elim h fun x43 h => Exists.elim h fun x44 h => Exists.elim h fun x45 h => Exists.elim h fun x46 h => Exists.elim h fun x47 h => Exists.elim h fun x48 h => Exists.elim h fun x49 h => Exists.elim h fun x50 h => Exists.elim h fun x51 h => Exists.elim h fun x52 h => Exists.elim h fun x53 h => Exists.elim h fun x54 h => Exists.elim h fun x55 h => Exists.elim h fun x56 h => Exists.elim h fun x57 h => Exists.elim h fun x58 h => Exists.elim h fun x59 h => Exists.elim h fun x60 h => Exists.elim h fun x61 h => Exists.elim h fun x62 h => Exists.elim h fun x63 h => Exists.elim h fun x64 h => Exists.elim h fun x65 h => Exists.elim h fun x66 h => Exists.elim h fun x67 h => Exists.elim h fun x68 h => Exists.elim h fun x69 h => Exists.elim h fun x70 h => Exists.elim h fun x71 h => Exists.elim h fun x72 h => Exists.elim h fun x73 h => Exists.elim h fun x74 h => Exists.elim h fun x75 h => Exists.elim h fun x76 h => Exists.elim h fun x77 h => Exists.elim h fun x78 h => Exists.elim h fun x79 h => Exists.elim h fun x80 h => Exists.elim h fun x81 h => Exists.elim h fun x82 h => Exists.elim h fun x83 h => Exists.elim h fun x84 h => Exists.elim h fun x85 h => Exists.elim h fun x86 h => Exists.elim h fun x87 h => Exists.elim h fun x88 h => Exists.elim h fun x89 h => Exists.elim h fun x90 h => Exists.elim h fun x91 h => Exists.elim h fun x92 h => Exists.elim h fun x93 h => Exists.elim h fun x94 h => Exists.elim h fun x95 h => Exists.elim h fun x96 h => Exists.elim h fun x97 h => Exists.elim h fun x98 h => Exists.elim h fun x99 h => Exists.elim h fun x100 h => Exists.elim h fun x101 h => Exists.elim h fun x102 h => Exists.elim h fun x103 h => Exists.elim h fun x104 h => Exists.elim h fun x105 h => Exists.elim h fun x106 h => Exists.elim h fun x107 h => Exists.elim h fun x108 h => Exists.elim h fun x109 h => Exists.elim h fun x110 h => Exists.elim h fun x111 h => Exists.elim h fun x112 h => Exists.elim h fun x113 h => Exists.elim h fun x114 h => Exists.elim h fun x115 h => Exists.elim h fun x116 h => Exists.elim h fun x117 h => Exists.elim h fun x118 h => Exists.elim h fun x119 h => Exists.elim h fun x120 h => Exists.elim h fun x121 h => Exists.elim h fun x122 h => Exists.elim h fun x123 h => Exists.elim h fun x124 h => Exists.elim h fun x125 h => Exists.elim h fun x126 h => Exists.elim h fun x127 h => Exists.elim h fun x128 h => Exists.elim h fun x129 h => Exists.elim h fun x130 h => Exists.elim h fun x131 h => Exists.elim h fun x132 h => Exists.elim h fun x133 h => Exists.elim h fun x134 h => Exists.elim h fun x135 h => Exists.elim h fun x136 h => Exists.elim h fun x137 h => Exists.elim h fun x138 h => Exists.elim h fun x139 h => Exists.elim h fun x140 h => Exists.elim h fun x141 h => Exists.elim h fun x142 h => Exists.elim h fun x143 h => Exists.elim h fun x144 h => Exists.elim h fun x145 h => Exists.elim h fun x146 h => Exists.elim h fun x147 h => Exists.elim h fun x148 h => Exists.elim h fun x149 h => Exists.elim h fun x150 h => Exists.elim h fun x151 h => Exists.elim h fun x152 h => Exists.elim h fun x153 h => Exists.elim h fun x154 h => Exists.elim h fun x155 h => Exists.elim h fun x156 h => Exists.elim h fun x157 h => Exists.elim h fun x158 h => Exists.elim h fun x159 h => Exists.elim h fun x160 h => Exists.elim h fun x161 h => Exists.elim h fun x162 h => Exists.elim h fun x163 h => Exists.elim h fun x164 h => Exists.elim h fun x165 h => Exists.elim h fun x166 h => Exists.elim h fun x167 h => Exists.elim h fun x168 h => Exists.elim h fun x169 h => Exists.elim h fun x170 h => Exists.elim h fun x171 h => Exists.elim h fun x172 h => Exists.elim h fun x173 h => Exists.elim h fun x174 h => Exists.elim h fun x175 h => Exists.elim h fun x176 h => Exists.elim h fun x177 h => Exists.elim h fun x178 h => Exists.elim h fun x179 h => Exists.elim h fun x180 h => Exists.elim h fun x181 h => Exists.elim h fun x182 h => Exists.elim h fun x183 h => Exists.elim h fun x184 h => Exists.elim h fun x185 h => Exists.elim h fun x186 h => Exists.elim h fun x187 h => Exists.elim h fun x188 h => Exists.elim h fun x189 h => Exists.elim h fun x190 h => Exists.elim h fun x191 h => Exists.elim h fun x192 h => Exists.elim h fun x193 h => Exists.elim h fun x194 h => Exists.elim h fun x195 h => Exists.elim h fun x196 h => Exists.elim h fun x197 h => Exists.elim h fun x198 h => Exists.elim h fun x199 h => Exists.elim h fun x200 h => Exists.elim h fun x201 h => Exists.elim h fun x202 h => Exists.elim h fun x203 h => Exists.elim h fun x204 h => Exists.elim h fun x205 h => Exists.elim h fun x206 h => Exists.elim h fun x207 h => Exists.elim h fun x208 h => Exists.elim h fun x209 h => Exists.elim h fun x210 h => Exists.elim h fun x211 h => Exists.elim h fun x212 h => Exists.elim h fun x213 h => Exists.elim h fun x214 h => Exists.elim h fun x215 h => Exists.elim h fun x216 h => Exists.elim h fun x217 h => Exists.elim h fun x218 h => Exists.elim h fun x219 h => Exists.elim h fun x220 h => Exists.elim h fun x221 h => Exists.elim h fun x222 h => Exists.elim h fun x223 h => Exists.elim h fun x224 h => Exists.elim h fun x225 h => Exists.elim h fun x226 h => Exists.elim h fun x227 h => Exists.elim h fun x228 h => Exists.elim h fun x229 h => Exists.elim h fun x230 h => Exists.elim h fun x231 h => Exists.elim h fun x232 h => Exists.elim h fun x233 h => Exists.elim h fun x234 h => Exists.elim h fun x235 h => Exists.elim h fun x236 h => Exists.elim h fun x237 h => Exists.elim h fun x238 h => Exists.elim h fun x239 h => Exists.elim h fun x240 h => Exists.elim h fun x241 h => Exists.elim h fun x242 h => Exists.elim h fun x243 h => Exists.elim h fun x244 h => Exists.elim h fun x245 h => Exists.elim h fun x246 h => Exists.elim h fun x247 h => Exists.elim h fun x248 h => Exists.elim h fun x249 h => Exists.elim h fun x250 h => Exists.elim h fun x251 h => Exists.elim h fun x252 h => Exists.elim h fun x253 h => Exists.elim h fun x254 h => Exists.elim h fun x255 h => Exists.elim h fun x256 h => Exists.elim h fun x257 h => 
 Exists.elim h fun l3 h => Exists.elim h fun c3 h => Exists.elim h fun A3 h => Exists.elim h fun ns h => Exists.elim h fun m' h =>
 ⟨fun j => [x9, x10, x11, x12, x13, x14, x15, x16, x17, x18, x19, x20, x21, x22, x23, x24, x25, x26, x27, x28, x29, x30, x31, x32, x33, x34, x35, x36, x37, x38, x39, x40, x41, x42, x43, x44, x45, x46, x47, x48, x49, x50, x51, x52, x53, x54, x55, x56, x57, x58, x59, x60, x61, x62, x63, x64, x65, x66, x67, x68, x69, x70, x71, x72, x73, x74, x75, x76, x77, x78, x79, x80, x81, x82, x83, x84, x85, x86, x87, x88, x89, x90, x91, x92, x93, x94, x95, x96, x97, x98, x99, x100, x101, x102, x103, x104, x105, x106, x107, x108, x109, x110, x111, x112, x113, x114, x115, x116, x117, x118, x119, x120, x121, x122, x123, x124, x125, x126, x127, x128, x129, x130, x131, x132, x133, x134, x135, x136, x137, x138, x139, x140, x141, x142, x143, x144, x145, x146, x147, x148, x149, x150, x151, x152, x153, x154, x155, x156, x157, x158, x159, x160, x161, x162, x163, x164, x165, x166, x167, x168, x169, x170, x171, x172, x173, x174, x175, x176, x177, x178, x179, x180, x181, x182, x183, x184, x185, x186, x187, x188, x189, x190, x191, x192, x193, x194, x195, x196, x197, x198, x199, x200, x201, x202, x203, x204, x205, x206, x207, x208, x209, x210, x211, x212, x213, x214, x215, x216, x217, x218, x219, x220, x221, x222, x223, x224, x225, x226, x227, x228, x229, x230, x231, x232, x233, x234, x235, x236, x237, x238, x239, x240, x241, x242, x243, x244, x245, x246, x247, x248, x249, x250, x251, x252, x253, x254, x255, x256, x257].getD (j - 9) (.bool false), l3, c3, A3, ns, m', h⟩
end Go.Proofs.YtchibamdkaejdaaDoor
