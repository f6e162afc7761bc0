/-
  The generator's maker with rows of names of its own, and what its functions leave as it was. No condition. The generator's expr and element at any depth. Conditions: the maker, the tape, its rows of names. A statement's cells stored and loaded as one step; the maker renewed behind an append to one of its rows. Conditions: as they say. A name is appended to one of the maker's rows and the slice is stored back. No condition. The walk of the generator's declare. Conditions: the maker with rows of its own; few names have been made. Statements whose rows lie where a predicate says; what the generator's functions of statements make. No condition. Expressions whose rows lie where a predicate says; a row of expressions that grows by append. Conditions: as they say. Names sliced and appended to a new row as one step. Conditions: as they say. An empty expression is appended to a row of expressions, and its cells are written. Conditions: as they say.
-/
import Derived.Test.YtchibamdkaejdaaDoorZA
import Derived.Test.YtchibamdkaejdaaDoorZBa
import Derived.Test.YtchibamdkaejdaaDoorZSp
import Derived.Laws.OwnMore
namespace Go.Proofs.YtchibamdkaejdaaDoor
open Go.RowKit
variable {lo : Nat}

/-- Blocks below lo are as they were; blocks below B but tapes and makers; and all blocks but tapes, makers and rows of strings. -/
structure Went (lo B : Nat) (w w' : World) : Prop where
 os : w'.os = w.os
 tape : w'.tape = w.tape
 output : w'.output = w.output
 size : w.heap.size ≤ w'.heap.size
 low : ∀ b : Nat, b < lo → b < w.heap.size → w'.heap[b]? = w.heap[b]?
 mid : ∀ (b : Nat) (cur : Array Value) (e : TypeId) (fr : Nat × Nat), b < B → e ≠ 64 → e ≠ 68 → w.heap[b]? = some (.cells cur e fr) → w'.heap[b]? = some (.cells cur e fr)
 typed : ∀ (b : Nat) (cur : Array Value) (e : TypeId) (fr : Nat × Nat), e ≠ 64 → e ≠ 68 → e ≠ 9 → w.heap[b]? = some (.cells cur e fr) → w'.heap[b]? = some (.cells cur e fr)
section
variable {B : Nat} {w w' w'' : World}
theorem Went.refl (lo B : Nat) (w : World) : Went lo B w w := ⟨rfl, rfl, rfl, Nat.le_refl _, fun _ _ _ => rfl, fun _ _ _ _ _ _ _ h => h, fun _ _ _ _ _ _ _ h => h⟩
theorem Went.trans (h : Went lo B w w') (k : Went lo B w' w'') : Went lo B w w'' :=
 ⟨k.os.trans h.os, k.tape.trans h.tape, k.output.trans h.output, Nat.le_trans h.size k.size, fun b hb hw => (k.low b hb (Nat.lt_of_lt_of_le hw h.size)).trans (h.low b hb hw), fun b cur e fr hB h1 h2 hb => k.mid b cur e fr hB h1 h2 (h.mid b cur e fr hB h1 h2 hb), fun b cur e fr h1 h2 h3 hb => k.typed b cur e fr h1 h2 h3 (h.typed b cur e fr h1 h2 h3 hb)⟩
theorem Went.of_below (h : Below w.heap.size w w') : Went lo B w w' := ⟨h.os, h.tape, h.output, h.size, fun b _ hw => h.block b hw, fun b _ _ _ _ _ _ hb => (h.block b (Array.getElem?_eq_some_iff.1 hb).1).trans hb, fun b _ _ _ _ _ _ hb => (h.block b (Array.getElem?_eq_some_iff.1 hb).1).trans hb⟩
theorem Went.of_block {M : Nat} {cur0 : Array Value} {e0 : TypeId} {fr0 : Nat × Nat} (h1 : w'.os = w.os) (h2 : w'.tape = w.tape) (h3 : w'.output = w.output) (h4 : w.heap.size ≤ w'.heap.size) (hb : ∀ b, b < w.heap.size → b ≠ M → w'.heap[b]? = w.heap[b]?)
  (hM : w.heap[M]? = some (.cells cur0 e0 fr0)) (he : e0 = 64 ∨ e0 = 68 ∨ e0 = 9) (hBM : lo ≤ M ∧ (e0 = 9 → B ≤ M)) : Went lo B w w' :=
 ⟨h1, h2, h3, h4, fun b hB hw => hb b hw (by omega), fun b cur e fr hB g1 g2 h => by
  refine (hb b (Array.getElem?_eq_some_iff.1 h).1 (fun e => ?_)).trans h
  subst e
  rw [hM] at h
  simp only [Option.some.injEq, Obj.cells.injEq] at h
  rw [h.2.1] at he hBM
  rcases he with he | he | he
  ·exact g1 he
  ·exact g2 he
  ·have := hBM.2 he; omega, fun b cur e fr g1 g2 g3 h => by
  refine (hb b (Array.getElem?_eq_some_iff.1 h).1 (fun e => ?_)).trans h
  subst e
  rw [hM] at h
  simp only [Option.some.injEq, Obj.cells.injEq] at h
  rw [h.2.1] at he
  rcases he with he | he | he
  ·exact g1 he
  ·exact g2 he
  ·exact g3 he⟩
theorem Went.keptX (h : Went lo B w w') : KeptX w w' := fun b cur e fr he hb => by
 rcases he with rfl | rfl <;> exact h.typed b cur _ fr (by decide) (by decide) (by decide) hb
end
/-- The maker's numbers. -/
structure Nums (m : Mk) : Prop where
 count0 : 0 ≤ m.count
 left0 : 0 ≤ m.left
 sum : m.count + m.left ≤ 22
 s : (m.sl : Int) ≤ 4 + m.count
 q : (m.ql : Int) ≤ m.count
 r : (m.rl : Int) ≤ m.count
 f0 : 0 ≤ m.f
 f1 : m.f < m.funcs
 funcs : m.funcs ≤ 4
/-- The maker with rows of its own. -/
structure Cx (lo B : Nat) (m : Mk) (w : World) : Prop where
 maker : MakerAt w m.M m.T m.f m.funcs m.count m.left m.P m.S m.Q m.R m.pl m.pc m.sl m.sc m.ql m.qc m.rl m.rc
 tape : ∃ pos, TapeAt w m.T m.A m.len m.cap pos
 s : NameOwn w B m.S m.sl m.sc
 q : NameOwn w B m.Q m.ql m.qc
 r : NameOwn w B m.R m.rl m.rc
 sq : blk m.S = none ∨ blk m.S ≠ blk m.Q
 sr : blk m.S = none ∨ blk m.S ≠ blk m.R
 qr : blk m.Q = none ∨ blk m.Q ≠ blk m.R
 par : ∃ (b : Nat) (p0 p1 p2 p3 : Nat), m.P = some ⟨b, 0, none⟩ ∧ m.pl = 4 ∧ m.pc = 4 ∧ w.heap[b]? = some (.cells #[.int .i64 p0, .int .i64 p1, .int .i64 p2, .int .i64 p3] 3 (0, 0)) ∧ p0 ≤ 4 ∧ p1 ≤ 4 ∧ p2 ≤ 4 ∧ p3 ≤ 4
 bM : lo ≤ m.M
 bT : lo ≤ m.T
 bW : B ≤ w.heap.size
 loB : lo ≤ B
 num : Nums m
 row : ∃ (b o : Nat), m.len = 0 ∨ (m.A = some ⟨b, o, none⟩ ∧ b < lo)
section
variable {B : Nat} {m : Mk} {w w' : World}
theorem Cx.ctx (h : Cx lo B m w) : Ctx m w := by
 obtain ⟨pos, ht⟩ := h.tape
 have hn := h.num
 have h1 := hn.s
 have h2 := hn.q
 have h3 := hn.r
 have h4 := hn.sum
 have h5 := hn.left0
 exact ⟨h.maker, h.tape, h.s.row (by omega) ⟨_, _, ht.block⟩, h.q.row (by omega) ⟨_, _, ht.block⟩, h.r.row (by omega) ⟨_, _, ht.block⟩⟩
theorem Cx.lt (h : Cx lo B m w) : B ≤ w.heap.size := h.bW
/-- A row of strings is neither the tape nor the maker. -/
theorem Cx.apart (h : Cx lo B m w) {A : Option Addr} {l c : Nat} (hA : NameOwn w B A l c) {g : Nat} (hg : blk A = some g) : g ≠ m.T ∧ g ≠ m.M := by
 obtain ⟨_, _, cur, hc⟩ := hA.place g hg
 obtain ⟨pos, ht⟩ := h.tape
 constructor
 ·rintro rfl
  rw [ht.block] at hc
  simp only [Option.some.injEq, Obj.cells.injEq] at hc
  exact absurd hc.2.1 (by decide)
 ·rintro rfl
  rw [h.maker.block] at hc
  simp only [Option.some.injEq, Obj.cells.injEq] at hc
  exact absurd hc.2.1 (by decide)
theorem Cx.grew (h : Cx lo B m w) (g : Grew m.T m.A m.len m.cap w w') : Cx lo B m w' := by
 obtain ⟨pos, ht⟩ := h.tape
 have hne := h.ctx.ne
 have hs : ∀ {A : Option Addr} {l c : Nat}, NameOwn w B A l c → NameOwn w' B A l c := fun hA => hA.kept (fun x hx => g.block x (hA.place x hx).2.1 (h.apart hA hx).1)
 have hint : ∀ {b : Nat} {cur : Array Value}, w.heap[b]? = some (.cells cur 3 (0, 0)) → w'.heap[b]? = some (.cells cur 3 (0, 0)) := fun {b cur} hb => by
  refine (g.block b (Array.getElem?_eq_some_iff.1 hb).1 (fun e => ?_)).trans hb
  rw [e, ht.block] at hb
  simp only [Option.some.injEq, Obj.cells.injEq] at hb
  exact absurd hb.2.1 (by decide)
 refine ⟨⟨(g.block _ h.maker.lt hne).trans h.maker.block⟩, g.tapeAt ht, hs h.s, hs h.q, hs h.r, h.sq, h.sr, h.qr, ?_, h.bM, h.bT, Nat.le_trans h.bW g.size, h.loB, h.num, ?_⟩
 ·obtain ⟨b, p0, p1, p2, p3, e1, e2, e3, hb, hp⟩ := h.par
  exact ⟨b, p0, p1, p2, p3, e1, e2, e3, hint hb, hp⟩
 ·exact h.row
theorem Cx.went (h : Cx lo B m w) (g : Grew m.T m.A m.len m.cap w w') : Went lo B w w' := by
 obtain ⟨pos, ht⟩ := h.tape
 exact Went.of_block g.os g.tape g.output g.size g.block ht.block (.inl rfl) ⟨h.bT, fun e => absurd e (by decide)⟩
theorem Cx.below (h : Cx lo B m w) (g : Below w.heap.size w w') : Cx lo B m w' := h.grew (h.ctx.below g)
/-- The maker alone is turned. -/
theorem Cx.turn (h : Cx lo B m w) {count left : Int} {S Q R : Option Addr} {sl sc ql qc rl rc : Nat} (g : Beside m.M w w')
  (hm : MakerAt w' m.M m.T m.f m.funcs count left m.P S Q R m.pl m.pc sl sc ql qc rl rc)
  (hs : NameOwn w B S sl sc) (hq : NameOwn w B Q ql qc) (hr : NameOwn w B R rl rc) (sq : blk S = none ∨ blk S ≠ blk Q) (sr : blk S = none ∨ blk S ≠ blk R) (qr : blk Q = none ∨ blk Q ≠ blk R)
  (hn : Nums { m with count := count, left := left, S := S, Q := Q, R := R, sl := sl, sc := sc, ql := ql, qc := qc, rl := rl, rc := rc }) :
  Cx lo B { m with count := count, left := left, S := S, Q := Q, R := R, sl := sl, sc := sc, ql := ql, qc := qc, rl := rl, rc := rc } w' ∧ Went lo B w w' := by
 obtain ⟨pos, ht⟩ := h.tape
 have hne := h.ctx.ne
 have hk : ∀ {A : Option Addr} {l c : Nat}, NameOwn w B A l c → NameOwn w' B A l c := fun hA => hA.kept (fun x hx => g.block x (hA.place x hx).2.1 (h.apart hA hx).2)
 have hW : Went lo B w w' := Went.of_block g.os g.tape g.output g.size g.block h.maker.block (.inr (.inl rfl)) ⟨h.bM, fun e => absurd e (by decide)⟩
 have hint : ∀ {b : Nat} {cur : Array Value}, w.heap[b]? = some (.cells cur 3 (0, 0)) → w'.heap[b]? = some (.cells cur 3 (0, 0)) := fun {b cur} hb => hW.typed b cur _ _ (by decide) (by decide) (by decide) hb
 have hT : w'.heap[m.T]? = w.heap[m.T]? := g.block _ ht.lt (fun e => hne e.symm)
 refine ⟨⟨hm, ⟨pos, ⟨hT.trans ht.block, ht.len_le, ht.cap_le, fun i hi => ?_⟩⟩, hk hs, hk hq, hk hr, sq, sr, qr, ?_, h.bM, h.bT, Nat.le_trans h.bW g.size, h.loB, hn, ?_⟩, hW⟩
 ·obtain ⟨b, o, hr'⟩ := h.row
  obtain ⟨b', o', x, e1, h2, h3, h4, h5, h6⟩ := ht.row i hi
  refine ⟨b', o', x, e1, Nat.lt_of_lt_of_le h2 g.size, h3, h4, h5, ?_⟩
  rcases hr' with hr' | ⟨e, hr'⟩
  ·exact absurd hi (by rw [hr']; omega)
  ·rw [e1] at e
   injection e with e
   injection e with e
   subst e
   rw [← h6]
   exact World.cell?_of_block (w := w) (g.block _ h2 (fun ee => by have := h.bM; dsimp only at ee; omega))
 ·obtain ⟨b, p0, p1, p2, p3, e1, e2, e3, hb, hp⟩ := h.par
  exact ⟨b, p0, p1, p2, p3, e1, e2, e3, hint hb, hp⟩
 ·exact h.row
end
end Go.Proofs.YtchibamdkaejdaaDoor
namespace Go.Proofs.YtchibamdkaejdaaDoor
open Go.RowKit

theorem expr_all : ∀ k, ExprAt k
 | 0 => expr_zero
 | k + 1 => expr_step k (expr_all k)
theorem pow_le {k : Nat} (hk : k ≤ 3) : 2 ^ (k + 1) ≤ 16 := by
 have h : k = 0 ∨ k = 1 ∨ k = 2 ∨ k = 3 := by omega
 rcases h with rfl | rfl | rfl | rfl <;> decide
theorem expr_any (m : Mk) (w : World) (deep : Nat) (hd : deep ≤ 3) (h : Ctx m w) :
  Calls Tryd.prog 42 #[.pointer (some ⟨m.M, 0, none⟩), .int .i64 deep] w fun e w' => ∃ v n, e = .returned v ∧ ExNew w' w.heap.size 4 v n ∧ n ≤ 15 ∧ Grew m.T m.A m.len m.cap w w' := by
 refine (expr_all (3 - deep) m w deep (by omega) h).mono ?_
 rintro e w' ⟨v, n, he, hx, hn, hg⟩
 have := pow_le (k := 3 - deep) (by omega)
 exact ⟨v, n, he, hx.le (by omega), by omega, hg⟩
theorem element_one (m : Mk) (w : World) (h : Ctx m w) (hrl : m.rl ≠ 0) :
  Calls Tryd.prog 56 #[.pointer (some ⟨m.M, 0, none⟩), .int .i64 1] w fun e w' => ∃ v n, e = .returned v ∧ ExNew w' w.heap.size 4 v n ∧ n ≤ 15 ∧ Grew m.T m.A m.len m.cap w w' := by
 refine (element_any 2 (expr_all 2) m w 1 rfl h hrl).mono ?_
 rintro e w' ⟨v, n, he, hx, hn, hg⟩
 exact ⟨v, n, he, hx, by omega, hg⟩
end Go.Proofs.YtchibamdkaejdaaDoor
namespace Go.Proofs.YtchibamdkaejdaaDoor
open Go.RowKit
variable {lo : Nat}

/-- The cells vs written into an array from o on. -/
def putAt (cur : Array Value) : Nat → List Value → Array Value
 | _, [] => cur
 | o, v :: r => putAt (cur.setIfInBounds o v) (o + 1) r
theorem putAt_get : ∀ (vs : List Value) (cur : Array Value) (o j : Nat), o + vs.length ≤ cur.size → (putAt cur o vs)[j]? = if j < o then cur[j]? else if j < o + vs.length then vs[j - o]? else cur[j]?
 | [], cur, o, j, h => by
  unfold putAt
  split
  ·rfl
  ·rw [if_neg (by simp; omega)]
 | v :: r, cur, o, j, h => by
  simp only [List.length_cons] at h
  unfold putAt
  rw [putAt_get r (cur.setIfInBounds o v) (o + 1) j (by rw [Array.size_setIfInBounds]; omega)]
  have hc : (cur.setIfInBounds o v)[j]? = if j = o then some v else cur[j]? := by
   rw [Array.getElem?_setIfInBounds]
   by_cases hjo : j = o
   ·subst hjo
    rw [if_pos rfl, if_pos (by omega), if_pos rfl]
   ·rw [if_neg (fun e => hjo e.symm), if_neg hjo]
  rw [hc]
  simp only [List.length_cons]
  by_cases h1 : j < o
  ·rw [if_pos (by omega), if_neg (by omega), if_pos h1]
  ·rw [if_neg h1]
   by_cases h2 : j = o
   ·subst h2
    rw [if_pos (by omega), if_pos rfl, if_pos (by omega)]
    simp
   ·rw [if_neg (by omega), if_neg h2]
    by_cases h3 : j < o + (r.length + 1)
    ·rw [if_pos (by omega), if_pos h3]
     obtain ⟨k, hk⟩ : ∃ k, j - o = k + 1 := ⟨j - o - 1, by omega⟩
     rw [hk, show j - (o + 1) = k by omega]
     rfl
    ·rw [if_neg (by omega), if_neg h3]
theorem putAt_all (cur : Array Value) (vs : List Value) (h : vs.length = cur.size) : putAt cur 0 vs = vs.toArray := by
 apply Array.ext_getElem?
 intro j
 rw [putAt_get vs cur 0 j (by omega), if_neg (by omega)]
 simp only [Nat.zero_add, Nat.sub_zero, List.getElem?_toArray]
 split
 ·rfl
 ·rw [Array.getElem?_eq_none (by omega), List.getElem?_eq_none (by omega)]
theorem heap_setCells (b : Nat) : ∀ (vs : List Value) (o : Nat) (w : World) (cur : Array Value) (e : TypeId), w.heap[b]? = some (.cells cur e (0, 0)) → (w.setCells b o vs).heap[b]? = some (.cells (putAt cur o vs) e (0, 0))
 | [], _, _, _, _, h => h
 | v :: r, o, w, _, e, h => heap_setCells b r (o + 1) _ _ e (heap_setCell_same w b o _ _ v h)
theorem heap_setCells_other (b x : Nat) (hx : x ≠ b) : ∀ (vs : List Value) (o : Nat) (w : World), (w.setCells b o vs).heap[x]? = w.heap[x]?
 | [], _, _ => rfl
 | v :: r, o, w => (heap_setCells_other b x hx r (o + 1) _).trans (heap_setCell_other w ⟨b, o, none⟩ x v hx)
/-- The block N holds other cells, and nothing else is turned. -/
structure SetB (N : Nat) (cs : Array Value) (e : TypeId) (w U : World) : Prop where
 os : U.os = w.os
 tape : U.tape = w.tape
 output : U.output = w.output
 size : U.heap.size = w.heap.size
 at_ : U.heap[N]? = some (.cells cs e (0, 0))
 block : ∀ b, b ≠ N → U.heap[b]? = w.heap[b]?
theorem setCells_same (b : Nat) : ∀ (vs : List Value) (o : Nat) (w : World), (w.setCells b o vs).os = w.os ∧ (w.setCells b o vs).tape = w.tape ∧ (w.setCells b o vs).output = w.output ∧ (w.setCells b o vs).heap.size = w.heap.size
 | [], _, _ => ⟨rfl, rfl, rfl, rfl⟩
 | v :: r, o, w => by
  obtain ⟨h1, h2, h3, h4⟩ := setCells_same b r (o + 1) (w.setCell ⟨b, o, none⟩ v)
  exact ⟨h1, h2, h3, h4.trans (by simp [World.setCell])⟩
theorem setB_cells {w : World} {N : Nat} {old : Array Value} {e : TypeId} {vs : List Value} (h : w.heap[N]? = some (.cells old e (0, 0))) (hl : vs.length = old.size) : SetB N vs.toArray e w (w.setCells N 0 vs) := by
 obtain ⟨h1, h2, h3, h4⟩ := setCells_same N vs 0 w
 exact ⟨h1, h2, h3, h4, by rw [heap_setCells N vs 0 w old e h, putAt_all _ _ hl], fun b hb => heap_setCells_other N b hb vs 0 w⟩
theorem setB_cell {w : World} {N o : Nat} {old : Array Value} {e : TypeId} (v : Value) (h : w.heap[N]? = some (.cells old e (0, 0))) : SetB N (old.setIfInBounds o v) e w (w.setCell ⟨N, o, none⟩ v) :=
 ⟨rfl, rfl, rfl, by simp [World.setCell], heap_setCell_same w N o old _ v h, fun b hb => heap_setCell_other w ⟨N, o, none⟩ b v hb⟩
theorem SetB.keptX {w U : World} {N : Nat} {cs : Array Value} {e : TypeId} (h : SetB N cs e w U) {B : Nat} (hB : N < B) : KeptFrom B w U := fun b cur e fr hb _ hx => (h.block b (by omega)).trans hx
theorem there_block {w : World} {N : Nat} {old : Array Value} {e : TypeId} {n : Nat} (h : w.heap[N]? = some (.cells old e (0, 0))) (hn : n ≤ old.size) : w.there N 0 n := fun j hj => by
 constructor
 ·rw [Nat.zero_add, cell_of_row w N j old e _ h, Array.getElem?_eq_getElem (by omega)]; rfl
 ·rw [Nat.zero_add, World.frozen?]; simp only [h]; simp
theorem range_block {w : World} {N : Nat} {cs : Array Value} {e : TypeId} (h : w.heap[N]? = some (.cells cs e (0, 0))) : w.rangeAt N 0 cs.toList := fun j v hv => by
 rw [Nat.zero_add, cell_of_row w N j cs e _ h, ← Array.getElem?_toList]; exact hv
theorem stmt_info : (Tryd.prog.info? 75).map (·.size) = some 13 := by kernel_rfl
/-- A statement is stored whole. -/
theorem store_stmt {ops : Array Oper} {rest : List Oper} {op : Oper} {a : Act} {w : World} {Q : Exit → Act → World → Prop} (hgd : op.guard = none) (hds : op.dst = none) (x y : Operand) (ho : op.op = .store 75 x y)
  (N : Nat) (old cs : Array Value) (hx : a.eval x = .pointer (some ⟨N, 0, none⟩)) (hy : a.eval y = .agg cs) (hz : w.heap[N]? = some (.cells old 75 (0, 0))) (ho' : old.size = 13) (hcs : cs.size = 13) (h1 : ∀ v ∈ cs.toList, v.oneCell' = true)
  (h : ∀ U, SetB N cs 75 w U → wpList Tryd.prog ops Q rest a U) : wpList Tryd.prog ops Q (op :: rest) a w := by
 refine wpList_store_mid hgd _ x y ho N 0 cs hx hy (there_block hz (by omega)) (by rw [stmt_info, hcs]) (Array.all_eq_true_iff_forall_mem.2 (fun v hv => h1 v (by simpa using hv))) ?_
 rw [hds]
 exact h _ (by simpa using setB_cells (vs := cs.toList) hz (by rw [Array.length_toList]; omega))
/-- A statement is loaded whole. -/
theorem load_stmt {ops : Array Oper} {rest : List Oper} {op : Oper} {a : Act} {w : World} {Q : Exit → Act → World → Prop} (hgd : op.guard = none) (x : Operand) (ho : op.op = .load 75 x)
  (N : Nat) (cs : Array Value) (hx : a.eval x = .pointer (some ⟨N, 0, none⟩)) (hz : w.heap[N]? = some (.cells cs 75 (0, 0))) (hcs : cs.size = 13)
  (h : wpList Tryd.prog ops Q rest (a.put op.dst (.agg cs)) w) : wpList Tryd.prog ops Q (op :: rest) a w := by
 refine wpList_load_mid hgd _ x ho N 0 hx cs.toList _ (range_block hz) Tryd.underlying75 rfl (by rw [stmt_info, Array.length_toList, hcs]) ?_
 exact h
theorem ret_stmt {w : World} {N : Nat} {cs : Array Value} (hz : w.heap[N]? = some (.cells cs 75 (0, 0))) (hcs : cs.size = 13) : (loadVar 75 ⟨N, 0, none⟩).run Tryd.prog w = .ok (.agg cs) w := by
 have := run_loadVar_mid (P := Tryd.prog) w N 0 75 cs.toList _ (range_block hz) Tryd.underlying75 rfl (by rw [stmt_info, Array.length_toList, hcs])
 simpa using this

theorem Went.of_blocks {B : Nat} {w w' : World} (C : Nat → Prop) (h1 : w'.os = w.os) (h2 : w'.tape = w.tape) (h3 : w'.output = w.output) (h4 : w.heap.size ≤ w'.heap.size) (hb : ∀ b, b < w.heap.size → ¬ C b → w'.heap[b]? = w.heap[b]?)
  (hC : ∀ b, C b → lo ≤ b ∧ ∃ cur e fr, w.heap[b]? = some (.cells cur e fr) ∧ (e = 64 ∨ e = 68 ∨ (e = 9 ∧ B ≤ b))) : Went lo B w w' :=
 ⟨h1, h2, h3, h4, fun b hB hw => hb b hw (fun c => by have := (hC b c).1; omega), fun b cur e fr hB g1 g2 h => by
  refine (hb b (Array.getElem?_eq_some_iff.1 h).1 (fun c => ?_)).trans h
  obtain ⟨_, cur', e', fr', hc, he⟩ := hC b c
  rw [h] at hc
  simp only [Option.some.injEq, Obj.cells.injEq] at hc
  rw [← hc.2.1] at he
  rcases he with he | he | he
  ·exact g1 he
  ·exact g2 he
  ·omega, fun b cur e fr g1 g2 g3 h => by
  refine (hb b (Array.getElem?_eq_some_iff.1 h).1 (fun c => ?_)).trans h
  obtain ⟨_, cur', e', fr', hc, he⟩ := hC b c
  rw [h] at hc
  simp only [Option.some.injEq, Obj.cells.injEq] at hc
  rw [← hc.2.1] at he
  rcases he with he | he | he
  ·exact g1 he
  ·exact g2 he
  ·exact g3 he.1⟩
/-- One of the maker's rows has grown, and the maker's slice of it is turned. -/
theorem Cx.renew {B : Nat} {m : Mk} {w w' : World} (h : Cx lo B m w) (row : Option Nat) (hrow : row = blk m.S ∨ row = blk m.Q ∨ row = blk m.R) (h1 : w'.os = w.os) (h2 : w'.tape = w.tape) (h3 : w'.output = w.output) (h4 : w.heap.size ≤ w'.heap.size)
  (g : ∀ b, b < w.heap.size → b ≠ m.M → some b ≠ row → w'.heap[b]? = w.heap[b]?) {count left : Int} {S Q R : Option Addr} {sl sc ql qc rl rc : Nat}
  (hm : MakerAt w' m.M m.T m.f m.funcs count left m.P S Q R m.pl m.pc sl sc ql qc rl rc)
  (hs : NameOwn w' B S sl sc) (hq : NameOwn w' B Q ql qc) (hr : NameOwn w' B R rl rc) (sq : blk S = none ∨ blk S ≠ blk Q) (sr : blk S = none ∨ blk S ≠ blk R) (qr : blk Q = none ∨ blk Q ≠ blk R)
  (hn : Nums { m with count := count, left := left, S := S, Q := Q, R := R, sl := sl, sc := sc, ql := ql, qc := qc, rl := rl, rc := rc }) :
  Cx lo B { m with count := count, left := left, S := S, Q := Q, R := R, sl := sl, sc := sc, ql := ql, qc := qc, rl := rl, rc := rc } w' ∧ Went lo B w w' := by
 obtain ⟨pos, ht⟩ := h.tape
 have hne := h.ctx.ne
 have hrow' : ∀ b, row = some b → B ≤ b ∧ b ≠ m.T ∧ ∃ cur, w.heap[b]? = some (.cells cur 9 (0, 0)) := fun b hb => by
  rcases hrow with e | e | e
  ·have hg : blk m.S = some b := e.symm.trans hb
   obtain ⟨x, _, y⟩ := h.s.place b hg
   exact ⟨x, (h.apart h.s hg).1, y⟩
  ·have hg : blk m.Q = some b := e.symm.trans hb
   obtain ⟨x, _, y⟩ := h.q.place b hg
   exact ⟨x, (h.apart h.q hg).1, y⟩
  ·have hg : blk m.R = some b := e.symm.trans hb
   obtain ⟨x, _, y⟩ := h.r.place b hg
   exact ⟨x, (h.apart h.r hg).1, y⟩
 have hW : Went lo B w w' := Went.of_blocks (fun b => b = m.M ∨ row = some b) h1 h2 h3 h4 (fun b hb hc => g b hb (fun e => hc (.inl e)) (fun e => hc (.inr e.symm))) (fun b hc => by
  rcases hc with rfl | hc
  ·exact ⟨h.bM, _, _, _, h.maker.block, .inr (.inl rfl)⟩
  ·obtain ⟨x, _, cur, y⟩ := hrow' b hc
   exact ⟨Nat.le_trans h.loB x, _, _, _, y, .inr (.inr ⟨rfl, x⟩)⟩)
 have hint : ∀ {b : Nat} {cur : Array Value}, w.heap[b]? = some (.cells cur 3 (0, 0)) → w'.heap[b]? = some (.cells cur 3 (0, 0)) := fun {b cur} hb => hW.typed b cur _ _ (by decide) (by decide) (by decide) hb
 have hT : w'.heap[m.T]? = w.heap[m.T]? := g _ ht.lt (fun e => hne e.symm) (fun e => (hrow' _ e.symm).2.1 rfl)
 refine ⟨⟨hm, ⟨pos, ⟨hT.trans ht.block, ht.len_le, ht.cap_le, fun i hi => ?_⟩⟩, hs, hq, hr, sq, sr, qr, ?_, h.bM, h.bT, Nat.le_trans h.bW h4, h.loB, hn, ?_⟩, hW⟩
 ·obtain ⟨b, o, hr'⟩ := h.row
  obtain ⟨b', o', x, e1, g2, g3, g4, g5, g6⟩ := ht.row i hi
  refine ⟨b', o', x, e1, Nat.lt_of_lt_of_le g2 h4, g3, g4, g5, ?_⟩
  rcases hr' with hr' | ⟨e, hr'⟩
  ·exact absurd hi (by rw [hr']; omega)
  ·rw [e1] at e
   injection e with e
   injection e with e
   subst e
   rw [← g6]
   exact World.cell?_of_block (w := w) (g _ g2 (fun ee => by have := h.bM; (try dsimp only at *); omega) (fun ee => by have := (hrow' _ ee.symm).1; have := h.loB; (try dsimp only at *); omega))
 ·obtain ⟨b, p0, p1, p2, p3, e1, e2, e3, hb, hp⟩ := h.par
  exact ⟨b, p0, p1, p2, p3, e1, e2, e3, hint hb, hp⟩
 ·exact h.row
/-- A block of another type is turned: the maker is as it was. -/
theorem Cx.set {B : Nat} {m : Mk} {w U : World} {X : Nat} {old cs : Array Value} {e : TypeId} (h : Cx lo B m w) (hX : w.heap[X]? = some (.cells old e (0, 0))) (he : e ≠ 64 ∧ e ≠ 68 ∧ e ≠ 9 ∧ e ≠ 3) (hs : SetB X cs e w U) (hlo : lo ≤ X) : Cx lo B m U := by
 obtain ⟨pos, ht⟩ := h.tape
 have hne : ∀ {b : Nat} {cur : Array Value} {e' : TypeId} {fr : Nat × Nat}, w.heap[b]? = some (.cells cur e' fr) → e ≠ e' → U.heap[b]? = some (.cells cur e' fr) := fun {b cur e' fr} hb hee => by
  refine (hs.block b (fun x => hee ?_)).trans hb
  subst x
  rw [hX] at hb
  simp only [Option.some.injEq, Obj.cells.injEq] at hb
  exact hb.2.1
 have hk : ∀ {A : Option Addr} {l c : Nat}, NameOwn w B A l c → NameOwn U B A l c := fun hA => hA.kept (fun x hx => by
  obtain ⟨_, _, cur, hc⟩ := hA.place x hx
  exact (hne hc he.2.2.1).trans hc.symm)
 refine ⟨⟨hne h.maker.block he.2.1⟩, ⟨pos, ⟨hne ht.block he.1, ht.len_le, ht.cap_le, fun i hi => ?_⟩⟩, hk h.s, hk h.q, hk h.r, h.sq, h.sr, h.qr, ?_, h.bM, h.bT, by rw [hs.size]; exact h.bW, h.loB, h.num, ?_⟩
 ·obtain ⟨b, o, hr'⟩ := h.row
  obtain ⟨b', o', x, e1, g2, g3, g4, g5, g6⟩ := ht.row i hi
  refine ⟨b', o', x, e1, by rw [hs.size]; exact g2, g3, g4, g5, ?_⟩
  rcases hr' with hr' | ⟨e2, hr'⟩
  ·exact absurd hi (by rw [hr']; omega)
  ·rw [e1] at e2
   injection e2 with e2
   injection e2 with e2
   subst e2
   rw [← g6]
   exact World.cell?_of_block (w := w) (hs.block _ (by (try dsimp only); omega))
 ·obtain ⟨b, p0, p1, p2, p3, e1, e2, e3, hb, hp⟩ := h.par
  exact ⟨b, p0, p1, p2, p3, e1, e2, e3, hne hb he.2.2.2, hp⟩
 ·exact h.row
theorem Went.set {B : Nat} {w w' U : World} {X : Nat} {cs : Array Value} {e : TypeId} (h : Went lo B w w') (hs : SetB X cs e w' U) (hX : w.heap.size ≤ X) : Went lo B w U :=
 ⟨hs.os.trans h.os, hs.tape.trans h.tape, hs.output.trans h.output, by rw [hs.size]; exact h.size, fun b hb hw => (hs.block b (by omega)).trans (h.low b hb hw), fun b cur e' fr hB h1 h2 hb => (hs.block b (by have := (Array.getElem?_eq_some_iff.1 hb).1; omega)).trans (h.mid b cur e' fr hB h1 h2 hb), fun b cur e' fr h1 h2 h3 hb => (hs.block b (by have := (Array.getElem?_eq_some_iff.1 hb).1; omega)).trans (h.typed b cur e' fr h1 h2 h3 hb)⟩
end Go.Proofs.YtchibamdkaejdaaDoor
namespace Go.Proofs.YtchibamdkaejdaaDoor
open Go.RowKit
variable {lo : Nat}

theorem blk_new {w : World} {A A' : Option Addr} {x : Option Nat} (hx : ∀ g, x = some g → g < w.heap.size) (hd : blk A = none ∨ blk A ≠ x) (hp : blk A' = blk A ∧ blk A ≠ none ∨ blk A' = some w.heap.size) : blk A' ≠ x := by
 rcases hp with ⟨e, hn⟩ | e
 ·rw [e]
  exact hd.resolve_left hn
 ·rw [e]
  cases x with
  | none => simp
  | some g =>
   have := hx g rfl
   exact fun e => by injection e; omega
theorem ne_sym {a b : Option Nat} (h : a = none ∨ a ≠ b) : b = none ∨ b ≠ a := by
 rcases h with h | h
 ·cases b with
  | none => exact .inl rfl
  | some _ => exact .inr (by rw [h]; simp)
 ·exact .inr (fun e => h e.symm)
theorem below_drewed {n : Nat} {w w' : World} (h : Below n w w') : Below n w w'.drew := ⟨h.os, h.tape, h.output, h.size, h.block⟩
/-- The row of S. -/
theorem Cx.pushS {B : Nat} {m : Mk} {w w3 : World} (h : Cx lo B m w) {A' : Option Addr} {c' : Nat} (hgrow : w.grownBy w3 (blk m.S)) (hown : NameOwn w3 B A' (m.sl + 1) c') (hplace : blk A' = blk m.S ∧ blk m.S ≠ none ∨ blk A' = some w.heap.size) (hn : Nums { m with S := A', sl := m.sl + 1, sc := c' }) :
  w3.cell? ⟨m.M, 4, none⟩ = some (.slice m.S m.sl m.sc) ∧ w3.frozen? ⟨m.M, 4, none⟩ = false ∧ Cx lo B { m with S := A', sl := m.sl + 1, sc := c' } (w3.setCell ⟨m.M, 4, none⟩ (.slice A' (m.sl + 1) c')) ∧ Went lo B w (w3.setCell ⟨m.M, 4, none⟩ (.slice A' (m.sl + 1) c')) := by
 have hMne : ∀ {x : Option Nat}, (∀ g, x = some g → g ≠ m.M) → some m.M ≠ x := fun hx e => hx _ e.symm rfl
 have hmk := (hgrow.block m.M h.maker.lt (hMne (fun g hg => (h.apart h.s hg).2))).trans h.maker.block
 have hU := setB_cell (o := 4) (.slice A' (m.sl + 1) c') hmk
 have hn1 : NameOwn (w3.setCell ⟨m.M, 4, none⟩ (.slice A' (m.sl + 1) c')) B A' (m.sl + 1) c' := hown.kept (fun g hg => hU.block g (fun e => by
  obtain ⟨_, _, cur, hc⟩ := hown.place g hg
  rw [e, hmk] at hc
  simp only [Option.some.injEq, Obj.cells.injEq] at hc
  exact absurd hc.2.1 (by decide)))
 have hkQ : NameOwn (w3.setCell ⟨m.M, 4, none⟩ (.slice A' (m.sl + 1) c')) B m.Q m.ql m.qc := h.q.kept (fun g hg => (hU.block g (h.apart h.q hg).2).trans (hgrow.block g (h.q.place g hg).2.1 (by
  rw [← hg]
  intro e
  rcases h.sq with h0 | h0
  ·rw [h0] at e; rw [e] at hg; exact absurd hg (by simp)
  ·exact h0 e.symm)))
 have hkR : NameOwn (w3.setCell ⟨m.M, 4, none⟩ (.slice A' (m.sl + 1) c')) B m.R m.rl m.rc := h.r.kept (fun g hg => (hU.block g (h.apart h.r hg).2).trans (hgrow.block g (h.r.place g hg).2.1 (by
  rw [← hg]
  intro e
  rcases h.sr with h0 | h0
  ·rw [h0] at e; rw [e] at hg; exact absurd hg (by simp)
  ·exact h0 e.symm)))
 refine ⟨by rw [cell_of_row w3 _ 4 _ _ _ hmk]; rfl, by rw [World.frozen?]; simp only [hmk]; rfl, ?_⟩
 exact h.renew (w' := w3.setCell ⟨m.M, 4, none⟩ (.slice A' (m.sl + 1) c')) (blk m.S) (.inl rfl) hgrow.os hgrow.tape hgrow.output (by rw [hU.size]; exact hgrow.size) (fun b hb hM hr => (hU.block b hM).trans (hgrow.block b hb hr))
  (count := m.count) (left := m.left) (S := A') (sl := m.sl + 1) (sc := c') (Q := m.Q) (ql := m.ql) (qc := m.qc) (R := m.R) (rl := m.rl) (rc := m.rc) ⟨hU.at_⟩ hn1 (hkQ) (hkR) (.inr (blk_new (fun g hg => (h.q.place g hg).2.1) h.sq hplace)) (.inr (blk_new (fun g hg => (h.r.place g hg).2.1) h.sr hplace)) h.qr hn
/-- The row of Q. -/
theorem Cx.pushQ {B : Nat} {m : Mk} {w w3 : World} (h : Cx lo B m w) {A' : Option Addr} {c' : Nat} (hgrow : w.grownBy w3 (blk m.Q)) (hown : NameOwn w3 B A' (m.ql + 1) c') (hplace : blk A' = blk m.Q ∧ blk m.Q ≠ none ∨ blk A' = some w.heap.size) (hn : Nums { m with Q := A', ql := m.ql + 1, qc := c' }) :
  w3.cell? ⟨m.M, 5, none⟩ = some (.slice m.Q m.ql m.qc) ∧ w3.frozen? ⟨m.M, 5, none⟩ = false ∧ Cx lo B { m with Q := A', ql := m.ql + 1, qc := c' } (w3.setCell ⟨m.M, 5, none⟩ (.slice A' (m.ql + 1) c')) ∧ Went lo B w (w3.setCell ⟨m.M, 5, none⟩ (.slice A' (m.ql + 1) c')) := by
 have hMne : ∀ {x : Option Nat}, (∀ g, x = some g → g ≠ m.M) → some m.M ≠ x := fun hx e => hx _ e.symm rfl
 have hmk := (hgrow.block m.M h.maker.lt (hMne (fun g hg => (h.apart h.q hg).2))).trans h.maker.block
 have hU := setB_cell (o := 5) (.slice A' (m.ql + 1) c') hmk
 have hn1 : NameOwn (w3.setCell ⟨m.M, 5, none⟩ (.slice A' (m.ql + 1) c')) B A' (m.ql + 1) c' := hown.kept (fun g hg => hU.block g (fun e => by
  obtain ⟨_, _, cur, hc⟩ := hown.place g hg
  rw [e, hmk] at hc
  simp only [Option.some.injEq, Obj.cells.injEq] at hc
  exact absurd hc.2.1 (by decide)))
 have hkS : NameOwn (w3.setCell ⟨m.M, 5, none⟩ (.slice A' (m.ql + 1) c')) B m.S m.sl m.sc := h.s.kept (fun g hg => (hU.block g (h.apart h.s hg).2).trans (hgrow.block g (h.s.place g hg).2.1 (by
  rw [← hg]
  intro e
  rcases (ne_sym h.sq) with h0 | h0
  ·rw [h0] at e; rw [e] at hg; exact absurd hg (by simp)
  ·exact h0 e.symm)))
 have hkR : NameOwn (w3.setCell ⟨m.M, 5, none⟩ (.slice A' (m.ql + 1) c')) B m.R m.rl m.rc := h.r.kept (fun g hg => (hU.block g (h.apart h.r hg).2).trans (hgrow.block g (h.r.place g hg).2.1 (by
  rw [← hg]
  intro e
  rcases h.qr with h0 | h0
  ·rw [h0] at e; rw [e] at hg; exact absurd hg (by simp)
  ·exact h0 e.symm)))
 refine ⟨by rw [cell_of_row w3 _ 5 _ _ _ hmk]; rfl, by rw [World.frozen?]; simp only [hmk]; rfl, ?_⟩
 exact h.renew (w' := w3.setCell ⟨m.M, 5, none⟩ (.slice A' (m.ql + 1) c')) (blk m.Q) (.inr (.inl rfl)) hgrow.os hgrow.tape hgrow.output (by rw [hU.size]; exact hgrow.size) (fun b hb hM hr => (hU.block b hM).trans (hgrow.block b hb hr))
  (count := m.count) (left := m.left) (S := m.S) (sl := m.sl) (sc := m.sc) (Q := A') (ql := m.ql + 1) (qc := c') (R := m.R) (rl := m.rl) (rc := m.rc) ⟨hU.at_⟩ (hkS) hn1 (hkR) (.inr (fun e => blk_new (A := m.Q) (A' := A') (x := blk m.S) (fun g hg => (h.s.place g hg).2.1) (ne_sym h.sq) hplace e.symm)) h.sr (.inr (blk_new (fun g hg => (h.r.place g hg).2.1) h.qr hplace)) hn
/-- The row of R. -/
theorem Cx.pushR {B : Nat} {m : Mk} {w w3 : World} (h : Cx lo B m w) {A' : Option Addr} {c' : Nat} (hgrow : w.grownBy w3 (blk m.R)) (hown : NameOwn w3 B A' (m.rl + 1) c') (hplace : blk A' = blk m.R ∧ blk m.R ≠ none ∨ blk A' = some w.heap.size) (hn : Nums { m with R := A', rl := m.rl + 1, rc := c' }) :
  w3.cell? ⟨m.M, 6, none⟩ = some (.slice m.R m.rl m.rc) ∧ w3.frozen? ⟨m.M, 6, none⟩ = false ∧ Cx lo B { m with R := A', rl := m.rl + 1, rc := c' } (w3.setCell ⟨m.M, 6, none⟩ (.slice A' (m.rl + 1) c')) ∧ Went lo B w (w3.setCell ⟨m.M, 6, none⟩ (.slice A' (m.rl + 1) c')) := by
 have hMne : ∀ {x : Option Nat}, (∀ g, x = some g → g ≠ m.M) → some m.M ≠ x := fun hx e => hx _ e.symm rfl
 have hmk := (hgrow.block m.M h.maker.lt (hMne (fun g hg => (h.apart h.r hg).2))).trans h.maker.block
 have hU := setB_cell (o := 6) (.slice A' (m.rl + 1) c') hmk
 have hn1 : NameOwn (w3.setCell ⟨m.M, 6, none⟩ (.slice A' (m.rl + 1) c')) B A' (m.rl + 1) c' := hown.kept (fun g hg => hU.block g (fun e => by
  obtain ⟨_, _, cur, hc⟩ := hown.place g hg
  rw [e, hmk] at hc
  simp only [Option.some.injEq, Obj.cells.injEq] at hc
  exact absurd hc.2.1 (by decide)))
 have hkS : NameOwn (w3.setCell ⟨m.M, 6, none⟩ (.slice A' (m.rl + 1) c')) B m.S m.sl m.sc := h.s.kept (fun g hg => (hU.block g (h.apart h.s hg).2).trans (hgrow.block g (h.s.place g hg).2.1 (by
  rw [← hg]
  intro e
  rcases (ne_sym h.sr) with h0 | h0
  ·rw [h0] at e; rw [e] at hg; exact absurd hg (by simp)
  ·exact h0 e.symm)))
 have hkQ : NameOwn (w3.setCell ⟨m.M, 6, none⟩ (.slice A' (m.rl + 1) c')) B m.Q m.ql m.qc := h.q.kept (fun g hg => (hU.block g (h.apart h.q hg).2).trans (hgrow.block g (h.q.place g hg).2.1 (by
  rw [← hg]
  intro e
  rcases (ne_sym h.qr) with h0 | h0
  ·rw [h0] at e; rw [e] at hg; exact absurd hg (by simp)
  ·exact h0 e.symm)))
 refine ⟨by rw [cell_of_row w3 _ 6 _ _ _ hmk]; rfl, by rw [World.frozen?]; simp only [hmk]; rfl, ?_⟩
 exact h.renew (w' := w3.setCell ⟨m.M, 6, none⟩ (.slice A' (m.rl + 1) c')) (blk m.R) (.inr (.inr rfl)) hgrow.os hgrow.tape hgrow.output (by rw [hU.size]; exact hgrow.size) (fun b hb hM hr => (hU.block b hM).trans (hgrow.block b hb hr))
  (count := m.count) (left := m.left) (S := m.S) (sl := m.sl) (sc := m.sc) (Q := m.Q) (ql := m.ql) (qc := m.qc) (R := A') (rl := m.rl + 1) (rc := c') ⟨hU.at_⟩ (hkS) (hkQ) hn1 h.sq (.inr (fun e => blk_new (A := m.R) (A' := A') (x := blk m.S) (fun g hg => (h.s.place g hg).2.1) (ne_sym h.sr) hplace e.symm)) (.inr (fun e => blk_new (A := m.R) (A' := A') (x := blk m.Q) (fun g hg => (h.q.place g hg).2.1) (ne_sym h.qr) hplace e.symm)) hn
end Go.Proofs.YtchibamdkaejdaaDoor
namespace Go.Proofs.YtchibamdkaejdaaDoor
open Go.RowKit
variable {lo : Nat}

/-- A declaration's cells. -/
def declCells (nm ty : ByteArray) (ln : Nat) : Array Value := #[.int .i64 1, .int .i64 0, .int .i64 0, .string nm, .string ty, .int .i64 ln, .int .i64 0, .slice none 0 0, .string ⟨#[]⟩, .int .i64 0, .slice none 0 0, .slice none 0 0, .slice none 0 0]
theorem declCells_one (nm ty : ByteArray) (ln : Nat) : ∀ v ∈ (declCells nm ty ln).toList, v.oneCell' = true := by
 intro v hv
 simp only [declCells, List.mem_cons, List.not_mem_nil, or_false] at hv
 rcases hv with rfl | rfl | rfl | rfl | rfl | rfl | rfl | rfl | rfl | rfl | rfl | rfl | rfl <;> rfl
/-- What of the maker stays, and what may only grow. -/
structure Kin (m m' : Mk) : Prop where
 M : m'.M = m.M
 T : m'.T = m.T
 f : m'.f = m.f
 funcs : m'.funcs = m.funcs
 P : m'.P = m.P
 pl : m'.pl = m.pl
 pc : m'.pc = m.pc
 A : m'.A = m.A
 len : m'.len = m.len
 cap : m'.cap = m.cap
 s : m.sl ≤ m'.sl
 q : m.ql ≤ m'.ql
 r : m.rl ≤ m'.rl
 count : m.count ≤ m'.count
theorem Kin.refl (m : Mk) : Kin m m := ⟨rfl, rfl, rfl, rfl, rfl, rfl, rfl, rfl, rfl, rfl, Nat.le_refl _, Nat.le_refl _, Nat.le_refl _, Int.le_refl _⟩
theorem Kin.trans {a b c : Mk} (h : Kin a b) (k : Kin b c) : Kin a c := ⟨k.M.trans h.M, k.T.trans h.T, k.f.trans h.f, k.funcs.trans h.funcs, k.P.trans h.P, k.pl.trans h.pl, k.pc.trans h.pc, k.A.trans h.A, k.len.trans h.len, k.cap.trans h.cap, Nat.le_trans h.s k.s, Nat.le_trans h.q k.q, Nat.le_trans h.r k.r, Int.le_trans h.count k.count⟩
set_option linter.unusedSimpArgs false in
set_option maxHeartbeats 4000000 in
set_option maxRecDepth 100000 in
theorem declare_any (B : Nat) (m : Mk) (w : World) (h : Cx lo B m w) (hn : m.count + m.left ≤ 21) :
  Calls Tryd.prog 41 #[.pointer (some ⟨m.M, 0, none⟩)] w fun e w' => ∃ (nm ty : ByteArray) (ln : Nat) (m' : Mk), e = .returned (.agg (declCells nm ty ln)) ∧ nm.size ≤ 20 ∧ ty.size ≤ 20 ∧ ln ≤ 3 ∧ Kin m m' ∧ m'.count = m.count + 1 ∧ m'.left = m.left ∧ Cx lo B m' w' ∧ Went lo B w w' := by
 obtain ⟨M, T, f, funcs, count, left, P, S, Q, R, pl, pc, sl, sc, ql, qc, rl, rc, A, len, cap⟩ := m
 have hnum := h.num
 obtain ⟨n1, n2, n3, n4, n5, n6, n7, n8, n9⟩ := hnum
 dsimp only at *
 obtain ⟨cn, rfl⟩ : ∃ cn : Nat, count = (cn : Int) := ⟨count.toNat, by omega⟩
 obtain ⟨V, hV⟩ : ∃ V, Hid (w.alloc (.cells #[.int .i64 0, .int .i64 0, .int .i64 0, .string ⟨#[]⟩, .string ⟨#[]⟩, .int .i64 0, .int .i64 0, .slice none 0 0, .string ⟨#[]⟩, .int .i64 0, .slice none 0 0, .slice none 0 0, .slice none 0 0] 75) = V) := ⟨_, Lib.hid rfl⟩
 have hwV : Below w.heap.size w V := by rw [← hV.out]; exact (Below.refl _ _).alloc (Nat.le_refl _) _
 have hblk : V.heap[w.heap.size]? = some (.cells #[.int .i64 0, .int .i64 0, .int .i64 0, .string ⟨#[]⟩, .string ⟨#[]⟩, .int .i64 0, .int .i64 0, .slice none 0 0, .string ⟨#[]⟩, .int .i64 0, .slice none 0 0, .slice none 0 0, .slice none 0 0] 75 (0, 0)) := by rw [← hV.out]; exact Array.getElem?_push_size
 have hc := h.below hwV
 have HLO : Hid (lo ≤ w.heap.size) := Lib.hid (Nat.le_trans h.loB h.bW)
 have HW := Lib.hid (Went.of_below (lo := lo) (B := B) hwV)
 have hBw := h.lt
 have hM : M < w.heap.size := h.maker.lt
 clear h hwV
 go_enter Tryd.func41, Tryd.ntmps41
 go_wp2_with fail
 rw [hV.out]
 refine (fresh_any V M T f funcs cn left P S Q R pl pc sl sc ql qc rl rc hc.maker (by omega)).mono ?_
 rintro e w1 ⟨nm, rfl, hnm, hm1, hb1⟩
 obtain ⟨hc1, hw1⟩ := hc.turn (count := (cn + 1 : Nat)) (left := left) hb1 hm1 hc.s hc.q hc.r hc.sq hc.sr hc.qr ⟨by show (0 : Int) ≤ ((cn + 1 : Nat) : Int); omega, n2, by show ((cn + 1 : Nat) : Int) + left ≤ 22; omega, by show (sl : Int) ≤ 4 + ((cn + 1 : Nat) : Int); omega, by show (ql : Int) ≤ ((cn + 1 : Nat) : Int); omega, by show (rl : Int) ≤ ((cn + 1 : Nat) : Int); omega, n7, n8, n9⟩
 dsimp only at hc1
 have hblk1 := hw1.typed _ _ _ _ (by decide) (by decide) (by decide) hblk
 have hs1 := hw1.size
 have HW1 := Lib.hid (HW.out.trans hw1)
 obtain ⟨W1, hW1⟩ : ∃ W1, Hid (w1.alloc (.cells #[.int .i64 1, .int .i64 0, .int .i64 0, .string nm, .string ⟨#[]⟩, .int .i64 0, .int .i64 0, .slice none 0 0, .string ⟨#[]⟩, .int .i64 0, .slice none 0 0, .slice none 0 0, .slice none 0 0] 75) = W1) := ⟨_, Lib.hid rfl⟩
 have h1W : Below w1.heap.size w1 W1 := by rw [← hW1.out]; exact (Below.refl _ _).alloc (Nat.le_refl _) _
 have hX1 : W1.heap[w1.heap.size]? = some (.cells #[.int .i64 1, .int .i64 0, .int .i64 0, .string nm, .string ⟨#[]⟩, .int .i64 0, .int .i64 0, .slice none 0 0, .string ⟨#[]⟩, .int .i64 0, .slice none 0 0, .slice none 0 0, .slice none 0 0] 75 (0, 0)) := by rw [← hW1.out]; exact Array.getElem?_push_size
 have hNw : w.heap.size < w1.heap.size := (Array.getElem?_eq_some_iff.1 hblk1).1
 have hcW := hc1.below h1W
 have hblkW : W1.heap[w.heap.size]? = _ := (h1W.block _ hNw).trans hblk1
 have e0 := hcW.maker.cell 0 (.pointer (some ⟨T, 0, none⟩)) rfl
 dsimp only at e0
 rw [← hW1.out] at e0
 have HWW := Lib.hid (HW1.out.trans (Went.of_below (lo := lo) (B := B) h1W))
 have HCW := Lib.hid hcW
 have HXW := Lib.hid hX1
 have HNW := Lib.hid hblkW
 clear hc hc1 hw1 hm1 hb1 h1W hX1 hblkW hcW hblk hblk1
 go_wp2_with fail
 obtain ⟨p1, ht1⟩ := HCW.out.tape
 rw [hW1.out]
 refine (next_any W1 T A len cap p1 ht1 5 (by omega) (by omega)).mono ?_
 rintro e w2 ⟨r, t2, rfl, hr0, hr1, hm2⟩
 have hXW1 : w1.heap.size < W1.heap.size := (Array.getElem?_eq_some_iff.1 HXW.out).1
 have hg2 := HCW.out.grew hm2.grew
 have hw2 := HCW.out.went hm2.grew
 have hX2 := hw2.typed _ _ _ _ (by decide) (by decide) (by decide) HXW.out
 have hN2 := hw2.typed _ _ _ _ (by decide) (by decide) (by decide) HNW.out
 have HW2 := Lib.hid (HWW.out.trans hw2)
 have HC2 := Lib.hid hg2
 have hs2 := Nat.le_of_eq hm2.size.symm
 have hXM : w1.heap.size ≠ M := by omega
 have hNM : w.heap.size ≠ M := by omega
 clear hm2 hg2 hw2 ht1
 have hcase : r = 3 ∨ r = 4 ∨ (r ≠ 3 ∧ r ≠ 4) := by omega
 rcases hcase with rfl | rfl | ⟨hr3, hr4⟩
 ·
  have xo : w2.cell? ⟨w1.heap.size, 4, none⟩ = some (.string ⟨#[]⟩) := by rw [cell_of_row w2 _ 4 _ _ _ hX2]; rfl
  have fo : w2.frozen? ⟨w1.heap.size, 4, none⟩ = false := by rw [World.frozen?]; simp only [hX2]; rfl
  have hset := setB_cell (o := 4) (.string ⟨#[80]⟩) hX2
  have hsetc : SetB w1.heap.size #[.int .i64 1, .int .i64 0, .int .i64 0, .string nm, .string ⟨#[80]⟩, .int .i64 0, .int .i64 0, .slice none 0 0, .string ⟨#[]⟩, .int .i64 0, .slice none 0 0, .slice none 0 0, .slice none 0 0] 75 w2 (w2.setCell ⟨w1.heap.size, 4, none⟩ (.string ⟨#[80]⟩)) := hset
  obtain ⟨Wc, hWc⟩ : ∃ W, Hid (w2.setCell ⟨w1.heap.size, 4, none⟩ (.string ⟨#[80]⟩) = W) := ⟨_, Lib.hid rfl⟩
  rw [hWc.out] at hsetc
  have hXc := hsetc.at_
  have HCc := Lib.hid (HC2.out.set hX2 (by decide) hsetc (Nat.le_trans HLO.out (by omega)))
  have HWc := Lib.hid (HW2.out.set hsetc (by omega))
  have hNc := (hsetc.block w.heap.size (by omega)).trans hN2
  have hsc := Nat.le_of_eq hsetc.size.symm
  clear hset hsetc hX2 HC2 HW2 hN2
  go_wp2_with fail
  rw [hWc.out]
  have HXc := Lib.hid hXc
  have HNc := Lib.hid hNc
  have x3 : Wc.drew.cell? ⟨w1.heap.size, 3, none⟩ = some (.string nm) := by
   have := cell_of_row Wc w1.heap.size 3 _ _ _ HXc.out
   exact this
  have em : Wc.drew.cell? ⟨M, 5, none⟩ = some (.slice Q ql qc) := HCc.out.maker.cell 5 (.slice Q ql qc) rfl
  have em' : ∀ o, (Wc.alloc o).drew.cell? ⟨M, 5, none⟩ = some (.slice Q ql qc) := fun o => (World.cell?_alloc_lt _ _ _ HCc.out.maker.lt).trans em
  have x3' : ∀ o, (Wc.alloc o).drew.cell? ⟨w1.heap.size, 3, none⟩ = some (.string nm) := fun o => (World.cell?_alloc_lt _ _ _ (show w1.heap.size < Wc.heap.size by omega)).trans x3
  have hY : ∀ o, Below Wc.heap.size Wc (Wc.alloc o).drew := fun o => below_drewed ((Below.refl _ _).alloc (Nat.le_refl _) o)
  have HYB := Lib.hid hY
  have HCY : Hid (∀ o, Cx lo B _ (Wc.alloc o).drew) := Lib.hid (fun o => HCc.out.below (hY o))
  have HY : Hid ((Wc.alloc (.cells #[.string nm] 9)).drew.cell? ⟨Wc.heap.size, 0, none⟩ = some (.string nm)) := Lib.hid (by
   show (Wc.alloc (.cells #[.string nm] 9)).cell? ⟨Wc.heap.size, 0, none⟩ = some (.string nm)
   rw [World.cell?_alloc_at _ _ _ _ rfl]; rfl)
  have hYs : (Wc.alloc (.cells #[.string nm] 9)).drew.heap.size = Wc.heap.size + 1 := Array.size_push _
  have HYS := Lib.hid hYs
  have hBc : B ≤ Wc.heap.size := by omega
  clear hXc hNc hY hYs
  refine wp_region_held_drew (S := fun w' => w'.cell? ⟨w1.heap.size, 3, none⟩ = some (.string nm)) (by kernel_rfl) x3 (fun hHeld => ?_)
  refine wpAnyH_take (i := 0) (v := ?_) rfl (by kernel_rfl) (by kernel_rfl) (by kernel_rfl) (fun _ _ _ h => h) (Or.inl ⟨by rfl, ?_⟩) (by assumption) ?_
  rotate_left 1
  ·intro w hSw
   (try dsimp only at hSw)
   (go_simp) <;> (with_reducible rfl)
  (try simp only [Act.put, zA, zB, zC, zD, zE, zF])
  refine wpAnyH_take (i := 1) (v := ?_) rfl (by kernel_rfl) (by kernel_rfl) (by kernel_rfl) (fun _ _ _ h => h) (Or.inl ⟨by rfl, ?_⟩) (by assumption) ?_
  rotate_left 1
  ·intro w hSw
   (try dsimp only at hSw)
   (go_simp) <;> (with_reducible rfl)
  (try simp only [Act.put, zA, zB, zC, zD, zE, zF])
  refine wpAnyH_take (i := 2) (v := ?_) rfl (by kernel_rfl) (by kernel_rfl) (by kernel_rfl) (fun _ _ _ h => h) (Or.inl ⟨by rfl, ?_⟩) (by assumption) ?_
  rotate_left 1
  ·intro w hSw
   (try dsimp only at hSw)
   (go_simp) <;> (with_reducible rfl)
  (try simp only [Act.put, zA, zB, zC, zD, zE, zF])
  refine wpAnyH_take (i := 3) (v := ?_) rfl (by kernel_rfl) (by kernel_rfl) (by kernel_rfl) (fun _ _ _ h => h) (Or.inl ⟨by rfl, ?_⟩) (by assumption) ?_
  rotate_left 1
  ·intro w hSw
   (try dsimp only at hSw)
   (go_simp) <;> (with_reducible rfl)
  (try simp only [Act.put, zA, zB, zC, zD, zE, zF])
  refine wpAnyH_take (i := 5) (v := ?_) rfl (by kernel_rfl) (by kernel_rfl) (by kernel_rfl) (fun _ _ _ h => h) (Or.inl ⟨by rfl, ?_⟩) (by assumption) ?_
  rotate_left 1
  ·intro w hSw
   (try dsimp only at hSw)
   (go_simp) <;> (with_reducible rfl)
  (try simp only [Act.put, zA, zB, zC, zD, zE, zF])
  refine wpAnyH_take (i := 6) (v := ?_) rfl (by kernel_rfl) (by kernel_rfl) (by kernel_rfl) (fun _ _ _ h => h) (Or.inl ⟨by rfl, ?_⟩) (by assumption) ?_
  rotate_left 1
  ·intro w hSw
   (try dsimp only at hSw)
   (go_simp) <;> (with_reducible rfl)
  (try simp only [Act.put, zA, zB, zC, zD, zE, zF])
  refine wpAnyH_ready (rs := [4, 7]) (by kernel_rfl) (by simp) (AllReadyH.cons rfl (fun K hK => ?_) (AllReadyH.cons rfl (fun K hK => ?_) AllReadyH.nil))
  ·go_simp
   refine hK.out _ _ x3 (fun hHeld => ?_)
   clear hK K
   (try simp only [Act.put, zA, zB, zC, zD, zE, zF])
   refine wpAnyH_ready (rs := [7]) (by kernel_rfl) (by simp) (AllReadyH.cons rfl (fun K hK => ?_) AllReadyH.nil)
   go_simp
   refine hK.out _ _ (x3' _) (fun hHeld => ?_)
   clear hK K
   (try simp only [Act.put, zA, zB, zC, zD, zE, zF])
   refine wpAnyH_ready (rs := [8]) (by kernel_rfl) (by simp) (AllReadyH.cons rfl (fun K hK => ?_) AllReadyH.nil)
   rw [if_pos (by rfl)]
   refine wp_append_name _ _ rfl B Q ql qc Wc.heap.size 1 nm rfl (HCY.out _).q rfl HY.out hnm (by omega) (by have := HYS.out; omega) ?_
   intro A' c' w3 hown hgrow hplace
   have hs3 := hgrow.size
   obtain ⟨kM, fM, hcx, hwent⟩ := (HCY.out (.cells #[.string nm] 9)).pushQ hgrow hown hplace ⟨by show (0 : Int) ≤ ((cn + 1 : Nat) : Int); omega, n2, by show ((cn + 1 : Nat) : Int) + left ≤ 22; omega, by show ((sl : Nat) : Int) ≤ 4 + ((cn + 1 : Nat) : Int); omega, by show ((ql + 1 : Nat) : Int) ≤ ((cn + 1 : Nat) : Int); omega, by show ((rl : Nat) : Int) ≤ ((cn + 1 : Nat) : Int); omega, n7, n8, n9⟩
   dsimp only at kM fM hcx hwent
   have hX3 := (Went.trans (Went.of_below (lo := lo) (B := B) (HYB.out (.cells #[.string nm] 9))) hwent).typed _ _ _ _ (by decide) (by decide) (by decide) HXc.out
   have hN3 := (Went.trans (Went.of_below (lo := lo) (B := B) (HYB.out (.cells #[.string nm] 9))) hwent).typed _ _ _ _ (by decide) (by decide) (by decide) HNc.out
   have HWU := Lib.hid (HWc.out.trans ((Went.of_below (lo := lo) (B := B) (HYB.out (.cells #[.string nm] 9))).trans hwent))
   obtain ⟨U, hU⟩ : ∃ U, Hid (w3.setCell ⟨M, 5, none⟩ (.slice A' (ql + 1) c') = U) := ⟨_, Lib.hid rfl⟩
   rw [hU.out] at hX3 hN3 HWU hcx
   have HCU := Lib.hid hcx
   have x3w : w3.cell? ⟨w1.heap.size, 3, none⟩ = some (.string nm) := by
    rw [← (World.cell?_of_block (w := w3) (a := ⟨w1.heap.size, 3, none⟩) (w' := U) (by rw [← hU.out]; exact heap_setCell_other w3 ⟨M, 5, none⟩ w1.heap.size _ hXM))]
    rw [cell_of_row U _ 3 _ _ _ hX3]; rfl
   refine hK.out _ _ x3w (fun hHeld => ?_)
   clear hK K hown hgrow hplace hwent hcx
   (try simp only [Act.put, zA, zB, zC, zD, zE, zF])
   refine wpAnyH_take (i := 9) (v := ?_) rfl (by kernel_rfl) (by kernel_rfl) (by kernel_rfl) (fun _ _ _ h => h) (Or.inl ⟨by rfl, ?_⟩) (by assumption) ?_
   rotate_left 1
   ·intro w hSw
    (try dsimp only at hSw)
    (go_simp) <;> (with_reducible rfl)
   (try simp only [Act.put, zA, zB, zC, zD, zE, zF])
   refine wpAnyH_take (i := 10) (v := ?_) rfl (by kernel_rfl) (by kernel_rfl) (by kernel_rfl) (fun _ _ _ h => h) (Or.inl ⟨by rfl, ?_⟩) (by assumption) ?_
   rotate_left 1
   ·intro w hSw
    (try dsimp only at hSw)
    (go_simp) <;> (with_reducible rfl)
   (try simp only [Act.put, zA, zB, zC, zD, zE, zF])
   refine wpAnyH_ready (rs := [11]) (by kernel_rfl) (by simp) (AllReadyH.cons rfl (fun K hK => ?_) AllReadyH.nil)
   go_simp
   rw [hU.out]
   refine hK.out _ _ (by rw [cell_of_row U _ 3 _ _ _ hX3]; rfl) (fun hHeld => ?_)
   clear hK K
   refine wpAnyH_done (by kernel_rfl) ?_ _
   have HX3 := Lib.hid hX3
   have HN3 := Lib.hid hN3
   clear hX3 hN3 kM fM x3w
   go_wp2_with (first | (with_reducible show wpList _ _ _ (Oper.mk _ (Op.load 75 _) _ _ _ none :: _) _ _; refine load_stmt rfl _ rfl w1.heap.size _ rfl HX3.out rfl ?_) | (with_reducible show wpList _ _ _ (Oper.mk none (Op.store 75 _ _) _ _ _ none :: _) _ _; refine store_stmt rfl rfl _ _ rfl w.heap.size _ (declCells nm ⟨#[80]⟩ 0) rfl rfl HN3.out rfl rfl (declCells_one _ _ _) ?_; intro U2 hU2))
   (try simp only [Exit.inBlock, Exit.then])
   have hld := ret_stmt hU2.at_ rfl
   refine bodyPost_ret (v := .agg (declCells nm ⟨#[80]⟩ 0)) (by simp [results, Tryd.results41, Act.put, asAddr, Result.andThen, hld]) rfl ?_
   exact ⟨nm, ⟨#[80]⟩, 0, ⟨M, T, f, funcs, (cn + 1 : Nat), left, P, S, A', R, pl, pc, sl, sc, ql + 1, c', rl, rc, A, len, cap⟩, rfl, hnm, by decide, by decide, ⟨rfl, rfl, rfl, rfl, rfl, rfl, rfl, rfl, rfl, rfl, by show sl ≤ sl; omega, by show ql ≤ ql + 1; omega, by show rl ≤ rl; omega, by show (cn : Int) ≤ ((cn + 1 : Nat) : Int); omega⟩, by show ((cn + 1 : Nat) : Int) = (cn : Int) + 1; omega, rfl, HCU.out.set HN3.out (by decide) hU2 HLO.out, HWU.out.set hU2 (Nat.le_refl _)⟩
  ·go_simp
   refine hK.out _ _ (x3' _) (fun hHeld => ?_)
   clear hK K
   (try simp only [Act.put, zA, zB, zC, zD, zE, zF])
   refine wpAnyH_ready (rs := [4]) (by kernel_rfl) (by simp) (AllReadyH.cons rfl (fun K hK => ?_) AllReadyH.nil)
   go_simp
   refine hK.out _ _ (x3' _) (fun hHeld => ?_)
   clear hK K
   (try simp only [Act.put, zA, zB, zC, zD, zE, zF])
   refine wpAnyH_ready (rs := [8]) (by kernel_rfl) (by simp) (AllReadyH.cons rfl (fun K hK => ?_) AllReadyH.nil)
   rw [if_pos (by rfl)]
   refine wp_append_name _ _ rfl B Q ql qc Wc.heap.size 1 nm rfl (HCY.out _).q rfl HY.out hnm (by omega) (by have := HYS.out; omega) ?_
   intro A' c' w3 hown hgrow hplace
   have hs3 := hgrow.size
   obtain ⟨kM, fM, hcx, hwent⟩ := (HCY.out (.cells #[.string nm] 9)).pushQ hgrow hown hplace ⟨by show (0 : Int) ≤ ((cn + 1 : Nat) : Int); omega, n2, by show ((cn + 1 : Nat) : Int) + left ≤ 22; omega, by show ((sl : Nat) : Int) ≤ 4 + ((cn + 1 : Nat) : Int); omega, by show ((ql + 1 : Nat) : Int) ≤ ((cn + 1 : Nat) : Int); omega, by show ((rl : Nat) : Int) ≤ ((cn + 1 : Nat) : Int); omega, n7, n8, n9⟩
   dsimp only at kM fM hcx hwent
   have hX3 := (Went.trans (Went.of_below (lo := lo) (B := B) (HYB.out (.cells #[.string nm] 9))) hwent).typed _ _ _ _ (by decide) (by decide) (by decide) HXc.out
   have hN3 := (Went.trans (Went.of_below (lo := lo) (B := B) (HYB.out (.cells #[.string nm] 9))) hwent).typed _ _ _ _ (by decide) (by decide) (by decide) HNc.out
   have HWU := Lib.hid (HWc.out.trans ((Went.of_below (lo := lo) (B := B) (HYB.out (.cells #[.string nm] 9))).trans hwent))
   obtain ⟨U, hU⟩ : ∃ U, Hid (w3.setCell ⟨M, 5, none⟩ (.slice A' (ql + 1) c') = U) := ⟨_, Lib.hid rfl⟩
   rw [hU.out] at hX3 hN3 HWU hcx
   have HCU := Lib.hid hcx
   have x3w : w3.cell? ⟨w1.heap.size, 3, none⟩ = some (.string nm) := by
    rw [← (World.cell?_of_block (w := w3) (a := ⟨w1.heap.size, 3, none⟩) (w' := U) (by rw [← hU.out]; exact heap_setCell_other w3 ⟨M, 5, none⟩ w1.heap.size _ hXM))]
    rw [cell_of_row U _ 3 _ _ _ hX3]; rfl
   refine hK.out _ _ x3w (fun hHeld => ?_)
   clear hK K hown hgrow hplace hwent hcx
   (try simp only [Act.put, zA, zB, zC, zD, zE, zF])
   refine wpAnyH_take (i := 9) (v := ?_) rfl (by kernel_rfl) (by kernel_rfl) (by kernel_rfl) (fun _ _ _ h => h) (Or.inl ⟨by rfl, ?_⟩) (by assumption) ?_
   rotate_left 1
   ·intro w hSw
    (try dsimp only at hSw)
    (go_simp) <;> (with_reducible rfl)
   (try simp only [Act.put, zA, zB, zC, zD, zE, zF])
   refine wpAnyH_take (i := 10) (v := ?_) rfl (by kernel_rfl) (by kernel_rfl) (by kernel_rfl) (fun _ _ _ h => h) (Or.inl ⟨by rfl, ?_⟩) (by assumption) ?_
   rotate_left 1
   ·intro w hSw
    (try dsimp only at hSw)
    (go_simp) <;> (with_reducible rfl)
   (try simp only [Act.put, zA, zB, zC, zD, zE, zF])
   refine wpAnyH_ready (rs := [11]) (by kernel_rfl) (by simp) (AllReadyH.cons rfl (fun K hK => ?_) AllReadyH.nil)
   go_simp
   rw [hU.out]
   refine hK.out _ _ (by rw [cell_of_row U _ 3 _ _ _ hX3]; rfl) (fun hHeld => ?_)
   clear hK K
   refine wpAnyH_done (by kernel_rfl) ?_ _
   have HX3 := Lib.hid hX3
   have HN3 := Lib.hid hN3
   clear hX3 hN3 kM fM x3w
   go_wp2_with (first | (with_reducible show wpList _ _ _ (Oper.mk _ (Op.load 75 _) _ _ _ none :: _) _ _; refine load_stmt rfl _ rfl w1.heap.size _ rfl HX3.out rfl ?_) | (with_reducible show wpList _ _ _ (Oper.mk none (Op.store 75 _ _) _ _ _ none :: _) _ _; refine store_stmt rfl rfl _ _ rfl w.heap.size _ (declCells nm ⟨#[80]⟩ 0) rfl rfl HN3.out rfl rfl (declCells_one _ _ _) ?_; intro U2 hU2))
   (try simp only [Exit.inBlock, Exit.then])
   have hld := ret_stmt hU2.at_ rfl
   refine bodyPost_ret (v := .agg (declCells nm ⟨#[80]⟩ 0)) (by simp [results, Tryd.results41, Act.put, asAddr, Result.andThen, hld]) rfl ?_
   exact ⟨nm, ⟨#[80]⟩, 0, ⟨M, T, f, funcs, (cn + 1 : Nat), left, P, S, A', R, pl, pc, sl, sc, ql + 1, c', rl, rc, A, len, cap⟩, rfl, hnm, by decide, by decide, ⟨rfl, rfl, rfl, rfl, rfl, rfl, rfl, rfl, rfl, rfl, by show sl ≤ sl; omega, by show ql ≤ ql + 1; omega, by show rl ≤ rl; omega, by show (cn : Int) ≤ ((cn + 1 : Nat) : Int); omega⟩, by show ((cn + 1 : Nat) : Int) = (cn : Int) + 1; omega, rfl, HCU.out.set HN3.out (by decide) hU2 HLO.out, HWU.out.set hU2 (Nat.le_refl _)⟩
 ·
  have xo : w2.cell? ⟨w1.heap.size, 5, none⟩ = some (.int .i64 0) := by rw [cell_of_row w2 _ 5 _ _ _ hX2]; rfl
  have fo : w2.frozen? ⟨w1.heap.size, 5, none⟩ = false := by rw [World.frozen?]; simp only [hX2]; rfl
  have hset := setB_cell (o := 5) (.int .i64 3) hX2
  have hsetc : SetB w1.heap.size #[.int .i64 1, .int .i64 0, .int .i64 0, .string nm, .string ⟨#[]⟩, .int .i64 3, .int .i64 0, .slice none 0 0, .string ⟨#[]⟩, .int .i64 0, .slice none 0 0, .slice none 0 0, .slice none 0 0] 75 w2 (w2.setCell ⟨w1.heap.size, 5, none⟩ (.int .i64 3)) := hset
  obtain ⟨Wc, hWc⟩ : ∃ W, Hid (w2.setCell ⟨w1.heap.size, 5, none⟩ (.int .i64 3) = W) := ⟨_, Lib.hid rfl⟩
  rw [hWc.out] at hsetc
  have hXc := hsetc.at_
  have HCc := Lib.hid (HC2.out.set hX2 (by decide) hsetc (Nat.le_trans HLO.out (by omega)))
  have HWc := Lib.hid (HW2.out.set hsetc (by omega))
  have hNc := (hsetc.block w.heap.size (by omega)).trans hN2
  have hsc := Nat.le_of_eq hsetc.size.symm
  clear hset hsetc hX2 HC2 HW2 hN2
  go_wp2_with fail
  rw [hWc.out]
  have HXc := Lib.hid hXc
  have HNc := Lib.hid hNc
  have x3 : Wc.drew.cell? ⟨w1.heap.size, 3, none⟩ = some (.string nm) := by
   have := cell_of_row Wc w1.heap.size 3 _ _ _ HXc.out
   exact this
  have em : Wc.drew.cell? ⟨M, 6, none⟩ = some (.slice R rl rc) := HCc.out.maker.cell 6 (.slice R rl rc) rfl
  have em' : ∀ o, (Wc.alloc o).drew.cell? ⟨M, 6, none⟩ = some (.slice R rl rc) := fun o => (World.cell?_alloc_lt _ _ _ HCc.out.maker.lt).trans em
  have x3' : ∀ o, (Wc.alloc o).drew.cell? ⟨w1.heap.size, 3, none⟩ = some (.string nm) := fun o => (World.cell?_alloc_lt _ _ _ (show w1.heap.size < Wc.heap.size by omega)).trans x3
  have hY : ∀ o, Below Wc.heap.size Wc (Wc.alloc o).drew := fun o => below_drewed ((Below.refl _ _).alloc (Nat.le_refl _) o)
  have HYB := Lib.hid hY
  have HCY : Hid (∀ o, Cx lo B _ (Wc.alloc o).drew) := Lib.hid (fun o => HCc.out.below (hY o))
  have HY : Hid ((Wc.alloc (.cells #[.string nm] 9)).drew.cell? ⟨Wc.heap.size, 0, none⟩ = some (.string nm)) := Lib.hid (by
   show (Wc.alloc (.cells #[.string nm] 9)).cell? ⟨Wc.heap.size, 0, none⟩ = some (.string nm)
   rw [World.cell?_alloc_at _ _ _ _ rfl]; rfl)
  have hYs : (Wc.alloc (.cells #[.string nm] 9)).drew.heap.size = Wc.heap.size + 1 := Array.size_push _
  have HYS := Lib.hid hYs
  have hBc : B ≤ Wc.heap.size := by omega
  clear hXc hNc hY hYs
  refine wp_region_held_drew (S := fun w' => w'.cell? ⟨w1.heap.size, 3, none⟩ = some (.string nm)) (by kernel_rfl) x3 (fun hHeld => ?_)
  refine wpAnyH_take (i := 0) (v := ?_) rfl (by kernel_rfl) (by kernel_rfl) (by kernel_rfl) (fun _ _ _ h => h) (Or.inl ⟨by rfl, ?_⟩) (by assumption) ?_
  rotate_left 1
  ·intro w hSw
   (try dsimp only at hSw)
   (go_simp) <;> (with_reducible rfl)
  (try simp only [Act.put, zA, zB, zC, zD, zE, zF])
  refine wpAnyH_take (i := 1) (v := ?_) rfl (by kernel_rfl) (by kernel_rfl) (by kernel_rfl) (fun _ _ _ h => h) (Or.inl ⟨by rfl, ?_⟩) (by assumption) ?_
  rotate_left 1
  ·intro w hSw
   (try dsimp only at hSw)
   (go_simp) <;> (with_reducible rfl)
  (try simp only [Act.put, zA, zB, zC, zD, zE, zF])
  refine wpAnyH_take (i := 2) (v := ?_) rfl (by kernel_rfl) (by kernel_rfl) (by kernel_rfl) (fun _ _ _ h => h) (Or.inl ⟨by rfl, ?_⟩) (by assumption) ?_
  rotate_left 1
  ·intro w hSw
   (try dsimp only at hSw)
   (go_simp) <;> (with_reducible rfl)
  (try simp only [Act.put, zA, zB, zC, zD, zE, zF])
  refine wpAnyH_take (i := 3) (v := ?_) rfl (by kernel_rfl) (by kernel_rfl) (by kernel_rfl) (fun _ _ _ h => h) (Or.inl ⟨by rfl, ?_⟩) (by assumption) ?_
  rotate_left 1
  ·intro w hSw
   (try dsimp only at hSw)
   (go_simp) <;> (with_reducible rfl)
  (try simp only [Act.put, zA, zB, zC, zD, zE, zF])
  refine wpAnyH_take (i := 5) (v := ?_) rfl (by kernel_rfl) (by kernel_rfl) (by kernel_rfl) (fun _ _ _ h => h) (Or.inl ⟨by rfl, ?_⟩) (by assumption) ?_
  rotate_left 1
  ·intro w hSw
   (try dsimp only at hSw)
   (go_simp) <;> (with_reducible rfl)
  (try simp only [Act.put, zA, zB, zC, zD, zE, zF])
  refine wpAnyH_take (i := 6) (v := ?_) rfl (by kernel_rfl) (by kernel_rfl) (by kernel_rfl) (fun _ _ _ h => h) (Or.inl ⟨by rfl, ?_⟩) (by assumption) ?_
  rotate_left 1
  ·intro w hSw
   (try dsimp only at hSw)
   (go_simp) <;> (with_reducible rfl)
  (try simp only [Act.put, zA, zB, zC, zD, zE, zF])
  refine wpAnyH_ready (rs := [4, 7]) (by kernel_rfl) (by simp) (AllReadyH.cons rfl (fun K hK => ?_) (AllReadyH.cons rfl (fun K hK => ?_) AllReadyH.nil))
  ·go_simp
   refine hK.out _ _ x3 (fun hHeld => ?_)
   clear hK K
   (try simp only [Act.put, zA, zB, zC, zD, zE, zF])
   refine wpAnyH_ready (rs := [7]) (by kernel_rfl) (by simp) (AllReadyH.cons rfl (fun K hK => ?_) AllReadyH.nil)
   go_simp
   refine hK.out _ _ (x3' _) (fun hHeld => ?_)
   clear hK K
   (try simp only [Act.put, zA, zB, zC, zD, zE, zF])
   refine wpAnyH_ready (rs := [8]) (by kernel_rfl) (by simp) (AllReadyH.cons rfl (fun K hK => ?_) AllReadyH.nil)
   rw [if_pos (by rfl)]
   refine wp_append_name _ _ rfl B R rl rc Wc.heap.size 1 nm rfl (HCY.out _).r rfl HY.out hnm (by omega) (by have := HYS.out; omega) ?_
   intro A' c' w3 hown hgrow hplace
   have hs3 := hgrow.size
   obtain ⟨kM, fM, hcx, hwent⟩ := (HCY.out (.cells #[.string nm] 9)).pushR hgrow hown hplace ⟨by show (0 : Int) ≤ ((cn + 1 : Nat) : Int); omega, n2, by show ((cn + 1 : Nat) : Int) + left ≤ 22; omega, by show ((sl : Nat) : Int) ≤ 4 + ((cn + 1 : Nat) : Int); omega, by show ((ql : Nat) : Int) ≤ ((cn + 1 : Nat) : Int); omega, by show ((rl + 1 : Nat) : Int) ≤ ((cn + 1 : Nat) : Int); omega, n7, n8, n9⟩
   dsimp only at kM fM hcx hwent
   have hX3 := (Went.trans (Went.of_below (lo := lo) (B := B) (HYB.out (.cells #[.string nm] 9))) hwent).typed _ _ _ _ (by decide) (by decide) (by decide) HXc.out
   have hN3 := (Went.trans (Went.of_below (lo := lo) (B := B) (HYB.out (.cells #[.string nm] 9))) hwent).typed _ _ _ _ (by decide) (by decide) (by decide) HNc.out
   have HWU := Lib.hid (HWc.out.trans ((Went.of_below (lo := lo) (B := B) (HYB.out (.cells #[.string nm] 9))).trans hwent))
   obtain ⟨U, hU⟩ : ∃ U, Hid (w3.setCell ⟨M, 6, none⟩ (.slice A' (rl + 1) c') = U) := ⟨_, Lib.hid rfl⟩
   rw [hU.out] at hX3 hN3 HWU hcx
   have HCU := Lib.hid hcx
   have x3w : w3.cell? ⟨w1.heap.size, 3, none⟩ = some (.string nm) := by
    rw [← (World.cell?_of_block (w := w3) (a := ⟨w1.heap.size, 3, none⟩) (w' := U) (by rw [← hU.out]; exact heap_setCell_other w3 ⟨M, 6, none⟩ w1.heap.size _ hXM))]
    rw [cell_of_row U _ 3 _ _ _ hX3]; rfl
   refine hK.out _ _ x3w (fun hHeld => ?_)
   clear hK K hown hgrow hplace hwent hcx
   (try simp only [Act.put, zA, zB, zC, zD, zE, zF])
   refine wpAnyH_take (i := 9) (v := ?_) rfl (by kernel_rfl) (by kernel_rfl) (by kernel_rfl) (fun _ _ _ h => h) (Or.inl ⟨by rfl, ?_⟩) (by assumption) ?_
   rotate_left 1
   ·intro w hSw
    (try dsimp only at hSw)
    (go_simp) <;> (with_reducible rfl)
   (try simp only [Act.put, zA, zB, zC, zD, zE, zF])
   refine wpAnyH_take (i := 10) (v := ?_) rfl (by kernel_rfl) (by kernel_rfl) (by kernel_rfl) (fun _ _ _ h => h) (Or.inl ⟨by rfl, ?_⟩) (by assumption) ?_
   rotate_left 1
   ·intro w hSw
    (try dsimp only at hSw)
    (go_simp) <;> (with_reducible rfl)
   (try simp only [Act.put, zA, zB, zC, zD, zE, zF])
   refine wpAnyH_ready (rs := [11]) (by kernel_rfl) (by simp) (AllReadyH.cons rfl (fun K hK => ?_) AllReadyH.nil)
   go_simp
   rw [hU.out]
   refine hK.out _ _ (by rw [cell_of_row U _ 3 _ _ _ hX3]; rfl) (fun hHeld => ?_)
   clear hK K
   refine wpAnyH_done (by kernel_rfl) ?_ _
   have HX3 := Lib.hid hX3
   have HN3 := Lib.hid hN3
   clear hX3 hN3 kM fM x3w
   go_wp2_with (first | (with_reducible show wpList _ _ _ (Oper.mk _ (Op.load 75 _) _ _ _ none :: _) _ _; refine load_stmt rfl _ rfl w1.heap.size _ rfl HX3.out rfl ?_) | (with_reducible show wpList _ _ _ (Oper.mk none (Op.store 75 _ _) _ _ _ none :: _) _ _; refine store_stmt rfl rfl _ _ rfl w.heap.size _ (declCells nm ⟨#[]⟩ 3) rfl rfl HN3.out rfl rfl (declCells_one _ _ _) ?_; intro U2 hU2))
   (try simp only [Exit.inBlock, Exit.then])
   have hld := ret_stmt hU2.at_ rfl
   refine bodyPost_ret (v := .agg (declCells nm ⟨#[]⟩ 3)) (by simp [results, Tryd.results41, Act.put, asAddr, Result.andThen, hld]) rfl ?_
   exact ⟨nm, ⟨#[]⟩, 3, ⟨M, T, f, funcs, (cn + 1 : Nat), left, P, S, Q, A', pl, pc, sl, sc, ql, qc, rl + 1, c', A, len, cap⟩, rfl, hnm, by decide, by decide, ⟨rfl, rfl, rfl, rfl, rfl, rfl, rfl, rfl, rfl, rfl, by show sl ≤ sl; omega, by show ql ≤ ql; omega, by show rl ≤ rl + 1; omega, by show (cn : Int) ≤ ((cn + 1 : Nat) : Int); omega⟩, by show ((cn + 1 : Nat) : Int) = (cn : Int) + 1; omega, rfl, HCU.out.set HN3.out (by decide) hU2 HLO.out, HWU.out.set hU2 (Nat.le_refl _)⟩
  ·go_simp
   refine hK.out _ _ (x3' _) (fun hHeld => ?_)
   clear hK K
   (try simp only [Act.put, zA, zB, zC, zD, zE, zF])
   refine wpAnyH_ready (rs := [4]) (by kernel_rfl) (by simp) (AllReadyH.cons rfl (fun K hK => ?_) AllReadyH.nil)
   go_simp
   refine hK.out _ _ (x3' _) (fun hHeld => ?_)
   clear hK K
   (try simp only [Act.put, zA, zB, zC, zD, zE, zF])
   refine wpAnyH_ready (rs := [8]) (by kernel_rfl) (by simp) (AllReadyH.cons rfl (fun K hK => ?_) AllReadyH.nil)
   rw [if_pos (by rfl)]
   refine wp_append_name _ _ rfl B R rl rc Wc.heap.size 1 nm rfl (HCY.out _).r rfl HY.out hnm (by omega) (by have := HYS.out; omega) ?_
   intro A' c' w3 hown hgrow hplace
   have hs3 := hgrow.size
   obtain ⟨kM, fM, hcx, hwent⟩ := (HCY.out (.cells #[.string nm] 9)).pushR hgrow hown hplace ⟨by show (0 : Int) ≤ ((cn + 1 : Nat) : Int); omega, n2, by show ((cn + 1 : Nat) : Int) + left ≤ 22; omega, by show ((sl : Nat) : Int) ≤ 4 + ((cn + 1 : Nat) : Int); omega, by show ((ql : Nat) : Int) ≤ ((cn + 1 : Nat) : Int); omega, by show ((rl + 1 : Nat) : Int) ≤ ((cn + 1 : Nat) : Int); omega, n7, n8, n9⟩
   dsimp only at kM fM hcx hwent
   have hX3 := (Went.trans (Went.of_below (lo := lo) (B := B) (HYB.out (.cells #[.string nm] 9))) hwent).typed _ _ _ _ (by decide) (by decide) (by decide) HXc.out
   have hN3 := (Went.trans (Went.of_below (lo := lo) (B := B) (HYB.out (.cells #[.string nm] 9))) hwent).typed _ _ _ _ (by decide) (by decide) (by decide) HNc.out
   have HWU := Lib.hid (HWc.out.trans ((Went.of_below (lo := lo) (B := B) (HYB.out (.cells #[.string nm] 9))).trans hwent))
   obtain ⟨U, hU⟩ : ∃ U, Hid (w3.setCell ⟨M, 6, none⟩ (.slice A' (rl + 1) c') = U) := ⟨_, Lib.hid rfl⟩
   rw [hU.out] at hX3 hN3 HWU hcx
   have HCU := Lib.hid hcx
   have x3w : w3.cell? ⟨w1.heap.size, 3, none⟩ = some (.string nm) := by
    rw [← (World.cell?_of_block (w := w3) (a := ⟨w1.heap.size, 3, none⟩) (w' := U) (by rw [← hU.out]; exact heap_setCell_other w3 ⟨M, 6, none⟩ w1.heap.size _ hXM))]
    rw [cell_of_row U _ 3 _ _ _ hX3]; rfl
   refine hK.out _ _ x3w (fun hHeld => ?_)
   clear hK K hown hgrow hplace hwent hcx
   (try simp only [Act.put, zA, zB, zC, zD, zE, zF])
   refine wpAnyH_take (i := 9) (v := ?_) rfl (by kernel_rfl) (by kernel_rfl) (by kernel_rfl) (fun _ _ _ h => h) (Or.inl ⟨by rfl, ?_⟩) (by assumption) ?_
   rotate_left 1
   ·intro w hSw
    (try dsimp only at hSw)
    (go_simp) <;> (with_reducible rfl)
   (try simp only [Act.put, zA, zB, zC, zD, zE, zF])
   refine wpAnyH_take (i := 10) (v := ?_) rfl (by kernel_rfl) (by kernel_rfl) (by kernel_rfl) (fun _ _ _ h => h) (Or.inl ⟨by rfl, ?_⟩) (by assumption) ?_
   rotate_left 1
   ·intro w hSw
    (try dsimp only at hSw)
    (go_simp) <;> (with_reducible rfl)
   (try simp only [Act.put, zA, zB, zC, zD, zE, zF])
   refine wpAnyH_ready (rs := [11]) (by kernel_rfl) (by simp) (AllReadyH.cons rfl (fun K hK => ?_) AllReadyH.nil)
   go_simp
   rw [hU.out]
   refine hK.out _ _ (by rw [cell_of_row U _ 3 _ _ _ hX3]; rfl) (fun hHeld => ?_)
   clear hK K
   refine wpAnyH_done (by kernel_rfl) ?_ _
   have HX3 := Lib.hid hX3
   have HN3 := Lib.hid hN3
   clear hX3 hN3 kM fM x3w
   go_wp2_with (first | (with_reducible show wpList _ _ _ (Oper.mk _ (Op.load 75 _) _ _ _ none :: _) _ _; refine load_stmt rfl _ rfl w1.heap.size _ rfl HX3.out rfl ?_) | (with_reducible show wpList _ _ _ (Oper.mk none (Op.store 75 _ _) _ _ _ none :: _) _ _; refine store_stmt rfl rfl _ _ rfl w.heap.size _ (declCells nm ⟨#[]⟩ 3) rfl rfl HN3.out rfl rfl (declCells_one _ _ _) ?_; intro U2 hU2))
   (try simp only [Exit.inBlock, Exit.then])
   have hld := ret_stmt hU2.at_ rfl
   refine bodyPost_ret (v := .agg (declCells nm ⟨#[]⟩ 3)) (by simp [results, Tryd.results41, Act.put, asAddr, Result.andThen, hld]) rfl ?_
   exact ⟨nm, ⟨#[]⟩, 3, ⟨M, T, f, funcs, (cn + 1 : Nat), left, P, S, Q, A', pl, pc, sl, sc, ql, qc, rl + 1, c', A, len, cap⟩, rfl, hnm, by decide, by decide, ⟨rfl, rfl, rfl, rfl, rfl, rfl, rfl, rfl, rfl, rfl, by show sl ≤ sl; omega, by show ql ≤ ql; omega, by show rl ≤ rl + 1; omega, by show (cn : Int) ≤ ((cn + 1 : Nat) : Int); omega⟩, by show ((cn + 1 : Nat) : Int) = (cn : Int) + 1; omega, rfl, HCU.out.set HN3.out (by decide) hU2 HLO.out, HWU.out.set hU2 (Nat.le_refl _)⟩
 ·
  have hXc := hX2
  have HCc := HC2
  have HWc := HW2
  have hNc := hN2
  obtain ⟨Wc, hWc⟩ : ∃ W, Hid (w2 = W) := ⟨_, Lib.hid rfl⟩
  rw [hWc.out] at hXc HCc HWc hNc
  have hsc : w2.heap.size ≤ Wc.heap.size := by rw [hWc.out]; exact Nat.le_refl _
  clear hX2 HC2 HW2 hN2
  go_wp2_with fail
  rw [hWc.out]
  have HXc := Lib.hid hXc
  have HNc := Lib.hid hNc
  have x3 : Wc.drew.cell? ⟨w1.heap.size, 3, none⟩ = some (.string nm) := by
   have := cell_of_row Wc w1.heap.size 3 _ _ _ HXc.out
   exact this
  have em : Wc.drew.cell? ⟨M, 4, none⟩ = some (.slice S sl sc) := HCc.out.maker.cell 4 (.slice S sl sc) rfl
  have em' : ∀ o, (Wc.alloc o).drew.cell? ⟨M, 4, none⟩ = some (.slice S sl sc) := fun o => (World.cell?_alloc_lt _ _ _ HCc.out.maker.lt).trans em
  have x3' : ∀ o, (Wc.alloc o).drew.cell? ⟨w1.heap.size, 3, none⟩ = some (.string nm) := fun o => (World.cell?_alloc_lt _ _ _ (show w1.heap.size < Wc.heap.size by omega)).trans x3
  have hY : ∀ o, Below Wc.heap.size Wc (Wc.alloc o).drew := fun o => below_drewed ((Below.refl _ _).alloc (Nat.le_refl _) o)
  have HYB := Lib.hid hY
  have HCY : Hid (∀ o, Cx lo B _ (Wc.alloc o).drew) := Lib.hid (fun o => HCc.out.below (hY o))
  have HY : Hid ((Wc.alloc (.cells #[.string nm] 9)).drew.cell? ⟨Wc.heap.size, 0, none⟩ = some (.string nm)) := Lib.hid (by
   show (Wc.alloc (.cells #[.string nm] 9)).cell? ⟨Wc.heap.size, 0, none⟩ = some (.string nm)
   rw [World.cell?_alloc_at _ _ _ _ rfl]; rfl)
  have hYs : (Wc.alloc (.cells #[.string nm] 9)).drew.heap.size = Wc.heap.size + 1 := Array.size_push _
  have HYS := Lib.hid hYs
  have hBc : B ≤ Wc.heap.size := by omega
  clear hXc hNc hY hYs
  refine wp_region_held_drew (S := fun w' => w'.cell? ⟨w1.heap.size, 3, none⟩ = some (.string nm)) (by kernel_rfl) x3 (fun hHeld => ?_)
  refine wpAnyH_take (i := 0) (v := ?_) rfl (by kernel_rfl) (by kernel_rfl) (by kernel_rfl) (fun _ _ _ h => h) (Or.inl ⟨by rfl, ?_⟩) (by assumption) ?_
  rotate_left 1
  ·intro w hSw
   (try dsimp only at hSw)
   (go_simp) <;> (with_reducible rfl)
  (try simp only [Act.put, zA, zB, zC, zD, zE, zF])
  refine wpAnyH_take (i := 1) (v := ?_) rfl (by kernel_rfl) (by kernel_rfl) (by kernel_rfl) (fun _ _ _ h => h) (Or.inl ⟨by rfl, ?_⟩) (by assumption) ?_
  rotate_left 1
  ·intro w hSw
   (try dsimp only at hSw)
   (go_simp) <;> (with_reducible rfl)
  (try simp only [Act.put, zA, zB, zC, zD, zE, zF])
  refine wpAnyH_take (i := 2) (v := ?_) rfl (by kernel_rfl) (by kernel_rfl) (by kernel_rfl) (fun _ _ _ h => h) (Or.inl ⟨by rfl, ?_⟩) (by assumption) ?_
  rotate_left 1
  ·intro w hSw
   (try dsimp only at hSw)
   (go_simp) <;> (with_reducible rfl)
  (try simp only [Act.put, zA, zB, zC, zD, zE, zF])
  refine wpAnyH_take (i := 3) (v := ?_) rfl (by kernel_rfl) (by kernel_rfl) (by kernel_rfl) (fun _ _ _ h => h) (Or.inl ⟨by rfl, ?_⟩) (by assumption) ?_
  rotate_left 1
  ·intro w hSw
   (try dsimp only at hSw)
   (go_simp) <;> (with_reducible rfl)
  (try simp only [Act.put, zA, zB, zC, zD, zE, zF])
  refine wpAnyH_take (i := 5) (v := ?_) rfl (by kernel_rfl) (by kernel_rfl) (by kernel_rfl) (fun _ _ _ h => h) (Or.inl ⟨by rfl, ?_⟩) (by assumption) ?_
  rotate_left 1
  ·intro w hSw
   (try dsimp only at hSw)
   (go_simp) <;> (with_reducible rfl)
  (try simp only [Act.put, zA, zB, zC, zD, zE, zF])
  refine wpAnyH_take (i := 6) (v := ?_) rfl (by kernel_rfl) (by kernel_rfl) (by kernel_rfl) (fun _ _ _ h => h) (Or.inl ⟨by rfl, ?_⟩) (by assumption) ?_
  rotate_left 1
  ·intro w hSw
   (try dsimp only at hSw)
   (go_simp) <;> (with_reducible rfl)
  (try simp only [Act.put, zA, zB, zC, zD, zE, zF])
  refine wpAnyH_ready (rs := [4, 7]) (by kernel_rfl) (by simp) (AllReadyH.cons rfl (fun K hK => ?_) (AllReadyH.cons rfl (fun K hK => ?_) AllReadyH.nil))
  ·go_simp
   refine hK.out _ _ x3 (fun hHeld => ?_)
   clear hK K
   (try simp only [Act.put, zA, zB, zC, zD, zE, zF])
   refine wpAnyH_ready (rs := [7]) (by kernel_rfl) (by simp) (AllReadyH.cons rfl (fun K hK => ?_) AllReadyH.nil)
   go_simp
   refine hK.out _ _ (x3' _) (fun hHeld => ?_)
   clear hK K
   (try simp only [Act.put, zA, zB, zC, zD, zE, zF])
   refine wpAnyH_ready (rs := [8]) (by kernel_rfl) (by simp) (AllReadyH.cons rfl (fun K hK => ?_) AllReadyH.nil)
   rw [if_pos (by rfl)]
   refine wp_append_name _ _ rfl B S sl sc Wc.heap.size 1 nm rfl (HCY.out _).s rfl HY.out hnm (by omega) (by have := HYS.out; omega) ?_
   intro A' c' w3 hown hgrow hplace
   have hs3 := hgrow.size
   obtain ⟨kM, fM, hcx, hwent⟩ := (HCY.out (.cells #[.string nm] 9)).pushS hgrow hown hplace ⟨by show (0 : Int) ≤ ((cn + 1 : Nat) : Int); omega, n2, by show ((cn + 1 : Nat) : Int) + left ≤ 22; omega, by show ((sl + 1 : Nat) : Int) ≤ 4 + ((cn + 1 : Nat) : Int); omega, by show ((ql : Nat) : Int) ≤ ((cn + 1 : Nat) : Int); omega, by show ((rl : Nat) : Int) ≤ ((cn + 1 : Nat) : Int); omega, n7, n8, n9⟩
   dsimp only at kM fM hcx hwent
   have hX3 := (Went.trans (Went.of_below (lo := lo) (B := B) (HYB.out (.cells #[.string nm] 9))) hwent).typed _ _ _ _ (by decide) (by decide) (by decide) HXc.out
   have hN3 := (Went.trans (Went.of_below (lo := lo) (B := B) (HYB.out (.cells #[.string nm] 9))) hwent).typed _ _ _ _ (by decide) (by decide) (by decide) HNc.out
   have HWU := Lib.hid (HWc.out.trans ((Went.of_below (lo := lo) (B := B) (HYB.out (.cells #[.string nm] 9))).trans hwent))
   obtain ⟨U, hU⟩ : ∃ U, Hid (w3.setCell ⟨M, 4, none⟩ (.slice A' (sl + 1) c') = U) := ⟨_, Lib.hid rfl⟩
   rw [hU.out] at hX3 hN3 HWU hcx
   have HCU := Lib.hid hcx
   have x3w : w3.cell? ⟨w1.heap.size, 3, none⟩ = some (.string nm) := by
    rw [← (World.cell?_of_block (w := w3) (a := ⟨w1.heap.size, 3, none⟩) (w' := U) (by rw [← hU.out]; exact heap_setCell_other w3 ⟨M, 4, none⟩ w1.heap.size _ hXM))]
    rw [cell_of_row U _ 3 _ _ _ hX3]; rfl
   refine hK.out _ _ x3w (fun hHeld => ?_)
   clear hK K hown hgrow hplace hwent hcx
   (try simp only [Act.put, zA, zB, zC, zD, zE, zF])
   refine wpAnyH_take (i := 9) (v := ?_) rfl (by kernel_rfl) (by kernel_rfl) (by kernel_rfl) (fun _ _ _ h => h) (Or.inl ⟨by rfl, ?_⟩) (by assumption) ?_
   rotate_left 1
   ·intro w hSw
    (try dsimp only at hSw)
    (go_simp) <;> (with_reducible rfl)
   (try simp only [Act.put, zA, zB, zC, zD, zE, zF])
   refine wpAnyH_take (i := 10) (v := ?_) rfl (by kernel_rfl) (by kernel_rfl) (by kernel_rfl) (fun _ _ _ h => h) (Or.inl ⟨by rfl, ?_⟩) (by assumption) ?_
   rotate_left 1
   ·intro w hSw
    (try dsimp only at hSw)
    (go_simp) <;> (with_reducible rfl)
   (try simp only [Act.put, zA, zB, zC, zD, zE, zF])
   refine wpAnyH_ready (rs := [11]) (by kernel_rfl) (by simp) (AllReadyH.cons rfl (fun K hK => ?_) AllReadyH.nil)
   go_simp
   rw [hU.out]
   refine hK.out _ _ (by rw [cell_of_row U _ 3 _ _ _ hX3]; rfl) (fun hHeld => ?_)
   clear hK K
   refine wpAnyH_done (by kernel_rfl) ?_ _
   have HX3 := Lib.hid hX3
   have HN3 := Lib.hid hN3
   clear hX3 hN3 kM fM x3w
   go_wp2_with (first | (with_reducible show wpList _ _ _ (Oper.mk _ (Op.load 75 _) _ _ _ none :: _) _ _; refine load_stmt rfl _ rfl w1.heap.size _ rfl HX3.out rfl ?_) | (with_reducible show wpList _ _ _ (Oper.mk none (Op.store 75 _ _) _ _ _ none :: _) _ _; refine store_stmt rfl rfl _ _ rfl w.heap.size _ (declCells nm ⟨#[]⟩ 0) rfl rfl HN3.out rfl rfl (declCells_one _ _ _) ?_; intro U2 hU2))
   (try simp only [Exit.inBlock, Exit.then])
   have hld := ret_stmt hU2.at_ rfl
   refine bodyPost_ret (v := .agg (declCells nm ⟨#[]⟩ 0)) (by simp [results, Tryd.results41, Act.put, asAddr, Result.andThen, hld]) rfl ?_
   exact ⟨nm, ⟨#[]⟩, 0, ⟨M, T, f, funcs, (cn + 1 : Nat), left, P, A', Q, R, pl, pc, sl + 1, c', ql, qc, rl, rc, A, len, cap⟩, rfl, hnm, by decide, by decide, ⟨rfl, rfl, rfl, rfl, rfl, rfl, rfl, rfl, rfl, rfl, by show sl ≤ sl + 1; omega, by show ql ≤ ql; omega, by show rl ≤ rl; omega, by show (cn : Int) ≤ ((cn + 1 : Nat) : Int); omega⟩, by show ((cn + 1 : Nat) : Int) = (cn : Int) + 1; omega, rfl, HCU.out.set HN3.out (by decide) hU2 HLO.out, HWU.out.set hU2 (Nat.le_refl _)⟩
  ·go_simp
   refine hK.out _ _ (x3' _) (fun hHeld => ?_)
   clear hK K
   (try simp only [Act.put, zA, zB, zC, zD, zE, zF])
   refine wpAnyH_ready (rs := [4]) (by kernel_rfl) (by simp) (AllReadyH.cons rfl (fun K hK => ?_) AllReadyH.nil)
   go_simp
   refine hK.out _ _ (x3' _) (fun hHeld => ?_)
   clear hK K
   (try simp only [Act.put, zA, zB, zC, zD, zE, zF])
   refine wpAnyH_ready (rs := [8]) (by kernel_rfl) (by simp) (AllReadyH.cons rfl (fun K hK => ?_) AllReadyH.nil)
   rw [if_pos (by rfl)]
   refine wp_append_name _ _ rfl B S sl sc Wc.heap.size 1 nm rfl (HCY.out _).s rfl HY.out hnm (by omega) (by have := HYS.out; omega) ?_
   intro A' c' w3 hown hgrow hplace
   have hs3 := hgrow.size
   obtain ⟨kM, fM, hcx, hwent⟩ := (HCY.out (.cells #[.string nm] 9)).pushS hgrow hown hplace ⟨by show (0 : Int) ≤ ((cn + 1 : Nat) : Int); omega, n2, by show ((cn + 1 : Nat) : Int) + left ≤ 22; omega, by show ((sl + 1 : Nat) : Int) ≤ 4 + ((cn + 1 : Nat) : Int); omega, by show ((ql : Nat) : Int) ≤ ((cn + 1 : Nat) : Int); omega, by show ((rl : Nat) : Int) ≤ ((cn + 1 : Nat) : Int); omega, n7, n8, n9⟩
   dsimp only at kM fM hcx hwent
   have hX3 := (Went.trans (Went.of_below (lo := lo) (B := B) (HYB.out (.cells #[.string nm] 9))) hwent).typed _ _ _ _ (by decide) (by decide) (by decide) HXc.out
   have hN3 := (Went.trans (Went.of_below (lo := lo) (B := B) (HYB.out (.cells #[.string nm] 9))) hwent).typed _ _ _ _ (by decide) (by decide) (by decide) HNc.out
   have HWU := Lib.hid (HWc.out.trans ((Went.of_below (lo := lo) (B := B) (HYB.out (.cells #[.string nm] 9))).trans hwent))
   obtain ⟨U, hU⟩ : ∃ U, Hid (w3.setCell ⟨M, 4, none⟩ (.slice A' (sl + 1) c') = U) := ⟨_, Lib.hid rfl⟩
   rw [hU.out] at hX3 hN3 HWU hcx
   have HCU := Lib.hid hcx
   have x3w : w3.cell? ⟨w1.heap.size, 3, none⟩ = some (.string nm) := by
    rw [← (World.cell?_of_block (w := w3) (a := ⟨w1.heap.size, 3, none⟩) (w' := U) (by rw [← hU.out]; exact heap_setCell_other w3 ⟨M, 4, none⟩ w1.heap.size _ hXM))]
    rw [cell_of_row U _ 3 _ _ _ hX3]; rfl
   refine hK.out _ _ x3w (fun hHeld => ?_)
   clear hK K hown hgrow hplace hwent hcx
   (try simp only [Act.put, zA, zB, zC, zD, zE, zF])
   refine wpAnyH_take (i := 9) (v := ?_) rfl (by kernel_rfl) (by kernel_rfl) (by kernel_rfl) (fun _ _ _ h => h) (Or.inl ⟨by rfl, ?_⟩) (by assumption) ?_
   rotate_left 1
   ·intro w hSw
    (try dsimp only at hSw)
    (go_simp) <;> (with_reducible rfl)
   (try simp only [Act.put, zA, zB, zC, zD, zE, zF])
   refine wpAnyH_take (i := 10) (v := ?_) rfl (by kernel_rfl) (by kernel_rfl) (by kernel_rfl) (fun _ _ _ h => h) (Or.inl ⟨by rfl, ?_⟩) (by assumption) ?_
   rotate_left 1
   ·intro w hSw
    (try dsimp only at hSw)
    (go_simp) <;> (with_reducible rfl)
   (try simp only [Act.put, zA, zB, zC, zD, zE, zF])
   refine wpAnyH_ready (rs := [11]) (by kernel_rfl) (by simp) (AllReadyH.cons rfl (fun K hK => ?_) AllReadyH.nil)
   go_simp
   rw [hU.out]
   refine hK.out _ _ (by rw [cell_of_row U _ 3 _ _ _ hX3]; rfl) (fun hHeld => ?_)
   clear hK K
   refine wpAnyH_done (by kernel_rfl) ?_ _
   have HX3 := Lib.hid hX3
   have HN3 := Lib.hid hN3
   clear hX3 hN3 kM fM x3w
   go_wp2_with (first | (with_reducible show wpList _ _ _ (Oper.mk _ (Op.load 75 _) _ _ _ none :: _) _ _; refine load_stmt rfl _ rfl w1.heap.size _ rfl HX3.out rfl ?_) | (with_reducible show wpList _ _ _ (Oper.mk none (Op.store 75 _ _) _ _ _ none :: _) _ _; refine store_stmt rfl rfl _ _ rfl w.heap.size _ (declCells nm ⟨#[]⟩ 0) rfl rfl HN3.out rfl rfl (declCells_one _ _ _) ?_; intro U2 hU2))
   (try simp only [Exit.inBlock, Exit.then])
   have hld := ret_stmt hU2.at_ rfl
   refine bodyPost_ret (v := .agg (declCells nm ⟨#[]⟩ 0)) (by simp [results, Tryd.results41, Act.put, asAddr, Result.andThen, hld]) rfl ?_
   exact ⟨nm, ⟨#[]⟩, 0, ⟨M, T, f, funcs, (cn + 1 : Nat), left, P, A', Q, R, pl, pc, sl + 1, c', ql, qc, rl, rc, A, len, cap⟩, rfl, hnm, by decide, by decide, ⟨rfl, rfl, rfl, rfl, rfl, rfl, rfl, rfl, rfl, rfl, by show sl ≤ sl + 1; omega, by show ql ≤ ql; omega, by show rl ≤ rl; omega, by show (cn : Int) ≤ ((cn + 1 : Nat) : Int); omega⟩, by show ((cn + 1 : Nat) : Int) = (cn : Int) + 1; omega, rfl, HCU.out.set HN3.out (by decide) hU2 HLO.out, HWU.out.set hU2 (Nat.le_refl _)⟩
end Go.Proofs.YtchibamdkaejdaaDoor
namespace Go.Proofs.YtchibamdkaejdaaDoor
open Go.RowKit
variable {lo : Nat}

/-- Rows of expressions stay what they are. -/
def KeptE (w w' : World) : Prop := ∀ (b : Nat) (cur : Array Value) (fr : Nat × Nat), w.heap[b]? = some (.cells cur 72 fr) → w'.heap[b]? = some (.cells cur 72 fr)
theorem KeptX.e {w w' : World} (h : KeptX w w') : KeptE w w' := fun b cur fr hb => h b cur _ fr (.inl rfl) hb
theorem ExOk.keepE {w w' : World} (hk : KeptE w w') : ∀ {d : Nat} {v : Value} {n : Nat}, ExOk w d v n → ExOk w' d v n
 | 0, _, _, h => h.elim
 | d + 1, v, n, h => by
  obtain ⟨op, num, vr, nm, fld, A, len, cap, ns, h1, h2, h3, h4, h5, ⟨r1, r2, r3, r4⟩, h7⟩ := h
  refine ⟨op, num, vr, nm, fld, A, len, cap, ns, h1, h2, h3, h4, h5, ⟨r1, r2, r3, fun hl => ?_⟩, h7⟩
  obtain ⟨b, cur, fr, hA, hb, hc⟩ := r4 hl
  refine ⟨b, cur, fr, hA, hk b cur fr hb, fun k n hkn => ?_⟩
  obtain ⟨vs, hl', hcell, hP⟩ := hc k n hkn
  exact ⟨vs, hl', hcell, ExOk.keepE hk hP⟩
theorem RowsOk.keepE {w w' : World} {d len cap : Nat} {A : Option Addr} {ns : List Nat} (hk : KeptE w w') (h : RowsOk (ExOk w d) w 72 6 A len cap ns) : RowsOk (ExOk w' d) w' 72 6 A len cap ns := by
 obtain ⟨r1, r2, r3, r4⟩ := h
 refine ⟨r1, r2, r3, fun hl => ?_⟩
 obtain ⟨b, cur, fr, hA, hb, hc⟩ := r4 hl
 refine ⟨b, cur, fr, hA, hk b cur fr hb, fun k n hkn => ?_⟩
 obtain ⟨vs, hl', hcell, hP⟩ := hc k n hkn
 exact ⟨vs, hl', hcell, hP.keepE hk⟩
/-- A statement of depth below d and weight n; its rows of statements lie where p says. -/
def StIn (w : World) (p : Nat → Prop) : Nat → Value → Nat → Prop
 | 0, _, _ => False
 | d + 1, v, n => ∃ (kind len : Nat) (line id vr callee : Int) (nm ty fn : ByteArray) (A1 A2 A3 A4 : Option Addr) (l1 c1 l2 c2 l3 c3 l4 c4 : Nat) (n1 n2 n3 n4 : List Nat),
   v = .agg #[.int .i64 kind, .int .i64 line, .int .i64 id, .string nm, .string ty, .int .i64 len, .int .i64 vr, .slice A1 l1 c1, .string fn, .int .i64 callee, .slice A2 l2 c2, .slice A3 l3 c3, .slice A4 l4 c4] ∧
   (1 ≤ kind ∧ kind ≤ 10 ∧ (l1 = 0 ∨ kind = 2 ∨ kind = 3)) ∧ len ≤ 100 ∧ nm.size ≤ 20 ∧ ty.size ≤ 20 ∧ fn.size ≤ 20 ∧
   RowsOk (ExOk w 8) w 72 6 A1 l1 c1 n1 ∧ RowsOk (ExOk w 8) w 72 6 A2 l2 c2 n2 ∧
   RowsOk (StIn w p d) w 75 13 A3 l3 c3 n3 ∧ RowsOk (StIn w p d) w 75 13 A4 l4 c4 n4 ∧ (l3 ≠ 0 → ∃ b o, A3 = some ⟨b, o, none⟩ ∧ p b) ∧ (l4 ≠ 0 → ∃ b o, A4 = some ⟨b, o, none⟩ ∧ p b) ∧ n = 1 + n1.sum + n2.sum + n3.sum + n4.sum
/-- A row of statements, and where its block is. -/
def StRow (w : World) (p : Nat → Prop) (d : Nat) (A : Option Addr) (l c : Nat) (ns : List Nat) : Prop := RowsOk (StIn w p d) w 75 13 A l c ns ∧ (l ≠ 0 → ∃ b o, A = some ⟨b, o, none⟩ ∧ p b)
section
variable {w w' : World} {p q : Nat → Prop}
theorem StIn.ok : ∀ {d : Nat} {v : Value} {n : Nat}, StIn w p d v n → StOk w d v n
 | 0, _, _, h => h.elim
 | d + 1, v, n, h => by
  obtain ⟨kind, len, line, id, vr, callee, nm, ty, fn, A1, A2, A3, A4, l1, c1, l2, c2, l3, c3, l4, c4, n1, n2, n3, n4, h1, h2, h3, h4, h5, h6, r1, r2, r3, r4, _, _, h7⟩ := h
  exact ⟨kind, len, line, id, vr, callee, nm, ty, fn, A1, A2, A3, A4, l1, c1, l2, c2, l3, c3, l4, c4, n1, n2, n3, n4, h1, h2, h3, h4, h5, h6, r1, r2, r3.up (fun v n hv => StIn.ok hv), r4.up (fun v n hv => StIn.ok hv), h7⟩
theorem StIn.mono (hp : ∀ b, b < w.heap.size → p b → q b) : ∀ {d : Nat} {v : Value} {n : Nat}, StIn w p d v n → StIn w q d v n
 | 0, _, _, h => h.elim
 | d + 1, v, n, h => by
  obtain ⟨kind, len, line, id, vr, callee, nm, ty, fn, A1, A2, A3, A4, l1, c1, l2, c2, l3, c3, l4, c4, n1, n2, n3, n4, h1, h2, h3, h4, h5, h6, r1, r2, r3, r4, q3, q4, h7⟩ := h
  have hq : ∀ {A : Option Addr} {l c : Nat} {ns : List Nat}, RowsOk (StIn w p d) w 75 13 A l c ns → (l ≠ 0 → ∃ b o, A = some ⟨b, o, none⟩ ∧ p b) → (l ≠ 0 → ∃ b o, A = some ⟨b, o, none⟩ ∧ q b) := fun r hh hl => by
   obtain ⟨b, o, hA, hb⟩ := hh hl
   obtain ⟨b', cur, fr, hA', hb', _⟩ := r.2.2.2 hl
   rw [hA] at hA'
   injection hA' with hA'
   injection hA' with hA'
   subst hA'
   exact ⟨b, o, hA, hp b (Array.getElem?_eq_some_iff.1 hb').1 hb⟩
  exact ⟨kind, len, line, id, vr, callee, nm, ty, fn, A1, A2, A3, A4, l1, c1, l2, c2, l3, c3, l4, c4, n1, n2, n3, n4, h1, h2, h3, h4, h5, h6, r1, r2, r3.up (fun v n hv => StIn.mono hp hv), r4.up (fun v n hv => StIn.mono hp hv), hq r3 q3, hq r4 q4, h7⟩
theorem StIn.keep (hE : KeptE w w') (hS : ∀ b cur fr, p b → w.heap[b]? = some (.cells cur 75 fr) → w'.heap[b]? = some (.cells cur 75 fr)) : ∀ {d : Nat} {v : Value} {n : Nat}, StIn w p d v n → StIn w' p d v n
 | 0, _, _, h => h.elim
 | d + 1, v, n, h => by
  obtain ⟨kind, len, line, id, vr, callee, nm, ty, fn, A1, A2, A3, A4, l1, c1, l2, c2, l3, c3, l4, c4, n1, n2, n3, n4, h1, h2, h3, h4, h5, h6, r1, r2, r3, r4, q3, q4, h7⟩ := h
  have hq : ∀ {A : Option Addr} {l c : Nat} {ns : List Nat}, RowsOk (StIn w p d) w 75 13 A l c ns → (l ≠ 0 → ∃ b o, A = some ⟨b, o, none⟩ ∧ p b) → RowsOk (StIn w' p d) w' 75 13 A l c ns := fun ⟨a1, a2, a3, a4⟩ hh => by
   refine ⟨a1, a2, a3, fun hl => ?_⟩
   obtain ⟨b, cur, fr, hA, hb, hc⟩ := a4 hl
   obtain ⟨b', o, hA', hpb⟩ := hh hl
   rw [hA] at hA'
   injection hA' with hA'
   injection hA' with hA'
   subst hA'
   refine ⟨b, cur, fr, hA, hS b cur fr hpb hb, fun k n hkn => ?_⟩
   obtain ⟨vs, hl', hcell, hP⟩ := hc k n hkn
   exact ⟨vs, hl', hcell, StIn.keep hE hS hP⟩
  exact ⟨kind, len, line, id, vr, callee, nm, ty, fn, A1, A2, A3, A4, l1, c1, l2, c2, l3, c3, l4, c4, n1, n2, n3, n4, h1, h2, h3, h4, h5, h6, r1.keepE hE, r2.keepE hE, hq r3 q3, hq r4 q4, q3, q4, h7⟩
theorem StIn.up : ∀ {d : Nat} {v : Value} {n : Nat}, StIn w p d v n → StIn w p (d + 1) v n
 | 0, _, _, h => h.elim
 | d + 1, v, n, h => by
  obtain ⟨kind, len, line, id, vr, callee, nm, ty, fn, A1, A2, A3, A4, l1, c1, l2, c2, l3, c3, l4, c4, n1, n2, n3, n4, h1, h2, h3, h4, h5, h6, r1, r2, r3, r4, h7⟩ := h
  exact ⟨kind, len, line, id, vr, callee, nm, ty, fn, A1, A2, A3, A4, l1, c1, l2, c2, l3, c3, l4, c4, n1, n2, n3, n4, h1, h2, h3, h4, h5, h6, r1, r2, r3.up (fun v n hv => StIn.up hv), r4.up (fun v n hv => StIn.up hv), h7⟩
theorem StIn.le {d d' : Nat} {v : Value} {n : Nat} (h : StIn w p d v n) (hd : d ≤ d') : StIn w p d' v n := by
 induction hd with
 | refl => exact h
 | step _ ih => exact ih.up
theorem StIn.pos {d : Nat} {v : Value} {n : Nat} (h : StIn w p d v n) : 1 ≤ n := by
 cases d with
 | zero => exact h.elim
 | succ d =>
  obtain ⟨kind, len, line, id, vr, callee, nm, ty, fn, A1, A2, A3, A4, l1, c1, l2, c2, l3, c3, l4, c4, n1, n2, n3, n4, h1, h2, h3, h4, h5, h6, r1, r2, r3, r4, _, _, h7⟩ := h
  omega
theorem StRow.keep {d l c : Nat} {A : Option Addr} {ns : List Nat} (h : StRow w p d A l c ns) (hk : KeptX w w') : StRow w' p d A l c ns :=
 ⟨h.1.keep (.inr rfl) hk (fun _ _ hv => hv.keep hk.e (fun b cur fr _ hb => hk b cur _ fr (.inr rfl) hb)), h.2⟩
theorem StRow.mono {d l c : Nat} {A : Option Addr} {ns : List Nat} (h : StRow w p d A l c ns) (hp : ∀ b, b < w.heap.size → p b → q b) : StRow w q d A l c ns :=
 ⟨h.1.up (fun _ _ hv => hv.mono hp), fun hl => by
  obtain ⟨b, o, hA, hb⟩ := h.2 hl
  obtain ⟨b', cur, fr, hA', hb', _⟩ := h.1.2.2.2 hl
  rw [hA] at hA'
  injection hA' with hA'
  injection hA' with hA'
  subst hA'
  exact ⟨b, o, hA, hp b (Array.getElem?_eq_some_iff.1 hb').1 hb⟩⟩
theorem StRow.nil (w : World) (p : Nat → Prop) (d : Nat) : StRow w p d none 0 0 [] := ⟨⟨rfl, Nat.le_refl _, by decide, fun h => absurd rfl h⟩, fun h => absurd rfl h⟩
end
/-- A row of statements of its own, from N on, whose elements' rows are not the row itself. -/
def StsAt (w : World) (N d : Nat) (A : Option Addr) (l c : Nat) (ns : List Nat) : Prop := ∃ xs : List Value, w.ownsRow N 75 13 (.slice A l c) l xs ∧ ns.length = l ∧
 ∀ k n, ns[k]? = some n → ∃ vs : List Value, vs.length = 13 ∧ (∀ j, j < 13 → xs[k * 13 + j]? = vs[j]?) ∧ StIn w (fun b => N ≤ b ∧ some b ≠ blk A) d (.agg vs.toArray) n
theorem StsAt.nil (w : World) (N d : Nat) : StsAt w N d none 0 0 [] := ⟨[], World.ownsRow_nil w N _ 13, rfl, fun k n hk => by simp at hk⟩
theorem StsAt.place {w : World} {N d l c : Nat} {A : Option Addr} {ns : List Nat} (h : StsAt w N d A l c ns) : ∀ g, blk A = some g → N ≤ g ∧ g < w.heap.size ∧ ∃ cur, w.heap[g]? = some (.cells cur 75 (0, 0)) := by
 obtain ⟨xs, ⟨h1, h2⟩, hl, hx⟩ := h
 intro g hg
 rcases h2 with ⟨e, _⟩ | ⟨g', cap, cur, e, hb, hgg, hr⟩
 ·injection e with e1
  rw [e1] at hg
  exact absurd hg (by simp [blk])
 ·injection e with e1
  rw [e1] at hg
  simp only [blk, Option.map_some, Option.some.injEq] at hg
  subst hg
  exact ⟨hb, (Array.getElem?_eq_some_iff.1 hgg).1, cur, hgg⟩
theorem StsAt.row {w : World} {N d l c : Nat} {A : Option Addr} {ns : List Nat} (h : StsAt w N d A l c ns) : StRow w (fun b => N ≤ b) d A l c ns := by
 have hpl := h.place
 obtain ⟨xs, ⟨h1, h2⟩, hl, hx⟩ := h
 rcases h2 with ⟨e, e0⟩ | ⟨g, cap, cur, e, hb, hg, hr1, hr2, hr3, hr4⟩
 ·injection e with e1 e2 e3
  exact ⟨⟨hl, by omega, by unfold maxLen; omega, fun hh => absurd e0 hh⟩, fun hh => absurd e0 hh⟩
 ·injection e with e1 e2 e3
  subst e1 e3
  refine ⟨⟨hl, hr1, hr2, fun _ => ⟨g, cur, _, rfl, hg, fun k n hk => ?_⟩⟩, fun _ => ⟨g, 0, rfl, hb⟩⟩
  obtain ⟨vs, hv, hc, hP⟩ := hx k n hk
  refine ⟨vs, hv, fun j hj => ?_, hP.mono (fun _ _ hp => hp.1)⟩
  have hk' : k < l := by rw [← hl]; exact (List.getElem?_eq_some_iff.1 hk).1
  rw [← hc j hj, ← hr4, List.getElem?_take, if_pos (by omega), Array.getElem?_toList]
theorem StsAt.kept {w w' : World} {N d l c : Nat} {A : Option Addr} {ns : List Nat} (h : StsAt w N d A l c ns) (hk : KeptX w w') : StsAt w' N d A l c ns := by
 obtain ⟨xs, ⟨h1, h2⟩, hl, hx⟩ := h
 refine ⟨xs, ⟨h1, ?_⟩, hl, fun k n hkn => ?_⟩
 ·rcases h2 with h2 | ⟨g, cap, cur, e, hb, hg, hr⟩
  ·exact .inl h2
  ·exact .inr ⟨g, cap, cur, e, hb, hk g cur _ _ (.inr rfl) hg, hr⟩
 ·obtain ⟨vs, hv, hc, hP⟩ := hx k n hkn
  exact ⟨vs, hv, hc, hP.keep hk.e (fun b cur fr _ hb => hk b cur _ fr (.inr rfl) hb)⟩
theorem StsAt.base {w : World} {N N' d l c : Nat} {A : Option Addr} {ns : List Nat} (h : StsAt w N d A l c ns) (hN : N' ≤ N) : StsAt w N' d A l c ns := by
 obtain ⟨xs, ⟨h1, h2⟩, hl, hx⟩ := h
 refine ⟨xs, ⟨h1, ?_⟩, hl, fun k n hkn => ?_⟩
 ·rcases h2 with h2 | ⟨g, cap, cur, e, hb, hg, hr⟩
  ·exact .inl h2
  ·exact .inr ⟨g, cap, cur, e, Nat.le_trans hN hb, hg, hr⟩
 ·obtain ⟨vs, hv, hc, hP⟩ := hx k n hkn
  exact ⟨vs, hv, hc, hP.mono (fun b _ hp => ⟨Nat.le_trans hN hp.1, hp.2⟩)⟩
/-- Statements more: the row has grown by them. -/
theorem StsAt.step {w w2 : World} {N d l c c' m : Nat} {A A' : Option Addr} {ns ms : List Nat} {xs news : List Value} (hrow : w.ownsRow N 75 13 (.slice A l c) l xs) (hl : ns.length = l)
  (hx : ∀ k n, ns[k]? = some n → ∃ vs : List Value, vs.length = 13 ∧ (∀ j, j < 13 → xs[k * 13 + j]? = vs[j]?) ∧ StIn w (fun b => N ≤ b ∧ some b ≠ blk A) d (.agg vs.toArray) n)
  (hm : ms.length = m) (hnew : ∀ k n, ms[k]? = some n → ∃ vs : List Value, vs.length = 13 ∧ (∀ j, j < 13 → news[k * 13 + j]? = vs[j]?) ∧ StIn w (fun b => N ≤ b ∧ some b ≠ blk A) d (.agg vs.toArray) n)
  (h2 : w2.ownsRow N 75 13 (.slice A' (l + m) c') (l + m) (xs ++ news)) (hgrow : w.grownBy w2 (blk A)) (hplace : (blk A' = blk A ∧ blk A ≠ none) ∨ blk A' = some w.heap.size)
  (hA : ∀ g, blk A = some g → ∃ cur, w.heap[g]? = some (.cells cur 75 (0, 0))) : StsAt w2 N d A' (l + m) c' (ns ++ ms) := by
 have hlen := hrow.1
 have hE : KeptE w w2 := fun b cur fr hb => (hgrow.block b (Array.getElem?_eq_some_iff.1 hb).1 (fun e => by
  obtain ⟨cur', hc⟩ := hA b e.symm
  rw [hb] at hc
  simp only [Option.some.injEq, Obj.cells.injEq] at hc
  exact absurd hc.2.1 (by decide))).trans hb
 have hne : ∀ b, b < w.heap.size → (N ≤ b ∧ some b ≠ blk A) → (N ≤ b ∧ some b ≠ blk A) ∧ (N ≤ b ∧ some b ≠ blk A') := fun b hlt hp => ⟨hp, hp.1, fun e => by
  rcases hplace with ⟨e', _⟩ | e'
  ·exact hp.2 (e.trans e')
  ·rw [e'] at e
   injection e with e
   omega⟩
 have hq : ∀ {n : Nat} {v : Value}, StIn w (fun b => N ≤ b ∧ some b ≠ blk A) d v n → StIn w2 (fun b => N ≤ b ∧ some b ≠ blk A') d v n := fun h =>
  ((h.mono hne).keep hE (fun b cur fr hp hb => (hgrow.block b (Array.getElem?_eq_some_iff.1 hb).1 hp.1.2).trans hb)).mono (fun b _ hp => hp.2)
 refine ⟨xs ++ news, h2, by rw [List.length_append, hl, hm], fun k n' hk => ?_⟩
 by_cases hkl : k < l
 ·rw [List.getElem?_append_left (by omega)] at hk
  obtain ⟨vs, hv, hc, hP⟩ := hx k n' hk
  refine ⟨vs, hv, fun j hj => ?_, hq hP⟩
  rw [List.getElem?_append_left (by omega)]
  exact hc j hj
 ·rw [List.getElem?_append_right (by omega), hl] at hk
  obtain ⟨vs, hv, hc, hP⟩ := hnew (k - l) n' hk
  refine ⟨vs, hv, fun j hj => ?_, hq hP⟩
  rw [List.getElem?_append_right (by omega), hlen, ← hc j hj]
  congr 1
  rw [Nat.sub_mul]
  have : l * 13 ≤ k * 13 := Nat.mul_le_mul_right _ (by omega)
  omega
theorem stmt_parts : ∃ i : TypeInfo, Tryd.prog.info? 75 = some i ∧ i.zero = some (.agg #[.int .i64 0, .int .i64 0, .int .i64 0, .string ⟨#[]⟩, .string ⟨#[]⟩, .int .i64 0, .int .i64 0, .slice none 0 0, .string ⟨#[]⟩, .int .i64 0, .slice none 0 0, .slice none 0 0, .slice none 0 0]) ∧ i.size = 13 ∧ i.bytes = 192 := by
 have h : (Tryd.prog.info? 75).map (fun i => (i.zero, i.size, i.bytes)) = some (some (.agg #[.int .i64 0, .int .i64 0, .int .i64 0, .string ⟨#[]⟩, .string ⟨#[]⟩, .int .i64 0, .int .i64 0, .slice none 0 0, .string ⟨#[]⟩, .int .i64 0, .slice none 0 0, .slice none 0 0, .slice none 0 0]), 13, 192) := by kernel_rfl
 cases hi : Tryd.prog.info? 75 with
 | none => rw [hi] at h; exact absurd h (by simp)
 | some i =>
  rw [hi] at h
  simp only [Option.map_some, Option.some.injEq, Prod.mk.injEq] at h
  exact ⟨i, rfl, h.1, h.2.1, h.2.2⟩
/-- Statements are appended to a row of its own. -/
theorem wp_append_stmts {o : Oper} {a : Act} {w : World} {K : Act → World → Prop} {Q : Exit → Act → World → Prop} (s x : Operand)
  (ho : o.op = .call { callee := .builtin .append, args := #[s, x], argTypes := #[58, 58] })
  (N Y d l c c1 m : Nat) (A : Option Addr) (ns ms : List Nat) (news : List Value) (hs : a.eval s = .slice A l c) (hA : StsAt w N d A l c ns) (hx : a.eval x = .slice (some ⟨Y, 0, none⟩) m c1)
  (hnl : news.length = m * 13) (hcell : ∀ j u, news[j]? = some u → w.cell? ⟨Y, j, none⟩ = some u) (h1 : ∀ u ∈ news, u.oneCell' = true) (hm0 : 0 < m) (hl : l + m ≤ 1000) (hN : N ≤ w.heap.size) (hm : ms.length = m)
  (hnew : ∀ k n, ms[k]? = some n → ∃ vs : List Value, vs.length = 13 ∧ (∀ j, j < 13 → news[k * 13 + j]? = vs[j]?) ∧ StIn w (fun b => N ≤ b ∧ some b ≠ blk A) d (.agg vs.toArray) n)
  (h : ∀ A' c' w2, w.grownBy w2 (blk A) → (blk A' = blk A ∧ blk A ≠ none ∨ blk A' = some w.heap.size) → StsAt w2 N d A' (l + m) c' (ns ++ ms) → K (a.put o.dst (.slice A' (l + m) c')) w2) : o.wp Tryd.prog a w K Q := by
 obtain ⟨i, hi, hz, hsz, hby⟩ := stmt_parts
 have hpl := hA.place
 obtain ⟨xs, hrow, hlen, hxs⟩ := hA
 have hrow' := hrow
 rw [← hsz] at hrow'
 refine wp_append_at w s x 58 ho N 75 i _ Tryd.underlying58 hi hz (by rw [hsz]; rfl) (by omega) _ l xs hs hrow' ⟨Y, 0, none⟩ m c1 news hx (by rw [hsz]; exact hnl) (fun j u hu => ?_) h1 hm0 (by unfold maxLen; omega) (by rw [hby]; omega) hN ?_
 ·rw [Addr.add_mid, Nat.zero_add]
  exact hcell j u hu
 ·intro v' w2 g1 g2 g3
  rw [hsz] at g1
  have hv : ∃ A' c', v' = .slice A' (l + m) c' := by
   rcases g1.2 with ⟨_, e0⟩ | ⟨g, cap, cur, e, _⟩
   ·exact absurd e0 (by omega)
   ·exact ⟨_, _, e⟩
  obtain ⟨A', c', rfl⟩ := hv
  rw [ownBlock_slice] at g2
  rw [ownBlock_slice, ownBlock_slice] at g3
  exact h A' c' w2 g2 g3 (StsAt.step hrow hlen hxs hm hnew g1 g2 g3 (fun g hg => (hpl g hg).2.2))
/-- A row of new statements has been made. -/
def Makes (lo B : Nat) (m : Mk) (w : World) (d : Nat) (e : Ending) (w' : World) : Prop :=
 ∃ (A : Option Addr) (l c : Nat) (ns : List Nat) (m' : Mk), e = .returned (.slice A l c) ∧ StsAt w' w.heap.size d A l c ns ∧ l ≤ 20 ∧ Kin m m' ∧ m'.left ≤ m.left ∧ m'.count + m'.left ≤ m.count + m.left ∧ (ns.sum : Int) ≤ 100 * (m.left - m'.left) ∧ Cx lo B m' w' ∧ Went lo B w w'
def StmtsAt (nest : Nat) (d : Nat) : Prop := ∀ {lo : Nat} (B : Nat) (m : Mk) (w : World) (most : Nat), most ≤ 10 → Cx lo B m w →
 Calls Tryd.prog 26 #[.pointer (some ⟨m.M, 0, none⟩), .int .i64 nest, .int .i64 most] w (Makes lo B m w d)
def BodyAt (nest : Nat) (d : Nat) : Prop := ∀ {lo : Nat} (B : Nat) (m : Mk) (w : World) (most : Nat), most ≤ 10 → Cx lo B m w →
 Calls Tryd.prog 43 #[.pointer (some ⟨m.M, 0, none⟩), .int .i64 nest, .int .i64 most] w fun e w' => ∃ (A : Option Addr) (l c : Nat) (ns : List Nat) (m' : Mk), e = .returned (.slice A l c) ∧ StsAt w' w.heap.size d A l c ns ∧ l ≤ 20 ∧ Kin m m' ∧ m'.sl = m.sl ∧ m'.ql = m.ql ∧ m'.rl = m.rl ∧ m'.left ≤ m.left ∧ m'.count + m'.left ≤ m.count + m.left ∧ (ns.sum : Int) ≤ 100 * (m.left - m'.left) ∧ Cx lo B m' w' ∧ Went lo B w w'
end Go.Proofs.YtchibamdkaejdaaDoor
namespace Go.Proofs.YtchibamdkaejdaaDoor
open Go.RowKit

/-- An expression of depth below d and weight n; its rows lie where p says. -/
def ExIn (w : World) (p : Nat → Prop) : Nat → Value → Nat → Prop
 | 0, _, _ => False
 | d + 1, v, n => ∃ (op num : Nat) (vr : Int) (nm fld : ByteArray) (A : Option Addr) (len cap : Nat) (ns : List Nat),
   v = .agg #[.int .i64 op, .int .i64 num, .int .i64 vr, .string nm, .string fld, .slice A len cap] ∧ (op ≤ 17 ∧ (3 ≤ op → 1 ≤ len) ∧ (6 ≤ op → 2 ≤ len)) ∧ num < 1000000000000000000 ∧ nm.size ≤ 20 ∧ fld.size ≤ 20 ∧
   RowsOk (ExIn w p d) w 72 6 A len cap ns ∧ (len ≠ 0 → ∃ b o, A = some ⟨b, o, none⟩ ∧ p b) ∧ n = 1 + ns.sum
theorem addr_block {A : Option Addr} {b b' o : Nat} (h : A = some ⟨b, o, none⟩) (h' : A = some ⟨b', 0, none⟩) : b = b' := by
 rw [h] at h'
 injection h' with h'
 injection h' with h'
section
variable {w w' : World} {p q : Nat → Prop}
theorem ExIn.ok : ∀ {d : Nat} {v : Value} {n : Nat}, ExIn w p d v n → ExOk w d v n
 | 0, _, _, h => h.elim
 | d + 1, v, n, h => by
  obtain ⟨op, num, vr, nm, fld, A, len, cap, ns, h1, h2, h3, h4, h5, h6, _, h7⟩ := h
  exact ⟨op, num, vr, nm, fld, A, len, cap, ns, h1, h2, h3, h4, h5, h6.up (fun v n hv => ExIn.ok hv), h7⟩
theorem ExIn.new {B : Nat} : ∀ {d : Nat} {v : Value} {n : Nat}, ExNew w B d v n → ExIn w (fun b => B ≤ b) d v n
 | 0, _, _, h => h.elim
 | d + 1, v, n, h => by
  obtain ⟨op, num, vr, nm, fld, A, len, cap, ns, h1, h2, h3, h4, h5, h6, h6', h7⟩ := h
  exact ⟨op, num, vr, nm, fld, A, len, cap, ns, h1, h2, h3, h4, h5, h6.up (fun v n hv => ExIn.new hv), h6', h7⟩
theorem ExIn.mono (hp : ∀ b, b < w.heap.size → p b → q b) : ∀ {d : Nat} {v : Value} {n : Nat}, ExIn w p d v n → ExIn w q d v n
 | 0, _, _, h => h.elim
 | d + 1, v, n, h => by
  obtain ⟨op, num, vr, nm, fld, A, len, cap, ns, h1, h2, h3, h4, h5, h6, h6', h7⟩ := h
  refine ⟨op, num, vr, nm, fld, A, len, cap, ns, h1, h2, h3, h4, h5, h6.up (fun v n hv => ExIn.mono hp hv), fun hl => ?_, h7⟩
  obtain ⟨b, o, hA, hb⟩ := h6' hl
  obtain ⟨b', cur, fr, hA', hb', _⟩ := h6.2.2.2 hl
  obtain rfl := addr_block hA hA'
  exact ⟨b, o, hA, hp b (Array.getElem?_eq_some_iff.1 hb').1 hb⟩
theorem ExIn.keep (hk : ∀ b cur fr, p b → w.heap[b]? = some (.cells cur 72 fr) → w'.heap[b]? = some (.cells cur 72 fr)) : ∀ {d : Nat} {v : Value} {n : Nat}, ExIn w p d v n → ExIn w' p d v n
 | 0, _, _, h => h.elim
 | d + 1, v, n, h => by
  obtain ⟨op, num, vr, nm, fld, A, len, cap, ns, h1, h2, h3, h4, h5, ⟨r1, r2, r3, r4⟩, h6', h7⟩ := h
  refine ⟨op, num, vr, nm, fld, A, len, cap, ns, h1, h2, h3, h4, h5, ⟨r1, r2, r3, fun hl => ?_⟩, h6', h7⟩
  obtain ⟨b, cur, fr, hA, hb, hc⟩ := r4 hl
  obtain ⟨b', o, hA', hpb⟩ := h6' hl
  obtain rfl := addr_block hA' hA
  refine ⟨b', cur, fr, hA, hk b' cur fr hpb hb, fun k n hkn => ?_⟩
  obtain ⟨vs, hl', hcell, hP⟩ := hc k n hkn
  exact ⟨vs, hl', hcell, ExIn.keep hk hP⟩
end
/-- A row of expressions of its own, from N on, whose elements' rows are not the row itself. -/
def ArgsAt (w : World) (N : Nat) (A : Option Addr) (l c : Nat) (ns : List Nat) : Prop := ∃ xs : List Value, w.ownsRow N 72 6 (.slice A l c) l xs ∧ ns.length = l ∧
 ∀ k n, ns[k]? = some n → ∃ vs : List Value, vs.length = 6 ∧ (∀ j, j < 6 → xs[k * 6 + j]? = vs[j]?) ∧ ExIn w (fun b => N ≤ b ∧ some b ≠ blk A) 4 (.agg vs.toArray) n
theorem ArgsAt.nil (w : World) (N : Nat) : ArgsAt w N none 0 0 [] := ⟨[], World.ownsRow_nil w N _ 6, rfl, fun k n hk => by simp at hk⟩
theorem ArgsAt.rows {w : World} {N l c : Nat} {A : Option Addr} {ns : List Nat} (h : ArgsAt w N A l c ns) : RowsOk (ExOk w 8) w 72 6 A l c ns := by
 obtain ⟨xs, ⟨h1, h2⟩, hl, hx⟩ := h
 rcases h2 with ⟨e, e0⟩ | ⟨g, cap, cur, e, hb, hg, hr1, hr2, hr3, hr4⟩
 ·injection e with e1 e2 e3
  exact ⟨hl, by omega, by unfold maxLen; omega, fun hh => absurd e0 hh⟩
 ·injection e with e1 e2 e3
  subst e1 e3
  refine ⟨hl, hr1, hr2, fun _ => ⟨g, cur, _, rfl, hg, fun k n hk => ?_⟩⟩
  obtain ⟨vs, hv, hc, hP⟩ := hx k n hk
  refine ⟨vs, hv, fun j hj => ?_, hP.ok.le (by omega)⟩
  have hk' : k < l := by rw [← hl]; exact (List.getElem?_eq_some_iff.1 hk).1
  rw [← hc j hj, ← hr4, List.getElem?_take, if_pos (by omega), Array.getElem?_toList]
theorem ArgsAt.kept {w w' : World} {N l c : Nat} {A : Option Addr} {ns : List Nat} (h : ArgsAt w N A l c ns) (hk : ∀ (b : Nat) (cur : Array Value) (fr : Nat × Nat), N ≤ b → w.heap[b]? = some (.cells cur 72 fr) → w'.heap[b]? = some (.cells cur 72 fr)) : ArgsAt w' N A l c ns := by
 obtain ⟨xs, ⟨h1, h2⟩, hl, hx⟩ := h
 refine ⟨xs, ⟨h1, ?_⟩, hl, fun k n hkn => ?_⟩
 ·rcases h2 with h2 | ⟨g, cap, cur, e, hb, hg, hr⟩
  ·exact .inl h2
  ·exact .inr ⟨g, cap, cur, e, hb, hk g cur _ hb hg, hr⟩
 ·obtain ⟨vs, hv, hc, hP⟩ := hx k n hkn
  exact ⟨vs, hv, hc, hP.keep (fun b cur fr hp hb => hk b cur fr hp.1 hb)⟩
theorem ArgsAt.place {w : World} {N l c : Nat} {A : Option Addr} {ns : List Nat} (h : ArgsAt w N A l c ns) : ∀ g, blk A = some g → N ≤ g ∧ g < w.heap.size ∧ ∃ cur, w.heap[g]? = some (.cells cur 72 (0, 0)) := by
 obtain ⟨xs, ⟨h1, h2⟩, hl, hx⟩ := h
 intro g hg
 rcases h2 with ⟨e, _⟩ | ⟨g', cap, cur, e, hb, hgg, hr⟩
 ·injection e with e1
  rw [e1] at hg
  exact absurd hg (by simp [blk])
 ·injection e with e1
  rw [e1] at hg
  simp only [blk, Option.map_some, Option.some.injEq] at hg
  subst hg
  exact ⟨hb, (Array.getElem?_eq_some_iff.1 hgg).1, cur, hgg⟩
/-- An expression more: the row has grown by an empty one, and its cells are written. -/
theorem ArgsAt.step {w w2 : World} {N X0 l c c' n : Nat} {A A' : Option Addr} {ns : List Nat} {xs : List Value} {v0 v1 v2 v3 v4 v5 z0 z1 z2 z3 z4 z5 : Value} (hrow : w.ownsRow N 72 6 (.slice A l c) l xs) (hl : ns.length = l)
  (hx : ∀ k n, ns[k]? = some n → ∃ vs : List Value, vs.length = 6 ∧ (∀ j, j < 6 → xs[k * 6 + j]? = vs[j]?) ∧ ExIn w (fun b => N ≤ b ∧ some b ≠ blk A) 4 (.agg vs.toArray) n)
  (hnew : ExNew w X0 4 (.agg #[v0, v1, v2, v3, v4, v5]) n) (hX0 : ∀ g, blk A = some g → g < X0) (hN : N ≤ X0)
  (h2 : w2.ownsRow N 72 6 (.slice A' (l + 1) c') (l + 1) (xs ++ [z0, z1, z2, z3, z4, z5])) (hgrow : w.grownBy w2 (blk A)) (hplace : (blk A' = blk A ∧ blk A ≠ none) ∨ blk A' = some w.heap.size) :
  ∃ g, A' = some ⟨g, 0, none⟩ ∧ g < w2.heap.size ∧ (g < w.heap.size → blk A = some g) ∧ (∃ cur, w2.heap[g]? = some (.cells cur 72 (0, 0)) ∧ (l + 1) * 6 ≤ cur.size) ∧ ArgsAt (w2.setCells g (l * 6) [v0, v1, v2, v3, v4, v5]) N A' (l + 1) c' (ns ++ [n]) := by
 rcases h2.2 with ⟨_, e0⟩ | ⟨g, cap, cur, e, hb, hg, hr1, hr2, hr3, hr4⟩
 ·exact absurd e0 (by omega)
 ·injection e with e1 e2 e3
  subst e1 e3
  have hsz : (l + 1) * 6 ≤ cur.size := by rw [hr3]; exact Nat.mul_le_mul_right _ hr1
  have hgw : g < w.heap.size → blk A = some g := fun hlt => by
   rcases hplace with ⟨e, _⟩ | e
   ·exact e.symm
   ·simp only [blk, Option.map_some, Option.some.injEq] at e
    omega
  have hlen := hrow.1
  have hkeep : ∀ b cur' fr, (N ≤ b ∧ some b ≠ blk A) → w.heap[b]? = some (.cells cur' 72 fr) → (w2.setCells g (l * 6) [v0, v1, v2, v3, v4, v5]).heap[b]? = some (.cells cur' 72 fr) := fun b cur' fr hp hbb => by
   have hlt := (Array.getElem?_eq_some_iff.1 hbb).1
   rw [heap_setCells_other g b (fun e => ?_)]
   ·exact (hgrow.block b hlt hp.2).trans hbb
   ·subst e
    exact hp.2 (hgw hlt).symm
  have hne : ∀ b, b < w.heap.size → (N ≤ b ∧ some b ≠ blk A) → (N ≤ b ∧ some b ≠ blk (some ⟨g, 0, none⟩)) := fun b hlt hp => ⟨hp.1, fun e => by
   simp only [blk, Option.map_some, Option.some.injEq] at e
   subst e
   exact hp.2 (hgw hlt).symm⟩
  have hU := heap_setCells g [v0, v1, v2, v3, v4, v5] (l * 6) w2 cur _ hg
  refine ⟨g, rfl, (Array.getElem?_eq_some_iff.1 hg).1, hgw, ⟨cur, hg, hsz⟩, xs ++ [v0, v1, v2, v3, v4, v5], ⟨by rw [List.length_append, hlen]; simp; omega, .inr ⟨g, c', _, rfl, hb, hU, hr1, hr2, ?_, ?_⟩⟩, by rw [List.length_append, hl]; rfl, fun k n' hk => ?_⟩
  ·have : ∀ (vs : List Value) (o : Nat) (c : Array Value), (putAt c o vs).size = c.size := by
    intro vs
    induction vs with
    | nil => intro o c; rfl
    | cons v r ih => intro o c; unfold putAt; rw [ih]; exact Array.size_setIfInBounds
   rw [this, hr3]
  ·apply List.ext_getElem?
   intro j
   rw [List.getElem?_take]
   have hput := putAt_get [v0, v1, v2, v3, v4, v5] cur (l * 6) j (by simp; omega)
   have hold : ∀ j, j < (l + 1) * 6 → cur[j]? = (xs ++ [z0, z1, z2, z3, z4, z5])[j]? := fun j hj => by
    rw [← hr4, List.getElem?_take, if_pos hj, Array.getElem?_toList]
   split
   ·rename_i hj
    rw [Array.getElem?_toList, hput]
    by_cases h1 : j < l * 6
    ·rw [if_pos h1, hold j hj, List.getElem?_append_left (by omega), List.getElem?_append_left (by omega)]
    ·rw [if_neg h1, if_pos (by simp; omega), List.getElem?_append_right (by omega), hlen]
   ·rw [List.getElem?_eq_none]
    rw [List.length_append, hlen]
    simp
    omega
  ·have hq : ∀ {n : Nat} {v : Value}, ExIn w (fun b => (N ≤ b ∧ some b ≠ blk A) ∧ (N ≤ b ∧ some b ≠ blk (some ⟨g, 0, none⟩))) 4 v n → ExIn (w2.setCells g (l * 6) [v0, v1, v2, v3, v4, v5]) (fun b => N ≤ b ∧ some b ≠ blk (some ⟨g, 0, none⟩)) 4 v n := fun h => (h.keep (fun b cur' fr hp hbb => hkeep b cur' fr hp.1 hbb)).mono (fun b _ hp => hp.2)
   by_cases hkl : k < l
   ·rw [List.getElem?_append_left (by omega)] at hk
    obtain ⟨vs, hv, hc, hP⟩ := hx k n' hk
    refine ⟨vs, hv, fun j hj => ?_, hq (hP.mono (fun b hlt hp => ⟨hp, hne b hlt hp⟩))⟩
    rw [List.getElem?_append_left (by omega)]
    exact hc j hj
   ·have hk2 : k < (ns ++ [n]).length := (List.getElem?_eq_some_iff.1 hk).1
    rw [List.length_append, hl] at hk2
    simp only [List.length_cons, List.length_nil] at hk2
    obtain rfl : k = l := by omega
    rw [List.getElem?_append_right (by omega), hl] at hk
    obtain rfl : n = n' := by simpa using hk
    refine ⟨[v0, v1, v2, v3, v4, v5], rfl, fun j hj => ?_, hq ((ExIn.new hnew).mono (fun b hlt hp => ?_))⟩
    ·rw [List.getElem?_append_right (by omega), hlen, Nat.add_sub_cancel_left]
    ·have h1 : N ≤ b ∧ some b ≠ blk A := ⟨by omega, fun e => by have := hX0 b e.symm; omega⟩
     exact ⟨h1, hne b hlt h1⟩
end Go.Proofs.YtchibamdkaejdaaDoor
namespace Go.Proofs.YtchibamdkaejdaaDoor
open Go.RowKit

theorem names_elem : Tryd.prog.underlying 37 = some (.slice (Tryd.prog.elem 37)) := by kernel_rfl
theorem names_size (w : World) : (sizeOf (Tryd.prog.elem 37)).run Tryd.prog w = .ok 1 w := by
 obtain ⟨i, hi, _, hs, _⟩ := string_info
 have he : Tryd.prog.elem 37 = 9 := by kernel_rfl
 rw [he]
 simp [sizeOf, typeInfo, hi, hs]
theorem slice_names {a : Act} {o : Oper} {w0 : World} {B : Nat} {S : Option Addr} {sl sc n : Nat} (x y : Operand) (ho : o.op = .slice 37 x none (some y) none) (hx : a.eval x = .slice S sl sc) (hy : a.eval y = .int .i64 n) (hown : NameOwn w0 B S sl sc) (hn : n ≤ sl) (w : World) :
  (execOp a.eval o).run Tryd.prog w = .ok (.value (.slice S n sc)) w := by
 have hsc : n ≤ sc := by
  obtain ⟨xs, ⟨h1, h2⟩, h3⟩ := hown
  rcases h2 with ⟨e, e0⟩ | ⟨g, cap, cur, e, hb, hg, hr1, _⟩
  ·injection e with e1 e2 e3
   omega
  ·injection e with e1 e2 e3
   omega
 have hS : ∀ b, S = some b → b.spot = none := by
  obtain ⟨xs, ⟨h1, h2⟩, h3⟩ := hown
  intro b hb
  rcases h2 with ⟨e, e0⟩ | ⟨g, cap, cur, e, _⟩
  ·injection e with e1
   rw [e1] at hb
   exact absurd hb (by simp)
  ·injection e with e1
   rw [e1] at hb
   injection hb with hb
   rw [← hb]
 unfold execOp
 rw [ho]
 simp only [Option.map_some, Option.map_none, hx, hy, Sem.run_bind, run_sliceAt_slice (P := Tryd.prog) w _ _ _ _ _ names_elem, run_slice_h (P := Tryd.prog) w _ S sl sc names_elem .i64 (n : Int) (by omega) (by omega), names_size, Result.andThen_ok, Sem.run_pure]
 have hm : S.map (fun b => b.add 0) = S := by
  cases S with
  | none => rfl
  | some b =>
   obtain ⟨b1, b2, b3⟩ := b
   obtain rfl : b3 = none := hS _ rfl
   rw [Option.map_some, Addr.add_mid, Nat.add_zero]
 simp [sliced, hm]
/-- The first names of an owned row are appended to a new row. -/
theorem wp_append_names {o : Oper} {a : Act} {w : World} {K : Act → World → Prop} {Q : Exit → Act → World → Prop} (s x : Operand)
  (ho : o.op = .call { callee := .builtin .append, args := #[s, x], argTypes := #[37, 37] })
  (D B : Nat) (X S : Option Addr) (c sl sc n : Nat) (hs : a.eval s = .slice X 0 c) (hown : NameOwn w D X 0 c) (hx : a.eval x = .slice S n sc) (hsrc : NameOwn w B S sl sc) (hn : n ≤ sl) (hl : sl ≤ 1000) (hD : D ≤ w.heap.size)
  (h : ∀ X' c' w', NameOwn w' D X' n c' → w.grownBy w' (blk X) → (blk X' = blk X ∨ blk X' = some w.heap.size) → K (a.put o.dst (.slice X' n c')) w') : o.wp Tryd.prog a w K Q := by
 obtain ⟨i, hi, hz, hsz, hby⟩ := string_info
 obtain ⟨xs, hrow, hxs⟩ := hown
 have hx0 : xs = [] := List.eq_nil_of_length_eq_zero (by rw [hrow.1])
 subst hx0
 obtain ⟨ys, hsrow, hys⟩ := hsrc
 by_cases h0 : n = 0
 ·subst h0
  have hrun : (Builtin.append_ #[37, 37] o.type #[.slice X 0 c, .slice S 0 sc]).run Tryd.prog w = .ok (.slice X 0 c) w := by
   cases S with
   | none =>
    have hsc : sc = 0 := by
     rcases hsrow.2 with ⟨e, _⟩ | ⟨g, cap, cur, e, _⟩
     ·injection e
     ·injection e with e1
      exact absurd e1 (by simp)
    subst hsc
    exact run_append_owned_none (P := Tryd.prog) (w := w) D 37 o.type 9 i 1 Tryd.underlying37 hi _ 0 [] hrow
   | some b =>
    rcases hrow.2 with ⟨e, _⟩ | ⟨g, cap, cur, e, _, hg, hnc, _⟩
    ·injection e with e1 e2 e3
     subst e1 e3
     simp [Builtin.append_, run_underlying Tryd.underlying37, sizeOf, typeInfo, hi, Builtin.lenOf, Builtin.firstCells, loadCells, loadCellsFrom]
    ·injection e with e1 e2 e3
     subst e1 e3
     simp [Builtin.append_, run_underlying Tryd.underlying37, sizeOf, typeInfo, hi, Builtin.lenOf, Builtin.firstCells, loadCells, loadCellsFrom, storeCells]
  have hk := h X c w ⟨[], hrow, hxs⟩ ⟨rfl, rfl, rfl, Nat.le_refl _, fun _ _ _ => rfl⟩ (.inl rfl)
  unfold Oper.wp execOp
  rw [ho]
  simp only [resolve, invoke, builtin, Sem.run_bind, Sem.run_pure, Result.andThen_ok, List.map_toArray, List.map_cons, List.map_nil, hs, hx, hrun]
  exact hk
 ·rcases hsrow.2 with ⟨e, e0⟩ | ⟨g, cap, cur, e, hb, hg, hr1, hr2, hr3, hr4⟩
  ·omega
  ·injection e with e1 e2 e3
   subst e1 e3
   have hys1 := hsrow.1
   rw [← hsz] at hrow
   refine wp_append_at w s x 37 ho D 9 i (.string ⟨#[]⟩) Tryd.underlying37 hi hz (by rw [hsz]; rfl) (by omega) _ 0 [] hs hrow ⟨g, 0, none⟩ n sc (ys.take n) hx (by rw [hsz, List.length_take]; omega) (fun j u hu => ?_) (fun u hu => ?_) (by omega) (by unfold maxLen; omega) (by rw [hby]; omega) hD ?_
   ·have hj : j < n := by
     have := (List.getElem?_eq_some_iff.1 hu).1
     rw [List.length_take] at this
     omega
    rw [List.getElem?_take, if_pos hj] at hu
    exact hsrow.cells (g := g) rfl j u hu
   ·obtain ⟨s', _, rfl⟩ := hys u (List.mem_of_mem_take hu)
    rfl
   ·intro v' w' h1 h2 h3
    rw [hsz] at h1
    obtain ⟨X', c', rfl, hn'⟩ := NameOwn.of h1 (fun x hx => by
     rw [List.nil_append] at hx
     exact hys x (List.mem_of_mem_take hx))
    rw [ownBlock_slice] at h2
    rw [ownBlock_slice, ownBlock_slice] at h3
    rw [Nat.zero_add] at hn' ⊢
    exact h X' c' w' hn' h2 (h3.imp And.left id)
end Go.Proofs.YtchibamdkaejdaaDoor
namespace Go.Proofs.YtchibamdkaejdaaDoor
open Go.RowKit
variable {lo : Nat}

theorem expr_parts : ∃ i : TypeInfo, Tryd.prog.info? 72 = some i ∧ i.zero = some (.agg #[.int .i64 0, .int .i64 0, .int .i64 0, .string ⟨#[]⟩, .string ⟨#[]⟩, .slice none 0 0]) ∧ i.size = 6 ∧ i.bytes = 80 := by
 have h : (Tryd.prog.info? 72).map (fun i => (i.zero, i.size, i.bytes)) = some (some (.agg #[.int .i64 0, .int .i64 0, .int .i64 0, .string ⟨#[]⟩, .string ⟨#[]⟩, .slice none 0 0]), 6, 80) := by kernel_rfl
 cases hi : Tryd.prog.info? 72 with
 | none => rw [hi] at h; exact absurd h (by simp)
 | some i =>
  rw [hi] at h
  simp only [Option.map_some, Option.some.injEq, Prod.mk.injEq] at h
  exact ⟨i, rfl, h.1, h.2.1, h.2.2⟩
theorem wp_append_zero {o : Oper} {a : Act} {w : World} {K : Act → World → Prop} {Q : Exit → Act → World → Prop} (s x : Operand)
  (ho : o.op = .call { callee := .builtin .append, args := #[s, x], argTypes := #[70, 70] })
  (N X0 Y l c c1 n : Nat) (A : Option Addr) (ns : List Nat) (v0 v1 v2 v3 v4 v5 : Value) (hs : a.eval s = .slice A l c) (hA : ArgsAt w N A l c ns) (hx : a.eval x = .slice (some ⟨Y, 0, none⟩) 1 c1) (hY : Zero w Y) (hl : l ≤ 100) (hN : N ≤ w.heap.size)
  (hnew : ExNew w X0 4 (.agg #[v0, v1, v2, v3, v4, v5]) n) (hX0 : ∀ g, blk A = some g → g < X0) (hNX : N ≤ X0)
  (h : ∀ g c' w2, w.grownBy w2 (blk A) → N ≤ g → g < w2.heap.size → (g < w.heap.size → blk A = some g) → (∃ cur, w2.heap[g]? = some (.cells cur 72 (0, 0)) ∧ (l + 1) * 6 ≤ cur.size) →
   ArgsAt (w2.setCells g (l * 6) [v0, v1, v2, v3, v4, v5]) N (some ⟨g, 0, none⟩) (l + 1) c' (ns ++ [n]) → K (a.put o.dst (.slice (some ⟨g, 0, none⟩) (l + 1) c')) w2) : o.wp Tryd.prog a w K Q := by
 obtain ⟨i, hi, hz, hsz, hby⟩ := expr_parts
 obtain ⟨xs, hrow, hlen, hxs⟩ := hA
 have hrow' := hrow
 rw [← hsz] at hrow'
 obtain ⟨z0, z1, z2, z3, z4, z5⟩ := hY.cells
 refine wp_append_at w s x 70 ho N 72 i _ Tryd.underlying70 hi hz (by rw [hsz]; rfl) (by omega) _ l xs hs hrow' ⟨Y, 0, none⟩ 1 c1 [.int .i64 0, .int .i64 0, .int .i64 0, .string ⟨#[]⟩, .string ⟨#[]⟩, .slice none 0 0] hx (by rw [hsz]; rfl) (fun j u hu => ?_) (fun u hu => ?_) (by omega) (by unfold maxLen; omega) (by rw [hby]; omega) hN ?_
 ·have hj : j < 6 := (List.getElem?_eq_some_iff.1 hu).1
  rw [Addr.add_mid, Nat.zero_add]
  have hj' : j = 0 ∨ j = 1 ∨ j = 2 ∨ j = 3 ∨ j = 4 ∨ j = 5 := by omega
  rcases hj' with rfl | rfl | rfl | rfl | rfl | rfl
  ·rw [← hu]; exact z0
  ·rw [← hu]; exact z1
  ·rw [← hu]; exact z2
  ·rw [← hu]; exact z3
  ·rw [← hu]; exact z4
  ·rw [← hu]; exact z5
 ·simp only [List.mem_cons, List.not_mem_nil, or_false] at hu
  rcases hu with rfl | rfl | rfl | rfl | rfl | rfl <;> rfl
 ·intro v' w2 h1 h2 h3
  rw [hsz] at h1
  have hv : ∃ A' c', v' = .slice A' (l + 1) c' := by
   rcases h1.2 with ⟨_, e0⟩ | ⟨g, cap, cur, e, _⟩
   ·exact absurd e0 (by omega)
   ·exact ⟨_, _, e⟩
  obtain ⟨A', c', rfl⟩ := hv
  rw [ownBlock_slice] at h2
  rw [ownBlock_slice, ownBlock_slice] at h3
  obtain ⟨g, rfl, hg1, hg2, hg3, hargs⟩ := ArgsAt.step hrow hlen hxs hnew hX0 hNX h1 h2 h3
  have hNg : N ≤ g := by
   rcases h1.2 with ⟨_, e0⟩ | ⟨g', cap, cur, e, hb, _⟩
   ·exact absurd e0 (by omega)
   ·injection e with e1
    injection e1 with e1
    injection e1 with e1
    omega
  exact h g c' w2 h2 hNg hg1 hg2 hg3 hargs
/-- Blocks of another type are turned: the maker is as it was. -/
theorem Cx.other {B : Nat} {m : Mk} {w w' : World} (h : Cx lo B m w) (row : Option Nat) (e : TypeId) (hrow : ∀ g, row = some g → ∃ cur, w.heap[g]? = some (.cells cur e (0, 0))) (he : e ≠ 64 ∧ e ≠ 68 ∧ e ≠ 9 ∧ e ≠ 3)
  (hsz : w.heap.size ≤ w'.heap.size) (hb : ∀ b, b < w.heap.size → some b ≠ row → w'.heap[b]? = w.heap[b]?) (hlo : ∀ g, row = some g → lo ≤ g) : Cx lo B m w' := by
 obtain ⟨pos, ht⟩ := h.tape
 have hne : ∀ {b : Nat} {cur : Array Value} {e' : TypeId} {fr : Nat × Nat}, w.heap[b]? = some (.cells cur e' fr) → e ≠ e' → w'.heap[b]? = some (.cells cur e' fr) := fun {b cur e' fr} hbb hee => by
  refine (hb b (Array.getElem?_eq_some_iff.1 hbb).1 (fun x => hee ?_)).trans hbb
  obtain ⟨cur', hc⟩ := hrow b x.symm
  rw [hbb] at hc
  simp only [Option.some.injEq, Obj.cells.injEq] at hc
  exact hc.2.1.symm
 have hk : ∀ {A : Option Addr} {l c : Nat}, NameOwn w B A l c → NameOwn w' B A l c := fun hA => hA.kept (fun x hx => by
  obtain ⟨_, _, cur, hc⟩ := hA.place x hx
  exact (hne hc he.2.2.1).trans hc.symm)
 refine ⟨⟨hne h.maker.block he.2.1⟩, ⟨pos, ⟨hne ht.block he.1, ht.len_le, ht.cap_le, fun i hi => ?_⟩⟩, hk h.s, hk h.q, hk h.r, h.sq, h.sr, h.qr, ?_, h.bM, h.bT, Nat.le_trans h.bW hsz, h.loB, h.num, ?_⟩
 ·obtain ⟨b, o, hr'⟩ := h.row
  obtain ⟨b', o', x, e1, g2, g3, g4, g5, g6⟩ := ht.row i hi
  refine ⟨b', o', x, e1, Nat.lt_of_lt_of_le g2 hsz, g3, g4, g5, ?_⟩
  rcases hr' with hr' | ⟨e2, hr'⟩
  ·exact absurd hi (by rw [hr']; omega)
  ·rw [e1] at e2
   injection e2 with e2
   injection e2 with e2
   subst e2
   rw [← g6]
   exact World.cell?_of_block (w := w) (hb _ g2 (fun ee => by have := hlo _ ee.symm; (try dsimp only at *); omega))
 ·obtain ⟨b, p0, p1, p2, p3, e1, e2, e3, hb', hp⟩ := h.par
  exact ⟨b, p0, p1, p2, p3, e1, e2, e3, hne hb' he.2.2.2, hp⟩
 ·exact h.row
end Go.Proofs.YtchibamdkaejdaaDoor
