/-
  The walk of the specification's block: a text of bounded length. Conditions: the statements are of finite depth, and of a weight of at most a million. The walk of the specification's Print: a text of bounded length. Condition: the program is as the generator makes it: few records and functions, of finite depth and small weight.
-/
import Derived.Test.YtchibamdkaejdaaDoorZA
import Derived.Test.YtchibamdkaejdaaDoorZPr
namespace Go.Proofs.YtchibamdkaejdaaDoor
open Go.RowKit

/-- The k-th statement of a row, with what is known of it. -/
theorem RowsOk.stm {w : World} {d len cap : Nat} {A : Option Addr} {ns : List Nat} (h : RowsOk (StOk w d) w 75 13 A len cap ns) {k : Nat} (hk : k < len) :
  ∃ (d' b kind ln : Nat) (line id vr callee : Int) (nm ty fn : ByteArray) (A1 A2 A3 A4 : Option Addr) (l1 c1 l2 c2 l3 c3 l4 c4 : Nat) (n1 n2 n3 n4 : List Nat), d = d' + 1 ∧ A = some ⟨b, 0, none⟩ ∧ b < w.heap.size ∧ ns[k]? = some (1 + n1.sum + n2.sum + n3.sum + n4.sum) ∧
   (1 ≤ kind ∧ kind ≤ 10 ∧ (l1 = 0 ∨ kind = 2 ∨ kind = 3)) ∧ ln ≤ 100 ∧ nm.size ≤ 20 ∧ ty.size ≤ 20 ∧ fn.size ≤ 20 ∧
   RowsOk (ExOk w 8) w 72 6 A1 l1 c1 n1 ∧ RowsOk (ExOk w 8) w 72 6 A2 l2 c2 n2 ∧
   RowsOk (StOk w d') w 75 13 A3 l3 c3 n3 ∧ RowsOk (StOk w d') w 75 13 A4 l4 c4 n4 ∧
   ∀ j, j < 13 → w.cell? ⟨b, k * 13 + j, none⟩ = ([.int .i64 kind, .int .i64 line, .int .i64 id, .string nm, .string ty, .int .i64 ln, .int .i64 vr, .slice A1 l1 c1, .string fn, .int .i64 callee, .slice A2 l2 c2, .slice A3 l3 c3, .slice A4 l4 c4] : List Value)[j]? := by
 obtain ⟨h1, h2, h3, h4⟩ := h
 obtain ⟨b, cur, fr, hA, hb, hc⟩ := h4 (by omega)
 have hkn : ns[k]? = some (ns[k]'(by omega)) := List.getElem?_eq_getElem (by omega)
 obtain ⟨vs, hl, hcell, hP⟩ := hc k _ hkn
 cases d with
 | zero => exact hP.elim
 | succ d =>
  obtain ⟨kind, len', line, id, vr, callee, nm, ty, fn, A1, A2, A3, A4, l1, c1, l2, c2, l3, c3, l4, c4, n1, n2, n3, n4, e1, p1, p2, p3, p4, p5, r1, r2, r3, r4, e5⟩ := hP
  have e2 : vs = [.int .i64 kind, .int .i64 line, .int .i64 id, .string nm, .string ty, .int .i64 len', .int .i64 vr, .slice A1 l1 c1, .string fn, .int .i64 callee, .slice A2 l2 c2, .slice A3 l3 c3, .slice A4 l4 c4] := by
   injection e1 with e1
   have := congrArg Array.toList e1
   simpa using this
  subst e2
  rw [e5] at hkn
  exact ⟨d, b, kind, len', line, id, vr, callee, nm, ty, fn, A1, A2, A3, A4, l1, c1, l2, c2, l3, c3, l4, c4, n1, n2, n3, n4, rfl, hA, (Array.getElem?_eq_some_iff.1 hb).1, hkn, p1, p2, p3, p4, p5, r1, r2, r3, r4, fun j hj => by
   rw [cell_of_row w b (k * 13 + j) cur _ fr hb]; exact hcell j hj⟩

/-- What block does in depth d. -/
def BlockAt (d : Nat) : Prop := ∀ (W : World) (A : Option Addr) (len cap : Nat) (ns : List Nat) (tabs : ByteArray), RowsOk (StOk W d) W 75 13 A len cap ns → ns.sum ≤ 1000000 → tabs.size + d ≤ 100 →
 Calls Tryd.prog 24 #[.slice A len cap, .string tabs] W (Str W (500 * ns.sum))
/-- The same from a later world. -/
abbrev Later (V : World) (f : FuncId) (args : Array Value) (m : Nat) : Prop := ∀ W1, Below V.heap.size V W1 → Calls Tryd.prog f args W1 fun e w' => ∃ s : ByteArray, e = .returned (.string s) ∧ s.size ≤ m ∧ Below V.heap.size V w' ∧ Below W1.heap.size W1 w'
theorem later_block {V : World} {d : Nat} (ih : BlockAt d) {A : Option Addr} {len cap : Nat} {ns : List Nat} {tabs : ByteArray} (h : RowsOk (StOk V d) V 75 13 A len cap ns) (hn : ns.sum ≤ 1000000) (ht : tabs.size + d ≤ 100) : Later V 24 #[.slice A len cap, .string tabs] (500 * ns.sum) :=
 fun W1 hb => (ih W1 A len cap ns tabs (h.keep (.inr rfl) (KeptX.below hb) (fun _ _ hv => StOk.keep (KeptX.below hb) hv)) hn ht).mono fun _ _ ⟨s, h1, h2, h3⟩ => ⟨s, h1, h2, hb.trans (h3.mono hb.size), h3⟩
theorem later_value {V : World} {d : Nat} {ln : Nat} {K line id vr callee : Int} {nm ty fn : ByteArray} {A1 A2 A3 A4 : Option Addr} {l1 c1 l2 c2 l3 c3 l4 c4 : Nat} {ns : List Nat} (hfn : fn.size ≤ 20) (h : RowsOk (ExOk V d) V 72 6 A2 l2 c2 ns) (hn : ns.sum ≤ 1000000) : Later V 39 #[.agg #[.int .i64 K, .int .i64 line, .int .i64 id, .string nm, .string ty, .int .i64 ln, .int .i64 vr, .slice A1 l1 c1, .string fn, .int .i64 callee, .slice A2 l2 c2, .slice A3 l3 c3, .slice A4 l4 c4]] (102 * ns.sum + 30) :=
 fun W1 hb => (value_any d W1 ln K line id vr callee nm ty fn A1 A2 A3 A4 l1 c1 l2 c2 l3 c3 l4 c4 ns hfn (h.keep (.inl rfl) (KeptX.below hb) (fun _ _ hv => ExOk.keep (KeptX.below hb) hv)) hn).mono fun _ _ ⟨s, h1, h2, h3⟩ => ⟨s, h1, h2, hb.trans (h3.mono hb.size), h3⟩
theorem drew_below (V : World) : Below V.heap.size V V.drew := ⟨rfl, rfl, rfl, Nat.le_refl _, fun _ _ => rfl⟩

set_option maxHeartbeats 0 in
set_option maxRecDepth 100000 in
theorem block_step (d : Nat) (ih : Hid (∀ d', d = d' + 1 → BlockAt d')) : BlockAt d := by
 intro w A len cap ns tabs hr hn htabs
 have z0 : (⟨#[118, 97, 114, 32]⟩ : ByteArray).size = 4 := rfl
 have z1 : (⟨#[58, 32]⟩ : ByteArray).size = 2 := rfl
 have z2 : (⟨#[59, 10]⟩ : ByteArray).size = 2 := rfl
 have z3 : (⟨#[105, 110, 116]⟩ : ByteArray).size = 3 := rfl
 have z4 : (⟨#[105, 110, 116, 91]⟩ : ByteArray).size = 4 := rfl
 have z5 : (⟨#[93]⟩ : ByteArray).size = 1 := rfl
 have z6 : (⟨#[32, 61, 32]⟩ : ByteArray).size = 3 := rfl
 have z7 : (⟨#[114, 101, 116, 117, 114, 110, 32]⟩ : ByteArray).size = 7 := rfl
 have z8 : (⟨#[116, 104, 114, 111, 119, 32]⟩ : ByteArray).size = 6 := rfl
 have z9 : (⟨#[112, 114, 105, 110, 116, 32]⟩ : ByteArray).size = 6 := rfl
 have z10 : (⟨#[105, 102, 32]⟩ : ByteArray).size = 3 := rfl
 have z11 : (⟨#[32, 123, 10]⟩ : ByteArray).size = 3 := rfl
 have z12 : (⟨#[125, 32, 101, 108, 115, 101, 32, 123, 10]⟩ : ByteArray).size = 9 := rfl
 have z13 : (⟨#[125, 10]⟩ : ByteArray).size = 2 := rfl
 have z14 : (⟨#[119, 104, 105, 108, 101, 32]⟩ : ByteArray).size = 6 := rfl
 have z15 : (⟨#[116, 114, 121, 32, 123, 10]⟩ : ByteArray).size = 6 := rfl
 have z16 : (⟨#[125, 32, 99, 97, 116, 99, 104, 32]⟩ : ByteArray).size = 8 := rfl
 have z17 : (⟨#[9]⟩ : ByteArray).size = 1 := rfl
 have zE : (⟨#[]⟩ : ByteArray).size = 0 := rfl
 have hcap : cap ≤ 9223372036854775807 := by have := hr.2.2.1; unfold maxLen at this; omega
 have hlc : len ≤ cap := hr.2.1
 have hl := hr.1
 have HR := Lib.hid hr
 have ht := cat tabs ⟨#[9]⟩ (by omega)
 clear hr
 go_enter Tryd.func24, Tryd.ntmps24
 go_wp2_with fail
 go_loopw [5, 12] (fun v i wr => ∃ (k : Nat) (s : ByteArray), k ≤ len ∧ i = .int .i64 k ∧ v = .string s ∧ s.size ≤ 500 * (ns.take k).sum ∧ Below w.heap.size w wr) (fun _ i _ => len - (intOf i).toNat)
 case atStart => exact ⟨0, ⟨#[]⟩, Nat.zero_le _, rfl, rfl, Nat.zero_le _, Below.refl _ _⟩
 case round =>
  obtain ⟨k, s, hk, rfl, rfl, hs, hbel⟩ := hrel
  have hts := take_sum_le ns k
  by_cases hlt : k < len
  ·obtain ⟨d', b, kind, ln, line, id, vr, callee, nm, ty, fn, A1, A2, A3, A4, l1, c1, l2, c2, l3, c3, l4, c4, n1, n2, n3, n4, hd, rfl, hb, hns, hkind, hln, hnm, hty, hfn, r1, r2, r3, r4, hcell⟩ := HR.out.stm hlt
   subst hd
   obtain ⟨K, hK⟩ : ∃ K : Int, K = (kind : Int) := ⟨_, rfl⟩
   rw [← hK] at hcell
   have hsucc := take_sum_succ ns k _ hns
   have hle := take_sum_le ns (k + 1)
   have hsn : 500 * (ns.take k).sum + 500 * (1 + n1.sum + n2.sum + n3.sum + n4.sum) ≤ 500000000 := by omega
   have HS := Lib.hid hsucc
   have hcw : ∀ j, j < 13 → wr.cell? ⟨b, k * 13 + j, none⟩ = ([.int .i64 K, .int .i64 line, .int .i64 id, .string nm, .string ty, .int .i64 ln, .int .i64 vr, .slice A1 l1 c1, .string fn, .int .i64 callee, .slice A2 l2 c2, .slice A3 l3 c3, .slice A4 l4 c4] : List Value)[j]? := fun j hj => (hbel.cell (p := ⟨b, k * 13 + j, none⟩) hb).trans (hcell j hj)
   have g0 : wr.cell? ⟨b, k * 13, none⟩ = some (.int .i64 K) := hcw 0 (by omega)
   have g1 : wr.cell? ⟨b, k * 13 + 1, none⟩ = some (.int .i64 line) := hcw 1 (by omega)
   have g2 : wr.cell? ⟨b, k * 13 + 2, none⟩ = some (.int .i64 id) := hcw 2 (by omega)
   have g3 : wr.cell? ⟨b, k * 13 + 3, none⟩ = some (.string nm) := hcw 3 (by omega)
   have g4 : wr.cell? ⟨b, k * 13 + 4, none⟩ = some (.string ty) := hcw 4 (by omega)
   have g5 : wr.cell? ⟨b, k * 13 + 5, none⟩ = some (.int .i64 ln) := hcw 5 (by omega)
   have g6 : wr.cell? ⟨b, k * 13 + 6, none⟩ = some (.int .i64 vr) := hcw 6 (by omega)
   have g7 : wr.cell? ⟨b, k * 13 + 7, none⟩ = some (.slice A1 l1 c1) := hcw 7 (by omega)
   have g8 : wr.cell? ⟨b, k * 13 + 8, none⟩ = some (.string fn) := hcw 8 (by omega)
   have g9 : wr.cell? ⟨b, k * 13 + 9, none⟩ = some (.int .i64 callee) := hcw 9 (by omega)
   have g10 : wr.cell? ⟨b, k * 13 + 10, none⟩ = some (.slice A2 l2 c2) := hcw 10 (by omega)
   have g11 : wr.cell? ⟨b, k * 13 + 11, none⟩ = some (.slice A3 l3 c3) := hcw 11 (by omega)
   have g12 : wr.cell? ⟨b, k * 13 + 12, none⟩ = some (.slice A4 l4 c4) := hcw 12 (by omega)
   obtain ⟨V, hV⟩ : ∃ V, Hid (wr.alloc (.cells #[.int .i64 K, .int .i64 line, .int .i64 id, .string nm, .string ty, .int .i64 ln, .int .i64 vr, .slice A1 l1 c1, .string fn, .int .i64 callee, .slice A2 l2 c2, .slice A3 l3 c3, .slice A4 l4 c4] 75) = V) := ⟨_, Lib.hid rfl⟩
   have x0 : V.cell? ⟨wr.heap.size, 0, none⟩ = some (.int .i64 K) := by rw [← hV.out, World.cell?_alloc_at _ _ _ _ rfl]; rfl
   have x1 : V.cell? ⟨wr.heap.size, 1, none⟩ = some (.int .i64 line) := by rw [← hV.out, World.cell?_alloc_at _ _ _ _ rfl]; rfl
   have x2 : V.cell? ⟨wr.heap.size, 2, none⟩ = some (.int .i64 id) := by rw [← hV.out, World.cell?_alloc_at _ _ _ _ rfl]; rfl
   have x3 : V.cell? ⟨wr.heap.size, 3, none⟩ = some (.string nm) := by rw [← hV.out, World.cell?_alloc_at _ _ _ _ rfl]; rfl
   have x4 : V.cell? ⟨wr.heap.size, 4, none⟩ = some (.string ty) := by rw [← hV.out, World.cell?_alloc_at _ _ _ _ rfl]; rfl
   have x5 : V.cell? ⟨wr.heap.size, 5, none⟩ = some (.int .i64 ln) := by rw [← hV.out, World.cell?_alloc_at _ _ _ _ rfl]; rfl
   have x6 : V.cell? ⟨wr.heap.size, 6, none⟩ = some (.int .i64 vr) := by rw [← hV.out, World.cell?_alloc_at _ _ _ _ rfl]; rfl
   have x7 : V.cell? ⟨wr.heap.size, 7, none⟩ = some (.slice A1 l1 c1) := by rw [← hV.out, World.cell?_alloc_at _ _ _ _ rfl]; rfl
   have x8 : V.cell? ⟨wr.heap.size, 8, none⟩ = some (.string fn) := by rw [← hV.out, World.cell?_alloc_at _ _ _ _ rfl]; rfl
   have x9 : V.cell? ⟨wr.heap.size, 9, none⟩ = some (.int .i64 callee) := by rw [← hV.out, World.cell?_alloc_at _ _ _ _ rfl]; rfl
   have x10 : V.cell? ⟨wr.heap.size, 10, none⟩ = some (.slice A2 l2 c2) := by rw [← hV.out, World.cell?_alloc_at _ _ _ _ rfl]; rfl
   have x11 : V.cell? ⟨wr.heap.size, 11, none⟩ = some (.slice A3 l3 c3) := by rw [← hV.out, World.cell?_alloc_at _ _ _ _ rfl]; rfl
   have x12 : V.cell? ⟨wr.heap.size, 12, none⟩ = some (.slice A4 l4 c4) := by rw [← hV.out, World.cell?_alloc_at _ _ _ _ rfl]; rfl
   have hwV : Below wr.heap.size wr V := by rw [← hV.out]; exact (Below.refl _ _).alloc (Nat.le_refl _) _
   have z : wr.heap.size < V.heap.size := by rw [← hV.out]; simp
   have hz := hbel.size
   have hBV : Below w.heap.size w V := hbel.trans (hwV.mono hz)
   have HB := Lib.hid hBV
   have hkx := KeptX.below hBV
   have hkw := KeptX.below hbel
   have RW := Lib.hid (r1.keep (.inl rfl) hkw (fun _ _ hv => ExOk.keep hkw hv))
   have HWV := Lib.hid hwV
   have r2 := r2.keep (.inl rfl) hkx (fun _ _ hv => ExOk.keep hkx hv)
   have r3 := r3.keep (.inr rfl) hkx (fun _ _ hv => StOk.keep hkx hv)
   have r4 := r4.keep (.inr rfl) hkx (fun _ _ hv => StOk.keep hkx hv)
   have HCV := Lib.hid (later_value (K := K) (ln := ln) (line := line) (id := id) (vr := vr) (callee := callee) (nm := nm) (ty := ty) (A1 := A1) (A3 := A3) (A4 := A4) (l1 := l1) (c1 := c1) (l3 := l3) (c3 := c3) (l4 := l4) (c4 := c4) hfn r2 (by omega))
   have HC3 := Lib.hid (later_block (tabs := tabs ++ ⟨#[9]⟩) (ih.out d' rfl) r3 (by omega) (by simp only [sz_add]; omega))
   have HC4 := Lib.hid (later_block (tabs := tabs ++ ⟨#[9]⟩) (ih.out d' rfl) r4 (by omega) (by simp only [sz_add]; omega))
   have HSB := Lib.hid (show ∀ w1, Below V.heap.size V w1 → w1.cell? ⟨wr.heap.size, 0, none⟩ = some (.int .i64 K) ∧ w1.cell? ⟨wr.heap.size, 1, none⟩ = some (.int .i64 line) ∧ w1.cell? ⟨wr.heap.size, 2, none⟩ = some (.int .i64 id) ∧ w1.cell? ⟨wr.heap.size, 3, none⟩ = some (.string nm) ∧ w1.cell? ⟨wr.heap.size, 4, none⟩ = some (.string ty) ∧ w1.cell? ⟨wr.heap.size, 5, none⟩ = some (.int .i64 ln) ∧ w1.cell? ⟨wr.heap.size, 6, none⟩ = some (.int .i64 vr) ∧ w1.cell? ⟨wr.heap.size, 7, none⟩ = some (.slice A1 l1 c1) ∧ w1.cell? ⟨wr.heap.size, 8, none⟩ = some (.string fn) ∧ w1.cell? ⟨wr.heap.size, 9, none⟩ = some (.int .i64 callee) ∧ w1.cell? ⟨wr.heap.size, 10, none⟩ = some (.slice A2 l2 c2) ∧ w1.cell? ⟨wr.heap.size, 11, none⟩ = some (.slice A3 l3 c3) ∧ w1.cell? ⟨wr.heap.size, 12, none⟩ = some (.slice A4 l4 c4) from fun w1 hb1 => by
    have hc1 := fun o => (pcell hb1).1 wr.heap.size o z
    exact ⟨(hc1 _).trans x0, (hc1 _).trans x1, (hc1 _).trans x2, (hc1 _).trans x3, (hc1 _).trans x4, (hc1 _).trans x5, (hc1 _).trans x6, (hc1 _).trans x7, (hc1 _).trans x8, (hc1 _).trans x9, (hc1 _).trans x10, (hc1 _).trans x11, (hc1 _).trans x12⟩)
   have hl3 : c3 ≤ 9223372036854775807 ∧ l3 ≤ c3 := by have := r3.2.2.1; unfold maxLen at this; have := r3.2.1; omega
   have hl4 : c4 ≤ 9223372036854775807 ∧ l4 ≤ c4 := by have := r4.2.2.1; unfold maxLen at this; have := r4.2.1; omega
   have hl1 : c1 ≤ 9223372036854775807 ∧ l1 ≤ c1 := by have := r1.2.2.1; unfold maxLen at this; have := r1.2.1; omega
   have HSN := Lib.hid hsn
   have q0 := cat s tabs (by omega)
   clear hcw hcell hbel hns hl hsucc hwV hBV hkx hkw r1 r2 r3 r4 hle hts
   obtain ⟨hk1, hk9, hkt⟩ := hkind
   have hkk : K = 1 ∨ (K = 2 ∨ K = 3) ∨ K = 6 ∨ K = 7 ∨ K = 9 ∨ K = 4 ∨ K = 5 ∨ K = 8 ∨ K = 10 := by omega
   have HKT := Lib.hid (show l1 = 0 ∨ K = 2 ∨ K = 3 by omega)
   clear hkt hk1 hk9 hK
   rcases hkk with rfl | (rfl | rfl) | rfl | rfl | rfl | rfl | rfl | rfl | rfl
   ·as_aux_lemma =>
    obtain rfl : l1 = 0 := by have := HKT.out; omega
    rcases Nat.eq_zero_or_pos ln with hl0 | hl0
    ·have hl9 : (ln : Int) ≤ 0 := by omega
     clear hl0
     cases hte : ty.toList.isEmpty
     case true =>
      have p2 := cat (s ++ tabs) ⟨#[118, 97, 114, 32]⟩ (by (try simp only [sz_add]); omega)
      have p3 := cat (s ++ tabs ++ ⟨#[118, 97, 114, 32]⟩) nm (by (try simp only [sz_add]); omega)
      have p4 := cat (s ++ tabs ++ ⟨#[118, 97, 114, 32]⟩ ++ nm) ⟨#[58, 32]⟩ (by (try simp only [sz_add]); omega)
      have p5 := cat (s ++ tabs ++ ⟨#[118, 97, 114, 32]⟩ ++ nm ++ ⟨#[58, 32]⟩) ⟨#[105, 110, 116]⟩ (by (try simp only [sz_add]); omega)
      have p6 := cat (s ++ tabs ++ ⟨#[118, 97, 114, 32]⟩ ++ nm ++ ⟨#[58, 32]⟩ ++ ⟨#[105, 110, 116]⟩) ⟨#[59, 10]⟩ (by (try simp only [sz_add]); omega)
      go_wp2_with fail
      go_roundw
      case rel => exact ⟨k + 1, _, by omega, by go_num, rfl, by simp only [sz_add, HS.out]; omega, by rw [hV.out]; exact HB.out⟩
      case measure => simp [intOf]; omega
     case false =>
      have p2 := cat (s ++ tabs) ⟨#[118, 97, 114, 32]⟩ (by (try simp only [sz_add]); omega)
      have p3 := cat (s ++ tabs ++ ⟨#[118, 97, 114, 32]⟩) nm (by (try simp only [sz_add]); omega)
      have p4 := cat (s ++ tabs ++ ⟨#[118, 97, 114, 32]⟩ ++ nm) ⟨#[58, 32]⟩ (by (try simp only [sz_add]); omega)
      have p5 := cat (s ++ tabs ++ ⟨#[118, 97, 114, 32]⟩ ++ nm ++ ⟨#[58, 32]⟩) ty (by (try simp only [sz_add]); omega)
      have p6 := cat (s ++ tabs ++ ⟨#[118, 97, 114, 32]⟩ ++ nm ++ ⟨#[58, 32]⟩ ++ ty) ⟨#[59, 10]⟩ (by (try simp only [sz_add]); omega)
      go_wp2_with fail
      go_roundw
      case rel => exact ⟨k + 1, _, by omega, by go_num, rfl, by simp only [sz_add, HS.out]; omega, by rw [hV.out]; exact HB.out⟩
      case measure => simp [intOf]; omega
    ·cases hte : ty.toList.isEmpty
     all_goals
      go_wp2_with fail
      all_goals rw [hV.out]
      all_goals
       refine (digits_18 ln _ (by omega)).mono ?_
       rintro e w1 ⟨s1, rfl, hs1, hb1⟩
       obtain ⟨x0, x1, x2, x3, x4, x5, x6, x7, x8, x9, x10, x11, x12⟩ := HSB.out w1 hb1
       have t1 := cat ⟨#[105, 110, 116, 91]⟩ s1 (by omega)
       have t2 := cat (⟨#[105, 110, 116, 91]⟩ ++ s1) ⟨#[93]⟩ (by simp only [sz_add]; omega)
       have p2 := cat (s ++ tabs) ⟨#[118, 97, 114, 32]⟩ (by (try simp only [sz_add]); omega)
       have p3 := cat (s ++ tabs ++ ⟨#[118, 97, 114, 32]⟩) nm (by (try simp only [sz_add]); omega)
       have p4 := cat (s ++ tabs ++ ⟨#[118, 97, 114, 32]⟩ ++ nm) ⟨#[58, 32]⟩ (by (try simp only [sz_add]); omega)
       have p5 := cat (s ++ tabs ++ ⟨#[118, 97, 114, 32]⟩ ++ nm ++ ⟨#[58, 32]⟩) (⟨#[105, 110, 116, 91]⟩ ++ s1 ++ ⟨#[93]⟩) (by (try simp only [sz_add]); omega)
       have p6 := cat (s ++ tabs ++ ⟨#[118, 97, 114, 32]⟩ ++ nm ++ ⟨#[58, 32]⟩ ++ (⟨#[105, 110, 116, 91]⟩ ++ s1 ++ ⟨#[93]⟩)) ⟨#[59, 10]⟩ (by (try simp only [sz_add]); omega)
       go_wp2_with fail
       go_roundw
       case rel => exact ⟨k + 1, _, by omega, by go_num, rfl, by simp only [sz_add, HS.out]; omega, HB.out.trans (hb1.mono HB.out.size)⟩
       case measure => simp [intOf]; omega
   ·as_aux_lemma =>
    rcases Nat.eq_zero_or_pos l1 with hl0 | hl0
    ·subst hl0
     have p2 := cat (s ++ tabs) ⟨#[]⟩ (by (try simp only [sz_add]); omega)
     go_wp2_with fail
     rw [hV.out]
     refine (HCV.out V (Below.refl _ _)).mono ?_
     rintro e w1 ⟨s1, rfl, hs1, hb1, _⟩
     have v1 := cat (s ++ tabs ++ ⟨#[]⟩) s1 (by (try simp only [sz_add]); omega)
     have v2 := cat (s ++ tabs ++ ⟨#[]⟩ ++ s1) ⟨#[59, 10]⟩ (by (try simp only [sz_add]); omega)
     go_wp2_with fail
     go_roundw
     case rel => exact ⟨k + 1, _, by omega, by go_num, rfl, by simp only [sz_add, HS.out]; omega, HB.out.trans (hb1.mono HB.out.size)⟩
     case measure => simp [intOf]; omega
    ·obtain ⟨bt, o0, o1, o2, o3, o4, At, lt, ct, nt, rfl, hbt, hnt, hext, y0, y1, y2, y3, y4, y5⟩ := RW.out.arg (k := 0) (by omega)
     simp only [Nat.zero_mul, Nat.zero_add] at y0 y1 y2 y3 y4 y5
     have hst := sum_at _ _ _ hnt
     have HXT := Lib.hid (hext.keep (KeptX.below HWV.out))
     clear hext hnt
     go_wp2_with fail
     rw [hV.out]
     refine (pexpr_any 8 _ nt V 1 HXT.out (by omega)).mono ?_
     rintro e w1 ⟨s0, rfl, hs0, hb0⟩
     have q00 := cat s0 ⟨#[32, 61, 32]⟩ (by omega)
     obtain ⟨x0, x1, x2, x3, x4, x5, x6, x7, x8, x9, x10, x11, x12⟩ := HSB.out w1 hb0
     have p2 := cat (s ++ tabs) (s0 ++ ⟨#[32, 61, 32]⟩) (by (try simp only [sz_add]); omega)
     go_wp2_with fail
     refine (HCV.out w1 hb0).mono ?_
     rintro e w2 ⟨s1, rfl, hs1, hb1, _⟩
     have v1 := cat (s ++ tabs ++ (s0 ++ ⟨#[32, 61, 32]⟩)) s1 (by (try simp only [sz_add]); omega)
     have v2 := cat (s ++ tabs ++ (s0 ++ ⟨#[32, 61, 32]⟩) ++ s1) ⟨#[59, 10]⟩ (by (try simp only [sz_add]); omega)
     go_wp2_with fail
     go_roundw
     case rel => exact ⟨k + 1, _, by omega, by go_num, rfl, by simp only [sz_add, HS.out]; omega, HB.out.trans (hb1.mono HB.out.size)⟩
     case measure => simp [intOf]; omega
   ·as_aux_lemma =>
    rcases Nat.eq_zero_or_pos l1 with hl0 | hl0
    ·subst hl0
     have p2 := cat (s ++ tabs) ⟨#[]⟩ (by (try simp only [sz_add]); omega)
     go_wp2_with fail
     rw [hV.out]
     refine (HCV.out V (Below.refl _ _)).mono ?_
     rintro e w1 ⟨s1, rfl, hs1, hb1, _⟩
     have v1 := cat (s ++ tabs ++ ⟨#[]⟩) s1 (by (try simp only [sz_add]); omega)
     have v2 := cat (s ++ tabs ++ ⟨#[]⟩ ++ s1) ⟨#[59, 10]⟩ (by (try simp only [sz_add]); omega)
     go_wp2_with fail
     go_roundw
     case rel => exact ⟨k + 1, _, by omega, by go_num, rfl, by simp only [sz_add, HS.out]; omega, HB.out.trans (hb1.mono HB.out.size)⟩
     case measure => simp [intOf]; omega
    ·obtain ⟨bt, o0, o1, o2, o3, o4, At, lt, ct, nt, rfl, hbt, hnt, hext, y0, y1, y2, y3, y4, y5⟩ := RW.out.arg (k := 0) (by omega)
     simp only [Nat.zero_mul, Nat.zero_add] at y0 y1 y2 y3 y4 y5
     have hst := sum_at _ _ _ hnt
     have HXT := Lib.hid (hext.keep (KeptX.below HWV.out))
     clear hext hnt
     go_wp2_with fail
     rw [hV.out]
     refine (pexpr_any 8 _ nt V 1 HXT.out (by omega)).mono ?_
     rintro e w1 ⟨s0, rfl, hs0, hb0⟩
     have q00 := cat s0 ⟨#[32, 61, 32]⟩ (by omega)
     obtain ⟨x0, x1, x2, x3, x4, x5, x6, x7, x8, x9, x10, x11, x12⟩ := HSB.out w1 hb0
     have p2 := cat (s ++ tabs) (s0 ++ ⟨#[32, 61, 32]⟩) (by (try simp only [sz_add]); omega)
     go_wp2_with fail
     refine (HCV.out w1 hb0).mono ?_
     rintro e w2 ⟨s1, rfl, hs1, hb1, _⟩
     have v1 := cat (s ++ tabs ++ (s0 ++ ⟨#[32, 61, 32]⟩)) s1 (by (try simp only [sz_add]); omega)
     have v2 := cat (s ++ tabs ++ (s0 ++ ⟨#[32, 61, 32]⟩) ++ s1) ⟨#[59, 10]⟩ (by (try simp only [sz_add]); omega)
     go_wp2_with fail
     go_roundw
     case rel => exact ⟨k + 1, _, by omega, by go_num, rfl, by simp only [sz_add, HS.out]; omega, HB.out.trans (hb1.mono HB.out.size)⟩
     case measure => simp [intOf]; omega
   ·as_aux_lemma =>
    obtain rfl : l1 = 0 := by have := HKT.out; omega
    have p2 := cat (s ++ tabs) ⟨#[114, 101, 116, 117, 114, 110, 32]⟩ (by (try simp only [sz_add]); omega)
    go_wp2_with fail
    rw [hV.out]
    refine (HCV.out V (Below.refl _ _)).mono ?_
    rintro e w1 ⟨s1, rfl, hs1, hb1, _⟩
    have v1 := cat (s ++ tabs ++ ⟨#[114, 101, 116, 117, 114, 110, 32]⟩) s1 (by (try simp only [sz_add]); omega)
    have v2 := cat (s ++ tabs ++ ⟨#[114, 101, 116, 117, 114, 110, 32]⟩ ++ s1) ⟨#[59, 10]⟩ (by (try simp only [sz_add]); omega)
    go_wp2_with fail
    go_roundw
    case rel => exact ⟨k + 1, _, by omega, by go_num, rfl, by simp only [sz_add, HS.out]; omega, HB.out.trans (hb1.mono HB.out.size)⟩
    case measure => simp [intOf]; omega
   ·as_aux_lemma =>
    obtain rfl : l1 = 0 := by have := HKT.out; omega
    have p2 := cat (s ++ tabs) ⟨#[116, 104, 114, 111, 119, 32]⟩ (by (try simp only [sz_add]); omega)
    go_wp2_with fail
    rw [hV.out]
    refine (HCV.out V (Below.refl _ _)).mono ?_
    rintro e w1 ⟨s1, rfl, hs1, hb1, _⟩
    have v1 := cat (s ++ tabs ++ ⟨#[116, 104, 114, 111, 119, 32]⟩) s1 (by (try simp only [sz_add]); omega)
    have v2 := cat (s ++ tabs ++ ⟨#[116, 104, 114, 111, 119, 32]⟩ ++ s1) ⟨#[59, 10]⟩ (by (try simp only [sz_add]); omega)
    go_wp2_with fail
    go_roundw
    case rel => exact ⟨k + 1, _, by omega, by go_num, rfl, by simp only [sz_add, HS.out]; omega, HB.out.trans (hb1.mono HB.out.size)⟩
    case measure => simp [intOf]; omega
   ·as_aux_lemma =>
    obtain rfl : l1 = 0 := by have := HKT.out; omega
    have p2 := cat (s ++ tabs) ⟨#[112, 114, 105, 110, 116, 32]⟩ (by (try simp only [sz_add]); omega)
    go_wp2_with fail
    rw [hV.out]
    refine (HCV.out V (Below.refl _ _)).mono ?_
    rintro e w1 ⟨s1, rfl, hs1, hb1, _⟩
    have v1 := cat (s ++ tabs ++ ⟨#[112, 114, 105, 110, 116, 32]⟩) s1 (by (try simp only [sz_add]); omega)
    have v2 := cat (s ++ tabs ++ ⟨#[112, 114, 105, 110, 116, 32]⟩ ++ s1) ⟨#[59, 10]⟩ (by (try simp only [sz_add]); omega)
    go_wp2_with fail
    go_roundw
    case rel => exact ⟨k + 1, _, by omega, by go_num, rfl, by simp only [sz_add, HS.out]; omega, HB.out.trans (hb1.mono HB.out.size)⟩
    case measure => simp [intOf]; omega
   ·as_aux_lemma =>
    obtain rfl : l1 = 0 := by have := HKT.out; omega
    have p2 := cat (s ++ tabs) ⟨#[105, 102, 32]⟩ (by (try simp only [sz_add]); omega)
    have D0 : Hid (Below V.heap.size V V.drew) := Lib.hid (drew_below V)
    have HS0 := Lib.hid (HSB.out V.drew D0.out)
    go_wp2_with fail
    rw [hV.out]
    go_region_held3 (fun w1 => w1.cell? ⟨wr.heap.size, 0, none⟩ = some (.int .i64 4) ∧ w1.cell? ⟨wr.heap.size, 1, none⟩ = some (.int .i64 line) ∧ w1.cell? ⟨wr.heap.size, 2, none⟩ = some (.int .i64 id) ∧ w1.cell? ⟨wr.heap.size, 3, none⟩ = some (.string nm) ∧ w1.cell? ⟨wr.heap.size, 4, none⟩ = some (.string ty) ∧ w1.cell? ⟨wr.heap.size, 5, none⟩ = some (.int .i64 ln) ∧ w1.cell? ⟨wr.heap.size, 6, none⟩ = some (.int .i64 vr) ∧ w1.cell? ⟨wr.heap.size, 7, none⟩ = some (.slice A1 0 c1) ∧ w1.cell? ⟨wr.heap.size, 8, none⟩ = some (.string fn) ∧ w1.cell? ⟨wr.heap.size, 9, none⟩ = some (.int .i64 callee) ∧ w1.cell? ⟨wr.heap.size, 10, none⟩ = some (.slice A2 l2 c2) ∧ w1.cell? ⟨wr.heap.size, 11, none⟩ = some (.slice A3 l3 c3) ∧ w1.cell? ⟨wr.heap.size, 12, none⟩ = some (.slice A4 l4 c4)) (first | exact HS0.out | exact HS1)
     (first
      | (go_at_call 39; (with_reducible refine (HCV.out _ (by first | exact D0.out | exact hbB)).mono ?_); rintro e wA ⟨sA, rfl, hsA, hbA, _⟩; have HS1 := HSB.out wA hbA; have a1 := cat (s ++ tabs ++ ⟨#[105, 102, 32]⟩) sA (by (try simp only [sz_add]); omega); have a2 := cat (s ++ tabs ++ ⟨#[105, 102, 32]⟩ ++ sA) ⟨#[32, 123, 10]⟩ (by (try simp only [sz_add]); omega); try have b1 := cat (s ++ tabs ++ ⟨#[105, 102, 32]⟩ ++ sA ++ ⟨#[32, 123, 10]⟩) sB (by simp only [sz_add]; omega))
      | (go_at_call 24; (with_reducible refine (HC3.out _ (by first | exact D0.out | exact hbA)).mono ?_); rintro e wB ⟨sB, rfl, hsB, hbB, _⟩; have HS1 := HSB.out wB hbB; try have b1 := cat (s ++ tabs ++ ⟨#[105, 102, 32]⟩ ++ sA ++ ⟨#[32, 123, 10]⟩) sB (by simp only [sz_add]; omega)))
    obtain ⟨x0, x1, x2, x3, x4, x5, x6, x7, x8, x9, x10, x11, x12⟩ := HS1
    rcases Nat.eq_zero_or_pos l4 with hl0 | hl0
    ·subst hl0
     have f1 := cat (s ++ tabs ++ ⟨#[105, 102, 32]⟩ ++ sA ++ ⟨#[32, 123, 10]⟩ ++ sB) tabs (by (try simp only [sz_add]); omega)
     have f2 := cat (s ++ tabs ++ ⟨#[105, 102, 32]⟩ ++ sA ++ ⟨#[32, 123, 10]⟩ ++ sB ++ tabs) ⟨#[125, 10]⟩ (by (try simp only [sz_add]); omega)
     go_wp2_with fail
     go_roundw
     case rel => exact ⟨k + 1, _, by omega, by go_num, rfl, by simp only [sz_add, HS.out]; omega, HB.out.trans (hbB.mono HB.out.size)⟩
     case measure => simp [intOf]; omega
    ·have e1 := cat (s ++ tabs ++ ⟨#[105, 102, 32]⟩ ++ sA ++ ⟨#[32, 123, 10]⟩ ++ sB) tabs (by (try simp only [sz_add]); omega)
     have e2 := cat (s ++ tabs ++ ⟨#[105, 102, 32]⟩ ++ sA ++ ⟨#[32, 123, 10]⟩ ++ sB ++ tabs) ⟨#[125, 32, 101, 108, 115, 101, 32, 123, 10]⟩ (by (try simp only [sz_add]); omega)
     go_wp2_with fail
     refine (HC4.out wB hbB).mono ?_
     rintro e wE ⟨sE, rfl, hsE, hbE, _⟩
     have e3 := cat (s ++ tabs ++ ⟨#[105, 102, 32]⟩ ++ sA ++ ⟨#[32, 123, 10]⟩ ++ sB ++ tabs ++ ⟨#[125, 32, 101, 108, 115, 101, 32, 123, 10]⟩) sE (by (try simp only [sz_add]); omega)
     have e4 := cat (s ++ tabs ++ ⟨#[105, 102, 32]⟩ ++ sA ++ ⟨#[32, 123, 10]⟩ ++ sB ++ tabs ++ ⟨#[125, 32, 101, 108, 115, 101, 32, 123, 10]⟩ ++ sE) tabs (by (try simp only [sz_add]); omega)
     have e5 := cat (s ++ tabs ++ ⟨#[105, 102, 32]⟩ ++ sA ++ ⟨#[32, 123, 10]⟩ ++ sB ++ tabs ++ ⟨#[125, 32, 101, 108, 115, 101, 32, 123, 10]⟩ ++ sE ++ tabs) ⟨#[125, 10]⟩ (by (try simp only [sz_add]); omega)
     go_wp2_with fail
     go_roundw
     case rel => exact ⟨k + 1, _, by omega, by go_num, rfl, by simp only [sz_add, HS.out]; omega, HB.out.trans (hbE.mono HB.out.size)⟩
     case measure => simp [intOf]; omega
   ·as_aux_lemma =>
    obtain rfl : l1 = 0 := by have := HKT.out; omega
    have p2 := cat (s ++ tabs) ⟨#[119, 104, 105, 108, 101, 32]⟩ (by (try simp only [sz_add]); omega)
    have D0 : Hid (Below V.heap.size V V.drew) := Lib.hid (drew_below V)
    have HS0 := Lib.hid (HSB.out V.drew D0.out)
    go_wp2_with fail
    rw [hV.out]
    go_region_held3 (fun w1 => w1.cell? ⟨wr.heap.size, 0, none⟩ = some (.int .i64 5) ∧ w1.cell? ⟨wr.heap.size, 1, none⟩ = some (.int .i64 line) ∧ w1.cell? ⟨wr.heap.size, 2, none⟩ = some (.int .i64 id) ∧ w1.cell? ⟨wr.heap.size, 3, none⟩ = some (.string nm) ∧ w1.cell? ⟨wr.heap.size, 4, none⟩ = some (.string ty) ∧ w1.cell? ⟨wr.heap.size, 5, none⟩ = some (.int .i64 ln) ∧ w1.cell? ⟨wr.heap.size, 6, none⟩ = some (.int .i64 vr) ∧ w1.cell? ⟨wr.heap.size, 7, none⟩ = some (.slice A1 0 c1) ∧ w1.cell? ⟨wr.heap.size, 8, none⟩ = some (.string fn) ∧ w1.cell? ⟨wr.heap.size, 9, none⟩ = some (.int .i64 callee) ∧ w1.cell? ⟨wr.heap.size, 10, none⟩ = some (.slice A2 l2 c2) ∧ w1.cell? ⟨wr.heap.size, 11, none⟩ = some (.slice A3 l3 c3) ∧ w1.cell? ⟨wr.heap.size, 12, none⟩ = some (.slice A4 l4 c4)) (first | exact HS0.out | exact HS1)
     (first
      | (go_at_call 39; (with_reducible refine (HCV.out _ (by first | exact D0.out | exact hbB)).mono ?_); rintro e wA ⟨sA, rfl, hsA, hbA, _⟩; have HS1 := HSB.out wA hbA; have a1 := cat (s ++ tabs ++ ⟨#[119, 104, 105, 108, 101, 32]⟩) sA (by (try simp only [sz_add]); omega); have a2 := cat (s ++ tabs ++ ⟨#[119, 104, 105, 108, 101, 32]⟩ ++ sA) ⟨#[32, 123, 10]⟩ (by (try simp only [sz_add]); omega); try have b1 := cat (s ++ tabs ++ ⟨#[119, 104, 105, 108, 101, 32]⟩ ++ sA ++ ⟨#[32, 123, 10]⟩) sB (by (try simp only [sz_add]); omega); try have b2 := cat (s ++ tabs ++ ⟨#[119, 104, 105, 108, 101, 32]⟩ ++ sA ++ ⟨#[32, 123, 10]⟩ ++ sB) tabs (by (try simp only [sz_add]); omega); try have b3 := cat (s ++ tabs ++ ⟨#[119, 104, 105, 108, 101, 32]⟩ ++ sA ++ ⟨#[32, 123, 10]⟩ ++ sB ++ tabs) ⟨#[125, 10]⟩ (by (try simp only [sz_add]); omega))
      | (go_at_call 24; (with_reducible refine (HC3.out _ (by first | exact D0.out | exact hbA)).mono ?_); rintro e wB ⟨sB, rfl, hsB, hbB, _⟩; have HS1 := HSB.out wB hbB; try have b1 := cat (s ++ tabs ++ ⟨#[119, 104, 105, 108, 101, 32]⟩ ++ sA ++ ⟨#[32, 123, 10]⟩) sB (by (try simp only [sz_add]); omega); try have b2 := cat (s ++ tabs ++ ⟨#[119, 104, 105, 108, 101, 32]⟩ ++ sA ++ ⟨#[32, 123, 10]⟩ ++ sB) tabs (by (try simp only [sz_add]); omega); try have b3 := cat (s ++ tabs ++ ⟨#[119, 104, 105, 108, 101, 32]⟩ ++ sA ++ ⟨#[32, 123, 10]⟩ ++ sB ++ tabs) ⟨#[125, 10]⟩ (by (try simp only [sz_add]); omega)))
    ·clear HS1
     go_wp2_with fail
     go_roundw
     case rel => exact ⟨k + 1, _, by omega, by go_num, rfl, by simp only [sz_add, HS.out]; omega, HB.out.trans (hbB.mono HB.out.size)⟩
     case measure => simp [intOf]; omega
   ·as_aux_lemma =>
    obtain rfl : l1 = 0 := by have := HKT.out; omega
    have p2 := cat (s ++ tabs) ⟨#[116, 114, 121, 32, 123, 10]⟩ (by (try simp only [sz_add]); omega)
    have D0 : Hid (Below V.heap.size V V.drew) := Lib.hid (drew_below V)
    have HS0 := Lib.hid (HSB.out V.drew D0.out)
    go_wp2_with fail
    rw [hV.out]
    go_region_held3 (fun w1 => w1.cell? ⟨wr.heap.size, 0, none⟩ = some (.int .i64 8) ∧ w1.cell? ⟨wr.heap.size, 1, none⟩ = some (.int .i64 line) ∧ w1.cell? ⟨wr.heap.size, 2, none⟩ = some (.int .i64 id) ∧ w1.cell? ⟨wr.heap.size, 3, none⟩ = some (.string nm) ∧ w1.cell? ⟨wr.heap.size, 4, none⟩ = some (.string ty) ∧ w1.cell? ⟨wr.heap.size, 5, none⟩ = some (.int .i64 ln) ∧ w1.cell? ⟨wr.heap.size, 6, none⟩ = some (.int .i64 vr) ∧ w1.cell? ⟨wr.heap.size, 7, none⟩ = some (.slice A1 0 c1) ∧ w1.cell? ⟨wr.heap.size, 8, none⟩ = some (.string fn) ∧ w1.cell? ⟨wr.heap.size, 9, none⟩ = some (.int .i64 callee) ∧ w1.cell? ⟨wr.heap.size, 10, none⟩ = some (.slice A2 l2 c2) ∧ w1.cell? ⟨wr.heap.size, 11, none⟩ = some (.slice A3 l3 c3) ∧ w1.cell? ⟨wr.heap.size, 12, none⟩ = some (.slice A4 l4 c4)) (first | exact HS0.out | exact HS1)
     (first
      | (go_at_call 24; (with_reducible refine (HC3.out _ (by first | exact D0.out | exact hbB)).mono ?_); rintro e wA ⟨sA, rfl, hsA, hbA, _⟩; have HS1 := HSB.out wA hbA; have a1 := cat (s ++ tabs ++ ⟨#[116, 114, 121, 32, 123, 10]⟩) sA (by (try simp only [sz_add]); omega); have a2 := cat (s ++ tabs ++ ⟨#[116, 114, 121, 32, 123, 10]⟩ ++ sA) tabs (by (try simp only [sz_add]); omega); have a3 := cat (s ++ tabs ++ ⟨#[116, 114, 121, 32, 123, 10]⟩ ++ sA ++ tabs) ⟨#[125, 32, 99, 97, 116, 99, 104, 32]⟩ (by (try simp only [sz_add]); omega); have a4 := cat (s ++ tabs ++ ⟨#[116, 114, 121, 32, 123, 10]⟩ ++ sA ++ tabs ++ ⟨#[125, 32, 99, 97, 116, 99, 104, 32]⟩) nm (by (try simp only [sz_add]); omega); have a5 := cat (s ++ tabs ++ ⟨#[116, 114, 121, 32, 123, 10]⟩ ++ sA ++ tabs ++ ⟨#[125, 32, 99, 97, 116, 99, 104, 32]⟩ ++ nm) ⟨#[32, 123, 10]⟩ (by (try simp only [sz_add]); omega); try have b1 := cat (s ++ tabs ++ ⟨#[116, 114, 121, 32, 123, 10]⟩ ++ sA ++ tabs ++ ⟨#[125, 32, 99, 97, 116, 99, 104, 32]⟩ ++ nm ++ ⟨#[32, 123, 10]⟩) sB (by (try simp only [sz_add]); omega); try have b2 := cat (s ++ tabs ++ ⟨#[116, 114, 121, 32, 123, 10]⟩ ++ sA ++ tabs ++ ⟨#[125, 32, 99, 97, 116, 99, 104, 32]⟩ ++ nm ++ ⟨#[32, 123, 10]⟩ ++ sB) tabs (by (try simp only [sz_add]); omega); try have b3 := cat (s ++ tabs ++ ⟨#[116, 114, 121, 32, 123, 10]⟩ ++ sA ++ tabs ++ ⟨#[125, 32, 99, 97, 116, 99, 104, 32]⟩ ++ nm ++ ⟨#[32, 123, 10]⟩ ++ sB ++ tabs) ⟨#[125, 10]⟩ (by (try simp only [sz_add]); omega))
      | (go_at_call 24; (with_reducible refine (HC4.out _ (by first | exact D0.out | exact hbA)).mono ?_); rintro e wB ⟨sB, rfl, hsB, hbB, _⟩; have HS1 := HSB.out wB hbB; try have b1 := cat (s ++ tabs ++ ⟨#[116, 114, 121, 32, 123, 10]⟩ ++ sA ++ tabs ++ ⟨#[125, 32, 99, 97, 116, 99, 104, 32]⟩ ++ nm ++ ⟨#[32, 123, 10]⟩) sB (by (try simp only [sz_add]); omega); try have b2 := cat (s ++ tabs ++ ⟨#[116, 114, 121, 32, 123, 10]⟩ ++ sA ++ tabs ++ ⟨#[125, 32, 99, 97, 116, 99, 104, 32]⟩ ++ nm ++ ⟨#[32, 123, 10]⟩ ++ sB) tabs (by (try simp only [sz_add]); omega); try have b3 := cat (s ++ tabs ++ ⟨#[116, 114, 121, 32, 123, 10]⟩ ++ sA ++ tabs ++ ⟨#[125, 32, 99, 97, 116, 99, 104, 32]⟩ ++ nm ++ ⟨#[32, 123, 10]⟩ ++ sB ++ tabs) ⟨#[125, 10]⟩ (by (try simp only [sz_add]); omega)))
    ·clear HS1
     go_wp2_with fail
     go_roundw
     case rel => exact ⟨k + 1, _, by omega, by go_num, rfl, by simp only [sz_add, HS.out]; omega, HB.out.trans (hbB.mono HB.out.size)⟩
     case measure => simp [intOf]; omega
   ·as_aux_lemma =>
    obtain rfl : l1 = 0 := by have := HKT.out; omega
    go_wp2_with fail
    go_roundw
    case rel => exact ⟨k + 1, s, by omega, by go_num, rfl, by rw [HS.out]; omega, by rw [hV.out]; exact HB.out⟩
    case measure => simp [intOf]; omega
  ·obtain rfl : k = len := by omega
   go_wp2_with fail
   go_ret
   exact ⟨s, rfl, by omega, hbel⟩
theorem block_any (d : Nat) : BlockAt d := by
 induction d with
 | zero => exact block_step 0 (Lib.hid fun d' h => absurd h (by omega))
 | succ d ih =>
  exact block_step (d + 1) (Lib.hid fun d' h => by
   have e : d' = d := by omega
   rw [e]; exact ih)
end Go.Proofs.YtchibamdkaejdaaDoor
namespace Go.Proofs.YtchibamdkaejdaaDoor
open Go.RowKit

def RecsOk (w : World) (A : Option Addr) (len cap : Nat) : Prop :=
 len ≤ cap ∧ cap ≤ maxLen ∧ len ≤ 10 ∧ (len ≠ 0 → ∃ b, A = some ⟨b, 0, none⟩ ∧ b < w.heap.size ∧ ∀ k, k < len → ∃ (nm : ByteArray) (A' : Option Addr) (l' c' : Nat), nm.size ≤ 20 ∧ WordRow w A' l' c' ∧ w.cell? ⟨b, k * 2, none⟩ = some (.string nm) ∧ w.cell? ⟨b, k * 2 + 1, none⟩ = some (.slice A' l' c'))
def FunsOk (w : World) (A : Option Addr) (len cap : Nat) : Prop :=
 len ≤ cap ∧ cap ≤ maxLen ∧ len ≤ 10 ∧ (len ≠ 0 → ∃ b, A = some ⟨b, 0, none⟩ ∧ b < w.heap.size ∧ ∀ k, k < len → ∃ (nm : ByteArray) (line : Int) (A1 A2 : Option Addr) (l1 c1 l2 c2 : Nat) (ns : List Nat), nm.size ≤ 20 ∧ WordRow w A1 l1 c1 ∧ RowsOk (StOk w 50) w 75 13 A2 l2 c2 ns ∧ ns.sum ≤ 100000 ∧
  w.cell? ⟨b, k * 4, none⟩ = some (.string nm) ∧ w.cell? ⟨b, k * 4 + 1, none⟩ = some (.int .i64 line) ∧ w.cell? ⟨b, k * 4 + 2, none⟩ = some (.slice A1 l1 c1) ∧ w.cell? ⟨b, k * 4 + 3, none⟩ = some (.slice A2 l2 c2))
theorem later_words {V : World} {A : Option Addr} {len cap : Nat} (h : WordRow V A len cap) : Later V 23 #[.slice A len cap] (22 * len) :=
 fun W1 hb => (words_any W1 A len cap (h.below hb)).mono fun _ _ ⟨s, h1, h2, h3⟩ => ⟨s, h1, h2, hb.trans (h3.mono hb.size), h3⟩
theorem at_fields {W : World} {b o : Nat} {v : Value} {w1 : World} (h : W.cell? ⟨b, o, none⟩ = some v) (hb : b < W.heap.size) (hw : Below W.heap.size W w1) : w1.cell? ⟨b, o, none⟩ = some v := (hw.cell (p := ⟨b, o, none⟩) hb).trans h

set_option maxHeartbeats 0 in
set_option maxRecDepth 100000 in
theorem print_any (w : World) (AR AF : Option Addr) (lR cR lF cF : Nat) (hR : RecsOk w AR lR cR) (hF : FunsOk w AF lF cF) :
  Calls Tryd.prog 16 #[.agg #[.slice AR lR cR, .slice AF lF cF]] w (Str w 1000000000) := by
 have z0 : (⟨#[114, 101, 99, 111, 114, 100, 32]⟩ : ByteArray).size = 7 := rfl
 have z1 : (⟨#[32, 123, 32]⟩ : ByteArray).size = 3 := rfl
 have z2 : (⟨#[32, 125, 10]⟩ : ByteArray).size = 3 := rfl
 have z3 : (⟨#[102, 117, 110, 99, 32]⟩ : ByteArray).size = 5 := rfl
 have z4 : (⟨#[40]⟩ : ByteArray).size = 1 := rfl
 have z5 : (⟨#[41, 32, 123, 10]⟩ : ByteArray).size = 4 := rfl
 have z6 : (⟨#[125, 10]⟩ : ByteArray).size = 2 := rfl
 have z7 : (⟨#[9]⟩ : ByteArray).size = 1 := rfl
 have hcR : cR ≤ 9223372036854775807 := by have := hR.2.1; unfold maxLen at this; omega
 have hlR : lR ≤ cR := hR.1
 have hnR : lR ≤ 10 := hR.2.2.1
 have hcF : cF ≤ 9223372036854775807 := by have := hF.2.1; unfold maxLen at this; omega
 have hlF : lF ≤ cF := hF.1
 have hnF : lF ≤ 10 := hF.2.2.1
 have HR := Lib.hid hR.2.2.2
 have HF := Lib.hid hF.2.2.2
 clear hR hF
 obtain ⟨W, hW⟩ : ∃ W, Hid (w.alloc (.cells #[.slice AR lR cR, .slice AF lF cF] 45) = W) := ⟨_, Lib.hid rfl⟩
 have x0 : W.cell? ⟨w.heap.size, 0, none⟩ = some (.slice AR lR cR) := by rw [← hW.out, World.cell?_alloc_at _ _ _ _ rfl]; rfl
 have x1 : W.cell? ⟨w.heap.size, 1, none⟩ = some (.slice AF lF cF) := by rw [← hW.out, World.cell?_alloc_at _ _ _ _ rfl]; rfl
 have hwW : Below w.heap.size w W := by rw [← hW.out]; exact (Below.refl _ _).alloc (Nat.le_refl _) _
 have z : w.heap.size < W.heap.size := by rw [← hW.out]; simp
 have HB := Lib.hid hwW
 clear hwW
 go_enter Tryd.func16, Tryd.ntmps16
 go_wp2_with fail
 rw [hW.out]
 go_loopw [3, 11] (fun v i wr => ∃ (k : Nat) (s : ByteArray), k ≤ lR ∧ i = .int .i64 k ∧ v = .string s ∧ s.size ≤ 30000 * k ∧ Below W.heap.size W wr) (fun _ i _ => lR - (intOf i).toNat)
 case atStart => exact ⟨0, ⟨#[]⟩, Nat.zero_le _, rfl, rfl, Nat.zero_le _, Below.refl _ _⟩
 case round =>
  obtain ⟨k, s, hk, rfl, rfl, hs, hbel⟩ := hrel
  by_cases hlt : k < lR
  ·obtain ⟨b, rfl, hb, hc⟩ := HR.out (by omega)
   obtain ⟨nm, A', l', c', hnm, hwr, g0, g1⟩ := hc k hlt
   have hbw : Below w.heap.size w wr := HB.out.trans (hbel.mono (by omega))
   have g0 := at_fields g0 hb hbw
   have g1 := at_fields g1 hb hbw
   have hl' := hwr.2.2.1
   obtain ⟨V, hV⟩ : ∃ V, Hid (wr.alloc (.cells #[.string nm, .slice A' l' c'] 56) = V) := ⟨_, Lib.hid rfl⟩
   have y0 : V.cell? ⟨wr.heap.size, 0, none⟩ = some (.string nm) := by rw [← hV.out, World.cell?_alloc_at _ _ _ _ rfl]; rfl
   have y1 : V.cell? ⟨wr.heap.size, 1, none⟩ = some (.slice A' l' c') := by rw [← hV.out, World.cell?_alloc_at _ _ _ _ rfl]; rfl
   have hwV : Below wr.heap.size wr V := by rw [← hV.out]; exact (Below.refl _ _).alloc (Nat.le_refl _) _
   have zV : wr.heap.size < V.heap.size := by rw [← hV.out]; simp
   have HC := Lib.hid (later_words (hwr.below (hbw.trans (hwV.mono hbw.size))))
   have HSB := Lib.hid (show ∀ w1, Below V.heap.size V w1 → w1.cell? ⟨wr.heap.size, 0, none⟩ = some (.string nm) ∧ w1.cell? ⟨wr.heap.size, 1, none⟩ = some (.slice A' l' c') from fun w1 hb1 => ⟨at_fields y0 zV hb1, at_fields y1 zV hb1⟩)
   have HBV := Lib.hid (hbel.trans (hwV.mono hbel.size))
   have p1 := cat (s) ⟨#[114, 101, 99, 111, 114, 100, 32]⟩ (by (try simp only [sz_add]); omega)
   have p2 := cat (s ++ ⟨#[114, 101, 99, 111, 114, 100, 32]⟩) nm (by (try simp only [sz_add]); omega)
   have p3 := cat (s ++ ⟨#[114, 101, 99, 111, 114, 100, 32]⟩ ++ nm) ⟨#[32, 123, 32]⟩ (by (try simp only [sz_add]); omega)
   have D0 : Hid (Below V.heap.size V V.drew) := Lib.hid (drew_below V)
   have HS0 := Lib.hid (HSB.out V.drew D0.out)
   clear hbel hwV hbw hwr hc
   go_wp2_with fail
   rw [hV.out]
   go_region_held3 (fun w1 => w1.cell? ⟨wr.heap.size, 0, none⟩ = some (.string nm) ∧ w1.cell? ⟨wr.heap.size, 1, none⟩ = some (.slice A' l' c')) (first | exact HS0.out | exact HS1)
    (first | (go_at_call 23; (with_reducible refine (HC.out _ D0.out).mono ?_); rintro e wA ⟨sA, rfl, hsA, hbA, _⟩; have HS1 := HSB.out wA hbA; have a1 := cat (s ++ ⟨#[114, 101, 99, 111, 114, 100, 32]⟩ ++ nm ++ ⟨#[32, 123, 32]⟩) sA (by (try simp only [sz_add]); omega); have a2 := cat (s ++ ⟨#[114, 101, 99, 111, 114, 100, 32]⟩ ++ nm ++ ⟨#[32, 123, 32]⟩ ++ sA) ⟨#[32, 125, 10]⟩ (by (try simp only [sz_add]); omega)))
   clear HS1
   go_wp2_with fail
   go_roundw
   case rel => exact ⟨k + 1, _, by omega, by go_num, rfl, by simp only [sz_add]; omega, HBV.out.trans (hbA.mono HBV.out.size)⟩
   case measure => simp [intOf]; omega
  ·obtain rfl : k = lR := by omega
   have hbw : Below w.heap.size w wr := HB.out.trans (hbel.mono (by omega))
   have x1 := at_fields x1 z hbel
   have HBR := Lib.hid hbw
   clear hlt hbel hbw
   obtain ⟨wo, rfl⟩ : ∃ wo : World, wo = wr := ⟨_, rfl⟩
   go_wp2_with fail
   go_loopw [3, 30] (fun v i wq => ∃ (k : Nat) (s : ByteArray), k ≤ lF ∧ i = .int .i64 k ∧ v = .string s ∧ s.size ≤ 300000 + 60000000 * k ∧ Below wo.heap.size wo wq) (fun _ i _ => lF - (intOf i).toNat)
   case atStart => exact ⟨0, s, Nat.zero_le _, rfl, rfl, by omega, Below.refl _ _⟩
   case round =>
    obtain ⟨j, t, hj, rfl, rfl, ht, hbel⟩ := hrel
    by_cases hlt : j < lF
    ·obtain ⟨b, rfl, hb, hc⟩ := HF.out (by omega)
     obtain ⟨nm, line, A1, A2, l1, c1, l2, c2, ns, hnm, hwr, hst, hns, g0, g1, g2, g3⟩ := hc j hlt
     have hbw : Below w.heap.size w wr := HBR.out.trans (hbel.mono HBR.out.size)
     have g0 := at_fields g0 hb hbw
     have g1 := at_fields g1 hb hbw
     have g2 := at_fields g2 hb hbw
     have g3 := at_fields g3 hb hbw
     have hl' := hwr.2.2.1
     obtain ⟨V, hV⟩ : ∃ V, Hid (wr.alloc (.cells #[.string nm, .int .i64 line, .slice A1 l1 c1, .slice A2 l2 c2] 60) = V) := ⟨_, Lib.hid rfl⟩
     have y0 : V.cell? ⟨wr.heap.size, 0, none⟩ = some (.string nm) := by rw [← hV.out, World.cell?_alloc_at _ _ _ _ rfl]; rfl
     have y2 : V.cell? ⟨wr.heap.size, 2, none⟩ = some (.slice A1 l1 c1) := by rw [← hV.out, World.cell?_alloc_at _ _ _ _ rfl]; rfl
     have y3 : V.cell? ⟨wr.heap.size, 3, none⟩ = some (.slice A2 l2 c2) := by rw [← hV.out, World.cell?_alloc_at _ _ _ _ rfl]; rfl
     have hwV : Below wr.heap.size wr V := by rw [← hV.out]; exact (Below.refl _ _).alloc (Nat.le_refl _) _
     have zV : wr.heap.size < V.heap.size := by rw [← hV.out]; simp
     have hwV0 := hbw.trans (hwV.mono hbw.size)
     have HC := Lib.hid (later_words (hwr.below hwV0))
     have HD := Lib.hid (later_block (tabs := ⟨#[9]⟩) (block_any 50) (hst.keep (.inr rfl) (KeptX.below hwV0) (fun _ _ hv => StOk.keep (KeptX.below hwV0) hv)) (by omega) (by omega))
     have HSB := Lib.hid (show ∀ w1, Below V.heap.size V w1 → w1.cell? ⟨wr.heap.size, 0, none⟩ = some (.string nm) ∧ w1.cell? ⟨wr.heap.size, 2, none⟩ = some (.slice A1 l1 c1) ∧ w1.cell? ⟨wr.heap.size, 3, none⟩ = some (.slice A2 l2 c2) from fun w1 hb1 => ⟨at_fields y0 zV hb1, at_fields y2 zV hb1, at_fields y3 zV hb1⟩)
     have HBV := Lib.hid (hbel.trans (hwV.mono hbel.size))
     have p1 := cat (t) ⟨#[102, 117, 110, 99, 32]⟩ (by (try simp only [sz_add]); omega)
     have p2 := cat (t ++ ⟨#[102, 117, 110, 99, 32]⟩) nm (by (try simp only [sz_add]); omega)
     have p3 := cat (t ++ ⟨#[102, 117, 110, 99, 32]⟩ ++ nm) ⟨#[40]⟩ (by (try simp only [sz_add]); omega)
     have D0 : Hid (Below V.heap.size V V.drew) := Lib.hid (drew_below V)
     have HS0 := Lib.hid (HSB.out V.drew D0.out)
     clear hbel hwV hbw hwr hc hst hwV0
     go_wp2_with fail
     rw [hV.out]
     go_region_held3 (fun w1 => w1.cell? ⟨wr.heap.size, 0, none⟩ = some (.string nm) ∧ w1.cell? ⟨wr.heap.size, 2, none⟩ = some (.slice A1 l1 c1) ∧ w1.cell? ⟨wr.heap.size, 3, none⟩ = some (.slice A2 l2 c2)) (first | exact HS0.out | exact HS1)
      (first
       | (go_at_call 23; (with_reducible refine (HC.out _ (by first | exact D0.out | exact hbB)).mono ?_); rintro e wA ⟨sA, rfl, hsA, hbA, _⟩; have HS1 := HSB.out wA hbA; have a1 := cat (t ++ ⟨#[102, 117, 110, 99, 32]⟩ ++ nm ++ ⟨#[40]⟩) sA (by (try simp only [sz_add]); omega); have a2 := cat (t ++ ⟨#[102, 117, 110, 99, 32]⟩ ++ nm ++ ⟨#[40]⟩ ++ sA) ⟨#[41, 32, 123, 10]⟩ (by (try simp only [sz_add]); omega); try have b1 := cat (t ++ ⟨#[102, 117, 110, 99, 32]⟩ ++ nm ++ ⟨#[40]⟩ ++ sA ++ ⟨#[41, 32, 123, 10]⟩) sB (by (try simp only [sz_add]); omega); try have b2 := cat (t ++ ⟨#[102, 117, 110, 99, 32]⟩ ++ nm ++ ⟨#[40]⟩ ++ sA ++ ⟨#[41, 32, 123, 10]⟩ ++ sB) ⟨#[125, 10]⟩ (by (try simp only [sz_add]); omega))
       | (go_at_call 24; (with_reducible refine (HD.out _ (by first | exact D0.out | exact hbA)).mono ?_); rintro e wB ⟨sB, rfl, hsB, hbB, _⟩; have HS1 := HSB.out wB hbB; try have b1 := cat (t ++ ⟨#[102, 117, 110, 99, 32]⟩ ++ nm ++ ⟨#[40]⟩ ++ sA ++ ⟨#[41, 32, 123, 10]⟩) sB (by (try simp only [sz_add]); omega); try have b2 := cat (t ++ ⟨#[102, 117, 110, 99, 32]⟩ ++ nm ++ ⟨#[40]⟩ ++ sA ++ ⟨#[41, 32, 123, 10]⟩ ++ sB) ⟨#[125, 10]⟩ (by (try simp only [sz_add]); omega)))
     all_goals
      clear HS1
      go_wp2_with fail
      go_roundw
      case rel => exact ⟨j + 1, _, by omega, by go_num, rfl, by simp only [sz_add]; omega, by first | exact HBV.out.trans (hbB.mono HBV.out.size) | exact HBV.out.trans (hbA.mono HBV.out.size)⟩
      case measure => simp [intOf]; omega
    ·obtain rfl : j = lF := by omega
     go_wp2_with fail
     go_ret
     exact ⟨t, rfl, by omega, HBR.out.trans (hbel.mono HBR.out.size)⟩
end Go.Proofs.YtchibamdkaejdaaDoor
