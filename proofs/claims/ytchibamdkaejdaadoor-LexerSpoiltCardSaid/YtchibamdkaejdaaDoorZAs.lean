/-
  The walk of the generator's assign. Condition: the maker with rows of its own.
-/
import Derived.Test.YtchibamdkaejdaaDoorZA
import Derived.Test.YtchibamdkaejdaaDoorZCa
namespace Go.Proofs.YtchibamdkaejdaaDoor
open Go.RowKit
variable {lo : Nat}

/-- A statement without blocks has been made. -/
def AssignMade (lo B : Nat) (m : Mk) (w : World) (e : Ending) (w' : World) : Prop :=
 ∃ (kind : Nat) (fn : ByteArray) (A1 : Option Addr) (l1 c1 : Nat) (A2 : Option Addr) (l2 c2 : Nat) (n1 n2 : List Nat), e = .returned (.agg (asCells kind fn A1 l1 c1 A2 l2 c2)) ∧ (1 ≤ kind ∧ kind ≤ 10 ∧ (l1 = 0 ∨ kind = 2 ∨ kind = 3)) ∧ fn.size ≤ 20 ∧ ExRow w' A1 l1 c1 n1 ∧ ExRow w' A2 l2 c2 n2 ∧ n1.sum + n2.sum ≤ 80 ∧ Cx lo B m w' ∧ Went lo B w w'
set_option linter.unusedSimpArgs false in
set_option maxHeartbeats 4000000 in
set_option maxRecDepth 100000 in
theorem assign_any (B : Nat) (m : Mk) (w : World) (h : Cx lo B m w) :
  Calls Tryd.prog 47 #[.pointer (some ⟨m.M, 0, none⟩)] w (AssignMade lo B m w) := by
 obtain ⟨M, T, f, funcs, count, left, P, S, Q, R, pl, pc, sl, sc, ql, qc, rl, rc, A, len, cap⟩ := m
 have hnum := h.num
 have hsl : (sl : Int) ≤ 1000 := by have h1 := hnum.s; have h2 := hnum.sum; have h3 := hnum.left0; dsimp only at *; omega
 have hql : (ql : Int) ≤ 1000 := by have h1 := hnum.q; have h2 := hnum.sum; have h3 := hnum.left0; dsimp only at *; omega
 have hrl : (rl : Int) ≤ 1000 := by have h1 := hnum.r; have h2 := hnum.sum; have h3 := hnum.left0; dsimp only at *; omega
 dsimp only at *
 clear hnum
 obtain ⟨V, hV⟩ : ∃ V, Hid (w.alloc (.cells #[.int .i64 0, .int .i64 0, .int .i64 0, .string ⟨#[]⟩, .string ⟨#[]⟩, .int .i64 0, .int .i64 0, .slice none 0 0, .string ⟨#[]⟩, .int .i64 0, .slice none 0 0, .slice none 0 0, .slice none 0 0] 75) = V) := ⟨_, Lib.hid rfl⟩
 obtain ⟨W1, hW1⟩ : ∃ W, Hid (V.alloc (.cells #[.int .i64 3, .int .i64 0, .int .i64 0, .string ⟨#[]⟩, .string ⟨#[]⟩, .int .i64 0, .int .i64 0, .slice none 0 0, .string ⟨#[]⟩, .int .i64 0, .slice none 0 0, .slice none 0 0, .slice none 0 0] 75) = W) := ⟨_, Lib.hid rfl⟩
 have hXs : V.heap.size = w.heap.size + 1 := by rw [← hV.out]; exact Array.size_push _
 have hA1 : As lo B ⟨M, T, f, funcs, count, left, P, S, Q, R, pl, pc, sl, sc, ql, qc, rl, rc, A, len, cap⟩ w w.heap.size (w.heap.size + 1) (#[.int .i64 3, .int .i64 0, .int .i64 0, .string ⟨#[]⟩, .string ⟨#[]⟩, .int .i64 0, .int .i64 0, .slice none 0 0, .string ⟨#[]⟩, .int .i64 0, .slice none 0 0, .slice none 0 0, .slice none 0 0]) W1 := by
  have hwV : Below w.heap.size w V := by rw [← hV.out]; exact (Below.refl _ _).alloc (Nat.le_refl _) _
  have hVW : Below V.heap.size V W1 := by rw [← hW1.out]; exact (Below.refl _ _).alloc (Nat.le_refl _) _
  exact ⟨(h.below hwV).below hVW, (Went.of_below hwV).trans (Went.of_below hVW), Nat.le_trans h.loB h.bW, by rw [← hW1.out, ← hXs]; exact Array.getElem?_push_size, (hVW.block _ (by omega)).trans (by rw [← hV.out]; exact Array.getElem?_push_size), by omega, Nat.le_refl _, by omega⟩
 have hM : M < w.heap.size := h.maker.lt
 have hMT : M ≠ T := h.ctx.ne
 have hTw : T < w.heap.size := by obtain ⟨pos, ht⟩ := h.tape; exact ht.lt
 have hMX : M ≠ w.heap.size + 1 := by omega
 have HA1 := Lib.hid hA1
 have e0 := hA1.cx.maker.cell 0 (.pointer (some ⟨T, 0, none⟩)) rfl
 dsimp only at e0
 rw [← hW1.out, ← hV.out] at e0
 clear h hA1
 go_enter Tryd.func47, Tryd.ntmps47
 go_wp2_with fail
 rw [hV.out, hW1.out]
 obtain ⟨p1, ht1⟩ := HA1.out.cx.tape
 refine (next_any W1 T A len cap p1 ht1 8 (by omega) (by omega)).mono ?_
 rintro e w2 ⟨r, t2, rfl, hr0, hr1, hm2⟩
 have HA2 := Lib.hid (HA1.out.grew hm2.grew)
 have hs2 := Nat.le_of_eq hm2.size.symm
 have hW1s : w.heap.size + 2 ≤ W1.heap.size := by have : W1.heap.size = V.heap.size + 1 := (by rw [← hW1.out]; exact Array.size_push _); omega
 clear hXs
 clear ht1 hm2 e0
 have hcase : (r < 2 ∧ sl ≠ 0) ∨ (r < 2 ∧ sl = 0) ∨ (r = 6 ∧ ql ≠ 0) ∨ (r = 7 ∧ rl ≠ 0) ∨ (r = 6 ∧ ql = 0 ∧ sl ≠ 0) ∨ (r = 6 ∧ ql = 0 ∧ sl = 0) ∨ (r = 7 ∧ rl = 0 ∧ sl ≠ 0) ∨ (r = 7 ∧ rl = 0 ∧ sl = 0) ∨ (2 ≤ r ∧ r ≠ 6 ∧ r ≠ 7 ∧ sl ≠ 0) ∨ (2 ≤ r ∧ r ≠ 6 ∧ r ≠ 7 ∧ sl = 0) := by omega
 rcases hcase with ⟨hr, hl⟩ | ⟨hr, hl⟩ | ⟨rfl, hl⟩ | ⟨rfl, hl⟩ | ⟨rfl, hq, hl⟩ | ⟨rfl, hq, hl⟩ | ⟨rfl, hq, hl⟩ | ⟨rfl, hq, hl⟩ | ⟨hr, hr6, hr7, hl⟩ | ⟨hr, hr6, hr7, hl⟩
 ·
  have e0 := HA2.out.cx.maker.cell 0 (.pointer (some ⟨T, 0, none⟩)) rfl
  dsimp only at e0
  go_wp2_with fail
  refine (call_any B ⟨M, T, f, funcs, count, left, P, S, Q, R, pl, pc, sl, sc, ql, qc, rl, rc, A, len, cap⟩ w2 HA2.out.cx (w.heap.size + 1) 3 HA2.out.x (Nat.le_trans HA2.out.lo0 HA2.out.hX)).mono ?_
  rintro e w3 (⟨rfl, hg3⟩ | ⟨fn, A', l', c', ns, rfl, hfn, hX3, hrow3, hsum3, hc3, hgx3⟩)
  ·have HA3 := Lib.hid (HA2.out.grew hg3)
   have hs3 := hg3.size
   clear hg3
   go_wp2_with ((with_reducible show wpList _ _ _ (Oper.mk none (Op.store 75 _ _) _ _ _ none :: _) _ _); refine store_stmt rfl rfl _ _ rfl (w.heap.size + 1) _ (#[.int .i64 2, .int .i64 0, .int .i64 0, .string ⟨#[]⟩, .string ⟨#[]⟩, .int .i64 0, .int .i64 0, .slice none 0 0, .string ⟨#[]⟩, .int .i64 0, .slice none 0 0, .slice none 0 0, .slice none 0 0]) rfl rfl HA3.out.x rfl rfl (asCells_one 2 ⟨#[]⟩ none 0 0 none 0 0) ?_; intro U hU; have HU := Lib.hid (HA3.out.setB hU); have hsU := Nat.le_of_eq hU.size.symm; clear hU; have e0 := HU.out.cx.maker.cell 0 (.pointer (some ⟨T, 0, none⟩)) rfl; dsimp only at e0; have e4 := HU.out.cx.maker.cell 4 (.slice S sl sc) rfl; dsimp only at e4; have e5 := HU.out.cx.maker.cell 5 (.slice Q ql qc) rfl; dsimp only at e5; have e6 := HU.out.cx.maker.cell 6 (.slice R rl rc) rfl; dsimp only at e6; skip)
   obtain ⟨b, nm, eb, hb, hbT, hbX, hbN, hl1, hl2', hl3, hnm, hnames⟩ := HU.out.names HU.out.cx.ctx.s ⟨_, rfl⟩ hl
   dsimp only at eb hb hbT hbX hbN hl1 hl2' hl3 hnm hnames
   subst eb
   have hpos : (1 : Int) ≤ (sl : Int) := by omega
   have hlt : (sl : Int) < 1000000 := by omega
   have hMw : M < U.heap.size := by omega
   have HL := Lib.hid hnames
   obtain ⟨p1, ht1⟩ := HU.out.drew.cx.tape
   have HT1 := Lib.hid ht1
   have HD := Lib.hid HU.out.drew
   have hsd : U.drew.heap.size = U.heap.size := rfl
   clear hnames ht1
   refine wp_region_held_drew (S := fun w' => w'.cell? ⟨M, 0, none⟩ = some (.pointer (some ⟨T, 0, none⟩)) ∧ w'.cell? ⟨M, 4, none⟩ = some (.slice (some ⟨b, 0, none⟩) sl sc) ∧ ∀ j, j < sl → w'.cell? ⟨b, j, none⟩ = some (.string (nm j))) (by kernel_rfl) ⟨e0, e4, HL.out⟩ (fun hHeld => ?_)
   refine wpAnyH_take (i := 0) (v := ?_) rfl (by kernel_rfl) (by kernel_rfl) (by kernel_rfl) (fun _ _ _ h => h) (Or.inl ⟨by rfl, ?_⟩) (by assumption) ?_
   rotate_left 1
   ·intro w hSw
    (try dsimp only at hSw)
    (go_simp) <;> (with_reducible rfl)
   (try simp only [Act.put, zA, zB, zC, zD, zE, zF])
   refine wpAnyH_take (i := 1) (v := ?_) rfl (by kernel_rfl) (by kernel_rfl) (by kernel_rfl) (fun _ _ _ h => h) (Or.inl ⟨by rfl, ?_⟩) (by assumption) ?_
   rotate_left 1
   ·intro w hSw
    (try dsimp only at hSw)
    (go_simp) <;> (with_reducible rfl)
   (try simp only [Act.put, zA, zB, zC, zD, zE, zF])
   refine wpAnyH_take (i := 2) (v := ?_) rfl (by kernel_rfl) (by kernel_rfl) (by kernel_rfl) (fun _ _ _ h => h) (Or.inl ⟨by rfl, ?_⟩) (by assumption) ?_
   rotate_left 1
   ·intro w hSw
    (try dsimp only at hSw)
    (go_simp) <;> (with_reducible rfl)
   (try simp only [Act.put, zA, zB, zC, zD, zE, zF])
   refine wpAnyH_take (i := 3) (v := ?_) rfl (by kernel_rfl) (by kernel_rfl) (by kernel_rfl) (fun _ _ _ h => h) (Or.inl ⟨by rfl, ?_⟩) (by assumption) ?_
   rotate_left 1
   ·intro w hSw
    (try dsimp only at hSw)
    (go_simp) <;> (with_reducible rfl)
   (try simp only [Act.put, zA, zB, zC, zD, zE, zF])
   refine wpAnyH_take (i := 4) (v := ?_) rfl (by kernel_rfl) (by kernel_rfl) (by kernel_rfl) (fun _ _ _ h => h) (Or.inl ⟨by rfl, ?_⟩) (by assumption) ?_
   rotate_left 1
   ·intro w hSw
    (try dsimp only at hSw)
    (go_simp) <;> (with_reducible rfl)
   (try simp only [Act.put, zA, zB, zC, zD, zE, zF])
   refine wpAnyH_take (i := 5) (v := ?_) rfl (by kernel_rfl) (by kernel_rfl) (by kernel_rfl) (fun _ _ _ h => h) (Or.inl ⟨by rfl, ?_⟩) (by assumption) ?_
   rotate_left 1
   ·intro w hSw
    (try dsimp only at hSw)
    (go_simp) <;> (with_reducible rfl)
   (try simp only [Act.put, zA, zB, zC, zD, zE, zF])
   refine wpAnyH_take (i := 6) (v := ?_) rfl (by kernel_rfl) (by kernel_rfl) (by kernel_rfl) (fun _ _ _ h => h) (Or.inl ⟨by rfl, ?_⟩) (by assumption) ?_
   rotate_left 1
   ·intro w hSw
    (try dsimp only at hSw)
    (go_simp) <;> (with_reducible rfl)
   (try simp only [Act.put, zA, zB, zC, zD, zE, zF])
   refine wpAnyH_take (i := 7) (v := ?_) rfl (by kernel_rfl) (by kernel_rfl) (by kernel_rfl) (fun _ _ _ h => h) (Or.inl ⟨by rfl, ?_⟩) (by assumption) ?_
   rotate_left 1
   ·intro w hSw
    (try dsimp only at hSw)
    (go_simp) <;> (with_reducible rfl)
   (try simp only [Act.put, zA, zB, zC, zD, zE, zF])
   refine wpAnyH_take (i := 8) (v := ?_) rfl (by kernel_rfl) (by kernel_rfl) (by kernel_rfl) (fun _ _ _ h => h) (Or.inl ⟨by rfl, ?_⟩) (by assumption) ?_
   rotate_left 1
   ·intro w hSw
    (try dsimp only at hSw)
    (go_simp) <;> (with_reducible rfl)
   (try simp only [Act.put, zA, zB, zC, zD, zE, zF])
   refine wpAnyH_take (i := 9) (v := ?_) rfl (by kernel_rfl) (by kernel_rfl) (by kernel_rfl) (fun _ _ _ h => h) (Or.inl ⟨by rfl, ?_⟩) (by assumption) ?_
   rotate_left 1
   ·intro w hSw
    (try dsimp only at hSw)
    (go_simp) <;> (with_reducible rfl)
   (try simp only [Act.put, zA, zB, zC, zD, zE, zF])
   refine wpAnyH_take (i := 10) (v := ?_) rfl (by kernel_rfl) (by kernel_rfl) (by kernel_rfl) (fun _ _ _ h => h) (Or.inl ⟨by rfl, ?_⟩) (by assumption) ?_
   rotate_left 1
   ·intro w hSw
    (try dsimp only at hSw)
    (go_simp) <;> (with_reducible rfl)
   (try simp only [Act.put, zA, zB, zC, zD, zE, zF])
   refine wpAnyH_take (i := 11) (v := ?_) rfl (by kernel_rfl) (by kernel_rfl) (by kernel_rfl) (fun _ _ _ h => h) (Or.inl ⟨by rfl, ?_⟩) (by assumption) ?_
   rotate_left 1
   ·intro w hSw
    (try dsimp only at hSw)
    (go_simp) <;> (with_reducible rfl)
   (try simp only [Act.put, zA, zB, zC, zD, zE, zF])
   refine wpAnyH_take (i := 12) (v := ?_) rfl (by kernel_rfl) (by kernel_rfl) (by kernel_rfl) (fun _ _ _ h => h) (Or.inl ⟨by rfl, ?_⟩) (by assumption) ?_
   rotate_left 1
   ·intro w hSw
    (try dsimp only at hSw)
    (go_simp) <;> (with_reducible rfl)
   (try simp only [Act.put, zA, zB, zC, zD, zE, zF])
   refine wpAnyH_ready (rs := [13]) (by kernel_rfl) (by simp) (AllReadyH.cons rfl (fun K hK => ?_) AllReadyH.nil)
   go_simp
   refine (next_any _ T A len cap p1 HT1.out sl hpos hlt).mono ?_
   rintro e w5 ⟨j', jt, rfl, j0, j1, hm5⟩
   obtain ⟨j, rfl⟩ : ∃ i : Nat, j' = (i : Int) := ⟨j'.toNat, by omega⟩
   have hs5 := Nat.le_of_eq hm5.size.symm
   have HB5 := Lib.hid (HD.out.grew hm5.grew)
   have hjr : j < sl := by omega
   have HH5 := Lib.hid (limb_grew hm5.grew hMw hMT hb hbT hHeld)
   have hb5 : b < w5.heap.size := by omega
   refine hK.out _ _ HH5.out (fun hHeld => ?_)
   clear hK K hm5
   (try simp only [Act.put, zA, zB, zC, zD, zE, zF])
   refine wpAnyH_take (i := 14) (v := ?_) rfl (by kernel_rfl) (by kernel_rfl) (by kernel_rfl) (fun _ _ _ h => h) (Or.inl ⟨by rfl, ?_⟩) (by assumption) ?_
   rotate_left 1
   ·intro w hSw
    (try dsimp only at hSw)
    (go_simp) <;> (with_reducible rfl)
   (try simp only [Act.put, zA, zB, zC, zD, zE, zF])
   refine wpAnyH_take (i := 15) (v := ?_) rfl (by kernel_rfl) (by kernel_rfl) (by kernel_rfl) (fun _ _ _ h => h) (Or.inl ⟨by rfl, ?_⟩) (by assumption) ?_
   rotate_left 1
   ·intro w hSw
    (try dsimp only at hSw)
    (go_simp) <;> (with_reducible rfl)
   (try simp only [Act.put, zA, zB, zC, zD, zE, zF])
   refine wpAnyH_ready (rs := [16]) (by kernel_rfl) (by simp) (AllReadyH.cons rfl (fun K hK => ?_) AllReadyH.nil)
   go_simp
   refine (variable_any w5 (nm j)).mono ?_
   rintro e w6 ⟨rfl, hb6⟩
   have hg6 := HB5.out.cx.ctx.below hb6
   dsimp only at hg6
   have hs6 := hg6.size
   have HB6 := Lib.hid (HB5.out.below hb6)
   have HH6 := Lib.hid (limb_grew hg6 (by omega) hMT hb5 hbT HH5.out)
   clear hg6 hb6
   refine hK.out _ _ HH6.out (fun hHeld => ?_)
   clear hK K
   (try simp only [Act.put, zA, zB, zC, zD, zE, zF])
   refine wpAnyH_ready (rs := [17]) (by kernel_rfl) (by simp) (AllReadyH.cons rfl (fun K hK => ?_) AllReadyH.nil)
   go_simp
   obtain ⟨W6, hW6⟩ : ∃ W, Hid (w6.alloc (.cells #[.int .i64 1, .int .i64 0, .int .i64 0, .string (nm j), .string ⟨#[]⟩, .slice none 0 0] 72) = W) := ⟨_, Lib.hid rfl⟩
   have ha6 := HB6.out.alloc (.cells #[.int .i64 1, .int .i64 0, .int .i64 0, .string (nm j), .string ⟨#[]⟩, .slice none 0 0] 72)
   have hr6 : ExRow (w6.alloc (.cells #[.int .i64 1, .int .i64 0, .int .i64 0, .string (nm j), .string ⟨#[]⟩, .slice none 0 0] 72)) (some ⟨w6.heap.size, 0, none⟩) 1 1 [1] := row_made ((exNew_leaf w6 0 1 0 0 (nm j) ⟨#[]⟩ (by omega) (by omega) (hnm j hjr) (by decide)).le (by omega))
   have hh6 := limb_grew (HB6.out.cx.ctx.alloc (.cells #[.int .i64 1, .int .i64 0, .int .i64 0, .string (nm j), .string ⟨#[]⟩, .slice none 0 0] 72)) (by omega) hMT (by omega) hbT HH6.out
   rw [hW6.out] at ha6 hr6 hh6 ⊢
   have HB7 := Lib.hid ha6
   have HR6 := Lib.hid hr6
   have HH7 := Lib.hid hh6
   clear ha6 hr6 hh6
   refine hK.out _ _ HH7.out (fun hHeld => ?_)
   clear hK K
   (try simp only [Act.put, zA, zB, zC, zD, zE, zF])
   refine wpAnyH_take (i := 18) (v := ?_) rfl (by kernel_rfl) (by kernel_rfl) (by kernel_rfl) (fun _ _ _ h => h) (Or.inl ⟨by rfl, ?_⟩) (by assumption) ?_
   rotate_left 1
   ·intro w hSw
    (try dsimp only at hSw)
    (go_simp) <;> (with_reducible rfl)
   (try simp only [Act.put, zA, zB, zC, zD, zE, zF])
   refine wpAnyH_ready (rs := [19]) (by kernel_rfl) (by simp) (AllReadyH.cons rfl (fun K hK => ?_) AllReadyH.nil)
   have x7 := HB7.out.cell 7 (.slice none 0 0) rfl
   have f7 := HB7.out.frozen 7
   have hs7 : As lo B ⟨M, T, f, funcs, count, left, P, some ⟨b, 0, none⟩, Q, R, pl, pc, sl, sc, ql, qc, rl, rc, A, len, cap⟩ w w.heap.size (w.heap.size + 1) (#[.int .i64 2, .int .i64 0, .int .i64 0, .string ⟨#[]⟩, .string ⟨#[]⟩, .int .i64 0, .int .i64 0, .slice (some ⟨w6.heap.size, 0, none⟩) 1 1, .string ⟨#[]⟩, .int .i64 0, .slice none 0 0, .slice none 0 0, .slice none 0 0]) (W6.setCell ⟨(w.heap.size + 1), 7, none⟩ (.slice (some ⟨w6.heap.size, 0, none⟩) 1 1)) := HB7.out.set 7 (.slice (some ⟨w6.heap.size, 0, none⟩) 1 1)
   have hr7 := HR6.out.keep (HB7.out.keptS 7 (.slice (some ⟨w6.heap.size, 0, none⟩) 1 1))
   obtain ⟨U7, hU7⟩ : ∃ U, Hid (W6.setCell ⟨(w.heap.size + 1), 7, none⟩ (.slice (some ⟨w6.heap.size, 0, none⟩) 1 1) = U) := ⟨_, Lib.hid rfl⟩
   have hh7 := limb_setX 7 (.slice (some ⟨w6.heap.size, 0, none⟩) 1 1) hMX hbX HH7.out
   rw [hU7.out] at hs7 hr7 hh7
   have HA7 := Lib.hid hs7
   have HR7 := Lib.hid hr7
   go_simp
   rw [hU7.out]
   refine hK.out _ _ hh7 (fun hHeld => ?_)
   clear hK K hs7 hr7 hh7 x7 f7 hHeld
   refine wpAnyH_done (by kernel_rfl) ?_ _
   go_wp2_with fail
   refine (expr_any ⟨M, T, f, funcs, count, left, P, some ⟨b, 0, none⟩, Q, R, pl, pc, sl, sc, ql, qc, rl, rc, A, len, cap⟩ U7 0 (by omega) HA7.out.cx.ctx).mono ?_
   rintro e w8 ⟨v, n, rfl, hex, hn, hg⟩
   obtain ⟨op1, num, vr, nm1, fld, A', len', cap', rfl⟩ := hex.shape
   dsimp only at hg
   have hsg_w8 := hg.size
   have HA8 := Lib.hid (HA7.out.grew hg)
   have HR1 := Lib.hid (HR7.out.keep (HA7.out.keptG hg))
   obtain ⟨W9, hW9⟩ : ∃ W, Hid (w8.alloc (.cells #[.int .i64 op1, .int .i64 num, .int .i64 vr, .string nm1, .string fld, .slice A' len' cap'] 72) = W) := ⟨_, Lib.hid rfl⟩
   have x10 : ∀ o, (w8.alloc o).cell? ⟨(w.heap.size + 1), 10, none⟩ = some (.slice none 0 0) := fun o => (HA8.out.alloc o).cell 10 _ rfl
   have f10 : ∀ o, (w8.alloc o).frozen? ⟨(w.heap.size + 1), 10, none⟩ = false := fun o => (HA8.out.alloc o).frozen 10
   have ha := HA8.out.alloc (.cells #[.int .i64 op1, .int .i64 num, .int .i64 vr, .string nm1, .string fld, .slice A' len' cap'] 72)
   have hr := row_made hex
   rw [hW9.out] at ha hr
   obtain ⟨U9, hU9⟩ : ∃ U, Hid (W9.setCell ⟨(w.heap.size + 1), 10, none⟩ (.slice (some ⟨w8.heap.size, 0, none⟩) 1 1) = U) := ⟨_, Lib.hid rfl⟩
   have hs : As lo B ⟨M, T, f, funcs, count, left, P, some ⟨b, 0, none⟩, Q, R, pl, pc, sl, sc, ql, qc, rl, rc, A, len, cap⟩ w w.heap.size (w.heap.size + 1) (#[.int .i64 2, .int .i64 0, .int .i64 0, .string ⟨#[]⟩, .string ⟨#[]⟩, .int .i64 0, .int .i64 0, .slice (some ⟨w6.heap.size, 0, none⟩) 1 1, .string ⟨#[]⟩, .int .i64 0, .slice (some ⟨w8.heap.size, 0, none⟩) 1 1, .slice none 0 0, .slice none 0 0]) (W9.setCell ⟨(w.heap.size + 1), 10, none⟩ (.slice (some ⟨w8.heap.size, 0, none⟩) 1 1)) := ha.set 10 (.slice (some ⟨w8.heap.size, 0, none⟩) 1 1)
   have hk := ha.keptS 10 (.slice (some ⟨w8.heap.size, 0, none⟩) 1 1)
   have hr := hr.keep hk
   rw [hU9.out] at hs hr hk
   have HA9 := Lib.hid hs
   have HR2 := Lib.hid hr
   have HK10 : Hid (KeptE w8 U9) := Lib.hid (KeptE.trans (show KeptE w8 W9 by rw [← hW9.out]; exact (KeptX.below ((Below.refl _ _).alloc (Nat.le_refl _) _)).e) hk)
   obtain ⟨n2, hn2⟩ : ∃ k, n = k := ⟨_, rfl⟩
   rw [hn2] at hn HR2
   clear ha hr hs hk hex hg hn2
   have HR1 := Lib.hid (HR1.out.keep HK10.out)
   go_wp2_with (first | ((with_reducible show wpList _ _ _ (Oper.mk _ (Op.load 75 _) _ _ _ none :: _) _ _); rw [hW9.out, hU9.out]; refine load_stmt rfl _ rfl (w.heap.size + 1) _ rfl HA9.out.x rfl ?_) | ((with_reducible show wpList _ _ _ (Oper.mk none (Op.store 75 _ _) _ _ _ none :: _) _ _); refine store_stmt rfl rfl _ _ rfl w.heap.size _ (asCells 2 ⟨#[]⟩ (some ⟨w6.heap.size, 0, none⟩) 1 1 (some ⟨w8.heap.size, 0, none⟩) 1 1) rfl rfl HA9.out.n rfl rfl (asCells_one _ _ _ _ _ _ _ _) ?_; intro U2 hU2))
   (try simp only [Exit.inBlock, Exit.then])
   have hld := ret_stmt hU2.at_ rfl
   refine bodyPost_ret (v := .agg (asCells 2 ⟨#[]⟩ (some ⟨w6.heap.size, 0, none⟩) 1 1 (some ⟨w8.heap.size, 0, none⟩) 1 1)) (by simp [results, Tryd.results47, Act.put, asAddr, Result.andThen, hld]) rfl ?_
   unfold AssignMade
   exact ⟨2, ⟨#[]⟩, (some ⟨w6.heap.size, 0, none⟩), 1, 1, (some ⟨w8.heap.size, 0, none⟩), 1, 1, [1], [n2], rfl, ⟨by omega, by omega, .inr (.inl rfl)⟩, by decide, HR1.out.keep (hU2.keptE HA9.out.n), HR2.out.keep (hU2.keptE HA9.out.n), (by simp; omega), HA9.out.cx.set HA9.out.n (by decide) hU2 HA9.out.lo0, HA9.out.went.set hU2 (Nat.le_refl _)⟩
  ·have HA3 : Hid (As lo B ⟨M, T, f, funcs, count, left, P, S, Q, R, pl, pc, sl, sc, ql, qc, rl, rc, A, len, cap⟩ w w.heap.size (w.heap.size + 1) (#[.int .i64 3, .int .i64 0, .int .i64 0, .string ⟨#[]⟩, .string ⟨#[]⟩, .int .i64 0, .int .i64 0, .slice none 0 0, .string fn, .int .i64 0, .slice A' l' c', .slice none 0 0, .slice none 0 0]) w3) := Lib.hid ⟨hc3, HA2.out.went.x HA2.out.cx hgx3 HA2.out.hX, HA2.out.lo0, hX3, (hgx3.block _ HA2.out.nlt (show w.heap.size ≠ T by omega) HA2.out.ne).trans HA2.out.n, HA2.out.hX, HA2.out.hN, HA2.out.ne⟩
   have HR2 : Hid (ExRow w3 A' l' c' ns) := Lib.hid hrow3
   have hs3 := hgx3.size
   clear hc3 hX3 hrow3 hgx3
   have e0 := HA3.out.cx.maker.cell 0 (.pointer (some ⟨T, 0, none⟩)) rfl
   dsimp only at e0
   have e4 := HA3.out.cx.maker.cell 4 (.slice S sl sc) rfl
   dsimp only at e4
   obtain ⟨p3, ht3⟩ := HA3.out.cx.tape
   go_wp2_with fail
   refine (next_any w3 T A len cap p3 ht3 4 (by omega) (by omega)).mono ?_
   rintro e w4 ⟨q, t4, rfl, hq0, hq1, hm4⟩
   have HA4 := Lib.hid (HA3.out.grew hm4.grew)
   have HR4 := Lib.hid (HR2.out.keep (HA3.out.keptG hm4.grew))
   have hs4 := hm4.size
   clear ht3 hm4 e0 e4
   have e0 := HA4.out.cx.maker.cell 0 (.pointer (some ⟨T, 0, none⟩)) rfl
   dsimp only at e0
   have e4 := HA4.out.cx.maker.cell 4 (.slice S sl sc) rfl
   dsimp only at e4
   have hqc : q = 0 ∨ 0 < q := by omega
   rcases hqc with rfl | hq
   ·go_wp2_with (first | ((with_reducible show wpList _ _ _ (Oper.mk _ (Op.load 75 _) _ _ _ none :: _) _ _); refine load_stmt rfl _ rfl (w.heap.size + 1) _ rfl HA4.out.x rfl ?_) | ((with_reducible show wpList _ _ _ (Oper.mk none (Op.store 75 _ _) _ _ _ none :: _) _ _); refine store_stmt rfl rfl _ _ rfl w.heap.size _ (asCells 3 fn none 0 0 A' l' c') rfl rfl HA4.out.n rfl rfl (asCells_one _ _ _ _ _ _ _ _) ?_; intro U2 hU2))
    (try simp only [Exit.inBlock, Exit.then])
    have hld := ret_stmt hU2.at_ rfl
    refine bodyPost_ret (v := .agg (asCells 3 fn none 0 0 A' l' c')) (by simp [results, Tryd.results47, Act.put, asAddr, Result.andThen, hld]) rfl ?_
    unfold AssignMade
    exact ⟨3, fn, none, 0, 0, A', l', c', [], ns, rfl, ⟨by omega, by omega, .inr (.inr rfl)⟩, hfn, ExRow.nil _, HR4.out.keep (hU2.keptE HA4.out.n), by simp; omega, HA4.out.cx.set HA4.out.n (by decide) hU2 HA4.out.lo0, HA4.out.went.set hU2 (Nat.le_refl _)⟩
   ·go_wp2_with fail
    obtain ⟨b, nm, eb, hb, hbT, hbX, hbN, hl1, hl2', hl3, hnm, hnames⟩ := HA4.out.names HA4.out.cx.ctx.s ⟨_, rfl⟩ hl
    dsimp only at eb hb hbT hbX hbN hl1 hl2' hl3 hnm hnames
    subst eb
    have hpos : (1 : Int) ≤ (sl : Int) := by omega
    have hlt : (sl : Int) < 1000000 := by omega
    have hMw : M < w4.heap.size := by omega
    have HL := Lib.hid hnames
    obtain ⟨p1, ht1⟩ := HA4.out.drew.cx.tape
    have HT1 := Lib.hid ht1
    have HD := Lib.hid HA4.out.drew
    have hsd : w4.drew.heap.size = w4.heap.size := rfl
    clear hnames ht1
    refine wp_region_held_drew (S := fun w' => w'.cell? ⟨M, 0, none⟩ = some (.pointer (some ⟨T, 0, none⟩)) ∧ w'.cell? ⟨M, 4, none⟩ = some (.slice (some ⟨b, 0, none⟩) sl sc) ∧ ∀ j, j < sl → w'.cell? ⟨b, j, none⟩ = some (.string (nm j))) (by kernel_rfl) ⟨e0, e4, HL.out⟩ (fun hHeld => ?_)
    refine wpAnyH_take (i := 0) (v := ?_) rfl (by kernel_rfl) (by kernel_rfl) (by kernel_rfl) (fun _ _ _ h => h) (Or.inl ⟨by rfl, ?_⟩) (by assumption) ?_
    rotate_left 1
    ·intro w hSw
     (try dsimp only at hSw)
     (go_simp) <;> (with_reducible rfl)
    (try simp only [Act.put, zA, zB, zC, zD, zE, zF])
    refine wpAnyH_take (i := 1) (v := ?_) rfl (by kernel_rfl) (by kernel_rfl) (by kernel_rfl) (fun _ _ _ h => h) (Or.inl ⟨by rfl, ?_⟩) (by assumption) ?_
    rotate_left 1
    ·intro w hSw
     (try dsimp only at hSw)
     (go_simp) <;> (with_reducible rfl)
    (try simp only [Act.put, zA, zB, zC, zD, zE, zF])
    refine wpAnyH_take (i := 2) (v := ?_) rfl (by kernel_rfl) (by kernel_rfl) (by kernel_rfl) (fun _ _ _ h => h) (Or.inl ⟨by rfl, ?_⟩) (by assumption) ?_
    rotate_left 1
    ·intro w hSw
     (try dsimp only at hSw)
     (go_simp) <;> (with_reducible rfl)
    (try simp only [Act.put, zA, zB, zC, zD, zE, zF])
    refine wpAnyH_take (i := 3) (v := ?_) rfl (by kernel_rfl) (by kernel_rfl) (by kernel_rfl) (fun _ _ _ h => h) (Or.inl ⟨by rfl, ?_⟩) (by assumption) ?_
    rotate_left 1
    ·intro w hSw
     (try dsimp only at hSw)
     (go_simp) <;> (with_reducible rfl)
    (try simp only [Act.put, zA, zB, zC, zD, zE, zF])
    refine wpAnyH_take (i := 4) (v := ?_) rfl (by kernel_rfl) (by kernel_rfl) (by kernel_rfl) (fun _ _ _ h => h) (Or.inl ⟨by rfl, ?_⟩) (by assumption) ?_
    rotate_left 1
    ·intro w hSw
     (try dsimp only at hSw)
     (go_simp) <;> (with_reducible rfl)
    (try simp only [Act.put, zA, zB, zC, zD, zE, zF])
    refine wpAnyH_take (i := 5) (v := ?_) rfl (by kernel_rfl) (by kernel_rfl) (by kernel_rfl) (fun _ _ _ h => h) (Or.inl ⟨by rfl, ?_⟩) (by assumption) ?_
    rotate_left 1
    ·intro w hSw
     (try dsimp only at hSw)
     (go_simp) <;> (with_reducible rfl)
    (try simp only [Act.put, zA, zB, zC, zD, zE, zF])
    refine wpAnyH_take (i := 6) (v := ?_) rfl (by kernel_rfl) (by kernel_rfl) (by kernel_rfl) (fun _ _ _ h => h) (Or.inl ⟨by rfl, ?_⟩) (by assumption) ?_
    rotate_left 1
    ·intro w hSw
     (try dsimp only at hSw)
     (go_simp) <;> (with_reducible rfl)
    (try simp only [Act.put, zA, zB, zC, zD, zE, zF])
    refine wpAnyH_take (i := 7) (v := ?_) rfl (by kernel_rfl) (by kernel_rfl) (by kernel_rfl) (fun _ _ _ h => h) (Or.inl ⟨by rfl, ?_⟩) (by assumption) ?_
    rotate_left 1
    ·intro w hSw
     (try dsimp only at hSw)
     (go_simp) <;> (with_reducible rfl)
    (try simp only [Act.put, zA, zB, zC, zD, zE, zF])
    refine wpAnyH_take (i := 8) (v := ?_) rfl (by kernel_rfl) (by kernel_rfl) (by kernel_rfl) (fun _ _ _ h => h) (Or.inl ⟨by rfl, ?_⟩) (by assumption) ?_
    rotate_left 1
    ·intro w hSw
     (try dsimp only at hSw)
     (go_simp) <;> (with_reducible rfl)
    (try simp only [Act.put, zA, zB, zC, zD, zE, zF])
    refine wpAnyH_take (i := 9) (v := ?_) rfl (by kernel_rfl) (by kernel_rfl) (by kernel_rfl) (fun _ _ _ h => h) (Or.inl ⟨by rfl, ?_⟩) (by assumption) ?_
    rotate_left 1
    ·intro w hSw
     (try dsimp only at hSw)
     (go_simp) <;> (with_reducible rfl)
    (try simp only [Act.put, zA, zB, zC, zD, zE, zF])
    refine wpAnyH_take (i := 10) (v := ?_) rfl (by kernel_rfl) (by kernel_rfl) (by kernel_rfl) (fun _ _ _ h => h) (Or.inl ⟨by rfl, ?_⟩) (by assumption) ?_
    rotate_left 1
    ·intro w hSw
     (try dsimp only at hSw)
     (go_simp) <;> (with_reducible rfl)
    (try simp only [Act.put, zA, zB, zC, zD, zE, zF])
    refine wpAnyH_take (i := 11) (v := ?_) rfl (by kernel_rfl) (by kernel_rfl) (by kernel_rfl) (fun _ _ _ h => h) (Or.inl ⟨by rfl, ?_⟩) (by assumption) ?_
    rotate_left 1
    ·intro w hSw
     (try dsimp only at hSw)
     (go_simp) <;> (with_reducible rfl)
    (try simp only [Act.put, zA, zB, zC, zD, zE, zF])
    refine wpAnyH_take (i := 12) (v := ?_) rfl (by kernel_rfl) (by kernel_rfl) (by kernel_rfl) (fun _ _ _ h => h) (Or.inl ⟨by rfl, ?_⟩) (by assumption) ?_
    rotate_left 1
    ·intro w hSw
     (try dsimp only at hSw)
     (go_simp) <;> (with_reducible rfl)
    (try simp only [Act.put, zA, zB, zC, zD, zE, zF])
    refine wpAnyH_ready (rs := [13]) (by kernel_rfl) (by simp) (AllReadyH.cons rfl (fun K hK => ?_) AllReadyH.nil)
    go_simp
    refine (next_any _ T A len cap p1 HT1.out sl hpos hlt).mono ?_
    rintro e w5 ⟨j', jt, rfl, j0, j1, hm5⟩
    obtain ⟨j, rfl⟩ : ∃ i : Nat, j' = (i : Int) := ⟨j'.toNat, by omega⟩
    have hs5 := Nat.le_of_eq hm5.size.symm
    have HB5 := Lib.hid (HD.out.grew hm5.grew)
    have hjr : j < sl := by omega
    have HRA4 := Lib.hid ((HR4.out.keep (w' := w4.drew) (fun _ _ _ hx => hx)).keep (HD.out.keptG hm5.grew))
    have HH5 := Lib.hid (limb_grew hm5.grew hMw hMT hb hbT hHeld)
    have hb5 : b < w5.heap.size := by omega
    refine hK.out _ _ HH5.out (fun hHeld => ?_)
    clear hK K hm5
    (try simp only [Act.put, zA, zB, zC, zD, zE, zF])
    refine wpAnyH_take (i := 14) (v := ?_) rfl (by kernel_rfl) (by kernel_rfl) (by kernel_rfl) (fun _ _ _ h => h) (Or.inl ⟨by rfl, ?_⟩) (by assumption) ?_
    rotate_left 1
    ·intro w hSw
     (try dsimp only at hSw)
     (go_simp) <;> (with_reducible rfl)
    (try simp only [Act.put, zA, zB, zC, zD, zE, zF])
    refine wpAnyH_take (i := 15) (v := ?_) rfl (by kernel_rfl) (by kernel_rfl) (by kernel_rfl) (fun _ _ _ h => h) (Or.inl ⟨by rfl, ?_⟩) (by assumption) ?_
    rotate_left 1
    ·intro w hSw
     (try dsimp only at hSw)
     (go_simp) <;> (with_reducible rfl)
    (try simp only [Act.put, zA, zB, zC, zD, zE, zF])
    refine wpAnyH_ready (rs := [16]) (by kernel_rfl) (by simp) (AllReadyH.cons rfl (fun K hK => ?_) AllReadyH.nil)
    go_simp
    refine (variable_any w5 (nm j)).mono ?_
    rintro e w6 ⟨rfl, hb6⟩
    have hg6 := HB5.out.cx.ctx.below hb6
    have HRA5 := Lib.hid (HRA4.out.keep (HB5.out.keptG hg6))
    dsimp only at hg6
    have hs6 := hg6.size
    have HB6 := Lib.hid (HB5.out.below hb6)
    have HH6 := Lib.hid (limb_grew hg6 (by omega) hMT hb5 hbT HH5.out)
    clear hg6 hb6
    refine hK.out _ _ HH6.out (fun hHeld => ?_)
    clear hK K
    (try simp only [Act.put, zA, zB, zC, zD, zE, zF])
    refine wpAnyH_ready (rs := [17]) (by kernel_rfl) (by simp) (AllReadyH.cons rfl (fun K hK => ?_) AllReadyH.nil)
    go_simp
    obtain ⟨W6, hW6⟩ : ∃ W, Hid (w6.alloc (.cells #[.int .i64 1, .int .i64 0, .int .i64 0, .string (nm j), .string ⟨#[]⟩, .slice none 0 0] 72) = W) := ⟨_, Lib.hid rfl⟩
    have ha6 := HB6.out.alloc (.cells #[.int .i64 1, .int .i64 0, .int .i64 0, .string (nm j), .string ⟨#[]⟩, .slice none 0 0] 72)
    have hr6 : ExRow (w6.alloc (.cells #[.int .i64 1, .int .i64 0, .int .i64 0, .string (nm j), .string ⟨#[]⟩, .slice none 0 0] 72)) (some ⟨w6.heap.size, 0, none⟩) 1 1 [1] := row_made ((exNew_leaf w6 0 1 0 0 (nm j) ⟨#[]⟩ (by omega) (by omega) (hnm j hjr) (by decide)).le (by omega))
    have hh6 := limb_grew (HB6.out.cx.ctx.alloc (.cells #[.int .i64 1, .int .i64 0, .int .i64 0, .string (nm j), .string ⟨#[]⟩, .slice none 0 0] 72)) (by omega) hMT (by omega) hbT HH6.out
    rw [hW6.out] at ha6 hr6 hh6 ⊢
    have HB7 := Lib.hid ha6
    have HR6 := Lib.hid hr6
    have HRA6 : Hid (ExRow W6 A' l' c' ns) := Lib.hid (by rw [← hW6.out]; exact HRA5.out.keep (KeptX.below ((Below.refl _ _).alloc (Nat.le_refl _) _)).e)
    have HH7 := Lib.hid hh6
    clear ha6 hr6 hh6
    refine hK.out _ _ HH7.out (fun hHeld => ?_)
    clear hK K
    (try simp only [Act.put, zA, zB, zC, zD, zE, zF])
    refine wpAnyH_take (i := 18) (v := ?_) rfl (by kernel_rfl) (by kernel_rfl) (by kernel_rfl) (fun _ _ _ h => h) (Or.inl ⟨by rfl, ?_⟩) (by assumption) ?_
    rotate_left 1
    ·intro w hSw
     (try dsimp only at hSw)
     (go_simp) <;> (with_reducible rfl)
    (try simp only [Act.put, zA, zB, zC, zD, zE, zF])
    refine wpAnyH_ready (rs := [19]) (by kernel_rfl) (by simp) (AllReadyH.cons rfl (fun K hK => ?_) AllReadyH.nil)
    have x7 := HB7.out.cell 7 (.slice none 0 0) rfl
    have f7 := HB7.out.frozen 7
    have hs7 : As lo B ⟨M, T, f, funcs, count, left, P, some ⟨b, 0, none⟩, Q, R, pl, pc, sl, sc, ql, qc, rl, rc, A, len, cap⟩ w w.heap.size (w.heap.size + 1) (#[.int .i64 3, .int .i64 0, .int .i64 0, .string ⟨#[]⟩, .string ⟨#[]⟩, .int .i64 0, .int .i64 0, .slice (some ⟨w6.heap.size, 0, none⟩) 1 1, .string fn, .int .i64 0, .slice A' l' c', .slice none 0 0, .slice none 0 0]) (W6.setCell ⟨(w.heap.size + 1), 7, none⟩ (.slice (some ⟨w6.heap.size, 0, none⟩) 1 1)) := HB7.out.set 7 (.slice (some ⟨w6.heap.size, 0, none⟩) 1 1)
    have hr7 := HR6.out.keep (HB7.out.keptS 7 (.slice (some ⟨w6.heap.size, 0, none⟩) 1 1))
    obtain ⟨U7, hU7⟩ : ∃ U, Hid (W6.setCell ⟨(w.heap.size + 1), 7, none⟩ (.slice (some ⟨w6.heap.size, 0, none⟩) 1 1) = U) := ⟨_, Lib.hid rfl⟩
    have hh7 := limb_setX 7 (.slice (some ⟨w6.heap.size, 0, none⟩) 1 1) hMX hbX HH7.out
    rw [hU7.out] at hs7 hr7 hh7
    have HA7 := Lib.hid hs7
    have HR7 := Lib.hid hr7
    have HRA7 : Hid (ExRow U7 A' l' c' ns) := Lib.hid (by rw [← hU7.out]; exact HRA6.out.keep (HB7.out.keptS 7 _))
    go_simp
    rw [hU7.out]
    refine hK.out _ _ hh7 (fun hHeld => ?_)
    clear hK K hs7 hr7 hh7 x7 f7 hHeld
    refine wpAnyH_done (by kernel_rfl) ?_ _
    go_wp2_with (first | ((with_reducible show wpList _ _ _ (Oper.mk _ (Op.load 75 _) _ _ _ none :: _) _ _); refine load_stmt rfl _ rfl (w.heap.size + 1) _ rfl HA7.out.x rfl ?_) | ((with_reducible show wpList _ _ _ (Oper.mk none (Op.store 75 _ _) _ _ _ none :: _) _ _); refine store_stmt rfl rfl _ _ rfl w.heap.size _ (asCells 3 fn (some ⟨w6.heap.size, 0, none⟩) 1 1 A' l' c') rfl rfl HA7.out.n rfl rfl (asCells_one _ _ _ _ _ _ _ _) ?_; intro U2 hU2))
    (try simp only [Exit.inBlock, Exit.then])
    have hld := ret_stmt hU2.at_ rfl
    refine bodyPost_ret (v := .agg (asCells 3 fn (some ⟨w6.heap.size, 0, none⟩) 1 1 A' l' c')) (by simp [results, Tryd.results47, Act.put, asAddr, Result.andThen, hld]) rfl ?_
    unfold AssignMade
    exact ⟨3, fn, (some ⟨w6.heap.size, 0, none⟩), 1, 1, A', l', c', [1], ns, rfl, ⟨by omega, by omega, .inr (.inr rfl)⟩, hfn, HR7.out.keep (hU2.keptE HA7.out.n), HRA7.out.keep (hU2.keptE HA7.out.n), by simp; omega, HA7.out.cx.set HA7.out.n (by decide) hU2 HA7.out.lo0, HA7.out.went.set hU2 (Nat.le_refl _)⟩
 ·
  have e0 := HA2.out.cx.maker.cell 0 (.pointer (some ⟨T, 0, none⟩)) rfl
  dsimp only at e0
  go_wp2_with fail
  refine (call_any B ⟨M, T, f, funcs, count, left, P, S, Q, R, pl, pc, sl, sc, ql, qc, rl, rc, A, len, cap⟩ w2 HA2.out.cx (w.heap.size + 1) 3 HA2.out.x (Nat.le_trans HA2.out.lo0 HA2.out.hX)).mono ?_
  rintro e w3 (⟨rfl, hg3⟩ | ⟨fn, A', l', c', ns, rfl, hfn, hX3, hrow3, hsum3, hc3, hgx3⟩)
  ·have HA3 := Lib.hid (HA2.out.grew hg3)
   have hs3 := hg3.size
   clear hg3
   go_wp2_with ((with_reducible show wpList _ _ _ (Oper.mk none (Op.store 75 _ _) _ _ _ none :: _) _ _); refine store_stmt rfl rfl _ _ rfl (w.heap.size + 1) _ (#[.int .i64 2, .int .i64 0, .int .i64 0, .string ⟨#[]⟩, .string ⟨#[]⟩, .int .i64 0, .int .i64 0, .slice none 0 0, .string ⟨#[]⟩, .int .i64 0, .slice none 0 0, .slice none 0 0, .slice none 0 0]) rfl rfl HA3.out.x rfl rfl (asCells_one 2 ⟨#[]⟩ none 0 0 none 0 0) ?_; intro U hU; have HU := Lib.hid (HA3.out.setB hU); have hsU := Nat.le_of_eq hU.size.symm; clear hU; have e0 := HU.out.cx.maker.cell 0 (.pointer (some ⟨T, 0, none⟩)) rfl; dsimp only at e0; have e4 := HU.out.cx.maker.cell 4 (.slice S sl sc) rfl; dsimp only at e4; have e5 := HU.out.cx.maker.cell 5 (.slice Q ql qc) rfl; dsimp only at e5; have e6 := HU.out.cx.maker.cell 6 (.slice R rl rc) rfl; dsimp only at e6; skip)
   refine (expr_any ⟨M, T, f, funcs, count, left, P, S, Q, R, pl, pc, sl, sc, ql, qc, rl, rc, A, len, cap⟩ U 0 (by omega) HU.out.cx.ctx).mono ?_
   rintro e w4 ⟨v, n, rfl, hex, hn, hg⟩
   obtain ⟨op1, num, vr, nm1, fld, A', len', cap', rfl⟩ := hex.shape
   dsimp only at hg
   have hsg_w4 := hg.size
   have HA4 := Lib.hid (HU.out.grew hg)
   have HEX := Lib.hid (row_made hex)
   have hn4 : ∀ o, (w4.alloc o).heap[w.heap.size]? = some (.cells zCells 75 (0, 0)) := fun o => (HA4.out.alloc o).n
   clear hex hg
   go_wp2_with ((with_reducible show wpList _ _ _ (Oper.mk none (Op.store 75 _ _) _ _ _ none :: _) _ _); refine store_stmt rfl rfl _ _ rfl w.heap.size _ (asCells 9 ⟨#[]⟩ none 0 0 (some ⟨w4.heap.size, 0, none⟩) 1 1) rfl rfl (hn4 _) rfl rfl (asCells_one _ _ _ _ _ _ _ _) ?_; intro U2 hU2)
   (try simp only [Exit.inBlock, Exit.then])
   have hld := ret_stmt hU2.at_ rfl
   refine bodyPost_ret (v := .agg (asCells 9 ⟨#[]⟩ none 0 0 (some ⟨w4.heap.size, 0, none⟩) 1 1)) (by simp [results, Tryd.results47, Act.put, asAddr, Result.andThen, hld]) rfl ?_
   unfold AssignMade
   exact ⟨9, ⟨#[]⟩, none, 0, 0, some ⟨w4.heap.size, 0, none⟩, 1, 1, [], [n], rfl, ⟨by omega, by omega, .inl rfl⟩, by decide, ExRow.nil _, HEX.out.keep (hU2.keptE (hn4 _)), by simp; omega, (HA4.out.alloc _).cx.set (hn4 _) (by decide) hU2 HA4.out.lo0, (HA4.out.alloc _).went.set hU2 (Nat.le_refl _)⟩
  ·have HA3 : Hid (As lo B ⟨M, T, f, funcs, count, left, P, S, Q, R, pl, pc, sl, sc, ql, qc, rl, rc, A, len, cap⟩ w w.heap.size (w.heap.size + 1) (#[.int .i64 3, .int .i64 0, .int .i64 0, .string ⟨#[]⟩, .string ⟨#[]⟩, .int .i64 0, .int .i64 0, .slice none 0 0, .string fn, .int .i64 0, .slice A' l' c', .slice none 0 0, .slice none 0 0]) w3) := Lib.hid ⟨hc3, HA2.out.went.x HA2.out.cx hgx3 HA2.out.hX, HA2.out.lo0, hX3, (hgx3.block _ HA2.out.nlt (show w.heap.size ≠ T by omega) HA2.out.ne).trans HA2.out.n, HA2.out.hX, HA2.out.hN, HA2.out.ne⟩
   have HR2 : Hid (ExRow w3 A' l' c' ns) := Lib.hid hrow3
   have hs3 := hgx3.size
   clear hc3 hX3 hrow3 hgx3
   have e0 := HA3.out.cx.maker.cell 0 (.pointer (some ⟨T, 0, none⟩)) rfl
   dsimp only at e0
   have e4 := HA3.out.cx.maker.cell 4 (.slice S sl sc) rfl
   dsimp only at e4
   go_wp2_with (first | ((with_reducible show wpList _ _ _ (Oper.mk _ (Op.load 75 _) _ _ _ none :: _) _ _); refine load_stmt rfl _ rfl (w.heap.size + 1) _ rfl HA3.out.x rfl ?_) | ((with_reducible show wpList _ _ _ (Oper.mk none (Op.store 75 _ _) _ _ _ none :: _) _ _); refine store_stmt rfl rfl _ _ rfl w.heap.size _ (asCells 3 fn none 0 0 A' l' c') rfl rfl HA3.out.n rfl rfl (asCells_one _ _ _ _ _ _ _ _) ?_; intro U2 hU2))
   (try simp only [Exit.inBlock, Exit.then])
   have hld := ret_stmt hU2.at_ rfl
   refine bodyPost_ret (v := .agg (asCells 3 fn none 0 0 A' l' c')) (by simp [results, Tryd.results47, Act.put, asAddr, Result.andThen, hld]) rfl ?_
   unfold AssignMade
   exact ⟨3, fn, none, 0, 0, A', l', c', [], ns, rfl, ⟨by omega, by omega, .inr (.inr rfl)⟩, hfn, ExRow.nil _, HR2.out.keep (hU2.keptE HA3.out.n), by simp; omega, HA3.out.cx.set HA3.out.n (by decide) hU2 HA3.out.lo0, HA3.out.went.set hU2 (Nat.le_refl _)⟩
 ·
  go_wp2_with ((with_reducible show wpList _ _ _ (Oper.mk none (Op.store 75 _ _) _ _ _ none :: _) _ _); refine store_stmt rfl rfl _ _ rfl (w.heap.size + 1) _ (#[.int .i64 2, .int .i64 0, .int .i64 0, .string ⟨#[]⟩, .string ⟨#[]⟩, .int .i64 0, .int .i64 0, .slice none 0 0, .string ⟨#[]⟩, .int .i64 0, .slice none 0 0, .slice none 0 0, .slice none 0 0]) rfl rfl HA2.out.x rfl rfl (asCells_one 2 ⟨#[]⟩ none 0 0 none 0 0) ?_; intro U hU; have HU := Lib.hid (HA2.out.setB hU); have hsU := Nat.le_of_eq hU.size.symm; clear hU; have e0 := HU.out.cx.maker.cell 0 (.pointer (some ⟨T, 0, none⟩)) rfl; dsimp only at e0; have e4 := HU.out.cx.maker.cell 4 (.slice S sl sc) rfl; dsimp only at e4; have e5 := HU.out.cx.maker.cell 5 (.slice Q ql qc) rfl; dsimp only at e5; have e6 := HU.out.cx.maker.cell 6 (.slice R rl rc) rfl; dsimp only at e6; skip)
  obtain ⟨b, nm, eb, hb, hbT, hbX, hbN, hl1, hl2', hl3, hnm, hnames⟩ := HU.out.names HU.out.cx.ctx.q ⟨_, rfl⟩ hl
  dsimp only at eb hb hbT hbX hbN hl1 hl2' hl3 hnm hnames
  subst eb
  have hpos : (1 : Int) ≤ (ql : Int) := by omega
  have hlt : (ql : Int) < 1000000 := by omega
  have hMw : M < U.heap.size := by omega
  have HL := Lib.hid hnames
  obtain ⟨p1, ht1⟩ := HU.out.drew.cx.tape
  have HT1 := Lib.hid ht1
  have HD := Lib.hid HU.out.drew
  have hsd : U.drew.heap.size = U.heap.size := rfl
  clear hnames ht1
  refine wp_region_held_drew (S := fun w' => w'.cell? ⟨M, 0, none⟩ = some (.pointer (some ⟨T, 0, none⟩)) ∧ w'.cell? ⟨M, 5, none⟩ = some (.slice (some ⟨b, 0, none⟩) ql qc) ∧ ∀ j, j < ql → w'.cell? ⟨b, j, none⟩ = some (.string (nm j))) (by kernel_rfl) ⟨e0, e5, HL.out⟩ (fun hHeld => ?_)
  refine wpAnyH_take (i := 0) (v := ?_) rfl (by kernel_rfl) (by kernel_rfl) (by kernel_rfl) (fun _ _ _ h => h) (Or.inl ⟨by rfl, ?_⟩) (by assumption) ?_
  rotate_left 1
  ·intro w hSw
   (try dsimp only at hSw)
   (go_simp) <;> (with_reducible rfl)
  (try simp only [Act.put, zA, zB, zC, zD, zE, zF])
  refine wpAnyH_take (i := 1) (v := ?_) rfl (by kernel_rfl) (by kernel_rfl) (by kernel_rfl) (fun _ _ _ h => h) (Or.inl ⟨by rfl, ?_⟩) (by assumption) ?_
  rotate_left 1
  ·intro w hSw
   (try dsimp only at hSw)
   (go_simp) <;> (with_reducible rfl)
  (try simp only [Act.put, zA, zB, zC, zD, zE, zF])
  refine wpAnyH_take (i := 2) (v := ?_) rfl (by kernel_rfl) (by kernel_rfl) (by kernel_rfl) (fun _ _ _ h => h) (Or.inl ⟨by rfl, ?_⟩) (by assumption) ?_
  rotate_left 1
  ·intro w hSw
   (try dsimp only at hSw)
   (go_simp) <;> (with_reducible rfl)
  (try simp only [Act.put, zA, zB, zC, zD, zE, zF])
  refine wpAnyH_take (i := 3) (v := ?_) rfl (by kernel_rfl) (by kernel_rfl) (by kernel_rfl) (fun _ _ _ h => h) (Or.inl ⟨by rfl, ?_⟩) (by assumption) ?_
  rotate_left 1
  ·intro w hSw
   (try dsimp only at hSw)
   (go_simp) <;> (with_reducible rfl)
  (try simp only [Act.put, zA, zB, zC, zD, zE, zF])
  refine wpAnyH_take (i := 4) (v := ?_) rfl (by kernel_rfl) (by kernel_rfl) (by kernel_rfl) (fun _ _ _ h => h) (Or.inl ⟨by rfl, ?_⟩) (by assumption) ?_
  rotate_left 1
  ·intro w hSw
   (try dsimp only at hSw)
   (go_simp) <;> (with_reducible rfl)
  (try simp only [Act.put, zA, zB, zC, zD, zE, zF])
  refine wpAnyH_take (i := 5) (v := ?_) rfl (by kernel_rfl) (by kernel_rfl) (by kernel_rfl) (fun _ _ _ h => h) (Or.inl ⟨by rfl, ?_⟩) (by assumption) ?_
  rotate_left 1
  ·intro w hSw
   (try dsimp only at hSw)
   (go_simp) <;> (with_reducible rfl)
  (try simp only [Act.put, zA, zB, zC, zD, zE, zF])
  refine wpAnyH_take (i := 6) (v := ?_) rfl (by kernel_rfl) (by kernel_rfl) (by kernel_rfl) (fun _ _ _ h => h) (Or.inl ⟨by rfl, ?_⟩) (by assumption) ?_
  rotate_left 1
  ·intro w hSw
   (try dsimp only at hSw)
   (go_simp) <;> (with_reducible rfl)
  (try simp only [Act.put, zA, zB, zC, zD, zE, zF])
  refine wpAnyH_take (i := 7) (v := ?_) rfl (by kernel_rfl) (by kernel_rfl) (by kernel_rfl) (fun _ _ _ h => h) (Or.inl ⟨by rfl, ?_⟩) (by assumption) ?_
  rotate_left 1
  ·intro w hSw
   (try dsimp only at hSw)
   (go_simp) <;> (with_reducible rfl)
  (try simp only [Act.put, zA, zB, zC, zD, zE, zF])
  refine wpAnyH_take (i := 8) (v := ?_) rfl (by kernel_rfl) (by kernel_rfl) (by kernel_rfl) (fun _ _ _ h => h) (Or.inl ⟨by rfl, ?_⟩) (by assumption) ?_
  rotate_left 1
  ·intro w hSw
   (try dsimp only at hSw)
   (go_simp) <;> (with_reducible rfl)
  (try simp only [Act.put, zA, zB, zC, zD, zE, zF])
  refine wpAnyH_take (i := 9) (v := ?_) rfl (by kernel_rfl) (by kernel_rfl) (by kernel_rfl) (fun _ _ _ h => h) (Or.inl ⟨by rfl, ?_⟩) (by assumption) ?_
  rotate_left 1
  ·intro w hSw
   (try dsimp only at hSw)
   (go_simp) <;> (with_reducible rfl)
  (try simp only [Act.put, zA, zB, zC, zD, zE, zF])
  refine wpAnyH_take (i := 10) (v := ?_) rfl (by kernel_rfl) (by kernel_rfl) (by kernel_rfl) (fun _ _ _ h => h) (Or.inl ⟨by rfl, ?_⟩) (by assumption) ?_
  rotate_left 1
  ·intro w hSw
   (try dsimp only at hSw)
   (go_simp) <;> (with_reducible rfl)
  (try simp only [Act.put, zA, zB, zC, zD, zE, zF])
  refine wpAnyH_take (i := 11) (v := ?_) rfl (by kernel_rfl) (by kernel_rfl) (by kernel_rfl) (fun _ _ _ h => h) (Or.inl ⟨by rfl, ?_⟩) (by assumption) ?_
  rotate_left 1
  ·intro w hSw
   (try dsimp only at hSw)
   (go_simp) <;> (with_reducible rfl)
  (try simp only [Act.put, zA, zB, zC, zD, zE, zF])
  refine wpAnyH_take (i := 12) (v := ?_) rfl (by kernel_rfl) (by kernel_rfl) (by kernel_rfl) (fun _ _ _ h => h) (Or.inl ⟨by rfl, ?_⟩) (by assumption) ?_
  rotate_left 1
  ·intro w hSw
   (try dsimp only at hSw)
   (go_simp) <;> (with_reducible rfl)
  (try simp only [Act.put, zA, zB, zC, zD, zE, zF])
  refine wpAnyH_take (i := 17) (v := ?_) rfl (by kernel_rfl) (by kernel_rfl) (by kernel_rfl) (fun _ _ _ h => h) (Or.inl ⟨by rfl, ?_⟩) (by assumption) ?_
  rotate_left 1
  ·intro w hSw
   (try dsimp only at hSw)
   (go_simp) <;> (with_reducible rfl)
  (try simp only [Act.put, zA, zB, zC, zD, zE, zF])
  refine wpAnyH_take (i := 18) (v := ?_) rfl (by kernel_rfl) (by kernel_rfl) (by kernel_rfl) (fun _ _ _ h => h) (Or.inl ⟨by rfl, ?_⟩) (by assumption) ?_
  rotate_left 1
  ·intro w hSw
   (try dsimp only at hSw)
   (go_simp) <;> (with_reducible rfl)
  (try simp only [Act.put, zA, zB, zC, zD, zE, zF])
  refine wpAnyH_take (i := 19) (v := ?_) rfl (by kernel_rfl) (by kernel_rfl) (by kernel_rfl) (fun _ _ _ h => h) (Or.inl ⟨by rfl, ?_⟩) (by assumption) ?_
  rotate_left 1
  ·intro w hSw
   (try dsimp only at hSw)
   (go_simp) <;> (with_reducible rfl)
  (try simp only [Act.put, zA, zB, zC, zD, zE, zF])
  refine wpAnyH_take (i := 20) (v := ?_) rfl (by kernel_rfl) (by kernel_rfl) (by kernel_rfl) (fun _ _ _ h => h) (Or.inl ⟨by rfl, ?_⟩) (by assumption) ?_
  rotate_left 1
  ·intro w hSw
   (try dsimp only at hSw)
   (go_simp) <;> (with_reducible rfl)
  (try simp only [Act.put, zA, zB, zC, zD, zE, zF])
  refine wpAnyH_ready (rs := [13, 16]) (by kernel_rfl) (by simp) (AllReadyH.cons rfl (fun K hK => ?_) (AllReadyH.cons rfl (fun K hK => ?_) AllReadyH.nil))
  ·go_simp
   refine (next_any _ T A len cap p1 HT1.out ql hpos hlt).mono ?_
   rintro e w5 ⟨j', jt, rfl, j0, j1, hm5⟩
   obtain ⟨j, rfl⟩ : ∃ i : Nat, j' = (i : Int) := ⟨j'.toNat, by omega⟩
   have hs5 := Nat.le_of_eq hm5.size.symm
   have HB5 := Lib.hid (HD.out.grew hm5.grew)
   have hjr : j < ql := by omega
   have HH5 := Lib.hid (limb_grew hm5.grew hMw hMT hb hbT hHeld)
   have hb5 : b < w5.heap.size := by omega
   refine hK.out _ _ HH5.out (fun hHeld => ?_)
   clear hK K hm5
   (try simp only [Act.put, zA, zB, zC, zD, zE, zF])
   refine wpAnyH_take (i := 14) (v := ?_) rfl (by kernel_rfl) (by kernel_rfl) (by kernel_rfl) (fun _ _ _ h => h) (Or.inl ⟨by rfl, ?_⟩) (by assumption) ?_
   rotate_left 1
   ·intro w hSw
    (try dsimp only at hSw)
    (go_simp) <;> (with_reducible rfl)
   (try simp only [Act.put, zA, zB, zC, zD, zE, zF])
   refine wpAnyH_take (i := 15) (v := ?_) rfl (by kernel_rfl) (by kernel_rfl) (by kernel_rfl) (fun _ _ _ h => h) (Or.inl ⟨by rfl, ?_⟩) (by assumption) ?_
   rotate_left 1
   ·intro w hSw
    (try dsimp only at hSw)
    (go_simp) <;> (with_reducible rfl)
   (try simp only [Act.put, zA, zB, zC, zD, zE, zF])
   refine wpAnyH_ready (rs := [16, 21]) (by kernel_rfl) (by simp) (AllReadyH.cons rfl (fun K hK => ?_) (AllReadyH.cons rfl (fun K hK => ?_) AllReadyH.nil))
   ·go_simp
    obtain ⟨W8, hW8⟩ : ∃ W, Hid (w5.alloc (.cells #[.string ⟨#[120]⟩, .string ⟨#[121]⟩] 9) = W) := ⟨_, Lib.hid rfl⟩
    have hxy8 : ∀ j, j < 2 → (w5.alloc (.cells #[.string ⟨#[120]⟩, .string ⟨#[121]⟩] 9)).cell? ⟨w5.heap.size, j, none⟩ = some (.string (xy j)) := xy_made w5
    have ha8 : Grew T A len cap w5 (w5.alloc (.cells #[.string ⟨#[120]⟩, .string ⟨#[121]⟩] 9)) := HB5.out.cx.ctx.alloc (.cells #[.string ⟨#[120]⟩, .string ⟨#[121]⟩] 9)
    rw [hW8.out] at hxy8 ha8 ⊢
    have hsa8 := ha8.size
    have hsx8 : w5.heap.size < W8.heap.size := by rw [← hW8.out]; exact Nat.lt_of_lt_of_eq (Nat.lt_succ_self _) (Array.size_push _).symm
    have HB8 := Lib.hid (HB5.out.grew ha8)
    have HH8 := Lib.hid (limb_grew ha8 (by omega) hMT (by omega) hbT hHeld)
    refine hK.out _ _ HH8.out (fun hHeld => ?_)
    clear hK K
    refine wpAnyH_mono (S' := fun w' => (∀ j, j < 2 → w'.cell? ⟨w5.heap.size, j, none⟩ = some (.string (xy j))) ∧ w'.cell? ⟨M, 0, none⟩ = some (.pointer (some ⟨T, 0, none⟩)) ∧ w'.cell? ⟨M, 5, none⟩ = some (.slice (some ⟨b, 0, none⟩) ql qc) ∧ ∀ j, j < ql → w'.cell? ⟨b, j, none⟩ = some (.string (nm j))) (fun _ hh => hh.2) _ _ _ _ ?_
    have hHeld2 := And.intro hxy8 HH8.out
    clear ha8
    (try simp only [Act.put, zA, zB, zC, zD, zE, zF])
    refine wpAnyH_ready (rs := [21]) (by kernel_rfl) (by simp) (AllReadyH.cons rfl (fun K hK => ?_) AllReadyH.nil)
    obtain ⟨q9, q9t⟩ := HB8.out.cx.tape
    go_simp
    refine (next_any _ T A len cap q9 q9t 2 (by omega) (by omega)).mono ?_
    rintro e w9 ⟨i', it, rfl, i0, i1, hm9⟩
    obtain ⟨i, rfl⟩ : ∃ i : Nat, i' = (i : Int) := ⟨i'.toNat, by omega⟩
    have hs9 := Nat.le_of_eq hm9.size.symm
    have HB9 := Lib.hid (HB8.out.grew hm9.grew)
    have hi2 : i < 2 := by omega
    have HH9 := Lib.hid (limb_grew hm9.grew (by omega) hMT (by omega) hbT HH8.out)
    have HXY : Hid (∀ i, i < 2 → w9.cell? ⟨w5.heap.size, i, none⟩ = some (.string (xy i))) := Lib.hid (fun i hi => (hm9.cell (b := w5.heap.size) (o := i) (by omega)).trans (hxy8 i hi))
    refine hK.out _ _ ⟨HXY.out, HH9.out⟩ (fun hHeld => ?_)
    clear hK K hm9
    (try simp only [Act.put, zA, zB, zC, zD, zE, zF])
    refine wpAnyH_take (i := 22) (v := ?_) rfl (by kernel_rfl) (by kernel_rfl) (by kernel_rfl) (fun _ _ _ h => h) (Or.inl ⟨by rfl, ?_⟩) (by assumption) ?_
    rotate_left 1
    ·intro w hSw
     (try dsimp only at hSw)
     (go_simp) <;> (with_reducible rfl)
    (try simp only [Act.put, zA, zB, zC, zD, zE, zF])
    refine wpAnyH_take (i := 23) (v := ?_) rfl (by kernel_rfl) (by kernel_rfl) (by kernel_rfl) (fun _ _ _ h => h) (Or.inl ⟨by rfl, ?_⟩) (by assumption) ?_
    rotate_left 1
    ·intro w hSw
     (try dsimp only at hSw)
     (go_simp) <;> (with_reducible rfl)
    (try simp only [Act.put, zA, zB, zC, zD, zE, zF])
    refine wpAnyH_take (i := 24) (v := ?_) rfl (by kernel_rfl) (by kernel_rfl) (by kernel_rfl) (fun _ _ _ h => h) (Or.inl ⟨by rfl, ?_⟩) (by assumption) ?_
    rotate_left 1
    ·intro w hSw
     (try dsimp only at hSw)
     (go_simp) <;> (with_reducible rfl)
    (try simp only [Act.put, zA, zB, zC, zD, zE, zF])
    refine wpAnyH_ready (rs := [25]) (by kernel_rfl) (by simp) (AllReadyH.cons rfl (fun K hK => ?_) AllReadyH.nil)
    go_simp
    obtain ⟨W6, hW6⟩ : ∃ W, Hid (w9.alloc (.cells #[.int .i64 2, .int .i64 0, .int .i64 0, .string (nm j), .string (xy i), .slice none 0 0] 72) = W) := ⟨_, Lib.hid rfl⟩
    have ha6 := HB9.out.alloc (.cells #[.int .i64 2, .int .i64 0, .int .i64 0, .string (nm j), .string (xy i), .slice none 0 0] 72)
    have hr6 : ExRow (w9.alloc (.cells #[.int .i64 2, .int .i64 0, .int .i64 0, .string (nm j), .string (xy i), .slice none 0 0] 72)) (some ⟨w9.heap.size, 0, none⟩) 1 1 [1] := row_made ((exNew_leaf w9 0 2 0 0 (nm j) (xy i) (by omega) (by omega) (hnm j hjr) (xy_size _)).le (by omega))
    have hh6 := limb_grew (HB9.out.cx.ctx.alloc (.cells #[.int .i64 2, .int .i64 0, .int .i64 0, .string (nm j), .string (xy i), .slice none 0 0] 72)) (by omega) hMT (by omega) hbT HH9.out
    have hy6 : ∀ y, y < 2 → (w9.alloc (.cells #[.int .i64 2, .int .i64 0, .int .i64 0, .string (nm j), .string (xy i), .slice none 0 0] 72)).cell? ⟨w5.heap.size, y, none⟩ = some (.string (xy y)) := fun y hy => ((HB9.out.cx.ctx.alloc (.cells #[.int .i64 2, .int .i64 0, .int .i64 0, .string (nm j), .string (xy i), .slice none 0 0] 72)).cell (by omega) (show w5.heap.size ≠ T by omega)).trans (HXY.out y hy)
    rw [hW6.out] at ha6 hr6 hh6 hy6 ⊢
    have HB7 := Lib.hid ha6
    have HR6 := Lib.hid hr6
    have HH7 := Lib.hid hh6
    have HY7 := Lib.hid hy6
    clear ha6 hr6 hh6 hy6
    refine hK.out _ _ ⟨HY7.out, HH7.out⟩ (fun hHeld => ?_)
    clear hK K
    (try simp only [Act.put, zA, zB, zC, zD, zE, zF])
    refine wpAnyH_take (i := 26) (v := ?_) rfl (by kernel_rfl) (by kernel_rfl) (by kernel_rfl) (fun _ _ _ h => h) (Or.inl ⟨by rfl, ?_⟩) (by assumption) ?_
    rotate_left 1
    ·intro w hSw
     (try dsimp only at hSw)
     (go_simp) <;> (with_reducible rfl)
    (try simp only [Act.put, zA, zB, zC, zD, zE, zF])
    refine wpAnyH_ready (rs := [27]) (by kernel_rfl) (by simp) (AllReadyH.cons rfl (fun K hK => ?_) AllReadyH.nil)
    have x7 := HB7.out.cell 7 (.slice none 0 0) rfl
    have f7 := HB7.out.frozen 7
    have hs7 : As lo B ⟨M, T, f, funcs, count, left, P, S, some ⟨b, 0, none⟩, R, pl, pc, sl, sc, ql, qc, rl, rc, A, len, cap⟩ w w.heap.size (w.heap.size + 1) (#[.int .i64 2, .int .i64 0, .int .i64 0, .string ⟨#[]⟩, .string ⟨#[]⟩, .int .i64 0, .int .i64 0, .slice (some ⟨w9.heap.size, 0, none⟩) 1 1, .string ⟨#[]⟩, .int .i64 0, .slice none 0 0, .slice none 0 0, .slice none 0 0]) (W6.setCell ⟨(w.heap.size + 1), 7, none⟩ (.slice (some ⟨w9.heap.size, 0, none⟩) 1 1)) := HB7.out.set 7 (.slice (some ⟨w9.heap.size, 0, none⟩) 1 1)
    have hr7 := HR6.out.keep (HB7.out.keptS 7 (.slice (some ⟨w9.heap.size, 0, none⟩) 1 1))
    obtain ⟨U7, hU7⟩ : ∃ U, Hid (W6.setCell ⟨(w.heap.size + 1), 7, none⟩ (.slice (some ⟨w9.heap.size, 0, none⟩) 1 1) = U) := ⟨_, Lib.hid rfl⟩
    have hh7 := limb_setX 7 (.slice (some ⟨w9.heap.size, 0, none⟩) 1 1) hMX hbX HH7.out
    have hy7 : ∀ y, y < 2 → (W6.setCell ⟨(w.heap.size + 1), 7, none⟩ (.slice (some ⟨w9.heap.size, 0, none⟩) 1 1)).cell? ⟨w5.heap.size, y, none⟩ = some (.string (xy y)) := fun y hy => (World.cell?_of_block (w := W6) (heap_setCell_other W6 ⟨(w.heap.size + 1), 7, none⟩ w5.heap.size _ (by show w5.heap.size ≠ (w.heap.size + 1); omega))).trans (HY7.out y hy)
    rw [hU7.out] at hs7 hr7 hh7 hy7
    have HA7 := Lib.hid hs7
    have HR7 := Lib.hid hr7
    go_simp
    rw [hU7.out]
    refine hK.out _ _ ⟨hy7, hh7⟩ (fun hHeld => ?_)
    clear hK K hs7 hr7 hh7 hy7 x7 f7 hHeld
    refine wpAnyH_done (by kernel_rfl) ?_ _
    go_wp2_with fail
    refine (expr_any ⟨M, T, f, funcs, count, left, P, S, some ⟨b, 0, none⟩, R, pl, pc, sl, sc, ql, qc, rl, rc, A, len, cap⟩ U7 0 (by omega) HA7.out.cx.ctx).mono ?_
    rintro e w8 ⟨v, n, rfl, hex, hn, hg⟩
    obtain ⟨op1, num, vr, nm1, fld, A', len', cap', rfl⟩ := hex.shape
    dsimp only at hg
    have hsg_w8 := hg.size
    have HA8 := Lib.hid (HA7.out.grew hg)
    have HR1 := Lib.hid (HR7.out.keep (HA7.out.keptG hg))
    obtain ⟨W9, hW9⟩ : ∃ W, Hid (w8.alloc (.cells #[.int .i64 op1, .int .i64 num, .int .i64 vr, .string nm1, .string fld, .slice A' len' cap'] 72) = W) := ⟨_, Lib.hid rfl⟩
    have x10 : ∀ o, (w8.alloc o).cell? ⟨(w.heap.size + 1), 10, none⟩ = some (.slice none 0 0) := fun o => (HA8.out.alloc o).cell 10 _ rfl
    have f10 : ∀ o, (w8.alloc o).frozen? ⟨(w.heap.size + 1), 10, none⟩ = false := fun o => (HA8.out.alloc o).frozen 10
    have ha := HA8.out.alloc (.cells #[.int .i64 op1, .int .i64 num, .int .i64 vr, .string nm1, .string fld, .slice A' len' cap'] 72)
    have hr := row_made hex
    rw [hW9.out] at ha hr
    obtain ⟨U9, hU9⟩ : ∃ U, Hid (W9.setCell ⟨(w.heap.size + 1), 10, none⟩ (.slice (some ⟨w8.heap.size, 0, none⟩) 1 1) = U) := ⟨_, Lib.hid rfl⟩
    have hs : As lo B ⟨M, T, f, funcs, count, left, P, S, some ⟨b, 0, none⟩, R, pl, pc, sl, sc, ql, qc, rl, rc, A, len, cap⟩ w w.heap.size (w.heap.size + 1) (#[.int .i64 2, .int .i64 0, .int .i64 0, .string ⟨#[]⟩, .string ⟨#[]⟩, .int .i64 0, .int .i64 0, .slice (some ⟨w9.heap.size, 0, none⟩) 1 1, .string ⟨#[]⟩, .int .i64 0, .slice (some ⟨w8.heap.size, 0, none⟩) 1 1, .slice none 0 0, .slice none 0 0]) (W9.setCell ⟨(w.heap.size + 1), 10, none⟩ (.slice (some ⟨w8.heap.size, 0, none⟩) 1 1)) := ha.set 10 (.slice (some ⟨w8.heap.size, 0, none⟩) 1 1)
    have hk := ha.keptS 10 (.slice (some ⟨w8.heap.size, 0, none⟩) 1 1)
    have hr := hr.keep hk
    rw [hU9.out] at hs hr hk
    have HA9 := Lib.hid hs
    have HR2 := Lib.hid hr
    have HK10 : Hid (KeptE w8 U9) := Lib.hid (KeptE.trans (show KeptE w8 W9 by rw [← hW9.out]; exact (KeptX.below ((Below.refl _ _).alloc (Nat.le_refl _) _)).e) hk)
    obtain ⟨n2, hn2⟩ : ∃ k, n = k := ⟨_, rfl⟩
    rw [hn2] at hn HR2
    clear ha hr hs hk hex hg hn2
    have HR1 := Lib.hid (HR1.out.keep HK10.out)
    go_wp2_with (first | ((with_reducible show wpList _ _ _ (Oper.mk _ (Op.load 75 _) _ _ _ none :: _) _ _); rw [hW9.out, hU9.out]; refine load_stmt rfl _ rfl (w.heap.size + 1) _ rfl HA9.out.x rfl ?_) | ((with_reducible show wpList _ _ _ (Oper.mk none (Op.store 75 _ _) _ _ _ none :: _) _ _); refine store_stmt rfl rfl _ _ rfl w.heap.size _ (asCells 2 ⟨#[]⟩ (some ⟨w9.heap.size, 0, none⟩) 1 1 (some ⟨w8.heap.size, 0, none⟩) 1 1) rfl rfl HA9.out.n rfl rfl (asCells_one _ _ _ _ _ _ _ _) ?_; intro U2 hU2))
    (try simp only [Exit.inBlock, Exit.then])
    have hld := ret_stmt hU2.at_ rfl
    refine bodyPost_ret (v := .agg (asCells 2 ⟨#[]⟩ (some ⟨w9.heap.size, 0, none⟩) 1 1 (some ⟨w8.heap.size, 0, none⟩) 1 1)) (by simp [results, Tryd.results47, Act.put, asAddr, Result.andThen, hld]) rfl ?_
    unfold AssignMade
    exact ⟨2, ⟨#[]⟩, (some ⟨w9.heap.size, 0, none⟩), 1, 1, (some ⟨w8.heap.size, 0, none⟩), 1, 1, [1], [n2], rfl, ⟨by omega, by omega, .inr (.inl rfl)⟩, by decide, HR1.out.keep (hU2.keptE HA9.out.n), HR2.out.keep (hU2.keptE HA9.out.n), (by simp; omega), HA9.out.cx.set HA9.out.n (by decide) hU2 HA9.out.lo0, HA9.out.went.set hU2 (Nat.le_refl _)⟩
   ·obtain ⟨q9, q9t⟩ := HB5.out.cx.tape
    go_simp
    refine (next_any _ T A len cap q9 q9t 2 (by omega) (by omega)).mono ?_
    rintro e w9 ⟨i', it, rfl, i0, i1, hm9⟩
    obtain ⟨i, rfl⟩ : ∃ i : Nat, i' = (i : Int) := ⟨i'.toNat, by omega⟩
    have hs9 := Nat.le_of_eq hm9.size.symm
    have HB9 := Lib.hid (HB5.out.grew hm9.grew)
    have hi2 : i < 2 := by omega
    have HH9 := Lib.hid (limb_grew hm9.grew (by omega) hMT (by omega) hbT HH5.out)
    refine hK.out _ _ HH9.out (fun hHeld => ?_)
    clear hK K hm9
    (try simp only [Act.put, zA, zB, zC, zD, zE, zF])
    refine wpAnyH_ready (rs := [16]) (by kernel_rfl) (by simp) (AllReadyH.cons rfl (fun K hK => ?_) AllReadyH.nil)
    go_simp
    obtain ⟨W10, hW10⟩ : ∃ W, Hid (w9.alloc (.cells #[.string ⟨#[120]⟩, .string ⟨#[121]⟩] 9) = W) := ⟨_, Lib.hid rfl⟩
    have hxy10 : ∀ j, j < 2 → (w9.alloc (.cells #[.string ⟨#[120]⟩, .string ⟨#[121]⟩] 9)).cell? ⟨w9.heap.size, j, none⟩ = some (.string (xy j)) := xy_made w9
    have ha10 : Grew T A len cap w9 (w9.alloc (.cells #[.string ⟨#[120]⟩, .string ⟨#[121]⟩] 9)) := HB9.out.cx.ctx.alloc (.cells #[.string ⟨#[120]⟩, .string ⟨#[121]⟩] 9)
    rw [hW10.out] at hxy10 ha10 ⊢
    have hsa10 := ha10.size
    have hsx10 : w9.heap.size < W10.heap.size := by rw [← hW10.out]; exact Nat.lt_of_lt_of_eq (Nat.lt_succ_self _) (Array.size_push _).symm
    have HB10 := Lib.hid (HB9.out.grew ha10)
    have HH10 := Lib.hid (limb_grew ha10 (by omega) hMT (by omega) hbT hHeld)
    refine hK.out _ _ HH10.out (fun hHeld => ?_)
    clear hK K
    refine wpAnyH_mono (S' := fun w' => (∀ j, j < 2 → w'.cell? ⟨w9.heap.size, j, none⟩ = some (.string (xy j))) ∧ w'.cell? ⟨M, 0, none⟩ = some (.pointer (some ⟨T, 0, none⟩)) ∧ w'.cell? ⟨M, 5, none⟩ = some (.slice (some ⟨b, 0, none⟩) ql qc) ∧ ∀ j, j < ql → w'.cell? ⟨b, j, none⟩ = some (.string (nm j))) (fun _ hh => hh.2) _ _ _ _ ?_
    have hHeld2 := And.intro hxy10 HH10.out
    clear ha10
    have HXY := Lib.hid hxy10
    (try simp only [Act.put, zA, zB, zC, zD, zE, zF])
    refine wpAnyH_take (i := 22) (v := ?_) rfl (by kernel_rfl) (by kernel_rfl) (by kernel_rfl) (fun _ _ _ h => h) (Or.inl ⟨by rfl, ?_⟩) (by assumption) ?_
    rotate_left 1
    ·intro w hSw
     (try dsimp only at hSw)
     (go_simp) <;> (with_reducible rfl)
    (try simp only [Act.put, zA, zB, zC, zD, zE, zF])
    refine wpAnyH_take (i := 23) (v := ?_) rfl (by kernel_rfl) (by kernel_rfl) (by kernel_rfl) (fun _ _ _ h => h) (Or.inl ⟨by rfl, ?_⟩) (by assumption) ?_
    rotate_left 1
    ·intro w hSw
     (try dsimp only at hSw)
     (go_simp) <;> (with_reducible rfl)
    (try simp only [Act.put, zA, zB, zC, zD, zE, zF])
    refine wpAnyH_take (i := 24) (v := ?_) rfl (by kernel_rfl) (by kernel_rfl) (by kernel_rfl) (fun _ _ _ h => h) (Or.inl ⟨by rfl, ?_⟩) (by assumption) ?_
    rotate_left 1
    ·intro w hSw
     (try dsimp only at hSw)
     (go_simp) <;> (with_reducible rfl)
    (try simp only [Act.put, zA, zB, zC, zD, zE, zF])
    refine wpAnyH_ready (rs := [25]) (by kernel_rfl) (by simp) (AllReadyH.cons rfl (fun K hK => ?_) AllReadyH.nil)
    go_simp
    obtain ⟨W6, hW6⟩ : ∃ W, Hid (W10.alloc (.cells #[.int .i64 2, .int .i64 0, .int .i64 0, .string (nm j), .string (xy i), .slice none 0 0] 72) = W) := ⟨_, Lib.hid rfl⟩
    have ha6 := HB10.out.alloc (.cells #[.int .i64 2, .int .i64 0, .int .i64 0, .string (nm j), .string (xy i), .slice none 0 0] 72)
    have hr6 : ExRow (W10.alloc (.cells #[.int .i64 2, .int .i64 0, .int .i64 0, .string (nm j), .string (xy i), .slice none 0 0] 72)) (some ⟨W10.heap.size, 0, none⟩) 1 1 [1] := row_made ((exNew_leaf W10 0 2 0 0 (nm j) (xy i) (by omega) (by omega) (hnm j hjr) (xy_size _)).le (by omega))
    have hh6 := limb_grew (HB10.out.cx.ctx.alloc (.cells #[.int .i64 2, .int .i64 0, .int .i64 0, .string (nm j), .string (xy i), .slice none 0 0] 72)) (by omega) hMT (by omega) hbT HH10.out
    have hy6 : ∀ y, y < 2 → (W10.alloc (.cells #[.int .i64 2, .int .i64 0, .int .i64 0, .string (nm j), .string (xy i), .slice none 0 0] 72)).cell? ⟨w9.heap.size, y, none⟩ = some (.string (xy y)) := fun y hy => ((HB10.out.cx.ctx.alloc (.cells #[.int .i64 2, .int .i64 0, .int .i64 0, .string (nm j), .string (xy i), .slice none 0 0] 72)).cell (by omega) (show w9.heap.size ≠ T by omega)).trans (HXY.out y hy)
    rw [hW6.out] at ha6 hr6 hh6 hy6 ⊢
    have HB7 := Lib.hid ha6
    have HR6 := Lib.hid hr6
    have HH7 := Lib.hid hh6
    have HY7 := Lib.hid hy6
    clear ha6 hr6 hh6 hy6
    refine hK.out _ _ ⟨HY7.out, HH7.out⟩ (fun hHeld => ?_)
    clear hK K
    (try simp only [Act.put, zA, zB, zC, zD, zE, zF])
    refine wpAnyH_take (i := 26) (v := ?_) rfl (by kernel_rfl) (by kernel_rfl) (by kernel_rfl) (fun _ _ _ h => h) (Or.inl ⟨by rfl, ?_⟩) (by assumption) ?_
    rotate_left 1
    ·intro w hSw
     (try dsimp only at hSw)
     (go_simp) <;> (with_reducible rfl)
    (try simp only [Act.put, zA, zB, zC, zD, zE, zF])
    refine wpAnyH_ready (rs := [27]) (by kernel_rfl) (by simp) (AllReadyH.cons rfl (fun K hK => ?_) AllReadyH.nil)
    have x7 := HB7.out.cell 7 (.slice none 0 0) rfl
    have f7 := HB7.out.frozen 7
    have hs7 : As lo B ⟨M, T, f, funcs, count, left, P, S, some ⟨b, 0, none⟩, R, pl, pc, sl, sc, ql, qc, rl, rc, A, len, cap⟩ w w.heap.size (w.heap.size + 1) (#[.int .i64 2, .int .i64 0, .int .i64 0, .string ⟨#[]⟩, .string ⟨#[]⟩, .int .i64 0, .int .i64 0, .slice (some ⟨W10.heap.size, 0, none⟩) 1 1, .string ⟨#[]⟩, .int .i64 0, .slice none 0 0, .slice none 0 0, .slice none 0 0]) (W6.setCell ⟨(w.heap.size + 1), 7, none⟩ (.slice (some ⟨W10.heap.size, 0, none⟩) 1 1)) := HB7.out.set 7 (.slice (some ⟨W10.heap.size, 0, none⟩) 1 1)
    have hr7 := HR6.out.keep (HB7.out.keptS 7 (.slice (some ⟨W10.heap.size, 0, none⟩) 1 1))
    obtain ⟨U7, hU7⟩ : ∃ U, Hid (W6.setCell ⟨(w.heap.size + 1), 7, none⟩ (.slice (some ⟨W10.heap.size, 0, none⟩) 1 1) = U) := ⟨_, Lib.hid rfl⟩
    have hh7 := limb_setX 7 (.slice (some ⟨W10.heap.size, 0, none⟩) 1 1) hMX hbX HH7.out
    have hy7 : ∀ y, y < 2 → (W6.setCell ⟨(w.heap.size + 1), 7, none⟩ (.slice (some ⟨W10.heap.size, 0, none⟩) 1 1)).cell? ⟨w9.heap.size, y, none⟩ = some (.string (xy y)) := fun y hy => (World.cell?_of_block (w := W6) (heap_setCell_other W6 ⟨(w.heap.size + 1), 7, none⟩ w9.heap.size _ (by show w9.heap.size ≠ (w.heap.size + 1); omega))).trans (HY7.out y hy)
    rw [hU7.out] at hs7 hr7 hh7 hy7
    have HA7 := Lib.hid hs7
    have HR7 := Lib.hid hr7
    go_simp
    rw [hU7.out]
    refine hK.out _ _ ⟨hy7, hh7⟩ (fun hHeld => ?_)
    clear hK K hs7 hr7 hh7 hy7 x7 f7 hHeld
    refine wpAnyH_done (by kernel_rfl) ?_ _
    go_wp2_with fail
    refine (expr_any ⟨M, T, f, funcs, count, left, P, S, some ⟨b, 0, none⟩, R, pl, pc, sl, sc, ql, qc, rl, rc, A, len, cap⟩ U7 0 (by omega) HA7.out.cx.ctx).mono ?_
    rintro e w8 ⟨v, n, rfl, hex, hn, hg⟩
    obtain ⟨op1, num, vr, nm1, fld, A', len', cap', rfl⟩ := hex.shape
    dsimp only at hg
    have hsg_w8 := hg.size
    have HA8 := Lib.hid (HA7.out.grew hg)
    have HR1 := Lib.hid (HR7.out.keep (HA7.out.keptG hg))
    obtain ⟨W9, hW9⟩ : ∃ W, Hid (w8.alloc (.cells #[.int .i64 op1, .int .i64 num, .int .i64 vr, .string nm1, .string fld, .slice A' len' cap'] 72) = W) := ⟨_, Lib.hid rfl⟩
    have x10 : ∀ o, (w8.alloc o).cell? ⟨(w.heap.size + 1), 10, none⟩ = some (.slice none 0 0) := fun o => (HA8.out.alloc o).cell 10 _ rfl
    have f10 : ∀ o, (w8.alloc o).frozen? ⟨(w.heap.size + 1), 10, none⟩ = false := fun o => (HA8.out.alloc o).frozen 10
    have ha := HA8.out.alloc (.cells #[.int .i64 op1, .int .i64 num, .int .i64 vr, .string nm1, .string fld, .slice A' len' cap'] 72)
    have hr := row_made hex
    rw [hW9.out] at ha hr
    obtain ⟨U9, hU9⟩ : ∃ U, Hid (W9.setCell ⟨(w.heap.size + 1), 10, none⟩ (.slice (some ⟨w8.heap.size, 0, none⟩) 1 1) = U) := ⟨_, Lib.hid rfl⟩
    have hs : As lo B ⟨M, T, f, funcs, count, left, P, S, some ⟨b, 0, none⟩, R, pl, pc, sl, sc, ql, qc, rl, rc, A, len, cap⟩ w w.heap.size (w.heap.size + 1) (#[.int .i64 2, .int .i64 0, .int .i64 0, .string ⟨#[]⟩, .string ⟨#[]⟩, .int .i64 0, .int .i64 0, .slice (some ⟨W10.heap.size, 0, none⟩) 1 1, .string ⟨#[]⟩, .int .i64 0, .slice (some ⟨w8.heap.size, 0, none⟩) 1 1, .slice none 0 0, .slice none 0 0]) (W9.setCell ⟨(w.heap.size + 1), 10, none⟩ (.slice (some ⟨w8.heap.size, 0, none⟩) 1 1)) := ha.set 10 (.slice (some ⟨w8.heap.size, 0, none⟩) 1 1)
    have hk := ha.keptS 10 (.slice (some ⟨w8.heap.size, 0, none⟩) 1 1)
    have hr := hr.keep hk
    rw [hU9.out] at hs hr hk
    have HA9 := Lib.hid hs
    have HR2 := Lib.hid hr
    have HK10 : Hid (KeptE w8 U9) := Lib.hid (KeptE.trans (show KeptE w8 W9 by rw [← hW9.out]; exact (KeptX.below ((Below.refl _ _).alloc (Nat.le_refl _) _)).e) hk)
    obtain ⟨n2, hn2⟩ : ∃ k, n = k := ⟨_, rfl⟩
    rw [hn2] at hn HR2
    clear ha hr hs hk hex hg hn2
    have HR1 := Lib.hid (HR1.out.keep HK10.out)
    go_wp2_with (first | ((with_reducible show wpList _ _ _ (Oper.mk _ (Op.load 75 _) _ _ _ none :: _) _ _); rw [hW9.out, hU9.out]; refine load_stmt rfl _ rfl (w.heap.size + 1) _ rfl HA9.out.x rfl ?_) | ((with_reducible show wpList _ _ _ (Oper.mk none (Op.store 75 _ _) _ _ _ none :: _) _ _); refine store_stmt rfl rfl _ _ rfl w.heap.size _ (asCells 2 ⟨#[]⟩ (some ⟨W10.heap.size, 0, none⟩) 1 1 (some ⟨w8.heap.size, 0, none⟩) 1 1) rfl rfl HA9.out.n rfl rfl (asCells_one _ _ _ _ _ _ _ _) ?_; intro U2 hU2))
    (try simp only [Exit.inBlock, Exit.then])
    have hld := ret_stmt hU2.at_ rfl
    refine bodyPost_ret (v := .agg (asCells 2 ⟨#[]⟩ (some ⟨W10.heap.size, 0, none⟩) 1 1 (some ⟨w8.heap.size, 0, none⟩) 1 1)) (by simp [results, Tryd.results47, Act.put, asAddr, Result.andThen, hld]) rfl ?_
    unfold AssignMade
    exact ⟨2, ⟨#[]⟩, (some ⟨W10.heap.size, 0, none⟩), 1, 1, (some ⟨w8.heap.size, 0, none⟩), 1, 1, [1], [n2], rfl, ⟨by omega, by omega, .inr (.inl rfl)⟩, by decide, HR1.out.keep (hU2.keptE HA9.out.n), HR2.out.keep (hU2.keptE HA9.out.n), (by simp; omega), HA9.out.cx.set HA9.out.n (by decide) hU2 HA9.out.lo0, HA9.out.went.set hU2 (Nat.le_refl _)⟩
  ·go_simp
   obtain ⟨W8, hW8⟩ : ∃ W, Hid ((U.alloc (.cells #[.string ⟨#[120]⟩, .string ⟨#[121]⟩] 9)).drew = W) := ⟨_, Lib.hid rfl⟩
   have hxy8 : ∀ j, j < 2 → ((U.alloc (.cells #[.string ⟨#[120]⟩, .string ⟨#[121]⟩] 9)).drew).cell? ⟨U.heap.size, j, none⟩ = some (.string (xy j)) := xy_made U
   have ha8 : Grew T A len cap U.drew ((U.alloc (.cells #[.string ⟨#[120]⟩, .string ⟨#[121]⟩] 9)).drew) := HD.out.cx.ctx.alloc (.cells #[.string ⟨#[120]⟩, .string ⟨#[121]⟩] 9)
   rw [hW8.out] at hxy8 ha8 ⊢
   have hsa8 := ha8.size
   have hsx8 : U.heap.size < W8.heap.size := by rw [← hW8.out]; exact Nat.lt_of_lt_of_eq (Nat.lt_succ_self _) (Array.size_push _).symm
   have HB8 := Lib.hid (HD.out.grew ha8)
   have HH8 := Lib.hid (limb_grew ha8 (by omega) hMT (by omega) hbT hHeld)
   refine hK.out _ _ HH8.out (fun hHeld => ?_)
   clear hK K
   refine wpAnyH_mono (S' := fun w' => (∀ j, j < 2 → w'.cell? ⟨U.heap.size, j, none⟩ = some (.string (xy j))) ∧ w'.cell? ⟨M, 0, none⟩ = some (.pointer (some ⟨T, 0, none⟩)) ∧ w'.cell? ⟨M, 5, none⟩ = some (.slice (some ⟨b, 0, none⟩) ql qc) ∧ ∀ j, j < ql → w'.cell? ⟨b, j, none⟩ = some (.string (nm j))) (fun _ hh => hh.2) _ _ _ _ ?_
   have hHeld2 := And.intro hxy8 HH8.out
   clear ha8
   (try simp only [Act.put, zA, zB, zC, zD, zE, zF])
   refine wpAnyH_ready (rs := [13]) (by kernel_rfl) (by simp) (AllReadyH.cons rfl (fun K hK => ?_) AllReadyH.nil)
   obtain ⟨p2, p2t⟩ := HB8.out.cx.tape
   go_simp
   refine (next_any _ T A len cap p2 p2t ql hpos hlt).mono ?_
   rintro e w9 ⟨j', jt, rfl, j0, j1, hm9⟩
   obtain ⟨j, rfl⟩ : ∃ i : Nat, j' = (i : Int) := ⟨j'.toNat, by omega⟩
   have hs9 := Nat.le_of_eq hm9.size.symm
   have HB9 := Lib.hid (HB8.out.grew hm9.grew)
   have hjr : j < ql := by omega
   have HH9 := Lib.hid (limb_grew hm9.grew (by omega) hMT (by omega) hbT HH8.out)
   have hxy9 : ∀ i, i < 2 → w9.cell? ⟨U.heap.size, i, none⟩ = some (.string (xy i)) := fun i hi => (hm9.cell (b := U.heap.size) (o := i) (by omega)).trans (hxy8 i hi)
   refine hK.out _ _ ⟨hxy9, HH9.out⟩ (fun hHeld => ?_)
   clear hK K hm9
   (try simp only [Act.put, zA, zB, zC, zD, zE, zF])
   refine wpAnyH_take (i := 14) (v := ?_) rfl (by kernel_rfl) (by kernel_rfl) (by kernel_rfl) (fun _ _ _ h => h) (Or.inl ⟨by rfl, ?_⟩) (by assumption) ?_
   rotate_left 1
   ·intro w hSw
    (try dsimp only at hSw)
    (go_simp) <;> (with_reducible rfl)
   (try simp only [Act.put, zA, zB, zC, zD, zE, zF])
   refine wpAnyH_take (i := 15) (v := ?_) rfl (by kernel_rfl) (by kernel_rfl) (by kernel_rfl) (fun _ _ _ h => h) (Or.inl ⟨by rfl, ?_⟩) (by assumption) ?_
   rotate_left 1
   ·intro w hSw
    (try dsimp only at hSw)
    (go_simp) <;> (with_reducible rfl)
   (try simp only [Act.put, zA, zB, zC, zD, zE, zF])
   refine wpAnyH_ready (rs := [21]) (by kernel_rfl) (by simp) (AllReadyH.cons rfl (fun K hK => ?_) AllReadyH.nil)
   obtain ⟨q10, q10t⟩ := HB9.out.cx.tape
   go_simp
   refine (next_any _ T A len cap q10 q10t 2 (by omega) (by omega)).mono ?_
   rintro e w10 ⟨i', it, rfl, i0, i1, hm10⟩
   obtain ⟨i, rfl⟩ : ∃ i : Nat, i' = (i : Int) := ⟨i'.toNat, by omega⟩
   have hs10 := Nat.le_of_eq hm10.size.symm
   have HB10 := Lib.hid (HB9.out.grew hm10.grew)
   have hi2 : i < 2 := by omega
   have HH10 := Lib.hid (limb_grew hm10.grew (by omega) hMT (by omega) hbT HH9.out)
   have HXY : Hid (∀ i, i < 2 → w10.cell? ⟨U.heap.size, i, none⟩ = some (.string (xy i))) := Lib.hid (fun i hi => (hm10.cell (b := U.heap.size) (o := i) (by omega)).trans (hxy9 i hi))
   refine hK.out _ _ ⟨HXY.out, HH10.out⟩ (fun hHeld => ?_)
   clear hK K hm10
   (try simp only [Act.put, zA, zB, zC, zD, zE, zF])
   refine wpAnyH_take (i := 22) (v := ?_) rfl (by kernel_rfl) (by kernel_rfl) (by kernel_rfl) (fun _ _ _ h => h) (Or.inl ⟨by rfl, ?_⟩) (by assumption) ?_
   rotate_left 1
   ·intro w hSw
    (try dsimp only at hSw)
    (go_simp) <;> (with_reducible rfl)
   (try simp only [Act.put, zA, zB, zC, zD, zE, zF])
   refine wpAnyH_take (i := 23) (v := ?_) rfl (by kernel_rfl) (by kernel_rfl) (by kernel_rfl) (fun _ _ _ h => h) (Or.inl ⟨by rfl, ?_⟩) (by assumption) ?_
   rotate_left 1
   ·intro w hSw
    (try dsimp only at hSw)
    (go_simp) <;> (with_reducible rfl)
   (try simp only [Act.put, zA, zB, zC, zD, zE, zF])
   refine wpAnyH_take (i := 24) (v := ?_) rfl (by kernel_rfl) (by kernel_rfl) (by kernel_rfl) (fun _ _ _ h => h) (Or.inl ⟨by rfl, ?_⟩) (by assumption) ?_
   rotate_left 1
   ·intro w hSw
    (try dsimp only at hSw)
    (go_simp) <;> (with_reducible rfl)
   (try simp only [Act.put, zA, zB, zC, zD, zE, zF])
   refine wpAnyH_ready (rs := [25]) (by kernel_rfl) (by simp) (AllReadyH.cons rfl (fun K hK => ?_) AllReadyH.nil)
   go_simp
   obtain ⟨W6, hW6⟩ : ∃ W, Hid (w10.alloc (.cells #[.int .i64 2, .int .i64 0, .int .i64 0, .string (nm j), .string (xy i), .slice none 0 0] 72) = W) := ⟨_, Lib.hid rfl⟩
   have ha6 := HB10.out.alloc (.cells #[.int .i64 2, .int .i64 0, .int .i64 0, .string (nm j), .string (xy i), .slice none 0 0] 72)
   have hr6 : ExRow (w10.alloc (.cells #[.int .i64 2, .int .i64 0, .int .i64 0, .string (nm j), .string (xy i), .slice none 0 0] 72)) (some ⟨w10.heap.size, 0, none⟩) 1 1 [1] := row_made ((exNew_leaf w10 0 2 0 0 (nm j) (xy i) (by omega) (by omega) (hnm j hjr) (xy_size _)).le (by omega))
   have hh6 := limb_grew (HB10.out.cx.ctx.alloc (.cells #[.int .i64 2, .int .i64 0, .int .i64 0, .string (nm j), .string (xy i), .slice none 0 0] 72)) (by omega) hMT (by omega) hbT HH10.out
   have hy6 : ∀ y, y < 2 → (w10.alloc (.cells #[.int .i64 2, .int .i64 0, .int .i64 0, .string (nm j), .string (xy i), .slice none 0 0] 72)).cell? ⟨U.heap.size, y, none⟩ = some (.string (xy y)) := fun y hy => ((HB10.out.cx.ctx.alloc (.cells #[.int .i64 2, .int .i64 0, .int .i64 0, .string (nm j), .string (xy i), .slice none 0 0] 72)).cell (by omega) (show U.heap.size ≠ T by omega)).trans (HXY.out y hy)
   rw [hW6.out] at ha6 hr6 hh6 hy6 ⊢
   have HB7 := Lib.hid ha6
   have HR6 := Lib.hid hr6
   have HH7 := Lib.hid hh6
   have HY7 := Lib.hid hy6
   clear ha6 hr6 hh6 hy6
   refine hK.out _ _ ⟨HY7.out, HH7.out⟩ (fun hHeld => ?_)
   clear hK K
   (try simp only [Act.put, zA, zB, zC, zD, zE, zF])
   refine wpAnyH_take (i := 26) (v := ?_) rfl (by kernel_rfl) (by kernel_rfl) (by kernel_rfl) (fun _ _ _ h => h) (Or.inl ⟨by rfl, ?_⟩) (by assumption) ?_
   rotate_left 1
   ·intro w hSw
    (try dsimp only at hSw)
    (go_simp) <;> (with_reducible rfl)
   (try simp only [Act.put, zA, zB, zC, zD, zE, zF])
   refine wpAnyH_ready (rs := [27]) (by kernel_rfl) (by simp) (AllReadyH.cons rfl (fun K hK => ?_) AllReadyH.nil)
   have x7 := HB7.out.cell 7 (.slice none 0 0) rfl
   have f7 := HB7.out.frozen 7
   have hs7 : As lo B ⟨M, T, f, funcs, count, left, P, S, some ⟨b, 0, none⟩, R, pl, pc, sl, sc, ql, qc, rl, rc, A, len, cap⟩ w w.heap.size (w.heap.size + 1) (#[.int .i64 2, .int .i64 0, .int .i64 0, .string ⟨#[]⟩, .string ⟨#[]⟩, .int .i64 0, .int .i64 0, .slice (some ⟨w10.heap.size, 0, none⟩) 1 1, .string ⟨#[]⟩, .int .i64 0, .slice none 0 0, .slice none 0 0, .slice none 0 0]) (W6.setCell ⟨(w.heap.size + 1), 7, none⟩ (.slice (some ⟨w10.heap.size, 0, none⟩) 1 1)) := HB7.out.set 7 (.slice (some ⟨w10.heap.size, 0, none⟩) 1 1)
   have hr7 := HR6.out.keep (HB7.out.keptS 7 (.slice (some ⟨w10.heap.size, 0, none⟩) 1 1))
   obtain ⟨U7, hU7⟩ : ∃ U, Hid (W6.setCell ⟨(w.heap.size + 1), 7, none⟩ (.slice (some ⟨w10.heap.size, 0, none⟩) 1 1) = U) := ⟨_, Lib.hid rfl⟩
   have hh7 := limb_setX 7 (.slice (some ⟨w10.heap.size, 0, none⟩) 1 1) hMX hbX HH7.out
   have hy7 : ∀ y, y < 2 → (W6.setCell ⟨(w.heap.size + 1), 7, none⟩ (.slice (some ⟨w10.heap.size, 0, none⟩) 1 1)).cell? ⟨U.heap.size, y, none⟩ = some (.string (xy y)) := fun y hy => (World.cell?_of_block (w := W6) (heap_setCell_other W6 ⟨(w.heap.size + 1), 7, none⟩ U.heap.size _ (by show U.heap.size ≠ (w.heap.size + 1); omega))).trans (HY7.out y hy)
   rw [hU7.out] at hs7 hr7 hh7 hy7
   have HA7 := Lib.hid hs7
   have HR7 := Lib.hid hr7
   go_simp
   rw [hU7.out]
   refine hK.out _ _ ⟨hy7, hh7⟩ (fun hHeld => ?_)
   clear hK K hs7 hr7 hh7 hy7 x7 f7 hHeld
   refine wpAnyH_done (by kernel_rfl) ?_ _
   go_wp2_with fail
   refine (expr_any ⟨M, T, f, funcs, count, left, P, S, some ⟨b, 0, none⟩, R, pl, pc, sl, sc, ql, qc, rl, rc, A, len, cap⟩ U7 0 (by omega) HA7.out.cx.ctx).mono ?_
   rintro e w8 ⟨v, n, rfl, hex, hn, hg⟩
   obtain ⟨op1, num, vr, nm1, fld, A', len', cap', rfl⟩ := hex.shape
   dsimp only at hg
   have hsg_w8 := hg.size
   have HA8 := Lib.hid (HA7.out.grew hg)
   have HR1 := Lib.hid (HR7.out.keep (HA7.out.keptG hg))
   obtain ⟨W9, hW9⟩ : ∃ W, Hid (w8.alloc (.cells #[.int .i64 op1, .int .i64 num, .int .i64 vr, .string nm1, .string fld, .slice A' len' cap'] 72) = W) := ⟨_, Lib.hid rfl⟩
   have x10 : ∀ o, (w8.alloc o).cell? ⟨(w.heap.size + 1), 10, none⟩ = some (.slice none 0 0) := fun o => (HA8.out.alloc o).cell 10 _ rfl
   have f10 : ∀ o, (w8.alloc o).frozen? ⟨(w.heap.size + 1), 10, none⟩ = false := fun o => (HA8.out.alloc o).frozen 10
   have ha := HA8.out.alloc (.cells #[.int .i64 op1, .int .i64 num, .int .i64 vr, .string nm1, .string fld, .slice A' len' cap'] 72)
   have hr := row_made hex
   rw [hW9.out] at ha hr
   obtain ⟨U9, hU9⟩ : ∃ U, Hid (W9.setCell ⟨(w.heap.size + 1), 10, none⟩ (.slice (some ⟨w8.heap.size, 0, none⟩) 1 1) = U) := ⟨_, Lib.hid rfl⟩
   have hs : As lo B ⟨M, T, f, funcs, count, left, P, S, some ⟨b, 0, none⟩, R, pl, pc, sl, sc, ql, qc, rl, rc, A, len, cap⟩ w w.heap.size (w.heap.size + 1) (#[.int .i64 2, .int .i64 0, .int .i64 0, .string ⟨#[]⟩, .string ⟨#[]⟩, .int .i64 0, .int .i64 0, .slice (some ⟨w10.heap.size, 0, none⟩) 1 1, .string ⟨#[]⟩, .int .i64 0, .slice (some ⟨w8.heap.size, 0, none⟩) 1 1, .slice none 0 0, .slice none 0 0]) (W9.setCell ⟨(w.heap.size + 1), 10, none⟩ (.slice (some ⟨w8.heap.size, 0, none⟩) 1 1)) := ha.set 10 (.slice (some ⟨w8.heap.size, 0, none⟩) 1 1)
   have hk := ha.keptS 10 (.slice (some ⟨w8.heap.size, 0, none⟩) 1 1)
   have hr := hr.keep hk
   rw [hU9.out] at hs hr hk
   have HA9 := Lib.hid hs
   have HR2 := Lib.hid hr
   have HK10 : Hid (KeptE w8 U9) := Lib.hid (KeptE.trans (show KeptE w8 W9 by rw [← hW9.out]; exact (KeptX.below ((Below.refl _ _).alloc (Nat.le_refl _) _)).e) hk)
   obtain ⟨n2, hn2⟩ : ∃ k, n = k := ⟨_, rfl⟩
   rw [hn2] at hn HR2
   clear ha hr hs hk hex hg hn2
   have HR1 := Lib.hid (HR1.out.keep HK10.out)
   go_wp2_with (first | ((with_reducible show wpList _ _ _ (Oper.mk _ (Op.load 75 _) _ _ _ none :: _) _ _); rw [hW9.out, hU9.out]; refine load_stmt rfl _ rfl (w.heap.size + 1) _ rfl HA9.out.x rfl ?_) | ((with_reducible show wpList _ _ _ (Oper.mk none (Op.store 75 _ _) _ _ _ none :: _) _ _); refine store_stmt rfl rfl _ _ rfl w.heap.size _ (asCells 2 ⟨#[]⟩ (some ⟨w10.heap.size, 0, none⟩) 1 1 (some ⟨w8.heap.size, 0, none⟩) 1 1) rfl rfl HA9.out.n rfl rfl (asCells_one _ _ _ _ _ _ _ _) ?_; intro U2 hU2))
   (try simp only [Exit.inBlock, Exit.then])
   have hld := ret_stmt hU2.at_ rfl
   refine bodyPost_ret (v := .agg (asCells 2 ⟨#[]⟩ (some ⟨w10.heap.size, 0, none⟩) 1 1 (some ⟨w8.heap.size, 0, none⟩) 1 1)) (by simp [results, Tryd.results47, Act.put, asAddr, Result.andThen, hld]) rfl ?_
   unfold AssignMade
   exact ⟨2, ⟨#[]⟩, (some ⟨w10.heap.size, 0, none⟩), 1, 1, (some ⟨w8.heap.size, 0, none⟩), 1, 1, [1], [n2], rfl, ⟨by omega, by omega, .inr (.inl rfl)⟩, by decide, HR1.out.keep (hU2.keptE HA9.out.n), HR2.out.keep (hU2.keptE HA9.out.n), (by simp; omega), HA9.out.cx.set HA9.out.n (by decide) hU2 HA9.out.lo0, HA9.out.went.set hU2 (Nat.le_refl _)⟩
 ·
  go_wp2_with ((with_reducible show wpList _ _ _ (Oper.mk none (Op.store 75 _ _) _ _ _ none :: _) _ _); refine store_stmt rfl rfl _ _ rfl (w.heap.size + 1) _ (#[.int .i64 2, .int .i64 0, .int .i64 0, .string ⟨#[]⟩, .string ⟨#[]⟩, .int .i64 0, .int .i64 0, .slice none 0 0, .string ⟨#[]⟩, .int .i64 0, .slice none 0 0, .slice none 0 0, .slice none 0 0]) rfl rfl HA2.out.x rfl rfl (asCells_one 2 ⟨#[]⟩ none 0 0 none 0 0) ?_; intro U hU; have HU := Lib.hid (HA2.out.setB hU); have hsU := Nat.le_of_eq hU.size.symm; clear hU; have e0 := HU.out.cx.maker.cell 0 (.pointer (some ⟨T, 0, none⟩)) rfl; dsimp only at e0; have e4 := HU.out.cx.maker.cell 4 (.slice S sl sc) rfl; dsimp only at e4; have e5 := HU.out.cx.maker.cell 5 (.slice Q ql qc) rfl; dsimp only at e5; have e6 := HU.out.cx.maker.cell 6 (.slice R rl rc) rfl; dsimp only at e6; skip)
  refine (element_one ⟨M, T, f, funcs, count, left, P, S, Q, R, pl, pc, sl, sc, ql, qc, rl, rc, A, len, cap⟩ U HU.out.cx.ctx hl).mono ?_
  rintro e w4 ⟨v, n, rfl, hex, hn, hg⟩
  obtain ⟨op1, num, vr, nm1, fld, A', len', cap', rfl⟩ := hex.shape
  dsimp only at hg
  have hsg_w4 := hg.size
  have HA4 := Lib.hid (HU.out.grew hg)
  obtain ⟨W5, hW5⟩ : ∃ W, Hid (w4.alloc (.cells #[.int .i64 op1, .int .i64 num, .int .i64 vr, .string nm1, .string fld, .slice A' len' cap'] 72) = W) := ⟨_, Lib.hid rfl⟩
  have x7 : ∀ o, (w4.alloc o).cell? ⟨(w.heap.size + 1), 7, none⟩ = some (.slice none 0 0) := fun o => (HA4.out.alloc o).cell 7 _ rfl
  have f7 : ∀ o, (w4.alloc o).frozen? ⟨(w.heap.size + 1), 7, none⟩ = false := fun o => (HA4.out.alloc o).frozen 7
  have ha := HA4.out.alloc (.cells #[.int .i64 op1, .int .i64 num, .int .i64 vr, .string nm1, .string fld, .slice A' len' cap'] 72)
  have hr := row_made hex
  rw [hW5.out] at ha hr
  obtain ⟨U7, hU7⟩ : ∃ U, Hid (W5.setCell ⟨(w.heap.size + 1), 7, none⟩ (.slice (some ⟨w4.heap.size, 0, none⟩) 1 1) = U) := ⟨_, Lib.hid rfl⟩
  have hs : As lo B ⟨M, T, f, funcs, count, left, P, S, Q, R, pl, pc, sl, sc, ql, qc, rl, rc, A, len, cap⟩ w w.heap.size (w.heap.size + 1) (#[.int .i64 2, .int .i64 0, .int .i64 0, .string ⟨#[]⟩, .string ⟨#[]⟩, .int .i64 0, .int .i64 0, .slice (some ⟨w4.heap.size, 0, none⟩) 1 1, .string ⟨#[]⟩, .int .i64 0, .slice none 0 0, .slice none 0 0, .slice none 0 0]) (W5.setCell ⟨(w.heap.size + 1), 7, none⟩ (.slice (some ⟨w4.heap.size, 0, none⟩) 1 1)) := ha.set 7 (.slice (some ⟨w4.heap.size, 0, none⟩) 1 1)
  have hk := ha.keptS 7 (.slice (some ⟨w4.heap.size, 0, none⟩) 1 1)
  have hr := hr.keep hk
  rw [hU7.out] at hs hr hk
  have HA7 := Lib.hid hs
  have HR7 := Lib.hid hr
  have HK7 : Hid (KeptE w4 U7) := Lib.hid (KeptE.trans (show KeptE w4 W5 by rw [← hW5.out]; exact (KeptX.below ((Below.refl _ _).alloc (Nat.le_refl _) _)).e) hk)
  obtain ⟨n1, hn1⟩ : ∃ k, n = k := ⟨_, rfl⟩
  rw [hn1] at hn HR7
  clear ha hr hs hk hex hg hn1
  go_wp2_with fail
  rw [hW5.out, hU7.out]
  clear x7 f7
  refine (expr_any ⟨M, T, f, funcs, count, left, P, S, Q, R, pl, pc, sl, sc, ql, qc, rl, rc, A, len, cap⟩ U7 0 (by omega) HA7.out.cx.ctx).mono ?_
  rintro e w8 ⟨v, n, rfl, hex, hn, hg⟩
  obtain ⟨op1, num, vr, nm1, fld, A', len', cap', rfl⟩ := hex.shape
  dsimp only at hg
  have hsg_w8 := hg.size
  have HA8 := Lib.hid (HA7.out.grew hg)
  have HR1 := Lib.hid (HR7.out.keep (HA7.out.keptG hg))
  obtain ⟨W9, hW9⟩ : ∃ W, Hid (w8.alloc (.cells #[.int .i64 op1, .int .i64 num, .int .i64 vr, .string nm1, .string fld, .slice A' len' cap'] 72) = W) := ⟨_, Lib.hid rfl⟩
  have x10 : ∀ o, (w8.alloc o).cell? ⟨(w.heap.size + 1), 10, none⟩ = some (.slice none 0 0) := fun o => (HA8.out.alloc o).cell 10 _ rfl
  have f10 : ∀ o, (w8.alloc o).frozen? ⟨(w.heap.size + 1), 10, none⟩ = false := fun o => (HA8.out.alloc o).frozen 10
  have ha := HA8.out.alloc (.cells #[.int .i64 op1, .int .i64 num, .int .i64 vr, .string nm1, .string fld, .slice A' len' cap'] 72)
  have hr := row_made hex
  rw [hW9.out] at ha hr
  obtain ⟨U9, hU9⟩ : ∃ U, Hid (W9.setCell ⟨(w.heap.size + 1), 10, none⟩ (.slice (some ⟨w8.heap.size, 0, none⟩) 1 1) = U) := ⟨_, Lib.hid rfl⟩
  have hs : As lo B ⟨M, T, f, funcs, count, left, P, S, Q, R, pl, pc, sl, sc, ql, qc, rl, rc, A, len, cap⟩ w w.heap.size (w.heap.size + 1) (#[.int .i64 2, .int .i64 0, .int .i64 0, .string ⟨#[]⟩, .string ⟨#[]⟩, .int .i64 0, .int .i64 0, .slice (some ⟨w4.heap.size, 0, none⟩) 1 1, .string ⟨#[]⟩, .int .i64 0, .slice (some ⟨w8.heap.size, 0, none⟩) 1 1, .slice none 0 0, .slice none 0 0]) (W9.setCell ⟨(w.heap.size + 1), 10, none⟩ (.slice (some ⟨w8.heap.size, 0, none⟩) 1 1)) := ha.set 10 (.slice (some ⟨w8.heap.size, 0, none⟩) 1 1)
  have hk := ha.keptS 10 (.slice (some ⟨w8.heap.size, 0, none⟩) 1 1)
  have hr := hr.keep hk
  rw [hU9.out] at hs hr hk
  have HA9 := Lib.hid hs
  have HR2 := Lib.hid hr
  have HK10 : Hid (KeptE w8 U9) := Lib.hid (KeptE.trans (show KeptE w8 W9 by rw [← hW9.out]; exact (KeptX.below ((Below.refl _ _).alloc (Nat.le_refl _) _)).e) hk)
  obtain ⟨n2, hn2⟩ : ∃ k, n = k := ⟨_, rfl⟩
  rw [hn2] at hn HR2
  clear ha hr hs hk hex hg hn2
  have HR1 := Lib.hid (HR1.out.keep HK10.out)
  go_wp2_with (first | ((with_reducible show wpList _ _ _ (Oper.mk _ (Op.load 75 _) _ _ _ none :: _) _ _); rw [hW9.out, hU9.out]; refine load_stmt rfl _ rfl (w.heap.size + 1) _ rfl HA9.out.x rfl ?_) | ((with_reducible show wpList _ _ _ (Oper.mk none (Op.store 75 _ _) _ _ _ none :: _) _ _); refine store_stmt rfl rfl _ _ rfl w.heap.size _ (asCells 2 ⟨#[]⟩ (some ⟨w4.heap.size, 0, none⟩) 1 1 (some ⟨w8.heap.size, 0, none⟩) 1 1) rfl rfl HA9.out.n rfl rfl (asCells_one _ _ _ _ _ _ _ _) ?_; intro U2 hU2))
  (try simp only [Exit.inBlock, Exit.then])
  have hld := ret_stmt hU2.at_ rfl
  refine bodyPost_ret (v := .agg (asCells 2 ⟨#[]⟩ (some ⟨w4.heap.size, 0, none⟩) 1 1 (some ⟨w8.heap.size, 0, none⟩) 1 1)) (by simp [results, Tryd.results47, Act.put, asAddr, Result.andThen, hld]) rfl ?_
  unfold AssignMade
  exact ⟨2, ⟨#[]⟩, (some ⟨w4.heap.size, 0, none⟩), 1, 1, (some ⟨w8.heap.size, 0, none⟩), 1, 1, [n1], [n2], rfl, ⟨by omega, by omega, .inr (.inl rfl)⟩, by decide, HR1.out.keep (hU2.keptE HA9.out.n), HR2.out.keep (hU2.keptE HA9.out.n), (by simp; omega), HA9.out.cx.set HA9.out.n (by decide) hU2 HA9.out.lo0, HA9.out.went.set hU2 (Nat.le_refl _)⟩
 ·
  go_wp2_with ((with_reducible show wpList _ _ _ (Oper.mk none (Op.store 75 _ _) _ _ _ none :: _) _ _); refine store_stmt rfl rfl _ _ rfl (w.heap.size + 1) _ (#[.int .i64 2, .int .i64 0, .int .i64 0, .string ⟨#[]⟩, .string ⟨#[]⟩, .int .i64 0, .int .i64 0, .slice none 0 0, .string ⟨#[]⟩, .int .i64 0, .slice none 0 0, .slice none 0 0, .slice none 0 0]) rfl rfl HA2.out.x rfl rfl (asCells_one 2 ⟨#[]⟩ none 0 0 none 0 0) ?_; intro U hU; have HU := Lib.hid (HA2.out.setB hU); have hsU := Nat.le_of_eq hU.size.symm; clear hU; have e0 := HU.out.cx.maker.cell 0 (.pointer (some ⟨T, 0, none⟩)) rfl; dsimp only at e0; have e4 := HU.out.cx.maker.cell 4 (.slice S sl sc) rfl; dsimp only at e4; have e5 := HU.out.cx.maker.cell 5 (.slice Q ql qc) rfl; dsimp only at e5; have e6 := HU.out.cx.maker.cell 6 (.slice R rl rc) rfl; dsimp only at e6; skip)
  obtain ⟨b, nm, eb, hb, hbT, hbX, hbN, hl1, hl2', hl3, hnm, hnames⟩ := HU.out.names HU.out.cx.ctx.s ⟨_, rfl⟩ hl
  dsimp only at eb hb hbT hbX hbN hl1 hl2' hl3 hnm hnames
  subst eb
  have hpos : (1 : Int) ≤ (sl : Int) := by omega
  have hlt : (sl : Int) < 1000000 := by omega
  have hMw : M < U.heap.size := by omega
  have HL := Lib.hid hnames
  obtain ⟨p1, ht1⟩ := HU.out.drew.cx.tape
  have HT1 := Lib.hid ht1
  have HD := Lib.hid HU.out.drew
  have hsd : U.drew.heap.size = U.heap.size := rfl
  clear hnames ht1
  refine wp_region_held_drew (S := fun w' => w'.cell? ⟨M, 0, none⟩ = some (.pointer (some ⟨T, 0, none⟩)) ∧ w'.cell? ⟨M, 4, none⟩ = some (.slice (some ⟨b, 0, none⟩) sl sc) ∧ ∀ j, j < sl → w'.cell? ⟨b, j, none⟩ = some (.string (nm j))) (by kernel_rfl) ⟨e0, e4, HL.out⟩ (fun hHeld => ?_)
  refine wpAnyH_take (i := 0) (v := ?_) rfl (by kernel_rfl) (by kernel_rfl) (by kernel_rfl) (fun _ _ _ h => h) (Or.inl ⟨by rfl, ?_⟩) (by assumption) ?_
  rotate_left 1
  ·intro w hSw
   (try dsimp only at hSw)
   (go_simp) <;> (with_reducible rfl)
  (try simp only [Act.put, zA, zB, zC, zD, zE, zF])
  refine wpAnyH_take (i := 1) (v := ?_) rfl (by kernel_rfl) (by kernel_rfl) (by kernel_rfl) (fun _ _ _ h => h) (Or.inl ⟨by rfl, ?_⟩) (by assumption) ?_
  rotate_left 1
  ·intro w hSw
   (try dsimp only at hSw)
   (go_simp) <;> (with_reducible rfl)
  (try simp only [Act.put, zA, zB, zC, zD, zE, zF])
  refine wpAnyH_take (i := 2) (v := ?_) rfl (by kernel_rfl) (by kernel_rfl) (by kernel_rfl) (fun _ _ _ h => h) (Or.inl ⟨by rfl, ?_⟩) (by assumption) ?_
  rotate_left 1
  ·intro w hSw
   (try dsimp only at hSw)
   (go_simp) <;> (with_reducible rfl)
  (try simp only [Act.put, zA, zB, zC, zD, zE, zF])
  refine wpAnyH_take (i := 3) (v := ?_) rfl (by kernel_rfl) (by kernel_rfl) (by kernel_rfl) (fun _ _ _ h => h) (Or.inl ⟨by rfl, ?_⟩) (by assumption) ?_
  rotate_left 1
  ·intro w hSw
   (try dsimp only at hSw)
   (go_simp) <;> (with_reducible rfl)
  (try simp only [Act.put, zA, zB, zC, zD, zE, zF])
  refine wpAnyH_take (i := 4) (v := ?_) rfl (by kernel_rfl) (by kernel_rfl) (by kernel_rfl) (fun _ _ _ h => h) (Or.inl ⟨by rfl, ?_⟩) (by assumption) ?_
  rotate_left 1
  ·intro w hSw
   (try dsimp only at hSw)
   (go_simp) <;> (with_reducible rfl)
  (try simp only [Act.put, zA, zB, zC, zD, zE, zF])
  refine wpAnyH_take (i := 5) (v := ?_) rfl (by kernel_rfl) (by kernel_rfl) (by kernel_rfl) (fun _ _ _ h => h) (Or.inl ⟨by rfl, ?_⟩) (by assumption) ?_
  rotate_left 1
  ·intro w hSw
   (try dsimp only at hSw)
   (go_simp) <;> (with_reducible rfl)
  (try simp only [Act.put, zA, zB, zC, zD, zE, zF])
  refine wpAnyH_take (i := 6) (v := ?_) rfl (by kernel_rfl) (by kernel_rfl) (by kernel_rfl) (fun _ _ _ h => h) (Or.inl ⟨by rfl, ?_⟩) (by assumption) ?_
  rotate_left 1
  ·intro w hSw
   (try dsimp only at hSw)
   (go_simp) <;> (with_reducible rfl)
  (try simp only [Act.put, zA, zB, zC, zD, zE, zF])
  refine wpAnyH_take (i := 7) (v := ?_) rfl (by kernel_rfl) (by kernel_rfl) (by kernel_rfl) (fun _ _ _ h => h) (Or.inl ⟨by rfl, ?_⟩) (by assumption) ?_
  rotate_left 1
  ·intro w hSw
   (try dsimp only at hSw)
   (go_simp) <;> (with_reducible rfl)
  (try simp only [Act.put, zA, zB, zC, zD, zE, zF])
  refine wpAnyH_take (i := 8) (v := ?_) rfl (by kernel_rfl) (by kernel_rfl) (by kernel_rfl) (fun _ _ _ h => h) (Or.inl ⟨by rfl, ?_⟩) (by assumption) ?_
  rotate_left 1
  ·intro w hSw
   (try dsimp only at hSw)
   (go_simp) <;> (with_reducible rfl)
  (try simp only [Act.put, zA, zB, zC, zD, zE, zF])
  refine wpAnyH_take (i := 9) (v := ?_) rfl (by kernel_rfl) (by kernel_rfl) (by kernel_rfl) (fun _ _ _ h => h) (Or.inl ⟨by rfl, ?_⟩) (by assumption) ?_
  rotate_left 1
  ·intro w hSw
   (try dsimp only at hSw)
   (go_simp) <;> (with_reducible rfl)
  (try simp only [Act.put, zA, zB, zC, zD, zE, zF])
  refine wpAnyH_take (i := 10) (v := ?_) rfl (by kernel_rfl) (by kernel_rfl) (by kernel_rfl) (fun _ _ _ h => h) (Or.inl ⟨by rfl, ?_⟩) (by assumption) ?_
  rotate_left 1
  ·intro w hSw
   (try dsimp only at hSw)
   (go_simp) <;> (with_reducible rfl)
  (try simp only [Act.put, zA, zB, zC, zD, zE, zF])
  refine wpAnyH_take (i := 11) (v := ?_) rfl (by kernel_rfl) (by kernel_rfl) (by kernel_rfl) (fun _ _ _ h => h) (Or.inl ⟨by rfl, ?_⟩) (by assumption) ?_
  rotate_left 1
  ·intro w hSw
   (try dsimp only at hSw)
   (go_simp) <;> (with_reducible rfl)
  (try simp only [Act.put, zA, zB, zC, zD, zE, zF])
  refine wpAnyH_take (i := 12) (v := ?_) rfl (by kernel_rfl) (by kernel_rfl) (by kernel_rfl) (fun _ _ _ h => h) (Or.inl ⟨by rfl, ?_⟩) (by assumption) ?_
  rotate_left 1
  ·intro w hSw
   (try dsimp only at hSw)
   (go_simp) <;> (with_reducible rfl)
  (try simp only [Act.put, zA, zB, zC, zD, zE, zF])
  refine wpAnyH_ready (rs := [13]) (by kernel_rfl) (by simp) (AllReadyH.cons rfl (fun K hK => ?_) AllReadyH.nil)
  go_simp
  refine (next_any _ T A len cap p1 HT1.out sl hpos hlt).mono ?_
  rintro e w5 ⟨j', jt, rfl, j0, j1, hm5⟩
  obtain ⟨j, rfl⟩ : ∃ i : Nat, j' = (i : Int) := ⟨j'.toNat, by omega⟩
  have hs5 := Nat.le_of_eq hm5.size.symm
  have HB5 := Lib.hid (HD.out.grew hm5.grew)
  have hjr : j < sl := by omega
  have HH5 := Lib.hid (limb_grew hm5.grew hMw hMT hb hbT hHeld)
  have hb5 : b < w5.heap.size := by omega
  refine hK.out _ _ HH5.out (fun hHeld => ?_)
  clear hK K hm5
  (try simp only [Act.put, zA, zB, zC, zD, zE, zF])
  refine wpAnyH_take (i := 14) (v := ?_) rfl (by kernel_rfl) (by kernel_rfl) (by kernel_rfl) (fun _ _ _ h => h) (Or.inl ⟨by rfl, ?_⟩) (by assumption) ?_
  rotate_left 1
  ·intro w hSw
   (try dsimp only at hSw)
   (go_simp) <;> (with_reducible rfl)
  (try simp only [Act.put, zA, zB, zC, zD, zE, zF])
  refine wpAnyH_take (i := 15) (v := ?_) rfl (by kernel_rfl) (by kernel_rfl) (by kernel_rfl) (fun _ _ _ h => h) (Or.inl ⟨by rfl, ?_⟩) (by assumption) ?_
  rotate_left 1
  ·intro w hSw
   (try dsimp only at hSw)
   (go_simp) <;> (with_reducible rfl)
  (try simp only [Act.put, zA, zB, zC, zD, zE, zF])
  refine wpAnyH_ready (rs := [16]) (by kernel_rfl) (by simp) (AllReadyH.cons rfl (fun K hK => ?_) AllReadyH.nil)
  go_simp
  refine (variable_any w5 (nm j)).mono ?_
  rintro e w6 ⟨rfl, hb6⟩
  have hg6 := HB5.out.cx.ctx.below hb6
  dsimp only at hg6
  have hs6 := hg6.size
  have HB6 := Lib.hid (HB5.out.below hb6)
  have HH6 := Lib.hid (limb_grew hg6 (by omega) hMT hb5 hbT HH5.out)
  clear hg6 hb6
  refine hK.out _ _ HH6.out (fun hHeld => ?_)
  clear hK K
  (try simp only [Act.put, zA, zB, zC, zD, zE, zF])
  refine wpAnyH_ready (rs := [17]) (by kernel_rfl) (by simp) (AllReadyH.cons rfl (fun K hK => ?_) AllReadyH.nil)
  go_simp
  obtain ⟨W6, hW6⟩ : ∃ W, Hid (w6.alloc (.cells #[.int .i64 1, .int .i64 0, .int .i64 0, .string (nm j), .string ⟨#[]⟩, .slice none 0 0] 72) = W) := ⟨_, Lib.hid rfl⟩
  have ha6 := HB6.out.alloc (.cells #[.int .i64 1, .int .i64 0, .int .i64 0, .string (nm j), .string ⟨#[]⟩, .slice none 0 0] 72)
  have hr6 : ExRow (w6.alloc (.cells #[.int .i64 1, .int .i64 0, .int .i64 0, .string (nm j), .string ⟨#[]⟩, .slice none 0 0] 72)) (some ⟨w6.heap.size, 0, none⟩) 1 1 [1] := row_made ((exNew_leaf w6 0 1 0 0 (nm j) ⟨#[]⟩ (by omega) (by omega) (hnm j hjr) (by decide)).le (by omega))
  have hh6 := limb_grew (HB6.out.cx.ctx.alloc (.cells #[.int .i64 1, .int .i64 0, .int .i64 0, .string (nm j), .string ⟨#[]⟩, .slice none 0 0] 72)) (by omega) hMT (by omega) hbT HH6.out
  rw [hW6.out] at ha6 hr6 hh6 ⊢
  have HB7 := Lib.hid ha6
  have HR6 := Lib.hid hr6
  have HH7 := Lib.hid hh6
  clear ha6 hr6 hh6
  refine hK.out _ _ HH7.out (fun hHeld => ?_)
  clear hK K
  (try simp only [Act.put, zA, zB, zC, zD, zE, zF])
  refine wpAnyH_take (i := 18) (v := ?_) rfl (by kernel_rfl) (by kernel_rfl) (by kernel_rfl) (fun _ _ _ h => h) (Or.inl ⟨by rfl, ?_⟩) (by assumption) ?_
  rotate_left 1
  ·intro w hSw
   (try dsimp only at hSw)
   (go_simp) <;> (with_reducible rfl)
  (try simp only [Act.put, zA, zB, zC, zD, zE, zF])
  refine wpAnyH_ready (rs := [19]) (by kernel_rfl) (by simp) (AllReadyH.cons rfl (fun K hK => ?_) AllReadyH.nil)
  have x7 := HB7.out.cell 7 (.slice none 0 0) rfl
  have f7 := HB7.out.frozen 7
  have hs7 : As lo B ⟨M, T, f, funcs, count, left, P, some ⟨b, 0, none⟩, Q, R, pl, pc, sl, sc, ql, qc, rl, rc, A, len, cap⟩ w w.heap.size (w.heap.size + 1) (#[.int .i64 2, .int .i64 0, .int .i64 0, .string ⟨#[]⟩, .string ⟨#[]⟩, .int .i64 0, .int .i64 0, .slice (some ⟨w6.heap.size, 0, none⟩) 1 1, .string ⟨#[]⟩, .int .i64 0, .slice none 0 0, .slice none 0 0, .slice none 0 0]) (W6.setCell ⟨(w.heap.size + 1), 7, none⟩ (.slice (some ⟨w6.heap.size, 0, none⟩) 1 1)) := HB7.out.set 7 (.slice (some ⟨w6.heap.size, 0, none⟩) 1 1)
  have hr7 := HR6.out.keep (HB7.out.keptS 7 (.slice (some ⟨w6.heap.size, 0, none⟩) 1 1))
  obtain ⟨U7, hU7⟩ : ∃ U, Hid (W6.setCell ⟨(w.heap.size + 1), 7, none⟩ (.slice (some ⟨w6.heap.size, 0, none⟩) 1 1) = U) := ⟨_, Lib.hid rfl⟩
  have hh7 := limb_setX 7 (.slice (some ⟨w6.heap.size, 0, none⟩) 1 1) hMX hbX HH7.out
  rw [hU7.out] at hs7 hr7 hh7
  have HA7 := Lib.hid hs7
  have HR7 := Lib.hid hr7
  go_simp
  rw [hU7.out]
  refine hK.out _ _ hh7 (fun hHeld => ?_)
  clear hK K hs7 hr7 hh7 x7 f7 hHeld
  refine wpAnyH_done (by kernel_rfl) ?_ _
  go_wp2_with fail
  refine (expr_any ⟨M, T, f, funcs, count, left, P, some ⟨b, 0, none⟩, Q, R, pl, pc, sl, sc, ql, qc, rl, rc, A, len, cap⟩ U7 0 (by omega) HA7.out.cx.ctx).mono ?_
  rintro e w8 ⟨v, n, rfl, hex, hn, hg⟩
  obtain ⟨op1, num, vr, nm1, fld, A', len', cap', rfl⟩ := hex.shape
  dsimp only at hg
  have hsg_w8 := hg.size
  have HA8 := Lib.hid (HA7.out.grew hg)
  have HR1 := Lib.hid (HR7.out.keep (HA7.out.keptG hg))
  obtain ⟨W9, hW9⟩ : ∃ W, Hid (w8.alloc (.cells #[.int .i64 op1, .int .i64 num, .int .i64 vr, .string nm1, .string fld, .slice A' len' cap'] 72) = W) := ⟨_, Lib.hid rfl⟩
  have x10 : ∀ o, (w8.alloc o).cell? ⟨(w.heap.size + 1), 10, none⟩ = some (.slice none 0 0) := fun o => (HA8.out.alloc o).cell 10 _ rfl
  have f10 : ∀ o, (w8.alloc o).frozen? ⟨(w.heap.size + 1), 10, none⟩ = false := fun o => (HA8.out.alloc o).frozen 10
  have ha := HA8.out.alloc (.cells #[.int .i64 op1, .int .i64 num, .int .i64 vr, .string nm1, .string fld, .slice A' len' cap'] 72)
  have hr := row_made hex
  rw [hW9.out] at ha hr
  obtain ⟨U9, hU9⟩ : ∃ U, Hid (W9.setCell ⟨(w.heap.size + 1), 10, none⟩ (.slice (some ⟨w8.heap.size, 0, none⟩) 1 1) = U) := ⟨_, Lib.hid rfl⟩
  have hs : As lo B ⟨M, T, f, funcs, count, left, P, some ⟨b, 0, none⟩, Q, R, pl, pc, sl, sc, ql, qc, rl, rc, A, len, cap⟩ w w.heap.size (w.heap.size + 1) (#[.int .i64 2, .int .i64 0, .int .i64 0, .string ⟨#[]⟩, .string ⟨#[]⟩, .int .i64 0, .int .i64 0, .slice (some ⟨w6.heap.size, 0, none⟩) 1 1, .string ⟨#[]⟩, .int .i64 0, .slice (some ⟨w8.heap.size, 0, none⟩) 1 1, .slice none 0 0, .slice none 0 0]) (W9.setCell ⟨(w.heap.size + 1), 10, none⟩ (.slice (some ⟨w8.heap.size, 0, none⟩) 1 1)) := ha.set 10 (.slice (some ⟨w8.heap.size, 0, none⟩) 1 1)
  have hk := ha.keptS 10 (.slice (some ⟨w8.heap.size, 0, none⟩) 1 1)
  have hr := hr.keep hk
  rw [hU9.out] at hs hr hk
  have HA9 := Lib.hid hs
  have HR2 := Lib.hid hr
  have HK10 : Hid (KeptE w8 U9) := Lib.hid (KeptE.trans (show KeptE w8 W9 by rw [← hW9.out]; exact (KeptX.below ((Below.refl _ _).alloc (Nat.le_refl _) _)).e) hk)
  obtain ⟨n2, hn2⟩ : ∃ k, n = k := ⟨_, rfl⟩
  rw [hn2] at hn HR2
  clear ha hr hs hk hex hg hn2
  have HR1 := Lib.hid (HR1.out.keep HK10.out)
  go_wp2_with (first | ((with_reducible show wpList _ _ _ (Oper.mk _ (Op.load 75 _) _ _ _ none :: _) _ _); rw [hW9.out, hU9.out]; refine load_stmt rfl _ rfl (w.heap.size + 1) _ rfl HA9.out.x rfl ?_) | ((with_reducible show wpList _ _ _ (Oper.mk none (Op.store 75 _ _) _ _ _ none :: _) _ _); refine store_stmt rfl rfl _ _ rfl w.heap.size _ (asCells 2 ⟨#[]⟩ (some ⟨w6.heap.size, 0, none⟩) 1 1 (some ⟨w8.heap.size, 0, none⟩) 1 1) rfl rfl HA9.out.n rfl rfl (asCells_one _ _ _ _ _ _ _ _) ?_; intro U2 hU2))
  (try simp only [Exit.inBlock, Exit.then])
  have hld := ret_stmt hU2.at_ rfl
  refine bodyPost_ret (v := .agg (asCells 2 ⟨#[]⟩ (some ⟨w6.heap.size, 0, none⟩) 1 1 (some ⟨w8.heap.size, 0, none⟩) 1 1)) (by simp [results, Tryd.results47, Act.put, asAddr, Result.andThen, hld]) rfl ?_
  unfold AssignMade
  exact ⟨2, ⟨#[]⟩, (some ⟨w6.heap.size, 0, none⟩), 1, 1, (some ⟨w8.heap.size, 0, none⟩), 1, 1, [1], [n2], rfl, ⟨by omega, by omega, .inr (.inl rfl)⟩, by decide, HR1.out.keep (hU2.keptE HA9.out.n), HR2.out.keep (hU2.keptE HA9.out.n), (by simp; omega), HA9.out.cx.set HA9.out.n (by decide) hU2 HA9.out.lo0, HA9.out.went.set hU2 (Nat.le_refl _)⟩
 ·
  go_wp2_with ((with_reducible show wpList _ _ _ (Oper.mk none (Op.store 75 _ _) _ _ _ none :: _) _ _); refine store_stmt rfl rfl _ _ rfl (w.heap.size + 1) _ (#[.int .i64 2, .int .i64 0, .int .i64 0, .string ⟨#[]⟩, .string ⟨#[]⟩, .int .i64 0, .int .i64 0, .slice none 0 0, .string ⟨#[]⟩, .int .i64 0, .slice none 0 0, .slice none 0 0, .slice none 0 0]) rfl rfl HA2.out.x rfl rfl (asCells_one 2 ⟨#[]⟩ none 0 0 none 0 0) ?_; intro U hU; have HU := Lib.hid (HA2.out.setB hU); have hsU := Nat.le_of_eq hU.size.symm; clear hU; have e0 := HU.out.cx.maker.cell 0 (.pointer (some ⟨T, 0, none⟩)) rfl; dsimp only at e0; have e4 := HU.out.cx.maker.cell 4 (.slice S sl sc) rfl; dsimp only at e4; have e5 := HU.out.cx.maker.cell 5 (.slice Q ql qc) rfl; dsimp only at e5; have e6 := HU.out.cx.maker.cell 6 (.slice R rl rc) rfl; dsimp only at e6; skip)
  refine (expr_any ⟨M, T, f, funcs, count, left, P, S, Q, R, pl, pc, sl, sc, ql, qc, rl, rc, A, len, cap⟩ U 0 (by omega) HU.out.cx.ctx).mono ?_
  rintro e w4 ⟨v, n, rfl, hex, hn, hg⟩
  obtain ⟨op1, num, vr, nm1, fld, A', len', cap', rfl⟩ := hex.shape
  dsimp only at hg
  have hsg_w4 := hg.size
  have HA4 := Lib.hid (HU.out.grew hg)
  have HEX := Lib.hid (row_made hex)
  have hn4 : ∀ o, (w4.alloc o).heap[w.heap.size]? = some (.cells zCells 75 (0, 0)) := fun o => (HA4.out.alloc o).n
  clear hex hg
  go_wp2_with ((with_reducible show wpList _ _ _ (Oper.mk none (Op.store 75 _ _) _ _ _ none :: _) _ _); refine store_stmt rfl rfl _ _ rfl w.heap.size _ (asCells 9 ⟨#[]⟩ none 0 0 (some ⟨w4.heap.size, 0, none⟩) 1 1) rfl rfl (hn4 _) rfl rfl (asCells_one _ _ _ _ _ _ _ _) ?_; intro U2 hU2)
  (try simp only [Exit.inBlock, Exit.then])
  have hld := ret_stmt hU2.at_ rfl
  refine bodyPost_ret (v := .agg (asCells 9 ⟨#[]⟩ none 0 0 (some ⟨w4.heap.size, 0, none⟩) 1 1)) (by simp [results, Tryd.results47, Act.put, asAddr, Result.andThen, hld]) rfl ?_
  unfold AssignMade
  exact ⟨9, ⟨#[]⟩, none, 0, 0, some ⟨w4.heap.size, 0, none⟩, 1, 1, [], [n], rfl, ⟨by omega, by omega, .inl rfl⟩, by decide, ExRow.nil _, HEX.out.keep (hU2.keptE (hn4 _)), by simp; omega, (HA4.out.alloc _).cx.set (hn4 _) (by decide) hU2 HA4.out.lo0, (HA4.out.alloc _).went.set hU2 (Nat.le_refl _)⟩
 ·
  go_wp2_with ((with_reducible show wpList _ _ _ (Oper.mk none (Op.store 75 _ _) _ _ _ none :: _) _ _); refine store_stmt rfl rfl _ _ rfl (w.heap.size + 1) _ (#[.int .i64 2, .int .i64 0, .int .i64 0, .string ⟨#[]⟩, .string ⟨#[]⟩, .int .i64 0, .int .i64 0, .slice none 0 0, .string ⟨#[]⟩, .int .i64 0, .slice none 0 0, .slice none 0 0, .slice none 0 0]) rfl rfl HA2.out.x rfl rfl (asCells_one 2 ⟨#[]⟩ none 0 0 none 0 0) ?_; intro U hU; have HU := Lib.hid (HA2.out.setB hU); have hsU := Nat.le_of_eq hU.size.symm; clear hU; have e0 := HU.out.cx.maker.cell 0 (.pointer (some ⟨T, 0, none⟩)) rfl; dsimp only at e0; have e4 := HU.out.cx.maker.cell 4 (.slice S sl sc) rfl; dsimp only at e4; have e5 := HU.out.cx.maker.cell 5 (.slice Q ql qc) rfl; dsimp only at e5; have e6 := HU.out.cx.maker.cell 6 (.slice R rl rc) rfl; dsimp only at e6; skip)
  obtain ⟨b, nm, eb, hb, hbT, hbX, hbN, hl1, hl2', hl3, hnm, hnames⟩ := HU.out.names HU.out.cx.ctx.s ⟨_, rfl⟩ hl
  dsimp only at eb hb hbT hbX hbN hl1 hl2' hl3 hnm hnames
  subst eb
  have hpos : (1 : Int) ≤ (sl : Int) := by omega
  have hlt : (sl : Int) < 1000000 := by omega
  have hMw : M < U.heap.size := by omega
  have HL := Lib.hid hnames
  obtain ⟨p1, ht1⟩ := HU.out.drew.cx.tape
  have HT1 := Lib.hid ht1
  have HD := Lib.hid HU.out.drew
  have hsd : U.drew.heap.size = U.heap.size := rfl
  clear hnames ht1
  refine wp_region_held_drew (S := fun w' => w'.cell? ⟨M, 0, none⟩ = some (.pointer (some ⟨T, 0, none⟩)) ∧ w'.cell? ⟨M, 4, none⟩ = some (.slice (some ⟨b, 0, none⟩) sl sc) ∧ ∀ j, j < sl → w'.cell? ⟨b, j, none⟩ = some (.string (nm j))) (by kernel_rfl) ⟨e0, e4, HL.out⟩ (fun hHeld => ?_)
  refine wpAnyH_take (i := 0) (v := ?_) rfl (by kernel_rfl) (by kernel_rfl) (by kernel_rfl) (fun _ _ _ h => h) (Or.inl ⟨by rfl, ?_⟩) (by assumption) ?_
  rotate_left 1
  ·intro w hSw
   (try dsimp only at hSw)
   (go_simp) <;> (with_reducible rfl)
  (try simp only [Act.put, zA, zB, zC, zD, zE, zF])
  refine wpAnyH_take (i := 1) (v := ?_) rfl (by kernel_rfl) (by kernel_rfl) (by kernel_rfl) (fun _ _ _ h => h) (Or.inl ⟨by rfl, ?_⟩) (by assumption) ?_
  rotate_left 1
  ·intro w hSw
   (try dsimp only at hSw)
   (go_simp) <;> (with_reducible rfl)
  (try simp only [Act.put, zA, zB, zC, zD, zE, zF])
  refine wpAnyH_take (i := 2) (v := ?_) rfl (by kernel_rfl) (by kernel_rfl) (by kernel_rfl) (fun _ _ _ h => h) (Or.inl ⟨by rfl, ?_⟩) (by assumption) ?_
  rotate_left 1
  ·intro w hSw
   (try dsimp only at hSw)
   (go_simp) <;> (with_reducible rfl)
  (try simp only [Act.put, zA, zB, zC, zD, zE, zF])
  refine wpAnyH_take (i := 3) (v := ?_) rfl (by kernel_rfl) (by kernel_rfl) (by kernel_rfl) (fun _ _ _ h => h) (Or.inl ⟨by rfl, ?_⟩) (by assumption) ?_
  rotate_left 1
  ·intro w hSw
   (try dsimp only at hSw)
   (go_simp) <;> (with_reducible rfl)
  (try simp only [Act.put, zA, zB, zC, zD, zE, zF])
  refine wpAnyH_take (i := 4) (v := ?_) rfl (by kernel_rfl) (by kernel_rfl) (by kernel_rfl) (fun _ _ _ h => h) (Or.inl ⟨by rfl, ?_⟩) (by assumption) ?_
  rotate_left 1
  ·intro w hSw
   (try dsimp only at hSw)
   (go_simp) <;> (with_reducible rfl)
  (try simp only [Act.put, zA, zB, zC, zD, zE, zF])
  refine wpAnyH_take (i := 5) (v := ?_) rfl (by kernel_rfl) (by kernel_rfl) (by kernel_rfl) (fun _ _ _ h => h) (Or.inl ⟨by rfl, ?_⟩) (by assumption) ?_
  rotate_left 1
  ·intro w hSw
   (try dsimp only at hSw)
   (go_simp) <;> (with_reducible rfl)
  (try simp only [Act.put, zA, zB, zC, zD, zE, zF])
  refine wpAnyH_take (i := 6) (v := ?_) rfl (by kernel_rfl) (by kernel_rfl) (by kernel_rfl) (fun _ _ _ h => h) (Or.inl ⟨by rfl, ?_⟩) (by assumption) ?_
  rotate_left 1
  ·intro w hSw
   (try dsimp only at hSw)
   (go_simp) <;> (with_reducible rfl)
  (try simp only [Act.put, zA, zB, zC, zD, zE, zF])
  refine wpAnyH_take (i := 7) (v := ?_) rfl (by kernel_rfl) (by kernel_rfl) (by kernel_rfl) (fun _ _ _ h => h) (Or.inl ⟨by rfl, ?_⟩) (by assumption) ?_
  rotate_left 1
  ·intro w hSw
   (try dsimp only at hSw)
   (go_simp) <;> (with_reducible rfl)
  (try simp only [Act.put, zA, zB, zC, zD, zE, zF])
  refine wpAnyH_take (i := 8) (v := ?_) rfl (by kernel_rfl) (by kernel_rfl) (by kernel_rfl) (fun _ _ _ h => h) (Or.inl ⟨by rfl, ?_⟩) (by assumption) ?_
  rotate_left 1
  ·intro w hSw
   (try dsimp only at hSw)
   (go_simp) <;> (with_reducible rfl)
  (try simp only [Act.put, zA, zB, zC, zD, zE, zF])
  refine wpAnyH_take (i := 9) (v := ?_) rfl (by kernel_rfl) (by kernel_rfl) (by kernel_rfl) (fun _ _ _ h => h) (Or.inl ⟨by rfl, ?_⟩) (by assumption) ?_
  rotate_left 1
  ·intro w hSw
   (try dsimp only at hSw)
   (go_simp) <;> (with_reducible rfl)
  (try simp only [Act.put, zA, zB, zC, zD, zE, zF])
  refine wpAnyH_take (i := 10) (v := ?_) rfl (by kernel_rfl) (by kernel_rfl) (by kernel_rfl) (fun _ _ _ h => h) (Or.inl ⟨by rfl, ?_⟩) (by assumption) ?_
  rotate_left 1
  ·intro w hSw
   (try dsimp only at hSw)
   (go_simp) <;> (with_reducible rfl)
  (try simp only [Act.put, zA, zB, zC, zD, zE, zF])
  refine wpAnyH_take (i := 11) (v := ?_) rfl (by kernel_rfl) (by kernel_rfl) (by kernel_rfl) (fun _ _ _ h => h) (Or.inl ⟨by rfl, ?_⟩) (by assumption) ?_
  rotate_left 1
  ·intro w hSw
   (try dsimp only at hSw)
   (go_simp) <;> (with_reducible rfl)
  (try simp only [Act.put, zA, zB, zC, zD, zE, zF])
  refine wpAnyH_take (i := 12) (v := ?_) rfl (by kernel_rfl) (by kernel_rfl) (by kernel_rfl) (fun _ _ _ h => h) (Or.inl ⟨by rfl, ?_⟩) (by assumption) ?_
  rotate_left 1
  ·intro w hSw
   (try dsimp only at hSw)
   (go_simp) <;> (with_reducible rfl)
  (try simp only [Act.put, zA, zB, zC, zD, zE, zF])
  refine wpAnyH_ready (rs := [13]) (by kernel_rfl) (by simp) (AllReadyH.cons rfl (fun K hK => ?_) AllReadyH.nil)
  go_simp
  refine (next_any _ T A len cap p1 HT1.out sl hpos hlt).mono ?_
  rintro e w5 ⟨j', jt, rfl, j0, j1, hm5⟩
  obtain ⟨j, rfl⟩ : ∃ i : Nat, j' = (i : Int) := ⟨j'.toNat, by omega⟩
  have hs5 := Nat.le_of_eq hm5.size.symm
  have HB5 := Lib.hid (HD.out.grew hm5.grew)
  have hjr : j < sl := by omega
  have HH5 := Lib.hid (limb_grew hm5.grew hMw hMT hb hbT hHeld)
  have hb5 : b < w5.heap.size := by omega
  refine hK.out _ _ HH5.out (fun hHeld => ?_)
  clear hK K hm5
  (try simp only [Act.put, zA, zB, zC, zD, zE, zF])
  refine wpAnyH_take (i := 14) (v := ?_) rfl (by kernel_rfl) (by kernel_rfl) (by kernel_rfl) (fun _ _ _ h => h) (Or.inl ⟨by rfl, ?_⟩) (by assumption) ?_
  rotate_left 1
  ·intro w hSw
   (try dsimp only at hSw)
   (go_simp) <;> (with_reducible rfl)
  (try simp only [Act.put, zA, zB, zC, zD, zE, zF])
  refine wpAnyH_take (i := 15) (v := ?_) rfl (by kernel_rfl) (by kernel_rfl) (by kernel_rfl) (fun _ _ _ h => h) (Or.inl ⟨by rfl, ?_⟩) (by assumption) ?_
  rotate_left 1
  ·intro w hSw
   (try dsimp only at hSw)
   (go_simp) <;> (with_reducible rfl)
  (try simp only [Act.put, zA, zB, zC, zD, zE, zF])
  refine wpAnyH_ready (rs := [16]) (by kernel_rfl) (by simp) (AllReadyH.cons rfl (fun K hK => ?_) AllReadyH.nil)
  go_simp
  refine (variable_any w5 (nm j)).mono ?_
  rintro e w6 ⟨rfl, hb6⟩
  have hg6 := HB5.out.cx.ctx.below hb6
  dsimp only at hg6
  have hs6 := hg6.size
  have HB6 := Lib.hid (HB5.out.below hb6)
  have HH6 := Lib.hid (limb_grew hg6 (by omega) hMT hb5 hbT HH5.out)
  clear hg6 hb6
  refine hK.out _ _ HH6.out (fun hHeld => ?_)
  clear hK K
  (try simp only [Act.put, zA, zB, zC, zD, zE, zF])
  refine wpAnyH_ready (rs := [17]) (by kernel_rfl) (by simp) (AllReadyH.cons rfl (fun K hK => ?_) AllReadyH.nil)
  go_simp
  obtain ⟨W6, hW6⟩ : ∃ W, Hid (w6.alloc (.cells #[.int .i64 1, .int .i64 0, .int .i64 0, .string (nm j), .string ⟨#[]⟩, .slice none 0 0] 72) = W) := ⟨_, Lib.hid rfl⟩
  have ha6 := HB6.out.alloc (.cells #[.int .i64 1, .int .i64 0, .int .i64 0, .string (nm j), .string ⟨#[]⟩, .slice none 0 0] 72)
  have hr6 : ExRow (w6.alloc (.cells #[.int .i64 1, .int .i64 0, .int .i64 0, .string (nm j), .string ⟨#[]⟩, .slice none 0 0] 72)) (some ⟨w6.heap.size, 0, none⟩) 1 1 [1] := row_made ((exNew_leaf w6 0 1 0 0 (nm j) ⟨#[]⟩ (by omega) (by omega) (hnm j hjr) (by decide)).le (by omega))
  have hh6 := limb_grew (HB6.out.cx.ctx.alloc (.cells #[.int .i64 1, .int .i64 0, .int .i64 0, .string (nm j), .string ⟨#[]⟩, .slice none 0 0] 72)) (by omega) hMT (by omega) hbT HH6.out
  rw [hW6.out] at ha6 hr6 hh6 ⊢
  have HB7 := Lib.hid ha6
  have HR6 := Lib.hid hr6
  have HH7 := Lib.hid hh6
  clear ha6 hr6 hh6
  refine hK.out _ _ HH7.out (fun hHeld => ?_)
  clear hK K
  (try simp only [Act.put, zA, zB, zC, zD, zE, zF])
  refine wpAnyH_take (i := 18) (v := ?_) rfl (by kernel_rfl) (by kernel_rfl) (by kernel_rfl) (fun _ _ _ h => h) (Or.inl ⟨by rfl, ?_⟩) (by assumption) ?_
  rotate_left 1
  ·intro w hSw
   (try dsimp only at hSw)
   (go_simp) <;> (with_reducible rfl)
  (try simp only [Act.put, zA, zB, zC, zD, zE, zF])
  refine wpAnyH_ready (rs := [19]) (by kernel_rfl) (by simp) (AllReadyH.cons rfl (fun K hK => ?_) AllReadyH.nil)
  have x7 := HB7.out.cell 7 (.slice none 0 0) rfl
  have f7 := HB7.out.frozen 7
  have hs7 : As lo B ⟨M, T, f, funcs, count, left, P, some ⟨b, 0, none⟩, Q, R, pl, pc, sl, sc, ql, qc, rl, rc, A, len, cap⟩ w w.heap.size (w.heap.size + 1) (#[.int .i64 2, .int .i64 0, .int .i64 0, .string ⟨#[]⟩, .string ⟨#[]⟩, .int .i64 0, .int .i64 0, .slice (some ⟨w6.heap.size, 0, none⟩) 1 1, .string ⟨#[]⟩, .int .i64 0, .slice none 0 0, .slice none 0 0, .slice none 0 0]) (W6.setCell ⟨(w.heap.size + 1), 7, none⟩ (.slice (some ⟨w6.heap.size, 0, none⟩) 1 1)) := HB7.out.set 7 (.slice (some ⟨w6.heap.size, 0, none⟩) 1 1)
  have hr7 := HR6.out.keep (HB7.out.keptS 7 (.slice (some ⟨w6.heap.size, 0, none⟩) 1 1))
  obtain ⟨U7, hU7⟩ : ∃ U, Hid (W6.setCell ⟨(w.heap.size + 1), 7, none⟩ (.slice (some ⟨w6.heap.size, 0, none⟩) 1 1) = U) := ⟨_, Lib.hid rfl⟩
  have hh7 := limb_setX 7 (.slice (some ⟨w6.heap.size, 0, none⟩) 1 1) hMX hbX HH7.out
  rw [hU7.out] at hs7 hr7 hh7
  have HA7 := Lib.hid hs7
  have HR7 := Lib.hid hr7
  go_simp
  rw [hU7.out]
  refine hK.out _ _ hh7 (fun hHeld => ?_)
  clear hK K hs7 hr7 hh7 x7 f7 hHeld
  refine wpAnyH_done (by kernel_rfl) ?_ _
  go_wp2_with fail
  refine (expr_any ⟨M, T, f, funcs, count, left, P, some ⟨b, 0, none⟩, Q, R, pl, pc, sl, sc, ql, qc, rl, rc, A, len, cap⟩ U7 0 (by omega) HA7.out.cx.ctx).mono ?_
  rintro e w8 ⟨v, n, rfl, hex, hn, hg⟩
  obtain ⟨op1, num, vr, nm1, fld, A', len', cap', rfl⟩ := hex.shape
  dsimp only at hg
  have hsg_w8 := hg.size
  have HA8 := Lib.hid (HA7.out.grew hg)
  have HR1 := Lib.hid (HR7.out.keep (HA7.out.keptG hg))
  obtain ⟨W9, hW9⟩ : ∃ W, Hid (w8.alloc (.cells #[.int .i64 op1, .int .i64 num, .int .i64 vr, .string nm1, .string fld, .slice A' len' cap'] 72) = W) := ⟨_, Lib.hid rfl⟩
  have x10 : ∀ o, (w8.alloc o).cell? ⟨(w.heap.size + 1), 10, none⟩ = some (.slice none 0 0) := fun o => (HA8.out.alloc o).cell 10 _ rfl
  have f10 : ∀ o, (w8.alloc o).frozen? ⟨(w.heap.size + 1), 10, none⟩ = false := fun o => (HA8.out.alloc o).frozen 10
  have ha := HA8.out.alloc (.cells #[.int .i64 op1, .int .i64 num, .int .i64 vr, .string nm1, .string fld, .slice A' len' cap'] 72)
  have hr := row_made hex
  rw [hW9.out] at ha hr
  obtain ⟨U9, hU9⟩ : ∃ U, Hid (W9.setCell ⟨(w.heap.size + 1), 10, none⟩ (.slice (some ⟨w8.heap.size, 0, none⟩) 1 1) = U) := ⟨_, Lib.hid rfl⟩
  have hs : As lo B ⟨M, T, f, funcs, count, left, P, some ⟨b, 0, none⟩, Q, R, pl, pc, sl, sc, ql, qc, rl, rc, A, len, cap⟩ w w.heap.size (w.heap.size + 1) (#[.int .i64 2, .int .i64 0, .int .i64 0, .string ⟨#[]⟩, .string ⟨#[]⟩, .int .i64 0, .int .i64 0, .slice (some ⟨w6.heap.size, 0, none⟩) 1 1, .string ⟨#[]⟩, .int .i64 0, .slice (some ⟨w8.heap.size, 0, none⟩) 1 1, .slice none 0 0, .slice none 0 0]) (W9.setCell ⟨(w.heap.size + 1), 10, none⟩ (.slice (some ⟨w8.heap.size, 0, none⟩) 1 1)) := ha.set 10 (.slice (some ⟨w8.heap.size, 0, none⟩) 1 1)
  have hk := ha.keptS 10 (.slice (some ⟨w8.heap.size, 0, none⟩) 1 1)
  have hr := hr.keep hk
  rw [hU9.out] at hs hr hk
  have HA9 := Lib.hid hs
  have HR2 := Lib.hid hr
  have HK10 : Hid (KeptE w8 U9) := Lib.hid (KeptE.trans (show KeptE w8 W9 by rw [← hW9.out]; exact (KeptX.below ((Below.refl _ _).alloc (Nat.le_refl _) _)).e) hk)
  obtain ⟨n2, hn2⟩ : ∃ k, n = k := ⟨_, rfl⟩
  rw [hn2] at hn HR2
  clear ha hr hs hk hex hg hn2
  have HR1 := Lib.hid (HR1.out.keep HK10.out)
  go_wp2_with (first | ((with_reducible show wpList _ _ _ (Oper.mk _ (Op.load 75 _) _ _ _ none :: _) _ _); rw [hW9.out, hU9.out]; refine load_stmt rfl _ rfl (w.heap.size + 1) _ rfl HA9.out.x rfl ?_) | ((with_reducible show wpList _ _ _ (Oper.mk none (Op.store 75 _ _) _ _ _ none :: _) _ _); refine store_stmt rfl rfl _ _ rfl w.heap.size _ (asCells 2 ⟨#[]⟩ (some ⟨w6.heap.size, 0, none⟩) 1 1 (some ⟨w8.heap.size, 0, none⟩) 1 1) rfl rfl HA9.out.n rfl rfl (asCells_one _ _ _ _ _ _ _ _) ?_; intro U2 hU2))
  (try simp only [Exit.inBlock, Exit.then])
  have hld := ret_stmt hU2.at_ rfl
  refine bodyPost_ret (v := .agg (asCells 2 ⟨#[]⟩ (some ⟨w6.heap.size, 0, none⟩) 1 1 (some ⟨w8.heap.size, 0, none⟩) 1 1)) (by simp [results, Tryd.results47, Act.put, asAddr, Result.andThen, hld]) rfl ?_
  unfold AssignMade
  exact ⟨2, ⟨#[]⟩, (some ⟨w6.heap.size, 0, none⟩), 1, 1, (some ⟨w8.heap.size, 0, none⟩), 1, 1, [1], [n2], rfl, ⟨by omega, by omega, .inr (.inl rfl)⟩, by decide, HR1.out.keep (hU2.keptE HA9.out.n), HR2.out.keep (hU2.keptE HA9.out.n), (by simp; omega), HA9.out.cx.set HA9.out.n (by decide) hU2 HA9.out.lo0, HA9.out.went.set hU2 (Nat.le_refl _)⟩
 ·
  go_wp2_with ((with_reducible show wpList _ _ _ (Oper.mk none (Op.store 75 _ _) _ _ _ none :: _) _ _); refine store_stmt rfl rfl _ _ rfl (w.heap.size + 1) _ (#[.int .i64 2, .int .i64 0, .int .i64 0, .string ⟨#[]⟩, .string ⟨#[]⟩, .int .i64 0, .int .i64 0, .slice none 0 0, .string ⟨#[]⟩, .int .i64 0, .slice none 0 0, .slice none 0 0, .slice none 0 0]) rfl rfl HA2.out.x rfl rfl (asCells_one 2 ⟨#[]⟩ none 0 0 none 0 0) ?_; intro U hU; have HU := Lib.hid (HA2.out.setB hU); have hsU := Nat.le_of_eq hU.size.symm; clear hU; have e0 := HU.out.cx.maker.cell 0 (.pointer (some ⟨T, 0, none⟩)) rfl; dsimp only at e0; have e4 := HU.out.cx.maker.cell 4 (.slice S sl sc) rfl; dsimp only at e4; have e5 := HU.out.cx.maker.cell 5 (.slice Q ql qc) rfl; dsimp only at e5; have e6 := HU.out.cx.maker.cell 6 (.slice R rl rc) rfl; dsimp only at e6; skip)
  refine (expr_any ⟨M, T, f, funcs, count, left, P, S, Q, R, pl, pc, sl, sc, ql, qc, rl, rc, A, len, cap⟩ U 0 (by omega) HU.out.cx.ctx).mono ?_
  rintro e w4 ⟨v, n, rfl, hex, hn, hg⟩
  obtain ⟨op1, num, vr, nm1, fld, A', len', cap', rfl⟩ := hex.shape
  dsimp only at hg
  have hsg_w4 := hg.size
  have HA4 := Lib.hid (HU.out.grew hg)
  have HEX := Lib.hid (row_made hex)
  have hn4 : ∀ o, (w4.alloc o).heap[w.heap.size]? = some (.cells zCells 75 (0, 0)) := fun o => (HA4.out.alloc o).n
  clear hex hg
  go_wp2_with ((with_reducible show wpList _ _ _ (Oper.mk none (Op.store 75 _ _) _ _ _ none :: _) _ _); refine store_stmt rfl rfl _ _ rfl w.heap.size _ (asCells 9 ⟨#[]⟩ none 0 0 (some ⟨w4.heap.size, 0, none⟩) 1 1) rfl rfl (hn4 _) rfl rfl (asCells_one _ _ _ _ _ _ _ _) ?_; intro U2 hU2)
  (try simp only [Exit.inBlock, Exit.then])
  have hld := ret_stmt hU2.at_ rfl
  refine bodyPost_ret (v := .agg (asCells 9 ⟨#[]⟩ none 0 0 (some ⟨w4.heap.size, 0, none⟩) 1 1)) (by simp [results, Tryd.results47, Act.put, asAddr, Result.andThen, hld]) rfl ?_
  unfold AssignMade
  exact ⟨9, ⟨#[]⟩, none, 0, 0, some ⟨w4.heap.size, 0, none⟩, 1, 1, [], [n], rfl, ⟨by omega, by omega, .inl rfl⟩, by decide, ExRow.nil _, HEX.out.keep (hU2.keptE (hn4 _)), by simp; omega, (HA4.out.alloc _).cx.set (hn4 _) (by decide) hU2 HA4.out.lo0, (HA4.out.alloc _).went.set hU2 (Nat.le_refl _)⟩
 ·
  go_wp2_with ((with_reducible show wpList _ _ _ (Oper.mk none (Op.store 75 _ _) _ _ _ none :: _) _ _); refine store_stmt rfl rfl _ _ rfl (w.heap.size + 1) _ (#[.int .i64 2, .int .i64 0, .int .i64 0, .string ⟨#[]⟩, .string ⟨#[]⟩, .int .i64 0, .int .i64 0, .slice none 0 0, .string ⟨#[]⟩, .int .i64 0, .slice none 0 0, .slice none 0 0, .slice none 0 0]) rfl rfl HA2.out.x rfl rfl (asCells_one 2 ⟨#[]⟩ none 0 0 none 0 0) ?_; intro U hU; have HU := Lib.hid (HA2.out.setB hU); have hsU := Nat.le_of_eq hU.size.symm; clear hU; have e0 := HU.out.cx.maker.cell 0 (.pointer (some ⟨T, 0, none⟩)) rfl; dsimp only at e0; have e4 := HU.out.cx.maker.cell 4 (.slice S sl sc) rfl; dsimp only at e4; have e5 := HU.out.cx.maker.cell 5 (.slice Q ql qc) rfl; dsimp only at e5; have e6 := HU.out.cx.maker.cell 6 (.slice R rl rc) rfl; dsimp only at e6; skip)
  obtain ⟨b, nm, eb, hb, hbT, hbX, hbN, hl1, hl2', hl3, hnm, hnames⟩ := HU.out.names HU.out.cx.ctx.s ⟨_, rfl⟩ hl
  dsimp only at eb hb hbT hbX hbN hl1 hl2' hl3 hnm hnames
  subst eb
  have hpos : (1 : Int) ≤ (sl : Int) := by omega
  have hlt : (sl : Int) < 1000000 := by omega
  have hMw : M < U.heap.size := by omega
  have HL := Lib.hid hnames
  obtain ⟨p1, ht1⟩ := HU.out.drew.cx.tape
  have HT1 := Lib.hid ht1
  have HD := Lib.hid HU.out.drew
  have hsd : U.drew.heap.size = U.heap.size := rfl
  clear hnames ht1
  refine wp_region_held_drew (S := fun w' => w'.cell? ⟨M, 0, none⟩ = some (.pointer (some ⟨T, 0, none⟩)) ∧ w'.cell? ⟨M, 4, none⟩ = some (.slice (some ⟨b, 0, none⟩) sl sc) ∧ ∀ j, j < sl → w'.cell? ⟨b, j, none⟩ = some (.string (nm j))) (by kernel_rfl) ⟨e0, e4, HL.out⟩ (fun hHeld => ?_)
  refine wpAnyH_take (i := 0) (v := ?_) rfl (by kernel_rfl) (by kernel_rfl) (by kernel_rfl) (fun _ _ _ h => h) (Or.inl ⟨by rfl, ?_⟩) (by assumption) ?_
  rotate_left 1
  ·intro w hSw
   (try dsimp only at hSw)
   (go_simp) <;> (with_reducible rfl)
  (try simp only [Act.put, zA, zB, zC, zD, zE, zF])
  refine wpAnyH_take (i := 1) (v := ?_) rfl (by kernel_rfl) (by kernel_rfl) (by kernel_rfl) (fun _ _ _ h => h) (Or.inl ⟨by rfl, ?_⟩) (by assumption) ?_
  rotate_left 1
  ·intro w hSw
   (try dsimp only at hSw)
   (go_simp) <;> (with_reducible rfl)
  (try simp only [Act.put, zA, zB, zC, zD, zE, zF])
  refine wpAnyH_take (i := 2) (v := ?_) rfl (by kernel_rfl) (by kernel_rfl) (by kernel_rfl) (fun _ _ _ h => h) (Or.inl ⟨by rfl, ?_⟩) (by assumption) ?_
  rotate_left 1
  ·intro w hSw
   (try dsimp only at hSw)
   (go_simp) <;> (with_reducible rfl)
  (try simp only [Act.put, zA, zB, zC, zD, zE, zF])
  refine wpAnyH_take (i := 3) (v := ?_) rfl (by kernel_rfl) (by kernel_rfl) (by kernel_rfl) (fun _ _ _ h => h) (Or.inl ⟨by rfl, ?_⟩) (by assumption) ?_
  rotate_left 1
  ·intro w hSw
   (try dsimp only at hSw)
   (go_simp) <;> (with_reducible rfl)
  (try simp only [Act.put, zA, zB, zC, zD, zE, zF])
  refine wpAnyH_take (i := 4) (v := ?_) rfl (by kernel_rfl) (by kernel_rfl) (by kernel_rfl) (fun _ _ _ h => h) (Or.inl ⟨by rfl, ?_⟩) (by assumption) ?_
  rotate_left 1
  ·intro w hSw
   (try dsimp only at hSw)
   (go_simp) <;> (with_reducible rfl)
  (try simp only [Act.put, zA, zB, zC, zD, zE, zF])
  refine wpAnyH_take (i := 5) (v := ?_) rfl (by kernel_rfl) (by kernel_rfl) (by kernel_rfl) (fun _ _ _ h => h) (Or.inl ⟨by rfl, ?_⟩) (by assumption) ?_
  rotate_left 1
  ·intro w hSw
   (try dsimp only at hSw)
   (go_simp) <;> (with_reducible rfl)
  (try simp only [Act.put, zA, zB, zC, zD, zE, zF])
  refine wpAnyH_take (i := 6) (v := ?_) rfl (by kernel_rfl) (by kernel_rfl) (by kernel_rfl) (fun _ _ _ h => h) (Or.inl ⟨by rfl, ?_⟩) (by assumption) ?_
  rotate_left 1
  ·intro w hSw
   (try dsimp only at hSw)
   (go_simp) <;> (with_reducible rfl)
  (try simp only [Act.put, zA, zB, zC, zD, zE, zF])
  refine wpAnyH_take (i := 7) (v := ?_) rfl (by kernel_rfl) (by kernel_rfl) (by kernel_rfl) (fun _ _ _ h => h) (Or.inl ⟨by rfl, ?_⟩) (by assumption) ?_
  rotate_left 1
  ·intro w hSw
   (try dsimp only at hSw)
   (go_simp) <;> (with_reducible rfl)
  (try simp only [Act.put, zA, zB, zC, zD, zE, zF])
  refine wpAnyH_take (i := 8) (v := ?_) rfl (by kernel_rfl) (by kernel_rfl) (by kernel_rfl) (fun _ _ _ h => h) (Or.inl ⟨by rfl, ?_⟩) (by assumption) ?_
  rotate_left 1
  ·intro w hSw
   (try dsimp only at hSw)
   (go_simp) <;> (with_reducible rfl)
  (try simp only [Act.put, zA, zB, zC, zD, zE, zF])
  refine wpAnyH_take (i := 9) (v := ?_) rfl (by kernel_rfl) (by kernel_rfl) (by kernel_rfl) (fun _ _ _ h => h) (Or.inl ⟨by rfl, ?_⟩) (by assumption) ?_
  rotate_left 1
  ·intro w hSw
   (try dsimp only at hSw)
   (go_simp) <;> (with_reducible rfl)
  (try simp only [Act.put, zA, zB, zC, zD, zE, zF])
  refine wpAnyH_take (i := 10) (v := ?_) rfl (by kernel_rfl) (by kernel_rfl) (by kernel_rfl) (fun _ _ _ h => h) (Or.inl ⟨by rfl, ?_⟩) (by assumption) ?_
  rotate_left 1
  ·intro w hSw
   (try dsimp only at hSw)
   (go_simp) <;> (with_reducible rfl)
  (try simp only [Act.put, zA, zB, zC, zD, zE, zF])
  refine wpAnyH_take (i := 11) (v := ?_) rfl (by kernel_rfl) (by kernel_rfl) (by kernel_rfl) (fun _ _ _ h => h) (Or.inl ⟨by rfl, ?_⟩) (by assumption) ?_
  rotate_left 1
  ·intro w hSw
   (try dsimp only at hSw)
   (go_simp) <;> (with_reducible rfl)
  (try simp only [Act.put, zA, zB, zC, zD, zE, zF])
  refine wpAnyH_take (i := 12) (v := ?_) rfl (by kernel_rfl) (by kernel_rfl) (by kernel_rfl) (fun _ _ _ h => h) (Or.inl ⟨by rfl, ?_⟩) (by assumption) ?_
  rotate_left 1
  ·intro w hSw
   (try dsimp only at hSw)
   (go_simp) <;> (with_reducible rfl)
  (try simp only [Act.put, zA, zB, zC, zD, zE, zF])
  refine wpAnyH_ready (rs := [13]) (by kernel_rfl) (by simp) (AllReadyH.cons rfl (fun K hK => ?_) AllReadyH.nil)
  go_simp
  refine (next_any _ T A len cap p1 HT1.out sl hpos hlt).mono ?_
  rintro e w5 ⟨j', jt, rfl, j0, j1, hm5⟩
  obtain ⟨j, rfl⟩ : ∃ i : Nat, j' = (i : Int) := ⟨j'.toNat, by omega⟩
  have hs5 := Nat.le_of_eq hm5.size.symm
  have HB5 := Lib.hid (HD.out.grew hm5.grew)
  have hjr : j < sl := by omega
  have HH5 := Lib.hid (limb_grew hm5.grew hMw hMT hb hbT hHeld)
  have hb5 : b < w5.heap.size := by omega
  refine hK.out _ _ HH5.out (fun hHeld => ?_)
  clear hK K hm5
  (try simp only [Act.put, zA, zB, zC, zD, zE, zF])
  refine wpAnyH_take (i := 14) (v := ?_) rfl (by kernel_rfl) (by kernel_rfl) (by kernel_rfl) (fun _ _ _ h => h) (Or.inl ⟨by rfl, ?_⟩) (by assumption) ?_
  rotate_left 1
  ·intro w hSw
   (try dsimp only at hSw)
   (go_simp) <;> (with_reducible rfl)
  (try simp only [Act.put, zA, zB, zC, zD, zE, zF])
  refine wpAnyH_take (i := 15) (v := ?_) rfl (by kernel_rfl) (by kernel_rfl) (by kernel_rfl) (fun _ _ _ h => h) (Or.inl ⟨by rfl, ?_⟩) (by assumption) ?_
  rotate_left 1
  ·intro w hSw
   (try dsimp only at hSw)
   (go_simp) <;> (with_reducible rfl)
  (try simp only [Act.put, zA, zB, zC, zD, zE, zF])
  refine wpAnyH_ready (rs := [16]) (by kernel_rfl) (by simp) (AllReadyH.cons rfl (fun K hK => ?_) AllReadyH.nil)
  go_simp
  refine (variable_any w5 (nm j)).mono ?_
  rintro e w6 ⟨rfl, hb6⟩
  have hg6 := HB5.out.cx.ctx.below hb6
  dsimp only at hg6
  have hs6 := hg6.size
  have HB6 := Lib.hid (HB5.out.below hb6)
  have HH6 := Lib.hid (limb_grew hg6 (by omega) hMT hb5 hbT HH5.out)
  clear hg6 hb6
  refine hK.out _ _ HH6.out (fun hHeld => ?_)
  clear hK K
  (try simp only [Act.put, zA, zB, zC, zD, zE, zF])
  refine wpAnyH_ready (rs := [17]) (by kernel_rfl) (by simp) (AllReadyH.cons rfl (fun K hK => ?_) AllReadyH.nil)
  go_simp
  obtain ⟨W6, hW6⟩ : ∃ W, Hid (w6.alloc (.cells #[.int .i64 1, .int .i64 0, .int .i64 0, .string (nm j), .string ⟨#[]⟩, .slice none 0 0] 72) = W) := ⟨_, Lib.hid rfl⟩
  have ha6 := HB6.out.alloc (.cells #[.int .i64 1, .int .i64 0, .int .i64 0, .string (nm j), .string ⟨#[]⟩, .slice none 0 0] 72)
  have hr6 : ExRow (w6.alloc (.cells #[.int .i64 1, .int .i64 0, .int .i64 0, .string (nm j), .string ⟨#[]⟩, .slice none 0 0] 72)) (some ⟨w6.heap.size, 0, none⟩) 1 1 [1] := row_made ((exNew_leaf w6 0 1 0 0 (nm j) ⟨#[]⟩ (by omega) (by omega) (hnm j hjr) (by decide)).le (by omega))
  have hh6 := limb_grew (HB6.out.cx.ctx.alloc (.cells #[.int .i64 1, .int .i64 0, .int .i64 0, .string (nm j), .string ⟨#[]⟩, .slice none 0 0] 72)) (by omega) hMT (by omega) hbT HH6.out
  rw [hW6.out] at ha6 hr6 hh6 ⊢
  have HB7 := Lib.hid ha6
  have HR6 := Lib.hid hr6
  have HH7 := Lib.hid hh6
  clear ha6 hr6 hh6
  refine hK.out _ _ HH7.out (fun hHeld => ?_)
  clear hK K
  (try simp only [Act.put, zA, zB, zC, zD, zE, zF])
  refine wpAnyH_take (i := 18) (v := ?_) rfl (by kernel_rfl) (by kernel_rfl) (by kernel_rfl) (fun _ _ _ h => h) (Or.inl ⟨by rfl, ?_⟩) (by assumption) ?_
  rotate_left 1
  ·intro w hSw
   (try dsimp only at hSw)
   (go_simp) <;> (with_reducible rfl)
  (try simp only [Act.put, zA, zB, zC, zD, zE, zF])
  refine wpAnyH_ready (rs := [19]) (by kernel_rfl) (by simp) (AllReadyH.cons rfl (fun K hK => ?_) AllReadyH.nil)
  have x7 := HB7.out.cell 7 (.slice none 0 0) rfl
  have f7 := HB7.out.frozen 7
  have hs7 : As lo B ⟨M, T, f, funcs, count, left, P, some ⟨b, 0, none⟩, Q, R, pl, pc, sl, sc, ql, qc, rl, rc, A, len, cap⟩ w w.heap.size (w.heap.size + 1) (#[.int .i64 2, .int .i64 0, .int .i64 0, .string ⟨#[]⟩, .string ⟨#[]⟩, .int .i64 0, .int .i64 0, .slice (some ⟨w6.heap.size, 0, none⟩) 1 1, .string ⟨#[]⟩, .int .i64 0, .slice none 0 0, .slice none 0 0, .slice none 0 0]) (W6.setCell ⟨(w.heap.size + 1), 7, none⟩ (.slice (some ⟨w6.heap.size, 0, none⟩) 1 1)) := HB7.out.set 7 (.slice (some ⟨w6.heap.size, 0, none⟩) 1 1)
  have hr7 := HR6.out.keep (HB7.out.keptS 7 (.slice (some ⟨w6.heap.size, 0, none⟩) 1 1))
  obtain ⟨U7, hU7⟩ : ∃ U, Hid (W6.setCell ⟨(w.heap.size + 1), 7, none⟩ (.slice (some ⟨w6.heap.size, 0, none⟩) 1 1) = U) := ⟨_, Lib.hid rfl⟩
  have hh7 := limb_setX 7 (.slice (some ⟨w6.heap.size, 0, none⟩) 1 1) hMX hbX HH7.out
  rw [hU7.out] at hs7 hr7 hh7
  have HA7 := Lib.hid hs7
  have HR7 := Lib.hid hr7
  go_simp
  rw [hU7.out]
  refine hK.out _ _ hh7 (fun hHeld => ?_)
  clear hK K hs7 hr7 hh7 x7 f7 hHeld
  refine wpAnyH_done (by kernel_rfl) ?_ _
  go_wp2_with fail
  refine (expr_any ⟨M, T, f, funcs, count, left, P, some ⟨b, 0, none⟩, Q, R, pl, pc, sl, sc, ql, qc, rl, rc, A, len, cap⟩ U7 0 (by omega) HA7.out.cx.ctx).mono ?_
  rintro e w8 ⟨v, n, rfl, hex, hn, hg⟩
  obtain ⟨op1, num, vr, nm1, fld, A', len', cap', rfl⟩ := hex.shape
  dsimp only at hg
  have hsg_w8 := hg.size
  have HA8 := Lib.hid (HA7.out.grew hg)
  have HR1 := Lib.hid (HR7.out.keep (HA7.out.keptG hg))
  obtain ⟨W9, hW9⟩ : ∃ W, Hid (w8.alloc (.cells #[.int .i64 op1, .int .i64 num, .int .i64 vr, .string nm1, .string fld, .slice A' len' cap'] 72) = W) := ⟨_, Lib.hid rfl⟩
  have x10 : ∀ o, (w8.alloc o).cell? ⟨(w.heap.size + 1), 10, none⟩ = some (.slice none 0 0) := fun o => (HA8.out.alloc o).cell 10 _ rfl
  have f10 : ∀ o, (w8.alloc o).frozen? ⟨(w.heap.size + 1), 10, none⟩ = false := fun o => (HA8.out.alloc o).frozen 10
  have ha := HA8.out.alloc (.cells #[.int .i64 op1, .int .i64 num, .int .i64 vr, .string nm1, .string fld, .slice A' len' cap'] 72)
  have hr := row_made hex
  rw [hW9.out] at ha hr
  obtain ⟨U9, hU9⟩ : ∃ U, Hid (W9.setCell ⟨(w.heap.size + 1), 10, none⟩ (.slice (some ⟨w8.heap.size, 0, none⟩) 1 1) = U) := ⟨_, Lib.hid rfl⟩
  have hs : As lo B ⟨M, T, f, funcs, count, left, P, some ⟨b, 0, none⟩, Q, R, pl, pc, sl, sc, ql, qc, rl, rc, A, len, cap⟩ w w.heap.size (w.heap.size + 1) (#[.int .i64 2, .int .i64 0, .int .i64 0, .string ⟨#[]⟩, .string ⟨#[]⟩, .int .i64 0, .int .i64 0, .slice (some ⟨w6.heap.size, 0, none⟩) 1 1, .string ⟨#[]⟩, .int .i64 0, .slice (some ⟨w8.heap.size, 0, none⟩) 1 1, .slice none 0 0, .slice none 0 0]) (W9.setCell ⟨(w.heap.size + 1), 10, none⟩ (.slice (some ⟨w8.heap.size, 0, none⟩) 1 1)) := ha.set 10 (.slice (some ⟨w8.heap.size, 0, none⟩) 1 1)
  have hk := ha.keptS 10 (.slice (some ⟨w8.heap.size, 0, none⟩) 1 1)
  have hr := hr.keep hk
  rw [hU9.out] at hs hr hk
  have HA9 := Lib.hid hs
  have HR2 := Lib.hid hr
  have HK10 : Hid (KeptE w8 U9) := Lib.hid (KeptE.trans (show KeptE w8 W9 by rw [← hW9.out]; exact (KeptX.below ((Below.refl _ _).alloc (Nat.le_refl _) _)).e) hk)
  obtain ⟨n2, hn2⟩ : ∃ k, n = k := ⟨_, rfl⟩
  rw [hn2] at hn HR2
  clear ha hr hs hk hex hg hn2
  have HR1 := Lib.hid (HR1.out.keep HK10.out)
  go_wp2_with (first | ((with_reducible show wpList _ _ _ (Oper.mk _ (Op.load 75 _) _ _ _ none :: _) _ _); rw [hW9.out, hU9.out]; refine load_stmt rfl _ rfl (w.heap.size + 1) _ rfl HA9.out.x rfl ?_) | ((with_reducible show wpList _ _ _ (Oper.mk none (Op.store 75 _ _) _ _ _ none :: _) _ _); refine store_stmt rfl rfl _ _ rfl w.heap.size _ (asCells 2 ⟨#[]⟩ (some ⟨w6.heap.size, 0, none⟩) 1 1 (some ⟨w8.heap.size, 0, none⟩) 1 1) rfl rfl HA9.out.n rfl rfl (asCells_one _ _ _ _ _ _ _ _) ?_; intro U2 hU2))
  (try simp only [Exit.inBlock, Exit.then])
  have hld := ret_stmt hU2.at_ rfl
  refine bodyPost_ret (v := .agg (asCells 2 ⟨#[]⟩ (some ⟨w6.heap.size, 0, none⟩) 1 1 (some ⟨w8.heap.size, 0, none⟩) 1 1)) (by simp [results, Tryd.results47, Act.put, asAddr, Result.andThen, hld]) rfl ?_
  unfold AssignMade
  exact ⟨2, ⟨#[]⟩, (some ⟨w6.heap.size, 0, none⟩), 1, 1, (some ⟨w8.heap.size, 0, none⟩), 1, 1, [1], [n2], rfl, ⟨by omega, by omega, .inr (.inl rfl)⟩, by decide, HR1.out.keep (hU2.keptE HA9.out.n), HR2.out.keep (hU2.keptE HA9.out.n), (by simp; omega), HA9.out.cx.set HA9.out.n (by decide) hU2 HA9.out.lo0, HA9.out.went.set hU2 (Nat.le_refl _)⟩
 ·
  go_wp2_with ((with_reducible show wpList _ _ _ (Oper.mk none (Op.store 75 _ _) _ _ _ none :: _) _ _); refine store_stmt rfl rfl _ _ rfl (w.heap.size + 1) _ (#[.int .i64 2, .int .i64 0, .int .i64 0, .string ⟨#[]⟩, .string ⟨#[]⟩, .int .i64 0, .int .i64 0, .slice none 0 0, .string ⟨#[]⟩, .int .i64 0, .slice none 0 0, .slice none 0 0, .slice none 0 0]) rfl rfl HA2.out.x rfl rfl (asCells_one 2 ⟨#[]⟩ none 0 0 none 0 0) ?_; intro U hU; have HU := Lib.hid (HA2.out.setB hU); have hsU := Nat.le_of_eq hU.size.symm; clear hU; have e0 := HU.out.cx.maker.cell 0 (.pointer (some ⟨T, 0, none⟩)) rfl; dsimp only at e0; have e4 := HU.out.cx.maker.cell 4 (.slice S sl sc) rfl; dsimp only at e4; have e5 := HU.out.cx.maker.cell 5 (.slice Q ql qc) rfl; dsimp only at e5; have e6 := HU.out.cx.maker.cell 6 (.slice R rl rc) rfl; dsimp only at e6; skip)
  refine (expr_any ⟨M, T, f, funcs, count, left, P, S, Q, R, pl, pc, sl, sc, ql, qc, rl, rc, A, len, cap⟩ U 0 (by omega) HU.out.cx.ctx).mono ?_
  rintro e w4 ⟨v, n, rfl, hex, hn, hg⟩
  obtain ⟨op1, num, vr, nm1, fld, A', len', cap', rfl⟩ := hex.shape
  dsimp only at hg
  have hsg_w4 := hg.size
  have HA4 := Lib.hid (HU.out.grew hg)
  have HEX := Lib.hid (row_made hex)
  have hn4 : ∀ o, (w4.alloc o).heap[w.heap.size]? = some (.cells zCells 75 (0, 0)) := fun o => (HA4.out.alloc o).n
  clear hex hg
  go_wp2_with ((with_reducible show wpList _ _ _ (Oper.mk none (Op.store 75 _ _) _ _ _ none :: _) _ _); refine store_stmt rfl rfl _ _ rfl w.heap.size _ (asCells 9 ⟨#[]⟩ none 0 0 (some ⟨w4.heap.size, 0, none⟩) 1 1) rfl rfl (hn4 _) rfl rfl (asCells_one _ _ _ _ _ _ _ _) ?_; intro U2 hU2)
  (try simp only [Exit.inBlock, Exit.then])
  have hld := ret_stmt hU2.at_ rfl
  refine bodyPost_ret (v := .agg (asCells 9 ⟨#[]⟩ none 0 0 (some ⟨w4.heap.size, 0, none⟩) 1 1)) (by simp [results, Tryd.results47, Act.put, asAddr, Result.andThen, hld]) rfl ?_
  unfold AssignMade
  exact ⟨9, ⟨#[]⟩, none, 0, 0, some ⟨w4.heap.size, 0, none⟩, 1, 1, [], [n], rfl, ⟨by omega, by omega, .inl rfl⟩, by decide, ExRow.nil _, HEX.out.keep (hU2.keptE (hn4 _)), by simp; omega, (HA4.out.alloc _).cx.set (hn4 _) (by decide) hU2 HA4.out.lo0, (HA4.out.alloc _).went.set hU2 (Nat.le_refl _)⟩
end Go.Proofs.YtchibamdkaejdaaDoor
