/-
  The walk of the generator's expr, from one depth to the next. Conditions: the maker, the tape, its rows of names.
-/
import Derived.Test.YtchibamdkaejdaaDoorZA
import Derived.Test.YtchibamdkaejdaaDoorZBa
namespace Go.Proofs.YtchibamdkaejdaaDoor
open Go.RowKit

set_option linter.unusedSimpArgs false in
set_option maxHeartbeats 16000000 in
set_option maxRecDepth 100000 in
theorem expr_step (k : Nat) (ih : ExprAt k) : ExprAt (k + 1) := by
 intro m w deep hd h
 have IH := Lib.hid ih
 clear ih
 have hdeep : (deep : Int) < 3 := by omega
 have hdw : IntKind.i64.wrap ((deep : Int) + 1) = ((deep + 1 : Nat) : Int) := by rw [IntWalk.i64_in _ (by omega)]; omega
 have hd1 : (deep + 1) + k = 3 := by omega
 have hpow : 2 ^ (k + 1 + 1) = 2 * 2 ^ (k + 1) := by rw [Nat.pow_succ]; omega
 have hpk : 2 ≤ 2 ^ (k + 1) := by have := Nat.one_le_two_pow (n := k); rw [Nat.pow_succ]; omega
 obtain ⟨M, T, f, funcs, count, left, P, S, Q, R, pl, pc, sl, sc, ql, qc, rl, rc, A, len, cap⟩ := m
 dsimp only at *
 obtain ⟨V, hV⟩ : ∃ V, Hid (w.alloc (.cells #[.int .i64 0, .int .i64 0, .int .i64 0, .string ⟨#[]⟩, .string ⟨#[]⟩, .slice none 0 0] 72) = V) := ⟨_, Lib.hid rfl⟩
 have hwV : Below w.heap.size w V := by rw [← hV.out]; exact (Below.refl _ _).alloc (Nat.le_refl _) _
 have hblk : Zero V w.heap.size := by rw [← hV.out]; exact Array.getElem?_push_size
 have hg := h.below hwV
 have hc := h.grew hg
 have hz : w.heap.size < V.heap.size := by rw [← hV.out]; simp
 have hM : M < w.heap.size := h.maker.lt
 have hMT : M ≠ T := h.ne
 have hTw : T < w.heap.size := by obtain ⟨pos, ht⟩ := h.tape; exact ht.lt
 have g0 := h.maker.cell 0 (.pointer (some ⟨T, 0, none⟩)) rfl
 have e0 := hc.maker.cell 0 (.pointer (some ⟨T, 0, none⟩)) rfl
 obtain ⟨pos, ht⟩ := hc.tape
 have HT := Lib.hid ht
 have HG := Lib.hid hg
 have HC := Lib.hid hc
 have HB := Lib.hid hblk
 dsimp only at g0 e0
 clear h ht hg hc hwV hblk
 go_enter Tryd.func42, Tryd.ntmps42
 go_wp2_with fail
 rw [hV.out]
 refine (next_any V T A len cap pos HT.out 16 (by omega) (by omega)).mono ?_
 rintro e w1 ⟨r, t1, rfl, hr0, hr1, hm⟩
 have c1 := HC.out.grew hm.grew
 have e0 := c1.maker.cell 0 (.pointer (some ⟨T, 0, none⟩)) rfl
 have e4 := c1.maker.cell 4 (.slice S sl sc) rfl
 have e5 := c1.maker.cell 5 (.slice Q ql qc) rfl
 have e6 := c1.maker.cell 6 (.slice R rl rc) rfl
 dsimp only at e0 e4 e5 e6
 have HM := Lib.hid hm
 have HC1 := Lib.hid c1
 have hz1 : w.heap.size < w1.heap.size := by have := hm.size; omega
 have HG1 := Lib.hid (HG.out.trans hm.grew)
 have HB1 : Hid (Zero w1 w.heap.size) := Lib.hid ((hm.block w.heap.size (by omega)).trans HB.out)
 clear hm c1 g0
 have hcase : r < 3 ∨ (3 ≤ r ∧ r < 8 ∧ sl ≠ 0) ∨ (3 ≤ r ∧ r < 8 ∧ sl = 0) ∨ (r = 8 ∧ ql ≠ 0) ∨ (r = 8 ∧ ql = 0) ∨ (r = 9 ∧ rl ≠ 0) ∨ (r = 9 ∧ rl = 0) ∨ r = 10 ∨ 11 ≤ r := by omega
 rcases hcase with hr | ⟨hr, hr', hl⟩ | ⟨hr, hr', hl⟩ | ⟨rfl, hl⟩ | ⟨rfl, hl⟩ | ⟨rfl, hl⟩ | ⟨rfl, hl⟩ | rfl | hr
 ·
   go_wp2_with fail
   obtain ⟨p1, ht1⟩ := HC1.out.tape
   refine (number_any w1 T A len cap p1 ht1).mono ?_
   rintro e w2 ⟨n, rfl, hn, hg2⟩
   have HG2 := Lib.hid hg2
   clear ht1 hg2
   go_wp2_with fail
   refine (literal_any w2 n).mono ?_
   rintro e w3 ⟨rfl, hb3⟩
   have hg3 := (HC1.out.grew HG2.out).below hb3
   dsimp only at hg3
   have HZ := Lib.hid ((HB1.out.grew HG2.out (by omega)).grew hg3 (by omega))
   obtain ⟨U, HU, HGU, u0, u1, u2, u3, u4, u5⟩ := put_leaf (m := ⟨M, T, f, funcs, count, left, P, S, Q, R, pl, pc, sl, sc, ql, qc, rl, rc, A, len, cap⟩) (o0 := 0) (o1 := n) (nm5 := ⟨#[]⟩) (fld5 := ⟨#[]⟩) rfl hTw HZ.out ((HG1.out.trans HG2.out).trans hg3)
   clear hg3
   go_wp2_with (with_reducible show wpList _ _ _ (Oper.mk none (Op.store _ _ _) _ _ _ none :: _) _ _; refine store_expr rfl rfl _ _ rfl w.heap.size 0 n 0 _ _ _ _ _ rfl rfl HZ.out U HU ?_)
   (try simp only [Exit.inBlock, Exit.then])
   refine bodyPost_ret (by simp [results, Tryd.results42, go_sem, u0, u1, u2, u3, u4, u5]; try rfl) rfl ?_
   exact ⟨_, 1, rfl, (exNew_leaf _ _ 0 n 0 _ _ (by omega) hn (by decide) (by decide)).le (by omega), by omega, HGU.out⟩
 ·
   go_wp2_with fail
   obtain ⟨b, nm, e, hb, hbT, hl1, hl2, hl3, hnm, hnames⟩ := HC1.out.s.open hl
   dsimp only at e hb hbT hl1 hl2 hl3 hnm hnames
   subst e
   have hpos : (1 : Int) ≤ (sl : Int) := by omega
   have hlt : (sl : Int) < 1000000 := by omega
   have hl2' : (sc : Int) ≤ 9223372036854775807 := by unfold maxLen at hl2; omega
   have hM1 : M < w1.heap.size := by omega
   have hbN : b ≠ w.heap.size := fun e => by
    have h0 := hnames 0 (by omega)
    rw [cell_of_row w1 b 0 _ _ _ (show w1.heap[b]? = _ by rw [e]; exact HB1.out)] at h0
    simp at h0
   have hMN : M ≠ w.heap.size := by omega
   have HL := Lib.hid hnames
   obtain ⟨p1, ht1⟩ := HC1.out.drew.tape
   have HT1 := Lib.hid ht1
   have HC1 := Lib.hid HC1.out.drew
   have HG1 := Lib.hid HG1.out.drew
   have HB1 := Lib.hid HB1.out.drew
   have hzd : w1.drew.heap.size = w1.heap.size := rfl
   clear hl2 hnames ht1
   have hNT : w.heap.size ≠ T := by omega
   refine wp_region_held_drew (S := fun w' => w'.cell? ⟨M, 0, none⟩ = some (.pointer (some ⟨T, 0, none⟩)) ∧ w'.cell? ⟨M, 4, none⟩ = some (.slice (some ⟨b, 0, none⟩) sl sc) ∧ ∀ j, j < sl → w'.cell? ⟨b, j, none⟩ = some (.string (nm j))) (by kernel_rfl) ⟨e0, e4, HL.out⟩ (fun hHeld => ?_)
   refine wpAnyH_take (i := 0) (v := ?_) rfl (by kernel_rfl) (by kernel_rfl) (by kernel_rfl) (fun _ _ _ h => h) (Or.inl ⟨by rfl, ?_⟩) (by assumption) ?_
   rotate_left 1
   ·intro w hSw
    (try dsimp only at hSw)
    (go_simp) <;> (with_reducible rfl)
   (try simp only [Act.put, zD, zE, zF])
   refine wpAnyH_take (i := 1) (v := ?_) rfl (by kernel_rfl) (by kernel_rfl) (by kernel_rfl) (fun _ _ _ h => h) (Or.inl ⟨by rfl, ?_⟩) (by assumption) ?_
   rotate_left 1
   ·intro w hSw
    (try dsimp only at hSw)
    (go_simp) <;> (with_reducible rfl)
   (try simp only [Act.put, zD, zE, zF])
   refine wpAnyH_take (i := 2) (v := ?_) rfl (by kernel_rfl) (by kernel_rfl) (by kernel_rfl) (fun _ _ _ h => h) (Or.inl ⟨by rfl, ?_⟩) (by assumption) ?_
   rotate_left 1
   ·intro w hSw
    (try dsimp only at hSw)
    (go_simp) <;> (with_reducible rfl)
   (try simp only [Act.put, zD, zE, zF])
   refine wpAnyH_take (i := 3) (v := ?_) rfl (by kernel_rfl) (by kernel_rfl) (by kernel_rfl) (fun _ _ _ h => h) (Or.inl ⟨by rfl, ?_⟩) (by assumption) ?_
   rotate_left 1
   ·intro w hSw
    (try dsimp only at hSw)
    (go_simp) <;> (with_reducible rfl)
   (try simp only [Act.put, zD, zE, zF])
   refine wpAnyH_take (i := 4) (v := ?_) rfl (by kernel_rfl) (by kernel_rfl) (by kernel_rfl) (fun _ _ _ h => h) (Or.inl ⟨by rfl, ?_⟩) (by assumption) ?_
   rotate_left 1
   ·intro w hSw
    (try dsimp only at hSw)
    (go_simp) <;> (with_reducible rfl)
   (try simp only [Act.put, zD, zE, zF])
   refine wpAnyH_take (i := 5) (v := ?_) rfl (by kernel_rfl) (by kernel_rfl) (by kernel_rfl) (fun _ _ _ h => h) (Or.inl ⟨by rfl, ?_⟩) (by assumption) ?_
   rotate_left 1
   ·intro w hSw
    (try dsimp only at hSw)
    (go_simp) <;> (with_reducible rfl)
   (try simp only [Act.put, zD, zE, zF])
   refine wpAnyH_take (i := 6) (v := ?_) rfl (by kernel_rfl) (by kernel_rfl) (by kernel_rfl) (fun _ _ _ h => h) (Or.inl ⟨by rfl, ?_⟩) (by assumption) ?_
   rotate_left 1
   ·intro w hSw
    (try dsimp only at hSw)
    (go_simp) <;> (with_reducible rfl)
   (try simp only [Act.put, zD, zE, zF])
   refine wpAnyH_take (i := 7) (v := ?_) rfl (by kernel_rfl) (by kernel_rfl) (by kernel_rfl) (fun _ _ _ h => h) (Or.inl ⟨by rfl, ?_⟩) (by assumption) ?_
   rotate_left 1
   ·intro w hSw
    (try dsimp only at hSw)
    (go_simp) <;> (with_reducible rfl)
   (try simp only [Act.put, zD, zE, zF])
   refine wpAnyH_take (i := 8) (v := ?_) rfl (by kernel_rfl) (by kernel_rfl) (by kernel_rfl) (fun _ _ _ h => h) (Or.inl ⟨by rfl, ?_⟩) (by assumption) ?_
   rotate_left 1
   ·intro w hSw
    (try dsimp only at hSw)
    (go_simp) <;> (with_reducible rfl)
   (try simp only [Act.put, zD, zE, zF])
   refine wpAnyH_take (i := 9) (v := ?_) rfl (by kernel_rfl) (by kernel_rfl) (by kernel_rfl) (fun _ _ _ h => h) (Or.inl ⟨by rfl, ?_⟩) (by assumption) ?_
   rotate_left 1
   ·intro w hSw
    (try dsimp only at hSw)
    (go_simp) <;> (with_reducible rfl)
   (try simp only [Act.put, zD, zE, zF])
   refine wpAnyH_take (i := 10) (v := ?_) rfl (by kernel_rfl) (by kernel_rfl) (by kernel_rfl) (fun _ _ _ h => h) (Or.inl ⟨by rfl, ?_⟩) (by assumption) ?_
   rotate_left 1
   ·intro w hSw
    (try dsimp only at hSw)
    (go_simp) <;> (with_reducible rfl)
   (try simp only [Act.put, zD, zE, zF])
   refine wpAnyH_take (i := 11) (v := ?_) rfl (by kernel_rfl) (by kernel_rfl) (by kernel_rfl) (fun _ _ _ h => h) (Or.inl ⟨by rfl, ?_⟩) (by assumption) ?_
   rotate_left 1
   ·intro w hSw
    (try dsimp only at hSw)
    (go_simp) <;> (with_reducible rfl)
   (try simp only [Act.put, zD, zE, zF])
   refine wpAnyH_take (i := 12) (v := ?_) rfl (by kernel_rfl) (by kernel_rfl) (by kernel_rfl) (fun _ _ _ h => h) (Or.inl ⟨by rfl, ?_⟩) (by assumption) ?_
   rotate_left 1
   ·intro w hSw
    (try dsimp only at hSw)
    (go_simp) <;> (with_reducible rfl)
   (try simp only [Act.put, zD, zE, zF])
   refine wpAnyH_ready (rs := [13]) (by kernel_rfl) (by simp) (AllReadyH.cons rfl (fun K hK => ?_) AllReadyH.nil)
   go_simp
   refine (next_any _ T A len cap p1 HT1.out sl hpos hlt).mono ?_
   rintro e w2 ⟨j', jt, rfl, j0, j1, hm2⟩
   obtain ⟨j, rfl⟩ : ∃ i : Nat, j' = (i : Int) := ⟨j'.toNat, by omega⟩
   have hs2 := Nat.le_of_eq hm2.size.symm
   have HC2 := Lib.hid (HC1.out.grew hm2.grew)
   have HG2 := Lib.hid (HG1.out.trans hm2.grew)
   have HB2 := Lib.hid (HB1.out.grew hm2.grew hNT)
   have hjr : j < sl := by omega
   have HH2 := Lib.hid (limb_grew hm2.grew hM1 hMT hb hbT hHeld)
   have hb2 : b < w2.heap.size := by omega
   refine hK.out _ _ HH2.out (fun hHeld => ?_)
   clear hK K hm2
   (try simp only [Act.put, zD, zE, zF])
   refine wpAnyH_take (i := 14) (v := ?_) rfl (by kernel_rfl) (by kernel_rfl) (by kernel_rfl) (fun _ _ _ h => h) (Or.inl ⟨by rfl, ?_⟩) (by assumption) ?_
   rotate_left 1
   ·intro w hSw
    (try dsimp only at hSw)
    (go_simp) <;> (with_reducible rfl)
   (try simp only [Act.put, zD, zE, zF])
   refine wpAnyH_take (i := 15) (v := ?_) rfl (by kernel_rfl) (by kernel_rfl) (by kernel_rfl) (fun _ _ _ h => h) (Or.inl ⟨by rfl, ?_⟩) (by assumption) ?_
   rotate_left 1
   ·intro w hSw
    (try dsimp only at hSw)
    (go_simp) <;> (with_reducible rfl)
   (try simp only [Act.put, zD, zE, zF])
   refine wpAnyH_ready (rs := [16]) (by kernel_rfl) (by simp) (AllReadyH.cons rfl (fun K hK => ?_) AllReadyH.nil)
   go_simp
   refine (variable_any w2 (nm j)).mono ?_
   rintro e w3 ⟨rfl, hb3⟩
   have hg3 := HC2.out.below hb3
   dsimp only at hg3
   have HH3 := Lib.hid (limb_grew hg3 (by omega) hMT hb2 hbT HH2.out)
   have HZ := Lib.hid (HB2.out.grew hg3 hNT)
   obtain ⟨U, HU, HGU, u0, u1, u2, u3, u4, u5⟩ := put_leaf (m := ⟨M, T, f, funcs, count, left, P, some ⟨b, 0, none⟩, Q, R, pl, pc, sl, sc, ql, qc, rl, rc, A, len, cap⟩) (o0 := 1) (o1 := 0) (nm5 := nm j) (fld5 := ⟨#[]⟩) rfl hTw HZ.out (HG2.out.trans hg3)
   clear hg3 hb3
   refine hK.out _ _ HH3.out (fun hHeld => ?_)
   clear hK K
   (try simp only [Act.put, zD, zE, zF])
   refine wpAnyH_ready (rs := [17]) (by kernel_rfl) (by simp) (AllReadyH.cons rfl (fun K hK => ?_) AllReadyH.nil)
   rw [if_pos (by rfl)]
   refine wp_store_expr _ _ rfl w.heap.size 1 0 0 _ _ _ _ _ rfl rfl HZ.out U HU ?_
   refine hK.out _ _ (by rw [← HU.out]; exact limb_put _ _ _ _ _ _ hMN hbN HH3.out) (fun hHeld => ?_)
   clear hK K
   refine wpAnyH_done (by kernel_rfl) ?_ _
   go_wp2_with fail
   (try simp only [Exit.inBlock, Exit.then])
   refine bodyPost_ret (by simp [results, Tryd.results42, go_sem, u0, u1, u2, u3, u4, u5]; try rfl) rfl ?_
   exact ⟨_, rfl, 1, (exNew_leaf _ _ 1 0 0 _ _ (by omega) (by omega) (hnm j hjr) (by decide)).le (by omega), by omega, HGU.out⟩
 ·
   go_wp2_with fail
   obtain ⟨p1, ht1⟩ := HC1.out.tape
   refine (next_any w1 T A len cap p1 ht1 12 (by omega) (by omega)).mono ?_
   rintro e w2 ⟨q, t2, rfl, hq0, hq1, hm2⟩
   obtain ⟨op, hop⟩ : ∃ op : Nat, (op : Int) = 6 + q := ⟨(6 + q).toNat, by omega⟩
   have HC2 := Lib.hid (HC1.out.grew hm2.grew)
   have HG2 := Lib.hid (HG1.out.trans hm2.grew)
   have HB2 := Lib.hid (HB1.out.grew hm2.grew (by omega))
   have hz2 : w.heap.size < w2.heap.size := by have := hm2.size; omega
   clear ht1 hm2
   go_wp2_with fail
   refine (IH.out ⟨M, T, f, funcs, count, left, P, S, Q, R, pl, pc, sl, sc, ql, qc, rl, rc, A, len, cap⟩ w2 (deep + 1) hd1 HC2.out).mono ?_
   rintro e w3 ⟨v1, n1, rfl, hx1, hn1, hg3⟩
   obtain ⟨op1, nu1, vr1, nm1, fld1, A1, l1, c1, rfl⟩ := hx1.shape
   dsimp only at hg3
   obtain ⟨X, hX⟩ : ∃ X, Hid (w3.alloc (.cells #[.int .i64 op1, .int .i64 nu1, .int .i64 vr1, .string nm1, .string fld1, .slice A1 l1 c1] 72) = X) := ⟨_, Lib.hid rfl⟩
   have h3X : Below w3.heap.size w3 X := by rw [← hX.out]; exact (Below.refl _ _).alloc (Nat.le_refl _) _
   have hXb : X.heap[w3.heap.size]? = some (.cells #[.int .i64 op1, .int .i64 nu1, .int .i64 vr1, .string nm1, .string fld1, .slice A1 l1 c1] 72 (0, 0)) := by rw [← hX.out]; exact Array.getElem?_push_size
   have hX0 : X.cell? ⟨w3.heap.size, 0, none⟩ = some (.int .i64 op1) := by rw [cell_of_row X _ 0 _ _ _ hXb]; rfl
   have hX1 : X.cell? ⟨w3.heap.size, 1, none⟩ = some (.int .i64 nu1) := by rw [cell_of_row X _ 1 _ _ _ hXb]; rfl
   have hX2 : X.cell? ⟨w3.heap.size, 2, none⟩ = some (.int .i64 vr1) := by rw [cell_of_row X _ 2 _ _ _ hXb]; rfl
   have hX3 : X.cell? ⟨w3.heap.size, 3, none⟩ = some (.string nm1) := by rw [cell_of_row X _ 3 _ _ _ hXb]; rfl
   have hX4 : X.cell? ⟨w3.heap.size, 4, none⟩ = some (.string fld1) := by rw [cell_of_row X _ 4 _ _ _ hXb]; rfl
   have hX5 : X.cell? ⟨w3.heap.size, 5, none⟩ = some (.slice A1 l1 c1) := by rw [cell_of_row X _ 5 _ _ _ hXb]; rfl
   have hgX := hg3.trans ((HC2.out.grew hg3).below h3X)
   have HCX := Lib.hid (HC2.out.grew hgX).drew
   have HGX := Lib.hid (HG2.out.trans hgX)
   have HBX := Lib.hid (HB2.out.grew hgX (by omega))
   have HX1 := Lib.hid ((hx1.keep (KeptX.below h3X).from).from (B' := w.heap.size + 1) (by omega))
   have hXs : w3.heap.size < X.heap.size := (Array.getElem?_eq_some_iff.1 hXb).1
   have hXT : w3.heap.size ≠ T := by have := hg3.size; omega
   have hzX : w.heap.size < X.heap.size := by have := hg3.size; omega
   have hNX : w3.heap.size ≠ w.heap.size := by have := hg3.size; omega
   clear hg3 hx1 h3X hXb hgX
   go_wp2_with fail
   rw [hX.out]
   have hNT : w.heap.size ≠ T := fun e => absurd hTw (by rw [e]; exact Nat.lt_irrefl T)
   have hne1 : w3.heap.size ≠ w.heap.size := hNX
   have hne2 : w.heap.size ≠ w3.heap.size := fun e => hNX e.symm
   refine wp_region_held_drew (S := fun w' => w'.cell? ⟨w3.heap.size, 0, none⟩ = some (.int .i64 op1) ∧ w'.cell? ⟨w3.heap.size, 1, none⟩ = some (.int .i64 nu1) ∧ w'.cell? ⟨w3.heap.size, 2, none⟩ = some (.int .i64 vr1) ∧ w'.cell? ⟨w3.heap.size, 3, none⟩ = some (.string nm1) ∧ w'.cell? ⟨w3.heap.size, 4, none⟩ = some (.string fld1) ∧ w'.cell? ⟨w3.heap.size, 5, none⟩ = some (.slice A1 l1 c1)) (by kernel_rfl) ⟨hX0, hX1, hX2, hX3, hX4, hX5⟩ (fun hHeld => ?_)
   refine wpAnyH_take (i := 0) (v := ?_) rfl (by kernel_rfl) (by kernel_rfl) (by kernel_rfl) (fun _ _ _ h => h) (Or.inl ⟨by rfl, ?_⟩) (by assumption) ?_
   rotate_left 1
   ·intro w hSw
    (try dsimp only at hSw)
    (go_simp) <;> (with_reducible rfl)
   (try simp only [Act.put, zD, zE, zF])
   refine wpAnyH_take (i := 1) (v := ?_) rfl (by kernel_rfl) (by kernel_rfl) (by kernel_rfl) (fun _ _ _ h => h) (Or.inl ⟨by rfl, ?_⟩) (by assumption) ?_
   rotate_left 1
   ·intro w hSw
    (try dsimp only at hSw)
    (go_simp) <;> (with_reducible rfl)
   (try simp only [Act.put, zD, zE, zF])
   refine wpAnyH_take (i := 2) (v := ?_) rfl (by kernel_rfl) (by kernel_rfl) (by kernel_rfl) (fun _ _ _ h => h) (Or.inl ⟨by rfl, ?_⟩) (by assumption) ?_
   rotate_left 1
   ·intro w hSw
    (try dsimp only at hSw)
    (go_simp) <;> (with_reducible rfl)
   (try simp only [Act.put, zD, zE, zF])
   refine wpAnyH_take (i := 3) (v := ?_) rfl (by kernel_rfl) (by kernel_rfl) (by kernel_rfl) (fun _ _ _ h => h) (Or.inl ⟨by rfl, ?_⟩) (by assumption) ?_
   rotate_left 1
   ·intro w hSw
    (try dsimp only at hSw)
    (go_simp) <;> (with_reducible rfl)
   (try simp only [Act.put, zD, zE, zF])
   refine wpAnyH_take (i := 4) (v := ?_) rfl (by kernel_rfl) (by kernel_rfl) (by kernel_rfl) (fun _ _ _ h => h) (Or.inl ⟨by rfl, ?_⟩) (by assumption) ?_
   rotate_left 1
   ·intro w hSw
    (try dsimp only at hSw)
    (go_simp) <;> (with_reducible rfl)
   (try simp only [Act.put, zD, zE, zF])
   refine wpAnyH_ready (rs := [5]) (by kernel_rfl) (by simp) (AllReadyH.cons rfl (fun K hK => ?_) AllReadyH.nil)
   go_simp
   refine (IH.out ⟨M, T, f, funcs, count, left, P, S, Q, R, pl, pc, sl, sc, ql, qc, rl, rc, A, len, cap⟩ _ (deep + 1) hd1 HCX.out).mono ?_
   rintro e w4 ⟨v2, n2, rfl, hx2, hn2, hg4⟩
   obtain ⟨op2, nu2, vr2, nm2, fld2, A2, l2, c2, rfl⟩ := hx2.shape
   dsimp only at hg4
   obtain ⟨W, U, HW, HZ, HU, HGU, HROW, u0, u1, u2, u3, u4, u5, hN, hS4, hSW, hSU⟩ := put_bin (m := ⟨M, T, f, funcs, count, left, P, S, Q, R, pl, pc, sl, sc, ql, qc, rl, rc, A, len, cap⟩) (o5 := 6 + q) rfl hTw (Zero.drew HBX.out) HGX.out.drew HCX.out HX1.out.drew hx2 hg4 hXs hzX hXT hNX ⟨hX0, hX1, hX2, hX3, hX4, hX5⟩
   rw [← HW.out] at HZ HU hSW
   rw [← hop] at u0
   clear hx2 hg4
   refine hK.out _ _ hS4 (fun hHeld => ?_)
   clear hK K
   (try simp only [Act.put, zD, zE, zF])
   refine wpAnyH_ready (rs := [6]) (by kernel_rfl) (by simp) (AllReadyH.cons rfl (fun K hK => ?_) AllReadyH.nil)
   go_simp
   refine hK.out _ _ hSW (fun hHeld => ?_)
   clear hK K
   (try simp only [Act.put, zD, zE, zF])
   refine wpAnyH_take (i := 7) (v := ?_) rfl (by kernel_rfl) (by kernel_rfl) (by kernel_rfl) (fun _ _ _ h => h) (Or.inl ⟨by rfl, ?_⟩) (by assumption) ?_
   rotate_left 1
   ·intro w hSw
    (try dsimp only at hSw)
    (go_simp) <;> (with_reducible rfl)
   (try simp only [Act.put, zD, zE, zF])
   refine wpAnyH_ready (rs := [8]) (by kernel_rfl) (by simp) (AllReadyH.cons rfl (fun K hK => ?_) AllReadyH.nil)
   rw [if_pos (by rfl)]
   refine wp_store_expr _ _ rfl w.heap.size (6 + q) 0 0 _ _ _ _ _ rfl rfl HZ.out U HU ?_
   refine hK.out _ _ hSU (fun hHeld => ?_)
   clear hK K
   refine wpAnyH_done (by kernel_rfl) ?_ _
   go_wp2_with fail
   (try simp only [Exit.inBlock, Exit.then])
   refine bodyPost_ret (by simp [results, Tryd.results42, go_sem, u0, u1, u2, u3, u4, u5]; try rfl) rfl ?_
   exact ⟨_, rfl, 1 + n1 + n2, ⟨op, 0, 0, _, _, _, 2, 2, [n1, n2], rfl, ⟨by omega, fun _ => by omega, fun hh => by omega⟩, by omega, by decide, by decide, HROW.out, fun _ => ⟨_, _, rfl, by omega⟩, by simp; omega⟩, by omega, HGU.out⟩
 ·
   go_wp2_with fail
   obtain ⟨b, nm, e, hb, hbT, hl1, hl2, hl3, hnm, hnames⟩ := HC1.out.q.open hl
   dsimp only at e hb hbT hl1 hl2 hl3 hnm hnames
   subst e
   have hpos : (1 : Int) ≤ (ql : Int) := by omega
   have hlt : (ql : Int) < 1000000 := by omega
   have hl2' : (qc : Int) ≤ 9223372036854775807 := by unfold maxLen at hl2; omega
   have hM1 : M < w1.heap.size := by omega
   have hbN : b ≠ w.heap.size := fun e => by
    have h0 := hnames 0 (by omega)
    rw [cell_of_row w1 b 0 _ _ _ (show w1.heap[b]? = _ by rw [e]; exact HB1.out)] at h0
    simp at h0
   have hMN : M ≠ w.heap.size := by omega
   have HL := Lib.hid hnames
   obtain ⟨p1, ht1⟩ := HC1.out.drew.tape
   have HT1 := Lib.hid ht1
   have HC1 := Lib.hid HC1.out.drew
   have HG1 := Lib.hid HG1.out.drew
   have HB1 := Lib.hid HB1.out.drew
   have hzd : w1.drew.heap.size = w1.heap.size := rfl
   clear hl2 hnames ht1
   have hNT : w.heap.size ≠ T := by omega
   refine wp_region_held_drew (S := fun w' => w'.cell? ⟨M, 0, none⟩ = some (.pointer (some ⟨T, 0, none⟩)) ∧ w'.cell? ⟨M, 5, none⟩ = some (.slice (some ⟨b, 0, none⟩) ql qc) ∧ ∀ j, j < ql → w'.cell? ⟨b, j, none⟩ = some (.string (nm j))) (by kernel_rfl) ⟨e0, e5, HL.out⟩ (fun hHeld => ?_)
   refine wpAnyH_take (i := 0) (v := ?_) rfl (by kernel_rfl) (by kernel_rfl) (by kernel_rfl) (fun _ _ _ h => h) (Or.inl ⟨by rfl, ?_⟩) (by assumption) ?_
   rotate_left 1
   ·intro w hSw
    (try dsimp only at hSw)
    (go_simp) <;> (with_reducible rfl)
   (try simp only [Act.put, zD, zE, zF])
   refine wpAnyH_take (i := 1) (v := ?_) rfl (by kernel_rfl) (by kernel_rfl) (by kernel_rfl) (fun _ _ _ h => h) (Or.inl ⟨by rfl, ?_⟩) (by assumption) ?_
   rotate_left 1
   ·intro w hSw
    (try dsimp only at hSw)
    (go_simp) <;> (with_reducible rfl)
   (try simp only [Act.put, zD, zE, zF])
   refine wpAnyH_take (i := 2) (v := ?_) rfl (by kernel_rfl) (by kernel_rfl) (by kernel_rfl) (fun _ _ _ h => h) (Or.inl ⟨by rfl, ?_⟩) (by assumption) ?_
   rotate_left 1
   ·intro w hSw
    (try dsimp only at hSw)
    (go_simp) <;> (with_reducible rfl)
   (try simp only [Act.put, zD, zE, zF])
   refine wpAnyH_take (i := 3) (v := ?_) rfl (by kernel_rfl) (by kernel_rfl) (by kernel_rfl) (fun _ _ _ h => h) (Or.inl ⟨by rfl, ?_⟩) (by assumption) ?_
   rotate_left 1
   ·intro w hSw
    (try dsimp only at hSw)
    (go_simp) <;> (with_reducible rfl)
   (try simp only [Act.put, zD, zE, zF])
   refine wpAnyH_take (i := 4) (v := ?_) rfl (by kernel_rfl) (by kernel_rfl) (by kernel_rfl) (fun _ _ _ h => h) (Or.inl ⟨by rfl, ?_⟩) (by assumption) ?_
   rotate_left 1
   ·intro w hSw
    (try dsimp only at hSw)
    (go_simp) <;> (with_reducible rfl)
   (try simp only [Act.put, zD, zE, zF])
   refine wpAnyH_take (i := 5) (v := ?_) rfl (by kernel_rfl) (by kernel_rfl) (by kernel_rfl) (fun _ _ _ h => h) (Or.inl ⟨by rfl, ?_⟩) (by assumption) ?_
   rotate_left 1
   ·intro w hSw
    (try dsimp only at hSw)
    (go_simp) <;> (with_reducible rfl)
   (try simp only [Act.put, zD, zE, zF])
   refine wpAnyH_take (i := 6) (v := ?_) rfl (by kernel_rfl) (by kernel_rfl) (by kernel_rfl) (fun _ _ _ h => h) (Or.inl ⟨by rfl, ?_⟩) (by assumption) ?_
   rotate_left 1
   ·intro w hSw
    (try dsimp only at hSw)
    (go_simp) <;> (with_reducible rfl)
   (try simp only [Act.put, zD, zE, zF])
   refine wpAnyH_take (i := 7) (v := ?_) rfl (by kernel_rfl) (by kernel_rfl) (by kernel_rfl) (fun _ _ _ h => h) (Or.inl ⟨by rfl, ?_⟩) (by assumption) ?_
   rotate_left 1
   ·intro w hSw
    (try dsimp only at hSw)
    (go_simp) <;> (with_reducible rfl)
   (try simp only [Act.put, zD, zE, zF])
   refine wpAnyH_take (i := 8) (v := ?_) rfl (by kernel_rfl) (by kernel_rfl) (by kernel_rfl) (fun _ _ _ h => h) (Or.inl ⟨by rfl, ?_⟩) (by assumption) ?_
   rotate_left 1
   ·intro w hSw
    (try dsimp only at hSw)
    (go_simp) <;> (with_reducible rfl)
   (try simp only [Act.put, zD, zE, zF])
   refine wpAnyH_take (i := 9) (v := ?_) rfl (by kernel_rfl) (by kernel_rfl) (by kernel_rfl) (fun _ _ _ h => h) (Or.inl ⟨by rfl, ?_⟩) (by assumption) ?_
   rotate_left 1
   ·intro w hSw
    (try dsimp only at hSw)
    (go_simp) <;> (with_reducible rfl)
   (try simp only [Act.put, zD, zE, zF])
   refine wpAnyH_take (i := 10) (v := ?_) rfl (by kernel_rfl) (by kernel_rfl) (by kernel_rfl) (fun _ _ _ h => h) (Or.inl ⟨by rfl, ?_⟩) (by assumption) ?_
   rotate_left 1
   ·intro w hSw
    (try dsimp only at hSw)
    (go_simp) <;> (with_reducible rfl)
   (try simp only [Act.put, zD, zE, zF])
   refine wpAnyH_take (i := 11) (v := ?_) rfl (by kernel_rfl) (by kernel_rfl) (by kernel_rfl) (fun _ _ _ h => h) (Or.inl ⟨by rfl, ?_⟩) (by assumption) ?_
   rotate_left 1
   ·intro w hSw
    (try dsimp only at hSw)
    (go_simp) <;> (with_reducible rfl)
   (try simp only [Act.put, zD, zE, zF])
   refine wpAnyH_take (i := 12) (v := ?_) rfl (by kernel_rfl) (by kernel_rfl) (by kernel_rfl) (fun _ _ _ h => h) (Or.inl ⟨by rfl, ?_⟩) (by assumption) ?_
   rotate_left 1
   ·intro w hSw
    (try dsimp only at hSw)
    (go_simp) <;> (with_reducible rfl)
   (try simp only [Act.put, zD, zE, zF])
   refine wpAnyH_take (i := 17) (v := ?_) rfl (by kernel_rfl) (by kernel_rfl) (by kernel_rfl) (fun _ _ _ h => h) (Or.inl ⟨by rfl, ?_⟩) (by assumption) ?_
   rotate_left 1
   ·intro w hSw
    (try dsimp only at hSw)
    (go_simp) <;> (with_reducible rfl)
   (try simp only [Act.put, zD, zE, zF])
   refine wpAnyH_take (i := 18) (v := ?_) rfl (by kernel_rfl) (by kernel_rfl) (by kernel_rfl) (fun _ _ _ h => h) (Or.inl ⟨by rfl, ?_⟩) (by assumption) ?_
   rotate_left 1
   ·intro w hSw
    (try dsimp only at hSw)
    (go_simp) <;> (with_reducible rfl)
   (try simp only [Act.put, zD, zE, zF])
   refine wpAnyH_take (i := 19) (v := ?_) rfl (by kernel_rfl) (by kernel_rfl) (by kernel_rfl) (fun _ _ _ h => h) (Or.inl ⟨by rfl, ?_⟩) (by assumption) ?_
   rotate_left 1
   ·intro w hSw
    (try dsimp only at hSw)
    (go_simp) <;> (with_reducible rfl)
   (try simp only [Act.put, zD, zE, zF])
   refine wpAnyH_take (i := 20) (v := ?_) rfl (by kernel_rfl) (by kernel_rfl) (by kernel_rfl) (fun _ _ _ h => h) (Or.inl ⟨by rfl, ?_⟩) (by assumption) ?_
   rotate_left 1
   ·intro w hSw
    (try dsimp only at hSw)
    (go_simp) <;> (with_reducible rfl)
   (try simp only [Act.put, zD, zE, zF])
   refine wpAnyH_ready (rs := [13, 16]) (by kernel_rfl) (by simp) (AllReadyH.cons rfl (fun K hK => ?_) (AllReadyH.cons rfl (fun K hK => ?_) AllReadyH.nil))
   ·go_simp
    refine (next_any _ T A len cap p1 HT1.out ql hpos hlt).mono ?_
    rintro e w2 ⟨j', jt, rfl, j0, j1, hm2⟩
    obtain ⟨j, rfl⟩ : ∃ i : Nat, j' = (i : Int) := ⟨j'.toNat, by omega⟩
    have hs2 := Nat.le_of_eq hm2.size.symm
    have HC2 := Lib.hid (HC1.out.grew hm2.grew)
    have HG2 := Lib.hid (HG1.out.trans hm2.grew)
    have HB2 := Lib.hid (HB1.out.grew hm2.grew hNT)
    have hjr : j < ql := by omega
    have HH2 := Lib.hid (limb_grew hm2.grew hM1 hMT hb hbT hHeld)
    have hb2 : b < w2.heap.size := by omega
    refine hK.out _ _ HH2.out (fun hHeld => ?_)
    clear hK K hm2
    (try simp only [Act.put, zD, zE, zF])
    refine wpAnyH_take (i := 14) (v := ?_) rfl (by kernel_rfl) (by kernel_rfl) (by kernel_rfl) (fun _ _ _ h => h) (Or.inl ⟨by rfl, ?_⟩) (by assumption) ?_
    rotate_left 1
    ·intro w hSw
     (try dsimp only at hSw)
     (go_simp) <;> (with_reducible rfl)
    (try simp only [Act.put, zD, zE, zF])
    refine wpAnyH_take (i := 15) (v := ?_) rfl (by kernel_rfl) (by kernel_rfl) (by kernel_rfl) (fun _ _ _ h => h) (Or.inl ⟨by rfl, ?_⟩) (by assumption) ?_
    rotate_left 1
    ·intro w hSw
     (try dsimp only at hSw)
     (go_simp) <;> (with_reducible rfl)
    (try simp only [Act.put, zD, zE, zF])
    refine wpAnyH_ready (rs := [16, 21]) (by kernel_rfl) (by simp) (AllReadyH.cons rfl (fun K hK => ?_) (AllReadyH.cons rfl (fun K hK => ?_) AllReadyH.nil))
    ·go_simp
     obtain ⟨W3, hW3⟩ : ∃ W, Hid (w2.alloc (.cells #[.string ⟨#[120]⟩, .string ⟨#[121]⟩] 9) = W) := ⟨_, Lib.hid rfl⟩
     have hxy3 : ∀ j, j < 2 → (w2.alloc (.cells #[.string ⟨#[120]⟩, .string ⟨#[121]⟩] 9)).cell? ⟨w2.heap.size, j, none⟩ = some (.string (xy j)) := xy_made w2
     have ha3 : Grew T A len cap w2 (w2.alloc (.cells #[.string ⟨#[120]⟩, .string ⟨#[121]⟩] 9)) := HC2.out.alloc (.cells #[.string ⟨#[120]⟩, .string ⟨#[121]⟩] 9)
     rw [hW3.out] at hxy3 ha3 ⊢
     have hsa3 := ha3.size
     have hsx3 : w2.heap.size < W3.heap.size := by rw [← hW3.out]; exact Nat.lt_of_lt_of_eq (Nat.lt_succ_self _) (Array.size_push _).symm
     have HC3 := Lib.hid (HC2.out.grew ha3)
     have HG3 := Lib.hid (HG2.out.trans ha3)
     have HB3 := Lib.hid (HB2.out.grew ha3 hNT)
     have HH3 := Lib.hid (limb_grew ha3 (by omega) hMT (by omega) hbT hHeld)
     refine hK.out _ _ HH3.out (fun hHeld => ?_)
     clear hK K
     refine wpAnyH_mono (S' := fun w' => (∀ j, j < 2 → w'.cell? ⟨w2.heap.size, j, none⟩ = some (.string (xy j))) ∧ w'.cell? ⟨M, 0, none⟩ = some (.pointer (some ⟨T, 0, none⟩)) ∧ w'.cell? ⟨M, 5, none⟩ = some (.slice (some ⟨b, 0, none⟩) ql qc) ∧ ∀ j, j < ql → w'.cell? ⟨b, j, none⟩ = some (.string (nm j))) (fun _ hh => hh.2) _ _ _ _ ?_
     have hHeld2 := And.intro hxy3 HH3.out
     clear ha3
     (try simp only [Act.put, zD, zE, zF])
     refine wpAnyH_ready (rs := [21]) (by kernel_rfl) (by simp) (AllReadyH.cons rfl (fun K hK => ?_) AllReadyH.nil)
     obtain ⟨p3, p3t⟩ := HC3.out.tape
     go_simp
     refine (next_any _ T A len cap p3 p3t 2 (by omega) (by omega)).mono ?_
     rintro e w4 ⟨i', it, rfl, i0, i1, hm4⟩
     obtain ⟨i, rfl⟩ : ∃ i : Nat, i' = (i : Int) := ⟨i'.toNat, by omega⟩
     have hs4 := Nat.le_of_eq hm4.size.symm
     have HC4 := Lib.hid (HC3.out.grew hm4.grew)
     have HG4 := Lib.hid (HG3.out.trans hm4.grew)
     have HB4 := Lib.hid (HB3.out.grew hm4.grew hNT)
     have hi2 : i < 2 := by omega
     have HH4 := Lib.hid (limb_grew hm4.grew (by omega) hMT (by omega) hbT HH3.out)
     have HXY : Hid (∀ i, i < 2 → w4.cell? ⟨w2.heap.size, i, none⟩ = some (.string (xy i))) := Lib.hid (fun i hi => (hm4.cell (b := w2.heap.size) (o := i) (by omega)).trans (hxy3 i hi))
     refine hK.out _ _ ⟨HXY.out, HH4.out⟩ (fun hHeld => ?_)
     clear hK K hm4
     (try simp only [Act.put, zD, zE, zF])
     obtain ⟨U, HU, HGU, u0, u1, u2, u3, u4, u5⟩ := put_leaf (m := ⟨M, T, f, funcs, count, left, P, S, some ⟨b, 0, none⟩, R, pl, pc, sl, sc, ql, qc, rl, rc, A, len, cap⟩) (o0 := 2) (o1 := 0) (nm5 := nm j) (fld5 := xy i) rfl hTw HB4.out HG4.out
     refine wpAnyH_take (i := 22) (v := ?_) rfl (by kernel_rfl) (by kernel_rfl) (by kernel_rfl) (fun _ _ _ h => h) (Or.inl ⟨by rfl, ?_⟩) (by assumption) ?_
     rotate_left 1
     ·intro w hSw
      (try dsimp only at hSw)
      (go_simp) <;> (with_reducible rfl)
     (try simp only [Act.put, zD, zE, zF])
     refine wpAnyH_take (i := 23) (v := ?_) rfl (by kernel_rfl) (by kernel_rfl) (by kernel_rfl) (fun _ _ _ h => h) (Or.inl ⟨by rfl, ?_⟩) (by assumption) ?_
     rotate_left 1
     ·intro w hSw
      (try dsimp only at hSw)
      (go_simp) <;> (with_reducible rfl)
     (try simp only [Act.put, zD, zE, zF])
     refine wpAnyH_take (i := 24) (v := ?_) rfl (by kernel_rfl) (by kernel_rfl) (by kernel_rfl) (fun _ _ _ h => h) (Or.inl ⟨by rfl, ?_⟩) (by assumption) ?_
     rotate_left 1
     ·intro w hSw
      (try dsimp only at hSw)
      (go_simp) <;> (with_reducible rfl)
     (try simp only [Act.put, zD, zE, zF])
     refine wpAnyH_ready (rs := [25]) (by kernel_rfl) (by simp) (AllReadyH.cons rfl (fun K hK => ?_) AllReadyH.nil)
     rw [if_pos (by rfl)]
     refine wp_store_expr _ _ rfl w.heap.size 2 0 0 _ _ _ _ _ rfl rfl HB4.out U HU ?_
     refine hK.out _ _ (by rw [← HU.out]; exact ⟨fun i hi => (put6_far _ _ _ i _ _ _ _ _ _ (by omega)).trans (HXY.out i hi), limb_put _ _ _ _ _ _ hMN hbN HH4.out⟩) (fun hHeld => ?_)
     clear hK K
     refine wpAnyH_done (by kernel_rfl) ?_ _
     go_wp2_with fail
     (try simp only [Exit.inBlock, Exit.then])
     refine bodyPost_ret (by simp [results, Tryd.results42, go_sem, u0, u1, u2, u3, u4, u5]; try rfl) rfl ?_
     exact ⟨_, rfl, 1, (exNew_leaf _ _ 2 0 0 _ _ (by omega) (by omega) (hnm j hjr) (xy_size _)).le (by omega), by omega, HGU.out⟩
    ·obtain ⟨p2, p2t⟩ := HC2.out.tape
     go_simp
     refine (next_any _ T A len cap p2 p2t 2 (by omega) (by omega)).mono ?_
     rintro e w3 ⟨i', it, rfl, i0, i1, hm3⟩
     obtain ⟨i, rfl⟩ : ∃ i : Nat, i' = (i : Int) := ⟨i'.toNat, by omega⟩
     have hs3 := Nat.le_of_eq hm3.size.symm
     have HC3 := Lib.hid (HC2.out.grew hm3.grew)
     have HG3 := Lib.hid (HG2.out.trans hm3.grew)
     have HB3 := Lib.hid (HB2.out.grew hm3.grew hNT)
     have hi2 : i < 2 := by omega
     have HH3 := Lib.hid (limb_grew hm3.grew (by omega) hMT (by omega) hbT HH2.out)
     refine hK.out _ _ HH3.out (fun hHeld => ?_)
     clear hK K hm3
     (try simp only [Act.put, zD, zE, zF])
     refine wpAnyH_ready (rs := [16]) (by kernel_rfl) (by simp) (AllReadyH.cons rfl (fun K hK => ?_) AllReadyH.nil)
     go_simp
     obtain ⟨W4, hW4⟩ : ∃ W, Hid (w3.alloc (.cells #[.string ⟨#[120]⟩, .string ⟨#[121]⟩] 9) = W) := ⟨_, Lib.hid rfl⟩
     have hxy4 : ∀ j, j < 2 → (w3.alloc (.cells #[.string ⟨#[120]⟩, .string ⟨#[121]⟩] 9)).cell? ⟨w3.heap.size, j, none⟩ = some (.string (xy j)) := xy_made w3
     have ha4 : Grew T A len cap w3 (w3.alloc (.cells #[.string ⟨#[120]⟩, .string ⟨#[121]⟩] 9)) := HC3.out.alloc (.cells #[.string ⟨#[120]⟩, .string ⟨#[121]⟩] 9)
     rw [hW4.out] at hxy4 ha4 ⊢
     have hsa4 := ha4.size
     have hsx4 : w3.heap.size < W4.heap.size := by rw [← hW4.out]; exact Nat.lt_of_lt_of_eq (Nat.lt_succ_self _) (Array.size_push _).symm
     have HC4 := Lib.hid (HC3.out.grew ha4)
     have HG4 := Lib.hid (HG3.out.trans ha4)
     have HB4 := Lib.hid (HB3.out.grew ha4 hNT)
     have HH4 := Lib.hid (limb_grew ha4 (by omega) hMT (by omega) hbT hHeld)
     refine hK.out _ _ HH4.out (fun hHeld => ?_)
     clear hK K
     refine wpAnyH_mono (S' := fun w' => (∀ j, j < 2 → w'.cell? ⟨w3.heap.size, j, none⟩ = some (.string (xy j))) ∧ w'.cell? ⟨M, 0, none⟩ = some (.pointer (some ⟨T, 0, none⟩)) ∧ w'.cell? ⟨M, 5, none⟩ = some (.slice (some ⟨b, 0, none⟩) ql qc) ∧ ∀ j, j < ql → w'.cell? ⟨b, j, none⟩ = some (.string (nm j))) (fun _ hh => hh.2) _ _ _ _ ?_
     have hHeld2 := And.intro hxy4 HH4.out
     clear ha4
     have HXY := Lib.hid hxy4
     (try simp only [Act.put, zD, zE, zF])
     obtain ⟨U, HU, HGU, u0, u1, u2, u3, u4, u5⟩ := put_leaf (m := ⟨M, T, f, funcs, count, left, P, S, some ⟨b, 0, none⟩, R, pl, pc, sl, sc, ql, qc, rl, rc, A, len, cap⟩) (o0 := 2) (o1 := 0) (nm5 := nm j) (fld5 := xy i) rfl hTw HB4.out HG4.out
     refine wpAnyH_take (i := 22) (v := ?_) rfl (by kernel_rfl) (by kernel_rfl) (by kernel_rfl) (fun _ _ _ h => h) (Or.inl ⟨by rfl, ?_⟩) (by assumption) ?_
     rotate_left 1
     ·intro w hSw
      (try dsimp only at hSw)
      (go_simp) <;> (with_reducible rfl)
     (try simp only [Act.put, zD, zE, zF])
     refine wpAnyH_take (i := 23) (v := ?_) rfl (by kernel_rfl) (by kernel_rfl) (by kernel_rfl) (fun _ _ _ h => h) (Or.inl ⟨by rfl, ?_⟩) (by assumption) ?_
     rotate_left 1
     ·intro w hSw
      (try dsimp only at hSw)
      (go_simp) <;> (with_reducible rfl)
     (try simp only [Act.put, zD, zE, zF])
     refine wpAnyH_take (i := 24) (v := ?_) rfl (by kernel_rfl) (by kernel_rfl) (by kernel_rfl) (fun _ _ _ h => h) (Or.inl ⟨by rfl, ?_⟩) (by assumption) ?_
     rotate_left 1
     ·intro w hSw
      (try dsimp only at hSw)
      (go_simp) <;> (with_reducible rfl)
     (try simp only [Act.put, zD, zE, zF])
     refine wpAnyH_ready (rs := [25]) (by kernel_rfl) (by simp) (AllReadyH.cons rfl (fun K hK => ?_) AllReadyH.nil)
     rw [if_pos (by rfl)]
     refine wp_store_expr _ _ rfl w.heap.size 2 0 0 _ _ _ _ _ rfl rfl HB4.out U HU ?_
     refine hK.out _ _ (by rw [← HU.out]; exact ⟨fun i hi => (put6_far _ _ _ i _ _ _ _ _ _ (by omega)).trans (HXY.out i hi), limb_put _ _ _ _ _ _ hMN hbN HH4.out⟩) (fun hHeld => ?_)
     clear hK K
     refine wpAnyH_done (by kernel_rfl) ?_ _
     go_wp2_with fail
     (try simp only [Exit.inBlock, Exit.then])
     refine bodyPost_ret (by simp [results, Tryd.results42, go_sem, u0, u1, u2, u3, u4, u5]; try rfl) rfl ?_
     exact ⟨_, rfl, 1, (exNew_leaf _ _ 2 0 0 _ _ (by omega) (by omega) (hnm j hjr) (xy_size _)).le (by omega), by omega, HGU.out⟩
   ·go_simp
    obtain ⟨W2, hW2⟩ : ∃ W, Hid ((w1.alloc (.cells #[.string ⟨#[120]⟩, .string ⟨#[121]⟩] 9)).drew = W) := ⟨_, Lib.hid rfl⟩
    have hxy2 : ∀ j, j < 2 → ((w1.alloc (.cells #[.string ⟨#[120]⟩, .string ⟨#[121]⟩] 9)).drew).cell? ⟨w1.heap.size, j, none⟩ = some (.string (xy j)) := xy_made w1
    have ha2 : Grew T A len cap w1.drew ((w1.alloc (.cells #[.string ⟨#[120]⟩, .string ⟨#[121]⟩] 9)).drew) := HC1.out.alloc (.cells #[.string ⟨#[120]⟩, .string ⟨#[121]⟩] 9)
    rw [hW2.out] at hxy2 ha2 ⊢
    have hsa2 := ha2.size
    have hsx2 : w1.heap.size < W2.heap.size := by rw [← hW2.out]; exact Nat.lt_of_lt_of_eq (Nat.lt_succ_self _) (Array.size_push _).symm
    have HC2 := Lib.hid (HC1.out.grew ha2)
    have HG2 := Lib.hid (HG1.out.trans ha2)
    have HB2 := Lib.hid (HB1.out.grew ha2 hNT)
    have HH2 := Lib.hid (limb_grew ha2 (by omega) hMT (by omega) hbT hHeld)
    refine hK.out _ _ HH2.out (fun hHeld => ?_)
    clear hK K
    refine wpAnyH_mono (S' := fun w' => (∀ j, j < 2 → w'.cell? ⟨w1.heap.size, j, none⟩ = some (.string (xy j))) ∧ w'.cell? ⟨M, 0, none⟩ = some (.pointer (some ⟨T, 0, none⟩)) ∧ w'.cell? ⟨M, 5, none⟩ = some (.slice (some ⟨b, 0, none⟩) ql qc) ∧ ∀ j, j < ql → w'.cell? ⟨b, j, none⟩ = some (.string (nm j))) (fun _ hh => hh.2) _ _ _ _ ?_
    have hHeld2 := And.intro hxy2 HH2.out
    clear ha2
    (try simp only [Act.put, zD, zE, zF])
    refine wpAnyH_ready (rs := [13]) (by kernel_rfl) (by simp) (AllReadyH.cons rfl (fun K hK => ?_) AllReadyH.nil)
    obtain ⟨p2, p2t⟩ := HC2.out.tape
    go_simp
    refine (next_any _ T A len cap p2 p2t ql hpos hlt).mono ?_
    rintro e w3 ⟨j', jt, rfl, j0, j1, hm3⟩
    obtain ⟨j, rfl⟩ : ∃ i : Nat, j' = (i : Int) := ⟨j'.toNat, by omega⟩
    have hs3 := Nat.le_of_eq hm3.size.symm
    have HC3 := Lib.hid (HC2.out.grew hm3.grew)
    have HG3 := Lib.hid (HG2.out.trans hm3.grew)
    have HB3 := Lib.hid (HB2.out.grew hm3.grew hNT)
    have hjr : j < ql := by omega
    have HH3 := Lib.hid (limb_grew hm3.grew (by omega) hMT (by omega) hbT HH2.out)
    have hxy3 : ∀ i, i < 2 → w3.cell? ⟨w1.heap.size, i, none⟩ = some (.string (xy i)) := fun i hi => (hm3.cell (b := w1.heap.size) (o := i) (by omega)).trans (hxy2 i hi)
    refine hK.out _ _ ⟨hxy3, HH3.out⟩ (fun hHeld => ?_)
    clear hK K hm3
    (try simp only [Act.put, zD, zE, zF])
    refine wpAnyH_take (i := 14) (v := ?_) rfl (by kernel_rfl) (by kernel_rfl) (by kernel_rfl) (fun _ _ _ h => h) (Or.inl ⟨by rfl, ?_⟩) (by assumption) ?_
    rotate_left 1
    ·intro w hSw
     (try dsimp only at hSw)
     (go_simp) <;> (with_reducible rfl)
    (try simp only [Act.put, zD, zE, zF])
    refine wpAnyH_take (i := 15) (v := ?_) rfl (by kernel_rfl) (by kernel_rfl) (by kernel_rfl) (fun _ _ _ h => h) (Or.inl ⟨by rfl, ?_⟩) (by assumption) ?_
    rotate_left 1
    ·intro w hSw
     (try dsimp only at hSw)
     (go_simp) <;> (with_reducible rfl)
    (try simp only [Act.put, zD, zE, zF])
    refine wpAnyH_ready (rs := [21]) (by kernel_rfl) (by simp) (AllReadyH.cons rfl (fun K hK => ?_) AllReadyH.nil)
    obtain ⟨p3, p3t⟩ := HC3.out.tape
    go_simp
    refine (next_any _ T A len cap p3 p3t 2 (by omega) (by omega)).mono ?_
    rintro e w4 ⟨i', it, rfl, i0, i1, hm4⟩
    obtain ⟨i, rfl⟩ : ∃ i : Nat, i' = (i : Int) := ⟨i'.toNat, by omega⟩
    have hs4 := Nat.le_of_eq hm4.size.symm
    have HC4 := Lib.hid (HC3.out.grew hm4.grew)
    have HG4 := Lib.hid (HG3.out.trans hm4.grew)
    have HB4 := Lib.hid (HB3.out.grew hm4.grew hNT)
    have hi2 : i < 2 := by omega
    have HH4 := Lib.hid (limb_grew hm4.grew (by omega) hMT (by omega) hbT HH3.out)
    have HXY : Hid (∀ i, i < 2 → w4.cell? ⟨w1.heap.size, i, none⟩ = some (.string (xy i))) := Lib.hid (fun i hi => (hm4.cell (b := w1.heap.size) (o := i) (by omega)).trans (hxy3 i hi))
    refine hK.out _ _ ⟨HXY.out, HH4.out⟩ (fun hHeld => ?_)
    clear hK K hm4
    (try simp only [Act.put, zD, zE, zF])
    obtain ⟨U, HU, HGU, u0, u1, u2, u3, u4, u5⟩ := put_leaf (m := ⟨M, T, f, funcs, count, left, P, S, some ⟨b, 0, none⟩, R, pl, pc, sl, sc, ql, qc, rl, rc, A, len, cap⟩) (o0 := 2) (o1 := 0) (nm5 := nm j) (fld5 := xy i) rfl hTw HB4.out HG4.out
    refine wpAnyH_take (i := 22) (v := ?_) rfl (by kernel_rfl) (by kernel_rfl) (by kernel_rfl) (fun _ _ _ h => h) (Or.inl ⟨by rfl, ?_⟩) (by assumption) ?_
    rotate_left 1
    ·intro w hSw
     (try dsimp only at hSw)
     (go_simp) <;> (with_reducible rfl)
    (try simp only [Act.put, zD, zE, zF])
    refine wpAnyH_take (i := 23) (v := ?_) rfl (by kernel_rfl) (by kernel_rfl) (by kernel_rfl) (fun _ _ _ h => h) (Or.inl ⟨by rfl, ?_⟩) (by assumption) ?_
    rotate_left 1
    ·intro w hSw
     (try dsimp only at hSw)
     (go_simp) <;> (with_reducible rfl)
    (try simp only [Act.put, zD, zE, zF])
    refine wpAnyH_take (i := 24) (v := ?_) rfl (by kernel_rfl) (by kernel_rfl) (by kernel_rfl) (fun _ _ _ h => h) (Or.inl ⟨by rfl, ?_⟩) (by assumption) ?_
    rotate_left 1
    ·intro w hSw
     (try dsimp only at hSw)
     (go_simp) <;> (with_reducible rfl)
    (try simp only [Act.put, zD, zE, zF])
    refine wpAnyH_ready (rs := [25]) (by kernel_rfl) (by simp) (AllReadyH.cons rfl (fun K hK => ?_) AllReadyH.nil)
    rw [if_pos (by rfl)]
    refine wp_store_expr _ _ rfl w.heap.size 2 0 0 _ _ _ _ _ rfl rfl HB4.out U HU ?_
    refine hK.out _ _ (by rw [← HU.out]; exact ⟨fun i hi => (put6_far _ _ _ i _ _ _ _ _ _ (by omega)).trans (HXY.out i hi), limb_put _ _ _ _ _ _ hMN hbN HH4.out⟩) (fun hHeld => ?_)
    clear hK K
    refine wpAnyH_done (by kernel_rfl) ?_ _
    go_wp2_with fail
    (try simp only [Exit.inBlock, Exit.then])
    refine bodyPost_ret (by simp [results, Tryd.results42, go_sem, u0, u1, u2, u3, u4, u5]; try rfl) rfl ?_
    exact ⟨_, rfl, 1, (exNew_leaf _ _ 2 0 0 _ _ (by omega) (by omega) (hnm j hjr) (xy_size _)).le (by omega), by omega, HGU.out⟩
 ·
   go_wp2_with fail
   obtain ⟨p1, ht1⟩ := HC1.out.tape
   refine (next_any w1 T A len cap p1 ht1 12 (by omega) (by omega)).mono ?_
   rintro e w2 ⟨q, t2, rfl, hq0, hq1, hm2⟩
   obtain ⟨op, hop⟩ : ∃ op : Nat, (op : Int) = 6 + q := ⟨(6 + q).toNat, by omega⟩
   have HC2 := Lib.hid (HC1.out.grew hm2.grew)
   have HG2 := Lib.hid (HG1.out.trans hm2.grew)
   have HB2 := Lib.hid (HB1.out.grew hm2.grew (by omega))
   have hz2 : w.heap.size < w2.heap.size := by have := hm2.size; omega
   clear ht1 hm2
   go_wp2_with fail
   refine (IH.out ⟨M, T, f, funcs, count, left, P, S, Q, R, pl, pc, sl, sc, ql, qc, rl, rc, A, len, cap⟩ w2 (deep + 1) hd1 HC2.out).mono ?_
   rintro e w3 ⟨v1, n1, rfl, hx1, hn1, hg3⟩
   obtain ⟨op1, nu1, vr1, nm1, fld1, A1, l1, c1, rfl⟩ := hx1.shape
   dsimp only at hg3
   obtain ⟨X, hX⟩ : ∃ X, Hid (w3.alloc (.cells #[.int .i64 op1, .int .i64 nu1, .int .i64 vr1, .string nm1, .string fld1, .slice A1 l1 c1] 72) = X) := ⟨_, Lib.hid rfl⟩
   have h3X : Below w3.heap.size w3 X := by rw [← hX.out]; exact (Below.refl _ _).alloc (Nat.le_refl _) _
   have hXb : X.heap[w3.heap.size]? = some (.cells #[.int .i64 op1, .int .i64 nu1, .int .i64 vr1, .string nm1, .string fld1, .slice A1 l1 c1] 72 (0, 0)) := by rw [← hX.out]; exact Array.getElem?_push_size
   have hX0 : X.cell? ⟨w3.heap.size, 0, none⟩ = some (.int .i64 op1) := by rw [cell_of_row X _ 0 _ _ _ hXb]; rfl
   have hX1 : X.cell? ⟨w3.heap.size, 1, none⟩ = some (.int .i64 nu1) := by rw [cell_of_row X _ 1 _ _ _ hXb]; rfl
   have hX2 : X.cell? ⟨w3.heap.size, 2, none⟩ = some (.int .i64 vr1) := by rw [cell_of_row X _ 2 _ _ _ hXb]; rfl
   have hX3 : X.cell? ⟨w3.heap.size, 3, none⟩ = some (.string nm1) := by rw [cell_of_row X _ 3 _ _ _ hXb]; rfl
   have hX4 : X.cell? ⟨w3.heap.size, 4, none⟩ = some (.string fld1) := by rw [cell_of_row X _ 4 _ _ _ hXb]; rfl
   have hX5 : X.cell? ⟨w3.heap.size, 5, none⟩ = some (.slice A1 l1 c1) := by rw [cell_of_row X _ 5 _ _ _ hXb]; rfl
   have hgX := hg3.trans ((HC2.out.grew hg3).below h3X)
   have HCX := Lib.hid (HC2.out.grew hgX).drew
   have HGX := Lib.hid (HG2.out.trans hgX)
   have HBX := Lib.hid (HB2.out.grew hgX (by omega))
   have HX1 := Lib.hid ((hx1.keep (KeptX.below h3X).from).from (B' := w.heap.size + 1) (by omega))
   have hXs : w3.heap.size < X.heap.size := (Array.getElem?_eq_some_iff.1 hXb).1
   have hXT : w3.heap.size ≠ T := by have := hg3.size; omega
   have hzX : w.heap.size < X.heap.size := by have := hg3.size; omega
   have hNX : w3.heap.size ≠ w.heap.size := by have := hg3.size; omega
   clear hg3 hx1 h3X hXb hgX
   go_wp2_with fail
   rw [hX.out]
   have hNT : w.heap.size ≠ T := fun e => absurd hTw (by rw [e]; exact Nat.lt_irrefl T)
   have hne1 : w3.heap.size ≠ w.heap.size := hNX
   have hne2 : w.heap.size ≠ w3.heap.size := fun e => hNX e.symm
   refine wp_region_held_drew (S := fun w' => w'.cell? ⟨w3.heap.size, 0, none⟩ = some (.int .i64 op1) ∧ w'.cell? ⟨w3.heap.size, 1, none⟩ = some (.int .i64 nu1) ∧ w'.cell? ⟨w3.heap.size, 2, none⟩ = some (.int .i64 vr1) ∧ w'.cell? ⟨w3.heap.size, 3, none⟩ = some (.string nm1) ∧ w'.cell? ⟨w3.heap.size, 4, none⟩ = some (.string fld1) ∧ w'.cell? ⟨w3.heap.size, 5, none⟩ = some (.slice A1 l1 c1)) (by kernel_rfl) ⟨hX0, hX1, hX2, hX3, hX4, hX5⟩ (fun hHeld => ?_)
   refine wpAnyH_take (i := 0) (v := ?_) rfl (by kernel_rfl) (by kernel_rfl) (by kernel_rfl) (fun _ _ _ h => h) (Or.inl ⟨by rfl, ?_⟩) (by assumption) ?_
   rotate_left 1
   ·intro w hSw
    (try dsimp only at hSw)
    (go_simp) <;> (with_reducible rfl)
   (try simp only [Act.put, zD, zE, zF])
   refine wpAnyH_take (i := 1) (v := ?_) rfl (by kernel_rfl) (by kernel_rfl) (by kernel_rfl) (fun _ _ _ h => h) (Or.inl ⟨by rfl, ?_⟩) (by assumption) ?_
   rotate_left 1
   ·intro w hSw
    (try dsimp only at hSw)
    (go_simp) <;> (with_reducible rfl)
   (try simp only [Act.put, zD, zE, zF])
   refine wpAnyH_take (i := 2) (v := ?_) rfl (by kernel_rfl) (by kernel_rfl) (by kernel_rfl) (fun _ _ _ h => h) (Or.inl ⟨by rfl, ?_⟩) (by assumption) ?_
   rotate_left 1
   ·intro w hSw
    (try dsimp only at hSw)
    (go_simp) <;> (with_reducible rfl)
   (try simp only [Act.put, zD, zE, zF])
   refine wpAnyH_take (i := 3) (v := ?_) rfl (by kernel_rfl) (by kernel_rfl) (by kernel_rfl) (fun _ _ _ h => h) (Or.inl ⟨by rfl, ?_⟩) (by assumption) ?_
   rotate_left 1
   ·intro w hSw
    (try dsimp only at hSw)
    (go_simp) <;> (with_reducible rfl)
   (try simp only [Act.put, zD, zE, zF])
   refine wpAnyH_take (i := 4) (v := ?_) rfl (by kernel_rfl) (by kernel_rfl) (by kernel_rfl) (fun _ _ _ h => h) (Or.inl ⟨by rfl, ?_⟩) (by assumption) ?_
   rotate_left 1
   ·intro w hSw
    (try dsimp only at hSw)
    (go_simp) <;> (with_reducible rfl)
   (try simp only [Act.put, zD, zE, zF])
   refine wpAnyH_ready (rs := [5]) (by kernel_rfl) (by simp) (AllReadyH.cons rfl (fun K hK => ?_) AllReadyH.nil)
   go_simp
   refine (IH.out ⟨M, T, f, funcs, count, left, P, S, Q, R, pl, pc, sl, sc, ql, qc, rl, rc, A, len, cap⟩ _ (deep + 1) hd1 HCX.out).mono ?_
   rintro e w4 ⟨v2, n2, rfl, hx2, hn2, hg4⟩
   obtain ⟨op2, nu2, vr2, nm2, fld2, A2, l2, c2, rfl⟩ := hx2.shape
   dsimp only at hg4
   obtain ⟨W, U, HW, HZ, HU, HGU, HROW, u0, u1, u2, u3, u4, u5, hN, hS4, hSW, hSU⟩ := put_bin (m := ⟨M, T, f, funcs, count, left, P, S, Q, R, pl, pc, sl, sc, ql, qc, rl, rc, A, len, cap⟩) (o5 := 6 + q) rfl hTw (Zero.drew HBX.out) HGX.out.drew HCX.out HX1.out.drew hx2 hg4 hXs hzX hXT hNX ⟨hX0, hX1, hX2, hX3, hX4, hX5⟩
   rw [← HW.out] at HZ HU hSW
   rw [← hop] at u0
   clear hx2 hg4
   refine hK.out _ _ hS4 (fun hHeld => ?_)
   clear hK K
   (try simp only [Act.put, zD, zE, zF])
   refine wpAnyH_ready (rs := [6]) (by kernel_rfl) (by simp) (AllReadyH.cons rfl (fun K hK => ?_) AllReadyH.nil)
   go_simp
   refine hK.out _ _ hSW (fun hHeld => ?_)
   clear hK K
   (try simp only [Act.put, zD, zE, zF])
   refine wpAnyH_take (i := 7) (v := ?_) rfl (by kernel_rfl) (by kernel_rfl) (by kernel_rfl) (fun _ _ _ h => h) (Or.inl ⟨by rfl, ?_⟩) (by assumption) ?_
   rotate_left 1
   ·intro w hSw
    (try dsimp only at hSw)
    (go_simp) <;> (with_reducible rfl)
   (try simp only [Act.put, zD, zE, zF])
   refine wpAnyH_ready (rs := [8]) (by kernel_rfl) (by simp) (AllReadyH.cons rfl (fun K hK => ?_) AllReadyH.nil)
   rw [if_pos (by rfl)]
   refine wp_store_expr _ _ rfl w.heap.size (6 + q) 0 0 _ _ _ _ _ rfl rfl HZ.out U HU ?_
   refine hK.out _ _ hSU (fun hHeld => ?_)
   clear hK K
   refine wpAnyH_done (by kernel_rfl) ?_ _
   go_wp2_with fail
   (try simp only [Exit.inBlock, Exit.then])
   refine bodyPost_ret (by simp [results, Tryd.results42, go_sem, u0, u1, u2, u3, u4, u5]; try rfl) rfl ?_
   exact ⟨_, rfl, 1 + n1 + n2, ⟨op, 0, 0, _, _, _, 2, 2, [n1, n2], rfl, ⟨by omega, fun _ => by omega, fun hh => by omega⟩, by omega, by decide, by decide, HROW.out, fun _ => ⟨_, _, rfl, by omega⟩, by simp; omega⟩, by omega, HGU.out⟩
 ·
   go_wp2_with fail
   refine (element_any k IH.out ⟨M, T, f, funcs, count, left, P, S, Q, R, pl, pc, sl, sc, ql, qc, rl, rc, A, len, cap⟩ w1 (deep + 1) hd1 HC1.out hl).mono ?_
   rintro e w3 ⟨v, n, rfl, hex, hn, hg3⟩
   obtain ⟨op1, num, vr, nm, fld, A', len', cap', rfl⟩ := hex.shape
   dsimp only at hg3
   have hz3 := HB1.out.grew hg3 (by omega)
   obtain ⟨U, HU, HGU, HX, u0, u1, u2, u3, u4, u5⟩ := put_any (m := ⟨M, T, f, funcs, count, left, P, S, Q, R, pl, pc, sl, sc, ql, qc, rl, rc, A, len, cap⟩) rfl hTw hz3 (HG1.out.trans hg3) (hex.from (by omega))
   have HZ := Lib.hid hz3
   clear hg3 hex hz3
   go_wp2_with (with_reducible show wpList _ _ _ (Oper.mk none (Op.store _ _ _) _ _ _ none :: _) _ _; refine store_expr rfl rfl _ _ rfl w.heap.size op1 num vr _ _ _ _ _ rfl rfl HZ.out U HU ?_)
   (try simp only [Exit.inBlock, Exit.then])
   refine bodyPost_ret (by simp [results, Tryd.results42, go_sem, u0, u1, u2, u3, u4, u5]; try rfl) rfl ?_
   exact ⟨_, n, rfl, HX.out, hn, HGU.out⟩
 ·
   go_wp2_with fail
   obtain ⟨p1, ht1⟩ := HC1.out.tape
   refine (next_any w1 T A len cap p1 ht1 12 (by omega) (by omega)).mono ?_
   rintro e w2 ⟨q, t2, rfl, hq0, hq1, hm2⟩
   obtain ⟨op, hop⟩ : ∃ op : Nat, (op : Int) = 6 + q := ⟨(6 + q).toNat, by omega⟩
   have HC2 := Lib.hid (HC1.out.grew hm2.grew)
   have HG2 := Lib.hid (HG1.out.trans hm2.grew)
   have HB2 := Lib.hid (HB1.out.grew hm2.grew (by omega))
   have hz2 : w.heap.size < w2.heap.size := by have := hm2.size; omega
   clear ht1 hm2
   go_wp2_with fail
   refine (IH.out ⟨M, T, f, funcs, count, left, P, S, Q, R, pl, pc, sl, sc, ql, qc, rl, rc, A, len, cap⟩ w2 (deep + 1) hd1 HC2.out).mono ?_
   rintro e w3 ⟨v1, n1, rfl, hx1, hn1, hg3⟩
   obtain ⟨op1, nu1, vr1, nm1, fld1, A1, l1, c1, rfl⟩ := hx1.shape
   dsimp only at hg3
   obtain ⟨X, hX⟩ : ∃ X, Hid (w3.alloc (.cells #[.int .i64 op1, .int .i64 nu1, .int .i64 vr1, .string nm1, .string fld1, .slice A1 l1 c1] 72) = X) := ⟨_, Lib.hid rfl⟩
   have h3X : Below w3.heap.size w3 X := by rw [← hX.out]; exact (Below.refl _ _).alloc (Nat.le_refl _) _
   have hXb : X.heap[w3.heap.size]? = some (.cells #[.int .i64 op1, .int .i64 nu1, .int .i64 vr1, .string nm1, .string fld1, .slice A1 l1 c1] 72 (0, 0)) := by rw [← hX.out]; exact Array.getElem?_push_size
   have hX0 : X.cell? ⟨w3.heap.size, 0, none⟩ = some (.int .i64 op1) := by rw [cell_of_row X _ 0 _ _ _ hXb]; rfl
   have hX1 : X.cell? ⟨w3.heap.size, 1, none⟩ = some (.int .i64 nu1) := by rw [cell_of_row X _ 1 _ _ _ hXb]; rfl
   have hX2 : X.cell? ⟨w3.heap.size, 2, none⟩ = some (.int .i64 vr1) := by rw [cell_of_row X _ 2 _ _ _ hXb]; rfl
   have hX3 : X.cell? ⟨w3.heap.size, 3, none⟩ = some (.string nm1) := by rw [cell_of_row X _ 3 _ _ _ hXb]; rfl
   have hX4 : X.cell? ⟨w3.heap.size, 4, none⟩ = some (.string fld1) := by rw [cell_of_row X _ 4 _ _ _ hXb]; rfl
   have hX5 : X.cell? ⟨w3.heap.size, 5, none⟩ = some (.slice A1 l1 c1) := by rw [cell_of_row X _ 5 _ _ _ hXb]; rfl
   have hgX := hg3.trans ((HC2.out.grew hg3).below h3X)
   have HCX := Lib.hid (HC2.out.grew hgX).drew
   have HGX := Lib.hid (HG2.out.trans hgX)
   have HBX := Lib.hid (HB2.out.grew hgX (by omega))
   have HX1 := Lib.hid ((hx1.keep (KeptX.below h3X).from).from (B' := w.heap.size + 1) (by omega))
   have hXs : w3.heap.size < X.heap.size := (Array.getElem?_eq_some_iff.1 hXb).1
   have hXT : w3.heap.size ≠ T := by have := hg3.size; omega
   have hzX : w.heap.size < X.heap.size := by have := hg3.size; omega
   have hNX : w3.heap.size ≠ w.heap.size := by have := hg3.size; omega
   clear hg3 hx1 h3X hXb hgX
   go_wp2_with fail
   rw [hX.out]
   have hNT : w.heap.size ≠ T := fun e => absurd hTw (by rw [e]; exact Nat.lt_irrefl T)
   have hne1 : w3.heap.size ≠ w.heap.size := hNX
   have hne2 : w.heap.size ≠ w3.heap.size := fun e => hNX e.symm
   refine wp_region_held_drew (S := fun w' => w'.cell? ⟨w3.heap.size, 0, none⟩ = some (.int .i64 op1) ∧ w'.cell? ⟨w3.heap.size, 1, none⟩ = some (.int .i64 nu1) ∧ w'.cell? ⟨w3.heap.size, 2, none⟩ = some (.int .i64 vr1) ∧ w'.cell? ⟨w3.heap.size, 3, none⟩ = some (.string nm1) ∧ w'.cell? ⟨w3.heap.size, 4, none⟩ = some (.string fld1) ∧ w'.cell? ⟨w3.heap.size, 5, none⟩ = some (.slice A1 l1 c1)) (by kernel_rfl) ⟨hX0, hX1, hX2, hX3, hX4, hX5⟩ (fun hHeld => ?_)
   refine wpAnyH_take (i := 0) (v := ?_) rfl (by kernel_rfl) (by kernel_rfl) (by kernel_rfl) (fun _ _ _ h => h) (Or.inl ⟨by rfl, ?_⟩) (by assumption) ?_
   rotate_left 1
   ·intro w hSw
    (try dsimp only at hSw)
    (go_simp) <;> (with_reducible rfl)
   (try simp only [Act.put, zD, zE, zF])
   refine wpAnyH_take (i := 1) (v := ?_) rfl (by kernel_rfl) (by kernel_rfl) (by kernel_rfl) (fun _ _ _ h => h) (Or.inl ⟨by rfl, ?_⟩) (by assumption) ?_
   rotate_left 1
   ·intro w hSw
    (try dsimp only at hSw)
    (go_simp) <;> (with_reducible rfl)
   (try simp only [Act.put, zD, zE, zF])
   refine wpAnyH_take (i := 2) (v := ?_) rfl (by kernel_rfl) (by kernel_rfl) (by kernel_rfl) (fun _ _ _ h => h) (Or.inl ⟨by rfl, ?_⟩) (by assumption) ?_
   rotate_left 1
   ·intro w hSw
    (try dsimp only at hSw)
    (go_simp) <;> (with_reducible rfl)
   (try simp only [Act.put, zD, zE, zF])
   refine wpAnyH_take (i := 3) (v := ?_) rfl (by kernel_rfl) (by kernel_rfl) (by kernel_rfl) (fun _ _ _ h => h) (Or.inl ⟨by rfl, ?_⟩) (by assumption) ?_
   rotate_left 1
   ·intro w hSw
    (try dsimp only at hSw)
    (go_simp) <;> (with_reducible rfl)
   (try simp only [Act.put, zD, zE, zF])
   refine wpAnyH_take (i := 4) (v := ?_) rfl (by kernel_rfl) (by kernel_rfl) (by kernel_rfl) (fun _ _ _ h => h) (Or.inl ⟨by rfl, ?_⟩) (by assumption) ?_
   rotate_left 1
   ·intro w hSw
    (try dsimp only at hSw)
    (go_simp) <;> (with_reducible rfl)
   (try simp only [Act.put, zD, zE, zF])
   refine wpAnyH_ready (rs := [5]) (by kernel_rfl) (by simp) (AllReadyH.cons rfl (fun K hK => ?_) AllReadyH.nil)
   go_simp
   refine (IH.out ⟨M, T, f, funcs, count, left, P, S, Q, R, pl, pc, sl, sc, ql, qc, rl, rc, A, len, cap⟩ _ (deep + 1) hd1 HCX.out).mono ?_
   rintro e w4 ⟨v2, n2, rfl, hx2, hn2, hg4⟩
   obtain ⟨op2, nu2, vr2, nm2, fld2, A2, l2, c2, rfl⟩ := hx2.shape
   dsimp only at hg4
   obtain ⟨W, U, HW, HZ, HU, HGU, HROW, u0, u1, u2, u3, u4, u5, hN, hS4, hSW, hSU⟩ := put_bin (m := ⟨M, T, f, funcs, count, left, P, S, Q, R, pl, pc, sl, sc, ql, qc, rl, rc, A, len, cap⟩) (o5 := 6 + q) rfl hTw (Zero.drew HBX.out) HGX.out.drew HCX.out HX1.out.drew hx2 hg4 hXs hzX hXT hNX ⟨hX0, hX1, hX2, hX3, hX4, hX5⟩
   rw [← HW.out] at HZ HU hSW
   rw [← hop] at u0
   clear hx2 hg4
   refine hK.out _ _ hS4 (fun hHeld => ?_)
   clear hK K
   (try simp only [Act.put, zD, zE, zF])
   refine wpAnyH_ready (rs := [6]) (by kernel_rfl) (by simp) (AllReadyH.cons rfl (fun K hK => ?_) AllReadyH.nil)
   go_simp
   refine hK.out _ _ hSW (fun hHeld => ?_)
   clear hK K
   (try simp only [Act.put, zD, zE, zF])
   refine wpAnyH_take (i := 7) (v := ?_) rfl (by kernel_rfl) (by kernel_rfl) (by kernel_rfl) (fun _ _ _ h => h) (Or.inl ⟨by rfl, ?_⟩) (by assumption) ?_
   rotate_left 1
   ·intro w hSw
    (try dsimp only at hSw)
    (go_simp) <;> (with_reducible rfl)
   (try simp only [Act.put, zD, zE, zF])
   refine wpAnyH_ready (rs := [8]) (by kernel_rfl) (by simp) (AllReadyH.cons rfl (fun K hK => ?_) AllReadyH.nil)
   rw [if_pos (by rfl)]
   refine wp_store_expr _ _ rfl w.heap.size (6 + q) 0 0 _ _ _ _ _ rfl rfl HZ.out U HU ?_
   refine hK.out _ _ hSU (fun hHeld => ?_)
   clear hK K
   refine wpAnyH_done (by kernel_rfl) ?_ _
   go_wp2_with fail
   (try simp only [Exit.inBlock, Exit.then])
   refine bodyPost_ret (by simp [results, Tryd.results42, go_sem, u0, u1, u2, u3, u4, u5]; try rfl) rfl ?_
   exact ⟨_, rfl, 1 + n1 + n2, ⟨op, 0, 0, _, _, _, 2, 2, [n1, n2], rfl, ⟨by omega, fun _ => by omega, fun hh => by omega⟩, by omega, by decide, by decide, HROW.out, fun _ => ⟨_, _, rfl, by omega⟩, by simp; omega⟩, by omega, HGU.out⟩
 ·
   go_wp2_with fail
   obtain ⟨p1, ht1⟩ := HC1.out.tape
   refine (next_any w1 T A len cap p1 ht1 2 (by omega) (by omega)).mono ?_
   rintro e w2 ⟨q, t2, rfl, hq0, hq1, hm2⟩
   obtain ⟨op, hop⟩ : ∃ op : Nat, (op : Int) = 4 + q := ⟨(4 + q).toNat, by omega⟩
   have HC2 := Lib.hid (HC1.out.grew hm2.grew)
   have HG2 := Lib.hid (HG1.out.trans hm2.grew)
   have HB2 := Lib.hid (HB1.out.grew hm2.grew (by omega))
   have hz2 : w.heap.size < w2.heap.size := by have := hm2.size; omega
   clear ht1 hm2
   go_wp2_with fail
   refine (IH.out ⟨M, T, f, funcs, count, left, P, S, Q, R, pl, pc, sl, sc, ql, qc, rl, rc, A, len, cap⟩ w2 (deep + 1) hd1 HC2.out).mono ?_
   rintro e w3 ⟨v, n, rfl, hex, hn, hg3⟩
   obtain ⟨op1, num, vr, nm, fld, A', len', cap', rfl⟩ := hex.shape
   dsimp only at hg3
   obtain ⟨W, U, HW, HZ, HU, HGU, HROW, u0, u1, u2, u3, u4, u5, hN⟩ := put_row (m := ⟨M, T, f, funcs, count, left, P, S, Q, R, pl, pc, sl, sc, ql, qc, rl, rc, A, len, cap⟩) (o5 := 4 + q) (nm5 := ⟨#[]⟩) (fld5 := ⟨#[]⟩) rfl hTw (HB2.out.grew hg3 (by omega)) (HG2.out.trans hg3) (HC2.out.grew hg3) (hex.from (by omega))
   rw [← HW.out] at HZ HU
   rw [← hop] at u0
   clear hg3 hex
   go_wp2_with (with_reducible show wpList _ _ _ (Oper.mk none (Op.store _ _ _) _ _ _ none :: _) _ _; refine store_expr rfl rfl _ _ rfl w.heap.size (4 + q) 0 0 _ _ _ _ _ rfl rfl HZ.out U HU ?_)
   (try simp only [Exit.inBlock, Exit.then])
   refine bodyPost_ret (by simp [results, Tryd.results42, go_sem, u0, u1, u2, u3, u4, u5]; try rfl) rfl ?_
   exact ⟨_, 1 + n, rfl, ⟨op, 0, 0, _, _, _, 1, 1, [n], rfl, ⟨by omega, fun _ => Nat.le_refl _, fun hh => by omega⟩, by omega, by decide, by decide, HROW.out, fun _ => ⟨_, _, rfl, by omega⟩, by simp⟩, by omega, HGU.out⟩
 ·
   go_wp2_with fail
   obtain ⟨p1, ht1⟩ := HC1.out.tape
   refine (next_any w1 T A len cap p1 ht1 12 (by omega) (by omega)).mono ?_
   rintro e w2 ⟨q, t2, rfl, hq0, hq1, hm2⟩
   obtain ⟨op, hop⟩ : ∃ op : Nat, (op : Int) = 6 + q := ⟨(6 + q).toNat, by omega⟩
   have HC2 := Lib.hid (HC1.out.grew hm2.grew)
   have HG2 := Lib.hid (HG1.out.trans hm2.grew)
   have HB2 := Lib.hid (HB1.out.grew hm2.grew (by omega))
   have hz2 : w.heap.size < w2.heap.size := by have := hm2.size; omega
   clear ht1 hm2
   go_wp2_with fail
   refine (IH.out ⟨M, T, f, funcs, count, left, P, S, Q, R, pl, pc, sl, sc, ql, qc, rl, rc, A, len, cap⟩ w2 (deep + 1) hd1 HC2.out).mono ?_
   rintro e w3 ⟨v1, n1, rfl, hx1, hn1, hg3⟩
   obtain ⟨op1, nu1, vr1, nm1, fld1, A1, l1, c1, rfl⟩ := hx1.shape
   dsimp only at hg3
   obtain ⟨X, hX⟩ : ∃ X, Hid (w3.alloc (.cells #[.int .i64 op1, .int .i64 nu1, .int .i64 vr1, .string nm1, .string fld1, .slice A1 l1 c1] 72) = X) := ⟨_, Lib.hid rfl⟩
   have h3X : Below w3.heap.size w3 X := by rw [← hX.out]; exact (Below.refl _ _).alloc (Nat.le_refl _) _
   have hXb : X.heap[w3.heap.size]? = some (.cells #[.int .i64 op1, .int .i64 nu1, .int .i64 vr1, .string nm1, .string fld1, .slice A1 l1 c1] 72 (0, 0)) := by rw [← hX.out]; exact Array.getElem?_push_size
   have hX0 : X.cell? ⟨w3.heap.size, 0, none⟩ = some (.int .i64 op1) := by rw [cell_of_row X _ 0 _ _ _ hXb]; rfl
   have hX1 : X.cell? ⟨w3.heap.size, 1, none⟩ = some (.int .i64 nu1) := by rw [cell_of_row X _ 1 _ _ _ hXb]; rfl
   have hX2 : X.cell? ⟨w3.heap.size, 2, none⟩ = some (.int .i64 vr1) := by rw [cell_of_row X _ 2 _ _ _ hXb]; rfl
   have hX3 : X.cell? ⟨w3.heap.size, 3, none⟩ = some (.string nm1) := by rw [cell_of_row X _ 3 _ _ _ hXb]; rfl
   have hX4 : X.cell? ⟨w3.heap.size, 4, none⟩ = some (.string fld1) := by rw [cell_of_row X _ 4 _ _ _ hXb]; rfl
   have hX5 : X.cell? ⟨w3.heap.size, 5, none⟩ = some (.slice A1 l1 c1) := by rw [cell_of_row X _ 5 _ _ _ hXb]; rfl
   have hgX := hg3.trans ((HC2.out.grew hg3).below h3X)
   have HCX := Lib.hid (HC2.out.grew hgX).drew
   have HGX := Lib.hid (HG2.out.trans hgX)
   have HBX := Lib.hid (HB2.out.grew hgX (by omega))
   have HX1 := Lib.hid ((hx1.keep (KeptX.below h3X).from).from (B' := w.heap.size + 1) (by omega))
   have hXs : w3.heap.size < X.heap.size := (Array.getElem?_eq_some_iff.1 hXb).1
   have hXT : w3.heap.size ≠ T := by have := hg3.size; omega
   have hzX : w.heap.size < X.heap.size := by have := hg3.size; omega
   have hNX : w3.heap.size ≠ w.heap.size := by have := hg3.size; omega
   clear hg3 hx1 h3X hXb hgX
   go_wp2_with fail
   rw [hX.out]
   have hNT : w.heap.size ≠ T := fun e => absurd hTw (by rw [e]; exact Nat.lt_irrefl T)
   have hne1 : w3.heap.size ≠ w.heap.size := hNX
   have hne2 : w.heap.size ≠ w3.heap.size := fun e => hNX e.symm
   refine wp_region_held_drew (S := fun w' => w'.cell? ⟨w3.heap.size, 0, none⟩ = some (.int .i64 op1) ∧ w'.cell? ⟨w3.heap.size, 1, none⟩ = some (.int .i64 nu1) ∧ w'.cell? ⟨w3.heap.size, 2, none⟩ = some (.int .i64 vr1) ∧ w'.cell? ⟨w3.heap.size, 3, none⟩ = some (.string nm1) ∧ w'.cell? ⟨w3.heap.size, 4, none⟩ = some (.string fld1) ∧ w'.cell? ⟨w3.heap.size, 5, none⟩ = some (.slice A1 l1 c1)) (by kernel_rfl) ⟨hX0, hX1, hX2, hX3, hX4, hX5⟩ (fun hHeld => ?_)
   refine wpAnyH_take (i := 0) (v := ?_) rfl (by kernel_rfl) (by kernel_rfl) (by kernel_rfl) (fun _ _ _ h => h) (Or.inl ⟨by rfl, ?_⟩) (by assumption) ?_
   rotate_left 1
   ·intro w hSw
    (try dsimp only at hSw)
    (go_simp) <;> (with_reducible rfl)
   (try simp only [Act.put, zD, zE, zF])
   refine wpAnyH_take (i := 1) (v := ?_) rfl (by kernel_rfl) (by kernel_rfl) (by kernel_rfl) (fun _ _ _ h => h) (Or.inl ⟨by rfl, ?_⟩) (by assumption) ?_
   rotate_left 1
   ·intro w hSw
    (try dsimp only at hSw)
    (go_simp) <;> (with_reducible rfl)
   (try simp only [Act.put, zD, zE, zF])
   refine wpAnyH_take (i := 2) (v := ?_) rfl (by kernel_rfl) (by kernel_rfl) (by kernel_rfl) (fun _ _ _ h => h) (Or.inl ⟨by rfl, ?_⟩) (by assumption) ?_
   rotate_left 1
   ·intro w hSw
    (try dsimp only at hSw)
    (go_simp) <;> (with_reducible rfl)
   (try simp only [Act.put, zD, zE, zF])
   refine wpAnyH_take (i := 3) (v := ?_) rfl (by kernel_rfl) (by kernel_rfl) (by kernel_rfl) (fun _ _ _ h => h) (Or.inl ⟨by rfl, ?_⟩) (by assumption) ?_
   rotate_left 1
   ·intro w hSw
    (try dsimp only at hSw)
    (go_simp) <;> (with_reducible rfl)
   (try simp only [Act.put, zD, zE, zF])
   refine wpAnyH_take (i := 4) (v := ?_) rfl (by kernel_rfl) (by kernel_rfl) (by kernel_rfl) (fun _ _ _ h => h) (Or.inl ⟨by rfl, ?_⟩) (by assumption) ?_
   rotate_left 1
   ·intro w hSw
    (try dsimp only at hSw)
    (go_simp) <;> (with_reducible rfl)
   (try simp only [Act.put, zD, zE, zF])
   refine wpAnyH_ready (rs := [5]) (by kernel_rfl) (by simp) (AllReadyH.cons rfl (fun K hK => ?_) AllReadyH.nil)
   go_simp
   refine (IH.out ⟨M, T, f, funcs, count, left, P, S, Q, R, pl, pc, sl, sc, ql, qc, rl, rc, A, len, cap⟩ _ (deep + 1) hd1 HCX.out).mono ?_
   rintro e w4 ⟨v2, n2, rfl, hx2, hn2, hg4⟩
   obtain ⟨op2, nu2, vr2, nm2, fld2, A2, l2, c2, rfl⟩ := hx2.shape
   dsimp only at hg4
   obtain ⟨W, U, HW, HZ, HU, HGU, HROW, u0, u1, u2, u3, u4, u5, hN, hS4, hSW, hSU⟩ := put_bin (m := ⟨M, T, f, funcs, count, left, P, S, Q, R, pl, pc, sl, sc, ql, qc, rl, rc, A, len, cap⟩) (o5 := 6 + q) rfl hTw (Zero.drew HBX.out) HGX.out.drew HCX.out HX1.out.drew hx2 hg4 hXs hzX hXT hNX ⟨hX0, hX1, hX2, hX3, hX4, hX5⟩
   rw [← HW.out] at HZ HU hSW
   rw [← hop] at u0
   clear hx2 hg4
   refine hK.out _ _ hS4 (fun hHeld => ?_)
   clear hK K
   (try simp only [Act.put, zD, zE, zF])
   refine wpAnyH_ready (rs := [6]) (by kernel_rfl) (by simp) (AllReadyH.cons rfl (fun K hK => ?_) AllReadyH.nil)
   go_simp
   refine hK.out _ _ hSW (fun hHeld => ?_)
   clear hK K
   (try simp only [Act.put, zD, zE, zF])
   refine wpAnyH_take (i := 7) (v := ?_) rfl (by kernel_rfl) (by kernel_rfl) (by kernel_rfl) (fun _ _ _ h => h) (Or.inl ⟨by rfl, ?_⟩) (by assumption) ?_
   rotate_left 1
   ·intro w hSw
    (try dsimp only at hSw)
    (go_simp) <;> (with_reducible rfl)
   (try simp only [Act.put, zD, zE, zF])
   refine wpAnyH_ready (rs := [8]) (by kernel_rfl) (by simp) (AllReadyH.cons rfl (fun K hK => ?_) AllReadyH.nil)
   rw [if_pos (by rfl)]
   refine wp_store_expr _ _ rfl w.heap.size (6 + q) 0 0 _ _ _ _ _ rfl rfl HZ.out U HU ?_
   refine hK.out _ _ hSU (fun hHeld => ?_)
   clear hK K
   refine wpAnyH_done (by kernel_rfl) ?_ _
   go_wp2_with fail
   (try simp only [Exit.inBlock, Exit.then])
   refine bodyPost_ret (by simp [results, Tryd.results42, go_sem, u0, u1, u2, u3, u4, u5]; try rfl) rfl ?_
   exact ⟨_, rfl, 1 + n1 + n2, ⟨op, 0, 0, _, _, _, 2, 2, [n1, n2], rfl, ⟨by omega, fun _ => by omega, fun hh => by omega⟩, by omega, by decide, by decide, HROW.out, fun _ => ⟨_, _, rfl, by omega⟩, by simp; omega⟩, by omega, HGU.out⟩
end Go.Proofs.YtchibamdkaejdaaDoor
