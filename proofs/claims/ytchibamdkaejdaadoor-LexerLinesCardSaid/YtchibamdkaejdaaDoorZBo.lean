/-
  The walk of the generator's body. Conditions: the maker with rows of its own, and what stmts makes.
-/
import Derived.Test.YtchibamdkaejdaaDoorZA
import Derived.Test.YtchibamdkaejdaaDoorZCx
namespace Go.Proofs.YtchibamdkaejdaaDoor
open Go.RowKit
variable {lo : Nat}

theorem NameOwn.base {w : World} {B D l c : Nat} {A : Option Addr} (h : NameOwn w D A l c) (hB : B ≤ D) : NameOwn w B A l c := by
 obtain ⟨xs, ⟨h1, h2⟩, h3⟩ := h
 refine ⟨xs, ⟨h1, ?_⟩, h3⟩
 rcases h2 with h2 | ⟨g, cap, cur, e, hb, hr⟩
 ·exact .inl h2
 ·exact .inr ⟨g, cap, cur, e, Nat.le_trans hB hb, hr⟩
theorem NameOwn.made (w : World) {D : Nat} (hD : D ≤ w.heap.size) : NameOwn (w.alloc (.cells #[] 9)) D (some ⟨w.heap.size, 0, none⟩) 0 0 :=
 ⟨[], World.ownsRow_made w #[] 0 hD (by decide) rfl, fun _ hx => absurd hx (by simp)⟩
theorem NameOwn.alloc {w : World} {D l c : Nat} {A : Option Addr} (h : NameOwn w D A l c) (o : Obj) : NameOwn (w.alloc o) D A l c := h.kept (fun g hg => ((Below.refl w.heap.size w).alloc (Nat.le_refl _) o).block g (h.place g hg).2.1)
theorem NameOwn.far {w : World} {D l c : Nat} {A : Option Addr} (h : NameOwn w D A l c) : blk A ≠ blk (some ⟨w.heap.size, 0, none⟩) := fun e => by
 have := (h.place w.heap.size e).2.1
 omega
theorem NameOwn.beside {w w' : World} {D l c : Nat} {A X : Option Addr} (h : NameOwn w D A l c) (g : w.grownBy w' (blk X)) (hd : blk A ≠ blk X) : NameOwn w' D A l c := h.kept (fun x hx => g.block x (h.place x hx).2.1 (by rw [← hx]; exact hd))
theorem dis_step {w : World} {D l c : Nat} {A X X' : Option Addr} (h : NameOwn w D A l c) (hd : blk A ≠ blk X) (hp : blk X' = blk X ∨ blk X' = some w.heap.size) : blk A ≠ blk X' := by
 rcases hp with e | e
 ·rw [e]; exact hd
 ·rw [e]; exact h.far
theorem body_S {B : Nat} {m : Mk} {w : World} (h : Cx lo B m w) : w.cell? ⟨m.M, 4, none⟩ = some (.slice m.S m.sl m.sc) ∧ w.cell? ⟨m.M, 5, none⟩ = some (.slice m.Q m.ql m.qc) ∧ w.cell? ⟨m.M, 6, none⟩ = some (.slice m.R m.rl m.rc) :=
 ⟨h.maker.cell 4 _ rfl, h.maker.cell 5 _ rfl, h.maker.cell 6 _ rfl⟩
theorem body_fin {B : Nat} {m : Mk} {w : World} (h : Cx lo B m w) {S Q R : Option Addr} {sl sc ql qc rl rc : Nat} (hs : NameOwn w B S sl sc) (hq : NameOwn w B Q ql qc) (hr : NameOwn w B R rl rc) (sq : blk S ≠ blk Q) (sr : blk S ≠ blk R) (qr : blk Q ≠ blk R)
  (h1 : sl ≤ m.sl) (h2 : ql ≤ m.ql) (h3 : rl ≤ m.rl) :
  Cx lo B { m with S := S, Q := Q, R := R, sl := sl, sc := sc, ql := ql, qc := qc, rl := rl, rc := rc } (((w.setCell ⟨m.M, 4, none⟩ (.slice S sl sc)).setCell ⟨m.M, 5, none⟩ (.slice Q ql qc)).setCell ⟨m.M, 6, none⟩ (.slice R rl rc)) ∧
   Went lo B w (((w.setCell ⟨m.M, 4, none⟩ (.slice S sl sc)).setCell ⟨m.M, 5, none⟩ (.slice Q ql qc)).setCell ⟨m.M, 6, none⟩ (.slice R rl rc)) := by
 have a1 := setB_cell (o := 4) (.slice S sl sc) h.maker.block
 have a2 := setB_cell (o := 5) (.slice Q ql qc) a1.at_
 have a3 := setB_cell (o := 6) (.slice R rl rc) a2.at_
 have hn := h.num
 have g1 := hn.s
 have g2 := hn.q
 have g3 := hn.r
 exact h.turn (count := m.count) (left := m.left) (S := S) (Q := Q) (R := R) (sl := sl) (sc := sc) (ql := ql) (qc := qc) (rl := rl) (rc := rc) ⟨rfl, rfl, rfl, by rw [a3.size, a2.size, a1.size]; exact Nat.le_refl _, fun b _ hb => (a3.block b hb).trans ((a2.block b hb).trans (a1.block b hb))⟩ ⟨a3.at_⟩ hs hq hr (.inr sq) (.inr sr) (.inr qr)
  ⟨hn.count0, hn.left0, hn.sum, by show (sl : Int) ≤ 4 + m.count; omega, by show (ql : Int) ≤ m.count; omega, by show (rl : Int) ≤ m.count; omega, hn.f0, hn.f1, hn.funcs⟩
theorem kin_body {m m1 : Mk} (h : Kin m m1) {S Q R : Option Addr} {sl sc ql qc rl rc : Nat} (h1 : m.sl = sl) (h2 : m.ql = ql) (h3 : m.rl = rl) : Kin m { m1 with S := S, Q := Q, R := R, sl := sl, sc := sc, ql := ql, qc := qc, rl := rl, rc := rc } :=
 ⟨h.M, h.T, h.f, h.funcs, h.P, h.pl, h.pc, h.A, h.len, h.cap, Nat.le_of_eq h1, Nat.le_of_eq h2, Nat.le_of_eq h3, h.count⟩
theorem Cx.drewN {B : Nat} {m : Mk} {w : World} (h : Cx lo B m w) (n : Nat) : Cx lo B m (w.drewN n) := h.below ⟨rfl, rfl, rfl, Nat.le_refl _, fun _ _ => rfl⟩
theorem Went.drewN {B : Nat} (w : World) (n : Nat) : Went lo B w (w.drewN n) := Went.of_below ⟨rfl, rfl, rfl, Nat.le_refl _, fun _ _ => rfl⟩
theorem Cx.drew {B : Nat} {m : Mk} {w : World} (h : Cx lo B m w) : Cx lo B m w.drew := h.below ⟨rfl, rfl, rfl, Nat.le_refl _, fun _ _ => rfl⟩

set_option linter.unusedSimpArgs false in
set_option maxHeartbeats 20000000 in
set_option maxRecDepth 100000 in
theorem body_any (nest d : Nat) (ih : StmtsAt nest d) : BodyAt nest d := by
 intro lo B m w most hmost h
 have IH := @Lib.hid (StmtsAt nest d) @ih
 clear ih
 have e4 := h.maker.cell 4 (.slice m.S m.sl m.sc) rfl
 have e5 := h.maker.cell 5 (.slice m.Q m.ql m.qc) rfl
 have e6 := h.maker.cell 6 (.slice m.R m.rl m.rc) rfl
 have HC := Lib.hid h
 obtain ⟨a, ha⟩ : ∃ a, m.sl = a := ⟨_, rfl⟩
 obtain ⟨b, hb⟩ : ∃ b, m.ql = b := ⟨_, rfl⟩
 obtain ⟨c, hc⟩ : ∃ c, m.rl = c := ⟨_, rfl⟩
 rw [ha] at e4
 rw [hb] at e5
 rw [hc] at e6
 have HA := Lib.hid ha
 have HBb := Lib.hid hb
 have HCc := Lib.hid hc
 clear h ha hb hc
 go_enter Tryd.func43, Tryd.ntmps43
 go_wp2_with fail
 go_quiet (fail)
 go_wp2_with fail
 refine (IH.out B m (w.drewN nq) most hmost (HC.out.drewN nq)).mono ?_
 rintro e w1 ⟨A0, l0, c0, ns, m1, rfl, hrow, hl20, hkin, hleft, hcl, hsum, hc1, hw1⟩
 have HKIN := Lib.hid hkin
 have hM := hkin.M
 have hsa : a ≤ m1.sl := by have := hkin.s; have := HA.out; omega
 have hqb : b ≤ m1.ql := by have := hkin.q; have := HBb.out; omega
 have hrc : c ≤ m1.rl := by have := hkin.r; have := HCc.out; omega
 obtain ⟨M, hMM⟩ : ∃ M, m.M = M := ⟨_, rfl⟩
 rw [hMM] at hM e4 e5 e6
 have HROW := Lib.hid hrow
 have HW1 := Lib.hid ((Went.drewN (lo := lo) (B := B) w nq).trans hw1)
 have HC1 := Lib.hid hc1.drew
 have HCb := Lib.hid hc1
 have hn := hc1.num
 have hs24 : m1.sl ≤ 1000 := by have h1 := hn.s; have h2 := hn.sum; have h3 := hn.left0; omega
 have hq24 : m1.ql ≤ 1000 := by have h1 := hn.q; have h2 := hn.sum; have h3 := hn.left0; omega
 have hr24 : m1.rl ≤ 1000 := by have h1 := hn.r; have h2 := hn.sum; have h3 := hn.left0; omega
 have hBw : B ≤ w1.heap.size := hc1.lt
 have HNUM := Lib.hid (show 0 ≤ m1.left ∧ m1.left ≤ m.left ∧ m1.count + m1.left ≤ m.count + m.left ∧ (ns.sum : Int) ≤ 100 * (m.left - m1.left) from ⟨hn.left0, hleft, hcl, hsum⟩)
 have hS0 := body_S hc1.drew
 rw [hM] at hS0
 have HL3 := Lib.hid hS0
 have HMM := Lib.hid hMM
 have HMe := Lib.hid hM
 rw [hMM]
 clear hrow hw1 hc1 hn hkin hleft hcl hsum hS0 hMM hM e4 e5 e6
 go_wp2_with fail
 refine wp_region_U (S := fun w' => w'.cell? ⟨M, 4, none⟩ = some (.slice m1.S m1.sl m1.sc) ∧ w'.cell? ⟨M, 5, none⟩ = some (.slice m1.Q m1.ql m1.qc) ∧ w'.cell? ⟨M, 6, none⟩ = some (.slice m1.R m1.rl m1.rc)) (L := [3, 7, 9, 10, 11, 15, 17, 18, 19, 23, 25, 26]) (by kernel_rfl) ?_
 refine wpAnyU_late (i := 0) (v := ?_) rfl (by kernel_rfl) (by kernel_rfl) (by kernel_rfl) (by kernel_rfl) (fun _ _ _ h => h) (Or.inl ⟨by rfl, ?_⟩) ?_
 rotate_left 1
 ·intro w hSw
  clear hSw
  (go_simp) <;> (with_reducible rfl)
 (try simp only [Act.put, zA, zB, zC, zD, zE, zF])
 refine wpAnyU_late (i := 1) (v := ?_) rfl (by kernel_rfl) (by kernel_rfl) (by kernel_rfl) (by kernel_rfl) (fun _ _ _ h => h) (Or.inl ⟨by rfl, ?_⟩) ?_
 rotate_left 1
 ·intro w hSw
  clear hSw
  (go_simp) <;> (with_reducible rfl)
 (try simp only [Act.put, zA, zB, zC, zD, zE, zF])
 refine wpAnyU_late (i := 2) (v := ?_) rfl (by kernel_rfl) (by kernel_rfl) (by kernel_rfl) (by kernel_rfl) (fun _ _ _ h => h) (Or.inl ⟨by rfl, ?_⟩) ?_
 rotate_left 1
 ·intro w hSw
  clear hSw
  (go_simp) <;> (with_reducible rfl)
 (try simp only [Act.put, zA, zB, zC, zD, zE, zF])
 refine wpAnyU_late (i := 4) (v := ?_) rfl (by kernel_rfl) (by kernel_rfl) (by kernel_rfl) (by kernel_rfl) (fun _ _ _ h => h) (Or.inl ⟨by rfl, ?_⟩) ?_
 rotate_left 1
 ·intro w hSw
  clear hSw
  (go_simp) <;> (with_reducible rfl)
 (try simp only [Act.put, zA, zB, zC, zD, zE, zF])
 refine wpAnyU_late (i := 5) (v := ?_) rfl (by kernel_rfl) (by kernel_rfl) (by kernel_rfl) (by kernel_rfl) (fun _ _ _ h => h) (Or.inl ⟨by rfl, ?_⟩) ?_
 rotate_left 1
 ·intro w hSw
  clear hSw
  (go_simp) <;> (with_reducible rfl)
 (try simp only [Act.put, zA, zB, zC, zD, zE, zF])
 refine wpAnyU_late (i := 6) (v := ?_) rfl (by kernel_rfl) (by kernel_rfl) (by kernel_rfl) (by kernel_rfl) (fun _ _ _ h => h) (Or.inl ⟨by rfl, ?_⟩) ?_
 rotate_left 1
 ·intro w hSw
  clear hSw
  (go_simp) <;> (with_reducible rfl)
 (try simp only [Act.put, zA, zB, zC, zD, zE, zF])
 refine wpAnyU_late (i := 8) (v := ?_) rfl (by kernel_rfl) (by kernel_rfl) (by kernel_rfl) (by kernel_rfl) (fun _ _ _ h => h) (Or.inl ⟨by rfl, ?_⟩) ?_
 rotate_left 1
 ·intro w hSw
  clear hSw
  (go_simp) <;> (with_reducible rfl)
 (try simp only [Act.put, zA, zB, zC, zD, zE, zF])
 refine wpAnyU_late (i := 12) (v := ?_) rfl (by kernel_rfl) (by kernel_rfl) (by kernel_rfl) (by kernel_rfl) (fun _ _ _ h => h) (Or.inl ⟨by rfl, ?_⟩) ?_
 rotate_left 1
 ·intro w hSw
  clear hSw
  (go_simp) <;> (with_reducible rfl)
 (try simp only [Act.put, zA, zB, zC, zD, zE, zF])
 refine wpAnyU_late (i := 13) (v := ?_) rfl (by kernel_rfl) (by kernel_rfl) (by kernel_rfl) (by kernel_rfl) (fun _ _ _ h => h) (Or.inl ⟨by rfl, ?_⟩) ?_
 rotate_left 1
 ·intro w hSw
  clear hSw
  (go_simp) <;> (with_reducible rfl)
 (try simp only [Act.put, zA, zB, zC, zD, zE, zF])
 refine wpAnyU_late (i := 14) (v := ?_) rfl (by kernel_rfl) (by kernel_rfl) (by kernel_rfl) (by kernel_rfl) (fun _ _ _ h => h) (Or.inl ⟨by rfl, ?_⟩) ?_
 rotate_left 1
 ·intro w hSw
  clear hSw
  (go_simp) <;> (with_reducible rfl)
 (try simp only [Act.put, zA, zB, zC, zD, zE, zF])
 refine wpAnyU_late (i := 16) (v := ?_) rfl (by kernel_rfl) (by kernel_rfl) (by kernel_rfl) (by kernel_rfl) (fun _ _ _ h => h) (Or.inl ⟨by rfl, ?_⟩) ?_
 rotate_left 1
 ·intro w hSw
  clear hSw
  (go_simp) <;> (with_reducible rfl)
 (try simp only [Act.put, zA, zB, zC, zD, zE, zF])
 refine wpAnyU_late (i := 20) (v := ?_) rfl (by kernel_rfl) (by kernel_rfl) (by kernel_rfl) (by kernel_rfl) (fun _ _ _ h => h) (Or.inl ⟨by rfl, ?_⟩) ?_
 rotate_left 1
 ·intro w hSw
  clear hSw
  (go_simp) <;> (with_reducible rfl)
 (try simp only [Act.put, zA, zB, zC, zD, zE, zF])
 refine wpAnyU_late (i := 21) (v := ?_) rfl (by kernel_rfl) (by kernel_rfl) (by kernel_rfl) (by kernel_rfl) (fun _ _ _ h => h) (Or.inl ⟨by rfl, ?_⟩) ?_
 rotate_left 1
 ·intro w hSw
  clear hSw
  (go_simp) <;> (with_reducible rfl)
 (try simp only [Act.put, zA, zB, zC, zD, zE, zF])
 refine wpAnyU_late (i := 22) (v := ?_) rfl (by kernel_rfl) (by kernel_rfl) (by kernel_rfl) (by kernel_rfl) (fun _ _ _ h => h) (Or.inl ⟨by rfl, ?_⟩) ?_
 rotate_left 1
 ·intro w hSw
  clear hSw
  (go_simp) <;> (with_reducible rfl)
 (try simp only [Act.put, zA, zB, zC, zD, zE, zF])
 refine wpAnyU_late (i := 24) (v := ?_) rfl (by kernel_rfl) (by kernel_rfl) (by kernel_rfl) (by kernel_rfl) (fun _ _ _ h => h) (Or.inl ⟨by rfl, ?_⟩) ?_
 rotate_left 1
 ·intro w hSw
  clear hSw
  (go_simp) <;> (with_reducible rfl)
 (try simp only [Act.put, zA, zB, zC, zD, zE, zF])
 refine wpAnyU_take (i := 7) (v := ?_) rfl (by kernel_rfl) (by kernel_rfl) (by kernel_rfl) (by kernel_rfl) (by kernel_rfl) (fun _ _ _ h => h) (Or.inl ⟨by rfl, ?_⟩) HL3.out ?_
 rotate_left 1
 ·intro w hSw
  (try dsimp only at hSw)
  (go_simp) <;> (with_reducible rfl)
 (try simp only [Act.put, zA, zB, zC, zD, zE, zF])
 refine wpAnyU_take (i := 15) (v := ?_) rfl (by kernel_rfl) (by kernel_rfl) (by kernel_rfl) (by kernel_rfl) (by kernel_rfl) (fun _ _ _ h => h) (Or.inl ⟨by rfl, ?_⟩) HL3.out ?_
 rotate_left 1
 ·intro w hSw
  (try dsimp only at hSw)
  (go_simp) <;> (with_reducible rfl)
 (try simp only [Act.put, zA, zB, zC, zD, zE, zF])
 refine wpAnyU_take (i := 23) (v := ?_) rfl (by kernel_rfl) (by kernel_rfl) (by kernel_rfl) (by kernel_rfl) (by kernel_rfl) (fun _ _ _ h => h) (Or.inl ⟨by rfl, ?_⟩) HL3.out ?_
 rotate_left 1
 ·intro w hSw
  (try dsimp only at hSw)
  (go_simp) <;> (with_reducible rfl)
 (try simp only [Act.put, zA, zB, zC, zD, zE, zF])
 refine wpAnyU_take (i := 9) (v := .slice m1.S a m1.sc) rfl (by kernel_rfl) (by kernel_rfl) (by kernel_rfl) (by kernel_rfl) (by kernel_rfl) (fun _ _ _ h => h) (Or.inl ⟨by rfl, ?_⟩) HL3.out ?_
 ·intro w' _
  show (execOp _ (Oper.mk (some 39) (Op.slice 37 (.tmp 37) none (some (.tmp 38)) none) _ _ _ _)).run Tryd.prog w' = _
  exact slice_names (S := m1.S) (sl := m1.sl) (sc := m1.sc) (n := a) (.tmp 37) (.tmp 38) rfl rfl rfl HC1.out.s hsa w'
 (try simp only [Act.put, zA, zB, zC, zD, zE, zF])
 refine wpAnyU_take (i := 17) (v := .slice m1.Q b m1.qc) rfl (by kernel_rfl) (by kernel_rfl) (by kernel_rfl) (by kernel_rfl) (by kernel_rfl) (fun _ _ _ h => h) (Or.inl ⟨by rfl, ?_⟩) HL3.out ?_
 ·intro w' _
  show (execOp _ (Oper.mk (some 47) (Op.slice 37 (.tmp 45) none (some (.tmp 46)) none) _ _ _ _)).run Tryd.prog w' = _
  exact slice_names (S := m1.Q) (sl := m1.ql) (sc := m1.qc) (n := b) (.tmp 45) (.tmp 46) rfl rfl rfl HC1.out.q hqb w'
 (try simp only [Act.put, zA, zB, zC, zD, zE, zF])
 refine wpAnyU_take (i := 25) (v := .slice m1.R c m1.rc) rfl (by kernel_rfl) (by kernel_rfl) (by kernel_rfl) (by kernel_rfl) (by kernel_rfl) (fun _ _ _ h => h) (Or.inl ⟨by rfl, ?_⟩) HL3.out ?_
 ·intro w' _
  show (execOp _ (Oper.mk (some 55) (Op.slice 37 (.tmp 53) none (some (.tmp 54)) none) _ _ _ _)).run Tryd.prog w' = _
  exact slice_names (S := m1.R) (sl := m1.rl) (sc := m1.rc) (n := c) (.tmp 53) (.tmp 54) rfl rfl rfl HC1.out.r hrc w'
 (try simp only [Act.put, zA, zB, zC, zD, zE, zF])
 obtain ⟨W0, hW0⟩ : ∃ W, Hid (w1.drew = W) := ⟨_, Lib.hid rfl⟩
 have HB0 : Hid (Below w1.heap.size w1 W0) := Lib.hid (by rw [← hW0.out]; exact ⟨rfl, rfl, rfl, Nat.le_refl _, fun _ _ => rfl⟩)
 have hD0 : w1.heap.size ≤ W0.heap.size := HB0.out.size
 rw [hW0.out]
 clear HL3 HC1
 refine wpAnyU_ready (rs := [3, 11, 19]) (by kernel_rfl) (by simp) (AllU.cons rfl (fun K hK => ?_) (AllU.cons rfl (fun K hK => ?_) (AllU.cons rfl (fun K hK => ?_) AllU.nil)))
 ·go_simp
  obtain ⟨W1, hW1⟩ : ∃ W, Hid (W0.alloc (.cells #[] 9) = W) := ⟨_, Lib.hid rfl⟩
  have HB1 := Lib.hid (HB0.out.alloc hD0 (.cells #[] 9))
  have HX1_1 := Lib.hid (NameOwn.made (D := w1.heap.size) W0 hD0)
  rw [hW1.out] at HB1 HX1_1 ⊢
  have hD1 : w1.heap.size ≤ W1.heap.size := HB1.out.size
  have hS1 := body_S (HCb.out.below HB1.out)
  rw [HMe.out] at hS1
  refine hK.out _ _ (fun _ => hS1) ?_
  clear hK K
  (try simp only [Act.put, zA, zB, zC, zD, zE, zF])
  refine wpAnyU_ready (rs := [10, 11, 19]) (by kernel_rfl) (by simp) (AllU.cons rfl (fun K hK => ?_) (AllU.cons rfl (fun K hK => ?_) (AllU.cons rfl (fun K hK => ?_) AllU.nil)))
  ·rw [if_pos (by rfl)]
   refine wp_append_names _ _ rfl w1.heap.size B (some ⟨W0.heap.size, 0, none⟩) m1.S 0 m1.sl m1.sc a rfl HX1_1.out rfl (HCb.out.below HB1.out).s hsa hs24 hD1 ?_
   intro X2_1 c2_1 W2 hown hgrow hplace
   have HB2 := Lib.hid (HB1.out.grown hgrow hD1 (fun k hk => (HX1_1.out.place k hk).1))
   have HX2_1 := Lib.hid hown
   clear hown hgrow hplace
   have hD2 : w1.heap.size ≤ W2.heap.size := HB2.out.size
   have hS2 := body_S (HCb.out.below HB2.out)
   rw [HMe.out] at hS2
   refine hK.out _ _ (fun _ => hS2) ?_
   clear hK K
   (try simp only [Act.put, zA, zB, zC, zD, zE, zF])
   refine wpAnyU_ready (rs := [11, 19]) (by kernel_rfl) (by simp) (AllU.cons rfl (fun K hK => ?_) (AllU.cons rfl (fun K hK => ?_) AllU.nil))
   ·go_simp
    obtain ⟨W3, hW3⟩ : ∃ W, Hid (W2.alloc (.cells #[] 9) = W) := ⟨_, Lib.hid rfl⟩
    have HB3 := Lib.hid (HB2.out.alloc hD2 (.cells #[] 9))
    have HX3_2 := Lib.hid (NameOwn.made (D := w1.heap.size) W2 hD2)
    have HX3_1 := Lib.hid (HX2_1.out.alloc (.cells #[] 9))
    have d3_12 := HX2_1.out.far
    rw [hW3.out] at HB3 HX3_1 HX3_2 ⊢
    have hD3 : w1.heap.size ≤ W3.heap.size := HB3.out.size
    have hS3 := body_S (HCb.out.below HB3.out)
    rw [HMe.out] at hS3
    refine hK.out _ _ (fun _ => hS3) ?_
    clear hK K
    (try simp only [Act.put, zA, zB, zC, zD, zE, zF])
    refine wpAnyU_ready (rs := [18, 19]) (by kernel_rfl) (by simp) (AllU.cons rfl (fun K hK => ?_) (AllU.cons rfl (fun K hK => ?_) AllU.nil))
    ·rw [if_pos (by rfl)]
     refine wp_append_names _ _ rfl w1.heap.size B (some ⟨W2.heap.size, 0, none⟩) m1.Q 0 m1.ql m1.qc b rfl HX3_2.out rfl (HCb.out.below HB3.out).q hqb hq24 hD3 ?_
     intro X4_2 c4_2 W4 hown hgrow hplace
     have HB4 := Lib.hid (HB3.out.grown hgrow hD3 (fun k hk => (HX3_2.out.place k hk).1))
     have HX4_2 := Lib.hid hown
     have HX4_1 := Lib.hid (HX3_1.out.beside hgrow d3_12)
     have d4_12 := dis_step HX3_1.out d3_12 hplace
     clear hown hgrow hplace
     have hD4 : w1.heap.size ≤ W4.heap.size := HB4.out.size
     have hS4 := body_S (HCb.out.below HB4.out)
     rw [HMe.out] at hS4
     refine hK.out _ _ (fun _ => hS4) ?_
     clear hK K
     (try simp only [Act.put, zA, zB, zC, zD, zE, zF])
     refine wpAnyU_ready (rs := [19]) (by kernel_rfl) (by simp) (AllU.cons rfl (fun K hK => ?_) AllU.nil)
     ·go_simp
      obtain ⟨W5, hW5⟩ : ∃ W, Hid (W4.alloc (.cells #[] 9) = W) := ⟨_, Lib.hid rfl⟩
      have HB5 := Lib.hid (HB4.out.alloc hD4 (.cells #[] 9))
      have HX5_3 := Lib.hid (NameOwn.made (D := w1.heap.size) W4 hD4)
      have HX5_1 := Lib.hid (HX4_1.out.alloc (.cells #[] 9))
      have d5_13 := HX4_1.out.far
      have HX5_2 := Lib.hid (HX4_2.out.alloc (.cells #[] 9))
      have d5_23 := HX4_2.out.far
      rw [hW5.out] at HB5 HX5_1 HX5_2 HX5_3 ⊢
      have hD5 : w1.heap.size ≤ W5.heap.size := HB5.out.size
      have hS5 := body_S (HCb.out.below HB5.out)
      rw [HMe.out] at hS5
      refine hK.out _ _ (fun _ => hS5) ?_
      clear hK K
      (try simp only [Act.put, zA, zB, zC, zD, zE, zF])
      refine wpAnyU_ready (rs := [26]) (by kernel_rfl) (by simp) (AllU.cons rfl (fun K hK => ?_) AllU.nil)
      ·rw [if_pos (by rfl)]
       refine wp_append_names _ _ rfl w1.heap.size B (some ⟨W4.heap.size, 0, none⟩) m1.R 0 m1.rl m1.rc c rfl HX5_3.out rfl (HCb.out.below HB5.out).r hrc hr24 hD5 ?_
       intro X6_3 c6_3 W6 hown hgrow hplace
       have HB6 := Lib.hid (HB5.out.grown hgrow hD5 (fun k hk => (HX5_3.out.place k hk).1))
       have HX6_3 := Lib.hid hown
       have HX6_1 := Lib.hid (HX5_1.out.beside hgrow d5_13)
       have d6_13 := dis_step HX5_1.out d5_13 hplace
       have HX6_2 := Lib.hid (HX5_2.out.beside hgrow d5_23)
       have d6_23 := dis_step HX5_2.out d5_23 hplace
       clear hown hgrow hplace
       have hD6 : w1.heap.size ≤ W6.heap.size := HB6.out.size
       have hS6 := body_S (HCb.out.below HB6.out)
       rw [HMe.out] at hS6
       refine hK.out _ _ (fun _ => hS6) ?_
       clear hK K
       (try simp only [Act.put, zA, zB, zC, zD, zE, zF])
       have hcn := HCb.out.below HB6.out
       obtain ⟨k4, k5, k6⟩ := hS6
       have f4 : W6.frozen? ⟨M, 4, none⟩ = false := by rw [← HMe.out]; exact hcn.maker.frozen 4
       have f5 : W6.frozen? ⟨M, 5, none⟩ = false := by rw [← HMe.out]; exact hcn.maker.frozen 5
       have f6 : W6.frozen? ⟨M, 6, none⟩ = false := by rw [← HMe.out]; exact hcn.maker.frozen 6
       have hfin := body_fin hcn (HX6_1.out.base hBw) (HX6_2.out.base hBw) (HX6_3.out.base hBw) d4_12 d6_13 d6_23 hsa hqb hrc
       obtain ⟨U, hU⟩ : ∃ U, Hid ((((W6.setCell ⟨m1.M, 4, none⟩ (.slice X2_1 a c2_1)).setCell ⟨m1.M, 5, none⟩ (.slice X4_2 b c4_2)).setCell ⟨m1.M, 6, none⟩ (.slice X6_3 c c6_3)) = U) := ⟨_, Lib.hid rfl⟩
       rw [hU.out] at hfin
       obtain ⟨hcU, hwU⟩ := hfin
       rw [HMe.out] at hU
       have HCU := Lib.hid hcU
       have HWU := Lib.hid ((Went.of_below (lo := lo) (B := B) HB6.out).trans hwU)
       clear hcU hwU hcn
       refine wpAnyU_late (i := 27) (v := ?_) rfl (by kernel_rfl) (by kernel_rfl) (by kernel_rfl) (by kernel_rfl) (fun _ _ _ h => h) (Or.inl ⟨by rfl, ?_⟩) ?_
       rotate_left 1
       ·intro w hSw
        clear hSw
        (go_simp) <;> (with_reducible rfl)
       (try simp only [Act.put, zA, zB, zC, zD, zE, zF])
       refine wpAnyU_late (i := 28) (v := ?_) rfl (by kernel_rfl) (by kernel_rfl) (by kernel_rfl) (by kernel_rfl) (fun _ _ _ h => h) (Or.inl ⟨by rfl, ?_⟩) ?_
       rotate_left 1
       ·intro w hSw
        clear hSw
        (go_simp) <;> (with_reducible rfl)
       (try simp only [Act.put, zA, zB, zC, zD, zE, zF])
       refine wpAnyU_ready (rs := [29]) (by kernel_rfl) (by simp) (AllU.cons rfl (fun K hK => ?_) AllU.nil)
       go_simp
       refine hK.out _ _ (fun hh => absurd hh (by decide)) ?_
       clear hK K
       (try simp only [Act.put, zA, zB, zC, zD, zE, zF])
       refine wpAnyU_late (i := 30) (v := ?_) rfl (by kernel_rfl) (by kernel_rfl) (by kernel_rfl) (by kernel_rfl) (fun _ _ _ h => h) (Or.inl ⟨by rfl, ?_⟩) ?_
       rotate_left 1
       ·intro w hSw
        clear hSw
        (go_simp) <;> (with_reducible rfl)
       (try simp only [Act.put, zA, zB, zC, zD, zE, zF])
       refine wpAnyU_late (i := 31) (v := ?_) rfl (by kernel_rfl) (by kernel_rfl) (by kernel_rfl) (by kernel_rfl) (fun _ _ _ h => h) (Or.inl ⟨by rfl, ?_⟩) ?_
       rotate_left 1
       ·intro w hSw
        clear hSw
        (go_simp) <;> (with_reducible rfl)
       (try simp only [Act.put, zA, zB, zC, zD, zE, zF])
       refine wpAnyU_ready (rs := [32]) (by kernel_rfl) (by simp) (AllU.cons rfl (fun K hK => ?_) AllU.nil)
       go_simp
       refine hK.out _ _ (fun hh => absurd hh (by decide)) ?_
       clear hK K
       (try simp only [Act.put, zA, zB, zC, zD, zE, zF])
       refine wpAnyU_late (i := 33) (v := ?_) rfl (by kernel_rfl) (by kernel_rfl) (by kernel_rfl) (by kernel_rfl) (fun _ _ _ h => h) (Or.inl ⟨by rfl, ?_⟩) ?_
       rotate_left 1
       ·intro w hSw
        clear hSw
        (go_simp) <;> (with_reducible rfl)
       (try simp only [Act.put, zA, zB, zC, zD, zE, zF])
       refine wpAnyU_late (i := 34) (v := ?_) rfl (by kernel_rfl) (by kernel_rfl) (by kernel_rfl) (by kernel_rfl) (fun _ _ _ h => h) (Or.inl ⟨by rfl, ?_⟩) ?_
       rotate_left 1
       ·intro w hSw
        clear hSw
        (go_simp) <;> (with_reducible rfl)
       (try simp only [Act.put, zA, zB, zC, zD, zE, zF])
       refine wpAnyU_ready (rs := [35]) (by kernel_rfl) (by simp) (AllU.cons rfl (fun K hK => ?_) AllU.nil)
       go_simp
       rw [hU.out]
       refine hK.out _ _ (fun hh => absurd hh (by decide)) ?_
       clear hK K
       refine wpAnyU_done (by kernel_rfl) ?_ _
       clear k4 k5 k6 f4 f5 f6
       go_wp2_with fail
       go_ret
       exact ⟨A0, l0, c0, ns, _, rfl, HROW.out.kept HWU.out.keptX, hl20, kin_body HKIN.out HA.out HBb.out HCc.out, HA.out.symm, HBb.out.symm, HCc.out.symm, HNUM.out.2.1, HNUM.out.2.2.1, HNUM.out.2.2.2, HCU.out, HW1.out.trans HWU.out⟩
    ·go_simp
     obtain ⟨W4, hW4⟩ : ∃ W, Hid (W3.alloc (.cells #[] 9) = W) := ⟨_, Lib.hid rfl⟩
     have HB4 := Lib.hid (HB3.out.alloc hD3 (.cells #[] 9))
     have HX4_3 := Lib.hid (NameOwn.made (D := w1.heap.size) W3 hD3)
     have HX4_1 := Lib.hid (HX3_1.out.alloc (.cells #[] 9))
     have d4_13 := HX3_1.out.far
     have HX4_2 := Lib.hid (HX3_2.out.alloc (.cells #[] 9))
     have d4_23 := HX3_2.out.far
     rw [hW4.out] at HB4 HX4_1 HX4_2 HX4_3 ⊢
     have hD4 : w1.heap.size ≤ W4.heap.size := HB4.out.size
     have hS4 := body_S (HCb.out.below HB4.out)
     rw [HMe.out] at hS4
     refine hK.out _ _ (fun _ => hS4) ?_
     clear hK K
     (try simp only [Act.put, zA, zB, zC, zD, zE, zF])
     refine wpAnyU_ready (rs := [18]) (by kernel_rfl) (by simp) (AllU.cons rfl (fun K hK => ?_) AllU.nil)
     ·rw [if_pos (by rfl)]
      refine wp_append_names _ _ rfl w1.heap.size B (some ⟨W2.heap.size, 0, none⟩) m1.Q 0 m1.ql m1.qc b rfl HX4_2.out rfl (HCb.out.below HB4.out).q hqb hq24 hD4 ?_
      intro X5_2 c5_2 W5 hown hgrow hplace
      have HB5 := Lib.hid (HB4.out.grown hgrow hD4 (fun k hk => (HX4_2.out.place k hk).1))
      have HX5_2 := Lib.hid hown
      have HX5_1 := Lib.hid (HX4_1.out.beside hgrow d3_12)
      have d5_12 := dis_step HX4_1.out d3_12 hplace
      have HX5_3 := Lib.hid (HX4_3.out.beside hgrow (fun e => d4_23 e.symm))
      have d5_32 := dis_step HX4_3.out (fun e => d4_23 e.symm) hplace
      clear hown hgrow hplace
      have hD5 : w1.heap.size ≤ W5.heap.size := HB5.out.size
      have hS5 := body_S (HCb.out.below HB5.out)
      rw [HMe.out] at hS5
      refine hK.out _ _ (fun _ => hS5) ?_
      clear hK K
      (try simp only [Act.put, zA, zB, zC, zD, zE, zF])
      refine wpAnyU_ready (rs := [26]) (by kernel_rfl) (by simp) (AllU.cons rfl (fun K hK => ?_) AllU.nil)
      ·rw [if_pos (by rfl)]
       refine wp_append_names _ _ rfl w1.heap.size B (some ⟨W3.heap.size, 0, none⟩) m1.R 0 m1.rl m1.rc c rfl HX5_3.out rfl (HCb.out.below HB5.out).r hrc hr24 hD5 ?_
       intro X6_3 c6_3 W6 hown hgrow hplace
       have HB6 := Lib.hid (HB5.out.grown hgrow hD5 (fun k hk => (HX5_3.out.place k hk).1))
       have HX6_3 := Lib.hid hown
       have HX6_1 := Lib.hid (HX5_1.out.beside hgrow d4_13)
       have d6_13 := dis_step HX5_1.out d4_13 hplace
       have HX6_2 := Lib.hid (HX5_2.out.beside hgrow (fun e => d5_32 e.symm))
       have d6_23 := dis_step HX5_2.out (fun e => d5_32 e.symm) hplace
       clear hown hgrow hplace
       have hD6 : w1.heap.size ≤ W6.heap.size := HB6.out.size
       have hS6 := body_S (HCb.out.below HB6.out)
       rw [HMe.out] at hS6
       refine hK.out _ _ (fun _ => hS6) ?_
       clear hK K
       (try simp only [Act.put, zA, zB, zC, zD, zE, zF])
       have hcn := HCb.out.below HB6.out
       obtain ⟨k4, k5, k6⟩ := hS6
       have f4 : W6.frozen? ⟨M, 4, none⟩ = false := by rw [← HMe.out]; exact hcn.maker.frozen 4
       have f5 : W6.frozen? ⟨M, 5, none⟩ = false := by rw [← HMe.out]; exact hcn.maker.frozen 5
       have f6 : W6.frozen? ⟨M, 6, none⟩ = false := by rw [← HMe.out]; exact hcn.maker.frozen 6
       have hfin := body_fin hcn (HX6_1.out.base hBw) (HX6_2.out.base hBw) (HX6_3.out.base hBw) d5_12 d6_13 d6_23 hsa hqb hrc
       obtain ⟨U, hU⟩ : ∃ U, Hid ((((W6.setCell ⟨m1.M, 4, none⟩ (.slice X2_1 a c2_1)).setCell ⟨m1.M, 5, none⟩ (.slice X5_2 b c5_2)).setCell ⟨m1.M, 6, none⟩ (.slice X6_3 c c6_3)) = U) := ⟨_, Lib.hid rfl⟩
       rw [hU.out] at hfin
       obtain ⟨hcU, hwU⟩ := hfin
       rw [HMe.out] at hU
       have HCU := Lib.hid hcU
       have HWU := Lib.hid ((Went.of_below (lo := lo) (B := B) HB6.out).trans hwU)
       clear hcU hwU hcn
       refine wpAnyU_late (i := 27) (v := ?_) rfl (by kernel_rfl) (by kernel_rfl) (by kernel_rfl) (by kernel_rfl) (fun _ _ _ h => h) (Or.inl ⟨by rfl, ?_⟩) ?_
       rotate_left 1
       ·intro w hSw
        clear hSw
        (go_simp) <;> (with_reducible rfl)
       (try simp only [Act.put, zA, zB, zC, zD, zE, zF])
       refine wpAnyU_late (i := 28) (v := ?_) rfl (by kernel_rfl) (by kernel_rfl) (by kernel_rfl) (by kernel_rfl) (fun _ _ _ h => h) (Or.inl ⟨by rfl, ?_⟩) ?_
       rotate_left 1
       ·intro w hSw
        clear hSw
        (go_simp) <;> (with_reducible rfl)
       (try simp only [Act.put, zA, zB, zC, zD, zE, zF])
       refine wpAnyU_ready (rs := [29]) (by kernel_rfl) (by simp) (AllU.cons rfl (fun K hK => ?_) AllU.nil)
       go_simp
       refine hK.out _ _ (fun hh => absurd hh (by decide)) ?_
       clear hK K
       (try simp only [Act.put, zA, zB, zC, zD, zE, zF])
       refine wpAnyU_late (i := 30) (v := ?_) rfl (by kernel_rfl) (by kernel_rfl) (by kernel_rfl) (by kernel_rfl) (fun _ _ _ h => h) (Or.inl ⟨by rfl, ?_⟩) ?_
       rotate_left 1
       ·intro w hSw
        clear hSw
        (go_simp) <;> (with_reducible rfl)
       (try simp only [Act.put, zA, zB, zC, zD, zE, zF])
       refine wpAnyU_late (i := 31) (v := ?_) rfl (by kernel_rfl) (by kernel_rfl) (by kernel_rfl) (by kernel_rfl) (fun _ _ _ h => h) (Or.inl ⟨by rfl, ?_⟩) ?_
       rotate_left 1
       ·intro w hSw
        clear hSw
        (go_simp) <;> (with_reducible rfl)
       (try simp only [Act.put, zA, zB, zC, zD, zE, zF])
       refine wpAnyU_ready (rs := [32]) (by kernel_rfl) (by simp) (AllU.cons rfl (fun K hK => ?_) AllU.nil)
       go_simp
       refine hK.out _ _ (fun hh => absurd hh (by decide)) ?_
       clear hK K
       (try simp only [Act.put, zA, zB, zC, zD, zE, zF])
       refine wpAnyU_late (i := 33) (v := ?_) rfl (by kernel_rfl) (by kernel_rfl) (by kernel_rfl) (by kernel_rfl) (fun _ _ _ h => h) (Or.inl ⟨by rfl, ?_⟩) ?_
       rotate_left 1
       ·intro w hSw
        clear hSw
        (go_simp) <;> (with_reducible rfl)
       (try simp only [Act.put, zA, zB, zC, zD, zE, zF])
       refine wpAnyU_late (i := 34) (v := ?_) rfl (by kernel_rfl) (by kernel_rfl) (by kernel_rfl) (by kernel_rfl) (fun _ _ _ h => h) (Or.inl ⟨by rfl, ?_⟩) ?_
       rotate_left 1
       ·intro w hSw
        clear hSw
        (go_simp) <;> (with_reducible rfl)
       (try simp only [Act.put, zA, zB, zC, zD, zE, zF])
       refine wpAnyU_ready (rs := [35]) (by kernel_rfl) (by simp) (AllU.cons rfl (fun K hK => ?_) AllU.nil)
       go_simp
       rw [hU.out]
       refine hK.out _ _ (fun hh => absurd hh (by decide)) ?_
       clear hK K
       refine wpAnyU_done (by kernel_rfl) ?_ _
       clear k4 k5 k6 f4 f5 f6
       go_wp2_with fail
       go_ret
       exact ⟨A0, l0, c0, ns, _, rfl, HROW.out.kept HWU.out.keptX, hl20, kin_body HKIN.out HA.out HBb.out HCc.out, HA.out.symm, HBb.out.symm, HCc.out.symm, HNUM.out.2.1, HNUM.out.2.2.1, HNUM.out.2.2.2, HCU.out, HW1.out.trans HWU.out⟩
   ·go_simp
    obtain ⟨W3, hW3⟩ : ∃ W, Hid (W2.alloc (.cells #[] 9) = W) := ⟨_, Lib.hid rfl⟩
    have HB3 := Lib.hid (HB2.out.alloc hD2 (.cells #[] 9))
    have HX3_3 := Lib.hid (NameOwn.made (D := w1.heap.size) W2 hD2)
    have HX3_1 := Lib.hid (HX2_1.out.alloc (.cells #[] 9))
    have d3_13 := HX2_1.out.far
    rw [hW3.out] at HB3 HX3_1 HX3_3 ⊢
    have hD3 : w1.heap.size ≤ W3.heap.size := HB3.out.size
    have hS3 := body_S (HCb.out.below HB3.out)
    rw [HMe.out] at hS3
    refine hK.out _ _ (fun _ => hS3) ?_
    clear hK K
    (try simp only [Act.put, zA, zB, zC, zD, zE, zF])
    refine wpAnyU_ready (rs := [11]) (by kernel_rfl) (by simp) (AllU.cons rfl (fun K hK => ?_) AllU.nil)
    ·go_simp
     obtain ⟨W4, hW4⟩ : ∃ W, Hid (W3.alloc (.cells #[] 9) = W) := ⟨_, Lib.hid rfl⟩
     have HB4 := Lib.hid (HB3.out.alloc hD3 (.cells #[] 9))
     have HX4_2 := Lib.hid (NameOwn.made (D := w1.heap.size) W3 hD3)
     have HX4_1 := Lib.hid (HX3_1.out.alloc (.cells #[] 9))
     have d4_12 := HX3_1.out.far
     have HX4_3 := Lib.hid (HX3_3.out.alloc (.cells #[] 9))
     have d4_32 := HX3_3.out.far
     rw [hW4.out] at HB4 HX4_1 HX4_3 HX4_2 ⊢
     have hD4 : w1.heap.size ≤ W4.heap.size := HB4.out.size
     have hS4 := body_S (HCb.out.below HB4.out)
     rw [HMe.out] at hS4
     refine hK.out _ _ (fun _ => hS4) ?_
     clear hK K
     (try simp only [Act.put, zA, zB, zC, zD, zE, zF])
     refine wpAnyU_ready (rs := [18]) (by kernel_rfl) (by simp) (AllU.cons rfl (fun K hK => ?_) AllU.nil)
     ·rw [if_pos (by rfl)]
      refine wp_append_names _ _ rfl w1.heap.size B (some ⟨W3.heap.size, 0, none⟩) m1.Q 0 m1.ql m1.qc b rfl HX4_2.out rfl (HCb.out.below HB4.out).q hqb hq24 hD4 ?_
      intro X5_2 c5_2 W5 hown hgrow hplace
      have HB5 := Lib.hid (HB4.out.grown hgrow hD4 (fun k hk => (HX4_2.out.place k hk).1))
      have HX5_2 := Lib.hid hown
      have HX5_1 := Lib.hid (HX4_1.out.beside hgrow d4_12)
      have d5_12 := dis_step HX4_1.out d4_12 hplace
      have HX5_3 := Lib.hid (HX4_3.out.beside hgrow d4_32)
      have d5_32 := dis_step HX4_3.out d4_32 hplace
      clear hown hgrow hplace
      have hD5 : w1.heap.size ≤ W5.heap.size := HB5.out.size
      have hS5 := body_S (HCb.out.below HB5.out)
      rw [HMe.out] at hS5
      refine hK.out _ _ (fun _ => hS5) ?_
      clear hK K
      (try simp only [Act.put, zA, zB, zC, zD, zE, zF])
      refine wpAnyU_ready (rs := [26]) (by kernel_rfl) (by simp) (AllU.cons rfl (fun K hK => ?_) AllU.nil)
      ·rw [if_pos (by rfl)]
       refine wp_append_names _ _ rfl w1.heap.size B (some ⟨W2.heap.size, 0, none⟩) m1.R 0 m1.rl m1.rc c rfl HX5_3.out rfl (HCb.out.below HB5.out).r hrc hr24 hD5 ?_
       intro X6_3 c6_3 W6 hown hgrow hplace
       have HB6 := Lib.hid (HB5.out.grown hgrow hD5 (fun k hk => (HX5_3.out.place k hk).1))
       have HX6_3 := Lib.hid hown
       have HX6_1 := Lib.hid (HX5_1.out.beside hgrow d3_13)
       have d6_13 := dis_step HX5_1.out d3_13 hplace
       have HX6_2 := Lib.hid (HX5_2.out.beside hgrow (fun e => d5_32 e.symm))
       have d6_23 := dis_step HX5_2.out (fun e => d5_32 e.symm) hplace
       clear hown hgrow hplace
       have hD6 : w1.heap.size ≤ W6.heap.size := HB6.out.size
       have hS6 := body_S (HCb.out.below HB6.out)
       rw [HMe.out] at hS6
       refine hK.out _ _ (fun _ => hS6) ?_
       clear hK K
       (try simp only [Act.put, zA, zB, zC, zD, zE, zF])
       have hcn := HCb.out.below HB6.out
       obtain ⟨k4, k5, k6⟩ := hS6
       have f4 : W6.frozen? ⟨M, 4, none⟩ = false := by rw [← HMe.out]; exact hcn.maker.frozen 4
       have f5 : W6.frozen? ⟨M, 5, none⟩ = false := by rw [← HMe.out]; exact hcn.maker.frozen 5
       have f6 : W6.frozen? ⟨M, 6, none⟩ = false := by rw [← HMe.out]; exact hcn.maker.frozen 6
       have hfin := body_fin hcn (HX6_1.out.base hBw) (HX6_2.out.base hBw) (HX6_3.out.base hBw) d5_12 d6_13 d6_23 hsa hqb hrc
       obtain ⟨U, hU⟩ : ∃ U, Hid ((((W6.setCell ⟨m1.M, 4, none⟩ (.slice X2_1 a c2_1)).setCell ⟨m1.M, 5, none⟩ (.slice X5_2 b c5_2)).setCell ⟨m1.M, 6, none⟩ (.slice X6_3 c c6_3)) = U) := ⟨_, Lib.hid rfl⟩
       rw [hU.out] at hfin
       obtain ⟨hcU, hwU⟩ := hfin
       rw [HMe.out] at hU
       have HCU := Lib.hid hcU
       have HWU := Lib.hid ((Went.of_below (lo := lo) (B := B) HB6.out).trans hwU)
       clear hcU hwU hcn
       refine wpAnyU_late (i := 27) (v := ?_) rfl (by kernel_rfl) (by kernel_rfl) (by kernel_rfl) (by kernel_rfl) (fun _ _ _ h => h) (Or.inl ⟨by rfl, ?_⟩) ?_
       rotate_left 1
       ·intro w hSw
        clear hSw
        (go_simp) <;> (with_reducible rfl)
       (try simp only [Act.put, zA, zB, zC, zD, zE, zF])
       refine wpAnyU_late (i := 28) (v := ?_) rfl (by kernel_rfl) (by kernel_rfl) (by kernel_rfl) (by kernel_rfl) (fun _ _ _ h => h) (Or.inl ⟨by rfl, ?_⟩) ?_
       rotate_left 1
       ·intro w hSw
        clear hSw
        (go_simp) <;> (with_reducible rfl)
       (try simp only [Act.put, zA, zB, zC, zD, zE, zF])
       refine wpAnyU_ready (rs := [29]) (by kernel_rfl) (by simp) (AllU.cons rfl (fun K hK => ?_) AllU.nil)
       go_simp
       refine hK.out _ _ (fun hh => absurd hh (by decide)) ?_
       clear hK K
       (try simp only [Act.put, zA, zB, zC, zD, zE, zF])
       refine wpAnyU_late (i := 30) (v := ?_) rfl (by kernel_rfl) (by kernel_rfl) (by kernel_rfl) (by kernel_rfl) (fun _ _ _ h => h) (Or.inl ⟨by rfl, ?_⟩) ?_
       rotate_left 1
       ·intro w hSw
        clear hSw
        (go_simp) <;> (with_reducible rfl)
       (try simp only [Act.put, zA, zB, zC, zD, zE, zF])
       refine wpAnyU_late (i := 31) (v := ?_) rfl (by kernel_rfl) (by kernel_rfl) (by kernel_rfl) (by kernel_rfl) (fun _ _ _ h => h) (Or.inl ⟨by rfl, ?_⟩) ?_
       rotate_left 1
       ·intro w hSw
        clear hSw
        (go_simp) <;> (with_reducible rfl)
       (try simp only [Act.put, zA, zB, zC, zD, zE, zF])
       refine wpAnyU_ready (rs := [32]) (by kernel_rfl) (by simp) (AllU.cons rfl (fun K hK => ?_) AllU.nil)
       go_simp
       refine hK.out _ _ (fun hh => absurd hh (by decide)) ?_
       clear hK K
       (try simp only [Act.put, zA, zB, zC, zD, zE, zF])
       refine wpAnyU_late (i := 33) (v := ?_) rfl (by kernel_rfl) (by kernel_rfl) (by kernel_rfl) (by kernel_rfl) (fun _ _ _ h => h) (Or.inl ⟨by rfl, ?_⟩) ?_
       rotate_left 1
       ·intro w hSw
        clear hSw
        (go_simp) <;> (with_reducible rfl)
       (try simp only [Act.put, zA, zB, zC, zD, zE, zF])
       refine wpAnyU_late (i := 34) (v := ?_) rfl (by kernel_rfl) (by kernel_rfl) (by kernel_rfl) (by kernel_rfl) (fun _ _ _ h => h) (Or.inl ⟨by rfl, ?_⟩) ?_
       rotate_left 1
       ·intro w hSw
        clear hSw
        (go_simp) <;> (with_reducible rfl)
       (try simp only [Act.put, zA, zB, zC, zD, zE, zF])
       refine wpAnyU_ready (rs := [35]) (by kernel_rfl) (by simp) (AllU.cons rfl (fun K hK => ?_) AllU.nil)
       go_simp
       rw [hU.out]
       refine hK.out _ _ (fun hh => absurd hh (by decide)) ?_
       clear hK K
       refine wpAnyU_done (by kernel_rfl) ?_ _
       clear k4 k5 k6 f4 f5 f6
       go_wp2_with fail
       go_ret
       exact ⟨A0, l0, c0, ns, _, rfl, HROW.out.kept HWU.out.keptX, hl20, kin_body HKIN.out HA.out HBb.out HCc.out, HA.out.symm, HBb.out.symm, HCc.out.symm, HNUM.out.2.1, HNUM.out.2.2.1, HNUM.out.2.2.2, HCU.out, HW1.out.trans HWU.out⟩
  ·go_simp
   obtain ⟨W2, hW2⟩ : ∃ W, Hid (W1.alloc (.cells #[] 9) = W) := ⟨_, Lib.hid rfl⟩
   have HB2 := Lib.hid (HB1.out.alloc hD1 (.cells #[] 9))
   have HX2_2 := Lib.hid (NameOwn.made (D := w1.heap.size) W1 hD1)
   have HX2_1 := Lib.hid (HX1_1.out.alloc (.cells #[] 9))
   have d2_12 := HX1_1.out.far
   rw [hW2.out] at HB2 HX2_1 HX2_2 ⊢
   have hD2 : w1.heap.size ≤ W2.heap.size := HB2.out.size
   have hS2 := body_S (HCb.out.below HB2.out)
   rw [HMe.out] at hS2
   refine hK.out _ _ (fun _ => hS2) ?_
   clear hK K
   (try simp only [Act.put, zA, zB, zC, zD, zE, zF])
   refine wpAnyU_ready (rs := [10, 19]) (by kernel_rfl) (by simp) (AllU.cons rfl (fun K hK => ?_) (AllU.cons rfl (fun K hK => ?_) AllU.nil))
   ·rw [if_pos (by rfl)]
    refine wp_append_names _ _ rfl w1.heap.size B (some ⟨W0.heap.size, 0, none⟩) m1.S 0 m1.sl m1.sc a rfl HX2_1.out rfl (HCb.out.below HB2.out).s hsa hs24 hD2 ?_
    intro X3_1 c3_1 W3 hown hgrow hplace
    have HB3 := Lib.hid (HB2.out.grown hgrow hD2 (fun k hk => (HX2_1.out.place k hk).1))
    have HX3_1 := Lib.hid hown
    have HX3_2 := Lib.hid (HX2_2.out.beside hgrow (fun e => d2_12 e.symm))
    have d3_21 := dis_step HX2_2.out (fun e => d2_12 e.symm) hplace
    clear hown hgrow hplace
    have hD3 : w1.heap.size ≤ W3.heap.size := HB3.out.size
    have hS3 := body_S (HCb.out.below HB3.out)
    rw [HMe.out] at hS3
    refine hK.out _ _ (fun _ => hS3) ?_
    clear hK K
    (try simp only [Act.put, zA, zB, zC, zD, zE, zF])
    refine wpAnyU_ready (rs := [18, 19]) (by kernel_rfl) (by simp) (AllU.cons rfl (fun K hK => ?_) (AllU.cons rfl (fun K hK => ?_) AllU.nil))
    ·rw [if_pos (by rfl)]
     refine wp_append_names _ _ rfl w1.heap.size B (some ⟨W1.heap.size, 0, none⟩) m1.Q 0 m1.ql m1.qc b rfl HX3_2.out rfl (HCb.out.below HB3.out).q hqb hq24 hD3 ?_
     intro X4_2 c4_2 W4 hown hgrow hplace
     have HB4 := Lib.hid (HB3.out.grown hgrow hD3 (fun k hk => (HX3_2.out.place k hk).1))
     have HX4_2 := Lib.hid hown
     have HX4_1 := Lib.hid (HX3_1.out.beside hgrow (fun e => d3_21 e.symm))
     have d4_12 := dis_step HX3_1.out (fun e => d3_21 e.symm) hplace
     clear hown hgrow hplace
     have hD4 : w1.heap.size ≤ W4.heap.size := HB4.out.size
     have hS4 := body_S (HCb.out.below HB4.out)
     rw [HMe.out] at hS4
     refine hK.out _ _ (fun _ => hS4) ?_
     clear hK K
     (try simp only [Act.put, zA, zB, zC, zD, zE, zF])
     refine wpAnyU_ready (rs := [19]) (by kernel_rfl) (by simp) (AllU.cons rfl (fun K hK => ?_) AllU.nil)
     ·go_simp
      obtain ⟨W5, hW5⟩ : ∃ W, Hid (W4.alloc (.cells #[] 9) = W) := ⟨_, Lib.hid rfl⟩
      have HB5 := Lib.hid (HB4.out.alloc hD4 (.cells #[] 9))
      have HX5_3 := Lib.hid (NameOwn.made (D := w1.heap.size) W4 hD4)
      have HX5_1 := Lib.hid (HX4_1.out.alloc (.cells #[] 9))
      have d5_13 := HX4_1.out.far
      have HX5_2 := Lib.hid (HX4_2.out.alloc (.cells #[] 9))
      have d5_23 := HX4_2.out.far
      rw [hW5.out] at HB5 HX5_1 HX5_2 HX5_3 ⊢
      have hD5 : w1.heap.size ≤ W5.heap.size := HB5.out.size
      have hS5 := body_S (HCb.out.below HB5.out)
      rw [HMe.out] at hS5
      refine hK.out _ _ (fun _ => hS5) ?_
      clear hK K
      (try simp only [Act.put, zA, zB, zC, zD, zE, zF])
      refine wpAnyU_ready (rs := [26]) (by kernel_rfl) (by simp) (AllU.cons rfl (fun K hK => ?_) AllU.nil)
      ·rw [if_pos (by rfl)]
       refine wp_append_names _ _ rfl w1.heap.size B (some ⟨W4.heap.size, 0, none⟩) m1.R 0 m1.rl m1.rc c rfl HX5_3.out rfl (HCb.out.below HB5.out).r hrc hr24 hD5 ?_
       intro X6_3 c6_3 W6 hown hgrow hplace
       have HB6 := Lib.hid (HB5.out.grown hgrow hD5 (fun k hk => (HX5_3.out.place k hk).1))
       have HX6_3 := Lib.hid hown
       have HX6_1 := Lib.hid (HX5_1.out.beside hgrow d5_13)
       have d6_13 := dis_step HX5_1.out d5_13 hplace
       have HX6_2 := Lib.hid (HX5_2.out.beside hgrow d5_23)
       have d6_23 := dis_step HX5_2.out d5_23 hplace
       clear hown hgrow hplace
       have hD6 : w1.heap.size ≤ W6.heap.size := HB6.out.size
       have hS6 := body_S (HCb.out.below HB6.out)
       rw [HMe.out] at hS6
       refine hK.out _ _ (fun _ => hS6) ?_
       clear hK K
       (try simp only [Act.put, zA, zB, zC, zD, zE, zF])
       have hcn := HCb.out.below HB6.out
       obtain ⟨k4, k5, k6⟩ := hS6
       have f4 : W6.frozen? ⟨M, 4, none⟩ = false := by rw [← HMe.out]; exact hcn.maker.frozen 4
       have f5 : W6.frozen? ⟨M, 5, none⟩ = false := by rw [← HMe.out]; exact hcn.maker.frozen 5
       have f6 : W6.frozen? ⟨M, 6, none⟩ = false := by rw [← HMe.out]; exact hcn.maker.frozen 6
       have hfin := body_fin hcn (HX6_1.out.base hBw) (HX6_2.out.base hBw) (HX6_3.out.base hBw) d4_12 d6_13 d6_23 hsa hqb hrc
       obtain ⟨U, hU⟩ : ∃ U, Hid ((((W6.setCell ⟨m1.M, 4, none⟩ (.slice X3_1 a c3_1)).setCell ⟨m1.M, 5, none⟩ (.slice X4_2 b c4_2)).setCell ⟨m1.M, 6, none⟩ (.slice X6_3 c c6_3)) = U) := ⟨_, Lib.hid rfl⟩
       rw [hU.out] at hfin
       obtain ⟨hcU, hwU⟩ := hfin
       rw [HMe.out] at hU
       have HCU := Lib.hid hcU
       have HWU := Lib.hid ((Went.of_below (lo := lo) (B := B) HB6.out).trans hwU)
       clear hcU hwU hcn
       refine wpAnyU_late (i := 27) (v := ?_) rfl (by kernel_rfl) (by kernel_rfl) (by kernel_rfl) (by kernel_rfl) (fun _ _ _ h => h) (Or.inl ⟨by rfl, ?_⟩) ?_
       rotate_left 1
       ·intro w hSw
        clear hSw
        (go_simp) <;> (with_reducible rfl)
       (try simp only [Act.put, zA, zB, zC, zD, zE, zF])
       refine wpAnyU_late (i := 28) (v := ?_) rfl (by kernel_rfl) (by kernel_rfl) (by kernel_rfl) (by kernel_rfl) (fun _ _ _ h => h) (Or.inl ⟨by rfl, ?_⟩) ?_
       rotate_left 1
       ·intro w hSw
        clear hSw
        (go_simp) <;> (with_reducible rfl)
       (try simp only [Act.put, zA, zB, zC, zD, zE, zF])
       refine wpAnyU_ready (rs := [29]) (by kernel_rfl) (by simp) (AllU.cons rfl (fun K hK => ?_) AllU.nil)
       go_simp
       refine hK.out _ _ (fun hh => absurd hh (by decide)) ?_
       clear hK K
       (try simp only [Act.put, zA, zB, zC, zD, zE, zF])
       refine wpAnyU_late (i := 30) (v := ?_) rfl (by kernel_rfl) (by kernel_rfl) (by kernel_rfl) (by kernel_rfl) (fun _ _ _ h => h) (Or.inl ⟨by rfl, ?_⟩) ?_
       rotate_left 1
       ·intro w hSw
        clear hSw
        (go_simp) <;> (with_reducible rfl)
       (try simp only [Act.put, zA, zB, zC, zD, zE, zF])
       refine wpAnyU_late (i := 31) (v := ?_) rfl (by kernel_rfl) (by kernel_rfl) (by kernel_rfl) (by kernel_rfl) (fun _ _ _ h => h) (Or.inl ⟨by rfl, ?_⟩) ?_
       rotate_left 1
       ·intro w hSw
        clear hSw
        (go_simp) <;> (with_reducible rfl)
       (try simp only [Act.put, zA, zB, zC, zD, zE, zF])
       refine wpAnyU_ready (rs := [32]) (by kernel_rfl) (by simp) (AllU.cons rfl (fun K hK => ?_) AllU.nil)
       go_simp
       refine hK.out _ _ (fun hh => absurd hh (by decide)) ?_
       clear hK K
       (try simp only [Act.put, zA, zB, zC, zD, zE, zF])
       refine wpAnyU_late (i := 33) (v := ?_) rfl (by kernel_rfl) (by kernel_rfl) (by kernel_rfl) (by kernel_rfl) (fun _ _ _ h => h) (Or.inl ⟨by rfl, ?_⟩) ?_
       rotate_left 1
       ·intro w hSw
        clear hSw
        (go_simp) <;> (with_reducible rfl)
       (try simp only [Act.put, zA, zB, zC, zD, zE, zF])
       refine wpAnyU_late (i := 34) (v := ?_) rfl (by kernel_rfl) (by kernel_rfl) (by kernel_rfl) (by kernel_rfl) (fun _ _ _ h => h) (Or.inl ⟨by rfl, ?_⟩) ?_
       rotate_left 1
       ·intro w hSw
        clear hSw
        (go_simp) <;> (with_reducible rfl)
       (try simp only [Act.put, zA, zB, zC, zD, zE, zF])
       refine wpAnyU_ready (rs := [35]) (by kernel_rfl) (by simp) (AllU.cons rfl (fun K hK => ?_) AllU.nil)
       go_simp
       rw [hU.out]
       refine hK.out _ _ (fun hh => absurd hh (by decide)) ?_
       clear hK K
       refine wpAnyU_done (by kernel_rfl) ?_ _
       clear k4 k5 k6 f4 f5 f6
       go_wp2_with fail
       go_ret
       exact ⟨A0, l0, c0, ns, _, rfl, HROW.out.kept HWU.out.keptX, hl20, kin_body HKIN.out HA.out HBb.out HCc.out, HA.out.symm, HBb.out.symm, HCc.out.symm, HNUM.out.2.1, HNUM.out.2.2.1, HNUM.out.2.2.2, HCU.out, HW1.out.trans HWU.out⟩
    ·go_simp
     obtain ⟨W4, hW4⟩ : ∃ W, Hid (W3.alloc (.cells #[] 9) = W) := ⟨_, Lib.hid rfl⟩
     have HB4 := Lib.hid (HB3.out.alloc hD3 (.cells #[] 9))
     have HX4_3 := Lib.hid (NameOwn.made (D := w1.heap.size) W3 hD3)
     have HX4_1 := Lib.hid (HX3_1.out.alloc (.cells #[] 9))
     have d4_13 := HX3_1.out.far
     have HX4_2 := Lib.hid (HX3_2.out.alloc (.cells #[] 9))
     have d4_23 := HX3_2.out.far
     rw [hW4.out] at HB4 HX4_1 HX4_2 HX4_3 ⊢
     have hD4 : w1.heap.size ≤ W4.heap.size := HB4.out.size
     have hS4 := body_S (HCb.out.below HB4.out)
     rw [HMe.out] at hS4
     refine hK.out _ _ (fun _ => hS4) ?_
     clear hK K
     (try simp only [Act.put, zA, zB, zC, zD, zE, zF])
     refine wpAnyU_ready (rs := [18]) (by kernel_rfl) (by simp) (AllU.cons rfl (fun K hK => ?_) AllU.nil)
     ·rw [if_pos (by rfl)]
      refine wp_append_names _ _ rfl w1.heap.size B (some ⟨W1.heap.size, 0, none⟩) m1.Q 0 m1.ql m1.qc b rfl HX4_2.out rfl (HCb.out.below HB4.out).q hqb hq24 hD4 ?_
      intro X5_2 c5_2 W5 hown hgrow hplace
      have HB5 := Lib.hid (HB4.out.grown hgrow hD4 (fun k hk => (HX4_2.out.place k hk).1))
      have HX5_2 := Lib.hid hown
      have HX5_1 := Lib.hid (HX4_1.out.beside hgrow (fun e => d3_21 e.symm))
      have d5_12 := dis_step HX4_1.out (fun e => d3_21 e.symm) hplace
      have HX5_3 := Lib.hid (HX4_3.out.beside hgrow (fun e => d4_23 e.symm))
      have d5_32 := dis_step HX4_3.out (fun e => d4_23 e.symm) hplace
      clear hown hgrow hplace
      have hD5 : w1.heap.size ≤ W5.heap.size := HB5.out.size
      have hS5 := body_S (HCb.out.below HB5.out)
      rw [HMe.out] at hS5
      refine hK.out _ _ (fun _ => hS5) ?_
      clear hK K
      (try simp only [Act.put, zA, zB, zC, zD, zE, zF])
      refine wpAnyU_ready (rs := [26]) (by kernel_rfl) (by simp) (AllU.cons rfl (fun K hK => ?_) AllU.nil)
      ·rw [if_pos (by rfl)]
       refine wp_append_names _ _ rfl w1.heap.size B (some ⟨W3.heap.size, 0, none⟩) m1.R 0 m1.rl m1.rc c rfl HX5_3.out rfl (HCb.out.below HB5.out).r hrc hr24 hD5 ?_
       intro X6_3 c6_3 W6 hown hgrow hplace
       have HB6 := Lib.hid (HB5.out.grown hgrow hD5 (fun k hk => (HX5_3.out.place k hk).1))
       have HX6_3 := Lib.hid hown
       have HX6_1 := Lib.hid (HX5_1.out.beside hgrow d4_13)
       have d6_13 := dis_step HX5_1.out d4_13 hplace
       have HX6_2 := Lib.hid (HX5_2.out.beside hgrow (fun e => d5_32 e.symm))
       have d6_23 := dis_step HX5_2.out (fun e => d5_32 e.symm) hplace
       clear hown hgrow hplace
       have hD6 : w1.heap.size ≤ W6.heap.size := HB6.out.size
       have hS6 := body_S (HCb.out.below HB6.out)
       rw [HMe.out] at hS6
       refine hK.out _ _ (fun _ => hS6) ?_
       clear hK K
       (try simp only [Act.put, zA, zB, zC, zD, zE, zF])
       have hcn := HCb.out.below HB6.out
       obtain ⟨k4, k5, k6⟩ := hS6
       have f4 : W6.frozen? ⟨M, 4, none⟩ = false := by rw [← HMe.out]; exact hcn.maker.frozen 4
       have f5 : W6.frozen? ⟨M, 5, none⟩ = false := by rw [← HMe.out]; exact hcn.maker.frozen 5
       have f6 : W6.frozen? ⟨M, 6, none⟩ = false := by rw [← HMe.out]; exact hcn.maker.frozen 6
       have hfin := body_fin hcn (HX6_1.out.base hBw) (HX6_2.out.base hBw) (HX6_3.out.base hBw) d5_12 d6_13 d6_23 hsa hqb hrc
       obtain ⟨U, hU⟩ : ∃ U, Hid ((((W6.setCell ⟨m1.M, 4, none⟩ (.slice X3_1 a c3_1)).setCell ⟨m1.M, 5, none⟩ (.slice X5_2 b c5_2)).setCell ⟨m1.M, 6, none⟩ (.slice X6_3 c c6_3)) = U) := ⟨_, Lib.hid rfl⟩
       rw [hU.out] at hfin
       obtain ⟨hcU, hwU⟩ := hfin
       rw [HMe.out] at hU
       have HCU := Lib.hid hcU
       have HWU := Lib.hid ((Went.of_below (lo := lo) (B := B) HB6.out).trans hwU)
       clear hcU hwU hcn
       refine wpAnyU_late (i := 27) (v := ?_) rfl (by kernel_rfl) (by kernel_rfl) (by kernel_rfl) (by kernel_rfl) (fun _ _ _ h => h) (Or.inl ⟨by rfl, ?_⟩) ?_
       rotate_left 1
       ·intro w hSw
        clear hSw
        (go_simp) <;> (with_reducible rfl)
       (try simp only [Act.put, zA, zB, zC, zD, zE, zF])
       refine wpAnyU_late (i := 28) (v := ?_) rfl (by kernel_rfl) (by kernel_rfl) (by kernel_rfl) (by kernel_rfl) (fun _ _ _ h => h) (Or.inl ⟨by rfl, ?_⟩) ?_
       rotate_left 1
       ·intro w hSw
        clear hSw
        (go_simp) <;> (with_reducible rfl)
       (try simp only [Act.put, zA, zB, zC, zD, zE, zF])
       refine wpAnyU_ready (rs := [29]) (by kernel_rfl) (by simp) (AllU.cons rfl (fun K hK => ?_) AllU.nil)
       go_simp
       refine hK.out _ _ (fun hh => absurd hh (by decide)) ?_
       clear hK K
       (try simp only [Act.put, zA, zB, zC, zD, zE, zF])
       refine wpAnyU_late (i := 30) (v := ?_) rfl (by kernel_rfl) (by kernel_rfl) (by kernel_rfl) (by kernel_rfl) (fun _ _ _ h => h) (Or.inl ⟨by rfl, ?_⟩) ?_
       rotate_left 1
       ·intro w hSw
        clear hSw
        (go_simp) <;> (with_reducible rfl)
       (try simp only [Act.put, zA, zB, zC, zD, zE, zF])
       refine wpAnyU_late (i := 31) (v := ?_) rfl (by kernel_rfl) (by kernel_rfl) (by kernel_rfl) (by kernel_rfl) (fun _ _ _ h => h) (Or.inl ⟨by rfl, ?_⟩) ?_
       rotate_left 1
       ·intro w hSw
        clear hSw
        (go_simp) <;> (with_reducible rfl)
       (try simp only [Act.put, zA, zB, zC, zD, zE, zF])
       refine wpAnyU_ready (rs := [32]) (by kernel_rfl) (by simp) (AllU.cons rfl (fun K hK => ?_) AllU.nil)
       go_simp
       refine hK.out _ _ (fun hh => absurd hh (by decide)) ?_
       clear hK K
       (try simp only [Act.put, zA, zB, zC, zD, zE, zF])
       refine wpAnyU_late (i := 33) (v := ?_) rfl (by kernel_rfl) (by kernel_rfl) (by kernel_rfl) (by kernel_rfl) (fun _ _ _ h => h) (Or.inl ⟨by rfl, ?_⟩) ?_
       rotate_left 1
       ·intro w hSw
        clear hSw
        (go_simp) <;> (with_reducible rfl)
       (try simp only [Act.put, zA, zB, zC, zD, zE, zF])
       refine wpAnyU_late (i := 34) (v := ?_) rfl (by kernel_rfl) (by kernel_rfl) (by kernel_rfl) (by kernel_rfl) (fun _ _ _ h => h) (Or.inl ⟨by rfl, ?_⟩) ?_
       rotate_left 1
       ·intro w hSw
        clear hSw
        (go_simp) <;> (with_reducible rfl)
       (try simp only [Act.put, zA, zB, zC, zD, zE, zF])
       refine wpAnyU_ready (rs := [35]) (by kernel_rfl) (by simp) (AllU.cons rfl (fun K hK => ?_) AllU.nil)
       go_simp
       rw [hU.out]
       refine hK.out _ _ (fun hh => absurd hh (by decide)) ?_
       clear hK K
       refine wpAnyU_done (by kernel_rfl) ?_ _
       clear k4 k5 k6 f4 f5 f6
       go_wp2_with fail
       go_ret
       exact ⟨A0, l0, c0, ns, _, rfl, HROW.out.kept HWU.out.keptX, hl20, kin_body HKIN.out HA.out HBb.out HCc.out, HA.out.symm, HBb.out.symm, HCc.out.symm, HNUM.out.2.1, HNUM.out.2.2.1, HNUM.out.2.2.2, HCU.out, HW1.out.trans HWU.out⟩
   ·go_simp
    obtain ⟨W3, hW3⟩ : ∃ W, Hid (W2.alloc (.cells #[] 9) = W) := ⟨_, Lib.hid rfl⟩
    have HB3 := Lib.hid (HB2.out.alloc hD2 (.cells #[] 9))
    have HX3_3 := Lib.hid (NameOwn.made (D := w1.heap.size) W2 hD2)
    have HX3_1 := Lib.hid (HX2_1.out.alloc (.cells #[] 9))
    have d3_13 := HX2_1.out.far
    have HX3_2 := Lib.hid (HX2_2.out.alloc (.cells #[] 9))
    have d3_23 := HX2_2.out.far
    rw [hW3.out] at HB3 HX3_1 HX3_2 HX3_3 ⊢
    have hD3 : w1.heap.size ≤ W3.heap.size := HB3.out.size
    have hS3 := body_S (HCb.out.below HB3.out)
    rw [HMe.out] at hS3
    refine hK.out _ _ (fun _ => hS3) ?_
    clear hK K
    (try simp only [Act.put, zA, zB, zC, zD, zE, zF])
    refine wpAnyU_ready (rs := [10]) (by kernel_rfl) (by simp) (AllU.cons rfl (fun K hK => ?_) AllU.nil)
    ·rw [if_pos (by rfl)]
     refine wp_append_names _ _ rfl w1.heap.size B (some ⟨W0.heap.size, 0, none⟩) m1.S 0 m1.sl m1.sc a rfl HX3_1.out rfl (HCb.out.below HB3.out).s hsa hs24 hD3 ?_
     intro X4_1 c4_1 W4 hown hgrow hplace
     have HB4 := Lib.hid (HB3.out.grown hgrow hD3 (fun k hk => (HX3_1.out.place k hk).1))
     have HX4_1 := Lib.hid hown
     have HX4_2 := Lib.hid (HX3_2.out.beside hgrow (fun e => d2_12 e.symm))
     have d4_21 := dis_step HX3_2.out (fun e => d2_12 e.symm) hplace
     have HX4_3 := Lib.hid (HX3_3.out.beside hgrow (fun e => d3_13 e.symm))
     have d4_31 := dis_step HX3_3.out (fun e => d3_13 e.symm) hplace
     clear hown hgrow hplace
     have hD4 : w1.heap.size ≤ W4.heap.size := HB4.out.size
     have hS4 := body_S (HCb.out.below HB4.out)
     rw [HMe.out] at hS4
     refine hK.out _ _ (fun _ => hS4) ?_
     clear hK K
     (try simp only [Act.put, zA, zB, zC, zD, zE, zF])
     refine wpAnyU_ready (rs := [18]) (by kernel_rfl) (by simp) (AllU.cons rfl (fun K hK => ?_) AllU.nil)
     ·rw [if_pos (by rfl)]
      refine wp_append_names _ _ rfl w1.heap.size B (some ⟨W1.heap.size, 0, none⟩) m1.Q 0 m1.ql m1.qc b rfl HX4_2.out rfl (HCb.out.below HB4.out).q hqb hq24 hD4 ?_
      intro X5_2 c5_2 W5 hown hgrow hplace
      have HB5 := Lib.hid (HB4.out.grown hgrow hD4 (fun k hk => (HX4_2.out.place k hk).1))
      have HX5_2 := Lib.hid hown
      have HX5_1 := Lib.hid (HX4_1.out.beside hgrow (fun e => d4_21 e.symm))
      have d5_12 := dis_step HX4_1.out (fun e => d4_21 e.symm) hplace
      have HX5_3 := Lib.hid (HX4_3.out.beside hgrow (fun e => d3_23 e.symm))
      have d5_32 := dis_step HX4_3.out (fun e => d3_23 e.symm) hplace
      clear hown hgrow hplace
      have hD5 : w1.heap.size ≤ W5.heap.size := HB5.out.size
      have hS5 := body_S (HCb.out.below HB5.out)
      rw [HMe.out] at hS5
      refine hK.out _ _ (fun _ => hS5) ?_
      clear hK K
      (try simp only [Act.put, zA, zB, zC, zD, zE, zF])
      refine wpAnyU_ready (rs := [26]) (by kernel_rfl) (by simp) (AllU.cons rfl (fun K hK => ?_) AllU.nil)
      ·rw [if_pos (by rfl)]
       refine wp_append_names _ _ rfl w1.heap.size B (some ⟨W2.heap.size, 0, none⟩) m1.R 0 m1.rl m1.rc c rfl HX5_3.out rfl (HCb.out.below HB5.out).r hrc hr24 hD5 ?_
       intro X6_3 c6_3 W6 hown hgrow hplace
       have HB6 := Lib.hid (HB5.out.grown hgrow hD5 (fun k hk => (HX5_3.out.place k hk).1))
       have HX6_3 := Lib.hid hown
       have HX6_1 := Lib.hid (HX5_1.out.beside hgrow (fun e => d4_31 e.symm))
       have d6_13 := dis_step HX5_1.out (fun e => d4_31 e.symm) hplace
       have HX6_2 := Lib.hid (HX5_2.out.beside hgrow (fun e => d5_32 e.symm))
       have d6_23 := dis_step HX5_2.out (fun e => d5_32 e.symm) hplace
       clear hown hgrow hplace
       have hD6 : w1.heap.size ≤ W6.heap.size := HB6.out.size
       have hS6 := body_S (HCb.out.below HB6.out)
       rw [HMe.out] at hS6
       refine hK.out _ _ (fun _ => hS6) ?_
       clear hK K
       (try simp only [Act.put, zA, zB, zC, zD, zE, zF])
       have hcn := HCb.out.below HB6.out
       obtain ⟨k4, k5, k6⟩ := hS6
       have f4 : W6.frozen? ⟨M, 4, none⟩ = false := by rw [← HMe.out]; exact hcn.maker.frozen 4
       have f5 : W6.frozen? ⟨M, 5, none⟩ = false := by rw [← HMe.out]; exact hcn.maker.frozen 5
       have f6 : W6.frozen? ⟨M, 6, none⟩ = false := by rw [← HMe.out]; exact hcn.maker.frozen 6
       have hfin := body_fin hcn (HX6_1.out.base hBw) (HX6_2.out.base hBw) (HX6_3.out.base hBw) d5_12 d6_13 d6_23 hsa hqb hrc
       obtain ⟨U, hU⟩ : ∃ U, Hid ((((W6.setCell ⟨m1.M, 4, none⟩ (.slice X4_1 a c4_1)).setCell ⟨m1.M, 5, none⟩ (.slice X5_2 b c5_2)).setCell ⟨m1.M, 6, none⟩ (.slice X6_3 c c6_3)) = U) := ⟨_, Lib.hid rfl⟩
       rw [hU.out] at hfin
       obtain ⟨hcU, hwU⟩ := hfin
       rw [HMe.out] at hU
       have HCU := Lib.hid hcU
       have HWU := Lib.hid ((Went.of_below (lo := lo) (B := B) HB6.out).trans hwU)
       clear hcU hwU hcn
       refine wpAnyU_late (i := 27) (v := ?_) rfl (by kernel_rfl) (by kernel_rfl) (by kernel_rfl) (by kernel_rfl) (fun _ _ _ h => h) (Or.inl ⟨by rfl, ?_⟩) ?_
       rotate_left 1
       ·intro w hSw
        clear hSw
        (go_simp) <;> (with_reducible rfl)
       (try simp only [Act.put, zA, zB, zC, zD, zE, zF])
       refine wpAnyU_late (i := 28) (v := ?_) rfl (by kernel_rfl) (by kernel_rfl) (by kernel_rfl) (by kernel_rfl) (fun _ _ _ h => h) (Or.inl ⟨by rfl, ?_⟩) ?_
       rotate_left 1
       ·intro w hSw
        clear hSw
        (go_simp) <;> (with_reducible rfl)
       (try simp only [Act.put, zA, zB, zC, zD, zE, zF])
       refine wpAnyU_ready (rs := [29]) (by kernel_rfl) (by simp) (AllU.cons rfl (fun K hK => ?_) AllU.nil)
       go_simp
       refine hK.out _ _ (fun hh => absurd hh (by decide)) ?_
       clear hK K
       (try simp only [Act.put, zA, zB, zC, zD, zE, zF])
       refine wpAnyU_late (i := 30) (v := ?_) rfl (by kernel_rfl) (by kernel_rfl) (by kernel_rfl) (by kernel_rfl) (fun _ _ _ h => h) (Or.inl ⟨by rfl, ?_⟩) ?_
       rotate_left 1
       ·intro w hSw
        clear hSw
        (go_simp) <;> (with_reducible rfl)
       (try simp only [Act.put, zA, zB, zC, zD, zE, zF])
       refine wpAnyU_late (i := 31) (v := ?_) rfl (by kernel_rfl) (by kernel_rfl) (by kernel_rfl) (by kernel_rfl) (fun _ _ _ h => h) (Or.inl ⟨by rfl, ?_⟩) ?_
       rotate_left 1
       ·intro w hSw
        clear hSw
        (go_simp) <;> (with_reducible rfl)
       (try simp only [Act.put, zA, zB, zC, zD, zE, zF])
       refine wpAnyU_ready (rs := [32]) (by kernel_rfl) (by simp) (AllU.cons rfl (fun K hK => ?_) AllU.nil)
       go_simp
       refine hK.out _ _ (fun hh => absurd hh (by decide)) ?_
       clear hK K
       (try simp only [Act.put, zA, zB, zC, zD, zE, zF])
       refine wpAnyU_late (i := 33) (v := ?_) rfl (by kernel_rfl) (by kernel_rfl) (by kernel_rfl) (by kernel_rfl) (fun _ _ _ h => h) (Or.inl ⟨by rfl, ?_⟩) ?_
       rotate_left 1
       ·intro w hSw
        clear hSw
        (go_simp) <;> (with_reducible rfl)
       (try simp only [Act.put, zA, zB, zC, zD, zE, zF])
       refine wpAnyU_late (i := 34) (v := ?_) rfl (by kernel_rfl) (by kernel_rfl) (by kernel_rfl) (by kernel_rfl) (fun _ _ _ h => h) (Or.inl ⟨by rfl, ?_⟩) ?_
       rotate_left 1
       ·intro w hSw
        clear hSw
        (go_simp) <;> (with_reducible rfl)
       (try simp only [Act.put, zA, zB, zC, zD, zE, zF])
       refine wpAnyU_ready (rs := [35]) (by kernel_rfl) (by simp) (AllU.cons rfl (fun K hK => ?_) AllU.nil)
       go_simp
       rw [hU.out]
       refine hK.out _ _ (fun hh => absurd hh (by decide)) ?_
       clear hK K
       refine wpAnyU_done (by kernel_rfl) ?_ _
       clear k4 k5 k6 f4 f5 f6
       go_wp2_with fail
       go_ret
       exact ⟨A0, l0, c0, ns, _, rfl, HROW.out.kept HWU.out.keptX, hl20, kin_body HKIN.out HA.out HBb.out HCc.out, HA.out.symm, HBb.out.symm, HCc.out.symm, HNUM.out.2.1, HNUM.out.2.2.1, HNUM.out.2.2.2, HCU.out, HW1.out.trans HWU.out⟩
  ·go_simp
   obtain ⟨W2, hW2⟩ : ∃ W, Hid (W1.alloc (.cells #[] 9) = W) := ⟨_, Lib.hid rfl⟩
   have HB2 := Lib.hid (HB1.out.alloc hD1 (.cells #[] 9))
   have HX2_3 := Lib.hid (NameOwn.made (D := w1.heap.size) W1 hD1)
   have HX2_1 := Lib.hid (HX1_1.out.alloc (.cells #[] 9))
   have d2_13 := HX1_1.out.far
   rw [hW2.out] at HB2 HX2_1 HX2_3 ⊢
   have hD2 : w1.heap.size ≤ W2.heap.size := HB2.out.size
   have hS2 := body_S (HCb.out.below HB2.out)
   rw [HMe.out] at hS2
   refine hK.out _ _ (fun _ => hS2) ?_
   clear hK K
   (try simp only [Act.put, zA, zB, zC, zD, zE, zF])
   refine wpAnyU_ready (rs := [10, 11]) (by kernel_rfl) (by simp) (AllU.cons rfl (fun K hK => ?_) (AllU.cons rfl (fun K hK => ?_) AllU.nil))
   ·rw [if_pos (by rfl)]
    refine wp_append_names _ _ rfl w1.heap.size B (some ⟨W0.heap.size, 0, none⟩) m1.S 0 m1.sl m1.sc a rfl HX2_1.out rfl (HCb.out.below HB2.out).s hsa hs24 hD2 ?_
    intro X3_1 c3_1 W3 hown hgrow hplace
    have HB3 := Lib.hid (HB2.out.grown hgrow hD2 (fun k hk => (HX2_1.out.place k hk).1))
    have HX3_1 := Lib.hid hown
    have HX3_3 := Lib.hid (HX2_3.out.beside hgrow (fun e => d2_13 e.symm))
    have d3_31 := dis_step HX2_3.out (fun e => d2_13 e.symm) hplace
    clear hown hgrow hplace
    have hD3 : w1.heap.size ≤ W3.heap.size := HB3.out.size
    have hS3 := body_S (HCb.out.below HB3.out)
    rw [HMe.out] at hS3
    refine hK.out _ _ (fun _ => hS3) ?_
    clear hK K
    (try simp only [Act.put, zA, zB, zC, zD, zE, zF])
    refine wpAnyU_ready (rs := [11]) (by kernel_rfl) (by simp) (AllU.cons rfl (fun K hK => ?_) AllU.nil)
    ·go_simp
     obtain ⟨W4, hW4⟩ : ∃ W, Hid (W3.alloc (.cells #[] 9) = W) := ⟨_, Lib.hid rfl⟩
     have HB4 := Lib.hid (HB3.out.alloc hD3 (.cells #[] 9))
     have HX4_2 := Lib.hid (NameOwn.made (D := w1.heap.size) W3 hD3)
     have HX4_1 := Lib.hid (HX3_1.out.alloc (.cells #[] 9))
     have d4_12 := HX3_1.out.far
     have HX4_3 := Lib.hid (HX3_3.out.alloc (.cells #[] 9))
     have d4_32 := HX3_3.out.far
     rw [hW4.out] at HB4 HX4_1 HX4_3 HX4_2 ⊢
     have hD4 : w1.heap.size ≤ W4.heap.size := HB4.out.size
     have hS4 := body_S (HCb.out.below HB4.out)
     rw [HMe.out] at hS4
     refine hK.out _ _ (fun _ => hS4) ?_
     clear hK K
     (try simp only [Act.put, zA, zB, zC, zD, zE, zF])
     refine wpAnyU_ready (rs := [18]) (by kernel_rfl) (by simp) (AllU.cons rfl (fun K hK => ?_) AllU.nil)
     ·rw [if_pos (by rfl)]
      refine wp_append_names _ _ rfl w1.heap.size B (some ⟨W3.heap.size, 0, none⟩) m1.Q 0 m1.ql m1.qc b rfl HX4_2.out rfl (HCb.out.below HB4.out).q hqb hq24 hD4 ?_
      intro X5_2 c5_2 W5 hown hgrow hplace
      have HB5 := Lib.hid (HB4.out.grown hgrow hD4 (fun k hk => (HX4_2.out.place k hk).1))
      have HX5_2 := Lib.hid hown
      have HX5_1 := Lib.hid (HX4_1.out.beside hgrow d4_12)
      have d5_12 := dis_step HX4_1.out d4_12 hplace
      have HX5_3 := Lib.hid (HX4_3.out.beside hgrow d4_32)
      have d5_32 := dis_step HX4_3.out d4_32 hplace
      clear hown hgrow hplace
      have hD5 : w1.heap.size ≤ W5.heap.size := HB5.out.size
      have hS5 := body_S (HCb.out.below HB5.out)
      rw [HMe.out] at hS5
      refine hK.out _ _ (fun _ => hS5) ?_
      clear hK K
      (try simp only [Act.put, zA, zB, zC, zD, zE, zF])
      refine wpAnyU_ready (rs := [26]) (by kernel_rfl) (by simp) (AllU.cons rfl (fun K hK => ?_) AllU.nil)
      ·rw [if_pos (by rfl)]
       refine wp_append_names _ _ rfl w1.heap.size B (some ⟨W1.heap.size, 0, none⟩) m1.R 0 m1.rl m1.rc c rfl HX5_3.out rfl (HCb.out.below HB5.out).r hrc hr24 hD5 ?_
       intro X6_3 c6_3 W6 hown hgrow hplace
       have HB6 := Lib.hid (HB5.out.grown hgrow hD5 (fun k hk => (HX5_3.out.place k hk).1))
       have HX6_3 := Lib.hid hown
       have HX6_1 := Lib.hid (HX5_1.out.beside hgrow (fun e => d3_31 e.symm))
       have d6_13 := dis_step HX5_1.out (fun e => d3_31 e.symm) hplace
       have HX6_2 := Lib.hid (HX5_2.out.beside hgrow (fun e => d5_32 e.symm))
       have d6_23 := dis_step HX5_2.out (fun e => d5_32 e.symm) hplace
       clear hown hgrow hplace
       have hD6 : w1.heap.size ≤ W6.heap.size := HB6.out.size
       have hS6 := body_S (HCb.out.below HB6.out)
       rw [HMe.out] at hS6
       refine hK.out _ _ (fun _ => hS6) ?_
       clear hK K
       (try simp only [Act.put, zA, zB, zC, zD, zE, zF])
       have hcn := HCb.out.below HB6.out
       obtain ⟨k4, k5, k6⟩ := hS6
       have f4 : W6.frozen? ⟨M, 4, none⟩ = false := by rw [← HMe.out]; exact hcn.maker.frozen 4
       have f5 : W6.frozen? ⟨M, 5, none⟩ = false := by rw [← HMe.out]; exact hcn.maker.frozen 5
       have f6 : W6.frozen? ⟨M, 6, none⟩ = false := by rw [← HMe.out]; exact hcn.maker.frozen 6
       have hfin := body_fin hcn (HX6_1.out.base hBw) (HX6_2.out.base hBw) (HX6_3.out.base hBw) d5_12 d6_13 d6_23 hsa hqb hrc
       obtain ⟨U, hU⟩ : ∃ U, Hid ((((W6.setCell ⟨m1.M, 4, none⟩ (.slice X3_1 a c3_1)).setCell ⟨m1.M, 5, none⟩ (.slice X5_2 b c5_2)).setCell ⟨m1.M, 6, none⟩ (.slice X6_3 c c6_3)) = U) := ⟨_, Lib.hid rfl⟩
       rw [hU.out] at hfin
       obtain ⟨hcU, hwU⟩ := hfin
       rw [HMe.out] at hU
       have HCU := Lib.hid hcU
       have HWU := Lib.hid ((Went.of_below (lo := lo) (B := B) HB6.out).trans hwU)
       clear hcU hwU hcn
       refine wpAnyU_late (i := 27) (v := ?_) rfl (by kernel_rfl) (by kernel_rfl) (by kernel_rfl) (by kernel_rfl) (fun _ _ _ h => h) (Or.inl ⟨by rfl, ?_⟩) ?_
       rotate_left 1
       ·intro w hSw
        clear hSw
        (go_simp) <;> (with_reducible rfl)
       (try simp only [Act.put, zA, zB, zC, zD, zE, zF])
       refine wpAnyU_late (i := 28) (v := ?_) rfl (by kernel_rfl) (by kernel_rfl) (by kernel_rfl) (by kernel_rfl) (fun _ _ _ h => h) (Or.inl ⟨by rfl, ?_⟩) ?_
       rotate_left 1
       ·intro w hSw
        clear hSw
        (go_simp) <;> (with_reducible rfl)
       (try simp only [Act.put, zA, zB, zC, zD, zE, zF])
       refine wpAnyU_ready (rs := [29]) (by kernel_rfl) (by simp) (AllU.cons rfl (fun K hK => ?_) AllU.nil)
       go_simp
       refine hK.out _ _ (fun hh => absurd hh (by decide)) ?_
       clear hK K
       (try simp only [Act.put, zA, zB, zC, zD, zE, zF])
       refine wpAnyU_late (i := 30) (v := ?_) rfl (by kernel_rfl) (by kernel_rfl) (by kernel_rfl) (by kernel_rfl) (fun _ _ _ h => h) (Or.inl ⟨by rfl, ?_⟩) ?_
       rotate_left 1
       ·intro w hSw
        clear hSw
        (go_simp) <;> (with_reducible rfl)
       (try simp only [Act.put, zA, zB, zC, zD, zE, zF])
       refine wpAnyU_late (i := 31) (v := ?_) rfl (by kernel_rfl) (by kernel_rfl) (by kernel_rfl) (by kernel_rfl) (fun _ _ _ h => h) (Or.inl ⟨by rfl, ?_⟩) ?_
       rotate_left 1
       ·intro w hSw
        clear hSw
        (go_simp) <;> (with_reducible rfl)
       (try simp only [Act.put, zA, zB, zC, zD, zE, zF])
       refine wpAnyU_ready (rs := [32]) (by kernel_rfl) (by simp) (AllU.cons rfl (fun K hK => ?_) AllU.nil)
       go_simp
       refine hK.out _ _ (fun hh => absurd hh (by decide)) ?_
       clear hK K
       (try simp only [Act.put, zA, zB, zC, zD, zE, zF])
       refine wpAnyU_late (i := 33) (v := ?_) rfl (by kernel_rfl) (by kernel_rfl) (by kernel_rfl) (by kernel_rfl) (fun _ _ _ h => h) (Or.inl ⟨by rfl, ?_⟩) ?_
       rotate_left 1
       ·intro w hSw
        clear hSw
        (go_simp) <;> (with_reducible rfl)
       (try simp only [Act.put, zA, zB, zC, zD, zE, zF])
       refine wpAnyU_late (i := 34) (v := ?_) rfl (by kernel_rfl) (by kernel_rfl) (by kernel_rfl) (by kernel_rfl) (fun _ _ _ h => h) (Or.inl ⟨by rfl, ?_⟩) ?_
       rotate_left 1
       ·intro w hSw
        clear hSw
        (go_simp) <;> (with_reducible rfl)
       (try simp only [Act.put, zA, zB, zC, zD, zE, zF])
       refine wpAnyU_ready (rs := [35]) (by kernel_rfl) (by simp) (AllU.cons rfl (fun K hK => ?_) AllU.nil)
       go_simp
       rw [hU.out]
       refine hK.out _ _ (fun hh => absurd hh (by decide)) ?_
       clear hK K
       refine wpAnyU_done (by kernel_rfl) ?_ _
       clear k4 k5 k6 f4 f5 f6
       go_wp2_with fail
       go_ret
       exact ⟨A0, l0, c0, ns, _, rfl, HROW.out.kept HWU.out.keptX, hl20, kin_body HKIN.out HA.out HBb.out HCc.out, HA.out.symm, HBb.out.symm, HCc.out.symm, HNUM.out.2.1, HNUM.out.2.2.1, HNUM.out.2.2.2, HCU.out, HW1.out.trans HWU.out⟩
   ·go_simp
    obtain ⟨W3, hW3⟩ : ∃ W, Hid (W2.alloc (.cells #[] 9) = W) := ⟨_, Lib.hid rfl⟩
    have HB3 := Lib.hid (HB2.out.alloc hD2 (.cells #[] 9))
    have HX3_2 := Lib.hid (NameOwn.made (D := w1.heap.size) W2 hD2)
    have HX3_1 := Lib.hid (HX2_1.out.alloc (.cells #[] 9))
    have d3_12 := HX2_1.out.far
    have HX3_3 := Lib.hid (HX2_3.out.alloc (.cells #[] 9))
    have d3_32 := HX2_3.out.far
    rw [hW3.out] at HB3 HX3_1 HX3_3 HX3_2 ⊢
    have hD3 : w1.heap.size ≤ W3.heap.size := HB3.out.size
    have hS3 := body_S (HCb.out.below HB3.out)
    rw [HMe.out] at hS3
    refine hK.out _ _ (fun _ => hS3) ?_
    clear hK K
    (try simp only [Act.put, zA, zB, zC, zD, zE, zF])
    refine wpAnyU_ready (rs := [10]) (by kernel_rfl) (by simp) (AllU.cons rfl (fun K hK => ?_) AllU.nil)
    ·rw [if_pos (by rfl)]
     refine wp_append_names _ _ rfl w1.heap.size B (some ⟨W0.heap.size, 0, none⟩) m1.S 0 m1.sl m1.sc a rfl HX3_1.out rfl (HCb.out.below HB3.out).s hsa hs24 hD3 ?_
     intro X4_1 c4_1 W4 hown hgrow hplace
     have HB4 := Lib.hid (HB3.out.grown hgrow hD3 (fun k hk => (HX3_1.out.place k hk).1))
     have HX4_1 := Lib.hid hown
     have HX4_2 := Lib.hid (HX3_2.out.beside hgrow (fun e => d3_12 e.symm))
     have d4_21 := dis_step HX3_2.out (fun e => d3_12 e.symm) hplace
     have HX4_3 := Lib.hid (HX3_3.out.beside hgrow (fun e => d2_13 e.symm))
     have d4_31 := dis_step HX3_3.out (fun e => d2_13 e.symm) hplace
     clear hown hgrow hplace
     have hD4 : w1.heap.size ≤ W4.heap.size := HB4.out.size
     have hS4 := body_S (HCb.out.below HB4.out)
     rw [HMe.out] at hS4
     refine hK.out _ _ (fun _ => hS4) ?_
     clear hK K
     (try simp only [Act.put, zA, zB, zC, zD, zE, zF])
     refine wpAnyU_ready (rs := [18]) (by kernel_rfl) (by simp) (AllU.cons rfl (fun K hK => ?_) AllU.nil)
     ·rw [if_pos (by rfl)]
      refine wp_append_names _ _ rfl w1.heap.size B (some ⟨W2.heap.size, 0, none⟩) m1.Q 0 m1.ql m1.qc b rfl HX4_2.out rfl (HCb.out.below HB4.out).q hqb hq24 hD4 ?_
      intro X5_2 c5_2 W5 hown hgrow hplace
      have HB5 := Lib.hid (HB4.out.grown hgrow hD4 (fun k hk => (HX4_2.out.place k hk).1))
      have HX5_2 := Lib.hid hown
      have HX5_1 := Lib.hid (HX4_1.out.beside hgrow (fun e => d4_21 e.symm))
      have d5_12 := dis_step HX4_1.out (fun e => d4_21 e.symm) hplace
      have HX5_3 := Lib.hid (HX4_3.out.beside hgrow d3_32)
      have d5_32 := dis_step HX4_3.out d3_32 hplace
      clear hown hgrow hplace
      have hD5 : w1.heap.size ≤ W5.heap.size := HB5.out.size
      have hS5 := body_S (HCb.out.below HB5.out)
      rw [HMe.out] at hS5
      refine hK.out _ _ (fun _ => hS5) ?_
      clear hK K
      (try simp only [Act.put, zA, zB, zC, zD, zE, zF])
      refine wpAnyU_ready (rs := [26]) (by kernel_rfl) (by simp) (AllU.cons rfl (fun K hK => ?_) AllU.nil)
      ·rw [if_pos (by rfl)]
       refine wp_append_names _ _ rfl w1.heap.size B (some ⟨W1.heap.size, 0, none⟩) m1.R 0 m1.rl m1.rc c rfl HX5_3.out rfl (HCb.out.below HB5.out).r hrc hr24 hD5 ?_
       intro X6_3 c6_3 W6 hown hgrow hplace
       have HB6 := Lib.hid (HB5.out.grown hgrow hD5 (fun k hk => (HX5_3.out.place k hk).1))
       have HX6_3 := Lib.hid hown
       have HX6_1 := Lib.hid (HX5_1.out.beside hgrow (fun e => d4_31 e.symm))
       have d6_13 := dis_step HX5_1.out (fun e => d4_31 e.symm) hplace
       have HX6_2 := Lib.hid (HX5_2.out.beside hgrow (fun e => d5_32 e.symm))
       have d6_23 := dis_step HX5_2.out (fun e => d5_32 e.symm) hplace
       clear hown hgrow hplace
       have hD6 : w1.heap.size ≤ W6.heap.size := HB6.out.size
       have hS6 := body_S (HCb.out.below HB6.out)
       rw [HMe.out] at hS6
       refine hK.out _ _ (fun _ => hS6) ?_
       clear hK K
       (try simp only [Act.put, zA, zB, zC, zD, zE, zF])
       have hcn := HCb.out.below HB6.out
       obtain ⟨k4, k5, k6⟩ := hS6
       have f4 : W6.frozen? ⟨M, 4, none⟩ = false := by rw [← HMe.out]; exact hcn.maker.frozen 4
       have f5 : W6.frozen? ⟨M, 5, none⟩ = false := by rw [← HMe.out]; exact hcn.maker.frozen 5
       have f6 : W6.frozen? ⟨M, 6, none⟩ = false := by rw [← HMe.out]; exact hcn.maker.frozen 6
       have hfin := body_fin hcn (HX6_1.out.base hBw) (HX6_2.out.base hBw) (HX6_3.out.base hBw) d5_12 d6_13 d6_23 hsa hqb hrc
       obtain ⟨U, hU⟩ : ∃ U, Hid ((((W6.setCell ⟨m1.M, 4, none⟩ (.slice X4_1 a c4_1)).setCell ⟨m1.M, 5, none⟩ (.slice X5_2 b c5_2)).setCell ⟨m1.M, 6, none⟩ (.slice X6_3 c c6_3)) = U) := ⟨_, Lib.hid rfl⟩
       rw [hU.out] at hfin
       obtain ⟨hcU, hwU⟩ := hfin
       rw [HMe.out] at hU
       have HCU := Lib.hid hcU
       have HWU := Lib.hid ((Went.of_below (lo := lo) (B := B) HB6.out).trans hwU)
       clear hcU hwU hcn
       refine wpAnyU_late (i := 27) (v := ?_) rfl (by kernel_rfl) (by kernel_rfl) (by kernel_rfl) (by kernel_rfl) (fun _ _ _ h => h) (Or.inl ⟨by rfl, ?_⟩) ?_
       rotate_left 1
       ·intro w hSw
        clear hSw
        (go_simp) <;> (with_reducible rfl)
       (try simp only [Act.put, zA, zB, zC, zD, zE, zF])
       refine wpAnyU_late (i := 28) (v := ?_) rfl (by kernel_rfl) (by kernel_rfl) (by kernel_rfl) (by kernel_rfl) (fun _ _ _ h => h) (Or.inl ⟨by rfl, ?_⟩) ?_
       rotate_left 1
       ·intro w hSw
        clear hSw
        (go_simp) <;> (with_reducible rfl)
       (try simp only [Act.put, zA, zB, zC, zD, zE, zF])
       refine wpAnyU_ready (rs := [29]) (by kernel_rfl) (by simp) (AllU.cons rfl (fun K hK => ?_) AllU.nil)
       go_simp
       refine hK.out _ _ (fun hh => absurd hh (by decide)) ?_
       clear hK K
       (try simp only [Act.put, zA, zB, zC, zD, zE, zF])
       refine wpAnyU_late (i := 30) (v := ?_) rfl (by kernel_rfl) (by kernel_rfl) (by kernel_rfl) (by kernel_rfl) (fun _ _ _ h => h) (Or.inl ⟨by rfl, ?_⟩) ?_
       rotate_left 1
       ·intro w hSw
        clear hSw
        (go_simp) <;> (with_reducible rfl)
       (try simp only [Act.put, zA, zB, zC, zD, zE, zF])
       refine wpAnyU_late (i := 31) (v := ?_) rfl (by kernel_rfl) (by kernel_rfl) (by kernel_rfl) (by kernel_rfl) (fun _ _ _ h => h) (Or.inl ⟨by rfl, ?_⟩) ?_
       rotate_left 1
       ·intro w hSw
        clear hSw
        (go_simp) <;> (with_reducible rfl)
       (try simp only [Act.put, zA, zB, zC, zD, zE, zF])
       refine wpAnyU_ready (rs := [32]) (by kernel_rfl) (by simp) (AllU.cons rfl (fun K hK => ?_) AllU.nil)
       go_simp
       refine hK.out _ _ (fun hh => absurd hh (by decide)) ?_
       clear hK K
       (try simp only [Act.put, zA, zB, zC, zD, zE, zF])
       refine wpAnyU_late (i := 33) (v := ?_) rfl (by kernel_rfl) (by kernel_rfl) (by kernel_rfl) (by kernel_rfl) (fun _ _ _ h => h) (Or.inl ⟨by rfl, ?_⟩) ?_
       rotate_left 1
       ·intro w hSw
        clear hSw
        (go_simp) <;> (with_reducible rfl)
       (try simp only [Act.put, zA, zB, zC, zD, zE, zF])
       refine wpAnyU_late (i := 34) (v := ?_) rfl (by kernel_rfl) (by kernel_rfl) (by kernel_rfl) (by kernel_rfl) (fun _ _ _ h => h) (Or.inl ⟨by rfl, ?_⟩) ?_
       rotate_left 1
       ·intro w hSw
        clear hSw
        (go_simp) <;> (with_reducible rfl)
       (try simp only [Act.put, zA, zB, zC, zD, zE, zF])
       refine wpAnyU_ready (rs := [35]) (by kernel_rfl) (by simp) (AllU.cons rfl (fun K hK => ?_) AllU.nil)
       go_simp
       rw [hU.out]
       refine hK.out _ _ (fun hh => absurd hh (by decide)) ?_
       clear hK K
       refine wpAnyU_done (by kernel_rfl) ?_ _
       clear k4 k5 k6 f4 f5 f6
       go_wp2_with fail
       go_ret
       exact ⟨A0, l0, c0, ns, _, rfl, HROW.out.kept HWU.out.keptX, hl20, kin_body HKIN.out HA.out HBb.out HCc.out, HA.out.symm, HBb.out.symm, HCc.out.symm, HNUM.out.2.1, HNUM.out.2.2.1, HNUM.out.2.2.2, HCU.out, HW1.out.trans HWU.out⟩
 ·go_simp
  obtain ⟨W1, hW1⟩ : ∃ W, Hid (W0.alloc (.cells #[] 9) = W) := ⟨_, Lib.hid rfl⟩
  have HB1 := Lib.hid (HB0.out.alloc hD0 (.cells #[] 9))
  have HX1_2 := Lib.hid (NameOwn.made (D := w1.heap.size) W0 hD0)
  rw [hW1.out] at HB1 HX1_2 ⊢
  have hD1 : w1.heap.size ≤ W1.heap.size := HB1.out.size
  have hS1 := body_S (HCb.out.below HB1.out)
  rw [HMe.out] at hS1
  refine hK.out _ _ (fun _ => hS1) ?_
  clear hK K
  (try simp only [Act.put, zA, zB, zC, zD, zE, zF])
  refine wpAnyU_ready (rs := [3, 19]) (by kernel_rfl) (by simp) (AllU.cons rfl (fun K hK => ?_) (AllU.cons rfl (fun K hK => ?_) AllU.nil))
  ·go_simp
   obtain ⟨W2, hW2⟩ : ∃ W, Hid (W1.alloc (.cells #[] 9) = W) := ⟨_, Lib.hid rfl⟩
   have HB2 := Lib.hid (HB1.out.alloc hD1 (.cells #[] 9))
   have HX2_1 := Lib.hid (NameOwn.made (D := w1.heap.size) W1 hD1)
   have HX2_2 := Lib.hid (HX1_2.out.alloc (.cells #[] 9))
   have d2_21 := HX1_2.out.far
   rw [hW2.out] at HB2 HX2_2 HX2_1 ⊢
   have hD2 : w1.heap.size ≤ W2.heap.size := HB2.out.size
   have hS2 := body_S (HCb.out.below HB2.out)
   rw [HMe.out] at hS2
   refine hK.out _ _ (fun _ => hS2) ?_
   clear hK K
   (try simp only [Act.put, zA, zB, zC, zD, zE, zF])
   refine wpAnyU_ready (rs := [10, 19]) (by kernel_rfl) (by simp) (AllU.cons rfl (fun K hK => ?_) (AllU.cons rfl (fun K hK => ?_) AllU.nil))
   ·rw [if_pos (by rfl)]
    refine wp_append_names _ _ rfl w1.heap.size B (some ⟨W1.heap.size, 0, none⟩) m1.S 0 m1.sl m1.sc a rfl HX2_1.out rfl (HCb.out.below HB2.out).s hsa hs24 hD2 ?_
    intro X3_1 c3_1 W3 hown hgrow hplace
    have HB3 := Lib.hid (HB2.out.grown hgrow hD2 (fun k hk => (HX2_1.out.place k hk).1))
    have HX3_1 := Lib.hid hown
    have HX3_2 := Lib.hid (HX2_2.out.beside hgrow d2_21)
    have d3_21 := dis_step HX2_2.out d2_21 hplace
    clear hown hgrow hplace
    have hD3 : w1.heap.size ≤ W3.heap.size := HB3.out.size
    have hS3 := body_S (HCb.out.below HB3.out)
    rw [HMe.out] at hS3
    refine hK.out _ _ (fun _ => hS3) ?_
    clear hK K
    (try simp only [Act.put, zA, zB, zC, zD, zE, zF])
    refine wpAnyU_ready (rs := [18, 19]) (by kernel_rfl) (by simp) (AllU.cons rfl (fun K hK => ?_) (AllU.cons rfl (fun K hK => ?_) AllU.nil))
    ·rw [if_pos (by rfl)]
     refine wp_append_names _ _ rfl w1.heap.size B (some ⟨W0.heap.size, 0, none⟩) m1.Q 0 m1.ql m1.qc b rfl HX3_2.out rfl (HCb.out.below HB3.out).q hqb hq24 hD3 ?_
     intro X4_2 c4_2 W4 hown hgrow hplace
     have HB4 := Lib.hid (HB3.out.grown hgrow hD3 (fun k hk => (HX3_2.out.place k hk).1))
     have HX4_2 := Lib.hid hown
     have HX4_1 := Lib.hid (HX3_1.out.beside hgrow (fun e => d3_21 e.symm))
     have d4_12 := dis_step HX3_1.out (fun e => d3_21 e.symm) hplace
     clear hown hgrow hplace
     have hD4 : w1.heap.size ≤ W4.heap.size := HB4.out.size
     have hS4 := body_S (HCb.out.below HB4.out)
     rw [HMe.out] at hS4
     refine hK.out _ _ (fun _ => hS4) ?_
     clear hK K
     (try simp only [Act.put, zA, zB, zC, zD, zE, zF])
     refine wpAnyU_ready (rs := [19]) (by kernel_rfl) (by simp) (AllU.cons rfl (fun K hK => ?_) AllU.nil)
     ·go_simp
      obtain ⟨W5, hW5⟩ : ∃ W, Hid (W4.alloc (.cells #[] 9) = W) := ⟨_, Lib.hid rfl⟩
      have HB5 := Lib.hid (HB4.out.alloc hD4 (.cells #[] 9))
      have HX5_3 := Lib.hid (NameOwn.made (D := w1.heap.size) W4 hD4)
      have HX5_1 := Lib.hid (HX4_1.out.alloc (.cells #[] 9))
      have d5_13 := HX4_1.out.far
      have HX5_2 := Lib.hid (HX4_2.out.alloc (.cells #[] 9))
      have d5_23 := HX4_2.out.far
      rw [hW5.out] at HB5 HX5_1 HX5_2 HX5_3 ⊢
      have hD5 : w1.heap.size ≤ W5.heap.size := HB5.out.size
      have hS5 := body_S (HCb.out.below HB5.out)
      rw [HMe.out] at hS5
      refine hK.out _ _ (fun _ => hS5) ?_
      clear hK K
      (try simp only [Act.put, zA, zB, zC, zD, zE, zF])
      refine wpAnyU_ready (rs := [26]) (by kernel_rfl) (by simp) (AllU.cons rfl (fun K hK => ?_) AllU.nil)
      ·rw [if_pos (by rfl)]
       refine wp_append_names _ _ rfl w1.heap.size B (some ⟨W4.heap.size, 0, none⟩) m1.R 0 m1.rl m1.rc c rfl HX5_3.out rfl (HCb.out.below HB5.out).r hrc hr24 hD5 ?_
       intro X6_3 c6_3 W6 hown hgrow hplace
       have HB6 := Lib.hid (HB5.out.grown hgrow hD5 (fun k hk => (HX5_3.out.place k hk).1))
       have HX6_3 := Lib.hid hown
       have HX6_1 := Lib.hid (HX5_1.out.beside hgrow d5_13)
       have d6_13 := dis_step HX5_1.out d5_13 hplace
       have HX6_2 := Lib.hid (HX5_2.out.beside hgrow d5_23)
       have d6_23 := dis_step HX5_2.out d5_23 hplace
       clear hown hgrow hplace
       have hD6 : w1.heap.size ≤ W6.heap.size := HB6.out.size
       have hS6 := body_S (HCb.out.below HB6.out)
       rw [HMe.out] at hS6
       refine hK.out _ _ (fun _ => hS6) ?_
       clear hK K
       (try simp only [Act.put, zA, zB, zC, zD, zE, zF])
       have hcn := HCb.out.below HB6.out
       obtain ⟨k4, k5, k6⟩ := hS6
       have f4 : W6.frozen? ⟨M, 4, none⟩ = false := by rw [← HMe.out]; exact hcn.maker.frozen 4
       have f5 : W6.frozen? ⟨M, 5, none⟩ = false := by rw [← HMe.out]; exact hcn.maker.frozen 5
       have f6 : W6.frozen? ⟨M, 6, none⟩ = false := by rw [← HMe.out]; exact hcn.maker.frozen 6
       have hfin := body_fin hcn (HX6_1.out.base hBw) (HX6_2.out.base hBw) (HX6_3.out.base hBw) d4_12 d6_13 d6_23 hsa hqb hrc
       obtain ⟨U, hU⟩ : ∃ U, Hid ((((W6.setCell ⟨m1.M, 4, none⟩ (.slice X3_1 a c3_1)).setCell ⟨m1.M, 5, none⟩ (.slice X4_2 b c4_2)).setCell ⟨m1.M, 6, none⟩ (.slice X6_3 c c6_3)) = U) := ⟨_, Lib.hid rfl⟩
       rw [hU.out] at hfin
       obtain ⟨hcU, hwU⟩ := hfin
       rw [HMe.out] at hU
       have HCU := Lib.hid hcU
       have HWU := Lib.hid ((Went.of_below (lo := lo) (B := B) HB6.out).trans hwU)
       clear hcU hwU hcn
       refine wpAnyU_late (i := 27) (v := ?_) rfl (by kernel_rfl) (by kernel_rfl) (by kernel_rfl) (by kernel_rfl) (fun _ _ _ h => h) (Or.inl ⟨by rfl, ?_⟩) ?_
       rotate_left 1
       ·intro w hSw
        clear hSw
        (go_simp) <;> (with_reducible rfl)
       (try simp only [Act.put, zA, zB, zC, zD, zE, zF])
       refine wpAnyU_late (i := 28) (v := ?_) rfl (by kernel_rfl) (by kernel_rfl) (by kernel_rfl) (by kernel_rfl) (fun _ _ _ h => h) (Or.inl ⟨by rfl, ?_⟩) ?_
       rotate_left 1
       ·intro w hSw
        clear hSw
        (go_simp) <;> (with_reducible rfl)
       (try simp only [Act.put, zA, zB, zC, zD, zE, zF])
       refine wpAnyU_ready (rs := [29]) (by kernel_rfl) (by simp) (AllU.cons rfl (fun K hK => ?_) AllU.nil)
       go_simp
       refine hK.out _ _ (fun hh => absurd hh (by decide)) ?_
       clear hK K
       (try simp only [Act.put, zA, zB, zC, zD, zE, zF])
       refine wpAnyU_late (i := 30) (v := ?_) rfl (by kernel_rfl) (by kernel_rfl) (by kernel_rfl) (by kernel_rfl) (fun _ _ _ h => h) (Or.inl ⟨by rfl, ?_⟩) ?_
       rotate_left 1
       ·intro w hSw
        clear hSw
        (go_simp) <;> (with_reducible rfl)
       (try simp only [Act.put, zA, zB, zC, zD, zE, zF])
       refine wpAnyU_late (i := 31) (v := ?_) rfl (by kernel_rfl) (by kernel_rfl) (by kernel_rfl) (by kernel_rfl) (fun _ _ _ h => h) (Or.inl ⟨by rfl, ?_⟩) ?_
       rotate_left 1
       ·intro w hSw
        clear hSw
        (go_simp) <;> (with_reducible rfl)
       (try simp only [Act.put, zA, zB, zC, zD, zE, zF])
       refine wpAnyU_ready (rs := [32]) (by kernel_rfl) (by simp) (AllU.cons rfl (fun K hK => ?_) AllU.nil)
       go_simp
       refine hK.out _ _ (fun hh => absurd hh (by decide)) ?_
       clear hK K
       (try simp only [Act.put, zA, zB, zC, zD, zE, zF])
       refine wpAnyU_late (i := 33) (v := ?_) rfl (by kernel_rfl) (by kernel_rfl) (by kernel_rfl) (by kernel_rfl) (fun _ _ _ h => h) (Or.inl ⟨by rfl, ?_⟩) ?_
       rotate_left 1
       ·intro w hSw
        clear hSw
        (go_simp) <;> (with_reducible rfl)
       (try simp only [Act.put, zA, zB, zC, zD, zE, zF])
       refine wpAnyU_late (i := 34) (v := ?_) rfl (by kernel_rfl) (by kernel_rfl) (by kernel_rfl) (by kernel_rfl) (fun _ _ _ h => h) (Or.inl ⟨by rfl, ?_⟩) ?_
       rotate_left 1
       ·intro w hSw
        clear hSw
        (go_simp) <;> (with_reducible rfl)
       (try simp only [Act.put, zA, zB, zC, zD, zE, zF])
       refine wpAnyU_ready (rs := [35]) (by kernel_rfl) (by simp) (AllU.cons rfl (fun K hK => ?_) AllU.nil)
       go_simp
       rw [hU.out]
       refine hK.out _ _ (fun hh => absurd hh (by decide)) ?_
       clear hK K
       refine wpAnyU_done (by kernel_rfl) ?_ _
       clear k4 k5 k6 f4 f5 f6
       go_wp2_with fail
       go_ret
       exact ⟨A0, l0, c0, ns, _, rfl, HROW.out.kept HWU.out.keptX, hl20, kin_body HKIN.out HA.out HBb.out HCc.out, HA.out.symm, HBb.out.symm, HCc.out.symm, HNUM.out.2.1, HNUM.out.2.2.1, HNUM.out.2.2.2, HCU.out, HW1.out.trans HWU.out⟩
    ·go_simp
     obtain ⟨W4, hW4⟩ : ∃ W, Hid (W3.alloc (.cells #[] 9) = W) := ⟨_, Lib.hid rfl⟩
     have HB4 := Lib.hid (HB3.out.alloc hD3 (.cells #[] 9))
     have HX4_3 := Lib.hid (NameOwn.made (D := w1.heap.size) W3 hD3)
     have HX4_1 := Lib.hid (HX3_1.out.alloc (.cells #[] 9))
     have d4_13 := HX3_1.out.far
     have HX4_2 := Lib.hid (HX3_2.out.alloc (.cells #[] 9))
     have d4_23 := HX3_2.out.far
     rw [hW4.out] at HB4 HX4_1 HX4_2 HX4_3 ⊢
     have hD4 : w1.heap.size ≤ W4.heap.size := HB4.out.size
     have hS4 := body_S (HCb.out.below HB4.out)
     rw [HMe.out] at hS4
     refine hK.out _ _ (fun _ => hS4) ?_
     clear hK K
     (try simp only [Act.put, zA, zB, zC, zD, zE, zF])
     refine wpAnyU_ready (rs := [18]) (by kernel_rfl) (by simp) (AllU.cons rfl (fun K hK => ?_) AllU.nil)
     ·rw [if_pos (by rfl)]
      refine wp_append_names _ _ rfl w1.heap.size B (some ⟨W0.heap.size, 0, none⟩) m1.Q 0 m1.ql m1.qc b rfl HX4_2.out rfl (HCb.out.below HB4.out).q hqb hq24 hD4 ?_
      intro X5_2 c5_2 W5 hown hgrow hplace
      have HB5 := Lib.hid (HB4.out.grown hgrow hD4 (fun k hk => (HX4_2.out.place k hk).1))
      have HX5_2 := Lib.hid hown
      have HX5_1 := Lib.hid (HX4_1.out.beside hgrow (fun e => d3_21 e.symm))
      have d5_12 := dis_step HX4_1.out (fun e => d3_21 e.symm) hplace
      have HX5_3 := Lib.hid (HX4_3.out.beside hgrow (fun e => d4_23 e.symm))
      have d5_32 := dis_step HX4_3.out (fun e => d4_23 e.symm) hplace
      clear hown hgrow hplace
      have hD5 : w1.heap.size ≤ W5.heap.size := HB5.out.size
      have hS5 := body_S (HCb.out.below HB5.out)
      rw [HMe.out] at hS5
      refine hK.out _ _ (fun _ => hS5) ?_
      clear hK K
      (try simp only [Act.put, zA, zB, zC, zD, zE, zF])
      refine wpAnyU_ready (rs := [26]) (by kernel_rfl) (by simp) (AllU.cons rfl (fun K hK => ?_) AllU.nil)
      ·rw [if_pos (by rfl)]
       refine wp_append_names _ _ rfl w1.heap.size B (some ⟨W3.heap.size, 0, none⟩) m1.R 0 m1.rl m1.rc c rfl HX5_3.out rfl (HCb.out.below HB5.out).r hrc hr24 hD5 ?_
       intro X6_3 c6_3 W6 hown hgrow hplace
       have HB6 := Lib.hid (HB5.out.grown hgrow hD5 (fun k hk => (HX5_3.out.place k hk).1))
       have HX6_3 := Lib.hid hown
       have HX6_1 := Lib.hid (HX5_1.out.beside hgrow d4_13)
       have d6_13 := dis_step HX5_1.out d4_13 hplace
       have HX6_2 := Lib.hid (HX5_2.out.beside hgrow (fun e => d5_32 e.symm))
       have d6_23 := dis_step HX5_2.out (fun e => d5_32 e.symm) hplace
       clear hown hgrow hplace
       have hD6 : w1.heap.size ≤ W6.heap.size := HB6.out.size
       have hS6 := body_S (HCb.out.below HB6.out)
       rw [HMe.out] at hS6
       refine hK.out _ _ (fun _ => hS6) ?_
       clear hK K
       (try simp only [Act.put, zA, zB, zC, zD, zE, zF])
       have hcn := HCb.out.below HB6.out
       obtain ⟨k4, k5, k6⟩ := hS6
       have f4 : W6.frozen? ⟨M, 4, none⟩ = false := by rw [← HMe.out]; exact hcn.maker.frozen 4
       have f5 : W6.frozen? ⟨M, 5, none⟩ = false := by rw [← HMe.out]; exact hcn.maker.frozen 5
       have f6 : W6.frozen? ⟨M, 6, none⟩ = false := by rw [← HMe.out]; exact hcn.maker.frozen 6
       have hfin := body_fin hcn (HX6_1.out.base hBw) (HX6_2.out.base hBw) (HX6_3.out.base hBw) d5_12 d6_13 d6_23 hsa hqb hrc
       obtain ⟨U, hU⟩ : ∃ U, Hid ((((W6.setCell ⟨m1.M, 4, none⟩ (.slice X3_1 a c3_1)).setCell ⟨m1.M, 5, none⟩ (.slice X5_2 b c5_2)).setCell ⟨m1.M, 6, none⟩ (.slice X6_3 c c6_3)) = U) := ⟨_, Lib.hid rfl⟩
       rw [hU.out] at hfin
       obtain ⟨hcU, hwU⟩ := hfin
       rw [HMe.out] at hU
       have HCU := Lib.hid hcU
       have HWU := Lib.hid ((Went.of_below (lo := lo) (B := B) HB6.out).trans hwU)
       clear hcU hwU hcn
       refine wpAnyU_late (i := 27) (v := ?_) rfl (by kernel_rfl) (by kernel_rfl) (by kernel_rfl) (by kernel_rfl) (fun _ _ _ h => h) (Or.inl ⟨by rfl, ?_⟩) ?_
       rotate_left 1
       ·intro w hSw
        clear hSw
        (go_simp) <;> (with_reducible rfl)
       (try simp only [Act.put, zA, zB, zC, zD, zE, zF])
       refine wpAnyU_late (i := 28) (v := ?_) rfl (by kernel_rfl) (by kernel_rfl) (by kernel_rfl) (by kernel_rfl) (fun _ _ _ h => h) (Or.inl ⟨by rfl, ?_⟩) ?_
       rotate_left 1
       ·intro w hSw
        clear hSw
        (go_simp) <;> (with_reducible rfl)
       (try simp only [Act.put, zA, zB, zC, zD, zE, zF])
       refine wpAnyU_ready (rs := [29]) (by kernel_rfl) (by simp) (AllU.cons rfl (fun K hK => ?_) AllU.nil)
       go_simp
       refine hK.out _ _ (fun hh => absurd hh (by decide)) ?_
       clear hK K
       (try simp only [Act.put, zA, zB, zC, zD, zE, zF])
       refine wpAnyU_late (i := 30) (v := ?_) rfl (by kernel_rfl) (by kernel_rfl) (by kernel_rfl) (by kernel_rfl) (fun _ _ _ h => h) (Or.inl ⟨by rfl, ?_⟩) ?_
       rotate_left 1
       ·intro w hSw
        clear hSw
        (go_simp) <;> (with_reducible rfl)
       (try simp only [Act.put, zA, zB, zC, zD, zE, zF])
       refine wpAnyU_late (i := 31) (v := ?_) rfl (by kernel_rfl) (by kernel_rfl) (by kernel_rfl) (by kernel_rfl) (fun _ _ _ h => h) (Or.inl ⟨by rfl, ?_⟩) ?_
       rotate_left 1
       ·intro w hSw
        clear hSw
        (go_simp) <;> (with_reducible rfl)
       (try simp only [Act.put, zA, zB, zC, zD, zE, zF])
       refine wpAnyU_ready (rs := [32]) (by kernel_rfl) (by simp) (AllU.cons rfl (fun K hK => ?_) AllU.nil)
       go_simp
       refine hK.out _ _ (fun hh => absurd hh (by decide)) ?_
       clear hK K
       (try simp only [Act.put, zA, zB, zC, zD, zE, zF])
       refine wpAnyU_late (i := 33) (v := ?_) rfl (by kernel_rfl) (by kernel_rfl) (by kernel_rfl) (by kernel_rfl) (fun _ _ _ h => h) (Or.inl ⟨by rfl, ?_⟩) ?_
       rotate_left 1
       ·intro w hSw
        clear hSw
        (go_simp) <;> (with_reducible rfl)
       (try simp only [Act.put, zA, zB, zC, zD, zE, zF])
       refine wpAnyU_late (i := 34) (v := ?_) rfl (by kernel_rfl) (by kernel_rfl) (by kernel_rfl) (by kernel_rfl) (fun _ _ _ h => h) (Or.inl ⟨by rfl, ?_⟩) ?_
       rotate_left 1
       ·intro w hSw
        clear hSw
        (go_simp) <;> (with_reducible rfl)
       (try simp only [Act.put, zA, zB, zC, zD, zE, zF])
       refine wpAnyU_ready (rs := [35]) (by kernel_rfl) (by simp) (AllU.cons rfl (fun K hK => ?_) AllU.nil)
       go_simp
       rw [hU.out]
       refine hK.out _ _ (fun hh => absurd hh (by decide)) ?_
       clear hK K
       refine wpAnyU_done (by kernel_rfl) ?_ _
       clear k4 k5 k6 f4 f5 f6
       go_wp2_with fail
       go_ret
       exact ⟨A0, l0, c0, ns, _, rfl, HROW.out.kept HWU.out.keptX, hl20, kin_body HKIN.out HA.out HBb.out HCc.out, HA.out.symm, HBb.out.symm, HCc.out.symm, HNUM.out.2.1, HNUM.out.2.2.1, HNUM.out.2.2.2, HCU.out, HW1.out.trans HWU.out⟩
   ·go_simp
    obtain ⟨W3, hW3⟩ : ∃ W, Hid (W2.alloc (.cells #[] 9) = W) := ⟨_, Lib.hid rfl⟩
    have HB3 := Lib.hid (HB2.out.alloc hD2 (.cells #[] 9))
    have HX3_3 := Lib.hid (NameOwn.made (D := w1.heap.size) W2 hD2)
    have HX3_1 := Lib.hid (HX2_1.out.alloc (.cells #[] 9))
    have d3_13 := HX2_1.out.far
    have HX3_2 := Lib.hid (HX2_2.out.alloc (.cells #[] 9))
    have d3_23 := HX2_2.out.far
    rw [hW3.out] at HB3 HX3_1 HX3_2 HX3_3 ⊢
    have hD3 : w1.heap.size ≤ W3.heap.size := HB3.out.size
    have hS3 := body_S (HCb.out.below HB3.out)
    rw [HMe.out] at hS3
    refine hK.out _ _ (fun _ => hS3) ?_
    clear hK K
    (try simp only [Act.put, zA, zB, zC, zD, zE, zF])
    refine wpAnyU_ready (rs := [10]) (by kernel_rfl) (by simp) (AllU.cons rfl (fun K hK => ?_) AllU.nil)
    ·rw [if_pos (by rfl)]
     refine wp_append_names _ _ rfl w1.heap.size B (some ⟨W1.heap.size, 0, none⟩) m1.S 0 m1.sl m1.sc a rfl HX3_1.out rfl (HCb.out.below HB3.out).s hsa hs24 hD3 ?_
     intro X4_1 c4_1 W4 hown hgrow hplace
     have HB4 := Lib.hid (HB3.out.grown hgrow hD3 (fun k hk => (HX3_1.out.place k hk).1))
     have HX4_1 := Lib.hid hown
     have HX4_2 := Lib.hid (HX3_2.out.beside hgrow d2_21)
     have d4_21 := dis_step HX3_2.out d2_21 hplace
     have HX4_3 := Lib.hid (HX3_3.out.beside hgrow (fun e => d3_13 e.symm))
     have d4_31 := dis_step HX3_3.out (fun e => d3_13 e.symm) hplace
     clear hown hgrow hplace
     have hD4 : w1.heap.size ≤ W4.heap.size := HB4.out.size
     have hS4 := body_S (HCb.out.below HB4.out)
     rw [HMe.out] at hS4
     refine hK.out _ _ (fun _ => hS4) ?_
     clear hK K
     (try simp only [Act.put, zA, zB, zC, zD, zE, zF])
     refine wpAnyU_ready (rs := [18]) (by kernel_rfl) (by simp) (AllU.cons rfl (fun K hK => ?_) AllU.nil)
     ·rw [if_pos (by rfl)]
      refine wp_append_names _ _ rfl w1.heap.size B (some ⟨W0.heap.size, 0, none⟩) m1.Q 0 m1.ql m1.qc b rfl HX4_2.out rfl (HCb.out.below HB4.out).q hqb hq24 hD4 ?_
      intro X5_2 c5_2 W5 hown hgrow hplace
      have HB5 := Lib.hid (HB4.out.grown hgrow hD4 (fun k hk => (HX4_2.out.place k hk).1))
      have HX5_2 := Lib.hid hown
      have HX5_1 := Lib.hid (HX4_1.out.beside hgrow (fun e => d4_21 e.symm))
      have d5_12 := dis_step HX4_1.out (fun e => d4_21 e.symm) hplace
      have HX5_3 := Lib.hid (HX4_3.out.beside hgrow (fun e => d3_23 e.symm))
      have d5_32 := dis_step HX4_3.out (fun e => d3_23 e.symm) hplace
      clear hown hgrow hplace
      have hD5 : w1.heap.size ≤ W5.heap.size := HB5.out.size
      have hS5 := body_S (HCb.out.below HB5.out)
      rw [HMe.out] at hS5
      refine hK.out _ _ (fun _ => hS5) ?_
      clear hK K
      (try simp only [Act.put, zA, zB, zC, zD, zE, zF])
      refine wpAnyU_ready (rs := [26]) (by kernel_rfl) (by simp) (AllU.cons rfl (fun K hK => ?_) AllU.nil)
      ·rw [if_pos (by rfl)]
       refine wp_append_names _ _ rfl w1.heap.size B (some ⟨W2.heap.size, 0, none⟩) m1.R 0 m1.rl m1.rc c rfl HX5_3.out rfl (HCb.out.below HB5.out).r hrc hr24 hD5 ?_
       intro X6_3 c6_3 W6 hown hgrow hplace
       have HB6 := Lib.hid (HB5.out.grown hgrow hD5 (fun k hk => (HX5_3.out.place k hk).1))
       have HX6_3 := Lib.hid hown
       have HX6_1 := Lib.hid (HX5_1.out.beside hgrow (fun e => d4_31 e.symm))
       have d6_13 := dis_step HX5_1.out (fun e => d4_31 e.symm) hplace
       have HX6_2 := Lib.hid (HX5_2.out.beside hgrow (fun e => d5_32 e.symm))
       have d6_23 := dis_step HX5_2.out (fun e => d5_32 e.symm) hplace
       clear hown hgrow hplace
       have hD6 : w1.heap.size ≤ W6.heap.size := HB6.out.size
       have hS6 := body_S (HCb.out.below HB6.out)
       rw [HMe.out] at hS6
       refine hK.out _ _ (fun _ => hS6) ?_
       clear hK K
       (try simp only [Act.put, zA, zB, zC, zD, zE, zF])
       have hcn := HCb.out.below HB6.out
       obtain ⟨k4, k5, k6⟩ := hS6
       have f4 : W6.frozen? ⟨M, 4, none⟩ = false := by rw [← HMe.out]; exact hcn.maker.frozen 4
       have f5 : W6.frozen? ⟨M, 5, none⟩ = false := by rw [← HMe.out]; exact hcn.maker.frozen 5
       have f6 : W6.frozen? ⟨M, 6, none⟩ = false := by rw [← HMe.out]; exact hcn.maker.frozen 6
       have hfin := body_fin hcn (HX6_1.out.base hBw) (HX6_2.out.base hBw) (HX6_3.out.base hBw) d5_12 d6_13 d6_23 hsa hqb hrc
       obtain ⟨U, hU⟩ : ∃ U, Hid ((((W6.setCell ⟨m1.M, 4, none⟩ (.slice X4_1 a c4_1)).setCell ⟨m1.M, 5, none⟩ (.slice X5_2 b c5_2)).setCell ⟨m1.M, 6, none⟩ (.slice X6_3 c c6_3)) = U) := ⟨_, Lib.hid rfl⟩
       rw [hU.out] at hfin
       obtain ⟨hcU, hwU⟩ := hfin
       rw [HMe.out] at hU
       have HCU := Lib.hid hcU
       have HWU := Lib.hid ((Went.of_below (lo := lo) (B := B) HB6.out).trans hwU)
       clear hcU hwU hcn
       refine wpAnyU_late (i := 27) (v := ?_) rfl (by kernel_rfl) (by kernel_rfl) (by kernel_rfl) (by kernel_rfl) (fun _ _ _ h => h) (Or.inl ⟨by rfl, ?_⟩) ?_
       rotate_left 1
       ·intro w hSw
        clear hSw
        (go_simp) <;> (with_reducible rfl)
       (try simp only [Act.put, zA, zB, zC, zD, zE, zF])
       refine wpAnyU_late (i := 28) (v := ?_) rfl (by kernel_rfl) (by kernel_rfl) (by kernel_rfl) (by kernel_rfl) (fun _ _ _ h => h) (Or.inl ⟨by rfl, ?_⟩) ?_
       rotate_left 1
       ·intro w hSw
        clear hSw
        (go_simp) <;> (with_reducible rfl)
       (try simp only [Act.put, zA, zB, zC, zD, zE, zF])
       refine wpAnyU_ready (rs := [29]) (by kernel_rfl) (by simp) (AllU.cons rfl (fun K hK => ?_) AllU.nil)
       go_simp
       refine hK.out _ _ (fun hh => absurd hh (by decide)) ?_
       clear hK K
       (try simp only [Act.put, zA, zB, zC, zD, zE, zF])
       refine wpAnyU_late (i := 30) (v := ?_) rfl (by kernel_rfl) (by kernel_rfl) (by kernel_rfl) (by kernel_rfl) (fun _ _ _ h => h) (Or.inl ⟨by rfl, ?_⟩) ?_
       rotate_left 1
       ·intro w hSw
        clear hSw
        (go_simp) <;> (with_reducible rfl)
       (try simp only [Act.put, zA, zB, zC, zD, zE, zF])
       refine wpAnyU_late (i := 31) (v := ?_) rfl (by kernel_rfl) (by kernel_rfl) (by kernel_rfl) (by kernel_rfl) (fun _ _ _ h => h) (Or.inl ⟨by rfl, ?_⟩) ?_
       rotate_left 1
       ·intro w hSw
        clear hSw
        (go_simp) <;> (with_reducible rfl)
       (try simp only [Act.put, zA, zB, zC, zD, zE, zF])
       refine wpAnyU_ready (rs := [32]) (by kernel_rfl) (by simp) (AllU.cons rfl (fun K hK => ?_) AllU.nil)
       go_simp
       refine hK.out _ _ (fun hh => absurd hh (by decide)) ?_
       clear hK K
       (try simp only [Act.put, zA, zB, zC, zD, zE, zF])
       refine wpAnyU_late (i := 33) (v := ?_) rfl (by kernel_rfl) (by kernel_rfl) (by kernel_rfl) (by kernel_rfl) (fun _ _ _ h => h) (Or.inl ⟨by rfl, ?_⟩) ?_
       rotate_left 1
       ·intro w hSw
        clear hSw
        (go_simp) <;> (with_reducible rfl)
       (try simp only [Act.put, zA, zB, zC, zD, zE, zF])
       refine wpAnyU_late (i := 34) (v := ?_) rfl (by kernel_rfl) (by kernel_rfl) (by kernel_rfl) (by kernel_rfl) (fun _ _ _ h => h) (Or.inl ⟨by rfl, ?_⟩) ?_
       rotate_left 1
       ·intro w hSw
        clear hSw
        (go_simp) <;> (with_reducible rfl)
       (try simp only [Act.put, zA, zB, zC, zD, zE, zF])
       refine wpAnyU_ready (rs := [35]) (by kernel_rfl) (by simp) (AllU.cons rfl (fun K hK => ?_) AllU.nil)
       go_simp
       rw [hU.out]
       refine hK.out _ _ (fun hh => absurd hh (by decide)) ?_
       clear hK K
       refine wpAnyU_done (by kernel_rfl) ?_ _
       clear k4 k5 k6 f4 f5 f6
       go_wp2_with fail
       go_ret
       exact ⟨A0, l0, c0, ns, _, rfl, HROW.out.kept HWU.out.keptX, hl20, kin_body HKIN.out HA.out HBb.out HCc.out, HA.out.symm, HBb.out.symm, HCc.out.symm, HNUM.out.2.1, HNUM.out.2.2.1, HNUM.out.2.2.2, HCU.out, HW1.out.trans HWU.out⟩
  ·go_simp
   obtain ⟨W2, hW2⟩ : ∃ W, Hid (W1.alloc (.cells #[] 9) = W) := ⟨_, Lib.hid rfl⟩
   have HB2 := Lib.hid (HB1.out.alloc hD1 (.cells #[] 9))
   have HX2_3 := Lib.hid (NameOwn.made (D := w1.heap.size) W1 hD1)
   have HX2_2 := Lib.hid (HX1_2.out.alloc (.cells #[] 9))
   have d2_23 := HX1_2.out.far
   rw [hW2.out] at HB2 HX2_2 HX2_3 ⊢
   have hD2 : w1.heap.size ≤ W2.heap.size := HB2.out.size
   have hS2 := body_S (HCb.out.below HB2.out)
   rw [HMe.out] at hS2
   refine hK.out _ _ (fun _ => hS2) ?_
   clear hK K
   (try simp only [Act.put, zA, zB, zC, zD, zE, zF])
   refine wpAnyU_ready (rs := [3]) (by kernel_rfl) (by simp) (AllU.cons rfl (fun K hK => ?_) AllU.nil)
   ·go_simp
    obtain ⟨W3, hW3⟩ : ∃ W, Hid (W2.alloc (.cells #[] 9) = W) := ⟨_, Lib.hid rfl⟩
    have HB3 := Lib.hid (HB2.out.alloc hD2 (.cells #[] 9))
    have HX3_1 := Lib.hid (NameOwn.made (D := w1.heap.size) W2 hD2)
    have HX3_2 := Lib.hid (HX2_2.out.alloc (.cells #[] 9))
    have d3_21 := HX2_2.out.far
    have HX3_3 := Lib.hid (HX2_3.out.alloc (.cells #[] 9))
    have d3_31 := HX2_3.out.far
    rw [hW3.out] at HB3 HX3_2 HX3_3 HX3_1 ⊢
    have hD3 : w1.heap.size ≤ W3.heap.size := HB3.out.size
    have hS3 := body_S (HCb.out.below HB3.out)
    rw [HMe.out] at hS3
    refine hK.out _ _ (fun _ => hS3) ?_
    clear hK K
    (try simp only [Act.put, zA, zB, zC, zD, zE, zF])
    refine wpAnyU_ready (rs := [10]) (by kernel_rfl) (by simp) (AllU.cons rfl (fun K hK => ?_) AllU.nil)
    ·rw [if_pos (by rfl)]
     refine wp_append_names _ _ rfl w1.heap.size B (some ⟨W2.heap.size, 0, none⟩) m1.S 0 m1.sl m1.sc a rfl HX3_1.out rfl (HCb.out.below HB3.out).s hsa hs24 hD3 ?_
     intro X4_1 c4_1 W4 hown hgrow hplace
     have HB4 := Lib.hid (HB3.out.grown hgrow hD3 (fun k hk => (HX3_1.out.place k hk).1))
     have HX4_1 := Lib.hid hown
     have HX4_2 := Lib.hid (HX3_2.out.beside hgrow d3_21)
     have d4_21 := dis_step HX3_2.out d3_21 hplace
     have HX4_3 := Lib.hid (HX3_3.out.beside hgrow d3_31)
     have d4_31 := dis_step HX3_3.out d3_31 hplace
     clear hown hgrow hplace
     have hD4 : w1.heap.size ≤ W4.heap.size := HB4.out.size
     have hS4 := body_S (HCb.out.below HB4.out)
     rw [HMe.out] at hS4
     refine hK.out _ _ (fun _ => hS4) ?_
     clear hK K
     (try simp only [Act.put, zA, zB, zC, zD, zE, zF])
     refine wpAnyU_ready (rs := [18]) (by kernel_rfl) (by simp) (AllU.cons rfl (fun K hK => ?_) AllU.nil)
     ·rw [if_pos (by rfl)]
      refine wp_append_names _ _ rfl w1.heap.size B (some ⟨W0.heap.size, 0, none⟩) m1.Q 0 m1.ql m1.qc b rfl HX4_2.out rfl (HCb.out.below HB4.out).q hqb hq24 hD4 ?_
      intro X5_2 c5_2 W5 hown hgrow hplace
      have HB5 := Lib.hid (HB4.out.grown hgrow hD4 (fun k hk => (HX4_2.out.place k hk).1))
      have HX5_2 := Lib.hid hown
      have HX5_1 := Lib.hid (HX4_1.out.beside hgrow (fun e => d4_21 e.symm))
      have d5_12 := dis_step HX4_1.out (fun e => d4_21 e.symm) hplace
      have HX5_3 := Lib.hid (HX4_3.out.beside hgrow (fun e => d2_23 e.symm))
      have d5_32 := dis_step HX4_3.out (fun e => d2_23 e.symm) hplace
      clear hown hgrow hplace
      have hD5 : w1.heap.size ≤ W5.heap.size := HB5.out.size
      have hS5 := body_S (HCb.out.below HB5.out)
      rw [HMe.out] at hS5
      refine hK.out _ _ (fun _ => hS5) ?_
      clear hK K
      (try simp only [Act.put, zA, zB, zC, zD, zE, zF])
      refine wpAnyU_ready (rs := [26]) (by kernel_rfl) (by simp) (AllU.cons rfl (fun K hK => ?_) AllU.nil)
      ·rw [if_pos (by rfl)]
       refine wp_append_names _ _ rfl w1.heap.size B (some ⟨W1.heap.size, 0, none⟩) m1.R 0 m1.rl m1.rc c rfl HX5_3.out rfl (HCb.out.below HB5.out).r hrc hr24 hD5 ?_
       intro X6_3 c6_3 W6 hown hgrow hplace
       have HB6 := Lib.hid (HB5.out.grown hgrow hD5 (fun k hk => (HX5_3.out.place k hk).1))
       have HX6_3 := Lib.hid hown
       have HX6_1 := Lib.hid (HX5_1.out.beside hgrow (fun e => d4_31 e.symm))
       have d6_13 := dis_step HX5_1.out (fun e => d4_31 e.symm) hplace
       have HX6_2 := Lib.hid (HX5_2.out.beside hgrow (fun e => d5_32 e.symm))
       have d6_23 := dis_step HX5_2.out (fun e => d5_32 e.symm) hplace
       clear hown hgrow hplace
       have hD6 : w1.heap.size ≤ W6.heap.size := HB6.out.size
       have hS6 := body_S (HCb.out.below HB6.out)
       rw [HMe.out] at hS6
       refine hK.out _ _ (fun _ => hS6) ?_
       clear hK K
       (try simp only [Act.put, zA, zB, zC, zD, zE, zF])
       have hcn := HCb.out.below HB6.out
       obtain ⟨k4, k5, k6⟩ := hS6
       have f4 : W6.frozen? ⟨M, 4, none⟩ = false := by rw [← HMe.out]; exact hcn.maker.frozen 4
       have f5 : W6.frozen? ⟨M, 5, none⟩ = false := by rw [← HMe.out]; exact hcn.maker.frozen 5
       have f6 : W6.frozen? ⟨M, 6, none⟩ = false := by rw [← HMe.out]; exact hcn.maker.frozen 6
       have hfin := body_fin hcn (HX6_1.out.base hBw) (HX6_2.out.base hBw) (HX6_3.out.base hBw) d5_12 d6_13 d6_23 hsa hqb hrc
       obtain ⟨U, hU⟩ : ∃ U, Hid ((((W6.setCell ⟨m1.M, 4, none⟩ (.slice X4_1 a c4_1)).setCell ⟨m1.M, 5, none⟩ (.slice X5_2 b c5_2)).setCell ⟨m1.M, 6, none⟩ (.slice X6_3 c c6_3)) = U) := ⟨_, Lib.hid rfl⟩
       rw [hU.out] at hfin
       obtain ⟨hcU, hwU⟩ := hfin
       rw [HMe.out] at hU
       have HCU := Lib.hid hcU
       have HWU := Lib.hid ((Went.of_below (lo := lo) (B := B) HB6.out).trans hwU)
       clear hcU hwU hcn
       refine wpAnyU_late (i := 27) (v := ?_) rfl (by kernel_rfl) (by kernel_rfl) (by kernel_rfl) (by kernel_rfl) (fun _ _ _ h => h) (Or.inl ⟨by rfl, ?_⟩) ?_
       rotate_left 1
       ·intro w hSw
        clear hSw
        (go_simp) <;> (with_reducible rfl)
       (try simp only [Act.put, zA, zB, zC, zD, zE, zF])
       refine wpAnyU_late (i := 28) (v := ?_) rfl (by kernel_rfl) (by kernel_rfl) (by kernel_rfl) (by kernel_rfl) (fun _ _ _ h => h) (Or.inl ⟨by rfl, ?_⟩) ?_
       rotate_left 1
       ·intro w hSw
        clear hSw
        (go_simp) <;> (with_reducible rfl)
       (try simp only [Act.put, zA, zB, zC, zD, zE, zF])
       refine wpAnyU_ready (rs := [29]) (by kernel_rfl) (by simp) (AllU.cons rfl (fun K hK => ?_) AllU.nil)
       go_simp
       refine hK.out _ _ (fun hh => absurd hh (by decide)) ?_
       clear hK K
       (try simp only [Act.put, zA, zB, zC, zD, zE, zF])
       refine wpAnyU_late (i := 30) (v := ?_) rfl (by kernel_rfl) (by kernel_rfl) (by kernel_rfl) (by kernel_rfl) (fun _ _ _ h => h) (Or.inl ⟨by rfl, ?_⟩) ?_
       rotate_left 1
       ·intro w hSw
        clear hSw
        (go_simp) <;> (with_reducible rfl)
       (try simp only [Act.put, zA, zB, zC, zD, zE, zF])
       refine wpAnyU_late (i := 31) (v := ?_) rfl (by kernel_rfl) (by kernel_rfl) (by kernel_rfl) (by kernel_rfl) (fun _ _ _ h => h) (Or.inl ⟨by rfl, ?_⟩) ?_
       rotate_left 1
       ·intro w hSw
        clear hSw
        (go_simp) <;> (with_reducible rfl)
       (try simp only [Act.put, zA, zB, zC, zD, zE, zF])
       refine wpAnyU_ready (rs := [32]) (by kernel_rfl) (by simp) (AllU.cons rfl (fun K hK => ?_) AllU.nil)
       go_simp
       refine hK.out _ _ (fun hh => absurd hh (by decide)) ?_
       clear hK K
       (try simp only [Act.put, zA, zB, zC, zD, zE, zF])
       refine wpAnyU_late (i := 33) (v := ?_) rfl (by kernel_rfl) (by kernel_rfl) (by kernel_rfl) (by kernel_rfl) (fun _ _ _ h => h) (Or.inl ⟨by rfl, ?_⟩) ?_
       rotate_left 1
       ·intro w hSw
        clear hSw
        (go_simp) <;> (with_reducible rfl)
       (try simp only [Act.put, zA, zB, zC, zD, zE, zF])
       refine wpAnyU_late (i := 34) (v := ?_) rfl (by kernel_rfl) (by kernel_rfl) (by kernel_rfl) (by kernel_rfl) (fun _ _ _ h => h) (Or.inl ⟨by rfl, ?_⟩) ?_
       rotate_left 1
       ·intro w hSw
        clear hSw
        (go_simp) <;> (with_reducible rfl)
       (try simp only [Act.put, zA, zB, zC, zD, zE, zF])
       refine wpAnyU_ready (rs := [35]) (by kernel_rfl) (by simp) (AllU.cons rfl (fun K hK => ?_) AllU.nil)
       go_simp
       rw [hU.out]
       refine hK.out _ _ (fun hh => absurd hh (by decide)) ?_
       clear hK K
       refine wpAnyU_done (by kernel_rfl) ?_ _
       clear k4 k5 k6 f4 f5 f6
       go_wp2_with fail
       go_ret
       exact ⟨A0, l0, c0, ns, _, rfl, HROW.out.kept HWU.out.keptX, hl20, kin_body HKIN.out HA.out HBb.out HCc.out, HA.out.symm, HBb.out.symm, HCc.out.symm, HNUM.out.2.1, HNUM.out.2.2.1, HNUM.out.2.2.2, HCU.out, HW1.out.trans HWU.out⟩
 ·go_simp
  obtain ⟨W1, hW1⟩ : ∃ W, Hid (W0.alloc (.cells #[] 9) = W) := ⟨_, Lib.hid rfl⟩
  have HB1 := Lib.hid (HB0.out.alloc hD0 (.cells #[] 9))
  have HX1_3 := Lib.hid (NameOwn.made (D := w1.heap.size) W0 hD0)
  rw [hW1.out] at HB1 HX1_3 ⊢
  have hD1 : w1.heap.size ≤ W1.heap.size := HB1.out.size
  have hS1 := body_S (HCb.out.below HB1.out)
  rw [HMe.out] at hS1
  refine hK.out _ _ (fun _ => hS1) ?_
  clear hK K
  (try simp only [Act.put, zA, zB, zC, zD, zE, zF])
  refine wpAnyU_ready (rs := [3, 11]) (by kernel_rfl) (by simp) (AllU.cons rfl (fun K hK => ?_) (AllU.cons rfl (fun K hK => ?_) AllU.nil))
  ·go_simp
   obtain ⟨W2, hW2⟩ : ∃ W, Hid (W1.alloc (.cells #[] 9) = W) := ⟨_, Lib.hid rfl⟩
   have HB2 := Lib.hid (HB1.out.alloc hD1 (.cells #[] 9))
   have HX2_1 := Lib.hid (NameOwn.made (D := w1.heap.size) W1 hD1)
   have HX2_3 := Lib.hid (HX1_3.out.alloc (.cells #[] 9))
   have d2_31 := HX1_3.out.far
   rw [hW2.out] at HB2 HX2_3 HX2_1 ⊢
   have hD2 : w1.heap.size ≤ W2.heap.size := HB2.out.size
   have hS2 := body_S (HCb.out.below HB2.out)
   rw [HMe.out] at hS2
   refine hK.out _ _ (fun _ => hS2) ?_
   clear hK K
   (try simp only [Act.put, zA, zB, zC, zD, zE, zF])
   refine wpAnyU_ready (rs := [10, 11]) (by kernel_rfl) (by simp) (AllU.cons rfl (fun K hK => ?_) (AllU.cons rfl (fun K hK => ?_) AllU.nil))
   ·rw [if_pos (by rfl)]
    refine wp_append_names _ _ rfl w1.heap.size B (some ⟨W1.heap.size, 0, none⟩) m1.S 0 m1.sl m1.sc a rfl HX2_1.out rfl (HCb.out.below HB2.out).s hsa hs24 hD2 ?_
    intro X3_1 c3_1 W3 hown hgrow hplace
    have HB3 := Lib.hid (HB2.out.grown hgrow hD2 (fun k hk => (HX2_1.out.place k hk).1))
    have HX3_1 := Lib.hid hown
    have HX3_3 := Lib.hid (HX2_3.out.beside hgrow d2_31)
    have d3_31 := dis_step HX2_3.out d2_31 hplace
    clear hown hgrow hplace
    have hD3 : w1.heap.size ≤ W3.heap.size := HB3.out.size
    have hS3 := body_S (HCb.out.below HB3.out)
    rw [HMe.out] at hS3
    refine hK.out _ _ (fun _ => hS3) ?_
    clear hK K
    (try simp only [Act.put, zA, zB, zC, zD, zE, zF])
    refine wpAnyU_ready (rs := [11]) (by kernel_rfl) (by simp) (AllU.cons rfl (fun K hK => ?_) AllU.nil)
    ·go_simp
     obtain ⟨W4, hW4⟩ : ∃ W, Hid (W3.alloc (.cells #[] 9) = W) := ⟨_, Lib.hid rfl⟩
     have HB4 := Lib.hid (HB3.out.alloc hD3 (.cells #[] 9))
     have HX4_2 := Lib.hid (NameOwn.made (D := w1.heap.size) W3 hD3)
     have HX4_1 := Lib.hid (HX3_1.out.alloc (.cells #[] 9))
     have d4_12 := HX3_1.out.far
     have HX4_3 := Lib.hid (HX3_3.out.alloc (.cells #[] 9))
     have d4_32 := HX3_3.out.far
     rw [hW4.out] at HB4 HX4_1 HX4_3 HX4_2 ⊢
     have hD4 : w1.heap.size ≤ W4.heap.size := HB4.out.size
     have hS4 := body_S (HCb.out.below HB4.out)
     rw [HMe.out] at hS4
     refine hK.out _ _ (fun _ => hS4) ?_
     clear hK K
     (try simp only [Act.put, zA, zB, zC, zD, zE, zF])
     refine wpAnyU_ready (rs := [18]) (by kernel_rfl) (by simp) (AllU.cons rfl (fun K hK => ?_) AllU.nil)
     ·rw [if_pos (by rfl)]
      refine wp_append_names _ _ rfl w1.heap.size B (some ⟨W3.heap.size, 0, none⟩) m1.Q 0 m1.ql m1.qc b rfl HX4_2.out rfl (HCb.out.below HB4.out).q hqb hq24 hD4 ?_
      intro X5_2 c5_2 W5 hown hgrow hplace
      have HB5 := Lib.hid (HB4.out.grown hgrow hD4 (fun k hk => (HX4_2.out.place k hk).1))
      have HX5_2 := Lib.hid hown
      have HX5_1 := Lib.hid (HX4_1.out.beside hgrow d4_12)
      have d5_12 := dis_step HX4_1.out d4_12 hplace
      have HX5_3 := Lib.hid (HX4_3.out.beside hgrow d4_32)
      have d5_32 := dis_step HX4_3.out d4_32 hplace
      clear hown hgrow hplace
      have hD5 : w1.heap.size ≤ W5.heap.size := HB5.out.size
      have hS5 := body_S (HCb.out.below HB5.out)
      rw [HMe.out] at hS5
      refine hK.out _ _ (fun _ => hS5) ?_
      clear hK K
      (try simp only [Act.put, zA, zB, zC, zD, zE, zF])
      refine wpAnyU_ready (rs := [26]) (by kernel_rfl) (by simp) (AllU.cons rfl (fun K hK => ?_) AllU.nil)
      ·rw [if_pos (by rfl)]
       refine wp_append_names _ _ rfl w1.heap.size B (some ⟨W0.heap.size, 0, none⟩) m1.R 0 m1.rl m1.rc c rfl HX5_3.out rfl (HCb.out.below HB5.out).r hrc hr24 hD5 ?_
       intro X6_3 c6_3 W6 hown hgrow hplace
       have HB6 := Lib.hid (HB5.out.grown hgrow hD5 (fun k hk => (HX5_3.out.place k hk).1))
       have HX6_3 := Lib.hid hown
       have HX6_1 := Lib.hid (HX5_1.out.beside hgrow (fun e => d3_31 e.symm))
       have d6_13 := dis_step HX5_1.out (fun e => d3_31 e.symm) hplace
       have HX6_2 := Lib.hid (HX5_2.out.beside hgrow (fun e => d5_32 e.symm))
       have d6_23 := dis_step HX5_2.out (fun e => d5_32 e.symm) hplace
       clear hown hgrow hplace
       have hD6 : w1.heap.size ≤ W6.heap.size := HB6.out.size
       have hS6 := body_S (HCb.out.below HB6.out)
       rw [HMe.out] at hS6
       refine hK.out _ _ (fun _ => hS6) ?_
       clear hK K
       (try simp only [Act.put, zA, zB, zC, zD, zE, zF])
       have hcn := HCb.out.below HB6.out
       obtain ⟨k4, k5, k6⟩ := hS6
       have f4 : W6.frozen? ⟨M, 4, none⟩ = false := by rw [← HMe.out]; exact hcn.maker.frozen 4
       have f5 : W6.frozen? ⟨M, 5, none⟩ = false := by rw [← HMe.out]; exact hcn.maker.frozen 5
       have f6 : W6.frozen? ⟨M, 6, none⟩ = false := by rw [← HMe.out]; exact hcn.maker.frozen 6
       have hfin := body_fin hcn (HX6_1.out.base hBw) (HX6_2.out.base hBw) (HX6_3.out.base hBw) d5_12 d6_13 d6_23 hsa hqb hrc
       obtain ⟨U, hU⟩ : ∃ U, Hid ((((W6.setCell ⟨m1.M, 4, none⟩ (.slice X3_1 a c3_1)).setCell ⟨m1.M, 5, none⟩ (.slice X5_2 b c5_2)).setCell ⟨m1.M, 6, none⟩ (.slice X6_3 c c6_3)) = U) := ⟨_, Lib.hid rfl⟩
       rw [hU.out] at hfin
       obtain ⟨hcU, hwU⟩ := hfin
       rw [HMe.out] at hU
       have HCU := Lib.hid hcU
       have HWU := Lib.hid ((Went.of_below (lo := lo) (B := B) HB6.out).trans hwU)
       clear hcU hwU hcn
       refine wpAnyU_late (i := 27) (v := ?_) rfl (by kernel_rfl) (by kernel_rfl) (by kernel_rfl) (by kernel_rfl) (fun _ _ _ h => h) (Or.inl ⟨by rfl, ?_⟩) ?_
       rotate_left 1
       ·intro w hSw
        clear hSw
        (go_simp) <;> (with_reducible rfl)
       (try simp only [Act.put, zA, zB, zC, zD, zE, zF])
       refine wpAnyU_late (i := 28) (v := ?_) rfl (by kernel_rfl) (by kernel_rfl) (by kernel_rfl) (by kernel_rfl) (fun _ _ _ h => h) (Or.inl ⟨by rfl, ?_⟩) ?_
       rotate_left 1
       ·intro w hSw
        clear hSw
        (go_simp) <;> (with_reducible rfl)
       (try simp only [Act.put, zA, zB, zC, zD, zE, zF])
       refine wpAnyU_ready (rs := [29]) (by kernel_rfl) (by simp) (AllU.cons rfl (fun K hK => ?_) AllU.nil)
       go_simp
       refine hK.out _ _ (fun hh => absurd hh (by decide)) ?_
       clear hK K
       (try simp only [Act.put, zA, zB, zC, zD, zE, zF])
       refine wpAnyU_late (i := 30) (v := ?_) rfl (by kernel_rfl) (by kernel_rfl) (by kernel_rfl) (by kernel_rfl) (fun _ _ _ h => h) (Or.inl ⟨by rfl, ?_⟩) ?_
       rotate_left 1
       ·intro w hSw
        clear hSw
        (go_simp) <;> (with_reducible rfl)
       (try simp only [Act.put, zA, zB, zC, zD, zE, zF])
       refine wpAnyU_late (i := 31) (v := ?_) rfl (by kernel_rfl) (by kernel_rfl) (by kernel_rfl) (by kernel_rfl) (fun _ _ _ h => h) (Or.inl ⟨by rfl, ?_⟩) ?_
       rotate_left 1
       ·intro w hSw
        clear hSw
        (go_simp) <;> (with_reducible rfl)
       (try simp only [Act.put, zA, zB, zC, zD, zE, zF])
       refine wpAnyU_ready (rs := [32]) (by kernel_rfl) (by simp) (AllU.cons rfl (fun K hK => ?_) AllU.nil)
       go_simp
       refine hK.out _ _ (fun hh => absurd hh (by decide)) ?_
       clear hK K
       (try simp only [Act.put, zA, zB, zC, zD, zE, zF])
       refine wpAnyU_late (i := 33) (v := ?_) rfl (by kernel_rfl) (by kernel_rfl) (by kernel_rfl) (by kernel_rfl) (fun _ _ _ h => h) (Or.inl ⟨by rfl, ?_⟩) ?_
       rotate_left 1
       ·intro w hSw
        clear hSw
        (go_simp) <;> (with_reducible rfl)
       (try simp only [Act.put, zA, zB, zC, zD, zE, zF])
       refine wpAnyU_late (i := 34) (v := ?_) rfl (by kernel_rfl) (by kernel_rfl) (by kernel_rfl) (by kernel_rfl) (fun _ _ _ h => h) (Or.inl ⟨by rfl, ?_⟩) ?_
       rotate_left 1
       ·intro w hSw
        clear hSw
        (go_simp) <;> (with_reducible rfl)
       (try simp only [Act.put, zA, zB, zC, zD, zE, zF])
       refine wpAnyU_ready (rs := [35]) (by kernel_rfl) (by simp) (AllU.cons rfl (fun K hK => ?_) AllU.nil)
       go_simp
       rw [hU.out]
       refine hK.out _ _ (fun hh => absurd hh (by decide)) ?_
       clear hK K
       refine wpAnyU_done (by kernel_rfl) ?_ _
       clear k4 k5 k6 f4 f5 f6
       go_wp2_with fail
       go_ret
       exact ⟨A0, l0, c0, ns, _, rfl, HROW.out.kept HWU.out.keptX, hl20, kin_body HKIN.out HA.out HBb.out HCc.out, HA.out.symm, HBb.out.symm, HCc.out.symm, HNUM.out.2.1, HNUM.out.2.2.1, HNUM.out.2.2.2, HCU.out, HW1.out.trans HWU.out⟩
   ·go_simp
    obtain ⟨W3, hW3⟩ : ∃ W, Hid (W2.alloc (.cells #[] 9) = W) := ⟨_, Lib.hid rfl⟩
    have HB3 := Lib.hid (HB2.out.alloc hD2 (.cells #[] 9))
    have HX3_2 := Lib.hid (NameOwn.made (D := w1.heap.size) W2 hD2)
    have HX3_1 := Lib.hid (HX2_1.out.alloc (.cells #[] 9))
    have d3_12 := HX2_1.out.far
    have HX3_3 := Lib.hid (HX2_3.out.alloc (.cells #[] 9))
    have d3_32 := HX2_3.out.far
    rw [hW3.out] at HB3 HX3_1 HX3_3 HX3_2 ⊢
    have hD3 : w1.heap.size ≤ W3.heap.size := HB3.out.size
    have hS3 := body_S (HCb.out.below HB3.out)
    rw [HMe.out] at hS3
    refine hK.out _ _ (fun _ => hS3) ?_
    clear hK K
    (try simp only [Act.put, zA, zB, zC, zD, zE, zF])
    refine wpAnyU_ready (rs := [10]) (by kernel_rfl) (by simp) (AllU.cons rfl (fun K hK => ?_) AllU.nil)
    ·rw [if_pos (by rfl)]
     refine wp_append_names _ _ rfl w1.heap.size B (some ⟨W1.heap.size, 0, none⟩) m1.S 0 m1.sl m1.sc a rfl HX3_1.out rfl (HCb.out.below HB3.out).s hsa hs24 hD3 ?_
     intro X4_1 c4_1 W4 hown hgrow hplace
     have HB4 := Lib.hid (HB3.out.grown hgrow hD3 (fun k hk => (HX3_1.out.place k hk).1))
     have HX4_1 := Lib.hid hown
     have HX4_2 := Lib.hid (HX3_2.out.beside hgrow (fun e => d3_12 e.symm))
     have d4_21 := dis_step HX3_2.out (fun e => d3_12 e.symm) hplace
     have HX4_3 := Lib.hid (HX3_3.out.beside hgrow d2_31)
     have d4_31 := dis_step HX3_3.out d2_31 hplace
     clear hown hgrow hplace
     have hD4 : w1.heap.size ≤ W4.heap.size := HB4.out.size
     have hS4 := body_S (HCb.out.below HB4.out)
     rw [HMe.out] at hS4
     refine hK.out _ _ (fun _ => hS4) ?_
     clear hK K
     (try simp only [Act.put, zA, zB, zC, zD, zE, zF])
     refine wpAnyU_ready (rs := [18]) (by kernel_rfl) (by simp) (AllU.cons rfl (fun K hK => ?_) AllU.nil)
     ·rw [if_pos (by rfl)]
      refine wp_append_names _ _ rfl w1.heap.size B (some ⟨W2.heap.size, 0, none⟩) m1.Q 0 m1.ql m1.qc b rfl HX4_2.out rfl (HCb.out.below HB4.out).q hqb hq24 hD4 ?_
      intro X5_2 c5_2 W5 hown hgrow hplace
      have HB5 := Lib.hid (HB4.out.grown hgrow hD4 (fun k hk => (HX4_2.out.place k hk).1))
      have HX5_2 := Lib.hid hown
      have HX5_1 := Lib.hid (HX4_1.out.beside hgrow (fun e => d4_21 e.symm))
      have d5_12 := dis_step HX4_1.out (fun e => d4_21 e.symm) hplace
      have HX5_3 := Lib.hid (HX4_3.out.beside hgrow d3_32)
      have d5_32 := dis_step HX4_3.out d3_32 hplace
      clear hown hgrow hplace
      have hD5 : w1.heap.size ≤ W5.heap.size := HB5.out.size
      have hS5 := body_S (HCb.out.below HB5.out)
      rw [HMe.out] at hS5
      refine hK.out _ _ (fun _ => hS5) ?_
      clear hK K
      (try simp only [Act.put, zA, zB, zC, zD, zE, zF])
      refine wpAnyU_ready (rs := [26]) (by kernel_rfl) (by simp) (AllU.cons rfl (fun K hK => ?_) AllU.nil)
      ·rw [if_pos (by rfl)]
       refine wp_append_names _ _ rfl w1.heap.size B (some ⟨W0.heap.size, 0, none⟩) m1.R 0 m1.rl m1.rc c rfl HX5_3.out rfl (HCb.out.below HB5.out).r hrc hr24 hD5 ?_
       intro X6_3 c6_3 W6 hown hgrow hplace
       have HB6 := Lib.hid (HB5.out.grown hgrow hD5 (fun k hk => (HX5_3.out.place k hk).1))
       have HX6_3 := Lib.hid hown
       have HX6_1 := Lib.hid (HX5_1.out.beside hgrow (fun e => d4_31 e.symm))
       have d6_13 := dis_step HX5_1.out (fun e => d4_31 e.symm) hplace
       have HX6_2 := Lib.hid (HX5_2.out.beside hgrow (fun e => d5_32 e.symm))
       have d6_23 := dis_step HX5_2.out (fun e => d5_32 e.symm) hplace
       clear hown hgrow hplace
       have hD6 : w1.heap.size ≤ W6.heap.size := HB6.out.size
       have hS6 := body_S (HCb.out.below HB6.out)
       rw [HMe.out] at hS6
       refine hK.out _ _ (fun _ => hS6) ?_
       clear hK K
       (try simp only [Act.put, zA, zB, zC, zD, zE, zF])
       have hcn := HCb.out.below HB6.out
       obtain ⟨k4, k5, k6⟩ := hS6
       have f4 : W6.frozen? ⟨M, 4, none⟩ = false := by rw [← HMe.out]; exact hcn.maker.frozen 4
       have f5 : W6.frozen? ⟨M, 5, none⟩ = false := by rw [← HMe.out]; exact hcn.maker.frozen 5
       have f6 : W6.frozen? ⟨M, 6, none⟩ = false := by rw [← HMe.out]; exact hcn.maker.frozen 6
       have hfin := body_fin hcn (HX6_1.out.base hBw) (HX6_2.out.base hBw) (HX6_3.out.base hBw) d5_12 d6_13 d6_23 hsa hqb hrc
       obtain ⟨U, hU⟩ : ∃ U, Hid ((((W6.setCell ⟨m1.M, 4, none⟩ (.slice X4_1 a c4_1)).setCell ⟨m1.M, 5, none⟩ (.slice X5_2 b c5_2)).setCell ⟨m1.M, 6, none⟩ (.slice X6_3 c c6_3)) = U) := ⟨_, Lib.hid rfl⟩
       rw [hU.out] at hfin
       obtain ⟨hcU, hwU⟩ := hfin
       rw [HMe.out] at hU
       have HCU := Lib.hid hcU
       have HWU := Lib.hid ((Went.of_below (lo := lo) (B := B) HB6.out).trans hwU)
       clear hcU hwU hcn
       refine wpAnyU_late (i := 27) (v := ?_) rfl (by kernel_rfl) (by kernel_rfl) (by kernel_rfl) (by kernel_rfl) (fun _ _ _ h => h) (Or.inl ⟨by rfl, ?_⟩) ?_
       rotate_left 1
       ·intro w hSw
        clear hSw
        (go_simp) <;> (with_reducible rfl)
       (try simp only [Act.put, zA, zB, zC, zD, zE, zF])
       refine wpAnyU_late (i := 28) (v := ?_) rfl (by kernel_rfl) (by kernel_rfl) (by kernel_rfl) (by kernel_rfl) (fun _ _ _ h => h) (Or.inl ⟨by rfl, ?_⟩) ?_
       rotate_left 1
       ·intro w hSw
        clear hSw
        (go_simp) <;> (with_reducible rfl)
       (try simp only [Act.put, zA, zB, zC, zD, zE, zF])
       refine wpAnyU_ready (rs := [29]) (by kernel_rfl) (by simp) (AllU.cons rfl (fun K hK => ?_) AllU.nil)
       go_simp
       refine hK.out _ _ (fun hh => absurd hh (by decide)) ?_
       clear hK K
       (try simp only [Act.put, zA, zB, zC, zD, zE, zF])
       refine wpAnyU_late (i := 30) (v := ?_) rfl (by kernel_rfl) (by kernel_rfl) (by kernel_rfl) (by kernel_rfl) (fun _ _ _ h => h) (Or.inl ⟨by rfl, ?_⟩) ?_
       rotate_left 1
       ·intro w hSw
        clear hSw
        (go_simp) <;> (with_reducible rfl)
       (try simp only [Act.put, zA, zB, zC, zD, zE, zF])
       refine wpAnyU_late (i := 31) (v := ?_) rfl (by kernel_rfl) (by kernel_rfl) (by kernel_rfl) (by kernel_rfl) (fun _ _ _ h => h) (Or.inl ⟨by rfl, ?_⟩) ?_
       rotate_left 1
       ·intro w hSw
        clear hSw
        (go_simp) <;> (with_reducible rfl)
       (try simp only [Act.put, zA, zB, zC, zD, zE, zF])
       refine wpAnyU_ready (rs := [32]) (by kernel_rfl) (by simp) (AllU.cons rfl (fun K hK => ?_) AllU.nil)
       go_simp
       refine hK.out _ _ (fun hh => absurd hh (by decide)) ?_
       clear hK K
       (try simp only [Act.put, zA, zB, zC, zD, zE, zF])
       refine wpAnyU_late (i := 33) (v := ?_) rfl (by kernel_rfl) (by kernel_rfl) (by kernel_rfl) (by kernel_rfl) (fun _ _ _ h => h) (Or.inl ⟨by rfl, ?_⟩) ?_
       rotate_left 1
       ·intro w hSw
        clear hSw
        (go_simp) <;> (with_reducible rfl)
       (try simp only [Act.put, zA, zB, zC, zD, zE, zF])
       refine wpAnyU_late (i := 34) (v := ?_) rfl (by kernel_rfl) (by kernel_rfl) (by kernel_rfl) (by kernel_rfl) (fun _ _ _ h => h) (Or.inl ⟨by rfl, ?_⟩) ?_
       rotate_left 1
       ·intro w hSw
        clear hSw
        (go_simp) <;> (with_reducible rfl)
       (try simp only [Act.put, zA, zB, zC, zD, zE, zF])
       refine wpAnyU_ready (rs := [35]) (by kernel_rfl) (by simp) (AllU.cons rfl (fun K hK => ?_) AllU.nil)
       go_simp
       rw [hU.out]
       refine hK.out _ _ (fun hh => absurd hh (by decide)) ?_
       clear hK K
       refine wpAnyU_done (by kernel_rfl) ?_ _
       clear k4 k5 k6 f4 f5 f6
       go_wp2_with fail
       go_ret
       exact ⟨A0, l0, c0, ns, _, rfl, HROW.out.kept HWU.out.keptX, hl20, kin_body HKIN.out HA.out HBb.out HCc.out, HA.out.symm, HBb.out.symm, HCc.out.symm, HNUM.out.2.1, HNUM.out.2.2.1, HNUM.out.2.2.2, HCU.out, HW1.out.trans HWU.out⟩
  ·go_simp
   obtain ⟨W2, hW2⟩ : ∃ W, Hid (W1.alloc (.cells #[] 9) = W) := ⟨_, Lib.hid rfl⟩
   have HB2 := Lib.hid (HB1.out.alloc hD1 (.cells #[] 9))
   have HX2_2 := Lib.hid (NameOwn.made (D := w1.heap.size) W1 hD1)
   have HX2_3 := Lib.hid (HX1_3.out.alloc (.cells #[] 9))
   have d2_32 := HX1_3.out.far
   rw [hW2.out] at HB2 HX2_3 HX2_2 ⊢
   have hD2 : w1.heap.size ≤ W2.heap.size := HB2.out.size
   have hS2 := body_S (HCb.out.below HB2.out)
   rw [HMe.out] at hS2
   refine hK.out _ _ (fun _ => hS2) ?_
   clear hK K
   (try simp only [Act.put, zA, zB, zC, zD, zE, zF])
   refine wpAnyU_ready (rs := [3]) (by kernel_rfl) (by simp) (AllU.cons rfl (fun K hK => ?_) AllU.nil)
   ·go_simp
    obtain ⟨W3, hW3⟩ : ∃ W, Hid (W2.alloc (.cells #[] 9) = W) := ⟨_, Lib.hid rfl⟩
    have HB3 := Lib.hid (HB2.out.alloc hD2 (.cells #[] 9))
    have HX3_1 := Lib.hid (NameOwn.made (D := w1.heap.size) W2 hD2)
    have HX3_2 := Lib.hid (HX2_2.out.alloc (.cells #[] 9))
    have d3_21 := HX2_2.out.far
    have HX3_3 := Lib.hid (HX2_3.out.alloc (.cells #[] 9))
    have d3_31 := HX2_3.out.far
    rw [hW3.out] at HB3 HX3_2 HX3_3 HX3_1 ⊢
    have hD3 : w1.heap.size ≤ W3.heap.size := HB3.out.size
    have hS3 := body_S (HCb.out.below HB3.out)
    rw [HMe.out] at hS3
    refine hK.out _ _ (fun _ => hS3) ?_
    clear hK K
    (try simp only [Act.put, zA, zB, zC, zD, zE, zF])
    refine wpAnyU_ready (rs := [10]) (by kernel_rfl) (by simp) (AllU.cons rfl (fun K hK => ?_) AllU.nil)
    ·rw [if_pos (by rfl)]
     refine wp_append_names _ _ rfl w1.heap.size B (some ⟨W2.heap.size, 0, none⟩) m1.S 0 m1.sl m1.sc a rfl HX3_1.out rfl (HCb.out.below HB3.out).s hsa hs24 hD3 ?_
     intro X4_1 c4_1 W4 hown hgrow hplace
     have HB4 := Lib.hid (HB3.out.grown hgrow hD3 (fun k hk => (HX3_1.out.place k hk).1))
     have HX4_1 := Lib.hid hown
     have HX4_2 := Lib.hid (HX3_2.out.beside hgrow d3_21)
     have d4_21 := dis_step HX3_2.out d3_21 hplace
     have HX4_3 := Lib.hid (HX3_3.out.beside hgrow d3_31)
     have d4_31 := dis_step HX3_3.out d3_31 hplace
     clear hown hgrow hplace
     have hD4 : w1.heap.size ≤ W4.heap.size := HB4.out.size
     have hS4 := body_S (HCb.out.below HB4.out)
     rw [HMe.out] at hS4
     refine hK.out _ _ (fun _ => hS4) ?_
     clear hK K
     (try simp only [Act.put, zA, zB, zC, zD, zE, zF])
     refine wpAnyU_ready (rs := [18]) (by kernel_rfl) (by simp) (AllU.cons rfl (fun K hK => ?_) AllU.nil)
     ·rw [if_pos (by rfl)]
      refine wp_append_names _ _ rfl w1.heap.size B (some ⟨W1.heap.size, 0, none⟩) m1.Q 0 m1.ql m1.qc b rfl HX4_2.out rfl (HCb.out.below HB4.out).q hqb hq24 hD4 ?_
      intro X5_2 c5_2 W5 hown hgrow hplace
      have HB5 := Lib.hid (HB4.out.grown hgrow hD4 (fun k hk => (HX4_2.out.place k hk).1))
      have HX5_2 := Lib.hid hown
      have HX5_1 := Lib.hid (HX4_1.out.beside hgrow (fun e => d4_21 e.symm))
      have d5_12 := dis_step HX4_1.out (fun e => d4_21 e.symm) hplace
      have HX5_3 := Lib.hid (HX4_3.out.beside hgrow d2_32)
      have d5_32 := dis_step HX4_3.out d2_32 hplace
      clear hown hgrow hplace
      have hD5 : w1.heap.size ≤ W5.heap.size := HB5.out.size
      have hS5 := body_S (HCb.out.below HB5.out)
      rw [HMe.out] at hS5
      refine hK.out _ _ (fun _ => hS5) ?_
      clear hK K
      (try simp only [Act.put, zA, zB, zC, zD, zE, zF])
      refine wpAnyU_ready (rs := [26]) (by kernel_rfl) (by simp) (AllU.cons rfl (fun K hK => ?_) AllU.nil)
      ·rw [if_pos (by rfl)]
       refine wp_append_names _ _ rfl w1.heap.size B (some ⟨W0.heap.size, 0, none⟩) m1.R 0 m1.rl m1.rc c rfl HX5_3.out rfl (HCb.out.below HB5.out).r hrc hr24 hD5 ?_
       intro X6_3 c6_3 W6 hown hgrow hplace
       have HB6 := Lib.hid (HB5.out.grown hgrow hD5 (fun k hk => (HX5_3.out.place k hk).1))
       have HX6_3 := Lib.hid hown
       have HX6_1 := Lib.hid (HX5_1.out.beside hgrow (fun e => d4_31 e.symm))
       have d6_13 := dis_step HX5_1.out (fun e => d4_31 e.symm) hplace
       have HX6_2 := Lib.hid (HX5_2.out.beside hgrow (fun e => d5_32 e.symm))
       have d6_23 := dis_step HX5_2.out (fun e => d5_32 e.symm) hplace
       clear hown hgrow hplace
       have hD6 : w1.heap.size ≤ W6.heap.size := HB6.out.size
       have hS6 := body_S (HCb.out.below HB6.out)
       rw [HMe.out] at hS6
       refine hK.out _ _ (fun _ => hS6) ?_
       clear hK K
       (try simp only [Act.put, zA, zB, zC, zD, zE, zF])
       have hcn := HCb.out.below HB6.out
       obtain ⟨k4, k5, k6⟩ := hS6
       have f4 : W6.frozen? ⟨M, 4, none⟩ = false := by rw [← HMe.out]; exact hcn.maker.frozen 4
       have f5 : W6.frozen? ⟨M, 5, none⟩ = false := by rw [← HMe.out]; exact hcn.maker.frozen 5
       have f6 : W6.frozen? ⟨M, 6, none⟩ = false := by rw [← HMe.out]; exact hcn.maker.frozen 6
       have hfin := body_fin hcn (HX6_1.out.base hBw) (HX6_2.out.base hBw) (HX6_3.out.base hBw) d5_12 d6_13 d6_23 hsa hqb hrc
       obtain ⟨U, hU⟩ : ∃ U, Hid ((((W6.setCell ⟨m1.M, 4, none⟩ (.slice X4_1 a c4_1)).setCell ⟨m1.M, 5, none⟩ (.slice X5_2 b c5_2)).setCell ⟨m1.M, 6, none⟩ (.slice X6_3 c c6_3)) = U) := ⟨_, Lib.hid rfl⟩
       rw [hU.out] at hfin
       obtain ⟨hcU, hwU⟩ := hfin
       rw [HMe.out] at hU
       have HCU := Lib.hid hcU
       have HWU := Lib.hid ((Went.of_below (lo := lo) (B := B) HB6.out).trans hwU)
       clear hcU hwU hcn
       refine wpAnyU_late (i := 27) (v := ?_) rfl (by kernel_rfl) (by kernel_rfl) (by kernel_rfl) (by kernel_rfl) (fun _ _ _ h => h) (Or.inl ⟨by rfl, ?_⟩) ?_
       rotate_left 1
       ·intro w hSw
        clear hSw
        (go_simp) <;> (with_reducible rfl)
       (try simp only [Act.put, zA, zB, zC, zD, zE, zF])
       refine wpAnyU_late (i := 28) (v := ?_) rfl (by kernel_rfl) (by kernel_rfl) (by kernel_rfl) (by kernel_rfl) (fun _ _ _ h => h) (Or.inl ⟨by rfl, ?_⟩) ?_
       rotate_left 1
       ·intro w hSw
        clear hSw
        (go_simp) <;> (with_reducible rfl)
       (try simp only [Act.put, zA, zB, zC, zD, zE, zF])
       refine wpAnyU_ready (rs := [29]) (by kernel_rfl) (by simp) (AllU.cons rfl (fun K hK => ?_) AllU.nil)
       go_simp
       refine hK.out _ _ (fun hh => absurd hh (by decide)) ?_
       clear hK K
       (try simp only [Act.put, zA, zB, zC, zD, zE, zF])
       refine wpAnyU_late (i := 30) (v := ?_) rfl (by kernel_rfl) (by kernel_rfl) (by kernel_rfl) (by kernel_rfl) (fun _ _ _ h => h) (Or.inl ⟨by rfl, ?_⟩) ?_
       rotate_left 1
       ·intro w hSw
        clear hSw
        (go_simp) <;> (with_reducible rfl)
       (try simp only [Act.put, zA, zB, zC, zD, zE, zF])
       refine wpAnyU_late (i := 31) (v := ?_) rfl (by kernel_rfl) (by kernel_rfl) (by kernel_rfl) (by kernel_rfl) (fun _ _ _ h => h) (Or.inl ⟨by rfl, ?_⟩) ?_
       rotate_left 1
       ·intro w hSw
        clear hSw
        (go_simp) <;> (with_reducible rfl)
       (try simp only [Act.put, zA, zB, zC, zD, zE, zF])
       refine wpAnyU_ready (rs := [32]) (by kernel_rfl) (by simp) (AllU.cons rfl (fun K hK => ?_) AllU.nil)
       go_simp
       refine hK.out _ _ (fun hh => absurd hh (by decide)) ?_
       clear hK K
       (try simp only [Act.put, zA, zB, zC, zD, zE, zF])
       refine wpAnyU_late (i := 33) (v := ?_) rfl (by kernel_rfl) (by kernel_rfl) (by kernel_rfl) (by kernel_rfl) (fun _ _ _ h => h) (Or.inl ⟨by rfl, ?_⟩) ?_
       rotate_left 1
       ·intro w hSw
        clear hSw
        (go_simp) <;> (with_reducible rfl)
       (try simp only [Act.put, zA, zB, zC, zD, zE, zF])
       refine wpAnyU_late (i := 34) (v := ?_) rfl (by kernel_rfl) (by kernel_rfl) (by kernel_rfl) (by kernel_rfl) (fun _ _ _ h => h) (Or.inl ⟨by rfl, ?_⟩) ?_
       rotate_left 1
       ·intro w hSw
        clear hSw
        (go_simp) <;> (with_reducible rfl)
       (try simp only [Act.put, zA, zB, zC, zD, zE, zF])
       refine wpAnyU_ready (rs := [35]) (by kernel_rfl) (by simp) (AllU.cons rfl (fun K hK => ?_) AllU.nil)
       go_simp
       rw [hU.out]
       refine hK.out _ _ (fun hh => absurd hh (by decide)) ?_
       clear hK K
       refine wpAnyU_done (by kernel_rfl) ?_ _
       clear k4 k5 k6 f4 f5 f6
       go_wp2_with fail
       go_ret
       exact ⟨A0, l0, c0, ns, _, rfl, HROW.out.kept HWU.out.keptX, hl20, kin_body HKIN.out HA.out HBb.out HCc.out, HA.out.symm, HBb.out.symm, HCc.out.symm, HNUM.out.2.1, HNUM.out.2.2.1, HNUM.out.2.2.2, HCU.out, HW1.out.trans HWU.out⟩
end Go.Proofs.YtchibamdkaejdaaDoor
