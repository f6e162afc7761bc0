/-
  The walk of the generator's loop. Conditions: the maker with rows of its own; few names have been made; its body's statements are known.
-/
import Derived.Test.YtchibamdkaejdaaDoorZA
import Derived.Test.YtchibamdkaejdaaDoorZCa
namespace Go.Proofs.YtchibamdkaejdaaDoor
open Go.RowKit
variable {lo : Nat}

set_option linter.unusedSimpArgs false in
set_option maxHeartbeats 0 in
set_option maxRecDepth 100000 in
theorem loop_any (nest d : Nat) (hnest : nest ≤ 10) (ih : BodyAt (nest + 1) (d + 1)) : LoopAt nest (d + 1) := by
 intro lo B m w h hn
 have IH := @Lib.hid (BodyAt (nest + 1) (d + 1)) @ih
 have HLO : Hid (lo ≤ w.heap.size) := Lib.hid (Nat.le_trans h.loB h.bW)
 clear ih
 obtain ⟨M, T, f, funcs, count, left, P, S, Q, R, pl, pc, sl, sc, ql, qc, rl, rc, A, len, cap⟩ := m
 obtain ⟨n1, n2, n3, n4, n5, n6, n7, n8, n9⟩ := h.num
 dsimp only at *
 obtain ⟨cn, rfl⟩ : ∃ cn : Nat, count = (cn : Int) := ⟨count.toNat, by omega⟩
 have hBw := h.lt
 have hM : M < w.heap.size := h.maker.lt
 go_enter Tryd.func44, Tryd.ntmps44
 go_wp2_with fail
 refine (fresh_any w M T f funcs cn left P S Q R pl pc sl sc ql qc rl rc h.maker (by omega)).mono ?_
 rintro e w1 ⟨nm, rfl, hnm, hm1, hb1⟩
 obtain ⟨hc1, hw1⟩ := h.turn (count := (cn + 1 : Nat)) (left := left) hb1 hm1 h.s h.q h.r h.sq h.sr h.qr ⟨by show (0 : Int) ≤ ((cn + 1 : Nat) : Int); omega, n2, by show ((cn + 1 : Nat) : Int) + left ≤ 22; omega, by show (sl : Int) ≤ 4 + ((cn + 1 : Nat) : Int); omega, by show (ql : Int) ≤ ((cn + 1 : Nat) : Int); omega, by show (rl : Int) ≤ ((cn + 1 : Nat) : Int); omega, n7, n8, n9⟩
 dsimp only at hc1
 have hs1 := hw1.size
 have HW1 := Lib.hid hw1
 have e4 : w1.cell? ⟨M, 4, none⟩ = some (.slice S sl sc) := hc1.maker.cell 4 (.slice S sl sc) rfl
 have HCA := Lib.hid (hc1.below ((Below.refl w1.heap.size w1).alloc (Nat.le_refl _) (.cells #[.string nm] 9)))
 have HWA := Lib.hid (hw1.trans (Went.of_below (lo := lo) (B := B) ((Below.refl w1.heap.size w1).alloc (Nat.le_refl _) (.cells #[.string nm] 9))))
 have HY : Hid ((w1.alloc (.cells #[.string nm] 9)).cell? ⟨w1.heap.size, 0, none⟩ = some (.string nm)) := Lib.hid (by rw [World.cell?_alloc_at _ _ _ _ rfl]; rfl)
 have hYs : (w1.alloc (.cells #[.string nm] 9)).heap.size = w1.heap.size + 1 := Array.size_push _
 have HYS := Lib.hid hYs
 have HN : Hid (Nums ⟨M, T, f, funcs, (cn + 1 : Nat), left, P, none, Q, R, pl, pc, sl + 1, 0, ql, qc, rl, rc, A, len, cap⟩) := Lib.hid ⟨by show (0 : Int) ≤ ((cn + 1 : Nat) : Int); omega, n2, by show ((cn + 1 : Nat) : Int) + left ≤ 22; omega, by show ((sl + 1 : Nat) : Int) ≤ 4 + ((cn + 1 : Nat) : Int); omega, by show ((ql : Nat) : Int) ≤ ((cn + 1 : Nat) : Int); omega, by show ((rl : Nat) : Int) ≤ ((cn + 1 : Nat) : Int); omega, n7, n8, n9⟩
 have hsl : sl ≤ 1000 := by omega
 clear h hc1 hw1 hm1 hb1 hYs
 go_wp2_with (at_builtin; refine wpList_plain rfl (fun K hK => ?_); refine wp_append_name _ _ rfl B S sl sc w1.heap.size 1 nm rfl HCA.out.s rfl HY.out hnm hsl (by have := HYS.out; omega) ?_; intro A1 c1 w3 hown hgrow hplace; obtain ⟨kM, fM, hcx, hwent⟩ := HCA.out.pushS hgrow hown hplace ⟨HN.out.count0, HN.out.left0, HN.out.sum, HN.out.s, HN.out.q, HN.out.r, n7, n8, n9⟩; dsimp only at kM fM hcx hwent; have HCX := Lib.hid hcx; have HWX := Lib.hid (HWA.out.trans hwent); clear hcx hwent hown hgrow hplace; refine hK _ _ ?_)
 obtain ⟨w4, hw4⟩ : ∃ W, Hid (w3.setCell ⟨M, 4, none⟩ (.slice A1 (sl + 1) c1) = W) := ⟨_, Lib.hid rfl⟩
 obtain ⟨V, hV⟩ : ∃ W, Hid (w4.alloc (.cells (#[.int .i64 1, .int .i64 0, .int .i64 0, .string nm, .string ⟨#[]⟩, .int .i64 0, .int .i64 0, .slice none 0 0, .string ⟨#[]⟩, .int .i64 0, .slice none 0 0, .slice none 0 0, .slice none 0 0]) 75) = W) := ⟨_, Lib.hid rfl⟩
 have HB0 : Hid (Mks lo B ⟨M, T, f, funcs, (cn + 1 : Nat), left, P, A1, Q, R, pl, pc, sl + 1, c1, ql, qc, rl, rc, A, len, cap⟩ w [] w4) := Lib.hid ⟨by rw [← hw4.out]; exact HCX.out, by rw [← hw4.out]; exact HWX.out, HLO.out, fun p hp => absurd hp (by simp)⟩
 have HBV : Hid (Mks lo B ⟨M, T, f, funcs, (cn + 1 : Nat), left, P, A1, Q, R, pl, pc, sl + 1, c1, ql, qc, rl, rc, A, len, cap⟩ w [(w4.heap.size, declCells nm ⟨#[]⟩ 0)] V) := Lib.hid (by rw [← hV.out]; exact HB0.out.more _)
 have hw4s : w.heap.size ≤ w4.heap.size := HB0.out.went.size
 have hVs : w4.heap.size < V.heap.size := by rw [← hV.out]; exact Nat.lt_of_lt_of_eq (Nat.lt_succ_self _) (Array.size_push _).symm
 have HW43 : Hid (w4.heap.size = w3.heap.size) := Lib.hid (by rw [← hw4.out]; simp [World.setCell])
 rw [hw4.out, hV.out]
 clear kM fM e4
 have hMV : M < V.heap.size := by omega
 obtain ⟨D, hD⟩ : ∃ D, Hid (V.drew = D) := ⟨_, Lib.hid rfl⟩
 have HD : Hid (Mks lo B ⟨M, T, f, funcs, (cn + 1 : Nat), left, P, A1, Q, R, pl, pc, sl + 1, c1, ql, qc, rl, rc, A, len, cap⟩ w [(w4.heap.size, declCells nm ⟨#[]⟩ 0)] D) := Lib.hid (by rw [← hD.out]; exact HBV.out.drew)
 have hsd : V.heap.size ≤ D.heap.size := by rw [← hD.out]; exact Nat.le_refl _
 have e0 : V.cell? ⟨M, 0, none⟩ = some (.pointer (some ⟨T, 0, none⟩)) := HBV.out.cx.maker.cell 0 (.pointer (some ⟨T, 0, none⟩)) rfl
 refine wp_region_held_drew (S := fun w' => w'.cell? ⟨M, 0, none⟩ = some (.pointer (some ⟨T, 0, none⟩))) (by kernel_rfl) e0 (fun hHeld => ?_)
 rw [hD.out] at hHeld ⊢
 refine wpAnyH_take (i := 0) (v := ?_) rfl (by kernel_rfl) (by kernel_rfl) (by kernel_rfl) (fun _ _ _ h => h) (Or.inl ⟨by rfl, ?_⟩) (by assumption) ?_
 rotate_left 1
 ·intro w hSw
  (try dsimp only at hSw)
  (go_simp) <;> (with_reducible rfl)
 (try simp only [Act.put, zA, zB, zC, zD, zE, zF])
 refine wpAnyH_take (i := 2) (v := ?_) rfl (by kernel_rfl) (by kernel_rfl) (by kernel_rfl) (fun _ _ _ h => h) (Or.inl ⟨by rfl, ?_⟩) (by assumption) ?_
 rotate_left 1
 ·intro w hSw
  (try dsimp only at hSw)
  (go_simp) <;> (with_reducible rfl)
 (try simp only [Act.put, zA, zB, zC, zD, zE, zF])
 refine wpAnyH_take (i := 3) (v := ?_) rfl (by kernel_rfl) (by kernel_rfl) (by kernel_rfl) (fun _ _ _ h => h) (Or.inl ⟨by rfl, ?_⟩) (by assumption) ?_
 rotate_left 1
 ·intro w hSw
  (try dsimp only at hSw)
  (go_simp) <;> (with_reducible rfl)
 (try simp only [Act.put, zA, zB, zC, zD, zE, zF])
 refine wpAnyH_take (i := 4) (v := ?_) rfl (by kernel_rfl) (by kernel_rfl) (by kernel_rfl) (fun _ _ _ h => h) (Or.inl ⟨by rfl, ?_⟩) (by assumption) ?_
 rotate_left 1
 ·intro w hSw
  (try dsimp only at hSw)
  (go_simp) <;> (with_reducible rfl)
 (try simp only [Act.put, zA, zB, zC, zD, zE, zF])
 refine wpAnyH_take (i := 5) (v := ?_) rfl (by kernel_rfl) (by kernel_rfl) (by kernel_rfl) (fun _ _ _ h => h) (Or.inl ⟨by rfl, ?_⟩) (by assumption) ?_
 rotate_left 1
 ·intro w hSw
  (try dsimp only at hSw)
  (go_simp) <;> (with_reducible rfl)
 (try simp only [Act.put, zA, zB, zC, zD, zE, zF])
 refine wpAnyH_ready (rs := [1, 13]) (by kernel_rfl) (by simp) (AllReadyH.cons rfl (fun K hK => ?_) (AllReadyH.cons rfl (fun K hK => ?_) AllReadyH.nil))
 ·go_simp
  refine (variable_any D nm).mono ?_
  rintro e wt1 ⟨rfl, hb⟩
  have HBt2 := Lib.hid (HD.out.below hb)
  have hs_wt1 := hb.size
  clear hb
  refine hK.out _ _ (HBt2.out.cx.maker.cell 0 (.pointer (some ⟨T, 0, none⟩)) rfl) (fun hHeld => ?_)
  clear hK K
  (try simp only [Act.put, zA, zB, zC, zD, zE, zF])
  refine wpAnyH_ready (rs := [6, 13]) (by kernel_rfl) (by simp) (AllReadyH.cons rfl (fun K hK => ?_) (AllReadyH.cons rfl (fun K hK => ?_) AllReadyH.nil))
  ·go_simp
   obtain ⟨pt5, pt5t⟩ := HBt2.out.cx.tape
   refine (next_any wt1 T A len cap pt5 pt5t 4 (by omega) (by omega)).mono ?_
   rintro e wt3 ⟨j', pt5t2, rfl, j0, j1, hm⟩
   obtain ⟨j, rfl⟩ : ∃ i : Nat, j' = (i : Int) := ⟨j'.toNat, by omega⟩
   have HBt4 := Lib.hid (HBt2.out.grew hm.grew)
   have hs_wt3 := Nat.le_of_eq hm.size.symm
   clear hm pt5t
   refine hK.out _ _ (HBt4.out.cx.maker.cell 0 (.pointer (some ⟨T, 0, none⟩)) rfl) (fun hHeld => ?_)
   clear hK K
   (try simp only [Act.put, zA, zB, zC, zD, zE, zF])
   obtain ⟨j2, hwj, hj2⟩ : ∃ k : Nat, IntKind.i64.wrap (1 + (j : Int)) = (k : Int) ∧ k ≤ 4 := ⟨1 + j, by rw [IntWalk.i64_in _ (by omega)]; omega, by omega⟩
   refine wpAnyH_take (i := 7) (v := ?_) rfl (by kernel_rfl) (by kernel_rfl) (by kernel_rfl) (fun _ _ _ h => h) (Or.inl ⟨by rfl, ?_⟩) (by assumption) ?_
   rotate_left 1
   ·intro w hSw
    (try dsimp only at hSw)
    (go_simp) <;> (with_reducible rfl)
   (try simp only [Act.put, zA, zB, zC, zD, zE, zF])
   (try rw [hwj])
   refine wpAnyH_ready (rs := [8, 13]) (by kernel_rfl) (by simp) (AllReadyH.cons rfl (fun K hK => ?_) (AllReadyH.cons rfl (fun K hK => ?_) AllReadyH.nil))
   ·go_simp
    (try rw [hwj])
    refine (literal_any wt3 j2).mono ?_
    rintro e wt6 ⟨rfl, hb⟩
    have HBt7 := Lib.hid (HBt4.out.below hb)
    have hs_wt6 := hb.size
    clear hb
    refine hK.out _ _ (HBt7.out.cx.maker.cell 0 (.pointer (some ⟨T, 0, none⟩)) rfl) (fun hHeld => ?_)
    clear hK K
    (try simp only [Act.put, zA, zB, zC, zD, zE, zF])
    refine wpAnyH_ready (rs := [9, 13]) (by kernel_rfl) (by simp) (AllReadyH.cons rfl (fun K hK => ?_) (AllReadyH.cons rfl (fun K hK => ?_) AllReadyH.nil))
    ·go_simp
     obtain ⟨Wt8, hWt8⟩ : ∃ W, Hid (wt6.alloc (.cells #[.int .i64 1, .int .i64 0, .int .i64 0, .string nm, .string ⟨#[]⟩, .slice none 0 0, .int .i64 0, .int .i64 j2, .int .i64 0, .string ⟨#[]⟩, .string ⟨#[]⟩, .slice none 0 0] 72) = W) := ⟨_, Lib.hid rfl⟩
     have HBt9 := Lib.hid (HBt7.out.alloc (.cells #[.int .i64 1, .int .i64 0, .int .i64 0, .string nm, .string ⟨#[]⟩, .slice none 0 0, .int .i64 0, .int .i64 j2, .int .i64 0, .string ⟨#[]⟩, .string ⟨#[]⟩, .slice none 0 0] 72))
     have HEt10 := Lib.hid (pair_made (w := wt6) 14 (by omega) nm hnm j2 (by omega))
     rw [hWt8.out] at HBt9 HEt10 ⊢
     have hs_Wt8 : wt6.heap.size < Wt8.heap.size := by rw [← hWt8.out]; exact Nat.lt_of_lt_of_eq (Nat.lt_succ_self _) (Array.size_push _).symm
     refine hK.out _ _ (HBt9.out.cx.maker.cell 0 (.pointer (some ⟨T, 0, none⟩)) rfl) (fun hHeld => ?_)
     clear hK K
     (try simp only [Act.put, zA, zB, zC, zD, zE, zF])
     refine wpAnyH_take (i := 10) (v := ?_) rfl (by kernel_rfl) (by kernel_rfl) (by kernel_rfl) (fun _ _ _ h => h) (Or.inl ⟨by rfl, ?_⟩) (by assumption) ?_
     rotate_left 1
     ·intro w hSw
      (try dsimp only at hSw)
      (go_simp) <;> (with_reducible rfl)
     (try simp only [Act.put, zA, zB, zC, zD, zE, zF])
     refine wpAnyH_ready (rs := [11, 13]) (by kernel_rfl) (by simp) (AllReadyH.cons rfl (fun K hK => ?_) (AllReadyH.cons rfl (fun K hK => ?_) AllReadyH.nil))
     ·go_simp
      obtain ⟨Wt11, hWt11⟩ : ∃ W, Hid (Wt8.alloc (.cells #[.int .i64 14, .int .i64 0, .int .i64 0, .string ⟨#[]⟩, .string ⟨#[]⟩, .slice (some ⟨wt6.heap.size, 0, none⟩) 2 2] 72) = W) := ⟨_, Lib.hid rfl⟩
      have HBt12 := Lib.hid (HBt9.out.alloc (.cells #[.int .i64 14, .int .i64 0, .int .i64 0, .string ⟨#[]⟩, .string ⟨#[]⟩, .slice (some ⟨wt6.heap.size, 0, none⟩) 2 2] 72))
      have HRt13 : Hid (ExRow (Wt8.alloc (.cells #[.int .i64 14, .int .i64 0, .int .i64 0, .string ⟨#[]⟩, .string ⟨#[]⟩, .slice (some ⟨wt6.heap.size, 0, none⟩) 2 2] 72)) (some ⟨Wt8.heap.size, 0, none⟩) 1 1 [3]) := Lib.hid (row_made HEt10.out)
      rw [hWt11.out] at HBt12 HRt13 ⊢
      have hs_Wt11 : Wt8.heap.size < Wt11.heap.size := by rw [← hWt11.out]; exact Nat.lt_of_lt_of_eq (Nat.lt_succ_self _) (Array.size_push _).symm
      refine hK.out _ _ (HBt12.out.cx.maker.cell 0 (.pointer (some ⟨T, 0, none⟩)) rfl) (fun hHeld => ?_)
      clear hK K
      (try simp only [Act.put, zA, zB, zC, zD, zE, zF])
      refine wpAnyH_take (i := 12) (v := ?_) rfl (by kernel_rfl) (by kernel_rfl) (by kernel_rfl) (fun _ _ _ h => h) (Or.inl ⟨by rfl, ?_⟩) (by assumption) ?_
      rotate_left 1
      ·intro w hSw
       (try dsimp only at hSw)
       (go_simp) <;> (with_reducible rfl)
      (try simp only [Act.put, zA, zB, zC, zD, zE, zF])
      refine wpAnyH_ready (rs := [13]) (by kernel_rfl) (by simp) (AllReadyH.cons rfl (fun K hK => ?_) AllReadyH.nil)
      go_simp
      obtain ⟨Wt14, hWt14⟩ : ∃ W, Hid (Wt11.alloc (.cells #[.int .i64 0, .int .i64 0, .int .i64 0, .string ⟨#[]⟩, .string ⟨#[]⟩, .int .i64 0, .int .i64 0, .slice none 0 0, .string ⟨#[]⟩, .int .i64 0, .slice none 0 0, .slice none 0 0, .slice none 0 0] 75) = W) := ⟨_, Lib.hid rfl⟩
      have HBt15 : Hid (Mks lo B ⟨M, T, f, funcs, (cn + 1 : Nat), left, P, A1, Q, R, pl, pc, sl + 1, c1, ql, qc, rl, rc, A, len, cap⟩ w [(Wt11.heap.size, zCells), (w4.heap.size, declCells nm ⟨#[]⟩ 0)] Wt14) := Lib.hid (by rw [← hWt14.out]; exact HBt12.out.more _)
      have hb : Below Wt11.heap.size Wt11 Wt14 := by rw [← hWt14.out]; exact (Below.refl _ _).alloc (Nat.le_refl _) _
      have HRt16 := Lib.hid (HRt13.out.keep ((KeptX.below hb).e))
      rw [hWt14.out]
      have hs_Wt14 : Wt11.heap.size < Wt14.heap.size := by rw [← hWt14.out]; exact Nat.lt_of_lt_of_eq (Nat.lt_succ_self _) (Array.size_push _).symm
      clear hb
      refine hK.out _ _ (HBt15.out.cx.maker.cell 0 (.pointer (some ⟨T, 0, none⟩)) rfl) (fun hHeld => ?_)
      clear hK K
      (try simp only [Act.put, zA, zB, zC, zD, zE, zF])
      refine wpAnyH_ready (rs := [14]) (by kernel_rfl) (by simp) (AllReadyH.cons rfl (fun K hK => ?_) AllReadyH.nil)
      refine wp_store_stmt _ _ rfl Wt11.heap.size _ (cmCells 5 ⟨#[]⟩ (some ⟨Wt8.heap.size, 0, none⟩) 1 1 none 0 0 none 0 0) rfl rfl HBt15.out.head rfl rfl (cmCells_one _ _ _ _ _ _ _ _ _ _ _) ?_
      intro U hU
      have HRU := Lib.hid (HRt16.out.keep (hU.keptE HBt15.out.head))
      have HU := Lib.hid (HBt15.out.setB hU (fun p hp => by
       simp only [List.mem_cons, List.not_mem_nil, or_false] at hp
       subst hp
       show w4.heap.size ≠ Wt11.heap.size
       omega))
      have hsU := Nat.le_of_eq hU.size.symm
      refine hK.out _ _ (HU.out.cx.maker.cell 0 (.pointer (some ⟨T, 0, none⟩)) rfl) (fun hHeld => ?_)
      clear hK K hU hHeld
      refine wpAnyH_done (by kernel_rfl) ?_ _
      have hXN : Wt11.heap.size < U.heap.size := HU.out.lt
      have hXw : w.heap.size ≤ Wt11.heap.size := HU.out.low
      have hwU := HU.out.went.size
      go_wp2_with fail
      refine (IH.out B ⟨M, T, f, funcs, (cn + 1 : Nat), left, P, A1, Q, R, pl, pc, sl + 1, c1, ql, qc, rl, rc, A, len, cap⟩ U 4 (by omega) HU.out.cx).mono ?_
      rintro e w5 ⟨A0, l0, c0, ns, m2, rfl, hst5, hl5, hkin5, hsl5, hql5, hrl5, hleft5, hcl5, hsum5, hc5, hw5⟩
      obtain ⟨M2, T2, f2, funcs2, count2, left2, P2, S2, Q2, R2, pl2, pc2, sl2, sc2, ql2, qc2, rl2, rc2, A2', len2, cap2⟩ := m2
      have HK5 := Lib.hid hkin5
      have HB5 := Lib.hid (HU.out.turned hc5 hw5)
      have HR5 := Lib.hid (HRU.out.keep hw5.keptX.e)
      have HS5 := Lib.hid hst5
      have hs5 := hw5.size
      dsimp only at hleft5 hcl5 hsum5
      clear hst5 hkin5 hc5 hw5 hsl5 hql5 hrl5
      go_wp2_with fail
      refine (variable_any w5 nm).mono ?_
      rintro e w6 ⟨rfl, hb6⟩
      have hs6 := hb6.size
      have HB6 := Lib.hid (HB5.out.below hb6)
      have HR6 := Lib.hid (HR5.out.keep (KeptX.below hb6).e)
      have HS6 := Lib.hid (HS5.out.kept (KeptX.below hb6))
      clear hb6
      obtain ⟨W7, hW7⟩ : ∃ W, Hid (w6.alloc (.cells #[.int .i64 1, .int .i64 0, .int .i64 0, .string nm, .string ⟨#[]⟩, .slice none 0 0] 72) = W) := ⟨_, Lib.hid rfl⟩
      have hb7 : Below w6.heap.size w6 W7 := by rw [← hW7.out]; exact (Below.refl _ _).alloc (Nat.le_refl _) _
      have HB7 := Lib.hid (HB6.out.below hb7)
      have HR7 := Lib.hid (HR6.out.keep (KeptX.below hb7).e)
      have HS7 := Lib.hid (HS6.out.kept (KeptX.below hb7))
      have hl7 : ExRow (w6.alloc (.cells #[.int .i64 1, .int .i64 0, .int .i64 0, .string nm, .string ⟨#[]⟩, .slice none 0 0] 72)) (some ⟨w6.heap.size, 0, none⟩) 1 1 [1] := row_made ((exNew_leaf w6 0 1 0 0 nm ⟨#[]⟩ (by omega) (by omega) hnm (by decide)).le (by omega))
      rw [hW7.out] at hl7
      have HL7 := Lib.hid hl7
      have hs7 := hb7.size
      clear hb7 hl7
      go_wp2_with fail
      rw [hW7.out]
      refine (variable_any W7 nm).mono ?_
      rintro e w8 ⟨rfl, hb8⟩
      go_wp2_with fail
      refine (literal_any w8 1).mono ?_
      rintro e w9 ⟨rfl, hb9⟩
      have hb9 := hb8.trans (hb9.mono hb8.size)
      have hs9 := hb9.size
      have HB9 := Lib.hid (HB7.out.below hb9)
      have HR9 := Lib.hid (HR7.out.keep (KeptX.below hb9).e)
      have HL9 := Lib.hid (HL7.out.keep (KeptX.below hb9).e)
      have HS9 := Lib.hid (HS7.out.kept (KeptX.below hb9))
      clear hb8 hb9
      obtain ⟨W10, hW10⟩ : ∃ W, Hid (w9.alloc (.cells #[.int .i64 1, .int .i64 0, .int .i64 0, .string nm, .string ⟨#[]⟩, .slice none 0 0, .int .i64 0, .int .i64 1, .int .i64 0, .string ⟨#[]⟩, .string ⟨#[]⟩, .slice none 0 0] 72) = W) := ⟨_, Lib.hid rfl⟩
      obtain ⟨W11, hW11⟩ : ∃ W, Hid (W10.alloc (.cells #[.int .i64 6, .int .i64 0, .int .i64 0, .string ⟨#[]⟩, .string ⟨#[]⟩, .slice (some ⟨w9.heap.size, 0, none⟩) 2 2] 72) = W) := ⟨_, Lib.hid rfl⟩
      have hpair := pair_made (w := w9) 6 (by omega) nm hnm 1 (by omega)
      have hpr : ExNew (w9.alloc (.cells #[.int .i64 1, .int .i64 0, .int .i64 0, .string nm, .string ⟨#[]⟩, .slice none 0 0, .int .i64 0, .int .i64 1, .int .i64 0, .string ⟨#[]⟩, .string ⟨#[]⟩, .slice none 0 0] 72)) 0 4 (.agg #[.int .i64 6, .int .i64 0, .int .i64 0, .string ⟨#[]⟩, .string ⟨#[]⟩, .slice (some ⟨w9.heap.size, 0, none⟩) 2 2]) 3 := hpair
      rw [hW10.out] at hpr
      have hrow : ExRow (W10.alloc (.cells #[.int .i64 6, .int .i64 0, .int .i64 0, .string ⟨#[]⟩, .string ⟨#[]⟩, .slice (some ⟨w9.heap.size, 0, none⟩) 2 2] 72)) (some ⟨W10.heap.size, 0, none⟩) 1 1 [3] := row_made hpr
      have hz10 : W10.heap.size = w9.heap.size + 1 := by rw [← hW10.out]; exact Array.size_push _
      have hz11 : W11.heap.size = w9.heap.size + 2 := by rw [← hW11.out]; exact (Array.size_push _).trans (by rw [hz10])
      rw [hW11.out, hz10] at hrow
      have HZ11 := Lib.hid hz11
      clear hpair hpr hz10 hz11
      have hb10 : Below w9.heap.size w9 W10 := by rw [← hW10.out]; exact (Below.refl _ _).alloc (Nat.le_refl _) _
      have hb11 : Below w9.heap.size w9 W11 := hb10.trans ((show Below W10.heap.size W10 W11 by rw [← hW11.out]; exact (Below.refl _ _).alloc (Nat.le_refl _) _).mono hb10.size)
      have hs10 := hb10.size
      have hs11 := hb11.size
      obtain ⟨W12, hW12⟩ : ∃ W, Hid (W11.alloc (.cells #[.int .i64 2, .int .i64 0, .int .i64 0, .string ⟨#[]⟩, .string ⟨#[]⟩, .int .i64 0, .int .i64 0, .slice (some ⟨w6.heap.size, 0, none⟩) 1 1, .string ⟨#[]⟩, .int .i64 0, .slice (some ⟨w9.heap.size + 1, 0, none⟩) 1 1, .slice none 0 0, .slice none 0 0] 75) = W) := ⟨_, Lib.hid rfl⟩
      have hb12 : Below W11.heap.size W11 W12 := by rw [← hW12.out]; exact (Below.refl _ _).alloc (Nat.le_refl _) _
      have hbb := hb11.trans (hb12.mono hb11.size)
      have hs12 := hbb.size
      have HB12 := Lib.hid (HB9.out.below hbb)
      have HR12 := Lib.hid (HR9.out.keep (KeptX.below hbb).e)
      have HL12 := Lib.hid (HL9.out.keep (KeptX.below hbb).e)
      have HA12 := Lib.hid (ExRow.keep hrow (KeptX.below hb12).e)
      have HS12 := Lib.hid (HS9.out.kept (KeptX.below hbb))
      have HY12 : Hid (W12.heap[w9.heap.size + 2]? = some (.cells (asCells 2 ⟨#[]⟩ (some ⟨w6.heap.size, 0, none⟩) 1 1 (some ⟨w9.heap.size + 1, 0, none⟩) 1 1) 75 (0, 0))) := Lib.hid (by rw [← HZ11.out, ← hW12.out]; exact Array.getElem?_push_size)
      clear hrow hb10 hb11 hb12 hbb
      go_wp2_with (first | ((with_reducible show wpList _ _ _ (Oper.mk _ (Op.load 75 _) _ _ _ none :: _) _ _); first | (refine load_stmt rfl _ rfl w3.heap.size (#[.int .i64 1, .int .i64 0, .int .i64 0, .string nm, .string ⟨#[]⟩, .int .i64 0, .int .i64 0, .slice none 0 0, .string ⟨#[]⟩, .int .i64 0, .slice none 0 0, .slice none 0 0, .slice none 0 0]) rfl HV14.out rfl ?_) | (refine load_stmt rfl _ rfl (Wt11.heap.size) (#[.int .i64 5, .int .i64 0, .int .i64 0, .string ⟨#[]⟩, .string ⟨#[]⟩, .int .i64 0, .int .i64 0, .slice none 0 0, .string ⟨#[]⟩, .int .i64 0, .slice (some ⟨Wt8.heap.size, 0, none⟩) 1 1, .slice A3 (l0 + 1) c3, .slice none 0 0]) rfl HB14.out.head rfl ?_)) | (at_builtin; rw [hW10.out, hW11.out, hW12.out]; refine wpList_plain rfl (fun K hK => ?_); refine wp_append_one _ _ rfl U.heap.size (w9.heap.size + 2) (d + 1) l0 c0 1 (1 + 1 + 3) A0 ns (asCells 2 ⟨#[]⟩ (some ⟨w6.heap.size, 0, none⟩) 1 1 (some ⟨w9.heap.size + 1, 0, none⟩) 1 1) rfl HS12.out rfl HY12.out rfl (asCells_one _ _ _ _ _ _ _ _) (stIn_plain ⟨by omega, by omega, .inr (.inl rfl)⟩ (by decide) HL12.out HA12.out rfl rfl _ _) (by omega) (by omega) ?_; intro A3 c3 w13 hgrow hplace hst13; have HB13 := Lib.hid (HB12.out.rows HS12.out hwU (fun p hp e => by have hpl := (HS12.out.place p.1 e.symm).1; simp only [List.mem_cons, List.not_mem_nil, or_false] at hp; rcases hp with rfl | rfl <;> (dsimp only at hpl; omega)) hgrow); have HS13 := Lib.hid hst13; have HR13 := Lib.hid (HR12.out.keep (HS12.out.grownE hgrow)); have hs13 := hgrow.size; have x11 := HB13.out.cell 11 (.slice none 0 0) rfl; have f11 := HB13.out.frozen 11; have HB14 : Hid (Mks lo B ⟨M2, T2, f2, funcs2, count2, left2, P2, S2, Q2, R2, pl2, pc2, sl2, sc2, ql2, qc2, rl2, rc2, A2', len2, cap2⟩ w [(Wt11.heap.size, cmCells 5 ⟨#[]⟩ (some ⟨Wt8.heap.size, 0, none⟩) 1 1 A3 (l0 + 1) c3 none 0 0), (w4.heap.size, declCells nm ⟨#[]⟩ 0)] (w13.setCell ⟨Wt11.heap.size, 11, none⟩ (.slice A3 (l0 + 1) c3))) := Lib.hid (HB13.out.setB (setB_cell (o := 11) (.slice A3 (l0 + 1) c3) HB13.out.head) (fun p hp => by simp only [List.mem_cons, List.not_mem_nil, or_false] at hp; subst hp; show w4.heap.size ≠ Wt11.heap.size; omega)); have HS14 := Lib.hid (HS13.out.setB HB13.out.head (setB_cell (o := 11) (.slice A3 (l0 + 1) c3) HB13.out.head) hXN); have HR14 := Lib.hid (HR13.out.keep ((setB_cell (o := 11) (.slice A3 (l0 + 1) c3) HB13.out.head).keptE HB13.out.head)); have HV14 : Hid ((w13.setCell ⟨Wt11.heap.size, 11, none⟩ (.slice A3 (l0 + 1) c3)).heap[w3.heap.size]? = some (.cells (#[.int .i64 1, .int .i64 0, .int .i64 0, .string nm, .string ⟨#[]⟩, .int .i64 0, .int .i64 0, .slice none 0 0, .string ⟨#[]⟩, .int .i64 0, .slice none 0 0, .slice none 0 0, .slice none 0 0]) 75 (0, 0))) := Lib.hid (by rw [← HW43.out]; exact HB14.out.next); clear hgrow hplace hst13; refine hK _ _ ?_))
      obtain ⟨w14, hw14⟩ : ∃ W, Hid (w13.setCell ⟨Wt11.heap.size, 11, none⟩ (.slice A3 (l0 + 1) c3) = W) := ⟨_, Lib.hid rfl⟩
      obtain ⟨W15, hW15⟩ : ∃ W, Hid (w14.alloc (.cells (#[.int .i64 1, .int .i64 0, .int .i64 0, .string nm, .string ⟨#[]⟩, .int .i64 0, .int .i64 0, .slice none 0 0, .string ⟨#[]⟩, .int .i64 0, .slice none 0 0, .slice none 0 0, .slice none 0 0, .int .i64 5, .int .i64 0, .int .i64 0, .string ⟨#[]⟩, .string ⟨#[]⟩, .int .i64 0, .int .i64 0, .slice none 0 0, .string ⟨#[]⟩, .int .i64 0, .slice (some ⟨Wt8.heap.size, 0, none⟩) 1 1, .slice A3 (l0 + 1) c3, .slice none 0 0]) 75) = W) := ⟨_, Lib.hid rfl⟩
      rw [hw14.out] at HB14 HS14 HR14
      rw [hw14.out, hW15.out]
      have hb15 : Below w14.heap.size w14 W15 := by rw [← hW15.out]; exact (Below.refl _ _).alloc (Nat.le_refl _) _
      have hY15 : W15.heap[w14.heap.size]? = some (.cells (loopCells nm (some ⟨Wt8.heap.size, 0, none⟩) 1 1 A3 (l0 + 1) c3) 75 (0, 0)) := by rw [← hW15.out]; exact Array.getElem?_push_size
      have hfin := HB14.out.below hb15
      have hrow := HR14.out.keep (KeptX.below hb15).e
      have hsts := (HS14.out.row.keep (KeptX.below hb15)).mono (q := fun b => w.heap.size ≤ b) (fun b _ hb => Nat.le_trans hwU hb)
      go_ret
      unfold LoopMade
      have hz14 : w14.heap.size = w13.heap.size := by rw [← hw14.out]; simp [World.setCell]
      refine ⟨w13.heap.size, nm, (some ⟨Wt8.heap.size, 0, none⟩), A3, 1, 1, l0 + 1, c3, [3], ns ++ [1 + 1 + 3], _, rfl, by rw [← hz14]; exact HB14.out.went.size, hnm, by rw [← hz14]; exact hY15, hrow, by decide, hsts, Kin.trans (b := ⟨M, T, f, funcs, (cn + 1 : Nat), left, P, A1, Q, R, pl, pc, sl + 1, c1, ql, qc, rl, rc, A, len, cap⟩) ⟨rfl, rfl, rfl, rfl, rfl, rfl, rfl, rfl, rfl, rfl, Nat.le_succ _, Nat.le_refl _, Nat.le_refl _, by show (cn : Int) ≤ ((cn + 1 : Nat) : Int); omega⟩ HK5.out, hleft5, ?_, ?_, hfin.cx, hfin.went⟩
      ·dsimp only
       omega
      ·rw [List.sum_append]
       dsimp only
       simp only [List.sum_cons, List.sum_nil]
       omega
     ·go_simp
      obtain ⟨Wt17, hWt17⟩ : ∃ W, Hid (Wt8.alloc (.cells #[.int .i64 0, .int .i64 0, .int .i64 0, .string ⟨#[]⟩, .string ⟨#[]⟩, .int .i64 0, .int .i64 0, .slice none 0 0, .string ⟨#[]⟩, .int .i64 0, .slice none 0 0, .slice none 0 0, .slice none 0 0] 75) = W) := ⟨_, Lib.hid rfl⟩
      have HBt18 : Hid (Mks lo B ⟨M, T, f, funcs, (cn + 1 : Nat), left, P, A1, Q, R, pl, pc, sl + 1, c1, ql, qc, rl, rc, A, len, cap⟩ w [(Wt8.heap.size, zCells), (w4.heap.size, declCells nm ⟨#[]⟩ 0)] Wt17) := Lib.hid (by rw [← hWt17.out]; exact HBt9.out.more _)
      have hb : Below Wt8.heap.size Wt8 Wt17 := by rw [← hWt17.out]; exact (Below.refl _ _).alloc (Nat.le_refl _) _
      have HEt19 := Lib.hid (HEt10.out.keep (KeptX.below (hb)).from)
      rw [hWt17.out]
      have hs_Wt17 : Wt8.heap.size < Wt17.heap.size := by rw [← hWt17.out]; exact Nat.lt_of_lt_of_eq (Nat.lt_succ_self _) (Array.size_push _).symm
      clear hb
      refine hK.out _ _ (HBt18.out.cx.maker.cell 0 (.pointer (some ⟨T, 0, none⟩)) rfl) (fun hHeld => ?_)
      clear hK K
      (try simp only [Act.put, zA, zB, zC, zD, zE, zF])
      refine wpAnyH_ready (rs := [11]) (by kernel_rfl) (by simp) (AllReadyH.cons rfl (fun K hK => ?_) AllReadyH.nil)
      go_simp
      obtain ⟨Wt20, hWt20⟩ : ∃ W, Hid (Wt17.alloc (.cells #[.int .i64 14, .int .i64 0, .int .i64 0, .string ⟨#[]⟩, .string ⟨#[]⟩, .slice (some ⟨wt6.heap.size, 0, none⟩) 2 2] 72) = W) := ⟨_, Lib.hid rfl⟩
      have HBt21 := Lib.hid (HBt18.out.alloc (.cells #[.int .i64 14, .int .i64 0, .int .i64 0, .string ⟨#[]⟩, .string ⟨#[]⟩, .slice (some ⟨wt6.heap.size, 0, none⟩) 2 2] 72))
      have HRt22 : Hid (ExRow (Wt17.alloc (.cells #[.int .i64 14, .int .i64 0, .int .i64 0, .string ⟨#[]⟩, .string ⟨#[]⟩, .slice (some ⟨wt6.heap.size, 0, none⟩) 2 2] 72)) (some ⟨Wt17.heap.size, 0, none⟩) 1 1 [3]) := Lib.hid (row_made HEt19.out)
      rw [hWt20.out] at HBt21 HRt22 ⊢
      have hs_Wt20 : Wt17.heap.size < Wt20.heap.size := by rw [← hWt20.out]; exact Nat.lt_of_lt_of_eq (Nat.lt_succ_self _) (Array.size_push _).symm
      refine hK.out _ _ (HBt21.out.cx.maker.cell 0 (.pointer (some ⟨T, 0, none⟩)) rfl) (fun hHeld => ?_)
      clear hK K
      (try simp only [Act.put, zA, zB, zC, zD, zE, zF])
      refine wpAnyH_take (i := 12) (v := ?_) rfl (by kernel_rfl) (by kernel_rfl) (by kernel_rfl) (fun _ _ _ h => h) (Or.inl ⟨by rfl, ?_⟩) (by assumption) ?_
      rotate_left 1
      ·intro w hSw
       (try dsimp only at hSw)
       (go_simp) <;> (with_reducible rfl)
      (try simp only [Act.put, zA, zB, zC, zD, zE, zF])
      refine wpAnyH_ready (rs := [14]) (by kernel_rfl) (by simp) (AllReadyH.cons rfl (fun K hK => ?_) AllReadyH.nil)
      refine wp_store_stmt _ _ rfl Wt8.heap.size _ (cmCells 5 ⟨#[]⟩ (some ⟨Wt17.heap.size, 0, none⟩) 1 1 none 0 0 none 0 0) rfl rfl HBt21.out.head rfl rfl (cmCells_one _ _ _ _ _ _ _ _ _ _ _) ?_
      intro U hU
      have HRU := Lib.hid (HRt22.out.keep (hU.keptE HBt21.out.head))
      have HU := Lib.hid (HBt21.out.setB hU (fun p hp => by
       simp only [List.mem_cons, List.not_mem_nil, or_false] at hp
       subst hp
       show w4.heap.size ≠ Wt8.heap.size
       omega))
      have hsU := Nat.le_of_eq hU.size.symm
      refine hK.out _ _ (HU.out.cx.maker.cell 0 (.pointer (some ⟨T, 0, none⟩)) rfl) (fun hHeld => ?_)
      clear hK K hU hHeld
      refine wpAnyH_done (by kernel_rfl) ?_ _
      have hXN : Wt8.heap.size < U.heap.size := HU.out.lt
      have hXw : w.heap.size ≤ Wt8.heap.size := HU.out.low
      have hwU := HU.out.went.size
      go_wp2_with fail
      refine (IH.out B ⟨M, T, f, funcs, (cn + 1 : Nat), left, P, A1, Q, R, pl, pc, sl + 1, c1, ql, qc, rl, rc, A, len, cap⟩ U 4 (by omega) HU.out.cx).mono ?_
      rintro e w5 ⟨A0, l0, c0, ns, m2, rfl, hst5, hl5, hkin5, hsl5, hql5, hrl5, hleft5, hcl5, hsum5, hc5, hw5⟩
      obtain ⟨M2, T2, f2, funcs2, count2, left2, P2, S2, Q2, R2, pl2, pc2, sl2, sc2, ql2, qc2, rl2, rc2, A2', len2, cap2⟩ := m2
      have HK5 := Lib.hid hkin5
      have HB5 := Lib.hid (HU.out.turned hc5 hw5)
      have HR5 := Lib.hid (HRU.out.keep hw5.keptX.e)
      have HS5 := Lib.hid hst5
      have hs5 := hw5.size
      dsimp only at hleft5 hcl5 hsum5
      clear hst5 hkin5 hc5 hw5 hsl5 hql5 hrl5
      go_wp2_with fail
      refine (variable_any w5 nm).mono ?_
      rintro e w6 ⟨rfl, hb6⟩
      have hs6 := hb6.size
      have HB6 := Lib.hid (HB5.out.below hb6)
      have HR6 := Lib.hid (HR5.out.keep (KeptX.below hb6).e)
      have HS6 := Lib.hid (HS5.out.kept (KeptX.below hb6))
      clear hb6
      obtain ⟨W7, hW7⟩ : ∃ W, Hid (w6.alloc (.cells #[.int .i64 1, .int .i64 0, .int .i64 0, .string nm, .string ⟨#[]⟩, .slice none 0 0] 72) = W) := ⟨_, Lib.hid rfl⟩
      have hb7 : Below w6.heap.size w6 W7 := by rw [← hW7.out]; exact (Below.refl _ _).alloc (Nat.le_refl _) _
      have HB7 := Lib.hid (HB6.out.below hb7)
      have HR7 := Lib.hid (HR6.out.keep (KeptX.below hb7).e)
      have HS7 := Lib.hid (HS6.out.kept (KeptX.below hb7))
      have hl7 : ExRow (w6.alloc (.cells #[.int .i64 1, .int .i64 0, .int .i64 0, .string nm, .string ⟨#[]⟩, .slice none 0 0] 72)) (some ⟨w6.heap.size, 0, none⟩) 1 1 [1] := row_made ((exNew_leaf w6 0 1 0 0 nm ⟨#[]⟩ (by omega) (by omega) hnm (by decide)).le (by omega))
      rw [hW7.out] at hl7
      have HL7 := Lib.hid hl7
      have hs7 := hb7.size
      clear hb7 hl7
      go_wp2_with fail
      rw [hW7.out]
      refine (variable_any W7 nm).mono ?_
      rintro e w8 ⟨rfl, hb8⟩
      go_wp2_with fail
      refine (literal_any w8 1).mono ?_
      rintro e w9 ⟨rfl, hb9⟩
      have hb9 := hb8.trans (hb9.mono hb8.size)
      have hs9 := hb9.size
      have HB9 := Lib.hid (HB7.out.below hb9)
      have HR9 := Lib.hid (HR7.out.keep (KeptX.below hb9).e)
      have HL9 := Lib.hid (HL7.out.keep (KeptX.below hb9).e)
      have HS9 := Lib.hid (HS7.out.kept (KeptX.below hb9))
      clear hb8 hb9
      obtain ⟨W10, hW10⟩ : ∃ W, Hid (w9.alloc (.cells #[.int .i64 1, .int .i64 0, .int .i64 0, .string nm, .string ⟨#[]⟩, .slice none 0 0, .int .i64 0, .int .i64 1, .int .i64 0, .string ⟨#[]⟩, .string ⟨#[]⟩, .slice none 0 0] 72) = W) := ⟨_, Lib.hid rfl⟩
      obtain ⟨W11, hW11⟩ : ∃ W, Hid (W10.alloc (.cells #[.int .i64 6, .int .i64 0, .int .i64 0, .string ⟨#[]⟩, .string ⟨#[]⟩, .slice (some ⟨w9.heap.size, 0, none⟩) 2 2] 72) = W) := ⟨_, Lib.hid rfl⟩
      have hpair := pair_made (w := w9) 6 (by omega) nm hnm 1 (by omega)
      have hpr : ExNew (w9.alloc (.cells #[.int .i64 1, .int .i64 0, .int .i64 0, .string nm, .string ⟨#[]⟩, .slice none 0 0, .int .i64 0, .int .i64 1, .int .i64 0, .string ⟨#[]⟩, .string ⟨#[]⟩, .slice none 0 0] 72)) 0 4 (.agg #[.int .i64 6, .int .i64 0, .int .i64 0, .string ⟨#[]⟩, .string ⟨#[]⟩, .slice (some ⟨w9.heap.size, 0, none⟩) 2 2]) 3 := hpair
      rw [hW10.out] at hpr
      have hrow : ExRow (W10.alloc (.cells #[.int .i64 6, .int .i64 0, .int .i64 0, .string ⟨#[]⟩, .string ⟨#[]⟩, .slice (some ⟨w9.heap.size, 0, none⟩) 2 2] 72)) (some ⟨W10.heap.size, 0, none⟩) 1 1 [3] := row_made hpr
      have hz10 : W10.heap.size = w9.heap.size + 1 := by rw [← hW10.out]; exact Array.size_push _
      have hz11 : W11.heap.size = w9.heap.size + 2 := by rw [← hW11.out]; exact (Array.size_push _).trans (by rw [hz10])
      rw [hW11.out, hz10] at hrow
      have HZ11 := Lib.hid hz11
      clear hpair hpr hz10 hz11
      have hb10 : Below w9.heap.size w9 W10 := by rw [← hW10.out]; exact (Below.refl _ _).alloc (Nat.le_refl _) _
      have hb11 : Below w9.heap.size w9 W11 := hb10.trans ((show Below W10.heap.size W10 W11 by rw [← hW11.out]; exact (Below.refl _ _).alloc (Nat.le_refl _) _).mono hb10.size)
      have hs10 := hb10.size
      have hs11 := hb11.size
      obtain ⟨W12, hW12⟩ : ∃ W, Hid (W11.alloc (.cells #[.int .i64 2, .int .i64 0, .int .i64 0, .string ⟨#[]⟩, .string ⟨#[]⟩, .int .i64 0, .int .i64 0, .slice (some ⟨w6.heap.size, 0, none⟩) 1 1, .string ⟨#[]⟩, .int .i64 0, .slice (some ⟨w9.heap.size + 1, 0, none⟩) 1 1, .slice none 0 0, .slice none 0 0] 75) = W) := ⟨_, Lib.hid rfl⟩
      have hb12 : Below W11.heap.size W11 W12 := by rw [← hW12.out]; exact (Below.refl _ _).alloc (Nat.le_refl _) _
      have hbb := hb11.trans (hb12.mono hb11.size)
      have hs12 := hbb.size
      have HB12 := Lib.hid (HB9.out.below hbb)
      have HR12 := Lib.hid (HR9.out.keep (KeptX.below hbb).e)
      have HL12 := Lib.hid (HL9.out.keep (KeptX.below hbb).e)
      have HA12 := Lib.hid (ExRow.keep hrow (KeptX.below hb12).e)
      have HS12 := Lib.hid (HS9.out.kept (KeptX.below hbb))
      have HY12 : Hid (W12.heap[w9.heap.size + 2]? = some (.cells (asCells 2 ⟨#[]⟩ (some ⟨w6.heap.size, 0, none⟩) 1 1 (some ⟨w9.heap.size + 1, 0, none⟩) 1 1) 75 (0, 0))) := Lib.hid (by rw [← HZ11.out, ← hW12.out]; exact Array.getElem?_push_size)
      clear hrow hb10 hb11 hb12 hbb
      go_wp2_with (first | ((with_reducible show wpList _ _ _ (Oper.mk _ (Op.load 75 _) _ _ _ none :: _) _ _); first | (refine load_stmt rfl _ rfl w3.heap.size (#[.int .i64 1, .int .i64 0, .int .i64 0, .string nm, .string ⟨#[]⟩, .int .i64 0, .int .i64 0, .slice none 0 0, .string ⟨#[]⟩, .int .i64 0, .slice none 0 0, .slice none 0 0, .slice none 0 0]) rfl HV14.out rfl ?_) | (refine load_stmt rfl _ rfl (Wt8.heap.size) (#[.int .i64 5, .int .i64 0, .int .i64 0, .string ⟨#[]⟩, .string ⟨#[]⟩, .int .i64 0, .int .i64 0, .slice none 0 0, .string ⟨#[]⟩, .int .i64 0, .slice (some ⟨Wt17.heap.size, 0, none⟩) 1 1, .slice A3 (l0 + 1) c3, .slice none 0 0]) rfl HB14.out.head rfl ?_)) | (at_builtin; rw [hW10.out, hW11.out, hW12.out]; refine wpList_plain rfl (fun K hK => ?_); refine wp_append_one _ _ rfl U.heap.size (w9.heap.size + 2) (d + 1) l0 c0 1 (1 + 1 + 3) A0 ns (asCells 2 ⟨#[]⟩ (some ⟨w6.heap.size, 0, none⟩) 1 1 (some ⟨w9.heap.size + 1, 0, none⟩) 1 1) rfl HS12.out rfl HY12.out rfl (asCells_one _ _ _ _ _ _ _ _) (stIn_plain ⟨by omega, by omega, .inr (.inl rfl)⟩ (by decide) HL12.out HA12.out rfl rfl _ _) (by omega) (by omega) ?_; intro A3 c3 w13 hgrow hplace hst13; have HB13 := Lib.hid (HB12.out.rows HS12.out hwU (fun p hp e => by have hpl := (HS12.out.place p.1 e.symm).1; simp only [List.mem_cons, List.not_mem_nil, or_false] at hp; rcases hp with rfl | rfl <;> (dsimp only at hpl; omega)) hgrow); have HS13 := Lib.hid hst13; have HR13 := Lib.hid (HR12.out.keep (HS12.out.grownE hgrow)); have hs13 := hgrow.size; have x11 := HB13.out.cell 11 (.slice none 0 0) rfl; have f11 := HB13.out.frozen 11; have HB14 : Hid (Mks lo B ⟨M2, T2, f2, funcs2, count2, left2, P2, S2, Q2, R2, pl2, pc2, sl2, sc2, ql2, qc2, rl2, rc2, A2', len2, cap2⟩ w [(Wt8.heap.size, cmCells 5 ⟨#[]⟩ (some ⟨Wt17.heap.size, 0, none⟩) 1 1 A3 (l0 + 1) c3 none 0 0), (w4.heap.size, declCells nm ⟨#[]⟩ 0)] (w13.setCell ⟨Wt8.heap.size, 11, none⟩ (.slice A3 (l0 + 1) c3))) := Lib.hid (HB13.out.setB (setB_cell (o := 11) (.slice A3 (l0 + 1) c3) HB13.out.head) (fun p hp => by simp only [List.mem_cons, List.not_mem_nil, or_false] at hp; subst hp; show w4.heap.size ≠ Wt8.heap.size; omega)); have HS14 := Lib.hid (HS13.out.setB HB13.out.head (setB_cell (o := 11) (.slice A3 (l0 + 1) c3) HB13.out.head) hXN); have HR14 := Lib.hid (HR13.out.keep ((setB_cell (o := 11) (.slice A3 (l0 + 1) c3) HB13.out.head).keptE HB13.out.head)); have HV14 : Hid ((w13.setCell ⟨Wt8.heap.size, 11, none⟩ (.slice A3 (l0 + 1) c3)).heap[w3.heap.size]? = some (.cells (#[.int .i64 1, .int .i64 0, .int .i64 0, .string nm, .string ⟨#[]⟩, .int .i64 0, .int .i64 0, .slice none 0 0, .string ⟨#[]⟩, .int .i64 0, .slice none 0 0, .slice none 0 0, .slice none 0 0]) 75 (0, 0))) := Lib.hid (by rw [← HW43.out]; exact HB14.out.next); clear hgrow hplace hst13; refine hK _ _ ?_))
      obtain ⟨w14, hw14⟩ : ∃ W, Hid (w13.setCell ⟨Wt8.heap.size, 11, none⟩ (.slice A3 (l0 + 1) c3) = W) := ⟨_, Lib.hid rfl⟩
      obtain ⟨W15, hW15⟩ : ∃ W, Hid (w14.alloc (.cells (#[.int .i64 1, .int .i64 0, .int .i64 0, .string nm, .string ⟨#[]⟩, .int .i64 0, .int .i64 0, .slice none 0 0, .string ⟨#[]⟩, .int .i64 0, .slice none 0 0, .slice none 0 0, .slice none 0 0, .int .i64 5, .int .i64 0, .int .i64 0, .string ⟨#[]⟩, .string ⟨#[]⟩, .int .i64 0, .int .i64 0, .slice none 0 0, .string ⟨#[]⟩, .int .i64 0, .slice (some ⟨Wt17.heap.size, 0, none⟩) 1 1, .slice A3 (l0 + 1) c3, .slice none 0 0]) 75) = W) := ⟨_, Lib.hid rfl⟩
      rw [hw14.out] at HB14 HS14 HR14
      rw [hw14.out, hW15.out]
      have hb15 : Below w14.heap.size w14 W15 := by rw [← hW15.out]; exact (Below.refl _ _).alloc (Nat.le_refl _) _
      have hY15 : W15.heap[w14.heap.size]? = some (.cells (loopCells nm (some ⟨Wt17.heap.size, 0, none⟩) 1 1 A3 (l0 + 1) c3) 75 (0, 0)) := by rw [← hW15.out]; exact Array.getElem?_push_size
      have hfin := HB14.out.below hb15
      have hrow := HR14.out.keep (KeptX.below hb15).e
      have hsts := (HS14.out.row.keep (KeptX.below hb15)).mono (q := fun b => w.heap.size ≤ b) (fun b _ hb => Nat.le_trans hwU hb)
      go_ret
      unfold LoopMade
      have hz14 : w14.heap.size = w13.heap.size := by rw [← hw14.out]; simp [World.setCell]
      refine ⟨w13.heap.size, nm, (some ⟨Wt17.heap.size, 0, none⟩), A3, 1, 1, l0 + 1, c3, [3], ns ++ [1 + 1 + 3], _, rfl, by rw [← hz14]; exact HB14.out.went.size, hnm, by rw [← hz14]; exact hY15, hrow, by decide, hsts, Kin.trans (b := ⟨M, T, f, funcs, (cn + 1 : Nat), left, P, A1, Q, R, pl, pc, sl + 1, c1, ql, qc, rl, rc, A, len, cap⟩) ⟨rfl, rfl, rfl, rfl, rfl, rfl, rfl, rfl, rfl, rfl, Nat.le_succ _, Nat.le_refl _, Nat.le_refl _, by show (cn : Int) ≤ ((cn + 1 : Nat) : Int); omega⟩ HK5.out, hleft5, ?_, ?_, hfin.cx, hfin.went⟩
      ·dsimp only
       omega
      ·rw [List.sum_append]
       dsimp only
       simp only [List.sum_cons, List.sum_nil]
       omega
    ·go_simp
     obtain ⟨Wt23, hWt23⟩ : ∃ W, Hid (wt6.alloc (.cells #[.int .i64 0, .int .i64 0, .int .i64 0, .string ⟨#[]⟩, .string ⟨#[]⟩, .int .i64 0, .int .i64 0, .slice none 0 0, .string ⟨#[]⟩, .int .i64 0, .slice none 0 0, .slice none 0 0, .slice none 0 0] 75) = W) := ⟨_, Lib.hid rfl⟩
     have HBt24 : Hid (Mks lo B ⟨M, T, f, funcs, (cn + 1 : Nat), left, P, A1, Q, R, pl, pc, sl + 1, c1, ql, qc, rl, rc, A, len, cap⟩ w [(wt6.heap.size, zCells), (w4.heap.size, declCells nm ⟨#[]⟩ 0)] Wt23) := Lib.hid (by rw [← hWt23.out]; exact HBt7.out.more _)
     have hb : Below wt6.heap.size wt6 Wt23 := by rw [← hWt23.out]; exact (Below.refl _ _).alloc (Nat.le_refl _) _
     rw [hWt23.out]
     have hs_Wt23 : wt6.heap.size < Wt23.heap.size := by rw [← hWt23.out]; exact Nat.lt_of_lt_of_eq (Nat.lt_succ_self _) (Array.size_push _).symm
     clear hb
     refine hK.out _ _ (HBt24.out.cx.maker.cell 0 (.pointer (some ⟨T, 0, none⟩)) rfl) (fun hHeld => ?_)
     clear hK K
     (try simp only [Act.put, zA, zB, zC, zD, zE, zF])
     refine wpAnyH_ready (rs := [9]) (by kernel_rfl) (by simp) (AllReadyH.cons rfl (fun K hK => ?_) AllReadyH.nil)
     go_simp
     obtain ⟨Wt25, hWt25⟩ : ∃ W, Hid (Wt23.alloc (.cells #[.int .i64 1, .int .i64 0, .int .i64 0, .string nm, .string ⟨#[]⟩, .slice none 0 0, .int .i64 0, .int .i64 j2, .int .i64 0, .string ⟨#[]⟩, .string ⟨#[]⟩, .slice none 0 0] 72) = W) := ⟨_, Lib.hid rfl⟩
     have HBt26 := Lib.hid (HBt24.out.alloc (.cells #[.int .i64 1, .int .i64 0, .int .i64 0, .string nm, .string ⟨#[]⟩, .slice none 0 0, .int .i64 0, .int .i64 j2, .int .i64 0, .string ⟨#[]⟩, .string ⟨#[]⟩, .slice none 0 0] 72))
     have HEt27 := Lib.hid (pair_made (w := Wt23) 14 (by omega) nm hnm j2 (by omega))
     rw [hWt25.out] at HBt26 HEt27 ⊢
     have hs_Wt25 : Wt23.heap.size < Wt25.heap.size := by rw [← hWt25.out]; exact Nat.lt_of_lt_of_eq (Nat.lt_succ_self _) (Array.size_push _).symm
     refine hK.out _ _ (HBt26.out.cx.maker.cell 0 (.pointer (some ⟨T, 0, none⟩)) rfl) (fun hHeld => ?_)
     clear hK K
     (try simp only [Act.put, zA, zB, zC, zD, zE, zF])
     refine wpAnyH_take (i := 10) (v := ?_) rfl (by kernel_rfl) (by kernel_rfl) (by kernel_rfl) (fun _ _ _ h => h) (Or.inl ⟨by rfl, ?_⟩) (by assumption) ?_
     rotate_left 1
     ·intro w hSw
      (try dsimp only at hSw)
      (go_simp) <;> (with_reducible rfl)
     (try simp only [Act.put, zA, zB, zC, zD, zE, zF])
     refine wpAnyH_ready (rs := [11]) (by kernel_rfl) (by simp) (AllReadyH.cons rfl (fun K hK => ?_) AllReadyH.nil)
     go_simp
     obtain ⟨Wt28, hWt28⟩ : ∃ W, Hid (Wt25.alloc (.cells #[.int .i64 14, .int .i64 0, .int .i64 0, .string ⟨#[]⟩, .string ⟨#[]⟩, .slice (some ⟨Wt23.heap.size, 0, none⟩) 2 2] 72) = W) := ⟨_, Lib.hid rfl⟩
     have HBt29 := Lib.hid (HBt26.out.alloc (.cells #[.int .i64 14, .int .i64 0, .int .i64 0, .string ⟨#[]⟩, .string ⟨#[]⟩, .slice (some ⟨Wt23.heap.size, 0, none⟩) 2 2] 72))
     have HRt30 : Hid (ExRow (Wt25.alloc (.cells #[.int .i64 14, .int .i64 0, .int .i64 0, .string ⟨#[]⟩, .string ⟨#[]⟩, .slice (some ⟨Wt23.heap.size, 0, none⟩) 2 2] 72)) (some ⟨Wt25.heap.size, 0, none⟩) 1 1 [3]) := Lib.hid (row_made HEt27.out)
     rw [hWt28.out] at HBt29 HRt30 ⊢
     have hs_Wt28 : Wt25.heap.size < Wt28.heap.size := by rw [← hWt28.out]; exact Nat.lt_of_lt_of_eq (Nat.lt_succ_self _) (Array.size_push _).symm
     refine hK.out _ _ (HBt29.out.cx.maker.cell 0 (.pointer (some ⟨T, 0, none⟩)) rfl) (fun hHeld => ?_)
     clear hK K
     (try simp only [Act.put, zA, zB, zC, zD, zE, zF])
     refine wpAnyH_take (i := 12) (v := ?_) rfl (by kernel_rfl) (by kernel_rfl) (by kernel_rfl) (fun _ _ _ h => h) (Or.inl ⟨by rfl, ?_⟩) (by assumption) ?_
     rotate_left 1
     ·intro w hSw
      (try dsimp only at hSw)
      (go_simp) <;> (with_reducible rfl)
     (try simp only [Act.put, zA, zB, zC, zD, zE, zF])
     refine wpAnyH_ready (rs := [14]) (by kernel_rfl) (by simp) (AllReadyH.cons rfl (fun K hK => ?_) AllReadyH.nil)
     refine wp_store_stmt _ _ rfl wt6.heap.size _ (cmCells 5 ⟨#[]⟩ (some ⟨Wt25.heap.size, 0, none⟩) 1 1 none 0 0 none 0 0) rfl rfl HBt29.out.head rfl rfl (cmCells_one _ _ _ _ _ _ _ _ _ _ _) ?_
     intro U hU
     have HRU := Lib.hid (HRt30.out.keep (hU.keptE HBt29.out.head))
     have HU := Lib.hid (HBt29.out.setB hU (fun p hp => by
      simp only [List.mem_cons, List.not_mem_nil, or_false] at hp
      subst hp
      show w4.heap.size ≠ wt6.heap.size
      omega))
     have hsU := Nat.le_of_eq hU.size.symm
     refine hK.out _ _ (HU.out.cx.maker.cell 0 (.pointer (some ⟨T, 0, none⟩)) rfl) (fun hHeld => ?_)
     clear hK K hU hHeld
     refine wpAnyH_done (by kernel_rfl) ?_ _
     have hXN : wt6.heap.size < U.heap.size := HU.out.lt
     have hXw : w.heap.size ≤ wt6.heap.size := HU.out.low
     have hwU := HU.out.went.size
     go_wp2_with fail
     refine (IH.out B ⟨M, T, f, funcs, (cn + 1 : Nat), left, P, A1, Q, R, pl, pc, sl + 1, c1, ql, qc, rl, rc, A, len, cap⟩ U 4 (by omega) HU.out.cx).mono ?_
     rintro e w5 ⟨A0, l0, c0, ns, m2, rfl, hst5, hl5, hkin5, hsl5, hql5, hrl5, hleft5, hcl5, hsum5, hc5, hw5⟩
     obtain ⟨M2, T2, f2, funcs2, count2, left2, P2, S2, Q2, R2, pl2, pc2, sl2, sc2, ql2, qc2, rl2, rc2, A2', len2, cap2⟩ := m2
     have HK5 := Lib.hid hkin5
     have HB5 := Lib.hid (HU.out.turned hc5 hw5)
     have HR5 := Lib.hid (HRU.out.keep hw5.keptX.e)
     have HS5 := Lib.hid hst5
     have hs5 := hw5.size
     dsimp only at hleft5 hcl5 hsum5
     clear hst5 hkin5 hc5 hw5 hsl5 hql5 hrl5
     go_wp2_with fail
     refine (variable_any w5 nm).mono ?_
     rintro e w6 ⟨rfl, hb6⟩
     have hs6 := hb6.size
     have HB6 := Lib.hid (HB5.out.below hb6)
     have HR6 := Lib.hid (HR5.out.keep (KeptX.below hb6).e)
     have HS6 := Lib.hid (HS5.out.kept (KeptX.below hb6))
     clear hb6
     obtain ⟨W7, hW7⟩ : ∃ W, Hid (w6.alloc (.cells #[.int .i64 1, .int .i64 0, .int .i64 0, .string nm, .string ⟨#[]⟩, .slice none 0 0] 72) = W) := ⟨_, Lib.hid rfl⟩
     have hb7 : Below w6.heap.size w6 W7 := by rw [← hW7.out]; exact (Below.refl _ _).alloc (Nat.le_refl _) _
     have HB7 := Lib.hid (HB6.out.below hb7)
     have HR7 := Lib.hid (HR6.out.keep (KeptX.below hb7).e)
     have HS7 := Lib.hid (HS6.out.kept (KeptX.below hb7))
     have hl7 : ExRow (w6.alloc (.cells #[.int .i64 1, .int .i64 0, .int .i64 0, .string nm, .string ⟨#[]⟩, .slice none 0 0] 72)) (some ⟨w6.heap.size, 0, none⟩) 1 1 [1] := row_made ((exNew_leaf w6 0 1 0 0 nm ⟨#[]⟩ (by omega) (by omega) hnm (by decide)).le (by omega))
     rw [hW7.out] at hl7
     have HL7 := Lib.hid hl7
     have hs7 := hb7.size
     clear hb7 hl7
     go_wp2_with fail
     rw [hW7.out]
     refine (variable_any W7 nm).mono ?_
     rintro e w8 ⟨rfl, hb8⟩
     go_wp2_with fail
     refine (literal_any w8 1).mono ?_
     rintro e w9 ⟨rfl, hb9⟩
     have hb9 := hb8.trans (hb9.mono hb8.size)
     have hs9 := hb9.size
     have HB9 := Lib.hid (HB7.out.below hb9)
     have HR9 := Lib.hid (HR7.out.keep (KeptX.below hb9).e)
     have HL9 := Lib.hid (HL7.out.keep (KeptX.below hb9).e)
     have HS9 := Lib.hid (HS7.out.kept (KeptX.below hb9))
     clear hb8 hb9
     obtain ⟨W10, hW10⟩ : ∃ W, Hid (w9.alloc (.cells #[.int .i64 1, .int .i64 0, .int .i64 0, .string nm, .string ⟨#[]⟩, .slice none 0 0, .int .i64 0, .int .i64 1, .int .i64 0, .string ⟨#[]⟩, .string ⟨#[]⟩, .slice none 0 0] 72) = W) := ⟨_, Lib.hid rfl⟩
     obtain ⟨W11, hW11⟩ : ∃ W, Hid (W10.alloc (.cells #[.int .i64 6, .int .i64 0, .int .i64 0, .string ⟨#[]⟩, .string ⟨#[]⟩, .slice (some ⟨w9.heap.size, 0, none⟩) 2 2] 72) = W) := ⟨_, Lib.hid rfl⟩
     have hpair := pair_made (w := w9) 6 (by omega) nm hnm 1 (by omega)
     have hpr : ExNew (w9.alloc (.cells #[.int .i64 1, .int .i64 0, .int .i64 0, .string nm, .string ⟨#[]⟩, .slice none 0 0, .int .i64 0, .int .i64 1, .int .i64 0, .string ⟨#[]⟩, .string ⟨#[]⟩, .slice none 0 0] 72)) 0 4 (.agg #[.int .i64 6, .int .i64 0, .int .i64 0, .string ⟨#[]⟩, .string ⟨#[]⟩, .slice (some ⟨w9.heap.size, 0, none⟩) 2 2]) 3 := hpair
     rw [hW10.out] at hpr
     have hrow : ExRow (W10.alloc (.cells #[.int .i64 6, .int .i64 0, .int .i64 0, .string ⟨#[]⟩, .string ⟨#[]⟩, .slice (some ⟨w9.heap.size, 0, none⟩) 2 2] 72)) (some ⟨W10.heap.size, 0, none⟩) 1 1 [3] := row_made hpr
     have hz10 : W10.heap.size = w9.heap.size + 1 := by rw [← hW10.out]; exact Array.size_push _
     have hz11 : W11.heap.size = w9.heap.size + 2 := by rw [← hW11.out]; exact (Array.size_push _).trans (by rw [hz10])
     rw [hW11.out, hz10] at hrow
     have HZ11 := Lib.hid hz11
     clear hpair hpr hz10 hz11
     have hb10 : Below w9.heap.size w9 W10 := by rw [← hW10.out]; exact (Below.refl _ _).alloc (Nat.le_refl _) _
     have hb11 : Below w9.heap.size w9 W11 := hb10.trans ((show Below W10.heap.size W10 W11 by rw [← hW11.out]; exact (Below.refl _ _).alloc (Nat.le_refl _) _).mono hb10.size)
     have hs10 := hb10.size
     have hs11 := hb11.size
     obtain ⟨W12, hW12⟩ : ∃ W, Hid (W11.alloc (.cells #[.int .i64 2, .int .i64 0, .int .i64 0, .string ⟨#[]⟩, .string ⟨#[]⟩, .int .i64 0, .int .i64 0, .slice (some ⟨w6.heap.size, 0, none⟩) 1 1, .string ⟨#[]⟩, .int .i64 0, .slice (some ⟨w9.heap.size + 1, 0, none⟩) 1 1, .slice none 0 0, .slice none 0 0] 75) = W) := ⟨_, Lib.hid rfl⟩
     have hb12 : Below W11.heap.size W11 W12 := by rw [← hW12.out]; exact (Below.refl _ _).alloc (Nat.le_refl _) _
     have hbb := hb11.trans (hb12.mono hb11.size)
     have hs12 := hbb.size
     have HB12 := Lib.hid (HB9.out.below hbb)
     have HR12 := Lib.hid (HR9.out.keep (KeptX.below hbb).e)
     have HL12 := Lib.hid (HL9.out.keep (KeptX.below hbb).e)
     have HA12 := Lib.hid (ExRow.keep hrow (KeptX.below hb12).e)
     have HS12 := Lib.hid (HS9.out.kept (KeptX.below hbb))
     have HY12 : Hid (W12.heap[w9.heap.size + 2]? = some (.cells (asCells 2 ⟨#[]⟩ (some ⟨w6.heap.size, 0, none⟩) 1 1 (some ⟨w9.heap.size + 1, 0, none⟩) 1 1) 75 (0, 0))) := Lib.hid (by rw [← HZ11.out, ← hW12.out]; exact Array.getElem?_push_size)
     clear hrow hb10 hb11 hb12 hbb
     go_wp2_with (first | ((with_reducible show wpList _ _ _ (Oper.mk _ (Op.load 75 _) _ _ _ none :: _) _ _); first | (refine load_stmt rfl _ rfl w3.heap.size (#[.int .i64 1, .int .i64 0, .int .i64 0, .string nm, .string ⟨#[]⟩, .int .i64 0, .int .i64 0, .slice none 0 0, .string ⟨#[]⟩, .int .i64 0, .slice none 0 0, .slice none 0 0, .slice none 0 0]) rfl HV14.out rfl ?_) | (refine load_stmt rfl _ rfl (wt6.heap.size) (#[.int .i64 5, .int .i64 0, .int .i64 0, .string ⟨#[]⟩, .string ⟨#[]⟩, .int .i64 0, .int .i64 0, .slice none 0 0, .string ⟨#[]⟩, .int .i64 0, .slice (some ⟨Wt25.heap.size, 0, none⟩) 1 1, .slice A3 (l0 + 1) c3, .slice none 0 0]) rfl HB14.out.head rfl ?_)) | (at_builtin; rw [hW10.out, hW11.out, hW12.out]; refine wpList_plain rfl (fun K hK => ?_); refine wp_append_one _ _ rfl U.heap.size (w9.heap.size + 2) (d + 1) l0 c0 1 (1 + 1 + 3) A0 ns (asCells 2 ⟨#[]⟩ (some ⟨w6.heap.size, 0, none⟩) 1 1 (some ⟨w9.heap.size + 1, 0, none⟩) 1 1) rfl HS12.out rfl HY12.out rfl (asCells_one _ _ _ _ _ _ _ _) (stIn_plain ⟨by omega, by omega, .inr (.inl rfl)⟩ (by decide) HL12.out HA12.out rfl rfl _ _) (by omega) (by omega) ?_; intro A3 c3 w13 hgrow hplace hst13; have HB13 := Lib.hid (HB12.out.rows HS12.out hwU (fun p hp e => by have hpl := (HS12.out.place p.1 e.symm).1; simp only [List.mem_cons, List.not_mem_nil, or_false] at hp; rcases hp with rfl | rfl <;> (dsimp only at hpl; omega)) hgrow); have HS13 := Lib.hid hst13; have HR13 := Lib.hid (HR12.out.keep (HS12.out.grownE hgrow)); have hs13 := hgrow.size; have x11 := HB13.out.cell 11 (.slice none 0 0) rfl; have f11 := HB13.out.frozen 11; have HB14 : Hid (Mks lo B ⟨M2, T2, f2, funcs2, count2, left2, P2, S2, Q2, R2, pl2, pc2, sl2, sc2, ql2, qc2, rl2, rc2, A2', len2, cap2⟩ w [(wt6.heap.size, cmCells 5 ⟨#[]⟩ (some ⟨Wt25.heap.size, 0, none⟩) 1 1 A3 (l0 + 1) c3 none 0 0), (w4.heap.size, declCells nm ⟨#[]⟩ 0)] (w13.setCell ⟨wt6.heap.size, 11, none⟩ (.slice A3 (l0 + 1) c3))) := Lib.hid (HB13.out.setB (setB_cell (o := 11) (.slice A3 (l0 + 1) c3) HB13.out.head) (fun p hp => by simp only [List.mem_cons, List.not_mem_nil, or_false] at hp; subst hp; show w4.heap.size ≠ wt6.heap.size; omega)); have HS14 := Lib.hid (HS13.out.setB HB13.out.head (setB_cell (o := 11) (.slice A3 (l0 + 1) c3) HB13.out.head) hXN); have HR14 := Lib.hid (HR13.out.keep ((setB_cell (o := 11) (.slice A3 (l0 + 1) c3) HB13.out.head).keptE HB13.out.head)); have HV14 : Hid ((w13.setCell ⟨wt6.heap.size, 11, none⟩ (.slice A3 (l0 + 1) c3)).heap[w3.heap.size]? = some (.cells (#[.int .i64 1, .int .i64 0, .int .i64 0, .string nm, .string ⟨#[]⟩, .int .i64 0, .int .i64 0, .slice none 0 0, .string ⟨#[]⟩, .int .i64 0, .slice none 0 0, .slice none 0 0, .slice none 0 0]) 75 (0, 0))) := Lib.hid (by rw [← HW43.out]; exact HB14.out.next); clear hgrow hplace hst13; refine hK _ _ ?_))
     obtain ⟨w14, hw14⟩ : ∃ W, Hid (w13.setCell ⟨wt6.heap.size, 11, none⟩ (.slice A3 (l0 + 1) c3) = W) := ⟨_, Lib.hid rfl⟩
     obtain ⟨W15, hW15⟩ : ∃ W, Hid (w14.alloc (.cells (#[.int .i64 1, .int .i64 0, .int .i64 0, .string nm, .string ⟨#[]⟩, .int .i64 0, .int .i64 0, .slice none 0 0, .string ⟨#[]⟩, .int .i64 0, .slice none 0 0, .slice none 0 0, .slice none 0 0, .int .i64 5, .int .i64 0, .int .i64 0, .string ⟨#[]⟩, .string ⟨#[]⟩, .int .i64 0, .int .i64 0, .slice none 0 0, .string ⟨#[]⟩, .int .i64 0, .slice (some ⟨Wt25.heap.size, 0, none⟩) 1 1, .slice A3 (l0 + 1) c3, .slice none 0 0]) 75) = W) := ⟨_, Lib.hid rfl⟩
     rw [hw14.out] at HB14 HS14 HR14
     rw [hw14.out, hW15.out]
     have hb15 : Below w14.heap.size w14 W15 := by rw [← hW15.out]; exact (Below.refl _ _).alloc (Nat.le_refl _) _
     have hY15 : W15.heap[w14.heap.size]? = some (.cells (loopCells nm (some ⟨Wt25.heap.size, 0, none⟩) 1 1 A3 (l0 + 1) c3) 75 (0, 0)) := by rw [← hW15.out]; exact Array.getElem?_push_size
     have hfin := HB14.out.below hb15
     have hrow := HR14.out.keep (KeptX.below hb15).e
     have hsts := (HS14.out.row.keep (KeptX.below hb15)).mono (q := fun b => w.heap.size ≤ b) (fun b _ hb => Nat.le_trans hwU hb)
     go_ret
     unfold LoopMade
     have hz14 : w14.heap.size = w13.heap.size := by rw [← hw14.out]; simp [World.setCell]
     refine ⟨w13.heap.size, nm, (some ⟨Wt25.heap.size, 0, none⟩), A3, 1, 1, l0 + 1, c3, [3], ns ++ [1 + 1 + 3], _, rfl, by rw [← hz14]; exact HB14.out.went.size, hnm, by rw [← hz14]; exact hY15, hrow, by decide, hsts, Kin.trans (b := ⟨M, T, f, funcs, (cn + 1 : Nat), left, P, A1, Q, R, pl, pc, sl + 1, c1, ql, qc, rl, rc, A, len, cap⟩) ⟨rfl, rfl, rfl, rfl, rfl, rfl, rfl, rfl, rfl, rfl, Nat.le_succ _, Nat.le_refl _, Nat.le_refl _, by show (cn : Int) ≤ ((cn + 1 : Nat) : Int); omega⟩ HK5.out, hleft5, ?_, ?_, hfin.cx, hfin.went⟩
     ·dsimp only
      omega
     ·rw [List.sum_append]
      dsimp only
      simp only [List.sum_cons, List.sum_nil]
      omega
   ·go_simp
    obtain ⟨Wt31, hWt31⟩ : ∃ W, Hid (wt3.alloc (.cells #[.int .i64 0, .int .i64 0, .int .i64 0, .string ⟨#[]⟩, .string ⟨#[]⟩, .int .i64 0, .int .i64 0, .slice none 0 0, .string ⟨#[]⟩, .int .i64 0, .slice none 0 0, .slice none 0 0, .slice none 0 0] 75) = W) := ⟨_, Lib.hid rfl⟩
    have HBt32 : Hid (Mks lo B ⟨M, T, f, funcs, (cn + 1 : Nat), left, P, A1, Q, R, pl, pc, sl + 1, c1, ql, qc, rl, rc, A, len, cap⟩ w [(wt3.heap.size, zCells), (w4.heap.size, declCells nm ⟨#[]⟩ 0)] Wt31) := Lib.hid (by rw [← hWt31.out]; exact HBt4.out.more _)
    have hb : Below wt3.heap.size wt3 Wt31 := by rw [← hWt31.out]; exact (Below.refl _ _).alloc (Nat.le_refl _) _
    rw [hWt31.out]
    have hs_Wt31 : wt3.heap.size < Wt31.heap.size := by rw [← hWt31.out]; exact Nat.lt_of_lt_of_eq (Nat.lt_succ_self _) (Array.size_push _).symm
    clear hb
    refine hK.out _ _ (HBt32.out.cx.maker.cell 0 (.pointer (some ⟨T, 0, none⟩)) rfl) (fun hHeld => ?_)
    clear hK K
    (try simp only [Act.put, zA, zB, zC, zD, zE, zF])
    refine wpAnyH_ready (rs := [8]) (by kernel_rfl) (by simp) (AllReadyH.cons rfl (fun K hK => ?_) AllReadyH.nil)
    go_simp
    (try rw [hwj])
    refine (literal_any Wt31 j2).mono ?_
    rintro e wt33 ⟨rfl, hb⟩
    have HBt34 := Lib.hid (HBt32.out.below hb)
    have hs_wt33 := hb.size
    clear hb
    refine hK.out _ _ (HBt34.out.cx.maker.cell 0 (.pointer (some ⟨T, 0, none⟩)) rfl) (fun hHeld => ?_)
    clear hK K
    (try simp only [Act.put, zA, zB, zC, zD, zE, zF])
    refine wpAnyH_ready (rs := [9]) (by kernel_rfl) (by simp) (AllReadyH.cons rfl (fun K hK => ?_) AllReadyH.nil)
    go_simp
    obtain ⟨Wt35, hWt35⟩ : ∃ W, Hid (wt33.alloc (.cells #[.int .i64 1, .int .i64 0, .int .i64 0, .string nm, .string ⟨#[]⟩, .slice none 0 0, .int .i64 0, .int .i64 j2, .int .i64 0, .string ⟨#[]⟩, .string ⟨#[]⟩, .slice none 0 0] 72) = W) := ⟨_, Lib.hid rfl⟩
    have HBt36 := Lib.hid (HBt34.out.alloc (.cells #[.int .i64 1, .int .i64 0, .int .i64 0, .string nm, .string ⟨#[]⟩, .slice none 0 0, .int .i64 0, .int .i64 j2, .int .i64 0, .string ⟨#[]⟩, .string ⟨#[]⟩, .slice none 0 0] 72))
    have HEt37 := Lib.hid (pair_made (w := wt33) 14 (by omega) nm hnm j2 (by omega))
    rw [hWt35.out] at HBt36 HEt37 ⊢
    have hs_Wt35 : wt33.heap.size < Wt35.heap.size := by rw [← hWt35.out]; exact Nat.lt_of_lt_of_eq (Nat.lt_succ_self _) (Array.size_push _).symm
    refine hK.out _ _ (HBt36.out.cx.maker.cell 0 (.pointer (some ⟨T, 0, none⟩)) rfl) (fun hHeld => ?_)
    clear hK K
    (try simp only [Act.put, zA, zB, zC, zD, zE, zF])
    refine wpAnyH_take (i := 10) (v := ?_) rfl (by kernel_rfl) (by kernel_rfl) (by kernel_rfl) (fun _ _ _ h => h) (Or.inl ⟨by rfl, ?_⟩) (by assumption) ?_
    rotate_left 1
    ·intro w hSw
     (try dsimp only at hSw)
     (go_simp) <;> (with_reducible rfl)
    (try simp only [Act.put, zA, zB, zC, zD, zE, zF])
    refine wpAnyH_ready (rs := [11]) (by kernel_rfl) (by simp) (AllReadyH.cons rfl (fun K hK => ?_) AllReadyH.nil)
    go_simp
    obtain ⟨Wt38, hWt38⟩ : ∃ W, Hid (Wt35.alloc (.cells #[.int .i64 14, .int .i64 0, .int .i64 0, .string ⟨#[]⟩, .string ⟨#[]⟩, .slice (some ⟨wt33.heap.size, 0, none⟩) 2 2] 72) = W) := ⟨_, Lib.hid rfl⟩
    have HBt39 := Lib.hid (HBt36.out.alloc (.cells #[.int .i64 14, .int .i64 0, .int .i64 0, .string ⟨#[]⟩, .string ⟨#[]⟩, .slice (some ⟨wt33.heap.size, 0, none⟩) 2 2] 72))
    have HRt40 : Hid (ExRow (Wt35.alloc (.cells #[.int .i64 14, .int .i64 0, .int .i64 0, .string ⟨#[]⟩, .string ⟨#[]⟩, .slice (some ⟨wt33.heap.size, 0, none⟩) 2 2] 72)) (some ⟨Wt35.heap.size, 0, none⟩) 1 1 [3]) := Lib.hid (row_made HEt37.out)
    rw [hWt38.out] at HBt39 HRt40 ⊢
    have hs_Wt38 : Wt35.heap.size < Wt38.heap.size := by rw [← hWt38.out]; exact Nat.lt_of_lt_of_eq (Nat.lt_succ_self _) (Array.size_push _).symm
    refine hK.out _ _ (HBt39.out.cx.maker.cell 0 (.pointer (some ⟨T, 0, none⟩)) rfl) (fun hHeld => ?_)
    clear hK K
    (try simp only [Act.put, zA, zB, zC, zD, zE, zF])
    refine wpAnyH_take (i := 12) (v := ?_) rfl (by kernel_rfl) (by kernel_rfl) (by kernel_rfl) (fun _ _ _ h => h) (Or.inl ⟨by rfl, ?_⟩) (by assumption) ?_
    rotate_left 1
    ·intro w hSw
     (try dsimp only at hSw)
     (go_simp) <;> (with_reducible rfl)
    (try simp only [Act.put, zA, zB, zC, zD, zE, zF])
    refine wpAnyH_ready (rs := [14]) (by kernel_rfl) (by simp) (AllReadyH.cons rfl (fun K hK => ?_) AllReadyH.nil)
    refine wp_store_stmt _ _ rfl wt3.heap.size _ (cmCells 5 ⟨#[]⟩ (some ⟨Wt35.heap.size, 0, none⟩) 1 1 none 0 0 none 0 0) rfl rfl HBt39.out.head rfl rfl (cmCells_one _ _ _ _ _ _ _ _ _ _ _) ?_
    intro U hU
    have HRU := Lib.hid (HRt40.out.keep (hU.keptE HBt39.out.head))
    have HU := Lib.hid (HBt39.out.setB hU (fun p hp => by
     simp only [List.mem_cons, List.not_mem_nil, or_false] at hp
     subst hp
     show w4.heap.size ≠ wt3.heap.size
     omega))
    have hsU := Nat.le_of_eq hU.size.symm
    refine hK.out _ _ (HU.out.cx.maker.cell 0 (.pointer (some ⟨T, 0, none⟩)) rfl) (fun hHeld => ?_)
    clear hK K hU hHeld
    refine wpAnyH_done (by kernel_rfl) ?_ _
    have hXN : wt3.heap.size < U.heap.size := HU.out.lt
    have hXw : w.heap.size ≤ wt3.heap.size := HU.out.low
    have hwU := HU.out.went.size
    go_wp2_with fail
    refine (IH.out B ⟨M, T, f, funcs, (cn + 1 : Nat), left, P, A1, Q, R, pl, pc, sl + 1, c1, ql, qc, rl, rc, A, len, cap⟩ U 4 (by omega) HU.out.cx).mono ?_
    rintro e w5 ⟨A0, l0, c0, ns, m2, rfl, hst5, hl5, hkin5, hsl5, hql5, hrl5, hleft5, hcl5, hsum5, hc5, hw5⟩
    obtain ⟨M2, T2, f2, funcs2, count2, left2, P2, S2, Q2, R2, pl2, pc2, sl2, sc2, ql2, qc2, rl2, rc2, A2', len2, cap2⟩ := m2
    have HK5 := Lib.hid hkin5
    have HB5 := Lib.hid (HU.out.turned hc5 hw5)
    have HR5 := Lib.hid (HRU.out.keep hw5.keptX.e)
    have HS5 := Lib.hid hst5
    have hs5 := hw5.size
    dsimp only at hleft5 hcl5 hsum5
    clear hst5 hkin5 hc5 hw5 hsl5 hql5 hrl5
    go_wp2_with fail
    refine (variable_any w5 nm).mono ?_
    rintro e w6 ⟨rfl, hb6⟩
    have hs6 := hb6.size
    have HB6 := Lib.hid (HB5.out.below hb6)
    have HR6 := Lib.hid (HR5.out.keep (KeptX.below hb6).e)
    have HS6 := Lib.hid (HS5.out.kept (KeptX.below hb6))
    clear hb6
    obtain ⟨W7, hW7⟩ : ∃ W, Hid (w6.alloc (.cells #[.int .i64 1, .int .i64 0, .int .i64 0, .string nm, .string ⟨#[]⟩, .slice none 0 0] 72) = W) := ⟨_, Lib.hid rfl⟩
    have hb7 : Below w6.heap.size w6 W7 := by rw [← hW7.out]; exact (Below.refl _ _).alloc (Nat.le_refl _) _
    have HB7 := Lib.hid (HB6.out.below hb7)
    have HR7 := Lib.hid (HR6.out.keep (KeptX.below hb7).e)
    have HS7 := Lib.hid (HS6.out.kept (KeptX.below hb7))
    have hl7 : ExRow (w6.alloc (.cells #[.int .i64 1, .int .i64 0, .int .i64 0, .string nm, .string ⟨#[]⟩, .slice none 0 0] 72)) (some ⟨w6.heap.size, 0, none⟩) 1 1 [1] := row_made ((exNew_leaf w6 0 1 0 0 nm ⟨#[]⟩ (by omega) (by omega) hnm (by decide)).le (by omega))
    rw [hW7.out] at hl7
    have HL7 := Lib.hid hl7
    have hs7 := hb7.size
    clear hb7 hl7
    go_wp2_with fail
    rw [hW7.out]
    refine (variable_any W7 nm).mono ?_
    rintro e w8 ⟨rfl, hb8⟩
    go_wp2_with fail
    refine (literal_any w8 1).mono ?_
    rintro e w9 ⟨rfl, hb9⟩
    have hb9 := hb8.trans (hb9.mono hb8.size)
    have hs9 := hb9.size
    have HB9 := Lib.hid (HB7.out.below hb9)
    have HR9 := Lib.hid (HR7.out.keep (KeptX.below hb9).e)
    have HL9 := Lib.hid (HL7.out.keep (KeptX.below hb9).e)
    have HS9 := Lib.hid (HS7.out.kept (KeptX.below hb9))
    clear hb8 hb9
    obtain ⟨W10, hW10⟩ : ∃ W, Hid (w9.alloc (.cells #[.int .i64 1, .int .i64 0, .int .i64 0, .string nm, .string ⟨#[]⟩, .slice none 0 0, .int .i64 0, .int .i64 1, .int .i64 0, .string ⟨#[]⟩, .string ⟨#[]⟩, .slice none 0 0] 72) = W) := ⟨_, Lib.hid rfl⟩
    obtain ⟨W11, hW11⟩ : ∃ W, Hid (W10.alloc (.cells #[.int .i64 6, .int .i64 0, .int .i64 0, .string ⟨#[]⟩, .string ⟨#[]⟩, .slice (some ⟨w9.heap.size, 0, none⟩) 2 2] 72) = W) := ⟨_, Lib.hid rfl⟩
    have hpair := pair_made (w := w9) 6 (by omega) nm hnm 1 (by omega)
    have hpr : ExNew (w9.alloc (.cells #[.int .i64 1, .int .i64 0, .int .i64 0, .string nm, .string ⟨#[]⟩, .slice none 0 0, .int .i64 0, .int .i64 1, .int .i64 0, .string ⟨#[]⟩, .string ⟨#[]⟩, .slice none 0 0] 72)) 0 4 (.agg #[.int .i64 6, .int .i64 0, .int .i64 0, .string ⟨#[]⟩, .string ⟨#[]⟩, .slice (some ⟨w9.heap.size, 0, none⟩) 2 2]) 3 := hpair
    rw [hW10.out] at hpr
    have hrow : ExRow (W10.alloc (.cells #[.int .i64 6, .int .i64 0, .int .i64 0, .string ⟨#[]⟩, .string ⟨#[]⟩, .slice (some ⟨w9.heap.size, 0, none⟩) 2 2] 72)) (some ⟨W10.heap.size, 0, none⟩) 1 1 [3] := row_made hpr
    have hz10 : W10.heap.size = w9.heap.size + 1 := by rw [← hW10.out]; exact Array.size_push _
    have hz11 : W11.heap.size = w9.heap.size + 2 := by rw [← hW11.out]; exact (Array.size_push _).trans (by rw [hz10])
    rw [hW11.out, hz10] at hrow
    have HZ11 := Lib.hid hz11
    clear hpair hpr hz10 hz11
    have hb10 : Below w9.heap.size w9 W10 := by rw [← hW10.out]; exact (Below.refl _ _).alloc (Nat.le_refl _) _
    have hb11 : Below w9.heap.size w9 W11 := hb10.trans ((show Below W10.heap.size W10 W11 by rw [← hW11.out]; exact (Below.refl _ _).alloc (Nat.le_refl _) _).mono hb10.size)
    have hs10 := hb10.size
    have hs11 := hb11.size
    obtain ⟨W12, hW12⟩ : ∃ W, Hid (W11.alloc (.cells #[.int .i64 2, .int .i64 0, .int .i64 0, .string ⟨#[]⟩, .string ⟨#[]⟩, .int .i64 0, .int .i64 0, .slice (some ⟨w6.heap.size, 0, none⟩) 1 1, .string ⟨#[]⟩, .int .i64 0, .slice (some ⟨w9.heap.size + 1, 0, none⟩) 1 1, .slice none 0 0, .slice none 0 0] 75) = W) := ⟨_, Lib.hid rfl⟩
    have hb12 : Below W11.heap.size W11 W12 := by rw [← hW12.out]; exact (Below.refl _ _).alloc (Nat.le_refl _) _
    have hbb := hb11.trans (hb12.mono hb11.size)
    have hs12 := hbb.size
    have HB12 := Lib.hid (HB9.out.below hbb)
    have HR12 := Lib.hid (HR9.out.keep (KeptX.below hbb).e)
    have HL12 := Lib.hid (HL9.out.keep (KeptX.below hbb).e)
    have HA12 := Lib.hid (ExRow.keep hrow (KeptX.below hb12).e)
    have HS12 := Lib.hid (HS9.out.kept (KeptX.below hbb))
    have HY12 : Hid (W12.heap[w9.heap.size + 2]? = some (.cells (asCells 2 ⟨#[]⟩ (some ⟨w6.heap.size, 0, none⟩) 1 1 (some ⟨w9.heap.size + 1, 0, none⟩) 1 1) 75 (0, 0))) := Lib.hid (by rw [← HZ11.out, ← hW12.out]; exact Array.getElem?_push_size)
    clear hrow hb10 hb11 hb12 hbb
    go_wp2_with (first | ((with_reducible show wpList _ _ _ (Oper.mk _ (Op.load 75 _) _ _ _ none :: _) _ _); first | (refine load_stmt rfl _ rfl w3.heap.size (#[.int .i64 1, .int .i64 0, .int .i64 0, .string nm, .string ⟨#[]⟩, .int .i64 0, .int .i64 0, .slice none 0 0, .string ⟨#[]⟩, .int .i64 0, .slice none 0 0, .slice none 0 0, .slice none 0 0]) rfl HV14.out rfl ?_) | (refine load_stmt rfl _ rfl (wt3.heap.size) (#[.int .i64 5, .int .i64 0, .int .i64 0, .string ⟨#[]⟩, .string ⟨#[]⟩, .int .i64 0, .int .i64 0, .slice none 0 0, .string ⟨#[]⟩, .int .i64 0, .slice (some ⟨Wt35.heap.size, 0, none⟩) 1 1, .slice A3 (l0 + 1) c3, .slice none 0 0]) rfl HB14.out.head rfl ?_)) | (at_builtin; rw [hW10.out, hW11.out, hW12.out]; refine wpList_plain rfl (fun K hK => ?_); refine wp_append_one _ _ rfl U.heap.size (w9.heap.size + 2) (d + 1) l0 c0 1 (1 + 1 + 3) A0 ns (asCells 2 ⟨#[]⟩ (some ⟨w6.heap.size, 0, none⟩) 1 1 (some ⟨w9.heap.size + 1, 0, none⟩) 1 1) rfl HS12.out rfl HY12.out rfl (asCells_one _ _ _ _ _ _ _ _) (stIn_plain ⟨by omega, by omega, .inr (.inl rfl)⟩ (by decide) HL12.out HA12.out rfl rfl _ _) (by omega) (by omega) ?_; intro A3 c3 w13 hgrow hplace hst13; have HB13 := Lib.hid (HB12.out.rows HS12.out hwU (fun p hp e => by have hpl := (HS12.out.place p.1 e.symm).1; simp only [List.mem_cons, List.not_mem_nil, or_false] at hp; rcases hp with rfl | rfl <;> (dsimp only at hpl; omega)) hgrow); have HS13 := Lib.hid hst13; have HR13 := Lib.hid (HR12.out.keep (HS12.out.grownE hgrow)); have hs13 := hgrow.size; have x11 := HB13.out.cell 11 (.slice none 0 0) rfl; have f11 := HB13.out.frozen 11; have HB14 : Hid (Mks lo B ⟨M2, T2, f2, funcs2, count2, left2, P2, S2, Q2, R2, pl2, pc2, sl2, sc2, ql2, qc2, rl2, rc2, A2', len2, cap2⟩ w [(wt3.heap.size, cmCells 5 ⟨#[]⟩ (some ⟨Wt35.heap.size, 0, none⟩) 1 1 A3 (l0 + 1) c3 none 0 0), (w4.heap.size, declCells nm ⟨#[]⟩ 0)] (w13.setCell ⟨wt3.heap.size, 11, none⟩ (.slice A3 (l0 + 1) c3))) := Lib.hid (HB13.out.setB (setB_cell (o := 11) (.slice A3 (l0 + 1) c3) HB13.out.head) (fun p hp => by simp only [List.mem_cons, List.not_mem_nil, or_false] at hp; subst hp; show w4.heap.size ≠ wt3.heap.size; omega)); have HS14 := Lib.hid (HS13.out.setB HB13.out.head (setB_cell (o := 11) (.slice A3 (l0 + 1) c3) HB13.out.head) hXN); have HR14 := Lib.hid (HR13.out.keep ((setB_cell (o := 11) (.slice A3 (l0 + 1) c3) HB13.out.head).keptE HB13.out.head)); have HV14 : Hid ((w13.setCell ⟨wt3.heap.size, 11, none⟩ (.slice A3 (l0 + 1) c3)).heap[w3.heap.size]? = some (.cells (#[.int .i64 1, .int .i64 0, .int .i64 0, .string nm, .string ⟨#[]⟩, .int .i64 0, .int .i64 0, .slice none 0 0, .string ⟨#[]⟩, .int .i64 0, .slice none 0 0, .slice none 0 0, .slice none 0 0]) 75 (0, 0))) := Lib.hid (by rw [← HW43.out]; exact HB14.out.next); clear hgrow hplace hst13; refine hK _ _ ?_))
    obtain ⟨w14, hw14⟩ : ∃ W, Hid (w13.setCell ⟨wt3.heap.size, 11, none⟩ (.slice A3 (l0 + 1) c3) = W) := ⟨_, Lib.hid rfl⟩
    obtain ⟨W15, hW15⟩ : ∃ W, Hid (w14.alloc (.cells (#[.int .i64 1, .int .i64 0, .int .i64 0, .string nm, .string ⟨#[]⟩, .int .i64 0, .int .i64 0, .slice none 0 0, .string ⟨#[]⟩, .int .i64 0, .slice none 0 0, .slice none 0 0, .slice none 0 0, .int .i64 5, .int .i64 0, .int .i64 0, .string ⟨#[]⟩, .string ⟨#[]⟩, .int .i64 0, .int .i64 0, .slice none 0 0, .string ⟨#[]⟩, .int .i64 0, .slice (some ⟨Wt35.heap.size, 0, none⟩) 1 1, .slice A3 (l0 + 1) c3, .slice none 0 0]) 75) = W) := ⟨_, Lib.hid rfl⟩
    rw [hw14.out] at HB14 HS14 HR14
    rw [hw14.out, hW15.out]
    have hb15 : Below w14.heap.size w14 W15 := by rw [← hW15.out]; exact (Below.refl _ _).alloc (Nat.le_refl _) _
    have hY15 : W15.heap[w14.heap.size]? = some (.cells (loopCells nm (some ⟨Wt35.heap.size, 0, none⟩) 1 1 A3 (l0 + 1) c3) 75 (0, 0)) := by rw [← hW15.out]; exact Array.getElem?_push_size
    have hfin := HB14.out.below hb15
    have hrow := HR14.out.keep (KeptX.below hb15).e
    have hsts := (HS14.out.row.keep (KeptX.below hb15)).mono (q := fun b => w.heap.size ≤ b) (fun b _ hb => Nat.le_trans hwU hb)
    go_ret
    unfold LoopMade
    have hz14 : w14.heap.size = w13.heap.size := by rw [← hw14.out]; simp [World.setCell]
    refine ⟨w13.heap.size, nm, (some ⟨Wt35.heap.size, 0, none⟩), A3, 1, 1, l0 + 1, c3, [3], ns ++ [1 + 1 + 3], _, rfl, by rw [← hz14]; exact HB14.out.went.size, hnm, by rw [← hz14]; exact hY15, hrow, by decide, hsts, Kin.trans (b := ⟨M, T, f, funcs, (cn + 1 : Nat), left, P, A1, Q, R, pl, pc, sl + 1, c1, ql, qc, rl, rc, A, len, cap⟩) ⟨rfl, rfl, rfl, rfl, rfl, rfl, rfl, rfl, rfl, rfl, Nat.le_succ _, Nat.le_refl _, Nat.le_refl _, by show (cn : Int) ≤ ((cn + 1 : Nat) : Int); omega⟩ HK5.out, hleft5, ?_, ?_, hfin.cx, hfin.went⟩
    ·dsimp only
     omega
    ·rw [List.sum_append]
     dsimp only
     simp only [List.sum_cons, List.sum_nil]
     omega
  ·go_simp
   obtain ⟨Wt41, hWt41⟩ : ∃ W, Hid (wt1.alloc (.cells #[.int .i64 0, .int .i64 0, .int .i64 0, .string ⟨#[]⟩, .string ⟨#[]⟩, .int .i64 0, .int .i64 0, .slice none 0 0, .string ⟨#[]⟩, .int .i64 0, .slice none 0 0, .slice none 0 0, .slice none 0 0] 75) = W) := ⟨_, Lib.hid rfl⟩
   have HBt42 : Hid (Mks lo B ⟨M, T, f, funcs, (cn + 1 : Nat), left, P, A1, Q, R, pl, pc, sl + 1, c1, ql, qc, rl, rc, A, len, cap⟩ w [(wt1.heap.size, zCells), (w4.heap.size, declCells nm ⟨#[]⟩ 0)] Wt41) := Lib.hid (by rw [← hWt41.out]; exact HBt2.out.more _)
   have hb : Below wt1.heap.size wt1 Wt41 := by rw [← hWt41.out]; exact (Below.refl _ _).alloc (Nat.le_refl _) _
   rw [hWt41.out]
   have hs_Wt41 : wt1.heap.size < Wt41.heap.size := by rw [← hWt41.out]; exact Nat.lt_of_lt_of_eq (Nat.lt_succ_self _) (Array.size_push _).symm
   clear hb
   refine hK.out _ _ (HBt42.out.cx.maker.cell 0 (.pointer (some ⟨T, 0, none⟩)) rfl) (fun hHeld => ?_)
   clear hK K
   (try simp only [Act.put, zA, zB, zC, zD, zE, zF])
   refine wpAnyH_ready (rs := [6]) (by kernel_rfl) (by simp) (AllReadyH.cons rfl (fun K hK => ?_) AllReadyH.nil)
   go_simp
   obtain ⟨pt45, pt45t⟩ := HBt42.out.cx.tape
   refine (next_any Wt41 T A len cap pt45 pt45t 4 (by omega) (by omega)).mono ?_
   rintro e wt43 ⟨j', pt45t2, rfl, j0, j1, hm⟩
   obtain ⟨j, rfl⟩ : ∃ i : Nat, j' = (i : Int) := ⟨j'.toNat, by omega⟩
   have HBt44 := Lib.hid (HBt42.out.grew hm.grew)
   have hs_wt43 := Nat.le_of_eq hm.size.symm
   clear hm pt45t
   refine hK.out _ _ (HBt44.out.cx.maker.cell 0 (.pointer (some ⟨T, 0, none⟩)) rfl) (fun hHeld => ?_)
   clear hK K
   (try simp only [Act.put, zA, zB, zC, zD, zE, zF])
   obtain ⟨j2, hwj, hj2⟩ : ∃ k : Nat, IntKind.i64.wrap (1 + (j : Int)) = (k : Int) ∧ k ≤ 4 := ⟨1 + j, by rw [IntWalk.i64_in _ (by omega)]; omega, by omega⟩
   refine wpAnyH_take (i := 7) (v := ?_) rfl (by kernel_rfl) (by kernel_rfl) (by kernel_rfl) (fun _ _ _ h => h) (Or.inl ⟨by rfl, ?_⟩) (by assumption) ?_
   rotate_left 1
   ·intro w hSw
    (try dsimp only at hSw)
    (go_simp) <;> (with_reducible rfl)
   (try simp only [Act.put, zA, zB, zC, zD, zE, zF])
   (try rw [hwj])
   refine wpAnyH_ready (rs := [8]) (by kernel_rfl) (by simp) (AllReadyH.cons rfl (fun K hK => ?_) AllReadyH.nil)
   go_simp
   (try rw [hwj])
   refine (literal_any wt43 j2).mono ?_
   rintro e wt46 ⟨rfl, hb⟩
   have HBt47 := Lib.hid (HBt44.out.below hb)
   have hs_wt46 := hb.size
   clear hb
   refine hK.out _ _ (HBt47.out.cx.maker.cell 0 (.pointer (some ⟨T, 0, none⟩)) rfl) (fun hHeld => ?_)
   clear hK K
   (try simp only [Act.put, zA, zB, zC, zD, zE, zF])
   refine wpAnyH_ready (rs := [9]) (by kernel_rfl) (by simp) (AllReadyH.cons rfl (fun K hK => ?_) AllReadyH.nil)
   go_simp
   obtain ⟨Wt48, hWt48⟩ : ∃ W, Hid (wt46.alloc (.cells #[.int .i64 1, .int .i64 0, .int .i64 0, .string nm, .string ⟨#[]⟩, .slice none 0 0, .int .i64 0, .int .i64 j2, .int .i64 0, .string ⟨#[]⟩, .string ⟨#[]⟩, .slice none 0 0] 72) = W) := ⟨_, Lib.hid rfl⟩
   have HBt49 := Lib.hid (HBt47.out.alloc (.cells #[.int .i64 1, .int .i64 0, .int .i64 0, .string nm, .string ⟨#[]⟩, .slice none 0 0, .int .i64 0, .int .i64 j2, .int .i64 0, .string ⟨#[]⟩, .string ⟨#[]⟩, .slice none 0 0] 72))
   have HEt50 := Lib.hid (pair_made (w := wt46) 14 (by omega) nm hnm j2 (by omega))
   rw [hWt48.out] at HBt49 HEt50 ⊢
   have hs_Wt48 : wt46.heap.size < Wt48.heap.size := by rw [← hWt48.out]; exact Nat.lt_of_lt_of_eq (Nat.lt_succ_self _) (Array.size_push _).symm
   refine hK.out _ _ (HBt49.out.cx.maker.cell 0 (.pointer (some ⟨T, 0, none⟩)) rfl) (fun hHeld => ?_)
   clear hK K
   (try simp only [Act.put, zA, zB, zC, zD, zE, zF])
   refine wpAnyH_take (i := 10) (v := ?_) rfl (by kernel_rfl) (by kernel_rfl) (by kernel_rfl) (fun _ _ _ h => h) (Or.inl ⟨by rfl, ?_⟩) (by assumption) ?_
   rotate_left 1
   ·intro w hSw
    (try dsimp only at hSw)
    (go_simp) <;> (with_reducible rfl)
   (try simp only [Act.put, zA, zB, zC, zD, zE, zF])
   refine wpAnyH_ready (rs := [11]) (by kernel_rfl) (by simp) (AllReadyH.cons rfl (fun K hK => ?_) AllReadyH.nil)
   go_simp
   obtain ⟨Wt51, hWt51⟩ : ∃ W, Hid (Wt48.alloc (.cells #[.int .i64 14, .int .i64 0, .int .i64 0, .string ⟨#[]⟩, .string ⟨#[]⟩, .slice (some ⟨wt46.heap.size, 0, none⟩) 2 2] 72) = W) := ⟨_, Lib.hid rfl⟩
   have HBt52 := Lib.hid (HBt49.out.alloc (.cells #[.int .i64 14, .int .i64 0, .int .i64 0, .string ⟨#[]⟩, .string ⟨#[]⟩, .slice (some ⟨wt46.heap.size, 0, none⟩) 2 2] 72))
   have HRt53 : Hid (ExRow (Wt48.alloc (.cells #[.int .i64 14, .int .i64 0, .int .i64 0, .string ⟨#[]⟩, .string ⟨#[]⟩, .slice (some ⟨wt46.heap.size, 0, none⟩) 2 2] 72)) (some ⟨Wt48.heap.size, 0, none⟩) 1 1 [3]) := Lib.hid (row_made HEt50.out)
   rw [hWt51.out] at HBt52 HRt53 ⊢
   have hs_Wt51 : Wt48.heap.size < Wt51.heap.size := by rw [← hWt51.out]; exact Nat.lt_of_lt_of_eq (Nat.lt_succ_self _) (Array.size_push _).symm
   refine hK.out _ _ (HBt52.out.cx.maker.cell 0 (.pointer (some ⟨T, 0, none⟩)) rfl) (fun hHeld => ?_)
   clear hK K
   (try simp only [Act.put, zA, zB, zC, zD, zE, zF])
   refine wpAnyH_take (i := 12) (v := ?_) rfl (by kernel_rfl) (by kernel_rfl) (by kernel_rfl) (fun _ _ _ h => h) (Or.inl ⟨by rfl, ?_⟩) (by assumption) ?_
   rotate_left 1
   ·intro w hSw
    (try dsimp only at hSw)
    (go_simp) <;> (with_reducible rfl)
   (try simp only [Act.put, zA, zB, zC, zD, zE, zF])
   refine wpAnyH_ready (rs := [14]) (by kernel_rfl) (by simp) (AllReadyH.cons rfl (fun K hK => ?_) AllReadyH.nil)
   refine wp_store_stmt _ _ rfl wt1.heap.size _ (cmCells 5 ⟨#[]⟩ (some ⟨Wt48.heap.size, 0, none⟩) 1 1 none 0 0 none 0 0) rfl rfl HBt52.out.head rfl rfl (cmCells_one _ _ _ _ _ _ _ _ _ _ _) ?_
   intro U hU
   have HRU := Lib.hid (HRt53.out.keep (hU.keptE HBt52.out.head))
   have HU := Lib.hid (HBt52.out.setB hU (fun p hp => by
    simp only [List.mem_cons, List.not_mem_nil, or_false] at hp
    subst hp
    show w4.heap.size ≠ wt1.heap.size
    omega))
   have hsU := Nat.le_of_eq hU.size.symm
   refine hK.out _ _ (HU.out.cx.maker.cell 0 (.pointer (some ⟨T, 0, none⟩)) rfl) (fun hHeld => ?_)
   clear hK K hU hHeld
   refine wpAnyH_done (by kernel_rfl) ?_ _
   have hXN : wt1.heap.size < U.heap.size := HU.out.lt
   have hXw : w.heap.size ≤ wt1.heap.size := HU.out.low
   have hwU := HU.out.went.size
   go_wp2_with fail
   refine (IH.out B ⟨M, T, f, funcs, (cn + 1 : Nat), left, P, A1, Q, R, pl, pc, sl + 1, c1, ql, qc, rl, rc, A, len, cap⟩ U 4 (by omega) HU.out.cx).mono ?_
   rintro e w5 ⟨A0, l0, c0, ns, m2, rfl, hst5, hl5, hkin5, hsl5, hql5, hrl5, hleft5, hcl5, hsum5, hc5, hw5⟩
   obtain ⟨M2, T2, f2, funcs2, count2, left2, P2, S2, Q2, R2, pl2, pc2, sl2, sc2, ql2, qc2, rl2, rc2, A2', len2, cap2⟩ := m2
   have HK5 := Lib.hid hkin5
   have HB5 := Lib.hid (HU.out.turned hc5 hw5)
   have HR5 := Lib.hid (HRU.out.keep hw5.keptX.e)
   have HS5 := Lib.hid hst5
   have hs5 := hw5.size
   dsimp only at hleft5 hcl5 hsum5
   clear hst5 hkin5 hc5 hw5 hsl5 hql5 hrl5
   go_wp2_with fail
   refine (variable_any w5 nm).mono ?_
   rintro e w6 ⟨rfl, hb6⟩
   have hs6 := hb6.size
   have HB6 := Lib.hid (HB5.out.below hb6)
   have HR6 := Lib.hid (HR5.out.keep (KeptX.below hb6).e)
   have HS6 := Lib.hid (HS5.out.kept (KeptX.below hb6))
   clear hb6
   obtain ⟨W7, hW7⟩ : ∃ W, Hid (w6.alloc (.cells #[.int .i64 1, .int .i64 0, .int .i64 0, .string nm, .string ⟨#[]⟩, .slice none 0 0] 72) = W) := ⟨_, Lib.hid rfl⟩
   have hb7 : Below w6.heap.size w6 W7 := by rw [← hW7.out]; exact (Below.refl _ _).alloc (Nat.le_refl _) _
   have HB7 := Lib.hid (HB6.out.below hb7)
   have HR7 := Lib.hid (HR6.out.keep (KeptX.below hb7).e)
   have HS7 := Lib.hid (HS6.out.kept (KeptX.below hb7))
   have hl7 : ExRow (w6.alloc (.cells #[.int .i64 1, .int .i64 0, .int .i64 0, .string nm, .string ⟨#[]⟩, .slice none 0 0] 72)) (some ⟨w6.heap.size, 0, none⟩) 1 1 [1] := row_made ((exNew_leaf w6 0 1 0 0 nm ⟨#[]⟩ (by omega) (by omega) hnm (by decide)).le (by omega))
   rw [hW7.out] at hl7
   have HL7 := Lib.hid hl7
   have hs7 := hb7.size
   clear hb7 hl7
   go_wp2_with fail
   rw [hW7.out]
   refine (variable_any W7 nm).mono ?_
   rintro e w8 ⟨rfl, hb8⟩
   go_wp2_with fail
   refine (literal_any w8 1).mono ?_
   rintro e w9 ⟨rfl, hb9⟩
   have hb9 := hb8.trans (hb9.mono hb8.size)
   have hs9 := hb9.size
   have HB9 := Lib.hid (HB7.out.below hb9)
   have HR9 := Lib.hid (HR7.out.keep (KeptX.below hb9).e)
   have HL9 := Lib.hid (HL7.out.keep (KeptX.below hb9).e)
   have HS9 := Lib.hid (HS7.out.kept (KeptX.below hb9))
   clear hb8 hb9
   obtain ⟨W10, hW10⟩ : ∃ W, Hid (w9.alloc (.cells #[.int .i64 1, .int .i64 0, .int .i64 0, .string nm, .string ⟨#[]⟩, .slice none 0 0, .int .i64 0, .int .i64 1, .int .i64 0, .string ⟨#[]⟩, .string ⟨#[]⟩, .slice none 0 0] 72) = W) := ⟨_, Lib.hid rfl⟩
   obtain ⟨W11, hW11⟩ : ∃ W, Hid (W10.alloc (.cells #[.int .i64 6, .int .i64 0, .int .i64 0, .string ⟨#[]⟩, .string ⟨#[]⟩, .slice (some ⟨w9.heap.size, 0, none⟩) 2 2] 72) = W) := ⟨_, Lib.hid rfl⟩
   have hpair := pair_made (w := w9) 6 (by omega) nm hnm 1 (by omega)
   have hpr : ExNew (w9.alloc (.cells #[.int .i64 1, .int .i64 0, .int .i64 0, .string nm, .string ⟨#[]⟩, .slice none 0 0, .int .i64 0, .int .i64 1, .int .i64 0, .string ⟨#[]⟩, .string ⟨#[]⟩, .slice none 0 0] 72)) 0 4 (.agg #[.int .i64 6, .int .i64 0, .int .i64 0, .string ⟨#[]⟩, .string ⟨#[]⟩, .slice (some ⟨w9.heap.size, 0, none⟩) 2 2]) 3 := hpair
   rw [hW10.out] at hpr
   have hrow : ExRow (W10.alloc (.cells #[.int .i64 6, .int .i64 0, .int .i64 0, .string ⟨#[]⟩, .string ⟨#[]⟩, .slice (some ⟨w9.heap.size, 0, none⟩) 2 2] 72)) (some ⟨W10.heap.size, 0, none⟩) 1 1 [3] := row_made hpr
   have hz10 : W10.heap.size = w9.heap.size + 1 := by rw [← hW10.out]; exact Array.size_push _
   have hz11 : W11.heap.size = w9.heap.size + 2 := by rw [← hW11.out]; exact (Array.size_push _).trans (by rw [hz10])
   rw [hW11.out, hz10] at hrow
   have HZ11 := Lib.hid hz11
   clear hpair hpr hz10 hz11
   have hb10 : Below w9.heap.size w9 W10 := by rw [← hW10.out]; exact (Below.refl _ _).alloc (Nat.le_refl _) _
   have hb11 : Below w9.heap.size w9 W11 := hb10.trans ((show Below W10.heap.size W10 W11 by rw [← hW11.out]; exact (Below.refl _ _).alloc (Nat.le_refl _) _).mono hb10.size)
   have hs10 := hb10.size
   have hs11 := hb11.size
   obtain ⟨W12, hW12⟩ : ∃ W, Hid (W11.alloc (.cells #[.int .i64 2, .int .i64 0, .int .i64 0, .string ⟨#[]⟩, .string ⟨#[]⟩, .int .i64 0, .int .i64 0, .slice (some ⟨w6.heap.size, 0, none⟩) 1 1, .string ⟨#[]⟩, .int .i64 0, .slice (some ⟨w9.heap.size + 1, 0, none⟩) 1 1, .slice none 0 0, .slice none 0 0] 75) = W) := ⟨_, Lib.hid rfl⟩
   have hb12 : Below W11.heap.size W11 W12 := by rw [← hW12.out]; exact (Below.refl _ _).alloc (Nat.le_refl _) _
   have hbb := hb11.trans (hb12.mono hb11.size)
   have hs12 := hbb.size
   have HB12 := Lib.hid (HB9.out.below hbb)
   have HR12 := Lib.hid (HR9.out.keep (KeptX.below hbb).e)
   have HL12 := Lib.hid (HL9.out.keep (KeptX.below hbb).e)
   have HA12 := Lib.hid (ExRow.keep hrow (KeptX.below hb12).e)
   have HS12 := Lib.hid (HS9.out.kept (KeptX.below hbb))
   have HY12 : Hid (W12.heap[w9.heap.size + 2]? = some (.cells (asCells 2 ⟨#[]⟩ (some ⟨w6.heap.size, 0, none⟩) 1 1 (some ⟨w9.heap.size + 1, 0, none⟩) 1 1) 75 (0, 0))) := Lib.hid (by rw [← HZ11.out, ← hW12.out]; exact Array.getElem?_push_size)
   clear hrow hb10 hb11 hb12 hbb
   go_wp2_with (first | ((with_reducible show wpList _ _ _ (Oper.mk _ (Op.load 75 _) _ _ _ none :: _) _ _); first | (refine load_stmt rfl _ rfl w3.heap.size (#[.int .i64 1, .int .i64 0, .int .i64 0, .string nm, .string ⟨#[]⟩, .int .i64 0, .int .i64 0, .slice none 0 0, .string ⟨#[]⟩, .int .i64 0, .slice none 0 0, .slice none 0 0, .slice none 0 0]) rfl HV14.out rfl ?_) | (refine load_stmt rfl _ rfl (wt1.heap.size) (#[.int .i64 5, .int .i64 0, .int .i64 0, .string ⟨#[]⟩, .string ⟨#[]⟩, .int .i64 0, .int .i64 0, .slice none 0 0, .string ⟨#[]⟩, .int .i64 0, .slice (some ⟨Wt48.heap.size, 0, none⟩) 1 1, .slice A3 (l0 + 1) c3, .slice none 0 0]) rfl HB14.out.head rfl ?_)) | (at_builtin; rw [hW10.out, hW11.out, hW12.out]; refine wpList_plain rfl (fun K hK => ?_); refine wp_append_one _ _ rfl U.heap.size (w9.heap.size + 2) (d + 1) l0 c0 1 (1 + 1 + 3) A0 ns (asCells 2 ⟨#[]⟩ (some ⟨w6.heap.size, 0, none⟩) 1 1 (some ⟨w9.heap.size + 1, 0, none⟩) 1 1) rfl HS12.out rfl HY12.out rfl (asCells_one _ _ _ _ _ _ _ _) (stIn_plain ⟨by omega, by omega, .inr (.inl rfl)⟩ (by decide) HL12.out HA12.out rfl rfl _ _) (by omega) (by omega) ?_; intro A3 c3 w13 hgrow hplace hst13; have HB13 := Lib.hid (HB12.out.rows HS12.out hwU (fun p hp e => by have hpl := (HS12.out.place p.1 e.symm).1; simp only [List.mem_cons, List.not_mem_nil, or_false] at hp; rcases hp with rfl | rfl <;> (dsimp only at hpl; omega)) hgrow); have HS13 := Lib.hid hst13; have HR13 := Lib.hid (HR12.out.keep (HS12.out.grownE hgrow)); have hs13 := hgrow.size; have x11 := HB13.out.cell 11 (.slice none 0 0) rfl; have f11 := HB13.out.frozen 11; have HB14 : Hid (Mks lo B ⟨M2, T2, f2, funcs2, count2, left2, P2, S2, Q2, R2, pl2, pc2, sl2, sc2, ql2, qc2, rl2, rc2, A2', len2, cap2⟩ w [(wt1.heap.size, cmCells 5 ⟨#[]⟩ (some ⟨Wt48.heap.size, 0, none⟩) 1 1 A3 (l0 + 1) c3 none 0 0), (w4.heap.size, declCells nm ⟨#[]⟩ 0)] (w13.setCell ⟨wt1.heap.size, 11, none⟩ (.slice A3 (l0 + 1) c3))) := Lib.hid (HB13.out.setB (setB_cell (o := 11) (.slice A3 (l0 + 1) c3) HB13.out.head) (fun p hp => by simp only [List.mem_cons, List.not_mem_nil, or_false] at hp; subst hp; show w4.heap.size ≠ wt1.heap.size; omega)); have HS14 := Lib.hid (HS13.out.setB HB13.out.head (setB_cell (o := 11) (.slice A3 (l0 + 1) c3) HB13.out.head) hXN); have HR14 := Lib.hid (HR13.out.keep ((setB_cell (o := 11) (.slice A3 (l0 + 1) c3) HB13.out.head).keptE HB13.out.head)); have HV14 : Hid ((w13.setCell ⟨wt1.heap.size, 11, none⟩ (.slice A3 (l0 + 1) c3)).heap[w3.heap.size]? = some (.cells (#[.int .i64 1, .int .i64 0, .int .i64 0, .string nm, .string ⟨#[]⟩, .int .i64 0, .int .i64 0, .slice none 0 0, .string ⟨#[]⟩, .int .i64 0, .slice none 0 0, .slice none 0 0, .slice none 0 0]) 75 (0, 0))) := Lib.hid (by rw [← HW43.out]; exact HB14.out.next); clear hgrow hplace hst13; refine hK _ _ ?_))
   obtain ⟨w14, hw14⟩ : ∃ W, Hid (w13.setCell ⟨wt1.heap.size, 11, none⟩ (.slice A3 (l0 + 1) c3) = W) := ⟨_, Lib.hid rfl⟩
   obtain ⟨W15, hW15⟩ : ∃ W, Hid (w14.alloc (.cells (#[.int .i64 1, .int .i64 0, .int .i64 0, .string nm, .string ⟨#[]⟩, .int .i64 0, .int .i64 0, .slice none 0 0, .string ⟨#[]⟩, .int .i64 0, .slice none 0 0, .slice none 0 0, .slice none 0 0, .int .i64 5, .int .i64 0, .int .i64 0, .string ⟨#[]⟩, .string ⟨#[]⟩, .int .i64 0, .int .i64 0, .slice none 0 0, .string ⟨#[]⟩, .int .i64 0, .slice (some ⟨Wt48.heap.size, 0, none⟩) 1 1, .slice A3 (l0 + 1) c3, .slice none 0 0]) 75) = W) := ⟨_, Lib.hid rfl⟩
   rw [hw14.out] at HB14 HS14 HR14
   rw [hw14.out, hW15.out]
   have hb15 : Below w14.heap.size w14 W15 := by rw [← hW15.out]; exact (Below.refl _ _).alloc (Nat.le_refl _) _
   have hY15 : W15.heap[w14.heap.size]? = some (.cells (loopCells nm (some ⟨Wt48.heap.size, 0, none⟩) 1 1 A3 (l0 + 1) c3) 75 (0, 0)) := by rw [← hW15.out]; exact Array.getElem?_push_size
   have hfin := HB14.out.below hb15
   have hrow := HR14.out.keep (KeptX.below hb15).e
   have hsts := (HS14.out.row.keep (KeptX.below hb15)).mono (q := fun b => w.heap.size ≤ b) (fun b _ hb => Nat.le_trans hwU hb)
   go_ret
   unfold LoopMade
   have hz14 : w14.heap.size = w13.heap.size := by rw [← hw14.out]; simp [World.setCell]
   refine ⟨w13.heap.size, nm, (some ⟨Wt48.heap.size, 0, none⟩), A3, 1, 1, l0 + 1, c3, [3], ns ++ [1 + 1 + 3], _, rfl, by rw [← hz14]; exact HB14.out.went.size, hnm, by rw [← hz14]; exact hY15, hrow, by decide, hsts, Kin.trans (b := ⟨M, T, f, funcs, (cn + 1 : Nat), left, P, A1, Q, R, pl, pc, sl + 1, c1, ql, qc, rl, rc, A, len, cap⟩) ⟨rfl, rfl, rfl, rfl, rfl, rfl, rfl, rfl, rfl, rfl, Nat.le_succ _, Nat.le_refl _, Nat.le_refl _, by show (cn : Int) ≤ ((cn + 1 : Nat) : Int); omega⟩ HK5.out, hleft5, ?_, ?_, hfin.cx, hfin.went⟩
   ·dsimp only
    omega
   ·rw [List.sum_append]
    dsimp only
    simp only [List.sum_cons, List.sum_nil]
    omega
 ·go_simp
  obtain ⟨Wt54, hWt54⟩ : ∃ W, Hid (D.alloc (.cells #[.int .i64 0, .int .i64 0, .int .i64 0, .string ⟨#[]⟩, .string ⟨#[]⟩, .int .i64 0, .int .i64 0, .slice none 0 0, .string ⟨#[]⟩, .int .i64 0, .slice none 0 0, .slice none 0 0, .slice none 0 0] 75) = W) := ⟨_, Lib.hid rfl⟩
  have HBt55 : Hid (Mks lo B ⟨M, T, f, funcs, (cn + 1 : Nat), left, P, A1, Q, R, pl, pc, sl + 1, c1, ql, qc, rl, rc, A, len, cap⟩ w [(D.heap.size, zCells), (w4.heap.size, declCells nm ⟨#[]⟩ 0)] Wt54) := Lib.hid (by rw [← hWt54.out]; exact HD.out.more _)
  have hb : Below D.heap.size D Wt54 := by rw [← hWt54.out]; exact (Below.refl _ _).alloc (Nat.le_refl _) _
  rw [hWt54.out]
  have hs_Wt54 : D.heap.size < Wt54.heap.size := by rw [← hWt54.out]; exact Nat.lt_of_lt_of_eq (Nat.lt_succ_self _) (Array.size_push _).symm
  clear hb
  refine hK.out _ _ (HBt55.out.cx.maker.cell 0 (.pointer (some ⟨T, 0, none⟩)) rfl) (fun hHeld => ?_)
  clear hK K
  (try simp only [Act.put, zA, zB, zC, zD, zE, zF])
  refine wpAnyH_ready (rs := [1]) (by kernel_rfl) (by simp) (AllReadyH.cons rfl (fun K hK => ?_) AllReadyH.nil)
  go_simp
  refine (variable_any Wt54 nm).mono ?_
  rintro e wt56 ⟨rfl, hb⟩
  have HBt57 := Lib.hid (HBt55.out.below hb)
  have hs_wt56 := hb.size
  clear hb
  refine hK.out _ _ (HBt57.out.cx.maker.cell 0 (.pointer (some ⟨T, 0, none⟩)) rfl) (fun hHeld => ?_)
  clear hK K
  (try simp only [Act.put, zA, zB, zC, zD, zE, zF])
  refine wpAnyH_ready (rs := [6]) (by kernel_rfl) (by simp) (AllReadyH.cons rfl (fun K hK => ?_) AllReadyH.nil)
  go_simp
  obtain ⟨pt60, pt60t⟩ := HBt57.out.cx.tape
  refine (next_any wt56 T A len cap pt60 pt60t 4 (by omega) (by omega)).mono ?_
  rintro e wt58 ⟨j', pt60t2, rfl, j0, j1, hm⟩
  obtain ⟨j, rfl⟩ : ∃ i : Nat, j' = (i : Int) := ⟨j'.toNat, by omega⟩
  have HBt59 := Lib.hid (HBt57.out.grew hm.grew)
  have hs_wt58 := Nat.le_of_eq hm.size.symm
  clear hm pt60t
  refine hK.out _ _ (HBt59.out.cx.maker.cell 0 (.pointer (some ⟨T, 0, none⟩)) rfl) (fun hHeld => ?_)
  clear hK K
  (try simp only [Act.put, zA, zB, zC, zD, zE, zF])
  obtain ⟨j2, hwj, hj2⟩ : ∃ k : Nat, IntKind.i64.wrap (1 + (j : Int)) = (k : Int) ∧ k ≤ 4 := ⟨1 + j, by rw [IntWalk.i64_in _ (by omega)]; omega, by omega⟩
  refine wpAnyH_take (i := 7) (v := ?_) rfl (by kernel_rfl) (by kernel_rfl) (by kernel_rfl) (fun _ _ _ h => h) (Or.inl ⟨by rfl, ?_⟩) (by assumption) ?_
  rotate_left 1
  ·intro w hSw
   (try dsimp only at hSw)
   (go_simp) <;> (with_reducible rfl)
  (try simp only [Act.put, zA, zB, zC, zD, zE, zF])
  (try rw [hwj])
  refine wpAnyH_ready (rs := [8]) (by kernel_rfl) (by simp) (AllReadyH.cons rfl (fun K hK => ?_) AllReadyH.nil)
  go_simp
  (try rw [hwj])
  refine (literal_any wt58 j2).mono ?_
  rintro e wt61 ⟨rfl, hb⟩
  have HBt62 := Lib.hid (HBt59.out.below hb)
  have hs_wt61 := hb.size
  clear hb
  refine hK.out _ _ (HBt62.out.cx.maker.cell 0 (.pointer (some ⟨T, 0, none⟩)) rfl) (fun hHeld => ?_)
  clear hK K
  (try simp only [Act.put, zA, zB, zC, zD, zE, zF])
  refine wpAnyH_ready (rs := [9]) (by kernel_rfl) (by simp) (AllReadyH.cons rfl (fun K hK => ?_) AllReadyH.nil)
  go_simp
  obtain ⟨Wt63, hWt63⟩ : ∃ W, Hid (wt61.alloc (.cells #[.int .i64 1, .int .i64 0, .int .i64 0, .string nm, .string ⟨#[]⟩, .slice none 0 0, .int .i64 0, .int .i64 j2, .int .i64 0, .string ⟨#[]⟩, .string ⟨#[]⟩, .slice none 0 0] 72) = W) := ⟨_, Lib.hid rfl⟩
  have HBt64 := Lib.hid (HBt62.out.alloc (.cells #[.int .i64 1, .int .i64 0, .int .i64 0, .string nm, .string ⟨#[]⟩, .slice none 0 0, .int .i64 0, .int .i64 j2, .int .i64 0, .string ⟨#[]⟩, .string ⟨#[]⟩, .slice none 0 0] 72))
  have HEt65 := Lib.hid (pair_made (w := wt61) 14 (by omega) nm hnm j2 (by omega))
  rw [hWt63.out] at HBt64 HEt65 ⊢
  have hs_Wt63 : wt61.heap.size < Wt63.heap.size := by rw [← hWt63.out]; exact Nat.lt_of_lt_of_eq (Nat.lt_succ_self _) (Array.size_push _).symm
  refine hK.out _ _ (HBt64.out.cx.maker.cell 0 (.pointer (some ⟨T, 0, none⟩)) rfl) (fun hHeld => ?_)
  clear hK K
  (try simp only [Act.put, zA, zB, zC, zD, zE, zF])
  refine wpAnyH_take (i := 10) (v := ?_) rfl (by kernel_rfl) (by kernel_rfl) (by kernel_rfl) (fun _ _ _ h => h) (Or.inl ⟨by rfl, ?_⟩) (by assumption) ?_
  rotate_left 1
  ·intro w hSw
   (try dsimp only at hSw)
   (go_simp) <;> (with_reducible rfl)
  (try simp only [Act.put, zA, zB, zC, zD, zE, zF])
  refine wpAnyH_ready (rs := [11]) (by kernel_rfl) (by simp) (AllReadyH.cons rfl (fun K hK => ?_) AllReadyH.nil)
  go_simp
  obtain ⟨Wt66, hWt66⟩ : ∃ W, Hid (Wt63.alloc (.cells #[.int .i64 14, .int .i64 0, .int .i64 0, .string ⟨#[]⟩, .string ⟨#[]⟩, .slice (some ⟨wt61.heap.size, 0, none⟩) 2 2] 72) = W) := ⟨_, Lib.hid rfl⟩
  have HBt67 := Lib.hid (HBt64.out.alloc (.cells #[.int .i64 14, .int .i64 0, .int .i64 0, .string ⟨#[]⟩, .string ⟨#[]⟩, .slice (some ⟨wt61.heap.size, 0, none⟩) 2 2] 72))
  have HRt68 : Hid (ExRow (Wt63.alloc (.cells #[.int .i64 14, .int .i64 0, .int .i64 0, .string ⟨#[]⟩, .string ⟨#[]⟩, .slice (some ⟨wt61.heap.size, 0, none⟩) 2 2] 72)) (some ⟨Wt63.heap.size, 0, none⟩) 1 1 [3]) := Lib.hid (row_made HEt65.out)
  rw [hWt66.out] at HBt67 HRt68 ⊢
  have hs_Wt66 : Wt63.heap.size < Wt66.heap.size := by rw [← hWt66.out]; exact Nat.lt_of_lt_of_eq (Nat.lt_succ_self _) (Array.size_push _).symm
  refine hK.out _ _ (HBt67.out.cx.maker.cell 0 (.pointer (some ⟨T, 0, none⟩)) rfl) (fun hHeld => ?_)
  clear hK K
  (try simp only [Act.put, zA, zB, zC, zD, zE, zF])
  refine wpAnyH_take (i := 12) (v := ?_) rfl (by kernel_rfl) (by kernel_rfl) (by kernel_rfl) (fun _ _ _ h => h) (Or.inl ⟨by rfl, ?_⟩) (by assumption) ?_
  rotate_left 1
  ·intro w hSw
   (try dsimp only at hSw)
   (go_simp) <;> (with_reducible rfl)
  (try simp only [Act.put, zA, zB, zC, zD, zE, zF])
  refine wpAnyH_ready (rs := [14]) (by kernel_rfl) (by simp) (AllReadyH.cons rfl (fun K hK => ?_) AllReadyH.nil)
  refine wp_store_stmt _ _ rfl D.heap.size _ (cmCells 5 ⟨#[]⟩ (some ⟨Wt63.heap.size, 0, none⟩) 1 1 none 0 0 none 0 0) rfl rfl HBt67.out.head rfl rfl (cmCells_one _ _ _ _ _ _ _ _ _ _ _) ?_
  intro U hU
  have HRU := Lib.hid (HRt68.out.keep (hU.keptE HBt67.out.head))
  have HU := Lib.hid (HBt67.out.setB hU (fun p hp => by
   simp only [List.mem_cons, List.not_mem_nil, or_false] at hp
   subst hp
   show w4.heap.size ≠ D.heap.size
   omega))
  have hsU := Nat.le_of_eq hU.size.symm
  refine hK.out _ _ (HU.out.cx.maker.cell 0 (.pointer (some ⟨T, 0, none⟩)) rfl) (fun hHeld => ?_)
  clear hK K hU hHeld
  refine wpAnyH_done (by kernel_rfl) ?_ _
  have hXN : D.heap.size < U.heap.size := HU.out.lt
  have hXw : w.heap.size ≤ D.heap.size := HU.out.low
  have hwU := HU.out.went.size
  go_wp2_with fail
  refine (IH.out B ⟨M, T, f, funcs, (cn + 1 : Nat), left, P, A1, Q, R, pl, pc, sl + 1, c1, ql, qc, rl, rc, A, len, cap⟩ U 4 (by omega) HU.out.cx).mono ?_
  rintro e w5 ⟨A0, l0, c0, ns, m2, rfl, hst5, hl5, hkin5, hsl5, hql5, hrl5, hleft5, hcl5, hsum5, hc5, hw5⟩
  obtain ⟨M2, T2, f2, funcs2, count2, left2, P2, S2, Q2, R2, pl2, pc2, sl2, sc2, ql2, qc2, rl2, rc2, A2', len2, cap2⟩ := m2
  have HK5 := Lib.hid hkin5
  have HB5 := Lib.hid (HU.out.turned hc5 hw5)
  have HR5 := Lib.hid (HRU.out.keep hw5.keptX.e)
  have HS5 := Lib.hid hst5
  have hs5 := hw5.size
  dsimp only at hleft5 hcl5 hsum5
  clear hst5 hkin5 hc5 hw5 hsl5 hql5 hrl5
  go_wp2_with fail
  refine (variable_any w5 nm).mono ?_
  rintro e w6 ⟨rfl, hb6⟩
  have hs6 := hb6.size
  have HB6 := Lib.hid (HB5.out.below hb6)
  have HR6 := Lib.hid (HR5.out.keep (KeptX.below hb6).e)
  have HS6 := Lib.hid (HS5.out.kept (KeptX.below hb6))
  clear hb6
  obtain ⟨W7, hW7⟩ : ∃ W, Hid (w6.alloc (.cells #[.int .i64 1, .int .i64 0, .int .i64 0, .string nm, .string ⟨#[]⟩, .slice none 0 0] 72) = W) := ⟨_, Lib.hid rfl⟩
  have hb7 : Below w6.heap.size w6 W7 := by rw [← hW7.out]; exact (Below.refl _ _).alloc (Nat.le_refl _) _
  have HB7 := Lib.hid (HB6.out.below hb7)
  have HR7 := Lib.hid (HR6.out.keep (KeptX.below hb7).e)
  have HS7 := Lib.hid (HS6.out.kept (KeptX.below hb7))
  have hl7 : ExRow (w6.alloc (.cells #[.int .i64 1, .int .i64 0, .int .i64 0, .string nm, .string ⟨#[]⟩, .slice none 0 0] 72)) (some ⟨w6.heap.size, 0, none⟩) 1 1 [1] := row_made ((exNew_leaf w6 0 1 0 0 nm ⟨#[]⟩ (by omega) (by omega) hnm (by decide)).le (by omega))
  rw [hW7.out] at hl7
  have HL7 := Lib.hid hl7
  have hs7 := hb7.size
  clear hb7 hl7
  go_wp2_with fail
  rw [hW7.out]
  refine (variable_any W7 nm).mono ?_
  rintro e w8 ⟨rfl, hb8⟩
  go_wp2_with fail
  refine (literal_any w8 1).mono ?_
  rintro e w9 ⟨rfl, hb9⟩
  have hb9 := hb8.trans (hb9.mono hb8.size)
  have hs9 := hb9.size
  have HB9 := Lib.hid (HB7.out.below hb9)
  have HR9 := Lib.hid (HR7.out.keep (KeptX.below hb9).e)
  have HL9 := Lib.hid (HL7.out.keep (KeptX.below hb9).e)
  have HS9 := Lib.hid (HS7.out.kept (KeptX.below hb9))
  clear hb8 hb9
  obtain ⟨W10, hW10⟩ : ∃ W, Hid (w9.alloc (.cells #[.int .i64 1, .int .i64 0, .int .i64 0, .string nm, .string ⟨#[]⟩, .slice none 0 0, .int .i64 0, .int .i64 1, .int .i64 0, .string ⟨#[]⟩, .string ⟨#[]⟩, .slice none 0 0] 72) = W) := ⟨_, Lib.hid rfl⟩
  obtain ⟨W11, hW11⟩ : ∃ W, Hid (W10.alloc (.cells #[.int .i64 6, .int .i64 0, .int .i64 0, .string ⟨#[]⟩, .string ⟨#[]⟩, .slice (some ⟨w9.heap.size, 0, none⟩) 2 2] 72) = W) := ⟨_, Lib.hid rfl⟩
  have hpair := pair_made (w := w9) 6 (by omega) nm hnm 1 (by omega)
  have hpr : ExNew (w9.alloc (.cells #[.int .i64 1, .int .i64 0, .int .i64 0, .string nm, .string ⟨#[]⟩, .slice none 0 0, .int .i64 0, .int .i64 1, .int .i64 0, .string ⟨#[]⟩, .string ⟨#[]⟩, .slice none 0 0] 72)) 0 4 (.agg #[.int .i64 6, .int .i64 0, .int .i64 0, .string ⟨#[]⟩, .string ⟨#[]⟩, .slice (some ⟨w9.heap.size, 0, none⟩) 2 2]) 3 := hpair
  rw [hW10.out] at hpr
  have hrow : ExRow (W10.alloc (.cells #[.int .i64 6, .int .i64 0, .int .i64 0, .string ⟨#[]⟩, .string ⟨#[]⟩, .slice (some ⟨w9.heap.size, 0, none⟩) 2 2] 72)) (some ⟨W10.heap.size, 0, none⟩) 1 1 [3] := row_made hpr
  have hz10 : W10.heap.size = w9.heap.size + 1 := by rw [← hW10.out]; exact Array.size_push _
  have hz11 : W11.heap.size = w9.heap.size + 2 := by rw [← hW11.out]; exact (Array.size_push _).trans (by rw [hz10])
  rw [hW11.out, hz10] at hrow
  have HZ11 := Lib.hid hz11
  clear hpair hpr hz10 hz11
  have hb10 : Below w9.heap.size w9 W10 := by rw [← hW10.out]; exact (Below.refl _ _).alloc (Nat.le_refl _) _
  have hb11 : Below w9.heap.size w9 W11 := hb10.trans ((show Below W10.heap.size W10 W11 by rw [← hW11.out]; exact (Below.refl _ _).alloc (Nat.le_refl _) _).mono hb10.size)
  have hs10 := hb10.size
  have hs11 := hb11.size
  obtain ⟨W12, hW12⟩ : ∃ W, Hid (W11.alloc (.cells #[.int .i64 2, .int .i64 0, .int .i64 0, .string ⟨#[]⟩, .string ⟨#[]⟩, .int .i64 0, .int .i64 0, .slice (some ⟨w6.heap.size, 0, none⟩) 1 1, .string ⟨#[]⟩, .int .i64 0, .slice (some ⟨w9.heap.size + 1, 0, none⟩) 1 1, .slice none 0 0, .slice none 0 0] 75) = W) := ⟨_, Lib.hid rfl⟩
  have hb12 : Below W11.heap.size W11 W12 := by rw [← hW12.out]; exact (Below.refl _ _).alloc (Nat.le_refl _) _
  have hbb := hb11.trans (hb12.mono hb11.size)
  have hs12 := hbb.size
  have HB12 := Lib.hid (HB9.out.below hbb)
  have HR12 := Lib.hid (HR9.out.keep (KeptX.below hbb).e)
  have HL12 := Lib.hid (HL9.out.keep (KeptX.below hbb).e)
  have HA12 := Lib.hid (ExRow.keep hrow (KeptX.below hb12).e)
  have HS12 := Lib.hid (HS9.out.kept (KeptX.below hbb))
  have HY12 : Hid (W12.heap[w9.heap.size + 2]? = some (.cells (asCells 2 ⟨#[]⟩ (some ⟨w6.heap.size, 0, none⟩) 1 1 (some ⟨w9.heap.size + 1, 0, none⟩) 1 1) 75 (0, 0))) := Lib.hid (by rw [← HZ11.out, ← hW12.out]; exact Array.getElem?_push_size)
  clear hrow hb10 hb11 hb12 hbb
  go_wp2_with (first | ((with_reducible show wpList _ _ _ (Oper.mk _ (Op.load 75 _) _ _ _ none :: _) _ _); first | (refine load_stmt rfl _ rfl w3.heap.size (#[.int .i64 1, .int .i64 0, .int .i64 0, .string nm, .string ⟨#[]⟩, .int .i64 0, .int .i64 0, .slice none 0 0, .string ⟨#[]⟩, .int .i64 0, .slice none 0 0, .slice none 0 0, .slice none 0 0]) rfl HV14.out rfl ?_) | (refine load_stmt rfl _ rfl (D.heap.size) (#[.int .i64 5, .int .i64 0, .int .i64 0, .string ⟨#[]⟩, .string ⟨#[]⟩, .int .i64 0, .int .i64 0, .slice none 0 0, .string ⟨#[]⟩, .int .i64 0, .slice (some ⟨Wt63.heap.size, 0, none⟩) 1 1, .slice A3 (l0 + 1) c3, .slice none 0 0]) rfl HB14.out.head rfl ?_)) | (at_builtin; rw [hW10.out, hW11.out, hW12.out]; refine wpList_plain rfl (fun K hK => ?_); refine wp_append_one _ _ rfl U.heap.size (w9.heap.size + 2) (d + 1) l0 c0 1 (1 + 1 + 3) A0 ns (asCells 2 ⟨#[]⟩ (some ⟨w6.heap.size, 0, none⟩) 1 1 (some ⟨w9.heap.size + 1, 0, none⟩) 1 1) rfl HS12.out rfl HY12.out rfl (asCells_one _ _ _ _ _ _ _ _) (stIn_plain ⟨by omega, by omega, .inr (.inl rfl)⟩ (by decide) HL12.out HA12.out rfl rfl _ _) (by omega) (by omega) ?_; intro A3 c3 w13 hgrow hplace hst13; have HB13 := Lib.hid (HB12.out.rows HS12.out hwU (fun p hp e => by have hpl := (HS12.out.place p.1 e.symm).1; simp only [List.mem_cons, List.not_mem_nil, or_false] at hp; rcases hp with rfl | rfl <;> (dsimp only at hpl; omega)) hgrow); have HS13 := Lib.hid hst13; have HR13 := Lib.hid (HR12.out.keep (HS12.out.grownE hgrow)); have hs13 := hgrow.size; have x11 := HB13.out.cell 11 (.slice none 0 0) rfl; have f11 := HB13.out.frozen 11; have HB14 : Hid (Mks lo B ⟨M2, T2, f2, funcs2, count2, left2, P2, S2, Q2, R2, pl2, pc2, sl2, sc2, ql2, qc2, rl2, rc2, A2', len2, cap2⟩ w [(D.heap.size, cmCells 5 ⟨#[]⟩ (some ⟨Wt63.heap.size, 0, none⟩) 1 1 A3 (l0 + 1) c3 none 0 0), (w4.heap.size, declCells nm ⟨#[]⟩ 0)] (w13.setCell ⟨D.heap.size, 11, none⟩ (.slice A3 (l0 + 1) c3))) := Lib.hid (HB13.out.setB (setB_cell (o := 11) (.slice A3 (l0 + 1) c3) HB13.out.head) (fun p hp => by simp only [List.mem_cons, List.not_mem_nil, or_false] at hp; subst hp; show w4.heap.size ≠ D.heap.size; omega)); have HS14 := Lib.hid (HS13.out.setB HB13.out.head (setB_cell (o := 11) (.slice A3 (l0 + 1) c3) HB13.out.head) hXN); have HR14 := Lib.hid (HR13.out.keep ((setB_cell (o := 11) (.slice A3 (l0 + 1) c3) HB13.out.head).keptE HB13.out.head)); have HV14 : Hid ((w13.setCell ⟨D.heap.size, 11, none⟩ (.slice A3 (l0 + 1) c3)).heap[w3.heap.size]? = some (.cells (#[.int .i64 1, .int .i64 0, .int .i64 0, .string nm, .string ⟨#[]⟩, .int .i64 0, .int .i64 0, .slice none 0 0, .string ⟨#[]⟩, .int .i64 0, .slice none 0 0, .slice none 0 0, .slice none 0 0]) 75 (0, 0))) := Lib.hid (by rw [← HW43.out]; exact HB14.out.next); clear hgrow hplace hst13; refine hK _ _ ?_))
  obtain ⟨w14, hw14⟩ : ∃ W, Hid (w13.setCell ⟨D.heap.size, 11, none⟩ (.slice A3 (l0 + 1) c3) = W) := ⟨_, Lib.hid rfl⟩
  obtain ⟨W15, hW15⟩ : ∃ W, Hid (w14.alloc (.cells (#[.int .i64 1, .int .i64 0, .int .i64 0, .string nm, .string ⟨#[]⟩, .int .i64 0, .int .i64 0, .slice none 0 0, .string ⟨#[]⟩, .int .i64 0, .slice none 0 0, .slice none 0 0, .slice none 0 0, .int .i64 5, .int .i64 0, .int .i64 0, .string ⟨#[]⟩, .string ⟨#[]⟩, .int .i64 0, .int .i64 0, .slice none 0 0, .string ⟨#[]⟩, .int .i64 0, .slice (some ⟨Wt63.heap.size, 0, none⟩) 1 1, .slice A3 (l0 + 1) c3, .slice none 0 0]) 75) = W) := ⟨_, Lib.hid rfl⟩
  rw [hw14.out] at HB14 HS14 HR14
  rw [hw14.out, hW15.out]
  have hb15 : Below w14.heap.size w14 W15 := by rw [← hW15.out]; exact (Below.refl _ _).alloc (Nat.le_refl _) _
  have hY15 : W15.heap[w14.heap.size]? = some (.cells (loopCells nm (some ⟨Wt63.heap.size, 0, none⟩) 1 1 A3 (l0 + 1) c3) 75 (0, 0)) := by rw [← hW15.out]; exact Array.getElem?_push_size
  have hfin := HB14.out.below hb15
  have hrow := HR14.out.keep (KeptX.below hb15).e
  have hsts := (HS14.out.row.keep (KeptX.below hb15)).mono (q := fun b => w.heap.size ≤ b) (fun b _ hb => Nat.le_trans hwU hb)
  go_ret
  unfold LoopMade
  have hz14 : w14.heap.size = w13.heap.size := by rw [← hw14.out]; simp [World.setCell]
  refine ⟨w13.heap.size, nm, (some ⟨Wt63.heap.size, 0, none⟩), A3, 1, 1, l0 + 1, c3, [3], ns ++ [1 + 1 + 3], _, rfl, by rw [← hz14]; exact HB14.out.went.size, hnm, by rw [← hz14]; exact hY15, hrow, by decide, hsts, Kin.trans (b := ⟨M, T, f, funcs, (cn + 1 : Nat), left, P, A1, Q, R, pl, pc, sl + 1, c1, ql, qc, rl, rc, A, len, cap⟩) ⟨rfl, rfl, rfl, rfl, rfl, rfl, rfl, rfl, rfl, rfl, Nat.le_succ _, Nat.le_refl _, Nat.le_refl _, by show (cn : Int) ≤ ((cn + 1 : Nat) : Int); omega⟩ HK5.out, hleft5, ?_, ?_, hfin.cx, hfin.went⟩
  ·dsimp only
   omega
  ·rw [List.sum_append]
   dsimp only
   simp only [List.sum_cons, List.sum_nil]
   omega
end Go.Proofs.YtchibamdkaejdaaDoor
