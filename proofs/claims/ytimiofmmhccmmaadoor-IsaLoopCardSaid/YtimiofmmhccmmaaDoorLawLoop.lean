/-
  IsaLoop: a program that adds the numbers from n down to 1. Condition: the program's functions.
-/
import Derived.Test.YtimiofmmhccmmaaDoorKnown
import Derived.Test.YtimiofmmhccmmaaDoorLoopP
import Derived.Test.YtimiofmmhccmmaaDoorNsame
namespace Go.Proofs.YtimiofmmhccmmaaDoor
open Go.RowKit

def loopI : List Ins := [⟨3, 0, 0, 0, 0⟩, ⟨22, 1, 0, 0, 5⟩, ⟨6, 0, 0, 1, 0⟩, ⟨18, 1, 1, 0, -1⟩, ⟨21, 0, 0, 0, 1⟩, ⟨25, 1, 0, 0, 0⟩, ⟨24, 0, 0, 0, 0⟩]
theorem loopI_fits : ∀ i ∈ loopI, i.Fits := by
  intro i hi
  simp only [loopI, List.mem_cons, List.not_mem_nil, or_false] at hi
  rcases hi with rfl | rfl | rfl | rfl | rfl | rfl | rfl <;> exact ⟨⟨by decide, by decide⟩, ⟨by decide, by decide⟩, ⟨by decide, by decide⟩, ⟨by decide, by decide⟩, ⟨by decide, by decide⟩⟩
theorem loopI_words : loopI.map encW = loopW := by decide +kernel
theorem loopW_fits (k : Nat) : I64 (loopW.getD k 0) := by
  match k with
  | 0 | 1 | 2 | 3 | 4 | 5 | 6 => exact ⟨by decide +kernel, by decide +kernel⟩
  | n + 7 => exact (⟨by decide, by decide⟩ : I64 0)
theorem loopI_at (w : World) (T : TypeId) : Inss (w.alloc (.cells #[.int .i64 3, .int .i64 0, .int .i64 0, .int .i64 0, .int .i64 0, .int .i64 22, .int .i64 1, .int .i64 0, .int .i64 0, .int .i64 5, .int .i64 6, .int .i64 0, .int .i64 0, .int .i64 1, .int .i64 0, .int .i64 18, .int .i64 1, .int .i64 1, .int .i64 0, .int .i64 (-1), .int .i64 21, .int .i64 0, .int .i64 0, .int .i64 0, .int .i64 1, .int .i64 25, .int .i64 1, .int .i64 0, .int .i64 0, .int .i64 0, .int .i64 24, .int .i64 0, .int .i64 0, .int .i64 0, .int .i64 0] T)) (some ⟨w.heap.size, 0, none⟩) 7 loopI :=
  ⟨loopI_fits, fun _ => ⟨w.heap.size, 0, rfl, by simp, fun k hk => by
    rw [World.cell?_alloc_at _ _ _ _ rfl, World.cell?_alloc_at _ _ _ _ rfl, World.cell?_alloc_at _ _ _ _ rfl, World.cell?_alloc_at _ _ _ _ rfl, World.cell?_alloc_at _ _ _ _ rfl]
    match k, hk with
    | 0, _ | 1, _ | 2, _ | 3, _ | 4, _ | 5, _ | 6, _ => exact ⟨rfl, rfl, rfl, rfl, rfl⟩⟩⟩
theorem nums_one (w : World) (a : Int) (ha : I64 a) (T : TypeId) : Nums (w.alloc (.cells #[.int .i64 a] T)) (some ⟨w.heap.size, 0, none⟩) 1 [a] :=
  ⟨fun n => by
    match n with
    | 0 => exact ha
    | n + 1 => exact (⟨by decide, by decide⟩ : I64 0), by simp, by simp [maxLen], fun h => (by cases h), fun _ => ⟨w.heap.size, 0, rfl, by simp, fun k hk => by
    rw [World.cell?_alloc_at _ _ _ _ rfl]
    match k, hk with
    | 0, _ => rfl⟩⟩
set_option maxRecDepth 100000 in
set_option maxHeartbeats 4000000 in
theorem isaLoop_any (n : Int) (hn : I64 n) (w : World) (hw : VarsAt w) : Calls Tryd.prog 9 #[.int .i64 n] w fun e w' => e = .returned (.bool true) ∧ Below w.heap.size w w' := by
  obtain ⟨hn0, hn1⟩ := hn
  obtain ⟨x, hx⟩ : ∃ y, Hid (n % 200 = y) := ⟨_, rfl⟩
  have x0 : 0 ≤ x := by rw [← hx.out]; exact Int.emod_nonneg _ (by decide)
  have x1 : x < 200 := by rw [← hx.out]; exact Int.emod_lt_of_pos _ (by decide)
  obtain ⟨k, rfl⟩ := Int.eq_ofNat_of_zero_le x0
  have HS := Lib.hid (loop_sum k (by omega))
  have HF := Lib.hid (loop_fuel k (by omega))
  obtain ⟨T, hT⟩ : ∃ y : Int, Hid ((k : Int) * (k + 1) / 2 = y) := ⟨_, rfl⟩
  rw [hT.out] at HS
  have hm : (k : Int) * (k + 1) ≤ 40000 := by
    have := Nat.mul_le_mul (show k ≤ 199 by omega) (show k + 1 ≤ 200 by omega)
    have h2 : ((k * (k + 1) : Nat) : Int) = (k : Int) * (k + 1) := by push_cast; rfl
    omega
  have hm0 : 0 ≤ (k : Int) * (k + 1) := Int.mul_nonneg (by omega) (by omega)
  have kf : I64 (k : Int) := ⟨by omega, by omega⟩
  have KF := Lib.hid kf
  clear kf
  go_enter Tryd.func9, Tryd.ntmps9
  go_wp2_with fail
  refine (modb_any n 200 _ hn1 (by decide) (by decide) k hx).mono ?_
  rintro e w' ⟨rfl, rfl⟩
  clear hx hn0 hn1
  go_wp2_with fail
  refine (words_any (some ⟨w.heap.size, 0, none⟩) 7 loopI _ (loopI_at w _) (by decide)).mono ?_
  rintro e w1 ⟨A, c, rfl, hown, hb1⟩
  rw [show loopI.length = 7 from rfl]
  have K1 := Lib.hid (show ∀ (W : World) (B : Option Addr), Nums W A c loopW → Nums W B 1 [(k : Int)] → Calls Tryd.prog 24 #[.slice A 7 c, .int .i64 60, .int .i64 0, .slice B 1 1, .int .i64 (4 * (k : Int) + 4)] W (RunOut W ⟨0, false, T, [0]⟩) from fun W B h1 h2 => by
    have := run_any A c loopW 60 0 B 1 [(k : Int)] (4 * (k : Int) + 4) W h1 h2 ⟨by decide, by decide⟩ (by decide)
    rw [HS.out] at this
    exact this)
  have K2 := Lib.hid (show ∀ (W : World) (B : Option Addr), Nums W A c loopW → Nums W B 1 [(k : Int)] → Calls Tryd.prog 24 #[.slice A 7 c, .int .i64 60, .int .i64 0, .slice B 1 1, .int .i64 (4 * (k : Int) + 3)] W (RunOut W ⟨13, false, 0, [0]⟩) from fun W B h1 h2 => by
    have := run_any A c loopW 60 0 B 1 [(k : Int)] (4 * (k : Int) + 3) W h1 h2 ⟨by decide, by decide⟩ (by decide)
    rw [HF.out] at this
    exact this)
  have NW := Lib.hid (nums_of_own (l := loopW) (fun k => loopW_fits k) (by rw [← loopI_words]; rw [List.length_map, List.map_map]; exact hown))
  have HB1 := Lib.hid (((Below.refl w.heap.size w).alloc (Nat.le_refl _) (.cells #[.int .i64 3, .int .i64 0, .int .i64 0, .int .i64 0, .int .i64 0, .int .i64 22, .int .i64 1, .int .i64 0, .int .i64 0, .int .i64 5, .int .i64 6, .int .i64 0, .int .i64 0, .int .i64 1, .int .i64 0, .int .i64 18, .int .i64 1, .int .i64 1, .int .i64 0, .int .i64 (-1), .int .i64 21, .int .i64 0, .int .i64 0, .int .i64 0, .int .i64 1, .int .i64 25, .int .i64 1, .int .i64 0, .int .i64 0, .int .i64 0, .int .i64 24, .int .i64 0, .int .i64 0, .int .i64 0, .int .i64 0] 23)).trans (hb1.mono (by simp)))
  clear hown hb1
  go_wp2_with fail
  refine (K1.out _ (some ⟨w1.heap.size, 0, none⟩) (NW.out.below ((Below.refl _ _).alloc (Nat.le_refl _) _)) (nums_one w1 k KF.out _)).mono ?_
  rintro e w2 ⟨A1, c1, rfl, hn1, hb2⟩
  have N1 := Lib.hid hn1
  have NW2 := Lib.hid ((NW.out.below ((Below.refl _ _).alloc (Nat.le_refl _) (.cells #[.int .i64 (k : Int)] 3))).below hb2)
  have HB2 := Lib.hid ((HB1.out.alloc HB1.out.size (.cells #[.int .i64 (k : Int)] 3)).trans (hb2.mono (by have := HB1.out.size; simp; omega)))
  have hz2 : w.heap.size ≤ w2.heap.size := HB2.out.size
  clear hn1 hb2 HB1 NW HS HF K1
  go_wp2_with fail
  have NB := nums_one (w2.alloc (.cells #[.int .i64 0, .bool false, .int .i64 T, .slice A1 1 c1] 48)) k KF.out 3
  rw [show (w2.alloc (.cells #[.int .i64 0, .bool false, .int .i64 T, .slice A1 1 c1] 48)).heap.size = w2.heap.size + 1 by simp] at NB
  have bT := Lib.hid (((Below.refl w2.heap.size w2).alloc (Nat.le_refl _) (.cells #[.int .i64 0, .bool false, .int .i64 T, .slice A1 1 c1] 48)).alloc (by simp) (.cells #[.int .i64 (k : Int)] 3))
  refine (K2.out _ (some ⟨w2.heap.size + 1, 0, none⟩) (NW2.out.below bT.out) NB).mono ?_
  rintro e w3 ⟨A2, c2, rfl, hn2, hb3⟩
  have N3 := Lib.hid ((N1.out.below bT.out).below hb3)
  have E3 := Lib.hid ((hb3.block w2.heap.size (by simp; omega)).trans (heap_alloc2_old w2 (.cells #[.int .i64 0, .bool false, .int .i64 T, .slice A1 1 c1] 48) (.cells #[.int .i64 (k : Int)] 3)))
  have HB3 := Lib.hid ((HB2.out.trans (bT.out.mono hz2)).trans (hb3.mono (by simp; omega)))
  have hz3 : w2.heap.size + 1 < w3.heap.size := by have := hb3.size; simp at this; omega
  clear hn2 hb3 HB2 N1 NW2 NB bT K2
  have q : ∀ (ob : Obj) (j : Nat), (w3.alloc ob).cell? ⟨w2.heap.size, j, none⟩ = (#[.int .i64 0, .bool false, .int .i64 T, .slice A1 1 c1] : Array Value)[j]? := fun ob j => cell_of_row _ _ j _ _ _ ((Below.heap_alloc w3 ob _ (by omega)).trans E3.out)
  have q0 := fun ob => q ob 0
  have q2 := fun ob => q ob 2
  have q3 := fun ob => q ob 3
  simp only [List.getElem?_toArray, List.getElem?_cons_zero, List.getElem?_cons_succ] at q0 q2 q3
  clear q
  have hq : (T == (k : Int) * (k + 1) / 2) = true := by rw [← hT.out]; simp
  go_wp2_with fail
  have NB := nums_one (w3.alloc (.cells #[.int .i64 13, .bool false, .int .i64 0, .slice A2 1 c2] 48)) 0 ⟨by decide, by decide⟩ 3
  rw [show (w3.alloc (.cells #[.int .i64 13, .bool false, .int .i64 0, .slice A2 1 c2] 48)).heap.size = w3.heap.size + 1 by simp] at NB
  have bT := Lib.hid (((Below.refl w3.heap.size w3).alloc (Nat.le_refl _) (.cells #[.int .i64 13, .bool false, .int .i64 0, .slice A2 1 c2] 48)).alloc (by simp) (.cells #[.int .i64 0] 3))
  refine (nums_same A1 (some ⟨w3.heap.size + 1, 0, none⟩) c1 1 [0] _ (N3.out.below bT.out) NB).mono ?_
  rintro e w4 ⟨rfl, hb4⟩
  have E4 := Lib.hid ((hb4.block w2.heap.size (by simp; omega)).trans ((bT.out.block w2.heap.size (by omega)).trans E3.out))
  have F4 := Lib.hid ((hb4.block w3.heap.size (by simp; omega)).trans (heap_alloc2_old w3 (.cells #[.int .i64 13, .bool false, .int .i64 0, .slice A2 1 c2] 48) (.cells #[.int .i64 0] 3)))
  have HB4 := Lib.hid ((HB3.out.trans (bT.out.mono (by omega))).trans (hb4.mono (by simp; omega)))
  clear hb4 bT NB N3 E3 HB3 q0 q2 q3 hq
  have r1 := cell_of_row _ _ 1 _ _ _ E4.out
  have r2 := cell_of_row _ _ 0 _ _ _ F4.out
  simp only [List.getElem?_toArray, List.getElem?_cons_zero, List.getElem?_cons_succ] at r1 r2
  go_wp2_with (go_at_call 16; refine (known_any _ (hw.below ⟨HB4.out.os, HB4.out.tape, HB4.out.output, HB4.out.size, HB4.out.block⟩)).mono ?_; rintro e w5 ⟨rfl, hb5⟩)
  go_ret
  exact ⟨rfl, HB4.out.trans (hb5.mono HB4.out.size)⟩
end Go.Proofs.YtimiofmmhccmmaaDoor
