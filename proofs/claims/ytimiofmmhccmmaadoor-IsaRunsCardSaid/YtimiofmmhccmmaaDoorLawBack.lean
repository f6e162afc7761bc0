/-
  IsaBack: what is encoded is decoded again, and what is decoded encoded. Condition: the program's functions (see XIsaC).
-/
import Derived.Test.YtimiofmmhccmmaaDoorKnown
namespace Go.Proofs.YtimiofmmhccmmaaDoor
open Go.RowKit

/-- A call of the law returns true. -/
def Right (w : World) (e : Ending) (w' : World) : Prop := e = .returned (.bool true) ∧ Below w.heap.size w w'

set_option maxRecDepth 100000 in
set_option maxHeartbeats 2000000 in
theorem isaBack_any (i : Ins) (hi : i.Fits) (v : Int) (hv : I64 v) (w : World) (hw : VarsAt w) : Calls Tryd.prog 4 #[insV i, .int .i64 v] w (Right w) := by
  obtain ⟨x, hx⟩ : ∃ x, Hid (nearP i = x) := ⟨_, rfl⟩
  have hxo : x.Ok := hx.out ▸ nearP_ok i
  obtain ⟨hd1, hd2⟩ := dec_enc hxo
  have hxe := of_ok hxo
  have hxf := hxo.fits
  have hWf := encW_fits x
  obtain ⟨W, hW⟩ : ∃ W, Hid (encW x = W) := ⟨_, rfl⟩
  rw [hW.out] at hd1 hd2 hWf
  have hyf : (decI v).Fits := by
    by_cases h : encE (split v) = 0
    · rw [decI_yes h]; exact split_fits hv
    · rw [decI_no h]; exact ⟨⟨by decide, by decide⟩, ⟨by decide, by decide⟩, ⟨by decide, by decide⟩, ⟨by decide, by decide⟩, ⟨by decide, by decide⟩⟩
  have hed := Lib.hid (@enc_dec v)
  obtain ⟨y, hy⟩ : ∃ y, Hid (decI v = y) := ⟨_, rfl⟩
  have hcs := decE_cases v
  rw [hy.out] at hyf hed
  obtain ⟨g, hg⟩ : ∃ g, Hid (decE v = g) := ⟨_, rfl⟩
  rw [hg.out] at hcs hed
  obtain ⟨x0, x1, x2, x3, x4⟩ := x
  obtain ⟨y0, y1, y2, y3, y4⟩ := y
  have He := Lib.hid hxe
  have Hd1 := Lib.hid hd1
  have Hd2 := Lib.hid hd2
  clear hxe hd1 hd2 hxo
  go_enter Tryd.func4, Tryd.ntmps4
  go_wp2_with fail
  refine (near_any i hi _).mono ?_
  rintro e w1 ⟨rfl, hb1⟩
  rw [hx.out]
  have HB1 := Lib.hid (((Below.refl w.heap.size w).alloc (Nat.le_refl _) (.cells #[.int .i64 i.op, .int .i64 i.a, .int .i64 i.b, .int .i64 i.c, .int .i64 i.imm] 23)).trans (hb1.mono (by simp)))
  have hz1 : w.heap.size < w1.heap.size := by have := hb1.size; simp at this; omega
  clear hb1 hx hi
  go_wp2_with fail
  refine (encode_any ⟨_, _, _, _, _⟩ hxf _).mono ?_
  rintro e w2 ⟨rfl, hb2⟩
  rw [hW.out, He.out]
  -- GO
  have B5 := Lib.hid ((hb2.block w1.heap.size (by simp)).trans (heap_alloc_new w1 (.cells #[.int .i64 x0, .int .i64 x1, .int .i64 x2, .int .i64 x3, .int .i64 x4] 23)))
  have HB2 := Lib.hid ((HB1.out.alloc (by omega) (.cells #[.int .i64 x0, .int .i64 x1, .int .i64 x2, .int .i64 x3, .int .i64 x4] 23)).trans (hb2.mono (by simp; omega)))
  have hz2 : w1.heap.size < w2.heap.size := by have := hb2.size; simp at this; omega
  clear hb2 HB1
  go_wp2_with fail
  refine (decode_any W hWf _).mono ?_
  rintro e w3 ⟨rfl, hb3⟩
  rw [Hd1.out, Hd2.out]
  have C5 := Lib.hid ((hb3.block w1.heap.size (by omega)).trans B5.out)
  have HB3 := Lib.hid (HB2.out.trans (hb3.mono (by omega)))
  have hz3 : w2.heap.size ≤ w3.heap.size := hb3.size
  clear hb3 HB2 B5
  go_wp2_with fail
  refine (decode_any v hv _).mono ?_
  rintro e w4 ⟨rfl, hb4⟩
  rw [hy.out, hg.out]
  have B8 := Lib.hid ((hb4.block w3.heap.size (by simp)).trans (heap_alloc_new w3 (.cells #[.int .i64 x0, .int .i64 x1, .int .i64 x2, .int .i64 x3, .int .i64 x4] 23)))
  have HB4 := Lib.hid ((HB3.out.alloc (by omega) (.cells #[.int .i64 x0, .int .i64 x1, .int .i64 x2, .int .i64 x3, .int .i64 x4] 23)).trans (hb4.mono (by simp; omega)))
  have hz4 : w3.heap.size < w4.heap.size := by have := hb4.size; simp at this; omega
  have D5 := Lib.hid ((hb4.block w1.heap.size (by simp; omega)).trans ((Below.heap_alloc _ _ _ (by omega)).trans C5.out))
  clear hb4 HB3 C5
  go_wp2_with fail
  refine (encode_any ⟨_, _, _, _, _⟩ hyf _).mono ?_
  rintro e w5 ⟨rfl, hb5⟩
  have B10 := Lib.hid ((hb5.block w4.heap.size (by simp)).trans (heap_alloc_new w4 (.cells #[.int .i64 y0, .int .i64 y1, .int .i64 y2, .int .i64 y3, .int .i64 y4] 23)))
  have HB5 := Lib.hid ((HB4.out.alloc (by omega) (.cells #[.int .i64 y0, .int .i64 y1, .int .i64 y2, .int .i64 y3, .int .i64 y4] 23)).trans (hb5.mono (by simp; omega)))
  have hz5 : w4.heap.size < w5.heap.size := by have := hb5.size; simp at this; omega
  have E5 := Lib.hid ((hb5.block w1.heap.size (by simp; omega)).trans ((Below.heap_alloc _ _ _ (by omega)).trans D5.out))
  have E8 := Lib.hid ((hb5.block w3.heap.size (by simp; omega)).trans ((Below.heap_alloc _ _ _ (by omega)).trans B8.out))
  have hw5 : VarsAt w5 := hw.below ⟨HB5.out.os, HB5.out.tape, HB5.out.output, HB5.out.size, HB5.out.block⟩
  have k50 : w5.cell? ⟨w1.heap.size, 0, none⟩ = some (.int .i64 x0) := cell_of_row _ _ 0 _ _ _ E5.out
  have k51 : w5.cell? ⟨w1.heap.size, 1, none⟩ = some (.int .i64 x1) := cell_of_row _ _ 1 _ _ _ E5.out
  have k52 : w5.cell? ⟨w1.heap.size, 2, none⟩ = some (.int .i64 x2) := cell_of_row _ _ 2 _ _ _ E5.out
  have k53 : w5.cell? ⟨w1.heap.size, 3, none⟩ = some (.int .i64 x3) := cell_of_row _ _ 3 _ _ _ E5.out
  have k54 : w5.cell? ⟨w1.heap.size, 4, none⟩ = some (.int .i64 x4) := cell_of_row _ _ 4 _ _ _ E5.out
  have k80 : w5.cell? ⟨w3.heap.size, 0, none⟩ = some (.int .i64 x0) := cell_of_row _ _ 0 _ _ _ E8.out
  have k81 : w5.cell? ⟨w3.heap.size, 1, none⟩ = some (.int .i64 x1) := cell_of_row _ _ 1 _ _ _ E8.out
  have k82 : w5.cell? ⟨w3.heap.size, 2, none⟩ = some (.int .i64 x2) := cell_of_row _ _ 2 _ _ _ E8.out
  have k83 : w5.cell? ⟨w3.heap.size, 3, none⟩ = some (.int .i64 x3) := cell_of_row _ _ 3 _ _ _ E8.out
  have k84 : w5.cell? ⟨w3.heap.size, 4, none⟩ = some (.int .i64 x4) := cell_of_row _ _ 4 _ _ _ E8.out
  clear hb5 HB4 D5 B8 B10 hy hg hW He Hd1 Hd2
  rcases hcs with rfl | rfl
  · obtain ⟨q1, q2⟩ := hed.out rfl
    rw [q1, q2]
    clear hed q1 q2
    go_wp2_with (go_at_call 16; refine (known_any _ hw5).mono ?_; rintro e w6 ⟨rfl, hb6⟩)
    go_ret
    exact ⟨rfl, HB5.out.trans (hb6.mono (by have := HB5.out.size; omega))⟩
  · obtain ⟨G, hG⟩ : ∃ G, Hid (encE ⟨y0, y1, y2, y3, y4⟩ = G) := ⟨_, rfl⟩
    obtain ⟨Z, hZ⟩ : ∃ Z, Hid (encW ⟨y0, y1, y2, y3, y4⟩ = Z) := ⟨_, rfl⟩
    rw [hG.out, hZ.out]
    clear hed hG hZ
    go_wp2_with (go_at_call 16; refine (known_any _ hw5).mono ?_; rintro e w6 ⟨rfl, hb6⟩)
    go_ret
    exact ⟨rfl, HB5.out.trans (hb6.mono (by have := HB5.out.size; omega))⟩
end Go.Proofs.YtimiofmmhccmmaaDoor
