/-
  What the specification's Text returns, instruction by instruction. Condition: fields of 64 bits.
-/
import Derived.Test.YtimiofmmhccmmaaDoorNames
namespace Go.Proofs.YtimiofmmhccmmaaDoor
open Go.RowKit

/-- A string's iterator is moved, and nothing else is turned. -/
structure SetI (g : Nat) (s : ByteArray) (pos : Nat) (w U : World) : Prop where
  os : U.os = w.os
  tape : U.tape = w.tape
  output : U.output = w.output
  size : U.heap.size = w.heap.size
  at_ : U.heap[g]? = some (.stringIter s pos)
  block : ∀ b, b ≠ g → U.heap[b]? = w.heap[b]?
theorem next_yes (w : World) (g : Nat) (s : ByteArray) (pos : Nat) (hg : w.heap[g]? = some (.stringIter s pos)) (h : pos < s.size) (ha : (s[pos]'h).toNat < 128) :
    ∃ U, SetI g s (pos + 1) w U ∧ ∀ ty, (Instr.next (.pointer (some ⟨g, 0, none⟩)) true ty).run Tryd.prog w = .ok (.tuple #[.bool true, .int .i64 pos, .int .i32 (s[pos]'h).toNat]) U := by
  have hlt : g < w.heap.size := (Array.getElem?_eq_some_iff.1 hg).1
  refine ⟨{ w with heap := w.heap.setIfInBounds g (.stringIter s (pos + 1)) }, ⟨rfl, rfl, rfl, by simp, by simp [hlt], fun b hb => by simp [Array.getElem?_setIfInBounds_ne (Ne.symm hb)]⟩, fun ty => ?_⟩
  simp only [Instr.next, getObj, setObj, Sem.run_bind, Sem.run, hg, Result.andThen, h, if_true, decode_ascii s pos h ha]
  simp [goInt]
theorem next_no (w : World) (g : Nat) (s : ByteArray) (pos : Nat) (ty : TypeId) (hg : w.heap[g]? = some (.stringIter s pos)) (h : ¬ pos < s.size) :
    (Instr.next (.pointer (some ⟨g, 0, none⟩)) true ty).run Tryd.prog w = .ok (.tuple #[.bool false]) w := by
  simp [Instr.next, getObj, Sem.run, hg, h]
theorem _root_.Go.RowKit.Below.setI {B g : Nat} {s : ByteArray} {p : Nat} {a w U : World} (h : Below B a w) (hN : B ≤ g) (hU : SetI g s p w U) : Below B a U :=
  ⟨hU.os.trans h.os, hU.tape.trans h.tape, hU.output.trans h.output, by rw [hU.size]; exact h.size, fun k hk => (hU.block k (by omega)).trans (h.block k hk)⟩
theorem itoa_len {n : Int} (h : I64 n) : (bs (Lib.itoa n)).size ≤ 20 := by
  rw [bs_size]
  unfold I64 at h
  have hk : ∀ m : Nat, m ≤ 9223372036854775808 → (Lib.decDigits m).length ≤ 19 := fun m hm => dec_len 19 m (by decide) (Nat.lt_of_le_of_lt hm (by decide))
  unfold Lib.itoa
  split
  · have := hk n.natAbs (by omega)
    simp; omega
  · have := hk n.toNat (by omega)
    omega
set_option maxRecDepth 100000 in
set_option maxHeartbeats 4000000 in
theorem refText_1 (a b c imm : Int) (hi : Ins.Fits ⟨1, a, b, c, imm⟩) (h : encE ⟨1, a, b, c, imm⟩ = 0) (w : World) : Calls Tryd.prog 15 #[insV ⟨1, a, b, c, imm⟩] w (GivesT w ([110, 111, 112])) := by
  have H := Lib.hid h
  have HI := Lib.hid hi
  obtain ⟨R, hR⟩ : ∃ s, Hid (bs ([110, 111, 112]) = s) := ⟨_, Lib.hid rfl⟩
  have hRe := Lib.hid (show bs [110, 111, 112] = R by
    rw [← hR.out])
  unfold GivesT
  rw [hR.out]
  clear h hi hR
  go_enter Tryd.func15, Tryd.ntmps15
  go_wp2_with fail
  refine (refEncode_any ⟨_, _, _, _, _⟩ HI.out _).mono ?_
  rintro e w1 ⟨rfl, hb1⟩
  rw [H.out]
  have B1 := Lib.hid ((hb1.block w.heap.size (by simp)).trans (heap_alloc_new w _))
  have HB1 := Lib.hid (((Below.refl w.heap.size w).alloc (Nat.le_refl _) (.cells #[.int .i64 1, .int .i64 a, .int .i64 b, .int .i64 c, .int .i64 imm] 23)).trans (hb1.mono (by simp)))
  have hz1 : w.heap.size < w1.heap.size := by have := hb1.size; simp at this; omega
  clear hb1
  go_wp2_with fail
  refine (names_any _).mono ?_
  rintro e w2 ⟨x, y, rfl, hx, hy, hx2, hy2, hN, hF, hb2⟩
  have B2 := Lib.hid ((hb2.block w.heap.size hz1).trans B1.out)
  have HB2 := Lib.hid (HB1.out.trans (hb2.mono (by omega)))
  have hz2 : w.heap.size < w2.heap.size := Nat.lt_of_lt_of_le hz1 hb2.size
  have k1 : w2.cell? ⟨x, 0, none⟩ = some (.string ⟨#[110, 111, 112]⟩) := cell_of_row _ _ 0 _ _ _ hN
  have k2 : w2.cell? ⟨y, 0, none⟩ = some (.string ⟨#[]⟩) := cell_of_row _ _ 0 _ _ _ hF
  have c0 := cell_of_row _ _ 0 _ _ _ B2.out
  simp only [List.getElem?_toArray, List.getElem?_cons_zero] at c0
  clear hN hF hb2 HB1 B1
  go_wp2_with fail
  clear k1 k2 c0 hx hy hx2 hy2
  have I0 := Lib.hid (World.iter_heap w2 ⟨#[]⟩ 0)
  have B3 := Lib.hid (show (w2.iter ⟨#[]⟩ 0).heap[w.heap.size]? = _ from (Below.heap_alloc w2 _ _ hz2).trans B2.out)
  have HB3 := Lib.hid (show Below w.heap.size w (w2.iter ⟨#[]⟩ 0) from HB2.out.alloc (Nat.le_of_lt hz2) _)
  have hg : w2.heap.size < (w2.iter ⟨#[]⟩ 0).heap.size := (by show w2.heap.size < (w2.alloc _).heap.size; simp)
  obtain ⟨V, hV⟩ : ∃ V, Hid (w2.iter ⟨#[]⟩ 0 = V) := ⟨_, Lib.hid rfl⟩
  rw [hV.out] at I0 B3 HB3 hg ⊢
  clear hV B2 HB2
  refine wp_loop_rounds 1 ?_
  have n0 := fun ty => next_no V w2.heap.size ⟨#[]⟩ 0 ty I0.out (by decide)
  rw [rounds_succ]
  go_wp2_with fail
  go_ret
  exact ⟨by rw [← hRe.out]; rfl, HB3.out⟩
set_option maxRecDepth 100000 in
set_option maxHeartbeats 4000000 in
theorem refText_2 (a b c imm : Int) (hi : Ins.Fits ⟨2, a, b, c, imm⟩) (h : encE ⟨2, a, b, c, imm⟩ = 0) (w : World) : Calls Tryd.prog 15 #[insV ⟨2, a, b, c, imm⟩] w (GivesT w ([98, 114, 101, 97, 107])) := by
  have H := Lib.hid h
  have HI := Lib.hid hi
  obtain ⟨R, hR⟩ : ∃ s, Hid (bs ([98, 114, 101, 97, 107]) = s) := ⟨_, Lib.hid rfl⟩
  have hRe := Lib.hid (show bs [98, 114, 101, 97, 107] = R by
    rw [← hR.out])
  unfold GivesT
  rw [hR.out]
  clear h hi hR
  go_enter Tryd.func15, Tryd.ntmps15
  go_wp2_with fail
  refine (refEncode_any ⟨_, _, _, _, _⟩ HI.out _).mono ?_
  rintro e w1 ⟨rfl, hb1⟩
  rw [H.out]
  have B1 := Lib.hid ((hb1.block w.heap.size (by simp)).trans (heap_alloc_new w _))
  have HB1 := Lib.hid (((Below.refl w.heap.size w).alloc (Nat.le_refl _) (.cells #[.int .i64 2, .int .i64 a, .int .i64 b, .int .i64 c, .int .i64 imm] 23)).trans (hb1.mono (by simp)))
  have hz1 : w.heap.size < w1.heap.size := by have := hb1.size; simp at this; omega
  clear hb1
  go_wp2_with fail
  refine (names_any _).mono ?_
  rintro e w2 ⟨x, y, rfl, hx, hy, hx2, hy2, hN, hF, hb2⟩
  have B2 := Lib.hid ((hb2.block w.heap.size hz1).trans B1.out)
  have HB2 := Lib.hid (HB1.out.trans (hb2.mono (by omega)))
  have hz2 : w.heap.size < w2.heap.size := Nat.lt_of_lt_of_le hz1 hb2.size
  have k1 : w2.cell? ⟨x, 1, none⟩ = some (.string ⟨#[98, 114, 101, 97, 107]⟩) := cell_of_row _ _ 1 _ _ _ hN
  have k2 : w2.cell? ⟨y, 1, none⟩ = some (.string ⟨#[]⟩) := cell_of_row _ _ 1 _ _ _ hF
  have c0 := cell_of_row _ _ 0 _ _ _ B2.out
  simp only [List.getElem?_toArray, List.getElem?_cons_zero] at c0
  clear hN hF hb2 HB1 B1
  go_wp2_with fail
  clear k1 k2 c0 hx hy hx2 hy2
  have I0 := Lib.hid (World.iter_heap w2 ⟨#[]⟩ 0)
  have B3 := Lib.hid (show (w2.iter ⟨#[]⟩ 0).heap[w.heap.size]? = _ from (Below.heap_alloc w2 _ _ hz2).trans B2.out)
  have HB3 := Lib.hid (show Below w.heap.size w (w2.iter ⟨#[]⟩ 0) from HB2.out.alloc (Nat.le_of_lt hz2) _)
  have hg : w2.heap.size < (w2.iter ⟨#[]⟩ 0).heap.size := (by show w2.heap.size < (w2.alloc _).heap.size; simp)
  obtain ⟨V, hV⟩ : ∃ V, Hid (w2.iter ⟨#[]⟩ 0 = V) := ⟨_, Lib.hid rfl⟩
  rw [hV.out] at I0 B3 HB3 hg ⊢
  clear hV B2 HB2
  refine wp_loop_rounds 1 ?_
  have n0 := fun ty => next_no V w2.heap.size ⟨#[]⟩ 0 ty I0.out (by decide)
  rw [rounds_succ]
  go_wp2_with fail
  go_ret
  exact ⟨by rw [← hRe.out]; rfl, HB3.out⟩
set_option maxRecDepth 100000 in
set_option maxHeartbeats 4000000 in
theorem refText_3 (a b c imm : Int) (hi : Ins.Fits ⟨3, a, b, c, imm⟩) (h : encE ⟨3, a, b, c, imm⟩ = 0) (w : World) : Calls Tryd.prog 15 #[insV ⟨3, a, b, c, imm⟩] w (GivesT w ([99, 111, 110, 115, 116] ++ regT a ++ 32 :: Lib.itoa imm)) := by
  have H := Lib.hid h
  have HI := Lib.hid hi
  obtain ⟨sa, hsa⟩ : ∃ s, Hid (bs (Lib.itoa a) = s) := ⟨_, Lib.hid rfl⟩
  have za : sa.size ≤ 20 := by rw [← hsa.out]; exact itoa_len hi.a
  have Da := Lib.hid (digits_any a hi.a)
  unfold GivesT at Da
  rw [hsa.out] at Da
  obtain ⟨si, hsi⟩ : ∃ s, Hid (bs (Lib.itoa imm) = s) := ⟨_, Lib.hid rfl⟩
  have zi : si.size ≤ 20 := by rw [← hsi.out]; exact itoa_len hi.imm
  have Di := Lib.hid (digits_any imm hi.imm)
  unfold GivesT at Di
  rw [hsi.out] at Di
  obtain ⟨R, hR⟩ : ∃ s, Hid (bs ([99, 111, 110, 115, 116] ++ regT a ++ 32 :: Lib.itoa imm) = s) := ⟨_, Lib.hid rfl⟩
  have hRe := Lib.hid (show bs [99, 111, 110, 115, 116] ++ bs [32, 114] ++ sa ++ bs [32] ++ si = R by
    rw [← hR.out]; simp only [← hsa.out, ← hsi.out, bs_append, regT, List.append_assoc, List.cons_append, List.nil_append])
  unfold GivesT
  rw [hR.out]
  clear h hi hR hsa hsi
  go_enter Tryd.func15, Tryd.ntmps15
  go_wp2_with fail
  refine (refEncode_any ⟨_, _, _, _, _⟩ HI.out _).mono ?_
  rintro e w1 ⟨rfl, hb1⟩
  rw [H.out]
  have B1 := Lib.hid ((hb1.block w.heap.size (by simp)).trans (heap_alloc_new w _))
  have HB1 := Lib.hid (((Below.refl w.heap.size w).alloc (Nat.le_refl _) (.cells #[.int .i64 3, .int .i64 a, .int .i64 b, .int .i64 c, .int .i64 imm] 23)).trans (hb1.mono (by simp)))
  have hz1 : w.heap.size < w1.heap.size := by have := hb1.size; simp at this; omega
  clear hb1
  go_wp2_with fail
  refine (names_any _).mono ?_
  rintro e w2 ⟨x, y, rfl, hx, hy, hx2, hy2, hN, hF, hb2⟩
  have B2 := Lib.hid ((hb2.block w.heap.size hz1).trans B1.out)
  have HB2 := Lib.hid (HB1.out.trans (hb2.mono (by omega)))
  have hz2 : w.heap.size < w2.heap.size := Nat.lt_of_lt_of_le hz1 hb2.size
  have k1 : w2.cell? ⟨x, 2, none⟩ = some (.string ⟨#[99, 111, 110, 115, 116]⟩) := cell_of_row _ _ 2 _ _ _ hN
  have k2 : w2.cell? ⟨y, 2, none⟩ = some (.string ⟨#[97, 105]⟩) := cell_of_row _ _ 2 _ _ _ hF
  have c0 := cell_of_row _ _ 0 _ _ _ B2.out
  simp only [List.getElem?_toArray, List.getElem?_cons_zero] at c0
  clear hN hF hb2 HB1 B1
  go_wp2_with fail
  clear k1 k2 c0 hx hy hx2 hy2
  have I0 := Lib.hid (World.iter_heap w2 ⟨#[97, 105]⟩ 0)
  have B3 := Lib.hid (show (w2.iter ⟨#[97, 105]⟩ 0).heap[w.heap.size]? = _ from (Below.heap_alloc w2 _ _ hz2).trans B2.out)
  have HB3 := Lib.hid (show Below w.heap.size w (w2.iter ⟨#[97, 105]⟩ 0) from HB2.out.alloc (Nat.le_of_lt hz2) _)
  have hg : w2.heap.size < (w2.iter ⟨#[97, 105]⟩ 0).heap.size := (by show w2.heap.size < (w2.alloc _).heap.size; simp)
  obtain ⟨V, hV⟩ : ∃ V, Hid (w2.iter ⟨#[97, 105]⟩ 0 = V) := ⟨_, Lib.hid rfl⟩
  rw [hV.out] at I0 B3 HB3 hg ⊢
  clear hV B2 HB2
  refine wp_loop_rounds 3 ?_
  obtain ⟨U0, hU0, n0⟩ := next_yes V w2.heap.size ⟨#[97, 105]⟩ 0 I0.out (by decide) (by decide)
  have I1 := Lib.hid hU0.at_
  have B1 := Lib.hid ((hU0.block w.heap.size (Nat.ne_of_lt hz2)).trans B3.out)
  have HB1 := Lib.hid (HB3.out.setI (Nat.le_of_lt hz2) hU0)
  have hg1 : w2.heap.size < U0.heap.size := by rw [hU0.size]; exact hg
  have cx := cell_of_row _ _ 1 _ _ _ B1.out
  simp only [List.getElem?_toArray, List.getElem?_cons_zero, List.getElem?_cons_succ] at cx
  clear hU0 I0 B3 HB3 hg
  rw [rounds_succ]
  go_wp2_with fail
  refine (Da.out _).mono ?_
  rintro e v0 ⟨rfl, hb⟩
  have I0 := Lib.hid ((hb.block w2.heap.size hg1).trans I1.out)
  have B3 := Lib.hid ((hb.block w.heap.size (Nat.lt_trans hz2 hg1)).trans B1.out)
  have HB3 := Lib.hid (HB1.out.trans (hb.mono (Nat.le_of_lt (Nat.lt_trans hz2 hg1))))
  have hg : w2.heap.size < v0.heap.size := Nat.lt_of_lt_of_le hg1 hb.size
  clear hb I1 B1 HB1 hg1 cx n0
  go_wp2_with fail
  obtain ⟨U1, hU1, n1⟩ := next_yes v0 w2.heap.size ⟨#[97, 105]⟩ 1 I0.out (by decide) (by decide)
  have I1 := Lib.hid hU1.at_
  have B1 := Lib.hid ((hU1.block w.heap.size (Nat.ne_of_lt hz2)).trans B3.out)
  have HB1 := Lib.hid (HB3.out.setI (Nat.le_of_lt hz2) hU1)
  have hg1 : w2.heap.size < U1.heap.size := by rw [hU1.size]; exact hg
  have cx := cell_of_row _ _ 4 _ _ _ B1.out
  simp only [List.getElem?_toArray, List.getElem?_cons_zero, List.getElem?_cons_succ] at cx
  clear hU1 I0 B3 HB3 hg
  rw [rounds_succ]
  go_wp2_with fail
  refine (Di.out _).mono ?_
  rintro e v1 ⟨rfl, hb⟩
  have I0 := Lib.hid ((hb.block w2.heap.size hg1).trans I1.out)
  have B3 := Lib.hid ((hb.block w.heap.size (Nat.lt_trans hz2 hg1)).trans B1.out)
  have HB3 := Lib.hid (HB1.out.trans (hb.mono (Nat.le_of_lt (Nat.lt_trans hz2 hg1))))
  have hg : w2.heap.size < v1.heap.size := Nat.lt_of_lt_of_le hg1 hb.size
  clear hb I1 B1 HB1 hg1 cx n1
  go_wp2_with fail
  have n2 := fun ty => next_no v1 w2.heap.size ⟨#[97, 105]⟩ 2 ty I0.out (by decide)
  rw [rounds_succ]
  go_wp2_with fail
  go_ret
  exact ⟨by rw [← hRe.out]; rfl, HB3.out⟩
set_option maxRecDepth 100000 in
set_option maxHeartbeats 4000000 in
theorem refText_4 (a b c imm : Int) (hi : Ins.Fits ⟨4, a, b, c, imm⟩) (h : encE ⟨4, a, b, c, imm⟩ = 0) (w : World) : Calls Tryd.prog 15 #[insV ⟨4, a, b, c, imm⟩] w (GivesT w ([112, 111, 111, 108] ++ regT a ++ 32 :: Lib.itoa imm)) := by
  have H := Lib.hid h
  have HI := Lib.hid hi
  obtain ⟨sa, hsa⟩ : ∃ s, Hid (bs (Lib.itoa a) = s) := ⟨_, Lib.hid rfl⟩
  have za : sa.size ≤ 20 := by rw [← hsa.out]; exact itoa_len hi.a
  have Da := Lib.hid (digits_any a hi.a)
  unfold GivesT at Da
  rw [hsa.out] at Da
  obtain ⟨si, hsi⟩ : ∃ s, Hid (bs (Lib.itoa imm) = s) := ⟨_, Lib.hid rfl⟩
  have zi : si.size ≤ 20 := by rw [← hsi.out]; exact itoa_len hi.imm
  have Di := Lib.hid (digits_any imm hi.imm)
  unfold GivesT at Di
  rw [hsi.out] at Di
  obtain ⟨R, hR⟩ : ∃ s, Hid (bs ([112, 111, 111, 108] ++ regT a ++ 32 :: Lib.itoa imm) = s) := ⟨_, Lib.hid rfl⟩
  have hRe := Lib.hid (show bs [112, 111, 111, 108] ++ bs [32, 114] ++ sa ++ bs [32] ++ si = R by
    rw [← hR.out]; simp only [← hsa.out, ← hsi.out, bs_append, regT, List.append_assoc, List.cons_append, List.nil_append])
  unfold GivesT
  rw [hR.out]
  clear h hi hR hsa hsi
  go_enter Tryd.func15, Tryd.ntmps15
  go_wp2_with fail
  refine (refEncode_any ⟨_, _, _, _, _⟩ HI.out _).mono ?_
  rintro e w1 ⟨rfl, hb1⟩
  rw [H.out]
  have B1 := Lib.hid ((hb1.block w.heap.size (by simp)).trans (heap_alloc_new w _))
  have HB1 := Lib.hid (((Below.refl w.heap.size w).alloc (Nat.le_refl _) (.cells #[.int .i64 4, .int .i64 a, .int .i64 b, .int .i64 c, .int .i64 imm] 23)).trans (hb1.mono (by simp)))
  have hz1 : w.heap.size < w1.heap.size := by have := hb1.size; simp at this; omega
  clear hb1
  go_wp2_with fail
  refine (names_any _).mono ?_
  rintro e w2 ⟨x, y, rfl, hx, hy, hx2, hy2, hN, hF, hb2⟩
  have B2 := Lib.hid ((hb2.block w.heap.size hz1).trans B1.out)
  have HB2 := Lib.hid (HB1.out.trans (hb2.mono (by omega)))
  have hz2 : w.heap.size < w2.heap.size := Nat.lt_of_lt_of_le hz1 hb2.size
  have k1 : w2.cell? ⟨x, 3, none⟩ = some (.string ⟨#[112, 111, 111, 108]⟩) := cell_of_row _ _ 3 _ _ _ hN
  have k2 : w2.cell? ⟨y, 3, none⟩ = some (.string ⟨#[97, 105]⟩) := cell_of_row _ _ 3 _ _ _ hF
  have c0 := cell_of_row _ _ 0 _ _ _ B2.out
  simp only [List.getElem?_toArray, List.getElem?_cons_zero] at c0
  clear hN hF hb2 HB1 B1
  go_wp2_with fail
  clear k1 k2 c0 hx hy hx2 hy2
  have I0 := Lib.hid (World.iter_heap w2 ⟨#[97, 105]⟩ 0)
  have B3 := Lib.hid (show (w2.iter ⟨#[97, 105]⟩ 0).heap[w.heap.size]? = _ from (Below.heap_alloc w2 _ _ hz2).trans B2.out)
  have HB3 := Lib.hid (show Below w.heap.size w (w2.iter ⟨#[97, 105]⟩ 0) from HB2.out.alloc (Nat.le_of_lt hz2) _)
  have hg : w2.heap.size < (w2.iter ⟨#[97, 105]⟩ 0).heap.size := (by show w2.heap.size < (w2.alloc _).heap.size; simp)
  obtain ⟨V, hV⟩ : ∃ V, Hid (w2.iter ⟨#[97, 105]⟩ 0 = V) := ⟨_, Lib.hid rfl⟩
  rw [hV.out] at I0 B3 HB3 hg ⊢
  clear hV B2 HB2
  refine wp_loop_rounds 3 ?_
  obtain ⟨U0, hU0, n0⟩ := next_yes V w2.heap.size ⟨#[97, 105]⟩ 0 I0.out (by decide) (by decide)
  have I1 := Lib.hid hU0.at_
  have B1 := Lib.hid ((hU0.block w.heap.size (Nat.ne_of_lt hz2)).trans B3.out)
  have HB1 := Lib.hid (HB3.out.setI (Nat.le_of_lt hz2) hU0)
  have hg1 : w2.heap.size < U0.heap.size := by rw [hU0.size]; exact hg
  have cx := cell_of_row _ _ 1 _ _ _ B1.out
  simp only [List.getElem?_toArray, List.getElem?_cons_zero, List.getElem?_cons_succ] at cx
  clear hU0 I0 B3 HB3 hg
  rw [rounds_succ]
  go_wp2_with fail
  refine (Da.out _).mono ?_
  rintro e v0 ⟨rfl, hb⟩
  have I0 := Lib.hid ((hb.block w2.heap.size hg1).trans I1.out)
  have B3 := Lib.hid ((hb.block w.heap.size (Nat.lt_trans hz2 hg1)).trans B1.out)
  have HB3 := Lib.hid (HB1.out.trans (hb.mono (Nat.le_of_lt (Nat.lt_trans hz2 hg1))))
  have hg : w2.heap.size < v0.heap.size := Nat.lt_of_lt_of_le hg1 hb.size
  clear hb I1 B1 HB1 hg1 cx n0
  go_wp2_with fail
  obtain ⟨U1, hU1, n1⟩ := next_yes v0 w2.heap.size ⟨#[97, 105]⟩ 1 I0.out (by decide) (by decide)
  have I1 := Lib.hid hU1.at_
  have B1 := Lib.hid ((hU1.block w.heap.size (Nat.ne_of_lt hz2)).trans B3.out)
  have HB1 := Lib.hid (HB3.out.setI (Nat.le_of_lt hz2) hU1)
  have hg1 : w2.heap.size < U1.heap.size := by rw [hU1.size]; exact hg
  have cx := cell_of_row _ _ 4 _ _ _ B1.out
  simp only [List.getElem?_toArray, List.getElem?_cons_zero, List.getElem?_cons_succ] at cx
  clear hU1 I0 B3 HB3 hg
  rw [rounds_succ]
  go_wp2_with fail
  refine (Di.out _).mono ?_
  rintro e v1 ⟨rfl, hb⟩
  have I0 := Lib.hid ((hb.block w2.heap.size hg1).trans I1.out)
  have B3 := Lib.hid ((hb.block w.heap.size (Nat.lt_trans hz2 hg1)).trans B1.out)
  have HB3 := Lib.hid (HB1.out.trans (hb.mono (Nat.le_of_lt (Nat.lt_trans hz2 hg1))))
  have hg : w2.heap.size < v1.heap.size := Nat.lt_of_lt_of_le hg1 hb.size
  clear hb I1 B1 HB1 hg1 cx n1
  go_wp2_with fail
  have n2 := fun ty => next_no v1 w2.heap.size ⟨#[97, 105]⟩ 2 ty I0.out (by decide)
  rw [rounds_succ]
  go_wp2_with fail
  go_ret
  exact ⟨by rw [← hRe.out]; rfl, HB3.out⟩
set_option maxRecDepth 100000 in
set_option maxHeartbeats 4000000 in
theorem refText_5 (a b c imm : Int) (hi : Ins.Fits ⟨5, a, b, c, imm⟩) (h : encE ⟨5, a, b, c, imm⟩ = 0) (w : World) : Calls Tryd.prog 15 #[insV ⟨5, a, b, c, imm⟩] w (GivesT w ([109, 111, 118, 101] ++ regT a ++ regT b)) := by
  have H := Lib.hid h
  have HI := Lib.hid hi
  obtain ⟨sa, hsa⟩ : ∃ s, Hid (bs (Lib.itoa a) = s) := ⟨_, Lib.hid rfl⟩
  have za : sa.size ≤ 20 := by rw [← hsa.out]; exact itoa_len hi.a
  have Da := Lib.hid (digits_any a hi.a)
  unfold GivesT at Da
  rw [hsa.out] at Da
  obtain ⟨sb, hsb⟩ : ∃ s, Hid (bs (Lib.itoa b) = s) := ⟨_, Lib.hid rfl⟩
  have zb : sb.size ≤ 20 := by rw [← hsb.out]; exact itoa_len hi.b
  have Db := Lib.hid (digits_any b hi.b)
  unfold GivesT at Db
  rw [hsb.out] at Db
  obtain ⟨R, hR⟩ : ∃ s, Hid (bs ([109, 111, 118, 101] ++ regT a ++ regT b) = s) := ⟨_, Lib.hid rfl⟩
  have hRe := Lib.hid (show bs [109, 111, 118, 101] ++ bs [32, 114] ++ sa ++ bs [32, 114] ++ sb = R by
    rw [← hR.out]; simp only [← hsa.out, ← hsb.out, bs_append, regT, List.append_assoc, List.cons_append, List.nil_append])
  unfold GivesT
  rw [hR.out]
  clear h hi hR hsa hsb
  go_enter Tryd.func15, Tryd.ntmps15
  go_wp2_with fail
  refine (refEncode_any ⟨_, _, _, _, _⟩ HI.out _).mono ?_
  rintro e w1 ⟨rfl, hb1⟩
  rw [H.out]
  have B1 := Lib.hid ((hb1.block w.heap.size (by simp)).trans (heap_alloc_new w _))
  have HB1 := Lib.hid (((Below.refl w.heap.size w).alloc (Nat.le_refl _) (.cells #[.int .i64 5, .int .i64 a, .int .i64 b, .int .i64 c, .int .i64 imm] 23)).trans (hb1.mono (by simp)))
  have hz1 : w.heap.size < w1.heap.size := by have := hb1.size; simp at this; omega
  clear hb1
  go_wp2_with fail
  refine (names_any _).mono ?_
  rintro e w2 ⟨x, y, rfl, hx, hy, hx2, hy2, hN, hF, hb2⟩
  have B2 := Lib.hid ((hb2.block w.heap.size hz1).trans B1.out)
  have HB2 := Lib.hid (HB1.out.trans (hb2.mono (by omega)))
  have hz2 : w.heap.size < w2.heap.size := Nat.lt_of_lt_of_le hz1 hb2.size
  have k1 : w2.cell? ⟨x, 4, none⟩ = some (.string ⟨#[109, 111, 118, 101]⟩) := cell_of_row _ _ 4 _ _ _ hN
  have k2 : w2.cell? ⟨y, 4, none⟩ = some (.string ⟨#[97, 98]⟩) := cell_of_row _ _ 4 _ _ _ hF
  have c0 := cell_of_row _ _ 0 _ _ _ B2.out
  simp only [List.getElem?_toArray, List.getElem?_cons_zero] at c0
  clear hN hF hb2 HB1 B1
  go_wp2_with fail
  clear k1 k2 c0 hx hy hx2 hy2
  have I0 := Lib.hid (World.iter_heap w2 ⟨#[97, 98]⟩ 0)
  have B3 := Lib.hid (show (w2.iter ⟨#[97, 98]⟩ 0).heap[w.heap.size]? = _ from (Below.heap_alloc w2 _ _ hz2).trans B2.out)
  have HB3 := Lib.hid (show Below w.heap.size w (w2.iter ⟨#[97, 98]⟩ 0) from HB2.out.alloc (Nat.le_of_lt hz2) _)
  have hg : w2.heap.size < (w2.iter ⟨#[97, 98]⟩ 0).heap.size := (by show w2.heap.size < (w2.alloc _).heap.size; simp)
  obtain ⟨V, hV⟩ : ∃ V, Hid (w2.iter ⟨#[97, 98]⟩ 0 = V) := ⟨_, Lib.hid rfl⟩
  rw [hV.out] at I0 B3 HB3 hg ⊢
  clear hV B2 HB2
  refine wp_loop_rounds 3 ?_
  obtain ⟨U0, hU0, n0⟩ := next_yes V w2.heap.size ⟨#[97, 98]⟩ 0 I0.out (by decide) (by decide)
  have I1 := Lib.hid hU0.at_
  have B1 := Lib.hid ((hU0.block w.heap.size (Nat.ne_of_lt hz2)).trans B3.out)
  have HB1 := Lib.hid (HB3.out.setI (Nat.le_of_lt hz2) hU0)
  have hg1 : w2.heap.size < U0.heap.size := by rw [hU0.size]; exact hg
  have cx := cell_of_row _ _ 1 _ _ _ B1.out
  simp only [List.getElem?_toArray, List.getElem?_cons_zero, List.getElem?_cons_succ] at cx
  clear hU0 I0 B3 HB3 hg
  rw [rounds_succ]
  go_wp2_with fail
  refine (Da.out _).mono ?_
  rintro e v0 ⟨rfl, hb⟩
  have I0 := Lib.hid ((hb.block w2.heap.size hg1).trans I1.out)
  have B3 := Lib.hid ((hb.block w.heap.size (Nat.lt_trans hz2 hg1)).trans B1.out)
  have HB3 := Lib.hid (HB1.out.trans (hb.mono (Nat.le_of_lt (Nat.lt_trans hz2 hg1))))
  have hg : w2.heap.size < v0.heap.size := Nat.lt_of_lt_of_le hg1 hb.size
  clear hb I1 B1 HB1 hg1 cx n0
  go_wp2_with fail
  obtain ⟨U1, hU1, n1⟩ := next_yes v0 w2.heap.size ⟨#[97, 98]⟩ 1 I0.out (by decide) (by decide)
  have I1 := Lib.hid hU1.at_
  have B1 := Lib.hid ((hU1.block w.heap.size (Nat.ne_of_lt hz2)).trans B3.out)
  have HB1 := Lib.hid (HB3.out.setI (Nat.le_of_lt hz2) hU1)
  have hg1 : w2.heap.size < U1.heap.size := by rw [hU1.size]; exact hg
  have cx := cell_of_row _ _ 2 _ _ _ B1.out
  simp only [List.getElem?_toArray, List.getElem?_cons_zero, List.getElem?_cons_succ] at cx
  clear hU1 I0 B3 HB3 hg
  rw [rounds_succ]
  go_wp2_with fail
  refine (Db.out _).mono ?_
  rintro e v1 ⟨rfl, hb⟩
  have I0 := Lib.hid ((hb.block w2.heap.size hg1).trans I1.out)
  have B3 := Lib.hid ((hb.block w.heap.size (Nat.lt_trans hz2 hg1)).trans B1.out)
  have HB3 := Lib.hid (HB1.out.trans (hb.mono (Nat.le_of_lt (Nat.lt_trans hz2 hg1))))
  have hg : w2.heap.size < v1.heap.size := Nat.lt_of_lt_of_le hg1 hb.size
  clear hb I1 B1 HB1 hg1 cx n1
  go_wp2_with fail
  have n2 := fun ty => next_no v1 w2.heap.size ⟨#[97, 98]⟩ 2 ty I0.out (by decide)
  rw [rounds_succ]
  go_wp2_with fail
  go_ret
  exact ⟨by rw [← hRe.out]; rfl, HB3.out⟩
set_option maxRecDepth 100000 in
set_option maxHeartbeats 4000000 in
theorem refText_6 (a b c imm : Int) (hi : Ins.Fits ⟨6, a, b, c, imm⟩) (h : encE ⟨6, a, b, c, imm⟩ = 0) (w : World) : Calls Tryd.prog 15 #[insV ⟨6, a, b, c, imm⟩] w (GivesT w ([97, 100, 100] ++ regT a ++ regT b ++ regT c)) := by
  have H := Lib.hid h
  have HI := Lib.hid hi
  obtain ⟨sa, hsa⟩ : ∃ s, Hid (bs (Lib.itoa a) = s) := ⟨_, Lib.hid rfl⟩
  have za : sa.size ≤ 20 := by rw [← hsa.out]; exact itoa_len hi.a
  have Da := Lib.hid (digits_any a hi.a)
  unfold GivesT at Da
  rw [hsa.out] at Da
  obtain ⟨sb, hsb⟩ : ∃ s, Hid (bs (Lib.itoa b) = s) := ⟨_, Lib.hid rfl⟩
  have zb : sb.size ≤ 20 := by rw [← hsb.out]; exact itoa_len hi.b
  have Db := Lib.hid (digits_any b hi.b)
  unfold GivesT at Db
  rw [hsb.out] at Db
  obtain ⟨sc, hsc⟩ : ∃ s, Hid (bs (Lib.itoa c) = s) := ⟨_, Lib.hid rfl⟩
  have zc : sc.size ≤ 20 := by rw [← hsc.out]; exact itoa_len hi.c
  have Dc := Lib.hid (digits_any c hi.c)
  unfold GivesT at Dc
  rw [hsc.out] at Dc
  obtain ⟨R, hR⟩ : ∃ s, Hid (bs ([97, 100, 100] ++ regT a ++ regT b ++ regT c) = s) := ⟨_, Lib.hid rfl⟩
  have hRe := Lib.hid (show bs [97, 100, 100] ++ bs [32, 114] ++ sa ++ bs [32, 114] ++ sb ++ bs [32, 114] ++ sc = R by
    rw [← hR.out]; simp only [← hsa.out, ← hsb.out, ← hsc.out, bs_append, regT, List.append_assoc, List.cons_append, List.nil_append])
  unfold GivesT
  rw [hR.out]
  clear h hi hR hsa hsb hsc
  go_enter Tryd.func15, Tryd.ntmps15
  go_wp2_with fail
  refine (refEncode_any ⟨_, _, _, _, _⟩ HI.out _).mono ?_
  rintro e w1 ⟨rfl, hb1⟩
  rw [H.out]
  have B1 := Lib.hid ((hb1.block w.heap.size (by simp)).trans (heap_alloc_new w _))
  have HB1 := Lib.hid (((Below.refl w.heap.size w).alloc (Nat.le_refl _) (.cells #[.int .i64 6, .int .i64 a, .int .i64 b, .int .i64 c, .int .i64 imm] 23)).trans (hb1.mono (by simp)))
  have hz1 : w.heap.size < w1.heap.size := by have := hb1.size; simp at this; omega
  clear hb1
  go_wp2_with fail
  refine (names_any _).mono ?_
  rintro e w2 ⟨x, y, rfl, hx, hy, hx2, hy2, hN, hF, hb2⟩
  have B2 := Lib.hid ((hb2.block w.heap.size hz1).trans B1.out)
  have HB2 := Lib.hid (HB1.out.trans (hb2.mono (by omega)))
  have hz2 : w.heap.size < w2.heap.size := Nat.lt_of_lt_of_le hz1 hb2.size
  have k1 : w2.cell? ⟨x, 5, none⟩ = some (.string ⟨#[97, 100, 100]⟩) := cell_of_row _ _ 5 _ _ _ hN
  have k2 : w2.cell? ⟨y, 5, none⟩ = some (.string ⟨#[97, 98, 99]⟩) := cell_of_row _ _ 5 _ _ _ hF
  have c0 := cell_of_row _ _ 0 _ _ _ B2.out
  simp only [List.getElem?_toArray, List.getElem?_cons_zero] at c0
  clear hN hF hb2 HB1 B1
  go_wp2_with fail
  clear k1 k2 c0 hx hy hx2 hy2
  have I0 := Lib.hid (World.iter_heap w2 ⟨#[97, 98, 99]⟩ 0)
  have B3 := Lib.hid (show (w2.iter ⟨#[97, 98, 99]⟩ 0).heap[w.heap.size]? = _ from (Below.heap_alloc w2 _ _ hz2).trans B2.out)
  have HB3 := Lib.hid (show Below w.heap.size w (w2.iter ⟨#[97, 98, 99]⟩ 0) from HB2.out.alloc (Nat.le_of_lt hz2) _)
  have hg : w2.heap.size < (w2.iter ⟨#[97, 98, 99]⟩ 0).heap.size := (by show w2.heap.size < (w2.alloc _).heap.size; simp)
  obtain ⟨V, hV⟩ : ∃ V, Hid (w2.iter ⟨#[97, 98, 99]⟩ 0 = V) := ⟨_, Lib.hid rfl⟩
  rw [hV.out] at I0 B3 HB3 hg ⊢
  clear hV B2 HB2
  refine wp_loop_rounds 4 ?_
  obtain ⟨U0, hU0, n0⟩ := next_yes V w2.heap.size ⟨#[97, 98, 99]⟩ 0 I0.out (by decide) (by decide)
  have I1 := Lib.hid hU0.at_
  have B1 := Lib.hid ((hU0.block w.heap.size (Nat.ne_of_lt hz2)).trans B3.out)
  have HB1 := Lib.hid (HB3.out.setI (Nat.le_of_lt hz2) hU0)
  have hg1 : w2.heap.size < U0.heap.size := by rw [hU0.size]; exact hg
  have cx := cell_of_row _ _ 1 _ _ _ B1.out
  simp only [List.getElem?_toArray, List.getElem?_cons_zero, List.getElem?_cons_succ] at cx
  clear hU0 I0 B3 HB3 hg
  rw [rounds_succ]
  go_wp2_with fail
  refine (Da.out _).mono ?_
  rintro e v0 ⟨rfl, hb⟩
  have I0 := Lib.hid ((hb.block w2.heap.size hg1).trans I1.out)
  have B3 := Lib.hid ((hb.block w.heap.size (Nat.lt_trans hz2 hg1)).trans B1.out)
  have HB3 := Lib.hid (HB1.out.trans (hb.mono (Nat.le_of_lt (Nat.lt_trans hz2 hg1))))
  have hg : w2.heap.size < v0.heap.size := Nat.lt_of_lt_of_le hg1 hb.size
  clear hb I1 B1 HB1 hg1 cx n0
  go_wp2_with fail
  obtain ⟨U1, hU1, n1⟩ := next_yes v0 w2.heap.size ⟨#[97, 98, 99]⟩ 1 I0.out (by decide) (by decide)
  have I1 := Lib.hid hU1.at_
  have B1 := Lib.hid ((hU1.block w.heap.size (Nat.ne_of_lt hz2)).trans B3.out)
  have HB1 := Lib.hid (HB3.out.setI (Nat.le_of_lt hz2) hU1)
  have hg1 : w2.heap.size < U1.heap.size := by rw [hU1.size]; exact hg
  have cx := cell_of_row _ _ 2 _ _ _ B1.out
  simp only [List.getElem?_toArray, List.getElem?_cons_zero, List.getElem?_cons_succ] at cx
  clear hU1 I0 B3 HB3 hg
  rw [rounds_succ]
  go_wp2_with fail
  refine (Db.out _).mono ?_
  rintro e v1 ⟨rfl, hb⟩
  have I0 := Lib.hid ((hb.block w2.heap.size hg1).trans I1.out)
  have B3 := Lib.hid ((hb.block w.heap.size (Nat.lt_trans hz2 hg1)).trans B1.out)
  have HB3 := Lib.hid (HB1.out.trans (hb.mono (Nat.le_of_lt (Nat.lt_trans hz2 hg1))))
  have hg : w2.heap.size < v1.heap.size := Nat.lt_of_lt_of_le hg1 hb.size
  clear hb I1 B1 HB1 hg1 cx n1
  go_wp2_with fail
  obtain ⟨U2, hU2, n2⟩ := next_yes v1 w2.heap.size ⟨#[97, 98, 99]⟩ 2 I0.out (by decide) (by decide)
  have I1 := Lib.hid hU2.at_
  have B1 := Lib.hid ((hU2.block w.heap.size (Nat.ne_of_lt hz2)).trans B3.out)
  have HB1 := Lib.hid (HB3.out.setI (Nat.le_of_lt hz2) hU2)
  have hg1 : w2.heap.size < U2.heap.size := by rw [hU2.size]; exact hg
  have cx := cell_of_row _ _ 3 _ _ _ B1.out
  simp only [List.getElem?_toArray, List.getElem?_cons_zero, List.getElem?_cons_succ] at cx
  clear hU2 I0 B3 HB3 hg
  rw [rounds_succ]
  go_wp2_with fail
  refine (Dc.out _).mono ?_
  rintro e v2 ⟨rfl, hb⟩
  have I0 := Lib.hid ((hb.block w2.heap.size hg1).trans I1.out)
  have B3 := Lib.hid ((hb.block w.heap.size (Nat.lt_trans hz2 hg1)).trans B1.out)
  have HB3 := Lib.hid (HB1.out.trans (hb.mono (Nat.le_of_lt (Nat.lt_trans hz2 hg1))))
  have hg : w2.heap.size < v2.heap.size := Nat.lt_of_lt_of_le hg1 hb.size
  clear hb I1 B1 HB1 hg1 cx n2
  go_wp2_with fail
  have n3 := fun ty => next_no v2 w2.heap.size ⟨#[97, 98, 99]⟩ 3 ty I0.out (by decide)
  rw [rounds_succ]
  go_wp2_with fail
  go_ret
  exact ⟨by rw [← hRe.out]; rfl, HB3.out⟩
set_option maxRecDepth 100000 in
set_option maxHeartbeats 4000000 in
theorem refText_7 (a b c imm : Int) (hi : Ins.Fits ⟨7, a, b, c, imm⟩) (h : encE ⟨7, a, b, c, imm⟩ = 0) (w : World) : Calls Tryd.prog 15 #[insV ⟨7, a, b, c, imm⟩] w (GivesT w ([115, 117, 98] ++ regT a ++ regT b ++ regT c)) := by
  have H := Lib.hid h
  have HI := Lib.hid hi
  obtain ⟨sa, hsa⟩ : ∃ s, Hid (bs (Lib.itoa a) = s) := ⟨_, Lib.hid rfl⟩
  have za : sa.size ≤ 20 := by rw [← hsa.out]; exact itoa_len hi.a
  have Da := Lib.hid (digits_any a hi.a)
  unfold GivesT at Da
  rw [hsa.out] at Da
  obtain ⟨sb, hsb⟩ : ∃ s, Hid (bs (Lib.itoa b) = s) := ⟨_, Lib.hid rfl⟩
  have zb : sb.size ≤ 20 := by rw [← hsb.out]; exact itoa_len hi.b
  have Db := Lib.hid (digits_any b hi.b)
  unfold GivesT at Db
  rw [hsb.out] at Db
  obtain ⟨sc, hsc⟩ : ∃ s, Hid (bs (Lib.itoa c) = s) := ⟨_, Lib.hid rfl⟩
  have zc : sc.size ≤ 20 := by rw [← hsc.out]; exact itoa_len hi.c
  have Dc := Lib.hid (digits_any c hi.c)
  unfold GivesT at Dc
  rw [hsc.out] at Dc
  obtain ⟨R, hR⟩ : ∃ s, Hid (bs ([115, 117, 98] ++ regT a ++ regT b ++ regT c) = s) := ⟨_, Lib.hid rfl⟩
  have hRe := Lib.hid (show bs [115, 117, 98] ++ bs [32, 114] ++ sa ++ bs [32, 114] ++ sb ++ bs [32, 114] ++ sc = R by
    rw [← hR.out]; simp only [← hsa.out, ← hsb.out, ← hsc.out, bs_append, regT, List.append_assoc, List.cons_append, List.nil_append])
  unfold GivesT
  rw [hR.out]
  clear h hi hR hsa hsb hsc
  go_enter Tryd.func15, Tryd.ntmps15
  go_wp2_with fail
  refine (refEncode_any ⟨_, _, _, _, _⟩ HI.out _).mono ?_
  rintro e w1 ⟨rfl, hb1⟩
  rw [H.out]
  have B1 := Lib.hid ((hb1.block w.heap.size (by simp)).trans (heap_alloc_new w _))
  have HB1 := Lib.hid (((Below.refl w.heap.size w).alloc (Nat.le_refl _) (.cells #[.int .i64 7, .int .i64 a, .int .i64 b, .int .i64 c, .int .i64 imm] 23)).trans (hb1.mono (by simp)))
  have hz1 : w.heap.size < w1.heap.size := by have := hb1.size; simp at this; omega
  clear hb1
  go_wp2_with fail
  refine (names_any _).mono ?_
  rintro e w2 ⟨x, y, rfl, hx, hy, hx2, hy2, hN, hF, hb2⟩
  have B2 := Lib.hid ((hb2.block w.heap.size hz1).trans B1.out)
  have HB2 := Lib.hid (HB1.out.trans (hb2.mono (by omega)))
  have hz2 : w.heap.size < w2.heap.size := Nat.lt_of_lt_of_le hz1 hb2.size
  have k1 : w2.cell? ⟨x, 6, none⟩ = some (.string ⟨#[115, 117, 98]⟩) := cell_of_row _ _ 6 _ _ _ hN
  have k2 : w2.cell? ⟨y, 6, none⟩ = some (.string ⟨#[97, 98, 99]⟩) := cell_of_row _ _ 6 _ _ _ hF
  have c0 := cell_of_row _ _ 0 _ _ _ B2.out
  simp only [List.getElem?_toArray, List.getElem?_cons_zero] at c0
  clear hN hF hb2 HB1 B1
  go_wp2_with fail
  clear k1 k2 c0 hx hy hx2 hy2
  have I0 := Lib.hid (World.iter_heap w2 ⟨#[97, 98, 99]⟩ 0)
  have B3 := Lib.hid (show (w2.iter ⟨#[97, 98, 99]⟩ 0).heap[w.heap.size]? = _ from (Below.heap_alloc w2 _ _ hz2).trans B2.out)
  have HB3 := Lib.hid (show Below w.heap.size w (w2.iter ⟨#[97, 98, 99]⟩ 0) from HB2.out.alloc (Nat.le_of_lt hz2) _)
  have hg : w2.heap.size < (w2.iter ⟨#[97, 98, 99]⟩ 0).heap.size := (by show w2.heap.size < (w2.alloc _).heap.size; simp)
  obtain ⟨V, hV⟩ : ∃ V, Hid (w2.iter ⟨#[97, 98, 99]⟩ 0 = V) := ⟨_, Lib.hid rfl⟩
  rw [hV.out] at I0 B3 HB3 hg ⊢
  clear hV B2 HB2
  refine wp_loop_rounds 4 ?_
  obtain ⟨U0, hU0, n0⟩ := next_yes V w2.heap.size ⟨#[97, 98, 99]⟩ 0 I0.out (by decide) (by decide)
  have I1 := Lib.hid hU0.at_
  have B1 := Lib.hid ((hU0.block w.heap.size (Nat.ne_of_lt hz2)).trans B3.out)
  have HB1 := Lib.hid (HB3.out.setI (Nat.le_of_lt hz2) hU0)
  have hg1 : w2.heap.size < U0.heap.size := by rw [hU0.size]; exact hg
  have cx := cell_of_row _ _ 1 _ _ _ B1.out
  simp only [List.getElem?_toArray, List.getElem?_cons_zero, List.getElem?_cons_succ] at cx
  clear hU0 I0 B3 HB3 hg
  rw [rounds_succ]
  go_wp2_with fail
  refine (Da.out _).mono ?_
  rintro e v0 ⟨rfl, hb⟩
  have I0 := Lib.hid ((hb.block w2.heap.size hg1).trans I1.out)
  have B3 := Lib.hid ((hb.block w.heap.size (Nat.lt_trans hz2 hg1)).trans B1.out)
  have HB3 := Lib.hid (HB1.out.trans (hb.mono (Nat.le_of_lt (Nat.lt_trans hz2 hg1))))
  have hg : w2.heap.size < v0.heap.size := Nat.lt_of_lt_of_le hg1 hb.size
  clear hb I1 B1 HB1 hg1 cx n0
  go_wp2_with fail
  obtain ⟨U1, hU1, n1⟩ := next_yes v0 w2.heap.size ⟨#[97, 98, 99]⟩ 1 I0.out (by decide) (by decide)
  have I1 := Lib.hid hU1.at_
  have B1 := Lib.hid ((hU1.block w.heap.size (Nat.ne_of_lt hz2)).trans B3.out)
  have HB1 := Lib.hid (HB3.out.setI (Nat.le_of_lt hz2) hU1)
  have hg1 : w2.heap.size < U1.heap.size := by rw [hU1.size]; exact hg
  have cx := cell_of_row _ _ 2 _ _ _ B1.out
  simp only [List.getElem?_toArray, List.getElem?_cons_zero, List.getElem?_cons_succ] at cx
  clear hU1 I0 B3 HB3 hg
  rw [rounds_succ]
  go_wp2_with fail
  refine (Db.out _).mono ?_
  rintro e v1 ⟨rfl, hb⟩
  have I0 := Lib.hid ((hb.block w2.heap.size hg1).trans I1.out)
  have B3 := Lib.hid ((hb.block w.heap.size (Nat.lt_trans hz2 hg1)).trans B1.out)
  have HB3 := Lib.hid (HB1.out.trans (hb.mono (Nat.le_of_lt (Nat.lt_trans hz2 hg1))))
  have hg : w2.heap.size < v1.heap.size := Nat.lt_of_lt_of_le hg1 hb.size
  clear hb I1 B1 HB1 hg1 cx n1
  go_wp2_with fail
  obtain ⟨U2, hU2, n2⟩ := next_yes v1 w2.heap.size ⟨#[97, 98, 99]⟩ 2 I0.out (by decide) (by decide)
  have I1 := Lib.hid hU2.at_
  have B1 := Lib.hid ((hU2.block w.heap.size (Nat.ne_of_lt hz2)).trans B3.out)
  have HB1 := Lib.hid (HB3.out.setI (Nat.le_of_lt hz2) hU2)
  have hg1 : w2.heap.size < U2.heap.size := by rw [hU2.size]; exact hg
  have cx := cell_of_row _ _ 3 _ _ _ B1.out
  simp only [List.getElem?_toArray, List.getElem?_cons_zero, List.getElem?_cons_succ] at cx
  clear hU2 I0 B3 HB3 hg
  rw [rounds_succ]
  go_wp2_with fail
  refine (Dc.out _).mono ?_
  rintro e v2 ⟨rfl, hb⟩
  have I0 := Lib.hid ((hb.block w2.heap.size hg1).trans I1.out)
  have B3 := Lib.hid ((hb.block w.heap.size (Nat.lt_trans hz2 hg1)).trans B1.out)
  have HB3 := Lib.hid (HB1.out.trans (hb.mono (Nat.le_of_lt (Nat.lt_trans hz2 hg1))))
  have hg : w2.heap.size < v2.heap.size := Nat.lt_of_lt_of_le hg1 hb.size
  clear hb I1 B1 HB1 hg1 cx n2
  go_wp2_with fail
  have n3 := fun ty => next_no v2 w2.heap.size ⟨#[97, 98, 99]⟩ 3 ty I0.out (by decide)
  rw [rounds_succ]
  go_wp2_with fail
  go_ret
  exact ⟨by rw [← hRe.out]; rfl, HB3.out⟩
set_option maxRecDepth 100000 in
set_option maxHeartbeats 4000000 in
theorem refText_8 (a b c imm : Int) (hi : Ins.Fits ⟨8, a, b, c, imm⟩) (h : encE ⟨8, a, b, c, imm⟩ = 0) (w : World) : Calls Tryd.prog 15 #[insV ⟨8, a, b, c, imm⟩] w (GivesT w ([109, 117, 108] ++ regT a ++ regT b ++ regT c)) := by
  have H := Lib.hid h
  have HI := Lib.hid hi
  obtain ⟨sa, hsa⟩ : ∃ s, Hid (bs (Lib.itoa a) = s) := ⟨_, Lib.hid rfl⟩
  have za : sa.size ≤ 20 := by rw [← hsa.out]; exact itoa_len hi.a
  have Da := Lib.hid (digits_any a hi.a)
  unfold GivesT at Da
  rw [hsa.out] at Da
  obtain ⟨sb, hsb⟩ : ∃ s, Hid (bs (Lib.itoa b) = s) := ⟨_, Lib.hid rfl⟩
  have zb : sb.size ≤ 20 := by rw [← hsb.out]; exact itoa_len hi.b
  have Db := Lib.hid (digits_any b hi.b)
  unfold GivesT at Db
  rw [hsb.out] at Db
  obtain ⟨sc, hsc⟩ : ∃ s, Hid (bs (Lib.itoa c) = s) := ⟨_, Lib.hid rfl⟩
  have zc : sc.size ≤ 20 := by rw [← hsc.out]; exact itoa_len hi.c
  have Dc := Lib.hid (digits_any c hi.c)
  unfold GivesT at Dc
  rw [hsc.out] at Dc
  obtain ⟨R, hR⟩ : ∃ s, Hid (bs ([109, 117, 108] ++ regT a ++ regT b ++ regT c) = s) := ⟨_, Lib.hid rfl⟩
  have hRe := Lib.hid (show bs [109, 117, 108] ++ bs [32, 114] ++ sa ++ bs [32, 114] ++ sb ++ bs [32, 114] ++ sc = R by
    rw [← hR.out]; simp only [← hsa.out, ← hsb.out, ← hsc.out, bs_append, regT, List.append_assoc, List.cons_append, List.nil_append])
  unfold GivesT
  rw [hR.out]
  clear h hi hR hsa hsb hsc
  go_enter Tryd.func15, Tryd.ntmps15
  go_wp2_with fail
  refine (refEncode_any ⟨_, _, _, _, _⟩ HI.out _).mono ?_
  rintro e w1 ⟨rfl, hb1⟩
  rw [H.out]
  have B1 := Lib.hid ((hb1.block w.heap.size (by simp)).trans (heap_alloc_new w _))
  have HB1 := Lib.hid (((Below.refl w.heap.size w).alloc (Nat.le_refl _) (.cells #[.int .i64 8, .int .i64 a, .int .i64 b, .int .i64 c, .int .i64 imm] 23)).trans (hb1.mono (by simp)))
  have hz1 : w.heap.size < w1.heap.size := by have := hb1.size; simp at this; omega
  clear hb1
  go_wp2_with fail
  refine (names_any _).mono ?_
  rintro e w2 ⟨x, y, rfl, hx, hy, hx2, hy2, hN, hF, hb2⟩
  have B2 := Lib.hid ((hb2.block w.heap.size hz1).trans B1.out)
  have HB2 := Lib.hid (HB1.out.trans (hb2.mono (by omega)))
  have hz2 : w.heap.size < w2.heap.size := Nat.lt_of_lt_of_le hz1 hb2.size
  have k1 : w2.cell? ⟨x, 7, none⟩ = some (.string ⟨#[109, 117, 108]⟩) := cell_of_row _ _ 7 _ _ _ hN
  have k2 : w2.cell? ⟨y, 7, none⟩ = some (.string ⟨#[97, 98, 99]⟩) := cell_of_row _ _ 7 _ _ _ hF
  have c0 := cell_of_row _ _ 0 _ _ _ B2.out
  simp only [List.getElem?_toArray, List.getElem?_cons_zero] at c0
  clear hN hF hb2 HB1 B1
  go_wp2_with fail
  clear k1 k2 c0 hx hy hx2 hy2
  have I0 := Lib.hid (World.iter_heap w2 ⟨#[97, 98, 99]⟩ 0)
  have B3 := Lib.hid (show (w2.iter ⟨#[97, 98, 99]⟩ 0).heap[w.heap.size]? = _ from (Below.heap_alloc w2 _ _ hz2).trans B2.out)
  have HB3 := Lib.hid (show Below w.heap.size w (w2.iter ⟨#[97, 98, 99]⟩ 0) from HB2.out.alloc (Nat.le_of_lt hz2) _)
  have hg : w2.heap.size < (w2.iter ⟨#[97, 98, 99]⟩ 0).heap.size := (by show w2.heap.size < (w2.alloc _).heap.size; simp)
  obtain ⟨V, hV⟩ : ∃ V, Hid (w2.iter ⟨#[97, 98, 99]⟩ 0 = V) := ⟨_, Lib.hid rfl⟩
  rw [hV.out] at I0 B3 HB3 hg ⊢
  clear hV B2 HB2
  refine wp_loop_rounds 4 ?_
  obtain ⟨U0, hU0, n0⟩ := next_yes V w2.heap.size ⟨#[97, 98, 99]⟩ 0 I0.out (by decide) (by decide)
  have I1 := Lib.hid hU0.at_
  have B1 := Lib.hid ((hU0.block w.heap.size (Nat.ne_of_lt hz2)).trans B3.out)
  have HB1 := Lib.hid (HB3.out.setI (Nat.le_of_lt hz2) hU0)
  have hg1 : w2.heap.size < U0.heap.size := by rw [hU0.size]; exact hg
  have cx := cell_of_row _ _ 1 _ _ _ B1.out
  simp only [List.getElem?_toArray, List.getElem?_cons_zero, List.getElem?_cons_succ] at cx
  clear hU0 I0 B3 HB3 hg
  rw [rounds_succ]
  go_wp2_with fail
  refine (Da.out _).mono ?_
  rintro e v0 ⟨rfl, hb⟩
  have I0 := Lib.hid ((hb.block w2.heap.size hg1).trans I1.out)
  have B3 := Lib.hid ((hb.block w.heap.size (Nat.lt_trans hz2 hg1)).trans B1.out)
  have HB3 := Lib.hid (HB1.out.trans (hb.mono (Nat.le_of_lt (Nat.lt_trans hz2 hg1))))
  have hg : w2.heap.size < v0.heap.size := Nat.lt_of_lt_of_le hg1 hb.size
  clear hb I1 B1 HB1 hg1 cx n0
  go_wp2_with fail
  obtain ⟨U1, hU1, n1⟩ := next_yes v0 w2.heap.size ⟨#[97, 98, 99]⟩ 1 I0.out (by decide) (by decide)
  have I1 := Lib.hid hU1.at_
  have B1 := Lib.hid ((hU1.block w.heap.size (Nat.ne_of_lt hz2)).trans B3.out)
  have HB1 := Lib.hid (HB3.out.setI (Nat.le_of_lt hz2) hU1)
  have hg1 : w2.heap.size < U1.heap.size := by rw [hU1.size]; exact hg
  have cx := cell_of_row _ _ 2 _ _ _ B1.out
  simp only [List.getElem?_toArray, List.getElem?_cons_zero, List.getElem?_cons_succ] at cx
  clear hU1 I0 B3 HB3 hg
  rw [rounds_succ]
  go_wp2_with fail
  refine (Db.out _).mono ?_
  rintro e v1 ⟨rfl, hb⟩
  have I0 := Lib.hid ((hb.block w2.heap.size hg1).trans I1.out)
  have B3 := Lib.hid ((hb.block w.heap.size (Nat.lt_trans hz2 hg1)).trans B1.out)
  have HB3 := Lib.hid (HB1.out.trans (hb.mono (Nat.le_of_lt (Nat.lt_trans hz2 hg1))))
  have hg : w2.heap.size < v1.heap.size := Nat.lt_of_lt_of_le hg1 hb.size
  clear hb I1 B1 HB1 hg1 cx n1
  go_wp2_with fail
  obtain ⟨U2, hU2, n2⟩ := next_yes v1 w2.heap.size ⟨#[97, 98, 99]⟩ 2 I0.out (by decide) (by decide)
  have I1 := Lib.hid hU2.at_
  have B1 := Lib.hid ((hU2.block w.heap.size (Nat.ne_of_lt hz2)).trans B3.out)
  have HB1 := Lib.hid (HB3.out.setI (Nat.le_of_lt hz2) hU2)
  have hg1 : w2.heap.size < U2.heap.size := by rw [hU2.size]; exact hg
  have cx := cell_of_row _ _ 3 _ _ _ B1.out
  simp only [List.getElem?_toArray, List.getElem?_cons_zero, List.getElem?_cons_succ] at cx
  clear hU2 I0 B3 HB3 hg
  rw [rounds_succ]
  go_wp2_with fail
  refine (Dc.out _).mono ?_
  rintro e v2 ⟨rfl, hb⟩
  have I0 := Lib.hid ((hb.block w2.heap.size hg1).trans I1.out)
  have B3 := Lib.hid ((hb.block w.heap.size (Nat.lt_trans hz2 hg1)).trans B1.out)
  have HB3 := Lib.hid (HB1.out.trans (hb.mono (Nat.le_of_lt (Nat.lt_trans hz2 hg1))))
  have hg : w2.heap.size < v2.heap.size := Nat.lt_of_lt_of_le hg1 hb.size
  clear hb I1 B1 HB1 hg1 cx n2
  go_wp2_with fail
  have n3 := fun ty => next_no v2 w2.heap.size ⟨#[97, 98, 99]⟩ 3 ty I0.out (by decide)
  rw [rounds_succ]
  go_wp2_with fail
  go_ret
  exact ⟨by rw [← hRe.out]; rfl, HB3.out⟩
set_option maxRecDepth 100000 in
set_option maxHeartbeats 4000000 in
theorem refText_9 (a b c imm : Int) (hi : Ins.Fits ⟨9, a, b, c, imm⟩) (h : encE ⟨9, a, b, c, imm⟩ = 0) (w : World) : Calls Tryd.prog 15 #[insV ⟨9, a, b, c, imm⟩] w (GivesT w ([100, 105, 118] ++ regT a ++ regT b ++ regT c)) := by
  have H := Lib.hid h
  have HI := Lib.hid hi
  obtain ⟨sa, hsa⟩ : ∃ s, Hid (bs (Lib.itoa a) = s) := ⟨_, Lib.hid rfl⟩
  have za : sa.size ≤ 20 := by rw [← hsa.out]; exact itoa_len hi.a
  have Da := Lib.hid (digits_any a hi.a)
  unfold GivesT at Da
  rw [hsa.out] at Da
  obtain ⟨sb, hsb⟩ : ∃ s, Hid (bs (Lib.itoa b) = s) := ⟨_, Lib.hid rfl⟩
  have zb : sb.size ≤ 20 := by rw [← hsb.out]; exact itoa_len hi.b
  have Db := Lib.hid (digits_any b hi.b)
  unfold GivesT at Db
  rw [hsb.out] at Db
  obtain ⟨sc, hsc⟩ : ∃ s, Hid (bs (Lib.itoa c) = s) := ⟨_, Lib.hid rfl⟩
  have zc : sc.size ≤ 20 := by rw [← hsc.out]; exact itoa_len hi.c
  have Dc := Lib.hid (digits_any c hi.c)
  unfold GivesT at Dc
  rw [hsc.out] at Dc
  obtain ⟨R, hR⟩ : ∃ s, Hid (bs ([100, 105, 118] ++ regT a ++ regT b ++ regT c) = s) := ⟨_, Lib.hid rfl⟩
  have hRe := Lib.hid (show bs [100, 105, 118] ++ bs [32, 114] ++ sa ++ bs [32, 114] ++ sb ++ bs [32, 114] ++ sc = R by
    rw [← hR.out]; simp only [← hsa.out, ← hsb.out, ← hsc.out, bs_append, regT, List.append_assoc, List.cons_append, List.nil_append])
  unfold GivesT
  rw [hR.out]
  clear h hi hR hsa hsb hsc
  go_enter Tryd.func15, Tryd.ntmps15
  go_wp2_with fail
  refine (refEncode_any ⟨_, _, _, _, _⟩ HI.out _).mono ?_
  rintro e w1 ⟨rfl, hb1⟩
  rw [H.out]
  have B1 := Lib.hid ((hb1.block w.heap.size (by simp)).trans (heap_alloc_new w _))
  have HB1 := Lib.hid (((Below.refl w.heap.size w).alloc (Nat.le_refl _) (.cells #[.int .i64 9, .int .i64 a, .int .i64 b, .int .i64 c, .int .i64 imm] 23)).trans (hb1.mono (by simp)))
  have hz1 : w.heap.size < w1.heap.size := by have := hb1.size; simp at this; omega
  clear hb1
  go_wp2_with fail
  refine (names_any _).mono ?_
  rintro e w2 ⟨x, y, rfl, hx, hy, hx2, hy2, hN, hF, hb2⟩
  have B2 := Lib.hid ((hb2.block w.heap.size hz1).trans B1.out)
  have HB2 := Lib.hid (HB1.out.trans (hb2.mono (by omega)))
  have hz2 : w.heap.size < w2.heap.size := Nat.lt_of_lt_of_le hz1 hb2.size
  have k1 : w2.cell? ⟨x, 8, none⟩ = some (.string ⟨#[100, 105, 118]⟩) := cell_of_row _ _ 8 _ _ _ hN
  have k2 : w2.cell? ⟨y, 8, none⟩ = some (.string ⟨#[97, 98, 99]⟩) := cell_of_row _ _ 8 _ _ _ hF
  have c0 := cell_of_row _ _ 0 _ _ _ B2.out
  simp only [List.getElem?_toArray, List.getElem?_cons_zero] at c0
  clear hN hF hb2 HB1 B1
  go_wp2_with fail
  clear k1 k2 c0 hx hy hx2 hy2
  have I0 := Lib.hid (World.iter_heap w2 ⟨#[97, 98, 99]⟩ 0)
  have B3 := Lib.hid (show (w2.iter ⟨#[97, 98, 99]⟩ 0).heap[w.heap.size]? = _ from (Below.heap_alloc w2 _ _ hz2).trans B2.out)
  have HB3 := Lib.hid (show Below w.heap.size w (w2.iter ⟨#[97, 98, 99]⟩ 0) from HB2.out.alloc (Nat.le_of_lt hz2) _)
  have hg : w2.heap.size < (w2.iter ⟨#[97, 98, 99]⟩ 0).heap.size := (by show w2.heap.size < (w2.alloc _).heap.size; simp)
  obtain ⟨V, hV⟩ : ∃ V, Hid (w2.iter ⟨#[97, 98, 99]⟩ 0 = V) := ⟨_, Lib.hid rfl⟩
  rw [hV.out] at I0 B3 HB3 hg ⊢
  clear hV B2 HB2
  refine wp_loop_rounds 4 ?_
  obtain ⟨U0, hU0, n0⟩ := next_yes V w2.heap.size ⟨#[97, 98, 99]⟩ 0 I0.out (by decide) (by decide)
  have I1 := Lib.hid hU0.at_
  have B1 := Lib.hid ((hU0.block w.heap.size (Nat.ne_of_lt hz2)).trans B3.out)
  have HB1 := Lib.hid (HB3.out.setI (Nat.le_of_lt hz2) hU0)
  have hg1 : w2.heap.size < U0.heap.size := by rw [hU0.size]; exact hg
  have cx := cell_of_row _ _ 1 _ _ _ B1.out
  simp only [List.getElem?_toArray, List.getElem?_cons_zero, List.getElem?_cons_succ] at cx
  clear hU0 I0 B3 HB3 hg
  rw [rounds_succ]
  go_wp2_with fail
  refine (Da.out _).mono ?_
  rintro e v0 ⟨rfl, hb⟩
  have I0 := Lib.hid ((hb.block w2.heap.size hg1).trans I1.out)
  have B3 := Lib.hid ((hb.block w.heap.size (Nat.lt_trans hz2 hg1)).trans B1.out)
  have HB3 := Lib.hid (HB1.out.trans (hb.mono (Nat.le_of_lt (Nat.lt_trans hz2 hg1))))
  have hg : w2.heap.size < v0.heap.size := Nat.lt_of_lt_of_le hg1 hb.size
  clear hb I1 B1 HB1 hg1 cx n0
  go_wp2_with fail
  obtain ⟨U1, hU1, n1⟩ := next_yes v0 w2.heap.size ⟨#[97, 98, 99]⟩ 1 I0.out (by decide) (by decide)
  have I1 := Lib.hid hU1.at_
  have B1 := Lib.hid ((hU1.block w.heap.size (Nat.ne_of_lt hz2)).trans B3.out)
  have HB1 := Lib.hid (HB3.out.setI (Nat.le_of_lt hz2) hU1)
  have hg1 : w2.heap.size < U1.heap.size := by rw [hU1.size]; exact hg
  have cx := cell_of_row _ _ 2 _ _ _ B1.out
  simp only [List.getElem?_toArray, List.getElem?_cons_zero, List.getElem?_cons_succ] at cx
  clear hU1 I0 B3 HB3 hg
  rw [rounds_succ]
  go_wp2_with fail
  refine (Db.out _).mono ?_
  rintro e v1 ⟨rfl, hb⟩
  have I0 := Lib.hid ((hb.block w2.heap.size hg1).trans I1.out)
  have B3 := Lib.hid ((hb.block w.heap.size (Nat.lt_trans hz2 hg1)).trans B1.out)
  have HB3 := Lib.hid (HB1.out.trans (hb.mono (Nat.le_of_lt (Nat.lt_trans hz2 hg1))))
  have hg : w2.heap.size < v1.heap.size := Nat.lt_of_lt_of_le hg1 hb.size
  clear hb I1 B1 HB1 hg1 cx n1
  go_wp2_with fail
  obtain ⟨U2, hU2, n2⟩ := next_yes v1 w2.heap.size ⟨#[97, 98, 99]⟩ 2 I0.out (by decide) (by decide)
  have I1 := Lib.hid hU2.at_
  have B1 := Lib.hid ((hU2.block w.heap.size (Nat.ne_of_lt hz2)).trans B3.out)
  have HB1 := Lib.hid (HB3.out.setI (Nat.le_of_lt hz2) hU2)
  have hg1 : w2.heap.size < U2.heap.size := by rw [hU2.size]; exact hg
  have cx := cell_of_row _ _ 3 _ _ _ B1.out
  simp only [List.getElem?_toArray, List.getElem?_cons_zero, List.getElem?_cons_succ] at cx
  clear hU2 I0 B3 HB3 hg
  rw [rounds_succ]
  go_wp2_with fail
  refine (Dc.out _).mono ?_
  rintro e v2 ⟨rfl, hb⟩
  have I0 := Lib.hid ((hb.block w2.heap.size hg1).trans I1.out)
  have B3 := Lib.hid ((hb.block w.heap.size (Nat.lt_trans hz2 hg1)).trans B1.out)
  have HB3 := Lib.hid (HB1.out.trans (hb.mono (Nat.le_of_lt (Nat.lt_trans hz2 hg1))))
  have hg : w2.heap.size < v2.heap.size := Nat.lt_of_lt_of_le hg1 hb.size
  clear hb I1 B1 HB1 hg1 cx n2
  go_wp2_with fail
  have n3 := fun ty => next_no v2 w2.heap.size ⟨#[97, 98, 99]⟩ 3 ty I0.out (by decide)
  rw [rounds_succ]
  go_wp2_with fail
  go_ret
  exact ⟨by rw [← hRe.out]; rfl, HB3.out⟩
set_option maxRecDepth 100000 in
set_option maxHeartbeats 4000000 in
theorem refText_10 (a b c imm : Int) (hi : Ins.Fits ⟨10, a, b, c, imm⟩) (h : encE ⟨10, a, b, c, imm⟩ = 0) (w : World) : Calls Tryd.prog 15 #[insV ⟨10, a, b, c, imm⟩] w (GivesT w ([109, 111, 100] ++ regT a ++ regT b ++ regT c)) := by
  have H := Lib.hid h
  have HI := Lib.hid hi
  obtain ⟨sa, hsa⟩ : ∃ s, Hid (bs (Lib.itoa a) = s) := ⟨_, Lib.hid rfl⟩
  have za : sa.size ≤ 20 := by rw [← hsa.out]; exact itoa_len hi.a
  have Da := Lib.hid (digits_any a hi.a)
  unfold GivesT at Da
  rw [hsa.out] at Da
  obtain ⟨sb, hsb⟩ : ∃ s, Hid (bs (Lib.itoa b) = s) := ⟨_, Lib.hid rfl⟩
  have zb : sb.size ≤ 20 := by rw [← hsb.out]; exact itoa_len hi.b
  have Db := Lib.hid (digits_any b hi.b)
  unfold GivesT at Db
  rw [hsb.out] at Db
  obtain ⟨sc, hsc⟩ : ∃ s, Hid (bs (Lib.itoa c) = s) := ⟨_, Lib.hid rfl⟩
  have zc : sc.size ≤ 20 := by rw [← hsc.out]; exact itoa_len hi.c
  have Dc := Lib.hid (digits_any c hi.c)
  unfold GivesT at Dc
  rw [hsc.out] at Dc
  obtain ⟨R, hR⟩ : ∃ s, Hid (bs ([109, 111, 100] ++ regT a ++ regT b ++ regT c) = s) := ⟨_, Lib.hid rfl⟩
  have hRe := Lib.hid (show bs [109, 111, 100] ++ bs [32, 114] ++ sa ++ bs [32, 114] ++ sb ++ bs [32, 114] ++ sc = R by
    rw [← hR.out]; simp only [← hsa.out, ← hsb.out, ← hsc.out, bs_append, regT, List.append_assoc, List.cons_append, List.nil_append])
  unfold GivesT
  rw [hR.out]
  clear h hi hR hsa hsb hsc
  go_enter Tryd.func15, Tryd.ntmps15
  go_wp2_with fail
  refine (refEncode_any ⟨_, _, _, _, _⟩ HI.out _).mono ?_
  rintro e w1 ⟨rfl, hb1⟩
  rw [H.out]
  have B1 := Lib.hid ((hb1.block w.heap.size (by simp)).trans (heap_alloc_new w _))
  have HB1 := Lib.hid (((Below.refl w.heap.size w).alloc (Nat.le_refl _) (.cells #[.int .i64 10, .int .i64 a, .int .i64 b, .int .i64 c, .int .i64 imm] 23)).trans (hb1.mono (by simp)))
  have hz1 : w.heap.size < w1.heap.size := by have := hb1.size; simp at this; omega
  clear hb1
  go_wp2_with fail
  refine (names_any _).mono ?_
  rintro e w2 ⟨x, y, rfl, hx, hy, hx2, hy2, hN, hF, hb2⟩
  have B2 := Lib.hid ((hb2.block w.heap.size hz1).trans B1.out)
  have HB2 := Lib.hid (HB1.out.trans (hb2.mono (by omega)))
  have hz2 : w.heap.size < w2.heap.size := Nat.lt_of_lt_of_le hz1 hb2.size
  have k1 : w2.cell? ⟨x, 9, none⟩ = some (.string ⟨#[109, 111, 100]⟩) := cell_of_row _ _ 9 _ _ _ hN
  have k2 : w2.cell? ⟨y, 9, none⟩ = some (.string ⟨#[97, 98, 99]⟩) := cell_of_row _ _ 9 _ _ _ hF
  have c0 := cell_of_row _ _ 0 _ _ _ B2.out
  simp only [List.getElem?_toArray, List.getElem?_cons_zero] at c0
  clear hN hF hb2 HB1 B1
  go_wp2_with fail
  clear k1 k2 c0 hx hy hx2 hy2
  have I0 := Lib.hid (World.iter_heap w2 ⟨#[97, 98, 99]⟩ 0)
  have B3 := Lib.hid (show (w2.iter ⟨#[97, 98, 99]⟩ 0).heap[w.heap.size]? = _ from (Below.heap_alloc w2 _ _ hz2).trans B2.out)
  have HB3 := Lib.hid (show Below w.heap.size w (w2.iter ⟨#[97, 98, 99]⟩ 0) from HB2.out.alloc (Nat.le_of_lt hz2) _)
  have hg : w2.heap.size < (w2.iter ⟨#[97, 98, 99]⟩ 0).heap.size := (by show w2.heap.size < (w2.alloc _).heap.size; simp)
  obtain ⟨V, hV⟩ : ∃ V, Hid (w2.iter ⟨#[97, 98, 99]⟩ 0 = V) := ⟨_, Lib.hid rfl⟩
  rw [hV.out] at I0 B3 HB3 hg ⊢
  clear hV B2 HB2
  refine wp_loop_rounds 4 ?_
  obtain ⟨U0, hU0, n0⟩ := next_yes V w2.heap.size ⟨#[97, 98, 99]⟩ 0 I0.out (by decide) (by decide)
  have I1 := Lib.hid hU0.at_
  have B1 := Lib.hid ((hU0.block w.heap.size (Nat.ne_of_lt hz2)).trans B3.out)
  have HB1 := Lib.hid (HB3.out.setI (Nat.le_of_lt hz2) hU0)
  have hg1 : w2.heap.size < U0.heap.size := by rw [hU0.size]; exact hg
  have cx := cell_of_row _ _ 1 _ _ _ B1.out
  simp only [List.getElem?_toArray, List.getElem?_cons_zero, List.getElem?_cons_succ] at cx
  clear hU0 I0 B3 HB3 hg
  rw [rounds_succ]
  go_wp2_with fail
  refine (Da.out _).mono ?_
  rintro e v0 ⟨rfl, hb⟩
  have I0 := Lib.hid ((hb.block w2.heap.size hg1).trans I1.out)
  have B3 := Lib.hid ((hb.block w.heap.size (Nat.lt_trans hz2 hg1)).trans B1.out)
  have HB3 := Lib.hid (HB1.out.trans (hb.mono (Nat.le_of_lt (Nat.lt_trans hz2 hg1))))
  have hg : w2.heap.size < v0.heap.size := Nat.lt_of_lt_of_le hg1 hb.size
  clear hb I1 B1 HB1 hg1 cx n0
  go_wp2_with fail
  obtain ⟨U1, hU1, n1⟩ := next_yes v0 w2.heap.size ⟨#[97, 98, 99]⟩ 1 I0.out (by decide) (by decide)
  have I1 := Lib.hid hU1.at_
  have B1 := Lib.hid ((hU1.block w.heap.size (Nat.ne_of_lt hz2)).trans B3.out)
  have HB1 := Lib.hid (HB3.out.setI (Nat.le_of_lt hz2) hU1)
  have hg1 : w2.heap.size < U1.heap.size := by rw [hU1.size]; exact hg
  have cx := cell_of_row _ _ 2 _ _ _ B1.out
  simp only [List.getElem?_toArray, List.getElem?_cons_zero, List.getElem?_cons_succ] at cx
  clear hU1 I0 B3 HB3 hg
  rw [rounds_succ]
  go_wp2_with fail
  refine (Db.out _).mono ?_
  rintro e v1 ⟨rfl, hb⟩
  have I0 := Lib.hid ((hb.block w2.heap.size hg1).trans I1.out)
  have B3 := Lib.hid ((hb.block w.heap.size (Nat.lt_trans hz2 hg1)).trans B1.out)
  have HB3 := Lib.hid (HB1.out.trans (hb.mono (Nat.le_of_lt (Nat.lt_trans hz2 hg1))))
  have hg : w2.heap.size < v1.heap.size := Nat.lt_of_lt_of_le hg1 hb.size
  clear hb I1 B1 HB1 hg1 cx n1
  go_wp2_with fail
  obtain ⟨U2, hU2, n2⟩ := next_yes v1 w2.heap.size ⟨#[97, 98, 99]⟩ 2 I0.out (by decide) (by decide)
  have I1 := Lib.hid hU2.at_
  have B1 := Lib.hid ((hU2.block w.heap.size (Nat.ne_of_lt hz2)).trans B3.out)
  have HB1 := Lib.hid (HB3.out.setI (Nat.le_of_lt hz2) hU2)
  have hg1 : w2.heap.size < U2.heap.size := by rw [hU2.size]; exact hg
  have cx := cell_of_row _ _ 3 _ _ _ B1.out
  simp only [List.getElem?_toArray, List.getElem?_cons_zero, List.getElem?_cons_succ] at cx
  clear hU2 I0 B3 HB3 hg
  rw [rounds_succ]
  go_wp2_with fail
  refine (Dc.out _).mono ?_
  rintro e v2 ⟨rfl, hb⟩
  have I0 := Lib.hid ((hb.block w2.heap.size hg1).trans I1.out)
  have B3 := Lib.hid ((hb.block w.heap.size (Nat.lt_trans hz2 hg1)).trans B1.out)
  have HB3 := Lib.hid (HB1.out.trans (hb.mono (Nat.le_of_lt (Nat.lt_trans hz2 hg1))))
  have hg : w2.heap.size < v2.heap.size := Nat.lt_of_lt_of_le hg1 hb.size
  clear hb I1 B1 HB1 hg1 cx n2
  go_wp2_with fail
  have n3 := fun ty => next_no v2 w2.heap.size ⟨#[97, 98, 99]⟩ 3 ty I0.out (by decide)
  rw [rounds_succ]
  go_wp2_with fail
  go_ret
  exact ⟨by rw [← hRe.out]; rfl, HB3.out⟩
set_option maxRecDepth 100000 in
set_option maxHeartbeats 4000000 in
theorem refText_11 (a b c imm : Int) (hi : Ins.Fits ⟨11, a, b, c, imm⟩) (h : encE ⟨11, a, b, c, imm⟩ = 0) (w : World) : Calls Tryd.prog 15 #[insV ⟨11, a, b, c, imm⟩] w (GivesT w ([97, 110, 100] ++ regT a ++ regT b ++ regT c)) := by
  have H := Lib.hid h
  have HI := Lib.hid hi
  obtain ⟨sa, hsa⟩ : ∃ s, Hid (bs (Lib.itoa a) = s) := ⟨_, Lib.hid rfl⟩
  have za : sa.size ≤ 20 := by rw [← hsa.out]; exact itoa_len hi.a
  have Da := Lib.hid (digits_any a hi.a)
  unfold GivesT at Da
  rw [hsa.out] at Da
  obtain ⟨sb, hsb⟩ : ∃ s, Hid (bs (Lib.itoa b) = s) := ⟨_, Lib.hid rfl⟩
  have zb : sb.size ≤ 20 := by rw [← hsb.out]; exact itoa_len hi.b
  have Db := Lib.hid (digits_any b hi.b)
  unfold GivesT at Db
  rw [hsb.out] at Db
  obtain ⟨sc, hsc⟩ : ∃ s, Hid (bs (Lib.itoa c) = s) := ⟨_, Lib.hid rfl⟩
  have zc : sc.size ≤ 20 := by rw [← hsc.out]; exact itoa_len hi.c
  have Dc := Lib.hid (digits_any c hi.c)
  unfold GivesT at Dc
  rw [hsc.out] at Dc
  obtain ⟨R, hR⟩ : ∃ s, Hid (bs ([97, 110, 100] ++ regT a ++ regT b ++ regT c) = s) := ⟨_, Lib.hid rfl⟩
  have hRe := Lib.hid (show bs [97, 110, 100] ++ bs [32, 114] ++ sa ++ bs [32, 114] ++ sb ++ bs [32, 114] ++ sc = R by
    rw [← hR.out]; simp only [← hsa.out, ← hsb.out, ← hsc.out, bs_append, regT, List.append_assoc, List.cons_append, List.nil_append])
  unfold GivesT
  rw [hR.out]
  clear h hi hR hsa hsb hsc
  go_enter Tryd.func15, Tryd.ntmps15
  go_wp2_with fail
  refine (refEncode_any ⟨_, _, _, _, _⟩ HI.out _).mono ?_
  rintro e w1 ⟨rfl, hb1⟩
  rw [H.out]
  have B1 := Lib.hid ((hb1.block w.heap.size (by simp)).trans (heap_alloc_new w _))
  have HB1 := Lib.hid (((Below.refl w.heap.size w).alloc (Nat.le_refl _) (.cells #[.int .i64 11, .int .i64 a, .int .i64 b, .int .i64 c, .int .i64 imm] 23)).trans (hb1.mono (by simp)))
  have hz1 : w.heap.size < w1.heap.size := by have := hb1.size; simp at this; omega
  clear hb1
  go_wp2_with fail
  refine (names_any _).mono ?_
  rintro e w2 ⟨x, y, rfl, hx, hy, hx2, hy2, hN, hF, hb2⟩
  have B2 := Lib.hid ((hb2.block w.heap.size hz1).trans B1.out)
  have HB2 := Lib.hid (HB1.out.trans (hb2.mono (by omega)))
  have hz2 : w.heap.size < w2.heap.size := Nat.lt_of_lt_of_le hz1 hb2.size
  have k1 : w2.cell? ⟨x, 10, none⟩ = some (.string ⟨#[97, 110, 100]⟩) := cell_of_row _ _ 10 _ _ _ hN
  have k2 : w2.cell? ⟨y, 10, none⟩ = some (.string ⟨#[97, 98, 99]⟩) := cell_of_row _ _ 10 _ _ _ hF
  have c0 := cell_of_row _ _ 0 _ _ _ B2.out
  simp only [List.getElem?_toArray, List.getElem?_cons_zero] at c0
  clear hN hF hb2 HB1 B1
  go_wp2_with fail
  clear k1 k2 c0 hx hy hx2 hy2
  have I0 := Lib.hid (World.iter_heap w2 ⟨#[97, 98, 99]⟩ 0)
  have B3 := Lib.hid (show (w2.iter ⟨#[97, 98, 99]⟩ 0).heap[w.heap.size]? = _ from (Below.heap_alloc w2 _ _ hz2).trans B2.out)
  have HB3 := Lib.hid (show Below w.heap.size w (w2.iter ⟨#[97, 98, 99]⟩ 0) from HB2.out.alloc (Nat.le_of_lt hz2) _)
  have hg : w2.heap.size < (w2.iter ⟨#[97, 98, 99]⟩ 0).heap.size := (by show w2.heap.size < (w2.alloc _).heap.size; simp)
  obtain ⟨V, hV⟩ : ∃ V, Hid (w2.iter ⟨#[97, 98, 99]⟩ 0 = V) := ⟨_, Lib.hid rfl⟩
  rw [hV.out] at I0 B3 HB3 hg ⊢
  clear hV B2 HB2
  refine wp_loop_rounds 4 ?_
  obtain ⟨U0, hU0, n0⟩ := next_yes V w2.heap.size ⟨#[97, 98, 99]⟩ 0 I0.out (by decide) (by decide)
  have I1 := Lib.hid hU0.at_
  have B1 := Lib.hid ((hU0.block w.heap.size (Nat.ne_of_lt hz2)).trans B3.out)
  have HB1 := Lib.hid (HB3.out.setI (Nat.le_of_lt hz2) hU0)
  have hg1 : w2.heap.size < U0.heap.size := by rw [hU0.size]; exact hg
  have cx := cell_of_row _ _ 1 _ _ _ B1.out
  simp only [List.getElem?_toArray, List.getElem?_cons_zero, List.getElem?_cons_succ] at cx
  clear hU0 I0 B3 HB3 hg
  rw [rounds_succ]
  go_wp2_with fail
  refine (Da.out _).mono ?_
  rintro e v0 ⟨rfl, hb⟩
  have I0 := Lib.hid ((hb.block w2.heap.size hg1).trans I1.out)
  have B3 := Lib.hid ((hb.block w.heap.size (Nat.lt_trans hz2 hg1)).trans B1.out)
  have HB3 := Lib.hid (HB1.out.trans (hb.mono (Nat.le_of_lt (Nat.lt_trans hz2 hg1))))
  have hg : w2.heap.size < v0.heap.size := Nat.lt_of_lt_of_le hg1 hb.size
  clear hb I1 B1 HB1 hg1 cx n0
  go_wp2_with fail
  obtain ⟨U1, hU1, n1⟩ := next_yes v0 w2.heap.size ⟨#[97, 98, 99]⟩ 1 I0.out (by decide) (by decide)
  have I1 := Lib.hid hU1.at_
  have B1 := Lib.hid ((hU1.block w.heap.size (Nat.ne_of_lt hz2)).trans B3.out)
  have HB1 := Lib.hid (HB3.out.setI (Nat.le_of_lt hz2) hU1)
  have hg1 : w2.heap.size < U1.heap.size := by rw [hU1.size]; exact hg
  have cx := cell_of_row _ _ 2 _ _ _ B1.out
  simp only [List.getElem?_toArray, List.getElem?_cons_zero, List.getElem?_cons_succ] at cx
  clear hU1 I0 B3 HB3 hg
  rw [rounds_succ]
  go_wp2_with fail
  refine (Db.out _).mono ?_
  rintro e v1 ⟨rfl, hb⟩
  have I0 := Lib.hid ((hb.block w2.heap.size hg1).trans I1.out)
  have B3 := Lib.hid ((hb.block w.heap.size (Nat.lt_trans hz2 hg1)).trans B1.out)
  have HB3 := Lib.hid (HB1.out.trans (hb.mono (Nat.le_of_lt (Nat.lt_trans hz2 hg1))))
  have hg : w2.heap.size < v1.heap.size := Nat.lt_of_lt_of_le hg1 hb.size
  clear hb I1 B1 HB1 hg1 cx n1
  go_wp2_with fail
  obtain ⟨U2, hU2, n2⟩ := next_yes v1 w2.heap.size ⟨#[97, 98, 99]⟩ 2 I0.out (by decide) (by decide)
  have I1 := Lib.hid hU2.at_
  have B1 := Lib.hid ((hU2.block w.heap.size (Nat.ne_of_lt hz2)).trans B3.out)
  have HB1 := Lib.hid (HB3.out.setI (Nat.le_of_lt hz2) hU2)
  have hg1 : w2.heap.size < U2.heap.size := by rw [hU2.size]; exact hg
  have cx := cell_of_row _ _ 3 _ _ _ B1.out
  simp only [List.getElem?_toArray, List.getElem?_cons_zero, List.getElem?_cons_succ] at cx
  clear hU2 I0 B3 HB3 hg
  rw [rounds_succ]
  go_wp2_with fail
  refine (Dc.out _).mono ?_
  rintro e v2 ⟨rfl, hb⟩
  have I0 := Lib.hid ((hb.block w2.heap.size hg1).trans I1.out)
  have B3 := Lib.hid ((hb.block w.heap.size (Nat.lt_trans hz2 hg1)).trans B1.out)
  have HB3 := Lib.hid (HB1.out.trans (hb.mono (Nat.le_of_lt (Nat.lt_trans hz2 hg1))))
  have hg : w2.heap.size < v2.heap.size := Nat.lt_of_lt_of_le hg1 hb.size
  clear hb I1 B1 HB1 hg1 cx n2
  go_wp2_with fail
  have n3 := fun ty => next_no v2 w2.heap.size ⟨#[97, 98, 99]⟩ 3 ty I0.out (by decide)
  rw [rounds_succ]
  go_wp2_with fail
  go_ret
  exact ⟨by rw [← hRe.out]; rfl, HB3.out⟩
set_option maxRecDepth 100000 in
set_option maxHeartbeats 4000000 in
theorem refText_12 (a b c imm : Int) (hi : Ins.Fits ⟨12, a, b, c, imm⟩) (h : encE ⟨12, a, b, c, imm⟩ = 0) (w : World) : Calls Tryd.prog 15 #[insV ⟨12, a, b, c, imm⟩] w (GivesT w ([111, 114] ++ regT a ++ regT b ++ regT c)) := by
  have H := Lib.hid h
  have HI := Lib.hid hi
  obtain ⟨sa, hsa⟩ : ∃ s, Hid (bs (Lib.itoa a) = s) := ⟨_, Lib.hid rfl⟩
  have za : sa.size ≤ 20 := by rw [← hsa.out]; exact itoa_len hi.a
  have Da := Lib.hid (digits_any a hi.a)
  unfold GivesT at Da
  rw [hsa.out] at Da
  obtain ⟨sb, hsb⟩ : ∃ s, Hid (bs (Lib.itoa b) = s) := ⟨_, Lib.hid rfl⟩
  have zb : sb.size ≤ 20 := by rw [← hsb.out]; exact itoa_len hi.b
  have Db := Lib.hid (digits_any b hi.b)
  unfold GivesT at Db
  rw [hsb.out] at Db
  obtain ⟨sc, hsc⟩ : ∃ s, Hid (bs (Lib.itoa c) = s) := ⟨_, Lib.hid rfl⟩
  have zc : sc.size ≤ 20 := by rw [← hsc.out]; exact itoa_len hi.c
  have Dc := Lib.hid (digits_any c hi.c)
  unfold GivesT at Dc
  rw [hsc.out] at Dc
  obtain ⟨R, hR⟩ : ∃ s, Hid (bs ([111, 114] ++ regT a ++ regT b ++ regT c) = s) := ⟨_, Lib.hid rfl⟩
  have hRe := Lib.hid (show bs [111, 114] ++ bs [32, 114] ++ sa ++ bs [32, 114] ++ sb ++ bs [32, 114] ++ sc = R by
    rw [← hR.out]; simp only [← hsa.out, ← hsb.out, ← hsc.out, bs_append, regT, List.append_assoc, List.cons_append, List.nil_append])
  unfold GivesT
  rw [hR.out]
  clear h hi hR hsa hsb hsc
  go_enter Tryd.func15, Tryd.ntmps15
  go_wp2_with fail
  refine (refEncode_any ⟨_, _, _, _, _⟩ HI.out _).mono ?_
  rintro e w1 ⟨rfl, hb1⟩
  rw [H.out]
  have B1 := Lib.hid ((hb1.block w.heap.size (by simp)).trans (heap_alloc_new w _))
  have HB1 := Lib.hid (((Below.refl w.heap.size w).alloc (Nat.le_refl _) (.cells #[.int .i64 12, .int .i64 a, .int .i64 b, .int .i64 c, .int .i64 imm] 23)).trans (hb1.mono (by simp)))
  have hz1 : w.heap.size < w1.heap.size := by have := hb1.size; simp at this; omega
  clear hb1
  go_wp2_with fail
  refine (names_any _).mono ?_
  rintro e w2 ⟨x, y, rfl, hx, hy, hx2, hy2, hN, hF, hb2⟩
  have B2 := Lib.hid ((hb2.block w.heap.size hz1).trans B1.out)
  have HB2 := Lib.hid (HB1.out.trans (hb2.mono (by omega)))
  have hz2 : w.heap.size < w2.heap.size := Nat.lt_of_lt_of_le hz1 hb2.size
  have k1 : w2.cell? ⟨x, 11, none⟩ = some (.string ⟨#[111, 114]⟩) := cell_of_row _ _ 11 _ _ _ hN
  have k2 : w2.cell? ⟨y, 11, none⟩ = some (.string ⟨#[97, 98, 99]⟩) := cell_of_row _ _ 11 _ _ _ hF
  have c0 := cell_of_row _ _ 0 _ _ _ B2.out
  simp only [List.getElem?_toArray, List.getElem?_cons_zero] at c0
  clear hN hF hb2 HB1 B1
  go_wp2_with fail
  clear k1 k2 c0 hx hy hx2 hy2
  have I0 := Lib.hid (World.iter_heap w2 ⟨#[97, 98, 99]⟩ 0)
  have B3 := Lib.hid (show (w2.iter ⟨#[97, 98, 99]⟩ 0).heap[w.heap.size]? = _ from (Below.heap_alloc w2 _ _ hz2).trans B2.out)
  have HB3 := Lib.hid (show Below w.heap.size w (w2.iter ⟨#[97, 98, 99]⟩ 0) from HB2.out.alloc (Nat.le_of_lt hz2) _)
  have hg : w2.heap.size < (w2.iter ⟨#[97, 98, 99]⟩ 0).heap.size := (by show w2.heap.size < (w2.alloc _).heap.size; simp)
  obtain ⟨V, hV⟩ : ∃ V, Hid (w2.iter ⟨#[97, 98, 99]⟩ 0 = V) := ⟨_, Lib.hid rfl⟩
  rw [hV.out] at I0 B3 HB3 hg ⊢
  clear hV B2 HB2
  refine wp_loop_rounds 4 ?_
  obtain ⟨U0, hU0, n0⟩ := next_yes V w2.heap.size ⟨#[97, 98, 99]⟩ 0 I0.out (by decide) (by decide)
  have I1 := Lib.hid hU0.at_
  have B1 := Lib.hid ((hU0.block w.heap.size (Nat.ne_of_lt hz2)).trans B3.out)
  have HB1 := Lib.hid (HB3.out.setI (Nat.le_of_lt hz2) hU0)
  have hg1 : w2.heap.size < U0.heap.size := by rw [hU0.size]; exact hg
  have cx := cell_of_row _ _ 1 _ _ _ B1.out
  simp only [List.getElem?_toArray, List.getElem?_cons_zero, List.getElem?_cons_succ] at cx
  clear hU0 I0 B3 HB3 hg
  rw [rounds_succ]
  go_wp2_with fail
  refine (Da.out _).mono ?_
  rintro e v0 ⟨rfl, hb⟩
  have I0 := Lib.hid ((hb.block w2.heap.size hg1).trans I1.out)
  have B3 := Lib.hid ((hb.block w.heap.size (Nat.lt_trans hz2 hg1)).trans B1.out)
  have HB3 := Lib.hid (HB1.out.trans (hb.mono (Nat.le_of_lt (Nat.lt_trans hz2 hg1))))
  have hg : w2.heap.size < v0.heap.size := Nat.lt_of_lt_of_le hg1 hb.size
  clear hb I1 B1 HB1 hg1 cx n0
  go_wp2_with fail
  obtain ⟨U1, hU1, n1⟩ := next_yes v0 w2.heap.size ⟨#[97, 98, 99]⟩ 1 I0.out (by decide) (by decide)
  have I1 := Lib.hid hU1.at_
  have B1 := Lib.hid ((hU1.block w.heap.size (Nat.ne_of_lt hz2)).trans B3.out)
  have HB1 := Lib.hid (HB3.out.setI (Nat.le_of_lt hz2) hU1)
  have hg1 : w2.heap.size < U1.heap.size := by rw [hU1.size]; exact hg
  have cx := cell_of_row _ _ 2 _ _ _ B1.out
  simp only [List.getElem?_toArray, List.getElem?_cons_zero, List.getElem?_cons_succ] at cx
  clear hU1 I0 B3 HB3 hg
  rw [rounds_succ]
  go_wp2_with fail
  refine (Db.out _).mono ?_
  rintro e v1 ⟨rfl, hb⟩
  have I0 := Lib.hid ((hb.block w2.heap.size hg1).trans I1.out)
  have B3 := Lib.hid ((hb.block w.heap.size (Nat.lt_trans hz2 hg1)).trans B1.out)
  have HB3 := Lib.hid (HB1.out.trans (hb.mono (Nat.le_of_lt (Nat.lt_trans hz2 hg1))))
  have hg : w2.heap.size < v1.heap.size := Nat.lt_of_lt_of_le hg1 hb.size
  clear hb I1 B1 HB1 hg1 cx n1
  go_wp2_with fail
  obtain ⟨U2, hU2, n2⟩ := next_yes v1 w2.heap.size ⟨#[97, 98, 99]⟩ 2 I0.out (by decide) (by decide)
  have I1 := Lib.hid hU2.at_
  have B1 := Lib.hid ((hU2.block w.heap.size (Nat.ne_of_lt hz2)).trans B3.out)
  have HB1 := Lib.hid (HB3.out.setI (Nat.le_of_lt hz2) hU2)
  have hg1 : w2.heap.size < U2.heap.size := by rw [hU2.size]; exact hg
  have cx := cell_of_row _ _ 3 _ _ _ B1.out
  simp only [List.getElem?_toArray, List.getElem?_cons_zero, List.getElem?_cons_succ] at cx
  clear hU2 I0 B3 HB3 hg
  rw [rounds_succ]
  go_wp2_with fail
  refine (Dc.out _).mono ?_
  rintro e v2 ⟨rfl, hb⟩
  have I0 := Lib.hid ((hb.block w2.heap.size hg1).trans I1.out)
  have B3 := Lib.hid ((hb.block w.heap.size (Nat.lt_trans hz2 hg1)).trans B1.out)
  have HB3 := Lib.hid (HB1.out.trans (hb.mono (Nat.le_of_lt (Nat.lt_trans hz2 hg1))))
  have hg : w2.heap.size < v2.heap.size := Nat.lt_of_lt_of_le hg1 hb.size
  clear hb I1 B1 HB1 hg1 cx n2
  go_wp2_with fail
  have n3 := fun ty => next_no v2 w2.heap.size ⟨#[97, 98, 99]⟩ 3 ty I0.out (by decide)
  rw [rounds_succ]
  go_wp2_with fail
  go_ret
  exact ⟨by rw [← hRe.out]; rfl, HB3.out⟩
set_option maxRecDepth 100000 in
set_option maxHeartbeats 4000000 in
theorem refText_13 (a b c imm : Int) (hi : Ins.Fits ⟨13, a, b, c, imm⟩) (h : encE ⟨13, a, b, c, imm⟩ = 0) (w : World) : Calls Tryd.prog 15 #[insV ⟨13, a, b, c, imm⟩] w (GivesT w ([120, 111, 114] ++ regT a ++ regT b ++ regT c)) := by
  have H := Lib.hid h
  have HI := Lib.hid hi
  obtain ⟨sa, hsa⟩ : ∃ s, Hid (bs (Lib.itoa a) = s) := ⟨_, Lib.hid rfl⟩
  have za : sa.size ≤ 20 := by rw [← hsa.out]; exact itoa_len hi.a
  have Da := Lib.hid (digits_any a hi.a)
  unfold GivesT at Da
  rw [hsa.out] at Da
  obtain ⟨sb, hsb⟩ : ∃ s, Hid (bs (Lib.itoa b) = s) := ⟨_, Lib.hid rfl⟩
  have zb : sb.size ≤ 20 := by rw [← hsb.out]; exact itoa_len hi.b
  have Db := Lib.hid (digits_any b hi.b)
  unfold GivesT at Db
  rw [hsb.out] at Db
  obtain ⟨sc, hsc⟩ : ∃ s, Hid (bs (Lib.itoa c) = s) := ⟨_, Lib.hid rfl⟩
  have zc : sc.size ≤ 20 := by rw [← hsc.out]; exact itoa_len hi.c
  have Dc := Lib.hid (digits_any c hi.c)
  unfold GivesT at Dc
  rw [hsc.out] at Dc
  obtain ⟨R, hR⟩ : ∃ s, Hid (bs ([120, 111, 114] ++ regT a ++ regT b ++ regT c) = s) := ⟨_, Lib.hid rfl⟩
  have hRe := Lib.hid (show bs [120, 111, 114] ++ bs [32, 114] ++ sa ++ bs [32, 114] ++ sb ++ bs [32, 114] ++ sc = R by
    rw [← hR.out]; simp only [← hsa.out, ← hsb.out, ← hsc.out, bs_append, regT, List.append_assoc, List.cons_append, List.nil_append])
  unfold GivesT
  rw [hR.out]
  clear h hi hR hsa hsb hsc
  go_enter Tryd.func15, Tryd.ntmps15
  go_wp2_with fail
  refine (refEncode_any ⟨_, _, _, _, _⟩ HI.out _).mono ?_
  rintro e w1 ⟨rfl, hb1⟩
  rw [H.out]
  have B1 := Lib.hid ((hb1.block w.heap.size (by simp)).trans (heap_alloc_new w _))
  have HB1 := Lib.hid (((Below.refl w.heap.size w).alloc (Nat.le_refl _) (.cells #[.int .i64 13, .int .i64 a, .int .i64 b, .int .i64 c, .int .i64 imm] 23)).trans (hb1.mono (by simp)))
  have hz1 : w.heap.size < w1.heap.size := by have := hb1.size; simp at this; omega
  clear hb1
  go_wp2_with fail
  refine (names_any _).mono ?_
  rintro e w2 ⟨x, y, rfl, hx, hy, hx2, hy2, hN, hF, hb2⟩
  have B2 := Lib.hid ((hb2.block w.heap.size hz1).trans B1.out)
  have HB2 := Lib.hid (HB1.out.trans (hb2.mono (by omega)))
  have hz2 : w.heap.size < w2.heap.size := Nat.lt_of_lt_of_le hz1 hb2.size
  have k1 : w2.cell? ⟨x, 12, none⟩ = some (.string ⟨#[120, 111, 114]⟩) := cell_of_row _ _ 12 _ _ _ hN
  have k2 : w2.cell? ⟨y, 12, none⟩ = some (.string ⟨#[97, 98, 99]⟩) := cell_of_row _ _ 12 _ _ _ hF
  have c0 := cell_of_row _ _ 0 _ _ _ B2.out
  simp only [List.getElem?_toArray, List.getElem?_cons_zero] at c0
  clear hN hF hb2 HB1 B1
  go_wp2_with fail
  clear k1 k2 c0 hx hy hx2 hy2
  have I0 := Lib.hid (World.iter_heap w2 ⟨#[97, 98, 99]⟩ 0)
  have B3 := Lib.hid (show (w2.iter ⟨#[97, 98, 99]⟩ 0).heap[w.heap.size]? = _ from (Below.heap_alloc w2 _ _ hz2).trans B2.out)
  have HB3 := Lib.hid (show Below w.heap.size w (w2.iter ⟨#[97, 98, 99]⟩ 0) from HB2.out.alloc (Nat.le_of_lt hz2) _)
  have hg : w2.heap.size < (w2.iter ⟨#[97, 98, 99]⟩ 0).heap.size := (by show w2.heap.size < (w2.alloc _).heap.size; simp)
  obtain ⟨V, hV⟩ : ∃ V, Hid (w2.iter ⟨#[97, 98, 99]⟩ 0 = V) := ⟨_, Lib.hid rfl⟩
  rw [hV.out] at I0 B3 HB3 hg ⊢
  clear hV B2 HB2
  refine wp_loop_rounds 4 ?_
  obtain ⟨U0, hU0, n0⟩ := next_yes V w2.heap.size ⟨#[97, 98, 99]⟩ 0 I0.out (by decide) (by decide)
  have I1 := Lib.hid hU0.at_
  have B1 := Lib.hid ((hU0.block w.heap.size (Nat.ne_of_lt hz2)).trans B3.out)
  have HB1 := Lib.hid (HB3.out.setI (Nat.le_of_lt hz2) hU0)
  have hg1 : w2.heap.size < U0.heap.size := by rw [hU0.size]; exact hg
  have cx := cell_of_row _ _ 1 _ _ _ B1.out
  simp only [List.getElem?_toArray, List.getElem?_cons_zero, List.getElem?_cons_succ] at cx
  clear hU0 I0 B3 HB3 hg
  rw [rounds_succ]
  go_wp2_with fail
  refine (Da.out _).mono ?_
  rintro e v0 ⟨rfl, hb⟩
  have I0 := Lib.hid ((hb.block w2.heap.size hg1).trans I1.out)
  have B3 := Lib.hid ((hb.block w.heap.size (Nat.lt_trans hz2 hg1)).trans B1.out)
  have HB3 := Lib.hid (HB1.out.trans (hb.mono (Nat.le_of_lt (Nat.lt_trans hz2 hg1))))
  have hg : w2.heap.size < v0.heap.size := Nat.lt_of_lt_of_le hg1 hb.size
  clear hb I1 B1 HB1 hg1 cx n0
  go_wp2_with fail
  obtain ⟨U1, hU1, n1⟩ := next_yes v0 w2.heap.size ⟨#[97, 98, 99]⟩ 1 I0.out (by decide) (by decide)
  have I1 := Lib.hid hU1.at_
  have B1 := Lib.hid ((hU1.block w.heap.size (Nat.ne_of_lt hz2)).trans B3.out)
  have HB1 := Lib.hid (HB3.out.setI (Nat.le_of_lt hz2) hU1)
  have hg1 : w2.heap.size < U1.heap.size := by rw [hU1.size]; exact hg
  have cx := cell_of_row _ _ 2 _ _ _ B1.out
  simp only [List.getElem?_toArray, List.getElem?_cons_zero, List.getElem?_cons_succ] at cx
  clear hU1 I0 B3 HB3 hg
  rw [rounds_succ]
  go_wp2_with fail
  refine (Db.out _).mono ?_
  rintro e v1 ⟨rfl, hb⟩
  have I0 := Lib.hid ((hb.block w2.heap.size hg1).trans I1.out)
  have B3 := Lib.hid ((hb.block w.heap.size (Nat.lt_trans hz2 hg1)).trans B1.out)
  have HB3 := Lib.hid (HB1.out.trans (hb.mono (Nat.le_of_lt (Nat.lt_trans hz2 hg1))))
  have hg : w2.heap.size < v1.heap.size := Nat.lt_of_lt_of_le hg1 hb.size
  clear hb I1 B1 HB1 hg1 cx n1
  go_wp2_with fail
  obtain ⟨U2, hU2, n2⟩ := next_yes v1 w2.heap.size ⟨#[97, 98, 99]⟩ 2 I0.out (by decide) (by decide)
  have I1 := Lib.hid hU2.at_
  have B1 := Lib.hid ((hU2.block w.heap.size (Nat.ne_of_lt hz2)).trans B3.out)
  have HB1 := Lib.hid (HB3.out.setI (Nat.le_of_lt hz2) hU2)
  have hg1 : w2.heap.size < U2.heap.size := by rw [hU2.size]; exact hg
  have cx := cell_of_row _ _ 3 _ _ _ B1.out
  simp only [List.getElem?_toArray, List.getElem?_cons_zero, List.getElem?_cons_succ] at cx
  clear hU2 I0 B3 HB3 hg
  rw [rounds_succ]
  go_wp2_with fail
  refine (Dc.out _).mono ?_
  rintro e v2 ⟨rfl, hb⟩
  have I0 := Lib.hid ((hb.block w2.heap.size hg1).trans I1.out)
  have B3 := Lib.hid ((hb.block w.heap.size (Nat.lt_trans hz2 hg1)).trans B1.out)
  have HB3 := Lib.hid (HB1.out.trans (hb.mono (Nat.le_of_lt (Nat.lt_trans hz2 hg1))))
  have hg : w2.heap.size < v2.heap.size := Nat.lt_of_lt_of_le hg1 hb.size
  clear hb I1 B1 HB1 hg1 cx n2
  go_wp2_with fail
  have n3 := fun ty => next_no v2 w2.heap.size ⟨#[97, 98, 99]⟩ 3 ty I0.out (by decide)
  rw [rounds_succ]
  go_wp2_with fail
  go_ret
  exact ⟨by rw [← hRe.out]; rfl, HB3.out⟩
set_option maxRecDepth 100000 in
set_option maxHeartbeats 4000000 in
theorem refText_14 (a b c imm : Int) (hi : Ins.Fits ⟨14, a, b, c, imm⟩) (h : encE ⟨14, a, b, c, imm⟩ = 0) (w : World) : Calls Tryd.prog 15 #[insV ⟨14, a, b, c, imm⟩] w (GivesT w ([108, 101, 115, 115] ++ regT a ++ regT b ++ regT c)) := by
  have H := Lib.hid h
  have HI := Lib.hid hi
  obtain ⟨sa, hsa⟩ : ∃ s, Hid (bs (Lib.itoa a) = s) := ⟨_, Lib.hid rfl⟩
  have za : sa.size ≤ 20 := by rw [← hsa.out]; exact itoa_len hi.a
  have Da := Lib.hid (digits_any a hi.a)
  unfold GivesT at Da
  rw [hsa.out] at Da
  obtain ⟨sb, hsb⟩ : ∃ s, Hid (bs (Lib.itoa b) = s) := ⟨_, Lib.hid rfl⟩
  have zb : sb.size ≤ 20 := by rw [← hsb.out]; exact itoa_len hi.b
  have Db := Lib.hid (digits_any b hi.b)
  unfold GivesT at Db
  rw [hsb.out] at Db
  obtain ⟨sc, hsc⟩ : ∃ s, Hid (bs (Lib.itoa c) = s) := ⟨_, Lib.hid rfl⟩
  have zc : sc.size ≤ 20 := by rw [← hsc.out]; exact itoa_len hi.c
  have Dc := Lib.hid (digits_any c hi.c)
  unfold GivesT at Dc
  rw [hsc.out] at Dc
  obtain ⟨R, hR⟩ : ∃ s, Hid (bs ([108, 101, 115, 115] ++ regT a ++ regT b ++ regT c) = s) := ⟨_, Lib.hid rfl⟩
  have hRe := Lib.hid (show bs [108, 101, 115, 115] ++ bs [32, 114] ++ sa ++ bs [32, 114] ++ sb ++ bs [32, 114] ++ sc = R by
    rw [← hR.out]; simp only [← hsa.out, ← hsb.out, ← hsc.out, bs_append, regT, List.append_assoc, List.cons_append, List.nil_append])
  unfold GivesT
  rw [hR.out]
  clear h hi hR hsa hsb hsc
  go_enter Tryd.func15, Tryd.ntmps15
  go_wp2_with fail
  refine (refEncode_any ⟨_, _, _, _, _⟩ HI.out _).mono ?_
  rintro e w1 ⟨rfl, hb1⟩
  rw [H.out]
  have B1 := Lib.hid ((hb1.block w.heap.size (by simp)).trans (heap_alloc_new w _))
  have HB1 := Lib.hid (((Below.refl w.heap.size w).alloc (Nat.le_refl _) (.cells #[.int .i64 14, .int .i64 a, .int .i64 b, .int .i64 c, .int .i64 imm] 23)).trans (hb1.mono (by simp)))
  have hz1 : w.heap.size < w1.heap.size := by have := hb1.size; simp at this; omega
  clear hb1
  go_wp2_with fail
  refine (names_any _).mono ?_
  rintro e w2 ⟨x, y, rfl, hx, hy, hx2, hy2, hN, hF, hb2⟩
  have B2 := Lib.hid ((hb2.block w.heap.size hz1).trans B1.out)
  have HB2 := Lib.hid (HB1.out.trans (hb2.mono (by omega)))
  have hz2 : w.heap.size < w2.heap.size := Nat.lt_of_lt_of_le hz1 hb2.size
  have k1 : w2.cell? ⟨x, 13, none⟩ = some (.string ⟨#[108, 101, 115, 115]⟩) := cell_of_row _ _ 13 _ _ _ hN
  have k2 : w2.cell? ⟨y, 13, none⟩ = some (.string ⟨#[97, 98, 99]⟩) := cell_of_row _ _ 13 _ _ _ hF
  have c0 := cell_of_row _ _ 0 _ _ _ B2.out
  simp only [List.getElem?_toArray, List.getElem?_cons_zero] at c0
  clear hN hF hb2 HB1 B1
  go_wp2_with fail
  clear k1 k2 c0 hx hy hx2 hy2
  have I0 := Lib.hid (World.iter_heap w2 ⟨#[97, 98, 99]⟩ 0)
  have B3 := Lib.hid (show (w2.iter ⟨#[97, 98, 99]⟩ 0).heap[w.heap.size]? = _ from (Below.heap_alloc w2 _ _ hz2).trans B2.out)
  have HB3 := Lib.hid (show Below w.heap.size w (w2.iter ⟨#[97, 98, 99]⟩ 0) from HB2.out.alloc (Nat.le_of_lt hz2) _)
  have hg : w2.heap.size < (w2.iter ⟨#[97, 98, 99]⟩ 0).heap.size := (by show w2.heap.size < (w2.alloc _).heap.size; simp)
  obtain ⟨V, hV⟩ : ∃ V, Hid (w2.iter ⟨#[97, 98, 99]⟩ 0 = V) := ⟨_, Lib.hid rfl⟩
  rw [hV.out] at I0 B3 HB3 hg ⊢
  clear hV B2 HB2
  refine wp_loop_rounds 4 ?_
  obtain ⟨U0, hU0, n0⟩ := next_yes V w2.heap.size ⟨#[97, 98, 99]⟩ 0 I0.out (by decide) (by decide)
  have I1 := Lib.hid hU0.at_
  have B1 := Lib.hid ((hU0.block w.heap.size (Nat.ne_of_lt hz2)).trans B3.out)
  have HB1 := Lib.hid (HB3.out.setI (Nat.le_of_lt hz2) hU0)
  have hg1 : w2.heap.size < U0.heap.size := by rw [hU0.size]; exact hg
  have cx := cell_of_row _ _ 1 _ _ _ B1.out
  simp only [List.getElem?_toArray, List.getElem?_cons_zero, List.getElem?_cons_succ] at cx
  clear hU0 I0 B3 HB3 hg
  rw [rounds_succ]
  go_wp2_with fail
  refine (Da.out _).mono ?_
  rintro e v0 ⟨rfl, hb⟩
  have I0 := Lib.hid ((hb.block w2.heap.size hg1).trans I1.out)
  have B3 := Lib.hid ((hb.block w.heap.size (Nat.lt_trans hz2 hg1)).trans B1.out)
  have HB3 := Lib.hid (HB1.out.trans (hb.mono (Nat.le_of_lt (Nat.lt_trans hz2 hg1))))
  have hg : w2.heap.size < v0.heap.size := Nat.lt_of_lt_of_le hg1 hb.size
  clear hb I1 B1 HB1 hg1 cx n0
  go_wp2_with fail
  obtain ⟨U1, hU1, n1⟩ := next_yes v0 w2.heap.size ⟨#[97, 98, 99]⟩ 1 I0.out (by decide) (by decide)
  have I1 := Lib.hid hU1.at_
  have B1 := Lib.hid ((hU1.block w.heap.size (Nat.ne_of_lt hz2)).trans B3.out)
  have HB1 := Lib.hid (HB3.out.setI (Nat.le_of_lt hz2) hU1)
  have hg1 : w2.heap.size < U1.heap.size := by rw [hU1.size]; exact hg
  have cx := cell_of_row _ _ 2 _ _ _ B1.out
  simp only [List.getElem?_toArray, List.getElem?_cons_zero, List.getElem?_cons_succ] at cx
  clear hU1 I0 B3 HB3 hg
  rw [rounds_succ]
  go_wp2_with fail
  refine (Db.out _).mono ?_
  rintro e v1 ⟨rfl, hb⟩
  have I0 := Lib.hid ((hb.block w2.heap.size hg1).trans I1.out)
  have B3 := Lib.hid ((hb.block w.heap.size (Nat.lt_trans hz2 hg1)).trans B1.out)
  have HB3 := Lib.hid (HB1.out.trans (hb.mono (Nat.le_of_lt (Nat.lt_trans hz2 hg1))))
  have hg : w2.heap.size < v1.heap.size := Nat.lt_of_lt_of_le hg1 hb.size
  clear hb I1 B1 HB1 hg1 cx n1
  go_wp2_with fail
  obtain ⟨U2, hU2, n2⟩ := next_yes v1 w2.heap.size ⟨#[97, 98, 99]⟩ 2 I0.out (by decide) (by decide)
  have I1 := Lib.hid hU2.at_
  have B1 := Lib.hid ((hU2.block w.heap.size (Nat.ne_of_lt hz2)).trans B3.out)
  have HB1 := Lib.hid (HB3.out.setI (Nat.le_of_lt hz2) hU2)
  have hg1 : w2.heap.size < U2.heap.size := by rw [hU2.size]; exact hg
  have cx := cell_of_row _ _ 3 _ _ _ B1.out
  simp only [List.getElem?_toArray, List.getElem?_cons_zero, List.getElem?_cons_succ] at cx
  clear hU2 I0 B3 HB3 hg
  rw [rounds_succ]
  go_wp2_with fail
  refine (Dc.out _).mono ?_
  rintro e v2 ⟨rfl, hb⟩
  have I0 := Lib.hid ((hb.block w2.heap.size hg1).trans I1.out)
  have B3 := Lib.hid ((hb.block w.heap.size (Nat.lt_trans hz2 hg1)).trans B1.out)
  have HB3 := Lib.hid (HB1.out.trans (hb.mono (Nat.le_of_lt (Nat.lt_trans hz2 hg1))))
  have hg : w2.heap.size < v2.heap.size := Nat.lt_of_lt_of_le hg1 hb.size
  clear hb I1 B1 HB1 hg1 cx n2
  go_wp2_with fail
  have n3 := fun ty => next_no v2 w2.heap.size ⟨#[97, 98, 99]⟩ 3 ty I0.out (by decide)
  rw [rounds_succ]
  go_wp2_with fail
  go_ret
  exact ⟨by rw [← hRe.out]; rfl, HB3.out⟩
set_option maxRecDepth 100000 in
set_option maxHeartbeats 4000000 in
theorem refText_15 (a b c imm : Int) (hi : Ins.Fits ⟨15, a, b, c, imm⟩) (h : encE ⟨15, a, b, c, imm⟩ = 0) (w : World) : Calls Tryd.prog 15 #[insV ⟨15, a, b, c, imm⟩] w (GivesT w ([108, 101, 115, 115, 101, 113] ++ regT a ++ regT b ++ regT c)) := by
  have H := Lib.hid h
  have HI := Lib.hid hi
  obtain ⟨sa, hsa⟩ : ∃ s, Hid (bs (Lib.itoa a) = s) := ⟨_, Lib.hid rfl⟩
  have za : sa.size ≤ 20 := by rw [← hsa.out]; exact itoa_len hi.a
  have Da := Lib.hid (digits_any a hi.a)
  unfold GivesT at Da
  rw [hsa.out] at Da
  obtain ⟨sb, hsb⟩ : ∃ s, Hid (bs (Lib.itoa b) = s) := ⟨_, Lib.hid rfl⟩
  have zb : sb.size ≤ 20 := by rw [← hsb.out]; exact itoa_len hi.b
  have Db := Lib.hid (digits_any b hi.b)
  unfold GivesT at Db
  rw [hsb.out] at Db
  obtain ⟨sc, hsc⟩ : ∃ s, Hid (bs (Lib.itoa c) = s) := ⟨_, Lib.hid rfl⟩
  have zc : sc.size ≤ 20 := by rw [← hsc.out]; exact itoa_len hi.c
  have Dc := Lib.hid (digits_any c hi.c)
  unfold GivesT at Dc
  rw [hsc.out] at Dc
  obtain ⟨R, hR⟩ : ∃ s, Hid (bs ([108, 101, 115, 115, 101, 113] ++ regT a ++ regT b ++ regT c) = s) := ⟨_, Lib.hid rfl⟩
  have hRe := Lib.hid (show bs [108, 101, 115, 115, 101, 113] ++ bs [32, 114] ++ sa ++ bs [32, 114] ++ sb ++ bs [32, 114] ++ sc = R by
    rw [← hR.out]; simp only [← hsa.out, ← hsb.out, ← hsc.out, bs_append, regT, List.append_assoc, List.cons_append, List.nil_append])
  unfold GivesT
  rw [hR.out]
  clear h hi hR hsa hsb hsc
  go_enter Tryd.func15, Tryd.ntmps15
  go_wp2_with fail
  refine (refEncode_any ⟨_, _, _, _, _⟩ HI.out _).mono ?_
  rintro e w1 ⟨rfl, hb1⟩
  rw [H.out]
  have B1 := Lib.hid ((hb1.block w.heap.size (by simp)).trans (heap_alloc_new w _))
  have HB1 := Lib.hid (((Below.refl w.heap.size w).alloc (Nat.le_refl _) (.cells #[.int .i64 15, .int .i64 a, .int .i64 b, .int .i64 c, .int .i64 imm] 23)).trans (hb1.mono (by simp)))
  have hz1 : w.heap.size < w1.heap.size := by have := hb1.size; simp at this; omega
  clear hb1
  go_wp2_with fail
  refine (names_any _).mono ?_
  rintro e w2 ⟨x, y, rfl, hx, hy, hx2, hy2, hN, hF, hb2⟩
  have B2 := Lib.hid ((hb2.block w.heap.size hz1).trans B1.out)
  have HB2 := Lib.hid (HB1.out.trans (hb2.mono (by omega)))
  have hz2 : w.heap.size < w2.heap.size := Nat.lt_of_lt_of_le hz1 hb2.size
  have k1 : w2.cell? ⟨x, 14, none⟩ = some (.string ⟨#[108, 101, 115, 115, 101, 113]⟩) := cell_of_row _ _ 14 _ _ _ hN
  have k2 : w2.cell? ⟨y, 14, none⟩ = some (.string ⟨#[97, 98, 99]⟩) := cell_of_row _ _ 14 _ _ _ hF
  have c0 := cell_of_row _ _ 0 _ _ _ B2.out
  simp only [List.getElem?_toArray, List.getElem?_cons_zero] at c0
  clear hN hF hb2 HB1 B1
  go_wp2_with fail
  clear k1 k2 c0 hx hy hx2 hy2
  have I0 := Lib.hid (World.iter_heap w2 ⟨#[97, 98, 99]⟩ 0)
  have B3 := Lib.hid (show (w2.iter ⟨#[97, 98, 99]⟩ 0).heap[w.heap.size]? = _ from (Below.heap_alloc w2 _ _ hz2).trans B2.out)
  have HB3 := Lib.hid (show Below w.heap.size w (w2.iter ⟨#[97, 98, 99]⟩ 0) from HB2.out.alloc (Nat.le_of_lt hz2) _)
  have hg : w2.heap.size < (w2.iter ⟨#[97, 98, 99]⟩ 0).heap.size := (by show w2.heap.size < (w2.alloc _).heap.size; simp)
  obtain ⟨V, hV⟩ : ∃ V, Hid (w2.iter ⟨#[97, 98, 99]⟩ 0 = V) := ⟨_, Lib.hid rfl⟩
  rw [hV.out] at I0 B3 HB3 hg ⊢
  clear hV B2 HB2
  refine wp_loop_rounds 4 ?_
  obtain ⟨U0, hU0, n0⟩ := next_yes V w2.heap.size ⟨#[97, 98, 99]⟩ 0 I0.out (by decide) (by decide)
  have I1 := Lib.hid hU0.at_
  have B1 := Lib.hid ((hU0.block w.heap.size (Nat.ne_of_lt hz2)).trans B3.out)
  have HB1 := Lib.hid (HB3.out.setI (Nat.le_of_lt hz2) hU0)
  have hg1 : w2.heap.size < U0.heap.size := by rw [hU0.size]; exact hg
  have cx := cell_of_row _ _ 1 _ _ _ B1.out
  simp only [List.getElem?_toArray, List.getElem?_cons_zero, List.getElem?_cons_succ] at cx
  clear hU0 I0 B3 HB3 hg
  rw [rounds_succ]
  go_wp2_with fail
  refine (Da.out _).mono ?_
  rintro e v0 ⟨rfl, hb⟩
  have I0 := Lib.hid ((hb.block w2.heap.size hg1).trans I1.out)
  have B3 := Lib.hid ((hb.block w.heap.size (Nat.lt_trans hz2 hg1)).trans B1.out)
  have HB3 := Lib.hid (HB1.out.trans (hb.mono (Nat.le_of_lt (Nat.lt_trans hz2 hg1))))
  have hg : w2.heap.size < v0.heap.size := Nat.lt_of_lt_of_le hg1 hb.size
  clear hb I1 B1 HB1 hg1 cx n0
  go_wp2_with fail
  obtain ⟨U1, hU1, n1⟩ := next_yes v0 w2.heap.size ⟨#[97, 98, 99]⟩ 1 I0.out (by decide) (by decide)
  have I1 := Lib.hid hU1.at_
  have B1 := Lib.hid ((hU1.block w.heap.size (Nat.ne_of_lt hz2)).trans B3.out)
  have HB1 := Lib.hid (HB3.out.setI (Nat.le_of_lt hz2) hU1)
  have hg1 : w2.heap.size < U1.heap.size := by rw [hU1.size]; exact hg
  have cx := cell_of_row _ _ 2 _ _ _ B1.out
  simp only [List.getElem?_toArray, List.getElem?_cons_zero, List.getElem?_cons_succ] at cx
  clear hU1 I0 B3 HB3 hg
  rw [rounds_succ]
  go_wp2_with fail
  refine (Db.out _).mono ?_
  rintro e v1 ⟨rfl, hb⟩
  have I0 := Lib.hid ((hb.block w2.heap.size hg1).trans I1.out)
  have B3 := Lib.hid ((hb.block w.heap.size (Nat.lt_trans hz2 hg1)).trans B1.out)
  have HB3 := Lib.hid (HB1.out.trans (hb.mono (Nat.le_of_lt (Nat.lt_trans hz2 hg1))))
  have hg : w2.heap.size < v1.heap.size := Nat.lt_of_lt_of_le hg1 hb.size
  clear hb I1 B1 HB1 hg1 cx n1
  go_wp2_with fail
  obtain ⟨U2, hU2, n2⟩ := next_yes v1 w2.heap.size ⟨#[97, 98, 99]⟩ 2 I0.out (by decide) (by decide)
  have I1 := Lib.hid hU2.at_
  have B1 := Lib.hid ((hU2.block w.heap.size (Nat.ne_of_lt hz2)).trans B3.out)
  have HB1 := Lib.hid (HB3.out.setI (Nat.le_of_lt hz2) hU2)
  have hg1 : w2.heap.size < U2.heap.size := by rw [hU2.size]; exact hg
  have cx := cell_of_row _ _ 3 _ _ _ B1.out
  simp only [List.getElem?_toArray, List.getElem?_cons_zero, List.getElem?_cons_succ] at cx
  clear hU2 I0 B3 HB3 hg
  rw [rounds_succ]
  go_wp2_with fail
  refine (Dc.out _).mono ?_
  rintro e v2 ⟨rfl, hb⟩
  have I0 := Lib.hid ((hb.block w2.heap.size hg1).trans I1.out)
  have B3 := Lib.hid ((hb.block w.heap.size (Nat.lt_trans hz2 hg1)).trans B1.out)
  have HB3 := Lib.hid (HB1.out.trans (hb.mono (Nat.le_of_lt (Nat.lt_trans hz2 hg1))))
  have hg : w2.heap.size < v2.heap.size := Nat.lt_of_lt_of_le hg1 hb.size
  clear hb I1 B1 HB1 hg1 cx n2
  go_wp2_with fail
  have n3 := fun ty => next_no v2 w2.heap.size ⟨#[97, 98, 99]⟩ 3 ty I0.out (by decide)
  rw [rounds_succ]
  go_wp2_with fail
  go_ret
  exact ⟨by rw [← hRe.out]; rfl, HB3.out⟩
set_option maxRecDepth 100000 in
set_option maxHeartbeats 4000000 in
theorem refText_16 (a b c imm : Int) (hi : Ins.Fits ⟨16, a, b, c, imm⟩) (h : encE ⟨16, a, b, c, imm⟩ = 0) (w : World) : Calls Tryd.prog 15 #[insV ⟨16, a, b, c, imm⟩] w (GivesT w ([101, 113, 117, 97, 108] ++ regT a ++ regT b ++ regT c)) := by
  have H := Lib.hid h
  have HI := Lib.hid hi
  obtain ⟨sa, hsa⟩ : ∃ s, Hid (bs (Lib.itoa a) = s) := ⟨_, Lib.hid rfl⟩
  have za : sa.size ≤ 20 := by rw [← hsa.out]; exact itoa_len hi.a
  have Da := Lib.hid (digits_any a hi.a)
  unfold GivesT at Da
  rw [hsa.out] at Da
  obtain ⟨sb, hsb⟩ : ∃ s, Hid (bs (Lib.itoa b) = s) := ⟨_, Lib.hid rfl⟩
  have zb : sb.size ≤ 20 := by rw [← hsb.out]; exact itoa_len hi.b
  have Db := Lib.hid (digits_any b hi.b)
  unfold GivesT at Db
  rw [hsb.out] at Db
  obtain ⟨sc, hsc⟩ : ∃ s, Hid (bs (Lib.itoa c) = s) := ⟨_, Lib.hid rfl⟩
  have zc : sc.size ≤ 20 := by rw [← hsc.out]; exact itoa_len hi.c
  have Dc := Lib.hid (digits_any c hi.c)
  unfold GivesT at Dc
  rw [hsc.out] at Dc
  obtain ⟨R, hR⟩ : ∃ s, Hid (bs ([101, 113, 117, 97, 108] ++ regT a ++ regT b ++ regT c) = s) := ⟨_, Lib.hid rfl⟩
  have hRe := Lib.hid (show bs [101, 113, 117, 97, 108] ++ bs [32, 114] ++ sa ++ bs [32, 114] ++ sb ++ bs [32, 114] ++ sc = R by
    rw [← hR.out]; simp only [← hsa.out, ← hsb.out, ← hsc.out, bs_append, regT, List.append_assoc, List.cons_append, List.nil_append])
  unfold GivesT
  rw [hR.out]
  clear h hi hR hsa hsb hsc
  go_enter Tryd.func15, Tryd.ntmps15
  go_wp2_with fail
  refine (refEncode_any ⟨_, _, _, _, _⟩ HI.out _).mono ?_
  rintro e w1 ⟨rfl, hb1⟩
  rw [H.out]
  have B1 := Lib.hid ((hb1.block w.heap.size (by simp)).trans (heap_alloc_new w _))
  have HB1 := Lib.hid (((Below.refl w.heap.size w).alloc (Nat.le_refl _) (.cells #[.int .i64 16, .int .i64 a, .int .i64 b, .int .i64 c, .int .i64 imm] 23)).trans (hb1.mono (by simp)))
  have hz1 : w.heap.size < w1.heap.size := by have := hb1.size; simp at this; omega
  clear hb1
  go_wp2_with fail
  refine (names_any _).mono ?_
  rintro e w2 ⟨x, y, rfl, hx, hy, hx2, hy2, hN, hF, hb2⟩
  have B2 := Lib.hid ((hb2.block w.heap.size hz1).trans B1.out)
  have HB2 := Lib.hid (HB1.out.trans (hb2.mono (by omega)))
  have hz2 : w.heap.size < w2.heap.size := Nat.lt_of_lt_of_le hz1 hb2.size
  have k1 : w2.cell? ⟨x, 15, none⟩ = some (.string ⟨#[101, 113, 117, 97, 108]⟩) := cell_of_row _ _ 15 _ _ _ hN
  have k2 : w2.cell? ⟨y, 15, none⟩ = some (.string ⟨#[97, 98, 99]⟩) := cell_of_row _ _ 15 _ _ _ hF
  have c0 := cell_of_row _ _ 0 _ _ _ B2.out
  simp only [List.getElem?_toArray, List.getElem?_cons_zero] at c0
  clear hN hF hb2 HB1 B1
  go_wp2_with fail
  clear k1 k2 c0 hx hy hx2 hy2
  have I0 := Lib.hid (World.iter_heap w2 ⟨#[97, 98, 99]⟩ 0)
  have B3 := Lib.hid (show (w2.iter ⟨#[97, 98, 99]⟩ 0).heap[w.heap.size]? = _ from (Below.heap_alloc w2 _ _ hz2).trans B2.out)
  have HB3 := Lib.hid (show Below w.heap.size w (w2.iter ⟨#[97, 98, 99]⟩ 0) from HB2.out.alloc (Nat.le_of_lt hz2) _)
  have hg : w2.heap.size < (w2.iter ⟨#[97, 98, 99]⟩ 0).heap.size := (by show w2.heap.size < (w2.alloc _).heap.size; simp)
  obtain ⟨V, hV⟩ : ∃ V, Hid (w2.iter ⟨#[97, 98, 99]⟩ 0 = V) := ⟨_, Lib.hid rfl⟩
  rw [hV.out] at I0 B3 HB3 hg ⊢
  clear hV B2 HB2
  refine wp_loop_rounds 4 ?_
  obtain ⟨U0, hU0, n0⟩ := next_yes V w2.heap.size ⟨#[97, 98, 99]⟩ 0 I0.out (by decide) (by decide)
  have I1 := Lib.hid hU0.at_
  have B1 := Lib.hid ((hU0.block w.heap.size (Nat.ne_of_lt hz2)).trans B3.out)
  have HB1 := Lib.hid (HB3.out.setI (Nat.le_of_lt hz2) hU0)
  have hg1 : w2.heap.size < U0.heap.size := by rw [hU0.size]; exact hg
  have cx := cell_of_row _ _ 1 _ _ _ B1.out
  simp only [List.getElem?_toArray, List.getElem?_cons_zero, List.getElem?_cons_succ] at cx
  clear hU0 I0 B3 HB3 hg
  rw [rounds_succ]
  go_wp2_with fail
  refine (Da.out _).mono ?_
  rintro e v0 ⟨rfl, hb⟩
  have I0 := Lib.hid ((hb.block w2.heap.size hg1).trans I1.out)
  have B3 := Lib.hid ((hb.block w.heap.size (Nat.lt_trans hz2 hg1)).trans B1.out)
  have HB3 := Lib.hid (HB1.out.trans (hb.mono (Nat.le_of_lt (Nat.lt_trans hz2 hg1))))
  have hg : w2.heap.size < v0.heap.size := Nat.lt_of_lt_of_le hg1 hb.size
  clear hb I1 B1 HB1 hg1 cx n0
  go_wp2_with fail
  obtain ⟨U1, hU1, n1⟩ := next_yes v0 w2.heap.size ⟨#[97, 98, 99]⟩ 1 I0.out (by decide) (by decide)
  have I1 := Lib.hid hU1.at_
  have B1 := Lib.hid ((hU1.block w.heap.size (Nat.ne_of_lt hz2)).trans B3.out)
  have HB1 := Lib.hid (HB3.out.setI (Nat.le_of_lt hz2) hU1)
  have hg1 : w2.heap.size < U1.heap.size := by rw [hU1.size]; exact hg
  have cx := cell_of_row _ _ 2 _ _ _ B1.out
  simp only [List.getElem?_toArray, List.getElem?_cons_zero, List.getElem?_cons_succ] at cx
  clear hU1 I0 B3 HB3 hg
  rw [rounds_succ]
  go_wp2_with fail
  refine (Db.out _).mono ?_
  rintro e v1 ⟨rfl, hb⟩
  have I0 := Lib.hid ((hb.block w2.heap.size hg1).trans I1.out)
  have B3 := Lib.hid ((hb.block w.heap.size (Nat.lt_trans hz2 hg1)).trans B1.out)
  have HB3 := Lib.hid (HB1.out.trans (hb.mono (Nat.le_of_lt (Nat.lt_trans hz2 hg1))))
  have hg : w2.heap.size < v1.heap.size := Nat.lt_of_lt_of_le hg1 hb.size
  clear hb I1 B1 HB1 hg1 cx n1
  go_wp2_with fail
  obtain ⟨U2, hU2, n2⟩ := next_yes v1 w2.heap.size ⟨#[97, 98, 99]⟩ 2 I0.out (by decide) (by decide)
  have I1 := Lib.hid hU2.at_
  have B1 := Lib.hid ((hU2.block w.heap.size (Nat.ne_of_lt hz2)).trans B3.out)
  have HB1 := Lib.hid (HB3.out.setI (Nat.le_of_lt hz2) hU2)
  have hg1 : w2.heap.size < U2.heap.size := by rw [hU2.size]; exact hg
  have cx := cell_of_row _ _ 3 _ _ _ B1.out
  simp only [List.getElem?_toArray, List.getElem?_cons_zero, List.getElem?_cons_succ] at cx
  clear hU2 I0 B3 HB3 hg
  rw [rounds_succ]
  go_wp2_with fail
  refine (Dc.out _).mono ?_
  rintro e v2 ⟨rfl, hb⟩
  have I0 := Lib.hid ((hb.block w2.heap.size hg1).trans I1.out)
  have B3 := Lib.hid ((hb.block w.heap.size (Nat.lt_trans hz2 hg1)).trans B1.out)
  have HB3 := Lib.hid (HB1.out.trans (hb.mono (Nat.le_of_lt (Nat.lt_trans hz2 hg1))))
  have hg : w2.heap.size < v2.heap.size := Nat.lt_of_lt_of_le hg1 hb.size
  clear hb I1 B1 HB1 hg1 cx n2
  go_wp2_with fail
  have n3 := fun ty => next_no v2 w2.heap.size ⟨#[97, 98, 99]⟩ 3 ty I0.out (by decide)
  rw [rounds_succ]
  go_wp2_with fail
  go_ret
  exact ⟨by rw [← hRe.out]; rfl, HB3.out⟩
set_option maxRecDepth 100000 in
set_option maxHeartbeats 4000000 in
theorem refText_17 (a b c imm : Int) (hi : Ins.Fits ⟨17, a, b, c, imm⟩) (h : encE ⟨17, a, b, c, imm⟩ = 0) (w : World) : Calls Tryd.prog 15 #[insV ⟨17, a, b, c, imm⟩] w (GivesT w ([110, 111, 116, 101, 113, 117, 97, 108] ++ regT a ++ regT b ++ regT c)) := by
  have H := Lib.hid h
  have HI := Lib.hid hi
  obtain ⟨sa, hsa⟩ : ∃ s, Hid (bs (Lib.itoa a) = s) := ⟨_, Lib.hid rfl⟩
  have za : sa.size ≤ 20 := by rw [← hsa.out]; exact itoa_len hi.a
  have Da := Lib.hid (digits_any a hi.a)
  unfold GivesT at Da
  rw [hsa.out] at Da
  obtain ⟨sb, hsb⟩ : ∃ s, Hid (bs (Lib.itoa b) = s) := ⟨_, Lib.hid rfl⟩
  have zb : sb.size ≤ 20 := by rw [← hsb.out]; exact itoa_len hi.b
  have Db := Lib.hid (digits_any b hi.b)
  unfold GivesT at Db
  rw [hsb.out] at Db
  obtain ⟨sc, hsc⟩ : ∃ s, Hid (bs (Lib.itoa c) = s) := ⟨_, Lib.hid rfl⟩
  have zc : sc.size ≤ 20 := by rw [← hsc.out]; exact itoa_len hi.c
  have Dc := Lib.hid (digits_any c hi.c)
  unfold GivesT at Dc
  rw [hsc.out] at Dc
  obtain ⟨R, hR⟩ : ∃ s, Hid (bs ([110, 111, 116, 101, 113, 117, 97, 108] ++ regT a ++ regT b ++ regT c) = s) := ⟨_, Lib.hid rfl⟩
  have hRe := Lib.hid (show bs [110, 111, 116, 101, 113, 117, 97, 108] ++ bs [32, 114] ++ sa ++ bs [32, 114] ++ sb ++ bs [32, 114] ++ sc = R by
    rw [← hR.out]; simp only [← hsa.out, ← hsb.out, ← hsc.out, bs_append, regT, List.append_assoc, List.cons_append, List.nil_append])
  unfold GivesT
  rw [hR.out]
  clear h hi hR hsa hsb hsc
  go_enter Tryd.func15, Tryd.ntmps15
  go_wp2_with fail
  refine (refEncode_any ⟨_, _, _, _, _⟩ HI.out _).mono ?_
  rintro e w1 ⟨rfl, hb1⟩
  rw [H.out]
  have B1 := Lib.hid ((hb1.block w.heap.size (by simp)).trans (heap_alloc_new w _))
  have HB1 := Lib.hid (((Below.refl w.heap.size w).alloc (Nat.le_refl _) (.cells #[.int .i64 17, .int .i64 a, .int .i64 b, .int .i64 c, .int .i64 imm] 23)).trans (hb1.mono (by simp)))
  have hz1 : w.heap.size < w1.heap.size := by have := hb1.size; simp at this; omega
  clear hb1
  go_wp2_with fail
  refine (names_any _).mono ?_
  rintro e w2 ⟨x, y, rfl, hx, hy, hx2, hy2, hN, hF, hb2⟩
  have B2 := Lib.hid ((hb2.block w.heap.size hz1).trans B1.out)
  have HB2 := Lib.hid (HB1.out.trans (hb2.mono (by omega)))
  have hz2 : w.heap.size < w2.heap.size := Nat.lt_of_lt_of_le hz1 hb2.size
  have k1 : w2.cell? ⟨x, 16, none⟩ = some (.string ⟨#[110, 111, 116, 101, 113, 117, 97, 108]⟩) := cell_of_row _ _ 16 _ _ _ hN
  have k2 : w2.cell? ⟨y, 16, none⟩ = some (.string ⟨#[97, 98, 99]⟩) := cell_of_row _ _ 16 _ _ _ hF
  have c0 := cell_of_row _ _ 0 _ _ _ B2.out
  simp only [List.getElem?_toArray, List.getElem?_cons_zero] at c0
  clear hN hF hb2 HB1 B1
  go_wp2_with fail
  clear k1 k2 c0 hx hy hx2 hy2
  have I0 := Lib.hid (World.iter_heap w2 ⟨#[97, 98, 99]⟩ 0)
  have B3 := Lib.hid (show (w2.iter ⟨#[97, 98, 99]⟩ 0).heap[w.heap.size]? = _ from (Below.heap_alloc w2 _ _ hz2).trans B2.out)
  have HB3 := Lib.hid (show Below w.heap.size w (w2.iter ⟨#[97, 98, 99]⟩ 0) from HB2.out.alloc (Nat.le_of_lt hz2) _)
  have hg : w2.heap.size < (w2.iter ⟨#[97, 98, 99]⟩ 0).heap.size := (by show w2.heap.size < (w2.alloc _).heap.size; simp)
  obtain ⟨V, hV⟩ : ∃ V, Hid (w2.iter ⟨#[97, 98, 99]⟩ 0 = V) := ⟨_, Lib.hid rfl⟩
  rw [hV.out] at I0 B3 HB3 hg ⊢
  clear hV B2 HB2
  refine wp_loop_rounds 4 ?_
  obtain ⟨U0, hU0, n0⟩ := next_yes V w2.heap.size ⟨#[97, 98, 99]⟩ 0 I0.out (by decide) (by decide)
  have I1 := Lib.hid hU0.at_
  have B1 := Lib.hid ((hU0.block w.heap.size (Nat.ne_of_lt hz2)).trans B3.out)
  have HB1 := Lib.hid (HB3.out.setI (Nat.le_of_lt hz2) hU0)
  have hg1 : w2.heap.size < U0.heap.size := by rw [hU0.size]; exact hg
  have cx := cell_of_row _ _ 1 _ _ _ B1.out
  simp only [List.getElem?_toArray, List.getElem?_cons_zero, List.getElem?_cons_succ] at cx
  clear hU0 I0 B3 HB3 hg
  rw [rounds_succ]
  go_wp2_with fail
  refine (Da.out _).mono ?_
  rintro e v0 ⟨rfl, hb⟩
  have I0 := Lib.hid ((hb.block w2.heap.size hg1).trans I1.out)
  have B3 := Lib.hid ((hb.block w.heap.size (Nat.lt_trans hz2 hg1)).trans B1.out)
  have HB3 := Lib.hid (HB1.out.trans (hb.mono (Nat.le_of_lt (Nat.lt_trans hz2 hg1))))
  have hg : w2.heap.size < v0.heap.size := Nat.lt_of_lt_of_le hg1 hb.size
  clear hb I1 B1 HB1 hg1 cx n0
  go_wp2_with fail
  obtain ⟨U1, hU1, n1⟩ := next_yes v0 w2.heap.size ⟨#[97, 98, 99]⟩ 1 I0.out (by decide) (by decide)
  have I1 := Lib.hid hU1.at_
  have B1 := Lib.hid ((hU1.block w.heap.size (Nat.ne_of_lt hz2)).trans B3.out)
  have HB1 := Lib.hid (HB3.out.setI (Nat.le_of_lt hz2) hU1)
  have hg1 : w2.heap.size < U1.heap.size := by rw [hU1.size]; exact hg
  have cx := cell_of_row _ _ 2 _ _ _ B1.out
  simp only [List.getElem?_toArray, List.getElem?_cons_zero, List.getElem?_cons_succ] at cx
  clear hU1 I0 B3 HB3 hg
  rw [rounds_succ]
  go_wp2_with fail
  refine (Db.out _).mono ?_
  rintro e v1 ⟨rfl, hb⟩
  have I0 := Lib.hid ((hb.block w2.heap.size hg1).trans I1.out)
  have B3 := Lib.hid ((hb.block w.heap.size (Nat.lt_trans hz2 hg1)).trans B1.out)
  have HB3 := Lib.hid (HB1.out.trans (hb.mono (Nat.le_of_lt (Nat.lt_trans hz2 hg1))))
  have hg : w2.heap.size < v1.heap.size := Nat.lt_of_lt_of_le hg1 hb.size
  clear hb I1 B1 HB1 hg1 cx n1
  go_wp2_with fail
  obtain ⟨U2, hU2, n2⟩ := next_yes v1 w2.heap.size ⟨#[97, 98, 99]⟩ 2 I0.out (by decide) (by decide)
  have I1 := Lib.hid hU2.at_
  have B1 := Lib.hid ((hU2.block w.heap.size (Nat.ne_of_lt hz2)).trans B3.out)
  have HB1 := Lib.hid (HB3.out.setI (Nat.le_of_lt hz2) hU2)
  have hg1 : w2.heap.size < U2.heap.size := by rw [hU2.size]; exact hg
  have cx := cell_of_row _ _ 3 _ _ _ B1.out
  simp only [List.getElem?_toArray, List.getElem?_cons_zero, List.getElem?_cons_succ] at cx
  clear hU2 I0 B3 HB3 hg
  rw [rounds_succ]
  go_wp2_with fail
  refine (Dc.out _).mono ?_
  rintro e v2 ⟨rfl, hb⟩
  have I0 := Lib.hid ((hb.block w2.heap.size hg1).trans I1.out)
  have B3 := Lib.hid ((hb.block w.heap.size (Nat.lt_trans hz2 hg1)).trans B1.out)
  have HB3 := Lib.hid (HB1.out.trans (hb.mono (Nat.le_of_lt (Nat.lt_trans hz2 hg1))))
  have hg : w2.heap.size < v2.heap.size := Nat.lt_of_lt_of_le hg1 hb.size
  clear hb I1 B1 HB1 hg1 cx n2
  go_wp2_with fail
  have n3 := fun ty => next_no v2 w2.heap.size ⟨#[97, 98, 99]⟩ 3 ty I0.out (by decide)
  rw [rounds_succ]
  go_wp2_with fail
  go_ret
  exact ⟨by rw [← hRe.out]; rfl, HB3.out⟩
set_option maxRecDepth 100000 in
set_option maxHeartbeats 4000000 in
theorem refText_18 (a b c imm : Int) (hi : Ins.Fits ⟨18, a, b, c, imm⟩) (h : encE ⟨18, a, b, c, imm⟩ = 0) (w : World) : Calls Tryd.prog 15 #[insV ⟨18, a, b, c, imm⟩] w (GivesT w ([97, 100, 100, 105, 109, 109] ++ regT a ++ regT b ++ 32 :: Lib.itoa imm)) := by
  have H := Lib.hid h
  have HI := Lib.hid hi
  obtain ⟨sa, hsa⟩ : ∃ s, Hid (bs (Lib.itoa a) = s) := ⟨_, Lib.hid rfl⟩
  have za : sa.size ≤ 20 := by rw [← hsa.out]; exact itoa_len hi.a
  have Da := Lib.hid (digits_any a hi.a)
  unfold GivesT at Da
  rw [hsa.out] at Da
  obtain ⟨sb, hsb⟩ : ∃ s, Hid (bs (Lib.itoa b) = s) := ⟨_, Lib.hid rfl⟩
  have zb : sb.size ≤ 20 := by rw [← hsb.out]; exact itoa_len hi.b
  have Db := Lib.hid (digits_any b hi.b)
  unfold GivesT at Db
  rw [hsb.out] at Db
  obtain ⟨si, hsi⟩ : ∃ s, Hid (bs (Lib.itoa imm) = s) := ⟨_, Lib.hid rfl⟩
  have zi : si.size ≤ 20 := by rw [← hsi.out]; exact itoa_len hi.imm
  have Di := Lib.hid (digits_any imm hi.imm)
  unfold GivesT at Di
  rw [hsi.out] at Di
  obtain ⟨R, hR⟩ : ∃ s, Hid (bs ([97, 100, 100, 105, 109, 109] ++ regT a ++ regT b ++ 32 :: Lib.itoa imm) = s) := ⟨_, Lib.hid rfl⟩
  have hRe := Lib.hid (show bs [97, 100, 100, 105, 109, 109] ++ bs [32, 114] ++ sa ++ bs [32, 114] ++ sb ++ bs [32] ++ si = R by
    rw [← hR.out]; simp only [← hsa.out, ← hsb.out, ← hsi.out, bs_append, regT, List.append_assoc, List.cons_append, List.nil_append])
  unfold GivesT
  rw [hR.out]
  clear h hi hR hsa hsb hsi
  go_enter Tryd.func15, Tryd.ntmps15
  go_wp2_with fail
  refine (refEncode_any ⟨_, _, _, _, _⟩ HI.out _).mono ?_
  rintro e w1 ⟨rfl, hb1⟩
  rw [H.out]
  have B1 := Lib.hid ((hb1.block w.heap.size (by simp)).trans (heap_alloc_new w _))
  have HB1 := Lib.hid (((Below.refl w.heap.size w).alloc (Nat.le_refl _) (.cells #[.int .i64 18, .int .i64 a, .int .i64 b, .int .i64 c, .int .i64 imm] 23)).trans (hb1.mono (by simp)))
  have hz1 : w.heap.size < w1.heap.size := by have := hb1.size; simp at this; omega
  clear hb1
  go_wp2_with fail
  refine (names_any _).mono ?_
  rintro e w2 ⟨x, y, rfl, hx, hy, hx2, hy2, hN, hF, hb2⟩
  have B2 := Lib.hid ((hb2.block w.heap.size hz1).trans B1.out)
  have HB2 := Lib.hid (HB1.out.trans (hb2.mono (by omega)))
  have hz2 : w.heap.size < w2.heap.size := Nat.lt_of_lt_of_le hz1 hb2.size
  have k1 : w2.cell? ⟨x, 17, none⟩ = some (.string ⟨#[97, 100, 100, 105, 109, 109]⟩) := cell_of_row _ _ 17 _ _ _ hN
  have k2 : w2.cell? ⟨y, 17, none⟩ = some (.string ⟨#[97, 98, 105]⟩) := cell_of_row _ _ 17 _ _ _ hF
  have c0 := cell_of_row _ _ 0 _ _ _ B2.out
  simp only [List.getElem?_toArray, List.getElem?_cons_zero] at c0
  clear hN hF hb2 HB1 B1
  go_wp2_with fail
  clear k1 k2 c0 hx hy hx2 hy2
  have I0 := Lib.hid (World.iter_heap w2 ⟨#[97, 98, 105]⟩ 0)
  have B3 := Lib.hid (show (w2.iter ⟨#[97, 98, 105]⟩ 0).heap[w.heap.size]? = _ from (Below.heap_alloc w2 _ _ hz2).trans B2.out)
  have HB3 := Lib.hid (show Below w.heap.size w (w2.iter ⟨#[97, 98, 105]⟩ 0) from HB2.out.alloc (Nat.le_of_lt hz2) _)
  have hg : w2.heap.size < (w2.iter ⟨#[97, 98, 105]⟩ 0).heap.size := (by show w2.heap.size < (w2.alloc _).heap.size; simp)
  obtain ⟨V, hV⟩ : ∃ V, Hid (w2.iter ⟨#[97, 98, 105]⟩ 0 = V) := ⟨_, Lib.hid rfl⟩
  rw [hV.out] at I0 B3 HB3 hg ⊢
  clear hV B2 HB2
  refine wp_loop_rounds 4 ?_
  obtain ⟨U0, hU0, n0⟩ := next_yes V w2.heap.size ⟨#[97, 98, 105]⟩ 0 I0.out (by decide) (by decide)
  have I1 := Lib.hid hU0.at_
  have B1 := Lib.hid ((hU0.block w.heap.size (Nat.ne_of_lt hz2)).trans B3.out)
  have HB1 := Lib.hid (HB3.out.setI (Nat.le_of_lt hz2) hU0)
  have hg1 : w2.heap.size < U0.heap.size := by rw [hU0.size]; exact hg
  have cx := cell_of_row _ _ 1 _ _ _ B1.out
  simp only [List.getElem?_toArray, List.getElem?_cons_zero, List.getElem?_cons_succ] at cx
  clear hU0 I0 B3 HB3 hg
  rw [rounds_succ]
  go_wp2_with fail
  refine (Da.out _).mono ?_
  rintro e v0 ⟨rfl, hb⟩
  have I0 := Lib.hid ((hb.block w2.heap.size hg1).trans I1.out)
  have B3 := Lib.hid ((hb.block w.heap.size (Nat.lt_trans hz2 hg1)).trans B1.out)
  have HB3 := Lib.hid (HB1.out.trans (hb.mono (Nat.le_of_lt (Nat.lt_trans hz2 hg1))))
  have hg : w2.heap.size < v0.heap.size := Nat.lt_of_lt_of_le hg1 hb.size
  clear hb I1 B1 HB1 hg1 cx n0
  go_wp2_with fail
  obtain ⟨U1, hU1, n1⟩ := next_yes v0 w2.heap.size ⟨#[97, 98, 105]⟩ 1 I0.out (by decide) (by decide)
  have I1 := Lib.hid hU1.at_
  have B1 := Lib.hid ((hU1.block w.heap.size (Nat.ne_of_lt hz2)).trans B3.out)
  have HB1 := Lib.hid (HB3.out.setI (Nat.le_of_lt hz2) hU1)
  have hg1 : w2.heap.size < U1.heap.size := by rw [hU1.size]; exact hg
  have cx := cell_of_row _ _ 2 _ _ _ B1.out
  simp only [List.getElem?_toArray, List.getElem?_cons_zero, List.getElem?_cons_succ] at cx
  clear hU1 I0 B3 HB3 hg
  rw [rounds_succ]
  go_wp2_with fail
  refine (Db.out _).mono ?_
  rintro e v1 ⟨rfl, hb⟩
  have I0 := Lib.hid ((hb.block w2.heap.size hg1).trans I1.out)
  have B3 := Lib.hid ((hb.block w.heap.size (Nat.lt_trans hz2 hg1)).trans B1.out)
  have HB3 := Lib.hid (HB1.out.trans (hb.mono (Nat.le_of_lt (Nat.lt_trans hz2 hg1))))
  have hg : w2.heap.size < v1.heap.size := Nat.lt_of_lt_of_le hg1 hb.size
  clear hb I1 B1 HB1 hg1 cx n1
  go_wp2_with fail
  obtain ⟨U2, hU2, n2⟩ := next_yes v1 w2.heap.size ⟨#[97, 98, 105]⟩ 2 I0.out (by decide) (by decide)
  have I1 := Lib.hid hU2.at_
  have B1 := Lib.hid ((hU2.block w.heap.size (Nat.ne_of_lt hz2)).trans B3.out)
  have HB1 := Lib.hid (HB3.out.setI (Nat.le_of_lt hz2) hU2)
  have hg1 : w2.heap.size < U2.heap.size := by rw [hU2.size]; exact hg
  have cx := cell_of_row _ _ 4 _ _ _ B1.out
  simp only [List.getElem?_toArray, List.getElem?_cons_zero, List.getElem?_cons_succ] at cx
  clear hU2 I0 B3 HB3 hg
  rw [rounds_succ]
  go_wp2_with fail
  refine (Di.out _).mono ?_
  rintro e v2 ⟨rfl, hb⟩
  have I0 := Lib.hid ((hb.block w2.heap.size hg1).trans I1.out)
  have B3 := Lib.hid ((hb.block w.heap.size (Nat.lt_trans hz2 hg1)).trans B1.out)
  have HB3 := Lib.hid (HB1.out.trans (hb.mono (Nat.le_of_lt (Nat.lt_trans hz2 hg1))))
  have hg : w2.heap.size < v2.heap.size := Nat.lt_of_lt_of_le hg1 hb.size
  clear hb I1 B1 HB1 hg1 cx n2
  go_wp2_with fail
  have n3 := fun ty => next_no v2 w2.heap.size ⟨#[97, 98, 105]⟩ 3 ty I0.out (by decide)
  rw [rounds_succ]
  go_wp2_with fail
  go_ret
  exact ⟨by rw [← hRe.out]; rfl, HB3.out⟩
set_option maxRecDepth 100000 in
set_option maxHeartbeats 4000000 in
theorem refText_19 (a b c imm : Int) (hi : Ins.Fits ⟨19, a, b, c, imm⟩) (h : encE ⟨19, a, b, c, imm⟩ = 0) (w : World) : Calls Tryd.prog 15 #[insV ⟨19, a, b, c, imm⟩] w (GivesT w ([108, 111, 97, 100] ++ regT a ++ regT b ++ 32 :: Lib.itoa imm)) := by
  have H := Lib.hid h
  have HI := Lib.hid hi
  obtain ⟨sa, hsa⟩ : ∃ s, Hid (bs (Lib.itoa a) = s) := ⟨_, Lib.hid rfl⟩
  have za : sa.size ≤ 20 := by rw [← hsa.out]; exact itoa_len hi.a
  have Da := Lib.hid (digits_any a hi.a)
  unfold GivesT at Da
  rw [hsa.out] at Da
  obtain ⟨sb, hsb⟩ : ∃ s, Hid (bs (Lib.itoa b) = s) := ⟨_, Lib.hid rfl⟩
  have zb : sb.size ≤ 20 := by rw [← hsb.out]; exact itoa_len hi.b
  have Db := Lib.hid (digits_any b hi.b)
  unfold GivesT at Db
  rw [hsb.out] at Db
  obtain ⟨si, hsi⟩ : ∃ s, Hid (bs (Lib.itoa imm) = s) := ⟨_, Lib.hid rfl⟩
  have zi : si.size ≤ 20 := by rw [← hsi.out]; exact itoa_len hi.imm
  have Di := Lib.hid (digits_any imm hi.imm)
  unfold GivesT at Di
  rw [hsi.out] at Di
  obtain ⟨R, hR⟩ : ∃ s, Hid (bs ([108, 111, 97, 100] ++ regT a ++ regT b ++ 32 :: Lib.itoa imm) = s) := ⟨_, Lib.hid rfl⟩
  have hRe := Lib.hid (show bs [108, 111, 97, 100] ++ bs [32, 114] ++ sa ++ bs [32, 114] ++ sb ++ bs [32] ++ si = R by
    rw [← hR.out]; simp only [← hsa.out, ← hsb.out, ← hsi.out, bs_append, regT, List.append_assoc, List.cons_append, List.nil_append])
  unfold GivesT
  rw [hR.out]
  clear h hi hR hsa hsb hsi
  go_enter Tryd.func15, Tryd.ntmps15
  go_wp2_with fail
  refine (refEncode_any ⟨_, _, _, _, _⟩ HI.out _).mono ?_
  rintro e w1 ⟨rfl, hb1⟩
  rw [H.out]
  have B1 := Lib.hid ((hb1.block w.heap.size (by simp)).trans (heap_alloc_new w _))
  have HB1 := Lib.hid (((Below.refl w.heap.size w).alloc (Nat.le_refl _) (.cells #[.int .i64 19, .int .i64 a, .int .i64 b, .int .i64 c, .int .i64 imm] 23)).trans (hb1.mono (by simp)))
  have hz1 : w.heap.size < w1.heap.size := by have := hb1.size; simp at this; omega
  clear hb1
  go_wp2_with fail
  refine (names_any _).mono ?_
  rintro e w2 ⟨x, y, rfl, hx, hy, hx2, hy2, hN, hF, hb2⟩
  have B2 := Lib.hid ((hb2.block w.heap.size hz1).trans B1.out)
  have HB2 := Lib.hid (HB1.out.trans (hb2.mono (by omega)))
  have hz2 : w.heap.size < w2.heap.size := Nat.lt_of_lt_of_le hz1 hb2.size
  have k1 : w2.cell? ⟨x, 18, none⟩ = some (.string ⟨#[108, 111, 97, 100]⟩) := cell_of_row _ _ 18 _ _ _ hN
  have k2 : w2.cell? ⟨y, 18, none⟩ = some (.string ⟨#[97, 98, 105]⟩) := cell_of_row _ _ 18 _ _ _ hF
  have c0 := cell_of_row _ _ 0 _ _ _ B2.out
  simp only [List.getElem?_toArray, List.getElem?_cons_zero] at c0
  clear hN hF hb2 HB1 B1
  go_wp2_with fail
  clear k1 k2 c0 hx hy hx2 hy2
  have I0 := Lib.hid (World.iter_heap w2 ⟨#[97, 98, 105]⟩ 0)
  have B3 := Lib.hid (show (w2.iter ⟨#[97, 98, 105]⟩ 0).heap[w.heap.size]? = _ from (Below.heap_alloc w2 _ _ hz2).trans B2.out)
  have HB3 := Lib.hid (show Below w.heap.size w (w2.iter ⟨#[97, 98, 105]⟩ 0) from HB2.out.alloc (Nat.le_of_lt hz2) _)
  have hg : w2.heap.size < (w2.iter ⟨#[97, 98, 105]⟩ 0).heap.size := (by show w2.heap.size < (w2.alloc _).heap.size; simp)
  obtain ⟨V, hV⟩ : ∃ V, Hid (w2.iter ⟨#[97, 98, 105]⟩ 0 = V) := ⟨_, Lib.hid rfl⟩
  rw [hV.out] at I0 B3 HB3 hg ⊢
  clear hV B2 HB2
  refine wp_loop_rounds 4 ?_
  obtain ⟨U0, hU0, n0⟩ := next_yes V w2.heap.size ⟨#[97, 98, 105]⟩ 0 I0.out (by decide) (by decide)
  have I1 := Lib.hid hU0.at_
  have B1 := Lib.hid ((hU0.block w.heap.size (Nat.ne_of_lt hz2)).trans B3.out)
  have HB1 := Lib.hid (HB3.out.setI (Nat.le_of_lt hz2) hU0)
  have hg1 : w2.heap.size < U0.heap.size := by rw [hU0.size]; exact hg
  have cx := cell_of_row _ _ 1 _ _ _ B1.out
  simp only [List.getElem?_toArray, List.getElem?_cons_zero, List.getElem?_cons_succ] at cx
  clear hU0 I0 B3 HB3 hg
  rw [rounds_succ]
  go_wp2_with fail
  refine (Da.out _).mono ?_
  rintro e v0 ⟨rfl, hb⟩
  have I0 := Lib.hid ((hb.block w2.heap.size hg1).trans I1.out)
  have B3 := Lib.hid ((hb.block w.heap.size (Nat.lt_trans hz2 hg1)).trans B1.out)
  have HB3 := Lib.hid (HB1.out.trans (hb.mono (Nat.le_of_lt (Nat.lt_trans hz2 hg1))))
  have hg : w2.heap.size < v0.heap.size := Nat.lt_of_lt_of_le hg1 hb.size
  clear hb I1 B1 HB1 hg1 cx n0
  go_wp2_with fail
  obtain ⟨U1, hU1, n1⟩ := next_yes v0 w2.heap.size ⟨#[97, 98, 105]⟩ 1 I0.out (by decide) (by decide)
  have I1 := Lib.hid hU1.at_
  have B1 := Lib.hid ((hU1.block w.heap.size (Nat.ne_of_lt hz2)).trans B3.out)
  have HB1 := Lib.hid (HB3.out.setI (Nat.le_of_lt hz2) hU1)
  have hg1 : w2.heap.size < U1.heap.size := by rw [hU1.size]; exact hg
  have cx := cell_of_row _ _ 2 _ _ _ B1.out
  simp only [List.getElem?_toArray, List.getElem?_cons_zero, List.getElem?_cons_succ] at cx
  clear hU1 I0 B3 HB3 hg
  rw [rounds_succ]
  go_wp2_with fail
  refine (Db.out _).mono ?_
  rintro e v1 ⟨rfl, hb⟩
  have I0 := Lib.hid ((hb.block w2.heap.size hg1).trans I1.out)
  have B3 := Lib.hid ((hb.block w.heap.size (Nat.lt_trans hz2 hg1)).trans B1.out)
  have HB3 := Lib.hid (HB1.out.trans (hb.mono (Nat.le_of_lt (Nat.lt_trans hz2 hg1))))
  have hg : w2.heap.size < v1.heap.size := Nat.lt_of_lt_of_le hg1 hb.size
  clear hb I1 B1 HB1 hg1 cx n1
  go_wp2_with fail
  obtain ⟨U2, hU2, n2⟩ := next_yes v1 w2.heap.size ⟨#[97, 98, 105]⟩ 2 I0.out (by decide) (by decide)
  have I1 := Lib.hid hU2.at_
  have B1 := Lib.hid ((hU2.block w.heap.size (Nat.ne_of_lt hz2)).trans B3.out)
  have HB1 := Lib.hid (HB3.out.setI (Nat.le_of_lt hz2) hU2)
  have hg1 : w2.heap.size < U2.heap.size := by rw [hU2.size]; exact hg
  have cx := cell_of_row _ _ 4 _ _ _ B1.out
  simp only [List.getElem?_toArray, List.getElem?_cons_zero, List.getElem?_cons_succ] at cx
  clear hU2 I0 B3 HB3 hg
  rw [rounds_succ]
  go_wp2_with fail
  refine (Di.out _).mono ?_
  rintro e v2 ⟨rfl, hb⟩
  have I0 := Lib.hid ((hb.block w2.heap.size hg1).trans I1.out)
  have B3 := Lib.hid ((hb.block w.heap.size (Nat.lt_trans hz2 hg1)).trans B1.out)
  have HB3 := Lib.hid (HB1.out.trans (hb.mono (Nat.le_of_lt (Nat.lt_trans hz2 hg1))))
  have hg : w2.heap.size < v2.heap.size := Nat.lt_of_lt_of_le hg1 hb.size
  clear hb I1 B1 HB1 hg1 cx n2
  go_wp2_with fail
  have n3 := fun ty => next_no v2 w2.heap.size ⟨#[97, 98, 105]⟩ 3 ty I0.out (by decide)
  rw [rounds_succ]
  go_wp2_with fail
  go_ret
  exact ⟨by rw [← hRe.out]; rfl, HB3.out⟩
set_option maxRecDepth 100000 in
set_option maxHeartbeats 4000000 in
theorem refText_20 (a b c imm : Int) (hi : Ins.Fits ⟨20, a, b, c, imm⟩) (h : encE ⟨20, a, b, c, imm⟩ = 0) (w : World) : Calls Tryd.prog 15 #[insV ⟨20, a, b, c, imm⟩] w (GivesT w ([115, 116, 111, 114, 101] ++ regT a ++ regT b ++ 32 :: Lib.itoa imm)) := by
  have H := Lib.hid h
  have HI := Lib.hid hi
  obtain ⟨sa, hsa⟩ : ∃ s, Hid (bs (Lib.itoa a) = s) := ⟨_, Lib.hid rfl⟩
  have za : sa.size ≤ 20 := by rw [← hsa.out]; exact itoa_len hi.a
  have Da := Lib.hid (digits_any a hi.a)
  unfold GivesT at Da
  rw [hsa.out] at Da
  obtain ⟨sb, hsb⟩ : ∃ s, Hid (bs (Lib.itoa b) = s) := ⟨_, Lib.hid rfl⟩
  have zb : sb.size ≤ 20 := by rw [← hsb.out]; exact itoa_len hi.b
  have Db := Lib.hid (digits_any b hi.b)
  unfold GivesT at Db
  rw [hsb.out] at Db
  obtain ⟨si, hsi⟩ : ∃ s, Hid (bs (Lib.itoa imm) = s) := ⟨_, Lib.hid rfl⟩
  have zi : si.size ≤ 20 := by rw [← hsi.out]; exact itoa_len hi.imm
  have Di := Lib.hid (digits_any imm hi.imm)
  unfold GivesT at Di
  rw [hsi.out] at Di
  obtain ⟨R, hR⟩ : ∃ s, Hid (bs ([115, 116, 111, 114, 101] ++ regT a ++ regT b ++ 32 :: Lib.itoa imm) = s) := ⟨_, Lib.hid rfl⟩
  have hRe := Lib.hid (show bs [115, 116, 111, 114, 101] ++ bs [32, 114] ++ sa ++ bs [32, 114] ++ sb ++ bs [32] ++ si = R by
    rw [← hR.out]; simp only [← hsa.out, ← hsb.out, ← hsi.out, bs_append, regT, List.append_assoc, List.cons_append, List.nil_append])
  unfold GivesT
  rw [hR.out]
  clear h hi hR hsa hsb hsi
  go_enter Tryd.func15, Tryd.ntmps15
  go_wp2_with fail
  refine (refEncode_any ⟨_, _, _, _, _⟩ HI.out _).mono ?_
  rintro e w1 ⟨rfl, hb1⟩
  rw [H.out]
  have B1 := Lib.hid ((hb1.block w.heap.size (by simp)).trans (heap_alloc_new w _))
  have HB1 := Lib.hid (((Below.refl w.heap.size w).alloc (Nat.le_refl _) (.cells #[.int .i64 20, .int .i64 a, .int .i64 b, .int .i64 c, .int .i64 imm] 23)).trans (hb1.mono (by simp)))
  have hz1 : w.heap.size < w1.heap.size := by have := hb1.size; simp at this; omega
  clear hb1
  go_wp2_with fail
  refine (names_any _).mono ?_
  rintro e w2 ⟨x, y, rfl, hx, hy, hx2, hy2, hN, hF, hb2⟩
  have B2 := Lib.hid ((hb2.block w.heap.size hz1).trans B1.out)
  have HB2 := Lib.hid (HB1.out.trans (hb2.mono (by omega)))
  have hz2 : w.heap.size < w2.heap.size := Nat.lt_of_lt_of_le hz1 hb2.size
  have k1 : w2.cell? ⟨x, 19, none⟩ = some (.string ⟨#[115, 116, 111, 114, 101]⟩) := cell_of_row _ _ 19 _ _ _ hN
  have k2 : w2.cell? ⟨y, 19, none⟩ = some (.string ⟨#[97, 98, 105]⟩) := cell_of_row _ _ 19 _ _ _ hF
  have c0 := cell_of_row _ _ 0 _ _ _ B2.out
  simp only [List.getElem?_toArray, List.getElem?_cons_zero] at c0
  clear hN hF hb2 HB1 B1
  go_wp2_with fail
  clear k1 k2 c0 hx hy hx2 hy2
  have I0 := Lib.hid (World.iter_heap w2 ⟨#[97, 98, 105]⟩ 0)
  have B3 := Lib.hid (show (w2.iter ⟨#[97, 98, 105]⟩ 0).heap[w.heap.size]? = _ from (Below.heap_alloc w2 _ _ hz2).trans B2.out)
  have HB3 := Lib.hid (show Below w.heap.size w (w2.iter ⟨#[97, 98, 105]⟩ 0) from HB2.out.alloc (Nat.le_of_lt hz2) _)
  have hg : w2.heap.size < (w2.iter ⟨#[97, 98, 105]⟩ 0).heap.size := (by show w2.heap.size < (w2.alloc _).heap.size; simp)
  obtain ⟨V, hV⟩ : ∃ V, Hid (w2.iter ⟨#[97, 98, 105]⟩ 0 = V) := ⟨_, Lib.hid rfl⟩
  rw [hV.out] at I0 B3 HB3 hg ⊢
  clear hV B2 HB2
  refine wp_loop_rounds 4 ?_
  obtain ⟨U0, hU0, n0⟩ := next_yes V w2.heap.size ⟨#[97, 98, 105]⟩ 0 I0.out (by decide) (by decide)
  have I1 := Lib.hid hU0.at_
  have B1 := Lib.hid ((hU0.block w.heap.size (Nat.ne_of_lt hz2)).trans B3.out)
  have HB1 := Lib.hid (HB3.out.setI (Nat.le_of_lt hz2) hU0)
  have hg1 : w2.heap.size < U0.heap.size := by rw [hU0.size]; exact hg
  have cx := cell_of_row _ _ 1 _ _ _ B1.out
  simp only [List.getElem?_toArray, List.getElem?_cons_zero, List.getElem?_cons_succ] at cx
  clear hU0 I0 B3 HB3 hg
  rw [rounds_succ]
  go_wp2_with fail
  refine (Da.out _).mono ?_
  rintro e v0 ⟨rfl, hb⟩
  have I0 := Lib.hid ((hb.block w2.heap.size hg1).trans I1.out)
  have B3 := Lib.hid ((hb.block w.heap.size (Nat.lt_trans hz2 hg1)).trans B1.out)
  have HB3 := Lib.hid (HB1.out.trans (hb.mono (Nat.le_of_lt (Nat.lt_trans hz2 hg1))))
  have hg : w2.heap.size < v0.heap.size := Nat.lt_of_lt_of_le hg1 hb.size
  clear hb I1 B1 HB1 hg1 cx n0
  go_wp2_with fail
  obtain ⟨U1, hU1, n1⟩ := next_yes v0 w2.heap.size ⟨#[97, 98, 105]⟩ 1 I0.out (by decide) (by decide)
  have I1 := Lib.hid hU1.at_
  have B1 := Lib.hid ((hU1.block w.heap.size (Nat.ne_of_lt hz2)).trans B3.out)
  have HB1 := Lib.hid (HB3.out.setI (Nat.le_of_lt hz2) hU1)
  have hg1 : w2.heap.size < U1.heap.size := by rw [hU1.size]; exact hg
  have cx := cell_of_row _ _ 2 _ _ _ B1.out
  simp only [List.getElem?_toArray, List.getElem?_cons_zero, List.getElem?_cons_succ] at cx
  clear hU1 I0 B3 HB3 hg
  rw [rounds_succ]
  go_wp2_with fail
  refine (Db.out _).mono ?_
  rintro e v1 ⟨rfl, hb⟩
  have I0 := Lib.hid ((hb.block w2.heap.size hg1).trans I1.out)
  have B3 := Lib.hid ((hb.block w.heap.size (Nat.lt_trans hz2 hg1)).trans B1.out)
  have HB3 := Lib.hid (HB1.out.trans (hb.mono (Nat.le_of_lt (Nat.lt_trans hz2 hg1))))
  have hg : w2.heap.size < v1.heap.size := Nat.lt_of_lt_of_le hg1 hb.size
  clear hb I1 B1 HB1 hg1 cx n1
  go_wp2_with fail
  obtain ⟨U2, hU2, n2⟩ := next_yes v1 w2.heap.size ⟨#[97, 98, 105]⟩ 2 I0.out (by decide) (by decide)
  have I1 := Lib.hid hU2.at_
  have B1 := Lib.hid ((hU2.block w.heap.size (Nat.ne_of_lt hz2)).trans B3.out)
  have HB1 := Lib.hid (HB3.out.setI (Nat.le_of_lt hz2) hU2)
  have hg1 : w2.heap.size < U2.heap.size := by rw [hU2.size]; exact hg
  have cx := cell_of_row _ _ 4 _ _ _ B1.out
  simp only [List.getElem?_toArray, List.getElem?_cons_zero, List.getElem?_cons_succ] at cx
  clear hU2 I0 B3 HB3 hg
  rw [rounds_succ]
  go_wp2_with fail
  refine (Di.out _).mono ?_
  rintro e v2 ⟨rfl, hb⟩
  have I0 := Lib.hid ((hb.block w2.heap.size hg1).trans I1.out)
  have B3 := Lib.hid ((hb.block w.heap.size (Nat.lt_trans hz2 hg1)).trans B1.out)
  have HB3 := Lib.hid (HB1.out.trans (hb.mono (Nat.le_of_lt (Nat.lt_trans hz2 hg1))))
  have hg : w2.heap.size < v2.heap.size := Nat.lt_of_lt_of_le hg1 hb.size
  clear hb I1 B1 HB1 hg1 cx n2
  go_wp2_with fail
  have n3 := fun ty => next_no v2 w2.heap.size ⟨#[97, 98, 105]⟩ 3 ty I0.out (by decide)
  rw [rounds_succ]
  go_wp2_with fail
  go_ret
  exact ⟨by rw [← hRe.out]; rfl, HB3.out⟩
set_option maxRecDepth 100000 in
set_option maxHeartbeats 4000000 in
theorem refText_21 (a b c imm : Int) (hi : Ins.Fits ⟨21, a, b, c, imm⟩) (h : encE ⟨21, a, b, c, imm⟩ = 0) (w : World) : Calls Tryd.prog 15 #[insV ⟨21, a, b, c, imm⟩] w (GivesT w ([106, 117, 109, 112] ++ 32 :: Lib.itoa imm)) := by
  have H := Lib.hid h
  have HI := Lib.hid hi
  obtain ⟨si, hsi⟩ : ∃ s, Hid (bs (Lib.itoa imm) = s) := ⟨_, Lib.hid rfl⟩
  have zi : si.size ≤ 20 := by rw [← hsi.out]; exact itoa_len hi.imm
  have Di := Lib.hid (digits_any imm hi.imm)
  unfold GivesT at Di
  rw [hsi.out] at Di
  obtain ⟨R, hR⟩ : ∃ s, Hid (bs ([106, 117, 109, 112] ++ 32 :: Lib.itoa imm) = s) := ⟨_, Lib.hid rfl⟩
  have hRe := Lib.hid (show bs [106, 117, 109, 112] ++ bs [32] ++ si = R by
    rw [← hR.out]; simp only [← hsi.out, bs_append, List.cons_append, List.nil_append])
  unfold GivesT
  rw [hR.out]
  clear h hi hR hsi
  go_enter Tryd.func15, Tryd.ntmps15
  go_wp2_with fail
  refine (refEncode_any ⟨_, _, _, _, _⟩ HI.out _).mono ?_
  rintro e w1 ⟨rfl, hb1⟩
  rw [H.out]
  have B1 := Lib.hid ((hb1.block w.heap.size (by simp)).trans (heap_alloc_new w _))
  have HB1 := Lib.hid (((Below.refl w.heap.size w).alloc (Nat.le_refl _) (.cells #[.int .i64 21, .int .i64 a, .int .i64 b, .int .i64 c, .int .i64 imm] 23)).trans (hb1.mono (by simp)))
  have hz1 : w.heap.size < w1.heap.size := by have := hb1.size; simp at this; omega
  clear hb1
  go_wp2_with fail
  refine (names_any _).mono ?_
  rintro e w2 ⟨x, y, rfl, hx, hy, hx2, hy2, hN, hF, hb2⟩
  have B2 := Lib.hid ((hb2.block w.heap.size hz1).trans B1.out)
  have HB2 := Lib.hid (HB1.out.trans (hb2.mono (by omega)))
  have hz2 : w.heap.size < w2.heap.size := Nat.lt_of_lt_of_le hz1 hb2.size
  have k1 : w2.cell? ⟨x, 20, none⟩ = some (.string ⟨#[106, 117, 109, 112]⟩) := cell_of_row _ _ 20 _ _ _ hN
  have k2 : w2.cell? ⟨y, 20, none⟩ = some (.string ⟨#[105]⟩) := cell_of_row _ _ 20 _ _ _ hF
  have c0 := cell_of_row _ _ 0 _ _ _ B2.out
  simp only [List.getElem?_toArray, List.getElem?_cons_zero] at c0
  clear hN hF hb2 HB1 B1
  go_wp2_with fail
  clear k1 k2 c0 hx hy hx2 hy2
  have I0 := Lib.hid (World.iter_heap w2 ⟨#[105]⟩ 0)
  have B3 := Lib.hid (show (w2.iter ⟨#[105]⟩ 0).heap[w.heap.size]? = _ from (Below.heap_alloc w2 _ _ hz2).trans B2.out)
  have HB3 := Lib.hid (show Below w.heap.size w (w2.iter ⟨#[105]⟩ 0) from HB2.out.alloc (Nat.le_of_lt hz2) _)
  have hg : w2.heap.size < (w2.iter ⟨#[105]⟩ 0).heap.size := (by show w2.heap.size < (w2.alloc _).heap.size; simp)
  obtain ⟨V, hV⟩ : ∃ V, Hid (w2.iter ⟨#[105]⟩ 0 = V) := ⟨_, Lib.hid rfl⟩
  rw [hV.out] at I0 B3 HB3 hg ⊢
  clear hV B2 HB2
  refine wp_loop_rounds 2 ?_
  obtain ⟨U0, hU0, n0⟩ := next_yes V w2.heap.size ⟨#[105]⟩ 0 I0.out (by decide) (by decide)
  have I1 := Lib.hid hU0.at_
  have B1 := Lib.hid ((hU0.block w.heap.size (Nat.ne_of_lt hz2)).trans B3.out)
  have HB1 := Lib.hid (HB3.out.setI (Nat.le_of_lt hz2) hU0)
  have hg1 : w2.heap.size < U0.heap.size := by rw [hU0.size]; exact hg
  have cx := cell_of_row _ _ 4 _ _ _ B1.out
  simp only [List.getElem?_toArray, List.getElem?_cons_zero, List.getElem?_cons_succ] at cx
  clear hU0 I0 B3 HB3 hg
  rw [rounds_succ]
  go_wp2_with fail
  refine (Di.out _).mono ?_
  rintro e v0 ⟨rfl, hb⟩
  have I0 := Lib.hid ((hb.block w2.heap.size hg1).trans I1.out)
  have B3 := Lib.hid ((hb.block w.heap.size (Nat.lt_trans hz2 hg1)).trans B1.out)
  have HB3 := Lib.hid (HB1.out.trans (hb.mono (Nat.le_of_lt (Nat.lt_trans hz2 hg1))))
  have hg : w2.heap.size < v0.heap.size := Nat.lt_of_lt_of_le hg1 hb.size
  clear hb I1 B1 HB1 hg1 cx n0
  go_wp2_with fail
  have n1 := fun ty => next_no v0 w2.heap.size ⟨#[105]⟩ 1 ty I0.out (by decide)
  rw [rounds_succ]
  go_wp2_with fail
  go_ret
  exact ⟨by rw [← hRe.out]; rfl, HB3.out⟩
set_option maxRecDepth 100000 in
set_option maxHeartbeats 4000000 in
theorem refText_22 (a b c imm : Int) (hi : Ins.Fits ⟨22, a, b, c, imm⟩) (h : encE ⟨22, a, b, c, imm⟩ = 0) (w : World) : Calls Tryd.prog 15 #[insV ⟨22, a, b, c, imm⟩] w (GivesT w ([122, 101, 114, 111] ++ regT a ++ 32 :: Lib.itoa imm)) := by
  have H := Lib.hid h
  have HI := Lib.hid hi
  obtain ⟨sa, hsa⟩ : ∃ s, Hid (bs (Lib.itoa a) = s) := ⟨_, Lib.hid rfl⟩
  have za : sa.size ≤ 20 := by rw [← hsa.out]; exact itoa_len hi.a
  have Da := Lib.hid (digits_any a hi.a)
  unfold GivesT at Da
  rw [hsa.out] at Da
  obtain ⟨si, hsi⟩ : ∃ s, Hid (bs (Lib.itoa imm) = s) := ⟨_, Lib.hid rfl⟩
  have zi : si.size ≤ 20 := by rw [← hsi.out]; exact itoa_len hi.imm
  have Di := Lib.hid (digits_any imm hi.imm)
  unfold GivesT at Di
  rw [hsi.out] at Di
  obtain ⟨R, hR⟩ : ∃ s, Hid (bs ([122, 101, 114, 111] ++ regT a ++ 32 :: Lib.itoa imm) = s) := ⟨_, Lib.hid rfl⟩
  have hRe := Lib.hid (show bs [122, 101, 114, 111] ++ bs [32, 114] ++ sa ++ bs [32] ++ si = R by
    rw [← hR.out]; simp only [← hsa.out, ← hsi.out, bs_append, regT, List.append_assoc, List.cons_append, List.nil_append])
  unfold GivesT
  rw [hR.out]
  clear h hi hR hsa hsi
  go_enter Tryd.func15, Tryd.ntmps15
  go_wp2_with fail
  refine (refEncode_any ⟨_, _, _, _, _⟩ HI.out _).mono ?_
  rintro e w1 ⟨rfl, hb1⟩
  rw [H.out]
  have B1 := Lib.hid ((hb1.block w.heap.size (by simp)).trans (heap_alloc_new w _))
  have HB1 := Lib.hid (((Below.refl w.heap.size w).alloc (Nat.le_refl _) (.cells #[.int .i64 22, .int .i64 a, .int .i64 b, .int .i64 c, .int .i64 imm] 23)).trans (hb1.mono (by simp)))
  have hz1 : w.heap.size < w1.heap.size := by have := hb1.size; simp at this; omega
  clear hb1
  go_wp2_with fail
  refine (names_any _).mono ?_
  rintro e w2 ⟨x, y, rfl, hx, hy, hx2, hy2, hN, hF, hb2⟩
  have B2 := Lib.hid ((hb2.block w.heap.size hz1).trans B1.out)
  have HB2 := Lib.hid (HB1.out.trans (hb2.mono (by omega)))
  have hz2 : w.heap.size < w2.heap.size := Nat.lt_of_lt_of_le hz1 hb2.size
  have k1 : w2.cell? ⟨x, 21, none⟩ = some (.string ⟨#[122, 101, 114, 111]⟩) := cell_of_row _ _ 21 _ _ _ hN
  have k2 : w2.cell? ⟨y, 21, none⟩ = some (.string ⟨#[97, 105]⟩) := cell_of_row _ _ 21 _ _ _ hF
  have c0 := cell_of_row _ _ 0 _ _ _ B2.out
  simp only [List.getElem?_toArray, List.getElem?_cons_zero] at c0
  clear hN hF hb2 HB1 B1
  go_wp2_with fail
  clear k1 k2 c0 hx hy hx2 hy2
  have I0 := Lib.hid (World.iter_heap w2 ⟨#[97, 105]⟩ 0)
  have B3 := Lib.hid (show (w2.iter ⟨#[97, 105]⟩ 0).heap[w.heap.size]? = _ from (Below.heap_alloc w2 _ _ hz2).trans B2.out)
  have HB3 := Lib.hid (show Below w.heap.size w (w2.iter ⟨#[97, 105]⟩ 0) from HB2.out.alloc (Nat.le_of_lt hz2) _)
  have hg : w2.heap.size < (w2.iter ⟨#[97, 105]⟩ 0).heap.size := (by show w2.heap.size < (w2.alloc _).heap.size; simp)
  obtain ⟨V, hV⟩ : ∃ V, Hid (w2.iter ⟨#[97, 105]⟩ 0 = V) := ⟨_, Lib.hid rfl⟩
  rw [hV.out] at I0 B3 HB3 hg ⊢
  clear hV B2 HB2
  refine wp_loop_rounds 3 ?_
  obtain ⟨U0, hU0, n0⟩ := next_yes V w2.heap.size ⟨#[97, 105]⟩ 0 I0.out (by decide) (by decide)
  have I1 := Lib.hid hU0.at_
  have B1 := Lib.hid ((hU0.block w.heap.size (Nat.ne_of_lt hz2)).trans B3.out)
  have HB1 := Lib.hid (HB3.out.setI (Nat.le_of_lt hz2) hU0)
  have hg1 : w2.heap.size < U0.heap.size := by rw [hU0.size]; exact hg
  have cx := cell_of_row _ _ 1 _ _ _ B1.out
  simp only [List.getElem?_toArray, List.getElem?_cons_zero, List.getElem?_cons_succ] at cx
  clear hU0 I0 B3 HB3 hg
  rw [rounds_succ]
  go_wp2_with fail
  refine (Da.out _).mono ?_
  rintro e v0 ⟨rfl, hb⟩
  have I0 := Lib.hid ((hb.block w2.heap.size hg1).trans I1.out)
  have B3 := Lib.hid ((hb.block w.heap.size (Nat.lt_trans hz2 hg1)).trans B1.out)
  have HB3 := Lib.hid (HB1.out.trans (hb.mono (Nat.le_of_lt (Nat.lt_trans hz2 hg1))))
  have hg : w2.heap.size < v0.heap.size := Nat.lt_of_lt_of_le hg1 hb.size
  clear hb I1 B1 HB1 hg1 cx n0
  go_wp2_with fail
  obtain ⟨U1, hU1, n1⟩ := next_yes v0 w2.heap.size ⟨#[97, 105]⟩ 1 I0.out (by decide) (by decide)
  have I1 := Lib.hid hU1.at_
  have B1 := Lib.hid ((hU1.block w.heap.size (Nat.ne_of_lt hz2)).trans B3.out)
  have HB1 := Lib.hid (HB3.out.setI (Nat.le_of_lt hz2) hU1)
  have hg1 : w2.heap.size < U1.heap.size := by rw [hU1.size]; exact hg
  have cx := cell_of_row _ _ 4 _ _ _ B1.out
  simp only [List.getElem?_toArray, List.getElem?_cons_zero, List.getElem?_cons_succ] at cx
  clear hU1 I0 B3 HB3 hg
  rw [rounds_succ]
  go_wp2_with fail
  refine (Di.out _).mono ?_
  rintro e v1 ⟨rfl, hb⟩
  have I0 := Lib.hid ((hb.block w2.heap.size hg1).trans I1.out)
  have B3 := Lib.hid ((hb.block w.heap.size (Nat.lt_trans hz2 hg1)).trans B1.out)
  have HB3 := Lib.hid (HB1.out.trans (hb.mono (Nat.le_of_lt (Nat.lt_trans hz2 hg1))))
  have hg : w2.heap.size < v1.heap.size := Nat.lt_of_lt_of_le hg1 hb.size
  clear hb I1 B1 HB1 hg1 cx n1
  go_wp2_with fail
  have n2 := fun ty => next_no v1 w2.heap.size ⟨#[97, 105]⟩ 2 ty I0.out (by decide)
  rw [rounds_succ]
  go_wp2_with fail
  go_ret
  exact ⟨by rw [← hRe.out]; rfl, HB3.out⟩
set_option maxRecDepth 100000 in
set_option maxHeartbeats 4000000 in
theorem refText_23 (a b c imm : Int) (hi : Ins.Fits ⟨23, a, b, c, imm⟩) (h : encE ⟨23, a, b, c, imm⟩ = 0) (w : World) : Calls Tryd.prog 15 #[insV ⟨23, a, b, c, imm⟩] w (GivesT w ([99, 97, 108, 108] ++ 32 :: Lib.itoa imm)) := by
  have H := Lib.hid h
  have HI := Lib.hid hi
  obtain ⟨si, hsi⟩ : ∃ s, Hid (bs (Lib.itoa imm) = s) := ⟨_, Lib.hid rfl⟩
  have zi : si.size ≤ 20 := by rw [← hsi.out]; exact itoa_len hi.imm
  have Di := Lib.hid (digits_any imm hi.imm)
  unfold GivesT at Di
  rw [hsi.out] at Di
  obtain ⟨R, hR⟩ : ∃ s, Hid (bs ([99, 97, 108, 108] ++ 32 :: Lib.itoa imm) = s) := ⟨_, Lib.hid rfl⟩
  have hRe := Lib.hid (show bs [99, 97, 108, 108] ++ bs [32] ++ si = R by
    rw [← hR.out]; simp only [← hsi.out, bs_append, List.cons_append, List.nil_append])
  unfold GivesT
  rw [hR.out]
  clear h hi hR hsi
  go_enter Tryd.func15, Tryd.ntmps15
  go_wp2_with fail
  refine (refEncode_any ⟨_, _, _, _, _⟩ HI.out _).mono ?_
  rintro e w1 ⟨rfl, hb1⟩
  rw [H.out]
  have B1 := Lib.hid ((hb1.block w.heap.size (by simp)).trans (heap_alloc_new w _))
  have HB1 := Lib.hid (((Below.refl w.heap.size w).alloc (Nat.le_refl _) (.cells #[.int .i64 23, .int .i64 a, .int .i64 b, .int .i64 c, .int .i64 imm] 23)).trans (hb1.mono (by simp)))
  have hz1 : w.heap.size < w1.heap.size := by have := hb1.size; simp at this; omega
  clear hb1
  go_wp2_with fail
  refine (names_any _).mono ?_
  rintro e w2 ⟨x, y, rfl, hx, hy, hx2, hy2, hN, hF, hb2⟩
  have B2 := Lib.hid ((hb2.block w.heap.size hz1).trans B1.out)
  have HB2 := Lib.hid (HB1.out.trans (hb2.mono (by omega)))
  have hz2 : w.heap.size < w2.heap.size := Nat.lt_of_lt_of_le hz1 hb2.size
  have k1 : w2.cell? ⟨x, 22, none⟩ = some (.string ⟨#[99, 97, 108, 108]⟩) := cell_of_row _ _ 22 _ _ _ hN
  have k2 : w2.cell? ⟨y, 22, none⟩ = some (.string ⟨#[105]⟩) := cell_of_row _ _ 22 _ _ _ hF
  have c0 := cell_of_row _ _ 0 _ _ _ B2.out
  simp only [List.getElem?_toArray, List.getElem?_cons_zero] at c0
  clear hN hF hb2 HB1 B1
  go_wp2_with fail
  clear k1 k2 c0 hx hy hx2 hy2
  have I0 := Lib.hid (World.iter_heap w2 ⟨#[105]⟩ 0)
  have B3 := Lib.hid (show (w2.iter ⟨#[105]⟩ 0).heap[w.heap.size]? = _ from (Below.heap_alloc w2 _ _ hz2).trans B2.out)
  have HB3 := Lib.hid (show Below w.heap.size w (w2.iter ⟨#[105]⟩ 0) from HB2.out.alloc (Nat.le_of_lt hz2) _)
  have hg : w2.heap.size < (w2.iter ⟨#[105]⟩ 0).heap.size := (by show w2.heap.size < (w2.alloc _).heap.size; simp)
  obtain ⟨V, hV⟩ : ∃ V, Hid (w2.iter ⟨#[105]⟩ 0 = V) := ⟨_, Lib.hid rfl⟩
  rw [hV.out] at I0 B3 HB3 hg ⊢
  clear hV B2 HB2
  refine wp_loop_rounds 2 ?_
  obtain ⟨U0, hU0, n0⟩ := next_yes V w2.heap.size ⟨#[105]⟩ 0 I0.out (by decide) (by decide)
  have I1 := Lib.hid hU0.at_
  have B1 := Lib.hid ((hU0.block w.heap.size (Nat.ne_of_lt hz2)).trans B3.out)
  have HB1 := Lib.hid (HB3.out.setI (Nat.le_of_lt hz2) hU0)
  have hg1 : w2.heap.size < U0.heap.size := by rw [hU0.size]; exact hg
  have cx := cell_of_row _ _ 4 _ _ _ B1.out
  simp only [List.getElem?_toArray, List.getElem?_cons_zero, List.getElem?_cons_succ] at cx
  clear hU0 I0 B3 HB3 hg
  rw [rounds_succ]
  go_wp2_with fail
  refine (Di.out _).mono ?_
  rintro e v0 ⟨rfl, hb⟩
  have I0 := Lib.hid ((hb.block w2.heap.size hg1).trans I1.out)
  have B3 := Lib.hid ((hb.block w.heap.size (Nat.lt_trans hz2 hg1)).trans B1.out)
  have HB3 := Lib.hid (HB1.out.trans (hb.mono (Nat.le_of_lt (Nat.lt_trans hz2 hg1))))
  have hg : w2.heap.size < v0.heap.size := Nat.lt_of_lt_of_le hg1 hb.size
  clear hb I1 B1 HB1 hg1 cx n0
  go_wp2_with fail
  have n1 := fun ty => next_no v0 w2.heap.size ⟨#[105]⟩ 1 ty I0.out (by decide)
  rw [rounds_succ]
  go_wp2_with fail
  go_ret
  exact ⟨by rw [← hRe.out]; rfl, HB3.out⟩
set_option maxRecDepth 100000 in
set_option maxHeartbeats 4000000 in
theorem refText_24 (a b c imm : Int) (hi : Ins.Fits ⟨24, a, b, c, imm⟩) (h : encE ⟨24, a, b, c, imm⟩ = 0) (w : World) : Calls Tryd.prog 15 #[insV ⟨24, a, b, c, imm⟩] w (GivesT w ([114, 101, 116, 117, 114, 110])) := by
  have H := Lib.hid h
  have HI := Lib.hid hi
  obtain ⟨R, hR⟩ : ∃ s, Hid (bs ([114, 101, 116, 117, 114, 110]) = s) := ⟨_, Lib.hid rfl⟩
  have hRe := Lib.hid (show bs [114, 101, 116, 117, 114, 110] = R by
    rw [← hR.out])
  unfold GivesT
  rw [hR.out]
  clear h hi hR
  go_enter Tryd.func15, Tryd.ntmps15
  go_wp2_with fail
  refine (refEncode_any ⟨_, _, _, _, _⟩ HI.out _).mono ?_
  rintro e w1 ⟨rfl, hb1⟩
  rw [H.out]
  have B1 := Lib.hid ((hb1.block w.heap.size (by simp)).trans (heap_alloc_new w _))
  have HB1 := Lib.hid (((Below.refl w.heap.size w).alloc (Nat.le_refl _) (.cells #[.int .i64 24, .int .i64 a, .int .i64 b, .int .i64 c, .int .i64 imm] 23)).trans (hb1.mono (by simp)))
  have hz1 : w.heap.size < w1.heap.size := by have := hb1.size; simp at this; omega
  clear hb1
  go_wp2_with fail
  refine (names_any _).mono ?_
  rintro e w2 ⟨x, y, rfl, hx, hy, hx2, hy2, hN, hF, hb2⟩
  have B2 := Lib.hid ((hb2.block w.heap.size hz1).trans B1.out)
  have HB2 := Lib.hid (HB1.out.trans (hb2.mono (by omega)))
  have hz2 : w.heap.size < w2.heap.size := Nat.lt_of_lt_of_le hz1 hb2.size
  have k1 : w2.cell? ⟨x, 23, none⟩ = some (.string ⟨#[114, 101, 116, 117, 114, 110]⟩) := cell_of_row _ _ 23 _ _ _ hN
  have k2 : w2.cell? ⟨y, 23, none⟩ = some (.string ⟨#[]⟩) := cell_of_row _ _ 23 _ _ _ hF
  have c0 := cell_of_row _ _ 0 _ _ _ B2.out
  simp only [List.getElem?_toArray, List.getElem?_cons_zero] at c0
  clear hN hF hb2 HB1 B1
  go_wp2_with fail
  clear k1 k2 c0 hx hy hx2 hy2
  have I0 := Lib.hid (World.iter_heap w2 ⟨#[]⟩ 0)
  have B3 := Lib.hid (show (w2.iter ⟨#[]⟩ 0).heap[w.heap.size]? = _ from (Below.heap_alloc w2 _ _ hz2).trans B2.out)
  have HB3 := Lib.hid (show Below w.heap.size w (w2.iter ⟨#[]⟩ 0) from HB2.out.alloc (Nat.le_of_lt hz2) _)
  have hg : w2.heap.size < (w2.iter ⟨#[]⟩ 0).heap.size := (by show w2.heap.size < (w2.alloc _).heap.size; simp)
  obtain ⟨V, hV⟩ : ∃ V, Hid (w2.iter ⟨#[]⟩ 0 = V) := ⟨_, Lib.hid rfl⟩
  rw [hV.out] at I0 B3 HB3 hg ⊢
  clear hV B2 HB2
  refine wp_loop_rounds 1 ?_
  have n0 := fun ty => next_no V w2.heap.size ⟨#[]⟩ 0 ty I0.out (by decide)
  rw [rounds_succ]
  go_wp2_with fail
  go_ret
  exact ⟨by rw [← hRe.out]; rfl, HB3.out⟩
set_option maxRecDepth 100000 in
set_option maxHeartbeats 4000000 in
theorem refText_25 (a b c imm : Int) (hi : Ins.Fits ⟨25, a, b, c, imm⟩) (h : encE ⟨25, a, b, c, imm⟩ = 0) (w : World) : Calls Tryd.prog 15 #[insV ⟨25, a, b, c, imm⟩] w (GivesT w ([112, 114, 105, 110, 116] ++ regT a)) := by
  have H := Lib.hid h
  have HI := Lib.hid hi
  obtain ⟨sa, hsa⟩ : ∃ s, Hid (bs (Lib.itoa a) = s) := ⟨_, Lib.hid rfl⟩
  have za : sa.size ≤ 20 := by rw [← hsa.out]; exact itoa_len hi.a
  have Da := Lib.hid (digits_any a hi.a)
  unfold GivesT at Da
  rw [hsa.out] at Da
  obtain ⟨R, hR⟩ : ∃ s, Hid (bs ([112, 114, 105, 110, 116] ++ regT a) = s) := ⟨_, Lib.hid rfl⟩
  have hRe := Lib.hid (show bs [112, 114, 105, 110, 116] ++ bs [32, 114] ++ sa = R by
    rw [← hR.out]; simp only [← hsa.out, bs_append, regT, List.cons_append, List.nil_append])
  unfold GivesT
  rw [hR.out]
  clear h hi hR hsa
  go_enter Tryd.func15, Tryd.ntmps15
  go_wp2_with fail
  refine (refEncode_any ⟨_, _, _, _, _⟩ HI.out _).mono ?_
  rintro e w1 ⟨rfl, hb1⟩
  rw [H.out]
  have B1 := Lib.hid ((hb1.block w.heap.size (by simp)).trans (heap_alloc_new w _))
  have HB1 := Lib.hid (((Below.refl w.heap.size w).alloc (Nat.le_refl _) (.cells #[.int .i64 25, .int .i64 a, .int .i64 b, .int .i64 c, .int .i64 imm] 23)).trans (hb1.mono (by simp)))
  have hz1 : w.heap.size < w1.heap.size := by have := hb1.size; simp at this; omega
  clear hb1
  go_wp2_with fail
  refine (names_any _).mono ?_
  rintro e w2 ⟨x, y, rfl, hx, hy, hx2, hy2, hN, hF, hb2⟩
  have B2 := Lib.hid ((hb2.block w.heap.size hz1).trans B1.out)
  have HB2 := Lib.hid (HB1.out.trans (hb2.mono (by omega)))
  have hz2 : w.heap.size < w2.heap.size := Nat.lt_of_lt_of_le hz1 hb2.size
  have k1 : w2.cell? ⟨x, 24, none⟩ = some (.string ⟨#[112, 114, 105, 110, 116]⟩) := cell_of_row _ _ 24 _ _ _ hN
  have k2 : w2.cell? ⟨y, 24, none⟩ = some (.string ⟨#[97]⟩) := cell_of_row _ _ 24 _ _ _ hF
  have c0 := cell_of_row _ _ 0 _ _ _ B2.out
  simp only [List.getElem?_toArray, List.getElem?_cons_zero] at c0
  clear hN hF hb2 HB1 B1
  go_wp2_with fail
  clear k1 k2 c0 hx hy hx2 hy2
  have I0 := Lib.hid (World.iter_heap w2 ⟨#[97]⟩ 0)
  have B3 := Lib.hid (show (w2.iter ⟨#[97]⟩ 0).heap[w.heap.size]? = _ from (Below.heap_alloc w2 _ _ hz2).trans B2.out)
  have HB3 := Lib.hid (show Below w.heap.size w (w2.iter ⟨#[97]⟩ 0) from HB2.out.alloc (Nat.le_of_lt hz2) _)
  have hg : w2.heap.size < (w2.iter ⟨#[97]⟩ 0).heap.size := (by show w2.heap.size < (w2.alloc _).heap.size; simp)
  obtain ⟨V, hV⟩ : ∃ V, Hid (w2.iter ⟨#[97]⟩ 0 = V) := ⟨_, Lib.hid rfl⟩
  rw [hV.out] at I0 B3 HB3 hg ⊢
  clear hV B2 HB2
  refine wp_loop_rounds 2 ?_
  obtain ⟨U0, hU0, n0⟩ := next_yes V w2.heap.size ⟨#[97]⟩ 0 I0.out (by decide) (by decide)
  have I1 := Lib.hid hU0.at_
  have B1 := Lib.hid ((hU0.block w.heap.size (Nat.ne_of_lt hz2)).trans B3.out)
  have HB1 := Lib.hid (HB3.out.setI (Nat.le_of_lt hz2) hU0)
  have hg1 : w2.heap.size < U0.heap.size := by rw [hU0.size]; exact hg
  have cx := cell_of_row _ _ 1 _ _ _ B1.out
  simp only [List.getElem?_toArray, List.getElem?_cons_zero, List.getElem?_cons_succ] at cx
  clear hU0 I0 B3 HB3 hg
  rw [rounds_succ]
  go_wp2_with fail
  refine (Da.out _).mono ?_
  rintro e v0 ⟨rfl, hb⟩
  have I0 := Lib.hid ((hb.block w2.heap.size hg1).trans I1.out)
  have B3 := Lib.hid ((hb.block w.heap.size (Nat.lt_trans hz2 hg1)).trans B1.out)
  have HB3 := Lib.hid (HB1.out.trans (hb.mono (Nat.le_of_lt (Nat.lt_trans hz2 hg1))))
  have hg : w2.heap.size < v0.heap.size := Nat.lt_of_lt_of_le hg1 hb.size
  clear hb I1 B1 HB1 hg1 cx n0
  go_wp2_with fail
  have n1 := fun ty => next_no v0 w2.heap.size ⟨#[97]⟩ 1 ty I0.out (by decide)
  rw [rounds_succ]
  go_wp2_with fail
  go_ret
  exact ⟨by rw [← hRe.out]; rfl, HB3.out⟩
theorem refText_any (i : Ins) (hi : i.Fits) (w : World) : Calls Tryd.prog 15 #[insV i] w (GivesT w (textT i)) := by
  by_cases h : encE i = 0
  · have hk := (ok_of h).op
    obtain ⟨op, a, b, c, imm⟩ := i
    simp only at hk
    rcases (show op = 1 ∨ op = 2 ∨ op = 3 ∨ op = 4 ∨ op = 5 ∨ op = 6 ∨ op = 7 ∨ op = 8 ∨ op = 9 ∨ op = 10 ∨ op = 11 ∨ op = 12 ∨ op = 13 ∨ op = 14 ∨ op = 15 ∨ op = 16 ∨ op = 17 ∨ op = 18 ∨ op = 19 ∨ op = 20 ∨ op = 21 ∨ op = 22 ∨ op = 23 ∨ op = 24 ∨ op = 25 by omega) with rfl | rfl | rfl | rfl | rfl | rfl | rfl | rfl | rfl | rfl | rfl | rfl | rfl | rfl | rfl | rfl | rfl | rfl | rfl | rfl | rfl | rfl | rfl | rfl | rfl
    · have ht : textT ⟨1, a, b, c, imm⟩ = [110, 111, 112] := by
        unfold textT
        rw [if_neg (fun hn => hn h)]
        simp [nameT, usesT]
      rw [ht]
      exact refText_1 a b c imm hi h w
    · have ht : textT ⟨2, a, b, c, imm⟩ = [98, 114, 101, 97, 107] := by
        unfold textT
        rw [if_neg (fun hn => hn h)]
        simp [nameT, usesT]
      rw [ht]
      exact refText_2 a b c imm hi h w
    · have ht : textT ⟨3, a, b, c, imm⟩ = [99, 111, 110, 115, 116] ++ regT a ++ 32 :: Lib.itoa imm := by
        unfold textT
        rw [if_neg (fun hn => hn h)]
        simp [nameT, usesT]
      rw [ht]
      exact refText_3 a b c imm hi h w
    · have ht : textT ⟨4, a, b, c, imm⟩ = [112, 111, 111, 108] ++ regT a ++ 32 :: Lib.itoa imm := by
        unfold textT
        rw [if_neg (fun hn => hn h)]
        simp [nameT, usesT]
      rw [ht]
      exact refText_4 a b c imm hi h w
    · have ht : textT ⟨5, a, b, c, imm⟩ = [109, 111, 118, 101] ++ regT a ++ regT b := by
        unfold textT
        rw [if_neg (fun hn => hn h)]
        simp [nameT, usesT]
      rw [ht]
      exact refText_5 a b c imm hi h w
    · have ht : textT ⟨6, a, b, c, imm⟩ = [97, 100, 100] ++ regT a ++ regT b ++ regT c := by
        unfold textT
        rw [if_neg (fun hn => hn h)]
        simp [nameT, usesT]
      rw [ht]
      exact refText_6 a b c imm hi h w
    · have ht : textT ⟨7, a, b, c, imm⟩ = [115, 117, 98] ++ regT a ++ regT b ++ regT c := by
        unfold textT
        rw [if_neg (fun hn => hn h)]
        simp [nameT, usesT]
      rw [ht]
      exact refText_7 a b c imm hi h w
    · have ht : textT ⟨8, a, b, c, imm⟩ = [109, 117, 108] ++ regT a ++ regT b ++ regT c := by
        unfold textT
        rw [if_neg (fun hn => hn h)]
        simp [nameT, usesT]
      rw [ht]
      exact refText_8 a b c imm hi h w
    · have ht : textT ⟨9, a, b, c, imm⟩ = [100, 105, 118] ++ regT a ++ regT b ++ regT c := by
        unfold textT
        rw [if_neg (fun hn => hn h)]
        simp [nameT, usesT]
      rw [ht]
      exact refText_9 a b c imm hi h w
    · have ht : textT ⟨10, a, b, c, imm⟩ = [109, 111, 100] ++ regT a ++ regT b ++ regT c := by
        unfold textT
        rw [if_neg (fun hn => hn h)]
        simp [nameT, usesT]
      rw [ht]
      exact refText_10 a b c imm hi h w
    · have ht : textT ⟨11, a, b, c, imm⟩ = [97, 110, 100] ++ regT a ++ regT b ++ regT c := by
        unfold textT
        rw [if_neg (fun hn => hn h)]
        simp [nameT, usesT]
      rw [ht]
      exact refText_11 a b c imm hi h w
    · have ht : textT ⟨12, a, b, c, imm⟩ = [111, 114] ++ regT a ++ regT b ++ regT c := by
        unfold textT
        rw [if_neg (fun hn => hn h)]
        simp [nameT, usesT]
      rw [ht]
      exact refText_12 a b c imm hi h w
    · have ht : textT ⟨13, a, b, c, imm⟩ = [120, 111, 114] ++ regT a ++ regT b ++ regT c := by
        unfold textT
        rw [if_neg (fun hn => hn h)]
        simp [nameT, usesT]
      rw [ht]
      exact refText_13 a b c imm hi h w
    · have ht : textT ⟨14, a, b, c, imm⟩ = [108, 101, 115, 115] ++ regT a ++ regT b ++ regT c := by
        unfold textT
        rw [if_neg (fun hn => hn h)]
        simp [nameT, usesT]
      rw [ht]
      exact refText_14 a b c imm hi h w
    · have ht : textT ⟨15, a, b, c, imm⟩ = [108, 101, 115, 115, 101, 113] ++ regT a ++ regT b ++ regT c := by
        unfold textT
        rw [if_neg (fun hn => hn h)]
        simp [nameT, usesT]
      rw [ht]
      exact refText_15 a b c imm hi h w
    · have ht : textT ⟨16, a, b, c, imm⟩ = [101, 113, 117, 97, 108] ++ regT a ++ regT b ++ regT c := by
        unfold textT
        rw [if_neg (fun hn => hn h)]
        simp [nameT, usesT]
      rw [ht]
      exact refText_16 a b c imm hi h w
    · have ht : textT ⟨17, a, b, c, imm⟩ = [110, 111, 116, 101, 113, 117, 97, 108] ++ regT a ++ regT b ++ regT c := by
        unfold textT
        rw [if_neg (fun hn => hn h)]
        simp [nameT, usesT]
      rw [ht]
      exact refText_17 a b c imm hi h w
    · have ht : textT ⟨18, a, b, c, imm⟩ = [97, 100, 100, 105, 109, 109] ++ regT a ++ regT b ++ 32 :: Lib.itoa imm := by
        unfold textT
        rw [if_neg (fun hn => hn h)]
        simp [nameT, usesT]
      rw [ht]
      exact refText_18 a b c imm hi h w
    · have ht : textT ⟨19, a, b, c, imm⟩ = [108, 111, 97, 100] ++ regT a ++ regT b ++ 32 :: Lib.itoa imm := by
        unfold textT
        rw [if_neg (fun hn => hn h)]
        simp [nameT, usesT]
      rw [ht]
      exact refText_19 a b c imm hi h w
    · have ht : textT ⟨20, a, b, c, imm⟩ = [115, 116, 111, 114, 101] ++ regT a ++ regT b ++ 32 :: Lib.itoa imm := by
        unfold textT
        rw [if_neg (fun hn => hn h)]
        simp [nameT, usesT]
      rw [ht]
      exact refText_20 a b c imm hi h w
    · have ht : textT ⟨21, a, b, c, imm⟩ = [106, 117, 109, 112] ++ 32 :: Lib.itoa imm := by
        unfold textT
        rw [if_neg (fun hn => hn h)]
        simp [nameT, usesT]
      rw [ht]
      exact refText_21 a b c imm hi h w
    · have ht : textT ⟨22, a, b, c, imm⟩ = [122, 101, 114, 111] ++ regT a ++ 32 :: Lib.itoa imm := by
        unfold textT
        rw [if_neg (fun hn => hn h)]
        simp [nameT, usesT]
      rw [ht]
      exact refText_22 a b c imm hi h w
    · have ht : textT ⟨23, a, b, c, imm⟩ = [99, 97, 108, 108] ++ 32 :: Lib.itoa imm := by
        unfold textT
        rw [if_neg (fun hn => hn h)]
        simp [nameT, usesT]
      rw [ht]
      exact refText_23 a b c imm hi h w
    · have ht : textT ⟨24, a, b, c, imm⟩ = [114, 101, 116, 117, 114, 110] := by
        unfold textT
        rw [if_neg (fun hn => hn h)]
        simp [nameT, usesT]
      rw [ht]
      exact refText_24 a b c imm hi h w
    · have ht : textT ⟨25, a, b, c, imm⟩ = [112, 114, 105, 110, 116] ++ regT a := by
        unfold textT
        rw [if_neg (fun hn => hn h)]
        simp [nameT, usesT]
      rw [ht]
      exact refText_25 a b c imm hi h w
  · exact refText_no i hi h w
end Go.Proofs.YtimiofmmhccmmaaDoor
