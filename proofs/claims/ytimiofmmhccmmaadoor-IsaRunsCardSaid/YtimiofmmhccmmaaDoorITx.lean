/-
  What the program's Text returns. Condition: fields of 64 bits, the packages' variables.
-/
import Derived.Test.YtimiofmmhccmmaaDoorIVars
namespace Go.Proofs.YtimiofmmhccmmaaDoor
open Go.RowKit

theorem field_a (op a b c imm : Int) (hi : Ins.Fits ⟨op, a, b, c, imm⟩) (w : World) (hv : VarsAt w) : Calls Tryd.prog 32 #[insV ⟨op, a, b, c, imm⟩, .int .i32 97] w (GivesT w (114 :: Lib.itoa a)) := by
  obtain ⟨s, hs⟩ : ∃ s, Hid (bs (Lib.itoa a) = s) := ⟨_, Lib.hid rfl⟩
  have z : s.size ≤ 20 := by rw [← hs.out]; exact itoa_len hi.a
  have D := Lib.hid (fun (W : World) (h : VarsAt W) => itoa_any a hi.a W h)
  unfold GivesT at D
  rw [hs.out] at D
  have HR := Lib.hid (show bs (114 :: Lib.itoa a) = bs [114] ++ s by rw [← hs.out, bs_append]; rfl)
  unfold GivesT
  rw [HR.out]
  clear HR hs hi
  go_enter Tryd.func32, Tryd.ntmps32
  go_wp2_with fail
  refine (D.out _ (hv.below ((Below.refl w.heap.size w).alloc (Nat.le_refl _) _))).mono ?_
  rintro e w1 ⟨rfl, hb1⟩
  go_wp2_with fail
  go_ret
  exact ⟨rfl, ((Below.refl w.heap.size w).alloc (Nat.le_refl _) _).trans (hb1.mono (by simp))⟩
theorem field_b (op a b c imm : Int) (hi : Ins.Fits ⟨op, a, b, c, imm⟩) (w : World) (hv : VarsAt w) : Calls Tryd.prog 32 #[insV ⟨op, a, b, c, imm⟩, .int .i32 98] w (GivesT w (114 :: Lib.itoa b)) := by
  obtain ⟨s, hs⟩ : ∃ s, Hid (bs (Lib.itoa b) = s) := ⟨_, Lib.hid rfl⟩
  have z : s.size ≤ 20 := by rw [← hs.out]; exact itoa_len hi.b
  have D := Lib.hid (fun (W : World) (h : VarsAt W) => itoa_any b hi.b W h)
  unfold GivesT at D
  rw [hs.out] at D
  have HR := Lib.hid (show bs (114 :: Lib.itoa b) = bs [114] ++ s by rw [← hs.out, bs_append]; rfl)
  unfold GivesT
  rw [HR.out]
  clear HR hs hi
  go_enter Tryd.func32, Tryd.ntmps32
  go_wp2_with fail
  refine (D.out _ (hv.below ((Below.refl w.heap.size w).alloc (Nat.le_refl _) _))).mono ?_
  rintro e w1 ⟨rfl, hb1⟩
  go_wp2_with fail
  go_ret
  exact ⟨rfl, ((Below.refl w.heap.size w).alloc (Nat.le_refl _) _).trans (hb1.mono (by simp))⟩
theorem field_c (op a b c imm : Int) (hi : Ins.Fits ⟨op, a, b, c, imm⟩) (w : World) (hv : VarsAt w) : Calls Tryd.prog 32 #[insV ⟨op, a, b, c, imm⟩, .int .i32 99] w (GivesT w (114 :: Lib.itoa c)) := by
  obtain ⟨s, hs⟩ : ∃ s, Hid (bs (Lib.itoa c) = s) := ⟨_, Lib.hid rfl⟩
  have z : s.size ≤ 20 := by rw [← hs.out]; exact itoa_len hi.c
  have D := Lib.hid (fun (W : World) (h : VarsAt W) => itoa_any c hi.c W h)
  unfold GivesT at D
  rw [hs.out] at D
  have HR := Lib.hid (show bs (114 :: Lib.itoa c) = bs [114] ++ s by rw [← hs.out, bs_append]; rfl)
  unfold GivesT
  rw [HR.out]
  clear HR hs hi
  go_enter Tryd.func32, Tryd.ntmps32
  go_wp2_with fail
  refine (D.out _ (hv.below ((Below.refl w.heap.size w).alloc (Nat.le_refl _) _))).mono ?_
  rintro e w1 ⟨rfl, hb1⟩
  go_wp2_with fail
  go_ret
  exact ⟨rfl, ((Below.refl w.heap.size w).alloc (Nat.le_refl _) _).trans (hb1.mono (by simp))⟩
theorem field_n (op a b c imm : Int) (hi : Ins.Fits ⟨op, a, b, c, imm⟩) (w : World) (hv : VarsAt w) : Calls Tryd.prog 32 #[insV ⟨op, a, b, c, imm⟩, .int .i32 110] w (GivesT w (Lib.itoa imm)) := by
  obtain ⟨s, hs⟩ : ∃ s, Hid (bs (Lib.itoa imm) = s) := ⟨_, Lib.hid rfl⟩
  have z : s.size ≤ 20 := by rw [← hs.out]; exact itoa_len hi.imm
  have D := Lib.hid (fun (W : World) (h : VarsAt W) => itoa_any imm hi.imm W h)
  unfold GivesT at D
  rw [hs.out] at D
  have HR := Lib.hid (show bs (Lib.itoa imm) = s by rw [← hs.out])
  unfold GivesT
  rw [HR.out]
  clear HR hs hi
  go_enter Tryd.func32, Tryd.ntmps32
  go_wp2_with fail
  refine (D.out _ (hv.below ((Below.refl w.heap.size w).alloc (Nat.le_refl _) _))).mono ?_
  rintro e w1 ⟨rfl, hb1⟩
  go_wp2_with fail
  go_ret
  exact ⟨rfl, ((Below.refl w.heap.size w).alloc (Nat.le_refl _) _).trans (hb1.mono (by simp))⟩
set_option maxRecDepth 100000 in
set_option maxHeartbeats 4000000 in
theorem text_none (o : Nat) (ho : o < 25) (nm : List UInt8) (hnm : nm.length ≤ 8) (a b c imm : Int) (hi : Ins.Fits ⟨(o : Int) + 1, a, b, c, imm⟩) (h : encE ⟨(o : Int) + 1, a, b, c, imm⟩ = 0) (w : World) (hv : VarsAt w) (hn : textsA[o * 2]? = some (.string (bs nm))) (hf : textsA[o * 2 + 1]? = some (.string ⟨#[]⟩)) :
    Calls Tryd.prog 14 #[insV ⟨(o : Int) + 1, a, b, c, imm⟩] w (GivesT w (nm)) := by
  have H := Lib.hid h
  have HI := Lib.hid hi
  have HV := Lib.hid hv
  obtain ⟨s0, hs0⟩ : ∃ s, Hid (bs nm = s) := ⟨_, Lib.hid rfl⟩
  have z0 : s0.size ≤ 8 := by rw [← hs0.out, bs_size]; exact hnm
  obtain ⟨R, hR⟩ : ∃ s, Hid (bs (nm) = s) := ⟨_, Lib.hid rfl⟩
  have hRe := Lib.hid (show s0 = R by
    rw [← hR.out, ← hs0.out])
  unfold GivesT
  rw [hR.out]
  rw [hs0.out] at hn
  have HT := Lib.hid hn
  have HF := Lib.hid hf
  clear h hi hR hv hn hf hs0 hnm
  go_enter Tryd.func14, Tryd.ntmps14
  go_wp2_with fail
  refine (encoded_yes ⟨_, _, _, _, _⟩ HI.out H.out _).mono ?_
  rintro e w1 ⟨rfl, hb1⟩
  have B1 := Lib.hid ((hb1.block w.heap.size (by simp)).trans (heap_alloc_new w _))
  have HB1 := Lib.hid (((Below.refl w.heap.size w).alloc (Nat.le_refl _) (.cells #[.int .i64 ((o : Int) + 1), .int .i64 a, .int .i64 b, .int .i64 c, .int .i64 imm] 23)).trans (hb1.mono (by simp)))
  have hz1 : w.heap.size < w1.heap.size := by have := hb1.size; simp at this; omega
  have HV1 := Lib.hid (HV.out.below HB1.out)
  clear hb1
  have c0 := cell_of_row _ _ 0 _ _ _ B1.out
  simp only [List.getElem?_toArray, List.getElem?_cons_zero] at c0
  obtain ⟨t, fr, ht⟩ := HV1.out.texts
  have HTB := Lib.hid ht
  have kk1 : w1.cell? ⟨0, o * 2, none⟩ = some (.string s0) := (cell_of_row w1 _ _ _ _ _ HTB.out).trans HT.out
  have kk2 : w1.cell? ⟨0, o * 2 + 1, none⟩ = some (.string ⟨#[]⟩) := (cell_of_row w1 _ _ _ _ _ HTB.out).trans HF.out
  clear ht HTB HT HF
  have h25 : (o : Int) < 25 := by omega
  go_wp2_with fail
  clear kk1 kk2 c0 h25
  have HVw := Lib.hid (fun (V : World) (h : Below w.heap.size w V) => HV.out.below h)
  clear HV HV1
  have A1 := Lib.hid (Below.heap_alloc w1 (.cells #[.string s0, .string ⟨#[]⟩] 60) w.heap.size hz1)
  have I0 := Lib.hid (World.iter_heap (w1.alloc (.cells #[.string s0, .string ⟨#[]⟩] 60)) ⟨#[]⟩ 0)
  have e1 : (w1.alloc (.cells #[.string s0, .string ⟨#[]⟩] 60)).heap.size = w1.heap.size + 1 := by simp
  have B3 := Lib.hid (show ((w1.alloc (.cells #[.string s0, .string ⟨#[]⟩] 60)).iter ⟨#[]⟩ 0).heap[w.heap.size]? = _ from (Below.heap_alloc _ _ _ (by rw [e1]; omega)).trans (A1.out.trans B1.out))
  have HB3 := Lib.hid (show Below w.heap.size w ((w1.alloc (.cells #[.string s0, .string ⟨#[]⟩] 60)).iter ⟨#[]⟩ 0) from (HB1.out.alloc (Nat.le_of_lt hz1) _).alloc (by rw [e1]; omega) _)
  have hg : w1.heap.size + 1 < ((w1.alloc (.cells #[.string s0, .string ⟨#[]⟩] 60)).iter ⟨#[]⟩ 0).heap.size := (by show w1.heap.size + 1 < ((w1.alloc _).alloc _).heap.size; simp)
  rw [e1] at I0
  have hz2 : w.heap.size < w1.heap.size + 1 := by omega
  obtain ⟨V, hV⟩ : ∃ V, Hid ((w1.alloc (.cells #[.string s0, .string ⟨#[]⟩] 60)).iter ⟨#[]⟩ 0 = V) := ⟨_, Lib.hid rfl⟩
  rw [hV.out] at I0 B3 HB3 hg ⊢
  clear hV A1 B1 HB1 e1
  obtain ⟨g, hgg⟩ : ∃ y, Hid (w1.heap.size + 1 = y) := ⟨_, Lib.hid rfl⟩
  rw [hgg.out] at I0 hg hz2 ⊢
  clear hgg hz1
  refine wp_loop_rounds 1 ?_
  have n0 := fun ty => next_no V g ⟨#[]⟩ 0 ty I0.out (by decide)
  rw [rounds_succ]
  go_wp2_with fail
  go_ret
  exact ⟨by rw [← hRe.out]; rfl, HB3.out⟩
set_option maxRecDepth 100000 in
set_option maxHeartbeats 4000000 in
theorem text_an (o : Nat) (ho : o < 25) (nm : List UInt8) (hnm : nm.length ≤ 8) (a b c imm : Int) (hi : Ins.Fits ⟨(o : Int) + 1, a, b, c, imm⟩) (h : encE ⟨(o : Int) + 1, a, b, c, imm⟩ = 0) (w : World) (hv : VarsAt w) (hn : textsA[o * 2]? = some (.string (bs nm))) (hf : textsA[o * 2 + 1]? = some (.string ⟨#[97, 110]⟩)) :
    Calls Tryd.prog 14 #[insV ⟨(o : Int) + 1, a, b, c, imm⟩] w (GivesT w (nm ++ regT a ++ 32 :: Lib.itoa imm)) := by
  have H := Lib.hid h
  have HI := Lib.hid hi
  have HV := Lib.hid hv
  obtain ⟨sa, hsa⟩ : ∃ s, Hid (bs (114 :: Lib.itoa a) = s) := ⟨_, Lib.hid rfl⟩
  have za : sa.size ≤ 21 := by
    rw [← hsa.out, bs_size]
    have := itoa_len (n := a) hi.a
    rw [bs_size] at this
    (try simp only [List.length_cons])
    omega
  have Da := Lib.hid (fun (W : World) (h : VarsAt W) => field_a ((o : Int) + 1) a b c imm hi W h)
  unfold GivesT at Da
  rw [hsa.out] at Da
  obtain ⟨sn, hsn⟩ : ∃ s, Hid (bs (Lib.itoa imm) = s) := ⟨_, Lib.hid rfl⟩
  have zn : sn.size ≤ 21 := by
    rw [← hsn.out, bs_size]
    have := itoa_len (n := imm) hi.imm
    rw [bs_size] at this
    (try simp only [List.length_cons])
    omega
  have Dn := Lib.hid (fun (W : World) (h : VarsAt W) => field_n ((o : Int) + 1) a b c imm hi W h)
  unfold GivesT at Dn
  rw [hsn.out] at Dn
  obtain ⟨s0, hs0⟩ : ∃ s, Hid (bs nm = s) := ⟨_, Lib.hid rfl⟩
  have z0 : s0.size ≤ 8 := by rw [← hs0.out, bs_size]; exact hnm
  obtain ⟨R, hR⟩ : ∃ s, Hid (bs (nm ++ regT a ++ 32 :: Lib.itoa imm) = s) := ⟨_, Lib.hid rfl⟩
  have hRe := Lib.hid (show s0 ++ (bs [32] ++ sa) ++ (bs [32] ++ sn) = R by
    rw [← hR.out, ← hs0.out]; simp only [← hsa.out, ← hsn.out, bs_append, regT, List.append_assoc, List.cons_append, List.nil_append])
  unfold GivesT
  rw [hR.out]
  rw [hs0.out] at hn
  have HT := Lib.hid hn
  have HF := Lib.hid hf
  clear h hi hR hv hn hf hs0 hnm hsa hsn
  go_enter Tryd.func14, Tryd.ntmps14
  go_wp2_with fail
  refine (encoded_yes ⟨_, _, _, _, _⟩ HI.out H.out _).mono ?_
  rintro e w1 ⟨rfl, hb1⟩
  have B1 := Lib.hid ((hb1.block w.heap.size (by simp)).trans (heap_alloc_new w _))
  have HB1 := Lib.hid (((Below.refl w.heap.size w).alloc (Nat.le_refl _) (.cells #[.int .i64 ((o : Int) + 1), .int .i64 a, .int .i64 b, .int .i64 c, .int .i64 imm] 23)).trans (hb1.mono (by simp)))
  have hz1 : w.heap.size < w1.heap.size := by have := hb1.size; simp at this; omega
  have HV1 := Lib.hid (HV.out.below HB1.out)
  clear hb1
  have c0 := cell_of_row _ _ 0 _ _ _ B1.out
  simp only [List.getElem?_toArray, List.getElem?_cons_zero] at c0
  obtain ⟨t, fr, ht⟩ := HV1.out.texts
  have HTB := Lib.hid ht
  have kk1 : w1.cell? ⟨0, o * 2, none⟩ = some (.string s0) := (cell_of_row w1 _ _ _ _ _ HTB.out).trans HT.out
  have kk2 : w1.cell? ⟨0, o * 2 + 1, none⟩ = some (.string ⟨#[97, 110]⟩) := (cell_of_row w1 _ _ _ _ _ HTB.out).trans HF.out
  clear ht HTB HT HF
  have h25 : (o : Int) < 25 := by omega
  go_wp2_with fail
  clear kk1 kk2 c0 h25
  have HVw := Lib.hid (fun (V : World) (h : Below w.heap.size w V) => HV.out.below h)
  clear HV HV1
  have A1 := Lib.hid (Below.heap_alloc w1 (.cells #[.string s0, .string ⟨#[97, 110]⟩] 60) w.heap.size hz1)
  have I0 := Lib.hid (World.iter_heap (w1.alloc (.cells #[.string s0, .string ⟨#[97, 110]⟩] 60)) ⟨#[97, 110]⟩ 0)
  have e1 : (w1.alloc (.cells #[.string s0, .string ⟨#[97, 110]⟩] 60)).heap.size = w1.heap.size + 1 := by simp
  have B3 := Lib.hid (show ((w1.alloc (.cells #[.string s0, .string ⟨#[97, 110]⟩] 60)).iter ⟨#[97, 110]⟩ 0).heap[w.heap.size]? = _ from (Below.heap_alloc _ _ _ (by rw [e1]; omega)).trans (A1.out.trans B1.out))
  have HB3 := Lib.hid (show Below w.heap.size w ((w1.alloc (.cells #[.string s0, .string ⟨#[97, 110]⟩] 60)).iter ⟨#[97, 110]⟩ 0) from (HB1.out.alloc (Nat.le_of_lt hz1) _).alloc (by rw [e1]; omega) _)
  have hg : w1.heap.size + 1 < ((w1.alloc (.cells #[.string s0, .string ⟨#[97, 110]⟩] 60)).iter ⟨#[97, 110]⟩ 0).heap.size := (by show w1.heap.size + 1 < ((w1.alloc _).alloc _).heap.size; simp)
  rw [e1] at I0
  have hz2 : w.heap.size < w1.heap.size + 1 := by omega
  obtain ⟨V, hV⟩ : ∃ V, Hid ((w1.alloc (.cells #[.string s0, .string ⟨#[97, 110]⟩] 60)).iter ⟨#[97, 110]⟩ 0 = V) := ⟨_, Lib.hid rfl⟩
  rw [hV.out] at I0 B3 HB3 hg ⊢
  clear hV A1 B1 HB1 e1
  obtain ⟨g, hgg⟩ : ∃ y, Hid (w1.heap.size + 1 = y) := ⟨_, Lib.hid rfl⟩
  rw [hgg.out] at I0 hg hz2 ⊢
  clear hgg hz1
  refine wp_loop_rounds 3 ?_
  obtain ⟨U0, hU0, n0⟩ := next_yes V g ⟨#[97, 110]⟩ 0 I0.out (by decide) (by decide)
  have I1 := Lib.hid hU0.at_
  have B1 := Lib.hid ((hU0.block w.heap.size (Nat.ne_of_lt hz2)).trans B3.out)
  have HB1 := Lib.hid (HB3.out.setI (Nat.le_of_lt hz2) hU0)
  have hg1 : g < U0.heap.size := by rw [hU0.size]; exact hg
  clear hU0 I0 B3 HB3 hg
  rw [rounds_succ]
  go_wp2_with ((with_reducible show wpList _ _ _ (Oper.mk _ (Op.load 23 _) _ _ _ none :: _) _ _); refine wpList_load_all rfl 23 _ rfl w.heap.size _ _ rfl B1.out Tryd.underlying23 rfl (by kernel_rfl) ?_)
  refine (Da.out _ (HVw.out _ HB1.out)).mono ?_
  rintro e v0 ⟨rfl, hb⟩
  have I0 := Lib.hid ((hb.block g hg1).trans I1.out)
  have B3 := Lib.hid ((hb.block w.heap.size (Nat.lt_trans hz2 hg1)).trans B1.out)
  have HB3 := Lib.hid (HB1.out.trans (hb.mono (Nat.le_of_lt (Nat.lt_trans hz2 hg1))))
  have hg : g < v0.heap.size := Nat.lt_of_lt_of_le hg1 hb.size
  clear hb I1 B1 HB1 hg1 n0
  go_wp2_with fail
  obtain ⟨U1, hU1, n1⟩ := next_yes v0 g ⟨#[97, 110]⟩ 1 I0.out (by decide) (by decide)
  have I1 := Lib.hid hU1.at_
  have B1 := Lib.hid ((hU1.block w.heap.size (Nat.ne_of_lt hz2)).trans B3.out)
  have HB1 := Lib.hid (HB3.out.setI (Nat.le_of_lt hz2) hU1)
  have hg1 : g < U1.heap.size := by rw [hU1.size]; exact hg
  clear hU1 I0 B3 HB3 hg
  rw [rounds_succ]
  go_wp2_with ((with_reducible show wpList _ _ _ (Oper.mk _ (Op.load 23 _) _ _ _ none :: _) _ _); refine wpList_load_all rfl 23 _ rfl w.heap.size _ _ rfl B1.out Tryd.underlying23 rfl (by kernel_rfl) ?_)
  refine (Dn.out _ (HVw.out _ HB1.out)).mono ?_
  rintro e v1 ⟨rfl, hb⟩
  have I0 := Lib.hid ((hb.block g hg1).trans I1.out)
  have B3 := Lib.hid ((hb.block w.heap.size (Nat.lt_trans hz2 hg1)).trans B1.out)
  have HB3 := Lib.hid (HB1.out.trans (hb.mono (Nat.le_of_lt (Nat.lt_trans hz2 hg1))))
  have hg : g < v1.heap.size := Nat.lt_of_lt_of_le hg1 hb.size
  clear hb I1 B1 HB1 hg1 n1
  go_wp2_with fail
  have n2 := fun ty => next_no v1 g ⟨#[97, 110]⟩ 2 ty I0.out (by decide)
  rw [rounds_succ]
  go_wp2_with fail
  go_ret
  exact ⟨by rw [← hRe.out]; rfl, HB3.out⟩
set_option maxRecDepth 100000 in
set_option maxHeartbeats 4000000 in
theorem text_ab (o : Nat) (ho : o < 25) (nm : List UInt8) (hnm : nm.length ≤ 8) (a b c imm : Int) (hi : Ins.Fits ⟨(o : Int) + 1, a, b, c, imm⟩) (h : encE ⟨(o : Int) + 1, a, b, c, imm⟩ = 0) (w : World) (hv : VarsAt w) (hn : textsA[o * 2]? = some (.string (bs nm))) (hf : textsA[o * 2 + 1]? = some (.string ⟨#[97, 98]⟩)) :
    Calls Tryd.prog 14 #[insV ⟨(o : Int) + 1, a, b, c, imm⟩] w (GivesT w (nm ++ regT a ++ regT b)) := by
  have H := Lib.hid h
  have HI := Lib.hid hi
  have HV := Lib.hid hv
  obtain ⟨sa, hsa⟩ : ∃ s, Hid (bs (114 :: Lib.itoa a) = s) := ⟨_, Lib.hid rfl⟩
  have za : sa.size ≤ 21 := by
    rw [← hsa.out, bs_size]
    have := itoa_len (n := a) hi.a
    rw [bs_size] at this
    (try simp only [List.length_cons])
    omega
  have Da := Lib.hid (fun (W : World) (h : VarsAt W) => field_a ((o : Int) + 1) a b c imm hi W h)
  unfold GivesT at Da
  rw [hsa.out] at Da
  obtain ⟨sb, hsb⟩ : ∃ s, Hid (bs (114 :: Lib.itoa b) = s) := ⟨_, Lib.hid rfl⟩
  have zb : sb.size ≤ 21 := by
    rw [← hsb.out, bs_size]
    have := itoa_len (n := b) hi.b
    rw [bs_size] at this
    (try simp only [List.length_cons])
    omega
  have Db := Lib.hid (fun (W : World) (h : VarsAt W) => field_b ((o : Int) + 1) a b c imm hi W h)
  unfold GivesT at Db
  rw [hsb.out] at Db
  obtain ⟨s0, hs0⟩ : ∃ s, Hid (bs nm = s) := ⟨_, Lib.hid rfl⟩
  have z0 : s0.size ≤ 8 := by rw [← hs0.out, bs_size]; exact hnm
  obtain ⟨R, hR⟩ : ∃ s, Hid (bs (nm ++ regT a ++ regT b) = s) := ⟨_, Lib.hid rfl⟩
  have hRe := Lib.hid (show s0 ++ (bs [32] ++ sa) ++ (bs [32] ++ sb) = R by
    rw [← hR.out, ← hs0.out]; simp only [← hsa.out, ← hsb.out, bs_append, regT, List.append_assoc, List.cons_append, List.nil_append])
  unfold GivesT
  rw [hR.out]
  rw [hs0.out] at hn
  have HT := Lib.hid hn
  have HF := Lib.hid hf
  clear h hi hR hv hn hf hs0 hnm hsa hsb
  go_enter Tryd.func14, Tryd.ntmps14
  go_wp2_with fail
  refine (encoded_yes ⟨_, _, _, _, _⟩ HI.out H.out _).mono ?_
  rintro e w1 ⟨rfl, hb1⟩
  have B1 := Lib.hid ((hb1.block w.heap.size (by simp)).trans (heap_alloc_new w _))
  have HB1 := Lib.hid (((Below.refl w.heap.size w).alloc (Nat.le_refl _) (.cells #[.int .i64 ((o : Int) + 1), .int .i64 a, .int .i64 b, .int .i64 c, .int .i64 imm] 23)).trans (hb1.mono (by simp)))
  have hz1 : w.heap.size < w1.heap.size := by have := hb1.size; simp at this; omega
  have HV1 := Lib.hid (HV.out.below HB1.out)
  clear hb1
  have c0 := cell_of_row _ _ 0 _ _ _ B1.out
  simp only [List.getElem?_toArray, List.getElem?_cons_zero] at c0
  obtain ⟨t, fr, ht⟩ := HV1.out.texts
  have HTB := Lib.hid ht
  have kk1 : w1.cell? ⟨0, o * 2, none⟩ = some (.string s0) := (cell_of_row w1 _ _ _ _ _ HTB.out).trans HT.out
  have kk2 : w1.cell? ⟨0, o * 2 + 1, none⟩ = some (.string ⟨#[97, 98]⟩) := (cell_of_row w1 _ _ _ _ _ HTB.out).trans HF.out
  clear ht HTB HT HF
  have h25 : (o : Int) < 25 := by omega
  go_wp2_with fail
  clear kk1 kk2 c0 h25
  have HVw := Lib.hid (fun (V : World) (h : Below w.heap.size w V) => HV.out.below h)
  clear HV HV1
  have A1 := Lib.hid (Below.heap_alloc w1 (.cells #[.string s0, .string ⟨#[97, 98]⟩] 60) w.heap.size hz1)
  have I0 := Lib.hid (World.iter_heap (w1.alloc (.cells #[.string s0, .string ⟨#[97, 98]⟩] 60)) ⟨#[97, 98]⟩ 0)
  have e1 : (w1.alloc (.cells #[.string s0, .string ⟨#[97, 98]⟩] 60)).heap.size = w1.heap.size + 1 := by simp
  have B3 := Lib.hid (show ((w1.alloc (.cells #[.string s0, .string ⟨#[97, 98]⟩] 60)).iter ⟨#[97, 98]⟩ 0).heap[w.heap.size]? = _ from (Below.heap_alloc _ _ _ (by rw [e1]; omega)).trans (A1.out.trans B1.out))
  have HB3 := Lib.hid (show Below w.heap.size w ((w1.alloc (.cells #[.string s0, .string ⟨#[97, 98]⟩] 60)).iter ⟨#[97, 98]⟩ 0) from (HB1.out.alloc (Nat.le_of_lt hz1) _).alloc (by rw [e1]; omega) _)
  have hg : w1.heap.size + 1 < ((w1.alloc (.cells #[.string s0, .string ⟨#[97, 98]⟩] 60)).iter ⟨#[97, 98]⟩ 0).heap.size := (by show w1.heap.size + 1 < ((w1.alloc _).alloc _).heap.size; simp)
  rw [e1] at I0
  have hz2 : w.heap.size < w1.heap.size + 1 := by omega
  obtain ⟨V, hV⟩ : ∃ V, Hid ((w1.alloc (.cells #[.string s0, .string ⟨#[97, 98]⟩] 60)).iter ⟨#[97, 98]⟩ 0 = V) := ⟨_, Lib.hid rfl⟩
  rw [hV.out] at I0 B3 HB3 hg ⊢
  clear hV A1 B1 HB1 e1
  obtain ⟨g, hgg⟩ : ∃ y, Hid (w1.heap.size + 1 = y) := ⟨_, Lib.hid rfl⟩
  rw [hgg.out] at I0 hg hz2 ⊢
  clear hgg hz1
  refine wp_loop_rounds 3 ?_
  obtain ⟨U0, hU0, n0⟩ := next_yes V g ⟨#[97, 98]⟩ 0 I0.out (by decide) (by decide)
  have I1 := Lib.hid hU0.at_
  have B1 := Lib.hid ((hU0.block w.heap.size (Nat.ne_of_lt hz2)).trans B3.out)
  have HB1 := Lib.hid (HB3.out.setI (Nat.le_of_lt hz2) hU0)
  have hg1 : g < U0.heap.size := by rw [hU0.size]; exact hg
  clear hU0 I0 B3 HB3 hg
  rw [rounds_succ]
  go_wp2_with ((with_reducible show wpList _ _ _ (Oper.mk _ (Op.load 23 _) _ _ _ none :: _) _ _); refine wpList_load_all rfl 23 _ rfl w.heap.size _ _ rfl B1.out Tryd.underlying23 rfl (by kernel_rfl) ?_)
  refine (Da.out _ (HVw.out _ HB1.out)).mono ?_
  rintro e v0 ⟨rfl, hb⟩
  have I0 := Lib.hid ((hb.block g hg1).trans I1.out)
  have B3 := Lib.hid ((hb.block w.heap.size (Nat.lt_trans hz2 hg1)).trans B1.out)
  have HB3 := Lib.hid (HB1.out.trans (hb.mono (Nat.le_of_lt (Nat.lt_trans hz2 hg1))))
  have hg : g < v0.heap.size := Nat.lt_of_lt_of_le hg1 hb.size
  clear hb I1 B1 HB1 hg1 n0
  go_wp2_with fail
  obtain ⟨U1, hU1, n1⟩ := next_yes v0 g ⟨#[97, 98]⟩ 1 I0.out (by decide) (by decide)
  have I1 := Lib.hid hU1.at_
  have B1 := Lib.hid ((hU1.block w.heap.size (Nat.ne_of_lt hz2)).trans B3.out)
  have HB1 := Lib.hid (HB3.out.setI (Nat.le_of_lt hz2) hU1)
  have hg1 : g < U1.heap.size := by rw [hU1.size]; exact hg
  clear hU1 I0 B3 HB3 hg
  rw [rounds_succ]
  go_wp2_with ((with_reducible show wpList _ _ _ (Oper.mk _ (Op.load 23 _) _ _ _ none :: _) _ _); refine wpList_load_all rfl 23 _ rfl w.heap.size _ _ rfl B1.out Tryd.underlying23 rfl (by kernel_rfl) ?_)
  refine (Db.out _ (HVw.out _ HB1.out)).mono ?_
  rintro e v1 ⟨rfl, hb⟩
  have I0 := Lib.hid ((hb.block g hg1).trans I1.out)
  have B3 := Lib.hid ((hb.block w.heap.size (Nat.lt_trans hz2 hg1)).trans B1.out)
  have HB3 := Lib.hid (HB1.out.trans (hb.mono (Nat.le_of_lt (Nat.lt_trans hz2 hg1))))
  have hg : g < v1.heap.size := Nat.lt_of_lt_of_le hg1 hb.size
  clear hb I1 B1 HB1 hg1 n1
  go_wp2_with fail
  have n2 := fun ty => next_no v1 g ⟨#[97, 98]⟩ 2 ty I0.out (by decide)
  rw [rounds_succ]
  go_wp2_with fail
  go_ret
  exact ⟨by rw [← hRe.out]; rfl, HB3.out⟩
set_option maxRecDepth 100000 in
set_option maxHeartbeats 4000000 in
theorem text_abc (o : Nat) (ho : o < 25) (nm : List UInt8) (hnm : nm.length ≤ 8) (a b c imm : Int) (hi : Ins.Fits ⟨(o : Int) + 1, a, b, c, imm⟩) (h : encE ⟨(o : Int) + 1, a, b, c, imm⟩ = 0) (w : World) (hv : VarsAt w) (hn : textsA[o * 2]? = some (.string (bs nm))) (hf : textsA[o * 2 + 1]? = some (.string ⟨#[97, 98, 99]⟩)) :
    Calls Tryd.prog 14 #[insV ⟨(o : Int) + 1, a, b, c, imm⟩] w (GivesT w (nm ++ regT a ++ regT b ++ regT c)) := by
  have H := Lib.hid h
  have HI := Lib.hid hi
  have HV := Lib.hid hv
  obtain ⟨sa, hsa⟩ : ∃ s, Hid (bs (114 :: Lib.itoa a) = s) := ⟨_, Lib.hid rfl⟩
  have za : sa.size ≤ 21 := by
    rw [← hsa.out, bs_size]
    have := itoa_len (n := a) hi.a
    rw [bs_size] at this
    (try simp only [List.length_cons])
    omega
  have Da := Lib.hid (fun (W : World) (h : VarsAt W) => field_a ((o : Int) + 1) a b c imm hi W h)
  unfold GivesT at Da
  rw [hsa.out] at Da
  obtain ⟨sb, hsb⟩ : ∃ s, Hid (bs (114 :: Lib.itoa b) = s) := ⟨_, Lib.hid rfl⟩
  have zb : sb.size ≤ 21 := by
    rw [← hsb.out, bs_size]
    have := itoa_len (n := b) hi.b
    rw [bs_size] at this
    (try simp only [List.length_cons])
    omega
  have Db := Lib.hid (fun (W : World) (h : VarsAt W) => field_b ((o : Int) + 1) a b c imm hi W h)
  unfold GivesT at Db
  rw [hsb.out] at Db
  obtain ⟨sc, hsc⟩ : ∃ s, Hid (bs (114 :: Lib.itoa c) = s) := ⟨_, Lib.hid rfl⟩
  have zc : sc.size ≤ 21 := by
    rw [← hsc.out, bs_size]
    have := itoa_len (n := c) hi.c
    rw [bs_size] at this
    (try simp only [List.length_cons])
    omega
  have Dc := Lib.hid (fun (W : World) (h : VarsAt W) => field_c ((o : Int) + 1) a b c imm hi W h)
  unfold GivesT at Dc
  rw [hsc.out] at Dc
  obtain ⟨s0, hs0⟩ : ∃ s, Hid (bs nm = s) := ⟨_, Lib.hid rfl⟩
  have z0 : s0.size ≤ 8 := by rw [← hs0.out, bs_size]; exact hnm
  obtain ⟨R, hR⟩ : ∃ s, Hid (bs (nm ++ regT a ++ regT b ++ regT c) = s) := ⟨_, Lib.hid rfl⟩
  have hRe := Lib.hid (show s0 ++ (bs [32] ++ sa) ++ (bs [32] ++ sb) ++ (bs [32] ++ sc) = R by
    rw [← hR.out, ← hs0.out]; simp only [← hsa.out, ← hsb.out, ← hsc.out, bs_append, regT, List.append_assoc, List.cons_append, List.nil_append])
  unfold GivesT
  rw [hR.out]
  rw [hs0.out] at hn
  have HT := Lib.hid hn
  have HF := Lib.hid hf
  clear h hi hR hv hn hf hs0 hnm hsa hsb hsc
  go_enter Tryd.func14, Tryd.ntmps14
  go_wp2_with fail
  refine (encoded_yes ⟨_, _, _, _, _⟩ HI.out H.out _).mono ?_
  rintro e w1 ⟨rfl, hb1⟩
  have B1 := Lib.hid ((hb1.block w.heap.size (by simp)).trans (heap_alloc_new w _))
  have HB1 := Lib.hid (((Below.refl w.heap.size w).alloc (Nat.le_refl _) (.cells #[.int .i64 ((o : Int) + 1), .int .i64 a, .int .i64 b, .int .i64 c, .int .i64 imm] 23)).trans (hb1.mono (by simp)))
  have hz1 : w.heap.size < w1.heap.size := by have := hb1.size; simp at this; omega
  have HV1 := Lib.hid (HV.out.below HB1.out)
  clear hb1
  have c0 := cell_of_row _ _ 0 _ _ _ B1.out
  simp only [List.getElem?_toArray, List.getElem?_cons_zero] at c0
  obtain ⟨t, fr, ht⟩ := HV1.out.texts
  have HTB := Lib.hid ht
  have kk1 : w1.cell? ⟨0, o * 2, none⟩ = some (.string s0) := (cell_of_row w1 _ _ _ _ _ HTB.out).trans HT.out
  have kk2 : w1.cell? ⟨0, o * 2 + 1, none⟩ = some (.string ⟨#[97, 98, 99]⟩) := (cell_of_row w1 _ _ _ _ _ HTB.out).trans HF.out
  clear ht HTB HT HF
  have h25 : (o : Int) < 25 := by omega
  go_wp2_with fail
  clear kk1 kk2 c0 h25
  have HVw := Lib.hid (fun (V : World) (h : Below w.heap.size w V) => HV.out.below h)
  clear HV HV1
  have A1 := Lib.hid (Below.heap_alloc w1 (.cells #[.string s0, .string ⟨#[97, 98, 99]⟩] 60) w.heap.size hz1)
  have I0 := Lib.hid (World.iter_heap (w1.alloc (.cells #[.string s0, .string ⟨#[97, 98, 99]⟩] 60)) ⟨#[97, 98, 99]⟩ 0)
  have e1 : (w1.alloc (.cells #[.string s0, .string ⟨#[97, 98, 99]⟩] 60)).heap.size = w1.heap.size + 1 := by simp
  have B3 := Lib.hid (show ((w1.alloc (.cells #[.string s0, .string ⟨#[97, 98, 99]⟩] 60)).iter ⟨#[97, 98, 99]⟩ 0).heap[w.heap.size]? = _ from (Below.heap_alloc _ _ _ (by rw [e1]; omega)).trans (A1.out.trans B1.out))
  have HB3 := Lib.hid (show Below w.heap.size w ((w1.alloc (.cells #[.string s0, .string ⟨#[97, 98, 99]⟩] 60)).iter ⟨#[97, 98, 99]⟩ 0) from (HB1.out.alloc (Nat.le_of_lt hz1) _).alloc (by rw [e1]; omega) _)
  have hg : w1.heap.size + 1 < ((w1.alloc (.cells #[.string s0, .string ⟨#[97, 98, 99]⟩] 60)).iter ⟨#[97, 98, 99]⟩ 0).heap.size := (by show w1.heap.size + 1 < ((w1.alloc _).alloc _).heap.size; simp)
  rw [e1] at I0
  have hz2 : w.heap.size < w1.heap.size + 1 := by omega
  obtain ⟨V, hV⟩ : ∃ V, Hid ((w1.alloc (.cells #[.string s0, .string ⟨#[97, 98, 99]⟩] 60)).iter ⟨#[97, 98, 99]⟩ 0 = V) := ⟨_, Lib.hid rfl⟩
  rw [hV.out] at I0 B3 HB3 hg ⊢
  clear hV A1 B1 HB1 e1
  obtain ⟨g, hgg⟩ : ∃ y, Hid (w1.heap.size + 1 = y) := ⟨_, Lib.hid rfl⟩
  rw [hgg.out] at I0 hg hz2 ⊢
  clear hgg hz1
  refine wp_loop_rounds 4 ?_
  obtain ⟨U0, hU0, n0⟩ := next_yes V g ⟨#[97, 98, 99]⟩ 0 I0.out (by decide) (by decide)
  have I1 := Lib.hid hU0.at_
  have B1 := Lib.hid ((hU0.block w.heap.size (Nat.ne_of_lt hz2)).trans B3.out)
  have HB1 := Lib.hid (HB3.out.setI (Nat.le_of_lt hz2) hU0)
  have hg1 : g < U0.heap.size := by rw [hU0.size]; exact hg
  clear hU0 I0 B3 HB3 hg
  rw [rounds_succ]
  go_wp2_with ((with_reducible show wpList _ _ _ (Oper.mk _ (Op.load 23 _) _ _ _ none :: _) _ _); refine wpList_load_all rfl 23 _ rfl w.heap.size _ _ rfl B1.out Tryd.underlying23 rfl (by kernel_rfl) ?_)
  refine (Da.out _ (HVw.out _ HB1.out)).mono ?_
  rintro e v0 ⟨rfl, hb⟩
  have I0 := Lib.hid ((hb.block g hg1).trans I1.out)
  have B3 := Lib.hid ((hb.block w.heap.size (Nat.lt_trans hz2 hg1)).trans B1.out)
  have HB3 := Lib.hid (HB1.out.trans (hb.mono (Nat.le_of_lt (Nat.lt_trans hz2 hg1))))
  have hg : g < v0.heap.size := Nat.lt_of_lt_of_le hg1 hb.size
  clear hb I1 B1 HB1 hg1 n0
  go_wp2_with fail
  obtain ⟨U1, hU1, n1⟩ := next_yes v0 g ⟨#[97, 98, 99]⟩ 1 I0.out (by decide) (by decide)
  have I1 := Lib.hid hU1.at_
  have B1 := Lib.hid ((hU1.block w.heap.size (Nat.ne_of_lt hz2)).trans B3.out)
  have HB1 := Lib.hid (HB3.out.setI (Nat.le_of_lt hz2) hU1)
  have hg1 : g < U1.heap.size := by rw [hU1.size]; exact hg
  clear hU1 I0 B3 HB3 hg
  rw [rounds_succ]
  go_wp2_with ((with_reducible show wpList _ _ _ (Oper.mk _ (Op.load 23 _) _ _ _ none :: _) _ _); refine wpList_load_all rfl 23 _ rfl w.heap.size _ _ rfl B1.out Tryd.underlying23 rfl (by kernel_rfl) ?_)
  refine (Db.out _ (HVw.out _ HB1.out)).mono ?_
  rintro e v1 ⟨rfl, hb⟩
  have I0 := Lib.hid ((hb.block g hg1).trans I1.out)
  have B3 := Lib.hid ((hb.block w.heap.size (Nat.lt_trans hz2 hg1)).trans B1.out)
  have HB3 := Lib.hid (HB1.out.trans (hb.mono (Nat.le_of_lt (Nat.lt_trans hz2 hg1))))
  have hg : g < v1.heap.size := Nat.lt_of_lt_of_le hg1 hb.size
  clear hb I1 B1 HB1 hg1 n1
  go_wp2_with fail
  obtain ⟨U2, hU2, n2⟩ := next_yes v1 g ⟨#[97, 98, 99]⟩ 2 I0.out (by decide) (by decide)
  have I1 := Lib.hid hU2.at_
  have B1 := Lib.hid ((hU2.block w.heap.size (Nat.ne_of_lt hz2)).trans B3.out)
  have HB1 := Lib.hid (HB3.out.setI (Nat.le_of_lt hz2) hU2)
  have hg1 : g < U2.heap.size := by rw [hU2.size]; exact hg
  clear hU2 I0 B3 HB3 hg
  rw [rounds_succ]
  go_wp2_with ((with_reducible show wpList _ _ _ (Oper.mk _ (Op.load 23 _) _ _ _ none :: _) _ _); refine wpList_load_all rfl 23 _ rfl w.heap.size _ _ rfl B1.out Tryd.underlying23 rfl (by kernel_rfl) ?_)
  refine (Dc.out _ (HVw.out _ HB1.out)).mono ?_
  rintro e v2 ⟨rfl, hb⟩
  have I0 := Lib.hid ((hb.block g hg1).trans I1.out)
  have B3 := Lib.hid ((hb.block w.heap.size (Nat.lt_trans hz2 hg1)).trans B1.out)
  have HB3 := Lib.hid (HB1.out.trans (hb.mono (Nat.le_of_lt (Nat.lt_trans hz2 hg1))))
  have hg : g < v2.heap.size := Nat.lt_of_lt_of_le hg1 hb.size
  clear hb I1 B1 HB1 hg1 n2
  go_wp2_with fail
  have n3 := fun ty => next_no v2 g ⟨#[97, 98, 99]⟩ 3 ty I0.out (by decide)
  rw [rounds_succ]
  go_wp2_with fail
  go_ret
  exact ⟨by rw [← hRe.out]; rfl, HB3.out⟩
set_option maxRecDepth 100000 in
set_option maxHeartbeats 4000000 in
theorem text_abn (o : Nat) (ho : o < 25) (nm : List UInt8) (hnm : nm.length ≤ 8) (a b c imm : Int) (hi : Ins.Fits ⟨(o : Int) + 1, a, b, c, imm⟩) (h : encE ⟨(o : Int) + 1, a, b, c, imm⟩ = 0) (w : World) (hv : VarsAt w) (hn : textsA[o * 2]? = some (.string (bs nm))) (hf : textsA[o * 2 + 1]? = some (.string ⟨#[97, 98, 110]⟩)) :
    Calls Tryd.prog 14 #[insV ⟨(o : Int) + 1, a, b, c, imm⟩] w (GivesT w (nm ++ regT a ++ regT b ++ 32 :: Lib.itoa imm)) := by
  have H := Lib.hid h
  have HI := Lib.hid hi
  have HV := Lib.hid hv
  obtain ⟨sa, hsa⟩ : ∃ s, Hid (bs (114 :: Lib.itoa a) = s) := ⟨_, Lib.hid rfl⟩
  have za : sa.size ≤ 21 := by
    rw [← hsa.out, bs_size]
    have := itoa_len (n := a) hi.a
    rw [bs_size] at this
    (try simp only [List.length_cons])
    omega
  have Da := Lib.hid (fun (W : World) (h : VarsAt W) => field_a ((o : Int) + 1) a b c imm hi W h)
  unfold GivesT at Da
  rw [hsa.out] at Da
  obtain ⟨sb, hsb⟩ : ∃ s, Hid (bs (114 :: Lib.itoa b) = s) := ⟨_, Lib.hid rfl⟩
  have zb : sb.size ≤ 21 := by
    rw [← hsb.out, bs_size]
    have := itoa_len (n := b) hi.b
    rw [bs_size] at this
    (try simp only [List.length_cons])
    omega
  have Db := Lib.hid (fun (W : World) (h : VarsAt W) => field_b ((o : Int) + 1) a b c imm hi W h)
  unfold GivesT at Db
  rw [hsb.out] at Db
  obtain ⟨sn, hsn⟩ : ∃ s, Hid (bs (Lib.itoa imm) = s) := ⟨_, Lib.hid rfl⟩
  have zn : sn.size ≤ 21 := by
    rw [← hsn.out, bs_size]
    have := itoa_len (n := imm) hi.imm
    rw [bs_size] at this
    (try simp only [List.length_cons])
    omega
  have Dn := Lib.hid (fun (W : World) (h : VarsAt W) => field_n ((o : Int) + 1) a b c imm hi W h)
  unfold GivesT at Dn
  rw [hsn.out] at Dn
  obtain ⟨s0, hs0⟩ : ∃ s, Hid (bs nm = s) := ⟨_, Lib.hid rfl⟩
  have z0 : s0.size ≤ 8 := by rw [← hs0.out, bs_size]; exact hnm
  obtain ⟨R, hR⟩ : ∃ s, Hid (bs (nm ++ regT a ++ regT b ++ 32 :: Lib.itoa imm) = s) := ⟨_, Lib.hid rfl⟩
  have hRe := Lib.hid (show s0 ++ (bs [32] ++ sa) ++ (bs [32] ++ sb) ++ (bs [32] ++ sn) = R by
    rw [← hR.out, ← hs0.out]; simp only [← hsa.out, ← hsb.out, ← hsn.out, bs_append, regT, List.append_assoc, List.cons_append, List.nil_append])
  unfold GivesT
  rw [hR.out]
  rw [hs0.out] at hn
  have HT := Lib.hid hn
  have HF := Lib.hid hf
  clear h hi hR hv hn hf hs0 hnm hsa hsb hsn
  go_enter Tryd.func14, Tryd.ntmps14
  go_wp2_with fail
  refine (encoded_yes ⟨_, _, _, _, _⟩ HI.out H.out _).mono ?_
  rintro e w1 ⟨rfl, hb1⟩
  have B1 := Lib.hid ((hb1.block w.heap.size (by simp)).trans (heap_alloc_new w _))
  have HB1 := Lib.hid (((Below.refl w.heap.size w).alloc (Nat.le_refl _) (.cells #[.int .i64 ((o : Int) + 1), .int .i64 a, .int .i64 b, .int .i64 c, .int .i64 imm] 23)).trans (hb1.mono (by simp)))
  have hz1 : w.heap.size < w1.heap.size := by have := hb1.size; simp at this; omega
  have HV1 := Lib.hid (HV.out.below HB1.out)
  clear hb1
  have c0 := cell_of_row _ _ 0 _ _ _ B1.out
  simp only [List.getElem?_toArray, List.getElem?_cons_zero] at c0
  obtain ⟨t, fr, ht⟩ := HV1.out.texts
  have HTB := Lib.hid ht
  have kk1 : w1.cell? ⟨0, o * 2, none⟩ = some (.string s0) := (cell_of_row w1 _ _ _ _ _ HTB.out).trans HT.out
  have kk2 : w1.cell? ⟨0, o * 2 + 1, none⟩ = some (.string ⟨#[97, 98, 110]⟩) := (cell_of_row w1 _ _ _ _ _ HTB.out).trans HF.out
  clear ht HTB HT HF
  have h25 : (o : Int) < 25 := by omega
  go_wp2_with fail
  clear kk1 kk2 c0 h25
  have HVw := Lib.hid (fun (V : World) (h : Below w.heap.size w V) => HV.out.below h)
  clear HV HV1
  have A1 := Lib.hid (Below.heap_alloc w1 (.cells #[.string s0, .string ⟨#[97, 98, 110]⟩] 60) w.heap.size hz1)
  have I0 := Lib.hid (World.iter_heap (w1.alloc (.cells #[.string s0, .string ⟨#[97, 98, 110]⟩] 60)) ⟨#[97, 98, 110]⟩ 0)
  have e1 : (w1.alloc (.cells #[.string s0, .string ⟨#[97, 98, 110]⟩] 60)).heap.size = w1.heap.size + 1 := by simp
  have B3 := Lib.hid (show ((w1.alloc (.cells #[.string s0, .string ⟨#[97, 98, 110]⟩] 60)).iter ⟨#[97, 98, 110]⟩ 0).heap[w.heap.size]? = _ from (Below.heap_alloc _ _ _ (by rw [e1]; omega)).trans (A1.out.trans B1.out))
  have HB3 := Lib.hid (show Below w.heap.size w ((w1.alloc (.cells #[.string s0, .string ⟨#[97, 98, 110]⟩] 60)).iter ⟨#[97, 98, 110]⟩ 0) from (HB1.out.alloc (Nat.le_of_lt hz1) _).alloc (by rw [e1]; omega) _)
  have hg : w1.heap.size + 1 < ((w1.alloc (.cells #[.string s0, .string ⟨#[97, 98, 110]⟩] 60)).iter ⟨#[97, 98, 110]⟩ 0).heap.size := (by show w1.heap.size + 1 < ((w1.alloc _).alloc _).heap.size; simp)
  rw [e1] at I0
  have hz2 : w.heap.size < w1.heap.size + 1 := by omega
  obtain ⟨V, hV⟩ : ∃ V, Hid ((w1.alloc (.cells #[.string s0, .string ⟨#[97, 98, 110]⟩] 60)).iter ⟨#[97, 98, 110]⟩ 0 = V) := ⟨_, Lib.hid rfl⟩
  rw [hV.out] at I0 B3 HB3 hg ⊢
  clear hV A1 B1 HB1 e1
  obtain ⟨g, hgg⟩ : ∃ y, Hid (w1.heap.size + 1 = y) := ⟨_, Lib.hid rfl⟩
  rw [hgg.out] at I0 hg hz2 ⊢
  clear hgg hz1
  refine wp_loop_rounds 4 ?_
  obtain ⟨U0, hU0, n0⟩ := next_yes V g ⟨#[97, 98, 110]⟩ 0 I0.out (by decide) (by decide)
  have I1 := Lib.hid hU0.at_
  have B1 := Lib.hid ((hU0.block w.heap.size (Nat.ne_of_lt hz2)).trans B3.out)
  have HB1 := Lib.hid (HB3.out.setI (Nat.le_of_lt hz2) hU0)
  have hg1 : g < U0.heap.size := by rw [hU0.size]; exact hg
  clear hU0 I0 B3 HB3 hg
  rw [rounds_succ]
  go_wp2_with ((with_reducible show wpList _ _ _ (Oper.mk _ (Op.load 23 _) _ _ _ none :: _) _ _); refine wpList_load_all rfl 23 _ rfl w.heap.size _ _ rfl B1.out Tryd.underlying23 rfl (by kernel_rfl) ?_)
  refine (Da.out _ (HVw.out _ HB1.out)).mono ?_
  rintro e v0 ⟨rfl, hb⟩
  have I0 := Lib.hid ((hb.block g hg1).trans I1.out)
  have B3 := Lib.hid ((hb.block w.heap.size (Nat.lt_trans hz2 hg1)).trans B1.out)
  have HB3 := Lib.hid (HB1.out.trans (hb.mono (Nat.le_of_lt (Nat.lt_trans hz2 hg1))))
  have hg : g < v0.heap.size := Nat.lt_of_lt_of_le hg1 hb.size
  clear hb I1 B1 HB1 hg1 n0
  go_wp2_with fail
  obtain ⟨U1, hU1, n1⟩ := next_yes v0 g ⟨#[97, 98, 110]⟩ 1 I0.out (by decide) (by decide)
  have I1 := Lib.hid hU1.at_
  have B1 := Lib.hid ((hU1.block w.heap.size (Nat.ne_of_lt hz2)).trans B3.out)
  have HB1 := Lib.hid (HB3.out.setI (Nat.le_of_lt hz2) hU1)
  have hg1 : g < U1.heap.size := by rw [hU1.size]; exact hg
  clear hU1 I0 B3 HB3 hg
  rw [rounds_succ]
  go_wp2_with ((with_reducible show wpList _ _ _ (Oper.mk _ (Op.load 23 _) _ _ _ none :: _) _ _); refine wpList_load_all rfl 23 _ rfl w.heap.size _ _ rfl B1.out Tryd.underlying23 rfl (by kernel_rfl) ?_)
  refine (Db.out _ (HVw.out _ HB1.out)).mono ?_
  rintro e v1 ⟨rfl, hb⟩
  have I0 := Lib.hid ((hb.block g hg1).trans I1.out)
  have B3 := Lib.hid ((hb.block w.heap.size (Nat.lt_trans hz2 hg1)).trans B1.out)
  have HB3 := Lib.hid (HB1.out.trans (hb.mono (Nat.le_of_lt (Nat.lt_trans hz2 hg1))))
  have hg : g < v1.heap.size := Nat.lt_of_lt_of_le hg1 hb.size
  clear hb I1 B1 HB1 hg1 n1
  go_wp2_with fail
  obtain ⟨U2, hU2, n2⟩ := next_yes v1 g ⟨#[97, 98, 110]⟩ 2 I0.out (by decide) (by decide)
  have I1 := Lib.hid hU2.at_
  have B1 := Lib.hid ((hU2.block w.heap.size (Nat.ne_of_lt hz2)).trans B3.out)
  have HB1 := Lib.hid (HB3.out.setI (Nat.le_of_lt hz2) hU2)
  have hg1 : g < U2.heap.size := by rw [hU2.size]; exact hg
  clear hU2 I0 B3 HB3 hg
  rw [rounds_succ]
  go_wp2_with ((with_reducible show wpList _ _ _ (Oper.mk _ (Op.load 23 _) _ _ _ none :: _) _ _); refine wpList_load_all rfl 23 _ rfl w.heap.size _ _ rfl B1.out Tryd.underlying23 rfl (by kernel_rfl) ?_)
  refine (Dn.out _ (HVw.out _ HB1.out)).mono ?_
  rintro e v2 ⟨rfl, hb⟩
  have I0 := Lib.hid ((hb.block g hg1).trans I1.out)
  have B3 := Lib.hid ((hb.block w.heap.size (Nat.lt_trans hz2 hg1)).trans B1.out)
  have HB3 := Lib.hid (HB1.out.trans (hb.mono (Nat.le_of_lt (Nat.lt_trans hz2 hg1))))
  have hg : g < v2.heap.size := Nat.lt_of_lt_of_le hg1 hb.size
  clear hb I1 B1 HB1 hg1 n2
  go_wp2_with fail
  have n3 := fun ty => next_no v2 g ⟨#[97, 98, 110]⟩ 3 ty I0.out (by decide)
  rw [rounds_succ]
  go_wp2_with fail
  go_ret
  exact ⟨by rw [← hRe.out]; rfl, HB3.out⟩
set_option maxRecDepth 100000 in
set_option maxHeartbeats 4000000 in
theorem text_n (o : Nat) (ho : o < 25) (nm : List UInt8) (hnm : nm.length ≤ 8) (a b c imm : Int) (hi : Ins.Fits ⟨(o : Int) + 1, a, b, c, imm⟩) (h : encE ⟨(o : Int) + 1, a, b, c, imm⟩ = 0) (w : World) (hv : VarsAt w) (hn : textsA[o * 2]? = some (.string (bs nm))) (hf : textsA[o * 2 + 1]? = some (.string ⟨#[110]⟩)) :
    Calls Tryd.prog 14 #[insV ⟨(o : Int) + 1, a, b, c, imm⟩] w (GivesT w (nm ++ 32 :: Lib.itoa imm)) := by
  have H := Lib.hid h
  have HI := Lib.hid hi
  have HV := Lib.hid hv
  obtain ⟨sn, hsn⟩ : ∃ s, Hid (bs (Lib.itoa imm) = s) := ⟨_, Lib.hid rfl⟩
  have zn : sn.size ≤ 21 := by
    rw [← hsn.out, bs_size]
    have := itoa_len (n := imm) hi.imm
    rw [bs_size] at this
    (try simp only [List.length_cons])
    omega
  have Dn := Lib.hid (fun (W : World) (h : VarsAt W) => field_n ((o : Int) + 1) a b c imm hi W h)
  unfold GivesT at Dn
  rw [hsn.out] at Dn
  obtain ⟨s0, hs0⟩ : ∃ s, Hid (bs nm = s) := ⟨_, Lib.hid rfl⟩
  have z0 : s0.size ≤ 8 := by rw [← hs0.out, bs_size]; exact hnm
  obtain ⟨R, hR⟩ : ∃ s, Hid (bs (nm ++ 32 :: Lib.itoa imm) = s) := ⟨_, Lib.hid rfl⟩
  have hRe := Lib.hid (show s0 ++ (bs [32] ++ sn) = R by
    rw [← hR.out, ← hs0.out]; simp only [← hsn.out, bs_append, List.cons_append, List.nil_append])
  unfold GivesT
  rw [hR.out]
  rw [hs0.out] at hn
  have HT := Lib.hid hn
  have HF := Lib.hid hf
  clear h hi hR hv hn hf hs0 hnm hsn
  go_enter Tryd.func14, Tryd.ntmps14
  go_wp2_with fail
  refine (encoded_yes ⟨_, _, _, _, _⟩ HI.out H.out _).mono ?_
  rintro e w1 ⟨rfl, hb1⟩
  have B1 := Lib.hid ((hb1.block w.heap.size (by simp)).trans (heap_alloc_new w _))
  have HB1 := Lib.hid (((Below.refl w.heap.size w).alloc (Nat.le_refl _) (.cells #[.int .i64 ((o : Int) + 1), .int .i64 a, .int .i64 b, .int .i64 c, .int .i64 imm] 23)).trans (hb1.mono (by simp)))
  have hz1 : w.heap.size < w1.heap.size := by have := hb1.size; simp at this; omega
  have HV1 := Lib.hid (HV.out.below HB1.out)
  clear hb1
  have c0 := cell_of_row _ _ 0 _ _ _ B1.out
  simp only [List.getElem?_toArray, List.getElem?_cons_zero] at c0
  obtain ⟨t, fr, ht⟩ := HV1.out.texts
  have HTB := Lib.hid ht
  have kk1 : w1.cell? ⟨0, o * 2, none⟩ = some (.string s0) := (cell_of_row w1 _ _ _ _ _ HTB.out).trans HT.out
  have kk2 : w1.cell? ⟨0, o * 2 + 1, none⟩ = some (.string ⟨#[110]⟩) := (cell_of_row w1 _ _ _ _ _ HTB.out).trans HF.out
  clear ht HTB HT HF
  have h25 : (o : Int) < 25 := by omega
  go_wp2_with fail
  clear kk1 kk2 c0 h25
  have HVw := Lib.hid (fun (V : World) (h : Below w.heap.size w V) => HV.out.below h)
  clear HV HV1
  have A1 := Lib.hid (Below.heap_alloc w1 (.cells #[.string s0, .string ⟨#[110]⟩] 60) w.heap.size hz1)
  have I0 := Lib.hid (World.iter_heap (w1.alloc (.cells #[.string s0, .string ⟨#[110]⟩] 60)) ⟨#[110]⟩ 0)
  have e1 : (w1.alloc (.cells #[.string s0, .string ⟨#[110]⟩] 60)).heap.size = w1.heap.size + 1 := by simp
  have B3 := Lib.hid (show ((w1.alloc (.cells #[.string s0, .string ⟨#[110]⟩] 60)).iter ⟨#[110]⟩ 0).heap[w.heap.size]? = _ from (Below.heap_alloc _ _ _ (by rw [e1]; omega)).trans (A1.out.trans B1.out))
  have HB3 := Lib.hid (show Below w.heap.size w ((w1.alloc (.cells #[.string s0, .string ⟨#[110]⟩] 60)).iter ⟨#[110]⟩ 0) from (HB1.out.alloc (Nat.le_of_lt hz1) _).alloc (by rw [e1]; omega) _)
  have hg : w1.heap.size + 1 < ((w1.alloc (.cells #[.string s0, .string ⟨#[110]⟩] 60)).iter ⟨#[110]⟩ 0).heap.size := (by show w1.heap.size + 1 < ((w1.alloc _).alloc _).heap.size; simp)
  rw [e1] at I0
  have hz2 : w.heap.size < w1.heap.size + 1 := by omega
  obtain ⟨V, hV⟩ : ∃ V, Hid ((w1.alloc (.cells #[.string s0, .string ⟨#[110]⟩] 60)).iter ⟨#[110]⟩ 0 = V) := ⟨_, Lib.hid rfl⟩
  rw [hV.out] at I0 B3 HB3 hg ⊢
  clear hV A1 B1 HB1 e1
  obtain ⟨g, hgg⟩ : ∃ y, Hid (w1.heap.size + 1 = y) := ⟨_, Lib.hid rfl⟩
  rw [hgg.out] at I0 hg hz2 ⊢
  clear hgg hz1
  refine wp_loop_rounds 2 ?_
  obtain ⟨U0, hU0, n0⟩ := next_yes V g ⟨#[110]⟩ 0 I0.out (by decide) (by decide)
  have I1 := Lib.hid hU0.at_
  have B1 := Lib.hid ((hU0.block w.heap.size (Nat.ne_of_lt hz2)).trans B3.out)
  have HB1 := Lib.hid (HB3.out.setI (Nat.le_of_lt hz2) hU0)
  have hg1 : g < U0.heap.size := by rw [hU0.size]; exact hg
  clear hU0 I0 B3 HB3 hg
  rw [rounds_succ]
  go_wp2_with ((with_reducible show wpList _ _ _ (Oper.mk _ (Op.load 23 _) _ _ _ none :: _) _ _); refine wpList_load_all rfl 23 _ rfl w.heap.size _ _ rfl B1.out Tryd.underlying23 rfl (by kernel_rfl) ?_)
  refine (Dn.out _ (HVw.out _ HB1.out)).mono ?_
  rintro e v0 ⟨rfl, hb⟩
  have I0 := Lib.hid ((hb.block g hg1).trans I1.out)
  have B3 := Lib.hid ((hb.block w.heap.size (Nat.lt_trans hz2 hg1)).trans B1.out)
  have HB3 := Lib.hid (HB1.out.trans (hb.mono (Nat.le_of_lt (Nat.lt_trans hz2 hg1))))
  have hg : g < v0.heap.size := Nat.lt_of_lt_of_le hg1 hb.size
  clear hb I1 B1 HB1 hg1 n0
  go_wp2_with fail
  have n1 := fun ty => next_no v0 g ⟨#[110]⟩ 1 ty I0.out (by decide)
  rw [rounds_succ]
  go_wp2_with fail
  go_ret
  exact ⟨by rw [← hRe.out]; rfl, HB3.out⟩
set_option maxRecDepth 100000 in
set_option maxHeartbeats 4000000 in
theorem text_a (o : Nat) (ho : o < 25) (nm : List UInt8) (hnm : nm.length ≤ 8) (a b c imm : Int) (hi : Ins.Fits ⟨(o : Int) + 1, a, b, c, imm⟩) (h : encE ⟨(o : Int) + 1, a, b, c, imm⟩ = 0) (w : World) (hv : VarsAt w) (hn : textsA[o * 2]? = some (.string (bs nm))) (hf : textsA[o * 2 + 1]? = some (.string ⟨#[97]⟩)) :
    Calls Tryd.prog 14 #[insV ⟨(o : Int) + 1, a, b, c, imm⟩] w (GivesT w (nm ++ regT a)) := by
  have H := Lib.hid h
  have HI := Lib.hid hi
  have HV := Lib.hid hv
  obtain ⟨sa, hsa⟩ : ∃ s, Hid (bs (114 :: Lib.itoa a) = s) := ⟨_, Lib.hid rfl⟩
  have za : sa.size ≤ 21 := by
    rw [← hsa.out, bs_size]
    have := itoa_len (n := a) hi.a
    rw [bs_size] at this
    (try simp only [List.length_cons])
    omega
  have Da := Lib.hid (fun (W : World) (h : VarsAt W) => field_a ((o : Int) + 1) a b c imm hi W h)
  unfold GivesT at Da
  rw [hsa.out] at Da
  obtain ⟨s0, hs0⟩ : ∃ s, Hid (bs nm = s) := ⟨_, Lib.hid rfl⟩
  have z0 : s0.size ≤ 8 := by rw [← hs0.out, bs_size]; exact hnm
  obtain ⟨R, hR⟩ : ∃ s, Hid (bs (nm ++ regT a) = s) := ⟨_, Lib.hid rfl⟩
  have hRe := Lib.hid (show s0 ++ (bs [32] ++ sa) = R by
    rw [← hR.out, ← hs0.out]; simp only [← hsa.out, bs_append, regT, List.cons_append, List.nil_append])
  unfold GivesT
  rw [hR.out]
  rw [hs0.out] at hn
  have HT := Lib.hid hn
  have HF := Lib.hid hf
  clear h hi hR hv hn hf hs0 hnm hsa
  go_enter Tryd.func14, Tryd.ntmps14
  go_wp2_with fail
  refine (encoded_yes ⟨_, _, _, _, _⟩ HI.out H.out _).mono ?_
  rintro e w1 ⟨rfl, hb1⟩
  have B1 := Lib.hid ((hb1.block w.heap.size (by simp)).trans (heap_alloc_new w _))
  have HB1 := Lib.hid (((Below.refl w.heap.size w).alloc (Nat.le_refl _) (.cells #[.int .i64 ((o : Int) + 1), .int .i64 a, .int .i64 b, .int .i64 c, .int .i64 imm] 23)).trans (hb1.mono (by simp)))
  have hz1 : w.heap.size < w1.heap.size := by have := hb1.size; simp at this; omega
  have HV1 := Lib.hid (HV.out.below HB1.out)
  clear hb1
  have c0 := cell_of_row _ _ 0 _ _ _ B1.out
  simp only [List.getElem?_toArray, List.getElem?_cons_zero] at c0
  obtain ⟨t, fr, ht⟩ := HV1.out.texts
  have HTB := Lib.hid ht
  have kk1 : w1.cell? ⟨0, o * 2, none⟩ = some (.string s0) := (cell_of_row w1 _ _ _ _ _ HTB.out).trans HT.out
  have kk2 : w1.cell? ⟨0, o * 2 + 1, none⟩ = some (.string ⟨#[97]⟩) := (cell_of_row w1 _ _ _ _ _ HTB.out).trans HF.out
  clear ht HTB HT HF
  have h25 : (o : Int) < 25 := by omega
  go_wp2_with fail
  clear kk1 kk2 c0 h25
  have HVw := Lib.hid (fun (V : World) (h : Below w.heap.size w V) => HV.out.below h)
  clear HV HV1
  have A1 := Lib.hid (Below.heap_alloc w1 (.cells #[.string s0, .string ⟨#[97]⟩] 60) w.heap.size hz1)
  have I0 := Lib.hid (World.iter_heap (w1.alloc (.cells #[.string s0, .string ⟨#[97]⟩] 60)) ⟨#[97]⟩ 0)
  have e1 : (w1.alloc (.cells #[.string s0, .string ⟨#[97]⟩] 60)).heap.size = w1.heap.size + 1 := by simp
  have B3 := Lib.hid (show ((w1.alloc (.cells #[.string s0, .string ⟨#[97]⟩] 60)).iter ⟨#[97]⟩ 0).heap[w.heap.size]? = _ from (Below.heap_alloc _ _ _ (by rw [e1]; omega)).trans (A1.out.trans B1.out))
  have HB3 := Lib.hid (show Below w.heap.size w ((w1.alloc (.cells #[.string s0, .string ⟨#[97]⟩] 60)).iter ⟨#[97]⟩ 0) from (HB1.out.alloc (Nat.le_of_lt hz1) _).alloc (by rw [e1]; omega) _)
  have hg : w1.heap.size + 1 < ((w1.alloc (.cells #[.string s0, .string ⟨#[97]⟩] 60)).iter ⟨#[97]⟩ 0).heap.size := (by show w1.heap.size + 1 < ((w1.alloc _).alloc _).heap.size; simp)
  rw [e1] at I0
  have hz2 : w.heap.size < w1.heap.size + 1 := by omega
  obtain ⟨V, hV⟩ : ∃ V, Hid ((w1.alloc (.cells #[.string s0, .string ⟨#[97]⟩] 60)).iter ⟨#[97]⟩ 0 = V) := ⟨_, Lib.hid rfl⟩
  rw [hV.out] at I0 B3 HB3 hg ⊢
  clear hV A1 B1 HB1 e1
  obtain ⟨g, hgg⟩ : ∃ y, Hid (w1.heap.size + 1 = y) := ⟨_, Lib.hid rfl⟩
  rw [hgg.out] at I0 hg hz2 ⊢
  clear hgg hz1
  refine wp_loop_rounds 2 ?_
  obtain ⟨U0, hU0, n0⟩ := next_yes V g ⟨#[97]⟩ 0 I0.out (by decide) (by decide)
  have I1 := Lib.hid hU0.at_
  have B1 := Lib.hid ((hU0.block w.heap.size (Nat.ne_of_lt hz2)).trans B3.out)
  have HB1 := Lib.hid (HB3.out.setI (Nat.le_of_lt hz2) hU0)
  have hg1 : g < U0.heap.size := by rw [hU0.size]; exact hg
  clear hU0 I0 B3 HB3 hg
  rw [rounds_succ]
  go_wp2_with ((with_reducible show wpList _ _ _ (Oper.mk _ (Op.load 23 _) _ _ _ none :: _) _ _); refine wpList_load_all rfl 23 _ rfl w.heap.size _ _ rfl B1.out Tryd.underlying23 rfl (by kernel_rfl) ?_)
  refine (Da.out _ (HVw.out _ HB1.out)).mono ?_
  rintro e v0 ⟨rfl, hb⟩
  have I0 := Lib.hid ((hb.block g hg1).trans I1.out)
  have B3 := Lib.hid ((hb.block w.heap.size (Nat.lt_trans hz2 hg1)).trans B1.out)
  have HB3 := Lib.hid (HB1.out.trans (hb.mono (Nat.le_of_lt (Nat.lt_trans hz2 hg1))))
  have hg : g < v0.heap.size := Nat.lt_of_lt_of_le hg1 hb.size
  clear hb I1 B1 HB1 hg1 n0
  go_wp2_with fail
  have n1 := fun ty => next_no v0 g ⟨#[97]⟩ 1 ty I0.out (by decide)
  rw [rounds_succ]
  go_wp2_with fail
  go_ret
  exact ⟨by rw [← hRe.out]; rfl, HB3.out⟩
theorem text_word (i : Ins) (hi : i.Fits) (h : encE i ≠ 0) (w : World) : Calls Tryd.prog 14 #[insV i] w (GivesT w (textT i)) := by
  have ht : textT i = [119, 111, 114, 100] := by unfold textT; rw [if_pos h]
  rw [ht]
  clear ht
  obtain ⟨op, a, b, c, imm⟩ := i
  have H := Lib.hid h
  clear h
  go_enter Tryd.func14, Tryd.ntmps14
  go_wp2_with fail
  refine (encoded_no ⟨_, _, _, _, _⟩ hi H.out _).mono ?_
  rintro e w1 ⟨rfl, hb1⟩
  go_wp2_with fail
  go_ret
  exact ⟨rfl, ((Below.refl w.heap.size w).alloc (Nat.le_refl _) _).trans (hb1.mono (by simp))⟩
theorem text_any (i : Ins) (hi : i.Fits) (w : World) (hv : VarsAt w) : Calls Tryd.prog 14 #[insV i] w (GivesT w (textT i)) := by
  by_cases h : encE i = 0
  · have hk := (ok_of h).op
    obtain ⟨op, a, b, c, imm⟩ := i
    simp only at hk
    rcases (show op = 1 ∨ op = 2 ∨ op = 3 ∨ op = 4 ∨ op = 5 ∨ op = 6 ∨ op = 7 ∨ op = 8 ∨ op = 9 ∨ op = 10 ∨ op = 11 ∨ op = 12 ∨ op = 13 ∨ op = 14 ∨ op = 15 ∨ op = 16 ∨ op = 17 ∨ op = 18 ∨ op = 19 ∨ op = 20 ∨ op = 21 ∨ op = 22 ∨ op = 23 ∨ op = 24 ∨ op = 25 by omega) with rfl | rfl | rfl | rfl | rfl | rfl | rfl | rfl | rfl | rfl | rfl | rfl | rfl | rfl | rfl | rfl | rfl | rfl | rfl | rfl | rfl | rfl | rfl | rfl | rfl
    · have ht : textT ⟨1, a, b, c, imm⟩ = [110, 111, 112] := by
        unfold textT
        rw [if_neg (fun hn => hn h)]
        simp [nameT, usesT]
      rw [ht]
      exact text_none 0 (by decide) [110, 111, 112] (by decide) a b c imm hi h w hv rfl rfl
    · have ht : textT ⟨2, a, b, c, imm⟩ = [98, 114, 101, 97, 107] := by
        unfold textT
        rw [if_neg (fun hn => hn h)]
        simp [nameT, usesT]
      rw [ht]
      exact text_none 1 (by decide) [98, 114, 101, 97, 107] (by decide) a b c imm hi h w hv rfl rfl
    · have ht : textT ⟨3, a, b, c, imm⟩ = [99, 111, 110, 115, 116] ++ regT a ++ 32 :: Lib.itoa imm := by
        unfold textT
        rw [if_neg (fun hn => hn h)]
        simp [nameT, usesT]
      rw [ht]
      exact text_an 2 (by decide) [99, 111, 110, 115, 116] (by decide) a b c imm hi h w hv rfl rfl
    · have ht : textT ⟨4, a, b, c, imm⟩ = [112, 111, 111, 108] ++ regT a ++ 32 :: Lib.itoa imm := by
        unfold textT
        rw [if_neg (fun hn => hn h)]
        simp [nameT, usesT]
      rw [ht]
      exact text_an 3 (by decide) [112, 111, 111, 108] (by decide) a b c imm hi h w hv rfl rfl
    · have ht : textT ⟨5, a, b, c, imm⟩ = [109, 111, 118, 101] ++ regT a ++ regT b := by
        unfold textT
        rw [if_neg (fun hn => hn h)]
        simp [nameT, usesT]
      rw [ht]
      exact text_ab 4 (by decide) [109, 111, 118, 101] (by decide) a b c imm hi h w hv rfl rfl
    · have ht : textT ⟨6, a, b, c, imm⟩ = [97, 100, 100] ++ regT a ++ regT b ++ regT c := by
        unfold textT
        rw [if_neg (fun hn => hn h)]
        simp [nameT, usesT]
      rw [ht]
      exact text_abc 5 (by decide) [97, 100, 100] (by decide) a b c imm hi h w hv rfl rfl
    · have ht : textT ⟨7, a, b, c, imm⟩ = [115, 117, 98] ++ regT a ++ regT b ++ regT c := by
        unfold textT
        rw [if_neg (fun hn => hn h)]
        simp [nameT, usesT]
      rw [ht]
      exact text_abc 6 (by decide) [115, 117, 98] (by decide) a b c imm hi h w hv rfl rfl
    · have ht : textT ⟨8, a, b, c, imm⟩ = [109, 117, 108] ++ regT a ++ regT b ++ regT c := by
        unfold textT
        rw [if_neg (fun hn => hn h)]
        simp [nameT, usesT]
      rw [ht]
      exact text_abc 7 (by decide) [109, 117, 108] (by decide) a b c imm hi h w hv rfl rfl
    · have ht : textT ⟨9, a, b, c, imm⟩ = [100, 105, 118] ++ regT a ++ regT b ++ regT c := by
        unfold textT
        rw [if_neg (fun hn => hn h)]
        simp [nameT, usesT]
      rw [ht]
      exact text_abc 8 (by decide) [100, 105, 118] (by decide) a b c imm hi h w hv rfl rfl
    · have ht : textT ⟨10, a, b, c, imm⟩ = [109, 111, 100] ++ regT a ++ regT b ++ regT c := by
        unfold textT
        rw [if_neg (fun hn => hn h)]
        simp [nameT, usesT]
      rw [ht]
      exact text_abc 9 (by decide) [109, 111, 100] (by decide) a b c imm hi h w hv rfl rfl
    · have ht : textT ⟨11, a, b, c, imm⟩ = [97, 110, 100] ++ regT a ++ regT b ++ regT c := by
        unfold textT
        rw [if_neg (fun hn => hn h)]
        simp [nameT, usesT]
      rw [ht]
      exact text_abc 10 (by decide) [97, 110, 100] (by decide) a b c imm hi h w hv rfl rfl
    · have ht : textT ⟨12, a, b, c, imm⟩ = [111, 114] ++ regT a ++ regT b ++ regT c := by
        unfold textT
        rw [if_neg (fun hn => hn h)]
        simp [nameT, usesT]
      rw [ht]
      exact text_abc 11 (by decide) [111, 114] (by decide) a b c imm hi h w hv rfl rfl
    · have ht : textT ⟨13, a, b, c, imm⟩ = [120, 111, 114] ++ regT a ++ regT b ++ regT c := by
        unfold textT
        rw [if_neg (fun hn => hn h)]
        simp [nameT, usesT]
      rw [ht]
      exact text_abc 12 (by decide) [120, 111, 114] (by decide) a b c imm hi h w hv rfl rfl
    · have ht : textT ⟨14, a, b, c, imm⟩ = [108, 101, 115, 115] ++ regT a ++ regT b ++ regT c := by
        unfold textT
        rw [if_neg (fun hn => hn h)]
        simp [nameT, usesT]
      rw [ht]
      exact text_abc 13 (by decide) [108, 101, 115, 115] (by decide) a b c imm hi h w hv rfl rfl
    · have ht : textT ⟨15, a, b, c, imm⟩ = [108, 101, 115, 115, 101, 113] ++ regT a ++ regT b ++ regT c := by
        unfold textT
        rw [if_neg (fun hn => hn h)]
        simp [nameT, usesT]
      rw [ht]
      exact text_abc 14 (by decide) [108, 101, 115, 115, 101, 113] (by decide) a b c imm hi h w hv rfl rfl
    · have ht : textT ⟨16, a, b, c, imm⟩ = [101, 113, 117, 97, 108] ++ regT a ++ regT b ++ regT c := by
        unfold textT
        rw [if_neg (fun hn => hn h)]
        simp [nameT, usesT]
      rw [ht]
      exact text_abc 15 (by decide) [101, 113, 117, 97, 108] (by decide) a b c imm hi h w hv rfl rfl
    · have ht : textT ⟨17, a, b, c, imm⟩ = [110, 111, 116, 101, 113, 117, 97, 108] ++ regT a ++ regT b ++ regT c := by
        unfold textT
        rw [if_neg (fun hn => hn h)]
        simp [nameT, usesT]
      rw [ht]
      exact text_abc 16 (by decide) [110, 111, 116, 101, 113, 117, 97, 108] (by decide) a b c imm hi h w hv rfl rfl
    · have ht : textT ⟨18, a, b, c, imm⟩ = [97, 100, 100, 105, 109, 109] ++ regT a ++ regT b ++ 32 :: Lib.itoa imm := by
        unfold textT
        rw [if_neg (fun hn => hn h)]
        simp [nameT, usesT]
      rw [ht]
      exact text_abn 17 (by decide) [97, 100, 100, 105, 109, 109] (by decide) a b c imm hi h w hv rfl rfl
    · have ht : textT ⟨19, a, b, c, imm⟩ = [108, 111, 97, 100] ++ regT a ++ regT b ++ 32 :: Lib.itoa imm := by
        unfold textT
        rw [if_neg (fun hn => hn h)]
        simp [nameT, usesT]
      rw [ht]
      exact text_abn 18 (by decide) [108, 111, 97, 100] (by decide) a b c imm hi h w hv rfl rfl
    · have ht : textT ⟨20, a, b, c, imm⟩ = [115, 116, 111, 114, 101] ++ regT a ++ regT b ++ 32 :: Lib.itoa imm := by
        unfold textT
        rw [if_neg (fun hn => hn h)]
        simp [nameT, usesT]
      rw [ht]
      exact text_abn 19 (by decide) [115, 116, 111, 114, 101] (by decide) a b c imm hi h w hv rfl rfl
    · have ht : textT ⟨21, a, b, c, imm⟩ = [106, 117, 109, 112] ++ 32 :: Lib.itoa imm := by
        unfold textT
        rw [if_neg (fun hn => hn h)]
        simp [nameT, usesT]
      rw [ht]
      exact text_n 20 (by decide) [106, 117, 109, 112] (by decide) a b c imm hi h w hv rfl rfl
    · have ht : textT ⟨22, a, b, c, imm⟩ = [122, 101, 114, 111] ++ regT a ++ 32 :: Lib.itoa imm := by
        unfold textT
        rw [if_neg (fun hn => hn h)]
        simp [nameT, usesT]
      rw [ht]
      exact text_an 21 (by decide) [122, 101, 114, 111] (by decide) a b c imm hi h w hv rfl rfl
    · have ht : textT ⟨23, a, b, c, imm⟩ = [99, 97, 108, 108] ++ 32 :: Lib.itoa imm := by
        unfold textT
        rw [if_neg (fun hn => hn h)]
        simp [nameT, usesT]
      rw [ht]
      exact text_n 22 (by decide) [99, 97, 108, 108] (by decide) a b c imm hi h w hv rfl rfl
    · have ht : textT ⟨24, a, b, c, imm⟩ = [114, 101, 116, 117, 114, 110] := by
        unfold textT
        rw [if_neg (fun hn => hn h)]
        simp [nameT, usesT]
      rw [ht]
      exact text_none 23 (by decide) [114, 101, 116, 117, 114, 110] (by decide) a b c imm hi h w hv rfl rfl
    · have ht : textT ⟨25, a, b, c, imm⟩ = [112, 114, 105, 110, 116] ++ regT a := by
        unfold textT
        rw [if_neg (fun hn => hn h)]
        simp [nameT, usesT]
      rw [ht]
      exact text_a 24 (by decide) [112, 114, 105, 110, 116] (by decide) a b c imm hi h w hv rfl rfl
  · exact text_word i hi h w
end Go.Proofs.YtimiofmmhccmmaaDoor
