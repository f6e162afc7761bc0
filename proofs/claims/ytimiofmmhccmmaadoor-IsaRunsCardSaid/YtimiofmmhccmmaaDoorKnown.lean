/-
  The sanity check of layer 16. Condition: the program's functions.
-/
import Derived.Test.YtimiofmmhccmmaaDoorIsaC
namespace Go.Proofs.YtimiofmmhccmmaaDoor
open Go.RowKit

theorem move_text : textT ⟨5, 1, 2, 0, 0⟩ = [109, 111, 118, 101, 32, 114, 49, 32, 114, 50] := by
  have h1 : Lib.itoa 1 = [49] := by rw [Lib.itoa, if_neg (by decide)]; exact Lib.decDigits_one (by decide)
  have h2 : Lib.itoa 2 = [50] := by rw [Lib.itoa, if_neg (by decide)]; exact Lib.decDigits_one (by decide)
  unfold textT
  rw [if_neg (by decide)]
  simp [nameT, usesT, regT, h1, h2]
theorem text_move (w : World) (hv : VarsAt w) : Calls Tryd.prog 14 #[insV ⟨5, 1, 2, 0, 0⟩] w fun e w' => e = .returned (.string ⟨#[109, 111, 118, 101, 32, 114, 49, 32, 114, 50]⟩) ∧ Below w.heap.size w w' := by
  have h := text_any ⟨5, 1, 2, 0, 0⟩ ⟨⟨by decide, by decide⟩, ⟨by decide, by decide⟩, ⟨by decide, by decide⟩, ⟨by decide, by decide⟩, ⟨by decide, by decide⟩⟩ w hv
  rw [move_text] at h
  exact h
theorem fit2 (a b : Int) (ha : I64 a) (hb : I64 b) (n : Nat) : I64 (([a, b] : List Int).getD n 0) := by
  match n with
  | 0 => exact ha
  | 1 => exact hb
  | n + 2 => exact (⟨by decide, by decide⟩ : I64 0)
theorem nums_two (w : World) (a b : Int) (ha : I64 a) (hb : I64 b) (T : TypeId) : Nums (w.alloc (.cells #[.int .i64 a, .int .i64 b] T)) (some ⟨w.heap.size, 0, none⟩) 2 [a, b] :=
  ⟨fit2 a b ha hb, by simp, by simp [maxLen], fun h => (by cases h), fun _ => ⟨w.heap.size, 0, rfl, by simp, fun k hk => by
    rw [World.cell?_alloc_at _ _ _ _ rfl]
    match k, hk with
    | 0, _ => rfl
    | 1, _ => rfl⟩⟩
set_option maxRecDepth 100000 in
theorem known_any (w : World) (hv : VarsAt w) : Calls Tryd.prog 16 #[] w fun e w' => e = .returned (.bool true) ∧ Below w.heap.size w w' := by
  have f1 : Ins.Fits ⟨3, 0, 0, 0, 7⟩ := ⟨⟨by decide, by decide⟩, ⟨by decide, by decide⟩, ⟨by decide, by decide⟩, ⟨by decide, by decide⟩, ⟨by decide, by decide⟩⟩
  have f2 : Ins.Fits ⟨24, 0, 0, 0, 0⟩ := ⟨⟨by decide, by decide⟩, ⟨by decide, by decide⟩, ⟨by decide, by decide⟩, ⟨by decide, by decide⟩, ⟨by decide, by decide⟩⟩
  have a1 := Lib.hid (show encW ⟨3, 0, 0, 0, 7⟩ = word ⟨3, 0, 0, 0, 7⟩ from encW_yes (by decide))
  have a2 := Lib.hid (show encW ⟨24, 0, 0, 0, 0⟩ = word ⟨24, 0, 0, 0, 0⟩ from encW_yes (by decide))
  have e1 := Lib.hid (show encE ⟨3, 0, 0, 0, 7⟩ = 0 by decide)
  have e2 := Lib.hid (show encE ⟨24, 0, 0, 0, 0⟩ = 0 by decide)
  have g1 : I64 (word ⟨3, 0, 0, 0, 7⟩) := ⟨by decide, by decide⟩
  have g2 : I64 (word ⟨24, 0, 0, 0, 0⟩) := ⟨by decide, by decide⟩
  have HK := Lib.hid known_run
  obtain ⟨W1, hW1⟩ : ∃ y, Hid (word ⟨3, 0, 0, 0, 7⟩ = y) := ⟨_, rfl⟩
  obtain ⟨W2, hW2⟩ : ∃ y, Hid (word ⟨24, 0, 0, 0, 0⟩ = y) := ⟨_, rfl⟩
  rw [hW1.out] at a1 g1 HK
  rw [hW2.out] at a2 g2 HK
  clear hW1 hW2
  obtain ⟨o, ho⟩ : ∃ o, Hid (runO [W1, W2] 40 0 [] 9 = o) := ⟨_, rfl⟩
  rw [ho.out] at HK
  obtain ⟨err, th, val, outp⟩ := o
  obtain ⟨k1, k2⟩ := HK.out
  simp only at k1 k2
  subst k1 k2
  have F1 := Lib.hid f1
  have F2 := Lib.hid f2
  have NG := Lib.hid (And.intro g1 g2)
  clear f1 f2 HK g1 g2
  go_enter Tryd.func16, Tryd.ntmps16
  go_wp2_with fail
  refine (encode_any ⟨_, _, _, _, _⟩ F1.out _).mono ?_
  rintro e w1 ⟨rfl, hb1⟩
  rw [a1.out, e1.out]
  go_wp2_with fail
  refine (encode_any ⟨_, _, _, _, _⟩ F2.out _).mono ?_
  rintro e w2 ⟨rfl, hb2⟩
  rw [a2.out, e2.out]
  have HB2 := Lib.hid (hb1.trans (hb2.mono hb1.size))
  clear hb1 hb2 a1 a2 e1 e2 F1 F2
  go_wp2_with fail
  refine (run_any (some ⟨w2.heap.size, 0, none⟩) 2 [W1, W2] 40 0 none 0 [] 9 _ (nums_two w2 W1 W2 NG.out.1 NG.out.2 _) (nums_nil _) ⟨by decide, by decide⟩ (by simp)).mono ?_
  rintro e w3 ⟨A, c, rfl, hn, hb3⟩
  rw [ho.out]
  have HB3 := Lib.hid ((HB2.out.alloc HB2.out.size (.cells #[.int .i64 W1, .int .i64 W2] 3)).trans (hb3.mono (by have := HB2.out.size; simp; omega)))
  clear hb3 HB2 hn
  go_wp2_with (go_at_call 14; refine (text_move _ (hv.below (HB3.out.alloc HB3.out.size _))).mono ?_; rintro e w4 ⟨rfl, hb4⟩)
  go_ret
  exact ⟨rfl, (HB3.out.alloc HB3.out.size _).trans (hb4.mono (by have := HB3.out.size; simp; omega))⟩
end Go.Proofs.YtimiofmmhccmmaaDoor
