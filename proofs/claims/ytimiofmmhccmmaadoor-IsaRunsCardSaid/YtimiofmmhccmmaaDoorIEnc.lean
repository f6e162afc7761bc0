/-
  What the program's register, Encode and encoded return. Condition: the fields are numbers of 64 bits.
-/
import Derived.Test.YtimiofmmhccmmaaDoorEnc
import Derived.IntWalk
namespace Go.Proofs.YtimiofmmhccmmaaDoor
open Go.RowKit

theorem or_ops {i : Ins} (h : i.Ok) : bits .or .i64 (bits .or .i64 (bits .or .i64 (bits .or .i64 i.op (i.a * 256)) (i.b * 65536)) (i.c * 16777216)) (i.imm * 4294967296) = word i := by
  rw [← or_word h, or_comm _ (i.imm * 4294967296), or_comm _ (i.c * 16777216), or_comm _ (i.b * 65536), or_comm i.op]
  simp only [or_assoc]
/-- A number that is not one of 32 bits is another one as such. -/
theorem j_of (imm : Int) (_ : -9223372036854775808 ≤ imm) (_ : imm < 9223372036854775808) (h : imm < -2147483648 ∨ 2147483648 ≤ imm) : ∃ J, IntKind.i32.wrap imm = J ∧ wrap32 imm = J ∧ -2147483648 ≤ J ∧ J ≤ 2147483647 ∧ (imm != J) = true := by
  refine ⟨IntKind.i32.wrap imm, rfl, (IntWalk.i32_left imm).symm, ?_, ?_, ?_⟩
  · rw [IntKind.wrap_i32]; omega
  · rw [IntKind.wrap_i32]; omega
  · rw [IntKind.wrap_i32]; simp; omega

theorem reg_isa (n : Int) (w : World) : Calls Tryd.prog 29 #[.int .i64 n] w fun e w' => e = .returned (.bool (reg n)) ∧ w = w' := by
  by_cases h0 : 0 ≤ n
  · by_cases h1 : n < 16
    · have e := Lib.hid (reg_mk h0 h1)
      go_enter Tryd.func29, Tryd.ntmps29
      go_wp2
      go_ret
      exact ⟨by rw [e.out]; rfl, rfl⟩
    · have e : Hid (reg n = false) := Lib.hid (by simp [reg]; omega)
      go_enter Tryd.func29, Tryd.ntmps29
      go_wp2
      go_ret
      exact ⟨by rw [e.out]; rfl, rfl⟩
  · have e : Hid (reg n = false) := Lib.hid (by simp [reg]; omega)
    go_enter Tryd.func29, Tryd.ntmps29
    go_wp2
    go_ret
    exact ⟨by rw [e.out]; rfl, rfl⟩

set_option maxRecDepth 100000 in
theorem encode_any (i : Ins) (hi : i.Fits) (w : World) : Calls Tryd.prog 10 #[insV i] w (Gives2 w (.int .i64 (encW i)) (.int .i64 (encE i))) := by
  obtain ⟨op, a, b, c, imm⟩ := i
  obtain ⟨⟨hop0, hop1⟩, ⟨ha0, ha1⟩, ⟨hb0, hb1⟩, ⟨hc0, hc1⟩, ⟨hi0, hi1⟩⟩ := hi
  simp only at hop0 hop1 ha0 ha1 hb0 hb1 hc0 hc1 hi0 hi1
  obtain ⟨E, hE⟩ : ∃ E, Hid (encE ⟨op, a, b, c, imm⟩ = E) := ⟨_, rfl⟩
  obtain ⟨W, hW⟩ : ∃ W, Hid (encW ⟨op, a, b, c, imm⟩ = W) := ⟨_, rfl⟩
  rw [hE.out, hW.out]
  by_cases h1 : imm < -2147483648
  · have k := j_of imm hi0 hi1 (.inl h1)
    obtain ⟨J, k1, k2, j0, j1, hn⟩ := k
    have hE0 : encE ⟨op, a, b, c, imm⟩ = 2 := enc_range (.inl h1)
    have he : E = 2 := hE.out.symm.trans (hE0)
    have hw : W = 0 := hW.out.symm.trans (encW_no (by rw [hE0]; decide))
    clear hE hW
    subst he hw
    clear hE0
    go_enter Tryd.func10, Tryd.ntmps10
    go_wp2_with (go_at_call 29; refine (reg_isa _ _).mono ?_; rintro e w' ⟨rfl, rfl⟩)
    go_ret2
    exact ⟨rfl, (Below.refl _ _).alloc (Nat.le_refl _) _⟩
  by_cases h2 : 2147483648 ≤ imm
  · have k := j_of imm hi0 hi1 (.inr h2)
    obtain ⟨J, k1, k2, j0, j1, hn⟩ := k
    have hE0 : encE ⟨op, a, b, c, imm⟩ = 2 := enc_range (.inr (.inl h2))
    have he : E = 2 := hE.out.symm.trans (hE0)
    have hw : W = 0 := hW.out.symm.trans (encW_no (by rw [hE0]; decide))
    clear hE hW
    subst he hw
    clear hE0
    go_enter Tryd.func10, Tryd.ntmps10
    go_wp2_with (go_at_call 29; refine (reg_isa _ _).mono ?_; rintro e w' ⟨rfl, rfl⟩)
    go_ret2
    exact ⟨rfl, (Below.refl _ _).alloc (Nat.le_refl _) _⟩
  have k1 : IntKind.i32.wrap imm = imm := IntWalk.i32_in _ (by omega)
  have k2 : wrap32 imm = imm := (IntWalk.i32_left imm).symm.trans k1
  have j0 : -2147483648 ≤ imm := by omega
  have j1 : imm ≤ 2147483647 := by omega
  cases hra : reg a with
  | false =>
    have hE0 : encE ⟨op, a, b, c, imm⟩ = 2 := enc_range (.inr (.inr (.inl hra)))
    have he : E = 2 := hE.out.symm.trans (hE0)
    have hw : W = 0 := hW.out.symm.trans (encW_no (by rw [hE0]; decide))
    clear hE hW
    subst he hw
    clear hE0
    go_enter Tryd.func10, Tryd.ntmps10
    go_wp2_with (go_at_call 29; refine (reg_isa _ _).mono ?_; rintro e w' ⟨rfl, rfl⟩)
    go_ret2
    exact ⟨rfl, (Below.refl _ _).alloc (Nat.le_refl _) _⟩
  | true =>
  obtain ⟨xa0, xa1⟩ := reg_yes hra
  cases hrb : reg b with
  | false =>
    have hE0 : encE ⟨op, a, b, c, imm⟩ = 2 := enc_range (.inr (.inr (.inr (.inl hrb))))
    have he : E = 2 := hE.out.symm.trans (hE0)
    have hw : W = 0 := hW.out.symm.trans (encW_no (by rw [hE0]; decide))
    clear hE hW
    subst he hw
    clear hE0
    go_enter Tryd.func10, Tryd.ntmps10
    go_wp2_with (go_at_call 29; refine (reg_isa _ _).mono ?_; rintro e w' ⟨rfl, rfl⟩)
    go_ret2
    exact ⟨rfl, (Below.refl _ _).alloc (Nat.le_refl _) _⟩
  | true =>
  obtain ⟨xb0, xb1⟩ := reg_yes hrb
  cases hrc : reg c with
  | false =>
    have hE0 : encE ⟨op, a, b, c, imm⟩ = 2 := enc_range (.inr (.inr (.inr (.inr hrc))))
    have he : E = 2 := hE.out.symm.trans (hE0)
    have hw : W = 0 := hW.out.symm.trans (encW_no (by rw [hE0]; decide))
    clear hE hW
    subst he hw
    clear hE0
    go_enter Tryd.func10, Tryd.ntmps10
    go_wp2_with (go_at_call 29; refine (reg_isa _ _).mono ?_; rintro e w' ⟨rfl, rfl⟩)
    go_ret2
    exact ⟨rfl, (Below.refl _ _).alloc (Nat.le_refl _) _⟩
  | true =>
  obtain ⟨xc0, xc1⟩ := reg_yes hrc
  by_cases h3 : op < 1
  · have hE0 : encE ⟨op, a, b, c, imm⟩ = 4 := enc_form (by show _ ≤ imm; omega) (by show imm < _; omega) hra hrb hrc (.inl h3)
    have he : E = 4 := hE.out.symm.trans (hE0)
    have hw : W = 0 := hW.out.symm.trans (encW_no (by rw [hE0]; decide))
    clear hE hW
    subst he hw
    clear hE0
    go_enter Tryd.func10, Tryd.ntmps10
    go_wp2_with (go_at_call 29; refine (reg_isa _ _).mono ?_; rintro e w' ⟨rfl, rfl⟩)
    go_ret2
    exact ⟨rfl, (Below.refl _ _).alloc (Nat.le_refl _) _⟩
  by_cases h4 : 26 ≤ op
  · have hE0 : encE ⟨op, a, b, c, imm⟩ = 4 := enc_form (by show _ ≤ imm; omega) (by show imm < _; omega) hra hrb hrc (.inr h4)
    have he : E = 4 := hE.out.symm.trans (hE0)
    have hw : W = 0 := hW.out.symm.trans (encW_no (by rw [hE0]; decide))
    clear hE hW
    subst he hw
    clear hE0
    go_enter Tryd.func10, Tryd.ntmps10
    go_wp2_with (go_at_call 29; refine (reg_isa _ _).mono ?_; rintro e w' ⟨rfl, rfl⟩)
    go_ret2
    exact ⟨rfl, (Below.refl _ _).alloc (Nat.le_refl _) _⟩
  have hok : Ins.Ok ⟨op, a, b, c, imm⟩ := (⟨⟨by show _ ≤ op; omega, by show op < _; omega⟩, ⟨xa0, xa1⟩, ⟨xb0, xb1⟩, ⟨xc0, xc1⟩, ⟨by show _ ≤ imm; omega, by show imm < _; omega⟩⟩ : Ins.Ok ⟨op, a, b, c, imm⟩)
  have hE0 := of_ok hok
  have he : E = 0 := hE.out.symm.trans hE0
  have hw := Lib.hid (hW.out.symm.trans ((encW_yes hE0).trans (or_ops hok).symm))
  clear hE hW hE0 hok
  subst he
  go_enter Tryd.func10, Tryd.ntmps10
  go_wp2_with (go_at_call 29; refine (reg_isa _ _).mono ?_; rintro e w' ⟨rfl, rfl⟩)
  go_ret2
  exact ⟨by rw [hw.out]; rfl, (Below.refl _ _).alloc (Nat.le_refl _) _⟩

theorem encoded_yes (i : Ins) (hi : i.Fits) (h : encE i = 0) (w : World) : Calls Tryd.prog 31 #[insV i] w fun e w' => e = .returned (.bool true) ∧ Below w.heap.size w w' := by
  obtain ⟨op, a, b, c, imm⟩ := i
  have H := Lib.hid h
  clear h
  go_enter Tryd.func31, Tryd.ntmps31
  go_wp2_with fail
  refine (encode_any ⟨_, _, _, _, _⟩ hi _).mono ?_
  rintro e w1 ⟨rfl, hb1⟩
  rw [H.out]
  go_wp2_with fail
  go_ret
  exact ⟨rfl, ((Below.refl w.heap.size w).alloc (Nat.le_refl _) _).trans (hb1.mono (by simp))⟩
theorem encoded_no (i : Ins) (hi : i.Fits) (h : encE i ≠ 0) (w : World) : Calls Tryd.prog 31 #[insV i] w fun e w' => e = .returned (.bool false) ∧ Below w.heap.size w w' := by
  obtain ⟨op, a, b, c, imm⟩ := i
  have H := Lib.hid h
  clear h
  go_enter Tryd.func31, Tryd.ntmps31
  go_wp2_with fail
  refine (encode_any ⟨_, _, _, _, _⟩ hi _).mono ?_
  rintro e w1 ⟨rfl, hb1⟩
  obtain ⟨E, hE⟩ : ∃ E, Hid (encE ⟨op, a, b, c, imm⟩ = E) := ⟨_, rfl⟩
  have hne : ¬ E = 0 := by rw [← hE.out]; exact H.out
  rw [hE.out]
  have hnb : (E == 0) = false := by simpa using hne
  go_wp2_with fail
  go_ret
  exact ⟨rfl, ((Below.refl w.heap.size w).alloc (Nat.le_refl _) _).trans (hb1.mono (by simp))⟩
end Go.Proofs.YtimiofmmhccmmaaDoor
