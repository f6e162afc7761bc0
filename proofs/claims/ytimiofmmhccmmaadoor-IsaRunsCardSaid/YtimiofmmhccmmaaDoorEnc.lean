/-
  What the specification's register and Encode return. Condition: the fields are numbers of 64 bits.
-/
import Derived.Test.YtimiofmmhccmmaaDoorRows
import Derived.Test.YtimiofmmhccmmaaDoorPure
import Derived.Test.YtimiofmmhccmmaaDoorBlk
namespace Go.Proofs.YtimiofmmhccmmaaDoor
open Go.RowKit

/-- An instruction as a value. -/
abbrev insV (i : Ins) : Value := .agg #[.int .i64 i.op, .int .i64 i.a, .int .i64 i.b, .int .i64 i.c, .int .i64 i.imm]
/-- A call that returns a pair, and makes memory at most. -/
def Gives2 (w : World) (x y : Value) (e : Ending) (w' : World) : Prop := e = .returned (.tuple #[x, y]) ∧ Below w.heap.size w w'

theorem register_any (n : Int) (w : World) : Calls Tryd.prog 30 #[.int .i64 n] w fun e w' => e = .returned (.bool (reg n)) ∧ w = w' := by
  by_cases h0 : 0 ≤ n
  · by_cases h1 : n < 16
    · have e := Lib.hid (reg_mk h0 h1)
      go_enter Tryd.func30, Tryd.ntmps30
      go_wp2
      go_ret
      exact ⟨by rw [e.out]; rfl, rfl⟩
    · have e : Hid (reg n = false) := Lib.hid (by simp [reg]; omega)
      go_enter Tryd.func30, Tryd.ntmps30
      go_wp2
      go_ret
      exact ⟨by rw [e.out]; rfl, rfl⟩
  · have e : Hid (reg n = false) := Lib.hid (by simp [reg]; omega)
    go_enter Tryd.func30, Tryd.ntmps30
    go_wp2
    go_ret
    exact ⟨by rw [e.out]; rfl, rfl⟩

set_option maxRecDepth 100000 in
theorem refEncode_any (i : Ins) (hi : i.Fits) (w : World) : Calls Tryd.prog 11 #[insV i] w (Gives2 w (.int .i64 (encW i)) (.int .i64 (encE i))) := by
  obtain ⟨op, a, b, c, imm⟩ := i
  obtain ⟨⟨hop0, hop1⟩, ⟨ha0, ha1⟩, ⟨hb0, hb1⟩, ⟨hc0, hc1⟩, ⟨hi0, hi1⟩⟩ := hi
  simp only at hop0 hop1 ha0 ha1 hb0 hb1 hc0 hc1 hi0 hi1
  obtain ⟨E, hE⟩ : ∃ E, Hid (encE ⟨op, a, b, c, imm⟩ = E) := ⟨_, rfl⟩
  obtain ⟨W, hW⟩ : ∃ W, Hid (encW ⟨op, a, b, c, imm⟩ = W) := ⟨_, rfl⟩
  rw [hE.out, hW.out]
  by_cases h1 : imm < -2147483648
  · have hE0 : encE ⟨op, a, b, c, imm⟩ = 2 := enc_range (.inl h1)
    have he : E = 2 := hE.out.symm.trans (hE0)
    have hw : W = 0 := hW.out.symm.trans (encW_no (by rw [hE0]; decide))
    clear hE hW
    subst he hw
    clear hE0
    go_enter Tryd.func11, Tryd.ntmps11
    go_wp2_with (go_at_call 30; refine (register_any _ _).mono ?_; rintro e w' ⟨rfl, rfl⟩)
    go_ret2
    exact ⟨rfl, (Below.refl _ _).alloc (Nat.le_refl _) _⟩
  by_cases h2 : 2147483648 ≤ imm
  · have hE0 : encE ⟨op, a, b, c, imm⟩ = 2 := enc_range (.inr (.inl h2))
    have he : E = 2 := hE.out.symm.trans (hE0)
    have hw : W = 0 := hW.out.symm.trans (encW_no (by rw [hE0]; decide))
    clear hE hW
    subst he hw
    clear hE0
    go_enter Tryd.func11, Tryd.ntmps11
    go_wp2_with (go_at_call 30; refine (register_any _ _).mono ?_; rintro e w' ⟨rfl, rfl⟩)
    go_ret2
    exact ⟨rfl, (Below.refl _ _).alloc (Nat.le_refl _) _⟩
  cases hra : reg a with
  | false =>
    have hE0 : encE ⟨op, a, b, c, imm⟩ = 2 := enc_range (.inr (.inr (.inl hra)))
    have he : E = 2 := hE.out.symm.trans (hE0)
    have hw : W = 0 := hW.out.symm.trans (encW_no (by rw [hE0]; decide))
    clear hE hW
    subst he hw
    clear hE0
    go_enter Tryd.func11, Tryd.ntmps11
    go_wp2_with (go_at_call 30; refine (register_any _ _).mono ?_; rintro e w' ⟨rfl, rfl⟩)
    go_ret2
    exact ⟨rfl, (Below.refl _ _).alloc (Nat.le_refl _) _⟩
  | true =>
  obtain ⟨xa0, xa1⟩ := reg_yes hra
  cases hrb : reg b with
  | false =>
    have hE0 : encE ⟨op, a, b, c, imm⟩ = 2 := enc_range (.inr (.inr (.inr (.inl hrb))))
    have he : E = 2 := hE.out.symm.trans (hE0)
    have hw : W = 0 := hW.out.symm.trans (encW_no (by rw [hE0]; decide))
    clear hE hW
    subst he hw
    clear hE0
    go_enter Tryd.func11, Tryd.ntmps11
    go_wp2_with (go_at_call 30; refine (register_any _ _).mono ?_; rintro e w' ⟨rfl, rfl⟩)
    go_ret2
    exact ⟨rfl, (Below.refl _ _).alloc (Nat.le_refl _) _⟩
  | true =>
  obtain ⟨xb0, xb1⟩ := reg_yes hrb
  cases hrc : reg c with
  | false =>
    have hE0 : encE ⟨op, a, b, c, imm⟩ = 2 := enc_range (.inr (.inr (.inr (.inr hrc))))
    have he : E = 2 := hE.out.symm.trans (hE0)
    have hw : W = 0 := hW.out.symm.trans (encW_no (by rw [hE0]; decide))
    clear hE hW
    subst he hw
    clear hE0
    go_enter Tryd.func11, Tryd.ntmps11
    go_wp2_with (go_at_call 30; refine (register_any _ _).mono ?_; rintro e w' ⟨rfl, rfl⟩)
    go_ret2
    exact ⟨rfl, (Below.refl _ _).alloc (Nat.le_refl _) _⟩
  | true =>
  obtain ⟨xc0, xc1⟩ := reg_yes hrc
  by_cases h3 : op < 1
  · have hE0 : encE ⟨op, a, b, c, imm⟩ = 4 := enc_form (by show _ ≤ imm; omega) (by show imm < _; omega) hra hrb hrc (.inl h3)
    have he : E = 4 := hE.out.symm.trans (hE0)
    have hw : W = 0 := hW.out.symm.trans (encW_no (by rw [hE0]; decide))
    clear hE hW
    subst he hw
    clear hE0
    go_enter Tryd.func11, Tryd.ntmps11
    go_wp2_with (go_at_call 30; refine (register_any _ _).mono ?_; rintro e w' ⟨rfl, rfl⟩)
    go_ret2
    exact ⟨rfl, (Below.refl _ _).alloc (Nat.le_refl _) _⟩
  by_cases h4 : 26 ≤ op
  · have hE0 : encE ⟨op, a, b, c, imm⟩ = 4 := enc_form (by show _ ≤ imm; omega) (by show imm < _; omega) hra hrb hrc (.inr h4)
    have he : E = 4 := hE.out.symm.trans (hE0)
    have hw : W = 0 := hW.out.symm.trans (encW_no (by rw [hE0]; decide))
    clear hE hW
    subst he hw
    clear hE0
    go_enter Tryd.func11, Tryd.ntmps11
    go_wp2_with (go_at_call 30; refine (register_any _ _).mono ?_; rintro e w' ⟨rfl, rfl⟩)
    go_ret2
    exact ⟨rfl, (Below.refl _ _).alloc (Nat.le_refl _) _⟩
  have hok : Ins.Ok ⟨op, a, b, c, imm⟩ := (⟨⟨by show _ ≤ op; omega, by show op < _; omega⟩, ⟨xa0, xa1⟩, ⟨xb0, xb1⟩, ⟨xc0, xc1⟩, ⟨by show _ ≤ imm; omega, by show imm < _; omega⟩⟩ : Ins.Ok ⟨op, a, b, c, imm⟩)
  have hE0 := of_ok hok
  have he : E = 0 := hE.out.symm.trans hE0
  have hw := Lib.hid (hW.out.symm.trans ((encW_yes hE0).trans (or_word hok).symm))
  clear hE hW hE0 hok
  subst he
  go_enter Tryd.func11, Tryd.ntmps11
  go_wp2_with (go_at_call 30; refine (register_any _ _).mono ?_; rintro e w' ⟨rfl, rfl⟩)
  go_ret2
  exact ⟨by rw [hw.out]; rfl, (Below.refl _ _).alloc (Nat.le_refl _) _⟩
end Go.Proofs.YtimiofmmhccmmaaDoor
