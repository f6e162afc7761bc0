/-
  The walk of same.List over two slices of tokens that read as the same list. No condition.
-/
import Derived.Test.YtbkmpamcelphgaaDoorTok
import Derived.Deep.QuietTactic
import Derived.BigQuiet
namespace Go.Proofs.YtbkmpamcelphgaaDoor
open Go.RowKit

/-- The world has moved on by draws alone. -/
def Drew (w w' : World) : Prop := ∃ n, w' = w.drewN n
theorem Drew.refl (w : World) : Drew w w := ⟨0, rfl⟩
theorem Drew.drewN {w w' : World} (h : Drew w w') (m : Nat) : Drew w (w'.drewN m) := by
  obtain ⟨n, rfl⟩ := h
  exact ⟨n + m, by rw [World.drewN_drewN]⟩
theorem Drew.cell {w w' : World} (h : Drew w w') (p : Addr) : w'.cell? p = w.cell? p := by
  obtain ⟨n, rfl⟩ := h
  rfl
theorem Drew.below {w w' : World} (h : Drew w w') (B : Nat) : Below B w w' := by
  obtain ⟨n, rfl⟩ := h
  exact ⟨rfl, rfl, rfl, Nat.le_refl _, fun _ _ => rfl⟩

theorem list_same (A A' : Option Addr) (c c' : Nat) (l : List Tok) (w : World) (B B' : Nat) (hb : Toks w B A c l) (hb' : Toks w B' A' c' l) :
    Calls Tryd.prog 17 #[.slice A l.length c, .slice A' l.length c'] w fun e w' => e = .returned (.bool true) ∧ Drew w w' := by
  have hmax : l.length ≤ 9223372036854775807 := by have := hb.len; have := hb.cap; unfold maxLen at this; omega
  go_enter Tryd.func17, Tryd.ntmps17
  go_wp2
  go_loopw [5] (fun i wr => ∃ k : Nat, k ≤ l.length ∧ i = .int .i64 k ∧ Drew w wr) (fun i _ => l.length - (intOf i).toNat)
  case atStart => exact ⟨0, Nat.zero_le _, rfl, Drew.refl _⟩
  case round =>
    obtain ⟨k, hk, rfl, hd⟩ := hrel
    by_cases hlt : k < l.length
    · have hne : l ≠ [] := by rintro rfl; simp at hlt
      obtain ⟨b, rfl, hbB, hc⟩ := hb.at_ hne
      obtain ⟨b', rfl, hbB', hc'⟩ := hb'.at_ hne
      obtain ⟨⟨kd, ln, tx, nm⟩, ht⟩ : ∃ t, l[k]? = some t := ⟨_, List.getElem?_eq_getElem hlt⟩
      obtain ⟨a1, a2, a3, a4⟩ := hc k _ ht
      obtain ⟨b1, b2, b3, b4⟩ := hc' k _ ht
      have h1 := (hd.cell _).trans a1
      have h2 := (hd.cell _).trans a2
      have h3 := (hd.cell _).trans a3
      have h4 := (hd.cell _).trans a4
      have g1 := (hd.cell _).trans b1
      have g2 := (hd.cell _).trans b2
      have g3 := (hd.cell _).trans b3
      have g4 := (hd.cell _).trans b4
      clear hb hb' hc hc' a1 a2 a3 a4 b1 b2 b3 b4 ht
      go_wp2
      go_quiet (fail)
      go_wp2
      go_roundw
      case rel => exact ⟨k + 1, by omega, by go_num, hd.drewN _⟩
      case measure => simp [intOf]; omega
    · go_wp2
      go_ret
      exact ⟨rfl, hd⟩
end Go.Proofs.YtbkmpamcelphgaaDoor
