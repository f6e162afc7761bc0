/-
  same.List over two slices that read as the same numbers, same.Outcome over the same outcome. No condition.
-/
import Derived.Test.YtimiofmmhccmmaaDoorNums
import Derived.Test.YtimiofmmhccmmaaDoorWrd
import Derived.Deep.QuietTactic
import Derived.BigQuiet
namespace Go.Proofs.YtimiofmmhccmmaaDoor
open Go.RowKit

/-- The world has moved on by draws alone. -/
def Drew (w w' : World) : Prop := ∃ n, w' = w.drewN n
theorem Drew.refl (w : World) : Drew w w := ⟨0, rfl⟩
theorem Drew.drewN {w w' : World} (h : Drew w w') (m : Nat) : Drew w (w'.drewN m) := by
  obtain ⟨n, rfl⟩ := h
  exact ⟨n + m, by rw [World.drewN_drewN]⟩
theorem Drew.cell {w w' : World} (h : Drew w w') (p : Addr) : w'.cell? p = w.cell? p := by
  obtain ⟨n, rfl⟩ := h
  rfl
theorem Drew.below {w w' : World} (h : Drew w w') (B : Nat) : Below B w w' := by
  obtain ⟨n, rfl⟩ := h
  exact ⟨rfl, rfl, rfl, Nat.le_refl _, fun _ _ => rfl⟩

theorem nums_same (A A' : Option Addr) (c c' : Nat) (l : List Int) (w : World) (hb : Nums w A c l) (hb' : Nums w A' c' l) :
    Calls Tryd.prog 28 #[.slice A l.length c, .slice A' l.length c'] w fun e w' => e = .returned (.bool true) ∧ Below w.heap.size w w' := by
  have hmax : l.length ≤ 9223372036854775807 := by have := hb.len; have := hb.cap; unfold maxLen at this; omega
  go_enter Tryd.func28, Tryd.ntmps28
  go_wp2
  go_loopw [5] (fun i wr => ∃ k : Nat, k ≤ l.length ∧ i = .int .i64 k ∧ Drew w wr) (fun i _ => l.length - (intOf i).toNat)
  case atStart => exact ⟨0, Nat.zero_le _, rfl, Drew.refl _⟩
  case round =>
    obtain ⟨k, hk, rfl, hd⟩ := hrel
    by_cases hlt : k < l.length
    · have hne : l ≠ [] := by rintro rfl; simp at hlt
      obtain ⟨b, o, rfl, _, hc⟩ := hb.at_ hne
      obtain ⟨b', o', rfl, _, hc'⟩ := hb'.at_ hne
      have h1 := (hd.cell _).trans (hc k hlt)
      have g1 := (hd.cell _).trans (hc' k hlt)
      obtain ⟨x, hx⟩ : ∃ x, Hid (l.getD k 0 = x) := ⟨_, rfl⟩
      rw [hx.out] at h1 g1
      clear hb hb' hc hc' hx
      go_wp2
      go_quiet (fail)
      go_wp2
      go_roundw
      case rel => exact ⟨k + 1, by omega, by go_num, hd.drewN _⟩
      case measure => simp [intOf]; omega
    · go_wp2
      go_ret
      exact ⟨rfl, hd.below _⟩
end Go.Proofs.YtimiofmmhccmmaaDoor
