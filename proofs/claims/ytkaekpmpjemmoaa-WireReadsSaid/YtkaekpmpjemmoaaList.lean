/-
  The walk of same.List over two slices of bytes that read as the same list.
-/
import Derived.Test.YtkaekpmpjemmoaaRows
import Derived.Test.YtkaekpmpjemmoaaWords
import Derived.Deep.QuietTactic
import Derived.BigQuiet
namespace Go.Proofs.Ytkaekpmpjemmoaa
open Go.RowKit

theorem list_same (A A' : Option Addr) (c c' : Nat) (l : List Int) (w : World) (B B' : Nat) (hb : Byt w B A c l) (hb' : Byt w B' A' c' l) (n n' : Nat) (hn : n = l.length) (hn' : n' = l.length) :
    Calls Try.prog 12 #[.slice A n c, .slice A' n' c'] w fun e w' => e = .returned (.bool true) ∧ Drew w w' := by
  subst hn
  subst hn'
  have hmax : l.length ≤ 9223372036854775807 := by have := hb.len; have := hb.cap; unfold maxLen at this; omega
  go_enter Try.func12, Try.ntmps12
  go_wp2
  go_loopw [5] (fun i wr => ∃ k : Nat, k ≤ l.length ∧ i = .int .i64 k ∧ Drew w wr) (fun i _ => l.length - (intOf i).toNat)
  case atStart => exact ⟨0, Nat.zero_le _, rfl, Drew.refl _⟩
  case round =>
    obtain ⟨k, hk, rfl, hd⟩ := hrel
    by_cases hlt : k < l.length
    · obtain ⟨b, o, rfl, hbB, hc⟩ := hb.off hlt
      obtain ⟨b', o', rfl, hbB', hc'⟩ := hb'.off hlt
      have h1 : wr.cell? ⟨b, o + k, none⟩ = some (.int .u8 (l[k]?.getD 0)) := (hd.cell _).trans (hc k hlt)
      have h2 : wr.cell? ⟨b', o' + k, none⟩ = some (.int .u8 (l[k]?.getD 0)) := (hd.cell _).trans (hc' k hlt)
      clear hb hb' hc hc'
      go_wp2
      go_quiet (fail)
      go_wp2
      go_roundw
      case rel => exact ⟨k + 1, by omega, by go_num, hd.drewN _⟩
      case measure => simp [intOf]; omega
    · go_wp2
      go_ret
      exact ⟨rfl, hd⟩
end Go.Proofs.Ytkaekpmpjemmoaa
