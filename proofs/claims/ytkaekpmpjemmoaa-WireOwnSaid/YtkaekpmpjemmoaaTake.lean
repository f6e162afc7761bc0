/-
  The walks of wire.bytesFrom and of the closure that it returns.
-/
import Derived.Test.YtkaekpmpjemmoaaRows
import Derived.Test.YtkaekpmpjemmoaaWords
import Derived.Deep.QuietTactic
import Derived.BigQuiet
namespace Go.Proofs.Ytkaekpmpjemmoaa
open Go.RowKit

theorem bytesFrom_any (A : Option Addr) (n c : Nat) (at_ : Int) (w : World) :
    Calls Try.prog 31 #[.slice A n c, .int .i64 at_] w fun e w' =>
      e = .returned (.func (.func 32) #[] #[.pointer (some ⟨w.heap.size + 1, 0, none⟩), .pointer (some ⟨w.heap.size, 0, none⟩)]) ∧ w' = (w.alloc (.cells #[.slice A n c] 22)).alloc (.cells #[.int .i64 at_] 3) := by
  have hmf : ∀ (fn : Fn) (first cap : Array Value) (w : World), (Instr.makeFunc fn first cap).run Try.prog w = .ok (.func fn first cap) w := fun _ _ _ _ => rfl
  go_enter Try.func31, Try.ntmps31
  go_wp2
  go_ret
  exact ⟨rfl, rfl⟩

theorem take_end (p q : Nat) (A : Option Addr) (n c k : Nat) (w : World) (hp : w.cell? ⟨p, 0, none⟩ = some (.int .i64 k)) (hq : w.cell? ⟨q, 0, none⟩ = some (.slice A n c)) (hk : n ≤ k) :
    Calls Try.prog 32 #[.pointer (some ⟨p, 0, none⟩), .pointer (some ⟨q, 0, none⟩)] w fun e w' =>
      e = .returned (.tuple #[.int .u8 0, .int .i64 0, .bool false]) ∧ w = w' := by
  go_enter Try.func32, Try.ntmps32
  go_wp2
  go_ret3
  exact ⟨rfl, rfl⟩

theorem take_more (p q : Nat) (A : Option Addr) (c k B : Nat) (l : List Int) (w : World) (hp : w.cell? ⟨p, 0, none⟩ = some (.int .i64 k)) (hpf : w.frozen? ⟨p, 0, none⟩ = false) (hq : w.cell? ⟨q, 0, none⟩ = some (.slice A l.length c)) (hpq : p ≠ q)
    (hb : Byt w B A c l) (hB : B ≤ p) (hk : k < l.length) (x : Int) (hx : Hid (l[k]?.getD 0 = x)) :
    Calls Try.prog 32 #[.pointer (some ⟨p, 0, none⟩), .pointer (some ⟨q, 0, none⟩)] w fun e w' =>
      e = .returned (.tuple #[.int .u8 x, .int .i64 (k + 1), .bool true]) ∧ Drew (w.setCell ⟨p, 0, none⟩ (.int .i64 (k + 1))) w' := by
  have hmax : l.length ≤ 9223372036854775807 := by have := hb.len; have := hb.cap; unfold maxLen at this; omega
  obtain ⟨b, o, rfl, hbB, hc⟩ := hb.off hk
  have hcell := hc k hk
  rw [hx.out] at hcell
  have h1 : (w.setCell ⟨p, 0, none⟩ (.int .i64 (k + 1))).cell? ⟨p, 0, none⟩ = some (.int .i64 (k + 1)) := by go_simp
  have h2 : (w.setCell ⟨p, 0, none⟩ (.int .i64 (k + 1))).cell? ⟨q, 0, none⟩ = some (.slice (some ⟨b, o, none⟩) l.length c) := by
    rw [World.cell?_setCell_other _ _ _ _ (by intro e; injection e; omega)]; exact hq
  have h3 : (w.setCell ⟨p, 0, none⟩ (.int .i64 (k + 1))).cell? ⟨b, o + k, none⟩ = some (.int .u8 x) := by
    rw [World.cell?_setCell_other _ _ _ _ (by intro e; injection e; omega)]; exact hcell
  clear hb hc hcell
  go_enter Try.func32, Try.ntmps32
  go_wp2
  go_quiet (fail)
  go_wp2
  go_ret3
  exact ⟨rfl, ⟨_, rfl⟩⟩
end Go.Proofs.Ytkaekpmpjemmoaa
