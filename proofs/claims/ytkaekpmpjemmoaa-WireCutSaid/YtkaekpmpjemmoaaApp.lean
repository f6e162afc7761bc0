/-
  The walks of wire.appendNumber, AppendUint, AppendInt and AppendText.
-/
import Derived.Test.YtkaekpmpjemmoaaExt
import Derived.Test.YtkaekpmpjemmoaaPure
namespace Go.Proofs.Ytkaekpmpjemmoaa
open Go.RowKit

/-- One byte in a new block of its own, as 'append(b, x)' lays it. -/
theorem cell_one (w : World) (x : Int) (t : TypeId) : ∀ j u, (vals [x])[j]? = some u → (w.alloc (.cells #[.int .u8 x] t)).cell? ((⟨w.heap.size, 0, none⟩ : Addr).add j) = some u := by
  intro j u hu
  cases j with
  | zero =>
    simp [vals] at hu
    subst hu
    rw [Addr.add_lit, World.cell?_alloc_at _ _ _ _ rfl]; rfl
  | succ j => simp [vals] at hu

/-- wire.appendNumber. -/
theorem appendNumber_any (A : Option Addr) (c : Nat) (l : List Int) (n m : Nat) (w : World) (hb : Byt w w.heap.size A c l) (hl : l.length ≤ 1000000) (hm : m ≤ 1000000) (hn : n < 18446744073709551616) (full : List Int) (HF : Hid (l ++ enc n = full)) :
    Calls Try.prog 24 #[.slice A l.length c, .int .u64 n, .int .i64 m] w fun e w' =>
      ∃ C, e = .returned (.slice (some ⟨w.heap.size, 0, none⟩) full.length C) ∧ full.length + m ≤ C ∧ w'.ownsRow w.heap.size 5 1 (.slice (some ⟨w.heap.size, 0, none⟩) full.length C) full.length (vals full) ∧ Below w.heap.size w w' := by
  obtain ⟨i0, hi, hz0, hz1, hz2⟩ := info_parts u8info
  have hlen := enc_len64 hn
  have hfull : full.length ≤ l.length + 10 := by rw [← HF.out, List.length_append]; omega
  go_enter Try.func24, Try.ntmps24
  go_wp2_with (go_at_call 23; refine (extended_any A c l (10 + m) w hb (by omega) (by omega)).mono ?_; rintro e w1 ⟨rfl, hown1, hb1⟩)
  go_loopw [0, 1] (fun v x wr => ∃ (xs : List Int) (N : Nat), x = .int .u64 N ∧ N < 18446744073709551616 ∧ v = .slice (some ⟨w.heap.size, 0, none⟩) xs.length (l.length + (10 + m)) ∧ wr.ownsRow w.heap.size 5 1 v xs.length (vals xs) ∧ Below w.heap.size w wr ∧ xs ++ enc N = full) (fun _ x _ => (intOf x).toNat)
  case atStart => exact ⟨l, n, rfl, hn, rfl, hown1, hb1, HF.out⟩
  case round =>
    obtain ⟨xs, N, rfl, hN, rfl, hown, hbel, heq⟩ := hrel
    have hroom := enc_room heq
    have HQ := Lib.hid heq
    clear heq
    by_cases hs : N ≤ 127
    · go_wp2_with (at_builtin; refine wpList_append_fits _ rfl _ _ 22 rfl w.heap.size 5 i0 1 Try.underlying22 hi hz1 w.heap.size xs.length (l.length + (10 + m)) (vals xs) rfl (hown.alloc _) ⟨wr.heap.size, 0, none⟩ 1 1 (vals [(N : Int)]) rfl rfl (cell_one _ _ _) (vals_one _) (by omega) ?_; intro w2 hown2 hgrow2)
      have hb2 := (hbel.alloc hbel.size (.cells #[.int .u8 N] 5)).grown hgrow2 (by have := hbel.size; simp; omega) (by simp)
      have hx : xs ++ [(N : Int)] = full := by rw [← enc_small (n := N) (by omega)]; exact HQ.out
      rw [← vals_append, hx] at hown2
      have hxl : xs.length + 1 = full.length := by rw [← hx]; simp
      rw [hxl] at hown2
      go_ret
      exact ⟨l.length + (10 + m), by rw [hxl]; rfl, by omega, hown2, hb2⟩
    · have hor := or128 N
      go_wp2_with (at_builtin; refine wpList_append_fits _ rfl _ _ 22 rfl w.heap.size 5 i0 1 Try.underlying22 hi hz1 w.heap.size xs.length (l.length + (10 + m)) (vals xs) rfl (hown.alloc _) ⟨wr.heap.size, 0, none⟩ 1 1 (vals [(N : Int) % 128 + 128]) rfl rfl (cell_one _ _ _) (vals_one _) (by omega) ?_; intro w2 hown2 hgrow2)
      have hb2 := (hbel.alloc hbel.size (.cells #[.int .u8 ((N : Int) % 128 + 128)] 5)).grown hgrow2 (by have := hbel.size; simp; omega) (by simp)
      have hst := Lib.hid (enc_step HQ.out hs)
      rw [← vals_append] at hown2
      go_roundw
      case rel => exact ⟨xs ++ [(N : Int) % 128 + 128], N / 128, by go_num, by omega, by simp, by simpa using hown2, hb2, hst.out⟩
      case measure => simp [intOf]; omega
end Go.Proofs.Ytkaekpmpjemmoaa
