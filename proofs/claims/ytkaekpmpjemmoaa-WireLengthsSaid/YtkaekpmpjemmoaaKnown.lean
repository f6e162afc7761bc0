/-
  The walk of the statements' sanity check: 300 and -3 as bytes, and back.
-/
import Derived.Test.YtkaekpmpjemmoaaText
import Derived.Test.YtkaekpmpjemmoaaRef
import Derived.Test.YtkaekpmpjemmoaaList
namespace Go.Proofs.Ytkaekpmpjemmoaa
open Go.RowKit

theorem enc_300 : enc 300 = [172, 2] := by rw [enc_large (by omega), enc_small (by omega)]; rfl
theorem enc_5 : enc (zig (-3)) = [5] := by rw [show zig (-3) = 5 from by decide, enc_small (by omega)]; rfl
theorem read_300 : readNum 9 127 [172, 2, 5] 0 = (300, 2, 0) := by decide
theorem read_3 : readNum 10 1 [172, 2, 5] 2 = (5, 3, 0) := by decide
theorem bytes_175 : Bytes [172, 2, 5] := bytes_mem (by decide)

theorem byt_175 (w : World) (t : TypeId) : Byt (w.alloc (.cells #[.int .u8 172, .int .u8 2, .int .u8 5] t)) (w.heap.size + 1) (some ⟨w.heap.size, 0, none⟩) 3 [172, 2, 5] :=
  ⟨bytes_175, by simp, by simp [maxLen], fun h => by (cases h), fun _ => ⟨_, _, rfl, by omega, fun k hk => by
    rw [World.cell?_alloc_at _ _ _ _ rfl]
    match k, hk with
    | 0, _ => rfl
    | 1, _ => rfl
    | 2, _ => rfl⟩⟩

theorem known_any (w : World) : Calls Try.prog 11 #[] w fun e w' => e = .returned (.bool true) ∧ Below w.heap.size w w' := by
  obtain ⟨r1, hr1⟩ : ∃ r : List Int, Hid ([172, 2] = r) := ⟨_, rfl⟩
  have h1 : Hid ([] ++ enc 300 = r1) := by rw [enc_300]; exact hr1
  obtain ⟨r2, hr2⟩ : ∃ r : List Int, Hid ([172, 2, 5] = r) := ⟨_, rfl⟩
  have h2 : Hid (r1 ++ enc (zig (-3)) = r2) := by rw [enc_5, ← hr1.out]; exact hr2
  have hl1 : r1.length ≤ 2 := by rw [← hr1.out]; decide
  have hy1 : Bytes r1 := by rw [← hr1.out]; exact bytes_mem (by decide)
  have hy2 : Bytes r2 := by rw [← hr2.out]; exact bytes_mem (by decide)
  have n1 : Hid (readNum 9 127 r2 0 = (300, 2, 0)) := by rw [← hr2.out]; exact read_300
  have n2 : Hid (readNum 10 1 r2 2 = (5, 3, 0)) := by rw [← hr2.out]; exact read_3
  go_enter Try.func11, Try.ntmps11
  go_wp2_with fail
  refine (appendUint_pos none 0 [] 300 w (byt_nil _ _) (by simp) (by omega) r1 h1).mono ?_
  rintro e w1 ⟨A1, C1, rfl, hown1, hb1⟩
  have hB1 := Byt.own hy1 hown1
  go_wp2_with fail
  refine (appendInt_any A1 C1 r1 (-3) w1 hB1 (by omega) (by omega) (by omega) r2 h2).mono ?_
  rintro e w2 ⟨A2, C2, rfl, hown2, hb2⟩
  have hB2 := Byt.own hy2 hown2
  go_wp2_with fail
  refine (uint_code A2 C2 r2 0 w2 hB2 (by omega) (by omega) 300 2 0 n1).mono ?_
  rintro e w3 ⟨rfl, hb3⟩
  have hB3 := hB2.below hb3 (Nat.le_refl _) hb3.size
  go_wp2_with fail
  refine (int_code A2 C2 r2 2 w3 hB3 (by omega) (by omega) 5 3 0 n2 (-3) (show zag 5 = -3 by decide)).mono ?_
  rintro e w4 ⟨rfl, hb4⟩
  have hB4 := hB3.below hb4 (Nat.le_refl _) hb4.size
  go_wp2_with fail
  have hb5 : Below w.heap.size w w4 := hb1.trans ((hb2.mono hb1.size).trans ((hb3.mono (Nat.le_trans hb1.size hb2.size)).trans (hb4.mono (Nat.le_trans hb1.size (Nat.le_trans hb2.size hb3.size)))))
  have hlen : r2.length = 3 := by rw [← hr2.out]; rfl
  have HL := Lib.hid hlen
  clear hlen
  have hlit : Byt (w4.alloc (.cells #[.int .u8 172, .int .u8 2, .int .u8 5] 5)) (w4.heap.size + 1) (some ⟨w4.heap.size, 0, none⟩) 3 r2 := by rw [← hr2.out]; exact byt_175 w4 _
  refine (list_same A2 (some ⟨w4.heap.size, 0, none⟩) C2 3 r2 _ w4.heap.size (w4.heap.size + 1) (hB4.alloc (Nat.le_refl _) _) hlit r2.length 3 rfl HL.out.symm).mono ?_
  rintro e w5 ⟨rfl, hd5⟩
  go_wp2_with fail
  go_ret
  exact ⟨rfl, (hb5.alloc hb5.size _).trans (hd5.below _)⟩
end Go.Proofs.Ytkaekpmpjemmoaa
