/-
  The walks of the specification's group, AppendUint, AppendInt and AppendText: they make what the code makes.
-/
import Derived.Test.YtkaekpmpjemmoaaApp2
namespace Go.Proofs.Ytkaekpmpjemmoaa
open Go.RowKit

/-- One byte in a new block of its own reads as a list of one. -/
theorem byt_one (w : World) (x : Int) (t : TypeId) (hx : 0 ≤ x ∧ x ≤ 255) : Byt (w.alloc (.cells #[.int .u8 x] t)) (w.heap.size + 1) (some ⟨w.heap.size, 0, none⟩) 1 [x] :=
  ⟨bytes_cons hx bytes_nil, by simp, by simp [maxLen], fun h => by (cases h), fun _ => ⟨_, _, rfl, by omega, fun k hk => by
    have : k = 0 := by simpa using hk
    subst this
    rw [World.cell?_alloc_at _ _ _ _ rfl]; rfl⟩⟩

set_option maxRecDepth 100000 in
theorem group_any (A : Option Addr) (c : Nat) (l : List Int) (n : Nat) (w : World) (hb : Byt w w.heap.size A c l) (hl : l.length ≤ 1000000) (hn : n < 18446744073709551616) (r : List Int) (hr : Hid (l ++ enc n = r)) :
    Calls Try.prog 25 #[.slice A l.length c, .int .u64 n] w (Makes w r) := by
  obtain ⟨i0, hi, hz0, hz1, hz2⟩ := info_parts u8info
  have hlen := enc_len64 hn
  have hrl : r.length ≤ l.length + 10 := by rw [← hr.out, List.length_append]; omega
  go_enter Try.func25, Try.ntmps25
  go_wp2_with (at_builtin; refine wpList_append_byt rfl _ _ 22 rfl w.heap.size 5 i0 Try.underlying22 hi hz0 hz1 hz2 (.slice (some ⟨w.heap.size, 0, none⟩) 0 0) 0 [] rfl (World.ownsRow_made _ _ 0 (Nat.le_refl _) (by simp [maxLen]) rfl) w.heap.size A c l rfl (hb.alloc (Nat.le_refl _) _) (by omega) (by simp) ?_; intro v1 w1 hown1 hgrow1)
  have hb1 : Below w.heap.size w w1 := ((Below.refl _ _).alloc (Nat.le_refl _) (.cells #[] 5)).grown hgrow1 (by simp) (by simp [Value.ownBlock])
  simp only [Nat.zero_add, List.nil_append] at hown1
  obtain ⟨A1, C1, rfl⟩ := own_form hown1
  go_loopw [5, 1] (fun v x wr => ∃ (xs : List Int) (N : Nat) (A1 : Option Addr) (C1 : Nat), x = .int .u64 N ∧ N < 18446744073709551616 ∧ v = .slice A1 xs.length C1 ∧ wr.ownsRow w.heap.size 5 1 v xs.length (vals xs) ∧ Below w.heap.size w wr ∧ xs ++ enc N = r) (fun _ x _ => (intOf x).toNat)
  case atStart => exact ⟨l, n, A1, C1, rfl, hn, rfl, hown1, hb1, hr.out⟩
  case round =>
    obtain ⟨xs, N, A2, C2, rfl, hN, rfl, hown, hbel, heq⟩ := hrel
    have hroom := enc_room heq
    have HQ := Lib.hid heq
    clear heq
    by_cases hs : N ≤ 127
    · go_wp2_with (at_builtin; refine wpList_append_byt rfl _ _ 22 rfl w.heap.size 5 i0 Try.underlying22 hi hz0 hz1 hz2 _ xs.length (vals xs) rfl (hown.alloc _) (wr.heap.size + 1) (some ⟨wr.heap.size, 0, none⟩) 1 [(N : Int)] rfl (byt_one wr _ 5 (by omega)) (by simp; omega) (by have := hbel.size; simp; omega) ?_; intro v2 w2 hown2 hgrow2)
      have hb2 := (hbel.alloc hbel.size (.cells #[.int .u8 N] 5)).grown hgrow2 (by have := hbel.size; simp; omega) (fun k hk => (hown.lt k hk).1)
      have hx : xs ++ [(N : Int)] = r := by rw [← enc_small (n := N) (by omega)]; exact HQ.out
      rw [← vals_append, hx] at hown2
      have hxl : xs.length + [(N : Int)].length = r.length := by rw [← hx]; simp
      rw [hxl] at hown2
      obtain ⟨A3, C3, rfl⟩ := own_form hown2
      go_ret
      exact ⟨_, _, rfl, hown2, hb2⟩
    · go_wp2_with (at_builtin; refine wpList_append_byt rfl _ _ 22 rfl w.heap.size 5 i0 Try.underlying22 hi hz0 hz1 hz2 _ xs.length (vals xs) rfl (hown.alloc _) (wr.heap.size + 1) (some ⟨wr.heap.size, 0, none⟩) 1 [(N : Int) % 128 + 128] rfl (byt_one wr _ 5 (by omega)) (by simp; omega) (by have := hbel.size; simp; omega) ?_; intro v2 w2 hown2 hgrow2)
      have hb2 := (hbel.alloc hbel.size (.cells #[.int .u8 ((N : Int) % 128 + 128)] 5)).grown hgrow2 (by have := hbel.size; simp; omega) (fun k hk => (hown.lt k hk).1)
      have hst := Lib.hid (enc_step HQ.out hs)
      rw [← vals_append, ← List.length_append] at hown2
      obtain ⟨A3, C3, rfl⟩ := own_form hown2
      go_roundw
      case rel => exact ⟨xs ++ [(N : Int) % 128 + 128], N / 128, A3, C3, by go_num, by omega, rfl, hown2, hb2, hst.out⟩
      case measure => simp [intOf]; omega

theorem refUint_neg (A : Option Addr) (c : Nat) (l : List Int) (v : Int) (w : World) (hb : Byt w w.heap.size A c l) (hl : l.length ≤ 1000000) (hv : v < 0) :
    Calls Try.prog 14 #[.slice A l.length c, .int .i64 v] w (Makes w l) := by
  obtain ⟨i0, hi, hz0, hz1, hz2⟩ := info_parts u8info
  go_enter Try.func14, Try.ntmps14
  go_wp2_with (at_builtin; refine wpList_append_byt rfl _ _ 22 rfl w.heap.size 5 i0 Try.underlying22 hi hz0 hz1 hz2 (.slice (some ⟨w.heap.size, 0, none⟩) 0 0) 0 [] rfl (World.ownsRow_made _ _ 0 (Nat.le_refl _) (by simp [maxLen]) rfl) w.heap.size A c l rfl (hb.alloc (Nat.le_refl _) _) (by omega) (by simp) ?_; intro v1 w1 hown1 hgrow1)
  have hb1 : Below w.heap.size w w1 := ((Below.refl _ _).alloc (Nat.le_refl _) (.cells #[] 5)).grown hgrow1 (by simp) (by simp [Value.ownBlock])
  simp only [Nat.zero_add, List.nil_append] at hown1
  obtain ⟨A1, C1, rfl⟩ := own_form hown1
  go_ret
  exact ⟨_, _, rfl, hown1, hb1⟩

theorem refUint_pos (A : Option Addr) (c : Nat) (l : List Int) (n : Nat) (w : World) (hb : Byt w w.heap.size A c l) (hl : l.length ≤ 1000000) (hn : n < 9223372036854775808) (r : List Int) (hr : Hid (l ++ enc n = r)) :
    Calls Try.prog 14 #[.slice A l.length c, .int .i64 n] w (Makes w r) := by
  go_enter Try.func14, Try.ntmps14
  go_wp2_with (go_at_call 25; refine (group_any A c l n w hb (by omega) (by omega) r hr).mono ?_; rintro e w1 ⟨A1, C1, rfl, hown1, hb1⟩)
  go_ret
  exact ⟨_, _, rfl, hown1, hb1⟩

/-- What AppendUint makes of l and v. -/
def uintOn (l : List Int) (v : Int) : List Int := if v < 0 then l else l ++ enc v.toNat
theorem uintOn_bytes {l : List Int} (h : Bytes l) (v : Int) : Bytes (uintOn l v) := by
  unfold uintOn
  split
  · exact h
  · exact bytes_append h (enc_bytes _)
theorem appendUint_any (A : Option Addr) (c : Nat) (l : List Int) (v : Int) (w : World) (hb : Byt w w.heap.size A c l) (hl : l.length ≤ 1000000) (hv : v < 9223372036854775808) (r : List Int) (hr : Hid (uintOn l v = r)) :
    Calls Try.prog 13 #[.slice A l.length c, .int .i64 v] w (Makes w r) := by
  have h := hr.out
  unfold uintOn at h
  by_cases hn : v < 0
  · rw [if_pos hn] at h
    subst h
    exact appendUint_neg A c l v w hb hl hn
  · rw [if_neg hn] at h
    obtain ⟨n, rfl⟩ := Int.eq_ofNat_of_zero_le (show 0 ≤ v by omega)
    exact appendUint_pos A c l n w hb hl (by omega) r h
theorem refUint_any (A : Option Addr) (c : Nat) (l : List Int) (v : Int) (w : World) (hb : Byt w w.heap.size A c l) (hl : l.length ≤ 1000000) (hv : v < 9223372036854775808) (r : List Int) (hr : Hid (uintOn l v = r)) :
    Calls Try.prog 14 #[.slice A l.length c, .int .i64 v] w (Makes w r) := by
  have h := hr.out
  unfold uintOn at h
  by_cases hn : v < 0
  · rw [if_pos hn] at h
    subst h
    exact refUint_neg A c l v w hb hl hn
  · rw [if_neg hn] at h
    obtain ⟨n, rfl⟩ := Int.eq_ofNat_of_zero_le (show 0 ≤ v by omega)
    exact refUint_pos A c l n w hb hl (by omega) r h

theorem refInt_any (A : Option Addr) (c : Nat) (l : List Int) (v : Int) (w : World) (hb : Byt w w.heap.size A c l) (hl : l.length ≤ 1000000) (h1 : -9223372036854775808 ≤ v) (h2 : v < 9223372036854775808) (r : List Int) (hr : Hid (l ++ enc (zig v) = r)) :
    Calls Try.prog 16 #[.slice A l.length c, .int .i64 v] w (Makes w r) := by
  have hz := zig_lt h1 h2
  by_cases hv : v < 0
  · have HZ := Lib.hid (zig_neg h1 hv)
    go_enter Try.func16, Try.ntmps16
    go_wp2_with (go_at_call 25; rw [HZ.out]; refine (group_any A c l (zig v) w hb (by omega) hz r hr).mono ?_; rintro e w1 ⟨A1, C1, rfl, hown1, hb1⟩)
    go_ret
    exact ⟨_, _, rfl, hown1, hb1⟩
  · have HZ := Lib.hid (zig_pos (v := v) (by omega))
    go_enter Try.func16, Try.ntmps16
    go_wp2_with (go_at_call 25; rw [HZ.out]; refine (group_any A c l (zig v) w hb (by omega) hz r hr).mono ?_; rintro e w1 ⟨A1, C1, rfl, hown1, hb1⟩)
    go_ret
    exact ⟨_, _, rfl, hown1, hb1⟩

theorem refText_any (A : Option Addr) (c : Nat) (l : List Int) (s : ByteArray) (w : World) (hb : Byt w w.heap.size A c l) (hl : l.length ≤ 1000000) (hs : s.size ≤ 1000000) (r : List Int) (hr : Hid (l ++ enc s.size ++ strList s = r)) :
    Calls Try.prog 18 #[.slice A l.length c, .string s] w (Makes w r) := by
  obtain ⟨i0, hi, hz0, hz1, hz2⟩ := info_parts u8info
  obtain ⟨q, hq⟩ : ∃ q, Hid (l ++ enc s.size = q) := ⟨_, rfl⟩
  have hql : q.length ≤ l.length + 10 := by rw [← hq.out, List.length_append]; have := enc_len64 (n := s.size) (by omega); omega
  go_enter Try.func18, Try.ntmps18
  go_wp2_with (first
    | (go_at_call 14; refine (refUint_pos A c l s.size w hb (by omega) (by omega) q hq).mono ?_; rintro e w1 ⟨A1, C1, rfl, hown1, hb1⟩)
    | (at_builtin; refine Lib.wpList_append_own_string _ rfl _ _ 22 9 rfl w.heap.size 5 i0 Try.underlying22 Try.underlying9 hi hz0 hz1 hz2 _ q.length (vals q) rfl hown1 s rfl (by unfold maxLen; omega) (by omega) hb1.size ?_; intro v2 w2 hown2 hgrow2 hnil2))
  have hb2 : Below w.heap.size w w2 := hb1.grown hgrow2 hb1.size (fun k hk => (hown1.lt k hk).1)
  have hrl : q.length + s.size = r.length := by rw [← hr.out, ← hq.out]; simp [strList_length]; omega
  rw [strList_vals, ← vals_append, hrl] at hown2
  rw [show q ++ strList s = r from by rw [← hr.out, ← hq.out]] at hown2
  obtain ⟨A2, C2, rfl⟩ := own_form hown2
  go_ret
  exact ⟨_, _, rfl, hown2, hb2⟩
end Go.Proofs.Ytkaekpmpjemmoaa
