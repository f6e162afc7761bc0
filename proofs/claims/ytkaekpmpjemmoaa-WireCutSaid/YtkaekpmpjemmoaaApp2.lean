/-
  The walks of wire.AppendUint, AppendInt and AppendText: what each appends, in new memory.
-/
import Derived.Test.YtkaekpmpjemmoaaApp
namespace Go.Proofs.Ytkaekpmpjemmoaa
open Go.RowKit

/-- The call has made a slice that reads as r, and has changed nothing that was there. -/
def Makes (w : World) (r : List Int) (e : Ending) (w' : World) : Prop :=
  ∃ A C, e = .returned (.slice A r.length C) ∧ w'.ownsRow w.heap.size 5 1 (.slice A r.length C) r.length (vals r) ∧ Below w.heap.size w w'

theorem appendUint_neg (A : Option Addr) (c : Nat) (l : List Int) (v : Int) (w : World) (hb : Byt w w.heap.size A c l) (hl : l.length ≤ 1000000) (hv : v < 0) :
    Calls Try.prog 13 #[.slice A l.length c, .int .i64 v] w (Makes w l) := by
  go_enter Try.func13, Try.ntmps13
  go_wp2_with (go_at_call 23; refine (extended_any A c l 0 w hb (by omega) (by omega)).mono ?_; rintro e w1 ⟨rfl, hown1, hb1⟩)
  go_ret
  exact ⟨_, _, rfl, hown1, hb1⟩

theorem appendUint_pos (A : Option Addr) (c : Nat) (l : List Int) (n : Nat) (w : World) (hb : Byt w w.heap.size A c l) (hl : l.length ≤ 1000000) (hn : n < 9223372036854775808) (r : List Int) (hr : Hid (l ++ enc n = r)) :
    Calls Try.prog 13 #[.slice A l.length c, .int .i64 n] w (Makes w r) := by
  go_enter Try.func13, Try.ntmps13
  go_wp2_with (go_at_call 24; refine (appendNumber_any A c l n 0 w hb (by omega) (by omega) (by omega) r hr).mono ?_; rintro e w1 ⟨C, rfl, hC, hown1, hb1⟩)
  go_ret
  exact ⟨_, _, rfl, hown1, hb1⟩

theorem appendInt_any (A : Option Addr) (c : Nat) (l : List Int) (v : Int) (w : World) (hb : Byt w w.heap.size A c l) (hl : l.length ≤ 1000000) (h1 : -9223372036854775808 ≤ v) (h2 : v < 9223372036854775808) (r : List Int) (hr : Hid (l ++ enc (zig v) = r)) :
    Calls Try.prog 15 #[.slice A l.length c, .int .i64 v] w (Makes w r) := by
  have hz := zig_lt h1 h2
  by_cases hv : v < 0
  · have HZ := Lib.hid (zig_neg h1 hv)
    go_enter Try.func15, Try.ntmps15
    go_wp2_with (go_at_call 24; rw [HZ.out]; refine (appendNumber_any A c l (zig v) 0 w hb (by omega) (by omega) hz r hr).mono ?_; rintro e w1 ⟨C, rfl, hC, hown1, hb1⟩)
    go_ret
    exact ⟨_, _, rfl, hown1, hb1⟩
  · have HZ := Lib.hid (zig_pos (v := v) (by omega))
    go_enter Try.func15, Try.ntmps15
    go_wp2_with (go_at_call 24; rw [HZ.out]; refine (appendNumber_any A c l (zig v) 0 w hb (by omega) (by omega) hz r hr).mono ?_; rintro e w1 ⟨C, rfl, hC, hown1, hb1⟩)
    go_ret
    exact ⟨_, _, rfl, hown1, hb1⟩

theorem appendText_any (A : Option Addr) (c : Nat) (l : List Int) (s : ByteArray) (w : World) (hb : Byt w w.heap.size A c l) (hl : l.length ≤ 1000000) (hs : s.size ≤ 1000000) (r : List Int) (hr : Hid (l ++ enc s.size ++ strList s = r)) :
    Calls Try.prog 17 #[.slice A l.length c, .string s] w (Makes w r) := by
  obtain ⟨i0, hi, hz0, hz1, hz2⟩ := info_parts u8info
  obtain ⟨q, hq⟩ : ∃ q, Hid (l ++ enc s.size = q) := ⟨_, rfl⟩
  have hql : q.length ≤ l.length + 10 := by rw [← hq.out, List.length_append]; have := enc_len64 (n := s.size) (by omega); omega
  go_enter Try.func17, Try.ntmps17
  go_wp2_with (first
    | (go_at_call 24; refine (appendNumber_any A c l s.size s.size w hb (by omega) (by omega) (by omega) q hq).mono ?_; rintro e w1 ⟨C, rfl, hC, hown1, hb1⟩)
    | (at_builtin; refine Lib.wpList_append_own_string _ rfl _ _ 22 9 rfl w.heap.size 5 i0 Try.underlying22 Try.underlying9 hi hz0 hz1 hz2 _ q.length (vals q) rfl hown1 s rfl (by unfold maxLen; omega) (by omega) hb1.size ?_; intro v2 w2 hown2 hgrow2 hnil2))
  have hb2 : Below w.heap.size w w2 := hb1.grown hgrow2 hb1.size (fun k hk => (hown1.lt k hk).1)
  have hrl : q.length + s.size = r.length := by rw [← hr.out, ← hq.out]; simp [strList_length]; omega
  rw [strList_vals, ← vals_append, hrl] at hown2
  rw [show q ++ strList s = r from by rw [← hr.out, ← hq.out]] at hown2
  obtain ⟨A2, C2, rfl⟩ := own_form hown2
  go_ret
  exact ⟨_, _, rfl, hown2, hb2⟩
end Go.Proofs.Ytkaekpmpjemmoaa
