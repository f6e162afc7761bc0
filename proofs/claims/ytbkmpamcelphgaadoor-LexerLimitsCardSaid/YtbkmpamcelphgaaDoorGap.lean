/-
  The walk of lexer.gap: blanks and comments ahead. Condition: the text is no longer than a text may be.
-/
import Derived.Test.YtbkmpamcelphgaaDoorSpan
namespace Go.Proofs.YtbkmpamcelphgaaDoor
open Go.RowKit

/-- The bytes that a rune of several bytes takes behind its first one are no line feeds. -/
theorem decode_cont (s : ByteArray) (pos : Nat) (h : pos < s.size) : pos + (Utf8.decode s pos).2 ≤ s.size ∧ ∀ k, 1 ≤ k → k < (Utf8.decode s pos).2 → 128 ≤ (s.get! (pos + k)).toNat := by
  simp only [Utf8.decode]
  repeat' split
  all_goals (refine ⟨?_, fun k h1 h2 => ?_⟩)
  all_goals first
    | (simp_all; done)
    | (exfalso; simp at h2; omega)
    | (simp_all; omega)
    | (simp at h2
       have hk : k = 1 ∨ k = 2 ∨ k = 3 := by omega
       rcases hk with rfl | rfl | rfl <;> (simp_all; try omega))
theorem get_list (s : ByteArray) (k : Nat) (c : UInt8) (h : s.data.toList[k]? = some c) : s.get! k = c := by
  have hk : k < s.data.toList.length := (List.getElem?_eq_some_iff.1 h).1
  have h2 := (List.getElem?_eq_some_iff.1 h).2
  have hk' : k < s.size := by simpa using hk
  show s.get! k = c
  rw [← h2]
  simp [ByteArray.get!, getElem!_pos, hk']
theorem gap_rune (s : ByteArray) (pos : Nat) (h : pos < s.size) (ha : 128 ≤ (s[pos]'h).toNat) :
    gap true (s.data.toList.drop pos) = ((gap true (s.data.toList.drop (pos + (Utf8.decode s pos).2))).1 + (Utf8.decode s pos).2, (gap true (s.data.toList.drop (pos + (Utf8.decode s pos).2))).2) := by
  have hc := decode_cont s pos h
  have hp := gap_pass (Utf8.decode s pos).2 (s.data.toList.drop pos) (by simp; have := hc.1; omega) (fun k hk c hkc => by
    rw [List.getElem?_drop] at hkc
    by_cases h0 : k = 0
    · subst h0
      have e := get_list s (pos + 0) c hkc
      rw [get_at s pos h] at e
      rw [← e]; omega
    · have := hc.2 k (by omega) hk
      rw [get_list s (pos + k) c hkc] at this
      omega)
  rw [List.drop_drop] at hp
  exact hp

theorem beq_no {a b : Int} (h : a ≠ b) : (a == b) = false := by rw [beq_eq_false_iff_ne]; exact h
theorem pre_slashes {l : List UInt8} (h : pre l [47, 47] = true) : ∃ m, l = 47 :: 47 :: m := by
  simp only [pre, decide_eq_true_eq, List.length_cons, List.length_nil] at h
  match l, h with
  | a :: b :: m, h =>
    simp at h
    exact ⟨m, by rw [h.1, h.2]⟩
theorem gap_slashes {l : List UInt8} (h : pre l [47, 47] = true) : gap false l = ((gap true (l.drop 1)).1 + 1, (gap true (l.drop 1)).2) := by
  obtain ⟨m, rfl⟩ := pre_slashes h
  exact gap_begin m rfl rfl
theorem pre_no {c : UInt8} {l : List UInt8} (h : pre (c :: l) [47, 47] = false) : c.toNat = 47 → ∀ d ∈ l.head?, d.toNat ≠ 47 := by
  intro hc d hd hd'
  simp only [pre, decide_eq_false_iff_not, List.length_cons, List.length_nil] at h
  match l, hd with
  | x :: l, hd =>
    have hx : x = d := by simpa using hd
    subst hx
    apply h
    have h1 : c = 47 := UInt8.toNat_inj.1 hc
    have h2 : x = 47 := UInt8.toNat_inj.1 hd'
    simp [h1, h2]

theorem ret2 {a b c d : Nat} (h : a = b) (h' : c = d) : Ending.returned (.tuple #[.int .i64 a, .int .i64 c]) = .returned (.tuple #[.int .i64 b, .int .i64 d]) := by rw [h, h']

set_option maxHeartbeats 1600000 in
set_option maxRecDepth 100000 in
theorem gap_any (s : ByteArray) (w : World) (hs : s.size ≤ 1000000) (N F : Nat) (hr : Hid (gap false s.data.toList = (N, F))) :
    Calls Tryd.prog 23 #[.string s] w fun e w' => e = .returned (.tuple #[.int .i64 N, .int .i64 F]) ∧ Below w.heap.size w w' := by
  go_enter Tryd.func23, Tryd.ntmps23
  go_wp2_with fail
  go_loopw [4, 5] (fun fv cv wr => ∃ (pos k : Nat) (cm : Bool), wr = w.iter s pos ∧ fv = .int .i64 k ∧ cv = .bool cm ∧ pos ≤ s.size ∧ k ≤ pos ∧ pos + (gap cm (s.data.toList.drop pos)).1 = N ∧ k + (gap cm (s.data.toList.drop pos)).2 = F) (fun _ _ wr => s.size - wr.iterPos w.heap.size)
  case atStart => exact ⟨0, 0, false, rfl, rfl, rfl, Nat.zero_le _, Nat.le_refl _, by simp [hr.out], by simp [hr.out]⟩
  case round =>
    obtain ⟨pos, k, cm, rfl, rfl, rfl, hpos, hk, hN, hF⟩ := hrel
    by_cases hp : pos < s.size
    · obtain ⟨c, hc⟩ : ∃ c, Hid ((Utf8.decode s pos).1 = c) := ⟨_, Lib.hid rfl⟩
      obtain ⟨wd, hwd⟩ : ∃ wd, Hid ((Utf8.decode s pos).2 = wd) := ⟨_, Lib.hid rfl⟩
      have hnx : ∀ ty, (Instr.next (.pointer (some ⟨w.heap.size, 0, none⟩)) true ty).run Tryd.prog (w.iter s pos) = .ok (.tuple #[.bool true, .int .i64 pos, .int .i32 c]) (w.iter s (pos + wd)) := fun ty => by
        rw [← hc.out, ← hwd.out]; exact run_next_any w s pos ty hp
      have hcl : c ≤ 2147483647 := by rw [← hc.out]; exact decode_le s pos
      have hw1 : 1 ≤ wd := by rw [← hwd.out]; exact width_pos s pos hp
      have hwe : pos + wd ≤ s.size := by rw [← hwd.out]; exact (decode_cont s pos hp).1
      have hdc := drop_cons s pos hp
      by_cases h10 : (s[pos]'hp).toNat = 10
      · have hd := decode_low s pos hp (by omega)
        obtain rfl : c = 10 := by rw [← hc.out, hd]; exact h10
        obtain rfl : wd = 1 := by rw [← hwd.out, hd]
        rw [hdc, gap_feed cm _ h10] at hN hF
        have H1 := Lib.hid hN
        have H2 := Lib.hid hF
        clear hN hF hdc hd h10 hc hwd
        go_wp2_with fail
        go_roundw
        case rel => exact ⟨pos + 1, k + 1, false, rfl, by go_num, rfl, by omega, by omega, by have := H1.out; simp only at this; omega, by have := H2.out; simp only at this; omega⟩
        case measure => simp; omega
      · cases cm with
        | true =>
          have hne : c ≠ 10 := by
            rw [← hc.out]
            by_cases ha : (s[pos]'hp).toNat < 128
            · rw [decode_low s pos hp ha]; exact h10
            · have := (decode_high s pos hp (by omega)).1; omega
          have hgo : pos + wd + (gap true (s.data.toList.drop (pos + wd))).1 = N ∧ k + (gap true (s.data.toList.drop (pos + wd))).2 = F := by
            by_cases ha : (s[pos]'hp).toNat < 128
            · have hd := decode_low s pos hp ha
              obtain rfl : wd = 1 := by rw [← hwd.out, hd]
              rw [hdc, gap_in _ h10] at hN hF
              simp only at hN hF
              exact ⟨by omega, hF⟩
            · have hg := gap_rune s pos hp (by omega)
              rw [hwd.out] at hg
              rw [hg] at hN hF
              simp only at hN hF
              exact ⟨by omega, hF⟩
          have hb := beq_no (show (c : Int) ≠ 10 by omega)
          have H1 := Lib.hid hgo
          clear hgo hN hF hdc h10 hc hwd hne
          go_wp2_with fail
          go_roundw
          case rel => exact ⟨pos + wd, k, true, rfl, rfl, rfl, by omega, by omega, H1.out.1, H1.out.2⟩
          case measure => simp; omega
        | false =>
          by_cases hbl : (s[pos]'hp).toNat = 32 ∨ (s[pos]'hp).toNat = 9 ∨ (s[pos]'hp).toNat = 13
          · have hd := decode_low s pos hp (by omega)
            have hcc : c = 32 ∨ c = 9 ∨ c = 13 := by rw [← hc.out, hd]; exact hbl
            obtain rfl : wd = 1 := by rw [← hwd.out, hd]
            rw [hdc, gap_blank _ _ hbl] at hN hF
            have H1 := Lib.hid hN
            have H2 := Lib.hid hF
            clear hN hF hdc hd h10 hc hwd hbl
            rcases hcc with rfl | rfl | rfl
            all_goals
              go_wp2_with fail
              go_roundw
              case rel => exact ⟨pos + 1, k, false, rfl, rfl, rfl, by omega, by omega, by have := H1.out; simp only at this; omega, by have := H2.out; simp only at this; omega⟩
              case measure => simp; omega
          · have hx : ∀ v : Nat, v < 128 → (s[pos]'hp).toNat ≠ v → c ≠ v := fun v hv hne => by
              rw [← hc.out]
              by_cases ha : (s[pos]'hp).toNat < 128
              · rw [decode_low s pos hp ha]; exact hne
              · have := (decode_high s pos hp (by omega)).1; omega
            have b1 := beq_no (show (c : Int) ≠ 10 by have := hx 10 (by omega) h10; omega)
            have b2 := beq_no (show (c : Int) ≠ 32 by have := hx 32 (by omega) (by omega); omega)
            have b3 := beq_no (show (c : Int) ≠ 9 by have := hx 9 (by omega) (by omega); omega)
            have b4 := beq_no (show (c : Int) ≠ 13 by have := hx 13 (by omega) (by omega); omega)
            clear hx
            have hex : (s.extract pos s.size).data.toList = s.data.toList.drop pos := Lib.extract_to_end s pos
            by_cases hpre : pre (s.data.toList.drop pos) [47, 47] = true
            · have h47 : (s[pos]'hp).toNat = 47 := by
                obtain ⟨m, hm⟩ := pre_slashes hpre
                rw [hdc] at hm
                injection hm with hm _
                rw [hm]; rfl
              have hd := decode_low s pos hp (by omega)
              obtain rfl : wd = 1 := by rw [← hwd.out, hd]
              rw [gap_slashes hpre] at hN hF
              rw [List.drop_drop] at hN hF
              have H1 := Lib.hid hN
              have H2 := Lib.hid hF
              have HP : Hid (pre (s.extract pos s.size).data.toList [47, 47] = true) := by rw [hex]; exact Lib.hid hpre
              clear hN hF hdc hd h10 hc hwd hbl h47 hpre hex
              go_wp2_with (go_at_call 32; refine (hasPrefix_any _ ⟨#[47, 47]⟩ _ true HP).mono ?_; rintro e w1 ⟨rfl, rfl⟩)
              go_roundw
              case rel => exact ⟨pos + 1, k, true, rfl, rfl, rfl, by omega, by omega, by have := H1.out; omega, by have := H2.out; omega⟩
              case measure => simp; omega
            · have hpre : pre (s.data.toList.drop pos) [47, 47] = false := by simpa using hpre
              have HP : Hid (pre (s.extract pos s.size).data.toList [47, 47] = false) := by rw [hex]; exact Lib.hid hpre
              rw [hdc] at hpre hN hF
              rw [gap_stop _ h10 (by omega) (by omega) (by omega) (pre_no hpre)] at hN hF
              simp only [Nat.add_zero] at hN hF
              subst hN hF
              clear hdc h10 hc hwd hbl hpre hex
              go_wp2_with (go_at_call 32; refine (hasPrefix_any _ ⟨#[47, 47]⟩ _ false HP).mono ?_; rintro e w1 ⟨rfl, rfl⟩)
              go_ret2
              exact ⟨rfl, iter_below _ _ _⟩
    · have hnx : ∀ ty, (Instr.next (.pointer (some ⟨w.heap.size, 0, none⟩)) true ty).run Tryd.prog (w.iter s pos) = _ := fun ty => run_next_end w s pos ty hp
      rw [drop_end s pos hp, gap_nil] at hN hF
      simp only [Nat.add_zero] at hN hF
      obtain rfl : N = s.size := by omega
      clear hN
      subst hF
      go_wp2_with fail
      go_ret2
      exact ⟨rfl, iter_below _ _ _⟩
end Go.Proofs.YtbkmpamcelphgaaDoor
