/-
  The walk of the law WireMinimal: whatever the number, with a superfluous group of zeros it is refused; it returns true and changes nothing that was there. No condition.
-/
import Derived.Test.YtkaekpmpjemmoaaKnown
import Derived.Test.YtkaekpmpjemmoaaBack
namespace Go.Proofs.Ytkaekpmpjemmoaa
set_option linter.unusedVariables false
open Go.RowKit

/-- Groups that all announce another one, and then a group of zeros: the form is wrong. -/
theorem num_zeros (W : Nat) (last : Int) (l : List Int) (a m : Nat) (hm : 0 < m) (hW : m + 1 < W) (hlen : a + m < l.length) (hbig : ∀ j, j < m → 128 ≤ byteAt l (a + j)) (hz : byteAt l (a + m) = 0) :
    ∀ f i n : Nat, i ≤ m → i + f = W → numFrom W last l a f i n = (0, 0, 4) := by
  intro f
  induction f with
  | zero => intro i n h1 h2; omega
  | succ f ih =>
    intro i n h1 h2
    by_cases hi : i = m
    · subst hi
      exact num_form (by omega) hz (by omega) hm rfl
    · have hb := hbig i (by omega)
      rw [num_next (x := byteAt l (a + i)) (by omega) rfl (by omega) (by omega) (by omega)]
      exact ih (i + 1) _ (by omega) (by omega)

/-- All groups but the last one announce another one. -/
theorem enc_init (n : Nat) : ∀ j, j + 1 < (enc n).length → 128 ≤ (enc n)[j]?.getD 0 := by
  induction n using Nat.strongRecOn with
  | ind n ih =>
    intro j hj
    by_cases h : n < 128
    · rw [enc_small h] at hj; simp at hj
    · rw [enc_large h] at hj ⊢
      cases j with
      | zero => simp; omega
      | succ j => simp at hj ⊢; exact ih _ (by omega) j hj

theorem or128_byte (x : Int) (h0 : 0 ≤ x) (h1 : x ≤ 255) : bits .or .u8 x 128 = x % 128 + 128 := by
  have h : bits .or .u8 ((x.toNat : Nat) : Int) ((128 : Nat) : Int) = ((x.toNat ||| 128 : Nat) : Int) := u8_or_nat _ _ (by omega) (by omega)
  rw [or128_nat _ (by omega)] at h
  rw [show ((x.toNat : Nat) : Int) = x from by omega] at h
  refine h.trans ?_
  omega

/-- The whole that is refused: all groups announce another one, and a group of zeros ends them. -/
theorem zeros_refused (W : Nat) (last : Int) (hW : W = 9 ∨ W = 10) (u b : Nat) (hu : u < 1099511627776) (hb : b ≤ 1) (q : Nat) (hq : (enc u).length = q + 1) (x : Int) (hx : 128 ≤ x) :
    readNum W last ((enc u).set q x ++ List.replicate b 128 ++ [0]) 0 = (0, 0, 4) := by
  have h6 : (enc u).length ≤ 6 := enc_len 5 u (by omega)
  unfold readNum
  rw [if_neg (by simp; omega)]
  refine num_zeros W last _ 0 (q + 1 + b) (by omega) (by omega) (by simp; omega) (fun j hj => ?_) ?_ W 0 0 (by omega) (by omega)
  · unfold byteAt
    rw [Nat.zero_add, List.append_assoc]
    by_cases h1 : j < q + 1
    · rw [List.getElem?_append_left (by simp; omega)]
      by_cases h2 : j = q
      · subst h2
        rw [List.getElem?_set_self (by omega)]
        exact hx
      · rw [List.getElem?_set_ne (by omega)]
        exact enc_init u j (by omega)
    · rw [List.getElem?_append_right (by simp; omega), List.getElem?_append_left (by simp; omega)]
      rw [List.getElem?_replicate, if_pos (by simp; omega)]
      decide
  · unfold byteAt
    rw [Nat.zero_add, List.getElem?_append_right (by simp; omega)]
    simp [hq]

theorem vals_set (l : List Int) (k : Nat) (x : Int) : (vals l).set k (.int .u8 x) = vals (l.set k x) := by simp [vals, List.map_set]

set_option maxHeartbeats 800000 in
set_option maxRecDepth 100000 in
theorem minimal_any (v more : Int) (w : World) :
    Calls Try.prog 7 #[.int .i64 v, .int .i64 more] w fun e w' => e = .returned (.bool true) ∧ Below w.heap.size w w' := by
  obtain ⟨i0, hi, hz0, hz1, hz2⟩ := info_parts u8info
  obtain ⟨u, hu⟩ : ∃ u : Nat, Hid (v % 1099511627776 = (u : Int)) := ⟨(v % 1099511627776).toNat, show _ = _ by omega⟩
  have hub : u < 1099511627776 := by have := hu.out; omega
  have hand : bits .and .i64 v 1099511627775 = (u : Int) := by rw [and40]; exact hu.out
  obtain ⟨t, ht⟩ : ∃ t : Nat, Hid (more % 2 = (t : Int)) := ⟨(more % 2).toNat, show _ = _ by omega⟩
  have htb : t ≤ 1 := by have := ht.out; omega
  have hand1 : bits .and .i64 more 1 = (t : Int) := by rw [and1i]; exact ht.out
  obtain ⟨r, hr⟩ : ∃ r : List Int, Hid (enc u = r) := ⟨_, Lib.hid rfl⟩
  have hyr : Bytes r := by rw [← hr.out]; exact enc_bytes u
  obtain ⟨q, hq⟩ : ∃ q, Hid (r.length = q + 1) := ⟨r.length - 1, show _ = _ by have := enc_pos u; rw [hr.out] at this; omega⟩
  have hq5 : q ≤ 5 := by
    have := hq.out
    have h6 := enc_len 5 u (by omega)
    rw [hr.out] at h6
    omega
  obtain ⟨x, hx⟩ : ∃ x, Hid (r[q]? = some x) := ⟨r[q]'(by have := hq.out; omega), List.getElem?_eq_getElem _⟩
  have hxr : 0 ≤ x ∧ x ≤ 255 := hyr.mem x (List.mem_of_getElem? hx.out)
  have hor := or128_byte x hxr.1 hxr.2
  obtain ⟨r', hr'⟩ : ∃ r', Hid (r.set q (x % 128 + 128) = r') := ⟨_, rfl⟩
  have hr'l : Hid (r'.length = q + 1) := by show r'.length = _; rw [← hr'.out, List.length_set]; exact hq.out
  have hyr' : Bytes r' := by
    rw [← hr'.out]
    exact bytes_mem fun y hy => by
      rcases List.mem_or_eq_of_mem_set hy with h | h
      · exact hyr.mem y h
      · omega
  have hfin : ∀ W last, W = 9 ∨ W = 10 → readNum W last (r' ++ List.replicate t 128 ++ [0]) 0 = (0, 0, 4) := fun W last hW => by
    rw [← hr'.out, ← hr.out]
    exact zeros_refused W last hW u t hub htb q (by rw [hr.out]; exact hq.out) _ (by omega)
  have HFIN := Lib.hid hfin
  clear hfin
  have hne : ((q : Int) + 1 == 0) = false := by rw [beq_eq_false_iff_ne]; omega
  go_enter Try.func7, Try.ntmps7
  go_wp2_with fail
  refine (appendUint_pos none 0 [] u w (byt_nil _ _) (by simp) (by omega) r (by rw [List.nil_append]; exact hr)).mono ?_
  rintro e w1 ⟨A1, C1, rfl, o1, b1⟩
  rw [hq.out] at o1 ⊢
  obtain ⟨g, cap, hv, hg, hlt⟩ := o1.form (by omega)
  injection hv with hA _ hC
  subst hA
  subst hC
  have hcell : w1.cell? ⟨g, q, none⟩ = some (.int .u8 x) := by
    rw [o1.cellAt q (by omega)]
    simp [vals, hx.out]
  have hfr := o1.frozenAt q
  obtain ⟨o2, g2⟩ := o1.stored q (.int .u8 (x % 128 + 128))
  rw [vals_set, hr'.out] at o2
  have b2 := b1.setCell (p := ⟨g, q, none⟩) hg (.int .u8 (x % 128 + 128))
  go_wp2_with fail
  have hyk : ∀ k, Bytes (r' ++ List.replicate k 128) := fun k => bytes_append hyr' (bytes_mem fun y hy => by rw [List.eq_of_mem_replicate hy]; decide)
  have HYK := Lib.hid hyk
  clear hyk
  go_loopw [6, 7] (fun v i wr => ∃ (k : Nat) (A2 : Option Addr) (C2 : Nat), k ≤ t ∧ i = .int .i64 k ∧ v = .slice A2 (q + 1 + k) C2 ∧ wr.ownsRow w.heap.size 5 1 v (q + 1 + k) (vals (r' ++ List.replicate k 128)) ∧ Below w.heap.size w wr) (fun _ i _ => t - (intOf i).toNat)
  case atStart => exact ⟨0, some ⟨g, 0, none⟩, C1, by omega, rfl, rfl, by simpa using o2, b2⟩
  case round =>
    obtain ⟨k, A2, C2, hk, rfl, rfl, o3, b3⟩ := hrel
    by_cases hlt : k < t
    · go_wp2_with (at_builtin; refine wpList_append_byt rfl _ _ 22 rfl w.heap.size 5 i0 Try.underlying22 hi hz0 hz1 hz2 _ (q + 1 + k) (vals (r' ++ List.replicate k 128)) rfl (o3.alloc _) (wr.heap.size + 1) (some ⟨wr.heap.size, 0, none⟩) 1 [(128 : Int)] rfl (byt_one wr _ 5 (by omega)) (by simp; omega) (by have := b3.size; simp; omega) ?_; intro v4 w4 o4 g4; have b4 := (b3.alloc b3.size (.cells #[.int .u8 128] 5)).grown g4 (by have := b3.size; simp; omega) (fun j hj => (o3.lt j hj).1); rw [← vals_append, List.append_assoc, ← List.replicate_succ', List.length_singleton, Nat.add_assoc] at o4; obtain ⟨A4, C4, rfl⟩ := own_form o4; clear g4)
      go_roundw
      case rel => exact ⟨k + 1, A4, C4, by omega, by go_num, rfl, o4, b4⟩
      case measure => simp [intOf]; omega
    · have hkt : k = t := by omega
      subst hkt
      obtain ⟨q2, hq2⟩ : ∃ q2 : List Int, Hid (r' ++ List.replicate k 128 ++ [0] = q2) := ⟨_, Lib.hid rfl⟩
      have hq2l : Hid (q + 1 + k + [(0 : Int)].length = q2.length) := by
        show _ = q2.length
        rw [← hq2.out, List.length_append, List.length_append, hr'l.out, List.length_replicate]
      have hq2y : Bytes q2 := by rw [← hq2.out]; exact bytes_append (HYK.out k) (bytes_cons ⟨by omega, by omega⟩ bytes_nil)
      go_wp2_with (at_builtin; refine wpList_append_byt rfl _ _ 22 rfl w.heap.size 5 i0 Try.underlying22 hi hz0 hz1 hz2 _ (q + 1 + k) (vals (r' ++ List.replicate k 128)) rfl (o3.alloc _) (wr.heap.size + 1) (some ⟨wr.heap.size, 0, none⟩) 1 [(0 : Int)] rfl (byt_one wr _ 5 (by omega)) (by simp; omega) (by have := b3.size; simp; omega) ?_; intro v4 w4 o4 g4; have b4 := (b3.alloc b3.size (.cells #[.int .u8 0] 5)).grown g4 (by have := b3.size; simp; omega) (fun j hj => (o3.lt j hj).1); rw [← vals_append, hq2.out, hq2l.out] at o4; obtain ⟨A4, C4, rfl⟩ := own_form o4; clear g4)
      have t4 := Byt.own hq2y o4
      refine (uint_code A4 C4 q2 0 w4 t4 (by omega) (by omega) 0 0 4 (by rw [← hq2.out]; exact HFIN.out 9 127 (by omega))).mono ?_
      rintro e w5 ⟨rfl, b5⟩
      have c5 := b4.trans (b5.mono b4.size)
      have t5 := t4.below b5 (Nat.le_refl _) b5.size
      go_wp2_with fail
      refine (int_code A4 C4 q2 0 w5 t5 (by omega) (by omega) 0 0 4 (by rw [← hq2.out]; exact HFIN.out 10 1 (by omega)) 0 (show zag 0 = 0 by decide)).mono ?_
      rintro e w6 ⟨rfl, b6⟩
      have c6 := c5.trans (b6.mono c5.size)
      go_wp2_with fail
      refine (known_any w6).mono ?_
      rintro e w7 ⟨rfl, b7⟩
      go_wp2_with fail
      go_ret
      exact ⟨rfl, c6.trans (b7.mono c6.size)⟩
end Go.Proofs.Ytkaekpmpjemmoaa
