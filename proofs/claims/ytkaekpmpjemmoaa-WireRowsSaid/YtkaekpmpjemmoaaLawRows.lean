/-
  The walk of the law WireRows: whatever the numbers, those that are appended one behind the other are read one behind the other; it returns true and changes nothing that was there. No condition.
-/
import Derived.Test.YtkaekpmpjemmoaaKnown
import Derived.Test.YtkaekpmpjemmoaaBack
import Derived.Test.YtkaekpmpjemmoaaRow
namespace Go.Proofs.Ytkaekpmpjemmoaa
set_option linter.unusedVariables false
open Go.RowKit

/-- The numbers' bytes, one behind the other. -/
def cat (l : List Int) : List Int := l.flatMap fun v => enc (zig v)
theorem cat_snoc (l : List Int) (k : Nat) (hk : k < l.length) : cat (l.take k) ++ enc (zig (l[k]?.getD 0)) = cat (l.take (k + 1)) := by
  unfold cat
  rw [List.take_succ_eq_append_getElem hk, List.flatMap_append, List.flatMap_cons, List.flatMap_nil, List.append_nil, List.getElem?_eq_getElem hk, Option.getD_some]
theorem cat_split (l : List Int) (k : Nat) (hk : k < l.length) : cat l = cat (l.take k) ++ enc (zig (l[k]?.getD 0)) ++ cat (l.drop (k + 1)) := by
  rw [cat_snoc l k hk]
  unfold cat
  rw [← List.flatMap_append, List.take_append_drop]
theorem cat_len (l : List Int) (h : ∀ k : Nat, -9223372036854775808 ≤ l[k]?.getD 0 ∧ l[k]?.getD 0 < 9223372036854775808) : ∀ k, (cat (l.take k)).length ≤ 10 * k := by
  intro k
  induction k with
  | zero => simp [cat]
  | succ k ih =>
    by_cases hk : k < l.length
    · rw [← cat_snoc l k hk, List.length_append]
      have := enc_len64 (zig_lt (h k).1 (h k).2)
      omega
    · rw [List.take_of_length_le (by omega)] at ih ⊢
      omega
theorem cat_bytes (l : List Int) : Bytes (cat l) := bytes_mem fun x hx => by
  obtain ⟨v, _, hv⟩ := List.mem_flatMap.1 hx
  exact (enc_bytes _).mem x hv
theorem cat_read (l : List Int) (k : Nat) (hk : k < l.length) (h1 : -9223372036854775808 ≤ l[k]?.getD 0) (h2 : l[k]?.getD 0 < 9223372036854775808) :
    readNum 10 1 (cat l) (cat (l.take k)).length = (zig (l[k]?.getD 0), (cat (l.take (k + 1))).length, 0) := by
  conv => lhs; rw [cat_split l k hk]
  rw [read_int _ _ _ (zig_lt h1 h2), ← cat_snoc l k hk, List.length_append]
theorem read_end (l : List Int) : readNum 10 1 l l.length = (0, 0, 3) := by
  unfold readNum
  rw [if_neg (by omega)]
  exact num_short (by simp)

set_option maxHeartbeats 1600000 in
set_option maxRecDepth 100000 in
theorem rows_short (A : Option Addr) (c : Nat) (z : List Int) (w : World) (hz : Nums w w.heap.size A c z) (hl : z.length ≤ 50) :
    Calls Try.prog 8 #[.slice A z.length c] w fun e w' => e = .returned (.bool true) ∧ Below w.heap.size w w' := by
  have hlc := hz.len
  have hcm : c ≤ 9223372036854775807 := by have := hz.cap; unfold maxLen at this; omega
  obtain ⟨l, hle⟩ : ∃ l, Hid (z = l) := ⟨_, rfl⟩
  have hn : Nums w w.heap.size A c l := by rw [← hle.out]; exact hz
  have hlen : Hid (l.length = z.length) := by show l.length = _; rw [← hle.out]
  have hl50 : z.length ≤ 50 := by omega
  have hlt50 : ∀ k, k < z.length → k < l.length := fun k hk => by rw [hlen.out]; exact hk
  obtain ⟨q, hq⟩ : ∃ q, Hid (cat l = q) := ⟨_, rfl⟩
  have hq500 : ∀ k, (cat (l.take k)).length ≤ 10 * k := cat_len l hn.range
  have hqe : Hid (cat (l.take z.length) = q) := by show _ = q; rw [List.take_of_length_le (by rw [hlen.out]; exact Nat.le_refl _)]; exact hq.out
  have hqy : Bytes q := by rw [← hq.out]; exact cat_bytes l
  have hrd : ∀ k, k < z.length → readNum 10 1 q (cat (l.take k)).length = (zig (l[k]?.getD 0), (cat (l.take (k + 1))).length, 0) := fun k hk => by
    rw [← hq.out]; exact cat_read l k (hlt50 k hk) (hn.range k).1 (hn.range k).2
  have hgrow : ∀ k, k < z.length → (cat (l.take k)).length < (cat (l.take (k + 1))).length := fun k hk => by
    rw [← cat_snoc l k (hlt50 k hk), List.length_append]
    have := enc_pos (zig (l[k]?.getD 0))
    omega
  have HQ5 := Lib.hid hq500
  have HRD := Lib.hid hrd
  have HGR := Lib.hid hgrow
  have HLT := Lib.hid hlt50
  clear hq500 hrd hgrow hlt50
  have hdec : decide ((50 : Int) < (z.length : Int)) = false := by simp; omega
  go_enter Try.func8, Try.ntmps8
  go_wp2_with fail
  go_loopw [3, 22] (fun v i wr => ∃ (k : Nat) (D : Option Addr) (d : Nat), k ≤ z.length ∧ i = .int .i64 k ∧ v = .slice D (cat (l.take k)).length d ∧ Byt wr wr.heap.size D d (cat (l.take k)) ∧ Below w.heap.size w wr) (fun _ i _ => z.length - (intOf i).toNat)
  case atStart => exact ⟨0, none, 0, by omega, rfl, rfl, byt_nil _ _, Below.refl _ _⟩
  case round =>
    obtain ⟨k, D, d, hk, rfl, rfl, hby, hbel⟩ := hrel
    by_cases hlt : k < z.length
    · obtain ⟨x, hx⟩ : ∃ x, Hid (l[k]?.getD 0 = x) := ⟨_, rfl⟩
      have hxr := hn.range k
      rw [hx.out] at hxr
      obtain ⟨b, o, hA, hbB, hc⟩ := (hn.below hbel (Nat.le_refl _)).at_ (by have := HLT.out k hlt; rintro rfl; simp at this)
      subst hA
      have hcell := hc k (HLT.out k hlt)
      rw [hx.out] at hcell
      clear hc
      have hs := cat_snoc l k (HLT.out k hlt)
      rw [hx.out] at hs
      have HS := Lib.hid hs
      have hb5 := HQ5.out k
      clear hs
      generalize hcat : cat (l.take k) = p at *
      generalize hcat1 : cat (l.take (k + 1)) = p1 at *
      have K1 := Lib.hid hcat1
      clear hcat hcat1
      go_wp2_with fail
      refine (appendInt_any D d p x wr hby (by omega) hxr.1 hxr.2 p1 HS).mono ?_
      rintro e w1 ⟨D1, d1, rfl, o1, b1⟩
      have y1 : Bytes p1 := by rw [← K1.out]; exact cat_bytes _
      have t1 := Byt.own y1 o1
      have K2 : Hid (cat (l.take (k + 1)) = p1) := K1
      go_wp2_with fail
      go_roundw
      case rel => exact ⟨k + 1, D1, d1, by omega, by go_num, by rw [K2.out], by rw [K2.out]; exact t1, hbel.trans (b1.mono hbel.size)⟩
      case measure => simp [intOf]; omega
    · have hk1 : k = z.length := by omega
      subst hk1
      rw [hqe.out] at hby
      rw [hqe.out]
      go_wp2_with fail
      go_loopw [6, 32] (fun v i wq => ∃ k : Nat, k ≤ z.length ∧ i = .int .i64 k ∧ v = .int .i64 (cat (l.take k)).length ∧ Below wr.heap.size wr wq) (fun _ i _ => z.length - (intOf i).toNat)
      case atStart => exact ⟨0, by omega, rfl, by simp [cat], Below.refl _ _⟩
      case round =>
        obtain ⟨k, hk, rfl, rfl, hbel2⟩ := hrel
        have c2 : Below w.heap.size w _ := hbel.trans (hbel2.mono hbel.size)
        have hby2 := hby.below hbel2 (Nat.le_refl _) hbel2.size
        by_cases hlt : k < z.length
        · obtain ⟨x, hx⟩ : ∃ x, Hid (l[k]?.getD 0 = x) := ⟨_, rfl⟩
          have hxr := hn.range k
          rw [hx.out] at hxr
          obtain ⟨b, o, hA, hbB, hc⟩ := (hn.below c2 (Nat.le_refl _)).at_ (by have := HLT.out k hlt; rintro rfl; simp at this)
          subst hA
          have hcell := hc k (HLT.out k hlt)
          rw [hx.out] at hcell
          clear hc
          have hr1 := HRD.out k hlt
          rw [hx.out] at hr1
          have hg1 := HGR.out k hlt
          have hb5 := HQ5.out k
          have hb6 := HQ5.out (k + 1)
          generalize hcat : (cat (l.take k)).length = p at *
          generalize hcat1 : (cat (l.take (k + 1))).length = p1 at *
          have K1 : Hid ((cat (l.take (k + 1))).length = p1) := hcat1
          have R1 := Lib.hid hr1
          clear hcat hcat1 hr1
          go_wp2_with fail
          refine (int_code D d q p _ hby2 (by omega) (by omega) (zig x) p1 0 R1 x zag_zig).mono ?_
          rintro e w1 ⟨rfl, b1⟩
          have K2 : Hid ((cat (l.take (k + 1))).length = p1) := K1
          go_wp2_with fail
          go_roundw
          case rel => exact ⟨k + 1, by omega, by go_num, by rw [K2.out], hbel2.trans (b1.mono hbel2.size)⟩
          case measure => simp [intOf]; omega
        · have hk1 : k = z.length := by omega
          subst hk1
          rw [hqe.out]
          have hq5 := HQ5.out z.length
          rw [hqe.out] at hq5
          go_wp2_with fail
          refine (int_code D d q q.length _ hby2 (by omega) (by omega) 0 0 3 (read_end q) 0 (show zag 0 = 0 by decide)).mono ?_
          rintro e w1 ⟨rfl, b1⟩
          have c3 := c2.trans (b1.mono c2.size)
          go_wp2_with fail
          refine (known_any _).mono ?_
          rintro e w2 ⟨rfl, b2⟩
          go_wp2_with fail
          go_ret
          exact ⟨rfl, c3.trans (b2.mono c3.size)⟩

set_option maxHeartbeats 1600000 in
set_option maxRecDepth 100000 in
theorem rows_long (A : Option Addr) (c : Nat) (z : List Int) (w : World) (hz : Nums w w.heap.size A c z) (hl : 50 < z.length) :
    Calls Try.prog 8 #[.slice A z.length c] w fun e w' => e = .returned (.bool true) ∧ Below w.heap.size w w' := by
  have hlc := hz.len
  have hcm : c ≤ 9223372036854775807 := by have := hz.cap; unfold maxLen at this; omega
  obtain ⟨l, hle⟩ : ∃ l, Hid (z.take 50 = l) := ⟨_, rfl⟩
  have hn : Nums w w.heap.size A c l := by rw [← hle.out]; exact hz.head 50
  have hlen : Hid (l.length = 50) := by show l.length = _; rw [← hle.out]; simp; omega
  have hl50 : 50 ≤ 50 := by omega
  have hlt50 : ∀ k, k < 50 → k < l.length := fun k hk => by rw [hlen.out]; exact hk
  obtain ⟨q, hq⟩ : ∃ q, Hid (cat l = q) := ⟨_, rfl⟩
  have hq500 : ∀ k, (cat (l.take k)).length ≤ 10 * k := cat_len l hn.range
  have hqe : Hid (cat (l.take 50) = q) := by show _ = q; rw [List.take_of_length_le (by rw [hlen.out]; exact Nat.le_refl _)]; exact hq.out
  have hqy : Bytes q := by rw [← hq.out]; exact cat_bytes l
  have hrd : ∀ k, k < 50 → readNum 10 1 q (cat (l.take k)).length = (zig (l[k]?.getD 0), (cat (l.take (k + 1))).length, 0) := fun k hk => by
    rw [← hq.out]; exact cat_read l k (hlt50 k hk) (hn.range k).1 (hn.range k).2
  have hgrow : ∀ k, k < 50 → (cat (l.take k)).length < (cat (l.take (k + 1))).length := fun k hk => by
    rw [← cat_snoc l k (hlt50 k hk), List.length_append]
    have := enc_pos (zig (l[k]?.getD 0))
    omega
  have HQ5 := Lib.hid hq500
  have HRD := Lib.hid hrd
  have HGR := Lib.hid hgrow
  have HLT := Lib.hid hlt50
  clear hq500 hrd hgrow hlt50 hz
  have hdec : decide ((50 : Int) < (z.length : Int)) = true := by simp; omega
  go_enter Try.func8, Try.ntmps8
  go_wp2_with fail
  go_loopw [3, 22] (fun v i wr => ∃ (k : Nat) (D : Option Addr) (d : Nat), k ≤ 50 ∧ i = .int .i64 k ∧ v = .slice D (cat (l.take k)).length d ∧ Byt wr wr.heap.size D d (cat (l.take k)) ∧ Below w.heap.size w wr) (fun _ i _ => 50 - (intOf i).toNat)
  case atStart => exact ⟨0, none, 0, by omega, rfl, rfl, byt_nil _ _, Below.refl _ _⟩
  case round =>
    obtain ⟨k, D, d, hk, rfl, rfl, hby, hbel⟩ := hrel
    by_cases hlt : k < 50
    · obtain ⟨x, hx⟩ : ∃ x, Hid (l[k]?.getD 0 = x) := ⟨_, rfl⟩
      have hxr := hn.range k
      rw [hx.out] at hxr
      obtain ⟨b, o, hA, hbB, hc⟩ := (hn.below hbel (Nat.le_refl _)).at_ (by have := HLT.out k hlt; rintro rfl; simp at this)
      subst hA
      have hcell := hc k (HLT.out k hlt)
      rw [hx.out] at hcell
      clear hc
      have hs := cat_snoc l k (HLT.out k hlt)
      rw [hx.out] at hs
      have HS := Lib.hid hs
      have hb5 := HQ5.out k
      clear hs
      generalize hcat : cat (l.take k) = p at *
      generalize hcat1 : cat (l.take (k + 1)) = p1 at *
      have K1 := Lib.hid hcat1
      clear hcat hcat1
      go_wp2_with fail
      refine (appendInt_any D d p x wr hby (by omega) hxr.1 hxr.2 p1 HS).mono ?_
      rintro e w1 ⟨D1, d1, rfl, o1, b1⟩
      have y1 : Bytes p1 := by rw [← K1.out]; exact cat_bytes _
      have t1 := Byt.own y1 o1
      have K2 : Hid (cat (l.take (k + 1)) = p1) := K1
      go_wp2_with fail
      go_roundw
      case rel => exact ⟨k + 1, D1, d1, by omega, by go_num, by rw [K2.out], by rw [K2.out]; exact t1, hbel.trans (b1.mono hbel.size)⟩
      case measure => simp [intOf]; omega
    · have hk1 : k = 50 := by omega
      subst hk1
      rw [hqe.out] at hby
      rw [hqe.out]
      rw [show (((50 : Nat) : Int)) = 50 from rfl]
      go_wp2_with fail
      go_loopw [6, 32] (fun v i wq => ∃ k : Nat, k ≤ 50 ∧ i = .int .i64 k ∧ v = .int .i64 (cat (l.take k)).length ∧ Below wr.heap.size wr wq) (fun _ i _ => 50 - (intOf i).toNat)
      case atStart => exact ⟨0, by omega, rfl, by simp [cat], Below.refl _ _⟩
      case round =>
        obtain ⟨k, hk, rfl, rfl, hbel2⟩ := hrel
        have c2 : Below w.heap.size w _ := hbel.trans (hbel2.mono hbel.size)
        have hby2 := hby.below hbel2 (Nat.le_refl _) hbel2.size
        by_cases hlt : k < 50
        · obtain ⟨x, hx⟩ : ∃ x, Hid (l[k]?.getD 0 = x) := ⟨_, rfl⟩
          have hxr := hn.range k
          rw [hx.out] at hxr
          obtain ⟨b, o, hA, hbB, hc⟩ := (hn.below c2 (Nat.le_refl _)).at_ (by have := HLT.out k hlt; rintro rfl; simp at this)
          subst hA
          have hcell := hc k (HLT.out k hlt)
          rw [hx.out] at hcell
          clear hc
          have hr1 := HRD.out k hlt
          rw [hx.out] at hr1
          have hg1 := HGR.out k hlt
          have hb5 := HQ5.out k
          have hb6 := HQ5.out (k + 1)
          generalize hcat : (cat (l.take k)).length = p at *
          generalize hcat1 : (cat (l.take (k + 1))).length = p1 at *
          have K1 : Hid ((cat (l.take (k + 1))).length = p1) := hcat1
          have R1 := Lib.hid hr1
          clear hcat hcat1 hr1
          go_wp2_with fail
          refine (int_code D d q p _ hby2 (by omega) (by omega) (zig x) p1 0 R1 x zag_zig).mono ?_
          rintro e w1 ⟨rfl, b1⟩
          have K2 : Hid ((cat (l.take (k + 1))).length = p1) := K1
          go_wp2_with fail
          go_roundw
          case rel => exact ⟨k + 1, by omega, by go_num, by rw [K2.out], hbel2.trans (b1.mono hbel2.size)⟩
          case measure => simp [intOf]; omega
        · have hk1 : k = 50 := by omega
          subst hk1
          rw [hqe.out]
          have hq5 := HQ5.out 50
          rw [hqe.out] at hq5
          go_wp2_with fail
          refine (int_code D d q q.length _ hby2 (by omega) (by omega) 0 0 3 (read_end q) 0 (show zag 0 = 0 by decide)).mono ?_
          rintro e w1 ⟨rfl, b1⟩
          have c3 := c2.trans (b1.mono c2.size)
          go_wp2_with fail
          refine (known_any _).mono ?_
          rintro e w2 ⟨rfl, b2⟩
          go_wp2_with fail
          go_ret
          exact ⟨rfl, c3.trans (b2.mono c3.size)⟩

end Go.Proofs.Ytkaekpmpjemmoaa
