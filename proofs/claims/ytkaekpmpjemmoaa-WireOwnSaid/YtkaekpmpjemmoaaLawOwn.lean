/-
  The walk of the law WireOwn: whatever the bytes, the number and the text, what is appended is new memory; it returns true and changes nothing that was there. No condition.
-/
import Derived.Test.YtkaekpmpjemmoaaKnown
import Derived.Laws.CopyOwn
import Derived.Deep.RegionHeld3
namespace Go.Proofs.Ytkaekpmpjemmoaa
set_option linter.unusedVariables false
open Go.RowKit

/-- A row that is full, as a block of the heap, and back. -/
theorem block_of_own {w : World} {base g n : Nat} {e : TypeId} {xs : List Value} (h : w.ownsRow base e 1 (.slice (some ⟨g, 0, none⟩) n n) n xs) : w.heap[g]? = some (.cells xs.toArray e (0, 0)) := by
  have hl := h.1
  rcases h.2 with ⟨hv, _⟩ | ⟨g', cap, cur, hv, _, hg, hnc, _, hs, ht⟩
  · injection hv with h1; cases h1
  · injection hv with h1 h2 h3
    injection h1 with h1
    injection h1 with h1 _ _
    subst h1
    subst h3
    rw [List.take_of_length_le (by rw [Array.length_toList]; omega)] at ht
    rw [hg, ← ht]
theorem own_of_block {w : World} {base g n : Nat} {e : TypeId} {xs : List Value} (h : w.heap[g]? = some (.cells xs.toArray e (0, 0))) (hb : base ≤ g) (hn : xs.length = n) (hm : n ≤ maxLen) : w.ownsRow base e 1 (.slice (some ⟨g, 0, none⟩) n n) n xs :=
  ⟨by omega, .inr ⟨g, n, xs.toArray, rfl, hb, h, Nat.le_refl _, hm, by simpa using hn, by rw [Nat.mul_one, ← hn]; simp⟩⟩

/-- The bytes ahead, j times 77, and zeros. -/
def filled (l : List Int) (j : Nat) : List Int := l ++ (List.replicate j 77 ++ List.replicate (40 - j) 0)
theorem filled_length (l : List Int) (j : Nat) (h : j ≤ 40) : (filled l j).length = l.length + 40 := by simp [filled]; omega
theorem filled_step (l : List Int) (j : Nat) (h : j < 40) : (filled l j).set (l.length + j) 77 = filled l (j + 1) := by
  unfold filled
  rw [List.set_append_right _ _ (by omega), Nat.add_sub_cancel_left, List.set_append_right _ _ (by simp)]
  rw [List.length_replicate, Nat.sub_self, show 40 - j = (39 - j) + 1 from by omega, List.replicate_succ, List.set_cons_zero, List.replicate_succ' (n := j), List.append_assoc, show 40 - (j + 1) = 39 - j from by omega]
  rfl
theorem filled_start (l : List Int) : splice (vals (List.replicate (l.length + 40) 0)) 0 (vals l) = vals (filled l 0) := by
  simp [splice, vals, filled]
theorem made_zeros (n : Nat) : (madeCells (Value.int .u8 0).cells (n * 1)).toList = vals (List.replicate n 0) := by
  simp [madeCells, vals, Value.cells, Nat.mod_one, List.map_const']
theorem vals_set' (l : List Int) (k : Nat) (x : Int) : (vals l).set k (.int .u8 x) = vals (l.set k x) := by simp [vals, List.map_set]

theorem copy_src {w : World} {B c : Nat} {A : Option Addr} {l : List Int} (h : Byt w B A c l) (hp : 0 < (vals l).length) : ∃ ad, A = some ad ∧ ∀ j v, (vals l)[j]? = some v → w.cell? (ad.add j) = some v := by
  cases A with
  | none =>
    have := (h.none_ rfl).1
    simp [vals, List.eq_nil_of_length_eq_zero this] at hp
  | some ad => exact ⟨ad, rfl, h.cells ad rfl⟩

theorem own_round {w : World} {base n C k : Nat} {e : TypeId} {A : Option Addr} {xs : List Value} (h : w.ownsRow base e 1 (.slice A n C) n xs) (hk : k < n) (u : Value) :
    ∃ g z, A = some ⟨g, 0, none⟩ ∧ base ≤ g ∧ w.cell? ⟨g, k, none⟩ = some z ∧ w.frozen? ⟨g, k, none⟩ = false ∧ (w.setCell ⟨g, k, none⟩ u).ownsRow base e 1 (.slice A n C) n (xs.set k u) ∧ w.grownBy (w.setCell ⟨g, k, none⟩ u) (some g) := by
  obtain ⟨g, cap, hv, hg, hlt⟩ := h.form (by omega)
  injection hv with hA _ hC
  subst hA
  have hlen := h.1
  exact ⟨g, xs[k]'(by omega), rfl, hg, (h.cellAt k (by omega)).trans (List.getElem?_eq_getElem _), h.frozenAt k, (h.stored k u).1, (h.stored k u).2⟩
theorem own_below {w w' : World} {B base n : Nat} {e : TypeId} {v : Value} {xs : List Value} (h : w.ownsRow base e 1 v n xs) (hb : Below B w w') (hB : ∀ g, v.ownBlock = some g → g < B) : w'.ownsRow base e 1 v n xs := by
  refine ⟨h.1, ?_⟩
  rcases h.2 with hn | ⟨g, cap, cur, rfl, hg, hh, rest⟩
  · exact .inl hn
  · exact .inr ⟨g, cap, cur, rfl, hg, (hb.block g (hB g rfl)).trans hh, rest⟩
theorem filled_at (l : List Int) (j : Nat) (h : j < 40) : (vals (filled l 40))[l.length + j]? = some (.int .u8 77) := by
  have e : filled l 40 = l ++ List.replicate 40 77 := by simp [filled]
  rw [e]
  generalize hr : List.replicate 40 (77 : Int) = r
  have h2 : r[j]? = some 77 := by rw [← hr, List.getElem?_replicate, if_pos h]
  unfold vals
  rw [List.map_append, List.getElem?_append_right (by simp)]
  simp [h2]

set_option maxHeartbeats 3200000 in
set_option maxRecDepth 100000 in
theorem own_any (A : Option Addr) (c : Nat) (l : List Int) (v : Int) (s : ByteArray) (w : World) (hb : Byt w w.heap.size A c l) (hl : l.length ≤ 200) (hs : s.size ≤ 200) (h1 : -9223372036854775808 ≤ v) (h2 : v < 9223372036854775808) :
    Calls Try.prog 10 #[.slice A l.length c, .int .i64 v, .string s] w fun e w' => e = .returned (.bool true) ∧ Below w.heap.size w w' := by
  obtain ⟨i0, hi, hz0, hz1, hz2⟩ := info_parts u8info
  have hszi : (Try.prog.info? 5).map (·.size) = some 1 := by rw [hi]; simp [hz1]
  have HSZ := Lib.hid hszi
  clear hszi
  go_enter Try.func10, Try.ntmps10
  go_wp2_with (first
    | (at_make; refine wpList_make_full _ rfl _ _ 22 rfl w.heap.size 5 i0 (.int .u8 0) 1 Try.underlying22 hi hz0 hz1 _ _ _ _ (l.length + 40) rfl rfl (by omega) (by omega) (by rw [hz2]; omega) (by unfold maxLen; omega) (Nat.le_refl _) ?_; rw [made_zeros]; intro w1 o1 g1; have b1 : Below w.heap.size w w1 := (Below.refl _ _).grown g1 (Nat.le_refl _) (by simp))
    | (with_reducible refine wpList_copy_splice rfl _ _ 22 22 rfl 5 Try.underlying22 HSZ.out (some ⟨w.heap.size, 0, none⟩) A (l.length + 40) (l.length + 40) l.length c rfl rfl w.heap.size 0 (vals (List.replicate (l.length + 40) 0)) 5 (block_of_own o1) (vals l) (by simp [vals]) (fun h => ⟨rfl, (copy_src (hb.below b1 (Nat.le_refl _) b1.size)) h⟩) (by simp [vals]) (vals_one l) w.heap.size w b1 (Nat.le_refl _) ?_; rw [filled_start]; intro w2 B2 b2))
  have o2 := own_of_block (base := w.heap.size) B2.out (Nat.le_refl _) (by rw [show (vals (filled l 0)).length = (filled l 0).length from by simp [vals], filled_length l 0 (by omega)]) (by unfold maxLen; omega)
  clear B2
  go_loopw [8] (fun i wr => ∃ j : Nat, j ≤ 40 ∧ i = .int .i64 ((l.length + j : Nat) : Int) ∧ wr.ownsRow w.heap.size 5 1 (.slice (some ⟨w.heap.size, 0, none⟩) (l.length + 40) (l.length + 40)) (l.length + 40) (vals (filled l j)) ∧ Below w.heap.size w wr) (fun i _ => l.length + 40 - (intOf i).toNat)
  case atStart => exact ⟨0, by omega, rfl, o2, b2⟩
  case round =>
    obtain ⟨j, hj, rfl, o3, b3⟩ := hrel
    by_cases hlt : j < 40
    · have hcell : ∃ u, wr.cell? ⟨w.heap.size, l.length + j, none⟩ = some u := ⟨_, (o3.cellAt (l.length + j) (by omega)).trans (List.getElem?_eq_getElem (by rw [show (vals (filled l j)).length = (filled l j).length from by simp [vals], filled_length l j hj]; omega))⟩
      obtain ⟨u, hcell⟩ := hcell
      have hfr := o3.frozenAt (l.length + j)
      have o4 := (o3.stored (l.length + j) (.int .u8 77)).1
      rw [vals_set', filled_step l j hlt] at o4
      have b4 := b3.setCell (p := ⟨w.heap.size, l.length + j, none⟩) (Nat.le_refl _) (.int .u8 77)
      go_wp2_with fail
      go_roundw
      case rel => exact ⟨j + 1, by omega, by go_num, o4, b4⟩
      case measure => simp [intOf]; omega
    · have hj40 : j = 40 := by omega
      subst hj40
      obtain ⟨w4, rfl⟩ : ∃ wo : World, wo = wr := ⟨_, rfl⟩
      go_wp2_with fail
      have hfb : Bytes (filled l 40) := bytes_append hb.range (bytes_append (bytes_mem fun y hy => by rw [List.eq_of_mem_replicate hy]; decide) (bytes_mem fun y hy => by rw [List.eq_of_mem_replicate hy]; decide))
      have hfl : (filled l 40).length = l.length + 40 := filled_length l 40 (by omega)
      have hft : (filled l 40).take l.length = l := by unfold filled; exact List.take_left
      have t3 : Byt w4 w4.heap.size (some ⟨w.heap.size, 0, none⟩) (l.length + 40) l := by
        have h := o3
        rw [← hfl] at h
        have h2 := (Byt.own (A := some ⟨w.heap.size, 0, none⟩) (c := (filled l 40).length) hfb h).head l.length
        rw [hft, hfl] at h2
        exact h2
      obtain ⟨r1, hr1⟩ : ∃ r, Hid (uintOn l v = r) := ⟨_, rfl⟩
      obtain ⟨r2, hr2⟩ : ∃ r, Hid (l ++ enc (zig v) = r) := ⟨_, rfl⟩
      obtain ⟨r3, hr3⟩ : ∃ r, Hid (l ++ enc s.size ++ strList s = r) := ⟨_, rfl⟩
      have l1 : r1.length ≤ 220 := by
        rw [← hr1.out]
        unfold uintOn
        split
        · omega
        · rw [List.length_append]; have := enc_len64 (n := v.toNat) (by omega); omega
      have l2 : r2.length ≤ 220 := by rw [← hr2.out, List.length_append]; have := enc_len64 (zig_lt h1 h2); omega
      have l3 : r3.length ≤ 420 := by rw [← hr3.out, List.length_append, List.length_append, strList_length]; have := enc_len64 (n := s.size) (by omega); omega
      clear hft hfl
      have i1 : (0 : Int) ≤ (l.length : Int) := by omega
      have i2 : (l.length : Int) ≤ ((l.length + 40 : Nat) : Int) := by omega
      have i3 : (l.length : Int) ≤ (l.length : Int) + 40 := by omega
      have t4 : Byt w4.drew w4.drew.heap.size (some ⟨w.heap.size, 0, none⟩) (l.length + 40) l := t3.keep (Nat.le_refl _) fun _ _ => rfl
      go_region_held3 (fun _ => True) (trivial) (first
        | (go_at_call 13; refine (appendUint_any _ (l.length + 40) l v _ t4 (by omega) h2 r1 hr1).mono ?_; rintro e w5 ⟨A5, C5, rfl, o5, b5⟩; have t5 := t4.below b5 (Nat.le_refl _) b5.size)
        | (go_at_call 15; refine (appendInt_any _ (l.length + 40) l v _ t5 (by omega) h1 h2 r2 hr2).mono ?_; rintro e w6 ⟨A6, C6, rfl, o6, b6⟩; have t6 := t5.below b6 (Nat.le_refl _) b6.size)
        | (go_at_call 17; refine (appendText_any _ (l.length + 40) l s _ t6 (by omega) (by omega) r3 hr3).mono ?_; rintro e w7 ⟨A7, C7, rfl, o7, b7⟩))
      go_wp2_with fail
      have hx := o5.lt
      have hy := o6.lt
      have hz := o7.lt
      have HX := Lib.hid hx
      have HY := Lib.hid hy
      have HZ := Lib.hid hz
      clear hx hy hz
      have q5 := own_below o5 (b6.trans (b7.mono b6.size)) (fun g hg => (HX.out g hg).2)
      have q6 := own_below o6 b7 (fun g hg => (HY.out g hg).2)
      have s56 : w5.heap.size ≤ w6.heap.size := b6.size
      have sr5 : w4.heap.size ≤ w5.heap.size := b5.size
      have d5 : Below w4.heap.size w4 w5 := (Drew.below ⟨1, rfl⟩ _ : Below w4.heap.size w4 w4.drew).trans b5
      have d7 : Below w4.heap.size w4 w7 := d5.trans ((b6.mono sr5).trans (b7.mono (Nat.le_trans sr5 s56)))
      clear t5 t6 o5 o6
      go_loopw [12] (fun i wq => ∃ (k : Nat) (xs : List Value), k ≤ r1.length ∧ i = .int .i64 k ∧ wq.ownsRow w4.heap.size 5 1 (.slice A5 r1.length C5) r1.length xs ∧ wq.ownsRow w5.heap.size 5 1 (.slice A6 r2.length C6) r2.length (vals r2) ∧ wq.ownsRow w6.heap.size 5 1 (.slice A7 r3.length C7) r3.length (vals r3) ∧ Below w4.heap.size w4 wq) (fun i _ => r1.length - (intOf i).toNat)
      case atStart => exact ⟨0, _, by omega, rfl, q5, q6, o7, d7⟩
      case round =>
        obtain ⟨k, xs, hk, rfl, x1, x2, x3, dq⟩ := hrel
        by_cases hlt : k < r1.length
        · obtain ⟨g, z, hA, hg, hcell, hfr, own', gr⟩ := own_round x1 hlt (.int .u8 1)
          subst hA
          have e2 := x2.kept gr (.inr (fun e => by have := HX.out g rfl; have := HY.out g e; omega))
          have e3 := x3.kept gr (.inr (fun e => by have := HX.out g rfl; have := HZ.out g e; omega))
          have e4 := dq.setCell (p := ⟨g, k, none⟩) hg (.int .u8 1)
          go_wp2_with fail
          go_roundw
          case rel => exact ⟨k + 1, _, by omega, by go_num, own', e2, e3, e4⟩
          case measure => simp [intOf]; omega
        · have hk1 : k = r1.length := by omega
          subst hk1
          go_wp2_with fail
          go_loopw [13] (fun i wq => ∃ (k : Nat) (xs : List Value), k ≤ r2.length ∧ i = .int .i64 k ∧ wq.ownsRow w5.heap.size 5 1 (.slice A6 r2.length C6) r2.length xs ∧ wq.ownsRow w6.heap.size 5 1 (.slice A7 r3.length C7) r3.length (vals r3) ∧ Below w4.heap.size w4 wq) (fun i _ => r2.length - (intOf i).toNat)
          case atStart => exact ⟨0, _, by omega, rfl, x2, x3, dq⟩
          case round =>
            obtain ⟨k, xs, hk, rfl, x2, x3, dq⟩ := hrel
            by_cases hlt : k < r2.length
            · obtain ⟨g, z, hA, hg, hcell, hfr, own', gr⟩ := own_round x2 hlt (.int .u8 2)
              subst hA
              have e3 := x3.kept gr (.inr (fun e => by have := HY.out g rfl; have := HZ.out g e; omega))
              have e4 := dq.setCell (p := ⟨g, k, none⟩) (Nat.le_trans sr5 hg) (.int .u8 2)
              go_wp2_with fail
              go_roundw
              case rel => exact ⟨k + 1, _, by omega, by go_num, own', e3, e4⟩
              case measure => simp [intOf]; omega
            · have hk1 : k = r2.length := by omega
              subst hk1
              go_wp2_with fail
              go_loopw [14] (fun i wq => ∃ (k : Nat) (xs : List Value), k ≤ r3.length ∧ i = .int .i64 k ∧ wq.ownsRow w6.heap.size 5 1 (.slice A7 r3.length C7) r3.length xs ∧ Below w4.heap.size w4 wq) (fun i _ => r3.length - (intOf i).toNat)
              case atStart => exact ⟨0, _, by omega, rfl, x3, dq⟩
              case round =>
                obtain ⟨k, xs, hk, rfl, x3, dq⟩ := hrel
                by_cases hlt : k < r3.length
                · obtain ⟨g, z, hA, hg, hcell, hfr, own', gr⟩ := own_round x3 hlt (.int .u8 3)
                  subst hA
                  have e4 := dq.setCell (p := ⟨g, k, none⟩) (Nat.le_trans sr5 (Nat.le_trans s56 hg)) (.int .u8 3)
                  go_wp2_with fail
                  go_roundw
                  case rel => exact ⟨k + 1, _, by omega, by go_num, own', e4⟩
                  case measure => simp [intOf]; omega
                · have hk1 : k = r3.length := by omega
                  subst hk1
                  have hwlt : w.heap.size < w4.heap.size := (o3.lt w.heap.size rfl).2
                  go_wp2_with fail
                  go_loopw [15] (fun i wq => ∃ j : Nat, j ≤ 40 ∧ i = .int .i64 ((l.length + j : Nat) : Int) ∧ Below w4.heap.size w4 wq) (fun i _ => l.length + 40 - (intOf i).toNat)
                  case atStart => exact ⟨0, by omega, rfl, dq⟩
                  case round =>
                    obtain ⟨j, hj, rfl, dz⟩ := hrel
                    by_cases hlt : j < 40
                    · have hcell := (dz.cell (p := ⟨w.heap.size, l.length + j, none⟩) hwlt).trans ((o3.cellAt (l.length + j) (by omega)).trans (filled_at l j hlt))
                      go_wp2_with fail
                      go_roundw
                      case rel => exact ⟨j + 1, by omega, by go_num, dz⟩
                      case measure => simp [intOf]; omega
                    · have hj40 : j = 40 := by omega
                      subst hj40
                      have cz := b3.trans (dz.mono b3.size)
                      have tz := t3.below dz (Nat.le_refl _) dz.size
                      have bz := hb.below cz (Nat.le_refl _) cz.size
                      go_wp2_with fail
                      refine (list_same _ A _ c l _ _ _ tz bz _ _ rfl rfl).mono ?_
                      rintro e wx ⟨rfl, dx⟩
                      have cx := cz.trans (dx.below _)
                      go_wp2_with fail
                      refine (known_any _).mono ?_
                      rintro e wy ⟨rfl, by_⟩
                      go_wp2_with fail
                      go_ret
                      exact ⟨rfl, cx.trans (by_.mono cx.size)⟩

theorem own_out1 (A : Option Addr) (c : Nat) (l : List Int) (v : Int) (s : ByteArray) (w : World) (hl0 : l.length ≤ maxLen) (hs0 : s.size ≤ maxLen) (h1 : 200 < l.length) :
    Calls Try.prog 10 #[.slice A l.length c, .int .i64 v, .string s] w fun e w' => e = .returned (.bool true) ∧ Below w.heap.size w w' := by
  unfold maxLen at hl0 hs0
  go_enter Try.func10, Try.ntmps10
  go_wp2_with (go_at_call 11; refine (known_any w).mono ?_; rintro e w1 ⟨rfl, hb1⟩)
  go_ret
  exact ⟨rfl, hb1⟩

theorem own_out2 (A : Option Addr) (c : Nat) (l : List Int) (v : Int) (s : ByteArray) (w : World) (hl0 : l.length ≤ maxLen) (hs0 : s.size ≤ maxLen) (h1 : l.length ≤ 200) (h2 : 200 < s.size) :
    Calls Try.prog 10 #[.slice A l.length c, .int .i64 v, .string s] w fun e w' => e = .returned (.bool true) ∧ Below w.heap.size w w' := by
  unfold maxLen at hl0 hs0
  go_enter Try.func10, Try.ntmps10
  go_wp2_with (go_at_call 11; refine (known_any w).mono ?_; rintro e w1 ⟨rfl, hb1⟩)
  go_ret
  exact ⟨rfl, hb1⟩

end Go.Proofs.Ytkaekpmpjemmoaa
