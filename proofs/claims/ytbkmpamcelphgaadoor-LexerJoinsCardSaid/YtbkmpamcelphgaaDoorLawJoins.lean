/-
  The walk of the law LexerJoins: whatever the two texts, it returns true and changes nothing that was there. Condition: the package's variable holds the signs.
-/
import Derived.Test.YtbkmpamcelphgaaDoorKnown
import Derived.Test.YtbkmpamcelphgaaDoorSame
import Derived.Test.YtbkmpamcelphgaaDoorJoin
namespace Go.Proofs.YtbkmpamcelphgaaDoor
open Go.RowKit

theorem joins_long (a b : ByteArray) (w : World) (hS : SignsAt w) (ha : a.size ≤ 140737488355328) (hb : b.size ≤ 140737488355328) (h : 2000 < a.size + b.size) :
    Calls Tryd.prog 6 #[.string a, .string b] w fun e w' => e = .returned (.bool true) ∧ Below w.heap.size w w' := by
  have hq : decide ((2000 : Int) < (a.size : Int) + (b.size : Int)) = true := by simp; omega
  go_enter Tryd.func6, Tryd.ntmps6
  go_wp2_with fail
  refine (known_any w hS).mono ?_
  rintro e w5 ⟨rfl, hb5⟩
  go_wp2_with fail
  go_ret
  exact ⟨rfl, hb5⟩

theorem join_list (a b : ByteArray) : ((a ++ ⟨#[10]⟩) ++ b).data.toList = a.data.toList ++ 10 :: b.data.toList := by simp
theorem join_size (a b : ByteArray) (h : a.size + b.size ≤ 2000) : ((a ++ ⟨#[10]⟩) ++ b).size ≤ 9223372036854775807 := by
  have h1 : (⟨#[10]⟩ : ByteArray).size = 1 := rfl
  rw [ByteArray.size_append, ByteArray.size_append, h1]
  omega
theorem below_drewN {B : Nat} {a w : World} (h : Below B a w) (n : Nat) : Below B a (w.drewN n) := ⟨h.os, h.tape, h.output, h.size, h.block⟩
theorem later_cells (d : Nat) (t : Tok) : (later d t).kind = t.kind ∧ (later d t).line = t.line + d ∧ (later d t).text = t.text ∧ (later d t).num = t.num := ⟨rfl, rfl, rfl, rfl⟩
/-- What one of the joined texts' tokens is. -/
theorem joined_at (acc Y : List Tok) (M k : Nat) : (k < acc.length → (acc ++ Y.map (later M))[k]? = acc[k]?) ∧ (acc.length ≤ k → (acc ++ Y.map (later M))[k]? = (Y[k - acc.length]?).map (later M)) :=
  ⟨fun h => List.getElem?_append_left h, fun h => by rw [List.getElem?_append_right h, List.getElem?_map]⟩

set_option maxHeartbeats 800000 in
set_option maxRecDepth 1000000 in
theorem joins_first (a b : ByteArray) (w : World) (hS : SignsAt w) (h : a.size + b.size ≤ 2000) (X Y Z : List Tok) (la lb lz e f g : Nat) (RA : Hid (scan a.data.toList = (X, la, e))) (RB : Hid (scan b.data.toList = (Y, lb, f))) (z : ByteArray) (HZ : Hid ((a ++ ⟨#[10]⟩) ++ b = z)) (hzs : z.size ≤ 9223372036854775807) (RZ : Hid (scan z.data.toList = (Z, lz, g)))
    (he : 0 < e) (hg : 0 < g) :
    Calls Tryd.prog 6 #[.string a, .string b] w fun e w' => e = .returned (.bool true) ∧ Below w.heap.size w w' := by
  have hlt := hS.lt
  have HS := Lib.hid hS
  clear hS
  have q1 : ((e : Int) == 0) = false := beq_no (by omega)
  have q2 : ((g : Int) == 0) = false := beq_no (by omega)
  go_enter Tryd.func6, Tryd.ntmps6
  go_wp2_with fail
  refine (scan_any a w HS.out (by omega) _ RA).mono ?_
  rintro e w1 ⟨A1, C1, rfl, ht1, hb1⟩
  have HT1 := Lib.hid ht1
  have HS1 := Lib.hid (HS.out.below hb1 hlt)
  have hz1 := hb1.size
  have hlt1 : 0 < w1.heap.size := by omega
  clear ht1
  go_wp2_with fail
  refine (scan_any b w1 HS1.out (by omega) _ RB).mono ?_
  rintro e w2 ⟨A2, C2, rfl, ht2, hb2⟩
  have HT2 := Lib.hid ht2
  have HT1' := Lib.hid (HT1.out.below hb2 (Nat.le_refl _) hb2.size)
  have HB2 := Lib.hid (hb1.trans (hb2.mono hz1))
  have HS2 := Lib.hid (HS1.out.below hb2 hlt1)
  have hz2 := HB2.out.size
  have hlt2 : 0 < w2.heap.size := by omega
  clear ht2 hb1 hb2 HT1
  go_wp2_with fail
  rw [HZ.out]
  refine (scan_any z w2 HS2.out hzs _ RZ).mono ?_
  rintro e w3 ⟨A3, C3, rfl, ht3, hb3⟩
  have HT3 := Lib.hid ht3
  have HT2' := Lib.hid (HT2.out.below hb3 (Nat.le_refl _) hb3.size)
  have HT1'' := Lib.hid (HT1'.out.below hb3 (Nat.le_refl _) hb3.size)
  have HB3 := Lib.hid (HB2.out.trans (hb3.mono hz2))
  have HS3 := Lib.hid (HS2.out.below hb3 hlt2)
  have hz3 := HB3.out.size
  have hlt3 : 0 < w3.heap.size := by omega
  clear ht3 hb3 HT2 HT1'
  go_wp2_with fail
  refine (known_any w3 HS3.out).mono ?_
  rintro e w5 ⟨rfl, hb5⟩
  go_wp2_with fail
  go_ret
  exact ⟨ret_bool (by simp; omega), HB3.out.trans (hb5.mono hz3)⟩

set_option maxHeartbeats 800000 in
set_option maxRecDepth 1000000 in
theorem joins_second (a b : ByteArray) (w : World) (hS : SignsAt w) (h : a.size + b.size ≤ 2000) (acc Y Z : List Tok) (lb M f : Nat) (RA : Hid (scan a.data.toList = (acc ++ [⟨0, M, [], 0⟩], 0, 0))) (RB : Hid (scan b.data.toList = (Y, lb, f))) (z : ByteArray) (HZ : Hid ((a ++ ⟨#[10]⟩) ++ b = z)) (hzs : z.size ≤ 9223372036854775807) (RZ : Hid (scan z.data.toList = (Z, lb + M, f)))
    (hf : 0 < f) (hM : M ≤ 100000) (hlb : lb ≤ 100000) :
    Calls Tryd.prog 6 #[.string a, .string b] w fun e w' => e = .returned (.bool true) ∧ Below w.heap.size w w' := by
  have hlt := hS.lt
  have HS := Lib.hid hS
  clear hS
  have q1 : ((f : Int) == 0) = false := beq_no (by omega)
  go_enter Tryd.func6, Tryd.ntmps6
  go_wp2_with fail
  refine (scan_any a w HS.out (by omega) _ RA).mono ?_
  rintro e w1 ⟨A1, C1, rfl, ht1, hb1⟩
  have HT1 := Lib.hid ht1
  have HS1 := Lib.hid (HS.out.below hb1 hlt)
  have hz1 := hb1.size
  have hlt1 : 0 < w1.heap.size := by omega
  clear ht1
  go_wp2_with fail
  refine (scan_any b w1 HS1.out (by omega) _ RB).mono ?_
  rintro e w2 ⟨A2, C2, rfl, ht2, hb2⟩
  have HT2 := Lib.hid ht2
  have HT1' := Lib.hid (HT1.out.below hb2 (Nat.le_refl _) hb2.size)
  have HB2 := Lib.hid (hb1.trans (hb2.mono hz1))
  have HS2 := Lib.hid (HS1.out.below hb2 hlt1)
  have hz2 := HB2.out.size
  have hlt2 : 0 < w2.heap.size := by omega
  clear ht2 hb1 hb2 HT1
  go_wp2_with fail
  rw [HZ.out]
  refine (scan_any z w2 HS2.out hzs _ RZ).mono ?_
  rintro e w3 ⟨A3, C3, rfl, ht3, hb3⟩
  have HT3 := Lib.hid ht3
  have HT2' := Lib.hid (HT2.out.below hb3 (Nat.le_refl _) hb3.size)
  have HT1'' := Lib.hid (HT1'.out.below hb3 (Nat.le_refl _) hb3.size)
  have HB3 := Lib.hid (HB2.out.trans (hb3.mono hz2))
  have HS3 := Lib.hid (HS2.out.below hb3 hlt2)
  have hz3 := HB3.out.size
  have hlt3 : 0 < w3.heap.size := by omega
  clear ht3 hb3 HT2 HT1'
  have ht := HT1''.out
  obtain ⟨bk, rfl, hbl, hc⟩ := ht.at_ (by simp)
  have hlen := ht.len
  have hcap : C1 ≤ 9223372036854775807 := by have := ht.cap; unfold maxLen at this; omega
  simp only [List.length_append, List.length_cons, List.length_nil, Nat.zero_add] at hlen
  have hmax : acc.length + 1 ≤ 9223372036854775807 := by omega
  obtain ⟨c0, c1, c2, c3⟩ := hc acc.length ⟨0, M, [], 0⟩ (by simp)
  clear hc ht
  go_wp2_with fail
  refine (scan_any b w3 HS3.out (by omega) _ RB).mono ?_
  rintro e w4 ⟨A4, C4, rfl, _, hb4⟩
  have HB4 := Lib.hid (HB3.out.trans (hb4.mono hz3))
  have HS4 := Lib.hid (HS3.out.below hb4 hlt3)
  have hz4 := HB4.out.size
  clear hb4
  go_wp2_with fail
  refine (known_any w4 HS4.out).mono ?_
  rintro e w5 ⟨rfl, hb5⟩
  go_wp2_with fail
  go_ret
  exact ⟨rfl, HB4.out.trans (hb5.mono hz4)⟩

set_option maxHeartbeats 3200000 in
set_option maxRecDepth 1000000 in
theorem joins_both (a b : ByteArray) (w : World) (hS : SignsAt w) (h : a.size + b.size ≤ 2000) (acc Y : List Tok) (M : Nat) (RA : Hid (scan a.data.toList = (acc ++ [⟨0, M, [], 0⟩], 0, 0))) (RB : Hid (scan b.data.toList = (Y, 0, 0))) (z : ByteArray) (HZ : Hid ((a ++ ⟨#[10]⟩) ++ b = z)) (hzs : z.size ≤ 9223372036854775807) (RZ : Hid (scan z.data.toList = (acc ++ Y.map (later M), 0, 0)))
    (hM : M ≤ 100000) (hY : ∀ t ∈ Y, t.line ≤ 100000) (ha : acc.length ≤ 10000) (hy : Y.length ≤ 10000) :
    Calls Tryd.prog 6 #[.string a, .string b] w fun e w' => e = .returned (.bool true) ∧ Below w.heap.size w w' := by
  have hlt := hS.lt
  have HS := Lib.hid hS
  have HY := Lib.hid hY
  clear hS hY
  go_enter Tryd.func6, Tryd.ntmps6
  go_wp2_with fail
  refine (scan_any a w HS.out (by omega) _ RA).mono ?_
  rintro e w1 ⟨A1, C1, rfl, ht1, hb1⟩
  have HT1 := Lib.hid ht1
  have HS1 := Lib.hid (HS.out.below hb1 hlt)
  have hz1 := hb1.size
  have hlt1 : 0 < w1.heap.size := by omega
  clear ht1
  go_wp2_with fail
  refine (scan_any b w1 HS1.out (by omega) _ RB).mono ?_
  rintro e w2 ⟨A2, C2, rfl, ht2, hb2⟩
  have HT2 := Lib.hid ht2
  have HT1' := Lib.hid (HT1.out.below hb2 (Nat.le_refl _) hb2.size)
  have HB2 := Lib.hid (hb1.trans (hb2.mono hz1))
  have HS2 := Lib.hid (HS1.out.below hb2 hlt1)
  have hz2 := HB2.out.size
  have hlt2 : 0 < w2.heap.size := by omega
  clear ht2 hb1 hb2 HT1
  go_wp2_with fail
  rw [HZ.out]
  refine (scan_any z w2 HS2.out hzs _ RZ).mono ?_
  rintro e w3 ⟨A3, C3, rfl, ht3, hb3⟩
  have HT3 := Lib.hid ht3
  have HT2' := Lib.hid (HT2.out.below hb3 (Nat.le_refl _) hb3.size)
  have HT1'' := Lib.hid (HT1'.out.below hb3 (Nat.le_refl _) hb3.size)
  have HB3 := Lib.hid (HB2.out.trans (hb3.mono hz2))
  have HS3 := Lib.hid (HS2.out.below hb3 hlt2)
  have hz3 := HB3.out.size
  have hlt3 : 0 < w3.heap.size := by omega
  clear ht3 hb3 HT2 HT1'
  have ht := HT1''.out
  obtain ⟨bk, rfl, hbl, hc⟩ := ht.at_ (by simp)
  have hlen := ht.len
  have hcap : C1 ≤ 9223372036854775807 := by have := ht.cap; unfold maxLen at this; omega
  simp only [List.length_append, List.length_cons, List.length_nil, Nat.zero_add] at hlen
  have hmax : acc.length + 1 ≤ 9223372036854775807 := by omega
  obtain ⟨c0, c1, c2, c3⟩ := hc acc.length ⟨0, M, [], 0⟩ (by simp)
  have hl2 : (acc ++ Y.map (later M)).length = acc.length + Y.length := by simp
  have hyl := HT2'.out.len
  have hyc : C2 ≤ 9223372036854775807 := HT2'.out.cap
  have hzl := HT3.out.len
  have hzc : C3 ≤ 9223372036854775807 := HT3.out.cap
  simp only [hl2] at hzl
  have hxc : C1 ≤ 9223372036854775807 := ht.cap
  have HC := Lib.hid hc
  clear hc ht hl2
  have q1 : ((acc.length : Int) + 1 == 0) = false := beq_no (by omega)
  have q2 : ((acc.length : Int) + (Y.length : Int) != (acc.length : Int) + 1 + (Y.length : Int) - 1) = false := by rw [bne_eq_false_iff_eq]; omega
  go_wp2_with fail
  clear c0 c1 c2 c3
  go_loopw [18] (fun i wr => ∃ k : Nat, k ≤ acc.length + Y.length ∧ i = .int .i64 k ∧ Below w3.heap.size w3 wr) (fun i _ => acc.length + Y.length - (intOf i).toNat)
  case atStart => exact ⟨0, Nat.zero_le _, rfl, Below.refl _ _⟩
  case round =>
    obtain ⟨k, hk, rfl, hbel⟩ := hrel
    have HB := Lib.hid hbel
    have hzr := hbel.size
    clear hbel
    by_cases hlt4 : k < acc.length + Y.length
    · have hne : acc ++ Y.map (later M) ≠ [] := fun e => by
        have h0 : (acc ++ Y.map (later M)).length = 0 := by rw [e]; rfl
        rw [List.length_append, List.length_map] at h0
        omega
      obtain ⟨b3, rfl, hb3l, hc3⟩ := HT3.out.at_ hne
      by_cases hka : k < acc.length
      · obtain ⟨⟨kd, ln, tx, nm⟩, ht⟩ : ∃ t, acc[k]? = some t := ⟨_, List.getElem?_eq_getElem hka⟩
        have hz := hc3 k _ (((joined_at acc Y M k).1 hka).trans ht)
        have hx := HC.out k _ ((List.getElem?_append_left hka).trans ht)
        have hcell : ∀ p : Addr, p.block < w3.heap.size → wr.cell? p = w3.cell? p := fun p hp => HB.out.cell hp
        obtain ⟨z0, z1, z2, z3⟩ := hz
        obtain ⟨x0, x1, x2, x3⟩ := hx
        have z0 := (hcell ⟨b3, _, none⟩ hb3l).trans z0
        have z1 := (hcell ⟨b3, _, none⟩ hb3l).trans z1
        have z2 := (hcell ⟨b3, _, none⟩ hb3l).trans z2
        have z3 := (hcell ⟨b3, _, none⟩ hb3l).trans z3
        have x0 := (hcell ⟨bk, _, none⟩ hbl).trans x0
        have x1 := (hcell ⟨bk, _, none⟩ hbl).trans x1
        have x2 := (hcell ⟨bk, _, none⟩ hbl).trans x2
        have x3 := (hcell ⟨bk, _, none⟩ hbl).trans x3
        clear hcell hc3 ht
        have n1 : bk < wr.heap.size := by omega
        have n2 : b3 < wr.heap.size := by omega
        clear hne
        go_wp2_with fail
        go_quiet (fail)
        go_wp2_with fail
        go_roundw
        case rel => exact ⟨k + 1, by omega, by go_num, below_drewN (HB.out.alloc hzr _) _⟩
        case measure => simp [intOf]; omega
      · obtain ⟨⟨kd, ln, tx, nm⟩, ht⟩ : ∃ t, Y[k - acc.length]? = some t := ⟨_, List.getElem?_eq_getElem (by omega)⟩
        have hz := hc3 k (later M ⟨kd, ln, tx, nm⟩) (by rw [(joined_at acc Y M k).2 (by omega), ht]; rfl)
        have hyne : Y ≠ [] := by rintro rfl; simp at ht
        obtain ⟨b2, rfl, hb2l, hc2⟩ := HT2'.out.at_ hyne
        have hx := hc2 _ _ ht
        have hln : ln ≤ 100000 := HY.out _ (List.mem_of_getElem? ht)
        have hcell : ∀ p : Addr, p.block < w3.heap.size → wr.cell? p = w3.cell? p := fun p hp => HB.out.cell hp
        obtain ⟨z0, z1, z2, z3⟩ := hz
        obtain ⟨x0, x1, x2, x3⟩ := hx
        have z0 := (hcell ⟨b3, _, none⟩ hb3l).trans z0
        have z1 := (hcell ⟨b3, _, none⟩ hb3l).trans z1
        have z2 := (hcell ⟨b3, _, none⟩ hb3l).trans z2
        have z3 := (hcell ⟨b3, _, none⟩ hb3l).trans z3
        have x0 := (hcell ⟨b2, _, none⟩ hb2l).trans x0
        have x1 := (hcell ⟨b2, _, none⟩ hb2l).trans x1
        have x2 := (hcell ⟨b2, _, none⟩ hb2l).trans x2
        have x3 := (hcell ⟨b2, _, none⟩ hb2l).trans x3
        obtain ⟨j, rfl⟩ : ∃ j, k = acc.length + j := ⟨k - acc.length, by omega⟩
        rw [Nat.add_sub_cancel_left] at x0 x1 x2 x3
        have hidx : ((acc.length : Int) + (j : Int) - ((acc.length : Int) + 1) + 1).toNat = j := by omega
        have y0 : wr.cell? ⟨b2, ((acc.length : Int) + (j : Int) - ((acc.length : Int) + 1) + 1).toNat * 4, none⟩ = some (.int .i64 kd) := by rw [hidx]; exact x0
        have y1 : wr.cell? ⟨b2, ((acc.length : Int) + (j : Int) - ((acc.length : Int) + 1) + 1).toNat * 4 + 1, none⟩ = some (.int .i64 ln) := by rw [hidx]; exact x1
        have y2 : wr.cell? ⟨b2, ((acc.length : Int) + (j : Int) - ((acc.length : Int) + 1) + 1).toNat * 4 + 2, none⟩ = some (.string ⟨tx.toArray⟩) := by rw [hidx]; exact x2
        have y3 : wr.cell? ⟨b2, ((acc.length : Int) + (j : Int) - ((acc.length : Int) + 1) + 1).toNat * 4 + 3, none⟩ = some (.int .i64 nm) := by rw [hidx]; exact x3
        have z1' : wr.cell? ⟨b3, (acc.length + j) * 4 + 1, none⟩ = some (.int .i64 ((ln : Int) + (M : Int))) := z1
        have n1 : b2 < wr.heap.size := by omega
        have n2 : b3 < wr.heap.size := by omega
        have hj : j < Y.length := by omega
        clear hcell hc3 hc2 ht hne hyne hka hidx x0 x1 x2 x3 z1
        dsimp only [later] at z0 z2 z3
        go_wp2_with fail
        go_quiet (fail)
        go_wp2_with fail
        go_roundw
        case rel => exact ⟨acc.length + j + 1, by omega, by go_num, below_drewN (HB.out.alloc hzr _) _⟩
        case measure => simp [intOf]; omega
    · obtain rfl : k = acc.length + Y.length := by omega
      go_wp2_with fail
      refine (known_any wr (HS3.out.below HB.out hlt3)).mono ?_
      rintro e w5 ⟨rfl, hb5⟩
      go_wp2_with fail
      go_ret
      exact ⟨rfl, (HB3.out.trans (HB.out.mono hz3)).trans (hb5.mono (by omega))⟩

theorem joins_any (a b : ByteArray) (w : World) (hS : SignsAt w) (ha : a.size ≤ 140737488355328) (hb : b.size ≤ 140737488355328) :
    Calls Tryd.prog 6 #[.string a, .string b] w fun e w' => e = .returned (.bool true) ∧ Below w.heap.size w w' := by
  by_cases h : 2000 < a.size + b.size
  · exact joins_long a b w hS ha hb h
  have h' : a.size + b.size ≤ 2000 := by omega
  have hla : a.data.toList.length = a.size := by simp
  have hlb : b.data.toList.length = b.size := by simp
  have hj := scan_join a.data.toList b.data.toList (by omega)
  rw [← join_list a b] at hj
  have hzs := join_size a b h'
  obtain ⟨z, HZ⟩ : ∃ z, Hid ((a ++ ⟨#[10]⟩) ++ b = z) := ⟨_, Lib.hid rfl⟩
  rw [HZ.out] at hj hzs
  have hba := scan_bounds a.data.toList
  have hbb := scan_bounds b.data.toList
  obtain ⟨⟨X, la, e⟩, hX⟩ : ∃ R, scan a.data.toList = R := ⟨_, rfl⟩
  obtain ⟨⟨Y, lb, f⟩, hY⟩ : ∃ R, scan b.data.toList = R := ⟨_, rfl⟩
  obtain ⟨⟨Z, lz, g⟩, hZ⟩ : ∃ R, scan z.data.toList = R := ⟨_, rfl⟩
  rw [hX] at hba
  rw [hY] at hbb
  rw [hX, hY, hZ] at hj
  simp only at hj hba hbb
  by_cases he : e = 0
  · obtain ⟨acc, M, h1, h2, h3⟩ := hj.2 he
    injection h1 with e1 e2
    injection e2 with e2 e3
    subst e1; subst e2; subst e3
    have hM : M ≤ a.size + 1 := by
      have := hba.2.2 ⟨0, M, [], 0⟩ (by simp)
      simp only at this; omega
    have hacc : acc.length ≤ a.size := by
      have := hba.2.1
      simp only [List.length_append, List.length_cons, List.length_nil] at this; omega
    by_cases hf : f = 0
    · subst hf
      have hz := h3 rfl
      injection hz with z1 z2
      injection z2 with z2 z3
      subst z1; subst z2; subst z3
      have hl0 : lb = 0 := scan_ok hY
      subst hl0
      exact joins_both a b w hS h' acc Y M (Lib.hid hX) (Lib.hid hY) z HZ hzs (Lib.hid hZ) (by omega) (fun t ht => by have := hbb.2.2 t ht; omega) (by omega) (by omega)
    · have hz := h2 hf
      injection hz with z1 z2
      injection z2 with z2 z3
      subst z1; subst z2; subst z3
      exact joins_second a b w hS h' acc Y [] lb M _ (Lib.hid hX) (Lib.hid hY) z HZ hzs (Lib.hid hZ) (by omega) (by omega) (by omega)
  · have hg := hj.1 he
    exact joins_first a b w hS h' X Y Z la lb lz e f g (Lib.hid hX) (Lib.hid hY) z HZ hzs (Lib.hid hZ) (by omega) (by omega)
end Go.Proofs.YtbkmpamcelphgaaDoor
