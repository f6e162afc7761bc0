/-
  The law ParserNest, walked, one of its four tables: it answers true. Condition: the packages' variables.
-/
import Derived.Test.YtpbnelkbmlkdaaaDoorZLn
import Derived.IntWalk
namespace Go.Proofs.YtpbnelkbmlkdaaaDoor
open Go.RowKit
set_option maxHeartbeats 8000000 in
set_option maxRecDepth 100000 in
theorem nest_2_0_0 (n how : Int) (w : World) (hV : VarsAt w) (h1 : n < 9223372036854775808) (h2 : how < 9223372036854775808) (k km : Nat) (hk : 1 ≤ k) (hk2 : k ≤ 11) (hkm : (k : Int) - 1 = (km : Int)) (hn : Hid (n % 11 = (k : Int) - 1)) (hh : Hid (how % 4 = 2)) (hbk : ¬ 8 < k) (hc1 : codeOf (parseP 400 (valSrc (nestS 2 k))) = 0) (hc2 : codeOf (parseP 2000 (blockS k)) = 0) :
    Calls Tryd.prog 5 #[.int .i64 n, .int .i64 how] w fun e w' => e = .returned (.bool true) ∧ Below w.heap.size w w' := by
  have HV := Lib.hid hV
  have HKM := Lib.hid hkm
  have hkn : k - 1 = km := by omega
  have HKN := Lib.hid hkn
  have hkm9 : km ≤ 10 := by omega
  clear hV hkm hkn
  go_enter Tryd.func5, Tryd.ntmps5
  go_wp2_with fail
  refine (mod_any n 11 w h1 (by decide) (by decide) ((k : Int) - 1) hn).mono ?_
  rintro e w' ⟨rfl, rfl⟩
  have hk1 : (1 : Int) + ((k : Int) - 1) = (k : Int) := by omega
  go_wp2_with fail
  refine (mod_any how 4 _ h2 (by decide) (by decide) 2 hh).mono ?_
  rintro e w1 ⟨rfl, hw1⟩
  subst hw1
  go_wp2_with fail
  have hb0 : Below w.heap.size w ((w.alloc (.cells #[.string ⟨#[40]⟩, .string ⟨#[41]⟩, .string ⟨#[45]⟩, .string ⟨#[]⟩, .string ⟨#[116, 91]⟩, .string ⟨#[93]⟩, .string ⟨#[33, 40]⟩, .string ⟨#[41]⟩] 37)).alloc (.cells #[.string ⟨#[116, 91]⟩, .string ⟨#[93]⟩] 37)) := ((Below.refl _ w).alloc (Nat.le_refl _) _).alloc (by simp) _
  have e0 := heap_alloc_new (w.alloc (.cells #[.string ⟨#[40]⟩, .string ⟨#[41]⟩, .string ⟨#[45]⟩, .string ⟨#[]⟩, .string ⟨#[116, 91]⟩, .string ⟨#[93]⟩, .string ⟨#[33, 40]⟩, .string ⟨#[41]⟩] 37)) (.cells #[.string ⟨#[116, 91]⟩, .string ⟨#[93]⟩] 37)
  rw [World.size_alloc] at e0
  obtain ⟨w0, HW0⟩ : ∃ U, Hid (((w.alloc (.cells #[.string ⟨#[40]⟩, .string ⟨#[41]⟩, .string ⟨#[45]⟩, .string ⟨#[]⟩, .string ⟨#[116, 91]⟩, .string ⟨#[93]⟩, .string ⟨#[33, 40]⟩, .string ⟨#[41]⟩] 37)).alloc (.cells #[.string ⟨#[116, 91]⟩, .string ⟨#[93]⟩] 37)) = U) := ⟨_, Lib.hid rfl⟩
  rw [HW0.out] at hb0 e0 ⊢
  have hl0 := (Array.getElem?_eq_some_iff.1 e0).1
  have hl1 := hb0.size
  have HB0 := Lib.hid hb0
  have E0 := Lib.hid e0
  have HV0 := Lib.hid (HV.out.below hb0)
  clear hb0 e0
  have r1 : (rep [116, 91] k).length ≤ 1000 := by rw [rep_length]; simp; omega
  have r2 : (rep [93] k).length ≤ 1000 := by rw [rep_length]; simp; try omega
  have r3 : (rep [119, 104, 105, 108, 101, 32, 49, 32, 123, 32] km).length ≤ 1000 := by rw [rep_length]; simp; omega
  have r4 : (rep [32, 125] k).length ≤ 1000 := by rw [rep_length]; simp; omega
  have hlen : (nestS 2 k).length ≤ 10000 := by
    unfold nestS
    rw [List.length_append, List.length_append, show nestL 2 = [116, 91] from rfl, show nestR 2 = [93] from rfl]
    have : ([97] : List UInt8).length = 1 := rfl
    omega
  have HLEN := Lib.hid hlen
  clear hlen
  have hbe : (⟨(rep [116, 91] k).toArray⟩ : ByteArray) ++ ⟨#[97]⟩ ++ ⟨(rep [93] k).toArray⟩ = ⟨(nestS 2 k).toArray⟩ := by
    rw [show (⟨#[97]⟩ : ByteArray) = ⟨([97] : List UInt8).toArray⟩ from rfl, bytes_append, bytes_append]
    unfold nestS
    rw [List.append_assoc]
    rfl
  have HBE := Lib.hid hbe
  clear hbe
  have t1 := catL ⟨(rep [116, 91] k).toArray⟩ ⟨#[97]⟩ (by simp [ByteArray.size]; omega)
  have t2 := catL (⟨(rep [116, 91] k).toArray⟩ ++ ⟨#[97]⟩) ⟨(rep [93] k).toArray⟩ (by simp [ByteArray.size]; omega)
  have hlb : (blockS k).length ≤ 10000 := by
    unfold blockS
    rw [HKN.out]
    simp only [List.length_append, List.length_cons, List.length_nil]
    omega
  have hbb : (⟨#[102, 117, 110, 99, 32, 102, 40, 41, 10, 123, 32]⟩ : ByteArray) ++ ⟨(rep [119, 104, 105, 108, 101, 32, 49, 32, 123, 32] km).toArray⟩ ++ ⟨#[112, 114, 105, 110, 116, 32, 49, 59]⟩ ++ ⟨(rep [32, 125] k).toArray⟩ = ⟨(blockS k).toArray⟩ := by
    unfold blockS
    rw [HKN.out]
    apply ByteArray.ext
    apply Array.ext'
    simp
  have HLB := Lib.hid hlb
  have HBB := Lib.hid hbb
  clear hlb hbb
  have HC1 := Lib.hid hc1
  have HC2 := Lib.hid hc2
  clear hc1 hc2
  have tb : ¬ (8 : Int) < (k : Int) := by omega
  clear hbk
  refine wp_region_O (S := fun w' => w'.cell? ⟨w.heap.size + 1, 0, none⟩ = some (.string ⟨#[116, 91]⟩) ∧ w'.cell? ⟨w.heap.size + 1, 1, none⟩ = some (.string ⟨#[93]⟩)) (L := [1, 3, 4, 6, 8, 14]) (by kernel_rfl) ?_
  refine wpAnyO_late (i := 0) (v := ?_) rfl (by kernel_rfl) (by kernel_rfl) (by kernel_rfl) (by kernel_rfl) (fun _ _ _ h => h) (Or.inl ⟨by rfl, ?_⟩) ?_
  rotate_left 1
  · intro w hSw
    clear hSw
    (go_simp) <;> (with_reducible rfl)
  (try simp only [Act.put]); (try simp only [List.getElem_toArray]); (try simp only [List.getElem_cons_succ]); (try simp only [List.getElem_cons_zero]); (try simp only [List.setIfInBounds_toArray]); (try simp only [List.set_cons_succ]); (try simp only [List.set_cons_zero])
  refine wpAnyO_late (i := 2) (v := ?_) rfl (by kernel_rfl) (by kernel_rfl) (by kernel_rfl) (by kernel_rfl) (fun _ _ _ h => h) (Or.inl ⟨by rfl, ?_⟩) ?_
  rotate_left 1
  · intro w hSw
    clear hSw
    (go_simp) <;> (with_reducible rfl)
  (try simp only [Act.put]); (try simp only [List.getElem_toArray]); (try simp only [List.getElem_cons_succ]); (try simp only [List.getElem_cons_zero]); (try simp only [List.setIfInBounds_toArray]); (try simp only [List.set_cons_succ]); (try simp only [List.set_cons_zero])
  refine wpAnyO_late (i := 5) (v := ?_) rfl (by kernel_rfl) (by kernel_rfl) (by kernel_rfl) (by kernel_rfl) (fun _ _ _ h => h) (Or.inl ⟨by rfl, ?_⟩) ?_
  rotate_left 1
  · intro w hSw
    clear hSw
    (go_simp) <;> (with_reducible rfl)
  (try simp only [Act.put]); (try simp only [List.getElem_toArray]); (try simp only [List.getElem_cons_succ]); (try simp only [List.getElem_cons_zero]); (try simp only [List.setIfInBounds_toArray]); (try simp only [List.set_cons_succ]); (try simp only [List.set_cons_zero])
  refine wpAnyO_late (i := 7) (v := ?_) rfl (by kernel_rfl) (by kernel_rfl) (by kernel_rfl) (by kernel_rfl) (fun _ _ _ h => h) (Or.inl ⟨by rfl, ?_⟩) ?_
  rotate_left 1
  · intro w hSw
    clear hSw
    (go_simp) <;> (with_reducible rfl)
  (try simp only [Act.put]); (try simp only [List.getElem_toArray]); (try simp only [List.getElem_cons_succ]); (try simp only [List.getElem_cons_zero]); (try simp only [List.setIfInBounds_toArray]); (try simp only [List.set_cons_succ]); (try simp only [List.set_cons_zero])
  refine wpAnyO_takeT (i := 1) (v := ?_) rfl (by kernel_rfl) (by kernel_rfl) (by kernel_rfl) (by kernel_rfl) (by kernel_rfl) (fun _ _ _ h => h) (Or.inl ⟨by rfl, ?_⟩) (show w0.drew.cell? ⟨w.heap.size + 1, 0, none⟩ = some (.string ⟨#[116, 91]⟩) ∧ w0.drew.cell? ⟨w.heap.size + 1, 1, none⟩ = some (.string ⟨#[93]⟩) from cells_two E0.out) ?_
  rotate_left 1
  · intro w' hSw
    (try dsimp only at hSw)
    obtain ⟨hs0, hs1⟩ := hSw
    (go_simp) <;> (with_reducible rfl)
  (try simp only [Act.put]); (try simp only [List.getElem_toArray]); (try simp only [List.getElem_cons_succ]); (try simp only [List.getElem_cons_zero]); (try simp only [List.setIfInBounds_toArray]); (try simp only [List.set_cons_succ]); (try simp only [List.set_cons_zero])
  refine wpAnyO_takeT (i := 6) (v := ?_) rfl (by kernel_rfl) (by kernel_rfl) (by kernel_rfl) (by kernel_rfl) (by kernel_rfl) (fun _ _ _ h => h) (Or.inl ⟨by rfl, ?_⟩) (show w0.drew.cell? ⟨w.heap.size + 1, 0, none⟩ = some (.string ⟨#[116, 91]⟩) ∧ w0.drew.cell? ⟨w.heap.size + 1, 1, none⟩ = some (.string ⟨#[93]⟩) from cells_two E0.out) ?_
  rotate_left 1
  · intro w' hSw
    (try dsimp only at hSw)
    obtain ⟨hs0, hs1⟩ := hSw
    (go_simp) <;> (with_reducible rfl)
  (try simp only [Act.put]); (try simp only [List.getElem_toArray]); (try simp only [List.getElem_cons_succ]); (try simp only [List.getElem_cons_zero]); (try simp only [List.setIfInBounds_toArray]); (try simp only [List.set_cons_succ]); (try simp only [List.set_cons_zero])
  have hbd := (HB0.out).drew
  have hed : w0.drew.heap[w.heap.size + 1]? = some (.cells #[.string ⟨#[116, 91]⟩, .string ⟨#[93]⟩] 37 (0, 0)) := E0.out
  obtain ⟨wd, HWD⟩ : ∃ U, Hid (w0.drew = U) := ⟨_, Lib.hid rfl⟩
  rw [HWD.out] at hbd hed ⊢
  have hlc := (Array.getElem?_eq_some_iff.1 hed).1
  have HB := Lib.hid hbd
  have EC := Lib.hid hed
  have HVD := Lib.hid (HV.out.below hbd)
  clear hbd hed
  refine wpAnyO_ready (rs := [3, 14]) (by kernel_rfl) (by simp) (AllO.cons rfl (fun K hK => ?_) (AllO.cons rfl (fun K hK => ?_) AllO.nil))
  · go_simp
    refine (repeat_any [116, 91] k _ (by omega) (by decide)).mono ?_
    rintro e w' ⟨rfl, rfl⟩
    refine hK.out _ _ (fun _ => cells_two EC.out) ?_
    clear hK K
    (try dsimp only); (try simp only [List.getElem_toArray]); (try simp only [List.getElem_cons_succ]); (try simp only [List.getElem_cons_zero]); (try simp only [List.setIfInBounds_toArray]); (try simp only [List.set_cons_succ]); (try simp only [List.set_cons_zero])
    refine wpAnyO_takeT (i := 4) (v := ?_) rfl (by kernel_rfl) (by kernel_rfl) (by kernel_rfl) (by kernel_rfl) (by kernel_rfl) (fun _ _ _ h => h) (Or.inl ⟨by rfl, ?_⟩) (show wd.cell? ⟨w.heap.size + 1, 0, none⟩ = some (.string ⟨#[116, 91]⟩) ∧ wd.cell? ⟨w.heap.size + 1, 1, none⟩ = some (.string ⟨#[93]⟩) from cells_two EC.out) ?_
    rotate_left 1
    · intro w' hSw
      clear hSw
      (go_simp) <;> (with_reducible rfl)
    (try simp only [Act.put]); (try simp only [List.getElem_toArray]); (try simp only [List.getElem_cons_succ]); (try simp only [List.getElem_cons_zero]); (try simp only [List.setIfInBounds_toArray]); (try simp only [List.set_cons_succ]); (try simp only [List.set_cons_zero])
    refine wpAnyO_ready (rs := [8, 14]) (by kernel_rfl) (by simp) (AllO.cons rfl (fun K hK => ?_) (AllO.cons rfl (fun K hK => ?_) AllO.nil))
    · go_simp
      refine (repeat_any [93] k _ (by omega) (by decide)).mono ?_
      rintro e w' ⟨rfl, rfl⟩
      refine hK.out _ _ (fun _ => cells_two EC.out) ?_
      clear hK K
      (try dsimp only); (try simp only [List.getElem_toArray]); (try simp only [List.getElem_cons_succ]); (try simp only [List.getElem_cons_zero]); (try simp only [List.setIfInBounds_toArray]); (try simp only [List.set_cons_succ]); (try simp only [List.set_cons_zero])
      refine wpAnyO_late (i := 9) (v := ?_) rfl (by kernel_rfl) (by kernel_rfl) (by kernel_rfl) (by kernel_rfl) (fun _ _ _ h => h) (Or.inl ⟨by rfl, ?_⟩) ?_
      rotate_left 1
      · intro w hSw
        clear hSw
        (go_simp) <;> (with_reducible rfl)
      (try simp only [Act.put]); (try simp only [List.getElem_toArray]); (try simp only [List.getElem_cons_succ]); (try simp only [List.getElem_cons_zero]); (try simp only [List.setIfInBounds_toArray]); (try simp only [List.set_cons_succ]); (try simp only [List.set_cons_zero])
      refine wpAnyO_ready (rs := [10, 14]) (by kernel_rfl) (by simp) (AllO.cons rfl (fun K hK => ?_) (AllO.cons rfl (fun K hK => ?_) AllO.nil))
      · go_simp
        refine (value_code HVD.out (nestS 2 k) HLEN.out 0 HC1.out (by decide) _ HBE.out).mono ?_
        rintro e w2 ⟨p, q, hp, hq, ⟨a1, n1, d1, a2, n2, d2, rfl, rfl⟩, rfl, hb2⟩
        clear hp hq
        have hs2 := hb2.size
        have HB2 := Lib.hid (HB.out.trans (hb2.mono (by have := HB.out.size; omega)))
        have EC2 := Lib.hid ((hb2.block (w.heap.size + 1) hlc).trans EC.out)
        clear hb2
        refine hK.out _ _ (fun hh => absurd hh (by decide)) ?_
        clear hK K
        (try dsimp only); (try simp only [List.getElem_toArray]); (try simp only [List.getElem_cons_succ]); (try simp only [List.getElem_cons_zero]); (try simp only [List.setIfInBounds_toArray]); (try simp only [List.set_cons_succ]); (try simp only [List.set_cons_zero])
        refine wpAnyO_late (i := 11) (v := ?_) rfl (by kernel_rfl) (by kernel_rfl) (by kernel_rfl) (by kernel_rfl) (fun _ _ _ h => h) (Or.inl ⟨by rfl, ?_⟩) ?_
        rotate_left 1
        · intro w hSw
          clear hSw
          (go_simp) <;> (with_reducible rfl)
        (try simp only [Act.put]); (try simp only [List.getElem_toArray]); (try simp only [List.getElem_cons_succ]); (try simp only [List.getElem_cons_zero]); (try simp only [List.setIfInBounds_toArray]); (try simp only [List.set_cons_succ]); (try simp only [List.set_cons_zero])
        refine wpAnyO_late (i := 12) (v := ?_) rfl (by kernel_rfl) (by kernel_rfl) (by kernel_rfl) (by kernel_rfl) (fun _ _ _ h => h) (Or.inl ⟨by rfl, ?_⟩) ?_
        rotate_left 1
        · intro w hSw
          clear hSw
          (go_simp) <;> (with_reducible rfl)
        (try simp only [Act.put]); (try simp only [List.getElem_toArray]); (try simp only [List.getElem_cons_succ]); (try simp only [List.getElem_cons_zero]); (try simp only [List.setIfInBounds_toArray]); (try simp only [List.set_cons_succ]); (try simp only [List.set_cons_zero])
        refine wpAnyO_late (i := 13) (v := ?_) rfl (by kernel_rfl) (by kernel_rfl) (by kernel_rfl) (by kernel_rfl) (fun _ _ _ h => h) (Or.inl ⟨by rfl, ?_⟩) ?_
        rotate_left 1
        · intro w hSw
          clear hSw
          (go_simp) <;> (with_reducible rfl)
        (try simp only [Act.put]); (try simp only [List.getElem_toArray]); (try simp only [List.getElem_cons_succ]); (try simp only [List.getElem_cons_zero]); (try simp only [List.setIfInBounds_toArray]); (try simp only [List.set_cons_succ]); (try simp only [List.set_cons_zero])
        refine wpAnyO_ready (rs := [14]) (by kernel_rfl) (by simp) (AllO.cons rfl (fun K hK => ?_) AllO.nil)
        go_simp
        have qz := heap_alloc_new w2 (.cells #[.slice none 0 0, .slice none 0 0] 28)
        have qb := HB2.out.alloc HB2.out.size (.cells #[.slice none 0 0, .slice none 0 0] 28)
        have qe := held_alloc (.cells #[.slice none 0 0, .slice none 0 0] 28) EC2.out
        obtain ⟨wa, HWA⟩ : ∃ U, Hid (w2.alloc (.cells #[.slice none 0 0, .slice none 0 0] 28) = U) := ⟨_, Lib.hid rfl⟩
        rw [HWA.out] at qz qb qe ⊢
        have EZ2 := Lib.hid qz
        have HB3 := Lib.hid qb
        have EE := Lib.hid qe
        have hzz := HB2.out.size
        clear qz qb qe
        refine hK.out _ _ (fun _ => cells_two EE.out) ?_
        clear hK K
        (try dsimp only); (try simp only [List.getElem_toArray]); (try simp only [List.getElem_cons_succ]); (try simp only [List.getElem_cons_zero]); (try simp only [List.setIfInBounds_toArray]); (try simp only [List.set_cons_succ]); (try simp only [List.set_cons_zero])
        refine wpAnyO_ready (rs := [15]) (by kernel_rfl) (by simp) (AllO.cons rfl (fun K hK => ?_) AllO.nil)
        rw [if_pos (by rfl)]
        refine wp_store_all 28 _ _ rfl w2.heap.size _ #[.slice a1 n1 d1, .slice a2 n2 d2] rfl rfl EZ2.out rfl (by kernel_rfl) (by simp [Value.oneCell']) ?_
        intro w3 hU
        have HB4 := Lib.hid (below_setC HB3.out (by have := HB.out.size; omega) hU)
        clear hU
        refine hK.out _ _ (fun hh => absurd hh (by decide)) ?_
        clear hK K
        (try dsimp only); (try simp only [List.getElem_toArray]); (try simp only [List.getElem_cons_succ]); (try simp only [List.getElem_cons_zero]); (try simp only [List.setIfInBounds_toArray]); (try simp only [List.set_cons_succ]); (try simp only [List.set_cons_zero])
        refine wpAnyO_late (i := 16) (v := ?_) rfl (by kernel_rfl) (by kernel_rfl) (by kernel_rfl) (by kernel_rfl) (fun _ _ _ h => h) (Or.inl ⟨by rfl, ?_⟩) ?_
        rotate_left 1
        · intro w hSw
          clear hSw
          (go_simp) <;> (with_reducible rfl)
        (try simp only [Act.put]); (try simp only [List.getElem_toArray]); (try simp only [List.getElem_cons_succ]); (try simp only [List.getElem_cons_zero]); (try simp only [List.setIfInBounds_toArray]); (try simp only [List.set_cons_succ]); (try simp only [List.set_cons_zero])
        refine wpAnyO_done (by kernel_rfl) ?_ _
        have HV3 := Lib.hid (HV.out.below HB4.out)
        have hkm := HKM.out
        go_wp2_with fail
        refine (repeat_any [119, 104, 105, 108, 101, 32, 49, 32, 123, 32] km _ (by omega) (by decide)).mono ?_
        rintro e w' ⟨rfl, rfl⟩
        go_wp2_with fail
        refine (repeat_any [32, 125] k _ (by omega) (by decide)).mono ?_
        rintro e w' ⟨rfl, rfl⟩
        go_wp2_with fail
        refine (parse_code HV3.out (blockS k) HLB.out 0 HC2.out (by decide) _ HBB.out).mono ?_
        rintro e w5 ⟨p', q', l', ⟨b1, m1, g1, b2, m2, g2, rfl, rfl⟩, rfl, hb5⟩
        have hs5 := HB4.out.size
        have HB5 := Lib.hid (HB4.out.trans (hb5.mono hs5))
        have HV5 := Lib.hid (HV3.out.below hb5)
        clear hb5
        go_wp2_with fail
        refine (known_any (HV5.out.alloc _)).mono ?_
        rintro e w6 ⟨rfl, hb6⟩
        have hs6 := HB5.out.size
        have HB6 := Lib.hid ((HB5.out.alloc hs6 _).trans (hb6.mono (by simp; omega)))
        clear hb6
        go_wp2_with fail
        go_ret
        exact ⟨rfl, HB6.out⟩
      · go_simp
        have qa := held_alloc (.cells #[.slice none 0 0, .slice none 0 0] 28) EC.out
        have qz := heap_alloc_new wd (.cells #[.slice none 0 0, .slice none 0 0] 28)
        have qb := HB.out.alloc HB.out.size (.cells #[.slice none 0 0, .slice none 0 0] 28)
        obtain ⟨wa, HWA⟩ : ∃ U, Hid (wd.alloc (.cells #[.slice none 0 0, .slice none 0 0] 28) = U) := ⟨_, Lib.hid rfl⟩
        rw [HWA.out] at qa qz qb ⊢
        have EA := Lib.hid qa
        have EZ := Lib.hid qz
        have HBA := Lib.hid qb
        have HVA := Lib.hid (HV.out.below qb)
        have hla := (Array.getElem?_eq_some_iff.1 qz).1
        clear qa qz qb
        refine hK.out _ _ (fun _ => cells_two EA.out) ?_
        clear hK K
        (try dsimp only); (try simp only [List.getElem_toArray]); (try simp only [List.getElem_cons_succ]); (try simp only [List.getElem_cons_zero]); (try simp only [List.setIfInBounds_toArray]); (try simp only [List.set_cons_succ]); (try simp only [List.set_cons_zero])
        refine wpAnyO_ready (rs := [10]) (by kernel_rfl) (by simp) (AllO.cons rfl (fun K hK => ?_) AllO.nil)
        go_simp
        refine (value_code HVA.out (nestS 2 k) HLEN.out 0 HC1.out (by decide) _ HBE.out).mono ?_
        rintro e w2 ⟨p, q, hp, hq, ⟨a1, n1, d1, a2, n2, d2, rfl, rfl⟩, rfl, hb2⟩
        clear hp hq
        have EZ2 := Lib.hid ((hb2.block wd.heap.size hla).trans EZ.out)
        have hs2 := hb2.size
        have HB2 := Lib.hid (HBA.out.trans (hb2.mono (by have := HBA.out.size; omega)))
        clear hb2
        refine hK.out _ _ (fun hh => absurd hh (by decide)) ?_
        clear hK K
        (try dsimp only); (try simp only [List.getElem_toArray]); (try simp only [List.getElem_cons_succ]); (try simp only [List.getElem_cons_zero]); (try simp only [List.setIfInBounds_toArray]); (try simp only [List.set_cons_succ]); (try simp only [List.set_cons_zero])
        refine wpAnyO_late (i := 11) (v := ?_) rfl (by kernel_rfl) (by kernel_rfl) (by kernel_rfl) (by kernel_rfl) (fun _ _ _ h => h) (Or.inl ⟨by rfl, ?_⟩) ?_
        rotate_left 1
        · intro w hSw
          clear hSw
          (go_simp) <;> (with_reducible rfl)
        (try simp only [Act.put]); (try simp only [List.getElem_toArray]); (try simp only [List.getElem_cons_succ]); (try simp only [List.getElem_cons_zero]); (try simp only [List.setIfInBounds_toArray]); (try simp only [List.set_cons_succ]); (try simp only [List.set_cons_zero])
        refine wpAnyO_late (i := 12) (v := ?_) rfl (by kernel_rfl) (by kernel_rfl) (by kernel_rfl) (by kernel_rfl) (fun _ _ _ h => h) (Or.inl ⟨by rfl, ?_⟩) ?_
        rotate_left 1
        · intro w hSw
          clear hSw
          (go_simp) <;> (with_reducible rfl)
        (try simp only [Act.put]); (try simp only [List.getElem_toArray]); (try simp only [List.getElem_cons_succ]); (try simp only [List.getElem_cons_zero]); (try simp only [List.setIfInBounds_toArray]); (try simp only [List.set_cons_succ]); (try simp only [List.set_cons_zero])
        refine wpAnyO_late (i := 13) (v := ?_) rfl (by kernel_rfl) (by kernel_rfl) (by kernel_rfl) (by kernel_rfl) (fun _ _ _ h => h) (Or.inl ⟨by rfl, ?_⟩) ?_
        rotate_left 1
        · intro w hSw
          clear hSw
          (go_simp) <;> (with_reducible rfl)
        (try simp only [Act.put]); (try simp only [List.getElem_toArray]); (try simp only [List.getElem_cons_succ]); (try simp only [List.getElem_cons_zero]); (try simp only [List.setIfInBounds_toArray]); (try simp only [List.set_cons_succ]); (try simp only [List.set_cons_zero])
        have HB3 := HB2
        refine wpAnyO_ready (rs := [15]) (by kernel_rfl) (by simp) (AllO.cons rfl (fun K hK => ?_) AllO.nil)
        rw [if_pos (by rfl)]
        refine wp_store_all 28 _ _ rfl wd.heap.size _ #[.slice a1 n1 d1, .slice a2 n2 d2] rfl rfl EZ2.out rfl (by kernel_rfl) (by simp [Value.oneCell']) ?_
        intro w3 hU
        have HB4 := Lib.hid (below_setC HB3.out (by have := HB.out.size; omega) hU)
        clear hU
        refine hK.out _ _ (fun hh => absurd hh (by decide)) ?_
        clear hK K
        (try dsimp only); (try simp only [List.getElem_toArray]); (try simp only [List.getElem_cons_succ]); (try simp only [List.getElem_cons_zero]); (try simp only [List.setIfInBounds_toArray]); (try simp only [List.set_cons_succ]); (try simp only [List.set_cons_zero])
        refine wpAnyO_late (i := 16) (v := ?_) rfl (by kernel_rfl) (by kernel_rfl) (by kernel_rfl) (by kernel_rfl) (fun _ _ _ h => h) (Or.inl ⟨by rfl, ?_⟩) ?_
        rotate_left 1
        · intro w hSw
          clear hSw
          (go_simp) <;> (with_reducible rfl)
        (try simp only [Act.put]); (try simp only [List.getElem_toArray]); (try simp only [List.getElem_cons_succ]); (try simp only [List.getElem_cons_zero]); (try simp only [List.setIfInBounds_toArray]); (try simp only [List.set_cons_succ]); (try simp only [List.set_cons_zero])
        refine wpAnyO_done (by kernel_rfl) ?_ _
        have HV3 := Lib.hid (HV.out.below HB4.out)
        have hkm := HKM.out
        go_wp2_with fail
        refine (repeat_any [119, 104, 105, 108, 101, 32, 49, 32, 123, 32] km _ (by omega) (by decide)).mono ?_
        rintro e w' ⟨rfl, rfl⟩
        go_wp2_with fail
        refine (repeat_any [32, 125] k _ (by omega) (by decide)).mono ?_
        rintro e w' ⟨rfl, rfl⟩
        go_wp2_with fail
        refine (parse_code HV3.out (blockS k) HLB.out 0 HC2.out (by decide) _ HBB.out).mono ?_
        rintro e w5 ⟨p', q', l', ⟨b1, m1, g1, b2, m2, g2, rfl, rfl⟩, rfl, hb5⟩
        have hs5 := HB4.out.size
        have HB5 := Lib.hid (HB4.out.trans (hb5.mono hs5))
        have HV5 := Lib.hid (HV3.out.below hb5)
        clear hb5
        go_wp2_with fail
        refine (known_any (HV5.out.alloc _)).mono ?_
        rintro e w6 ⟨rfl, hb6⟩
        have hs6 := HB5.out.size
        have HB6 := Lib.hid ((HB5.out.alloc hs6 _).trans (hb6.mono (by simp; omega)))
        clear hb6
        go_wp2_with fail
        go_ret
        exact ⟨rfl, HB6.out⟩
    · go_simp
      have qa := held_alloc (.cells #[.slice none 0 0, .slice none 0 0] 28) EC.out
      have qz := heap_alloc_new wd (.cells #[.slice none 0 0, .slice none 0 0] 28)
      have qb := HB.out.alloc HB.out.size (.cells #[.slice none 0 0, .slice none 0 0] 28)
      obtain ⟨wa, HWA⟩ : ∃ U, Hid (wd.alloc (.cells #[.slice none 0 0, .slice none 0 0] 28) = U) := ⟨_, Lib.hid rfl⟩
      rw [HWA.out] at qa qz qb ⊢
      have EA := Lib.hid qa
      have EZ := Lib.hid qz
      have HBA := Lib.hid qb
      have HVA := Lib.hid (HV.out.below qb)
      have hla := (Array.getElem?_eq_some_iff.1 qz).1
      clear qa qz qb
      refine hK.out _ _ (fun _ => cells_two EA.out) ?_
      clear hK K
      (try dsimp only); (try simp only [List.getElem_toArray]); (try simp only [List.getElem_cons_succ]); (try simp only [List.getElem_cons_zero]); (try simp only [List.setIfInBounds_toArray]); (try simp only [List.set_cons_succ]); (try simp only [List.set_cons_zero])
      refine wpAnyO_ready (rs := [8]) (by kernel_rfl) (by simp) (AllO.cons rfl (fun K hK => ?_) AllO.nil)
      go_simp
      refine (repeat_any [93] k _ (by omega) (by decide)).mono ?_
      rintro e w' ⟨rfl, rfl⟩
      refine hK.out _ _ (fun _ => cells_two EA.out) ?_
      clear hK K
      (try dsimp only); (try simp only [List.getElem_toArray]); (try simp only [List.getElem_cons_succ]); (try simp only [List.getElem_cons_zero]); (try simp only [List.setIfInBounds_toArray]); (try simp only [List.set_cons_succ]); (try simp only [List.set_cons_zero])
      refine wpAnyO_late (i := 9) (v := ?_) rfl (by kernel_rfl) (by kernel_rfl) (by kernel_rfl) (by kernel_rfl) (fun _ _ _ h => h) (Or.inl ⟨by rfl, ?_⟩) ?_
      rotate_left 1
      · intro w hSw
        clear hSw
        (go_simp) <;> (with_reducible rfl)
      (try simp only [Act.put]); (try simp only [List.getElem_toArray]); (try simp only [List.getElem_cons_succ]); (try simp only [List.getElem_cons_zero]); (try simp only [List.setIfInBounds_toArray]); (try simp only [List.set_cons_succ]); (try simp only [List.set_cons_zero])
      refine wpAnyO_ready (rs := [10]) (by kernel_rfl) (by simp) (AllO.cons rfl (fun K hK => ?_) AllO.nil)
      go_simp
      refine (value_code HVA.out (nestS 2 k) HLEN.out 0 HC1.out (by decide) _ HBE.out).mono ?_
      rintro e w2 ⟨p, q, hp, hq, ⟨a1, n1, d1, a2, n2, d2, rfl, rfl⟩, rfl, hb2⟩
      clear hp hq
      have EZ2 := Lib.hid ((hb2.block wd.heap.size hla).trans EZ.out)
      have hs2 := hb2.size
      have HB2 := Lib.hid (HBA.out.trans (hb2.mono (by have := HBA.out.size; omega)))
      clear hb2
      refine hK.out _ _ (fun hh => absurd hh (by decide)) ?_
      clear hK K
      (try dsimp only); (try simp only [List.getElem_toArray]); (try simp only [List.getElem_cons_succ]); (try simp only [List.getElem_cons_zero]); (try simp only [List.setIfInBounds_toArray]); (try simp only [List.set_cons_succ]); (try simp only [List.set_cons_zero])
      refine wpAnyO_late (i := 11) (v := ?_) rfl (by kernel_rfl) (by kernel_rfl) (by kernel_rfl) (by kernel_rfl) (fun _ _ _ h => h) (Or.inl ⟨by rfl, ?_⟩) ?_
      rotate_left 1
      · intro w hSw
        clear hSw
        (go_simp) <;> (with_reducible rfl)
      (try simp only [Act.put]); (try simp only [List.getElem_toArray]); (try simp only [List.getElem_cons_succ]); (try simp only [List.getElem_cons_zero]); (try simp only [List.setIfInBounds_toArray]); (try simp only [List.set_cons_succ]); (try simp only [List.set_cons_zero])
      refine wpAnyO_late (i := 12) (v := ?_) rfl (by kernel_rfl) (by kernel_rfl) (by kernel_rfl) (by kernel_rfl) (fun _ _ _ h => h) (Or.inl ⟨by rfl, ?_⟩) ?_
      rotate_left 1
      · intro w hSw
        clear hSw
        (go_simp) <;> (with_reducible rfl)
      (try simp only [Act.put]); (try simp only [List.getElem_toArray]); (try simp only [List.getElem_cons_succ]); (try simp only [List.getElem_cons_zero]); (try simp only [List.setIfInBounds_toArray]); (try simp only [List.set_cons_succ]); (try simp only [List.set_cons_zero])
      refine wpAnyO_late (i := 13) (v := ?_) rfl (by kernel_rfl) (by kernel_rfl) (by kernel_rfl) (by kernel_rfl) (fun _ _ _ h => h) (Or.inl ⟨by rfl, ?_⟩) ?_
      rotate_left 1
      · intro w hSw
        clear hSw
        (go_simp) <;> (with_reducible rfl)
      (try simp only [Act.put]); (try simp only [List.getElem_toArray]); (try simp only [List.getElem_cons_succ]); (try simp only [List.getElem_cons_zero]); (try simp only [List.setIfInBounds_toArray]); (try simp only [List.set_cons_succ]); (try simp only [List.set_cons_zero])
      have HB3 := HB2
      refine wpAnyO_ready (rs := [15]) (by kernel_rfl) (by simp) (AllO.cons rfl (fun K hK => ?_) AllO.nil)
      rw [if_pos (by rfl)]
      refine wp_store_all 28 _ _ rfl wd.heap.size _ #[.slice a1 n1 d1, .slice a2 n2 d2] rfl rfl EZ2.out rfl (by kernel_rfl) (by simp [Value.oneCell']) ?_
      intro w3 hU
      have HB4 := Lib.hid (below_setC HB3.out (by have := HB.out.size; omega) hU)
      clear hU
      refine hK.out _ _ (fun hh => absurd hh (by decide)) ?_
      clear hK K
      (try dsimp only); (try simp only [List.getElem_toArray]); (try simp only [List.getElem_cons_succ]); (try simp only [List.getElem_cons_zero]); (try simp only [List.setIfInBounds_toArray]); (try simp only [List.set_cons_succ]); (try simp only [List.set_cons_zero])
      refine wpAnyO_late (i := 16) (v := ?_) rfl (by kernel_rfl) (by kernel_rfl) (by kernel_rfl) (by kernel_rfl) (fun _ _ _ h => h) (Or.inl ⟨by rfl, ?_⟩) ?_
      rotate_left 1
      · intro w hSw
        clear hSw
        (go_simp) <;> (with_reducible rfl)
      (try simp only [Act.put]); (try simp only [List.getElem_toArray]); (try simp only [List.getElem_cons_succ]); (try simp only [List.getElem_cons_zero]); (try simp only [List.setIfInBounds_toArray]); (try simp only [List.set_cons_succ]); (try simp only [List.set_cons_zero])
      refine wpAnyO_done (by kernel_rfl) ?_ _
      have HV3 := Lib.hid (HV.out.below HB4.out)
      have hkm := HKM.out
      go_wp2_with fail
      refine (repeat_any [119, 104, 105, 108, 101, 32, 49, 32, 123, 32] km _ (by omega) (by decide)).mono ?_
      rintro e w' ⟨rfl, rfl⟩
      go_wp2_with fail
      refine (repeat_any [32, 125] k _ (by omega) (by decide)).mono ?_
      rintro e w' ⟨rfl, rfl⟩
      go_wp2_with fail
      refine (parse_code HV3.out (blockS k) HLB.out 0 HC2.out (by decide) _ HBB.out).mono ?_
      rintro e w5 ⟨p', q', l', ⟨b1, m1, g1, b2, m2, g2, rfl, rfl⟩, rfl, hb5⟩
      have hs5 := HB4.out.size
      have HB5 := Lib.hid (HB4.out.trans (hb5.mono hs5))
      have HV5 := Lib.hid (HV3.out.below hb5)
      clear hb5
      go_wp2_with fail
      refine (known_any (HV5.out.alloc _)).mono ?_
      rintro e w6 ⟨rfl, hb6⟩
      have hs6 := HB5.out.size
      have HB6 := Lib.hid ((HB5.out.alloc hs6 _).trans (hb6.mono (by simp; omega)))
      clear hb6
      go_wp2_with fail
      go_ret
      exact ⟨rfl, HB6.out⟩
  · go_simp
    have qa := held_alloc (.cells #[.slice none 0 0, .slice none 0 0] 28) EC.out
    have qz := heap_alloc_new wd (.cells #[.slice none 0 0, .slice none 0 0] 28)
    have qb := HB.out.alloc HB.out.size (.cells #[.slice none 0 0, .slice none 0 0] 28)
    obtain ⟨wa, HWA⟩ : ∃ U, Hid (wd.alloc (.cells #[.slice none 0 0, .slice none 0 0] 28) = U) := ⟨_, Lib.hid rfl⟩
    rw [HWA.out] at qa qz qb ⊢
    have EA := Lib.hid qa
    have EZ := Lib.hid qz
    have HBA := Lib.hid qb
    have HVA := Lib.hid (HV.out.below qb)
    have hla := (Array.getElem?_eq_some_iff.1 qz).1
    clear qa qz qb
    refine hK.out _ _ (fun _ => cells_two EA.out) ?_
    clear hK K
    (try dsimp only); (try simp only [List.getElem_toArray]); (try simp only [List.getElem_cons_succ]); (try simp only [List.getElem_cons_zero]); (try simp only [List.setIfInBounds_toArray]); (try simp only [List.set_cons_succ]); (try simp only [List.set_cons_zero])
    refine wpAnyO_ready (rs := [3]) (by kernel_rfl) (by simp) (AllO.cons rfl (fun K hK => ?_) AllO.nil)
    go_simp
    refine (repeat_any [116, 91] k _ (by omega) (by decide)).mono ?_
    rintro e w' ⟨rfl, rfl⟩
    refine hK.out _ _ (fun _ => cells_two EA.out) ?_
    clear hK K
    (try dsimp only); (try simp only [List.getElem_toArray]); (try simp only [List.getElem_cons_succ]); (try simp only [List.getElem_cons_zero]); (try simp only [List.setIfInBounds_toArray]); (try simp only [List.set_cons_succ]); (try simp only [List.set_cons_zero])
    refine wpAnyO_takeT (i := 4) (v := ?_) rfl (by kernel_rfl) (by kernel_rfl) (by kernel_rfl) (by kernel_rfl) (by kernel_rfl) (fun _ _ _ h => h) (Or.inl ⟨by rfl, ?_⟩) (show wa.cell? ⟨w.heap.size + 1, 0, none⟩ = some (.string ⟨#[116, 91]⟩) ∧ wa.cell? ⟨w.heap.size + 1, 1, none⟩ = some (.string ⟨#[93]⟩) from cells_two EA.out) ?_
    rotate_left 1
    · intro w' hSw
      clear hSw
      (go_simp) <;> (with_reducible rfl)
    (try simp only [Act.put]); (try simp only [List.getElem_toArray]); (try simp only [List.getElem_cons_succ]); (try simp only [List.getElem_cons_zero]); (try simp only [List.setIfInBounds_toArray]); (try simp only [List.set_cons_succ]); (try simp only [List.set_cons_zero])
    refine wpAnyO_ready (rs := [8]) (by kernel_rfl) (by simp) (AllO.cons rfl (fun K hK => ?_) AllO.nil)
    go_simp
    refine (repeat_any [93] k _ (by omega) (by decide)).mono ?_
    rintro e w' ⟨rfl, rfl⟩
    refine hK.out _ _ (fun _ => cells_two EA.out) ?_
    clear hK K
    (try dsimp only); (try simp only [List.getElem_toArray]); (try simp only [List.getElem_cons_succ]); (try simp only [List.getElem_cons_zero]); (try simp only [List.setIfInBounds_toArray]); (try simp only [List.set_cons_succ]); (try simp only [List.set_cons_zero])
    refine wpAnyO_late (i := 9) (v := ?_) rfl (by kernel_rfl) (by kernel_rfl) (by kernel_rfl) (by kernel_rfl) (fun _ _ _ h => h) (Or.inl ⟨by rfl, ?_⟩) ?_
    rotate_left 1
    · intro w hSw
      clear hSw
      (go_simp) <;> (with_reducible rfl)
    (try simp only [Act.put]); (try simp only [List.getElem_toArray]); (try simp only [List.getElem_cons_succ]); (try simp only [List.getElem_cons_zero]); (try simp only [List.setIfInBounds_toArray]); (try simp only [List.set_cons_succ]); (try simp only [List.set_cons_zero])
    refine wpAnyO_ready (rs := [10]) (by kernel_rfl) (by simp) (AllO.cons rfl (fun K hK => ?_) AllO.nil)
    go_simp
    refine (value_code HVA.out (nestS 2 k) HLEN.out 0 HC1.out (by decide) _ HBE.out).mono ?_
    rintro e w2 ⟨p, q, hp, hq, ⟨a1, n1, d1, a2, n2, d2, rfl, rfl⟩, rfl, hb2⟩
    clear hp hq
    have EZ2 := Lib.hid ((hb2.block wd.heap.size hla).trans EZ.out)
    have hs2 := hb2.size
    have HB2 := Lib.hid (HBA.out.trans (hb2.mono (by have := HBA.out.size; omega)))
    clear hb2
    refine hK.out _ _ (fun hh => absurd hh (by decide)) ?_
    clear hK K
    (try dsimp only); (try simp only [List.getElem_toArray]); (try simp only [List.getElem_cons_succ]); (try simp only [List.getElem_cons_zero]); (try simp only [List.setIfInBounds_toArray]); (try simp only [List.set_cons_succ]); (try simp only [List.set_cons_zero])
    refine wpAnyO_late (i := 11) (v := ?_) rfl (by kernel_rfl) (by kernel_rfl) (by kernel_rfl) (by kernel_rfl) (fun _ _ _ h => h) (Or.inl ⟨by rfl, ?_⟩) ?_
    rotate_left 1
    · intro w hSw
      clear hSw
      (go_simp) <;> (with_reducible rfl)
    (try simp only [Act.put]); (try simp only [List.getElem_toArray]); (try simp only [List.getElem_cons_succ]); (try simp only [List.getElem_cons_zero]); (try simp only [List.setIfInBounds_toArray]); (try simp only [List.set_cons_succ]); (try simp only [List.set_cons_zero])
    refine wpAnyO_late (i := 12) (v := ?_) rfl (by kernel_rfl) (by kernel_rfl) (by kernel_rfl) (by kernel_rfl) (fun _ _ _ h => h) (Or.inl ⟨by rfl, ?_⟩) ?_
    rotate_left 1
    · intro w hSw
      clear hSw
      (go_simp) <;> (with_reducible rfl)
    (try simp only [Act.put]); (try simp only [List.getElem_toArray]); (try simp only [List.getElem_cons_succ]); (try simp only [List.getElem_cons_zero]); (try simp only [List.setIfInBounds_toArray]); (try simp only [List.set_cons_succ]); (try simp only [List.set_cons_zero])
    refine wpAnyO_late (i := 13) (v := ?_) rfl (by kernel_rfl) (by kernel_rfl) (by kernel_rfl) (by kernel_rfl) (fun _ _ _ h => h) (Or.inl ⟨by rfl, ?_⟩) ?_
    rotate_left 1
    · intro w hSw
      clear hSw
      (go_simp) <;> (with_reducible rfl)
    (try simp only [Act.put]); (try simp only [List.getElem_toArray]); (try simp only [List.getElem_cons_succ]); (try simp only [List.getElem_cons_zero]); (try simp only [List.setIfInBounds_toArray]); (try simp only [List.set_cons_succ]); (try simp only [List.set_cons_zero])
    have HB3 := HB2
    refine wpAnyO_ready (rs := [15]) (by kernel_rfl) (by simp) (AllO.cons rfl (fun K hK => ?_) AllO.nil)
    rw [if_pos (by rfl)]
    refine wp_store_all 28 _ _ rfl wd.heap.size _ #[.slice a1 n1 d1, .slice a2 n2 d2] rfl rfl EZ2.out rfl (by kernel_rfl) (by simp [Value.oneCell']) ?_
    intro w3 hU
    have HB4 := Lib.hid (below_setC HB3.out (by have := HB.out.size; omega) hU)
    clear hU
    refine hK.out _ _ (fun hh => absurd hh (by decide)) ?_
    clear hK K
    (try dsimp only); (try simp only [List.getElem_toArray]); (try simp only [List.getElem_cons_succ]); (try simp only [List.getElem_cons_zero]); (try simp only [List.setIfInBounds_toArray]); (try simp only [List.set_cons_succ]); (try simp only [List.set_cons_zero])
    refine wpAnyO_late (i := 16) (v := ?_) rfl (by kernel_rfl) (by kernel_rfl) (by kernel_rfl) (by kernel_rfl) (fun _ _ _ h => h) (Or.inl ⟨by rfl, ?_⟩) ?_
    rotate_left 1
    · intro w hSw
      clear hSw
      (go_simp) <;> (with_reducible rfl)
    (try simp only [Act.put]); (try simp only [List.getElem_toArray]); (try simp only [List.getElem_cons_succ]); (try simp only [List.getElem_cons_zero]); (try simp only [List.setIfInBounds_toArray]); (try simp only [List.set_cons_succ]); (try simp only [List.set_cons_zero])
    refine wpAnyO_done (by kernel_rfl) ?_ _
    have HV3 := Lib.hid (HV.out.below HB4.out)
    have hkm := HKM.out
    go_wp2_with fail
    refine (repeat_any [119, 104, 105, 108, 101, 32, 49, 32, 123, 32] km _ (by omega) (by decide)).mono ?_
    rintro e w' ⟨rfl, rfl⟩
    go_wp2_with fail
    refine (repeat_any [32, 125] k _ (by omega) (by decide)).mono ?_
    rintro e w' ⟨rfl, rfl⟩
    go_wp2_with fail
    refine (parse_code HV3.out (blockS k) HLB.out 0 HC2.out (by decide) _ HBB.out).mono ?_
    rintro e w5 ⟨p', q', l', ⟨b1, m1, g1, b2, m2, g2, rfl, rfl⟩, rfl, hb5⟩
    have hs5 := HB4.out.size
    have HB5 := Lib.hid (HB4.out.trans (hb5.mono hs5))
    have HV5 := Lib.hid (HV3.out.below hb5)
    clear hb5
    go_wp2_with fail
    refine (known_any (HV5.out.alloc _)).mono ?_
    rintro e w6 ⟨rfl, hb6⟩
    have hs6 := HB5.out.size
    have HB6 := Lib.hid ((HB5.out.alloc hs6 _).trans (hb6.mono (by simp; omega)))
    clear hb6
    go_wp2_with fail
    go_ret
    exact ⟨rfl, HB6.out⟩
set_option maxHeartbeats 8000000 in
set_option maxRecDepth 100000 in
theorem nest_2_1_1 (n how : Int) (w : World) (hV : VarsAt w) (h1 : n < 9223372036854775808) (h2 : how < 9223372036854775808) (k km : Nat) (hk : 1 ≤ k) (hk2 : k ≤ 11) (hkm : (k : Int) - 1 = (km : Int)) (hn : Hid (n % 11 = (k : Int) - 1)) (hh : Hid (how % 4 = 2)) (hbk : 8 < k) (hc1 : codeOf (parseP 400 (valSrc (nestS 2 k))) = 5) (hc2 : codeOf (parseP 2000 (blockS k)) = 5) :
    Calls Tryd.prog 5 #[.int .i64 n, .int .i64 how] w fun e w' => e = .returned (.bool true) ∧ Below w.heap.size w w' := by
  have HV := Lib.hid hV
  have HKM := Lib.hid hkm
  have hkn : k - 1 = km := by omega
  have HKN := Lib.hid hkn
  have hkm9 : km ≤ 10 := by omega
  clear hV hkm hkn
  go_enter Tryd.func5, Tryd.ntmps5
  go_wp2_with fail
  refine (mod_any n 11 w h1 (by decide) (by decide) ((k : Int) - 1) hn).mono ?_
  rintro e w' ⟨rfl, rfl⟩
  have hk1 : (1 : Int) + ((k : Int) - 1) = (k : Int) := by omega
  go_wp2_with fail
  refine (mod_any how 4 _ h2 (by decide) (by decide) 2 hh).mono ?_
  rintro e w1 ⟨rfl, hw1⟩
  subst hw1
  go_wp2_with fail
  have hb0 : Below w.heap.size w ((w.alloc (.cells #[.string ⟨#[40]⟩, .string ⟨#[41]⟩, .string ⟨#[45]⟩, .string ⟨#[]⟩, .string ⟨#[116, 91]⟩, .string ⟨#[93]⟩, .string ⟨#[33, 40]⟩, .string ⟨#[41]⟩] 37)).alloc (.cells #[.string ⟨#[116, 91]⟩, .string ⟨#[93]⟩] 37)) := ((Below.refl _ w).alloc (Nat.le_refl _) _).alloc (by simp) _
  have e0 := heap_alloc_new (w.alloc (.cells #[.string ⟨#[40]⟩, .string ⟨#[41]⟩, .string ⟨#[45]⟩, .string ⟨#[]⟩, .string ⟨#[116, 91]⟩, .string ⟨#[93]⟩, .string ⟨#[33, 40]⟩, .string ⟨#[41]⟩] 37)) (.cells #[.string ⟨#[116, 91]⟩, .string ⟨#[93]⟩] 37)
  rw [World.size_alloc] at e0
  obtain ⟨w0, HW0⟩ : ∃ U, Hid (((w.alloc (.cells #[.string ⟨#[40]⟩, .string ⟨#[41]⟩, .string ⟨#[45]⟩, .string ⟨#[]⟩, .string ⟨#[116, 91]⟩, .string ⟨#[93]⟩, .string ⟨#[33, 40]⟩, .string ⟨#[41]⟩] 37)).alloc (.cells #[.string ⟨#[116, 91]⟩, .string ⟨#[93]⟩] 37)) = U) := ⟨_, Lib.hid rfl⟩
  rw [HW0.out] at hb0 e0 ⊢
  have hl0 := (Array.getElem?_eq_some_iff.1 e0).1
  have hl1 := hb0.size
  have HB0 := Lib.hid hb0
  have E0 := Lib.hid e0
  have HV0 := Lib.hid (HV.out.below hb0)
  clear hb0 e0
  have r1 : (rep [116, 91] k).length ≤ 1000 := by rw [rep_length]; simp; omega
  have r2 : (rep [93] k).length ≤ 1000 := by rw [rep_length]; simp; try omega
  have r3 : (rep [119, 104, 105, 108, 101, 32, 49, 32, 123, 32] km).length ≤ 1000 := by rw [rep_length]; simp; omega
  have r4 : (rep [32, 125] k).length ≤ 1000 := by rw [rep_length]; simp; omega
  have hlen : (nestS 2 k).length ≤ 10000 := by
    unfold nestS
    rw [List.length_append, List.length_append, show nestL 2 = [116, 91] from rfl, show nestR 2 = [93] from rfl]
    have : ([97] : List UInt8).length = 1 := rfl
    omega
  have HLEN := Lib.hid hlen
  clear hlen
  have hbe : (⟨(rep [116, 91] k).toArray⟩ : ByteArray) ++ ⟨#[97]⟩ ++ ⟨(rep [93] k).toArray⟩ = ⟨(nestS 2 k).toArray⟩ := by
    rw [show (⟨#[97]⟩ : ByteArray) = ⟨([97] : List UInt8).toArray⟩ from rfl, bytes_append, bytes_append]
    unfold nestS
    rw [List.append_assoc]
    rfl
  have HBE := Lib.hid hbe
  clear hbe
  have t1 := catL ⟨(rep [116, 91] k).toArray⟩ ⟨#[97]⟩ (by simp [ByteArray.size]; omega)
  have t2 := catL (⟨(rep [116, 91] k).toArray⟩ ++ ⟨#[97]⟩) ⟨(rep [93] k).toArray⟩ (by simp [ByteArray.size]; omega)
  have hlb : (blockS k).length ≤ 10000 := by
    unfold blockS
    rw [HKN.out]
    simp only [List.length_append, List.length_cons, List.length_nil]
    omega
  have hbb : (⟨#[102, 117, 110, 99, 32, 102, 40, 41, 10, 123, 32]⟩ : ByteArray) ++ ⟨(rep [119, 104, 105, 108, 101, 32, 49, 32, 123, 32] km).toArray⟩ ++ ⟨#[112, 114, 105, 110, 116, 32, 49, 59]⟩ ++ ⟨(rep [32, 125] k).toArray⟩ = ⟨(blockS k).toArray⟩ := by
    unfold blockS
    rw [HKN.out]
    apply ByteArray.ext
    apply Array.ext'
    simp
  have HLB := Lib.hid hlb
  have HBB := Lib.hid hbb
  clear hlb hbb
  have HC1 := Lib.hid hc1
  have HC2 := Lib.hid hc2
  clear hc1 hc2
  have tb : (8 : Int) < (k : Int) := by omega
  clear hbk
  refine wp_region_O (S := fun w' => w'.cell? ⟨w.heap.size + 1, 0, none⟩ = some (.string ⟨#[116, 91]⟩) ∧ w'.cell? ⟨w.heap.size + 1, 1, none⟩ = some (.string ⟨#[93]⟩)) (L := [1, 3, 4, 6, 8, 14]) (by kernel_rfl) ?_
  refine wpAnyO_late (i := 0) (v := ?_) rfl (by kernel_rfl) (by kernel_rfl) (by kernel_rfl) (by kernel_rfl) (fun _ _ _ h => h) (Or.inl ⟨by rfl, ?_⟩) ?_
  rotate_left 1
  · intro w hSw
    clear hSw
    (go_simp) <;> (with_reducible rfl)
  (try simp only [Act.put]); (try simp only [List.getElem_toArray]); (try simp only [List.getElem_cons_succ]); (try simp only [List.getElem_cons_zero]); (try simp only [List.setIfInBounds_toArray]); (try simp only [List.set_cons_succ]); (try simp only [List.set_cons_zero])
  refine wpAnyO_late (i := 2) (v := ?_) rfl (by kernel_rfl) (by kernel_rfl) (by kernel_rfl) (by kernel_rfl) (fun _ _ _ h => h) (Or.inl ⟨by rfl, ?_⟩) ?_
  rotate_left 1
  · intro w hSw
    clear hSw
    (go_simp) <;> (with_reducible rfl)
  (try simp only [Act.put]); (try simp only [List.getElem_toArray]); (try simp only [List.getElem_cons_succ]); (try simp only [List.getElem_cons_zero]); (try simp only [List.setIfInBounds_toArray]); (try simp only [List.set_cons_succ]); (try simp only [List.set_cons_zero])
  refine wpAnyO_late (i := 5) (v := ?_) rfl (by kernel_rfl) (by kernel_rfl) (by kernel_rfl) (by kernel_rfl) (fun _ _ _ h => h) (Or.inl ⟨by rfl, ?_⟩) ?_
  rotate_left 1
  · intro w hSw
    clear hSw
    (go_simp) <;> (with_reducible rfl)
  (try simp only [Act.put]); (try simp only [List.getElem_toArray]); (try simp only [List.getElem_cons_succ]); (try simp only [List.getElem_cons_zero]); (try simp only [List.setIfInBounds_toArray]); (try simp only [List.set_cons_succ]); (try simp only [List.set_cons_zero])
  refine wpAnyO_late (i := 7) (v := ?_) rfl (by kernel_rfl) (by kernel_rfl) (by kernel_rfl) (by kernel_rfl) (fun _ _ _ h => h) (Or.inl ⟨by rfl, ?_⟩) ?_
  rotate_left 1
  · intro w hSw
    clear hSw
    (go_simp) <;> (with_reducible rfl)
  (try simp only [Act.put]); (try simp only [List.getElem_toArray]); (try simp only [List.getElem_cons_succ]); (try simp only [List.getElem_cons_zero]); (try simp only [List.setIfInBounds_toArray]); (try simp only [List.set_cons_succ]); (try simp only [List.set_cons_zero])
  refine wpAnyO_takeT (i := 1) (v := ?_) rfl (by kernel_rfl) (by kernel_rfl) (by kernel_rfl) (by kernel_rfl) (by kernel_rfl) (fun _ _ _ h => h) (Or.inl ⟨by rfl, ?_⟩) (show w0.drew.cell? ⟨w.heap.size + 1, 0, none⟩ = some (.string ⟨#[116, 91]⟩) ∧ w0.drew.cell? ⟨w.heap.size + 1, 1, none⟩ = some (.string ⟨#[93]⟩) from cells_two E0.out) ?_
  rotate_left 1
  · intro w' hSw
    (try dsimp only at hSw)
    obtain ⟨hs0, hs1⟩ := hSw
    (go_simp) <;> (with_reducible rfl)
  (try simp only [Act.put]); (try simp only [List.getElem_toArray]); (try simp only [List.getElem_cons_succ]); (try simp only [List.getElem_cons_zero]); (try simp only [List.setIfInBounds_toArray]); (try simp only [List.set_cons_succ]); (try simp only [List.set_cons_zero])
  refine wpAnyO_takeT (i := 6) (v := ?_) rfl (by kernel_rfl) (by kernel_rfl) (by kernel_rfl) (by kernel_rfl) (by kernel_rfl) (fun _ _ _ h => h) (Or.inl ⟨by rfl, ?_⟩) (show w0.drew.cell? ⟨w.heap.size + 1, 0, none⟩ = some (.string ⟨#[116, 91]⟩) ∧ w0.drew.cell? ⟨w.heap.size + 1, 1, none⟩ = some (.string ⟨#[93]⟩) from cells_two E0.out) ?_
  rotate_left 1
  · intro w' hSw
    (try dsimp only at hSw)
    obtain ⟨hs0, hs1⟩ := hSw
    (go_simp) <;> (with_reducible rfl)
  (try simp only [Act.put]); (try simp only [List.getElem_toArray]); (try simp only [List.getElem_cons_succ]); (try simp only [List.getElem_cons_zero]); (try simp only [List.setIfInBounds_toArray]); (try simp only [List.set_cons_succ]); (try simp only [List.set_cons_zero])
  have hbd := (HB0.out).drew
  have hed : w0.drew.heap[w.heap.size + 1]? = some (.cells #[.string ⟨#[116, 91]⟩, .string ⟨#[93]⟩] 37 (0, 0)) := E0.out
  obtain ⟨wd, HWD⟩ : ∃ U, Hid (w0.drew = U) := ⟨_, Lib.hid rfl⟩
  rw [HWD.out] at hbd hed ⊢
  have hlc := (Array.getElem?_eq_some_iff.1 hed).1
  have HB := Lib.hid hbd
  have EC := Lib.hid hed
  have HVD := Lib.hid (HV.out.below hbd)
  clear hbd hed
  refine wpAnyO_ready (rs := [3, 14]) (by kernel_rfl) (by simp) (AllO.cons rfl (fun K hK => ?_) (AllO.cons rfl (fun K hK => ?_) AllO.nil))
  · go_simp
    refine (repeat_any [116, 91] k _ (by omega) (by decide)).mono ?_
    rintro e w' ⟨rfl, rfl⟩
    refine hK.out _ _ (fun _ => cells_two EC.out) ?_
    clear hK K
    (try dsimp only); (try simp only [List.getElem_toArray]); (try simp only [List.getElem_cons_succ]); (try simp only [List.getElem_cons_zero]); (try simp only [List.setIfInBounds_toArray]); (try simp only [List.set_cons_succ]); (try simp only [List.set_cons_zero])
    refine wpAnyO_takeT (i := 4) (v := ?_) rfl (by kernel_rfl) (by kernel_rfl) (by kernel_rfl) (by kernel_rfl) (by kernel_rfl) (fun _ _ _ h => h) (Or.inl ⟨by rfl, ?_⟩) (show wd.cell? ⟨w.heap.size + 1, 0, none⟩ = some (.string ⟨#[116, 91]⟩) ∧ wd.cell? ⟨w.heap.size + 1, 1, none⟩ = some (.string ⟨#[93]⟩) from cells_two EC.out) ?_
    rotate_left 1
    · intro w' hSw
      clear hSw
      (go_simp) <;> (with_reducible rfl)
    (try simp only [Act.put]); (try simp only [List.getElem_toArray]); (try simp only [List.getElem_cons_succ]); (try simp only [List.getElem_cons_zero]); (try simp only [List.setIfInBounds_toArray]); (try simp only [List.set_cons_succ]); (try simp only [List.set_cons_zero])
    refine wpAnyO_ready (rs := [8, 14]) (by kernel_rfl) (by simp) (AllO.cons rfl (fun K hK => ?_) (AllO.cons rfl (fun K hK => ?_) AllO.nil))
    · go_simp
      refine (repeat_any [93] k _ (by omega) (by decide)).mono ?_
      rintro e w' ⟨rfl, rfl⟩
      refine hK.out _ _ (fun _ => cells_two EC.out) ?_
      clear hK K
      (try dsimp only); (try simp only [List.getElem_toArray]); (try simp only [List.getElem_cons_succ]); (try simp only [List.getElem_cons_zero]); (try simp only [List.setIfInBounds_toArray]); (try simp only [List.set_cons_succ]); (try simp only [List.set_cons_zero])
      refine wpAnyO_late (i := 9) (v := ?_) rfl (by kernel_rfl) (by kernel_rfl) (by kernel_rfl) (by kernel_rfl) (fun _ _ _ h => h) (Or.inl ⟨by rfl, ?_⟩) ?_
      rotate_left 1
      · intro w hSw
        clear hSw
        (go_simp) <;> (with_reducible rfl)
      (try simp only [Act.put]); (try simp only [List.getElem_toArray]); (try simp only [List.getElem_cons_succ]); (try simp only [List.getElem_cons_zero]); (try simp only [List.setIfInBounds_toArray]); (try simp only [List.set_cons_succ]); (try simp only [List.set_cons_zero])
      refine wpAnyO_ready (rs := [10, 14]) (by kernel_rfl) (by simp) (AllO.cons rfl (fun K hK => ?_) (AllO.cons rfl (fun K hK => ?_) AllO.nil))
      · go_simp
        refine (value_code HVD.out (nestS 2 k) HLEN.out 5 HC1.out (by decide) _ HBE.out).mono ?_
        rintro e w2 ⟨p, q, hp, hq, ⟨a1, n1, d1, a2, n2, d2, rfl, rfl⟩, rfl, hb2⟩
        clear hp hq
        have hs2 := hb2.size
        have HB2 := Lib.hid (HB.out.trans (hb2.mono (by have := HB.out.size; omega)))
        have EC2 := Lib.hid ((hb2.block (w.heap.size + 1) hlc).trans EC.out)
        clear hb2
        refine hK.out _ _ (fun hh => absurd hh (by decide)) ?_
        clear hK K
        (try dsimp only); (try simp only [List.getElem_toArray]); (try simp only [List.getElem_cons_succ]); (try simp only [List.getElem_cons_zero]); (try simp only [List.setIfInBounds_toArray]); (try simp only [List.set_cons_succ]); (try simp only [List.set_cons_zero])
        refine wpAnyO_late (i := 11) (v := ?_) rfl (by kernel_rfl) (by kernel_rfl) (by kernel_rfl) (by kernel_rfl) (fun _ _ _ h => h) (Or.inl ⟨by rfl, ?_⟩) ?_
        rotate_left 1
        · intro w hSw
          clear hSw
          (go_simp) <;> (with_reducible rfl)
        (try simp only [Act.put]); (try simp only [List.getElem_toArray]); (try simp only [List.getElem_cons_succ]); (try simp only [List.getElem_cons_zero]); (try simp only [List.setIfInBounds_toArray]); (try simp only [List.set_cons_succ]); (try simp only [List.set_cons_zero])
        refine wpAnyO_late (i := 12) (v := ?_) rfl (by kernel_rfl) (by kernel_rfl) (by kernel_rfl) (by kernel_rfl) (fun _ _ _ h => h) (Or.inl ⟨by rfl, ?_⟩) ?_
        rotate_left 1
        · intro w hSw
          clear hSw
          (go_simp) <;> (with_reducible rfl)
        (try simp only [Act.put]); (try simp only [List.getElem_toArray]); (try simp only [List.getElem_cons_succ]); (try simp only [List.getElem_cons_zero]); (try simp only [List.setIfInBounds_toArray]); (try simp only [List.set_cons_succ]); (try simp only [List.set_cons_zero])
        refine wpAnyO_late (i := 13) (v := ?_) rfl (by kernel_rfl) (by kernel_rfl) (by kernel_rfl) (by kernel_rfl) (fun _ _ _ h => h) (Or.inl ⟨by rfl, ?_⟩) ?_
        rotate_left 1
        · intro w hSw
          clear hSw
          (go_simp) <;> (with_reducible rfl)
        (try simp only [Act.put]); (try simp only [List.getElem_toArray]); (try simp only [List.getElem_cons_succ]); (try simp only [List.getElem_cons_zero]); (try simp only [List.setIfInBounds_toArray]); (try simp only [List.set_cons_succ]); (try simp only [List.set_cons_zero])
        refine wpAnyO_ready (rs := [14]) (by kernel_rfl) (by simp) (AllO.cons rfl (fun K hK => ?_) AllO.nil)
        go_simp
        have qz := heap_alloc_new w2 (.cells #[.slice none 0 0, .slice none 0 0] 28)
        have qb := HB2.out.alloc HB2.out.size (.cells #[.slice none 0 0, .slice none 0 0] 28)
        have qe := held_alloc (.cells #[.slice none 0 0, .slice none 0 0] 28) EC2.out
        obtain ⟨wa, HWA⟩ : ∃ U, Hid (w2.alloc (.cells #[.slice none 0 0, .slice none 0 0] 28) = U) := ⟨_, Lib.hid rfl⟩
        rw [HWA.out] at qz qb qe ⊢
        have EZ2 := Lib.hid qz
        have HB3 := Lib.hid qb
        have EE := Lib.hid qe
        have hzz := HB2.out.size
        clear qz qb qe
        refine hK.out _ _ (fun _ => cells_two EE.out) ?_
        clear hK K
        (try dsimp only); (try simp only [List.getElem_toArray]); (try simp only [List.getElem_cons_succ]); (try simp only [List.getElem_cons_zero]); (try simp only [List.setIfInBounds_toArray]); (try simp only [List.set_cons_succ]); (try simp only [List.set_cons_zero])
        refine wpAnyO_ready (rs := [15]) (by kernel_rfl) (by simp) (AllO.cons rfl (fun K hK => ?_) AllO.nil)
        rw [if_pos (by rfl)]
        refine wp_store_all 28 _ _ rfl w2.heap.size _ #[.slice a1 n1 d1, .slice a2 n2 d2] rfl rfl EZ2.out rfl (by kernel_rfl) (by simp [Value.oneCell']) ?_
        intro w3 hU
        have HB4 := Lib.hid (below_setC HB3.out (by have := HB.out.size; omega) hU)
        clear hU
        refine hK.out _ _ (fun hh => absurd hh (by decide)) ?_
        clear hK K
        (try dsimp only); (try simp only [List.getElem_toArray]); (try simp only [List.getElem_cons_succ]); (try simp only [List.getElem_cons_zero]); (try simp only [List.setIfInBounds_toArray]); (try simp only [List.set_cons_succ]); (try simp only [List.set_cons_zero])
        refine wpAnyO_late (i := 16) (v := ?_) rfl (by kernel_rfl) (by kernel_rfl) (by kernel_rfl) (by kernel_rfl) (fun _ _ _ h => h) (Or.inl ⟨by rfl, ?_⟩) ?_
        rotate_left 1
        · intro w hSw
          clear hSw
          (go_simp) <;> (with_reducible rfl)
        (try simp only [Act.put]); (try simp only [List.getElem_toArray]); (try simp only [List.getElem_cons_succ]); (try simp only [List.getElem_cons_zero]); (try simp only [List.setIfInBounds_toArray]); (try simp only [List.set_cons_succ]); (try simp only [List.set_cons_zero])
        refine wpAnyO_done (by kernel_rfl) ?_ _
        have HV3 := Lib.hid (HV.out.below HB4.out)
        have hkm := HKM.out
        go_wp2_with fail
        refine (repeat_any [119, 104, 105, 108, 101, 32, 49, 32, 123, 32] km _ (by omega) (by decide)).mono ?_
        rintro e w' ⟨rfl, rfl⟩
        go_wp2_with fail
        refine (repeat_any [32, 125] k _ (by omega) (by decide)).mono ?_
        rintro e w' ⟨rfl, rfl⟩
        go_wp2_with fail
        refine (parse_code HV3.out (blockS k) HLB.out 5 HC2.out (by decide) _ HBB.out).mono ?_
        rintro e w5 ⟨p', q', l', ⟨b1, m1, g1, b2, m2, g2, rfl, rfl⟩, rfl, hb5⟩
        have hs5 := HB4.out.size
        have HB5 := Lib.hid (HB4.out.trans (hb5.mono hs5))
        have HV5 := Lib.hid (HV3.out.below hb5)
        clear hb5
        go_wp2_with fail
        refine (known_any (HV5.out.alloc _)).mono ?_
        rintro e w6 ⟨rfl, hb6⟩
        have hs6 := HB5.out.size
        have HB6 := Lib.hid ((HB5.out.alloc hs6 _).trans (hb6.mono (by simp; omega)))
        clear hb6
        go_wp2_with fail
        go_ret
        exact ⟨rfl, HB6.out⟩
      · go_simp
        have qa := held_alloc (.cells #[.slice none 0 0, .slice none 0 0] 28) EC.out
        have qz := heap_alloc_new wd (.cells #[.slice none 0 0, .slice none 0 0] 28)
        have qb := HB.out.alloc HB.out.size (.cells #[.slice none 0 0, .slice none 0 0] 28)
        obtain ⟨wa, HWA⟩ : ∃ U, Hid (wd.alloc (.cells #[.slice none 0 0, .slice none 0 0] 28) = U) := ⟨_, Lib.hid rfl⟩
        rw [HWA.out] at qa qz qb ⊢
        have EA := Lib.hid qa
        have EZ := Lib.hid qz
        have HBA := Lib.hid qb
        have HVA := Lib.hid (HV.out.below qb)
        have hla := (Array.getElem?_eq_some_iff.1 qz).1
        clear qa qz qb
        refine hK.out _ _ (fun _ => cells_two EA.out) ?_
        clear hK K
        (try dsimp only); (try simp only [List.getElem_toArray]); (try simp only [List.getElem_cons_succ]); (try simp only [List.getElem_cons_zero]); (try simp only [List.setIfInBounds_toArray]); (try simp only [List.set_cons_succ]); (try simp only [List.set_cons_zero])
        refine wpAnyO_ready (rs := [10]) (by kernel_rfl) (by simp) (AllO.cons rfl (fun K hK => ?_) AllO.nil)
        go_simp
        refine (value_code HVA.out (nestS 2 k) HLEN.out 5 HC1.out (by decide) _ HBE.out).mono ?_
        rintro e w2 ⟨p, q, hp, hq, ⟨a1, n1, d1, a2, n2, d2, rfl, rfl⟩, rfl, hb2⟩
        clear hp hq
        have EZ2 := Lib.hid ((hb2.block wd.heap.size hla).trans EZ.out)
        have hs2 := hb2.size
        have HB2 := Lib.hid (HBA.out.trans (hb2.mono (by have := HBA.out.size; omega)))
        clear hb2
        refine hK.out _ _ (fun hh => absurd hh (by decide)) ?_
        clear hK K
        (try dsimp only); (try simp only [List.getElem_toArray]); (try simp only [List.getElem_cons_succ]); (try simp only [List.getElem_cons_zero]); (try simp only [List.setIfInBounds_toArray]); (try simp only [List.set_cons_succ]); (try simp only [List.set_cons_zero])
        refine wpAnyO_late (i := 11) (v := ?_) rfl (by kernel_rfl) (by kernel_rfl) (by kernel_rfl) (by kernel_rfl) (fun _ _ _ h => h) (Or.inl ⟨by rfl, ?_⟩) ?_
        rotate_left 1
        · intro w hSw
          clear hSw
          (go_simp) <;> (with_reducible rfl)
        (try simp only [Act.put]); (try simp only [List.getElem_toArray]); (try simp only [List.getElem_cons_succ]); (try simp only [List.getElem_cons_zero]); (try simp only [List.setIfInBounds_toArray]); (try simp only [List.set_cons_succ]); (try simp only [List.set_cons_zero])
        refine wpAnyO_late (i := 12) (v := ?_) rfl (by kernel_rfl) (by kernel_rfl) (by kernel_rfl) (by kernel_rfl) (fun _ _ _ h => h) (Or.inl ⟨by rfl, ?_⟩) ?_
        rotate_left 1
        · intro w hSw
          clear hSw
          (go_simp) <;> (with_reducible rfl)
        (try simp only [Act.put]); (try simp only [List.getElem_toArray]); (try simp only [List.getElem_cons_succ]); (try simp only [List.getElem_cons_zero]); (try simp only [List.setIfInBounds_toArray]); (try simp only [List.set_cons_succ]); (try simp only [List.set_cons_zero])
        refine wpAnyO_late (i := 13) (v := ?_) rfl (by kernel_rfl) (by kernel_rfl) (by kernel_rfl) (by kernel_rfl) (fun _ _ _ h => h) (Or.inl ⟨by rfl, ?_⟩) ?_
        rotate_left 1
        · intro w hSw
          clear hSw
          (go_simp) <;> (with_reducible rfl)
        (try simp only [Act.put]); (try simp only [List.getElem_toArray]); (try simp only [List.getElem_cons_succ]); (try simp only [List.getElem_cons_zero]); (try simp only [List.setIfInBounds_toArray]); (try simp only [List.set_cons_succ]); (try simp only [List.set_cons_zero])
        have HB3 := HB2
        refine wpAnyO_ready (rs := [15]) (by kernel_rfl) (by simp) (AllO.cons rfl (fun K hK => ?_) AllO.nil)
        rw [if_pos (by rfl)]
        refine wp_store_all 28 _ _ rfl wd.heap.size _ #[.slice a1 n1 d1, .slice a2 n2 d2] rfl rfl EZ2.out rfl (by kernel_rfl) (by simp [Value.oneCell']) ?_
        intro w3 hU
        have HB4 := Lib.hid (below_setC HB3.out (by have := HB.out.size; omega) hU)
        clear hU
        refine hK.out _ _ (fun hh => absurd hh (by decide)) ?_
        clear hK K
        (try dsimp only); (try simp only [List.getElem_toArray]); (try simp only [List.getElem_cons_succ]); (try simp only [List.getElem_cons_zero]); (try simp only [List.setIfInBounds_toArray]); (try simp only [List.set_cons_succ]); (try simp only [List.set_cons_zero])
        refine wpAnyO_late (i := 16) (v := ?_) rfl (by kernel_rfl) (by kernel_rfl) (by kernel_rfl) (by kernel_rfl) (fun _ _ _ h => h) (Or.inl ⟨by rfl, ?_⟩) ?_
        rotate_left 1
        · intro w hSw
          clear hSw
          (go_simp) <;> (with_reducible rfl)
        (try simp only [Act.put]); (try simp only [List.getElem_toArray]); (try simp only [List.getElem_cons_succ]); (try simp only [List.getElem_cons_zero]); (try simp only [List.setIfInBounds_toArray]); (try simp only [List.set_cons_succ]); (try simp only [List.set_cons_zero])
        refine wpAnyO_done (by kernel_rfl) ?_ _
        have HV3 := Lib.hid (HV.out.below HB4.out)
        have hkm := HKM.out
        go_wp2_with fail
        refine (repeat_any [119, 104, 105, 108, 101, 32, 49, 32, 123, 32] km _ (by omega) (by decide)).mono ?_
        rintro e w' ⟨rfl, rfl⟩
        go_wp2_with fail
        refine (repeat_any [32, 125] k _ (by omega) (by decide)).mono ?_
        rintro e w' ⟨rfl, rfl⟩
        go_wp2_with fail
        refine (parse_code HV3.out (blockS k) HLB.out 5 HC2.out (by decide) _ HBB.out).mono ?_
        rintro e w5 ⟨p', q', l', ⟨b1, m1, g1, b2, m2, g2, rfl, rfl⟩, rfl, hb5⟩
        have hs5 := HB4.out.size
        have HB5 := Lib.hid (HB4.out.trans (hb5.mono hs5))
        have HV5 := Lib.hid (HV3.out.below hb5)
        clear hb5
        go_wp2_with fail
        refine (known_any (HV5.out.alloc _)).mono ?_
        rintro e w6 ⟨rfl, hb6⟩
        have hs6 := HB5.out.size
        have HB6 := Lib.hid ((HB5.out.alloc hs6 _).trans (hb6.mono (by simp; omega)))
        clear hb6
        go_wp2_with fail
        go_ret
        exact ⟨rfl, HB6.out⟩
    · go_simp
      have qa := held_alloc (.cells #[.slice none 0 0, .slice none 0 0] 28) EC.out
      have qz := heap_alloc_new wd (.cells #[.slice none 0 0, .slice none 0 0] 28)
      have qb := HB.out.alloc HB.out.size (.cells #[.slice none 0 0, .slice none 0 0] 28)
      obtain ⟨wa, HWA⟩ : ∃ U, Hid (wd.alloc (.cells #[.slice none 0 0, .slice none 0 0] 28) = U) := ⟨_, Lib.hid rfl⟩
      rw [HWA.out] at qa qz qb ⊢
      have EA := Lib.hid qa
      have EZ := Lib.hid qz
      have HBA := Lib.hid qb
      have HVA := Lib.hid (HV.out.below qb)
      have hla := (Array.getElem?_eq_some_iff.1 qz).1
      clear qa qz qb
      refine hK.out _ _ (fun _ => cells_two EA.out) ?_
      clear hK K
      (try dsimp only); (try simp only [List.getElem_toArray]); (try simp only [List.getElem_cons_succ]); (try simp only [List.getElem_cons_zero]); (try simp only [List.setIfInBounds_toArray]); (try simp only [List.set_cons_succ]); (try simp only [List.set_cons_zero])
      refine wpAnyO_ready (rs := [8]) (by kernel_rfl) (by simp) (AllO.cons rfl (fun K hK => ?_) AllO.nil)
      go_simp
      refine (repeat_any [93] k _ (by omega) (by decide)).mono ?_
      rintro e w' ⟨rfl, rfl⟩
      refine hK.out _ _ (fun _ => cells_two EA.out) ?_
      clear hK K
      (try dsimp only); (try simp only [List.getElem_toArray]); (try simp only [List.getElem_cons_succ]); (try simp only [List.getElem_cons_zero]); (try simp only [List.setIfInBounds_toArray]); (try simp only [List.set_cons_succ]); (try simp only [List.set_cons_zero])
      refine wpAnyO_late (i := 9) (v := ?_) rfl (by kernel_rfl) (by kernel_rfl) (by kernel_rfl) (by kernel_rfl) (fun _ _ _ h => h) (Or.inl ⟨by rfl, ?_⟩) ?_
      rotate_left 1
      · intro w hSw
        clear hSw
        (go_simp) <;> (with_reducible rfl)
      (try simp only [Act.put]); (try simp only [List.getElem_toArray]); (try simp only [List.getElem_cons_succ]); (try simp only [List.getElem_cons_zero]); (try simp only [List.setIfInBounds_toArray]); (try simp only [List.set_cons_succ]); (try simp only [List.set_cons_zero])
      refine wpAnyO_ready (rs := [10]) (by kernel_rfl) (by simp) (AllO.cons rfl (fun K hK => ?_) AllO.nil)
      go_simp
      refine (value_code HVA.out (nestS 2 k) HLEN.out 5 HC1.out (by decide) _ HBE.out).mono ?_
      rintro e w2 ⟨p, q, hp, hq, ⟨a1, n1, d1, a2, n2, d2, rfl, rfl⟩, rfl, hb2⟩
      clear hp hq
      have EZ2 := Lib.hid ((hb2.block wd.heap.size hla).trans EZ.out)
      have hs2 := hb2.size
      have HB2 := Lib.hid (HBA.out.trans (hb2.mono (by have := HBA.out.size; omega)))
      clear hb2
      refine hK.out _ _ (fun hh => absurd hh (by decide)) ?_
      clear hK K
      (try dsimp only); (try simp only [List.getElem_toArray]); (try simp only [List.getElem_cons_succ]); (try simp only [List.getElem_cons_zero]); (try simp only [List.setIfInBounds_toArray]); (try simp only [List.set_cons_succ]); (try simp only [List.set_cons_zero])
      refine wpAnyO_late (i := 11) (v := ?_) rfl (by kernel_rfl) (by kernel_rfl) (by kernel_rfl) (by kernel_rfl) (fun _ _ _ h => h) (Or.inl ⟨by rfl, ?_⟩) ?_
      rotate_left 1
      · intro w hSw
        clear hSw
        (go_simp) <;> (with_reducible rfl)
      (try simp only [Act.put]); (try simp only [List.getElem_toArray]); (try simp only [List.getElem_cons_succ]); (try simp only [List.getElem_cons_zero]); (try simp only [List.setIfInBounds_toArray]); (try simp only [List.set_cons_succ]); (try simp only [List.set_cons_zero])
      refine wpAnyO_late (i := 12) (v := ?_) rfl (by kernel_rfl) (by kernel_rfl) (by kernel_rfl) (by kernel_rfl) (fun _ _ _ h => h) (Or.inl ⟨by rfl, ?_⟩) ?_
      rotate_left 1
      · intro w hSw
        clear hSw
        (go_simp) <;> (with_reducible rfl)
      (try simp only [Act.put]); (try simp only [List.getElem_toArray]); (try simp only [List.getElem_cons_succ]); (try simp only [List.getElem_cons_zero]); (try simp only [List.setIfInBounds_toArray]); (try simp only [List.set_cons_succ]); (try simp only [List.set_cons_zero])
      refine wpAnyO_late (i := 13) (v := ?_) rfl (by kernel_rfl) (by kernel_rfl) (by kernel_rfl) (by kernel_rfl) (fun _ _ _ h => h) (Or.inl ⟨by rfl, ?_⟩) ?_
      rotate_left 1
      · intro w hSw
        clear hSw
        (go_simp) <;> (with_reducible rfl)
      (try simp only [Act.put]); (try simp only [List.getElem_toArray]); (try simp only [List.getElem_cons_succ]); (try simp only [List.getElem_cons_zero]); (try simp only [List.setIfInBounds_toArray]); (try simp only [List.set_cons_succ]); (try simp only [List.set_cons_zero])
      have HB3 := HB2
      refine wpAnyO_ready (rs := [15]) (by kernel_rfl) (by simp) (AllO.cons rfl (fun K hK => ?_) AllO.nil)
      rw [if_pos (by rfl)]
      refine wp_store_all 28 _ _ rfl wd.heap.size _ #[.slice a1 n1 d1, .slice a2 n2 d2] rfl rfl EZ2.out rfl (by kernel_rfl) (by simp [Value.oneCell']) ?_
      intro w3 hU
      have HB4 := Lib.hid (below_setC HB3.out (by have := HB.out.size; omega) hU)
      clear hU
      refine hK.out _ _ (fun hh => absurd hh (by decide)) ?_
      clear hK K
      (try dsimp only); (try simp only [List.getElem_toArray]); (try simp only [List.getElem_cons_succ]); (try simp only [List.getElem_cons_zero]); (try simp only [List.setIfInBounds_toArray]); (try simp only [List.set_cons_succ]); (try simp only [List.set_cons_zero])
      refine wpAnyO_late (i := 16) (v := ?_) rfl (by kernel_rfl) (by kernel_rfl) (by kernel_rfl) (by kernel_rfl) (fun _ _ _ h => h) (Or.inl ⟨by rfl, ?_⟩) ?_
      rotate_left 1
      · intro w hSw
        clear hSw
        (go_simp) <;> (with_reducible rfl)
      (try simp only [Act.put]); (try simp only [List.getElem_toArray]); (try simp only [List.getElem_cons_succ]); (try simp only [List.getElem_cons_zero]); (try simp only [List.setIfInBounds_toArray]); (try simp only [List.set_cons_succ]); (try simp only [List.set_cons_zero])
      refine wpAnyO_done (by kernel_rfl) ?_ _
      have HV3 := Lib.hid (HV.out.below HB4.out)
      have hkm := HKM.out
      go_wp2_with fail
      refine (repeat_any [119, 104, 105, 108, 101, 32, 49, 32, 123, 32] km _ (by omega) (by decide)).mono ?_
      rintro e w' ⟨rfl, rfl⟩
      go_wp2_with fail
      refine (repeat_any [32, 125] k _ (by omega) (by decide)).mono ?_
      rintro e w' ⟨rfl, rfl⟩
      go_wp2_with fail
      refine (parse_code HV3.out (blockS k) HLB.out 5 HC2.out (by decide) _ HBB.out).mono ?_
      rintro e w5 ⟨p', q', l', ⟨b1, m1, g1, b2, m2, g2, rfl, rfl⟩, rfl, hb5⟩
      have hs5 := HB4.out.size
      have HB5 := Lib.hid (HB4.out.trans (hb5.mono hs5))
      have HV5 := Lib.hid (HV3.out.below hb5)
      clear hb5
      go_wp2_with fail
      refine (known_any (HV5.out.alloc _)).mono ?_
      rintro e w6 ⟨rfl, hb6⟩
      have hs6 := HB5.out.size
      have HB6 := Lib.hid ((HB5.out.alloc hs6 _).trans (hb6.mono (by simp; omega)))
      clear hb6
      go_wp2_with fail
      go_ret
      exact ⟨rfl, HB6.out⟩
  · go_simp
    have qa := held_alloc (.cells #[.slice none 0 0, .slice none 0 0] 28) EC.out
    have qz := heap_alloc_new wd (.cells #[.slice none 0 0, .slice none 0 0] 28)
    have qb := HB.out.alloc HB.out.size (.cells #[.slice none 0 0, .slice none 0 0] 28)
    obtain ⟨wa, HWA⟩ : ∃ U, Hid (wd.alloc (.cells #[.slice none 0 0, .slice none 0 0] 28) = U) := ⟨_, Lib.hid rfl⟩
    rw [HWA.out] at qa qz qb ⊢
    have EA := Lib.hid qa
    have EZ := Lib.hid qz
    have HBA := Lib.hid qb
    have HVA := Lib.hid (HV.out.below qb)
    have hla := (Array.getElem?_eq_some_iff.1 qz).1
    clear qa qz qb
    refine hK.out _ _ (fun _ => cells_two EA.out) ?_
    clear hK K
    (try dsimp only); (try simp only [List.getElem_toArray]); (try simp only [List.getElem_cons_succ]); (try simp only [List.getElem_cons_zero]); (try simp only [List.setIfInBounds_toArray]); (try simp only [List.set_cons_succ]); (try simp only [List.set_cons_zero])
    refine wpAnyO_ready (rs := [3]) (by kernel_rfl) (by simp) (AllO.cons rfl (fun K hK => ?_) AllO.nil)
    go_simp
    refine (repeat_any [116, 91] k _ (by omega) (by decide)).mono ?_
    rintro e w' ⟨rfl, rfl⟩
    refine hK.out _ _ (fun _ => cells_two EA.out) ?_
    clear hK K
    (try dsimp only); (try simp only [List.getElem_toArray]); (try simp only [List.getElem_cons_succ]); (try simp only [List.getElem_cons_zero]); (try simp only [List.setIfInBounds_toArray]); (try simp only [List.set_cons_succ]); (try simp only [List.set_cons_zero])
    refine wpAnyO_takeT (i := 4) (v := ?_) rfl (by kernel_rfl) (by kernel_rfl) (by kernel_rfl) (by kernel_rfl) (by kernel_rfl) (fun _ _ _ h => h) (Or.inl ⟨by rfl, ?_⟩) (show wa.cell? ⟨w.heap.size + 1, 0, none⟩ = some (.string ⟨#[116, 91]⟩) ∧ wa.cell? ⟨w.heap.size + 1, 1, none⟩ = some (.string ⟨#[93]⟩) from cells_two EA.out) ?_
    rotate_left 1
    · intro w' hSw
      clear hSw
      (go_simp) <;> (with_reducible rfl)
    (try simp only [Act.put]); (try simp only [List.getElem_toArray]); (try simp only [List.getElem_cons_succ]); (try simp only [List.getElem_cons_zero]); (try simp only [List.setIfInBounds_toArray]); (try simp only [List.set_cons_succ]); (try simp only [List.set_cons_zero])
    refine wpAnyO_ready (rs := [8]) (by kernel_rfl) (by simp) (AllO.cons rfl (fun K hK => ?_) AllO.nil)
    go_simp
    refine (repeat_any [93] k _ (by omega) (by decide)).mono ?_
    rintro e w' ⟨rfl, rfl⟩
    refine hK.out _ _ (fun _ => cells_two EA.out) ?_
    clear hK K
    (try dsimp only); (try simp only [List.getElem_toArray]); (try simp only [List.getElem_cons_succ]); (try simp only [List.getElem_cons_zero]); (try simp only [List.setIfInBounds_toArray]); (try simp only [List.set_cons_succ]); (try simp only [List.set_cons_zero])
    refine wpAnyO_late (i := 9) (v := ?_) rfl (by kernel_rfl) (by kernel_rfl) (by kernel_rfl) (by kernel_rfl) (fun _ _ _ h => h) (Or.inl ⟨by rfl, ?_⟩) ?_
    rotate_left 1
    · intro w hSw
      clear hSw
      (go_simp) <;> (with_reducible rfl)
    (try simp only [Act.put]); (try simp only [List.getElem_toArray]); (try simp only [List.getElem_cons_succ]); (try simp only [List.getElem_cons_zero]); (try simp only [List.setIfInBounds_toArray]); (try simp only [List.set_cons_succ]); (try simp only [List.set_cons_zero])
    refine wpAnyO_ready (rs := [10]) (by kernel_rfl) (by simp) (AllO.cons rfl (fun K hK => ?_) AllO.nil)
    go_simp
    refine (value_code HVA.out (nestS 2 k) HLEN.out 5 HC1.out (by decide) _ HBE.out).mono ?_
    rintro e w2 ⟨p, q, hp, hq, ⟨a1, n1, d1, a2, n2, d2, rfl, rfl⟩, rfl, hb2⟩
    clear hp hq
    have EZ2 := Lib.hid ((hb2.block wd.heap.size hla).trans EZ.out)
    have hs2 := hb2.size
    have HB2 := Lib.hid (HBA.out.trans (hb2.mono (by have := HBA.out.size; omega)))
    clear hb2
    refine hK.out _ _ (fun hh => absurd hh (by decide)) ?_
    clear hK K
    (try dsimp only); (try simp only [List.getElem_toArray]); (try simp only [List.getElem_cons_succ]); (try simp only [List.getElem_cons_zero]); (try simp only [List.setIfInBounds_toArray]); (try simp only [List.set_cons_succ]); (try simp only [List.set_cons_zero])
    refine wpAnyO_late (i := 11) (v := ?_) rfl (by kernel_rfl) (by kernel_rfl) (by kernel_rfl) (by kernel_rfl) (fun _ _ _ h => h) (Or.inl ⟨by rfl, ?_⟩) ?_
    rotate_left 1
    · intro w hSw
      clear hSw
      (go_simp) <;> (with_reducible rfl)
    (try simp only [Act.put]); (try simp only [List.getElem_toArray]); (try simp only [List.getElem_cons_succ]); (try simp only [List.getElem_cons_zero]); (try simp only [List.setIfInBounds_toArray]); (try simp only [List.set_cons_succ]); (try simp only [List.set_cons_zero])
    refine wpAnyO_late (i := 12) (v := ?_) rfl (by kernel_rfl) (by kernel_rfl) (by kernel_rfl) (by kernel_rfl) (fun _ _ _ h => h) (Or.inl ⟨by rfl, ?_⟩) ?_
    rotate_left 1
    · intro w hSw
      clear hSw
      (go_simp) <;> (with_reducible rfl)
    (try simp only [Act.put]); (try simp only [List.getElem_toArray]); (try simp only [List.getElem_cons_succ]); (try simp only [List.getElem_cons_zero]); (try simp only [List.setIfInBounds_toArray]); (try simp only [List.set_cons_succ]); (try simp only [List.set_cons_zero])
    refine wpAnyO_late (i := 13) (v := ?_) rfl (by kernel_rfl) (by kernel_rfl) (by kernel_rfl) (by kernel_rfl) (fun _ _ _ h => h) (Or.inl ⟨by rfl, ?_⟩) ?_
    rotate_left 1
    · intro w hSw
      clear hSw
      (go_simp) <;> (with_reducible rfl)
    (try simp only [Act.put]); (try simp only [List.getElem_toArray]); (try simp only [List.getElem_cons_succ]); (try simp only [List.getElem_cons_zero]); (try simp only [List.setIfInBounds_toArray]); (try simp only [List.set_cons_succ]); (try simp only [List.set_cons_zero])
    have HB3 := HB2
    refine wpAnyO_ready (rs := [15]) (by kernel_rfl) (by simp) (AllO.cons rfl (fun K hK => ?_) AllO.nil)
    rw [if_pos (by rfl)]
    refine wp_store_all 28 _ _ rfl wd.heap.size _ #[.slice a1 n1 d1, .slice a2 n2 d2] rfl rfl EZ2.out rfl (by kernel_rfl) (by simp [Value.oneCell']) ?_
    intro w3 hU
    have HB4 := Lib.hid (below_setC HB3.out (by have := HB.out.size; omega) hU)
    clear hU
    refine hK.out _ _ (fun hh => absurd hh (by decide)) ?_
    clear hK K
    (try dsimp only); (try simp only [List.getElem_toArray]); (try simp only [List.getElem_cons_succ]); (try simp only [List.getElem_cons_zero]); (try simp only [List.setIfInBounds_toArray]); (try simp only [List.set_cons_succ]); (try simp only [List.set_cons_zero])
    refine wpAnyO_late (i := 16) (v := ?_) rfl (by kernel_rfl) (by kernel_rfl) (by kernel_rfl) (by kernel_rfl) (fun _ _ _ h => h) (Or.inl ⟨by rfl, ?_⟩) ?_
    rotate_left 1
    · intro w hSw
      clear hSw
      (go_simp) <;> (with_reducible rfl)
    (try simp only [Act.put]); (try simp only [List.getElem_toArray]); (try simp only [List.getElem_cons_succ]); (try simp only [List.getElem_cons_zero]); (try simp only [List.setIfInBounds_toArray]); (try simp only [List.set_cons_succ]); (try simp only [List.set_cons_zero])
    refine wpAnyO_done (by kernel_rfl) ?_ _
    have HV3 := Lib.hid (HV.out.below HB4.out)
    have hkm := HKM.out
    go_wp2_with fail
    refine (repeat_any [119, 104, 105, 108, 101, 32, 49, 32, 123, 32] km _ (by omega) (by decide)).mono ?_
    rintro e w' ⟨rfl, rfl⟩
    go_wp2_with fail
    refine (repeat_any [32, 125] k _ (by omega) (by decide)).mono ?_
    rintro e w' ⟨rfl, rfl⟩
    go_wp2_with fail
    refine (parse_code HV3.out (blockS k) HLB.out 5 HC2.out (by decide) _ HBB.out).mono ?_
    rintro e w5 ⟨p', q', l', ⟨b1, m1, g1, b2, m2, g2, rfl, rfl⟩, rfl, hb5⟩
    have hs5 := HB4.out.size
    have HB5 := Lib.hid (HB4.out.trans (hb5.mono hs5))
    have HV5 := Lib.hid (HV3.out.below hb5)
    clear hb5
    go_wp2_with fail
    refine (known_any (HV5.out.alloc _)).mono ?_
    rintro e w6 ⟨rfl, hb6⟩
    have hs6 := HB5.out.size
    have HB6 := Lib.hid ((HB5.out.alloc hs6 _).trans (hb6.mono (by simp; omega)))
    clear hb6
    go_wp2_with fail
    go_ret
    exact ⟨rfl, HB6.out⟩
end Go.Proofs.YtpbnelkbmlkdaaaDoor
