/-
  The law ParserParens, walked: it answers true. Condition: the packages' variables.
-/
import Derived.Test.YtpfefjfpnmchcaaDoorZLo
import Derived.Test.YtpfefjfpnmchcaaDoorZSa
namespace Go.Proofs.YtpfefjfpnmchcaaDoor
open Go.RowKit

theorem sumL (a b : ByteArray) (h : a.size + b.size ≤ 9223372036854775807) : ∀ W : World, (Op.stringOp .add a b).run Tryd.prog W = .ok (.string (a ++ b)) W := fun W => run_string_add_sum W a b h
theorem opd_length {k : Nat} (h : k < 8) : (opd k).length ≤ 8 := by
  rcases (by omega : k = 0 ∨ k = 1 ∨ k = 2 ∨ k = 3 ∨ k = 4 ∨ k = 5 ∨ k = 6 ∨ k = 7) with rfl | rfl | rfl | rfl | rfl | rfl | rfl | rfl <;> decide
theorem sgn_length {k : Nat} (h : k < 12) : (sgn k).length ≤ 2 := by
  rcases (by omega : k = 0 ∨ k = 1 ∨ k = 2 ∨ k = 3 ∨ k = 4 ∨ k = 5 ∨ k = 6 ∨ k = 7 ∨ k = 8 ∨ k = 9 ∨ k = 10 ∨ k = 11) with rfl | rfl | rfl | rfl | rfl | rfl | rfl | rfl | rfl | rfl | rfl | rfl <;> decide
/-- What value answers of a text that is parsed, its program opened. -/
theorem value_open {w : World} (hV : VarsAt w) (b : ByteArray) (s : List UInt8) (hb : b = ⟨s.toArray⟩) (hs : s.length ≤ 10000) (x : Prg) (rest : List Tok) (hR : parseP 400 (valSrc s) = .ok x rest) :
    Calls Tryd.prog 9 #[.string b] w fun e w' => ∃ A c A' c', e = .returned (.tuple #[.agg #[.slice A x.recs.length c, .slice A' x.funs.length c'], .int .i64 0]) ∧ PrgIs w' (fun b => w.heap.size ≤ b) (.agg #[.slice A x.recs.length c, .slice A' x.funs.length c']) x ∧ Below w.heap.size w w' := by
  subst hb
  refine (value_ok hV s hs 400 (by omega) x rest hR).mono ?_
  rintro e w' ⟨v, rfl, hv, hb⟩
  have h2 := hv
  obtain ⟨A, c, A', c', rfl, _, _⟩ := h2
  exact ⟨A, c, A', c', rfl, hv, hb⟩
theorem PrgIs.below {w w' : World} {p : Nat → Prop} {v : Value} {x : Prg} (h : PrgIs w p v x) (hb : Below w.heap.size w w') : PrgIs w' p v x := by
  obtain ⟨A, c, A', c', rfl, h1, h2⟩ := h
  exact ⟨A, c, A', c', rfl, recs_below h1 hb, funs_below h2 hb⟩
theorem plain_bytes (i j k : Nat) : (⟨(opd i).toArray⟩ : ByteArray) ++ ⟨(sgn k).toArray⟩ ++ ⟨(opd j).toArray⟩ = ⟨(plainS i j k).toArray⟩ := by
  rw [bytes_append, bytes_append, List.append_assoc]
  rfl
theorem paren_bytes (i j k : Nat) : (⟨#[40, 40]⟩ : ByteArray) ++ ⟨(opd i).toArray⟩ ++ ⟨#[41]⟩ ++ ⟨(sgn k).toArray⟩ ++ ⟨#[40]⟩ ++ ⟨(opd j).toArray⟩ ++ ⟨#[41, 41]⟩ = ⟨(parenS i j k).toArray⟩ := by
  rw [show (⟨#[40, 40]⟩ : ByteArray) = ⟨([40, 40] : List UInt8).toArray⟩ from rfl, show (⟨#[41]⟩ : ByteArray) = ⟨([41] : List UInt8).toArray⟩ from rfl, show (⟨#[40]⟩ : ByteArray) = ⟨([40] : List UInt8).toArray⟩ from rfl, show (⟨#[41, 41]⟩ : ByteArray) = ⟨([41, 41] : List UInt8).toArray⟩ from rfl]
  simp only [bytes_append, parenS, List.append_assoc]
theorem size_bytes (l : List UInt8) : (⟨l.toArray⟩ : ByteArray).size = l.length := by simp [ByteArray.size]
theorem size_append (a b : ByteArray) : (a ++ b).size = a.size + b.size := ByteArray.size_append
set_option maxHeartbeats 8000000 in
set_option maxRecDepth 100000 in
theorem parens_any (a b x : Int) (w : World) (hV : VarsAt w) (h1 : a < 9223372036854775808) (h2 : b < 9223372036854775808) (h3 : x < 9223372036854775808) :
    Calls Tryd.prog 4 #[.int .i64 a, .int .i64 b, .int .i64 x] w fun e w' => e = .returned (.bool true) ∧ Below w.heap.size w w' := by
  obtain ⟨i, hi⟩ : ∃ i : Nat, a % 8 = (i : Int) := ⟨(a % 8).toNat, by omega⟩
  obtain ⟨j, hj⟩ : ∃ i : Nat, b % 8 = (i : Int) := ⟨(b % 8).toNat, by omega⟩
  obtain ⟨k, hk⟩ : ∃ i : Nat, x % 12 = (i : Int) := ⟨(x % 12).toNat, by omega⟩
  have hi8 : i < 8 := by omega
  have hj8 : j < 8 := by omega
  have hk12 : k < 12 := by omega
  obtain ⟨P, r, r', hP, hQ⟩ := parens_same hi8 hj8 hk12
  have HI := Lib.hid hi
  have HJ := Lib.hid hj
  have HK := Lib.hid hk
  have HP := Lib.hid hP
  have HQ := Lib.hid hQ
  have HV := Lib.hid hV
  have li := opd_length hi8
  have lj := opd_length hj8
  have lk := sgn_length hk12
  have t1 := sumL ⟨(opd i).toArray⟩ ⟨(sgn k).toArray⟩ (by simp only [size_bytes]; omega)
  have t2 := sumL (⟨(opd i).toArray⟩ ++ ⟨(sgn k).toArray⟩) ⟨(opd j).toArray⟩ (by simp only [size_bytes, size_append]; omega)
  have u1 := sumL ⟨#[40, 40]⟩ ⟨(opd i).toArray⟩ (by simp only [size_bytes]; show 2 + _ ≤ _; omega)
  have u2 := sumL (⟨#[40, 40]⟩ ++ ⟨(opd i).toArray⟩) ⟨#[41]⟩ (by simp only [size_bytes, size_append]; show 2 + _ + 1 ≤ _; omega)
  have u3 := sumL (⟨#[40, 40]⟩ ++ ⟨(opd i).toArray⟩ ++ ⟨#[41]⟩) ⟨(sgn k).toArray⟩ (by simp only [size_bytes, size_append]; show 2 + _ + 1 + _ ≤ _; omega)
  have u4 := sumL (⟨#[40, 40]⟩ ++ ⟨(opd i).toArray⟩ ++ ⟨#[41]⟩ ++ ⟨(sgn k).toArray⟩) ⟨#[40]⟩ (by simp only [size_bytes, size_append]; show 2 + _ + 1 + _ + 1 ≤ _; omega)
  have u5 := sumL (⟨#[40, 40]⟩ ++ ⟨(opd i).toArray⟩ ++ ⟨#[41]⟩ ++ ⟨(sgn k).toArray⟩ ++ ⟨#[40]⟩) ⟨(opd j).toArray⟩ (by simp only [size_bytes, size_append]; show 2 + _ + 1 + _ + 1 + _ ≤ _; omega)
  have u6 := sumL (⟨#[40, 40]⟩ ++ ⟨(opd i).toArray⟩ ++ ⟨#[41]⟩ ++ ⟨(sgn k).toArray⟩ ++ ⟨#[40]⟩ ++ ⟨(opd j).toArray⟩) ⟨#[41, 41]⟩ (by simp only [size_bytes, size_append]; show 2 + _ + 1 + _ + 1 + _ + 2 ≤ _; omega)
  have l1 : (plainS i j k).length ≤ 10000 := by simp only [plainS, List.length_append]; omega
  have l2 : (parenS i j k).length ≤ 10000 := by simp only [parenS, List.length_append, List.length_cons, List.length_nil]; omega
  have L1 := Lib.hid l1
  have L2 := Lib.hid l2
  clear hi hj hk hP hQ hV l1 l2
  go_enter Tryd.func4, Tryd.ntmps4
  go_wp2_with fail
  refine (operatorL x k _ h3 hk12 HK).mono ?_
  rintro e w1 ⟨rfl, hb1⟩
  have HB1 := Lib.hid hb1
  have HV1 := Lib.hid (HV.out.below hb1)
  clear hb1
  go_wp2_with fail
  refine (operandL a i _ h1 hi8 HI).mono ?_
  rintro e w2 ⟨rfl, hb2⟩
  have HB2 := Lib.hid (HB1.out.trans (hb2.mono HB1.out.size))
  have HV2 := Lib.hid (HV1.out.below hb2)
  clear hb2
  go_wp2_with fail
  refine (operandL b j _ h2 hj8 HJ).mono ?_
  rintro e w3 ⟨rfl, hb3⟩
  have HB3 := Lib.hid (HB2.out.trans (hb3.mono HB2.out.size))
  have HV3 := Lib.hid (HV2.out.below hb3)
  clear hb3
  go_wp2_with fail
  refine (value_open HV3.out _ _ (plain_bytes i j k) L1.out P r HP.out).mono ?_
  rintro e w4 ⟨A, c, A', c', rfl, hp4, hb4⟩
  have HB4 := Lib.hid (HB3.out.trans (hb4.mono HB3.out.size))
  have HV4 := Lib.hid (HV3.out.below hb4)
  have HP4 := Lib.hid hp4
  clear hb4 hp4 t1 t2
  go_wp2_with fail
  have e5 := heap_alloc_new w4 (.cells #[.slice A P.recs.length c, .slice A' P.funs.length c'] 28)
  have HP5 := Lib.hid (HP4.out.below ((Below.refl _ w4).alloc (Nat.le_refl _) (.cells #[.slice A P.recs.length c, .slice A' P.funs.length c'] 28)))
  have HB5 := Lib.hid (HB4.out.alloc HB4.out.size (.cells #[.slice A P.recs.length c, .slice A' P.funs.length c'] 28))
  have HV5 := Lib.hid (HV4.out.alloc (.cells #[.slice A P.recs.length c, .slice A' P.funs.length c'] 28))
  have s5 : w4.heap.size < (w4.alloc (.cells #[.slice A P.recs.length c, .slice A' P.funs.length c'] 28)).heap.size := by simp
  obtain ⟨w5, HW5⟩ : ∃ U, Hid (w4.alloc (.cells #[.slice A P.recs.length c, .slice A' P.funs.length c'] 28) = U) := ⟨_, Lib.hid rfl⟩
  rw [HW5.out] at e5 HP5 HB5 HV5 s5 ⊢
  have E5 := Lib.hid e5
  clear e5
  refine (operandL a i _ h1 hi8 HI).mono ?_
  rintro e w6 ⟨rfl, hb6⟩
  have HB6 := Lib.hid (HB5.out.trans (hb6.mono HB5.out.size))
  have HV6 := Lib.hid (HV5.out.below hb6)
  have HP6 := Lib.hid (HP5.out.below hb6)
  have E6 := Lib.hid ((hb6.block _ s5).trans E5.out)
  have s6 : w4.heap.size < w6.heap.size := Nat.lt_of_lt_of_le s5 hb6.size
  clear hb6
  go_wp2_with fail
  refine (operandL b j _ h2 hj8 HJ).mono ?_
  rintro e w7 ⟨rfl, hb7⟩
  have HB7 := Lib.hid (HB6.out.trans (hb7.mono HB6.out.size))
  have HV7 := Lib.hid (HV6.out.below hb7)
  have HP7 := Lib.hid (HP6.out.below hb7)
  have E7 := Lib.hid ((hb7.block _ s6).trans E6.out)
  have s7 : w4.heap.size < w7.heap.size := Nat.lt_of_lt_of_le s6 hb7.size
  clear hb7
  go_wp2_with fail
  refine (value_open HV7.out _ _ (paren_bytes i j k) L2.out P r' HQ.out).mono ?_
  rintro e w8 ⟨B, d, B', d', rfl, hp8, hb8⟩
  have HB8 := Lib.hid (HB7.out.trans (hb8.mono HB7.out.size))
  have HV8 := Lib.hid (HV7.out.below hb8)
  have HP8 := Lib.hid (HP7.out.below hb8)
  have E8 := Lib.hid ((hb8.block _ s7).trans E7.out)
  have s8 : w4.heap.size < w8.heap.size := Nat.lt_of_lt_of_le s7 hb8.size
  have HQ8 := Lib.hid hp8
  clear hb8 hp8 u1 u2 u3 u4 u5 u6
  have hab := (Below.refl _ w8).alloc (Nat.le_refl _) (.cells #[.slice B P.recs.length d, .slice B' P.funs.length d'] 28)
  have HP9 := Lib.hid (HP8.out.below hab)
  have HQ9 := Lib.hid (HQ8.out.below hab)
  have HV9 := Lib.hid (HV8.out.below hab)
  have HB9 := Lib.hid (HB8.out.trans (hab.mono HB8.out.size))
  have e8 := held_alloc (.cells #[.slice B P.recs.length d, .slice B' P.funs.length d'] 28) E8.out
  have e9 := heap_alloc_new w8 (.cells #[.slice B P.recs.length d, .slice B' P.funs.length d'] 28)
  obtain ⟨c0, c1⟩ := cells_two e8
  obtain ⟨d0, d1⟩ := cells_two e9
  have hne : ¬ w4.heap.size = w8.heap.size := by omega
  clear hab e8 e9
  go_wp2_with fail
  refine (program_same true HP9.out HQ9.out).mono ?_
  rintro e w10 ⟨rfl, hb10⟩
  have HV10 := Lib.hid (HV9.out.below hb10)
  have HB10 := Lib.hid (HB9.out.trans (hb10.mono HB9.out.size))
  clear hb10 c0 c1 d0 d1
  go_wp2_with fail
  refine (known_any HV10.out).mono ?_
  rintro e w11 ⟨rfl, hb11⟩
  have HB11 := Lib.hid (HB10.out.trans (hb11.mono HB10.out.size))
  clear hb11
  go_wp2_with fail
  go_ret
  exact ⟨rfl, HB11.out⟩
end Go.Proofs.YtpfefjfpnmchcaaDoor
