/-
  Plain: how the three texts of ParserLevels are parsed. No condition. The law ParserLevels, walked: it answers true. Condition: the packages' variables.
-/
import Derived.Test.YtpfefjfpnmchcaaDoorZLl
import Derived.Test.YtpfefjfpnmchcaaDoorZLp
namespace Go.Proofs.YtpfefjfpnmchcaaDoor

theorem opd_len {k : Nat} (h : k < 8) : (opd k).length ≤ 8 := by
  rcases (by omega : k = 0 ∨ k = 1 ∨ k = 2 ∨ k = 3 ∨ k = 4 ∨ k = 5 ∨ k = 6 ∨ k = 7) with rfl | rfl | rfl | rfl | rfl | rfl | rfl | rfl <;> decide
theorem sgn_len {k : Nat} (h : k < 12) : (sgn k).length ≤ 2 := by
  rcases (by omega : k = 0 ∨ k = 1 ∨ k = 2 ∨ k = 3 ∨ k = 4 ∨ k = 5 ∨ k = 6 ∨ k = 7 ∨ k = 8 ∨ k = 9 ∨ k = 10 ∨ k = 11) with rfl | rfl | rfl | rfl | rfl | rfl | rfl | rfl | rfl | rfl | rfl | rfl <;> decide
theorem parse_seg {s : List UInt8} {ts : List Tok} (h : Seg s ts) (n : Nat) : parseP n s = progP n (ts ++ [eofT]) := by
  unfold parseP
  rw [h.scan]
  rfl
section
variable {i j c x y : Nat} (hi : i < 8) (hj : j < 8) (hc : c < 8) (hx : x < 12) (hy : y < 12)
include hi hj hc hx hy
theorem got_seg : Seg (valSrc (gotS i j c x y)) (prePT ++ (opdT i ++ ([sgT (sgn x)] ++ ((opdT j ++ sgT (sgn y) :: (opdT c ++ [sgT [59]])) ++ [sgT [125]])))) := by
  have li := opd_len hi
  have lj := opd_len hj
  have lc := opd_len hc
  have lx := sgn_len hx
  have ly := sgn_len hy
  have e : valSrc (gotS i j c x y) = pre0 ++ 32 :: (opd i ++ 32 :: (sgn x ++ 32 :: ((opd j ++ (sgn y ++ (opd c ++ [59]))) ++ 32 :: [125]))) := by simp [valSrc, valPre, gotS, pre0]
  have lp : pre0.length = 16 := rfl
  rw [e]
  refine seg_pre.join ((seg_opd hi).join ((seg_sgn hx).join ((seg_tail hj hy hc).join seg_end ?_) ?_) ?_) ?_
  all_goals
    simp only [List.length_append, List.length_cons, List.length_nil]
    omega
theorem left_seg : Seg (valSrc (leftS i j c x y)) (prePT ++ ((sgT [40] :: opdT i) ++ ([sgT (sgn x)] ++ ((opdT j ++ [sgT [41]]) ++ ([sgT (sgn y)] ++ ((opdT c ++ [sgT [59]]) ++ [sgT [125]])))))) := by
  have li := opd_len hi
  have lj := opd_len hj
  have lc := opd_len hc
  have lx := sgn_len hx
  have ly := sgn_len hy
  have e : valSrc (leftS i j c x y) = pre0 ++ 32 :: (([40] ++ opd i) ++ 32 :: (sgn x ++ 32 :: ((opd j ++ [41]) ++ 32 :: (sgn y ++ 32 :: ((opd c ++ [59]) ++ 32 :: [125]))))) := by simp [valSrc, valPre, leftS, pre0]
  have lp : pre0.length = 16 := rfl
  rw [e]
  refine seg_pre.join ((seg_open hi).join ((seg_sgn hx).join ((seg_shut hj).join ((seg_sgn hy).join ((seg_semi hc).join seg_end ?_) ?_) ?_) ?_) ?_) ?_
  all_goals
    simp only [List.length_append, List.length_cons, List.length_nil]
    omega
theorem right_seg : Seg (valSrc (rightS i j c x y)) (prePT ++ (opdT i ++ ([sgT (sgn x)] ++ ((sgT [40] :: opdT j) ++ ([sgT (sgn y)] ++ ((opdT c ++ [sgT [41], sgT [59]]) ++ [sgT [125]])))))) := by
  have li := opd_len hi
  have lj := opd_len hj
  have lc := opd_len hc
  have lx := sgn_len hx
  have ly := sgn_len hy
  have e : valSrc (rightS i j c x y) = pre0 ++ 32 :: (opd i ++ 32 :: (sgn x ++ 32 :: (([40] ++ opd j) ++ 32 :: (sgn y ++ 32 :: ((opd c ++ [41, 59]) ++ 32 :: [125]))))) := by simp [valSrc, valPre, rightS, pre0]
  have lp : pre0.length = 16 := rfl
  rw [e]
  refine seg_pre.join ((seg_opd hi).join ((seg_sgn hx).join ((seg_open hj).join ((seg_sgn hy).join ((seg_both hc).join seg_end ?_) ?_) ?_) ?_) ?_) ?_
  all_goals
    simp only [List.length_append, List.length_cons, List.length_nil]
    omega
def leftE (i j c x y : Nat) : Ex := bin (6 + y) (bin (6 + x) (opdE i) (opdE j)) (opdE c)
def rightE (i j c x y : Nat) : Ex := bin (6 + x) (opdE i) (bin (6 + y) (opdE j) (opdE c))
theorem left_parse : parseP 400 (valSrc (leftS i j c x y)) = .ok (prgOf (leftE i j c x y)) [eofT] := by
  rw [parse_seg (left_seg hi hj hc hx hy)]
  have hs := stops_close [59] (.inr (.inr rfl)) [sgT [125], eofT]
  have h := op_two (op_sgn hy) (Nat.zero_le 6) (paren_two (op_sgn hx) (L := 6) (by omega) (unit_opd hi) (unit_opd hj)) ((unit_opd hc).more (by omega) (by omega)) hs.1 (Nat.le_refl 1) (op_sgn hy).lo (fun r a b => hs.2 r a b) (395 + 2) (by omega)
  have := prog_value 395 h
  simpa [leftE] using this
theorem right_parse : parseP 400 (valSrc (rightS i j c x y)) = .ok (prgOf (rightE i j c x y)) [eofT] := by
  rw [parse_seg (right_seg hi hj hc hx hy)]
  have hs := stops_close [59] (.inr (.inr rfl)) [sgT [125], eofT]
  have h := op_two (op_sgn hx) (Nat.zero_le 6) ((unit_opd hi).more (by omega) (by omega)) (paren_two (op_sgn hy) (L := 6) (by omega) (unit_opd hj) (unit_opd hc)) hs.1 (Nat.le_refl 1) (op_sgn hx).lo (fun r a b => hs.2 r a b) (395 + 2) (by omega)
  have := prog_value 395 h
  simpa [rightE] using this
theorem got_two (h1 : lvl x = 1) (h2 : lvl y = 1) : parseP 400 (valSrc (gotS i j c x y)) = .err 1 7 := by
  rw [parse_seg (got_seg hi hj hc hx hy)]
  have hox := op_sgn hx
  have hoy := op_sgn hy
  rw [h1] at hox
  rw [h2] at hoy
  have h := three_two (ts := opdT c ++ [sgT [59], sgT [125], eofT]) hox hoy (Nat.zero_le 7) (unit_opd hi) (unit_opd hj) (395 + 2) (by omega)
  have hne : (sgT (sgn y)).text ≠ [59] := by
    rcases (by omega : y = 0 ∨ y = 1 ∨ y = 2 ∨ y = 3 ∨ y = 4 ∨ y = 5 ∨ y = 6 ∨ y = 7 ∨ y = 8 ∨ y = 9 ∨ y = 10 ∨ y = 11) with rfl | rfl | rfl | rfl | rfl | rfl | rfl | rfl | rfl | rfl | rfl | rfl <;> decide
  have := prog_refused 395 h hne
  rw [show (sgT (sgn y)).line = 1 from rfl] at this
  simpa using this
theorem got_right (hlt : lvl x < lvl y) : parseP 400 (valSrc (gotS i j c x y)) = .ok (prgOf (rightE i j c x y)) [eofT] := by
  rw [parse_seg (got_seg hi hj hc hx hy)]
  have hs := stops_close [59] (.inr (.inr rfl)) [sgT [125], eofT]
  have h := three_right (op_sgn hx) (op_sgn hy) (Nat.zero_le 7) (unit_opd hi) (unit_opd hj) (unit_opd hc) hs hlt (395 + 2) (by omega)
  have := prog_value 395 h
  simpa [rightE] using this
theorem got_left (hlt : ¬ lvl x < lvl y) (hne : ¬ (lvl x = 1 ∧ lvl y = 1)) : parseP 400 (valSrc (gotS i j c x y)) = .ok (prgOf (leftE i j c x y)) [eofT] := by
  rw [parse_seg (got_seg hi hj hc hx hy)]
  have hs := stops_close [59] (.inr (.inr rfl)) [sgT [125], eofT]
  by_cases heq : lvl x = lvl y
  · have hoy := op_sgn hy
    rw [← heq] at hoy
    have h := three_same (op_sgn hx) hoy (Nat.zero_le 7) (unit_opd hi) (unit_opd hj) (unit_opd hc) hs (fun e => hne ⟨e, by omega⟩) (395 + 2) (by omega)
    have := prog_value 395 h
    simpa [leftE] using this
  · have h := three_left (op_sgn hx) (op_sgn hy) (Nat.zero_le 7) (unit_opd hi) (unit_opd hj) (unit_opd hc) hs (by omega) (395 + 2) (by omega)
    have := prog_value 395 h
    simpa [leftE] using this
end
end Go.Proofs.YtpfefjfpnmchcaaDoor
namespace Go.Proofs.YtpfefjfpnmchcaaDoor
open Go.RowKit

theorem got_bytes (i j c x y : Nat) : (⟨(opd i).toArray⟩ : ByteArray) ++ ⟨#[32]⟩ ++ ⟨(sgn x).toArray⟩ ++ ⟨#[32]⟩ ++ ⟨(opd j).toArray⟩ ++ ⟨(sgn y).toArray⟩ ++ ⟨(opd c).toArray⟩ = ⟨(gotS i j c x y).toArray⟩ := by
  rw [show (⟨#[32]⟩ : ByteArray) = ⟨([32] : List UInt8).toArray⟩ from rfl]
  simp only [bytes_append, gotS, List.append_assoc]
theorem left_bytes (i j c x y : Nat) : (⟨#[40]⟩ : ByteArray) ++ ⟨(opd i).toArray⟩ ++ ⟨#[32]⟩ ++ ⟨(sgn x).toArray⟩ ++ ⟨#[32]⟩ ++ ⟨(opd j).toArray⟩ ++ ⟨#[41, 32]⟩ ++ ⟨(sgn y).toArray⟩ ++ ⟨#[32]⟩ ++ ⟨(opd c).toArray⟩ = ⟨(leftS i j c x y).toArray⟩ := by
  rw [show (⟨#[32]⟩ : ByteArray) = ⟨([32] : List UInt8).toArray⟩ from rfl, show (⟨#[40]⟩ : ByteArray) = ⟨([40] : List UInt8).toArray⟩ from rfl, show (⟨#[41, 32]⟩ : ByteArray) = ⟨([41, 32] : List UInt8).toArray⟩ from rfl]
  simp only [bytes_append, leftS, List.append_assoc]
theorem right_bytes (i j c x y : Nat) : (⟨(opd i).toArray⟩ : ByteArray) ++ ⟨#[32]⟩ ++ ⟨(sgn x).toArray⟩ ++ ⟨#[32, 40]⟩ ++ ⟨(opd j).toArray⟩ ++ ⟨#[32]⟩ ++ ⟨(sgn y).toArray⟩ ++ ⟨#[32]⟩ ++ ⟨(opd c).toArray⟩ ++ ⟨#[41]⟩ = ⟨(rightS i j c x y).toArray⟩ := by
  rw [show (⟨#[32, 40]⟩ : ByteArray) = ⟨([32, 40] : List UInt8).toArray⟩ from rfl, show (⟨#[32]⟩ : ByteArray) = ⟨([32] : List UInt8).toArray⟩ from rfl, show (⟨#[41]⟩ : ByteArray) = ⟨([41] : List UInt8).toArray⟩ from rfl]
  simp only [bytes_append, rightS, List.append_assoc]
theorem lvl_pos {x : Nat} (h : x < 12) : 1 ≤ lvl x ∧ lvl x ≤ 4 := ⟨(op_sgn h).lo, (op_sgn h).hi⟩
theorem value_err' {w : World} (hV : VarsAt w) (b : ByteArray) (s : List UInt8) (hb : b = ⟨s.toArray⟩) (hs : s.length ≤ 10000) (l k : Nat) (hR : parseP 400 (valSrc s) = .err l k) :
    Calls Tryd.prog 9 #[.string b] w fun e w' => e = .returned (.tuple #[.agg #[.slice none 0 0, .slice none 0 0], .int .i64 k]) ∧ Below w.heap.size w w' := by
  subst hb
  exact value_err hV s hs 400 (by omega) l k hR
set_option maxHeartbeats 8000000 in
set_option maxRecDepth 100000 in
theorem levels_two (a b cc xx yy : Int) (w : World) (hV : VarsAt w) (h1 : a < 9223372036854775808) (h2 : b < 9223372036854775808) (h3 : cc < 9223372036854775808) (h4 : xx < 9223372036854775808) (h5 : yy < 9223372036854775808) (i j c x y : Nat) (hi8 : i < 8) (hj8 : j < 8) (hc8 : c < 8) (hx12 : x < 12) (hy12 : y < 12) (HI : Hid (a % 8 = (i : Int))) (HJ : Hid (b % 8 = (j : Int))) (HC : Hid (cc % 8 = (c : Int))) (HX : Hid (xx % 12 = (x : Int))) (HY : Hid (yy % 12 = (y : Int))) (e1 : lvl x = 1) (e2 : lvl y = 1) :
    Calls Tryd.prog 3 #[.int .i64 a, .int .i64 b, .int .i64 cc, .int .i64 xx, .int .i64 yy] w fun e w' => e = .returned (.bool true) ∧ Below w.heap.size w w' := by
  have q1 : ((lvl x : Int) == 1) = true := by simp; omega
  have q2 : ((lvl y : Int) == 1) = true := by simp; omega
  have hlen1 : (gotS i j c x y).length ≤ 10000 := by have := opd_len hi8; have := opd_len hj8; have := opd_len hc8; have := sgn_len hx12; have := sgn_len hy12; simp only [gotS, List.length_append, List.length_cons, List.length_nil]; omega
  have L1 := Lib.hid hlen1
  clear hlen1
  have PG := Lib.hid (got_two hi8 hj8 hc8 hx12 hy12 e1 e2)
  clear e1 e2
  have HV0 := Lib.hid hV
  have HB0 := Lib.hid (Below.refl w.heap.size w)
  have li := opd_len hi8
  have lj := opd_len hj8
  have lc := opd_len hc8
  have lx := sgn_len hx12
  have ly := sgn_len hy12
  have t1 := sumL (⟨#[40]⟩) ⟨(opd i).toArray⟩ (by simp only [size_bytes, List.length_cons, List.length_nil]; omega)
  have t2 := sumL ((⟨#[40]⟩ : ByteArray) ++ ⟨(opd i).toArray⟩) ⟨#[32]⟩ (by simp only [size_append, size_bytes, List.length_cons, List.length_nil]; omega)
  have t3 := sumL ((⟨#[40]⟩ : ByteArray) ++ ⟨(opd i).toArray⟩ ++ ⟨#[32]⟩) ⟨(sgn x).toArray⟩ (by simp only [size_append, size_bytes, List.length_cons, List.length_nil]; omega)
  have t4 := sumL ((⟨#[40]⟩ : ByteArray) ++ ⟨(opd i).toArray⟩ ++ ⟨#[32]⟩ ++ ⟨(sgn x).toArray⟩) ⟨#[32]⟩ (by simp only [size_append, size_bytes, List.length_cons, List.length_nil]; omega)
  have t5 := sumL ((⟨#[40]⟩ : ByteArray) ++ ⟨(opd i).toArray⟩ ++ ⟨#[32]⟩ ++ ⟨(sgn x).toArray⟩ ++ ⟨#[32]⟩) ⟨(opd j).toArray⟩ (by simp only [size_append, size_bytes, List.length_cons, List.length_nil]; omega)
  have t6 := sumL ((⟨#[40]⟩ : ByteArray) ++ ⟨(opd i).toArray⟩ ++ ⟨#[32]⟩ ++ ⟨(sgn x).toArray⟩ ++ ⟨#[32]⟩ ++ ⟨(opd j).toArray⟩) ⟨#[41, 32]⟩ (by simp only [size_append, size_bytes, List.length_cons, List.length_nil]; omega)
  have t7 := sumL ((⟨#[40]⟩ : ByteArray) ++ ⟨(opd i).toArray⟩ ++ ⟨#[32]⟩ ++ ⟨(sgn x).toArray⟩ ++ ⟨#[32]⟩ ++ ⟨(opd j).toArray⟩ ++ ⟨#[41, 32]⟩) ⟨(sgn y).toArray⟩ (by simp only [size_append, size_bytes, List.length_cons, List.length_nil]; omega)
  have t8 := sumL ((⟨#[40]⟩ : ByteArray) ++ ⟨(opd i).toArray⟩ ++ ⟨#[32]⟩ ++ ⟨(sgn x).toArray⟩ ++ ⟨#[32]⟩ ++ ⟨(opd j).toArray⟩ ++ ⟨#[41, 32]⟩ ++ ⟨(sgn y).toArray⟩) ⟨#[32]⟩ (by simp only [size_append, size_bytes, List.length_cons, List.length_nil]; omega)
  have t9 := sumL ((⟨#[40]⟩ : ByteArray) ++ ⟨(opd i).toArray⟩ ++ ⟨#[32]⟩ ++ ⟨(sgn x).toArray⟩ ++ ⟨#[32]⟩ ++ ⟨(opd j).toArray⟩ ++ ⟨#[41, 32]⟩ ++ ⟨(sgn y).toArray⟩ ++ ⟨#[32]⟩) ⟨(opd c).toArray⟩ (by simp only [size_append, size_bytes, List.length_cons, List.length_nil]; omega)
  clear hV
  go_enter Tryd.func3, Tryd.ntmps3
  go_wp2_with fail
  refine (operatorL xx x _ h4 hx12 HX).mono ?_
  rintro e w1 ⟨rfl, hb1⟩
  have hK1 := Lib.hid hb1
  have HB1 := Lib.hid (HB0.out.trans (hb1.mono HB0.out.size))
  have HV1 := Lib.hid (HV0.out.below hb1)
  clear hb1
  go_wp2_with fail
  refine (operatorL yy y _ h5 hy12 HY).mono ?_
  rintro e w2 ⟨rfl, hb2⟩
  have hK2 := Lib.hid hb2
  have HB2 := Lib.hid (HB1.out.trans (hb2.mono HB1.out.size))
  have HV2 := Lib.hid (HV1.out.below hb2)
  clear hb2
  go_wp2_with fail
  refine (operandL a i _ h1 hi8 HI).mono ?_
  rintro e w3 ⟨rfl, hb3⟩
  have hK3 := Lib.hid hb3
  have HB3 := Lib.hid (HB2.out.trans (hb3.mono HB2.out.size))
  have HV3 := Lib.hid (HV2.out.below hb3)
  clear hb3
  go_wp2_with fail
  refine (operandL b j _ h2 hj8 HJ).mono ?_
  rintro e w4 ⟨rfl, hb4⟩
  have hK4 := Lib.hid hb4
  have HB4 := Lib.hid (HB3.out.trans (hb4.mono HB3.out.size))
  have HV4 := Lib.hid (HV3.out.below hb4)
  clear hb4
  go_wp2_with fail
  refine (operandL cc c _ h3 hc8 HC).mono ?_
  rintro e w5 ⟨rfl, hb5⟩
  have hK5 := Lib.hid hb5
  have HB5 := Lib.hid (HB4.out.trans (hb5.mono HB4.out.size))
  have HV5 := Lib.hid (HV4.out.below hb5)
  clear hb5
  go_wp2_with fail
  clear t1 t2 t3 t4 t5 t6 t7 t8 t9
  have u1 := sumL (⟨(opd i).toArray⟩) ⟨#[32]⟩ (by simp only [size_bytes, List.length_cons, List.length_nil]; omega)
  have u2 := sumL ((⟨(opd i).toArray⟩ : ByteArray) ++ ⟨#[32]⟩) ⟨(sgn x).toArray⟩ (by simp only [size_append, size_bytes, List.length_cons, List.length_nil]; omega)
  have u3 := sumL ((⟨(opd i).toArray⟩ : ByteArray) ++ ⟨#[32]⟩ ++ ⟨(sgn x).toArray⟩) ⟨#[32, 40]⟩ (by simp only [size_append, size_bytes, List.length_cons, List.length_nil]; omega)
  have u4 := sumL ((⟨(opd i).toArray⟩ : ByteArray) ++ ⟨#[32]⟩ ++ ⟨(sgn x).toArray⟩ ++ ⟨#[32, 40]⟩) ⟨(opd j).toArray⟩ (by simp only [size_append, size_bytes, List.length_cons, List.length_nil]; omega)
  have u5 := sumL ((⟨(opd i).toArray⟩ : ByteArray) ++ ⟨#[32]⟩ ++ ⟨(sgn x).toArray⟩ ++ ⟨#[32, 40]⟩ ++ ⟨(opd j).toArray⟩) ⟨#[32]⟩ (by simp only [size_append, size_bytes, List.length_cons, List.length_nil]; omega)
  have u6 := sumL ((⟨(opd i).toArray⟩ : ByteArray) ++ ⟨#[32]⟩ ++ ⟨(sgn x).toArray⟩ ++ ⟨#[32, 40]⟩ ++ ⟨(opd j).toArray⟩ ++ ⟨#[32]⟩) ⟨(sgn y).toArray⟩ (by simp only [size_append, size_bytes, List.length_cons, List.length_nil]; omega)
  have u7 := sumL ((⟨(opd i).toArray⟩ : ByteArray) ++ ⟨#[32]⟩ ++ ⟨(sgn x).toArray⟩ ++ ⟨#[32, 40]⟩ ++ ⟨(opd j).toArray⟩ ++ ⟨#[32]⟩ ++ ⟨(sgn y).toArray⟩) ⟨#[32]⟩ (by simp only [size_append, size_bytes, List.length_cons, List.length_nil]; omega)
  have u8 := sumL ((⟨(opd i).toArray⟩ : ByteArray) ++ ⟨#[32]⟩ ++ ⟨(sgn x).toArray⟩ ++ ⟨#[32, 40]⟩ ++ ⟨(opd j).toArray⟩ ++ ⟨#[32]⟩ ++ ⟨(sgn y).toArray⟩ ++ ⟨#[32]⟩) ⟨(opd c).toArray⟩ (by simp only [size_append, size_bytes, List.length_cons, List.length_nil]; omega)
  have u9 := sumL ((⟨(opd i).toArray⟩ : ByteArray) ++ ⟨#[32]⟩ ++ ⟨(sgn x).toArray⟩ ++ ⟨#[32, 40]⟩ ++ ⟨(opd j).toArray⟩ ++ ⟨#[32]⟩ ++ ⟨(sgn y).toArray⟩ ++ ⟨#[32]⟩ ++ ⟨(opd c).toArray⟩) ⟨#[41]⟩ (by simp only [size_append, size_bytes, List.length_cons, List.length_nil]; omega)
  refine (operandL a i _ h1 hi8 HI).mono ?_
  rintro e w6 ⟨rfl, hb6⟩
  have hK6 := Lib.hid hb6
  have HB6 := Lib.hid (HB5.out.trans (hb6.mono HB5.out.size))
  have HV6 := Lib.hid (HV5.out.below hb6)
  clear hb6
  go_wp2_with fail
  refine (operandL b j _ h2 hj8 HJ).mono ?_
  rintro e w7 ⟨rfl, hb7⟩
  have hK7 := Lib.hid hb7
  have HB7 := Lib.hid (HB6.out.trans (hb7.mono HB6.out.size))
  have HV7 := Lib.hid (HV6.out.below hb7)
  clear hb7
  go_wp2_with fail
  refine (operandL cc c _ h3 hc8 HC).mono ?_
  rintro e w8 ⟨rfl, hb8⟩
  have hK8 := Lib.hid hb8
  have HB8 := Lib.hid (HB7.out.trans (hb8.mono HB7.out.size))
  have HV8 := Lib.hid (HV7.out.below hb8)
  clear hb8
  go_wp2_with fail
  clear u1 u2 u3 u4 u5 u6 u7 u8 u9
  have v1 := sumL (⟨(opd i).toArray⟩) ⟨#[32]⟩ (by simp only [size_bytes, List.length_cons, List.length_nil]; omega)
  have v2 := sumL ((⟨(opd i).toArray⟩ : ByteArray) ++ ⟨#[32]⟩) ⟨(sgn x).toArray⟩ (by simp only [size_append, size_bytes, List.length_cons, List.length_nil]; omega)
  have v3 := sumL ((⟨(opd i).toArray⟩ : ByteArray) ++ ⟨#[32]⟩ ++ ⟨(sgn x).toArray⟩) ⟨#[32]⟩ (by simp only [size_append, size_bytes, List.length_cons, List.length_nil]; omega)
  have v4 := sumL ((⟨(opd i).toArray⟩ : ByteArray) ++ ⟨#[32]⟩ ++ ⟨(sgn x).toArray⟩ ++ ⟨#[32]⟩) ⟨(opd j).toArray⟩ (by simp only [size_append, size_bytes, List.length_cons, List.length_nil]; omega)
  have v5 := sumL ((⟨(opd i).toArray⟩ : ByteArray) ++ ⟨#[32]⟩ ++ ⟨(sgn x).toArray⟩ ++ ⟨#[32]⟩ ++ ⟨(opd j).toArray⟩) ⟨(sgn y).toArray⟩ (by simp only [size_append, size_bytes, List.length_cons, List.length_nil]; omega)
  have v6 := sumL ((⟨(opd i).toArray⟩ : ByteArray) ++ ⟨#[32]⟩ ++ ⟨(sgn x).toArray⟩ ++ ⟨#[32]⟩ ++ ⟨(opd j).toArray⟩ ++ ⟨(sgn y).toArray⟩) ⟨(opd c).toArray⟩ (by simp only [size_append, size_bytes, List.length_cons, List.length_nil]; omega)
  refine (operandL a i _ h1 hi8 HI).mono ?_
  rintro e w9 ⟨rfl, hb9⟩
  have hK9 := Lib.hid hb9
  have HB9 := Lib.hid (HB8.out.trans (hb9.mono HB8.out.size))
  have HV9 := Lib.hid (HV8.out.below hb9)
  clear hb9
  go_wp2_with fail
  refine (operandL b j _ h2 hj8 HJ).mono ?_
  rintro e w10 ⟨rfl, hb10⟩
  have hK10 := Lib.hid hb10
  have HB10 := Lib.hid (HB9.out.trans (hb10.mono HB9.out.size))
  have HV10 := Lib.hid (HV9.out.below hb10)
  clear hb10
  go_wp2_with fail
  refine (operandL cc c _ h3 hc8 HC).mono ?_
  rintro e w11 ⟨rfl, hb11⟩
  have hK11 := Lib.hid hb11
  have HB11 := Lib.hid (HB10.out.trans (hb11.mono HB10.out.size))
  have HV11 := Lib.hid (HV10.out.below hb11)
  clear hb11
  go_wp2_with fail
  clear v1 v2 v3 v4 v5 v6
  refine (value_err' HV11.out _ _ (got_bytes i j c x y) L1.out 1 7 PG.out).mono ?_
  rintro e w12 ⟨rfl, hb12⟩
  have hK12 := Lib.hid hb12
  have HB12 := Lib.hid (HB11.out.trans (hb12.mono HB11.out.size))
  have HV12 := Lib.hid (HV11.out.below hb12)
  clear hb12
  go_wp2_with fail
  have hb13 : Below w12.heap.size w12 (w12.alloc (.cells #[.slice none 0 0, .slice none 0 0] 28)) := (Below.refl _ _).alloc (Nat.le_refl _) _
  obtain ⟨w13, HW13⟩ : ∃ U, Hid (w12.alloc (.cells #[.slice none 0 0, .slice none 0 0] 28) = U) := ⟨_, Lib.hid rfl⟩
  rw [HW13.out] at hb13 ⊢
  have hK13 := Lib.hid hb13
  have HB13 := Lib.hid (HB12.out.trans (hb13.mono HB12.out.size))
  have HV13 := Lib.hid (HV12.out.below hb13)
  clear hb13
  refine (known_any HV13.out).mono ?_
  rintro e w14 ⟨rfl, hb14⟩
  have hK14 := Lib.hid hb14
  have HB14 := Lib.hid (HB13.out.trans (hb14.mono HB13.out.size))
  have HV14 := Lib.hid (HV13.out.below hb14)
  clear hb14
  go_wp2_with fail
  go_ret
  exact ⟨rfl, HB14.out⟩
set_option maxHeartbeats 8000000 in
set_option maxRecDepth 100000 in
theorem levels_right_one (a b cc xx yy : Int) (w : World) (hV : VarsAt w) (h1 : a < 9223372036854775808) (h2 : b < 9223372036854775808) (h3 : cc < 9223372036854775808) (h4 : xx < 9223372036854775808) (h5 : yy < 9223372036854775808) (i j c x y : Nat) (hi8 : i < 8) (hj8 : j < 8) (hc8 : c < 8) (hx12 : x < 12) (hy12 : y < 12) (HI : Hid (a % 8 = (i : Int))) (HJ : Hid (b % 8 = (j : Int))) (HC : Hid (cc % 8 = (c : Int))) (HX : Hid (xx % 12 = (x : Int))) (HY : Hid (yy % 12 = (y : Int))) (e1 : lvl x = 1) (e2 : lvl x < lvl y) :
    Calls Tryd.prog 3 #[.int .i64 a, .int .i64 b, .int .i64 cc, .int .i64 xx, .int .i64 yy] w fun e w' => e = .returned (.bool true) ∧ Below w.heap.size w w' := by
  have q1 : ((lvl x : Int) == 1) = true := by simp; omega
  have q2 : ((lvl y : Int) == 1) = false := by simp; omega
  have q3 : decide ((lvl x : Int) < (lvl y : Int)) = true := by simp; omega
  have q4 : decide (lvl x < lvl y) = true := by simp; omega
  have hlen1 : (gotS i j c x y).length ≤ 10000 := by have := opd_len hi8; have := opd_len hj8; have := opd_len hc8; have := sgn_len hx12; have := sgn_len hy12; simp only [gotS, List.length_append, List.length_cons, List.length_nil]; omega
  have L1 := Lib.hid hlen1
  have hlen2 : (leftS i j c x y).length ≤ 10000 := by have := opd_len hi8; have := opd_len hj8; have := opd_len hc8; have := sgn_len hx12; have := sgn_len hy12; simp only [leftS, List.length_append, List.length_cons, List.length_nil]; omega
  have L2 := Lib.hid hlen2
  have hlen3 : (rightS i j c x y).length ≤ 10000 := by have := opd_len hi8; have := opd_len hj8; have := opd_len hc8; have := sgn_len hx12; have := sgn_len hy12; simp only [rightS, List.length_append, List.length_cons, List.length_nil]; omega
  have L3 := Lib.hid hlen3
  clear hlen2 hlen3
  clear hlen1
  have PG := Lib.hid (got_right hi8 hj8 hc8 hx12 hy12 e2)
  have PL := Lib.hid (left_parse hi8 hj8 hc8 hx12 hy12)
  have PR := Lib.hid (right_parse hi8 hj8 hc8 hx12 hy12)
  clear e1 e2
  have HV0 := Lib.hid hV
  have HB0 := Lib.hid (Below.refl w.heap.size w)
  have li := opd_len hi8
  have lj := opd_len hj8
  have lc := opd_len hc8
  have lx := sgn_len hx12
  have ly := sgn_len hy12
  have t1 := sumL (⟨#[40]⟩) ⟨(opd i).toArray⟩ (by simp only [size_bytes, List.length_cons, List.length_nil]; omega)
  have t2 := sumL ((⟨#[40]⟩ : ByteArray) ++ ⟨(opd i).toArray⟩) ⟨#[32]⟩ (by simp only [size_append, size_bytes, List.length_cons, List.length_nil]; omega)
  have t3 := sumL ((⟨#[40]⟩ : ByteArray) ++ ⟨(opd i).toArray⟩ ++ ⟨#[32]⟩) ⟨(sgn x).toArray⟩ (by simp only [size_append, size_bytes, List.length_cons, List.length_nil]; omega)
  have t4 := sumL ((⟨#[40]⟩ : ByteArray) ++ ⟨(opd i).toArray⟩ ++ ⟨#[32]⟩ ++ ⟨(sgn x).toArray⟩) ⟨#[32]⟩ (by simp only [size_append, size_bytes, List.length_cons, List.length_nil]; omega)
  have t5 := sumL ((⟨#[40]⟩ : ByteArray) ++ ⟨(opd i).toArray⟩ ++ ⟨#[32]⟩ ++ ⟨(sgn x).toArray⟩ ++ ⟨#[32]⟩) ⟨(opd j).toArray⟩ (by simp only [size_append, size_bytes, List.length_cons, List.length_nil]; omega)
  have t6 := sumL ((⟨#[40]⟩ : ByteArray) ++ ⟨(opd i).toArray⟩ ++ ⟨#[32]⟩ ++ ⟨(sgn x).toArray⟩ ++ ⟨#[32]⟩ ++ ⟨(opd j).toArray⟩) ⟨#[41, 32]⟩ (by simp only [size_append, size_bytes, List.length_cons, List.length_nil]; omega)
  have t7 := sumL ((⟨#[40]⟩ : ByteArray) ++ ⟨(opd i).toArray⟩ ++ ⟨#[32]⟩ ++ ⟨(sgn x).toArray⟩ ++ ⟨#[32]⟩ ++ ⟨(opd j).toArray⟩ ++ ⟨#[41, 32]⟩) ⟨(sgn y).toArray⟩ (by simp only [size_append, size_bytes, List.length_cons, List.length_nil]; omega)
  have t8 := sumL ((⟨#[40]⟩ : ByteArray) ++ ⟨(opd i).toArray⟩ ++ ⟨#[32]⟩ ++ ⟨(sgn x).toArray⟩ ++ ⟨#[32]⟩ ++ ⟨(opd j).toArray⟩ ++ ⟨#[41, 32]⟩ ++ ⟨(sgn y).toArray⟩) ⟨#[32]⟩ (by simp only [size_append, size_bytes, List.length_cons, List.length_nil]; omega)
  have t9 := sumL ((⟨#[40]⟩ : ByteArray) ++ ⟨(opd i).toArray⟩ ++ ⟨#[32]⟩ ++ ⟨(sgn x).toArray⟩ ++ ⟨#[32]⟩ ++ ⟨(opd j).toArray⟩ ++ ⟨#[41, 32]⟩ ++ ⟨(sgn y).toArray⟩ ++ ⟨#[32]⟩) ⟨(opd c).toArray⟩ (by simp only [size_append, size_bytes, List.length_cons, List.length_nil]; omega)
  clear hV
  go_enter Tryd.func3, Tryd.ntmps3
  go_wp2_with fail
  refine (operatorL xx x _ h4 hx12 HX).mono ?_
  rintro e w1 ⟨rfl, hb1⟩
  have hK1 := Lib.hid hb1
  have HB1 := Lib.hid (HB0.out.trans (hb1.mono HB0.out.size))
  have HV1 := Lib.hid (HV0.out.below hb1)
  clear hb1
  go_wp2_with fail
  refine (operatorL yy y _ h5 hy12 HY).mono ?_
  rintro e w2 ⟨rfl, hb2⟩
  have hK2 := Lib.hid hb2
  have HB2 := Lib.hid (HB1.out.trans (hb2.mono HB1.out.size))
  have HV2 := Lib.hid (HV1.out.below hb2)
  clear hb2
  go_wp2_with fail
  refine (operandL a i _ h1 hi8 HI).mono ?_
  rintro e w3 ⟨rfl, hb3⟩
  have hK3 := Lib.hid hb3
  have HB3 := Lib.hid (HB2.out.trans (hb3.mono HB2.out.size))
  have HV3 := Lib.hid (HV2.out.below hb3)
  clear hb3
  go_wp2_with fail
  refine (operandL b j _ h2 hj8 HJ).mono ?_
  rintro e w4 ⟨rfl, hb4⟩
  have hK4 := Lib.hid hb4
  have HB4 := Lib.hid (HB3.out.trans (hb4.mono HB3.out.size))
  have HV4 := Lib.hid (HV3.out.below hb4)
  clear hb4
  go_wp2_with fail
  refine (operandL cc c _ h3 hc8 HC).mono ?_
  rintro e w5 ⟨rfl, hb5⟩
  have hK5 := Lib.hid hb5
  have HB5 := Lib.hid (HB4.out.trans (hb5.mono HB4.out.size))
  have HV5 := Lib.hid (HV4.out.below hb5)
  clear hb5
  go_wp2_with fail
  clear t1 t2 t3 t4 t5 t6 t7 t8 t9
  have u1 := sumL (⟨(opd i).toArray⟩) ⟨#[32]⟩ (by simp only [size_bytes, List.length_cons, List.length_nil]; omega)
  have u2 := sumL ((⟨(opd i).toArray⟩ : ByteArray) ++ ⟨#[32]⟩) ⟨(sgn x).toArray⟩ (by simp only [size_append, size_bytes, List.length_cons, List.length_nil]; omega)
  have u3 := sumL ((⟨(opd i).toArray⟩ : ByteArray) ++ ⟨#[32]⟩ ++ ⟨(sgn x).toArray⟩) ⟨#[32, 40]⟩ (by simp only [size_append, size_bytes, List.length_cons, List.length_nil]; omega)
  have u4 := sumL ((⟨(opd i).toArray⟩ : ByteArray) ++ ⟨#[32]⟩ ++ ⟨(sgn x).toArray⟩ ++ ⟨#[32, 40]⟩) ⟨(opd j).toArray⟩ (by simp only [size_append, size_bytes, List.length_cons, List.length_nil]; omega)
  have u5 := sumL ((⟨(opd i).toArray⟩ : ByteArray) ++ ⟨#[32]⟩ ++ ⟨(sgn x).toArray⟩ ++ ⟨#[32, 40]⟩ ++ ⟨(opd j).toArray⟩) ⟨#[32]⟩ (by simp only [size_append, size_bytes, List.length_cons, List.length_nil]; omega)
  have u6 := sumL ((⟨(opd i).toArray⟩ : ByteArray) ++ ⟨#[32]⟩ ++ ⟨(sgn x).toArray⟩ ++ ⟨#[32, 40]⟩ ++ ⟨(opd j).toArray⟩ ++ ⟨#[32]⟩) ⟨(sgn y).toArray⟩ (by simp only [size_append, size_bytes, List.length_cons, List.length_nil]; omega)
  have u7 := sumL ((⟨(opd i).toArray⟩ : ByteArray) ++ ⟨#[32]⟩ ++ ⟨(sgn x).toArray⟩ ++ ⟨#[32, 40]⟩ ++ ⟨(opd j).toArray⟩ ++ ⟨#[32]⟩ ++ ⟨(sgn y).toArray⟩) ⟨#[32]⟩ (by simp only [size_append, size_bytes, List.length_cons, List.length_nil]; omega)
  have u8 := sumL ((⟨(opd i).toArray⟩ : ByteArray) ++ ⟨#[32]⟩ ++ ⟨(sgn x).toArray⟩ ++ ⟨#[32, 40]⟩ ++ ⟨(opd j).toArray⟩ ++ ⟨#[32]⟩ ++ ⟨(sgn y).toArray⟩ ++ ⟨#[32]⟩) ⟨(opd c).toArray⟩ (by simp only [size_append, size_bytes, List.length_cons, List.length_nil]; omega)
  have u9 := sumL ((⟨(opd i).toArray⟩ : ByteArray) ++ ⟨#[32]⟩ ++ ⟨(sgn x).toArray⟩ ++ ⟨#[32, 40]⟩ ++ ⟨(opd j).toArray⟩ ++ ⟨#[32]⟩ ++ ⟨(sgn y).toArray⟩ ++ ⟨#[32]⟩ ++ ⟨(opd c).toArray⟩) ⟨#[41]⟩ (by simp only [size_append, size_bytes, List.length_cons, List.length_nil]; omega)
  refine (operandL a i _ h1 hi8 HI).mono ?_
  rintro e w6 ⟨rfl, hb6⟩
  have hK6 := Lib.hid hb6
  have HB6 := Lib.hid (HB5.out.trans (hb6.mono HB5.out.size))
  have HV6 := Lib.hid (HV5.out.below hb6)
  clear hb6
  go_wp2_with fail
  refine (operandL b j _ h2 hj8 HJ).mono ?_
  rintro e w7 ⟨rfl, hb7⟩
  have hK7 := Lib.hid hb7
  have HB7 := Lib.hid (HB6.out.trans (hb7.mono HB6.out.size))
  have HV7 := Lib.hid (HV6.out.below hb7)
  clear hb7
  go_wp2_with fail
  refine (operandL cc c _ h3 hc8 HC).mono ?_
  rintro e w8 ⟨rfl, hb8⟩
  have hK8 := Lib.hid hb8
  have HB8 := Lib.hid (HB7.out.trans (hb8.mono HB7.out.size))
  have HV8 := Lib.hid (HV7.out.below hb8)
  clear hb8
  go_wp2_with fail
  clear u1 u2 u3 u4 u5 u6 u7 u8 u9
  have v1 := sumL (⟨(opd i).toArray⟩) ⟨#[32]⟩ (by simp only [size_bytes, List.length_cons, List.length_nil]; omega)
  have v2 := sumL ((⟨(opd i).toArray⟩ : ByteArray) ++ ⟨#[32]⟩) ⟨(sgn x).toArray⟩ (by simp only [size_append, size_bytes, List.length_cons, List.length_nil]; omega)
  have v3 := sumL ((⟨(opd i).toArray⟩ : ByteArray) ++ ⟨#[32]⟩ ++ ⟨(sgn x).toArray⟩) ⟨#[32]⟩ (by simp only [size_append, size_bytes, List.length_cons, List.length_nil]; omega)
  have v4 := sumL ((⟨(opd i).toArray⟩ : ByteArray) ++ ⟨#[32]⟩ ++ ⟨(sgn x).toArray⟩ ++ ⟨#[32]⟩) ⟨(opd j).toArray⟩ (by simp only [size_append, size_bytes, List.length_cons, List.length_nil]; omega)
  have v5 := sumL ((⟨(opd i).toArray⟩ : ByteArray) ++ ⟨#[32]⟩ ++ ⟨(sgn x).toArray⟩ ++ ⟨#[32]⟩ ++ ⟨(opd j).toArray⟩) ⟨(sgn y).toArray⟩ (by simp only [size_append, size_bytes, List.length_cons, List.length_nil]; omega)
  have v6 := sumL ((⟨(opd i).toArray⟩ : ByteArray) ++ ⟨#[32]⟩ ++ ⟨(sgn x).toArray⟩ ++ ⟨#[32]⟩ ++ ⟨(opd j).toArray⟩ ++ ⟨(sgn y).toArray⟩) ⟨(opd c).toArray⟩ (by simp only [size_append, size_bytes, List.length_cons, List.length_nil]; omega)
  refine (operandL a i _ h1 hi8 HI).mono ?_
  rintro e w9 ⟨rfl, hb9⟩
  have hK9 := Lib.hid hb9
  have HB9 := Lib.hid (HB8.out.trans (hb9.mono HB8.out.size))
  have HV9 := Lib.hid (HV8.out.below hb9)
  clear hb9
  go_wp2_with fail
  refine (operandL b j _ h2 hj8 HJ).mono ?_
  rintro e w10 ⟨rfl, hb10⟩
  have hK10 := Lib.hid hb10
  have HB10 := Lib.hid (HB9.out.trans (hb10.mono HB9.out.size))
  have HV10 := Lib.hid (HV9.out.below hb10)
  clear hb10
  go_wp2_with fail
  refine (operandL cc c _ h3 hc8 HC).mono ?_
  rintro e w11 ⟨rfl, hb11⟩
  have hK11 := Lib.hid hb11
  have HB11 := Lib.hid (HB10.out.trans (hb11.mono HB10.out.size))
  have HV11 := Lib.hid (HV10.out.below hb11)
  clear hb11
  go_wp2_with fail
  clear v1 v2 v3 v4 v5 v6
  refine (value_open HV11.out _ _ (got_bytes i j c x y) L1.out (prgOf (rightE i j c x y)) _ PG.out).mono ?_
  rintro e w12 ⟨AG, cG, BG, dG, rfl, hp, hb12⟩
  have G12 := Lib.hid hp
  clear hp
  have hK12 := Lib.hid hb12
  have HB12 := Lib.hid (HB11.out.trans (hb12.mono HB11.out.size))
  have HV12 := Lib.hid (HV11.out.below hb12)
  clear hb12
  go_wp2_with fail
  have hb13 : Below w12.heap.size w12 (w12.alloc (.cells #[.slice AG (prgOf (rightE i j c x y)).recs.length cG, .slice BG (prgOf (rightE i j c x y)).funs.length dG] 28)) := (Below.refl _ _).alloc (Nat.le_refl _) _
  have e13 := heap_alloc_new w12 (.cells #[.slice AG (prgOf (rightE i j c x y)).recs.length cG, .slice BG (prgOf (rightE i j c x y)).funs.length dG] 28)
  have s13 : w12.heap.size < (w12.alloc (.cells #[.slice AG (prgOf (rightE i j c x y)).recs.length cG, .slice BG (prgOf (rightE i j c x y)).funs.length dG] 28)).heap.size := by simp
  obtain ⟨w13, HW13⟩ : ∃ U, Hid (w12.alloc (.cells #[.slice AG (prgOf (rightE i j c x y)).recs.length cG, .slice BG (prgOf (rightE i j c x y)).funs.length dG] 28) = U) := ⟨_, Lib.hid rfl⟩
  rw [HW13.out] at hb13 e13 s13 ⊢
  have G13 := Lib.hid (G12.out.below hb13)
  have EG13 := Lib.hid e13
  have sG13 := s13
  clear e13 s13
  have hK13 := Lib.hid hb13
  have HB13 := Lib.hid (HB12.out.trans (hb13.mono HB12.out.size))
  have HV13 := Lib.hid (HV12.out.below hb13)
  clear hb13
  refine (value_open HV13.out _ _ (left_bytes i j c x y) L2.out (prgOf (leftE i j c x y)) _ PL.out).mono ?_
  rintro e w14 ⟨AQ, cQ, BQ, dQ, rfl, hp, hb14⟩
  have Q14 := Lib.hid hp
  clear hp
  have hK14 := Lib.hid hb14
  have HB14 := Lib.hid (HB13.out.trans (hb14.mono HB13.out.size))
  have HV14 := Lib.hid (HV13.out.below hb14)
  have G14 := Lib.hid (G13.out.below hb14)
  have EG14 := Lib.hid ((hb14.block _ sG13).trans EG13.out)
  have sG14 : w12.heap.size < w14.heap.size := Nat.lt_of_lt_of_le sG13 hb14.size
  clear hb14
  go_wp2_with fail
  have GL := Lib.hid (PrgIs.turn' (w := w14) G14.out (q := fun b => b < w14.heap.size) (w' := w14) (fun b hb _ => ⟨hb, rfl⟩))
  have hb15 : Below w14.heap.size w14 (w14.alloc (.cells #[.slice AQ (prgOf (leftE i j c x y)).recs.length cQ, .slice BQ (prgOf (leftE i j c x y)).funs.length dQ] 28)) := (Below.refl _ _).alloc (Nat.le_refl _) _
  have e15 := heap_alloc_new w14 (.cells #[.slice AQ (prgOf (leftE i j c x y)).recs.length cQ, .slice BQ (prgOf (leftE i j c x y)).funs.length dQ] 28)
  have s15 : w14.heap.size < (w14.alloc (.cells #[.slice AQ (prgOf (leftE i j c x y)).recs.length cQ, .slice BQ (prgOf (leftE i j c x y)).funs.length dQ] 28)).heap.size := by simp
  obtain ⟨w15, HW15⟩ : ∃ U, Hid (w14.alloc (.cells #[.slice AQ (prgOf (leftE i j c x y)).recs.length cQ, .slice BQ (prgOf (leftE i j c x y)).funs.length dQ] 28) = U) := ⟨_, Lib.hid rfl⟩
  rw [HW15.out] at hb15 e15 s15 ⊢
  have Q15 := Lib.hid (Q14.out.below hb15)
  have EQ15 := Lib.hid e15
  have sQ15 := s15
  clear e15 s15
  have hK15 := Lib.hid hb15
  have HB15 := Lib.hid (HB14.out.trans (hb15.mono HB14.out.size))
  have HV15 := Lib.hid (HV14.out.below hb15)
  have G15 := Lib.hid (G14.out.below hb15)
  have EG15 := Lib.hid ((hb15.block _ sG14).trans EG14.out)
  have sG15 : w12.heap.size < w15.heap.size := Nat.lt_of_lt_of_le sG14 hb15.size
  clear hb15
  have GL15 := Lib.hid (PrgIs.turn' (w := w14) GL.out (q := fun b => b < w14.heap.size) (w' := w15) (fun b hb hq => ⟨hq, hK15.out.block b hb⟩))
  refine (value_open HV15.out _ _ (right_bytes i j c x y) L3.out (prgOf (rightE i j c x y)) _ PR.out).mono ?_
  rintro e w16 ⟨AR, cR, BR, dR, rfl, hp, hb16⟩
  have R16 := Lib.hid hp
  clear hp
  have hK16 := Lib.hid hb16
  have HB16 := Lib.hid (HB15.out.trans (hb16.mono HB15.out.size))
  have HV16 := Lib.hid (HV15.out.below hb16)
  have G16 := Lib.hid (G15.out.below hb16)
  have EG16 := Lib.hid ((hb16.block _ sG15).trans EG15.out)
  have sG16 : w12.heap.size < w16.heap.size := Nat.lt_of_lt_of_le sG15 hb16.size
  have Q16 := Lib.hid (Q15.out.below hb16)
  have EQ16 := Lib.hid ((hb16.block _ sQ15).trans EQ15.out)
  have sQ16 : w14.heap.size < w16.heap.size := Nat.lt_of_lt_of_le sQ15 hb16.size
  clear hb16
  have GL16 := Lib.hid (PrgIs.turn' (w := w15) GL15.out (q := fun b => b < w14.heap.size) (w' := w16) (fun b hb hq => ⟨hq, hK16.out.block b hb⟩))
  obtain ⟨c0, c1⟩ := cells_two EQ16.out
  have f0 : w16.frozen? ⟨w14.heap.size, 0, none⟩ = false := Lib.frozen_of_heap EQ16.out 0
  have f1 : w16.frozen? ⟨w14.heap.size, 1, none⟩ = false := Lib.frozen_of_heap EQ16.out 1
  have u1 := setC_cell (o := 0) (.slice AR (prgOf (rightE i j c x y)).recs.length cR) EQ16.out
  have u2 := setC_cell (o := 1) (.slice BR (prgOf (rightE i j c x y)).funs.length dR) u1.at_
  have hgq : w12.heap.size ≠ w14.heap.size := by have := sG14; omega
  have hle : w.heap.size ≤ w14.heap.size := HB14.out.size
  have hHB := (HB16.out.setCell (p := ⟨w14.heap.size, 0, none⟩) hle (.slice AR (prgOf (rightE i j c x y)).recs.length cR)).setCell (p := ⟨w14.heap.size, 1, none⟩) hle (.slice BR (prgOf (rightE i j c x y)).funs.length dR)
  have hRt := PrgIs.turn' (w := w16) R16.out (q := fun _ => True) (w' := ((w16.setCell ⟨w14.heap.size, 0, none⟩ (.slice AR (prgOf (rightE i j c x y)).recs.length cR)).setCell ⟨w14.heap.size, 1, none⟩ (.slice BR (prgOf (rightE i j c x y)).funs.length dR))) (fun b hb hp => ⟨trivial, by have hp' : w15.heap.size ≤ b := hp; have := sQ15; rw [u2.block b (by omega), u1.block b (by omega)]⟩)
  have hGt := PrgIs.turn' (w := w16) GL16.out (q := fun _ => True) (w' := ((w16.setCell ⟨w14.heap.size, 0, none⟩ (.slice AR (prgOf (rightE i j c x y)).recs.length cR)).setCell ⟨w14.heap.size, 1, none⟩ (.slice BR (prgOf (rightE i j c x y)).funs.length dR))) (fun b hb hp => ⟨trivial, by have hp' : b < w14.heap.size := hp; rw [u2.block b (by omega), u1.block b (by omega)]⟩)
  have e8 := u2.held hgq (u1.held hgq EG16.out)
  have e9 := u2.at_
  have hV2 := HV0.out.below hHB
  obtain ⟨g0, g1⟩ := cells_two EG16.out
  have hne : ¬ w12.heap.size = w14.heap.size := hgq
  have hne2 : ¬ w14.heap.size = w12.heap.size := fun e => hgq e.symm
  have HB17 := Lib.hid hHB
  have HV17 := Lib.hid hV2
  have HP9 := Lib.hid hGt
  have HQ9 := Lib.hid hRt
  clear u1 u2 hHB hRt hGt e8 e9 hV2 hle hgq
  go_wp2_with fail
  refine (program_same true HP9.out HQ9.out).mono ?_
  rintro e w18 ⟨rfl, hb18⟩
  have hK18 := Lib.hid hb18
  have HB18 := Lib.hid (HB17.out.trans (hb18.mono HB17.out.size))
  have HV18 := Lib.hid (HV17.out.below hb18)
  clear hb18
  clear g0 g1 c0 c1 f0 f1
  go_wp2_with fail
  refine (known_any HV18.out).mono ?_
  rintro e w19 ⟨rfl, hb19⟩
  have hK19 := Lib.hid hb19
  have HB19 := Lib.hid (HB18.out.trans (hb19.mono HB18.out.size))
  have HV19 := Lib.hid (HV18.out.below hb19)
  clear hb19
  go_wp2_with fail
  go_ret
  exact ⟨rfl, HB19.out⟩
set_option maxHeartbeats 8000000 in
set_option maxRecDepth 100000 in
theorem levels_right (a b cc xx yy : Int) (w : World) (hV : VarsAt w) (h1 : a < 9223372036854775808) (h2 : b < 9223372036854775808) (h3 : cc < 9223372036854775808) (h4 : xx < 9223372036854775808) (h5 : yy < 9223372036854775808) (i j c x y : Nat) (hi8 : i < 8) (hj8 : j < 8) (hc8 : c < 8) (hx12 : x < 12) (hy12 : y < 12) (HI : Hid (a % 8 = (i : Int))) (HJ : Hid (b % 8 = (j : Int))) (HC : Hid (cc % 8 = (c : Int))) (HX : Hid (xx % 12 = (x : Int))) (HY : Hid (yy % 12 = (y : Int))) (e1 : lvl x ≠ 1) (e2 : lvl x < lvl y) :
    Calls Tryd.prog 3 #[.int .i64 a, .int .i64 b, .int .i64 cc, .int .i64 xx, .int .i64 yy] w fun e w' => e = .returned (.bool true) ∧ Below w.heap.size w w' := by
  have q1 : ((lvl x : Int) == 1) = false := by simp; omega
  have q3 : decide ((lvl x : Int) < (lvl y : Int)) = true := by simp; omega
  have q4 : decide (lvl x < lvl y) = true := by simp; omega
  have hlen1 : (gotS i j c x y).length ≤ 10000 := by have := opd_len hi8; have := opd_len hj8; have := opd_len hc8; have := sgn_len hx12; have := sgn_len hy12; simp only [gotS, List.length_append, List.length_cons, List.length_nil]; omega
  have L1 := Lib.hid hlen1
  have hlen2 : (leftS i j c x y).length ≤ 10000 := by have := opd_len hi8; have := opd_len hj8; have := opd_len hc8; have := sgn_len hx12; have := sgn_len hy12; simp only [leftS, List.length_append, List.length_cons, List.length_nil]; omega
  have L2 := Lib.hid hlen2
  have hlen3 : (rightS i j c x y).length ≤ 10000 := by have := opd_len hi8; have := opd_len hj8; have := opd_len hc8; have := sgn_len hx12; have := sgn_len hy12; simp only [rightS, List.length_append, List.length_cons, List.length_nil]; omega
  have L3 := Lib.hid hlen3
  clear hlen2 hlen3
  clear hlen1
  have PG := Lib.hid (got_right hi8 hj8 hc8 hx12 hy12 e2)
  have PL := Lib.hid (left_parse hi8 hj8 hc8 hx12 hy12)
  have PR := Lib.hid (right_parse hi8 hj8 hc8 hx12 hy12)
  clear e1 e2
  have HV0 := Lib.hid hV
  have HB0 := Lib.hid (Below.refl w.heap.size w)
  have li := opd_len hi8
  have lj := opd_len hj8
  have lc := opd_len hc8
  have lx := sgn_len hx12
  have ly := sgn_len hy12
  have t1 := sumL (⟨#[40]⟩) ⟨(opd i).toArray⟩ (by simp only [size_bytes, List.length_cons, List.length_nil]; omega)
  have t2 := sumL ((⟨#[40]⟩ : ByteArray) ++ ⟨(opd i).toArray⟩) ⟨#[32]⟩ (by simp only [size_append, size_bytes, List.length_cons, List.length_nil]; omega)
  have t3 := sumL ((⟨#[40]⟩ : ByteArray) ++ ⟨(opd i).toArray⟩ ++ ⟨#[32]⟩) ⟨(sgn x).toArray⟩ (by simp only [size_append, size_bytes, List.length_cons, List.length_nil]; omega)
  have t4 := sumL ((⟨#[40]⟩ : ByteArray) ++ ⟨(opd i).toArray⟩ ++ ⟨#[32]⟩ ++ ⟨(sgn x).toArray⟩) ⟨#[32]⟩ (by simp only [size_append, size_bytes, List.length_cons, List.length_nil]; omega)
  have t5 := sumL ((⟨#[40]⟩ : ByteArray) ++ ⟨(opd i).toArray⟩ ++ ⟨#[32]⟩ ++ ⟨(sgn x).toArray⟩ ++ ⟨#[32]⟩) ⟨(opd j).toArray⟩ (by simp only [size_append, size_bytes, List.length_cons, List.length_nil]; omega)
  have t6 := sumL ((⟨#[40]⟩ : ByteArray) ++ ⟨(opd i).toArray⟩ ++ ⟨#[32]⟩ ++ ⟨(sgn x).toArray⟩ ++ ⟨#[32]⟩ ++ ⟨(opd j).toArray⟩) ⟨#[41, 32]⟩ (by simp only [size_append, size_bytes, List.length_cons, List.length_nil]; omega)
  have t7 := sumL ((⟨#[40]⟩ : ByteArray) ++ ⟨(opd i).toArray⟩ ++ ⟨#[32]⟩ ++ ⟨(sgn x).toArray⟩ ++ ⟨#[32]⟩ ++ ⟨(opd j).toArray⟩ ++ ⟨#[41, 32]⟩) ⟨(sgn y).toArray⟩ (by simp only [size_append, size_bytes, List.length_cons, List.length_nil]; omega)
  have t8 := sumL ((⟨#[40]⟩ : ByteArray) ++ ⟨(opd i).toArray⟩ ++ ⟨#[32]⟩ ++ ⟨(sgn x).toArray⟩ ++ ⟨#[32]⟩ ++ ⟨(opd j).toArray⟩ ++ ⟨#[41, 32]⟩ ++ ⟨(sgn y).toArray⟩) ⟨#[32]⟩ (by simp only [size_append, size_bytes, List.length_cons, List.length_nil]; omega)
  have t9 := sumL ((⟨#[40]⟩ : ByteArray) ++ ⟨(opd i).toArray⟩ ++ ⟨#[32]⟩ ++ ⟨(sgn x).toArray⟩ ++ ⟨#[32]⟩ ++ ⟨(opd j).toArray⟩ ++ ⟨#[41, 32]⟩ ++ ⟨(sgn y).toArray⟩ ++ ⟨#[32]⟩) ⟨(opd c).toArray⟩ (by simp only [size_append, size_bytes, List.length_cons, List.length_nil]; omega)
  clear hV
  go_enter Tryd.func3, Tryd.ntmps3
  go_wp2_with fail
  refine (operatorL xx x _ h4 hx12 HX).mono ?_
  rintro e w1 ⟨rfl, hb1⟩
  have hK1 := Lib.hid hb1
  have HB1 := Lib.hid (HB0.out.trans (hb1.mono HB0.out.size))
  have HV1 := Lib.hid (HV0.out.below hb1)
  clear hb1
  go_wp2_with fail
  refine (operatorL yy y _ h5 hy12 HY).mono ?_
  rintro e w2 ⟨rfl, hb2⟩
  have hK2 := Lib.hid hb2
  have HB2 := Lib.hid (HB1.out.trans (hb2.mono HB1.out.size))
  have HV2 := Lib.hid (HV1.out.below hb2)
  clear hb2
  go_wp2_with fail
  refine (operandL a i _ h1 hi8 HI).mono ?_
  rintro e w3 ⟨rfl, hb3⟩
  have hK3 := Lib.hid hb3
  have HB3 := Lib.hid (HB2.out.trans (hb3.mono HB2.out.size))
  have HV3 := Lib.hid (HV2.out.below hb3)
  clear hb3
  go_wp2_with fail
  refine (operandL b j _ h2 hj8 HJ).mono ?_
  rintro e w4 ⟨rfl, hb4⟩
  have hK4 := Lib.hid hb4
  have HB4 := Lib.hid (HB3.out.trans (hb4.mono HB3.out.size))
  have HV4 := Lib.hid (HV3.out.below hb4)
  clear hb4
  go_wp2_with fail
  refine (operandL cc c _ h3 hc8 HC).mono ?_
  rintro e w5 ⟨rfl, hb5⟩
  have hK5 := Lib.hid hb5
  have HB5 := Lib.hid (HB4.out.trans (hb5.mono HB4.out.size))
  have HV5 := Lib.hid (HV4.out.below hb5)
  clear hb5
  go_wp2_with fail
  clear t1 t2 t3 t4 t5 t6 t7 t8 t9
  have u1 := sumL (⟨(opd i).toArray⟩) ⟨#[32]⟩ (by simp only [size_bytes, List.length_cons, List.length_nil]; omega)
  have u2 := sumL ((⟨(opd i).toArray⟩ : ByteArray) ++ ⟨#[32]⟩) ⟨(sgn x).toArray⟩ (by simp only [size_append, size_bytes, List.length_cons, List.length_nil]; omega)
  have u3 := sumL ((⟨(opd i).toArray⟩ : ByteArray) ++ ⟨#[32]⟩ ++ ⟨(sgn x).toArray⟩) ⟨#[32, 40]⟩ (by simp only [size_append, size_bytes, List.length_cons, List.length_nil]; omega)
  have u4 := sumL ((⟨(opd i).toArray⟩ : ByteArray) ++ ⟨#[32]⟩ ++ ⟨(sgn x).toArray⟩ ++ ⟨#[32, 40]⟩) ⟨(opd j).toArray⟩ (by simp only [size_append, size_bytes, List.length_cons, List.length_nil]; omega)
  have u5 := sumL ((⟨(opd i).toArray⟩ : ByteArray) ++ ⟨#[32]⟩ ++ ⟨(sgn x).toArray⟩ ++ ⟨#[32, 40]⟩ ++ ⟨(opd j).toArray⟩) ⟨#[32]⟩ (by simp only [size_append, size_bytes, List.length_cons, List.length_nil]; omega)
  have u6 := sumL ((⟨(opd i).toArray⟩ : ByteArray) ++ ⟨#[32]⟩ ++ ⟨(sgn x).toArray⟩ ++ ⟨#[32, 40]⟩ ++ ⟨(opd j).toArray⟩ ++ ⟨#[32]⟩) ⟨(sgn y).toArray⟩ (by simp only [size_append, size_bytes, List.length_cons, List.length_nil]; omega)
  have u7 := sumL ((⟨(opd i).toArray⟩ : ByteArray) ++ ⟨#[32]⟩ ++ ⟨(sgn x).toArray⟩ ++ ⟨#[32, 40]⟩ ++ ⟨(opd j).toArray⟩ ++ ⟨#[32]⟩ ++ ⟨(sgn y).toArray⟩) ⟨#[32]⟩ (by simp only [size_append, size_bytes, List.length_cons, List.length_nil]; omega)
  have u8 := sumL ((⟨(opd i).toArray⟩ : ByteArray) ++ ⟨#[32]⟩ ++ ⟨(sgn x).toArray⟩ ++ ⟨#[32, 40]⟩ ++ ⟨(opd j).toArray⟩ ++ ⟨#[32]⟩ ++ ⟨(sgn y).toArray⟩ ++ ⟨#[32]⟩) ⟨(opd c).toArray⟩ (by simp only [size_append, size_bytes, List.length_cons, List.length_nil]; omega)
  have u9 := sumL ((⟨(opd i).toArray⟩ : ByteArray) ++ ⟨#[32]⟩ ++ ⟨(sgn x).toArray⟩ ++ ⟨#[32, 40]⟩ ++ ⟨(opd j).toArray⟩ ++ ⟨#[32]⟩ ++ ⟨(sgn y).toArray⟩ ++ ⟨#[32]⟩ ++ ⟨(opd c).toArray⟩) ⟨#[41]⟩ (by simp only [size_append, size_bytes, List.length_cons, List.length_nil]; omega)
  refine (operandL a i _ h1 hi8 HI).mono ?_
  rintro e w6 ⟨rfl, hb6⟩
  have hK6 := Lib.hid hb6
  have HB6 := Lib.hid (HB5.out.trans (hb6.mono HB5.out.size))
  have HV6 := Lib.hid (HV5.out.below hb6)
  clear hb6
  go_wp2_with fail
  refine (operandL b j _ h2 hj8 HJ).mono ?_
  rintro e w7 ⟨rfl, hb7⟩
  have hK7 := Lib.hid hb7
  have HB7 := Lib.hid (HB6.out.trans (hb7.mono HB6.out.size))
  have HV7 := Lib.hid (HV6.out.below hb7)
  clear hb7
  go_wp2_with fail
  refine (operandL cc c _ h3 hc8 HC).mono ?_
  rintro e w8 ⟨rfl, hb8⟩
  have hK8 := Lib.hid hb8
  have HB8 := Lib.hid (HB7.out.trans (hb8.mono HB7.out.size))
  have HV8 := Lib.hid (HV7.out.below hb8)
  clear hb8
  go_wp2_with fail
  clear u1 u2 u3 u4 u5 u6 u7 u8 u9
  have v1 := sumL (⟨(opd i).toArray⟩) ⟨#[32]⟩ (by simp only [size_bytes, List.length_cons, List.length_nil]; omega)
  have v2 := sumL ((⟨(opd i).toArray⟩ : ByteArray) ++ ⟨#[32]⟩) ⟨(sgn x).toArray⟩ (by simp only [size_append, size_bytes, List.length_cons, List.length_nil]; omega)
  have v3 := sumL ((⟨(opd i).toArray⟩ : ByteArray) ++ ⟨#[32]⟩ ++ ⟨(sgn x).toArray⟩) ⟨#[32]⟩ (by simp only [size_append, size_bytes, List.length_cons, List.length_nil]; omega)
  have v4 := sumL ((⟨(opd i).toArray⟩ : ByteArray) ++ ⟨#[32]⟩ ++ ⟨(sgn x).toArray⟩ ++ ⟨#[32]⟩) ⟨(opd j).toArray⟩ (by simp only [size_append, size_bytes, List.length_cons, List.length_nil]; omega)
  have v5 := sumL ((⟨(opd i).toArray⟩ : ByteArray) ++ ⟨#[32]⟩ ++ ⟨(sgn x).toArray⟩ ++ ⟨#[32]⟩ ++ ⟨(opd j).toArray⟩) ⟨(sgn y).toArray⟩ (by simp only [size_append, size_bytes, List.length_cons, List.length_nil]; omega)
  have v6 := sumL ((⟨(opd i).toArray⟩ : ByteArray) ++ ⟨#[32]⟩ ++ ⟨(sgn x).toArray⟩ ++ ⟨#[32]⟩ ++ ⟨(opd j).toArray⟩ ++ ⟨(sgn y).toArray⟩) ⟨(opd c).toArray⟩ (by simp only [size_append, size_bytes, List.length_cons, List.length_nil]; omega)
  refine (operandL a i _ h1 hi8 HI).mono ?_
  rintro e w9 ⟨rfl, hb9⟩
  have hK9 := Lib.hid hb9
  have HB9 := Lib.hid (HB8.out.trans (hb9.mono HB8.out.size))
  have HV9 := Lib.hid (HV8.out.below hb9)
  clear hb9
  go_wp2_with fail
  refine (operandL b j _ h2 hj8 HJ).mono ?_
  rintro e w10 ⟨rfl, hb10⟩
  have hK10 := Lib.hid hb10
  have HB10 := Lib.hid (HB9.out.trans (hb10.mono HB9.out.size))
  have HV10 := Lib.hid (HV9.out.below hb10)
  clear hb10
  go_wp2_with fail
  refine (operandL cc c _ h3 hc8 HC).mono ?_
  rintro e w11 ⟨rfl, hb11⟩
  have hK11 := Lib.hid hb11
  have HB11 := Lib.hid (HB10.out.trans (hb11.mono HB10.out.size))
  have HV11 := Lib.hid (HV10.out.below hb11)
  clear hb11
  go_wp2_with fail
  clear v1 v2 v3 v4 v5 v6
  refine (value_open HV11.out _ _ (got_bytes i j c x y) L1.out (prgOf (rightE i j c x y)) _ PG.out).mono ?_
  rintro e w12 ⟨AG, cG, BG, dG, rfl, hp, hb12⟩
  have G12 := Lib.hid hp
  clear hp
  have hK12 := Lib.hid hb12
  have HB12 := Lib.hid (HB11.out.trans (hb12.mono HB11.out.size))
  have HV12 := Lib.hid (HV11.out.below hb12)
  clear hb12
  go_wp2_with fail
  have hb13 : Below w12.heap.size w12 (w12.alloc (.cells #[.slice AG (prgOf (rightE i j c x y)).recs.length cG, .slice BG (prgOf (rightE i j c x y)).funs.length dG] 28)) := (Below.refl _ _).alloc (Nat.le_refl _) _
  have e13 := heap_alloc_new w12 (.cells #[.slice AG (prgOf (rightE i j c x y)).recs.length cG, .slice BG (prgOf (rightE i j c x y)).funs.length dG] 28)
  have s13 : w12.heap.size < (w12.alloc (.cells #[.slice AG (prgOf (rightE i j c x y)).recs.length cG, .slice BG (prgOf (rightE i j c x y)).funs.length dG] 28)).heap.size := by simp
  obtain ⟨w13, HW13⟩ : ∃ U, Hid (w12.alloc (.cells #[.slice AG (prgOf (rightE i j c x y)).recs.length cG, .slice BG (prgOf (rightE i j c x y)).funs.length dG] 28) = U) := ⟨_, Lib.hid rfl⟩
  rw [HW13.out] at hb13 e13 s13 ⊢
  have G13 := Lib.hid (G12.out.below hb13)
  have EG13 := Lib.hid e13
  have sG13 := s13
  clear e13 s13
  have hK13 := Lib.hid hb13
  have HB13 := Lib.hid (HB12.out.trans (hb13.mono HB12.out.size))
  have HV13 := Lib.hid (HV12.out.below hb13)
  clear hb13
  refine (value_open HV13.out _ _ (left_bytes i j c x y) L2.out (prgOf (leftE i j c x y)) _ PL.out).mono ?_
  rintro e w14 ⟨AQ, cQ, BQ, dQ, rfl, hp, hb14⟩
  have Q14 := Lib.hid hp
  clear hp
  have hK14 := Lib.hid hb14
  have HB14 := Lib.hid (HB13.out.trans (hb14.mono HB13.out.size))
  have HV14 := Lib.hid (HV13.out.below hb14)
  have G14 := Lib.hid (G13.out.below hb14)
  have EG14 := Lib.hid ((hb14.block _ sG13).trans EG13.out)
  have sG14 : w12.heap.size < w14.heap.size := Nat.lt_of_lt_of_le sG13 hb14.size
  clear hb14
  go_wp2_with fail
  have GL := Lib.hid (PrgIs.turn' (w := w14) G14.out (q := fun b => b < w14.heap.size) (w' := w14) (fun b hb _ => ⟨hb, rfl⟩))
  have hb15 : Below w14.heap.size w14 (w14.alloc (.cells #[.slice AQ (prgOf (leftE i j c x y)).recs.length cQ, .slice BQ (prgOf (leftE i j c x y)).funs.length dQ] 28)) := (Below.refl _ _).alloc (Nat.le_refl _) _
  have e15 := heap_alloc_new w14 (.cells #[.slice AQ (prgOf (leftE i j c x y)).recs.length cQ, .slice BQ (prgOf (leftE i j c x y)).funs.length dQ] 28)
  have s15 : w14.heap.size < (w14.alloc (.cells #[.slice AQ (prgOf (leftE i j c x y)).recs.length cQ, .slice BQ (prgOf (leftE i j c x y)).funs.length dQ] 28)).heap.size := by simp
  obtain ⟨w15, HW15⟩ : ∃ U, Hid (w14.alloc (.cells #[.slice AQ (prgOf (leftE i j c x y)).recs.length cQ, .slice BQ (prgOf (leftE i j c x y)).funs.length dQ] 28) = U) := ⟨_, Lib.hid rfl⟩
  rw [HW15.out] at hb15 e15 s15 ⊢
  have Q15 := Lib.hid (Q14.out.below hb15)
  have EQ15 := Lib.hid e15
  have sQ15 := s15
  clear e15 s15
  have hK15 := Lib.hid hb15
  have HB15 := Lib.hid (HB14.out.trans (hb15.mono HB14.out.size))
  have HV15 := Lib.hid (HV14.out.below hb15)
  have G15 := Lib.hid (G14.out.below hb15)
  have EG15 := Lib.hid ((hb15.block _ sG14).trans EG14.out)
  have sG15 : w12.heap.size < w15.heap.size := Nat.lt_of_lt_of_le sG14 hb15.size
  clear hb15
  have GL15 := Lib.hid (PrgIs.turn' (w := w14) GL.out (q := fun b => b < w14.heap.size) (w' := w15) (fun b hb hq => ⟨hq, hK15.out.block b hb⟩))
  refine (value_open HV15.out _ _ (right_bytes i j c x y) L3.out (prgOf (rightE i j c x y)) _ PR.out).mono ?_
  rintro e w16 ⟨AR, cR, BR, dR, rfl, hp, hb16⟩
  have R16 := Lib.hid hp
  clear hp
  have hK16 := Lib.hid hb16
  have HB16 := Lib.hid (HB15.out.trans (hb16.mono HB15.out.size))
  have HV16 := Lib.hid (HV15.out.below hb16)
  have G16 := Lib.hid (G15.out.below hb16)
  have EG16 := Lib.hid ((hb16.block _ sG15).trans EG15.out)
  have sG16 : w12.heap.size < w16.heap.size := Nat.lt_of_lt_of_le sG15 hb16.size
  have Q16 := Lib.hid (Q15.out.below hb16)
  have EQ16 := Lib.hid ((hb16.block _ sQ15).trans EQ15.out)
  have sQ16 : w14.heap.size < w16.heap.size := Nat.lt_of_lt_of_le sQ15 hb16.size
  clear hb16
  have GL16 := Lib.hid (PrgIs.turn' (w := w15) GL15.out (q := fun b => b < w14.heap.size) (w' := w16) (fun b hb hq => ⟨hq, hK16.out.block b hb⟩))
  obtain ⟨c0, c1⟩ := cells_two EQ16.out
  have f0 : w16.frozen? ⟨w14.heap.size, 0, none⟩ = false := Lib.frozen_of_heap EQ16.out 0
  have f1 : w16.frozen? ⟨w14.heap.size, 1, none⟩ = false := Lib.frozen_of_heap EQ16.out 1
  have u1 := setC_cell (o := 0) (.slice AR (prgOf (rightE i j c x y)).recs.length cR) EQ16.out
  have u2 := setC_cell (o := 1) (.slice BR (prgOf (rightE i j c x y)).funs.length dR) u1.at_
  have hgq : w12.heap.size ≠ w14.heap.size := by have := sG14; omega
  have hle : w.heap.size ≤ w14.heap.size := HB14.out.size
  have hHB := (HB16.out.setCell (p := ⟨w14.heap.size, 0, none⟩) hle (.slice AR (prgOf (rightE i j c x y)).recs.length cR)).setCell (p := ⟨w14.heap.size, 1, none⟩) hle (.slice BR (prgOf (rightE i j c x y)).funs.length dR)
  have hRt := PrgIs.turn' (w := w16) R16.out (q := fun _ => True) (w' := ((w16.setCell ⟨w14.heap.size, 0, none⟩ (.slice AR (prgOf (rightE i j c x y)).recs.length cR)).setCell ⟨w14.heap.size, 1, none⟩ (.slice BR (prgOf (rightE i j c x y)).funs.length dR))) (fun b hb hp => ⟨trivial, by have hp' : w15.heap.size ≤ b := hp; have := sQ15; rw [u2.block b (by omega), u1.block b (by omega)]⟩)
  have hGt := PrgIs.turn' (w := w16) GL16.out (q := fun _ => True) (w' := ((w16.setCell ⟨w14.heap.size, 0, none⟩ (.slice AR (prgOf (rightE i j c x y)).recs.length cR)).setCell ⟨w14.heap.size, 1, none⟩ (.slice BR (prgOf (rightE i j c x y)).funs.length dR))) (fun b hb hp => ⟨trivial, by have hp' : b < w14.heap.size := hp; rw [u2.block b (by omega), u1.block b (by omega)]⟩)
  have e8 := u2.held hgq (u1.held hgq EG16.out)
  have e9 := u2.at_
  have hV2 := HV0.out.below hHB
  obtain ⟨g0, g1⟩ := cells_two EG16.out
  have hne : ¬ w12.heap.size = w14.heap.size := hgq
  have hne2 : ¬ w14.heap.size = w12.heap.size := fun e => hgq e.symm
  have HB17 := Lib.hid hHB
  have HV17 := Lib.hid hV2
  have HP9 := Lib.hid hGt
  have HQ9 := Lib.hid hRt
  clear u1 u2 hHB hRt hGt e8 e9 hV2 hle hgq
  go_wp2_with fail
  refine (program_same true HP9.out HQ9.out).mono ?_
  rintro e w18 ⟨rfl, hb18⟩
  have hK18 := Lib.hid hb18
  have HB18 := Lib.hid (HB17.out.trans (hb18.mono HB17.out.size))
  have HV18 := Lib.hid (HV17.out.below hb18)
  clear hb18
  clear g0 g1 c0 c1 f0 f1
  go_wp2_with fail
  refine (known_any HV18.out).mono ?_
  rintro e w19 ⟨rfl, hb19⟩
  have hK19 := Lib.hid hb19
  have HB19 := Lib.hid (HB18.out.trans (hb19.mono HB18.out.size))
  have HV19 := Lib.hid (HV18.out.below hb19)
  clear hb19
  go_wp2_with fail
  go_ret
  exact ⟨rfl, HB19.out⟩
set_option maxHeartbeats 8000000 in
set_option maxRecDepth 100000 in
theorem levels_left (a b cc xx yy : Int) (w : World) (hV : VarsAt w) (h1 : a < 9223372036854775808) (h2 : b < 9223372036854775808) (h3 : cc < 9223372036854775808) (h4 : xx < 9223372036854775808) (h5 : yy < 9223372036854775808) (i j c x y : Nat) (hi8 : i < 8) (hj8 : j < 8) (hc8 : c < 8) (hx12 : x < 12) (hy12 : y < 12) (HI : Hid (a % 8 = (i : Int))) (HJ : Hid (b % 8 = (j : Int))) (HC : Hid (cc % 8 = (c : Int))) (HX : Hid (xx % 12 = (x : Int))) (HY : Hid (yy % 12 = (y : Int))) (e1 : lvl x ≠ 1) (e2 : ¬ lvl x < lvl y) :
    Calls Tryd.prog 3 #[.int .i64 a, .int .i64 b, .int .i64 cc, .int .i64 xx, .int .i64 yy] w fun e w' => e = .returned (.bool true) ∧ Below w.heap.size w w' := by
  have q1 : ((lvl x : Int) == 1) = false := by simp; omega
  have q3 : decide ((lvl x : Int) < (lvl y : Int)) = false := by simp; omega
  have q4 : decide (lvl x < lvl y) = false := by simp; omega
  have hlen1 : (gotS i j c x y).length ≤ 10000 := by have := opd_len hi8; have := opd_len hj8; have := opd_len hc8; have := sgn_len hx12; have := sgn_len hy12; simp only [gotS, List.length_append, List.length_cons, List.length_nil]; omega
  have L1 := Lib.hid hlen1
  have hlen2 : (leftS i j c x y).length ≤ 10000 := by have := opd_len hi8; have := opd_len hj8; have := opd_len hc8; have := sgn_len hx12; have := sgn_len hy12; simp only [leftS, List.length_append, List.length_cons, List.length_nil]; omega
  have L2 := Lib.hid hlen2
  have hlen3 : (rightS i j c x y).length ≤ 10000 := by have := opd_len hi8; have := opd_len hj8; have := opd_len hc8; have := sgn_len hx12; have := sgn_len hy12; simp only [rightS, List.length_append, List.length_cons, List.length_nil]; omega
  have L3 := Lib.hid hlen3
  clear hlen2 hlen3
  clear hlen1
  have PG := Lib.hid (got_left hi8 hj8 hc8 hx12 hy12 e2 (fun h => e1 h.1))
  have PL := Lib.hid (left_parse hi8 hj8 hc8 hx12 hy12)
  have PR := Lib.hid (right_parse hi8 hj8 hc8 hx12 hy12)
  clear e1 e2
  have HV0 := Lib.hid hV
  have HB0 := Lib.hid (Below.refl w.heap.size w)
  have li := opd_len hi8
  have lj := opd_len hj8
  have lc := opd_len hc8
  have lx := sgn_len hx12
  have ly := sgn_len hy12
  have t1 := sumL (⟨#[40]⟩) ⟨(opd i).toArray⟩ (by simp only [size_bytes, List.length_cons, List.length_nil]; omega)
  have t2 := sumL ((⟨#[40]⟩ : ByteArray) ++ ⟨(opd i).toArray⟩) ⟨#[32]⟩ (by simp only [size_append, size_bytes, List.length_cons, List.length_nil]; omega)
  have t3 := sumL ((⟨#[40]⟩ : ByteArray) ++ ⟨(opd i).toArray⟩ ++ ⟨#[32]⟩) ⟨(sgn x).toArray⟩ (by simp only [size_append, size_bytes, List.length_cons, List.length_nil]; omega)
  have t4 := sumL ((⟨#[40]⟩ : ByteArray) ++ ⟨(opd i).toArray⟩ ++ ⟨#[32]⟩ ++ ⟨(sgn x).toArray⟩) ⟨#[32]⟩ (by simp only [size_append, size_bytes, List.length_cons, List.length_nil]; omega)
  have t5 := sumL ((⟨#[40]⟩ : ByteArray) ++ ⟨(opd i).toArray⟩ ++ ⟨#[32]⟩ ++ ⟨(sgn x).toArray⟩ ++ ⟨#[32]⟩) ⟨(opd j).toArray⟩ (by simp only [size_append, size_bytes, List.length_cons, List.length_nil]; omega)
  have t6 := sumL ((⟨#[40]⟩ : ByteArray) ++ ⟨(opd i).toArray⟩ ++ ⟨#[32]⟩ ++ ⟨(sgn x).toArray⟩ ++ ⟨#[32]⟩ ++ ⟨(opd j).toArray⟩) ⟨#[41, 32]⟩ (by simp only [size_append, size_bytes, List.length_cons, List.length_nil]; omega)
  have t7 := sumL ((⟨#[40]⟩ : ByteArray) ++ ⟨(opd i).toArray⟩ ++ ⟨#[32]⟩ ++ ⟨(sgn x).toArray⟩ ++ ⟨#[32]⟩ ++ ⟨(opd j).toArray⟩ ++ ⟨#[41, 32]⟩) ⟨(sgn y).toArray⟩ (by simp only [size_append, size_bytes, List.length_cons, List.length_nil]; omega)
  have t8 := sumL ((⟨#[40]⟩ : ByteArray) ++ ⟨(opd i).toArray⟩ ++ ⟨#[32]⟩ ++ ⟨(sgn x).toArray⟩ ++ ⟨#[32]⟩ ++ ⟨(opd j).toArray⟩ ++ ⟨#[41, 32]⟩ ++ ⟨(sgn y).toArray⟩) ⟨#[32]⟩ (by simp only [size_append, size_bytes, List.length_cons, List.length_nil]; omega)
  have t9 := sumL ((⟨#[40]⟩ : ByteArray) ++ ⟨(opd i).toArray⟩ ++ ⟨#[32]⟩ ++ ⟨(sgn x).toArray⟩ ++ ⟨#[32]⟩ ++ ⟨(opd j).toArray⟩ ++ ⟨#[41, 32]⟩ ++ ⟨(sgn y).toArray⟩ ++ ⟨#[32]⟩) ⟨(opd c).toArray⟩ (by simp only [size_append, size_bytes, List.length_cons, List.length_nil]; omega)
  clear hV
  go_enter Tryd.func3, Tryd.ntmps3
  go_wp2_with fail
  refine (operatorL xx x _ h4 hx12 HX).mono ?_
  rintro e w1 ⟨rfl, hb1⟩
  have hK1 := Lib.hid hb1
  have HB1 := Lib.hid (HB0.out.trans (hb1.mono HB0.out.size))
  have HV1 := Lib.hid (HV0.out.below hb1)
  clear hb1
  go_wp2_with fail
  refine (operatorL yy y _ h5 hy12 HY).mono ?_
  rintro e w2 ⟨rfl, hb2⟩
  have hK2 := Lib.hid hb2
  have HB2 := Lib.hid (HB1.out.trans (hb2.mono HB1.out.size))
  have HV2 := Lib.hid (HV1.out.below hb2)
  clear hb2
  go_wp2_with fail
  refine (operandL a i _ h1 hi8 HI).mono ?_
  rintro e w3 ⟨rfl, hb3⟩
  have hK3 := Lib.hid hb3
  have HB3 := Lib.hid (HB2.out.trans (hb3.mono HB2.out.size))
  have HV3 := Lib.hid (HV2.out.below hb3)
  clear hb3
  go_wp2_with fail
  refine (operandL b j _ h2 hj8 HJ).mono ?_
  rintro e w4 ⟨rfl, hb4⟩
  have hK4 := Lib.hid hb4
  have HB4 := Lib.hid (HB3.out.trans (hb4.mono HB3.out.size))
  have HV4 := Lib.hid (HV3.out.below hb4)
  clear hb4
  go_wp2_with fail
  refine (operandL cc c _ h3 hc8 HC).mono ?_
  rintro e w5 ⟨rfl, hb5⟩
  have hK5 := Lib.hid hb5
  have HB5 := Lib.hid (HB4.out.trans (hb5.mono HB4.out.size))
  have HV5 := Lib.hid (HV4.out.below hb5)
  clear hb5
  go_wp2_with fail
  clear t1 t2 t3 t4 t5 t6 t7 t8 t9
  have u1 := sumL (⟨(opd i).toArray⟩) ⟨#[32]⟩ (by simp only [size_bytes, List.length_cons, List.length_nil]; omega)
  have u2 := sumL ((⟨(opd i).toArray⟩ : ByteArray) ++ ⟨#[32]⟩) ⟨(sgn x).toArray⟩ (by simp only [size_append, size_bytes, List.length_cons, List.length_nil]; omega)
  have u3 := sumL ((⟨(opd i).toArray⟩ : ByteArray) ++ ⟨#[32]⟩ ++ ⟨(sgn x).toArray⟩) ⟨#[32, 40]⟩ (by simp only [size_append, size_bytes, List.length_cons, List.length_nil]; omega)
  have u4 := sumL ((⟨(opd i).toArray⟩ : ByteArray) ++ ⟨#[32]⟩ ++ ⟨(sgn x).toArray⟩ ++ ⟨#[32, 40]⟩) ⟨(opd j).toArray⟩ (by simp only [size_append, size_bytes, List.length_cons, List.length_nil]; omega)
  have u5 := sumL ((⟨(opd i).toArray⟩ : ByteArray) ++ ⟨#[32]⟩ ++ ⟨(sgn x).toArray⟩ ++ ⟨#[32, 40]⟩ ++ ⟨(opd j).toArray⟩) ⟨#[32]⟩ (by simp only [size_append, size_bytes, List.length_cons, List.length_nil]; omega)
  have u6 := sumL ((⟨(opd i).toArray⟩ : ByteArray) ++ ⟨#[32]⟩ ++ ⟨(sgn x).toArray⟩ ++ ⟨#[32, 40]⟩ ++ ⟨(opd j).toArray⟩ ++ ⟨#[32]⟩) ⟨(sgn y).toArray⟩ (by simp only [size_append, size_bytes, List.length_cons, List.length_nil]; omega)
  have u7 := sumL ((⟨(opd i).toArray⟩ : ByteArray) ++ ⟨#[32]⟩ ++ ⟨(sgn x).toArray⟩ ++ ⟨#[32, 40]⟩ ++ ⟨(opd j).toArray⟩ ++ ⟨#[32]⟩ ++ ⟨(sgn y).toArray⟩) ⟨#[32]⟩ (by simp only [size_append, size_bytes, List.length_cons, List.length_nil]; omega)
  have u8 := sumL ((⟨(opd i).toArray⟩ : ByteArray) ++ ⟨#[32]⟩ ++ ⟨(sgn x).toArray⟩ ++ ⟨#[32, 40]⟩ ++ ⟨(opd j).toArray⟩ ++ ⟨#[32]⟩ ++ ⟨(sgn y).toArray⟩ ++ ⟨#[32]⟩) ⟨(opd c).toArray⟩ (by simp only [size_append, size_bytes, List.length_cons, List.length_nil]; omega)
  have u9 := sumL ((⟨(opd i).toArray⟩ : ByteArray) ++ ⟨#[32]⟩ ++ ⟨(sgn x).toArray⟩ ++ ⟨#[32, 40]⟩ ++ ⟨(opd j).toArray⟩ ++ ⟨#[32]⟩ ++ ⟨(sgn y).toArray⟩ ++ ⟨#[32]⟩ ++ ⟨(opd c).toArray⟩) ⟨#[41]⟩ (by simp only [size_append, size_bytes, List.length_cons, List.length_nil]; omega)
  refine (operandL a i _ h1 hi8 HI).mono ?_
  rintro e w6 ⟨rfl, hb6⟩
  have hK6 := Lib.hid hb6
  have HB6 := Lib.hid (HB5.out.trans (hb6.mono HB5.out.size))
  have HV6 := Lib.hid (HV5.out.below hb6)
  clear hb6
  go_wp2_with fail
  refine (operandL b j _ h2 hj8 HJ).mono ?_
  rintro e w7 ⟨rfl, hb7⟩
  have hK7 := Lib.hid hb7
  have HB7 := Lib.hid (HB6.out.trans (hb7.mono HB6.out.size))
  have HV7 := Lib.hid (HV6.out.below hb7)
  clear hb7
  go_wp2_with fail
  refine (operandL cc c _ h3 hc8 HC).mono ?_
  rintro e w8 ⟨rfl, hb8⟩
  have hK8 := Lib.hid hb8
  have HB8 := Lib.hid (HB7.out.trans (hb8.mono HB7.out.size))
  have HV8 := Lib.hid (HV7.out.below hb8)
  clear hb8
  go_wp2_with fail
  clear u1 u2 u3 u4 u5 u6 u7 u8 u9
  have v1 := sumL (⟨(opd i).toArray⟩) ⟨#[32]⟩ (by simp only [size_bytes, List.length_cons, List.length_nil]; omega)
  have v2 := sumL ((⟨(opd i).toArray⟩ : ByteArray) ++ ⟨#[32]⟩) ⟨(sgn x).toArray⟩ (by simp only [size_append, size_bytes, List.length_cons, List.length_nil]; omega)
  have v3 := sumL ((⟨(opd i).toArray⟩ : ByteArray) ++ ⟨#[32]⟩ ++ ⟨(sgn x).toArray⟩) ⟨#[32]⟩ (by simp only [size_append, size_bytes, List.length_cons, List.length_nil]; omega)
  have v4 := sumL ((⟨(opd i).toArray⟩ : ByteArray) ++ ⟨#[32]⟩ ++ ⟨(sgn x).toArray⟩ ++ ⟨#[32]⟩) ⟨(opd j).toArray⟩ (by simp only [size_append, size_bytes, List.length_cons, List.length_nil]; omega)
  have v5 := sumL ((⟨(opd i).toArray⟩ : ByteArray) ++ ⟨#[32]⟩ ++ ⟨(sgn x).toArray⟩ ++ ⟨#[32]⟩ ++ ⟨(opd j).toArray⟩) ⟨(sgn y).toArray⟩ (by simp only [size_append, size_bytes, List.length_cons, List.length_nil]; omega)
  have v6 := sumL ((⟨(opd i).toArray⟩ : ByteArray) ++ ⟨#[32]⟩ ++ ⟨(sgn x).toArray⟩ ++ ⟨#[32]⟩ ++ ⟨(opd j).toArray⟩ ++ ⟨(sgn y).toArray⟩) ⟨(opd c).toArray⟩ (by simp only [size_append, size_bytes, List.length_cons, List.length_nil]; omega)
  refine (operandL a i _ h1 hi8 HI).mono ?_
  rintro e w9 ⟨rfl, hb9⟩
  have hK9 := Lib.hid hb9
  have HB9 := Lib.hid (HB8.out.trans (hb9.mono HB8.out.size))
  have HV9 := Lib.hid (HV8.out.below hb9)
  clear hb9
  go_wp2_with fail
  refine (operandL b j _ h2 hj8 HJ).mono ?_
  rintro e w10 ⟨rfl, hb10⟩
  have hK10 := Lib.hid hb10
  have HB10 := Lib.hid (HB9.out.trans (hb10.mono HB9.out.size))
  have HV10 := Lib.hid (HV9.out.below hb10)
  clear hb10
  go_wp2_with fail
  refine (operandL cc c _ h3 hc8 HC).mono ?_
  rintro e w11 ⟨rfl, hb11⟩
  have hK11 := Lib.hid hb11
  have HB11 := Lib.hid (HB10.out.trans (hb11.mono HB10.out.size))
  have HV11 := Lib.hid (HV10.out.below hb11)
  clear hb11
  go_wp2_with fail
  clear v1 v2 v3 v4 v5 v6
  refine (value_open HV11.out _ _ (got_bytes i j c x y) L1.out (prgOf (leftE i j c x y)) _ PG.out).mono ?_
  rintro e w12 ⟨AG, cG, BG, dG, rfl, hp, hb12⟩
  have G12 := Lib.hid hp
  clear hp
  have hK12 := Lib.hid hb12
  have HB12 := Lib.hid (HB11.out.trans (hb12.mono HB11.out.size))
  have HV12 := Lib.hid (HV11.out.below hb12)
  clear hb12
  go_wp2_with fail
  have hb13 : Below w12.heap.size w12 (w12.alloc (.cells #[.slice AG (prgOf (leftE i j c x y)).recs.length cG, .slice BG (prgOf (leftE i j c x y)).funs.length dG] 28)) := (Below.refl _ _).alloc (Nat.le_refl _) _
  have e13 := heap_alloc_new w12 (.cells #[.slice AG (prgOf (leftE i j c x y)).recs.length cG, .slice BG (prgOf (leftE i j c x y)).funs.length dG] 28)
  have s13 : w12.heap.size < (w12.alloc (.cells #[.slice AG (prgOf (leftE i j c x y)).recs.length cG, .slice BG (prgOf (leftE i j c x y)).funs.length dG] 28)).heap.size := by simp
  obtain ⟨w13, HW13⟩ : ∃ U, Hid (w12.alloc (.cells #[.slice AG (prgOf (leftE i j c x y)).recs.length cG, .slice BG (prgOf (leftE i j c x y)).funs.length dG] 28) = U) := ⟨_, Lib.hid rfl⟩
  rw [HW13.out] at hb13 e13 s13 ⊢
  have G13 := Lib.hid (G12.out.below hb13)
  have EG13 := Lib.hid e13
  have sG13 := s13
  clear e13 s13
  have hK13 := Lib.hid hb13
  have HB13 := Lib.hid (HB12.out.trans (hb13.mono HB12.out.size))
  have HV13 := Lib.hid (HV12.out.below hb13)
  clear hb13
  refine (value_open HV13.out _ _ (left_bytes i j c x y) L2.out (prgOf (leftE i j c x y)) _ PL.out).mono ?_
  rintro e w14 ⟨AQ, cQ, BQ, dQ, rfl, hp, hb14⟩
  have Q14 := Lib.hid hp
  clear hp
  have hK14 := Lib.hid hb14
  have HB14 := Lib.hid (HB13.out.trans (hb14.mono HB13.out.size))
  have HV14 := Lib.hid (HV13.out.below hb14)
  have G14 := Lib.hid (G13.out.below hb14)
  have EG14 := Lib.hid ((hb14.block _ sG13).trans EG13.out)
  have sG14 : w12.heap.size < w14.heap.size := Nat.lt_of_lt_of_le sG13 hb14.size
  clear hb14
  have hab := (Below.refl _ w14).alloc (Nat.le_refl _) (.cells #[.slice AQ (prgOf (leftE i j c x y)).recs.length cQ, .slice BQ (prgOf (leftE i j c x y)).funs.length dQ] 28)
  have HP9 := Lib.hid (G14.out.below hab)
  have HQ9 := Lib.hid (Q14.out.below hab)
  have HV15 := Lib.hid (HV14.out.below hab)
  have HB15 := Lib.hid (HB14.out.trans (hab.mono HB14.out.size))
  have e8 := held_alloc (.cells #[.slice AQ (prgOf (leftE i j c x y)).recs.length cQ, .slice BQ (prgOf (leftE i j c x y)).funs.length dQ] 28) EG14.out
  have e9 := heap_alloc_new w14 (.cells #[.slice AQ (prgOf (leftE i j c x y)).recs.length cQ, .slice BQ (prgOf (leftE i j c x y)).funs.length dQ] 28)
  obtain ⟨g0, g1⟩ := cells_two e8
  obtain ⟨k0, k1⟩ := cells_two e9
  have hne : ¬ w12.heap.size = w14.heap.size := by have := sG14; omega
  clear hab e8 e9
  go_wp2_with fail
  refine (program_same true HP9.out HQ9.out).mono ?_
  rintro e w16 ⟨rfl, hb16⟩
  have hK16 := Lib.hid hb16
  have HB16 := Lib.hid (HB15.out.trans (hb16.mono HB15.out.size))
  have HV16 := Lib.hid (HV15.out.below hb16)
  clear hb16
  clear g0 g1 k0 k1
  go_wp2_with fail
  refine (known_any HV16.out).mono ?_
  rintro e w17 ⟨rfl, hb17⟩
  have hK17 := Lib.hid hb17
  have HB17 := Lib.hid (HB16.out.trans (hb17.mono HB16.out.size))
  have HV17 := Lib.hid (HV16.out.below hb17)
  clear hb17
  go_wp2_with fail
  go_ret
  exact ⟨rfl, HB17.out⟩
theorem levels_any (a b cc xx yy : Int) (w : World) (hV : VarsAt w) (h1 : a < 9223372036854775808) (h2 : b < 9223372036854775808) (h3 : cc < 9223372036854775808) (h4 : xx < 9223372036854775808) (h5 : yy < 9223372036854775808) :
    Calls Tryd.prog 3 #[.int .i64 a, .int .i64 b, .int .i64 cc, .int .i64 xx, .int .i64 yy] w fun e w' => e = .returned (.bool true) ∧ Below w.heap.size w w' := by
  obtain ⟨i, hi⟩ : ∃ i : Nat, a % 8 = (i : Int) := ⟨(a % 8).toNat, by omega⟩
  obtain ⟨j, hj⟩ : ∃ i : Nat, b % 8 = (i : Int) := ⟨(b % 8).toNat, by omega⟩
  obtain ⟨c, hc⟩ : ∃ i : Nat, cc % 8 = (i : Int) := ⟨(cc % 8).toNat, by omega⟩
  obtain ⟨x, hx⟩ : ∃ i : Nat, xx % 12 = (i : Int) := ⟨(xx % 12).toNat, by omega⟩
  obtain ⟨y, hy⟩ : ∃ i : Nat, yy % 12 = (i : Int) := ⟨(yy % 12).toNat, by omega⟩
  have i8 : i < 8 := by omega
  have j8 : j < 8 := by omega
  have c8 : c < 8 := by omega
  have x12 : x < 12 := by omega
  have y12 : y < 12 := by omega
  have lx := lvl_pos x12
  have ly := lvl_pos y12
  by_cases e1 : lvl x = 1
  · by_cases e2 : lvl y = 1
    · exact levels_two a b cc xx yy w hV h1 h2 h3 h4 h5 i j c x y i8 j8 c8 x12 y12 (Lib.hid hi) (Lib.hid hj) (Lib.hid hc) (Lib.hid hx) (Lib.hid hy) e1 e2
    · exact levels_right_one a b cc xx yy w hV h1 h2 h3 h4 h5 i j c x y i8 j8 c8 x12 y12 (Lib.hid hi) (Lib.hid hj) (Lib.hid hc) (Lib.hid hx) (Lib.hid hy) e1 (by omega)
  · by_cases e2 : lvl x < lvl y
    · exact levels_right a b cc xx yy w hV h1 h2 h3 h4 h5 i j c x y i8 j8 c8 x12 y12 (Lib.hid hi) (Lib.hid hj) (Lib.hid hc) (Lib.hid hx) (Lib.hid hy) e1 e2
    · exact levels_left a b cc xx yy w hV h1 h2 h3 h4 h5 i j c x y i8 j8 c8 x12 y12 (Lib.hid hi) (Lib.hid hj) (Lib.hid hc) (Lib.hid hx) (Lib.hid hy) e1 e2
end Go.Proofs.YtpfefjfpnmchcaaDoor
