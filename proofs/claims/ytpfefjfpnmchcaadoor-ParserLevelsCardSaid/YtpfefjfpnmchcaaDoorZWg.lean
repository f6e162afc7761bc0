/-
  The walk of the printer's operation. Conditions: the printer in memory, the texts' sizes together at most 2^47. The walk of the printer's expression. Conditions: the printer in memory, the texts' sizes together at most 2^47; what strconv.Itoa answers. The walks of the printer's expression whole, value and declaration. Conditions: the printer in memory, the texts' sizes together at most 2^47; what strconv.Itoa answers.
-/
import Derived.Test.YtpfefjfpnmchcaaDoorZWa
import Derived.StillTailTactics
import Derived.IntWalk
namespace Go.Proofs.YtpfefjfpnmchcaaDoor
open Go.RowKit

theorem sign_small {op : Int} {sg : List UInt8} {rk : Nat} (h : signOf op = some (sg, rk)) : rk ≤ 4 := by
  by_cases hn : op < 6 ∨ 17 < op
  · rw [signOf_no op hn] at h
    cases h
  · obtain ⟨k, rfl⟩ : ∃ k : Nat, op = (k : Int) + 6 := ⟨(op - 6).toNat, by omega⟩
    rw [signOf_yes k (by omega)] at h
    injection h with h
    injection h with _ h
    subst h
    match k, (show k < 12 by omega) with
    | 0, _ => decide
    | 1, _ => decide
    | 2, _ => decide
    | 3, _ => decide
    | 4, _ => decide
    | 5, _ => decide
    | 6, _ => decide
    | 7, _ => decide
    | 8, _ => decide
    | 9, _ => decide
    | 10, _ => decide
    | 11, _ => decide
    | k + 12, h => exact absurd h (by omega)
/-- The text of an operation of two operands. -/
def operT (op : Int) (args : List Ex) : List UInt8 := match signOf op with
  | none => []
  | some (s, r) => if args.length = 2 then sideT (max r 2) (r + 1) (32 :: (s ++ [32])) args else []
set_option maxHeartbeats 2000000 in
set_option maxRecDepth 100000 in
theorem operation_none {B P d : Nat} (hgB : PkB B) {w : World} {l : List UInt8} (op num var : Int) (nm fld : List UInt8) {A : Option Addr} {c : Nat} {args : List Ex} (h : Tx B P l w) (hO : Pk w) (hx : ExsD w tt d A c args) (hs : signOf op = none) :
    Calls Tryd.prog 85 #[.pointer (some ⟨P, 0, none⟩), .agg #[.int .i64 op, .int .i64 num, .int .i64 var, .string ⟨nm.toArray⟩, .string ⟨fld.toArray⟩, .slice A args.length c]] w (Wrote B P (l ++ operT op args) w) := by
  have t0 := h.alloc (.cells #[.int .i64 op, .int .i64 num, .int .i64 var, .string ⟨nm.toArray⟩, .string ⟨fld.toArray⟩, .slice A args.length c] 51)
  have q0 := (Wr.refl B w).alloc h.base (.cells #[.int .i64 op, .int .i64 num, .int .i64 var, .string ⟨nm.toArray⟩, .string ⟨fld.toArray⟩, .slice A args.length c] 51)
  have o0 := hO.wr hgB q0
  have e0 := heap_alloc_new w (.cells #[.int .i64 op, .int .i64 num, .int .i64 var, .string ⟨nm.toArray⟩, .string ⟨fld.toArray⟩, .slice A args.length c] 51)
  have X_0 := hx.wr q0
  obtain ⟨w0, HW0⟩ : ∃ U, Hid (w.alloc (.cells #[.int .i64 op, .int .i64 num, .int .i64 var, .string ⟨nm.toArray⟩, .string ⟨fld.toArray⟩, .slice A args.length c] 51) = U) := ⟨_, Lib.hid rfl⟩
  rw [HW0.out] at t0 q0 o0 e0 X_0
  have hz0 : w0.heap.size = w.heap.size + 1 := by rw [← HW0.out]; exact World.size_alloc _ _
  have HZ0 := Lib.hid hz0
  have T0 := Lib.hid t0
  have Q0 := Lib.hid q0
  have O0 := Lib.hid o0
  have E0 := Lib.hid e0
  have X0 := Lib.hid X_0
  have hs0 : w.heap.size < w0.heap.size := by omega
  clear hz0 t0 q0 o0 e0 X_0
  have HC := Lib.hid (operatorOf_any (w := w0) op num var ⟨nm.toArray⟩ ⟨fld.toArray⟩ A args.length c O0.out.1)
  have hop : opOf op = ([], 0) := by rw [opOf, hs]; rfl
  rw [hop, hs] at HC
  rw [show operT op args = [] by rw [operT, hs]]
  clear hop
  have hcap : c ≤ 9223372036854775807 := by have := hx.2.1; unfold maxLen at this; omega
  have hlc : args.length ≤ c := hx.1
  clear h hO hx hs
  go_enter Tryd.func85, Tryd.ntmps85
  go_wp2_with fail
  rw [HW0.out]
  refine (HC.out).mono ?_
  rintro e w1 ⟨rfl, hb1⟩
  have t1 := T0.out.still hb1
  have q1 := Wr.still T0.out.base hb1
  clear hb1
  have hs1 : w.heap.size < w1.heap.size := by have := q1.size; omega
  have T1 := Lib.hid t1
  have Q1 := Lib.hid (Q0.out.trans q1)
  have O1 := Lib.hid (O0.out.wr hgB q1)
  have E1 := Lib.hid (q1.other _ _ _ _ E0.out other_ex)
  have X1 := Lib.hid (X0.out.wr q1)
  clear t1 q1
  go_wp2_with fail
  go_end0
  exact ⟨rfl, by simpa using T1.out.alloc _, Q1.out.alloc T1.out.base _⟩
set_option maxHeartbeats 2000000 in
set_option maxRecDepth 100000 in
theorem operation_odd {B P d : Nat} (hgB : PkB B) {w : World} {l : List UInt8} (op num var : Int) (nm fld : List UInt8) {A : Option Addr} {c : Nat} {args : List Ex} (h : Tx B P l w) (hO : Pk w) (hx : ExsD w tt d A c args) {sg : List UInt8} {rk : Nat} (hs : signOf op = some (sg, rk)) (hn : ¬ args.length = 2) :
    Calls Tryd.prog 85 #[.pointer (some ⟨P, 0, none⟩), .agg #[.int .i64 op, .int .i64 num, .int .i64 var, .string ⟨nm.toArray⟩, .string ⟨fld.toArray⟩, .slice A args.length c]] w (Wrote B P (l ++ operT op args) w) := by
  have t0 := h.alloc (.cells #[.int .i64 op, .int .i64 num, .int .i64 var, .string ⟨nm.toArray⟩, .string ⟨fld.toArray⟩, .slice A args.length c] 51)
  have q0 := (Wr.refl B w).alloc h.base (.cells #[.int .i64 op, .int .i64 num, .int .i64 var, .string ⟨nm.toArray⟩, .string ⟨fld.toArray⟩, .slice A args.length c] 51)
  have o0 := hO.wr hgB q0
  have e0 := heap_alloc_new w (.cells #[.int .i64 op, .int .i64 num, .int .i64 var, .string ⟨nm.toArray⟩, .string ⟨fld.toArray⟩, .slice A args.length c] 51)
  have X_0 := hx.wr q0
  obtain ⟨w0, HW0⟩ : ∃ U, Hid (w.alloc (.cells #[.int .i64 op, .int .i64 num, .int .i64 var, .string ⟨nm.toArray⟩, .string ⟨fld.toArray⟩, .slice A args.length c] 51) = U) := ⟨_, Lib.hid rfl⟩
  rw [HW0.out] at t0 q0 o0 e0 X_0
  have hz0 : w0.heap.size = w.heap.size + 1 := by rw [← HW0.out]; exact World.size_alloc _ _
  have HZ0 := Lib.hid hz0
  have T0 := Lib.hid t0
  have Q0 := Lib.hid q0
  have O0 := Lib.hid o0
  have E0 := Lib.hid e0
  have X0 := Lib.hid X_0
  have hs0 : w.heap.size < w0.heap.size := by omega
  clear hz0 t0 q0 o0 e0 X_0
  have HC := Lib.hid (operatorOf_any (w := w0) op num var ⟨nm.toArray⟩ ⟨fld.toArray⟩ A args.length c O0.out.1)
  have hop : opOf op = (sg, rk) := by rw [opOf, hs]; rfl
  rw [hop, hs] at HC
  clear hop
  have hcap : c ≤ 9223372036854775807 := by have := hx.2.1; unfold maxLen at this; omega
  have hlc : args.length ≤ c := hx.1
  rw [show operT op args = [] by rw [operT, hs]; exact if_neg hn]
  have hq : ((args.length : Int) != 2) = true := by simp; omega
  clear h hO hx hs hn
  go_enter Tryd.func85, Tryd.ntmps85
  go_wp2_with fail
  rw [HW0.out]
  refine (HC.out).mono ?_
  rintro e w1 ⟨rfl, hb1⟩
  have t1 := T0.out.still hb1
  have q1 := Wr.still T0.out.base hb1
  clear hb1
  have hs1 : w.heap.size < w1.heap.size := by have := q1.size; omega
  have T1 := Lib.hid t1
  have Q1 := Lib.hid (Q0.out.trans q1)
  have O1 := Lib.hid (O0.out.wr hgB q1)
  have E1 := Lib.hid (q1.other _ _ _ _ E0.out other_ex)
  have X1 := Lib.hid (X0.out.wr q1)
  clear t1 q1
  obtain ⟨⟨c0, c1, c2, c3, c4, c5⟩, cf⟩ := cells_six E1.out
  clear cf
  go_wp2_with fail
  go_end0
  exact ⟨rfl, by simpa using T1.out.alloc _, Q1.out.alloc T1.out.base _⟩
set_option maxHeartbeats 2000000 in
set_option maxRecDepth 100000 in
theorem operation_two {B P d : Nat} (HE : ExprAt B P d) (hgB : PkB B) {w : World} {l : List UInt8} (op num var : Int) (nm fld : List UInt8) {A : Option Addr} {c : Nat} (a1 a2 : Ex) (h : Tx B P l w) (hO : Pk w) (hx : ExsD w tt d A c [a1, a2]) (hn : NmEs [a1, a2]) {sg : List UInt8} {rk : Nat} (hs : signOf op = some (sg, rk)) (hL : l.length + (operT op [a1, a2]).length ≤ 140737488355328) :
    Calls Tryd.prog 85 #[.pointer (some ⟨P, 0, none⟩), .agg #[.int .i64 op, .int .i64 num, .int .i64 var, .string ⟨nm.toArray⟩, .string ⟨fld.toArray⟩, .slice A 2 c]] w (Wrote B P (l ++ operT op [a1, a2]) w) := by
  obtain ⟨b, rfl⟩ : ∃ b, A = some ⟨b, 0, none⟩ := by obtain ⟨b, _, _, _, _, _, _, _, _, h1, _⟩ := hx.arg (k := 0) (x := a1) rfl; exact ⟨b, h1⟩
  have hrk := sign_small hs
  have HN1 := Lib.hid (NmEs.get (k := 0) (x := a1) hn rfl)
  have HN2 := Lib.hid (NmEs.get (k := 1) (x := a2) hn rfl)
  clear hn
  have hE : operT op [a1, a2] = paren (decide (rankEx a1 < max rk 2)) (exT a1) ++ ((32 :: (sg ++ [32])) ++ paren (decide (rankEx a2 < rk + 1)) (exT a2)) := by
    simp [operT, hs, sideT]
  rw [hE] at hL ⊢
  obtain ⟨p1, hp1⟩ : ∃ s, Hid (paren (decide (rankEx a1 < max rk 2)) (exT a1) = s) := ⟨_, Lib.hid rfl⟩
  obtain ⟨p2, hp2⟩ : ∃ s, Hid (paren (decide (rankEx a2 < rk + 1)) (exT a2) = s) := ⟨_, Lib.hid rfl⟩
  rw [hp1.out, hp2.out] at hL ⊢
  have HL := Lib.hid (show l.length + (p1.length + ((1 + (sg.length + 1)) + p2.length)) ≤ 140737488355328 by simp only [List.length_append, List.length_cons, List.length_nil] at hL; omega)
  clear hL hE
  have t0 := h.alloc (.cells #[.int .i64 op, .int .i64 num, .int .i64 var, .string ⟨nm.toArray⟩, .string ⟨fld.toArray⟩, .slice (some ⟨b, 0, none⟩) 2 c] 51)
  have q0 := (Wr.refl B w).alloc h.base (.cells #[.int .i64 op, .int .i64 num, .int .i64 var, .string ⟨nm.toArray⟩, .string ⟨fld.toArray⟩, .slice (some ⟨b, 0, none⟩) 2 c] 51)
  have o0 := hO.wr hgB q0
  have e0 := heap_alloc_new w (.cells #[.int .i64 op, .int .i64 num, .int .i64 var, .string ⟨nm.toArray⟩, .string ⟨fld.toArray⟩, .slice (some ⟨b, 0, none⟩) 2 c] 51)
  have X_0 := hx.wr q0
  obtain ⟨w0, HW0⟩ : ∃ U, Hid (w.alloc (.cells #[.int .i64 op, .int .i64 num, .int .i64 var, .string ⟨nm.toArray⟩, .string ⟨fld.toArray⟩, .slice (some ⟨b, 0, none⟩) 2 c] 51) = U) := ⟨_, Lib.hid rfl⟩
  rw [HW0.out] at t0 q0 o0 e0 X_0
  have hz0 : w0.heap.size = w.heap.size + 1 := by rw [← HW0.out]; exact World.size_alloc _ _
  have HZ0 := Lib.hid hz0
  have T0 := Lib.hid t0
  have Q0 := Lib.hid q0
  have O0 := Lib.hid o0
  have E0 := Lib.hid e0
  have X0 := Lib.hid X_0
  have hs0 : w.heap.size < w0.heap.size := by omega
  clear hz0 t0 q0 o0 e0 X_0
  have HC := Lib.hid (operatorOf_any (w := w0) op num var ⟨nm.toArray⟩ ⟨fld.toArray⟩ (some ⟨b, 0, none⟩) 2 c O0.out.1)
  have hop : opOf op = (sg, rk) := by rw [opOf, hs]; rfl
  rw [hop, hs] at HC
  clear hop
  have hcap : c ≤ 9223372036854775807 := by have := hx.2.1; unfold maxLen at this; omega
  have hlc : 2 ≤ c := hx.1
  clear h hO hx hs
  go_enter Tryd.func85, Tryd.ntmps85
  go_wp2_with fail
  rw [HW0.out]
  refine (HC.out).mono ?_
  rintro e w1 ⟨rfl, hb1⟩
  have t1 := T0.out.still hb1
  have q1 := Wr.still T0.out.base hb1
  clear hb1
  have hs1 : w.heap.size < w1.heap.size := by have := q1.size; omega
  have T1 := Lib.hid t1
  have Q1 := Lib.hid (Q0.out.trans q1)
  have O1 := Lib.hid (O0.out.wr hgB q1)
  have E1 := Lib.hid (q1.other _ _ _ _ E0.out other_ex)
  have X1 := Lib.hid (X0.out.wr q1)
  clear t1 q1
  obtain ⟨⟨c0, c1, c2, c3, c4, c5⟩, cf⟩ := cells_six E1.out
  clear cf
  go_wp2_with fail
  have t2 := T1.out.alloc (.cells #[.string ⟨sg.toArray⟩, .int .i64 rk] 131)
  have q2 := (Wr.refl B w1).alloc T1.out.base (.cells #[.string ⟨sg.toArray⟩, .int .i64 rk] 131)
  have eE2 := held_alloc (.cells #[.string ⟨sg.toArray⟩, .int .i64 rk] 131) E1.out
  have eF2 := heap_alloc_new w1 (.cells #[.string ⟨sg.toArray⟩, .int .i64 rk] 131)
  obtain ⟨w2, HW2⟩ : ∃ U, Hid (w1.alloc (.cells #[.string ⟨sg.toArray⟩, .int .i64 rk] 131) = U) := ⟨_, Lib.hid rfl⟩
  rw [HW2.out] at t2 q2 eE2 eF2
  have hz2 : w2.heap.size = w1.heap.size + 1 := by rw [← HW2.out]; exact World.size_alloc _ _
  have HZ2 := Lib.hid hz2
  have hs2 : w.heap.size < w2.heap.size := by omega
  have hn2 : w1.heap.size < w2.heap.size := by omega
  have T2 := Lib.hid t2
  have Q2 := Lib.hid (Q1.out.trans q2)
  have O2 := Lib.hid (O1.out.wr hgB q2)
  have E2 := Lib.hid eE2
  have F2 := Lib.hid eF2
  have X2 := Lib.hid (X1.out.wr q2)
  clear hz2 t2 q2 eE2 eF2
  rw [HW2.out]
  obtain ⟨b', op1, n1, v1, nm1, f1, as1, A1, c1', hA, hx1, hd1, g0, g1, g2, g3, g4, g5⟩ := X2.out.arg (k := 0) (x := a1) rfl
  obtain rfl : b = b' := by injection hA with e; injection e
  have D2 := Lib.hid hd1
  simp only [Nat.zero_mul, Nat.zero_add] at g0 g1 g2 g3 g4 g5
  clear c0 c1 c2 c3 c4 c5
  obtain ⟨⟨c0, c1, c2, c3, c4, c5⟩, cf⟩ := cells_six E2.out
  clear cf
  obtain ⟨o0, o1⟩ := cells_two F2.out
  clear hA hd1
  obtain ⟨mx, hmx, HMX⟩ : ∃ mx : Nat, max (rk : Int) 2 = (mx : Int) ∧ Hid (max rk 2 = mx) := ⟨max rk 2, by omega, Lib.hid rfl⟩
  rw [HMX.out] at hp1
  go_still_tail 8, (by kernel_rfl)
  change wpList _ _ _ _ _ w2.drew
  have t3 := T2.out.drew
  have q3 := (Wr.refl B w2).drew
  have eE3 : w2.drew.heap[w.heap.size]? = some (.cells #[.int .i64 op, .int .i64 num, .int .i64 var, .string ⟨nm.toArray⟩, .string ⟨fld.toArray⟩, .slice (some ⟨b, 0, none⟩) 2 c] 51 (0, 0)) := E2.out
  have eF3 : w2.drew.heap[w1.heap.size]? = some (.cells #[.string ⟨sg.toArray⟩, .int .i64 rk] 131 (0, 0)) := F2.out
  obtain ⟨w3, HW3⟩ : ∃ U, Hid (w2.drew = U) := ⟨_, Lib.hid rfl⟩
  rw [HW3.out] at t3 q3 eE3 eF3
  have hs3 : w.heap.size < w3.heap.size := by have := q3.size; omega
  have hnF3 : w1.heap.size < w3.heap.size := (Array.getElem?_eq_some_iff.1 eF3).1
  have T3 := Lib.hid t3
  have Q3 := Lib.hid (Q2.out.trans q3)
  have O3 := Lib.hid (O2.out.wr hgB q3)
  have E3 := Lib.hid eE3
  have F3 := Lib.hid eF3
  have X3 := Lib.hid (X2.out.wr q3)
  have D3 := Lib.hid (D2.out.wr q3)
  clear t3 q3 eE3 eF3
  rw [HW3.out]
  subst hx1
  go_wp2_with fail
  refine (operand_any HE hgB mx T3.out O3.out D3.out HN1.out (by rw [hp1.out]; have := HL.out; omega)).mono ?_
  rintro e w4 ⟨rfl, t4, q4⟩
  have hs4 : w.heap.size < w4.heap.size := by have := q4.size; omega
  have T4 := Lib.hid t4
  have Q4 := Lib.hid (Q3.out.trans q4)
  have O4 := Lib.hid (O3.out.wr hgB q4)
  have E4 := Lib.hid (q4.other _ _ _ _ E3.out other_ex)
  have F4 := Lib.hid (q4.other _ _ _ _ F3.out other_oper)
  have X4 := Lib.hid (X3.out.wr q4)
  have D4 := Lib.hid (D3.out.wr q4)
  clear t4 q4
  rw [hp1.out] at T4
  clear c0 c1 c2 c3 c4 c5 o0 o1 g0 g1 g2 g3 g4 g5 hmx
  obtain ⟨o0, o1⟩ := cells_two F4.out
  go_wp2_with fail
  refine (add3 _ [32] sg [32] T4.out (by first | rfl | (have := HZ0.out; omega)) (by have := HL.out; simp only [List.length_append, List.length_cons, List.length_nil]; omega)).mono ?_
  rintro e w5 ⟨rfl, t5, q5⟩
  have hs5 : w.heap.size < w5.heap.size := by have := q5.size; omega
  have T5 := Lib.hid t5
  have Q5 := Lib.hid (Q4.out.trans q5)
  have O5 := Lib.hid (O4.out.wr hgB q5)
  have E5 := Lib.hid (q5.other _ _ _ _ E4.out other_ex)
  have F5 := Lib.hid (q5.other _ _ _ _ F4.out other_oper)
  have X5 := Lib.hid (X4.out.wr q5)
  have D5 := Lib.hid (D4.out.wr q5)
  clear t5 q5
  clear o0 o1
  obtain ⟨⟨c0, c1, c2, c3, c4, c5⟩, cf⟩ := cells_six E5.out
  clear cf
  obtain ⟨o0, o1⟩ := cells_two F5.out
  obtain ⟨b', op2, n2, v2, nm2, f2, as2, A2, c2', hA, hx2, hd2, k0, k1, k2, k3, k4, k5⟩ := X5.out.arg (k := 1) (x := a2) rfl
  obtain rfl : b = b' := by injection hA with e; injection e
  simp only [Nat.one_mul] at k0 k1 k2 k3 k4 k5
  have G5 := Lib.hid hd2
  obtain ⟨r1, hr1, hr2, HR1⟩ : ∃ r1 : Nat, IntKind.i64.wrap ((rk : Int) + 1) = (r1 : Int) ∧ (rk : Int) + 1 = (r1 : Int) ∧ Hid (rk + 1 = r1) := ⟨rk + 1, IntWalk.i64_in _ (by omega), by omega, Lib.hid rfl⟩
  rw [HR1.out] at hp2
  clear hA hd2 D2 D3 D4 D5
  go_wp2_with fail
  go_still_tail 8, (by kernel_rfl)
  change wpList _ _ _ _ _ w5.drew
  have t6 := T5.out.drew
  have q6 := (Wr.refl B w5).drew
  have eE6 : w5.drew.heap[w.heap.size]? = some (.cells #[.int .i64 op, .int .i64 num, .int .i64 var, .string ⟨nm.toArray⟩, .string ⟨fld.toArray⟩, .slice (some ⟨b, 0, none⟩) 2 c] 51 (0, 0)) := E5.out
  have eF6 : w5.drew.heap[w1.heap.size]? = some (.cells #[.string ⟨sg.toArray⟩, .int .i64 rk] 131 (0, 0)) := F5.out
  obtain ⟨w6, HW6⟩ : ∃ U, Hid (w5.drew = U) := ⟨_, Lib.hid rfl⟩
  rw [HW6.out] at t6 q6 eE6 eF6
  have hs6 : w.heap.size < w6.heap.size := by have := q6.size; omega
  have hnF6 : w1.heap.size < w6.heap.size := (Array.getElem?_eq_some_iff.1 eF6).1
  have T6 := Lib.hid t6
  have Q6 := Lib.hid (Q5.out.trans q6)
  have O6 := Lib.hid (O5.out.wr hgB q6)
  have E6 := Lib.hid eE6
  have F6 := Lib.hid eF6
  have X6 := Lib.hid (X5.out.wr q6)
  have G6 := Lib.hid (G5.out.wr q6)
  clear t6 q6 eE6 eF6
  rw [HW6.out]
  subst hx2
  go_wp2_with fail
  refine (operand_any HE hgB r1 T6.out O6.out G6.out HN2.out (by rw [hp2.out]; have := HL.out; simp only [List.length_append, List.length_cons, List.length_nil]; omega)).mono ?_
  rintro e w7 ⟨rfl, t7, q7⟩
  have hs7 : w.heap.size < w7.heap.size := by have := q7.size; omega
  have T7 := Lib.hid t7
  have Q7 := Lib.hid (Q6.out.trans q7)
  have O7 := Lib.hid (O6.out.wr hgB q7)
  have E7 := Lib.hid (q7.other _ _ _ _ E6.out other_ex)
  have F7 := Lib.hid (q7.other _ _ _ _ F6.out other_oper)
  have X7 := Lib.hid (X6.out.wr q7)
  have G7 := Lib.hid (G6.out.wr q7)
  clear t7 q7
  rw [hp2.out] at T7
  go_wp2_with fail
  go_end0
  exact ⟨rfl, by have := T7.out; simpa using this, Q7.out⟩
end Go.Proofs.YtpfefjfpnmchcaaDoor
namespace Go.Proofs.YtpfefjfpnmchcaaDoor
open Go.RowKit

/-- strconv.Itoa: the digits of a number. -/
def ItoaAt : Prop := ∀ (x : Int) (w : World), InI x → Pk w → Calls Tryd.prog 77 #[.int .i64 x] w fun e w' => e = .returned (.string ⟨(Lib.itoa x).toArray⟩) ∧ Below w.heap.size w w'
theorem numT_itoa {x : Int} (h : InI x) : numT x = Lib.itoa x := by
  unfold InI at h
  exact numT_eq x (by omega)
set_option maxHeartbeats 2000000 in
set_option maxRecDepth 100000 in
theorem expr_literal {B P : Nat} (hgB : PkB B) {w : World} {l : List UInt8} (num var : Int) (nm fld : List UInt8) {A : Option Addr} {c : Nat} {args : List Ex} (h : Tx B P l w) (hO : Pk w) (hI : ItoaAt) (hn : InI num) (hL : l.length + (exT (.mk 0 num var nm fld args)).length ≤ 140737488355328) :
    Calls Tryd.prog 78 #[.pointer (some ⟨P, 0, none⟩), .agg #[.int .i64 0, .int .i64 num, .int .i64 var, .string ⟨nm.toArray⟩, .string ⟨fld.toArray⟩, .slice A args.length c]] w (Wrote B P (l ++ exT (.mk 0 num var nm fld args)) w) := by
  obtain ⟨t, ht⟩ : ∃ t, Hid (Lib.itoa num = t) := ⟨_, Lib.hid rfl⟩
  have hE : exT (.mk 0 num var nm fld args) = t := by rw [exT, if_pos rfl, numT_itoa hn, ht.out]
  rw [hE] at hL ⊢
  have HL := Lib.hid hL
  clear hL hE
  have t0 := h.alloc (.cells #[.int .i64 0, .int .i64 num, .int .i64 var, .string ⟨nm.toArray⟩, .string ⟨fld.toArray⟩, .slice A args.length c] 51)
  have q0 := (Wr.refl B w).alloc h.base (.cells #[.int .i64 0, .int .i64 num, .int .i64 var, .string ⟨nm.toArray⟩, .string ⟨fld.toArray⟩, .slice A args.length c] 51)
  have o0 := hO.wr hgB q0
  have e0 := heap_alloc_new w (.cells #[.int .i64 0, .int .i64 num, .int .i64 var, .string ⟨nm.toArray⟩, .string ⟨fld.toArray⟩, .slice A args.length c] 51)
  obtain ⟨w0, HW0⟩ : ∃ U, Hid (w.alloc (.cells #[.int .i64 0, .int .i64 num, .int .i64 var, .string ⟨nm.toArray⟩, .string ⟨fld.toArray⟩, .slice A args.length c] 51) = U) := ⟨_, Lib.hid rfl⟩
  rw [HW0.out] at t0 q0 o0 e0
  have hz0 : w0.heap.size = w.heap.size + 1 := by rw [← HW0.out]; exact World.size_alloc _ _
  have HZ0 := Lib.hid hz0
  have T0 := Lib.hid t0
  have Q0 := Lib.hid q0
  have O0 := Lib.hid o0
  have E0 := Lib.hid e0
  have hs0 : w.heap.size < w0.heap.size := by omega
  clear hz0 t0 q0 o0 e0
  have HI := Lib.hid (hI num w0 hn O0.out)
  rw [ht.out] at HI
  clear h hO hn
  go_enter Tryd.func78, Tryd.ntmps78
  go_wp2_with fail
  rw [HW0.out]
  refine (HI.out).mono ?_
  rintro e w1 ⟨rfl, hb1⟩
  have t1 := T0.out.still hb1
  have q1 := Wr.still T0.out.base hb1
  clear hb1
  have hs1 : w.heap.size < w1.heap.size := by have := q1.size; omega
  have T1 := Lib.hid t1
  have Q1 := Lib.hid (Q0.out.trans q1)
  have O1 := Lib.hid (O0.out.wr hgB q1)
  have E1 := Lib.hid (q1.other _ _ _ _ E0.out other_ex)
  clear t1 q1
  go_wp2_with fail
  refine (add1 _ t T1.out (by first | rfl | (have := HZ0.out; omega)) HL.out).mono ?_
  rintro e w2 ⟨rfl, t2, q2⟩
  have hs2 : w.heap.size < w2.heap.size := by have := q2.size; omega
  have T2 := Lib.hid t2
  have Q2 := Lib.hid (Q1.out.trans q2)
  have O2 := Lib.hid (O1.out.wr hgB q2)
  have E2 := Lib.hid (q2.other _ _ _ _ E1.out other_ex)
  clear t2 q2
  go_wp2_with fail
  go_end0
  exact ⟨rfl, by have := T2.out; simpa using this, Q2.out⟩
set_option maxHeartbeats 2000000 in
set_option maxRecDepth 100000 in
theorem expr_variable {B P : Nat} (hgB : PkB B) {w : World} {l : List UInt8} (num var : Int) (nm fld : List UInt8) {A : Option Addr} {c : Nat} {args : List Ex} (h : Tx B P l w) (hO : Pk w)  (hL : l.length + (exT (.mk 1 num var nm fld args)).length ≤ 140737488355328) :
    Calls Tryd.prog 78 #[.pointer (some ⟨P, 0, none⟩), .agg #[.int .i64 1, .int .i64 num, .int .i64 var, .string ⟨nm.toArray⟩, .string ⟨fld.toArray⟩, .slice A args.length c]] w (Wrote B P (l ++ exT (.mk 1 num var nm fld args)) w) := by
  have hE : exT (.mk 1 num var nm fld args) = nm := by rw [exT]; simp
  rw [hE] at hL ⊢
  have HL := Lib.hid hL
  clear hL hE
  have t0 := h.alloc (.cells #[.int .i64 1, .int .i64 num, .int .i64 var, .string ⟨nm.toArray⟩, .string ⟨fld.toArray⟩, .slice A args.length c] 51)
  have q0 := (Wr.refl B w).alloc h.base (.cells #[.int .i64 1, .int .i64 num, .int .i64 var, .string ⟨nm.toArray⟩, .string ⟨fld.toArray⟩, .slice A args.length c] 51)
  have o0 := hO.wr hgB q0
  have e0 := heap_alloc_new w (.cells #[.int .i64 1, .int .i64 num, .int .i64 var, .string ⟨nm.toArray⟩, .string ⟨fld.toArray⟩, .slice A args.length c] 51)
  obtain ⟨w0, HW0⟩ : ∃ U, Hid (w.alloc (.cells #[.int .i64 1, .int .i64 num, .int .i64 var, .string ⟨nm.toArray⟩, .string ⟨fld.toArray⟩, .slice A args.length c] 51) = U) := ⟨_, Lib.hid rfl⟩
  rw [HW0.out] at t0 q0 o0 e0
  have hz0 : w0.heap.size = w.heap.size + 1 := by rw [← HW0.out]; exact World.size_alloc _ _
  have HZ0 := Lib.hid hz0
  have T0 := Lib.hid t0
  have Q0 := Lib.hid q0
  have O0 := Lib.hid o0
  have E0 := Lib.hid e0
  have hs0 : w.heap.size < w0.heap.size := by omega
  clear hz0 t0 q0 o0 e0
  clear h hO
  go_enter Tryd.func78, Tryd.ntmps78
  go_wp2_with fail
  rw [HW0.out]
  refine (add1 _ nm T0.out (by first | rfl | (have := HZ0.out; omega)) HL.out).mono ?_
  rintro e w1 ⟨rfl, t1, q1⟩
  have hs1 : w.heap.size < w1.heap.size := by have := q1.size; omega
  have T1 := Lib.hid t1
  have Q1 := Lib.hid (Q0.out.trans q1)
  have O1 := Lib.hid (O0.out.wr hgB q1)
  have E1 := Lib.hid (q1.other _ _ _ _ E0.out other_ex)
  clear t1 q1
  go_wp2_with fail
  go_end0
  exact ⟨rfl, by have := T1.out; simpa using this, Q1.out⟩
set_option maxHeartbeats 2000000 in
set_option maxRecDepth 100000 in
theorem expr_field {B P : Nat} (hgB : PkB B) {w : World} {l : List UInt8} (num var : Int) (nm fld : List UInt8) {A : Option Addr} {c : Nat} {args : List Ex} (h : Tx B P l w) (hO : Pk w)  (hL : l.length + (exT (.mk 2 num var nm fld args)).length ≤ 140737488355328) :
    Calls Tryd.prog 78 #[.pointer (some ⟨P, 0, none⟩), .agg #[.int .i64 2, .int .i64 num, .int .i64 var, .string ⟨nm.toArray⟩, .string ⟨fld.toArray⟩, .slice A args.length c]] w (Wrote B P (l ++ exT (.mk 2 num var nm fld args)) w) := by
  have hE : exT (.mk 2 num var nm fld args) = nm ++ ([46] ++ fld) := by rw [exT]; simp
  rw [hE] at hL ⊢
  have HL := Lib.hid hL
  clear hL hE
  have t0 := h.alloc (.cells #[.int .i64 2, .int .i64 num, .int .i64 var, .string ⟨nm.toArray⟩, .string ⟨fld.toArray⟩, .slice A args.length c] 51)
  have q0 := (Wr.refl B w).alloc h.base (.cells #[.int .i64 2, .int .i64 num, .int .i64 var, .string ⟨nm.toArray⟩, .string ⟨fld.toArray⟩, .slice A args.length c] 51)
  have o0 := hO.wr hgB q0
  have e0 := heap_alloc_new w (.cells #[.int .i64 2, .int .i64 num, .int .i64 var, .string ⟨nm.toArray⟩, .string ⟨fld.toArray⟩, .slice A args.length c] 51)
  obtain ⟨w0, HW0⟩ : ∃ U, Hid (w.alloc (.cells #[.int .i64 2, .int .i64 num, .int .i64 var, .string ⟨nm.toArray⟩, .string ⟨fld.toArray⟩, .slice A args.length c] 51) = U) := ⟨_, Lib.hid rfl⟩
  rw [HW0.out] at t0 q0 o0 e0
  have hz0 : w0.heap.size = w.heap.size + 1 := by rw [← HW0.out]; exact World.size_alloc _ _
  have HZ0 := Lib.hid hz0
  have T0 := Lib.hid t0
  have Q0 := Lib.hid q0
  have O0 := Lib.hid o0
  have E0 := Lib.hid e0
  have hs0 : w.heap.size < w0.heap.size := by omega
  clear hz0 t0 q0 o0 e0
  clear h hO
  go_enter Tryd.func78, Tryd.ntmps78
  go_wp2_with fail
  rw [HW0.out]
  refine (add3 _ nm [46] fld T0.out (by first | rfl | (have := HZ0.out; omega)) HL.out).mono ?_
  rintro e w1 ⟨rfl, t1, q1⟩
  have hs1 : w.heap.size < w1.heap.size := by have := q1.size; omega
  have T1 := Lib.hid t1
  have Q1 := Lib.hid (Q0.out.trans q1)
  have O1 := Lib.hid (O0.out.wr hgB q1)
  have E1 := Lib.hid (q1.other _ _ _ _ E0.out other_ex)
  clear t1 q1
  go_wp2_with fail
  go_end0
  exact ⟨rfl, by have := T1.out; simpa using this, Q1.out⟩
set_option maxHeartbeats 2000000 in
set_option maxRecDepth 100000 in
theorem expr_element {B P d : Nat} (HE : ExprAt B P d) (hgB : PkB B) {w : World} {l : List UInt8} (num var : Int) (nm fld : List UInt8) {A : Option Addr} {c : Nat} {args : List Ex} (h : Tx B P l w) (hO : Pk w) (hx : ExsD w tt d A c args) (hn : NmEs args)  (hL : l.length + (exT (.mk 3 num var nm fld args)).length ≤ 140737488355328) :
    Calls Tryd.prog 78 #[.pointer (some ⟨P, 0, none⟩), .agg #[.int .i64 3, .int .i64 num, .int .i64 var, .string ⟨nm.toArray⟩, .string ⟨fld.toArray⟩, .slice A args.length c]] w (Wrote B P (l ++ exT (.mk 3 num var nm fld args)) w) := by
  have hE : exT (.mk 3 num var nm fld args) = (nm ++ [91]) ++ (commas (exsT args) ++ [93]) := by rw [exT]; simp
  rw [hE] at hL ⊢
  have HL := Lib.hid (show l.length + ((nm.length + 1) + ((commas (exsT args)).length + 1)) ≤ 140737488355328 by simpa only [List.length_append, List.length_cons, List.length_nil] using hL)
  clear hL hE
  have t0 := h.alloc (.cells #[.int .i64 3, .int .i64 num, .int .i64 var, .string ⟨nm.toArray⟩, .string ⟨fld.toArray⟩, .slice A args.length c] 51)
  have q0 := (Wr.refl B w).alloc h.base (.cells #[.int .i64 3, .int .i64 num, .int .i64 var, .string ⟨nm.toArray⟩, .string ⟨fld.toArray⟩, .slice A args.length c] 51)
  have o0 := hO.wr hgB q0
  have e0 := heap_alloc_new w (.cells #[.int .i64 3, .int .i64 num, .int .i64 var, .string ⟨nm.toArray⟩, .string ⟨fld.toArray⟩, .slice A args.length c] 51)
  have X_0 := hx.wr q0
  obtain ⟨w0, HW0⟩ : ∃ U, Hid (w.alloc (.cells #[.int .i64 3, .int .i64 num, .int .i64 var, .string ⟨nm.toArray⟩, .string ⟨fld.toArray⟩, .slice A args.length c] 51) = U) := ⟨_, Lib.hid rfl⟩
  rw [HW0.out] at t0 q0 o0 e0 X_0
  have hz0 : w0.heap.size = w.heap.size + 1 := by rw [← HW0.out]; exact World.size_alloc _ _
  have HZ0 := Lib.hid hz0
  have T0 := Lib.hid t0
  have Q0 := Lib.hid q0
  have O0 := Lib.hid o0
  have E0 := Lib.hid e0
  have X0 := Lib.hid X_0
  have hs0 : w.heap.size < w0.heap.size := by omega
  clear hz0 t0 q0 o0 e0 X_0
  have HN := Lib.hid hn
  clear h hO hx hn
  go_enter Tryd.func78, Tryd.ntmps78
  go_wp2_with fail
  rw [HW0.out]
  refine (add2 _ nm [91] T0.out (by first | rfl | (have := HZ0.out; omega)) (by have := HL.out; (try simp only [List.length_append]); (try simp only [List.length_cons]); (try simp only [List.length_nil]); omega)).mono ?_
  rintro e w1 ⟨rfl, t1, q1⟩
  have hs1 : w.heap.size < w1.heap.size := by have := q1.size; omega
  have T1 := Lib.hid t1
  have Q1 := Lib.hid (Q0.out.trans q1)
  have O1 := Lib.hid (O0.out.wr hgB q1)
  have E1 := Lib.hid (q1.other _ _ _ _ E0.out other_ex)
  have X1 := Lib.hid (X0.out.wr q1)
  clear t1 q1
  obtain ⟨⟨c0, c1, c2, c3, c4, c5⟩, cf⟩ := cells_six E1.out
  clear cf
  go_wp2_with fail
  clear c0 c1 c2 c3 c4 c5
  refine (list_any HE hgB T1.out O1.out X1.out HN.out (by have := HL.out; (try simp only [List.length_append]); (try simp only [List.length_cons]); (try simp only [List.length_nil]); omega)).mono ?_
  rintro e w2 ⟨rfl, t2, q2⟩
  have hs2 : w.heap.size < w2.heap.size := by have := q2.size; omega
  have T2 := Lib.hid t2
  have Q2 := Lib.hid (Q1.out.trans q2)
  have O2 := Lib.hid (O1.out.wr hgB q2)
  have E2 := Lib.hid (q2.other _ _ _ _ E1.out other_ex)
  have X2 := Lib.hid (X1.out.wr q2)
  clear t2 q2
  go_wp2_with fail
  refine (add1 _ [93] T2.out (by first | rfl | (have := HZ0.out; omega)) (by have := HL.out; (try simp only [List.length_append]); (try simp only [List.length_cons]); (try simp only [List.length_nil]); omega)).mono ?_
  rintro e w3 ⟨rfl, t3, q3⟩
  have hs3 : w.heap.size < w3.heap.size := by have := q3.size; omega
  have T3 := Lib.hid t3
  have Q3 := Lib.hid (Q2.out.trans q3)
  have O3 := Lib.hid (O2.out.wr hgB q3)
  have E3 := Lib.hid (q3.other _ _ _ _ E2.out other_ex)
  have X3 := Lib.hid (X2.out.wr q3)
  clear t3 q3
  go_wp2_with fail
  go_end0
  exact ⟨rfl, by have := T3.out; simpa using this, Q3.out⟩
set_option maxHeartbeats 2000000 in
set_option maxRecDepth 100000 in
theorem expr_negate {B P d : Nat} (HE : ExprAt B P d) (hgB : PkB B) {w : World} {l : List UInt8} (num var : Int) (nm fld : List UInt8) {A : Option Addr} {c : Nat} {args : List Ex} (h : Tx B P l w) (hO : Pk w) (hx : ExsD w tt d A c args) (hn : NmEs args)  (hL : l.length + (exT (.mk 4 num var nm fld args)).length ≤ 140737488355328) :
    Calls Tryd.prog 78 #[.pointer (some ⟨P, 0, none⟩), .agg #[.int .i64 4, .int .i64 num, .int .i64 var, .string ⟨nm.toArray⟩, .string ⟨fld.toArray⟩, .slice A args.length c]] w (Wrote B P (l ++ exT (.mk 4 num var nm fld args)) w) := by
  have hE : exT (.mk 4 num var nm fld args) = [45] ++ prefT args := by rw [exT]; simp
  rw [hE] at hL ⊢
  have HL := Lib.hid hL
  clear hL hE
  have t0 := h.alloc (.cells #[.int .i64 4, .int .i64 num, .int .i64 var, .string ⟨nm.toArray⟩, .string ⟨fld.toArray⟩, .slice A args.length c] 51)
  have q0 := (Wr.refl B w).alloc h.base (.cells #[.int .i64 4, .int .i64 num, .int .i64 var, .string ⟨nm.toArray⟩, .string ⟨fld.toArray⟩, .slice A args.length c] 51)
  have o0 := hO.wr hgB q0
  have e0 := heap_alloc_new w (.cells #[.int .i64 4, .int .i64 num, .int .i64 var, .string ⟨nm.toArray⟩, .string ⟨fld.toArray⟩, .slice A args.length c] 51)
  have X_0 := hx.wr q0
  obtain ⟨w0, HW0⟩ : ∃ U, Hid (w.alloc (.cells #[.int .i64 4, .int .i64 num, .int .i64 var, .string ⟨nm.toArray⟩, .string ⟨fld.toArray⟩, .slice A args.length c] 51) = U) := ⟨_, Lib.hid rfl⟩
  rw [HW0.out] at t0 q0 o0 e0 X_0
  have hz0 : w0.heap.size = w.heap.size + 1 := by rw [← HW0.out]; exact World.size_alloc _ _
  have HZ0 := Lib.hid hz0
  have T0 := Lib.hid t0
  have Q0 := Lib.hid q0
  have O0 := Lib.hid o0
  have E0 := Lib.hid e0
  have X0 := Lib.hid X_0
  have hs0 : w.heap.size < w0.heap.size := by omega
  clear hz0 t0 q0 o0 e0 X_0
  have HN := Lib.hid hn
  clear h hO hx hn
  go_enter Tryd.func78, Tryd.ntmps78
  go_wp2_with fail
  rw [HW0.out]
  refine (prefixed_any HE hgB [45] T0.out O0.out X0.out HN.out HL.out).mono ?_
  rintro e w1 ⟨rfl, t1, q1⟩
  have hs1 : w.heap.size < w1.heap.size := by have := q1.size; omega
  have T1 := Lib.hid t1
  have Q1 := Lib.hid (Q0.out.trans q1)
  have O1 := Lib.hid (O0.out.wr hgB q1)
  have E1 := Lib.hid (q1.other _ _ _ _ E0.out other_ex)
  have X1 := Lib.hid (X0.out.wr q1)
  clear t1 q1
  go_wp2_with fail
  go_end0
  exact ⟨rfl, by have := T1.out; simpa using this, Q1.out⟩
set_option maxHeartbeats 2000000 in
set_option maxRecDepth 100000 in
theorem expr_not {B P d : Nat} (HE : ExprAt B P d) (hgB : PkB B) {w : World} {l : List UInt8} (num var : Int) (nm fld : List UInt8) {A : Option Addr} {c : Nat} {args : List Ex} (h : Tx B P l w) (hO : Pk w) (hx : ExsD w tt d A c args) (hn : NmEs args)  (hL : l.length + (exT (.mk 5 num var nm fld args)).length ≤ 140737488355328) :
    Calls Tryd.prog 78 #[.pointer (some ⟨P, 0, none⟩), .agg #[.int .i64 5, .int .i64 num, .int .i64 var, .string ⟨nm.toArray⟩, .string ⟨fld.toArray⟩, .slice A args.length c]] w (Wrote B P (l ++ exT (.mk 5 num var nm fld args)) w) := by
  have hE : exT (.mk 5 num var nm fld args) = [33] ++ prefT args := by rw [exT]; simp
  rw [hE] at hL ⊢
  have HL := Lib.hid hL
  clear hL hE
  have t0 := h.alloc (.cells #[.int .i64 5, .int .i64 num, .int .i64 var, .string ⟨nm.toArray⟩, .string ⟨fld.toArray⟩, .slice A args.length c] 51)
  have q0 := (Wr.refl B w).alloc h.base (.cells #[.int .i64 5, .int .i64 num, .int .i64 var, .string ⟨nm.toArray⟩, .string ⟨fld.toArray⟩, .slice A args.length c] 51)
  have o0 := hO.wr hgB q0
  have e0 := heap_alloc_new w (.cells #[.int .i64 5, .int .i64 num, .int .i64 var, .string ⟨nm.toArray⟩, .string ⟨fld.toArray⟩, .slice A args.length c] 51)
  have X_0 := hx.wr q0
  obtain ⟨w0, HW0⟩ : ∃ U, Hid (w.alloc (.cells #[.int .i64 5, .int .i64 num, .int .i64 var, .string ⟨nm.toArray⟩, .string ⟨fld.toArray⟩, .slice A args.length c] 51) = U) := ⟨_, Lib.hid rfl⟩
  rw [HW0.out] at t0 q0 o0 e0 X_0
  have hz0 : w0.heap.size = w.heap.size + 1 := by rw [← HW0.out]; exact World.size_alloc _ _
  have HZ0 := Lib.hid hz0
  have T0 := Lib.hid t0
  have Q0 := Lib.hid q0
  have O0 := Lib.hid o0
  have E0 := Lib.hid e0
  have X0 := Lib.hid X_0
  have hs0 : w.heap.size < w0.heap.size := by omega
  clear hz0 t0 q0 o0 e0 X_0
  have HN := Lib.hid hn
  clear h hO hx hn
  go_enter Tryd.func78, Tryd.ntmps78
  go_wp2_with fail
  rw [HW0.out]
  refine (prefixed_any HE hgB [33] T0.out O0.out X0.out HN.out HL.out).mono ?_
  rintro e w1 ⟨rfl, t1, q1⟩
  have hs1 : w.heap.size < w1.heap.size := by have := q1.size; omega
  have T1 := Lib.hid t1
  have Q1 := Lib.hid (Q0.out.trans q1)
  have O1 := Lib.hid (O0.out.wr hgB q1)
  have E1 := Lib.hid (q1.other _ _ _ _ E0.out other_ex)
  have X1 := Lib.hid (X0.out.wr q1)
  clear t1 q1
  go_wp2_with fail
  go_end0
  exact ⟨rfl, by have := T1.out; simpa using this, Q1.out⟩
theorem operation_any {B P d : Nat} (HE : ExprAt B P d) (hgB : PkB B) {w : World} {l : List UInt8} (op num var : Int) (nm fld : List UInt8) {A : Option Addr} {c : Nat} {args : List Ex} (h : Tx B P l w) (hO : Pk w) (hx : ExsD w tt d A c args) (hn : NmEs args) (hL : l.length + (operT op args).length ≤ 140737488355328) :
    Calls Tryd.prog 85 #[.pointer (some ⟨P, 0, none⟩), .agg #[.int .i64 op, .int .i64 num, .int .i64 var, .string ⟨nm.toArray⟩, .string ⟨fld.toArray⟩, .slice A args.length c]] w (Wrote B P (l ++ operT op args) w) := by
  cases hs : signOf op with
  | none => exact operation_none hgB op num var nm fld h hO hx hs
  | some p =>
    obtain ⟨sg, rk⟩ := p
    by_cases h2 : args.length = 2
    · obtain ⟨a1, a2, rfl⟩ : ∃ a1 a2, args = [a1, a2] := by
        match args, h2 with
        | [a1, a2], _ => exact ⟨a1, a2, rfl⟩
      exact operation_two HE hgB op num var nm fld a1 a2 h hO hx hn hs hL
    · exact operation_odd hgB op num var nm fld h hO hx hs h2
set_option maxHeartbeats 2000000 in
set_option maxRecDepth 100000 in
theorem expr_operation {B P d : Nat} (HE : ExprAt B P d) (hgB : PkB B) {w : World} {l : List UInt8} (op num var : Int) (nm fld : List UInt8) {A : Option Addr} {c : Nat} {args : List Ex} (h : Tx B P l w) (hO : Pk w) (hx : ExsD w tt d A c args) (hn : NmEs args) (hk : ∀ k : Int, k ∈ [0, 1, 2, 3, 4, 5] → ¬ op = k) (hL : l.length + (exT (.mk op num var nm fld args)).length ≤ 140737488355328) :
    Calls Tryd.prog 78 #[.pointer (some ⟨P, 0, none⟩), .agg #[.int .i64 op, .int .i64 num, .int .i64 var, .string ⟨nm.toArray⟩, .string ⟨fld.toArray⟩, .slice A args.length c]] w (Wrote B P (l ++ exT (.mk op num var nm fld args)) w) := by
  have hE : exT (.mk op num var nm fld args) = operT op args := by
    rw [exT, if_neg (hk 0 (by decide)), if_neg (hk 1 (by decide)), if_neg (hk 2 (by decide)), if_neg (hk 3 (by decide)), if_neg (hk 4 (by decide)), if_neg (hk 5 (by decide)), operT]
    cases signOf op with
    | none => rfl
    | some p => rfl
  rw [hE] at hL ⊢
  clear hE
  have t0 := h.alloc (.cells #[.int .i64 op, .int .i64 num, .int .i64 var, .string ⟨nm.toArray⟩, .string ⟨fld.toArray⟩, .slice A args.length c] 51)
  have q0 := (Wr.refl B w).alloc h.base (.cells #[.int .i64 op, .int .i64 num, .int .i64 var, .string ⟨nm.toArray⟩, .string ⟨fld.toArray⟩, .slice A args.length c] 51)
  have o0 := hO.wr hgB q0
  have e0 := heap_alloc_new w (.cells #[.int .i64 op, .int .i64 num, .int .i64 var, .string ⟨nm.toArray⟩, .string ⟨fld.toArray⟩, .slice A args.length c] 51)
  have X_0 := hx.wr q0
  obtain ⟨w0, HW0⟩ : ∃ U, Hid (w.alloc (.cells #[.int .i64 op, .int .i64 num, .int .i64 var, .string ⟨nm.toArray⟩, .string ⟨fld.toArray⟩, .slice A args.length c] 51) = U) := ⟨_, Lib.hid rfl⟩
  rw [HW0.out] at t0 q0 o0 e0 X_0
  have hz0 : w0.heap.size = w.heap.size + 1 := by rw [← HW0.out]; exact World.size_alloc _ _
  have HZ0 := Lib.hid hz0
  have T0 := Lib.hid t0
  have Q0 := Lib.hid q0
  have O0 := Lib.hid o0
  have E0 := Lib.hid e0
  have X0 := Lib.hid X_0
  have hs0 : w.heap.size < w0.heap.size := by omega
  clear hz0 t0 q0 o0 e0 X_0
  have HP := Lib.hid (operation_any HE hgB op num var nm fld T0.out O0.out X0.out hn hL)
  have z0 : (op == 0) = false := by simpa using hk 0 (by decide)
  have z1 : (op == 1) = false := by simpa using hk 1 (by decide)
  have z2 : (op == 2) = false := by simpa using hk 2 (by decide)
  have z3 : (op == 3) = false := by simpa using hk 3 (by decide)
  have z4 : (op == 4) = false := by simpa using hk 4 (by decide)
  have z5 : (op == 5) = false := by simpa using hk 5 (by decide)
  clear h hO hx hn hL hk
  go_enter Tryd.func78, Tryd.ntmps78
  go_wp2_with (first | ((with_reducible show wpList _ _ _ (Oper.mk _ (Op.load 51 _) _ _ _ none :: _) _ _); refine wpList_load_all rfl 51 _ rfl w.heap.size _ _ rfl E0.out Tryd.underlying51 rfl (by kernel_rfl) ?_))
  rw [HW0.out]
  refine (HP.out).mono ?_
  rintro e w1 ⟨rfl, t1, q1⟩
  have hs1 : w.heap.size < w1.heap.size := by have := q1.size; omega
  have T1 := Lib.hid t1
  have Q1 := Lib.hid (Q0.out.trans q1)
  have O1 := Lib.hid (O0.out.wr hgB q1)
  have E1 := Lib.hid (q1.other _ _ _ _ E0.out other_ex)
  have X1 := Lib.hid (X0.out.wr q1)
  clear t1 q1
  go_wp2_with fail
  go_end0
  exact ⟨rfl, by have := T1.out; simpa using this, Q1.out⟩
end Go.Proofs.YtpfefjfpnmchcaaDoor
namespace Go.Proofs.YtpfefjfpnmchcaaDoor
open Go.RowKit

theorem expr_all {B P : Nat} (hI : ItoaAt) (hgB : PkB B) : ∀ d, ExprAt B P d
  | 0 => fun _ _ _ _ _ _ hx => hx.elim
  | d + 1 => fun w l v x h hO hx hn hL => by
    have HE := expr_all (P := P) hI hgB d
    obtain ⟨op, num, var, nm, fld, args⟩ := x
    obtain ⟨A, c, rfl, hr⟩ := hx
    unfold NmE at hn
    obtain ⟨hn1, hn2⟩ := hn
    by_cases h0 : op = 0
    · subst h0; exact expr_literal hgB num var nm fld h hO hI hn1 hL
    by_cases h1 : op = 1
    · subst h1; exact expr_variable hgB num var nm fld h hO hL
    by_cases h2 : op = 2
    · subst h2; exact expr_field hgB num var nm fld h hO hL
    by_cases h3 : op = 3
    · subst h3; exact expr_element HE hgB num var nm fld h hO hr hn2 hL
    by_cases h4 : op = 4
    · subst h4; exact expr_negate HE hgB num var nm fld h hO hr hn2 hL
    by_cases h5 : op = 5
    · subst h5; exact expr_not HE hgB num var nm fld h hO hr hn2 hL
    exact expr_operation HE hgB op num var nm fld h hO hr hn2 (fun k hk => by
      simp only [List.mem_cons, List.not_mem_nil, or_false] at hk
      rcases hk with rfl | rfl | rfl | rfl | rfl | rfl <;> assumption) hL
/-- The cells of a block of a statement that the printer reads. -/
theorem cells_sm {w : World} {N : Nat} {a0 a1 a2 a3 a4 a5 a6 a7 a8 a9 a10 a11 a12 : Value} {T : TypeId} (h : w.heap[N]? = some (.cells #[a0, a1, a2, a3, a4, a5, a6, a7, a8, a9, a10, a11, a12] T (0, 0))) :
    w.cell? ⟨N, 0, none⟩ = some a0 ∧ w.cell? ⟨N, 3, none⟩ = some a3 ∧ w.cell? ⟨N, 4, none⟩ = some a4 ∧ w.cell? ⟨N, 5, none⟩ = some a5 ∧ w.cell? ⟨N, 7, none⟩ = some a7 ∧ w.cell? ⟨N, 8, none⟩ = some a8 ∧ w.cell? ⟨N, 10, none⟩ = some a10 ∧ w.cell? ⟨N, 11, none⟩ = some a11 ∧ w.cell? ⟨N, 12, none⟩ = some a12 :=
  ⟨by rw [cell_of_row w N 0 _ _ _ h]; rfl, by rw [cell_of_row w N 3 _ _ _ h]; rfl, by rw [cell_of_row w N 4 _ _ _ h]; rfl, by rw [cell_of_row w N 5 _ _ _ h]; rfl, by rw [cell_of_row w N 7 _ _ _ h]; rfl, by rw [cell_of_row w N 8 _ _ _ h]; rfl, by rw [cell_of_row w N 10 _ _ _ h]; rfl, by rw [cell_of_row w N 11 _ _ _ h]; rfl, by rw [cell_of_row w N 12 _ _ _ h]; rfl⟩
set_option maxHeartbeats 2000000 in
set_option maxRecDepth 100000 in
theorem value_call {B P d : Nat} (HE : ExprAt B P d) (hgB : PkB B) {w : World} {l : List UInt8} (kind line id len var callee : Int) (nm ty fn : List UInt8) {A1 A2 A3 A4 : Option Addr} {n1 c1 c2 n3 c3 n4 c4 : Nat} {args : List Ex} (h : Tx B P l w) (hO : Pk w) (hx : ExsD w tt d A2 c2 args) (hn : NmEs args) (hf : fn ≠ []) (hL : l.length + (valT fn args).length ≤ 140737488355328) :
    Calls Tryd.prog 65 #[.pointer (some ⟨P, 0, none⟩), .agg #[.int .i64 kind, .int .i64 line, .int .i64 id, .string ⟨nm.toArray⟩, .string ⟨ty.toArray⟩, .int .i64 len, .int .i64 var, .slice A1 n1 c1, .string ⟨fn.toArray⟩, .int .i64 callee, .slice A2 args.length c2, .slice A3 n3 c3, .slice A4 n4 c4]] w (Wrote B P (l ++ valT fn args) w) := by
  have hE : valT fn args = (fn ++ [40]) ++ (commas (exsT args) ++ [41, 59]) := by rw [valT, if_neg hf]; simp
  rw [hE] at hL ⊢
  have HL := Lib.hid (show l.length + ((fn.length + 1) + ((commas (exsT args)).length + 2)) ≤ 140737488355328 by simpa only [List.length_append, List.length_cons, List.length_nil] using hL)
  have hq : fn.isEmpty = false := by cases fn with | nil => exact absurd rfl hf | cons a r => rfl
  clear hL hE
  have t0 := h.alloc (.cells #[.int .i64 kind, .int .i64 line, .int .i64 id, .string ⟨nm.toArray⟩, .string ⟨ty.toArray⟩, .int .i64 len, .int .i64 var, .slice A1 n1 c1, .string ⟨fn.toArray⟩, .int .i64 callee, .slice A2 args.length c2, .slice A3 n3 c3, .slice A4 n4 c4] 49)
  have q0 := (Wr.refl B w).alloc h.base (.cells #[.int .i64 kind, .int .i64 line, .int .i64 id, .string ⟨nm.toArray⟩, .string ⟨ty.toArray⟩, .int .i64 len, .int .i64 var, .slice A1 n1 c1, .string ⟨fn.toArray⟩, .int .i64 callee, .slice A2 args.length c2, .slice A3 n3 c3, .slice A4 n4 c4] 49)
  have o0 := hO.wr hgB q0
  have e0 := heap_alloc_new w (.cells #[.int .i64 kind, .int .i64 line, .int .i64 id, .string ⟨nm.toArray⟩, .string ⟨ty.toArray⟩, .int .i64 len, .int .i64 var, .slice A1 n1 c1, .string ⟨fn.toArray⟩, .int .i64 callee, .slice A2 args.length c2, .slice A3 n3 c3, .slice A4 n4 c4] 49)
  have X_0 := hx.wr q0
  obtain ⟨w0, HW0⟩ : ∃ U, Hid (w.alloc (.cells #[.int .i64 kind, .int .i64 line, .int .i64 id, .string ⟨nm.toArray⟩, .string ⟨ty.toArray⟩, .int .i64 len, .int .i64 var, .slice A1 n1 c1, .string ⟨fn.toArray⟩, .int .i64 callee, .slice A2 args.length c2, .slice A3 n3 c3, .slice A4 n4 c4] 49) = U) := ⟨_, Lib.hid rfl⟩
  rw [HW0.out] at t0 q0 o0 e0 X_0
  have hz0 : w0.heap.size = w.heap.size + 1 := by rw [← HW0.out]; exact World.size_alloc _ _
  have HZ0 := Lib.hid hz0
  have T0 := Lib.hid t0
  have Q0 := Lib.hid q0
  have O0 := Lib.hid o0
  have E0 := Lib.hid e0
  have X0 := Lib.hid X_0
  have hs0 : w.heap.size < w0.heap.size := by omega
  clear hz0 t0 q0 o0 e0 X_0
  have HN := Lib.hid hn
  clear h hO hx hn
  go_enter Tryd.func65, Tryd.ntmps65
  go_wp2_with fail
  rw [HW0.out]
  refine (add2 _ fn [40] T0.out (by first | rfl | (have := HZ0.out; omega)) (by have := HL.out; (try simp only [List.length_append]); (try simp only [List.length_cons]); (try simp only [List.length_nil]); omega)).mono ?_
  rintro e w1 ⟨rfl, t1, q1⟩
  have hs1 : w.heap.size < w1.heap.size := by have := q1.size; omega
  have T1 := Lib.hid t1
  have Q1 := Lib.hid (Q0.out.trans q1)
  have O1 := Lib.hid (O0.out.wr hgB q1)
  have E1 := Lib.hid (q1.other _ _ _ _ E0.out other_sm)
  have X1 := Lib.hid (X0.out.wr q1)
  clear t1 q1
  obtain ⟨z0, z3, z4, z5, z7, z8, z10, z11, z12⟩ := cells_sm E1.out
  go_wp2_with fail
  clear z0 z3 z4 z5 z7 z8 z10 z11 z12
  refine (list_any HE hgB T1.out O1.out X1.out HN.out (by have := HL.out; (try simp only [List.length_append]); (try simp only [List.length_cons]); (try simp only [List.length_nil]); omega)).mono ?_
  rintro e w2 ⟨rfl, t2, q2⟩
  have hs2 : w.heap.size < w2.heap.size := by have := q2.size; omega
  have T2 := Lib.hid t2
  have Q2 := Lib.hid (Q1.out.trans q2)
  have O2 := Lib.hid (O1.out.wr hgB q2)
  have E2 := Lib.hid (q2.other _ _ _ _ E1.out other_sm)
  have X2 := Lib.hid (X1.out.wr q2)
  clear t2 q2
  go_wp2_with fail
  refine (add1 _ [41, 59] T2.out (by first | rfl | (have := HZ0.out; omega)) (by have := HL.out; (try simp only [List.length_append]); (try simp only [List.length_cons]); (try simp only [List.length_nil]); omega)).mono ?_
  rintro e w3 ⟨rfl, t3, q3⟩
  have hs3 : w.heap.size < w3.heap.size := by have := q3.size; omega
  have T3 := Lib.hid t3
  have Q3 := Lib.hid (Q2.out.trans q3)
  have O3 := Lib.hid (O2.out.wr hgB q3)
  have E3 := Lib.hid (q3.other _ _ _ _ E2.out other_sm)
  have X3 := Lib.hid (X2.out.wr q3)
  clear t3 q3
  go_wp2_with fail
  go_end0
  exact ⟨rfl, by have := T3.out; simpa using this, Q3.out⟩
set_option maxHeartbeats 2000000 in
set_option maxRecDepth 100000 in
theorem value_expr {B P d : Nat} (HE : ExprAt B P d) (hgB : PkB B) {w : World} {l : List UInt8} (kind line id len var callee : Int) (nm ty : List UInt8) {A1 A2 A3 A4 : Option Addr} {n1 c1 c2 n3 c3 n4 c4 : Nat} {args : List Ex} (h : Tx B P l w) (hO : Pk w) (hx : ExsD w tt d A2 c2 args) (hn : NmEs args) (hL : l.length + (valT [] args).length ≤ 140737488355328) :
    Calls Tryd.prog 65 #[.pointer (some ⟨P, 0, none⟩), .agg #[.int .i64 kind, .int .i64 line, .int .i64 id, .string ⟨nm.toArray⟩, .string ⟨ty.toArray⟩, .int .i64 len, .int .i64 var, .slice A1 n1 c1, .string ⟨[].toArray⟩, .int .i64 callee, .slice A2 args.length c2, .slice A3 n3 c3, .slice A4 n4 c4]] w (Wrote B P (l ++ valT [] args) w) := by
  have hE : valT [] args = commas (exsT args) ++ [59] := by rw [valT, if_pos rfl]
  rw [hE] at hL ⊢
  have HL := Lib.hid (show l.length + ((commas (exsT args)).length + 1) ≤ 140737488355328 by simpa only [List.length_append, List.length_cons, List.length_nil] using hL)
  clear hL hE
  have t0 := h.alloc (.cells #[.int .i64 kind, .int .i64 line, .int .i64 id, .string ⟨nm.toArray⟩, .string ⟨ty.toArray⟩, .int .i64 len, .int .i64 var, .slice A1 n1 c1, .string ⟨[].toArray⟩, .int .i64 callee, .slice A2 args.length c2, .slice A3 n3 c3, .slice A4 n4 c4] 49)
  have q0 := (Wr.refl B w).alloc h.base (.cells #[.int .i64 kind, .int .i64 line, .int .i64 id, .string ⟨nm.toArray⟩, .string ⟨ty.toArray⟩, .int .i64 len, .int .i64 var, .slice A1 n1 c1, .string ⟨[].toArray⟩, .int .i64 callee, .slice A2 args.length c2, .slice A3 n3 c3, .slice A4 n4 c4] 49)
  have o0 := hO.wr hgB q0
  have e0 := heap_alloc_new w (.cells #[.int .i64 kind, .int .i64 line, .int .i64 id, .string ⟨nm.toArray⟩, .string ⟨ty.toArray⟩, .int .i64 len, .int .i64 var, .slice A1 n1 c1, .string ⟨[].toArray⟩, .int .i64 callee, .slice A2 args.length c2, .slice A3 n3 c3, .slice A4 n4 c4] 49)
  have X_0 := hx.wr q0
  obtain ⟨w0, HW0⟩ : ∃ U, Hid (w.alloc (.cells #[.int .i64 kind, .int .i64 line, .int .i64 id, .string ⟨nm.toArray⟩, .string ⟨ty.toArray⟩, .int .i64 len, .int .i64 var, .slice A1 n1 c1, .string ⟨[].toArray⟩, .int .i64 callee, .slice A2 args.length c2, .slice A3 n3 c3, .slice A4 n4 c4] 49) = U) := ⟨_, Lib.hid rfl⟩
  rw [HW0.out] at t0 q0 o0 e0 X_0
  have hz0 : w0.heap.size = w.heap.size + 1 := by rw [← HW0.out]; exact World.size_alloc _ _
  have HZ0 := Lib.hid hz0
  have T0 := Lib.hid t0
  have Q0 := Lib.hid q0
  have O0 := Lib.hid o0
  have E0 := Lib.hid e0
  have X0 := Lib.hid X_0
  have hs0 : w.heap.size < w0.heap.size := by omega
  clear hz0 t0 q0 o0 e0 X_0
  have HN := Lib.hid hn
  clear h hO hx hn
  go_enter Tryd.func65, Tryd.ntmps65
  go_wp2_with fail
  rw [HW0.out]
  refine (list_any HE hgB T0.out O0.out X0.out HN.out (by have := HL.out; (try simp only [List.length_append]); (try simp only [List.length_cons]); (try simp only [List.length_nil]); omega)).mono ?_
  rintro e w1 ⟨rfl, t1, q1⟩
  have hs1 : w.heap.size < w1.heap.size := by have := q1.size; omega
  have T1 := Lib.hid t1
  have Q1 := Lib.hid (Q0.out.trans q1)
  have O1 := Lib.hid (O0.out.wr hgB q1)
  have E1 := Lib.hid (q1.other _ _ _ _ E0.out other_sm)
  have X1 := Lib.hid (X0.out.wr q1)
  clear t1 q1
  go_wp2_with fail
  refine (add1 _ [59] T1.out (by first | rfl | (have := HZ0.out; omega)) (by have := HL.out; (try simp only [List.length_append]); (try simp only [List.length_cons]); (try simp only [List.length_nil]); omega)).mono ?_
  rintro e w2 ⟨rfl, t2, q2⟩
  have hs2 : w.heap.size < w2.heap.size := by have := q2.size; omega
  have T2 := Lib.hid t2
  have Q2 := Lib.hid (Q1.out.trans q2)
  have O2 := Lib.hid (O1.out.wr hgB q2)
  have E2 := Lib.hid (q2.other _ _ _ _ E1.out other_sm)
  have X2 := Lib.hid (X1.out.wr q2)
  clear t2 q2
  go_wp2_with fail
  go_end0
  exact ⟨rfl, by have := T2.out; simpa using this, Q2.out⟩
theorem wvalue_any {B P d : Nat} (HE : ExprAt B P d) (hgB : PkB B) {w : World} {l : List UInt8} (kind line id len var callee : Int) (nm ty fn : List UInt8) {A1 A2 A3 A4 : Option Addr} {n1 c1 c2 n3 c3 n4 c4 : Nat} {args : List Ex} (h : Tx B P l w) (hO : Pk w) (hx : ExsD w tt d A2 c2 args) (hn : NmEs args) (hL : l.length + (valT fn args).length ≤ 140737488355328) :
    Calls Tryd.prog 65 #[.pointer (some ⟨P, 0, none⟩), .agg #[.int .i64 kind, .int .i64 line, .int .i64 id, .string ⟨nm.toArray⟩, .string ⟨ty.toArray⟩, .int .i64 len, .int .i64 var, .slice A1 n1 c1, .string ⟨fn.toArray⟩, .int .i64 callee, .slice A2 args.length c2, .slice A3 n3 c3, .slice A4 n4 c4]] w (Wrote B P (l ++ valT fn args) w) := by
  cases fn with
  | nil => exact value_expr HE hgB kind line id len var callee nm ty h hO hx hn hL
  | cons a r => exact value_call HE hgB kind line id len var callee nm ty (a :: r) h hO hx hn (by simp) hL
set_option maxHeartbeats 2000000 in
set_option maxRecDepth 100000 in
theorem decl_type {B P : Nat} (hgB : PkB B) {w : World} {l : List UInt8} (kind line id len var callee : Int) (nm ty fn : List UInt8) {A1 A2 A3 A4 : Option Addr} {n1 c1 n2 c2 n3 c3 n4 c4 : Nat} (h : Tx B P l w) (hO : Pk w) (hf : ty ≠ []) (hL : l.length + (declT nm ty len).length ≤ 140737488355328) :
    Calls Tryd.prog 63 #[.pointer (some ⟨P, 0, none⟩), .agg #[.int .i64 kind, .int .i64 line, .int .i64 id, .string ⟨nm.toArray⟩, .string ⟨ty.toArray⟩, .int .i64 len, .int .i64 var, .slice A1 n1 c1, .string ⟨fn.toArray⟩, .int .i64 callee, .slice A2 n2 c2, .slice A3 n3 c3, .slice A4 n4 c4]] w (Wrote B P (l ++ declT nm ty len) w) := by
  have hE : declT nm ty len = ([118, 97, 114, 32] ++ (nm ++ [58, 32])) ++ (ty ++ [59]) := by rw [declT, if_pos hf]; simp
  rw [hE] at hL ⊢
  have HL := Lib.hid (show l.length + ((4 + (nm.length + 2)) + (ty.length + 1)) ≤ 140737488355328 by simpa only [List.length_append, List.length_cons, List.length_nil] using hL)
  clear hL hE
  have hq : ty.isEmpty = false := by cases ty with | nil => exact absurd rfl hf | cons a r => rfl
  have t0 := h.alloc (.cells #[.int .i64 kind, .int .i64 line, .int .i64 id, .string ⟨nm.toArray⟩, .string ⟨ty.toArray⟩, .int .i64 len, .int .i64 var, .slice A1 n1 c1, .string ⟨fn.toArray⟩, .int .i64 callee, .slice A2 n2 c2, .slice A3 n3 c3, .slice A4 n4 c4] 49)
  have q0 := (Wr.refl B w).alloc h.base (.cells #[.int .i64 kind, .int .i64 line, .int .i64 id, .string ⟨nm.toArray⟩, .string ⟨ty.toArray⟩, .int .i64 len, .int .i64 var, .slice A1 n1 c1, .string ⟨fn.toArray⟩, .int .i64 callee, .slice A2 n2 c2, .slice A3 n3 c3, .slice A4 n4 c4] 49)
  have o0 := hO.wr hgB q0
  have e0 := heap_alloc_new w (.cells #[.int .i64 kind, .int .i64 line, .int .i64 id, .string ⟨nm.toArray⟩, .string ⟨ty.toArray⟩, .int .i64 len, .int .i64 var, .slice A1 n1 c1, .string ⟨fn.toArray⟩, .int .i64 callee, .slice A2 n2 c2, .slice A3 n3 c3, .slice A4 n4 c4] 49)
  obtain ⟨w0, HW0⟩ : ∃ U, Hid (w.alloc (.cells #[.int .i64 kind, .int .i64 line, .int .i64 id, .string ⟨nm.toArray⟩, .string ⟨ty.toArray⟩, .int .i64 len, .int .i64 var, .slice A1 n1 c1, .string ⟨fn.toArray⟩, .int .i64 callee, .slice A2 n2 c2, .slice A3 n3 c3, .slice A4 n4 c4] 49) = U) := ⟨_, Lib.hid rfl⟩
  rw [HW0.out] at t0 q0 o0 e0
  have hz0 : w0.heap.size = w.heap.size + 1 := by rw [← HW0.out]; exact World.size_alloc _ _
  have HZ0 := Lib.hid hz0
  have T0 := Lib.hid t0
  have Q0 := Lib.hid q0
  have O0 := Lib.hid o0
  have E0 := Lib.hid e0
  have hs0 : w.heap.size < w0.heap.size := by omega
  clear hz0 t0 q0 o0 e0
  clear h hO
  go_enter Tryd.func63, Tryd.ntmps63
  go_wp2_with fail
  rw [HW0.out]
  refine (add3 _ [118, 97, 114, 32] nm [58, 32] T0.out (by first | rfl | (have := HZ0.out; omega)) (by have := HL.out; (try simp only [List.length_append]); (try simp only [List.length_cons]); (try simp only [List.length_nil]); omega)).mono ?_
  rintro e w1 ⟨rfl, t1, q1⟩
  have hs1 : w.heap.size < w1.heap.size := by have := q1.size; omega
  have T1 := Lib.hid t1
  have Q1 := Lib.hid (Q0.out.trans q1)
  have O1 := Lib.hid (O0.out.wr hgB q1)
  have E1 := Lib.hid (q1.other _ _ _ _ E0.out other_sm)
  clear t1 q1
  obtain ⟨z0, z3, z4, z5, z7, z8, z10, z11, z12⟩ := cells_sm E1.out
  go_wp2_with fail
  clear z0 z3 z4 z5 z7 z8 z10 z11 z12
  refine (add1 _ ty T1.out (by first | rfl | (have := HZ0.out; omega)) (by have := HL.out; (try simp only [List.length_append]); (try simp only [List.length_cons]); (try simp only [List.length_nil]); omega)).mono ?_
  rintro e w2 ⟨rfl, t2, q2⟩
  have hs2 : w.heap.size < w2.heap.size := by have := q2.size; omega
  have T2 := Lib.hid t2
  have Q2 := Lib.hid (Q1.out.trans q2)
  have O2 := Lib.hid (O1.out.wr hgB q2)
  have E2 := Lib.hid (q2.other _ _ _ _ E1.out other_sm)
  clear t2 q2
  go_wp2_with fail
  refine (add1 _ [59] T2.out (by first | rfl | (have := HZ0.out; omega)) (by have := HL.out; (try simp only [List.length_append]); (try simp only [List.length_cons]); (try simp only [List.length_nil]); omega)).mono ?_
  rintro e w3 ⟨rfl, t3, q3⟩
  have hs3 : w.heap.size < w3.heap.size := by have := q3.size; omega
  have T3 := Lib.hid t3
  have Q3 := Lib.hid (Q2.out.trans q3)
  have O3 := Lib.hid (O2.out.wr hgB q3)
  have E3 := Lib.hid (q3.other _ _ _ _ E2.out other_sm)
  clear t3 q3
  go_wp2_with fail
  go_end0
  exact ⟨rfl, by have := T3.out; simpa using this, Q3.out⟩
set_option maxHeartbeats 2000000 in
set_option maxRecDepth 100000 in
theorem decl_int {B P : Nat} (hgB : PkB B) {w : World} {l : List UInt8} (kind line id var callee : Int) (nm fn : List UInt8) {A1 A2 A3 A4 : Option Addr} {n1 c1 n2 c2 n3 c3 n4 c4 : Nat} (h : Tx B P l w) (hO : Pk w)  (hL : l.length + (declT nm [] 0).length ≤ 140737488355328) :
    Calls Tryd.prog 63 #[.pointer (some ⟨P, 0, none⟩), .agg #[.int .i64 kind, .int .i64 line, .int .i64 id, .string ⟨nm.toArray⟩, .string ⟨[].toArray⟩, .int .i64 0, .int .i64 var, .slice A1 n1 c1, .string ⟨fn.toArray⟩, .int .i64 callee, .slice A2 n2 c2, .slice A3 n3 c3, .slice A4 n4 c4]] w (Wrote B P (l ++ declT nm [] 0) w) := by
  have hE : declT nm [] 0 = ([118, 97, 114, 32] ++ (nm ++ [58, 32])) ++ ([105, 110, 116] ++ [59]) := by rw [declT, if_neg (fun h => h rfl), if_neg (fun h => h rfl)]; simp
  rw [hE] at hL ⊢
  have HL := Lib.hid (show l.length + ((4 + (nm.length + 2)) + (3 + 1)) ≤ 140737488355328 by simpa only [List.length_append, List.length_cons, List.length_nil] using hL)
  clear hL hE
  have t0 := h.alloc (.cells #[.int .i64 kind, .int .i64 line, .int .i64 id, .string ⟨nm.toArray⟩, .string ⟨[].toArray⟩, .int .i64 0, .int .i64 var, .slice A1 n1 c1, .string ⟨fn.toArray⟩, .int .i64 callee, .slice A2 n2 c2, .slice A3 n3 c3, .slice A4 n4 c4] 49)
  have q0 := (Wr.refl B w).alloc h.base (.cells #[.int .i64 kind, .int .i64 line, .int .i64 id, .string ⟨nm.toArray⟩, .string ⟨[].toArray⟩, .int .i64 0, .int .i64 var, .slice A1 n1 c1, .string ⟨fn.toArray⟩, .int .i64 callee, .slice A2 n2 c2, .slice A3 n3 c3, .slice A4 n4 c4] 49)
  have o0 := hO.wr hgB q0
  have e0 := heap_alloc_new w (.cells #[.int .i64 kind, .int .i64 line, .int .i64 id, .string ⟨nm.toArray⟩, .string ⟨[].toArray⟩, .int .i64 0, .int .i64 var, .slice A1 n1 c1, .string ⟨fn.toArray⟩, .int .i64 callee, .slice A2 n2 c2, .slice A3 n3 c3, .slice A4 n4 c4] 49)
  obtain ⟨w0, HW0⟩ : ∃ U, Hid (w.alloc (.cells #[.int .i64 kind, .int .i64 line, .int .i64 id, .string ⟨nm.toArray⟩, .string ⟨[].toArray⟩, .int .i64 0, .int .i64 var, .slice A1 n1 c1, .string ⟨fn.toArray⟩, .int .i64 callee, .slice A2 n2 c2, .slice A3 n3 c3, .slice A4 n4 c4] 49) = U) := ⟨_, Lib.hid rfl⟩
  rw [HW0.out] at t0 q0 o0 e0
  have hz0 : w0.heap.size = w.heap.size + 1 := by rw [← HW0.out]; exact World.size_alloc _ _
  have HZ0 := Lib.hid hz0
  have T0 := Lib.hid t0
  have Q0 := Lib.hid q0
  have O0 := Lib.hid o0
  have E0 := Lib.hid e0
  have hs0 : w.heap.size < w0.heap.size := by omega
  clear hz0 t0 q0 o0 e0
  clear h hO
  go_enter Tryd.func63, Tryd.ntmps63
  go_wp2_with fail
  rw [HW0.out]
  refine (add3 _ [118, 97, 114, 32] nm [58, 32] T0.out (by first | rfl | (have := HZ0.out; omega)) (by have := HL.out; (try simp only [List.length_append]); (try simp only [List.length_cons]); (try simp only [List.length_nil]); omega)).mono ?_
  rintro e w1 ⟨rfl, t1, q1⟩
  have hs1 : w.heap.size < w1.heap.size := by have := q1.size; omega
  have T1 := Lib.hid t1
  have Q1 := Lib.hid (Q0.out.trans q1)
  have O1 := Lib.hid (O0.out.wr hgB q1)
  have E1 := Lib.hid (q1.other _ _ _ _ E0.out other_sm)
  clear t1 q1
  obtain ⟨z0, z3, z4, z5, z7, z8, z10, z11, z12⟩ := cells_sm E1.out
  go_wp2_with fail
  clear z0 z3 z4 z5 z7 z8 z10 z11 z12
  refine (add1 _ [105, 110, 116] T1.out (by first | rfl | (have := HZ0.out; omega)) (by have := HL.out; (try simp only [List.length_append]); (try simp only [List.length_cons]); (try simp only [List.length_nil]); omega)).mono ?_
  rintro e w2 ⟨rfl, t2, q2⟩
  have hs2 : w.heap.size < w2.heap.size := by have := q2.size; omega
  have T2 := Lib.hid t2
  have Q2 := Lib.hid (Q1.out.trans q2)
  have O2 := Lib.hid (O1.out.wr hgB q2)
  have E2 := Lib.hid (q2.other _ _ _ _ E1.out other_sm)
  clear t2 q2
  go_wp2_with fail
  refine (add1 _ [59] T2.out (by first | rfl | (have := HZ0.out; omega)) (by have := HL.out; (try simp only [List.length_append]); (try simp only [List.length_cons]); (try simp only [List.length_nil]); omega)).mono ?_
  rintro e w3 ⟨rfl, t3, q3⟩
  have hs3 : w.heap.size < w3.heap.size := by have := q3.size; omega
  have T3 := Lib.hid t3
  have Q3 := Lib.hid (Q2.out.trans q3)
  have O3 := Lib.hid (O2.out.wr hgB q3)
  have E3 := Lib.hid (q3.other _ _ _ _ E2.out other_sm)
  clear t3 q3
  go_wp2_with fail
  go_end0
  exact ⟨rfl, by have := T3.out; simpa using this, Q3.out⟩
set_option maxHeartbeats 2000000 in
set_option maxRecDepth 100000 in
theorem decl_array {B P : Nat} (hgB : PkB B) {w : World} {l : List UInt8} (kind line id len var callee : Int) (nm fn : List UInt8) {A1 A2 A3 A4 : Option Addr} {n1 c1 n2 c2 n3 c3 n4 c4 : Nat} (h : Tx B P l w) (hO : Pk w) (hI : ItoaAt) (hn : InI len) (h0 : ¬ len = 0) (hL : l.length + (declT nm [] len).length ≤ 140737488355328) :
    Calls Tryd.prog 63 #[.pointer (some ⟨P, 0, none⟩), .agg #[.int .i64 kind, .int .i64 line, .int .i64 id, .string ⟨nm.toArray⟩, .string ⟨[].toArray⟩, .int .i64 len, .int .i64 var, .slice A1 n1 c1, .string ⟨fn.toArray⟩, .int .i64 callee, .slice A2 n2 c2, .slice A3 n3 c3, .slice A4 n4 c4]] w (Wrote B P (l ++ declT nm [] len) w) := by
  obtain ⟨t, ht⟩ : ∃ t, Hid (Lib.itoa len = t) := ⟨_, Lib.hid rfl⟩
  have hE : declT nm [] len = ([118, 97, 114, 32] ++ (nm ++ [58, 32])) ++ (([105, 110, 116, 91] ++ (t ++ [93])) ++ [59]) := by rw [declT, if_neg (fun h => h rfl), if_pos h0, numT_itoa hn, ht.out]; simp
  rw [hE] at hL ⊢
  have HL := Lib.hid (show l.length + ((4 + (nm.length + 2)) + ((4 + (t.length + 1)) + 1)) ≤ 140737488355328 by simpa only [List.length_append, List.length_cons, List.length_nil] using hL)
  clear hL hE
  have hq : (len != 0) = true := by simpa using h0
  have t0 := h.alloc (.cells #[.int .i64 kind, .int .i64 line, .int .i64 id, .string ⟨nm.toArray⟩, .string ⟨[].toArray⟩, .int .i64 len, .int .i64 var, .slice A1 n1 c1, .string ⟨fn.toArray⟩, .int .i64 callee, .slice A2 n2 c2, .slice A3 n3 c3, .slice A4 n4 c4] 49)
  have q0 := (Wr.refl B w).alloc h.base (.cells #[.int .i64 kind, .int .i64 line, .int .i64 id, .string ⟨nm.toArray⟩, .string ⟨[].toArray⟩, .int .i64 len, .int .i64 var, .slice A1 n1 c1, .string ⟨fn.toArray⟩, .int .i64 callee, .slice A2 n2 c2, .slice A3 n3 c3, .slice A4 n4 c4] 49)
  have o0 := hO.wr hgB q0
  have e0 := heap_alloc_new w (.cells #[.int .i64 kind, .int .i64 line, .int .i64 id, .string ⟨nm.toArray⟩, .string ⟨[].toArray⟩, .int .i64 len, .int .i64 var, .slice A1 n1 c1, .string ⟨fn.toArray⟩, .int .i64 callee, .slice A2 n2 c2, .slice A3 n3 c3, .slice A4 n4 c4] 49)
  obtain ⟨w0, HW0⟩ : ∃ U, Hid (w.alloc (.cells #[.int .i64 kind, .int .i64 line, .int .i64 id, .string ⟨nm.toArray⟩, .string ⟨[].toArray⟩, .int .i64 len, .int .i64 var, .slice A1 n1 c1, .string ⟨fn.toArray⟩, .int .i64 callee, .slice A2 n2 c2, .slice A3 n3 c3, .slice A4 n4 c4] 49) = U) := ⟨_, Lib.hid rfl⟩
  rw [HW0.out] at t0 q0 o0 e0
  have hz0 : w0.heap.size = w.heap.size + 1 := by rw [← HW0.out]; exact World.size_alloc _ _
  have HZ0 := Lib.hid hz0
  have T0 := Lib.hid t0
  have Q0 := Lib.hid q0
  have O0 := Lib.hid o0
  have E0 := Lib.hid e0
  have hs0 : w.heap.size < w0.heap.size := by omega
  clear hz0 t0 q0 o0 e0
  clear h hO
  go_enter Tryd.func63, Tryd.ntmps63
  go_wp2_with fail
  rw [HW0.out]
  refine (add3 _ [118, 97, 114, 32] nm [58, 32] T0.out (by first | rfl | (have := HZ0.out; omega)) (by have := HL.out; (try simp only [List.length_append]); (try simp only [List.length_cons]); (try simp only [List.length_nil]); omega)).mono ?_
  rintro e w1 ⟨rfl, t1, q1⟩
  have hs1 : w.heap.size < w1.heap.size := by have := q1.size; omega
  have T1 := Lib.hid t1
  have Q1 := Lib.hid (Q0.out.trans q1)
  have O1 := Lib.hid (O0.out.wr hgB q1)
  have E1 := Lib.hid (q1.other _ _ _ _ E0.out other_sm)
  clear t1 q1
  obtain ⟨z0, z3, z4, z5, z7, z8, z10, z11, z12⟩ := cells_sm E1.out
  go_wp2_with fail
  have HI := Lib.hid (hI len w1 hn O1.out)
  rw [ht.out] at HI
  clear z0 z3 z4 z5 z7 z8 z10 z11 z12
  clear hn
  refine (HI.out).mono ?_
  rintro e w2 ⟨rfl, hb2⟩
  have t2 := T1.out.still hb2
  have q2 := Wr.still T1.out.base hb2
  clear hb2
  have hs2 : w.heap.size < w2.heap.size := by have := q2.size; omega
  have T2 := Lib.hid t2
  have Q2 := Lib.hid (Q1.out.trans q2)
  have O2 := Lib.hid (O1.out.wr hgB q2)
  have E2 := Lib.hid (q2.other _ _ _ _ E1.out other_sm)
  clear t2 q2
  go_wp2_with fail
  refine (add3 _ [105, 110, 116, 91] t [93] T2.out (by first | rfl | (have := HZ0.out; omega)) (by have := HL.out; (try simp only [List.length_append]); (try simp only [List.length_cons]); (try simp only [List.length_nil]); omega)).mono ?_
  rintro e w3 ⟨rfl, t3, q3⟩
  have hs3 : w.heap.size < w3.heap.size := by have := q3.size; omega
  have T3 := Lib.hid t3
  have Q3 := Lib.hid (Q2.out.trans q3)
  have O3 := Lib.hid (O2.out.wr hgB q3)
  have E3 := Lib.hid (q3.other _ _ _ _ E2.out other_sm)
  clear t3 q3
  go_wp2_with fail
  refine (add1 _ [59] T3.out (by first | rfl | (have := HZ0.out; omega)) (by have := HL.out; (try simp only [List.length_append]); (try simp only [List.length_cons]); (try simp only [List.length_nil]); omega)).mono ?_
  rintro e w4 ⟨rfl, t4, q4⟩
  have hs4 : w.heap.size < w4.heap.size := by have := q4.size; omega
  have T4 := Lib.hid t4
  have Q4 := Lib.hid (Q3.out.trans q4)
  have O4 := Lib.hid (O3.out.wr hgB q4)
  have E4 := Lib.hid (q4.other _ _ _ _ E3.out other_sm)
  clear t4 q4
  go_wp2_with fail
  go_end0
  exact ⟨rfl, by have := T4.out; simpa using this, Q4.out⟩
theorem decl_any {B P : Nat} (hgB : PkB B) {w : World} {l : List UInt8} (kind line id len var callee : Int) (nm ty fn : List UInt8) {A1 A2 A3 A4 : Option Addr} {n1 c1 n2 c2 n3 c3 n4 c4 : Nat} (h : Tx B P l w) (hO : Pk w) (hI : ItoaAt) (hn : InI len) (hL : l.length + (declT nm ty len).length ≤ 140737488355328) :
    Calls Tryd.prog 63 #[.pointer (some ⟨P, 0, none⟩), .agg #[.int .i64 kind, .int .i64 line, .int .i64 id, .string ⟨nm.toArray⟩, .string ⟨ty.toArray⟩, .int .i64 len, .int .i64 var, .slice A1 n1 c1, .string ⟨fn.toArray⟩, .int .i64 callee, .slice A2 n2 c2, .slice A3 n3 c3, .slice A4 n4 c4]] w (Wrote B P (l ++ declT nm ty len) w) := by
  cases ty with
  | nil =>
    by_cases h0 : len = 0
    · subst h0
      exact decl_int hgB kind line id var callee nm fn h hO hL
    · exact decl_array hgB kind line id len var callee nm fn h hO hI hn h0 hL
  | cons a r => exact decl_type hgB kind line id len var callee nm (a :: r) fn h hO (by simp) hL
end Go.Proofs.YtpfefjfpnmchcaaDoor
