/-
  The law ParserExamples, walked: it answers true. Condition: the packages' variables.
-/
import Derived.Test.YtpbnelkbmlkdaaaDoorZKn
namespace Go.Proofs.YtpbnelkbmlkdaaaDoor
open Go.RowKit

def src1 : List UInt8 := [102, 117, 110, 99, 32, 102, 40, 41, 32, 123, 10, 32, 118, 97, 114, 32, 116, 58, 32, 105, 110, 116, 91, 57, 93, 59, 32, 125]
def src2 : List UInt8 := [102, 117, 110, 99, 32, 102, 40, 41, 32, 123, 10, 32, 120, 32, 61, 32, 49, 32, 43, 10, 59, 32, 125]
def src3 : List UInt8 := [114, 101, 99, 111, 114, 100, 32, 80, 32, 123, 32, 125]
def src4 : List UInt8 := [102, 117, 110, 99, 32, 102, 40, 41, 32, 123, 32, 120, 32, 61, 32, 102, 40, 49, 44, 32, 50, 41, 59, 32, 102, 40, 41, 59, 32, 114, 101, 116, 117, 114, 110, 32, 102, 40, 41, 59, 32, 120, 46, 121, 32, 61, 32, 51, 59, 32, 116, 114, 121, 32, 123, 32, 125, 32, 99, 97, 116, 99, 104, 32, 101, 32, 123, 32, 116, 104, 114, 111, 119, 32, 101, 59, 32, 125, 32, 125]
def sm0 : Sm := .mk 3 1 0 [] [] 0 0 [.mk 1 0 0 [120] [] []] [102] 0 [.mk 0 1 0 [] [] [], .mk 0 2 0 [] [] []] [] []
def sm1 : Sm := .mk 3 1 0 [] [] 0 0 [] [102] 0 [] [] []
def sm2 : Sm := .mk 6 1 0 [] [] 0 0 [] [102] 0 [] [] []
def sm3 : Sm := .mk 2 1 0 [] [] 0 0 [.mk 2 0 0 [120] [121] []] [] 0 [.mk 0 3 0 [] [] []] [] []
def sm4 : Sm := .mk 8 1 0 [101] [] 0 0 [] [] 0 [] [] [.mk 7 1 0 [] [] 0 0 [] [] 0 [.mk 1 0 0 [101] [] []] [] []]
def sm5 : Sm := .mk 10 1 0 [] [] 0 0 [] [] 0 [] [] []
def prg4 : Prg := ⟨[], [⟨[102], 1, [], [sm0, sm1, sm2, sm3, sm4, sm5]⟩]⟩
theorem smD_target {w : World} {p : Nat → Prop} {d : Nat} {kind line id len var callee : Int} {nm ty fn : List UInt8} {target args : List Ex} {body els : List Sm} {v0 v1 v2 v3 v4 v5 v6 v8 v9 v10 v11 v12 : Value} {X1 : Option Addr} {n1 X1c : Nat} (h : SmD w p (d + 1) (.agg #[v0, v1, v2, v3, v4, v5, v6, .slice X1 n1 X1c, v8, v9, v10, v11, v12]) (.mk kind line id nm ty len var target fn callee args body els)) : ExsD w p d X1 X1c target := by
  obtain ⟨A1, c1, A2, c2, A3, c3, A4, c4, hv, r1, r2, r3, r4⟩ := h
  injection hv with hv
  have h7 := congrArg (fun a : Array Value => a[7]?) hv
  simp at h7
  obtain ⟨rfl, _, rfl⟩ := h7
  exact r1
theorem parse1 : parseP 400 src1 = .err 2 5 := by kernel_rfl
theorem parse2 : parseP 400 src2 = .err 3 7 := by kernel_rfl
theorem parse3 : parseP 400 src3 = .err 1 7 := by kernel_rfl
theorem parse4 : parseP 400 src4 = .ok prg4 [⟨0, 1, [], 0⟩] := by kernel_rfl
theorem src4_short : (⟨src4.toArray⟩ : ByteArray).size ≤ 9223372036854775807 := by decide
set_option maxHeartbeats 4000000 in
set_option maxRecDepth 100000 in
theorem examples_any {w : World} (hV : VarsAt w) : Calls Tryd.prog 6 #[] w fun e w' => e = .returned (.bool true) ∧ Below w.heap.size w w' := by
  have HV := Lib.hid hV
  clear hV
  go_enter Tryd.func6, Tryd.ntmps6
  go_wp2_with fail
  refine (parse_any ⟨src1.toArray⟩ _ HV.out.1 HV.out.2.1.1 (by decide) 400 (by omega) (.err 2 5) (Lib.hid parse1) (fun e => by cases e)).mono ?_
  rintro e w1 ⟨rfl, hb1⟩
  have HV1 := Lib.hid (HV.out.below hb1)
  have HB1 := Lib.hid hb1
  have hs1 := hb1.size
  clear hb1
  go_wp2_with fail
  refine (parse_any ⟨src2.toArray⟩ _ (HV1.out.alloc _).1 (HV1.out.alloc _).2.1.1 (by decide) 400 (by omega) (.err 3 7) (Lib.hid parse2) (fun e => by cases e)).mono ?_
  rintro e w2 ⟨rfl, hb2⟩
  have HV2 := Lib.hid ((HV1.out.alloc _).below hb2)
  have HB2 := Lib.hid ((HB1.out.alloc hs1 _).trans (hb2.mono (by simp; omega)))
  have hs2 : w.heap.size ≤ w2.heap.size := HB2.out.size
  clear hb2
  go_wp2_with fail
  refine (parse_any ⟨src3.toArray⟩ _ (HV2.out.alloc _).1 (HV2.out.alloc _).2.1.1 (by decide) 400 (by omega) (.err 1 7) (Lib.hid parse3) (fun e => by cases e)).mono ?_
  rintro e w3 ⟨rfl, hb3⟩
  have HV3 := Lib.hid ((HV2.out.alloc _).below hb3)
  have HB3 := Lib.hid ((HB2.out.alloc hs2 _).trans (hb3.mono (by simp; omega)))
  have hs3 : w.heap.size ≤ w3.heap.size := HB3.out.size
  clear hb3
  go_wp2_with fail
  refine (parse_any ⟨src4.toArray⟩ _ (HV3.out.alloc _).1 (HV3.out.alloc _).2.1.1 src4_short 400 (by omega) (.ok prg4 [⟨0, 1, [], 0⟩]) (Lib.hid parse4) (fun e => by cases e)).mono ?_
  rintro e w4 ⟨v, rfl, hv, hb4⟩
  have HV4 := Lib.hid ((HV3.out.alloc _).below hb4)
  have HB4 := Lib.hid ((HB3.out.alloc hs3 _).trans (hb4.mono (by simp; omega)))
  have hs4 : w.heap.size ≤ w4.heap.size := HB4.out.size
  clear hb4
  obtain ⟨A, c, A', c', rfl, hr, hfs⟩ := hv
  obtain ⟨b, A1, c1, A2, c2, hA, hnm, hsm, g0, g1, g2, g3⟩ := fun_arg hfs (k := 0) (x := ⟨[102], 1, [], [sm0, sm1, sm2, sm3, sm4, sm5]⟩) rfl
  subst hA
  obtain ⟨d, hsd0⟩ := hsm.d
  have hsd := hsd0.le (Nat.le_succ d)
  obtain ⟨b0, kd, ln, id, le, va, ca, nm, ty, fn, ta, ar, bo, el, P1_0, p1_0, P2_0, p2_0, P3_0, p3_0, P4_0, p4_0, hB0, hE0, hD0, s0, s1, s2, s3, s4, s5, s6, s7, s8, s9, s10, s11, s12⟩ := hsd.arg (k := 0) (x := sm0) rfl
  obtain rfl : A2 = some ⟨b0, 0, none⟩ := hB0
  unfold sm0 at hE0
  injection hE0 with e0 e1 e2 e3 e4 e5 e6 e7 e8 e9 e10 e11 e12
  subst e0 e3 e7 e8 e10 e11 e12
  clear e1 e2 e4 e5 e6 e9
  have c0_0 := s0
  have c0_8 := s8
  have c0_10 := s10
  have c0_7 := s7
  clear s0 s1 s2 s3 s4 s5 s6 s7 s8 s9 s10 s11 s12
  obtain ⟨b1, kd, ln, id, le, va, ca, nm, ty, fn, ta, ar, bo, el, P1_1, p1_1, P2_1, p2_1, P3_1, p3_1, P4_1, p4_1, hB1, hE1, hD1, s0, s1, s2, s3, s4, s5, s6, s7, s8, s9, s10, s11, s12⟩ := hsd.arg (k := 1) (x := sm1) rfl
  obtain rfl : b0 = b1 := by injection hB1 with e; injection e
  unfold sm1 at hE1
  injection hE1 with e0 e1 e2 e3 e4 e5 e6 e7 e8 e9 e10 e11 e12
  subst e0 e3 e7 e8 e10 e11 e12
  clear e1 e2 e4 e5 e6 e9
  have c1_0 := s0
  have c1_7 := s7
  clear s0 s1 s2 s3 s4 s5 s6 s7 s8 s9 s10 s11 s12
  obtain ⟨b2, kd, ln, id, le, va, ca, nm, ty, fn, ta, ar, bo, el, P1_2, p1_2, P2_2, p2_2, P3_2, p3_2, P4_2, p4_2, hB2, hE2, hD2, s0, s1, s2, s3, s4, s5, s6, s7, s8, s9, s10, s11, s12⟩ := hsd.arg (k := 2) (x := sm2) rfl
  obtain rfl : b0 = b2 := by injection hB2 with e; injection e
  unfold sm2 at hE2
  injection hE2 with e0 e1 e2 e3 e4 e5 e6 e7 e8 e9 e10 e11 e12
  subst e0 e3 e7 e8 e10 e11 e12
  clear e1 e2 e4 e5 e6 e9
  have c2_0 := s0
  have c2_8 := s8
  clear s0 s1 s2 s3 s4 s5 s6 s7 s8 s9 s10 s11 s12
  obtain ⟨b3, kd, ln, id, le, va, ca, nm, ty, fn, ta, ar, bo, el, P1_3, p1_3, P2_3, p2_3, P3_3, p3_3, P4_3, p4_3, hB3, hE3, hD3, s0, s1, s2, s3, s4, s5, s6, s7, s8, s9, s10, s11, s12⟩ := hsd.arg (k := 3) (x := sm3) rfl
  obtain rfl : b0 = b3 := by injection hB3 with e; injection e
  unfold sm3 at hE3
  injection hE3 with e0 e1 e2 e3 e4 e5 e6 e7 e8 e9 e10 e11 e12
  subst e0 e3 e7 e8 e10 e11 e12
  clear e1 e2 e4 e5 e6 e9
  have c3_0 := s0
  have c3_7 := s7
  have t1 := smD_target hD3
  obtain ⟨bt, o1, o2, o3, o4, o5, o6, o7, o8, hT, hTe, hTd, q0, q1, q2, q3, q4, q5⟩ := t1.arg (k := 0) (x := .mk 2 0 0 [120] [121] []) rfl
  subst hT
  injection hTe with f0 f1 f2 f3 f4 f5
  subst f4
  clear f0 f1 f2 f3 f5
  clear s0 s1 s2 s3 s4 s5 s6 s7 s8 s9 s10 s11 s12
  obtain ⟨b4, kd, ln, id, le, va, ca, nm, ty, fn, ta, ar, bo, el, P1_4, p1_4, P2_4, p2_4, P3_4, p3_4, P4_4, p4_4, hB4, hE4, hD4, s0, s1, s2, s3, s4, s5, s6, s7, s8, s9, s10, s11, s12⟩ := hsd.arg (k := 4) (x := sm4) rfl
  obtain rfl : b0 = b4 := by injection hB4 with e; injection e
  unfold sm4 at hE4
  injection hE4 with e0 e1 e2 e3 e4 e5 e6 e7 e8 e9 e10 e11 e12
  subst e0 e3 e7 e8 e10 e11 e12
  clear e1 e2 e4 e5 e6 e9
  have c4_3 := s3
  have c4_11 := s11
  have c4_12 := s12
  clear s0 s1 s2 s3 s4 s5 s6 s7 s8 s9 s10 s11 s12
  have y0 : w4.cell? ⟨b0, 0, none⟩ = some (.int .i64 3) := c0_0
  have y1 : w4.cell? ⟨b0, 8, none⟩ = some (.string ⟨#[102]⟩) := c0_8
  have y2 : w4.cell? ⟨b0, 10, none⟩ = some (.slice P2_0 2 p2_0) := c0_10
  have y3 : w4.cell? ⟨b0, 7, none⟩ = some (.slice P1_0 1 p1_0) := c0_7
  have y4 : w4.cell? ⟨b0, 13, none⟩ = some (.int .i64 3) := c1_0
  have y5 : w4.cell? ⟨b0, 20, none⟩ = some (.slice P1_1 0 p1_1) := c1_7
  have y6 : w4.cell? ⟨b0, 26, none⟩ = some (.int .i64 6) := c2_0
  have y7 : w4.cell? ⟨b0, 34, none⟩ = some (.string ⟨#[102]⟩) := c2_8
  have y8 : w4.cell? ⟨b0, 39, none⟩ = some (.int .i64 2) := c3_0
  have y9 : w4.cell? ⟨b0, 46, none⟩ = some (.slice (some ⟨bt, 0, none⟩) 1 p1_3) := c3_7
  have y10 : w4.cell? ⟨bt, 4, none⟩ = some (.string ⟨#[121]⟩) := q4
  have y11 : w4.cell? ⟨b0, 55, none⟩ = some (.string ⟨#[101]⟩) := c4_3
  have y12 : w4.cell? ⟨b0, 63, none⟩ = some (.slice P3_4 0 p3_4) := c4_11
  have y13 : w4.cell? ⟨b0, 64, none⟩ = some (.slice P4_4 1 p4_4) := c4_12
  have y14 : w4.cell? ⟨b, 3, none⟩ = some (.slice (some ⟨b0, 0, none⟩) 6 c2) := g3
  have l0 := World.block_lt_of_cell? w4 _ y0
  have l1 := World.block_lt_of_cell? w4 _ y10
  have l2 := World.block_lt_of_cell? w4 _ y14
  dsimp only at l0 l1 l2
  clear c0_0 c0_8 c0_10 c0_7 c1_0 c1_7 c2_0 c2_8 c3_0 c3_7 q0 q1 q2 q3 q4 q5 c4_3 c4_11 c4_12 g0 g1 g2 g3 hD0 hD1 hD2 hD3 hD4 hTd hsd hsd0 hsm hnm hr hfs t1
  rw [show prg4.funs.length = 1 from rfl, show prg4.recs.length = 0 from rfl]
  go_wp2_with fail
  refine (known_any (HV4.out.alloc _)).mono ?_
  rintro e w5 ⟨rfl, hb5⟩
  have HB5 := Lib.hid ((HB4.out.alloc hs4 _).trans (hb5.mono (by simp; omega)))
  clear hb5
  go_wp2_with fail
  go_ret
  exact ⟨rfl, HB5.out⟩
end Go.Proofs.YtpbnelkbmlkdaaaDoor
