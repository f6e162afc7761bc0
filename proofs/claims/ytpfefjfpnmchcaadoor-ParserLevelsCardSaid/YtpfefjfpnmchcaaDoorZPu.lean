/-
  The walks of the parser's targetStatement, returnStatement, throwStatement, printStatement. Condition: the parser in memory. The walks of the parser's ifStatement, whileStatement, tryStatement: statements that hold blocks. Conditions: the parser in memory; what block does.
-/
import Derived.Test.YtpfefjfpnmchcaaDoorZPo
namespace Go.Proofs.YtpfefjfpnmchcaaDoor
open Go.RowKit

theorem sm_aimed {w : World} {p : Nat → Prop} {kind line id len var callee : Int} {nm ty fn : List UInt8} {target args tg : List Ex} {body els : List Sm} {A1 A2 A3 A4 B : Option Addr} {c1 c2 c3 c4 d : Nat}
    (h : SmIs w p (.agg #[.int .i64 kind, .int .i64 line, .int .i64 id, .string ⟨nm.toArray⟩, .string ⟨ty.toArray⟩, .int .i64 len, .int .i64 var, .slice A1 target.length c1, .string ⟨fn.toArray⟩, .int .i64 callee, .slice A2 args.length c2, .slice A3 body.length c3, .slice A4 els.length c4]) (.mk kind line id nm ty len var target fn callee args body els)) (ht : ExsIs w p B d tg) :
    SmIs w p (.agg #[.int .i64 kind, .int .i64 line, .int .i64 id, .string ⟨nm.toArray⟩, .string ⟨ty.toArray⟩, .int .i64 len, .int .i64 var, .slice B tg.length d, .string ⟨fn.toArray⟩, .int .i64 callee, .slice A2 args.length c2, .slice A3 body.length c3, .slice A4 els.length c4]) (.mk kind line id nm ty len var tg fn callee args body els) := by
  obtain ⟨D1, e1, D2, e2, D3, e3, D4, e4, he, p1, p2, p3, p4⟩ := SmIs.parts h
  injection he with he
  have he := congrArg Array.toList he
  simp only [List.cons.injEq, Value.slice.injEq, true_and, and_true] at he
  obtain ⟨⟨rfl, rfl⟩, ⟨rfl, rfl⟩, ⟨rfl, rfl⟩, rfl, rfl⟩ := he
  exact SmIs.mk ht p2 p3 p4

set_option maxHeartbeats 3200000 in
set_option maxRecDepth 100000 in
theorem goal_any {m : Pm} {w : World} {nest : Nat} {ts : List Tok} (n : Nat) (R : Res Sm) (h : PsAt m w nest ts) (hR : Hid (goalP n ts = R)) (hne : R ≠ .out) :
    Calls Tryd.prog 82 #[.pointer (some ⟨m.P, 0, none⟩)] w (Out m w nest (SmV w.heap.size) R) := by
  have hR2 := hR.out
  unfold goalP at hR2
  have HR0 := Lib.hid hR2
  clear hR hR2
  have hP := h.lt
  have H := Lib.hid h
  have h0 := h.alloc (.cells #[.int .i64 0, .int .i64 0, .int .i64 0, .string ⟨#[]⟩, .string ⟨#[]⟩, .int .i64 0, .int .i64 0, .slice none 0 0, .string ⟨#[]⟩, .int .i64 0, .slice none 0 0, .slice none 0 0, .slice none 0 0] 49)
  have q0 := (Keeps.refl m.P w).alloc (.cells #[.int .i64 0, .int .i64 0, .int .i64 0, .string ⟨#[]⟩, .string ⟨#[]⟩, .int .i64 0, .int .i64 0, .slice none 0 0, .string ⟨#[]⟩, .int .i64 0, .slice none 0 0, .slice none 0 0, .slice none 0 0] 49)
  have cZ0 := heap_alloc_new w (.cells #[.int .i64 0, .int .i64 0, .int .i64 0, .string ⟨#[]⟩, .string ⟨#[]⟩, .int .i64 0, .int .i64 0, .slice none 0 0, .string ⟨#[]⟩, .int .i64 0, .slice none 0 0, .slice none 0 0, .slice none 0 0] 49)
  have hz0 : (w.alloc (.cells #[.int .i64 0, .int .i64 0, .int .i64 0, .string ⟨#[]⟩, .string ⟨#[]⟩, .int .i64 0, .int .i64 0, .slice none 0 0, .string ⟨#[]⟩, .int .i64 0, .slice none 0 0, .slice none 0 0, .slice none 0 0] 49)).heap.size = w.heap.size + 1 := World.size_alloc _ _
  obtain ⟨w0, HW0⟩ : ∃ U, Hid (w.alloc (.cells #[.int .i64 0, .int .i64 0, .int .i64 0, .string ⟨#[]⟩, .string ⟨#[]⟩, .int .i64 0, .int .i64 0, .slice none 0 0, .string ⟨#[]⟩, .int .i64 0, .slice none 0 0, .slice none 0 0, .slice none 0 0] 49) = U) := ⟨_, Lib.hid rfl⟩
  rw [HW0.out] at h0 q0 cZ0 hz0
  have H0 := Lib.hid h0
  have K0 := Lib.hid q0
  have Z0 := Lib.hid cZ0
  clear h h0 q0 cZ0
  go_enter Tryd.func82, Tryd.ntmps82
  go_wp2_with fail
  rw [HW0.out]
  by_cases hca : atCall ts = true
  · have hr := HR0.out
    rw [if_pos hca] at hr
    have HR1 := Lib.hid hr
    clear hr HR0
    have hq : atCall ts = true := by simpa using hca
    refine (atCall_any H0.out).mono ?_
    rintro e w' ⟨rfl, hw'⟩
    have hw2 := hw'.symm
    clear hw'
    subst hw2
    go_wp2_with fail
    refine (call_any n 3 _ H0.out (Lib.hid rfl) (by rw [HR1.out]; exact hne)).mono ?_
    intro e w1 ho
    rcases ho.go with ⟨l, k, hR, rfl, k1⟩ | ⟨x1, ts1, v1, hR, rfl, hv, h1, k1⟩
    · exact ⟨rfl, out_err (by rw [← HR1.out, hR]) (K0.out.trans k1)⟩
    have HR2 := Lib.hid (hR.symm.trans HR1.out)
    have H1 := Lib.hid h1
    have K1 := Lib.hid (K0.out.trans k1)
    have hs1 := K1.out.size
    have hm1 := k1.size
    have Z1 := Lib.hid (k1.held (by omega) Z0.out)
    clear h1 k1
    have HX1 := Lib.hid hR
    clear hR
    obtain ⟨ki1, li1, id1, nm1, ty1, le1, va1, tg1, fn1, ca1, ar1, bo1, el1⟩ := x1
    obtain ⟨A1, c1, B1, d1, C1, f1, D1, g1, rfl, ha⟩ := SmIs.parts hv
    have S1 : Hid (SmIs w1 (fun b => w0.heap.size ≤ b) (.agg #[.int .i64 ki1, .int .i64 li1, .int .i64 id1, .string ⟨nm1.toArray⟩, .string ⟨ty1.toArray⟩, .int .i64 le1, .int .i64 va1, .slice A1 tg1.length c1, .string ⟨fn1.toArray⟩, .int .i64 ca1, .slice B1 ar1.length d1, .slice C1 bo1.length f1, .slice D1 el1.length g1]) (.mk ki1 li1 id1 nm1 ty1 le1 va1 tg1 fn1 ca1 ar1 bo1 el1)) := Lib.hid hv
    clear ha hv
    go_wp2_with ((with_reducible show wpList _ _ _ (Oper.mk none (Op.store 49 _ _) _ _ _ none :: _) _ _); refine wpList_store_all rfl rfl 49 _ _ rfl w.heap.size _ (#[.int .i64 ki1, .int .i64 li1, .int .i64 id1, .string ⟨nm1.toArray⟩, .string ⟨ty1.toArray⟩, .int .i64 le1, .int .i64 va1, .slice A1 tg1.length c1, .string ⟨fn1.toArray⟩, .int .i64 ca1, .slice B1 ar1.length d1, .slice C1 bo1.length f1, .slice D1 el1.length g1]) rfl rfl Z1.out rfl (by kernel_rfl) (by simp [Value.oneCell']) ?_; intro U hU)
    (try simp only [Exit.inBlock, Exit.then])
    have hld := ret_all (P := Tryd.prog) 49 w.heap.size _ _ hU.at_ Tryd.underlying49 rfl (by kernel_rfl)
    refine bodyPost_ret (v := .agg #[.int .i64 ki1, .int .i64 li1, .int .i64 id1, .string ⟨nm1.toArray⟩, .string ⟨ty1.toArray⟩, .int .i64 le1, .int .i64 va1, .slice A1 tg1.length c1, .string ⟨fn1.toArray⟩, .int .i64 ca1, .slice B1 ar1.length d1, .slice C1 bo1.length f1, .slice D1 el1.length g1]) (by simp [results, Tryd.results82, asAddr, hld]) rfl ?_
    exact out_ok HR2.out.symm ((S1.out.turn (q := fun b => w.heap.size ≤ b) (fun b _ (hb : w0.heap.size ≤ b) => ⟨by omega, hU.block b (by omega)⟩))) (H1.out.setC H.out (Nat.le_refl _) hU) (K1.out.setC (Nat.le_refl _) hU)
  · have hr := HR0.out
    rw [if_neg hca] at hr
    have HR1 := Lib.hid hr
    clear hr HR0
    have hcf : atCall ts = false := by simpa using hca
    have hq : atCall ts = false := by simpa using hcf
    refine (atCall_any H0.out).mono ?_
    rintro e w' ⟨rfl, hw'⟩
    have hw2 := hw'.symm
    clear hw'
    subst hw2
    go_wp2_with fail
    clear hq hcf hca
    refine (target0 (n := n) _ H0.out (Lib.hid rfl) (Res.live HR1.out hne)).mono ?_
    intro e w1 ho
    rcases ho.go with ⟨l, k, hR, rfl, k1⟩ | ⟨x1, ts1, v1, hR, rfl, hv, h1, k1⟩
    · exact ⟨rfl, out_err (Res.fails HR1.out hR) (K0.out.trans k1)⟩
    have HR2 := Lib.hid (Res.behind HR1.out hR)
    have H1 := Lib.hid h1
    have K1 := Lib.hid (K0.out.trans k1)
    have hs1 := K1.out.size
    have hm1 := k1.size
    have Z1 := Lib.hid (k1.held (by omega) Z0.out)
    clear h1 k1
    have HX1 := Lib.hid hR
    clear hR
    obtain ⟨op1, num1, var1, nm1, fld1, args1⟩ := x1
    obtain ⟨A1, c1, rfl, ha⟩ := ExIs.parts hv
    have X1 : Hid (ExIs w1 (fun b => w0.heap.size ≤ b) (.agg #[.int .i64 op1, .int .i64 num1, .int .i64 var1, .string ⟨nm1.toArray⟩, .string ⟨fld1.toArray⟩, .slice A1 args1.length c1]) (.mk op1 num1 var1 nm1 fld1 args1)) := Lib.hid hv
    clear ha hv
    have h2 := H1.out.alloc (.cells #[.int .i64 op1, .int .i64 num1, .int .i64 var1, .string ⟨nm1.toArray⟩, .string ⟨fld1.toArray⟩, .slice A1 args1.length c1] 51)
    have q2 := K1.out.alloc (.cells #[.int .i64 op1, .int .i64 num1, .int .i64 var1, .string ⟨nm1.toArray⟩, .string ⟨fld1.toArray⟩, .slice A1 args1.length c1] 51)
    have cZ2 := held_alloc (.cells #[.int .i64 op1, .int .i64 num1, .int .i64 var1, .string ⟨nm1.toArray⟩, .string ⟨fld1.toArray⟩, .slice A1 args1.length c1] 51) Z1.out
    have cQ2 := heap_alloc_new w1 (.cells #[.int .i64 op1, .int .i64 num1, .int .i64 var1, .string ⟨nm1.toArray⟩, .string ⟨fld1.toArray⟩, .slice A1 args1.length c1] 51)
    have cX2 := X1.out.turn (stays_alloc (.cells #[.int .i64 op1, .int .i64 num1, .int .i64 var1, .string ⟨nm1.toArray⟩, .string ⟨fld1.toArray⟩, .slice A1 args1.length c1] 51))
    obtain ⟨w2, HW2⟩ : ∃ U, Hid (w1.alloc (.cells #[.int .i64 op1, .int .i64 num1, .int .i64 var1, .string ⟨nm1.toArray⟩, .string ⟨fld1.toArray⟩, .slice A1 args1.length c1] 51) = U) := ⟨_, Lib.hid rfl⟩
    rw [HW2.out] at h2 q2 cZ2 cQ2 cX2
    have H2 := Lib.hid h2
    have K2 := Lib.hid q2
    have Z2 := Lib.hid cZ2
    have Q2 := Lib.hid cQ2
    have X2 := Lib.hid cX2
    have hs2 := K2.out.size
    have hz2 : w2.heap.size = w1.heap.size + 1 := by have hq := congrArg (fun x => x.heap.size) HW2.out; simp only [World.size_alloc] at hq; exact hq.symm
    have hm2 : w1.heap.size < w2.heap.size := by omega
    clear h2 q2 cZ2 cQ2 cX2
    have Y2 : Hid (ExsIs w2 (fun b => w0.heap.size ≤ b) (some ⟨w1.heap.size, 0, none⟩) 1 [(.mk op1 num1 var1 nm1 fld1 args1)]) := Lib.hid (RowIs.one (vs := [.int .i64 op1, .int .i64 num1, .int .i64 var1, .string ⟨nm1.toArray⟩, .string ⟨fld1.toArray⟩, .slice A1 args1.length c1]) Q2.out (by omega) (Nat.le_refl _) (by decide) X2.out)
    go_wp2_with fail
    rw [HW2.out]
    refine (expect_any H2.out [61] (by simp)).mono ?_
    intro e w3 ho
    rcases ho.go with ⟨l, k, hR, rfl, k3⟩ | ⟨x3, ts3, v3, hR, rfl, hv, h3, k3⟩
    · exact ⟨rfl, out_err (Res.fails HR2.out hR) (K2.out.trans k3)⟩
    have HR3 := Lib.hid (Res.behind HR2.out hR)
    have H3 := Lib.hid h3
    have K3 := Lib.hid (K2.out.trans k3)
    have hs3 := K3.out.size
    have hm3 := k3.size
    have Z3 := Lib.hid (k3.held (by omega) Z2.out)
    have Y3 := Lib.hid (Y2.out.turn (k3.stays_of (fun b (hb : w0.heap.size ≤ b) => by omega)))
    clear h3 k3
    have HX3 := Lib.hid hR
    clear hv
    clear hR
    go_wp2_with fail
    have h4 := H3.out.alloc (.cells #[.int .i64 0, .int .i64 0, .int .i64 0, .string ⟨#[]⟩, .string ⟨#[]⟩, .int .i64 0, .int .i64 0, .slice none 0 0, .string ⟨#[]⟩, .int .i64 0, .slice none 0 0, .slice none 0 0, .slice none 0 0] 49)
    have q4 := K3.out.alloc (.cells #[.int .i64 0, .int .i64 0, .int .i64 0, .string ⟨#[]⟩, .string ⟨#[]⟩, .int .i64 0, .int .i64 0, .slice none 0 0, .string ⟨#[]⟩, .int .i64 0, .slice none 0 0, .slice none 0 0, .slice none 0 0] 49)
    have cZ4 := held_alloc (.cells #[.int .i64 0, .int .i64 0, .int .i64 0, .string ⟨#[]⟩, .string ⟨#[]⟩, .int .i64 0, .int .i64 0, .slice none 0 0, .string ⟨#[]⟩, .int .i64 0, .slice none 0 0, .slice none 0 0, .slice none 0 0] 49) Z3.out
    have cE4 := heap_alloc_new w3 (.cells #[.int .i64 0, .int .i64 0, .int .i64 0, .string ⟨#[]⟩, .string ⟨#[]⟩, .int .i64 0, .int .i64 0, .slice none 0 0, .string ⟨#[]⟩, .int .i64 0, .slice none 0 0, .slice none 0 0, .slice none 0 0] 49)
    have cY4 := Y3.out.turn (q := fun b => (w0.heap.size ≤ b) ∧ b ≠ w3.heap.size) (fun b hb (hp : w0.heap.size ≤ b) => ⟨⟨hp, by omega⟩, heap_alloc_old _ (.cells #[.int .i64 0, .int .i64 0, .int .i64 0, .string ⟨#[]⟩, .string ⟨#[]⟩, .int .i64 0, .int .i64 0, .slice none 0 0, .string ⟨#[]⟩, .int .i64 0, .slice none 0 0, .slice none 0 0, .slice none 0 0] 49) hb⟩)
    obtain ⟨w4, HW4⟩ : ∃ U, Hid (w3.alloc (.cells #[.int .i64 0, .int .i64 0, .int .i64 0, .string ⟨#[]⟩, .string ⟨#[]⟩, .int .i64 0, .int .i64 0, .slice none 0 0, .string ⟨#[]⟩, .int .i64 0, .slice none 0 0, .slice none 0 0, .slice none 0 0] 49) = U) := ⟨_, Lib.hid rfl⟩
    rw [HW4.out] at h4 q4 cZ4 cE4 cY4
    have H4 := Lib.hid h4
    have K4 := Lib.hid q4
    have Z4 := Lib.hid cZ4
    have E4 := Lib.hid cE4
    have Y4 := Lib.hid cY4
    have hs4 := K4.out.size
    have hz4 : w4.heap.size = w3.heap.size + 1 := by have hq := congrArg (fun x => x.heap.size) HW4.out; simp only [World.size_alloc] at hq; exact hq.symm
    have hm4 : w3.heap.size < w4.heap.size := by omega
    clear h4 q4 cZ4 cE4 cY4
    rw [HW4.out]
    by_cases hca : atCall ts3 = true
    · have hr := HR3.out
      rw [if_pos hca] at hr
      have HR4 := Lib.hid hr
      clear hr HR3
      have hq : atCall ts3 = true := by simpa using hca
      refine (atCall_any H4.out).mono ?_
      rintro e w' ⟨rfl, hw'⟩
      have hw2 := hw'.symm
      clear hw'
      subst hw2
      go_wp2_with fail
      clear hq hca
      refine (call_any n 3 _ H4.out (Lib.hid rfl) (Res.live HR4.out hne)).mono ?_
      intro e w5 ho
      rcases ho.go with ⟨l, k, hR, rfl, k5⟩ | ⟨x5, ts5, v5, hR, rfl, hv, h5, k5⟩
      · exact ⟨rfl, out_err (Res.fails HR4.out hR) (K4.out.trans k5)⟩
      have HR5 := Lib.hid (Res.behind HR4.out hR)
      have H5 := Lib.hid h5
      have K5 := Lib.hid (K4.out.trans k5)
      have hs5 := K5.out.size
      have hm5 := k5.size
      have Z5 := Lib.hid (k5.held (by omega) Z4.out)
      have E5 := Lib.hid (k5.held (by omega) E4.out)
      have Y5 := Lib.hid (Y4.out.turn (k5.stays_of (fun b (hb : (w0.heap.size ≤ b) ∧ b ≠ w3.heap.size) => by omega)))
      clear h5 k5
      have HX5 := Lib.hid hR
      clear hR
      obtain ⟨ki5, li5, id5, nm5, ty5, le5, va5, tg5, fn5, ca5, ar5, bo5, el5⟩ := x5
      obtain ⟨A5, c5, B5, d5, C5, f5, D5, g5, rfl, ha⟩ := SmIs.parts hv
      have S5 : Hid (SmIs w5 (fun b => w4.heap.size ≤ b) (.agg #[.int .i64 ki5, .int .i64 li5, .int .i64 id5, .string ⟨nm5.toArray⟩, .string ⟨ty5.toArray⟩, .int .i64 le5, .int .i64 va5, .slice A5 tg5.length c5, .string ⟨fn5.toArray⟩, .int .i64 ca5, .slice B5 ar5.length d5, .slice C5 bo5.length f5, .slice D5 el5.length g5]) (.mk ki5 li5 id5 nm5 ty5 le5 va5 tg5 fn5 ca5 ar5 bo5 el5)) := Lib.hid hv
      clear ha hv
      go_wp2_with (first | ((with_reducible show wpList _ _ _ (Oper.mk none (Op.store 49 _ _) _ _ _ none :: _) _ _); refine wpList_store_all rfl rfl 49 _ _ rfl w3.heap.size _ (#[.int .i64 ki5, .int .i64 li5, .int .i64 id5, .string ⟨nm5.toArray⟩, .string ⟨ty5.toArray⟩, .int .i64 le5, .int .i64 va5, .slice A5 tg5.length c5, .string ⟨fn5.toArray⟩, .int .i64 ca5, .slice B5 ar5.length d5, .slice C5 bo5.length f5, .slice D5 el5.length g5]) rfl rfl E5.out rfl (by kernel_rfl) (by simp [Value.oneCell']) ?_; intro w6 hU; have H6 := Lib.hid (H5.out.setC H.out (by omega) hU); have K6 := Lib.hid (K5.out.setC (by omega) hU); have hs6 := K6.out.size; have hm6 := Nat.le_of_eq hU.size.symm; have Z6 := Lib.hid (hU.held (by omega) Z5.out); have E6 := Lib.hid (show w6.heap[w3.heap.size]? = some (.cells #[.int .i64 ki5, .int .i64 li5, .int .i64 id5, .string ⟨nm5.toArray⟩, .string ⟨ty5.toArray⟩, .int .i64 le5, .int .i64 va5, .slice A5 tg5.length c5, .string ⟨fn5.toArray⟩, .int .i64 ca5, .slice B5 ar5.length d5, .slice C5 bo5.length f5, .slice D5 el5.length g5] 49 (0, 0)) from hU.at_); have Y6 := Lib.hid (Y5.out.turn (hU.stays_of (fun b (hb : (w0.heap.size ≤ b) ∧ b ≠ w3.heap.size) => by omega))); have S6 := Lib.hid (S5.out.turn (hU.stays_of (fun b (hb : w4.heap.size ≤ b) => by omega))); clear hU) | ((with_reducible show wpList _ _ _ (Oper.mk none (Op.store 47 _ _) _ _ _ none :: _) _ _); refine wpList_store_cell rfl rfl 47 _ _ rfl w3.heap.size 7 _ (.slice (some ⟨w1.heap.size, 0, none⟩) 1 1) rfl rfl E6.out (by simp) (by kernel_rfl) rfl ?_; intro w7 hU; have H7 := Lib.hid (H6.out.setC H.out (by omega) hU); have K7 := Lib.hid (K6.out.setC (by omega) hU); have hs7 := K7.out.size; have hm7 := Nat.le_of_eq hU.size.symm; have Z7 := Lib.hid (hU.held (by omega) Z6.out); have E7 := Lib.hid (show w7.heap[w3.heap.size]? = some (.cells #[.int .i64 ki5, .int .i64 li5, .int .i64 id5, .string ⟨nm5.toArray⟩, .string ⟨ty5.toArray⟩, .int .i64 le5, .int .i64 va5, .slice (some ⟨w1.heap.size, 0, none⟩) 1 1, .string ⟨fn5.toArray⟩, .int .i64 ca5, .slice B5 ar5.length d5, .slice C5 bo5.length f5, .slice D5 el5.length g5] 49 (0, 0)) from hU.at_); have Y7 := Lib.hid (Y6.out.turn (hU.stays_of (fun b (hb : (w0.heap.size ≤ b) ∧ b ≠ w3.heap.size) => by omega))); have S7 := Lib.hid (S6.out.turn (hU.stays_of (fun b (hb : w4.heap.size ≤ b) => by omega))); clear hU) | ((with_reducible show wpList _ _ _ (Oper.mk _ (Op.load 49 _) _ _ _ none :: _) _ _); refine wpList_load_all rfl 49 _ rfl w3.heap.size _ _ rfl E7.out Tryd.underlying49 rfl (by kernel_rfl) ?_) | ((with_reducible show wpList _ _ _ (Oper.mk none (Op.store 49 _ _) _ _ _ none :: _) _ _); refine wpList_store_all rfl rfl 49 _ _ rfl w.heap.size _ (#[.int .i64 ki5, .int .i64 li5, .int .i64 id5, .string ⟨nm5.toArray⟩, .string ⟨ty5.toArray⟩, .int .i64 le5, .int .i64 va5, .slice (some ⟨w1.heap.size, 0, none⟩) 1 1, .string ⟨fn5.toArray⟩, .int .i64 ca5, .slice B5 ar5.length d5, .slice C5 bo5.length f5, .slice D5 el5.length g5]) rfl rfl Z7.out rfl (by kernel_rfl) (by simp [Value.oneCell']) ?_; intro U hU))
      have hp := fun (b : Nat) (hb : w4.heap.size ≤ b) => (show w.heap.size ≤ b ∧ b ≠ w.heap.size from by omega)
      (try simp only [Exit.inBlock, Exit.then])
      have hld := ret_all (P := Tryd.prog) 49 w.heap.size _ _ hU.at_ Tryd.underlying49 rfl (by kernel_rfl)
      refine bodyPost_ret (v := .agg #[.int .i64 ki5, .int .i64 li5, .int .i64 id5, .string ⟨nm5.toArray⟩, .string ⟨ty5.toArray⟩, .int .i64 le5, .int .i64 va5, .slice (some ⟨w1.heap.size, 0, none⟩) 1 1, .string ⟨fn5.toArray⟩, .int .i64 ca5, .slice B5 ar5.length d5, .slice C5 bo5.length f5, .slice D5 el5.length g5]) (by simp [results, Tryd.results82, Act.put, asAddr, hld]) rfl ?_
      exact out_ok HR5.out.symm (sm_aimed ((S7.out.turn (q := fun b => w.heap.size ≤ b) (fun b _ (hb : w4.heap.size ≤ b) => ⟨by omega, hU.block b (by omega)⟩))) ((Y7.out.turn (q := fun b => w.heap.size ≤ b) (fun b _ (hb : (w0.heap.size ≤ b) ∧ b ≠ w3.heap.size) => ⟨by omega, hU.block b (by omega)⟩)))) (H7.out.setC H.out (Nat.le_refl _) hU) (K7.out.setC (Nat.le_refl _) hU)
    · have hr := HR3.out
      rw [if_neg hca] at hr
      have HR4 := Lib.hid hr
      clear hr HR3
      have hcf : atCall ts3 = false := by simpa using hca
      have hq : atCall ts3 = false := by simpa using hcf
      refine (atCall_any H4.out).mono ?_
      rintro e w' ⟨rfl, hw'⟩
      have hw2 := hw'.symm
      clear hw'
      subst hw2
      go_wp2_with fail
      clear hq hcf hca
      refine (value_any n 2 _ H4.out (Lib.hid rfl) (Res.live HR4.out hne)).mono ?_
      intro e w5 ho
      rcases ho.go with ⟨l, k, hR, rfl, k5⟩ | ⟨x5, ts5, v5, hR, rfl, hv, h5, k5⟩
      · exact ⟨rfl, out_err (Res.fails HR4.out hR) (K4.out.trans k5)⟩
      have HR5 := Lib.hid (Res.behind HR4.out hR)
      have H5 := Lib.hid h5
      have K5 := Lib.hid (K4.out.trans k5)
      have hs5 := K5.out.size
      have hm5 := k5.size
      have Z5 := Lib.hid (k5.held (by omega) Z4.out)
      have E5 := Lib.hid (k5.held (by omega) E4.out)
      have Y5 := Lib.hid (Y4.out.turn (k5.stays_of (fun b (hb : (w0.heap.size ≤ b) ∧ b ≠ w3.heap.size) => by omega)))
      clear h5 k5
      have HX5 := Lib.hid hR
      clear hR
      obtain ⟨ki5, li5, id5, nm5, ty5, le5, va5, tg5, fn5, ca5, ar5, bo5, el5⟩ := x5
      obtain ⟨A5, c5, B5, d5, C5, f5, D5, g5, rfl, ha⟩ := SmIs.parts hv
      have S5 : Hid (SmIs w5 (fun b => w4.heap.size ≤ b) (.agg #[.int .i64 ki5, .int .i64 li5, .int .i64 id5, .string ⟨nm5.toArray⟩, .string ⟨ty5.toArray⟩, .int .i64 le5, .int .i64 va5, .slice A5 tg5.length c5, .string ⟨fn5.toArray⟩, .int .i64 ca5, .slice B5 ar5.length d5, .slice C5 bo5.length f5, .slice D5 el5.length g5]) (.mk ki5 li5 id5 nm5 ty5 le5 va5 tg5 fn5 ca5 ar5 bo5 el5)) := Lib.hid hv
      clear ha hv
      go_wp2_with (first | ((with_reducible show wpList _ _ _ (Oper.mk none (Op.store 49 _ _) _ _ _ none :: _) _ _); refine wpList_store_all rfl rfl 49 _ _ rfl w3.heap.size _ (#[.int .i64 ki5, .int .i64 li5, .int .i64 id5, .string ⟨nm5.toArray⟩, .string ⟨ty5.toArray⟩, .int .i64 le5, .int .i64 va5, .slice A5 tg5.length c5, .string ⟨fn5.toArray⟩, .int .i64 ca5, .slice B5 ar5.length d5, .slice C5 bo5.length f5, .slice D5 el5.length g5]) rfl rfl E5.out rfl (by kernel_rfl) (by simp [Value.oneCell']) ?_; intro w6 hU; have H6 := Lib.hid (H5.out.setC H.out (by omega) hU); have K6 := Lib.hid (K5.out.setC (by omega) hU); have hs6 := K6.out.size; have hm6 := Nat.le_of_eq hU.size.symm; have Z6 := Lib.hid (hU.held (by omega) Z5.out); have E6 := Lib.hid (show w6.heap[w3.heap.size]? = some (.cells #[.int .i64 ki5, .int .i64 li5, .int .i64 id5, .string ⟨nm5.toArray⟩, .string ⟨ty5.toArray⟩, .int .i64 le5, .int .i64 va5, .slice A5 tg5.length c5, .string ⟨fn5.toArray⟩, .int .i64 ca5, .slice B5 ar5.length d5, .slice C5 bo5.length f5, .slice D5 el5.length g5] 49 (0, 0)) from hU.at_); have Y6 := Lib.hid (Y5.out.turn (hU.stays_of (fun b (hb : (w0.heap.size ≤ b) ∧ b ≠ w3.heap.size) => by omega))); have S6 := Lib.hid (S5.out.turn (hU.stays_of (fun b (hb : w4.heap.size ≤ b) => by omega))); clear hU) | ((with_reducible show wpList _ _ _ (Oper.mk none (Op.store 47 _ _) _ _ _ none :: _) _ _); refine wpList_store_cell rfl rfl 47 _ _ rfl w3.heap.size 7 _ (.slice (some ⟨w1.heap.size, 0, none⟩) 1 1) rfl rfl E6.out (by simp) (by kernel_rfl) rfl ?_; intro w7 hU; have H7 := Lib.hid (H6.out.setC H.out (by omega) hU); have K7 := Lib.hid (K6.out.setC (by omega) hU); have hs7 := K7.out.size; have hm7 := Nat.le_of_eq hU.size.symm; have Z7 := Lib.hid (hU.held (by omega) Z6.out); have E7 := Lib.hid (show w7.heap[w3.heap.size]? = some (.cells #[.int .i64 ki5, .int .i64 li5, .int .i64 id5, .string ⟨nm5.toArray⟩, .string ⟨ty5.toArray⟩, .int .i64 le5, .int .i64 va5, .slice (some ⟨w1.heap.size, 0, none⟩) 1 1, .string ⟨fn5.toArray⟩, .int .i64 ca5, .slice B5 ar5.length d5, .slice C5 bo5.length f5, .slice D5 el5.length g5] 49 (0, 0)) from hU.at_); have Y7 := Lib.hid (Y6.out.turn (hU.stays_of (fun b (hb : (w0.heap.size ≤ b) ∧ b ≠ w3.heap.size) => by omega))); have S7 := Lib.hid (S6.out.turn (hU.stays_of (fun b (hb : w4.heap.size ≤ b) => by omega))); clear hU) | ((with_reducible show wpList _ _ _ (Oper.mk _ (Op.load 49 _) _ _ _ none :: _) _ _); refine wpList_load_all rfl 49 _ rfl w3.heap.size _ _ rfl E7.out Tryd.underlying49 rfl (by kernel_rfl) ?_) | ((with_reducible show wpList _ _ _ (Oper.mk none (Op.store 49 _ _) _ _ _ none :: _) _ _); refine wpList_store_all rfl rfl 49 _ _ rfl w.heap.size _ (#[.int .i64 ki5, .int .i64 li5, .int .i64 id5, .string ⟨nm5.toArray⟩, .string ⟨ty5.toArray⟩, .int .i64 le5, .int .i64 va5, .slice (some ⟨w1.heap.size, 0, none⟩) 1 1, .string ⟨fn5.toArray⟩, .int .i64 ca5, .slice B5 ar5.length d5, .slice C5 bo5.length f5, .slice D5 el5.length g5]) rfl rfl Z7.out rfl (by kernel_rfl) (by simp [Value.oneCell']) ?_; intro U hU))
      have hp := fun (b : Nat) (hb : w4.heap.size ≤ b) => (show w.heap.size ≤ b ∧ b ≠ w.heap.size from by omega)
      (try simp only [Exit.inBlock, Exit.then])
      have hld := ret_all (P := Tryd.prog) 49 w.heap.size _ _ hU.at_ Tryd.underlying49 rfl (by kernel_rfl)
      refine bodyPost_ret (v := .agg #[.int .i64 ki5, .int .i64 li5, .int .i64 id5, .string ⟨nm5.toArray⟩, .string ⟨ty5.toArray⟩, .int .i64 le5, .int .i64 va5, .slice (some ⟨w1.heap.size, 0, none⟩) 1 1, .string ⟨fn5.toArray⟩, .int .i64 ca5, .slice B5 ar5.length d5, .slice C5 bo5.length f5, .slice D5 el5.length g5]) (by simp [results, Tryd.results82, Act.put, asAddr, hld]) rfl ?_
      exact out_ok HR5.out.symm (sm_aimed ((S7.out.turn (q := fun b => w.heap.size ≤ b) (fun b _ (hb : w4.heap.size ≤ b) => ⟨by omega, hU.block b (by omega)⟩))) ((Y7.out.turn (q := fun b => w.heap.size ≤ b) (fun b _ (hb : (w0.heap.size ≤ b) ∧ b ≠ w3.heap.size) => ⟨by omega, hU.block b (by omega)⟩)))) (H7.out.setC H.out (Nat.le_refl _) hU) (K7.out.setC (Nat.le_refl _) hU)

set_option maxHeartbeats 3200000 in
set_option maxRecDepth 100000 in
theorem return_any {m : Pm} {w : World} {nest : Nat} {ts : List Tok} (n : Nat) (R : Res Sm) (h : PsAt m w nest ts) (hR : Hid (returnP n ts = R)) (hne : R ≠ .out) :
    Calls Tryd.prog 33 #[.pointer (some ⟨m.P, 0, none⟩)] w (Out m w nest (SmV w.heap.size) R) := by
  have hR2 := hR.out
  unfold returnP at hR2
  have HR0 := Lib.hid hR2
  clear hR hR2
  have hP := h.lt
  have H := Lib.hid h
  have h0 := h.alloc (.cells #[.int .i64 0, .int .i64 0, .int .i64 0, .string ⟨#[]⟩, .string ⟨#[]⟩, .int .i64 0, .int .i64 0, .slice none 0 0, .string ⟨#[]⟩, .int .i64 0, .slice none 0 0, .slice none 0 0, .slice none 0 0] 49)
  have q0 := (Keeps.refl m.P w).alloc (.cells #[.int .i64 0, .int .i64 0, .int .i64 0, .string ⟨#[]⟩, .string ⟨#[]⟩, .int .i64 0, .int .i64 0, .slice none 0 0, .string ⟨#[]⟩, .int .i64 0, .slice none 0 0, .slice none 0 0, .slice none 0 0] 49)
  have cZ0 := heap_alloc_new w (.cells #[.int .i64 0, .int .i64 0, .int .i64 0, .string ⟨#[]⟩, .string ⟨#[]⟩, .int .i64 0, .int .i64 0, .slice none 0 0, .string ⟨#[]⟩, .int .i64 0, .slice none 0 0, .slice none 0 0, .slice none 0 0] 49)
  have hz0 : (w.alloc (.cells #[.int .i64 0, .int .i64 0, .int .i64 0, .string ⟨#[]⟩, .string ⟨#[]⟩, .int .i64 0, .int .i64 0, .slice none 0 0, .string ⟨#[]⟩, .int .i64 0, .slice none 0 0, .slice none 0 0, .slice none 0 0] 49)).heap.size = w.heap.size + 1 := World.size_alloc _ _
  obtain ⟨w0, HW0⟩ : ∃ U, Hid (w.alloc (.cells #[.int .i64 0, .int .i64 0, .int .i64 0, .string ⟨#[]⟩, .string ⟨#[]⟩, .int .i64 0, .int .i64 0, .slice none 0 0, .string ⟨#[]⟩, .int .i64 0, .slice none 0 0, .slice none 0 0, .slice none 0 0] 49) = U) := ⟨_, Lib.hid rfl⟩
  rw [HW0.out] at h0 q0 cZ0 hz0
  have H0 := Lib.hid h0
  have K0 := Lib.hid q0
  have Z0 := Lib.hid cZ0
  clear h h0 q0 cZ0
  go_enter Tryd.func33, Tryd.ntmps33
  go_wp2_with fail
  rw [HW0.out]
  refine (expect_any H0.out [114, 101, 116, 117, 114, 110] (by simp)).mono ?_
  intro e w1 ho
  rcases ho.go with ⟨l, k, hR, rfl, k1⟩ | ⟨x1, ts1, v1, hR, rfl, hv, h1, k1⟩
  · exact ⟨rfl, out_err (Res.fails HR0.out hR) (K0.out.trans k1)⟩
  have HR1 := Lib.hid (Res.behind HR0.out hR)
  have H1 := Lib.hid h1
  have K1 := Lib.hid (K0.out.trans k1)
  have hs1 := K1.out.size
  have hm1 := k1.size
  have Z1 := Lib.hid (k1.held (by omega) Z0.out)
  clear h1 k1
  have HX1 := Lib.hid hR
  clear hv
  clear hR
  go_wp2_with fail
  by_cases hca : atCall ts1 = true
  · have hr := HR1.out
    rw [if_pos hca] at hr
    have HR2 := Lib.hid hr
    clear hr HR1
    have hq : atCall ts1 = true := by simpa using hca
    refine (atCall_any H1.out).mono ?_
    rintro e w' ⟨rfl, hw'⟩
    have hw2 := hw'.symm
    clear hw'
    subst hw2
    go_wp2_with fail
    refine (call_any n 6 _ H1.out (Lib.hid rfl) (by rw [HR2.out]; exact hne)).mono ?_
    intro e w2 ho
    rcases ho.go with ⟨l, k, hR, rfl, k2⟩ | ⟨x2, ts2, v2, hR, rfl, hv, h2, k2⟩
    · exact ⟨rfl, out_err (by rw [← HR2.out, hR]) (K1.out.trans k2)⟩
    have HR3 := Lib.hid (hR.symm.trans HR2.out)
    have H2 := Lib.hid h2
    have K2 := Lib.hid (K1.out.trans k2)
    have hs2 := K2.out.size
    have hm2 := k2.size
    have Z2 := Lib.hid (k2.held (by omega) Z1.out)
    clear h2 k2
    have HX2 := Lib.hid hR
    clear hR
    obtain ⟨ki2, li2, id2, nm2, ty2, le2, va2, tg2, fn2, ca2, ar2, bo2, el2⟩ := x2
    obtain ⟨A2, c2, B2, d2, C2, f2, D2, g2, rfl, ha⟩ := SmIs.parts hv
    have S2 : Hid (SmIs w2 (fun b => w1.heap.size ≤ b) (.agg #[.int .i64 ki2, .int .i64 li2, .int .i64 id2, .string ⟨nm2.toArray⟩, .string ⟨ty2.toArray⟩, .int .i64 le2, .int .i64 va2, .slice A2 tg2.length c2, .string ⟨fn2.toArray⟩, .int .i64 ca2, .slice B2 ar2.length d2, .slice C2 bo2.length f2, .slice D2 el2.length g2]) (.mk ki2 li2 id2 nm2 ty2 le2 va2 tg2 fn2 ca2 ar2 bo2 el2)) := Lib.hid hv
    clear ha hv
    go_wp2_with ((with_reducible show wpList _ _ _ (Oper.mk none (Op.store 49 _ _) _ _ _ none :: _) _ _); refine wpList_store_all rfl rfl 49 _ _ rfl w.heap.size _ (#[.int .i64 ki2, .int .i64 li2, .int .i64 id2, .string ⟨nm2.toArray⟩, .string ⟨ty2.toArray⟩, .int .i64 le2, .int .i64 va2, .slice A2 tg2.length c2, .string ⟨fn2.toArray⟩, .int .i64 ca2, .slice B2 ar2.length d2, .slice C2 bo2.length f2, .slice D2 el2.length g2]) rfl rfl Z2.out rfl (by kernel_rfl) (by simp [Value.oneCell']) ?_; intro U hU)
    (try simp only [Exit.inBlock, Exit.then])
    have hld := ret_all (P := Tryd.prog) 49 w.heap.size _ _ hU.at_ Tryd.underlying49 rfl (by kernel_rfl)
    refine bodyPost_ret (v := .agg #[.int .i64 ki2, .int .i64 li2, .int .i64 id2, .string ⟨nm2.toArray⟩, .string ⟨ty2.toArray⟩, .int .i64 le2, .int .i64 va2, .slice A2 tg2.length c2, .string ⟨fn2.toArray⟩, .int .i64 ca2, .slice B2 ar2.length d2, .slice C2 bo2.length f2, .slice D2 el2.length g2]) (by simp [results, Tryd.results33, asAddr, hld]) rfl ?_
    exact out_ok HR3.out.symm ((S2.out.turn (q := fun b => w.heap.size ≤ b) (fun b _ (hb : w1.heap.size ≤ b) => ⟨by omega, hU.block b (by omega)⟩))) (H2.out.setC H.out (Nat.le_refl _) hU) (K2.out.setC (Nat.le_refl _) hU)
  · have hr := HR1.out
    rw [if_neg hca] at hr
    have HR2 := Lib.hid hr
    clear hr HR1
    have hcf : atCall ts1 = false := by simpa using hca
    have hq : atCall ts1 = false := by simpa using hcf
    refine (atCall_any H1.out).mono ?_
    rintro e w' ⟨rfl, hw'⟩
    have hw2 := hw'.symm
    clear hw'
    subst hw2
    go_wp2_with fail
    refine (value_any n 6 _ H1.out (Lib.hid rfl) (by rw [HR2.out]; exact hne)).mono ?_
    intro e w2 ho
    rcases ho.go with ⟨l, k, hR, rfl, k2⟩ | ⟨x2, ts2, v2, hR, rfl, hv, h2, k2⟩
    · exact ⟨rfl, out_err (by rw [← HR2.out, hR]) (K1.out.trans k2)⟩
    have HR3 := Lib.hid (hR.symm.trans HR2.out)
    have H2 := Lib.hid h2
    have K2 := Lib.hid (K1.out.trans k2)
    have hs2 := K2.out.size
    have hm2 := k2.size
    have Z2 := Lib.hid (k2.held (by omega) Z1.out)
    clear h2 k2
    have HX2 := Lib.hid hR
    clear hR
    obtain ⟨ki2, li2, id2, nm2, ty2, le2, va2, tg2, fn2, ca2, ar2, bo2, el2⟩ := x2
    obtain ⟨A2, c2, B2, d2, C2, f2, D2, g2, rfl, ha⟩ := SmIs.parts hv
    have S2 : Hid (SmIs w2 (fun b => w1.heap.size ≤ b) (.agg #[.int .i64 ki2, .int .i64 li2, .int .i64 id2, .string ⟨nm2.toArray⟩, .string ⟨ty2.toArray⟩, .int .i64 le2, .int .i64 va2, .slice A2 tg2.length c2, .string ⟨fn2.toArray⟩, .int .i64 ca2, .slice B2 ar2.length d2, .slice C2 bo2.length f2, .slice D2 el2.length g2]) (.mk ki2 li2 id2 nm2 ty2 le2 va2 tg2 fn2 ca2 ar2 bo2 el2)) := Lib.hid hv
    clear ha hv
    go_wp2_with ((with_reducible show wpList _ _ _ (Oper.mk none (Op.store 49 _ _) _ _ _ none :: _) _ _); refine wpList_store_all rfl rfl 49 _ _ rfl w.heap.size _ (#[.int .i64 ki2, .int .i64 li2, .int .i64 id2, .string ⟨nm2.toArray⟩, .string ⟨ty2.toArray⟩, .int .i64 le2, .int .i64 va2, .slice A2 tg2.length c2, .string ⟨fn2.toArray⟩, .int .i64 ca2, .slice B2 ar2.length d2, .slice C2 bo2.length f2, .slice D2 el2.length g2]) rfl rfl Z2.out rfl (by kernel_rfl) (by simp [Value.oneCell']) ?_; intro U hU)
    (try simp only [Exit.inBlock, Exit.then])
    have hld := ret_all (P := Tryd.prog) 49 w.heap.size _ _ hU.at_ Tryd.underlying49 rfl (by kernel_rfl)
    refine bodyPost_ret (v := .agg #[.int .i64 ki2, .int .i64 li2, .int .i64 id2, .string ⟨nm2.toArray⟩, .string ⟨ty2.toArray⟩, .int .i64 le2, .int .i64 va2, .slice A2 tg2.length c2, .string ⟨fn2.toArray⟩, .int .i64 ca2, .slice B2 ar2.length d2, .slice C2 bo2.length f2, .slice D2 el2.length g2]) (by simp [results, Tryd.results33, asAddr, hld]) rfl ?_
    exact out_ok HR3.out.symm ((S2.out.turn (q := fun b => w.heap.size ≤ b) (fun b _ (hb : w1.heap.size ≤ b) => ⟨by omega, hU.block b (by omega)⟩))) (H2.out.setC H.out (Nat.le_refl _) hU) (K2.out.setC (Nat.le_refl _) hU)

set_option maxHeartbeats 3200000 in
set_option maxRecDepth 100000 in
theorem throw_any {m : Pm} {w : World} {nest : Nat} {ts : List Tok} (n : Nat) (R : Res Sm) (h : PsAt m w nest ts) (hR : Hid (throwP n ts = R)) (hne : R ≠ .out) :
    Calls Tryd.prog 34 #[.pointer (some ⟨m.P, 0, none⟩)] w (Out m w nest (SmV w.heap.size) R) := by
  have hR2 := hR.out
  unfold throwP at hR2
  have HR0 := Lib.hid hR2
  clear hR hR2
  have hP := h.lt
  have H := Lib.hid h
  have h0 := h.alloc (.cells #[.int .i64 0, .int .i64 0, .int .i64 0, .string ⟨#[]⟩, .string ⟨#[]⟩, .int .i64 0, .int .i64 0, .slice none 0 0, .string ⟨#[]⟩, .int .i64 0, .slice none 0 0, .slice none 0 0, .slice none 0 0] 49)
  have q0 := (Keeps.refl m.P w).alloc (.cells #[.int .i64 0, .int .i64 0, .int .i64 0, .string ⟨#[]⟩, .string ⟨#[]⟩, .int .i64 0, .int .i64 0, .slice none 0 0, .string ⟨#[]⟩, .int .i64 0, .slice none 0 0, .slice none 0 0, .slice none 0 0] 49)
  have cZ0 := heap_alloc_new w (.cells #[.int .i64 0, .int .i64 0, .int .i64 0, .string ⟨#[]⟩, .string ⟨#[]⟩, .int .i64 0, .int .i64 0, .slice none 0 0, .string ⟨#[]⟩, .int .i64 0, .slice none 0 0, .slice none 0 0, .slice none 0 0] 49)
  have hz0 : (w.alloc (.cells #[.int .i64 0, .int .i64 0, .int .i64 0, .string ⟨#[]⟩, .string ⟨#[]⟩, .int .i64 0, .int .i64 0, .slice none 0 0, .string ⟨#[]⟩, .int .i64 0, .slice none 0 0, .slice none 0 0, .slice none 0 0] 49)).heap.size = w.heap.size + 1 := World.size_alloc _ _
  obtain ⟨w0, HW0⟩ : ∃ U, Hid (w.alloc (.cells #[.int .i64 0, .int .i64 0, .int .i64 0, .string ⟨#[]⟩, .string ⟨#[]⟩, .int .i64 0, .int .i64 0, .slice none 0 0, .string ⟨#[]⟩, .int .i64 0, .slice none 0 0, .slice none 0 0, .slice none 0 0] 49) = U) := ⟨_, Lib.hid rfl⟩
  rw [HW0.out] at h0 q0 cZ0 hz0
  have H0 := Lib.hid h0
  have K0 := Lib.hid q0
  have Z0 := Lib.hid cZ0
  clear h h0 q0 cZ0
  go_enter Tryd.func34, Tryd.ntmps34
  go_wp2_with fail
  rw [HW0.out]
  refine (expect_any H0.out [116, 104, 114, 111, 119] (by simp)).mono ?_
  intro e w1 ho
  rcases ho.go with ⟨l, k, hR, rfl, k1⟩ | ⟨x1, ts1, v1, hR, rfl, hv, h1, k1⟩
  · exact ⟨rfl, out_err (Res.fails HR0.out hR) (K0.out.trans k1)⟩
  have HR1 := Lib.hid (Res.behind HR0.out hR)
  have H1 := Lib.hid h1
  have K1 := Lib.hid (K0.out.trans k1)
  have hs1 := K1.out.size
  have hm1 := k1.size
  have Z1 := Lib.hid (k1.held (by omega) Z0.out)
  clear h1 k1
  have HX1 := Lib.hid hR
  clear hv
  clear hR
  go_wp2_with fail
  refine (value_any n 7 _ H1.out (Lib.hid rfl) (by rw [HR1.out]; exact hne)).mono ?_
  intro e w2 ho
  rcases ho.go with ⟨l, k, hR, rfl, k2⟩ | ⟨x2, ts2, v2, hR, rfl, hv, h2, k2⟩
  · exact ⟨rfl, out_err (by rw [← HR1.out, hR]) (K1.out.trans k2)⟩
  have HR2 := Lib.hid (hR.symm.trans HR1.out)
  have H2 := Lib.hid h2
  have K2 := Lib.hid (K1.out.trans k2)
  have hs2 := K2.out.size
  have hm2 := k2.size
  have Z2 := Lib.hid (k2.held (by omega) Z1.out)
  clear h2 k2
  have HX2 := Lib.hid hR
  clear hR
  obtain ⟨ki2, li2, id2, nm2, ty2, le2, va2, tg2, fn2, ca2, ar2, bo2, el2⟩ := x2
  obtain ⟨A2, c2, B2, d2, C2, f2, D2, g2, rfl, ha⟩ := SmIs.parts hv
  have S2 : Hid (SmIs w2 (fun b => w1.heap.size ≤ b) (.agg #[.int .i64 ki2, .int .i64 li2, .int .i64 id2, .string ⟨nm2.toArray⟩, .string ⟨ty2.toArray⟩, .int .i64 le2, .int .i64 va2, .slice A2 tg2.length c2, .string ⟨fn2.toArray⟩, .int .i64 ca2, .slice B2 ar2.length d2, .slice C2 bo2.length f2, .slice D2 el2.length g2]) (.mk ki2 li2 id2 nm2 ty2 le2 va2 tg2 fn2 ca2 ar2 bo2 el2)) := Lib.hid hv
  clear ha hv
  go_wp2_with ((with_reducible show wpList _ _ _ (Oper.mk none (Op.store 49 _ _) _ _ _ none :: _) _ _); refine wpList_store_all rfl rfl 49 _ _ rfl w.heap.size _ (#[.int .i64 ki2, .int .i64 li2, .int .i64 id2, .string ⟨nm2.toArray⟩, .string ⟨ty2.toArray⟩, .int .i64 le2, .int .i64 va2, .slice A2 tg2.length c2, .string ⟨fn2.toArray⟩, .int .i64 ca2, .slice B2 ar2.length d2, .slice C2 bo2.length f2, .slice D2 el2.length g2]) rfl rfl Z2.out rfl (by kernel_rfl) (by simp [Value.oneCell']) ?_; intro U hU)
  (try simp only [Exit.inBlock, Exit.then])
  have hld := ret_all (P := Tryd.prog) 49 w.heap.size _ _ hU.at_ Tryd.underlying49 rfl (by kernel_rfl)
  refine bodyPost_ret (v := .agg #[.int .i64 ki2, .int .i64 li2, .int .i64 id2, .string ⟨nm2.toArray⟩, .string ⟨ty2.toArray⟩, .int .i64 le2, .int .i64 va2, .slice A2 tg2.length c2, .string ⟨fn2.toArray⟩, .int .i64 ca2, .slice B2 ar2.length d2, .slice C2 bo2.length f2, .slice D2 el2.length g2]) (by simp [results, Tryd.results34, asAddr, hld]) rfl ?_
  exact out_ok HR2.out.symm ((S2.out.turn (q := fun b => w.heap.size ≤ b) (fun b _ (hb : w1.heap.size ≤ b) => ⟨by omega, hU.block b (by omega)⟩))) (H2.out.setC H.out (Nat.le_refl _) hU) (K2.out.setC (Nat.le_refl _) hU)

set_option maxHeartbeats 3200000 in
set_option maxRecDepth 100000 in
theorem print_any {m : Pm} {w : World} {nest : Nat} {ts : List Tok} (n : Nat) (R : Res Sm) (h : PsAt m w nest ts) (hR : Hid (printP n ts = R)) (hne : R ≠ .out) :
    Calls Tryd.prog 36 #[.pointer (some ⟨m.P, 0, none⟩)] w (Out m w nest (SmV w.heap.size) R) := by
  have hR2 := hR.out
  unfold printP at hR2
  have HR0 := Lib.hid hR2
  clear hR hR2
  have hP := h.lt
  have H := Lib.hid h
  have h0 := h.alloc (.cells #[.int .i64 0, .int .i64 0, .int .i64 0, .string ⟨#[]⟩, .string ⟨#[]⟩, .int .i64 0, .int .i64 0, .slice none 0 0, .string ⟨#[]⟩, .int .i64 0, .slice none 0 0, .slice none 0 0, .slice none 0 0] 49)
  have q0 := (Keeps.refl m.P w).alloc (.cells #[.int .i64 0, .int .i64 0, .int .i64 0, .string ⟨#[]⟩, .string ⟨#[]⟩, .int .i64 0, .int .i64 0, .slice none 0 0, .string ⟨#[]⟩, .int .i64 0, .slice none 0 0, .slice none 0 0, .slice none 0 0] 49)
  have cZ0 := heap_alloc_new w (.cells #[.int .i64 0, .int .i64 0, .int .i64 0, .string ⟨#[]⟩, .string ⟨#[]⟩, .int .i64 0, .int .i64 0, .slice none 0 0, .string ⟨#[]⟩, .int .i64 0, .slice none 0 0, .slice none 0 0, .slice none 0 0] 49)
  have hz0 : (w.alloc (.cells #[.int .i64 0, .int .i64 0, .int .i64 0, .string ⟨#[]⟩, .string ⟨#[]⟩, .int .i64 0, .int .i64 0, .slice none 0 0, .string ⟨#[]⟩, .int .i64 0, .slice none 0 0, .slice none 0 0, .slice none 0 0] 49)).heap.size = w.heap.size + 1 := World.size_alloc _ _
  obtain ⟨w0, HW0⟩ : ∃ U, Hid (w.alloc (.cells #[.int .i64 0, .int .i64 0, .int .i64 0, .string ⟨#[]⟩, .string ⟨#[]⟩, .int .i64 0, .int .i64 0, .slice none 0 0, .string ⟨#[]⟩, .int .i64 0, .slice none 0 0, .slice none 0 0, .slice none 0 0] 49) = U) := ⟨_, Lib.hid rfl⟩
  rw [HW0.out] at h0 q0 cZ0 hz0
  have H0 := Lib.hid h0
  have K0 := Lib.hid q0
  have Z0 := Lib.hid cZ0
  clear h h0 q0 cZ0
  go_enter Tryd.func36, Tryd.ntmps36
  go_wp2_with fail
  rw [HW0.out]
  refine (expect_any H0.out [112, 114, 105, 110, 116] (by simp)).mono ?_
  intro e w1 ho
  rcases ho.go with ⟨l, k, hR, rfl, k1⟩ | ⟨x1, ts1, v1, hR, rfl, hv, h1, k1⟩
  · exact ⟨rfl, out_err (Res.fails HR0.out hR) (K0.out.trans k1)⟩
  have HR1 := Lib.hid (Res.behind HR0.out hR)
  have H1 := Lib.hid h1
  have K1 := Lib.hid (K0.out.trans k1)
  have hs1 := K1.out.size
  have hm1 := k1.size
  have Z1 := Lib.hid (k1.held (by omega) Z0.out)
  clear h1 k1
  have HX1 := Lib.hid hR
  clear hv
  clear hR
  go_wp2_with fail
  refine (value_any n 9 _ H1.out (Lib.hid rfl) (by rw [HR1.out]; exact hne)).mono ?_
  intro e w2 ho
  rcases ho.go with ⟨l, k, hR, rfl, k2⟩ | ⟨x2, ts2, v2, hR, rfl, hv, h2, k2⟩
  · exact ⟨rfl, out_err (by rw [← HR1.out, hR]) (K1.out.trans k2)⟩
  have HR2 := Lib.hid (hR.symm.trans HR1.out)
  have H2 := Lib.hid h2
  have K2 := Lib.hid (K1.out.trans k2)
  have hs2 := K2.out.size
  have hm2 := k2.size
  have Z2 := Lib.hid (k2.held (by omega) Z1.out)
  clear h2 k2
  have HX2 := Lib.hid hR
  clear hR
  obtain ⟨ki2, li2, id2, nm2, ty2, le2, va2, tg2, fn2, ca2, ar2, bo2, el2⟩ := x2
  obtain ⟨A2, c2, B2, d2, C2, f2, D2, g2, rfl, ha⟩ := SmIs.parts hv
  have S2 : Hid (SmIs w2 (fun b => w1.heap.size ≤ b) (.agg #[.int .i64 ki2, .int .i64 li2, .int .i64 id2, .string ⟨nm2.toArray⟩, .string ⟨ty2.toArray⟩, .int .i64 le2, .int .i64 va2, .slice A2 tg2.length c2, .string ⟨fn2.toArray⟩, .int .i64 ca2, .slice B2 ar2.length d2, .slice C2 bo2.length f2, .slice D2 el2.length g2]) (.mk ki2 li2 id2 nm2 ty2 le2 va2 tg2 fn2 ca2 ar2 bo2 el2)) := Lib.hid hv
  clear ha hv
  go_wp2_with ((with_reducible show wpList _ _ _ (Oper.mk none (Op.store 49 _ _) _ _ _ none :: _) _ _); refine wpList_store_all rfl rfl 49 _ _ rfl w.heap.size _ (#[.int .i64 ki2, .int .i64 li2, .int .i64 id2, .string ⟨nm2.toArray⟩, .string ⟨ty2.toArray⟩, .int .i64 le2, .int .i64 va2, .slice A2 tg2.length c2, .string ⟨fn2.toArray⟩, .int .i64 ca2, .slice B2 ar2.length d2, .slice C2 bo2.length f2, .slice D2 el2.length g2]) rfl rfl Z2.out rfl (by kernel_rfl) (by simp [Value.oneCell']) ?_; intro U hU)
  (try simp only [Exit.inBlock, Exit.then])
  have hld := ret_all (P := Tryd.prog) 49 w.heap.size _ _ hU.at_ Tryd.underlying49 rfl (by kernel_rfl)
  refine bodyPost_ret (v := .agg #[.int .i64 ki2, .int .i64 li2, .int .i64 id2, .string ⟨nm2.toArray⟩, .string ⟨ty2.toArray⟩, .int .i64 le2, .int .i64 va2, .slice A2 tg2.length c2, .string ⟨fn2.toArray⟩, .int .i64 ca2, .slice B2 ar2.length d2, .slice C2 bo2.length f2, .slice D2 el2.length g2]) (by simp [results, Tryd.results36, asAddr, hld]) rfl ?_
  exact out_ok HR2.out.symm ((S2.out.turn (q := fun b => w.heap.size ≤ b) (fun b _ (hb : w1.heap.size ≤ b) => ⟨by omega, hU.block b (by omega)⟩))) (H2.out.setC H.out (Nat.le_refl _) hU) (K2.out.setC (Nat.le_refl _) hU)
end Go.Proofs.YtpfefjfpnmchcaaDoor
namespace Go.Proofs.YtpfefjfpnmchcaaDoor
open Go.RowKit

/-- What block hands back: a row of statements in memory of its own, and a line. -/
def BlockV (N : Nat) (w' : World) (v : Value) (x : List Sm × Nat) : Prop := ∃ A c, v = .tuple #[.slice A x.1.length c, .int .i64 x.2] ∧ OwnIs SmIs w' N 49 13 A c x.1
/-- block reads what b says, in so many blocks. -/
def BlkAt (b : Blk) (nest : Nat) : Prop := ∀ {m : Pm} {w : World} {ts : List Tok} (R : Res (List Sm × Nat)), PsAt m w nest ts → Hid (b ts = R) → R ≠ .out →
  Calls Tryd.prog 55 #[.pointer (some ⟨m.P, 0, none⟩)] w (Out m w nest (BlockV w.heap.size) R)

set_option maxHeartbeats 3200000 in
set_option maxRecDepth 100000 in
theorem if_any {m : Pm} {w : World} {nest : Nat} {ts : List Tok} (n : Nat) (b : Blk) (hb : BlkAt b nest) (R : Res Sm) (h : PsAt m w nest ts) (hR : Hid (ifP n b ts = R)) (hne : R ≠ .out) :
    Calls Tryd.prog 31 #[.pointer (some ⟨m.P, 0, none⟩)] w (Out m w nest (SmV w.heap.size) R) := by
  have hR2 := hR.out
  unfold ifP at hR2
  have HR0 := Lib.hid hR2
  clear hR hR2
  have hP := h.lt
  have H := Lib.hid h
  have h0 := h.alloc (.cells #[.int .i64 0, .int .i64 0, .int .i64 0, .string ⟨#[]⟩, .string ⟨#[]⟩, .int .i64 0, .int .i64 0, .slice none 0 0, .string ⟨#[]⟩, .int .i64 0, .slice none 0 0, .slice none 0 0, .slice none 0 0] 49)
  have q0 := (Keeps.refl m.P w).alloc (.cells #[.int .i64 0, .int .i64 0, .int .i64 0, .string ⟨#[]⟩, .string ⟨#[]⟩, .int .i64 0, .int .i64 0, .slice none 0 0, .string ⟨#[]⟩, .int .i64 0, .slice none 0 0, .slice none 0 0, .slice none 0 0] 49)
  have cZ0 := heap_alloc_new w (.cells #[.int .i64 0, .int .i64 0, .int .i64 0, .string ⟨#[]⟩, .string ⟨#[]⟩, .int .i64 0, .int .i64 0, .slice none 0 0, .string ⟨#[]⟩, .int .i64 0, .slice none 0 0, .slice none 0 0, .slice none 0 0] 49)
  have hz0 : (w.alloc (.cells #[.int .i64 0, .int .i64 0, .int .i64 0, .string ⟨#[]⟩, .string ⟨#[]⟩, .int .i64 0, .int .i64 0, .slice none 0 0, .string ⟨#[]⟩, .int .i64 0, .slice none 0 0, .slice none 0 0, .slice none 0 0] 49)).heap.size = w.heap.size + 1 := World.size_alloc _ _
  obtain ⟨w0, HW0⟩ : ∃ U, Hid (w.alloc (.cells #[.int .i64 0, .int .i64 0, .int .i64 0, .string ⟨#[]⟩, .string ⟨#[]⟩, .int .i64 0, .int .i64 0, .slice none 0 0, .string ⟨#[]⟩, .int .i64 0, .slice none 0 0, .slice none 0 0, .slice none 0 0] 49) = U) := ⟨_, Lib.hid rfl⟩
  rw [HW0.out] at h0 q0 cZ0 hz0
  have H0 := Lib.hid h0
  have K0 := Lib.hid q0
  have Z0 := Lib.hid cZ0
  clear h h0 q0 cZ0
  go_enter Tryd.func31, Tryd.ntmps31
  go_wp2_with fail
  rw [HW0.out]
  refine (expect_any H0.out [105, 102] (by simp)).mono ?_
  intro e w1 ho
  rcases ho.go with ⟨l, k, hR, rfl, k1⟩ | ⟨x1, ts1, v1, hR, rfl, hv, h1, k1⟩
  · exact ⟨rfl, out_err (Res.fails HR0.out hR) (K0.out.trans k1)⟩
  have HR1 := Lib.hid (Res.behind HR0.out hR)
  have H1 := Lib.hid h1
  have K1 := Lib.hid (K0.out.trans k1)
  have hs1 := K1.out.size
  have hm1 := k1.size
  have Z1 := Lib.hid (k1.held (by omega) Z0.out)
  clear h1 k1
  have HX1 := Lib.hid hR
  clear hv
  clear hR
  go_wp2_with fail
  refine (expr0 (n := n) _ H1.out (Lib.hid rfl) (Res.live HR1.out hne)).mono ?_
  intro e w2 ho
  rcases ho.go with ⟨l, k, hR, rfl, k2⟩ | ⟨x2, ts2, v2, hR, rfl, hv, h2, k2⟩
  · exact ⟨rfl, out_err (Res.fails HR1.out hR) (K1.out.trans k2)⟩
  have HR2 := Lib.hid (Res.behind HR1.out hR)
  have H2 := Lib.hid h2
  have K2 := Lib.hid (K1.out.trans k2)
  have hs2 := K2.out.size
  have hm2 := k2.size
  have Z2 := Lib.hid (k2.held (by omega) Z1.out)
  clear h2 k2
  have HX2 := Lib.hid hR
  clear hR
  obtain ⟨op2, num2, var2, nm2, fld2, args2⟩ := x2
  obtain ⟨A2, c2, rfl, ha⟩ := ExIs.parts hv
  have X2 : Hid (ExIs w2 (fun b => w1.heap.size ≤ b) (.agg #[.int .i64 op2, .int .i64 num2, .int .i64 var2, .string ⟨nm2.toArray⟩, .string ⟨fld2.toArray⟩, .slice A2 args2.length c2]) (.mk op2 num2 var2 nm2 fld2 args2)) := Lib.hid hv
  clear ha hv
  have h3 := H2.out.alloc (.cells #[.int .i64 op2, .int .i64 num2, .int .i64 var2, .string ⟨nm2.toArray⟩, .string ⟨fld2.toArray⟩, .slice A2 args2.length c2] 51)
  have q3 := K2.out.alloc (.cells #[.int .i64 op2, .int .i64 num2, .int .i64 var2, .string ⟨nm2.toArray⟩, .string ⟨fld2.toArray⟩, .slice A2 args2.length c2] 51)
  have cZ3 := held_alloc (.cells #[.int .i64 op2, .int .i64 num2, .int .i64 var2, .string ⟨nm2.toArray⟩, .string ⟨fld2.toArray⟩, .slice A2 args2.length c2] 51) Z2.out
  have cQ3 := heap_alloc_new w2 (.cells #[.int .i64 op2, .int .i64 num2, .int .i64 var2, .string ⟨nm2.toArray⟩, .string ⟨fld2.toArray⟩, .slice A2 args2.length c2] 51)
  have cX3 := X2.out.turn (stays_alloc (.cells #[.int .i64 op2, .int .i64 num2, .int .i64 var2, .string ⟨nm2.toArray⟩, .string ⟨fld2.toArray⟩, .slice A2 args2.length c2] 51))
  obtain ⟨w3, HW3⟩ : ∃ U, Hid (w2.alloc (.cells #[.int .i64 op2, .int .i64 num2, .int .i64 var2, .string ⟨nm2.toArray⟩, .string ⟨fld2.toArray⟩, .slice A2 args2.length c2] 51) = U) := ⟨_, Lib.hid rfl⟩
  rw [HW3.out] at h3 q3 cZ3 cQ3 cX3
  have H3 := Lib.hid h3
  have K3 := Lib.hid q3
  have Z3 := Lib.hid cZ3
  have Q3 := Lib.hid cQ3
  have X3 := Lib.hid cX3
  have hs3 := K3.out.size
  have hz3 : w3.heap.size = w2.heap.size + 1 := by have hq := congrArg (fun x => x.heap.size) HW3.out; simp only [World.size_alloc] at hq; exact hq.symm
  have hm3 : w2.heap.size < w3.heap.size := by omega
  clear h3 q3 cZ3 cQ3 cX3
  have Y3 : Hid (ExsIs w3 (fun b => w1.heap.size ≤ b) (some ⟨w2.heap.size, 0, none⟩) 1 [(.mk op2 num2 var2 nm2 fld2 args2)]) := Lib.hid (RowIs.one (vs := [.int .i64 op2, .int .i64 num2, .int .i64 var2, .string ⟨nm2.toArray⟩, .string ⟨fld2.toArray⟩, .slice A2 args2.length c2]) Q3.out (by omega) (Nat.le_refl _) (by decide) X3.out)
  go_wp2_with fail
  have h4 := H3.out.alloc (.cells #[.int .i64 4, .int .i64 0, .int .i64 0, .string ⟨#[]⟩, .string ⟨#[]⟩, .int .i64 0, .int .i64 0, .slice none 0 0, .string ⟨#[]⟩, .int .i64 0, .slice (some ⟨w2.heap.size, 0, none⟩) 1 1, .slice none 0 0, .slice none 0 0] 49)
  have q4 := K3.out.alloc (.cells #[.int .i64 4, .int .i64 0, .int .i64 0, .string ⟨#[]⟩, .string ⟨#[]⟩, .int .i64 0, .int .i64 0, .slice none 0 0, .string ⟨#[]⟩, .int .i64 0, .slice (some ⟨w2.heap.size, 0, none⟩) 1 1, .slice none 0 0, .slice none 0 0] 49)
  have cZ4 := held_alloc (.cells #[.int .i64 4, .int .i64 0, .int .i64 0, .string ⟨#[]⟩, .string ⟨#[]⟩, .int .i64 0, .int .i64 0, .slice none 0 0, .string ⟨#[]⟩, .int .i64 0, .slice (some ⟨w2.heap.size, 0, none⟩) 1 1, .slice none 0 0, .slice none 0 0] 49) Z3.out
  have cE4 := (show (w3.alloc (.cells #[.int .i64 4, .int .i64 0, .int .i64 0, .string ⟨#[]⟩, .string ⟨#[]⟩, .int .i64 0, .int .i64 0, .slice none 0 0, .string ⟨#[]⟩, .int .i64 0, .slice (some ⟨w2.heap.size, 0, none⟩) 1 1, .slice none 0 0, .slice none 0 0] 49)).heap[w2.heap.size + 1]? = some (.cells #[.int .i64 4, .int .i64 0, .int .i64 0, .string ⟨#[]⟩, .string ⟨#[]⟩, .int .i64 0, .int .i64 0, .slice none 0 0, .string ⟨#[]⟩, .int .i64 0, .slice (some ⟨w2.heap.size, 0, none⟩) 1 1, .slice none 0 0, .slice none 0 0] 49 (0, 0)) from by rw [← hz3]; exact heap_alloc_new _ _)
  have cY4 := Y3.out.turn (q := fun b => (w1.heap.size ≤ b) ∧ b ≠ w2.heap.size + 1) (fun b hb (hp : w1.heap.size ≤ b) => ⟨⟨hp, by omega⟩, heap_alloc_old _ (.cells #[.int .i64 4, .int .i64 0, .int .i64 0, .string ⟨#[]⟩, .string ⟨#[]⟩, .int .i64 0, .int .i64 0, .slice none 0 0, .string ⟨#[]⟩, .int .i64 0, .slice (some ⟨w2.heap.size, 0, none⟩) 1 1, .slice none 0 0, .slice none 0 0] 49) hb⟩)
  obtain ⟨w4, HW4⟩ : ∃ U, Hid (w3.alloc (.cells #[.int .i64 4, .int .i64 0, .int .i64 0, .string ⟨#[]⟩, .string ⟨#[]⟩, .int .i64 0, .int .i64 0, .slice none 0 0, .string ⟨#[]⟩, .int .i64 0, .slice (some ⟨w2.heap.size, 0, none⟩) 1 1, .slice none 0 0, .slice none 0 0] 49) = U) := ⟨_, Lib.hid rfl⟩
  rw [HW4.out] at h4 q4 cZ4 cE4 cY4
  have H4 := Lib.hid h4
  have K4 := Lib.hid q4
  have Z4 := Lib.hid cZ4
  have E4 := Lib.hid cE4
  have Y4 := Lib.hid cY4
  have hs4 := K4.out.size
  have hz4 : w4.heap.size = w3.heap.size + 1 := by have hq := congrArg (fun x => x.heap.size) HW4.out; simp only [World.size_alloc] at hq; exact hq.symm
  have hm4 : w3.heap.size < w4.heap.size := by omega
  clear h4 q4 cZ4 cE4 cY4
  rw [HW3.out, HW4.out]
  refine (hb _ H4.out (Lib.hid rfl) (Res.live HR2.out hne)).mono ?_
  intro e w5 ho
  rcases ho.go with ⟨l, k, hR, rfl, k5⟩ | ⟨x5, ts5, v5, hR, rfl, hv, h5, k5⟩
  · exact ⟨rfl, out_err (Res.fails HR2.out hR) (K4.out.trans k5)⟩
  have HR3 := Lib.hid (Res.behind HR2.out hR)
  have H5 := Lib.hid h5
  have K5 := Lib.hid (K4.out.trans k5)
  have hs5 := K5.out.size
  have hm5 := k5.size
  have Z5 := Lib.hid (k5.held (by omega) Z4.out)
  have E5 := Lib.hid (k5.held (by omega) E4.out)
  have Y5 := Lib.hid (Y4.out.turn (k5.stays_of (fun b (hb : (w1.heap.size ≤ b) ∧ b ≠ w2.heap.size + 1) => by omega)))
  clear h5 k5
  have HX5 := Lib.hid hR
  clear hR
  obtain ⟨l5, e5⟩ := x5
  obtain ⟨A5, c5, rfl, ha⟩ := hv
  have B5 : Hid (SmsIs w5 (fun b => w4.heap.size ≤ b) A5 c5 l5) := Lib.hid (ha.row turns_sm)
  clear ha
  go_wp2_with ((with_reducible show wpList _ _ _ (Oper.mk none (Op.store 44 _ _) _ _ _ none :: _) _ _); refine wpList_store_cell rfl rfl 44 _ _ rfl (w2.heap.size + 1) 11 _ (.slice A5 l5.length c5) rfl rfl E5.out (by simp) (by kernel_rfl) rfl ?_; intro w6 hU; have H6 := Lib.hid (H5.out.setC H.out (by omega) hU); have K6 := Lib.hid (K5.out.setC (by omega) hU); have hs6 := K6.out.size; have hm6 := Nat.le_of_eq hU.size.symm; have Z6 := Lib.hid (hU.held (by omega) Z5.out); have E6 := Lib.hid (show w6.heap[(w2.heap.size + 1)]? = some (.cells #[.int .i64 4, .int .i64 0, .int .i64 0, .string ⟨#[]⟩, .string ⟨#[]⟩, .int .i64 0, .int .i64 0, .slice none 0 0, .string ⟨#[]⟩, .int .i64 0, .slice (some ⟨w2.heap.size, 0, none⟩) 1 1, .slice A5 l5.length c5, .slice none 0 0] 49 (0, 0)) from hU.at_); have Y6 := Lib.hid (Y5.out.turn (hU.stays_of (fun b (hb : (w1.heap.size ≤ b) ∧ b ≠ w2.heap.size + 1) => by omega))); have B6 := Lib.hid (B5.out.turn (hU.stays_of (fun b (hb : w4.heap.size ≤ b) => by omega))); clear hU)
  by_cases hel : (hd ts5).text = [101, 108, 115, 101]
  · have hr := HR3.out
    rw [if_pos hel] at hr
    have HR4 := Lib.hid hr
    clear hr HR3
    have hq : ((hd ts5).text == [101, 108, 115, 101]) = true := by simpa using hel
    have HA := Lib.hid (accept_any H6.out [101, 108, 115, 101] (by simp))
    rw [if_pos hel] at HA
    refine HA.out.mono ?_
    rintro e w7 ⟨rfl, h7, k7⟩
    have H7 := Lib.hid h7
    have K7 := Lib.hid (K6.out.trans k7)
    have hs7 := K7.out.size
    have hm7 := k7.size
    have Z7 := Lib.hid (k7.held (by omega) Z6.out)
    have E7 := Lib.hid (k7.held (by omega) E6.out)
    have Y7 := Lib.hid (Y6.out.turn (k7.stays_of (fun b (hb : (w1.heap.size ≤ b) ∧ b ≠ w2.heap.size + 1) => by omega)))
    have B7 := Lib.hid (B6.out.turn (k7.stays_of (fun b (hb : w4.heap.size ≤ b) => by omega)))
    clear h7 k7
    clear HA
    go_wp2_with fail
    clear hq hel
    refine (hb _ H7.out (Lib.hid rfl) (Res.live HR4.out hne)).mono ?_
    intro e w8 ho
    rcases ho.go with ⟨l, k, hR, rfl, k8⟩ | ⟨x8, ts8, v8, hR, rfl, hv, h8, k8⟩
    · exact ⟨rfl, out_err (Res.fails HR4.out hR) (K7.out.trans k8)⟩
    have HR5 := Lib.hid (Res.behind HR4.out hR)
    have H8 := Lib.hid h8
    have K8 := Lib.hid (K7.out.trans k8)
    have hs8 := K8.out.size
    have hm8 := k8.size
    have Z8 := Lib.hid (k8.held (by omega) Z7.out)
    have E8 := Lib.hid (k8.held (by omega) E7.out)
    have Y8 := Lib.hid (Y7.out.turn (k8.stays_of (fun b (hb : (w1.heap.size ≤ b) ∧ b ≠ w2.heap.size + 1) => by omega)))
    have B8 := Lib.hid (B7.out.turn (k8.stays_of (fun b (hb : w4.heap.size ≤ b) => by omega)))
    clear h8 k8
    have HX8 := Lib.hid hR
    clear hR
    obtain ⟨l8, e8⟩ := x8
    obtain ⟨A8, c8, rfl, ha⟩ := hv
    have D8 : Hid (SmsIs w8 (fun b => w7.heap.size ≤ b) A8 c8 l8) := Lib.hid (ha.row turns_sm)
    clear ha
    go_wp2_with (first | ((with_reducible show wpList _ _ _ (Oper.mk none (Op.store 44 _ _) _ _ _ none :: _) _ _); refine wpList_store_cell rfl rfl 44 _ _ rfl (w2.heap.size + 1) 12 _ (.slice A8 l8.length c8) rfl rfl E8.out (by simp) (by kernel_rfl) rfl ?_; intro w9 hU; have H9 := Lib.hid (H8.out.setC H.out (by omega) hU); have K9 := Lib.hid (K8.out.setC (by omega) hU); have hs9 := K9.out.size; have hm9 := Nat.le_of_eq hU.size.symm; have Z9 := Lib.hid (hU.held (by omega) Z8.out); have E9 := Lib.hid (show w9.heap[(w2.heap.size + 1)]? = some (.cells #[.int .i64 4, .int .i64 0, .int .i64 0, .string ⟨#[]⟩, .string ⟨#[]⟩, .int .i64 0, .int .i64 0, .slice none 0 0, .string ⟨#[]⟩, .int .i64 0, .slice (some ⟨w2.heap.size, 0, none⟩) 1 1, .slice A5 l5.length c5, .slice A8 l8.length c8] 49 (0, 0)) from hU.at_); have Y9 := Lib.hid (Y8.out.turn (hU.stays_of (fun b (hb : (w1.heap.size ≤ b) ∧ b ≠ w2.heap.size + 1) => by omega))); have B9 := Lib.hid (B8.out.turn (hU.stays_of (fun b (hb : w4.heap.size ≤ b) => by omega))); have D9 := Lib.hid (D8.out.turn (hU.stays_of (fun b (hb : w7.heap.size ≤ b) => by omega))); clear hU) | ((with_reducible show wpList _ _ _ (Oper.mk _ (Op.load 49 _) _ _ _ none :: _) _ _); refine wpList_load_all rfl 49 _ rfl (w2.heap.size + 1) _ _ rfl E9.out Tryd.underlying49 rfl (by kernel_rfl) ?_) | ((with_reducible show wpList _ _ _ (Oper.mk none (Op.store 49 _ _) _ _ _ none :: _) _ _); refine wpList_store_all rfl rfl 49 _ _ rfl w.heap.size _ (#[.int .i64 4, .int .i64 0, .int .i64 0, .string ⟨#[]⟩, .string ⟨#[]⟩, .int .i64 0, .int .i64 0, .slice none 0 0, .string ⟨#[]⟩, .int .i64 0, .slice (some ⟨w2.heap.size, 0, none⟩) 1 1, .slice A5 l5.length c5, .slice A8 l8.length c8]) rfl rfl Z9.out rfl (by kernel_rfl) (by simp [Value.oneCell']) ?_; intro U hU))
    (try simp only [Exit.inBlock, Exit.then])
    have hld := ret_all (P := Tryd.prog) 49 w.heap.size _ _ hU.at_ Tryd.underlying49 rfl (by kernel_rfl)
    refine bodyPost_ret (v := .agg #[.int .i64 4, .int .i64 0, .int .i64 0, .string ⟨#[]⟩, .string ⟨#[]⟩, .int .i64 0, .int .i64 0, .slice none 0 0, .string ⟨#[]⟩, .int .i64 0, .slice (some ⟨w2.heap.size, 0, none⟩) 1 1, .slice A5 l5.length c5, .slice A8 l8.length c8]) (by simp [results, Tryd.results31, Act.put, asAddr, hld]) rfl ?_
    exact out_ok HR5.out.symm (SmIs.mk (A1 := none) (c1 := 0) (ExsIs.nil _ _ _ _ (Nat.zero_le _)) ((Y9.out.turn (q := fun b => w.heap.size ≤ b) (fun b _ (hb : (w1.heap.size ≤ b) ∧ b ≠ w2.heap.size + 1) => ⟨by omega, hU.block b (by omega)⟩))) ((B9.out.turn (q := fun b => w.heap.size ≤ b) (fun b _ (hb : w4.heap.size ≤ b) => ⟨by omega, hU.block b (by omega)⟩))) ((D9.out.turn (q := fun b => w.heap.size ≤ b) (fun b _ (hb : w7.heap.size ≤ b) => ⟨by omega, hU.block b (by omega)⟩)))) (H9.out.setC H.out (Nat.le_refl _) hU) (K9.out.setC (Nat.le_refl _) hU)
  · have hr := HR3.out
    rw [if_neg hel] at hr
    have HR4 := Lib.hid hr
    clear hr HR3
    have hq : ((hd ts5).text == [101, 108, 115, 101]) = false := by simpa using hel
    refine (accept_no H6.out [101, 108, 115, 101] hel).mono ?_
    rintro e w' ⟨rfl, hw'⟩
    have hw2 := hw'.symm
    clear hw'
    subst hw2
    go_wp2_with (first | ((with_reducible show wpList _ _ _ (Oper.mk _ (Op.load 49 _) _ _ _ none :: _) _ _); refine wpList_load_all rfl 49 _ rfl (w2.heap.size + 1) _ _ rfl E6.out Tryd.underlying49 rfl (by kernel_rfl) ?_) | ((with_reducible show wpList _ _ _ (Oper.mk none (Op.store 49 _ _) _ _ _ none :: _) _ _); refine wpList_store_all rfl rfl 49 _ _ rfl w.heap.size _ (#[.int .i64 4, .int .i64 0, .int .i64 0, .string ⟨#[]⟩, .string ⟨#[]⟩, .int .i64 0, .int .i64 0, .slice none 0 0, .string ⟨#[]⟩, .int .i64 0, .slice (some ⟨w2.heap.size, 0, none⟩) 1 1, .slice A5 l5.length c5, .slice none 0 0]) rfl rfl Z6.out rfl (by kernel_rfl) (by simp [Value.oneCell']) ?_; intro U hU))
    (try simp only [Exit.inBlock, Exit.then])
    have hld := ret_all (P := Tryd.prog) 49 w.heap.size _ _ hU.at_ Tryd.underlying49 rfl (by kernel_rfl)
    refine bodyPost_ret (v := .agg #[.int .i64 4, .int .i64 0, .int .i64 0, .string ⟨#[]⟩, .string ⟨#[]⟩, .int .i64 0, .int .i64 0, .slice none 0 0, .string ⟨#[]⟩, .int .i64 0, .slice (some ⟨w2.heap.size, 0, none⟩) 1 1, .slice A5 l5.length c5, .slice none 0 0]) (by simp [results, Tryd.results31, Act.put, asAddr, hld]) rfl ?_
    exact out_ok HR4.out.symm (SmIs.mk (A1 := none) (c1 := 0) (A4 := none) (c4 := 0) (ExsIs.nil _ _ _ _ (Nat.zero_le _)) ((Y6.out.turn (q := fun b => w.heap.size ≤ b) (fun b _ (hb : (w1.heap.size ≤ b) ∧ b ≠ w2.heap.size + 1) => ⟨by omega, hU.block b (by omega)⟩))) ((B6.out.turn (q := fun b => w.heap.size ≤ b) (fun b _ (hb : w4.heap.size ≤ b) => ⟨by omega, hU.block b (by omega)⟩))) (SmsIs.nil _ _ _ _ (Nat.zero_le _))) (H6.out.setC H.out (Nat.le_refl _) hU) (K6.out.setC (Nat.le_refl _) hU)

set_option maxHeartbeats 3200000 in
set_option maxRecDepth 100000 in
theorem while_any {m : Pm} {w : World} {nest : Nat} {ts : List Tok} (n : Nat) (b : Blk) (hb : BlkAt b nest) (R : Res Sm) (h : PsAt m w nest ts) (hR : Hid (whileP n b ts = R)) (hne : R ≠ .out) :
    Calls Tryd.prog 32 #[.pointer (some ⟨m.P, 0, none⟩)] w (Out m w nest (SmV w.heap.size) R) := by
  have hR2 := hR.out
  unfold whileP at hR2
  have HR0 := Lib.hid hR2
  clear hR hR2
  have hP := h.lt
  have H := Lib.hid h
  have h0 := h.alloc (.cells #[.int .i64 0, .int .i64 0, .int .i64 0, .string ⟨#[]⟩, .string ⟨#[]⟩, .int .i64 0, .int .i64 0, .slice none 0 0, .string ⟨#[]⟩, .int .i64 0, .slice none 0 0, .slice none 0 0, .slice none 0 0] 49)
  have q0 := (Keeps.refl m.P w).alloc (.cells #[.int .i64 0, .int .i64 0, .int .i64 0, .string ⟨#[]⟩, .string ⟨#[]⟩, .int .i64 0, .int .i64 0, .slice none 0 0, .string ⟨#[]⟩, .int .i64 0, .slice none 0 0, .slice none 0 0, .slice none 0 0] 49)
  have cZ0 := heap_alloc_new w (.cells #[.int .i64 0, .int .i64 0, .int .i64 0, .string ⟨#[]⟩, .string ⟨#[]⟩, .int .i64 0, .int .i64 0, .slice none 0 0, .string ⟨#[]⟩, .int .i64 0, .slice none 0 0, .slice none 0 0, .slice none 0 0] 49)
  have hz0 : (w.alloc (.cells #[.int .i64 0, .int .i64 0, .int .i64 0, .string ⟨#[]⟩, .string ⟨#[]⟩, .int .i64 0, .int .i64 0, .slice none 0 0, .string ⟨#[]⟩, .int .i64 0, .slice none 0 0, .slice none 0 0, .slice none 0 0] 49)).heap.size = w.heap.size + 1 := World.size_alloc _ _
  obtain ⟨w0, HW0⟩ : ∃ U, Hid (w.alloc (.cells #[.int .i64 0, .int .i64 0, .int .i64 0, .string ⟨#[]⟩, .string ⟨#[]⟩, .int .i64 0, .int .i64 0, .slice none 0 0, .string ⟨#[]⟩, .int .i64 0, .slice none 0 0, .slice none 0 0, .slice none 0 0] 49) = U) := ⟨_, Lib.hid rfl⟩
  rw [HW0.out] at h0 q0 cZ0 hz0
  have H0 := Lib.hid h0
  have K0 := Lib.hid q0
  have Z0 := Lib.hid cZ0
  clear h h0 q0 cZ0
  go_enter Tryd.func32, Tryd.ntmps32
  go_wp2_with fail
  rw [HW0.out]
  refine (expect_any H0.out [119, 104, 105, 108, 101] (by simp)).mono ?_
  intro e w1 ho
  rcases ho.go with ⟨l, k, hR, rfl, k1⟩ | ⟨x1, ts1, v1, hR, rfl, hv, h1, k1⟩
  · exact ⟨rfl, out_err (Res.fails HR0.out hR) (K0.out.trans k1)⟩
  have HR1 := Lib.hid (Res.behind HR0.out hR)
  have H1 := Lib.hid h1
  have K1 := Lib.hid (K0.out.trans k1)
  have hs1 := K1.out.size
  have hm1 := k1.size
  have Z1 := Lib.hid (k1.held (by omega) Z0.out)
  clear h1 k1
  have HX1 := Lib.hid hR
  clear hv
  clear hR
  go_wp2_with fail
  refine (expr0 (n := n) _ H1.out (Lib.hid rfl) (Res.live HR1.out hne)).mono ?_
  intro e w2 ho
  rcases ho.go with ⟨l, k, hR, rfl, k2⟩ | ⟨x2, ts2, v2, hR, rfl, hv, h2, k2⟩
  · exact ⟨rfl, out_err (Res.fails HR1.out hR) (K1.out.trans k2)⟩
  have HR2 := Lib.hid (Res.behind HR1.out hR)
  have H2 := Lib.hid h2
  have K2 := Lib.hid (K1.out.trans k2)
  have hs2 := K2.out.size
  have hm2 := k2.size
  have Z2 := Lib.hid (k2.held (by omega) Z1.out)
  clear h2 k2
  have HX2 := Lib.hid hR
  clear hR
  obtain ⟨op2, num2, var2, nm2, fld2, args2⟩ := x2
  obtain ⟨A2, c2, rfl, ha⟩ := ExIs.parts hv
  have X2 : Hid (ExIs w2 (fun b => w1.heap.size ≤ b) (.agg #[.int .i64 op2, .int .i64 num2, .int .i64 var2, .string ⟨nm2.toArray⟩, .string ⟨fld2.toArray⟩, .slice A2 args2.length c2]) (.mk op2 num2 var2 nm2 fld2 args2)) := Lib.hid hv
  clear ha hv
  have h3 := H2.out.alloc (.cells #[.int .i64 op2, .int .i64 num2, .int .i64 var2, .string ⟨nm2.toArray⟩, .string ⟨fld2.toArray⟩, .slice A2 args2.length c2] 51)
  have q3 := K2.out.alloc (.cells #[.int .i64 op2, .int .i64 num2, .int .i64 var2, .string ⟨nm2.toArray⟩, .string ⟨fld2.toArray⟩, .slice A2 args2.length c2] 51)
  have cZ3 := held_alloc (.cells #[.int .i64 op2, .int .i64 num2, .int .i64 var2, .string ⟨nm2.toArray⟩, .string ⟨fld2.toArray⟩, .slice A2 args2.length c2] 51) Z2.out
  have cQ3 := heap_alloc_new w2 (.cells #[.int .i64 op2, .int .i64 num2, .int .i64 var2, .string ⟨nm2.toArray⟩, .string ⟨fld2.toArray⟩, .slice A2 args2.length c2] 51)
  have cX3 := X2.out.turn (stays_alloc (.cells #[.int .i64 op2, .int .i64 num2, .int .i64 var2, .string ⟨nm2.toArray⟩, .string ⟨fld2.toArray⟩, .slice A2 args2.length c2] 51))
  obtain ⟨w3, HW3⟩ : ∃ U, Hid (w2.alloc (.cells #[.int .i64 op2, .int .i64 num2, .int .i64 var2, .string ⟨nm2.toArray⟩, .string ⟨fld2.toArray⟩, .slice A2 args2.length c2] 51) = U) := ⟨_, Lib.hid rfl⟩
  rw [HW3.out] at h3 q3 cZ3 cQ3 cX3
  have H3 := Lib.hid h3
  have K3 := Lib.hid q3
  have Z3 := Lib.hid cZ3
  have Q3 := Lib.hid cQ3
  have X3 := Lib.hid cX3
  have hs3 := K3.out.size
  have hz3 : w3.heap.size = w2.heap.size + 1 := by have hq := congrArg (fun x => x.heap.size) HW3.out; simp only [World.size_alloc] at hq; exact hq.symm
  have hm3 : w2.heap.size < w3.heap.size := by omega
  clear h3 q3 cZ3 cQ3 cX3
  have Y3 : Hid (ExsIs w3 (fun b => w1.heap.size ≤ b) (some ⟨w2.heap.size, 0, none⟩) 1 [(.mk op2 num2 var2 nm2 fld2 args2)]) := Lib.hid (RowIs.one (vs := [.int .i64 op2, .int .i64 num2, .int .i64 var2, .string ⟨nm2.toArray⟩, .string ⟨fld2.toArray⟩, .slice A2 args2.length c2]) Q3.out (by omega) (Nat.le_refl _) (by decide) X3.out)
  go_wp2_with fail
  have h4 := H3.out.alloc (.cells #[.int .i64 5, .int .i64 0, .int .i64 0, .string ⟨#[]⟩, .string ⟨#[]⟩, .int .i64 0, .int .i64 0, .slice none 0 0, .string ⟨#[]⟩, .int .i64 0, .slice (some ⟨w2.heap.size, 0, none⟩) 1 1, .slice none 0 0, .slice none 0 0] 49)
  have q4 := K3.out.alloc (.cells #[.int .i64 5, .int .i64 0, .int .i64 0, .string ⟨#[]⟩, .string ⟨#[]⟩, .int .i64 0, .int .i64 0, .slice none 0 0, .string ⟨#[]⟩, .int .i64 0, .slice (some ⟨w2.heap.size, 0, none⟩) 1 1, .slice none 0 0, .slice none 0 0] 49)
  have cZ4 := held_alloc (.cells #[.int .i64 5, .int .i64 0, .int .i64 0, .string ⟨#[]⟩, .string ⟨#[]⟩, .int .i64 0, .int .i64 0, .slice none 0 0, .string ⟨#[]⟩, .int .i64 0, .slice (some ⟨w2.heap.size, 0, none⟩) 1 1, .slice none 0 0, .slice none 0 0] 49) Z3.out
  have cE4 := (show (w3.alloc (.cells #[.int .i64 5, .int .i64 0, .int .i64 0, .string ⟨#[]⟩, .string ⟨#[]⟩, .int .i64 0, .int .i64 0, .slice none 0 0, .string ⟨#[]⟩, .int .i64 0, .slice (some ⟨w2.heap.size, 0, none⟩) 1 1, .slice none 0 0, .slice none 0 0] 49)).heap[w2.heap.size + 1]? = some (.cells #[.int .i64 5, .int .i64 0, .int .i64 0, .string ⟨#[]⟩, .string ⟨#[]⟩, .int .i64 0, .int .i64 0, .slice none 0 0, .string ⟨#[]⟩, .int .i64 0, .slice (some ⟨w2.heap.size, 0, none⟩) 1 1, .slice none 0 0, .slice none 0 0] 49 (0, 0)) from by rw [← hz3]; exact heap_alloc_new _ _)
  have cY4 := Y3.out.turn (q := fun b => (w1.heap.size ≤ b) ∧ b ≠ w2.heap.size + 1) (fun b hb (hp : w1.heap.size ≤ b) => ⟨⟨hp, by omega⟩, heap_alloc_old _ (.cells #[.int .i64 5, .int .i64 0, .int .i64 0, .string ⟨#[]⟩, .string ⟨#[]⟩, .int .i64 0, .int .i64 0, .slice none 0 0, .string ⟨#[]⟩, .int .i64 0, .slice (some ⟨w2.heap.size, 0, none⟩) 1 1, .slice none 0 0, .slice none 0 0] 49) hb⟩)
  obtain ⟨w4, HW4⟩ : ∃ U, Hid (w3.alloc (.cells #[.int .i64 5, .int .i64 0, .int .i64 0, .string ⟨#[]⟩, .string ⟨#[]⟩, .int .i64 0, .int .i64 0, .slice none 0 0, .string ⟨#[]⟩, .int .i64 0, .slice (some ⟨w2.heap.size, 0, none⟩) 1 1, .slice none 0 0, .slice none 0 0] 49) = U) := ⟨_, Lib.hid rfl⟩
  rw [HW4.out] at h4 q4 cZ4 cE4 cY4
  have H4 := Lib.hid h4
  have K4 := Lib.hid q4
  have Z4 := Lib.hid cZ4
  have E4 := Lib.hid cE4
  have Y4 := Lib.hid cY4
  have hs4 := K4.out.size
  have hz4 : w4.heap.size = w3.heap.size + 1 := by have hq := congrArg (fun x => x.heap.size) HW4.out; simp only [World.size_alloc] at hq; exact hq.symm
  have hm4 : w3.heap.size < w4.heap.size := by omega
  clear h4 q4 cZ4 cE4 cY4
  rw [HW3.out, HW4.out]
  refine (hb _ H4.out (Lib.hid rfl) (Res.live HR2.out hne)).mono ?_
  intro e w5 ho
  rcases ho.go with ⟨l, k, hR, rfl, k5⟩ | ⟨x5, ts5, v5, hR, rfl, hv, h5, k5⟩
  · exact ⟨rfl, out_err (Res.fails HR2.out hR) (K4.out.trans k5)⟩
  have HR3 := Lib.hid (Res.behind HR2.out hR)
  have H5 := Lib.hid h5
  have K5 := Lib.hid (K4.out.trans k5)
  have hs5 := K5.out.size
  have hm5 := k5.size
  have Z5 := Lib.hid (k5.held (by omega) Z4.out)
  have E5 := Lib.hid (k5.held (by omega) E4.out)
  have Y5 := Lib.hid (Y4.out.turn (k5.stays_of (fun b (hb : (w1.heap.size ≤ b) ∧ b ≠ w2.heap.size + 1) => by omega)))
  clear h5 k5
  have HX5 := Lib.hid hR
  clear hR
  obtain ⟨l5, e5⟩ := x5
  obtain ⟨A5, c5, rfl, ha⟩ := hv
  have B5 : Hid (SmsIs w5 (fun b => w4.heap.size ≤ b) A5 c5 l5) := Lib.hid (ha.row turns_sm)
  clear ha
  go_wp2_with (first | ((with_reducible show wpList _ _ _ (Oper.mk none (Op.store 44 _ _) _ _ _ none :: _) _ _); refine wpList_store_cell rfl rfl 44 _ _ rfl (w2.heap.size + 1) 11 _ (.slice A5 l5.length c5) rfl rfl E5.out (by simp) (by kernel_rfl) rfl ?_; intro w6 hU; have H6 := Lib.hid (H5.out.setC H.out (by omega) hU); have K6 := Lib.hid (K5.out.setC (by omega) hU); have hs6 := K6.out.size; have hm6 := Nat.le_of_eq hU.size.symm; have Z6 := Lib.hid (hU.held (by omega) Z5.out); have E6 := Lib.hid (show w6.heap[(w2.heap.size + 1)]? = some (.cells #[.int .i64 5, .int .i64 0, .int .i64 0, .string ⟨#[]⟩, .string ⟨#[]⟩, .int .i64 0, .int .i64 0, .slice none 0 0, .string ⟨#[]⟩, .int .i64 0, .slice (some ⟨w2.heap.size, 0, none⟩) 1 1, .slice A5 l5.length c5, .slice none 0 0] 49 (0, 0)) from hU.at_); have Y6 := Lib.hid (Y5.out.turn (hU.stays_of (fun b (hb : (w1.heap.size ≤ b) ∧ b ≠ w2.heap.size + 1) => by omega))); have B6 := Lib.hid (B5.out.turn (hU.stays_of (fun b (hb : w4.heap.size ≤ b) => by omega))); clear hU) | ((with_reducible show wpList _ _ _ (Oper.mk _ (Op.load 49 _) _ _ _ none :: _) _ _); refine wpList_load_all rfl 49 _ rfl (w2.heap.size + 1) _ _ rfl E6.out Tryd.underlying49 rfl (by kernel_rfl) ?_) | ((with_reducible show wpList _ _ _ (Oper.mk none (Op.store 49 _ _) _ _ _ none :: _) _ _); refine wpList_store_all rfl rfl 49 _ _ rfl w.heap.size _ (#[.int .i64 5, .int .i64 0, .int .i64 0, .string ⟨#[]⟩, .string ⟨#[]⟩, .int .i64 0, .int .i64 0, .slice none 0 0, .string ⟨#[]⟩, .int .i64 0, .slice (some ⟨w2.heap.size, 0, none⟩) 1 1, .slice A5 l5.length c5, .slice none 0 0]) rfl rfl Z6.out rfl (by kernel_rfl) (by simp [Value.oneCell']) ?_; intro U hU))
  (try simp only [Exit.inBlock, Exit.then])
  have hld := ret_all (P := Tryd.prog) 49 w.heap.size _ _ hU.at_ Tryd.underlying49 rfl (by kernel_rfl)
  refine bodyPost_ret (v := .agg #[.int .i64 5, .int .i64 0, .int .i64 0, .string ⟨#[]⟩, .string ⟨#[]⟩, .int .i64 0, .int .i64 0, .slice none 0 0, .string ⟨#[]⟩, .int .i64 0, .slice (some ⟨w2.heap.size, 0, none⟩) 1 1, .slice A5 l5.length c5, .slice none 0 0]) (by simp [results, Tryd.results32, Act.put, asAddr, hld]) rfl ?_
  exact out_ok HR3.out.symm (SmIs.mk (A1 := none) (c1 := 0) (A4 := none) (c4 := 0) (ExsIs.nil _ _ _ _ (Nat.zero_le _)) ((Y6.out.turn (q := fun b => w.heap.size ≤ b) (fun b _ (hb : (w1.heap.size ≤ b) ∧ b ≠ w2.heap.size + 1) => ⟨by omega, hU.block b (by omega)⟩))) ((B6.out.turn (q := fun b => w.heap.size ≤ b) (fun b _ (hb : w4.heap.size ≤ b) => ⟨by omega, hU.block b (by omega)⟩))) (SmsIs.nil _ _ _ _ (Nat.zero_le _))) (H6.out.setC H.out (Nat.le_refl _) hU) (K6.out.setC (Nat.le_refl _) hU)

set_option maxHeartbeats 3200000 in
set_option maxRecDepth 100000 in
theorem try_any {m : Pm} {w : World} {nest : Nat} {ts : List Tok} (b : Blk) (hb : BlkAt b nest) (R : Res Sm) (h : PsAt m w nest ts) (hR : Hid (tryP b ts = R)) (hne : R ≠ .out) :
    Calls Tryd.prog 35 #[.pointer (some ⟨m.P, 0, none⟩)] w (Out m w nest (SmV w.heap.size) R) := by
  have hR2 := hR.out
  unfold tryP at hR2
  have HR0 := Lib.hid hR2
  clear hR hR2
  have hP := h.lt
  have H := Lib.hid h
  have h0 := h.alloc (.cells #[.int .i64 0, .int .i64 0, .int .i64 0, .string ⟨#[]⟩, .string ⟨#[]⟩, .int .i64 0, .int .i64 0, .slice none 0 0, .string ⟨#[]⟩, .int .i64 0, .slice none 0 0, .slice none 0 0, .slice none 0 0] 49)
  have q0 := (Keeps.refl m.P w).alloc (.cells #[.int .i64 0, .int .i64 0, .int .i64 0, .string ⟨#[]⟩, .string ⟨#[]⟩, .int .i64 0, .int .i64 0, .slice none 0 0, .string ⟨#[]⟩, .int .i64 0, .slice none 0 0, .slice none 0 0, .slice none 0 0] 49)
  have cZ0 := heap_alloc_new w (.cells #[.int .i64 0, .int .i64 0, .int .i64 0, .string ⟨#[]⟩, .string ⟨#[]⟩, .int .i64 0, .int .i64 0, .slice none 0 0, .string ⟨#[]⟩, .int .i64 0, .slice none 0 0, .slice none 0 0, .slice none 0 0] 49)
  have hz0 : (w.alloc (.cells #[.int .i64 0, .int .i64 0, .int .i64 0, .string ⟨#[]⟩, .string ⟨#[]⟩, .int .i64 0, .int .i64 0, .slice none 0 0, .string ⟨#[]⟩, .int .i64 0, .slice none 0 0, .slice none 0 0, .slice none 0 0] 49)).heap.size = w.heap.size + 1 := World.size_alloc _ _
  obtain ⟨w0, HW0⟩ : ∃ U, Hid (w.alloc (.cells #[.int .i64 0, .int .i64 0, .int .i64 0, .string ⟨#[]⟩, .string ⟨#[]⟩, .int .i64 0, .int .i64 0, .slice none 0 0, .string ⟨#[]⟩, .int .i64 0, .slice none 0 0, .slice none 0 0, .slice none 0 0] 49) = U) := ⟨_, Lib.hid rfl⟩
  rw [HW0.out] at h0 q0 cZ0 hz0
  have H0 := Lib.hid h0
  have K0 := Lib.hid q0
  have Z0 := Lib.hid cZ0
  clear h h0 q0 cZ0
  go_enter Tryd.func35, Tryd.ntmps35
  go_wp2_with fail
  rw [HW0.out]
  refine (expect_any H0.out [116, 114, 121] (by simp)).mono ?_
  intro e w1 ho
  rcases ho.go with ⟨l, k, hR, rfl, k1⟩ | ⟨x1, ts1, v1, hR, rfl, hv, h1, k1⟩
  · exact ⟨rfl, out_err (Res.fails HR0.out hR) (K0.out.trans k1)⟩
  have HR1 := Lib.hid (Res.behind HR0.out hR)
  have H1 := Lib.hid h1
  have K1 := Lib.hid (K0.out.trans k1)
  have hs1 := K1.out.size
  have hm1 := k1.size
  have Z1 := Lib.hid (k1.held (by omega) Z0.out)
  clear h1 k1
  have HX1 := Lib.hid hR
  clear hv
  clear hR
  go_wp2_with fail
  have h2 := H1.out.alloc (.cells #[.int .i64 8, .int .i64 0, .int .i64 0, .string ⟨#[]⟩, .string ⟨#[]⟩, .int .i64 0, .int .i64 0, .slice none 0 0, .string ⟨#[]⟩, .int .i64 0, .slice none 0 0, .slice none 0 0, .slice none 0 0] 49)
  have q2 := K1.out.alloc (.cells #[.int .i64 8, .int .i64 0, .int .i64 0, .string ⟨#[]⟩, .string ⟨#[]⟩, .int .i64 0, .int .i64 0, .slice none 0 0, .string ⟨#[]⟩, .int .i64 0, .slice none 0 0, .slice none 0 0, .slice none 0 0] 49)
  have cZ2 := held_alloc (.cells #[.int .i64 8, .int .i64 0, .int .i64 0, .string ⟨#[]⟩, .string ⟨#[]⟩, .int .i64 0, .int .i64 0, .slice none 0 0, .string ⟨#[]⟩, .int .i64 0, .slice none 0 0, .slice none 0 0, .slice none 0 0] 49) Z1.out
  have cE2 := heap_alloc_new w1 (.cells #[.int .i64 8, .int .i64 0, .int .i64 0, .string ⟨#[]⟩, .string ⟨#[]⟩, .int .i64 0, .int .i64 0, .slice none 0 0, .string ⟨#[]⟩, .int .i64 0, .slice none 0 0, .slice none 0 0, .slice none 0 0] 49)
  obtain ⟨w2, HW2⟩ : ∃ U, Hid (w1.alloc (.cells #[.int .i64 8, .int .i64 0, .int .i64 0, .string ⟨#[]⟩, .string ⟨#[]⟩, .int .i64 0, .int .i64 0, .slice none 0 0, .string ⟨#[]⟩, .int .i64 0, .slice none 0 0, .slice none 0 0, .slice none 0 0] 49) = U) := ⟨_, Lib.hid rfl⟩
  rw [HW2.out] at h2 q2 cZ2 cE2
  have H2 := Lib.hid h2
  have K2 := Lib.hid q2
  have Z2 := Lib.hid cZ2
  have E2 := Lib.hid cE2
  have hs2 := K2.out.size
  have hz2 : w2.heap.size = w1.heap.size + 1 := by have hq := congrArg (fun x => x.heap.size) HW2.out; simp only [World.size_alloc] at hq; exact hq.symm
  have hm2 : w1.heap.size < w2.heap.size := by omega
  clear h2 q2 cZ2 cE2
  rw [HW2.out]
  refine (hb _ H2.out (Lib.hid rfl) (Res.live HR1.out hne)).mono ?_
  intro e w3 ho
  rcases ho.go with ⟨l, k, hR, rfl, k3⟩ | ⟨x3, ts3, v3, hR, rfl, hv, h3, k3⟩
  · exact ⟨rfl, out_err (Res.fails HR1.out hR) (K2.out.trans k3)⟩
  have HR2 := Lib.hid (Res.behind HR1.out hR)
  have H3 := Lib.hid h3
  have K3 := Lib.hid (K2.out.trans k3)
  have hs3 := K3.out.size
  have hm3 := k3.size
  have Z3 := Lib.hid (k3.held (by omega) Z2.out)
  have E3 := Lib.hid (k3.held (by omega) E2.out)
  clear h3 k3
  have HX3 := Lib.hid hR
  clear hR
  obtain ⟨l3, e3⟩ := x3
  obtain ⟨A3, c3, rfl, ha⟩ := hv
  have B3 : Hid (SmsIs w3 (fun b => w2.heap.size ≤ b) A3 c3 l3) := Lib.hid (ha.row turns_sm)
  clear ha
  go_wp2_with ((with_reducible show wpList _ _ _ (Oper.mk none (Op.store 44 _ _) _ _ _ none :: _) _ _); refine wpList_store_cell rfl rfl 44 _ _ rfl w1.heap.size 11 _ (.slice A3 l3.length c3) rfl rfl E3.out (by simp) (by kernel_rfl) rfl ?_; intro w4 hU; have H4 := Lib.hid (H3.out.setC H.out (by omega) hU); have K4 := Lib.hid (K3.out.setC (by omega) hU); have hs4 := K4.out.size; have hm4 := Nat.le_of_eq hU.size.symm; have Z4 := Lib.hid (hU.held (by omega) Z3.out); have E4 := Lib.hid (show w4.heap[w1.heap.size]? = some (.cells #[.int .i64 8, .int .i64 0, .int .i64 0, .string ⟨#[]⟩, .string ⟨#[]⟩, .int .i64 0, .int .i64 0, .slice none 0 0, .string ⟨#[]⟩, .int .i64 0, .slice none 0 0, .slice A3 l3.length c3, .slice none 0 0] 49 (0, 0)) from hU.at_); have B4 := Lib.hid (B3.out.turn (hU.stays_of (fun b (hb : w2.heap.size ≤ b) => by omega))); clear hU)
  refine (expect_any H4.out [99, 97, 116, 99, 104] (by simp)).mono ?_
  intro e w5 ho
  rcases ho.go with ⟨l, k, hR, rfl, k5⟩ | ⟨x5, ts5, v5, hR, rfl, hv, h5, k5⟩
  · exact ⟨rfl, out_err (Res.fails HR2.out hR) (K4.out.trans k5)⟩
  have HR3 := Lib.hid (Res.behind HR2.out hR)
  have H5 := Lib.hid h5
  have K5 := Lib.hid (K4.out.trans k5)
  have hs5 := K5.out.size
  have hm5 := k5.size
  have Z5 := Lib.hid (k5.held (by omega) Z4.out)
  have E5 := Lib.hid (k5.held (by omega) E4.out)
  have B5 := Lib.hid (B4.out.turn (k5.stays_of (fun b (hb : w2.heap.size ≤ b) => by omega)))
  clear h5 k5
  have HX5 := Lib.hid hR
  clear hv
  clear hR
  go_wp2_with fail
  refine (name_any H5.out).mono ?_
  intro e w6 ho
  rcases ho.go with ⟨l, k, hR, rfl, k6⟩ | ⟨x6, ts6, v6, hR, rfl, hv, h6, k6⟩
  · exact ⟨rfl, out_err (Res.fails HR3.out hR) (K5.out.trans k6)⟩
  have HR4 := Lib.hid (Res.behind HR3.out hR)
  have H6 := Lib.hid h6
  have K6 := Lib.hid (K5.out.trans k6)
  have hs6 := K6.out.size
  have hm6 := k6.size
  have Z6 := Lib.hid (k6.held (by omega) Z5.out)
  have E6 := Lib.hid (k6.held (by omega) E5.out)
  have B6 := Lib.hid (B5.out.turn (k6.stays_of (fun b (hb : w2.heap.size ≤ b) => by omega)))
  clear h6 k6
  have HX6 := Lib.hid hR
  obtain rfl := hv
  clear hR
  go_wp2_with ((with_reducible show wpList _ _ _ (Oper.mk none (Op.store 9 _ _) _ _ _ none :: _) _ _); refine wpList_store_cell rfl rfl 9 _ _ rfl w1.heap.size 3 _ (.string ⟨x6.toArray⟩) rfl rfl E6.out (by simp) (by kernel_rfl) rfl ?_; intro w7 hU; have H7 := Lib.hid (H6.out.setC H.out (by omega) hU); have K7 := Lib.hid (K6.out.setC (by omega) hU); have hs7 := K7.out.size; have hm7 := Nat.le_of_eq hU.size.symm; have Z7 := Lib.hid (hU.held (by omega) Z6.out); have E7 := Lib.hid (show w7.heap[w1.heap.size]? = some (.cells #[.int .i64 8, .int .i64 0, .int .i64 0, .string ⟨x6.toArray⟩, .string ⟨#[]⟩, .int .i64 0, .int .i64 0, .slice none 0 0, .string ⟨#[]⟩, .int .i64 0, .slice none 0 0, .slice A3 l3.length c3, .slice none 0 0] 49 (0, 0)) from hU.at_); have B7 := Lib.hid (B6.out.turn (hU.stays_of (fun b (hb : w2.heap.size ≤ b) => by omega))); clear hU)
  refine (hb _ H7.out (Lib.hid rfl) (Res.live HR4.out hne)).mono ?_
  intro e w8 ho
  rcases ho.go with ⟨l, k, hR, rfl, k8⟩ | ⟨x8, ts8, v8, hR, rfl, hv, h8, k8⟩
  · exact ⟨rfl, out_err (Res.fails HR4.out hR) (K7.out.trans k8)⟩
  have HR5 := Lib.hid (Res.behind HR4.out hR)
  have H8 := Lib.hid h8
  have K8 := Lib.hid (K7.out.trans k8)
  have hs8 := K8.out.size
  have hm8 := k8.size
  have Z8 := Lib.hid (k8.held (by omega) Z7.out)
  have E8 := Lib.hid (k8.held (by omega) E7.out)
  have B8 := Lib.hid (B7.out.turn (k8.stays_of (fun b (hb : w2.heap.size ≤ b) => by omega)))
  clear h8 k8
  have HX8 := Lib.hid hR
  clear hR
  obtain ⟨l8, e8⟩ := x8
  obtain ⟨A8, c8, rfl, ha⟩ := hv
  have D8 : Hid (SmsIs w8 (fun b => w7.heap.size ≤ b) A8 c8 l8) := Lib.hid (ha.row turns_sm)
  clear ha
  go_wp2_with (first | ((with_reducible show wpList _ _ _ (Oper.mk none (Op.store 44 _ _) _ _ _ none :: _) _ _); refine wpList_store_cell rfl rfl 44 _ _ rfl w1.heap.size 12 _ (.slice A8 l8.length c8) rfl rfl E8.out (by simp) (by kernel_rfl) rfl ?_; intro w9 hU; have H9 := Lib.hid (H8.out.setC H.out (by omega) hU); have K9 := Lib.hid (K8.out.setC (by omega) hU); have hs9 := K9.out.size; have hm9 := Nat.le_of_eq hU.size.symm; have Z9 := Lib.hid (hU.held (by omega) Z8.out); have E9 := Lib.hid (show w9.heap[w1.heap.size]? = some (.cells #[.int .i64 8, .int .i64 0, .int .i64 0, .string ⟨x6.toArray⟩, .string ⟨#[]⟩, .int .i64 0, .int .i64 0, .slice none 0 0, .string ⟨#[]⟩, .int .i64 0, .slice none 0 0, .slice A3 l3.length c3, .slice A8 l8.length c8] 49 (0, 0)) from hU.at_); have B9 := Lib.hid (B8.out.turn (hU.stays_of (fun b (hb : w2.heap.size ≤ b) => by omega))); have D9 := Lib.hid (D8.out.turn (hU.stays_of (fun b (hb : w7.heap.size ≤ b) => by omega))); clear hU) | ((with_reducible show wpList _ _ _ (Oper.mk _ (Op.load 49 _) _ _ _ none :: _) _ _); refine wpList_load_all rfl 49 _ rfl w1.heap.size _ _ rfl E9.out Tryd.underlying49 rfl (by kernel_rfl) ?_) | ((with_reducible show wpList _ _ _ (Oper.mk none (Op.store 49 _ _) _ _ _ none :: _) _ _); refine wpList_store_all rfl rfl 49 _ _ rfl w.heap.size _ (#[.int .i64 8, .int .i64 0, .int .i64 0, .string ⟨x6.toArray⟩, .string ⟨#[]⟩, .int .i64 0, .int .i64 0, .slice none 0 0, .string ⟨#[]⟩, .int .i64 0, .slice none 0 0, .slice A3 l3.length c3, .slice A8 l8.length c8]) rfl rfl Z9.out rfl (by kernel_rfl) (by simp [Value.oneCell']) ?_; intro U hU))
  (try simp only [Exit.inBlock, Exit.then])
  have hld := ret_all (P := Tryd.prog) 49 w.heap.size _ _ hU.at_ Tryd.underlying49 rfl (by kernel_rfl)
  refine bodyPost_ret (v := .agg #[.int .i64 8, .int .i64 0, .int .i64 0, .string ⟨x6.toArray⟩, .string ⟨#[]⟩, .int .i64 0, .int .i64 0, .slice none 0 0, .string ⟨#[]⟩, .int .i64 0, .slice none 0 0, .slice A3 l3.length c3, .slice A8 l8.length c8]) (by simp [results, Tryd.results35, Act.put, asAddr, hld]) rfl ?_
  exact out_ok HR5.out.symm (SmIs.mk (A1 := none) (c1 := 0) (A2 := none) (c2 := 0) (ExsIs.nil _ _ _ _ (Nat.zero_le _)) (ExsIs.nil _ _ _ _ (Nat.zero_le _)) ((B9.out.turn (q := fun b => w.heap.size ≤ b) (fun b _ (hb : w2.heap.size ≤ b) => ⟨by omega, hU.block b (by omega)⟩))) ((D9.out.turn (q := fun b => w.heap.size ≤ b) (fun b _ (hb : w7.heap.size ≤ b) => ⟨by omega, hU.block b (by omega)⟩)))) (H9.out.setC H.out (Nat.le_refl _) hU) (K9.out.setC (Nat.le_refl _) hU)
end Go.Proofs.YtpfefjfpnmchcaaDoor
