/-
  The walks of the parser's record and function. Condition: the parser in memory. The walk of the parser's program. Condition: the parser in memory. The tokens of a good scan as the parser wants them; the parser that Parse makes. No condition. The contracts of Parse's deferred closure: entered while a refusal unwinds (the results are laid), entered behind a return (nothing turns). No condition. The walk of parser.Parse: the program of a source text, or the line of the first error. Conditions: the packages' variables hold the signs and the operators.
-/
import Derived.Test.YtpfefjfpnmchcaaDoorZPw
import Derived.Test.YtpfefjfpnmchcaaDoorZLx
import Derived.Defers
import Derived.Recover
import Derived.RegionTactic
import Derived.BigRegion
namespace Go.Proofs.YtpfefjfpnmchcaaDoor
open Go.RowKit

def RecV (N : Nat) (w' : World) (v : Value) (x : Rec) : Prop := RecIs w' (fun b => N ≤ b) v x
def FunV (N : Nat) (w' : World) (v : Value) (x : Fun) : Prop := FunIs w' (fun b => N ≤ b) v x

set_option maxHeartbeats 3200000 in
set_option maxRecDepth 100000 in
theorem record_any {m : Pm} {w : World} {nest : Nat} {ts : List Tok} (n : Nat) (R : Res Rec) (h : PsAt m w nest ts) (hR : Hid (recP n ts = R)) (hne : R ≠ .out) :
    Calls Tryd.prog 38 #[.pointer (some ⟨m.P, 0, none⟩)] w (Out m w nest (RecV w.heap.size) R) := by
  have hR2 := hR.out
  unfold recP at hR2
  have HR0 := Lib.hid hR2
  clear hR hR2
  have hP := h.lt
  have H := Lib.hid h
  have h0 := h.alloc (.cells #[.string ⟨#[]⟩, .slice none 0 0] 55)
  have q0 := (Keeps.refl m.P w).alloc (.cells #[.string ⟨#[]⟩, .slice none 0 0] 55)
  have cZ0 := heap_alloc_new w (.cells #[.string ⟨#[]⟩, .slice none 0 0] 55)
  have hz0 : (w.alloc (.cells #[.string ⟨#[]⟩, .slice none 0 0] 55)).heap.size = w.heap.size + 1 := World.size_alloc _ _
  obtain ⟨w0, HW0⟩ : ∃ U, Hid (w.alloc (.cells #[.string ⟨#[]⟩, .slice none 0 0] 55) = U) := ⟨_, Lib.hid rfl⟩
  rw [HW0.out] at h0 q0 cZ0 hz0
  have H0 := Lib.hid h0
  have K0 := Lib.hid q0
  have Z0 := Lib.hid cZ0
  clear h h0 q0 cZ0
  go_enter Tryd.func38, Tryd.ntmps38
  go_wp2_with fail
  rw [HW0.out]
  refine (expect_any H0.out [114, 101, 99, 111, 114, 100] (by simp)).mono ?_
  intro e w1 ho
  rcases ho.go with ⟨l, k, hR, rfl, k1⟩ | ⟨x1, ts1, v1, hR, rfl, hv, h1, k1⟩
  · exact ⟨rfl, out_err (Res.fails HR0.out hR) (K0.out.trans k1)⟩
  have HR1 := Lib.hid (Res.behind HR0.out hR)
  have H1 := Lib.hid h1
  have K1 := Lib.hid (K0.out.trans k1)
  have hs1 := K1.out.size
  have hm1 := k1.size
  have Z1 := Lib.hid (k1.held (by omega) Z0.out)
  clear h1 k1
  have HX1 := Lib.hid hR
  clear hv
  clear hR
  go_wp2_with fail
  refine (name_any H1.out).mono ?_
  intro e w2 ho
  rcases ho.go with ⟨l, k, hR, rfl, k2⟩ | ⟨x2, ts2, v2, hR, rfl, hv, h2, k2⟩
  · exact ⟨rfl, out_err (Res.fails HR1.out hR) (K1.out.trans k2)⟩
  have HR2 := Lib.hid (Res.behind HR1.out hR)
  have H2 := Lib.hid h2
  have K2 := Lib.hid (K1.out.trans k2)
  have hs2 := K2.out.size
  have hm2 := k2.size
  have Z2 := Lib.hid (k2.held (by omega) Z1.out)
  clear h2 k2
  have HX2 := Lib.hid hR
  obtain rfl := hv
  clear hR
  go_wp2_with fail
  have h3 := H2.out.alloc (.cells #[.string ⟨x2.toArray⟩, .slice none 0 0] 55)
  have q3 := K2.out.alloc (.cells #[.string ⟨x2.toArray⟩, .slice none 0 0] 55)
  have cZ3 := held_alloc (.cells #[.string ⟨x2.toArray⟩, .slice none 0 0] 55) Z2.out
  have cE3 := heap_alloc_new w2 (.cells #[.string ⟨x2.toArray⟩, .slice none 0 0] 55)
  obtain ⟨w3, HW3⟩ : ∃ U, Hid (w2.alloc (.cells #[.string ⟨x2.toArray⟩, .slice none 0 0] 55) = U) := ⟨_, Lib.hid rfl⟩
  rw [HW3.out] at h3 q3 cZ3 cE3
  have H3 := Lib.hid h3
  have K3 := Lib.hid q3
  have Z3 := Lib.hid cZ3
  have E3 := Lib.hid cE3
  have hs3 := K3.out.size
  have hz3 : w3.heap.size = w2.heap.size + 1 := by have hq := congrArg (fun x => x.heap.size) HW3.out; simp only [World.size_alloc] at hq; exact hq.symm
  have hm3 : w2.heap.size < w3.heap.size := by omega
  clear h3 q3 cZ3 cE3
  rw [HW3.out]
  refine (expect_any H3.out [123] (by simp)).mono ?_
  intro e w4 ho
  rcases ho.go with ⟨l, k, hR, rfl, k4⟩ | ⟨x4, ts4, v4, hR, rfl, hv, h4, k4⟩
  · exact ⟨rfl, out_err (Res.fails HR2.out hR) (K3.out.trans k4)⟩
  have HR3 := Lib.hid (Res.behind HR2.out hR)
  have H4 := Lib.hid h4
  have K4 := Lib.hid (K3.out.trans k4)
  have hs4 := K4.out.size
  have hm4 := k4.size
  have Z4 := Lib.hid (k4.held (by omega) Z3.out)
  have E4 := Lib.hid (k4.held (by omega) E3.out)
  clear h4 k4
  have HX4 := Lib.hid hR
  clear hv
  clear hR
  go_wp2_with fail
  refine (names_any H4.out n _ (Lib.hid rfl) (Res.live HR3.out hne)).mono ?_
  intro e w5 ho
  rcases ho.go with ⟨l, k, hR, rfl, k5⟩ | ⟨x5, ts5, v5, hR, rfl, hv, h5, k5⟩
  · exact ⟨rfl, out_err (Res.fails HR3.out hR) (K4.out.trans k5)⟩
  have HR4 := Lib.hid (Res.behind HR3.out hR)
  have H5 := Lib.hid h5
  have K5 := Lib.hid (K4.out.trans k5)
  have hs5 := K5.out.size
  have hm5 := k5.size
  have Z5 := Lib.hid (k5.held (by omega) Z4.out)
  have E5 := Lib.hid (k5.held (by omega) E4.out)
  clear h5 k5
  have HX5 := Lib.hid hR
  clear hR
  obtain ⟨A5, c5, rfl, ha⟩ := hv
  have Y5 : Hid (NamesIs (fun b => w4.heap.size ≤ b) w5 A5 c5 x5) := Lib.hid ha
  clear ha
  go_wp2_with ((with_reducible show wpList _ _ _ (Oper.mk none (Op.store 43 _ _) _ _ _ none :: _) _ _); refine wpList_store_cell rfl rfl 43 _ _ rfl w2.heap.size 1 _ (.slice A5 x5.length c5) rfl rfl E5.out (by simp) (by kernel_rfl) rfl ?_; intro w6 hU; have H6 := Lib.hid (H5.out.setC H.out (by omega) hU); have K6 := Lib.hid (K5.out.setC (by omega) hU); have hs6 := K6.out.size; have hm6 := Nat.le_of_eq hU.size.symm; have Z6 := Lib.hid (hU.held (by omega) Z5.out); have E6 := Lib.hid (show w6.heap[w2.heap.size]? = some (.cells #[.string ⟨x2.toArray⟩, .slice A5 x5.length c5] 55 (0, 0)) from hU.at_); have Y6 := Lib.hid (Y5.out.turn (hU.stays_of (fun b (hb : w4.heap.size ≤ b) => by omega))); clear hU)
  refine (expect_any H6.out [125] (by simp)).mono ?_
  intro e w7 ho
  rcases ho.go with ⟨l, k, hR, rfl, k7⟩ | ⟨x7, ts7, v7, hR, rfl, hv, h7, k7⟩
  · exact ⟨rfl, out_err (Res.fails HR4.out hR) (K6.out.trans k7)⟩
  have HR5 := Lib.hid (Res.behind HR4.out hR)
  have H7 := Lib.hid h7
  have K7 := Lib.hid (K6.out.trans k7)
  have hs7 := K7.out.size
  have hm7 := k7.size
  have Z7 := Lib.hid (k7.held (by omega) Z6.out)
  have E7 := Lib.hid (k7.held (by omega) E6.out)
  have Y7 := Lib.hid (Y6.out.turn (k7.stays_of (fun b (hb : w4.heap.size ≤ b) => by omega)))
  clear h7 k7
  have HX7 := Lib.hid hR
  clear hv
  clear hR
  go_wp2_with (first | ((with_reducible show wpList _ _ _ (Oper.mk _ (Op.load 55 _) _ _ _ none :: _) _ _); refine wpList_load_all rfl 55 _ rfl w2.heap.size _ _ rfl E7.out Tryd.underlying55 rfl (by kernel_rfl) ?_) | ((with_reducible show wpList _ _ _ (Oper.mk none (Op.store 55 _ _) _ _ _ none :: _) _ _); refine wpList_store_all rfl rfl 55 _ _ rfl w.heap.size _ (#[.string ⟨x2.toArray⟩, .slice A5 x5.length c5]) rfl rfl Z7.out rfl (by kernel_rfl) (by simp [Value.oneCell']) ?_; intro U hU))
  (try simp only [Exit.inBlock, Exit.then])
  have hld := ret_all (P := Tryd.prog) 55 w.heap.size _ _ hU.at_ Tryd.underlying55 rfl (by kernel_rfl)
  refine bodyPost_ret (v := .agg #[.string ⟨x2.toArray⟩, .slice A5 x5.length c5]) (by simp [results, Tryd.results38, Act.put, asAddr, hld]) rfl ?_
  exact out_ok HR5.out.symm (⟨A5, c5, rfl, (Y7.out.turn (q := fun b => w.heap.size ≤ b) (fun b _ (hb : w4.heap.size ≤ b) => ⟨by omega, hU.block b (by omega)⟩))⟩) (H7.out.setC H.out (Nat.le_refl _) hU) (K7.out.setC (Nat.le_refl _) hU)

set_option maxHeartbeats 3200000 in
set_option maxRecDepth 100000 in
theorem function_any {m : Pm} {w : World} {ts : List Tok} (n : Nat) (hn : n ≤ 1000000000) (R : Res Fun) (h : PsAt m w 0 ts) (hR : Hid (funP n ts = R)) (hne : R ≠ .out) :
    Calls Tryd.prog 39 #[.pointer (some ⟨m.P, 0, none⟩)] w (Out m w 0 (FunV w.heap.size) R) := by
  obtain ⟨t, rest, rfl⟩ := h.good.cons
  have hR2 := hR.out
  unfold funP at hR2
  rw [show (hd (t :: rest)).line = t.line from rfl] at hR2
  have HR0 := Lib.hid hR2
  clear hR hR2
  obtain ⟨o, c, ⟨p0, p1, p2, t0, t1, t2, t3, hle, hc, _, _⟩, _⟩ := h.head
  have hT := h.tok.1
  have hP := h.lt
  have H := Lib.hid h
  have h0 := h.alloc (.cells #[.string ⟨#[]⟩, .int .i64 0, .slice none 0 0, .slice none 0 0] 46)
  have q0 := (Keeps.refl m.P w).alloc (.cells #[.string ⟨#[]⟩, .int .i64 0, .slice none 0 0, .slice none 0 0] 46)
  have cZ0 := heap_alloc_new w (.cells #[.string ⟨#[]⟩, .int .i64 0, .slice none 0 0, .slice none 0 0] 46)
  have hz0 : (w.alloc (.cells #[.string ⟨#[]⟩, .int .i64 0, .slice none 0 0, .slice none 0 0] 46)).heap.size = w.heap.size + 1 := World.size_alloc _ _
  obtain ⟨w0, HW0⟩ : ∃ U, Hid (w.alloc (.cells #[.string ⟨#[]⟩, .int .i64 0, .slice none 0 0, .slice none 0 0] 46) = U) := ⟨_, Lib.hid rfl⟩
  rw [HW0.out] at h0 q0 cZ0 hz0
  have H0 := Lib.hid h0
  have K0 := Lib.hid q0
  have Z0 := Lib.hid cZ0
  clear h h0 q0 cZ0
  go_enter Tryd.func39, Tryd.ntmps39
  go_wp2_with fail
  have h1 := H0.out.alloc (.cells #[.string ⟨#[]⟩, .int .i64 t.line, .slice none 0 0, .slice none 0 0] 46)
  have q1 := K0.out.alloc (.cells #[.string ⟨#[]⟩, .int .i64 t.line, .slice none 0 0, .slice none 0 0] 46)
  have cZ1 := held_alloc (.cells #[.string ⟨#[]⟩, .int .i64 t.line, .slice none 0 0, .slice none 0 0] 46) Z0.out
  have cE1 := (show (w0.alloc (.cells #[.string ⟨#[]⟩, .int .i64 t.line, .slice none 0 0, .slice none 0 0] 46)).heap[w.heap.size + 1]? = some (.cells #[.string ⟨#[]⟩, .int .i64 t.line, .slice none 0 0, .slice none 0 0] 46 (0, 0)) from by rw [← hz0]; exact heap_alloc_new _ _)
  obtain ⟨w1, HW1⟩ : ∃ U, Hid (w0.alloc (.cells #[.string ⟨#[]⟩, .int .i64 t.line, .slice none 0 0, .slice none 0 0] 46) = U) := ⟨_, Lib.hid rfl⟩
  rw [HW1.out] at h1 q1 cZ1 cE1
  have H1 := Lib.hid h1
  have K1 := Lib.hid q1
  have Z1 := Lib.hid cZ1
  have E1 := Lib.hid cE1
  have hs1 := K1.out.size
  have hz1 : w1.heap.size = w0.heap.size + 1 := by have hq := congrArg (fun x => x.heap.size) HW1.out; simp only [World.size_alloc] at hq; exact hq.symm
  have hm1 : w0.heap.size < w1.heap.size := by omega
  clear h1 q1 cZ1 cE1
  rw [HW0.out, HW1.out]
  clear p0 p1 p2 t0 t1 t2 t3 hle hc hT
  refine (expect_any H1.out [102, 117, 110, 99] (by simp)).mono ?_
  intro e w2 ho
  rcases ho.go with ⟨l, k, hR, rfl, k2⟩ | ⟨x2, ts2, v2, hR, rfl, hv, h2, k2⟩
  · exact ⟨rfl, out_err (Res.fails HR0.out hR) (K1.out.trans k2)⟩
  have HR1 := Lib.hid (Res.behind HR0.out hR)
  have H2 := Lib.hid h2
  have K2 := Lib.hid (K1.out.trans k2)
  have hs2 := K2.out.size
  have hm2 := k2.size
  have Z2 := Lib.hid (k2.held (by omega) Z1.out)
  have E2 := Lib.hid (k2.held (by omega) E1.out)
  clear h2 k2
  have HX2 := Lib.hid hR
  clear hv
  clear hR
  go_wp2_with fail
  refine (name_any H2.out).mono ?_
  intro e w3 ho
  rcases ho.go with ⟨l, k, hR, rfl, k3⟩ | ⟨x3, ts3, v3, hR, rfl, hv, h3, k3⟩
  · exact ⟨rfl, out_err (Res.fails HR1.out hR) (K2.out.trans k3)⟩
  have HR2 := Lib.hid (Res.behind HR1.out hR)
  have H3 := Lib.hid h3
  have K3 := Lib.hid (K2.out.trans k3)
  have hs3 := K3.out.size
  have hm3 := k3.size
  have Z3 := Lib.hid (k3.held (by omega) Z2.out)
  have E3 := Lib.hid (k3.held (by omega) E2.out)
  clear h3 k3
  have HX3 := Lib.hid hR
  obtain rfl := hv
  clear hR
  go_wp2_with ((with_reducible show wpList _ _ _ (Oper.mk none (Op.store 9 _ _) _ _ _ none :: _) _ _); refine wpList_store_cell rfl rfl 9 _ _ rfl (w.heap.size + 1) 0 _ (.string ⟨x3.toArray⟩) rfl rfl E3.out (by simp) (by kernel_rfl) rfl ?_; intro w4 hU; have H4 := Lib.hid (H3.out.setC H.out (by omega) hU); have K4 := Lib.hid (K3.out.setC (by omega) hU); have hs4 := K4.out.size; have hm4 := Nat.le_of_eq hU.size.symm; have Z4 := Lib.hid (hU.held (by omega) Z3.out); have E4 := Lib.hid (show w4.heap[(w.heap.size + 1)]? = some (.cells #[.string ⟨x3.toArray⟩, .int .i64 t.line, .slice none 0 0, .slice none 0 0] 46 (0, 0)) from hU.at_); clear hU)
  refine (expect_any H4.out [40] (by simp)).mono ?_
  intro e w5 ho
  rcases ho.go with ⟨l, k, hR, rfl, k5⟩ | ⟨x5, ts5, v5, hR, rfl, hv, h5, k5⟩
  · exact ⟨rfl, out_err (Res.fails HR2.out hR) (K4.out.trans k5)⟩
  have HR3 := Lib.hid (Res.behind HR2.out hR)
  have H5 := Lib.hid h5
  have K5 := Lib.hid (K4.out.trans k5)
  have hs5 := K5.out.size
  have hm5 := k5.size
  have Z5 := Lib.hid (k5.held (by omega) Z4.out)
  have E5 := Lib.hid (k5.held (by omega) E4.out)
  clear h5 k5
  have HX5 := Lib.hid hR
  clear hv
  clear hR
  go_wp2_with fail
  by_cases hcl : (hd ts5).text = [41]
  · have hr := HR3.out
    rw [if_pos hcl] at hr
    have HR4 := Lib.hid hr
    clear hr HR3
    have hr := HR4.out
    simp only [Res.ok_bind] at hr
    have HR5 := Lib.hid hr
    clear hr HR4
    have hq : ((hd ts5).text == [41]) = true := by simpa using hcl
    refine (at_any H5.out [41]).mono ?_
    rintro e w' ⟨rfl, hw'⟩
    have hw2 := hw'.symm
    clear hw'
    subst hw2
    go_wp2_with fail
    clear hq hcl
    refine (expect_any H5.out [41] (by simp)).mono ?_
    intro e w6 ho
    rcases ho.go with ⟨l, k, hR, rfl, k6⟩ | ⟨x6, ts6, v6, hR, rfl, hv, h6, k6⟩
    · exact ⟨rfl, out_err (Res.fails HR5.out hR) (K5.out.trans k6)⟩
    have HR6 := Lib.hid (Res.behind HR5.out hR)
    have H6 := Lib.hid h6
    have K6 := Lib.hid (K5.out.trans k6)
    have hs6 := K6.out.size
    have hm6 := k6.size
    have Z6 := Lib.hid (k6.held (by omega) Z5.out)
    have E6 := Lib.hid (k6.held (by omega) E5.out)
    clear h6 k6
    have HX6 := Lib.hid hR
    clear hv
    clear hR
    go_wp2_with fail
    refine (block_all n 0 (by omega) _ H6.out (Lib.hid rfl) (Res.live HR6.out hne)).mono ?_
    intro e w7 ho
    rcases ho.go with ⟨l, k, hR, rfl, k7⟩ | ⟨x7, ts7, v7, hR, rfl, hv, h7, k7⟩
    · exact ⟨rfl, out_err (Res.fails HR6.out hR) (K6.out.trans k7)⟩
    have HR7 := Lib.hid (Res.behind HR6.out hR)
    have H7 := Lib.hid h7
    have K7 := Lib.hid (K6.out.trans k7)
    have hs7 := K7.out.size
    have hm7 := k7.size
    have Z7 := Lib.hid (k7.held (by omega) Z6.out)
    have E7 := Lib.hid (k7.held (by omega) E6.out)
    clear h7 k7
    have HX7 := Lib.hid hR
    clear hR
    obtain ⟨l7, e7⟩ := x7
    have hmany : l7.length ≤ ts6.length := block_many HX7.out
    have hts := H6.out.good.1.1
    obtain ⟨A7, c7, rfl, ha⟩ := hv
    have hrw : ∀ g, blkOf A7 = some g → w6.heap.size ≤ g := fun g hg => (ha.place g hg).1
    have O7 := Lib.hid ha
    clear ha
    have hO := O7.out.turn turns_sm (w' := w7.alloc (.cells #[.int .i64 10, .int .i64 e7, .int .i64 0, .string ⟨#[]⟩, .string ⟨#[]⟩, .int .i64 0, .int .i64 0, .slice none 0 0, .string ⟨#[]⟩, .int .i64 0, .slice none 0 0, .slice none 0 0, .slice none 0 0] 49)) (fun b _ hlt => heap_alloc_old w7 _ hlt)
    have hC := new_cell w7 [.int .i64 10, .int .i64 e7, .int .i64 0, .string ⟨#[]⟩, .string ⟨#[]⟩, .int .i64 0, .int .i64 0, .slice none 0 0, .string ⟨#[]⟩, .int .i64 0, .slice none 0 0, .slice none 0 0, .slice none 0 0] 49
    have h8 := H7.out.alloc (.cells #[.int .i64 10, .int .i64 e7, .int .i64 0, .string ⟨#[]⟩, .string ⟨#[]⟩, .int .i64 0, .int .i64 0, .slice none 0 0, .string ⟨#[]⟩, .int .i64 0, .slice none 0 0, .slice none 0 0, .slice none 0 0] 49)
    have q8 := K7.out.alloc (.cells #[.int .i64 10, .int .i64 e7, .int .i64 0, .string ⟨#[]⟩, .string ⟨#[]⟩, .int .i64 0, .int .i64 0, .slice none 0 0, .string ⟨#[]⟩, .int .i64 0, .slice none 0 0, .slice none 0 0, .slice none 0 0] 49)
    have cZ8 := held_alloc (.cells #[.int .i64 10, .int .i64 e7, .int .i64 0, .string ⟨#[]⟩, .string ⟨#[]⟩, .int .i64 0, .int .i64 0, .slice none 0 0, .string ⟨#[]⟩, .int .i64 0, .slice none 0 0, .slice none 0 0, .slice none 0 0] 49) Z7.out
    have cE8 := held_alloc (.cells #[.int .i64 10, .int .i64 e7, .int .i64 0, .string ⟨#[]⟩, .string ⟨#[]⟩, .int .i64 0, .int .i64 0, .slice none 0 0, .string ⟨#[]⟩, .int .i64 0, .slice none 0 0, .slice none 0 0, .slice none 0 0] 49) E7.out
    have cQ8 := heap_alloc_new w7 (.cells #[.int .i64 10, .int .i64 e7, .int .i64 0, .string ⟨#[]⟩, .string ⟨#[]⟩, .int .i64 0, .int .i64 0, .slice none 0 0, .string ⟨#[]⟩, .int .i64 0, .slice none 0 0, .slice none 0 0, .slice none 0 0] 49)
    obtain ⟨w8, HW8⟩ : ∃ U, Hid (w7.alloc (.cells #[.int .i64 10, .int .i64 e7, .int .i64 0, .string ⟨#[]⟩, .string ⟨#[]⟩, .int .i64 0, .int .i64 0, .slice none 0 0, .string ⟨#[]⟩, .int .i64 0, .slice none 0 0, .slice none 0 0, .slice none 0 0] 49) = U) := ⟨_, Lib.hid rfl⟩
    rw [HW8.out] at h8 q8 cZ8 cE8 cQ8
    have H8 := Lib.hid h8
    have K8 := Lib.hid q8
    have Z8 := Lib.hid cZ8
    have E8 := Lib.hid cE8
    have Q8 := Lib.hid cQ8
    have hs8 := K8.out.size
    have hz8 : w8.heap.size = w7.heap.size + 1 := by have hq := congrArg (fun x => x.heap.size) HW8.out; simp only [World.size_alloc] at hq; exact hq.symm
    have hm8 : w7.heap.size < w8.heap.size := by omega
    clear h8 q8 cZ8 cE8 cQ8
    rw [HW8.out] at hO
    have hC2 : ∀ j u, ([.int .i64 10, .int .i64 e7, .int .i64 0, .string ⟨#[]⟩, .string ⟨#[]⟩, .int .i64 0, .int .i64 0, .slice none 0 0, .string ⟨#[]⟩, .int .i64 0, .slice none 0 0, .slice none 0 0, .slice none 0 0] : List Value)[j]? = some u → w8.cell? ⟨w7.heap.size, j, none⟩ = some u := fun j u hu => by rw [← HW8.out]; exact hC j u hu
    have HO := Lib.hid hO
    have HC := Lib.hid hC2
    clear hO hC hC2
    obtain ⟨i, hi, hz, hsz, hby⟩ := info_sm
    go_wp2_with (first | (at_builtin; rw [HW8.out]; refine wpList_append_one turns_sm rfl _ _ 44 rfl i _ 192 Tryd.underlying44 hi hz hsz hby rfl (by omega) (by omega) HO.out rfl w7.heap.size 1 rfl [.int .i64 10, .int .i64 e7, .int .i64 0, .string ⟨#[]⟩, .string ⟨#[]⟩, .int .i64 0, .int .i64 0, .slice none 0 0, .string ⟨#[]⟩, .int .i64 0, .slice none 0 0, .slice none 0 0, .slice none 0 0] (.mk 10 e7 0 [] [] 0 0 [] [] 0 [] [] []) rfl HC.out (fun u hu => sm_oneCell hu) (by omega) (by omega) (SmIs.mk (A1 := none) (c1 := 0) (A2 := none) (c2 := 0) (A3 := none) (c3 := 0) (A4 := none) (c4 := 0) (ExsIs.nil _ _ _ _ (Nat.zero_le _)) (ExsIs.nil _ _ _ _ (Nat.zero_le _)) (SmsIs.nil _ _ _ _ (Nat.zero_le _)) (SmsIs.nil _ _ _ _ (Nat.zero_le _))) ?_; intro A9 c9 w9 hO hg hw; have O9 := Lib.hid hO; have H9 := Lib.hid (H8.out.grew H.out hg (fun g hgr => by have := hrw g hgr; omega)); have K9 := Lib.hid (K8.out.grown hg (fun g hgr => by have := hrw g hgr; omega)); have hs9 := K9.out.size; have hm9 := hg.size; have Z9 := Lib.hid ((hg.block w.heap.size (Array.getElem?_eq_some_iff.1 Z8.out).1 (fun e => by have := hrw _ e.symm; omega)).trans Z8.out); have E9 := Lib.hid ((hg.block (w.heap.size + 1) (Array.getElem?_eq_some_iff.1 E8.out).1 (fun e => by have := hrw _ e.symm; omega)).trans E8.out); clear hO hg hw) | ((with_reducible show wpList _ _ _ (Oper.mk none (Op.store 44 _ _) _ _ _ none :: _) _ _); refine wpList_store_cell rfl rfl 44 _ _ rfl (w.heap.size + 1) 3 _ (.slice A9 (l7.length + 1) c9) rfl rfl E9.out (by simp) (by kernel_rfl) rfl ?_; intro w10 hU; have H10 := Lib.hid (H9.out.setC H.out (by omega) hU); have K10 := Lib.hid (K9.out.setC (by omega) hU); have hs10 := K10.out.size; have hm10 := Nat.le_of_eq hU.size.symm; have Z10 := Lib.hid (hU.held (by omega) Z9.out); have E10 := Lib.hid (show w10.heap[(w.heap.size + 1)]? = some (.cells #[.string ⟨x3.toArray⟩, .int .i64 t.line, .slice none 0 0, .slice A9 (l7.length + 1) c9] 46 (0, 0)) from hU.at_); have B10 := Lib.hid (SmsIs.turn (w := w9) (p := fun b => w6.heap.size ≤ b) (O9.out.row turns_sm) (hU.stays_of (fun b (hb : w6.heap.size ≤ b) => by omega))); clear hU) | ((with_reducible show wpList _ _ _ (Oper.mk _ (Op.load 46 _) _ _ _ none :: _) _ _); refine wpList_load_all rfl 46 _ rfl (w.heap.size + 1) _ _ rfl E10.out Tryd.underlying46 rfl (by kernel_rfl) ?_) | ((with_reducible show wpList _ _ _ (Oper.mk none (Op.store 46 _ _) _ _ _ none :: _) _ _); refine wpList_store_all rfl rfl 46 _ _ rfl w.heap.size _ (#[.string ⟨x3.toArray⟩, .int .i64 t.line, .slice none 0 0, .slice A9 (l7.length + 1) c9]) rfl rfl Z10.out rfl (by kernel_rfl) (by simp [Value.oneCell']) ?_; intro U hU))
    (try simp only [Exit.inBlock, Exit.then])
    have hld := ret_all (P := Tryd.prog) 46 w.heap.size _ _ hU.at_ Tryd.underlying46 rfl (by kernel_rfl)
    refine bodyPost_ret (v := .agg #[.string ⟨x3.toArray⟩, .int .i64 t.line, .slice none 0 0, .slice A9 (l7.length + 1) c9]) (by simp [results, Tryd.results39, Act.put, asAddr, hld]) rfl ?_
    exact out_ok HR7.out.symm (⟨none, 0, A9, c9, by simp, RowIs.nil _ _ _ _ _ _ _ (Nat.zero_le _), (B10.out.turn (q := fun b => w.heap.size ≤ b) (fun b _ (hb : w6.heap.size ≤ b) => ⟨by omega, hU.block b (by omega)⟩))⟩) (H10.out.setC H.out (Nat.le_refl _) hU) (K10.out.setC (Nat.le_refl _) hU)
  · have hr := HR3.out
    rw [if_neg hcl] at hr
    have HR4 := Lib.hid hr
    clear hr HR3
    have hq : ((hd ts5).text == [41]) = false := by simpa using hcl
    refine (at_any H5.out [41]).mono ?_
    rintro e w' ⟨rfl, hw'⟩
    have hw2 := hw'.symm
    clear hw'
    subst hw2
    go_wp2_with fail
    clear hq hcl
    refine (names_any H5.out n _ (Lib.hid rfl) (Res.live HR4.out hne)).mono ?_
    intro e w6 ho
    rcases ho.go with ⟨l, k, hR, rfl, k6⟩ | ⟨x6, ts6, v6, hR, rfl, hv, h6, k6⟩
    · exact ⟨rfl, out_err (Res.fails HR4.out hR) (K5.out.trans k6)⟩
    have HR5 := Lib.hid (Res.behind HR4.out hR)
    have H6 := Lib.hid h6
    have K6 := Lib.hid (K5.out.trans k6)
    have hs6 := K6.out.size
    have hm6 := k6.size
    have Z6 := Lib.hid (k6.held (by omega) Z5.out)
    have E6 := Lib.hid (k6.held (by omega) E5.out)
    clear h6 k6
    have HX6 := Lib.hid hR
    clear hR
    obtain ⟨A6, c6, rfl, ha⟩ := hv
    have Y6 : Hid (NamesIs (fun b => w5.heap.size ≤ b) w6 A6 c6 x6) := Lib.hid ha
    clear ha
    go_wp2_with ((with_reducible show wpList _ _ _ (Oper.mk none (Op.store 43 _ _) _ _ _ none :: _) _ _); refine wpList_store_cell rfl rfl 43 _ _ rfl (w.heap.size + 1) 2 _ (.slice A6 x6.length c6) rfl rfl E6.out (by simp) (by kernel_rfl) rfl ?_; intro w7 hU; have H7 := Lib.hid (H6.out.setC H.out (by omega) hU); have K7 := Lib.hid (K6.out.setC (by omega) hU); have hs7 := K7.out.size; have hm7 := Nat.le_of_eq hU.size.symm; have Z7 := Lib.hid (hU.held (by omega) Z6.out); have E7 := Lib.hid (show w7.heap[(w.heap.size + 1)]? = some (.cells #[.string ⟨x3.toArray⟩, .int .i64 t.line, .slice A6 x6.length c6, .slice none 0 0] 46 (0, 0)) from hU.at_); have Y7 := Lib.hid (Y6.out.turn (hU.stays_of (fun b (hb : w5.heap.size ≤ b) => by omega))); clear hU)
    have hcap := Y7.out.turn (q := fun b => (w5.heap.size ≤ b) ∧ b < w7.heap.size) (fun b hb hp => ⟨⟨hp, hb⟩, rfl⟩)
    replace Y7 := Lib.hid hcap
    clear hcap
    refine (expect_any H7.out [41] (by simp)).mono ?_
    intro e w8 ho
    rcases ho.go with ⟨l, k, hR, rfl, k8⟩ | ⟨x8, ts8, v8, hR, rfl, hv, h8, k8⟩
    · exact ⟨rfl, out_err (Res.fails HR5.out hR) (K7.out.trans k8)⟩
    have HR6 := Lib.hid (Res.behind HR5.out hR)
    have H8 := Lib.hid h8
    have K8 := Lib.hid (K7.out.trans k8)
    have hs8 := K8.out.size
    have hm8 := k8.size
    have Z8 := Lib.hid (k8.held (by omega) Z7.out)
    have E8 := Lib.hid (k8.held (by omega) E7.out)
    have Y8 := Lib.hid (Y7.out.turn (k8.stays_of (fun b (hb : (w5.heap.size ≤ b) ∧ b < w7.heap.size) => by omega)))
    clear h8 k8
    have HX8 := Lib.hid hR
    clear hv
    clear hR
    go_wp2_with fail
    refine (block_all n 0 (by omega) _ H8.out (Lib.hid rfl) (Res.live HR6.out hne)).mono ?_
    intro e w9 ho
    rcases ho.go with ⟨l, k, hR, rfl, k9⟩ | ⟨x9, ts9, v9, hR, rfl, hv, h9, k9⟩
    · exact ⟨rfl, out_err (Res.fails HR6.out hR) (K8.out.trans k9)⟩
    have HR7 := Lib.hid (Res.behind HR6.out hR)
    have H9 := Lib.hid h9
    have K9 := Lib.hid (K8.out.trans k9)
    have hs9 := K9.out.size
    have hm9 := k9.size
    have Z9 := Lib.hid (k9.held (by omega) Z8.out)
    have E9 := Lib.hid (k9.held (by omega) E8.out)
    have Y9 := Lib.hid (Y8.out.turn (k9.stays_of (fun b (hb : (w5.heap.size ≤ b) ∧ b < w7.heap.size) => by omega)))
    clear h9 k9
    have HX9 := Lib.hid hR
    clear hR
    obtain ⟨l9, e9⟩ := x9
    have hmany : l9.length ≤ ts8.length := block_many HX9.out
    have hts := H8.out.good.1.1
    obtain ⟨A9, c9, rfl, ha⟩ := hv
    have hrw : ∀ g, blkOf A9 = some g → w8.heap.size ≤ g := fun g hg => (ha.place g hg).1
    have O9 := Lib.hid ha
    clear ha
    have hO := O9.out.turn turns_sm (w' := w9.alloc (.cells #[.int .i64 10, .int .i64 e9, .int .i64 0, .string ⟨#[]⟩, .string ⟨#[]⟩, .int .i64 0, .int .i64 0, .slice none 0 0, .string ⟨#[]⟩, .int .i64 0, .slice none 0 0, .slice none 0 0, .slice none 0 0] 49)) (fun b _ hlt => heap_alloc_old w9 _ hlt)
    have hC := new_cell w9 [.int .i64 10, .int .i64 e9, .int .i64 0, .string ⟨#[]⟩, .string ⟨#[]⟩, .int .i64 0, .int .i64 0, .slice none 0 0, .string ⟨#[]⟩, .int .i64 0, .slice none 0 0, .slice none 0 0, .slice none 0 0] 49
    have h10 := H9.out.alloc (.cells #[.int .i64 10, .int .i64 e9, .int .i64 0, .string ⟨#[]⟩, .string ⟨#[]⟩, .int .i64 0, .int .i64 0, .slice none 0 0, .string ⟨#[]⟩, .int .i64 0, .slice none 0 0, .slice none 0 0, .slice none 0 0] 49)
    have q10 := K9.out.alloc (.cells #[.int .i64 10, .int .i64 e9, .int .i64 0, .string ⟨#[]⟩, .string ⟨#[]⟩, .int .i64 0, .int .i64 0, .slice none 0 0, .string ⟨#[]⟩, .int .i64 0, .slice none 0 0, .slice none 0 0, .slice none 0 0] 49)
    have cZ10 := held_alloc (.cells #[.int .i64 10, .int .i64 e9, .int .i64 0, .string ⟨#[]⟩, .string ⟨#[]⟩, .int .i64 0, .int .i64 0, .slice none 0 0, .string ⟨#[]⟩, .int .i64 0, .slice none 0 0, .slice none 0 0, .slice none 0 0] 49) Z9.out
    have cE10 := held_alloc (.cells #[.int .i64 10, .int .i64 e9, .int .i64 0, .string ⟨#[]⟩, .string ⟨#[]⟩, .int .i64 0, .int .i64 0, .slice none 0 0, .string ⟨#[]⟩, .int .i64 0, .slice none 0 0, .slice none 0 0, .slice none 0 0] 49) E9.out
    have cQ10 := heap_alloc_new w9 (.cells #[.int .i64 10, .int .i64 e9, .int .i64 0, .string ⟨#[]⟩, .string ⟨#[]⟩, .int .i64 0, .int .i64 0, .slice none 0 0, .string ⟨#[]⟩, .int .i64 0, .slice none 0 0, .slice none 0 0, .slice none 0 0] 49)
    have cY10 := Y9.out.turn (stays_alloc (.cells #[.int .i64 10, .int .i64 e9, .int .i64 0, .string ⟨#[]⟩, .string ⟨#[]⟩, .int .i64 0, .int .i64 0, .slice none 0 0, .string ⟨#[]⟩, .int .i64 0, .slice none 0 0, .slice none 0 0, .slice none 0 0] 49))
    obtain ⟨w10, HW10⟩ : ∃ U, Hid (w9.alloc (.cells #[.int .i64 10, .int .i64 e9, .int .i64 0, .string ⟨#[]⟩, .string ⟨#[]⟩, .int .i64 0, .int .i64 0, .slice none 0 0, .string ⟨#[]⟩, .int .i64 0, .slice none 0 0, .slice none 0 0, .slice none 0 0] 49) = U) := ⟨_, Lib.hid rfl⟩
    rw [HW10.out] at h10 q10 cZ10 cE10 cQ10 cY10
    have H10 := Lib.hid h10
    have K10 := Lib.hid q10
    have Z10 := Lib.hid cZ10
    have E10 := Lib.hid cE10
    have Q10 := Lib.hid cQ10
    have Y10 := Lib.hid cY10
    have hs10 := K10.out.size
    have hz10 : w10.heap.size = w9.heap.size + 1 := by have hq := congrArg (fun x => x.heap.size) HW10.out; simp only [World.size_alloc] at hq; exact hq.symm
    have hm10 : w9.heap.size < w10.heap.size := by omega
    clear h10 q10 cZ10 cE10 cQ10 cY10
    rw [HW10.out] at hO
    have hC2 : ∀ j u, ([.int .i64 10, .int .i64 e9, .int .i64 0, .string ⟨#[]⟩, .string ⟨#[]⟩, .int .i64 0, .int .i64 0, .slice none 0 0, .string ⟨#[]⟩, .int .i64 0, .slice none 0 0, .slice none 0 0, .slice none 0 0] : List Value)[j]? = some u → w10.cell? ⟨w9.heap.size, j, none⟩ = some u := fun j u hu => by rw [← HW10.out]; exact hC j u hu
    have HO := Lib.hid hO
    have HC := Lib.hid hC2
    clear hO hC hC2
    obtain ⟨i, hi, hz, hsz, hby⟩ := info_sm
    go_wp2_with (first | (at_builtin; rw [HW10.out]; refine wpList_append_one turns_sm rfl _ _ 44 rfl i _ 192 Tryd.underlying44 hi hz hsz hby rfl (by omega) (by omega) HO.out rfl w9.heap.size 1 rfl [.int .i64 10, .int .i64 e9, .int .i64 0, .string ⟨#[]⟩, .string ⟨#[]⟩, .int .i64 0, .int .i64 0, .slice none 0 0, .string ⟨#[]⟩, .int .i64 0, .slice none 0 0, .slice none 0 0, .slice none 0 0] (.mk 10 e9 0 [] [] 0 0 [] [] 0 [] [] []) rfl HC.out (fun u hu => sm_oneCell hu) (by omega) (by omega) (SmIs.mk (A1 := none) (c1 := 0) (A2 := none) (c2 := 0) (A3 := none) (c3 := 0) (A4 := none) (c4 := 0) (ExsIs.nil _ _ _ _ (Nat.zero_le _)) (ExsIs.nil _ _ _ _ (Nat.zero_le _)) (SmsIs.nil _ _ _ _ (Nat.zero_le _)) (SmsIs.nil _ _ _ _ (Nat.zero_le _))) ?_; intro A11 c11 w11 hO hg hw; have O11 := Lib.hid hO; have H11 := Lib.hid (H10.out.grew H.out hg (fun g hgr => by have := hrw g hgr; omega)); have K11 := Lib.hid (K10.out.grown hg (fun g hgr => by have := hrw g hgr; omega)); have hs11 := K11.out.size; have hm11 := hg.size; have Z11 := Lib.hid ((hg.block w.heap.size (Array.getElem?_eq_some_iff.1 Z10.out).1 (fun e => by have := hrw _ e.symm; omega)).trans Z10.out); have E11 := Lib.hid ((hg.block (w.heap.size + 1) (Array.getElem?_eq_some_iff.1 E10.out).1 (fun e => by have := hrw _ e.symm; omega)).trans E10.out); have Y11 := Lib.hid (Y10.out.turn (fun b hb (hp : (w5.heap.size ≤ b) ∧ b < w7.heap.size) => ⟨hp, hg.block b hb (fun e => by have := hrw b e.symm; omega)⟩)); clear hO hg hw) | ((with_reducible show wpList _ _ _ (Oper.mk none (Op.store 44 _ _) _ _ _ none :: _) _ _); refine wpList_store_cell rfl rfl 44 _ _ rfl (w.heap.size + 1) 3 _ (.slice A11 (l9.length + 1) c11) rfl rfl E11.out (by simp) (by kernel_rfl) rfl ?_; intro w12 hU; have H12 := Lib.hid (H11.out.setC H.out (by omega) hU); have K12 := Lib.hid (K11.out.setC (by omega) hU); have hs12 := K12.out.size; have hm12 := Nat.le_of_eq hU.size.symm; have Z12 := Lib.hid (hU.held (by omega) Z11.out); have E12 := Lib.hid (show w12.heap[(w.heap.size + 1)]? = some (.cells #[.string ⟨x3.toArray⟩, .int .i64 t.line, .slice A6 x6.length c6, .slice A11 (l9.length + 1) c11] 46 (0, 0)) from hU.at_); have Y12 := Lib.hid (Y11.out.turn (hU.stays_of (fun b (hb : (w5.heap.size ≤ b) ∧ b < w7.heap.size) => by omega))); have B12 := Lib.hid (SmsIs.turn (w := w11) (p := fun b => w8.heap.size ≤ b) (O11.out.row turns_sm) (hU.stays_of (fun b (hb : w8.heap.size ≤ b) => by omega))); clear hU) | ((with_reducible show wpList _ _ _ (Oper.mk _ (Op.load 46 _) _ _ _ none :: _) _ _); refine wpList_load_all rfl 46 _ rfl (w.heap.size + 1) _ _ rfl E12.out Tryd.underlying46 rfl (by kernel_rfl) ?_) | ((with_reducible show wpList _ _ _ (Oper.mk none (Op.store 46 _ _) _ _ _ none :: _) _ _); refine wpList_store_all rfl rfl 46 _ _ rfl w.heap.size _ (#[.string ⟨x3.toArray⟩, .int .i64 t.line, .slice A6 x6.length c6, .slice A11 (l9.length + 1) c11]) rfl rfl Z12.out rfl (by kernel_rfl) (by simp [Value.oneCell']) ?_; intro U hU))
    (try simp only [Exit.inBlock, Exit.then])
    have hld := ret_all (P := Tryd.prog) 46 w.heap.size _ _ hU.at_ Tryd.underlying46 rfl (by kernel_rfl)
    refine bodyPost_ret (v := .agg #[.string ⟨x3.toArray⟩, .int .i64 t.line, .slice A6 x6.length c6, .slice A11 (l9.length + 1) c11]) (by simp [results, Tryd.results39, Act.put, asAddr, hld]) rfl ?_
    exact out_ok HR7.out.symm (⟨A6, c6, A11, c11, by simp, (Y12.out.turn (q := fun b => w.heap.size ≤ b) (fun b _ (hb : (w5.heap.size ≤ b) ∧ b < w7.heap.size) => ⟨by omega, hU.block b (by omega)⟩)), (B12.out.turn (q := fun b => w.heap.size ≤ b) (fun b _ (hb : w8.heap.size ≤ b) => ⟨by omega, hU.block b (by omega)⟩))⟩) (H12.out.setC H.out (Nat.le_refl _) hU) (K12.out.setC (Nat.le_refl _) hU)
end Go.Proofs.YtpfefjfpnmchcaaDoor
namespace Go.Proofs.YtpfefjfpnmchcaaDoor
open Go.RowKit

def PrgV (N : Nat) (w' : World) (v : Value) (x : Prg) : Prop := PrgIs w' (fun b => N ≤ b) v x
def progF (r : List Rec) (f : List Fun) (ts : List Tok) : Res Prg := if (hd ts).kind ≠ 0 then refuse 7 ts else .ok ⟨r, f⟩ ts
def progG (n : Nat) (r : List Rec) (ts : List Tok) : Res Prg := (funsP n [] ts).bind (progF r)
theorem progP_eq (n : Nat) (ts : List Tok) : progP n ts = (recsP n [] ts).bind (progG n) := rfl
theorem rec_oneCell {s : ByteArray} {A : Option Addr} {l c : Nat} {u : Value} (hu : u ∈ ([.string s, .slice A l c] : List Value)) : u.oneCell' = true := by
  simp only [List.mem_cons, List.not_mem_nil, or_false] at hu
  rcases hu with rfl | rfl <;> rfl
theorem fun_oneCell {s : ByteArray} {n : Int} {A B : Option Addr} {l c k d : Nat} {u : Value} (hu : u ∈ ([.string s, .int .i64 n, .slice A l c, .slice B k d] : List Value)) : u.oneCell' = true := by
  simp only [List.mem_cons, List.not_mem_nil, or_false] at hu
  rcases hu with rfl | rfl | rfl | rfl <;> rfl
theorem two_cells {w : World} {N : Nat} {a b : Value} {T : TypeId} (h : w.heap[N]? = some (.cells #[a, b] T (0, 0))) : w.cell? ⟨N, 0, none⟩ = some a ∧ w.cell? ⟨N, 1, none⟩ = some b :=
  ⟨by rw [cell_of_row w N 0 _ _ _ h]; rfl, by rw [cell_of_row w N 1 _ _ _ h]; rfl⟩

set_option maxHeartbeats 3200000 in
set_option maxRecDepth 100000 in
theorem program_any {m : Pm} {w : World} {ts : List Tok} (n : Nat) (hn : n ≤ 1000000000) (R : Res Prg) (h : PsAt m w 0 ts) (hR : Hid (progP n ts = R)) (hne : R ≠ .out) :
    Calls Tryd.prog 21 #[.pointer (some ⟨m.P, 0, none⟩)] w (Out m w 0 (PrgV w.heap.size) R) := by
  have hts := h.good.1.1
  have hR2 := hR.out
  rw [progP_eq] at hR2
  have HR0 := Lib.hid hR2
  clear hR hR2
  have hP := h.lt
  have H := Lib.hid h
  have h0 := h.alloc (.cells #[.slice none 0 0, .slice none 0 0] 28)
  have q0 := (Keeps.refl m.P w).alloc (.cells #[.slice none 0 0, .slice none 0 0] 28)
  have cZ0 := heap_alloc_new w (.cells #[.slice none 0 0, .slice none 0 0] 28)
  have hz0 : (w.alloc (.cells #[.slice none 0 0, .slice none 0 0] 28)).heap.size = w.heap.size + 1 := World.size_alloc _ _
  obtain ⟨w0, HW0⟩ : ∃ U, Hid (w.alloc (.cells #[.slice none 0 0, .slice none 0 0] 28) = U) := ⟨_, Lib.hid rfl⟩
  rw [HW0.out] at h0 q0 cZ0 hz0
  have H0 := Lib.hid h0
  have K0 := Lib.hid q0
  have Z0 := Lib.hid cZ0
  clear h h0 q0 cZ0
  go_enter Tryd.func21, Tryd.ntmps21
  go_wp2_with fail
  have h1 := H0.out.alloc (.cells #[.slice none 0 0, .slice none 0 0] 28)
  have q1 := K0.out.alloc (.cells #[.slice none 0 0, .slice none 0 0] 28)
  have cZ1 := held_alloc (.cells #[.slice none 0 0, .slice none 0 0] 28) Z0.out
  have cE1 := (show (w0.alloc (.cells #[.slice none 0 0, .slice none 0 0] 28)).heap[w.heap.size + 1]? = some (.cells #[.slice none 0 0, .slice none 0 0] 28 (0, 0)) from by rw [← hz0]; exact heap_alloc_new _ _)
  obtain ⟨w1, HW1⟩ : ∃ U, Hid (w0.alloc (.cells #[.slice none 0 0, .slice none 0 0] 28) = U) := ⟨_, Lib.hid rfl⟩
  rw [HW1.out] at h1 q1 cZ1 cE1
  have H1 := Lib.hid h1
  have K1 := Lib.hid q1
  have Z1 := Lib.hid cZ1
  have E1 := Lib.hid cE1
  have hs1 := K1.out.size
  have hz1 : w1.heap.size = w0.heap.size + 1 := by have hq := congrArg (fun x => x.heap.size) HW1.out; simp only [World.size_alloc] at hq; exact hq.symm
  have hm1 : w0.heap.size < w1.heap.size := by omega
  clear h1 q1 cZ1 cE1
  rw [HW0.out, HW1.out]
  go_loopg [] n (fun k wr => ∃ (A : Option Addr) (c : Nat) (acc : List Rec) (ts' : List Tok), wr.heap[w.heap.size + 1]? = some (.cells #[.slice A acc.length c, .slice none 0 0] 28 (0, 0)) ∧ wr.heap[w.heap.size]? = some (.cells #[.slice none 0 0, .slice none 0 0] 28 (0, 0)) ∧ OwnIs RecIs wr w1.heap.size 55 2 A c acc ∧ PsAt m wr 0 ts' ∧ Keeps m.P w wr ∧ w1.heap.size ≤ wr.heap.size ∧ (recsP k acc ts').bind (progG n) = R ∧ acc.length + ts'.length ≤ 2001)
  case atStart => exact ⟨none, 0, [], ts, E1.out, Z1.out, OwnIs.nil _ _ _ _ _, H1.out, K1.out, Nat.le_refl _, HR0.out, by simpa using hts⟩
  case round =>
    obtain ⟨A, c, acc, ts', hE, hZ, hO, hH, hK, hwz, hmore, hsum⟩ := hrel
    have E2 := Lib.hid hE
    have Z2 := Lib.hid hZ
    have O2 := Lib.hid hO
    have H2 := Lib.hid hH
    have K2 := Lib.hid hK
    have HM := Lib.hid hmore
    clear hE hZ hO hH hK hmore HR0
    cases gk with
    | zero => exact absurd (show R = .out from by have := HM.out; unfold recsP at this; exact this.symm) hne
    | succ gk =>
      have hm := HM.out
      unfold recsP at hm
      by_cases hx : (hd ts').text = [114, 101, 99, 111, 114, 100]
      · rw [if_pos hx, Res.bind_assoc] at hm
        have HM2 := Lib.hid hm
        have hq : ((hd ts').text == [114, 101, 99, 111, 114, 100]) = true := by simpa using hx
        clear hm HM
        have hp1 := len_pos (ts := ts') (.inr (by rw [hx]; simp))
        go_wp2_with fail
        refine (at_any H2.out [114, 101, 99, 111, 114, 100]).mono ?_
        rintro e w' ⟨rfl, hw'⟩
        have hw2 := hw'.symm
        clear hw'
        subst hw2
        clear hx
        go_wp2_with fail
        refine wp_region_O (S := fun w' => w'.cell? ⟨w.heap.size + 1, 0, none⟩ = some (.slice A acc.length c)) (L := [1, 3, 4, 5]) (by kernel_rfl) ?_
        refine wpAnyO_late (i := 0) (v := ?_) rfl (by kernel_rfl) (by kernel_rfl) (by kernel_rfl) (by kernel_rfl) (fun _ _ _ h => h) (Or.inl ⟨by rfl, ?_⟩) ?_
        rotate_left 1
        · intro w hSw
          clear hSw
          (go_simp) <;> (with_reducible rfl)
        (try simp only [Act.put]); (try simp only [List.getElem_toArray]); (try simp only [List.getElem_cons_succ]); (try simp only [List.getElem_cons_zero]); (try simp only [List.setIfInBounds_toArray]); (try simp only [List.set_cons_succ]); (try simp only [List.set_cons_zero])
        refine wpAnyO_late (i := 2) (v := ?_) rfl (by kernel_rfl) (by kernel_rfl) (by kernel_rfl) (by kernel_rfl) (fun _ _ _ h => h) (Or.inl ⟨by rfl, ?_⟩) ?_
        rotate_left 1
        · intro w hSw
          clear hSw
          (go_simp) <;> (with_reducible rfl)
        (try simp only [Act.put]); (try simp only [List.getElem_toArray]); (try simp only [List.getElem_cons_succ]); (try simp only [List.getElem_cons_zero]); (try simp only [List.setIfInBounds_toArray]); (try simp only [List.set_cons_succ]); (try simp only [List.set_cons_zero])
        have hS0 := (two_cells E2.out).1
        refine wpAnyO_take (i := 1) (v := ?_) rfl (by kernel_rfl) (by kernel_rfl) (by kernel_rfl) (by kernel_rfl) (by kernel_rfl) (fun _ _ _ h => h) (Or.inl ⟨by rfl, ?_⟩) (show (wr.drew).cell? _ = _ from hS0) ?_
        rotate_left 1
        · intro w' hSw
          (try dsimp only at hSw)
          (go_simp) <;> (with_reducible rfl)
        (try simp only [Act.put]); (try simp only [List.getElem_toArray]); (try simp only [List.getElem_cons_succ]); (try simp only [List.getElem_cons_zero]); (try simp only [List.setIfInBounds_toArray]); (try simp only [List.set_cons_succ]); (try simp only [List.set_cons_zero])
        obtain ⟨w3, HW3⟩ : ∃ U, Hid (wr.drew = U) := ⟨_, Lib.hid rfl⟩
        have H3 := Lib.hid (show PsAt m wr.drew 0 _ from H2.out.kept (Nat.le_refl _) fun _ _ => rfl)
        have K3 := Lib.hid K2.out.drew
        have E3 := Lib.hid (show (wr.drew).heap[w.heap.size + 1]? = _ from E2.out)
        have Z3 := Lib.hid (show (wr.drew).heap[w.heap.size]? = _ from Z2.out)
        have O3 := Lib.hid (O2.out.turn turns_rec (w' := wr.drew) (fun _ _ _ => rfl))
        rw [HW3.out] at H3 K3 E3 Z3 O3 ⊢
        have hm3 : w3.heap.size = wr.heap.size := by rw [← HW3.out]; rfl
        have hs3 := K3.out.size
        refine wpAnyO_ready (rs := [3]) (by kernel_rfl) (by simp) (AllO.cons rfl (fun K hK => ?_) AllO.nil)
        go_simp
        refine (record_any gk _ H3.out (Lib.hid rfl) (Res.live HM2.out hne)).mono ?_
        intro e w4 ho
        rcases ho.go with ⟨l, k, hR, rfl, k4⟩ | ⟨y, ts4, v4, hR, rfl, hv, h4, k4⟩
        · exact ⟨rfl, out_err (Res.fails HM2.out hR) (K3.out.trans k4)⟩
        have HR4 := Lib.hid (Res.behind HM2.out hR)
        have hl4 := rec_short hR
        have H4 := Lib.hid h4
        have K4 := Lib.hid (K3.out.trans k4)
        have hs4 := K4.out.size
        have hm4 := k4.size
        have E4 := Lib.hid (k4.held (by omega) E3.out)
        have Z4 := Lib.hid (k4.held (by omega) Z3.out)
        have hrow : ∀ g, blkOf A = some g → w1.heap.size ≤ g ∧ g < w3.heap.size := fun g hg => O3.out.place g hg
        have O4 := Lib.hid (O3.out.turn turns_rec (w' := w4) (fun b hb hlt => k4.block b hlt (by omega)))
        obtain ⟨rn, rf⟩ := y
        obtain ⟨A4, c4, rfl, ha⟩ := id hv
        have HV := Lib.hid (hv.turn (stays_alloc (.cells #[.string ⟨rn.toArray⟩, .slice A4 rf.length c4] 55)))
        clear h4 k4 hv ha hR
        refine hK.out _ _ (fun _ => (two_cells E4.out).1) ?_
        clear hK K
        (try dsimp only); (try simp only [List.getElem_toArray]); (try simp only [List.getElem_cons_succ]); (try simp only [List.getElem_cons_zero]); (try simp only [List.setIfInBounds_toArray]); (try simp only [List.set_cons_succ]); (try simp only [List.set_cons_zero])
        refine wpAnyO_ready (rs := [4]) (by kernel_rfl) (by simp) (AllO.cons rfl (fun K hK => ?_) AllO.nil)
        go_simp
        have h5 := H4.out.alloc (.cells #[.string ⟨rn.toArray⟩, .slice A4 rf.length c4] 55)
        have q5 := K4.out.alloc (.cells #[.string ⟨rn.toArray⟩, .slice A4 rf.length c4] 55)
        have e5 := held_alloc (.cells #[.string ⟨rn.toArray⟩, .slice A4 rf.length c4] 55) E4.out
        have z5 := held_alloc (.cells #[.string ⟨rn.toArray⟩, .slice A4 rf.length c4] 55) Z4.out
        have o5 := O4.out.turn turns_rec (w' := w4.alloc (.cells #[.string ⟨rn.toArray⟩, .slice A4 rf.length c4] 55)) (fun b hb hlt => heap_alloc_old w4 _ hlt)
        have n5 := new_cell w4 [.string ⟨rn.toArray⟩, .slice A4 rf.length c4] 55
        have x5 := HV.out
        obtain ⟨w5, HW5⟩ : ∃ U, Hid (w4.alloc (.cells #[.string ⟨rn.toArray⟩, .slice A4 rf.length c4] 55) = U) := ⟨_, Lib.hid rfl⟩
        have m5 : ∀ j u, ([.string ⟨rn.toArray⟩, .slice A4 rf.length c4] : List Value)[j]? = some u → w5.cell? ⟨w4.heap.size, j, none⟩ = some u := fun j u hu => by rw [← HW5.out]; exact n5 j u hu
        rw [HW5.out] at h5 q5 e5 z5 o5 x5 ⊢
        have H5 := Lib.hid h5
        have K5 := Lib.hid q5
        have E5 := Lib.hid e5
        have Z5 := Lib.hid z5
        have O5 := Lib.hid o5
        have X5 := Lib.hid x5
        have M5 := Lib.hid m5
        clear h5 q5 e5 z5 o5 n5 x5 m5
        have hz5 : w5.heap.size = w4.heap.size + 1 := by have hq := congrArg (fun x => x.heap.size) HW5.out; simp only [World.size_alloc] at hq; exact hq.symm
        refine hK.out _ _ (fun _ => (two_cells E5.out).1) ?_
        clear hK K
        (try simp only [Act.put]); (try simp only [List.getElem_toArray]); (try simp only [List.getElem_cons_succ]); (try simp only [List.getElem_cons_zero]); (try simp only [List.setIfInBounds_toArray]); (try simp only [List.set_cons_succ]); (try simp only [List.set_cons_zero])
        refine wpAnyO_ready (rs := [5]) (by kernel_rfl) (by simp) (AllO.cons rfl (fun K hK => ?_) AllO.nil)
        rw [if_pos (by rfl)]
        obtain ⟨i, hi, hz, hsz, hby⟩ := info_rec
        refine wp_append_one turns_rec _ _ 25 rfl i _ 40 Tryd.underlying25 hi hz hsz hby rfl (by omega) (by omega) O5.out rfl w4.heap.size 1 rfl [.string ⟨rn.toArray⟩, .slice A4 rf.length c4] (⟨rn, rf⟩ : Rec) rfl M5.out (fun u hu => rec_oneCell hu) (by omega) (by omega) (X5.out.turn (fun b hb hp => ⟨⟨by omega, fun e => by have := hrow b e.symm; omega⟩, rfl⟩)) ?_
        intro A' c' w6 hO hg hw
        have O6 := Lib.hid hO
        have H6 := Lib.hid (H5.out.grew H.out hg (fun g hgr => by have := hrow g hgr; omega))
        have K6 := Lib.hid (K5.out.grown hg (fun g hgr => by have := hrow g hgr; omega))
        have hm6 := hg.size
        have E6 := Lib.hid ((hg.block (w.heap.size + 1) (Array.getElem?_eq_some_iff.1 E5.out).1 (fun e => by have := hrow _ e.symm; omega)).trans E5.out)
        have Z6 := Lib.hid ((hg.block w.heap.size (Array.getElem?_eq_some_iff.1 Z5.out).1 (fun e => by have := hrow _ e.symm; omega)).trans Z5.out)
        clear hO hg hw
        refine hK.out _ _ (fun _ => (two_cells E6.out).1) ?_
        clear hK K
        (try simp only [Act.put]); (try simp only [List.getElem_toArray]); (try simp only [List.getElem_cons_succ]); (try simp only [List.getElem_cons_zero]); (try simp only [List.setIfInBounds_toArray]); (try simp only [List.set_cons_succ]); (try simp only [List.set_cons_zero])
        refine wpAnyO_late (i := 6) (v := ?_) rfl (by kernel_rfl) (by kernel_rfl) (by kernel_rfl) (by kernel_rfl) (fun _ _ _ h => h) (Or.inl ⟨by rfl, ?_⟩) ?_
        rotate_left 1
        · intro w hSw
          clear hSw
          (go_simp) <;> (with_reducible rfl)
        (try simp only [Act.put]); (try simp only [List.getElem_toArray]); (try simp only [List.getElem_cons_succ]); (try simp only [List.getElem_cons_zero]); (try simp only [List.setIfInBounds_toArray]); (try simp only [List.set_cons_succ]); (try simp only [List.set_cons_zero])
        refine wpAnyO_ready (rs := [7]) (by kernel_rfl) (by simp) (AllO.cons rfl (fun K hK => ?_) AllO.nil)
        rw [if_pos (by rfl)]
        refine wp_store_cell rfl 25 _ _ rfl (w.heap.size + 1) 0 _ (.slice A' (acc ++ [(⟨rn, rf⟩ : Rec)]).length c') rfl rfl E6.out (by simp) (by kernel_rfl) rfl ?_
        intro w7 hU
        have H7 := Lib.hid (H6.out.setC H.out (by omega) hU)
        have K7 := Lib.hid (K6.out.setC (by omega) hU)
        have hm7 := Nat.le_of_eq hU.size.symm
        have E7 := Lib.hid (show w7.heap[(w.heap.size + 1)]? = some (.cells #[.slice A' (acc ++ [(⟨rn, rf⟩ : Rec)]).length c', .slice none 0 0] 28 (0, 0)) from hU.at_)
        have Z7 := Lib.hid (hU.held (by omega) Z6.out)
        have O7 := Lib.hid (O6.out.turn turns_rec (w' := w7) (fun b hb hlt => hU.block b (by omega)))
        clear hU
        refine hK.out _ _ (fun hh => absurd hh (by decide)) ?_
        clear hK K
        refine wpAnyO_done (by kernel_rfl) ?_ _
        go_wp2_with fail
        go_roundg gk
        case measure => omega
        case rel => exact ⟨A', c', acc ++ [(⟨rn, rf⟩ : Rec)], ts4, E7.out, Z7.out, O7.out, H7.out, K7.out, by omega, HR4.out, by simp only [List.length_append, List.length_cons, List.length_nil]; omega⟩
      · rw [if_neg hx, Res.ok_bind] at hm
        have HM2 := Lib.hid hm
        have hq : ((hd ts').text == [114, 101, 99, 111, 114, 100]) = false := by simpa using hx
        clear hm HM
        go_wp2_with fail
        refine (at_any H2.out [114, 101, 99, 111, 114, 100]).mono ?_
        rintro e w' ⟨rfl, hw'⟩
        have hw2 := hw'.symm
        clear hw'
        subst hw2
        clear hx
        go_wp2_with fail
        clear hq
        obtain ⟨wf, hwf⟩ : ∃ x, x = wr := ⟨_, rfl⟩
        subst hwf
        obtain ⟨AR, hAR⟩ : ∃ x, x = A := ⟨_, rfl⟩
        subst hAR
        obtain ⟨cR, hcR⟩ : ∃ x, x = c := ⟨_, rfl⟩
        subst hcR
        obtain ⟨accR, haccR⟩ : ∃ x, x = acc := ⟨_, rfl⟩
        subst haccR
        obtain ⟨tsf, htsf⟩ : ∃ x, x = ts' := ⟨_, rfl⟩
        subst htsf
        have EF := E2
        have ZF := Z2
        have HF := H2
        have KF := K2
        have HRF : Hid ((funsP n [] tsf).bind (progF accR) = R) := HM2
        have RF := Lib.hid (RowIs.turn (w' := wf) (q := fun b => w1.heap.size ≤ b ∧ b < wf.heap.size) (fun b hb hp => ⟨⟨hp, hb⟩, rfl⟩) (fun _ _ hv => RecIs.turn (q := fun b => w1.heap.size ≤ b ∧ b < wf.heap.size) hv (fun b hb hp => ⟨⟨hp, hb⟩, rfl⟩)) (O2.out.row turns_rec))
        have hsf := KF.out.size
        clear E2 Z2 H2 K2 HM2 O2
        go_loopg [] n (fun k wr => ∃ (A : Option Addr) (c : Nat) (acc : List Fun) (ts' : List Tok), wr.heap[w.heap.size + 1]? = some (.cells #[.slice AR accR.length cR, .slice A acc.length c] 28 (0, 0)) ∧ wr.heap[w.heap.size]? = some (.cells #[.slice none 0 0, .slice none 0 0] 28 (0, 0)) ∧ OwnIs FunIs wr wf.heap.size 46 4 A c acc ∧ PsAt m wr 0 ts' ∧ Keeps m.P w wr ∧ wf.heap.size ≤ wr.heap.size ∧ (funsP k acc ts').bind (progF accR) = R ∧ acc.length + ts'.length ≤ 2001 ∧ k ≤ n ∧ RowIs (RecIs wr (fun b => w1.heap.size ≤ b ∧ b < wf.heap.size)) (fun b => w1.heap.size ≤ b ∧ b < wf.heap.size) wr 55 2 AR cR accR)
        case atStart => exact ⟨none, 0, [], tsf, EF.out, ZF.out, OwnIs.nil _ _ _ _ _, HF.out, KF.out, Nat.le_refl _, HRF.out, by simp only [List.length_nil]; omega, Nat.le_refl _, RF.out⟩
        case round =>
          obtain ⟨A, c, acc, ts', hE, hZ, hO, hH, hK, hwz, hmore, hsum, hkn, hRR⟩ := hrel
          have E2 := Lib.hid hE
          have Z2 := Lib.hid hZ
          have O2 := Lib.hid hO
          have H2 := Lib.hid hH
          have K2 := Lib.hid hK
          have HM := Lib.hid hmore
          have Q2 := Lib.hid hRR
          clear hE hZ hO hH hK hmore hRR EF ZF HF KF HRF RF
          cases gk with
          | zero => exact absurd (show R = .out from by have := HM.out; unfold funsP at this; exact this.symm) hne
          | succ gk =>
            have hm := HM.out
            unfold funsP at hm
            by_cases hx : (hd ts').text = [102, 117, 110, 99]
            · rw [if_pos hx, Res.bind_assoc] at hm
              have HM2 := Lib.hid hm
              have hq : ((hd ts').text == [102, 117, 110, 99]) = true := by simpa using hx
              clear hm HM
              have hp1 := len_pos (ts := ts') (.inr (by rw [hx]; simp))
              go_wp2_with fail
              refine (at_any H2.out [102, 117, 110, 99]).mono ?_
              rintro e w' ⟨rfl, hw'⟩
              have hw2 := hw'.symm
              clear hw'
              subst hw2
              clear hx
              go_wp2_with fail
              refine wp_region_O (S := fun w' => w'.cell? ⟨w.heap.size + 1, 1, none⟩ = some (.slice A acc.length c)) (L := [1, 3, 4, 5]) (by kernel_rfl) ?_
              refine wpAnyO_late (i := 0) (v := ?_) rfl (by kernel_rfl) (by kernel_rfl) (by kernel_rfl) (by kernel_rfl) (fun _ _ _ h => h) (Or.inl ⟨by rfl, ?_⟩) ?_
              rotate_left 1
              · intro w hSw
                clear hSw
                (go_simp) <;> (with_reducible rfl)
              (try simp only [Act.put]); (try simp only [List.getElem_toArray]); (try simp only [List.getElem_cons_succ]); (try simp only [List.getElem_cons_zero]); (try simp only [List.setIfInBounds_toArray]); (try simp only [List.set_cons_succ]); (try simp only [List.set_cons_zero])
              refine wpAnyO_late (i := 2) (v := ?_) rfl (by kernel_rfl) (by kernel_rfl) (by kernel_rfl) (by kernel_rfl) (fun _ _ _ h => h) (Or.inl ⟨by rfl, ?_⟩) ?_
              rotate_left 1
              · intro w hSw
                clear hSw
                (go_simp) <;> (with_reducible rfl)
              (try simp only [Act.put]); (try simp only [List.getElem_toArray]); (try simp only [List.getElem_cons_succ]); (try simp only [List.getElem_cons_zero]); (try simp only [List.setIfInBounds_toArray]); (try simp only [List.set_cons_succ]); (try simp only [List.set_cons_zero])
              have hS0 := (two_cells E2.out).2
              refine wpAnyO_take (i := 1) (v := ?_) rfl (by kernel_rfl) (by kernel_rfl) (by kernel_rfl) (by kernel_rfl) (by kernel_rfl) (fun _ _ _ h => h) (Or.inl ⟨by rfl, ?_⟩) (show (wr.drew).cell? _ = _ from hS0) ?_
              rotate_left 1
              · intro w' hSw
                (try dsimp only at hSw)
                (go_simp) <;> (with_reducible rfl)
              (try simp only [Act.put]); (try simp only [List.getElem_toArray]); (try simp only [List.getElem_cons_succ]); (try simp only [List.getElem_cons_zero]); (try simp only [List.setIfInBounds_toArray]); (try simp only [List.set_cons_succ]); (try simp only [List.set_cons_zero])
              obtain ⟨w3, HW3⟩ : ∃ U, Hid (wr.drew = U) := ⟨_, Lib.hid rfl⟩
              have H3 := Lib.hid (show PsAt m wr.drew 0 _ from H2.out.kept (Nat.le_refl _) fun _ _ => rfl)
              have K3 := Lib.hid K2.out.drew
              have E3 := Lib.hid (show (wr.drew).heap[w.heap.size + 1]? = _ from E2.out)
              have Z3 := Lib.hid (show (wr.drew).heap[w.heap.size]? = _ from Z2.out)
              have O3 := Lib.hid (O2.out.turn turns_fun (w' := wr.drew) (fun _ _ _ => rfl))
              have Q3 := Lib.hid (RowIs.turn (P' := RecIs wr.drew (fun b => w1.heap.size ≤ b ∧ b < wf.heap.size)) (w' := wr.drew) (q := fun b => w1.heap.size ≤ b ∧ b < wf.heap.size) (fun _ _ hp => ⟨hp, rfl⟩) (fun _ _ hv => RecIs.turn hv (fun _ _ hp => ⟨hp, rfl⟩)) Q2.out)
              rw [HW3.out] at H3 K3 E3 Z3 O3 Q3 ⊢
              have hm3 : w3.heap.size = wr.heap.size := by rw [← HW3.out]; rfl
              have hs3 := K3.out.size
              refine wpAnyO_ready (rs := [3]) (by kernel_rfl) (by simp) (AllO.cons rfl (fun K hK => ?_) AllO.nil)
              go_simp
              refine (function_any gk (by omega) _ H3.out (Lib.hid rfl) (Res.live HM2.out hne)).mono ?_
              intro e w4 ho
              rcases ho.go with ⟨l, k, hR, rfl, k4⟩ | ⟨y, ts4, v4, hR, rfl, hv, h4, k4⟩
              · exact ⟨rfl, out_err (Res.fails HM2.out hR) (K3.out.trans k4)⟩
              have HR4 := Lib.hid (Res.behind HM2.out hR)
              have hl4 := fun_short hR
              have H4 := Lib.hid h4
              have K4 := Lib.hid (K3.out.trans k4)
              have hs4 := K4.out.size
              have hm4 := k4.size
              have E4 := Lib.hid (k4.held (by omega) E3.out)
              have Z4 := Lib.hid (k4.held (by omega) Z3.out)
              have hrow : ∀ g, blkOf A = some g → wf.heap.size ≤ g ∧ g < w3.heap.size := fun g hg => O3.out.place g hg
              have O4 := Lib.hid (O3.out.turn turns_fun (w' := w4) (fun b hb hlt => k4.block b hlt (by omega)))
              have Q4 := Lib.hid (RowIs.turn (w' := w4) (q := fun b => w1.heap.size ≤ b ∧ b < wf.heap.size) (fun b hb hp => ⟨hp, k4.block b hb (by omega)⟩) (fun _ _ hv => RecIs.turn (q := fun b => w1.heap.size ≤ b ∧ b < wf.heap.size) hv (fun b hb hp => ⟨hp, k4.block b hb (by omega)⟩)) Q3.out)
              obtain ⟨fn, fl, fp, fb⟩ := y
              obtain ⟨A4, c4, B4, d4, rfl, ha⟩ := id hv
              have HV := Lib.hid (hv.turn (stays_alloc (.cells #[.string ⟨fn.toArray⟩, .int .i64 fl, .slice A4 fp.length c4, .slice B4 fb.length d4] 46)))
              clear h4 k4 hv ha hR
              refine hK.out _ _ (fun _ => (two_cells E4.out).2) ?_
              clear hK K
              (try dsimp only); (try simp only [List.getElem_toArray]); (try simp only [List.getElem_cons_succ]); (try simp only [List.getElem_cons_zero]); (try simp only [List.setIfInBounds_toArray]); (try simp only [List.set_cons_succ]); (try simp only [List.set_cons_zero])
              refine wpAnyO_ready (rs := [4]) (by kernel_rfl) (by simp) (AllO.cons rfl (fun K hK => ?_) AllO.nil)
              go_simp
              have h5 := H4.out.alloc (.cells #[.string ⟨fn.toArray⟩, .int .i64 fl, .slice A4 fp.length c4, .slice B4 fb.length d4] 46)
              have q5 := K4.out.alloc (.cells #[.string ⟨fn.toArray⟩, .int .i64 fl, .slice A4 fp.length c4, .slice B4 fb.length d4] 46)
              have e5 := held_alloc (.cells #[.string ⟨fn.toArray⟩, .int .i64 fl, .slice A4 fp.length c4, .slice B4 fb.length d4] 46) E4.out
              have z5 := held_alloc (.cells #[.string ⟨fn.toArray⟩, .int .i64 fl, .slice A4 fp.length c4, .slice B4 fb.length d4] 46) Z4.out
              have o5 := O4.out.turn turns_fun (w' := w4.alloc (.cells #[.string ⟨fn.toArray⟩, .int .i64 fl, .slice A4 fp.length c4, .slice B4 fb.length d4] 46)) (fun b hb hlt => heap_alloc_old w4 _ hlt)
              have n5 := new_cell w4 [.string ⟨fn.toArray⟩, .int .i64 fl, .slice A4 fp.length c4, .slice B4 fb.length d4] 46
              have x5 := HV.out
              have r5 := RowIs.turn (q := fun b => w1.heap.size ≤ b ∧ b < wf.heap.size) (fun b hb hp => ⟨hp, heap_alloc_old w4 (.cells #[.string ⟨fn.toArray⟩, .int .i64 fl, .slice A4 fp.length c4, .slice B4 fb.length d4] 46) hb⟩) (fun _ _ hv => RecIs.turn (q := fun b => w1.heap.size ≤ b ∧ b < wf.heap.size) hv (fun b hb hp => ⟨hp, heap_alloc_old w4 (.cells #[.string ⟨fn.toArray⟩, .int .i64 fl, .slice A4 fp.length c4, .slice B4 fb.length d4] 46) hb⟩)) Q4.out
              obtain ⟨w5, HW5⟩ : ∃ U, Hid (w4.alloc (.cells #[.string ⟨fn.toArray⟩, .int .i64 fl, .slice A4 fp.length c4, .slice B4 fb.length d4] 46) = U) := ⟨_, Lib.hid rfl⟩
              have m5 : ∀ j u, ([.string ⟨fn.toArray⟩, .int .i64 fl, .slice A4 fp.length c4, .slice B4 fb.length d4] : List Value)[j]? = some u → w5.cell? ⟨w4.heap.size, j, none⟩ = some u := fun j u hu => by rw [← HW5.out]; exact n5 j u hu
              rw [HW5.out] at h5 q5 e5 z5 o5 x5 r5 ⊢
              have H5 := Lib.hid h5
              have K5 := Lib.hid q5
              have E5 := Lib.hid e5
              have Z5 := Lib.hid z5
              have O5 := Lib.hid o5
              have X5 := Lib.hid x5
              have M5 := Lib.hid m5
              have Q5 := Lib.hid r5
              clear h5 q5 e5 z5 o5 n5 x5 m5 r5
              have hz5 : w5.heap.size = w4.heap.size + 1 := by have hq := congrArg (fun x => x.heap.size) HW5.out; simp only [World.size_alloc] at hq; exact hq.symm
              refine hK.out _ _ (fun _ => (two_cells E5.out).2) ?_
              clear hK K
              (try simp only [Act.put]); (try simp only [List.getElem_toArray]); (try simp only [List.getElem_cons_succ]); (try simp only [List.getElem_cons_zero]); (try simp only [List.setIfInBounds_toArray]); (try simp only [List.set_cons_succ]); (try simp only [List.set_cons_zero])
              refine wpAnyO_ready (rs := [5]) (by kernel_rfl) (by simp) (AllO.cons rfl (fun K hK => ?_) AllO.nil)
              rw [if_pos (by rfl)]
              obtain ⟨i, hi, hz, hsz, hby⟩ := info_fun
              refine wp_append_one turns_fun _ _ 26 rfl i _ 72 Tryd.underlying26 hi hz hsz hby rfl (by omega) (by omega) O5.out rfl w4.heap.size 1 rfl [.string ⟨fn.toArray⟩, .int .i64 fl, .slice A4 fp.length c4, .slice B4 fb.length d4] (⟨fn, fl, fp, fb⟩ : Fun) rfl M5.out (fun u hu => fun_oneCell hu) (by omega) (by omega) (X5.out.turn (fun b hb hp => ⟨⟨by omega, fun e => by have := hrow b e.symm; omega⟩, rfl⟩)) ?_
              intro A' c' w6 hO hg hw
              have O6 := Lib.hid hO
              have H6 := Lib.hid (H5.out.grew H.out hg (fun g hgr => by have := hrow g hgr; omega))
              have K6 := Lib.hid (K5.out.grown hg (fun g hgr => by have := hrow g hgr; omega))
              have hm6 := hg.size
              have E6 := Lib.hid ((hg.block (w.heap.size + 1) (Array.getElem?_eq_some_iff.1 E5.out).1 (fun e => by have := hrow _ e.symm; omega)).trans E5.out)
              have Z6 := Lib.hid ((hg.block w.heap.size (Array.getElem?_eq_some_iff.1 Z5.out).1 (fun e => by have := hrow _ e.symm; omega)).trans Z5.out)
              have Q6 := Lib.hid (RowIs.turn (q := fun b => w1.heap.size ≤ b ∧ b < wf.heap.size) (fun b hb hp => ⟨hp, hg.block b hb (fun e => by have := hrow b e.symm; omega)⟩) (fun _ _ hv => RecIs.turn (q := fun b => w1.heap.size ≤ b ∧ b < wf.heap.size) hv (fun b hb hp => ⟨hp, hg.block b hb (fun e => by have := hrow b e.symm; omega)⟩)) Q5.out)
              clear hO hg hw
              refine hK.out _ _ (fun _ => (two_cells E6.out).2) ?_
              clear hK K
              (try simp only [Act.put]); (try simp only [List.getElem_toArray]); (try simp only [List.getElem_cons_succ]); (try simp only [List.getElem_cons_zero]); (try simp only [List.setIfInBounds_toArray]); (try simp only [List.set_cons_succ]); (try simp only [List.set_cons_zero])
              refine wpAnyO_late (i := 6) (v := ?_) rfl (by kernel_rfl) (by kernel_rfl) (by kernel_rfl) (by kernel_rfl) (fun _ _ _ h => h) (Or.inl ⟨by rfl, ?_⟩) ?_
              rotate_left 1
              · intro w hSw
                clear hSw
                (go_simp) <;> (with_reducible rfl)
              (try simp only [Act.put]); (try simp only [List.getElem_toArray]); (try simp only [List.getElem_cons_succ]); (try simp only [List.getElem_cons_zero]); (try simp only [List.setIfInBounds_toArray]); (try simp only [List.set_cons_succ]); (try simp only [List.set_cons_zero])
              refine wpAnyO_ready (rs := [7]) (by kernel_rfl) (by simp) (AllO.cons rfl (fun K hK => ?_) AllO.nil)
              rw [if_pos (by rfl)]
              refine wp_store_cell rfl 26 _ _ rfl (w.heap.size + 1) 1 _ (.slice A' (acc ++ [(⟨fn, fl, fp, fb⟩ : Fun)]).length c') rfl rfl E6.out (by simp) (by kernel_rfl) rfl ?_
              intro w7 hU
              have H7 := Lib.hid (H6.out.setC H.out (by omega) hU)
              have K7 := Lib.hid (K6.out.setC (by omega) hU)
              have hm7 := Nat.le_of_eq hU.size.symm
              have E7 := Lib.hid (show w7.heap[(w.heap.size + 1)]? = some (.cells #[.slice AR accR.length cR, .slice A' (acc ++ [(⟨fn, fl, fp, fb⟩ : Fun)]).length c'] 28 (0, 0)) from hU.at_)
              have Z7 := Lib.hid (hU.held (by omega) Z6.out)
              have O7 := Lib.hid (O6.out.turn turns_fun (w' := w7) (fun b hb hlt => hU.block b (by omega)))
              have Q7 := Lib.hid (RowIs.turn (q := fun b => w1.heap.size ≤ b ∧ b < wf.heap.size) (fun b hb hp => ⟨hp, hU.block b (by omega)⟩) (fun _ _ hv => RecIs.turn (q := fun b => w1.heap.size ≤ b ∧ b < wf.heap.size) hv (fun b hb hp => ⟨hp, hU.block b (by omega)⟩)) Q6.out)
              clear hU
              refine hK.out _ _ (fun hh => absurd hh (by decide)) ?_
              clear hK K
              refine wpAnyO_done (by kernel_rfl) ?_ _
              go_wp2_with fail
              go_roundg gk
              case measure => omega
              case rel => exact ⟨A', c', acc ++ [(⟨fn, fl, fp, fb⟩ : Fun)], ts4, E7.out, Z7.out, O7.out, H7.out, K7.out, by omega, HR4.out, by simp only [List.length_append, List.length_cons, List.length_nil]; omega, by omega, Q7.out⟩
            · rw [if_neg hx, Res.ok_bind] at hm
              have HM2 := Lib.hid hm
              have hq : ((hd ts').text == [102, 117, 110, 99]) = false := by simpa using hx
              clear hm HM
              go_wp2_with fail
              refine (at_any H2.out [102, 117, 110, 99]).mono ?_
              rintro e w' ⟨rfl, hw'⟩
              have hw2 := hw'.symm
              clear hw'
              subst hw2
              clear hx
              have HRE := HM2
              obtain ⟨t, rest, rfl⟩ := H2.out.good.cons
              obtain ⟨o, c9, ⟨p0, p1, p2, t0, t1, t2, t3, hle, hc, _, _⟩, _⟩ := H2.out.head
              have hP2 := H2.out.lt
              have hT2 := H2.out.tok.1
              by_cases hk : t.kind = 0
              · have hq0 : ((t.kind : Int) != 0) = false := by rw [hk]; rfl
                have hfin := HRE.out
                rw [progF, if_neg (show ¬ (hd (t :: rest)).kind ≠ 0 from fun e => e hk)] at hfin
                have HR9 := Lib.hid hfin
                clear hfin hk HRE HM2
                go_wp2_with (first | ((with_reducible show wpList _ _ _ (Oper.mk _ (Op.load 28 _) _ _ _ none :: _) _ _); refine wpList_load_all rfl 28 _ rfl (w.heap.size + 1) _ _ rfl E2.out Tryd.underlying28 rfl (by kernel_rfl) ?_) | ((with_reducible show wpList _ _ _ (Oper.mk none (Op.store 28 _ _) _ _ _ none :: _) _ _); refine wpList_store_all rfl rfl 28 _ _ rfl w.heap.size _ (#[.slice AR accR.length cR, .slice A acc.length c]) rfl rfl Z2.out rfl (by kernel_rfl) (by simp [Value.oneCell']) ?_; intro U hU))
                (try simp only [Exit.inBlock, Exit.then])
                have hld := ret_all (P := Tryd.prog) 28 w.heap.size _ _ hU.at_ Tryd.underlying28 rfl (by kernel_rfl)
                refine bodyPost_ret (v := .agg #[.slice AR accR.length cR, .slice A acc.length c]) (by simp [results, Tryd.results21, Act.put, asAddr, hld]) rfl ?_
                exact out_ok HR9.out.symm (⟨AR, cR, A, c, rfl, RowIs.turn (q := fun b => w.heap.size ≤ b) (fun b hb hp => ⟨by omega, hU.block b (by omega)⟩) (fun _ _ hv => RecIs.turn hv (fun b hb hp => ⟨by omega, hU.block b (by omega)⟩)) Q2.out, RowIs.turn (q := fun b => w.heap.size ≤ b) (fun b hb hp => ⟨by omega, hU.block b (by omega)⟩) (fun _ _ hv => FunIs.turn hv (fun b hb hp => ⟨by omega, hU.block b (by omega)⟩)) (O2.out.row turns_fun)⟩) (H2.out.setC H.out (Nat.le_refl _) hU) (K2.out.setC (Nat.le_refl _) hU)
              · have hq0 : ((t.kind : Int) != 0) = true := by simp; omega
                have hfin := HRE.out
                rw [progF, if_pos (show (hd (t :: rest)).kind ≠ 0 from hk)] at hfin
                have HR9 := Lib.hid hfin
                clear hfin hk HRE HM2
                go_wp2_with fail
                refine (refuse_any H2.out 7).mono ?_
                rintro e w' ⟨rfl, hb⟩
                exact ⟨rfl, out_err (HR9.out.symm) (K2.out.trans (Keeps.below hb))⟩
end Go.Proofs.YtpfefjfpnmchcaaDoor
namespace Go.Proofs.YtpfefjfpnmchcaaDoor
open Go.RowKit

theorem take_small (n : Nat) (l : List UInt8) (h : n ≤ 4000) : (l.take n).length ≤ 4000 := by simp; omega
theorem fst_text (l : List UInt8) : (fst l).text.length ≤ 4000 := by
  unfold fst
  split
  · simp
  · split
    · unfold fstNum
      split
      · simp
      · split <;> simp
    · split
      · unfold fstName
        split
        · simp
        · exact take_small _ _ (by omega)
      · unfold fstSign
        split
        · simp
        · rename_i c l _ _ _
          have := (sign_le (c :: l)).2
          show (sign (c :: l)).length ≤ 4000
          omega
theorem scanF_good : ∀ (f : Nat) (l : List UInt8) (line : Nat) (acc : List Tok), l.length < f → acc.length ≤ 2000 → (∀ t ∈ acc, t.text.length ≤ 4000) → (scanF f l line acc).2.2 = 0 → Good (scanF f l line acc).1
  | 0, _, _, _, h, _, _, _ => absurd h (Nat.not_lt_zero _)
  | f + 1, l, line, acc, hf, hn, hacc, h => by
    unfold scanF at h ⊢
    split
    · exact ⟨⟨by simp; omega, fun t ht => by
        rcases List.mem_append.1 ht with ht | ht
        · exact hacc t ht
        · obtain rfl : t = _ := by simpa using ht
          simp⟩, acc, _, rfl⟩
    · rename_i h1
      rw [if_neg h1] at h
      split
      · rename_i h2
        rw [if_pos h2] at h
        exact absurd h h2
      · rename_i h2
        rw [if_neg h2] at h
        split
        · rename_i h3
          rw [if_pos h3] at h
          exact absurd h (by simp)
        · rename_i h3
          rw [if_neg h3] at h
          have hsz := fst_size (l.drop (gap false l).1) (by simpa using h2)
          refine scanF_good f _ _ _ ?_ (by simp; omega) (fun t ht => ?_) h
          · simp only [List.length_drop] at hsz ⊢
            omega
          · rcases List.mem_append.1 ht with ht | ht
            · exact hacc t ht
            · obtain rfl : t = _ := by simpa using ht
              exact fst_text _
theorem scan_good (l : List UInt8) (h : (scan l).2.2 = 0) : Good (scan l).1 := by
  unfold scan at h ⊢
  split
  · rename_i h1
    rw [if_pos h1] at h
    exact absurd h (by decide)
  · rename_i h1
    rw [if_neg h1] at h
    exact scanF_good _ _ _ _ (by omega) (by simp) (by simp) h
/-- The parser that is made of the tokens. -/
theorem psAt_made {w : World} {A : Option Addr} {C P M : Nat} {ts : List Tok} {B : Nat} (hB : B ≤ P) (ht : Toks w B A C ts) (hg : Good ts) (hP : w.heap[P]? = some (.cells #[.slice A ts.length C, .int .i64 0, .map (some M)] 68 (0, 0))) (hM : FnsAt w M) (hMP : M ≠ P) (ho : OpersAt w) (ha : 2 < P) :
    ∃ T, A = some ⟨T, 0, none⟩ ∧ PsAt ⟨P, T, M⟩ w 0 ts := by
  obtain ⟨t, rest, rfl⟩ := hg.cons
  obtain ⟨b, rfl, hb, hc⟩ := ht.at_ (by simp)
  have hPl := (Array.getElem?_eq_some_iff.1 hP).1
  refine ⟨b, rfl, ⟨⟨0, C, hP, ht.len, ht.cap, fun k u hku => ?_⟩, ⟨by show b < _; omega, by show b ≠ P; omega⟩, ⟨hM.lt, hMP⟩, hM, ho, ha, hg⟩⟩
  obtain ⟨h1, h2, h3, h4⟩ := hc k u hku
  simp only [Nat.zero_add]
  exact ⟨h1, h2, h3, h4⟩
end Go.Proofs.YtpfefjfpnmchcaaDoor
namespace Go.Proofs.YtpfefjfpnmchcaaDoor
open Go.RowKit

theorem below_setC {B N : Nat} {cs : Array Value} {T : TypeId} {w w' U : World} (h : Below B w w') (hN : B ≤ N) (hU : SetC N cs T w' U) : Below B w U :=
  ⟨hU.os.trans h.os, hU.tape.trans h.tape, hU.output.trans h.output, by rw [hU.size]; exact h.size, fun k hk => (hU.block k (by omega)).trans (h.block k hk)⟩
/-- A region that begins with recover, and what follows it: the rest of the walk is a plain one. -/
theorem wpS_recover {P : Program} {Q : Exit → Act → List Frame → World → Prop} {a : Act} {cs cs' : List Frame} {w w' : World} {id : Nat} {ops : Array Oper} {o : Oper} {rest : List Oper} {y : Code} {v : Value} (hl : ops.toList = o :: rest) (hwa : Region.wanted o (yielded ops a.tmps) = true) (hrun : (execOp a.eval o).run P w = .ok .recover w') (hv : (recoverD cs = some (v, cs')) ∨ (recoverD cs = none ∧ v = .nilIface ∧ cs' = cs))
    (h : wpList P ops (Exit.then (y.wp P (fun e a' w' => Q e a' cs' w')) (fun e a' w' => Q e a' cs' w')) rest (a.put o.dst v) w') : (Code.seq (Code.region id ops false) y).wpS P Q a cs w := by
  intro b k hb hr
  have hsz : ops.size = rest.length + 1 := by rw [← Array.length_toList, hl]; rfl
  have h0 : ops[0]? = some o := by rw [← Array.getElem?_toList, hl]; rfl
  have hr1 : List.range ops.size = 0 :: List.range' 1 rest.length := by rw [hsz, List.range_eq_range', List.range'_succ]
  rw [← wpOps_eq_wpList rest 1 (fun j => by rw [← Array.getElem?_toList, hl, Nat.add_comm]; rfl)] at h
  obtain ⟨e, a₁, w₁, hq, harr⟩ := wp_ops _ _ _ h b (.code y :: k) cs'
  have hs1 : step P (lone (b.at a (.code (.region id ops false) :: .code y :: k)) cs w) = .next (lone (b.at a (.inRegion ops (0 :: List.range' 1 rest.length) :: .code y :: k)) cs w) := by
    rw [← hr1]
    exact step_region
  have hs2 : step P (lone (b.at a (.inRegion ops (0 :: List.range' 1 rest.length) :: .code y :: k)) cs w) = .next (lone (b.at (a.put o.dst v) (.inRegion ops (List.range' 1 rest.length) :: .code y :: k)) cs' w') := by
    have hg := stepG_op (P := P) (b := b) (k := .code y :: k) (cs := cs) (w := w) (rest := List.range' 1 rest.length) h0 hwa
    have hfin : ∀ v, (b.at a (.inRegion ops (0 :: List.range' 1 rest.length) :: .code y :: k)).finish v = b.at (a.put o.dst v) (.inRegion ops (List.range' 1 rest.length) :: .code y :: k) := by
      intro v; rw [Frame.finish_at, h0]; rfl
    have hk : (b.at a (.inRegion ops (0 :: List.range' 1 rest.length) :: .code y :: k)).kind = .deferred := hb
    have htr := tryRecover_deferred hk cs
    refine step_lone_go ?_
    rw [hg, ← hfin]
    simp only [Frame.at] at htr ⊢
    rcases hv with hv | ⟨hv, rfl, rfl⟩
    · simp [stepG.apply, hrun, htr, hv]
    · simp [stepG.apply, hrun, htr, hv]
  cases e with
  | normal =>
    obtain ⟨e₂, a₂, w₂, hq₂, harr₂⟩ := hq b k cs'
    exact ⟨e₂, a₂, cs', w₂, hq₂, .of_steps (.head step_seq (.head hs1 (.head hs2 harr))) harr₂⟩
  | exit id => exact ⟨_, a₁, cs', w₁, hq, .of_steps (.head step_seq (.head hs1 (.one hs2))) (.pass (x := .code y) rfl (fun _ _ => .inl (by simp)) harr)⟩
  | goto l => exact ⟨_, a₁, cs', w₁, hq, .of_steps (.head step_seq (.head hs1 (.one hs2))) (.pass (x := .code y) rfl (fun _ _ => .inl (by simp)) harr)⟩
  | ret => exact ⟨_, a₁, cs', w₁, hq, .of_steps (.head step_seq (.head hs1 (.one hs2))) (.pass (x := .code y) rfl (fun _ _ => .inl (by simp)) harr)⟩
  | panic ch => exact ⟨_, a₁, cs', w₁, hq, .of_steps (.head step_seq (.head hs1 (.one hs2))) (.pass (x := .code y) rfl (fun _ _ => .inl (by simp)) harr)⟩
  | outgrown => exact ⟨_, a₁, cs', w₁, hq, .of_steps (.head step_seq (.head hs1 (.one hs2))) (.pass (x := .code y) rfl (fun _ _ => .inl (by simp)) harr)⟩

theorem assert_yes (v : Value) (x : TypeId) (W : World) : (Instr.typeAssert (.iface 62 v) x 62 true).run Tryd.prog W = .ok (.tuple #[v, .bool true]) W := by kernel_rfl
theorem assert_nil (x : TypeId) (W : World) : (Instr.typeAssert .nilIface x 62 true).run Tryd.prog W = .ok (.tuple #[.agg #[.int .i64 0, .int .i64 0], .bool false]) W := by kernel_rfl
set_option maxHeartbeats 1600000 in
set_option maxRecDepth 100000 in
theorem catch_refusal {w : World} (N l k : Nat) (p0 p1 x1 x2 : Value) (h0 : w.heap[N]? = some (.cells #[p0, p1] 28 (0, 0))) (h1 : w.heap[N + 1]? = some (.cells #[x1] 3 (0, 0))) (h2 : w.heap[N + 1 + 1]? = some (.cells #[x2] 29 (0, 0))) :
    CallsD Tryd.prog 19 #[.pointer (some ⟨N, 0, none⟩), .pointer (some ⟨N + 1, 0, none⟩), .pointer (some ⟨N + 1 + 1, 0, none⟩)] (.panicking [refusal l k]) w fun e u' w' =>
      e = .returned (.tuple #[]) ∧ u' = .panicking [{ refusal l k with recovered := true }] ∧ w'.heap[N]? = some (.cells #[.slice none 0 0, .slice none 0 0] 28 (0, 0)) ∧ w'.heap[N + 1]? = some (.cells #[.int .i64 l] 3 (0, 0)) ∧ w'.heap[N + 1 + 1]? = some (.cells #[.int .i64 k] 29 (0, 0)) ∧ Below N w w' := by
  refine callsD_of_wpS Tryd.func19 rfl fun c₀ cs hu => ?_
  refine wpS_recover (v := (refusal l k).v) (cs' := { c₀ with mode := .panicking [{ refusal l k with recovered := true }] } :: cs) rfl (by rfl) rfl (.inl (by simp [recoverD, hu, refusal])) ?_
  have ha := assert_yes
  change wpList _ _ _ _ (⟨#[.pointer (some ⟨N, 0, none⟩), .pointer (some ⟨N + 1, 0, none⟩), .pointer (some ⟨N + 1 + 1, 0, none⟩), undef, undef, undef, (refusal l k).v, undef, undef, undef, undef, undef, undef, undef, undef, undef], []⟩ : Act) _
  dsimp only [refusal]
  go_wp2_with fail
  have hN2 := (Array.getElem?_eq_some_iff.1 h2).1
  have g0 := held_alloc (.cells #[.int .i64 l, .int .i64 k] 62) h0
  have g1 := held_alloc (.cells #[.int .i64 l, .int .i64 k] 62) h1
  have g2 := held_alloc (.cells #[.int .i64 l, .int .i64 k] 62) h2
  have g3 := heap_alloc_new w (.cells #[.int .i64 l, .int .i64 k] 62)
  have hb := (Below.refl N w).alloc (by omega) (.cells #[.int .i64 l, .int .i64 k] 62)
  obtain ⟨w6, HW⟩ : ∃ U, Hid (w.alloc (.cells #[.int .i64 l, .int .i64 k] 62) = U) := ⟨_, Lib.hid rfl⟩
  rw [HW.out] at g0 g1 g2 g3 hb
  rw [HW.out]
  have G0 := Lib.hid g0
  have G1 := Lib.hid g1
  have G2 := Lib.hid g2
  have B6 := Lib.hid hb
  obtain ⟨ge, gl⟩ := two_cells g3
  clear g0 g1 g2 g3 hb h0 h1 h2
  obtain ⟨g0a, g0b⟩ := two_cells G0.out
  have fz0 : ∀ j, w6.frozen? ⟨N, j, none⟩ = false := fun j => by rw [World.frozen?]; simp only [G0.out]; simp
  have fz1 : w6.frozen? ⟨N + 1, 0, none⟩ = false := by rw [World.frozen?]; simp only [G1.out]; simp
  have fz2 : w6.frozen? ⟨N + 1 + 1, 0, none⟩ = false := by rw [World.frozen?]; simp only [G2.out]; simp
  have fa := fz0 0
  have fb := fz0 1
  clear fz0
  have gm1 : w6.cell? ⟨N + 1, 0, none⟩ = some x1 := (cell_of_row w6 _ 0 _ _ _ G1.out).trans rfl
  have gm2 : w6.cell? ⟨N + 1 + 1, 0, none⟩ = some x2 := (cell_of_row w6 _ 0 _ _ _ G2.out).trans rfl
  have u1 := setC_cell (o := 0) (.slice none 0 0) G0.out
  have u2 := setC_cell (o := 1) (.slice none 0 0) u1.at_
  have u3 := setC_cell (o := 0) (.int .i64 l) (u2.held (b := N + 1) (by omega) (u1.held (by omega) G1.out))
  have u4 := setC_cell (o := 0) (.int .i64 k) (u3.held (b := N + 1 + 1) (by omega) (u2.held (by omega) (u1.held (by omega) G2.out)))
  have e2 := u4.at_
  have e1 := u4.held (b := N + 1) (by omega) u3.at_
  have e0 := u4.held (b := N) (by omega) (u3.held (by omega) u2.at_)
  have b7 := below_setC (below_setC (below_setC (below_setC B6.out (Nat.le_refl _) u1) (Nat.le_refl _) u2) (by omega) u3) (by omega) u4
  obtain ⟨w7, HW7⟩ : ∃ U, Hid (((((w6.setCell ⟨N, 0, none⟩ (.slice none 0 0)).setCell ⟨N, 1, none⟩ (.slice none 0 0)).setCell ⟨N + 1, 0, none⟩ (.int .i64 l)).setCell ⟨N + 1 + 1, 0, none⟩ (.int .i64 k)) = U) := ⟨_, Lib.hid rfl⟩
  rw [HW7.out] at e0 e1 e2 b7
  have B7 := Lib.hid b7
  have E0 := Lib.hid e0
  have E1 := Lib.hid e1
  have E2 := Lib.hid e2
  clear u1 u2 u3 u4 e0 e1 e2 b7
  go_region
  rw [HW7.out]
  clear g0a g0b fa fb fz1 fz2 ge gl gm1 gm2
  go_wp2_with fail
  exact ⟨rfl, _, rfl, .tuple #[], by simp [results, Tryd.results19], rfl, rfl, E0.out, E1.out, E2.out, ⟨B7.out.os, B7.out.tape, B7.out.output, B7.out.size, B7.out.block⟩⟩

set_option maxHeartbeats 1600000 in
set_option maxRecDepth 100000 in
theorem catch_idle {w : World} (N : Nat) :
    CallsD Tryd.prog 19 #[.pointer (some ⟨N, 0, none⟩), .pointer (some ⟨N + 1, 0, none⟩), .pointer (some ⟨N + 1 + 1, 0, none⟩)] .returning w fun e u' w' =>
      e = .returned (.tuple #[]) ∧ u' = .returning ∧ Below w.heap.size w w' := by
  refine callsD_of_wpS Tryd.func19 rfl fun c₀ cs hu => ?_
  refine wpS_recover (v := .nilIface) (cs' := c₀ :: cs) rfl (by rfl) rfl (.inr ⟨by simp [recoverD, hu], rfl, rfl⟩) ?_
  have ha := assert_nil
  change wpList _ _ _ _ (⟨#[.pointer (some ⟨N, 0, none⟩), .pointer (some ⟨N + 1, 0, none⟩), .pointer (some ⟨N + 1 + 1, 0, none⟩), undef, undef, undef, .nilIface, undef, undef, undef, undef, undef, undef, undef, undef, undef], []⟩ : Act) _
  go_wp2_with fail
  exact ⟨rfl, .returning, by cases c₀; simp_all, .tuple #[], by simp [results, Tryd.results19], rfl, rfl, (Below.refl _ _).alloc (Nat.le_refl _) _⟩
end Go.Proofs.YtpfefjfpnmchcaaDoor
namespace Go.Proofs.YtpfefjfpnmchcaaDoor
open Go.RowKit

theorem Toks.setC {N B c : Nat} {cs : Array Value} {T : TypeId} {w U : World} {A : Option Addr} {l : List Tok} (h : Toks w B A c l) (hA : ∀ b, A = some ⟨b, 0, none⟩ → b ≠ N) (hU : SetC N cs T w U) : Toks U B A c l :=
  ⟨h.len, h.cap, h.bare, fun hl => by
    obtain ⟨b, e, hb, hc⟩ := h.at_ hl
    have hk : ∀ o, U.cell? ⟨b, o, none⟩ = w.cell? ⟨b, o, none⟩ := fun o => World.cell?_of_block (w := w) (hU.block b (hA b e))
    exact ⟨b, e, hb, fun k t ht => by
      obtain ⟨h1, h2, h3, h4⟩ := hc k t ht
      exact ⟨(hk _).trans h1, (hk _).trans h2, (hk _).trans h3, (hk _).trans h4⟩⟩⟩
theorem below_keeps {B P : Nat} {w w' w'' : World} (h : Below B w w') (k : Keeps P w' w'') (hP : B ≤ P) (hB : B ≤ w'.heap.size) : Below B w w'' :=
  ⟨k.os.trans h.os, k.tape.trans h.tape, k.output.trans h.output, Nat.le_trans h.size k.size, fun b hb => (k.block b (by omega) (by omega)).trans (h.block b hb)⟩
theorem PrgIs.turn' {w w' : World} {p q : Nat → Prop} {v : Value} {x : Prg} (h : PrgIs w p v x) (hs : Stays p q w w') : PrgIs w' q v x := by
  obtain ⟨A, c, A', c', h0, h1, h2⟩ := h
  exact ⟨A, c, A', c', h0, h1.turn hs (fun _ _ h => h.turn hs), h2.turn hs (fun _ _ h => h.turn hs)⟩
/-- What Parse hands back. -/
def Parsed (w : World) (R : Res Prg) (e : Ending) (w' : World) : Prop :=
  match R with
  | .ok x _ => ∃ v, e = .returned (.tuple #[v, .int .i64 0, .int .i64 0]) ∧ PrgIs w' (fun b => w.heap.size ≤ b) v x ∧ Below w.heap.size w w'
  | .err l k => e = .returned (.tuple #[.agg #[.slice none 0 0, .slice none 0 0], .int .i64 l, .int .i64 k]) ∧ Below w.heap.size w w'
  | .out => False

theorem parse_results {w : World} {tmps : Array Value} (N : Nat) (p q x1 x2 : Value) (h0 : w.heap[N]? = some (.cells #[p, q] 28 (0, 0))) (h1 : w.heap[N + 1]? = some (.cells #[x1] 3 (0, 0))) (h2 : w.heap[N + 1 + 1]? = some (.cells #[x2] 29 (0, 0)))
    (t2 : tmps[2]? = some (.pointer (some ⟨N, 0, none⟩))) (t3 : tmps[3]? = some (.pointer (some ⟨N + 1, 0, none⟩))) (t4 : tmps[4]? = some (.pointer (some ⟨N + 1 + 1, 0, none⟩))) :
    (results Tryd.f14 tmps).run Tryd.prog w = .ok (.tuple #[.agg #[p, q], x1, x2]) w := by
  obtain ⟨a0, a1⟩ := two_cells h0
  have k1 : w.cell? ⟨N + 1, 0, none⟩ = some x1 := (cell_of_row w _ 0 _ _ _ h1).trans rfl
  have k2 : w.cell? ⟨N + 1 + 1, 0, none⟩ = some x2 := (cell_of_row w _ 0 _ _ _ h2).trans rfl
  simp [results, Tryd.results14, asAddr, t2, t3, t4, go_sem]
  simp only [a0, a1, k1, k2, Result.andThen]

set_option maxHeartbeats 3200000 in
set_option maxRecDepth 100000 in
theorem parse_any (s : ByteArray) (w : World) (hS : SignsAt w) (hO : OpersAt w) (hs : s.size ≤ 9223372036854775807) (n : Nat) (hn : n ≤ 1000000000) (R : Res Prg) (hR : Hid (parseP n s.data.toList = R)) (hne : R ≠ .out) :
    Calls Tryd.prog 14 #[.string s] w (Parsed w R) := by
  have hmf : ∀ (fn : Fn) (first cap : Array Value) (w : World), (Instr.makeFunc fn first cap).run Tryd.prog w = .ok (.func fn first cap) w := fun _ _ _ _ => rfl
  obtain ⟨SR, hSR⟩ : ∃ SR, Hid (scan s.data.toList = SR) := ⟨_, Lib.hid rfl⟩
  have HS := Lib.hid hS
  have HO := Lib.hid hO
  clear hS hO
  have hw3 : Below w.heap.size w (((w.alloc (.cells #[.slice none 0 0, .slice none 0 0] 28)).alloc (.cells #[.int .i64 0] 3)).alloc (.cells #[.int .i64 0] 29)) := (((Below.refl _ _).alloc (Nat.le_refl _) _).alloc (by simp) _).alloc (by simp; omega) _
  have hz3 : (((w.alloc (.cells #[.slice none 0 0, .slice none 0 0] 28)).alloc (.cells #[.int .i64 0] 3)).alloc (.cells #[.int .i64 0] 29)).heap.size = w.heap.size + 3 := by simp
  have c0 : (((w.alloc (.cells #[.slice none 0 0, .slice none 0 0] 28)).alloc (.cells #[.int .i64 0] 3)).alloc (.cells #[.int .i64 0] 29)).heap[w.heap.size]? = some (.cells #[.slice none 0 0, .slice none 0 0] 28 (0, 0)) := held_alloc _ (held_alloc _ (heap_alloc_new w _))
  have c1 : (((w.alloc (.cells #[.slice none 0 0, .slice none 0 0] 28)).alloc (.cells #[.int .i64 0] 3)).alloc (.cells #[.int .i64 0] 29)).heap[w.heap.size + 1]? = some (.cells #[.int .i64 0] 3 (0, 0)) := held_alloc _ (by have := heap_alloc_new (w.alloc (.cells #[.slice none 0 0, .slice none 0 0] 28)) (.cells #[.int .i64 0] 3); rwa [World.size_alloc] at this)
  have c2 : (((w.alloc (.cells #[.slice none 0 0, .slice none 0 0] 28)).alloc (.cells #[.int .i64 0] 3)).alloc (.cells #[.int .i64 0] 29)).heap[w.heap.size + 1 + 1]? = some (.cells #[.int .i64 0] 29 (0, 0)) := by
    have := heap_alloc_new ((w.alloc (.cells #[.slice none 0 0, .slice none 0 0] 28)).alloc (.cells #[.int .i64 0] 3)) (.cells #[.int .i64 0] 29)
    rwa [World.size_alloc, World.size_alloc] at this
  obtain ⟨w3, HW3⟩ : ∃ U, Hid ((((w.alloc (.cells #[.slice none 0 0, .slice none 0 0] 28)).alloc (.cells #[.int .i64 0] 3)).alloc (.cells #[.int .i64 0] 29)) = U) := ⟨_, Lib.hid rfl⟩
  rw [HW3.out] at hw3 hz3 c0 c1 c2
  have B3 := Lib.hid hw3
  have C0 := Lib.hid c0
  have C1 := Lib.hid c1
  have C2 := Lib.hid c2
  have hS3 : SignsAt w3 := HS.out.below B3.out HS.out.lt
  have HSc := Lib.hid (scan_any s w3 hS3 hs SR hSR)
  clear hw3 c0 c1 c2 hS3
  go_enter_defers Tryd.func14, Tryd.ntmps14
  go_wp2_with fail
  rw [HW3.out]
  refine HSc.out.mono ?_
  rintro e w4 ⟨A, C, rfl, ht, hb⟩
  obtain ⟨ts, ln, er⟩ := SR
  dsimp only at ht
  have hm4 := hb.size
  have B4 := Lib.hid (B3.out.trans (hb.mono (by omega)))
  have D0 := Lib.hid ((hb.block w.heap.size (by omega)).trans C0.out)
  have D1 := Lib.hid ((hb.block (w.heap.size + 1) (by omega)).trans C1.out)
  have D2 := Lib.hid ((hb.block (w.heap.size + 1 + 1) (by omega)).trans C2.out)
  have HT := Lib.hid ht
  clear ht hb
  have hpar := hR.out
  unfold parseP at hpar
  rw [hSR.out] at hpar
  by_cases her : er = 0
  · subst her
    have hq : (((0 : Nat) : Int) != 0) = false := rfl
    dsimp only at hpar
    have HP := Lib.hid hpar
    clear hpar
    have hg : Good ts := by
      have := scan_good s.data.toList (by rw [hSR.out])
      rwa [hSR.out] at this
    obtain ⟨t, rest, hts⟩ := hg.cons
    obtain ⟨b, hA, hb4, hc4⟩ := HT.out.at_ (by rw [hts]; simp)
    have ht2 := (hc4 0 t (by rw [hts]; rfl)).2.2.1
    have hTA1 : ∀ x, A = some ⟨x, 0, none⟩ → x ≠ (w.heap.size + 1) := fun x hx e => by
      rw [hA] at hx
      injection hx with hx
      injection hx with hx
      rw [hx, e, cell_of_row w4 _ _ _ _ _ D1.out] at ht2
      simp at ht2
    have hTA2 : ∀ x, A = some ⟨x, 0, none⟩ → x ≠ (w.heap.size + 1 + 1) := fun x hx e => by
      rw [hA] at hx
      injection hx with hx
      injection hx with hx
      rw [hx, e, cell_of_row w4 _ _ _ _ _ D2.out] at ht2
      simp at ht2
    have HG := Lib.hid hg
    clear hg hts hc4 ht2
    go_wp2_with (first | ((with_reducible show wpList _ _ _ (Oper.mk none (Op.store 3 _ _) _ _ _ none :: _) _ _); refine wpList_store_cell rfl rfl 3 _ _ rfl (w.heap.size + 1) 0 _ (.int .i64 ln) rfl rfl D1.out (by simp) (by kernel_rfl) rfl ?_; intro w5 hU; have F1 := Lib.hid (show w5.heap[(w.heap.size + 1)]? = some (.cells #[.int .i64 ln] 3 (0, 0)) from hU.at_); have F0 := Lib.hid (hU.held (by omega) D0.out); have F2 := Lib.hid (hU.held (by omega) D2.out); have M5 := hU.size; have B5 := Lib.hid (below_setC B4.out (by omega) hU); have T5 := Lib.hid (HT.out.setC hTA1 hU); clear hU) | ((with_reducible show wpList _ _ _ (Oper.mk none (Op.store 29 _ _) _ _ _ none :: _) _ _); refine wpList_store_cell rfl rfl 29 _ _ rfl (w.heap.size + 1 + 1) 0 _ (.int .i64 0) rfl rfl F2.out (by simp) (by kernel_rfl) rfl ?_; intro w6 hU; have G2 := Lib.hid (show w6.heap[(w.heap.size + 1 + 1)]? = some (.cells #[.int .i64 0] 29 (0, 0)) from hU.at_); have G0 := Lib.hid (hU.held (by omega) F0.out); have G1 := Lib.hid (hU.held (by omega) F1.out); have M6 := hU.size; have B6 := Lib.hid (below_setC B5.out (by omega) hU); have T6 := Lib.hid (T5.out.setC hTA2 hU); have ge : w6.cell? ⟨w.heap.size + 1 + 1, 0, none⟩ = some (.int .i64 0) := (by rw [cell_of_row w6 _ 0 _ _ _ G2.out]; rfl); have gl : w6.cell? ⟨w.heap.size + 1, 0, none⟩ = some (.int .i64 ln) := (by rw [cell_of_row w6 _ 0 _ _ _ G1.out]; rfl); clear hU))
    have hOb : 2 < w.heap.size := by
      obtain ⟨t, fr, h⟩ := HO.out
      exact (Array.getElem?_eq_some_iff.1 h).1
    subst hA
    refine (fns_any w6).mono ?_
    rintro e w7 ⟨mb, rfl, hM, hmb, hb7⟩
    have hm7 := hb7.size
    have h3z := hz3
    have q0 := held_alloc (.cells #[.slice (some ⟨b, 0, none⟩) ts.length C, .int .i64 0, .map (some mb)] 68) ((hb7.block w.heap.size (by omega)).trans G0.out)
    have q1 := held_alloc (.cells #[.slice (some ⟨b, 0, none⟩) ts.length C, .int .i64 0, .map (some mb)] 68) ((hb7.block (w.heap.size + 1) (by omega)).trans G1.out)
    have q2 := held_alloc (.cells #[.slice (some ⟨b, 0, none⟩) ts.length C, .int .i64 0, .map (some mb)] 68) ((hb7.block (w.heap.size + 1 + 1) (by omega)).trans G2.out)
    have cP := heap_alloc_new w7 (.cells #[.slice (some ⟨b, 0, none⟩) ts.length C, .int .i64 0, .map (some mb)] 68)
    have hb8 := hb7.alloc hm7 (.cells #[.slice (some ⟨b, 0, none⟩) ts.length C, .int .i64 0, .map (some mb)] 68)
    have hsz8 := World.size_alloc w7 (.cells #[.slice (some ⟨b, 0, none⟩) ts.length C, .int .i64 0, .map (some mb)] 68)
    have hM8 := hM.keep (heap_alloc_old w7 (.cells #[.slice (some ⟨b, 0, none⟩) ts.length C, .int .i64 0, .map (some mb)] 68) hM.lt)
    have hMl := hM.lt
    have hO8 : OpersAt (w7.alloc (.cells #[.slice (some ⟨b, 0, none⟩) ts.length C, .int .i64 0, .map (some mb)] 68)) := by
      obtain ⟨t, fr, h⟩ := HO.out
      exact ⟨t, fr, (hb8.block _ (by omega)).trans ((B6.out.block _ hOb).trans h)⟩
    have hT8 := T6.out.keep (w' := (w7.alloc (.cells #[.slice (some ⟨b, 0, none⟩) ts.length C, .int .i64 0, .map (some mb)] 68))) (B' := w7.heap.size) (by omega) (fun q hq => hb8.cell (by omega))
    have hB8 := B6.out.trans (hb8.mono (by omega))
    go_wp2_with fail
    obtain ⟨w8, HW8⟩ : ∃ U, Hid ((w7.alloc (.cells #[.slice (some ⟨b, 0, none⟩) ts.length C, .int .i64 0, .map (some mb)] 68)) = U) := ⟨_, Lib.hid rfl⟩
    rw [HW8.out] at q0 q1 q2 cP hb8 hsz8 hM8 hO8 hT8 hB8
    rw [HW8.out]
    obtain ⟨T, hAT, hps⟩ := psAt_made (Nat.le_refl _) hT8 HG.out cP hM8 (by omega) hO8 (by omega)
    injection hAT with hAT
    injection hAT with hAT
    subst hAT
    have J0 := Lib.hid q0
    have J1 := Lib.hid q1
    have J2 := Lib.hid q2
    have B8 := Lib.hid hB8
    clear q0 q1 q2 hB8 hM8 hO8 hT8 hb8 cP
    have hPd := HP.out
    refine (program_any n hn R hps (Lib.hid hPd) hne).mono ?_
    intro e w9 hout
    have hsz9 : w.heap.size + 3 ≤ w7.heap.size := by omega
    rcases hout.go with ⟨l, k, hRe, rfl, hk9⟩ | ⟨x, rest', v, hRo, rfl, hV, hps9, hk9⟩
    · have y0 := hk9.held (N := w.heap.size) (by show w.heap.size ≠ w7.heap.size; omega) J0.out
      have y1 := hk9.held (N := w.heap.size + 1) (by show w.heap.size + 1 ≠ w7.heap.size; omega) J1.out
      have y2 := hk9.held (N := w.heap.size + 1 + 1) (by show w.heap.size + 1 + 1 ≠ w7.heap.size; omega) J2.out
      dsimp only
      refine leaves_cons (f := 19) (args := #[.pointer (some ⟨w.heap.size, 0, none⟩), .pointer (some ⟨w.heap.size + 1, 0, none⟩), .pointer (some ⟨w.heap.size + 1 + 1, 0, none⟩)]) (by simp) (by simp [go_sem]) ?_
      refine (catch_refusal w.heap.size l k _ _ _ _ y0 y1 y2).mono ?_
      rintro e u' w10 ⟨rfl, rfl, k0, k1, k2, hb10⟩
      refine ⟨_, parse_results w.heap.size _ _ _ _ k0 k1 k2 rfl rfl rfl, ?_⟩
      rw [hRe]
      exact ⟨rfl, (below_keeps B8.out hk9 (by show w.heap.size ≤ w7.heap.size; omega) (by omega)).trans hb10⟩
    · have y0 := Lib.hid (hk9.held (N := w.heap.size) (by show w.heap.size ≠ w7.heap.size; omega) J0.out)
      have y1 := Lib.hid (hk9.held (N := w.heap.size + 1) (by show w.heap.size + 1 ≠ w7.heap.size; omega) J1.out)
      have y2 := Lib.hid (hk9.held (N := w.heap.size + 1 + 1) (by show w.heap.size + 1 + 1 ≠ w7.heap.size; omega) J2.out)
      have B9 := Lib.hid (below_keeps B8.out hk9 (by show w.heap.size ≤ w7.heap.size; omega) (by omega))
      have hV0 : PrgIs w9 (fun b => w8.heap.size ≤ b) v x := hV
      have hsz89 : w8.heap.size ≤ w9.heap.size := hk9.size
      have V9 := Lib.hid hV0
      obtain ⟨A, c, A', c', rfl, hr1, hr2⟩ := hV
      clear hr1 hr2 hV0 hps9 hk9 hout
      dsimp only
      go_wp2_with (first | ((with_reducible show wpList _ _ _ (Oper.mk none (Op.store 28 _ _) _ _ _ none :: _) _ _); refine wpList_store_all rfl rfl 28 _ _ rfl w.heap.size _ #[.slice A x.recs.length c, .slice A' x.funs.length c'] rfl rfl y0.out rfl (by kernel_rfl) (by simp [Value.oneCell']) ?_; intro U1 hU; have za0 := Lib.hid (show U1.heap[w.heap.size]? = some (.cells #[.slice A x.recs.length c, .slice A' x.funs.length c'] 28 (0, 0)) from hU.at_); have za1 := Lib.hid (hU.held (b := w.heap.size + 1) (by omega) y1.out); have za2 := Lib.hid (hU.held (b := w.heap.size + 1 + 1) (by omega) y2.out); have Va := Lib.hid (V9.out.turn' (hU.stays (by omega))); have Ba := Lib.hid (below_setC B9.out (Nat.le_refl _) hU); have sa := hU.size; clear hU) | ((with_reducible show wpList _ _ _ (Oper.mk none (Op.store 3 _ _) _ _ _ none :: _) _ _); refine wpList_store_cell rfl rfl 3 _ _ rfl (w.heap.size + 1) 0 _ (.int .i64 0) rfl rfl za1.out (by simp) (by kernel_rfl) rfl ?_; intro U2 hU; have zb1 := Lib.hid (show U2.heap[(w.heap.size + 1)]? = some (.cells #[.int .i64 0] 3 (0, 0)) from hU.at_); have zb0 := Lib.hid (hU.held (by omega) za0.out); have zb2 := Lib.hid (hU.held (by omega) za2.out); have Vb := Lib.hid (Va.out.turn' (hU.stays (by omega))); have Bb := Lib.hid (below_setC Ba.out (by omega) hU); have sb := hU.size; clear hU) | ((with_reducible show wpList _ _ _ (Oper.mk none (Op.store 29 _ _) _ _ _ none :: _) _ _); refine wpList_store_cell rfl rfl 29 _ _ rfl (w.heap.size + 1 + 1) 0 _ (.int .i64 0) rfl rfl zb2.out (by simp) (by kernel_rfl) rfl ?_; intro U3 hU; have zc2 := Lib.hid (show U3.heap[(w.heap.size + 1 + 1)]? = some (.cells #[.int .i64 0] 29 (0, 0)) from hU.at_); have zc0 := Lib.hid (hU.held (by omega) zb0.out); have zc1 := Lib.hid (hU.held (by omega) zb1.out); have Vc := Lib.hid (Vb.out.turn' (hU.stays (by omega))); have Bc := Lib.hid (below_setC Bb.out (by omega) hU); have sc := hU.size; clear hU))
      change Leaves Tryd.prog Tryd.f14 _ (Parsed w (.ok x rest')) [⟨.fn (.func 19) #[.pointer (some ⟨w.heap.size, 0, none⟩), .pointer (some ⟨w.heap.size + 1, 0, none⟩), .pointer (some ⟨w.heap.size + 1 + 1, 0, none⟩)], #[]⟩] .returning _
      refine leaves_cons (f := 19) (args := #[.pointer (some ⟨w.heap.size, 0, none⟩), .pointer (some ⟨w.heap.size + 1, 0, none⟩), .pointer (some ⟨w.heap.size + 1 + 1, 0, none⟩)]) (by simp) (by simp [go_sem]) ?_
      refine (catch_idle w.heap.size).mono ?_
      rintro e u' w13 ⟨rfl, rfl, hb13⟩
      refine ⟨_, parse_results w.heap.size _ _ _ _ ((hb13.block _ (by omega)).trans zc0.out) ((hb13.block _ (by omega)).trans zc1.out) ((hb13.block _ (by omega)).trans zc2.out) rfl rfl rfl, ?_⟩
      exact ⟨_, rfl, (Vc.out.turn' (fun b hb hp => ⟨hp, hb13.block b hb⟩)).turn' (fun b _ hp => ⟨by omega, rfl⟩), Bc.out.trans (hb13.mono (by omega))⟩
  · have hq : ((er : Int) != 0) = true := by simp; omega
    have hp2 : R = .err ln er := by
      rw [← hpar]
      cases er with
      | zero => exact absurd rfl her
      | succ k => rfl
    have HP := Lib.hid hp2
    clear hpar hp2
    go_wp2_with (first | ((with_reducible show wpList _ _ _ (Oper.mk none (Op.store 3 _ _) _ _ _ none :: _) _ _); refine wpList_store_cell rfl rfl 3 _ _ rfl (w.heap.size + 1) 0 _ (.int .i64 ln) rfl rfl D1.out (by simp) (by kernel_rfl) rfl ?_; intro w5 hU; have F1 := Lib.hid (show w5.heap[(w.heap.size + 1)]? = some (.cells #[.int .i64 ln] 3 (0, 0)) from hU.at_); have F0 := Lib.hid (hU.held (by omega) D0.out); have F2 := Lib.hid (hU.held (by omega) D2.out); have M5 := hU.size; have B5 := Lib.hid (below_setC B4.out (by omega) hU); clear hU) | ((with_reducible show wpList _ _ _ (Oper.mk none (Op.store 29 _ _) _ _ _ none :: _) _ _); refine wpList_store_cell rfl rfl 29 _ _ rfl (w.heap.size + 1 + 1) 0 _ (.int .i64 er) rfl rfl F2.out (by simp) (by kernel_rfl) rfl ?_; intro w6 hU; have G2 := Lib.hid (show w6.heap[(w.heap.size + 1 + 1)]? = some (.cells #[.int .i64 er] 29 (0, 0)) from hU.at_); have G0 := Lib.hid (hU.held (by omega) F0.out); have G1 := Lib.hid (hU.held (by omega) F1.out); have M6 := hU.size; have B6 := Lib.hid (below_setC B5.out (by omega) hU); have ge : w6.cell? ⟨w.heap.size + 1 + 1, 0, none⟩ = some (.int .i64 er) := (by rw [cell_of_row w6 _ 0 _ _ _ G2.out]; rfl); have gl : w6.cell? ⟨w.heap.size + 1, 0, none⟩ = some (.int .i64 ln) := (by rw [cell_of_row w6 _ 0 _ _ _ G1.out]; rfl); clear hU))
    obtain ⟨g0a, g0b⟩ := two_cells G0.out
    have fz0 : ∀ j, w6.frozen? ⟨w.heap.size, j, none⟩ = false := fun j => by rw [World.frozen?]; simp only [G0.out]; simp
    have fz1 : w6.frozen? ⟨w.heap.size + 1, 0, none⟩ = false := by rw [World.frozen?]; simp only [G1.out]; simp
    have fz2 : w6.frozen? ⟨w.heap.size + 1 + 1, 0, none⟩ = false := by rw [World.frozen?]; simp only [G2.out]; simp
    have fa := fz0 0
    have fb := fz0 1
    clear fz0
    have u1 := setC_cell (o := 0) (.slice none 0 0) G0.out
    have u2 := setC_cell (o := 1) (.slice none 0 0) u1.at_
    have u3 := setC_cell (o := 0) (.int .i64 ln) (u2.held (b := w.heap.size + 1) (by omega) (u1.held (by omega) G1.out))
    have u4 := setC_cell (o := 0) (.int .i64 er) (u3.held (b := w.heap.size + 1 + 1) (by omega) (u2.held (by omega) (u1.held (by omega) G2.out)))
    have e2 := u4.at_
    have e1 := u4.held (b := w.heap.size + 1) (by omega) u3.at_
    have e0 := u4.held (b := w.heap.size) (by omega) (u3.held (by omega) u2.at_)
    have b7 := below_setC (below_setC (below_setC (below_setC B6.out (Nat.le_refl _) u1) (Nat.le_refl _) u2) (by omega) u3) (by omega) u4
    obtain ⟨w7, HW7⟩ : ∃ U, Hid (((((w6.setCell ⟨w.heap.size, 0, none⟩ (.slice none 0 0)).setCell ⟨w.heap.size, 1, none⟩ (.slice none 0 0)).setCell ⟨w.heap.size + 1, 0, none⟩ (.int .i64 ln)).setCell ⟨w.heap.size + 1 + 1, 0, none⟩ (.int .i64 er)) = U) := ⟨_, Lib.hid rfl⟩
    rw [HW7.out] at e0 e1 e2 b7
    have B7 := Lib.hid b7
    have E0 := Lib.hid e0
    have E1 := Lib.hid e1
    have E2 := Lib.hid e2
    clear u1 u2 u3 u4 e0 e1 e2 b7
    go_region
    rw [HW7.out]
    clear g0a g0b fa fb fz1 fz2 ge gl
    go_wp2_with fail
    refine ⟨_, parse_results w.heap.size _ _ _ _ E0.out E1.out E2.out rfl rfl rfl, ?_⟩
    rw [HP.out]
    exact ⟨rfl, ⟨B7.out.os, B7.out.tape, B7.out.output, B7.out.size, B7.out.block⟩⟩
end Go.Proofs.YtpfefjfpnmchcaaDoor
