/-
  The walk of the parser's statement, for each word that begins one. Conditions: the parser in memory; what block does. The walk of the parser's block. Condition: the parser in memory.
-/
import Derived.Test.YtpfefjfpnmchcaaDoorZPu
import Derived.Deep.QuietTactic
import Derived.BigQuiet
import Derived.Test.YtpfefjfpnmchcaaDoorZTr
namespace Go.Proofs.YtpfefjfpnmchcaaDoor
open Go.RowKit

theorem sm_lined {w : World} {p : Nat → Prop} {kind line id len var callee ln : Int} {nm ty fn : List UInt8} {target args : List Ex} {body els : List Sm} {A1 A2 A3 A4 : Option Addr} {c1 c2 c3 c4 : Nat}
    (h : SmIs w p (.agg #[.int .i64 kind, .int .i64 line, .int .i64 id, .string ⟨nm.toArray⟩, .string ⟨ty.toArray⟩, .int .i64 len, .int .i64 var, .slice A1 target.length c1, .string ⟨fn.toArray⟩, .int .i64 callee, .slice A2 args.length c2, .slice A3 body.length c3, .slice A4 els.length c4]) (.mk kind line id nm ty len var target fn callee args body els)) :
    SmIs w p (.agg #[.int .i64 kind, .int .i64 ln, .int .i64 id, .string ⟨nm.toArray⟩, .string ⟨ty.toArray⟩, .int .i64 len, .int .i64 var, .slice A1 target.length c1, .string ⟨fn.toArray⟩, .int .i64 callee, .slice A2 args.length c2, .slice A3 body.length c3, .slice A4 els.length c4]) (.mk kind ln id nm ty len var target fn callee args body els) := by
  obtain ⟨D1, e1, D2, e2, D3, e3, D4, e4, he, p1, p2, p3, p4⟩ := SmIs.parts h
  injection he with he
  have he := congrArg Array.toList he
  simp only [List.cons.injEq, Value.slice.injEq, true_and, and_true] at he
  obtain ⟨⟨rfl, rfl⟩, ⟨rfl, rfl⟩, ⟨rfl, rfl⟩, rfl, rfl⟩ := he
  exact SmIs.mk p1 p2 p3 p4

theorem eql_fn (n : Nat) (w : World) : (binOp .eql 90 (.func (.func n) #[] #[]) .nilFunc).run Tryd.prog w = .ok (.bool false) w := by kernel_rfl
theorem eql_nil (w : World) : (binOp .eql 90 .nilFunc .nilFunc).run Tryd.prog w = .ok (.bool true) w := by kernel_rfl

set_option maxHeartbeats 3200000 in
set_option maxRecDepth 100000 in
theorem statement_var {m : Pm} {w : World} {nest : Nat} {t : Tok} {rest : List Tok} (n : Nat) (b : Blk) (R : Res Sm) (h : PsAt m w nest (t :: rest)) (hk : ¬ t.kind = 1) (ht : t.text = [118, 97, 114]) (hR : Hid (lineP n b nest (t :: rest) = R)) :
    Calls Tryd.prog 73 #[.pointer (some ⟨m.P, 0, none⟩)] w (Out m w nest (SmV w.heap.size) R) := by
  have hts := h.good.1.2 t (List.mem_cons_self)
  have hpart : partP n b (t :: rest) = declP (t :: rest) := by simp [partP, hd, hk, ht]
  have hR2 : (if 8 < nest then refuse 5 (t :: rest) else (declP (t :: rest)).bind fun s ts' => .ok (s.lined t.line) ts') = R := by rw [← hR.out, lineP, if_neg (show ¬ ((hd (t :: rest)).kind ≠ 1 ∧ (hd (t :: rest)).text ∉ starts) from by simp [hd, ht, starts]), hpart]; rfl
  clear hpart
  have HR0 := Lib.hid hR2
  clear hR hR2
  obtain ⟨o, c, ⟨p0, p1, p2, t0, t1, t2, t3, hle, hc, _, _⟩, _⟩ := h.head
  have hT := h.tok.1
  have hM := h.map.1
  have hq : ((t.kind : Int) == 1) = false := ne_beq (by omega)
  have hmo : methodOf t.text = some 30 := by rw [ht]; rfl
  clear ht
  have hP := h.lt
  have H := Lib.hid h
  have h0 := h.alloc (.cells #[.int .i64 0, .int .i64 0, .int .i64 0, .string ⟨#[]⟩, .string ⟨#[]⟩, .int .i64 0, .int .i64 0, .slice none 0 0, .string ⟨#[]⟩, .int .i64 0, .slice none 0 0, .slice none 0 0, .slice none 0 0] 49)
  have q0 := (Keeps.refl m.P w).alloc (.cells #[.int .i64 0, .int .i64 0, .int .i64 0, .string ⟨#[]⟩, .string ⟨#[]⟩, .int .i64 0, .int .i64 0, .slice none 0 0, .string ⟨#[]⟩, .int .i64 0, .slice none 0 0, .slice none 0 0, .slice none 0 0] 49)
  have cZ0 := heap_alloc_new w (.cells #[.int .i64 0, .int .i64 0, .int .i64 0, .string ⟨#[]⟩, .string ⟨#[]⟩, .int .i64 0, .int .i64 0, .slice none 0 0, .string ⟨#[]⟩, .int .i64 0, .slice none 0 0, .slice none 0 0, .slice none 0 0] 49)
  have hz0 : (w.alloc (.cells #[.int .i64 0, .int .i64 0, .int .i64 0, .string ⟨#[]⟩, .string ⟨#[]⟩, .int .i64 0, .int .i64 0, .slice none 0 0, .string ⟨#[]⟩, .int .i64 0, .slice none 0 0, .slice none 0 0, .slice none 0 0] 49)).heap.size = w.heap.size + 1 := World.size_alloc _ _
  obtain ⟨w0, HW0⟩ : ∃ U, Hid (w.alloc (.cells #[.int .i64 0, .int .i64 0, .int .i64 0, .string ⟨#[]⟩, .string ⟨#[]⟩, .int .i64 0, .int .i64 0, .slice none 0 0, .string ⟨#[]⟩, .int .i64 0, .slice none 0 0, .slice none 0 0, .slice none 0 0] 49) = U) := ⟨_, Lib.hid rfl⟩
  rw [HW0.out] at h0 q0 cZ0 hz0
  have H0 := Lib.hid h0
  have K0 := Lib.hid q0
  have Z0 := Lib.hid cZ0
  clear h h0 q0 cZ0
  go_enter Tryd.func73, Tryd.ntmps73
  go_wp2_with fail
  have h1 := H0.out.alloc (.cells #[.int .i64 t.kind, .int .i64 t.line, .string ⟨t.text.toArray⟩, .int .i64 t.num] 87)
  have q1 := K0.out.alloc (.cells #[.int .i64 t.kind, .int .i64 t.line, .string ⟨t.text.toArray⟩, .int .i64 t.num] 87)
  have cZ1 := held_alloc (.cells #[.int .i64 t.kind, .int .i64 t.line, .string ⟨t.text.toArray⟩, .int .i64 t.num] 87) Z0.out
  have cT1 := (show (w0.alloc (.cells #[.int .i64 t.kind, .int .i64 t.line, .string ⟨t.text.toArray⟩, .int .i64 t.num] 87)).heap[w.heap.size + 1]? = some (.cells #[.int .i64 t.kind, .int .i64 t.line, .string ⟨t.text.toArray⟩, .int .i64 t.num] 87 (0, 0)) from by rw [← hz0]; exact heap_alloc_new _ _)
  obtain ⟨w1, HW1⟩ : ∃ U, Hid (w0.alloc (.cells #[.int .i64 t.kind, .int .i64 t.line, .string ⟨t.text.toArray⟩, .int .i64 t.num] 87) = U) := ⟨_, Lib.hid rfl⟩
  rw [HW1.out] at h1 q1 cZ1 cT1
  have H1 := Lib.hid h1
  have K1 := Lib.hid q1
  have Z1 := Lib.hid cZ1
  have T1 := Lib.hid cT1
  have hs1 := K1.out.size
  have hz1 : w1.heap.size = w0.heap.size + 1 := by have hq := congrArg (fun x => x.heap.size) HW1.out; simp only [World.size_alloc] at hq; exact hq.symm
  have hm1 : w0.heap.size < w1.heap.size := by omega
  clear h1 q1 cZ1 cT1
  rw [HW0.out, HW1.out]
  clear p0 p1 p2 t0 t1 t2 t3 hle hc
  obtain ⟨o1, c1, ⟨p0, p1, p2, _, _, _, _, _, _, _, _⟩, _⟩ := H1.out.head
  obtain ⟨⟨a0, a1, a2, a3⟩, _⟩ := cells_four T1.out
  have hlk := fun k => (H1.out.fns.keep (w' := w1.drewN k) rfl).look t.text (by unfold maxLen; omega) _ hmo
  go_quiet (fail)
  clear a0 a1 a2 a3 p0 p1 p2 hlk
  obtain ⟨w2, HW2⟩ : ∃ U, Hid (w1.drewN nq = U) := ⟨_, Lib.hid rfl⟩
  have H2 := Lib.hid (show PsAt m (w1.drewN nq) nest _ from H1.out.kept (Nat.le_refl _) fun _ _ => rfl)
  have K2 := Lib.hid (show Keeps m.P w (w1.drewN nq) from ⟨K1.out.os, K1.out.tape, K1.out.output, K1.out.size, K1.out.block⟩)
  have Z2 := Lib.hid (show (w1.drewN nq).heap[w.heap.size]? = _ from Z1.out)
  have T2 := Lib.hid (show (w1.drewN nq).heap[(w.heap.size + 1)]? = _ from T1.out)
  rw [HW2.out] at H2 K2 Z2 T2 ⊢
  have hs2 := K2.out.size
  have hm2 : w2.heap.size = w1.heap.size := by rw [← HW2.out]; rfl
  obtain ⟨⟨a0, a1, a2, a3⟩, _⟩ := cells_four T2.out
  obtain ⟨o2, c2, ⟨p0, p1, p2, _, _, _, _, _, _, _, _⟩, _⟩ := H2.out.head
  have hef := eql_fn
  have hen := eql_nil
  by_cases hn8 : 8 < nest
  · have hr := HR0.out
    rw [if_pos hn8] at hr
    have HR1 := Lib.hid hr
    clear hr HR0
    have q8 : decide ((8 : Int) < (nest : Int)) = true := by rw [decide_eq_true_eq]; omega
    go_wp2_with fail
    refine (refuse_any H2.out 5).mono ?_
    rintro e w' ⟨rfl, hb⟩
    exact ⟨rfl, out_err (HR1.out.symm) (K2.out.trans (Keeps.below hb))⟩
  · have hr := HR0.out
    rw [if_neg hn8] at hr
    have HR1 := Lib.hid hr
    clear hr HR0
    have q8 : decide ((8 : Int) < (nest : Int)) = false := by rw [decide_eq_false_iff_not]; omega
    go_wp2_with fail
    clear p0 p1 p2 a0 a1 a2 a3
    refine (declare_any _ H2.out (Lib.hid rfl)).mono ?_
    intro e w3 ho
    rcases ho.go with ⟨l, k, hR, rfl, k3⟩ | ⟨x3, ts3, v3, hR, rfl, hv, h3, k3⟩
    · exact ⟨rfl, out_err (Res.fails HR1.out hR) (K2.out.trans k3)⟩
    have HR2 := Lib.hid (Res.behind HR1.out hR)
    have H3 := Lib.hid h3
    have K3 := Lib.hid (K2.out.trans k3)
    have hs3 := K3.out.size
    have hm3 := k3.size
    have Z3 := Lib.hid (k3.held (by omega) Z2.out)
    have T3 := Lib.hid (k3.held (by omega) T2.out)
    clear h3 k3
    have HX3 := Lib.hid hR
    clear hR
    obtain ⟨ki3, li3, id3, nm3, ty3, le3, va3, tg3, fn3, ca3, ar3, bo3, el3⟩ := x3
    obtain ⟨A3, c3, B3, d3, C3, f3, D3, g3, rfl, ha⟩ := SmIs.parts hv
    have S3 : Hid (SmIs w3 (fun b => w2.heap.size ≤ b) (.agg #[.int .i64 ki3, .int .i64 li3, .int .i64 id3, .string ⟨nm3.toArray⟩, .string ⟨ty3.toArray⟩, .int .i64 le3, .int .i64 va3, .slice A3 tg3.length c3, .string ⟨fn3.toArray⟩, .int .i64 ca3, .slice B3 ar3.length d3, .slice C3 bo3.length f3, .slice D3 el3.length g3]) (.mk ki3 li3 id3 nm3 ty3 le3 va3 tg3 fn3 ca3 ar3 bo3 el3)) := Lib.hid hv
    clear ha hv
    obtain ⟨⟨a0, a1, a2, a3⟩, _⟩ := cells_four T3.out
    have hlt3 : w.heap.size + 1 < w3.heap.size := by omega
    have h4 := H3.out.alloc (.cells #[.int .i64 ki3, .int .i64 li3, .int .i64 id3, .string ⟨nm3.toArray⟩, .string ⟨ty3.toArray⟩, .int .i64 le3, .int .i64 va3, .slice A3 tg3.length c3, .string ⟨fn3.toArray⟩, .int .i64 ca3, .slice B3 ar3.length d3, .slice C3 bo3.length f3, .slice D3 el3.length g3] 49)
    have q4 := K3.out.alloc (.cells #[.int .i64 ki3, .int .i64 li3, .int .i64 id3, .string ⟨nm3.toArray⟩, .string ⟨ty3.toArray⟩, .int .i64 le3, .int .i64 va3, .slice A3 tg3.length c3, .string ⟨fn3.toArray⟩, .int .i64 ca3, .slice B3 ar3.length d3, .slice C3 bo3.length f3, .slice D3 el3.length g3] 49)
    have cZ4 := held_alloc (.cells #[.int .i64 ki3, .int .i64 li3, .int .i64 id3, .string ⟨nm3.toArray⟩, .string ⟨ty3.toArray⟩, .int .i64 le3, .int .i64 va3, .slice A3 tg3.length c3, .string ⟨fn3.toArray⟩, .int .i64 ca3, .slice B3 ar3.length d3, .slice C3 bo3.length f3, .slice D3 el3.length g3] 49) Z3.out
    have cT4 := held_alloc (.cells #[.int .i64 ki3, .int .i64 li3, .int .i64 id3, .string ⟨nm3.toArray⟩, .string ⟨ty3.toArray⟩, .int .i64 le3, .int .i64 va3, .slice A3 tg3.length c3, .string ⟨fn3.toArray⟩, .int .i64 ca3, .slice B3 ar3.length d3, .slice C3 bo3.length f3, .slice D3 el3.length g3] 49) T3.out
    have cE4 := heap_alloc_new w3 (.cells #[.int .i64 ki3, .int .i64 li3, .int .i64 id3, .string ⟨nm3.toArray⟩, .string ⟨ty3.toArray⟩, .int .i64 le3, .int .i64 va3, .slice A3 tg3.length c3, .string ⟨fn3.toArray⟩, .int .i64 ca3, .slice B3 ar3.length d3, .slice C3 bo3.length f3, .slice D3 el3.length g3] 49)
    have cS4 := S3.out.turn (q := fun b => (w2.heap.size ≤ b) ∧ b ≠ w3.heap.size) (fun b hb (hp : w2.heap.size ≤ b) => ⟨⟨hp, by omega⟩, heap_alloc_old _ (.cells #[.int .i64 ki3, .int .i64 li3, .int .i64 id3, .string ⟨nm3.toArray⟩, .string ⟨ty3.toArray⟩, .int .i64 le3, .int .i64 va3, .slice A3 tg3.length c3, .string ⟨fn3.toArray⟩, .int .i64 ca3, .slice B3 ar3.length d3, .slice C3 bo3.length f3, .slice D3 el3.length g3] 49) hb⟩)
    obtain ⟨w4, HW4⟩ : ∃ U, Hid (w3.alloc (.cells #[.int .i64 ki3, .int .i64 li3, .int .i64 id3, .string ⟨nm3.toArray⟩, .string ⟨ty3.toArray⟩, .int .i64 le3, .int .i64 va3, .slice A3 tg3.length c3, .string ⟨fn3.toArray⟩, .int .i64 ca3, .slice B3 ar3.length d3, .slice C3 bo3.length f3, .slice D3 el3.length g3] 49) = U) := ⟨_, Lib.hid rfl⟩
    rw [HW4.out] at h4 q4 cZ4 cT4 cE4 cS4
    have H4 := Lib.hid h4
    have K4 := Lib.hid q4
    have Z4 := Lib.hid cZ4
    have T4 := Lib.hid cT4
    have E4 := Lib.hid cE4
    have S4 := Lib.hid cS4
    have hs4 := K4.out.size
    have hz4 : w4.heap.size = w3.heap.size + 1 := by have hq := congrArg (fun x => x.heap.size) HW4.out; simp only [World.size_alloc] at hq; exact hq.symm
    have hm4 : w3.heap.size < w4.heap.size := by omega
    clear h4 q4 cZ4 cT4 cE4 cS4
    go_wp2_with (first | ((with_reducible show wpList _ _ _ (Oper.mk none (Op.store 3 _ _) _ _ _ none :: _) _ _); rw [HW4.out]; refine wpList_store_cell rfl rfl 3 _ _ rfl w3.heap.size 1 _ (.int .i64 t.line) rfl rfl E4.out (by simp) (by kernel_rfl) rfl ?_; intro w5 hU; have H5 := Lib.hid (H4.out.setC H.out (by omega) hU); have K5 := Lib.hid (K4.out.setC (by omega) hU); have hs5 := K5.out.size; have hm5 := Nat.le_of_eq hU.size.symm; have Z5 := Lib.hid (hU.held (by omega) Z4.out); have T5 := Lib.hid (hU.held (by omega) T4.out); have E5 := Lib.hid (show w5.heap[w3.heap.size]? = some (.cells #[.int .i64 ki3, .int .i64 t.line, .int .i64 id3, .string ⟨nm3.toArray⟩, .string ⟨ty3.toArray⟩, .int .i64 le3, .int .i64 va3, .slice A3 tg3.length c3, .string ⟨fn3.toArray⟩, .int .i64 ca3, .slice B3 ar3.length d3, .slice C3 bo3.length f3, .slice D3 el3.length g3] 49 (0, 0)) from hU.at_); have S5 := Lib.hid (S4.out.turn (hU.stays_of (fun b (hb : (w2.heap.size ≤ b) ∧ b ≠ w3.heap.size) => by omega))); clear hU) | ((with_reducible show wpList _ _ _ (Oper.mk _ (Op.load 49 _) _ _ _ none :: _) _ _); refine wpList_load_all rfl 49 _ rfl w3.heap.size _ _ rfl E5.out Tryd.underlying49 rfl (by kernel_rfl) ?_) | ((with_reducible show wpList _ _ _ (Oper.mk none (Op.store 49 _ _) _ _ _ none :: _) _ _); refine wpList_store_all rfl rfl 49 _ _ rfl w.heap.size _ (#[.int .i64 ki3, .int .i64 t.line, .int .i64 id3, .string ⟨nm3.toArray⟩, .string ⟨ty3.toArray⟩, .int .i64 le3, .int .i64 va3, .slice A3 tg3.length c3, .string ⟨fn3.toArray⟩, .int .i64 ca3, .slice B3 ar3.length d3, .slice C3 bo3.length f3, .slice D3 el3.length g3]) rfl rfl Z5.out rfl (by kernel_rfl) (by simp [Value.oneCell']) ?_; intro U hU))
    (try simp only [Exit.inBlock, Exit.then])
    have hld := ret_all (P := Tryd.prog) 49 w.heap.size _ _ hU.at_ Tryd.underlying49 rfl (by kernel_rfl)
    refine bodyPost_ret (v := .agg #[.int .i64 ki3, .int .i64 t.line, .int .i64 id3, .string ⟨nm3.toArray⟩, .string ⟨ty3.toArray⟩, .int .i64 le3, .int .i64 va3, .slice A3 tg3.length c3, .string ⟨fn3.toArray⟩, .int .i64 ca3, .slice B3 ar3.length d3, .slice C3 bo3.length f3, .slice D3 el3.length g3]) (by simp [results, Tryd.results73, Act.put, asAddr, hld]) rfl ?_
    exact out_ok HR2.out.symm (sm_lined ((S5.out.turn (q := fun b => w.heap.size ≤ b) (fun b _ (hb : (w2.heap.size ≤ b) ∧ b ≠ w3.heap.size) => ⟨by omega, hU.block b (by omega)⟩)))) (H5.out.setC H.out (Nat.le_refl _) hU) (K5.out.setC (Nat.le_refl _) hU)

set_option maxHeartbeats 3200000 in
set_option maxRecDepth 100000 in
theorem statement_if {m : Pm} {w : World} {nest : Nat} {t : Tok} {rest : List Tok} (n : Nat) (b : Blk) (hb : BlkAt b nest) (R : Res Sm) (h : PsAt m w nest (t :: rest)) (hk : ¬ t.kind = 1) (ht : t.text = [105, 102]) (hR : Hid (lineP n b nest (t :: rest) = R)) (hne : R ≠ .out) :
    Calls Tryd.prog 73 #[.pointer (some ⟨m.P, 0, none⟩)] w (Out m w nest (SmV w.heap.size) R) := by
  have hts := h.good.1.2 t (List.mem_cons_self)
  have hpart : partP n b (t :: rest) = ifP n b (t :: rest) := by simp [partP, hd, hk, ht]
  have hR2 : (if 8 < nest then refuse 5 (t :: rest) else (ifP n b (t :: rest)).bind fun s ts' => .ok (s.lined t.line) ts') = R := by rw [← hR.out, lineP, if_neg (show ¬ ((hd (t :: rest)).kind ≠ 1 ∧ (hd (t :: rest)).text ∉ starts) from by simp [hd, ht, starts]), hpart]; rfl
  clear hpart
  have HR0 := Lib.hid hR2
  clear hR hR2
  obtain ⟨o, c, ⟨p0, p1, p2, t0, t1, t2, t3, hle, hc, _, _⟩, _⟩ := h.head
  have hT := h.tok.1
  have hM := h.map.1
  have hq : ((t.kind : Int) == 1) = false := ne_beq (by omega)
  have hmo : methodOf t.text = some 31 := by rw [ht]; rfl
  clear ht
  have hP := h.lt
  have H := Lib.hid h
  have h0 := h.alloc (.cells #[.int .i64 0, .int .i64 0, .int .i64 0, .string ⟨#[]⟩, .string ⟨#[]⟩, .int .i64 0, .int .i64 0, .slice none 0 0, .string ⟨#[]⟩, .int .i64 0, .slice none 0 0, .slice none 0 0, .slice none 0 0] 49)
  have q0 := (Keeps.refl m.P w).alloc (.cells #[.int .i64 0, .int .i64 0, .int .i64 0, .string ⟨#[]⟩, .string ⟨#[]⟩, .int .i64 0, .int .i64 0, .slice none 0 0, .string ⟨#[]⟩, .int .i64 0, .slice none 0 0, .slice none 0 0, .slice none 0 0] 49)
  have cZ0 := heap_alloc_new w (.cells #[.int .i64 0, .int .i64 0, .int .i64 0, .string ⟨#[]⟩, .string ⟨#[]⟩, .int .i64 0, .int .i64 0, .slice none 0 0, .string ⟨#[]⟩, .int .i64 0, .slice none 0 0, .slice none 0 0, .slice none 0 0] 49)
  have hz0 : (w.alloc (.cells #[.int .i64 0, .int .i64 0, .int .i64 0, .string ⟨#[]⟩, .string ⟨#[]⟩, .int .i64 0, .int .i64 0, .slice none 0 0, .string ⟨#[]⟩, .int .i64 0, .slice none 0 0, .slice none 0 0, .slice none 0 0] 49)).heap.size = w.heap.size + 1 := World.size_alloc _ _
  obtain ⟨w0, HW0⟩ : ∃ U, Hid (w.alloc (.cells #[.int .i64 0, .int .i64 0, .int .i64 0, .string ⟨#[]⟩, .string ⟨#[]⟩, .int .i64 0, .int .i64 0, .slice none 0 0, .string ⟨#[]⟩, .int .i64 0, .slice none 0 0, .slice none 0 0, .slice none 0 0] 49) = U) := ⟨_, Lib.hid rfl⟩
  rw [HW0.out] at h0 q0 cZ0 hz0
  have H0 := Lib.hid h0
  have K0 := Lib.hid q0
  have Z0 := Lib.hid cZ0
  clear h h0 q0 cZ0
  go_enter Tryd.func73, Tryd.ntmps73
  go_wp2_with fail
  have h1 := H0.out.alloc (.cells #[.int .i64 t.kind, .int .i64 t.line, .string ⟨t.text.toArray⟩, .int .i64 t.num] 87)
  have q1 := K0.out.alloc (.cells #[.int .i64 t.kind, .int .i64 t.line, .string ⟨t.text.toArray⟩, .int .i64 t.num] 87)
  have cZ1 := held_alloc (.cells #[.int .i64 t.kind, .int .i64 t.line, .string ⟨t.text.toArray⟩, .int .i64 t.num] 87) Z0.out
  have cT1 := (show (w0.alloc (.cells #[.int .i64 t.kind, .int .i64 t.line, .string ⟨t.text.toArray⟩, .int .i64 t.num] 87)).heap[w.heap.size + 1]? = some (.cells #[.int .i64 t.kind, .int .i64 t.line, .string ⟨t.text.toArray⟩, .int .i64 t.num] 87 (0, 0)) from by rw [← hz0]; exact heap_alloc_new _ _)
  obtain ⟨w1, HW1⟩ : ∃ U, Hid (w0.alloc (.cells #[.int .i64 t.kind, .int .i64 t.line, .string ⟨t.text.toArray⟩, .int .i64 t.num] 87) = U) := ⟨_, Lib.hid rfl⟩
  rw [HW1.out] at h1 q1 cZ1 cT1
  have H1 := Lib.hid h1
  have K1 := Lib.hid q1
  have Z1 := Lib.hid cZ1
  have T1 := Lib.hid cT1
  have hs1 := K1.out.size
  have hz1 : w1.heap.size = w0.heap.size + 1 := by have hq := congrArg (fun x => x.heap.size) HW1.out; simp only [World.size_alloc] at hq; exact hq.symm
  have hm1 : w0.heap.size < w1.heap.size := by omega
  clear h1 q1 cZ1 cT1
  rw [HW0.out, HW1.out]
  clear p0 p1 p2 t0 t1 t2 t3 hle hc
  obtain ⟨o1, c1, ⟨p0, p1, p2, _, _, _, _, _, _, _, _⟩, _⟩ := H1.out.head
  obtain ⟨⟨a0, a1, a2, a3⟩, _⟩ := cells_four T1.out
  have hlk := fun k => (H1.out.fns.keep (w' := w1.drewN k) rfl).look t.text (by unfold maxLen; omega) _ hmo
  go_quiet (fail)
  clear a0 a1 a2 a3 p0 p1 p2 hlk
  obtain ⟨w2, HW2⟩ : ∃ U, Hid (w1.drewN nq = U) := ⟨_, Lib.hid rfl⟩
  have H2 := Lib.hid (show PsAt m (w1.drewN nq) nest _ from H1.out.kept (Nat.le_refl _) fun _ _ => rfl)
  have K2 := Lib.hid (show Keeps m.P w (w1.drewN nq) from ⟨K1.out.os, K1.out.tape, K1.out.output, K1.out.size, K1.out.block⟩)
  have Z2 := Lib.hid (show (w1.drewN nq).heap[w.heap.size]? = _ from Z1.out)
  have T2 := Lib.hid (show (w1.drewN nq).heap[(w.heap.size + 1)]? = _ from T1.out)
  rw [HW2.out] at H2 K2 Z2 T2 ⊢
  have hs2 := K2.out.size
  have hm2 : w2.heap.size = w1.heap.size := by rw [← HW2.out]; rfl
  obtain ⟨⟨a0, a1, a2, a3⟩, _⟩ := cells_four T2.out
  obtain ⟨o2, c2, ⟨p0, p1, p2, _, _, _, _, _, _, _, _⟩, _⟩ := H2.out.head
  have hef := eql_fn
  have hen := eql_nil
  by_cases hn8 : 8 < nest
  · have hr := HR0.out
    rw [if_pos hn8] at hr
    have HR1 := Lib.hid hr
    clear hr HR0
    have q8 : decide ((8 : Int) < (nest : Int)) = true := by rw [decide_eq_true_eq]; omega
    go_wp2_with fail
    refine (refuse_any H2.out 5).mono ?_
    rintro e w' ⟨rfl, hb⟩
    exact ⟨rfl, out_err (HR1.out.symm) (K2.out.trans (Keeps.below hb))⟩
  · have hr := HR0.out
    rw [if_neg hn8] at hr
    have HR1 := Lib.hid hr
    clear hr HR0
    have q8 : decide ((8 : Int) < (nest : Int)) = false := by rw [decide_eq_false_iff_not]; omega
    go_wp2_with fail
    clear p0 p1 p2 a0 a1 a2 a3
    refine (if_any n b hb _ H2.out (Lib.hid rfl) (Res.live HR1.out hne)).mono ?_
    intro e w3 ho
    rcases ho.go with ⟨l, k, hR, rfl, k3⟩ | ⟨x3, ts3, v3, hR, rfl, hv, h3, k3⟩
    · exact ⟨rfl, out_err (Res.fails HR1.out hR) (K2.out.trans k3)⟩
    have HR2 := Lib.hid (Res.behind HR1.out hR)
    have H3 := Lib.hid h3
    have K3 := Lib.hid (K2.out.trans k3)
    have hs3 := K3.out.size
    have hm3 := k3.size
    have Z3 := Lib.hid (k3.held (by omega) Z2.out)
    have T3 := Lib.hid (k3.held (by omega) T2.out)
    clear h3 k3
    have HX3 := Lib.hid hR
    clear hR
    obtain ⟨ki3, li3, id3, nm3, ty3, le3, va3, tg3, fn3, ca3, ar3, bo3, el3⟩ := x3
    obtain ⟨A3, c3, B3, d3, C3, f3, D3, g3, rfl, ha⟩ := SmIs.parts hv
    have S3 : Hid (SmIs w3 (fun b => w2.heap.size ≤ b) (.agg #[.int .i64 ki3, .int .i64 li3, .int .i64 id3, .string ⟨nm3.toArray⟩, .string ⟨ty3.toArray⟩, .int .i64 le3, .int .i64 va3, .slice A3 tg3.length c3, .string ⟨fn3.toArray⟩, .int .i64 ca3, .slice B3 ar3.length d3, .slice C3 bo3.length f3, .slice D3 el3.length g3]) (.mk ki3 li3 id3 nm3 ty3 le3 va3 tg3 fn3 ca3 ar3 bo3 el3)) := Lib.hid hv
    clear ha hv
    obtain ⟨⟨a0, a1, a2, a3⟩, _⟩ := cells_four T3.out
    have hlt3 : w.heap.size + 1 < w3.heap.size := by omega
    have h4 := H3.out.alloc (.cells #[.int .i64 ki3, .int .i64 li3, .int .i64 id3, .string ⟨nm3.toArray⟩, .string ⟨ty3.toArray⟩, .int .i64 le3, .int .i64 va3, .slice A3 tg3.length c3, .string ⟨fn3.toArray⟩, .int .i64 ca3, .slice B3 ar3.length d3, .slice C3 bo3.length f3, .slice D3 el3.length g3] 49)
    have q4 := K3.out.alloc (.cells #[.int .i64 ki3, .int .i64 li3, .int .i64 id3, .string ⟨nm3.toArray⟩, .string ⟨ty3.toArray⟩, .int .i64 le3, .int .i64 va3, .slice A3 tg3.length c3, .string ⟨fn3.toArray⟩, .int .i64 ca3, .slice B3 ar3.length d3, .slice C3 bo3.length f3, .slice D3 el3.length g3] 49)
    have cZ4 := held_alloc (.cells #[.int .i64 ki3, .int .i64 li3, .int .i64 id3, .string ⟨nm3.toArray⟩, .string ⟨ty3.toArray⟩, .int .i64 le3, .int .i64 va3, .slice A3 tg3.length c3, .string ⟨fn3.toArray⟩, .int .i64 ca3, .slice B3 ar3.length d3, .slice C3 bo3.length f3, .slice D3 el3.length g3] 49) Z3.out
    have cT4 := held_alloc (.cells #[.int .i64 ki3, .int .i64 li3, .int .i64 id3, .string ⟨nm3.toArray⟩, .string ⟨ty3.toArray⟩, .int .i64 le3, .int .i64 va3, .slice A3 tg3.length c3, .string ⟨fn3.toArray⟩, .int .i64 ca3, .slice B3 ar3.length d3, .slice C3 bo3.length f3, .slice D3 el3.length g3] 49) T3.out
    have cE4 := heap_alloc_new w3 (.cells #[.int .i64 ki3, .int .i64 li3, .int .i64 id3, .string ⟨nm3.toArray⟩, .string ⟨ty3.toArray⟩, .int .i64 le3, .int .i64 va3, .slice A3 tg3.length c3, .string ⟨fn3.toArray⟩, .int .i64 ca3, .slice B3 ar3.length d3, .slice C3 bo3.length f3, .slice D3 el3.length g3] 49)
    have cS4 := S3.out.turn (q := fun b => (w2.heap.size ≤ b) ∧ b ≠ w3.heap.size) (fun b hb (hp : w2.heap.size ≤ b) => ⟨⟨hp, by omega⟩, heap_alloc_old _ (.cells #[.int .i64 ki3, .int .i64 li3, .int .i64 id3, .string ⟨nm3.toArray⟩, .string ⟨ty3.toArray⟩, .int .i64 le3, .int .i64 va3, .slice A3 tg3.length c3, .string ⟨fn3.toArray⟩, .int .i64 ca3, .slice B3 ar3.length d3, .slice C3 bo3.length f3, .slice D3 el3.length g3] 49) hb⟩)
    obtain ⟨w4, HW4⟩ : ∃ U, Hid (w3.alloc (.cells #[.int .i64 ki3, .int .i64 li3, .int .i64 id3, .string ⟨nm3.toArray⟩, .string ⟨ty3.toArray⟩, .int .i64 le3, .int .i64 va3, .slice A3 tg3.length c3, .string ⟨fn3.toArray⟩, .int .i64 ca3, .slice B3 ar3.length d3, .slice C3 bo3.length f3, .slice D3 el3.length g3] 49) = U) := ⟨_, Lib.hid rfl⟩
    rw [HW4.out] at h4 q4 cZ4 cT4 cE4 cS4
    have H4 := Lib.hid h4
    have K4 := Lib.hid q4
    have Z4 := Lib.hid cZ4
    have T4 := Lib.hid cT4
    have E4 := Lib.hid cE4
    have S4 := Lib.hid cS4
    have hs4 := K4.out.size
    have hz4 : w4.heap.size = w3.heap.size + 1 := by have hq := congrArg (fun x => x.heap.size) HW4.out; simp only [World.size_alloc] at hq; exact hq.symm
    have hm4 : w3.heap.size < w4.heap.size := by omega
    clear h4 q4 cZ4 cT4 cE4 cS4
    go_wp2_with (first | ((with_reducible show wpList _ _ _ (Oper.mk none (Op.store 3 _ _) _ _ _ none :: _) _ _); rw [HW4.out]; refine wpList_store_cell rfl rfl 3 _ _ rfl w3.heap.size 1 _ (.int .i64 t.line) rfl rfl E4.out (by simp) (by kernel_rfl) rfl ?_; intro w5 hU; have H5 := Lib.hid (H4.out.setC H.out (by omega) hU); have K5 := Lib.hid (K4.out.setC (by omega) hU); have hs5 := K5.out.size; have hm5 := Nat.le_of_eq hU.size.symm; have Z5 := Lib.hid (hU.held (by omega) Z4.out); have T5 := Lib.hid (hU.held (by omega) T4.out); have E5 := Lib.hid (show w5.heap[w3.heap.size]? = some (.cells #[.int .i64 ki3, .int .i64 t.line, .int .i64 id3, .string ⟨nm3.toArray⟩, .string ⟨ty3.toArray⟩, .int .i64 le3, .int .i64 va3, .slice A3 tg3.length c3, .string ⟨fn3.toArray⟩, .int .i64 ca3, .slice B3 ar3.length d3, .slice C3 bo3.length f3, .slice D3 el3.length g3] 49 (0, 0)) from hU.at_); have S5 := Lib.hid (S4.out.turn (hU.stays_of (fun b (hb : (w2.heap.size ≤ b) ∧ b ≠ w3.heap.size) => by omega))); clear hU) | ((with_reducible show wpList _ _ _ (Oper.mk _ (Op.load 49 _) _ _ _ none :: _) _ _); refine wpList_load_all rfl 49 _ rfl w3.heap.size _ _ rfl E5.out Tryd.underlying49 rfl (by kernel_rfl) ?_) | ((with_reducible show wpList _ _ _ (Oper.mk none (Op.store 49 _ _) _ _ _ none :: _) _ _); refine wpList_store_all rfl rfl 49 _ _ rfl w.heap.size _ (#[.int .i64 ki3, .int .i64 t.line, .int .i64 id3, .string ⟨nm3.toArray⟩, .string ⟨ty3.toArray⟩, .int .i64 le3, .int .i64 va3, .slice A3 tg3.length c3, .string ⟨fn3.toArray⟩, .int .i64 ca3, .slice B3 ar3.length d3, .slice C3 bo3.length f3, .slice D3 el3.length g3]) rfl rfl Z5.out rfl (by kernel_rfl) (by simp [Value.oneCell']) ?_; intro U hU))
    (try simp only [Exit.inBlock, Exit.then])
    have hld := ret_all (P := Tryd.prog) 49 w.heap.size _ _ hU.at_ Tryd.underlying49 rfl (by kernel_rfl)
    refine bodyPost_ret (v := .agg #[.int .i64 ki3, .int .i64 t.line, .int .i64 id3, .string ⟨nm3.toArray⟩, .string ⟨ty3.toArray⟩, .int .i64 le3, .int .i64 va3, .slice A3 tg3.length c3, .string ⟨fn3.toArray⟩, .int .i64 ca3, .slice B3 ar3.length d3, .slice C3 bo3.length f3, .slice D3 el3.length g3]) (by simp [results, Tryd.results73, Act.put, asAddr, hld]) rfl ?_
    exact out_ok HR2.out.symm (sm_lined ((S5.out.turn (q := fun b => w.heap.size ≤ b) (fun b _ (hb : (w2.heap.size ≤ b) ∧ b ≠ w3.heap.size) => ⟨by omega, hU.block b (by omega)⟩)))) (H5.out.setC H.out (Nat.le_refl _) hU) (K5.out.setC (Nat.le_refl _) hU)

set_option maxHeartbeats 3200000 in
set_option maxRecDepth 100000 in
theorem statement_while {m : Pm} {w : World} {nest : Nat} {t : Tok} {rest : List Tok} (n : Nat) (b : Blk) (hb : BlkAt b nest) (R : Res Sm) (h : PsAt m w nest (t :: rest)) (hk : ¬ t.kind = 1) (ht : t.text = [119, 104, 105, 108, 101]) (hR : Hid (lineP n b nest (t :: rest) = R)) (hne : R ≠ .out) :
    Calls Tryd.prog 73 #[.pointer (some ⟨m.P, 0, none⟩)] w (Out m w nest (SmV w.heap.size) R) := by
  have hts := h.good.1.2 t (List.mem_cons_self)
  have hpart : partP n b (t :: rest) = whileP n b (t :: rest) := by simp [partP, hd, hk, ht]
  have hR2 : (if 8 < nest then refuse 5 (t :: rest) else (whileP n b (t :: rest)).bind fun s ts' => .ok (s.lined t.line) ts') = R := by rw [← hR.out, lineP, if_neg (show ¬ ((hd (t :: rest)).kind ≠ 1 ∧ (hd (t :: rest)).text ∉ starts) from by simp [hd, ht, starts]), hpart]; rfl
  clear hpart
  have HR0 := Lib.hid hR2
  clear hR hR2
  obtain ⟨o, c, ⟨p0, p1, p2, t0, t1, t2, t3, hle, hc, _, _⟩, _⟩ := h.head
  have hT := h.tok.1
  have hM := h.map.1
  have hq : ((t.kind : Int) == 1) = false := ne_beq (by omega)
  have hmo : methodOf t.text = some 32 := by rw [ht]; rfl
  clear ht
  have hP := h.lt
  have H := Lib.hid h
  have h0 := h.alloc (.cells #[.int .i64 0, .int .i64 0, .int .i64 0, .string ⟨#[]⟩, .string ⟨#[]⟩, .int .i64 0, .int .i64 0, .slice none 0 0, .string ⟨#[]⟩, .int .i64 0, .slice none 0 0, .slice none 0 0, .slice none 0 0] 49)
  have q0 := (Keeps.refl m.P w).alloc (.cells #[.int .i64 0, .int .i64 0, .int .i64 0, .string ⟨#[]⟩, .string ⟨#[]⟩, .int .i64 0, .int .i64 0, .slice none 0 0, .string ⟨#[]⟩, .int .i64 0, .slice none 0 0, .slice none 0 0, .slice none 0 0] 49)
  have cZ0 := heap_alloc_new w (.cells #[.int .i64 0, .int .i64 0, .int .i64 0, .string ⟨#[]⟩, .string ⟨#[]⟩, .int .i64 0, .int .i64 0, .slice none 0 0, .string ⟨#[]⟩, .int .i64 0, .slice none 0 0, .slice none 0 0, .slice none 0 0] 49)
  have hz0 : (w.alloc (.cells #[.int .i64 0, .int .i64 0, .int .i64 0, .string ⟨#[]⟩, .string ⟨#[]⟩, .int .i64 0, .int .i64 0, .slice none 0 0, .string ⟨#[]⟩, .int .i64 0, .slice none 0 0, .slice none 0 0, .slice none 0 0] 49)).heap.size = w.heap.size + 1 := World.size_alloc _ _
  obtain ⟨w0, HW0⟩ : ∃ U, Hid (w.alloc (.cells #[.int .i64 0, .int .i64 0, .int .i64 0, .string ⟨#[]⟩, .string ⟨#[]⟩, .int .i64 0, .int .i64 0, .slice none 0 0, .string ⟨#[]⟩, .int .i64 0, .slice none 0 0, .slice none 0 0, .slice none 0 0] 49) = U) := ⟨_, Lib.hid rfl⟩
  rw [HW0.out] at h0 q0 cZ0 hz0
  have H0 := Lib.hid h0
  have K0 := Lib.hid q0
  have Z0 := Lib.hid cZ0
  clear h h0 q0 cZ0
  go_enter Tryd.func73, Tryd.ntmps73
  go_wp2_with fail
  have h1 := H0.out.alloc (.cells #[.int .i64 t.kind, .int .i64 t.line, .string ⟨t.text.toArray⟩, .int .i64 t.num] 87)
  have q1 := K0.out.alloc (.cells #[.int .i64 t.kind, .int .i64 t.line, .string ⟨t.text.toArray⟩, .int .i64 t.num] 87)
  have cZ1 := held_alloc (.cells #[.int .i64 t.kind, .int .i64 t.line, .string ⟨t.text.toArray⟩, .int .i64 t.num] 87) Z0.out
  have cT1 := (show (w0.alloc (.cells #[.int .i64 t.kind, .int .i64 t.line, .string ⟨t.text.toArray⟩, .int .i64 t.num] 87)).heap[w.heap.size + 1]? = some (.cells #[.int .i64 t.kind, .int .i64 t.line, .string ⟨t.text.toArray⟩, .int .i64 t.num] 87 (0, 0)) from by rw [← hz0]; exact heap_alloc_new _ _)
  obtain ⟨w1, HW1⟩ : ∃ U, Hid (w0.alloc (.cells #[.int .i64 t.kind, .int .i64 t.line, .string ⟨t.text.toArray⟩, .int .i64 t.num] 87) = U) := ⟨_, Lib.hid rfl⟩
  rw [HW1.out] at h1 q1 cZ1 cT1
  have H1 := Lib.hid h1
  have K1 := Lib.hid q1
  have Z1 := Lib.hid cZ1
  have T1 := Lib.hid cT1
  have hs1 := K1.out.size
  have hz1 : w1.heap.size = w0.heap.size + 1 := by have hq := congrArg (fun x => x.heap.size) HW1.out; simp only [World.size_alloc] at hq; exact hq.symm
  have hm1 : w0.heap.size < w1.heap.size := by omega
  clear h1 q1 cZ1 cT1
  rw [HW0.out, HW1.out]
  clear p0 p1 p2 t0 t1 t2 t3 hle hc
  obtain ⟨o1, c1, ⟨p0, p1, p2, _, _, _, _, _, _, _, _⟩, _⟩ := H1.out.head
  obtain ⟨⟨a0, a1, a2, a3⟩, _⟩ := cells_four T1.out
  have hlk := fun k => (H1.out.fns.keep (w' := w1.drewN k) rfl).look t.text (by unfold maxLen; omega) _ hmo
  go_quiet (fail)
  clear a0 a1 a2 a3 p0 p1 p2 hlk
  obtain ⟨w2, HW2⟩ : ∃ U, Hid (w1.drewN nq = U) := ⟨_, Lib.hid rfl⟩
  have H2 := Lib.hid (show PsAt m (w1.drewN nq) nest _ from H1.out.kept (Nat.le_refl _) fun _ _ => rfl)
  have K2 := Lib.hid (show Keeps m.P w (w1.drewN nq) from ⟨K1.out.os, K1.out.tape, K1.out.output, K1.out.size, K1.out.block⟩)
  have Z2 := Lib.hid (show (w1.drewN nq).heap[w.heap.size]? = _ from Z1.out)
  have T2 := Lib.hid (show (w1.drewN nq).heap[(w.heap.size + 1)]? = _ from T1.out)
  rw [HW2.out] at H2 K2 Z2 T2 ⊢
  have hs2 := K2.out.size
  have hm2 : w2.heap.size = w1.heap.size := by rw [← HW2.out]; rfl
  obtain ⟨⟨a0, a1, a2, a3⟩, _⟩ := cells_four T2.out
  obtain ⟨o2, c2, ⟨p0, p1, p2, _, _, _, _, _, _, _, _⟩, _⟩ := H2.out.head
  have hef := eql_fn
  have hen := eql_nil
  by_cases hn8 : 8 < nest
  · have hr := HR0.out
    rw [if_pos hn8] at hr
    have HR1 := Lib.hid hr
    clear hr HR0
    have q8 : decide ((8 : Int) < (nest : Int)) = true := by rw [decide_eq_true_eq]; omega
    go_wp2_with fail
    refine (refuse_any H2.out 5).mono ?_
    rintro e w' ⟨rfl, hb⟩
    exact ⟨rfl, out_err (HR1.out.symm) (K2.out.trans (Keeps.below hb))⟩
  · have hr := HR0.out
    rw [if_neg hn8] at hr
    have HR1 := Lib.hid hr
    clear hr HR0
    have q8 : decide ((8 : Int) < (nest : Int)) = false := by rw [decide_eq_false_iff_not]; omega
    go_wp2_with fail
    clear p0 p1 p2 a0 a1 a2 a3
    refine (while_any n b hb _ H2.out (Lib.hid rfl) (Res.live HR1.out hne)).mono ?_
    intro e w3 ho
    rcases ho.go with ⟨l, k, hR, rfl, k3⟩ | ⟨x3, ts3, v3, hR, rfl, hv, h3, k3⟩
    · exact ⟨rfl, out_err (Res.fails HR1.out hR) (K2.out.trans k3)⟩
    have HR2 := Lib.hid (Res.behind HR1.out hR)
    have H3 := Lib.hid h3
    have K3 := Lib.hid (K2.out.trans k3)
    have hs3 := K3.out.size
    have hm3 := k3.size
    have Z3 := Lib.hid (k3.held (by omega) Z2.out)
    have T3 := Lib.hid (k3.held (by omega) T2.out)
    clear h3 k3
    have HX3 := Lib.hid hR
    clear hR
    obtain ⟨ki3, li3, id3, nm3, ty3, le3, va3, tg3, fn3, ca3, ar3, bo3, el3⟩ := x3
    obtain ⟨A3, c3, B3, d3, C3, f3, D3, g3, rfl, ha⟩ := SmIs.parts hv
    have S3 : Hid (SmIs w3 (fun b => w2.heap.size ≤ b) (.agg #[.int .i64 ki3, .int .i64 li3, .int .i64 id3, .string ⟨nm3.toArray⟩, .string ⟨ty3.toArray⟩, .int .i64 le3, .int .i64 va3, .slice A3 tg3.length c3, .string ⟨fn3.toArray⟩, .int .i64 ca3, .slice B3 ar3.length d3, .slice C3 bo3.length f3, .slice D3 el3.length g3]) (.mk ki3 li3 id3 nm3 ty3 le3 va3 tg3 fn3 ca3 ar3 bo3 el3)) := Lib.hid hv
    clear ha hv
    obtain ⟨⟨a0, a1, a2, a3⟩, _⟩ := cells_four T3.out
    have hlt3 : w.heap.size + 1 < w3.heap.size := by omega
    have h4 := H3.out.alloc (.cells #[.int .i64 ki3, .int .i64 li3, .int .i64 id3, .string ⟨nm3.toArray⟩, .string ⟨ty3.toArray⟩, .int .i64 le3, .int .i64 va3, .slice A3 tg3.length c3, .string ⟨fn3.toArray⟩, .int .i64 ca3, .slice B3 ar3.length d3, .slice C3 bo3.length f3, .slice D3 el3.length g3] 49)
    have q4 := K3.out.alloc (.cells #[.int .i64 ki3, .int .i64 li3, .int .i64 id3, .string ⟨nm3.toArray⟩, .string ⟨ty3.toArray⟩, .int .i64 le3, .int .i64 va3, .slice A3 tg3.length c3, .string ⟨fn3.toArray⟩, .int .i64 ca3, .slice B3 ar3.length d3, .slice C3 bo3.length f3, .slice D3 el3.length g3] 49)
    have cZ4 := held_alloc (.cells #[.int .i64 ki3, .int .i64 li3, .int .i64 id3, .string ⟨nm3.toArray⟩, .string ⟨ty3.toArray⟩, .int .i64 le3, .int .i64 va3, .slice A3 tg3.length c3, .string ⟨fn3.toArray⟩, .int .i64 ca3, .slice B3 ar3.length d3, .slice C3 bo3.length f3, .slice D3 el3.length g3] 49) Z3.out
    have cT4 := held_alloc (.cells #[.int .i64 ki3, .int .i64 li3, .int .i64 id3, .string ⟨nm3.toArray⟩, .string ⟨ty3.toArray⟩, .int .i64 le3, .int .i64 va3, .slice A3 tg3.length c3, .string ⟨fn3.toArray⟩, .int .i64 ca3, .slice B3 ar3.length d3, .slice C3 bo3.length f3, .slice D3 el3.length g3] 49) T3.out
    have cE4 := heap_alloc_new w3 (.cells #[.int .i64 ki3, .int .i64 li3, .int .i64 id3, .string ⟨nm3.toArray⟩, .string ⟨ty3.toArray⟩, .int .i64 le3, .int .i64 va3, .slice A3 tg3.length c3, .string ⟨fn3.toArray⟩, .int .i64 ca3, .slice B3 ar3.length d3, .slice C3 bo3.length f3, .slice D3 el3.length g3] 49)
    have cS4 := S3.out.turn (q := fun b => (w2.heap.size ≤ b) ∧ b ≠ w3.heap.size) (fun b hb (hp : w2.heap.size ≤ b) => ⟨⟨hp, by omega⟩, heap_alloc_old _ (.cells #[.int .i64 ki3, .int .i64 li3, .int .i64 id3, .string ⟨nm3.toArray⟩, .string ⟨ty3.toArray⟩, .int .i64 le3, .int .i64 va3, .slice A3 tg3.length c3, .string ⟨fn3.toArray⟩, .int .i64 ca3, .slice B3 ar3.length d3, .slice C3 bo3.length f3, .slice D3 el3.length g3] 49) hb⟩)
    obtain ⟨w4, HW4⟩ : ∃ U, Hid (w3.alloc (.cells #[.int .i64 ki3, .int .i64 li3, .int .i64 id3, .string ⟨nm3.toArray⟩, .string ⟨ty3.toArray⟩, .int .i64 le3, .int .i64 va3, .slice A3 tg3.length c3, .string ⟨fn3.toArray⟩, .int .i64 ca3, .slice B3 ar3.length d3, .slice C3 bo3.length f3, .slice D3 el3.length g3] 49) = U) := ⟨_, Lib.hid rfl⟩
    rw [HW4.out] at h4 q4 cZ4 cT4 cE4 cS4
    have H4 := Lib.hid h4
    have K4 := Lib.hid q4
    have Z4 := Lib.hid cZ4
    have T4 := Lib.hid cT4
    have E4 := Lib.hid cE4
    have S4 := Lib.hid cS4
    have hs4 := K4.out.size
    have hz4 : w4.heap.size = w3.heap.size + 1 := by have hq := congrArg (fun x => x.heap.size) HW4.out; simp only [World.size_alloc] at hq; exact hq.symm
    have hm4 : w3.heap.size < w4.heap.size := by omega
    clear h4 q4 cZ4 cT4 cE4 cS4
    go_wp2_with (first | ((with_reducible show wpList _ _ _ (Oper.mk none (Op.store 3 _ _) _ _ _ none :: _) _ _); rw [HW4.out]; refine wpList_store_cell rfl rfl 3 _ _ rfl w3.heap.size 1 _ (.int .i64 t.line) rfl rfl E4.out (by simp) (by kernel_rfl) rfl ?_; intro w5 hU; have H5 := Lib.hid (H4.out.setC H.out (by omega) hU); have K5 := Lib.hid (K4.out.setC (by omega) hU); have hs5 := K5.out.size; have hm5 := Nat.le_of_eq hU.size.symm; have Z5 := Lib.hid (hU.held (by omega) Z4.out); have T5 := Lib.hid (hU.held (by omega) T4.out); have E5 := Lib.hid (show w5.heap[w3.heap.size]? = some (.cells #[.int .i64 ki3, .int .i64 t.line, .int .i64 id3, .string ⟨nm3.toArray⟩, .string ⟨ty3.toArray⟩, .int .i64 le3, .int .i64 va3, .slice A3 tg3.length c3, .string ⟨fn3.toArray⟩, .int .i64 ca3, .slice B3 ar3.length d3, .slice C3 bo3.length f3, .slice D3 el3.length g3] 49 (0, 0)) from hU.at_); have S5 := Lib.hid (S4.out.turn (hU.stays_of (fun b (hb : (w2.heap.size ≤ b) ∧ b ≠ w3.heap.size) => by omega))); clear hU) | ((with_reducible show wpList _ _ _ (Oper.mk _ (Op.load 49 _) _ _ _ none :: _) _ _); refine wpList_load_all rfl 49 _ rfl w3.heap.size _ _ rfl E5.out Tryd.underlying49 rfl (by kernel_rfl) ?_) | ((with_reducible show wpList _ _ _ (Oper.mk none (Op.store 49 _ _) _ _ _ none :: _) _ _); refine wpList_store_all rfl rfl 49 _ _ rfl w.heap.size _ (#[.int .i64 ki3, .int .i64 t.line, .int .i64 id3, .string ⟨nm3.toArray⟩, .string ⟨ty3.toArray⟩, .int .i64 le3, .int .i64 va3, .slice A3 tg3.length c3, .string ⟨fn3.toArray⟩, .int .i64 ca3, .slice B3 ar3.length d3, .slice C3 bo3.length f3, .slice D3 el3.length g3]) rfl rfl Z5.out rfl (by kernel_rfl) (by simp [Value.oneCell']) ?_; intro U hU))
    (try simp only [Exit.inBlock, Exit.then])
    have hld := ret_all (P := Tryd.prog) 49 w.heap.size _ _ hU.at_ Tryd.underlying49 rfl (by kernel_rfl)
    refine bodyPost_ret (v := .agg #[.int .i64 ki3, .int .i64 t.line, .int .i64 id3, .string ⟨nm3.toArray⟩, .string ⟨ty3.toArray⟩, .int .i64 le3, .int .i64 va3, .slice A3 tg3.length c3, .string ⟨fn3.toArray⟩, .int .i64 ca3, .slice B3 ar3.length d3, .slice C3 bo3.length f3, .slice D3 el3.length g3]) (by simp [results, Tryd.results73, Act.put, asAddr, hld]) rfl ?_
    exact out_ok HR2.out.symm (sm_lined ((S5.out.turn (q := fun b => w.heap.size ≤ b) (fun b _ (hb : (w2.heap.size ≤ b) ∧ b ≠ w3.heap.size) => ⟨by omega, hU.block b (by omega)⟩)))) (H5.out.setC H.out (Nat.le_refl _) hU) (K5.out.setC (Nat.le_refl _) hU)

set_option maxHeartbeats 3200000 in
set_option maxRecDepth 100000 in
theorem statement_return {m : Pm} {w : World} {nest : Nat} {t : Tok} {rest : List Tok} (n : Nat) (b : Blk) (R : Res Sm) (h : PsAt m w nest (t :: rest)) (hk : ¬ t.kind = 1) (ht : t.text = [114, 101, 116, 117, 114, 110]) (hR : Hid (lineP n b nest (t :: rest) = R)) (hne : R ≠ .out) :
    Calls Tryd.prog 73 #[.pointer (some ⟨m.P, 0, none⟩)] w (Out m w nest (SmV w.heap.size) R) := by
  have hts := h.good.1.2 t (List.mem_cons_self)
  have hpart : partP n b (t :: rest) = returnP n (t :: rest) := by simp [partP, hd, hk, ht]
  have hR2 : (if 8 < nest then refuse 5 (t :: rest) else (returnP n (t :: rest)).bind fun s ts' => .ok (s.lined t.line) ts') = R := by rw [← hR.out, lineP, if_neg (show ¬ ((hd (t :: rest)).kind ≠ 1 ∧ (hd (t :: rest)).text ∉ starts) from by simp [hd, ht, starts]), hpart]; rfl
  clear hpart
  have HR0 := Lib.hid hR2
  clear hR hR2
  obtain ⟨o, c, ⟨p0, p1, p2, t0, t1, t2, t3, hle, hc, _, _⟩, _⟩ := h.head
  have hT := h.tok.1
  have hM := h.map.1
  have hq : ((t.kind : Int) == 1) = false := ne_beq (by omega)
  have hmo : methodOf t.text = some 33 := by rw [ht]; rfl
  clear ht
  have hP := h.lt
  have H := Lib.hid h
  have h0 := h.alloc (.cells #[.int .i64 0, .int .i64 0, .int .i64 0, .string ⟨#[]⟩, .string ⟨#[]⟩, .int .i64 0, .int .i64 0, .slice none 0 0, .string ⟨#[]⟩, .int .i64 0, .slice none 0 0, .slice none 0 0, .slice none 0 0] 49)
  have q0 := (Keeps.refl m.P w).alloc (.cells #[.int .i64 0, .int .i64 0, .int .i64 0, .string ⟨#[]⟩, .string ⟨#[]⟩, .int .i64 0, .int .i64 0, .slice none 0 0, .string ⟨#[]⟩, .int .i64 0, .slice none 0 0, .slice none 0 0, .slice none 0 0] 49)
  have cZ0 := heap_alloc_new w (.cells #[.int .i64 0, .int .i64 0, .int .i64 0, .string ⟨#[]⟩, .string ⟨#[]⟩, .int .i64 0, .int .i64 0, .slice none 0 0, .string ⟨#[]⟩, .int .i64 0, .slice none 0 0, .slice none 0 0, .slice none 0 0] 49)
  have hz0 : (w.alloc (.cells #[.int .i64 0, .int .i64 0, .int .i64 0, .string ⟨#[]⟩, .string ⟨#[]⟩, .int .i64 0, .int .i64 0, .slice none 0 0, .string ⟨#[]⟩, .int .i64 0, .slice none 0 0, .slice none 0 0, .slice none 0 0] 49)).heap.size = w.heap.size + 1 := World.size_alloc _ _
  obtain ⟨w0, HW0⟩ : ∃ U, Hid (w.alloc (.cells #[.int .i64 0, .int .i64 0, .int .i64 0, .string ⟨#[]⟩, .string ⟨#[]⟩, .int .i64 0, .int .i64 0, .slice none 0 0, .string ⟨#[]⟩, .int .i64 0, .slice none 0 0, .slice none 0 0, .slice none 0 0] 49) = U) := ⟨_, Lib.hid rfl⟩
  rw [HW0.out] at h0 q0 cZ0 hz0
  have H0 := Lib.hid h0
  have K0 := Lib.hid q0
  have Z0 := Lib.hid cZ0
  clear h h0 q0 cZ0
  go_enter Tryd.func73, Tryd.ntmps73
  go_wp2_with fail
  have h1 := H0.out.alloc (.cells #[.int .i64 t.kind, .int .i64 t.line, .string ⟨t.text.toArray⟩, .int .i64 t.num] 87)
  have q1 := K0.out.alloc (.cells #[.int .i64 t.kind, .int .i64 t.line, .string ⟨t.text.toArray⟩, .int .i64 t.num] 87)
  have cZ1 := held_alloc (.cells #[.int .i64 t.kind, .int .i64 t.line, .string ⟨t.text.toArray⟩, .int .i64 t.num] 87) Z0.out
  have cT1 := (show (w0.alloc (.cells #[.int .i64 t.kind, .int .i64 t.line, .string ⟨t.text.toArray⟩, .int .i64 t.num] 87)).heap[w.heap.size + 1]? = some (.cells #[.int .i64 t.kind, .int .i64 t.line, .string ⟨t.text.toArray⟩, .int .i64 t.num] 87 (0, 0)) from by rw [← hz0]; exact heap_alloc_new _ _)
  obtain ⟨w1, HW1⟩ : ∃ U, Hid (w0.alloc (.cells #[.int .i64 t.kind, .int .i64 t.line, .string ⟨t.text.toArray⟩, .int .i64 t.num] 87) = U) := ⟨_, Lib.hid rfl⟩
  rw [HW1.out] at h1 q1 cZ1 cT1
  have H1 := Lib.hid h1
  have K1 := Lib.hid q1
  have Z1 := Lib.hid cZ1
  have T1 := Lib.hid cT1
  have hs1 := K1.out.size
  have hz1 : w1.heap.size = w0.heap.size + 1 := by have hq := congrArg (fun x => x.heap.size) HW1.out; simp only [World.size_alloc] at hq; exact hq.symm
  have hm1 : w0.heap.size < w1.heap.size := by omega
  clear h1 q1 cZ1 cT1
  rw [HW0.out, HW1.out]
  clear p0 p1 p2 t0 t1 t2 t3 hle hc
  obtain ⟨o1, c1, ⟨p0, p1, p2, _, _, _, _, _, _, _, _⟩, _⟩ := H1.out.head
  obtain ⟨⟨a0, a1, a2, a3⟩, _⟩ := cells_four T1.out
  have hlk := fun k => (H1.out.fns.keep (w' := w1.drewN k) rfl).look t.text (by unfold maxLen; omega) _ hmo
  go_quiet (fail)
  clear a0 a1 a2 a3 p0 p1 p2 hlk
  obtain ⟨w2, HW2⟩ : ∃ U, Hid (w1.drewN nq = U) := ⟨_, Lib.hid rfl⟩
  have H2 := Lib.hid (show PsAt m (w1.drewN nq) nest _ from H1.out.kept (Nat.le_refl _) fun _ _ => rfl)
  have K2 := Lib.hid (show Keeps m.P w (w1.drewN nq) from ⟨K1.out.os, K1.out.tape, K1.out.output, K1.out.size, K1.out.block⟩)
  have Z2 := Lib.hid (show (w1.drewN nq).heap[w.heap.size]? = _ from Z1.out)
  have T2 := Lib.hid (show (w1.drewN nq).heap[(w.heap.size + 1)]? = _ from T1.out)
  rw [HW2.out] at H2 K2 Z2 T2 ⊢
  have hs2 := K2.out.size
  have hm2 : w2.heap.size = w1.heap.size := by rw [← HW2.out]; rfl
  obtain ⟨⟨a0, a1, a2, a3⟩, _⟩ := cells_four T2.out
  obtain ⟨o2, c2, ⟨p0, p1, p2, _, _, _, _, _, _, _, _⟩, _⟩ := H2.out.head
  have hef := eql_fn
  have hen := eql_nil
  by_cases hn8 : 8 < nest
  · have hr := HR0.out
    rw [if_pos hn8] at hr
    have HR1 := Lib.hid hr
    clear hr HR0
    have q8 : decide ((8 : Int) < (nest : Int)) = true := by rw [decide_eq_true_eq]; omega
    go_wp2_with fail
    refine (refuse_any H2.out 5).mono ?_
    rintro e w' ⟨rfl, hb⟩
    exact ⟨rfl, out_err (HR1.out.symm) (K2.out.trans (Keeps.below hb))⟩
  · have hr := HR0.out
    rw [if_neg hn8] at hr
    have HR1 := Lib.hid hr
    clear hr HR0
    have q8 : decide ((8 : Int) < (nest : Int)) = false := by rw [decide_eq_false_iff_not]; omega
    go_wp2_with fail
    clear p0 p1 p2 a0 a1 a2 a3
    refine (return_any n _ H2.out (Lib.hid rfl) (Res.live HR1.out hne)).mono ?_
    intro e w3 ho
    rcases ho.go with ⟨l, k, hR, rfl, k3⟩ | ⟨x3, ts3, v3, hR, rfl, hv, h3, k3⟩
    · exact ⟨rfl, out_err (Res.fails HR1.out hR) (K2.out.trans k3)⟩
    have HR2 := Lib.hid (Res.behind HR1.out hR)
    have H3 := Lib.hid h3
    have K3 := Lib.hid (K2.out.trans k3)
    have hs3 := K3.out.size
    have hm3 := k3.size
    have Z3 := Lib.hid (k3.held (by omega) Z2.out)
    have T3 := Lib.hid (k3.held (by omega) T2.out)
    clear h3 k3
    have HX3 := Lib.hid hR
    clear hR
    obtain ⟨ki3, li3, id3, nm3, ty3, le3, va3, tg3, fn3, ca3, ar3, bo3, el3⟩ := x3
    obtain ⟨A3, c3, B3, d3, C3, f3, D3, g3, rfl, ha⟩ := SmIs.parts hv
    have S3 : Hid (SmIs w3 (fun b => w2.heap.size ≤ b) (.agg #[.int .i64 ki3, .int .i64 li3, .int .i64 id3, .string ⟨nm3.toArray⟩, .string ⟨ty3.toArray⟩, .int .i64 le3, .int .i64 va3, .slice A3 tg3.length c3, .string ⟨fn3.toArray⟩, .int .i64 ca3, .slice B3 ar3.length d3, .slice C3 bo3.length f3, .slice D3 el3.length g3]) (.mk ki3 li3 id3 nm3 ty3 le3 va3 tg3 fn3 ca3 ar3 bo3 el3)) := Lib.hid hv
    clear ha hv
    obtain ⟨⟨a0, a1, a2, a3⟩, _⟩ := cells_four T3.out
    have hlt3 : w.heap.size + 1 < w3.heap.size := by omega
    have h4 := H3.out.alloc (.cells #[.int .i64 ki3, .int .i64 li3, .int .i64 id3, .string ⟨nm3.toArray⟩, .string ⟨ty3.toArray⟩, .int .i64 le3, .int .i64 va3, .slice A3 tg3.length c3, .string ⟨fn3.toArray⟩, .int .i64 ca3, .slice B3 ar3.length d3, .slice C3 bo3.length f3, .slice D3 el3.length g3] 49)
    have q4 := K3.out.alloc (.cells #[.int .i64 ki3, .int .i64 li3, .int .i64 id3, .string ⟨nm3.toArray⟩, .string ⟨ty3.toArray⟩, .int .i64 le3, .int .i64 va3, .slice A3 tg3.length c3, .string ⟨fn3.toArray⟩, .int .i64 ca3, .slice B3 ar3.length d3, .slice C3 bo3.length f3, .slice D3 el3.length g3] 49)
    have cZ4 := held_alloc (.cells #[.int .i64 ki3, .int .i64 li3, .int .i64 id3, .string ⟨nm3.toArray⟩, .string ⟨ty3.toArray⟩, .int .i64 le3, .int .i64 va3, .slice A3 tg3.length c3, .string ⟨fn3.toArray⟩, .int .i64 ca3, .slice B3 ar3.length d3, .slice C3 bo3.length f3, .slice D3 el3.length g3] 49) Z3.out
    have cT4 := held_alloc (.cells #[.int .i64 ki3, .int .i64 li3, .int .i64 id3, .string ⟨nm3.toArray⟩, .string ⟨ty3.toArray⟩, .int .i64 le3, .int .i64 va3, .slice A3 tg3.length c3, .string ⟨fn3.toArray⟩, .int .i64 ca3, .slice B3 ar3.length d3, .slice C3 bo3.length f3, .slice D3 el3.length g3] 49) T3.out
    have cE4 := heap_alloc_new w3 (.cells #[.int .i64 ki3, .int .i64 li3, .int .i64 id3, .string ⟨nm3.toArray⟩, .string ⟨ty3.toArray⟩, .int .i64 le3, .int .i64 va3, .slice A3 tg3.length c3, .string ⟨fn3.toArray⟩, .int .i64 ca3, .slice B3 ar3.length d3, .slice C3 bo3.length f3, .slice D3 el3.length g3] 49)
    have cS4 := S3.out.turn (q := fun b => (w2.heap.size ≤ b) ∧ b ≠ w3.heap.size) (fun b hb (hp : w2.heap.size ≤ b) => ⟨⟨hp, by omega⟩, heap_alloc_old _ (.cells #[.int .i64 ki3, .int .i64 li3, .int .i64 id3, .string ⟨nm3.toArray⟩, .string ⟨ty3.toArray⟩, .int .i64 le3, .int .i64 va3, .slice A3 tg3.length c3, .string ⟨fn3.toArray⟩, .int .i64 ca3, .slice B3 ar3.length d3, .slice C3 bo3.length f3, .slice D3 el3.length g3] 49) hb⟩)
    obtain ⟨w4, HW4⟩ : ∃ U, Hid (w3.alloc (.cells #[.int .i64 ki3, .int .i64 li3, .int .i64 id3, .string ⟨nm3.toArray⟩, .string ⟨ty3.toArray⟩, .int .i64 le3, .int .i64 va3, .slice A3 tg3.length c3, .string ⟨fn3.toArray⟩, .int .i64 ca3, .slice B3 ar3.length d3, .slice C3 bo3.length f3, .slice D3 el3.length g3] 49) = U) := ⟨_, Lib.hid rfl⟩
    rw [HW4.out] at h4 q4 cZ4 cT4 cE4 cS4
    have H4 := Lib.hid h4
    have K4 := Lib.hid q4
    have Z4 := Lib.hid cZ4
    have T4 := Lib.hid cT4
    have E4 := Lib.hid cE4
    have S4 := Lib.hid cS4
    have hs4 := K4.out.size
    have hz4 : w4.heap.size = w3.heap.size + 1 := by have hq := congrArg (fun x => x.heap.size) HW4.out; simp only [World.size_alloc] at hq; exact hq.symm
    have hm4 : w3.heap.size < w4.heap.size := by omega
    clear h4 q4 cZ4 cT4 cE4 cS4
    go_wp2_with (first | ((with_reducible show wpList _ _ _ (Oper.mk none (Op.store 3 _ _) _ _ _ none :: _) _ _); rw [HW4.out]; refine wpList_store_cell rfl rfl 3 _ _ rfl w3.heap.size 1 _ (.int .i64 t.line) rfl rfl E4.out (by simp) (by kernel_rfl) rfl ?_; intro w5 hU; have H5 := Lib.hid (H4.out.setC H.out (by omega) hU); have K5 := Lib.hid (K4.out.setC (by omega) hU); have hs5 := K5.out.size; have hm5 := Nat.le_of_eq hU.size.symm; have Z5 := Lib.hid (hU.held (by omega) Z4.out); have T5 := Lib.hid (hU.held (by omega) T4.out); have E5 := Lib.hid (show w5.heap[w3.heap.size]? = some (.cells #[.int .i64 ki3, .int .i64 t.line, .int .i64 id3, .string ⟨nm3.toArray⟩, .string ⟨ty3.toArray⟩, .int .i64 le3, .int .i64 va3, .slice A3 tg3.length c3, .string ⟨fn3.toArray⟩, .int .i64 ca3, .slice B3 ar3.length d3, .slice C3 bo3.length f3, .slice D3 el3.length g3] 49 (0, 0)) from hU.at_); have S5 := Lib.hid (S4.out.turn (hU.stays_of (fun b (hb : (w2.heap.size ≤ b) ∧ b ≠ w3.heap.size) => by omega))); clear hU) | ((with_reducible show wpList _ _ _ (Oper.mk _ (Op.load 49 _) _ _ _ none :: _) _ _); refine wpList_load_all rfl 49 _ rfl w3.heap.size _ _ rfl E5.out Tryd.underlying49 rfl (by kernel_rfl) ?_) | ((with_reducible show wpList _ _ _ (Oper.mk none (Op.store 49 _ _) _ _ _ none :: _) _ _); refine wpList_store_all rfl rfl 49 _ _ rfl w.heap.size _ (#[.int .i64 ki3, .int .i64 t.line, .int .i64 id3, .string ⟨nm3.toArray⟩, .string ⟨ty3.toArray⟩, .int .i64 le3, .int .i64 va3, .slice A3 tg3.length c3, .string ⟨fn3.toArray⟩, .int .i64 ca3, .slice B3 ar3.length d3, .slice C3 bo3.length f3, .slice D3 el3.length g3]) rfl rfl Z5.out rfl (by kernel_rfl) (by simp [Value.oneCell']) ?_; intro U hU))
    (try simp only [Exit.inBlock, Exit.then])
    have hld := ret_all (P := Tryd.prog) 49 w.heap.size _ _ hU.at_ Tryd.underlying49 rfl (by kernel_rfl)
    refine bodyPost_ret (v := .agg #[.int .i64 ki3, .int .i64 t.line, .int .i64 id3, .string ⟨nm3.toArray⟩, .string ⟨ty3.toArray⟩, .int .i64 le3, .int .i64 va3, .slice A3 tg3.length c3, .string ⟨fn3.toArray⟩, .int .i64 ca3, .slice B3 ar3.length d3, .slice C3 bo3.length f3, .slice D3 el3.length g3]) (by simp [results, Tryd.results73, Act.put, asAddr, hld]) rfl ?_
    exact out_ok HR2.out.symm (sm_lined ((S5.out.turn (q := fun b => w.heap.size ≤ b) (fun b _ (hb : (w2.heap.size ≤ b) ∧ b ≠ w3.heap.size) => ⟨by omega, hU.block b (by omega)⟩)))) (H5.out.setC H.out (Nat.le_refl _) hU) (K5.out.setC (Nat.le_refl _) hU)

set_option maxHeartbeats 3200000 in
set_option maxRecDepth 100000 in
theorem statement_throw {m : Pm} {w : World} {nest : Nat} {t : Tok} {rest : List Tok} (n : Nat) (b : Blk) (R : Res Sm) (h : PsAt m w nest (t :: rest)) (hk : ¬ t.kind = 1) (ht : t.text = [116, 104, 114, 111, 119]) (hR : Hid (lineP n b nest (t :: rest) = R)) (hne : R ≠ .out) :
    Calls Tryd.prog 73 #[.pointer (some ⟨m.P, 0, none⟩)] w (Out m w nest (SmV w.heap.size) R) := by
  have hts := h.good.1.2 t (List.mem_cons_self)
  have hpart : partP n b (t :: rest) = throwP n (t :: rest) := by simp [partP, hd, hk, ht]
  have hR2 : (if 8 < nest then refuse 5 (t :: rest) else (throwP n (t :: rest)).bind fun s ts' => .ok (s.lined t.line) ts') = R := by rw [← hR.out, lineP, if_neg (show ¬ ((hd (t :: rest)).kind ≠ 1 ∧ (hd (t :: rest)).text ∉ starts) from by simp [hd, ht, starts]), hpart]; rfl
  clear hpart
  have HR0 := Lib.hid hR2
  clear hR hR2
  obtain ⟨o, c, ⟨p0, p1, p2, t0, t1, t2, t3, hle, hc, _, _⟩, _⟩ := h.head
  have hT := h.tok.1
  have hM := h.map.1
  have hq : ((t.kind : Int) == 1) = false := ne_beq (by omega)
  have hmo : methodOf t.text = some 34 := by rw [ht]; rfl
  clear ht
  have hP := h.lt
  have H := Lib.hid h
  have h0 := h.alloc (.cells #[.int .i64 0, .int .i64 0, .int .i64 0, .string ⟨#[]⟩, .string ⟨#[]⟩, .int .i64 0, .int .i64 0, .slice none 0 0, .string ⟨#[]⟩, .int .i64 0, .slice none 0 0, .slice none 0 0, .slice none 0 0] 49)
  have q0 := (Keeps.refl m.P w).alloc (.cells #[.int .i64 0, .int .i64 0, .int .i64 0, .string ⟨#[]⟩, .string ⟨#[]⟩, .int .i64 0, .int .i64 0, .slice none 0 0, .string ⟨#[]⟩, .int .i64 0, .slice none 0 0, .slice none 0 0, .slice none 0 0] 49)
  have cZ0 := heap_alloc_new w (.cells #[.int .i64 0, .int .i64 0, .int .i64 0, .string ⟨#[]⟩, .string ⟨#[]⟩, .int .i64 0, .int .i64 0, .slice none 0 0, .string ⟨#[]⟩, .int .i64 0, .slice none 0 0, .slice none 0 0, .slice none 0 0] 49)
  have hz0 : (w.alloc (.cells #[.int .i64 0, .int .i64 0, .int .i64 0, .string ⟨#[]⟩, .string ⟨#[]⟩, .int .i64 0, .int .i64 0, .slice none 0 0, .string ⟨#[]⟩, .int .i64 0, .slice none 0 0, .slice none 0 0, .slice none 0 0] 49)).heap.size = w.heap.size + 1 := World.size_alloc _ _
  obtain ⟨w0, HW0⟩ : ∃ U, Hid (w.alloc (.cells #[.int .i64 0, .int .i64 0, .int .i64 0, .string ⟨#[]⟩, .string ⟨#[]⟩, .int .i64 0, .int .i64 0, .slice none 0 0, .string ⟨#[]⟩, .int .i64 0, .slice none 0 0, .slice none 0 0, .slice none 0 0] 49) = U) := ⟨_, Lib.hid rfl⟩
  rw [HW0.out] at h0 q0 cZ0 hz0
  have H0 := Lib.hid h0
  have K0 := Lib.hid q0
  have Z0 := Lib.hid cZ0
  clear h h0 q0 cZ0
  go_enter Tryd.func73, Tryd.ntmps73
  go_wp2_with fail
  have h1 := H0.out.alloc (.cells #[.int .i64 t.kind, .int .i64 t.line, .string ⟨t.text.toArray⟩, .int .i64 t.num] 87)
  have q1 := K0.out.alloc (.cells #[.int .i64 t.kind, .int .i64 t.line, .string ⟨t.text.toArray⟩, .int .i64 t.num] 87)
  have cZ1 := held_alloc (.cells #[.int .i64 t.kind, .int .i64 t.line, .string ⟨t.text.toArray⟩, .int .i64 t.num] 87) Z0.out
  have cT1 := (show (w0.alloc (.cells #[.int .i64 t.kind, .int .i64 t.line, .string ⟨t.text.toArray⟩, .int .i64 t.num] 87)).heap[w.heap.size + 1]? = some (.cells #[.int .i64 t.kind, .int .i64 t.line, .string ⟨t.text.toArray⟩, .int .i64 t.num] 87 (0, 0)) from by rw [← hz0]; exact heap_alloc_new _ _)
  obtain ⟨w1, HW1⟩ : ∃ U, Hid (w0.alloc (.cells #[.int .i64 t.kind, .int .i64 t.line, .string ⟨t.text.toArray⟩, .int .i64 t.num] 87) = U) := ⟨_, Lib.hid rfl⟩
  rw [HW1.out] at h1 q1 cZ1 cT1
  have H1 := Lib.hid h1
  have K1 := Lib.hid q1
  have Z1 := Lib.hid cZ1
  have T1 := Lib.hid cT1
  have hs1 := K1.out.size
  have hz1 : w1.heap.size = w0.heap.size + 1 := by have hq := congrArg (fun x => x.heap.size) HW1.out; simp only [World.size_alloc] at hq; exact hq.symm
  have hm1 : w0.heap.size < w1.heap.size := by omega
  clear h1 q1 cZ1 cT1
  rw [HW0.out, HW1.out]
  clear p0 p1 p2 t0 t1 t2 t3 hle hc
  obtain ⟨o1, c1, ⟨p0, p1, p2, _, _, _, _, _, _, _, _⟩, _⟩ := H1.out.head
  obtain ⟨⟨a0, a1, a2, a3⟩, _⟩ := cells_four T1.out
  have hlk := fun k => (H1.out.fns.keep (w' := w1.drewN k) rfl).look t.text (by unfold maxLen; omega) _ hmo
  go_quiet (fail)
  clear a0 a1 a2 a3 p0 p1 p2 hlk
  obtain ⟨w2, HW2⟩ : ∃ U, Hid (w1.drewN nq = U) := ⟨_, Lib.hid rfl⟩
  have H2 := Lib.hid (show PsAt m (w1.drewN nq) nest _ from H1.out.kept (Nat.le_refl _) fun _ _ => rfl)
  have K2 := Lib.hid (show Keeps m.P w (w1.drewN nq) from ⟨K1.out.os, K1.out.tape, K1.out.output, K1.out.size, K1.out.block⟩)
  have Z2 := Lib.hid (show (w1.drewN nq).heap[w.heap.size]? = _ from Z1.out)
  have T2 := Lib.hid (show (w1.drewN nq).heap[(w.heap.size + 1)]? = _ from T1.out)
  rw [HW2.out] at H2 K2 Z2 T2 ⊢
  have hs2 := K2.out.size
  have hm2 : w2.heap.size = w1.heap.size := by rw [← HW2.out]; rfl
  obtain ⟨⟨a0, a1, a2, a3⟩, _⟩ := cells_four T2.out
  obtain ⟨o2, c2, ⟨p0, p1, p2, _, _, _, _, _, _, _, _⟩, _⟩ := H2.out.head
  have hef := eql_fn
  have hen := eql_nil
  by_cases hn8 : 8 < nest
  · have hr := HR0.out
    rw [if_pos hn8] at hr
    have HR1 := Lib.hid hr
    clear hr HR0
    have q8 : decide ((8 : Int) < (nest : Int)) = true := by rw [decide_eq_true_eq]; omega
    go_wp2_with fail
    refine (refuse_any H2.out 5).mono ?_
    rintro e w' ⟨rfl, hb⟩
    exact ⟨rfl, out_err (HR1.out.symm) (K2.out.trans (Keeps.below hb))⟩
  · have hr := HR0.out
    rw [if_neg hn8] at hr
    have HR1 := Lib.hid hr
    clear hr HR0
    have q8 : decide ((8 : Int) < (nest : Int)) = false := by rw [decide_eq_false_iff_not]; omega
    go_wp2_with fail
    clear p0 p1 p2 a0 a1 a2 a3
    refine (throw_any n _ H2.out (Lib.hid rfl) (Res.live HR1.out hne)).mono ?_
    intro e w3 ho
    rcases ho.go with ⟨l, k, hR, rfl, k3⟩ | ⟨x3, ts3, v3, hR, rfl, hv, h3, k3⟩
    · exact ⟨rfl, out_err (Res.fails HR1.out hR) (K2.out.trans k3)⟩
    have HR2 := Lib.hid (Res.behind HR1.out hR)
    have H3 := Lib.hid h3
    have K3 := Lib.hid (K2.out.trans k3)
    have hs3 := K3.out.size
    have hm3 := k3.size
    have Z3 := Lib.hid (k3.held (by omega) Z2.out)
    have T3 := Lib.hid (k3.held (by omega) T2.out)
    clear h3 k3
    have HX3 := Lib.hid hR
    clear hR
    obtain ⟨ki3, li3, id3, nm3, ty3, le3, va3, tg3, fn3, ca3, ar3, bo3, el3⟩ := x3
    obtain ⟨A3, c3, B3, d3, C3, f3, D3, g3, rfl, ha⟩ := SmIs.parts hv
    have S3 : Hid (SmIs w3 (fun b => w2.heap.size ≤ b) (.agg #[.int .i64 ki3, .int .i64 li3, .int .i64 id3, .string ⟨nm3.toArray⟩, .string ⟨ty3.toArray⟩, .int .i64 le3, .int .i64 va3, .slice A3 tg3.length c3, .string ⟨fn3.toArray⟩, .int .i64 ca3, .slice B3 ar3.length d3, .slice C3 bo3.length f3, .slice D3 el3.length g3]) (.mk ki3 li3 id3 nm3 ty3 le3 va3 tg3 fn3 ca3 ar3 bo3 el3)) := Lib.hid hv
    clear ha hv
    obtain ⟨⟨a0, a1, a2, a3⟩, _⟩ := cells_four T3.out
    have hlt3 : w.heap.size + 1 < w3.heap.size := by omega
    have h4 := H3.out.alloc (.cells #[.int .i64 ki3, .int .i64 li3, .int .i64 id3, .string ⟨nm3.toArray⟩, .string ⟨ty3.toArray⟩, .int .i64 le3, .int .i64 va3, .slice A3 tg3.length c3, .string ⟨fn3.toArray⟩, .int .i64 ca3, .slice B3 ar3.length d3, .slice C3 bo3.length f3, .slice D3 el3.length g3] 49)
    have q4 := K3.out.alloc (.cells #[.int .i64 ki3, .int .i64 li3, .int .i64 id3, .string ⟨nm3.toArray⟩, .string ⟨ty3.toArray⟩, .int .i64 le3, .int .i64 va3, .slice A3 tg3.length c3, .string ⟨fn3.toArray⟩, .int .i64 ca3, .slice B3 ar3.length d3, .slice C3 bo3.length f3, .slice D3 el3.length g3] 49)
    have cZ4 := held_alloc (.cells #[.int .i64 ki3, .int .i64 li3, .int .i64 id3, .string ⟨nm3.toArray⟩, .string ⟨ty3.toArray⟩, .int .i64 le3, .int .i64 va3, .slice A3 tg3.length c3, .string ⟨fn3.toArray⟩, .int .i64 ca3, .slice B3 ar3.length d3, .slice C3 bo3.length f3, .slice D3 el3.length g3] 49) Z3.out
    have cT4 := held_alloc (.cells #[.int .i64 ki3, .int .i64 li3, .int .i64 id3, .string ⟨nm3.toArray⟩, .string ⟨ty3.toArray⟩, .int .i64 le3, .int .i64 va3, .slice A3 tg3.length c3, .string ⟨fn3.toArray⟩, .int .i64 ca3, .slice B3 ar3.length d3, .slice C3 bo3.length f3, .slice D3 el3.length g3] 49) T3.out
    have cE4 := heap_alloc_new w3 (.cells #[.int .i64 ki3, .int .i64 li3, .int .i64 id3, .string ⟨nm3.toArray⟩, .string ⟨ty3.toArray⟩, .int .i64 le3, .int .i64 va3, .slice A3 tg3.length c3, .string ⟨fn3.toArray⟩, .int .i64 ca3, .slice B3 ar3.length d3, .slice C3 bo3.length f3, .slice D3 el3.length g3] 49)
    have cS4 := S3.out.turn (q := fun b => (w2.heap.size ≤ b) ∧ b ≠ w3.heap.size) (fun b hb (hp : w2.heap.size ≤ b) => ⟨⟨hp, by omega⟩, heap_alloc_old _ (.cells #[.int .i64 ki3, .int .i64 li3, .int .i64 id3, .string ⟨nm3.toArray⟩, .string ⟨ty3.toArray⟩, .int .i64 le3, .int .i64 va3, .slice A3 tg3.length c3, .string ⟨fn3.toArray⟩, .int .i64 ca3, .slice B3 ar3.length d3, .slice C3 bo3.length f3, .slice D3 el3.length g3] 49) hb⟩)
    obtain ⟨w4, HW4⟩ : ∃ U, Hid (w3.alloc (.cells #[.int .i64 ki3, .int .i64 li3, .int .i64 id3, .string ⟨nm3.toArray⟩, .string ⟨ty3.toArray⟩, .int .i64 le3, .int .i64 va3, .slice A3 tg3.length c3, .string ⟨fn3.toArray⟩, .int .i64 ca3, .slice B3 ar3.length d3, .slice C3 bo3.length f3, .slice D3 el3.length g3] 49) = U) := ⟨_, Lib.hid rfl⟩
    rw [HW4.out] at h4 q4 cZ4 cT4 cE4 cS4
    have H4 := Lib.hid h4
    have K4 := Lib.hid q4
    have Z4 := Lib.hid cZ4
    have T4 := Lib.hid cT4
    have E4 := Lib.hid cE4
    have S4 := Lib.hid cS4
    have hs4 := K4.out.size
    have hz4 : w4.heap.size = w3.heap.size + 1 := by have hq := congrArg (fun x => x.heap.size) HW4.out; simp only [World.size_alloc] at hq; exact hq.symm
    have hm4 : w3.heap.size < w4.heap.size := by omega
    clear h4 q4 cZ4 cT4 cE4 cS4
    go_wp2_with (first | ((with_reducible show wpList _ _ _ (Oper.mk none (Op.store 3 _ _) _ _ _ none :: _) _ _); rw [HW4.out]; refine wpList_store_cell rfl rfl 3 _ _ rfl w3.heap.size 1 _ (.int .i64 t.line) rfl rfl E4.out (by simp) (by kernel_rfl) rfl ?_; intro w5 hU; have H5 := Lib.hid (H4.out.setC H.out (by omega) hU); have K5 := Lib.hid (K4.out.setC (by omega) hU); have hs5 := K5.out.size; have hm5 := Nat.le_of_eq hU.size.symm; have Z5 := Lib.hid (hU.held (by omega) Z4.out); have T5 := Lib.hid (hU.held (by omega) T4.out); have E5 := Lib.hid (show w5.heap[w3.heap.size]? = some (.cells #[.int .i64 ki3, .int .i64 t.line, .int .i64 id3, .string ⟨nm3.toArray⟩, .string ⟨ty3.toArray⟩, .int .i64 le3, .int .i64 va3, .slice A3 tg3.length c3, .string ⟨fn3.toArray⟩, .int .i64 ca3, .slice B3 ar3.length d3, .slice C3 bo3.length f3, .slice D3 el3.length g3] 49 (0, 0)) from hU.at_); have S5 := Lib.hid (S4.out.turn (hU.stays_of (fun b (hb : (w2.heap.size ≤ b) ∧ b ≠ w3.heap.size) => by omega))); clear hU) | ((with_reducible show wpList _ _ _ (Oper.mk _ (Op.load 49 _) _ _ _ none :: _) _ _); refine wpList_load_all rfl 49 _ rfl w3.heap.size _ _ rfl E5.out Tryd.underlying49 rfl (by kernel_rfl) ?_) | ((with_reducible show wpList _ _ _ (Oper.mk none (Op.store 49 _ _) _ _ _ none :: _) _ _); refine wpList_store_all rfl rfl 49 _ _ rfl w.heap.size _ (#[.int .i64 ki3, .int .i64 t.line, .int .i64 id3, .string ⟨nm3.toArray⟩, .string ⟨ty3.toArray⟩, .int .i64 le3, .int .i64 va3, .slice A3 tg3.length c3, .string ⟨fn3.toArray⟩, .int .i64 ca3, .slice B3 ar3.length d3, .slice C3 bo3.length f3, .slice D3 el3.length g3]) rfl rfl Z5.out rfl (by kernel_rfl) (by simp [Value.oneCell']) ?_; intro U hU))
    (try simp only [Exit.inBlock, Exit.then])
    have hld := ret_all (P := Tryd.prog) 49 w.heap.size _ _ hU.at_ Tryd.underlying49 rfl (by kernel_rfl)
    refine bodyPost_ret (v := .agg #[.int .i64 ki3, .int .i64 t.line, .int .i64 id3, .string ⟨nm3.toArray⟩, .string ⟨ty3.toArray⟩, .int .i64 le3, .int .i64 va3, .slice A3 tg3.length c3, .string ⟨fn3.toArray⟩, .int .i64 ca3, .slice B3 ar3.length d3, .slice C3 bo3.length f3, .slice D3 el3.length g3]) (by simp [results, Tryd.results73, Act.put, asAddr, hld]) rfl ?_
    exact out_ok HR2.out.symm (sm_lined ((S5.out.turn (q := fun b => w.heap.size ≤ b) (fun b _ (hb : (w2.heap.size ≤ b) ∧ b ≠ w3.heap.size) => ⟨by omega, hU.block b (by omega)⟩)))) (H5.out.setC H.out (Nat.le_refl _) hU) (K5.out.setC (Nat.le_refl _) hU)

set_option maxHeartbeats 3200000 in
set_option maxRecDepth 100000 in
theorem statement_try {m : Pm} {w : World} {nest : Nat} {t : Tok} {rest : List Tok} (n : Nat) (b : Blk) (hb : BlkAt b nest) (R : Res Sm) (h : PsAt m w nest (t :: rest)) (hk : ¬ t.kind = 1) (ht : t.text = [116, 114, 121]) (hR : Hid (lineP n b nest (t :: rest) = R)) (hne : R ≠ .out) :
    Calls Tryd.prog 73 #[.pointer (some ⟨m.P, 0, none⟩)] w (Out m w nest (SmV w.heap.size) R) := by
  have hts := h.good.1.2 t (List.mem_cons_self)
  have hpart : partP n b (t :: rest) = tryP b (t :: rest) := by simp [partP, hd, hk, ht]
  have hR2 : (if 8 < nest then refuse 5 (t :: rest) else (tryP b (t :: rest)).bind fun s ts' => .ok (s.lined t.line) ts') = R := by rw [← hR.out, lineP, if_neg (show ¬ ((hd (t :: rest)).kind ≠ 1 ∧ (hd (t :: rest)).text ∉ starts) from by simp [hd, ht, starts]), hpart]; rfl
  clear hpart
  have HR0 := Lib.hid hR2
  clear hR hR2
  obtain ⟨o, c, ⟨p0, p1, p2, t0, t1, t2, t3, hle, hc, _, _⟩, _⟩ := h.head
  have hT := h.tok.1
  have hM := h.map.1
  have hq : ((t.kind : Int) == 1) = false := ne_beq (by omega)
  have hmo : methodOf t.text = some 35 := by rw [ht]; rfl
  clear ht
  have hP := h.lt
  have H := Lib.hid h
  have h0 := h.alloc (.cells #[.int .i64 0, .int .i64 0, .int .i64 0, .string ⟨#[]⟩, .string ⟨#[]⟩, .int .i64 0, .int .i64 0, .slice none 0 0, .string ⟨#[]⟩, .int .i64 0, .slice none 0 0, .slice none 0 0, .slice none 0 0] 49)
  have q0 := (Keeps.refl m.P w).alloc (.cells #[.int .i64 0, .int .i64 0, .int .i64 0, .string ⟨#[]⟩, .string ⟨#[]⟩, .int .i64 0, .int .i64 0, .slice none 0 0, .string ⟨#[]⟩, .int .i64 0, .slice none 0 0, .slice none 0 0, .slice none 0 0] 49)
  have cZ0 := heap_alloc_new w (.cells #[.int .i64 0, .int .i64 0, .int .i64 0, .string ⟨#[]⟩, .string ⟨#[]⟩, .int .i64 0, .int .i64 0, .slice none 0 0, .string ⟨#[]⟩, .int .i64 0, .slice none 0 0, .slice none 0 0, .slice none 0 0] 49)
  have hz0 : (w.alloc (.cells #[.int .i64 0, .int .i64 0, .int .i64 0, .string ⟨#[]⟩, .string ⟨#[]⟩, .int .i64 0, .int .i64 0, .slice none 0 0, .string ⟨#[]⟩, .int .i64 0, .slice none 0 0, .slice none 0 0, .slice none 0 0] 49)).heap.size = w.heap.size + 1 := World.size_alloc _ _
  obtain ⟨w0, HW0⟩ : ∃ U, Hid (w.alloc (.cells #[.int .i64 0, .int .i64 0, .int .i64 0, .string ⟨#[]⟩, .string ⟨#[]⟩, .int .i64 0, .int .i64 0, .slice none 0 0, .string ⟨#[]⟩, .int .i64 0, .slice none 0 0, .slice none 0 0, .slice none 0 0] 49) = U) := ⟨_, Lib.hid rfl⟩
  rw [HW0.out] at h0 q0 cZ0 hz0
  have H0 := Lib.hid h0
  have K0 := Lib.hid q0
  have Z0 := Lib.hid cZ0
  clear h h0 q0 cZ0
  go_enter Tryd.func73, Tryd.ntmps73
  go_wp2_with fail
  have h1 := H0.out.alloc (.cells #[.int .i64 t.kind, .int .i64 t.line, .string ⟨t.text.toArray⟩, .int .i64 t.num] 87)
  have q1 := K0.out.alloc (.cells #[.int .i64 t.kind, .int .i64 t.line, .string ⟨t.text.toArray⟩, .int .i64 t.num] 87)
  have cZ1 := held_alloc (.cells #[.int .i64 t.kind, .int .i64 t.line, .string ⟨t.text.toArray⟩, .int .i64 t.num] 87) Z0.out
  have cT1 := (show (w0.alloc (.cells #[.int .i64 t.kind, .int .i64 t.line, .string ⟨t.text.toArray⟩, .int .i64 t.num] 87)).heap[w.heap.size + 1]? = some (.cells #[.int .i64 t.kind, .int .i64 t.line, .string ⟨t.text.toArray⟩, .int .i64 t.num] 87 (0, 0)) from by rw [← hz0]; exact heap_alloc_new _ _)
  obtain ⟨w1, HW1⟩ : ∃ U, Hid (w0.alloc (.cells #[.int .i64 t.kind, .int .i64 t.line, .string ⟨t.text.toArray⟩, .int .i64 t.num] 87) = U) := ⟨_, Lib.hid rfl⟩
  rw [HW1.out] at h1 q1 cZ1 cT1
  have H1 := Lib.hid h1
  have K1 := Lib.hid q1
  have Z1 := Lib.hid cZ1
  have T1 := Lib.hid cT1
  have hs1 := K1.out.size
  have hz1 : w1.heap.size = w0.heap.size + 1 := by have hq := congrArg (fun x => x.heap.size) HW1.out; simp only [World.size_alloc] at hq; exact hq.symm
  have hm1 : w0.heap.size < w1.heap.size := by omega
  clear h1 q1 cZ1 cT1
  rw [HW0.out, HW1.out]
  clear p0 p1 p2 t0 t1 t2 t3 hle hc
  obtain ⟨o1, c1, ⟨p0, p1, p2, _, _, _, _, _, _, _, _⟩, _⟩ := H1.out.head
  obtain ⟨⟨a0, a1, a2, a3⟩, _⟩ := cells_four T1.out
  have hlk := fun k => (H1.out.fns.keep (w' := w1.drewN k) rfl).look t.text (by unfold maxLen; omega) _ hmo
  go_quiet (fail)
  clear a0 a1 a2 a3 p0 p1 p2 hlk
  obtain ⟨w2, HW2⟩ : ∃ U, Hid (w1.drewN nq = U) := ⟨_, Lib.hid rfl⟩
  have H2 := Lib.hid (show PsAt m (w1.drewN nq) nest _ from H1.out.kept (Nat.le_refl _) fun _ _ => rfl)
  have K2 := Lib.hid (show Keeps m.P w (w1.drewN nq) from ⟨K1.out.os, K1.out.tape, K1.out.output, K1.out.size, K1.out.block⟩)
  have Z2 := Lib.hid (show (w1.drewN nq).heap[w.heap.size]? = _ from Z1.out)
  have T2 := Lib.hid (show (w1.drewN nq).heap[(w.heap.size + 1)]? = _ from T1.out)
  rw [HW2.out] at H2 K2 Z2 T2 ⊢
  have hs2 := K2.out.size
  have hm2 : w2.heap.size = w1.heap.size := by rw [← HW2.out]; rfl
  obtain ⟨⟨a0, a1, a2, a3⟩, _⟩ := cells_four T2.out
  obtain ⟨o2, c2, ⟨p0, p1, p2, _, _, _, _, _, _, _, _⟩, _⟩ := H2.out.head
  have hef := eql_fn
  have hen := eql_nil
  by_cases hn8 : 8 < nest
  · have hr := HR0.out
    rw [if_pos hn8] at hr
    have HR1 := Lib.hid hr
    clear hr HR0
    have q8 : decide ((8 : Int) < (nest : Int)) = true := by rw [decide_eq_true_eq]; omega
    go_wp2_with fail
    refine (refuse_any H2.out 5).mono ?_
    rintro e w' ⟨rfl, hb⟩
    exact ⟨rfl, out_err (HR1.out.symm) (K2.out.trans (Keeps.below hb))⟩
  · have hr := HR0.out
    rw [if_neg hn8] at hr
    have HR1 := Lib.hid hr
    clear hr HR0
    have q8 : decide ((8 : Int) < (nest : Int)) = false := by rw [decide_eq_false_iff_not]; omega
    go_wp2_with fail
    clear p0 p1 p2 a0 a1 a2 a3
    refine (try_any b hb _ H2.out (Lib.hid rfl) (Res.live HR1.out hne)).mono ?_
    intro e w3 ho
    rcases ho.go with ⟨l, k, hR, rfl, k3⟩ | ⟨x3, ts3, v3, hR, rfl, hv, h3, k3⟩
    · exact ⟨rfl, out_err (Res.fails HR1.out hR) (K2.out.trans k3)⟩
    have HR2 := Lib.hid (Res.behind HR1.out hR)
    have H3 := Lib.hid h3
    have K3 := Lib.hid (K2.out.trans k3)
    have hs3 := K3.out.size
    have hm3 := k3.size
    have Z3 := Lib.hid (k3.held (by omega) Z2.out)
    have T3 := Lib.hid (k3.held (by omega) T2.out)
    clear h3 k3
    have HX3 := Lib.hid hR
    clear hR
    obtain ⟨ki3, li3, id3, nm3, ty3, le3, va3, tg3, fn3, ca3, ar3, bo3, el3⟩ := x3
    obtain ⟨A3, c3, B3, d3, C3, f3, D3, g3, rfl, ha⟩ := SmIs.parts hv
    have S3 : Hid (SmIs w3 (fun b => w2.heap.size ≤ b) (.agg #[.int .i64 ki3, .int .i64 li3, .int .i64 id3, .string ⟨nm3.toArray⟩, .string ⟨ty3.toArray⟩, .int .i64 le3, .int .i64 va3, .slice A3 tg3.length c3, .string ⟨fn3.toArray⟩, .int .i64 ca3, .slice B3 ar3.length d3, .slice C3 bo3.length f3, .slice D3 el3.length g3]) (.mk ki3 li3 id3 nm3 ty3 le3 va3 tg3 fn3 ca3 ar3 bo3 el3)) := Lib.hid hv
    clear ha hv
    obtain ⟨⟨a0, a1, a2, a3⟩, _⟩ := cells_four T3.out
    have hlt3 : w.heap.size + 1 < w3.heap.size := by omega
    have h4 := H3.out.alloc (.cells #[.int .i64 ki3, .int .i64 li3, .int .i64 id3, .string ⟨nm3.toArray⟩, .string ⟨ty3.toArray⟩, .int .i64 le3, .int .i64 va3, .slice A3 tg3.length c3, .string ⟨fn3.toArray⟩, .int .i64 ca3, .slice B3 ar3.length d3, .slice C3 bo3.length f3, .slice D3 el3.length g3] 49)
    have q4 := K3.out.alloc (.cells #[.int .i64 ki3, .int .i64 li3, .int .i64 id3, .string ⟨nm3.toArray⟩, .string ⟨ty3.toArray⟩, .int .i64 le3, .int .i64 va3, .slice A3 tg3.length c3, .string ⟨fn3.toArray⟩, .int .i64 ca3, .slice B3 ar3.length d3, .slice C3 bo3.length f3, .slice D3 el3.length g3] 49)
    have cZ4 := held_alloc (.cells #[.int .i64 ki3, .int .i64 li3, .int .i64 id3, .string ⟨nm3.toArray⟩, .string ⟨ty3.toArray⟩, .int .i64 le3, .int .i64 va3, .slice A3 tg3.length c3, .string ⟨fn3.toArray⟩, .int .i64 ca3, .slice B3 ar3.length d3, .slice C3 bo3.length f3, .slice D3 el3.length g3] 49) Z3.out
    have cT4 := held_alloc (.cells #[.int .i64 ki3, .int .i64 li3, .int .i64 id3, .string ⟨nm3.toArray⟩, .string ⟨ty3.toArray⟩, .int .i64 le3, .int .i64 va3, .slice A3 tg3.length c3, .string ⟨fn3.toArray⟩, .int .i64 ca3, .slice B3 ar3.length d3, .slice C3 bo3.length f3, .slice D3 el3.length g3] 49) T3.out
    have cE4 := heap_alloc_new w3 (.cells #[.int .i64 ki3, .int .i64 li3, .int .i64 id3, .string ⟨nm3.toArray⟩, .string ⟨ty3.toArray⟩, .int .i64 le3, .int .i64 va3, .slice A3 tg3.length c3, .string ⟨fn3.toArray⟩, .int .i64 ca3, .slice B3 ar3.length d3, .slice C3 bo3.length f3, .slice D3 el3.length g3] 49)
    have cS4 := S3.out.turn (q := fun b => (w2.heap.size ≤ b) ∧ b ≠ w3.heap.size) (fun b hb (hp : w2.heap.size ≤ b) => ⟨⟨hp, by omega⟩, heap_alloc_old _ (.cells #[.int .i64 ki3, .int .i64 li3, .int .i64 id3, .string ⟨nm3.toArray⟩, .string ⟨ty3.toArray⟩, .int .i64 le3, .int .i64 va3, .slice A3 tg3.length c3, .string ⟨fn3.toArray⟩, .int .i64 ca3, .slice B3 ar3.length d3, .slice C3 bo3.length f3, .slice D3 el3.length g3] 49) hb⟩)
    obtain ⟨w4, HW4⟩ : ∃ U, Hid (w3.alloc (.cells #[.int .i64 ki3, .int .i64 li3, .int .i64 id3, .string ⟨nm3.toArray⟩, .string ⟨ty3.toArray⟩, .int .i64 le3, .int .i64 va3, .slice A3 tg3.length c3, .string ⟨fn3.toArray⟩, .int .i64 ca3, .slice B3 ar3.length d3, .slice C3 bo3.length f3, .slice D3 el3.length g3] 49) = U) := ⟨_, Lib.hid rfl⟩
    rw [HW4.out] at h4 q4 cZ4 cT4 cE4 cS4
    have H4 := Lib.hid h4
    have K4 := Lib.hid q4
    have Z4 := Lib.hid cZ4
    have T4 := Lib.hid cT4
    have E4 := Lib.hid cE4
    have S4 := Lib.hid cS4
    have hs4 := K4.out.size
    have hz4 : w4.heap.size = w3.heap.size + 1 := by have hq := congrArg (fun x => x.heap.size) HW4.out; simp only [World.size_alloc] at hq; exact hq.symm
    have hm4 : w3.heap.size < w4.heap.size := by omega
    clear h4 q4 cZ4 cT4 cE4 cS4
    go_wp2_with (first | ((with_reducible show wpList _ _ _ (Oper.mk none (Op.store 3 _ _) _ _ _ none :: _) _ _); rw [HW4.out]; refine wpList_store_cell rfl rfl 3 _ _ rfl w3.heap.size 1 _ (.int .i64 t.line) rfl rfl E4.out (by simp) (by kernel_rfl) rfl ?_; intro w5 hU; have H5 := Lib.hid (H4.out.setC H.out (by omega) hU); have K5 := Lib.hid (K4.out.setC (by omega) hU); have hs5 := K5.out.size; have hm5 := Nat.le_of_eq hU.size.symm; have Z5 := Lib.hid (hU.held (by omega) Z4.out); have T5 := Lib.hid (hU.held (by omega) T4.out); have E5 := Lib.hid (show w5.heap[w3.heap.size]? = some (.cells #[.int .i64 ki3, .int .i64 t.line, .int .i64 id3, .string ⟨nm3.toArray⟩, .string ⟨ty3.toArray⟩, .int .i64 le3, .int .i64 va3, .slice A3 tg3.length c3, .string ⟨fn3.toArray⟩, .int .i64 ca3, .slice B3 ar3.length d3, .slice C3 bo3.length f3, .slice D3 el3.length g3] 49 (0, 0)) from hU.at_); have S5 := Lib.hid (S4.out.turn (hU.stays_of (fun b (hb : (w2.heap.size ≤ b) ∧ b ≠ w3.heap.size) => by omega))); clear hU) | ((with_reducible show wpList _ _ _ (Oper.mk _ (Op.load 49 _) _ _ _ none :: _) _ _); refine wpList_load_all rfl 49 _ rfl w3.heap.size _ _ rfl E5.out Tryd.underlying49 rfl (by kernel_rfl) ?_) | ((with_reducible show wpList _ _ _ (Oper.mk none (Op.store 49 _ _) _ _ _ none :: _) _ _); refine wpList_store_all rfl rfl 49 _ _ rfl w.heap.size _ (#[.int .i64 ki3, .int .i64 t.line, .int .i64 id3, .string ⟨nm3.toArray⟩, .string ⟨ty3.toArray⟩, .int .i64 le3, .int .i64 va3, .slice A3 tg3.length c3, .string ⟨fn3.toArray⟩, .int .i64 ca3, .slice B3 ar3.length d3, .slice C3 bo3.length f3, .slice D3 el3.length g3]) rfl rfl Z5.out rfl (by kernel_rfl) (by simp [Value.oneCell']) ?_; intro U hU))
    (try simp only [Exit.inBlock, Exit.then])
    have hld := ret_all (P := Tryd.prog) 49 w.heap.size _ _ hU.at_ Tryd.underlying49 rfl (by kernel_rfl)
    refine bodyPost_ret (v := .agg #[.int .i64 ki3, .int .i64 t.line, .int .i64 id3, .string ⟨nm3.toArray⟩, .string ⟨ty3.toArray⟩, .int .i64 le3, .int .i64 va3, .slice A3 tg3.length c3, .string ⟨fn3.toArray⟩, .int .i64 ca3, .slice B3 ar3.length d3, .slice C3 bo3.length f3, .slice D3 el3.length g3]) (by simp [results, Tryd.results73, Act.put, asAddr, hld]) rfl ?_
    exact out_ok HR2.out.symm (sm_lined ((S5.out.turn (q := fun b => w.heap.size ≤ b) (fun b _ (hb : (w2.heap.size ≤ b) ∧ b ≠ w3.heap.size) => ⟨by omega, hU.block b (by omega)⟩)))) (H5.out.setC H.out (Nat.le_refl _) hU) (K5.out.setC (Nat.le_refl _) hU)

set_option maxHeartbeats 3200000 in
set_option maxRecDepth 100000 in
theorem statement_print {m : Pm} {w : World} {nest : Nat} {t : Tok} {rest : List Tok} (n : Nat) (b : Blk) (R : Res Sm) (h : PsAt m w nest (t :: rest)) (hk : ¬ t.kind = 1) (ht : t.text = [112, 114, 105, 110, 116]) (hR : Hid (lineP n b nest (t :: rest) = R)) (hne : R ≠ .out) :
    Calls Tryd.prog 73 #[.pointer (some ⟨m.P, 0, none⟩)] w (Out m w nest (SmV w.heap.size) R) := by
  have hts := h.good.1.2 t (List.mem_cons_self)
  have hpart : partP n b (t :: rest) = printP n (t :: rest) := by simp [partP, hd, hk, ht]
  have hR2 : (if 8 < nest then refuse 5 (t :: rest) else (printP n (t :: rest)).bind fun s ts' => .ok (s.lined t.line) ts') = R := by rw [← hR.out, lineP, if_neg (show ¬ ((hd (t :: rest)).kind ≠ 1 ∧ (hd (t :: rest)).text ∉ starts) from by simp [hd, ht, starts]), hpart]; rfl
  clear hpart
  have HR0 := Lib.hid hR2
  clear hR hR2
  obtain ⟨o, c, ⟨p0, p1, p2, t0, t1, t2, t3, hle, hc, _, _⟩, _⟩ := h.head
  have hT := h.tok.1
  have hM := h.map.1
  have hq : ((t.kind : Int) == 1) = false := ne_beq (by omega)
  have hmo : methodOf t.text = some 36 := by rw [ht]; rfl
  clear ht
  have hP := h.lt
  have H := Lib.hid h
  have h0 := h.alloc (.cells #[.int .i64 0, .int .i64 0, .int .i64 0, .string ⟨#[]⟩, .string ⟨#[]⟩, .int .i64 0, .int .i64 0, .slice none 0 0, .string ⟨#[]⟩, .int .i64 0, .slice none 0 0, .slice none 0 0, .slice none 0 0] 49)
  have q0 := (Keeps.refl m.P w).alloc (.cells #[.int .i64 0, .int .i64 0, .int .i64 0, .string ⟨#[]⟩, .string ⟨#[]⟩, .int .i64 0, .int .i64 0, .slice none 0 0, .string ⟨#[]⟩, .int .i64 0, .slice none 0 0, .slice none 0 0, .slice none 0 0] 49)
  have cZ0 := heap_alloc_new w (.cells #[.int .i64 0, .int .i64 0, .int .i64 0, .string ⟨#[]⟩, .string ⟨#[]⟩, .int .i64 0, .int .i64 0, .slice none 0 0, .string ⟨#[]⟩, .int .i64 0, .slice none 0 0, .slice none 0 0, .slice none 0 0] 49)
  have hz0 : (w.alloc (.cells #[.int .i64 0, .int .i64 0, .int .i64 0, .string ⟨#[]⟩, .string ⟨#[]⟩, .int .i64 0, .int .i64 0, .slice none 0 0, .string ⟨#[]⟩, .int .i64 0, .slice none 0 0, .slice none 0 0, .slice none 0 0] 49)).heap.size = w.heap.size + 1 := World.size_alloc _ _
  obtain ⟨w0, HW0⟩ : ∃ U, Hid (w.alloc (.cells #[.int .i64 0, .int .i64 0, .int .i64 0, .string ⟨#[]⟩, .string ⟨#[]⟩, .int .i64 0, .int .i64 0, .slice none 0 0, .string ⟨#[]⟩, .int .i64 0, .slice none 0 0, .slice none 0 0, .slice none 0 0] 49) = U) := ⟨_, Lib.hid rfl⟩
  rw [HW0.out] at h0 q0 cZ0 hz0
  have H0 := Lib.hid h0
  have K0 := Lib.hid q0
  have Z0 := Lib.hid cZ0
  clear h h0 q0 cZ0
  go_enter Tryd.func73, Tryd.ntmps73
  go_wp2_with fail
  have h1 := H0.out.alloc (.cells #[.int .i64 t.kind, .int .i64 t.line, .string ⟨t.text.toArray⟩, .int .i64 t.num] 87)
  have q1 := K0.out.alloc (.cells #[.int .i64 t.kind, .int .i64 t.line, .string ⟨t.text.toArray⟩, .int .i64 t.num] 87)
  have cZ1 := held_alloc (.cells #[.int .i64 t.kind, .int .i64 t.line, .string ⟨t.text.toArray⟩, .int .i64 t.num] 87) Z0.out
  have cT1 := (show (w0.alloc (.cells #[.int .i64 t.kind, .int .i64 t.line, .string ⟨t.text.toArray⟩, .int .i64 t.num] 87)).heap[w.heap.size + 1]? = some (.cells #[.int .i64 t.kind, .int .i64 t.line, .string ⟨t.text.toArray⟩, .int .i64 t.num] 87 (0, 0)) from by rw [← hz0]; exact heap_alloc_new _ _)
  obtain ⟨w1, HW1⟩ : ∃ U, Hid (w0.alloc (.cells #[.int .i64 t.kind, .int .i64 t.line, .string ⟨t.text.toArray⟩, .int .i64 t.num] 87) = U) := ⟨_, Lib.hid rfl⟩
  rw [HW1.out] at h1 q1 cZ1 cT1
  have H1 := Lib.hid h1
  have K1 := Lib.hid q1
  have Z1 := Lib.hid cZ1
  have T1 := Lib.hid cT1
  have hs1 := K1.out.size
  have hz1 : w1.heap.size = w0.heap.size + 1 := by have hq := congrArg (fun x => x.heap.size) HW1.out; simp only [World.size_alloc] at hq; exact hq.symm
  have hm1 : w0.heap.size < w1.heap.size := by omega
  clear h1 q1 cZ1 cT1
  rw [HW0.out, HW1.out]
  clear p0 p1 p2 t0 t1 t2 t3 hle hc
  obtain ⟨o1, c1, ⟨p0, p1, p2, _, _, _, _, _, _, _, _⟩, _⟩ := H1.out.head
  obtain ⟨⟨a0, a1, a2, a3⟩, _⟩ := cells_four T1.out
  have hlk := fun k => (H1.out.fns.keep (w' := w1.drewN k) rfl).look t.text (by unfold maxLen; omega) _ hmo
  go_quiet (fail)
  clear a0 a1 a2 a3 p0 p1 p2 hlk
  obtain ⟨w2, HW2⟩ : ∃ U, Hid (w1.drewN nq = U) := ⟨_, Lib.hid rfl⟩
  have H2 := Lib.hid (show PsAt m (w1.drewN nq) nest _ from H1.out.kept (Nat.le_refl _) fun _ _ => rfl)
  have K2 := Lib.hid (show Keeps m.P w (w1.drewN nq) from ⟨K1.out.os, K1.out.tape, K1.out.output, K1.out.size, K1.out.block⟩)
  have Z2 := Lib.hid (show (w1.drewN nq).heap[w.heap.size]? = _ from Z1.out)
  have T2 := Lib.hid (show (w1.drewN nq).heap[(w.heap.size + 1)]? = _ from T1.out)
  rw [HW2.out] at H2 K2 Z2 T2 ⊢
  have hs2 := K2.out.size
  have hm2 : w2.heap.size = w1.heap.size := by rw [← HW2.out]; rfl
  obtain ⟨⟨a0, a1, a2, a3⟩, _⟩ := cells_four T2.out
  obtain ⟨o2, c2, ⟨p0, p1, p2, _, _, _, _, _, _, _, _⟩, _⟩ := H2.out.head
  have hef := eql_fn
  have hen := eql_nil
  by_cases hn8 : 8 < nest
  · have hr := HR0.out
    rw [if_pos hn8] at hr
    have HR1 := Lib.hid hr
    clear hr HR0
    have q8 : decide ((8 : Int) < (nest : Int)) = true := by rw [decide_eq_true_eq]; omega
    go_wp2_with fail
    refine (refuse_any H2.out 5).mono ?_
    rintro e w' ⟨rfl, hb⟩
    exact ⟨rfl, out_err (HR1.out.symm) (K2.out.trans (Keeps.below hb))⟩
  · have hr := HR0.out
    rw [if_neg hn8] at hr
    have HR1 := Lib.hid hr
    clear hr HR0
    have q8 : decide ((8 : Int) < (nest : Int)) = false := by rw [decide_eq_false_iff_not]; omega
    go_wp2_with fail
    clear p0 p1 p2 a0 a1 a2 a3
    refine (print_any n _ H2.out (Lib.hid rfl) (Res.live HR1.out hne)).mono ?_
    intro e w3 ho
    rcases ho.go with ⟨l, k, hR, rfl, k3⟩ | ⟨x3, ts3, v3, hR, rfl, hv, h3, k3⟩
    · exact ⟨rfl, out_err (Res.fails HR1.out hR) (K2.out.trans k3)⟩
    have HR2 := Lib.hid (Res.behind HR1.out hR)
    have H3 := Lib.hid h3
    have K3 := Lib.hid (K2.out.trans k3)
    have hs3 := K3.out.size
    have hm3 := k3.size
    have Z3 := Lib.hid (k3.held (by omega) Z2.out)
    have T3 := Lib.hid (k3.held (by omega) T2.out)
    clear h3 k3
    have HX3 := Lib.hid hR
    clear hR
    obtain ⟨ki3, li3, id3, nm3, ty3, le3, va3, tg3, fn3, ca3, ar3, bo3, el3⟩ := x3
    obtain ⟨A3, c3, B3, d3, C3, f3, D3, g3, rfl, ha⟩ := SmIs.parts hv
    have S3 : Hid (SmIs w3 (fun b => w2.heap.size ≤ b) (.agg #[.int .i64 ki3, .int .i64 li3, .int .i64 id3, .string ⟨nm3.toArray⟩, .string ⟨ty3.toArray⟩, .int .i64 le3, .int .i64 va3, .slice A3 tg3.length c3, .string ⟨fn3.toArray⟩, .int .i64 ca3, .slice B3 ar3.length d3, .slice C3 bo3.length f3, .slice D3 el3.length g3]) (.mk ki3 li3 id3 nm3 ty3 le3 va3 tg3 fn3 ca3 ar3 bo3 el3)) := Lib.hid hv
    clear ha hv
    obtain ⟨⟨a0, a1, a2, a3⟩, _⟩ := cells_four T3.out
    have hlt3 : w.heap.size + 1 < w3.heap.size := by omega
    have h4 := H3.out.alloc (.cells #[.int .i64 ki3, .int .i64 li3, .int .i64 id3, .string ⟨nm3.toArray⟩, .string ⟨ty3.toArray⟩, .int .i64 le3, .int .i64 va3, .slice A3 tg3.length c3, .string ⟨fn3.toArray⟩, .int .i64 ca3, .slice B3 ar3.length d3, .slice C3 bo3.length f3, .slice D3 el3.length g3] 49)
    have q4 := K3.out.alloc (.cells #[.int .i64 ki3, .int .i64 li3, .int .i64 id3, .string ⟨nm3.toArray⟩, .string ⟨ty3.toArray⟩, .int .i64 le3, .int .i64 va3, .slice A3 tg3.length c3, .string ⟨fn3.toArray⟩, .int .i64 ca3, .slice B3 ar3.length d3, .slice C3 bo3.length f3, .slice D3 el3.length g3] 49)
    have cZ4 := held_alloc (.cells #[.int .i64 ki3, .int .i64 li3, .int .i64 id3, .string ⟨nm3.toArray⟩, .string ⟨ty3.toArray⟩, .int .i64 le3, .int .i64 va3, .slice A3 tg3.length c3, .string ⟨fn3.toArray⟩, .int .i64 ca3, .slice B3 ar3.length d3, .slice C3 bo3.length f3, .slice D3 el3.length g3] 49) Z3.out
    have cT4 := held_alloc (.cells #[.int .i64 ki3, .int .i64 li3, .int .i64 id3, .string ⟨nm3.toArray⟩, .string ⟨ty3.toArray⟩, .int .i64 le3, .int .i64 va3, .slice A3 tg3.length c3, .string ⟨fn3.toArray⟩, .int .i64 ca3, .slice B3 ar3.length d3, .slice C3 bo3.length f3, .slice D3 el3.length g3] 49) T3.out
    have cE4 := heap_alloc_new w3 (.cells #[.int .i64 ki3, .int .i64 li3, .int .i64 id3, .string ⟨nm3.toArray⟩, .string ⟨ty3.toArray⟩, .int .i64 le3, .int .i64 va3, .slice A3 tg3.length c3, .string ⟨fn3.toArray⟩, .int .i64 ca3, .slice B3 ar3.length d3, .slice C3 bo3.length f3, .slice D3 el3.length g3] 49)
    have cS4 := S3.out.turn (q := fun b => (w2.heap.size ≤ b) ∧ b ≠ w3.heap.size) (fun b hb (hp : w2.heap.size ≤ b) => ⟨⟨hp, by omega⟩, heap_alloc_old _ (.cells #[.int .i64 ki3, .int .i64 li3, .int .i64 id3, .string ⟨nm3.toArray⟩, .string ⟨ty3.toArray⟩, .int .i64 le3, .int .i64 va3, .slice A3 tg3.length c3, .string ⟨fn3.toArray⟩, .int .i64 ca3, .slice B3 ar3.length d3, .slice C3 bo3.length f3, .slice D3 el3.length g3] 49) hb⟩)
    obtain ⟨w4, HW4⟩ : ∃ U, Hid (w3.alloc (.cells #[.int .i64 ki3, .int .i64 li3, .int .i64 id3, .string ⟨nm3.toArray⟩, .string ⟨ty3.toArray⟩, .int .i64 le3, .int .i64 va3, .slice A3 tg3.length c3, .string ⟨fn3.toArray⟩, .int .i64 ca3, .slice B3 ar3.length d3, .slice C3 bo3.length f3, .slice D3 el3.length g3] 49) = U) := ⟨_, Lib.hid rfl⟩
    rw [HW4.out] at h4 q4 cZ4 cT4 cE4 cS4
    have H4 := Lib.hid h4
    have K4 := Lib.hid q4
    have Z4 := Lib.hid cZ4
    have T4 := Lib.hid cT4
    have E4 := Lib.hid cE4
    have S4 := Lib.hid cS4
    have hs4 := K4.out.size
    have hz4 : w4.heap.size = w3.heap.size + 1 := by have hq := congrArg (fun x => x.heap.size) HW4.out; simp only [World.size_alloc] at hq; exact hq.symm
    have hm4 : w3.heap.size < w4.heap.size := by omega
    clear h4 q4 cZ4 cT4 cE4 cS4
    go_wp2_with (first | ((with_reducible show wpList _ _ _ (Oper.mk none (Op.store 3 _ _) _ _ _ none :: _) _ _); rw [HW4.out]; refine wpList_store_cell rfl rfl 3 _ _ rfl w3.heap.size 1 _ (.int .i64 t.line) rfl rfl E4.out (by simp) (by kernel_rfl) rfl ?_; intro w5 hU; have H5 := Lib.hid (H4.out.setC H.out (by omega) hU); have K5 := Lib.hid (K4.out.setC (by omega) hU); have hs5 := K5.out.size; have hm5 := Nat.le_of_eq hU.size.symm; have Z5 := Lib.hid (hU.held (by omega) Z4.out); have T5 := Lib.hid (hU.held (by omega) T4.out); have E5 := Lib.hid (show w5.heap[w3.heap.size]? = some (.cells #[.int .i64 ki3, .int .i64 t.line, .int .i64 id3, .string ⟨nm3.toArray⟩, .string ⟨ty3.toArray⟩, .int .i64 le3, .int .i64 va3, .slice A3 tg3.length c3, .string ⟨fn3.toArray⟩, .int .i64 ca3, .slice B3 ar3.length d3, .slice C3 bo3.length f3, .slice D3 el3.length g3] 49 (0, 0)) from hU.at_); have S5 := Lib.hid (S4.out.turn (hU.stays_of (fun b (hb : (w2.heap.size ≤ b) ∧ b ≠ w3.heap.size) => by omega))); clear hU) | ((with_reducible show wpList _ _ _ (Oper.mk _ (Op.load 49 _) _ _ _ none :: _) _ _); refine wpList_load_all rfl 49 _ rfl w3.heap.size _ _ rfl E5.out Tryd.underlying49 rfl (by kernel_rfl) ?_) | ((with_reducible show wpList _ _ _ (Oper.mk none (Op.store 49 _ _) _ _ _ none :: _) _ _); refine wpList_store_all rfl rfl 49 _ _ rfl w.heap.size _ (#[.int .i64 ki3, .int .i64 t.line, .int .i64 id3, .string ⟨nm3.toArray⟩, .string ⟨ty3.toArray⟩, .int .i64 le3, .int .i64 va3, .slice A3 tg3.length c3, .string ⟨fn3.toArray⟩, .int .i64 ca3, .slice B3 ar3.length d3, .slice C3 bo3.length f3, .slice D3 el3.length g3]) rfl rfl Z5.out rfl (by kernel_rfl) (by simp [Value.oneCell']) ?_; intro U hU))
    (try simp only [Exit.inBlock, Exit.then])
    have hld := ret_all (P := Tryd.prog) 49 w.heap.size _ _ hU.at_ Tryd.underlying49 rfl (by kernel_rfl)
    refine bodyPost_ret (v := .agg #[.int .i64 ki3, .int .i64 t.line, .int .i64 id3, .string ⟨nm3.toArray⟩, .string ⟨ty3.toArray⟩, .int .i64 le3, .int .i64 va3, .slice A3 tg3.length c3, .string ⟨fn3.toArray⟩, .int .i64 ca3, .slice B3 ar3.length d3, .slice C3 bo3.length f3, .slice D3 el3.length g3]) (by simp [results, Tryd.results73, Act.put, asAddr, hld]) rfl ?_
    exact out_ok HR2.out.symm (sm_lined ((S5.out.turn (q := fun b => w.heap.size ≤ b) (fun b _ (hb : (w2.heap.size ≤ b) ∧ b ≠ w3.heap.size) => ⟨by omega, hU.block b (by omega)⟩)))) (H5.out.setC H.out (Nat.le_refl _) hU) (K5.out.setC (Nat.le_refl _) hU)

set_option maxHeartbeats 3200000 in
set_option maxRecDepth 100000 in
theorem statement_name {m : Pm} {w : World} {nest : Nat} {t : Tok} {rest : List Tok} (n : Nat) (b : Blk) (R : Res Sm) (h : PsAt m w nest (t :: rest)) (hk : t.kind = 1) (hR : Hid (lineP n b nest (t :: rest) = R)) (hne : R ≠ .out) :
    Calls Tryd.prog 73 #[.pointer (some ⟨m.P, 0, none⟩)] w (Out m w nest (SmV w.heap.size) R) := by
  have hts := h.good.1.2 t (List.mem_cons_self)
  have hpart : partP n b (t :: rest) = goalP n (t :: rest) := by rw [partP, if_pos (show (hd (t :: rest)).kind = 1 from hk)]
  have hR2 : (if 8 < nest then refuse 5 (t :: rest) else (goalP n (t :: rest)).bind fun s ts' => .ok (s.lined t.line) ts') = R := by rw [← hR.out, lineP, if_neg (show ¬ ((hd (t :: rest)).kind ≠ 1 ∧ (hd (t :: rest)).text ∉ starts) from by simp [hd, hk]), hpart]; rfl
  clear hpart
  have HR0 := Lib.hid hR2
  clear hR hR2
  obtain ⟨o, c, ⟨p0, p1, p2, t0, t1, t2, t3, hle, hc, _, _⟩, _⟩ := h.head
  have hT := h.tok.1
  have hM := h.map.1
  have hq : ((t.kind : Int) == 1) = true := by rw [hk]; rfl
  clear hk
  have hP := h.lt
  have H := Lib.hid h
  have h0 := h.alloc (.cells #[.int .i64 0, .int .i64 0, .int .i64 0, .string ⟨#[]⟩, .string ⟨#[]⟩, .int .i64 0, .int .i64 0, .slice none 0 0, .string ⟨#[]⟩, .int .i64 0, .slice none 0 0, .slice none 0 0, .slice none 0 0] 49)
  have q0 := (Keeps.refl m.P w).alloc (.cells #[.int .i64 0, .int .i64 0, .int .i64 0, .string ⟨#[]⟩, .string ⟨#[]⟩, .int .i64 0, .int .i64 0, .slice none 0 0, .string ⟨#[]⟩, .int .i64 0, .slice none 0 0, .slice none 0 0, .slice none 0 0] 49)
  have cZ0 := heap_alloc_new w (.cells #[.int .i64 0, .int .i64 0, .int .i64 0, .string ⟨#[]⟩, .string ⟨#[]⟩, .int .i64 0, .int .i64 0, .slice none 0 0, .string ⟨#[]⟩, .int .i64 0, .slice none 0 0, .slice none 0 0, .slice none 0 0] 49)
  have hz0 : (w.alloc (.cells #[.int .i64 0, .int .i64 0, .int .i64 0, .string ⟨#[]⟩, .string ⟨#[]⟩, .int .i64 0, .int .i64 0, .slice none 0 0, .string ⟨#[]⟩, .int .i64 0, .slice none 0 0, .slice none 0 0, .slice none 0 0] 49)).heap.size = w.heap.size + 1 := World.size_alloc _ _
  obtain ⟨w0, HW0⟩ : ∃ U, Hid (w.alloc (.cells #[.int .i64 0, .int .i64 0, .int .i64 0, .string ⟨#[]⟩, .string ⟨#[]⟩, .int .i64 0, .int .i64 0, .slice none 0 0, .string ⟨#[]⟩, .int .i64 0, .slice none 0 0, .slice none 0 0, .slice none 0 0] 49) = U) := ⟨_, Lib.hid rfl⟩
  rw [HW0.out] at h0 q0 cZ0 hz0
  have H0 := Lib.hid h0
  have K0 := Lib.hid q0
  have Z0 := Lib.hid cZ0
  clear h h0 q0 cZ0
  go_enter Tryd.func73, Tryd.ntmps73
  go_wp2_with fail
  have h1 := H0.out.alloc (.cells #[.int .i64 t.kind, .int .i64 t.line, .string ⟨t.text.toArray⟩, .int .i64 t.num] 87)
  have q1 := K0.out.alloc (.cells #[.int .i64 t.kind, .int .i64 t.line, .string ⟨t.text.toArray⟩, .int .i64 t.num] 87)
  have cZ1 := held_alloc (.cells #[.int .i64 t.kind, .int .i64 t.line, .string ⟨t.text.toArray⟩, .int .i64 t.num] 87) Z0.out
  have cT1 := (show (w0.alloc (.cells #[.int .i64 t.kind, .int .i64 t.line, .string ⟨t.text.toArray⟩, .int .i64 t.num] 87)).heap[w.heap.size + 1]? = some (.cells #[.int .i64 t.kind, .int .i64 t.line, .string ⟨t.text.toArray⟩, .int .i64 t.num] 87 (0, 0)) from by rw [← hz0]; exact heap_alloc_new _ _)
  obtain ⟨w1, HW1⟩ : ∃ U, Hid (w0.alloc (.cells #[.int .i64 t.kind, .int .i64 t.line, .string ⟨t.text.toArray⟩, .int .i64 t.num] 87) = U) := ⟨_, Lib.hid rfl⟩
  rw [HW1.out] at h1 q1 cZ1 cT1
  have H1 := Lib.hid h1
  have K1 := Lib.hid q1
  have Z1 := Lib.hid cZ1
  have T1 := Lib.hid cT1
  have hs1 := K1.out.size
  have hz1 : w1.heap.size = w0.heap.size + 1 := by have hq := congrArg (fun x => x.heap.size) HW1.out; simp only [World.size_alloc] at hq; exact hq.symm
  have hm1 : w0.heap.size < w1.heap.size := by omega
  clear h1 q1 cZ1 cT1
  rw [HW0.out, HW1.out]
  clear p0 p1 p2 t0 t1 t2 t3 hle hc
  obtain ⟨o1, c1, ⟨p0, p1, p2, _, _, _, _, _, _, _, _⟩, _⟩ := H1.out.head
  obtain ⟨⟨a0, a1, a2, a3⟩, _⟩ := cells_four T1.out
  obtain ⟨fv, hlk⟩ : ∃ fv, ∀ k, (Instr.lookup 65 (.map (some m.M)) (.string ⟨t.text.toArray⟩) false).run Tryd.prog (w1.drewN k) = .ok fv (w1.drewN k) := by
    cases hmo : methodOf t.text with
    | none => exact ⟨_, fun k => (H1.out.fns.keep (w' := w1.drewN k) rfl).look_none t.text (by unfold maxLen; omega) hmo⟩
    | some j => exact ⟨_, fun k => (H1.out.fns.keep (w' := w1.drewN k) rfl).look t.text (by unfold maxLen; omega) j hmo⟩
  go_quiet (fail)
  clear a0 a1 a2 a3 p0 p1 p2 hlk
  obtain ⟨w2, HW2⟩ : ∃ U, Hid (w1.drewN nq = U) := ⟨_, Lib.hid rfl⟩
  have H2 := Lib.hid (show PsAt m (w1.drewN nq) nest _ from H1.out.kept (Nat.le_refl _) fun _ _ => rfl)
  have K2 := Lib.hid (show Keeps m.P w (w1.drewN nq) from ⟨K1.out.os, K1.out.tape, K1.out.output, K1.out.size, K1.out.block⟩)
  have Z2 := Lib.hid (show (w1.drewN nq).heap[w.heap.size]? = _ from Z1.out)
  have T2 := Lib.hid (show (w1.drewN nq).heap[(w.heap.size + 1)]? = _ from T1.out)
  rw [HW2.out] at H2 K2 Z2 T2 ⊢
  have hs2 := K2.out.size
  have hm2 : w2.heap.size = w1.heap.size := by rw [← HW2.out]; rfl
  obtain ⟨⟨a0, a1, a2, a3⟩, _⟩ := cells_four T2.out
  obtain ⟨o2, c2, ⟨p0, p1, p2, _, _, _, _, _, _, _, _⟩, _⟩ := H2.out.head
  have hef := eql_fn
  have hen := eql_nil
  by_cases hn8 : 8 < nest
  · have hr := HR0.out
    rw [if_pos hn8] at hr
    have HR1 := Lib.hid hr
    clear hr HR0
    have q8 : decide ((8 : Int) < (nest : Int)) = true := by rw [decide_eq_true_eq]; omega
    go_wp2_with fail
    refine (refuse_any H2.out 5).mono ?_
    rintro e w' ⟨rfl, hb⟩
    exact ⟨rfl, out_err (HR1.out.symm) (K2.out.trans (Keeps.below hb))⟩
  · have hr := HR0.out
    rw [if_neg hn8] at hr
    have HR1 := Lib.hid hr
    clear hr HR0
    have q8 : decide ((8 : Int) < (nest : Int)) = false := by rw [decide_eq_false_iff_not]; omega
    go_wp2_with fail
    clear p0 p1 p2 a0 a1 a2 a3
    refine (goal_any n _ H2.out (Lib.hid rfl) (Res.live HR1.out hne)).mono ?_
    intro e w3 ho
    rcases ho.go with ⟨l, k, hR, rfl, k3⟩ | ⟨x3, ts3, v3, hR, rfl, hv, h3, k3⟩
    · exact ⟨rfl, out_err (Res.fails HR1.out hR) (K2.out.trans k3)⟩
    have HR2 := Lib.hid (Res.behind HR1.out hR)
    have H3 := Lib.hid h3
    have K3 := Lib.hid (K2.out.trans k3)
    have hs3 := K3.out.size
    have hm3 := k3.size
    have Z3 := Lib.hid (k3.held (by omega) Z2.out)
    have T3 := Lib.hid (k3.held (by omega) T2.out)
    clear h3 k3
    have HX3 := Lib.hid hR
    clear hR
    obtain ⟨ki3, li3, id3, nm3, ty3, le3, va3, tg3, fn3, ca3, ar3, bo3, el3⟩ := x3
    obtain ⟨A3, c3, B3, d3, C3, f3, D3, g3, rfl, ha⟩ := SmIs.parts hv
    have S3 : Hid (SmIs w3 (fun b => w2.heap.size ≤ b) (.agg #[.int .i64 ki3, .int .i64 li3, .int .i64 id3, .string ⟨nm3.toArray⟩, .string ⟨ty3.toArray⟩, .int .i64 le3, .int .i64 va3, .slice A3 tg3.length c3, .string ⟨fn3.toArray⟩, .int .i64 ca3, .slice B3 ar3.length d3, .slice C3 bo3.length f3, .slice D3 el3.length g3]) (.mk ki3 li3 id3 nm3 ty3 le3 va3 tg3 fn3 ca3 ar3 bo3 el3)) := Lib.hid hv
    clear ha hv
    obtain ⟨⟨a0, a1, a2, a3⟩, _⟩ := cells_four T3.out
    have hlt3 : w.heap.size + 1 < w3.heap.size := by omega
    have h4 := H3.out.alloc (.cells #[.int .i64 ki3, .int .i64 li3, .int .i64 id3, .string ⟨nm3.toArray⟩, .string ⟨ty3.toArray⟩, .int .i64 le3, .int .i64 va3, .slice A3 tg3.length c3, .string ⟨fn3.toArray⟩, .int .i64 ca3, .slice B3 ar3.length d3, .slice C3 bo3.length f3, .slice D3 el3.length g3] 49)
    have q4 := K3.out.alloc (.cells #[.int .i64 ki3, .int .i64 li3, .int .i64 id3, .string ⟨nm3.toArray⟩, .string ⟨ty3.toArray⟩, .int .i64 le3, .int .i64 va3, .slice A3 tg3.length c3, .string ⟨fn3.toArray⟩, .int .i64 ca3, .slice B3 ar3.length d3, .slice C3 bo3.length f3, .slice D3 el3.length g3] 49)
    have cZ4 := held_alloc (.cells #[.int .i64 ki3, .int .i64 li3, .int .i64 id3, .string ⟨nm3.toArray⟩, .string ⟨ty3.toArray⟩, .int .i64 le3, .int .i64 va3, .slice A3 tg3.length c3, .string ⟨fn3.toArray⟩, .int .i64 ca3, .slice B3 ar3.length d3, .slice C3 bo3.length f3, .slice D3 el3.length g3] 49) Z3.out
    have cT4 := held_alloc (.cells #[.int .i64 ki3, .int .i64 li3, .int .i64 id3, .string ⟨nm3.toArray⟩, .string ⟨ty3.toArray⟩, .int .i64 le3, .int .i64 va3, .slice A3 tg3.length c3, .string ⟨fn3.toArray⟩, .int .i64 ca3, .slice B3 ar3.length d3, .slice C3 bo3.length f3, .slice D3 el3.length g3] 49) T3.out
    have cE4 := heap_alloc_new w3 (.cells #[.int .i64 ki3, .int .i64 li3, .int .i64 id3, .string ⟨nm3.toArray⟩, .string ⟨ty3.toArray⟩, .int .i64 le3, .int .i64 va3, .slice A3 tg3.length c3, .string ⟨fn3.toArray⟩, .int .i64 ca3, .slice B3 ar3.length d3, .slice C3 bo3.length f3, .slice D3 el3.length g3] 49)
    have cS4 := S3.out.turn (q := fun b => (w2.heap.size ≤ b) ∧ b ≠ w3.heap.size) (fun b hb (hp : w2.heap.size ≤ b) => ⟨⟨hp, by omega⟩, heap_alloc_old _ (.cells #[.int .i64 ki3, .int .i64 li3, .int .i64 id3, .string ⟨nm3.toArray⟩, .string ⟨ty3.toArray⟩, .int .i64 le3, .int .i64 va3, .slice A3 tg3.length c3, .string ⟨fn3.toArray⟩, .int .i64 ca3, .slice B3 ar3.length d3, .slice C3 bo3.length f3, .slice D3 el3.length g3] 49) hb⟩)
    obtain ⟨w4, HW4⟩ : ∃ U, Hid (w3.alloc (.cells #[.int .i64 ki3, .int .i64 li3, .int .i64 id3, .string ⟨nm3.toArray⟩, .string ⟨ty3.toArray⟩, .int .i64 le3, .int .i64 va3, .slice A3 tg3.length c3, .string ⟨fn3.toArray⟩, .int .i64 ca3, .slice B3 ar3.length d3, .slice C3 bo3.length f3, .slice D3 el3.length g3] 49) = U) := ⟨_, Lib.hid rfl⟩
    rw [HW4.out] at h4 q4 cZ4 cT4 cE4 cS4
    have H4 := Lib.hid h4
    have K4 := Lib.hid q4
    have Z4 := Lib.hid cZ4
    have T4 := Lib.hid cT4
    have E4 := Lib.hid cE4
    have S4 := Lib.hid cS4
    have hs4 := K4.out.size
    have hz4 : w4.heap.size = w3.heap.size + 1 := by have hq := congrArg (fun x => x.heap.size) HW4.out; simp only [World.size_alloc] at hq; exact hq.symm
    have hm4 : w3.heap.size < w4.heap.size := by omega
    clear h4 q4 cZ4 cT4 cE4 cS4
    go_wp2_with (first | ((with_reducible show wpList _ _ _ (Oper.mk none (Op.store 3 _ _) _ _ _ none :: _) _ _); rw [HW4.out]; refine wpList_store_cell rfl rfl 3 _ _ rfl w3.heap.size 1 _ (.int .i64 t.line) rfl rfl E4.out (by simp) (by kernel_rfl) rfl ?_; intro w5 hU; have H5 := Lib.hid (H4.out.setC H.out (by omega) hU); have K5 := Lib.hid (K4.out.setC (by omega) hU); have hs5 := K5.out.size; have hm5 := Nat.le_of_eq hU.size.symm; have Z5 := Lib.hid (hU.held (by omega) Z4.out); have T5 := Lib.hid (hU.held (by omega) T4.out); have E5 := Lib.hid (show w5.heap[w3.heap.size]? = some (.cells #[.int .i64 ki3, .int .i64 t.line, .int .i64 id3, .string ⟨nm3.toArray⟩, .string ⟨ty3.toArray⟩, .int .i64 le3, .int .i64 va3, .slice A3 tg3.length c3, .string ⟨fn3.toArray⟩, .int .i64 ca3, .slice B3 ar3.length d3, .slice C3 bo3.length f3, .slice D3 el3.length g3] 49 (0, 0)) from hU.at_); have S5 := Lib.hid (S4.out.turn (hU.stays_of (fun b (hb : (w2.heap.size ≤ b) ∧ b ≠ w3.heap.size) => by omega))); clear hU) | ((with_reducible show wpList _ _ _ (Oper.mk _ (Op.load 49 _) _ _ _ none :: _) _ _); refine wpList_load_all rfl 49 _ rfl w3.heap.size _ _ rfl E5.out Tryd.underlying49 rfl (by kernel_rfl) ?_) | ((with_reducible show wpList _ _ _ (Oper.mk none (Op.store 49 _ _) _ _ _ none :: _) _ _); refine wpList_store_all rfl rfl 49 _ _ rfl w.heap.size _ (#[.int .i64 ki3, .int .i64 t.line, .int .i64 id3, .string ⟨nm3.toArray⟩, .string ⟨ty3.toArray⟩, .int .i64 le3, .int .i64 va3, .slice A3 tg3.length c3, .string ⟨fn3.toArray⟩, .int .i64 ca3, .slice B3 ar3.length d3, .slice C3 bo3.length f3, .slice D3 el3.length g3]) rfl rfl Z5.out rfl (by kernel_rfl) (by simp [Value.oneCell']) ?_; intro U hU))
    (try simp only [Exit.inBlock, Exit.then])
    have hld := ret_all (P := Tryd.prog) 49 w.heap.size _ _ hU.at_ Tryd.underlying49 rfl (by kernel_rfl)
    refine bodyPost_ret (v := .agg #[.int .i64 ki3, .int .i64 t.line, .int .i64 id3, .string ⟨nm3.toArray⟩, .string ⟨ty3.toArray⟩, .int .i64 le3, .int .i64 va3, .slice A3 tg3.length c3, .string ⟨fn3.toArray⟩, .int .i64 ca3, .slice B3 ar3.length d3, .slice C3 bo3.length f3, .slice D3 el3.length g3]) (by simp [results, Tryd.results73, Act.put, asAddr, hld]) rfl ?_
    exact out_ok HR2.out.symm (sm_lined ((S5.out.turn (q := fun b => w.heap.size ≤ b) (fun b _ (hb : (w2.heap.size ≤ b) ∧ b ≠ w3.heap.size) => ⟨by omega, hU.block b (by omega)⟩)))) (H5.out.setC H.out (Nat.le_refl _) hU) (K5.out.setC (Nat.le_refl _) hU)

set_option maxHeartbeats 3200000 in
set_option maxRecDepth 100000 in
theorem statement_none {m : Pm} {w : World} {nest : Nat} {t : Tok} {rest : List Tok} (n : Nat) (b : Blk) (R : Res Sm) (h : PsAt m w nest (t :: rest)) (hk : ¬ t.kind = 1) (hw : t.text ∉ starts) (hR : Hid (lineP n b nest (t :: rest) = R)) :
    Calls Tryd.prog 73 #[.pointer (some ⟨m.P, 0, none⟩)] w (Out m w nest (SmV w.heap.size) R) := by
  have hts := h.good.1.2 t (List.mem_cons_self)
  have hR2 : (.err t.line 7 : Res Sm) = R := by rw [← hR.out, lineP, if_pos (show (hd (t :: rest)).kind ≠ 1 ∧ (hd (t :: rest)).text ∉ starts from ⟨hk, hw⟩)]; rfl
  have HR0 := Lib.hid hR2
  clear hR hR2
  obtain ⟨o, c, ⟨p0, p1, p2, t0, t1, t2, t3, hle, hc, _, _⟩, _⟩ := h.head
  have hT := h.tok.1
  have hM := h.map.1
  have hq : ((t.kind : Int) == 1) = false := ne_beq (by omega)
  have hmo : methodOf t.text = none := by
    simp only [starts, List.mem_cons, List.not_mem_nil, or_false, not_or] at hw
    obtain ⟨a1, a2, a3, a4, a5, a6, a7⟩ := hw
    have e : ∀ x : List UInt8, ¬ t.text = x → (x == t.text) = false := fun x hx => by simpa using fun e => hx e.symm
    simp only [methodOf, methods, List.find?_cons, e _ a1, e _ a2, e _ a3, e _ a4, e _ a5, e _ a6, e _ a7, List.find?_nil, Option.map_none]
  have hP := h.lt
  have H := Lib.hid h
  have h0 := h.alloc (.cells #[.int .i64 0, .int .i64 0, .int .i64 0, .string ⟨#[]⟩, .string ⟨#[]⟩, .int .i64 0, .int .i64 0, .slice none 0 0, .string ⟨#[]⟩, .int .i64 0, .slice none 0 0, .slice none 0 0, .slice none 0 0] 49)
  have q0 := (Keeps.refl m.P w).alloc (.cells #[.int .i64 0, .int .i64 0, .int .i64 0, .string ⟨#[]⟩, .string ⟨#[]⟩, .int .i64 0, .int .i64 0, .slice none 0 0, .string ⟨#[]⟩, .int .i64 0, .slice none 0 0, .slice none 0 0, .slice none 0 0] 49)
  have cZ0 := heap_alloc_new w (.cells #[.int .i64 0, .int .i64 0, .int .i64 0, .string ⟨#[]⟩, .string ⟨#[]⟩, .int .i64 0, .int .i64 0, .slice none 0 0, .string ⟨#[]⟩, .int .i64 0, .slice none 0 0, .slice none 0 0, .slice none 0 0] 49)
  have hz0 : (w.alloc (.cells #[.int .i64 0, .int .i64 0, .int .i64 0, .string ⟨#[]⟩, .string ⟨#[]⟩, .int .i64 0, .int .i64 0, .slice none 0 0, .string ⟨#[]⟩, .int .i64 0, .slice none 0 0, .slice none 0 0, .slice none 0 0] 49)).heap.size = w.heap.size + 1 := World.size_alloc _ _
  obtain ⟨w0, HW0⟩ : ∃ U, Hid (w.alloc (.cells #[.int .i64 0, .int .i64 0, .int .i64 0, .string ⟨#[]⟩, .string ⟨#[]⟩, .int .i64 0, .int .i64 0, .slice none 0 0, .string ⟨#[]⟩, .int .i64 0, .slice none 0 0, .slice none 0 0, .slice none 0 0] 49) = U) := ⟨_, Lib.hid rfl⟩
  rw [HW0.out] at h0 q0 cZ0 hz0
  have H0 := Lib.hid h0
  have K0 := Lib.hid q0
  have Z0 := Lib.hid cZ0
  clear h h0 q0 cZ0
  go_enter Tryd.func73, Tryd.ntmps73
  go_wp2_with fail
  have h1 := H0.out.alloc (.cells #[.int .i64 t.kind, .int .i64 t.line, .string ⟨t.text.toArray⟩, .int .i64 t.num] 87)
  have q1 := K0.out.alloc (.cells #[.int .i64 t.kind, .int .i64 t.line, .string ⟨t.text.toArray⟩, .int .i64 t.num] 87)
  have cZ1 := held_alloc (.cells #[.int .i64 t.kind, .int .i64 t.line, .string ⟨t.text.toArray⟩, .int .i64 t.num] 87) Z0.out
  have cT1 := (show (w0.alloc (.cells #[.int .i64 t.kind, .int .i64 t.line, .string ⟨t.text.toArray⟩, .int .i64 t.num] 87)).heap[w.heap.size + 1]? = some (.cells #[.int .i64 t.kind, .int .i64 t.line, .string ⟨t.text.toArray⟩, .int .i64 t.num] 87 (0, 0)) from by rw [← hz0]; exact heap_alloc_new _ _)
  obtain ⟨w1, HW1⟩ : ∃ U, Hid (w0.alloc (.cells #[.int .i64 t.kind, .int .i64 t.line, .string ⟨t.text.toArray⟩, .int .i64 t.num] 87) = U) := ⟨_, Lib.hid rfl⟩
  rw [HW1.out] at h1 q1 cZ1 cT1
  have H1 := Lib.hid h1
  have K1 := Lib.hid q1
  have Z1 := Lib.hid cZ1
  have T1 := Lib.hid cT1
  have hs1 := K1.out.size
  have hz1 : w1.heap.size = w0.heap.size + 1 := by have hq := congrArg (fun x => x.heap.size) HW1.out; simp only [World.size_alloc] at hq; exact hq.symm
  have hm1 : w0.heap.size < w1.heap.size := by omega
  clear h1 q1 cZ1 cT1
  rw [HW0.out, HW1.out]
  clear p0 p1 p2 t0 t1 t2 t3 hle hc
  obtain ⟨o1, c1, ⟨p0, p1, p2, _, _, _, _, _, _, _, _⟩, _⟩ := H1.out.head
  obtain ⟨⟨a0, a1, a2, a3⟩, _⟩ := cells_four T1.out
  have hlk := fun k => (H1.out.fns.keep (w' := w1.drewN k) rfl).look_none t.text (by unfold maxLen; omega) hmo
  go_quiet (fail)
  clear a0 a1 a2 a3 p0 p1 p2 hlk
  obtain ⟨w2, HW2⟩ : ∃ U, Hid (w1.drewN nq = U) := ⟨_, Lib.hid rfl⟩
  have H2 := Lib.hid (show PsAt m (w1.drewN nq) nest _ from H1.out.kept (Nat.le_refl _) fun _ _ => rfl)
  have K2 := Lib.hid (show Keeps m.P w (w1.drewN nq) from ⟨K1.out.os, K1.out.tape, K1.out.output, K1.out.size, K1.out.block⟩)
  have Z2 := Lib.hid (show (w1.drewN nq).heap[w.heap.size]? = _ from Z1.out)
  have T2 := Lib.hid (show (w1.drewN nq).heap[(w.heap.size + 1)]? = _ from T1.out)
  rw [HW2.out] at H2 K2 Z2 T2 ⊢
  have hs2 := K2.out.size
  have hm2 : w2.heap.size = w1.heap.size := by rw [← HW2.out]; rfl
  obtain ⟨⟨a0, a1, a2, a3⟩, _⟩ := cells_four T2.out
  obtain ⟨o2, c2, ⟨p0, p1, p2, _, _, _, _, _, _, _, _⟩, _⟩ := H2.out.head
  have hef := eql_fn
  have hen := eql_nil
  go_wp2_with fail
  refine (refuse_any H2.out 7).mono ?_
  rintro e w' ⟨rfl, hb⟩
  exact ⟨rfl, out_err (HR0.out.symm) (K2.out.trans (Keeps.below hb))⟩
end Go.Proofs.YtpfefjfpnmchcaaDoor
namespace Go.Proofs.YtpfefjfpnmchcaaDoor
open Go.RowKit

theorem statement_any {m : Pm} {w : World} {nest : Nat} {ts : List Tok} (n : Nat) (b : Blk) (hb : BlkAt b nest) (R : Res Sm) (h : PsAt m w nest ts) (hR : Hid (lineP n b nest ts = R)) (hne : R ≠ .out) :
    Calls Tryd.prog 73 #[.pointer (some ⟨m.P, 0, none⟩)] w (Out m w nest (SmV w.heap.size) R) := by
  obtain ⟨t, rest, rfl⟩ := h.good.cons
  by_cases hk : t.kind = 1
  · exact statement_name n b R h hk hR hne
  · by_cases hw : t.text ∈ starts
    · simp only [starts, List.mem_cons, List.not_mem_nil, or_false] at hw
      rcases hw with ht | ht | ht | ht | ht | ht | ht
      · exact statement_var n b R h hk ht hR
      · exact statement_if n b hb R h hk ht hR hne
      · exact statement_while n b hb R h hk ht hR hne
      · exact statement_return n b R h hk ht hR hne
      · exact statement_throw n b R h hk ht hR hne
      · exact statement_try n b hb R h hk ht hR hne
      · exact statement_print n b R h hk ht hR hne
    · exact statement_none n b R h hk hw hR
theorem sm_oneCell {kind line id len var callee : Int} {nm ty fn : ByteArray} {A1 A2 A3 A4 : Option Addr} {l1 l2 l3 l4 c1 c2 c3 c4 : Nat} {u : Value} (hu : u ∈ ([.int .i64 kind, .int .i64 line, .int .i64 id, .string nm, .string ty, .int .i64 len, .int .i64 var, .slice A1 l1 c1, .string fn, .int .i64 callee, .slice A2 l2 c2, .slice A3 l3 c3, .slice A4 l4 c4] : List Value)) : u.oneCell' = true := by
  simp only [List.mem_cons, List.not_mem_nil, or_false] at hu
  rcases hu with rfl | rfl | rfl | rfl | rfl | rfl | rfl | rfl | rfl | rfl | rfl | rfl | rfl <;> rfl

set_option maxHeartbeats 3200000 in
set_option maxRecDepth 100000 in
theorem block_step {n nest : Nat} (hnn : nest + n ≤ 1000000000) (ih : ∀ k, k < n → BlkAt (blockP k (nest + 1)) (nest + 1)) : BlkAt (blockP (n + 1) nest) nest := by
  intro m w ts R h hR hne
  have hR2 := hR.out
  unfold blockP at hR2
  have HR := Lib.hid hR2
  have H := Lib.hid h
  have HN := Lib.hid (expect_any h [123] (by simp))
  have hP := h.lt
  clear h hR hR2
  go_enter Tryd.func55, Tryd.ntmps55
  go_wp2_with fail
  refine HN.out.mono ?_
  intro e w1 ho
  rcases ho.go with ⟨l, k, hR1, rfl, k1⟩ | ⟨x, ts1, v, hR1, rfl, hv, h1, k1⟩
  · exact ⟨rfl, out_err (Res.fails HR.out hR1) k1⟩
  · have HR1 := Lib.hid (Res.behind HR.out hR1)
    have hl1 := fin_expect [123] ts
    rw [hR1] at hl1
    have hl1' : ts1.length ≤ ts.length - 1 := hl1
    obtain ⟨t1, r1, rfl⟩ := h1.good.cons
    obtain ⟨o, c, ⟨p0, p1, p2, t0, t1', t2, t3, hle, hc, f0, f1⟩, _⟩ := h1.head
    have hn := h1.nested (nest + 1)
    rw [show ((nest + 1 : Nat) : Int) = (nest : Int) + 1 from by omega] at hn
    have HN2 := Lib.hid hn
    have K1 := Lib.hid k1
    have hts := H.out.good.1.1
    clear h1 k1 hR1 hn hl1 HN hle hc t0 t1' t2 t3 p2 p0 f0
    go_wp2_with fail
    have K2 := Lib.hid (K1.out.set 1 (.int .i64 ((nest : Int) + 1)))
    go_loopg [4] n (fun k v wr => ∃ (A : Option Addr) (c : Nat) (acc : List Sm) (ts' : List Tok), v = .slice A acc.length c ∧ OwnIs SmIs wr w.heap.size 49 13 A c acc ∧ PsAt m wr (nest + 1) ts' ∧ Keeps m.P w wr ∧ k ≤ n ∧ stmtsP k (nest + 1) acc ts' = R ∧ acc.length + ts'.length ≤ 2001)
    case atStart =>
      refine ⟨_, _, [], t1 :: r1, rfl, ?_, HN2.out.alloc _, K2.out.alloc _, Nat.le_refl _, HR1.out, ?_⟩
      · have hsz : (w1.setCell ⟨m.P, 1, none⟩ (.int .i64 ((nest : Int) + 1))).heap.size = w1.heap.size := by simp [World.setCell]
        have hmd := OwnIs.made SmIs (w1.setCell ⟨m.P, 1, none⟩ (.int .i64 ((nest : Int) + 1))) w.heap.size 49 13 K2.out.size
        rw [hsz] at hmd
        exact hmd
      · simp only [List.length_cons, List.length_nil] at *
        omega
    case round =>
      obtain ⟨A, c, acc, ts', rfl, hown, hps, hkp, hkn, hmore, hsum⟩ := hrel
      have HO := Lib.hid hown
      have HPS := Lib.hid hps
      have HK := Lib.hid hkp
      have HMR := Lib.hid hmore
      clear hown hps hkp hmore HN2 K1 HR1 K2 p1 f1
      cases gk with
      | zero => exact absurd (show R = .out from by have := HMR.out; unfold stmtsP at this; exact this.symm) hne
      | succ gk =>
        have hm := HMR.out
        unfold stmtsP at hm
        by_cases hx : (hd ts').text = [125]
        · rw [if_pos hx] at hm
          have HM := Lib.hid hm.symm
          have hq : ((hd ts').text == [125]) = true := by simpa using hx
          have hp1 := len_pos (ts := ts') (.inr (by rw [hx]; simp))
          clear hm
          go_wp2_with fail
          refine (at_any HPS.out [125]).mono ?_
          rintro e w2 ⟨rfl, hw'⟩
          have hw2 := hw'.symm
          clear hw'
          subst hw2
          obtain ⟨t2, r2, rfl⟩ := HPS.out.good.cons
          obtain ⟨o2, c2, ⟨p0, p1, p2, t0, t1', t2', t3, hle, hc2, f0, f1⟩, _⟩ := HPS.out.head
          rw [show ((nest + 1 : Nat) : Int) = (nest : Int) + 1 from by omega] at p1
          have hgr := HPS.out.good.tail (.inr (by rw [show t2.text = [125] from hx]; simp))
          have hn := HPS.out.nested nest
          have HN3 := Lib.hid hn
          clear p0 p2 t0 t1' t2' t3 hle hc2 f0 hn hx
          have hfd := tok_line
          have K3 := Lib.hid (HK.out.set 1 (.int .i64 nest))
          have hs := HK.out.size
          have HO3 := Lib.hid (HO.out.turn turns_sm (w' := wr.setCell ⟨m.P, 1, none⟩ (.int .i64 nest)) (fun b hb hlt => heap_setCell_other wr ⟨m.P, 1, none⟩ b _ (by show b ≠ m.P; omega)))
          go_wp2_with fail
          refine (next_any HN3.out hgr).mono ?_
          rintro e w4 ⟨rfl, h4, k4⟩
          have H4 := Lib.hid h4
          have K4 := Lib.hid (K3.out.trans k4)
          have hsz : (wr.setCell ⟨m.P, 1, none⟩ (.int .i64 nest)).heap.size = wr.heap.size := by simp [World.setCell]
          have HO4 := Lib.hid (HO3.out.turn turns_sm (w' := w4) (fun b hb hlt => k4.block b hlt (by omega)))
          clear h4 k4 p1 f1
          go_wp2_with fail
          go_ret2
          exact out_ok HM.out ⟨A, c, rfl, HO4.out⟩ H4.out K4.out
        · rw [if_neg hx] at hm
          have HM := Lib.hid hm
          have hq : ((hd ts').text == [125]) = false := by simpa using hx
          clear hm hx
          go_wp2_with fail
          refine (at_any HPS.out [125]).mono ?_
          rintro e w2 ⟨rfl, hw'⟩
          have hw2 := hw'.symm
          clear hw'
          subst hw2
          go_wp2_with fail
          refine (statement_any gk (blockP gk (nest + 1)) (ih gk (by omega)) _ HPS.out (Lib.hid rfl) (Res.live HM.out hne)).mono ?_
          intro e w3 ho3
          rcases ho3.go with ⟨l, k, hR3, rfl, k3⟩ | ⟨y, ts3, v3, hR3, rfl, hv3, h3, k3⟩
          · exact ⟨rfl, out_err (Res.fails HM.out hR3) (HK.out.trans k3)⟩
          · have hl3 := line_short hR3
            have hp3 := line_pos hR3
            have HR3 := Lib.hid (Res.behind HM.out hR3)
            have H3 := Lib.hid h3
            have K3 := Lib.hid (HK.out.trans k3)
            have hs2 := HK.out.size
            have hs3 := K3.out.size
            have HO3 := Lib.hid (HO.out.turn turns_sm (w' := w3) (fun b hb hlt => k3.block b hlt (by omega)))
            obtain ⟨ki, li, id, nm, ty, le, va, tg, fn, ca, ar, bo, el⟩ := y
            obtain ⟨A1, c1, A2, c2, A3, c3, A4, c4, rfl, ha⟩ := SmIs.parts hv3
            have HV3 := Lib.hid (hv3.turn (stays_alloc (.cells #[.int .i64 ki, .int .i64 li, .int .i64 id, .string ⟨nm.toArray⟩, .string ⟨ty.toArray⟩, .int .i64 le, .int .i64 va, .slice A1 tg.length c1, .string ⟨fn.toArray⟩, .int .i64 ca, .slice A2 ar.length c2, .slice A3 bo.length c3, .slice A4 el.length c4] 49)))
            clear h3 k3 hR3 hv3 ha
            have hrow2 : ∀ g, blkOf A = some g → g < wr.heap.size := fun g hg => (HO.out.place g hg).2
            obtain ⟨i, hi, hz, hsz, hby⟩ := info_sm
            have HO4 := Lib.hid (HO3.out.turn turns_sm (w' := w3.alloc (.cells #[.int .i64 ki, .int .i64 li, .int .i64 id, .string ⟨nm.toArray⟩, .string ⟨ty.toArray⟩, .int .i64 le, .int .i64 va, .slice A1 tg.length c1, .string ⟨fn.toArray⟩, .int .i64 ca, .slice A2 ar.length c2, .slice A3 bo.length c3, .slice A4 el.length c4] 49)) (fun b hb hlt => heap_alloc_old w3 _ hlt))
            go_wp2_with (at_builtin; refine wpList_append_one turns_sm rfl _ _ 44 rfl i _ 192 Tryd.underlying44 hi hz hsz hby rfl (by omega) (by omega) HO4.out rfl w3.heap.size 1 rfl [.int .i64 ki, .int .i64 li, .int .i64 id, .string ⟨nm.toArray⟩, .string ⟨ty.toArray⟩, .int .i64 le, .int .i64 va, .slice A1 tg.length c1, .string ⟨fn.toArray⟩, .int .i64 ca, .slice A2 ar.length c2, .slice A3 bo.length c3, .slice A4 el.length c4] (.mk ki li id nm ty le va tg fn ca ar bo el) rfl (fun j u hu => ?_) (fun u hu => ?_) (by omega) (by rw [World.size_alloc]; omega) (HV3.out.turn (fun b hb hp => ⟨⟨by omega, fun e => by have := hrow2 b e.symm; omega⟩, rfl⟩)) ?_)
            · exact new_cell w3 _ _ j u hu
            · exact sm_oneCell hu
            intro A' c' w4 ho4 hg4 hw4
            have hrow : ∀ g, blkOf A = some g → w.heap.size ≤ g := fun g hg => (HO.out.place g hg).1
            have HO5 := Lib.hid ho4
            have H5 := Lib.hid ((H3.out.alloc _).grew H.out hg4 hrow)
            have K5 := Lib.hid ((K3.out.alloc _).grown hg4 hrow)
            have HR5 := Lib.hid HR3.out
            clear ho4 hg4 hw4 HO4 HR3 H3 K3 HO3 HV3
            go_wp2_with fail
            go_roundg gk
            case measure => omega
            case rel => exact ⟨A', c', acc ++ [_], ts3, by simp, HO5.out, H5.out, K5.out, by omega, HR5.out, by simp only [List.length_append, List.length_cons, List.length_nil]; omega⟩
/-- block, in however many steps. -/
theorem block_all : ∀ n nest : Nat, nest + n ≤ 1000000000 → BlkAt (blockP n nest) nest := by
  intro n
  induction n using Nat.strongRecOn with
  | _ n ih =>
    intro nest hn
    cases n with
    | zero => exact fun {m w ts} R _ hR hne => absurd (show R = .out from by rw [← hR.out]; unfold blockP; rfl) hne
    | succ n => exact block_step (by omega) fun k hk => ih k (by omega) (nest + 1) (by omega)
end Go.Proofs.YtpfefjfpnmchcaaDoor
