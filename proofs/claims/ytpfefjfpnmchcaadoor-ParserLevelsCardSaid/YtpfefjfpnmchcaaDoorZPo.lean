/-
  The walk of the parser's operation; expressions of any number of steps. Condition: the parser in memory. The walks of the parser's statements without blocks. Condition: the parser in memory.
-/
import Derived.Test.YtpfefjfpnmchcaaDoorZPa
import Derived.Test.YtpfefjfpnmchcaaDoorZTr
namespace Go.Proofs.YtpfefjfpnmchcaaDoor
open Go.RowKit

theorem oper_up {k : Nat} (ih : OperAt k) {m : Pm} {w : World} {nest : Nat} {ts : List Tok} (rank lev : Nat) (R : Res Ex) (h : PsAt m w nest ts) (hr : rank ≤ 4) (hl : lev ≤ 9) (hR : Hid (operP k (rank + 1) lev ts = R)) (hne : R ≠ .out) :
    Calls Tryd.prog 72 #[.pointer (some ⟨m.P, 0, none⟩), .int .i64 ((rank : Int) + 1), .int .i64 lev] w (Out m w nest (ExV w.heap.size) R) := by
  have := ih (rank + 1) lev R h (by omega) (by omega) hl hR hne
  rwa [show ((rank + 1 : Nat) : Int) = (rank : Int) + 1 from by omega] at this

set_option maxHeartbeats 3200000 in
set_option maxRecDepth 100000 in
theorem operation_step {n : Nat} (ih : ∀ k, k ≤ n → OperAt k) (iu : UnaryAt n) : OperAt (n + 1) := by
  intro m w nest ts rank lev R h hr1 hr5 hlev hR hne
  have hR2 := hR.out
  unfold operP at hR2
  have HR0 := Lib.hid hR2
  clear hR hR2
  have hP := h.lt
  have H := Lib.hid h
  have h0 := h.alloc (.cells #[.int .i64 0, .int .i64 0, .int .i64 0, .string ⟨#[]⟩, .string ⟨#[]⟩, .slice none 0 0] 51)
  have q0 := (Keeps.refl m.P w).alloc (.cells #[.int .i64 0, .int .i64 0, .int .i64 0, .string ⟨#[]⟩, .string ⟨#[]⟩, .slice none 0 0] 51)
  have cZ0 := heap_alloc_new w (.cells #[.int .i64 0, .int .i64 0, .int .i64 0, .string ⟨#[]⟩, .string ⟨#[]⟩, .slice none 0 0] 51)
  have hz0 : (w.alloc (.cells #[.int .i64 0, .int .i64 0, .int .i64 0, .string ⟨#[]⟩, .string ⟨#[]⟩, .slice none 0 0] 51)).heap.size = w.heap.size + 1 := World.size_alloc _ _
  obtain ⟨w0, HW0⟩ : ∃ U, Hid (w.alloc (.cells #[.int .i64 0, .int .i64 0, .int .i64 0, .string ⟨#[]⟩, .string ⟨#[]⟩, .slice none 0 0] 51) = U) := ⟨_, Lib.hid rfl⟩
  rw [HW0.out] at h0 q0 cZ0 hz0
  have H0 := Lib.hid h0
  have K0 := Lib.hid q0
  have Z0 := Lib.hid cZ0
  clear h h0 q0 cZ0
  by_cases h5 : rank = 5
  · have hr := HR0.out
    rw [if_pos h5] at hr
    have HR1 := Lib.hid hr
    clear hr HR0
    have hq : ((rank : Int) == 5) = true := by rw [h5]; rfl
    go_enter Tryd.func72, Tryd.ntmps72
    go_wp2_with fail
    rw [HW0.out]
    refine (iu lev _ H0.out hlev (Lib.hid rfl) (by rw [HR1.out]; exact hne)).mono ?_
    intro e w1 ho
    rcases ho.go with ⟨l, k, hR, rfl, k1⟩ | ⟨x1, ts1, v1, hR, rfl, hv, h1, k1⟩
    · exact ⟨rfl, out_err (by rw [← HR1.out, hR]) (K0.out.trans k1)⟩
    have HR2 := Lib.hid (hR.symm.trans HR1.out)
    have H1 := Lib.hid h1
    have K1 := Lib.hid (K0.out.trans k1)
    have hs1 := K1.out.size
    have hm1 := k1.size
    have Z1 := Lib.hid (k1.held (by omega) Z0.out)
    clear h1 k1
    have HX1 := Lib.hid hR
    clear hR
    obtain ⟨op1, num1, var1, nm1, fld1, args1⟩ := x1
    obtain ⟨A1, c1, rfl, ha⟩ := ExIs.parts hv
    have X1 : Hid (ExIs w1 (fun b => w0.heap.size ≤ b) (.agg #[.int .i64 op1, .int .i64 num1, .int .i64 var1, .string ⟨nm1.toArray⟩, .string ⟨fld1.toArray⟩, .slice A1 args1.length c1]) (.mk op1 num1 var1 nm1 fld1 args1)) := Lib.hid hv
    clear ha hv
    go_wp2_with ((with_reducible show wpList _ _ _ (Oper.mk none (Op.store 51 _ _) _ _ _ none :: _) _ _); refine wpList_store_all rfl rfl 51 _ _ rfl w.heap.size _ (#[.int .i64 op1, .int .i64 num1, .int .i64 var1, .string ⟨nm1.toArray⟩, .string ⟨fld1.toArray⟩, .slice A1 args1.length c1]) rfl rfl Z1.out rfl (by kernel_rfl) (by simp [Value.oneCell']) ?_; intro U hU)
    (try simp only [Exit.inBlock, Exit.then])
    have hld := ret_all (P := Tryd.prog) 51 w.heap.size _ _ hU.at_ Tryd.underlying51 rfl (by kernel_rfl)
    refine bodyPost_ret (v := .agg #[.int .i64 op1, .int .i64 num1, .int .i64 var1, .string ⟨nm1.toArray⟩, .string ⟨fld1.toArray⟩, .slice A1 args1.length c1]) (by simp [results, Tryd.results72, asAddr, hld]) rfl ?_
    exact out_ok HR2.out.symm ((X1.out.turn (hU.stays (by omega))).turn (fun b _ hb => ⟨by simp at hb; omega, rfl⟩)) (H1.out.setC H.out (Nat.le_refl _) hU) (K1.out.setC (Nat.le_refl _) hU)
  · have hr := HR0.out
    rw [if_neg h5] at hr
    have HR1 := Lib.hid hr
    clear hr HR0
    have hq : ((rank : Int) == 5) = false := ne_beq (by omega)
    go_enter Tryd.func72, Tryd.ntmps72
    go_wp2_with fail
    rw [HW0.out]
    refine (oper_up (ih n (Nat.le_refl _)) rank lev _ H0.out (by omega) hlev (Lib.hid rfl) (Res.live HR1.out hne)).mono ?_
    intro e w1 ho
    rcases ho.go with ⟨l, k, hR, rfl, k1⟩ | ⟨x1, ts1, v1, hR, rfl, hv, h1, k1⟩
    · exact ⟨rfl, out_err (Res.fails HR1.out hR) (K0.out.trans k1)⟩
    have HR2 := Lib.hid (Res.behind HR1.out hR)
    have H1 := Lib.hid h1
    have K1 := Lib.hid (K0.out.trans k1)
    have hs1 := K1.out.size
    have hm1 := k1.size
    have Z1 := Lib.hid (k1.held (by omega) Z0.out)
    clear h1 k1
    have HX1 := Lib.hid hR
    clear hR
    obtain ⟨op1, num1, var1, nm1, fld1, args1⟩ := x1
    obtain ⟨A1, c1, rfl, ha⟩ := ExIs.parts hv
    have X1 : Hid (ExIs w1 (fun b => w0.heap.size ≤ b) (.agg #[.int .i64 op1, .int .i64 num1, .int .i64 var1, .string ⟨nm1.toArray⟩, .string ⟨fld1.toArray⟩, .slice A1 args1.length c1]) (.mk op1 num1 var1 nm1 fld1 args1)) := Lib.hid hv
    clear ha hv
    go_wp2_with fail
    have h2 := H1.out.alloc (.cells #[.int .i64 op1, .int .i64 num1, .int .i64 var1, .string ⟨nm1.toArray⟩, .string ⟨fld1.toArray⟩, .slice A1 args1.length c1] 51)
    have q2 := K1.out.alloc (.cells #[.int .i64 op1, .int .i64 num1, .int .i64 var1, .string ⟨nm1.toArray⟩, .string ⟨fld1.toArray⟩, .slice A1 args1.length c1] 51)
    have cZ2 := held_alloc (.cells #[.int .i64 op1, .int .i64 num1, .int .i64 var1, .string ⟨nm1.toArray⟩, .string ⟨fld1.toArray⟩, .slice A1 args1.length c1] 51) Z1.out
    have cE2 := heap_alloc_new w1 (.cells #[.int .i64 op1, .int .i64 num1, .int .i64 var1, .string ⟨nm1.toArray⟩, .string ⟨fld1.toArray⟩, .slice A1 args1.length c1] 51)
    have cX2 := X1.out.turn (q := fun b => (w0.heap.size ≤ b) ∧ b ≠ w1.heap.size) (fun b hb (hp : w0.heap.size ≤ b) => ⟨⟨hp, by omega⟩, heap_alloc_old _ (.cells #[.int .i64 op1, .int .i64 num1, .int .i64 var1, .string ⟨nm1.toArray⟩, .string ⟨fld1.toArray⟩, .slice A1 args1.length c1] 51) hb⟩)
    obtain ⟨w2, HW2⟩ : ∃ U, Hid (w1.alloc (.cells #[.int .i64 op1, .int .i64 num1, .int .i64 var1, .string ⟨nm1.toArray⟩, .string ⟨fld1.toArray⟩, .slice A1 args1.length c1] 51) = U) := ⟨_, Lib.hid rfl⟩
    rw [HW2.out] at h2 q2 cZ2 cE2 cX2
    have H2 := Lib.hid h2
    have K2 := Lib.hid q2
    have Z2 := Lib.hid cZ2
    have E2 := Lib.hid cE2
    have X2 := Lib.hid cX2
    have hs2 := K2.out.size
    have hz2 : w2.heap.size = w1.heap.size + 1 := by have hq := congrArg (fun x => x.heap.size) HW2.out; simp only [World.size_alloc] at hq; exact hq.symm
    have hm2 : w1.heap.size < w2.heap.size := by omega
    clear h2 q2 cZ2 cE2 cX2
    rw [HW2.out]
    have X2' : ExIs w2 (fun b => w.heap.size ≤ b ∧ b ≠ w.heap.size ∧ b ≠ w1.heap.size) (.agg #[.int .i64 op1, .int .i64 num1, .int .i64 var1, .string ⟨nm1.toArray⟩, .string ⟨fld1.toArray⟩, .slice A1 args1.length c1]) (.mk op1 num1 var1 nm1 fld1 args1) := X1.out.turn (fun b hb hp => ⟨⟨by omega, by omega, by omega⟩, by rw [← HW2.out]; exact heap_alloc_old w1 _ hb⟩)
    go_loopg [] n (fun k wr => ∃ (op num var : Int) (nm fld : List UInt8) (args : List Ex) (A : Option Addr) (c : Nat) (ts' : List Tok), wr.heap[w1.heap.size]? = some (.cells #[.int .i64 op, .int .i64 num, .int .i64 var, .string ⟨nm.toArray⟩, .string ⟨fld.toArray⟩, .slice A args.length c] 51 (0, 0)) ∧ ExIs wr (fun b => w.heap.size ≤ b ∧ b ≠ w.heap.size ∧ b ≠ w1.heap.size) (.agg #[.int .i64 op, .int .i64 num, .int .i64 var, .string ⟨nm.toArray⟩, .string ⟨fld.toArray⟩, .slice A args.length c]) (.mk op num var nm fld args) ∧ wr.heap[w.heap.size]? = some (.cells #[.int .i64 0, .int .i64 0, .int .i64 0, .string ⟨#[]⟩, .string ⟨#[]⟩, .slice none 0 0] 51 (0, 0)) ∧ PsAt m wr nest ts' ∧ Keeps m.P w wr ∧ w1.heap.size < wr.heap.size ∧ k ≤ n ∧ loopP k rank lev (.mk op num var nm fld args) ts' = R)
    case atStart => exact ⟨op1, num1, var1, nm1, fld1, args1, A1, c1, ts1, E2.out, X2', Z2.out, H2.out, K2.out, hm2, Nat.le_refl _, HR2.out⟩
    case round =>
      obtain ⟨op, num, var, nm, fld, args, A, c, ts', hE, hX, hZ, hH, hK, hw1, hkn, hL⟩ := hrel
      have H3 := Lib.hid hH
      have K3 := Lib.hid hK
      have Z3 := Lib.hid hZ
      have E3 := Lib.hid hE
      have X3 := Lib.hid hX
      have HL := Lib.hid hL
      have hs3 := K3.out.size
      clear hH hK hZ hE hX hL H2 K2 Z2 E2 X2 X2' H1 K1 Z1 X1 HR2
      cases gk with
      | zero => exact absurd (show R = .out from by have := HL.out; unfold loopP at this; exact this.symm) hne
      | succ gk =>
        have hl2 := HL.out
        unfold loopP at hl2
        clear HL
        obtain ⟨oo, hoo⟩ : ∃ oo, Hid (operAt opers 6 rank (hd ts').text = oo) := ⟨_, Lib.hid rfl⟩
        rw [hoo.out] at hl2
        have HL := Lib.hid hl2
        clear hl2
        have HO := Lib.hid (operator_any H3.out rank oo hoo)
        go_wp2_with fail
        refine HO.out.mono ?_
        rintro e w4 ⟨rfl, hb⟩
        have X4 := Lib.hid (X3.out.turn (fun b hb' hp => ⟨hp, hb.block b hb'⟩) : ExIs w4 (fun b => w.heap.size ≤ b ∧ b ≠ w.heap.size ∧ b ≠ w1.heap.size) _ _)
        have k4 := Keeps.below (P := m.P) hb
        have h4 := H3.out.below hb
        have H4 := Lib.hid h4
        have K4 := Lib.hid (K3.out.trans k4)
        have hs4 := K4.out.size
        have hm4 := k4.size
        have Z4 := Lib.hid (k4.held (by omega) Z3.out)
        have E4 := Lib.hid (k4.held (by omega) E3.out)
        clear h4 k4
        clear hb HO X3
        cases oo with
        | none =>
          have HR9 : Hid (Res.ok (Ex.mk op num var nm fld args) ts' = R) := HL
          go_wp2_with (first | ((with_reducible show wpList _ _ _ (Oper.mk _ (Op.load 51 _) _ _ _ none :: _) _ _); refine wpList_load_all rfl 51 _ rfl w1.heap.size _ _ rfl E4.out Tryd.underlying51 rfl (by kernel_rfl) ?_) | ((with_reducible show wpList _ _ _ (Oper.mk none (Op.store 51 _ _) _ _ _ none :: _) _ _); refine wpList_store_all rfl rfl 51 _ _ rfl w.heap.size _ (#[.int .i64 op, .int .i64 num, .int .i64 var, .string ⟨nm.toArray⟩, .string ⟨fld.toArray⟩, .slice A args.length c]) rfl rfl Z4.out rfl (by kernel_rfl) (by simp [Value.oneCell']) ?_; intro U hU))
          (try simp only [Exit.inBlock, Exit.then])
          have hld := ret_all (P := Tryd.prog) 51 w.heap.size _ _ hU.at_ Tryd.underlying51 rfl (by kernel_rfl)
          refine bodyPost_ret (v := .agg #[.int .i64 op, .int .i64 num, .int .i64 var, .string ⟨nm.toArray⟩, .string ⟨fld.toArray⟩, .slice A args.length c]) (by simp [results, Tryd.results72, Act.put, asAddr, hld]) rfl ?_
          exact out_ok HR9.out.symm ((X4.out.turn (fun b hb hp => ⟨hp.1, hU.block b hp.2.1⟩))) (H4.out.setC H.out (Nat.le_refl _) hU) (K4.out.setC (Nat.le_refl _) hU)
        | some oo =>
          have hr4 : rank ≤ 4 := by
            rcases Nat.lt_or_ge rank 5 with h' | h'
            · omega
            · exact absurd (show rank = 5 by omega) h5
          obtain ⟨t, rest, rfl⟩ := H4.out.good.cons
          have hgr : Good rest := H4.out.good.tail (.inr (fun e => by
            have := hoo.out
            rw [show (hd (t :: rest)).text = [] from e, operAt_nil] at this
            cases this))
          have htl : (t :: rest).tail = rest := rfl
          have hl2 := HL.out
          simp only [htl] at hl2
          have HR9 := Lib.hid hl2
          clear hl2 htl HL
          go_wp2_with fail
          refine (next_any H4.out hgr).mono ?_
          rintro e w5 ⟨rfl, h5', k5⟩
          have h5 := h5'
          have X5 := Lib.hid (X4.out.turn (fun b hb' hp => ⟨hp, k5.block b hb' (by omega)⟩) : ExIs w5 (fun b => w.heap.size ≤ b ∧ b ≠ w.heap.size ∧ b ≠ w1.heap.size) _ _)
          have H5 := Lib.hid h5
          have K5 := Lib.hid (K4.out.trans k5)
          have hs5 := K5.out.size
          have hm5 := k5.size
          have Z5 := Lib.hid (k5.held (by omega) Z4.out)
          have E5 := Lib.hid (k5.held (by omega) E4.out)
          clear h5 k5
          go_wp2_with fail
          refine wp_region_O (S := fun w' => w'.heap[w1.heap.size]? = some (.cells #[.int .i64 op, .int .i64 num, .int .i64 var, .string ⟨nm.toArray⟩, .string ⟨fld.toArray⟩, .slice A args.length c] 51 (0, 0))) (L := [1, 6, 7, 8]) (by kernel_rfl) ?_
          refine wpAnyO_late (i := 0) (v := ?_) rfl (by kernel_rfl) (by kernel_rfl) (by kernel_rfl) (by kernel_rfl) (fun _ _ _ h => h) (Or.inl ⟨by rfl, ?_⟩) ?_
          rotate_left 1
          · intro w hSw
            clear hSw
            (go_simp) <;> (with_reducible rfl)
          (try simp only [Act.put]); (try simp only [List.getElem_toArray]); (try simp only [List.getElem_cons_succ]); (try simp only [List.getElem_cons_zero]); (try simp only [List.setIfInBounds_toArray]); (try simp only [List.set_cons_succ]); (try simp only [List.set_cons_zero])
          refine wpAnyO_late (i := 2) (v := ?_) rfl (by kernel_rfl) (by kernel_rfl) (by kernel_rfl) (by kernel_rfl) (fun _ _ _ h => h) (Or.inl ⟨by rfl, ?_⟩) ?_
          rotate_left 1
          · intro w hSw
            clear hSw
            (go_simp) <;> (with_reducible rfl)
          (try simp only [Act.put]); (try simp only [List.getElem_toArray]); (try simp only [List.getElem_cons_succ]); (try simp only [List.getElem_cons_zero]); (try simp only [List.setIfInBounds_toArray]); (try simp only [List.set_cons_succ]); (try simp only [List.set_cons_zero])
          refine wpAnyO_late (i := 3) (v := ?_) rfl (by kernel_rfl) (by kernel_rfl) (by kernel_rfl) (by kernel_rfl) (fun _ _ _ h => h) (Or.inl ⟨by rfl, ?_⟩) ?_
          rotate_left 1
          · intro w hSw
            clear hSw
            (go_simp) <;> (with_reducible rfl)
          (try simp only [Act.put]); (try simp only [List.getElem_toArray]); (try simp only [List.getElem_cons_succ]); (try simp only [List.getElem_cons_zero]); (try simp only [List.setIfInBounds_toArray]); (try simp only [List.set_cons_succ]); (try simp only [List.set_cons_zero])
          refine wpAnyO_late (i := 4) (v := ?_) rfl (by kernel_rfl) (by kernel_rfl) (by kernel_rfl) (by kernel_rfl) (fun _ _ _ h => h) (Or.inl ⟨by rfl, ?_⟩) ?_
          rotate_left 1
          · intro w hSw
            clear hSw
            (go_simp) <;> (with_reducible rfl)
          (try simp only [Act.put]); (try simp only [List.getElem_toArray]); (try simp only [List.getElem_cons_succ]); (try simp only [List.getElem_cons_zero]); (try simp only [List.setIfInBounds_toArray]); (try simp only [List.set_cons_succ]); (try simp only [List.set_cons_zero])
          refine wpAnyO_late (i := 5) (v := ?_) rfl (by kernel_rfl) (by kernel_rfl) (by kernel_rfl) (by kernel_rfl) (fun _ _ _ h => h) (Or.inl ⟨by rfl, ?_⟩) ?_
          rotate_left 1
          · intro w hSw
            clear hSw
            (go_simp) <;> (with_reducible rfl)
          (try simp only [Act.put]); (try simp only [List.getElem_toArray]); (try simp only [List.getElem_cons_succ]); (try simp only [List.getElem_cons_zero]); (try simp only [List.setIfInBounds_toArray]); (try simp only [List.set_cons_succ]); (try simp only [List.set_cons_zero])
          refine wpAnyO_take (i := 1) (v := .agg #[.int .i64 op, .int .i64 num, .int .i64 var, .string ⟨nm.toArray⟩, .string ⟨fld.toArray⟩, .slice A args.length c]) rfl (by kernel_rfl) (by kernel_rfl) (by kernel_rfl) (by kernel_rfl) (by kernel_rfl) (fun _ _ _ h => h) (Or.inl ⟨by rfl, ?_⟩) (show (w5.drew).heap[w1.heap.size]? = _ from E5.out) ?_
          · intro w' hSw
            exact exec_load_all (P := Tryd.prog) 51 (.tmp 7) rfl w1.heap.size _ _ rfl hSw Tryd.underlying51 rfl (by kernel_rfl)
          (try simp only [Act.put]); (try simp only [List.getElem_toArray]); (try simp only [List.getElem_cons_succ]); (try simp only [List.getElem_cons_zero]); (try simp only [List.setIfInBounds_toArray]); (try simp only [List.set_cons_succ]); (try simp only [List.set_cons_zero])
          obtain ⟨w6, HW6⟩ : ∃ U, Hid (w5.drew = U) := ⟨_, Lib.hid rfl⟩
          have H6 := Lib.hid (show PsAt m w5.drew nest _ from H5.out.kept (Nat.le_refl _) fun _ _ => rfl)
          have K6 := Lib.hid K5.out.drew
          have Z6 := Lib.hid (show (w5.drew).heap[w.heap.size]? = _ from Z5.out)
          have E6 := Lib.hid (show (w5.drew).heap[w1.heap.size]? = _ from E5.out)
          have X6 := Lib.hid (X5.out.turn (fun _ _ hp => ⟨hp, rfl⟩) : ExIs w5.drew (fun b => w.heap.size ≤ b ∧ b ≠ w.heap.size ∧ b ≠ w1.heap.size) _ _)
          rw [HW6.out] at H6 K6 Z6 E6 X6 ⊢
          have hs6 := K6.out.size
          have hm6 : w6.heap.size = w5.heap.size := by rw [← HW6.out]; rfl
          refine wpAnyO_ready (rs := [6]) (by kernel_rfl) (by simp) (AllO.cons rfl (fun K hK => ?_) AllO.nil)
          go_simp
          have hwr : IntKind.i64.wrap ((rank : Int) + 1) = (rank : Int) + 1 := by simp (disch := omega) only [IntWalk.i64_in]
          rw [hwr]
          have XL6 := X6
          refine (oper_up (ih gk (by omega)) rank lev _ H6.out hr4 hlev (Lib.hid rfl) (Res.live HR9.out hne)).mono ?_
          intro e w7 ho
          rcases ho.go with ⟨l, k, hR, rfl, k7⟩ | ⟨x7, ts7, v7, hR, rfl, hv, h7, k7⟩
          · exact ⟨rfl, out_err (Res.fails HR9.out hR) (K6.out.trans k7)⟩
          have HR10 := Lib.hid (Res.behind HR9.out hR)
          have H7 := Lib.hid h7
          have K7 := Lib.hid (K6.out.trans k7)
          have hs7 := K7.out.size
          have hm7 := k7.size
          have hk7 := k7.block
          have Z7 := Lib.hid (k7.held (by omega) Z6.out)
          have E7 := Lib.hid (k7.held (by omega) E6.out)
          clear h7 k7
          have HX7 := Lib.hid hR
          clear hR
          have XL7 := Lib.hid (XL6.out.turn (fun b hb' hp => ⟨hp, (show w7.heap[b]? = w6.heap[b]? from hk7 b hb' (by omega))⟩) : ExIs w7 (fun b => w.heap.size ≤ b ∧ b ≠ w.heap.size ∧ b ≠ w1.heap.size) _ _)
          obtain ⟨op7, num7, var7, nm7, fld7, args7⟩ := x7
          obtain ⟨A7, c7, rfl, ha⟩ := ExIs.parts hv
          have X7 : Hid (ExIs w7 (fun b => w6.heap.size ≤ b) (.agg #[.int .i64 op7, .int .i64 num7, .int .i64 var7, .string ⟨nm7.toArray⟩, .string ⟨fld7.toArray⟩, .slice A7 args7.length c7]) (.mk op7 num7 var7 nm7 fld7 args7)) := Lib.hid hv
          clear ha hv
          refine hK.out _ _ (fun _ => E7.out) ?_
          clear hK K
          (try simp only [Act.put]); (try simp only [List.getElem_toArray]); (try simp only [List.getElem_cons_succ]); (try simp only [List.getElem_cons_zero]); (try simp only [List.setIfInBounds_toArray]); (try simp only [List.set_cons_succ]); (try simp only [List.set_cons_zero])
          refine wpAnyO_ready (rs := [7]) (by kernel_rfl) (by simp) (AllO.cons rfl (fun K hK => ?_) AllO.nil)
          go_simp
          have XL8 : ∀ o : Obj, ExIs (w7.alloc o) (fun b => w.heap.size ≤ b ∧ b ≠ w.heap.size ∧ b ≠ w1.heap.size) (.agg #[.int .i64 op, .int .i64 num, .int .i64 var, .string ⟨nm.toArray⟩, .string ⟨fld.toArray⟩, .slice A args.length c]) (.mk op num var nm fld args) := fun o => XL7.out.turn (fun b hb' hp => ⟨hp, heap_alloc_old w7 o hb'⟩)
          have XR8 : ∀ o : Obj, ExIs (w7.alloc o) (fun b => w.heap.size ≤ b ∧ b ≠ w.heap.size ∧ b ≠ w1.heap.size) (.agg #[.int .i64 op7, .int .i64 num7, .int .i64 var7, .string ⟨nm7.toArray⟩, .string ⟨fld7.toArray⟩, .slice A7 args7.length c7]) (.mk op7 num7 var7 nm7 fld7 args7) := fun o => X7.out.turn (fun b hb' hp => ⟨⟨by omega, by omega, by omega⟩, heap_alloc_old w7 o hb'⟩)
          have yl := XL8 (.cells #[.int .i64 op, .int .i64 num, .int .i64 var, .string ⟨nm.toArray⟩, .string ⟨fld.toArray⟩, .slice A args.length c, .int .i64 op7, .int .i64 num7, .int .i64 var7, .string ⟨nm7.toArray⟩, .string ⟨fld7.toArray⟩, .slice A7 args7.length c7] 51)
          have yr := XR8 (.cells #[.int .i64 op, .int .i64 num, .int .i64 var, .string ⟨nm.toArray⟩, .string ⟨fld.toArray⟩, .slice A args.length c, .int .i64 op7, .int .i64 num7, .int .i64 var7, .string ⟨nm7.toArray⟩, .string ⟨fld7.toArray⟩, .slice A7 args7.length c7] 51)
          clear XL8 XR8
          have h8 := H7.out.alloc (.cells #[.int .i64 op, .int .i64 num, .int .i64 var, .string ⟨nm.toArray⟩, .string ⟨fld.toArray⟩, .slice A args.length c, .int .i64 op7, .int .i64 num7, .int .i64 var7, .string ⟨nm7.toArray⟩, .string ⟨fld7.toArray⟩, .slice A7 args7.length c7] 51)
          have q8 := K7.out.alloc (.cells #[.int .i64 op, .int .i64 num, .int .i64 var, .string ⟨nm.toArray⟩, .string ⟨fld.toArray⟩, .slice A args.length c, .int .i64 op7, .int .i64 num7, .int .i64 var7, .string ⟨nm7.toArray⟩, .string ⟨fld7.toArray⟩, .slice A7 args7.length c7] 51)
          have cZ8 := held_alloc (.cells #[.int .i64 op, .int .i64 num, .int .i64 var, .string ⟨nm.toArray⟩, .string ⟨fld.toArray⟩, .slice A args.length c, .int .i64 op7, .int .i64 num7, .int .i64 var7, .string ⟨nm7.toArray⟩, .string ⟨fld7.toArray⟩, .slice A7 args7.length c7] 51) Z7.out
          have cE8 := held_alloc (.cells #[.int .i64 op, .int .i64 num, .int .i64 var, .string ⟨nm.toArray⟩, .string ⟨fld.toArray⟩, .slice A args.length c, .int .i64 op7, .int .i64 num7, .int .i64 var7, .string ⟨nm7.toArray⟩, .string ⟨fld7.toArray⟩, .slice A7 args7.length c7] 51) E7.out
          have cQ8 := heap_alloc_new w7 (.cells #[.int .i64 op, .int .i64 num, .int .i64 var, .string ⟨nm.toArray⟩, .string ⟨fld.toArray⟩, .slice A args.length c, .int .i64 op7, .int .i64 num7, .int .i64 var7, .string ⟨nm7.toArray⟩, .string ⟨fld7.toArray⟩, .slice A7 args7.length c7] 51)
          obtain ⟨w8, HW8⟩ : ∃ U, Hid (w7.alloc (.cells #[.int .i64 op, .int .i64 num, .int .i64 var, .string ⟨nm.toArray⟩, .string ⟨fld.toArray⟩, .slice A args.length c, .int .i64 op7, .int .i64 num7, .int .i64 var7, .string ⟨nm7.toArray⟩, .string ⟨fld7.toArray⟩, .slice A7 args7.length c7] 51) = U) := ⟨_, Lib.hid rfl⟩
          rw [HW8.out] at h8 q8 cZ8 cE8 cQ8
          have H8 := Lib.hid h8
          have K8 := Lib.hid q8
          have Z8 := Lib.hid cZ8
          have E8 := Lib.hid cE8
          have Q8 := Lib.hid cQ8
          have hs8 := K8.out.size
          have hz8 : w8.heap.size = w7.heap.size + 1 := by have hq := congrArg (fun x => x.heap.size) HW8.out; simp only [World.size_alloc] at hq; exact hq.symm
          have hm8 : w7.heap.size < w8.heap.size := by omega
          clear h8 q8 cZ8 cE8 cQ8
          rw [HW8.out] at yl yr ⊢
          have Y8 := Lib.hid (RowIs.two (P := ExIs w8 (fun b => w.heap.size ≤ b ∧ b ≠ w.heap.size ∧ b ≠ w1.heap.size)) (p := (fun b => w.heap.size ≤ b ∧ b ≠ w.heap.size ∧ b ≠ w1.heap.size)) (vs := [.int .i64 op, .int .i64 num, .int .i64 var, .string ⟨nm.toArray⟩, .string ⟨fld.toArray⟩, .slice A args.length c]) (us := [.int .i64 op7, .int .i64 num7, .int .i64 var7, .string ⟨nm7.toArray⟩, .string ⟨fld7.toArray⟩, .slice A7 args7.length c7]) (cap := 2) rfl Q8.out ⟨by omega, by omega, by omega⟩ (Nat.le_refl _) (by decide) yl yr)
          clear yl yr
          refine hK.out _ _ (fun _ => E8.out) ?_
          clear hK K
          (try simp only [Act.put]); (try simp only [List.getElem_toArray]); (try simp only [List.getElem_cons_succ]); (try simp only [List.getElem_cons_zero]); (try simp only [List.setIfInBounds_toArray]); (try simp only [List.set_cons_succ]); (try simp only [List.set_cons_zero])
          refine wpAnyO_ready (rs := [8]) (by kernel_rfl) (by simp) (AllO.cons rfl (fun K hK => ?_) AllO.nil)
          go_simp
          refine hK.out _ _ (fun _ => E8.out) ?_
          clear hK K
          (try simp only [Act.put]); (try simp only [List.getElem_toArray]); (try simp only [List.getElem_cons_succ]); (try simp only [List.getElem_cons_zero]); (try simp only [List.setIfInBounds_toArray]); (try simp only [List.set_cons_succ]); (try simp only [List.set_cons_zero])
          refine wpAnyO_ready (rs := [9]) (by kernel_rfl) (by simp) (AllO.cons rfl (fun K hK => ?_) AllO.nil)
          rw [if_pos (by rfl)]
          refine wp_store_all 51 _ _ rfl w1.heap.size _ (#[.int .i64 oo, .int .i64 0, .int .i64 0, .string ⟨#[]⟩, .string ⟨#[]⟩, .slice (some ⟨w7.heap.size, 0, none⟩) 2 2]) rfl rfl E8.out rfl (by kernel_rfl) (by simp [Value.oneCell']) ?_
          intro w9 hU
          have H9 := Lib.hid (H8.out.setC H.out (by omega) hU)
          have K9 := Lib.hid (K8.out.setC (by omega) hU)
          have hs9 := K9.out.size
          have hm9 := Nat.le_of_eq hU.size.symm
          have Z9 := Lib.hid (hU.held (by omega) Z8.out)
          have E9 := Lib.hid (show w9.heap[w1.heap.size]? = some (.cells #[.int .i64 oo, .int .i64 0, .int .i64 0, .string ⟨#[]⟩, .string ⟨#[]⟩, .slice (some ⟨w7.heap.size, 0, none⟩) 2 2] 51 (0, 0)) from hU.at_)
          have X9 : ExIs w9 (fun b => w.heap.size ≤ b ∧ b ≠ w.heap.size ∧ b ≠ w1.heap.size) (.agg #[.int .i64 oo, .int .i64 0, .int .i64 0, .string ⟨#[]⟩, .string ⟨#[]⟩, .slice (some ⟨w7.heap.size, 0, none⟩) 2 2]) (.mk oo 0 0 [] [] [.mk op num var nm fld args, (.mk op7 num7 var7 nm7 fld7 args7)]) := ExIs.mk (RowIs.turn (fun b hb' hp => ⟨hp, hU.block b hp.2.2⟩) (fun _ _ hv => hv.turn (fun b hb' hp => ⟨hp, hU.block b hp.2.2⟩)) Y8.out)
          have XX := Lib.hid X9
          clear hU X9
          refine hK.out _ _ (fun hh => absurd hh (by decide)) ?_
          clear hK K
          (try simp only [Act.put]); (try simp only [List.getElem_toArray]); (try simp only [List.getElem_cons_succ]); (try simp only [List.getElem_cons_zero]); (try simp only [List.setIfInBounds_toArray]); (try simp only [List.set_cons_succ]); (try simp only [List.set_cons_zero])
          refine wpAnyO_done (by kernel_rfl) ?_ _
          by_cases h1 : rank = 1
          · have q1 : ((rank : Int) == 1) = true := by rw [h1]; rfl
            have hr := HR10.out
            rw [if_pos h1] at hr
            have HR11 := Lib.hid hr
            clear hr HR10
            go_wp2_with (first | ((with_reducible show wpList _ _ _ (Oper.mk _ (Op.load 51 _) _ _ _ none :: _) _ _); refine wpList_load_all rfl 51 _ rfl w1.heap.size _ _ rfl E9.out Tryd.underlying51 rfl (by kernel_rfl) ?_) | ((with_reducible show wpList _ _ _ (Oper.mk none (Op.store 51 _ _) _ _ _ none :: _) _ _); refine wpList_store_all rfl rfl 51 _ _ rfl w.heap.size _ (#[.int .i64 oo, .int .i64 0, .int .i64 0, .string ⟨#[]⟩, .string ⟨#[]⟩, .slice (some ⟨w7.heap.size, 0, none⟩) 2 2]) rfl rfl Z9.out rfl (by kernel_rfl) (by simp [Value.oneCell']) ?_; intro U hU))
            (try simp only [Exit.inBlock, Exit.then])
            have hld := ret_all (P := Tryd.prog) 51 w.heap.size _ _ hU.at_ Tryd.underlying51 rfl (by kernel_rfl)
            refine bodyPost_ret (v := .agg #[.int .i64 oo, .int .i64 0, .int .i64 0, .string ⟨#[]⟩, .string ⟨#[]⟩, .slice (some ⟨w7.heap.size, 0, none⟩) 2 2]) (by simp [results, Tryd.results72, Act.put, asAddr, hld]) rfl ?_
            exact out_ok HR11.out.symm (XX.out.turn (fun b hb hp => ⟨hp.1, hU.block b hp.2.1⟩)) (H9.out.setC H.out (Nat.le_refl _) hU) (K9.out.setC (Nat.le_refl _) hU)
          · have q1 : ((rank : Int) == 1) = false := ne_beq (by omega)
            have hr := HR10.out
            rw [if_neg h1] at hr
            have HR11 := Lib.hid hr
            clear hr HR10
            go_wp2_with fail
            go_roundg gk
            case measure => omega
            case rel => exact ⟨_, _, _, _, _, _, _, _, _, E9.out, XX.out, Z9.out, H9.out, K9.out, by omega, by omega, HR11.out⟩

theorem oper_zero : OperAt 0 := fun {m w nest ts} rank lev R _ _ _ _ hR hne => absurd (show R = .out from by rw [← hR.out]; unfold operP; rfl) hne
theorem unary_zero : UnaryAt 0 := fun {m w nest ts} lev R _ _ hR hne => absurd (show R = .out from by rw [← hR.out]; unfold unaryP; rfl) hne
theorem target_zero : TargetAt 0 := fun {m w nest ts} lev R _ _ hR hne => absurd (show R = .out from by rw [← hR.out]; unfold targetP; rfl) hne
theorem exprs_all : ∀ n, (∀ k, k ≤ n → OperAt k) ∧ UnaryAt n ∧ TargetAt n := by
  intro n
  induction n with
  | zero =>
    refine ⟨fun k hk => ?_, unary_zero, target_zero⟩
    obtain rfl : k = 0 := by omega
    exact oper_zero
  | succ n ih =>
    obtain ⟨h1, h2, h3⟩ := ih
    refine ⟨fun k hk => ?_, unary_step (h1 n (Nat.le_refl _)) h2 h3, target_step (h1 n (Nat.le_refl _))⟩
    by_cases hkn : k ≤ n
    · exact h1 k hkn
    · obtain rfl : k = n + 1 := by omega
      exact operation_step h1 h2
theorem oper_all (n : Nat) : OperAt n := (exprs_all n).1 n (Nat.le_refl _)
theorem target_all (n : Nat) : TargetAt n := (exprs_all n).2.2
end Go.Proofs.YtpfefjfpnmchcaaDoor
namespace Go.Proofs.YtpfefjfpnmchcaaDoor
open Go.RowKit

/-- A statement in memory of its own; a row of expressions; a row of statements. -/
def SmV (N : Nat) (w' : World) (v : Value) (x : Sm) : Prop := SmIs w' (fun b => N ≤ b) v x
def ExsV (N : Nat) (w' : World) (v : Value) (xs : List Ex) : Prop := ∃ A c, v = .slice A xs.length c ∧ ExsIs w' (fun b => N ≤ b) A c xs
theorem ex_oneCell {op num var : Int} {nm fld : ByteArray} {A : Option Addr} {l c : Nat} {u : Value} (hu : u ∈ ([.int .i64 op, .int .i64 num, .int .i64 var, .string nm, .string fld, .slice A l c] : List Value)) : u.oneCell' = true := by
  simp only [List.mem_cons, List.not_mem_nil, or_false] at hu
  rcases hu with rfl | rfl | rfl | rfl | rfl | rfl <;> rfl

set_option maxHeartbeats 3200000 in
set_option maxRecDepth 100000 in
theorem arguments_any (n : Nat) {m : Pm} {w : World} {nest : Nat} {ts : List Tok} (R : Res (List Ex)) (h : PsAt m w nest ts) (hR : Hid (argsP n ts = R)) (hne : R ≠ .out) :
    Calls Tryd.prog 74 #[.pointer (some ⟨m.P, 0, none⟩)] w (Out m w nest (ExsV w.heap.size) R) := by
  have hR2 := hR.out
  unfold argsP at hR2
  have HR := Lib.hid hR2
  have H := Lib.hid h
  have HN := Lib.hid (expression_any (oper_all n) 0 _ h (by omega) (Lib.hid rfl) (Res.live HR.out hne))
  rw [show ((0 : Nat) : Int) = 0 from rfl] at HN
  clear h hR hR2
  go_enter Tryd.func74, Tryd.ntmps74
  go_wp2_with fail
  refine HN.out.mono ?_
  intro e w1 ho
  rcases ho.go with ⟨l, k, hR1, rfl, k1⟩ | ⟨x, ts1, v, hR1, rfl, hv, h1, k1⟩
  · exact ⟨rfl, out_err (Res.fails HR.out hR1) k1⟩
  · have HR1 := Lib.hid (Res.behind HR.out hR1)
    have H1 := Lib.hid h1
    have K1 := Lib.hid k1
    obtain ⟨op, num, var, nm, fld, args⟩ := x
    obtain ⟨A1, c1, rfl, ha⟩ := ExIs.parts hv
    have HV := Lib.hid hv
    clear h1 k1 HN ha
    have hts := H.out.good.1.1
    have hP := H.out.lt
    have hlen := oper_short hR1
    have HX := Lib.hid hR1
    clear hv hR1
    go_wp2_with fail
    go_loopg [3] n (fun k v wr => ∃ (A : Option Addr) (c : Nat) (acc : List Ex) (ts' : List Tok), v = .slice A acc.length c ∧ OwnIs ExIs wr w.heap.size 51 6 A c acc ∧ PsAt m wr nest ts' ∧ Keeps m.P w wr ∧ moreArgs k acc ts' = R ∧ acc.length + ts'.length ≤ 2001)
    case atStart =>
      refine ⟨_, _, [_], ts1, rfl, OwnIs.one (vs := [.int .i64 op, .int .i64 num, .int .i64 var, .string ⟨nm.toArray⟩, .string ⟨fld.toArray⟩, .slice A1 args.length c1]) (heap_alloc_new w1 _) K1.out.size rfl (HV.out.turn (fun b hb hp => ⟨⟨hp, fun e => by injection e with e; omega⟩, heap_alloc_old w1 _ hb⟩)), H1.out.alloc _, K1.out.alloc _, HR1.out, ?_⟩
      simp only [List.length_cons, List.length_nil]
      omega
    case round =>
      obtain ⟨A, c, acc, ts', rfl, hown, hps, hkp, hmore, hsum⟩ := hrel
      have HO := Lib.hid hown
      have HPS := Lib.hid hps
      have HK := Lib.hid hkp
      have HMR := Lib.hid hmore
      clear hown hps hkp hmore H1 K1 HR1 HX HV
      cases gk with
      | zero => exact absurd HMR.out.symm hne
      | succ gk =>
        have hm := HMR.out
        unfold moreArgs at hm
        by_cases hx : (hd ts').text = [44]
        · rw [if_pos hx] at hm
          have HM := Lib.hid hm
          have HA := Lib.hid (accept_any HPS.out [44] (by simp))
          have hq : ((hd ts').text == [44]) = true := by simpa using hx
          rw [if_pos hx] at HA
          have hp1 := len_pos (ts := ts') (.inr (by rw [hx]; simp))
          clear hm hx
          go_wp2_with fail
          refine HA.out.mono ?_
          rintro e w2 ⟨rfl, h2, k2⟩
          have H2 := Lib.hid h2
          have K2 := Lib.hid (HK.out.trans k2)
          have HO2 := Lib.hid (HO.out.turn turns_ex (w' := w2) (fun b hb hlt => k2.block b hlt (by omega)))
          clear h2 k2
          go_wp2_with fail
          have HE := expression_any (oper_all gk) 0 _ H2.out (by omega) (Lib.hid rfl) (Res.live HM.out hne)
          rw [show ((0 : Nat) : Int) = 0 from rfl] at HE
          refine HE.mono ?_
          intro e w3 ho3
          rcases ho3.go with ⟨l, k, hR3, rfl, k3⟩ | ⟨y, ts3, v3, hR3, rfl, hv3, h3, k3⟩
          · exact ⟨rfl, out_err (Res.fails HM.out hR3) (K2.out.trans k3)⟩
          · have hl3 := oper_short hR3
            have ht3 : ts'.tail.length = ts'.length - 1 := List.length_tail
            have HR3 := Lib.hid (Res.behind HM.out hR3)
            have H3 := Lib.hid h3
            have K3 := Lib.hid (K2.out.trans k3)
            have hs2 := K2.out.size
            have hs3 := K3.out.size
            have HO3 := Lib.hid (HO2.out.turn turns_ex (w' := w3) (fun b hb hlt => k3.block b hlt (by omega)))
            obtain ⟨op3, num3, var3, nm3, fld3, args3⟩ := y
            obtain ⟨A3, c3, rfl, ha⟩ := ExIs.parts hv3
            have HV3 := Lib.hid (hv3.turn (stays_alloc (.cells #[.int .i64 op3, .int .i64 num3, .int .i64 var3, .string ⟨nm3.toArray⟩, .string ⟨fld3.toArray⟩, .slice A3 args3.length c3] 51)))
            clear h3 k3 hR3 hv3 ha
            have hrow2 : ∀ g, blkOf A = some g → g < w2.heap.size := fun g hg => (HO2.out.place g hg).2
            obtain ⟨i, hi, hz, hsz, hby⟩ := info_ex
            have HO4 := Lib.hid (HO3.out.turn turns_ex (w' := w3.alloc (.cells #[.int .i64 op3, .int .i64 num3, .int .i64 var3, .string ⟨nm3.toArray⟩, .string ⟨fld3.toArray⟩, .slice A3 args3.length c3] 51)) (fun b hb hlt => heap_alloc_old w3 _ hlt))
            go_wp2_with (at_builtin; refine wpList_append_one turns_ex rfl _ _ 47 rfl i _ 80 Tryd.underlying47 hi hz hsz hby rfl (by omega) (by omega) HO4.out rfl w3.heap.size 1 rfl [.int .i64 op3, .int .i64 num3, .int .i64 var3, .string ⟨nm3.toArray⟩, .string ⟨fld3.toArray⟩, .slice A3 args3.length c3] (.mk op3 num3 var3 nm3 fld3 args3) rfl (fun j u hu => ?_) (fun u hu => ?_) (by omega) (by rw [World.size_alloc]; omega) (HV3.out.turn (fun b hb hp => ⟨⟨by omega, fun e => by have := hrow2 b e.symm; omega⟩, rfl⟩)) ?_)
            · exact new_cell w3 _ _ j u hu
            · exact ex_oneCell hu
            intro A' c' w4 ho4 hg4 hw4
            have hrow : ∀ g, blkOf A = some g → w.heap.size ≤ g := fun g hg => (HO.out.place g hg).1
            have HO5 := Lib.hid ho4
            have H5 := Lib.hid ((H3.out.alloc _).grew H.out hg4 hrow)
            have K5 := Lib.hid ((K3.out.alloc _).grown hg4 hrow)
            have HR5 := Lib.hid HR3.out
            clear ho4 hg4 hw4 HO4 HR3 H3 K3 HO3 HV3
            go_wp2_with fail
            go_roundg gk
            case measure => omega
            case rel => exact ⟨A', c', acc ++ [_], ts3, by simp, HO5.out, H5.out, K5.out, HR5.out, by simp only [List.length_append, List.length_cons, List.length_nil]; omega⟩
        · rw [if_neg hx] at hm
          have HM := Lib.hid hm.symm
          have HA := Lib.hid (accept_no HPS.out [44] hx)
          have hq : ((hd ts').text == [44]) = false := by simpa using hx
          clear hm hx
          go_wp2_with fail
          refine HA.out.mono ?_
          rintro e w2 ⟨rfl, rfl⟩
          go_wp2_with fail
          go_ret
          exact out_ok HM.out ⟨A, c, rfl, HO.out.row turns_ex⟩ HPS.out HK.out

set_option maxHeartbeats 3200000 in
set_option maxRecDepth 100000 in
theorem call_any {m : Pm} {w : World} {nest : Nat} {ts : List Tok} (n kind : Nat) (R : Res Sm) (h : PsAt m w nest ts) (hR : Hid (callP n kind ts = R)) (hne : R ≠ .out) :
    Calls Tryd.prog 57 #[.pointer (some ⟨m.P, 0, none⟩), .int .i64 kind] w (Out m w nest (SmV w.heap.size) R) := by
  have hR2 := hR.out
  unfold callP at hR2
  have HR0 := Lib.hid hR2
  clear hR hR2
  have hP := h.lt
  have H := Lib.hid h
  have h0 := h.alloc (.cells #[.int .i64 0, .int .i64 0, .int .i64 0, .string ⟨#[]⟩, .string ⟨#[]⟩, .int .i64 0, .int .i64 0, .slice none 0 0, .string ⟨#[]⟩, .int .i64 0, .slice none 0 0, .slice none 0 0, .slice none 0 0] 49)
  have q0 := (Keeps.refl m.P w).alloc (.cells #[.int .i64 0, .int .i64 0, .int .i64 0, .string ⟨#[]⟩, .string ⟨#[]⟩, .int .i64 0, .int .i64 0, .slice none 0 0, .string ⟨#[]⟩, .int .i64 0, .slice none 0 0, .slice none 0 0, .slice none 0 0] 49)
  have cZ0 := heap_alloc_new w (.cells #[.int .i64 0, .int .i64 0, .int .i64 0, .string ⟨#[]⟩, .string ⟨#[]⟩, .int .i64 0, .int .i64 0, .slice none 0 0, .string ⟨#[]⟩, .int .i64 0, .slice none 0 0, .slice none 0 0, .slice none 0 0] 49)
  have hz0 : (w.alloc (.cells #[.int .i64 0, .int .i64 0, .int .i64 0, .string ⟨#[]⟩, .string ⟨#[]⟩, .int .i64 0, .int .i64 0, .slice none 0 0, .string ⟨#[]⟩, .int .i64 0, .slice none 0 0, .slice none 0 0, .slice none 0 0] 49)).heap.size = w.heap.size + 1 := World.size_alloc _ _
  obtain ⟨w0, HW0⟩ : ∃ U, Hid (w.alloc (.cells #[.int .i64 0, .int .i64 0, .int .i64 0, .string ⟨#[]⟩, .string ⟨#[]⟩, .int .i64 0, .int .i64 0, .slice none 0 0, .string ⟨#[]⟩, .int .i64 0, .slice none 0 0, .slice none 0 0, .slice none 0 0] 49) = U) := ⟨_, Lib.hid rfl⟩
  rw [HW0.out] at h0 q0 cZ0 hz0
  have H0 := Lib.hid h0
  have K0 := Lib.hid q0
  have Z0 := Lib.hid cZ0
  clear h h0 q0 cZ0
  go_enter Tryd.func57, Tryd.ntmps57
  go_wp2_with fail
  rw [HW0.out]
  refine (name_any H0.out).mono ?_
  intro e w1 ho
  rcases ho.go with ⟨l, k, hR, rfl, k1⟩ | ⟨x1, ts1, v1, hR, rfl, hv, h1, k1⟩
  · exact ⟨rfl, out_err (Res.fails HR0.out hR) (K0.out.trans k1)⟩
  have HR1 := Lib.hid (Res.behind HR0.out hR)
  have H1 := Lib.hid h1
  have K1 := Lib.hid (K0.out.trans k1)
  have hs1 := K1.out.size
  have hm1 := k1.size
  have Z1 := Lib.hid (k1.held (by omega) Z0.out)
  clear h1 k1
  have HX1 := Lib.hid hR
  obtain rfl := hv
  clear hR
  go_wp2_with fail
  have h2 := H1.out.alloc (.cells #[.int .i64 kind, .int .i64 0, .int .i64 0, .string ⟨#[]⟩, .string ⟨#[]⟩, .int .i64 0, .int .i64 0, .slice none 0 0, .string ⟨x1.toArray⟩, .int .i64 0, .slice none 0 0, .slice none 0 0, .slice none 0 0] 49)
  have q2 := K1.out.alloc (.cells #[.int .i64 kind, .int .i64 0, .int .i64 0, .string ⟨#[]⟩, .string ⟨#[]⟩, .int .i64 0, .int .i64 0, .slice none 0 0, .string ⟨x1.toArray⟩, .int .i64 0, .slice none 0 0, .slice none 0 0, .slice none 0 0] 49)
  have cZ2 := held_alloc (.cells #[.int .i64 kind, .int .i64 0, .int .i64 0, .string ⟨#[]⟩, .string ⟨#[]⟩, .int .i64 0, .int .i64 0, .slice none 0 0, .string ⟨x1.toArray⟩, .int .i64 0, .slice none 0 0, .slice none 0 0, .slice none 0 0] 49) Z1.out
  have cE2 := heap_alloc_new w1 (.cells #[.int .i64 kind, .int .i64 0, .int .i64 0, .string ⟨#[]⟩, .string ⟨#[]⟩, .int .i64 0, .int .i64 0, .slice none 0 0, .string ⟨x1.toArray⟩, .int .i64 0, .slice none 0 0, .slice none 0 0, .slice none 0 0] 49)
  obtain ⟨w2, HW2⟩ : ∃ U, Hid (w1.alloc (.cells #[.int .i64 kind, .int .i64 0, .int .i64 0, .string ⟨#[]⟩, .string ⟨#[]⟩, .int .i64 0, .int .i64 0, .slice none 0 0, .string ⟨x1.toArray⟩, .int .i64 0, .slice none 0 0, .slice none 0 0, .slice none 0 0] 49) = U) := ⟨_, Lib.hid rfl⟩
  rw [HW2.out] at h2 q2 cZ2 cE2
  have H2 := Lib.hid h2
  have K2 := Lib.hid q2
  have Z2 := Lib.hid cZ2
  have E2 := Lib.hid cE2
  have hs2 := K2.out.size
  have hz2 : w2.heap.size = w1.heap.size + 1 := by have hq := congrArg (fun x => x.heap.size) HW2.out; simp only [World.size_alloc] at hq; exact hq.symm
  have hm2 : w1.heap.size < w2.heap.size := by omega
  clear h2 q2 cZ2 cE2
  rw [HW2.out]
  refine (expect_any H2.out [40] (by simp)).mono ?_
  intro e w3 ho
  rcases ho.go with ⟨l, k, hR, rfl, k3⟩ | ⟨x3, ts3, v3, hR, rfl, hv, h3, k3⟩
  · exact ⟨rfl, out_err (Res.fails HR1.out hR) (K2.out.trans k3)⟩
  have HR2 := Lib.hid (Res.behind HR1.out hR)
  have H3 := Lib.hid h3
  have K3 := Lib.hid (K2.out.trans k3)
  have hs3 := K3.out.size
  have hm3 := k3.size
  have Z3 := Lib.hid (k3.held (by omega) Z2.out)
  have E3 := Lib.hid (k3.held (by omega) E2.out)
  clear h3 k3
  have HX3 := Lib.hid hR
  clear hv
  clear hR
  go_wp2_with fail
  by_cases hcl : (hd ts3).text = [41]
  · have hr := HR2.out
    rw [if_pos hcl] at hr
    have HR3 := Lib.hid hr
    clear hr HR2
    have hr2 := HR3.out
    rw [Res.ok_bind] at hr2
    have HR4 := Lib.hid hr2
    clear hr2 HR3
    have hq : ((hd ts3).text == [41]) = true := by simpa using hcl
    refine (at_any H3.out [41]).mono ?_
    rintro e w' ⟨rfl, hw'⟩
    have hw2 := hw'.symm
    clear hw'
    subst hw2
    go_wp2_with fail
    clear hq hcl
    refine (expect_any H3.out [41] (by simp)).mono ?_
    intro e w4 ho
    rcases ho.go with ⟨l, k, hR, rfl, k4⟩ | ⟨x4, ts4, v4, hR, rfl, hv, h4, k4⟩
    · exact ⟨rfl, out_err (Res.fails HR4.out hR) (K3.out.trans k4)⟩
    have HR5 := Lib.hid (Res.behind HR4.out hR)
    have H4 := Lib.hid h4
    have K4 := Lib.hid (K3.out.trans k4)
    have hs4 := K4.out.size
    have hm4 := k4.size
    have Z4 := Lib.hid (k4.held (by omega) Z3.out)
    have E4 := Lib.hid (k4.held (by omega) E3.out)
    clear h4 k4
    have HX4 := Lib.hid hR
    clear hv
    clear hR
    go_wp2_with fail
    refine (expect_any H4.out [59] (by simp)).mono ?_
    intro e w5 ho
    rcases ho.go with ⟨l, k, hR, rfl, k5⟩ | ⟨x5, ts5, v5, hR, rfl, hv, h5, k5⟩
    · exact ⟨rfl, out_err (Res.fails HR5.out hR) (K4.out.trans k5)⟩
    have HR6 := Lib.hid (Res.behind HR5.out hR)
    have H5 := Lib.hid h5
    have K5 := Lib.hid (K4.out.trans k5)
    have hs5 := K5.out.size
    have hm5 := k5.size
    have Z5 := Lib.hid (k5.held (by omega) Z4.out)
    have E5 := Lib.hid (k5.held (by omega) E4.out)
    clear h5 k5
    have HX5 := Lib.hid hR
    clear hv
    clear hR
    go_wp2_with (first | ((with_reducible show wpList _ _ _ (Oper.mk _ (Op.load 49 _) _ _ _ none :: _) _ _); refine wpList_load_all rfl 49 _ rfl w1.heap.size _ _ rfl E5.out Tryd.underlying49 rfl (by kernel_rfl) ?_) | ((with_reducible show wpList _ _ _ (Oper.mk none (Op.store 49 _ _) _ _ _ none :: _) _ _); refine wpList_store_all rfl rfl 49 _ _ rfl w.heap.size _ (#[.int .i64 kind, .int .i64 0, .int .i64 0, .string ⟨#[]⟩, .string ⟨#[]⟩, .int .i64 0, .int .i64 0, .slice none 0 0, .string ⟨x1.toArray⟩, .int .i64 0, .slice none 0 0, .slice none 0 0, .slice none 0 0]) rfl rfl Z5.out rfl (by kernel_rfl) (by simp [Value.oneCell']) ?_; intro U hU))
    (try simp only [Exit.inBlock, Exit.then])
    have hld := ret_all (P := Tryd.prog) 49 w.heap.size _ _ hU.at_ Tryd.underlying49 rfl (by kernel_rfl)
    refine bodyPost_ret (v := .agg #[.int .i64 kind, .int .i64 0, .int .i64 0, .string ⟨#[]⟩, .string ⟨#[]⟩, .int .i64 0, .int .i64 0, .slice none 0 0, .string ⟨x1.toArray⟩, .int .i64 0, .slice none 0 0, .slice none 0 0, .slice none 0 0]) (by simp [results, Tryd.results57, Act.put, asAddr, hld]) rfl ?_
    exact out_ok HR6.out.symm (SmIs.mk (A1 := none) (c1 := 0) (A2 := none) (c2 := 0) (A3 := none) (c3 := 0) (A4 := none) (c4 := 0) (ExsIs.nil _ _ _ _ (Nat.zero_le _)) (ExsIs.nil _ _ _ _ (Nat.zero_le _)) (SmsIs.nil _ _ _ _ (Nat.zero_le _)) (SmsIs.nil _ _ _ _ (Nat.zero_le _))) (H5.out.setC H.out (Nat.le_refl _) hU) (K5.out.setC (Nat.le_refl _) hU)
  · have hr := HR2.out
    rw [if_neg hcl] at hr
    have HR3 := Lib.hid hr
    clear hr HR2
    have hq : ((hd ts3).text == [41]) = false := by simpa using hcl
    refine (at_any H3.out [41]).mono ?_
    rintro e w' ⟨rfl, hw'⟩
    have hw2 := hw'.symm
    clear hw'
    subst hw2
    go_wp2_with fail
    clear hq hcl
    refine (arguments_any n _ H3.out (Lib.hid rfl) (Res.live HR3.out hne)).mono ?_
    intro e w4 ho
    rcases ho.go with ⟨l, k, hR, rfl, k4⟩ | ⟨x4, ts4, v4, hR, rfl, hv, h4, k4⟩
    · exact ⟨rfl, out_err (Res.fails HR3.out hR) (K3.out.trans k4)⟩
    have HR4 := Lib.hid (Res.behind HR3.out hR)
    have H4 := Lib.hid h4
    have K4 := Lib.hid (K3.out.trans k4)
    have hs4 := K4.out.size
    have hm4 := k4.size
    have Z4 := Lib.hid (k4.held (by omega) Z3.out)
    have E4 := Lib.hid (k4.held (by omega) E3.out)
    clear h4 k4
    have HX4 := Lib.hid hR
    clear hR
    obtain ⟨A4, c4, rfl, ha⟩ := hv
    have Y4 : Hid (ExsIs w4 (fun b => w3.heap.size ≤ b) A4 c4 x4) := Lib.hid ha
    clear ha
    go_wp2_with ((with_reducible show wpList _ _ _ (Oper.mk none (Op.store 47 _ _) _ _ _ none :: _) _ _); refine wpList_store_cell rfl rfl 47 _ _ rfl w1.heap.size 10 _ (.slice A4 x4.length c4) rfl rfl E4.out (by simp) (by kernel_rfl) rfl ?_; intro w5 hU; have H5 := Lib.hid (H4.out.setC H.out (by omega) hU); have K5 := Lib.hid (K4.out.setC (by omega) hU); have hs5 := K5.out.size; have hm5 := Nat.le_of_eq hU.size.symm; have Z5 := Lib.hid (hU.held (by omega) Z4.out); have E5 := Lib.hid (show w5.heap[w1.heap.size]? = some (.cells #[.int .i64 kind, .int .i64 0, .int .i64 0, .string ⟨#[]⟩, .string ⟨#[]⟩, .int .i64 0, .int .i64 0, .slice none 0 0, .string ⟨x1.toArray⟩, .int .i64 0, .slice A4 x4.length c4, .slice none 0 0, .slice none 0 0] 49 (0, 0)) from hU.at_); have Y5 := Lib.hid (Y4.out.turn (hU.stays_of (fun b (hb : w3.heap.size ≤ b) => by omega))); clear hU)
    refine (expect_any H5.out [41] (by simp)).mono ?_
    intro e w6 ho
    rcases ho.go with ⟨l, k, hR, rfl, k6⟩ | ⟨x6, ts6, v6, hR, rfl, hv, h6, k6⟩
    · exact ⟨rfl, out_err (Res.fails HR4.out hR) (K5.out.trans k6)⟩
    have HR5 := Lib.hid (Res.behind HR4.out hR)
    have H6 := Lib.hid h6
    have K6 := Lib.hid (K5.out.trans k6)
    have hs6 := K6.out.size
    have hm6 := k6.size
    have Z6 := Lib.hid (k6.held (by omega) Z5.out)
    have E6 := Lib.hid (k6.held (by omega) E5.out)
    have Y6 := Lib.hid (Y5.out.turn (k6.stays_of (fun b (hb : w3.heap.size ≤ b) => by omega)))
    clear h6 k6
    have HX6 := Lib.hid hR
    clear hv
    clear hR
    go_wp2_with fail
    refine (expect_any H6.out [59] (by simp)).mono ?_
    intro e w7 ho
    rcases ho.go with ⟨l, k, hR, rfl, k7⟩ | ⟨x7, ts7, v7, hR, rfl, hv, h7, k7⟩
    · exact ⟨rfl, out_err (Res.fails HR5.out hR) (K6.out.trans k7)⟩
    have HR6 := Lib.hid (Res.behind HR5.out hR)
    have H7 := Lib.hid h7
    have K7 := Lib.hid (K6.out.trans k7)
    have hs7 := K7.out.size
    have hm7 := k7.size
    have Z7 := Lib.hid (k7.held (by omega) Z6.out)
    have E7 := Lib.hid (k7.held (by omega) E6.out)
    have Y7 := Lib.hid (Y6.out.turn (k7.stays_of (fun b (hb : w3.heap.size ≤ b) => by omega)))
    clear h7 k7
    have HX7 := Lib.hid hR
    clear hv
    clear hR
    go_wp2_with (first | ((with_reducible show wpList _ _ _ (Oper.mk _ (Op.load 49 _) _ _ _ none :: _) _ _); refine wpList_load_all rfl 49 _ rfl w1.heap.size _ _ rfl E7.out Tryd.underlying49 rfl (by kernel_rfl) ?_) | ((with_reducible show wpList _ _ _ (Oper.mk none (Op.store 49 _ _) _ _ _ none :: _) _ _); refine wpList_store_all rfl rfl 49 _ _ rfl w.heap.size _ (#[.int .i64 kind, .int .i64 0, .int .i64 0, .string ⟨#[]⟩, .string ⟨#[]⟩, .int .i64 0, .int .i64 0, .slice none 0 0, .string ⟨x1.toArray⟩, .int .i64 0, .slice A4 x4.length c4, .slice none 0 0, .slice none 0 0]) rfl rfl Z7.out rfl (by kernel_rfl) (by simp [Value.oneCell']) ?_; intro U hU))
    (try simp only [Exit.inBlock, Exit.then])
    have hld := ret_all (P := Tryd.prog) 49 w.heap.size _ _ hU.at_ Tryd.underlying49 rfl (by kernel_rfl)
    refine bodyPost_ret (v := .agg #[.int .i64 kind, .int .i64 0, .int .i64 0, .string ⟨#[]⟩, .string ⟨#[]⟩, .int .i64 0, .int .i64 0, .slice none 0 0, .string ⟨x1.toArray⟩, .int .i64 0, .slice A4 x4.length c4, .slice none 0 0, .slice none 0 0]) (by simp [results, Tryd.results57, Act.put, asAddr, hld]) rfl ?_
    exact out_ok HR6.out.symm (SmIs.mk (A1 := none) (c1 := 0) (A3 := none) (c3 := 0) (A4 := none) (c4 := 0) (ExsIs.nil _ _ _ _ (Nat.zero_le _)) ((Y7.out.turn (q := fun b => w.heap.size ≤ b) (fun b _ (hb : w3.heap.size ≤ b) => ⟨by omega, hU.block b (by omega)⟩))) (SmsIs.nil _ _ _ _ (Nat.zero_le _)) (SmsIs.nil _ _ _ _ (Nat.zero_le _))) (H7.out.setC H.out (Nat.le_refl _) hU) (K7.out.setC (Nat.le_refl _) hU)

theorem expr0 {n : Nat} {m : Pm} {w : World} {nest : Nat} {ts : List Tok} (R : Res Ex) (h : PsAt m w nest ts) (hR : Hid (operP n 1 0 ts = R)) (hne : R ≠ .out) :
    Calls Tryd.prog 54 #[.pointer (some ⟨m.P, 0, none⟩), .int .i64 0] w (Out m w nest (ExV w.heap.size) R) := expression_any (oper_all n) 0 R h (by omega) hR hne
theorem target0 {n : Nat} {m : Pm} {w : World} {nest : Nat} {ts : List Tok} (R : Res Ex) (h : PsAt m w nest ts) (hR : Hid (targetP n 0 ts = R)) (hne : R ≠ .out) :
    Calls Tryd.prog 87 #[.pointer (some ⟨m.P, 0, none⟩), .int .i64 0] w (Out m w nest (ExV w.heap.size) R) := target_all n 0 R h (by omega) hR hne

set_option maxHeartbeats 3200000 in
set_option maxRecDepth 100000 in
theorem value_any {m : Pm} {w : World} {nest : Nat} {ts : List Tok} (n kind : Nat) (R : Res Sm) (h : PsAt m w nest ts) (hR : Hid (valueP n kind ts = R)) (hne : R ≠ .out) :
    Calls Tryd.prog 58 #[.pointer (some ⟨m.P, 0, none⟩), .int .i64 kind] w (Out m w nest (SmV w.heap.size) R) := by
  have hR2 := hR.out
  unfold valueP at hR2
  have HR0 := Lib.hid hR2
  clear hR hR2
  have hP := h.lt
  have H := Lib.hid h
  have h0 := h.alloc (.cells #[.int .i64 0, .int .i64 0, .int .i64 0, .string ⟨#[]⟩, .string ⟨#[]⟩, .int .i64 0, .int .i64 0, .slice none 0 0, .string ⟨#[]⟩, .int .i64 0, .slice none 0 0, .slice none 0 0, .slice none 0 0] 49)
  have q0 := (Keeps.refl m.P w).alloc (.cells #[.int .i64 0, .int .i64 0, .int .i64 0, .string ⟨#[]⟩, .string ⟨#[]⟩, .int .i64 0, .int .i64 0, .slice none 0 0, .string ⟨#[]⟩, .int .i64 0, .slice none 0 0, .slice none 0 0, .slice none 0 0] 49)
  have cZ0 := heap_alloc_new w (.cells #[.int .i64 0, .int .i64 0, .int .i64 0, .string ⟨#[]⟩, .string ⟨#[]⟩, .int .i64 0, .int .i64 0, .slice none 0 0, .string ⟨#[]⟩, .int .i64 0, .slice none 0 0, .slice none 0 0, .slice none 0 0] 49)
  have hz0 : (w.alloc (.cells #[.int .i64 0, .int .i64 0, .int .i64 0, .string ⟨#[]⟩, .string ⟨#[]⟩, .int .i64 0, .int .i64 0, .slice none 0 0, .string ⟨#[]⟩, .int .i64 0, .slice none 0 0, .slice none 0 0, .slice none 0 0] 49)).heap.size = w.heap.size + 1 := World.size_alloc _ _
  obtain ⟨w0, HW0⟩ : ∃ U, Hid (w.alloc (.cells #[.int .i64 0, .int .i64 0, .int .i64 0, .string ⟨#[]⟩, .string ⟨#[]⟩, .int .i64 0, .int .i64 0, .slice none 0 0, .string ⟨#[]⟩, .int .i64 0, .slice none 0 0, .slice none 0 0, .slice none 0 0] 49) = U) := ⟨_, Lib.hid rfl⟩
  rw [HW0.out] at h0 q0 cZ0 hz0
  have H0 := Lib.hid h0
  have K0 := Lib.hid q0
  have Z0 := Lib.hid cZ0
  clear h h0 q0 cZ0
  go_enter Tryd.func58, Tryd.ntmps58
  go_wp2_with fail
  rw [HW0.out]
  refine (expr0 (n := n) _ H0.out (Lib.hid rfl) (Res.live HR0.out hne)).mono ?_
  intro e w1 ho
  rcases ho.go with ⟨l, k, hR, rfl, k1⟩ | ⟨x1, ts1, v1, hR, rfl, hv, h1, k1⟩
  · exact ⟨rfl, out_err (Res.fails HR0.out hR) (K0.out.trans k1)⟩
  have HR1 := Lib.hid (Res.behind HR0.out hR)
  have H1 := Lib.hid h1
  have K1 := Lib.hid (K0.out.trans k1)
  have hs1 := K1.out.size
  have hm1 := k1.size
  have Z1 := Lib.hid (k1.held (by omega) Z0.out)
  clear h1 k1
  have HX1 := Lib.hid hR
  clear hR
  obtain ⟨op1, num1, var1, nm1, fld1, args1⟩ := x1
  obtain ⟨A1, c1, rfl, ha⟩ := ExIs.parts hv
  have X1 : Hid (ExIs w1 (fun b => w0.heap.size ≤ b) (.agg #[.int .i64 op1, .int .i64 num1, .int .i64 var1, .string ⟨nm1.toArray⟩, .string ⟨fld1.toArray⟩, .slice A1 args1.length c1]) (.mk op1 num1 var1 nm1 fld1 args1)) := Lib.hid hv
  clear ha hv
  have h2 := H1.out.alloc (.cells #[.int .i64 op1, .int .i64 num1, .int .i64 var1, .string ⟨nm1.toArray⟩, .string ⟨fld1.toArray⟩, .slice A1 args1.length c1] 51)
  have q2 := K1.out.alloc (.cells #[.int .i64 op1, .int .i64 num1, .int .i64 var1, .string ⟨nm1.toArray⟩, .string ⟨fld1.toArray⟩, .slice A1 args1.length c1] 51)
  have cZ2 := held_alloc (.cells #[.int .i64 op1, .int .i64 num1, .int .i64 var1, .string ⟨nm1.toArray⟩, .string ⟨fld1.toArray⟩, .slice A1 args1.length c1] 51) Z1.out
  have cQ2 := heap_alloc_new w1 (.cells #[.int .i64 op1, .int .i64 num1, .int .i64 var1, .string ⟨nm1.toArray⟩, .string ⟨fld1.toArray⟩, .slice A1 args1.length c1] 51)
  have cX2 := X1.out.turn (stays_alloc (.cells #[.int .i64 op1, .int .i64 num1, .int .i64 var1, .string ⟨nm1.toArray⟩, .string ⟨fld1.toArray⟩, .slice A1 args1.length c1] 51))
  obtain ⟨w2, HW2⟩ : ∃ U, Hid (w1.alloc (.cells #[.int .i64 op1, .int .i64 num1, .int .i64 var1, .string ⟨nm1.toArray⟩, .string ⟨fld1.toArray⟩, .slice A1 args1.length c1] 51) = U) := ⟨_, Lib.hid rfl⟩
  rw [HW2.out] at h2 q2 cZ2 cQ2 cX2
  have H2 := Lib.hid h2
  have K2 := Lib.hid q2
  have Z2 := Lib.hid cZ2
  have Q2 := Lib.hid cQ2
  have X2 := Lib.hid cX2
  have hs2 := K2.out.size
  have hz2 : w2.heap.size = w1.heap.size + 1 := by have hq := congrArg (fun x => x.heap.size) HW2.out; simp only [World.size_alloc] at hq; exact hq.symm
  have hm2 : w1.heap.size < w2.heap.size := by omega
  clear h2 q2 cZ2 cQ2 cX2
  have Y2 : Hid (ExsIs w2 (fun b => w0.heap.size ≤ b) (some ⟨w1.heap.size, 0, none⟩) 1 [(.mk op1 num1 var1 nm1 fld1 args1)]) := Lib.hid (RowIs.one (vs := [.int .i64 op1, .int .i64 num1, .int .i64 var1, .string ⟨nm1.toArray⟩, .string ⟨fld1.toArray⟩, .slice A1 args1.length c1]) Q2.out (by omega) (Nat.le_refl _) (by decide) X2.out)
  go_wp2_with fail
  have h3 := H2.out.alloc (.cells #[.int .i64 kind, .int .i64 0, .int .i64 0, .string ⟨#[]⟩, .string ⟨#[]⟩, .int .i64 0, .int .i64 0, .slice none 0 0, .string ⟨#[]⟩, .int .i64 0, .slice (some ⟨w1.heap.size, 0, none⟩) 1 1, .slice none 0 0, .slice none 0 0] 49)
  have q3 := K2.out.alloc (.cells #[.int .i64 kind, .int .i64 0, .int .i64 0, .string ⟨#[]⟩, .string ⟨#[]⟩, .int .i64 0, .int .i64 0, .slice none 0 0, .string ⟨#[]⟩, .int .i64 0, .slice (some ⟨w1.heap.size, 0, none⟩) 1 1, .slice none 0 0, .slice none 0 0] 49)
  have cZ3 := held_alloc (.cells #[.int .i64 kind, .int .i64 0, .int .i64 0, .string ⟨#[]⟩, .string ⟨#[]⟩, .int .i64 0, .int .i64 0, .slice none 0 0, .string ⟨#[]⟩, .int .i64 0, .slice (some ⟨w1.heap.size, 0, none⟩) 1 1, .slice none 0 0, .slice none 0 0] 49) Z2.out
  have cE3 := (show (w2.alloc (.cells #[.int .i64 kind, .int .i64 0, .int .i64 0, .string ⟨#[]⟩, .string ⟨#[]⟩, .int .i64 0, .int .i64 0, .slice none 0 0, .string ⟨#[]⟩, .int .i64 0, .slice (some ⟨w1.heap.size, 0, none⟩) 1 1, .slice none 0 0, .slice none 0 0] 49)).heap[w1.heap.size + 1]? = some (.cells #[.int .i64 kind, .int .i64 0, .int .i64 0, .string ⟨#[]⟩, .string ⟨#[]⟩, .int .i64 0, .int .i64 0, .slice none 0 0, .string ⟨#[]⟩, .int .i64 0, .slice (some ⟨w1.heap.size, 0, none⟩) 1 1, .slice none 0 0, .slice none 0 0] 49 (0, 0)) from by rw [← hz2]; exact heap_alloc_new _ _)
  have cY3 := Y2.out.turn (q := fun b => (w0.heap.size ≤ b) ∧ b ≠ w1.heap.size + 1) (fun b hb (hp : w0.heap.size ≤ b) => ⟨⟨hp, by omega⟩, heap_alloc_old _ (.cells #[.int .i64 kind, .int .i64 0, .int .i64 0, .string ⟨#[]⟩, .string ⟨#[]⟩, .int .i64 0, .int .i64 0, .slice none 0 0, .string ⟨#[]⟩, .int .i64 0, .slice (some ⟨w1.heap.size, 0, none⟩) 1 1, .slice none 0 0, .slice none 0 0] 49) hb⟩)
  obtain ⟨w3, HW3⟩ : ∃ U, Hid (w2.alloc (.cells #[.int .i64 kind, .int .i64 0, .int .i64 0, .string ⟨#[]⟩, .string ⟨#[]⟩, .int .i64 0, .int .i64 0, .slice none 0 0, .string ⟨#[]⟩, .int .i64 0, .slice (some ⟨w1.heap.size, 0, none⟩) 1 1, .slice none 0 0, .slice none 0 0] 49) = U) := ⟨_, Lib.hid rfl⟩
  rw [HW3.out] at h3 q3 cZ3 cE3 cY3
  have H3 := Lib.hid h3
  have K3 := Lib.hid q3
  have Z3 := Lib.hid cZ3
  have E3 := Lib.hid cE3
  have Y3 := Lib.hid cY3
  have hs3 := K3.out.size
  have hz3 : w3.heap.size = w2.heap.size + 1 := by have hq := congrArg (fun x => x.heap.size) HW3.out; simp only [World.size_alloc] at hq; exact hq.symm
  have hm3 : w2.heap.size < w3.heap.size := by omega
  clear h3 q3 cZ3 cE3 cY3
  rw [HW2.out, HW3.out]
  refine (expect_any H3.out [59] (by simp)).mono ?_
  intro e w4 ho
  rcases ho.go with ⟨l, k, hR, rfl, k4⟩ | ⟨x4, ts4, v4, hR, rfl, hv, h4, k4⟩
  · exact ⟨rfl, out_err (Res.fails HR1.out hR) (K3.out.trans k4)⟩
  have HR2 := Lib.hid (Res.behind HR1.out hR)
  have H4 := Lib.hid h4
  have K4 := Lib.hid (K3.out.trans k4)
  have hs4 := K4.out.size
  have hm4 := k4.size
  have Z4 := Lib.hid (k4.held (by omega) Z3.out)
  have E4 := Lib.hid (k4.held (by omega) E3.out)
  have Y4 := Lib.hid (Y3.out.turn (k4.stays_of (fun b (hb : (w0.heap.size ≤ b) ∧ b ≠ w1.heap.size + 1) => by omega)))
  clear h4 k4
  have HX4 := Lib.hid hR
  clear hv
  clear hR
  go_wp2_with (first | ((with_reducible show wpList _ _ _ (Oper.mk _ (Op.load 49 _) _ _ _ none :: _) _ _); refine wpList_load_all rfl 49 _ rfl (w1.heap.size + 1) _ _ rfl E4.out Tryd.underlying49 rfl (by kernel_rfl) ?_) | ((with_reducible show wpList _ _ _ (Oper.mk none (Op.store 49 _ _) _ _ _ none :: _) _ _); refine wpList_store_all rfl rfl 49 _ _ rfl w.heap.size _ (#[.int .i64 kind, .int .i64 0, .int .i64 0, .string ⟨#[]⟩, .string ⟨#[]⟩, .int .i64 0, .int .i64 0, .slice none 0 0, .string ⟨#[]⟩, .int .i64 0, .slice (some ⟨w1.heap.size, 0, none⟩) 1 1, .slice none 0 0, .slice none 0 0]) rfl rfl Z4.out rfl (by kernel_rfl) (by simp [Value.oneCell']) ?_; intro U hU))
  (try simp only [Exit.inBlock, Exit.then])
  have hld := ret_all (P := Tryd.prog) 49 w.heap.size _ _ hU.at_ Tryd.underlying49 rfl (by kernel_rfl)
  refine bodyPost_ret (v := .agg #[.int .i64 kind, .int .i64 0, .int .i64 0, .string ⟨#[]⟩, .string ⟨#[]⟩, .int .i64 0, .int .i64 0, .slice none 0 0, .string ⟨#[]⟩, .int .i64 0, .slice (some ⟨w1.heap.size, 0, none⟩) 1 1, .slice none 0 0, .slice none 0 0]) (by simp [results, Tryd.results58, Act.put, asAddr, hld]) rfl ?_
  exact out_ok HR2.out.symm (SmIs.mk (A1 := none) (c1 := 0) (A3 := none) (c3 := 0) (A4 := none) (c4 := 0) (ExsIs.nil _ _ _ _ (Nat.zero_le _)) ((Y4.out.turn (q := fun b => w.heap.size ≤ b) (fun b _ (hb : (w0.heap.size ≤ b) ∧ b ≠ w1.heap.size + 1) => ⟨by omega, hU.block b (by omega)⟩))) (SmsIs.nil _ _ _ _ (Nat.zero_le _)) (SmsIs.nil _ _ _ _ (Nat.zero_le _))) (H4.out.setC H.out (Nat.le_refl _) hU) (K4.out.setC (Nat.le_refl _) hU)

set_option maxHeartbeats 3200000 in
set_option maxRecDepth 100000 in
theorem declare_any {m : Pm} {w : World} {nest : Nat} {ts : List Tok}  (R : Res Sm) (h : PsAt m w nest ts) (hR : Hid (declP ts = R))  :
    Calls Tryd.prog 30 #[.pointer (some ⟨m.P, 0, none⟩)] w (Out m w nest (SmV w.heap.size) R) := by
  have hR2 := hR.out
  unfold declP at hR2
  have HR0 := Lib.hid hR2
  clear hR hR2
  have hP := h.lt
  have H := Lib.hid h
  have h0 := h.alloc (.cells #[.int .i64 0, .int .i64 0, .int .i64 0, .string ⟨#[]⟩, .string ⟨#[]⟩, .int .i64 0, .int .i64 0, .slice none 0 0, .string ⟨#[]⟩, .int .i64 0, .slice none 0 0, .slice none 0 0, .slice none 0 0] 49)
  have q0 := (Keeps.refl m.P w).alloc (.cells #[.int .i64 0, .int .i64 0, .int .i64 0, .string ⟨#[]⟩, .string ⟨#[]⟩, .int .i64 0, .int .i64 0, .slice none 0 0, .string ⟨#[]⟩, .int .i64 0, .slice none 0 0, .slice none 0 0, .slice none 0 0] 49)
  have cZ0 := heap_alloc_new w (.cells #[.int .i64 0, .int .i64 0, .int .i64 0, .string ⟨#[]⟩, .string ⟨#[]⟩, .int .i64 0, .int .i64 0, .slice none 0 0, .string ⟨#[]⟩, .int .i64 0, .slice none 0 0, .slice none 0 0, .slice none 0 0] 49)
  have hz0 : (w.alloc (.cells #[.int .i64 0, .int .i64 0, .int .i64 0, .string ⟨#[]⟩, .string ⟨#[]⟩, .int .i64 0, .int .i64 0, .slice none 0 0, .string ⟨#[]⟩, .int .i64 0, .slice none 0 0, .slice none 0 0, .slice none 0 0] 49)).heap.size = w.heap.size + 1 := World.size_alloc _ _
  obtain ⟨w0, HW0⟩ : ∃ U, Hid (w.alloc (.cells #[.int .i64 0, .int .i64 0, .int .i64 0, .string ⟨#[]⟩, .string ⟨#[]⟩, .int .i64 0, .int .i64 0, .slice none 0 0, .string ⟨#[]⟩, .int .i64 0, .slice none 0 0, .slice none 0 0, .slice none 0 0] 49) = U) := ⟨_, Lib.hid rfl⟩
  rw [HW0.out] at h0 q0 cZ0 hz0
  have H0 := Lib.hid h0
  have K0 := Lib.hid q0
  have Z0 := Lib.hid cZ0
  clear h h0 q0 cZ0
  go_enter Tryd.func30, Tryd.ntmps30
  go_wp2_with fail
  rw [HW0.out]
  refine (expect_any H0.out [118, 97, 114] (by simp)).mono ?_
  intro e w1 ho
  rcases ho.go with ⟨l, k, hR, rfl, k1⟩ | ⟨x1, ts1, v1, hR, rfl, hv, h1, k1⟩
  · exact ⟨rfl, out_err (Res.fails HR0.out hR) (K0.out.trans k1)⟩
  have HR1 := Lib.hid (Res.behind HR0.out hR)
  have H1 := Lib.hid h1
  have K1 := Lib.hid (K0.out.trans k1)
  have hs1 := K1.out.size
  have hm1 := k1.size
  have Z1 := Lib.hid (k1.held (by omega) Z0.out)
  clear h1 k1
  have HX1 := Lib.hid hR
  clear hv
  clear hR
  go_wp2_with fail
  refine (name_any H1.out).mono ?_
  intro e w2 ho
  rcases ho.go with ⟨l, k, hR, rfl, k2⟩ | ⟨x2, ts2, v2, hR, rfl, hv, h2, k2⟩
  · exact ⟨rfl, out_err (Res.fails HR1.out hR) (K1.out.trans k2)⟩
  have HR2 := Lib.hid (Res.behind HR1.out hR)
  have H2 := Lib.hid h2
  have K2 := Lib.hid (K1.out.trans k2)
  have hs2 := K2.out.size
  have hm2 := k2.size
  have Z2 := Lib.hid (k2.held (by omega) Z1.out)
  clear h2 k2
  have HX2 := Lib.hid hR
  obtain rfl := hv
  clear hR
  go_wp2_with fail
  have h3 := H2.out.alloc (.cells #[.int .i64 1, .int .i64 0, .int .i64 0, .string ⟨x2.toArray⟩, .string ⟨#[]⟩, .int .i64 0, .int .i64 0, .slice none 0 0, .string ⟨#[]⟩, .int .i64 0, .slice none 0 0, .slice none 0 0, .slice none 0 0] 49)
  have q3 := K2.out.alloc (.cells #[.int .i64 1, .int .i64 0, .int .i64 0, .string ⟨x2.toArray⟩, .string ⟨#[]⟩, .int .i64 0, .int .i64 0, .slice none 0 0, .string ⟨#[]⟩, .int .i64 0, .slice none 0 0, .slice none 0 0, .slice none 0 0] 49)
  have cZ3 := held_alloc (.cells #[.int .i64 1, .int .i64 0, .int .i64 0, .string ⟨x2.toArray⟩, .string ⟨#[]⟩, .int .i64 0, .int .i64 0, .slice none 0 0, .string ⟨#[]⟩, .int .i64 0, .slice none 0 0, .slice none 0 0, .slice none 0 0] 49) Z2.out
  have cE3 := heap_alloc_new w2 (.cells #[.int .i64 1, .int .i64 0, .int .i64 0, .string ⟨x2.toArray⟩, .string ⟨#[]⟩, .int .i64 0, .int .i64 0, .slice none 0 0, .string ⟨#[]⟩, .int .i64 0, .slice none 0 0, .slice none 0 0, .slice none 0 0] 49)
  obtain ⟨w3, HW3⟩ : ∃ U, Hid (w2.alloc (.cells #[.int .i64 1, .int .i64 0, .int .i64 0, .string ⟨x2.toArray⟩, .string ⟨#[]⟩, .int .i64 0, .int .i64 0, .slice none 0 0, .string ⟨#[]⟩, .int .i64 0, .slice none 0 0, .slice none 0 0, .slice none 0 0] 49) = U) := ⟨_, Lib.hid rfl⟩
  rw [HW3.out] at h3 q3 cZ3 cE3
  have H3 := Lib.hid h3
  have K3 := Lib.hid q3
  have Z3 := Lib.hid cZ3
  have E3 := Lib.hid cE3
  have hs3 := K3.out.size
  have hz3 : w3.heap.size = w2.heap.size + 1 := by have hq := congrArg (fun x => x.heap.size) HW3.out; simp only [World.size_alloc] at hq; exact hq.symm
  have hm3 : w2.heap.size < w3.heap.size := by omega
  clear h3 q3 cZ3 cE3
  rw [HW3.out]
  refine (expect_any H3.out [58] (by simp)).mono ?_
  intro e w4 ho
  rcases ho.go with ⟨l, k, hR, rfl, k4⟩ | ⟨x4, ts4, v4, hR, rfl, hv, h4, k4⟩
  · exact ⟨rfl, out_err (Res.fails HR2.out hR) (K3.out.trans k4)⟩
  have HR3 := Lib.hid (Res.behind HR2.out hR)
  have H4 := Lib.hid h4
  have K4 := Lib.hid (K3.out.trans k4)
  have hs4 := K4.out.size
  have hm4 := k4.size
  have Z4 := Lib.hid (k4.held (by omega) Z3.out)
  have E4 := Lib.hid (k4.held (by omega) E3.out)
  clear h4 k4
  have HX4 := Lib.hid hR
  clear hv
  clear hR
  go_wp2_with fail
  by_cases hint : (hd ts4).text = [105, 110, 116]
  · have hr := HR3.out
    simp only [typeP, if_pos hint] at hr
    have HR4 := Lib.hid hr
    clear hr HR3
    have hq : ((hd ts4).text == [105, 110, 116]) = true := by simpa using hint
    have HA := Lib.hid (accept_any H4.out [105, 110, 116] (by simp))
    rw [if_pos hint] at HA
    refine HA.out.mono ?_
    rintro e w5 ⟨rfl, h5, k5⟩
    have H5 := Lib.hid h5
    have K5 := Lib.hid (K4.out.trans k5)
    have hs5 := K5.out.size
    have hm5 := k5.size
    have Z5 := Lib.hid (k5.held (by omega) Z4.out)
    have E5 := Lib.hid (k5.held (by omega) E4.out)
    clear h5 k5
    clear HA
    go_wp2_with fail
    clear hq hint
    by_cases hbr : (hd ts4.tail).text = [91]
    · have hr := HR4.out
      simp only [if_pos hbr, Res.bind_assoc] at hr
      have HR5 := Lib.hid hr
      clear hr HR4
      have hq : ((hd ts4.tail).text == [91]) = true := by simpa using hbr
      have HA := Lib.hid (accept_any H5.out [91] (by simp))
      rw [if_pos hbr] at HA
      refine HA.out.mono ?_
      rintro e w6 ⟨rfl, h6, k6⟩
      have H6 := Lib.hid h6
      have K6 := Lib.hid (K5.out.trans k6)
      have hs6 := K6.out.size
      have hm6 := k6.size
      have Z6 := Lib.hid (k6.held (by omega) Z5.out)
      have E6 := Lib.hid (k6.held (by omega) E5.out)
      clear h6 k6
      clear HA
      go_wp2_with fail
      clear hq hbr
      refine (length_any H6.out).mono ?_
      intro e w7 ho
      rcases ho.go with ⟨l, k, hR, rfl, k7⟩ | ⟨x7, ts7, v7, hR, rfl, hv, h7, k7⟩
      · exact ⟨rfl, out_err (Res.fails HR5.out hR) (K6.out.trans k7)⟩
      have HR6 := Lib.hid (Res.behind HR5.out hR)
      have H7 := Lib.hid h7
      have K7 := Lib.hid (K6.out.trans k7)
      have hs7 := K7.out.size
      have hm7 := k7.size
      have Z7 := Lib.hid (k7.held (by omega) Z6.out)
      have E7 := Lib.hid (k7.held (by omega) E6.out)
      clear h7 k7
      have HX7 := Lib.hid hR
      obtain rfl := hv
      clear hR
      go_wp2_with ((with_reducible show wpList _ _ _ (Oper.mk none (Op.store 3 _ _) _ _ _ none :: _) _ _); refine wpList_store_cell rfl rfl 3 _ _ rfl w2.heap.size 5 _ (.int .i64 x7) rfl rfl E7.out (by simp) (by kernel_rfl) rfl ?_; intro w8 hU; have H8 := Lib.hid (H7.out.setC H.out (by omega) hU); have K8 := Lib.hid (K7.out.setC (by omega) hU); have hs8 := K8.out.size; have hm8 := Nat.le_of_eq hU.size.symm; have Z8 := Lib.hid (hU.held (by omega) Z7.out); have E8 := Lib.hid (show w8.heap[w2.heap.size]? = some (.cells #[.int .i64 1, .int .i64 0, .int .i64 0, .string ⟨x2.toArray⟩, .string ⟨#[]⟩, .int .i64 x7, .int .i64 0, .slice none 0 0, .string ⟨#[]⟩, .int .i64 0, .slice none 0 0, .slice none 0 0, .slice none 0 0] 49 (0, 0)) from hU.at_); clear hU)
      refine (expect_any H8.out [93] (by simp)).mono ?_
      intro e w9 ho
      rcases ho.go with ⟨l, k, hR, rfl, k9⟩ | ⟨x9, ts9, v9, hR, rfl, hv, h9, k9⟩
      · exact ⟨rfl, out_err (Res.fails HR6.out hR) (K8.out.trans k9)⟩
      have HR7 := Lib.hid (Res.behind HR6.out hR)
      have H9 := Lib.hid h9
      have K9 := Lib.hid (K8.out.trans k9)
      have hs9 := K9.out.size
      have hm9 := k9.size
      have Z9 := Lib.hid (k9.held (by omega) Z8.out)
      have E9 := Lib.hid (k9.held (by omega) E8.out)
      clear h9 k9
      have HX9 := Lib.hid hR
      clear hv
      clear hR
      have hr := HR7.out
      simp only [Res.ok_bind] at hr
      have HR8 := Lib.hid hr
      clear hr HR7
      go_wp2_with fail
      refine (expect_any H9.out [59] (by simp)).mono ?_
      intro e w10 ho
      rcases ho.go with ⟨l, k, hR, rfl, k10⟩ | ⟨x10, ts10, v10, hR, rfl, hv, h10, k10⟩
      · exact ⟨rfl, out_err (Res.fails HR8.out hR) (K9.out.trans k10)⟩
      have HR9 := Lib.hid (Res.behind HR8.out hR)
      have H10 := Lib.hid h10
      have K10 := Lib.hid (K9.out.trans k10)
      have hs10 := K10.out.size
      have hm10 := k10.size
      have Z10 := Lib.hid (k10.held (by omega) Z9.out)
      have E10 := Lib.hid (k10.held (by omega) E9.out)
      clear h10 k10
      have HX10 := Lib.hid hR
      clear hv
      clear hR
      go_wp2_with (first | ((with_reducible show wpList _ _ _ (Oper.mk _ (Op.load 49 _) _ _ _ none :: _) _ _); refine wpList_load_all rfl 49 _ rfl w2.heap.size _ _ rfl E10.out Tryd.underlying49 rfl (by kernel_rfl) ?_) | ((with_reducible show wpList _ _ _ (Oper.mk none (Op.store 49 _ _) _ _ _ none :: _) _ _); refine wpList_store_all rfl rfl 49 _ _ rfl w.heap.size _ (#[.int .i64 1, .int .i64 0, .int .i64 0, .string ⟨x2.toArray⟩, .string ⟨#[]⟩, .int .i64 x7, .int .i64 0, .slice none 0 0, .string ⟨#[]⟩, .int .i64 0, .slice none 0 0, .slice none 0 0, .slice none 0 0]) rfl rfl Z10.out rfl (by kernel_rfl) (by simp [Value.oneCell']) ?_; intro U hU))
      (try simp only [Exit.inBlock, Exit.then])
      have hld := ret_all (P := Tryd.prog) 49 w.heap.size _ _ hU.at_ Tryd.underlying49 rfl (by kernel_rfl)
      refine bodyPost_ret (v := .agg #[.int .i64 1, .int .i64 0, .int .i64 0, .string ⟨x2.toArray⟩, .string ⟨#[]⟩, .int .i64 x7, .int .i64 0, .slice none 0 0, .string ⟨#[]⟩, .int .i64 0, .slice none 0 0, .slice none 0 0, .slice none 0 0]) (by simp [results, Tryd.results30, Act.put, asAddr, hld]) rfl ?_
      exact out_ok HR9.out.symm (SmIs.mk (A1 := none) (c1 := 0) (A2 := none) (c2 := 0) (A3 := none) (c3 := 0) (A4 := none) (c4 := 0) (ExsIs.nil _ _ _ _ (Nat.zero_le _)) (ExsIs.nil _ _ _ _ (Nat.zero_le _)) (SmsIs.nil _ _ _ _ (Nat.zero_le _)) (SmsIs.nil _ _ _ _ (Nat.zero_le _))) (H10.out.setC H.out (Nat.le_refl _) hU) (K10.out.setC (Nat.le_refl _) hU)
    · have hr := HR4.out
      simp only [if_neg hbr, Res.ok_bind] at hr
      have HR5 := Lib.hid hr
      clear hr HR4
      have hq : ((hd ts4.tail).text == [91]) = false := by simpa using hbr
      refine (accept_no H5.out [91] hbr).mono ?_
      rintro e w' ⟨rfl, hw'⟩
      have hw2 := hw'.symm
      clear hw'
      subst hw2
      go_wp2_with fail
      clear hq hbr
      refine (expect_any H5.out [59] (by simp)).mono ?_
      intro e w6 ho
      rcases ho.go with ⟨l, k, hR, rfl, k6⟩ | ⟨x6, ts6, v6, hR, rfl, hv, h6, k6⟩
      · exact ⟨rfl, out_err (Res.fails HR5.out hR) (K5.out.trans k6)⟩
      have HR6 := Lib.hid (Res.behind HR5.out hR)
      have H6 := Lib.hid h6
      have K6 := Lib.hid (K5.out.trans k6)
      have hs6 := K6.out.size
      have hm6 := k6.size
      have Z6 := Lib.hid (k6.held (by omega) Z5.out)
      have E6 := Lib.hid (k6.held (by omega) E5.out)
      clear h6 k6
      have HX6 := Lib.hid hR
      clear hv
      clear hR
      go_wp2_with (first | ((with_reducible show wpList _ _ _ (Oper.mk _ (Op.load 49 _) _ _ _ none :: _) _ _); refine wpList_load_all rfl 49 _ rfl w2.heap.size _ _ rfl E6.out Tryd.underlying49 rfl (by kernel_rfl) ?_) | ((with_reducible show wpList _ _ _ (Oper.mk none (Op.store 49 _ _) _ _ _ none :: _) _ _); refine wpList_store_all rfl rfl 49 _ _ rfl w.heap.size _ (#[.int .i64 1, .int .i64 0, .int .i64 0, .string ⟨x2.toArray⟩, .string ⟨#[]⟩, .int .i64 0, .int .i64 0, .slice none 0 0, .string ⟨#[]⟩, .int .i64 0, .slice none 0 0, .slice none 0 0, .slice none 0 0]) rfl rfl Z6.out rfl (by kernel_rfl) (by simp [Value.oneCell']) ?_; intro U hU))
      (try simp only [Exit.inBlock, Exit.then])
      have hld := ret_all (P := Tryd.prog) 49 w.heap.size _ _ hU.at_ Tryd.underlying49 rfl (by kernel_rfl)
      refine bodyPost_ret (v := .agg #[.int .i64 1, .int .i64 0, .int .i64 0, .string ⟨x2.toArray⟩, .string ⟨#[]⟩, .int .i64 0, .int .i64 0, .slice none 0 0, .string ⟨#[]⟩, .int .i64 0, .slice none 0 0, .slice none 0 0, .slice none 0 0]) (by simp [results, Tryd.results30, Act.put, asAddr, hld]) rfl ?_
      exact out_ok HR6.out.symm (SmIs.mk (A1 := none) (c1 := 0) (A2 := none) (c2 := 0) (A3 := none) (c3 := 0) (A4 := none) (c4 := 0) (ExsIs.nil _ _ _ _ (Nat.zero_le _)) (ExsIs.nil _ _ _ _ (Nat.zero_le _)) (SmsIs.nil _ _ _ _ (Nat.zero_le _)) (SmsIs.nil _ _ _ _ (Nat.zero_le _))) (H6.out.setC H.out (Nat.le_refl _) hU) (K6.out.setC (Nat.le_refl _) hU)
  · have hr := HR3.out
    simp only [typeP, if_neg hint, Res.bind_assoc, Res.ok_bind] at hr
    have HR4 := Lib.hid hr
    clear hr HR3
    have hq : ((hd ts4).text == [105, 110, 116]) = false := by simpa using hint
    refine (accept_no H4.out [105, 110, 116] hint).mono ?_
    rintro e w' ⟨rfl, hw'⟩
    have hw2 := hw'.symm
    clear hw'
    subst hw2
    go_wp2_with fail
    clear hq hint
    refine (name_any H4.out).mono ?_
    intro e w5 ho
    rcases ho.go with ⟨l, k, hR, rfl, k5⟩ | ⟨x5, ts5, v5, hR, rfl, hv, h5, k5⟩
    · exact ⟨rfl, out_err (Res.fails HR4.out hR) (K4.out.trans k5)⟩
    have HR5 := Lib.hid (Res.behind HR4.out hR)
    have H5 := Lib.hid h5
    have K5 := Lib.hid (K4.out.trans k5)
    have hs5 := K5.out.size
    have hm5 := k5.size
    have Z5 := Lib.hid (k5.held (by omega) Z4.out)
    have E5 := Lib.hid (k5.held (by omega) E4.out)
    clear h5 k5
    have HX5 := Lib.hid hR
    obtain rfl := hv
    clear hR
    go_wp2_with ((with_reducible show wpList _ _ _ (Oper.mk none (Op.store 9 _ _) _ _ _ none :: _) _ _); refine wpList_store_cell rfl rfl 9 _ _ rfl w2.heap.size 4 _ (.string ⟨x5.toArray⟩) rfl rfl E5.out (by simp) (by kernel_rfl) rfl ?_; intro w6 hU; have H6 := Lib.hid (H5.out.setC H.out (by omega) hU); have K6 := Lib.hid (K5.out.setC (by omega) hU); have hs6 := K6.out.size; have hm6 := Nat.le_of_eq hU.size.symm; have Z6 := Lib.hid (hU.held (by omega) Z5.out); have E6 := Lib.hid (show w6.heap[w2.heap.size]? = some (.cells #[.int .i64 1, .int .i64 0, .int .i64 0, .string ⟨x2.toArray⟩, .string ⟨x5.toArray⟩, .int .i64 0, .int .i64 0, .slice none 0 0, .string ⟨#[]⟩, .int .i64 0, .slice none 0 0, .slice none 0 0, .slice none 0 0] 49 (0, 0)) from hU.at_); clear hU)
    refine (expect_any H6.out [59] (by simp)).mono ?_
    intro e w7 ho
    rcases ho.go with ⟨l, k, hR, rfl, k7⟩ | ⟨x7, ts7, v7, hR, rfl, hv, h7, k7⟩
    · exact ⟨rfl, out_err (Res.fails HR5.out hR) (K6.out.trans k7)⟩
    have HR6 := Lib.hid (Res.behind HR5.out hR)
    have H7 := Lib.hid h7
    have K7 := Lib.hid (K6.out.trans k7)
    have hs7 := K7.out.size
    have hm7 := k7.size
    have Z7 := Lib.hid (k7.held (by omega) Z6.out)
    have E7 := Lib.hid (k7.held (by omega) E6.out)
    clear h7 k7
    have HX7 := Lib.hid hR
    clear hv
    clear hR
    go_wp2_with (first | ((with_reducible show wpList _ _ _ (Oper.mk _ (Op.load 49 _) _ _ _ none :: _) _ _); refine wpList_load_all rfl 49 _ rfl w2.heap.size _ _ rfl E7.out Tryd.underlying49 rfl (by kernel_rfl) ?_) | ((with_reducible show wpList _ _ _ (Oper.mk none (Op.store 49 _ _) _ _ _ none :: _) _ _); refine wpList_store_all rfl rfl 49 _ _ rfl w.heap.size _ (#[.int .i64 1, .int .i64 0, .int .i64 0, .string ⟨x2.toArray⟩, .string ⟨x5.toArray⟩, .int .i64 0, .int .i64 0, .slice none 0 0, .string ⟨#[]⟩, .int .i64 0, .slice none 0 0, .slice none 0 0, .slice none 0 0]) rfl rfl Z7.out rfl (by kernel_rfl) (by simp [Value.oneCell']) ?_; intro U hU))
    (try simp only [Exit.inBlock, Exit.then])
    have hld := ret_all (P := Tryd.prog) 49 w.heap.size _ _ hU.at_ Tryd.underlying49 rfl (by kernel_rfl)
    refine bodyPost_ret (v := .agg #[.int .i64 1, .int .i64 0, .int .i64 0, .string ⟨x2.toArray⟩, .string ⟨x5.toArray⟩, .int .i64 0, .int .i64 0, .slice none 0 0, .string ⟨#[]⟩, .int .i64 0, .slice none 0 0, .slice none 0 0, .slice none 0 0]) (by simp [results, Tryd.results30, Act.put, asAddr, hld]) rfl ?_
    exact out_ok HR6.out.symm (SmIs.mk (A1 := none) (c1 := 0) (A2 := none) (c2 := 0) (A3 := none) (c3 := 0) (A4 := none) (c4 := 0) (ExsIs.nil _ _ _ _ (Nat.zero_le _)) (ExsIs.nil _ _ _ _ (Nat.zero_le _)) (SmsIs.nil _ _ _ _ (Nat.zero_le _)) (SmsIs.nil _ _ _ _ (Nat.zero_le _))) (H7.out.setC H.out (Nat.le_refl _) hU) (K7.out.setC (Nat.le_refl _) hU)
end Go.Proofs.YtpfefjfpnmchcaaDoor
