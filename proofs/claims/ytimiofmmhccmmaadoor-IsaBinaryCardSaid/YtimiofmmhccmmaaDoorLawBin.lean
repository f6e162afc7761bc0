/-
  IsaBinary: the twelve operations are the interpreter's. Condition: the program's functions (see XIsaC).
-/
import Derived.Test.YtimiofmmhccmmaaDoorLawCalls
import Derived.Test.YtimiofmmhccmmaaDoorBin
namespace Go.Proofs.YtimiofmmhccmmaaDoor
open Go.RowKit

/-- The operation's effect. -/
theorem bin_then (k r a b : Int) (k0 : 0 ≤ k) (k1 : k < 12) (r0 : 0 ≤ r) (r1 : r < 12) : ∃ p : Eff, exV ⟨[0, 0, 0, 0, 0, 0, 0, 0, 0, 0, 0, 0, 0, a, b, 0], 5⟩ ⟨6 + k, r, 13, 14, 0⟩ 0 = p ∧ exE ⟨6 + k, r, 13, 14, 0⟩ = 0 ∧ p.cpu.r = ([0, 0, 0, 0, 0, 0, 0, 0, 0, 0, 0, 0, 0, a, b, 0] : List Int).set r.toNat (opv k a b) ∧ p.cpu.pc = 6 ∧ p.stores = false ∧ p.prints = false := by
  have he : encE ⟨6 + k, r, 13, 14, 0⟩ = 0 := of_ok ⟨by show 1 ≤ 6 + k ∧ 6 + k < 26; omega, by show 0 ≤ r ∧ r < 16; omega, (by decide : (0 : Int) ≤ 13 ∧ (13 : Int) < 16), (by decide : (0 : Int) ≤ 14 ∧ (14 : Int) < 16), (by decide : (-2147483648 : Int) ≤ 0 ∧ (0 : Int) < 2147483648)⟩
  have h2 : (⟨6 + k, r, 13, 14, 0⟩ : Ins).op ≠ 2 := by show 6 + k ≠ 2; omega
  refine ⟨_, exV_yes _ 0 he h2, exE_yes he h2, ?_⟩
  rw [exec_bin _ _ _ (by show 6 ≤ 6 + k; omega) (by show 6 + k ≤ 17; omega)]
  refine ⟨?_, wrap64_id (x := 5 + 1) ⟨by decide, by decide⟩, rfl, rfl⟩
  show List.set _ _ (opv (6 + k - 6) a b) = _
  rw [show 6 + k - 6 = k by omega]
set_option maxRecDepth 100000 in
set_option maxHeartbeats 4000000 in
theorem isaBinary_any (a b op x : Int) (ha : I64 a) (hb : I64 b) (hop : I64 op) (hx : I64 x) (w : World) (hw : VarsAt w) : Calls Tryd.prog 7 #[.int .i64 a, .int .i64 b, .int .i64 op, .int .i64 x] w (Right w) := by
  obtain ⟨k, hk⟩ : ∃ y, Hid (op % 12 = y) := ⟨_, rfl⟩
  obtain ⟨r, hr⟩ : ∃ y, Hid (x % 12 = y) := ⟨_, rfl⟩
  have k0 : 0 ≤ k := by rw [← hk.out]; exact Int.emod_nonneg _ (by decide)
  have k1 : k < 12 := by rw [← hk.out]; exact Int.emod_lt_of_pos _ (by decide)
  have r0 : 0 ≤ r := by rw [← hr.out]; exact Int.emod_nonneg _ (by decide)
  have r1 : r < 12 := by rw [← hr.out]; exact Int.emod_lt_of_pos _ (by decide)
  obtain ⟨p, hp, hpE, hp1, hp2, hp3, hp4⟩ := bin_then k r a b k0 k1 r0 r1
  have hcf : Cpu.Fits ⟨[0, 0, 0, 0, 0, 0, 0, 0, 0, 0, 0, 0, 0, a, b, 0], 5⟩ := ⟨rfl, fun n => by
    match n with
    | 13 => exact ha
    | 14 => exact hb
    | 0 | 1 | 2 | 3 | 4 | 5 | 6 | 7 | 8 | 9 | 10 | 11 | 12 | 15 => exact z64
    | n + 16 => exact z64, (⟨by decide, by decide⟩ : I64 5)⟩
  have hif : Ins.Fits ⟨6 + k, r, 13, 14, 0⟩ := ⟨⟨by show _ ≤ 6 + k; omega, by show 6 + k < _; omega⟩, ⟨by show _ ≤ r; omega, by show r < _; omega⟩, (⟨by decide, by decide⟩ : I64 13), (⟨by decide, by decide⟩ : I64 14), z64⟩
  obtain ⟨hop0, hop1⟩ := hop
  obtain ⟨hx0, hx1⟩ := hx
  obtain ⟨R, rfl⟩ := Int.eq_ofNat_of_zero_le r0
  obtain ⟨v, hv⟩ : ∃ y, Hid (opv k a b = y) := ⟨_, rfl⟩
  have K2 := Lib.hid (fun W : World => refBinary_any k a b k0 (by omega) ha hb W)
  rw [hv.out] at hp1 K2
  have plen : p.cpu.r.length = 16 := by rw [hp1]; simp
  have cP : ∀ n : Nat, n < 16 → (effC p)[n]? = some (.int .i64 (if n = R then v else ([0, 0, 0, 0, 0, 0, 0, 0, 0, 0, 0, 0, 0, a, b, 0] : List Int).getD n 0)) := fun n hn => by
    rw [effC_reg p plen n hn, hp1, Int.toNat_natCast]
    congr 2
    by_cases h : n = R
    · subst h
      rw [if_pos rfl]
      simp [List.getD_eq_getElem?_getD, hn]
    · rw [if_neg h]
      simp [List.getD_eq_getElem?_getD, List.getElem?_set_ne (Ne.symm h)]
  have kP16 := Lib.hid (effC_at16 p plen)
  have kP17 := Lib.hid (effC_at17 p plen).1
  have kP20 := Lib.hid (effC_at20 p plen).1
  rw [hp2] at kP16
  rw [hp3] at kP17
  rw [hp4] at kP20
  have sP := Lib.hid (effC_size plen)
  have oP := Lib.hid (effC_one p)
  have CP := Lib.hid cP
  obtain ⟨ps, hps⟩ : ∃ x, Hid (effC p = x) := ⟨_, rfl⟩
  obtain ⟨cs, hcs⟩ : ∃ x : Array Value, Hid (#[.int .i64 0, .int .i64 0, .int .i64 0, .int .i64 0, .int .i64 0, .int .i64 0, .int .i64 0, .int .i64 0, .int .i64 0, .int .i64 0, .int .i64 0, .int .i64 0, .int .i64 0, .int .i64 a, .int .i64 b, .int .i64 0, .int .i64 5] = x) := ⟨_, rfl⟩
  have K1 := Lib.hid (show ∀ W : World, Calls Tryd.prog 20 #[.agg cs, insV ⟨6 + k, R, 13, 14, 0⟩, .int .i64 0] W (Gives2 W (.agg ps) (.int .i64 0)) from fun W => by
    have := execute_any ⟨[0, 0, 0, 0, 0, 0, 0, 0, 0, 0, 0, 0, 0, a, b, 0], 5⟩ hcf ⟨6 + k, R, 13, 14, 0⟩ hif 0 W
    rw [hp, hpE, hps.out] at this
    rw [← hcs.out]
    exact this)
  rw [hps.out] at kP16 kP17 kP20 sP oP CP
  have cC := Lib.hid (show ∀ n : Nat, n < 16 → cs[n]? = some (.int .i64 (([0, 0, 0, 0, 0, 0, 0, 0, 0, 0, 0, 0, 0, a, b, 0] : List Int).getD n 0)) from fun n hn => by rw [← hcs.out]; exact cpuC_reg (c := ⟨[0, 0, 0, 0, 0, 0, 0, 0, 0, 0, 0, 0, 0, a, b, 0], 5⟩) (k := n) rfl hn)
  obtain ⟨zs, hzs⟩ : ∃ x : Array Value, Hid (#[.int .i64 0, .int .i64 0, .int .i64 0, .int .i64 0, .int .i64 0, .int .i64 0, .int .i64 0, .int .i64 0, .int .i64 0, .int .i64 0, .int .i64 0, .int .i64 0, .int .i64 0, .int .i64 0, .int .i64 0, .int .i64 0, .int .i64 5] = x) := ⟨_, rfl⟩
  have kb : ∀ W : World, (Instr.build 35 #[(1, .int .i64 5)]).run Tryd.prog W = .ok (.agg zs) W := fun W => by rw [← hzs.out]; kernel_rfl
  have zsz := Lib.hid (show zs.size = 17 by rw [← hzs.out]; rfl)
  have zone := Lib.hid (show zs.all (·.oneCell') = true by rw [← hzs.out]; simp [Value.oneCell'])
  have hcur := Lib.hid (show (zs.setIfInBounds 13 (.int .i64 a)).setIfInBounds 14 (.int .i64 b) = cs by rw [← hzs.out, ← hcs.out]; rfl)
  have nc := Lib.hid (show cs.size = 17 by rw [← hcs.out]; rfl)
  clear hcs hzs
  clear hp hpE hp1 hp2 hp3 hp4 hcf hif plen cP hps hv ha hb
  go_enter Tryd.func7, Tryd.ntmps7
  go_wp2_with fail
  refine (modb_any op 12 _ hop1 (by decide) (by decide) k hk).mono ?_
  rintro e w' ⟨rfl, rfl⟩
  go_wp2_with fail
  refine (modb_any x 12 _ hx1 (by decide) (by decide) R hr).mono ?_
  rintro e w' ⟨rfl, rfl⟩
  clear hk hr hop0 hop1 hx0 hx1
  go_wp2_with (first | ((with_reducible show wpList _ _ _ (Oper.mk _ (Op.build 35 _) _ _ _ _ :: _) _ _); refine wpList_build rfl 35 _ _ rfl (.agg zs) (kb _) ?_) | ((with_reducible show wpList _ _ _ (Oper.mk none (Op.store 35 _ _) _ _ _ _ :: _) _ _); refine wpList_store_all rfl rfl 35 _ _ rfl w.heap.size _ zs rfl rfl (heap_alloc_new _ _) (by rw [zsz.out]; rfl) (by rw [zsz.out]; kernel_rfl) zone.out ?_; intro U hU; have EC := Lib.hid hU.at_; have BC := Lib.hid (((Below.refl w.heap.size w).alloc (Nat.le_refl _) _).setC (Nat.le_refl _) hU); have sz := Lib.hid (hU.size.trans (show (w.alloc _).heap.size = w.heap.size + 1 by simp)); clear hU) | ((with_reducible show wpList _ _ _ (Oper.mk none (Op.store 3 _ _) _ _ _ _ :: _) _ _); refine wpList_store_cell rfl rfl 3 _ _ rfl w.heap.size _ _ _ rfl rfl EC.out (by have := zsz.out; (try simp only [Array.size_setIfInBounds]); omega) (by kernel_rfl) rfl ?_; intro U hU; have EN := Lib.hid hU.at_; have BN := Lib.hid (BC.out.setC (Nat.le_refl _) hU); have SN := Lib.hid (hU.size.trans sz.out); clear EC BC sz hU; have EC := EN; have BC := BN; have sz := SN; clear EN BN SN) | ((with_reducible show wpList _ _ _ (Oper.mk _ (Op.load 35 _) _ _ _ _ :: _) _ _); refine wpList_load_all rfl 35 _ rfl w.heap.size cs _ rfl (EC.out.trans (congrArg (fun z => some (Obj.cells z 35 (0, 0))) hcur.out)) Tryd.underlying35 rfl (by rw [nc.out]; kernel_rfl) ?_))
  refine (K1.out _).mono ?_
  rintro e w1 ⟨rfl, hb1⟩
  have hzU := sz.out
  have A1 := Lib.hid ((hb1.block w.heap.size (by rw [hzU]; omega)).trans (EC.out.trans (congrArg (fun z => some (Obj.cells z 35 (0, 0))) hcur.out)))
  have HB1 := Lib.hid (BC.out.trans (hb1.mono (by rw [hzU]; omega)))
  have hz1 : w.heap.size < w1.heap.size := by have := hb1.size; omega
  clear hb1 EC BC sz hzU kb zsz zone hcur
  go_wp2_with (first | ((with_reducible show wpList _ _ _ (Oper.mk none (Op.store 40 _ _) _ _ _ _ :: _) _ _); refine wpList_store_all rfl rfl 40 _ _ rfl w1.heap.size _ ps rfl rfl (heap_alloc_new _ _) (by rw [sP.out]; rfl) (by rw [sP.out]; kernel_rfl) oP.out ?_; intro V hV; have P2 := Lib.hid hV.at_; have A2 := Lib.hid ((hV.block _ (Nat.ne_of_lt hz1)).trans ((Below.heap_alloc _ _ _ hz1).trans A1.out)); have HV := Lib.hid ((HB1.out.alloc (Nat.le_of_lt hz1) _).setC (Nat.le_of_lt hz1) hV); clear hV A1 HB1) | (go_at_call 27; refine (K2.out _).mono ?_; rintro e w2 ⟨rfl, rfl⟩))
  go_loop [15] (fun i => ∃ n : Nat, n ≤ 16 ∧ i = .int .i64 n) (fun i => 16 - (intOf i).toNat)
  case atStart => exact ⟨0, by omega, rfl⟩
  case round =>
    obtain ⟨n, hn, rfl⟩ := hrel
    by_cases hlt : n < 16
    · have m1 := (cell_of_row _ _ n _ _ _ A2.out).trans (cC.out n hlt)
      have m2 := (cell_of_row _ _ n _ _ _ P2.out).trans (CP.out n hlt)
      obtain ⟨u, hu⟩ : ∃ u, Hid (([0, 0, 0, 0, 0, 0, 0, 0, 0, 0, 0, 0, 0, a, b, 0] : List Int).getD n 0 = u) := ⟨_, rfl⟩
      rw [hu.out] at m1 m2
      clear hu
      by_cases hR : n = R
      · rw [if_pos hR] at m2
        have hE : ((n : Int) == (R : Int)) = true := by rw [hR]; simp
        have HR := Lib.hid hR
        clear hR
        go_wp2
        go_round
        case rel => exact ⟨n + 1, by omega, by go_num⟩
        case measure => simp [intOf]; omega
      · rw [if_neg hR] at m2
        have hE : ((n : Int) == (R : Int)) = false := by
          rw [beq_eq_false_iff_ne]
          exact fun h => hR (by omega)
        have HR := Lib.hid hR
        clear hR
        go_wp2
        go_round
        case rel => exact ⟨n + 1, by omega, by go_num⟩
        case measure => simp [intOf]; omega
    · obtain rfl : n = 16 := by omega
      have m5 := (cell_of_row _ _ 16 _ _ _ P2.out).trans kP16.out
      have m6 := (cell_of_row _ _ 17 _ _ _ P2.out).trans kP17.out
      have m7 := (cell_of_row _ _ 20 _ _ _ P2.out).trans kP20.out
      clear hlt
      go_wp2_with (go_at_call 16; refine (known_any _ (hw.below HV.out)).mono ?_; rintro e w6 ⟨rfl, hb6⟩)
      go_ret
      exact ⟨rfl, HV.out.trans (hb6.mono HV.out.size)⟩
end Go.Proofs.YtimiofmmhccmmaaDoor
