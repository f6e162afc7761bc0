/-
  What the specification's Begin returns: the memory and the processor that a run begins with. Condition: slices that read as numbers.
-/
import Derived.Test.YtimiofmmhccmmaaDoorIBegin
namespace Go.Proofs.YtimiofmmhccmmaaDoor
open Go.RowKit

theorem cpuC_reg_set {c : Cpu} (h : c.r.length = 16) (j : Nat) (hj : j < 16) (v : Int) : (cpuC c).setIfInBounds j (.int .i64 v) = cpuC ⟨c.r.set j v, c.pc⟩ := by
  apply Array.ext_getElem?
  intro i
  rw [Array.getElem?_setIfInBounds]
  have hs := cpuC_size h
  by_cases hi : j = i
  · subst hi
    rw [if_pos rfl, if_pos (by omega), cpuC_reg (c := ⟨c.r.set j v, c.pc⟩) (by simpa using h) hj]
    simp [List.getD_eq_getElem?_getD, h, hj]
  · rw [if_neg hi]
    simp only [cpuC, List.getElem?_toArray]
    by_cases h2 : i < 16
    · rw [List.getElem?_append_left (by simp; omega), List.getElem?_append_left (by simp; omega)]
      simp [List.getElem?_set_ne hi]
    · rw [List.getElem?_append_right (by simp; omega), List.getElem?_append_right (by simp; omega)]
      simp
theorem build_cpu (entry : Int) (w : World) : (Instr.build 35 #[(1, .int .i64 entry)]).run Tryd.prog w = .ok (.agg (cpuC ⟨List.replicate 16 0, entry⟩)) w := by kernel_rfl
/-- The registers, some arguments laid. -/
def regsA (args : List Int) (k : Int) (i : Nat) : List Int := (0 :: args.take i ++ List.replicate (15 - i) 0).set 14 k
theorem regsA_len (args : List Int) (k : Int) (i : Nat) (h4 : args.length ≤ 4) (hi : i ≤ args.length) : (regsA args k i).length = 16 := by simp [regsA]; omega
theorem regsA_step (args : List Int) (k : Int) (i : Nat) (h4 : args.length ≤ 4) (hi : i < args.length) : (regsA args k i).set (1 + i) (args.getD i 0) = regsA args k (i + 1) := by
  match args, h4, i, hi with
  | [_], _, 0, _ => rfl
  | [_, _], _, 0, _ => rfl
  | [_, _], _, 1, _ => rfl
  | [_, _, _], _, 0, _ => rfl
  | [_, _, _], _, 1, _ => rfl
  | [_, _, _], _, 2, _ => rfl
  | [_, _, _, _], _, 0, _ => rfl
  | [_, _, _, _], _, 1, _ => rfl
  | [_, _, _, _], _, 2, _ => rfl
  | [_, _, _, _], _, 3, _ => rfl
  | _ :: _ :: _ :: _ :: _ :: _, h, _, _ => exact absurd h (by simp)
/-- What Begin leaves. -/
def RefBegun (k : Nat) (entry : Int) (l args : List Int) (w : World) (e : Ending) (w' : World) : Prop :=
  e = .returned (.tuple #[.slice (some ⟨w.heap.size + 1, 0, none⟩) (k + 1) (k + 1), .agg (cpuC (cpuB (k + 1) entry args))]) ∧ w'.heap[w.heap.size + 1]? = some (.cells (numsC (mem0 l (k + 1))) 3 (0, 0)) ∧ Below w.heap.size w w'
set_option maxRecDepth 100000 in
set_option maxHeartbeats 2000000 in
theorem refBegin_any (A : Option Addr) (c : Nat) (l : List Int) (k : Nat) (entry : Int) (D : Option Addr) (d : Nat) (args : List Int) (w : World) (hl : Srcs w A l) (ha : Srcs w D args) (hk : l.length + 15 ≤ k) (hk2 : k < 16384) (h4 : args.length ≤ 4) :
    Calls Tryd.prog 40 #[.slice A l.length c, .int .i64 ((k : Int) + 1), .int .i64 entry, .slice D args.length d] w (RefBegun k entry l args w) := by
  have HL := Lib.hid hl
  have HA := Lib.hid ha
  clear hl ha
  obtain ⟨i0, hi, hz0, hz1, hz2⟩ := info_parts int_info
  have hmk := Lib.hid (show (Instr.makeSlice 44 (.int .i64 ((k : Int) + 1)) (.int .i64 ((k : Int) + 1))).run Tryd.prog (w.alloc (.cells (cpuC cpu0) 35)) = .ok (.slice (some ⟨(w.heap.size + 1), 0, none⟩) (k + 1) (k + 1)) ((w.alloc (.cells (cpuC cpu0) 35)).alloc (.cells (numsC (List.replicate (k + 1) 0)) 3)) by
    have := run_make (P := Tryd.prog) (w.alloc (.cells (cpuC cpu0) 35)) 44 3 i0 (.int .i64 0) Tryd.underlying44 hi hz0 .i64 .i64 ((k : Int) + 1) ((k : Int) + 1) (by omega) (by omega) (by rw [hz2]; omega) (by omega)
    rw [hz1, show ((k : Int) + 1).toNat = k + 1 by omega, made_nums, show (w.alloc (.cells (cpuC cpu0) 35)).heap.size = w.heap.size + 1 by simp] at this
    exact this)
  have hbd := Lib.hid (fun W => build_cpu entry W)
  have HR0 := Lib.hid (two_old w (.cells (cpuC cpu0) 35) (.cells (numsC (List.replicate (k + 1) 0)) 3))
  have HM0 := Lib.hid (heap_alloc2_new w (.cells (cpuC cpu0) 35) (.cells (numsC (List.replicate (k + 1) 0)) 3))
  have BW0 := Lib.hid (((Below.refl w.heap.size w).alloc (Nat.le_refl _) (.cells (cpuC cpu0) 35)).alloc (by simp) (.cells (numsC (List.replicate (k + 1) 0)) 3))
  clear hi hz0 hz1 hz2
  go_enter Tryd.func40, Tryd.ntmps40
  go_wp2_with (first | ((with_reducible show wpList _ _ _ (Oper.mk _ (Op.makeSlice _ _ _) _ _ _ none :: _) _ _); refine wpList_make rfl 44 _ _ rfl _ _ hmk.out ?_) | ((with_reducible show wpList _ _ _ (Oper.mk _ (Op.call _) _ _ _ none :: _) _ _); refine wpList_copy_set rfl _ _ 44 44 rfl 3 Tryd.underlying44 (by kernel_rfl) (some ⟨(w.heap.size + 1), 0, none⟩) A (k + 1) (k + 1) l.length c rfl rfl (w.heap.size + 1) 0 (numsC (List.replicate (k + 1) 0)).toList 3 HM0.out (l.map (Value.int .i64)) (by rw [List.length_map]; exact (Nat.min_eq_left (by omega)).symm) (fun h0 => ⟨rfl, HL.out.src _ BW0.out h0⟩) (by simp [numsC]; omega) (by intro v hv; rw [List.mem_map] at hv; obtain ⟨x, _, rfl⟩ := hv; rfl) ?_; intro U1 hU; have HM1 := Lib.hid (hU.at_.trans (congrArg (fun z => some (Obj.cells z 3 (0, 0))) (words_in l (k + 1)))); have HR1 := Lib.hid ((hU.block w.heap.size (by omega)).trans HR0.out); have BW1 := Lib.hid (BW0.out.setC (by omega) hU); have z1 : U1.heap.size = w.heap.size + 1 + 1 := (by rw [hU.size]; simp); clear hU HM0 HR0 BW0; have Z1 := Lib.hid z1; clear z1) | ((with_reducible show wpList _ _ _ (Oper.mk none (Op.store 3 _ _) _ _ _ none :: _) _ _); refine wpList_store_cell rfl rfl 3 _ _ rfl (w.heap.size + 1) k (numsC (l ++ List.replicate (k + 1 - l.length) 0)) (.int .i64 (-1)) rfl rfl HM1.out (by rw [numsC_size]; simp; omega) (by kernel_rfl) rfl ?_; intro U2 hU; have HM2 := Lib.hid (hU.at_.trans (congrArg (fun z => some (Obj.cells z 3 (0, 0))) (numsC_set _ k (-1)))); have HR2 := Lib.hid ((hU.block w.heap.size (by omega)).trans HR1.out); have BW2 := Lib.hid (BW1.out.setC (by omega) hU); have Z2 := Lib.hid (hU.size.trans Z1.out); clear hU HM1 HR1 BW1 Z1) | ((with_reducible show wpList _ _ _ (Oper.mk _ (Op.build 35 _) _ _ _ none :: _) _ _); refine wpList_build rfl 35 _ _ rfl (.agg (cpuC ⟨List.replicate 16 0, entry⟩)) (hbd.out _) ?_) | ((with_reducible show wpList _ _ _ (Oper.mk none (Op.store 35 _ _) _ _ _ none :: _) _ _); refine wpList_store_all rfl rfl 35 _ _ rfl U2.heap.size _ (cpuC ⟨List.replicate 16 0, entry⟩) rfl rfl (heap_alloc_new _ _) (by kernel_rfl) (by kernel_rfl) (cpuC_one _) ?_; intro U3 hU; have z2 := Z2.out; have HC3 := Lib.hid hU.at_; have HM3 := Lib.hid ((hU.block (w.heap.size + 1) (by omega)).trans ((Below.heap_alloc _ _ _ (by omega)).trans HM2.out)); have HR3 := Lib.hid ((hU.block w.heap.size (by omega)).trans ((Below.heap_alloc _ _ _ (by omega)).trans HR2.out)); have BW3 := Lib.hid ((BW2.out.alloc (by omega) _).setC (by omega) hU); clear hU HM2 HR2 BW2 z2) | ((with_reducible show wpList _ _ _ (Oper.mk none (Op.store 3 _ _) _ _ _ none :: _) _ _); refine wpList_store_cell rfl rfl 3 _ _ rfl U2.heap.size 14 _ (.int .i64 (k : Int)) rfl rfl HC3.out (by rw [cpuC_size (by simp)]; omega) (by kernel_rfl) rfl ?_; intro U4 hU; have z2 := Z2.out; have HC4 := Lib.hid (hU.at_.trans (congrArg (fun z => some (Obj.cells z 35 (0, 0))) (cpuC_reg_set (c := ⟨List.replicate 16 0, entry⟩) (by simp) 14 (by omega) (k : Int)))); have HM4 := Lib.hid ((hU.block (w.heap.size + 1) (by omega)).trans HM3.out); have HR4 := Lib.hid ((hU.block w.heap.size (by omega)).trans HR3.out); have BW4 := Lib.hid (BW3.out.setC (by omega) hU); clear hU HM3 HR3 BW3 HC3 z2))
  obtain ⟨C, hC⟩ : ∃ y, Hid (U2.heap.size = y) := ⟨_, Lib.hid rfl⟩
  rw [hC.out] at HC4 ⊢
  have hCz := Lib.hid (hC.out.symm.trans Z2.out)
  have e0 : (⟨(List.replicate 16 0).set 14 (k : Int), entry⟩ : Cpu) = ⟨regsA args k 0, entry⟩ := rfl
  rw [e0] at HC4
  clear e0 hC Z2 hmk hbd
  have hlen := HA.out.len
  unfold maxLen at hlen
  go_loopw [31] (fun s wr => ∃ i : Nat, i ≤ args.length ∧ s = .int .i64 i ∧ wr.heap[C]? = some (.cells (cpuC ⟨regsA args k i, entry⟩) 35 (0, 0)) ∧ wr.heap[(w.heap.size + 1)]? = some (.cells (numsC (mem0 l (k + 1))) 3 (0, 0)) ∧ wr.heap[w.heap.size]? = some (.cells (cpuC cpu0) 35 (0, 0)) ∧ Below w.heap.size w wr) (fun s _ => args.length - (intOf s).toNat)
  case atStart => exact ⟨0, by omega, rfl, HC4.out, HM4.out, HR4.out, BW4.out⟩
  case round =>
    obtain ⟨i, hi, rfl, hC5, hM5, hR5, hB5⟩ := hrel
    have HC5 := Lib.hid hC5
    have HM5 := Lib.hid hM5
    have HR5 := Lib.hid hR5
    have HB5 := Lib.hid hB5
    clear hC5 hM5 hR5 hB5
    by_cases hlt : i < args.length
    · obtain ⟨ad, rfl, hcell⟩ := HA.out.src _ HB5.out (by rw [List.length_map]; omega)
      obtain ⟨v, hv⟩ : ∃ v, Hid (args.getD i 0 = v) := ⟨_, rfl⟩
      have cv := hcell i (.int .i64 v) (by rw [List.getElem?_map, ← hv.out]; simp [List.getD_eq_getElem?_getD, hlt])
      have hi4 : i < 4 := by omega
      have hn1 : (1 + (i : Int)).toNat = 1 + i := by omega
      have rl := Lib.hid (regsA_len args k i h4 hi)
      have rs := Lib.hid (regsA_step args k i h4 hlt)
      rw [hv.out] at rs
      have HK := Lib.hid (And.intro hk (And.intro hk2 h4))
      clear hcell hv hk hk2 h4
      go_wp2_with ((with_reducible show wpList _ _ _ (Oper.mk none (Op.store 3 _ _) _ _ _ none :: _) _ _); refine wpList_store_cell rfl rfl 3 _ _ rfl C (1 + i) _ (.int .i64 v) rfl rfl HC5.out (by rw [cpuC_size rl.out]; omega) (by kernel_rfl) rfl ?_; intro U6 hU)
      have HC6 := Lib.hid (hU.at_.trans (congrArg (fun z => some (Obj.cells z 35 (0, 0))) ((cpuC_reg_set (c := ⟨regsA args k i, entry⟩) rl.out (1 + i) (by omega) v).trans (by rw [rs.out]))))
      have HM6 := Lib.hid ((hU.block (w.heap.size + 1) (by have := hCz.out; omega)).trans HM5.out)
      have HR6 := Lib.hid ((hU.block w.heap.size (by have := hCz.out; omega)).trans HR5.out)
      have HB6 := Lib.hid (HB5.out.setC (by have := hCz.out; omega) hU)
      clear hU cv hn1 rl rs HC5 HM5 HR5 HB5
      go_roundw
      case rel => exact ⟨i + 1, by omega, by go_num, HC6.out, HM6.out, HR6.out, HB6.out⟩
      case measure => simp [intOf]; omega
    · obtain rfl : i = args.length := by omega
      have rl := Lib.hid (cpuC_size (c := ⟨regsA args k args.length, entry⟩) (regsA_len args k args.length h4 (Nat.le_refl _)))
      have hcp := Lib.hid (show cpuC ⟨regsA args k args.length, entry⟩ = cpuC (cpuB (k + 1) entry args) by
        congr 2
        simp only [regsA, List.take_length]
        congr 1
        omega)
      rw [hcp.out] at HC5 rl
      obtain ⟨ps, hps⟩ : ∃ y, Hid (cpuC (cpuB (k + 1) entry args) = y) := ⟨_, rfl⟩
      have one := Lib.hid (cpuC_one (cpuB (k + 1) entry args))
      rw [hps.out] at HC5 rl one
      have hne : C ≠ w.heap.size := by have := hCz.out; omega
      clear hi hcp
      go_wp2_with fail
      refine wp_region_held_drew (S := fun w_ => w_.heap[C]? = some (.cells ps 35 (0, 0))) (by kernel_rfl) HC5.out (fun hHeld => ?_)
      clear hHeld
      have HS := Lib.hid (show wr.drew.heap[C]? = _ from HC5.out)
      have HMn := Lib.hid (show wr.drew.heap[(w.heap.size + 1)]? = _ from HM5.out)
      have HRn := Lib.hid (show wr.drew.heap[w.heap.size]? = _ from HR5.out)
      have HBn := Lib.hid HB5.out.drew
      clear HC5 HM5 HR5 HB5
      obtain ⟨V, hV⟩ : ∃ V, Hid (wr.drew = V) := ⟨_, Lib.hid rfl⟩
      rw [hV.out] at HS HMn HRn HBn ⊢
      clear hV
      refine wpAnyH_take (i := 0) (v := ?_) rfl (by kernel_rfl) (by kernel_rfl) (by kernel_rfl) (fun _ _ _ h => h) (Or.inl ⟨by rfl, ?_⟩) HS.out ?_
      rotate_left 1
      · intro w_ hSw
        clear hSw
        (go_simp) <;> (with_reducible rfl)
      (try simp only [Act.put, List.getElem_toArray, List.getElem_cons_zero, List.setIfInBounds_toArray, List.set_cons_zero, List.set_cons_succ])
      refine wpAnyH_take (i := 1) (v := .agg ps) rfl (by kernel_rfl) (by kernel_rfl) (by kernel_rfl) (fun _ _ _ h => h) (Or.inl ⟨by rfl, fun W_ hW => exec_load_all 35 _ rfl C ps _ rfl hW Tryd.underlying35 rfl (by rw [rl.out]; kernel_rfl)⟩) HS.out ?_
      (try simp only [Act.put, List.getElem_toArray, List.getElem_cons_zero, List.getElem_cons_succ, List.setIfInBounds_toArray, List.set_cons_zero, List.set_cons_succ])
      refine wpAnyH_take (i := 2) (v := ?_) rfl (by kernel_rfl) (by kernel_rfl) (by kernel_rfl) (fun _ _ _ h => h) (Or.inl ⟨by rfl, ?_⟩) HS.out ?_
      rotate_left 1
      · intro w_ hSw
        clear hSw
        (go_simp) <;> (with_reducible rfl)
      (try simp only [Act.put, List.getElem_toArray, List.getElem_cons_zero, List.getElem_cons_succ, List.setIfInBounds_toArray, List.set_cons_zero, List.set_cons_succ])
      refine wpAnyH_ready (rs := [3]) (by kernel_rfl) (by simp) (AllReadyH.cons (i := 3) rfl (fun K_ hK => ?_) AllReadyH.nil)
      rw [if_pos (by rfl)]
      refine wp_store_all 35 _ _ rfl w.heap.size _ ps rfl rfl HRn.out (by rw [rl.out]; rfl) (by rw [rl.out]; kernel_rfl) one.out ?_
      intro E hE
      refine hK.out _ _ ((hE.block C hne).trans HS.out) (fun _ => ?_)
      clear hK K_
      (try simp only [Act.put, List.getElem_toArray, List.getElem_cons_zero, List.getElem_cons_succ])
      refine wpAnyH_done (by kernel_rfl) ?_ _
      go_wp2_with fail
      (try simp only [Exit.inBlock, Exit.then])
      have hld := ret_all (P := Tryd.prog) 35 w.heap.size _ _ hE.at_ Tryd.underlying35 rfl (by rw [rl.out]; kernel_rfl)
      refine bodyPost_ret (v := .tuple #[.slice (some ⟨(w.heap.size + 1), 0, none⟩) (k + 1) (k + 1), .agg ps]) (by simp [results, Tryd.results40, asAddr, hld]) rfl ?_
      exact ⟨by rw [hps.out], (hE.block (w.heap.size + 1) (by omega)).trans HMn.out, HBn.out.setC (Nat.le_refl _) hE⟩
end Go.Proofs.YtimiofmmhccmmaaDoor
