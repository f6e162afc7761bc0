/-
  IsaExecutes: any instruction reads and does what is specified. Condition: the program's functions (see XIsaC).
-/
import Derived.Test.YtimiofmmhccmmaaDoorLawCalls
import Derived.Test.YtimiofmmhccmmaaDoorExLen
import Derived.Deep.RegionHeld3
namespace Go.Proofs.YtimiofmmhccmmaaDoor
open Go.RowKit

theorem six_alloc {w1 : World} {n : Nat} {i0 i1 i2 i3 i4 : Int} {cs : Array Value} {T : TypeId} (o : Obj) (hz : n + 1 < w1.heap.size) (h : w1.cell? ⟨n + 1, 0, none⟩ = some (.int .i64 i0) ∧ w1.cell? ⟨n + 1, 1, none⟩ = some (.int .i64 i1) ∧ w1.cell? ⟨n + 1, 2, none⟩ = some (.int .i64 i2) ∧ w1.cell? ⟨n + 1, 3, none⟩ = some (.int .i64 i3) ∧ w1.cell? ⟨n + 1, 4, none⟩ = some (.int .i64 i4) ∧ w1.heap[n]? = some (.cells cs T (0, 0))) : (w1.alloc o).cell? ⟨n + 1, 0, none⟩ = some (.int .i64 i0) ∧ (w1.alloc o).cell? ⟨n + 1, 1, none⟩ = some (.int .i64 i1) ∧ (w1.alloc o).cell? ⟨n + 1, 2, none⟩ = some (.int .i64 i2) ∧ (w1.alloc o).cell? ⟨n + 1, 3, none⟩ = some (.int .i64 i3) ∧ (w1.alloc o).cell? ⟨n + 1, 4, none⟩ = some (.int .i64 i4) ∧ (w1.alloc o).heap[n]? = some (.cells cs T (0, 0)) :=
  have e : (w1.alloc o).heap[n + 1]? = w1.heap[n + 1]? := Below.heap_alloc w1 o (n + 1) hz
  ⟨(World.cell?_of_block (w := w1) e).trans h.1, (World.cell?_of_block (w := w1) e).trans h.2.1, (World.cell?_of_block (w := w1) e).trans h.2.2.1, (World.cell?_of_block (w := w1) e).trans h.2.2.2.1, (World.cell?_of_block (w := w1) e).trans h.2.2.2.2.1, (Below.heap_alloc w1 o n (by omega)).trans h.2.2.2.2.2⟩
/-- What the four calls at an instruction give, in the words of the cells. -/
structure Four (cs ps : Array Value) (x : Ins) (ld ra : Int) (rb : Bool) (ee : Int) : Prop where
  r1 : ∀ W : World, Calls Tryd.prog 18 #[.agg cs, insV x] W (GivesB W ra rb)
  r2 : ∀ W : World, Calls Tryd.prog 19 #[.agg cs, insV x] W (GivesB W ra rb)
  x1 : ∀ W : World, Calls Tryd.prog 20 #[.agg cs, insV x, .int .i64 ld] W (Gives2 W (.agg ps) (.int .i64 ee))
  x2 : ∀ W : World, Calls Tryd.prog 21 #[.agg cs, insV x, .int .i64 ld] W (Gives2 W (.agg ps) (.int .i64 ee))
  size : ps.size = 22
  one : ps.all (·.oneCell') = true
  eql : ∀ W : World, (Op.equalIn 10000 40 (.agg ps) (.agg ps)).run Tryd.prog W = .ok true W
theorem four_of (c : Cpu) (hc : c.Fits) (x : Ins) (hx : x.Fits) (ld : Int) : Four (cpuC c) (effC (exV c x ld)) x ld (readsA c x) (readsB x) (exE x) :=
  have hl := exV_len c x ld hc.len
  ⟨reads_any c hc x hx, refReads_any c hc x hx, execute_any c hc x hx ld, refExecute_any c hc x hx ld, effC_size hl, effC_one _, eql_eff hl⟩

set_option maxRecDepth 100000 in
set_option maxHeartbeats 4000000 in
theorem isaExecutes_any (c : Cpu) (hc : c.Fits) (i : Ins) (hi : i.Fits) (ld : Int) (w : World) (hw : VarsAt w) : Calls Tryd.prog 5 #[.agg (cpuC c), insV i, .int .i64 ld] w (Right w) := by
  obtain ⟨pa, hpa⟩ : ∃ x, Hid (effC (exV c i ld) = x) := ⟨_, rfl⟩
  obtain ⟨pb, hpb⟩ : ∃ x, Hid (effC (exV c (nearP i) ld) = x) := ⟨_, rfl⟩
  have F1 := Lib.hid (four_of c hc i hi ld)
  have F2 := Lib.hid (four_of c hc (nearP i) (nearP_ok i).fits ld)
  have hnear := Lib.hid (near_any i hi)
  rw [hpa.out] at F1
  rw [hpb.out] at F2
  obtain ⟨x, hx⟩ : ∃ x, Hid (nearP i = x) := ⟨_, rfl⟩
  rw [hx.out] at F2 hnear
  have nc := Lib.hid (show (cpuC c).toList.length = 17 by rw [Array.length_toList, cpuC_size hc.len])
  obtain ⟨cs, hcs⟩ : ∃ x, Hid (cpuC c = x) := ⟨_, rfl⟩
  rw [hcs.out] at F1 F2 nc ⊢
  obtain ⟨ra, hra⟩ : ∃ y, Hid (readsA c i = y) := ⟨_, rfl⟩
  obtain ⟨rb, hrb⟩ : ∃ y, Hid (readsB i = y) := ⟨_, rfl⟩
  obtain ⟨ea, hea⟩ : ∃ y, Hid (exE i = y) := ⟨_, rfl⟩
  obtain ⟨sa, hsa⟩ : ∃ y, Hid (readsA c x = y) := ⟨_, rfl⟩
  obtain ⟨sb, hsb⟩ : ∃ y, Hid (readsB x = y) := ⟨_, rfl⟩
  obtain ⟨eb, heb⟩ : ∃ y, Hid (exE x = y) := ⟨_, rfl⟩
  rw [hra.out, hrb.out, hea.out] at F1
  rw [hsa.out, hsb.out, heb.out] at F2
  clear hpa hpb hx hcs hra hrb hea hsa hsb heb hi hc
  obtain ⟨i0, i1, i2, i3, i4⟩ := i
  obtain ⟨x0, x1, x2, x3, x4⟩ := x
  go_enter Tryd.func5, Tryd.ntmps5
  go_wp2_with fail
  have hS : (fun w' => w'.cell? ⟨w.heap.size + 1, 0, none⟩ = some (.int .i64 i0) ∧ w'.cell? ⟨w.heap.size + 1, 1, none⟩ = some (.int .i64 i1) ∧ w'.cell? ⟨w.heap.size + 1, 2, none⟩ = some (.int .i64 i2) ∧ w'.cell? ⟨w.heap.size + 1, 3, none⟩ = some (.int .i64 i3) ∧ w'.cell? ⟨w.heap.size + 1, 4, none⟩ = some (.int .i64 i4) ∧ w'.heap[w.heap.size]? = some (.cells cs 35 (0, 0))) ((w.alloc (.cells cs 35)).alloc (.cells #[.int .i64 i0, .int .i64 i1, .int .i64 i2, .int .i64 i3, .int .i64 i4] 23)) := ⟨cell_of_row _ _ 0 _ _ _ (heap_alloc2_new _ _ _), cell_of_row _ _ 1 _ _ _ (heap_alloc2_new _ _ _), cell_of_row _ _ 2 _ _ _ (heap_alloc2_new _ _ _), cell_of_row _ _ 3 _ _ _ (heap_alloc2_new _ _ _), cell_of_row _ _ 4 _ _ _ (heap_alloc2_new _ _ _), heap_alloc2_old _ _ _⟩
  have hB := Lib.hid (((Below.refl w.heap.size w).alloc (Nat.le_refl _) (.cells cs 35)).alloc (by simp) (.cells #[.int .i64 i0, .int .i64 i1, .int .i64 i2, .int .i64 i3, .int .i64 i4] 23))
  have hz : ((w.alloc (.cells cs 35)).alloc (.cells #[.int .i64 i0, .int .i64 i1, .int .i64 i2, .int .i64 i3, .int .i64 i4] 23)).heap.size = w.heap.size + 1 + 1 := by simp
  obtain ⟨U, hU⟩ : ∃ U, Hid (((w.alloc (.cells cs 35)).alloc (.cells #[.int .i64 i0, .int .i64 i1, .int .i64 i2, .int .i64 i3, .int .i64 i4] 23)) = U) := ⟨_, Lib.hid rfl⟩
  rw [hU.out] at hS hB hz ⊢
  clear hU
  obtain ⟨s0, s1, s2, s3, s4, s5⟩ := id hS
  have G5 := Lib.hid s5
  clear s5
  go_region_held3 (fun w' => w'.cell? ⟨w.heap.size + 1, 0, none⟩ = some (.int .i64 i0) ∧ w'.cell? ⟨w.heap.size + 1, 1, none⟩ = some (.int .i64 i1) ∧ w'.cell? ⟨w.heap.size + 1, 2, none⟩ = some (.int .i64 i2) ∧ w'.cell? ⟨w.heap.size + 1, 3, none⟩ = some (.int .i64 i3) ∧ w'.cell? ⟨w.heap.size + 1, 4, none⟩ = some (.int .i64 i4) ∧ w'.heap[w.heap.size]? = some (.cells cs 35 (0, 0))) (first | assumption | exact six_alloc _ (by assumption) (by assumption)) ((go_at_call 17; refine (hnear.out _).mono ?_; rintro e w1 ⟨rfl, hb1⟩; have hz1 : w.heap.size + 1 < w1.heap.size := (by have := hb1.size; have h2 : U.heap.size ≤ w1.heap.size := this; omega); have hS1 : (fun w' => w'.cell? ⟨w.heap.size + 1, 0, none⟩ = some (.int .i64 i0) ∧ w'.cell? ⟨w.heap.size + 1, 1, none⟩ = some (.int .i64 i1) ∧ w'.cell? ⟨w.heap.size + 1, 2, none⟩ = some (.int .i64 i2) ∧ w'.cell? ⟨w.heap.size + 1, 3, none⟩ = some (.int .i64 i3) ∧ w'.cell? ⟨w.heap.size + 1, 4, none⟩ = some (.int .i64 i4) ∧ w'.heap[w.heap.size]? = some (.cells cs 35 (0, 0))) w1 := ⟨(hb1.cell (by show w.heap.size + 1 < U.heap.size; omega)).trans s0, (hb1.cell (by show w.heap.size + 1 < U.heap.size; omega)).trans s1, (hb1.cell (by show w.heap.size + 1 < U.heap.size; omega)).trans s2, (hb1.cell (by show w.heap.size + 1 < U.heap.size; omega)).trans s3, (hb1.cell (by show w.heap.size + 1 < U.heap.size; omega)).trans s4, (hb1.block w.heap.size (by show w.heap.size < U.heap.size; omega)).trans G5.out⟩))
  have A0 := Lib.hid ((Below.heap_alloc w1 (.cells #[.int .i64 i0, .int .i64 i1, .int .i64 i2, .int .i64 i3, .int .i64 i4, .int .i64 x0, .int .i64 x1, .int .i64 x2, .int .i64 x3, .int .i64 x4] 23) _ (by omega)).trans hS1.2.2.2.2.2)
  have E0 := Lib.hid (heap_alloc_new w1 (.cells #[.int .i64 i0, .int .i64 i1, .int .i64 i2, .int .i64 i3, .int .i64 i4, .int .i64 x0, .int .i64 x1, .int .i64 x2, .int .i64 x3, .int .i64 x4] 23))
  have hbU : Below w.heap.size U w1 := ⟨hb1.os, hb1.tape, hb1.output, hb1.size, fun k hk => hb1.block k (by show k < U.heap.size; omega)⟩
  have HB1 := Lib.hid ((hB.out.trans hbU).alloc (by omega) (.cells #[.int .i64 i0, .int .i64 i1, .int .i64 i2, .int .i64 i3, .int .i64 i4, .int .i64 x0, .int .i64 x1, .int .i64 x2, .int .i64 x3, .int .i64 x4] 23))
  have hzV : w1.heap.size < (w1.alloc (.cells #[.int .i64 i0, .int .i64 i1, .int .i64 i2, .int .i64 i3, .int .i64 i4, .int .i64 x0, .int .i64 x1, .int .i64 x2, .int .i64 x3, .int .i64 x4] 23)).heap.size := by simp
  clear hbU hS s0 s1 s2 s3 s4 G5 hS1 hb1 hB hz
  obtain ⟨V, hV⟩ : ∃ V, Hid (w1.alloc (.cells #[.int .i64 i0, .int .i64 i1, .int .i64 i2, .int .i64 i3, .int .i64 i4, .int .i64 x0, .int .i64 x1, .int .i64 x2, .int .i64 x3, .int .i64 x4] 23) = V) := ⟨_, Lib.hid rfl⟩
  rw [hV.out] at A0 E0 HB1 hzV ⊢
  clear hV
  go_wp2_with fail
  go_loopw [22] (fun i wr => ∃ n : Nat, n ≤ 2 ∧ i = .int .i64 n ∧ Below w.heap.size w wr ∧ wr.heap[w.heap.size]? = some (.cells cs 35 (0, 0)) ∧ wr.heap[w1.heap.size]? = some (.cells #[.int .i64 i0, .int .i64 i1, .int .i64 i2, .int .i64 i3, .int .i64 i4, .int .i64 x0, .int .i64 x1, .int .i64 x2, .int .i64 x3, .int .i64 x4] 23 (0, 0)) ∧ w1.heap.size < wr.heap.size) (fun i _ => 2 - (intOf i).toNat)
  case atStart => exact ⟨0, by omega, rfl, HB1.out, A0.out, E0.out, hzV⟩
  case round =>
    clear HB1 A0 E0 hzV
    obtain ⟨n, hn, rfl, hbel, hA, hE, hzr⟩ := hrel
    have HB := Lib.hid hbel
    have A := Lib.hid hA
    have E := Lib.hid hE
    clear hbel hA hE
    rcases (show n = 0 ∨ n = 1 ∨ n = 2 by omega) with rfl | rfl | rfl
    · have m0 := cell_of_row _ _ 0 _ _ _ E.out
      have m1 := cell_of_row _ _ 1 _ _ _ E.out
      have m2 := cell_of_row _ _ 2 _ _ _ E.out
      have m3 := cell_of_row _ _ 3 _ _ _ E.out
      have m4 := cell_of_row _ _ 4 _ _ _ E.out
      simp only [List.getElem?_toArray, List.getElem?_cons_zero, List.getElem?_cons_succ] at m0 m1 m2 m3 m4
      have A1 := Lib.hid ((Below.heap_alloc wr (.cells #[.int .i64 i0, .int .i64 i1, .int .i64 i2, .int .i64 i3, .int .i64 i4] 23) _ (by omega)).trans A.out)
      have E1 := Lib.hid ((Below.heap_alloc wr (.cells #[.int .i64 i0, .int .i64 i1, .int .i64 i2, .int .i64 i3, .int .i64 i4] 23) _ hzr).trans E.out)
      have X1 := Lib.hid (heap_alloc_new wr (.cells #[.int .i64 i0, .int .i64 i1, .int .i64 i2, .int .i64 i3, .int .i64 i4] 23))
      have HB1 := Lib.hid (HB.out.alloc (by omega) (.cells #[.int .i64 i0, .int .i64 i1, .int .i64 i2, .int .i64 i3, .int .i64 i4] 23))
      have hz2 : wr.heap.size < (wr.alloc (.cells #[.int .i64 i0, .int .i64 i1, .int .i64 i2, .int .i64 i3, .int .i64 i4] 23)).heap.size := by simp
      go_wp2_with ((with_reducible show wpList _ _ _ (Oper.mk _ (Op.load 35 _) _ _ _ _ :: _) _ _); refine wpList_load_part rfl 35 _ rfl (w.heap.size) rfl (cs.toList) _ (range_of A1.out (fun j v h => by rw [← Array.getElem?_toList]; exact h)) Tryd.underlying35 rfl (by rw [nc.out]; kernel_rfl) ?_)
      clear m0 m1 m2 m3 m4 A E HB
      refine (F1.out.r1 _).mono ?_
      rintro e w2 ⟨rfl, hb2⟩
      have A2 := Lib.hid ((hb2.block w.heap.size (by omega)).trans A1.out)
      have E2 := Lib.hid ((hb2.block w1.heap.size (by omega)).trans E1.out)
      have X2 := Lib.hid ((hb2.block wr.heap.size (by omega)).trans X1.out)
      have HB2 := Lib.hid (HB1.out.trans (hb2.mono (by omega)))
      have hz3 : wr.heap.size < w2.heap.size := Nat.lt_of_lt_of_le hz2 hb2.size
      clear hb2 A1 E1 X1 HB1 hz2
      have m0 := cell_of_row _ _ 0 _ _ _ X2.out
      have m1 := cell_of_row _ _ 1 _ _ _ X2.out
      have m2 := cell_of_row _ _ 2 _ _ _ X2.out
      have m3 := cell_of_row _ _ 3 _ _ _ X2.out
      have m4 := cell_of_row _ _ 4 _ _ _ X2.out
      simp only [List.getElem?_toArray, List.getElem?_cons_zero, List.getElem?_cons_succ] at m0 m1 m2 m3 m4
      go_wp2_with ((with_reducible show wpList _ _ _ (Oper.mk _ (Op.load 35 _) _ _ _ _ :: _) _ _); refine wpList_load_part rfl 35 _ rfl (w.heap.size) rfl (cs.toList) _ (range_of A2.out (fun j v h => by rw [← Array.getElem?_toList]; exact h)) Tryd.underlying35 rfl (by rw [nc.out]; kernel_rfl) ?_)
      clear m0 m1 m2 m3 m4
      refine (F1.out.r2 _).mono ?_
      rintro e w3 ⟨rfl, hb3⟩
      have A3 := Lib.hid ((hb3.block w.heap.size (by omega)).trans A2.out)
      have E3 := Lib.hid ((hb3.block w1.heap.size (by omega)).trans E2.out)
      have X3 := Lib.hid ((hb3.block wr.heap.size (by omega)).trans X2.out)
      have HB3 := Lib.hid (HB2.out.trans (hb3.mono (by omega)))
      have hz4 : wr.heap.size < w3.heap.size := Nat.lt_of_lt_of_le hz3 hb3.size
      clear hb3 A2 E2 X2 HB2 hz3
      have m0 := cell_of_row _ _ 0 _ _ _ X3.out
      have m1 := cell_of_row _ _ 1 _ _ _ X3.out
      have m2 := cell_of_row _ _ 2 _ _ _ X3.out
      have m3 := cell_of_row _ _ 3 _ _ _ X3.out
      have m4 := cell_of_row _ _ 4 _ _ _ X3.out
      simp only [List.getElem?_toArray, List.getElem?_cons_zero, List.getElem?_cons_succ] at m0 m1 m2 m3 m4
      go_wp2_with ((with_reducible show wpList _ _ _ (Oper.mk _ (Op.load 35 _) _ _ _ _ :: _) _ _); refine wpList_load_part rfl 35 _ rfl (w.heap.size) rfl (cs.toList) _ (range_of A3.out (fun j v h => by rw [← Array.getElem?_toList]; exact h)) Tryd.underlying35 rfl (by rw [nc.out]; kernel_rfl) ?_)
      clear m0 m1 m2 m3 m4
      refine (F1.out.x1 _).mono ?_
      rintro e w4 ⟨rfl, hb4⟩
      have A4 := Lib.hid ((hb4.block w.heap.size (by omega)).trans A3.out)
      have E4 := Lib.hid ((hb4.block w1.heap.size (by omega)).trans E3.out)
      have X4 := Lib.hid ((hb4.block wr.heap.size (by omega)).trans X3.out)
      have HB4 := Lib.hid (HB3.out.trans (hb4.mono (by omega)))
      have hz5 : wr.heap.size < w4.heap.size := Nat.lt_of_lt_of_le hz4 hb4.size
      clear hb4 A3 E3 X3 HB3 hz4
      have m0 := cell_of_row _ _ 0 _ _ _ X4.out
      have m1 := cell_of_row _ _ 1 _ _ _ X4.out
      have m2 := cell_of_row _ _ 2 _ _ _ X4.out
      have m3 := cell_of_row _ _ 3 _ _ _ X4.out
      have m4 := cell_of_row _ _ 4 _ _ _ X4.out
      simp only [List.getElem?_toArray, List.getElem?_cons_zero, List.getElem?_cons_succ] at m0 m1 m2 m3 m4
      clear m0 m1 m2 m3 m4
      go_wp2_with (first | ((with_reducible show wpList _ _ _ (Oper.mk none (Op.store 40 _ _) _ _ _ _ :: _) _ _); refine wpList_store_all rfl rfl 40 _ _ rfl w4.heap.size _ pa rfl rfl (heap_alloc_new _ _) (by rw [F1.out.size]; rfl) (by rw [F1.out.size]; kernel_rfl) F1.out.one ?_; intro U5 hU; have Y5 := Lib.hid hU.at_; have A5 := Lib.hid ((hU.block _ (by omega)).trans ((Below.heap_alloc _ _ _ (by omega)).trans A4.out)); have E5 := Lib.hid ((hU.block _ (by omega)).trans ((Below.heap_alloc _ _ _ (by omega)).trans E4.out)); have X5 := Lib.hid ((hU.block _ (by omega)).trans ((Below.heap_alloc _ _ _ (by omega)).trans X4.out)); have HB5 := Lib.hid ((HB4.out.alloc (by omega) _).setC (by omega) hU); have hz6 : w4.heap.size < U5.heap.size := (by rw [hU.size]; simp); clear hU; have m0 := (cell_of_row _ _ 0 _ _ _ X5.out); have m1 := (cell_of_row _ _ 1 _ _ _ X5.out); have m2 := (cell_of_row _ _ 2 _ _ _ X5.out); have m3 := (cell_of_row _ _ 3 _ _ _ X5.out); have m4 := (cell_of_row _ _ 4 _ _ _ X5.out); simp only [List.getElem?_toArray, List.getElem?_cons_zero, List.getElem?_cons_succ] at m0 m1 m2 m3 m4) | ((with_reducible show wpList _ _ _ (Oper.mk _ (Op.load 35 _) _ _ _ _ :: _) _ _); refine wpList_load_part rfl 35 _ rfl (w.heap.size) rfl (cs.toList) _ (range_of A5.out (fun j v h => by rw [← Array.getElem?_toList]; exact h)) Tryd.underlying35 rfl (by rw [nc.out]; kernel_rfl) ?_))
      clear m0 m1 m2 m3 m4 A4 E4 X4 HB4
      refine (F1.out.x2 _).mono ?_
      rintro e w6 ⟨rfl, hb6⟩
      have Y6 := Lib.hid ((hb6.block w4.heap.size hz6).trans Y5.out)
      have A6 := Lib.hid ((hb6.block w.heap.size (by omega)).trans A5.out)
      have E6 := Lib.hid ((hb6.block w1.heap.size (by omega)).trans E5.out)
      have X6 := Lib.hid ((hb6.block wr.heap.size (by omega)).trans X5.out)
      have HB6 := Lib.hid (HB5.out.trans (hb6.mono (by omega)))
      have hz7 : w4.heap.size < w6.heap.size := Nat.lt_of_lt_of_le hz6 hb6.size
      have heq := F1.out.eql
      have pl := Lib.hid (show pa.toList.length = 22 by rw [Array.length_toList, F1.out.size])
      clear hb6 A5 E5 X5 Y5 HB5
      go_wp2_with (first | ((with_reducible show wpList _ _ _ (Oper.mk none (Op.store 40 _ _) _ _ _ _ :: _) _ _); refine wpList_store_all rfl rfl 40 _ _ rfl w6.heap.size _ pa rfl rfl (heap_alloc_new _ _) (by rw [F1.out.size]; rfl) (by rw [F1.out.size]; kernel_rfl) F1.out.one ?_; intro U7 hU; have Y7 := Lib.hid hU.at_; have A7 := Lib.hid ((hU.block _ (by omega)).trans ((Below.heap_alloc _ _ _ (by omega)).trans A6.out)); have E7 := Lib.hid ((hU.block _ (by omega)).trans ((Below.heap_alloc _ _ _ (by omega)).trans E6.out)); have X7 := Lib.hid ((hU.block _ (by omega)).trans ((Below.heap_alloc _ _ _ (by omega)).trans X6.out)); have HB7 := Lib.hid ((HB6.out.alloc (by omega) _).setC (by omega) hU); have hz8 : w6.heap.size < U7.heap.size := (by rw [hU.size]; simp); have Z7 := Lib.hid ((hU.block _ (by omega)).trans ((Below.heap_alloc _ _ _ hz7).trans Y6.out)); clear hU) | ((with_reducible show wpList _ _ _ (Oper.mk _ (Op.load 40 _) _ _ _ _ :: _) _ _); refine wpList_load_part rfl 40 _ rfl (w4.heap.size) rfl (pa.toList) _ (range_of Z7.out (fun j v h => by rw [← Array.getElem?_toList]; exact h)) Tryd.underlying40 rfl (by rw [pl.out]; kernel_rfl) ?_) | ((with_reducible show wpList _ _ _ (Oper.mk _ (Op.load 40 _) _ _ _ _ :: _) _ _); refine wpList_load_part rfl 40 _ rfl (w6.heap.size) rfl (pa.toList) _ (range_of Y7.out (fun j v h => by rw [← Array.getElem?_toList]; exact h)) Tryd.underlying40 rfl (by rw [pl.out]; kernel_rfl) ?_))
      go_roundw
      case rel => exact ⟨1, by omega, rfl, HB7.out, A7.out, E7.out, by omega⟩
      case measure => simp [intOf]
    · have m0 := cell_of_row _ _ 5 _ _ _ E.out
      have m1 := cell_of_row _ _ 6 _ _ _ E.out
      have m2 := cell_of_row _ _ 7 _ _ _ E.out
      have m3 := cell_of_row _ _ 8 _ _ _ E.out
      have m4 := cell_of_row _ _ 9 _ _ _ E.out
      simp only [List.getElem?_toArray, List.getElem?_cons_zero, List.getElem?_cons_succ] at m0 m1 m2 m3 m4
      have A1 := Lib.hid ((Below.heap_alloc wr (.cells #[.int .i64 x0, .int .i64 x1, .int .i64 x2, .int .i64 x3, .int .i64 x4] 23) _ (by omega)).trans A.out)
      have E1 := Lib.hid ((Below.heap_alloc wr (.cells #[.int .i64 x0, .int .i64 x1, .int .i64 x2, .int .i64 x3, .int .i64 x4] 23) _ hzr).trans E.out)
      have X1 := Lib.hid (heap_alloc_new wr (.cells #[.int .i64 x0, .int .i64 x1, .int .i64 x2, .int .i64 x3, .int .i64 x4] 23))
      have HB1 := Lib.hid (HB.out.alloc (by omega) (.cells #[.int .i64 x0, .int .i64 x1, .int .i64 x2, .int .i64 x3, .int .i64 x4] 23))
      have hz2 : wr.heap.size < (wr.alloc (.cells #[.int .i64 x0, .int .i64 x1, .int .i64 x2, .int .i64 x3, .int .i64 x4] 23)).heap.size := by simp
      go_wp2_with ((with_reducible show wpList _ _ _ (Oper.mk _ (Op.load 35 _) _ _ _ _ :: _) _ _); refine wpList_load_part rfl 35 _ rfl (w.heap.size) rfl (cs.toList) _ (range_of A1.out (fun j v h => by rw [← Array.getElem?_toList]; exact h)) Tryd.underlying35 rfl (by rw [nc.out]; kernel_rfl) ?_)
      clear m0 m1 m2 m3 m4 A E HB
      refine (F2.out.r1 _).mono ?_
      rintro e w2 ⟨rfl, hb2⟩
      have A2 := Lib.hid ((hb2.block w.heap.size (by omega)).trans A1.out)
      have E2 := Lib.hid ((hb2.block w1.heap.size (by omega)).trans E1.out)
      have X2 := Lib.hid ((hb2.block wr.heap.size (by omega)).trans X1.out)
      have HB2 := Lib.hid (HB1.out.trans (hb2.mono (by omega)))
      have hz3 : wr.heap.size < w2.heap.size := Nat.lt_of_lt_of_le hz2 hb2.size
      clear hb2 A1 E1 X1 HB1 hz2
      have m0 := cell_of_row _ _ 0 _ _ _ X2.out
      have m1 := cell_of_row _ _ 1 _ _ _ X2.out
      have m2 := cell_of_row _ _ 2 _ _ _ X2.out
      have m3 := cell_of_row _ _ 3 _ _ _ X2.out
      have m4 := cell_of_row _ _ 4 _ _ _ X2.out
      simp only [List.getElem?_toArray, List.getElem?_cons_zero, List.getElem?_cons_succ] at m0 m1 m2 m3 m4
      go_wp2_with ((with_reducible show wpList _ _ _ (Oper.mk _ (Op.load 35 _) _ _ _ _ :: _) _ _); refine wpList_load_part rfl 35 _ rfl (w.heap.size) rfl (cs.toList) _ (range_of A2.out (fun j v h => by rw [← Array.getElem?_toList]; exact h)) Tryd.underlying35 rfl (by rw [nc.out]; kernel_rfl) ?_)
      clear m0 m1 m2 m3 m4
      refine (F2.out.r2 _).mono ?_
      rintro e w3 ⟨rfl, hb3⟩
      have A3 := Lib.hid ((hb3.block w.heap.size (by omega)).trans A2.out)
      have E3 := Lib.hid ((hb3.block w1.heap.size (by omega)).trans E2.out)
      have X3 := Lib.hid ((hb3.block wr.heap.size (by omega)).trans X2.out)
      have HB3 := Lib.hid (HB2.out.trans (hb3.mono (by omega)))
      have hz4 : wr.heap.size < w3.heap.size := Nat.lt_of_lt_of_le hz3 hb3.size
      clear hb3 A2 E2 X2 HB2 hz3
      have m0 := cell_of_row _ _ 0 _ _ _ X3.out
      have m1 := cell_of_row _ _ 1 _ _ _ X3.out
      have m2 := cell_of_row _ _ 2 _ _ _ X3.out
      have m3 := cell_of_row _ _ 3 _ _ _ X3.out
      have m4 := cell_of_row _ _ 4 _ _ _ X3.out
      simp only [List.getElem?_toArray, List.getElem?_cons_zero, List.getElem?_cons_succ] at m0 m1 m2 m3 m4
      go_wp2_with ((with_reducible show wpList _ _ _ (Oper.mk _ (Op.load 35 _) _ _ _ _ :: _) _ _); refine wpList_load_part rfl 35 _ rfl (w.heap.size) rfl (cs.toList) _ (range_of A3.out (fun j v h => by rw [← Array.getElem?_toList]; exact h)) Tryd.underlying35 rfl (by rw [nc.out]; kernel_rfl) ?_)
      clear m0 m1 m2 m3 m4
      refine (F2.out.x1 _).mono ?_
      rintro e w4 ⟨rfl, hb4⟩
      have A4 := Lib.hid ((hb4.block w.heap.size (by omega)).trans A3.out)
      have E4 := Lib.hid ((hb4.block w1.heap.size (by omega)).trans E3.out)
      have X4 := Lib.hid ((hb4.block wr.heap.size (by omega)).trans X3.out)
      have HB4 := Lib.hid (HB3.out.trans (hb4.mono (by omega)))
      have hz5 : wr.heap.size < w4.heap.size := Nat.lt_of_lt_of_le hz4 hb4.size
      clear hb4 A3 E3 X3 HB3 hz4
      have m0 := cell_of_row _ _ 0 _ _ _ X4.out
      have m1 := cell_of_row _ _ 1 _ _ _ X4.out
      have m2 := cell_of_row _ _ 2 _ _ _ X4.out
      have m3 := cell_of_row _ _ 3 _ _ _ X4.out
      have m4 := cell_of_row _ _ 4 _ _ _ X4.out
      simp only [List.getElem?_toArray, List.getElem?_cons_zero, List.getElem?_cons_succ] at m0 m1 m2 m3 m4
      clear m0 m1 m2 m3 m4
      go_wp2_with (first | ((with_reducible show wpList _ _ _ (Oper.mk none (Op.store 40 _ _) _ _ _ _ :: _) _ _); refine wpList_store_all rfl rfl 40 _ _ rfl w4.heap.size _ pb rfl rfl (heap_alloc_new _ _) (by rw [F2.out.size]; rfl) (by rw [F2.out.size]; kernel_rfl) F2.out.one ?_; intro U5 hU; have Y5 := Lib.hid hU.at_; have A5 := Lib.hid ((hU.block _ (by omega)).trans ((Below.heap_alloc _ _ _ (by omega)).trans A4.out)); have E5 := Lib.hid ((hU.block _ (by omega)).trans ((Below.heap_alloc _ _ _ (by omega)).trans E4.out)); have X5 := Lib.hid ((hU.block _ (by omega)).trans ((Below.heap_alloc _ _ _ (by omega)).trans X4.out)); have HB5 := Lib.hid ((HB4.out.alloc (by omega) _).setC (by omega) hU); have hz6 : w4.heap.size < U5.heap.size := (by rw [hU.size]; simp); clear hU; have m0 := (cell_of_row _ _ 0 _ _ _ X5.out); have m1 := (cell_of_row _ _ 1 _ _ _ X5.out); have m2 := (cell_of_row _ _ 2 _ _ _ X5.out); have m3 := (cell_of_row _ _ 3 _ _ _ X5.out); have m4 := (cell_of_row _ _ 4 _ _ _ X5.out); simp only [List.getElem?_toArray, List.getElem?_cons_zero, List.getElem?_cons_succ] at m0 m1 m2 m3 m4) | ((with_reducible show wpList _ _ _ (Oper.mk _ (Op.load 35 _) _ _ _ _ :: _) _ _); refine wpList_load_part rfl 35 _ rfl (w.heap.size) rfl (cs.toList) _ (range_of A5.out (fun j v h => by rw [← Array.getElem?_toList]; exact h)) Tryd.underlying35 rfl (by rw [nc.out]; kernel_rfl) ?_))
      clear m0 m1 m2 m3 m4 A4 E4 X4 HB4
      refine (F2.out.x2 _).mono ?_
      rintro e w6 ⟨rfl, hb6⟩
      have Y6 := Lib.hid ((hb6.block w4.heap.size hz6).trans Y5.out)
      have A6 := Lib.hid ((hb6.block w.heap.size (by omega)).trans A5.out)
      have E6 := Lib.hid ((hb6.block w1.heap.size (by omega)).trans E5.out)
      have X6 := Lib.hid ((hb6.block wr.heap.size (by omega)).trans X5.out)
      have HB6 := Lib.hid (HB5.out.trans (hb6.mono (by omega)))
      have hz7 : w4.heap.size < w6.heap.size := Nat.lt_of_lt_of_le hz6 hb6.size
      have heq := F2.out.eql
      have pl := Lib.hid (show pb.toList.length = 22 by rw [Array.length_toList, F2.out.size])
      clear hb6 A5 E5 X5 Y5 HB5
      go_wp2_with (first | ((with_reducible show wpList _ _ _ (Oper.mk none (Op.store 40 _ _) _ _ _ _ :: _) _ _); refine wpList_store_all rfl rfl 40 _ _ rfl w6.heap.size _ pb rfl rfl (heap_alloc_new _ _) (by rw [F2.out.size]; rfl) (by rw [F2.out.size]; kernel_rfl) F2.out.one ?_; intro U7 hU; have Y7 := Lib.hid hU.at_; have A7 := Lib.hid ((hU.block _ (by omega)).trans ((Below.heap_alloc _ _ _ (by omega)).trans A6.out)); have E7 := Lib.hid ((hU.block _ (by omega)).trans ((Below.heap_alloc _ _ _ (by omega)).trans E6.out)); have X7 := Lib.hid ((hU.block _ (by omega)).trans ((Below.heap_alloc _ _ _ (by omega)).trans X6.out)); have HB7 := Lib.hid ((HB6.out.alloc (by omega) _).setC (by omega) hU); have hz8 : w6.heap.size < U7.heap.size := (by rw [hU.size]; simp); have Z7 := Lib.hid ((hU.block _ (by omega)).trans ((Below.heap_alloc _ _ _ hz7).trans Y6.out)); clear hU) | ((with_reducible show wpList _ _ _ (Oper.mk _ (Op.load 40 _) _ _ _ _ :: _) _ _); refine wpList_load_part rfl 40 _ rfl (w4.heap.size) rfl (pb.toList) _ (range_of Z7.out (fun j v h => by rw [← Array.getElem?_toList]; exact h)) Tryd.underlying40 rfl (by rw [pl.out]; kernel_rfl) ?_) | ((with_reducible show wpList _ _ _ (Oper.mk _ (Op.load 40 _) _ _ _ _ :: _) _ _); refine wpList_load_part rfl 40 _ rfl (w6.heap.size) rfl (pb.toList) _ (range_of Y7.out (fun j v h => by rw [← Array.getElem?_toList]; exact h)) Tryd.underlying40 rfl (by rw [pl.out]; kernel_rfl) ?_))
      go_roundw
      case rel => exact ⟨2, by omega, rfl, HB7.out, A7.out, E7.out, by omega⟩
      case measure => simp [intOf]
    · clear A E
      go_wp2_with (go_at_call 16; refine (known_any _ (hw.below ⟨HB.out.os, HB.out.tape, HB.out.output, HB.out.size, HB.out.block⟩)).mono ?_; rintro e w6 ⟨rfl, hb6⟩)
      go_ret
      exact ⟨rfl, HB.out.trans (hb6.mono HB.out.size)⟩
end Go.Proofs.YtimiofmmhccmmaaDoor
