/-
  What begin makes: a machine ahead of its first instruction. Condition: slices that read as numbers.
-/
import Derived.Test.YtimiofmmhccmmaaDoorILoop
import Derived.Test.YtimiofmmhccmmaaDoorSrcs
import Derived.Laws.CopyOwn
import Derived.Laws.MakeOwn
namespace Go.Proofs.YtimiofmmhccmmaaDoor
open Go.RowKit

section
variable {P : Program} {w : World} {ops : Array Oper} {rest : List Oper} {o : Oper} {a : Act} {Q : Exit → Act → World → Prop}
/-- Numbers are copied into a block. -/
theorem wpList_copy_set (hgd : o.guard = none) (d s : Operand) (dT sT : TypeId)
    (ho : o.op = .call { callee := .builtin .copy, args := #[d, s], argTypes := #[dT, sT] }) (elem : TypeId) (hu : P.underlying dT = some (.slice elem)) (hsz : (P.info? elem).map (·.size) = some 1)
    (dp sp : Option Addr) (dLen dCap sLen sCap : Nat) (hd : a.eval d = .slice dp dLen dCap) (hs : a.eval s = .slice sp sLen sCap)
    (g off : Nat) (cur : List Value) (t : TypeId) (hg : w.heap[g]? = some (.cells cur.toArray t (0, 0))) (cs : List Value) (hn : cs.length = Nat.min sLen dLen)
    (hpos : 0 < cs.length → dp = some ⟨g, off, none⟩ ∧ ∃ ad, sp = some ad ∧ ∀ j v, cs[j]? = some v → w.cell? (ad.add j) = some v)
    (hfit : off + cs.length ≤ cur.length) (h1 : ∀ v ∈ cs, v.oneCell' = true)
    (h : ∀ U, SetC g (splice cur off cs).toArray t w U → wpList P ops Q rest (a.put o.dst (goInt cs.length)) U) : wpList P ops Q (o :: rest) a w := by
  by_cases h0 : cs.length = 0
  · obtain rfl : cs = [] := List.eq_nil_of_length_eq_zero h0
    refine wpList_copy_nothing hgd d s dT sT ho elem hu hsz dp sp dLen dCap sLen sCap hd hs (by simpa using hn.symm) ?_
    exact h w ⟨rfl, rfl, rfl, rfl, by simpa [splice] using hg, fun _ _ => rfl⟩
  · obtain ⟨rfl, ad, rfl, hsrc⟩ := hpos (by omega)
    refine wpList_copy_own hgd d s dT sT ho elem hu hsz g off dLen dCap ad sLen sCap hd hs cur.toArray t hg cs hn hsrc (by simpa using hfit) h1 ?_
    exact h _ ⟨rfl, rfl, rfl, by simp [World.setRow], by simpa [splice] using setRow_heap w g _ _ t _ hg, fun b hb => setRow_other w g b _ hb⟩
/-- A slice is made. -/
theorem wpList_make (hgd : o.guard = none) (T : TypeId) (x y : Operand) (ho : o.op = .makeSlice T x y) (v : Value) (w' : World) (hr : (Instr.makeSlice T (a.eval x) (a.eval y)).run P w = .ok v w')
    (h : wpList P ops Q rest (a.put o.dst v) w') : wpList P ops Q (o :: rest) a w :=
  wpList_plain hgd fun _ hK => by
    unfold Oper.wp execOp
    simp only [ho, Sem.run_bind, hr, Result.andThen_ok, Sem.run_pure]
    exact hK _ _ h
end
theorem build_mach (M n : Nat) (w : World) : (Instr.build 75 #[(1, .slice (some ⟨M, 0, none⟩) n n)]).run Tryd.prog w = .ok (.agg (machC cpu0 (.slice (some ⟨M, 0, none⟩) n n) (.slice none 0 0))) w := by kernel_rfl
theorem made_nums (n : Nat) : madeCells (Value.int .i64 0).cells (n * 1) = numsC (List.replicate n 0) := by
  unfold madeCells numsC
  apply Array.ext_getElem?
  intro j
  simp only [Nat.mul_one, Array.getElem?_map, List.getElem?_toArray, List.getElem?_map, List.getElem?_replicate, Array.getElem?_range]
  by_cases h : j < n
  · simp [h, Value.cells, Nat.mod_one]
  · simp [h]
theorem words_in (l : List Int) (n : Nat) : (splice (numsC (List.replicate n 0)).toList 0 (l.map (Value.int .i64))).toArray = numsC (l ++ List.replicate (n - l.length) 0) := by
  simp [splice, numsC]
theorem args_in (l : List Int) (v : Value) (h : l.length ≤ 4) : (splice (machC cpu0 v (.slice none 0 0)).toList 1 (l.map (Value.int .i64))).toArray = machC ⟨0 :: l ++ List.replicate (15 - l.length) 0, 0⟩ v (.slice none 0 0) := by
  match l, h with
  | [], _ => rfl
  | [_], _ => rfl
  | [_, _], _ => rfl
  | [_, _, _], _ => rfl
  | [_, _, _, _], _ => rfl
  | _ :: _ :: _ :: _ :: _ :: _, h => exact absurd h (by simp)
theorem machC_14 {c : Cpu} {m o : Value} (h : c.r.length = 16) (v : Int) : (machC c m o).setIfInBounds 14 (.int .i64 v) = machC ⟨c.r.set 14 v, c.pc⟩ m o := by
  obtain ⟨r, pc⟩ := c
  obtain ⟨a0, a1, a2, a3, a4, a5, a6, a7, a8, a9, a10, a11, a12, a13, a14, a15, rfl⟩ := list16 h
  rfl
theorem machC_16 {c : Cpu} {m o : Value} (h : c.r.length = 16) (v : Int) : (machC c m o).setIfInBounds 16 (.int .i64 v) = machC ⟨c.r, v⟩ m o := by
  obtain ⟨r, pc⟩ := c
  obtain ⟨a0, a1, a2, a3, a4, a5, a6, a7, a8, a9, a10, a11, a12, a13, a14, a15, rfl⟩ := list16 h
  rfl
/-- What begin leaves. -/
def Begun (k : Nat) (entry : Int) (l args : List Int) (w : World) (e : Ending) (w' : World) : Prop :=
  e = .returned (.pointer (some ⟨w.heap.size + 1, 0, none⟩)) ∧ Mach w'.heap.size (w.heap.size + 1) w.heap.size (cpuB (k + 1) entry args) (mem0 l (k + 1)) none 0 [] w' ∧ Below w.heap.size w w'
set_option maxRecDepth 100000 in
set_option maxHeartbeats 2000000 in
theorem begin_any (A : Option Addr) (c : Nat) (l : List Int) (k : Nat) (entry : Int) (D : Option Addr) (d : Nat) (args : List Int) (w : World) (hl : Srcs w A l) (ha : Srcs w D args) (hk : l.length + 15 ≤ k) (hk2 : k < 16384) (h4 : args.length ≤ 4) :
    Calls Tryd.prog 38 #[.slice A l.length c, .int .i64 ((k : Int) + 1), .int .i64 entry, .slice D args.length d] w (Begun k entry l args w) := by
  have HL := Lib.hid hl
  have HA := Lib.hid ha
  clear hl ha
  obtain ⟨i0, hi, hz0, hz1, hz2⟩ := info_parts int_info
  have hmk := Lib.hid (show (Instr.makeSlice 44 (.int .i64 ((k : Int) + 1)) (.int .i64 ((k : Int) + 1))).run Tryd.prog w = .ok (.slice (some ⟨w.heap.size, 0, none⟩) (k + 1) (k + 1)) (w.alloc (.cells (numsC (List.replicate (k + 1) 0)) 3)) by
    have := run_make (P := Tryd.prog) w 44 3 i0 (.int .i64 0) Tryd.underlying44 hi hz0 .i64 .i64 ((k : Int) + 1) ((k : Int) + 1) (by omega) (by omega) (by rw [hz2]; omega) (by omega)
    rw [hz1, show ((k : Int) + 1).toNat = k + 1 by omega, made_nums] at this
    exact this)
  have hbd := Lib.hid (fun W => build_mach w.heap.size (k + 1) W)
  obtain ⟨sm, hsm⟩ : ∃ y, Hid (Value.slice (some ⟨w.heap.size, 0, none⟩) (k + 1) (k + 1) = y) := ⟨_, rfl⟩
  have zc : cpu0.r.length = 16 := rfl
  have mz := Lib.hid (machC_size (c := cpu0) (m := sm) (o := .slice none 0 0) zc)
  have ma := Lib.hid (machC_at (c := cpu0) (m := sm) (o := .slice none 0 0) zc)
  have mone := Lib.hid (args_in args sm h4)
  obtain ⟨mc, hmc⟩ : ∃ y, Hid (machC cpu0 (Value.slice (some ⟨w.heap.size, 0, none⟩) (k + 1) (k + 1)) (.slice none 0 0) = y) := ⟨_, rfl⟩
  rw [hmc.out] at hbd
  rw [← hsm.out] at mz ma
  rw [hmc.out] at mz ma
  clear hi hz0 hz1 hz2
  rw [← hsm.out, hmc.out] at mone
  have q17 := ma.out.2.1
  have rl := Lib.hid (show (⟨0 :: args ++ List.replicate (15 - args.length) 0, 0⟩ : Cpu).r.length = 16 by simp; omega)
  have HM0 := Lib.hid (two_old w (.cells (numsC (List.replicate (k + 1) 0)) 3) (.cells mc 75))
  have HK0 := Lib.hid (heap_alloc2_new w (.cells (numsC (List.replicate (k + 1) 0)) 3) (.cells mc 75))
  have BW0 := Lib.hid (((Below.refl w.heap.size w).alloc (Nat.le_refl _) (.cells (numsC (List.replicate (k + 1) 0)) 3)).alloc (by simp) (.cells mc 75))
  clear zc hmc hsm
  go_enter Tryd.func38, Tryd.ntmps38
  go_wp2_with (first | ((with_reducible show wpList _ _ _ (Oper.mk _ (Op.makeSlice _ _ _) _ _ _ none :: _) _ _); refine wpList_make rfl 44 _ _ rfl _ _ hmk.out ?_) | ((with_reducible show wpList _ _ _ (Oper.mk _ (Op.build 75 _) _ _ _ none :: _) _ _); refine wpList_build rfl 75 _ _ rfl (.agg mc) (hbd.out _) ?_) | ((with_reducible show wpList _ _ _ (Oper.mk _ (Op.call _) _ _ _ none :: _) _ _); refine wpList_copy_set rfl _ _ 44 44 rfl 3 Tryd.underlying44 (by kernel_rfl) (some ⟨w.heap.size, 0, none⟩) A (k + 1) (k + 1) l.length c rfl rfl w.heap.size 0 (numsC (List.replicate (k + 1) 0)).toList 3 HM0.out (l.map (Value.int .i64)) (by rw [List.length_map]; exact (Nat.min_eq_left (by omega)).symm) (fun h0 => ⟨rfl, HL.out.src _ BW0.out h0⟩) (by simp [numsC]; omega) (by intro v hv; rw [List.mem_map] at hv; obtain ⟨x, _, rfl⟩ := hv; rfl) ?_; intro U1 hU; have HM1 := Lib.hid (hU.at_.trans (congrArg (fun z => some (Obj.cells z 3 (0, 0))) (words_in l (k + 1)))); have HK1 := Lib.hid ((hU.block (w.heap.size + 1) (by omega)).trans HK0.out); have BW1 := Lib.hid (BW0.out.setC (Nat.le_refl _) hU); clear hU HM0 HK0 BW0 q17; have q17 := (cell_of_row _ _ 17 _ _ _ HK1.out).trans ma.out.2.1) | ((with_reducible show wpList _ _ _ (Oper.mk none (Op.store 3 _ _) _ _ _ none :: _) _ _); refine wpList_store_cell rfl rfl 3 _ _ rfl w.heap.size k (numsC (l ++ List.replicate (k + 1 - l.length) 0)) (.int .i64 (-1)) rfl rfl HM1.out (by rw [numsC_size]; simp; omega) (by kernel_rfl) rfl ?_; intro U2 hU; have HM2 := Lib.hid (hU.at_.trans (congrArg (fun z => some (Obj.cells z 3 (0, 0))) (numsC_set _ k (-1)))); have HK2 := Lib.hid ((hU.block (w.heap.size + 1) (by omega)).trans HK1.out); have BW2 := Lib.hid (BW1.out.setC (Nat.le_refl _) hU); clear hU HM1 HK1 BW1 q17) | ((with_reducible show wpList _ _ _ (Oper.mk _ (Op.call _) _ _ _ none :: _) _ _); refine wpList_copy_set rfl _ _ 44 44 rfl 3 Tryd.underlying44 (by kernel_rfl) (some ⟨w.heap.size + 1, 1, none⟩) D 15 15 args.length d rfl rfl (w.heap.size + 1) 1 mc.toList 75 HK2.out (args.map (Value.int .i64)) (by rw [List.length_map]; exact (Nat.min_eq_left (by omega)).symm) (fun h0 => ⟨rfl, HA.out.src _ BW2.out h0⟩) (by have hq := mz.out; have hq2 : mc.toList.length = mc.size := Array.length_toList; rw [List.length_map]; omega) (by intro v hv; rw [List.mem_map] at hv; obtain ⟨x, _, rfl⟩ := hv; rfl) ?_; intro U3 hU; have HK3 := Lib.hid (hU.at_.trans (congrArg (fun z => some (Obj.cells z 75 (0, 0))) mone.out)); have HM3 := Lib.hid ((hU.block w.heap.size (by omega)).trans HM2.out); have BW3 := Lib.hid (BW2.out.setC (Nat.le_add_right _ 1) hU); clear hU HM2 HK2 BW2) | ((with_reducible show wpList _ _ _ (Oper.mk none (Op.store 3 _ _) _ _ _ none :: _) _ _); refine wpList_store_cell rfl rfl 3 _ _ rfl (w.heap.size + 1) 14 _ (.int .i64 (k : Int)) rfl rfl HK3.out (by rw [machC_size rl.out]; omega) (by kernel_rfl) rfl ?_; intro U4 hU; have HK4 := Lib.hid (hU.at_.trans (congrArg (fun z => some (Obj.cells z 75 (0, 0))) (machC_14 rl.out (k : Int)))); have HM4 := Lib.hid ((hU.block w.heap.size (by omega)).trans HM3.out); have BW4 := Lib.hid (BW3.out.setC (Nat.le_add_right _ 1) hU); clear hU HM3 HK3 BW3) | ((with_reducible show wpList _ _ _ (Oper.mk none (Op.store 3 _ _) _ _ _ none :: _) _ _); refine wpList_store_cell rfl rfl 3 _ _ rfl (w.heap.size + 1) 16 _ (.int .i64 entry) rfl rfl HK4.out (by rw [machC_size (by rw [List.length_set]; exact rl.out)]; omega) (by kernel_rfl) rfl ?_; intro U5 hU; have HK5 := Lib.hid (hU.at_.trans (congrArg (fun z => some (Obj.cells z 75 (0, 0))) (machC_16 (by rw [List.length_set]; exact rl.out) entry))); have HM5 := Lib.hid ((hU.block w.heap.size (by omega)).trans HM4.out); have BW5 := Lib.hid (BW4.out.setC (Nat.le_add_right _ 1) hU); clear hU HM4 HK4 BW4))
  go_ret
  have hml : (mem0 l (k + 1)).length = k + 1 := by simp [mem0]; omega
  have hcp : cpuB (k + 1) entry args = ⟨(0 :: args ++ List.replicate (15 - args.length) 0).set 14 (k : Int), entry⟩ := by
    simp only [cpuB, Cpu.mk.injEq, and_true]
    congr 1
    omega
  have hsz : w.heap.size + 1 < U5.heap.size := (Array.getElem?_eq_some_iff.1 HK5.out).1
  exact ⟨rfl, ⟨by rw [HK5.out, hml, hcp]; rfl, by rw [HM5.out]; rfl, World.ownsRow_nil _ _ _ _, by omega, by omega, by omega, Nat.le_refl _⟩, BW5.out⟩
end Go.Proofs.YtimiofmmhccmmaaDoor
