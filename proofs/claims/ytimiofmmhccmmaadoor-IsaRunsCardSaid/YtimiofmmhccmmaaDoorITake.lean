/-
  What take does with a machine: an effect takes place. Condition: an address of the memory if a word is stored.
-/
import Derived.Test.YtimiofmmhccmmaaDoorIMach
import Derived.StillTailTactics
import Derived.RegionTactic
import Derived.BigRegion
import Derived.Test.YtimiofmmhccmmaaDoorOrd
namespace Go.Proofs.YtimiofmmhccmmaaDoor
open Go.RowKit

theorem setC_part {w : World} {N : Nat} {old : Array Value} {e : TypeId} {vs : List Value} (h : w.heap[N]? = some (.cells old e (0, 0))) : SetC N (putCs old 0 vs) e w (w.setCells N 0 vs) := by
  obtain ⟨h1, h2, h3, h4⟩ := setCs_same N vs 0 w
  exact ⟨h1, h2, h3, h4, heap_setCs N vs 0 w old e h, fun b hb => heap_setCs_other N b hb vs 0 w⟩
section
variable {P : Program} {ops : Array Oper} {rest : List Oper} {op : Oper} {a : Act} {w : World} {Q : Exit → Act → World → Prop}
/-- A struct is stored into the beginning of a block. -/
theorem wpList_store_part (hgd : op.guard = none) (hds : op.dst = none) (T : TypeId) (x y : Operand) (ho : op.op = .store T x y) {T' : TypeId} (N : Nat) (old cs : Array Value) (hx : a.eval x = .pointer (some ⟨N, 0, none⟩)) (hy : a.eval y = .agg cs)
    (hz : w.heap[N]? = some (.cells old T' (0, 0))) (hs : cs.size ≤ old.size) (hi : (P.info? T).map (·.size) = some cs.size) (h1 : cs.all (·.oneCell') = true) (h : ∀ U, SetC N (putCs old 0 cs.toList) T' w U → wpList P ops Q rest a U) : wpList P ops Q (op :: rest) a w := by
  refine wpList_store_mid hgd T x y ho N 0 cs hx hy (there_b hz hs) hi h1 ?_
  rw [hds]
  exact h _ (by simpa using setC_part (vs := cs.toList) hz)
end
theorem own_set {w U : World} {base N size n : Nat} {e T : TypeId} {v : Value} {xs : List Value} {cs : Array Value} (h : w.ownsRow base e size v n xs) (hN : N < base) (hU : SetC N cs T w U) : U.ownsRow base e size v n xs := by
  refine ⟨h.1, ?_⟩
  rcases h.2 with hn | ⟨g, cap, cur, rfl, hb, hgg, rest⟩
  · exact .inl hn
  · exact .inr ⟨g, cap, cur, rfl, hb, (hU.block g (by omega)).trans hgg, rest⟩
theorem Others.setK {B K M : Nat} {w U V : World} {cs : Array Value} {T : TypeId} (h : Others B K M w U) (hV : SetC K cs T U V) : Others B K M w V :=
  h.trans ⟨hV.os, hV.tape, hV.output, Nat.le_of_eq hV.size.symm, fun b _ h1 _ => hV.block b h1⟩
theorem Others.setM {B K M : Nat} {w U V : World} {cs : Array Value} {T : TypeId} (h : Others B K M w U) (hV : SetC M cs T U V) : Others B K M w V :=
  h.trans ⟨hV.os, hV.tape, hV.output, Nat.le_of_eq hV.size.symm, fun b _ _ h2 => hV.block b h2⟩
theorem own_drew {w : World} {base size n : Nat} {e : TypeId} {v : Value} {xs : List Value} (h : w.ownsRow base e size v n xs) : w.drew.ownsRow base e size v n xs := ⟨h.1, h.2⟩
theorem Others.drew {B K M : Nat} {w U : World} (h : Others B K M w U) : Others B K M w U.drew := ⟨h.os, h.tape, h.output, h.size, h.block⟩
/-- What lies behind an effect. -/
def Taken (B K M : Nat) (m out : List Int) (x : Eff) (w : World) (e : Ending) (w' : World) : Prop :=
  e = .returned (.tuple #[]) ∧ (∃ A d, Mach B K M x.cpu (if x.stores then m.set x.addr.toNat x.word else m) A d (if x.prints then out ++ [x.print] else out) w') ∧ Others B K M w w'
set_option maxRecDepth 100000 in
set_option maxHeartbeats 4000000 in
theorem take_sp (B K M : Nat) (c : Cpu) (m out : List Int) (A : Option Addr) (d : Nat) (x : Eff) (w : World) (hm : Mach B K M c m A d out w) (hl : c.r.length = 16) (hx : x.cpu.r.length = 16) (hs : x.stores = true) (hp : x.prints = true) (ad : Nat) (hadq : x.addr = ad) (hadL : ad < m.length) (hout : out.length ≤ 200000) :
    Calls Tryd.prog 49 #[.pointer (some ⟨K, 0, none⟩), .agg (effC x)] w (Taken B K M m out x w) := by
  have hKlt : K < w.heap.size := Nat.lt_of_lt_of_le hm.hK hm.size
  have hMlt : M < w.heap.size := Nat.lt_of_lt_of_le hm.hM hm.size
  have hne := hm.ne
  have hKB := hm.hK
  have hMB := hm.hM
  have hBs := hm.size
  have k16 := Lib.hid (effC_at16 x hx)
  have k17 := Lib.hid (effC_at17 x hx)
  have k20 := Lib.hid (effC_at20 x hx)
  have ksz := Lib.hid (effC_size hx)
  obtain ⟨cl, hcl⟩ : ∃ y, Hid ((cpuC x.cpu).toList = y) := ⟨_, rfl⟩
  have gcl := Lib.hid (effC_cpu x hx)
  have ncl := Lib.hid (show (cpuC x.cpu).toList.length = 17 by rw [Array.length_toList]; exact cpuC_size hx)
  have ocl := Lib.hid (show ((cpuC x.cpu).toList.toArray).all (·.oneCell') = true from cpuC_one x.cpu)
  obtain ⟨so, hso⟩ : ∃ y, Hid (Value.slice A out.length d = y) := ⟨_, rfl⟩
  obtain ⟨sm, hsm⟩ : ∃ y, Hid (Value.slice (some ⟨M, 0, none⟩) m.length m.length = y) := ⟨_, rfl⟩
  have hput := Lib.hid (machC_put (m := sm) (o := so) x.cpu hl hx)
  have zmc := Lib.hid (machC_size (m := sm) (o := so) hl)
  have nk := Lib.hid (machC_at (m := sm) (o := so) hx)
  have nz := Lib.hid (machC_size (m := sm) (o := so) hx)
  have nput := Lib.hid (fun v => machC_out (m := sm) (o := so) hx v)
  have hmm := hm.mach
  rw [hso.out, hsm.out] at hmm
  obtain ⟨mc, hmc⟩ : ∃ y, Hid (machC c sm so = y) := ⟨_, rfl⟩
  obtain ⟨nc, hnc⟩ : ∃ y, Hid (machC x.cpu sm so = y) := ⟨_, rfl⟩
  rw [hmc.out] at hput zmc hmm
  rw [hnc.out] at hput nk nz nput
  rw [hcl.out] at gcl ncl ocl hput
  have HK0 := Lib.hid hmm
  have HM0 := Lib.hid hm.mem
  have OW0 := Lib.hid hm.own
  have hs' := Lib.hid hs
  have hp' := Lib.hid hp
  rw [hadq] at k17
  have HAD := Lib.hid hadq
  rw [hs] at k17
  rw [hp] at k20
  clear hmm hm hs hp hadq
  obtain ⟨wd, hwd⟩ : ∃ y, Hid (x.word = y) := ⟨_, rfl⟩
  obtain ⟨pv, hpv⟩ : ∃ y, Hid (x.print = y) := ⟨_, rfl⟩
  rw [hwd.out] at k17
  rw [hpv.out] at k20
  obtain ⟨ps, hps⟩ : ∃ y, Hid (effC x = y) := ⟨_, rfl⟩
  rw [hps.out] at k16 k17 k20 ksz gcl ⊢
  have HN := Lib.hid (heap_alloc_new w (.cells ps 40))
  have HK := Lib.hid ((Below.heap_alloc w (.cells ps 40) _ hKlt).trans HK0.out)
  have HM := Lib.hid ((Below.heap_alloc w (.cells ps 40) _ hMlt).trans HM0.out)
  have OW := Lib.hid (OW0.out.alloc (.cells ps 40))
  have OT := Lib.hid (Others.of_below (K := K) (M := M) hBs ((Below.refl w.heap.size w).alloc (Nat.le_refl _) (.cells ps 40)))
  have sz : w.heap.size < (w.alloc (.cells ps 40)).heap.size := by simp
  clear HK0 HM0 OW0
  go_enter Tryd.func49, Tryd.ntmps49
  go_wp2_with (first | ((with_reducible show wpList _ _ _ (Oper.mk _ (Op.load 35 _) _ _ _ none :: _) _ _); refine wpList_load_mid rfl 35 _ rfl w.heap.size 0 rfl cl _ (range_of HN.out gcl.out) Tryd.underlying35 rfl (by rw [ncl.out]; kernel_rfl) ?_) | ((with_reducible show wpList _ _ _ (Oper.mk none (Op.store 35 _ _) _ _ _ none :: _) _ _); refine wpList_store_part rfl rfl 35 _ _ rfl K mc cl.toArray rfl rfl HK.out (by have := zmc.out; have := ncl.out; simp; omega) (by rw [List.size_toArray, ncl.out]; kernel_rfl) ocl.out ?_; intro U hU; have HKn := Lib.hid (hU.at_.trans (congrArg (fun z => some (Obj.cells z 75 (0, 0))) hput.out)); have HMn := Lib.hid ((hU.block M (Ne.symm hne)).trans HM.out); have HNn := Lib.hid ((hU.block w.heap.size (by omega)).trans HN.out); have OTn := Lib.hid (OT.out.setK hU); have OWn := Lib.hid (own_set OW.out hKB hU); have szn : w.heap.size < U.heap.size := (by rw [hU.size]; exact sz); clear HK HM HN OT OW hU sz; have HK := HKn; have HM := HMn; have HN := HNn; have OT := OTn; have OW := OWn; have sz := szn; clear HKn HMn HNn OTn OWn szn; have m17 := (cell_of_row _ _ 17 _ _ _ HN.out).trans k17.out.1; have m18 := (cell_of_row _ _ 18 _ _ _ HN.out).trans k17.out.2.1; have m19 := (cell_of_row _ _ 19 _ _ _ HN.out).trans k17.out.2.2; have m20 := (cell_of_row _ _ 20 _ _ _ HN.out).trans k20.out.1; have m21 := (cell_of_row _ _ 21 _ _ _ HN.out).trans k20.out.2; have n17 := (cell_of_row _ _ 17 _ _ _ HK.out).trans nk.out.2.1; have n18 := (cell_of_row _ _ 18 _ _ _ HK.out).trans nk.out.2.2; rw [← hsm.out] at n17; rw [← hso.out] at n18))
  go_still_tail 9, (by kernel_rfl)
  change wpList _ _ _ _ _ U.drew
  clear m17 m18 m19 m20 m21 n17 n18
  have HKn := Lib.hid (show U.drew.heap[K]? = _ from HK.out)
  have HMn := Lib.hid (show U.drew.heap[M]? = _ from HM.out)
  have HNn := Lib.hid (show U.drew.heap[w.heap.size]? = _ from HN.out)
  have OTn := Lib.hid OT.out.drew
  have OWn := Lib.hid (own_drew OW.out)
  have szn : w.heap.size < U.drew.heap.size := sz
  clear HK HM HN OT OW sz
  obtain ⟨V, hV⟩ : ∃ V, Hid (U.drew = V) := ⟨_, Lib.hid rfl⟩
  rw [hV.out] at HKn HMn HNn OTn OWn szn ⊢
  clear hV
  have HK := HKn
  have HM := HMn
  have HN := HNn
  have OT := OTn
  have OW := OWn
  have sz := szn
  clear HKn HMn HNn OTn OWn szn
  go_wp2_with (first | ((with_reducible show wpList _ _ _ (Oper.mk none (Op.store 3 _ _) _ _ _ none :: _) _ _); refine wpList_store_cell rfl rfl 3 _ _ rfl M ad (numsC m) (.int .i64 wd) rfl rfl HM.out (by rw [numsC_size]; exact hadL) (by kernel_rfl) rfl ?_; intro U hU; have HKn := Lib.hid ((hU.block K hne).trans HK.out); have HMn := Lib.hid (hU.at_.trans (congrArg (fun z => some (Obj.cells z 3 (0, 0))) (numsC_set m ad wd))); have HNn := Lib.hid ((hU.block w.heap.size (by omega)).trans HN.out); have OTn := Lib.hid (OT.out.setM hU); have OWn := Lib.hid (own_set OW.out hMB hU); have szn : w.heap.size < U.heap.size := (by rw [hU.size]; exact sz); clear HK HM HN OT OW hU sz; have HK := HKn; have HM := HMn; have HN := HNn; have OT := OTn; have OW := OWn; have sz := szn; clear HKn HMn HNn OTn OWn szn; have m17 := (cell_of_row _ _ 17 _ _ _ HN.out).trans k17.out.1; have m18 := (cell_of_row _ _ 18 _ _ _ HN.out).trans k17.out.2.1; have m19 := (cell_of_row _ _ 19 _ _ _ HN.out).trans k17.out.2.2; have m20 := (cell_of_row _ _ 20 _ _ _ HN.out).trans k20.out.1; have m21 := (cell_of_row _ _ 21 _ _ _ HN.out).trans k20.out.2; have n17 := (cell_of_row _ _ 17 _ _ _ HK.out).trans nk.out.2.1; have n18 := (cell_of_row _ _ 18 _ _ _ HK.out).trans nk.out.2.2; rw [← hsm.out] at n17; rw [← hso.out] at n18))
  have HS := Lib.hid (And.intro n18 m21)
  clear m17 m18 m19 m20 m21 n17 n18
  refine wp_region_U (S := fun w_ => w_.cell? ⟨K, 18, none⟩ = some (.slice A out.length d) ∧ w_.cell? ⟨w.heap.size, 21, none⟩ = some (.int .i64 pv)) (L := [4, 6, 7]) (by kernel_rfl) ?_
  refine wpAnyU_late (i := 0) (v := ?_) rfl (by kernel_rfl) (by kernel_rfl) (by kernel_rfl) (by kernel_rfl) (fun _ _ _ h => h) (Or.inl ⟨by rfl, ?_⟩) ?_
  rotate_left 1
  · intro w_ hSw
    clear hSw
    (go_simp) <;> (with_reducible rfl)
  (try simp only [Act.put, List.getElem_toArray, List.getElem_cons_zero, List.setIfInBounds_toArray, List.set_cons_zero, List.set_cons_succ])
  refine wpAnyU_late (i := 1) (v := ?_) rfl (by kernel_rfl) (by kernel_rfl) (by kernel_rfl) (by kernel_rfl) (fun _ _ _ h => h) (Or.inl ⟨by rfl, ?_⟩) ?_
  rotate_left 1
  · intro w_ hSw
    clear hSw
    (go_simp) <;> (with_reducible rfl)
  (try simp only [Act.put, List.getElem_toArray, List.getElem_cons_zero, List.getElem_cons_succ, List.setIfInBounds_toArray, List.set_cons_zero, List.set_cons_succ])
  refine wpAnyU_late (i := 2) (v := ?_) rfl (by kernel_rfl) (by kernel_rfl) (by kernel_rfl) (by kernel_rfl) (fun _ _ _ h => h) (Or.inl ⟨by rfl, ?_⟩) ?_
  rotate_left 1
  · intro w_ hSw
    clear hSw
    (go_simp) <;> (with_reducible rfl)
  (try simp only [Act.put, List.getElem_toArray, List.getElem_cons_zero, List.getElem_cons_succ, List.setIfInBounds_toArray, List.set_cons_zero, List.set_cons_succ])
  refine wpAnyU_late (i := 3) (v := ?_) rfl (by kernel_rfl) (by kernel_rfl) (by kernel_rfl) (by kernel_rfl) (fun _ _ _ h => h) (Or.inl ⟨by rfl, ?_⟩) ?_
  rotate_left 1
  · intro w_ hSw
    clear hSw
    (go_simp) <;> (with_reducible rfl)
  (try simp only [Act.put, List.getElem_toArray, List.getElem_cons_zero, List.getElem_cons_succ, List.setIfInBounds_toArray, List.set_cons_zero, List.set_cons_succ])
  refine wpAnyU_late (i := 5) (v := ?_) rfl (by kernel_rfl) (by kernel_rfl) (by kernel_rfl) (by kernel_rfl) (fun _ _ _ h => h) (Or.inl ⟨by rfl, ?_⟩) ?_
  rotate_left 1
  · intro w_ hSw
    clear hSw
    (go_simp) <;> (with_reducible rfl)
  (try simp only [Act.put, List.getElem_toArray, List.getElem_cons_zero, List.getElem_cons_succ, List.setIfInBounds_toArray, List.set_cons_zero, List.set_cons_succ])
  refine wpAnyU_take (i := 4) (v := ?_) rfl (by kernel_rfl) (by kernel_rfl) (by kernel_rfl) (by kernel_rfl) (by kernel_rfl) (fun _ _ _ h => h) (Or.inl ⟨by rfl, ?_⟩) HS.out ?_
  rotate_left 1
  · intro w_ hSw
    obtain ⟨s18, s21⟩ := hSw
    (go_simp) <;> (with_reducible rfl)
  (try simp only [Act.put, List.getElem_toArray, List.getElem_cons_zero, List.getElem_cons_succ, List.setIfInBounds_toArray, List.set_cons_zero, List.set_cons_succ])
  refine wpAnyU_take (i := 6) (v := ?_) rfl (by kernel_rfl) (by kernel_rfl) (by kernel_rfl) (by kernel_rfl) (by kernel_rfl) (fun _ _ _ h => h) (Or.inl ⟨by rfl, ?_⟩) HS.out ?_
  rotate_left 1
  · intro w_ hSw
    obtain ⟨s18, s21⟩ := hSw
    (go_simp) <;> (with_reducible rfl)
  (try simp only [Act.put, List.getElem_toArray, List.getElem_cons_zero, List.getElem_cons_succ, List.setIfInBounds_toArray, List.set_cons_zero, List.set_cons_succ])
  have HKn := Lib.hid (show U.drew.heap[K]? = _ from HK.out)
  have HMn := Lib.hid (show U.drew.heap[M]? = _ from HM.out)
  have OTn := Lib.hid OT.out.drew
  have OWn := Lib.hid (own_drew OW.out)
  have szn : w.heap.size < U.drew.heap.size := sz
  have HSn := Lib.hid (show U.drew.cell? ⟨K, 18, none⟩ = some (.slice A out.length d) ∧ U.drew.cell? ⟨w.heap.size, 21, none⟩ = some (.int .i64 pv) from HS.out)
  clear HK HM HN OT OW sz HS
  obtain ⟨V, hV⟩ : ∃ V, Hid (U.drew = V) := ⟨_, Lib.hid rfl⟩
  rw [hV.out] at HKn HMn OTn OWn szn HSn ⊢
  clear hV
  refine wpAnyU_ready (rs := [7]) (by kernel_rfl) (by simp) (AllU.cons rfl (fun K_ hK => ?_) AllU.nil)
  go_simp
  have hKV : K < V.heap.size := by omega
  have hMV : M < V.heap.size := by omega
  refine hK.out _ _ (fun _ => ⟨(Below.refl V.heap.size V |>.alloc (Nat.le_refl _) _ |>.cell (p := ⟨K, 18, none⟩) hKV).trans HSn.out.1, (Below.refl V.heap.size V |>.alloc (Nat.le_refl _) _ |>.cell (p := ⟨w.heap.size, 21, none⟩) szn).trans HSn.out.2⟩) ?_
  clear hK K_
  (try simp only [Act.put, List.getElem_toArray, List.getElem_cons_zero, List.getElem_cons_succ, List.setIfInBounds_toArray, List.set_cons_zero, List.set_cons_succ])
  have HK := Lib.hid ((Below.heap_alloc V (.cells #[.int .i64 pv] 3) _ hKV).trans HKn.out)
  have HM := Lib.hid ((Below.heap_alloc V (.cells #[.int .i64 pv] 3) _ hMV).trans HMn.out)
  have OT := Lib.hid (OTn.out.trans (Others.of_below (K := K) (M := M) (show B ≤ V.heap.size by omega) ((Below.refl V.heap.size V).alloc (Nat.le_refl _) (.cells #[.int .i64 pv] 3))))
  have OW := Lib.hid (OWn.out.alloc (.cells #[.int .i64 pv] 3))
  have CN := Lib.hid (cell_one V pv 3)
  have szW : B ≤ (V.alloc (.cells #[.int .i64 pv] 3)).heap.size := by simp; omega
  clear HKn HMn OTn OWn HSn
  obtain ⟨i0, hi, hz0, hz1, hz2⟩ := info_parts int_info
  refine wpAnyU_ready (rs := [8]) (by kernel_rfl) (by simp) (AllU.cons rfl (fun K_ hK => ?_) AllU.nil)
  rw [if_pos (by rfl)]
  refine wp_append_own _ _ _ 44 rfl B 3 i0 (.int .i64 0) 1 8 Tryd.underlying44 hi hz0 hz1 hz2 rfl (by decide) (.slice A out.length d) out.length (out.map (Value.int .i64)) rfl OW.out ⟨V.heap.size, 0, none⟩ 1 1 [.int .i64 pv] rfl rfl CN.out (by simp [Value.oneCell']) (by unfold maxLen; omega) (by omega) szW ?_
  intro v3 w3 hown3 hgrow3 _
  have hlow : ∀ k, (Value.slice A out.length d).ownBlock = some k → B ≤ k := fun k hk => (OW.out.lt k hk).1
  have neK : some K ≠ (Value.slice A out.length d).ownBlock := fun e => by have := hlow K e.symm; omega
  have neM : some M ≠ (Value.slice A out.length d).ownBlock := fun e => by have := hlow M e.symm; omega
  have HK3 := Lib.hid ((hgrow3.block K (by omega) neK).trans HK.out)
  have HM3 := Lib.hid ((hgrow3.block M (by omega) neM).trans HM.out)
  have OT3 := Lib.hid (OT.out.trans (⟨hgrow3.os, hgrow3.tape, hgrow3.output, hgrow3.size, fun b hb _ _ => hgrow3.block b (by omega) (fun e => by have := hlow b e.symm; omega)⟩ : Others B K M _ _))
  have sz3 : B ≤ w3.heap.size := Nat.le_trans szW hgrow3.size
  have HO3 := Lib.hid (show w3.ownsRow B 3 1 v3 (out ++ [pv]).length ((out ++ [pv]).map (Value.int .i64)) by
    have := hown3
    rw [show (out ++ [pv]).length = out.length + 1 by simp, List.map_append]
    exact this)
  clear hown3 hgrow3 HK HM OT OW CN szW
  refine hK.out _ _ (fun h => absurd h (by decide)) ?_
  clear hK K_
  (try simp only [Act.put, List.getElem_toArray, List.getElem_cons_zero, List.getElem_cons_succ, List.setIfInBounds_toArray, List.set_cons_zero, List.set_cons_succ])
  obtain ⟨A3, d3, rfl⟩ := own_form HO3.out
  refine wpAnyU_late (i := 9) (v := ?_) rfl (by kernel_rfl) (by kernel_rfl) (by kernel_rfl) (by kernel_rfl) (fun _ _ _ h => h) (Or.inl ⟨by rfl, ?_⟩) ?_
  rotate_left 1
  · intro w_ hSw
    clear hSw
    (go_simp) <;> (with_reducible rfl)
  (try simp only [Act.put, List.getElem_toArray, List.getElem_cons_zero, List.getElem_cons_succ, List.setIfInBounds_toArray, List.set_cons_zero, List.set_cons_succ])
  refine wpAnyU_late (i := 10) (v := ?_) rfl (by kernel_rfl) (by kernel_rfl) (by kernel_rfl) (by kernel_rfl) (fun _ _ _ h => h) (Or.inl ⟨by rfl, ?_⟩) ?_
  rotate_left 1
  · intro w_ hSw
    clear hSw
    (go_simp) <;> (with_reducible rfl)
  (try simp only [Act.put, List.getElem_toArray, List.getElem_cons_zero, List.getElem_cons_succ, List.setIfInBounds_toArray, List.set_cons_zero, List.set_cons_succ])
  refine wpAnyU_ready (rs := [11]) (by kernel_rfl) (by simp) (AllU.cons rfl (fun K_ hK => ?_) AllU.nil)
  rw [if_pos (by rfl)]
  refine wp_store_cell rfl 44 _ _ rfl K 18 nc (.slice A3 (out ++ [pv]).length d3) rfl rfl HK3.out (by rw [nz.out]; omega) (by kernel_rfl) rfl ?_
  intro E hE
  refine hK.out _ _ (fun h => absurd h (by decide)) ?_
  clear hK K_
  (try simp only [Act.put, List.getElem_toArray, List.getElem_cons_zero, List.getElem_cons_succ, List.setIfInBounds_toArray, List.set_cons_zero, List.set_cons_succ])
  refine wpAnyU_done (by kernel_rfl) ?_ _
  go_wp2_with fail
  refine bodyPost_end (results_none rfl _ _ _) rfl ?_
  unfold Taken
  refine ⟨rfl, ⟨A3, d3, ?_⟩, OT3.out.setK hE⟩
  rw [hs'.out, hp'.out, if_pos rfl, if_pos rfl, HAD.out, hwd.out, hpv.out]
  exact ⟨by rw [hE.at_, nput.out, ← hsm.out, Int.toNat_natCast, List.length_set], (hE.block M (Ne.symm hne)).trans HM3.out, own_set HO3.out hKB hE, hKB, hMB, hne, by rw [hE.size]; exact sz3⟩
set_option maxRecDepth 100000 in
set_option maxHeartbeats 4000000 in
theorem take_sn (B K M : Nat) (c : Cpu) (m out : List Int) (A : Option Addr) (d : Nat) (x : Eff) (w : World) (hm : Mach B K M c m A d out w) (hl : c.r.length = 16) (hx : x.cpu.r.length = 16) (hs : x.stores = true) (hp : x.prints = false) (ad : Nat) (hadq : x.addr = ad) (hadL : ad < m.length) :
    Calls Tryd.prog 49 #[.pointer (some ⟨K, 0, none⟩), .agg (effC x)] w (Taken B K M m out x w) := by
  have hKlt : K < w.heap.size := Nat.lt_of_lt_of_le hm.hK hm.size
  have hMlt : M < w.heap.size := Nat.lt_of_lt_of_le hm.hM hm.size
  have hne := hm.ne
  have hKB := hm.hK
  have hMB := hm.hM
  have hBs := hm.size
  have k16 := Lib.hid (effC_at16 x hx)
  have k17 := Lib.hid (effC_at17 x hx)
  have k20 := Lib.hid (effC_at20 x hx)
  have ksz := Lib.hid (effC_size hx)
  obtain ⟨cl, hcl⟩ : ∃ y, Hid ((cpuC x.cpu).toList = y) := ⟨_, rfl⟩
  have gcl := Lib.hid (effC_cpu x hx)
  have ncl := Lib.hid (show (cpuC x.cpu).toList.length = 17 by rw [Array.length_toList]; exact cpuC_size hx)
  have ocl := Lib.hid (show ((cpuC x.cpu).toList.toArray).all (·.oneCell') = true from cpuC_one x.cpu)
  obtain ⟨so, hso⟩ : ∃ y, Hid (Value.slice A out.length d = y) := ⟨_, rfl⟩
  obtain ⟨sm, hsm⟩ : ∃ y, Hid (Value.slice (some ⟨M, 0, none⟩) m.length m.length = y) := ⟨_, rfl⟩
  have hput := Lib.hid (machC_put (m := sm) (o := so) x.cpu hl hx)
  have zmc := Lib.hid (machC_size (m := sm) (o := so) hl)
  have nk := Lib.hid (machC_at (m := sm) (o := so) hx)
  have nz := Lib.hid (machC_size (m := sm) (o := so) hx)
  have nput := Lib.hid (fun v => machC_out (m := sm) (o := so) hx v)
  have hmm := hm.mach
  rw [hso.out, hsm.out] at hmm
  obtain ⟨mc, hmc⟩ : ∃ y, Hid (machC c sm so = y) := ⟨_, rfl⟩
  obtain ⟨nc, hnc⟩ : ∃ y, Hid (machC x.cpu sm so = y) := ⟨_, rfl⟩
  rw [hmc.out] at hput zmc hmm
  rw [hnc.out] at hput nk nz nput
  rw [hcl.out] at gcl ncl ocl hput
  have HK0 := Lib.hid hmm
  have HM0 := Lib.hid hm.mem
  have OW0 := Lib.hid hm.own
  have hs' := Lib.hid hs
  have hp' := Lib.hid hp
  rw [hadq] at k17
  have HAD := Lib.hid hadq
  rw [hs] at k17
  rw [hp] at k20
  clear hmm hm hs hp hadq
  obtain ⟨wd, hwd⟩ : ∃ y, Hid (x.word = y) := ⟨_, rfl⟩
  obtain ⟨pv, hpv⟩ : ∃ y, Hid (x.print = y) := ⟨_, rfl⟩
  rw [hwd.out] at k17
  rw [hpv.out] at k20
  obtain ⟨ps, hps⟩ : ∃ y, Hid (effC x = y) := ⟨_, rfl⟩
  rw [hps.out] at k16 k17 k20 ksz gcl ⊢
  have HN := Lib.hid (heap_alloc_new w (.cells ps 40))
  have HK := Lib.hid ((Below.heap_alloc w (.cells ps 40) _ hKlt).trans HK0.out)
  have HM := Lib.hid ((Below.heap_alloc w (.cells ps 40) _ hMlt).trans HM0.out)
  have OW := Lib.hid (OW0.out.alloc (.cells ps 40))
  have OT := Lib.hid (Others.of_below (K := K) (M := M) hBs ((Below.refl w.heap.size w).alloc (Nat.le_refl _) (.cells ps 40)))
  have sz : w.heap.size < (w.alloc (.cells ps 40)).heap.size := by simp
  clear HK0 HM0 OW0
  go_enter Tryd.func49, Tryd.ntmps49
  go_wp2_with (first | ((with_reducible show wpList _ _ _ (Oper.mk _ (Op.load 35 _) _ _ _ none :: _) _ _); refine wpList_load_mid rfl 35 _ rfl w.heap.size 0 rfl cl _ (range_of HN.out gcl.out) Tryd.underlying35 rfl (by rw [ncl.out]; kernel_rfl) ?_) | ((with_reducible show wpList _ _ _ (Oper.mk none (Op.store 35 _ _) _ _ _ none :: _) _ _); refine wpList_store_part rfl rfl 35 _ _ rfl K mc cl.toArray rfl rfl HK.out (by have := zmc.out; have := ncl.out; simp; omega) (by rw [List.size_toArray, ncl.out]; kernel_rfl) ocl.out ?_; intro U hU; have HKn := Lib.hid (hU.at_.trans (congrArg (fun z => some (Obj.cells z 75 (0, 0))) hput.out)); have HMn := Lib.hid ((hU.block M (Ne.symm hne)).trans HM.out); have HNn := Lib.hid ((hU.block w.heap.size (by omega)).trans HN.out); have OTn := Lib.hid (OT.out.setK hU); have OWn := Lib.hid (own_set OW.out hKB hU); have szn : w.heap.size < U.heap.size := (by rw [hU.size]; exact sz); clear HK HM HN OT OW hU sz; have HK := HKn; have HM := HMn; have HN := HNn; have OT := OTn; have OW := OWn; have sz := szn; clear HKn HMn HNn OTn OWn szn; have m17 := (cell_of_row _ _ 17 _ _ _ HN.out).trans k17.out.1; have m18 := (cell_of_row _ _ 18 _ _ _ HN.out).trans k17.out.2.1; have m19 := (cell_of_row _ _ 19 _ _ _ HN.out).trans k17.out.2.2; have m20 := (cell_of_row _ _ 20 _ _ _ HN.out).trans k20.out.1; have m21 := (cell_of_row _ _ 21 _ _ _ HN.out).trans k20.out.2; have n17 := (cell_of_row _ _ 17 _ _ _ HK.out).trans nk.out.2.1; have n18 := (cell_of_row _ _ 18 _ _ _ HK.out).trans nk.out.2.2; rw [← hsm.out] at n17; rw [← hso.out] at n18))
  go_still_tail 9, (by kernel_rfl)
  change wpList _ _ _ _ _ U.drew
  clear m17 m18 m19 m20 m21 n17 n18
  have HKn := Lib.hid (show U.drew.heap[K]? = _ from HK.out)
  have HMn := Lib.hid (show U.drew.heap[M]? = _ from HM.out)
  have HNn := Lib.hid (show U.drew.heap[w.heap.size]? = _ from HN.out)
  have OTn := Lib.hid OT.out.drew
  have OWn := Lib.hid (own_drew OW.out)
  have szn : w.heap.size < U.drew.heap.size := sz
  clear HK HM HN OT OW sz
  obtain ⟨V, hV⟩ : ∃ V, Hid (U.drew = V) := ⟨_, Lib.hid rfl⟩
  rw [hV.out] at HKn HMn HNn OTn OWn szn ⊢
  clear hV
  have HK := HKn
  have HM := HMn
  have HN := HNn
  have OT := OTn
  have OW := OWn
  have sz := szn
  clear HKn HMn HNn OTn OWn szn
  go_wp2_with (first | ((with_reducible show wpList _ _ _ (Oper.mk none (Op.store 3 _ _) _ _ _ none :: _) _ _); refine wpList_store_cell rfl rfl 3 _ _ rfl M ad (numsC m) (.int .i64 wd) rfl rfl HM.out (by rw [numsC_size]; exact hadL) (by kernel_rfl) rfl ?_; intro U hU; have HKn := Lib.hid ((hU.block K hne).trans HK.out); have HMn := Lib.hid (hU.at_.trans (congrArg (fun z => some (Obj.cells z 3 (0, 0))) (numsC_set m ad wd))); have HNn := Lib.hid ((hU.block w.heap.size (by omega)).trans HN.out); have OTn := Lib.hid (OT.out.setM hU); have OWn := Lib.hid (own_set OW.out hMB hU); have szn : w.heap.size < U.heap.size := (by rw [hU.size]; exact sz); clear HK HM HN OT OW hU sz; have HK := HKn; have HM := HMn; have HN := HNn; have OT := OTn; have OW := OWn; have sz := szn; clear HKn HMn HNn OTn OWn szn; have m17 := (cell_of_row _ _ 17 _ _ _ HN.out).trans k17.out.1; have m18 := (cell_of_row _ _ 18 _ _ _ HN.out).trans k17.out.2.1; have m19 := (cell_of_row _ _ 19 _ _ _ HN.out).trans k17.out.2.2; have m20 := (cell_of_row _ _ 20 _ _ _ HN.out).trans k20.out.1; have m21 := (cell_of_row _ _ 21 _ _ _ HN.out).trans k20.out.2; have n17 := (cell_of_row _ _ 17 _ _ _ HK.out).trans nk.out.2.1; have n18 := (cell_of_row _ _ 18 _ _ _ HK.out).trans nk.out.2.2; rw [← hsm.out] at n17; rw [← hso.out] at n18))
  refine bodyPost_end (results_none rfl _ _ _) rfl ?_
  unfold Taken
  refine ⟨rfl, ⟨A, d, ?_⟩, OT.out⟩
  rw [hs'.out, hp'.out, if_pos rfl, if_neg (by decide), HAD.out, hwd.out]
  exact ⟨by rw [HK.out, ← hnc.out, ← hsm.out, ← hso.out, Int.toNat_natCast, List.length_set], HM.out, OW.out, hKB, hMB, hne, by omega⟩
set_option maxRecDepth 100000 in
set_option maxHeartbeats 4000000 in
theorem take_np (B K M : Nat) (c : Cpu) (m out : List Int) (A : Option Addr) (d : Nat) (x : Eff) (w : World) (hm : Mach B K M c m A d out w) (hl : c.r.length = 16) (hx : x.cpu.r.length = 16) (hs : x.stores = false) (hp : x.prints = true) (hout : out.length ≤ 200000) :
    Calls Tryd.prog 49 #[.pointer (some ⟨K, 0, none⟩), .agg (effC x)] w (Taken B K M m out x w) := by
  have hKlt : K < w.heap.size := Nat.lt_of_lt_of_le hm.hK hm.size
  have hMlt : M < w.heap.size := Nat.lt_of_lt_of_le hm.hM hm.size
  have hne := hm.ne
  have hKB := hm.hK
  have hMB := hm.hM
  have hBs := hm.size
  have k16 := Lib.hid (effC_at16 x hx)
  have k17 := Lib.hid (effC_at17 x hx)
  have k20 := Lib.hid (effC_at20 x hx)
  have ksz := Lib.hid (effC_size hx)
  obtain ⟨cl, hcl⟩ : ∃ y, Hid ((cpuC x.cpu).toList = y) := ⟨_, rfl⟩
  have gcl := Lib.hid (effC_cpu x hx)
  have ncl := Lib.hid (show (cpuC x.cpu).toList.length = 17 by rw [Array.length_toList]; exact cpuC_size hx)
  have ocl := Lib.hid (show ((cpuC x.cpu).toList.toArray).all (·.oneCell') = true from cpuC_one x.cpu)
  obtain ⟨so, hso⟩ : ∃ y, Hid (Value.slice A out.length d = y) := ⟨_, rfl⟩
  obtain ⟨sm, hsm⟩ : ∃ y, Hid (Value.slice (some ⟨M, 0, none⟩) m.length m.length = y) := ⟨_, rfl⟩
  have hput := Lib.hid (machC_put (m := sm) (o := so) x.cpu hl hx)
  have zmc := Lib.hid (machC_size (m := sm) (o := so) hl)
  have nk := Lib.hid (machC_at (m := sm) (o := so) hx)
  have nz := Lib.hid (machC_size (m := sm) (o := so) hx)
  have nput := Lib.hid (fun v => machC_out (m := sm) (o := so) hx v)
  have hmm := hm.mach
  rw [hso.out, hsm.out] at hmm
  obtain ⟨mc, hmc⟩ : ∃ y, Hid (machC c sm so = y) := ⟨_, rfl⟩
  obtain ⟨nc, hnc⟩ : ∃ y, Hid (machC x.cpu sm so = y) := ⟨_, rfl⟩
  rw [hmc.out] at hput zmc hmm
  rw [hnc.out] at hput nk nz nput
  rw [hcl.out] at gcl ncl ocl hput
  have HK0 := Lib.hid hmm
  have HM0 := Lib.hid hm.mem
  have OW0 := Lib.hid hm.own
  have hs' := Lib.hid hs
  have hp' := Lib.hid hp
  rw [hs] at k17
  rw [hp] at k20
  clear hmm hm hs hp
  obtain ⟨wd, hwd⟩ : ∃ y, Hid (x.word = y) := ⟨_, rfl⟩
  obtain ⟨pv, hpv⟩ : ∃ y, Hid (x.print = y) := ⟨_, rfl⟩
  rw [hwd.out] at k17
  rw [hpv.out] at k20
  obtain ⟨ps, hps⟩ : ∃ y, Hid (effC x = y) := ⟨_, rfl⟩
  rw [hps.out] at k16 k17 k20 ksz gcl ⊢
  have HN := Lib.hid (heap_alloc_new w (.cells ps 40))
  have HK := Lib.hid ((Below.heap_alloc w (.cells ps 40) _ hKlt).trans HK0.out)
  have HM := Lib.hid ((Below.heap_alloc w (.cells ps 40) _ hMlt).trans HM0.out)
  have OW := Lib.hid (OW0.out.alloc (.cells ps 40))
  have OT := Lib.hid (Others.of_below (K := K) (M := M) hBs ((Below.refl w.heap.size w).alloc (Nat.le_refl _) (.cells ps 40)))
  have sz : w.heap.size < (w.alloc (.cells ps 40)).heap.size := by simp
  clear HK0 HM0 OW0
  go_enter Tryd.func49, Tryd.ntmps49
  go_wp2_with (first | ((with_reducible show wpList _ _ _ (Oper.mk _ (Op.load 35 _) _ _ _ none :: _) _ _); refine wpList_load_mid rfl 35 _ rfl w.heap.size 0 rfl cl _ (range_of HN.out gcl.out) Tryd.underlying35 rfl (by rw [ncl.out]; kernel_rfl) ?_) | ((with_reducible show wpList _ _ _ (Oper.mk none (Op.store 35 _ _) _ _ _ none :: _) _ _); refine wpList_store_part rfl rfl 35 _ _ rfl K mc cl.toArray rfl rfl HK.out (by have := zmc.out; have := ncl.out; simp; omega) (by rw [List.size_toArray, ncl.out]; kernel_rfl) ocl.out ?_; intro U hU; have HKn := Lib.hid (hU.at_.trans (congrArg (fun z => some (Obj.cells z 75 (0, 0))) hput.out)); have HMn := Lib.hid ((hU.block M (Ne.symm hne)).trans HM.out); have HNn := Lib.hid ((hU.block w.heap.size (by omega)).trans HN.out); have OTn := Lib.hid (OT.out.setK hU); have OWn := Lib.hid (own_set OW.out hKB hU); have szn : w.heap.size < U.heap.size := (by rw [hU.size]; exact sz); clear HK HM HN OT OW hU sz; have HK := HKn; have HM := HMn; have HN := HNn; have OT := OTn; have OW := OWn; have sz := szn; clear HKn HMn HNn OTn OWn szn; have m17 := (cell_of_row _ _ 17 _ _ _ HN.out).trans k17.out.1; have m18 := (cell_of_row _ _ 18 _ _ _ HN.out).trans k17.out.2.1; have m19 := (cell_of_row _ _ 19 _ _ _ HN.out).trans k17.out.2.2; have m20 := (cell_of_row _ _ 20 _ _ _ HN.out).trans k20.out.1; have m21 := (cell_of_row _ _ 21 _ _ _ HN.out).trans k20.out.2; have n17 := (cell_of_row _ _ 17 _ _ _ HK.out).trans nk.out.2.1; have n18 := (cell_of_row _ _ 18 _ _ _ HK.out).trans nk.out.2.2; rw [← hsm.out] at n17; rw [← hso.out] at n18))
  have HS := Lib.hid (And.intro n18 m21)
  clear m17 m18 m19 m20 m21 n17 n18
  refine wp_region_U (S := fun w_ => w_.cell? ⟨K, 18, none⟩ = some (.slice A out.length d) ∧ w_.cell? ⟨w.heap.size, 21, none⟩ = some (.int .i64 pv)) (L := [4, 6, 7]) (by kernel_rfl) ?_
  refine wpAnyU_late (i := 0) (v := ?_) rfl (by kernel_rfl) (by kernel_rfl) (by kernel_rfl) (by kernel_rfl) (fun _ _ _ h => h) (Or.inl ⟨by rfl, ?_⟩) ?_
  rotate_left 1
  · intro w_ hSw
    clear hSw
    (go_simp) <;> (with_reducible rfl)
  (try simp only [Act.put, List.getElem_toArray, List.getElem_cons_zero, List.setIfInBounds_toArray, List.set_cons_zero, List.set_cons_succ])
  refine wpAnyU_late (i := 1) (v := ?_) rfl (by kernel_rfl) (by kernel_rfl) (by kernel_rfl) (by kernel_rfl) (fun _ _ _ h => h) (Or.inl ⟨by rfl, ?_⟩) ?_
  rotate_left 1
  · intro w_ hSw
    clear hSw
    (go_simp) <;> (with_reducible rfl)
  (try simp only [Act.put, List.getElem_toArray, List.getElem_cons_zero, List.getElem_cons_succ, List.setIfInBounds_toArray, List.set_cons_zero, List.set_cons_succ])
  refine wpAnyU_late (i := 2) (v := ?_) rfl (by kernel_rfl) (by kernel_rfl) (by kernel_rfl) (by kernel_rfl) (fun _ _ _ h => h) (Or.inl ⟨by rfl, ?_⟩) ?_
  rotate_left 1
  · intro w_ hSw
    clear hSw
    (go_simp) <;> (with_reducible rfl)
  (try simp only [Act.put, List.getElem_toArray, List.getElem_cons_zero, List.getElem_cons_succ, List.setIfInBounds_toArray, List.set_cons_zero, List.set_cons_succ])
  refine wpAnyU_late (i := 3) (v := ?_) rfl (by kernel_rfl) (by kernel_rfl) (by kernel_rfl) (by kernel_rfl) (fun _ _ _ h => h) (Or.inl ⟨by rfl, ?_⟩) ?_
  rotate_left 1
  · intro w_ hSw
    clear hSw
    (go_simp) <;> (with_reducible rfl)
  (try simp only [Act.put, List.getElem_toArray, List.getElem_cons_zero, List.getElem_cons_succ, List.setIfInBounds_toArray, List.set_cons_zero, List.set_cons_succ])
  refine wpAnyU_late (i := 5) (v := ?_) rfl (by kernel_rfl) (by kernel_rfl) (by kernel_rfl) (by kernel_rfl) (fun _ _ _ h => h) (Or.inl ⟨by rfl, ?_⟩) ?_
  rotate_left 1
  · intro w_ hSw
    clear hSw
    (go_simp) <;> (with_reducible rfl)
  (try simp only [Act.put, List.getElem_toArray, List.getElem_cons_zero, List.getElem_cons_succ, List.setIfInBounds_toArray, List.set_cons_zero, List.set_cons_succ])
  refine wpAnyU_take (i := 4) (v := ?_) rfl (by kernel_rfl) (by kernel_rfl) (by kernel_rfl) (by kernel_rfl) (by kernel_rfl) (fun _ _ _ h => h) (Or.inl ⟨by rfl, ?_⟩) HS.out ?_
  rotate_left 1
  · intro w_ hSw
    obtain ⟨s18, s21⟩ := hSw
    (go_simp) <;> (with_reducible rfl)
  (try simp only [Act.put, List.getElem_toArray, List.getElem_cons_zero, List.getElem_cons_succ, List.setIfInBounds_toArray, List.set_cons_zero, List.set_cons_succ])
  refine wpAnyU_take (i := 6) (v := ?_) rfl (by kernel_rfl) (by kernel_rfl) (by kernel_rfl) (by kernel_rfl) (by kernel_rfl) (fun _ _ _ h => h) (Or.inl ⟨by rfl, ?_⟩) HS.out ?_
  rotate_left 1
  · intro w_ hSw
    obtain ⟨s18, s21⟩ := hSw
    (go_simp) <;> (with_reducible rfl)
  (try simp only [Act.put, List.getElem_toArray, List.getElem_cons_zero, List.getElem_cons_succ, List.setIfInBounds_toArray, List.set_cons_zero, List.set_cons_succ])
  have HKn := Lib.hid (show U.drew.heap[K]? = _ from HK.out)
  have HMn := Lib.hid (show U.drew.heap[M]? = _ from HM.out)
  have OTn := Lib.hid OT.out.drew
  have OWn := Lib.hid (own_drew OW.out)
  have szn : w.heap.size < U.drew.heap.size := sz
  have HSn := Lib.hid (show U.drew.cell? ⟨K, 18, none⟩ = some (.slice A out.length d) ∧ U.drew.cell? ⟨w.heap.size, 21, none⟩ = some (.int .i64 pv) from HS.out)
  clear HK HM HN OT OW sz HS
  obtain ⟨V, hV⟩ : ∃ V, Hid (U.drew = V) := ⟨_, Lib.hid rfl⟩
  rw [hV.out] at HKn HMn OTn OWn szn HSn ⊢
  clear hV
  refine wpAnyU_ready (rs := [7]) (by kernel_rfl) (by simp) (AllU.cons rfl (fun K_ hK => ?_) AllU.nil)
  go_simp
  have hKV : K < V.heap.size := by omega
  have hMV : M < V.heap.size := by omega
  refine hK.out _ _ (fun _ => ⟨(Below.refl V.heap.size V |>.alloc (Nat.le_refl _) _ |>.cell (p := ⟨K, 18, none⟩) hKV).trans HSn.out.1, (Below.refl V.heap.size V |>.alloc (Nat.le_refl _) _ |>.cell (p := ⟨w.heap.size, 21, none⟩) szn).trans HSn.out.2⟩) ?_
  clear hK K_
  (try simp only [Act.put, List.getElem_toArray, List.getElem_cons_zero, List.getElem_cons_succ, List.setIfInBounds_toArray, List.set_cons_zero, List.set_cons_succ])
  have HK := Lib.hid ((Below.heap_alloc V (.cells #[.int .i64 pv] 3) _ hKV).trans HKn.out)
  have HM := Lib.hid ((Below.heap_alloc V (.cells #[.int .i64 pv] 3) _ hMV).trans HMn.out)
  have OT := Lib.hid (OTn.out.trans (Others.of_below (K := K) (M := M) (show B ≤ V.heap.size by omega) ((Below.refl V.heap.size V).alloc (Nat.le_refl _) (.cells #[.int .i64 pv] 3))))
  have OW := Lib.hid (OWn.out.alloc (.cells #[.int .i64 pv] 3))
  have CN := Lib.hid (cell_one V pv 3)
  have szW : B ≤ (V.alloc (.cells #[.int .i64 pv] 3)).heap.size := by simp; omega
  clear HKn HMn OTn OWn HSn
  obtain ⟨i0, hi, hz0, hz1, hz2⟩ := info_parts int_info
  refine wpAnyU_ready (rs := [8]) (by kernel_rfl) (by simp) (AllU.cons rfl (fun K_ hK => ?_) AllU.nil)
  rw [if_pos (by rfl)]
  refine wp_append_own _ _ _ 44 rfl B 3 i0 (.int .i64 0) 1 8 Tryd.underlying44 hi hz0 hz1 hz2 rfl (by decide) (.slice A out.length d) out.length (out.map (Value.int .i64)) rfl OW.out ⟨V.heap.size, 0, none⟩ 1 1 [.int .i64 pv] rfl rfl CN.out (by simp [Value.oneCell']) (by unfold maxLen; omega) (by omega) szW ?_
  intro v3 w3 hown3 hgrow3 _
  have hlow : ∀ k, (Value.slice A out.length d).ownBlock = some k → B ≤ k := fun k hk => (OW.out.lt k hk).1
  have neK : some K ≠ (Value.slice A out.length d).ownBlock := fun e => by have := hlow K e.symm; omega
  have neM : some M ≠ (Value.slice A out.length d).ownBlock := fun e => by have := hlow M e.symm; omega
  have HK3 := Lib.hid ((hgrow3.block K (by omega) neK).trans HK.out)
  have HM3 := Lib.hid ((hgrow3.block M (by omega) neM).trans HM.out)
  have OT3 := Lib.hid (OT.out.trans (⟨hgrow3.os, hgrow3.tape, hgrow3.output, hgrow3.size, fun b hb _ _ => hgrow3.block b (by omega) (fun e => by have := hlow b e.symm; omega)⟩ : Others B K M _ _))
  have sz3 : B ≤ w3.heap.size := Nat.le_trans szW hgrow3.size
  have HO3 := Lib.hid (show w3.ownsRow B 3 1 v3 (out ++ [pv]).length ((out ++ [pv]).map (Value.int .i64)) by
    have := hown3
    rw [show (out ++ [pv]).length = out.length + 1 by simp, List.map_append]
    exact this)
  clear hown3 hgrow3 HK HM OT OW CN szW
  refine hK.out _ _ (fun h => absurd h (by decide)) ?_
  clear hK K_
  (try simp only [Act.put, List.getElem_toArray, List.getElem_cons_zero, List.getElem_cons_succ, List.setIfInBounds_toArray, List.set_cons_zero, List.set_cons_succ])
  obtain ⟨A3, d3, rfl⟩ := own_form HO3.out
  refine wpAnyU_late (i := 9) (v := ?_) rfl (by kernel_rfl) (by kernel_rfl) (by kernel_rfl) (by kernel_rfl) (fun _ _ _ h => h) (Or.inl ⟨by rfl, ?_⟩) ?_
  rotate_left 1
  · intro w_ hSw
    clear hSw
    (go_simp) <;> (with_reducible rfl)
  (try simp only [Act.put, List.getElem_toArray, List.getElem_cons_zero, List.getElem_cons_succ, List.setIfInBounds_toArray, List.set_cons_zero, List.set_cons_succ])
  refine wpAnyU_late (i := 10) (v := ?_) rfl (by kernel_rfl) (by kernel_rfl) (by kernel_rfl) (by kernel_rfl) (fun _ _ _ h => h) (Or.inl ⟨by rfl, ?_⟩) ?_
  rotate_left 1
  · intro w_ hSw
    clear hSw
    (go_simp) <;> (with_reducible rfl)
  (try simp only [Act.put, List.getElem_toArray, List.getElem_cons_zero, List.getElem_cons_succ, List.setIfInBounds_toArray, List.set_cons_zero, List.set_cons_succ])
  refine wpAnyU_ready (rs := [11]) (by kernel_rfl) (by simp) (AllU.cons rfl (fun K_ hK => ?_) AllU.nil)
  rw [if_pos (by rfl)]
  refine wp_store_cell rfl 44 _ _ rfl K 18 nc (.slice A3 (out ++ [pv]).length d3) rfl rfl HK3.out (by rw [nz.out]; omega) (by kernel_rfl) rfl ?_
  intro E hE
  refine hK.out _ _ (fun h => absurd h (by decide)) ?_
  clear hK K_
  (try simp only [Act.put, List.getElem_toArray, List.getElem_cons_zero, List.getElem_cons_succ, List.setIfInBounds_toArray, List.set_cons_zero, List.set_cons_succ])
  refine wpAnyU_done (by kernel_rfl) ?_ _
  go_wp2_with fail
  refine bodyPost_end (results_none rfl _ _ _) rfl ?_
  unfold Taken
  refine ⟨rfl, ⟨A3, d3, ?_⟩, OT3.out.setK hE⟩
  rw [hs'.out, hp'.out, if_neg (by decide), if_pos rfl, hpv.out]
  exact ⟨by rw [hE.at_, nput.out, ← hsm.out], (hE.block M (Ne.symm hne)).trans HM3.out, own_set HO3.out hKB hE, hKB, hMB, hne, by rw [hE.size]; exact sz3⟩
set_option maxRecDepth 100000 in
set_option maxHeartbeats 4000000 in
theorem take_nn (B K M : Nat) (c : Cpu) (m out : List Int) (A : Option Addr) (d : Nat) (x : Eff) (w : World) (hm : Mach B K M c m A d out w) (hl : c.r.length = 16) (hx : x.cpu.r.length = 16) (hs : x.stores = false) (hp : x.prints = false) :
    Calls Tryd.prog 49 #[.pointer (some ⟨K, 0, none⟩), .agg (effC x)] w (Taken B K M m out x w) := by
  have hKlt : K < w.heap.size := Nat.lt_of_lt_of_le hm.hK hm.size
  have hMlt : M < w.heap.size := Nat.lt_of_lt_of_le hm.hM hm.size
  have hne := hm.ne
  have hKB := hm.hK
  have hMB := hm.hM
  have hBs := hm.size
  have k16 := Lib.hid (effC_at16 x hx)
  have k17 := Lib.hid (effC_at17 x hx)
  have k20 := Lib.hid (effC_at20 x hx)
  have ksz := Lib.hid (effC_size hx)
  obtain ⟨cl, hcl⟩ : ∃ y, Hid ((cpuC x.cpu).toList = y) := ⟨_, rfl⟩
  have gcl := Lib.hid (effC_cpu x hx)
  have ncl := Lib.hid (show (cpuC x.cpu).toList.length = 17 by rw [Array.length_toList]; exact cpuC_size hx)
  have ocl := Lib.hid (show ((cpuC x.cpu).toList.toArray).all (·.oneCell') = true from cpuC_one x.cpu)
  obtain ⟨so, hso⟩ : ∃ y, Hid (Value.slice A out.length d = y) := ⟨_, rfl⟩
  obtain ⟨sm, hsm⟩ : ∃ y, Hid (Value.slice (some ⟨M, 0, none⟩) m.length m.length = y) := ⟨_, rfl⟩
  have hput := Lib.hid (machC_put (m := sm) (o := so) x.cpu hl hx)
  have zmc := Lib.hid (machC_size (m := sm) (o := so) hl)
  have nk := Lib.hid (machC_at (m := sm) (o := so) hx)
  have nz := Lib.hid (machC_size (m := sm) (o := so) hx)
  have nput := Lib.hid (fun v => machC_out (m := sm) (o := so) hx v)
  have hmm := hm.mach
  rw [hso.out, hsm.out] at hmm
  obtain ⟨mc, hmc⟩ : ∃ y, Hid (machC c sm so = y) := ⟨_, rfl⟩
  obtain ⟨nc, hnc⟩ : ∃ y, Hid (machC x.cpu sm so = y) := ⟨_, rfl⟩
  rw [hmc.out] at hput zmc hmm
  rw [hnc.out] at hput nk nz nput
  rw [hcl.out] at gcl ncl ocl hput
  have HK0 := Lib.hid hmm
  have HM0 := Lib.hid hm.mem
  have OW0 := Lib.hid hm.own
  have hs' := Lib.hid hs
  have hp' := Lib.hid hp
  rw [hs] at k17
  rw [hp] at k20
  clear hmm hm hs hp
  obtain ⟨wd, hwd⟩ : ∃ y, Hid (x.word = y) := ⟨_, rfl⟩
  obtain ⟨pv, hpv⟩ : ∃ y, Hid (x.print = y) := ⟨_, rfl⟩
  rw [hwd.out] at k17
  rw [hpv.out] at k20
  obtain ⟨ps, hps⟩ : ∃ y, Hid (effC x = y) := ⟨_, rfl⟩
  rw [hps.out] at k16 k17 k20 ksz gcl ⊢
  have HN := Lib.hid (heap_alloc_new w (.cells ps 40))
  have HK := Lib.hid ((Below.heap_alloc w (.cells ps 40) _ hKlt).trans HK0.out)
  have HM := Lib.hid ((Below.heap_alloc w (.cells ps 40) _ hMlt).trans HM0.out)
  have OW := Lib.hid (OW0.out.alloc (.cells ps 40))
  have OT := Lib.hid (Others.of_below (K := K) (M := M) hBs ((Below.refl w.heap.size w).alloc (Nat.le_refl _) (.cells ps 40)))
  have sz : w.heap.size < (w.alloc (.cells ps 40)).heap.size := by simp
  clear HK0 HM0 OW0
  go_enter Tryd.func49, Tryd.ntmps49
  go_wp2_with (first | ((with_reducible show wpList _ _ _ (Oper.mk _ (Op.load 35 _) _ _ _ none :: _) _ _); refine wpList_load_mid rfl 35 _ rfl w.heap.size 0 rfl cl _ (range_of HN.out gcl.out) Tryd.underlying35 rfl (by rw [ncl.out]; kernel_rfl) ?_) | ((with_reducible show wpList _ _ _ (Oper.mk none (Op.store 35 _ _) _ _ _ none :: _) _ _); refine wpList_store_part rfl rfl 35 _ _ rfl K mc cl.toArray rfl rfl HK.out (by have := zmc.out; have := ncl.out; simp; omega) (by rw [List.size_toArray, ncl.out]; kernel_rfl) ocl.out ?_; intro U hU; have HKn := Lib.hid (hU.at_.trans (congrArg (fun z => some (Obj.cells z 75 (0, 0))) hput.out)); have HMn := Lib.hid ((hU.block M (Ne.symm hne)).trans HM.out); have HNn := Lib.hid ((hU.block w.heap.size (by omega)).trans HN.out); have OTn := Lib.hid (OT.out.setK hU); have OWn := Lib.hid (own_set OW.out hKB hU); have szn : w.heap.size < U.heap.size := (by rw [hU.size]; exact sz); clear HK HM HN OT OW hU sz; have HK := HKn; have HM := HMn; have HN := HNn; have OT := OTn; have OW := OWn; have sz := szn; clear HKn HMn HNn OTn OWn szn; have m17 := (cell_of_row _ _ 17 _ _ _ HN.out).trans k17.out.1; have m18 := (cell_of_row _ _ 18 _ _ _ HN.out).trans k17.out.2.1; have m19 := (cell_of_row _ _ 19 _ _ _ HN.out).trans k17.out.2.2; have m20 := (cell_of_row _ _ 20 _ _ _ HN.out).trans k20.out.1; have m21 := (cell_of_row _ _ 21 _ _ _ HN.out).trans k20.out.2; have n17 := (cell_of_row _ _ 17 _ _ _ HK.out).trans nk.out.2.1; have n18 := (cell_of_row _ _ 18 _ _ _ HK.out).trans nk.out.2.2; rw [← hsm.out] at n17; rw [← hso.out] at n18))
  refine bodyPost_end (results_none rfl _ _ _) rfl ?_
  unfold Taken
  refine ⟨rfl, ⟨A, d, ?_⟩, OT.out⟩
  rw [hs'.out, hp'.out, if_neg (by decide), if_neg (by decide)]
  exact ⟨by rw [HK.out, ← hnc.out, ← hsm.out, ← hso.out], HM.out, OW.out, hKB, hMB, hne, by omega⟩
theorem take_any (B K M : Nat) (c : Cpu) (m out : List Int) (A : Option Addr) (d : Nat) (x : Eff) (w : World) (hm : Mach B K M c m A d out w) (hl : c.r.length = 16) (hx : x.cpu.r.length = 16) (hs : x.stores = true → 0 ≤ x.addr ∧ x.addr < m.length) (hout : out.length ≤ 200000) :
    Calls Tryd.prog 49 #[.pointer (some ⟨K, 0, none⟩), .agg (effC x)] w (Taken B K M m out x w) := by
  cases h1 : x.stores with
  | true =>
    obtain ⟨a0, a1⟩ := hs h1
    obtain ⟨ad, had⟩ := Int.eq_ofNat_of_zero_le a0
    cases h2 : x.prints with
    | true => exact take_sp B K M c m out A d x w hm hl hx h1 h2 ad had (by omega) hout
    | false => exact take_sn B K M c m out A d x w hm hl hx h1 h2 ad had (by omega)
  | false =>
    cases h2 : x.prints with
    | true => exact take_np B K M c m out A d x w hm hl hx h1 h2 hout
    | false => exact take_nn B K M c m out A d x w hm hl hx h1 h2
end Go.Proofs.YtimiofmmhccmmaaDoor
