/-
  What the machine's step does: the plain step. Condition: registers and memory of 64 bits, a memory of at most 16384 words.
-/
import Derived.Test.YtimiofmmhccmmaaDoorITake
import Derived.StillTailTactics
namespace Go.Proofs.YtimiofmmhccmmaaDoor
open Go.RowKit

section
variable {P : Program} {op : Oper} {a : Act} {w : World} {K : Act → Prop}
theorem still_val (v : Value) (hr : (execOp a.eval op).run P w = .ok (.value v) w) (h : K (a.put op.dst v)) : op.still P a w K := by
  unfold Oper.still
  rw [hr]
  exact ⟨rfl, h⟩
theorem exec_load_head (T : TypeId) (x : Operand) (ho : op.op = .load T x) (b : Nat) (hx : a.eval x = .pointer (some ⟨b, 0, none⟩)) (cs : Array Value) (d : TypeDesc) (hc : w.rangeAt b 0 cs.toList)
    (hu : P.underlying T = some d) (hd : d.isRow = true) (hi : (P.info? T).map (·.size) = some cs.size) : (execOp a.eval op).run P w = .ok (.value (.agg cs)) w := by
  unfold execOp
  have := run_loadVar_mid (P := P) w b 0 T cs.toList d hc hu hd (by rw [hi, Array.length_toList])
  simp only [ho, hx, Instr.loadAt, Instr.sureAddr, Sem.run_bind, Sem.run_pure, Result.andThen_ok, this]
end
/-- A step that fails, and one that is made. -/
def NoStep (w : World) (e : Ending) (w' : World) : Prop := e = .returned (.bool false) ∧ Below w.heap.size w w'
def DoStep (B K M : Nat) (m out : List Int) (x : Eff) (w : World) (e : Ending) (w' : World) : Prop :=
  e = .returned (.bool true) ∧ (∃ A d, Mach B K M x.cpu (if x.stores then m.set x.addr.toNat x.word else m) A d (if x.prints then out ++ [x.print] else out) w') ∧ Others B K M w w'
set_option maxRecDepth 100000 in
set_option maxHeartbeats 4000000 in
theorem step_out (B K M : Nat) (c : Cpu) (m out : List Int) (A : Option Addr) (d : Nat) (w : World) (hm : Mach B K M c m A d out w) (hc : c.Fits) (h : c.pc < 0 ∨ (m.length : Int) ≤ c.pc) : Calls Tryd.prog 45 #[.pointer (some ⟨K, 0, none⟩)] w (NoStep w) := by
  have hl := Lib.hid hc.len
  have HM0 := Lib.hid hm
  have c16 := (cell_of_row _ _ 16 _ _ _ hm.mach).trans (machC_at hc.len).1
  obtain ⟨pc, hpc⟩ : ∃ y, Hid (c.pc = y) := ⟨_, rfl⟩
  rw [hpc.out] at c16 h
  have KW := Lib.hid (word_no K M m.length _ pc w hm.mach (machC_at hc.len).2.1 h)
  obtain ⟨x, hx'⟩ : ∃ x, decI 0 = x := ⟨_, rfl⟩
  obtain ⟨x0, x1, x2, x3, x4⟩ := x
  have hd4 : decE 0 = 4 := by decide
  have KD := Lib.hid (show ∀ W : World, Calls Tryd.prog 12 #[.int .i64 0] W (Gives2 W (insV ⟨x0, x1, x2, x3, x4⟩) (.int .i64 4)) from fun W => by
    have := decode_any 0 ⟨by decide, by decide⟩ W
    rw [hx', hd4] at this
    exact this)
  clear hx' hd4 hc hm hpc h hl HM0
  go_enter Tryd.func45, Tryd.ntmps45
  go_wp2_with (go_at_call 47; refine (KW.out).mono ?_; rintro e w' ⟨rfl, rfl⟩)
  refine (KD.out _).mono ?_
  rintro e w1 ⟨rfl, hb1⟩
  go_wp2_with fail
  go_ret
  exact ⟨rfl, hb1.alloc hb1.size _⟩
set_option maxRecDepth 100000 in
set_option maxHeartbeats 4000000 in
theorem step_dec (B K M : Nat) (c : Cpu) (m out : List Int) (A : Option Addr) (d : Nat) (w : World) (hm : Mach B K M c m A d out w) (hc : c.Fits) (p : Nat) (hp : c.pc = p) (hlt : p < m.length) (v : Int) (hvf : I64 v) (hv : m.getD p 0 = v) (x : Ins) (hx : decI v = x) (hd : decE v ≠ 0) : Calls Tryd.prog 45 #[.pointer (some ⟨K, 0, none⟩)] w (NoStep w) := by
  have hl := Lib.hid hc.len
  have HM0 := Lib.hid hm
  have c16 := (cell_of_row _ _ 16 _ _ _ hm.mach).trans (machC_at hc.len).1
  have hd4 : decE v = 4 := (decE_cases v).resolve_left hd
  rw [hp] at c16
  have KW := Lib.hid (word_yes K M m.length p _ v w hm.mach (machC_at hc.len).2.1 hlt ((cell_of_row _ _ p _ _ _ hm.mem).trans ((numsC_at m p hlt).trans (by rw [hv]))))
  obtain ⟨x0, x1, x2, x3, x4⟩ := x
  have hx' := hx
  have KD := Lib.hid (show ∀ W : World, Calls Tryd.prog 12 #[.int .i64 v] W (Gives2 W (insV ⟨x0, x1, x2, x3, x4⟩) (.int .i64 4)) from fun W => by
    have := decode_any v hvf W
    rw [hx', hd4] at this
    exact this)
  clear hx' hx hd hd4 hc hm hp hv hlt hvf hl HM0
  go_enter Tryd.func45, Tryd.ntmps45
  go_wp2_with (go_at_call 47; refine (KW.out).mono ?_; rintro e w' ⟨rfl, rfl⟩)
  refine (KD.out _).mono ?_
  rintro e w1 ⟨rfl, hb1⟩
  go_wp2_with fail
  go_ret
  exact ⟨rfl, hb1.alloc hb1.size _⟩
set_option maxRecDepth 100000 in
set_option maxHeartbeats 4000000 in
theorem step_rbad (B K M : Nat) (c : Cpu) (m out : List Int) (A : Option Addr) (d : Nat) (w : World) (hm : Mach B K M c m A d out w) (hc : c.Fits) (p : Nat) (hp : c.pc = p) (hlt : p < m.length) (v : Int) (hvf : I64 v) (hv : m.getD p 0 = v) (x : Ins) (hx : decI v = x) (hd : decE v = 0) (hrb : readsB x = true) (ho : readsA c x < 0 ∨ (m.length : Int) ≤ readsA c x) : Calls Tryd.prog 45 #[.pointer (some ⟨K, 0, none⟩)] w (NoStep w) := by
  have hl := Lib.hid hc.len
  have HM0 := Lib.hid hm
  have c16 := (cell_of_row _ _ 16 _ _ _ hm.mach).trans (machC_at hc.len).1
  rw [hp] at c16
  have KW := Lib.hid (word_yes K M m.length p _ v w hm.mach (machC_at hc.len).2.1 hlt ((cell_of_row _ _ p _ _ _ hm.mem).trans ((numsC_at m p hlt).trans (by rw [hv]))))
  have hxf : Ins.Fits x := hx ▸ decI_fits hvf
  obtain ⟨x0, x1, x2, x3, x4⟩ := x
  have hx' := hx
  have KD := Lib.hid (show ∀ W : World, Calls Tryd.prog 12 #[.int .i64 v] W (Gives2 W (insV ⟨x0, x1, x2, x3, x4⟩) (.int .i64 0)) from fun W => by
    have := decode_any v hvf W
    rw [hx', hd] at this
    exact this)
  obtain ⟨cs, hcs⟩ : ∃ y, Hid (cpuC c = y) := ⟨_, rfl⟩
  have gc := Lib.hid (fun (mm oo : Value) => machC_cpu (m := mm) (o := oo) hc.len)
  have ncs := Lib.hid (cpuC_size hc.len)
  obtain ⟨ra, hra⟩ : ∃ y, Hid (readsA c ⟨x0, x1, x2, x3, x4⟩ = y) := ⟨_, rfl⟩
  have KR := Lib.hid (show ∀ W : World, Calls Tryd.prog 18 #[.agg (cpuC c), insV ⟨x0, x1, x2, x3, x4⟩] W (GivesB W ra true) from fun W => by
    have := reads_any c hc ⟨x0, x1, x2, x3, x4⟩ hxf W
    rw [hra.out, hrb] at this
    exact this)
  rw [hcs.out] at gc ncs KR
  rw [hra.out] at ho
  have HQ := Lib.hid ho
  clear ho
  clear hx' hx hd hc hm hp hv hlt hvf hrb hxf hcs hra
  go_enter Tryd.func45, Tryd.ntmps45
  go_wp2_with (go_at_call 47; refine (KW.out).mono ?_; rintro e w' ⟨rfl, rfl⟩)
  refine (KD.out _).mono ?_
  rintro e w1 ⟨rfl, hb1⟩
  have FX := Lib.hid (heap_alloc_new w1 (.cells #[.int .i64 x0, .int .i64 x1, .int .i64 x2, .int .i64 x3, .int .i64 x4] 23))
  have BW := Lib.hid (hb1.alloc hb1.size (.cells #[.int .i64 x0, .int .i64 x1, .int .i64 x2, .int .i64 x3, .int .i64 x4] 23))
  have sz : w1.heap.size < (w1.alloc (.cells #[.int .i64 x0, .int .i64 x1, .int .i64 x2, .int .i64 x3, .int .i64 x4] 23)).heap.size := by simp
  have w1z : w.heap.size ≤ w1.heap.size := hb1.size
  clear hb1 c16 KW KD
  go_wp2_with fail
  refine wp_region_held_drew (S := fun w_ => w_.heap[K]? = some (.cells (machC c (.slice (some ⟨M, 0, none⟩) m.length m.length) (.slice A out.length d)) 75 (0, 0)) ∧ w_.heap[w1.heap.size]? = some (.cells #[.int .i64 x0, .int .i64 x1, .int .i64 x2, .int .i64 x3, .int .i64 x4] 23 (0, 0))) (by kernel_rfl) ⟨(HM0.out.below BW.out).mach, FX.out⟩ (fun hHeld => ?_)
  clear hHeld
  have BWn := Lib.hid BW.out.drew
  have FXn := Lib.hid (show (w1.alloc (.cells #[.int .i64 x0, .int .i64 x1, .int .i64 x2, .int .i64 x3, .int .i64 x4] 23)).drew.heap[w1.heap.size]? = _ from FX.out)
  have szn : w1.heap.size < (w1.alloc (.cells #[.int .i64 x0, .int .i64 x1, .int .i64 x2, .int .i64 x3, .int .i64 x4] 23)).drew.heap.size := sz
  clear BW FX sz
  obtain ⟨W1, hV⟩ : ∃ V, Hid ((w1.alloc (.cells #[.int .i64 x0, .int .i64 x1, .int .i64 x2, .int .i64 x3, .int .i64 x4] 23)).drew = V) := ⟨_, Lib.hid rfl⟩
  rw [hV.out] at BWn FXn szn ⊢
  clear hV
  have BW := BWn
  have FX := FXn
  have sz := szn
  clear BWn FXn szn
  have HS := Lib.hid (show (fun w_ => w_.heap[K]? = some (.cells (machC c (.slice (some ⟨M, 0, none⟩) m.length m.length) (.slice A out.length d)) 75 (0, 0)) ∧ w_.heap[w1.heap.size]? = some (.cells #[.int .i64 x0, .int .i64 x1, .int .i64 x2, .int .i64 x3, .int .i64 x4] 23 (0, 0))) W1 from ⟨(HM0.out.below BW.out).mach, FX.out⟩)
  refine wpAnyH_take (i := 0) (v := ?_) rfl (by kernel_rfl) (by kernel_rfl) (by kernel_rfl) (fun _ _ _ h => h) (Or.inl ⟨by rfl, ?_⟩) HS.out ?_
  rotate_left 1
  · intro w_ hSw
    clear hSw
    (go_simp) <;> (with_reducible rfl)
  (try simp only [Act.put, List.getElem_toArray, List.getElem_cons_zero, List.setIfInBounds_toArray, List.set_cons_zero, List.set_cons_succ])
  refine wpAnyH_take (i := 1) (v := ?_) rfl (by kernel_rfl) (by kernel_rfl) (by kernel_rfl) (fun _ _ _ h => h) (Or.inl ⟨by rfl, ?_⟩) HS.out ?_
  rotate_left 1
  · intro w_ hSw
    clear hSw
    (go_simp) <;> (with_reducible rfl)
  (try simp only [Act.put, List.getElem_toArray, List.getElem_cons_zero, List.getElem_cons_succ, List.setIfInBounds_toArray, List.set_cons_zero, List.set_cons_succ])
  refine wpAnyH_take (i := 2) (v := ?_) rfl (by kernel_rfl) (by kernel_rfl) (by kernel_rfl) (fun _ _ _ h => h) (Or.inl ⟨by rfl, ?_⟩) HS.out ?_
  rotate_left 1
  · intro w_ hSw
    clear hSw
    (go_simp) <;> (with_reducible rfl)
  (try simp only [Act.put, List.getElem_toArray, List.getElem_cons_zero, List.getElem_cons_succ, List.setIfInBounds_toArray, List.set_cons_zero, List.set_cons_succ])
  refine wpAnyH_take (i := 3) (v := .agg cs) rfl (by kernel_rfl) (by kernel_rfl) (by kernel_rfl) (fun _ _ _ h => h) (Or.inl ⟨by rfl, fun W_ hW => exec_load_head 35 _ rfl K rfl cs _ (range_of hW.1 (gc.out _ _)) Tryd.underlying35 rfl (by rw [ncs.out]; kernel_rfl)⟩) HS.out ?_
  (try simp only [Act.put, List.getElem_toArray, List.getElem_cons_zero, List.getElem_cons_succ, List.setIfInBounds_toArray, List.set_cons_zero, List.set_cons_succ])
  refine wpAnyH_take (i := 4) (v := .agg #[.int .i64 x0, .int .i64 x1, .int .i64 x2, .int .i64 x3, .int .i64 x4]) rfl (by kernel_rfl) (by kernel_rfl) (by kernel_rfl) (fun _ _ _ h => h) (Or.inl ⟨by rfl, fun W_ hW => exec_load_all 23 _ rfl w1.heap.size #[.int .i64 x0, .int .i64 x1, .int .i64 x2, .int .i64 x3, .int .i64 x4] _ rfl hW.2 Tryd.underlying23 rfl (by kernel_rfl)⟩) HS.out ?_
  (try simp only [Act.put, List.getElem_toArray, List.getElem_cons_zero, List.getElem_cons_succ, List.setIfInBounds_toArray, List.set_cons_zero, List.set_cons_succ])
  refine wpAnyH_ready (rs := [5]) (by kernel_rfl) (by simp) (AllReadyH.cons (i := 5) rfl (fun K_ hK => ?_) AllReadyH.nil)
  go_simp
  go_at_call 18
  refine (KR.out _).mono ?_
  rintro e w2 ⟨rfl, hb2⟩
  have BWn := Lib.hid (BW.out.trans (hb2.mono BW.out.size))
  have FXn := Lib.hid ((hb2.block _ sz).trans FX.out)
  have szn : w1.heap.size < w2.heap.size := Nat.lt_of_lt_of_le sz hb2.size
  clear BW FX sz
  have BW := BWn
  have FX := FXn
  have sz := szn
  clear BWn FXn szn
  clear HS hb2 KR
  have HS := Lib.hid (show (fun w_ => w_.heap[K]? = some (.cells (machC c (.slice (some ⟨M, 0, none⟩) m.length m.length) (.slice A out.length d)) 75 (0, 0)) ∧ w_.heap[w1.heap.size]? = some (.cells #[.int .i64 x0, .int .i64 x1, .int .i64 x2, .int .i64 x3, .int .i64 x4] 23 (0, 0))) w2 from ⟨(HM0.out.below BW.out).mach, FX.out⟩)
  refine hK.out _ _ HS.out (fun _ => ?_)
  clear hK K_
  (try simp only [Act.put, List.getElem_toArray, List.getElem_cons_zero, List.getElem_cons_succ, List.setIfInBounds_toArray, List.set_cons_zero, List.set_cons_succ])
  refine wpAnyH_take (i := 6) (v := ?_) rfl (by kernel_rfl) (by kernel_rfl) (by kernel_rfl) (fun _ _ _ h => h) (Or.inl ⟨by rfl, ?_⟩) HS.out ?_
  rotate_left 1
  · intro w_ hSw
    clear hSw
    (go_simp) <;> (with_reducible rfl)
  (try simp only [Act.put, List.getElem_toArray, List.getElem_cons_zero, List.getElem_cons_succ, List.setIfInBounds_toArray, List.set_cons_zero, List.set_cons_succ])
  refine wpAnyH_take (i := 7) (v := ?_) rfl (by kernel_rfl) (by kernel_rfl) (by kernel_rfl) (fun _ _ _ h => h) (Or.inl ⟨by rfl, ?_⟩) HS.out ?_
  rotate_left 1
  · intro w_ hSw
    clear hSw
    (go_simp) <;> (with_reducible rfl)
  (try simp only [Act.put, List.getElem_toArray, List.getElem_cons_zero, List.getElem_cons_succ, List.setIfInBounds_toArray, List.set_cons_zero, List.set_cons_succ])
  refine wpAnyH_take (i := 8) (v := ?_) rfl (by kernel_rfl) (by kernel_rfl) (by kernel_rfl) (fun _ _ _ h => h) (Or.inl ⟨by rfl, ?_⟩) HS.out ?_
  rotate_left 1
  · intro w_ hSw
    clear hSw
    (go_simp) <;> (with_reducible rfl)
  (try simp only [Act.put, List.getElem_toArray, List.getElem_cons_zero, List.getElem_cons_succ, List.setIfInBounds_toArray, List.set_cons_zero, List.set_cons_succ])
  refine wpAnyH_take (i := 9) (v := ?_) rfl (by kernel_rfl) (by kernel_rfl) (by kernel_rfl) (fun _ _ _ h => h) (Or.inl ⟨by rfl, ?_⟩) HS.out ?_
  rotate_left 1
  · intro w_ hSw
    clear hSw
    (go_simp) <;> (with_reducible rfl)
  (try simp only [Act.put, List.getElem_toArray, List.getElem_cons_zero, List.getElem_cons_succ, List.setIfInBounds_toArray, List.set_cons_zero, List.set_cons_succ])
  refine wpAnyH_take (i := 10) (v := ?_) rfl (by kernel_rfl) (by kernel_rfl) (by kernel_rfl) (fun _ _ _ h => h) (Or.inl ⟨by rfl, ?_⟩) HS.out ?_
  rotate_left 1
  · intro w_ hSw
    clear hSw
    (go_simp) <;> (with_reducible rfl)
  (try simp only [Act.put, List.getElem_toArray, List.getElem_cons_zero, List.getElem_cons_succ, List.setIfInBounds_toArray, List.set_cons_zero, List.set_cons_succ])
  refine wpAnyH_done (by kernel_rfl) ?_ _
  clear HS
  go_wp2_with (go_at_call 47; refine (word_no K M m.length _ ra _ (HM0.out.below BW.out).mach (machC_at hl.out).2.1 HQ.out).mono ?_; rintro e w' ⟨rfl, rfl⟩)
  go_ret
  exact ⟨rfl, BW.out⟩
set_option maxRecDepth 100000 in
set_option maxHeartbeats 4000000 in
theorem step_exec_r (B K M : Nat) (c : Cpu) (m out : List Int) (A : Option Addr) (d : Nat) (w : World) (hm : Mach B K M c m A d out w) (hc : c.Fits) (p : Nat) (hp : c.pc = p) (hlt : p < m.length) (v : Int) (hvf : I64 v) (hv : m.getD p 0 = v) (x : Ins) (hx : decI v = x) (hd : decE v = 0) (hrb : readsB x = true) (q : Nat) (hq : readsA c x = q) (hqm : q < m.length) (ld : Int) (hld : m.getD q 0 = ld) (hex : exE x = 14) : Calls Tryd.prog 45 #[.pointer (some ⟨K, 0, none⟩)] w (NoStep w) := by
  have hl := Lib.hid hc.len
  have HM0 := Lib.hid hm
  have c16 := (cell_of_row _ _ 16 _ _ _ hm.mach).trans (machC_at hc.len).1
  rw [hp] at c16
  have KW := Lib.hid (word_yes K M m.length p _ v w hm.mach (machC_at hc.len).2.1 hlt ((cell_of_row _ _ p _ _ _ hm.mem).trans ((numsC_at m p hlt).trans (by rw [hv]))))
  have hxf : Ins.Fits x := hx ▸ decI_fits hvf
  obtain ⟨x0, x1, x2, x3, x4⟩ := x
  have hx' := hx
  have KD := Lib.hid (show ∀ W : World, Calls Tryd.prog 12 #[.int .i64 v] W (Gives2 W (insV ⟨x0, x1, x2, x3, x4⟩) (.int .i64 0)) from fun W => by
    have := decode_any v hvf W
    rw [hx', hd] at this
    exact this)
  obtain ⟨cs, hcs⟩ : ∃ y, Hid (cpuC c = y) := ⟨_, rfl⟩
  have gc := Lib.hid (fun (mm oo : Value) => machC_cpu (m := mm) (o := oo) hc.len)
  have ncs := Lib.hid (cpuC_size hc.len)
  obtain ⟨ra, hra⟩ : ∃ y, Hid (readsA c ⟨x0, x1, x2, x3, x4⟩ = y) := ⟨_, rfl⟩
  have KR := Lib.hid (show ∀ W : World, Calls Tryd.prog 18 #[.agg (cpuC c), insV ⟨x0, x1, x2, x3, x4⟩] W (GivesB W ra true) from fun W => by
    have := reads_any c hc ⟨x0, x1, x2, x3, x4⟩ hxf W
    rw [hra.out, hrb] at this
    exact this)
  rw [hcs.out] at gc ncs KR
  rw [hra.out] at hq
  subst hq
  have HQ := Lib.hid (And.intro hqm hld)
  clear hqm hld
  clear hx' hx hd hm hp hv hlt hvf hrb
  obtain ⟨X, hX⟩ : ∃ y, Hid (exV c ⟨x0, x1, x2, x3, x4⟩ ld = y) := ⟨_, rfl⟩
  have KX := Lib.hid (show ∀ W : World, Calls Tryd.prog 20 #[.agg (cpuC c), insV ⟨x0, x1, x2, x3, x4⟩, .int .i64 ld] W (Gives2 W (.agg (effC X)) (.int .i64 14)) from fun W => by
    have := execute_any c hc ⟨x0, x1, x2, x3, x4⟩ hxf ld W
    rw [hX.out, hex] at this
    exact this)
  have xl := Lib.hid (show X.cpu.r.length = 16 by rw [← hX.out]; exact exV_len c _ ld hc.len)
  have k17 := Lib.hid (effC_at17 X xl.out)
  have ksz := Lib.hid (effC_size xl.out)
  have kone := Lib.hid (effC_one X)
  obtain ⟨st, hst⟩ : ∃ y, Hid (X.stores = y) := ⟨_, rfl⟩
  obtain ⟨ad, had⟩ : ∃ y, Hid (X.addr = y) := ⟨_, rfl⟩
  obtain ⟨ps, hps⟩ : ∃ y, Hid (effC X = y) := ⟨_, rfl⟩
  rw [hst.out, had.out] at k17
  clear hst had
  rw [hps.out] at k17 ksz kone KX
  rw [hcs.out] at KX
  clear hc hcs hxf hps hX hex hra
  go_enter Tryd.func45, Tryd.ntmps45
  go_wp2_with (go_at_call 47; refine (KW.out).mono ?_; rintro e w' ⟨rfl, rfl⟩)
  refine (KD.out _).mono ?_
  rintro e w1 ⟨rfl, hb1⟩
  have FX := Lib.hid (heap_alloc_new w1 (.cells #[.int .i64 x0, .int .i64 x1, .int .i64 x2, .int .i64 x3, .int .i64 x4] 23))
  have BW := Lib.hid (hb1.alloc hb1.size (.cells #[.int .i64 x0, .int .i64 x1, .int .i64 x2, .int .i64 x3, .int .i64 x4] 23))
  have sz : w1.heap.size < (w1.alloc (.cells #[.int .i64 x0, .int .i64 x1, .int .i64 x2, .int .i64 x3, .int .i64 x4] 23)).heap.size := by simp
  have w1z : w.heap.size ≤ w1.heap.size := hb1.size
  clear hb1 c16 KW KD
  go_wp2_with fail
  refine wp_region_held_drew (S := fun w_ => w_.heap[K]? = some (.cells (machC c (.slice (some ⟨M, 0, none⟩) m.length m.length) (.slice A out.length d)) 75 (0, 0)) ∧ w_.heap[w1.heap.size]? = some (.cells #[.int .i64 x0, .int .i64 x1, .int .i64 x2, .int .i64 x3, .int .i64 x4] 23 (0, 0))) (by kernel_rfl) ⟨(HM0.out.below BW.out).mach, FX.out⟩ (fun hHeld => ?_)
  clear hHeld
  have BWn := Lib.hid BW.out.drew
  have FXn := Lib.hid (show (w1.alloc (.cells #[.int .i64 x0, .int .i64 x1, .int .i64 x2, .int .i64 x3, .int .i64 x4] 23)).drew.heap[w1.heap.size]? = _ from FX.out)
  have szn : w1.heap.size < (w1.alloc (.cells #[.int .i64 x0, .int .i64 x1, .int .i64 x2, .int .i64 x3, .int .i64 x4] 23)).drew.heap.size := sz
  clear BW FX sz
  obtain ⟨W1, hV⟩ : ∃ V, Hid ((w1.alloc (.cells #[.int .i64 x0, .int .i64 x1, .int .i64 x2, .int .i64 x3, .int .i64 x4] 23)).drew = V) := ⟨_, Lib.hid rfl⟩
  rw [hV.out] at BWn FXn szn ⊢
  clear hV
  have BW := BWn
  have FX := FXn
  have sz := szn
  clear BWn FXn szn
  have HS := Lib.hid (show (fun w_ => w_.heap[K]? = some (.cells (machC c (.slice (some ⟨M, 0, none⟩) m.length m.length) (.slice A out.length d)) 75 (0, 0)) ∧ w_.heap[w1.heap.size]? = some (.cells #[.int .i64 x0, .int .i64 x1, .int .i64 x2, .int .i64 x3, .int .i64 x4] 23 (0, 0))) W1 from ⟨(HM0.out.below BW.out).mach, FX.out⟩)
  refine wpAnyH_take (i := 0) (v := ?_) rfl (by kernel_rfl) (by kernel_rfl) (by kernel_rfl) (fun _ _ _ h => h) (Or.inl ⟨by rfl, ?_⟩) HS.out ?_
  rotate_left 1
  · intro w_ hSw
    clear hSw
    (go_simp) <;> (with_reducible rfl)
  (try simp only [Act.put, List.getElem_toArray, List.getElem_cons_zero, List.setIfInBounds_toArray, List.set_cons_zero, List.set_cons_succ])
  refine wpAnyH_take (i := 1) (v := ?_) rfl (by kernel_rfl) (by kernel_rfl) (by kernel_rfl) (fun _ _ _ h => h) (Or.inl ⟨by rfl, ?_⟩) HS.out ?_
  rotate_left 1
  · intro w_ hSw
    clear hSw
    (go_simp) <;> (with_reducible rfl)
  (try simp only [Act.put, List.getElem_toArray, List.getElem_cons_zero, List.getElem_cons_succ, List.setIfInBounds_toArray, List.set_cons_zero, List.set_cons_succ])
  refine wpAnyH_take (i := 2) (v := ?_) rfl (by kernel_rfl) (by kernel_rfl) (by kernel_rfl) (fun _ _ _ h => h) (Or.inl ⟨by rfl, ?_⟩) HS.out ?_
  rotate_left 1
  · intro w_ hSw
    clear hSw
    (go_simp) <;> (with_reducible rfl)
  (try simp only [Act.put, List.getElem_toArray, List.getElem_cons_zero, List.getElem_cons_succ, List.setIfInBounds_toArray, List.set_cons_zero, List.set_cons_succ])
  refine wpAnyH_take (i := 3) (v := .agg cs) rfl (by kernel_rfl) (by kernel_rfl) (by kernel_rfl) (fun _ _ _ h => h) (Or.inl ⟨by rfl, fun W_ hW => exec_load_head 35 _ rfl K rfl cs _ (range_of hW.1 (gc.out _ _)) Tryd.underlying35 rfl (by rw [ncs.out]; kernel_rfl)⟩) HS.out ?_
  (try simp only [Act.put, List.getElem_toArray, List.getElem_cons_zero, List.getElem_cons_succ, List.setIfInBounds_toArray, List.set_cons_zero, List.set_cons_succ])
  refine wpAnyH_take (i := 4) (v := .agg #[.int .i64 x0, .int .i64 x1, .int .i64 x2, .int .i64 x3, .int .i64 x4]) rfl (by kernel_rfl) (by kernel_rfl) (by kernel_rfl) (fun _ _ _ h => h) (Or.inl ⟨by rfl, fun W_ hW => exec_load_all 23 _ rfl w1.heap.size #[.int .i64 x0, .int .i64 x1, .int .i64 x2, .int .i64 x3, .int .i64 x4] _ rfl hW.2 Tryd.underlying23 rfl (by kernel_rfl)⟩) HS.out ?_
  (try simp only [Act.put, List.getElem_toArray, List.getElem_cons_zero, List.getElem_cons_succ, List.setIfInBounds_toArray, List.set_cons_zero, List.set_cons_succ])
  refine wpAnyH_ready (rs := [5]) (by kernel_rfl) (by simp) (AllReadyH.cons (i := 5) rfl (fun K_ hK => ?_) AllReadyH.nil)
  go_simp
  go_at_call 18
  refine (KR.out _).mono ?_
  rintro e w2 ⟨rfl, hb2⟩
  have BWn := Lib.hid (BW.out.trans (hb2.mono BW.out.size))
  have FXn := Lib.hid ((hb2.block _ sz).trans FX.out)
  have szn : w1.heap.size < w2.heap.size := Nat.lt_of_lt_of_le sz hb2.size
  clear BW FX sz
  have BW := BWn
  have FX := FXn
  have sz := szn
  clear BWn FXn szn
  clear HS hb2 KR
  have HS := Lib.hid (show (fun w_ => w_.heap[K]? = some (.cells (machC c (.slice (some ⟨M, 0, none⟩) m.length m.length) (.slice A out.length d)) 75 (0, 0)) ∧ w_.heap[w1.heap.size]? = some (.cells #[.int .i64 x0, .int .i64 x1, .int .i64 x2, .int .i64 x3, .int .i64 x4] 23 (0, 0))) w2 from ⟨(HM0.out.below BW.out).mach, FX.out⟩)
  refine hK.out _ _ HS.out (fun _ => ?_)
  clear hK K_
  (try simp only [Act.put, List.getElem_toArray, List.getElem_cons_zero, List.getElem_cons_succ, List.setIfInBounds_toArray, List.set_cons_zero, List.set_cons_succ])
  refine wpAnyH_take (i := 6) (v := ?_) rfl (by kernel_rfl) (by kernel_rfl) (by kernel_rfl) (fun _ _ _ h => h) (Or.inl ⟨by rfl, ?_⟩) HS.out ?_
  rotate_left 1
  · intro w_ hSw
    clear hSw
    (go_simp) <;> (with_reducible rfl)
  (try simp only [Act.put, List.getElem_toArray, List.getElem_cons_zero, List.getElem_cons_succ, List.setIfInBounds_toArray, List.set_cons_zero, List.set_cons_succ])
  refine wpAnyH_take (i := 7) (v := ?_) rfl (by kernel_rfl) (by kernel_rfl) (by kernel_rfl) (fun _ _ _ h => h) (Or.inl ⟨by rfl, ?_⟩) HS.out ?_
  rotate_left 1
  · intro w_ hSw
    clear hSw
    (go_simp) <;> (with_reducible rfl)
  (try simp only [Act.put, List.getElem_toArray, List.getElem_cons_zero, List.getElem_cons_succ, List.setIfInBounds_toArray, List.set_cons_zero, List.set_cons_succ])
  refine wpAnyH_take (i := 8) (v := ?_) rfl (by kernel_rfl) (by kernel_rfl) (by kernel_rfl) (fun _ _ _ h => h) (Or.inl ⟨by rfl, ?_⟩) HS.out ?_
  rotate_left 1
  · intro w_ hSw
    clear hSw
    (go_simp) <;> (with_reducible rfl)
  (try simp only [Act.put, List.getElem_toArray, List.getElem_cons_zero, List.getElem_cons_succ, List.setIfInBounds_toArray, List.set_cons_zero, List.set_cons_succ])
  refine wpAnyH_take (i := 9) (v := ?_) rfl (by kernel_rfl) (by kernel_rfl) (by kernel_rfl) (fun _ _ _ h => h) (Or.inl ⟨by rfl, ?_⟩) HS.out ?_
  rotate_left 1
  · intro w_ hSw
    clear hSw
    (go_simp) <;> (with_reducible rfl)
  (try simp only [Act.put, List.getElem_toArray, List.getElem_cons_zero, List.getElem_cons_succ, List.setIfInBounds_toArray, List.set_cons_zero, List.set_cons_succ])
  refine wpAnyH_take (i := 10) (v := ?_) rfl (by kernel_rfl) (by kernel_rfl) (by kernel_rfl) (fun _ _ _ h => h) (Or.inl ⟨by rfl, ?_⟩) HS.out ?_
  rotate_left 1
  · intro w_ hSw
    clear hSw
    (go_simp) <;> (with_reducible rfl)
  (try simp only [Act.put, List.getElem_toArray, List.getElem_cons_zero, List.getElem_cons_succ, List.setIfInBounds_toArray, List.set_cons_zero, List.set_cons_succ])
  refine wpAnyH_done (by kernel_rfl) ?_ _
  clear HS
  go_wp2_with (go_at_call 47; refine (word_yes K M m.length q _ ld _ (HM0.out.below BW.out).mach (machC_at hl.out).2.1 HQ.out.1 ((cell_of_row _ _ q _ _ _ (HM0.out.below BW.out).mem).trans ((numsC_at m q HQ.out.1).trans (by rw [HQ.out.2])))).mono ?_; rintro e w' ⟨rfl, rfl⟩)
  refine wp_region_held_drew (S := fun w_ => w_.heap[K]? = some (.cells (machC c (.slice (some ⟨M, 0, none⟩) m.length m.length) (.slice A out.length d)) 75 (0, 0)) ∧ w_.heap[w1.heap.size]? = some (.cells #[.int .i64 x0, .int .i64 x1, .int .i64 x2, .int .i64 x3, .int .i64 x4] 23 (0, 0))) (by kernel_rfl) ⟨(HM0.out.below BW.out).mach, FX.out⟩ (fun hHeld => ?_)
  clear hHeld
  have BWn := Lib.hid BW.out.drew
  have FXn := Lib.hid (show w2.drew.heap[w1.heap.size]? = _ from FX.out)
  have szn : w1.heap.size < w2.drew.heap.size := sz
  clear BW FX sz
  obtain ⟨W2, hV⟩ : ∃ V, Hid (w2.drew = V) := ⟨_, Lib.hid rfl⟩
  rw [hV.out] at BWn FXn szn ⊢
  clear hV
  have BW := BWn
  have FX := FXn
  have sz := szn
  clear BWn FXn szn
  have HS := Lib.hid (show (fun w_ => w_.heap[K]? = some (.cells (machC c (.slice (some ⟨M, 0, none⟩) m.length m.length) (.slice A out.length d)) 75 (0, 0)) ∧ w_.heap[w1.heap.size]? = some (.cells #[.int .i64 x0, .int .i64 x1, .int .i64 x2, .int .i64 x3, .int .i64 x4] 23 (0, 0))) W2 from ⟨(HM0.out.below BW.out).mach, FX.out⟩)
  refine wpAnyH_take (i := 0) (v := ?_) rfl (by kernel_rfl) (by kernel_rfl) (by kernel_rfl) (fun _ _ _ h => h) (Or.inl ⟨by rfl, ?_⟩) HS.out ?_
  rotate_left 1
  · intro w_ hSw
    clear hSw
    (go_simp) <;> (with_reducible rfl)
  (try simp only [Act.put, List.getElem_toArray, List.getElem_cons_zero, List.setIfInBounds_toArray, List.set_cons_zero, List.set_cons_succ])
  refine wpAnyH_take (i := 1) (v := ?_) rfl (by kernel_rfl) (by kernel_rfl) (by kernel_rfl) (fun _ _ _ h => h) (Or.inl ⟨by rfl, ?_⟩) HS.out ?_
  rotate_left 1
  · intro w_ hSw
    clear hSw
    (go_simp) <;> (with_reducible rfl)
  (try simp only [Act.put, List.getElem_toArray, List.getElem_cons_zero, List.getElem_cons_succ, List.setIfInBounds_toArray, List.set_cons_zero, List.set_cons_succ])
  refine wpAnyH_take (i := 2) (v := ?_) rfl (by kernel_rfl) (by kernel_rfl) (by kernel_rfl) (fun _ _ _ h => h) (Or.inl ⟨by rfl, ?_⟩) HS.out ?_
  rotate_left 1
  · intro w_ hSw
    clear hSw
    (go_simp) <;> (with_reducible rfl)
  (try simp only [Act.put, List.getElem_toArray, List.getElem_cons_zero, List.getElem_cons_succ, List.setIfInBounds_toArray, List.set_cons_zero, List.set_cons_succ])
  refine wpAnyH_take (i := 3) (v := .agg cs) rfl (by kernel_rfl) (by kernel_rfl) (by kernel_rfl) (fun _ _ _ h => h) (Or.inl ⟨by rfl, fun W_ hW => exec_load_head 35 _ rfl K rfl cs _ (range_of hW.1 (gc.out _ _)) Tryd.underlying35 rfl (by rw [ncs.out]; kernel_rfl)⟩) HS.out ?_
  (try simp only [Act.put, List.getElem_toArray, List.getElem_cons_zero, List.getElem_cons_succ, List.setIfInBounds_toArray, List.set_cons_zero, List.set_cons_succ])
  refine wpAnyH_take (i := 4) (v := .agg #[.int .i64 x0, .int .i64 x1, .int .i64 x2, .int .i64 x3, .int .i64 x4]) rfl (by kernel_rfl) (by kernel_rfl) (by kernel_rfl) (fun _ _ _ h => h) (Or.inl ⟨by rfl, fun W_ hW => exec_load_all 23 _ rfl w1.heap.size #[.int .i64 x0, .int .i64 x1, .int .i64 x2, .int .i64 x3, .int .i64 x4] _ rfl hW.2 Tryd.underlying23 rfl (by kernel_rfl)⟩) HS.out ?_
  (try simp only [Act.put, List.getElem_toArray, List.getElem_cons_zero, List.getElem_cons_succ, List.setIfInBounds_toArray, List.set_cons_zero, List.set_cons_succ])
  refine wpAnyH_take (i := 5) (v := ?_) rfl (by kernel_rfl) (by kernel_rfl) (by kernel_rfl) (fun _ _ _ h => h) (Or.inl ⟨by rfl, ?_⟩) HS.out ?_
  rotate_left 1
  · intro w_ hSw
    clear hSw
    (go_simp) <;> (with_reducible rfl)
  (try simp only [Act.put, List.getElem_toArray, List.getElem_cons_zero, List.getElem_cons_succ, List.setIfInBounds_toArray, List.set_cons_zero, List.set_cons_succ])
  refine wpAnyH_ready (rs := [6, 10]) (by kernel_rfl) (by simp) (AllReadyH.cons (i := 6) rfl (fun K_ hK => ?_) (AllReadyH.cons (i := 10) rfl (fun K_ hK => ?_) AllReadyH.nil))
  · go_simp
    go_at_call 20
    refine (KX.out _).mono ?_
    rintro e w3 ⟨rfl, hb3⟩
    have BWn := Lib.hid (BW.out.trans (hb3.mono BW.out.size))
    have FXn := Lib.hid ((hb3.block _ sz).trans FX.out)
    have szn : w1.heap.size < w3.heap.size := Nat.lt_of_lt_of_le sz hb3.size
    clear BW FX sz
    have BW := BWn
    have FX := FXn
    have sz := szn
    clear BWn FXn szn
    clear HS hb3 KX
    have HS := Lib.hid (show (fun w_ => w_.heap[K]? = some (.cells (machC c (.slice (some ⟨M, 0, none⟩) m.length m.length) (.slice A out.length d)) 75 (0, 0)) ∧ w_.heap[w1.heap.size]? = some (.cells #[.int .i64 x0, .int .i64 x1, .int .i64 x2, .int .i64 x3, .int .i64 x4] 23 (0, 0))) w3 from ⟨(HM0.out.below BW.out).mach, FX.out⟩)
    refine hK.out _ _ HS.out (fun _ => ?_)
    clear hK K_
    (try simp only [Act.put, List.getElem_toArray, List.getElem_cons_zero, List.getElem_cons_succ, List.setIfInBounds_toArray, List.set_cons_zero, List.set_cons_succ])
    refine wpAnyH_take (i := 7) (v := ?_) rfl (by kernel_rfl) (by kernel_rfl) (by kernel_rfl) (fun _ _ _ h => h) (Or.inl ⟨by rfl, ?_⟩) HS.out ?_
    rotate_left 1
    · intro w_ hSw
      clear hSw
      (go_simp) <;> (with_reducible rfl)
    (try simp only [Act.put, List.getElem_toArray, List.getElem_cons_zero, List.getElem_cons_succ, List.setIfInBounds_toArray, List.set_cons_zero, List.set_cons_succ])
    refine wpAnyH_take (i := 8) (v := ?_) rfl (by kernel_rfl) (by kernel_rfl) (by kernel_rfl) (fun _ _ _ h => h) (Or.inl ⟨by rfl, ?_⟩) HS.out ?_
    rotate_left 1
    · intro w_ hSw
      clear hSw
      (go_simp) <;> (with_reducible rfl)
    (try simp only [Act.put, List.getElem_toArray, List.getElem_cons_zero, List.getElem_cons_succ, List.setIfInBounds_toArray, List.set_cons_zero, List.set_cons_succ])
    refine wpAnyH_take (i := 9) (v := ?_) rfl (by kernel_rfl) (by kernel_rfl) (by kernel_rfl) (fun _ _ _ h => h) (Or.inl ⟨by rfl, ?_⟩) HS.out ?_
    rotate_left 1
    · intro w_ hSw
      clear hSw
      (go_simp) <;> (with_reducible rfl)
    (try simp only [Act.put, List.getElem_toArray, List.getElem_cons_zero, List.getElem_cons_succ, List.setIfInBounds_toArray, List.set_cons_zero, List.set_cons_succ])
    refine wpAnyH_ready (rs := [10]) (by kernel_rfl) (by simp) (AllReadyH.cons (i := 10) rfl (fun K_ hK => ?_) AllReadyH.nil)
    go_simp
    have FP := Lib.hid (heap_alloc_new w3 (.cells (effC eff0) 40))
    have NZ : w1.heap.size < w3.heap.size := sz
    have b4 := (Below.refl w3.heap.size w3).alloc (Nat.le_refl _) (.cells (effC eff0) 40)
    have szP : w3.heap.size < (w3.alloc (.cells (effC eff0) 40)).heap.size := by simp
    obtain ⟨N, hN⟩ : ∃ y, Hid (w3.heap.size = y) := ⟨_, rfl⟩
    have BWn := Lib.hid (BW.out.trans (b4.mono BW.out.size))
    have FXn := Lib.hid ((b4.block _ sz).trans FX.out)
    have szn : w1.heap.size < (w3.alloc (.cells (effC eff0) 40)).heap.size := Nat.lt_of_lt_of_le sz b4.size
    clear BW FX sz
    have BW := BWn
    have FX := FXn
    have sz := szn
    clear BWn FXn szn
    clear b4
    have HSn := Lib.hid (show (fun w_ => w_.heap[K]? = some (.cells (machC c (.slice (some ⟨M, 0, none⟩) m.length m.length) (.slice A out.length d)) 75 (0, 0)) ∧ w_.heap[w1.heap.size]? = some (.cells #[.int .i64 x0, .int .i64 x1, .int .i64 x2, .int .i64 x3, .int .i64 x4] 23 (0, 0))) (w3.alloc (.cells (effC eff0) 40)) from ⟨(HM0.out.below BW.out).mach, FX.out⟩)
    clear HS
    have HS := HSn
    clear HSn
    refine hK.out _ _ HS.out (fun _ => ?_)
    clear hK K_
    (try simp only [Act.put, List.getElem_toArray, List.getElem_cons_zero, List.getElem_cons_succ, List.setIfInBounds_toArray, List.set_cons_zero, List.set_cons_succ])
    change wpAnyH _ _ _ _ _ _ _ _ (w3.alloc (.cells (effC eff0) 40))
    rw [hN.out] at FP NZ szP ⊢
    clear hN
    obtain ⟨W4, hV⟩ : ∃ V, Hid ((w3.alloc (.cells (effC eff0) 40)) = V) := ⟨_, Lib.hid rfl⟩
    rw [hV.out] at BW FX sz HS FP szP ⊢
    clear hV
    refine wpAnyH_ready (rs := [11]) (by kernel_rfl) (by simp) (AllReadyH.cons (i := 11) rfl (fun K_ hK => ?_) AllReadyH.nil)
    rw [if_pos (by rfl)]
    refine wp_store_all 40 _ _ rfl N _ ps rfl rfl FP.out (by rw [ksz.out]; rfl) (by rw [ksz.out]; kernel_rfl) kone.out ?_
    intro U hU
    have BWn := Lib.hid (BW.out.setC (by omega) hU)
    have FXn := Lib.hid ((hU.block _ (by omega)).trans FX.out)
    have szn : w1.heap.size < U.heap.size := by rw [hU.size]; exact sz
    have FPn := Lib.hid hU.at_
    clear BW FX sz HS FP szP hU
    have FP := FPn
    clear FPn
    have BW := BWn
    have FX := FXn
    have sz := szn
    clear BWn FXn szn
    have HS := Lib.hid (show (fun w_ => w_.heap[K]? = some (.cells (machC c (.slice (some ⟨M, 0, none⟩) m.length m.length) (.slice A out.length d)) 75 (0, 0)) ∧ w_.heap[w1.heap.size]? = some (.cells #[.int .i64 x0, .int .i64 x1, .int .i64 x2, .int .i64 x3, .int .i64 x4] 23 (0, 0))) U from ⟨(HM0.out.below BW.out).mach, FX.out⟩)
    refine hK.out _ _ HS.out (fun _ => ?_)
    clear hK K_
    (try simp only [Act.put, List.getElem_toArray, List.getElem_cons_zero, List.getElem_cons_succ])
    refine wpAnyH_take (i := 12) (v := ?_) rfl (by kernel_rfl) (by kernel_rfl) (by kernel_rfl) (fun _ _ _ h => h) (Or.inl ⟨by rfl, ?_⟩) HS.out ?_
    rotate_left 1
    · intro w_ hSw
      clear hSw
      (go_simp) <;> (with_reducible rfl)
    (try simp only [Act.put, List.getElem_toArray, List.getElem_cons_zero, List.getElem_cons_succ, List.setIfInBounds_toArray, List.set_cons_zero, List.set_cons_succ])
    refine wpAnyH_done (by kernel_rfl) ?_ _
    clear HS
    have m17 := (cell_of_row _ _ 17 _ _ _ FP.out).trans k17.out.1
    have m18 := (cell_of_row _ _ 18 _ _ _ FP.out).trans k17.out.2.1
    go_wp2_with fail
    go_ret
    exact ⟨rfl, BW.out⟩
  · go_simp
    have FP := Lib.hid (heap_alloc_new W2 (.cells (effC eff0) 40))
    have NZ : w1.heap.size < W2.heap.size := sz
    have b4 := (Below.refl W2.heap.size W2).alloc (Nat.le_refl _) (.cells (effC eff0) 40)
    have szP : W2.heap.size < (W2.alloc (.cells (effC eff0) 40)).heap.size := by simp
    obtain ⟨N, hN⟩ : ∃ y, Hid (W2.heap.size = y) := ⟨_, rfl⟩
    have BWn := Lib.hid (BW.out.trans (b4.mono BW.out.size))
    have FXn := Lib.hid ((b4.block _ sz).trans FX.out)
    have szn : w1.heap.size < (W2.alloc (.cells (effC eff0) 40)).heap.size := Nat.lt_of_lt_of_le sz b4.size
    clear BW FX sz
    have BW := BWn
    have FX := FXn
    have sz := szn
    clear BWn FXn szn
    clear b4
    have HSn := Lib.hid (show (fun w_ => w_.heap[K]? = some (.cells (machC c (.slice (some ⟨M, 0, none⟩) m.length m.length) (.slice A out.length d)) 75 (0, 0)) ∧ w_.heap[w1.heap.size]? = some (.cells #[.int .i64 x0, .int .i64 x1, .int .i64 x2, .int .i64 x3, .int .i64 x4] 23 (0, 0))) (W2.alloc (.cells (effC eff0) 40)) from ⟨(HM0.out.below BW.out).mach, FX.out⟩)
    clear HS
    have HS := HSn
    clear HSn
    refine hK.out _ _ HS.out (fun _ => ?_)
    clear hK K_
    (try simp only [Act.put, List.getElem_toArray, List.getElem_cons_zero, List.getElem_cons_succ, List.setIfInBounds_toArray, List.set_cons_zero, List.set_cons_succ])
    change wpAnyH _ _ _ _ _ _ _ _ (W2.alloc (.cells (effC eff0) 40))
    rw [hN.out] at FP NZ szP ⊢
    clear hN
    obtain ⟨W4, hV⟩ : ∃ V, Hid ((W2.alloc (.cells (effC eff0) 40)) = V) := ⟨_, Lib.hid rfl⟩
    rw [hV.out] at BW FX sz HS FP szP ⊢
    clear hV
    refine wpAnyH_ready (rs := [6]) (by kernel_rfl) (by simp) (AllReadyH.cons (i := 6) rfl (fun K_ hK => ?_) AllReadyH.nil)
    go_simp
    go_at_call 20
    refine (KX.out _).mono ?_
    rintro e w3 ⟨rfl, hb3⟩
    have BWn := Lib.hid (BW.out.trans (hb3.mono BW.out.size))
    have FXn := Lib.hid ((hb3.block _ sz).trans FX.out)
    have szn : w1.heap.size < w3.heap.size := Nat.lt_of_lt_of_le sz hb3.size
    clear BW FX sz
    have BW := BWn
    have FX := FXn
    have sz := szn
    clear BWn FXn szn
    have FPn := Lib.hid ((hb3.block _ szP).trans FP.out)
    have sPn := Nat.lt_of_lt_of_le szP hb3.size
    clear FP szP
    have FP := FPn
    have szP := sPn
    clear FPn sPn
    clear HS hb3 KX
    have HS := Lib.hid (show (fun w_ => w_.heap[K]? = some (.cells (machC c (.slice (some ⟨M, 0, none⟩) m.length m.length) (.slice A out.length d)) 75 (0, 0)) ∧ w_.heap[w1.heap.size]? = some (.cells #[.int .i64 x0, .int .i64 x1, .int .i64 x2, .int .i64 x3, .int .i64 x4] 23 (0, 0))) w3 from ⟨(HM0.out.below BW.out).mach, FX.out⟩)
    refine hK.out _ _ HS.out (fun _ => ?_)
    clear hK K_
    (try simp only [Act.put, List.getElem_toArray, List.getElem_cons_zero, List.getElem_cons_succ, List.setIfInBounds_toArray, List.set_cons_zero, List.set_cons_succ])
    refine wpAnyH_take (i := 7) (v := ?_) rfl (by kernel_rfl) (by kernel_rfl) (by kernel_rfl) (fun _ _ _ h => h) (Or.inl ⟨by rfl, ?_⟩) HS.out ?_
    rotate_left 1
    · intro w_ hSw
      clear hSw
      (go_simp) <;> (with_reducible rfl)
    (try simp only [Act.put, List.getElem_toArray, List.getElem_cons_zero, List.getElem_cons_succ, List.setIfInBounds_toArray, List.set_cons_zero, List.set_cons_succ])
    refine wpAnyH_take (i := 8) (v := ?_) rfl (by kernel_rfl) (by kernel_rfl) (by kernel_rfl) (fun _ _ _ h => h) (Or.inl ⟨by rfl, ?_⟩) HS.out ?_
    rotate_left 1
    · intro w_ hSw
      clear hSw
      (go_simp) <;> (with_reducible rfl)
    (try simp only [Act.put, List.getElem_toArray, List.getElem_cons_zero, List.getElem_cons_succ, List.setIfInBounds_toArray, List.set_cons_zero, List.set_cons_succ])
    refine wpAnyH_take (i := 9) (v := ?_) rfl (by kernel_rfl) (by kernel_rfl) (by kernel_rfl) (fun _ _ _ h => h) (Or.inl ⟨by rfl, ?_⟩) HS.out ?_
    rotate_left 1
    · intro w_ hSw
      clear hSw
      (go_simp) <;> (with_reducible rfl)
    (try simp only [Act.put, List.getElem_toArray, List.getElem_cons_zero, List.getElem_cons_succ, List.setIfInBounds_toArray, List.set_cons_zero, List.set_cons_succ])
    refine wpAnyH_ready (rs := [11]) (by kernel_rfl) (by simp) (AllReadyH.cons (i := 11) rfl (fun K_ hK => ?_) AllReadyH.nil)
    rw [if_pos (by rfl)]
    refine wp_store_all 40 _ _ rfl N _ ps rfl rfl FP.out (by rw [ksz.out]; rfl) (by rw [ksz.out]; kernel_rfl) kone.out ?_
    intro U hU
    have BWn := Lib.hid (BW.out.setC (by omega) hU)
    have FXn := Lib.hid ((hU.block _ (by omega)).trans FX.out)
    have szn : w1.heap.size < U.heap.size := by rw [hU.size]; exact sz
    have FPn := Lib.hid hU.at_
    clear BW FX sz HS FP szP hU
    have FP := FPn
    clear FPn
    have BW := BWn
    have FX := FXn
    have sz := szn
    clear BWn FXn szn
    have HS := Lib.hid (show (fun w_ => w_.heap[K]? = some (.cells (machC c (.slice (some ⟨M, 0, none⟩) m.length m.length) (.slice A out.length d)) 75 (0, 0)) ∧ w_.heap[w1.heap.size]? = some (.cells #[.int .i64 x0, .int .i64 x1, .int .i64 x2, .int .i64 x3, .int .i64 x4] 23 (0, 0))) U from ⟨(HM0.out.below BW.out).mach, FX.out⟩)
    refine hK.out _ _ HS.out (fun _ => ?_)
    clear hK K_
    (try simp only [Act.put, List.getElem_toArray, List.getElem_cons_zero, List.getElem_cons_succ])
    refine wpAnyH_take (i := 12) (v := ?_) rfl (by kernel_rfl) (by kernel_rfl) (by kernel_rfl) (fun _ _ _ h => h) (Or.inl ⟨by rfl, ?_⟩) HS.out ?_
    rotate_left 1
    · intro w_ hSw
      clear hSw
      (go_simp) <;> (with_reducible rfl)
    (try simp only [Act.put, List.getElem_toArray, List.getElem_cons_zero, List.getElem_cons_succ, List.setIfInBounds_toArray, List.set_cons_zero, List.set_cons_succ])
    refine wpAnyH_done (by kernel_rfl) ?_ _
    clear HS
    have m17 := (cell_of_row _ _ 17 _ _ _ FP.out).trans k17.out.1
    have m18 := (cell_of_row _ _ 18 _ _ _ FP.out).trans k17.out.2.1
    go_wp2_with fail
    go_ret
    exact ⟨rfl, BW.out⟩
set_option maxRecDepth 100000 in
set_option maxHeartbeats 4000000 in
theorem step_sbad_r (B K M : Nat) (c : Cpu) (m out : List Int) (A : Option Addr) (d : Nat) (w : World) (hm : Mach B K M c m A d out w) (hc : c.Fits) (p : Nat) (hp : c.pc = p) (hlt : p < m.length) (v : Int) (hvf : I64 v) (hv : m.getD p 0 = v) (x : Ins) (hx : decI v = x) (hd : decE v = 0) (hrb : readsB x = true) (q : Nat) (hq : readsA c x = q) (hqm : q < m.length) (ld : Int) (hld : m.getD q 0 = ld) (hex : exE x = 0) (hst0 : (exV c x ld).stores = true) (ha0 : (exV c x ld).addr < 0 ∨ (m.length : Int) ≤ (exV c x ld).addr) : Calls Tryd.prog 45 #[.pointer (some ⟨K, 0, none⟩)] w (NoStep w) := by
  have hl := Lib.hid hc.len
  have HM0 := Lib.hid hm
  have c16 := (cell_of_row _ _ 16 _ _ _ hm.mach).trans (machC_at hc.len).1
  rw [hp] at c16
  have KW := Lib.hid (word_yes K M m.length p _ v w hm.mach (machC_at hc.len).2.1 hlt ((cell_of_row _ _ p _ _ _ hm.mem).trans ((numsC_at m p hlt).trans (by rw [hv]))))
  have hxf : Ins.Fits x := hx ▸ decI_fits hvf
  obtain ⟨x0, x1, x2, x3, x4⟩ := x
  have hx' := hx
  have KD := Lib.hid (show ∀ W : World, Calls Tryd.prog 12 #[.int .i64 v] W (Gives2 W (insV ⟨x0, x1, x2, x3, x4⟩) (.int .i64 0)) from fun W => by
    have := decode_any v hvf W
    rw [hx', hd] at this
    exact this)
  obtain ⟨cs, hcs⟩ : ∃ y, Hid (cpuC c = y) := ⟨_, rfl⟩
  have gc := Lib.hid (fun (mm oo : Value) => machC_cpu (m := mm) (o := oo) hc.len)
  have ncs := Lib.hid (cpuC_size hc.len)
  obtain ⟨ra, hra⟩ : ∃ y, Hid (readsA c ⟨x0, x1, x2, x3, x4⟩ = y) := ⟨_, rfl⟩
  have KR := Lib.hid (show ∀ W : World, Calls Tryd.prog 18 #[.agg (cpuC c), insV ⟨x0, x1, x2, x3, x4⟩] W (GivesB W ra true) from fun W => by
    have := reads_any c hc ⟨x0, x1, x2, x3, x4⟩ hxf W
    rw [hra.out, hrb] at this
    exact this)
  rw [hcs.out] at gc ncs KR
  rw [hra.out] at hq
  subst hq
  have HQ := Lib.hid (And.intro hqm hld)
  clear hqm hld
  have HX := Lib.hid (And.intro hst0 ha0)
  clear hst0 ha0
  clear hx' hx hd hm hp hv hlt hvf hrb
  obtain ⟨X, hX⟩ : ∃ y, Hid (exV c ⟨x0, x1, x2, x3, x4⟩ ld = y) := ⟨_, rfl⟩
  have KX := Lib.hid (show ∀ W : World, Calls Tryd.prog 20 #[.agg (cpuC c), insV ⟨x0, x1, x2, x3, x4⟩, .int .i64 ld] W (Gives2 W (.agg (effC X)) (.int .i64 0)) from fun W => by
    have := execute_any c hc ⟨x0, x1, x2, x3, x4⟩ hxf ld W
    rw [hX.out, hex] at this
    exact this)
  have xl := Lib.hid (show X.cpu.r.length = 16 by rw [← hX.out]; exact exV_len c _ ld hc.len)
  have k17 := Lib.hid (effC_at17 X xl.out)
  have ksz := Lib.hid (effC_size xl.out)
  have kone := Lib.hid (effC_one X)
  rw [hX.out] at HX
  obtain ⟨st, hst⟩ : ∃ y, Hid (X.stores = y) := ⟨_, rfl⟩
  obtain ⟨ad, had⟩ : ∃ y, Hid (X.addr = y) := ⟨_, rfl⟩
  obtain ⟨ps, hps⟩ : ∃ y, Hid (effC X = y) := ⟨_, rfl⟩
  rw [HX.out.1] at hst
  have hst2 : st = true := hst.out.symm
  subst hst2
  have HA := Lib.hid HX.out.2
  rw [had.out] at HA
  rw [HX.out.1, had.out] at k17
  clear hst had HX
  rw [hps.out] at k17 ksz kone KX
  rw [hcs.out] at KX
  clear hc hcs hxf hps hX hex hra
  go_enter Tryd.func45, Tryd.ntmps45
  go_wp2_with (go_at_call 47; refine (KW.out).mono ?_; rintro e w' ⟨rfl, rfl⟩)
  refine (KD.out _).mono ?_
  rintro e w1 ⟨rfl, hb1⟩
  have FX := Lib.hid (heap_alloc_new w1 (.cells #[.int .i64 x0, .int .i64 x1, .int .i64 x2, .int .i64 x3, .int .i64 x4] 23))
  have BW := Lib.hid (hb1.alloc hb1.size (.cells #[.int .i64 x0, .int .i64 x1, .int .i64 x2, .int .i64 x3, .int .i64 x4] 23))
  have sz : w1.heap.size < (w1.alloc (.cells #[.int .i64 x0, .int .i64 x1, .int .i64 x2, .int .i64 x3, .int .i64 x4] 23)).heap.size := by simp
  have w1z : w.heap.size ≤ w1.heap.size := hb1.size
  clear hb1 c16 KW KD
  go_wp2_with fail
  refine wp_region_held_drew (S := fun w_ => w_.heap[K]? = some (.cells (machC c (.slice (some ⟨M, 0, none⟩) m.length m.length) (.slice A out.length d)) 75 (0, 0)) ∧ w_.heap[w1.heap.size]? = some (.cells #[.int .i64 x0, .int .i64 x1, .int .i64 x2, .int .i64 x3, .int .i64 x4] 23 (0, 0))) (by kernel_rfl) ⟨(HM0.out.below BW.out).mach, FX.out⟩ (fun hHeld => ?_)
  clear hHeld
  have BWn := Lib.hid BW.out.drew
  have FXn := Lib.hid (show (w1.alloc (.cells #[.int .i64 x0, .int .i64 x1, .int .i64 x2, .int .i64 x3, .int .i64 x4] 23)).drew.heap[w1.heap.size]? = _ from FX.out)
  have szn : w1.heap.size < (w1.alloc (.cells #[.int .i64 x0, .int .i64 x1, .int .i64 x2, .int .i64 x3, .int .i64 x4] 23)).drew.heap.size := sz
  clear BW FX sz
  obtain ⟨W1, hV⟩ : ∃ V, Hid ((w1.alloc (.cells #[.int .i64 x0, .int .i64 x1, .int .i64 x2, .int .i64 x3, .int .i64 x4] 23)).drew = V) := ⟨_, Lib.hid rfl⟩
  rw [hV.out] at BWn FXn szn ⊢
  clear hV
  have BW := BWn
  have FX := FXn
  have sz := szn
  clear BWn FXn szn
  have HS := Lib.hid (show (fun w_ => w_.heap[K]? = some (.cells (machC c (.slice (some ⟨M, 0, none⟩) m.length m.length) (.slice A out.length d)) 75 (0, 0)) ∧ w_.heap[w1.heap.size]? = some (.cells #[.int .i64 x0, .int .i64 x1, .int .i64 x2, .int .i64 x3, .int .i64 x4] 23 (0, 0))) W1 from ⟨(HM0.out.below BW.out).mach, FX.out⟩)
  refine wpAnyH_take (i := 0) (v := ?_) rfl (by kernel_rfl) (by kernel_rfl) (by kernel_rfl) (fun _ _ _ h => h) (Or.inl ⟨by rfl, ?_⟩) HS.out ?_
  rotate_left 1
  · intro w_ hSw
    clear hSw
    (go_simp) <;> (with_reducible rfl)
  (try simp only [Act.put, List.getElem_toArray, List.getElem_cons_zero, List.setIfInBounds_toArray, List.set_cons_zero, List.set_cons_succ])
  refine wpAnyH_take (i := 1) (v := ?_) rfl (by kernel_rfl) (by kernel_rfl) (by kernel_rfl) (fun _ _ _ h => h) (Or.inl ⟨by rfl, ?_⟩) HS.out ?_
  rotate_left 1
  · intro w_ hSw
    clear hSw
    (go_simp) <;> (with_reducible rfl)
  (try simp only [Act.put, List.getElem_toArray, List.getElem_cons_zero, List.getElem_cons_succ, List.setIfInBounds_toArray, List.set_cons_zero, List.set_cons_succ])
  refine wpAnyH_take (i := 2) (v := ?_) rfl (by kernel_rfl) (by kernel_rfl) (by kernel_rfl) (fun _ _ _ h => h) (Or.inl ⟨by rfl, ?_⟩) HS.out ?_
  rotate_left 1
  · intro w_ hSw
    clear hSw
    (go_simp) <;> (with_reducible rfl)
  (try simp only [Act.put, List.getElem_toArray, List.getElem_cons_zero, List.getElem_cons_succ, List.setIfInBounds_toArray, List.set_cons_zero, List.set_cons_succ])
  refine wpAnyH_take (i := 3) (v := .agg cs) rfl (by kernel_rfl) (by kernel_rfl) (by kernel_rfl) (fun _ _ _ h => h) (Or.inl ⟨by rfl, fun W_ hW => exec_load_head 35 _ rfl K rfl cs _ (range_of hW.1 (gc.out _ _)) Tryd.underlying35 rfl (by rw [ncs.out]; kernel_rfl)⟩) HS.out ?_
  (try simp only [Act.put, List.getElem_toArray, List.getElem_cons_zero, List.getElem_cons_succ, List.setIfInBounds_toArray, List.set_cons_zero, List.set_cons_succ])
  refine wpAnyH_take (i := 4) (v := .agg #[.int .i64 x0, .int .i64 x1, .int .i64 x2, .int .i64 x3, .int .i64 x4]) rfl (by kernel_rfl) (by kernel_rfl) (by kernel_rfl) (fun _ _ _ h => h) (Or.inl ⟨by rfl, fun W_ hW => exec_load_all 23 _ rfl w1.heap.size #[.int .i64 x0, .int .i64 x1, .int .i64 x2, .int .i64 x3, .int .i64 x4] _ rfl hW.2 Tryd.underlying23 rfl (by kernel_rfl)⟩) HS.out ?_
  (try simp only [Act.put, List.getElem_toArray, List.getElem_cons_zero, List.getElem_cons_succ, List.setIfInBounds_toArray, List.set_cons_zero, List.set_cons_succ])
  refine wpAnyH_ready (rs := [5]) (by kernel_rfl) (by simp) (AllReadyH.cons (i := 5) rfl (fun K_ hK => ?_) AllReadyH.nil)
  go_simp
  go_at_call 18
  refine (KR.out _).mono ?_
  rintro e w2 ⟨rfl, hb2⟩
  have BWn := Lib.hid (BW.out.trans (hb2.mono BW.out.size))
  have FXn := Lib.hid ((hb2.block _ sz).trans FX.out)
  have szn : w1.heap.size < w2.heap.size := Nat.lt_of_lt_of_le sz hb2.size
  clear BW FX sz
  have BW := BWn
  have FX := FXn
  have sz := szn
  clear BWn FXn szn
  clear HS hb2 KR
  have HS := Lib.hid (show (fun w_ => w_.heap[K]? = some (.cells (machC c (.slice (some ⟨M, 0, none⟩) m.length m.length) (.slice A out.length d)) 75 (0, 0)) ∧ w_.heap[w1.heap.size]? = some (.cells #[.int .i64 x0, .int .i64 x1, .int .i64 x2, .int .i64 x3, .int .i64 x4] 23 (0, 0))) w2 from ⟨(HM0.out.below BW.out).mach, FX.out⟩)
  refine hK.out _ _ HS.out (fun _ => ?_)
  clear hK K_
  (try simp only [Act.put, List.getElem_toArray, List.getElem_cons_zero, List.getElem_cons_succ, List.setIfInBounds_toArray, List.set_cons_zero, List.set_cons_succ])
  refine wpAnyH_take (i := 6) (v := ?_) rfl (by kernel_rfl) (by kernel_rfl) (by kernel_rfl) (fun _ _ _ h => h) (Or.inl ⟨by rfl, ?_⟩) HS.out ?_
  rotate_left 1
  · intro w_ hSw
    clear hSw
    (go_simp) <;> (with_reducible rfl)
  (try simp only [Act.put, List.getElem_toArray, List.getElem_cons_zero, List.getElem_cons_succ, List.setIfInBounds_toArray, List.set_cons_zero, List.set_cons_succ])
  refine wpAnyH_take (i := 7) (v := ?_) rfl (by kernel_rfl) (by kernel_rfl) (by kernel_rfl) (fun _ _ _ h => h) (Or.inl ⟨by rfl, ?_⟩) HS.out ?_
  rotate_left 1
  · intro w_ hSw
    clear hSw
    (go_simp) <;> (with_reducible rfl)
  (try simp only [Act.put, List.getElem_toArray, List.getElem_cons_zero, List.getElem_cons_succ, List.setIfInBounds_toArray, List.set_cons_zero, List.set_cons_succ])
  refine wpAnyH_take (i := 8) (v := ?_) rfl (by kernel_rfl) (by kernel_rfl) (by kernel_rfl) (fun _ _ _ h => h) (Or.inl ⟨by rfl, ?_⟩) HS.out ?_
  rotate_left 1
  · intro w_ hSw
    clear hSw
    (go_simp) <;> (with_reducible rfl)
  (try simp only [Act.put, List.getElem_toArray, List.getElem_cons_zero, List.getElem_cons_succ, List.setIfInBounds_toArray, List.set_cons_zero, List.set_cons_succ])
  refine wpAnyH_take (i := 9) (v := ?_) rfl (by kernel_rfl) (by kernel_rfl) (by kernel_rfl) (fun _ _ _ h => h) (Or.inl ⟨by rfl, ?_⟩) HS.out ?_
  rotate_left 1
  · intro w_ hSw
    clear hSw
    (go_simp) <;> (with_reducible rfl)
  (try simp only [Act.put, List.getElem_toArray, List.getElem_cons_zero, List.getElem_cons_succ, List.setIfInBounds_toArray, List.set_cons_zero, List.set_cons_succ])
  refine wpAnyH_take (i := 10) (v := ?_) rfl (by kernel_rfl) (by kernel_rfl) (by kernel_rfl) (fun _ _ _ h => h) (Or.inl ⟨by rfl, ?_⟩) HS.out ?_
  rotate_left 1
  · intro w_ hSw
    clear hSw
    (go_simp) <;> (with_reducible rfl)
  (try simp only [Act.put, List.getElem_toArray, List.getElem_cons_zero, List.getElem_cons_succ, List.setIfInBounds_toArray, List.set_cons_zero, List.set_cons_succ])
  refine wpAnyH_done (by kernel_rfl) ?_ _
  clear HS
  go_wp2_with (go_at_call 47; refine (word_yes K M m.length q _ ld _ (HM0.out.below BW.out).mach (machC_at hl.out).2.1 HQ.out.1 ((cell_of_row _ _ q _ _ _ (HM0.out.below BW.out).mem).trans ((numsC_at m q HQ.out.1).trans (by rw [HQ.out.2])))).mono ?_; rintro e w' ⟨rfl, rfl⟩)
  refine wp_region_held_drew (S := fun w_ => w_.heap[K]? = some (.cells (machC c (.slice (some ⟨M, 0, none⟩) m.length m.length) (.slice A out.length d)) 75 (0, 0)) ∧ w_.heap[w1.heap.size]? = some (.cells #[.int .i64 x0, .int .i64 x1, .int .i64 x2, .int .i64 x3, .int .i64 x4] 23 (0, 0))) (by kernel_rfl) ⟨(HM0.out.below BW.out).mach, FX.out⟩ (fun hHeld => ?_)
  clear hHeld
  have BWn := Lib.hid BW.out.drew
  have FXn := Lib.hid (show w2.drew.heap[w1.heap.size]? = _ from FX.out)
  have szn : w1.heap.size < w2.drew.heap.size := sz
  clear BW FX sz
  obtain ⟨W2, hV⟩ : ∃ V, Hid (w2.drew = V) := ⟨_, Lib.hid rfl⟩
  rw [hV.out] at BWn FXn szn ⊢
  clear hV
  have BW := BWn
  have FX := FXn
  have sz := szn
  clear BWn FXn szn
  have HS := Lib.hid (show (fun w_ => w_.heap[K]? = some (.cells (machC c (.slice (some ⟨M, 0, none⟩) m.length m.length) (.slice A out.length d)) 75 (0, 0)) ∧ w_.heap[w1.heap.size]? = some (.cells #[.int .i64 x0, .int .i64 x1, .int .i64 x2, .int .i64 x3, .int .i64 x4] 23 (0, 0))) W2 from ⟨(HM0.out.below BW.out).mach, FX.out⟩)
  refine wpAnyH_take (i := 0) (v := ?_) rfl (by kernel_rfl) (by kernel_rfl) (by kernel_rfl) (fun _ _ _ h => h) (Or.inl ⟨by rfl, ?_⟩) HS.out ?_
  rotate_left 1
  · intro w_ hSw
    clear hSw
    (go_simp) <;> (with_reducible rfl)
  (try simp only [Act.put, List.getElem_toArray, List.getElem_cons_zero, List.setIfInBounds_toArray, List.set_cons_zero, List.set_cons_succ])
  refine wpAnyH_take (i := 1) (v := ?_) rfl (by kernel_rfl) (by kernel_rfl) (by kernel_rfl) (fun _ _ _ h => h) (Or.inl ⟨by rfl, ?_⟩) HS.out ?_
  rotate_left 1
  · intro w_ hSw
    clear hSw
    (go_simp) <;> (with_reducible rfl)
  (try simp only [Act.put, List.getElem_toArray, List.getElem_cons_zero, List.getElem_cons_succ, List.setIfInBounds_toArray, List.set_cons_zero, List.set_cons_succ])
  refine wpAnyH_take (i := 2) (v := ?_) rfl (by kernel_rfl) (by kernel_rfl) (by kernel_rfl) (fun _ _ _ h => h) (Or.inl ⟨by rfl, ?_⟩) HS.out ?_
  rotate_left 1
  · intro w_ hSw
    clear hSw
    (go_simp) <;> (with_reducible rfl)
  (try simp only [Act.put, List.getElem_toArray, List.getElem_cons_zero, List.getElem_cons_succ, List.setIfInBounds_toArray, List.set_cons_zero, List.set_cons_succ])
  refine wpAnyH_take (i := 3) (v := .agg cs) rfl (by kernel_rfl) (by kernel_rfl) (by kernel_rfl) (fun _ _ _ h => h) (Or.inl ⟨by rfl, fun W_ hW => exec_load_head 35 _ rfl K rfl cs _ (range_of hW.1 (gc.out _ _)) Tryd.underlying35 rfl (by rw [ncs.out]; kernel_rfl)⟩) HS.out ?_
  (try simp only [Act.put, List.getElem_toArray, List.getElem_cons_zero, List.getElem_cons_succ, List.setIfInBounds_toArray, List.set_cons_zero, List.set_cons_succ])
  refine wpAnyH_take (i := 4) (v := .agg #[.int .i64 x0, .int .i64 x1, .int .i64 x2, .int .i64 x3, .int .i64 x4]) rfl (by kernel_rfl) (by kernel_rfl) (by kernel_rfl) (fun _ _ _ h => h) (Or.inl ⟨by rfl, fun W_ hW => exec_load_all 23 _ rfl w1.heap.size #[.int .i64 x0, .int .i64 x1, .int .i64 x2, .int .i64 x3, .int .i64 x4] _ rfl hW.2 Tryd.underlying23 rfl (by kernel_rfl)⟩) HS.out ?_
  (try simp only [Act.put, List.getElem_toArray, List.getElem_cons_zero, List.getElem_cons_succ, List.setIfInBounds_toArray, List.set_cons_zero, List.set_cons_succ])
  refine wpAnyH_take (i := 5) (v := ?_) rfl (by kernel_rfl) (by kernel_rfl) (by kernel_rfl) (fun _ _ _ h => h) (Or.inl ⟨by rfl, ?_⟩) HS.out ?_
  rotate_left 1
  · intro w_ hSw
    clear hSw
    (go_simp) <;> (with_reducible rfl)
  (try simp only [Act.put, List.getElem_toArray, List.getElem_cons_zero, List.getElem_cons_succ, List.setIfInBounds_toArray, List.set_cons_zero, List.set_cons_succ])
  refine wpAnyH_ready (rs := [6, 10]) (by kernel_rfl) (by simp) (AllReadyH.cons (i := 6) rfl (fun K_ hK => ?_) (AllReadyH.cons (i := 10) rfl (fun K_ hK => ?_) AllReadyH.nil))
  · go_simp
    go_at_call 20
    refine (KX.out _).mono ?_
    rintro e w3 ⟨rfl, hb3⟩
    have BWn := Lib.hid (BW.out.trans (hb3.mono BW.out.size))
    have FXn := Lib.hid ((hb3.block _ sz).trans FX.out)
    have szn : w1.heap.size < w3.heap.size := Nat.lt_of_lt_of_le sz hb3.size
    clear BW FX sz
    have BW := BWn
    have FX := FXn
    have sz := szn
    clear BWn FXn szn
    clear HS hb3 KX
    have HS := Lib.hid (show (fun w_ => w_.heap[K]? = some (.cells (machC c (.slice (some ⟨M, 0, none⟩) m.length m.length) (.slice A out.length d)) 75 (0, 0)) ∧ w_.heap[w1.heap.size]? = some (.cells #[.int .i64 x0, .int .i64 x1, .int .i64 x2, .int .i64 x3, .int .i64 x4] 23 (0, 0))) w3 from ⟨(HM0.out.below BW.out).mach, FX.out⟩)
    refine hK.out _ _ HS.out (fun _ => ?_)
    clear hK K_
    (try simp only [Act.put, List.getElem_toArray, List.getElem_cons_zero, List.getElem_cons_succ, List.setIfInBounds_toArray, List.set_cons_zero, List.set_cons_succ])
    refine wpAnyH_take (i := 7) (v := ?_) rfl (by kernel_rfl) (by kernel_rfl) (by kernel_rfl) (fun _ _ _ h => h) (Or.inl ⟨by rfl, ?_⟩) HS.out ?_
    rotate_left 1
    · intro w_ hSw
      clear hSw
      (go_simp) <;> (with_reducible rfl)
    (try simp only [Act.put, List.getElem_toArray, List.getElem_cons_zero, List.getElem_cons_succ, List.setIfInBounds_toArray, List.set_cons_zero, List.set_cons_succ])
    refine wpAnyH_take (i := 8) (v := ?_) rfl (by kernel_rfl) (by kernel_rfl) (by kernel_rfl) (fun _ _ _ h => h) (Or.inl ⟨by rfl, ?_⟩) HS.out ?_
    rotate_left 1
    · intro w_ hSw
      clear hSw
      (go_simp) <;> (with_reducible rfl)
    (try simp only [Act.put, List.getElem_toArray, List.getElem_cons_zero, List.getElem_cons_succ, List.setIfInBounds_toArray, List.set_cons_zero, List.set_cons_succ])
    refine wpAnyH_take (i := 9) (v := ?_) rfl (by kernel_rfl) (by kernel_rfl) (by kernel_rfl) (fun _ _ _ h => h) (Or.inl ⟨by rfl, ?_⟩) HS.out ?_
    rotate_left 1
    · intro w_ hSw
      clear hSw
      (go_simp) <;> (with_reducible rfl)
    (try simp only [Act.put, List.getElem_toArray, List.getElem_cons_zero, List.getElem_cons_succ, List.setIfInBounds_toArray, List.set_cons_zero, List.set_cons_succ])
    refine wpAnyH_ready (rs := [10]) (by kernel_rfl) (by simp) (AllReadyH.cons (i := 10) rfl (fun K_ hK => ?_) AllReadyH.nil)
    go_simp
    have FP := Lib.hid (heap_alloc_new w3 (.cells (effC eff0) 40))
    have NZ : w1.heap.size < w3.heap.size := sz
    have b4 := (Below.refl w3.heap.size w3).alloc (Nat.le_refl _) (.cells (effC eff0) 40)
    have szP : w3.heap.size < (w3.alloc (.cells (effC eff0) 40)).heap.size := by simp
    obtain ⟨N, hN⟩ : ∃ y, Hid (w3.heap.size = y) := ⟨_, rfl⟩
    have BWn := Lib.hid (BW.out.trans (b4.mono BW.out.size))
    have FXn := Lib.hid ((b4.block _ sz).trans FX.out)
    have szn : w1.heap.size < (w3.alloc (.cells (effC eff0) 40)).heap.size := Nat.lt_of_lt_of_le sz b4.size
    clear BW FX sz
    have BW := BWn
    have FX := FXn
    have sz := szn
    clear BWn FXn szn
    clear b4
    have HSn := Lib.hid (show (fun w_ => w_.heap[K]? = some (.cells (machC c (.slice (some ⟨M, 0, none⟩) m.length m.length) (.slice A out.length d)) 75 (0, 0)) ∧ w_.heap[w1.heap.size]? = some (.cells #[.int .i64 x0, .int .i64 x1, .int .i64 x2, .int .i64 x3, .int .i64 x4] 23 (0, 0))) (w3.alloc (.cells (effC eff0) 40)) from ⟨(HM0.out.below BW.out).mach, FX.out⟩)
    clear HS
    have HS := HSn
    clear HSn
    refine hK.out _ _ HS.out (fun _ => ?_)
    clear hK K_
    (try simp only [Act.put, List.getElem_toArray, List.getElem_cons_zero, List.getElem_cons_succ, List.setIfInBounds_toArray, List.set_cons_zero, List.set_cons_succ])
    change wpAnyH _ _ _ _ _ _ _ _ (w3.alloc (.cells (effC eff0) 40))
    rw [hN.out] at FP NZ szP ⊢
    clear hN
    obtain ⟨W4, hV⟩ : ∃ V, Hid ((w3.alloc (.cells (effC eff0) 40)) = V) := ⟨_, Lib.hid rfl⟩
    rw [hV.out] at BW FX sz HS FP szP ⊢
    clear hV
    refine wpAnyH_ready (rs := [11]) (by kernel_rfl) (by simp) (AllReadyH.cons (i := 11) rfl (fun K_ hK => ?_) AllReadyH.nil)
    rw [if_pos (by rfl)]
    refine wp_store_all 40 _ _ rfl N _ ps rfl rfl FP.out (by rw [ksz.out]; rfl) (by rw [ksz.out]; kernel_rfl) kone.out ?_
    intro U hU
    have BWn := Lib.hid (BW.out.setC (by omega) hU)
    have FXn := Lib.hid ((hU.block _ (by omega)).trans FX.out)
    have szn : w1.heap.size < U.heap.size := by rw [hU.size]; exact sz
    have FPn := Lib.hid hU.at_
    clear BW FX sz HS FP szP hU
    have FP := FPn
    clear FPn
    have BW := BWn
    have FX := FXn
    have sz := szn
    clear BWn FXn szn
    have HS := Lib.hid (show (fun w_ => w_.heap[K]? = some (.cells (machC c (.slice (some ⟨M, 0, none⟩) m.length m.length) (.slice A out.length d)) 75 (0, 0)) ∧ w_.heap[w1.heap.size]? = some (.cells #[.int .i64 x0, .int .i64 x1, .int .i64 x2, .int .i64 x3, .int .i64 x4] 23 (0, 0))) U from ⟨(HM0.out.below BW.out).mach, FX.out⟩)
    refine hK.out _ _ HS.out (fun _ => ?_)
    clear hK K_
    (try simp only [Act.put, List.getElem_toArray, List.getElem_cons_zero, List.getElem_cons_succ])
    refine wpAnyH_take (i := 12) (v := ?_) rfl (by kernel_rfl) (by kernel_rfl) (by kernel_rfl) (fun _ _ _ h => h) (Or.inl ⟨by rfl, ?_⟩) HS.out ?_
    rotate_left 1
    · intro w_ hSw
      clear hSw
      (go_simp) <;> (with_reducible rfl)
    (try simp only [Act.put, List.getElem_toArray, List.getElem_cons_zero, List.getElem_cons_succ, List.setIfInBounds_toArray, List.set_cons_zero, List.set_cons_succ])
    refine wpAnyH_done (by kernel_rfl) ?_ _
    clear HS
    have m17 := (cell_of_row _ _ 17 _ _ _ FP.out).trans k17.out.1
    have m18 := (cell_of_row _ _ 18 _ _ _ FP.out).trans k17.out.2.1
    go_wp2_with (go_at_call 48; refine (has_no K M m.length _ ad _ (HM0.out.below BW.out).mach (machC_at hl.out).2.1 HA.out).mono ?_; rintro e w' ⟨rfl, rfl⟩)
    go_ret
    exact ⟨rfl, BW.out⟩
  · go_simp
    have FP := Lib.hid (heap_alloc_new W2 (.cells (effC eff0) 40))
    have NZ : w1.heap.size < W2.heap.size := sz
    have b4 := (Below.refl W2.heap.size W2).alloc (Nat.le_refl _) (.cells (effC eff0) 40)
    have szP : W2.heap.size < (W2.alloc (.cells (effC eff0) 40)).heap.size := by simp
    obtain ⟨N, hN⟩ : ∃ y, Hid (W2.heap.size = y) := ⟨_, rfl⟩
    have BWn := Lib.hid (BW.out.trans (b4.mono BW.out.size))
    have FXn := Lib.hid ((b4.block _ sz).trans FX.out)
    have szn : w1.heap.size < (W2.alloc (.cells (effC eff0) 40)).heap.size := Nat.lt_of_lt_of_le sz b4.size
    clear BW FX sz
    have BW := BWn
    have FX := FXn
    have sz := szn
    clear BWn FXn szn
    clear b4
    have HSn := Lib.hid (show (fun w_ => w_.heap[K]? = some (.cells (machC c (.slice (some ⟨M, 0, none⟩) m.length m.length) (.slice A out.length d)) 75 (0, 0)) ∧ w_.heap[w1.heap.size]? = some (.cells #[.int .i64 x0, .int .i64 x1, .int .i64 x2, .int .i64 x3, .int .i64 x4] 23 (0, 0))) (W2.alloc (.cells (effC eff0) 40)) from ⟨(HM0.out.below BW.out).mach, FX.out⟩)
    clear HS
    have HS := HSn
    clear HSn
    refine hK.out _ _ HS.out (fun _ => ?_)
    clear hK K_
    (try simp only [Act.put, List.getElem_toArray, List.getElem_cons_zero, List.getElem_cons_succ, List.setIfInBounds_toArray, List.set_cons_zero, List.set_cons_succ])
    change wpAnyH _ _ _ _ _ _ _ _ (W2.alloc (.cells (effC eff0) 40))
    rw [hN.out] at FP NZ szP ⊢
    clear hN
    obtain ⟨W4, hV⟩ : ∃ V, Hid ((W2.alloc (.cells (effC eff0) 40)) = V) := ⟨_, Lib.hid rfl⟩
    rw [hV.out] at BW FX sz HS FP szP ⊢
    clear hV
    refine wpAnyH_ready (rs := [6]) (by kernel_rfl) (by simp) (AllReadyH.cons (i := 6) rfl (fun K_ hK => ?_) AllReadyH.nil)
    go_simp
    go_at_call 20
    refine (KX.out _).mono ?_
    rintro e w3 ⟨rfl, hb3⟩
    have BWn := Lib.hid (BW.out.trans (hb3.mono BW.out.size))
    have FXn := Lib.hid ((hb3.block _ sz).trans FX.out)
    have szn : w1.heap.size < w3.heap.size := Nat.lt_of_lt_of_le sz hb3.size
    clear BW FX sz
    have BW := BWn
    have FX := FXn
    have sz := szn
    clear BWn FXn szn
    have FPn := Lib.hid ((hb3.block _ szP).trans FP.out)
    have sPn := Nat.lt_of_lt_of_le szP hb3.size
    clear FP szP
    have FP := FPn
    have szP := sPn
    clear FPn sPn
    clear HS hb3 KX
    have HS := Lib.hid (show (fun w_ => w_.heap[K]? = some (.cells (machC c (.slice (some ⟨M, 0, none⟩) m.length m.length) (.slice A out.length d)) 75 (0, 0)) ∧ w_.heap[w1.heap.size]? = some (.cells #[.int .i64 x0, .int .i64 x1, .int .i64 x2, .int .i64 x3, .int .i64 x4] 23 (0, 0))) w3 from ⟨(HM0.out.below BW.out).mach, FX.out⟩)
    refine hK.out _ _ HS.out (fun _ => ?_)
    clear hK K_
    (try simp only [Act.put, List.getElem_toArray, List.getElem_cons_zero, List.getElem_cons_succ, List.setIfInBounds_toArray, List.set_cons_zero, List.set_cons_succ])
    refine wpAnyH_take (i := 7) (v := ?_) rfl (by kernel_rfl) (by kernel_rfl) (by kernel_rfl) (fun _ _ _ h => h) (Or.inl ⟨by rfl, ?_⟩) HS.out ?_
    rotate_left 1
    · intro w_ hSw
      clear hSw
      (go_simp) <;> (with_reducible rfl)
    (try simp only [Act.put, List.getElem_toArray, List.getElem_cons_zero, List.getElem_cons_succ, List.setIfInBounds_toArray, List.set_cons_zero, List.set_cons_succ])
    refine wpAnyH_take (i := 8) (v := ?_) rfl (by kernel_rfl) (by kernel_rfl) (by kernel_rfl) (fun _ _ _ h => h) (Or.inl ⟨by rfl, ?_⟩) HS.out ?_
    rotate_left 1
    · intro w_ hSw
      clear hSw
      (go_simp) <;> (with_reducible rfl)
    (try simp only [Act.put, List.getElem_toArray, List.getElem_cons_zero, List.getElem_cons_succ, List.setIfInBounds_toArray, List.set_cons_zero, List.set_cons_succ])
    refine wpAnyH_take (i := 9) (v := ?_) rfl (by kernel_rfl) (by kernel_rfl) (by kernel_rfl) (fun _ _ _ h => h) (Or.inl ⟨by rfl, ?_⟩) HS.out ?_
    rotate_left 1
    · intro w_ hSw
      clear hSw
      (go_simp) <;> (with_reducible rfl)
    (try simp only [Act.put, List.getElem_toArray, List.getElem_cons_zero, List.getElem_cons_succ, List.setIfInBounds_toArray, List.set_cons_zero, List.set_cons_succ])
    refine wpAnyH_ready (rs := [11]) (by kernel_rfl) (by simp) (AllReadyH.cons (i := 11) rfl (fun K_ hK => ?_) AllReadyH.nil)
    rw [if_pos (by rfl)]
    refine wp_store_all 40 _ _ rfl N _ ps rfl rfl FP.out (by rw [ksz.out]; rfl) (by rw [ksz.out]; kernel_rfl) kone.out ?_
    intro U hU
    have BWn := Lib.hid (BW.out.setC (by omega) hU)
    have FXn := Lib.hid ((hU.block _ (by omega)).trans FX.out)
    have szn : w1.heap.size < U.heap.size := by rw [hU.size]; exact sz
    have FPn := Lib.hid hU.at_
    clear BW FX sz HS FP szP hU
    have FP := FPn
    clear FPn
    have BW := BWn
    have FX := FXn
    have sz := szn
    clear BWn FXn szn
    have HS := Lib.hid (show (fun w_ => w_.heap[K]? = some (.cells (machC c (.slice (some ⟨M, 0, none⟩) m.length m.length) (.slice A out.length d)) 75 (0, 0)) ∧ w_.heap[w1.heap.size]? = some (.cells #[.int .i64 x0, .int .i64 x1, .int .i64 x2, .int .i64 x3, .int .i64 x4] 23 (0, 0))) U from ⟨(HM0.out.below BW.out).mach, FX.out⟩)
    refine hK.out _ _ HS.out (fun _ => ?_)
    clear hK K_
    (try simp only [Act.put, List.getElem_toArray, List.getElem_cons_zero, List.getElem_cons_succ])
    refine wpAnyH_take (i := 12) (v := ?_) rfl (by kernel_rfl) (by kernel_rfl) (by kernel_rfl) (fun _ _ _ h => h) (Or.inl ⟨by rfl, ?_⟩) HS.out ?_
    rotate_left 1
    · intro w_ hSw
      clear hSw
      (go_simp) <;> (with_reducible rfl)
    (try simp only [Act.put, List.getElem_toArray, List.getElem_cons_zero, List.getElem_cons_succ, List.setIfInBounds_toArray, List.set_cons_zero, List.set_cons_succ])
    refine wpAnyH_done (by kernel_rfl) ?_ _
    clear HS
    have m17 := (cell_of_row _ _ 17 _ _ _ FP.out).trans k17.out.1
    have m18 := (cell_of_row _ _ 18 _ _ _ FP.out).trans k17.out.2.1
    go_wp2_with (go_at_call 48; refine (has_no K M m.length _ ad _ (HM0.out.below BW.out).mach (machC_at hl.out).2.1 HA.out).mono ?_; rintro e w' ⟨rfl, rfl⟩)
    go_ret
    exact ⟨rfl, BW.out⟩
set_option maxRecDepth 100000 in
set_option maxHeartbeats 4000000 in
theorem step_ok_r (B K M : Nat) (c : Cpu) (m out : List Int) (A : Option Addr) (d : Nat) (w : World) (hm : Mach B K M c m A d out w) (hc : c.Fits) (p : Nat) (hp : c.pc = p) (hlt : p < m.length) (v : Int) (hvf : I64 v) (hv : m.getD p 0 = v) (x : Ins) (hx : decI v = x) (hd : decE v = 0) (hrb : readsB x = true) (q : Nat) (hq : readsA c x = q) (hqm : q < m.length) (ld : Int) (hld : m.getD q 0 = ld) (hex : exE x = 0) (hout : out.length ≤ 200000) (hst0 : (exV c x ld).stores = false) : Calls Tryd.prog 45 #[.pointer (some ⟨K, 0, none⟩)] w (DoStep B K M m out (exV c x ld) w) := by
  have hl := Lib.hid hc.len
  have HM0 := Lib.hid hm
  have c16 := (cell_of_row _ _ 16 _ _ _ hm.mach).trans (machC_at hc.len).1
  rw [hp] at c16
  have KW := Lib.hid (word_yes K M m.length p _ v w hm.mach (machC_at hc.len).2.1 hlt ((cell_of_row _ _ p _ _ _ hm.mem).trans ((numsC_at m p hlt).trans (by rw [hv]))))
  have hxf : Ins.Fits x := hx ▸ decI_fits hvf
  obtain ⟨x0, x1, x2, x3, x4⟩ := x
  have hx' := hx
  have KD := Lib.hid (show ∀ W : World, Calls Tryd.prog 12 #[.int .i64 v] W (Gives2 W (insV ⟨x0, x1, x2, x3, x4⟩) (.int .i64 0)) from fun W => by
    have := decode_any v hvf W
    rw [hx', hd] at this
    exact this)
  obtain ⟨cs, hcs⟩ : ∃ y, Hid (cpuC c = y) := ⟨_, rfl⟩
  have gc := Lib.hid (fun (mm oo : Value) => machC_cpu (m := mm) (o := oo) hc.len)
  have ncs := Lib.hid (cpuC_size hc.len)
  obtain ⟨ra, hra⟩ : ∃ y, Hid (readsA c ⟨x0, x1, x2, x3, x4⟩ = y) := ⟨_, rfl⟩
  have KR := Lib.hid (show ∀ W : World, Calls Tryd.prog 18 #[.agg (cpuC c), insV ⟨x0, x1, x2, x3, x4⟩] W (GivesB W ra true) from fun W => by
    have := reads_any c hc ⟨x0, x1, x2, x3, x4⟩ hxf W
    rw [hra.out, hrb] at this
    exact this)
  rw [hcs.out] at gc ncs KR
  rw [hra.out] at hq
  subst hq
  have HQ := Lib.hid (And.intro hqm hld)
  clear hqm hld
  have HX := Lib.hid hst0
  clear hst0
  clear hx' hx hd hm hp hv hlt hvf hrb
  obtain ⟨X, hX⟩ : ∃ y, Hid (exV c ⟨x0, x1, x2, x3, x4⟩ ld = y) := ⟨_, rfl⟩
  have KX := Lib.hid (show ∀ W : World, Calls Tryd.prog 20 #[.agg (cpuC c), insV ⟨x0, x1, x2, x3, x4⟩, .int .i64 ld] W (Gives2 W (.agg (effC X)) (.int .i64 0)) from fun W => by
    have := execute_any c hc ⟨x0, x1, x2, x3, x4⟩ hxf ld W
    rw [hX.out, hex] at this
    exact this)
  have xl := Lib.hid (show X.cpu.r.length = 16 by rw [← hX.out]; exact exV_len c _ ld hc.len)
  have k17 := Lib.hid (effC_at17 X xl.out)
  have ksz := Lib.hid (effC_size xl.out)
  have kone := Lib.hid (effC_one X)
  rw [hX.out] at HX ⊢
  have KT := Lib.hid (show ∀ W : World, Mach B K M c m A d out W → Calls Tryd.prog 49 #[.pointer (some ⟨K, 0, none⟩), .agg (effC X)] W (Taken B K M m out X W) from fun W h => take_any B K M c m out A d X W h hc.len xl.out (fun h => by rw [HX.out] at h; cases h) hout)
  obtain ⟨st, hst⟩ : ∃ y, Hid (X.stores = y) := ⟨_, rfl⟩
  obtain ⟨ad, had⟩ : ∃ y, Hid (X.addr = y) := ⟨_, rfl⟩
  obtain ⟨ps, hps⟩ : ∃ y, Hid (effC X = y) := ⟨_, rfl⟩
  rw [HX.out] at hst
  have hst2 : st = false := hst.out.symm
  subst hst2
  rw [HX.out, had.out] at k17
  clear hst had HX
  rw [hps.out] at k17 ksz kone KX KT
  rw [hcs.out] at KX
  clear hc hcs hxf hps hX hex hout hra
  go_enter Tryd.func45, Tryd.ntmps45
  go_wp2_with (go_at_call 47; refine (KW.out).mono ?_; rintro e w' ⟨rfl, rfl⟩)
  refine (KD.out _).mono ?_
  rintro e w1 ⟨rfl, hb1⟩
  have FX := Lib.hid (heap_alloc_new w1 (.cells #[.int .i64 x0, .int .i64 x1, .int .i64 x2, .int .i64 x3, .int .i64 x4] 23))
  have BW := Lib.hid (hb1.alloc hb1.size (.cells #[.int .i64 x0, .int .i64 x1, .int .i64 x2, .int .i64 x3, .int .i64 x4] 23))
  have sz : w1.heap.size < (w1.alloc (.cells #[.int .i64 x0, .int .i64 x1, .int .i64 x2, .int .i64 x3, .int .i64 x4] 23)).heap.size := by simp
  have w1z : w.heap.size ≤ w1.heap.size := hb1.size
  clear hb1 c16 KW KD
  go_wp2_with fail
  refine wp_region_held_drew (S := fun w_ => w_.heap[K]? = some (.cells (machC c (.slice (some ⟨M, 0, none⟩) m.length m.length) (.slice A out.length d)) 75 (0, 0)) ∧ w_.heap[w1.heap.size]? = some (.cells #[.int .i64 x0, .int .i64 x1, .int .i64 x2, .int .i64 x3, .int .i64 x4] 23 (0, 0))) (by kernel_rfl) ⟨(HM0.out.below BW.out).mach, FX.out⟩ (fun hHeld => ?_)
  clear hHeld
  have BWn := Lib.hid BW.out.drew
  have FXn := Lib.hid (show (w1.alloc (.cells #[.int .i64 x0, .int .i64 x1, .int .i64 x2, .int .i64 x3, .int .i64 x4] 23)).drew.heap[w1.heap.size]? = _ from FX.out)
  have szn : w1.heap.size < (w1.alloc (.cells #[.int .i64 x0, .int .i64 x1, .int .i64 x2, .int .i64 x3, .int .i64 x4] 23)).drew.heap.size := sz
  clear BW FX sz
  obtain ⟨W1, hV⟩ : ∃ V, Hid ((w1.alloc (.cells #[.int .i64 x0, .int .i64 x1, .int .i64 x2, .int .i64 x3, .int .i64 x4] 23)).drew = V) := ⟨_, Lib.hid rfl⟩
  rw [hV.out] at BWn FXn szn ⊢
  clear hV
  have BW := BWn
  have FX := FXn
  have sz := szn
  clear BWn FXn szn
  have HS := Lib.hid (show (fun w_ => w_.heap[K]? = some (.cells (machC c (.slice (some ⟨M, 0, none⟩) m.length m.length) (.slice A out.length d)) 75 (0, 0)) ∧ w_.heap[w1.heap.size]? = some (.cells #[.int .i64 x0, .int .i64 x1, .int .i64 x2, .int .i64 x3, .int .i64 x4] 23 (0, 0))) W1 from ⟨(HM0.out.below BW.out).mach, FX.out⟩)
  refine wpAnyH_take (i := 0) (v := ?_) rfl (by kernel_rfl) (by kernel_rfl) (by kernel_rfl) (fun _ _ _ h => h) (Or.inl ⟨by rfl, ?_⟩) HS.out ?_
  rotate_left 1
  · intro w_ hSw
    clear hSw
    (go_simp) <;> (with_reducible rfl)
  (try simp only [Act.put, List.getElem_toArray, List.getElem_cons_zero, List.setIfInBounds_toArray, List.set_cons_zero, List.set_cons_succ])
  refine wpAnyH_take (i := 1) (v := ?_) rfl (by kernel_rfl) (by kernel_rfl) (by kernel_rfl) (fun _ _ _ h => h) (Or.inl ⟨by rfl, ?_⟩) HS.out ?_
  rotate_left 1
  · intro w_ hSw
    clear hSw
    (go_simp) <;> (with_reducible rfl)
  (try simp only [Act.put, List.getElem_toArray, List.getElem_cons_zero, List.getElem_cons_succ, List.setIfInBounds_toArray, List.set_cons_zero, List.set_cons_succ])
  refine wpAnyH_take (i := 2) (v := ?_) rfl (by kernel_rfl) (by kernel_rfl) (by kernel_rfl) (fun _ _ _ h => h) (Or.inl ⟨by rfl, ?_⟩) HS.out ?_
  rotate_left 1
  · intro w_ hSw
    clear hSw
    (go_simp) <;> (with_reducible rfl)
  (try simp only [Act.put, List.getElem_toArray, List.getElem_cons_zero, List.getElem_cons_succ, List.setIfInBounds_toArray, List.set_cons_zero, List.set_cons_succ])
  refine wpAnyH_take (i := 3) (v := .agg cs) rfl (by kernel_rfl) (by kernel_rfl) (by kernel_rfl) (fun _ _ _ h => h) (Or.inl ⟨by rfl, fun W_ hW => exec_load_head 35 _ rfl K rfl cs _ (range_of hW.1 (gc.out _ _)) Tryd.underlying35 rfl (by rw [ncs.out]; kernel_rfl)⟩) HS.out ?_
  (try simp only [Act.put, List.getElem_toArray, List.getElem_cons_zero, List.getElem_cons_succ, List.setIfInBounds_toArray, List.set_cons_zero, List.set_cons_succ])
  refine wpAnyH_take (i := 4) (v := .agg #[.int .i64 x0, .int .i64 x1, .int .i64 x2, .int .i64 x3, .int .i64 x4]) rfl (by kernel_rfl) (by kernel_rfl) (by kernel_rfl) (fun _ _ _ h => h) (Or.inl ⟨by rfl, fun W_ hW => exec_load_all 23 _ rfl w1.heap.size #[.int .i64 x0, .int .i64 x1, .int .i64 x2, .int .i64 x3, .int .i64 x4] _ rfl hW.2 Tryd.underlying23 rfl (by kernel_rfl)⟩) HS.out ?_
  (try simp only [Act.put, List.getElem_toArray, List.getElem_cons_zero, List.getElem_cons_succ, List.setIfInBounds_toArray, List.set_cons_zero, List.set_cons_succ])
  refine wpAnyH_ready (rs := [5]) (by kernel_rfl) (by simp) (AllReadyH.cons (i := 5) rfl (fun K_ hK => ?_) AllReadyH.nil)
  go_simp
  go_at_call 18
  refine (KR.out _).mono ?_
  rintro e w2 ⟨rfl, hb2⟩
  have BWn := Lib.hid (BW.out.trans (hb2.mono BW.out.size))
  have FXn := Lib.hid ((hb2.block _ sz).trans FX.out)
  have szn : w1.heap.size < w2.heap.size := Nat.lt_of_lt_of_le sz hb2.size
  clear BW FX sz
  have BW := BWn
  have FX := FXn
  have sz := szn
  clear BWn FXn szn
  clear HS hb2 KR
  have HS := Lib.hid (show (fun w_ => w_.heap[K]? = some (.cells (machC c (.slice (some ⟨M, 0, none⟩) m.length m.length) (.slice A out.length d)) 75 (0, 0)) ∧ w_.heap[w1.heap.size]? = some (.cells #[.int .i64 x0, .int .i64 x1, .int .i64 x2, .int .i64 x3, .int .i64 x4] 23 (0, 0))) w2 from ⟨(HM0.out.below BW.out).mach, FX.out⟩)
  refine hK.out _ _ HS.out (fun _ => ?_)
  clear hK K_
  (try simp only [Act.put, List.getElem_toArray, List.getElem_cons_zero, List.getElem_cons_succ, List.setIfInBounds_toArray, List.set_cons_zero, List.set_cons_succ])
  refine wpAnyH_take (i := 6) (v := ?_) rfl (by kernel_rfl) (by kernel_rfl) (by kernel_rfl) (fun _ _ _ h => h) (Or.inl ⟨by rfl, ?_⟩) HS.out ?_
  rotate_left 1
  · intro w_ hSw
    clear hSw
    (go_simp) <;> (with_reducible rfl)
  (try simp only [Act.put, List.getElem_toArray, List.getElem_cons_zero, List.getElem_cons_succ, List.setIfInBounds_toArray, List.set_cons_zero, List.set_cons_succ])
  refine wpAnyH_take (i := 7) (v := ?_) rfl (by kernel_rfl) (by kernel_rfl) (by kernel_rfl) (fun _ _ _ h => h) (Or.inl ⟨by rfl, ?_⟩) HS.out ?_
  rotate_left 1
  · intro w_ hSw
    clear hSw
    (go_simp) <;> (with_reducible rfl)
  (try simp only [Act.put, List.getElem_toArray, List.getElem_cons_zero, List.getElem_cons_succ, List.setIfInBounds_toArray, List.set_cons_zero, List.set_cons_succ])
  refine wpAnyH_take (i := 8) (v := ?_) rfl (by kernel_rfl) (by kernel_rfl) (by kernel_rfl) (fun _ _ _ h => h) (Or.inl ⟨by rfl, ?_⟩) HS.out ?_
  rotate_left 1
  · intro w_ hSw
    clear hSw
    (go_simp) <;> (with_reducible rfl)
  (try simp only [Act.put, List.getElem_toArray, List.getElem_cons_zero, List.getElem_cons_succ, List.setIfInBounds_toArray, List.set_cons_zero, List.set_cons_succ])
  refine wpAnyH_take (i := 9) (v := ?_) rfl (by kernel_rfl) (by kernel_rfl) (by kernel_rfl) (fun _ _ _ h => h) (Or.inl ⟨by rfl, ?_⟩) HS.out ?_
  rotate_left 1
  · intro w_ hSw
    clear hSw
    (go_simp) <;> (with_reducible rfl)
  (try simp only [Act.put, List.getElem_toArray, List.getElem_cons_zero, List.getElem_cons_succ, List.setIfInBounds_toArray, List.set_cons_zero, List.set_cons_succ])
  refine wpAnyH_take (i := 10) (v := ?_) rfl (by kernel_rfl) (by kernel_rfl) (by kernel_rfl) (fun _ _ _ h => h) (Or.inl ⟨by rfl, ?_⟩) HS.out ?_
  rotate_left 1
  · intro w_ hSw
    clear hSw
    (go_simp) <;> (with_reducible rfl)
  (try simp only [Act.put, List.getElem_toArray, List.getElem_cons_zero, List.getElem_cons_succ, List.setIfInBounds_toArray, List.set_cons_zero, List.set_cons_succ])
  refine wpAnyH_done (by kernel_rfl) ?_ _
  clear HS
  go_wp2_with (go_at_call 47; refine (word_yes K M m.length q _ ld _ (HM0.out.below BW.out).mach (machC_at hl.out).2.1 HQ.out.1 ((cell_of_row _ _ q _ _ _ (HM0.out.below BW.out).mem).trans ((numsC_at m q HQ.out.1).trans (by rw [HQ.out.2])))).mono ?_; rintro e w' ⟨rfl, rfl⟩)
  refine wp_region_held_drew (S := fun w_ => w_.heap[K]? = some (.cells (machC c (.slice (some ⟨M, 0, none⟩) m.length m.length) (.slice A out.length d)) 75 (0, 0)) ∧ w_.heap[w1.heap.size]? = some (.cells #[.int .i64 x0, .int .i64 x1, .int .i64 x2, .int .i64 x3, .int .i64 x4] 23 (0, 0))) (by kernel_rfl) ⟨(HM0.out.below BW.out).mach, FX.out⟩ (fun hHeld => ?_)
  clear hHeld
  have BWn := Lib.hid BW.out.drew
  have FXn := Lib.hid (show w2.drew.heap[w1.heap.size]? = _ from FX.out)
  have szn : w1.heap.size < w2.drew.heap.size := sz
  clear BW FX sz
  obtain ⟨W2, hV⟩ : ∃ V, Hid (w2.drew = V) := ⟨_, Lib.hid rfl⟩
  rw [hV.out] at BWn FXn szn ⊢
  clear hV
  have BW := BWn
  have FX := FXn
  have sz := szn
  clear BWn FXn szn
  have HS := Lib.hid (show (fun w_ => w_.heap[K]? = some (.cells (machC c (.slice (some ⟨M, 0, none⟩) m.length m.length) (.slice A out.length d)) 75 (0, 0)) ∧ w_.heap[w1.heap.size]? = some (.cells #[.int .i64 x0, .int .i64 x1, .int .i64 x2, .int .i64 x3, .int .i64 x4] 23 (0, 0))) W2 from ⟨(HM0.out.below BW.out).mach, FX.out⟩)
  refine wpAnyH_take (i := 0) (v := ?_) rfl (by kernel_rfl) (by kernel_rfl) (by kernel_rfl) (fun _ _ _ h => h) (Or.inl ⟨by rfl, ?_⟩) HS.out ?_
  rotate_left 1
  · intro w_ hSw
    clear hSw
    (go_simp) <;> (with_reducible rfl)
  (try simp only [Act.put, List.getElem_toArray, List.getElem_cons_zero, List.setIfInBounds_toArray, List.set_cons_zero, List.set_cons_succ])
  refine wpAnyH_take (i := 1) (v := ?_) rfl (by kernel_rfl) (by kernel_rfl) (by kernel_rfl) (fun _ _ _ h => h) (Or.inl ⟨by rfl, ?_⟩) HS.out ?_
  rotate_left 1
  · intro w_ hSw
    clear hSw
    (go_simp) <;> (with_reducible rfl)
  (try simp only [Act.put, List.getElem_toArray, List.getElem_cons_zero, List.getElem_cons_succ, List.setIfInBounds_toArray, List.set_cons_zero, List.set_cons_succ])
  refine wpAnyH_take (i := 2) (v := ?_) rfl (by kernel_rfl) (by kernel_rfl) (by kernel_rfl) (fun _ _ _ h => h) (Or.inl ⟨by rfl, ?_⟩) HS.out ?_
  rotate_left 1
  · intro w_ hSw
    clear hSw
    (go_simp) <;> (with_reducible rfl)
  (try simp only [Act.put, List.getElem_toArray, List.getElem_cons_zero, List.getElem_cons_succ, List.setIfInBounds_toArray, List.set_cons_zero, List.set_cons_succ])
  refine wpAnyH_take (i := 3) (v := .agg cs) rfl (by kernel_rfl) (by kernel_rfl) (by kernel_rfl) (fun _ _ _ h => h) (Or.inl ⟨by rfl, fun W_ hW => exec_load_head 35 _ rfl K rfl cs _ (range_of hW.1 (gc.out _ _)) Tryd.underlying35 rfl (by rw [ncs.out]; kernel_rfl)⟩) HS.out ?_
  (try simp only [Act.put, List.getElem_toArray, List.getElem_cons_zero, List.getElem_cons_succ, List.setIfInBounds_toArray, List.set_cons_zero, List.set_cons_succ])
  refine wpAnyH_take (i := 4) (v := .agg #[.int .i64 x0, .int .i64 x1, .int .i64 x2, .int .i64 x3, .int .i64 x4]) rfl (by kernel_rfl) (by kernel_rfl) (by kernel_rfl) (fun _ _ _ h => h) (Or.inl ⟨by rfl, fun W_ hW => exec_load_all 23 _ rfl w1.heap.size #[.int .i64 x0, .int .i64 x1, .int .i64 x2, .int .i64 x3, .int .i64 x4] _ rfl hW.2 Tryd.underlying23 rfl (by kernel_rfl)⟩) HS.out ?_
  (try simp only [Act.put, List.getElem_toArray, List.getElem_cons_zero, List.getElem_cons_succ, List.setIfInBounds_toArray, List.set_cons_zero, List.set_cons_succ])
  refine wpAnyH_take (i := 5) (v := ?_) rfl (by kernel_rfl) (by kernel_rfl) (by kernel_rfl) (fun _ _ _ h => h) (Or.inl ⟨by rfl, ?_⟩) HS.out ?_
  rotate_left 1
  · intro w_ hSw
    clear hSw
    (go_simp) <;> (with_reducible rfl)
  (try simp only [Act.put, List.getElem_toArray, List.getElem_cons_zero, List.getElem_cons_succ, List.setIfInBounds_toArray, List.set_cons_zero, List.set_cons_succ])
  refine wpAnyH_ready (rs := [6, 10]) (by kernel_rfl) (by simp) (AllReadyH.cons (i := 6) rfl (fun K_ hK => ?_) (AllReadyH.cons (i := 10) rfl (fun K_ hK => ?_) AllReadyH.nil))
  · go_simp
    go_at_call 20
    refine (KX.out _).mono ?_
    rintro e w3 ⟨rfl, hb3⟩
    have BWn := Lib.hid (BW.out.trans (hb3.mono BW.out.size))
    have FXn := Lib.hid ((hb3.block _ sz).trans FX.out)
    have szn : w1.heap.size < w3.heap.size := Nat.lt_of_lt_of_le sz hb3.size
    clear BW FX sz
    have BW := BWn
    have FX := FXn
    have sz := szn
    clear BWn FXn szn
    clear HS hb3 KX
    have HS := Lib.hid (show (fun w_ => w_.heap[K]? = some (.cells (machC c (.slice (some ⟨M, 0, none⟩) m.length m.length) (.slice A out.length d)) 75 (0, 0)) ∧ w_.heap[w1.heap.size]? = some (.cells #[.int .i64 x0, .int .i64 x1, .int .i64 x2, .int .i64 x3, .int .i64 x4] 23 (0, 0))) w3 from ⟨(HM0.out.below BW.out).mach, FX.out⟩)
    refine hK.out _ _ HS.out (fun _ => ?_)
    clear hK K_
    (try simp only [Act.put, List.getElem_toArray, List.getElem_cons_zero, List.getElem_cons_succ, List.setIfInBounds_toArray, List.set_cons_zero, List.set_cons_succ])
    refine wpAnyH_take (i := 7) (v := ?_) rfl (by kernel_rfl) (by kernel_rfl) (by kernel_rfl) (fun _ _ _ h => h) (Or.inl ⟨by rfl, ?_⟩) HS.out ?_
    rotate_left 1
    · intro w_ hSw
      clear hSw
      (go_simp) <;> (with_reducible rfl)
    (try simp only [Act.put, List.getElem_toArray, List.getElem_cons_zero, List.getElem_cons_succ, List.setIfInBounds_toArray, List.set_cons_zero, List.set_cons_succ])
    refine wpAnyH_take (i := 8) (v := ?_) rfl (by kernel_rfl) (by kernel_rfl) (by kernel_rfl) (fun _ _ _ h => h) (Or.inl ⟨by rfl, ?_⟩) HS.out ?_
    rotate_left 1
    · intro w_ hSw
      clear hSw
      (go_simp) <;> (with_reducible rfl)
    (try simp only [Act.put, List.getElem_toArray, List.getElem_cons_zero, List.getElem_cons_succ, List.setIfInBounds_toArray, List.set_cons_zero, List.set_cons_succ])
    refine wpAnyH_take (i := 9) (v := ?_) rfl (by kernel_rfl) (by kernel_rfl) (by kernel_rfl) (fun _ _ _ h => h) (Or.inl ⟨by rfl, ?_⟩) HS.out ?_
    rotate_left 1
    · intro w_ hSw
      clear hSw
      (go_simp) <;> (with_reducible rfl)
    (try simp only [Act.put, List.getElem_toArray, List.getElem_cons_zero, List.getElem_cons_succ, List.setIfInBounds_toArray, List.set_cons_zero, List.set_cons_succ])
    refine wpAnyH_ready (rs := [10]) (by kernel_rfl) (by simp) (AllReadyH.cons (i := 10) rfl (fun K_ hK => ?_) AllReadyH.nil)
    go_simp
    have FP := Lib.hid (heap_alloc_new w3 (.cells (effC eff0) 40))
    have NZ : w1.heap.size < w3.heap.size := sz
    have b4 := (Below.refl w3.heap.size w3).alloc (Nat.le_refl _) (.cells (effC eff0) 40)
    have szP : w3.heap.size < (w3.alloc (.cells (effC eff0) 40)).heap.size := by simp
    obtain ⟨N, hN⟩ : ∃ y, Hid (w3.heap.size = y) := ⟨_, rfl⟩
    have BWn := Lib.hid (BW.out.trans (b4.mono BW.out.size))
    have FXn := Lib.hid ((b4.block _ sz).trans FX.out)
    have szn : w1.heap.size < (w3.alloc (.cells (effC eff0) 40)).heap.size := Nat.lt_of_lt_of_le sz b4.size
    clear BW FX sz
    have BW := BWn
    have FX := FXn
    have sz := szn
    clear BWn FXn szn
    clear b4
    have HSn := Lib.hid (show (fun w_ => w_.heap[K]? = some (.cells (machC c (.slice (some ⟨M, 0, none⟩) m.length m.length) (.slice A out.length d)) 75 (0, 0)) ∧ w_.heap[w1.heap.size]? = some (.cells #[.int .i64 x0, .int .i64 x1, .int .i64 x2, .int .i64 x3, .int .i64 x4] 23 (0, 0))) (w3.alloc (.cells (effC eff0) 40)) from ⟨(HM0.out.below BW.out).mach, FX.out⟩)
    clear HS
    have HS := HSn
    clear HSn
    refine hK.out _ _ HS.out (fun _ => ?_)
    clear hK K_
    (try simp only [Act.put, List.getElem_toArray, List.getElem_cons_zero, List.getElem_cons_succ, List.setIfInBounds_toArray, List.set_cons_zero, List.set_cons_succ])
    change wpAnyH _ _ _ _ _ _ _ _ (w3.alloc (.cells (effC eff0) 40))
    rw [hN.out] at FP NZ szP ⊢
    clear hN
    obtain ⟨W4, hV⟩ : ∃ V, Hid ((w3.alloc (.cells (effC eff0) 40)) = V) := ⟨_, Lib.hid rfl⟩
    rw [hV.out] at BW FX sz HS FP szP ⊢
    clear hV
    refine wpAnyH_ready (rs := [11]) (by kernel_rfl) (by simp) (AllReadyH.cons (i := 11) rfl (fun K_ hK => ?_) AllReadyH.nil)
    rw [if_pos (by rfl)]
    refine wp_store_all 40 _ _ rfl N _ ps rfl rfl FP.out (by rw [ksz.out]; rfl) (by rw [ksz.out]; kernel_rfl) kone.out ?_
    intro U hU
    have BWn := Lib.hid (BW.out.setC (by omega) hU)
    have FXn := Lib.hid ((hU.block _ (by omega)).trans FX.out)
    have szn : w1.heap.size < U.heap.size := by rw [hU.size]; exact sz
    have FPn := Lib.hid hU.at_
    clear BW FX sz HS FP szP hU
    have FP := FPn
    clear FPn
    have BW := BWn
    have FX := FXn
    have sz := szn
    clear BWn FXn szn
    have HS := Lib.hid (show (fun w_ => w_.heap[K]? = some (.cells (machC c (.slice (some ⟨M, 0, none⟩) m.length m.length) (.slice A out.length d)) 75 (0, 0)) ∧ w_.heap[w1.heap.size]? = some (.cells #[.int .i64 x0, .int .i64 x1, .int .i64 x2, .int .i64 x3, .int .i64 x4] 23 (0, 0))) U from ⟨(HM0.out.below BW.out).mach, FX.out⟩)
    refine hK.out _ _ HS.out (fun _ => ?_)
    clear hK K_
    (try simp only [Act.put, List.getElem_toArray, List.getElem_cons_zero, List.getElem_cons_succ])
    refine wpAnyH_take (i := 12) (v := ?_) rfl (by kernel_rfl) (by kernel_rfl) (by kernel_rfl) (fun _ _ _ h => h) (Or.inl ⟨by rfl, ?_⟩) HS.out ?_
    rotate_left 1
    · intro w_ hSw
      clear hSw
      (go_simp) <;> (with_reducible rfl)
    (try simp only [Act.put, List.getElem_toArray, List.getElem_cons_zero, List.getElem_cons_succ, List.setIfInBounds_toArray, List.set_cons_zero, List.set_cons_succ])
    refine wpAnyH_done (by kernel_rfl) ?_ _
    clear HS
    have m17 := (cell_of_row _ _ 17 _ _ _ FP.out).trans k17.out.1
    have m18 := (cell_of_row _ _ 18 _ _ _ FP.out).trans k17.out.2.1
    go_wp2_with (first | ((with_reducible show wpList _ _ _ (Oper.mk _ (Op.load 40 _) _ _ _ none :: _) _ _); refine wpList_load_all rfl 40 _ rfl N _ _ rfl FP.out Tryd.underlying40 rfl (by rw [ksz.out]; kernel_rfl) ?_))
    refine (KT.out _ (HM0.out.below BW.out)).mono ?_
    intro e w4 ht
    unfold Taken at ht
    obtain ⟨rfl, hma, hoth⟩ := ht
    go_wp2_with fail
    go_ret
    unfold DoStep
    exact ⟨rfl, hma, (Others.of_below HM0.out.size BW.out).trans hoth⟩
  · go_simp
    have FP := Lib.hid (heap_alloc_new W2 (.cells (effC eff0) 40))
    have NZ : w1.heap.size < W2.heap.size := sz
    have b4 := (Below.refl W2.heap.size W2).alloc (Nat.le_refl _) (.cells (effC eff0) 40)
    have szP : W2.heap.size < (W2.alloc (.cells (effC eff0) 40)).heap.size := by simp
    obtain ⟨N, hN⟩ : ∃ y, Hid (W2.heap.size = y) := ⟨_, rfl⟩
    have BWn := Lib.hid (BW.out.trans (b4.mono BW.out.size))
    have FXn := Lib.hid ((b4.block _ sz).trans FX.out)
    have szn : w1.heap.size < (W2.alloc (.cells (effC eff0) 40)).heap.size := Nat.lt_of_lt_of_le sz b4.size
    clear BW FX sz
    have BW := BWn
    have FX := FXn
    have sz := szn
    clear BWn FXn szn
    clear b4
    have HSn := Lib.hid (show (fun w_ => w_.heap[K]? = some (.cells (machC c (.slice (some ⟨M, 0, none⟩) m.length m.length) (.slice A out.length d)) 75 (0, 0)) ∧ w_.heap[w1.heap.size]? = some (.cells #[.int .i64 x0, .int .i64 x1, .int .i64 x2, .int .i64 x3, .int .i64 x4] 23 (0, 0))) (W2.alloc (.cells (effC eff0) 40)) from ⟨(HM0.out.below BW.out).mach, FX.out⟩)
    clear HS
    have HS := HSn
    clear HSn
    refine hK.out _ _ HS.out (fun _ => ?_)
    clear hK K_
    (try simp only [Act.put, List.getElem_toArray, List.getElem_cons_zero, List.getElem_cons_succ, List.setIfInBounds_toArray, List.set_cons_zero, List.set_cons_succ])
    change wpAnyH _ _ _ _ _ _ _ _ (W2.alloc (.cells (effC eff0) 40))
    rw [hN.out] at FP NZ szP ⊢
    clear hN
    obtain ⟨W4, hV⟩ : ∃ V, Hid ((W2.alloc (.cells (effC eff0) 40)) = V) := ⟨_, Lib.hid rfl⟩
    rw [hV.out] at BW FX sz HS FP szP ⊢
    clear hV
    refine wpAnyH_ready (rs := [6]) (by kernel_rfl) (by simp) (AllReadyH.cons (i := 6) rfl (fun K_ hK => ?_) AllReadyH.nil)
    go_simp
    go_at_call 20
    refine (KX.out _).mono ?_
    rintro e w3 ⟨rfl, hb3⟩
    have BWn := Lib.hid (BW.out.trans (hb3.mono BW.out.size))
    have FXn := Lib.hid ((hb3.block _ sz).trans FX.out)
    have szn : w1.heap.size < w3.heap.size := Nat.lt_of_lt_of_le sz hb3.size
    clear BW FX sz
    have BW := BWn
    have FX := FXn
    have sz := szn
    clear BWn FXn szn
    have FPn := Lib.hid ((hb3.block _ szP).trans FP.out)
    have sPn := Nat.lt_of_lt_of_le szP hb3.size
    clear FP szP
    have FP := FPn
    have szP := sPn
    clear FPn sPn
    clear HS hb3 KX
    have HS := Lib.hid (show (fun w_ => w_.heap[K]? = some (.cells (machC c (.slice (some ⟨M, 0, none⟩) m.length m.length) (.slice A out.length d)) 75 (0, 0)) ∧ w_.heap[w1.heap.size]? = some (.cells #[.int .i64 x0, .int .i64 x1, .int .i64 x2, .int .i64 x3, .int .i64 x4] 23 (0, 0))) w3 from ⟨(HM0.out.below BW.out).mach, FX.out⟩)
    refine hK.out _ _ HS.out (fun _ => ?_)
    clear hK K_
    (try simp only [Act.put, List.getElem_toArray, List.getElem_cons_zero, List.getElem_cons_succ, List.setIfInBounds_toArray, List.set_cons_zero, List.set_cons_succ])
    refine wpAnyH_take (i := 7) (v := ?_) rfl (by kernel_rfl) (by kernel_rfl) (by kernel_rfl) (fun _ _ _ h => h) (Or.inl ⟨by rfl, ?_⟩) HS.out ?_
    rotate_left 1
    · intro w_ hSw
      clear hSw
      (go_simp) <;> (with_reducible rfl)
    (try simp only [Act.put, List.getElem_toArray, List.getElem_cons_zero, List.getElem_cons_succ, List.setIfInBounds_toArray, List.set_cons_zero, List.set_cons_succ])
    refine wpAnyH_take (i := 8) (v := ?_) rfl (by kernel_rfl) (by kernel_rfl) (by kernel_rfl) (fun _ _ _ h => h) (Or.inl ⟨by rfl, ?_⟩) HS.out ?_
    rotate_left 1
    · intro w_ hSw
      clear hSw
      (go_simp) <;> (with_reducible rfl)
    (try simp only [Act.put, List.getElem_toArray, List.getElem_cons_zero, List.getElem_cons_succ, List.setIfInBounds_toArray, List.set_cons_zero, List.set_cons_succ])
    refine wpAnyH_take (i := 9) (v := ?_) rfl (by kernel_rfl) (by kernel_rfl) (by kernel_rfl) (fun _ _ _ h => h) (Or.inl ⟨by rfl, ?_⟩) HS.out ?_
    rotate_left 1
    · intro w_ hSw
      clear hSw
      (go_simp) <;> (with_reducible rfl)
    (try simp only [Act.put, List.getElem_toArray, List.getElem_cons_zero, List.getElem_cons_succ, List.setIfInBounds_toArray, List.set_cons_zero, List.set_cons_succ])
    refine wpAnyH_ready (rs := [11]) (by kernel_rfl) (by simp) (AllReadyH.cons (i := 11) rfl (fun K_ hK => ?_) AllReadyH.nil)
    rw [if_pos (by rfl)]
    refine wp_store_all 40 _ _ rfl N _ ps rfl rfl FP.out (by rw [ksz.out]; rfl) (by rw [ksz.out]; kernel_rfl) kone.out ?_
    intro U hU
    have BWn := Lib.hid (BW.out.setC (by omega) hU)
    have FXn := Lib.hid ((hU.block _ (by omega)).trans FX.out)
    have szn : w1.heap.size < U.heap.size := by rw [hU.size]; exact sz
    have FPn := Lib.hid hU.at_
    clear BW FX sz HS FP szP hU
    have FP := FPn
    clear FPn
    have BW := BWn
    have FX := FXn
    have sz := szn
    clear BWn FXn szn
    have HS := Lib.hid (show (fun w_ => w_.heap[K]? = some (.cells (machC c (.slice (some ⟨M, 0, none⟩) m.length m.length) (.slice A out.length d)) 75 (0, 0)) ∧ w_.heap[w1.heap.size]? = some (.cells #[.int .i64 x0, .int .i64 x1, .int .i64 x2, .int .i64 x3, .int .i64 x4] 23 (0, 0))) U from ⟨(HM0.out.below BW.out).mach, FX.out⟩)
    refine hK.out _ _ HS.out (fun _ => ?_)
    clear hK K_
    (try simp only [Act.put, List.getElem_toArray, List.getElem_cons_zero, List.getElem_cons_succ])
    refine wpAnyH_take (i := 12) (v := ?_) rfl (by kernel_rfl) (by kernel_rfl) (by kernel_rfl) (fun _ _ _ h => h) (Or.inl ⟨by rfl, ?_⟩) HS.out ?_
    rotate_left 1
    · intro w_ hSw
      clear hSw
      (go_simp) <;> (with_reducible rfl)
    (try simp only [Act.put, List.getElem_toArray, List.getElem_cons_zero, List.getElem_cons_succ, List.setIfInBounds_toArray, List.set_cons_zero, List.set_cons_succ])
    refine wpAnyH_done (by kernel_rfl) ?_ _
    clear HS
    have m17 := (cell_of_row _ _ 17 _ _ _ FP.out).trans k17.out.1
    have m18 := (cell_of_row _ _ 18 _ _ _ FP.out).trans k17.out.2.1
    go_wp2_with (first | ((with_reducible show wpList _ _ _ (Oper.mk _ (Op.load 40 _) _ _ _ none :: _) _ _); refine wpList_load_all rfl 40 _ rfl N _ _ rfl FP.out Tryd.underlying40 rfl (by rw [ksz.out]; kernel_rfl) ?_))
    refine (KT.out _ (HM0.out.below BW.out)).mono ?_
    intro e w4 ht
    unfold Taken at ht
    obtain ⟨rfl, hma, hoth⟩ := ht
    go_wp2_with fail
    go_ret
    unfold DoStep
    exact ⟨rfl, hma, (Others.of_below HM0.out.size BW.out).trans hoth⟩
set_option maxRecDepth 100000 in
set_option maxHeartbeats 4000000 in
theorem step_set_r (B K M : Nat) (c : Cpu) (m out : List Int) (A : Option Addr) (d : Nat) (w : World) (hm : Mach B K M c m A d out w) (hc : c.Fits) (p : Nat) (hp : c.pc = p) (hlt : p < m.length) (v : Int) (hvf : I64 v) (hv : m.getD p 0 = v) (x : Ins) (hx : decI v = x) (hd : decE v = 0) (hrb : readsB x = true) (q : Nat) (hq : readsA c x = q) (hqm : q < m.length) (ld : Int) (hld : m.getD q 0 = ld) (hex : exE x = 0) (hout : out.length ≤ 200000) (hst0 : (exV c x ld).stores = true) (ha0 : 0 ≤ (exV c x ld).addr) (ha1 : (exV c x ld).addr < m.length) : Calls Tryd.prog 45 #[.pointer (some ⟨K, 0, none⟩)] w (DoStep B K M m out (exV c x ld) w) := by
  have hl := Lib.hid hc.len
  have HM0 := Lib.hid hm
  have c16 := (cell_of_row _ _ 16 _ _ _ hm.mach).trans (machC_at hc.len).1
  rw [hp] at c16
  have KW := Lib.hid (word_yes K M m.length p _ v w hm.mach (machC_at hc.len).2.1 hlt ((cell_of_row _ _ p _ _ _ hm.mem).trans ((numsC_at m p hlt).trans (by rw [hv]))))
  have hxf : Ins.Fits x := hx ▸ decI_fits hvf
  obtain ⟨x0, x1, x2, x3, x4⟩ := x
  have hx' := hx
  have KD := Lib.hid (show ∀ W : World, Calls Tryd.prog 12 #[.int .i64 v] W (Gives2 W (insV ⟨x0, x1, x2, x3, x4⟩) (.int .i64 0)) from fun W => by
    have := decode_any v hvf W
    rw [hx', hd] at this
    exact this)
  obtain ⟨cs, hcs⟩ : ∃ y, Hid (cpuC c = y) := ⟨_, rfl⟩
  have gc := Lib.hid (fun (mm oo : Value) => machC_cpu (m := mm) (o := oo) hc.len)
  have ncs := Lib.hid (cpuC_size hc.len)
  obtain ⟨ra, hra⟩ : ∃ y, Hid (readsA c ⟨x0, x1, x2, x3, x4⟩ = y) := ⟨_, rfl⟩
  have KR := Lib.hid (show ∀ W : World, Calls Tryd.prog 18 #[.agg (cpuC c), insV ⟨x0, x1, x2, x3, x4⟩] W (GivesB W ra true) from fun W => by
    have := reads_any c hc ⟨x0, x1, x2, x3, x4⟩ hxf W
    rw [hra.out, hrb] at this
    exact this)
  rw [hcs.out] at gc ncs KR
  rw [hra.out] at hq
  subst hq
  have HQ := Lib.hid (And.intro hqm hld)
  clear hqm hld
  have HX := Lib.hid (And.intro hst0 (And.intro ha0 ha1))
  clear hst0 ha0 ha1
  clear hx' hx hd hm hp hv hlt hvf hrb
  obtain ⟨X, hX⟩ : ∃ y, Hid (exV c ⟨x0, x1, x2, x3, x4⟩ ld = y) := ⟨_, rfl⟩
  have KX := Lib.hid (show ∀ W : World, Calls Tryd.prog 20 #[.agg (cpuC c), insV ⟨x0, x1, x2, x3, x4⟩, .int .i64 ld] W (Gives2 W (.agg (effC X)) (.int .i64 0)) from fun W => by
    have := execute_any c hc ⟨x0, x1, x2, x3, x4⟩ hxf ld W
    rw [hX.out, hex] at this
    exact this)
  have xl := Lib.hid (show X.cpu.r.length = 16 by rw [← hX.out]; exact exV_len c _ ld hc.len)
  have k17 := Lib.hid (effC_at17 X xl.out)
  have ksz := Lib.hid (effC_size xl.out)
  have kone := Lib.hid (effC_one X)
  rw [hX.out] at HX ⊢
  have KT := Lib.hid (show ∀ W : World, Mach B K M c m A d out W → Calls Tryd.prog 49 #[.pointer (some ⟨K, 0, none⟩), .agg (effC X)] W (Taken B K M m out X W) from fun W h => take_any B K M c m out A d X W h hc.len xl.out (fun _ => HX.out.2) hout)
  obtain ⟨st, hst⟩ : ∃ y, Hid (X.stores = y) := ⟨_, rfl⟩
  obtain ⟨ad, had⟩ : ∃ y, Hid (X.addr = y) := ⟨_, rfl⟩
  obtain ⟨ps, hps⟩ : ∃ y, Hid (effC X = y) := ⟨_, rfl⟩
  rw [HX.out.1] at hst
  have hst2 : st = true := hst.out.symm
  subst hst2
  have HA := Lib.hid HX.out.2
  rw [had.out] at HA
  rw [HX.out.1, had.out] at k17
  clear hst had HX
  rw [hps.out] at k17 ksz kone KX KT
  rw [hcs.out] at KX
  clear hc hcs hxf hps hX hex hout hra
  go_enter Tryd.func45, Tryd.ntmps45
  go_wp2_with (go_at_call 47; refine (KW.out).mono ?_; rintro e w' ⟨rfl, rfl⟩)
  refine (KD.out _).mono ?_
  rintro e w1 ⟨rfl, hb1⟩
  have FX := Lib.hid (heap_alloc_new w1 (.cells #[.int .i64 x0, .int .i64 x1, .int .i64 x2, .int .i64 x3, .int .i64 x4] 23))
  have BW := Lib.hid (hb1.alloc hb1.size (.cells #[.int .i64 x0, .int .i64 x1, .int .i64 x2, .int .i64 x3, .int .i64 x4] 23))
  have sz : w1.heap.size < (w1.alloc (.cells #[.int .i64 x0, .int .i64 x1, .int .i64 x2, .int .i64 x3, .int .i64 x4] 23)).heap.size := by simp
  have w1z : w.heap.size ≤ w1.heap.size := hb1.size
  clear hb1 c16 KW KD
  go_wp2_with fail
  refine wp_region_held_drew (S := fun w_ => w_.heap[K]? = some (.cells (machC c (.slice (some ⟨M, 0, none⟩) m.length m.length) (.slice A out.length d)) 75 (0, 0)) ∧ w_.heap[w1.heap.size]? = some (.cells #[.int .i64 x0, .int .i64 x1, .int .i64 x2, .int .i64 x3, .int .i64 x4] 23 (0, 0))) (by kernel_rfl) ⟨(HM0.out.below BW.out).mach, FX.out⟩ (fun hHeld => ?_)
  clear hHeld
  have BWn := Lib.hid BW.out.drew
  have FXn := Lib.hid (show (w1.alloc (.cells #[.int .i64 x0, .int .i64 x1, .int .i64 x2, .int .i64 x3, .int .i64 x4] 23)).drew.heap[w1.heap.size]? = _ from FX.out)
  have szn : w1.heap.size < (w1.alloc (.cells #[.int .i64 x0, .int .i64 x1, .int .i64 x2, .int .i64 x3, .int .i64 x4] 23)).drew.heap.size := sz
  clear BW FX sz
  obtain ⟨W1, hV⟩ : ∃ V, Hid ((w1.alloc (.cells #[.int .i64 x0, .int .i64 x1, .int .i64 x2, .int .i64 x3, .int .i64 x4] 23)).drew = V) := ⟨_, Lib.hid rfl⟩
  rw [hV.out] at BWn FXn szn ⊢
  clear hV
  have BW := BWn
  have FX := FXn
  have sz := szn
  clear BWn FXn szn
  have HS := Lib.hid (show (fun w_ => w_.heap[K]? = some (.cells (machC c (.slice (some ⟨M, 0, none⟩) m.length m.length) (.slice A out.length d)) 75 (0, 0)) ∧ w_.heap[w1.heap.size]? = some (.cells #[.int .i64 x0, .int .i64 x1, .int .i64 x2, .int .i64 x3, .int .i64 x4] 23 (0, 0))) W1 from ⟨(HM0.out.below BW.out).mach, FX.out⟩)
  refine wpAnyH_take (i := 0) (v := ?_) rfl (by kernel_rfl) (by kernel_rfl) (by kernel_rfl) (fun _ _ _ h => h) (Or.inl ⟨by rfl, ?_⟩) HS.out ?_
  rotate_left 1
  · intro w_ hSw
    clear hSw
    (go_simp) <;> (with_reducible rfl)
  (try simp only [Act.put, List.getElem_toArray, List.getElem_cons_zero, List.setIfInBounds_toArray, List.set_cons_zero, List.set_cons_succ])
  refine wpAnyH_take (i := 1) (v := ?_) rfl (by kernel_rfl) (by kernel_rfl) (by kernel_rfl) (fun _ _ _ h => h) (Or.inl ⟨by rfl, ?_⟩) HS.out ?_
  rotate_left 1
  · intro w_ hSw
    clear hSw
    (go_simp) <;> (with_reducible rfl)
  (try simp only [Act.put, List.getElem_toArray, List.getElem_cons_zero, List.getElem_cons_succ, List.setIfInBounds_toArray, List.set_cons_zero, List.set_cons_succ])
  refine wpAnyH_take (i := 2) (v := ?_) rfl (by kernel_rfl) (by kernel_rfl) (by kernel_rfl) (fun _ _ _ h => h) (Or.inl ⟨by rfl, ?_⟩) HS.out ?_
  rotate_left 1
  · intro w_ hSw
    clear hSw
    (go_simp) <;> (with_reducible rfl)
  (try simp only [Act.put, List.getElem_toArray, List.getElem_cons_zero, List.getElem_cons_succ, List.setIfInBounds_toArray, List.set_cons_zero, List.set_cons_succ])
  refine wpAnyH_take (i := 3) (v := .agg cs) rfl (by kernel_rfl) (by kernel_rfl) (by kernel_rfl) (fun _ _ _ h => h) (Or.inl ⟨by rfl, fun W_ hW => exec_load_head 35 _ rfl K rfl cs _ (range_of hW.1 (gc.out _ _)) Tryd.underlying35 rfl (by rw [ncs.out]; kernel_rfl)⟩) HS.out ?_
  (try simp only [Act.put, List.getElem_toArray, List.getElem_cons_zero, List.getElem_cons_succ, List.setIfInBounds_toArray, List.set_cons_zero, List.set_cons_succ])
  refine wpAnyH_take (i := 4) (v := .agg #[.int .i64 x0, .int .i64 x1, .int .i64 x2, .int .i64 x3, .int .i64 x4]) rfl (by kernel_rfl) (by kernel_rfl) (by kernel_rfl) (fun _ _ _ h => h) (Or.inl ⟨by rfl, fun W_ hW => exec_load_all 23 _ rfl w1.heap.size #[.int .i64 x0, .int .i64 x1, .int .i64 x2, .int .i64 x3, .int .i64 x4] _ rfl hW.2 Tryd.underlying23 rfl (by kernel_rfl)⟩) HS.out ?_
  (try simp only [Act.put, List.getElem_toArray, List.getElem_cons_zero, List.getElem_cons_succ, List.setIfInBounds_toArray, List.set_cons_zero, List.set_cons_succ])
  refine wpAnyH_ready (rs := [5]) (by kernel_rfl) (by simp) (AllReadyH.cons (i := 5) rfl (fun K_ hK => ?_) AllReadyH.nil)
  go_simp
  go_at_call 18
  refine (KR.out _).mono ?_
  rintro e w2 ⟨rfl, hb2⟩
  have BWn := Lib.hid (BW.out.trans (hb2.mono BW.out.size))
  have FXn := Lib.hid ((hb2.block _ sz).trans FX.out)
  have szn : w1.heap.size < w2.heap.size := Nat.lt_of_lt_of_le sz hb2.size
  clear BW FX sz
  have BW := BWn
  have FX := FXn
  have sz := szn
  clear BWn FXn szn
  clear HS hb2 KR
  have HS := Lib.hid (show (fun w_ => w_.heap[K]? = some (.cells (machC c (.slice (some ⟨M, 0, none⟩) m.length m.length) (.slice A out.length d)) 75 (0, 0)) ∧ w_.heap[w1.heap.size]? = some (.cells #[.int .i64 x0, .int .i64 x1, .int .i64 x2, .int .i64 x3, .int .i64 x4] 23 (0, 0))) w2 from ⟨(HM0.out.below BW.out).mach, FX.out⟩)
  refine hK.out _ _ HS.out (fun _ => ?_)
  clear hK K_
  (try simp only [Act.put, List.getElem_toArray, List.getElem_cons_zero, List.getElem_cons_succ, List.setIfInBounds_toArray, List.set_cons_zero, List.set_cons_succ])
  refine wpAnyH_take (i := 6) (v := ?_) rfl (by kernel_rfl) (by kernel_rfl) (by kernel_rfl) (fun _ _ _ h => h) (Or.inl ⟨by rfl, ?_⟩) HS.out ?_
  rotate_left 1
  · intro w_ hSw
    clear hSw
    (go_simp) <;> (with_reducible rfl)
  (try simp only [Act.put, List.getElem_toArray, List.getElem_cons_zero, List.getElem_cons_succ, List.setIfInBounds_toArray, List.set_cons_zero, List.set_cons_succ])
  refine wpAnyH_take (i := 7) (v := ?_) rfl (by kernel_rfl) (by kernel_rfl) (by kernel_rfl) (fun _ _ _ h => h) (Or.inl ⟨by rfl, ?_⟩) HS.out ?_
  rotate_left 1
  · intro w_ hSw
    clear hSw
    (go_simp) <;> (with_reducible rfl)
  (try simp only [Act.put, List.getElem_toArray, List.getElem_cons_zero, List.getElem_cons_succ, List.setIfInBounds_toArray, List.set_cons_zero, List.set_cons_succ])
  refine wpAnyH_take (i := 8) (v := ?_) rfl (by kernel_rfl) (by kernel_rfl) (by kernel_rfl) (fun _ _ _ h => h) (Or.inl ⟨by rfl, ?_⟩) HS.out ?_
  rotate_left 1
  · intro w_ hSw
    clear hSw
    (go_simp) <;> (with_reducible rfl)
  (try simp only [Act.put, List.getElem_toArray, List.getElem_cons_zero, List.getElem_cons_succ, List.setIfInBounds_toArray, List.set_cons_zero, List.set_cons_succ])
  refine wpAnyH_take (i := 9) (v := ?_) rfl (by kernel_rfl) (by kernel_rfl) (by kernel_rfl) (fun _ _ _ h => h) (Or.inl ⟨by rfl, ?_⟩) HS.out ?_
  rotate_left 1
  · intro w_ hSw
    clear hSw
    (go_simp) <;> (with_reducible rfl)
  (try simp only [Act.put, List.getElem_toArray, List.getElem_cons_zero, List.getElem_cons_succ, List.setIfInBounds_toArray, List.set_cons_zero, List.set_cons_succ])
  refine wpAnyH_take (i := 10) (v := ?_) rfl (by kernel_rfl) (by kernel_rfl) (by kernel_rfl) (fun _ _ _ h => h) (Or.inl ⟨by rfl, ?_⟩) HS.out ?_
  rotate_left 1
  · intro w_ hSw
    clear hSw
    (go_simp) <;> (with_reducible rfl)
  (try simp only [Act.put, List.getElem_toArray, List.getElem_cons_zero, List.getElem_cons_succ, List.setIfInBounds_toArray, List.set_cons_zero, List.set_cons_succ])
  refine wpAnyH_done (by kernel_rfl) ?_ _
  clear HS
  go_wp2_with (go_at_call 47; refine (word_yes K M m.length q _ ld _ (HM0.out.below BW.out).mach (machC_at hl.out).2.1 HQ.out.1 ((cell_of_row _ _ q _ _ _ (HM0.out.below BW.out).mem).trans ((numsC_at m q HQ.out.1).trans (by rw [HQ.out.2])))).mono ?_; rintro e w' ⟨rfl, rfl⟩)
  refine wp_region_held_drew (S := fun w_ => w_.heap[K]? = some (.cells (machC c (.slice (some ⟨M, 0, none⟩) m.length m.length) (.slice A out.length d)) 75 (0, 0)) ∧ w_.heap[w1.heap.size]? = some (.cells #[.int .i64 x0, .int .i64 x1, .int .i64 x2, .int .i64 x3, .int .i64 x4] 23 (0, 0))) (by kernel_rfl) ⟨(HM0.out.below BW.out).mach, FX.out⟩ (fun hHeld => ?_)
  clear hHeld
  have BWn := Lib.hid BW.out.drew
  have FXn := Lib.hid (show w2.drew.heap[w1.heap.size]? = _ from FX.out)
  have szn : w1.heap.size < w2.drew.heap.size := sz
  clear BW FX sz
  obtain ⟨W2, hV⟩ : ∃ V, Hid (w2.drew = V) := ⟨_, Lib.hid rfl⟩
  rw [hV.out] at BWn FXn szn ⊢
  clear hV
  have BW := BWn
  have FX := FXn
  have sz := szn
  clear BWn FXn szn
  have HS := Lib.hid (show (fun w_ => w_.heap[K]? = some (.cells (machC c (.slice (some ⟨M, 0, none⟩) m.length m.length) (.slice A out.length d)) 75 (0, 0)) ∧ w_.heap[w1.heap.size]? = some (.cells #[.int .i64 x0, .int .i64 x1, .int .i64 x2, .int .i64 x3, .int .i64 x4] 23 (0, 0))) W2 from ⟨(HM0.out.below BW.out).mach, FX.out⟩)
  refine wpAnyH_take (i := 0) (v := ?_) rfl (by kernel_rfl) (by kernel_rfl) (by kernel_rfl) (fun _ _ _ h => h) (Or.inl ⟨by rfl, ?_⟩) HS.out ?_
  rotate_left 1
  · intro w_ hSw
    clear hSw
    (go_simp) <;> (with_reducible rfl)
  (try simp only [Act.put, List.getElem_toArray, List.getElem_cons_zero, List.setIfInBounds_toArray, List.set_cons_zero, List.set_cons_succ])
  refine wpAnyH_take (i := 1) (v := ?_) rfl (by kernel_rfl) (by kernel_rfl) (by kernel_rfl) (fun _ _ _ h => h) (Or.inl ⟨by rfl, ?_⟩) HS.out ?_
  rotate_left 1
  · intro w_ hSw
    clear hSw
    (go_simp) <;> (with_reducible rfl)
  (try simp only [Act.put, List.getElem_toArray, List.getElem_cons_zero, List.getElem_cons_succ, List.setIfInBounds_toArray, List.set_cons_zero, List.set_cons_succ])
  refine wpAnyH_take (i := 2) (v := ?_) rfl (by kernel_rfl) (by kernel_rfl) (by kernel_rfl) (fun _ _ _ h => h) (Or.inl ⟨by rfl, ?_⟩) HS.out ?_
  rotate_left 1
  · intro w_ hSw
    clear hSw
    (go_simp) <;> (with_reducible rfl)
  (try simp only [Act.put, List.getElem_toArray, List.getElem_cons_zero, List.getElem_cons_succ, List.setIfInBounds_toArray, List.set_cons_zero, List.set_cons_succ])
  refine wpAnyH_take (i := 3) (v := .agg cs) rfl (by kernel_rfl) (by kernel_rfl) (by kernel_rfl) (fun _ _ _ h => h) (Or.inl ⟨by rfl, fun W_ hW => exec_load_head 35 _ rfl K rfl cs _ (range_of hW.1 (gc.out _ _)) Tryd.underlying35 rfl (by rw [ncs.out]; kernel_rfl)⟩) HS.out ?_
  (try simp only [Act.put, List.getElem_toArray, List.getElem_cons_zero, List.getElem_cons_succ, List.setIfInBounds_toArray, List.set_cons_zero, List.set_cons_succ])
  refine wpAnyH_take (i := 4) (v := .agg #[.int .i64 x0, .int .i64 x1, .int .i64 x2, .int .i64 x3, .int .i64 x4]) rfl (by kernel_rfl) (by kernel_rfl) (by kernel_rfl) (fun _ _ _ h => h) (Or.inl ⟨by rfl, fun W_ hW => exec_load_all 23 _ rfl w1.heap.size #[.int .i64 x0, .int .i64 x1, .int .i64 x2, .int .i64 x3, .int .i64 x4] _ rfl hW.2 Tryd.underlying23 rfl (by kernel_rfl)⟩) HS.out ?_
  (try simp only [Act.put, List.getElem_toArray, List.getElem_cons_zero, List.getElem_cons_succ, List.setIfInBounds_toArray, List.set_cons_zero, List.set_cons_succ])
  refine wpAnyH_take (i := 5) (v := ?_) rfl (by kernel_rfl) (by kernel_rfl) (by kernel_rfl) (fun _ _ _ h => h) (Or.inl ⟨by rfl, ?_⟩) HS.out ?_
  rotate_left 1
  · intro w_ hSw
    clear hSw
    (go_simp) <;> (with_reducible rfl)
  (try simp only [Act.put, List.getElem_toArray, List.getElem_cons_zero, List.getElem_cons_succ, List.setIfInBounds_toArray, List.set_cons_zero, List.set_cons_succ])
  refine wpAnyH_ready (rs := [6, 10]) (by kernel_rfl) (by simp) (AllReadyH.cons (i := 6) rfl (fun K_ hK => ?_) (AllReadyH.cons (i := 10) rfl (fun K_ hK => ?_) AllReadyH.nil))
  · go_simp
    go_at_call 20
    refine (KX.out _).mono ?_
    rintro e w3 ⟨rfl, hb3⟩
    have BWn := Lib.hid (BW.out.trans (hb3.mono BW.out.size))
    have FXn := Lib.hid ((hb3.block _ sz).trans FX.out)
    have szn : w1.heap.size < w3.heap.size := Nat.lt_of_lt_of_le sz hb3.size
    clear BW FX sz
    have BW := BWn
    have FX := FXn
    have sz := szn
    clear BWn FXn szn
    clear HS hb3 KX
    have HS := Lib.hid (show (fun w_ => w_.heap[K]? = some (.cells (machC c (.slice (some ⟨M, 0, none⟩) m.length m.length) (.slice A out.length d)) 75 (0, 0)) ∧ w_.heap[w1.heap.size]? = some (.cells #[.int .i64 x0, .int .i64 x1, .int .i64 x2, .int .i64 x3, .int .i64 x4] 23 (0, 0))) w3 from ⟨(HM0.out.below BW.out).mach, FX.out⟩)
    refine hK.out _ _ HS.out (fun _ => ?_)
    clear hK K_
    (try simp only [Act.put, List.getElem_toArray, List.getElem_cons_zero, List.getElem_cons_succ, List.setIfInBounds_toArray, List.set_cons_zero, List.set_cons_succ])
    refine wpAnyH_take (i := 7) (v := ?_) rfl (by kernel_rfl) (by kernel_rfl) (by kernel_rfl) (fun _ _ _ h => h) (Or.inl ⟨by rfl, ?_⟩) HS.out ?_
    rotate_left 1
    · intro w_ hSw
      clear hSw
      (go_simp) <;> (with_reducible rfl)
    (try simp only [Act.put, List.getElem_toArray, List.getElem_cons_zero, List.getElem_cons_succ, List.setIfInBounds_toArray, List.set_cons_zero, List.set_cons_succ])
    refine wpAnyH_take (i := 8) (v := ?_) rfl (by kernel_rfl) (by kernel_rfl) (by kernel_rfl) (fun _ _ _ h => h) (Or.inl ⟨by rfl, ?_⟩) HS.out ?_
    rotate_left 1
    · intro w_ hSw
      clear hSw
      (go_simp) <;> (with_reducible rfl)
    (try simp only [Act.put, List.getElem_toArray, List.getElem_cons_zero, List.getElem_cons_succ, List.setIfInBounds_toArray, List.set_cons_zero, List.set_cons_succ])
    refine wpAnyH_take (i := 9) (v := ?_) rfl (by kernel_rfl) (by kernel_rfl) (by kernel_rfl) (fun _ _ _ h => h) (Or.inl ⟨by rfl, ?_⟩) HS.out ?_
    rotate_left 1
    · intro w_ hSw
      clear hSw
      (go_simp) <;> (with_reducible rfl)
    (try simp only [Act.put, List.getElem_toArray, List.getElem_cons_zero, List.getElem_cons_succ, List.setIfInBounds_toArray, List.set_cons_zero, List.set_cons_succ])
    refine wpAnyH_ready (rs := [10]) (by kernel_rfl) (by simp) (AllReadyH.cons (i := 10) rfl (fun K_ hK => ?_) AllReadyH.nil)
    go_simp
    have FP := Lib.hid (heap_alloc_new w3 (.cells (effC eff0) 40))
    have NZ : w1.heap.size < w3.heap.size := sz
    have b4 := (Below.refl w3.heap.size w3).alloc (Nat.le_refl _) (.cells (effC eff0) 40)
    have szP : w3.heap.size < (w3.alloc (.cells (effC eff0) 40)).heap.size := by simp
    obtain ⟨N, hN⟩ : ∃ y, Hid (w3.heap.size = y) := ⟨_, rfl⟩
    have BWn := Lib.hid (BW.out.trans (b4.mono BW.out.size))
    have FXn := Lib.hid ((b4.block _ sz).trans FX.out)
    have szn : w1.heap.size < (w3.alloc (.cells (effC eff0) 40)).heap.size := Nat.lt_of_lt_of_le sz b4.size
    clear BW FX sz
    have BW := BWn
    have FX := FXn
    have sz := szn
    clear BWn FXn szn
    clear b4
    have HSn := Lib.hid (show (fun w_ => w_.heap[K]? = some (.cells (machC c (.slice (some ⟨M, 0, none⟩) m.length m.length) (.slice A out.length d)) 75 (0, 0)) ∧ w_.heap[w1.heap.size]? = some (.cells #[.int .i64 x0, .int .i64 x1, .int .i64 x2, .int .i64 x3, .int .i64 x4] 23 (0, 0))) (w3.alloc (.cells (effC eff0) 40)) from ⟨(HM0.out.below BW.out).mach, FX.out⟩)
    clear HS
    have HS := HSn
    clear HSn
    refine hK.out _ _ HS.out (fun _ => ?_)
    clear hK K_
    (try simp only [Act.put, List.getElem_toArray, List.getElem_cons_zero, List.getElem_cons_succ, List.setIfInBounds_toArray, List.set_cons_zero, List.set_cons_succ])
    change wpAnyH _ _ _ _ _ _ _ _ (w3.alloc (.cells (effC eff0) 40))
    rw [hN.out] at FP NZ szP ⊢
    clear hN
    obtain ⟨W4, hV⟩ : ∃ V, Hid ((w3.alloc (.cells (effC eff0) 40)) = V) := ⟨_, Lib.hid rfl⟩
    rw [hV.out] at BW FX sz HS FP szP ⊢
    clear hV
    refine wpAnyH_ready (rs := [11]) (by kernel_rfl) (by simp) (AllReadyH.cons (i := 11) rfl (fun K_ hK => ?_) AllReadyH.nil)
    rw [if_pos (by rfl)]
    refine wp_store_all 40 _ _ rfl N _ ps rfl rfl FP.out (by rw [ksz.out]; rfl) (by rw [ksz.out]; kernel_rfl) kone.out ?_
    intro U hU
    have BWn := Lib.hid (BW.out.setC (by omega) hU)
    have FXn := Lib.hid ((hU.block _ (by omega)).trans FX.out)
    have szn : w1.heap.size < U.heap.size := by rw [hU.size]; exact sz
    have FPn := Lib.hid hU.at_
    clear BW FX sz HS FP szP hU
    have FP := FPn
    clear FPn
    have BW := BWn
    have FX := FXn
    have sz := szn
    clear BWn FXn szn
    have HS := Lib.hid (show (fun w_ => w_.heap[K]? = some (.cells (machC c (.slice (some ⟨M, 0, none⟩) m.length m.length) (.slice A out.length d)) 75 (0, 0)) ∧ w_.heap[w1.heap.size]? = some (.cells #[.int .i64 x0, .int .i64 x1, .int .i64 x2, .int .i64 x3, .int .i64 x4] 23 (0, 0))) U from ⟨(HM0.out.below BW.out).mach, FX.out⟩)
    refine hK.out _ _ HS.out (fun _ => ?_)
    clear hK K_
    (try simp only [Act.put, List.getElem_toArray, List.getElem_cons_zero, List.getElem_cons_succ])
    refine wpAnyH_take (i := 12) (v := ?_) rfl (by kernel_rfl) (by kernel_rfl) (by kernel_rfl) (fun _ _ _ h => h) (Or.inl ⟨by rfl, ?_⟩) HS.out ?_
    rotate_left 1
    · intro w_ hSw
      clear hSw
      (go_simp) <;> (with_reducible rfl)
    (try simp only [Act.put, List.getElem_toArray, List.getElem_cons_zero, List.getElem_cons_succ, List.setIfInBounds_toArray, List.set_cons_zero, List.set_cons_succ])
    refine wpAnyH_done (by kernel_rfl) ?_ _
    clear HS
    have m17 := (cell_of_row _ _ 17 _ _ _ FP.out).trans k17.out.1
    have m18 := (cell_of_row _ _ 18 _ _ _ FP.out).trans k17.out.2.1
    go_wp2_with (first | (go_at_call 48; refine (has_yes K M m.length _ ad _ (HM0.out.below BW.out).mach (machC_at hl.out).2.1 HA.out.1 HA.out.2).mono ?_; rintro e w' ⟨rfl, rfl⟩) | ((with_reducible show wpList _ _ _ (Oper.mk _ (Op.load 40 _) _ _ _ none :: _) _ _); refine wpList_load_all rfl 40 _ rfl N _ _ rfl FP.out Tryd.underlying40 rfl (by rw [ksz.out]; kernel_rfl) ?_))
    refine (KT.out _ (HM0.out.below BW.out)).mono ?_
    intro e w4 ht
    unfold Taken at ht
    obtain ⟨rfl, hma, hoth⟩ := ht
    go_wp2_with fail
    go_ret
    unfold DoStep
    exact ⟨rfl, hma, (Others.of_below HM0.out.size BW.out).trans hoth⟩
  · go_simp
    have FP := Lib.hid (heap_alloc_new W2 (.cells (effC eff0) 40))
    have NZ : w1.heap.size < W2.heap.size := sz
    have b4 := (Below.refl W2.heap.size W2).alloc (Nat.le_refl _) (.cells (effC eff0) 40)
    have szP : W2.heap.size < (W2.alloc (.cells (effC eff0) 40)).heap.size := by simp
    obtain ⟨N, hN⟩ : ∃ y, Hid (W2.heap.size = y) := ⟨_, rfl⟩
    have BWn := Lib.hid (BW.out.trans (b4.mono BW.out.size))
    have FXn := Lib.hid ((b4.block _ sz).trans FX.out)
    have szn : w1.heap.size < (W2.alloc (.cells (effC eff0) 40)).heap.size := Nat.lt_of_lt_of_le sz b4.size
    clear BW FX sz
    have BW := BWn
    have FX := FXn
    have sz := szn
    clear BWn FXn szn
    clear b4
    have HSn := Lib.hid (show (fun w_ => w_.heap[K]? = some (.cells (machC c (.slice (some ⟨M, 0, none⟩) m.length m.length) (.slice A out.length d)) 75 (0, 0)) ∧ w_.heap[w1.heap.size]? = some (.cells #[.int .i64 x0, .int .i64 x1, .int .i64 x2, .int .i64 x3, .int .i64 x4] 23 (0, 0))) (W2.alloc (.cells (effC eff0) 40)) from ⟨(HM0.out.below BW.out).mach, FX.out⟩)
    clear HS
    have HS := HSn
    clear HSn
    refine hK.out _ _ HS.out (fun _ => ?_)
    clear hK K_
    (try simp only [Act.put, List.getElem_toArray, List.getElem_cons_zero, List.getElem_cons_succ, List.setIfInBounds_toArray, List.set_cons_zero, List.set_cons_succ])
    change wpAnyH _ _ _ _ _ _ _ _ (W2.alloc (.cells (effC eff0) 40))
    rw [hN.out] at FP NZ szP ⊢
    clear hN
    obtain ⟨W4, hV⟩ : ∃ V, Hid ((W2.alloc (.cells (effC eff0) 40)) = V) := ⟨_, Lib.hid rfl⟩
    rw [hV.out] at BW FX sz HS FP szP ⊢
    clear hV
    refine wpAnyH_ready (rs := [6]) (by kernel_rfl) (by simp) (AllReadyH.cons (i := 6) rfl (fun K_ hK => ?_) AllReadyH.nil)
    go_simp
    go_at_call 20
    refine (KX.out _).mono ?_
    rintro e w3 ⟨rfl, hb3⟩
    have BWn := Lib.hid (BW.out.trans (hb3.mono BW.out.size))
    have FXn := Lib.hid ((hb3.block _ sz).trans FX.out)
    have szn : w1.heap.size < w3.heap.size := Nat.lt_of_lt_of_le sz hb3.size
    clear BW FX sz
    have BW := BWn
    have FX := FXn
    have sz := szn
    clear BWn FXn szn
    have FPn := Lib.hid ((hb3.block _ szP).trans FP.out)
    have sPn := Nat.lt_of_lt_of_le szP hb3.size
    clear FP szP
    have FP := FPn
    have szP := sPn
    clear FPn sPn
    clear HS hb3 KX
    have HS := Lib.hid (show (fun w_ => w_.heap[K]? = some (.cells (machC c (.slice (some ⟨M, 0, none⟩) m.length m.length) (.slice A out.length d)) 75 (0, 0)) ∧ w_.heap[w1.heap.size]? = some (.cells #[.int .i64 x0, .int .i64 x1, .int .i64 x2, .int .i64 x3, .int .i64 x4] 23 (0, 0))) w3 from ⟨(HM0.out.below BW.out).mach, FX.out⟩)
    refine hK.out _ _ HS.out (fun _ => ?_)
    clear hK K_
    (try simp only [Act.put, List.getElem_toArray, List.getElem_cons_zero, List.getElem_cons_succ, List.setIfInBounds_toArray, List.set_cons_zero, List.set_cons_succ])
    refine wpAnyH_take (i := 7) (v := ?_) rfl (by kernel_rfl) (by kernel_rfl) (by kernel_rfl) (fun _ _ _ h => h) (Or.inl ⟨by rfl, ?_⟩) HS.out ?_
    rotate_left 1
    · intro w_ hSw
      clear hSw
      (go_simp) <;> (with_reducible rfl)
    (try simp only [Act.put, List.getElem_toArray, List.getElem_cons_zero, List.getElem_cons_succ, List.setIfInBounds_toArray, List.set_cons_zero, List.set_cons_succ])
    refine wpAnyH_take (i := 8) (v := ?_) rfl (by kernel_rfl) (by kernel_rfl) (by kernel_rfl) (fun _ _ _ h => h) (Or.inl ⟨by rfl, ?_⟩) HS.out ?_
    rotate_left 1
    · intro w_ hSw
      clear hSw
      (go_simp) <;> (with_reducible rfl)
    (try simp only [Act.put, List.getElem_toArray, List.getElem_cons_zero, List.getElem_cons_succ, List.setIfInBounds_toArray, List.set_cons_zero, List.set_cons_succ])
    refine wpAnyH_take (i := 9) (v := ?_) rfl (by kernel_rfl) (by kernel_rfl) (by kernel_rfl) (fun _ _ _ h => h) (Or.inl ⟨by rfl, ?_⟩) HS.out ?_
    rotate_left 1
    · intro w_ hSw
      clear hSw
      (go_simp) <;> (with_reducible rfl)
    (try simp only [Act.put, List.getElem_toArray, List.getElem_cons_zero, List.getElem_cons_succ, List.setIfInBounds_toArray, List.set_cons_zero, List.set_cons_succ])
    refine wpAnyH_ready (rs := [11]) (by kernel_rfl) (by simp) (AllReadyH.cons (i := 11) rfl (fun K_ hK => ?_) AllReadyH.nil)
    rw [if_pos (by rfl)]
    refine wp_store_all 40 _ _ rfl N _ ps rfl rfl FP.out (by rw [ksz.out]; rfl) (by rw [ksz.out]; kernel_rfl) kone.out ?_
    intro U hU
    have BWn := Lib.hid (BW.out.setC (by omega) hU)
    have FXn := Lib.hid ((hU.block _ (by omega)).trans FX.out)
    have szn : w1.heap.size < U.heap.size := by rw [hU.size]; exact sz
    have FPn := Lib.hid hU.at_
    clear BW FX sz HS FP szP hU
    have FP := FPn
    clear FPn
    have BW := BWn
    have FX := FXn
    have sz := szn
    clear BWn FXn szn
    have HS := Lib.hid (show (fun w_ => w_.heap[K]? = some (.cells (machC c (.slice (some ⟨M, 0, none⟩) m.length m.length) (.slice A out.length d)) 75 (0, 0)) ∧ w_.heap[w1.heap.size]? = some (.cells #[.int .i64 x0, .int .i64 x1, .int .i64 x2, .int .i64 x3, .int .i64 x4] 23 (0, 0))) U from ⟨(HM0.out.below BW.out).mach, FX.out⟩)
    refine hK.out _ _ HS.out (fun _ => ?_)
    clear hK K_
    (try simp only [Act.put, List.getElem_toArray, List.getElem_cons_zero, List.getElem_cons_succ])
    refine wpAnyH_take (i := 12) (v := ?_) rfl (by kernel_rfl) (by kernel_rfl) (by kernel_rfl) (fun _ _ _ h => h) (Or.inl ⟨by rfl, ?_⟩) HS.out ?_
    rotate_left 1
    · intro w_ hSw
      clear hSw
      (go_simp) <;> (with_reducible rfl)
    (try simp only [Act.put, List.getElem_toArray, List.getElem_cons_zero, List.getElem_cons_succ, List.setIfInBounds_toArray, List.set_cons_zero, List.set_cons_succ])
    refine wpAnyH_done (by kernel_rfl) ?_ _
    clear HS
    have m17 := (cell_of_row _ _ 17 _ _ _ FP.out).trans k17.out.1
    have m18 := (cell_of_row _ _ 18 _ _ _ FP.out).trans k17.out.2.1
    go_wp2_with (first | (go_at_call 48; refine (has_yes K M m.length _ ad _ (HM0.out.below BW.out).mach (machC_at hl.out).2.1 HA.out.1 HA.out.2).mono ?_; rintro e w' ⟨rfl, rfl⟩) | ((with_reducible show wpList _ _ _ (Oper.mk _ (Op.load 40 _) _ _ _ none :: _) _ _); refine wpList_load_all rfl 40 _ rfl N _ _ rfl FP.out Tryd.underlying40 rfl (by rw [ksz.out]; kernel_rfl) ?_))
    refine (KT.out _ (HM0.out.below BW.out)).mono ?_
    intro e w4 ht
    unfold Taken at ht
    obtain ⟨rfl, hma, hoth⟩ := ht
    go_wp2_with fail
    go_ret
    unfold DoStep
    exact ⟨rfl, hma, (Others.of_below HM0.out.size BW.out).trans hoth⟩
set_option maxRecDepth 100000 in
set_option maxHeartbeats 4000000 in
theorem step_exec_n (B K M : Nat) (c : Cpu) (m out : List Int) (A : Option Addr) (d : Nat) (w : World) (hm : Mach B K M c m A d out w) (hc : c.Fits) (p : Nat) (hp : c.pc = p) (hlt : p < m.length) (v : Int) (hvf : I64 v) (hv : m.getD p 0 = v) (x : Ins) (hx : decI v = x) (hd : decE v = 0) (hrb : readsB x = false) (hex : exE x = 14) : Calls Tryd.prog 45 #[.pointer (some ⟨K, 0, none⟩)] w (NoStep w) := by
  have hl := Lib.hid hc.len
  have HM0 := Lib.hid hm
  have c16 := (cell_of_row _ _ 16 _ _ _ hm.mach).trans (machC_at hc.len).1
  rw [hp] at c16
  have KW := Lib.hid (word_yes K M m.length p _ v w hm.mach (machC_at hc.len).2.1 hlt ((cell_of_row _ _ p _ _ _ hm.mem).trans ((numsC_at m p hlt).trans (by rw [hv]))))
  have hxf : Ins.Fits x := hx ▸ decI_fits hvf
  obtain ⟨x0, x1, x2, x3, x4⟩ := x
  have hx' := hx
  have KD := Lib.hid (show ∀ W : World, Calls Tryd.prog 12 #[.int .i64 v] W (Gives2 W (insV ⟨x0, x1, x2, x3, x4⟩) (.int .i64 0)) from fun W => by
    have := decode_any v hvf W
    rw [hx', hd] at this
    exact this)
  obtain ⟨cs, hcs⟩ : ∃ y, Hid (cpuC c = y) := ⟨_, rfl⟩
  have gc := Lib.hid (fun (mm oo : Value) => machC_cpu (m := mm) (o := oo) hc.len)
  have ncs := Lib.hid (cpuC_size hc.len)
  obtain ⟨ra, hra⟩ : ∃ y, Hid (readsA c ⟨x0, x1, x2, x3, x4⟩ = y) := ⟨_, rfl⟩
  have KR := Lib.hid (show ∀ W : World, Calls Tryd.prog 18 #[.agg (cpuC c), insV ⟨x0, x1, x2, x3, x4⟩] W (GivesB W ra false) from fun W => by
    have := reads_any c hc ⟨x0, x1, x2, x3, x4⟩ hxf W
    rw [hra.out, hrb] at this
    exact this)
  rw [hcs.out] at gc ncs KR
  clear hx' hx hd hm hp hv hlt hvf hrb
  obtain ⟨X, hX⟩ : ∃ y, Hid (exV c ⟨x0, x1, x2, x3, x4⟩ 0 = y) := ⟨_, rfl⟩
  have KX := Lib.hid (show ∀ W : World, Calls Tryd.prog 20 #[.agg (cpuC c), insV ⟨x0, x1, x2, x3, x4⟩, .int .i64 0] W (Gives2 W (.agg (effC X)) (.int .i64 14)) from fun W => by
    have := execute_any c hc ⟨x0, x1, x2, x3, x4⟩ hxf 0 W
    rw [hX.out, hex] at this
    exact this)
  have xl := Lib.hid (show X.cpu.r.length = 16 by rw [← hX.out]; exact exV_len c _ 0 hc.len)
  have k17 := Lib.hid (effC_at17 X xl.out)
  have ksz := Lib.hid (effC_size xl.out)
  have kone := Lib.hid (effC_one X)
  obtain ⟨st, hst⟩ : ∃ y, Hid (X.stores = y) := ⟨_, rfl⟩
  obtain ⟨ad, had⟩ : ∃ y, Hid (X.addr = y) := ⟨_, rfl⟩
  obtain ⟨ps, hps⟩ : ∃ y, Hid (effC X = y) := ⟨_, rfl⟩
  rw [hst.out, had.out] at k17
  clear hst had
  rw [hps.out] at k17 ksz kone KX
  rw [hcs.out] at KX
  clear hc hcs hxf hps hX hex hra
  go_enter Tryd.func45, Tryd.ntmps45
  go_wp2_with (go_at_call 47; refine (KW.out).mono ?_; rintro e w' ⟨rfl, rfl⟩)
  refine (KD.out _).mono ?_
  rintro e w1 ⟨rfl, hb1⟩
  have FX := Lib.hid (heap_alloc_new w1 (.cells #[.int .i64 x0, .int .i64 x1, .int .i64 x2, .int .i64 x3, .int .i64 x4] 23))
  have BW := Lib.hid (hb1.alloc hb1.size (.cells #[.int .i64 x0, .int .i64 x1, .int .i64 x2, .int .i64 x3, .int .i64 x4] 23))
  have sz : w1.heap.size < (w1.alloc (.cells #[.int .i64 x0, .int .i64 x1, .int .i64 x2, .int .i64 x3, .int .i64 x4] 23)).heap.size := by simp
  have w1z : w.heap.size ≤ w1.heap.size := hb1.size
  clear hb1 c16 KW KD
  go_wp2_with fail
  refine wp_region_held_drew (S := fun w_ => w_.heap[K]? = some (.cells (machC c (.slice (some ⟨M, 0, none⟩) m.length m.length) (.slice A out.length d)) 75 (0, 0)) ∧ w_.heap[w1.heap.size]? = some (.cells #[.int .i64 x0, .int .i64 x1, .int .i64 x2, .int .i64 x3, .int .i64 x4] 23 (0, 0))) (by kernel_rfl) ⟨(HM0.out.below BW.out).mach, FX.out⟩ (fun hHeld => ?_)
  clear hHeld
  have BWn := Lib.hid BW.out.drew
  have FXn := Lib.hid (show (w1.alloc (.cells #[.int .i64 x0, .int .i64 x1, .int .i64 x2, .int .i64 x3, .int .i64 x4] 23)).drew.heap[w1.heap.size]? = _ from FX.out)
  have szn : w1.heap.size < (w1.alloc (.cells #[.int .i64 x0, .int .i64 x1, .int .i64 x2, .int .i64 x3, .int .i64 x4] 23)).drew.heap.size := sz
  clear BW FX sz
  obtain ⟨W1, hV⟩ : ∃ V, Hid ((w1.alloc (.cells #[.int .i64 x0, .int .i64 x1, .int .i64 x2, .int .i64 x3, .int .i64 x4] 23)).drew = V) := ⟨_, Lib.hid rfl⟩
  rw [hV.out] at BWn FXn szn ⊢
  clear hV
  have BW := BWn
  have FX := FXn
  have sz := szn
  clear BWn FXn szn
  have HS := Lib.hid (show (fun w_ => w_.heap[K]? = some (.cells (machC c (.slice (some ⟨M, 0, none⟩) m.length m.length) (.slice A out.length d)) 75 (0, 0)) ∧ w_.heap[w1.heap.size]? = some (.cells #[.int .i64 x0, .int .i64 x1, .int .i64 x2, .int .i64 x3, .int .i64 x4] 23 (0, 0))) W1 from ⟨(HM0.out.below BW.out).mach, FX.out⟩)
  refine wpAnyH_take (i := 0) (v := ?_) rfl (by kernel_rfl) (by kernel_rfl) (by kernel_rfl) (fun _ _ _ h => h) (Or.inl ⟨by rfl, ?_⟩) HS.out ?_
  rotate_left 1
  · intro w_ hSw
    clear hSw
    (go_simp) <;> (with_reducible rfl)
  (try simp only [Act.put, List.getElem_toArray, List.getElem_cons_zero, List.setIfInBounds_toArray, List.set_cons_zero, List.set_cons_succ])
  refine wpAnyH_take (i := 1) (v := ?_) rfl (by kernel_rfl) (by kernel_rfl) (by kernel_rfl) (fun _ _ _ h => h) (Or.inl ⟨by rfl, ?_⟩) HS.out ?_
  rotate_left 1
  · intro w_ hSw
    clear hSw
    (go_simp) <;> (with_reducible rfl)
  (try simp only [Act.put, List.getElem_toArray, List.getElem_cons_zero, List.getElem_cons_succ, List.setIfInBounds_toArray, List.set_cons_zero, List.set_cons_succ])
  refine wpAnyH_take (i := 2) (v := ?_) rfl (by kernel_rfl) (by kernel_rfl) (by kernel_rfl) (fun _ _ _ h => h) (Or.inl ⟨by rfl, ?_⟩) HS.out ?_
  rotate_left 1
  · intro w_ hSw
    clear hSw
    (go_simp) <;> (with_reducible rfl)
  (try simp only [Act.put, List.getElem_toArray, List.getElem_cons_zero, List.getElem_cons_succ, List.setIfInBounds_toArray, List.set_cons_zero, List.set_cons_succ])
  refine wpAnyH_take (i := 3) (v := .agg cs) rfl (by kernel_rfl) (by kernel_rfl) (by kernel_rfl) (fun _ _ _ h => h) (Or.inl ⟨by rfl, fun W_ hW => exec_load_head 35 _ rfl K rfl cs _ (range_of hW.1 (gc.out _ _)) Tryd.underlying35 rfl (by rw [ncs.out]; kernel_rfl)⟩) HS.out ?_
  (try simp only [Act.put, List.getElem_toArray, List.getElem_cons_zero, List.getElem_cons_succ, List.setIfInBounds_toArray, List.set_cons_zero, List.set_cons_succ])
  refine wpAnyH_take (i := 4) (v := .agg #[.int .i64 x0, .int .i64 x1, .int .i64 x2, .int .i64 x3, .int .i64 x4]) rfl (by kernel_rfl) (by kernel_rfl) (by kernel_rfl) (fun _ _ _ h => h) (Or.inl ⟨by rfl, fun W_ hW => exec_load_all 23 _ rfl w1.heap.size #[.int .i64 x0, .int .i64 x1, .int .i64 x2, .int .i64 x3, .int .i64 x4] _ rfl hW.2 Tryd.underlying23 rfl (by kernel_rfl)⟩) HS.out ?_
  (try simp only [Act.put, List.getElem_toArray, List.getElem_cons_zero, List.getElem_cons_succ, List.setIfInBounds_toArray, List.set_cons_zero, List.set_cons_succ])
  refine wpAnyH_ready (rs := [5]) (by kernel_rfl) (by simp) (AllReadyH.cons (i := 5) rfl (fun K_ hK => ?_) AllReadyH.nil)
  go_simp
  go_at_call 18
  refine (KR.out _).mono ?_
  rintro e w2 ⟨rfl, hb2⟩
  have BWn := Lib.hid (BW.out.trans (hb2.mono BW.out.size))
  have FXn := Lib.hid ((hb2.block _ sz).trans FX.out)
  have szn : w1.heap.size < w2.heap.size := Nat.lt_of_lt_of_le sz hb2.size
  clear BW FX sz
  have BW := BWn
  have FX := FXn
  have sz := szn
  clear BWn FXn szn
  clear HS hb2 KR
  have HS := Lib.hid (show (fun w_ => w_.heap[K]? = some (.cells (machC c (.slice (some ⟨M, 0, none⟩) m.length m.length) (.slice A out.length d)) 75 (0, 0)) ∧ w_.heap[w1.heap.size]? = some (.cells #[.int .i64 x0, .int .i64 x1, .int .i64 x2, .int .i64 x3, .int .i64 x4] 23 (0, 0))) w2 from ⟨(HM0.out.below BW.out).mach, FX.out⟩)
  refine hK.out _ _ HS.out (fun _ => ?_)
  clear hK K_
  (try simp only [Act.put, List.getElem_toArray, List.getElem_cons_zero, List.getElem_cons_succ, List.setIfInBounds_toArray, List.set_cons_zero, List.set_cons_succ])
  refine wpAnyH_take (i := 6) (v := ?_) rfl (by kernel_rfl) (by kernel_rfl) (by kernel_rfl) (fun _ _ _ h => h) (Or.inl ⟨by rfl, ?_⟩) HS.out ?_
  rotate_left 1
  · intro w_ hSw
    clear hSw
    (go_simp) <;> (with_reducible rfl)
  (try simp only [Act.put, List.getElem_toArray, List.getElem_cons_zero, List.getElem_cons_succ, List.setIfInBounds_toArray, List.set_cons_zero, List.set_cons_succ])
  refine wpAnyH_take (i := 7) (v := ?_) rfl (by kernel_rfl) (by kernel_rfl) (by kernel_rfl) (fun _ _ _ h => h) (Or.inl ⟨by rfl, ?_⟩) HS.out ?_
  rotate_left 1
  · intro w_ hSw
    clear hSw
    (go_simp) <;> (with_reducible rfl)
  (try simp only [Act.put, List.getElem_toArray, List.getElem_cons_zero, List.getElem_cons_succ, List.setIfInBounds_toArray, List.set_cons_zero, List.set_cons_succ])
  refine wpAnyH_take (i := 8) (v := ?_) rfl (by kernel_rfl) (by kernel_rfl) (by kernel_rfl) (fun _ _ _ h => h) (Or.inl ⟨by rfl, ?_⟩) HS.out ?_
  rotate_left 1
  · intro w_ hSw
    clear hSw
    (go_simp) <;> (with_reducible rfl)
  (try simp only [Act.put, List.getElem_toArray, List.getElem_cons_zero, List.getElem_cons_succ, List.setIfInBounds_toArray, List.set_cons_zero, List.set_cons_succ])
  refine wpAnyH_take (i := 9) (v := ?_) rfl (by kernel_rfl) (by kernel_rfl) (by kernel_rfl) (fun _ _ _ h => h) (Or.inl ⟨by rfl, ?_⟩) HS.out ?_
  rotate_left 1
  · intro w_ hSw
    clear hSw
    (go_simp) <;> (with_reducible rfl)
  (try simp only [Act.put, List.getElem_toArray, List.getElem_cons_zero, List.getElem_cons_succ, List.setIfInBounds_toArray, List.set_cons_zero, List.set_cons_succ])
  refine wpAnyH_take (i := 10) (v := ?_) rfl (by kernel_rfl) (by kernel_rfl) (by kernel_rfl) (fun _ _ _ h => h) (Or.inl ⟨by rfl, ?_⟩) HS.out ?_
  rotate_left 1
  · intro w_ hSw
    clear hSw
    (go_simp) <;> (with_reducible rfl)
  (try simp only [Act.put, List.getElem_toArray, List.getElem_cons_zero, List.getElem_cons_succ, List.setIfInBounds_toArray, List.set_cons_zero, List.set_cons_succ])
  refine wpAnyH_done (by kernel_rfl) ?_ _
  clear HS
  go_wp2_with fail
  refine wp_region_held_drew (S := fun w_ => w_.heap[K]? = some (.cells (machC c (.slice (some ⟨M, 0, none⟩) m.length m.length) (.slice A out.length d)) 75 (0, 0)) ∧ w_.heap[w1.heap.size]? = some (.cells #[.int .i64 x0, .int .i64 x1, .int .i64 x2, .int .i64 x3, .int .i64 x4] 23 (0, 0))) (by kernel_rfl) ⟨(HM0.out.below BW.out).mach, FX.out⟩ (fun hHeld => ?_)
  clear hHeld
  have BWn := Lib.hid BW.out.drew
  have FXn := Lib.hid (show w2.drew.heap[w1.heap.size]? = _ from FX.out)
  have szn : w1.heap.size < w2.drew.heap.size := sz
  clear BW FX sz
  obtain ⟨W2, hV⟩ : ∃ V, Hid (w2.drew = V) := ⟨_, Lib.hid rfl⟩
  rw [hV.out] at BWn FXn szn ⊢
  clear hV
  have BW := BWn
  have FX := FXn
  have sz := szn
  clear BWn FXn szn
  have HS := Lib.hid (show (fun w_ => w_.heap[K]? = some (.cells (machC c (.slice (some ⟨M, 0, none⟩) m.length m.length) (.slice A out.length d)) 75 (0, 0)) ∧ w_.heap[w1.heap.size]? = some (.cells #[.int .i64 x0, .int .i64 x1, .int .i64 x2, .int .i64 x3, .int .i64 x4] 23 (0, 0))) W2 from ⟨(HM0.out.below BW.out).mach, FX.out⟩)
  refine wpAnyH_take (i := 0) (v := ?_) rfl (by kernel_rfl) (by kernel_rfl) (by kernel_rfl) (fun _ _ _ h => h) (Or.inl ⟨by rfl, ?_⟩) HS.out ?_
  rotate_left 1
  · intro w_ hSw
    clear hSw
    (go_simp) <;> (with_reducible rfl)
  (try simp only [Act.put, List.getElem_toArray, List.getElem_cons_zero, List.setIfInBounds_toArray, List.set_cons_zero, List.set_cons_succ])
  refine wpAnyH_take (i := 1) (v := ?_) rfl (by kernel_rfl) (by kernel_rfl) (by kernel_rfl) (fun _ _ _ h => h) (Or.inl ⟨by rfl, ?_⟩) HS.out ?_
  rotate_left 1
  · intro w_ hSw
    clear hSw
    (go_simp) <;> (with_reducible rfl)
  (try simp only [Act.put, List.getElem_toArray, List.getElem_cons_zero, List.getElem_cons_succ, List.setIfInBounds_toArray, List.set_cons_zero, List.set_cons_succ])
  refine wpAnyH_take (i := 2) (v := ?_) rfl (by kernel_rfl) (by kernel_rfl) (by kernel_rfl) (fun _ _ _ h => h) (Or.inl ⟨by rfl, ?_⟩) HS.out ?_
  rotate_left 1
  · intro w_ hSw
    clear hSw
    (go_simp) <;> (with_reducible rfl)
  (try simp only [Act.put, List.getElem_toArray, List.getElem_cons_zero, List.getElem_cons_succ, List.setIfInBounds_toArray, List.set_cons_zero, List.set_cons_succ])
  refine wpAnyH_take (i := 3) (v := .agg cs) rfl (by kernel_rfl) (by kernel_rfl) (by kernel_rfl) (fun _ _ _ h => h) (Or.inl ⟨by rfl, fun W_ hW => exec_load_head 35 _ rfl K rfl cs _ (range_of hW.1 (gc.out _ _)) Tryd.underlying35 rfl (by rw [ncs.out]; kernel_rfl)⟩) HS.out ?_
  (try simp only [Act.put, List.getElem_toArray, List.getElem_cons_zero, List.getElem_cons_succ, List.setIfInBounds_toArray, List.set_cons_zero, List.set_cons_succ])
  refine wpAnyH_take (i := 4) (v := .agg #[.int .i64 x0, .int .i64 x1, .int .i64 x2, .int .i64 x3, .int .i64 x4]) rfl (by kernel_rfl) (by kernel_rfl) (by kernel_rfl) (fun _ _ _ h => h) (Or.inl ⟨by rfl, fun W_ hW => exec_load_all 23 _ rfl w1.heap.size #[.int .i64 x0, .int .i64 x1, .int .i64 x2, .int .i64 x3, .int .i64 x4] _ rfl hW.2 Tryd.underlying23 rfl (by kernel_rfl)⟩) HS.out ?_
  (try simp only [Act.put, List.getElem_toArray, List.getElem_cons_zero, List.getElem_cons_succ, List.setIfInBounds_toArray, List.set_cons_zero, List.set_cons_succ])
  refine wpAnyH_take (i := 5) (v := ?_) rfl (by kernel_rfl) (by kernel_rfl) (by kernel_rfl) (fun _ _ _ h => h) (Or.inl ⟨by rfl, ?_⟩) HS.out ?_
  rotate_left 1
  · intro w_ hSw
    clear hSw
    (go_simp) <;> (with_reducible rfl)
  (try simp only [Act.put, List.getElem_toArray, List.getElem_cons_zero, List.getElem_cons_succ, List.setIfInBounds_toArray, List.set_cons_zero, List.set_cons_succ])
  refine wpAnyH_ready (rs := [6, 10]) (by kernel_rfl) (by simp) (AllReadyH.cons (i := 6) rfl (fun K_ hK => ?_) (AllReadyH.cons (i := 10) rfl (fun K_ hK => ?_) AllReadyH.nil))
  · go_simp
    go_at_call 20
    refine (KX.out _).mono ?_
    rintro e w3 ⟨rfl, hb3⟩
    have BWn := Lib.hid (BW.out.trans (hb3.mono BW.out.size))
    have FXn := Lib.hid ((hb3.block _ sz).trans FX.out)
    have szn : w1.heap.size < w3.heap.size := Nat.lt_of_lt_of_le sz hb3.size
    clear BW FX sz
    have BW := BWn
    have FX := FXn
    have sz := szn
    clear BWn FXn szn
    clear HS hb3 KX
    have HS := Lib.hid (show (fun w_ => w_.heap[K]? = some (.cells (machC c (.slice (some ⟨M, 0, none⟩) m.length m.length) (.slice A out.length d)) 75 (0, 0)) ∧ w_.heap[w1.heap.size]? = some (.cells #[.int .i64 x0, .int .i64 x1, .int .i64 x2, .int .i64 x3, .int .i64 x4] 23 (0, 0))) w3 from ⟨(HM0.out.below BW.out).mach, FX.out⟩)
    refine hK.out _ _ HS.out (fun _ => ?_)
    clear hK K_
    (try simp only [Act.put, List.getElem_toArray, List.getElem_cons_zero, List.getElem_cons_succ, List.setIfInBounds_toArray, List.set_cons_zero, List.set_cons_succ])
    refine wpAnyH_take (i := 7) (v := ?_) rfl (by kernel_rfl) (by kernel_rfl) (by kernel_rfl) (fun _ _ _ h => h) (Or.inl ⟨by rfl, ?_⟩) HS.out ?_
    rotate_left 1
    · intro w_ hSw
      clear hSw
      (go_simp) <;> (with_reducible rfl)
    (try simp only [Act.put, List.getElem_toArray, List.getElem_cons_zero, List.getElem_cons_succ, List.setIfInBounds_toArray, List.set_cons_zero, List.set_cons_succ])
    refine wpAnyH_take (i := 8) (v := ?_) rfl (by kernel_rfl) (by kernel_rfl) (by kernel_rfl) (fun _ _ _ h => h) (Or.inl ⟨by rfl, ?_⟩) HS.out ?_
    rotate_left 1
    · intro w_ hSw
      clear hSw
      (go_simp) <;> (with_reducible rfl)
    (try simp only [Act.put, List.getElem_toArray, List.getElem_cons_zero, List.getElem_cons_succ, List.setIfInBounds_toArray, List.set_cons_zero, List.set_cons_succ])
    refine wpAnyH_take (i := 9) (v := ?_) rfl (by kernel_rfl) (by kernel_rfl) (by kernel_rfl) (fun _ _ _ h => h) (Or.inl ⟨by rfl, ?_⟩) HS.out ?_
    rotate_left 1
    · intro w_ hSw
      clear hSw
      (go_simp) <;> (with_reducible rfl)
    (try simp only [Act.put, List.getElem_toArray, List.getElem_cons_zero, List.getElem_cons_succ, List.setIfInBounds_toArray, List.set_cons_zero, List.set_cons_succ])
    refine wpAnyH_ready (rs := [10]) (by kernel_rfl) (by simp) (AllReadyH.cons (i := 10) rfl (fun K_ hK => ?_) AllReadyH.nil)
    go_simp
    have FP := Lib.hid (heap_alloc_new w3 (.cells (effC eff0) 40))
    have NZ : w1.heap.size < w3.heap.size := sz
    have b4 := (Below.refl w3.heap.size w3).alloc (Nat.le_refl _) (.cells (effC eff0) 40)
    have szP : w3.heap.size < (w3.alloc (.cells (effC eff0) 40)).heap.size := by simp
    obtain ⟨N, hN⟩ : ∃ y, Hid (w3.heap.size = y) := ⟨_, rfl⟩
    have BWn := Lib.hid (BW.out.trans (b4.mono BW.out.size))
    have FXn := Lib.hid ((b4.block _ sz).trans FX.out)
    have szn : w1.heap.size < (w3.alloc (.cells (effC eff0) 40)).heap.size := Nat.lt_of_lt_of_le sz b4.size
    clear BW FX sz
    have BW := BWn
    have FX := FXn
    have sz := szn
    clear BWn FXn szn
    clear b4
    have HSn := Lib.hid (show (fun w_ => w_.heap[K]? = some (.cells (machC c (.slice (some ⟨M, 0, none⟩) m.length m.length) (.slice A out.length d)) 75 (0, 0)) ∧ w_.heap[w1.heap.size]? = some (.cells #[.int .i64 x0, .int .i64 x1, .int .i64 x2, .int .i64 x3, .int .i64 x4] 23 (0, 0))) (w3.alloc (.cells (effC eff0) 40)) from ⟨(HM0.out.below BW.out).mach, FX.out⟩)
    clear HS
    have HS := HSn
    clear HSn
    refine hK.out _ _ HS.out (fun _ => ?_)
    clear hK K_
    (try simp only [Act.put, List.getElem_toArray, List.getElem_cons_zero, List.getElem_cons_succ, List.setIfInBounds_toArray, List.set_cons_zero, List.set_cons_succ])
    change wpAnyH _ _ _ _ _ _ _ _ (w3.alloc (.cells (effC eff0) 40))
    rw [hN.out] at FP NZ szP ⊢
    clear hN
    obtain ⟨W4, hV⟩ : ∃ V, Hid ((w3.alloc (.cells (effC eff0) 40)) = V) := ⟨_, Lib.hid rfl⟩
    rw [hV.out] at BW FX sz HS FP szP ⊢
    clear hV
    refine wpAnyH_ready (rs := [11]) (by kernel_rfl) (by simp) (AllReadyH.cons (i := 11) rfl (fun K_ hK => ?_) AllReadyH.nil)
    rw [if_pos (by rfl)]
    refine wp_store_all 40 _ _ rfl N _ ps rfl rfl FP.out (by rw [ksz.out]; rfl) (by rw [ksz.out]; kernel_rfl) kone.out ?_
    intro U hU
    have BWn := Lib.hid (BW.out.setC (by omega) hU)
    have FXn := Lib.hid ((hU.block _ (by omega)).trans FX.out)
    have szn : w1.heap.size < U.heap.size := by rw [hU.size]; exact sz
    have FPn := Lib.hid hU.at_
    clear BW FX sz HS FP szP hU
    have FP := FPn
    clear FPn
    have BW := BWn
    have FX := FXn
    have sz := szn
    clear BWn FXn szn
    have HS := Lib.hid (show (fun w_ => w_.heap[K]? = some (.cells (machC c (.slice (some ⟨M, 0, none⟩) m.length m.length) (.slice A out.length d)) 75 (0, 0)) ∧ w_.heap[w1.heap.size]? = some (.cells #[.int .i64 x0, .int .i64 x1, .int .i64 x2, .int .i64 x3, .int .i64 x4] 23 (0, 0))) U from ⟨(HM0.out.below BW.out).mach, FX.out⟩)
    refine hK.out _ _ HS.out (fun _ => ?_)
    clear hK K_
    (try simp only [Act.put, List.getElem_toArray, List.getElem_cons_zero, List.getElem_cons_succ])
    refine wpAnyH_take (i := 12) (v := ?_) rfl (by kernel_rfl) (by kernel_rfl) (by kernel_rfl) (fun _ _ _ h => h) (Or.inl ⟨by rfl, ?_⟩) HS.out ?_
    rotate_left 1
    · intro w_ hSw
      clear hSw
      (go_simp) <;> (with_reducible rfl)
    (try simp only [Act.put, List.getElem_toArray, List.getElem_cons_zero, List.getElem_cons_succ, List.setIfInBounds_toArray, List.set_cons_zero, List.set_cons_succ])
    refine wpAnyH_done (by kernel_rfl) ?_ _
    clear HS
    have m17 := (cell_of_row _ _ 17 _ _ _ FP.out).trans k17.out.1
    have m18 := (cell_of_row _ _ 18 _ _ _ FP.out).trans k17.out.2.1
    go_wp2_with fail
    go_ret
    exact ⟨rfl, BW.out⟩
  · go_simp
    have FP := Lib.hid (heap_alloc_new W2 (.cells (effC eff0) 40))
    have NZ : w1.heap.size < W2.heap.size := sz
    have b4 := (Below.refl W2.heap.size W2).alloc (Nat.le_refl _) (.cells (effC eff0) 40)
    have szP : W2.heap.size < (W2.alloc (.cells (effC eff0) 40)).heap.size := by simp
    obtain ⟨N, hN⟩ : ∃ y, Hid (W2.heap.size = y) := ⟨_, rfl⟩
    have BWn := Lib.hid (BW.out.trans (b4.mono BW.out.size))
    have FXn := Lib.hid ((b4.block _ sz).trans FX.out)
    have szn : w1.heap.size < (W2.alloc (.cells (effC eff0) 40)).heap.size := Nat.lt_of_lt_of_le sz b4.size
    clear BW FX sz
    have BW := BWn
    have FX := FXn
    have sz := szn
    clear BWn FXn szn
    clear b4
    have HSn := Lib.hid (show (fun w_ => w_.heap[K]? = some (.cells (machC c (.slice (some ⟨M, 0, none⟩) m.length m.length) (.slice A out.length d)) 75 (0, 0)) ∧ w_.heap[w1.heap.size]? = some (.cells #[.int .i64 x0, .int .i64 x1, .int .i64 x2, .int .i64 x3, .int .i64 x4] 23 (0, 0))) (W2.alloc (.cells (effC eff0) 40)) from ⟨(HM0.out.below BW.out).mach, FX.out⟩)
    clear HS
    have HS := HSn
    clear HSn
    refine hK.out _ _ HS.out (fun _ => ?_)
    clear hK K_
    (try simp only [Act.put, List.getElem_toArray, List.getElem_cons_zero, List.getElem_cons_succ, List.setIfInBounds_toArray, List.set_cons_zero, List.set_cons_succ])
    change wpAnyH _ _ _ _ _ _ _ _ (W2.alloc (.cells (effC eff0) 40))
    rw [hN.out] at FP NZ szP ⊢
    clear hN
    obtain ⟨W4, hV⟩ : ∃ V, Hid ((W2.alloc (.cells (effC eff0) 40)) = V) := ⟨_, Lib.hid rfl⟩
    rw [hV.out] at BW FX sz HS FP szP ⊢
    clear hV
    refine wpAnyH_ready (rs := [6]) (by kernel_rfl) (by simp) (AllReadyH.cons (i := 6) rfl (fun K_ hK => ?_) AllReadyH.nil)
    go_simp
    go_at_call 20
    refine (KX.out _).mono ?_
    rintro e w3 ⟨rfl, hb3⟩
    have BWn := Lib.hid (BW.out.trans (hb3.mono BW.out.size))
    have FXn := Lib.hid ((hb3.block _ sz).trans FX.out)
    have szn : w1.heap.size < w3.heap.size := Nat.lt_of_lt_of_le sz hb3.size
    clear BW FX sz
    have BW := BWn
    have FX := FXn
    have sz := szn
    clear BWn FXn szn
    have FPn := Lib.hid ((hb3.block _ szP).trans FP.out)
    have sPn := Nat.lt_of_lt_of_le szP hb3.size
    clear FP szP
    have FP := FPn
    have szP := sPn
    clear FPn sPn
    clear HS hb3 KX
    have HS := Lib.hid (show (fun w_ => w_.heap[K]? = some (.cells (machC c (.slice (some ⟨M, 0, none⟩) m.length m.length) (.slice A out.length d)) 75 (0, 0)) ∧ w_.heap[w1.heap.size]? = some (.cells #[.int .i64 x0, .int .i64 x1, .int .i64 x2, .int .i64 x3, .int .i64 x4] 23 (0, 0))) w3 from ⟨(HM0.out.below BW.out).mach, FX.out⟩)
    refine hK.out _ _ HS.out (fun _ => ?_)
    clear hK K_
    (try simp only [Act.put, List.getElem_toArray, List.getElem_cons_zero, List.getElem_cons_succ, List.setIfInBounds_toArray, List.set_cons_zero, List.set_cons_succ])
    refine wpAnyH_take (i := 7) (v := ?_) rfl (by kernel_rfl) (by kernel_rfl) (by kernel_rfl) (fun _ _ _ h => h) (Or.inl ⟨by rfl, ?_⟩) HS.out ?_
    rotate_left 1
    · intro w_ hSw
      clear hSw
      (go_simp) <;> (with_reducible rfl)
    (try simp only [Act.put, List.getElem_toArray, List.getElem_cons_zero, List.getElem_cons_succ, List.setIfInBounds_toArray, List.set_cons_zero, List.set_cons_succ])
    refine wpAnyH_take (i := 8) (v := ?_) rfl (by kernel_rfl) (by kernel_rfl) (by kernel_rfl) (fun _ _ _ h => h) (Or.inl ⟨by rfl, ?_⟩) HS.out ?_
    rotate_left 1
    · intro w_ hSw
      clear hSw
      (go_simp) <;> (with_reducible rfl)
    (try simp only [Act.put, List.getElem_toArray, List.getElem_cons_zero, List.getElem_cons_succ, List.setIfInBounds_toArray, List.set_cons_zero, List.set_cons_succ])
    refine wpAnyH_take (i := 9) (v := ?_) rfl (by kernel_rfl) (by kernel_rfl) (by kernel_rfl) (fun _ _ _ h => h) (Or.inl ⟨by rfl, ?_⟩) HS.out ?_
    rotate_left 1
    · intro w_ hSw
      clear hSw
      (go_simp) <;> (with_reducible rfl)
    (try simp only [Act.put, List.getElem_toArray, List.getElem_cons_zero, List.getElem_cons_succ, List.setIfInBounds_toArray, List.set_cons_zero, List.set_cons_succ])
    refine wpAnyH_ready (rs := [11]) (by kernel_rfl) (by simp) (AllReadyH.cons (i := 11) rfl (fun K_ hK => ?_) AllReadyH.nil)
    rw [if_pos (by rfl)]
    refine wp_store_all 40 _ _ rfl N _ ps rfl rfl FP.out (by rw [ksz.out]; rfl) (by rw [ksz.out]; kernel_rfl) kone.out ?_
    intro U hU
    have BWn := Lib.hid (BW.out.setC (by omega) hU)
    have FXn := Lib.hid ((hU.block _ (by omega)).trans FX.out)
    have szn : w1.heap.size < U.heap.size := by rw [hU.size]; exact sz
    have FPn := Lib.hid hU.at_
    clear BW FX sz HS FP szP hU
    have FP := FPn
    clear FPn
    have BW := BWn
    have FX := FXn
    have sz := szn
    clear BWn FXn szn
    have HS := Lib.hid (show (fun w_ => w_.heap[K]? = some (.cells (machC c (.slice (some ⟨M, 0, none⟩) m.length m.length) (.slice A out.length d)) 75 (0, 0)) ∧ w_.heap[w1.heap.size]? = some (.cells #[.int .i64 x0, .int .i64 x1, .int .i64 x2, .int .i64 x3, .int .i64 x4] 23 (0, 0))) U from ⟨(HM0.out.below BW.out).mach, FX.out⟩)
    refine hK.out _ _ HS.out (fun _ => ?_)
    clear hK K_
    (try simp only [Act.put, List.getElem_toArray, List.getElem_cons_zero, List.getElem_cons_succ])
    refine wpAnyH_take (i := 12) (v := ?_) rfl (by kernel_rfl) (by kernel_rfl) (by kernel_rfl) (fun _ _ _ h => h) (Or.inl ⟨by rfl, ?_⟩) HS.out ?_
    rotate_left 1
    · intro w_ hSw
      clear hSw
      (go_simp) <;> (with_reducible rfl)
    (try simp only [Act.put, List.getElem_toArray, List.getElem_cons_zero, List.getElem_cons_succ, List.setIfInBounds_toArray, List.set_cons_zero, List.set_cons_succ])
    refine wpAnyH_done (by kernel_rfl) ?_ _
    clear HS
    have m17 := (cell_of_row _ _ 17 _ _ _ FP.out).trans k17.out.1
    have m18 := (cell_of_row _ _ 18 _ _ _ FP.out).trans k17.out.2.1
    go_wp2_with fail
    go_ret
    exact ⟨rfl, BW.out⟩
set_option maxRecDepth 100000 in
set_option maxHeartbeats 4000000 in
theorem step_sbad_n (B K M : Nat) (c : Cpu) (m out : List Int) (A : Option Addr) (d : Nat) (w : World) (hm : Mach B K M c m A d out w) (hc : c.Fits) (p : Nat) (hp : c.pc = p) (hlt : p < m.length) (v : Int) (hvf : I64 v) (hv : m.getD p 0 = v) (x : Ins) (hx : decI v = x) (hd : decE v = 0) (hrb : readsB x = false) (hex : exE x = 0) (hst0 : (exV c x 0).stores = true) (ha0 : (exV c x 0).addr < 0 ∨ (m.length : Int) ≤ (exV c x 0).addr) : Calls Tryd.prog 45 #[.pointer (some ⟨K, 0, none⟩)] w (NoStep w) := by
  have hl := Lib.hid hc.len
  have HM0 := Lib.hid hm
  have c16 := (cell_of_row _ _ 16 _ _ _ hm.mach).trans (machC_at hc.len).1
  rw [hp] at c16
  have KW := Lib.hid (word_yes K M m.length p _ v w hm.mach (machC_at hc.len).2.1 hlt ((cell_of_row _ _ p _ _ _ hm.mem).trans ((numsC_at m p hlt).trans (by rw [hv]))))
  have hxf : Ins.Fits x := hx ▸ decI_fits hvf
  obtain ⟨x0, x1, x2, x3, x4⟩ := x
  have hx' := hx
  have KD := Lib.hid (show ∀ W : World, Calls Tryd.prog 12 #[.int .i64 v] W (Gives2 W (insV ⟨x0, x1, x2, x3, x4⟩) (.int .i64 0)) from fun W => by
    have := decode_any v hvf W
    rw [hx', hd] at this
    exact this)
  obtain ⟨cs, hcs⟩ : ∃ y, Hid (cpuC c = y) := ⟨_, rfl⟩
  have gc := Lib.hid (fun (mm oo : Value) => machC_cpu (m := mm) (o := oo) hc.len)
  have ncs := Lib.hid (cpuC_size hc.len)
  obtain ⟨ra, hra⟩ : ∃ y, Hid (readsA c ⟨x0, x1, x2, x3, x4⟩ = y) := ⟨_, rfl⟩
  have KR := Lib.hid (show ∀ W : World, Calls Tryd.prog 18 #[.agg (cpuC c), insV ⟨x0, x1, x2, x3, x4⟩] W (GivesB W ra false) from fun W => by
    have := reads_any c hc ⟨x0, x1, x2, x3, x4⟩ hxf W
    rw [hra.out, hrb] at this
    exact this)
  rw [hcs.out] at gc ncs KR
  have HX := Lib.hid (And.intro hst0 ha0)
  clear hst0 ha0
  clear hx' hx hd hm hp hv hlt hvf hrb
  obtain ⟨X, hX⟩ : ∃ y, Hid (exV c ⟨x0, x1, x2, x3, x4⟩ 0 = y) := ⟨_, rfl⟩
  have KX := Lib.hid (show ∀ W : World, Calls Tryd.prog 20 #[.agg (cpuC c), insV ⟨x0, x1, x2, x3, x4⟩, .int .i64 0] W (Gives2 W (.agg (effC X)) (.int .i64 0)) from fun W => by
    have := execute_any c hc ⟨x0, x1, x2, x3, x4⟩ hxf 0 W
    rw [hX.out, hex] at this
    exact this)
  have xl := Lib.hid (show X.cpu.r.length = 16 by rw [← hX.out]; exact exV_len c _ 0 hc.len)
  have k17 := Lib.hid (effC_at17 X xl.out)
  have ksz := Lib.hid (effC_size xl.out)
  have kone := Lib.hid (effC_one X)
  rw [hX.out] at HX
  obtain ⟨st, hst⟩ : ∃ y, Hid (X.stores = y) := ⟨_, rfl⟩
  obtain ⟨ad, had⟩ : ∃ y, Hid (X.addr = y) := ⟨_, rfl⟩
  obtain ⟨ps, hps⟩ : ∃ y, Hid (effC X = y) := ⟨_, rfl⟩
  rw [HX.out.1] at hst
  have hst2 : st = true := hst.out.symm
  subst hst2
  have HA := Lib.hid HX.out.2
  rw [had.out] at HA
  rw [HX.out.1, had.out] at k17
  clear hst had HX
  rw [hps.out] at k17 ksz kone KX
  rw [hcs.out] at KX
  clear hc hcs hxf hps hX hex hra
  go_enter Tryd.func45, Tryd.ntmps45
  go_wp2_with (go_at_call 47; refine (KW.out).mono ?_; rintro e w' ⟨rfl, rfl⟩)
  refine (KD.out _).mono ?_
  rintro e w1 ⟨rfl, hb1⟩
  have FX := Lib.hid (heap_alloc_new w1 (.cells #[.int .i64 x0, .int .i64 x1, .int .i64 x2, .int .i64 x3, .int .i64 x4] 23))
  have BW := Lib.hid (hb1.alloc hb1.size (.cells #[.int .i64 x0, .int .i64 x1, .int .i64 x2, .int .i64 x3, .int .i64 x4] 23))
  have sz : w1.heap.size < (w1.alloc (.cells #[.int .i64 x0, .int .i64 x1, .int .i64 x2, .int .i64 x3, .int .i64 x4] 23)).heap.size := by simp
  have w1z : w.heap.size ≤ w1.heap.size := hb1.size
  clear hb1 c16 KW KD
  go_wp2_with fail
  refine wp_region_held_drew (S := fun w_ => w_.heap[K]? = some (.cells (machC c (.slice (some ⟨M, 0, none⟩) m.length m.length) (.slice A out.length d)) 75 (0, 0)) ∧ w_.heap[w1.heap.size]? = some (.cells #[.int .i64 x0, .int .i64 x1, .int .i64 x2, .int .i64 x3, .int .i64 x4] 23 (0, 0))) (by kernel_rfl) ⟨(HM0.out.below BW.out).mach, FX.out⟩ (fun hHeld => ?_)
  clear hHeld
  have BWn := Lib.hid BW.out.drew
  have FXn := Lib.hid (show (w1.alloc (.cells #[.int .i64 x0, .int .i64 x1, .int .i64 x2, .int .i64 x3, .int .i64 x4] 23)).drew.heap[w1.heap.size]? = _ from FX.out)
  have szn : w1.heap.size < (w1.alloc (.cells #[.int .i64 x0, .int .i64 x1, .int .i64 x2, .int .i64 x3, .int .i64 x4] 23)).drew.heap.size := sz
  clear BW FX sz
  obtain ⟨W1, hV⟩ : ∃ V, Hid ((w1.alloc (.cells #[.int .i64 x0, .int .i64 x1, .int .i64 x2, .int .i64 x3, .int .i64 x4] 23)).drew = V) := ⟨_, Lib.hid rfl⟩
  rw [hV.out] at BWn FXn szn ⊢
  clear hV
  have BW := BWn
  have FX := FXn
  have sz := szn
  clear BWn FXn szn
  have HS := Lib.hid (show (fun w_ => w_.heap[K]? = some (.cells (machC c (.slice (some ⟨M, 0, none⟩) m.length m.length) (.slice A out.length d)) 75 (0, 0)) ∧ w_.heap[w1.heap.size]? = some (.cells #[.int .i64 x0, .int .i64 x1, .int .i64 x2, .int .i64 x3, .int .i64 x4] 23 (0, 0))) W1 from ⟨(HM0.out.below BW.out).mach, FX.out⟩)
  refine wpAnyH_take (i := 0) (v := ?_) rfl (by kernel_rfl) (by kernel_rfl) (by kernel_rfl) (fun _ _ _ h => h) (Or.inl ⟨by rfl, ?_⟩) HS.out ?_
  rotate_left 1
  · intro w_ hSw
    clear hSw
    (go_simp) <;> (with_reducible rfl)
  (try simp only [Act.put, List.getElem_toArray, List.getElem_cons_zero, List.setIfInBounds_toArray, List.set_cons_zero, List.set_cons_succ])
  refine wpAnyH_take (i := 1) (v := ?_) rfl (by kernel_rfl) (by kernel_rfl) (by kernel_rfl) (fun _ _ _ h => h) (Or.inl ⟨by rfl, ?_⟩) HS.out ?_
  rotate_left 1
  · intro w_ hSw
    clear hSw
    (go_simp) <;> (with_reducible rfl)
  (try simp only [Act.put, List.getElem_toArray, List.getElem_cons_zero, List.getElem_cons_succ, List.setIfInBounds_toArray, List.set_cons_zero, List.set_cons_succ])
  refine wpAnyH_take (i := 2) (v := ?_) rfl (by kernel_rfl) (by kernel_rfl) (by kernel_rfl) (fun _ _ _ h => h) (Or.inl ⟨by rfl, ?_⟩) HS.out ?_
  rotate_left 1
  · intro w_ hSw
    clear hSw
    (go_simp) <;> (with_reducible rfl)
  (try simp only [Act.put, List.getElem_toArray, List.getElem_cons_zero, List.getElem_cons_succ, List.setIfInBounds_toArray, List.set_cons_zero, List.set_cons_succ])
  refine wpAnyH_take (i := 3) (v := .agg cs) rfl (by kernel_rfl) (by kernel_rfl) (by kernel_rfl) (fun _ _ _ h => h) (Or.inl ⟨by rfl, fun W_ hW => exec_load_head 35 _ rfl K rfl cs _ (range_of hW.1 (gc.out _ _)) Tryd.underlying35 rfl (by rw [ncs.out]; kernel_rfl)⟩) HS.out ?_
  (try simp only [Act.put, List.getElem_toArray, List.getElem_cons_zero, List.getElem_cons_succ, List.setIfInBounds_toArray, List.set_cons_zero, List.set_cons_succ])
  refine wpAnyH_take (i := 4) (v := .agg #[.int .i64 x0, .int .i64 x1, .int .i64 x2, .int .i64 x3, .int .i64 x4]) rfl (by kernel_rfl) (by kernel_rfl) (by kernel_rfl) (fun _ _ _ h => h) (Or.inl ⟨by rfl, fun W_ hW => exec_load_all 23 _ rfl w1.heap.size #[.int .i64 x0, .int .i64 x1, .int .i64 x2, .int .i64 x3, .int .i64 x4] _ rfl hW.2 Tryd.underlying23 rfl (by kernel_rfl)⟩) HS.out ?_
  (try simp only [Act.put, List.getElem_toArray, List.getElem_cons_zero, List.getElem_cons_succ, List.setIfInBounds_toArray, List.set_cons_zero, List.set_cons_succ])
  refine wpAnyH_ready (rs := [5]) (by kernel_rfl) (by simp) (AllReadyH.cons (i := 5) rfl (fun K_ hK => ?_) AllReadyH.nil)
  go_simp
  go_at_call 18
  refine (KR.out _).mono ?_
  rintro e w2 ⟨rfl, hb2⟩
  have BWn := Lib.hid (BW.out.trans (hb2.mono BW.out.size))
  have FXn := Lib.hid ((hb2.block _ sz).trans FX.out)
  have szn : w1.heap.size < w2.heap.size := Nat.lt_of_lt_of_le sz hb2.size
  clear BW FX sz
  have BW := BWn
  have FX := FXn
  have sz := szn
  clear BWn FXn szn
  clear HS hb2 KR
  have HS := Lib.hid (show (fun w_ => w_.heap[K]? = some (.cells (machC c (.slice (some ⟨M, 0, none⟩) m.length m.length) (.slice A out.length d)) 75 (0, 0)) ∧ w_.heap[w1.heap.size]? = some (.cells #[.int .i64 x0, .int .i64 x1, .int .i64 x2, .int .i64 x3, .int .i64 x4] 23 (0, 0))) w2 from ⟨(HM0.out.below BW.out).mach, FX.out⟩)
  refine hK.out _ _ HS.out (fun _ => ?_)
  clear hK K_
  (try simp only [Act.put, List.getElem_toArray, List.getElem_cons_zero, List.getElem_cons_succ, List.setIfInBounds_toArray, List.set_cons_zero, List.set_cons_succ])
  refine wpAnyH_take (i := 6) (v := ?_) rfl (by kernel_rfl) (by kernel_rfl) (by kernel_rfl) (fun _ _ _ h => h) (Or.inl ⟨by rfl, ?_⟩) HS.out ?_
  rotate_left 1
  · intro w_ hSw
    clear hSw
    (go_simp) <;> (with_reducible rfl)
  (try simp only [Act.put, List.getElem_toArray, List.getElem_cons_zero, List.getElem_cons_succ, List.setIfInBounds_toArray, List.set_cons_zero, List.set_cons_succ])
  refine wpAnyH_take (i := 7) (v := ?_) rfl (by kernel_rfl) (by kernel_rfl) (by kernel_rfl) (fun _ _ _ h => h) (Or.inl ⟨by rfl, ?_⟩) HS.out ?_
  rotate_left 1
  · intro w_ hSw
    clear hSw
    (go_simp) <;> (with_reducible rfl)
  (try simp only [Act.put, List.getElem_toArray, List.getElem_cons_zero, List.getElem_cons_succ, List.setIfInBounds_toArray, List.set_cons_zero, List.set_cons_succ])
  refine wpAnyH_take (i := 8) (v := ?_) rfl (by kernel_rfl) (by kernel_rfl) (by kernel_rfl) (fun _ _ _ h => h) (Or.inl ⟨by rfl, ?_⟩) HS.out ?_
  rotate_left 1
  · intro w_ hSw
    clear hSw
    (go_simp) <;> (with_reducible rfl)
  (try simp only [Act.put, List.getElem_toArray, List.getElem_cons_zero, List.getElem_cons_succ, List.setIfInBounds_toArray, List.set_cons_zero, List.set_cons_succ])
  refine wpAnyH_take (i := 9) (v := ?_) rfl (by kernel_rfl) (by kernel_rfl) (by kernel_rfl) (fun _ _ _ h => h) (Or.inl ⟨by rfl, ?_⟩) HS.out ?_
  rotate_left 1
  · intro w_ hSw
    clear hSw
    (go_simp) <;> (with_reducible rfl)
  (try simp only [Act.put, List.getElem_toArray, List.getElem_cons_zero, List.getElem_cons_succ, List.setIfInBounds_toArray, List.set_cons_zero, List.set_cons_succ])
  refine wpAnyH_take (i := 10) (v := ?_) rfl (by kernel_rfl) (by kernel_rfl) (by kernel_rfl) (fun _ _ _ h => h) (Or.inl ⟨by rfl, ?_⟩) HS.out ?_
  rotate_left 1
  · intro w_ hSw
    clear hSw
    (go_simp) <;> (with_reducible rfl)
  (try simp only [Act.put, List.getElem_toArray, List.getElem_cons_zero, List.getElem_cons_succ, List.setIfInBounds_toArray, List.set_cons_zero, List.set_cons_succ])
  refine wpAnyH_done (by kernel_rfl) ?_ _
  clear HS
  go_wp2_with fail
  refine wp_region_held_drew (S := fun w_ => w_.heap[K]? = some (.cells (machC c (.slice (some ⟨M, 0, none⟩) m.length m.length) (.slice A out.length d)) 75 (0, 0)) ∧ w_.heap[w1.heap.size]? = some (.cells #[.int .i64 x0, .int .i64 x1, .int .i64 x2, .int .i64 x3, .int .i64 x4] 23 (0, 0))) (by kernel_rfl) ⟨(HM0.out.below BW.out).mach, FX.out⟩ (fun hHeld => ?_)
  clear hHeld
  have BWn := Lib.hid BW.out.drew
  have FXn := Lib.hid (show w2.drew.heap[w1.heap.size]? = _ from FX.out)
  have szn : w1.heap.size < w2.drew.heap.size := sz
  clear BW FX sz
  obtain ⟨W2, hV⟩ : ∃ V, Hid (w2.drew = V) := ⟨_, Lib.hid rfl⟩
  rw [hV.out] at BWn FXn szn ⊢
  clear hV
  have BW := BWn
  have FX := FXn
  have sz := szn
  clear BWn FXn szn
  have HS := Lib.hid (show (fun w_ => w_.heap[K]? = some (.cells (machC c (.slice (some ⟨M, 0, none⟩) m.length m.length) (.slice A out.length d)) 75 (0, 0)) ∧ w_.heap[w1.heap.size]? = some (.cells #[.int .i64 x0, .int .i64 x1, .int .i64 x2, .int .i64 x3, .int .i64 x4] 23 (0, 0))) W2 from ⟨(HM0.out.below BW.out).mach, FX.out⟩)
  refine wpAnyH_take (i := 0) (v := ?_) rfl (by kernel_rfl) (by kernel_rfl) (by kernel_rfl) (fun _ _ _ h => h) (Or.inl ⟨by rfl, ?_⟩) HS.out ?_
  rotate_left 1
  · intro w_ hSw
    clear hSw
    (go_simp) <;> (with_reducible rfl)
  (try simp only [Act.put, List.getElem_toArray, List.getElem_cons_zero, List.setIfInBounds_toArray, List.set_cons_zero, List.set_cons_succ])
  refine wpAnyH_take (i := 1) (v := ?_) rfl (by kernel_rfl) (by kernel_rfl) (by kernel_rfl) (fun _ _ _ h => h) (Or.inl ⟨by rfl, ?_⟩) HS.out ?_
  rotate_left 1
  · intro w_ hSw
    clear hSw
    (go_simp) <;> (with_reducible rfl)
  (try simp only [Act.put, List.getElem_toArray, List.getElem_cons_zero, List.getElem_cons_succ, List.setIfInBounds_toArray, List.set_cons_zero, List.set_cons_succ])
  refine wpAnyH_take (i := 2) (v := ?_) rfl (by kernel_rfl) (by kernel_rfl) (by kernel_rfl) (fun _ _ _ h => h) (Or.inl ⟨by rfl, ?_⟩) HS.out ?_
  rotate_left 1
  · intro w_ hSw
    clear hSw
    (go_simp) <;> (with_reducible rfl)
  (try simp only [Act.put, List.getElem_toArray, List.getElem_cons_zero, List.getElem_cons_succ, List.setIfInBounds_toArray, List.set_cons_zero, List.set_cons_succ])
  refine wpAnyH_take (i := 3) (v := .agg cs) rfl (by kernel_rfl) (by kernel_rfl) (by kernel_rfl) (fun _ _ _ h => h) (Or.inl ⟨by rfl, fun W_ hW => exec_load_head 35 _ rfl K rfl cs _ (range_of hW.1 (gc.out _ _)) Tryd.underlying35 rfl (by rw [ncs.out]; kernel_rfl)⟩) HS.out ?_
  (try simp only [Act.put, List.getElem_toArray, List.getElem_cons_zero, List.getElem_cons_succ, List.setIfInBounds_toArray, List.set_cons_zero, List.set_cons_succ])
  refine wpAnyH_take (i := 4) (v := .agg #[.int .i64 x0, .int .i64 x1, .int .i64 x2, .int .i64 x3, .int .i64 x4]) rfl (by kernel_rfl) (by kernel_rfl) (by kernel_rfl) (fun _ _ _ h => h) (Or.inl ⟨by rfl, fun W_ hW => exec_load_all 23 _ rfl w1.heap.size #[.int .i64 x0, .int .i64 x1, .int .i64 x2, .int .i64 x3, .int .i64 x4] _ rfl hW.2 Tryd.underlying23 rfl (by kernel_rfl)⟩) HS.out ?_
  (try simp only [Act.put, List.getElem_toArray, List.getElem_cons_zero, List.getElem_cons_succ, List.setIfInBounds_toArray, List.set_cons_zero, List.set_cons_succ])
  refine wpAnyH_take (i := 5) (v := ?_) rfl (by kernel_rfl) (by kernel_rfl) (by kernel_rfl) (fun _ _ _ h => h) (Or.inl ⟨by rfl, ?_⟩) HS.out ?_
  rotate_left 1
  · intro w_ hSw
    clear hSw
    (go_simp) <;> (with_reducible rfl)
  (try simp only [Act.put, List.getElem_toArray, List.getElem_cons_zero, List.getElem_cons_succ, List.setIfInBounds_toArray, List.set_cons_zero, List.set_cons_succ])
  refine wpAnyH_ready (rs := [6, 10]) (by kernel_rfl) (by simp) (AllReadyH.cons (i := 6) rfl (fun K_ hK => ?_) (AllReadyH.cons (i := 10) rfl (fun K_ hK => ?_) AllReadyH.nil))
  · go_simp
    go_at_call 20
    refine (KX.out _).mono ?_
    rintro e w3 ⟨rfl, hb3⟩
    have BWn := Lib.hid (BW.out.trans (hb3.mono BW.out.size))
    have FXn := Lib.hid ((hb3.block _ sz).trans FX.out)
    have szn : w1.heap.size < w3.heap.size := Nat.lt_of_lt_of_le sz hb3.size
    clear BW FX sz
    have BW := BWn
    have FX := FXn
    have sz := szn
    clear BWn FXn szn
    clear HS hb3 KX
    have HS := Lib.hid (show (fun w_ => w_.heap[K]? = some (.cells (machC c (.slice (some ⟨M, 0, none⟩) m.length m.length) (.slice A out.length d)) 75 (0, 0)) ∧ w_.heap[w1.heap.size]? = some (.cells #[.int .i64 x0, .int .i64 x1, .int .i64 x2, .int .i64 x3, .int .i64 x4] 23 (0, 0))) w3 from ⟨(HM0.out.below BW.out).mach, FX.out⟩)
    refine hK.out _ _ HS.out (fun _ => ?_)
    clear hK K_
    (try simp only [Act.put, List.getElem_toArray, List.getElem_cons_zero, List.getElem_cons_succ, List.setIfInBounds_toArray, List.set_cons_zero, List.set_cons_succ])
    refine wpAnyH_take (i := 7) (v := ?_) rfl (by kernel_rfl) (by kernel_rfl) (by kernel_rfl) (fun _ _ _ h => h) (Or.inl ⟨by rfl, ?_⟩) HS.out ?_
    rotate_left 1
    · intro w_ hSw
      clear hSw
      (go_simp) <;> (with_reducible rfl)
    (try simp only [Act.put, List.getElem_toArray, List.getElem_cons_zero, List.getElem_cons_succ, List.setIfInBounds_toArray, List.set_cons_zero, List.set_cons_succ])
    refine wpAnyH_take (i := 8) (v := ?_) rfl (by kernel_rfl) (by kernel_rfl) (by kernel_rfl) (fun _ _ _ h => h) (Or.inl ⟨by rfl, ?_⟩) HS.out ?_
    rotate_left 1
    · intro w_ hSw
      clear hSw
      (go_simp) <;> (with_reducible rfl)
    (try simp only [Act.put, List.getElem_toArray, List.getElem_cons_zero, List.getElem_cons_succ, List.setIfInBounds_toArray, List.set_cons_zero, List.set_cons_succ])
    refine wpAnyH_take (i := 9) (v := ?_) rfl (by kernel_rfl) (by kernel_rfl) (by kernel_rfl) (fun _ _ _ h => h) (Or.inl ⟨by rfl, ?_⟩) HS.out ?_
    rotate_left 1
    · intro w_ hSw
      clear hSw
      (go_simp) <;> (with_reducible rfl)
    (try simp only [Act.put, List.getElem_toArray, List.getElem_cons_zero, List.getElem_cons_succ, List.setIfInBounds_toArray, List.set_cons_zero, List.set_cons_succ])
    refine wpAnyH_ready (rs := [10]) (by kernel_rfl) (by simp) (AllReadyH.cons (i := 10) rfl (fun K_ hK => ?_) AllReadyH.nil)
    go_simp
    have FP := Lib.hid (heap_alloc_new w3 (.cells (effC eff0) 40))
    have NZ : w1.heap.size < w3.heap.size := sz
    have b4 := (Below.refl w3.heap.size w3).alloc (Nat.le_refl _) (.cells (effC eff0) 40)
    have szP : w3.heap.size < (w3.alloc (.cells (effC eff0) 40)).heap.size := by simp
    obtain ⟨N, hN⟩ : ∃ y, Hid (w3.heap.size = y) := ⟨_, rfl⟩
    have BWn := Lib.hid (BW.out.trans (b4.mono BW.out.size))
    have FXn := Lib.hid ((b4.block _ sz).trans FX.out)
    have szn : w1.heap.size < (w3.alloc (.cells (effC eff0) 40)).heap.size := Nat.lt_of_lt_of_le sz b4.size
    clear BW FX sz
    have BW := BWn
    have FX := FXn
    have sz := szn
    clear BWn FXn szn
    clear b4
    have HSn := Lib.hid (show (fun w_ => w_.heap[K]? = some (.cells (machC c (.slice (some ⟨M, 0, none⟩) m.length m.length) (.slice A out.length d)) 75 (0, 0)) ∧ w_.heap[w1.heap.size]? = some (.cells #[.int .i64 x0, .int .i64 x1, .int .i64 x2, .int .i64 x3, .int .i64 x4] 23 (0, 0))) (w3.alloc (.cells (effC eff0) 40)) from ⟨(HM0.out.below BW.out).mach, FX.out⟩)
    clear HS
    have HS := HSn
    clear HSn
    refine hK.out _ _ HS.out (fun _ => ?_)
    clear hK K_
    (try simp only [Act.put, List.getElem_toArray, List.getElem_cons_zero, List.getElem_cons_succ, List.setIfInBounds_toArray, List.set_cons_zero, List.set_cons_succ])
    change wpAnyH _ _ _ _ _ _ _ _ (w3.alloc (.cells (effC eff0) 40))
    rw [hN.out] at FP NZ szP ⊢
    clear hN
    obtain ⟨W4, hV⟩ : ∃ V, Hid ((w3.alloc (.cells (effC eff0) 40)) = V) := ⟨_, Lib.hid rfl⟩
    rw [hV.out] at BW FX sz HS FP szP ⊢
    clear hV
    refine wpAnyH_ready (rs := [11]) (by kernel_rfl) (by simp) (AllReadyH.cons (i := 11) rfl (fun K_ hK => ?_) AllReadyH.nil)
    rw [if_pos (by rfl)]
    refine wp_store_all 40 _ _ rfl N _ ps rfl rfl FP.out (by rw [ksz.out]; rfl) (by rw [ksz.out]; kernel_rfl) kone.out ?_
    intro U hU
    have BWn := Lib.hid (BW.out.setC (by omega) hU)
    have FXn := Lib.hid ((hU.block _ (by omega)).trans FX.out)
    have szn : w1.heap.size < U.heap.size := by rw [hU.size]; exact sz
    have FPn := Lib.hid hU.at_
    clear BW FX sz HS FP szP hU
    have FP := FPn
    clear FPn
    have BW := BWn
    have FX := FXn
    have sz := szn
    clear BWn FXn szn
    have HS := Lib.hid (show (fun w_ => w_.heap[K]? = some (.cells (machC c (.slice (some ⟨M, 0, none⟩) m.length m.length) (.slice A out.length d)) 75 (0, 0)) ∧ w_.heap[w1.heap.size]? = some (.cells #[.int .i64 x0, .int .i64 x1, .int .i64 x2, .int .i64 x3, .int .i64 x4] 23 (0, 0))) U from ⟨(HM0.out.below BW.out).mach, FX.out⟩)
    refine hK.out _ _ HS.out (fun _ => ?_)
    clear hK K_
    (try simp only [Act.put, List.getElem_toArray, List.getElem_cons_zero, List.getElem_cons_succ])
    refine wpAnyH_take (i := 12) (v := ?_) rfl (by kernel_rfl) (by kernel_rfl) (by kernel_rfl) (fun _ _ _ h => h) (Or.inl ⟨by rfl, ?_⟩) HS.out ?_
    rotate_left 1
    · intro w_ hSw
      clear hSw
      (go_simp) <;> (with_reducible rfl)
    (try simp only [Act.put, List.getElem_toArray, List.getElem_cons_zero, List.getElem_cons_succ, List.setIfInBounds_toArray, List.set_cons_zero, List.set_cons_succ])
    refine wpAnyH_done (by kernel_rfl) ?_ _
    clear HS
    have m17 := (cell_of_row _ _ 17 _ _ _ FP.out).trans k17.out.1
    have m18 := (cell_of_row _ _ 18 _ _ _ FP.out).trans k17.out.2.1
    go_wp2_with (go_at_call 48; refine (has_no K M m.length _ ad _ (HM0.out.below BW.out).mach (machC_at hl.out).2.1 HA.out).mono ?_; rintro e w' ⟨rfl, rfl⟩)
    go_ret
    exact ⟨rfl, BW.out⟩
  · go_simp
    have FP := Lib.hid (heap_alloc_new W2 (.cells (effC eff0) 40))
    have NZ : w1.heap.size < W2.heap.size := sz
    have b4 := (Below.refl W2.heap.size W2).alloc (Nat.le_refl _) (.cells (effC eff0) 40)
    have szP : W2.heap.size < (W2.alloc (.cells (effC eff0) 40)).heap.size := by simp
    obtain ⟨N, hN⟩ : ∃ y, Hid (W2.heap.size = y) := ⟨_, rfl⟩
    have BWn := Lib.hid (BW.out.trans (b4.mono BW.out.size))
    have FXn := Lib.hid ((b4.block _ sz).trans FX.out)
    have szn : w1.heap.size < (W2.alloc (.cells (effC eff0) 40)).heap.size := Nat.lt_of_lt_of_le sz b4.size
    clear BW FX sz
    have BW := BWn
    have FX := FXn
    have sz := szn
    clear BWn FXn szn
    clear b4
    have HSn := Lib.hid (show (fun w_ => w_.heap[K]? = some (.cells (machC c (.slice (some ⟨M, 0, none⟩) m.length m.length) (.slice A out.length d)) 75 (0, 0)) ∧ w_.heap[w1.heap.size]? = some (.cells #[.int .i64 x0, .int .i64 x1, .int .i64 x2, .int .i64 x3, .int .i64 x4] 23 (0, 0))) (W2.alloc (.cells (effC eff0) 40)) from ⟨(HM0.out.below BW.out).mach, FX.out⟩)
    clear HS
    have HS := HSn
    clear HSn
    refine hK.out _ _ HS.out (fun _ => ?_)
    clear hK K_
    (try simp only [Act.put, List.getElem_toArray, List.getElem_cons_zero, List.getElem_cons_succ, List.setIfInBounds_toArray, List.set_cons_zero, List.set_cons_succ])
    change wpAnyH _ _ _ _ _ _ _ _ (W2.alloc (.cells (effC eff0) 40))
    rw [hN.out] at FP NZ szP ⊢
    clear hN
    obtain ⟨W4, hV⟩ : ∃ V, Hid ((W2.alloc (.cells (effC eff0) 40)) = V) := ⟨_, Lib.hid rfl⟩
    rw [hV.out] at BW FX sz HS FP szP ⊢
    clear hV
    refine wpAnyH_ready (rs := [6]) (by kernel_rfl) (by simp) (AllReadyH.cons (i := 6) rfl (fun K_ hK => ?_) AllReadyH.nil)
    go_simp
    go_at_call 20
    refine (KX.out _).mono ?_
    rintro e w3 ⟨rfl, hb3⟩
    have BWn := Lib.hid (BW.out.trans (hb3.mono BW.out.size))
    have FXn := Lib.hid ((hb3.block _ sz).trans FX.out)
    have szn : w1.heap.size < w3.heap.size := Nat.lt_of_lt_of_le sz hb3.size
    clear BW FX sz
    have BW := BWn
    have FX := FXn
    have sz := szn
    clear BWn FXn szn
    have FPn := Lib.hid ((hb3.block _ szP).trans FP.out)
    have sPn := Nat.lt_of_lt_of_le szP hb3.size
    clear FP szP
    have FP := FPn
    have szP := sPn
    clear FPn sPn
    clear HS hb3 KX
    have HS := Lib.hid (show (fun w_ => w_.heap[K]? = some (.cells (machC c (.slice (some ⟨M, 0, none⟩) m.length m.length) (.slice A out.length d)) 75 (0, 0)) ∧ w_.heap[w1.heap.size]? = some (.cells #[.int .i64 x0, .int .i64 x1, .int .i64 x2, .int .i64 x3, .int .i64 x4] 23 (0, 0))) w3 from ⟨(HM0.out.below BW.out).mach, FX.out⟩)
    refine hK.out _ _ HS.out (fun _ => ?_)
    clear hK K_
    (try simp only [Act.put, List.getElem_toArray, List.getElem_cons_zero, List.getElem_cons_succ, List.setIfInBounds_toArray, List.set_cons_zero, List.set_cons_succ])
    refine wpAnyH_take (i := 7) (v := ?_) rfl (by kernel_rfl) (by kernel_rfl) (by kernel_rfl) (fun _ _ _ h => h) (Or.inl ⟨by rfl, ?_⟩) HS.out ?_
    rotate_left 1
    · intro w_ hSw
      clear hSw
      (go_simp) <;> (with_reducible rfl)
    (try simp only [Act.put, List.getElem_toArray, List.getElem_cons_zero, List.getElem_cons_succ, List.setIfInBounds_toArray, List.set_cons_zero, List.set_cons_succ])
    refine wpAnyH_take (i := 8) (v := ?_) rfl (by kernel_rfl) (by kernel_rfl) (by kernel_rfl) (fun _ _ _ h => h) (Or.inl ⟨by rfl, ?_⟩) HS.out ?_
    rotate_left 1
    · intro w_ hSw
      clear hSw
      (go_simp) <;> (with_reducible rfl)
    (try simp only [Act.put, List.getElem_toArray, List.getElem_cons_zero, List.getElem_cons_succ, List.setIfInBounds_toArray, List.set_cons_zero, List.set_cons_succ])
    refine wpAnyH_take (i := 9) (v := ?_) rfl (by kernel_rfl) (by kernel_rfl) (by kernel_rfl) (fun _ _ _ h => h) (Or.inl ⟨by rfl, ?_⟩) HS.out ?_
    rotate_left 1
    · intro w_ hSw
      clear hSw
      (go_simp) <;> (with_reducible rfl)
    (try simp only [Act.put, List.getElem_toArray, List.getElem_cons_zero, List.getElem_cons_succ, List.setIfInBounds_toArray, List.set_cons_zero, List.set_cons_succ])
    refine wpAnyH_ready (rs := [11]) (by kernel_rfl) (by simp) (AllReadyH.cons (i := 11) rfl (fun K_ hK => ?_) AllReadyH.nil)
    rw [if_pos (by rfl)]
    refine wp_store_all 40 _ _ rfl N _ ps rfl rfl FP.out (by rw [ksz.out]; rfl) (by rw [ksz.out]; kernel_rfl) kone.out ?_
    intro U hU
    have BWn := Lib.hid (BW.out.setC (by omega) hU)
    have FXn := Lib.hid ((hU.block _ (by omega)).trans FX.out)
    have szn : w1.heap.size < U.heap.size := by rw [hU.size]; exact sz
    have FPn := Lib.hid hU.at_
    clear BW FX sz HS FP szP hU
    have FP := FPn
    clear FPn
    have BW := BWn
    have FX := FXn
    have sz := szn
    clear BWn FXn szn
    have HS := Lib.hid (show (fun w_ => w_.heap[K]? = some (.cells (machC c (.slice (some ⟨M, 0, none⟩) m.length m.length) (.slice A out.length d)) 75 (0, 0)) ∧ w_.heap[w1.heap.size]? = some (.cells #[.int .i64 x0, .int .i64 x1, .int .i64 x2, .int .i64 x3, .int .i64 x4] 23 (0, 0))) U from ⟨(HM0.out.below BW.out).mach, FX.out⟩)
    refine hK.out _ _ HS.out (fun _ => ?_)
    clear hK K_
    (try simp only [Act.put, List.getElem_toArray, List.getElem_cons_zero, List.getElem_cons_succ])
    refine wpAnyH_take (i := 12) (v := ?_) rfl (by kernel_rfl) (by kernel_rfl) (by kernel_rfl) (fun _ _ _ h => h) (Or.inl ⟨by rfl, ?_⟩) HS.out ?_
    rotate_left 1
    · intro w_ hSw
      clear hSw
      (go_simp) <;> (with_reducible rfl)
    (try simp only [Act.put, List.getElem_toArray, List.getElem_cons_zero, List.getElem_cons_succ, List.setIfInBounds_toArray, List.set_cons_zero, List.set_cons_succ])
    refine wpAnyH_done (by kernel_rfl) ?_ _
    clear HS
    have m17 := (cell_of_row _ _ 17 _ _ _ FP.out).trans k17.out.1
    have m18 := (cell_of_row _ _ 18 _ _ _ FP.out).trans k17.out.2.1
    go_wp2_with (go_at_call 48; refine (has_no K M m.length _ ad _ (HM0.out.below BW.out).mach (machC_at hl.out).2.1 HA.out).mono ?_; rintro e w' ⟨rfl, rfl⟩)
    go_ret
    exact ⟨rfl, BW.out⟩
set_option maxRecDepth 100000 in
set_option maxHeartbeats 4000000 in
theorem step_ok_n (B K M : Nat) (c : Cpu) (m out : List Int) (A : Option Addr) (d : Nat) (w : World) (hm : Mach B K M c m A d out w) (hc : c.Fits) (p : Nat) (hp : c.pc = p) (hlt : p < m.length) (v : Int) (hvf : I64 v) (hv : m.getD p 0 = v) (x : Ins) (hx : decI v = x) (hd : decE v = 0) (hrb : readsB x = false) (hex : exE x = 0) (hout : out.length ≤ 200000) (hst0 : (exV c x 0).stores = false) : Calls Tryd.prog 45 #[.pointer (some ⟨K, 0, none⟩)] w (DoStep B K M m out (exV c x 0) w) := by
  have hl := Lib.hid hc.len
  have HM0 := Lib.hid hm
  have c16 := (cell_of_row _ _ 16 _ _ _ hm.mach).trans (machC_at hc.len).1
  rw [hp] at c16
  have KW := Lib.hid (word_yes K M m.length p _ v w hm.mach (machC_at hc.len).2.1 hlt ((cell_of_row _ _ p _ _ _ hm.mem).trans ((numsC_at m p hlt).trans (by rw [hv]))))
  have hxf : Ins.Fits x := hx ▸ decI_fits hvf
  obtain ⟨x0, x1, x2, x3, x4⟩ := x
  have hx' := hx
  have KD := Lib.hid (show ∀ W : World, Calls Tryd.prog 12 #[.int .i64 v] W (Gives2 W (insV ⟨x0, x1, x2, x3, x4⟩) (.int .i64 0)) from fun W => by
    have := decode_any v hvf W
    rw [hx', hd] at this
    exact this)
  obtain ⟨cs, hcs⟩ : ∃ y, Hid (cpuC c = y) := ⟨_, rfl⟩
  have gc := Lib.hid (fun (mm oo : Value) => machC_cpu (m := mm) (o := oo) hc.len)
  have ncs := Lib.hid (cpuC_size hc.len)
  obtain ⟨ra, hra⟩ : ∃ y, Hid (readsA c ⟨x0, x1, x2, x3, x4⟩ = y) := ⟨_, rfl⟩
  have KR := Lib.hid (show ∀ W : World, Calls Tryd.prog 18 #[.agg (cpuC c), insV ⟨x0, x1, x2, x3, x4⟩] W (GivesB W ra false) from fun W => by
    have := reads_any c hc ⟨x0, x1, x2, x3, x4⟩ hxf W
    rw [hra.out, hrb] at this
    exact this)
  rw [hcs.out] at gc ncs KR
  have HX := Lib.hid hst0
  clear hst0
  clear hx' hx hd hm hp hv hlt hvf hrb
  obtain ⟨X, hX⟩ : ∃ y, Hid (exV c ⟨x0, x1, x2, x3, x4⟩ 0 = y) := ⟨_, rfl⟩
  have KX := Lib.hid (show ∀ W : World, Calls Tryd.prog 20 #[.agg (cpuC c), insV ⟨x0, x1, x2, x3, x4⟩, .int .i64 0] W (Gives2 W (.agg (effC X)) (.int .i64 0)) from fun W => by
    have := execute_any c hc ⟨x0, x1, x2, x3, x4⟩ hxf 0 W
    rw [hX.out, hex] at this
    exact this)
  have xl := Lib.hid (show X.cpu.r.length = 16 by rw [← hX.out]; exact exV_len c _ 0 hc.len)
  have k17 := Lib.hid (effC_at17 X xl.out)
  have ksz := Lib.hid (effC_size xl.out)
  have kone := Lib.hid (effC_one X)
  rw [hX.out] at HX ⊢
  have KT := Lib.hid (show ∀ W : World, Mach B K M c m A d out W → Calls Tryd.prog 49 #[.pointer (some ⟨K, 0, none⟩), .agg (effC X)] W (Taken B K M m out X W) from fun W h => take_any B K M c m out A d X W h hc.len xl.out (fun h => by rw [HX.out] at h; cases h) hout)
  obtain ⟨st, hst⟩ : ∃ y, Hid (X.stores = y) := ⟨_, rfl⟩
  obtain ⟨ad, had⟩ : ∃ y, Hid (X.addr = y) := ⟨_, rfl⟩
  obtain ⟨ps, hps⟩ : ∃ y, Hid (effC X = y) := ⟨_, rfl⟩
  rw [HX.out] at hst
  have hst2 : st = false := hst.out.symm
  subst hst2
  rw [HX.out, had.out] at k17
  clear hst had HX
  rw [hps.out] at k17 ksz kone KX KT
  rw [hcs.out] at KX
  clear hc hcs hxf hps hX hex hout hra
  go_enter Tryd.func45, Tryd.ntmps45
  go_wp2_with (go_at_call 47; refine (KW.out).mono ?_; rintro e w' ⟨rfl, rfl⟩)
  refine (KD.out _).mono ?_
  rintro e w1 ⟨rfl, hb1⟩
  have FX := Lib.hid (heap_alloc_new w1 (.cells #[.int .i64 x0, .int .i64 x1, .int .i64 x2, .int .i64 x3, .int .i64 x4] 23))
  have BW := Lib.hid (hb1.alloc hb1.size (.cells #[.int .i64 x0, .int .i64 x1, .int .i64 x2, .int .i64 x3, .int .i64 x4] 23))
  have sz : w1.heap.size < (w1.alloc (.cells #[.int .i64 x0, .int .i64 x1, .int .i64 x2, .int .i64 x3, .int .i64 x4] 23)).heap.size := by simp
  have w1z : w.heap.size ≤ w1.heap.size := hb1.size
  clear hb1 c16 KW KD
  go_wp2_with fail
  refine wp_region_held_drew (S := fun w_ => w_.heap[K]? = some (.cells (machC c (.slice (some ⟨M, 0, none⟩) m.length m.length) (.slice A out.length d)) 75 (0, 0)) ∧ w_.heap[w1.heap.size]? = some (.cells #[.int .i64 x0, .int .i64 x1, .int .i64 x2, .int .i64 x3, .int .i64 x4] 23 (0, 0))) (by kernel_rfl) ⟨(HM0.out.below BW.out).mach, FX.out⟩ (fun hHeld => ?_)
  clear hHeld
  have BWn := Lib.hid BW.out.drew
  have FXn := Lib.hid (show (w1.alloc (.cells #[.int .i64 x0, .int .i64 x1, .int .i64 x2, .int .i64 x3, .int .i64 x4] 23)).drew.heap[w1.heap.size]? = _ from FX.out)
  have szn : w1.heap.size < (w1.alloc (.cells #[.int .i64 x0, .int .i64 x1, .int .i64 x2, .int .i64 x3, .int .i64 x4] 23)).drew.heap.size := sz
  clear BW FX sz
  obtain ⟨W1, hV⟩ : ∃ V, Hid ((w1.alloc (.cells #[.int .i64 x0, .int .i64 x1, .int .i64 x2, .int .i64 x3, .int .i64 x4] 23)).drew = V) := ⟨_, Lib.hid rfl⟩
  rw [hV.out] at BWn FXn szn ⊢
  clear hV
  have BW := BWn
  have FX := FXn
  have sz := szn
  clear BWn FXn szn
  have HS := Lib.hid (show (fun w_ => w_.heap[K]? = some (.cells (machC c (.slice (some ⟨M, 0, none⟩) m.length m.length) (.slice A out.length d)) 75 (0, 0)) ∧ w_.heap[w1.heap.size]? = some (.cells #[.int .i64 x0, .int .i64 x1, .int .i64 x2, .int .i64 x3, .int .i64 x4] 23 (0, 0))) W1 from ⟨(HM0.out.below BW.out).mach, FX.out⟩)
  refine wpAnyH_take (i := 0) (v := ?_) rfl (by kernel_rfl) (by kernel_rfl) (by kernel_rfl) (fun _ _ _ h => h) (Or.inl ⟨by rfl, ?_⟩) HS.out ?_
  rotate_left 1
  · intro w_ hSw
    clear hSw
    (go_simp) <;> (with_reducible rfl)
  (try simp only [Act.put, List.getElem_toArray, List.getElem_cons_zero, List.setIfInBounds_toArray, List.set_cons_zero, List.set_cons_succ])
  refine wpAnyH_take (i := 1) (v := ?_) rfl (by kernel_rfl) (by kernel_rfl) (by kernel_rfl) (fun _ _ _ h => h) (Or.inl ⟨by rfl, ?_⟩) HS.out ?_
  rotate_left 1
  · intro w_ hSw
    clear hSw
    (go_simp) <;> (with_reducible rfl)
  (try simp only [Act.put, List.getElem_toArray, List.getElem_cons_zero, List.getElem_cons_succ, List.setIfInBounds_toArray, List.set_cons_zero, List.set_cons_succ])
  refine wpAnyH_take (i := 2) (v := ?_) rfl (by kernel_rfl) (by kernel_rfl) (by kernel_rfl) (fun _ _ _ h => h) (Or.inl ⟨by rfl, ?_⟩) HS.out ?_
  rotate_left 1
  · intro w_ hSw
    clear hSw
    (go_simp) <;> (with_reducible rfl)
  (try simp only [Act.put, List.getElem_toArray, List.getElem_cons_zero, List.getElem_cons_succ, List.setIfInBounds_toArray, List.set_cons_zero, List.set_cons_succ])
  refine wpAnyH_take (i := 3) (v := .agg cs) rfl (by kernel_rfl) (by kernel_rfl) (by kernel_rfl) (fun _ _ _ h => h) (Or.inl ⟨by rfl, fun W_ hW => exec_load_head 35 _ rfl K rfl cs _ (range_of hW.1 (gc.out _ _)) Tryd.underlying35 rfl (by rw [ncs.out]; kernel_rfl)⟩) HS.out ?_
  (try simp only [Act.put, List.getElem_toArray, List.getElem_cons_zero, List.getElem_cons_succ, List.setIfInBounds_toArray, List.set_cons_zero, List.set_cons_succ])
  refine wpAnyH_take (i := 4) (v := .agg #[.int .i64 x0, .int .i64 x1, .int .i64 x2, .int .i64 x3, .int .i64 x4]) rfl (by kernel_rfl) (by kernel_rfl) (by kernel_rfl) (fun _ _ _ h => h) (Or.inl ⟨by rfl, fun W_ hW => exec_load_all 23 _ rfl w1.heap.size #[.int .i64 x0, .int .i64 x1, .int .i64 x2, .int .i64 x3, .int .i64 x4] _ rfl hW.2 Tryd.underlying23 rfl (by kernel_rfl)⟩) HS.out ?_
  (try simp only [Act.put, List.getElem_toArray, List.getElem_cons_zero, List.getElem_cons_succ, List.setIfInBounds_toArray, List.set_cons_zero, List.set_cons_succ])
  refine wpAnyH_ready (rs := [5]) (by kernel_rfl) (by simp) (AllReadyH.cons (i := 5) rfl (fun K_ hK => ?_) AllReadyH.nil)
  go_simp
  go_at_call 18
  refine (KR.out _).mono ?_
  rintro e w2 ⟨rfl, hb2⟩
  have BWn := Lib.hid (BW.out.trans (hb2.mono BW.out.size))
  have FXn := Lib.hid ((hb2.block _ sz).trans FX.out)
  have szn : w1.heap.size < w2.heap.size := Nat.lt_of_lt_of_le sz hb2.size
  clear BW FX sz
  have BW := BWn
  have FX := FXn
  have sz := szn
  clear BWn FXn szn
  clear HS hb2 KR
  have HS := Lib.hid (show (fun w_ => w_.heap[K]? = some (.cells (machC c (.slice (some ⟨M, 0, none⟩) m.length m.length) (.slice A out.length d)) 75 (0, 0)) ∧ w_.heap[w1.heap.size]? = some (.cells #[.int .i64 x0, .int .i64 x1, .int .i64 x2, .int .i64 x3, .int .i64 x4] 23 (0, 0))) w2 from ⟨(HM0.out.below BW.out).mach, FX.out⟩)
  refine hK.out _ _ HS.out (fun _ => ?_)
  clear hK K_
  (try simp only [Act.put, List.getElem_toArray, List.getElem_cons_zero, List.getElem_cons_succ, List.setIfInBounds_toArray, List.set_cons_zero, List.set_cons_succ])
  refine wpAnyH_take (i := 6) (v := ?_) rfl (by kernel_rfl) (by kernel_rfl) (by kernel_rfl) (fun _ _ _ h => h) (Or.inl ⟨by rfl, ?_⟩) HS.out ?_
  rotate_left 1
  · intro w_ hSw
    clear hSw
    (go_simp) <;> (with_reducible rfl)
  (try simp only [Act.put, List.getElem_toArray, List.getElem_cons_zero, List.getElem_cons_succ, List.setIfInBounds_toArray, List.set_cons_zero, List.set_cons_succ])
  refine wpAnyH_take (i := 7) (v := ?_) rfl (by kernel_rfl) (by kernel_rfl) (by kernel_rfl) (fun _ _ _ h => h) (Or.inl ⟨by rfl, ?_⟩) HS.out ?_
  rotate_left 1
  · intro w_ hSw
    clear hSw
    (go_simp) <;> (with_reducible rfl)
  (try simp only [Act.put, List.getElem_toArray, List.getElem_cons_zero, List.getElem_cons_succ, List.setIfInBounds_toArray, List.set_cons_zero, List.set_cons_succ])
  refine wpAnyH_take (i := 8) (v := ?_) rfl (by kernel_rfl) (by kernel_rfl) (by kernel_rfl) (fun _ _ _ h => h) (Or.inl ⟨by rfl, ?_⟩) HS.out ?_
  rotate_left 1
  · intro w_ hSw
    clear hSw
    (go_simp) <;> (with_reducible rfl)
  (try simp only [Act.put, List.getElem_toArray, List.getElem_cons_zero, List.getElem_cons_succ, List.setIfInBounds_toArray, List.set_cons_zero, List.set_cons_succ])
  refine wpAnyH_take (i := 9) (v := ?_) rfl (by kernel_rfl) (by kernel_rfl) (by kernel_rfl) (fun _ _ _ h => h) (Or.inl ⟨by rfl, ?_⟩) HS.out ?_
  rotate_left 1
  · intro w_ hSw
    clear hSw
    (go_simp) <;> (with_reducible rfl)
  (try simp only [Act.put, List.getElem_toArray, List.getElem_cons_zero, List.getElem_cons_succ, List.setIfInBounds_toArray, List.set_cons_zero, List.set_cons_succ])
  refine wpAnyH_take (i := 10) (v := ?_) rfl (by kernel_rfl) (by kernel_rfl) (by kernel_rfl) (fun _ _ _ h => h) (Or.inl ⟨by rfl, ?_⟩) HS.out ?_
  rotate_left 1
  · intro w_ hSw
    clear hSw
    (go_simp) <;> (with_reducible rfl)
  (try simp only [Act.put, List.getElem_toArray, List.getElem_cons_zero, List.getElem_cons_succ, List.setIfInBounds_toArray, List.set_cons_zero, List.set_cons_succ])
  refine wpAnyH_done (by kernel_rfl) ?_ _
  clear HS
  go_wp2_with fail
  refine wp_region_held_drew (S := fun w_ => w_.heap[K]? = some (.cells (machC c (.slice (some ⟨M, 0, none⟩) m.length m.length) (.slice A out.length d)) 75 (0, 0)) ∧ w_.heap[w1.heap.size]? = some (.cells #[.int .i64 x0, .int .i64 x1, .int .i64 x2, .int .i64 x3, .int .i64 x4] 23 (0, 0))) (by kernel_rfl) ⟨(HM0.out.below BW.out).mach, FX.out⟩ (fun hHeld => ?_)
  clear hHeld
  have BWn := Lib.hid BW.out.drew
  have FXn := Lib.hid (show w2.drew.heap[w1.heap.size]? = _ from FX.out)
  have szn : w1.heap.size < w2.drew.heap.size := sz
  clear BW FX sz
  obtain ⟨W2, hV⟩ : ∃ V, Hid (w2.drew = V) := ⟨_, Lib.hid rfl⟩
  rw [hV.out] at BWn FXn szn ⊢
  clear hV
  have BW := BWn
  have FX := FXn
  have sz := szn
  clear BWn FXn szn
  have HS := Lib.hid (show (fun w_ => w_.heap[K]? = some (.cells (machC c (.slice (some ⟨M, 0, none⟩) m.length m.length) (.slice A out.length d)) 75 (0, 0)) ∧ w_.heap[w1.heap.size]? = some (.cells #[.int .i64 x0, .int .i64 x1, .int .i64 x2, .int .i64 x3, .int .i64 x4] 23 (0, 0))) W2 from ⟨(HM0.out.below BW.out).mach, FX.out⟩)
  refine wpAnyH_take (i := 0) (v := ?_) rfl (by kernel_rfl) (by kernel_rfl) (by kernel_rfl) (fun _ _ _ h => h) (Or.inl ⟨by rfl, ?_⟩) HS.out ?_
  rotate_left 1
  · intro w_ hSw
    clear hSw
    (go_simp) <;> (with_reducible rfl)
  (try simp only [Act.put, List.getElem_toArray, List.getElem_cons_zero, List.setIfInBounds_toArray, List.set_cons_zero, List.set_cons_succ])
  refine wpAnyH_take (i := 1) (v := ?_) rfl (by kernel_rfl) (by kernel_rfl) (by kernel_rfl) (fun _ _ _ h => h) (Or.inl ⟨by rfl, ?_⟩) HS.out ?_
  rotate_left 1
  · intro w_ hSw
    clear hSw
    (go_simp) <;> (with_reducible rfl)
  (try simp only [Act.put, List.getElem_toArray, List.getElem_cons_zero, List.getElem_cons_succ, List.setIfInBounds_toArray, List.set_cons_zero, List.set_cons_succ])
  refine wpAnyH_take (i := 2) (v := ?_) rfl (by kernel_rfl) (by kernel_rfl) (by kernel_rfl) (fun _ _ _ h => h) (Or.inl ⟨by rfl, ?_⟩) HS.out ?_
  rotate_left 1
  · intro w_ hSw
    clear hSw
    (go_simp) <;> (with_reducible rfl)
  (try simp only [Act.put, List.getElem_toArray, List.getElem_cons_zero, List.getElem_cons_succ, List.setIfInBounds_toArray, List.set_cons_zero, List.set_cons_succ])
  refine wpAnyH_take (i := 3) (v := .agg cs) rfl (by kernel_rfl) (by kernel_rfl) (by kernel_rfl) (fun _ _ _ h => h) (Or.inl ⟨by rfl, fun W_ hW => exec_load_head 35 _ rfl K rfl cs _ (range_of hW.1 (gc.out _ _)) Tryd.underlying35 rfl (by rw [ncs.out]; kernel_rfl)⟩) HS.out ?_
  (try simp only [Act.put, List.getElem_toArray, List.getElem_cons_zero, List.getElem_cons_succ, List.setIfInBounds_toArray, List.set_cons_zero, List.set_cons_succ])
  refine wpAnyH_take (i := 4) (v := .agg #[.int .i64 x0, .int .i64 x1, .int .i64 x2, .int .i64 x3, .int .i64 x4]) rfl (by kernel_rfl) (by kernel_rfl) (by kernel_rfl) (fun _ _ _ h => h) (Or.inl ⟨by rfl, fun W_ hW => exec_load_all 23 _ rfl w1.heap.size #[.int .i64 x0, .int .i64 x1, .int .i64 x2, .int .i64 x3, .int .i64 x4] _ rfl hW.2 Tryd.underlying23 rfl (by kernel_rfl)⟩) HS.out ?_
  (try simp only [Act.put, List.getElem_toArray, List.getElem_cons_zero, List.getElem_cons_succ, List.setIfInBounds_toArray, List.set_cons_zero, List.set_cons_succ])
  refine wpAnyH_take (i := 5) (v := ?_) rfl (by kernel_rfl) (by kernel_rfl) (by kernel_rfl) (fun _ _ _ h => h) (Or.inl ⟨by rfl, ?_⟩) HS.out ?_
  rotate_left 1
  · intro w_ hSw
    clear hSw
    (go_simp) <;> (with_reducible rfl)
  (try simp only [Act.put, List.getElem_toArray, List.getElem_cons_zero, List.getElem_cons_succ, List.setIfInBounds_toArray, List.set_cons_zero, List.set_cons_succ])
  refine wpAnyH_ready (rs := [6, 10]) (by kernel_rfl) (by simp) (AllReadyH.cons (i := 6) rfl (fun K_ hK => ?_) (AllReadyH.cons (i := 10) rfl (fun K_ hK => ?_) AllReadyH.nil))
  · go_simp
    go_at_call 20
    refine (KX.out _).mono ?_
    rintro e w3 ⟨rfl, hb3⟩
    have BWn := Lib.hid (BW.out.trans (hb3.mono BW.out.size))
    have FXn := Lib.hid ((hb3.block _ sz).trans FX.out)
    have szn : w1.heap.size < w3.heap.size := Nat.lt_of_lt_of_le sz hb3.size
    clear BW FX sz
    have BW := BWn
    have FX := FXn
    have sz := szn
    clear BWn FXn szn
    clear HS hb3 KX
    have HS := Lib.hid (show (fun w_ => w_.heap[K]? = some (.cells (machC c (.slice (some ⟨M, 0, none⟩) m.length m.length) (.slice A out.length d)) 75 (0, 0)) ∧ w_.heap[w1.heap.size]? = some (.cells #[.int .i64 x0, .int .i64 x1, .int .i64 x2, .int .i64 x3, .int .i64 x4] 23 (0, 0))) w3 from ⟨(HM0.out.below BW.out).mach, FX.out⟩)
    refine hK.out _ _ HS.out (fun _ => ?_)
    clear hK K_
    (try simp only [Act.put, List.getElem_toArray, List.getElem_cons_zero, List.getElem_cons_succ, List.setIfInBounds_toArray, List.set_cons_zero, List.set_cons_succ])
    refine wpAnyH_take (i := 7) (v := ?_) rfl (by kernel_rfl) (by kernel_rfl) (by kernel_rfl) (fun _ _ _ h => h) (Or.inl ⟨by rfl, ?_⟩) HS.out ?_
    rotate_left 1
    · intro w_ hSw
      clear hSw
      (go_simp) <;> (with_reducible rfl)
    (try simp only [Act.put, List.getElem_toArray, List.getElem_cons_zero, List.getElem_cons_succ, List.setIfInBounds_toArray, List.set_cons_zero, List.set_cons_succ])
    refine wpAnyH_take (i := 8) (v := ?_) rfl (by kernel_rfl) (by kernel_rfl) (by kernel_rfl) (fun _ _ _ h => h) (Or.inl ⟨by rfl, ?_⟩) HS.out ?_
    rotate_left 1
    · intro w_ hSw
      clear hSw
      (go_simp) <;> (with_reducible rfl)
    (try simp only [Act.put, List.getElem_toArray, List.getElem_cons_zero, List.getElem_cons_succ, List.setIfInBounds_toArray, List.set_cons_zero, List.set_cons_succ])
    refine wpAnyH_take (i := 9) (v := ?_) rfl (by kernel_rfl) (by kernel_rfl) (by kernel_rfl) (fun _ _ _ h => h) (Or.inl ⟨by rfl, ?_⟩) HS.out ?_
    rotate_left 1
    · intro w_ hSw
      clear hSw
      (go_simp) <;> (with_reducible rfl)
    (try simp only [Act.put, List.getElem_toArray, List.getElem_cons_zero, List.getElem_cons_succ, List.setIfInBounds_toArray, List.set_cons_zero, List.set_cons_succ])
    refine wpAnyH_ready (rs := [10]) (by kernel_rfl) (by simp) (AllReadyH.cons (i := 10) rfl (fun K_ hK => ?_) AllReadyH.nil)
    go_simp
    have FP := Lib.hid (heap_alloc_new w3 (.cells (effC eff0) 40))
    have NZ : w1.heap.size < w3.heap.size := sz
    have b4 := (Below.refl w3.heap.size w3).alloc (Nat.le_refl _) (.cells (effC eff0) 40)
    have szP : w3.heap.size < (w3.alloc (.cells (effC eff0) 40)).heap.size := by simp
    obtain ⟨N, hN⟩ : ∃ y, Hid (w3.heap.size = y) := ⟨_, rfl⟩
    have BWn := Lib.hid (BW.out.trans (b4.mono BW.out.size))
    have FXn := Lib.hid ((b4.block _ sz).trans FX.out)
    have szn : w1.heap.size < (w3.alloc (.cells (effC eff0) 40)).heap.size := Nat.lt_of_lt_of_le sz b4.size
    clear BW FX sz
    have BW := BWn
    have FX := FXn
    have sz := szn
    clear BWn FXn szn
    clear b4
    have HSn := Lib.hid (show (fun w_ => w_.heap[K]? = some (.cells (machC c (.slice (some ⟨M, 0, none⟩) m.length m.length) (.slice A out.length d)) 75 (0, 0)) ∧ w_.heap[w1.heap.size]? = some (.cells #[.int .i64 x0, .int .i64 x1, .int .i64 x2, .int .i64 x3, .int .i64 x4] 23 (0, 0))) (w3.alloc (.cells (effC eff0) 40)) from ⟨(HM0.out.below BW.out).mach, FX.out⟩)
    clear HS
    have HS := HSn
    clear HSn
    refine hK.out _ _ HS.out (fun _ => ?_)
    clear hK K_
    (try simp only [Act.put, List.getElem_toArray, List.getElem_cons_zero, List.getElem_cons_succ, List.setIfInBounds_toArray, List.set_cons_zero, List.set_cons_succ])
    change wpAnyH _ _ _ _ _ _ _ _ (w3.alloc (.cells (effC eff0) 40))
    rw [hN.out] at FP NZ szP ⊢
    clear hN
    obtain ⟨W4, hV⟩ : ∃ V, Hid ((w3.alloc (.cells (effC eff0) 40)) = V) := ⟨_, Lib.hid rfl⟩
    rw [hV.out] at BW FX sz HS FP szP ⊢
    clear hV
    refine wpAnyH_ready (rs := [11]) (by kernel_rfl) (by simp) (AllReadyH.cons (i := 11) rfl (fun K_ hK => ?_) AllReadyH.nil)
    rw [if_pos (by rfl)]
    refine wp_store_all 40 _ _ rfl N _ ps rfl rfl FP.out (by rw [ksz.out]; rfl) (by rw [ksz.out]; kernel_rfl) kone.out ?_
    intro U hU
    have BWn := Lib.hid (BW.out.setC (by omega) hU)
    have FXn := Lib.hid ((hU.block _ (by omega)).trans FX.out)
    have szn : w1.heap.size < U.heap.size := by rw [hU.size]; exact sz
    have FPn := Lib.hid hU.at_
    clear BW FX sz HS FP szP hU
    have FP := FPn
    clear FPn
    have BW := BWn
    have FX := FXn
    have sz := szn
    clear BWn FXn szn
    have HS := Lib.hid (show (fun w_ => w_.heap[K]? = some (.cells (machC c (.slice (some ⟨M, 0, none⟩) m.length m.length) (.slice A out.length d)) 75 (0, 0)) ∧ w_.heap[w1.heap.size]? = some (.cells #[.int .i64 x0, .int .i64 x1, .int .i64 x2, .int .i64 x3, .int .i64 x4] 23 (0, 0))) U from ⟨(HM0.out.below BW.out).mach, FX.out⟩)
    refine hK.out _ _ HS.out (fun _ => ?_)
    clear hK K_
    (try simp only [Act.put, List.getElem_toArray, List.getElem_cons_zero, List.getElem_cons_succ])
    refine wpAnyH_take (i := 12) (v := ?_) rfl (by kernel_rfl) (by kernel_rfl) (by kernel_rfl) (fun _ _ _ h => h) (Or.inl ⟨by rfl, ?_⟩) HS.out ?_
    rotate_left 1
    · intro w_ hSw
      clear hSw
      (go_simp) <;> (with_reducible rfl)
    (try simp only [Act.put, List.getElem_toArray, List.getElem_cons_zero, List.getElem_cons_succ, List.setIfInBounds_toArray, List.set_cons_zero, List.set_cons_succ])
    refine wpAnyH_done (by kernel_rfl) ?_ _
    clear HS
    have m17 := (cell_of_row _ _ 17 _ _ _ FP.out).trans k17.out.1
    have m18 := (cell_of_row _ _ 18 _ _ _ FP.out).trans k17.out.2.1
    go_wp2_with (first | ((with_reducible show wpList _ _ _ (Oper.mk _ (Op.load 40 _) _ _ _ none :: _) _ _); refine wpList_load_all rfl 40 _ rfl N _ _ rfl FP.out Tryd.underlying40 rfl (by rw [ksz.out]; kernel_rfl) ?_))
    refine (KT.out _ (HM0.out.below BW.out)).mono ?_
    intro e w4 ht
    unfold Taken at ht
    obtain ⟨rfl, hma, hoth⟩ := ht
    go_wp2_with fail
    go_ret
    unfold DoStep
    exact ⟨rfl, hma, (Others.of_below HM0.out.size BW.out).trans hoth⟩
  · go_simp
    have FP := Lib.hid (heap_alloc_new W2 (.cells (effC eff0) 40))
    have NZ : w1.heap.size < W2.heap.size := sz
    have b4 := (Below.refl W2.heap.size W2).alloc (Nat.le_refl _) (.cells (effC eff0) 40)
    have szP : W2.heap.size < (W2.alloc (.cells (effC eff0) 40)).heap.size := by simp
    obtain ⟨N, hN⟩ : ∃ y, Hid (W2.heap.size = y) := ⟨_, rfl⟩
    have BWn := Lib.hid (BW.out.trans (b4.mono BW.out.size))
    have FXn := Lib.hid ((b4.block _ sz).trans FX.out)
    have szn : w1.heap.size < (W2.alloc (.cells (effC eff0) 40)).heap.size := Nat.lt_of_lt_of_le sz b4.size
    clear BW FX sz
    have BW := BWn
    have FX := FXn
    have sz := szn
    clear BWn FXn szn
    clear b4
    have HSn := Lib.hid (show (fun w_ => w_.heap[K]? = some (.cells (machC c (.slice (some ⟨M, 0, none⟩) m.length m.length) (.slice A out.length d)) 75 (0, 0)) ∧ w_.heap[w1.heap.size]? = some (.cells #[.int .i64 x0, .int .i64 x1, .int .i64 x2, .int .i64 x3, .int .i64 x4] 23 (0, 0))) (W2.alloc (.cells (effC eff0) 40)) from ⟨(HM0.out.below BW.out).mach, FX.out⟩)
    clear HS
    have HS := HSn
    clear HSn
    refine hK.out _ _ HS.out (fun _ => ?_)
    clear hK K_
    (try simp only [Act.put, List.getElem_toArray, List.getElem_cons_zero, List.getElem_cons_succ, List.setIfInBounds_toArray, List.set_cons_zero, List.set_cons_succ])
    change wpAnyH _ _ _ _ _ _ _ _ (W2.alloc (.cells (effC eff0) 40))
    rw [hN.out] at FP NZ szP ⊢
    clear hN
    obtain ⟨W4, hV⟩ : ∃ V, Hid ((W2.alloc (.cells (effC eff0) 40)) = V) := ⟨_, Lib.hid rfl⟩
    rw [hV.out] at BW FX sz HS FP szP ⊢
    clear hV
    refine wpAnyH_ready (rs := [6]) (by kernel_rfl) (by simp) (AllReadyH.cons (i := 6) rfl (fun K_ hK => ?_) AllReadyH.nil)
    go_simp
    go_at_call 20
    refine (KX.out _).mono ?_
    rintro e w3 ⟨rfl, hb3⟩
    have BWn := Lib.hid (BW.out.trans (hb3.mono BW.out.size))
    have FXn := Lib.hid ((hb3.block _ sz).trans FX.out)
    have szn : w1.heap.size < w3.heap.size := Nat.lt_of_lt_of_le sz hb3.size
    clear BW FX sz
    have BW := BWn
    have FX := FXn
    have sz := szn
    clear BWn FXn szn
    have FPn := Lib.hid ((hb3.block _ szP).trans FP.out)
    have sPn := Nat.lt_of_lt_of_le szP hb3.size
    clear FP szP
    have FP := FPn
    have szP := sPn
    clear FPn sPn
    clear HS hb3 KX
    have HS := Lib.hid (show (fun w_ => w_.heap[K]? = some (.cells (machC c (.slice (some ⟨M, 0, none⟩) m.length m.length) (.slice A out.length d)) 75 (0, 0)) ∧ w_.heap[w1.heap.size]? = some (.cells #[.int .i64 x0, .int .i64 x1, .int .i64 x2, .int .i64 x3, .int .i64 x4] 23 (0, 0))) w3 from ⟨(HM0.out.below BW.out).mach, FX.out⟩)
    refine hK.out _ _ HS.out (fun _ => ?_)
    clear hK K_
    (try simp only [Act.put, List.getElem_toArray, List.getElem_cons_zero, List.getElem_cons_succ, List.setIfInBounds_toArray, List.set_cons_zero, List.set_cons_succ])
    refine wpAnyH_take (i := 7) (v := ?_) rfl (by kernel_rfl) (by kernel_rfl) (by kernel_rfl) (fun _ _ _ h => h) (Or.inl ⟨by rfl, ?_⟩) HS.out ?_
    rotate_left 1
    · intro w_ hSw
      clear hSw
      (go_simp) <;> (with_reducible rfl)
    (try simp only [Act.put, List.getElem_toArray, List.getElem_cons_zero, List.getElem_cons_succ, List.setIfInBounds_toArray, List.set_cons_zero, List.set_cons_succ])
    refine wpAnyH_take (i := 8) (v := ?_) rfl (by kernel_rfl) (by kernel_rfl) (by kernel_rfl) (fun _ _ _ h => h) (Or.inl ⟨by rfl, ?_⟩) HS.out ?_
    rotate_left 1
    · intro w_ hSw
      clear hSw
      (go_simp) <;> (with_reducible rfl)
    (try simp only [Act.put, List.getElem_toArray, List.getElem_cons_zero, List.getElem_cons_succ, List.setIfInBounds_toArray, List.set_cons_zero, List.set_cons_succ])
    refine wpAnyH_take (i := 9) (v := ?_) rfl (by kernel_rfl) (by kernel_rfl) (by kernel_rfl) (fun _ _ _ h => h) (Or.inl ⟨by rfl, ?_⟩) HS.out ?_
    rotate_left 1
    · intro w_ hSw
      clear hSw
      (go_simp) <;> (with_reducible rfl)
    (try simp only [Act.put, List.getElem_toArray, List.getElem_cons_zero, List.getElem_cons_succ, List.setIfInBounds_toArray, List.set_cons_zero, List.set_cons_succ])
    refine wpAnyH_ready (rs := [11]) (by kernel_rfl) (by simp) (AllReadyH.cons (i := 11) rfl (fun K_ hK => ?_) AllReadyH.nil)
    rw [if_pos (by rfl)]
    refine wp_store_all 40 _ _ rfl N _ ps rfl rfl FP.out (by rw [ksz.out]; rfl) (by rw [ksz.out]; kernel_rfl) kone.out ?_
    intro U hU
    have BWn := Lib.hid (BW.out.setC (by omega) hU)
    have FXn := Lib.hid ((hU.block _ (by omega)).trans FX.out)
    have szn : w1.heap.size < U.heap.size := by rw [hU.size]; exact sz
    have FPn := Lib.hid hU.at_
    clear BW FX sz HS FP szP hU
    have FP := FPn
    clear FPn
    have BW := BWn
    have FX := FXn
    have sz := szn
    clear BWn FXn szn
    have HS := Lib.hid (show (fun w_ => w_.heap[K]? = some (.cells (machC c (.slice (some ⟨M, 0, none⟩) m.length m.length) (.slice A out.length d)) 75 (0, 0)) ∧ w_.heap[w1.heap.size]? = some (.cells #[.int .i64 x0, .int .i64 x1, .int .i64 x2, .int .i64 x3, .int .i64 x4] 23 (0, 0))) U from ⟨(HM0.out.below BW.out).mach, FX.out⟩)
    refine hK.out _ _ HS.out (fun _ => ?_)
    clear hK K_
    (try simp only [Act.put, List.getElem_toArray, List.getElem_cons_zero, List.getElem_cons_succ])
    refine wpAnyH_take (i := 12) (v := ?_) rfl (by kernel_rfl) (by kernel_rfl) (by kernel_rfl) (fun _ _ _ h => h) (Or.inl ⟨by rfl, ?_⟩) HS.out ?_
    rotate_left 1
    · intro w_ hSw
      clear hSw
      (go_simp) <;> (with_reducible rfl)
    (try simp only [Act.put, List.getElem_toArray, List.getElem_cons_zero, List.getElem_cons_succ, List.setIfInBounds_toArray, List.set_cons_zero, List.set_cons_succ])
    refine wpAnyH_done (by kernel_rfl) ?_ _
    clear HS
    have m17 := (cell_of_row _ _ 17 _ _ _ FP.out).trans k17.out.1
    have m18 := (cell_of_row _ _ 18 _ _ _ FP.out).trans k17.out.2.1
    go_wp2_with (first | ((with_reducible show wpList _ _ _ (Oper.mk _ (Op.load 40 _) _ _ _ none :: _) _ _); refine wpList_load_all rfl 40 _ rfl N _ _ rfl FP.out Tryd.underlying40 rfl (by rw [ksz.out]; kernel_rfl) ?_))
    refine (KT.out _ (HM0.out.below BW.out)).mono ?_
    intro e w4 ht
    unfold Taken at ht
    obtain ⟨rfl, hma, hoth⟩ := ht
    go_wp2_with fail
    go_ret
    unfold DoStep
    exact ⟨rfl, hma, (Others.of_below HM0.out.size BW.out).trans hoth⟩
set_option maxRecDepth 100000 in
set_option maxHeartbeats 4000000 in
theorem step_set_n (B K M : Nat) (c : Cpu) (m out : List Int) (A : Option Addr) (d : Nat) (w : World) (hm : Mach B K M c m A d out w) (hc : c.Fits) (p : Nat) (hp : c.pc = p) (hlt : p < m.length) (v : Int) (hvf : I64 v) (hv : m.getD p 0 = v) (x : Ins) (hx : decI v = x) (hd : decE v = 0) (hrb : readsB x = false) (hex : exE x = 0) (hout : out.length ≤ 200000) (hst0 : (exV c x 0).stores = true) (ha0 : 0 ≤ (exV c x 0).addr) (ha1 : (exV c x 0).addr < m.length) : Calls Tryd.prog 45 #[.pointer (some ⟨K, 0, none⟩)] w (DoStep B K M m out (exV c x 0) w) := by
  have hl := Lib.hid hc.len
  have HM0 := Lib.hid hm
  have c16 := (cell_of_row _ _ 16 _ _ _ hm.mach).trans (machC_at hc.len).1
  rw [hp] at c16
  have KW := Lib.hid (word_yes K M m.length p _ v w hm.mach (machC_at hc.len).2.1 hlt ((cell_of_row _ _ p _ _ _ hm.mem).trans ((numsC_at m p hlt).trans (by rw [hv]))))
  have hxf : Ins.Fits x := hx ▸ decI_fits hvf
  obtain ⟨x0, x1, x2, x3, x4⟩ := x
  have hx' := hx
  have KD := Lib.hid (show ∀ W : World, Calls Tryd.prog 12 #[.int .i64 v] W (Gives2 W (insV ⟨x0, x1, x2, x3, x4⟩) (.int .i64 0)) from fun W => by
    have := decode_any v hvf W
    rw [hx', hd] at this
    exact this)
  obtain ⟨cs, hcs⟩ : ∃ y, Hid (cpuC c = y) := ⟨_, rfl⟩
  have gc := Lib.hid (fun (mm oo : Value) => machC_cpu (m := mm) (o := oo) hc.len)
  have ncs := Lib.hid (cpuC_size hc.len)
  obtain ⟨ra, hra⟩ : ∃ y, Hid (readsA c ⟨x0, x1, x2, x3, x4⟩ = y) := ⟨_, rfl⟩
  have KR := Lib.hid (show ∀ W : World, Calls Tryd.prog 18 #[.agg (cpuC c), insV ⟨x0, x1, x2, x3, x4⟩] W (GivesB W ra false) from fun W => by
    have := reads_any c hc ⟨x0, x1, x2, x3, x4⟩ hxf W
    rw [hra.out, hrb] at this
    exact this)
  rw [hcs.out] at gc ncs KR
  have HX := Lib.hid (And.intro hst0 (And.intro ha0 ha1))
  clear hst0 ha0 ha1
  clear hx' hx hd hm hp hv hlt hvf hrb
  obtain ⟨X, hX⟩ : ∃ y, Hid (exV c ⟨x0, x1, x2, x3, x4⟩ 0 = y) := ⟨_, rfl⟩
  have KX := Lib.hid (show ∀ W : World, Calls Tryd.prog 20 #[.agg (cpuC c), insV ⟨x0, x1, x2, x3, x4⟩, .int .i64 0] W (Gives2 W (.agg (effC X)) (.int .i64 0)) from fun W => by
    have := execute_any c hc ⟨x0, x1, x2, x3, x4⟩ hxf 0 W
    rw [hX.out, hex] at this
    exact this)
  have xl := Lib.hid (show X.cpu.r.length = 16 by rw [← hX.out]; exact exV_len c _ 0 hc.len)
  have k17 := Lib.hid (effC_at17 X xl.out)
  have ksz := Lib.hid (effC_size xl.out)
  have kone := Lib.hid (effC_one X)
  rw [hX.out] at HX ⊢
  have KT := Lib.hid (show ∀ W : World, Mach B K M c m A d out W → Calls Tryd.prog 49 #[.pointer (some ⟨K, 0, none⟩), .agg (effC X)] W (Taken B K M m out X W) from fun W h => take_any B K M c m out A d X W h hc.len xl.out (fun _ => HX.out.2) hout)
  obtain ⟨st, hst⟩ : ∃ y, Hid (X.stores = y) := ⟨_, rfl⟩
  obtain ⟨ad, had⟩ : ∃ y, Hid (X.addr = y) := ⟨_, rfl⟩
  obtain ⟨ps, hps⟩ : ∃ y, Hid (effC X = y) := ⟨_, rfl⟩
  rw [HX.out.1] at hst
  have hst2 : st = true := hst.out.symm
  subst hst2
  have HA := Lib.hid HX.out.2
  rw [had.out] at HA
  rw [HX.out.1, had.out] at k17
  clear hst had HX
  rw [hps.out] at k17 ksz kone KX KT
  rw [hcs.out] at KX
  clear hc hcs hxf hps hX hex hout hra
  go_enter Tryd.func45, Tryd.ntmps45
  go_wp2_with (go_at_call 47; refine (KW.out).mono ?_; rintro e w' ⟨rfl, rfl⟩)
  refine (KD.out _).mono ?_
  rintro e w1 ⟨rfl, hb1⟩
  have FX := Lib.hid (heap_alloc_new w1 (.cells #[.int .i64 x0, .int .i64 x1, .int .i64 x2, .int .i64 x3, .int .i64 x4] 23))
  have BW := Lib.hid (hb1.alloc hb1.size (.cells #[.int .i64 x0, .int .i64 x1, .int .i64 x2, .int .i64 x3, .int .i64 x4] 23))
  have sz : w1.heap.size < (w1.alloc (.cells #[.int .i64 x0, .int .i64 x1, .int .i64 x2, .int .i64 x3, .int .i64 x4] 23)).heap.size := by simp
  have w1z : w.heap.size ≤ w1.heap.size := hb1.size
  clear hb1 c16 KW KD
  go_wp2_with fail
  refine wp_region_held_drew (S := fun w_ => w_.heap[K]? = some (.cells (machC c (.slice (some ⟨M, 0, none⟩) m.length m.length) (.slice A out.length d)) 75 (0, 0)) ∧ w_.heap[w1.heap.size]? = some (.cells #[.int .i64 x0, .int .i64 x1, .int .i64 x2, .int .i64 x3, .int .i64 x4] 23 (0, 0))) (by kernel_rfl) ⟨(HM0.out.below BW.out).mach, FX.out⟩ (fun hHeld => ?_)
  clear hHeld
  have BWn := Lib.hid BW.out.drew
  have FXn := Lib.hid (show (w1.alloc (.cells #[.int .i64 x0, .int .i64 x1, .int .i64 x2, .int .i64 x3, .int .i64 x4] 23)).drew.heap[w1.heap.size]? = _ from FX.out)
  have szn : w1.heap.size < (w1.alloc (.cells #[.int .i64 x0, .int .i64 x1, .int .i64 x2, .int .i64 x3, .int .i64 x4] 23)).drew.heap.size := sz
  clear BW FX sz
  obtain ⟨W1, hV⟩ : ∃ V, Hid ((w1.alloc (.cells #[.int .i64 x0, .int .i64 x1, .int .i64 x2, .int .i64 x3, .int .i64 x4] 23)).drew = V) := ⟨_, Lib.hid rfl⟩
  rw [hV.out] at BWn FXn szn ⊢
  clear hV
  have BW := BWn
  have FX := FXn
  have sz := szn
  clear BWn FXn szn
  have HS := Lib.hid (show (fun w_ => w_.heap[K]? = some (.cells (machC c (.slice (some ⟨M, 0, none⟩) m.length m.length) (.slice A out.length d)) 75 (0, 0)) ∧ w_.heap[w1.heap.size]? = some (.cells #[.int .i64 x0, .int .i64 x1, .int .i64 x2, .int .i64 x3, .int .i64 x4] 23 (0, 0))) W1 from ⟨(HM0.out.below BW.out).mach, FX.out⟩)
  refine wpAnyH_take (i := 0) (v := ?_) rfl (by kernel_rfl) (by kernel_rfl) (by kernel_rfl) (fun _ _ _ h => h) (Or.inl ⟨by rfl, ?_⟩) HS.out ?_
  rotate_left 1
  · intro w_ hSw
    clear hSw
    (go_simp) <;> (with_reducible rfl)
  (try simp only [Act.put, List.getElem_toArray, List.getElem_cons_zero, List.setIfInBounds_toArray, List.set_cons_zero, List.set_cons_succ])
  refine wpAnyH_take (i := 1) (v := ?_) rfl (by kernel_rfl) (by kernel_rfl) (by kernel_rfl) (fun _ _ _ h => h) (Or.inl ⟨by rfl, ?_⟩) HS.out ?_
  rotate_left 1
  · intro w_ hSw
    clear hSw
    (go_simp) <;> (with_reducible rfl)
  (try simp only [Act.put, List.getElem_toArray, List.getElem_cons_zero, List.getElem_cons_succ, List.setIfInBounds_toArray, List.set_cons_zero, List.set_cons_succ])
  refine wpAnyH_take (i := 2) (v := ?_) rfl (by kernel_rfl) (by kernel_rfl) (by kernel_rfl) (fun _ _ _ h => h) (Or.inl ⟨by rfl, ?_⟩) HS.out ?_
  rotate_left 1
  · intro w_ hSw
    clear hSw
    (go_simp) <;> (with_reducible rfl)
  (try simp only [Act.put, List.getElem_toArray, List.getElem_cons_zero, List.getElem_cons_succ, List.setIfInBounds_toArray, List.set_cons_zero, List.set_cons_succ])
  refine wpAnyH_take (i := 3) (v := .agg cs) rfl (by kernel_rfl) (by kernel_rfl) (by kernel_rfl) (fun _ _ _ h => h) (Or.inl ⟨by rfl, fun W_ hW => exec_load_head 35 _ rfl K rfl cs _ (range_of hW.1 (gc.out _ _)) Tryd.underlying35 rfl (by rw [ncs.out]; kernel_rfl)⟩) HS.out ?_
  (try simp only [Act.put, List.getElem_toArray, List.getElem_cons_zero, List.getElem_cons_succ, List.setIfInBounds_toArray, List.set_cons_zero, List.set_cons_succ])
  refine wpAnyH_take (i := 4) (v := .agg #[.int .i64 x0, .int .i64 x1, .int .i64 x2, .int .i64 x3, .int .i64 x4]) rfl (by kernel_rfl) (by kernel_rfl) (by kernel_rfl) (fun _ _ _ h => h) (Or.inl ⟨by rfl, fun W_ hW => exec_load_all 23 _ rfl w1.heap.size #[.int .i64 x0, .int .i64 x1, .int .i64 x2, .int .i64 x3, .int .i64 x4] _ rfl hW.2 Tryd.underlying23 rfl (by kernel_rfl)⟩) HS.out ?_
  (try simp only [Act.put, List.getElem_toArray, List.getElem_cons_zero, List.getElem_cons_succ, List.setIfInBounds_toArray, List.set_cons_zero, List.set_cons_succ])
  refine wpAnyH_ready (rs := [5]) (by kernel_rfl) (by simp) (AllReadyH.cons (i := 5) rfl (fun K_ hK => ?_) AllReadyH.nil)
  go_simp
  go_at_call 18
  refine (KR.out _).mono ?_
  rintro e w2 ⟨rfl, hb2⟩
  have BWn := Lib.hid (BW.out.trans (hb2.mono BW.out.size))
  have FXn := Lib.hid ((hb2.block _ sz).trans FX.out)
  have szn : w1.heap.size < w2.heap.size := Nat.lt_of_lt_of_le sz hb2.size
  clear BW FX sz
  have BW := BWn
  have FX := FXn
  have sz := szn
  clear BWn FXn szn
  clear HS hb2 KR
  have HS := Lib.hid (show (fun w_ => w_.heap[K]? = some (.cells (machC c (.slice (some ⟨M, 0, none⟩) m.length m.length) (.slice A out.length d)) 75 (0, 0)) ∧ w_.heap[w1.heap.size]? = some (.cells #[.int .i64 x0, .int .i64 x1, .int .i64 x2, .int .i64 x3, .int .i64 x4] 23 (0, 0))) w2 from ⟨(HM0.out.below BW.out).mach, FX.out⟩)
  refine hK.out _ _ HS.out (fun _ => ?_)
  clear hK K_
  (try simp only [Act.put, List.getElem_toArray, List.getElem_cons_zero, List.getElem_cons_succ, List.setIfInBounds_toArray, List.set_cons_zero, List.set_cons_succ])
  refine wpAnyH_take (i := 6) (v := ?_) rfl (by kernel_rfl) (by kernel_rfl) (by kernel_rfl) (fun _ _ _ h => h) (Or.inl ⟨by rfl, ?_⟩) HS.out ?_
  rotate_left 1
  · intro w_ hSw
    clear hSw
    (go_simp) <;> (with_reducible rfl)
  (try simp only [Act.put, List.getElem_toArray, List.getElem_cons_zero, List.getElem_cons_succ, List.setIfInBounds_toArray, List.set_cons_zero, List.set_cons_succ])
  refine wpAnyH_take (i := 7) (v := ?_) rfl (by kernel_rfl) (by kernel_rfl) (by kernel_rfl) (fun _ _ _ h => h) (Or.inl ⟨by rfl, ?_⟩) HS.out ?_
  rotate_left 1
  · intro w_ hSw
    clear hSw
    (go_simp) <;> (with_reducible rfl)
  (try simp only [Act.put, List.getElem_toArray, List.getElem_cons_zero, List.getElem_cons_succ, List.setIfInBounds_toArray, List.set_cons_zero, List.set_cons_succ])
  refine wpAnyH_take (i := 8) (v := ?_) rfl (by kernel_rfl) (by kernel_rfl) (by kernel_rfl) (fun _ _ _ h => h) (Or.inl ⟨by rfl, ?_⟩) HS.out ?_
  rotate_left 1
  · intro w_ hSw
    clear hSw
    (go_simp) <;> (with_reducible rfl)
  (try simp only [Act.put, List.getElem_toArray, List.getElem_cons_zero, List.getElem_cons_succ, List.setIfInBounds_toArray, List.set_cons_zero, List.set_cons_succ])
  refine wpAnyH_take (i := 9) (v := ?_) rfl (by kernel_rfl) (by kernel_rfl) (by kernel_rfl) (fun _ _ _ h => h) (Or.inl ⟨by rfl, ?_⟩) HS.out ?_
  rotate_left 1
  · intro w_ hSw
    clear hSw
    (go_simp) <;> (with_reducible rfl)
  (try simp only [Act.put, List.getElem_toArray, List.getElem_cons_zero, List.getElem_cons_succ, List.setIfInBounds_toArray, List.set_cons_zero, List.set_cons_succ])
  refine wpAnyH_take (i := 10) (v := ?_) rfl (by kernel_rfl) (by kernel_rfl) (by kernel_rfl) (fun _ _ _ h => h) (Or.inl ⟨by rfl, ?_⟩) HS.out ?_
  rotate_left 1
  · intro w_ hSw
    clear hSw
    (go_simp) <;> (with_reducible rfl)
  (try simp only [Act.put, List.getElem_toArray, List.getElem_cons_zero, List.getElem_cons_succ, List.setIfInBounds_toArray, List.set_cons_zero, List.set_cons_succ])
  refine wpAnyH_done (by kernel_rfl) ?_ _
  clear HS
  go_wp2_with fail
  refine wp_region_held_drew (S := fun w_ => w_.heap[K]? = some (.cells (machC c (.slice (some ⟨M, 0, none⟩) m.length m.length) (.slice A out.length d)) 75 (0, 0)) ∧ w_.heap[w1.heap.size]? = some (.cells #[.int .i64 x0, .int .i64 x1, .int .i64 x2, .int .i64 x3, .int .i64 x4] 23 (0, 0))) (by kernel_rfl) ⟨(HM0.out.below BW.out).mach, FX.out⟩ (fun hHeld => ?_)
  clear hHeld
  have BWn := Lib.hid BW.out.drew
  have FXn := Lib.hid (show w2.drew.heap[w1.heap.size]? = _ from FX.out)
  have szn : w1.heap.size < w2.drew.heap.size := sz
  clear BW FX sz
  obtain ⟨W2, hV⟩ : ∃ V, Hid (w2.drew = V) := ⟨_, Lib.hid rfl⟩
  rw [hV.out] at BWn FXn szn ⊢
  clear hV
  have BW := BWn
  have FX := FXn
  have sz := szn
  clear BWn FXn szn
  have HS := Lib.hid (show (fun w_ => w_.heap[K]? = some (.cells (machC c (.slice (some ⟨M, 0, none⟩) m.length m.length) (.slice A out.length d)) 75 (0, 0)) ∧ w_.heap[w1.heap.size]? = some (.cells #[.int .i64 x0, .int .i64 x1, .int .i64 x2, .int .i64 x3, .int .i64 x4] 23 (0, 0))) W2 from ⟨(HM0.out.below BW.out).mach, FX.out⟩)
  refine wpAnyH_take (i := 0) (v := ?_) rfl (by kernel_rfl) (by kernel_rfl) (by kernel_rfl) (fun _ _ _ h => h) (Or.inl ⟨by rfl, ?_⟩) HS.out ?_
  rotate_left 1
  · intro w_ hSw
    clear hSw
    (go_simp) <;> (with_reducible rfl)
  (try simp only [Act.put, List.getElem_toArray, List.getElem_cons_zero, List.setIfInBounds_toArray, List.set_cons_zero, List.set_cons_succ])
  refine wpAnyH_take (i := 1) (v := ?_) rfl (by kernel_rfl) (by kernel_rfl) (by kernel_rfl) (fun _ _ _ h => h) (Or.inl ⟨by rfl, ?_⟩) HS.out ?_
  rotate_left 1
  · intro w_ hSw
    clear hSw
    (go_simp) <;> (with_reducible rfl)
  (try simp only [Act.put, List.getElem_toArray, List.getElem_cons_zero, List.getElem_cons_succ, List.setIfInBounds_toArray, List.set_cons_zero, List.set_cons_succ])
  refine wpAnyH_take (i := 2) (v := ?_) rfl (by kernel_rfl) (by kernel_rfl) (by kernel_rfl) (fun _ _ _ h => h) (Or.inl ⟨by rfl, ?_⟩) HS.out ?_
  rotate_left 1
  · intro w_ hSw
    clear hSw
    (go_simp) <;> (with_reducible rfl)
  (try simp only [Act.put, List.getElem_toArray, List.getElem_cons_zero, List.getElem_cons_succ, List.setIfInBounds_toArray, List.set_cons_zero, List.set_cons_succ])
  refine wpAnyH_take (i := 3) (v := .agg cs) rfl (by kernel_rfl) (by kernel_rfl) (by kernel_rfl) (fun _ _ _ h => h) (Or.inl ⟨by rfl, fun W_ hW => exec_load_head 35 _ rfl K rfl cs _ (range_of hW.1 (gc.out _ _)) Tryd.underlying35 rfl (by rw [ncs.out]; kernel_rfl)⟩) HS.out ?_
  (try simp only [Act.put, List.getElem_toArray, List.getElem_cons_zero, List.getElem_cons_succ, List.setIfInBounds_toArray, List.set_cons_zero, List.set_cons_succ])
  refine wpAnyH_take (i := 4) (v := .agg #[.int .i64 x0, .int .i64 x1, .int .i64 x2, .int .i64 x3, .int .i64 x4]) rfl (by kernel_rfl) (by kernel_rfl) (by kernel_rfl) (fun _ _ _ h => h) (Or.inl ⟨by rfl, fun W_ hW => exec_load_all 23 _ rfl w1.heap.size #[.int .i64 x0, .int .i64 x1, .int .i64 x2, .int .i64 x3, .int .i64 x4] _ rfl hW.2 Tryd.underlying23 rfl (by kernel_rfl)⟩) HS.out ?_
  (try simp only [Act.put, List.getElem_toArray, List.getElem_cons_zero, List.getElem_cons_succ, List.setIfInBounds_toArray, List.set_cons_zero, List.set_cons_succ])
  refine wpAnyH_take (i := 5) (v := ?_) rfl (by kernel_rfl) (by kernel_rfl) (by kernel_rfl) (fun _ _ _ h => h) (Or.inl ⟨by rfl, ?_⟩) HS.out ?_
  rotate_left 1
  · intro w_ hSw
    clear hSw
    (go_simp) <;> (with_reducible rfl)
  (try simp only [Act.put, List.getElem_toArray, List.getElem_cons_zero, List.getElem_cons_succ, List.setIfInBounds_toArray, List.set_cons_zero, List.set_cons_succ])
  refine wpAnyH_ready (rs := [6, 10]) (by kernel_rfl) (by simp) (AllReadyH.cons (i := 6) rfl (fun K_ hK => ?_) (AllReadyH.cons (i := 10) rfl (fun K_ hK => ?_) AllReadyH.nil))
  · go_simp
    go_at_call 20
    refine (KX.out _).mono ?_
    rintro e w3 ⟨rfl, hb3⟩
    have BWn := Lib.hid (BW.out.trans (hb3.mono BW.out.size))
    have FXn := Lib.hid ((hb3.block _ sz).trans FX.out)
    have szn : w1.heap.size < w3.heap.size := Nat.lt_of_lt_of_le sz hb3.size
    clear BW FX sz
    have BW := BWn
    have FX := FXn
    have sz := szn
    clear BWn FXn szn
    clear HS hb3 KX
    have HS := Lib.hid (show (fun w_ => w_.heap[K]? = some (.cells (machC c (.slice (some ⟨M, 0, none⟩) m.length m.length) (.slice A out.length d)) 75 (0, 0)) ∧ w_.heap[w1.heap.size]? = some (.cells #[.int .i64 x0, .int .i64 x1, .int .i64 x2, .int .i64 x3, .int .i64 x4] 23 (0, 0))) w3 from ⟨(HM0.out.below BW.out).mach, FX.out⟩)
    refine hK.out _ _ HS.out (fun _ => ?_)
    clear hK K_
    (try simp only [Act.put, List.getElem_toArray, List.getElem_cons_zero, List.getElem_cons_succ, List.setIfInBounds_toArray, List.set_cons_zero, List.set_cons_succ])
    refine wpAnyH_take (i := 7) (v := ?_) rfl (by kernel_rfl) (by kernel_rfl) (by kernel_rfl) (fun _ _ _ h => h) (Or.inl ⟨by rfl, ?_⟩) HS.out ?_
    rotate_left 1
    · intro w_ hSw
      clear hSw
      (go_simp) <;> (with_reducible rfl)
    (try simp only [Act.put, List.getElem_toArray, List.getElem_cons_zero, List.getElem_cons_succ, List.setIfInBounds_toArray, List.set_cons_zero, List.set_cons_succ])
    refine wpAnyH_take (i := 8) (v := ?_) rfl (by kernel_rfl) (by kernel_rfl) (by kernel_rfl) (fun _ _ _ h => h) (Or.inl ⟨by rfl, ?_⟩) HS.out ?_
    rotate_left 1
    · intro w_ hSw
      clear hSw
      (go_simp) <;> (with_reducible rfl)
    (try simp only [Act.put, List.getElem_toArray, List.getElem_cons_zero, List.getElem_cons_succ, List.setIfInBounds_toArray, List.set_cons_zero, List.set_cons_succ])
    refine wpAnyH_take (i := 9) (v := ?_) rfl (by kernel_rfl) (by kernel_rfl) (by kernel_rfl) (fun _ _ _ h => h) (Or.inl ⟨by rfl, ?_⟩) HS.out ?_
    rotate_left 1
    · intro w_ hSw
      clear hSw
      (go_simp) <;> (with_reducible rfl)
    (try simp only [Act.put, List.getElem_toArray, List.getElem_cons_zero, List.getElem_cons_succ, List.setIfInBounds_toArray, List.set_cons_zero, List.set_cons_succ])
    refine wpAnyH_ready (rs := [10]) (by kernel_rfl) (by simp) (AllReadyH.cons (i := 10) rfl (fun K_ hK => ?_) AllReadyH.nil)
    go_simp
    have FP := Lib.hid (heap_alloc_new w3 (.cells (effC eff0) 40))
    have NZ : w1.heap.size < w3.heap.size := sz
    have b4 := (Below.refl w3.heap.size w3).alloc (Nat.le_refl _) (.cells (effC eff0) 40)
    have szP : w3.heap.size < (w3.alloc (.cells (effC eff0) 40)).heap.size := by simp
    obtain ⟨N, hN⟩ : ∃ y, Hid (w3.heap.size = y) := ⟨_, rfl⟩
    have BWn := Lib.hid (BW.out.trans (b4.mono BW.out.size))
    have FXn := Lib.hid ((b4.block _ sz).trans FX.out)
    have szn : w1.heap.size < (w3.alloc (.cells (effC eff0) 40)).heap.size := Nat.lt_of_lt_of_le sz b4.size
    clear BW FX sz
    have BW := BWn
    have FX := FXn
    have sz := szn
    clear BWn FXn szn
    clear b4
    have HSn := Lib.hid (show (fun w_ => w_.heap[K]? = some (.cells (machC c (.slice (some ⟨M, 0, none⟩) m.length m.length) (.slice A out.length d)) 75 (0, 0)) ∧ w_.heap[w1.heap.size]? = some (.cells #[.int .i64 x0, .int .i64 x1, .int .i64 x2, .int .i64 x3, .int .i64 x4] 23 (0, 0))) (w3.alloc (.cells (effC eff0) 40)) from ⟨(HM0.out.below BW.out).mach, FX.out⟩)
    clear HS
    have HS := HSn
    clear HSn
    refine hK.out _ _ HS.out (fun _ => ?_)
    clear hK K_
    (try simp only [Act.put, List.getElem_toArray, List.getElem_cons_zero, List.getElem_cons_succ, List.setIfInBounds_toArray, List.set_cons_zero, List.set_cons_succ])
    change wpAnyH _ _ _ _ _ _ _ _ (w3.alloc (.cells (effC eff0) 40))
    rw [hN.out] at FP NZ szP ⊢
    clear hN
    obtain ⟨W4, hV⟩ : ∃ V, Hid ((w3.alloc (.cells (effC eff0) 40)) = V) := ⟨_, Lib.hid rfl⟩
    rw [hV.out] at BW FX sz HS FP szP ⊢
    clear hV
    refine wpAnyH_ready (rs := [11]) (by kernel_rfl) (by simp) (AllReadyH.cons (i := 11) rfl (fun K_ hK => ?_) AllReadyH.nil)
    rw [if_pos (by rfl)]
    refine wp_store_all 40 _ _ rfl N _ ps rfl rfl FP.out (by rw [ksz.out]; rfl) (by rw [ksz.out]; kernel_rfl) kone.out ?_
    intro U hU
    have BWn := Lib.hid (BW.out.setC (by omega) hU)
    have FXn := Lib.hid ((hU.block _ (by omega)).trans FX.out)
    have szn : w1.heap.size < U.heap.size := by rw [hU.size]; exact sz
    have FPn := Lib.hid hU.at_
    clear BW FX sz HS FP szP hU
    have FP := FPn
    clear FPn
    have BW := BWn
    have FX := FXn
    have sz := szn
    clear BWn FXn szn
    have HS := Lib.hid (show (fun w_ => w_.heap[K]? = some (.cells (machC c (.slice (some ⟨M, 0, none⟩) m.length m.length) (.slice A out.length d)) 75 (0, 0)) ∧ w_.heap[w1.heap.size]? = some (.cells #[.int .i64 x0, .int .i64 x1, .int .i64 x2, .int .i64 x3, .int .i64 x4] 23 (0, 0))) U from ⟨(HM0.out.below BW.out).mach, FX.out⟩)
    refine hK.out _ _ HS.out (fun _ => ?_)
    clear hK K_
    (try simp only [Act.put, List.getElem_toArray, List.getElem_cons_zero, List.getElem_cons_succ])
    refine wpAnyH_take (i := 12) (v := ?_) rfl (by kernel_rfl) (by kernel_rfl) (by kernel_rfl) (fun _ _ _ h => h) (Or.inl ⟨by rfl, ?_⟩) HS.out ?_
    rotate_left 1
    · intro w_ hSw
      clear hSw
      (go_simp) <;> (with_reducible rfl)
    (try simp only [Act.put, List.getElem_toArray, List.getElem_cons_zero, List.getElem_cons_succ, List.setIfInBounds_toArray, List.set_cons_zero, List.set_cons_succ])
    refine wpAnyH_done (by kernel_rfl) ?_ _
    clear HS
    have m17 := (cell_of_row _ _ 17 _ _ _ FP.out).trans k17.out.1
    have m18 := (cell_of_row _ _ 18 _ _ _ FP.out).trans k17.out.2.1
    go_wp2_with (first | (go_at_call 48; refine (has_yes K M m.length _ ad _ (HM0.out.below BW.out).mach (machC_at hl.out).2.1 HA.out.1 HA.out.2).mono ?_; rintro e w' ⟨rfl, rfl⟩) | ((with_reducible show wpList _ _ _ (Oper.mk _ (Op.load 40 _) _ _ _ none :: _) _ _); refine wpList_load_all rfl 40 _ rfl N _ _ rfl FP.out Tryd.underlying40 rfl (by rw [ksz.out]; kernel_rfl) ?_))
    refine (KT.out _ (HM0.out.below BW.out)).mono ?_
    intro e w4 ht
    unfold Taken at ht
    obtain ⟨rfl, hma, hoth⟩ := ht
    go_wp2_with fail
    go_ret
    unfold DoStep
    exact ⟨rfl, hma, (Others.of_below HM0.out.size BW.out).trans hoth⟩
  · go_simp
    have FP := Lib.hid (heap_alloc_new W2 (.cells (effC eff0) 40))
    have NZ : w1.heap.size < W2.heap.size := sz
    have b4 := (Below.refl W2.heap.size W2).alloc (Nat.le_refl _) (.cells (effC eff0) 40)
    have szP : W2.heap.size < (W2.alloc (.cells (effC eff0) 40)).heap.size := by simp
    obtain ⟨N, hN⟩ : ∃ y, Hid (W2.heap.size = y) := ⟨_, rfl⟩
    have BWn := Lib.hid (BW.out.trans (b4.mono BW.out.size))
    have FXn := Lib.hid ((b4.block _ sz).trans FX.out)
    have szn : w1.heap.size < (W2.alloc (.cells (effC eff0) 40)).heap.size := Nat.lt_of_lt_of_le sz b4.size
    clear BW FX sz
    have BW := BWn
    have FX := FXn
    have sz := szn
    clear BWn FXn szn
    clear b4
    have HSn := Lib.hid (show (fun w_ => w_.heap[K]? = some (.cells (machC c (.slice (some ⟨M, 0, none⟩) m.length m.length) (.slice A out.length d)) 75 (0, 0)) ∧ w_.heap[w1.heap.size]? = some (.cells #[.int .i64 x0, .int .i64 x1, .int .i64 x2, .int .i64 x3, .int .i64 x4] 23 (0, 0))) (W2.alloc (.cells (effC eff0) 40)) from ⟨(HM0.out.below BW.out).mach, FX.out⟩)
    clear HS
    have HS := HSn
    clear HSn
    refine hK.out _ _ HS.out (fun _ => ?_)
    clear hK K_
    (try simp only [Act.put, List.getElem_toArray, List.getElem_cons_zero, List.getElem_cons_succ, List.setIfInBounds_toArray, List.set_cons_zero, List.set_cons_succ])
    change wpAnyH _ _ _ _ _ _ _ _ (W2.alloc (.cells (effC eff0) 40))
    rw [hN.out] at FP NZ szP ⊢
    clear hN
    obtain ⟨W4, hV⟩ : ∃ V, Hid ((W2.alloc (.cells (effC eff0) 40)) = V) := ⟨_, Lib.hid rfl⟩
    rw [hV.out] at BW FX sz HS FP szP ⊢
    clear hV
    refine wpAnyH_ready (rs := [6]) (by kernel_rfl) (by simp) (AllReadyH.cons (i := 6) rfl (fun K_ hK => ?_) AllReadyH.nil)
    go_simp
    go_at_call 20
    refine (KX.out _).mono ?_
    rintro e w3 ⟨rfl, hb3⟩
    have BWn := Lib.hid (BW.out.trans (hb3.mono BW.out.size))
    have FXn := Lib.hid ((hb3.block _ sz).trans FX.out)
    have szn : w1.heap.size < w3.heap.size := Nat.lt_of_lt_of_le sz hb3.size
    clear BW FX sz
    have BW := BWn
    have FX := FXn
    have sz := szn
    clear BWn FXn szn
    have FPn := Lib.hid ((hb3.block _ szP).trans FP.out)
    have sPn := Nat.lt_of_lt_of_le szP hb3.size
    clear FP szP
    have FP := FPn
    have szP := sPn
    clear FPn sPn
    clear HS hb3 KX
    have HS := Lib.hid (show (fun w_ => w_.heap[K]? = some (.cells (machC c (.slice (some ⟨M, 0, none⟩) m.length m.length) (.slice A out.length d)) 75 (0, 0)) ∧ w_.heap[w1.heap.size]? = some (.cells #[.int .i64 x0, .int .i64 x1, .int .i64 x2, .int .i64 x3, .int .i64 x4] 23 (0, 0))) w3 from ⟨(HM0.out.below BW.out).mach, FX.out⟩)
    refine hK.out _ _ HS.out (fun _ => ?_)
    clear hK K_
    (try simp only [Act.put, List.getElem_toArray, List.getElem_cons_zero, List.getElem_cons_succ, List.setIfInBounds_toArray, List.set_cons_zero, List.set_cons_succ])
    refine wpAnyH_take (i := 7) (v := ?_) rfl (by kernel_rfl) (by kernel_rfl) (by kernel_rfl) (fun _ _ _ h => h) (Or.inl ⟨by rfl, ?_⟩) HS.out ?_
    rotate_left 1
    · intro w_ hSw
      clear hSw
      (go_simp) <;> (with_reducible rfl)
    (try simp only [Act.put, List.getElem_toArray, List.getElem_cons_zero, List.getElem_cons_succ, List.setIfInBounds_toArray, List.set_cons_zero, List.set_cons_succ])
    refine wpAnyH_take (i := 8) (v := ?_) rfl (by kernel_rfl) (by kernel_rfl) (by kernel_rfl) (fun _ _ _ h => h) (Or.inl ⟨by rfl, ?_⟩) HS.out ?_
    rotate_left 1
    · intro w_ hSw
      clear hSw
      (go_simp) <;> (with_reducible rfl)
    (try simp only [Act.put, List.getElem_toArray, List.getElem_cons_zero, List.getElem_cons_succ, List.setIfInBounds_toArray, List.set_cons_zero, List.set_cons_succ])
    refine wpAnyH_take (i := 9) (v := ?_) rfl (by kernel_rfl) (by kernel_rfl) (by kernel_rfl) (fun _ _ _ h => h) (Or.inl ⟨by rfl, ?_⟩) HS.out ?_
    rotate_left 1
    · intro w_ hSw
      clear hSw
      (go_simp) <;> (with_reducible rfl)
    (try simp only [Act.put, List.getElem_toArray, List.getElem_cons_zero, List.getElem_cons_succ, List.setIfInBounds_toArray, List.set_cons_zero, List.set_cons_succ])
    refine wpAnyH_ready (rs := [11]) (by kernel_rfl) (by simp) (AllReadyH.cons (i := 11) rfl (fun K_ hK => ?_) AllReadyH.nil)
    rw [if_pos (by rfl)]
    refine wp_store_all 40 _ _ rfl N _ ps rfl rfl FP.out (by rw [ksz.out]; rfl) (by rw [ksz.out]; kernel_rfl) kone.out ?_
    intro U hU
    have BWn := Lib.hid (BW.out.setC (by omega) hU)
    have FXn := Lib.hid ((hU.block _ (by omega)).trans FX.out)
    have szn : w1.heap.size < U.heap.size := by rw [hU.size]; exact sz
    have FPn := Lib.hid hU.at_
    clear BW FX sz HS FP szP hU
    have FP := FPn
    clear FPn
    have BW := BWn
    have FX := FXn
    have sz := szn
    clear BWn FXn szn
    have HS := Lib.hid (show (fun w_ => w_.heap[K]? = some (.cells (machC c (.slice (some ⟨M, 0, none⟩) m.length m.length) (.slice A out.length d)) 75 (0, 0)) ∧ w_.heap[w1.heap.size]? = some (.cells #[.int .i64 x0, .int .i64 x1, .int .i64 x2, .int .i64 x3, .int .i64 x4] 23 (0, 0))) U from ⟨(HM0.out.below BW.out).mach, FX.out⟩)
    refine hK.out _ _ HS.out (fun _ => ?_)
    clear hK K_
    (try simp only [Act.put, List.getElem_toArray, List.getElem_cons_zero, List.getElem_cons_succ])
    refine wpAnyH_take (i := 12) (v := ?_) rfl (by kernel_rfl) (by kernel_rfl) (by kernel_rfl) (fun _ _ _ h => h) (Or.inl ⟨by rfl, ?_⟩) HS.out ?_
    rotate_left 1
    · intro w_ hSw
      clear hSw
      (go_simp) <;> (with_reducible rfl)
    (try simp only [Act.put, List.getElem_toArray, List.getElem_cons_zero, List.getElem_cons_succ, List.setIfInBounds_toArray, List.set_cons_zero, List.set_cons_succ])
    refine wpAnyH_done (by kernel_rfl) ?_ _
    clear HS
    have m17 := (cell_of_row _ _ 17 _ _ _ FP.out).trans k17.out.1
    have m18 := (cell_of_row _ _ 18 _ _ _ FP.out).trans k17.out.2.1
    go_wp2_with (first | (go_at_call 48; refine (has_yes K M m.length _ ad _ (HM0.out.below BW.out).mach (machC_at hl.out).2.1 HA.out.1 HA.out.2).mono ?_; rintro e w' ⟨rfl, rfl⟩) | ((with_reducible show wpList _ _ _ (Oper.mk _ (Op.load 40 _) _ _ _ none :: _) _ _); refine wpList_load_all rfl 40 _ rfl N _ _ rfl FP.out Tryd.underlying40 rfl (by rw [ksz.out]; kernel_rfl) ?_))
    refine (KT.out _ (HM0.out.below BW.out)).mono ?_
    intro e w4 ht
    unfold Taken at ht
    obtain ⟨rfl, hma, hoth⟩ := ht
    go_wp2_with fail
    go_ret
    unfold DoStep
    exact ⟨rfl, hma, (Others.of_below HM0.out.size BW.out).trans hoth⟩
theorem exV_is {c : Cpu} {i : Ins} {ld : Int} (h : exE i = 0) : exV c i ld = exec c i ld := by
  unfold exE at h
  by_cases hc : encE i = 0 ∧ i.op ≠ 2
  · exact if_pos hc
  · rw [if_neg hc] at h; cases h
theorem exE_two (i : Ins) : exE i = 0 ∨ exE i = 14 := by
  unfold exE
  split
  · exact .inl rfl
  · exact .inr rfl
/-- A step that fails, or one that is made. -/
def Stepd (B K M : Nat) (m : List Int) (c : Cpu) (out : List Int) (w : World) (e : Ending) (w' : World) : Prop :=
  (stepP m c = none ∧ NoStep w e w') ∨ ∃ x, stepP m c = some (if x.stores then m.set x.addr.toNat x.word else m, x) ∧ DoStep B K M m out x w e w'
theorem step_any (B K M : Nat) (c : Cpu) (m out : List Int) (A : Option Addr) (d : Nat) (w : World) (hm : Mach B K M c m A d out w) (hc : c.Fits) (h64 : All64 m) (hout : out.length ≤ 200000) :
    Calls Tryd.prog 45 #[.pointer (some ⟨K, 0, none⟩)] w (Stepd B K M m c out w) := by
  by_cases a0 : c.pc < 0 ∨ (m.length : Int) ≤ c.pc
  · exact (step_out B K M c m out A d w hm hc a0).mono fun _ _ h => .inl ⟨by unfold stepP; rw [if_pos a0], h⟩
  obtain ⟨p, hp⟩ := Int.eq_ofNat_of_zero_le (show 0 ≤ c.pc by omega)
  have hlt : p < m.length := by omega
  obtain ⟨v, hv⟩ : ∃ v, m.getD p 0 = v := ⟨_, rfl⟩
  have hvf : I64 v := hv ▸ h64 p
  obtain ⟨x, hx⟩ : ∃ x, decI v = x := ⟨_, rfl⟩
  have qv : m.getD c.pc.toNat 0 = v := by rw [hp]; exact hv
  by_cases a2 : decE v ≠ 0
  · exact (step_dec B K M c m out A d w hm hc p hp hlt v hvf hv x hx a2).mono fun _ _ h => .inl ⟨by unfold stepP; rw [if_neg a0, qv, if_pos a2], h⟩
  have a2' : decE v = 0 := by simpa using a2
  cases hrb : readsB x with
  | true =>
    by_cases b0 : readsA c x < 0 ∨ (m.length : Int) ≤ readsA c x
    · exact (step_rbad B K M c m out A d w hm hc p hp hlt v hvf hv x hx a2' hrb b0).mono fun _ _ h => .inl ⟨by unfold stepP; rw [if_neg a0, qv, if_neg a2, hx, if_pos ⟨hrb, b0⟩], h⟩
    have q3 : ¬ (readsB x = true ∧ (readsA c x < 0 ∨ (m.length : Int) ≤ readsA c x)) := fun h => b0 h.2
    obtain ⟨q, hq⟩ := Int.eq_ofNat_of_zero_le (show 0 ≤ readsA c x by omega)
    have hqm : q < m.length := by omega
    obtain ⟨ld, hld⟩ : ∃ y, m.getD q 0 = y := ⟨_, rfl⟩
    have qld : (if readsB x = true then m.getD (readsA c x).toNat 0 else 0) = ld := by rw [if_pos hrb, hq]; exact hld
    rcases exE_two x with he | he
    · have e0 : stepP m c = if (exV c x ld).stores = true ∧ ((exV c x ld).addr < 0 ∨ (m.length : Int) ≤ (exV c x ld).addr) then none else some (if (exV c x ld).stores = true then m.set (exV c x ld).addr.toNat (exV c x ld).word else m, exV c x ld) := by
        unfold stepP
        rw [if_neg a0, qv, if_neg a2, hx, if_neg q3, if_neg (by rw [he]; decide)]
        simp only
        rw [qld, ← exV_is he]
      cases hst : (exV c x ld).stores with
      | false => exact (step_ok_r B K M c m out A d w hm hc p hp hlt v hvf hv x hx a2' hrb q hq hqm ld hld he hout hst).mono fun _ _ h => .inr ⟨_, by rw [e0, if_neg (fun h => by rw [hst] at h; cases h.1)], h⟩
      | true =>
        by_cases s0 : (exV c x ld).addr < 0 ∨ (m.length : Int) ≤ (exV c x ld).addr
        · exact (step_sbad_r B K M c m out A d w hm hc p hp hlt v hvf hv x hx a2' hrb q hq hqm ld hld he hst s0).mono fun _ _ h => .inl ⟨by rw [e0, if_pos ⟨hst, s0⟩], h⟩
        · exact (step_set_r B K M c m out A d w hm hc p hp hlt v hvf hv x hx a2' hrb q hq hqm ld hld he hout hst (by omega) (by omega)).mono fun _ _ h => .inr ⟨_, by rw [e0, if_neg (fun h => s0 h.2)], h⟩
    · exact (step_exec_r B K M c m out A d w hm hc p hp hlt v hvf hv x hx a2' hrb q hq hqm ld hld he).mono fun _ _ h => .inl ⟨by unfold stepP; rw [if_neg a0, qv, if_neg a2, hx, if_neg q3, if_pos (by rw [he]; decide)], h⟩
  | false =>
    have q3 : ¬ (readsB x = true ∧ (readsA c x < 0 ∨ (m.length : Int) ≤ readsA c x)) := fun h => by rw [hrb] at h; cases h.1
    have qld : (if readsB x = true then m.getD (readsA c x).toNat 0 else 0) = 0 := by rw [hrb]; rfl
    rcases exE_two x with he | he
    · have e0 : stepP m c = if (exV c x 0).stores = true ∧ ((exV c x 0).addr < 0 ∨ (m.length : Int) ≤ (exV c x 0).addr) then none else some (if (exV c x 0).stores = true then m.set (exV c x 0).addr.toNat (exV c x 0).word else m, exV c x 0) := by
        unfold stepP
        rw [if_neg a0, qv, if_neg a2, hx, if_neg q3, if_neg (by rw [he]; decide)]
        simp only
        rw [qld, ← exV_is he]
      cases hst : (exV c x 0).stores with
      | false => exact (step_ok_n B K M c m out A d w hm hc p hp hlt v hvf hv x hx a2' hrb he hout hst).mono fun _ _ h => .inr ⟨_, by rw [e0, if_neg (fun h => by rw [hst] at h; cases h.1)], h⟩
      | true =>
        by_cases s0 : (exV c x 0).addr < 0 ∨ (m.length : Int) ≤ (exV c x 0).addr
        · exact (step_sbad_n B K M c m out A d w hm hc p hp hlt v hvf hv x hx a2' hrb he hst s0).mono fun _ _ h => .inl ⟨by rw [e0, if_pos ⟨hst, s0⟩], h⟩
        · exact (step_set_n B K M c m out A d w hm hc p hp hlt v hvf hv x hx a2' hrb he hout hst (by omega) (by omega)).mono fun _ _ h => .inr ⟨_, by rw [e0, if_neg (fun h => s0 h.2)], h⟩
    · exact (step_exec_n B K M c m out A d w hm hc p hp hlt v hvf hv x hx a2' hrb he).mono fun _ _ h => .inl ⟨by unfold stepP; rw [if_neg a0, qv, if_neg a2, hx, if_neg q3, if_pos (by rw [he]; decide)], h⟩
end Go.Proofs.YtimiofmmhccmmaaDoor
