/-
  What near makes of an instruction. Condition: fields of 64 bits.
-/
import Derived.Test.YtimiofmmhccmmaaDoorDec
import Derived.Test.YtimiofmmhccmmaaDoorMdb
import Derived.StillTailTactics
import Derived.IntWalk
namespace Go.Proofs.YtimiofmmhccmmaaDoor
open Go.RowKit

/-- An instruction that can be encoded. -/
def nearP (i : Ins) : Ins := ⟨1 + i.op % 25, i.a % 16, i.b % 16, i.c % 16, i.imm % 4294967296 - 2147483648⟩
theorem nearP_ok (i : Ins) : (nearP i).Ok := by
  refine ⟨?_, ?_, ?_, ?_, ?_⟩ <;> (simp only [nearP]; omega)
theorem Ins.Ok.fits {i : Ins} (h : i.Ok) : i.Fits := by
  obtain ⟨h1, h2, h3, h4, h5⟩ := h
  refine ⟨?_, ?_, ?_, ?_, ?_⟩ <;> (unfold I64; omega)
theorem modq (n k : Int) (w : World) (h2 : n < 9223372036854775808) (hk : 1 ≤ k) (hk2 : k < 100000000000) : Calls Tryd.prog 22 #[.int .i64 n, .int .i64 k] w fun e w' => e = .returned (.int .i64 (n % k)) ∧ w' = w :=
  (modb_any n k w h2 hk hk2 _ (Lib.hid rfl)).mono fun _ _ h => ⟨h.1, h.2.symm⟩

set_option maxRecDepth 100000 in
theorem near_any (i : Ins) (hi : i.Fits) (w : World) : Calls Tryd.prog 17 #[insV i] w fun e w' => e = .returned (insV (nearP i)) ∧ Below w.heap.size w w' := by
  obtain ⟨op, a, b, c, imm⟩ := i
  obtain ⟨⟨hop0, hop1⟩, ⟨ha0, ha1⟩, ⟨hb0, hb1⟩, ⟨hc0, hc1⟩, ⟨hi0, hi1⟩⟩ := hi
  simp only at hop0 hop1 ha0 ha1 hb0 hb1 hc0 hc1 hi0 hi1
  obtain ⟨p, hp⟩ : ∃ x, Hid (op % 25 = x) := ⟨_, rfl⟩
  obtain ⟨q, hq⟩ : ∃ x, Hid (imm % 4294967296 = x) := ⟨_, rfl⟩
  have p0 : 0 ≤ p := by rw [← hp.out]; exact Int.emod_nonneg _ (by decide)
  have p1 : p < 25 := by rw [← hp.out]; exact Int.emod_lt_of_pos _ (by decide)
  have q0 : 0 ≤ q := by rw [← hq.out]; exact Int.emod_nonneg _ (by decide)
  have q1 : q < 4294967296 := by rw [← hq.out]; exact Int.emod_lt_of_pos _ (by decide)
  have e1 : IntKind.i64.wrap (1 + p) = 1 + p := IntWalk.i64_in _ ⟨by omega, by omega⟩
  have e2 : IntKind.i64.wrap (q - 2147483648) = q - 2147483648 := IntWalk.i64_in _ ⟨by omega, by omega⟩
  go_enter Tryd.func17, Tryd.ntmps17
  go_wp2_with fail
  have B0 := Lib.hid (heap_alloc2_old w (.cells #[.int .i64 op, .int .i64 a, .int .i64 b, .int .i64 c, .int .i64 imm] 23) (.cells #[.int .i64 0, .int .i64 0, .int .i64 0, .int .i64 0, .int .i64 0] 23))
  have B1 := Lib.hid (heap_alloc2_new w (.cells #[.int .i64 op, .int .i64 a, .int .i64 b, .int .i64 c, .int .i64 imm] 23) (.cells #[.int .i64 0, .int .i64 0, .int .i64 0, .int .i64 0, .int .i64 0] 23))
  have HB := Lib.hid (((Below.refl w.heap.size w).alloc (Nat.le_refl _) (.cells #[.int .i64 op, .int .i64 a, .int .i64 b, .int .i64 c, .int .i64 imm] 23)).alloc (by simp) (.cells #[.int .i64 0, .int .i64 0, .int .i64 0, .int .i64 0, .int .i64 0] 23))
  obtain ⟨U, hU⟩ : ∃ U, Hid ((w.alloc (.cells #[.int .i64 op, .int .i64 a, .int .i64 b, .int .i64 c, .int .i64 imm] 23)).alloc (.cells #[.int .i64 0, .int .i64 0, .int .i64 0, .int .i64 0, .int .i64 0] 23) = U) := ⟨_, Lib.hid rfl⟩
  rw [hU.out] at B0 B1 HB ⊢
  clear hU
  have c0 := cell_of_row _ _ 0 _ _ _ B0.out
  have c1 := cell_of_row _ _ 1 _ _ _ B0.out
  have c2 := cell_of_row _ _ 2 _ _ _ B0.out
  have c3 := cell_of_row _ _ 3 _ _ _ B0.out
  have c4 := cell_of_row _ _ 4 _ _ _ B0.out
  simp only [List.getElem?_toArray, List.getElem?_cons_zero, List.getElem?_cons_succ] at c0 c1 c2 c3 c4
  go_still_tail 18, (by kernel_rfl)
  still_call (hp.out ▸ modq op 25 _ hop1 (by decide) (by decide))
  repeat still_step
  still_call (modq a 16 _ ha1 (by decide) (by decide))
  repeat still_step
  still_call (modq b 16 _ hb1 (by decide) (by decide))
  repeat still_step
  still_call (modq c 16 _ hc1 (by decide) (by decide))
  repeat still_step
  still_call (hq.out ▸ modq imm 4294967296 _ hi1 (by decide) (by decide))
  repeat still_step
  refine wpStill_nil ?_
  change wpList _ _ _ _ _ U.drew
  have Z1 := Lib.hid (show U.drew.heap[w.heap.size + 1]? = _ from B1.out)
  have HC := Lib.hid HB.out.drew
  clear c0 c1 c2 c3 c4 B0 B1 HB
  obtain ⟨V, hV⟩ : ∃ V, Hid (U.drew = V) := ⟨_, Lib.hid rfl⟩
  rw [hV.out] at Z1 HC ⊢
  clear hV
  have en : insV (nearP ⟨op, a, b, c, imm⟩) = .agg #[.int .i64 (1 + p), .int .i64 (a % 16), .int .i64 (b % 16), .int .i64 (c % 16), .int .i64 (q - 2147483648)] := by simp only [nearP, hp.out, hq.out]
  have EN := Lib.hid en
  clear en e1 e2 hp hq
  go_wp2_with ((with_reducible show wpList _ _ _ (Oper.mk none (Op.store 23 _ _) _ _ _ none :: _) _ _); refine wpList_store_all rfl rfl 23 _ _ rfl (w.heap.size + 1) _ #[.int .i64 (1 + p), .int .i64 (a % 16), .int .i64 (b % 16), .int .i64 (c % 16), .int .i64 (q - 2147483648)] rfl rfl Z1.out rfl (by kernel_rfl) (by simp [Value.oneCell']) ?_; intro T hT)
  (try simp only [Exit.inBlock, Exit.then])
  have hld := ret_all (P := Tryd.prog) 23 (w.heap.size + 1) _ _ hT.at_ Tryd.underlying23 rfl (by kernel_rfl)
  refine bodyPost_ret (v := .agg #[.int .i64 (1 + p), .int .i64 (a % 16), .int .i64 (b % 16), .int .i64 (c % 16), .int .i64 (q - 2147483648)]) (by simp [results, Tryd.results17, asAddr, hld]) rfl ?_
  exact ⟨by rw [EN.out], HC.out.setC (Nat.le_add_right _ 1) hT⟩
end Go.Proofs.YtimiofmmhccmmaaDoor
