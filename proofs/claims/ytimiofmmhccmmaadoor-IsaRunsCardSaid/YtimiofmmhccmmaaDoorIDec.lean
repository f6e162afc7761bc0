/-
  What the program's Decode returns. Condition: the word is a number of 64 bits.
-/
import Derived.Test.YtimiofmmhccmmaaDoorIEnc
import Derived.Test.YtimiofmmhccmmaaDoorDec
namespace Go.Proofs.YtimiofmmhccmmaaDoor
open Go.RowKit

theorem decode_any (v : Int) (hv : I64 v) (w : World) : Calls Tryd.prog 12 #[.int .i64 v] w (Gives2 w (insV (decI v)) (.int .i64 (decE v))) := by
  have hf : Ins.Fits ⟨v % 256, v / 256 % 256, v / 65536 % 256, v / 16777216 % 256, v / 4294967296⟩ := split_fits hv
  obtain ⟨hv0, hv1⟩ := hv
  have k255 := and255
  by_cases h : encE (split v) = 0
  · have hi := Lib.hid (decI_yes h)
    have he := Lib.hid (decE_yes h)
    have h' : encE ⟨v % 256, v / 256 % 256, v / 65536 % 256, v / 16777216 % 256, v / 4294967296⟩ = 0 := h
    clear h
    have H' := Lib.hid h'
    clear h'
    rw [hi.out, he.out]
    go_enter Tryd.func12, Tryd.ntmps12
    go_wp2_with fail
    refine (encoded_yes ⟨_, _, _, _, _⟩ hf H'.out _).mono ?_
    rintro e w1 ⟨rfl, hb1⟩
    have B0 := Lib.hid ((hb1.block w.heap.size (by simp; omega)).trans (heap_alloc2_old _ _ _))
    have B1 := Lib.hid ((hb1.block (w.heap.size + 1) (by simp)).trans (heap_alloc2_new _ _ _))
    have HB := Lib.hid ((((Below.refl w.heap.size w).alloc (Nat.le_refl _) (.cells #[.int .i64 0, .int .i64 0, .int .i64 0, .int .i64 0, .int .i64 0] 23)).alloc (by simp) (.cells #[.int .i64 (v % 256), .int .i64 (v / 256 % 256), .int .i64 (v / 65536 % 256), .int .i64 (v / 16777216 % 256), .int .i64 (v / 4294967296)] 23)).trans (hb1.mono (by simp; omega)))
    clear hb1
    go_wp2_with (first | ((with_reducible show wpList _ _ _ (Oper.mk _ (Op.load 23 _) _ _ _ none :: _) _ _); refine wpList_load_all rfl 23 _ rfl (w.heap.size + 1) _ _ rfl B1.out Tryd.underlying23 rfl (by kernel_rfl) ?_) | ((with_reducible show wpList _ _ _ (Oper.mk none (Op.store 23 _ _) _ _ _ none :: _) _ _); refine wpList_store_all rfl rfl 23 _ _ rfl w.heap.size _ (#[.int .i64 (v % 256), .int .i64 (v / 256 % 256), .int .i64 (v / 65536 % 256), .int .i64 (v / 16777216 % 256), .int .i64 (v / 4294967296)]) rfl rfl B0.out rfl (by kernel_rfl) (by simp [Value.oneCell']) ?_; intro U hU))
    (try simp only [Exit.inBlock, Exit.then])
    have hld := ret_all (P := Tryd.prog) 23 w.heap.size _ _ hU.at_ Tryd.underlying23 rfl (by kernel_rfl)
    refine bodyPost_ret (v := .tuple #[.agg #[.int .i64 (v % 256), .int .i64 (v / 256 % 256), .int .i64 (v / 65536 % 256), .int .i64 (v / 16777216 % 256), .int .i64 (v / 4294967296)], .int .i64 0]) (by simp [results, Tryd.results12, asAddr, hld]) rfl ?_
    exact ⟨rfl, HB.out.setC (Nat.le_refl _) hU⟩
  · have hi := Lib.hid (decI_no h)
    have he := Lib.hid (decE_no h)
    have h' : encE ⟨v % 256, v / 256 % 256, v / 65536 % 256, v / 16777216 % 256, v / 4294967296⟩ ≠ 0 := h
    clear h
    have H' := Lib.hid h'
    clear h'
    rw [hi.out, he.out]
    go_enter Tryd.func12, Tryd.ntmps12
    go_wp2_with fail
    refine (encoded_no ⟨_, _, _, _, _⟩ hf H'.out _).mono ?_
    rintro e w1 ⟨rfl, hb1⟩
    have B0 := Lib.hid ((hb1.block w.heap.size (by simp; omega)).trans (heap_alloc2_old _ _ _))
    have B1 := Lib.hid ((hb1.block (w.heap.size + 1) (by simp)).trans (heap_alloc2_new _ _ _))
    have HB := Lib.hid ((((Below.refl w.heap.size w).alloc (Nat.le_refl _) (.cells #[.int .i64 0, .int .i64 0, .int .i64 0, .int .i64 0, .int .i64 0] 23)).alloc (by simp) (.cells #[.int .i64 (v % 256), .int .i64 (v / 256 % 256), .int .i64 (v / 65536 % 256), .int .i64 (v / 16777216 % 256), .int .i64 (v / 4294967296)] 23)).trans (hb1.mono (by simp; omega)))
    clear hb1
    go_wp2_with (first | ((with_reducible show wpList _ _ _ (Oper.mk _ (Op.load 23 _) _ _ _ none :: _) _ _); refine wpList_load_all rfl 23 _ rfl (w.heap.size + 1) _ _ rfl B1.out Tryd.underlying23 rfl (by kernel_rfl) ?_) | ((with_reducible show wpList _ _ _ (Oper.mk none (Op.store 23 _ _) _ _ _ none :: _) _ _); refine wpList_store_all rfl rfl 23 _ _ rfl w.heap.size _ (#[.int .i64 0, .int .i64 0, .int .i64 0, .int .i64 0, .int .i64 0]) rfl rfl B0.out rfl (by kernel_rfl) (by simp [Value.oneCell']) ?_; intro U hU))
    (try simp only [Exit.inBlock, Exit.then])
    have hld := ret_all (P := Tryd.prog) 23 w.heap.size _ _ hU.at_ Tryd.underlying23 rfl (by kernel_rfl)
    refine bodyPost_ret (v := .tuple #[.agg #[.int .i64 0, .int .i64 0, .int .i64 0, .int .i64 0, .int .i64 0], .int .i64 4]) (by simp [results, Tryd.results12, asAddr, hld]) rfl ?_
    exact ⟨rfl, HB.out.setC (Nat.le_refl _) hU⟩
end Go.Proofs.YtimiofmmhccmmaaDoor
