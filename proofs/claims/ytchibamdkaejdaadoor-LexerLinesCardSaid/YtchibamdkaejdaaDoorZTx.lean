/-
  A row of functions is as the specification's Print wants it. No condition. The generator's Program, walked whole: the program is as the specification's Print wants it. Condition: the row of numbers can be read. The generator's Text: the text of a program made of numbers is of bounded length. Condition: the row of numbers can be read.
-/
import Derived.Test.YtchibamdkaejdaaDoorZA
import Derived.Test.YtchibamdkaejdaaDoorZPg
import Derived.Test.YtchibamdkaejdaaDoorZPb
import Derived.Test.YtchibamdkaejdaaDoorZSb
namespace Go.Proofs.YtchibamdkaejdaaDoor
open Go.RowKit

theorem FnsAt.funs {w : World} {N D l c : Nat} {A : Option Addr} (h : FnsAt w N D A l c) (hl : l ≤ 10) : FunsOk w A l c := by
 obtain ⟨xs, ⟨h1, h2⟩, hx⟩ := h
 rcases h2 with ⟨e, e0⟩ | ⟨g, cap, cur, e, hb, hg, hr1, hr2, hr3, hr4⟩
 ·injection e with e1 e2 e3
  exact ⟨by omega, by unfold maxLen; omega, hl, fun hh => absurd e0 hh⟩
 ·injection e with e1 e2 e3
  subst e1 e3
  refine ⟨hr1, hr2, hl, fun _ => ⟨g, rfl, (Array.getElem?_eq_some_iff.1 hg).1, fun k hk => ?_⟩⟩
  obtain ⟨vs, hv, hc, nm, A1, A2, l1, c1, l2, c2, ns, hag, hnm, hpar, hst, hsum⟩ := hx k hk
  have hcur : ∀ j u, j < 4 → vs[j]? = some u → w.cell? ⟨g, k * 4 + j, none⟩ = some u := fun j u hj hu => by
   rw [cell_of_row w g _ _ _ _ hg, ← Array.getElem?_toList]
   rw [← hc j hj, ← hr4, List.getElem?_take, if_pos (by omega)] at hu
   exact hu
  simp only [Value.agg.injEq] at hag
  have hvs : vs = [.string nm, .int .i64 0, .slice A1 l1 c1, .slice A2 l2 c2] := by
   have := congrArg Array.toList hag
   simpa using this
  subst hvs
  exact ⟨nm, 0, A1, A2, l1, c1, l2, c2, ns, hnm, hpar.words, hst.1.up (fun _ _ hv => hv.ok), hsum, hcur 0 _ (by omega) rfl, hcur 1 _ (by omega) rfl, hcur 2 _ (by omega) rfl, hcur 3 _ (by omega) rfl⟩
end Go.Proofs.YtchibamdkaejdaaDoor
namespace Go.Proofs.YtchibamdkaejdaaDoor
open Go.RowKit

/-- A row of numbers that came in. -/
structure Ints (w : World) (A : Option Addr) (len cap : Nat) : Prop where
 len_le : len ≤ cap
 cap_le : cap ≤ maxLen
 row : ∀ i, i < len → ∃ (b o : Nat) (x : Int), A = some ⟨b, o, none⟩ ∧ b < w.heap.size ∧ -9223372036854775808 ≤ x ∧ x < 9223372036854775808 ∧ w.cell? ⟨b, o + i, none⟩ = some (.int .i64 x)
theorem Ints.place {w : World} {A : Option Addr} {len cap : Nat} (h : Ints w A len cap) : ∃ (b o : Nat), len = 0 ∨ (A = some ⟨b, o, none⟩ ∧ b < w.heap.size) := by
 by_cases hl : len = 0
 ·exact ⟨0, 0, .inl hl⟩
 ·obtain ⟨b, o, x, e, hb, _⟩ := h.row 0 (by omega)
  exact ⟨b, o, .inr ⟨e, hb⟩⟩
theorem prog_info : (Tryd.prog.info? 45).map (·.size) = some 2 := by kernel_rfl
/-- A program's cells are loaded, stored and returned whole. -/
theorem load_prog {ops : Array Oper} {rest : List Oper} {op : Oper} {a : Act} {w : World} {Q : Exit → Act → World → Prop} (hgd : op.guard = none) (x : Operand) (ho : op.op = .load 45 x)
  (N : Nat) (cs : Array Value) (hx : a.eval x = .pointer (some ⟨N, 0, none⟩)) (hz : w.heap[N]? = some (.cells cs 45 (0, 0))) (hcs : cs.size = 2)
  (h : wpList Tryd.prog ops Q rest (a.put op.dst (.agg cs)) w) : wpList Tryd.prog ops Q (op :: rest) a w := by
 refine wpList_load_mid hgd _ x ho N 0 hx cs.toList _ (range_block hz) Tryd.underlying45 rfl (by rw [prog_info, Array.length_toList, hcs]) ?_
 exact h
theorem store_prog {ops : Array Oper} {rest : List Oper} {op : Oper} {a : Act} {w : World} {Q : Exit → Act → World → Prop} (hgd : op.guard = none) (hds : op.dst = none) (x y : Operand) (ho : op.op = .store 45 x y)
  (N : Nat) (old cs : Array Value) (hx : a.eval x = .pointer (some ⟨N, 0, none⟩)) (hy : a.eval y = .agg cs) (hz : w.heap[N]? = some (.cells old 45 (0, 0))) (ho' : old.size = 2) (hcs : cs.size = 2) (h1 : ∀ v ∈ cs.toList, v.oneCell' = true)
  (h : ∀ U, SetB N cs 45 w U → wpList Tryd.prog ops Q rest a U) : wpList Tryd.prog ops Q (op :: rest) a w := by
 refine wpList_store_mid hgd _ x y ho N 0 cs hx hy (there_block hz (by omega)) (by rw [prog_info, hcs]) (Array.all_eq_true_iff_forall_mem.2 (fun v hv => h1 v (by simpa using hv))) ?_
 rw [hds]
 exact h _ (by simpa using setB_cells (vs := cs.toList) hz (by rw [Array.length_toList]; omega))
theorem ret_prog {w : World} {N : Nat} {cs : Array Value} (hz : w.heap[N]? = some (.cells cs 45 (0, 0))) (hcs : cs.size = 2) : (loadVar 45 ⟨N, 0, none⟩).run Tryd.prog w = .ok (.agg cs) w := by
 have := run_loadVar_mid (P := Tryd.prog) w N 0 45 cs.toList _ (range_block hz) Tryd.underlying45 rfl (by rw [prog_info, Array.length_toList, hcs])
 simpa using this
/-- The loop of Program. -/
noncomputable def pgL : Code := pIn (pIn (pSnd (pFst (pSnd (pSnd (pSnd (pSnd (pSnd (Tryd.f17.body.getD .skip)))))))))
theorem pgL_code : pgL = oSnd (oFst (oIn (fun _ => pgZ))) pgL := by kernel_rfl
theorem Pres.bel {O : Nat} {w w9 w' : World} (h : Below w.heap.size w w9) (k : Pres w.heap.size O w9 w') : Below w.heap.size w w' :=
 ⟨k.os.trans h.os, k.tape.trans h.tape, k.output.trans h.output, Nat.le_trans h.size k.size, fun b hb => (k.low b hb (Nat.lt_of_lt_of_le hb h.size)).trans (h.block b hb)⟩
set_option linter.unusedSimpArgs false in
set_option linter.unusedVariables false in
set_option maxHeartbeats 0 in
set_option maxRecDepth 100000 in
theorem program_any (w : World) (A : Option Addr) (len cap : Nat) (h : Ints w A len cap) :
  Calls Tryd.prog 17 #[.slice A len cap] w fun e w' => ∃ (AR AF : Option Addr) (lR cR lF cF : Nat), e = .returned (.agg #[.slice AR lR cR, .slice AF lF cF]) ∧ RecsOk w' AR lR cR ∧ FunsOk w' AF lF cF ∧ Below w.heap.size w w' := by
 have HSA : Hid (StmtsAt 1 4) := @Lib.hid (StmtsAt 1 4) @stmts_14
 obtain ⟨W1, hW1⟩ : ∃ W, Hid (w.alloc (.cells #[.slice none 0 0, .slice none 0 0] 45) = W) := ⟨_, Lib.hid rfl⟩
 have hb1 : Below w.heap.size w W1 := by rw [← hW1.out]; exact (Below.refl _ _).alloc (Nat.le_refl _) _
 have hs1 : Hid (W1.heap.size = w.heap.size + 1) := Lib.hid (by rw [← hW1.out]; exact (Array.size_push _))
 have HN1 : Hid (W1.heap[w.heap.size]? = some (.cells #[.slice none 0 0, .slice none 0 0] 45 (0, 0))) := Lib.hid (by rw [← hW1.out, show (w.alloc _).heap = _ from rfl]; exact Array.getElem?_push_size)
 obtain ⟨W2, hW2⟩ : ∃ W, Hid (W1.alloc (.cells #[.slice A len cap, .int .i64 0] 64) = W) := ⟨_, Lib.hid rfl⟩
 have hb2 : Below W1.heap.size W1 W2 := by rw [← hW2.out]; exact (Below.refl _ _).alloc (Nat.le_refl _) _
 have hs2 : Hid (W2.heap.size = w.heap.size + 1 + 1) := Lib.hid (by rw [← hW2.out]; exact (Array.size_push _).trans (by rw [hs1.out]))
 have HN2 : Hid (W2.heap[w.heap.size + 1]? = some (.cells #[.slice A len cap, .int .i64 0] 64 (0, 0))) := Lib.hid (by rw [← hW2.out, ← hs1.out, show (W1.alloc _).heap = _ from rfl]; exact Array.getElem?_push_size)
 have HN1 : Hid (W2.heap[w.heap.size]? = some (.cells #[.slice none 0 0, .slice none 0 0] 45 (0, 0))) := Lib.hid ((hb2.block _ (Array.getElem?_eq_some_iff.1 HN1.out).1).trans HN1.out)
 obtain ⟨W3, hW3⟩ : ∃ W, Hid (W2.alloc (.cells #[.string ⟨#[120]⟩, .string ⟨#[121]⟩] 9) = W) := ⟨_, Lib.hid rfl⟩
 have hb3 : Below W2.heap.size W2 W3 := by rw [← hW3.out]; exact (Below.refl _ _).alloc (Nat.le_refl _) _
 have hs3 : Hid (W3.heap.size = w.heap.size + 1 + 1 + 1) := Lib.hid (by rw [← hW3.out]; exact (Array.size_push _).trans (by rw [hs2.out]))
 have HN3 : Hid (W3.heap[w.heap.size + 1 + 1]? = some (.cells #[.string ⟨#[120]⟩, .string ⟨#[121]⟩] 9 (0, 0))) := Lib.hid (by rw [← hW3.out, ← hs2.out, show (W2.alloc _).heap = _ from rfl]; exact Array.getElem?_push_size)
 have HN1 : Hid (W3.heap[w.heap.size]? = some (.cells #[.slice none 0 0, .slice none 0 0] 45 (0, 0))) := Lib.hid ((hb3.block _ (Array.getElem?_eq_some_iff.1 HN1.out).1).trans HN1.out)
 have HN2 : Hid (W3.heap[w.heap.size + 1]? = some (.cells #[.slice A len cap, .int .i64 0] 64 (0, 0))) := Lib.hid ((hb3.block _ (Array.getElem?_eq_some_iff.1 HN2.out).1).trans HN2.out)
 obtain ⟨W4, hW4⟩ : ∃ W, Hid (W3.alloc (.cells #[.string ⟨#[80]⟩, .slice (some ⟨w.heap.size + 1 + 1, 0, none⟩) 2 2] 56) = W) := ⟨_, Lib.hid rfl⟩
 have hb4 : Below W3.heap.size W3 W4 := by rw [← hW4.out]; exact (Below.refl _ _).alloc (Nat.le_refl _) _
 have hs4 : Hid (W4.heap.size = w.heap.size + 1 + 1 + 1 + 1) := Lib.hid (by rw [← hW4.out]; exact (Array.size_push _).trans (by rw [hs3.out]))
 have HN4 : Hid (W4.heap[w.heap.size + 1 + 1 + 1]? = some (.cells #[.string ⟨#[80]⟩, .slice (some ⟨w.heap.size + 1 + 1, 0, none⟩) 2 2] 56 (0, 0))) := Lib.hid (by rw [← hW4.out, ← hs3.out, show (W3.alloc _).heap = _ from rfl]; exact Array.getElem?_push_size)
 have HN1 : Hid (W4.heap[w.heap.size]? = some (.cells #[.slice none 0 0, .slice none 0 0] 45 (0, 0))) := Lib.hid ((hb4.block _ (Array.getElem?_eq_some_iff.1 HN1.out).1).trans HN1.out)
 have HN2 : Hid (W4.heap[w.heap.size + 1]? = some (.cells #[.slice A len cap, .int .i64 0] 64 (0, 0))) := Lib.hid ((hb4.block _ (Array.getElem?_eq_some_iff.1 HN2.out).1).trans HN2.out)
 have HN3 : Hid (W4.heap[w.heap.size + 1 + 1]? = some (.cells #[.string ⟨#[120]⟩, .string ⟨#[121]⟩] 9 (0, 0))) := Lib.hid ((hb4.block _ (Array.getElem?_eq_some_iff.1 HN3.out).1).trans HN3.out)
 obtain ⟨W5, hW5⟩ : ∃ W, Hid (W4.alloc (.cells #[.slice (some ⟨w.heap.size + 1 + 1 + 1, 0, none⟩) 1 1, .slice none 0 0] 45) = W) := ⟨_, Lib.hid rfl⟩
 have hb5 : Below W4.heap.size W4 W5 := by rw [← hW5.out]; exact (Below.refl _ _).alloc (Nat.le_refl _) _
 have hs5 : Hid (W5.heap.size = w.heap.size + 1 + 1 + 1 + 1 + 1) := Lib.hid (by rw [← hW5.out]; exact (Array.size_push _).trans (by rw [hs4.out]))
 have HN5 : Hid (W5.heap[w.heap.size + 1 + 1 + 1 + 1]? = some (.cells #[.slice (some ⟨w.heap.size + 1 + 1 + 1, 0, none⟩) 1 1, .slice none 0 0] 45 (0, 0))) := Lib.hid (by rw [← hW5.out, ← hs4.out, show (W4.alloc _).heap = _ from rfl]; exact Array.getElem?_push_size)
 have HN1 : Hid (W5.heap[w.heap.size]? = some (.cells #[.slice none 0 0, .slice none 0 0] 45 (0, 0))) := Lib.hid ((hb5.block _ (Array.getElem?_eq_some_iff.1 HN1.out).1).trans HN1.out)
 have HN2 : Hid (W5.heap[w.heap.size + 1]? = some (.cells #[.slice A len cap, .int .i64 0] 64 (0, 0))) := Lib.hid ((hb5.block _ (Array.getElem?_eq_some_iff.1 HN2.out).1).trans HN2.out)
 have HN3 : Hid (W5.heap[w.heap.size + 1 + 1]? = some (.cells #[.string ⟨#[120]⟩, .string ⟨#[121]⟩] 9 (0, 0))) := Lib.hid ((hb5.block _ (Array.getElem?_eq_some_iff.1 HN3.out).1).trans HN3.out)
 have HN4 : Hid (W5.heap[w.heap.size + 1 + 1 + 1]? = some (.cells #[.string ⟨#[80]⟩, .slice (some ⟨w.heap.size + 1 + 1, 0, none⟩) 2 2] 56 (0, 0))) := Lib.hid ((hb5.block _ (Array.getElem?_eq_some_iff.1 HN4.out).1).trans HN4.out)
 have hB5 : Below w.heap.size w W5 := ((((hb1).trans (hb2.mono (hb1.size))).trans (hb3.mono ((Nat.le_trans hb1.size hb2.size)))).trans (hb4.mono ((Nat.le_trans hb1.size (Nat.le_trans hb2.size hb3.size))))).trans (hb5.mono ((Nat.le_trans hb1.size (Nat.le_trans hb2.size (Nat.le_trans hb3.size hb4.size)))))
 have ht5 : TapeAt W5 (w.heap.size + 1) A len cap 0 := ⟨HN2.out, h.len_le, h.cap_le, fun i hi => by
  obtain ⟨b, o, x, e, hb, h1, h2, h3⟩ := h.row i hi
  exact ⟨b, o, x, e, Nat.lt_of_lt_of_le hb hB5.size, by omega, h1, h2, (hB5.cell (p := ⟨b, o + i, none⟩) hb).trans h3⟩⟩
 have HB5 := Lib.hid hB5
 have HT5 := Lib.hid ht5
 have HPL := Lib.hid h.place
 clear hb1 hb2 hb3 hb4 hb5 hB5 ht5 h
 go_enter Tryd.func17, Tryd.ntmps17
 go_wp2_with fail
 rw [hW1.out, hW2.out, hW3.out, hW4.out, hW5.out]
 refine (next_any W5 _ A len cap 0 HT5.out 4 (by omega) (by omega)).mono ?_
 rintro e w6 ⟨n', t6, rfl, n0, n1, hm6⟩
 obtain ⟨n, rfl⟩ : ∃ n : Nat, n' = (n : Int) := ⟨n'.toNat, by omega⟩
 have hwn : IntKind.i64.wrap (1 + (n : Int)) = 1 + (n : Int) := IntWalk.i64_in _ (by omega)
 have HG6 := Lib.hid hm6.grew
 have HT6 := Lib.hid (hm6.tapeAt HT5.out)
 clear hm6
 go_wp2_with fail
 refine (next_any w6 _ A len cap _ HT6.out 3 (by omega) (by omega)).mono ?_
 rintro e w7 ⟨p1', t7, rfl, p1a, p1b, hm⟩
 obtain ⟨p1, rfl⟩ : ∃ n : Nat, p1' = (n : Int) := ⟨p1'.toNat, by omega⟩
 have HG7 := Lib.hid hm.grew
 have HT7 := Lib.hid (hm.tapeAt HT6.out)
 clear hm
 go_wp2_with fail
 refine (next_any w7 _ A len cap _ HT7.out 4 (by omega) (by omega)).mono ?_
 rintro e w8 ⟨p2', t8, rfl, p2a, p2b, hm⟩
 obtain ⟨p2, rfl⟩ : ∃ n : Nat, p2' = (n : Int) := ⟨p2'.toNat, by omega⟩
 have HG8 := Lib.hid hm.grew
 have HT8 := Lib.hid (hm.tapeAt HT7.out)
 clear hm
 go_wp2_with fail
 refine (next_any w8 _ A len cap _ HT8.out 5 (by omega) (by omega)).mono ?_
 rintro e w9 ⟨p3', t9, rfl, p3a, p3b, hm⟩
 obtain ⟨p3, rfl⟩ : ∃ n : Nat, p3' = (n : Int) := ⟨p3'.toNat, by omega⟩
 have HG9 := Lib.hid hm.grew
 have HT9 := Lib.hid (hm.tapeAt HT8.out)
 clear hm
 obtain ⟨w10, hw10⟩ : ∃ W, Hid (w9.alloc (.cells #[.int .i64 2, .int .i64 (p1 : Int), .int .i64 (p2 : Int), .int .i64 (p3 : Int)] 3) = W) := ⟨_, Lib.hid rfl⟩
 have hb10 : Below w9.heap.size w9 w10 := by rw [← hw10.out]; exact (Below.refl _ _).alloc (Nat.le_refl _) _
 have HP : Hid (w10.heap[w9.heap.size]? = some (.cells #[.int .i64 2, .int .i64 (p1 : Int), .int .i64 (p2 : Int), .int .i64 (p3 : Int)] 3 (0, 0))) := Lib.hid (by rw [← hw10.out]; exact Array.getElem?_push_size)
 have hz6 := HG6.out.size
 have hz7 := HG7.out.size
 have hz8 := HG8.out.size
 have hz9 := HG9.out.size
 have hkk : ∀ b, b < W5.heap.size → b ≠ w.heap.size + 1 → w10.heap[b]? = W5.heap[b]? := fun b hb hn =>
  (hb10.block b (by omega)).trans ((HG9.out.block b (by omega) hn).trans ((HG8.out.block b (by omega) hn).trans ((HG7.out.block b (by omega) hn).trans (HG6.out.block b hb hn))))
 have HN1 : Hid (w10.heap[w.heap.size]? = some (.cells #[.slice none 0 0, .slice none 0 0] 45 (0, 0))) := Lib.hid ((hkk _ (Array.getElem?_eq_some_iff.1 HN1.out).1 (by omega)).trans HN1.out)
 have HN3 : Hid (w10.heap[w.heap.size + 1 + 1]? = some (.cells #[.string ⟨#[120]⟩, .string ⟨#[121]⟩] 9 (0, 0))) := Lib.hid ((hkk _ (Array.getElem?_eq_some_iff.1 HN3.out).1 (by omega)).trans HN3.out)
 have HN4 : Hid (w10.heap[w.heap.size + 1 + 1 + 1]? = some (.cells #[.string ⟨#[80]⟩, .slice (some ⟨w.heap.size + 1 + 1, 0, none⟩) 2 2] 56 (0, 0))) := Lib.hid ((hkk _ (Array.getElem?_eq_some_iff.1 HN4.out).1 (by omega)).trans HN4.out)
 have HN5 : Hid (w10.heap[w.heap.size + 1 + 1 + 1 + 1]? = some (.cells #[.slice (some ⟨w.heap.size + 1 + 1 + 1, 0, none⟩) 1 1, .slice none 0 0] 45 (0, 0))) := Lib.hid ((hkk _ (Array.getElem?_eq_some_iff.1 HN5.out).1 (by omega)).trans HN5.out)
 have hs5' := hs5.out
 have hz10 := hb10.size
 have HB10 : Hid (Below w.heap.size w w10) := Lib.hid ⟨hb10.os.trans (HG9.out.os.trans (HG8.out.os.trans (HG7.out.os.trans (HG6.out.os.trans HB5.out.os)))), hb10.tape.trans (HG9.out.tape.trans (HG8.out.tape.trans (HG7.out.tape.trans (HG6.out.tape.trans HB5.out.tape)))), hb10.output.trans (HG9.out.output.trans (HG8.out.output.trans (HG7.out.output.trans (HG6.out.output.trans HB5.out.output)))), by omega, fun b hb => (hkk b (by omega) (by omega)).trans (HB5.out.block b hb)⟩
 have HT10 := Lib.hid (HT9.out.but HPL.out (C := fun _ => False) (But.of_below hb10) (fun h => h) (fun _ h => h.elim))
 have hzz : Hid (w.heap.size + 1 + 1 + 1 + 1 < w10.heap.size) := Lib.hid (by omega)
 have hPO : Hid (w9.heap.size ≠ w.heap.size + 1 + 1 + 1 + 1) := Lib.hid (by omega)
 clear hkk hb10 hz6 hz7 hz8 hz9 hz10 hs5'
 go_wp2_with fail
 rw [hw10.out]
 go_loopw [7] (fun i wr => ∃ (k cF : Nat) (AF : Option Addr), i = .int .i64 (k : Int) ∧ k ≤ 1 + n ∧ wr.heap[w.heap.size + 1 + 1 + 1 + 1]? = some (.cells #[.slice (some ⟨w.heap.size + 1 + 1 + 1, 0, none⟩) 1 1, .slice AF k cF] 45 (0, 0)) ∧ FnsAt wr wr.heap.size w.heap.size AF k cF ∧ (∃ pos, TapeAt wr (w.heap.size + 1) A len cap pos) ∧ Pres w.heap.size (w.heap.size + 1 + 1 + 1 + 1) w10 wr) (fun i _ => 1 + n - (intOf i).toNat)
 case atStart => exact ⟨0, 0, none, rfl, Nat.zero_le _, HN5.out, FnsAt.nil _ _ _, ⟨_, HT10.out⟩, Pres.below (Below.refl _ _)⟩
 case round =>
  obtain ⟨k, cF, AF, rfl, hk, hO, hFns, ⟨pos, ht⟩, hpr⟩ := hrel
  have hzw := hpr.size
  have hzz' := hzz.out
  have HO := Lib.hid hO
  have HFns := Lib.hid hFns
  have HTr := Lib.hid ht
  have HPr := Lib.hid hpr
  have HPw : Hid (wr.heap[w9.heap.size]? = some (.cells #[.int .i64 2, .int .i64 (p1 : Int), .int .i64 (p2 : Int), .int .i64 (p3 : Int)] 3 (0, 0))) := Lib.hid (hpr.keep _ _ _ _ hPO.out (by decide) (by decide) (by decide) (by decide) HP.out)
  have HC0 : Hid (wr.heap[w.heap.size]? = some (.cells #[.slice none 0 0, .slice none 0 0] 45 (0, 0))) := Lib.hid (hpr.keep _ _ _ _ (by omega) (by decide) (by decide) (by decide) (by decide) HN1.out)
  have HXY : Hid (wr.heap[w.heap.size + 1 + 1]? = some (.cells #[.string ⟨#[120]⟩, .string ⟨#[121]⟩] 9 (0, 0))) := Lib.hid (hpr.keep _ _ _ _ (by omega) (by decide) (by decide) (by decide) (by decide) HN3.out)
  have HRC : Hid (wr.heap[w.heap.size + 1 + 1 + 1]? = some (.cells #[.string ⟨#[80]⟩, .slice (some ⟨w.heap.size + 1 + 1, 0, none⟩) 2 2] 56 (0, 0))) := Lib.hid (hpr.keep _ _ _ _ (by omega) (by decide) (by decide) (by decide) (by decide) HN4.out)
  clear hO hFns ht hpr
  show Code.wp _ pgL _ _ _
  rw [pgL_code]
  simp only [oSnd, oFst, oIn, pgL, pFst, pSnd, pIn, Tryd.f17, Option.getD]
  by_cases hlt : k < 1 + n
  ·have hlt' : (k : Int) < 1 + (n : Int) := by omega
   go_wp2_with fail
   refine pg_round w.heap.size w.heap.size (w.heap.size + 1) (w.heap.size + 1 + 1 + 1 + 1) w9.heap.size w.heap.size k cF len cap k (1 + (n : Int)) A AF (.slice (some ⟨w.heap.size + 1 + 1 + 1, 0, none⟩) 1 1) wr HSA pos HTr.out HPL.out p1 p2 p3 HPw.out (by omega) (by omega) (by omega) (by omega) hlt' (by omega) HO.out HFns.out (by omega) (Nat.le_refl _) (by omega) (by omega) (by omega) (by omega) _ ?_ ?_
   ·rintro a' w' ⟨⟨M, F, x, rfl⟩, AF', cF', h1, h2, h3, h4⟩
    go_wp2_with fail
    go_roundw
    case rel => exact ⟨k + 1, cF', AF', by go_num, by omega, h1, h2, h4, HPr.out.trans h3⟩
    case measure => simp [intOf]; omega
   ·exact fun _ _ _ _ _ h => h
  ·obtain rfl : k = 1 + n := by omega
   have hlt' : ¬ ((1 + n : Nat) : Int) < 1 + (n : Int) := by omega
   go_wp2_with (first | ((with_reducible show wpList _ _ _ (Oper.mk _ (Op.load 45 _) _ _ _ none :: _) _ _); refine load_prog rfl _ rfl (w.heap.size + 1 + 1 + 1 + 1) _ rfl HO.out rfl ?_) | ((with_reducible show wpList _ _ _ (Oper.mk none (Op.store 45 _ _) _ _ _ none :: _) _ _); refine store_prog rfl rfl _ _ rfl w.heap.size _ (#[.slice (some ⟨w.heap.size + 1 + 1 + 1, 0, none⟩) 1 1, .slice AF (1 + n) cF]) rfl rfl HC0.out rfl rfl (by intro u hu; simp only [List.mem_cons, List.not_mem_nil, or_false] at hu; rcases hu with rfl | rfl <;> rfl) ?_; intro U hU))
   (try simp only [Exit.inBlock, Exit.then])
   have hld := ret_prog hU.at_ rfl
   refine bodyPost_ret (v := .agg (#[.slice (some ⟨w.heap.size + 1 + 1 + 1, 0, none⟩) 1 1, .slice AF (1 + n) cF])) (by simp [results, Tryd.results17, Act.put, asAddr, Result.andThen, hld]) rfl ?_
   have hne : ∀ (b : Nat) (cur : Array Value) (e : TypeId) (fr : Nat × Nat), e ≠ 45 → wr.heap[b]? = some (.cells cur e fr) → U.heap[b]? = some (.cells cur e fr) := fun b cur e fr he hb => (hU.block b (differ hb HC0.out he)).trans hb
   have kXY := hne _ _ _ _ (by decide) HXY.out
   have kRC := hne _ _ _ _ (by decide) HRC.out
   refine ⟨_, _, _, _, _, _, rfl, ⟨by omega, by decide, by omega, fun _ => ⟨w.heap.size + 1 + 1 + 1, rfl, (Array.getElem?_eq_some_iff.1 kRC).1, fun j hj => ?_⟩⟩, (HFns.out.keep (Nat.le_of_eq hU.size.symm) (fun g hg => ?_) (fun b cur fr hb => hne b cur _ fr (by decide) hb) (fun b cur e fr _ he hb => hne b cur e fr (by rcases he with rfl | rfl <;> decide) hb)).funs (by omega), pg_setU (Pres.bel HB10.out HPr.out) hU (Nat.le_refl _)⟩
   ·obtain rfl : j = 0 := by omega
    exact ⟨⟨#[80]⟩, some ⟨w.heap.size + 1 + 1, 0, none⟩, 2, 2, by decide, ⟨by omega, by decide, by omega, fun _ => ⟨w.heap.size + 1 + 1, rfl, (Array.getElem?_eq_some_iff.1 kXY).1, fun j hj => by
     have : j = 0 ∨ j = 1 := by omega
     rcases this with rfl | rfl
     ·exact ⟨⟨#[120]⟩, by decide, at_cell (o := 0) kXY rfl⟩
     ·exact ⟨⟨#[121]⟩, by decide, at_cell (o := 1) kXY rfl⟩⟩⟩, at_cell (o := 0) kRC rfl, at_cell (o := 1) kRC rfl⟩
   ·obtain ⟨_, _, cur', hc'⟩ := HFns.out.place g hg
    exact hU.block g (differ hc' HC0.out (by decide))
end Go.Proofs.YtchibamdkaejdaaDoor
namespace Go.Proofs.YtchibamdkaejdaaDoor
open Go.RowKit

theorem text_any (w : World) (A : Option Addr) (len cap : Nat) (h : Ints w A len cap) : Calls Tryd.prog 8 #[.slice A len cap] w (Str w 1000000000) := by
 go_enter Tryd.func8, Tryd.ntmps8
 go_wp2_with fail
 refine (program_any w A len cap h).mono ?_
 rintro e w1 ⟨AR, AF, lR, cR, lF, cF, rfl, hR, hF, hb⟩
 have HB := Lib.hid hb
 clear hb
 go_wp2_with fail
 refine (print_any w1 AR AF lR cR lF cF hR hF).mono ?_
 rintro e w2 ⟨s, rfl, hs, hb2⟩
 have HB2 := Lib.hid (HB.out.trans (hb2.mono HB.out.size))
 clear hb2
 go_wp2_with fail
 go_ret
 exact ⟨s, rfl, hs, HB2.out⟩
theorem Ints.below {w w' : World} {A : Option Addr} {len cap len' cap' : Nat} (h : Ints w A len cap) (hb : Below w.heap.size w w') (h1 : len' ≤ len) (h2 : len' ≤ cap') (h3 : cap' ≤ maxLen) : Ints w' A len' cap' :=
 ⟨h2, h3, fun i hi => by
  obtain ⟨b, o, x, e, hlt, g1, g2, g3⟩ := h.row i (by omega)
  exact ⟨b, o, x, e, Nat.lt_of_lt_of_le hlt hb.size, g1, g2, (hb.cell (p := ⟨b, o + i, none⟩) hlt).trans g3⟩⟩
theorem ints_of {w : World} {A : Option Addr} {len cap : Nat} {zs : List Int} (h : (A = none ∧ len = 0 ∧ cap = 0 ∧ zs = []) ∨ ∃ x, A = some x ∧ len ≤ cap ∧ cap ≤ maxLen ∧ zs.length = cap ∧ (∀ i, i < zs.length → w.cell? (x.add i) = some (.int .i64 (zs.getD i 0))) ∧ ∀ n ∈ zs, (Lit.int .i64 n).wf = true) : Ints w A len cap := by
 rcases h with ⟨rfl, rfl, rfl, _⟩ | ⟨⟨b, o, sp⟩, rfl, h1, h2, h3, h4, h5⟩
 ·exact ⟨Nat.le_refl _, Nat.zero_le _, fun i hi => absurd hi (by omega)⟩
 ·refine ⟨h1, h2, fun i hi => ?_⟩
  have h0 := h4 0 (by omega)
  have hsp : sp = none := by
   cases sp with
   | none => rfl
   | some v =>
    exfalso
    simp only [Addr.add, if_pos, World.cell?] at h0
    split at h0 <;> simp at h0
  subst hsp
  have hi' := h4 i (by omega)
  rw [Addr.add_mid] at hi' h0
  have hb : b < w.heap.size := by
   simp only [World.cell?] at h0
   split at h0
   ·rename_i hh
    exact (Array.getElem?_eq_some_iff.1 hh).1
   ·simp at h0
  have hm : zs.getD i 0 ∈ zs := by
   rw [List.getD_eq_getElem?_getD, List.getElem?_eq_getElem (by omega)]
   exact List.getElem_mem _
  have hr := h5 _ hm
  obtain ⟨x, hx⟩ : ∃ x, zs.getD i 0 = x := ⟨_, rfl⟩
  rw [hx] at hr hi'
  simp [Lit.wf, IntKind.min, IntKind.max, IntKind.bits, IntKind.signed] at hr
  exact ⟨b, o, x, rfl, hb, by omega, by omega, hi'⟩
/-- What the laws want of Text. -/
theorem text_later {w : World} {A : Option Addr} {l c : Nat} (h : Ints w A l c) : ∀ w1, Below w.heap.size w w1 → ∀ l' c', l' ≤ 200 → l' ≤ l → (l' ≤ c' ∧ c' ≤ 9223372036854775807) → Calls Tryd.prog 8 #[.slice A l' c'] w1 (Str w1 1000000000) :=
 fun w1 hb l' c' _ hl hc => text_any w1 A l' c' (h.below hb hl hc.1 (by unfold maxLen; omega))
end Go.Proofs.YtchibamdkaejdaaDoor
