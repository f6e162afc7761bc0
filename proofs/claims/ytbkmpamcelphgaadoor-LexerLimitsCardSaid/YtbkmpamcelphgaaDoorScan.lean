/-
  The walk of lexer.Scan: the tokens of a text, or the line of the first error. Condition: the package's variable holds the signs.
-/
import Derived.Test.YtbkmpamcelphgaaDoorTok
namespace Go.Proofs.YtbkmpamcelphgaaDoor
open Go.RowKit

/-- What Scan hands back: tokens, line and error, in memory of its own. -/
def Scanned (w : World) (R : List Tok × Nat × Nat) (e : Ending) (w' : World) : Prop :=
  ∃ A C, e = .returned (.tuple #[.slice A R.1.length C, .int .i64 R.2.1, .int .i64 R.2.2]) ∧ Toks w' w'.heap.size A C R.1 ∧ Below w.heap.size w w'

theorem scan_long (s : ByteArray) (w : World) (h : 4000 < s.size) (hm : s.size ≤ 9223372036854775807) (R : List Tok × Nat × Nat) (hR : Hid (scan s.data.toList = R)) :
    Calls Tryd.prog 15 #[.string s] w (Scanned w R) := by
  obtain rfl : R = ([], 0, 5) := by rw [← hR.out]; unfold scan; rw [if_pos (by simpa using h)]
  go_enter Tryd.func15, Tryd.ntmps15
  go_wp2_with fail
  go_ret3
  exact ⟨none, 0, rfl, toks_nil _ _, Below.refl _ _⟩

/-- A map's block and a row of tokens are different blocks. -/
theorem words_apart {w : World} {b base n : Nat} {v : Value} {xs : List Value} (h : WordsAt w b) (ho : w.ownsRow base 36 4 v n xs) : v.ownBlock ≠ some b := by
  intro e
  obtain ⟨es, clock, h1, _⟩ := h
  rcases ho.2 with ⟨rfl, _⟩ | ⟨g, cap, cur, rfl, _, hg, _⟩
  · simp [Value.ownBlock] at e
  · simp [Value.ownBlock] at e
    subst e
    rw [h1] at hg
    cases hg
theorem WordsAt.grown {w w' : World} {b : Nat} {row : Option Nat} (h : WordsAt w b) (hg : w.grownBy w' row) (hne : row ≠ some b) : WordsAt w' b := h.keep (hg.block b h.lt (fun e => hne e.symm))

theorem own_below {w w' : World} {base size n : Nat} {e : TypeId} {v : Value} {xs : List Value} (h : w.ownsRow base e size v n xs) (hb : Below w.heap.size w w') : w'.ownsRow base e size v n xs :=
  h.kept (row := none) ⟨hb.os, hb.tape, hb.output, hb.size, fun k hk _ => hb.block k hk⟩ (by cases hv : v.ownBlock <;> simp)
theorem row_new (w : World) (xs : List Value) (t : TypeId) (j : Nat) (u : Value) (h : xs[j]? = some u) : (w.alloc (.cells xs.toArray t)).cell? ((⟨w.heap.size, 0, none⟩ : Addr).add j) = some u := by
  rw [Addr.add_lit, Nat.zero_add, World.cell?_alloc_at _ _ _ _ rfl]
  simpa using h
theorem row_new2 (w : World) (o : Obj) (xs : List Value) (t : TypeId) (j : Nat) (u : Value) (h : xs[j]? = some u) : ((w.alloc o).alloc (.cells xs.toArray t)).cell? ((⟨w.heap.size + 1, 0, none⟩ : Addr).add j) = some u := by
  rw [Addr.add_lit, Nat.zero_add, World.cell?_alloc_at _ _ _ _ (by simp)]
  simpa using h
theorem tok_one (a b : Int) (tx : List UInt8) (n : Int) : ∀ u ∈ [Value.int .i64 a, .int .i64 b, .string ⟨tx.toArray⟩, .int .i64 n], u.oneCell' = true := by
  intro u hu
  simp only [List.mem_cons, List.not_mem_nil, or_false] at hu
  rcases hu with rfl | rfl | rfl | rfl <;> rfl

set_option maxHeartbeats 3200000 in
set_option maxRecDepth 100000 in
theorem scan_short (s : ByteArray) (w : World) (hS : SignsAt w) (h : s.size ≤ 4000) (R : List Tok × Nat × Nat) (hR : Hid (scan s.data.toList = R)) :
    Calls Tryd.prog 15 #[.string s] w (Scanned w R) := by
  obtain ⟨i0, hi, hz0, hz1, hz2⟩ := info_parts tokinfo
  have hlt0 := hS.lt
  have HS := Lib.hid hS
  clear hS
  have hR' : Hid (scanF (s.data.toList.length + 1) s.data.toList 1 [] = R) := by
    rw [← hR.out]; unfold scan; rw [if_neg (by simp; omega)]; exact Lib.hid rfl
  clear hR
  go_enter Tryd.func15, Tryd.ntmps15
  go_wp2_with (go_at_call 22; refine (reserved_any _).mono ?_; rintro e w1 ⟨b, rfl, hW1, hbb, hb1⟩)
  have hb1' : Below w.heap.size w (w1.alloc (.cells #[] 36)) := hb1.alloc hb1.size _
  have hW1' := hW1.below ((Below.refl _ _).alloc (Nat.le_refl _) (.cells #[] 36)) hW1.lt
  have hown0 := World.ownsRow_made (base := w.heap.size) (e := 36) (size := 4) w1 #[] 0 hb1.size (by simp [maxLen]) (by simp)
  have K1 := Lib.hid hb1'
  have K2 := Lib.hid hW1'
  have K3 := Lib.hid hown0
  clear hb1' hW1' hown0 hb1 hW1
  go_loopw [6, 7, 8] (fun v ln at_ wr => ∃ (p L f : Nat) (acc : List Tok), at_ = .int .i64 p ∧ ln = .int .i64 L ∧ p ≤ s.size ∧ L ≤ p + 1 ∧ acc.length ≤ 2000 ∧ wr.ownsRow w.heap.size 36 4 v acc.length (tvals acc) ∧ WordsAt wr b ∧ Below w.heap.size w wr ∧ scanF f (s.data.toList.drop p) L acc = R ∧ s.size - p < f) (fun _ _ at_ _ => s.size - (intOf at_).toNat)
  case atStart => exact ⟨0, 1, _, [], rfl, rfl, Nat.zero_le _, Nat.le_refl _, by simp, K3.out, K2.out, K1.out, hR'.out, by simp⟩
  case round =>
    obtain ⟨p, L, f, acc, rfl, rfl, hp, hL, hacc, hown, hW, hbel, hscan, hf⟩ := hrel
    obtain ⟨A, C, rfl, _, htk⟩ := toks_own hown
    have HT := Lib.hid htk
    have HO := Lib.hid hown
    have HW := Lib.hid hW
    have HR := Lib.hid hscan
    have HB := Lib.hid hbel
    clear htk hown hW hscan hbel K1 K2 K3 hR'
    obtain ⟨N, F, hg⟩ : ∃ N F, Hid (gap false (s.data.toList.drop p) = (N, F)) := ⟨_, _, Lib.hid rfl⟩
    have hNF : N ≤ s.size - p ∧ F ≤ N := by
      have := gap_le (s.data.toList.drop p) false
      rw [hg.out] at this
      simpa using this
    obtain ⟨hN, hF⟩ := hNF
    have hg' : Hid (gap false (s.extract p s.size).data.toList = (N, F)) := by rw [Lib.extract_to_end]; exact hg
    go_wp2_with fail
    refine (gap_any (s.extract p s.size) _ (by simp; omega) N F hg').mono ?_
    rintro e w2 ⟨rfl, hb2⟩
    by_cases hend : p + N = s.size
    · have hq : ((p : Int) + (N : Int) == (s.size : Int)) = true := by rw [beq_iff_eq]; omega
      have HO2 := Lib.hid (own_below HO.out hb2)
      have HB2 := Lib.hid (HB.out.trans (hb2.mono HB.out.size))
      have hsz := HB2.out.size
      go_wp2_with (at_builtin; refine wpList_append_own _ rfl _ _ 31 rfl w.heap.size 36 i0 _ 4 40 Tryd.underlying31 hi hz0 hz1 hz2 rfl (by decide) _ acc.length (tvals acc) rfl (HO2.out.alloc _) ⟨w2.heap.size, 0, none⟩ 1 1 [.int .i64 0, .int .i64 ((L : Int) + (F : Int)), .string ⟨#[]⟩, .int .i64 0] rfl rfl (fun j u hu => row_new w2 _ _ j u hu) (tok_one _ _ [] _) (by unfold maxLen; omega) (by omega) (by simp; omega) ?_; intro v3 w3 hown3 hgrow3 _)
      have hx : (acc ++ [⟨0, L + F, [], 0⟩], 0, 0) = R := by
        rw [← HR.out]
        obtain ⟨f', rfl⟩ : ∃ f', f = f' + 1 := ⟨f - 1, by omega⟩
        unfold scanF
        have hd : (s.data.toList.drop p).drop (gap false (s.data.toList.drop p)).1 = [] := by
          rw [hg.out, List.drop_drop]; exact drop_end s _ (by omega)
        rw [if_pos hd, hg.out]
      subst hx
      have hts : tvals acc ++ [.int .i64 0, .int .i64 ((L : Int) + (F : Int)), .string ⟨#[]⟩, .int .i64 0] = tvals (acc ++ [⟨0, L + F, [], 0⟩]) := by
        rw [tvals_append, tvals_one]; simp [Tok.cells]
      rw [hts] at hown3
      obtain ⟨A3, C3, rfl, _, htk3⟩ := toks_own hown3
      go_ret3
      refine ⟨A3, C3, rfl, htk3, ?_⟩
      exact (HB2.out.alloc hsz _).grown hgrow3 (by simp; omega) (fun k hk => (HO2.out.lt k hk).1)
    · have hlt : p + N < s.size := by omega
      have hq : ((p : Int) + (N : Int) == (s.size : Int)) = false := beq_no (by omega)
      clear hend
      obtain ⟨kd, tx, nm, sz, er, hF0⟩ : ∃ kd tx nm sz er, Hid (fst (s.data.toList.drop (p + N)) = ⟨kd, tx, nm, sz, er⟩) := ⟨_, _, _, _, _, Lib.hid rfl⟩
      have hF1 : Hid (fst (s.extract (p + N) s.size).data.toList = ⟨kd, tx, nm, sz, er⟩) := by rw [Lib.extract_to_end]; exact hF0
      have HB2 := Lib.hid (HB.out.trans (hb2.mono HB.out.size))
      have HO2 := Lib.hid (own_below HO.out hb2)
      have HW2 := Lib.hid (HW.out.below hb2 HW.out.lt)
      have HS2 := Lib.hid (HS.out.below HB2.out hlt0)
      have hsz2 := HB2.out.size
      have hstep : Hid (scanF f (s.data.toList.drop p) L acc = if er ≠ 0 then ([], L + F, er) else if acc.length = 2000 then ([], L + F, 5) else scanF (f - 1) (s.data.toList.drop (p + N + sz)) (L + F) (acc ++ [⟨kd, L + F, tx, nm⟩])) := by
        obtain ⟨f', rfl⟩ : ∃ f', f = f' + 1 := ⟨f - 1, by omega⟩
        have hd : ¬ (s.data.toList.drop (p + N)) = [] := by rw [drop_cons s _ hlt]; simp
        rw [scanF]
        simp only [hg.out, List.drop_drop, hF0.out, hd, if_false, Nat.add_sub_cancel]
        exact Lib.hid trivial
      have hstep2 := hstep.out
      rw [HR.out] at hstep2
      have HX := Lib.hid hstep2
      clear hstep hstep2
      go_wp2_with fail
      refine (ftok_any (s.extract (p + N) s.size) b w2 HS2.out HW2.out (by simp; omega) kd tx nm sz er hF1).mono ?_
      rintro e w3 ⟨rfl, hb3⟩
      have HB3 := Lib.hid (HB2.out.trans (hb3.mono hsz2))
      have HO3 := Lib.hid (own_below HO2.out hb3)
      have HW3 := Lib.hid (HW2.out.below hb3 HW2.out.lt)
      have hsz3 := HB3.out.size
      by_cases her : er = 0
      · subst her
        by_cases hfull : acc.length = 2000
        · have hq2 : ((acc.length : Int) == 2000) = true := by rw [beq_iff_eq]; omega
          have HF := Lib.hid hfull
          clear hfull
          go_wp2_with fail
          have hx := HX.out
          rw [if_neg (by simp), if_pos HF.out] at hx
          subst hx
          go_ret3
          exact ⟨none, 0, rfl, toks_nil _ _, HB3.out.alloc hsz3 _⟩
        · have hq2 : ((acc.length : Int) == 2000) = false := beq_no (by omega)
          have hless : acc.length < 2000 := by omega
          clear hfull
          have hsb := fst_size (s.data.toList.drop (p + N)) (by rw [hF0.out])
          rw [hF0.out] at hsb
          simp only [List.length_drop, Array.length_toList, ByteArray.size_data] at hsb
          obtain ⟨hsb1, hsb2⟩ := hsb
          go_wp2_with (at_builtin; refine wpList_append_own _ rfl _ _ 31 rfl w.heap.size 36 i0 _ 4 40 Tryd.underlying31 hi hz0 hz1 hz2 rfl (by decide) _ acc.length (tvals acc) rfl ((HO3.out.alloc _).alloc _) ⟨w3.heap.size + 1, 0, none⟩ 1 1 [.int .i64 kd, .int .i64 ((L : Int) + (F : Int)), .string ⟨tx.toArray⟩, .int .i64 nm] rfl rfl (fun j u hu => row_new2 w3 _ _ _ j u hu) (tok_one _ _ tx _) (by unfold maxLen; omega) (by omega) (by simp; omega) ?_; intro v4 w4 hown4 hgrow4 _)
          have hx := HX.out
          rw [if_neg (by simp), if_neg (by omega)] at hx
          have hts : tvals acc ++ [.int .i64 kd, .int .i64 ((L : Int) + (F : Int)), .string ⟨tx.toArray⟩, .int .i64 nm] = tvals (acc ++ [⟨kd, L + F, tx, nm⟩]) := by
            rw [tvals_append, tvals_one]; simp [Tok.cells]
          rw [hts] at hown4
          have hbw := ((HB3.out.alloc hsz3 (.cells #[.int .i64 kd, .int .i64 ((L : Int) + (F : Int)), .string ⟨tx.toArray⟩, .int .i64 nm] 36)).alloc (by simp; omega) (.cells #[.int .i64 kd, .int .i64 ((L : Int) + (F : Int)), .string ⟨tx.toArray⟩, .int .i64 nm] 36)).grown hgrow4 (by simp; omega) (fun k hk => (HO3.out.lt k hk).1)
          have hww : WordsAt w4 b := by
            refine WordsAt.grown ?_ hgrow4 (words_apart HW3.out HO3.out)
            exact (HW3.out.below ((Below.refl _ _).alloc (Nat.le_refl _) _) HW3.out.lt).below ((Below.refl _ _).alloc (Nat.le_refl _) _) (by simp; have := HW3.out.lt; omega)
          have hln : (acc ++ [(⟨kd, L + F, tx, nm⟩ : Tok)]).length = acc.length + 1 := by simp
          have HX2 := Lib.hid hx.symm
          have HLN := Lib.hid hln
          have HWW := Lib.hid hww
          have HBW := Lib.hid hbw
          have HON := Lib.hid hown4
          clear hx hln hww hbw hown4 hts
          go_roundw
          case rel => exact ⟨p + N + sz, L + F, f - 1, _, by go_num, by go_num, by omega, by omega, by rw [HLN.out]; omega, by rw [HLN.out]; exact HON.out, HWW.out, HBW.out, HX2.out, by omega⟩
          case measure => simp [intOf]; omega
      · have hq3 : ((er : Int) == 0) = false := beq_no (by omega)
        have hx := HX.out
        rw [if_pos her] at hx
        subst hx
        clear her HX
        go_wp2_with fail
        go_ret3
        exact ⟨none, 0, rfl, toks_nil _ _, HB3.out.alloc hsz3 _⟩
end Go.Proofs.YtbkmpamcelphgaaDoor
