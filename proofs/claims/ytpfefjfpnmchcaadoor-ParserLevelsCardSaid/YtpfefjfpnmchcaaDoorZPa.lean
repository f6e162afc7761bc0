/-
  The walks of the parser's smallest methods: refuse, next, at, accept, expect, name. Condition: the parser in memory. The walks of the parser's length, atCall, beginsExpression, operator. Condition: the parser in memory. The walk of the parser's names. Condition: the parser in memory. The walks of the parser's expression, target, unary and operation, for so many steps. Condition: the parser in memory.
-/
import Derived.Test.YtpfefjfpnmchcaaDoorZTr
import Derived.Test.YtpfefjfpnmchcaaDoorRows
import Derived.Test.YtpfefjfpnmchcaaDoorZLx
import Derived.WalkKit
import Derived.WalkLawsBesides
import Derived.Lib.Hide
import Derived.Lib.Split
import Derived.Handy
import Derived.Deep.LoopGhost
namespace Go.Proofs.YtpfefjfpnmchcaaDoor
open Go.RowKit
variable {m : Pm} {w : World} {nest : Nat} {ts : List Tok}

theorem tok_line (a b c d : Value) (w : World) : (Instr.field 87 (.agg #[a, b, c, d]) 1).run Tryd.prog w = .ok b w := by kernel_rfl
theorem tok_text (a b c d : Value) (w : World) : (Instr.field 87 (.agg #[a, b, c, d]) 2).run Tryd.prog w = .ok c w := by kernel_rfl
theorem tok_num (a b c d : Value) (w : World) : (Instr.field 87 (.agg #[a, b, c, d]) 3).run Tryd.prog w = .ok d w := by kernel_rfl

set_option maxRecDepth 100000 in
theorem refuse_any (h : PsAt m w nest ts) (k : Nat) :
    Calls Tryd.prog 40 #[.pointer (some ⟨m.P, 0, none⟩), .int .i64 k] w fun e w' => e = .panicked [refusal (hd ts).line k] ∧ Below w.heap.size w w' := by
  obtain ⟨t, rest, rfl⟩ := h.good.cons
  obtain ⟨o, c, ⟨p0, p1, p2, t0, t1, t2, t3, hl, hc, _, _⟩, _⟩ := h.head
  have hP := h.lt
  have hT := h.tok.1
  clear h
  go_enter Tryd.func40, Tryd.ntmps40
  go_wp2_with fail
  exact ⟨rfl, rfl, Below.refl _ _⟩

set_option maxRecDepth 100000 in
theorem next_any {t : Tok} {rest : List Tok} (h : PsAt m w nest (t :: rest)) (hr : Good rest) :
    Calls Tryd.prog 71 #[.pointer (some ⟨m.P, 0, none⟩)] w fun e w' => e = .returned (.agg #[.int .i64 t.kind, .int .i64 t.line, .string ⟨t.text.toArray⟩, .int .i64 t.num]) ∧ PsAt m w' nest rest ∧ Keeps m.P w w' := by
  obtain ⟨o, c, ⟨p0, p1, p2, t0, t1, t2, t3, hl, hc, f0, f1⟩, hmv⟩ := h.head
  have hP := h.lt
  have hT := h.tok
  have hrl : 1 ≤ rest.length := by
    obtain ⟨t', r', rfl⟩ := hr.cons
    simp
  have hc1 : ¬ c = 1 := by omega
  have HM := Lib.hid (hmv hr)
  clear h hmv
  go_enter Tryd.func71, Tryd.ntmps71
  go_wp2_with fail
  go_returns
  exact ⟨rfl, (HM.out.alloc _).alloc _, (((Keeps.refl _ _).set _ _).alloc _).alloc _⟩

set_option maxRecDepth 100000 in
theorem at_any (h : PsAt m w nest ts) (s : List UInt8) :
    Calls Tryd.prog 37 #[.pointer (some ⟨m.P, 0, none⟩), .string ⟨s.toArray⟩] w fun e w' => e = .returned (.bool ((hd ts).text == s)) ∧ w' = w := by
  obtain ⟨t, rest, rfl⟩ := h.good.cons
  obtain ⟨o, c, ⟨p0, p1, p2, t0, t1, t2, t3, hl, hc, _, _⟩, _⟩ := h.head
  have hP := h.lt
  have hT := h.tok.1
  clear h
  go_enter Tryd.func37, Tryd.ntmps37
  go_wp2_with fail
  go_ret
  exact ⟨rfl, rfl⟩

set_option maxRecDepth 100000 in
theorem accept_no (h : PsAt m w nest ts) (s : List UInt8) (hs : ¬ (hd ts).text = s) :
    Calls Tryd.prog 52 #[.pointer (some ⟨m.P, 0, none⟩), .string ⟨s.toArray⟩] w fun e w' => e = .returned (.bool false) ∧ w' = w := by
  have hq : ((hd ts).text == s) = false := by simpa using hs
  have HA := Lib.hid (at_any h s)
  clear h hs
  go_enter Tryd.func52, Tryd.ntmps52
  go_wp2_with (go_at_call 37; refine HA.out.mono ?_; rintro e w1 ⟨rfl, rfl⟩)
  go_ret
  exact ⟨rfl, rfl⟩

set_option maxRecDepth 100000 in
theorem accept_yes {t : Tok} {rest : List Tok} (h : PsAt m w nest (t :: rest)) (s : List UInt8) (hs : t.text = s) (h0 : s ≠ []) :
    Calls Tryd.prog 52 #[.pointer (some ⟨m.P, 0, none⟩), .string ⟨s.toArray⟩] w fun e w' => e = .returned (.bool true) ∧ PsAt m w' nest rest ∧ Keeps m.P w w' := by
  have hq : ((hd (t :: rest)).text == s) = true := by simpa [hd] using hs
  have HA := Lib.hid (at_any h s)
  have HN := Lib.hid (next_any h (h.good.tail (.inr (by rw [hs]; exact h0))))
  clear h hs
  go_enter Tryd.func52, Tryd.ntmps52
  go_wp2_with (go_at_call 37; refine HA.out.mono ?_; rintro e w1 ⟨rfl, rfl⟩)
  refine HN.out.mono ?_
  rintro e w2 ⟨rfl, h2, k2⟩
  have H2 := Lib.hid h2
  have K2 := Lib.hid k2
  clear h2 k2
  go_wp2_with fail
  go_ret
  exact ⟨rfl, H2.out, K2.out⟩
/-- accept, whichever. -/
theorem accept_any (h : PsAt m w nest ts) (s : List UInt8) (h0 : s ≠ []) :
    Calls Tryd.prog 52 #[.pointer (some ⟨m.P, 0, none⟩), .string ⟨s.toArray⟩] w fun e w' => e = .returned (.bool ((hd ts).text == s)) ∧ PsAt m w' nest (if (hd ts).text = s then ts.tail else ts) ∧ Keeps m.P w w' := by
  by_cases hs : (hd ts).text = s
  · obtain ⟨t, rest, rfl⟩ := h.good.cons
    refine (accept_yes h s hs h0).mono ?_
    rintro e w1 ⟨rfl, h1, k1⟩
    rw [if_pos hs]
    exact ⟨by rw [hs]; simp, h1, k1⟩
  · refine (accept_no h s hs).mono ?_
    rintro e w1 ⟨rfl, rfl⟩
    rw [if_neg hs]
    exact ⟨by simpa using hs, h, Keeps.refl _ _⟩

set_option maxRecDepth 100000 in
theorem expect_any (h : PsAt m w nest ts) (s : List UInt8) (h0 : s ≠ []) :
    Calls Tryd.prog 50 #[.pointer (some ⟨m.P, 0, none⟩), .string ⟨s.toArray⟩] w (Out m w nest (fun _ v _ => v = .tuple #[]) (expectP s ts)) := by
  by_cases hs : (hd ts).text = s
  · have hR : expectP s ts = .ok () ts.tail := by rw [expectP, if_pos hs]
    rw [hR]
    have hq : ((hd ts).text == s) = true := by simpa using hs
    have HA := Lib.hid (accept_any h s h0)
    rw [if_pos hs] at HA
    clear h hs hR
    go_enter Tryd.func50, Tryd.ntmps50
    go_wp2_with (go_at_call 52; refine HA.out.mono ?_; rintro e w1 ⟨rfl, h1, k1⟩; replace h1 := Lib.hid h1; replace k1 := Lib.hid k1)
    go_end0
    exact ⟨_, rfl, rfl, h1.out, k1.out⟩
  · have hR : expectP s ts = .err (hd ts).line 7 := by rw [expectP, if_neg hs]; rfl
    rw [hR]
    have hq : ((hd ts).text == s) = false := by simpa using hs
    have HA := Lib.hid (accept_no h s hs)
    have HF := Lib.hid (refuse_any h 7)
    clear h hs hR
    go_enter Tryd.func50, Tryd.ntmps50
    go_wp2_with (go_at_call 52; refine HA.out.mono ?_; rintro e w1 ⟨rfl, rfl⟩)
    refine HF.out.mono ?_
    rintro e w2 ⟨rfl, hb⟩
    exact ⟨rfl, rfl, Keeps.below hb⟩

set_option maxRecDepth 100000 in
theorem name_any (h : PsAt m w nest ts) :
    Calls Tryd.prog 51 #[.pointer (some ⟨m.P, 0, none⟩)] w (Out m w nest (fun _ v x => v = .string ⟨x.toArray⟩) (nameP ts)) := by
  obtain ⟨t, rest, rfl⟩ := h.good.cons
  obtain ⟨o, c, ⟨p0, p1, p2, t0, t1, t2, t3, hl, hc, _, _⟩, _⟩ := h.head
  have hP := h.lt
  have hT := h.tok.1
  by_cases hk : t.kind = 1
  · have hR : nameP (t :: rest) = .ok t.text rest := by rw [nameP, if_pos (show (hd (t :: rest)).kind = 1 from hk)]; rfl
    rw [hR]
    have hq : ((t.kind : Int) != 1) = false := by rw [hk]; rfl
    have HN := Lib.hid (next_any h (h.good.tail (.inl (by rw [hk]; decide))))
    have hfd := tok_text
    clear h hk hR
    go_enter Tryd.func51, Tryd.ntmps51
    go_wp2_with (go_at_call 71; refine HN.out.mono ?_; rintro e w1 ⟨rfl, h1, k1⟩; replace h1 := Lib.hid h1; replace k1 := Lib.hid k1)
    go_ret
    exact ⟨_, rfl, rfl, h1.out, k1.out⟩
  · have hR : nameP (t :: rest) = .err t.line 7 := by rw [nameP, if_neg (show ¬ (hd (t :: rest)).kind = 1 from hk)]; rfl
    rw [hR]
    have hq : ((t.kind : Int) != 1) = true := by simp; omega
    have HF := Lib.hid (refuse_any h 7)
    clear h hk hR
    go_enter Tryd.func51, Tryd.ntmps51
    go_wp2_with fail
    refine HF.out.mono ?_
    rintro e w2 ⟨rfl, hb⟩
    exact ⟨rfl, rfl, Keeps.below hb⟩
end Go.Proofs.YtpfefjfpnmchcaaDoor
namespace Go.Proofs.YtpfefjfpnmchcaaDoor
open Go.RowKit
variable {m : Pm} {w : World} {nest : Nat} {ts : List Tok}
theorem ne_beq {a b : Int} (h : a ≠ b) : (a == b) = false := by rw [beq_eq_false_iff_ne]; exact h

set_option maxRecDepth 100000 in
theorem length_any (h : PsAt m w nest ts) :
    Calls Tryd.prog 53 #[.pointer (some ⟨m.P, 0, none⟩)] w (Out m w nest (fun _ v (x : Nat) => v = .int .i64 x) (lengthP ts)) := by
  obtain ⟨t, rest, rfl⟩ := h.good.cons
  obtain ⟨o, c, ⟨p0, p1, p2, t0, t1, t2, t3, hl, hc, _, _⟩, _⟩ := h.head
  have hP := h.lt
  have hT := h.tok.1
  have hB := (Below.refl w.heap.size w).alloc (Nat.le_refl _) (.cells #[.int .i64 t.kind, .int .i64 t.line, .string ⟨t.text.toArray⟩, .int .i64 t.num] 87)
  have hA := h.alloc (.cells #[.int .i64 t.kind, .int .i64 t.line, .string ⟨t.text.toArray⟩, .int .i64 t.num] 87)
  have HF := Lib.hid (fun k => refuse_any hA k)
  have HB := Lib.hid hB
  have HA := Lib.hid hA
  clear hB hA
  by_cases hk : t.kind = 2
  · have hq : ((t.kind : Int) != 2) = false := by rw [hk]; rfl
    by_cases hn : t.num < 1 ∨ 8 < t.num
    · have hR : lengthP (t :: rest) = .err t.line 5 := by rw [lengthP, if_neg (show ¬ (hd (t :: rest)).kind ≠ 2 from fun e => e hk), if_pos (show (hd (t :: rest)).num < 1 ∨ 8 < (hd (t :: rest)).num from hn)]; rfl
      rw [hR]
      clear h hk hR
      go_enter Tryd.func53, Tryd.ntmps53
      go_wp2_with fail
      all_goals
        refine (HF.out 5).mono ?_
        rintro e w2 ⟨rfl, hb⟩
        exact ⟨rfl, rfl, Keeps.below (HB.out.trans (hb.mono (by simp)))⟩
    · have hR : lengthP (t :: rest) = .ok t.num rest := by rw [lengthP, if_neg (show ¬ (hd (t :: rest)).kind ≠ 2 from fun e => e hk), if_neg (show ¬ ((hd (t :: rest)).num < 1 ∨ 8 < (hd (t :: rest)).num) from hn)]; rfl
      rw [hR]
      have HN := Lib.hid (next_any HA.out (h.good.tail (.inl (by rw [hk]; decide))))
      have hfd := tok_num
      clear h hk hR
      go_enter Tryd.func53, Tryd.ntmps53
      go_wp2_with fail
      refine HN.out.mono ?_
      rintro e w2 ⟨rfl, h2, k2⟩
      have H2 := Lib.hid h2
      have K2 := Lib.hid k2
      clear h2 k2
      go_wp2_with fail
      go_ret
      exact ⟨_, rfl, rfl, H2.out, (Keeps.below HB.out).trans K2.out⟩
  · have hR : lengthP (t :: rest) = .err t.line 7 := by rw [lengthP, if_pos (show (hd (t :: rest)).kind ≠ 2 from hk)]; rfl
    rw [hR]
    have hq : ((t.kind : Int) != 2) = true := by simp; omega
    clear h hk hR
    go_enter Tryd.func53, Tryd.ntmps53
    go_wp2_with fail
    refine (HF.out 7).mono ?_
    rintro e w2 ⟨rfl, hb⟩
    exact ⟨rfl, rfl, Keeps.below (HB.out.trans (hb.mono (by simp)))⟩

set_option maxRecDepth 100000 in
theorem atCall_any (h : PsAt m w nest ts) :
    Calls Tryd.prog 56 #[.pointer (some ⟨m.P, 0, none⟩)] w fun e w' => e = .returned (.bool (atCall ts)) ∧ w' = w := by
  obtain ⟨t, rest, rfl⟩ := h.good.cons
  obtain ⟨o, c, ⟨p0, p1, p2, t0, t1, t2, t3, hl, hc, _, _⟩, hmv⟩ := h.head
  have hP := h.lt
  have hT := h.tok.1
  by_cases hk : t.kind = 1
  · have hg := h.good.tail (.inl (by rw [hk]; decide))
    obtain ⟨t', rest', rfl⟩ := hg.cons
    clear p0 p1 p2 t0 t1 t2 t3 hl hc hmv
    obtain ⟨o, c, ⟨p0, p1, p2, t0, t1, t2, t3, hl, hc, _, _⟩, u0, u2⟩ := h.head_two
    have hR : atCall (t :: t' :: rest') = (t'.text == [40]) := by rw [Bool.eq_iff_iff]; simp [atCall, hd, hk]
    rw [hR]
    have hq : ((t.kind : Int) == 1) = true := by simp; omega
    clear h hk hR hg
    go_enter Tryd.func56, Tryd.ntmps56
    go_wp2_with fail
    go_ret
    exact ⟨rfl, rfl⟩
  · have hR : atCall (t :: rest) = false := by simp [atCall, hd, hk]
    rw [hR]
    have hq : ((t.kind : Int) == 1) = false := by simp; omega
    clear h hk hR hmv
    go_enter Tryd.func56, Tryd.ntmps56
    go_wp2_with fail
    go_ret
    exact ⟨rfl, rfl⟩

set_option maxRecDepth 100000 in
theorem begins_walk (t : Tok) (w : World) (k1 k2 b1 b2 b3 : Bool) (h1 : ((t.kind : Int) == 1) = k1) (h2 : ((t.kind : Int) == 2) = k2) (h3 : (t.text == [45]) = b1) (h4 : (t.text == [33]) = b2) (h5 : (t.text == [40]) = b3) :
    Calls Tryd.prog 86 #[.agg #[.int .i64 t.kind, .int .i64 t.line, .string ⟨t.text.toArray⟩, .int .i64 t.num]] w fun e w' => e = .returned (.bool (k1 || k2 || b1 || b2 || b3)) ∧ Below w.heap.size w w' := by
  cases k1
  · cases k2
    · cases b1
      · cases b2
        · cases b3
          · go_enter Tryd.func86, Tryd.ntmps86
            go_wp2_with fail
            go_ret
            exact ⟨rfl, (Below.refl _ _).alloc (Nat.le_refl _) _⟩
          · go_enter Tryd.func86, Tryd.ntmps86
            go_wp2_with fail
            go_ret
            exact ⟨rfl, (Below.refl _ _).alloc (Nat.le_refl _) _⟩
        · go_enter Tryd.func86, Tryd.ntmps86
          go_wp2_with fail
          go_ret
          exact ⟨by simp, (Below.refl _ _).alloc (Nat.le_refl _) _⟩
      · go_enter Tryd.func86, Tryd.ntmps86
        go_wp2_with fail
        go_ret
        exact ⟨by simp, (Below.refl _ _).alloc (Nat.le_refl _) _⟩
    · go_enter Tryd.func86, Tryd.ntmps86
      go_wp2_with fail
      go_ret
      exact ⟨by simp, (Below.refl _ _).alloc (Nat.le_refl _) _⟩
  · go_enter Tryd.func86, Tryd.ntmps86
    go_wp2_with fail
    go_ret
    exact ⟨by simp, (Below.refl _ _).alloc (Nat.le_refl _) _⟩
theorem begins_any (t : Tok) (w : World) :
    Calls Tryd.prog 86 #[.agg #[.int .i64 t.kind, .int .i64 t.line, .string ⟨t.text.toArray⟩, .int .i64 t.num]] w fun e w' => e = .returned (.bool (begins t)) ∧ Below w.heap.size w w' := by
  refine (begins_walk t w _ _ _ _ _ rfl rfl rfl rfl rfl).mono ?_
  rintro e w' ⟨rfl, hb⟩
  refine ⟨?_, hb⟩
  congr 2
  rw [Bool.eq_iff_iff]
  simp only [begins, Bool.or_eq_true, beq_iff_eq, decide_eq_true_eq, or_assoc]
  have h1 : ((t.kind : Int) = 1) ↔ t.kind = 1 := by omega
  have h2 : ((t.kind : Int) = 2) ↔ t.kind = 2 := by omega
  rw [h1, h2]

def operSign (k : Nat) : List UInt8 := (opers.getD k ([], 0)).1
def operRank (k : Nat) : Nat := (opers.getD k ([], 0)).2
theorem oper_index (w : World) : ∀ k : Nat, k < 12 → (Instr.index 132 (.agg opersA) (.int .i64 k)).run Tryd.prog w = .ok (.agg #[.string ⟨(operSign k).toArray⟩, .int .i64 (operRank k)]) w
  | 0, _ => by kernel_rfl
  | 1, _ => by kernel_rfl
  | 2, _ => by kernel_rfl
  | 3, _ => by kernel_rfl
  | 4, _ => by kernel_rfl
  | 5, _ => by kernel_rfl
  | 6, _ => by kernel_rfl
  | 7, _ => by kernel_rfl
  | 8, _ => by kernel_rfl
  | 9, _ => by kernel_rfl
  | 10, _ => by kernel_rfl
  | 11, _ => by kernel_rfl
  | k + 12, h => absurd h (by omega)
theorem operAt_step (rank : Nat) (x : List UInt8) : ∀ k : Nat, k < 12 → operAt (opers.drop k) (6 + k) rank x = if operRank k = rank ∧ x = operSign k then some (6 + k) else operAt (opers.drop (k + 1)) (6 + (k + 1)) rank x
  | 0, _ => rfl
  | 1, _ => rfl
  | 2, _ => rfl
  | 3, _ => rfl
  | 4, _ => rfl
  | 5, _ => rfl
  | 6, _ => rfl
  | 7, _ => rfl
  | 8, _ => rfl
  | 9, _ => rfl
  | 10, _ => rfl
  | 11, _ => rfl
  | k + 12, h => absurd h (by omega)

set_option maxHeartbeats 1600000 in
set_option maxRecDepth 100000 in
theorem operator_any (h : PsAt m w nest ts) (rank : Nat) (R : Option Nat) (hR : Hid (operAt opers 6 rank (hd ts).text = R)) :
    Calls Tryd.prog 81 #[.pointer (some ⟨m.P, 0, none⟩), .int .i64 rank] w fun e w' => e = .returned (.tuple #[.int .i64 (R.getD 0 : Nat), .bool R.isSome]) ∧ Below w.heap.size w w' := by
  obtain ⟨ot, ofr, hg⟩ := h.ops
  have HG := Lib.hid hg
  have hsz : (Tryd.prog.info? 132).map (·.size) = some opersA.size := by kernel_rfl
  have HS := Lib.hid hsz
  have H := Lib.hid h
  clear hg hsz h
  go_enter Tryd.func81, Tryd.ntmps81
  go_wp2_with (with_reducible refine wpList_load_row rfl 132 (.global 2) rfl 2 rfl ot opersA ofr _ HG.out Tryd.underlying132 rfl HS.out ?_)
  go_loopw [9] (fun i wr => ∃ k : Nat, i = .int .i64 k ∧ k ≤ 12 ∧ operAt (opers.drop k) (6 + k) rank (hd ts).text = R ∧ Below w.heap.size w wr) (fun i _ => 12 - (intOf i).toNat)
  case atStart => exact ⟨0, rfl, by omega, hR.out, Below.refl _ _⟩
  case round =>
    obtain ⟨k, rfl, hk, hop, hbel⟩ := hrel
    have HO := Lib.hid hop
    have HB := Lib.hid hbel
    clear hop hbel
    by_cases hlt : k < 12
    · have hst := operAt_step rank (hd ts).text k hlt
      rw [HO.out] at hst
      have hix : ∀ W, (Instr.index 132 (.agg opersA) (.int .i64 k)).run Tryd.prog W = .ok (.agg #[.string ⟨(operSign k).toArray⟩, .int .i64 (operRank k)]) W := fun W => oper_index W k hlt
      obtain ⟨sg, hsg⟩ : ∃ sg, Hid (operSign k = sg) := ⟨_, Lib.hid rfl⟩
      obtain ⟨rk, hrk⟩ : ∃ rk, Hid (operRank k = rk) := ⟨_, Lib.hid rfl⟩
      rw [hsg.out, hrk.out] at hix hst
      have HST := Lib.hid hst
      clear hst
      have HA := Lib.hid (at_any (H.out.below (HB.out.alloc HB.out.size (.cells #[.string ⟨sg.toArray⟩, .int .i64 rk] 131))) sg)
      have HB2 := Lib.hid (HB.out.alloc HB.out.size (.cells #[.string ⟨sg.toArray⟩, .int .i64 rk] 131))
      by_cases hrr : rk = rank
      · subst hrr
        by_cases hx : (hd ts).text = sg
        · have hq : ((hd ts).text == sg) = true := by simpa using hx
          have hR2 := HST.out
          rw [if_pos ⟨rfl, hx⟩] at hR2
          have HR2 := Lib.hid hR2
          clear hx hR2
          go_wp2_with fail
          refine HA.out.mono ?_
          rintro e w2 ⟨rfl, rfl⟩
          go_wp2_with fail
          go_ret2
          rw [HR2.out]
          exact ⟨rfl, HB2.out⟩
        · have hq : ((hd ts).text == sg) = false := by simpa using hx
          have hR2 := HST.out
          rw [if_neg (fun e => hx e.2)] at hR2
          have HR2 := Lib.hid hR2
          clear hx hR2
          go_wp2_with fail
          refine HA.out.mono ?_
          rintro e w2 ⟨rfl, rfl⟩
          go_wp2_with fail
          go_roundw
          case rel => exact ⟨k + 1, by go_num, by omega, HR2.out.symm, HB2.out⟩
          case measure => simp [intOf]; omega
      · have hq : ((rk : Int) == (rank : Int)) = false := ne_beq (by omega)
        have hR2 := HST.out
        rw [if_neg (fun e => hrr e.1)] at hR2
        have HR2 := Lib.hid hR2
        clear hrr hR2
        go_wp2_with fail
        go_roundw
        case rel => exact ⟨k + 1, by go_num, by omega, HR2.out.symm, HB2.out⟩
        case measure => simp [intOf]; omega
    · obtain rfl : k = 12 := by omega
      have hn : R = none := by rw [← HO.out]; rfl
      subst hn
      go_wp2_with fail
      go_ret2
      exact ⟨rfl, HB.out⟩
end Go.Proofs.YtpfefjfpnmchcaaDoor
namespace Go.Proofs.YtpfefjfpnmchcaaDoor
open Go.RowKit
variable {m : Pm} {w : World} {nest : Nat} {ts : List Tok}

/-- A row of names in memory of its own. -/
def NamesV (N : Nat) (w' : World) (v : Value) (xs : List (List UInt8)) : Prop := ∃ A c, v = .slice A xs.length c ∧ NamesIs (fun b => N ≤ b) w' A c xs

set_option maxHeartbeats 1600000 in
set_option maxRecDepth 100000 in
theorem names_any (h : PsAt m w nest ts) (n : Nat) (R : Res (List (List UInt8))) (hR : Hid (namesP n ts = R)) (hne : R ≠ .out) :
    Calls Tryd.prog 59 #[.pointer (some ⟨m.P, 0, none⟩)] w (Out m w nest (NamesV w.heap.size) R) := by
  have HN := Lib.hid (name_any h)
  have hR2 := hR.out
  unfold namesP at hR2
  have HR := Lib.hid hR2
  have H := Lib.hid h
  clear h hR hR2
  go_enter Tryd.func59, Tryd.ntmps59
  go_wp2_with fail
  refine HN.out.mono ?_
  intro e w1 ho
  rcases ho.go with ⟨l, k, hR1, rfl, k1⟩ | ⟨x, ts1, v, hR1, rfl, hv, h1, k1⟩
  · exact ⟨rfl, out_err (Res.fails HR.out hR1) k1⟩
  · have HR1 := Lib.hid (Res.behind HR.out hR1)
    have H1 := Lib.hid h1
    have K1 := Lib.hid k1
    have HX := Lib.hid hR1
    subst hv
    clear h1 k1 hR1 HN
    go_wp2_with fail
    have hlen : ts1.length ≤ ts.length - 1 := by
      have := fin_name ts
      rw [HX.out] at this
      exact this
    have hts := H.out.good.1.1
    have hP := H.out.lt
    go_loopg [3] n (fun k v wr => ∃ (A : Option Addr) (c : Nat) (acc : List (List UInt8)) (ts' : List Tok), v = .slice A acc.length c ∧ OwnIs (fun _ _ => StrIs) wr w.heap.size 9 1 A c acc ∧ PsAt m wr nest ts' ∧ Keeps m.P w wr ∧ moreNames k acc ts' = R ∧ acc.length + ts'.length ≤ 2001)
    case atStart =>
      refine ⟨_, _, [x], ts1, rfl, OwnIs.one (vs := [.string ⟨x.toArray⟩]) (heap_alloc_new w1 _) K1.out.size rfl rfl, H1.out.alloc _, K1.out.alloc _, HR1.out, ?_⟩
      simp only [List.length_cons, List.length_nil]
      omega
    case round =>
      obtain ⟨A, c, acc, ts', rfl, hown, hps, hkp, hmore, hsum⟩ := hrel
      have HO := Lib.hid hown
      have HPS := Lib.hid hps
      have HK := Lib.hid hkp
      have HMR := Lib.hid hmore
      clear hown hps hkp hmore H1 K1 HR1 HX
      cases gk with
      | zero => exact absurd HMR.out.symm hne
      | succ gk =>
        have hm := HMR.out
        unfold moreNames at hm
        by_cases hx : (hd ts').text = [44]
        · rw [if_pos hx] at hm
          have HM := Lib.hid hm
          have HA := Lib.hid (accept_any HPS.out [44] (by simp))
          have hq : ((hd ts').text == [44]) = true := by simpa using hx
          rw [if_pos hx] at HA
          have hp1 := len_pos (ts := ts') (.inr (by rw [hx]; simp))
          clear hm hx
          go_wp2_with fail
          refine HA.out.mono ?_
          rintro e w2 ⟨rfl, h2, k2⟩
          have H2 := Lib.hid h2
          have K2 := Lib.hid (HK.out.trans k2)
          have HO2 := Lib.hid (HO.out.turn turns_str (w' := w2) (fun b hb hlt => k2.block b hlt (by omega)))
          clear h2 k2
          go_wp2_with fail
          refine (name_any H2.out).mono ?_
          intro e w3 ho3
          rcases ho3.go with ⟨l, k, hR3, rfl, k3⟩ | ⟨y, ts3, v3, hR3, rfl, hv3, h3, k3⟩
          · exact ⟨rfl, out_err (Res.fails HM.out hR3) (K2.out.trans k3)⟩
          · have hl3 : ts3.length ≤ ts'.tail.length - 1 := by
              have := fin_name ts'.tail
              rw [hR3] at this
              exact this
            have ht3 : ts'.tail.length = ts'.length - 1 := List.length_tail
            have HR3 := Lib.hid (Res.behind HM.out hR3)
            have H3 := Lib.hid h3
            have K3 := Lib.hid (K2.out.trans k3)
            have HO3 := Lib.hid (HO2.out.turn turns_str (w' := w3) (fun b hb hlt => k3.block b hlt (by omega)))
            subst hv3
            clear h3 k3 hR3
            obtain ⟨i, hi, hz, hsz, hby⟩ := info_str
            have HO4 := Lib.hid (HO3.out.turn turns_str (w' := w3.alloc (.cells #[.string ⟨y.toArray⟩] 9)) (fun b hb hlt => heap_alloc_old w3 _ hlt))
            go_wp2_with (at_builtin; refine wpList_append_one turns_str rfl _ _ 43 rfl i _ 16 Tryd.underlying43 hi hz hsz hby rfl (by omega) (by omega) HO4.out rfl w3.heap.size 1 rfl [.string ⟨y.toArray⟩] y rfl (fun j u hu => ?_) (fun u hu => ?_) (by omega) (by rw [World.size_alloc]; have := K3.out.size; omega) rfl ?_)
            · exact new_cell w3 _ _ j u hu
            · obtain rfl : u = .string ⟨y.toArray⟩ := by simpa using hu
              rfl
            intro A' c' w4 ho4 hg4 hw4
            have hrow : ∀ g, blkOf A = some g → w.heap.size ≤ g := fun g hg => (HO.out.place g hg).1
            have HO5 := Lib.hid ho4
            have H5 := Lib.hid ((H3.out.alloc _).grew H.out hg4 hrow)
            have K5 := Lib.hid ((K3.out.alloc _).grown hg4 hrow)
            have HR5 := Lib.hid HR3.out
            clear ho4 hg4 hw4 HO4 HR3 H3 K3 HO3
            go_wp2_with fail
            go_roundg gk
            case measure => omega
            case rel => exact ⟨A', c', acc ++ [y], ts3, by simp, HO5.out, H5.out, K5.out, HR5.out, by simp only [List.length_append, List.length_cons, List.length_nil]; omega⟩
        · rw [if_neg hx] at hm
          have HM := Lib.hid hm.symm
          have HA := Lib.hid (accept_no HPS.out [44] hx)
          have hq : ((hd ts').text == [44]) = false := by simpa using hx
          clear hm hx
          go_wp2_with fail
          refine HA.out.mono ?_
          rintro e w2 ⟨rfl, rfl⟩
          go_wp2_with fail
          go_ret
          exact out_ok HM.out ⟨A, c, rfl, HO.out.row turns_str⟩ HPS.out HK.out
end Go.Proofs.YtpfefjfpnmchcaaDoor
namespace Go.Proofs.YtpfefjfpnmchcaaDoor
open Go.RowKit

/-- An expression in memory of its own. -/
def ExV (N : Nat) (w' : World) (v : Value) (x : Ex) : Prop := ExIs w' (fun b => N ≤ b) v x
def OperAt (n : Nat) : Prop := ∀ {m : Pm} {w : World} {nest : Nat} {ts : List Tok} (rank lev : Nat) (R : Res Ex), PsAt m w nest ts → 1 ≤ rank → rank ≤ 5 → lev ≤ 9 → Hid (operP n rank lev ts = R) → R ≠ .out →
  Calls Tryd.prog 72 #[.pointer (some ⟨m.P, 0, none⟩), .int .i64 rank, .int .i64 lev] w (Out m w nest (ExV w.heap.size) R)
def UnaryAt (n : Nat) : Prop := ∀ {m : Pm} {w : World} {nest : Nat} {ts : List Tok} (lev : Nat) (R : Res Ex), PsAt m w nest ts → lev ≤ 9 → Hid (unaryP n lev ts = R) → R ≠ .out →
  Calls Tryd.prog 80 #[.pointer (some ⟨m.P, 0, none⟩), .int .i64 lev] w (Out m w nest (ExV w.heap.size) R)
def TargetAt (n : Nat) : Prop := ∀ {m : Pm} {w : World} {nest : Nat} {ts : List Tok} (lev : Nat) (R : Res Ex), PsAt m w nest ts → lev ≤ 8 → Hid (targetP n lev ts = R) → R ≠ .out →
  Calls Tryd.prog 87 #[.pointer (some ⟨m.P, 0, none⟩), .int .i64 lev] w (Out m w nest (ExV w.heap.size) R)
theorem ex_zero (w : World) : (w.alloc (.cells #[.int .i64 0, .int .i64 0, .int .i64 0, .string ⟨#[]⟩, .string ⟨#[]⟩, .slice none 0 0] 51)).heap[w.heap.size]? = some (.cells #[.int .i64 0, .int .i64 0, .int .i64 0, .string ⟨#[]⟩, .string ⟨#[]⟩, .slice none 0 0] 51 (0, 0)) := heap_alloc_new w _


set_option maxHeartbeats 1600000 in
set_option maxRecDepth 100000 in
theorem expression_any {n : Nat} (ih : OperAt n) {m : Pm} {w : World} {nest : Nat} {ts : List Tok} (lev : Nat) (R : Res Ex) (h : PsAt m w nest ts) (hl : lev ≤ 9) (hR : Hid (operP n 1 lev ts = R)) (hne : R ≠ .out) :
    Calls Tryd.prog 54 #[.pointer (some ⟨m.P, 0, none⟩), .int .i64 lev] w (Out m w nest (ExV w.heap.size) R) := by
  have hP := h.lt
  have H := Lib.hid h
  have HC := Lib.hid (ih 1 lev R (h.alloc (.cells #[.int .i64 0, .int .i64 0, .int .i64 0, .string ⟨#[]⟩, .string ⟨#[]⟩, .slice none 0 0] 51)) (by omega) (by omega) hl hR hne)
  clear h
  go_enter Tryd.func54, Tryd.ntmps54
  go_wp2_with fail
  refine HC.out.mono ?_
  intro e w1 ho
  rcases ho.go with ⟨l, k, hR1, rfl, k1⟩ | ⟨x, ts1, v, hR1, rfl, hv, h1, k1⟩
  · exact ⟨rfl, out_err hR1 (((Keeps.refl _ _).alloc _).trans k1)⟩
  · have hz := (k1.block w.heap.size (by simp) (by omega)).trans (ex_zero w)
    have HZ := Lib.hid hz
    have H1 := Lib.hid h1
    have K1 := Lib.hid (((Keeps.refl m.P w).alloc _).trans k1)
    have HV := Lib.hid hv
    have HR1 := Lib.hid hR1
    obtain ⟨op, num, var, nm, fld, args⟩ := x
    obtain ⟨A, c, rfl, hargs⟩ := ExIs.parts hv
    clear hz h1 k1 hv hargs hR1 HC hR
    go_wp2_with ((with_reducible show wpList _ _ _ (Oper.mk none (Op.store 51 _ _) _ _ _ none :: _) _ _); refine wpList_store_all rfl rfl 51 _ _ rfl w.heap.size _ _ rfl rfl HZ.out rfl (by kernel_rfl) (by simp [Value.oneCell']) ?_; intro U hU)
    (try simp only [Exit.inBlock, Exit.then])
    have hld := ret_all (P := Tryd.prog) 51 w.heap.size _ _ hU.at_ Tryd.underlying51 rfl (by kernel_rfl)
    refine bodyPost_ret (v := .agg #[.int .i64 op, .int .i64 num, .int .i64 var, .string ⟨nm.toArray⟩, .string ⟨fld.toArray⟩, .slice A args.length c]) (by simp [results, Tryd.results54, asAddr, hld]) rfl ?_
    exact out_ok HR1.out ((HV.out.turn (hU.stays (by simp))).turn (fun b _ hb => ⟨by simp at hb; omega, rfl⟩)) (H1.out.setC H.out (Nat.le_refl _) hU) (K1.out.setC (Nat.le_refl _) hU)
theorem expression_up {n : Nat} (ih : OperAt n) {m : Pm} {w : World} {nest : Nat} {ts : List Tok} (lev : Nat) (R : Res Ex) (h : PsAt m w nest ts) (hl : lev ≤ 8) (hR : Hid (operP n 1 (lev + 1) ts = R)) (hne : R ≠ .out) :
    Calls Tryd.prog 54 #[.pointer (some ⟨m.P, 0, none⟩), .int .i64 ((lev : Int) + 1)] w (Out m w nest (ExV w.heap.size) R) := by
  have := expression_any ih (lev + 1) R h (by omega) hR hne
  rwa [show ((lev + 1 : Nat) : Int) = (lev : Int) + 1 from by omega] at this

set_option maxHeartbeats 3200000 in
set_option maxRecDepth 100000 in
theorem target_step {n : Nat} (ih : OperAt n) : TargetAt (n + 1) := by
  intro m w nest ts lev R h hl hR hne
  have hR2 := hR.out
  unfold targetP at hR2
  have HR0 := Lib.hid hR2
  clear hR hR2
  have hP := h.lt
  have H := Lib.hid h
  have h0 := h.alloc (.cells #[.int .i64 0, .int .i64 0, .int .i64 0, .string ⟨#[]⟩, .string ⟨#[]⟩, .slice none 0 0] 51)
  have q0 := (Keeps.refl m.P w).alloc (.cells #[.int .i64 0, .int .i64 0, .int .i64 0, .string ⟨#[]⟩, .string ⟨#[]⟩, .slice none 0 0] 51)
  have cZ0 := heap_alloc_new w (.cells #[.int .i64 0, .int .i64 0, .int .i64 0, .string ⟨#[]⟩, .string ⟨#[]⟩, .slice none 0 0] 51)
  have hz0 : (w.alloc (.cells #[.int .i64 0, .int .i64 0, .int .i64 0, .string ⟨#[]⟩, .string ⟨#[]⟩, .slice none 0 0] 51)).heap.size = w.heap.size + 1 := World.size_alloc _ _
  obtain ⟨w0, HW0⟩ : ∃ U, Hid (w.alloc (.cells #[.int .i64 0, .int .i64 0, .int .i64 0, .string ⟨#[]⟩, .string ⟨#[]⟩, .slice none 0 0] 51) = U) := ⟨_, Lib.hid rfl⟩
  rw [HW0.out] at h0 q0 cZ0 hz0
  have H0 := Lib.hid h0
  have K0 := Lib.hid q0
  have Z0 := Lib.hid cZ0
  clear h h0 q0 cZ0
  go_enter Tryd.func87, Tryd.ntmps87
  go_wp2_with fail
  rw [HW0.out]
  refine (name_any H0.out).mono ?_
  intro e w1 ho
  rcases ho.go with ⟨l, k, hR, rfl, k1⟩ | ⟨x1, ts1, v1, hR, rfl, hv, h1, k1⟩
  · exact ⟨rfl, out_err (Res.fails HR0.out hR) (K0.out.trans k1)⟩
  have HR1 := Lib.hid (Res.behind HR0.out hR)
  have H1 := Lib.hid h1
  have K1 := Lib.hid (K0.out.trans k1)
  have hs1 := K1.out.size
  have hm1 := k1.size
  have Z1 := Lib.hid (k1.held (by omega) Z0.out)
  clear h1 k1
  have HX1 := Lib.hid hR
  obtain rfl := hv
  clear hR
  go_wp2_with fail
  have h2 := H1.out.alloc (.cells #[.int .i64 1, .int .i64 0, .int .i64 0, .string ⟨x1.toArray⟩, .string ⟨#[]⟩, .slice none 0 0] 51)
  have q2 := K1.out.alloc (.cells #[.int .i64 1, .int .i64 0, .int .i64 0, .string ⟨x1.toArray⟩, .string ⟨#[]⟩, .slice none 0 0] 51)
  have cZ2 := held_alloc (.cells #[.int .i64 1, .int .i64 0, .int .i64 0, .string ⟨x1.toArray⟩, .string ⟨#[]⟩, .slice none 0 0] 51) Z1.out
  have cE2 := heap_alloc_new w1 (.cells #[.int .i64 1, .int .i64 0, .int .i64 0, .string ⟨x1.toArray⟩, .string ⟨#[]⟩, .slice none 0 0] 51)
  obtain ⟨w2, HW2⟩ : ∃ U, Hid (w1.alloc (.cells #[.int .i64 1, .int .i64 0, .int .i64 0, .string ⟨x1.toArray⟩, .string ⟨#[]⟩, .slice none 0 0] 51) = U) := ⟨_, Lib.hid rfl⟩
  rw [HW2.out] at h2 q2 cZ2 cE2
  have H2 := Lib.hid h2
  have K2 := Lib.hid q2
  have Z2 := Lib.hid cZ2
  have E2 := Lib.hid cE2
  have hs2 := K2.out.size
  have hz2 : w2.heap.size = w1.heap.size + 1 := by have hq := congrArg (fun x => x.heap.size) HW2.out; simp only [World.size_alloc] at hq; exact hq.symm
  have hm2 : w1.heap.size < w2.heap.size := by omega
  clear h2 q2 cZ2 cE2
  rw [HW2.out]
  by_cases hdot : (hd ts1).text = [46]
  · have hr := HR1.out
    rw [if_pos hdot] at hr
    have HR2 := Lib.hid hr
    clear hr HR1
    have hq : ((hd ts1).text == [46]) = true := by simpa using hdot
    have HA := Lib.hid (accept_any H2.out [46] (by simp))
    rw [if_pos hdot] at HA
    refine HA.out.mono ?_
    rintro e w3 ⟨rfl, h3, k3⟩
    have H3 := Lib.hid h3
    have K3 := Lib.hid (K2.out.trans k3)
    have hs3 := K3.out.size
    have hm3 := k3.size
    have Z3 := Lib.hid (k3.held (by omega) Z2.out)
    have E3 := Lib.hid (k3.held (by omega) E2.out)
    clear h3 k3
    clear HA
    go_wp2_with ((with_reducible show wpList _ _ _ (Oper.mk none (Op.store 3 _ _) _ _ _ none :: _) _ _); refine wpList_store_cell rfl rfl 3 _ _ rfl w1.heap.size 0 _ (.int .i64 2) rfl rfl E3.out (by simp) (by kernel_rfl) rfl ?_; intro w4 hU; have H4 := Lib.hid (H3.out.setC H.out (by omega) hU); have K4 := Lib.hid (K3.out.setC (by omega) hU); have hs4 := K4.out.size; have hm4 := Nat.le_of_eq hU.size.symm; have Z4 := Lib.hid (hU.held (by omega) Z3.out); have E4 := Lib.hid (show w4.heap[w1.heap.size]? = some (.cells #[.int .i64 2, .int .i64 0, .int .i64 0, .string ⟨x1.toArray⟩, .string ⟨#[]⟩, .slice none 0 0] 51 (0, 0)) from hU.at_); clear hU)
    refine (name_any H4.out).mono ?_
    intro e w5 ho
    rcases ho.go with ⟨l, k, hR, rfl, k5⟩ | ⟨x5, ts5, v5, hR, rfl, hv, h5, k5⟩
    · exact ⟨rfl, out_err (Res.fails HR2.out hR) (K4.out.trans k5)⟩
    have HR3 := Lib.hid (Res.behind HR2.out hR)
    have H5 := Lib.hid h5
    have K5 := Lib.hid (K4.out.trans k5)
    have hs5 := K5.out.size
    have hm5 := k5.size
    have Z5 := Lib.hid (k5.held (by omega) Z4.out)
    have E5 := Lib.hid (k5.held (by omega) E4.out)
    clear h5 k5
    have HX5 := Lib.hid hR
    obtain rfl := hv
    clear hR
    go_wp2_with (first | ((with_reducible show wpList _ _ _ (Oper.mk none (Op.store 9 _ _) _ _ _ none :: _) _ _); refine wpList_store_cell rfl rfl 9 _ _ rfl w1.heap.size 4 _ (.string ⟨x5.toArray⟩) rfl rfl E5.out (by simp) (by kernel_rfl) rfl ?_; intro w6 hU; have H6 := Lib.hid (H5.out.setC H.out (by omega) hU); have K6 := Lib.hid (K5.out.setC (by omega) hU); have hs6 := K6.out.size; have hm6 := Nat.le_of_eq hU.size.symm; have Z6 := Lib.hid (hU.held (by omega) Z5.out); have E6 := Lib.hid (show w6.heap[w1.heap.size]? = some (.cells #[.int .i64 2, .int .i64 0, .int .i64 0, .string ⟨x1.toArray⟩, .string ⟨x5.toArray⟩, .slice none 0 0] 51 (0, 0)) from hU.at_); clear hU) | ((with_reducible show wpList _ _ _ (Oper.mk _ (Op.load 51 _) _ _ _ none :: _) _ _); refine wpList_load_all rfl 51 _ rfl w1.heap.size _ _ rfl E6.out Tryd.underlying51 rfl (by kernel_rfl) ?_) | ((with_reducible show wpList _ _ _ (Oper.mk none (Op.store 51 _ _) _ _ _ none :: _) _ _); refine wpList_store_all rfl rfl 51 _ _ rfl w.heap.size _ (#[.int .i64 2, .int .i64 0, .int .i64 0, .string ⟨x1.toArray⟩, .string ⟨x5.toArray⟩, .slice none 0 0]) rfl rfl Z6.out rfl (by kernel_rfl) (by simp [Value.oneCell']) ?_; intro U hU))
    (try simp only [Exit.inBlock, Exit.then])
    have hld := ret_all (P := Tryd.prog) 51 w.heap.size _ _ hU.at_ Tryd.underlying51 rfl (by kernel_rfl)
    refine bodyPost_ret (v := .agg #[.int .i64 2, .int .i64 0, .int .i64 0, .string ⟨x1.toArray⟩, .string ⟨x5.toArray⟩, .slice none 0 0]) (by simp [results, Tryd.results87, Act.put, asAddr, hld]) rfl ?_
    exact out_ok HR3.out.symm (ExIs.mk (A := none) (cap := 0) (ExsIs.nil _ _ _ _ (Nat.zero_le _))) (H6.out.setC H.out (Nat.le_refl _) hU) (K6.out.setC (Nat.le_refl _) hU)
  · have hr := HR1.out
    rw [if_neg hdot] at hr
    have HR2 := Lib.hid hr
    clear hr HR1
    have hq : ((hd ts1).text == [46]) = false := by simpa using hdot
    refine (accept_no H2.out [46] hdot).mono ?_
    rintro e w' ⟨rfl, hw'⟩
    have hw2 := hw'.symm
    clear hw'
    subst hw2
    clear hq hdot
    go_wp2_with fail
    by_cases hbr : (hd ts1).text = [91]
    · have hr := HR2.out
      rw [if_pos hbr] at hr
      have HR3 := Lib.hid hr
      clear hr HR2
      have hq : ((hd ts1).text == [91]) = true := by simpa using hbr
      have HA := Lib.hid (accept_any H2.out [91] (by simp))
      rw [if_pos hbr] at HA
      refine HA.out.mono ?_
      rintro e w3 ⟨rfl, h3, k3⟩
      have H3 := Lib.hid h3
      have K3 := Lib.hid (K2.out.trans k3)
      have hs3 := K3.out.size
      have hm3 := k3.size
      have Z3 := Lib.hid (k3.held (by omega) Z2.out)
      have E3 := Lib.hid (k3.held (by omega) E2.out)
      clear h3 k3
      clear HA
      go_wp2_with ((with_reducible show wpList _ _ _ (Oper.mk none (Op.store 3 _ _) _ _ _ none :: _) _ _); refine wpList_store_cell rfl rfl 3 _ _ rfl w1.heap.size 0 _ (.int .i64 3) rfl rfl E3.out (by simp) (by kernel_rfl) rfl ?_; intro w4 hU; have H4 := Lib.hid (H3.out.setC H.out (by omega) hU); have K4 := Lib.hid (K3.out.setC (by omega) hU); have hs4 := K4.out.size; have hm4 := Nat.le_of_eq hU.size.symm; have Z4 := Lib.hid (hU.held (by omega) Z3.out); have E4 := Lib.hid (show w4.heap[w1.heap.size]? = some (.cells #[.int .i64 3, .int .i64 0, .int .i64 0, .string ⟨x1.toArray⟩, .string ⟨#[]⟩, .slice none 0 0] 51 (0, 0)) from hU.at_); clear hU)
      refine (expression_up ih lev _ H4.out hl (Lib.hid rfl) (Res.live HR3.out hne)).mono ?_
      intro e w5 ho
      rcases ho.go with ⟨l, k, hR, rfl, k5⟩ | ⟨x5, ts5, v5, hR, rfl, hv, h5, k5⟩
      · exact ⟨rfl, out_err (Res.fails HR3.out hR) (K4.out.trans k5)⟩
      have HR4 := Lib.hid (Res.behind HR3.out hR)
      have H5 := Lib.hid h5
      have K5 := Lib.hid (K4.out.trans k5)
      have hs5 := K5.out.size
      have hm5 := k5.size
      have Z5 := Lib.hid (k5.held (by omega) Z4.out)
      have E5 := Lib.hid (k5.held (by omega) E4.out)
      clear h5 k5
      have HX5 := Lib.hid hR
      clear hR
      obtain ⟨op5, num5, var5, nm5, fld5, args5⟩ := x5
      obtain ⟨A5, c5, rfl, ha⟩ := ExIs.parts hv
      have X5 : Hid (ExIs w5 (fun b => w4.heap.size ≤ b) (.agg #[.int .i64 op5, .int .i64 num5, .int .i64 var5, .string ⟨nm5.toArray⟩, .string ⟨fld5.toArray⟩, .slice A5 args5.length c5]) (.mk op5 num5 var5 nm5 fld5 args5)) := Lib.hid hv
      clear ha hv
      have h6 := H5.out.alloc (.cells #[.int .i64 op5, .int .i64 num5, .int .i64 var5, .string ⟨nm5.toArray⟩, .string ⟨fld5.toArray⟩, .slice A5 args5.length c5] 51)
      have q6 := K5.out.alloc (.cells #[.int .i64 op5, .int .i64 num5, .int .i64 var5, .string ⟨nm5.toArray⟩, .string ⟨fld5.toArray⟩, .slice A5 args5.length c5] 51)
      have cZ6 := held_alloc (.cells #[.int .i64 op5, .int .i64 num5, .int .i64 var5, .string ⟨nm5.toArray⟩, .string ⟨fld5.toArray⟩, .slice A5 args5.length c5] 51) Z5.out
      have cE6 := held_alloc (.cells #[.int .i64 op5, .int .i64 num5, .int .i64 var5, .string ⟨nm5.toArray⟩, .string ⟨fld5.toArray⟩, .slice A5 args5.length c5] 51) E5.out
      have cQ6 := heap_alloc_new w5 (.cells #[.int .i64 op5, .int .i64 num5, .int .i64 var5, .string ⟨nm5.toArray⟩, .string ⟨fld5.toArray⟩, .slice A5 args5.length c5] 51)
      have cX6 := X5.out.turn (stays_alloc (.cells #[.int .i64 op5, .int .i64 num5, .int .i64 var5, .string ⟨nm5.toArray⟩, .string ⟨fld5.toArray⟩, .slice A5 args5.length c5] 51))
      obtain ⟨w6, HW6⟩ : ∃ U, Hid (w5.alloc (.cells #[.int .i64 op5, .int .i64 num5, .int .i64 var5, .string ⟨nm5.toArray⟩, .string ⟨fld5.toArray⟩, .slice A5 args5.length c5] 51) = U) := ⟨_, Lib.hid rfl⟩
      rw [HW6.out] at h6 q6 cZ6 cE6 cQ6 cX6
      have H6 := Lib.hid h6
      have K6 := Lib.hid q6
      have Z6 := Lib.hid cZ6
      have E6 := Lib.hid cE6
      have Q6 := Lib.hid cQ6
      have X6 := Lib.hid cX6
      have hs6 := K6.out.size
      have hz6 : w6.heap.size = w5.heap.size + 1 := by have hq := congrArg (fun x => x.heap.size) HW6.out; simp only [World.size_alloc] at hq; exact hq.symm
      have hm6 : w5.heap.size < w6.heap.size := by omega
      clear h6 q6 cZ6 cE6 cQ6 cX6
      have Y6 : Hid (ExsIs w6 (fun b => w4.heap.size ≤ b) (some ⟨w5.heap.size, 0, none⟩) 1 [(.mk op5 num5 var5 nm5 fld5 args5)]) := Lib.hid (RowIs.one (vs := [.int .i64 op5, .int .i64 num5, .int .i64 var5, .string ⟨nm5.toArray⟩, .string ⟨fld5.toArray⟩, .slice A5 args5.length c5]) Q6.out (by omega) (Nat.le_refl _) (by decide) X6.out)
      go_wp2_with ((with_reducible show wpList _ _ _ (Oper.mk none (Op.store 47 _ _) _ _ _ none :: _) _ _); rw [HW6.out]; refine wpList_store_cell rfl rfl 47 _ _ rfl w1.heap.size 5 _ (.slice (some ⟨w5.heap.size, 0, none⟩) 1 1) rfl rfl E6.out (by simp) (by kernel_rfl) rfl ?_; intro w7 hU; have H7 := Lib.hid (H6.out.setC H.out (by omega) hU); have K7 := Lib.hid (K6.out.setC (by omega) hU); have hs7 := K7.out.size; have hm7 := Nat.le_of_eq hU.size.symm; have Z7 := Lib.hid (hU.held (by omega) Z6.out); have E7 := Lib.hid (show w7.heap[w1.heap.size]? = some (.cells #[.int .i64 3, .int .i64 0, .int .i64 0, .string ⟨x1.toArray⟩, .string ⟨#[]⟩, .slice (some ⟨w5.heap.size, 0, none⟩) 1 1] 51 (0, 0)) from hU.at_); have Y7 := Lib.hid (Y6.out.turn (hU.stays_of (fun b (hb : w4.heap.size ≤ b) => by omega))); clear hU)
      refine (expect_any H7.out [93] (by simp)).mono ?_
      intro e w8 ho
      rcases ho.go with ⟨l, k, hR, rfl, k8⟩ | ⟨x8, ts8, v8, hR, rfl, hv, h8, k8⟩
      · exact ⟨rfl, out_err (Res.fails HR4.out hR) (K7.out.trans k8)⟩
      have HR5 := Lib.hid (Res.behind HR4.out hR)
      have H8 := Lib.hid h8
      have K8 := Lib.hid (K7.out.trans k8)
      have hs8 := K8.out.size
      have hm8 := k8.size
      have Z8 := Lib.hid (k8.held (by omega) Z7.out)
      have E8 := Lib.hid (k8.held (by omega) E7.out)
      have Y8 := Lib.hid (Y7.out.turn (k8.stays_of (fun b (hb : w4.heap.size ≤ b) => by omega)))
      clear h8 k8
      have HX8 := Lib.hid hR
      clear hv
      clear hR
      go_wp2_with (first | ((with_reducible show wpList _ _ _ (Oper.mk _ (Op.load 51 _) _ _ _ none :: _) _ _); refine wpList_load_all rfl 51 _ rfl w1.heap.size _ _ rfl E8.out Tryd.underlying51 rfl (by kernel_rfl) ?_) | ((with_reducible show wpList _ _ _ (Oper.mk none (Op.store 51 _ _) _ _ _ none :: _) _ _); refine wpList_store_all rfl rfl 51 _ _ rfl w.heap.size _ (#[.int .i64 3, .int .i64 0, .int .i64 0, .string ⟨x1.toArray⟩, .string ⟨#[]⟩, .slice (some ⟨w5.heap.size, 0, none⟩) 1 1]) rfl rfl Z8.out rfl (by kernel_rfl) (by simp [Value.oneCell']) ?_; intro U hU))
      (try simp only [Exit.inBlock, Exit.then])
      have hld := ret_all (P := Tryd.prog) 51 w.heap.size _ _ hU.at_ Tryd.underlying51 rfl (by kernel_rfl)
      refine bodyPost_ret (v := .agg #[.int .i64 3, .int .i64 0, .int .i64 0, .string ⟨x1.toArray⟩, .string ⟨#[]⟩, .slice (some ⟨w5.heap.size, 0, none⟩) 1 1]) (by simp [results, Tryd.results87, Act.put, asAddr, hld]) rfl ?_
      exact out_ok HR5.out.symm ((ExIs.mk ((Y8.out.turn (hU.stays (by omega))).turn (fun b _ hb => ⟨by simp at hb; omega, rfl⟩)))) (H8.out.setC H.out (Nat.le_refl _) hU) (K8.out.setC (Nat.le_refl _) hU)
    · have hr := HR2.out
      rw [if_neg hbr] at hr
      have HR3 := Lib.hid hr
      clear hr HR2
      have hq : ((hd ts1).text == [91]) = false := by simpa using hbr
      refine (accept_no H2.out [91] hbr).mono ?_
      rintro e w' ⟨rfl, hw'⟩
      have hw2 := hw'.symm
      clear hw'
      subst hw2
      go_wp2_with (first | ((with_reducible show wpList _ _ _ (Oper.mk _ (Op.load 51 _) _ _ _ none :: _) _ _); refine wpList_load_all rfl 51 _ rfl w1.heap.size _ _ rfl E2.out Tryd.underlying51 rfl (by kernel_rfl) ?_) | ((with_reducible show wpList _ _ _ (Oper.mk none (Op.store 51 _ _) _ _ _ none :: _) _ _); refine wpList_store_all rfl rfl 51 _ _ rfl w.heap.size _ (#[.int .i64 1, .int .i64 0, .int .i64 0, .string ⟨x1.toArray⟩, .string ⟨#[]⟩, .slice none 0 0]) rfl rfl Z2.out rfl (by kernel_rfl) (by simp [Value.oneCell']) ?_; intro U hU))
      (try simp only [Exit.inBlock, Exit.then])
      have hld := ret_all (P := Tryd.prog) 51 w.heap.size _ _ hU.at_ Tryd.underlying51 rfl (by kernel_rfl)
      refine bodyPost_ret (v := .agg #[.int .i64 1, .int .i64 0, .int .i64 0, .string ⟨x1.toArray⟩, .string ⟨#[]⟩, .slice none 0 0]) (by simp [results, Tryd.results87, Act.put, asAddr, hld]) rfl ?_
      exact out_ok HR3.out.symm (ExIs.mk (A := none) (cap := 0) (ExsIs.nil _ _ _ _ (Nat.zero_le _))) (H2.out.setC H.out (Nat.le_refl _) hU) (K2.out.setC (Nat.le_refl _) hU)
theorem unary_up {n : Nat} (iu : UnaryAt n) {m : Pm} {w : World} {nest : Nat} {ts : List Tok} (lev : Nat) (R : Res Ex) (h : PsAt m w nest ts) (hl : lev ≤ 8) (hR : Hid (unaryP n (lev + 1) ts = R)) (hne : R ≠ .out) :
    Calls Tryd.prog 80 #[.pointer (some ⟨m.P, 0, none⟩), .int .i64 ((lev : Int) + 1)] w (Out m w nest (ExV w.heap.size) R) := by
  have := iu (lev + 1) R h (by omega) hR hne
  rwa [show ((lev + 1 : Nat) : Int) = (lev : Int) + 1 from by omega] at this

set_option maxHeartbeats 3200000 in
set_option maxRecDepth 100000 in
theorem unary_step {n : Nat} (ih : OperAt n) (iu : UnaryAt n) (it : TargetAt n) : UnaryAt (n + 1) := by
  intro m w nest ts lev R h hl hR hne
  obtain ⟨t, rest, rfl⟩ := h.good.cons
  have hR2 := hR.out
  unfold unaryP at hR2
  have HR0 := Lib.hid hR2
  clear hR hR2
  obtain ⟨o, c, ⟨p0, p1, p2, t0, t1, t2, t3, hle, hc, _, _⟩, _⟩ := h.head
  have hT := h.tok.1
  have hP := h.lt
  have H := Lib.hid h
  have h0 := h.alloc (.cells #[.int .i64 0, .int .i64 0, .int .i64 0, .string ⟨#[]⟩, .string ⟨#[]⟩, .slice none 0 0] 51)
  have q0 := (Keeps.refl m.P w).alloc (.cells #[.int .i64 0, .int .i64 0, .int .i64 0, .string ⟨#[]⟩, .string ⟨#[]⟩, .slice none 0 0] 51)
  have cZ0 := heap_alloc_new w (.cells #[.int .i64 0, .int .i64 0, .int .i64 0, .string ⟨#[]⟩, .string ⟨#[]⟩, .slice none 0 0] 51)
  have hz0 : (w.alloc (.cells #[.int .i64 0, .int .i64 0, .int .i64 0, .string ⟨#[]⟩, .string ⟨#[]⟩, .slice none 0 0] 51)).heap.size = w.heap.size + 1 := World.size_alloc _ _
  obtain ⟨w0, HW0⟩ : ∃ U, Hid (w.alloc (.cells #[.int .i64 0, .int .i64 0, .int .i64 0, .string ⟨#[]⟩, .string ⟨#[]⟩, .slice none 0 0] 51) = U) := ⟨_, Lib.hid rfl⟩
  rw [HW0.out] at h0 q0 cZ0 hz0
  have H0 := Lib.hid h0
  have K0 := Lib.hid q0
  have Z0 := Lib.hid cZ0
  clear h h0 q0 cZ0
  go_enter Tryd.func80, Tryd.ntmps80
  go_wp2_with fail
  have h1 := H0.out.alloc (.cells #[.int .i64 t.kind, .int .i64 t.line, .string ⟨t.text.toArray⟩, .int .i64 t.num] 87)
  have q1 := K0.out.alloc (.cells #[.int .i64 t.kind, .int .i64 t.line, .string ⟨t.text.toArray⟩, .int .i64 t.num] 87)
  have cZ1 := held_alloc (.cells #[.int .i64 t.kind, .int .i64 t.line, .string ⟨t.text.toArray⟩, .int .i64 t.num] 87) Z0.out
  have cT1 := (show (w0.alloc (.cells #[.int .i64 t.kind, .int .i64 t.line, .string ⟨t.text.toArray⟩, .int .i64 t.num] 87)).heap[w.heap.size + 1]? = some (.cells #[.int .i64 t.kind, .int .i64 t.line, .string ⟨t.text.toArray⟩, .int .i64 t.num] 87 (0, 0)) from by rw [← hz0]; exact heap_alloc_new _ _)
  obtain ⟨w1, HW1⟩ : ∃ U, Hid (w0.alloc (.cells #[.int .i64 t.kind, .int .i64 t.line, .string ⟨t.text.toArray⟩, .int .i64 t.num] 87) = U) := ⟨_, Lib.hid rfl⟩
  rw [HW1.out] at h1 q1 cZ1 cT1
  have H1 := Lib.hid h1
  have K1 := Lib.hid q1
  have Z1 := Lib.hid cZ1
  have T1 := Lib.hid cT1
  have hs1 := K1.out.size
  have hz1 : w1.heap.size = w0.heap.size + 1 := by have hq := congrArg (fun x => x.heap.size) HW1.out; simp only [World.size_alloc] at hq; exact hq.symm
  have hm1 : w0.heap.size < w1.heap.size := by omega
  clear h1 q1 cZ1 cT1
  rw [HW0.out, HW1.out]
  clear p0 p1 p2 t0 t1 t2 t3 hle hc hT
  refine (begins_any t w1).mono ?_
  rintro e w2 ⟨rfl, hb⟩
  have k2 := Keeps.below (P := m.P) hb
  have h2 := H1.out.below hb
  have H2 := Lib.hid h2
  have K2 := Lib.hid (K1.out.trans k2)
  have hs2 := K2.out.size
  have hm2 := k2.size
  have Z2 := Lib.hid (k2.held (by omega) Z1.out)
  have T2 := Lib.hid (k2.held (by omega) T1.out)
  clear h2 k2
  clear hb
  obtain ⟨⟨a0, a1, a2, a3⟩, _⟩ := cells_four T2.out
  by_cases hbg : begins t = true
  · have hr := HR0.out
    rw [if_neg (show ¬ begins (hd (t :: rest)) = false from by simpa [hd] using hbg)] at hr
    have HR1 := Lib.hid hr
    clear hr HR0
    by_cases hlv : 8 < lev
    · have hr := HR1.out
      rw [if_pos hlv] at hr
      have HR2 := Lib.hid hr
      clear hr HR1
      go_wp2_with fail
      refine (refuse_any H2.out 5).mono ?_
      rintro e w' ⟨rfl, hb⟩
      exact ⟨rfl, out_err (HR2.out.symm) (K2.out.trans (Keeps.below hb))⟩
    · have hr := HR1.out
      rw [if_neg hlv] at hr
      have HR2 := Lib.hid hr
      clear hr HR1
      by_cases hk : t.kind = 1
      · have hr := HR2.out
        rw [if_pos (show (hd (t :: rest)).kind = 1 from hk)] at hr
        have HR3 := Lib.hid hr
        clear hr HR2
        have hq : ((t.kind : Int) == 1) = true := by rw [hk]; rfl
        go_wp2_with fail
        refine (it lev _ H2.out (by omega) (Lib.hid rfl) (by rw [HR3.out]; exact hne)).mono ?_
        intro e w3 ho
        rcases ho.go with ⟨l, k, hR, rfl, k3⟩ | ⟨x3, ts3, v3, hR, rfl, hv, h3, k3⟩
        · exact ⟨rfl, out_err (by rw [← HR3.out, hR]) (K2.out.trans k3)⟩
        have HR4 := Lib.hid (hR.symm.trans HR3.out)
        have H3 := Lib.hid h3
        have K3 := Lib.hid (K2.out.trans k3)
        have hs3 := K3.out.size
        have hm3 := k3.size
        have Z3 := Lib.hid (k3.held (by omega) Z2.out)
        have T3 := Lib.hid (k3.held (by omega) T2.out)
        clear h3 k3
        have HX3 := Lib.hid hR
        clear hR
        obtain ⟨op3, num3, var3, nm3, fld3, args3⟩ := x3
        obtain ⟨A3, c3, rfl, ha⟩ := ExIs.parts hv
        have X3 : Hid (ExIs w3 (fun b => w2.heap.size ≤ b) (.agg #[.int .i64 op3, .int .i64 num3, .int .i64 var3, .string ⟨nm3.toArray⟩, .string ⟨fld3.toArray⟩, .slice A3 args3.length c3]) (.mk op3 num3 var3 nm3 fld3 args3)) := Lib.hid hv
        clear ha hv
        go_wp2_with ((with_reducible show wpList _ _ _ (Oper.mk none (Op.store 51 _ _) _ _ _ none :: _) _ _); refine wpList_store_all rfl rfl 51 _ _ rfl w.heap.size _ (#[.int .i64 op3, .int .i64 num3, .int .i64 var3, .string ⟨nm3.toArray⟩, .string ⟨fld3.toArray⟩, .slice A3 args3.length c3]) rfl rfl Z3.out rfl (by kernel_rfl) (by simp [Value.oneCell']) ?_; intro U hU)
        (try simp only [Exit.inBlock, Exit.then])
        have hld := ret_all (P := Tryd.prog) 51 w.heap.size _ _ hU.at_ Tryd.underlying51 rfl (by kernel_rfl)
        refine bodyPost_ret (v := .agg #[.int .i64 op3, .int .i64 num3, .int .i64 var3, .string ⟨nm3.toArray⟩, .string ⟨fld3.toArray⟩, .slice A3 args3.length c3]) (by simp [results, Tryd.results80, asAddr, hld]) rfl ?_
        exact out_ok HR4.out.symm ((X3.out.turn (hU.stays (by omega))).turn (fun b _ hb => ⟨by simp at hb; omega, rfl⟩)) (H3.out.setC H.out (Nat.le_refl _) hU) (K3.out.setC (Nat.le_refl _) hU)
      · have hr := HR2.out
        rw [if_neg (show ¬ (hd (t :: rest)).kind = 1 from hk)] at hr
        have HR3 := Lib.hid hr
        clear hr HR2
        have hq : ((t.kind : Int) == 1) = false := ne_beq (by omega)
        go_wp2_with fail
        have hgr : Good rest := H2.out.good.tail (by
          simp only [begins, decide_eq_true_eq] at hbg
          rcases hbg with e | e | e | e | e
          · exact .inl (by omega)
          · exact .inl (by omega)
          · exact .inr (by rw [e]; simp)
          · exact .inr (by rw [e]; simp)
          · exact .inr (by rw [e]; simp)
          )
        clear hbg hk hlv hq
        refine (next_any H2.out hgr).mono ?_
        rintro e w3 ⟨rfl, h3, k3⟩
        have H3 := Lib.hid h3
        have K3 := Lib.hid (K2.out.trans k3)
        have hs3 := K3.out.size
        have hm3 := k3.size
        have Z3 := Lib.hid (k3.held (by omega) Z2.out)
        have T3 := Lib.hid (k3.held (by omega) T2.out)
        clear h3 k3
        clear a0 a1 a2 a3
        obtain ⟨⟨a0, a1, a2, a3⟩, _⟩ := cells_four T3.out
        have hhd : hd (t :: rest) = t := rfl
        have htl : (t :: rest).tail = rest := rfl
        have hr := HR3.out
        rw [hhd, htl] at hr
        have HR4 := Lib.hid hr
        clear hr hhd htl HR3
        by_cases h1 : t.text = [45]
        · have qh1 : (t.text == [45]) = true := by simpa using h1
          have hr := HR4.out
          rw [if_pos h1] at hr
          have HR5 := Lib.hid hr
          clear hr HR4
          go_wp2_with fail
          refine (unary_up iu lev _ H3.out (by omega) (Lib.hid rfl) (Res.live HR5.out hne)).mono ?_
          intro e w4 ho
          rcases ho.go with ⟨l, k, hR, rfl, k4⟩ | ⟨x4, ts4, v4, hR, rfl, hv, h4, k4⟩
          · exact ⟨rfl, out_err (Res.fails HR5.out hR) (K3.out.trans k4)⟩
          have HR6 := Lib.hid (Res.behind HR5.out hR)
          have H4 := Lib.hid h4
          have K4 := Lib.hid (K3.out.trans k4)
          have hs4 := K4.out.size
          have hm4 := k4.size
          have Z4 := Lib.hid (k4.held (by omega) Z3.out)
          have T4 := Lib.hid (k4.held (by omega) T3.out)
          clear h4 k4
          have HX4 := Lib.hid hR
          clear hR
          obtain ⟨op4, num4, var4, nm4, fld4, args4⟩ := x4
          obtain ⟨A4, c4, rfl, ha⟩ := ExIs.parts hv
          have X4 : Hid (ExIs w4 (fun b => w3.heap.size ≤ b) (.agg #[.int .i64 op4, .int .i64 num4, .int .i64 var4, .string ⟨nm4.toArray⟩, .string ⟨fld4.toArray⟩, .slice A4 args4.length c4]) (.mk op4 num4 var4 nm4 fld4 args4)) := Lib.hid hv
          clear ha hv
          have h5 := H4.out.alloc (.cells #[.int .i64 op4, .int .i64 num4, .int .i64 var4, .string ⟨nm4.toArray⟩, .string ⟨fld4.toArray⟩, .slice A4 args4.length c4] 51)
          have q5 := K4.out.alloc (.cells #[.int .i64 op4, .int .i64 num4, .int .i64 var4, .string ⟨nm4.toArray⟩, .string ⟨fld4.toArray⟩, .slice A4 args4.length c4] 51)
          have cZ5 := held_alloc (.cells #[.int .i64 op4, .int .i64 num4, .int .i64 var4, .string ⟨nm4.toArray⟩, .string ⟨fld4.toArray⟩, .slice A4 args4.length c4] 51) Z4.out
          have cT5 := held_alloc (.cells #[.int .i64 op4, .int .i64 num4, .int .i64 var4, .string ⟨nm4.toArray⟩, .string ⟨fld4.toArray⟩, .slice A4 args4.length c4] 51) T4.out
          have cQ5 := heap_alloc_new w4 (.cells #[.int .i64 op4, .int .i64 num4, .int .i64 var4, .string ⟨nm4.toArray⟩, .string ⟨fld4.toArray⟩, .slice A4 args4.length c4] 51)
          have cX5 := X4.out.turn (stays_alloc (.cells #[.int .i64 op4, .int .i64 num4, .int .i64 var4, .string ⟨nm4.toArray⟩, .string ⟨fld4.toArray⟩, .slice A4 args4.length c4] 51))
          obtain ⟨w5, HW5⟩ : ∃ U, Hid (w4.alloc (.cells #[.int .i64 op4, .int .i64 num4, .int .i64 var4, .string ⟨nm4.toArray⟩, .string ⟨fld4.toArray⟩, .slice A4 args4.length c4] 51) = U) := ⟨_, Lib.hid rfl⟩
          rw [HW5.out] at h5 q5 cZ5 cT5 cQ5 cX5
          have H5 := Lib.hid h5
          have K5 := Lib.hid q5
          have Z5 := Lib.hid cZ5
          have T5 := Lib.hid cT5
          have Q5 := Lib.hid cQ5
          have X5 := Lib.hid cX5
          have hs5 := K5.out.size
          have hz5 : w5.heap.size = w4.heap.size + 1 := by have hq := congrArg (fun x => x.heap.size) HW5.out; simp only [World.size_alloc] at hq; exact hq.symm
          have hm5 : w4.heap.size < w5.heap.size := by omega
          clear h5 q5 cZ5 cT5 cQ5 cX5
          have Y5 : Hid (ExsIs w5 (fun b => w3.heap.size ≤ b) (some ⟨w4.heap.size, 0, none⟩) 1 [(.mk op4 num4 var4 nm4 fld4 args4)]) := Lib.hid (RowIs.one (vs := [.int .i64 op4, .int .i64 num4, .int .i64 var4, .string ⟨nm4.toArray⟩, .string ⟨fld4.toArray⟩, .slice A4 args4.length c4]) Q5.out (by omega) (Nat.le_refl _) (by decide) X5.out)
          go_wp2_with ((with_reducible show wpList _ _ _ (Oper.mk none (Op.store 51 _ _) _ _ _ none :: _) _ _); rw [HW5.out]; refine wpList_store_all rfl rfl 51 _ _ rfl w.heap.size _ (#[.int .i64 4, .int .i64 0, .int .i64 0, .string ⟨#[]⟩, .string ⟨#[]⟩, .slice (some ⟨w4.heap.size, 0, none⟩) 1 1]) rfl rfl Z5.out rfl (by kernel_rfl) (by simp [Value.oneCell']) ?_; intro U hU)
          (try simp only [Exit.inBlock, Exit.then])
          have hld := ret_all (P := Tryd.prog) 51 w.heap.size _ _ hU.at_ Tryd.underlying51 rfl (by kernel_rfl)
          refine bodyPost_ret (v := .agg #[.int .i64 4, .int .i64 0, .int .i64 0, .string ⟨#[]⟩, .string ⟨#[]⟩, .slice (some ⟨w4.heap.size, 0, none⟩) 1 1]) (by simp [results, Tryd.results80, asAddr, hld]) rfl ?_
          exact out_ok HR6.out.symm ((ExIs.mk ((Y5.out.turn (hU.stays (by omega))).turn (fun b _ hb => ⟨by simp at hb; omega, rfl⟩)))) (H5.out.setC H.out (Nat.le_refl _) hU) (K5.out.setC (Nat.le_refl _) hU)
        · have qh1 : (t.text == [45]) = false := by simpa using h1
          have hr := HR4.out
          rw [if_neg h1] at hr
          have HR5 := Lib.hid hr
          clear hr HR4
          by_cases h2 : t.text = [33]
          · have qh2 : (t.text == [33]) = true := by simpa using h2
            have hr := HR5.out
            rw [if_pos h2] at hr
            have HR6 := Lib.hid hr
            clear hr HR5
            go_wp2_with fail
            refine (unary_up iu lev _ H3.out (by omega) (Lib.hid rfl) (Res.live HR6.out hne)).mono ?_
            intro e w4 ho
            rcases ho.go with ⟨l, k, hR, rfl, k4⟩ | ⟨x4, ts4, v4, hR, rfl, hv, h4, k4⟩
            · exact ⟨rfl, out_err (Res.fails HR6.out hR) (K3.out.trans k4)⟩
            have HR7 := Lib.hid (Res.behind HR6.out hR)
            have H4 := Lib.hid h4
            have K4 := Lib.hid (K3.out.trans k4)
            have hs4 := K4.out.size
            have hm4 := k4.size
            have Z4 := Lib.hid (k4.held (by omega) Z3.out)
            have T4 := Lib.hid (k4.held (by omega) T3.out)
            clear h4 k4
            have HX4 := Lib.hid hR
            clear hR
            obtain ⟨op4, num4, var4, nm4, fld4, args4⟩ := x4
            obtain ⟨A4, c4, rfl, ha⟩ := ExIs.parts hv
            have X4 : Hid (ExIs w4 (fun b => w3.heap.size ≤ b) (.agg #[.int .i64 op4, .int .i64 num4, .int .i64 var4, .string ⟨nm4.toArray⟩, .string ⟨fld4.toArray⟩, .slice A4 args4.length c4]) (.mk op4 num4 var4 nm4 fld4 args4)) := Lib.hid hv
            clear ha hv
            have h5 := H4.out.alloc (.cells #[.int .i64 op4, .int .i64 num4, .int .i64 var4, .string ⟨nm4.toArray⟩, .string ⟨fld4.toArray⟩, .slice A4 args4.length c4] 51)
            have q5 := K4.out.alloc (.cells #[.int .i64 op4, .int .i64 num4, .int .i64 var4, .string ⟨nm4.toArray⟩, .string ⟨fld4.toArray⟩, .slice A4 args4.length c4] 51)
            have cZ5 := held_alloc (.cells #[.int .i64 op4, .int .i64 num4, .int .i64 var4, .string ⟨nm4.toArray⟩, .string ⟨fld4.toArray⟩, .slice A4 args4.length c4] 51) Z4.out
            have cT5 := held_alloc (.cells #[.int .i64 op4, .int .i64 num4, .int .i64 var4, .string ⟨nm4.toArray⟩, .string ⟨fld4.toArray⟩, .slice A4 args4.length c4] 51) T4.out
            have cQ5 := heap_alloc_new w4 (.cells #[.int .i64 op4, .int .i64 num4, .int .i64 var4, .string ⟨nm4.toArray⟩, .string ⟨fld4.toArray⟩, .slice A4 args4.length c4] 51)
            have cX5 := X4.out.turn (stays_alloc (.cells #[.int .i64 op4, .int .i64 num4, .int .i64 var4, .string ⟨nm4.toArray⟩, .string ⟨fld4.toArray⟩, .slice A4 args4.length c4] 51))
            obtain ⟨w5, HW5⟩ : ∃ U, Hid (w4.alloc (.cells #[.int .i64 op4, .int .i64 num4, .int .i64 var4, .string ⟨nm4.toArray⟩, .string ⟨fld4.toArray⟩, .slice A4 args4.length c4] 51) = U) := ⟨_, Lib.hid rfl⟩
            rw [HW5.out] at h5 q5 cZ5 cT5 cQ5 cX5
            have H5 := Lib.hid h5
            have K5 := Lib.hid q5
            have Z5 := Lib.hid cZ5
            have T5 := Lib.hid cT5
            have Q5 := Lib.hid cQ5
            have X5 := Lib.hid cX5
            have hs5 := K5.out.size
            have hz5 : w5.heap.size = w4.heap.size + 1 := by have hq := congrArg (fun x => x.heap.size) HW5.out; simp only [World.size_alloc] at hq; exact hq.symm
            have hm5 : w4.heap.size < w5.heap.size := by omega
            clear h5 q5 cZ5 cT5 cQ5 cX5
            have Y5 : Hid (ExsIs w5 (fun b => w3.heap.size ≤ b) (some ⟨w4.heap.size, 0, none⟩) 1 [(.mk op4 num4 var4 nm4 fld4 args4)]) := Lib.hid (RowIs.one (vs := [.int .i64 op4, .int .i64 num4, .int .i64 var4, .string ⟨nm4.toArray⟩, .string ⟨fld4.toArray⟩, .slice A4 args4.length c4]) Q5.out (by omega) (Nat.le_refl _) (by decide) X5.out)
            go_wp2_with ((with_reducible show wpList _ _ _ (Oper.mk none (Op.store 51 _ _) _ _ _ none :: _) _ _); rw [HW5.out]; refine wpList_store_all rfl rfl 51 _ _ rfl w.heap.size _ (#[.int .i64 5, .int .i64 0, .int .i64 0, .string ⟨#[]⟩, .string ⟨#[]⟩, .slice (some ⟨w4.heap.size, 0, none⟩) 1 1]) rfl rfl Z5.out rfl (by kernel_rfl) (by simp [Value.oneCell']) ?_; intro U hU)
            (try simp only [Exit.inBlock, Exit.then])
            have hld := ret_all (P := Tryd.prog) 51 w.heap.size _ _ hU.at_ Tryd.underlying51 rfl (by kernel_rfl)
            refine bodyPost_ret (v := .agg #[.int .i64 5, .int .i64 0, .int .i64 0, .string ⟨#[]⟩, .string ⟨#[]⟩, .slice (some ⟨w4.heap.size, 0, none⟩) 1 1]) (by simp [results, Tryd.results80, asAddr, hld]) rfl ?_
            exact out_ok HR7.out.symm ((ExIs.mk ((Y5.out.turn (hU.stays (by omega))).turn (fun b _ hb => ⟨by simp at hb; omega, rfl⟩)))) (H5.out.setC H.out (Nat.le_refl _) hU) (K5.out.setC (Nat.le_refl _) hU)
          · have qh2 : (t.text == [33]) = false := by simpa using h2
            have hr := HR5.out
            rw [if_neg h2] at hr
            have HR6 := Lib.hid hr
            clear hr HR5
            by_cases h3 : t.text = [40]
            · have qh3 : (t.text == [40]) = true := by simpa using h3
              have hr := HR6.out
              rw [if_pos h3] at hr
              have HR7 := Lib.hid hr
              clear hr HR6
              go_wp2_with fail
              refine (expression_up ih lev _ H3.out (by omega) (Lib.hid rfl) (Res.live HR7.out hne)).mono ?_
              intro e w4 ho
              rcases ho.go with ⟨l, k, hR, rfl, k4⟩ | ⟨x4, ts4, v4, hR, rfl, hv, h4, k4⟩
              · exact ⟨rfl, out_err (Res.fails HR7.out hR) (K3.out.trans k4)⟩
              have HR8 := Lib.hid (Res.behind HR7.out hR)
              have H4 := Lib.hid h4
              have K4 := Lib.hid (K3.out.trans k4)
              have hs4 := K4.out.size
              have hm4 := k4.size
              have Z4 := Lib.hid (k4.held (by omega) Z3.out)
              have T4 := Lib.hid (k4.held (by omega) T3.out)
              clear h4 k4
              have HX4 := Lib.hid hR
              clear hR
              obtain ⟨op4, num4, var4, nm4, fld4, args4⟩ := x4
              obtain ⟨A4, c4, rfl, ha⟩ := ExIs.parts hv
              have X4 : Hid (ExIs w4 (fun b => w3.heap.size ≤ b) (.agg #[.int .i64 op4, .int .i64 num4, .int .i64 var4, .string ⟨nm4.toArray⟩, .string ⟨fld4.toArray⟩, .slice A4 args4.length c4]) (.mk op4 num4 var4 nm4 fld4 args4)) := Lib.hid hv
              clear ha hv
              go_wp2_with fail
              clear h3 qh3
              have h5 := H4.out.alloc (.cells #[.int .i64 op4, .int .i64 num4, .int .i64 var4, .string ⟨nm4.toArray⟩, .string ⟨fld4.toArray⟩, .slice A4 args4.length c4] 51)
              have q5 := K4.out.alloc (.cells #[.int .i64 op4, .int .i64 num4, .int .i64 var4, .string ⟨nm4.toArray⟩, .string ⟨fld4.toArray⟩, .slice A4 args4.length c4] 51)
              have cZ5 := held_alloc (.cells #[.int .i64 op4, .int .i64 num4, .int .i64 var4, .string ⟨nm4.toArray⟩, .string ⟨fld4.toArray⟩, .slice A4 args4.length c4] 51) Z4.out
              have cT5 := held_alloc (.cells #[.int .i64 op4, .int .i64 num4, .int .i64 var4, .string ⟨nm4.toArray⟩, .string ⟨fld4.toArray⟩, .slice A4 args4.length c4] 51) T4.out
              have cE5 := heap_alloc_new w4 (.cells #[.int .i64 op4, .int .i64 num4, .int .i64 var4, .string ⟨nm4.toArray⟩, .string ⟨fld4.toArray⟩, .slice A4 args4.length c4] 51)
              have cX5 := X4.out.turn (q := fun b => (w3.heap.size ≤ b) ∧ b ≠ w4.heap.size) (fun b hb (hp : w3.heap.size ≤ b) => ⟨⟨hp, by omega⟩, heap_alloc_old _ (.cells #[.int .i64 op4, .int .i64 num4, .int .i64 var4, .string ⟨nm4.toArray⟩, .string ⟨fld4.toArray⟩, .slice A4 args4.length c4] 51) hb⟩)
              obtain ⟨w5, HW5⟩ : ∃ U, Hid (w4.alloc (.cells #[.int .i64 op4, .int .i64 num4, .int .i64 var4, .string ⟨nm4.toArray⟩, .string ⟨fld4.toArray⟩, .slice A4 args4.length c4] 51) = U) := ⟨_, Lib.hid rfl⟩
              rw [HW5.out] at h5 q5 cZ5 cT5 cE5 cX5
              have H5 := Lib.hid h5
              have K5 := Lib.hid q5
              have Z5 := Lib.hid cZ5
              have T5 := Lib.hid cT5
              have E5 := Lib.hid cE5
              have X5 := Lib.hid cX5
              have hs5 := K5.out.size
              have hz5 : w5.heap.size = w4.heap.size + 1 := by have hq := congrArg (fun x => x.heap.size) HW5.out; simp only [World.size_alloc] at hq; exact hq.symm
              have hm5 : w4.heap.size < w5.heap.size := by omega
              clear h5 q5 cZ5 cT5 cE5 cX5
              rw [HW5.out]
              refine (expect_any H5.out [41] (by simp)).mono ?_
              intro e w6 ho
              rcases ho.go with ⟨l, k, hR, rfl, k6⟩ | ⟨x6, ts6, v6, hR, rfl, hv, h6, k6⟩
              · exact ⟨rfl, out_err (Res.fails HR8.out hR) (K5.out.trans k6)⟩
              have HR9 := Lib.hid (Res.behind HR8.out hR)
              have H6 := Lib.hid h6
              have K6 := Lib.hid (K5.out.trans k6)
              have hs6 := K6.out.size
              have hm6 := k6.size
              have Z6 := Lib.hid (k6.held (by omega) Z5.out)
              have T6 := Lib.hid (k6.held (by omega) T5.out)
              have E6 := Lib.hid (k6.held (by omega) E5.out)
              have X6 := Lib.hid (X5.out.turn (k6.stays_of (fun b (hb : (w3.heap.size ≤ b) ∧ b ≠ w4.heap.size) => by omega)))
              clear h6 k6
              have HX6 := Lib.hid hR
              clear hv
              clear hR
              go_wp2_with (first | ((with_reducible show wpList _ _ _ (Oper.mk _ (Op.load 51 _) _ _ _ none :: _) _ _); refine wpList_load_all rfl 51 _ rfl w4.heap.size _ _ rfl E6.out Tryd.underlying51 rfl (by kernel_rfl) ?_) | ((with_reducible show wpList _ _ _ (Oper.mk none (Op.store 51 _ _) _ _ _ none :: _) _ _); refine wpList_store_all rfl rfl 51 _ _ rfl w.heap.size _ (#[.int .i64 op4, .int .i64 num4, .int .i64 var4, .string ⟨nm4.toArray⟩, .string ⟨fld4.toArray⟩, .slice A4 args4.length c4]) rfl rfl Z6.out rfl (by kernel_rfl) (by simp [Value.oneCell']) ?_; intro U hU))
              (try simp only [Exit.inBlock, Exit.then])
              have hld := ret_all (P := Tryd.prog) 51 w.heap.size _ _ hU.at_ Tryd.underlying51 rfl (by kernel_rfl)
              refine bodyPost_ret (v := .agg #[.int .i64 op4, .int .i64 num4, .int .i64 var4, .string ⟨nm4.toArray⟩, .string ⟨fld4.toArray⟩, .slice A4 args4.length c4]) (by simp [results, Tryd.results80, Act.put, asAddr, hld]) rfl ?_
              exact out_ok HR9.out.symm ((X6.out.turn (q := fun b => w.heap.size ≤ b) (fun b _ (hb : (w3.heap.size ≤ b) ∧ b ≠ w4.heap.size) => ⟨by omega, hU.block b (by omega)⟩))) (H6.out.setC H.out (Nat.le_refl _) hU) (K6.out.setC (Nat.le_refl _) hU)
            · have qh3 : (t.text == [40]) = false := by simpa using h3
              have hr := HR6.out
              rw [if_neg h3] at hr
              have HR7 := Lib.hid hr
              clear hr HR6
              go_wp2_with ((with_reducible show wpList _ _ _ (Oper.mk none (Op.store 51 _ _) _ _ _ none :: _) _ _); refine wpList_store_all rfl rfl 51 _ _ rfl w.heap.size _ (#[.int .i64 0, .int .i64 t.num, .int .i64 0, .string ⟨#[]⟩, .string ⟨#[]⟩, .slice none 0 0]) rfl rfl Z3.out rfl (by kernel_rfl) (by simp [Value.oneCell']) ?_; intro U hU)
              (try simp only [Exit.inBlock, Exit.then])
              have hld := ret_all (P := Tryd.prog) 51 w.heap.size _ _ hU.at_ Tryd.underlying51 rfl (by kernel_rfl)
              refine bodyPost_ret (v := .agg #[.int .i64 0, .int .i64 t.num, .int .i64 0, .string ⟨#[]⟩, .string ⟨#[]⟩, .slice none 0 0]) (by simp [results, Tryd.results80, asAddr, hld]) rfl ?_
              exact out_ok HR7.out.symm (ExIs.mk (A := none) (cap := 0) (ExsIs.nil _ _ _ _ (Nat.zero_le _))) (H3.out.setC H.out (Nat.le_refl _) hU) (K3.out.setC (Nat.le_refl _) hU)
  · have hbf : begins t = false := by simpa using hbg
    have hr := HR0.out
    rw [if_pos (show begins (hd (t :: rest)) = false from hbf)] at hr
    have HR1 := Lib.hid hr
    clear hr HR0
    go_wp2_with fail
    refine (refuse_any H2.out 7).mono ?_
    rintro e w' ⟨rfl, hb⟩
    exact ⟨rfl, out_err (HR1.out.symm) (K2.out.trans (Keeps.below hb))⟩
end Go.Proofs.YtpfefjfpnmchcaaDoor
