/-
  What the machine's run does: the plain run. Condition: registers, memory and output of 64 bits.
-/
import Derived.Test.YtimiofmmhccmmaaDoorIStep
namespace Go.Proofs.YtimiofmmhccmmaaDoor
open Go.RowKit

theorem runP_next {n : Nat} {mem mem' : List Int} {c : Cpu} {x : Eff} {out : List Int} (h : c.pc ≠ -1) (hs : stepP mem c = some (mem', x)) : runP (n + 1) mem c out = runP n mem' x.cpu (if x.prints then out ++ [x.print] else out) := runP_step h hs
/-- A machine at which a run may go on. -/
def Goes (R : Outc) (B K M L : Nat) (n : Nat) (w : World) : Prop :=
  ∃ c m A d out, Mach B K M c m A d out w ∧ c.Fits ∧ All64 m ∧ All64 out ∧ m.length = L ∧ out.length + n ≤ 200000 ∧ runP n m c out = R
/-- What a run leaves behind. -/
def RanTo (R : Outc) (B K M L : Nat) (w : World) (e : Ending) (w' : World) : Prop :=
  e = .returned (.int .i64 R.err) ∧ (∃ c m A d, Mach B K M c m A d R.output w' ∧ c.Fits ∧ m.length = L ∧ (R.err = 0 → R = endO c R.output) ∧ (R.err ≠ 0 → R.thrown = false ∧ R.value = 0)) ∧ All64 R.output ∧ Others B K M w w'
theorem out_len {x : Eff} {out : List Int} : (if x.prints then out ++ [x.print] else out).length ≤ out.length + 1 := by
  cases x.prints <;> simp
theorem out_all {x : Eff} {out : List Int} (h : All64 out) (hp : I64 x.print) : All64 (if x.prints then out ++ [x.print] else out) := by
  cases x.prints
  · exact h
  · exact all_append h (all_one hp)
set_option maxRecDepth 100000 in
theorem loop_any (R : Outc) (B K M L : Nat) (n0 : Nat) (w : World) (hg : Goes R B K M L n0 w) :
    Calls Tryd.prog 39 #[.pointer (some ⟨K, 0, none⟩), .int .i64 n0] w (RanTo R B K M L w) := by
  have HG := Lib.hid hg
  clear hg
  go_enter Tryd.func39, Tryd.ntmps39
  go_wp2_with fail
  go_loopw [1] (fun s wr => ∃ n : Nat, s = .int .i64 n ∧ Goes R B K M L n wr ∧ Others B K M w wr) (fun s _ => (intOf s).toNat)
  case atStart => exact ⟨n0, rfl, HG.out, Others.refl _ _ _ _⟩
  case round =>
    obtain ⟨n, rfl, ⟨c, m, A, d, out, hm, hc, h64, ho64, hL, hout, hR⟩, hoth⟩ := hrel
    have c16 := (cell_of_row _ _ 16 _ _ _ hm.mach).trans (machC_at hc.len).1
    have HM := Lib.hid hm
    have HC := Lib.hid hc
    have H64 := Lib.hid h64
    have HO64 := Lib.hid ho64
    have HO := Lib.hid hoth
    have HL := Lib.hid hL
    have HR := Lib.hid hR
    clear hm hc h64 ho64 hoth hL hR HG
    obtain ⟨pc, hpc⟩ : ∃ y, Hid (c.pc = y) := ⟨_, rfl⟩
    rw [hpc.out] at c16
    by_cases hx : pc = -1
    · have hx' : (pc != -1) = false := by simpa using hx
      have he := HR.out.symm.trans (runP_end (n := n) (mem := m) (out := out) (hpc.out.trans hx))
      have HE := Lib.hid he
      clear he hx hout
      go_wp2_with fail
      go_ret
      rw [HE.out]
      exact ⟨rfl, ⟨c, m, A, d, HM.out, HC.out, HL.out, fun _ => rfl, fun h => absurd rfl h⟩, HO64.out, HO.out⟩
    · have hx' : (pc != -1) = true := by simpa using hx
      have hne : c.pc ≠ -1 := by rw [hpc.out]; exact hx
      have HNE := Lib.hid hne
      clear hne hx hpc
      cases n with
      | zero =>
        have HE := Lib.hid (HR.out.symm.trans (runP_zero (mem := m) (out := out) HNE.out))
        clear hout
        go_wp2_with fail
        go_ret
        rw [HE.out]
        exact ⟨rfl, ⟨c, m, A, d, HM.out, HC.out, HL.out, (fun h => absurd (show (13 : Int) = 0 from h) (by decide)), fun _ => ⟨rfl, rfl⟩⟩, HO64.out, HO.out⟩
      | succ n =>
        have hn0 : (((n + 1 : Nat) : Int) == 0) = false := by simp; omega
        go_wp2_with fail
        refine (step_any B K M c m out A d _ HM.out HC.out H64.out (by omega)).mono ?_
        rintro e w1 h
        rcases h with ⟨hs, h⟩ | ⟨x, hs, h⟩
        · have HE := Lib.hid (HR.out.symm.trans (runP_fault HNE.out hs))
          unfold NoStep at h
          obtain ⟨rfl, hb⟩ := h
          have HB := Lib.hid hb
          clear hb hs hout c16
          go_wp2_with fail
          go_ret
          rw [HE.out]
          exact ⟨rfl, ⟨c, m, A, d, HM.out.below HB.out, HC.out, HL.out, (fun h => absurd (show (14 : Int) = 0 from h) (by decide)), fun _ => ⟨rfl, rfl⟩⟩, HO64.out, HO.out.trans (Others.of_below HM.out.size HB.out)⟩
        · have HE := Lib.hid ((runP_next HNE.out hs).symm.trans HR.out)
          obtain ⟨f1, f2, f3, f4⟩ := step_fits H64.out HC.out hs
          unfold DoStep at h
          obtain ⟨rfl, ⟨A', d', hm'⟩, hoth'⟩ := h
          have HG := Lib.hid (show Goes R B K M L n w1 from ⟨x.cpu, _, A', d', _, hm', f3, f1, out_all HO64.out f4, f2.trans HL.out, Nat.le_trans (Nat.add_le_add_right out_len n) (by omega), HE.out⟩)
          have HO' := Lib.hid (HO.out.trans hoth')
          clear hs hm' hoth' f1 f2 f3 f4 c16 HE
          go_wp2_with fail
          go_roundw
          case rel => exact ⟨n, by go_num, HG.out, HO'.out⟩
          case measure => simp [intOf]
end Go.Proofs.YtimiofmmhccmmaaDoor
