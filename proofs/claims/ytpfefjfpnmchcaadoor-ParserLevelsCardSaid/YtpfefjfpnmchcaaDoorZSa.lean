/-
  same.List of names and same.Exprs: of values of equal trees they say that they are the same. No condition. same.Stmts: of values of equal trees it says that they are the same. No condition. same.Program: of values of equal programs it says that they are the same. No condition.
-/
import Derived.Test.YtpfefjfpnmchcaaDoorZWa
import Derived.Deep.QuietTactic
import Derived.BigQuiet
import Derived.StillTailTactics
import Derived.Test.YtpfefjfpnmchcaaDoorZWj
namespace Go.Proofs.YtpfefjfpnmchcaaDoor
open Go.RowKit

theorem NamesIs.at_ {w : World} {p : Nat → Prop} {A : Option Addr} {c : Nat} {xs : List (List UInt8)} (h : NamesIs p w A c xs) {k : Nat} {x : List UInt8} (hk : xs[k]? = some x) : ∃ b, A = some ⟨b, 0, none⟩ ∧ w.cell? ⟨b, k, none⟩ = some (.string ⟨x.toArray⟩) := by
  obtain ⟨h1, h2, h3⟩ := h
  obtain ⟨b, cur, fr, hA, hp, hb, hc⟩ := h3 (fun e => by rw [e] at hk; simp at hk)
  obtain ⟨vs, hl, hcell, hv⟩ := hc k x hk
  have hvs : vs = [.string ⟨x.toArray⟩] := by
    injection hv with hv
    simpa using congrArg Array.toList hv
  subst hvs
  have := hcell 0 (by decide)
  exact ⟨b, hA, by rw [cell_of_row w b _ _ _ _ hb]; simpa using this⟩
set_option maxHeartbeats 2000000 in
set_option maxRecDepth 100000 in
theorem list_same {w : World} {p q : Nat → Prop} {A A' : Option Addr} {c c' : Nat} {xs : List (List UInt8)} (h : NamesIs p w A c xs) (h' : NamesIs q w A' c' xs) :
    Calls Tryd.prog 16 #[.slice A xs.length c, .slice A' xs.length c'] w fun e w' => e = .returned (.bool true) ∧ ∃ n, w' = w.drewN n := by
  have hcap : c ≤ 9223372036854775807 := by have := h.2.1; unfold maxLen at this; omega
  have hlc : xs.length ≤ c := h.1
  have H := Lib.hid h
  have H' := Lib.hid h'
  clear h h'
  go_enter Tryd.func16, Tryd.ntmps16
  go_wp2_with fail
  go_loopw [5] (fun i wr => ∃ k n : Nat, i = .int .i64 k ∧ k ≤ xs.length ∧ wr = w.drewN n) (fun i _ => xs.length - (intOf i).toNat)
  case atStart => exact ⟨0, 0, rfl, Nat.zero_le _, rfl⟩
  case round =>
    obtain ⟨k, n, rfl, hk, rfl⟩ := hrel
    by_cases hlt : k < xs.length
    · have hxk : xs[k]? = some xs[k] := List.getElem?_eq_getElem hlt
      obtain ⟨x, hx0⟩ : ∃ x, Hid (xs[k] = x) := ⟨_, Lib.hid rfl⟩
      rw [hx0.out] at hxk
      obtain ⟨b, rfl, hb⟩ := H.out.at_ hxk
      obtain ⟨b', rfl, hb'⟩ := H'.out.at_ hxk
      clear hxk hx0
      go_wp2_with fail
      go_quiet (fail)
      go_wp2_with fail
      go_roundw
      case rel => exact ⟨k + 1, _, by go_num, hlt, rfl⟩
      case measure => simp [intOf]; omega
    · obtain rfl : k = xs.length := by omega
      go_wp2_with fail
      go_ret
      exact ⟨rfl, _, rfl⟩
/-- same.Exprs of two rows of equal trees. -/
def ExsSame (d : Nat) : Prop := ∀ (w : World) (p q : Nat → Prop) (A A' : Option Addr) (c c' : Nat) (xs : List Ex), ExsD w p d A c xs → ExsD w q d A' c' xs → Calls Tryd.prog 26 #[.slice A xs.length c, .slice A' xs.length c'] w fun e w' => e = .returned (.bool true) ∧ Below w.heap.size w w'
theorem ExsD.still {w w' : World} {p : Nat → Prop} {d : Nat} {A : Option Addr} {c : Nat} {xs : List Ex} (h : ExsD w p d A c xs) (hb : Below w.heap.size w w') : ExsD w' p d A c xs := RowIs.turn (fun b hb' hp => ⟨hp, hb.block b hb'⟩) (fun _ _ hv => ExD.turn (fun b hb' hp => ⟨hp, hb.block b hb'⟩) hv) h
theorem ExD.args {w : World} {p : Nat → Prop} {d : Nat} {op num var op' num' var' : Int} {nm fld : List UInt8} {nm' fld' : ByteArray} {args : List Ex} {A : Option Addr} {n c : Nat} (h : ExD w p (d + 1) (.agg #[.int .i64 op', .int .i64 num', .int .i64 var', .string nm', .string fld', .slice A n c]) (.mk op num var nm fld args)) : ExsD w p d A c args := by
  obtain ⟨A', c', hv, hr⟩ := h
  injection hv with hv
  have h6 := congrArg (fun a : Array Value => a[5]?) hv
  simp at h6
  obtain ⟨rfl, _, rfl⟩ := h6
  exact hr
set_option maxHeartbeats 4000000 in
set_option maxRecDepth 100000 in
theorem exprs_step {d : Nat} (IH : ExsSame d) : ExsSame (d + 1) := by
  intro w p q A A' c c' xs h h'
  have hcap : c ≤ 9223372036854775807 := by have := h.2.1; unfold maxLen at this; omega
  have hlc : xs.length ≤ c := h.1
  have hcap' : c' ≤ 9223372036854775807 := by have := h'.2.1; unfold maxLen at this; omega
  have hlc' : xs.length ≤ c' := h'.1
  have H := Lib.hid h
  have H' := Lib.hid h'
  clear h h'
  go_enter Tryd.func26, Tryd.ntmps26
  go_wp2_with fail
  go_loopw [5] (fun i wr => ∃ k : Nat, i = .int .i64 k ∧ k ≤ xs.length ∧ Below w.heap.size w wr) (fun i _ => xs.length - (intOf i).toNat)
  case atStart => exact ⟨0, rfl, Nat.zero_le _, Below.refl _ _⟩
  case round =>
    obtain ⟨k, rfl, hk, hbel⟩ := hrel
    by_cases hlt : k < xs.length
    · have hxk : xs[k]? = some xs[k] := List.getElem?_eq_getElem hlt
      obtain ⟨x, hx0⟩ : ∃ x, Hid (xs[k] = x) := ⟨_, Lib.hid rfl⟩
      rw [hx0.out] at hxk
      obtain ⟨b, op, num, var, nm, fld, args, A1, c1, rfl, hxe, hxd, g0, g1, g2, g3, g4, g5⟩ := (H.out.still hbel).arg hxk
      obtain ⟨b', op', num', var', nm', fld', args', A2, c2, rfl, hxe', hxd', k0, k1, k2, k3, k4, k5⟩ := (H'.out.still hbel).arg hxk
      subst hxe
      obtain ⟨rfl, rfl, rfl, rfl, rfl, rfl⟩ : op' = op ∧ num' = num ∧ var' = var ∧ nm' = nm ∧ fld' = fld ∧ args' = args := by injection hxe' with a b c d e f; exact ⟨a.symm, b.symm, c.symm, d.symm, e.symm, f.symm⟩
      have HX := Lib.hid hxd
      have HX' := Lib.hid hxd'
      have HB := Lib.hid hbel
      have hsz := hbel.size
      have hbl := World.block_lt_of_cell? wr _ g0
      have hbl' := World.block_lt_of_cell? wr _ k0
      dsimp only at hbl hbl'
      have n1 : ¬ b = wr.heap.size := by omega
      have n2 : ¬ wr.heap.size = b := by omega
      have n3 : ¬ b' = wr.heap.size := by omega
      have n4 : ¬ wr.heap.size = b' := by omega
      clear hxk hx0 hxe' hxd hxd' hbel
      by_cases hk0 : k = 0
      · subst hk0
        simp only [Nat.zero_mul, Nat.zero_add] at g0 g1 g2 g3 g4 g5 k0 k1 k2 k3 k4 k5
        go_wp2_with fail
        go_region
        all_goals
          clear g0 g1 g2 g3 g4 g5 k0 k1 k2 k3 k4 k5
          go_wp2_with fail
          have hxs := HX.out.args
          have hxs' := HX'.out.args
          refine (IH _ p q A1 A2 c1 c2 args' (hxs.still (((Below.refl _ _).alloc (Nat.le_refl _) _).alloc (by simp) _).drew) (hxs'.still (((Below.refl _ _).alloc (Nat.le_refl _) _).alloc (by simp) _).drew)).mono ?_
          rintro e w1 ⟨rfl, hb1⟩
          have HB1 := Lib.hid ((((HB.out.alloc hsz _).alloc (by simp; omega) _).drew).trans (hb1.mono (by simp; omega)))
          clear hb1 hxs hxs'
          go_wp2_with fail
          go_roundw
          case rel => exact ⟨0 + 1, by go_num, by omega, HB1.out⟩
          case measure => simp [intOf]; omega
      · have hk1 : 0 < k := by omega
        clear hk0
        go_wp2_with fail
        go_region
        all_goals
          clear g0 g1 g2 g3 g4 g5 k0 k1 k2 k3 k4 k5
          go_wp2_with fail
          have hxs := HX.out.args
          have hxs' := HX'.out.args
          refine (IH _ p q A1 A2 c1 c2 args' (hxs.still (((Below.refl _ _).alloc (Nat.le_refl _) _).alloc (by simp) _).drew) (hxs'.still (((Below.refl _ _).alloc (Nat.le_refl _) _).alloc (by simp) _).drew)).mono ?_
          rintro e w1 ⟨rfl, hb1⟩
          have HB1 := Lib.hid ((((HB.out.alloc hsz _).alloc (by simp; omega) _).drew).trans (hb1.mono (by simp; omega)))
          clear hb1 hxs hxs'
          go_wp2_with fail
          go_roundw
          case rel => exact ⟨k + 1, by go_num, by omega, HB1.out⟩
          case measure => simp [intOf]; omega
    · obtain rfl : k = xs.length := by omega
      go_wp2_with fail
      go_ret
      exact ⟨rfl, hbel⟩
theorem exprs_zero : ExsSame 0 := by
  intro w p q A A' c c' xs h h'
  cases xs with
  | cons x l =>
    obtain ⟨h1, h2, h3⟩ := h
    obtain ⟨b, cur, fr, hA, hp, hb, hc⟩ := h3 (by simp)
    obtain ⟨vs, hl, hcell, hP⟩ := hc 0 x rfl
    exact hP.elim
  | nil =>
    clear h h'
    go_enter Tryd.func26, Tryd.ntmps26
    go_wp2_with fail
    go_loop [5] (fun i => i = .int .i64 0) (fun _ => 0)
    case atStart => rfl
    case round =>
      subst hrel
      go_wp2_with fail
      go_ret
      exact ⟨rfl, Below.refl _ _⟩
theorem exprs_same : ∀ d, ExsSame d
  | 0 => exprs_zero
  | d + 1 => exprs_step (exprs_same d)
end Go.Proofs.YtpfefjfpnmchcaaDoor
namespace Go.Proofs.YtpfefjfpnmchcaaDoor
open Go.RowKit

/-- same.Stmts of two rows of equal trees. -/
def StsSame (d : Nat) : Prop := ∀ (w : World) (p q : Nat → Prop) (A A' : Option Addr) (c c' : Nat) (xs : List Sm) (ln : Bool), SmsD w p d A c xs → SmsD w q d A' c' xs → Calls Tryd.prog 17 #[.slice A xs.length c, .slice A' xs.length c', .bool ln] w fun e w' => e = .returned (.bool true) ∧ Below w.heap.size w w'
theorem SmsD.still {w w' : World} {p : Nat → Prop} {d : Nat} {A : Option Addr} {c : Nat} {xs : List Sm} (h : SmsD w p d A c xs) (hb : Below w.heap.size w w') : SmsD w' p d A c xs := RowIs.turn (fun b hb' hp => ⟨hp, hb.block b hb'⟩) (fun _ _ hv => SmD.turn (fun b hb' hp => ⟨hp, hb.block b hb'⟩) hv) h
theorem SmD.fields {w : World} {p : Nat → Prop} {d : Nat} {kind line id len var callee : Int} {nm ty fn : List UInt8} {target args : List Ex} {body els : List Sm} {X1 X2 X3 X4 : Option Addr} {X1c X2c X3c X4c : Nat} (h : SmD w p (d + 1) (.agg #[.int .i64 kind, .int .i64 line, .int .i64 id, .string ⟨nm.toArray⟩, .string ⟨ty.toArray⟩, .int .i64 len, .int .i64 var, .slice X1 target.length X1c, .string ⟨fn.toArray⟩, .int .i64 callee, .slice X2 args.length X2c, .slice X3 body.length X3c, .slice X4 els.length X4c]) (.mk kind line id nm ty len var target fn callee args body els)) : ExsD w p d X1 X1c target ∧ ExsD w p d X2 X2c args ∧ SmsD w p d X3 X3c body ∧ SmsD w p d X4 X4c els := by
  obtain ⟨A1, c1, A2, c2, A3, c3, A4, c4, hv, r1, r2, r3, r4⟩ := h
  injection hv with hv
  have h7 := congrArg (fun a : Array Value => a[7]?) hv
  have h10 := congrArg (fun a : Array Value => a[10]?) hv
  have h11 := congrArg (fun a : Array Value => a[11]?) hv
  have h12 := congrArg (fun a : Array Value => a[12]?) hv
  simp at h7 h10 h11 h12
  obtain ⟨rfl, rfl⟩ := h7
  obtain ⟨rfl, rfl⟩ := h10
  obtain ⟨rfl, rfl⟩ := h11
  obtain ⟨rfl, rfl⟩ := h12
  exact ⟨r1, r2, r3, r4⟩
theorem cells_13 {w : World} {N : Nat} {a0 a1 a2 a3 a4 a5 a6 a7 a8 a9 a10 a11 a12 : Value} {T : TypeId} (h : w.heap[N]? = some (.cells #[a0, a1, a2, a3, a4, a5, a6, a7, a8, a9, a10, a11, a12] T (0, 0))) :
    w.cell? ⟨N, 0, none⟩ = some a0 ∧ w.cell? ⟨N, 1, none⟩ = some a1 ∧ w.cell? ⟨N, 2, none⟩ = some a2 ∧ w.cell? ⟨N, 3, none⟩ = some a3 ∧ w.cell? ⟨N, 4, none⟩ = some a4 ∧ w.cell? ⟨N, 5, none⟩ = some a5 ∧ w.cell? ⟨N, 6, none⟩ = some a6 ∧ w.cell? ⟨N, 7, none⟩ = some a7 ∧ w.cell? ⟨N, 8, none⟩ = some a8 ∧ w.cell? ⟨N, 9, none⟩ = some a9 ∧ w.cell? ⟨N, 10, none⟩ = some a10 ∧ w.cell? ⟨N, 11, none⟩ = some a11 ∧ w.cell? ⟨N, 12, none⟩ = some a12 :=
  ⟨by rw [cell_of_row w N 0 _ _ _ h]; rfl, by rw [cell_of_row w N 1 _ _ _ h]; rfl, by rw [cell_of_row w N 2 _ _ _ h]; rfl, by rw [cell_of_row w N 3 _ _ _ h]; rfl, by rw [cell_of_row w N 4 _ _ _ h]; rfl, by rw [cell_of_row w N 5 _ _ _ h]; rfl, by rw [cell_of_row w N 6 _ _ _ h]; rfl, by rw [cell_of_row w N 7 _ _ _ h]; rfl, by rw [cell_of_row w N 8 _ _ _ h]; rfl, by rw [cell_of_row w N 9 _ _ _ h]; rfl, by rw [cell_of_row w N 10 _ _ _ h]; rfl, by rw [cell_of_row w N 11 _ _ _ h]; rfl, by rw [cell_of_row w N 12 _ _ _ h]; rfl⟩
set_option maxHeartbeats 16000000 in
set_option maxRecDepth 100000 in
theorem stmts_step {d : Nat} (IH : StsSame d) : StsSame (d + 1) := by
  intro w p q A A' c c' xs ln h h'
  have hcap : c ≤ 9223372036854775807 := by have := h.2.1; unfold maxLen at this; omega
  have hlc : xs.length ≤ c := h.1
  have hcap' : c' ≤ 9223372036854775807 := by have := h'.2.1; unfold maxLen at this; omega
  have hlc' : xs.length ≤ c' := h'.1
  have H := Lib.hid h
  have H' := Lib.hid h'
  clear h h'
  go_enter Tryd.func17, Tryd.ntmps17
  go_wp2_with fail
  go_loopw [7] (fun i wr => ∃ j : Nat, i = .int .i64 j ∧ j ≤ xs.length ∧ Below w.heap.size w wr) (fun i _ => xs.length - (intOf i).toNat)
  case atStart => exact ⟨0, rfl, Nat.zero_le _, Below.refl _ _⟩
  case round =>
    obtain ⟨j, rfl, hj, hbel⟩ := hrel
    by_cases hlt : j < xs.length
    · have hxk : xs[j]? = some xs[j] := List.getElem?_eq_getElem hlt
      obtain ⟨x, hx0⟩ : ∃ x, Hid (xs[j] = x) := ⟨_, Lib.hid rfl⟩
      rw [hx0.out] at hxk
      obtain ⟨b, kind, line, id, len, var, callee, nm, ty, fn, target, args, body, els, X1, X1c, X2, X2c, X3, X3c, X4, X4c, rfl, hxe, hxd, g0, g1, g2, g3, g4, g5, g6, g7, g8, g9, g10, g11, g12⟩ := (H.out.still hbel).arg hxk
      obtain ⟨b', kind', line', id', len', var', callee', nm', ty', fn', target', args', body', els', Y1, Y1c, Y2, Y2c, Y3, Y3c, Y4, Y4c, rfl, hxe', hxd', k0, k1, k2, k3, k4, k5, k6, k7, k8, k9, k10, k11, k12⟩ := (H'.out.still hbel).arg hxk
      subst hxe
      obtain ⟨rfl, rfl, rfl, rfl, rfl, rfl, rfl, rfl, rfl, rfl, rfl, rfl, rfl⟩ : kind = kind' ∧ line = line' ∧ id = id' ∧ nm = nm' ∧ ty = ty' ∧ len = len' ∧ var = var' ∧ target = target' ∧ fn = fn' ∧ callee = callee' ∧ args = args' ∧ body = body' ∧ els = els' := by injection hxe' with a b c d e f g h i j k l m; exact ⟨a, b, c, d, e, f, g, h, i, j, k, l, m⟩
      have HX := Lib.hid hxd
      have HY := Lib.hid hxd'
      have HB := Lib.hid hbel
      have hsz := hbel.size
      have hbl := World.block_lt_of_cell? wr _ g0
      have hbl' := World.block_lt_of_cell? wr _ k0
      dsimp only at hbl hbl'
      have n1 : ¬ b = wr.heap.size := by omega
      have n2 : ¬ wr.heap.size = b := by omega
      have n3 : ¬ b' = wr.heap.size := by omega
      have n4 : ¬ wr.heap.size = b' := by omega
      clear hxk hx0 hxe' hxd hxd' hbel
  
      go_wp2_with fail
      go_region
      all_goals clear g0 g1 g2 g3 g4 g5 g6 g7 g8 g9 g10 g11 g12 k0 k1 k2 k3 k4 k5 k6 k7 k8 k9 k10 k11 k12
      · have e1 := held_alloc (.cells #[.int .i64 kind, .int .i64 line, .int .i64 id, .string ⟨nm.toArray⟩, .string ⟨ty.toArray⟩, .int .i64 len, .int .i64 var, .slice Y1 target.length Y1c, .string ⟨fn.toArray⟩, .int .i64 callee, .slice Y2 args.length Y2c, .slice Y3 body.length Y3c, .slice Y4 els.length Y4c] 49) (heap_alloc_new wr (.cells #[.int .i64 kind, .int .i64 line, .int .i64 id, .string ⟨nm.toArray⟩, .string ⟨ty.toArray⟩, .int .i64 len, .int .i64 var, .slice X1 target.length X1c, .string ⟨fn.toArray⟩, .int .i64 callee, .slice X2 args.length X2c, .slice X3 body.length X3c, .slice X4 els.length X4c] 49))
        have e2 := heap_alloc_new (wr.alloc (.cells #[.int .i64 kind, .int .i64 line, .int .i64 id, .string ⟨nm.toArray⟩, .string ⟨ty.toArray⟩, .int .i64 len, .int .i64 var, .slice X1 target.length X1c, .string ⟨fn.toArray⟩, .int .i64 callee, .slice X2 args.length X2c, .slice X3 body.length X3c, .slice X4 els.length X4c] 49)) (.cells #[.int .i64 kind, .int .i64 line, .int .i64 id, .string ⟨nm.toArray⟩, .string ⟨ty.toArray⟩, .int .i64 len, .int .i64 var, .slice Y1 target.length Y1c, .string ⟨fn.toArray⟩, .int .i64 callee, .slice Y2 args.length Y2c, .slice Y3 body.length Y3c, .slice Y4 els.length Y4c] 49)
        rw [World.size_alloc] at e2
        have d1 : (((wr.alloc (.cells #[.int .i64 kind, .int .i64 line, .int .i64 id, .string ⟨nm.toArray⟩, .string ⟨ty.toArray⟩, .int .i64 len, .int .i64 var, .slice X1 target.length X1c, .string ⟨fn.toArray⟩, .int .i64 callee, .slice X2 args.length X2c, .slice X3 body.length X3c, .slice X4 els.length X4c] 49)).alloc (.cells #[.int .i64 kind, .int .i64 line, .int .i64 id, .string ⟨nm.toArray⟩, .string ⟨ty.toArray⟩, .int .i64 len, .int .i64 var, .slice Y1 target.length Y1c, .string ⟨fn.toArray⟩, .int .i64 callee, .slice Y2 args.length Y2c, .slice Y3 body.length Y3c, .slice Y4 els.length Y4c] 49)).drew).heap[wr.heap.size]? = some (.cells #[.int .i64 kind, .int .i64 line, .int .i64 id, .string ⟨nm.toArray⟩, .string ⟨ty.toArray⟩, .int .i64 len, .int .i64 var, .slice X1 target.length X1c, .string ⟨fn.toArray⟩, .int .i64 callee, .slice X2 args.length X2c, .slice X3 body.length X3c, .slice X4 els.length X4c] 49 (0, 0)) := e1
        have d2 : (((wr.alloc (.cells #[.int .i64 kind, .int .i64 line, .int .i64 id, .string ⟨nm.toArray⟩, .string ⟨ty.toArray⟩, .int .i64 len, .int .i64 var, .slice X1 target.length X1c, .string ⟨fn.toArray⟩, .int .i64 callee, .slice X2 args.length X2c, .slice X3 body.length X3c, .slice X4 els.length X4c] 49)).alloc (.cells #[.int .i64 kind, .int .i64 line, .int .i64 id, .string ⟨nm.toArray⟩, .string ⟨ty.toArray⟩, .int .i64 len, .int .i64 var, .slice Y1 target.length Y1c, .string ⟨fn.toArray⟩, .int .i64 callee, .slice Y2 args.length Y2c, .slice Y3 body.length Y3c, .slice Y4 els.length Y4c] 49)).drew).heap[wr.heap.size + 1]? = some (.cells #[.int .i64 kind, .int .i64 line, .int .i64 id, .string ⟨nm.toArray⟩, .string ⟨ty.toArray⟩, .int .i64 len, .int .i64 var, .slice Y1 target.length Y1c, .string ⟨fn.toArray⟩, .int .i64 callee, .slice Y2 args.length Y2c, .slice Y3 body.length Y3c, .slice Y4 els.length Y4c] 49 (0, 0)) := e2
        have hbw : Below wr.heap.size wr (((wr.alloc (.cells #[.int .i64 kind, .int .i64 line, .int .i64 id, .string ⟨nm.toArray⟩, .string ⟨ty.toArray⟩, .int .i64 len, .int .i64 var, .slice X1 target.length X1c, .string ⟨fn.toArray⟩, .int .i64 callee, .slice X2 args.length X2c, .slice X3 body.length X3c, .slice X4 els.length X4c] 49)).alloc (.cells #[.int .i64 kind, .int .i64 line, .int .i64 id, .string ⟨nm.toArray⟩, .string ⟨ty.toArray⟩, .int .i64 len, .int .i64 var, .slice Y1 target.length Y1c, .string ⟨fn.toArray⟩, .int .i64 callee, .slice Y2 args.length Y2c, .slice Y3 body.length Y3c, .slice Y4 els.length Y4c] 49)).drew) := (((Below.refl _ _).alloc (Nat.le_refl _) _).alloc (by simp) _).drew
        obtain ⟨w0, HW0⟩ : ∃ U, Hid (((wr.alloc (.cells #[.int .i64 kind, .int .i64 line, .int .i64 id, .string ⟨nm.toArray⟩, .string ⟨ty.toArray⟩, .int .i64 len, .int .i64 var, .slice X1 target.length X1c, .string ⟨fn.toArray⟩, .int .i64 callee, .slice X2 args.length X2c, .slice X3 body.length X3c, .slice X4 els.length X4c] 49)).alloc (.cells #[.int .i64 kind, .int .i64 line, .int .i64 id, .string ⟨nm.toArray⟩, .string ⟨ty.toArray⟩, .int .i64 len, .int .i64 var, .slice Y1 target.length Y1c, .string ⟨fn.toArray⟩, .int .i64 callee, .slice Y2 args.length Y2c, .slice Y3 body.length Y3c, .slice Y4 els.length Y4c] 49)).drew = U) := ⟨_, Lib.hid rfl⟩
        rw [HW0.out] at d1 d2 hbw ⊢
        have hl2 : wr.heap.size + 1 < w0.heap.size := (Array.getElem?_eq_some_iff.1 d2).1
        have E0 := Lib.hid d1
        have F0 := Lib.hid d2
        have BW0 := Lib.hid hbw
        obtain ⟨x1, x2, x3, x4⟩ := HX.out.fields
        obtain ⟨y1, y2, y3, y4⟩ := HY.out.fields
        have P1 := Lib.hid (x1.still hbw)
        have R1 := Lib.hid (y1.still hbw)
        have P2 := Lib.hid (x2.still hbw)
        have R2 := Lib.hid (y2.still hbw)
        have P3 := Lib.hid (x3.still hbw)
        have R3 := Lib.hid (y3.still hbw)
        have P4 := Lib.hid (x4.still hbw)
        have R4 := Lib.hid (y4.still hbw)
        clear e1 e2 d1 d2 hbw x1 x2 x3 x4 y1 y2 y3 y4
        obtain ⟨g0, g1, g2, g3, g4, g5, g6, g7, g8, g9, g10, g11, g12⟩ := cells_13 E0.out
        obtain ⟨k0, k1, k2, k3, k4, k5, k6, k7, k8, k9, k10, k11, k12⟩ := cells_13 F0.out
        cases ln
        all_goals
          go_wp2_with fail
          clear g0 k0 g1 k1 g2 k2 g3 k3 g4 k4 g5 k5 g6 k6 g7 k7 g8 k8 g9 k9 g10 k10 g11 k11 g12 k12
          refine (exprs_same d w0 p q X1 Y1 X1c Y1c target P1.out R1.out).mono ?_
          rintro e w1 ⟨rfl, hb1⟩
          have hs1 := hb1.size
          have E1 := Lib.hid ((hb1.block _ (Array.getElem?_eq_some_iff.1 E0.out).1).trans E0.out)
          have F1 := Lib.hid ((hb1.block _ (Array.getElem?_eq_some_iff.1 F0.out).1).trans F0.out)
          have BW1 := Lib.hid (BW0.out.trans (hb1.mono (by omega)))
          have P2_1 := Lib.hid (P2.out.still hb1)
          have R2_1 := Lib.hid (R2.out.still hb1)
          have P3_1 := Lib.hid (P3.out.still hb1)
          have R3_1 := Lib.hid (R3.out.still hb1)
          have P4_1 := Lib.hid (P4.out.still hb1)
          have R4_1 := Lib.hid (R4.out.still hb1)
          clear hb1
          obtain ⟨g0, g1, g2, g3, g4, g5, g6, g7, g8, g9, g10, g11, g12⟩ := cells_13 E1.out
          obtain ⟨k0, k1, k2, k3, k4, k5, k6, k7, k8, k9, k10, k11, k12⟩ := cells_13 F1.out
          go_wp2_with fail
          clear g0 k0 g1 k1 g2 k2 g3 k3 g4 k4 g5 k5 g6 k6 g7 k7 g8 k8 g9 k9 g10 k10 g11 k11 g12 k12
          refine (exprs_same d w1 p q X2 Y2 X2c Y2c args P2_1.out R2_1.out).mono ?_
          rintro e w2 ⟨rfl, hb2⟩
          have hs2 := hb2.size
          have E2 := Lib.hid ((hb2.block _ (Array.getElem?_eq_some_iff.1 E1.out).1).trans E1.out)
          have F2 := Lib.hid ((hb2.block _ (Array.getElem?_eq_some_iff.1 F1.out).1).trans F1.out)
          have BW2 := Lib.hid (BW1.out.trans (hb2.mono (by omega)))
          have P3_2 := Lib.hid (P3_1.out.still hb2)
          have R3_2 := Lib.hid (R3_1.out.still hb2)
          have P4_2 := Lib.hid (P4_1.out.still hb2)
          have R4_2 := Lib.hid (R4_1.out.still hb2)
          clear hb2
          obtain ⟨g0, g1, g2, g3, g4, g5, g6, g7, g8, g9, g10, g11, g12⟩ := cells_13 E2.out
          obtain ⟨k0, k1, k2, k3, k4, k5, k6, k7, k8, k9, k10, k11, k12⟩ := cells_13 F2.out
          go_wp2_with fail
          clear g0 k0 g1 k1 g2 k2 g3 k3 g4 k4 g5 k5 g6 k6 g7 k7 g8 k8 g9 k9 g10 k10 g11 k11 g12 k12
          refine (IH w2 p q X3 Y3 X3c Y3c body _ P3_2.out R3_2.out).mono ?_
          rintro e w3 ⟨rfl, hb3⟩
          have hs3 := hb3.size
          have E3 := Lib.hid ((hb3.block _ (Array.getElem?_eq_some_iff.1 E2.out).1).trans E2.out)
          have F3 := Lib.hid ((hb3.block _ (Array.getElem?_eq_some_iff.1 F2.out).1).trans F2.out)
          have BW3 := Lib.hid (BW2.out.trans (hb3.mono (by omega)))
          have P4_3 := Lib.hid (P4_2.out.still hb3)
          have R4_3 := Lib.hid (R4_2.out.still hb3)
          clear hb3
          obtain ⟨g0, g1, g2, g3, g4, g5, g6, g7, g8, g9, g10, g11, g12⟩ := cells_13 E3.out
          obtain ⟨k0, k1, k2, k3, k4, k5, k6, k7, k8, k9, k10, k11, k12⟩ := cells_13 F3.out
          go_wp2_with fail
          clear g0 k0 g1 k1 g2 k2 g3 k3 g4 k4 g5 k5 g6 k6 g7 k7 g8 k8 g9 k9 g10 k10 g11 k11 g12 k12
          refine (IH w3 p q X4 Y4 X4c Y4c els _ P4_3.out R4_3.out).mono ?_
          rintro e w4 ⟨rfl, hb4⟩
          have hs4 := hb4.size
          have E4 := Lib.hid ((hb4.block _ (Array.getElem?_eq_some_iff.1 E3.out).1).trans E3.out)
          have F4 := Lib.hid ((hb4.block _ (Array.getElem?_eq_some_iff.1 F3.out).1).trans F3.out)
          have BW4 := Lib.hid (BW3.out.trans (hb4.mono (by omega)))
          clear hb4
          go_wp2_with fail
          go_roundw
          case rel => exact ⟨j + 1, by go_num, by omega, HB.out.trans (BW4.out.mono hsz)⟩
          case measure => simp [intOf]; omega
      · have e1 := held_alloc (.cells #[.int .i64 kind, .int .i64 line, .int .i64 id, .string ⟨nm.toArray⟩, .string ⟨ty.toArray⟩, .int .i64 len, .int .i64 var, .slice X1 target.length X1c, .string ⟨fn.toArray⟩, .int .i64 callee, .slice X2 args.length X2c, .slice X3 body.length X3c, .slice X4 els.length X4c] 49) (heap_alloc_new wr (.cells #[.int .i64 kind, .int .i64 line, .int .i64 id, .string ⟨nm.toArray⟩, .string ⟨ty.toArray⟩, .int .i64 len, .int .i64 var, .slice Y1 target.length Y1c, .string ⟨fn.toArray⟩, .int .i64 callee, .slice Y2 args.length Y2c, .slice Y3 body.length Y3c, .slice Y4 els.length Y4c] 49))
        have e2 := heap_alloc_new (wr.alloc (.cells #[.int .i64 kind, .int .i64 line, .int .i64 id, .string ⟨nm.toArray⟩, .string ⟨ty.toArray⟩, .int .i64 len, .int .i64 var, .slice Y1 target.length Y1c, .string ⟨fn.toArray⟩, .int .i64 callee, .slice Y2 args.length Y2c, .slice Y3 body.length Y3c, .slice Y4 els.length Y4c] 49)) (.cells #[.int .i64 kind, .int .i64 line, .int .i64 id, .string ⟨nm.toArray⟩, .string ⟨ty.toArray⟩, .int .i64 len, .int .i64 var, .slice X1 target.length X1c, .string ⟨fn.toArray⟩, .int .i64 callee, .slice X2 args.length X2c, .slice X3 body.length X3c, .slice X4 els.length X4c] 49)
        rw [World.size_alloc] at e2
        have d1 : (((wr.alloc (.cells #[.int .i64 kind, .int .i64 line, .int .i64 id, .string ⟨nm.toArray⟩, .string ⟨ty.toArray⟩, .int .i64 len, .int .i64 var, .slice Y1 target.length Y1c, .string ⟨fn.toArray⟩, .int .i64 callee, .slice Y2 args.length Y2c, .slice Y3 body.length Y3c, .slice Y4 els.length Y4c] 49)).alloc (.cells #[.int .i64 kind, .int .i64 line, .int .i64 id, .string ⟨nm.toArray⟩, .string ⟨ty.toArray⟩, .int .i64 len, .int .i64 var, .slice X1 target.length X1c, .string ⟨fn.toArray⟩, .int .i64 callee, .slice X2 args.length X2c, .slice X3 body.length X3c, .slice X4 els.length X4c] 49)).drew).heap[wr.heap.size]? = some (.cells #[.int .i64 kind, .int .i64 line, .int .i64 id, .string ⟨nm.toArray⟩, .string ⟨ty.toArray⟩, .int .i64 len, .int .i64 var, .slice Y1 target.length Y1c, .string ⟨fn.toArray⟩, .int .i64 callee, .slice Y2 args.length Y2c, .slice Y3 body.length Y3c, .slice Y4 els.length Y4c] 49 (0, 0)) := e1
        have d2 : (((wr.alloc (.cells #[.int .i64 kind, .int .i64 line, .int .i64 id, .string ⟨nm.toArray⟩, .string ⟨ty.toArray⟩, .int .i64 len, .int .i64 var, .slice Y1 target.length Y1c, .string ⟨fn.toArray⟩, .int .i64 callee, .slice Y2 args.length Y2c, .slice Y3 body.length Y3c, .slice Y4 els.length Y4c] 49)).alloc (.cells #[.int .i64 kind, .int .i64 line, .int .i64 id, .string ⟨nm.toArray⟩, .string ⟨ty.toArray⟩, .int .i64 len, .int .i64 var, .slice X1 target.length X1c, .string ⟨fn.toArray⟩, .int .i64 callee, .slice X2 args.length X2c, .slice X3 body.length X3c, .slice X4 els.length X4c] 49)).drew).heap[wr.heap.size + 1]? = some (.cells #[.int .i64 kind, .int .i64 line, .int .i64 id, .string ⟨nm.toArray⟩, .string ⟨ty.toArray⟩, .int .i64 len, .int .i64 var, .slice X1 target.length X1c, .string ⟨fn.toArray⟩, .int .i64 callee, .slice X2 args.length X2c, .slice X3 body.length X3c, .slice X4 els.length X4c] 49 (0, 0)) := e2
        have hbw : Below wr.heap.size wr (((wr.alloc (.cells #[.int .i64 kind, .int .i64 line, .int .i64 id, .string ⟨nm.toArray⟩, .string ⟨ty.toArray⟩, .int .i64 len, .int .i64 var, .slice Y1 target.length Y1c, .string ⟨fn.toArray⟩, .int .i64 callee, .slice Y2 args.length Y2c, .slice Y3 body.length Y3c, .slice Y4 els.length Y4c] 49)).alloc (.cells #[.int .i64 kind, .int .i64 line, .int .i64 id, .string ⟨nm.toArray⟩, .string ⟨ty.toArray⟩, .int .i64 len, .int .i64 var, .slice X1 target.length X1c, .string ⟨fn.toArray⟩, .int .i64 callee, .slice X2 args.length X2c, .slice X3 body.length X3c, .slice X4 els.length X4c] 49)).drew) := (((Below.refl _ _).alloc (Nat.le_refl _) _).alloc (by simp) _).drew
        obtain ⟨w0, HW0⟩ : ∃ U, Hid (((wr.alloc (.cells #[.int .i64 kind, .int .i64 line, .int .i64 id, .string ⟨nm.toArray⟩, .string ⟨ty.toArray⟩, .int .i64 len, .int .i64 var, .slice Y1 target.length Y1c, .string ⟨fn.toArray⟩, .int .i64 callee, .slice Y2 args.length Y2c, .slice Y3 body.length Y3c, .slice Y4 els.length Y4c] 49)).alloc (.cells #[.int .i64 kind, .int .i64 line, .int .i64 id, .string ⟨nm.toArray⟩, .string ⟨ty.toArray⟩, .int .i64 len, .int .i64 var, .slice X1 target.length X1c, .string ⟨fn.toArray⟩, .int .i64 callee, .slice X2 args.length X2c, .slice X3 body.length X3c, .slice X4 els.length X4c] 49)).drew = U) := ⟨_, Lib.hid rfl⟩
        rw [HW0.out] at d1 d2 hbw ⊢
        have hl2 : wr.heap.size + 1 < w0.heap.size := (Array.getElem?_eq_some_iff.1 d2).1
        have E0 := Lib.hid d2
        have F0 := Lib.hid d1
        have BW0 := Lib.hid hbw
        obtain ⟨x1, x2, x3, x4⟩ := HX.out.fields
        obtain ⟨y1, y2, y3, y4⟩ := HY.out.fields
        have P1 := Lib.hid (x1.still hbw)
        have R1 := Lib.hid (y1.still hbw)
        have P2 := Lib.hid (x2.still hbw)
        have R2 := Lib.hid (y2.still hbw)
        have P3 := Lib.hid (x3.still hbw)
        have R3 := Lib.hid (y3.still hbw)
        have P4 := Lib.hid (x4.still hbw)
        have R4 := Lib.hid (y4.still hbw)
        clear e1 e2 d1 d2 hbw x1 x2 x3 x4 y1 y2 y3 y4
        obtain ⟨g0, g1, g2, g3, g4, g5, g6, g7, g8, g9, g10, g11, g12⟩ := cells_13 E0.out
        obtain ⟨k0, k1, k2, k3, k4, k5, k6, k7, k8, k9, k10, k11, k12⟩ := cells_13 F0.out
        cases ln
        all_goals
          go_wp2_with fail
          clear g0 k0 g1 k1 g2 k2 g3 k3 g4 k4 g5 k5 g6 k6 g7 k7 g8 k8 g9 k9 g10 k10 g11 k11 g12 k12
          refine (exprs_same d w0 p q X1 Y1 X1c Y1c target P1.out R1.out).mono ?_
          rintro e w1 ⟨rfl, hb1⟩
          have hs1 := hb1.size
          have E1 := Lib.hid ((hb1.block _ (Array.getElem?_eq_some_iff.1 E0.out).1).trans E0.out)
          have F1 := Lib.hid ((hb1.block _ (Array.getElem?_eq_some_iff.1 F0.out).1).trans F0.out)
          have BW1 := Lib.hid (BW0.out.trans (hb1.mono (by omega)))
          have P2_1 := Lib.hid (P2.out.still hb1)
          have R2_1 := Lib.hid (R2.out.still hb1)
          have P3_1 := Lib.hid (P3.out.still hb1)
          have R3_1 := Lib.hid (R3.out.still hb1)
          have P4_1 := Lib.hid (P4.out.still hb1)
          have R4_1 := Lib.hid (R4.out.still hb1)
          clear hb1
          obtain ⟨g0, g1, g2, g3, g4, g5, g6, g7, g8, g9, g10, g11, g12⟩ := cells_13 E1.out
          obtain ⟨k0, k1, k2, k3, k4, k5, k6, k7, k8, k9, k10, k11, k12⟩ := cells_13 F1.out
          go_wp2_with fail
          clear g0 k0 g1 k1 g2 k2 g3 k3 g4 k4 g5 k5 g6 k6 g7 k7 g8 k8 g9 k9 g10 k10 g11 k11 g12 k12
          refine (exprs_same d w1 p q X2 Y2 X2c Y2c args P2_1.out R2_1.out).mono ?_
          rintro e w2 ⟨rfl, hb2⟩
          have hs2 := hb2.size
          have E2 := Lib.hid ((hb2.block _ (Array.getElem?_eq_some_iff.1 E1.out).1).trans E1.out)
          have F2 := Lib.hid ((hb2.block _ (Array.getElem?_eq_some_iff.1 F1.out).1).trans F1.out)
          have BW2 := Lib.hid (BW1.out.trans (hb2.mono (by omega)))
          have P3_2 := Lib.hid (P3_1.out.still hb2)
          have R3_2 := Lib.hid (R3_1.out.still hb2)
          have P4_2 := Lib.hid (P4_1.out.still hb2)
          have R4_2 := Lib.hid (R4_1.out.still hb2)
          clear hb2
          obtain ⟨g0, g1, g2, g3, g4, g5, g6, g7, g8, g9, g10, g11, g12⟩ := cells_13 E2.out
          obtain ⟨k0, k1, k2, k3, k4, k5, k6, k7, k8, k9, k10, k11, k12⟩ := cells_13 F2.out
          go_wp2_with fail
          clear g0 k0 g1 k1 g2 k2 g3 k3 g4 k4 g5 k5 g6 k6 g7 k7 g8 k8 g9 k9 g10 k10 g11 k11 g12 k12
          refine (IH w2 p q X3 Y3 X3c Y3c body _ P3_2.out R3_2.out).mono ?_
          rintro e w3 ⟨rfl, hb3⟩
          have hs3 := hb3.size
          have E3 := Lib.hid ((hb3.block _ (Array.getElem?_eq_some_iff.1 E2.out).1).trans E2.out)
          have F3 := Lib.hid ((hb3.block _ (Array.getElem?_eq_some_iff.1 F2.out).1).trans F2.out)
          have BW3 := Lib.hid (BW2.out.trans (hb3.mono (by omega)))
          have P4_3 := Lib.hid (P4_2.out.still hb3)
          have R4_3 := Lib.hid (R4_2.out.still hb3)
          clear hb3
          obtain ⟨g0, g1, g2, g3, g4, g5, g6, g7, g8, g9, g10, g11, g12⟩ := cells_13 E3.out
          obtain ⟨k0, k1, k2, k3, k4, k5, k6, k7, k8, k9, k10, k11, k12⟩ := cells_13 F3.out
          go_wp2_with fail
          clear g0 k0 g1 k1 g2 k2 g3 k3 g4 k4 g5 k5 g6 k6 g7 k7 g8 k8 g9 k9 g10 k10 g11 k11 g12 k12
          refine (IH w3 p q X4 Y4 X4c Y4c els _ P4_3.out R4_3.out).mono ?_
          rintro e w4 ⟨rfl, hb4⟩
          have hs4 := hb4.size
          have E4 := Lib.hid ((hb4.block _ (Array.getElem?_eq_some_iff.1 E3.out).1).trans E3.out)
          have F4 := Lib.hid ((hb4.block _ (Array.getElem?_eq_some_iff.1 F3.out).1).trans F3.out)
          have BW4 := Lib.hid (BW3.out.trans (hb4.mono (by omega)))
          clear hb4
          go_wp2_with fail
          go_roundw
          case rel => exact ⟨j + 1, by go_num, by omega, HB.out.trans (BW4.out.mono hsz)⟩
          case measure => simp [intOf]; omega
    · obtain rfl : j = xs.length := by omega
      go_wp2_with fail
      go_ret
      exact ⟨rfl, hbel⟩
theorem stmts_zero : StsSame 0 := by
  intro w p q A A' c c' xs ln h h'
  cases xs with
  | cons x l =>
    obtain ⟨h1, h2, h3⟩ := h
    obtain ⟨b, cur, fr, hA, hp, hb, hc⟩ := h3 (by simp)
    obtain ⟨vs, hl, hcell, hP⟩ := hc 0 x rfl
    exact hP.elim
  | nil =>
    clear h h'
    go_enter Tryd.func17, Tryd.ntmps17
    go_wp2_with fail
    go_loop [7] (fun i => i = .int .i64 0) (fun _ => 0)
    case atStart => rfl
    case round =>
      subst hrel
      go_wp2_with fail
      go_ret
      exact ⟨rfl, Below.refl _ _⟩
theorem stmts_all : ∀ d, StsSame d
  | 0 => stmts_zero
  | d + 1 => stmts_step (stmts_all d)
end Go.Proofs.YtpfefjfpnmchcaaDoor
namespace Go.Proofs.YtpfefjfpnmchcaaDoor
open Go.RowKit

theorem recs_arg {w : World} {p : Nat → Prop} {A : Option Addr} {cap : Nat} {xs : List Rec} (h : RowIs (RecIs w p) p w 55 2 A cap xs) {k : Nat} {x : Rec} (hk : xs[k]? = some x) :
    ∃ (b : Nat) (A' : Option Addr) (c' : Nat), A = some ⟨b, 0, none⟩ ∧ NamesIs p w A' c' x.fields ∧ w.cell? ⟨b, k * 2, none⟩ = some (.string ⟨x.name.toArray⟩) ∧ w.cell? ⟨b, k * 2 + 1, none⟩ = some (.slice A' x.fields.length c') := by
  obtain ⟨h1, h2, h3⟩ := h
  obtain ⟨b, cur, fr, hA, hp, hb, hc⟩ := h3 (fun e => by rw [e] at hk; simp at hk)
  obtain ⟨vs, hl, hcell, A', c', hv, hn⟩ := hc k x hk
  have hvs : vs = [.string ⟨x.name.toArray⟩, .slice A' x.fields.length c'] := by
    injection hv with hv
    simpa using congrArg Array.toList hv
  subst hvs
  have hg : ∀ j u, j < 2 → ([.string ⟨x.name.toArray⟩, .slice A' x.fields.length c'] : List Value)[j]? = some u → w.cell? ⟨b, k * 2 + j, none⟩ = some u := fun j u hj hu => by
    rw [cell_of_row w b _ _ _ _ hb, hcell j hj, hu]
  exact ⟨b, A', c', hA, hn, hg 0 _ (by decide) rfl, hg 1 _ (by decide) rfl⟩
theorem funs_arg {w : World} {p : Nat → Prop} {A : Option Addr} {cap : Nat} {xs : List Fun} (h : RowIs (FunIs w p) p w 46 4 A cap xs) {k : Nat} {x : Fun} (hk : xs[k]? = some x) :
    ∃ (b : Nat) (A' : Option Addr) (c' : Nat) (A'' : Option Addr) (c'' : Nat), A = some ⟨b, 0, none⟩ ∧ NamesIs p w A' c' x.params ∧ SmsIs w p A'' c'' x.body ∧ w.cell? ⟨b, k * 4, none⟩ = some (.string ⟨x.name.toArray⟩) ∧ w.cell? ⟨b, k * 4 + 1, none⟩ = some (.int .i64 x.line) ∧ w.cell? ⟨b, k * 4 + 2, none⟩ = some (.slice A' x.params.length c') ∧ w.cell? ⟨b, k * 4 + 3, none⟩ = some (.slice A'' x.body.length c'') := by
  obtain ⟨h1, h2, h3⟩ := h
  obtain ⟨b, cur, fr, hA, hp, hb, hc⟩ := h3 (fun e => by rw [e] at hk; simp at hk)
  obtain ⟨vs, hl, hcell, A', c', A'', c'', hv, hn, hs⟩ := hc k x hk
  have hvs : vs = [.string ⟨x.name.toArray⟩, .int .i64 x.line, .slice A' x.params.length c', .slice A'' x.body.length c''] := by
    injection hv with hv
    simpa using congrArg Array.toList hv
  subst hvs
  have hg : ∀ j u, j < 4 → ([.string ⟨x.name.toArray⟩, .int .i64 x.line, .slice A' x.params.length c', .slice A'' x.body.length c''] : List Value)[j]? = some u → w.cell? ⟨b, k * 4 + j, none⟩ = some u := fun j u hj hu => by
    rw [cell_of_row w b _ _ _ _ hb, hcell j hj, hu]
  exact ⟨b, A', c', A'', c'', hA, hn, hs, hg 0 _ (by decide) rfl, hg 1 _ (by decide) rfl, hg 2 _ (by decide) rfl, hg 3 _ (by decide) rfl⟩
theorem recs_below {w w' : World} {p : Nat → Prop} {A : Option Addr} {c : Nat} {xs : List Rec} (h : RowIs (RecIs w p) p w 55 2 A c xs) (hb : Below w.heap.size w w') : RowIs (RecIs w' p) p w' 55 2 A c xs :=
  RowIs.turn (fun b hb' hp => ⟨hp, hb.block b hb'⟩) (fun _ _ hv => RecIs.turn hv (fun b hb' hp => ⟨hp, hb.block b hb'⟩)) h
theorem funs_below {w w' : World} {p : Nat → Prop} {A : Option Addr} {c : Nat} {xs : List Fun} (h : RowIs (FunIs w p) p w 46 4 A c xs) (hb : Below w.heap.size w w') : RowIs (FunIs w' p) p w' 46 4 A c xs :=
  RowIs.turn (fun b hb' hp => ⟨hp, hb.block b hb'⟩) (fun _ _ hv => FunIs.turn hv (fun b hb' hp => ⟨hp, hb.block b hb'⟩)) h
theorem names_below {w w' : World} {p : Nat → Prop} {A : Option Addr} {c : Nat} {xs : List (List UInt8)} (h : NamesIs p w A c xs) (hb : Below w.heap.size w w') : NamesIs p w' A c xs :=
  NamesIs.turn h (fun b hb' hp => ⟨hp, hb.block b hb'⟩)
theorem below_drewN {N : Nat} {w w' : World} (h : Below N w w') : ∀ n, Below N w (w'.drewN n)
  | 0 => h
  | n + 1 => (below_drewN h n).drew
theorem list_quiet {w : World} {p q : Nat → Prop} {A A' : Option Addr} {c c' : Nat} {xs : List (List UInt8)} (h : NamesIs p w A c xs) (h' : NamesIs q w A' c' xs) (k n : Nat) :
    Calls Tryd.prog 16 #[.slice A xs.length c, .slice A' xs.length c'] (w.drewN (k + n)) fun e w' => e = .returned (.bool true) ∧ ∃ m, w' = w.drewN (k + m) :=
  (list_same (names_below h (below_drewN (Below.refl _ _) (k + n))) (names_below h' (below_drewN (Below.refl _ _) (k + n)))).mono fun _ _ ⟨he, m, hm⟩ => ⟨he, n + m, by rw [hm, World.drewN_drewN, Nat.add_assoc]⟩
set_option maxHeartbeats 8000000 in
set_option maxRecDepth 100000 in
theorem program_same {w : World} {p q : Nat → Prop} {v v' : Value} {x : Prg} (ln : Bool) (h : PrgIs w p v x) (h' : PrgIs w q v' x) :
    Calls Tryd.prog 11 #[v, v', .bool ln] w fun e w' => e = .returned (.bool true) ∧ Below w.heap.size w w' := by
  obtain ⟨A, c, B, d, rfl, hr, hf⟩ := h
  obtain ⟨A', c', B', d', rfl, hr', hf'⟩ := h'
  obtain ⟨rs, fs⟩ := x
  dsimp only at hr hf hr' hf'
  have hc1 : c ≤ 9223372036854775807 := by have := hr.2.1; unfold maxLen at this; omega
  have hl1 : rs.length ≤ c := hr.1
  have hc2 : d ≤ 9223372036854775807 := by have := hf.2.1; unfold maxLen at this; omega
  have hl2 : fs.length ≤ d := hf.1
  have hc3 : c' ≤ 9223372036854775807 := by have := hr'.2.1; unfold maxLen at this; omega
  have hl3 : rs.length ≤ c' := hr'.1
  have hc4 : d' ≤ 9223372036854775807 := by have := hf'.2.1; unfold maxLen at this; omega
  have hl4 : fs.length ≤ d' := hf'.1
  have hb0 : Below w.heap.size w ((w.alloc (.cells #[.slice A rs.length c, .slice B fs.length d] 28)).alloc (.cells #[.slice A' rs.length c', .slice B' fs.length d'] 28)) := ((Below.refl _ w).alloc (Nat.le_refl _) _).alloc (by simp) _
  have e0 := held_alloc (.cells #[.slice A' rs.length c', .slice B' fs.length d'] 28) (heap_alloc_new w (.cells #[.slice A rs.length c, .slice B fs.length d] 28))
  have e1 := heap_alloc_new (w.alloc (.cells #[.slice A rs.length c, .slice B fs.length d] 28)) (.cells #[.slice A' rs.length c', .slice B' fs.length d'] 28)
  rw [World.size_alloc] at e1
  have R := Lib.hid (recs_below hr hb0)
  have R' := Lib.hid (recs_below hr' hb0)
  have F := Lib.hid (funs_below hf hb0)
  have F' := Lib.hid (funs_below hf' hb0)
  obtain ⟨W0, HW0⟩ : ∃ U, Hid (((w.alloc (.cells #[.slice A rs.length c, .slice B fs.length d] 28)).alloc (.cells #[.slice A' rs.length c', .slice B' fs.length d'] 28)) = U) := ⟨_, Lib.hid rfl⟩
  rw [HW0.out] at hb0 e0 e1 R R' F F'
  have HB := Lib.hid hb0
  have E0 := Lib.hid e0
  have E1 := Lib.hid e1
  clear hb0 hr hr' hf hf' e0 e1
  go_enter Tryd.func11, Tryd.ntmps11
  go_wp2_with fail
  rw [HW0.out]
  obtain ⟨a0, a1⟩ := cells_two E0.out
  obtain ⟨b0, b1⟩ := cells_two E1.out
  go_loopw [7] (fun i wr => ∃ j n : Nat, i = .int .i64 j ∧ j ≤ rs.length ∧ wr = W0.drewN n) (fun i _ => rs.length - (intOf i).toNat)
  case atStart => exact ⟨0, 0, rfl, Nat.zero_le _, rfl⟩
  case round =>
    obtain ⟨j, n, rfl, hj, rfl⟩ := hrel
    by_cases hlt : j < rs.length
    · have hxk : rs[j]? = some rs[j] := List.getElem?_eq_getElem hlt
      obtain ⟨x, hx0⟩ : ∃ x, Hid (rs[j] = x) := ⟨_, Lib.hid rfl⟩
      rw [hx0.out] at hxk
      obtain ⟨b, A1, n1, rfl, hn, g0, g1⟩ := recs_arg R.out hxk
      obtain ⟨b', A2, n2, rfl, hn', k0, k1⟩ := recs_arg R'.out hxk
      have HN := Lib.hid hn
      have HN' := Lib.hid hn'
      clear hxk hx0 hn hn'
      go_wp2_with fail
      go_quiet ((go_at_call 16; exact list_quiet HN.out HN'.out _ _))
      go_wp2_with fail
      go_roundw
      case rel => exact ⟨j + 1, _, by go_num, hlt, rfl⟩
      case measure => simp [intOf]; omega
    · obtain rfl : j = rs.length := by omega
      clear hj hlt
      go_wp2_with fail
      have hbn := below_drewN HB.out n
      have h5 : Below W0.heap.size W0 (W0.drewN n) := below_drewN (Below.refl _ _) n
      have F2 := Lib.hid (funs_below F.out h5)
      have F2' := Lib.hid (funs_below F'.out h5)
      have hsz5 := h5.size
      have e5 := (h5.block _ (Array.getElem?_eq_some_iff.1 E0.out).1).trans E0.out
      have e6 := (h5.block _ (Array.getElem?_eq_some_iff.1 E1.out).1).trans E1.out
      obtain ⟨W1, HW1⟩ : ∃ U, Hid (W0.drewN n = U) := ⟨_, Lib.hid rfl⟩
      rw [HW1.out] at hbn F2 F2' e5 e6 hsz5 ⊢
      have HB1 := Lib.hid hbn
      have E5 := Lib.hid e5
      have E6 := Lib.hid e6
      clear hbn h5 e5 e6 a0 a1 b0 b1 F F' R R' hsz5
      go_loopw [8] (fun i wr => ∃ j : Nat, i = .int .i64 j ∧ j ≤ fs.length ∧ Below W1.heap.size W1 wr) (fun i _ => fs.length - (intOf i).toNat)
      case atStart => exact ⟨0, rfl, Nat.zero_le _, Below.refl _ _⟩
      case round =>
        obtain ⟨j, rfl, hj, hbel⟩ := hrel
        have hsz := hbel.size
        have e7 := (hbel.block _ (Array.getElem?_eq_some_iff.1 E5.out).1).trans E5.out
        have e8 := (hbel.block _ (Array.getElem?_eq_some_iff.1 E6.out).1).trans E6.out
        obtain ⟨a0, a1⟩ := cells_two e7
        obtain ⟨b0, b1⟩ := cells_two e8
        have hl7 := (Array.getElem?_eq_some_iff.1 e7).1
        have hl8 := (Array.getElem?_eq_some_iff.1 e8).1
        have HBL := Lib.hid hbel
        by_cases hlt : j < fs.length
        · have hxk : fs[j]? = some fs[j] := List.getElem?_eq_getElem hlt
          obtain ⟨x, hx0⟩ : ∃ x, Hid (fs[j] = x) := ⟨_, Lib.hid rfl⟩
          rw [hx0.out] at hxk
          obtain ⟨b, X1, n1, X2, n2, rfl, hn, hs, g0, g1, g2, g3⟩ := funs_arg (funs_below F2.out hbel) hxk
          obtain ⟨b', Y1, m1, Y2, m2, rfl, hn', hs', k0, k1, k2, k3⟩ := funs_arg (funs_below F2'.out hbel) hxk
          have HN := Lib.hid hn
          have HN' := Lib.hid hn'
          have HS := Lib.hid hs
          have HS' := Lib.hid hs'
          have hbl := World.block_lt_of_cell? wr _ g0
          have hbl' := World.block_lt_of_cell? wr _ k0
          dsimp only at hbl hbl'
          have q1 : ¬ b = wr.heap.size := by omega
          have q2 : ¬ wr.heap.size = b := by omega
          have q3 : ¬ b' = wr.heap.size := by omega
          have q4 : ¬ wr.heap.size = b' := by omega
          have q5 : ¬ w.heap.size = wr.heap.size := by omega
          have q6 : ¬ w.heap.size + 1 = wr.heap.size := by omega
          clear hxk hx0 hn hn' hs hs' hbel e7 e8
          cases ln
          all_goals
            go_wp2_with fail
            go_region
            · clear g0 g1 g2 g3 k0 k1 k2 k3
              go_wp2_with fail
              have hbw0 : Below wr.heap.size wr ((wr.alloc (.cells #[.string ⟨x.name.toArray⟩, .int .i64 x.line, .slice X1 x.params.length n1, .slice X2 x.body.length n2] 46)).alloc (.cells #[.string ⟨x.name.toArray⟩, .int .i64 x.line, .slice Y1 x.params.length m1, .slice Y2 x.body.length m2] 46)) := ((Below.refl _ _).alloc (Nat.le_refl _) _).alloc (by simp) _
              have hbw := hbw0.drew
              refine (list_same (names_below HN.out hbw) (names_below HN'.out hbw)).mono ?_
              rintro e w1 ⟨rfl, m, rfl⟩
              have hbm := below_drewN hbw0 (1 + m)
              obtain ⟨D1, hd1⟩ := HS.out.d
              obtain ⟨D2, hd2⟩ := HS'.out.d
              have HD1 := Lib.hid (SmsD.still (hd1.le (Nat.le_max_left D1 D2)) hbm)
              have HD2 := Lib.hid (SmsD.still (hd2.le (Nat.le_max_right D1 D2)) hbm)
              have HBM := Lib.hid hbm
              clear hd1 hd2 hbm hbw hbw0
              go_wp2_with fail
              refine (stmts_all (max D1 D2) _ p q _ _ _ _ _ _ HD1.out HD2.out).mono ?_
              rintro e w2 ⟨rfl, hb2⟩
              have HB2 := Lib.hid (HBL.out.trans ((HBM.out.trans (hb2.mono (by have := HBM.out.size; omega))).mono hsz))
              clear hb2
              go_wp2_with fail
              go_roundw
              case rel => exact ⟨j + 1, by go_num, by omega, HB2.out⟩
              case measure => simp [intOf]; omega
            · clear g0 g1 g2 g3 k0 k1 k2 k3
              go_wp2_with fail
              have hbw0 : Below wr.heap.size wr ((wr.alloc (.cells #[.string ⟨x.name.toArray⟩, .int .i64 x.line, .slice Y1 x.params.length m1, .slice Y2 x.body.length m2] 46)).alloc (.cells #[.string ⟨x.name.toArray⟩, .int .i64 x.line, .slice X1 x.params.length n1, .slice X2 x.body.length n2] 46)) := ((Below.refl _ _).alloc (Nat.le_refl _) _).alloc (by simp) _
              have hbw := hbw0.drew
              refine (list_same (names_below HN.out hbw) (names_below HN'.out hbw)).mono ?_
              rintro e w1 ⟨rfl, m, rfl⟩
              have hbm := below_drewN hbw0 (1 + m)
              obtain ⟨D1, hd1⟩ := HS.out.d
              obtain ⟨D2, hd2⟩ := HS'.out.d
              have HD1 := Lib.hid (SmsD.still (hd1.le (Nat.le_max_left D1 D2)) hbm)
              have HD2 := Lib.hid (SmsD.still (hd2.le (Nat.le_max_right D1 D2)) hbm)
              have HBM := Lib.hid hbm
              clear hd1 hd2 hbm hbw hbw0
              go_wp2_with fail
              refine (stmts_all (max D1 D2) _ p q _ _ _ _ _ _ HD1.out HD2.out).mono ?_
              rintro e w2 ⟨rfl, hb2⟩
              have HB2 := Lib.hid (HBL.out.trans ((HBM.out.trans (hb2.mono (by have := HBM.out.size; omega))).mono hsz))
              clear hb2
              go_wp2_with fail
              go_roundw
              case rel => exact ⟨j + 1, by go_num, by omega, HB2.out⟩
              case measure => simp [intOf]; omega
        · obtain rfl : j = fs.length := by omega
          go_wp2_with fail
          go_ret
          exact ⟨rfl, HB1.out.trans (HBL.out.mono HB1.out.size)⟩
end Go.Proofs.YtpfefjfpnmchcaaDoor
