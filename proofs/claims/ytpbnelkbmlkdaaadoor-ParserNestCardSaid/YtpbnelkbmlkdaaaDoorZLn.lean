/-
  The walk of the statements' Mod. Condition: its divisor is from 1 on. The walks of the statements' value and repeat. Conditions: the packages' variables; texts of at most ten thousand bytes. A region that draws its order and ends with stores: an operation may be taken where all others that may break what is held wait for it, through however many operations. No condition. The law ParserNest, walked: it answers true. Condition: the packages' variables.
-/
import Derived.Test.YtpbnelkbmlkdaaaDoorZLx
import Derived.Test.YtpbnelkbmlkdaaaDoorZKn
import Derived.Test.YtpbnelkbmlkdaaaDoorZTr
namespace Go.Proofs.YtpbnelkbmlkdaaaDoor
open Go.RowKit

theorem mod_pos (n k : Int) (w : World) (hn : 0 ≤ n) (h2 : n < 9223372036854775808) (hk : 1 ≤ k) (hk2 : k < 1000000) (r : Int) (hr : Hid (n % k = r)) : Calls Tryd.prog 12 #[.int .i64 n, .int .i64 k] w fun e w' => e = .returned (.int .i64 r) ∧ w = w' := by
  have h0 : 0 ≤ n % k := Int.emod_nonneg _ (by omega)
  have h3 : n % k < k := Int.emod_lt_of_pos _ (by omega)
  go_enter Tryd.func12, Tryd.ntmps12
  go_wp2
  go_ret
  exact ⟨ret_i64 hr.out, rfl⟩
theorem tmod_neg (n k : Int) (hn : n < 0) (hk : 1 ≤ k) : -k < n.tmod k ∧ n.tmod k ≤ 0 ∧ (n.tmod k = 0 → n % k = 0) ∧ (n.tmod k < 0 → n % k = n.tmod k + k) := by
  have h1 : n.tmod k = -((-n) % k) := by
    rw [show n = -(-n) from by omega, Int.neg_tmod, Int.neg_neg, Int.tmod_eq_emod_of_nonneg (by omega)]
  have h2 : 0 ≤ (-n) % k := Int.emod_nonneg _ (by omega)
  have h3 : (-n) % k < k := Int.emod_lt_of_pos _ (by omega)
  have h4 := Int.mul_ediv_add_emod (-n) k
  have h5 := Int.mul_ediv_add_emod n k
  have h6 : 0 ≤ n % k := Int.emod_nonneg _ (by omega)
  have h7 : n % k < k := Int.emod_lt_of_pos _ (by omega)
  refine ⟨by omega, by omega, fun h => ?_, fun h => ?_⟩
  · have hz : (-n) % k = 0 := by omega
    rw [Int.neg_emod_eq_sub_emod] at hz
    have : (k ∣ n) := by
      have := Int.dvd_of_emod_eq_zero (show (-n) % k = 0 by omega)
      exact (Int.dvd_neg).1 this
    exact Int.emod_eq_zero_of_dvd this
  · rw [h1]
    have hd : k * (n / k + (-n) / k + 1) = k - n % k - (-n) % k := by
      rw [Int.mul_add, Int.mul_add]; omega
    have hb : -k < k - n % k - (-n) % k ∧ k - n % k - (-n) % k < k := by omega
    have hz : n / k + (-n) / k + 1 = 0 := by
      rw [← hd] at hb
      have a1 : -1 < n / k + (-n) / k + 1 := by
        apply Int.lt_of_mul_lt_mul_left (a := k) (by rw [Int.mul_neg, Int.mul_one]; exact hb.1) (by omega)
      have a2 : n / k + (-n) / k + 1 < 1 := by
        apply Int.lt_of_mul_lt_mul_left (a := k) (by rw [Int.mul_one]; exact hb.2) (by omega)
      omega
    rw [hz] at hd
    omega
theorem mod_neg (n k : Int) (w : World) (hn : n < 0) (hk : 1 ≤ k) (hk2 : k < 1000000) (r : Int) (hr : Hid (n % k = r)) : Calls Tryd.prog 12 #[.int .i64 n, .int .i64 k] w fun e w' => e = .returned (.int .i64 r) ∧ w = w' := by
  obtain ⟨a1, a2, a3, a4⟩ := tmod_neg n k hn hk
  have HA := Lib.hid a3
  have HB := Lib.hid a4
  clear a3 a4
  by_cases hz : n.tmod k = 0
  · go_enter Tryd.func12, Tryd.ntmps12
    go_wp2
    go_ret
    exact ⟨ret_i64 (by rw [← hr.out, HA.out hz]; try exact hz), rfl⟩
  · have hl : n.tmod k < 0 := by omega
    clear hz
    go_enter Tryd.func12, Tryd.ntmps12
    go_wp2
    go_ret
    exact ⟨ret_i64 (by rw [← hr.out, HB.out hl]), rfl⟩
theorem mod_any (n k : Int) (w : World) (h2 : n < 9223372036854775808) (hk : 1 ≤ k) (hk2 : k < 1000000) (r : Int) (hr : Hid (n % k = r)) : Calls Tryd.prog 12 #[.int .i64 n, .int .i64 k] w fun e w' => e = .returned (.int .i64 r) ∧ w = w' := by
  by_cases hn : n < 0
  · exact mod_neg n k w hn hk hk2 r hr
  · exact mod_pos n k w (by omega) h2 hk hk2 r hr
end Go.Proofs.YtpbnelkbmlkdaaaDoor
namespace Go.Proofs.YtpbnelkbmlkdaaaDoor
open Go.RowKit

def rep (s : List UInt8) (k : Nat) : List UInt8 := (List.replicate k s).flatten
theorem rep_succ (s : List UInt8) (k : Nat) : rep s (k + 1) = rep s k ++ s := by
  unfold rep
  rw [List.replicate_succ', List.flatten_append]
  simp
theorem bytes_append (a b : List UInt8) : (⟨a.toArray⟩ : ByteArray) ++ ⟨b.toArray⟩ = ⟨(a ++ b).toArray⟩ := by
  apply ByteArray.ext
  apply Array.ext'
  simp
theorem rep_length (s : List UInt8) (k : Nat) : (rep s k).length = k * s.length := by
  unfold rep
  simp
set_option maxHeartbeats 1000000 in
theorem repeat_any (s : List UInt8) (n : Nat) (w : World) (hn : n ≤ 100) (hs : s.length ≤ 100) :
    Calls Tryd.prog 13 #[.string ⟨s.toArray⟩, .int .i64 n] w fun e w' => e = .returned (.string ⟨(rep s n).toArray⟩) ∧ w = w' := by
  go_enter Tryd.func13, Tryd.ntmps13
  go_wp2
  go_loop [5, 6] (fun v i => ∃ (k : Nat) (u : List UInt8), k ≤ n ∧ i = .int .i64 k ∧ v = .string ⟨u.toArray⟩ ∧ rep s k = u) (fun _ i => n - (intOf i).toNat)
  case atStart => exact ⟨0, [], Nat.zero_le _, rfl, rfl, rfl⟩
  case round =>
    obtain ⟨k, u, hk, rfl, rfl, hu⟩ := hrel
    have hl := rep_length s k
    have hm : k * s.length ≤ 100 * 100 := Nat.mul_le_mul (by omega) hs
    rw [hu] at hl
    have hul : u.length ≤ 10000 := by omega
    have HU := Lib.hid hu
    clear hu hl hm
    by_cases hlt : k < n
    · go_wp2
      go_round
      case rel => exact ⟨k + 1, u ++ s, by omega, by go_num, by first | rfl | (rw [← bytes_append]), by rw [rep_succ, HU.out]⟩
      case measure => simp [intOf]; omega
    · obtain rfl : k = n := by omega
      go_wp2
      go_ret
      exact ⟨by rw [HU.out]; rfl, rfl⟩
def valPre : List UInt8 := [102, 117, 110, 99, 32, 102, 40, 41, 32, 123, 32, 112, 114, 105, 110, 116, 32]
def valSrc (s : List UInt8) : List UInt8 := valPre ++ (s ++ [59, 32, 125])
/-- What value answers. -/
def ValIs (w : World) (R : Res Prg) (e : Ending) (w' : World) : Prop :=
  match R with
  | .ok x _ => ∃ v, e = .returned (.tuple #[v, .int .i64 0]) ∧ PrgIs w' (fun b => w.heap.size ≤ b) v x ∧ Below w.heap.size w w'
  | .err _ k => e = .returned (.tuple #[.agg #[.slice none 0 0, .slice none 0 0], .int .i64 k]) ∧ Below w.heap.size w w'
  | .out => False
theorem value_results {w : World} {tmps : Array Value} (N : Nat) (p q x : Value) (h0 : w.heap[N]? = some (.cells #[p, q] 28 (0, 0))) (t2 : tmps[2]? = some (.pointer (some ⟨N, 0, none⟩))) (t3 : tmps[3]? = some x) :
    (results Tryd.f9 tmps).run Tryd.prog w = .ok (.tuple #[.agg #[p, q], x]) w := by
  obtain ⟨a0, a1⟩ := cells_two h0
  simp [results, Tryd.results9, asAddr, t2, t3, go_sem]
  simp only [a0, a1, Result.andThen]
set_option maxHeartbeats 2000000 in
set_option maxRecDepth 100000 in
theorem value_err {w : World} (hV : VarsAt w) (s : List UInt8) (hs : s.length ≤ 10000) (n : Nat) (hn : n ≤ 1000000000) (l k : Nat) (hR : parseP n (valSrc s) = .err l k) :
    Calls Tryd.prog 9 #[.string ⟨s.toArray⟩] w fun e w' => e = .returned (.tuple #[.agg #[.slice none 0 0, .slice none 0 0], .int .i64 k]) ∧ Below w.heap.size w w' := by
  have HV := Lib.hid hV
  have HR := Lib.hid hR
  have hsz : 17 + s.length + 3 ≤ 9223372036854775807 := by omega
  clear hV hR
  go_enter Tryd.func9, Tryd.ntmps9
  go_wp2_with fail
  refine (parse_any _ _ (HV.out.alloc _).1 (HV.out.alloc _).2.1.1 (by simp [ByteArray.size]; omega) n hn (.err l k) (Lib.hid (by rw [← HR.out]; congr 1 <;> simp [valSrc, valPre])) (fun e => by cases e)).mono ?_
  rintro e w1 ⟨rfl, hb1⟩
  have hs1 := hb1.size
  simp only [World.size_alloc] at hs1
  have e0 := (hb1.block w.heap.size (by simp)).trans (heap_alloc_new w _)
  have HB1 := Lib.hid (((Below.refl _ w).alloc (Nat.le_refl _) _).trans (hb1.mono (by simp)))
  obtain ⟨c0, c1⟩ := cells_two e0
  have f0 : w1.frozen? ⟨w.heap.size, 0, none⟩ = false := Lib.frozen_of_heap e0 0
  have f1 : w1.frozen? ⟨w.heap.size, 1, none⟩ = false := Lib.frozen_of_heap e0 1
  have hlt : w.heap.size < w1.heap.size := by omega
  have hne : ¬ w.heap.size = w1.heap.size := by omega
  have u1 := setC_cell (o := 0) (.slice none 0 0) e0
  have u2 := setC_cell (o := 1) (.slice none 0 0) u1.at_
  have HU := Lib.hid (held_alloc (.cells #[(.slice none 0 0), (.slice none 0 0)] 28) u2.at_)
  have HB2 := Lib.hid (((HB1.out.setCell (p := ⟨w.heap.size, 0, none⟩) (Nat.le_refl _) (.slice none 0 0)).setCell (p := ⟨w.heap.size, 1, none⟩) (Nat.le_refl _) (.slice none 0 0)).alloc (by simp; omega) (.cells #[(.slice none 0 0), (.slice none 0 0)] 28))
  clear hb1 e0 u1 u2
  go_wp2_with fail
  refine bodyPost_ret (value_results w.heap.size _ _ _ HU.out rfl rfl) rfl ?_
  exact ⟨rfl, HB2.out⟩
set_option maxHeartbeats 2000000 in
set_option maxRecDepth 100000 in
theorem value_ok {w : World} (hV : VarsAt w) (s : List UInt8) (hs : s.length ≤ 10000) (n : Nat) (hn : n ≤ 1000000000) (x : Prg) (rest : List Tok) (hR : parseP n (valSrc s) = .ok x rest) :
    Calls Tryd.prog 9 #[.string ⟨s.toArray⟩] w fun e w' => ∃ v, e = .returned (.tuple #[v, .int .i64 0]) ∧ PrgIs w' (fun b => w.heap.size ≤ b) v x ∧ Below w.heap.size w w' := by
  have HV := Lib.hid hV
  have HR := Lib.hid hR
  have hsz : 17 + s.length + 3 ≤ 9223372036854775807 := by omega
  clear hV hR
  go_enter Tryd.func9, Tryd.ntmps9
  go_wp2_with fail
  refine (parse_any _ _ (HV.out.alloc _).1 (HV.out.alloc _).2.1.1 (by simp [ByteArray.size]; omega) n hn (.ok x rest) (Lib.hid (by rw [← HR.out]; congr 1 <;> simp [valSrc, valPre])) (fun e => by cases e)).mono ?_
  rintro e w1 ⟨v, rfl, hv, hb1⟩
  have HX := Lib.hid hv
  obtain ⟨A, c, A', c', rfl, hr, hf⟩ := hv
  clear hr hf
  have hs1 := hb1.size
  simp only [World.size_alloc] at hs1
  have e0 := (hb1.block w.heap.size (by simp)).trans (heap_alloc_new w _)
  have HB1 := Lib.hid (((Below.refl _ w).alloc (Nat.le_refl _) _).trans (hb1.mono (by simp)))
  obtain ⟨c0, c1⟩ := cells_two e0
  have f0 : w1.frozen? ⟨w.heap.size, 0, none⟩ = false := Lib.frozen_of_heap e0 0
  have f1 : w1.frozen? ⟨w.heap.size, 1, none⟩ = false := Lib.frozen_of_heap e0 1
  have hlt : w.heap.size < w1.heap.size := by omega
  have hne : ¬ w.heap.size = w1.heap.size := by omega
  have u1 := setC_cell (o := 0) (.slice A x.recs.length c) e0
  have u2 := setC_cell (o := 1) (.slice A' x.funs.length c') u1.at_
  have HU := Lib.hid (held_alloc (.cells #[(.slice A x.recs.length c), (.slice A' x.funs.length c')] 28) u2.at_)
  have HB2 := Lib.hid (((HB1.out.setCell (p := ⟨w.heap.size, 0, none⟩) (Nat.le_refl _) (.slice A x.recs.length c)).setCell (p := ⟨w.heap.size, 1, none⟩) (Nat.le_refl _) (.slice A' x.funs.length c')).alloc (by simp; omega) (.cells #[(.slice A x.recs.length c), (.slice A' x.funs.length c')] 28))
  have HX2 := Lib.hid (PrgIs.turn' (w := w1) HX.out (q := fun b => w.heap.size ≤ b) (w' := ((w1.setCell ⟨w.heap.size, 0, none⟩ (.slice A x.recs.length c)).setCell ⟨w.heap.size, 1, none⟩ (.slice A' x.funs.length c')).alloc (.cells #[(.slice A x.recs.length c), (.slice A' x.funs.length c')] 28)) (fun b hb hp => by
    have hp' : w.heap.size + 1 ≤ b := by simpa using hp
    exact ⟨by omega, by rw [heap_alloc_old _ _ (by rw [u2.size, u1.size]; exact hb), u2.block b (by omega), u1.block b (by omega)]⟩))
  clear hb1 e0 u1 u2
  go_wp2_with fail
  refine bodyPost_ret (value_results w.heap.size _ _ _ HU.out rfl rfl) rfl ?_
  exact ⟨_, rfl, HX2.out, HB2.out⟩
end Go.Proofs.YtpbnelkbmlkdaaaDoor
namespace Go.Proofs.YtpbnelkbmlkdaaaDoor
open Go.RowKit
section
variable {P : Program} {ops : Array Oper} {Q : Exit → Act → World → Prop} {md : Region.Mode} {S : World → Prop} {L : List Nat}
/-- Number k is i, or it has not come up and waits for an operation that waits for i. -/
inductive WaitT (md : Region.Mode) (ops : Array Oper) (listed : Array Bool) (i : Nat) : Nat → Prop where
  | here : WaitT md ops listed i i
  | step {k : Nat} {ok : Oper} {on : Nat} : listed.getD k false = false → ops[k]? = some ok → (∃ e ∈ ok.after, Region.binds md e = true ∧ e.on = on) → WaitT md ops listed i on → WaitT md ops listed i k
def waitB (md : Region.Mode) (ops : Array Oper) (listed : Array Bool) (i : Nat) : Nat → Nat → Bool
  | 0, k => k == i
  | f + 1, k => k == i || (!(listed.getD k false) && match ops[k]? with
    | some ok => ok.after.any (fun e => Region.binds md e && waitB md ops listed i f e.on)
    | none => false)
theorem waitB_spec {i : Nat} {listed : Array Bool} : ∀ (f k : Nat), waitB md ops listed i f k = true → WaitT md ops listed i k
  | 0, k, h => by
    unfold waitB at h
    rw [beq_iff_eq] at h
    rw [h]
    exact .here
  | f + 1, k, h => by
    unfold waitB at h
    rw [Bool.or_eq_true, beq_iff_eq, Bool.and_eq_true] at h
    rcases h with h | ⟨h1, h2⟩
    · rw [h]; exact .here
    · cases hk : ops[k]? with
      | none => rw [hk] at h2; cases h2
      | some ok =>
        rw [hk] at h2
        obtain ⟨e, he, hb⟩ := Array.any_eq_true'.1 h2
        rw [Bool.and_eq_true] at hb
        exact .step (by simpa using h1) hk ⟨e, he, hb.1, rfl⟩ (waitB_spec f e.on hb.2)
/-- Every operation outside L that has not come up waits for number i. -/
def waitsT (md : Region.Mode) (ops : Array Oper) (L : List Nat) (listed : Array Bool) (i : Nat) : Bool :=
  (List.range ops.size).all fun j => L.contains j || listed.getD j true || match ops[j]? with
    | some oj => oj.after.any (fun e => Region.binds md e && waitB md ops listed i ops.size e.on)
    | none => true
theorem waitsT_spec {i j : Nat} {oj : Oper} {listed : Array Bool} (h : waitsT md ops L listed i = true) (hj : ops[j]? = some oj) (hL : j ∉ L) (hun : listed.getD j true = false) : ∃ e ∈ oj.after, Region.binds md e = true ∧ WaitT md ops listed i e.on := by
  unfold waitsT at h
  rw [List.all_eq_true] at h
  have h1 := h j (List.mem_range.2 (Array.getElem?_eq_some_iff.1 hj).1)
  rw [hj, hun] at h1
  simp only [Bool.or_eq_true, List.contains_eq_mem, decide_eq_true_eq, hL, false_or, Bool.false_eq_true] at h1
  obtain ⟨e, he, hb⟩ := Array.any_eq_true'.1 h1
  rw [Bool.and_eq_true] at hb
  exact ⟨e, he, hb.1, waitB_spec _ _ hb.2⟩
/-- What waits goes on waiting when another comes up. -/
theorem WaitT.keep {i j : Nat} {oj : Oper} {listed : Array Bool} (hj : j ∈ Region.ready md ops listed) (hoj : ops[j]? = some oj) (hnot : ∀ e ∈ oj.after, Region.binds md e = true → e.on ≠ i) {k : Nat} (h : WaitT md ops listed i k) : WaitT md ops (listed.setIfInBounds j true) i k := by
  induction h with
  | here => exact .here
  | @step k ok on h1 hk he hw ih =>
    refine .step ?_ hk he ih
    by_cases hjk : j = k
    · exfalso
      rw [← hjk, hoj] at hk
      injection hk with hk
      subst hk
      obtain ⟨e, he, hb, hon⟩ := he
      obtain ⟨_, oj', hoj', hall⟩ := mem_ready.1 hj
      rw [hoj] at hoj'
      injection hoj' with hoj'
      subst hoj'
      have h0 := hall e he hb
      cases hw with
      | here => exact hnot e he hb hon
      | step g1 _ _ _ =>
        rw [hon, g1] at h0
        cases h0
    · rw [getD_set_ne false hjk]
      exact h1
theorem wpAnyO_firstT {S' : World → Prop} {i : Nat} {oi : Oper} {v : Value} (hi : ops[i]? = some oi) (hsel : ∀ (j : Nat) (o : Oper) cs b, ops[j]? = some o → o.op ≠ .select cs b)
    (hQ : ∀ c a w, Q (.panic c) (a.put oi.dst v) w → Q (.panic c) a w)
    (hS' : i ∈ L ∧ S' = S) :
    ∀ (n : Nat) (listed : Array Bool) (a : Act) (w : World),
      (∀ j oj, ops[j]? = some oj → j ≠ i → listed.getD j true = false → (∀ e ∈ oj.after, Region.binds md e = true → e.on ≠ i) → oi.apart ops oj = true) →
      (∀ j oj, ops[j]? = some oj → j ∉ L → listed.getD j true = false → ∃ e ∈ oj.after, Region.binds md e = true ∧ WaitT md ops listed i e.on) →
      i ∈ Region.ready md ops listed → YieldsIf P ops S' oi v a → S' w →
      wpAnyO P md ops Q S L n (listed.setIfInBounds i true) (a.put oi.dst v) w → wpAnyO P md ops Q S L (n + 1) listed a w := by
  have own : ∀ w, S' w → (i ∈ L → S w) := fun w hw hL => by
    rw [← hS'.2]; exact hw
  intro n
  induction n with
  | zero =>
    intro listed a w _ _ hr hy hS H
    refine ⟨fun h => (by rw [h] at hr; cases hr), fun j hj => ?_⟩
    by_cases hji : j = i
    · subst hji
      exact hy.wpOp hi hS ⟨own w hS, H⟩
    · have h0 := ready_mono hj hji
      rw [H.1] at h0
      cases h0
  | succ n ih =>
    intro listed a w hfree hwait hr hy hS H
    refine ⟨fun h => (by rw [h] at hr; cases hr), fun j hj => ?_⟩
    by_cases hji : j = i
    · subst hji
      exact hy.wpOp hi hS ⟨own w hS, H⟩
    · obtain ⟨oj, hoj, hnot⟩ := not_waitingO hr hj
      have hjun := (mem_ready.1 hj).1
      have h2 := wpOp_putIf hoj (hfree j oj hoj hji hjun hnot) (fun cs b => hsel i oi cs b hi) (fun cs b => hsel j oj cs b hoj) hQ hy (H.2 j (ready_mono hj hji))
      have hnext : ∀ w', (j ∈ L → S w') → S' w' := fun w' hjL => by
        by_cases hL : j ∈ L
        · rw [hS'.2]; exact hjL hL
        · obtain ⟨e', he', hb, hon⟩ := hwait j oj hoj hL hjun
          obtain ⟨_, oj', hoj', hall⟩ := mem_ready.1 hj
          rw [hoj] at hoj'
          injection hoj' with hoj'
          subst hoj'
          have h0 := hall e' he' hb
          generalize hx : e'.on = x at hon h0
          cases hon with
          | here => exact absurd hx (hnot e' he' hb)
          | step g1 _ _ _ =>
            rw [g1] at h0
            cases h0
      have hkeep : ∀ k, (listed.setIfInBounds j true).getD k true = false → listed.getD k true = false := fun k hun => by
        by_cases hjk : j = k
        · subst hjk; exact hjun
        · rw [getD_set_ne true hjk] at hun; exact hun
      refine wpOp_mono (fun a' w' h3 => ⟨h3.2.1, ih (listed.setIfInBounds j true) a' w' (fun k ok hk hki hun hno => hfree k ok hk hki (hkeep k hun) hno) (fun k ok hk hkL hun => by
        obtain ⟨e, he, hb, hon⟩ := hwait k ok hk hkL (hkeep k hun)
        exact ⟨e, he, hb, hon.keep hj hoj hnot⟩) (ready_mono hr (Ne.symm hji)) h3.1 (hnext w' h3.2.1) ?_⟩) h2
      rw [Array.setIfInBounds_comm _ _ hji]
      exact h3.2.2
theorem wpAnyO_takeT {i : Nat} {oi : Oper} {v : Value} {n : Nat} {listed : Array Bool} {a : Act} {w : World} (hi : ops[i]? = some oi)
    (hs : Region.noSelect ops = true) (hf : Region.free md ops listed i = true) (hr : (Region.ready md ops listed).contains i = true) (hL : L.contains i = true) (hw : waitsT md ops L listed i = true)
    (hQ : ∀ c a w, Q (.panic c) (a.put oi.dst v) w → Q (.panic c) a w) (hy : YieldsIf P ops S oi v a) (hS : S w)
    (h : wpAnyO P md ops Q S L n (listed.setIfInBounds i true) (a.put oi.dst v) w) : wpAnyO P md ops Q S L (n + 1) listed a w :=
  wpAnyO_firstT (S' := S) hi (Region.noSelect_spec hs) hQ ⟨by simpa using hL, rfl⟩ n listed a w (Region.free_spec hi hf) (fun j oj hj hjL hun => waitsT_spec hw hj hjL hun) (by simpa using hr) hy hS h
end
end Go.Proofs.YtpbnelkbmlkdaaaDoor
namespace Go.Proofs.YtpbnelkbmlkdaaaDoor
open Go.RowKit

/-- What is repeated in front and behind. -/
def nests : List (List UInt8 × List UInt8) := [([40], [41]), ([45], []), ([116, 91], [93]), ([33, 40], [41])]
def nestL (h : Nat) : List UInt8 := (nests.getD h ([], [])).1
def nestR (h : Nat) : List UInt8 := (nests.getD h ([], [])).2
def nestS (h k : Nat) : List UInt8 := rep (nestL h) k ++ ([97] ++ rep (nestR h) k)
def codeOf : Res Prg → Nat
  | .ok _ _ => 0
  | .err _ k => k
  | .out => 99
def deepOf (h k : Nat) : Nat := if h = 3 then 2 * k else k
def wantOf (d : Nat) : Nat := if 8 < d then 5 else 0
def blockS (k : Nat) : List UInt8 := [102, 117, 110, 99, 32, 102, 40, 41, 10, 123, 32] ++ (rep [119, 104, 105, 108, 101, 32, 49, 32, 123, 32] (k - 1) ++ ([112, 114, 105, 110, 116, 32, 49, 59] ++ rep [32, 125] k))
def allB : Bool := (List.range 4).all fun h => (List.range 11).all fun k => decide (codeOf (parseP 400 (valSrc (nestS h (k + 1)))) = wantOf (deepOf h (k + 1)))
def blocksB : Bool := (List.range 11).all fun k => decide (codeOf (parseP 2000 (blockS (k + 1))) = wantOf (k + 1))
theorem all_ok : allB = true := by decide +kernel
theorem blocks_ok : blocksB = true := by decide +kernel
theorem nest_code (h k : Nat) (hh : h < 4) (hk : 1 ≤ k) (hk2 : k ≤ 11) : codeOf (parseP 400 (valSrc (nestS h k))) = wantOf (deepOf h k) := by
  have := all_ok
  unfold allB at this
  rw [List.all_eq_true] at this
  have h1 := this h (List.mem_range.2 hh)
  rw [List.all_eq_true] at h1
  have h2 := of_decide_eq_true (h1 (k - 1) (List.mem_range.2 (by omega)))
  rw [show k - 1 + 1 = k by omega] at h2
  exact h2
theorem block_code (k : Nat) (hk : 1 ≤ k) (hk2 : k ≤ 11) : codeOf (parseP 2000 (blockS k)) = wantOf k := by
  have := blocks_ok
  unfold blocksB at this
  rw [List.all_eq_true] at this
  have h2 := of_decide_eq_true (this (k - 1) (List.mem_range.2 (by omega)))
  rw [show k - 1 + 1 = k by omega] at h2
  exact h2
theorem value_code {w : World} (hV : VarsAt w) (s : List UInt8) (hs : s.length ≤ 10000) (c : Nat) (hc : codeOf (parseP 400 (valSrc s)) = c) (h99 : c ≠ 99) (b : ByteArray) (hb : b = ⟨s.toArray⟩) :
    Calls Tryd.prog 9 #[.string b] w fun e w' => ∃ p q : Value, p.oneCell' = true ∧ q.oneCell' = true ∧ (∃ a1 n1 c1 a2 n2 c2, p = .slice a1 n1 c1 ∧ q = .slice a2 n2 c2) ∧ e = .returned (.tuple #[.agg #[p, q], .int .i64 c]) ∧ Below w.heap.size w w' := by
  subst hb
  cases hR : parseP 400 (valSrc s) with
  | ok x rest =>
    rw [hR] at hc
    refine (value_ok hV s hs 400 (by omega) x rest hR).mono ?_
    rintro e w' ⟨v, rfl, ⟨A, c1, A', c1', rfl, _, _⟩, hb⟩
    subst hc
    exact ⟨_, _, rfl, rfl, ⟨_, _, _, _, _, _, rfl, rfl⟩, rfl, hb⟩
  | err l k =>
    rw [hR] at hc
    refine (value_err hV s hs 400 (by omega) l k hR).mono ?_
    rintro e w' ⟨rfl, hb⟩
    subst hc
    exact ⟨_, _, rfl, rfl, ⟨_, _, _, _, _, _, rfl, rfl⟩, rfl, hb⟩
  | out =>
    rw [hR] at hc
    exact absurd hc.symm h99
theorem parse_code {w : World} (hV : VarsAt w) (s : List UInt8) (hs : s.length ≤ 10000) (c : Nat) (hc : codeOf (parseP 2000 s) = c) (h99 : c ≠ 99) (b : ByteArray) (hb : b = ⟨s.toArray⟩) :
    Calls Tryd.prog 14 #[.string b] w fun e w' => ∃ (p q : Value) (l : Nat), (∃ a1 n1 c1 a2 n2 c2, p = .slice a1 n1 c1 ∧ q = .slice a2 n2 c2) ∧ e = .returned (.tuple #[.agg #[p, q], .int .i64 l, .int .i64 c]) ∧ Below w.heap.size w w' := by
  subst hb
  have hsz : (⟨s.toArray⟩ : ByteArray).size ≤ 9223372036854775807 := by show s.toArray.size ≤ _; rw [List.size_toArray]; omega
  cases hR : parseP 2000 s with
  | ok x rest =>
    rw [hR] at hc
    refine (parse_any ⟨s.toArray⟩ w hV.1 hV.2.1.1 hsz 2000 (by omega) (.ok x rest) (Lib.hid hR) (fun e => by cases e)).mono ?_
    rintro e w' ⟨v, rfl, ⟨A, c1, A', c1', rfl, _, _⟩, hb⟩
    subst hc
    exact ⟨_, _, 0, ⟨_, _, _, _, _, _, rfl, rfl⟩, rfl, hb⟩
  | err l k =>
    rw [hR] at hc
    refine (parse_any ⟨s.toArray⟩ w hV.1 hV.2.1.1 hsz 2000 (by omega) (.err l k) (Lib.hid hR) (fun e => by cases e)).mono ?_
    rintro e w' ⟨rfl, hb⟩
    subst hc
    exact ⟨_, _, l, ⟨_, _, _, _, _, _, rfl, rfl⟩, rfl, hb⟩
  | out =>
    rw [hR] at hc
    exact absurd hc.symm h99
theorem catL (a b : ByteArray) (h : a.size + b.size ≤ 9223372036854775807) : ∀ W : World, (Op.stringOp .add a b).run Tryd.prog W = .ok (.string (a ++ b)) W := fun W => run_string_add_sum W a b h
def whileS : List UInt8 := [119, 104, 105, 108, 101, 32, 49, 32, 123, 32]
end Go.Proofs.YtpbnelkbmlkdaaaDoor
