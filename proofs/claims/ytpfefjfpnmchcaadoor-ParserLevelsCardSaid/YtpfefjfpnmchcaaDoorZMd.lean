/-
  The walk of the statements' Mod. Condition: its divisor is from 1 on. Equality of plain trees as a function, and the tables of the texts of operands and operators. No condition. The walks of the statements' value and repeat. Conditions: the packages' variables; texts of at most ten thousand bytes.
-/
import Derived.Test.YtpfefjfpnmchcaaDoorZLx
import Derived.Test.YtpfefjfpnmchcaaDoorZTr
import Derived.Test.YtpfefjfpnmchcaaDoorZKn
namespace Go.Proofs.YtpfefjfpnmchcaaDoor
open Go.RowKit

theorem mod_pos (n k : Int) (w : World) (hn : 0 ≤ n) (h2 : n < 9223372036854775808) (hk : 1 ≤ k) (hk2 : k < 1000000) (r : Int) (hr : Hid (n % k = r)) : Calls Tryd.prog 12 #[.int .i64 n, .int .i64 k] w fun e w' => e = .returned (.int .i64 r) ∧ w = w' := by
  have h0 : 0 ≤ n % k := Int.emod_nonneg _ (by omega)
  have h3 : n % k < k := Int.emod_lt_of_pos _ (by omega)
  go_enter Tryd.func12, Tryd.ntmps12
  go_wp2
  go_ret
  exact ⟨ret_i64 hr.out, rfl⟩
theorem tmod_neg (n k : Int) (hn : n < 0) (hk : 1 ≤ k) : -k < n.tmod k ∧ n.tmod k ≤ 0 ∧ (n.tmod k = 0 → n % k = 0) ∧ (n.tmod k < 0 → n % k = n.tmod k + k) := by
  have h1 : n.tmod k = -((-n) % k) := by
    rw [show n = -(-n) from by omega, Int.neg_tmod, Int.neg_neg, Int.tmod_eq_emod_of_nonneg (by omega)]
  have h2 : 0 ≤ (-n) % k := Int.emod_nonneg _ (by omega)
  have h3 : (-n) % k < k := Int.emod_lt_of_pos _ (by omega)
  have h4 := Int.mul_ediv_add_emod (-n) k
  have h5 := Int.mul_ediv_add_emod n k
  have h6 : 0 ≤ n % k := Int.emod_nonneg _ (by omega)
  have h7 : n % k < k := Int.emod_lt_of_pos _ (by omega)
  refine ⟨by omega, by omega, fun h => ?_, fun h => ?_⟩
  · have hz : (-n) % k = 0 := by omega
    rw [Int.neg_emod_eq_sub_emod] at hz
    have : (k ∣ n) := by
      have := Int.dvd_of_emod_eq_zero (show (-n) % k = 0 by omega)
      exact (Int.dvd_neg).1 this
    exact Int.emod_eq_zero_of_dvd this
  · rw [h1]
    have hd : k * (n / k + (-n) / k + 1) = k - n % k - (-n) % k := by
      rw [Int.mul_add, Int.mul_add]; omega
    have hb : -k < k - n % k - (-n) % k ∧ k - n % k - (-n) % k < k := by omega
    have hz : n / k + (-n) / k + 1 = 0 := by
      rw [← hd] at hb
      have a1 : -1 < n / k + (-n) / k + 1 := by
        apply Int.lt_of_mul_lt_mul_left (a := k) (by rw [Int.mul_neg, Int.mul_one]; exact hb.1) (by omega)
      have a2 : n / k + (-n) / k + 1 < 1 := by
        apply Int.lt_of_mul_lt_mul_left (a := k) (by rw [Int.mul_one]; exact hb.2) (by omega)
      omega
    rw [hz] at hd
    omega
theorem mod_neg (n k : Int) (w : World) (hn : n < 0) (hk : 1 ≤ k) (hk2 : k < 1000000) (r : Int) (hr : Hid (n % k = r)) : Calls Tryd.prog 12 #[.int .i64 n, .int .i64 k] w fun e w' => e = .returned (.int .i64 r) ∧ w = w' := by
  obtain ⟨a1, a2, a3, a4⟩ := tmod_neg n k hn hk
  have HA := Lib.hid a3
  have HB := Lib.hid a4
  clear a3 a4
  by_cases hz : n.tmod k = 0
  · go_enter Tryd.func12, Tryd.ntmps12
    go_wp2
    go_ret
    exact ⟨ret_i64 (by rw [← hr.out, HA.out hz]; try exact hz), rfl⟩
  · have hl : n.tmod k < 0 := by omega
    clear hz
    go_enter Tryd.func12, Tryd.ntmps12
    go_wp2
    go_ret
    exact ⟨ret_i64 (by rw [← hr.out, HB.out hl]), rfl⟩
theorem mod_any (n k : Int) (w : World) (h2 : n < 9223372036854775808) (hk : 1 ≤ k) (hk2 : k < 1000000) (r : Int) (hr : Hid (n % k = r)) : Calls Tryd.prog 12 #[.int .i64 n, .int .i64 k] w fun e w' => e = .returned (.int .i64 r) ∧ w = w' := by
  by_cases hn : n < 0
  · exact mod_neg n k w hn hk hk2 r hr
  · exact mod_pos n k w (by omega) h2 hk hk2 r hr
end Go.Proofs.YtpfefjfpnmchcaaDoor
namespace Go.Proofs.YtpfefjfpnmchcaaDoor

mutual
def eqE : Ex → Ex → Bool
  | .mk a b c d e f, .mk a' b' c' d' e' f' => decide (a = a') && (decide (b = b') && (decide (c = c') && (decide (d = d') && (decide (e = e') && eqEs f f'))))
def eqEs : List Ex → List Ex → Bool
  | [], [] => true
  | x :: l, y :: m => eqE x y && eqEs l m
  | [], _ :: _ => false
  | _ :: _, [] => false
end
mutual
theorem eqE_eq : ∀ {x y : Ex}, eqE x y = true → x = y
  | .mk a b c d e f, .mk a' b' c' d' e' f', h => by
    simp only [eqE, Bool.and_eq_true, decide_eq_true_eq] at h
    obtain ⟨rfl, rfl, rfl, rfl, rfl, hf⟩ := h
    rw [eqEs_eq hf]
theorem eqEs_eq : ∀ {l m : List Ex}, eqEs l m = true → l = m
  | [], [], _ => rfl
  | x :: l, y :: m, h => by
    simp only [eqEs, Bool.and_eq_true] at h
    rw [eqE_eq h.1, eqEs_eq h.2]
  | [], _ :: _, h => by simp [eqEs] at h
  | _ :: _, [], h => by simp [eqEs] at h
end
mutual
def eqS : Sm → Sm → Bool
  | .mk a b c d e f g h i j k l m, .mk a' b' c' d' e' f' g' h' i' j' k' l' m' => decide (a = a') && (decide (b = b') && (decide (c = c') && (decide (d = d') && (decide (e = e') && (decide (f = f') && (decide (g = g') && (eqEs h h' && (decide (i = i') && (decide (j = j') && (eqEs k k' && (eqSs l l' && eqSs m m')))))))))))
def eqSs : List Sm → List Sm → Bool
  | [], [] => true
  | x :: l, y :: m => eqS x y && eqSs l m
  | [], _ :: _ => false
  | _ :: _, [] => false
end
mutual
theorem eqS_eq : ∀ {x y : Sm}, eqS x y = true → x = y
  | .mk a b c d e f g h i j k l m, .mk a' b' c' d' e' f' g' h' i' j' k' l' m', q => by
    simp only [eqS, Bool.and_eq_true, decide_eq_true_eq] at q
    obtain ⟨rfl, rfl, rfl, rfl, rfl, rfl, rfl, hh, rfl, rfl, hk, hl, hm⟩ := q
    rw [eqEs_eq hh, eqEs_eq hk, eqSs_eq hl, eqSs_eq hm]
theorem eqSs_eq : ∀ {l m : List Sm}, eqSs l m = true → l = m
  | [], [], _ => rfl
  | x :: l, y :: m, h => by
    simp only [eqSs, Bool.and_eq_true] at h
    rw [eqS_eq h.1, eqSs_eq h.2]
  | [], _ :: _, h => by simp [eqSs] at h
  | _ :: _, [], h => by simp [eqSs] at h
end
def eqFs : List Fun → List Fun → Bool
  | [], [] => true
  | x :: l, y :: m => decide (x.name = y.name) && (decide (x.line = y.line) && (decide (x.params = y.params) && (eqSs x.body y.body && eqFs l m)))
  | [], _ :: _ => false
  | _ :: _, [] => false
theorem eqFs_eq : ∀ {l m : List Fun}, eqFs l m = true → l = m
  | [], [], _ => rfl
  | ⟨a, b, c, d⟩ :: l, ⟨a', b', c', d'⟩ :: m, h => by
    simp only [eqFs, Bool.and_eq_true, decide_eq_true_eq] at h
    obtain ⟨rfl, rfl, rfl, hb, hl⟩ := h
    rw [eqSs_eq hb, eqFs_eq hl]
  | [], _ :: _, h => by simp [eqFs] at h
  | _ :: _, [], h => by simp [eqFs] at h
/-- Two programs without records are the same. -/
def eqP (x y : Prg) : Bool := x.recs.isEmpty && (y.recs.isEmpty && eqFs x.funs y.funs)
theorem eqP_eq {x y : Prg} (h : eqP x y = true) : x = y := by
  obtain ⟨a, b⟩ := x
  obtain ⟨a', b'⟩ := y
  simp only [eqP, Bool.and_eq_true, List.isEmpty_iff] at h
  obtain ⟨rfl, rfl, h⟩ := h
  rw [eqFs_eq h]
/-- Two texts are parsed as the same program. -/
def sameB (n : Nat) (s t : List UInt8) : Bool := match parseP n s, parseP n t with
  | .ok x _, .ok y _ => eqP x y
  | _, _ => false
theorem sameB_ok {n : Nat} {s t : List UInt8} (h : sameB n s t = true) : ∃ x r r', parseP n s = .ok x r ∧ parseP n t = .ok x r' := by
  unfold sameB at h
  split at h
  · rename_i x r y r' h1 h2
    rw [← eqP_eq h] at h2
    exact ⟨x, r, r', h1, h2⟩
  · cases h
/-- The texts of the operands and of the operators. -/
def opds : List (List UInt8) := [[97], [55], [112, 46, 120], [116, 91, 97, 93], [45, 97], [33, 98], [40, 97, 32, 43, 32, 98, 41], [116, 91, 97, 32, 60, 32, 98, 93]]
def opd (i : Nat) : List UInt8 := opds.getD i []
def sgns : List (List UInt8) := [[43], [45], [42], [47], [37], [38], [124], [94], [60], [60, 61], [61, 61], [33, 61]]
def sgn (k : Nat) : List UInt8 := sgns.getD k []
def lvls : List Nat := [3, 3, 4, 4, 4, 2, 2, 2, 1, 1, 1, 1]
def lvl (k : Nat) : Nat := lvls.getD k 0
def valPre : List UInt8 := [102, 117, 110, 99, 32, 102, 40, 41, 32, 123, 32, 112, 114, 105, 110, 116, 32]
def valSrc (s : List UInt8) : List UInt8 := valPre ++ (s ++ [59, 32, 125])
def plainS (i j k : Nat) : List UInt8 := opd i ++ (sgn k ++ opd j)
def parenS (i j k : Nat) : List UInt8 := [40, 40] ++ (opd i ++ ([41] ++ (sgn k ++ ([40] ++ (opd j ++ [41, 41])))))
def parensB (i : Nat) : Bool := (List.range 8).all fun j => (List.range 12).all fun k => sameB 400 (valSrc (plainS i j k)) (valSrc (parenS i j k))
end Go.Proofs.YtpfefjfpnmchcaaDoor
namespace Go.Proofs.YtpfefjfpnmchcaaDoor
open Go.RowKit

def rep (s : List UInt8) (k : Nat) : List UInt8 := (List.replicate k s).flatten
theorem rep_succ (s : List UInt8) (k : Nat) : rep s (k + 1) = rep s k ++ s := by
  unfold rep
  rw [List.replicate_succ', List.flatten_append]
  simp
theorem bytes_append (a b : List UInt8) : (⟨a.toArray⟩ : ByteArray) ++ ⟨b.toArray⟩ = ⟨(a ++ b).toArray⟩ := by
  apply ByteArray.ext
  apply Array.ext'
  simp
theorem rep_length (s : List UInt8) (k : Nat) : (rep s k).length = k * s.length := by
  unfold rep
  simp
set_option maxHeartbeats 1000000 in
theorem repeat_any (s : List UInt8) (n : Nat) (w : World) (hn : n ≤ 100) (hs : s.length ≤ 100) :
    Calls Tryd.prog 13 #[.string ⟨s.toArray⟩, .int .i64 n] w fun e w' => e = .returned (.string ⟨(rep s n).toArray⟩) ∧ w = w' := by
  go_enter Tryd.func13, Tryd.ntmps13
  go_wp2
  go_loop [5, 6] (fun v i => ∃ (k : Nat) (u : List UInt8), k ≤ n ∧ i = .int .i64 k ∧ v = .string ⟨u.toArray⟩ ∧ rep s k = u) (fun _ i => n - (intOf i).toNat)
  case atStart => exact ⟨0, [], Nat.zero_le _, rfl, rfl, rfl⟩
  case round =>
    obtain ⟨k, u, hk, rfl, rfl, hu⟩ := hrel
    have hl := rep_length s k
    have hm : k * s.length ≤ 100 * 100 := Nat.mul_le_mul (by omega) hs
    rw [hu] at hl
    have hul : u.length ≤ 10000 := by omega
    have HU := Lib.hid hu
    clear hu hl hm
    by_cases hlt : k < n
    · go_wp2
      go_round
      case rel => exact ⟨k + 1, u ++ s, by omega, by go_num, by first | rfl | (rw [← bytes_append]), by rw [rep_succ, HU.out]⟩
      case measure => simp [intOf]; omega
    · obtain rfl : k = n := by omega
      go_wp2
      go_ret
      exact ⟨by rw [HU.out]; rfl, rfl⟩
/-- What value answers. -/
def ValIs (w : World) (R : Res Prg) (e : Ending) (w' : World) : Prop :=
  match R with
  | .ok x _ => ∃ v, e = .returned (.tuple #[v, .int .i64 0]) ∧ PrgIs w' (fun b => w.heap.size ≤ b) v x ∧ Below w.heap.size w w'
  | .err _ k => e = .returned (.tuple #[.agg #[.slice none 0 0, .slice none 0 0], .int .i64 k]) ∧ Below w.heap.size w w'
  | .out => False
theorem value_results {w : World} {tmps : Array Value} (N : Nat) (p q x : Value) (h0 : w.heap[N]? = some (.cells #[p, q] 28 (0, 0))) (t2 : tmps[2]? = some (.pointer (some ⟨N, 0, none⟩))) (t3 : tmps[3]? = some x) :
    (results Tryd.f9 tmps).run Tryd.prog w = .ok (.tuple #[.agg #[p, q], x]) w := by
  obtain ⟨a0, a1⟩ := cells_two h0
  simp [results, Tryd.results9, asAddr, t2, t3, go_sem]
  simp only [a0, a1, Result.andThen]
set_option maxHeartbeats 2000000 in
set_option maxRecDepth 100000 in
theorem value_err {w : World} (hV : VarsAt w) (s : List UInt8) (hs : s.length ≤ 10000) (n : Nat) (hn : n ≤ 1000000000) (l k : Nat) (hR : parseP n (valSrc s) = .err l k) :
    Calls Tryd.prog 9 #[.string ⟨s.toArray⟩] w fun e w' => e = .returned (.tuple #[.agg #[.slice none 0 0, .slice none 0 0], .int .i64 k]) ∧ Below w.heap.size w w' := by
  have HV := Lib.hid hV
  have HR := Lib.hid hR
  have hsz : 17 + s.length + 3 ≤ 9223372036854775807 := by omega
  clear hV hR
  go_enter Tryd.func9, Tryd.ntmps9
  go_wp2_with fail
  refine (parse_any _ _ (HV.out.alloc _).1 (HV.out.alloc _).2.1.1 (by simp [ByteArray.size]; omega) n hn (.err l k) (Lib.hid (by rw [← HR.out]; congr 1 <;> simp [valSrc, valPre])) (fun e => by cases e)).mono ?_
  rintro e w1 ⟨rfl, hb1⟩
  have hs1 := hb1.size
  simp only [World.size_alloc] at hs1
  have e0 := (hb1.block w.heap.size (by simp)).trans (heap_alloc_new w _)
  have HB1 := Lib.hid (((Below.refl _ w).alloc (Nat.le_refl _) _).trans (hb1.mono (by simp)))
  obtain ⟨c0, c1⟩ := cells_two e0
  have f0 : w1.frozen? ⟨w.heap.size, 0, none⟩ = false := Lib.frozen_of_heap e0 0
  have f1 : w1.frozen? ⟨w.heap.size, 1, none⟩ = false := Lib.frozen_of_heap e0 1
  have hlt : w.heap.size < w1.heap.size := by omega
  have hne : ¬ w.heap.size = w1.heap.size := by omega
  have u1 := setC_cell (o := 0) (.slice none 0 0) e0
  have u2 := setC_cell (o := 1) (.slice none 0 0) u1.at_
  have HU := Lib.hid (held_alloc (.cells #[(.slice none 0 0), (.slice none 0 0)] 28) u2.at_)
  have HB2 := Lib.hid (((HB1.out.setCell (p := ⟨w.heap.size, 0, none⟩) (Nat.le_refl _) (.slice none 0 0)).setCell (p := ⟨w.heap.size, 1, none⟩) (Nat.le_refl _) (.slice none 0 0)).alloc (by simp; omega) (.cells #[(.slice none 0 0), (.slice none 0 0)] 28))
  clear hb1 e0 u1 u2
  go_wp2_with fail
  refine bodyPost_ret (value_results w.heap.size _ _ _ HU.out rfl rfl) rfl ?_
  exact ⟨rfl, HB2.out⟩
set_option maxHeartbeats 2000000 in
set_option maxRecDepth 100000 in
theorem value_ok {w : World} (hV : VarsAt w) (s : List UInt8) (hs : s.length ≤ 10000) (n : Nat) (hn : n ≤ 1000000000) (x : Prg) (rest : List Tok) (hR : parseP n (valSrc s) = .ok x rest) :
    Calls Tryd.prog 9 #[.string ⟨s.toArray⟩] w fun e w' => ∃ v, e = .returned (.tuple #[v, .int .i64 0]) ∧ PrgIs w' (fun b => w.heap.size ≤ b) v x ∧ Below w.heap.size w w' := by
  have HV := Lib.hid hV
  have HR := Lib.hid hR
  have hsz : 17 + s.length + 3 ≤ 9223372036854775807 := by omega
  clear hV hR
  go_enter Tryd.func9, Tryd.ntmps9
  go_wp2_with fail
  refine (parse_any _ _ (HV.out.alloc _).1 (HV.out.alloc _).2.1.1 (by simp [ByteArray.size]; omega) n hn (.ok x rest) (Lib.hid (by rw [← HR.out]; congr 1 <;> simp [valSrc, valPre])) (fun e => by cases e)).mono ?_
  rintro e w1 ⟨v, rfl, hv, hb1⟩
  have HX := Lib.hid hv
  obtain ⟨A, c, A', c', rfl, hr, hf⟩ := hv
  clear hr hf
  have hs1 := hb1.size
  simp only [World.size_alloc] at hs1
  have e0 := (hb1.block w.heap.size (by simp)).trans (heap_alloc_new w _)
  have HB1 := Lib.hid (((Below.refl _ w).alloc (Nat.le_refl _) _).trans (hb1.mono (by simp)))
  obtain ⟨c0, c1⟩ := cells_two e0
  have f0 : w1.frozen? ⟨w.heap.size, 0, none⟩ = false := Lib.frozen_of_heap e0 0
  have f1 : w1.frozen? ⟨w.heap.size, 1, none⟩ = false := Lib.frozen_of_heap e0 1
  have hlt : w.heap.size < w1.heap.size := by omega
  have hne : ¬ w.heap.size = w1.heap.size := by omega
  have u1 := setC_cell (o := 0) (.slice A x.recs.length c) e0
  have u2 := setC_cell (o := 1) (.slice A' x.funs.length c') u1.at_
  have HU := Lib.hid (held_alloc (.cells #[(.slice A x.recs.length c), (.slice A' x.funs.length c')] 28) u2.at_)
  have HB2 := Lib.hid (((HB1.out.setCell (p := ⟨w.heap.size, 0, none⟩) (Nat.le_refl _) (.slice A x.recs.length c)).setCell (p := ⟨w.heap.size, 1, none⟩) (Nat.le_refl _) (.slice A' x.funs.length c')).alloc (by simp; omega) (.cells #[(.slice A x.recs.length c), (.slice A' x.funs.length c')] 28))
  have HX2 := Lib.hid (PrgIs.turn' (w := w1) HX.out (q := fun b => w.heap.size ≤ b) (w' := ((w1.setCell ⟨w.heap.size, 0, none⟩ (.slice A x.recs.length c)).setCell ⟨w.heap.size, 1, none⟩ (.slice A' x.funs.length c')).alloc (.cells #[(.slice A x.recs.length c), (.slice A' x.funs.length c')] 28)) (fun b hb hp => by
    have hp' : w.heap.size + 1 ≤ b := by simpa using hp
    exact ⟨by omega, by rw [heap_alloc_old _ _ (by rw [u2.size, u1.size]; exact hb), u2.block b (by omega), u1.block b (by omega)]⟩))
  clear hb1 e0 u1 u2
  go_wp2_with fail
  refine bodyPost_ret (value_results w.heap.size _ _ _ HU.out rfl rfl) rfl ?_
  exact ⟨_, rfl, HX2.out, HB2.out⟩
end Go.Proofs.YtpfefjfpnmchcaaDoor
