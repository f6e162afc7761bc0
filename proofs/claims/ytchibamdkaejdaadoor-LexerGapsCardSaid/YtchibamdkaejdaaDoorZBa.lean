/-
  The walk of the statements' Mod. Condition: its divisor is from 1 on. The walk of the specification's Digits: a text of few bytes. Condition: the number is from 0 on, and short. Expressions and statements in memory, as far as what prints them wants to know: of finite depth, of bounded weight. No condition. The walks of the generator's tape: next and more. Condition: the tape's row holds integers, and is not the tape itself. Expressions whose rows lie above a base: what stands below may be written without harm to them. No condition. The walks of the generator's literal, variable and number. Condition: the tape. The generator's maker in memory, and the walk of fresh. Condition: few names have been made. The walks of the generator's expr and element. Conditions: the maker, the tape, its rows of names. The store of an expression into a result's cell as one step; one expression in a row of its own; a name out of a row. Conditions: as they say. The walk of the generator's element. Conditions: the maker, the tape, its rows of names, and what expr does one step deeper. A region that draws its order and ends with stores: what is held of the world is held as long as its first operations have not all come up. No condition. Rows of names that the generator owns; append to such a row as one step: where the row lies behind it. Conditions: as they say. A region that draws its order: what is held of the world may be said more sharply on the way. No condition.
-/
import Derived.Test.YtchibamdkaejdaaDoorZA
import Derived.Test.YtchibamdkaejdaaDoorZLx
import Derived.Laws.BytesArg
import Derived.Laws.Rows
import Derived.Deep.QuietTactic
import Derived.BigQuiet
import Derived.IntWalk
import Derived.Handy
import Derived.Deep.MidRow
import Derived.Deep.RegionHeld3
import Derived.Laws.AppendOwn
namespace Go.Proofs.YtchibamdkaejdaaDoor
open Go.RowKit

theorem mod_pos (n k : Int) (w : World) (hn : 0 ≤ n) (h2 : n < 9223372036854775808) (hk : 1 ≤ k) (hk2 : k < 1000000) (r : Int) (hr : Hid (n % k = r)) : Calls Tryd.prog 11 #[.int .i64 n, .int .i64 k] w fun e w' => e = .returned (.int .i64 r) ∧ w = w' := by
 have h0 : 0 ≤ n % k := Int.emod_nonneg _ (by omega)
 have h3 : n % k < k := Int.emod_lt_of_pos _ (by omega)
 go_enter Tryd.func11, Tryd.ntmps11
 go_wp2
 go_ret
 exact ⟨ret_i64 hr.out, rfl⟩
theorem tmod_neg (n k : Int) (hn : n < 0) (hk : 1 ≤ k) : -k < n.tmod k ∧ n.tmod k ≤ 0 ∧ (n.tmod k = 0 → n % k = 0) ∧ (n.tmod k < 0 → n % k = n.tmod k + k) := by
 have h1 : n.tmod k = -((-n) % k) := by
  rw [show n = -(-n) from by omega, Int.neg_tmod, Int.neg_neg, Int.tmod_eq_emod_of_nonneg (by omega)]
 have h2 : 0 ≤ (-n) % k := Int.emod_nonneg _ (by omega)
 have h3 : (-n) % k < k := Int.emod_lt_of_pos _ (by omega)
 have h4 := Int.mul_ediv_add_emod (-n) k
 have h5 := Int.mul_ediv_add_emod n k
 have h6 : 0 ≤ n % k := Int.emod_nonneg _ (by omega)
 have h7 : n % k < k := Int.emod_lt_of_pos _ (by omega)
 refine ⟨by omega, by omega, fun h => ?_, fun h => ?_⟩
 ·have hz : (-n) % k = 0 := by omega
  rw [Int.neg_emod_eq_sub_emod] at hz
  have : (k ∣ n) := by
   have := Int.dvd_of_emod_eq_zero (show (-n) % k = 0 by omega)
   exact (Int.dvd_neg).1 this
  exact Int.emod_eq_zero_of_dvd this
 ·rw [h1]
  have hd : k * (n / k + (-n) / k + 1) = k - n % k - (-n) % k := by
   rw [Int.mul_add, Int.mul_add]; omega
  have hb : -k < k - n % k - (-n) % k ∧ k - n % k - (-n) % k < k := by omega
  have hz : n / k + (-n) / k + 1 = 0 := by
   rw [← hd] at hb
   have a1 : -1 < n / k + (-n) / k + 1 := by
    apply Int.lt_of_mul_lt_mul_left (a := k) (by rw [Int.mul_neg, Int.mul_one]; exact hb.1) (by omega)
   have a2 : n / k + (-n) / k + 1 < 1 := by
    apply Int.lt_of_mul_lt_mul_left (a := k) (by rw [Int.mul_one]; exact hb.2) (by omega)
   omega
  rw [hz] at hd
  omega
theorem mod_neg (n k : Int) (w : World) (hn : n < 0) (hk : 1 ≤ k) (hk2 : k < 1000000) (r : Int) (hr : Hid (n % k = r)) : Calls Tryd.prog 11 #[.int .i64 n, .int .i64 k] w fun e w' => e = .returned (.int .i64 r) ∧ w = w' := by
 obtain ⟨a1, a2, a3, a4⟩ := tmod_neg n k hn hk
 have HA := Lib.hid a3
 have HB := Lib.hid a4
 clear a3 a4
 by_cases hz : n.tmod k = 0
 ·go_enter Tryd.func11, Tryd.ntmps11
  go_wp2
  go_ret
  exact ⟨ret_i64 (by rw [← hr.out, HA.out hz]; try exact hz), rfl⟩
 ·have hl : n.tmod k < 0 := by omega
  clear hz
  go_enter Tryd.func11, Tryd.ntmps11
  go_wp2
  go_ret
  exact ⟨ret_i64 (by rw [← hr.out, HB.out hl]), rfl⟩
theorem mod_any (n k : Int) (w : World) (h2 : n < 9223372036854775808) (hk : 1 ≤ k) (hk2 : k < 1000000) (r : Int) (hr : Hid (n % k = r)) : Calls Tryd.prog 11 #[.int .i64 n, .int .i64 k] w fun e w' => e = .returned (.int .i64 r) ∧ w = w' := by
 by_cases hn : n < 0
 ·exact mod_neg n k w hn hk hk2 r hr
 ·exact mod_pos n k w (by omega) h2 hk hk2 r hr
end Go.Proofs.YtchibamdkaejdaaDoor
namespace Go.Proofs.YtchibamdkaejdaaDoor
open Go.RowKit

/-- The call has returned a text of at most m bytes, in memory of its own. -/
def Str (w : World) (m : Nat) (e : Ending) (w' : World) : Prop := ∃ s : ByteArray, e = .returned (.string s) ∧ s.size ≤ m ∧ Below w.heap.size w w'

/-- One byte as a text. -/
def oneByte (x : Int) : ByteArray := strOfNums [x]
theorem oneByte_list (x : Int) : (oneByte x).data.toList = [UInt8.ofNat x.toNat] := by simp [oneByte, strOfNums]
theorem oneByte_size (x : Int) : (oneByte x).size = 1 := by simp [oneByte, strOfNums, ByteArray.size]
theorem conv_one (w : World) (x : Int) (b : Nat) (hc : w.cell? ⟨b, 0, none⟩ = some (.int .u8 x)) : (convert 29 9 (.slice (some ⟨b, 0, none⟩) 1 1)).run Tryd.prog w = .ok (.string (oneByte x)) w :=
 run_convert_bytes_arg (P := Tryd.prog) w 29 5 Tryd.underlying29 Tryd.underlying5 b 0 1 1 [x] rfl (fun i hi => by
  obtain rfl : i = 0 := by omega
  exact hc) 9 Tryd.underlying9
set_option maxRecDepth 100000 in
theorem digit_one (n : Nat) (w : World) (hn : n < 10) : Calls Tryd.prog 38 #[.int .i64 n] w (Str w 1) := by
 have hconv := conv_one (w.alloc (.cells #[.int .u8 (48 + (n : Int))] 5)) (48 + (n : Int)) w.heap.size (by rw [World.cell?_alloc_at _ _ _ _ rfl]; rfl)
 obtain ⟨s, hs⟩ : ∃ s, Hid (oneByte (48 + (n : Int)) = s) := ⟨_, Lib.hid rfl⟩
 rw [hs.out] at hconv
 have hz : s.size = 1 := by rw [← hs.out]; exact oneByte_size _
 have HZ := Lib.hid hz
 clear hz
 go_enter Tryd.func38, Tryd.ntmps38
 go_wp2_with fail
 go_ret
 exact ⟨s, rfl, by rw [HZ.out]; exact Nat.le_refl _, (Below.refl _ _).alloc (Nat.le_refl _) _⟩

theorem Str.mono {w : World} {m m' : Nat} {e : Ending} {w' : World} (h : Str w m e w') (hm : m ≤ m') : Str w m' e w' := by
 obtain ⟨s, h1, h2, h3⟩ := h
 exact ⟨s, h1, by omega, h3⟩

set_option maxRecDepth 100000 in
theorem digits_any (k : Nat) : ∀ (n : Nat) (w : World), 1 ≤ k → k ≤ 18 → n < 10 ^ k → Calls Tryd.prog 38 #[.int .i64 n] w (Str w k) := by
 induction k with
 | zero => intro n w h; omega
 | succ k ih =>
  intro n w _ hk hn
  have hp : (10 : Nat) ^ (k + 1) ≤ 10 ^ 18 := Nat.pow_le_pow_right (by decide) hk
  have hmax : n < 1000000000000000000 := Nat.lt_of_lt_of_le hn hp
  by_cases h10 : n < 10
  ·exact (digit_one n w h10).mono fun e w' h => h.mono (by omega)
  ·have hk1 : 1 ≤ k := by
    rcases Nat.eq_zero_or_pos k with h0 | h0
    ·subst h0; simp at hn; omega
    ·exact h0
   have H1 := Lib.hid (show n / 10 < 10 ^ k by rw [Nat.div_lt_iff_lt_mul (by decide)]; rw [Nat.pow_succ] at hn; exact hn)
   have H2 := Lib.hid (show n % 10 < 10 by omega)
   have h10' : 10 ≤ n := by omega
   clear hn hp h10
   go_enter Tryd.func38, Tryd.ntmps38
   go_wp2_with fail
   refine (ih (n / 10) _ hk1 (by omega) H1.out).mono ?_
   rintro e w1 ⟨s1, rfl, hs1, hb1⟩
   go_wp2_with fail
   refine (digit_one (n % 10) _ H2.out).mono ?_
   rintro e w2 ⟨s2, rfl, hs2, hb2⟩
   go_wp2_with fail
   go_ret
   exact ⟨_, rfl, by rw [ByteArray.size_append]; omega, hb1.trans (hb2.mono hb1.size)⟩
theorem digits_18 (n : Nat) (w : World) (hn : n < 1000000000000000000) : Calls Tryd.prog 38 #[.int .i64 n] w (Str w 18) := digits_any 18 n w (by omega) (by omega) hn
end Go.Proofs.YtchibamdkaejdaaDoor
namespace Go.Proofs.YtchibamdkaejdaaDoor
open Go.RowKit

/-- The row at A has len structs of 'size' cells; the k-th reads as an aggregate of which P says that it has the k-th weight. -/
def RowsOk (P : Value → Nat → Prop) (w : World) (e : TypeId) (size : Nat) (A : Option Addr) (len cap : Nat) (ns : List Nat) : Prop :=
 ns.length = len ∧ len ≤ cap ∧ cap ≤ maxLen ∧
 (len ≠ 0 → ∃ b cur fr, A = some ⟨b, 0, none⟩ ∧ w.heap[b]? = some (.cells cur e fr) ∧ ∀ k n, ns[k]? = some n → ∃ vs : List Value, vs.length = size ∧ (∀ j, j < size → cur[k * size + j]? = vs[j]?) ∧ P (.agg vs.toArray) n)

/-- An expression of depth below d and weight n. -/
def ExOk (w : World) : Nat → Value → Nat → Prop
 | 0, _, _ => False
 | d + 1, v, n => ∃ (op num : Nat) (vr : Int) (nm fld : ByteArray) (A : Option Addr) (len cap : Nat) (ns : List Nat),
   v = .agg #[.int .i64 op, .int .i64 num, .int .i64 vr, .string nm, .string fld, .slice A len cap] ∧ (op ≤ 17 ∧ (3 ≤ op → 1 ≤ len) ∧ (6 ≤ op → 2 ≤ len)) ∧ num < 1000000000000000000 ∧ nm.size ≤ 20 ∧ fld.size ≤ 20 ∧
   RowsOk (ExOk w d) w 72 6 A len cap ns ∧ n = 1 + ns.sum

/-- A statement of depth below d and weight n; its expressions are of depth below 8. -/
def StOk (w : World) : Nat → Value → Nat → Prop
 | 0, _, _ => False
 | d + 1, v, n => ∃ (kind len : Nat) (line id vr callee : Int) (nm ty fn : ByteArray) (A1 A2 A3 A4 : Option Addr) (l1 c1 l2 c2 l3 c3 l4 c4 : Nat) (n1 n2 n3 n4 : List Nat),
   v = .agg #[.int .i64 kind, .int .i64 line, .int .i64 id, .string nm, .string ty, .int .i64 len, .int .i64 vr, .slice A1 l1 c1, .string fn, .int .i64 callee, .slice A2 l2 c2, .slice A3 l3 c3, .slice A4 l4 c4] ∧
   (1 ≤ kind ∧ kind ≤ 10 ∧ (l1 = 0 ∨ kind = 2 ∨ kind = 3)) ∧ len ≤ 100 ∧ nm.size ≤ 20 ∧ ty.size ≤ 20 ∧ fn.size ≤ 20 ∧
   RowsOk (ExOk w 8) w 72 6 A1 l1 c1 n1 ∧ RowsOk (ExOk w 8) w 72 6 A2 l2 c2 n2 ∧
   RowsOk (StOk w d) w 75 13 A3 l3 c3 n3 ∧ RowsOk (StOk w d) w 75 13 A4 l4 c4 n4 ∧ n = 1 + n1.sum + n2.sum + n3.sum + n4.sum

/-- Rows of expressions and of statements stay what they are. -/
def KeptX (w w' : World) : Prop := ∀ (b : Nat) (cur : Array Value) (e : TypeId) (fr : Nat × Nat), (e = 72 ∨ e = 75) → w.heap[b]? = some (.cells cur e fr) → w'.heap[b]? = some (.cells cur e fr)
theorem KeptX.refl (w : World) : KeptX w w := fun _ _ _ _ _ h => h
theorem KeptX.trans {a b c : World} (h : KeptX a b) (k : KeptX b c) : KeptX a c := fun x cur e fr he hx => k x cur e fr he (h x cur e fr he hx)
theorem KeptX.below {w w' : World} (h : Below w.heap.size w w') : KeptX w w' := fun b _ _ _ _ hb => (h.block b (Array.getElem?_eq_some_iff.1 hb).1).trans hb

section
variable {w w' : World}
theorem RowsOk.keep {P P' : Value → Nat → Prop} {e : TypeId} {size len cap : Nat} {A : Option Addr} {ns : List Nat} (he : e = 72 ∨ e = 75) (hk : KeptX w w') (hp : ∀ v n, P v n → P' v n) (h : RowsOk P w e size A len cap ns) : RowsOk P' w' e size A len cap ns := by
 obtain ⟨h1, h2, h3, h4⟩ := h
 refine ⟨h1, h2, h3, fun hl => ?_⟩
 obtain ⟨b, cur, fr, hA, hb, hc⟩ := h4 hl
 refine ⟨b, cur, fr, hA, hk b cur e fr he hb, fun k n hkn => ?_⟩
 obtain ⟨vs, hl, hcell, hP⟩ := hc k n hkn
 exact ⟨vs, hl, hcell, hp _ _ hP⟩
theorem ExOk.keep (hk : KeptX w w') : ∀ {d : Nat} {v : Value} {n : Nat}, ExOk w d v n → ExOk w' d v n
 | 0, _, _, h => h.elim
 | d + 1, v, n, h => by
  obtain ⟨op, num, vr, nm, fld, A, len, cap, ns, h1, h2, h3, h4, h5, h6, h7⟩ := h
  exact ⟨op, num, vr, nm, fld, A, len, cap, ns, h1, h2, h3, h4, h5, h6.keep (.inl rfl) hk (fun v n hv => ExOk.keep hk hv), h7⟩
theorem StOk.keep (hk : KeptX w w') : ∀ {d : Nat} {v : Value} {n : Nat}, StOk w d v n → StOk w' d v n
 | 0, _, _, h => h.elim
 | d + 1, v, n, h => by
  obtain ⟨kind, len, line, id, vr, callee, nm, ty, fn, A1, A2, A3, A4, l1, c1, l2, c2, l3, c3, l4, c4, n1, n2, n3, n4, h1, h2, h3, h4, h5, h6, r1, r2, r3, r4, h7⟩ := h
  exact ⟨kind, len, line, id, vr, callee, nm, ty, fn, A1, A2, A3, A4, l1, c1, l2, c2, l3, c3, l4, c4, n1, n2, n3, n4, h1, h2, h3, h4, h5, h6, r1.keep (.inl rfl) hk (fun v n hv => ExOk.keep hk hv), r2.keep (.inl rfl) hk (fun v n hv => ExOk.keep hk hv),
   r3.keep (.inr rfl) hk (fun v n hv => StOk.keep hk hv), r4.keep (.inr rfl) hk (fun v n hv => StOk.keep hk hv), h7⟩
theorem RowsOk.up {P P' : Value → Nat → Prop} {e : TypeId} {size len cap : Nat} {A : Option Addr} {ns : List Nat} (hp : ∀ v n, P v n → P' v n) (h : RowsOk P w e size A len cap ns) : RowsOk P' w e size A len cap ns := by
 obtain ⟨h1, h2, h3, h4⟩ := h
 refine ⟨h1, h2, h3, fun hl => ?_⟩
 obtain ⟨b, cur, fr, hA, hb, hc⟩ := h4 hl
 refine ⟨b, cur, fr, hA, hb, fun k n hkn => ?_⟩
 obtain ⟨vs, hl, hcell, hP⟩ := hc k n hkn
 exact ⟨vs, hl, hcell, hp _ _ hP⟩
theorem ExOk.up : ∀ {d : Nat} {v : Value} {n : Nat}, ExOk w d v n → ExOk w (d + 1) v n
 | 0, _, _, h => h.elim
 | d + 1, v, n, h => by
  obtain ⟨op, num, vr, nm, fld, A, len, cap, ns, h1, h2, h3, h4, h5, h6, h7⟩ := h
  exact ⟨op, num, vr, nm, fld, A, len, cap, ns, h1, h2, h3, h4, h5, h6.up (fun v n hv => ExOk.up hv), h7⟩
theorem ExOk.le {d d' : Nat} {v : Value} {n : Nat} (h : ExOk w d v n) (hd : d ≤ d') : ExOk w d' v n := by
 induction hd with
 | refl => exact h
 | step _ ih => exact ih.up
theorem StOk.up : ∀ {d : Nat} {v : Value} {n : Nat}, StOk w d v n → StOk w (d + 1) v n
 | 0, _, _, h => h.elim
 | d + 1, v, n, h => by
  obtain ⟨kind, len, line, id, vr, callee, nm, ty, fn, A1, A2, A3, A4, l1, c1, l2, c2, l3, c3, l4, c4, n1, n2, n3, n4, h1, h2, h3, h4, h5, h6, r1, r2, r3, r4, h7⟩ := h
  exact ⟨kind, len, line, id, vr, callee, nm, ty, fn, A1, A2, A3, A4, l1, c1, l2, c2, l3, c3, l4, c4, n1, n2, n3, n4, h1, h2, h3, h4, h5, h6, r1, r2, r3.up (fun v n hv => StOk.up hv), r4.up (fun v n hv => StOk.up hv), h7⟩
theorem StOk.le {d d' : Nat} {v : Value} {n : Nat} (h : StOk w d v n) (hd : d ≤ d') : StOk w d' v n := by
 induction hd with
 | refl => exact h
 | step _ ih => exact ih.up

/-- The k-th expression of a row: where its cells are. -/
theorem RowsOk.arg {d len cap : Nat} {A : Option Addr} {ns : List Nat} (h : RowsOk (ExOk w d) w 72 6 A len cap ns) {k : Nat} (hk : k < len) :
  ∃ (b : Nat) (op num : Nat) (vr : Int) (nm fld : ByteArray) (A' : Option Addr) (len' cap' n : Nat), A = some ⟨b, 0, none⟩ ∧ b < w.heap.size ∧ ns[k]? = some n ∧ ExOk w d (.agg #[.int .i64 op, .int .i64 num, .int .i64 vr, .string nm, .string fld, .slice A' len' cap']) n ∧
   w.cell? ⟨b, k * 6, none⟩ = some (.int .i64 op) ∧ w.cell? ⟨b, k * 6 + 1, none⟩ = some (.int .i64 num) ∧ w.cell? ⟨b, k * 6 + 2, none⟩ = some (.int .i64 vr) ∧ w.cell? ⟨b, k * 6 + 3, none⟩ = some (.string nm) ∧ w.cell? ⟨b, k * 6 + 4, none⟩ = some (.string fld) ∧ w.cell? ⟨b, k * 6 + 5, none⟩ = some (.slice A' len' cap') := by
 obtain ⟨h1, h2, h3, h4⟩ := h
 obtain ⟨b, cur, fr, hA, hb, hc⟩ := h4 (by omega)
 have hkn : ns[k]? = some (ns[k]'(by omega)) := List.getElem?_eq_getElem (by omega)
 obtain ⟨vs, hl, hcell, hP⟩ := hc k _ hkn
 have hx := hP
 cases d with
 | zero => exact hx.elim
 | succ d =>
  obtain ⟨op, num, vr, nm, fld, A', len', cap', ns', e1, _⟩ := hx
  have e2 : vs = [.int .i64 op, .int .i64 num, .int .i64 vr, .string nm, .string fld, .slice A' len' cap'] := by
   injection e1 with e1
   have := congrArg Array.toList e1
   simpa using this
  subst e2
  have hcc : ∀ j, j < 6 → w.cell? ⟨b, k * 6 + j, none⟩ = ([.int .i64 op, .int .i64 num, .int .i64 vr, .string nm, .string fld, .slice A' len' cap'] : List Value)[j]? := fun j hj => by
   rw [cell_of_row w b (k * 6 + j) cur _ fr hb]; exact hcell j hj
  exact ⟨b, op, num, vr, nm, fld, A', len', cap', _, hA, (Array.getElem?_eq_some_iff.1 hb).1, hkn, hP, hcc 0 (by omega), hcc 1 (by omega), hcc 2 (by omega), hcc 3 (by omega), hcc 4 (by omega), hcc 5 (by omega)⟩
/-- The k-th statement of a row: where its cells are. -/
theorem RowsOk.stmt {d len cap : Nat} {A : Option Addr} {ns : List Nat} (h : RowsOk (StOk w d) w 75 13 A len cap ns) {k : Nat} (hk : k < len) :
  ∃ (b : Nat) (kind ln : Nat) (line id vr callee : Int) (nm ty fn : ByteArray) (A1 A2 A3 A4 : Option Addr) (l1 c1 l2 c2 l3 c3 l4 c4 n : Nat), A = some ⟨b, 0, none⟩ ∧ b < w.heap.size ∧ ns[k]? = some n ∧
   StOk w d (.agg #[.int .i64 kind, .int .i64 line, .int .i64 id, .string nm, .string ty, .int .i64 ln, .int .i64 vr, .slice A1 l1 c1, .string fn, .int .i64 callee, .slice A2 l2 c2, .slice A3 l3 c3, .slice A4 l4 c4]) n ∧
   ∀ j, j < 13 → w.cell? ⟨b, k * 13 + j, none⟩ = ([.int .i64 kind, .int .i64 line, .int .i64 id, .string nm, .string ty, .int .i64 ln, .int .i64 vr, .slice A1 l1 c1, .string fn, .int .i64 callee, .slice A2 l2 c2, .slice A3 l3 c3, .slice A4 l4 c4] : List Value)[j]? := by
 obtain ⟨h1, h2, h3, h4⟩ := h
 obtain ⟨b, cur, fr, hA, hb, hc⟩ := h4 (by omega)
 have hkn : ns[k]? = some (ns[k]'(by omega)) := List.getElem?_eq_getElem (by omega)
 obtain ⟨vs, hl, hcell, hP⟩ := hc k _ hkn
 have hx := hP
 cases d with
 | zero => exact hx.elim
 | succ d =>
  obtain ⟨kind, len', line, id, vr, callee, nm, ty, fn, A1, A2, A3, A4, l1, c1, l2, c2, l3, c3, l4, c4, n1, n2, n3, n4, e1, _⟩ := hx
  have e2 : vs = [.int .i64 kind, .int .i64 line, .int .i64 id, .string nm, .string ty, .int .i64 len', .int .i64 vr, .slice A1 l1 c1, .string fn, .int .i64 callee, .slice A2 l2 c2, .slice A3 l3 c3, .slice A4 l4 c4] := by
   injection e1 with e1
   have := congrArg Array.toList e1
   simpa using this
  subst e2
  exact ⟨b, kind, len', line, id, vr, callee, nm, ty, fn, A1, A2, A3, A4, l1, c1, l2, c2, l3, c3, l4, c4, _, hA, (Array.getElem?_eq_some_iff.1 hb).1, hkn, hP, fun j hj => by
   rw [cell_of_row w b (k * 13 + j) cur _ fr hb]; exact hcell j hj⟩
end
theorem sum_at : ∀ (ns : List Nat) (k n : Nat), ns[k]? = some n → n ≤ ns.sum
 | [], k, n, h => by simp at h
 | x :: ns, 0, n, h => by
  obtain rfl : x = n := by simpa using h
  simp
 | x :: ns, k + 1, n, h => by
  have := sum_at ns k n (by simpa using h)
  simp; omega
theorem sum_two : ∀ (ns : List Nat) (a b : Nat), ns[0]? = some a → ns[1]? = some b → a + b ≤ ns.sum
 | [], _, _, h, _ => by simp at h
 | [x], _, _, _, h => by simp at h
 | x :: y :: ns, a, b, h, h' => by
  obtain rfl : x = a := by simpa using h
  obtain rfl : y = b := by simpa using h'
  simp
end Go.Proofs.YtchibamdkaejdaaDoor
namespace Go.Proofs.YtchibamdkaejdaaDoor
open Go.RowKit

/-- The tape at T: its row, where it stands. -/
structure TapeAt (w : World) (T : Nat) (A : Option Addr) (len cap : Nat) (pos : Nat) : Prop where
 block : w.heap[T]? = some (.cells #[.slice A len cap, .int .i64 pos] 64 (0, 0))
 len_le : len ≤ cap
 cap_le : cap ≤ maxLen
 row : ∀ i, i < len → ∃ (b o : Nat) (x : Int), A = some ⟨b, o, none⟩ ∧ b < w.heap.size ∧ b ≠ T ∧ -9223372036854775808 ≤ x ∧ x < 9223372036854775808 ∧ w.cell? ⟨b, o + i, none⟩ = some (.int .i64 x)

/-- Everything but the tape is as it was; the tape stands at 'to'. -/
structure Moved (T : Nat) (A : Option Addr) (len cap : Nat) (to : Nat) (w w' : World) : Prop where
 os : w'.os = w.os
 tape : w'.tape = w.tape
 output : w'.output = w.output
 size : w'.heap.size = w.heap.size
 at_ : w'.heap[T]? = some (.cells #[.slice A len cap, .int .i64 to] 64 (0, 0))
 block : ∀ b, b ≠ T → w'.heap[b]? = w.heap[b]?

theorem drewN_heap (w : World) (n : Nat) : (w.drewN n).heap = w.heap ∧ (w.drewN n).os = w.os ∧ (w.drewN n).tape = w.tape ∧ (w.drewN n).output = w.output := ⟨rfl, rfl, rfl, rfl⟩
theorem TapeAt.moved_drew {w : World} {T : Nat} {A : Option Addr} {len cap pos : Nat} (h : TapeAt w T A len cap pos) (n : Nat) : Moved T A len cap pos w (w.drewN n) := by
 obtain ⟨h1, h2, h3, h4⟩ := drewN_heap w n
 exact ⟨h2, h3, h4, by rw [h1], by rw [h1]; exact h.block, fun b _ => by rw [h1]⟩
theorem TapeAt.moved_set {w : World} {T : Nat} {A : Option Addr} {len cap pos : Nat} (h : TapeAt w T A len cap pos) (n : Nat) (to : Nat) : Moved T A len cap to w ((w.drewN n).setCell ⟨T, 1, none⟩ (.int .i64 to)) := by
 obtain ⟨h1, h2, h3, h4⟩ := drewN_heap w n
 refine ⟨h2, h3, h4, by simp [World.setCell], ?_, fun b hb => ?_⟩
 ·rw [heap_setCell_same (w.drewN n) T 1 _ _ _ (by rw [h1]; exact h.block)]; rfl
 ·rw [heap_setCell_other (w.drewN n) ⟨T, 1, none⟩ b _ hb, h1]
theorem Moved.drew {T : Nat} {A : Option Addr} {len cap to : Nat} {w w' : World} (h : Moved T A len cap to w w') (n : Nat) : Moved T A len cap to w (w'.drewN n) := ⟨h.os, h.tape, h.output, h.size, h.at_, h.block⟩
theorem Moved.cell {T : Nat} {A : Option Addr} {len cap to : Nat} {w w' : World} (h : Moved T A len cap to w w') {b o : Nat} (hb : b ≠ T) : w'.cell? ⟨b, o, none⟩ = w.cell? ⟨b, o, none⟩ := World.cell?_of_block (w := w) (h.block b hb)
theorem Moved.tapeAt {T : Nat} {A : Option Addr} {len cap pos to : Nat} {w w' : World} (h : Moved T A len cap to w w') (t : TapeAt w T A len cap pos) : TapeAt w' T A len cap to :=
 ⟨h.at_, t.len_le, t.cap_le, fun i hi => by
  obtain ⟨b, o, x, h1, h2, h3, h4, h5, h6⟩ := t.row i hi
  exact ⟨b, o, x, h1, by rw [h.size]; exact h2, h3, h4, h5, (h.cell h3).trans h6⟩⟩

set_option maxHeartbeats 1600000 in
set_option maxRecDepth 100000 in
theorem more_any (w : World) (T : Nat) (A : Option Addr) (len cap pos : Nat) (h : TapeAt w T A len cap pos) :
  Calls Tryd.prog 40 #[.pointer (some ⟨T, 0, none⟩)] w fun e w' => e = .returned (.bool (decide (pos < len))) ∧ Moved T A len cap pos w w' := by
 have h1 := h.len_le
 have h2 := h.cap_le
 unfold maxLen at h2
 have g0 : w.cell? ⟨T, 0, none⟩ = some (.slice A len cap) := by rw [cell_of_row w T 0 _ _ _ h.block]; rfl
 have g1 : w.cell? ⟨T, 1, none⟩ = some (.int .i64 pos) := by rw [cell_of_row w T 1 _ _ _ h.block]; rfl
 have HH := Lib.hid h
 clear h
 go_enter Tryd.func40, Tryd.ntmps40
 go_wp2_with fail
 go_quiet (fail)
 go_wp2_with fail
 go_ret
 exact ⟨rfl, HH.out.moved_drew _⟩

set_option maxHeartbeats 1600000 in
set_option maxRecDepth 100000 in
theorem next_any (w : World) (T : Nat) (A : Option Addr) (len cap pos : Nat) (h : TapeAt w T A len cap pos) (k : Int) (hk : 1 ≤ k) (hk2 : k < 1000000) :
  Calls Tryd.prog 25 #[.pointer (some ⟨T, 0, none⟩), .int .i64 k] w fun e w' => ∃ (r : Int) (to : Nat), e = .returned (.int .i64 r) ∧ 0 ≤ r ∧ r < k ∧ Moved T A len cap to w w' := by
 have h1 := h.len_le
 have h2 := h.cap_le
 unfold maxLen at h2
 have g0 : w.cell? ⟨T, 0, none⟩ = some (.slice A len cap) := by rw [cell_of_row w T 0 _ _ _ h.block]; rfl
 have g1 : w.cell? ⟨T, 1, none⟩ = some (.int .i64 pos) := by rw [cell_of_row w T 1 _ _ _ h.block]; rfl
 have HH := Lib.hid h
 by_cases hp : pos < len
 ·obtain ⟨b, o, x, rfl, hb, hbT, hx1, hx2, gx⟩ := h.row pos hp
  have f1 : w.frozen? ⟨T, 1, none⟩ = false := by rw [World.frozen?]; simp only [h.block]; rfl
  clear h
  go_enter Tryd.func25, Tryd.ntmps25
  go_wp2_with fail
  go_quiet (fail)
  go_wp2_with fail
  have hm : Moved T (some ⟨b, o, none⟩) len cap (pos + 1) w ((w.drewN nq).setCell ⟨T, 1, none⟩ (.int .i64 ((pos : Int) + 1))) := HH.out.moved_set nq (pos + 1)
  generalize (w.drewN nq).setCell ⟨T, 1, none⟩ (.int .i64 ((pos : Int) + 1)) = V at hm ⊢
  have e0 : V.cell? ⟨T, 0, none⟩ = some (.slice (some ⟨b, o, none⟩) len cap) := by rw [cell_of_row V T 0 _ _ _ hm.at_]; rfl
  have e1 : V.cell? ⟨T, 1, none⟩ = some (.int .i64 ((pos : Int) + 1)) := by rw [cell_of_row V T 1 _ _ _ hm.at_]; rfl
  have iw : IntKind.i64.wrap (pos : Int) = (pos : Int) := IntWalk.i64_in _ (by omega)
  have i0 : (0 : Int) ≤ (pos : Int) := by omega
  have il : (pos : Int) < (len : Int) := by omega
  have ex := (hm.cell (o := o + pos) hbT).trans gx
  have HM := Lib.hid hm
  clear hm g0 g1 gx f1
  obtain ⟨r, hr⟩ : ∃ r, Hid (x % k = r) := ⟨_, Lib.hid rfl⟩
  go_quiet (first | (go_at_call 11; refine (mod_any x k _ hx2 hk hk2 r hr).mono ?_; rintro e w1 ⟨rfl, rfl⟩; exact ⟨rfl, _, rfl⟩))
  go_wp2_with fail
  go_ret
  exact ⟨r, pos + 1, rfl, by rw [← hr.out]; exact Int.emod_nonneg _ (by omega), by rw [← hr.out]; exact Int.emod_lt_of_pos _ (by omega), HM.out.drew _⟩
 ·clear h
  go_enter Tryd.func25, Tryd.ntmps25
  go_wp2_with fail
  go_quiet (fail)
  go_wp2_with fail
  go_ret
  exact ⟨0, pos, rfl, by omega, by omega, HH.out.moved_drew _⟩
end Go.Proofs.YtchibamdkaejdaaDoor
namespace Go.Proofs.YtchibamdkaejdaaDoor
open Go.RowKit

/-- Rows of expressions and of statements from B on stay what they are. -/
def KeptFrom (B : Nat) (w w' : World) : Prop := ∀ (b : Nat) (cur : Array Value) (e : TypeId) (fr : Nat × Nat), B ≤ b → (e = 72 ∨ e = 75) → w.heap[b]? = some (.cells cur e fr) → w'.heap[b]? = some (.cells cur e fr)
theorem KeptFrom.refl (B : Nat) (w : World) : KeptFrom B w w := fun _ _ _ _ _ _ h => h
theorem KeptFrom.trans {B : Nat} {a b c : World} (h : KeptFrom B a b) (k : KeptFrom B b c) : KeptFrom B a c := fun x cur e fr hB he hx => k x cur e fr hB he (h x cur e fr hB he hx)
theorem KeptX.from {B : Nat} {w w' : World} (h : KeptX w w') : KeptFrom B w w' := fun b cur e fr _ he hb => h b cur e fr he hb
theorem KeptFrom.setCell {B : Nat} {w w' : World} (h : KeptFrom B w w') {a : Addr} (ha : a.block < B) (v : Value) : KeptFrom B w (w'.setCell a v) := fun b cur e fr hB he hb => by
 rw [heap_setCell_other w' a b v (by omega)]
 exact h b cur e fr hB he hb

/-- An expression of depth below d and weight n, whose rows lie from B on. -/
def ExNew (w : World) (B : Nat) : Nat → Value → Nat → Prop
 | 0, _, _ => False
 | d + 1, v, n => ∃ (op num : Nat) (vr : Int) (nm fld : ByteArray) (A : Option Addr) (len cap : Nat) (ns : List Nat),
   v = .agg #[.int .i64 op, .int .i64 num, .int .i64 vr, .string nm, .string fld, .slice A len cap] ∧ (op ≤ 17 ∧ (3 ≤ op → 1 ≤ len) ∧ (6 ≤ op → 2 ≤ len)) ∧ num < 1000000000000000000 ∧ nm.size ≤ 20 ∧ fld.size ≤ 20 ∧
   RowsOk (ExNew w B d) w 72 6 A len cap ns ∧ (len ≠ 0 → ∃ b o, A = some ⟨b, o, none⟩ ∧ B ≤ b) ∧ n = 1 + ns.sum

section
variable {w w' : World} {B : Nat}
theorem ExNew.ok : ∀ {d : Nat} {v : Value} {n : Nat}, ExNew w B d v n → ExOk w d v n
 | 0, _, _, h => h.elim
 | d + 1, v, n, h => by
  obtain ⟨op, num, vr, nm, fld, A, len, cap, ns, h1, h2, h3, h4, h5, h6, _, h7⟩ := h
  exact ⟨op, num, vr, nm, fld, A, len, cap, ns, h1, h2, h3, h4, h5, h6.up (fun v n hv => ExNew.ok hv), h7⟩
theorem ExNew.shape : ∀ {d : Nat} {v : Value} {n : Nat}, ExNew w B d v n → ∃ (op num : Nat) (vr : Int) (nm fld : ByteArray) (A : Option Addr) (len cap : Nat), v = .agg #[.int .i64 op, .int .i64 num, .int .i64 vr, .string nm, .string fld, .slice A len cap]
 | 0, _, _, h => h.elim
 | _ + 1, _, _, h => by
  obtain ⟨op, num, vr, nm, fld, A, len, cap, ns, h1, _⟩ := h
  exact ⟨op, num, vr, nm, fld, A, len, cap, h1⟩
theorem ExNew.keep (hk : KeptFrom B w w') : ∀ {d : Nat} {v : Value} {n : Nat}, ExNew w B d v n → ExNew w' B d v n
 | 0, _, _, h => h.elim
 | d + 1, v, n, h => by
  obtain ⟨op, num, vr, nm, fld, A, len, cap, ns, h1, h2, h3, h4, h5, ⟨r1, r2, r3, r4⟩, h6, h7⟩ := h
  refine ⟨op, num, vr, nm, fld, A, len, cap, ns, h1, h2, h3, h4, h5, ⟨r1, r2, r3, fun hl => ?_⟩, h6, h7⟩
  obtain ⟨b, cur, fr, hA, hb, hc⟩ := r4 hl
  obtain ⟨b', o, hA', hB⟩ := h6 hl
  have e : b' = b := by
   rw [hA] at hA'
   injection hA' with hA'
   injection hA' with hA'
   exact hA'.symm
  rw [e] at hB
  refine ⟨b, cur, fr, hA, hk b cur _ fr hB (.inl rfl) hb, fun k n hkn => ?_⟩
  obtain ⟨vs, hl', hcell, hP⟩ := hc k n hkn
  exact ⟨vs, hl', hcell, ExNew.keep hk hP⟩
theorem ExNew.from {B' : Nat} (hB : B' ≤ B) : ∀ {d : Nat} {v : Value} {n : Nat}, ExNew w B d v n → ExNew w B' d v n
 | 0, _, _, h => h.elim
 | d + 1, v, n, h => by
  obtain ⟨op, num, vr, nm, fld, A, len, cap, ns, h1, h2, h3, h4, h5, h6, h7, h8⟩ := h
  refine ⟨op, num, vr, nm, fld, A, len, cap, ns, h1, h2, h3, h4, h5, h6.up (fun v n hv => ExNew.from hB hv), fun hl => ?_, h8⟩
  obtain ⟨b, o, hA, hb⟩ := h7 hl
  exact ⟨b, o, hA, by omega⟩
theorem ExNew.up : ∀ {d : Nat} {v : Value} {n : Nat}, ExNew w B d v n → ExNew w B (d + 1) v n
 | 0, _, _, h => h.elim
 | d + 1, v, n, h => by
  obtain ⟨op, num, vr, nm, fld, A, len, cap, ns, h1, h2, h3, h4, h5, h6, h7, h8⟩ := h
  exact ⟨op, num, vr, nm, fld, A, len, cap, ns, h1, h2, h3, h4, h5, h6.up (fun v n hv => ExNew.up hv), h7, h8⟩
theorem ExNew.le {d d' : Nat} {v : Value} {n : Nat} (h : ExNew w B d v n) (hd : d ≤ d') : ExNew w B d' v n := by
 induction hd with
 | refl => exact h
 | step _ ih => exact ih.up
end
theorem exNew_leaf (w : World) (B op num : Nat) (vr : Int) (nm fld : ByteArray) (hop : op ≤ 2) (hnum : num < 1000000000000000000) (h1 : nm.size ≤ 20) (h2 : fld.size ≤ 20) : ExNew w B 1 (.agg #[.int .i64 op, .int .i64 num, .int .i64 vr, .string nm, .string fld, .slice none 0 0]) 1 :=
 ⟨op, num, vr, nm, fld, none, 0, 0, [], rfl, ⟨by omega, fun h => by omega, fun h => by omega⟩, hnum, h1, h2, ⟨rfl, Nat.le_refl _, by decide, fun h => absurd rfl h⟩, fun h => absurd rfl h, rfl⟩
end Go.Proofs.YtchibamdkaejdaaDoor
namespace Go.Proofs.YtchibamdkaejdaaDoor
open Go.RowKit

/-- What was there is as it was, but for the tape. -/
structure Grew (T : Nat) (A : Option Addr) (len cap : Nat) (w w' : World) : Prop where
 os : w'.os = w.os
 tape : w'.tape = w.tape
 output : w'.output = w.output
 size : w.heap.size ≤ w'.heap.size
 block : ∀ b, b < w.heap.size → b ≠ T → w'.heap[b]? = w.heap[b]?
 at_ : ∃ to : Nat, w'.heap[T]? = some (.cells #[.slice A len cap, .int .i64 to] 64 (0, 0))

section
variable {T : Nat} {A : Option Addr} {len cap : Nat} {w w' w'' : World}
theorem TapeAt.lt {pos : Nat} (h : TapeAt w T A len cap pos) : T < w.heap.size := (Array.getElem?_eq_some_iff.1 h.block).1
theorem Moved.grew {to : Nat} (h : Moved T A len cap to w w') : Grew T A len cap w w' := ⟨h.os, h.tape, h.output, by rw [h.size]; exact Nat.le_refl _, fun b _ hb => h.block b hb, ⟨to, h.at_⟩⟩
theorem Grew.trans (h : Grew T A len cap w w') (k : Grew T A len cap w' w'') : Grew T A len cap w w'' :=
 ⟨k.os.trans h.os, k.tape.trans h.tape, k.output.trans h.output, Nat.le_trans h.size k.size, fun b hb hT => (k.block b (Nat.lt_of_lt_of_le hb h.size) hT).trans (h.block b hb hT), k.at_⟩
theorem TapeAt.below {pos : Nat} (t : TapeAt w T A len cap pos) (h : Below w.heap.size w w') : Grew T A len cap w w' :=
 ⟨h.os, h.tape, h.output, h.size, fun b hb _ => h.block b hb, ⟨pos, (h.block T t.lt).trans t.block⟩⟩
theorem Grew.cell (h : Grew T A len cap w w') {b o : Nat} (hl : b < w.heap.size) (hb : b ≠ T) : w'.cell? ⟨b, o, none⟩ = w.cell? ⟨b, o, none⟩ := World.cell?_of_block (w := w) (h.block b hl hb)
theorem Grew.tapeAt {pos : Nat} (h : Grew T A len cap w w') (t : TapeAt w T A len cap pos) : ∃ to, TapeAt w' T A len cap to := by
 obtain ⟨to, ht⟩ := h.at_
 refine ⟨to, ht, t.len_le, t.cap_le, fun i hi => ?_⟩
 obtain ⟨b, o, x, h1, h2, h3, h4, h5, h6⟩ := t.row i hi
 exact ⟨b, o, x, h1, Nat.lt_of_lt_of_le h2 h.size, h3, h4, h5, (h.cell h2 h3).trans h6⟩
theorem Grew.keptX {pos : Nat} (h : Grew T A len cap w w') (t : TapeAt w T A len cap pos) : KeptX w w' := fun b cur e fr he hb => by
 have hl := (Array.getElem?_eq_some_iff.1 hb).1
 by_cases hT : b = T
 ·subst hT
  rw [t.block] at hb
  simp only [Option.some.injEq, Obj.cells.injEq] at hb
  rcases he with he | he <;> (rw [he] at hb; exact absurd hb.2.1 (by decide))
 ·exact (h.block b hl hT).trans hb
end

set_option maxRecDepth 100000 in
theorem literal_any (w : World) (n : Nat) :
  Calls Tryd.prog 54 #[.int .i64 n] w fun e w' => e = .returned (.agg #[.int .i64 0, .int .i64 n, .int .i64 0, .string ⟨#[]⟩, .string ⟨#[]⟩, .slice none 0 0]) ∧ Below w.heap.size w w' := by
 go_enter Tryd.func54, Tryd.ntmps54
 go_wp2_with fail
 go_returns
 exact ⟨rfl, by
  first
   | exact (((Below.refl _ _).alloc (Nat.le_refl _) _).setCells (Nat.le_refl _) _ _)
   | exact (Below.refl _ _).alloc (Nat.le_refl _) _⟩
set_option maxRecDepth 100000 in
theorem variable_any (w : World) (s : ByteArray) :
  Calls Tryd.prog 27 #[.string s] w fun e w' => e = .returned (.agg #[.int .i64 1, .int .i64 0, .int .i64 0, .string s, .string ⟨#[]⟩, .slice none 0 0]) ∧ Below w.heap.size w w' := by
 go_enter Tryd.func27, Tryd.ntmps27
 go_wp2_with fail
 go_returns
 exact ⟨rfl, by
  first
   | exact (((Below.refl _ _).alloc (Nat.le_refl _) _).setCells (Nat.le_refl _) _ _)
   | exact (Below.refl _ _).alloc (Nat.le_refl _) _⟩

theorem number_row (V : World) (k : Nat) (hk : k < 16) : ∃ n : Nat, n < 1000000000000000000 ∧ (V.alloc (.cells #[.int .i64 0, .int .i64 1, .int .i64 2, .int .i64 3, .int .i64 5, .int .i64 7, .int .i64 4, .int .i64 10, .int .i64 100, .int .i64 1048576, .int .i64 2147483648, .int .i64 1099511627776, .int .i64 999999999999999999, .int .i64 6, .int .i64 8, .int .i64 9] 3)).cell? ⟨V.heap.size, k, none⟩ = some (.int .i64 n) := by
 rw [World.cell?_alloc_at _ _ _ _ rfl]
 have hk' : k = 0 ∨ k = 1 ∨ k = 2 ∨ k = 3 ∨ k = 4 ∨ k = 5 ∨ k = 6 ∨ k = 7 ∨ k = 8 ∨ k = 9 ∨ k = 10 ∨ k = 11 ∨ k = 12 ∨ k = 13 ∨ k = 14 ∨ k = 15 := by omega
 rcases hk' with rfl | rfl | rfl | rfl | rfl | rfl | rfl | rfl | rfl | rfl | rfl | rfl | rfl | rfl | rfl | rfl
 ·exact ⟨0, by omega, rfl⟩
 ·exact ⟨1, by omega, rfl⟩
 ·exact ⟨2, by omega, rfl⟩
 ·exact ⟨3, by omega, rfl⟩
 ·exact ⟨5, by omega, rfl⟩
 ·exact ⟨7, by omega, rfl⟩
 ·exact ⟨4, by omega, rfl⟩
 ·exact ⟨10, by omega, rfl⟩
 ·exact ⟨100, by omega, rfl⟩
 ·exact ⟨1048576, by omega, rfl⟩
 ·exact ⟨2147483648, by omega, rfl⟩
 ·exact ⟨1099511627776, by omega, rfl⟩
 ·exact ⟨999999999999999999, by omega, rfl⟩
 ·exact ⟨6, by omega, rfl⟩
 ·exact ⟨8, by omega, rfl⟩
 ·exact ⟨9, by omega, rfl⟩

set_option maxHeartbeats 1600000 in
set_option maxRecDepth 100000 in
theorem number_any (w : World) (T : Nat) (A : Option Addr) (len cap pos : Nat) (h : TapeAt w T A len cap pos) :
  Calls Tryd.prog 55 #[.pointer (some ⟨T, 0, none⟩)] w fun e w' => ∃ n : Nat, e = .returned (.int .i64 n) ∧ n < 1000000000000000000 ∧ Grew T A len cap w w' := by
 obtain ⟨V, hV⟩ : ∃ V, Hid (w.alloc (.cells #[.int .i64 0, .int .i64 1, .int .i64 2, .int .i64 3, .int .i64 5, .int .i64 7, .int .i64 4, .int .i64 10, .int .i64 100, .int .i64 1048576, .int .i64 2147483648, .int .i64 1099511627776, .int .i64 999999999999999999, .int .i64 6, .int .i64 8, .int .i64 9] 3) = V) := ⟨_, Lib.hid rfl⟩
 have hwV : Below w.heap.size w V := by rw [← hV.out]; exact (Below.refl _ _).alloc (Nat.le_refl _) _
 have hz : w.heap.size < V.heap.size := by rw [← hV.out]; simp
 have hg := h.below hwV
 obtain ⟨to, hT⟩ := hg.tapeAt h
 have hlt := h.lt
 have hrow := number_row w
 rw [hV.out] at hrow
 have HG := Lib.hid hg
 have HT := Lib.hid hT
 have HROW := Lib.hid hrow
 clear h hg hT hrow hwV
 go_enter Tryd.func55, Tryd.ntmps55
 go_wp2_with fail
 rw [hV.out]
 refine (next_any V T A len cap to HT.out 16 (by omega) (by omega)).mono ?_
 rintro e w1 ⟨r, t2, rfl, hr0, hr1, hm⟩
 obtain ⟨k, rfl⟩ : ∃ k : Nat, r = (k : Int) := ⟨r.toNat, by omega⟩
 obtain ⟨n, hn, hc⟩ := HROW.out k (by omega)
 have hc := (hm.cell (by omega)).trans hc
 have HM := Lib.hid hm
 have hk : k < 16 := by omega
 clear hm
 go_wp2_with fail
 go_ret
 exact ⟨n, rfl, hn, HG.out.trans HM.out.grew⟩
end Go.Proofs.YtchibamdkaejdaaDoor
namespace Go.Proofs.YtchibamdkaejdaaDoor
open Go.RowKit

/-- The maker at M. -/
structure MakerAt (w : World) (M T : Nat) (f funcs count left : Int) (P S Q R : Option Addr) (pl pc sl sc ql qc rl rc : Nat) : Prop where
 block : w.heap[M]? = some (.cells #[.pointer (some ⟨T, 0, none⟩), .int .i64 f, .int .i64 funcs, .slice P pl pc, .slice S sl sc, .slice Q ql qc, .slice R rl rc, .int .i64 count, .int .i64 left] 68 (0, 0))

/-- Everything but the block M is as it was, or new. -/
structure Beside (M : Nat) (w w' : World) : Prop where
 os : w'.os = w.os
 tape : w'.tape = w.tape
 output : w'.output = w.output
 size : w.heap.size ≤ w'.heap.size
 block : ∀ b, b < w.heap.size → b ≠ M → w'.heap[b]? = w.heap[b]?

section
variable {M T : Nat} {w w' : World} {f funcs count left : Int} {P S Q R : Option Addr} {pl pc sl sc ql qc rl rc : Nat}
theorem MakerAt.lt (h : MakerAt w M T f funcs count left P S Q R pl pc sl sc ql qc rl rc) : M < w.heap.size := (Array.getElem?_eq_some_iff.1 h.block).1
theorem MakerAt.cell (h : MakerAt w M T f funcs count left P S Q R pl pc sl sc ql qc rl rc) (j : Nat) (v : Value) (hv : (#[.pointer (some ⟨T, 0, none⟩), .int .i64 f, .int .i64 funcs, .slice P pl pc, .slice S sl sc, .slice Q ql qc, .slice R rl rc, .int .i64 count, .int .i64 left] : Array Value)[j]? = some v) : w.cell? ⟨M, j, none⟩ = some v := by
 rw [cell_of_row w M j _ _ _ h.block]; exact hv
theorem MakerAt.frozen (h : MakerAt w M T f funcs count left P S Q R pl pc sl sc ql qc rl rc) (j : Nat) : w.frozen? ⟨M, j, none⟩ = false := by
 rw [World.frozen?]; simp only [h.block]; simp
theorem MakerAt.counted (h : MakerAt w M T f funcs count left P S Q R pl pc sl sc ql qc rl rc) (to : Int) :
  MakerAt (w.setCell ⟨M, 7, none⟩ (.int .i64 to)) M T f funcs to left P S Q R pl pc sl sc ql qc rl rc ∧ Beside M w (w.setCell ⟨M, 7, none⟩ (.int .i64 to)) :=
 ⟨⟨by rw [heap_setCell_same w M 7 _ _ _ h.block]; rfl⟩, ⟨rfl, rfl, rfl, by simp [World.setCell], fun b _ hb => heap_setCell_other w ⟨M, 7, none⟩ b _ hb⟩⟩
end
theorem Beside.below {M : Nat} {w w' w'' : World} (h : Beside M w w') (k : Below w'.heap.size w' w'') : Beside M w w'' :=
 ⟨k.os.trans h.os, k.tape.trans h.tape, k.output.trans h.output, Nat.le_trans h.size k.size, fun b hb hM => (k.block b (Nat.lt_of_lt_of_le hb h.size)).trans (h.block b hb hM)⟩

set_option maxHeartbeats 1600000 in
set_option maxRecDepth 100000 in
theorem fresh_any (w : World) (M T : Nat) (f funcs : Int) (count : Nat) (left : Int) (P S Q R : Option Addr) (pl pc sl sc ql qc rl rc : Nat) (h : MakerAt w M T f funcs count left P S Q R pl pc sl sc ql qc rl rc) (hc : count < 1000000) :
  Calls Tryd.prog 45 #[.pointer (some ⟨M, 0, none⟩)] w fun e w' => ∃ s : ByteArray, e = .returned (.string s) ∧ s.size ≤ 20 ∧ MakerAt w' M T f funcs (count + 1 : Nat) left P S Q R pl pc sl sc ql qc rl rc ∧ Beside M w w' := by
 have g7 := h.cell 7 (.int .i64 count) rfl
 have f7 := h.frozen 7
 obtain ⟨hm, hb⟩ := h.counted ((count : Int) + 1)
 have z : (⟨#[118]⟩ : ByteArray).size = 1 := rfl
 obtain ⟨V, hV⟩ : ∃ V, Hid (w.setCell ⟨M, 7, none⟩ (.int .i64 ((count : Int) + 1)) = V) := ⟨_, Lib.hid rfl⟩
 rw [hV.out] at hm hb
 have e7 := hm.cell 7 (.int .i64 ((count : Int) + 1)) rfl
 have HM := Lib.hid hm
 have HB := Lib.hid hb
 clear h hm hb
 go_enter Tryd.func45, Tryd.ntmps45
 go_wp2_with fail
 rw [hV.out]
 go_wp2_with fail
 refine (digits_18 (count + 1) _ (by omega)).mono ?_
 rintro e w1 ⟨s1, rfl, hs1, hb1⟩
 go_wp2_with fail
 go_ret
 exact ⟨_, rfl, by rw [ByteArray.size_append]; omega, ⟨(hb1.block M HM.out.lt).trans HM.out.block⟩, HB.out.below hb1⟩
end Go.Proofs.YtchibamdkaejdaaDoor
namespace Go.Proofs.YtchibamdkaejdaaDoor
open Go.RowKit

/-- A row of short names that is not the tape. -/
def NameRow (w : World) (T : Nat) (A : Option Addr) (len cap : Nat) : Prop :=
 len ≤ cap ∧ cap ≤ maxLen ∧ len ≤ 1000 ∧ (len ≠ 0 → ∃ b, A = some ⟨b, 0, none⟩ ∧ b < w.heap.size ∧ b ≠ T ∧ ∀ k, k < len → ∃ s : ByteArray, s.size ≤ 20 ∧ w.cell? ⟨b, k, none⟩ = some (.string s))

/-- What a maker is. -/
structure Mk where
 M : Nat
 T : Nat
 f : Int
 funcs : Int
 count : Int
 left : Int
 P : Option Addr
 S : Option Addr
 Q : Option Addr
 R : Option Addr
 pl : Nat
 pc : Nat
 sl : Nat
 sc : Nat
 ql : Nat
 qc : Nat
 rl : Nat
 rc : Nat
 A : Option Addr
 len : Nat
 cap : Nat

/-- The maker, its tape and its names in memory. -/
structure Ctx (m : Mk) (w : World) : Prop where
 maker : MakerAt w m.M m.T m.f m.funcs m.count m.left m.P m.S m.Q m.R m.pl m.pc m.sl m.sc m.ql m.qc m.rl m.rc
 tape : ∃ pos, TapeAt w m.T m.A m.len m.cap pos
 s : NameRow w m.T m.S m.sl m.sc
 q : NameRow w m.T m.Q m.ql m.qc
 r : NameRow w m.T m.R m.rl m.rc

section
variable {m : Mk} {w w' : World}
theorem Ctx.ne (h : Ctx m w) : m.M ≠ m.T := fun e => by
 obtain ⟨pos, ht⟩ := h.tape
 have h1 := h.maker.block
 rw [e, ht.block] at h1
 simp only [Option.some.injEq, Obj.cells.injEq] at h1
 exact absurd h1.2.1 (by decide)
theorem NameRow.grew {T : Nat} {A A' : Option Addr} {len cap len' cap' : Nat} (h : NameRow w T A' len' cap') (g : Grew T A len cap w w') : NameRow w' T A' len' cap' := by
 obtain ⟨h1, h2, h3, h4⟩ := h
 refine ⟨h1, h2, h3, fun hl => ?_⟩
 obtain ⟨b, e, hb, hT, hc⟩ := h4 hl
 refine ⟨b, e, Nat.lt_of_lt_of_le hb g.size, hT, fun k hk => ?_⟩
 obtain ⟨s, hs, hcell⟩ := hc k hk
 exact ⟨s, hs, (g.cell hb hT).trans hcell⟩
theorem Ctx.below (h : Ctx m w) (g : Below w.heap.size w w') : Grew m.T m.A m.len m.cap w w' := by
 obtain ⟨pos, ht⟩ := h.tape
 exact ht.below g
theorem Ctx.moved {to : Nat} (_ : Ctx m w) (g : Moved m.T m.A m.len m.cap to w w') : Grew m.T m.A m.len m.cap w w' := g.grew
theorem Ctx.grew (h : Ctx m w) (g : Grew m.T m.A m.len m.cap w w') : Ctx m w' := by
 obtain ⟨pos, ht⟩ := h.tape
 exact ⟨⟨(g.block _ h.maker.lt h.ne).trans h.maker.block⟩, g.tapeAt ht, h.s.grew g, h.q.grew g, h.r.grew g⟩
end

/-- The result's cell, not yet written. -/
def Zero (w : World) (N : Nat) : Prop := w.heap[N]? = some (.cells #[.int .i64 0, .int .i64 0, .int .i64 0, .string ⟨#[]⟩, .string ⟨#[]⟩, .slice none 0 0] 72 (0, 0))
theorem Zero.cells {w : World} {N : Nat} (h : Zero w N) : w.cell? ⟨N, 0, none⟩ = some (.int .i64 0) ∧ w.cell? ⟨N, 1, none⟩ = some (.int .i64 0) ∧ w.cell? ⟨N, 2, none⟩ = some (.int .i64 0) ∧ w.cell? ⟨N, 3, none⟩ = some (.string ⟨#[]⟩) ∧ w.cell? ⟨N, 4, none⟩ = some (.string ⟨#[]⟩) ∧ w.cell? ⟨N, 5, none⟩ = some (.slice none 0 0) :=
 ⟨by rw [cell_of_row w N 0 _ _ _ h]; rfl, by rw [cell_of_row w N 1 _ _ _ h]; rfl, by rw [cell_of_row w N 2 _ _ _ h]; rfl, by rw [cell_of_row w N 3 _ _ _ h]; rfl, by rw [cell_of_row w N 4 _ _ _ h]; rfl, by rw [cell_of_row w N 5 _ _ _ h]; rfl⟩
theorem Zero.frozen {w : World} {N : Nat} (h : Zero w N) : w.frozen? ⟨N, 0, none⟩ = false ∧ w.frozen? ⟨N, 1, none⟩ = false ∧ w.frozen? ⟨N, 2, none⟩ = false ∧ w.frozen? ⟨N, 3, none⟩ = false ∧ w.frozen? ⟨N, 4, none⟩ = false ∧ w.frozen? ⟨N, 5, none⟩ = false :=
 ⟨by have h' : w.heap[N]? = _ := h; rw [World.frozen?]; simp only [h']; rfl, by have h' : w.heap[N]? = _ := h; rw [World.frozen?]; simp only [h']; rfl, by have h' : w.heap[N]? = _ := h; rw [World.frozen?]; simp only [h']; rfl, by have h' : w.heap[N]? = _ := h; rw [World.frozen?]; simp only [h']; rfl, by have h' : w.heap[N]? = _ := h; rw [World.frozen?]; simp only [h']; rfl, by have h' : w.heap[N]? = _ := h; rw [World.frozen?]; simp only [h']; rfl⟩
theorem Grew.setCell {T N : Nat} {A : Option Addr} {len cap : Nat} {w w' : World} (g : Grew T A len cap w w') (hN : w.heap.size ≤ N) (hT : T < w.heap.size) (o : Nat) (v : Value) : Grew T A len cap w (w'.setCell ⟨N, o, none⟩ v) := by
 obtain ⟨to, ht⟩ := g.at_
 exact ⟨g.os, g.tape, g.output, by simp [World.setCell]; exact g.size, fun b hb hbT => (heap_setCell_other w' ⟨N, o, none⟩ b _ (by show b ≠ N; omega)).trans (g.block b hb hbT), ⟨to, (heap_setCell_other w' ⟨N, o, none⟩ T _ (by show T ≠ N; omega)).trans ht⟩⟩

/-- The result's cell, written. -/
def put6 (w : World) (N : Nat) (v0 v1 v2 v3 v4 v5 : Value) : World := (((((w.setCell ⟨N, 0, none⟩ v0).setCell ⟨N, 1, none⟩ v1).setCell ⟨N, 2, none⟩ v2).setCell ⟨N, 3, none⟩ v3).setCell ⟨N, 4, none⟩ v4).setCell ⟨N, 5, none⟩ v5
theorem put6_block {w : World} {N : Nat} (h : Zero w N) (v0 v1 v2 v3 v4 v5 : Value) : (put6 w N v0 v1 v2 v3 v4 v5).heap[N]? = some (.cells #[v0, v1, v2, v3, v4, v5] 72 (0, 0)) := by
 have h0 := heap_setCell_same w N 0 _ _ v0 h
 have h1 := heap_setCell_same _ N 1 _ _ v1 h0
 have h2 := heap_setCell_same _ N 2 _ _ v2 h1
 have h3 := heap_setCell_same _ N 3 _ _ v3 h2
 have h4 := heap_setCell_same _ N 4 _ _ v4 h3
 exact heap_setCell_same _ N 5 _ _ v5 h4
theorem put6_cells {w : World} {N : Nat} (h : Zero w N) (v0 v1 v2 v3 v4 v5 : Value) : (put6 w N v0 v1 v2 v3 v4 v5).cell? ⟨N, 0, none⟩ = some v0 ∧ (put6 w N v0 v1 v2 v3 v4 v5).cell? ⟨N, 1, none⟩ = some v1 ∧ (put6 w N v0 v1 v2 v3 v4 v5).cell? ⟨N, 2, none⟩ = some v2 ∧ (put6 w N v0 v1 v2 v3 v4 v5).cell? ⟨N, 3, none⟩ = some v3 ∧ (put6 w N v0 v1 v2 v3 v4 v5).cell? ⟨N, 4, none⟩ = some v4 ∧ (put6 w N v0 v1 v2 v3 v4 v5).cell? ⟨N, 5, none⟩ = some v5 :=
 have hb := put6_block h v0 v1 v2 v3 v4 v5
 ⟨by rw [cell_of_row _ N 0 _ _ _ hb]; rfl, by rw [cell_of_row _ N 1 _ _ _ hb]; rfl, by rw [cell_of_row _ N 2 _ _ _ hb]; rfl, by rw [cell_of_row _ N 3 _ _ _ hb]; rfl, by rw [cell_of_row _ N 4 _ _ _ hb]; rfl, by rw [cell_of_row _ N 5 _ _ _ hb]; rfl⟩
theorem put6_grew {T N : Nat} {A : Option Addr} {len cap : Nat} {w w' : World} (g : Grew T A len cap w w') (hN : w.heap.size ≤ N) (hT : T < w.heap.size) (v0 v1 v2 v3 v4 v5 : Value) : Grew T A len cap w (put6 w' N v0 v1 v2 v3 v4 v5) :=
 (((((g.setCell hN hT 0 v0).setCell hN hT 1 v1).setCell hN hT 2 v2).setCell hN hT 3 v3).setCell hN hT 4 v4).setCell hN hT 5 v5
theorem put6_kept {B N : Nat} (w : World) (hN : N < B) (v0 v1 v2 v3 v4 v5 : Value) : KeptFrom B w (put6 w N v0 v1 v2 v3 v4 v5) :=
 ((((((KeptFrom.refl B w).setCell (a := ⟨N, 0, none⟩) hN v0).setCell (a := ⟨N, 1, none⟩) hN v1).setCell (a := ⟨N, 2, none⟩) hN v2).setCell (a := ⟨N, 3, none⟩) hN v3).setCell (a := ⟨N, 4, none⟩) hN v4).setCell (a := ⟨N, 5, none⟩) hN v5

/-- What expr does k steps above the deepest. -/
def ExprAt (k : Nat) : Prop := ∀ (m : Mk) (w : World) (deep : Nat), deep + k = 3 → Ctx m w →
 Calls Tryd.prog 42 #[.pointer (some ⟨m.M, 0, none⟩), .int .i64 deep] w fun e w' => ∃ v n, e = .returned v ∧ ExNew w' w.heap.size (k + 1) v n ∧ n + 1 ≤ 2 ^ (k + 1) ∧ Grew m.T m.A m.len m.cap w w'

set_option maxHeartbeats 1600000 in
set_option maxRecDepth 100000 in
theorem expr_zero : ExprAt 0 := by
 intro m w deep hd h
 obtain rfl : deep = 3 := by omega
 obtain ⟨M, T, f, funcs, count, left, P, S, Q, R, pl, pc, sl, sc, ql, qc, rl, rc, A, len, cap⟩ := m
 dsimp only at *
 obtain ⟨V, hV⟩ : ∃ V, Hid (w.alloc (.cells #[.int .i64 0, .int .i64 0, .int .i64 0, .string ⟨#[]⟩, .string ⟨#[]⟩, .slice none 0 0] 72) = V) := ⟨_, Lib.hid rfl⟩
 have hwV : Below w.heap.size w V := by rw [← hV.out]; exact (Below.refl _ _).alloc (Nat.le_refl _) _
 have hblk : Zero V w.heap.size := by rw [← hV.out]; exact Array.getElem?_push_size
 have hg := h.below hwV
 have hc := h.grew hg
 have hz : w.heap.size < V.heap.size := by rw [← hV.out]; simp
 have hM : M < w.heap.size := h.maker.lt
 have hMT : M ≠ T := h.ne
 have hTw : T < w.heap.size := by obtain ⟨pos, ht⟩ := h.tape; exact ht.lt
 have g0 := h.maker.cell 0 (.pointer (some ⟨T, 0, none⟩)) rfl
 have e0 := hc.maker.cell 0 (.pointer (some ⟨T, 0, none⟩)) rfl
 obtain ⟨pos, ht⟩ := hc.tape
 have HT := Lib.hid ht
 have HG := Lib.hid hg
 have HC := Lib.hid hc
 have HB := Lib.hid hblk
 dsimp only at g0 e0
 clear h ht hg hc hwV hblk
 go_enter Tryd.func42, Tryd.ntmps42
 go_wp2_with fail
 rw [hV.out]
 refine (next_any V T A len cap pos HT.out 16 (by omega) (by omega)).mono ?_
 rintro e w1 ⟨r, t1, rfl, hr0, hr1, hm⟩
 have c1 := HC.out.grew hm.grew
 have e0 := c1.maker.cell 0 (.pointer (some ⟨T, 0, none⟩)) rfl
 dsimp only at e0
 have HM := Lib.hid hm
 have HC1 := Lib.hid c1
 clear hm c1
 go_wp2_with fail
 obtain ⟨p1, ht1⟩ := HC1.out.tape
 refine (number_any w1 T A len cap p1 ht1).mono ?_
 rintro e w2 ⟨n, rfl, hn, hg2⟩
 have HG2 := Lib.hid hg2
 clear ht1 hg2
 go_wp2_with fail
 refine (literal_any w2 n).mono ?_
 rintro e w3 ⟨rfl, hb3⟩
 have hgg := (HG.out.trans HM.out.grew).trans (HG2.out)
 have hc3 := HC1.out.grew HG2.out
 have hg3 := hc3.below hb3
 have hblk : Zero w3 w.heap.size := (hb3.block w.heap.size (by have := HG2.out.size; have := HM.out.size; omega)).trans ((HG2.out.block w.heap.size (by have := HM.out.size; omega) (by omega)).trans ((HM.out.block w.heap.size (by omega)).trans HB.out))
 obtain ⟨k0, k1, k2, k3, k4, k5⟩ := hblk.cells
 obtain ⟨f0, f1, f2, f3, f4, f5⟩ := hblk.frozen
 have HG3 := Lib.hid (put6_grew (hgg.trans hg3) (Nat.le_refl _) hTw (.int .i64 0) (.int .i64 n) (.int .i64 0) (.string ⟨#[]⟩) (.string ⟨#[]⟩) (.slice none 0 0))
 have hput := put6_cells hblk (.int .i64 0) (.int .i64 n) (.int .i64 0) (.string ⟨#[]⟩) (.string ⟨#[]⟩) (.slice none 0 0)
 obtain ⟨U, hU⟩ : ∃ U, Hid (put6 w3 w.heap.size (.int .i64 0) (.int .i64 n) (.int .i64 0) (.string ⟨#[]⟩) (.string ⟨#[]⟩) (.slice none 0 0) = U) := ⟨_, Lib.hid rfl⟩
 rw [hU.out] at hput HG3
 have hUu := hU.out
 unfold put6 at hUu
 have HU := Lib.hid hUu
 obtain ⟨u0, u1, u2, u3, u4, u5⟩ := hput
 clear hgg hg3 hc3 hblk hUu
 go_wp2_with fail
 rw [HU.out]
 clear k0 k1 k2 k3 k4 k5
 (try simp only [Exit.inBlock, Exit.then])
 refine bodyPost_ret (by simp [results, Tryd.results42, go_sem, u0, u1, u2, u3, u4, u5]; try rfl) rfl ?_
 exact ⟨_, 1, rfl, exNew_leaf _ _ 0 n 0 _ _ (by omega) hn (by decide) (by decide), by decide, HG3.out⟩
end Go.Proofs.YtchibamdkaejdaaDoor
namespace Go.Proofs.YtchibamdkaejdaaDoor
open Go.RowKit

theorem expr_info : (Tryd.prog.info? 72).map (·.size) = some 6 := by kernel_rfl
/-- The store of an expression into the result's cell, as one step. -/
theorem store_expr {ops : Array Oper} {rest : List Oper} {op : Oper} {a : Act} {w : World} {Q : Exit → Act → World → Prop} (hgd : op.guard = none) (hds : op.dst = none) (x y : Operand) (ho : op.op = .store 72 x y)
  (N : Nat) (i0 i1 i2 : Int) (s3 s4 : ByteArray) (A5 : Option Addr) (l5 c5 : Nat) (hx : a.eval x = .pointer (some ⟨N, 0, none⟩)) (hy : a.eval y = .agg #[.int .i64 i0, .int .i64 i1, .int .i64 i2, .string s3, .string s4, .slice A5 l5 c5]) (hz : Zero w N)
  (U : World) (hU : Hid (put6 w N (.int .i64 i0) (.int .i64 i1) (.int .i64 i2) (.string s3) (.string s4) (.slice A5 l5 c5) = U)) (h : wpList Tryd.prog ops Q rest a U) : wpList Tryd.prog ops Q (op :: rest) a w := by
 obtain ⟨k0, k1, k2, k3, k4, k5⟩ := hz.cells
 obtain ⟨f0, f1, f2, f3, f4, f5⟩ := hz.frozen
 refine wpList_store_mid hgd _ x y ho N 0 _ hx hy (fun j hj => ?_) expr_info (by simp [Value.oneCell']) ?_
 ·have hj' : j = 0 ∨ j = 1 ∨ j = 2 ∨ j = 3 ∨ j = 4 ∨ j = 5 := by
   have : j < 6 := hj
   omega
  rcases hj' with rfl | rfl | rfl | rfl | rfl | rfl
  ·exact ⟨by rw [k0]; rfl, f0⟩
  ·exact ⟨by rw [k1]; rfl, f1⟩
  ·exact ⟨by rw [k2]; rfl, f2⟩
  ·exact ⟨by rw [k3]; rfl, f3⟩
  ·exact ⟨by rw [k4]; rfl, f4⟩
  ·exact ⟨by rw [k5]; rfl, f5⟩
 ·rw [← hU.out] at h
  rw [hds]
  exact h

/-- The same where the region draws its order. -/
theorem wp_store_expr {op : Oper} {a : Act} {w : World} {K : Act → World → Prop} {Q : Exit → Act → World → Prop} (x y : Operand) (ho : op.op = .store 72 x y)
  (N : Nat) (i0 i1 i2 : Int) (s3 s4 : ByteArray) (A5 : Option Addr) (l5 c5 : Nat) (hx : a.eval x = .pointer (some ⟨N, 0, none⟩)) (hy : a.eval y = .agg #[.int .i64 i0, .int .i64 i1, .int .i64 i2, .string s3, .string s4, .slice A5 l5 c5]) (hz : Zero w N)
  (U : World) (hU : Hid (put6 w N (.int .i64 i0) (.int .i64 i1) (.int .i64 i2) (.string s3) (.string s4) (.slice A5 l5 c5) = U)) (h : K (a.put op.dst undef) U) : op.wp Tryd.prog a w K Q := by
 obtain ⟨k0, k1, k2, k3, k4, k5⟩ := hz.cells
 obtain ⟨f0, f1, f2, f3, f4, f5⟩ := hz.frozen
 refine wp_store_mid _ x y ho N 0 _ hx hy (fun j hj => ?_) expr_info (by simp [Value.oneCell']) ?_
 ·have hj' : j = 0 ∨ j = 1 ∨ j = 2 ∨ j = 3 ∨ j = 4 ∨ j = 5 := by
   have : j < 6 := hj
   omega
  rcases hj' with rfl | rfl | rfl | rfl | rfl | rfl
  ·exact ⟨by rw [k0]; rfl, f0⟩
  ·exact ⟨by rw [k1]; rfl, f1⟩
  ·exact ⟨by rw [k2]; rfl, f2⟩
  ·exact ⟨by rw [k3]; rfl, f3⟩
  ·exact ⟨by rw [k4]; rfl, f4⟩
  ·exact ⟨by rw [k5]; rfl, f5⟩
 ·rw [← hU.out] at h
  exact h

/-- One expression in a row of its own. -/
theorem row_one {N B d op num : Nat} {vr : Int} {nm fld : ByteArray} {A : Option Addr} {len cap n : Nat} {U : World} (h : ExNew U B d (.agg #[.int .i64 op, .int .i64 num, .int .i64 vr, .string nm, .string fld, .slice A len cap]) n)
  (hb : U.heap[N]? = some (.cells #[.int .i64 op, .int .i64 num, .int .i64 vr, .string nm, .string fld, .slice A len cap] 72 (0, 0))) :
  RowsOk (ExNew U B d) U 72 6 (some ⟨N, 0, none⟩) 1 1 [n] := by
 refine ⟨rfl, Nat.le_refl _, by decide, fun _ => ⟨N, _, _, rfl, hb, fun k m hk => ?_⟩⟩
 obtain rfl : k = 0 := by
  rcases Nat.eq_zero_or_pos k with h0 | h0
  ·exact h0
  ·rw [List.getElem?_eq_none (by simp; omega)] at hk; exact absurd hk (by simp)
 obtain rfl : n = m := by simpa using hk
 exact ⟨[.int .i64 op, .int .i64 num, .int .i64 vr, .string nm, .string fld, .slice A len cap], rfl, fun j hj => by simp, h⟩

/-- The names of a row. -/
theorem NameRow.open {w : World} {T : Nat} {A : Option Addr} {len cap : Nat} (h : NameRow w T A len cap) (hl : len ≠ 0) : ∃ (b : Nat) (nm : Nat → ByteArray), A = some ⟨b, 0, none⟩ ∧ b < w.heap.size ∧ b ≠ T ∧ len ≤ cap ∧ cap ≤ maxLen ∧ len ≤ 1000 ∧ (∀ k, k < len → (nm k).size ≤ 20) ∧ ∀ k, k < len → w.cell? ⟨b, k, none⟩ = some (.string (nm k)) := by
 obtain ⟨h1, h2, h3, h4⟩ := h
 obtain ⟨b, e, hb, hT, hc⟩ := h4 hl
 refine ⟨b, fun k => if hk : k < len then (hc k hk).choose else ⟨#[]⟩, e, hb, hT, h1, h2, h3, fun k hk => ?_, fun k hk => ?_⟩
 ·simp only [hk, dif_pos]; exact (hc k hk).choose_spec.1
 ·simp only [hk, dif_pos]; exact (hc k hk).choose_spec.2
theorem Grew.drew {T : Nat} {A : Option Addr} {len cap : Nat} {w w' : World} (h : Grew T A len cap w w') : Grew T A len cap w w'.drew := ⟨h.os, h.tape, h.output, h.size, h.block, h.at_⟩
theorem Ctx.drew {m : Mk} {w : World} (h : Ctx m w) : Ctx m w.drew := h.grew (h.below (Below.refl w.heap.size w)).drew
theorem Zero.grew {T : Nat} {A : Option Addr} {len cap N : Nat} {w w' : World} (h : Zero w N) (g : Grew T A len cap w w') (hN : N ≠ T) : Zero w' N := by
 have hl : N < w.heap.size := (Array.getElem?_eq_some_iff.1 h).1
 exact (g.block N hl hN).trans h
/-- The world's two steps behind a leaf in a row of its own: the row is new, the result's cell is written. -/
theorem put_row {m : Mk} {w w3 : World} {N op1 num d n : Nat} {vr o5 : Int} {nm fld nm5 fld5 : ByteArray} {A' : Option Addr} {len' cap' : Nat} (hN : w.heap.size = N) (hTw : m.T < w.heap.size) (hz : Zero w3 N) (hg : Grew m.T m.A m.len m.cap w w3) (hc : Ctx m w3)
  (hex : ExNew w3 (N + 1) d (.agg #[.int .i64 op1, .int .i64 num, .int .i64 vr, .string nm, .string fld, .slice A' len' cap']) n) :
  ∃ W U, Hid (w3.alloc (.cells #[.int .i64 op1, .int .i64 num, .int .i64 vr, .string nm, .string fld, .slice A' len' cap'] 72) = W) ∧ Hid (Zero W N) ∧
   Hid (put6 W N (.int .i64 o5) (.int .i64 0) (.int .i64 0) (.string nm5) (.string fld5) (.slice (some ⟨w3.heap.size, 0, none⟩) 1 1) = U) ∧ Hid (Grew m.T m.A m.len m.cap w U) ∧ Hid (RowsOk (ExNew U N d) U 72 6 (some ⟨w3.heap.size, 0, none⟩) 1 1 [n]) ∧
   U.cell? ⟨N, 0, none⟩ = some (.int .i64 o5) ∧ U.cell? ⟨N, 1, none⟩ = some (.int .i64 0) ∧ U.cell? ⟨N, 2, none⟩ = some (.int .i64 0) ∧ U.cell? ⟨N, 3, none⟩ = some (.string nm5) ∧ U.cell? ⟨N, 4, none⟩ = some (.string fld5) ∧ U.cell? ⟨N, 5, none⟩ = some (.slice (some ⟨w3.heap.size, 0, none⟩) 1 1) ∧ N < w3.heap.size := by
 subst hN
 have hlt : w.heap.size < w3.heap.size := (Array.getElem?_eq_some_iff.1 hz).1
 have h3W : Below w3.heap.size w3 (w3.alloc (.cells #[.int .i64 op1, .int .i64 num, .int .i64 vr, .string nm, .string fld, .slice A' len' cap'] 72)) := (Below.refl _ _).alloc (Nat.le_refl _) _
 have hWb : (w3.alloc (.cells #[.int .i64 op1, .int .i64 num, .int .i64 vr, .string nm, .string fld, .slice A' len' cap'] 72)).heap[w3.heap.size]? = some (.cells #[.int .i64 op1, .int .i64 num, .int .i64 vr, .string nm, .string fld, .slice A' len' cap'] 72 (0, 0)) := Array.getElem?_push_size
 generalize w3.alloc (.cells #[.int .i64 op1, .int .i64 num, .int .i64 vr, .string nm, .string fld, .slice A' len' cap'] 72) = W at *
 have hblk : Zero W w.heap.size := (h3W.block w.heap.size hlt).trans hz
 have hgW := hg.trans (hc.below h3W)
 have hG := put6_grew hgW (Nat.le_refl _) hTw (.int .i64 o5) (.int .i64 0) (.int .i64 0) (.string nm5) (.string fld5) (.slice (some ⟨w3.heap.size, 0, none⟩) 1 1)
 obtain ⟨u0, u1, u2, u3, u4, u5⟩ := put6_cells hblk (.int .i64 o5) (.int .i64 0) (.int .i64 0) (.string nm5) (.string fld5) (.slice (some ⟨w3.heap.size, 0, none⟩) 1 1)
 have hk0 := put6_kept (B := w.heap.size + 1) W (Nat.lt_succ_self _) (.int .i64 o5) (.int .i64 0) (.int .i64 0) (.string nm5) (.string fld5) (.slice (some ⟨w3.heap.size, 0, none⟩) 1 1)
 have hkept := (KeptX.below h3W).from.trans hk0
 have hrow := hk0 w3.heap.size _ _ _ (by omega) (.inl rfl) hWb
 have hx := (hex.keep hkept).from (B' := w.heap.size) (by omega)
 exact ⟨W, _, Lib.hid rfl, Lib.hid hblk, Lib.hid rfl, Lib.hid hG, Lib.hid (row_one hx hrow), u0, u1, u2, u3, u4, u5, hlt⟩
/-- Two expressions in a row of their own. -/
theorem row_two {N B d op1 nu1 op2 nu2 : Nat} {vr1 vr2 : Int} {nm1 fld1 nm2 fld2 : ByteArray} {A1 A2 : Option Addr} {l1 c1 l2 c2 n1 n2 : Nat} {U : World} (h1 : ExNew U B d (.agg #[.int .i64 op1, .int .i64 nu1, .int .i64 vr1, .string nm1, .string fld1, .slice A1 l1 c1]) n1)
  (h2 : ExNew U B d (.agg #[.int .i64 op2, .int .i64 nu2, .int .i64 vr2, .string nm2, .string fld2, .slice A2 l2 c2]) n2)
  (hb : U.heap[N]? = some (.cells #[.int .i64 op1, .int .i64 nu1, .int .i64 vr1, .string nm1, .string fld1, .slice A1 l1 c1, .int .i64 op2, .int .i64 nu2, .int .i64 vr2, .string nm2, .string fld2, .slice A2 l2 c2] 72 (0, 0))) :
  RowsOk (ExNew U B d) U 72 6 (some ⟨N, 0, none⟩) 2 2 [n1, n2] := by
 refine ⟨rfl, Nat.le_refl _, by decide, fun _ => ⟨N, _, _, rfl, hb, fun k m hk => ?_⟩⟩
 have hk2 : k < 2 := (List.getElem?_eq_some_iff.1 hk).1
 have hk' : k = 0 ∨ k = 1 := by omega
 rcases hk' with rfl | rfl
 ·obtain rfl : n1 = m := by simpa using hk
  refine ⟨[.int .i64 op1, .int .i64 nu1, .int .i64 vr1, .string nm1, .string fld1, .slice A1 l1 c1], rfl, fun j hj => ?_, h1⟩
  have hj' : j = 0 ∨ j = 1 ∨ j = 2 ∨ j = 3 ∨ j = 4 ∨ j = 5 := by omega
  rcases hj' with rfl | rfl | rfl | rfl | rfl | rfl <;> rfl
 ·obtain rfl : n2 = m := by simpa using hk
  refine ⟨[.int .i64 op2, .int .i64 nu2, .int .i64 vr2, .string nm2, .string fld2, .slice A2 l2 c2], rfl, fun j hj => ?_, h2⟩
  have hj' : j = 0 ∨ j = 1 ∨ j = 2 ∨ j = 3 ∨ j = 4 ∨ j = 5 := by omega
  rcases hj' with rfl | rfl | rfl | rfl | rfl | rfl <;> rfl
/-- The same with two expressions in the row. -/
theorem put_row2 {m : Mk} {w w3 : World} {N op1 nu1 op2 nu2 d n1 n2 : Nat} {vr1 vr2 o5 : Int} {nm1 fld1 nm2 fld2 nm5 fld5 : ByteArray} {A1 A2 : Option Addr} {l1 c1 l2 c2 : Nat} (hN : w.heap.size = N) (hTw : m.T < w.heap.size) (hz : Zero w3 N) (hg : Grew m.T m.A m.len m.cap w w3) (hc : Ctx m w3)
  (h1 : ExNew w3 (N + 1) d (.agg #[.int .i64 op1, .int .i64 nu1, .int .i64 vr1, .string nm1, .string fld1, .slice A1 l1 c1]) n1) (h2 : ExNew w3 (N + 1) d (.agg #[.int .i64 op2, .int .i64 nu2, .int .i64 vr2, .string nm2, .string fld2, .slice A2 l2 c2]) n2) :
  ∃ W U, Hid (w3.alloc (.cells #[.int .i64 op1, .int .i64 nu1, .int .i64 vr1, .string nm1, .string fld1, .slice A1 l1 c1, .int .i64 op2, .int .i64 nu2, .int .i64 vr2, .string nm2, .string fld2, .slice A2 l2 c2] 72) = W) ∧ Hid (Zero W N) ∧
   Hid (put6 W N (.int .i64 o5) (.int .i64 0) (.int .i64 0) (.string nm5) (.string fld5) (.slice (some ⟨w3.heap.size, 0, none⟩) 2 2) = U) ∧ Hid (Grew m.T m.A m.len m.cap w U) ∧ Hid (RowsOk (ExNew U N d) U 72 6 (some ⟨w3.heap.size, 0, none⟩) 2 2 [n1, n2]) ∧
   U.cell? ⟨N, 0, none⟩ = some (.int .i64 o5) ∧ U.cell? ⟨N, 1, none⟩ = some (.int .i64 0) ∧ U.cell? ⟨N, 2, none⟩ = some (.int .i64 0) ∧ U.cell? ⟨N, 3, none⟩ = some (.string nm5) ∧ U.cell? ⟨N, 4, none⟩ = some (.string fld5) ∧ U.cell? ⟨N, 5, none⟩ = some (.slice (some ⟨w3.heap.size, 0, none⟩) 2 2) ∧ N < w3.heap.size := by
 subst hN
 have hlt : w.heap.size < w3.heap.size := (Array.getElem?_eq_some_iff.1 hz).1
 have h3W : Below w3.heap.size w3 (w3.alloc (.cells #[.int .i64 op1, .int .i64 nu1, .int .i64 vr1, .string nm1, .string fld1, .slice A1 l1 c1, .int .i64 op2, .int .i64 nu2, .int .i64 vr2, .string nm2, .string fld2, .slice A2 l2 c2] 72)) := (Below.refl _ _).alloc (Nat.le_refl _) _
 have hWb : (w3.alloc (.cells #[.int .i64 op1, .int .i64 nu1, .int .i64 vr1, .string nm1, .string fld1, .slice A1 l1 c1, .int .i64 op2, .int .i64 nu2, .int .i64 vr2, .string nm2, .string fld2, .slice A2 l2 c2] 72)).heap[w3.heap.size]? = some (.cells #[.int .i64 op1, .int .i64 nu1, .int .i64 vr1, .string nm1, .string fld1, .slice A1 l1 c1, .int .i64 op2, .int .i64 nu2, .int .i64 vr2, .string nm2, .string fld2, .slice A2 l2 c2] 72 (0, 0)) := Array.getElem?_push_size
 generalize w3.alloc (.cells #[.int .i64 op1, .int .i64 nu1, .int .i64 vr1, .string nm1, .string fld1, .slice A1 l1 c1, .int .i64 op2, .int .i64 nu2, .int .i64 vr2, .string nm2, .string fld2, .slice A2 l2 c2] 72) = W at *
 have hblk : Zero W w.heap.size := (h3W.block w.heap.size hlt).trans hz
 have hgW := hg.trans (hc.below h3W)
 have hG := put6_grew hgW (Nat.le_refl _) hTw (.int .i64 o5) (.int .i64 0) (.int .i64 0) (.string nm5) (.string fld5) (.slice (some ⟨w3.heap.size, 0, none⟩) 2 2)
 obtain ⟨u0, u1, u2, u3, u4, u5⟩ := put6_cells hblk (.int .i64 o5) (.int .i64 0) (.int .i64 0) (.string nm5) (.string fld5) (.slice (some ⟨w3.heap.size, 0, none⟩) 2 2)
 have hk0 := put6_kept (B := w.heap.size + 1) W (Nat.lt_succ_self _) (.int .i64 o5) (.int .i64 0) (.int .i64 0) (.string nm5) (.string fld5) (.slice (some ⟨w3.heap.size, 0, none⟩) 2 2)
 have hkept := (KeptX.below h3W).from.trans hk0
 have hrow := hk0 w3.heap.size _ _ _ (by omega) (.inl rfl) hWb
 have hx1 := (h1.keep hkept).from (B' := w.heap.size) (by omega)
 have hx2 := (h2.keep hkept).from (B' := w.heap.size) (by omega)
 exact ⟨W, _, Lib.hid rfl, Lib.hid hblk, Lib.hid rfl, Lib.hid hG, Lib.hid (row_two hx1 hx2 hrow), u0, u1, u2, u3, u4, u5, hlt⟩
/-- A leaf in the result's cell. -/
theorem put_leaf {m : Mk} {w w3 : World} {N : Nat} {o0 o1 : Int} {nm5 fld5 : ByteArray} (hN : w.heap.size = N) (hTw : m.T < w.heap.size) (hz : Zero w3 N) (hg : Grew m.T m.A m.len m.cap w w3) :
  ∃ U, Hid (put6 w3 N (.int .i64 o0) (.int .i64 o1) (.int .i64 0) (.string nm5) (.string fld5) (.slice none 0 0) = U) ∧ Hid (Grew m.T m.A m.len m.cap w U) ∧
   U.cell? ⟨N, 0, none⟩ = some (.int .i64 o0) ∧ U.cell? ⟨N, 1, none⟩ = some (.int .i64 o1) ∧ U.cell? ⟨N, 2, none⟩ = some (.int .i64 0) ∧ U.cell? ⟨N, 3, none⟩ = some (.string nm5) ∧ U.cell? ⟨N, 4, none⟩ = some (.string fld5) ∧ U.cell? ⟨N, 5, none⟩ = some (.slice none 0 0) := by
 subst hN
 obtain ⟨u0, u1, u2, u3, u4, u5⟩ := put6_cells hz (.int .i64 o0) (.int .i64 o1) (.int .i64 0) (.string nm5) (.string fld5) (.slice none 0 0)
 exact ⟨_, Lib.hid rfl, Lib.hid (put6_grew hg (Nat.le_refl _) hTw (.int .i64 o0) (.int .i64 o1) (.int .i64 0) (.string nm5) (.string fld5) (.slice none 0 0)), u0, u1, u2, u3, u4, u5⟩
/-- Any expression in the result's cell. -/
theorem put_any {m : Mk} {w w3 : World} {N op1 num d n : Nat} {vr : Int} {nm fld : ByteArray} {A' : Option Addr} {len' cap' : Nat} (hN : w.heap.size = N) (hTw : m.T < w.heap.size) (hz : Zero w3 N) (hg : Grew m.T m.A m.len m.cap w w3)
  (hex : ExNew w3 (N + 1) d (.agg #[.int .i64 op1, .int .i64 num, .int .i64 vr, .string nm, .string fld, .slice A' len' cap']) n) :
  ∃ U, Hid (put6 w3 N (.int .i64 op1) (.int .i64 num) (.int .i64 vr) (.string nm) (.string fld) (.slice A' len' cap') = U) ∧ Hid (Grew m.T m.A m.len m.cap w U) ∧ Hid (ExNew U N d (.agg #[.int .i64 op1, .int .i64 num, .int .i64 vr, .string nm, .string fld, .slice A' len' cap']) n) ∧
   U.cell? ⟨N, 0, none⟩ = some (.int .i64 op1) ∧ U.cell? ⟨N, 1, none⟩ = some (.int .i64 num) ∧ U.cell? ⟨N, 2, none⟩ = some (.int .i64 vr) ∧ U.cell? ⟨N, 3, none⟩ = some (.string nm) ∧ U.cell? ⟨N, 4, none⟩ = some (.string fld) ∧ U.cell? ⟨N, 5, none⟩ = some (.slice A' len' cap') := by
 subst hN
 obtain ⟨u0, u1, u2, u3, u4, u5⟩ := put6_cells hz (.int .i64 op1) (.int .i64 num) (.int .i64 vr) (.string nm) (.string fld) (.slice A' len' cap')
 exact ⟨_, Lib.hid rfl, Lib.hid (put6_grew hg (Nat.le_refl _) hTw _ _ _ _ _ _), Lib.hid ((hex.keep (put6_kept _ (Nat.lt_succ_self _) _ _ _ _ _ _)).from (by omega)), u0, u1, u2, u3, u4, u5⟩
theorem Zero.drew {w : World} {N : Nat} (h : Zero w N) : Zero w.drew N := h
theorem ExNew.drew {w : World} {B d n : Nat} {v : Value} (h : ExNew w B d v n) : ExNew w.drew B d v n := h.keep (show KeptFrom B w w.drew from fun _ _ _ _ _ _ hb => hb)
theorem Zero.alloc {w : World} {N : Nat} (h : Zero w N) (o : Obj) : Zero (w.alloc o) N := (((Below.refl w.heap.size w).alloc (Nat.le_refl _) o).block N (Array.getElem?_eq_some_iff.1 h).1).trans h
theorem Zero.allocs {w : World} {N : Nat} (h : Zero w N) : (∀ o, (w.alloc o).cell? ⟨N, 0, none⟩ = some (.int .i64 0)) ∧ (∀ o, (w.alloc o).cell? ⟨N, 1, none⟩ = some (.int .i64 0)) ∧ (∀ o, (w.alloc o).cell? ⟨N, 2, none⟩ = some (.int .i64 0)) ∧ (∀ o, (w.alloc o).cell? ⟨N, 3, none⟩ = some (.string ⟨#[]⟩)) ∧ (∀ o, (w.alloc o).cell? ⟨N, 4, none⟩ = some (.string ⟨#[]⟩)) ∧ (∀ o, (w.alloc o).cell? ⟨N, 5, none⟩ = some (.slice none 0 0)) ∧ (∀ o, (w.alloc o).frozen? ⟨N, 0, none⟩ = false) ∧ (∀ o, (w.alloc o).frozen? ⟨N, 1, none⟩ = false) ∧ (∀ o, (w.alloc o).frozen? ⟨N, 2, none⟩ = false) ∧ (∀ o, (w.alloc o).frozen? ⟨N, 3, none⟩ = false) ∧ (∀ o, (w.alloc o).frozen? ⟨N, 4, none⟩ = false) ∧ (∀ o, (w.alloc o).frozen? ⟨N, 5, none⟩ = false) :=
 ⟨fun o => (h.alloc o).cells.1, fun o => (h.alloc o).cells.2.1, fun o => (h.alloc o).cells.2.2.1, fun o => (h.alloc o).cells.2.2.2.1, fun o => (h.alloc o).cells.2.2.2.2.1, fun o => (h.alloc o).cells.2.2.2.2.2, fun o => (h.alloc o).frozen.1, fun o => (h.alloc o).frozen.2.1, fun o => (h.alloc o).frozen.2.2.1, fun o => (h.alloc o).frozen.2.2.2.1, fun o => (h.alloc o).frozen.2.2.2.2.1, fun o => (h.alloc o).frozen.2.2.2.2.2⟩
/-- A binary operation's last steps: its second operand is made, its row, its result. -/
theorem put_bin {m : Mk} {w X w4 : World} {N x op1 nu1 op2 nu2 d n1 n2 : Nat} {vr1 vr2 o5 : Int} {nm1 fld1 nm2 fld2 : ByteArray} {A1 A2 : Option Addr} {l1 c1 l2 c2 : Nat} (hN : w.heap.size = N) (hTw : m.T < w.heap.size) (hz : Zero X N) (hg : Grew m.T m.A m.len m.cap w X) (hc : Ctx m X)
  (h1 : ExNew X (N + 1) d (.agg #[.int .i64 op1, .int .i64 nu1, .int .i64 vr1, .string nm1, .string fld1, .slice A1 l1 c1]) n1) (h2 : ExNew w4 X.heap.size d (.agg #[.int .i64 op2, .int .i64 nu2, .int .i64 vr2, .string nm2, .string fld2, .slice A2 l2 c2]) n2)
  (hg4 : Grew m.T m.A m.len m.cap X w4) (hx : x < X.heap.size) (hNX : N < X.heap.size) (hxT : x ≠ m.T) (hxN : x ≠ N)
  (hS : X.cell? ⟨x, 0, none⟩ = some (.int .i64 op1) ∧ X.cell? ⟨x, 1, none⟩ = some (.int .i64 nu1) ∧ X.cell? ⟨x, 2, none⟩ = some (.int .i64 vr1) ∧ X.cell? ⟨x, 3, none⟩ = some (.string nm1) ∧ X.cell? ⟨x, 4, none⟩ = some (.string fld1) ∧ X.cell? ⟨x, 5, none⟩ = some (.slice A1 l1 c1)) :
  ∃ W U, Hid (w4.alloc (.cells #[.int .i64 op1, .int .i64 nu1, .int .i64 vr1, .string nm1, .string fld1, .slice A1 l1 c1, .int .i64 op2, .int .i64 nu2, .int .i64 vr2, .string nm2, .string fld2, .slice A2 l2 c2] 72) = W) ∧ Hid (Zero W N) ∧
   Hid (put6 W N (.int .i64 o5) (.int .i64 0) (.int .i64 0) (.string ⟨#[]⟩) (.string ⟨#[]⟩) (.slice (some ⟨w4.heap.size, 0, none⟩) 2 2) = U) ∧ Hid (Grew m.T m.A m.len m.cap w U) ∧ Hid (RowsOk (ExNew U N d) U 72 6 (some ⟨w4.heap.size, 0, none⟩) 2 2 [n1, n2]) ∧
   U.cell? ⟨N, 0, none⟩ = some (.int .i64 o5) ∧ U.cell? ⟨N, 1, none⟩ = some (.int .i64 0) ∧ U.cell? ⟨N, 2, none⟩ = some (.int .i64 0) ∧ U.cell? ⟨N, 3, none⟩ = some (.string ⟨#[]⟩) ∧ U.cell? ⟨N, 4, none⟩ = some (.string ⟨#[]⟩) ∧ U.cell? ⟨N, 5, none⟩ = some (.slice (some ⟨w4.heap.size, 0, none⟩) 2 2) ∧ N < w4.heap.size ∧
   (w4.cell? ⟨x, 0, none⟩ = some (.int .i64 op1) ∧ w4.cell? ⟨x, 1, none⟩ = some (.int .i64 nu1) ∧ w4.cell? ⟨x, 2, none⟩ = some (.int .i64 vr1) ∧ w4.cell? ⟨x, 3, none⟩ = some (.string nm1) ∧ w4.cell? ⟨x, 4, none⟩ = some (.string fld1) ∧ w4.cell? ⟨x, 5, none⟩ = some (.slice A1 l1 c1)) ∧
   (W.cell? ⟨x, 0, none⟩ = some (.int .i64 op1) ∧ W.cell? ⟨x, 1, none⟩ = some (.int .i64 nu1) ∧ W.cell? ⟨x, 2, none⟩ = some (.int .i64 vr1) ∧ W.cell? ⟨x, 3, none⟩ = some (.string nm1) ∧ W.cell? ⟨x, 4, none⟩ = some (.string fld1) ∧ W.cell? ⟨x, 5, none⟩ = some (.slice A1 l1 c1)) ∧
   (U.cell? ⟨x, 0, none⟩ = some (.int .i64 op1) ∧ U.cell? ⟨x, 1, none⟩ = some (.int .i64 nu1) ∧ U.cell? ⟨x, 2, none⟩ = some (.int .i64 vr1) ∧ U.cell? ⟨x, 3, none⟩ = some (.string nm1) ∧ U.cell? ⟨x, 4, none⟩ = some (.string fld1) ∧ U.cell? ⟨x, 5, none⟩ = some (.slice A1 l1 c1)) := by
 have hs4 := hg4.size
 obtain ⟨W, U, HW, HZ, HU, HGU, HROW, u0, u1, u2, u3, u4, u5, hlt⟩ := put_row2 (m := m) (o5 := o5) (nm5 := ⟨#[]⟩) (fld5 := ⟨#[]⟩) hN hTw (hz.grew hg4 (by omega)) (hg.trans hg4) (hc.grew hg4) (h1.keep (hg4.keptX hc.tape.choose_spec).from) (h2.from (by omega))
 have c4 : ∀ o, w4.cell? ⟨x, o, none⟩ = X.cell? ⟨x, o, none⟩ := fun o => hg4.cell hx hxT
 have cW : ∀ o, W.cell? ⟨x, o, none⟩ = X.cell? ⟨x, o, none⟩ := fun o => by rw [← HW.out, World.cell?_alloc_lt _ _ _ (by show x < w4.heap.size; omega)]; exact c4 o
 have cU : ∀ o, U.cell? ⟨x, o, none⟩ = X.cell? ⟨x, o, none⟩ := fun o => by
  refine (World.cell?_of_block (w := W) ?_).trans (cW o)
  rw [← HU.out]
  unfold put6
  simp only [heap_setCell_other _ ⟨N, _, none⟩ x _ hxN]
 obtain ⟨s0, s1, s2, s3, s4, s5⟩ := hS
 exact ⟨W, U, HW, HZ, HU, HGU, HROW, u0, u1, u2, u3, u4, u5, hlt, ⟨(c4 _).trans s0, (c4 _).trans s1, (c4 _).trans s2, (c4 _).trans s3, (c4 _).trans s4, (c4 _).trans s5⟩, ⟨(cW _).trans s0, (cW _).trans s1, (cW _).trans s2, (cW _).trans s3, (cW _).trans s4, (cW _).trans s5⟩, ⟨(cU _).trans s0, (cU _).trans s1, (cU _).trans s2, (cU _).trans s3, (cU _).trans s4, (cU _).trans s5⟩⟩
theorem limb_grew {T : Nat} {A : Option Addr} {len cap : Nat} {w w' : World} {M b c n k : Nat} {nm : Nat → ByteArray} (g : Grew T A len cap w w') (hM : M < w.heap.size) (hMT : M ≠ T) (hb : b < w.heap.size) (hbT : b ≠ T) (h : (w.cell? ⟨M, 0, none⟩ = some (.pointer (some ⟨T, 0, none⟩)) ∧ w.cell? ⟨M, c, none⟩ = some (.slice (some ⟨b, 0, none⟩) n k) ∧ ∀ j, j < n → w.cell? ⟨b, j, none⟩ = some (.string (nm j)))) : (w'.cell? ⟨M, 0, none⟩ = some (.pointer (some ⟨T, 0, none⟩)) ∧ w'.cell? ⟨M, c, none⟩ = some (.slice (some ⟨b, 0, none⟩) n k) ∧ ∀ j, j < n → w'.cell? ⟨b, j, none⟩ = some (.string (nm j))) :=
 ⟨(g.cell hM hMT).trans h.1, (g.cell hM hMT).trans h.2.1, fun j hj => (g.cell hb hbT).trans (h.2.2 j hj)⟩
theorem put6_far (w : World) (N b o : Nat) (v0 v1 v2 v3 v4 v5 : Value) (hb : b ≠ N) : (put6 w N v0 v1 v2 v3 v4 v5).cell? ⟨b, o, none⟩ = w.cell? ⟨b, o, none⟩ := by
 refine World.cell?_of_block (w := w) ?_
 unfold put6
 simp only [heap_setCell_other _ ⟨N, _, none⟩ b _ hb]
theorem limb_put {T : Nat} {w : World} {M b c n k N : Nat} {nm : Nat → ByteArray} (v0 v1 v2 v3 v4 v5 : Value) (hM : M ≠ N) (hb : b ≠ N) (h : (w.cell? ⟨M, 0, none⟩ = some (.pointer (some ⟨T, 0, none⟩)) ∧ w.cell? ⟨M, c, none⟩ = some (.slice (some ⟨b, 0, none⟩) n k) ∧ ∀ j, j < n → w.cell? ⟨b, j, none⟩ = some (.string (nm j)))) : ((put6 w N v0 v1 v2 v3 v4 v5).cell? ⟨M, 0, none⟩ = some (.pointer (some ⟨T, 0, none⟩)) ∧ (put6 w N v0 v1 v2 v3 v4 v5).cell? ⟨M, c, none⟩ = some (.slice (some ⟨b, 0, none⟩) n k) ∧ ∀ j, j < n → (put6 w N v0 v1 v2 v3 v4 v5).cell? ⟨b, j, none⟩ = some (.string (nm j))) :=
 ⟨(put6_far w N M 0 v0 v1 v2 v3 v4 v5 hM).trans h.1, (put6_far w N M c v0 v1 v2 v3 v4 v5 hM).trans h.2.1, fun j hj => (put6_far w N b j v0 v1 v2 v3 v4 v5 hb).trans (h.2.2 j hj)⟩
theorem Ctx.alloc {m : Mk} {w : World} (h : Ctx m w) (o : Obj) : Grew m.T m.A m.len m.cap w (w.alloc o) := h.below ((Below.refl _ _).alloc (Nat.le_refl _) o)
/-- The two fields' names. -/
def xy (j : Nat) : ByteArray := if j = 0 then ⟨#[120]⟩ else ⟨#[121]⟩
theorem xy_size (j : Nat) : (xy j).size ≤ 20 := by unfold xy; split <;> decide
theorem xy_made (w : World) : ∀ j, j < 2 → (w.alloc (.cells #[.string ⟨#[120]⟩, .string ⟨#[121]⟩] 9)).cell? ⟨w.heap.size, j, none⟩ = some (.string (xy j)) := fun j hj => by
 rw [World.cell?_alloc_at _ _ _ _ rfl]
 have hj' : j = 0 ∨ j = 1 := by omega
 rcases hj' with rfl | rfl <;> rfl
theorem lt_eq {a b c : Nat} (h : a < b) (e : c = b) : a < c := by omega
end Go.Proofs.YtchibamdkaejdaaDoor
namespace Go.Proofs.YtchibamdkaejdaaDoor
open Go.RowKit

set_option maxHeartbeats 2000000 in
set_option maxRecDepth 100000 in
theorem element_any (k : Nat) (ih : ExprAt k) (m : Mk) (w : World) (deep : Nat) (hd : deep + k = 3) (h : Ctx m w) (hrl : m.rl ≠ 0) :
  Calls Tryd.prog 56 #[.pointer (some ⟨m.M, 0, none⟩), .int .i64 deep] w fun e w' => ∃ v n, e = .returned v ∧ ExNew w' w.heap.size (k + 2) v n ∧ n + 1 ≤ 2 ^ (k + 2) ∧ Grew m.T m.A m.len m.cap w w' := by
 have IH := Lib.hid ih
 clear ih
 have hpow : 2 ^ (k + 2) = 2 * 2 ^ (k + 1) := by rw [Nat.pow_succ]; omega
 have hpk : 2 ≤ 2 ^ (k + 1) := by have := Nat.one_le_two_pow (n := k); rw [Nat.pow_succ]; omega
 obtain ⟨M, T, f, funcs, count, left, P, S, Q, R, pl, pc, sl, sc, ql, qc, rl, rc, A, len, cap⟩ := m
 dsimp only at *
 obtain ⟨V, hV⟩ : ∃ V, Hid (w.alloc (.cells #[.int .i64 0, .int .i64 0, .int .i64 0, .string ⟨#[]⟩, .string ⟨#[]⟩, .slice none 0 0] 72) = V) := ⟨_, Lib.hid rfl⟩
 have hwV : Below w.heap.size w V := by rw [← hV.out]; exact (Below.refl _ _).alloc (Nat.le_refl _) _
 have hblk : Zero V w.heap.size := by rw [← hV.out]; exact Array.getElem?_push_size
 have hg := h.below hwV
 have hc := h.grew hg
 have hz : w.heap.size < V.heap.size := by rw [← hV.out]; simp
 have hM : M < w.heap.size := h.maker.lt
 have hMT : M ≠ T := h.ne
 have hTw : T < w.heap.size := by obtain ⟨pos, ht⟩ := h.tape; exact ht.lt
 obtain ⟨b, nm, e, hb, hbT, hl1, hl2, hl3, hnm, hnames⟩ := hc.r.open hrl
 dsimp only at e hb hbT hl1 hl2 hl3 hnm hnames
 subst e
 have e0 := hc.maker.cell 0 (.pointer (some ⟨T, 0, none⟩)) rfl
 have e6 := hc.maker.cell 6 (.slice (some ⟨b, 0, none⟩) rl rc) rfl
 have hpos : (1 : Int) ≤ (rl : Int) := by omega
 have hlt : (rl : Int) < 1000000 := by omega
 obtain ⟨pos, ht⟩ := hc.drew.tape
 have HT := Lib.hid ht
 have HG := Lib.hid hg
 have HC := Lib.hid hc.drew
 have HB := Lib.hid hblk
 have HN := Lib.hid hnames
 have hsz : V.drew.heap.size = V.heap.size := rfl
 dsimp only at e0 e6 hl1 hl2
 have hl2' : (rc : Int) ≤ 9223372036854775807 := by unfold maxLen at hl2; omega
 clear h ht hg hc hwV hblk hnames hl2
 go_enter Tryd.func56, Tryd.ntmps56
 go_wp2_with fail
 rw [hV.out]
 go_region_held3 (fun w' => w'.cell? ⟨M, 0, none⟩ = some (.pointer (some ⟨T, 0, none⟩)) ∧ w'.cell? ⟨M, 6, none⟩ = some (.slice (some ⟨b, 0, none⟩) rl rc) ∧ ∀ j, j < rl → w'.cell? ⟨b, j, none⟩ = some (.string (nm j))) (first | assumption | exact ⟨e0, e6, HN.out⟩ | exact ⟨e0', e6', hn'⟩)
  (first | (go_at_call 25; refine (next_any _ T A len cap pos HT.out rl hpos hlt).mono ?_; rintro e w1 ⟨r, t1, rfl, hr0, hr1, hm⟩; obtain ⟨j, rfl⟩ : ∃ j : Nat, r = (j : Int) := ⟨r.toNat, by omega⟩; have hjr : j < rl := (by omega); have hn' : ∀ j, j < rl → w1.cell? ⟨b, j, none⟩ = some (.string (nm j)) := fun j hj => (hm.cell hbT).trans (HN.out j hj); have e0' := (hm.cell (o := 0) hMT).trans e0; have e6' := (hm.cell (o := 6) hMT).trans e6))
 have HM := Lib.hid hm
 have c1 := HC.out.grew hm.grew
 have e0 := c1.maker.cell 0 (.pointer (some ⟨T, 0, none⟩)) rfl
 dsimp only at e0
 have HC1 := Lib.hid c1
 have hz1 : w.heap.size < w1.heap.size := by have := hm.size; omega
 have HG1 := Lib.hid (HG.out.drew.trans hm.grew)
 have HB1 : Hid (Zero w1 w.heap.size) := Lib.hid (Zero.grew (show Zero V.drew w.heap.size from HB.out) hm.grew (by omega))
 have hs := hnm j hjr
 obtain ⟨s, hsj⟩ : ∃ s, nm j = s := ⟨_, rfl⟩
 rw [hsj] at hs ⊢
 clear hm c1 e6 hn' e0' e6' hsj hnm
 go_wp2_with fail
 obtain ⟨p1, ht1⟩ := HC1.out.tape
 refine (next_any w1 T A len cap p1 ht1 3 (by omega) (by omega)).mono ?_
 rintro e w2 ⟨r2, t2, rfl, hr20, hr21, hm2⟩
 have c2 := HC1.out.grew hm2.grew
 have e0 := c2.maker.cell 0 (.pointer (some ⟨T, 0, none⟩)) rfl
 dsimp only at e0
 have HC2 := Lib.hid c2
 have HG2 := Lib.hid (HG1.out.trans hm2.grew)
 have HB2 := Lib.hid (HB1.out.grew hm2.grew (by omega))
 have hz2 : w.heap.size < w2.heap.size := by have := hm2.size; omega
 clear hm2 c2 ht1
 by_cases hpr : 0 < r2
 ·go_wp2_with fail
  obtain ⟨p2, ht2⟩ := HC2.out.tape
  refine (next_any w2 T A len cap p2 ht2 3 (by omega) (by omega)).mono ?_
  rintro e w3 ⟨r3, t3, rfl, hr30, hr31, hm3⟩
  obtain ⟨n, rfl⟩ : ∃ n : Nat, r3 = (n : Int) := ⟨r3.toNat, by omega⟩
  have hn : n < 1000000000000000000 := by omega
  have HC3 := Lib.hid (HC2.out.grew hm3.grew)
  have HG3 := Lib.hid (HG2.out.trans hm3.grew)
  have HB3 := Lib.hid (HB2.out.grew hm3.grew (by omega))
  have hz3 : w.heap.size < w3.heap.size := by have := hm3.size; omega
  clear hm3 ht2
  go_wp2_with fail
  refine (literal_any w3 n).mono ?_
  rintro e w4 ⟨rfl, hb4⟩
  have hg4 := HC3.out.below hb4
  dsimp only at hg4
  obtain ⟨W, U, HW, HZ, HU, HGU, HROW, u0, u1, u2, u3, u4, u5, hN⟩ := put_row (m := ⟨M, T, f, funcs, count, left, P, S, Q, some ⟨b, 0, none⟩, pl, pc, sl, sc, ql, qc, rl, rc, A, len, cap⟩) (o5 := 3) (nm5 := s) (fld5 := ⟨#[]⟩) rfl hTw (HB3.out.grew hg4 (by omega)) (HG3.out.trans hg4) (HC3.out.grew hg4) (exNew_leaf w4 (w.heap.size + 1) 0 n 0 ⟨#[]⟩ ⟨#[]⟩ (by omega) hn (by decide) (by decide))
  rw [show ((0 : Nat) : Int) = 0 from rfl] at HW
  rw [← HW.out] at HZ HU
  clear hb4 hg4
  go_wp2_with (with_reducible show wpList _ _ _ (Oper.mk none (Op.store _ _ _) _ _ _ none :: _) _ _; refine store_expr rfl rfl _ _ rfl w.heap.size 3 0 0 _ _ _ _ _ rfl rfl HZ.out U HU ?_)
  (try simp only [Exit.inBlock, Exit.then])
  refine bodyPost_ret (by simp [results, Tryd.results56, go_sem, u0, u1, u2, u3, u4, u5]; try rfl) rfl ?_
  exact ⟨_, 1 + 1, rfl, ⟨3, 0, 0, _, _, _, 1, 1, [1], rfl, ⟨by omega, fun _ => Nat.le_refl _, fun hh => by omega⟩, by omega, hs, by decide, HROW.out.up (fun v n hv => hv.le (by omega)), fun _ => ⟨_, _, rfl, by omega⟩, by simp⟩, by omega, HGU.out⟩
 ·obtain rfl : r2 = 0 := by omega
  go_wp2_with fail
  refine (IH.out ⟨M, T, f, funcs, count, left, P, S, Q, some ⟨b, 0, none⟩, pl, pc, sl, sc, ql, qc, rl, rc, A, len, cap⟩ w2 deep hd HC2.out).mono ?_
  rintro e w4 ⟨v, n, rfl, hex, hn, hg4⟩
  obtain ⟨op1, num, vr, nm1, fld, A', len', cap', rfl⟩ := hex.shape
  dsimp only at hg4
  obtain ⟨W, U, HW, HZ, HU, HGU, HROW, u0, u1, u2, u3, u4, u5, hN⟩ := put_row (m := ⟨M, T, f, funcs, count, left, P, S, Q, some ⟨b, 0, none⟩, pl, pc, sl, sc, ql, qc, rl, rc, A, len, cap⟩) (o5 := 3) (nm5 := s) (fld5 := ⟨#[]⟩) rfl hTw (HB2.out.grew hg4 (by omega)) (HG2.out.trans hg4) (HC2.out.grew hg4) (hex.from (by omega))
  rw [← HW.out] at HZ HU
  clear hg4 hex
  go_wp2_with (with_reducible show wpList _ _ _ (Oper.mk none (Op.store _ _ _) _ _ _ none :: _) _ _; refine store_expr rfl rfl _ _ rfl w.heap.size 3 0 0 _ _ _ _ _ rfl rfl HZ.out U HU ?_)
  (try simp only [Exit.inBlock, Exit.then])
  refine bodyPost_ret (by simp [results, Tryd.results56, go_sem, u0, u1, u2, u3, u4, u5]; try rfl) rfl ?_
  exact ⟨_, 1 + n, rfl, ⟨3, 0, 0, _, _, _, 1, 1, [n], rfl, ⟨by omega, fun _ => Nat.le_refl _, fun hh => by omega⟩, by omega, hs, by decide, HROW.out, fun _ => ⟨_, _, rfl, by omega⟩, by simp⟩, by omega, HGU.out⟩
end Go.Proofs.YtchibamdkaejdaaDoor
namespace Go.Proofs.YtchibamdkaejdaaDoor
open Go.RowKit
section
variable {P : Program} {ops : Array Oper} {Q : Exit → Act → World → Prop} {md : Region.Mode} {S : World → Prop} {L : List Nat}
/-- Whatever comes up: behind the operations of L the world meets S. -/
def wpAnyU (P : Program) (md : Region.Mode) (ops : Array Oper) (Q : Exit → Act → World → Prop) (S : World → Prop) (L : List Nat) : Nat → Array Bool → Act → World → Prop
 | 0, listed, a, w => Region.ready md ops listed = [] ∧ Q .normal a w
 | n + 1, listed, a, w => (Region.ready md ops listed = [] → Q .normal a w) ∧
  ∀ j ∈ Region.ready md ops listed, wpOp P ops Q j (fun a' w' => (j ∈ L → S w') ∧ wpAnyU P md ops Q S L n (listed.setIfInBounds j true) a' w') a w
theorem wpAny_of_U : ∀ (n : Nat) (listed : Array Bool) (a : Act) (w : World), wpAnyU P md ops Q S L n listed a w → wpAny P md ops Q n listed a w
 | 0, _, _, _, h => h
 | n + 1, _, _, _, h => ⟨h.1, fun j hj => wpOp_mono (fun a' w' h' => wpAny_of_U n _ a' w' h'.2) (h.2 j hj)⟩
/-- Number k can't come up ahead of number i: it is i, or it has not come up and waits for i. -/
def Behind (md : Region.Mode) (ops : Array Oper) (listed : Array Bool) (i k : Nat) : Prop := k = i ∨ (listed.getD k false = false ∧ ∃ ok, ops[k]? = some ok ∧ ∃ e ∈ ok.after, Region.binds md e = true ∧ e.on = i)
/-- The same as a Bool. -/
def behind (md : Region.Mode) (ops : Array Oper) (listed : Array Bool) (i k : Nat) : Bool := k == i || (!(listed.getD k false) && match ops[k]? with
 | some ok => ok.after.any (fun e => Region.binds md e && e.on == i)
 | none => false)
theorem behind_spec {i k : Nat} {listed : Array Bool} (h : behind md ops listed i k = true) : Behind md ops listed i k := by
 unfold behind at h
 rw [Bool.or_eq_true, beq_iff_eq, Bool.and_eq_true] at h
 rcases h with h | ⟨h1, h2⟩
 ·exact .inl h
 ·refine .inr ⟨by simpa using h1, ?_⟩
  cases hk : ops[k]? with
  | none => rw [hk] at h2; cases h2
  | some ok =>
   rw [hk] at h2
   obtain ⟨e, he, hb⟩ := Array.any_eq_true'.1 h2
   rw [Bool.and_eq_true, beq_iff_eq] at hb
   exact ⟨ok, rfl, e, he, hb⟩
/-- Every operation outside L that has not come up waits for number i, or for one that waits for it. -/
def waits (md : Region.Mode) (ops : Array Oper) (L : List Nat) (listed : Array Bool) (i : Nat) : Bool :=
 (List.range ops.size).all fun j => L.contains j || listed.getD j true || match ops[j]? with
  | some oj => oj.after.any (fun e => Region.binds md e && behind md ops listed i e.on)
  | none => true
theorem waits_spec {i j : Nat} {oj : Oper} {listed : Array Bool} (h : waits md ops L listed i = true) (hj : ops[j]? = some oj) (hL : j ∉ L) (hun : listed.getD j true = false) : ∃ e ∈ oj.after, Region.binds md e = true ∧ Behind md ops listed i e.on := by
 unfold waits at h
 rw [List.all_eq_true] at h
 have h1 := h j (List.mem_range.2 (Array.getElem?_eq_some_iff.1 hj).1)
 rw [hj, hun] at h1
 simp only [Bool.or_eq_true, List.contains_eq_mem, decide_eq_true_eq, hL, false_or, Bool.false_eq_true] at h1
 obtain ⟨e, he, hb⟩ := Array.any_eq_true'.1 h1
 rw [Bool.and_eq_true] at hb
 exact ⟨e, he, hb.1, behind_spec hb.2⟩
theorem not_waiting {i j : Nat} {listed : Array Bool} (hi : i ∈ Region.ready md ops listed) (hj : j ∈ Region.ready md ops listed) : ∃ oj, ops[j]? = some oj ∧ ∀ e ∈ oj.after, Region.binds md e = true → e.on ≠ i := by
 obtain ⟨_, oj, hoj, hall⟩ := mem_ready.1 hj
 refine ⟨oj, hoj, fun e he hb heq => ?_⟩
 have h1 := hall e he hb
 have h0 := (mem_ready.1 hi).1
 rw [heq] at h1
 rcases Nat.lt_or_ge i listed.size with h' | h'
 ·simp [h'] at h0 h1
  rw [h0] at h1
  cases h1
 ·simp [Array.getElem?_eq_none h'] at h1
/-- An operation may be taken first: one of L that yields under S, and for which all outside L wait; or one outside L that yields in whatever world. -/
theorem wpAnyU_first {S' : World → Prop} {i : Nat} {oi : Oper} {v : Value} (hi : ops[i]? = some oi) (hsel : ∀ (j : Nat) (o : Oper) cs b, ops[j]? = some o → o.op ≠ .select cs b)
  (hQ : ∀ c a w, Q (.panic c) (a.put oi.dst v) w → Q (.panic c) a w)
  (hS' : (i ∈ L ∧ S' = S) ∨ (i ∉ L ∧ ∀ w, S' w)) :
  ∀ (n : Nat) (listed : Array Bool) (a : Act) (w : World),
   (∀ j oj, ops[j]? = some oj → j ≠ i → listed.getD j true = false → (∀ e ∈ oj.after, Region.binds md e = true → e.on ≠ i) → oi.apart ops oj = true) →
   (i ∈ L → ∀ j oj, ops[j]? = some oj → j ∉ L → listed.getD j true = false → ∃ e ∈ oj.after, Region.binds md e = true ∧ Behind md ops listed i e.on) →
   i ∈ Region.ready md ops listed → YieldsIf P ops S' oi v a → S' w →
   wpAnyU P md ops Q S L n (listed.setIfInBounds i true) (a.put oi.dst v) w → wpAnyU P md ops Q S L (n + 1) listed a w := by
 have own : ∀ w, S' w → (i ∈ L → S w) := fun w hw hL => by
  rcases hS' with ⟨_, e⟩ | ⟨h, _⟩
  ·rw [← e]; exact hw
  ·exact absurd hL h
 intro n
 induction n with
 | zero =>
  intro listed a w _ _ hr hy hS H
  refine ⟨fun h => (by rw [h] at hr; cases hr), fun j hj => ?_⟩
  by_cases hji : j = i
  ·subst hji
   exact hy.wpOp hi hS ⟨own w hS, H⟩
  ·have h0 := ready_mono hj hji
   rw [H.1] at h0
   cases h0
 | succ n ih =>
  intro listed a w hfree hwait hr hy hS H
  refine ⟨fun h => (by rw [h] at hr; cases hr), fun j hj => ?_⟩
  by_cases hji : j = i
  ·subst hji
   exact hy.wpOp hi hS ⟨own w hS, H⟩
  ·obtain ⟨oj, hoj, hnot⟩ := not_waiting hr hj
   have hjun := (mem_ready.1 hj).1
   have h2 := wpOp_putIf hoj (hfree j oj hoj hji hjun hnot) (fun cs b => hsel i oi cs b hi) (fun cs b => hsel j oj cs b hoj) hQ hy (H.2 j (ready_mono hj hji))
   have hnext : ∀ w', (j ∈ L → S w') → S' w' := fun w' hjL => by
    rcases hS' with ⟨hiL, e⟩ | ⟨_, h⟩
    ·by_cases hL : j ∈ L
     ·rw [e]; exact hjL hL
     ·obtain ⟨e', he', hb, hon⟩ := hwait hiL j oj hoj hL hjun
      rcases hon with hon | ⟨hon, _⟩
      ·exact absurd hon (hnot e' he' hb)
      ·obtain ⟨_, oj', hoj', hall⟩ := mem_ready.1 hj
       rw [hoj] at hoj'
       injection hoj' with hoj'
       subst hoj'
       rw [hall e' he' hb] at hon
       cases hon
    ·exact h w'
   have hkeep : ∀ k, (listed.setIfInBounds j true).getD k true = false → listed.getD k true = false := fun k hun => by
    by_cases hjk : j = k
    ·subst hjk; exact hjun
    ·rw [getD_set_ne true hjk] at hun; exact hun
   refine wpOp_mono (fun a' w' h3 => ⟨h3.2.1, ih (listed.setIfInBounds j true) a' w' (fun k ok hk hki hun hno => hfree k ok hk hki (hkeep k hun) hno) (fun hiL k ok hk hkL hun => by
    obtain ⟨e, he, hb, hon⟩ := hwait hiL k ok hk hkL (hkeep k hun)
    refine ⟨e, he, hb, hon.imp id (fun ⟨h1, ok', hok', e2, he2, hb2, hon2⟩ => ⟨?_, ok', hok', e2, he2, hb2, hon2⟩)⟩
    rw [getD_set_ne false]
    ·exact h1
    ·intro hje
     rw [← hje, hoj] at hok'
     injection hok' with hok'
     subst hok'
     exact hnot e2 he2 hb2 hon2) (ready_mono hr (Ne.symm hji)) h3.1 (hnext w' h3.2.1) ?_⟩) h2
   rw [Array.setIfInBounds_comm _ _ hji]
   exact h3.2.2
theorem wpAnyU_take {i : Nat} {oi : Oper} {v : Value} {n : Nat} {listed : Array Bool} {a : Act} {w : World} (hi : ops[i]? = some oi)
  (hs : Region.noSelect ops = true) (hf : Region.free md ops listed i = true) (hr : (Region.ready md ops listed).contains i = true) (hL : L.contains i = true) (hw : waits md ops L listed i = true)
  (hQ : ∀ c a w, Q (.panic c) (a.put oi.dst v) w → Q (.panic c) a w) (hy : YieldsIf P ops S oi v a) (hS : S w)
  (h : wpAnyU P md ops Q S L n (listed.setIfInBounds i true) (a.put oi.dst v) w) : wpAnyU P md ops Q S L (n + 1) listed a w :=
 wpAnyU_first (S' := S) hi (Region.noSelect_spec hs) hQ (.inl ⟨by simpa using hL, rfl⟩) n listed a w (Region.free_spec hi hf) (fun _ j oj hj hjL hun => waits_spec hw hj hjL hun) (by simpa using hr) hy hS h
theorem wpAnyU_late {i : Nat} {oi : Oper} {v : Value} {n : Nat} {listed : Array Bool} {a : Act} {w : World} (hi : ops[i]? = some oi)
  (hs : Region.noSelect ops = true) (hf : Region.free md ops listed i = true) (hr : (Region.ready md ops listed).contains i = true) (hL : L.contains i = false)
  (hQ : ∀ c a w, Q (.panic c) (a.put oi.dst v) w → Q (.panic c) a w) (hy : YieldsIf P ops (fun _ => True) oi v a)
  (h : wpAnyU P md ops Q S L n (listed.setIfInBounds i true) (a.put oi.dst v) w) : wpAnyU P md ops Q S L (n + 1) listed a w :=
 wpAnyU_first (S' := fun _ => True) hi (Region.noSelect_spec hs) hQ (.inr ⟨by simpa using hL, fun _ => trivial⟩) n listed a w (Region.free_spec hi hf) (fun hiL => absurd hiL (by simpa using hL)) (by simpa using hr) hy trivial h
/-- All that may come up, one by one; what follows is shut. -/
def AllU (P : Program) (md : Region.Mode) (ops : Array Oper) (Q : Exit → Act → World → Prop) (S : World → Prop) (L : List Nat) (n : Nat) (listed : Array Bool) (a : Act) (w : World) (rs : List Nat) : Prop :=
 ∀ j ∈ rs, wpOp P ops Q j (fun a' w' => (j ∈ L → S w') ∧ wpAnyU P md ops Q S L n (listed.setIfInBounds j true) a' w') a w
theorem AllU.nil {n : Nat} {listed : Array Bool} {a : Act} {w : World} : AllU P md ops Q S L n listed a w [] := fun _ hj => by cases hj
theorem AllU.cons {n : Nat} {listed : Array Bool} {a : Act} {w : World} {i : Nat} {o : Oper} {rs : List Nat} (ho : ops[i]? = some o)
  (h : ∀ K' : Act → World → Prop, Hid (∀ a w, (i ∈ L → S w) → wpAnyU P md ops Q S L n (listed.setIfInBounds i true) a w → K' a w) → if Region.wanted o (yielded ops a.tmps) = true then Oper.wp P o a w K' Q else K' (a.put o.dst undef) w)
  (hs : AllU P md ops Q S L n listed a w rs) : AllU P md ops Q S L n listed a w (i :: rs) := fun j hj => by
 rcases List.mem_cons.1 hj with rfl | hj
 ·exact wpOp_step ho (fun K' hK => h K' (Lib.hid (fun a w h1 h2 => hK a w ⟨h1, h2⟩)))
 ·exact hs j hj
theorem wpAnyU_ready {rs : List Nat} {n : Nat} {listed : Array Bool} {a : Act} {w : World} (hr : Region.ready md ops listed = rs) (hne : rs ≠ [])
  (h : AllU P md ops Q S L n listed a w rs) : wpAnyU P md ops Q S L (n + 1) listed a w :=
 ⟨fun h0 => absurd (hr ▸ h0) hne, hr ▸ h⟩
theorem wpAnyU_done {listed : Array Bool} {a : Act} {w : World} (hr : Region.ready md ops listed = []) (h : Q .normal a w) : ∀ n, wpAnyU P md ops Q S L n listed a w
 | 0 => ⟨hr, h⟩
 | _ + 1 => ⟨fun _ => h, by rw [hr]; simp⟩
theorem wp_region_U {id : Nat} {a : Act} {w : World} (hm : P.follows .mixedOrders = true) (h : wpAnyU P .any ops Q S L ops.size (Array.replicate ops.size false) a w.drew) : (Code.region id ops true).wp P Q a w :=
 wp_region_any hm (wpAny_of_U _ _ _ _ h)
end
end Go.Proofs.YtchibamdkaejdaaDoor
namespace Go.Proofs.YtchibamdkaejdaaDoor
open Go.RowKit

section
variable {P : Program} (w : World)
/-- Where an owned row lies behind an append of one element or more: where it lay, or in the block that comes next. -/
theorem append_where (base : Nat) (t ty e : TypeId) (i : TypeInfo) (z : Value) (ht : P.underlying t = some (.slice e)) (hi : P.info? e = some i) (hz : i.zero = some z)
  (v : Value) (n : Nat) (xs : List Value) (hown : w.ownsRow base e i.size v n xs)
  (a : Addr) (m c : Nat) (news : List Value) (hl : news.length = m * i.size) (hnews : ∀ j u, news[j]? = some u → w.cell? (a.add j) = some u) (h1 : ∀ u ∈ news, u.oneCell' = true)
  (hm : 0 < m) (h63 : n + m ≤ maxLen) (hbytes : (n + m) * i.bytes ≤ 140737488355328) (v' : Value) (w' : World)
  (hr : (Builtin.append_ #[t, t] ty #[v, .slice (some a) m c]).run P w = .ok v' w') : (v'.ownBlock = v.ownBlock ∧ v.ownBlock ≠ none) ∨ v'.ownBlock = some w.heap.size := by
 have hs : n + m ≤ 9223372036854775807 := by simp only [maxLen] at h63; omega
 rcases hown.2 with ⟨rfl, rfl⟩ | ⟨g, cap, cur, rfl, hbg, hg, hnc, hcm, hcs, htake⟩
 ·rw [run_append_nil (P := P) w t ty e i z ht hi hz a m c news hl hnews hm (by omega) (by simp only [Nat.zero_add] at hbytes; omega)] at hr
  injection hr with hv _
  subst hv
  exact .inr rfl
 ·by_cases hroom : n + m ≤ cap
  ·rw [run_append_room (P := P) w t ty e i ht hi g n cap cur hg a m c news hl hnews h1 hroom (by rw [hl, hcs, ← Nat.add_mul]; exact Nat.mul_le_mul_right _ hroom)] at hr
   injection hr with hv _
   subst hv
   exact .inl ⟨rfl, by simp [Value.ownBlock]⟩
  ·rw [run_append_grow (P := P) w t ty e i z ht hi hz ⟨g, 0, none⟩ n cap xs hown.1 (hown.cells (g := g) rfl) a m c news hl hnews (by omega) (by omega) (growslice_fits (by omega) hbytes)] at hr
   injection hr with hv _
   subst hv
   exact .inr rfl
theorem wp_append_at {o : Oper} {a : Act} {K : Act → World → Prop} {Q : Exit → Act → World → Prop} (s x : Operand) (t : TypeId)
  (ho : o.op = .call { callee := .builtin .append, args := #[s, x], argTypes := #[t, t] })
  (base : Nat) (e : TypeId) (i : TypeInfo) (z : Value) (ht : P.underlying t = some (.slice e)) (hi : P.info? e = some i) (hz : i.zero = some z) (hzs : z.cells.size = i.size) (hsz : 0 < i.size)
  (v : Value) (n : Nat) (xs : List Value) (hs : a.eval s = v) (hown : w.ownsRow base e i.size v n xs)
  (ad : Addr) (m c : Nat) (news : List Value) (hx : a.eval x = .slice (some ad) m c) (hl : news.length = m * i.size) (hnews : ∀ j u, news[j]? = some u → w.cell? (ad.add j) = some u) (h1 : ∀ u ∈ news, u.oneCell' = true)
  (hm : 0 < m) (h63 : n + m ≤ maxLen) (hbytes : (n + m) * i.bytes ≤ 140737488355328) (hbase : base ≤ w.heap.size)
  (h : ∀ v' w', w'.ownsRow base e i.size v' (n + m) (xs ++ news) → w.grownBy w' v.ownBlock → ((v'.ownBlock = v.ownBlock ∧ v.ownBlock ≠ none) ∨ v'.ownBlock = some w.heap.size) → K (a.put o.dst v') w') : o.wp P a w K Q := by
 obtain ⟨v', w', hr, h2, h3, _⟩ := run_append_own (P := P) w base t o.type e i z i.size i.bytes ht hi hz rfl rfl hzs hsz v n xs hown ad m c news hl hnews h1 h63 hbytes hbase
 have h4 := append_where (P := P) w base t o.type e i z ht hi hz v n xs hown ad m c news hl hnews h1 hm h63 hbytes v' w' hr
 have hk := h v' w' h2 h3 h4
 unfold Oper.wp execOp
 rw [ho]
 simp only [resolve, invoke, builtin, Sem.run_bind, Sem.run_pure, Result.andThen_ok, List.map_toArray, List.map_cons, List.map_nil, hs, hx, hr]
 exact hk
end
/-- The block of a row. -/
def blk (A : Option Addr) : Option Nat := A.map (·.block)
/-- A row of short names that is the generator's own. -/
def NameOwn (w : World) (B : Nat) (A : Option Addr) (l c : Nat) : Prop := ∃ xs : List Value, w.ownsRow B 9 1 (.slice A l c) l xs ∧ ∀ x ∈ xs, ∃ s : ByteArray, s.size ≤ 20 ∧ x = .string s
theorem ownBlock_slice (A : Option Addr) (l c : Nat) : Value.ownBlock (.slice A l c) = blk A := by cases A <;> rfl
section
variable {w w' : World} {B l c : Nat} {A : Option Addr}
theorem NameOwn.kept (h : NameOwn w B A l c) (hk : ∀ g, blk A = some g → w'.heap[g]? = w.heap[g]?) : NameOwn w' B A l c := by
 obtain ⟨xs, ⟨h1, h2⟩, h3⟩ := h
 refine ⟨xs, ⟨h1, ?_⟩, h3⟩
 rcases h2 with h2 | ⟨g, cap, cur, e, hb, hg, hr⟩
 ·exact .inl h2
 ·injection e with e1 e2 e3
  exact .inr ⟨g, cap, cur, by rw [e1, e3], hb, (hk g (by rw [e1]; rfl)).trans hg, hr⟩
theorem NameOwn.place (h : NameOwn w B A l c) : ∀ g, blk A = some g → B ≤ g ∧ g < w.heap.size ∧ ∃ cur, w.heap[g]? = some (.cells cur 9 (0, 0)) := by
 obtain ⟨xs, ⟨h1, h2⟩, h3⟩ := h
 intro g hg
 rcases h2 with ⟨e, _⟩ | ⟨g', cap, cur, e, hb, hgg, hr⟩
 ·injection e with e1
  rw [e1] at hg
  exact absurd hg (by simp [blk])
 ·injection e with e1
  rw [e1] at hg
  simp only [blk, Option.map_some, Option.some.injEq] at hg
  subst hg
  exact ⟨hb, (Array.getElem?_eq_some_iff.1 hgg).1, cur, hgg⟩
theorem NameOwn.row {T : Nat} (h : NameOwn w B A l c) (hl : l ≤ 1000) (ht : ∃ cur fr, w.heap[T]? = some (.cells cur 64 fr)) : NameRow w T A l c := by
 obtain ⟨xs, ⟨h1, h2⟩, h3⟩ := h
 rcases h2 with ⟨e, e0⟩ | ⟨g, cap, cur, e, hb, hg, hr1, hr2, hr3, hr4⟩
 ·injection e with e1 e2 e3
  exact ⟨by omega, by unfold maxLen; omega, hl, fun hh => absurd e0 hh⟩
 ·injection e with e1 e2 e3
  subst e1 e3
  refine ⟨hr1, hr2, hl, fun _ => ⟨g, rfl, (Array.getElem?_eq_some_iff.1 hg).1, ?_, fun k hk => ?_⟩⟩
  ·rintro rfl
   obtain ⟨cur', fr, ht⟩ := ht
   rw [hg] at ht
   simp only [Option.some.injEq, Obj.cells.injEq] at ht
   exact absurd ht.2.1 (by decide)
  ·have hk' : k < xs.length := by omega
   obtain ⟨s, hs, hx⟩ := h3 xs[k] (List.getElem_mem hk')
   refine ⟨s, hs, ?_⟩
   rw [cell_of_row w g k cur _ _ hg, ← hx, ← Array.getElem?_toList]
   have : (cur.toList.take (l * 1))[k]? = some xs[k] := by rw [hr4]; exact List.getElem?_eq_getElem hk'
   rw [List.getElem?_take] at this
   split at this
   ·exact this
   ·exact absurd this (by simp)
theorem NameOwn.nil (w : World) (B : Nat) : NameOwn w B none 0 0 := ⟨[], World.ownsRow_nil w B _ 1, fun _ hx => absurd hx (by simp)⟩
theorem NameOwn.of {v : Value} {n : Nat} {xs : List Value} (h : w.ownsRow B 9 1 v n xs) (hx : ∀ x ∈ xs, ∃ s : ByteArray, s.size ≤ 20 ∧ x = .string s) : ∃ A c, v = .slice A n c ∧ NameOwn w B A n c := by
 rcases h.2 with ⟨rfl, rfl⟩ | ⟨g, cap, cur, rfl, hr⟩
 ·exact ⟨none, 0, rfl, xs, h, hx⟩
 ·exact ⟨some ⟨g, 0, none⟩, cap, rfl, xs, h, hx⟩
end
theorem string_info : ∃ i : TypeInfo, Tryd.prog.info? 9 = some i ∧ i.zero = some (.string ⟨#[]⟩) ∧ i.size = 1 ∧ i.bytes = 16 := by
 have h : (Tryd.prog.info? 9).map (fun i => (i.zero, i.size, i.bytes)) = some (some (.string ⟨#[]⟩), 1, 16) := by kernel_rfl
 cases hi : Tryd.prog.info? 9 with
 | none => rw [hi] at h; exact absurd h (by simp)
 | some i =>
  rw [hi] at h
  simp only [Option.map_some, Option.some.injEq, Prod.mk.injEq] at h
  exact ⟨i, rfl, h.1, h.2.1, h.2.2⟩
/-- A name is appended to an owned row. -/
theorem wp_append_name {o : Oper} {a : Act} {w : World} {K : Act → World → Prop} {Q : Exit → Act → World → Prop} (s x : Operand)
  (ho : o.op = .call { callee := .builtin .append, args := #[s, x], argTypes := #[37, 37] })
  (B : Nat) (A : Option Addr) (l c X c1 : Nat) (nm : ByteArray) (hs : a.eval s = .slice A l c) (hown : NameOwn w B A l c) (hx : a.eval x = .slice (some ⟨X, 0, none⟩) 1 c1) (hX : w.cell? ⟨X, 0, none⟩ = some (.string nm)) (hnm : nm.size ≤ 20) (hl : l ≤ 1000) (hB : B ≤ w.heap.size)
  (h : ∀ A' c' w', NameOwn w' B A' (l + 1) c' → w.grownBy w' (blk A) → (blk A' = blk A ∧ blk A ≠ none ∨ blk A' = some w.heap.size) → K (a.put o.dst (.slice A' (l + 1) c')) w') : o.wp Tryd.prog a w K Q := by
 obtain ⟨i, hi, hz, hsz, hby⟩ := string_info
 obtain ⟨xs, hrow, hxs⟩ := hown
 rw [← hsz] at hrow
 refine wp_append_at w s x 37 ho B 9 i (.string ⟨#[]⟩) Tryd.underlying37 hi hz (by rw [hsz]; rfl) (by omega) _ l xs hs hrow ⟨X, 0, none⟩ 1 c1 [.string nm] hx (by rw [hsz]; rfl) (fun j u hu => ?_) (fun u hu => ?_) (by omega) (by unfold maxLen; omega) (by rw [hby]; omega) hB ?_
 ·have hj : j < 1 := (List.getElem?_eq_some_iff.1 hu).1
  obtain rfl : j = 0 := by omega
  obtain rfl : Value.string nm = u := by simpa using hu
  exact hX
 ·obtain rfl : u = .string nm := by simpa using hu
  rfl
 ·intro v' w' h1 h2 h3
  rw [hsz] at h1
  obtain ⟨A', c', rfl, hn⟩ := NameOwn.of h1 (fun x hx => by
   rcases List.mem_append.1 hx with hx | hx
   ·exact hxs x hx
   ·exact ⟨nm, hnm, by simpa using hx⟩)
  rw [ownBlock_slice] at h2
  rw [ownBlock_slice, ownBlock_slice] at h3
  exact h A' c' w' hn h2 h3
end Go.Proofs.YtchibamdkaejdaaDoor
namespace Go.Proofs.YtchibamdkaejdaaDoor

theorem wpAnyH_mono {P : Program} {md : Region.Mode} {ops : Array Oper} {Q : Exit → Act → World → Prop} {S S' : World → Prop} (h : ∀ w, S' w → S w) :
  ∀ (fuel : Nat) (listed : Array Bool) (a : Act) (w : World), wpAnyH P md ops Q S' fuel listed a w → wpAnyH P md ops Q S fuel listed a w
 | 0, _, _, _, hw => hw
 | fuel + 1, _, _, _, hw => ⟨hw.1, fun i hi => wpOp_mono (fun _ _ h' => ⟨h _ h'.1, wpAnyH_mono h fuel _ _ _ h'.2⟩) (hw.2 i hi)⟩
end Go.Proofs.YtchibamdkaejdaaDoor
