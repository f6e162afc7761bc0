/-
  The walk of the specification's rank. No condition. The walk of the specification's Expr: a text of bounded length. Condition: the expression is of finite depth, and of a weight of at most a million. The walks of the specification's list, words and value: texts of bounded length. Conditions: what is printed is of finite depth, and of a weight of at most a million. The walks of the specification's words and value: texts of bounded length. Conditions: the words are short, what is printed is of finite depth and of a weight of at most a million.
-/
import Derived.Test.YtchibamdkaejdaaDoorZA
import Derived.Test.YtchibamdkaejdaaDoorZBa
import Derived.Deep.RegionHeld3
import Derived.Deep.RegionWith
import Derived.IntWalk
import Derived.Deep.QuietTactic
import Derived.BigQuiet
namespace Go.Proofs.YtchibamdkaejdaaDoor
open Go.RowKit

def rk (op : Nat) : Nat := if op < 4 then 6 else if op < 6 then 5 else if op < 8 then 3 else if op < 11 then 4 else if op < 14 then 2 else if op < 18 then 1 else 6
theorem rk_le (op : Nat) : 1 ≤ rk op ∧ rk op ≤ 6 := by unfold rk; (repeat' split) <;> omega
theorem rk_five {op : Nat} (h : rk op = 5) : op = 4 ∨ op = 5 := by unfold rk at h; (repeat' split at h) <;> omega
theorem rk_low {op : Nat} (h : rk op < 5) : 6 ≤ op ∧ op ≤ 17 := by unfold rk at h; (repeat' split at h) <;> omega
theorem rank_0 (w : World) : Calls Tryd.prog 52 #[.int .i64 0] w fun e w' => e = .returned (.int .i64 6) ∧ w = w' := by
 go_enter Tryd.func52, Tryd.ntmps52
 go_wp2
 go_ret
 exact ⟨rfl, rfl⟩
theorem rank_1 (w : World) : Calls Tryd.prog 52 #[.int .i64 1] w fun e w' => e = .returned (.int .i64 6) ∧ w = w' := by
 go_enter Tryd.func52, Tryd.ntmps52
 go_wp2
 go_ret
 exact ⟨rfl, rfl⟩
theorem rank_2 (w : World) : Calls Tryd.prog 52 #[.int .i64 2] w fun e w' => e = .returned (.int .i64 6) ∧ w = w' := by
 go_enter Tryd.func52, Tryd.ntmps52
 go_wp2
 go_ret
 exact ⟨rfl, rfl⟩
theorem rank_3 (w : World) : Calls Tryd.prog 52 #[.int .i64 3] w fun e w' => e = .returned (.int .i64 6) ∧ w = w' := by
 go_enter Tryd.func52, Tryd.ntmps52
 go_wp2
 go_ret
 exact ⟨rfl, rfl⟩
theorem rank_4 (w : World) : Calls Tryd.prog 52 #[.int .i64 4] w fun e w' => e = .returned (.int .i64 5) ∧ w = w' := by
 go_enter Tryd.func52, Tryd.ntmps52
 go_wp2
 go_ret
 exact ⟨rfl, rfl⟩
theorem rank_5 (w : World) : Calls Tryd.prog 52 #[.int .i64 5] w fun e w' => e = .returned (.int .i64 5) ∧ w = w' := by
 go_enter Tryd.func52, Tryd.ntmps52
 go_wp2
 go_ret
 exact ⟨rfl, rfl⟩
theorem rank_6 (w : World) : Calls Tryd.prog 52 #[.int .i64 6] w fun e w' => e = .returned (.int .i64 3) ∧ w = w' := by
 go_enter Tryd.func52, Tryd.ntmps52
 go_wp2
 go_ret
 exact ⟨rfl, rfl⟩
theorem rank_7 (w : World) : Calls Tryd.prog 52 #[.int .i64 7] w fun e w' => e = .returned (.int .i64 3) ∧ w = w' := by
 go_enter Tryd.func52, Tryd.ntmps52
 go_wp2
 go_ret
 exact ⟨rfl, rfl⟩
theorem rank_8 (w : World) : Calls Tryd.prog 52 #[.int .i64 8] w fun e w' => e = .returned (.int .i64 4) ∧ w = w' := by
 go_enter Tryd.func52, Tryd.ntmps52
 go_wp2
 go_ret
 exact ⟨rfl, rfl⟩
theorem rank_9 (w : World) : Calls Tryd.prog 52 #[.int .i64 9] w fun e w' => e = .returned (.int .i64 4) ∧ w = w' := by
 go_enter Tryd.func52, Tryd.ntmps52
 go_wp2
 go_ret
 exact ⟨rfl, rfl⟩
theorem rank_10 (w : World) : Calls Tryd.prog 52 #[.int .i64 10] w fun e w' => e = .returned (.int .i64 4) ∧ w = w' := by
 go_enter Tryd.func52, Tryd.ntmps52
 go_wp2
 go_ret
 exact ⟨rfl, rfl⟩
theorem rank_11 (w : World) : Calls Tryd.prog 52 #[.int .i64 11] w fun e w' => e = .returned (.int .i64 2) ∧ w = w' := by
 go_enter Tryd.func52, Tryd.ntmps52
 go_wp2
 go_ret
 exact ⟨rfl, rfl⟩
theorem rank_12 (w : World) : Calls Tryd.prog 52 #[.int .i64 12] w fun e w' => e = .returned (.int .i64 2) ∧ w = w' := by
 go_enter Tryd.func52, Tryd.ntmps52
 go_wp2
 go_ret
 exact ⟨rfl, rfl⟩
theorem rank_13 (w : World) : Calls Tryd.prog 52 #[.int .i64 13] w fun e w' => e = .returned (.int .i64 2) ∧ w = w' := by
 go_enter Tryd.func52, Tryd.ntmps52
 go_wp2
 go_ret
 exact ⟨rfl, rfl⟩
theorem rank_14 (w : World) : Calls Tryd.prog 52 #[.int .i64 14] w fun e w' => e = .returned (.int .i64 1) ∧ w = w' := by
 go_enter Tryd.func52, Tryd.ntmps52
 go_wp2
 go_ret
 exact ⟨rfl, rfl⟩
theorem rank_15 (w : World) : Calls Tryd.prog 52 #[.int .i64 15] w fun e w' => e = .returned (.int .i64 1) ∧ w = w' := by
 go_enter Tryd.func52, Tryd.ntmps52
 go_wp2
 go_ret
 exact ⟨rfl, rfl⟩
theorem rank_16 (w : World) : Calls Tryd.prog 52 #[.int .i64 16] w fun e w' => e = .returned (.int .i64 1) ∧ w = w' := by
 go_enter Tryd.func52, Tryd.ntmps52
 go_wp2
 go_ret
 exact ⟨rfl, rfl⟩
theorem rank_17 (w : World) : Calls Tryd.prog 52 #[.int .i64 17] w fun e w' => e = .returned (.int .i64 1) ∧ w = w' := by
 go_enter Tryd.func52, Tryd.ntmps52
 go_wp2
 go_ret
 exact ⟨rfl, rfl⟩
theorem rank_else (op : Nat) (h : 17 < op) (w : World) : Calls Tryd.prog 52 #[.int .i64 op] w fun e w' => e = .returned (.int .i64 6) ∧ w = w' := by
 have b : ∀ v : Nat, v ≤ 17 → ((op : Int) == (v : Int)) = false := fun v hv => by rw [beq_eq_false_iff_ne]; omega
 have b4 : ((op : Int) == 4) = false := b 4 (by omega)
 have b5 : ((op : Int) == 5) = false := b 5 (by omega)
 have b6 : ((op : Int) == 6) = false := b 6 (by omega)
 have b7 : ((op : Int) == 7) = false := b 7 (by omega)
 have b8 : ((op : Int) == 8) = false := b 8 (by omega)
 have b9 : ((op : Int) == 9) = false := b 9 (by omega)
 have b10 : ((op : Int) == 10) = false := b 10 (by omega)
 have b11 : ((op : Int) == 11) = false := b 11 (by omega)
 have b12 : ((op : Int) == 12) = false := b 12 (by omega)
 have b13 : ((op : Int) == 13) = false := b 13 (by omega)
 have b14 : ((op : Int) == 14) = false := b 14 (by omega)
 have b15 : ((op : Int) == 15) = false := b 15 (by omega)
 have b16 : ((op : Int) == 16) = false := b 16 (by omega)
 have b17 : ((op : Int) == 17) = false := b 17 (by omega)
 clear b
 go_enter Tryd.func52, Tryd.ntmps52
 go_wp2
 go_ret
 exact ⟨rfl, rfl⟩
theorem rank_any (op : Nat) (w : World) (r : Nat) (hr : Hid (rk op = r)) : Calls Tryd.prog 52 #[.int .i64 op] w fun e w' => e = .returned (.int .i64 r) ∧ w = w' := by
 have h := hr.out
 clear hr
 match op, h with
 | 0, h => subst h; exact rank_0 w
 | 1, h => subst h; exact rank_1 w
 | 2, h => subst h; exact rank_2 w
 | 3, h => subst h; exact rank_3 w
 | 4, h => subst h; exact rank_4 w
 | 5, h => subst h; exact rank_5 w
 | 6, h => subst h; exact rank_6 w
 | 7, h => subst h; exact rank_7 w
 | 8, h => subst h; exact rank_8 w
 | 9, h => subst h; exact rank_9 w
 | 10, h => subst h; exact rank_10 w
 | 11, h => subst h; exact rank_11 w
 | 12, h => subst h; exact rank_12 w
 | 13, h => subst h; exact rank_13 w
 | 14, h => subst h; exact rank_14 w
 | 15, h => subst h; exact rank_15 w
 | 16, h => subst h; exact rank_16 w
 | 17, h => subst h; exact rank_17 w
 | op + 18, h =>
  obtain rfl : 6 = r := by rw [← h]; unfold rk; (repeat' split) <;> omega
  exact rank_else (op + 18) (by omega) w
end Go.Proofs.YtchibamdkaejdaaDoor
namespace Go.Proofs.YtchibamdkaejdaaDoor
open Go.RowKit

theorem pcell {W w1 : World} (hb : Below W.heap.size W w1) : (∀ b o, b < W.heap.size → w1.cell? ⟨b, o, none⟩ = W.cell? ⟨b, o, none⟩) ∧ (∀ b o, b < W.heap.size → w1.frozen? ⟨b, o, none⟩ = W.frozen? ⟨b, o, none⟩) :=
 ⟨fun b o h => hb.cell (p := ⟨b, o, none⟩) h, fun b o h => hb.frozen (p := ⟨b, o, none⟩) h⟩
theorem lit1 (x : UInt8) : (⟨#[x]⟩ : ByteArray).size = 1 := rfl
theorem sz_add (a b : ByteArray) : (a ++ b).size = a.size + b.size := ByteArray.size_append
theorem cat (a b : ByteArray) (h : a.size + b.size ≤ 9223372036854775807) : ∀ W : World, (Op.stringOp .add a b).run Tryd.prog W = .ok (.string (a ++ b)) W := fun W => run_string_add_sum W a b h

set_option maxHeartbeats 3200000 in
set_option maxRecDepth 100000 in
theorem pexpr_lit (w : World) (num : Nat) (vr : Int) (nm fld : ByteArray) (A : Option Addr) (len cap : Nat) (least : Int) (h3 : num < 1000000000000000000) :
  Calls Tryd.prog 37 #[.agg #[.int .i64 0, .int .i64 num, .int .i64 vr, .string nm, .string fld, .slice A len cap], .int .i64 least] w (Str w 100) := by
 go_enter Tryd.func37, Tryd.ntmps37
 go_wp2_with (first | (go_at_call 52; refine (rank_0 _).mono ?_; rintro e w1 ⟨rfl, rfl⟩) | (go_at_call 38; refine (digits_18 num _ h3).mono ?_; rintro e w2 ⟨s1, rfl, hs1, hb1⟩))
 all_goals
  go_ret
  exact ⟨_, rfl, by (try simp only [sz_add, lit1]); omega, ((Below.refl _ _).alloc (Nat.le_refl _) _).trans (hb1.mono (by simp))⟩

set_option maxHeartbeats 3200000 in
set_option maxRecDepth 100000 in
theorem pexpr_var (w : World) (num : Nat) (vr : Int) (nm fld : ByteArray) (A : Option Addr) (len cap : Nat) (least : Int) (hnm : nm.size ≤ 20) :
  Calls Tryd.prog 37 #[.agg #[.int .i64 1, .int .i64 num, .int .i64 vr, .string nm, .string fld, .slice A len cap], .int .i64 least] w (Str w 100) := by
 go_enter Tryd.func37, Tryd.ntmps37
 go_wp2_with (first | (go_at_call 52; refine (rank_1 _).mono ?_; rintro e w1 ⟨rfl, rfl⟩))
 all_goals
  go_ret
  exact ⟨_, rfl, by (try simp only [sz_add, lit1]); omega, (Below.refl _ _).alloc (Nat.le_refl _) _⟩

set_option maxHeartbeats 3200000 in
set_option maxRecDepth 100000 in
theorem pexpr_field (w : World) (num : Nat) (vr : Int) (nm fld : ByteArray) (A : Option Addr) (len cap : Nat) (least : Int) (hnm : nm.size ≤ 20) (hfl : fld.size ≤ 20) :
  Calls Tryd.prog 37 #[.agg #[.int .i64 2, .int .i64 num, .int .i64 vr, .string nm, .string fld, .slice A len cap], .int .i64 least] w (Str w 100) := by
 go_enter Tryd.func37, Tryd.ntmps37
 go_wp2_with (first | (go_at_call 52; refine (rank_2 _).mono ?_; rintro e w1 ⟨rfl, rfl⟩))
 all_goals
  go_ret
  exact ⟨_, rfl, by (try simp only [sz_add, lit1]); omega, (Below.refl _ _).alloc (Nat.le_refl _) _⟩

set_option maxHeartbeats 3200000 in
set_option maxRecDepth 100000 in
theorem pexpr_elem (w : World) (num : Nat) (vr : Int) (nm fld : ByteArray) (A : Option Addr) (len cap : Nat) (ns : List Nat) (d : Nat) (least : Int) (hnm : nm.size ≤ 20) (hlen : 1 ≤ len) (hr : RowsOk (ExOk w d) w 72 6 A len cap ns) (hn : ns.sum ≤ 1000000)
  (ih : Hid (∀ (v : Value) (n : Nat) (W : World) (l : Int), ExOk W d v n → n ≤ 1000000 → Calls Tryd.prog 37 #[v, .int .i64 l] W (Str W (100 * n)))) :
  Calls Tryd.prog 37 #[.agg #[.int .i64 3, .int .i64 num, .int .i64 vr, .string nm, .string fld, .slice A len cap], .int .i64 least] w (Str w (100 * (1 + ns.sum))) := by
 have hcap : cap ≤ 9223372036854775807 := by have := hr.2.2.1; unfold maxLen at this; omega
 have hlc : len ≤ cap := hr.2.1
 obtain ⟨b, op1, nu, v2, n2, f2, A2, l2, c2, n, hA, hb, hns, hex, g0, g1, g2, g3, g4, g5⟩ := hr.arg (k := 0) (by omega)
 subst hA
 have hsum := sum_at _ _ _ hns
 have HX := Lib.hid hex
 clear hex hr hns
 simp only [Nat.zero_mul, Nat.zero_add] at g0 g1 g2 g3 g4 g5
 obtain ⟨W, hW⟩ : ∃ W, Hid (w.alloc (.cells #[.int .i64 3, .int .i64 num, .int .i64 vr, .string nm, .string fld, .slice (some ⟨b, 0, none⟩) len cap] 72) = W) := ⟨_, Lib.hid rfl⟩
 have x0 : W.cell? ⟨w.heap.size, 0, none⟩ = some (.int .i64 3) := by rw [← hW.out, World.cell?_alloc_at _ _ _ _ rfl]; rfl
 have x3 : W.cell? ⟨w.heap.size, 3, none⟩ = some (.string nm) := by rw [← hW.out, World.cell?_alloc_at _ _ _ _ rfl]; rfl
 have x5 : W.cell? ⟨w.heap.size, 5, none⟩ = some (.slice (some ⟨b, 0, none⟩) len cap) := by rw [← hW.out, World.cell?_alloc_at _ _ _ _ rfl]; rfl
 have hkc : ∀ o, W.cell? ⟨b, o, none⟩ = w.cell? ⟨b, o, none⟩ := fun o => by rw [← hW.out, World.cell?_alloc_lt _ _ _ hb]
 have g0 := (hkc _).trans g0
 have g1 := (hkc _).trans g1
 have g2 := (hkc _).trans g2
 have g3 := (hkc _).trans g3
 have g4 := (hkc _).trans g4
 have g5 := (hkc _).trans g5
 have hBW : Below w.heap.size w W := by rw [← hW.out]; exact (Below.refl _ _).alloc (Nat.le_refl _) _
 have z1 : w.heap.size < W.heap.size := by rw [← hW.out]; simp
 have z2 : b < W.heap.size := by omega
 have hkx := KeptX.below hBW
 have HXK := Lib.hid (HX.out.keep hkx)
 have HB := Lib.hid hBW
 have HXD := Lib.hid (HXK.out.keep (KeptX.below (show Below W.heap.size W W.drew from ⟨rfl, rfl, rfl, Nat.le_refl _, fun _ _ => rfl⟩)))
 have hsb : ∀ w1, Below W.drew.heap.size W.drew w1 → w1.cell? ⟨w.heap.size, 0, none⟩ = some (.int .i64 3) ∧ w1.cell? ⟨w.heap.size, 3, none⟩ = some (.string nm) ∧ w1.cell? ⟨w.heap.size, 5, none⟩ = some (.slice (some ⟨b, 0, none⟩) len cap) ∧ w1.cell? ⟨b, 0, none⟩ = some (.int .i64 op1) ∧ w1.cell? ⟨b, 1, none⟩ = some (.int .i64 nu) ∧ w1.cell? ⟨b, 2, none⟩ = some (.int .i64 v2) ∧ w1.cell? ⟨b, 3, none⟩ = some (.string n2) ∧ w1.cell? ⟨b, 4, none⟩ = some (.string f2) ∧ w1.cell? ⟨b, 5, none⟩ = some (.slice A2 l2 c2) := fun w1 hb1 => by
  have hc1 := (pcell hb1).1
  exact ⟨(hc1 _ _ z1).trans x0, (hc1 _ _ z1).trans x3, (hc1 _ _ z1).trans x5, (hc1 _ _ z2).trans g0, (hc1 _ _ z2).trans g1, (hc1 _ _ z2).trans g2, (hc1 _ _ z2).trans g3, (hc1 _ _ z2).trans g4, (hc1 _ _ z2).trans g5⟩
 have HSB := Lib.hid hsb
 have c1 := cat nm ⟨#[91]⟩ (by rw [lit1]; omega)
 clear hkc hBW HX hsb hkx
 go_enter Tryd.func37, Tryd.ntmps37
 go_wp2_with (go_at_call 52; refine (rank_3 _).mono ?_; rintro e w1 ⟨rfl, rfl⟩)
 rw [hW.out]
 go_region_held3 (fun w' => w'.cell? ⟨w.heap.size, 0, none⟩ = some (.int .i64 3) ∧ w'.cell? ⟨w.heap.size, 3, none⟩ = some (.string nm) ∧ w'.cell? ⟨w.heap.size, 5, none⟩ = some (.slice (some ⟨b, 0, none⟩) len cap) ∧ w'.cell? ⟨b, 0, none⟩ = some (.int .i64 op1) ∧ w'.cell? ⟨b, 1, none⟩ = some (.int .i64 nu) ∧ w'.cell? ⟨b, 2, none⟩ = some (.int .i64 v2) ∧ w'.cell? ⟨b, 3, none⟩ = some (.string n2) ∧ w'.cell? ⟨b, 4, none⟩ = some (.string f2) ∧ w'.cell? ⟨b, 5, none⟩ = some (.slice A2 l2 c2)) (first | go_keep | exact HS1)
  (first | (go_at_call 37; refine (ih.out _ n _ 1 HXD.out (by omega)).mono ?_; rintro e w1 ⟨s1, rfl, hs1, hb1⟩; have HS1 := HSB.out w1 hb1; have c2 := cat (nm ++ ⟨#[91]⟩) s1 (by rw [sz_add, lit1]; omega); have c3 := cat (nm ++ ⟨#[91]⟩ ++ s1) ⟨#[93]⟩ (by rw [sz_add, sz_add, lit1, lit1]; omega)))
 have hbw : Below w.heap.size w w1 := HB.out.trans ((show Below W.heap.size W w1 from ⟨hb1.os, hb1.tape, hb1.output, hb1.size, hb1.block⟩).mono (by omega))
 clear HS1
 go_wp2_with fail
 all_goals
  go_ret
  exact ⟨_, rfl, by simp only [sz_add, lit1]; omega, hbw⟩
theorem fin1 {w W w1 : World} (HB : Below w.heap.size w W) (hb1 : Below W.drew.heap.size W.drew w1) : Below w.heap.size w w1 := HB.trans ((show Below W.heap.size W w1 from ⟨hb1.os, hb1.tape, hb1.output, hb1.size, hb1.block⟩).mono HB.size)
theorem fin2 {w W w1 : World} {o : Obj} (HB : Below w.heap.size w W) (hb1 : Below (W.alloc o).drew.heap.size (W.alloc o).drew w1) : Below w.heap.size w w1 :=
 HB.trans ((((Below.refl W.heap.size W).alloc (Nat.le_refl _) o).trans ((show Below (W.alloc o).heap.size (W.alloc o) w1 from ⟨hb1.os, hb1.tape, hb1.output, hb1.size, hb1.block⟩).mono (by simp))).mono HB.size)
theorem at_world {d n : Nat} {v : Value} {W : World} (ih : Hid (∀ (v : Value) (n : Nat) (W : World) (l : Int), ExOk W d v n → n ≤ 1000000 → Calls Tryd.prog 37 #[v, .int .i64 l] W (Str W (100 * n)))) (h : ExOk W d v n) (hn : n ≤ 1000000) (l : Int) :
  ∀ W1, Below W.heap.size W W1 → Calls Tryd.prog 37 #[v, .int .i64 l] W1 fun e w' => ∃ s : ByteArray, e = .returned (.string s) ∧ s.size ≤ 100 * n ∧ Below W.heap.size W w' ∧ Below W1.heap.size W1 w' :=
 fun W1 hb => (ih.out v n W1 l (h.keep (KeptX.below hb)) hn).mono fun _ _ ⟨s, h1, h2, h3⟩ => ⟨s, h1, h2, hb.trans (h3.mono hb.size), h3⟩
theorem sb2 {W w1 : World} {o : Obj} (hb1 : Below (W.alloc o).drew.heap.size (W.alloc o).drew w1) : Below W.drew.heap.size W.drew w1 := by
 have h := ((Below.refl W.heap.size W).alloc (Nat.le_refl _) o).trans ((show Below (W.alloc o).heap.size (W.alloc o) w1 from ⟨hb1.os, hb1.tape, hb1.output, hb1.size, hb1.block⟩).mono (by simp))
 exact ⟨h.os, h.tape, h.output, h.size, h.block⟩

set_option maxHeartbeats 3200000 in
set_option maxRecDepth 100000 in
theorem pexpr_pre4 (w : World) (num : Nat) (vr : Int) (nm fld : ByteArray) (A : Option Addr) (len cap : Nat) (ns : List Nat) (d : Nat) (least : Int) (hlen : 1 ≤ len) (hr : RowsOk (ExOk w d) w 72 6 A len cap ns) (hn : ns.sum ≤ 1000000)
  (ih : Hid (∀ (v : Value) (n : Nat) (W : World) (l : Int), ExOk W d v n → n ≤ 1000000 → Calls Tryd.prog 37 #[v, .int .i64 l] W (Str W (100 * n)))) :
  Calls Tryd.prog 37 #[.agg #[.int .i64 4, .int .i64 num, .int .i64 vr, .string nm, .string fld, .slice A len cap], .int .i64 least] w (Str w (100 * (1 + ns.sum))) := by
 have hcap : cap ≤ 9223372036854775807 := by have := hr.2.2.1; unfold maxLen at this; omega
 have hlc : len ≤ cap := hr.2.1
 obtain ⟨b, op1, nu, v2, n2, f2, A2, l2, c2, n, hA, hb, hns, hex, g0, g1, g2, g3, g4, g5⟩ := hr.arg (k := 0) (by omega)
 subst hA
 have hsum := sum_at _ _ _ hns
 have HX := Lib.hid hex
 clear hex hr hns
 simp only [Nat.zero_mul, Nat.zero_add] at g0 g1 g2 g3 g4 g5
 obtain ⟨W, hW⟩ : ∃ W, Hid (w.alloc (.cells #[.int .i64 4, .int .i64 num, .int .i64 vr, .string nm, .string fld, .slice (some ⟨b, 0, none⟩) len cap] 72) = W) := ⟨_, Lib.hid rfl⟩
 have x0 : W.cell? ⟨w.heap.size, 0, none⟩ = some (.int .i64 4) := by rw [← hW.out, World.cell?_alloc_at _ _ _ _ rfl]; rfl
 have x3 : W.cell? ⟨w.heap.size, 3, none⟩ = some (.string nm) := by rw [← hW.out, World.cell?_alloc_at _ _ _ _ rfl]; rfl
 have x5 : W.cell? ⟨w.heap.size, 5, none⟩ = some (.slice (some ⟨b, 0, none⟩) len cap) := by rw [← hW.out, World.cell?_alloc_at _ _ _ _ rfl]; rfl
 have hkc : ∀ o, W.cell? ⟨b, o, none⟩ = w.cell? ⟨b, o, none⟩ := fun o => by rw [← hW.out, World.cell?_alloc_lt _ _ _ hb]
 have g0 := (hkc _).trans g0
 have g1 := (hkc _).trans g1
 have g2 := (hkc _).trans g2
 have g3 := (hkc _).trans g3
 have g4 := (hkc _).trans g4
 have g5 := (hkc _).trans g5
 have hBW : Below w.heap.size w W := by rw [← hW.out]; exact (Below.refl _ _).alloc (Nat.le_refl _) _
 have z1 : w.heap.size < W.heap.size := by rw [← hW.out]; simp
 have z2 : b < W.heap.size := by omega
 have hkx := KeptX.below hBW
 have HXK := Lib.hid (HX.out.keep hkx)
 have HB := Lib.hid hBW
 have hcall := at_world ih HXK.out (show n ≤ 1000000 by omega) 5
 have HCALL := Lib.hid hcall
 have b1 : Below W.heap.size W W.drew := ⟨rfl, rfl, rfl, Nat.le_refl _, fun _ _ => rfl⟩
 have b2 : Below W.heap.size W (W.alloc (.cells #[.string ⟨#[45]⟩, .string ⟨#[33]⟩] 9)).drew := by
  have h := (Below.refl W.heap.size W).alloc (Nat.le_refl _) (.cells #[.string ⟨#[45]⟩, .string ⟨#[33]⟩] 9)
  exact ⟨h.os, h.tape, h.output, h.size, h.block⟩
 have hw0 : IntKind.i64.wrap 0 = 0 := by decide
 have z3 : w.heap.size < W.heap.size + 1 := by omega
 have z4 : b < W.heap.size + 1 := by omega
 have B1 := Lib.hid b1
 have B2 := Lib.hid b2
 clear hkc hBW HX hkx hcall b1 b2
 go_enter Tryd.func37, Tryd.ntmps37
 go_wp2_with (go_at_call 52; refine (rank_4 _).mono ?_; rintro e w1 ⟨rfl, rfl⟩)
 rw [hW.out]
 refine wp_region_held_drew (S := fun w' => w'.cell? ⟨w.heap.size, 0, none⟩ = some (.int .i64 4) ∧ w'.cell? ⟨w.heap.size, 3, none⟩ = some (.string nm) ∧ w'.cell? ⟨w.heap.size, 5, none⟩ = some (.slice (some ⟨b, 0, none⟩) len cap) ∧ w'.cell? ⟨b, 0, none⟩ = some (.int .i64 op1) ∧ w'.cell? ⟨b, 1, none⟩ = some (.int .i64 nu) ∧ w'.cell? ⟨b, 2, none⟩ = some (.int .i64 v2) ∧ w'.cell? ⟨b, 3, none⟩ = some (.string n2) ∧ w'.cell? ⟨b, 4, none⟩ = some (.string f2) ∧ w'.cell? ⟨b, 5, none⟩ = some (.slice A2 l2 c2)) (by kernel_rfl) (by go_keep) (fun hHeld => ?_)
 refine wpAnyH_take (i := 1) (v := ?_) rfl (by kernel_rfl) (by kernel_rfl) (by kernel_rfl) (fun _ _ _ h => h) (Or.inl ⟨by rfl, ?_⟩) (by assumption) ?_
 rotate_left 1
 ·intro w hSw
  (try dsimp only at hSw)
  (go_simp) <;> (with_reducible rfl)
 refine wpAnyH_take (i := 2) (v := ?_) rfl (by kernel_rfl) (by kernel_rfl) (by kernel_rfl) (fun _ _ _ h => h) (Or.inl ⟨by rfl, ?_⟩) (by assumption) ?_
 rotate_left 1
 ·intro w hSw
  (try dsimp only at hSw)
  (go_simp) <;> (with_reducible rfl)
 refine wpAnyH_take (i := 3) (v := ?_) rfl (by kernel_rfl) (by kernel_rfl) (by kernel_rfl) (fun _ _ _ h => h) (Or.inl ⟨by rfl, ?_⟩) (by assumption) ?_
 rotate_left 1
 ·intro w hSw
  (try dsimp only at hSw)
  (go_simp) <;> (with_reducible rfl)
 refine wpAnyH_take (i := 6) (v := ?_) rfl (by kernel_rfl) (by kernel_rfl) (by kernel_rfl) (fun _ _ _ h => h) (Or.inl ⟨by rfl, ?_⟩) (by assumption) ?_
 rotate_left 1
 ·intro w hSw
  (try dsimp only at hSw)
  (go_simp) <;> (with_reducible rfl)
 refine wpAnyH_take (i := 7) (v := ?_) rfl (by kernel_rfl) (by kernel_rfl) (by kernel_rfl) (fun _ _ _ h => h) (Or.inl ⟨by rfl, ?_⟩) (by assumption) ?_
 rotate_left 1
 ·intro w hSw
  (try dsimp only at hSw)
  (go_simp) <;> (with_reducible rfl)
 refine wpAnyH_take (i := 8) (v := ?_) rfl (by kernel_rfl) (by kernel_rfl) (by kernel_rfl) (fun _ _ _ h => h) (Or.inl ⟨by rfl, ?_⟩) (by assumption) ?_
 rotate_left 1
 ·intro w hSw
  (try dsimp only at hSw)
  (go_simp) <;> (with_reducible rfl)
 refine wpAnyH_take (i := 9) (v := ?_) rfl (by kernel_rfl) (by kernel_rfl) (by kernel_rfl) (fun _ _ _ h => h) (Or.inl ⟨by rfl, ?_⟩) (by assumption) ?_
 rotate_left 1
 ·intro w hSw
  (try dsimp only at hSw)
  (go_simp) <;> (with_reducible rfl)
 refine wpAnyH_ready (rs := [0, 10]) (by kernel_rfl) (by simp) (AllReadyH.cons rfl (fun K hK => ?_) (AllReadyH.cons rfl (fun K hK => ?_) AllReadyH.nil))
 ·go_simp
  refine hK.out _ _ (by go_keep) (fun hHeld => ?_)
  refine wpAnyH_mono (S' := fun w' => w'.cell? ⟨W.heap.size, 0, none⟩ = some (.string ⟨#[45]⟩) ∧ w'.cell? ⟨w.heap.size, 0, none⟩ = some (.int .i64 4) ∧ w'.cell? ⟨w.heap.size, 3, none⟩ = some (.string nm) ∧ w'.cell? ⟨w.heap.size, 5, none⟩ = some (.slice (some ⟨b, 0, none⟩) len cap) ∧ w'.cell? ⟨b, 0, none⟩ = some (.int .i64 op1) ∧ w'.cell? ⟨b, 1, none⟩ = some (.int .i64 nu) ∧ w'.cell? ⟨b, 2, none⟩ = some (.int .i64 v2) ∧ w'.cell? ⟨b, 3, none⟩ = some (.string n2) ∧ w'.cell? ⟨b, 4, none⟩ = some (.string f2) ∧ w'.cell? ⟨b, 5, none⟩ = some (.slice A2 l2 c2)) (fun _ h => h.2) _ _ _ _ ?_
  have hHeld9 := And.intro (show (W.alloc (.cells #[.string ⟨#[45]⟩, .string ⟨#[33]⟩] 9)).drew.cell? ⟨W.heap.size, 0, none⟩ = some (.string ⟨#[45]⟩) by rw [show ∀ o, (W.alloc (.cells #[.string ⟨#[45]⟩, .string ⟨#[33]⟩] 9)).drew.cell? ⟨W.heap.size, o, none⟩ = (W.alloc (.cells #[.string ⟨#[45]⟩, .string ⟨#[33]⟩] 9)).cell? ⟨W.heap.size, o, none⟩ from fun _ => rfl, World.cell?_alloc_at _ _ _ _ rfl]; rfl) hHeld
  refine wpAnyH_take (i := 4) (v := ?_) rfl (by kernel_rfl) (by kernel_rfl) (by kernel_rfl) (fun _ _ _ h => h) (Or.inl ⟨by rfl, ?_⟩) (by assumption) ?_
  rotate_left 1
  ·intro w hSw
   (try dsimp only at hSw)
   (go_simp) <;> (with_reducible rfl)
  refine wpAnyH_take (i := 5) (v := ?_) rfl (by kernel_rfl) (by kernel_rfl) (by kernel_rfl) (fun _ _ _ h => h) (Or.inl ⟨by rfl, ?_⟩) (by assumption) ?_
  rotate_left 1
  ·intro w hSw
   (try dsimp only at hSw)
   (go_simp) <;> (with_reducible rfl)
  refine wpAnyH_ready (rs := [10]) (by kernel_rfl) (by simp) (AllReadyH.cons rfl (fun K hK => ?_) AllReadyH.nil)
  go_simp
  refine (HCALL.out _ B2.out).mono ?_
  rintro e w1 ⟨s1, rfl, hs1, hb1, hb2⟩
  obtain ⟨hc1, hf1⟩ := pcell hb1
  have f9 : w1.cell? ⟨W.heap.size, 0, none⟩ = some (.string ⟨#[45]⟩) := (hb2.cell (p := ⟨W.heap.size, 0, none⟩) (by simp)).trans (by rw [show ∀ o, (W.alloc (.cells #[.string ⟨#[45]⟩, .string ⟨#[33]⟩] 9)).drew.cell? ⟨W.heap.size, o, none⟩ = (W.alloc (.cells #[.string ⟨#[45]⟩, .string ⟨#[33]⟩] 9)).cell? ⟨W.heap.size, o, none⟩ from fun _ => rfl, World.cell?_alloc_at _ _ _ _ rfl]; rfl)
  have f0 := (hc1 _ _ z1).trans x0
  have f3 := (hc1 _ _ z1).trans x3
  have f5 := (hc1 _ _ z1).trans x5
  have p0 := (hc1 _ _ z2).trans g0
  have p1 := (hc1 _ _ z2).trans g1
  have p2 := (hc1 _ _ z2).trans g2
  have p3 := (hc1 _ _ z2).trans g3
  have p4 := (hc1 _ _ z2).trans g4
  have p5 := (hc1 _ _ z2).trans g5
  clear hc1 hf1
  have hcat := cat ⟨#[45]⟩ s1 (by rw [lit1]; omega)
  refine hK.out _ _ ⟨f9, f0, f3, f5, p0, p1, p2, p3, p4, p5⟩ (fun hHeld => ?_)
  refine wpAnyH_take (i := 11) (v := ?_) rfl (by kernel_rfl) (by kernel_rfl) (by kernel_rfl) (fun _ _ _ h => h) (Or.inl ⟨by rfl, ?_⟩) (by assumption) ?_
  rotate_left 1
  ·intro w hSw
   (try dsimp only at hSw)
   (go_simp) <;> (with_reducible rfl)
  refine wpAnyH_take (i := 12) (v := ?_) rfl (by kernel_rfl) (by kernel_rfl) (by kernel_rfl) (fun _ _ _ h => h) (Or.inl ⟨by rfl, ?_⟩) (by assumption) ?_
  rotate_left 1
  ·intro w hSw
   (try dsimp only at hSw)
   (go_simp) <;> (with_reducible rfl)
  refine wpAnyH_done (by kernel_rfl) ?_ _
  go_wp2_with fail
  all_goals
   go_ret
   exact ⟨_, rfl, by simp only [sz_add, lit1]; omega, HB.out.trans (hb1.mono HB.out.size)⟩
 ·go_simp
  refine (HCALL.out _ B1.out).mono ?_
  rintro e w1 ⟨s1, rfl, hs1, hb1, hb2⟩
  obtain ⟨hc1, hf1⟩ := pcell hb1
  have f0 := (hc1 _ _ z1).trans x0
  have f3 := (hc1 _ _ z1).trans x3
  have f5 := (hc1 _ _ z1).trans x5
  have p0 := (hc1 _ _ z2).trans g0
  have p1 := (hc1 _ _ z2).trans g1
  have p2 := (hc1 _ _ z2).trans g2
  have p3 := (hc1 _ _ z2).trans g3
  have p4 := (hc1 _ _ z2).trans g4
  have p5 := (hc1 _ _ z2).trans g5
  clear hc1 hf1
  have hcat := cat ⟨#[45]⟩ s1 (by rw [lit1]; omega)
  refine hK.out _ _ ⟨f0, f3, f5, p0, p1, p2, p3, p4, p5⟩ (fun hHeld => ?_)
  refine wpAnyH_ready (rs := [0]) (by kernel_rfl) (by simp) (AllReadyH.cons rfl (fun K hK => ?_) AllReadyH.nil)
  go_simp
  refine hK.out _ _ (by go_keep) (fun hHeld => ?_)
  refine wpAnyH_mono (S' := fun w' => w'.cell? ⟨w1.heap.size, 0, none⟩ = some (.string ⟨#[45]⟩) ∧ w'.cell? ⟨w.heap.size, 0, none⟩ = some (.int .i64 4) ∧ w'.cell? ⟨w.heap.size, 3, none⟩ = some (.string nm) ∧ w'.cell? ⟨w.heap.size, 5, none⟩ = some (.slice (some ⟨b, 0, none⟩) len cap) ∧ w'.cell? ⟨b, 0, none⟩ = some (.int .i64 op1) ∧ w'.cell? ⟨b, 1, none⟩ = some (.int .i64 nu) ∧ w'.cell? ⟨b, 2, none⟩ = some (.int .i64 v2) ∧ w'.cell? ⟨b, 3, none⟩ = some (.string n2) ∧ w'.cell? ⟨b, 4, none⟩ = some (.string f2) ∧ w'.cell? ⟨b, 5, none⟩ = some (.slice A2 l2 c2)) (fun _ h => h.2) _ _ _ _ ?_
  have hHeld9 := And.intro (show (w1.alloc (.cells #[.string ⟨#[45]⟩, .string ⟨#[33]⟩] 9)).cell? ⟨w1.heap.size, 0, none⟩ = some (.string ⟨#[45]⟩) by rw [World.cell?_alloc_at _ _ _ _ rfl]; rfl) hHeld
  refine wpAnyH_take (i := 4) (v := ?_) rfl (by kernel_rfl) (by kernel_rfl) (by kernel_rfl) (fun _ _ _ h => h) (Or.inl ⟨by rfl, ?_⟩) (by assumption) ?_
  rotate_left 1
  ·intro w hSw
   (try dsimp only at hSw)
   (go_simp) <;> (with_reducible rfl)
  refine wpAnyH_take (i := 5) (v := ?_) rfl (by kernel_rfl) (by kernel_rfl) (by kernel_rfl) (fun _ _ _ h => h) (Or.inl ⟨by rfl, ?_⟩) (by assumption) ?_
  rotate_left 1
  ·intro w hSw
   (try dsimp only at hSw)
   (go_simp) <;> (with_reducible rfl)
  refine wpAnyH_take (i := 11) (v := ?_) rfl (by kernel_rfl) (by kernel_rfl) (by kernel_rfl) (fun _ _ _ h => h) (Or.inl ⟨by rfl, ?_⟩) (by assumption) ?_
  rotate_left 1
  ·intro w hSw
   (try dsimp only at hSw)
   (go_simp) <;> (with_reducible rfl)
  refine wpAnyH_take (i := 12) (v := ?_) rfl (by kernel_rfl) (by kernel_rfl) (by kernel_rfl) (fun _ _ _ h => h) (Or.inl ⟨by rfl, ?_⟩) (by assumption) ?_
  rotate_left 1
  ·intro w hSw
   (try dsimp only at hSw)
   (go_simp) <;> (with_reducible rfl)
  refine wpAnyH_done (by kernel_rfl) ?_ _
  go_wp2_with fail
  all_goals
   go_ret
   exact ⟨_, rfl, by simp only [sz_add, lit1]; omega, (HB.out.trans (hb1.mono HB.out.size)).alloc (HB.out.trans (hb1.mono HB.out.size)).size _⟩

set_option maxHeartbeats 3200000 in
set_option maxRecDepth 100000 in
theorem pexpr_pre5 (w : World) (num : Nat) (vr : Int) (nm fld : ByteArray) (A : Option Addr) (len cap : Nat) (ns : List Nat) (d : Nat) (least : Int) (hlen : 1 ≤ len) (hr : RowsOk (ExOk w d) w 72 6 A len cap ns) (hn : ns.sum ≤ 1000000)
  (ih : Hid (∀ (v : Value) (n : Nat) (W : World) (l : Int), ExOk W d v n → n ≤ 1000000 → Calls Tryd.prog 37 #[v, .int .i64 l] W (Str W (100 * n)))) :
  Calls Tryd.prog 37 #[.agg #[.int .i64 5, .int .i64 num, .int .i64 vr, .string nm, .string fld, .slice A len cap], .int .i64 least] w (Str w (100 * (1 + ns.sum))) := by
 have hcap : cap ≤ 9223372036854775807 := by have := hr.2.2.1; unfold maxLen at this; omega
 have hlc : len ≤ cap := hr.2.1
 obtain ⟨b, op1, nu, v2, n2, f2, A2, l2, c2, n, hA, hb, hns, hex, g0, g1, g2, g3, g4, g5⟩ := hr.arg (k := 0) (by omega)
 subst hA
 have hsum := sum_at _ _ _ hns
 have HX := Lib.hid hex
 clear hex hr hns
 simp only [Nat.zero_mul, Nat.zero_add] at g0 g1 g2 g3 g4 g5
 obtain ⟨W, hW⟩ : ∃ W, Hid (w.alloc (.cells #[.int .i64 5, .int .i64 num, .int .i64 vr, .string nm, .string fld, .slice (some ⟨b, 0, none⟩) len cap] 72) = W) := ⟨_, Lib.hid rfl⟩
 have x0 : W.cell? ⟨w.heap.size, 0, none⟩ = some (.int .i64 5) := by rw [← hW.out, World.cell?_alloc_at _ _ _ _ rfl]; rfl
 have x3 : W.cell? ⟨w.heap.size, 3, none⟩ = some (.string nm) := by rw [← hW.out, World.cell?_alloc_at _ _ _ _ rfl]; rfl
 have x5 : W.cell? ⟨w.heap.size, 5, none⟩ = some (.slice (some ⟨b, 0, none⟩) len cap) := by rw [← hW.out, World.cell?_alloc_at _ _ _ _ rfl]; rfl
 have hkc : ∀ o, W.cell? ⟨b, o, none⟩ = w.cell? ⟨b, o, none⟩ := fun o => by rw [← hW.out, World.cell?_alloc_lt _ _ _ hb]
 have g0 := (hkc _).trans g0
 have g1 := (hkc _).trans g1
 have g2 := (hkc _).trans g2
 have g3 := (hkc _).trans g3
 have g4 := (hkc _).trans g4
 have g5 := (hkc _).trans g5
 have hBW : Below w.heap.size w W := by rw [← hW.out]; exact (Below.refl _ _).alloc (Nat.le_refl _) _
 have z1 : w.heap.size < W.heap.size := by rw [← hW.out]; simp
 have z2 : b < W.heap.size := by omega
 have hkx := KeptX.below hBW
 have HXK := Lib.hid (HX.out.keep hkx)
 have HB := Lib.hid hBW
 have hcall := at_world ih HXK.out (show n ≤ 1000000 by omega) 5
 have HCALL := Lib.hid hcall
 have b1 : Below W.heap.size W W.drew := ⟨rfl, rfl, rfl, Nat.le_refl _, fun _ _ => rfl⟩
 have b2 : Below W.heap.size W (W.alloc (.cells #[.string ⟨#[45]⟩, .string ⟨#[33]⟩] 9)).drew := by
  have h := (Below.refl W.heap.size W).alloc (Nat.le_refl _) (.cells #[.string ⟨#[45]⟩, .string ⟨#[33]⟩] 9)
  exact ⟨h.os, h.tape, h.output, h.size, h.block⟩
 have hw0 : IntKind.i64.wrap 1 = 1 := by decide
 have z3 : w.heap.size < W.heap.size + 1 := by omega
 have z4 : b < W.heap.size + 1 := by omega
 have B1 := Lib.hid b1
 have B2 := Lib.hid b2
 clear hkc hBW HX hkx hcall b1 b2
 go_enter Tryd.func37, Tryd.ntmps37
 go_wp2_with (go_at_call 52; refine (rank_5 _).mono ?_; rintro e w1 ⟨rfl, rfl⟩)
 rw [hW.out]
 refine wp_region_held_drew (S := fun w' => w'.cell? ⟨w.heap.size, 0, none⟩ = some (.int .i64 5) ∧ w'.cell? ⟨w.heap.size, 3, none⟩ = some (.string nm) ∧ w'.cell? ⟨w.heap.size, 5, none⟩ = some (.slice (some ⟨b, 0, none⟩) len cap) ∧ w'.cell? ⟨b, 0, none⟩ = some (.int .i64 op1) ∧ w'.cell? ⟨b, 1, none⟩ = some (.int .i64 nu) ∧ w'.cell? ⟨b, 2, none⟩ = some (.int .i64 v2) ∧ w'.cell? ⟨b, 3, none⟩ = some (.string n2) ∧ w'.cell? ⟨b, 4, none⟩ = some (.string f2) ∧ w'.cell? ⟨b, 5, none⟩ = some (.slice A2 l2 c2)) (by kernel_rfl) (by go_keep) (fun hHeld => ?_)
 refine wpAnyH_take (i := 1) (v := ?_) rfl (by kernel_rfl) (by kernel_rfl) (by kernel_rfl) (fun _ _ _ h => h) (Or.inl ⟨by rfl, ?_⟩) (by assumption) ?_
 rotate_left 1
 ·intro w hSw
  (try dsimp only at hSw)
  (go_simp) <;> (with_reducible rfl)
 refine wpAnyH_take (i := 2) (v := ?_) rfl (by kernel_rfl) (by kernel_rfl) (by kernel_rfl) (fun _ _ _ h => h) (Or.inl ⟨by rfl, ?_⟩) (by assumption) ?_
 rotate_left 1
 ·intro w hSw
  (try dsimp only at hSw)
  (go_simp) <;> (with_reducible rfl)
 refine wpAnyH_take (i := 3) (v := ?_) rfl (by kernel_rfl) (by kernel_rfl) (by kernel_rfl) (fun _ _ _ h => h) (Or.inl ⟨by rfl, ?_⟩) (by assumption) ?_
 rotate_left 1
 ·intro w hSw
  (try dsimp only at hSw)
  (go_simp) <;> (with_reducible rfl)
 refine wpAnyH_take (i := 6) (v := ?_) rfl (by kernel_rfl) (by kernel_rfl) (by kernel_rfl) (fun _ _ _ h => h) (Or.inl ⟨by rfl, ?_⟩) (by assumption) ?_
 rotate_left 1
 ·intro w hSw
  (try dsimp only at hSw)
  (go_simp) <;> (with_reducible rfl)
 refine wpAnyH_take (i := 7) (v := ?_) rfl (by kernel_rfl) (by kernel_rfl) (by kernel_rfl) (fun _ _ _ h => h) (Or.inl ⟨by rfl, ?_⟩) (by assumption) ?_
 rotate_left 1
 ·intro w hSw
  (try dsimp only at hSw)
  (go_simp) <;> (with_reducible rfl)
 refine wpAnyH_take (i := 8) (v := ?_) rfl (by kernel_rfl) (by kernel_rfl) (by kernel_rfl) (fun _ _ _ h => h) (Or.inl ⟨by rfl, ?_⟩) (by assumption) ?_
 rotate_left 1
 ·intro w hSw
  (try dsimp only at hSw)
  (go_simp) <;> (with_reducible rfl)
 refine wpAnyH_take (i := 9) (v := ?_) rfl (by kernel_rfl) (by kernel_rfl) (by kernel_rfl) (fun _ _ _ h => h) (Or.inl ⟨by rfl, ?_⟩) (by assumption) ?_
 rotate_left 1
 ·intro w hSw
  (try dsimp only at hSw)
  (go_simp) <;> (with_reducible rfl)
 refine wpAnyH_ready (rs := [0, 10]) (by kernel_rfl) (by simp) (AllReadyH.cons rfl (fun K hK => ?_) (AllReadyH.cons rfl (fun K hK => ?_) AllReadyH.nil))
 ·go_simp
  refine hK.out _ _ (by go_keep) (fun hHeld => ?_)
  refine wpAnyH_mono (S' := fun w' => w'.cell? ⟨W.heap.size, 1, none⟩ = some (.string ⟨#[33]⟩) ∧ w'.cell? ⟨w.heap.size, 0, none⟩ = some (.int .i64 5) ∧ w'.cell? ⟨w.heap.size, 3, none⟩ = some (.string nm) ∧ w'.cell? ⟨w.heap.size, 5, none⟩ = some (.slice (some ⟨b, 0, none⟩) len cap) ∧ w'.cell? ⟨b, 0, none⟩ = some (.int .i64 op1) ∧ w'.cell? ⟨b, 1, none⟩ = some (.int .i64 nu) ∧ w'.cell? ⟨b, 2, none⟩ = some (.int .i64 v2) ∧ w'.cell? ⟨b, 3, none⟩ = some (.string n2) ∧ w'.cell? ⟨b, 4, none⟩ = some (.string f2) ∧ w'.cell? ⟨b, 5, none⟩ = some (.slice A2 l2 c2)) (fun _ h => h.2) _ _ _ _ ?_
  have hHeld9 := And.intro (show (W.alloc (.cells #[.string ⟨#[45]⟩, .string ⟨#[33]⟩] 9)).drew.cell? ⟨W.heap.size, 1, none⟩ = some (.string ⟨#[33]⟩) by rw [show ∀ o, (W.alloc (.cells #[.string ⟨#[45]⟩, .string ⟨#[33]⟩] 9)).drew.cell? ⟨W.heap.size, o, none⟩ = (W.alloc (.cells #[.string ⟨#[45]⟩, .string ⟨#[33]⟩] 9)).cell? ⟨W.heap.size, o, none⟩ from fun _ => rfl, World.cell?_alloc_at _ _ _ _ rfl]; rfl) hHeld
  refine wpAnyH_take (i := 4) (v := ?_) rfl (by kernel_rfl) (by kernel_rfl) (by kernel_rfl) (fun _ _ _ h => h) (Or.inl ⟨by rfl, ?_⟩) (by assumption) ?_
  rotate_left 1
  ·intro w hSw
   (try dsimp only at hSw)
   (go_simp) <;> (with_reducible rfl)
  refine wpAnyH_take (i := 5) (v := ?_) rfl (by kernel_rfl) (by kernel_rfl) (by kernel_rfl) (fun _ _ _ h => h) (Or.inl ⟨by rfl, ?_⟩) (by assumption) ?_
  rotate_left 1
  ·intro w hSw
   (try dsimp only at hSw)
   (go_simp) <;> (with_reducible rfl)
  refine wpAnyH_ready (rs := [10]) (by kernel_rfl) (by simp) (AllReadyH.cons rfl (fun K hK => ?_) AllReadyH.nil)
  go_simp
  refine (HCALL.out _ B2.out).mono ?_
  rintro e w1 ⟨s1, rfl, hs1, hb1, hb2⟩
  obtain ⟨hc1, hf1⟩ := pcell hb1
  have f9 : w1.cell? ⟨W.heap.size, 1, none⟩ = some (.string ⟨#[33]⟩) := (hb2.cell (p := ⟨W.heap.size, 1, none⟩) (by simp)).trans (by rw [show ∀ o, (W.alloc (.cells #[.string ⟨#[45]⟩, .string ⟨#[33]⟩] 9)).drew.cell? ⟨W.heap.size, o, none⟩ = (W.alloc (.cells #[.string ⟨#[45]⟩, .string ⟨#[33]⟩] 9)).cell? ⟨W.heap.size, o, none⟩ from fun _ => rfl, World.cell?_alloc_at _ _ _ _ rfl]; rfl)
  have f0 := (hc1 _ _ z1).trans x0
  have f3 := (hc1 _ _ z1).trans x3
  have f5 := (hc1 _ _ z1).trans x5
  have p0 := (hc1 _ _ z2).trans g0
  have p1 := (hc1 _ _ z2).trans g1
  have p2 := (hc1 _ _ z2).trans g2
  have p3 := (hc1 _ _ z2).trans g3
  have p4 := (hc1 _ _ z2).trans g4
  have p5 := (hc1 _ _ z2).trans g5
  clear hc1 hf1
  have hcat := cat ⟨#[33]⟩ s1 (by rw [lit1]; omega)
  refine hK.out _ _ ⟨f9, f0, f3, f5, p0, p1, p2, p3, p4, p5⟩ (fun hHeld => ?_)
  refine wpAnyH_take (i := 11) (v := ?_) rfl (by kernel_rfl) (by kernel_rfl) (by kernel_rfl) (fun _ _ _ h => h) (Or.inl ⟨by rfl, ?_⟩) (by assumption) ?_
  rotate_left 1
  ·intro w hSw
   (try dsimp only at hSw)
   (go_simp) <;> (with_reducible rfl)
  refine wpAnyH_take (i := 12) (v := ?_) rfl (by kernel_rfl) (by kernel_rfl) (by kernel_rfl) (fun _ _ _ h => h) (Or.inl ⟨by rfl, ?_⟩) (by assumption) ?_
  rotate_left 1
  ·intro w hSw
   (try dsimp only at hSw)
   (go_simp) <;> (with_reducible rfl)
  refine wpAnyH_done (by kernel_rfl) ?_ _
  go_wp2_with fail
  all_goals
   go_ret
   exact ⟨_, rfl, by simp only [sz_add, lit1]; omega, HB.out.trans (hb1.mono HB.out.size)⟩
 ·go_simp
  refine (HCALL.out _ B1.out).mono ?_
  rintro e w1 ⟨s1, rfl, hs1, hb1, hb2⟩
  obtain ⟨hc1, hf1⟩ := pcell hb1
  have f0 := (hc1 _ _ z1).trans x0
  have f3 := (hc1 _ _ z1).trans x3
  have f5 := (hc1 _ _ z1).trans x5
  have p0 := (hc1 _ _ z2).trans g0
  have p1 := (hc1 _ _ z2).trans g1
  have p2 := (hc1 _ _ z2).trans g2
  have p3 := (hc1 _ _ z2).trans g3
  have p4 := (hc1 _ _ z2).trans g4
  have p5 := (hc1 _ _ z2).trans g5
  clear hc1 hf1
  have hcat := cat ⟨#[33]⟩ s1 (by rw [lit1]; omega)
  refine hK.out _ _ ⟨f0, f3, f5, p0, p1, p2, p3, p4, p5⟩ (fun hHeld => ?_)
  refine wpAnyH_ready (rs := [0]) (by kernel_rfl) (by simp) (AllReadyH.cons rfl (fun K hK => ?_) AllReadyH.nil)
  go_simp
  refine hK.out _ _ (by go_keep) (fun hHeld => ?_)
  refine wpAnyH_mono (S' := fun w' => w'.cell? ⟨w1.heap.size, 1, none⟩ = some (.string ⟨#[33]⟩) ∧ w'.cell? ⟨w.heap.size, 0, none⟩ = some (.int .i64 5) ∧ w'.cell? ⟨w.heap.size, 3, none⟩ = some (.string nm) ∧ w'.cell? ⟨w.heap.size, 5, none⟩ = some (.slice (some ⟨b, 0, none⟩) len cap) ∧ w'.cell? ⟨b, 0, none⟩ = some (.int .i64 op1) ∧ w'.cell? ⟨b, 1, none⟩ = some (.int .i64 nu) ∧ w'.cell? ⟨b, 2, none⟩ = some (.int .i64 v2) ∧ w'.cell? ⟨b, 3, none⟩ = some (.string n2) ∧ w'.cell? ⟨b, 4, none⟩ = some (.string f2) ∧ w'.cell? ⟨b, 5, none⟩ = some (.slice A2 l2 c2)) (fun _ h => h.2) _ _ _ _ ?_
  have hHeld9 := And.intro (show (w1.alloc (.cells #[.string ⟨#[45]⟩, .string ⟨#[33]⟩] 9)).cell? ⟨w1.heap.size, 1, none⟩ = some (.string ⟨#[33]⟩) by rw [World.cell?_alloc_at _ _ _ _ rfl]; rfl) hHeld
  refine wpAnyH_take (i := 4) (v := ?_) rfl (by kernel_rfl) (by kernel_rfl) (by kernel_rfl) (fun _ _ _ h => h) (Or.inl ⟨by rfl, ?_⟩) (by assumption) ?_
  rotate_left 1
  ·intro w hSw
   (try dsimp only at hSw)
   (go_simp) <;> (with_reducible rfl)
  refine wpAnyH_take (i := 5) (v := ?_) rfl (by kernel_rfl) (by kernel_rfl) (by kernel_rfl) (fun _ _ _ h => h) (Or.inl ⟨by rfl, ?_⟩) (by assumption) ?_
  rotate_left 1
  ·intro w hSw
   (try dsimp only at hSw)
   (go_simp) <;> (with_reducible rfl)
  refine wpAnyH_take (i := 11) (v := ?_) rfl (by kernel_rfl) (by kernel_rfl) (by kernel_rfl) (fun _ _ _ h => h) (Or.inl ⟨by rfl, ?_⟩) (by assumption) ?_
  rotate_left 1
  ·intro w hSw
   (try dsimp only at hSw)
   (go_simp) <;> (with_reducible rfl)
  refine wpAnyH_take (i := 12) (v := ?_) rfl (by kernel_rfl) (by kernel_rfl) (by kernel_rfl) (fun _ _ _ h => h) (Or.inl ⟨by rfl, ?_⟩) (by assumption) ?_
  rotate_left 1
  ·intro w hSw
   (try dsimp only at hSw)
   (go_simp) <;> (with_reducible rfl)
  refine wpAnyH_done (by kernel_rfl) ?_ _
  go_wp2_with fail
  all_goals
   go_ret
   exact ⟨_, rfl, by simp only [sz_add, lit1]; omega, (HB.out.trans (hb1.mono HB.out.size)).alloc (HB.out.trans (hb1.mono HB.out.size)).size _⟩

def binSigns : List (List UInt8) := [[43], [45], [42], [47], [37], [38], [124], [94], [60], [60, 61], [61, 61], [33, 61]]
def binRow : Obj := .cells #[.string ⟨#[43]⟩, .string ⟨#[45]⟩, .string ⟨#[42]⟩, .string ⟨#[47]⟩, .string ⟨#[37]⟩, .string ⟨#[38]⟩, .string ⟨#[124]⟩, .string ⟨#[94]⟩, .string ⟨#[60]⟩, .string ⟨#[60, 61]⟩, .string ⟨#[61, 61]⟩, .string ⟨#[33, 61]⟩] 9
theorem bin_sign (V : World) (k : Nat) (hk : k < 12) : ∃ sg : ByteArray, sg.size ≤ 2 ∧ (V.alloc binRow).cell? ⟨V.heap.size, k, none⟩ = some (.string sg) := by
 refine ⟨⟨(binSigns.getD k []).toArray⟩, ?_, ?_⟩
 ·match k, hk with
  | 0, _ => exact (by decide)
  | 1, _ => exact (by decide)
  | 2, _ => exact (by decide)
  | 3, _ => exact (by decide)
  | 4, _ => exact (by decide)
  | 5, _ => exact (by decide)
  | 6, _ => exact (by decide)
  | 7, _ => exact (by decide)
  | 8, _ => exact (by decide)
  | 9, _ => exact (by decide)
  | 10, _ => exact (by decide)
  | 11, _ => exact (by decide)
 ·unfold binRow
  rw [World.cell?_alloc_at _ _ _ _ rfl]
  match k, hk with
  | 0, _ => rfl
  | 1, _ => rfl
  | 2, _ => rfl
  | 3, _ => rfl
  | 4, _ => rfl
  | 5, _ => rfl
  | 6, _ => rfl
  | 7, _ => rfl
  | 8, _ => rfl
  | 9, _ => rfl
  | 10, _ => rfl
  | 11, _ => rfl

set_option maxHeartbeats 3200000 in
set_option maxRecDepth 100000 in
theorem pexpr_bin (w : World) (op r : Nat) (num : Nat) (vr : Int) (nm fld : ByteArray) (A : Option Addr) (len cap : Nat) (ns : List Nat) (d : Nat) (least : Int) (h6 : 6 ≤ op) (h17 : op ≤ 17) (hrk : Hid (rk op = r)) (hr2 : 2 ≤ r) (hr4 : r ≤ 4) (hlen : 2 ≤ len) (hr : RowsOk (ExOk w d) w 72 6 A len cap ns) (hn : ns.sum ≤ 1000000)
  (ih : Hid (∀ (v : Value) (n : Nat) (W : World) (l : Int), ExOk W d v n → n ≤ 1000000 → Calls Tryd.prog 37 #[v, .int .i64 l] W (Str W (100 * n)))) :
  Calls Tryd.prog 37 #[.agg #[.int .i64 op, .int .i64 num, .int .i64 vr, .string nm, .string fld, .slice A len cap], .int .i64 least] w (Str w (100 * (1 + ns.sum))) := by
 have hcap : cap ≤ 9223372036854775807 := by have := hr.2.2.1; unfold maxLen at this; omega
 have hlc : len ≤ cap := hr.2.1
 obtain ⟨b, op1, nu, v2, n2, f2, A2, l2, c2, n, hA, hb, hns, hex, g0, g1, g2, g3, g4, g5⟩ := hr.arg (k := 0) (by omega)
 obtain ⟨b', op2, nu', v2', n2', f2', A2', l2', c2', n', hA', _, hns', hex', k0, k1, k2, k3, k4, k5⟩ := hr.arg (k := 1) (by omega)
 subst hA
 obtain rfl : b = b' := by injection hA' with h; injection h
 clear hA'
 have hsum := sum_two _ _ _ hns hns'
 have HX := Lib.hid hex
 have HX' := Lib.hid hex'
 clear hex hr hns hex' hns'
 simp only [Nat.zero_mul, Nat.zero_add] at g0 g1 g2 g3 g4 g5
 simp only [Nat.one_mul, Nat.reduceAdd] at k0 k1 k2 k3 k4 k5
 obtain ⟨W, hW⟩ : ∃ W, Hid (w.alloc (.cells #[.int .i64 op, .int .i64 num, .int .i64 vr, .string nm, .string fld, .slice (some ⟨b, 0, none⟩) len cap] 72) = W) := ⟨_, Lib.hid rfl⟩
 have x0 : W.cell? ⟨w.heap.size, 0, none⟩ = some (.int .i64 op) := by rw [← hW.out, World.cell?_alloc_at _ _ _ _ rfl]; rfl
 have x3 : W.cell? ⟨w.heap.size, 3, none⟩ = some (.string nm) := by rw [← hW.out, World.cell?_alloc_at _ _ _ _ rfl]; rfl
 have x5 : W.cell? ⟨w.heap.size, 5, none⟩ = some (.slice (some ⟨b, 0, none⟩) len cap) := by rw [← hW.out, World.cell?_alloc_at _ _ _ _ rfl]; rfl
 have hkc : ∀ o, W.cell? ⟨b, o, none⟩ = w.cell? ⟨b, o, none⟩ := fun o => by rw [← hW.out, World.cell?_alloc_lt _ _ _ hb]
 have g0 := (hkc _).trans g0
 have g1 := (hkc _).trans g1
 have g2 := (hkc _).trans g2
 have g3 := (hkc _).trans g3
 have g4 := (hkc _).trans g4
 have g5 := (hkc _).trans g5
 have k0 := (hkc _).trans k0
 have k1 := (hkc _).trans k1
 have k2 := (hkc _).trans k2
 have k3 := (hkc _).trans k3
 have k4 := (hkc _).trans k4
 have k5 := (hkc _).trans k5
 have hBW : Below w.heap.size w W := by rw [← hW.out]; exact (Below.refl _ _).alloc (Nat.le_refl _) _
 have z1 : w.heap.size < W.heap.size := by rw [← hW.out]; simp
 have z2 : b < W.heap.size := by omega
 have hkx := KeptX.below hBW
 have HXK := Lib.hid (HX.out.keep hkx)
 have HXK' := Lib.hid (HX'.out.keep hkx)
 have HB := Lib.hid hBW
 obtain ⟨sg, hsg, hsgc⟩ := bin_sign W (op - 6) (by omega)
 obtain ⟨V, hV⟩ : ∃ V, Hid (W.alloc binRow = V) := ⟨_, Lib.hid rfl⟩
 have hWs : W.heap.size = w.heap.size + 1 := by rw [← hW.out]; simp
 rw [hV.out, hWs] at hsgc
 have hWV : Below W.heap.size W V := by rw [← hV.out]; exact (Below.refl _ _).alloc (Nat.le_refl _) _
 have hVz : W.heap.size < V.heap.size := by rw [← hV.out]; simp
 have HXA := Lib.hid (HXK.out.keep (KeptX.below hWV))
 have HXB := Lib.hid (HXK'.out.keep (KeptX.below hWV))
 have HCA := Lib.hid (at_world ih HXA.out (show n ≤ 1000000 by omega))
 have HCB := Lib.hid (at_world ih HXB.out (show n' ≤ 1000000 by omega))
 have hvc : ∀ b o, b < W.heap.size → V.cell? ⟨b, o, none⟩ = W.cell? ⟨b, o, none⟩ := (pcell hWV).1
 have hsb : ∀ w1, Below V.heap.size V w1 → w1.cell? ⟨w.heap.size, 0, none⟩ = some (.int .i64 op) ∧ w1.cell? ⟨w.heap.size, 3, none⟩ = some (.string nm) ∧ w1.cell? ⟨w.heap.size, 5, none⟩ = some (.slice (some ⟨b, 0, none⟩) len cap) ∧ w1.cell? ⟨b, 0, none⟩ = some (.int .i64 op1) ∧ w1.cell? ⟨b, 1, none⟩ = some (.int .i64 nu) ∧ w1.cell? ⟨b, 2, none⟩ = some (.int .i64 v2) ∧ w1.cell? ⟨b, 3, none⟩ = some (.string n2) ∧ w1.cell? ⟨b, 4, none⟩ = some (.string f2) ∧ w1.cell? ⟨b, 5, none⟩ = some (.slice A2 l2 c2) ∧ w1.cell? ⟨b, 6, none⟩ = some (.int .i64 op2) ∧ w1.cell? ⟨b, 7, none⟩ = some (.int .i64 nu') ∧ w1.cell? ⟨b, 8, none⟩ = some (.int .i64 v2') ∧ w1.cell? ⟨b, 9, none⟩ = some (.string n2') ∧ w1.cell? ⟨b, 10, none⟩ = some (.string f2') ∧ w1.cell? ⟨b, 11, none⟩ = some (.slice A2' l2' c2') ∧ w1.cell? ⟨w.heap.size + 1, op - 6, none⟩ = some (.string sg) := fun w1 hb1 => by
  have hc1 : ∀ b o, b < W.heap.size → w1.cell? ⟨b, o, none⟩ = W.cell? ⟨b, o, none⟩ := fun b o h => ((pcell hb1).1 b o (by omega)).trans (hvc b o h)
  exact ⟨(hc1 _ _ z1).trans x0, (hc1 _ _ z1).trans x3, (hc1 _ _ z1).trans x5, (hc1 _ _ z2).trans g0, (hc1 _ _ z2).trans g1, (hc1 _ _ z2).trans g2, (hc1 _ _ z2).trans g3, (hc1 _ _ z2).trans g4, (hc1 _ _ z2).trans g5, (hc1 _ _ z2).trans k0, (hc1 _ _ z2).trans k1, (hc1 _ _ z2).trans k2, (hc1 _ _ z2).trans k3, (hc1 _ _ z2).trans k4, (hc1 _ _ z2).trans k5, ((pcell hb1).1 _ _ (by omega)).trans hsgc⟩
 have HSB := Lib.hid hsb
 have D0 : Hid (Below V.heap.size V V.drew) := Lib.hid ⟨rfl, rfl, rfl, Nat.le_refl _, fun _ _ => rfl⟩
 have HS0 := Lib.hid (hsb V.drew D0.out)
 have HBV := Lib.hid (HB.out.trans (hWV.mono HB.out.size))
 have t0 : ((op : Int) == 0) = false := by rw [beq_eq_false_iff_ne]; omega
 have t2 : ((op : Int) == 2) = false := by rw [beq_eq_false_iff_ne]; omega
 have t3 : ((op : Int) == 3) = false := by rw [beq_eq_false_iff_ne]; omega
 have t5 : ((r : Int) == 5) = false := by rw [beq_eq_false_iff_ne]; omega
 have t1 : ((r : Int) == 1) = false := by rw [beq_eq_false_iff_ne]; omega
 have i1 : IntKind.i64.wrap ((op : Int) - 6) = (op : Int) - 6 := IntWalk.i64_in _ (by omega)
 have i2 : (0 : Int) ≤ (op : Int) - 6 := by omega
 have i3 : (op : Int) - 6 < 12 := by omega
 have i4 : ((op : Int) - 6).toNat = op - 6 := by omega
 have l0 : (0 : Int) < (len : Int) := by omega
 have l1 : (1 : Int) < (len : Int) := by omega
 have l4 : 0 < len := by omega
 have l3 : 1 < len := by omega
 have m1 : (6 : Int) ≤ (op : Int) := by omega
 have m2 : (op : Int) < 18 := by omega
 have m3 : op < 18 := by omega
 have j1 : IntKind.i64.wrap ((r : Int) + 1) = (r : Int) + 1 := IntWalk.i64_in _ (by omega)
 have J1 := Lib.hid j1
 have I1 := Lib.hid i1
 have I4 := Lib.hid i4
 have hVlit : W.alloc (.cells #[.string ⟨#[43]⟩, .string ⟨#[45]⟩, .string ⟨#[42]⟩, .string ⟨#[47]⟩, .string ⟨#[37]⟩, .string ⟨#[38]⟩, .string ⟨#[124]⟩, .string ⟨#[94]⟩, .string ⟨#[60]⟩, .string ⟨#[60, 61]⟩, .string ⟨#[61, 61]⟩, .string ⟨#[33, 61]⟩] 9) = V := hV.out
 have HVL := Lib.hid hVlit
 clear j1 hkc hBW HX HX' hkx hWV hvc hsb i1 i4 hsgc hVlit hWs
 go_enter Tryd.func37, Tryd.ntmps37
 go_wp2_with (go_at_call 52; refine (rank_any op _ r hrk).mono ?_; rintro e w1 ⟨rfl, rfl⟩)
 rw [hW.out, HVL.out]
 have i1 := I1.out
 have j1 := J1.out
 have i4 := I4.out
 go_region_held3 (fun w' => w'.cell? ⟨w.heap.size, 0, none⟩ = some (.int .i64 op) ∧ w'.cell? ⟨w.heap.size, 3, none⟩ = some (.string nm) ∧ w'.cell? ⟨w.heap.size, 5, none⟩ = some (.slice (some ⟨b, 0, none⟩) len cap) ∧ w'.cell? ⟨b, 0, none⟩ = some (.int .i64 op1) ∧ w'.cell? ⟨b, 1, none⟩ = some (.int .i64 nu) ∧ w'.cell? ⟨b, 2, none⟩ = some (.int .i64 v2) ∧ w'.cell? ⟨b, 3, none⟩ = some (.string n2) ∧ w'.cell? ⟨b, 4, none⟩ = some (.string f2) ∧ w'.cell? ⟨b, 5, none⟩ = some (.slice A2 l2 c2) ∧ w'.cell? ⟨b, 6, none⟩ = some (.int .i64 op2) ∧ w'.cell? ⟨b, 7, none⟩ = some (.int .i64 nu') ∧ w'.cell? ⟨b, 8, none⟩ = some (.int .i64 v2') ∧ w'.cell? ⟨b, 9, none⟩ = some (.string n2') ∧ w'.cell? ⟨b, 10, none⟩ = some (.string f2') ∧ w'.cell? ⟨b, 11, none⟩ = some (.slice A2' l2' c2') ∧ w'.cell? ⟨w.heap.size + 1, op - 6, none⟩ = some (.string sg)) (first | exact HS0.out | exact HS1)
  (first
   | (go_at_call 37; (with_reducible refine (HCA.out _ _ (by first | exact D0.out | exact hbB)).mono ?_); rintro e wA ⟨sA, rfl, hsA, hbA, _⟩; have HS1 := HSB.out wA hbA; have q1 := cat sA ⟨#[32]⟩ (by simp only [lit1]; omega); have q2 := cat (sA ++ ⟨#[32]⟩) sg (by simp only [sz_add, lit1]; omega); have q3 := cat (sA ++ ⟨#[32]⟩ ++ sg) ⟨#[32]⟩ (by simp only [sz_add, lit1]; omega); try have q4 := cat (sA ++ ⟨#[32]⟩ ++ sg ++ ⟨#[32]⟩) sB (by simp only [sz_add, lit1]; omega))
   | (go_at_call 37; (with_reducible refine (HCB.out _ _ (by first | exact D0.out | exact hbA)).mono ?_); rintro e wB ⟨sB, rfl, hsB, hbB, _⟩; have HS1 := HSB.out wB hbB; try have q4 := cat (sA ++ ⟨#[32]⟩ ++ sg ++ ⟨#[32]⟩) sB (by simp only [sz_add, lit1]; omega)))
 all_goals
  clear HS1 i1 i4 j1
  go_wp2_with fail
 all_goals
  go_ret
  exact ⟨_, rfl, by simp only [sz_add, lit1]; omega, by first | exact HBV.out.trans (hbB.mono HBV.out.size) | exact HBV.out.trans (hbA.mono HBV.out.size)⟩

set_option maxHeartbeats 3200000 in
set_option maxRecDepth 100000 in
theorem pexpr_rel (w : World) (op r : Nat) (num : Nat) (vr : Int) (nm fld : ByteArray) (A : Option Addr) (len cap : Nat) (ns : List Nat) (d : Nat) (least : Int) (h6 : 6 ≤ op) (h17 : op ≤ 17) (hrk : Hid (rk op = r)) (hr1 : r = 1) (hlen : 2 ≤ len) (hr : RowsOk (ExOk w d) w 72 6 A len cap ns) (hn : ns.sum ≤ 1000000)
  (ih : Hid (∀ (v : Value) (n : Nat) (W : World) (l : Int), ExOk W d v n → n ≤ 1000000 → Calls Tryd.prog 37 #[v, .int .i64 l] W (Str W (100 * n)))) :
  Calls Tryd.prog 37 #[.agg #[.int .i64 op, .int .i64 num, .int .i64 vr, .string nm, .string fld, .slice A len cap], .int .i64 least] w (Str w (100 * (1 + ns.sum))) := by
 subst hr1
 have hcap : cap ≤ 9223372036854775807 := by have := hr.2.2.1; unfold maxLen at this; omega
 have hlc : len ≤ cap := hr.2.1
 obtain ⟨b, op1, nu, v2, n2, f2, A2, l2, c2, n, hA, hb, hns, hex, g0, g1, g2, g3, g4, g5⟩ := hr.arg (k := 0) (by omega)
 obtain ⟨b', op2, nu', v2', n2', f2', A2', l2', c2', n', hA', _, hns', hex', k0, k1, k2, k3, k4, k5⟩ := hr.arg (k := 1) (by omega)
 subst hA
 obtain rfl : b = b' := by injection hA' with h; injection h
 clear hA'
 have hsum := sum_two _ _ _ hns hns'
 have HX := Lib.hid hex
 have HX' := Lib.hid hex'
 clear hex hr hns hex' hns'
 simp only [Nat.zero_mul, Nat.zero_add] at g0 g1 g2 g3 g4 g5
 simp only [Nat.one_mul, Nat.reduceAdd] at k0 k1 k2 k3 k4 k5
 obtain ⟨W, hW⟩ : ∃ W, Hid (w.alloc (.cells #[.int .i64 op, .int .i64 num, .int .i64 vr, .string nm, .string fld, .slice (some ⟨b, 0, none⟩) len cap] 72) = W) := ⟨_, Lib.hid rfl⟩
 have x0 : W.cell? ⟨w.heap.size, 0, none⟩ = some (.int .i64 op) := by rw [← hW.out, World.cell?_alloc_at _ _ _ _ rfl]; rfl
 have x3 : W.cell? ⟨w.heap.size, 3, none⟩ = some (.string nm) := by rw [← hW.out, World.cell?_alloc_at _ _ _ _ rfl]; rfl
 have x5 : W.cell? ⟨w.heap.size, 5, none⟩ = some (.slice (some ⟨b, 0, none⟩) len cap) := by rw [← hW.out, World.cell?_alloc_at _ _ _ _ rfl]; rfl
 have hkc : ∀ o, W.cell? ⟨b, o, none⟩ = w.cell? ⟨b, o, none⟩ := fun o => by rw [← hW.out, World.cell?_alloc_lt _ _ _ hb]
 have g0 := (hkc _).trans g0
 have g1 := (hkc _).trans g1
 have g2 := (hkc _).trans g2
 have g3 := (hkc _).trans g3
 have g4 := (hkc _).trans g4
 have g5 := (hkc _).trans g5
 have k0 := (hkc _).trans k0
 have k1 := (hkc _).trans k1
 have k2 := (hkc _).trans k2
 have k3 := (hkc _).trans k3
 have k4 := (hkc _).trans k4
 have k5 := (hkc _).trans k5
 have hBW : Below w.heap.size w W := by rw [← hW.out]; exact (Below.refl _ _).alloc (Nat.le_refl _) _
 have z1 : w.heap.size < W.heap.size := by rw [← hW.out]; simp
 have z2 : b < W.heap.size := by omega
 have hkx := KeptX.below hBW
 have HXK := Lib.hid (HX.out.keep hkx)
 have HXK' := Lib.hid (HX'.out.keep hkx)
 have HB := Lib.hid hBW
 obtain ⟨sg, hsg, hsgc⟩ := bin_sign W (op - 6) (by omega)
 obtain ⟨V, hV⟩ : ∃ V, Hid (W.alloc binRow = V) := ⟨_, Lib.hid rfl⟩
 have hWs : W.heap.size = w.heap.size + 1 := by rw [← hW.out]; simp
 rw [hV.out, hWs] at hsgc
 have hWV : Below W.heap.size W V := by rw [← hV.out]; exact (Below.refl _ _).alloc (Nat.le_refl _) _
 have hVz : W.heap.size < V.heap.size := by rw [← hV.out]; simp
 have HXA := Lib.hid (HXK.out.keep (KeptX.below hWV))
 have HXB := Lib.hid (HXK'.out.keep (KeptX.below hWV))
 have HCA := Lib.hid (at_world ih HXA.out (show n ≤ 1000000 by omega))
 have HCB := Lib.hid (at_world ih HXB.out (show n' ≤ 1000000 by omega))
 have hvc : ∀ b o, b < W.heap.size → V.cell? ⟨b, o, none⟩ = W.cell? ⟨b, o, none⟩ := (pcell hWV).1
 have hsb : ∀ w1, Below V.heap.size V w1 → w1.cell? ⟨w.heap.size, 0, none⟩ = some (.int .i64 op) ∧ w1.cell? ⟨w.heap.size, 3, none⟩ = some (.string nm) ∧ w1.cell? ⟨w.heap.size, 5, none⟩ = some (.slice (some ⟨b, 0, none⟩) len cap) ∧ w1.cell? ⟨b, 0, none⟩ = some (.int .i64 op1) ∧ w1.cell? ⟨b, 1, none⟩ = some (.int .i64 nu) ∧ w1.cell? ⟨b, 2, none⟩ = some (.int .i64 v2) ∧ w1.cell? ⟨b, 3, none⟩ = some (.string n2) ∧ w1.cell? ⟨b, 4, none⟩ = some (.string f2) ∧ w1.cell? ⟨b, 5, none⟩ = some (.slice A2 l2 c2) ∧ w1.cell? ⟨b, 6, none⟩ = some (.int .i64 op2) ∧ w1.cell? ⟨b, 7, none⟩ = some (.int .i64 nu') ∧ w1.cell? ⟨b, 8, none⟩ = some (.int .i64 v2') ∧ w1.cell? ⟨b, 9, none⟩ = some (.string n2') ∧ w1.cell? ⟨b, 10, none⟩ = some (.string f2') ∧ w1.cell? ⟨b, 11, none⟩ = some (.slice A2' l2' c2') ∧ w1.cell? ⟨w.heap.size + 1, op - 6, none⟩ = some (.string sg) := fun w1 hb1 => by
  have hc1 : ∀ b o, b < W.heap.size → w1.cell? ⟨b, o, none⟩ = W.cell? ⟨b, o, none⟩ := fun b o h => ((pcell hb1).1 b o (by omega)).trans (hvc b o h)
  exact ⟨(hc1 _ _ z1).trans x0, (hc1 _ _ z1).trans x3, (hc1 _ _ z1).trans x5, (hc1 _ _ z2).trans g0, (hc1 _ _ z2).trans g1, (hc1 _ _ z2).trans g2, (hc1 _ _ z2).trans g3, (hc1 _ _ z2).trans g4, (hc1 _ _ z2).trans g5, (hc1 _ _ z2).trans k0, (hc1 _ _ z2).trans k1, (hc1 _ _ z2).trans k2, (hc1 _ _ z2).trans k3, (hc1 _ _ z2).trans k4, (hc1 _ _ z2).trans k5, ((pcell hb1).1 _ _ (by omega)).trans hsgc⟩
 have HSB := Lib.hid hsb
 have D0 : Hid (Below V.heap.size V V.drew) := Lib.hid ⟨rfl, rfl, rfl, Nat.le_refl _, fun _ _ => rfl⟩
 have HS0 := Lib.hid (hsb V.drew D0.out)
 have HBV := Lib.hid (HB.out.trans (hWV.mono HB.out.size))
 have t0 : ((op : Int) == 0) = false := by rw [beq_eq_false_iff_ne]; omega
 have t2 : ((op : Int) == 2) = false := by rw [beq_eq_false_iff_ne]; omega
 have t3 : ((op : Int) == 3) = false := by rw [beq_eq_false_iff_ne]; omega
 have i1 : IntKind.i64.wrap ((op : Int) - 6) = (op : Int) - 6 := IntWalk.i64_in _ (by omega)
 have i2 : (0 : Int) ≤ (op : Int) - 6 := by omega
 have i3 : (op : Int) - 6 < 12 := by omega
 have i4 : ((op : Int) - 6).toNat = op - 6 := by omega
 have l0 : (0 : Int) < (len : Int) := by omega
 have l1 : (1 : Int) < (len : Int) := by omega
 have l4 : 0 < len := by omega
 have l3 : 1 < len := by omega
 have m1 : (6 : Int) ≤ (op : Int) := by omega
 have m2 : (op : Int) < 18 := by omega
 have m3 : op < 18 := by omega
 have I1 := Lib.hid i1
 have I4 := Lib.hid i4
 have hVlit : W.alloc (.cells #[.string ⟨#[43]⟩, .string ⟨#[45]⟩, .string ⟨#[42]⟩, .string ⟨#[47]⟩, .string ⟨#[37]⟩, .string ⟨#[38]⟩, .string ⟨#[124]⟩, .string ⟨#[94]⟩, .string ⟨#[60]⟩, .string ⟨#[60, 61]⟩, .string ⟨#[61, 61]⟩, .string ⟨#[33, 61]⟩] 9) = V := hV.out
 have HVL := Lib.hid hVlit
 clear hkc hBW HX HX' hkx hWV hvc hsb i1 i4 hsgc hVlit hWs
 go_enter Tryd.func37, Tryd.ntmps37
 go_wp2_with (go_at_call 52; refine (rank_any op _ 1 hrk).mono ?_; rintro e w1 ⟨rfl, rfl⟩)
 rw [hW.out, HVL.out]
 have i1 := I1.out
 have i4 := I4.out
 go_region_held3 (fun w' => w'.cell? ⟨w.heap.size, 0, none⟩ = some (.int .i64 op) ∧ w'.cell? ⟨w.heap.size, 3, none⟩ = some (.string nm) ∧ w'.cell? ⟨w.heap.size, 5, none⟩ = some (.slice (some ⟨b, 0, none⟩) len cap) ∧ w'.cell? ⟨b, 0, none⟩ = some (.int .i64 op1) ∧ w'.cell? ⟨b, 1, none⟩ = some (.int .i64 nu) ∧ w'.cell? ⟨b, 2, none⟩ = some (.int .i64 v2) ∧ w'.cell? ⟨b, 3, none⟩ = some (.string n2) ∧ w'.cell? ⟨b, 4, none⟩ = some (.string f2) ∧ w'.cell? ⟨b, 5, none⟩ = some (.slice A2 l2 c2) ∧ w'.cell? ⟨b, 6, none⟩ = some (.int .i64 op2) ∧ w'.cell? ⟨b, 7, none⟩ = some (.int .i64 nu') ∧ w'.cell? ⟨b, 8, none⟩ = some (.int .i64 v2') ∧ w'.cell? ⟨b, 9, none⟩ = some (.string n2') ∧ w'.cell? ⟨b, 10, none⟩ = some (.string f2') ∧ w'.cell? ⟨b, 11, none⟩ = some (.slice A2' l2' c2') ∧ w'.cell? ⟨w.heap.size + 1, op - 6, none⟩ = some (.string sg)) (first | exact HS0.out | exact HS1)
  (first
   | (go_at_call 37; (with_reducible refine (HCA.out _ _ (by first | exact D0.out | exact hbB)).mono ?_); rintro e wA ⟨sA, rfl, hsA, hbA, _⟩; have HS1 := HSB.out wA hbA; have q1 := cat sA ⟨#[32]⟩ (by simp only [lit1]; omega); have q2 := cat (sA ++ ⟨#[32]⟩) sg (by simp only [sz_add, lit1]; omega); have q3 := cat (sA ++ ⟨#[32]⟩ ++ sg) ⟨#[32]⟩ (by simp only [sz_add, lit1]; omega); try have q4 := cat (sA ++ ⟨#[32]⟩ ++ sg ++ ⟨#[32]⟩) sB (by simp only [sz_add, lit1]; omega))
   | (go_at_call 37; (with_reducible refine (HCB.out _ _ (by first | exact D0.out | exact hbA)).mono ?_); rintro e wB ⟨sB, rfl, hsB, hbB, _⟩; have HS1 := HSB.out wB hbB; try have q4 := cat (sA ++ ⟨#[32]⟩ ++ sg ++ ⟨#[32]⟩) sB (by simp only [sz_add, lit1]; omega)))
 all_goals
  clear HS1 i1 i4
  go_wp2_with fail
 all_goals
  go_ret
  exact ⟨_, rfl, by simp only [sz_add, lit1]; omega, by first | exact HBV.out.trans (hbB.mono HBV.out.size) | exact HBV.out.trans (hbA.mono HBV.out.size)⟩

theorem pexpr_any : ∀ (d : Nat) (v : Value) (n : Nat) (w : World) (l : Int), ExOk w d v n → n ≤ 1000000 → Calls Tryd.prog 37 #[v, .int .i64 l] w (Str w (100 * n)) := by
 intro d
 induction d with
 | zero => intro v n w l h _; exact h.elim
 | succ d ih =>
  intro v n w l h hn
  obtain ⟨op, num, vr, nm, fld, A, len, cap, ns, rfl, ⟨h1, h2, h3⟩, h4, h5, h6, h7, rfl⟩ := h
  have IH : Hid (∀ (v : Value) (n : Nat) (W : World) (l : Int), ExOk W d v n → n ≤ 1000000 → Calls Tryd.prog 37 #[v, .int .i64 l] W (Str W (100 * n))) := Lib.hid ih
  have hs : ns.sum ≤ 1000000 := by omega
  have up : ∀ e w', Str w 100 e w' → Str w (100 * (1 + ns.sum)) e w' := fun e w' h => h.mono (by omega)
  by_cases c : 6 ≤ op
  ·have hlow : rk op < 5 := by unfold rk; (repeat' split) <;> omega
   have hr := rk_le op
   by_cases hr1 : rk op = 1
   ·exact pexpr_rel w op _ num vr nm fld A len cap ns d l c h1 (Lib.hid rfl) hr1 (h3 c) h7 hs IH
   ·exact pexpr_bin w op _ num vr nm fld A len cap ns d l c h1 (Lib.hid rfl) (by omega) (by omega) (h3 c) h7 hs IH
  ·match op, c, h2 with
   | 0, _, _ => exact (pexpr_lit w num vr nm fld A len cap l h4).mono up
   | 1, _, _ => exact (pexpr_var w num vr nm fld A len cap l h5).mono up
   | 2, _, _ => exact (pexpr_field w num vr nm fld A len cap l h5 h6).mono up
   | 3, _, h2 => exact pexpr_elem w num vr nm fld A len cap ns d l h5 (h2 (by omega)) h7 hs IH
   | 4, _, h2 => exact pexpr_pre4 w num vr nm fld A len cap ns d l (h2 (by omega)) h7 hs IH
   | 5, _, h2 => exact pexpr_pre5 w num vr nm fld A len cap ns d l (h2 (by omega)) h7 hs IH
   | op + 6, c, _ => exact absurd (by omega) c
end Go.Proofs.YtchibamdkaejdaaDoor
namespace Go.Proofs.YtchibamdkaejdaaDoor
open Go.RowKit

theorem ExOk.pos {w : World} : ∀ {d : Nat} {v : Value} {n : Nat}, ExOk w d v n → 1 ≤ n
 | 0, _, _, h => h.elim
 | _ + 1, _, _, h => by
  obtain ⟨op, num, vr, nm, fld, A, len, cap, ns, _, _, _, _, _, _, h⟩ := h
  omega
theorem take_sum_succ (ns : List Nat) (k n : Nat) (h : ns[k]? = some n) : (ns.take (k + 1)).sum = (ns.take k).sum + n := by
 have hk := (List.getElem?_eq_some_iff.1 h).1
 rw [List.take_succ_eq_append_getElem hk, List.sum_append]
 simp [(List.getElem?_eq_some_iff.1 h).2]
theorem take_sum_le (ns : List Nat) (k : Nat) : (ns.take k).sum ≤ ns.sum := by
 have h := congrArg List.sum (List.take_append_drop k ns)
 rw [List.sum_append] at h
 omega
theorem lit2 (x y : UInt8) : (⟨#[x, y]⟩ : ByteArray).size = 2 := rfl

set_option maxHeartbeats 1600000 in
set_option maxRecDepth 100000 in
theorem plist_any (d : Nat) (w : World) (A : Option Addr) (len cap : Nat) (ns : List Nat) (hr : RowsOk (ExOk w d) w 72 6 A len cap ns) (hn : ns.sum ≤ 1000000) :
  Calls Tryd.prog 53 #[.slice A len cap] w (Str w (102 * ns.sum)) := by
 have hcap : cap ≤ 9223372036854775807 := by have := hr.2.2.1; unfold maxLen at this; omega
 have hlc : len ≤ cap := hr.2.1
 have hl := hr.1
 have HR := Lib.hid hr
 clear hr
 go_enter Tryd.func53, Tryd.ntmps53
 go_wp2_with fail
 go_loopw [3, 8] (fun v i wr => ∃ (k : Nat) (s : ByteArray), k ≤ len ∧ i = .int .i64 k ∧ v = .string s ∧ s.size ≤ 102 * (ns.take k).sum ∧ Below w.heap.size w wr) (fun _ i _ => len - (intOf i).toNat)
 case atStart => exact ⟨0, ⟨#[]⟩, Nat.zero_le _, rfl, rfl, Nat.zero_le _, Below.refl _ _⟩
 case round =>
  obtain ⟨k, s, hk, rfl, rfl, hs, hbel⟩ := hrel
  have hts := take_sum_le ns k
  by_cases hlt : k < len
  ·obtain ⟨b, op, nu, v2, n2, f2, A2, l2, c2, n, rfl, hb, hns, hex, g0, g1, g2, g3, g4, g5⟩ := HR.out.arg hlt
   have hpos := hex.pos
   have hsucc := take_sum_succ ns k n hns
   have hle := take_sum_le ns (k + 1)
   have hcell : ∀ o, wr.cell? ⟨b, o, none⟩ = w.cell? ⟨b, o, none⟩ := fun o => hbel.cell (p := ⟨b, o, none⟩) hb
   have g0 := (hcell _).trans g0
   have g1 := (hcell _).trans g1
   have g2 := (hcell _).trans g2
   have g3 := (hcell _).trans g3
   have g4 := (hcell _).trans g4
   have g5 := (hcell _).trans g5
   have hz := hbel.size
   have HX := Lib.hid (hex.keep (KeptX.below hbel))
   have HB := Lib.hid hbel
   have HS := Lib.hid hsucc
   have hsn : 102 * (ns.take k).sum + 102 * n ≤ 102000000 := by omega
   clear hcell hex hbel hns hl hsucc
   by_cases hk0 : k = 0
   ·subst hk0
    simp only [Nat.zero_mul, Nat.zero_add] at g0 g1 g2 g3 g4 g5
    go_wp2_with fail
    refine (pexpr_any d _ n _ 1 (HX.out.keep (KeptX.below ((Below.refl wr.heap.size wr).alloc (Nat.le_refl _) _))) (by omega)).mono ?_
    rintro e w1 ⟨s1, rfl, hs1, hb1⟩
    go_wp2_with fail
    go_roundw
    case rel => exact ⟨0 + 1, _, by omega, by go_num, rfl, by rw [sz_add, HS.out]; omega, (HB.out.alloc hz _).trans (hb1.mono (by simp; omega))⟩
    case measure => simp [intOf]; omega
   ·have hk1 : 0 < k := by omega
    clear hk0
    go_wp2_with fail
    refine (pexpr_any d _ n _ 1 (HX.out.keep (KeptX.below ((Below.refl wr.heap.size wr).alloc (Nat.le_refl _) _))) (by omega)).mono ?_
    rintro e w1 ⟨s1, rfl, hs1, hb1⟩
    have hq : (s ++ ⟨#[44, 32]⟩ : ByteArray).size ≤ 200000000 := by simp only [sz_add, lit2]; omega
    go_wp2_with fail
    go_roundw
    case rel => exact ⟨k + 1, _, by omega, by go_num, rfl, by simp only [sz_add, lit2, HS.out]; omega, (HB.out.alloc hz _).trans (hb1.mono (by simp; omega))⟩
    case measure => simp [intOf]; omega
  ·obtain rfl : k = len := by omega
   go_wp2_with fail
   go_ret
   exact ⟨s, rfl, by omega, hbel⟩
end Go.Proofs.YtchibamdkaejdaaDoor
namespace Go.Proofs.YtchibamdkaejdaaDoor
open Go.RowKit

/-- A row of short texts. -/
def WordRow (w : World) (A : Option Addr) (len cap : Nat) : Prop :=
 len ≤ cap ∧ cap ≤ maxLen ∧ len ≤ 1000 ∧ (len ≠ 0 → ∃ b, A = some ⟨b, 0, none⟩ ∧ b < w.heap.size ∧ ∀ k, k < len → ∃ s : ByteArray, s.size ≤ 20 ∧ w.cell? ⟨b, k, none⟩ = some (.string s))
theorem WordRow.below {w w' : World} {A : Option Addr} {len cap : Nat} (h : WordRow w A len cap) (hb : Below w.heap.size w w') : WordRow w' A len cap := by
 obtain ⟨h1, h2, h3, h4⟩ := h
 refine ⟨h1, h2, h3, fun hl => ?_⟩
 obtain ⟨b, hA, hlt, hc⟩ := h4 hl
 refine ⟨b, hA, Nat.lt_of_lt_of_le hlt hb.size, fun k hk => ?_⟩
 obtain ⟨s, hs, hcell⟩ := hc k hk
 exact ⟨s, hs, (hb.cell (p := ⟨b, k, none⟩) hlt).trans hcell⟩

set_option maxHeartbeats 1600000 in
set_option maxRecDepth 100000 in
theorem words_any (w : World) (A : Option Addr) (len cap : Nat) (hr : WordRow w A len cap) :
  Calls Tryd.prog 23 #[.slice A len cap] w (Str w (22 * len)) := by
 have hcap : cap ≤ 9223372036854775807 := by have := hr.2.1; unfold maxLen at this; omega
 have hlc : len ≤ cap := hr.1
 have hl := hr.2.2.1
 have HR := Lib.hid hr.2.2.2
 clear hr
 go_enter Tryd.func23, Tryd.ntmps23
 go_wp2_with fail
 go_loopw [3, 8] (fun v i wr => ∃ (k : Nat) (s : ByteArray), k ≤ len ∧ i = .int .i64 k ∧ v = .string s ∧ s.size ≤ 22 * k ∧ Below w.heap.size w wr) (fun _ i _ => len - (intOf i).toNat)
 case atStart => exact ⟨0, ⟨#[]⟩, Nat.zero_le _, rfl, rfl, Nat.zero_le _, Below.refl _ _⟩
 case round =>
  obtain ⟨k, s, hk, rfl, rfl, hs, hbel⟩ := hrel
  by_cases hlt : k < len
  ·obtain ⟨b, rfl, hb, hc⟩ := HR.out (by omega)
   obtain ⟨t, ht, hcell⟩ := hc k hlt
   have hcell := (hbel.cell (p := ⟨b, k, none⟩) hb).trans hcell
   have HB := Lib.hid hbel
   clear hc hbel
   by_cases hk0 : k = 0
   ·subst hk0
    go_wp2_with fail
    go_roundw
    case rel => exact ⟨0 + 1, _, by omega, by go_num, rfl, by rw [sz_add]; omega, HB.out⟩
    case measure => simp [intOf]; omega
   ·have hk1 : 0 < k := by omega
    clear hk0
    have hq : (s ++ ⟨#[44, 32]⟩ : ByteArray).size ≤ 200000000 := by simp only [sz_add, lit2]; omega
    go_wp2_with fail
    go_roundw
    case rel => exact ⟨k + 1, _, by omega, by go_num, rfl, by simp only [sz_add, lit2]; omega, HB.out⟩
    case measure => simp [intOf]; omega
  ·obtain rfl : k = len := by omega
   go_wp2_with fail
   go_ret
   exact ⟨s, rfl, by omega, hbel⟩

set_option maxHeartbeats 3200000 in
set_option maxRecDepth 100000 in
theorem value_any (d : Nat) (w : World) (len : Nat) (kind line id vr callee : Int) (nm ty fn : ByteArray) (A1 A2 A3 A4 : Option Addr) (l1 c1 l2 c2 l3 c3 l4 c4 : Nat) (ns : List Nat) (hfn : fn.size ≤ 20) (hr : RowsOk (ExOk w d) w 72 6 A2 l2 c2 ns) (hn : ns.sum ≤ 1000000) :
  Calls Tryd.prog 39 #[.agg #[.int .i64 kind, .int .i64 line, .int .i64 id, .string nm, .string ty, .int .i64 len, .int .i64 vr, .slice A1 l1 c1, .string fn, .int .i64 callee, .slice A2 l2 c2, .slice A3 l3 c3, .slice A4 l4 c4]] w (Str w (102 * ns.sum + 30)) := by
 obtain ⟨W, hW⟩ : ∃ W, Hid (w.alloc (.cells #[.int .i64 kind, .int .i64 line, .int .i64 id, .string nm, .string ty, .int .i64 len, .int .i64 vr, .slice A1 l1 c1, .string fn, .int .i64 callee, .slice A2 l2 c2, .slice A3 l3 c3, .slice A4 l4 c4] 75) = W) := ⟨_, Lib.hid rfl⟩
 have x8 : W.cell? ⟨w.heap.size, 8, none⟩ = some (.string fn) := by rw [← hW.out, World.cell?_alloc_at _ _ _ _ rfl]; rfl
 have x10 : W.cell? ⟨w.heap.size, 10, none⟩ = some (.slice A2 l2 c2) := by rw [← hW.out, World.cell?_alloc_at _ _ _ _ rfl]; rfl
 have hBW : Below w.heap.size w W := by rw [← hW.out]; exact (Below.refl _ _).alloc (Nat.le_refl _) _
 have z1 : w.heap.size < W.heap.size := by rw [← hW.out]; simp
 have hkx := KeptX.below hBW
 have hrk := hr.keep (.inl rfl) hkx (fun v n hv => ExOk.keep hkx hv)
 have HXK := Lib.hid hrk
 have hkd := KeptX.below (show Below W.heap.size W W.drew from ⟨rfl, rfl, rfl, Nat.le_refl _, fun _ _ => rfl⟩)
 have HXD := Lib.hid (hrk.keep (.inl rfl) hkd (fun v n hv => ExOk.keep hkd hv))
 have HB := Lib.hid hBW
 have HSB := Lib.hid (show ∀ w1, Below W.drew.heap.size W.drew w1 → w1.cell? ⟨w.heap.size, 8, none⟩ = some (.string fn) ∧ w1.cell? ⟨w.heap.size, 10, none⟩ = some (.slice A2 l2 c2) from fun w1 hb1 => ⟨((pcell hb1).1 _ _ z1).trans x8, ((pcell hb1).1 _ _ z1).trans x10⟩)
 have q1 := cat fn ⟨#[40]⟩ (by rw [lit1]; omega)
 clear hBW hkx hrk hkd hr
 cases hf : fn.toList.isEmpty
 case true =>
  go_enter Tryd.func39, Tryd.ntmps39
  go_wp2_with fail
  rw [hW.out]
  refine (plist_any d W A2 l2 c2 ns HXK.out hn).mono ?_
  rintro e w1 ⟨s1, rfl, hs1, hb1⟩
  go_wp2_with fail
  go_ret
  exact ⟨s1, rfl, by omega, HB.out.trans (hb1.mono (by omega))⟩
 case false =>
  go_enter Tryd.func39, Tryd.ntmps39
  go_wp2_with fail
  rw [hW.out]
  go_region_held3 (fun w' => w'.cell? ⟨w.heap.size, 8, none⟩ = some (.string fn) ∧ w'.cell? ⟨w.heap.size, 10, none⟩ = some (.slice A2 l2 c2)) (first | go_keep | exact HS1)
   (first | (go_at_call 53; refine (plist_any d _ A2 l2 c2 ns HXD.out hn).mono ?_; rintro e w1 ⟨s1, rfl, hs1, hb1⟩; have HS1 := HSB.out w1 hb1; have q2 := cat (fn ++ ⟨#[40]⟩) s1 (by rw [sz_add, lit1]; omega); have q3 := cat (fn ++ ⟨#[40]⟩ ++ s1) ⟨#[41]⟩ (by rw [sz_add, sz_add, lit1, lit1]; omega)))
  have hbw : Below w.heap.size w w1 := fin1 HB.out hb1
  clear HS1
  go_wp2_with fail
  all_goals
   go_ret
   exact ⟨_, rfl, by simp only [sz_add, lit1]; omega, hbw⟩
end Go.Proofs.YtchibamdkaejdaaDoor
