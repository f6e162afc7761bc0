/-
  The walks of the printer's block and inner, given its statement. Conditions: the printer in memory, the texts' sizes together at most 2^47. The walk of the printer's statement, and statements of whatever depth. Conditions: the printer in memory, the texts' sizes together at most 2^47; what strconv.Itoa answers.
-/
import Derived.Test.YtpfefjfpnmchcaaDoorZWg
namespace Go.Proofs.YtpfefjfpnmchcaaDoor
open Go.RowKit

mutual
/-- The numbers of a statement are numbers of 64 bits. -/
def NmS : Sm → Prop
  | .mk _ _ _ _ _ len _ target _ _ args body els => InI len ∧ NmEs target ∧ NmEs args ∧ NmSs body ∧ NmSs els
def NmSs : List Sm → Prop
  | [] => True
  | s :: l => NmS s ∧ NmSs l
end
theorem NmSs.get : ∀ {xs : List Sm} {k : Nat} {x : Sm}, NmSs xs → xs[k]? = some x → NmS x
  | [], _, _, _, h => by simp at h
  | a :: l, 0, x, hn, h => by
    unfold NmSs at hn
    simp at h
    subst h
    exact hn.1
  | a :: l, k + 1, x, hn, h => by
    unfold NmSs at hn
    exact NmSs.get hn.2 (by simpa using h)
/-- The printer writes statements of a depth as they should be. -/
def StAt (B P d : Nat) : Prop := ∀ (w : World) (l : List UInt8) (v : Value) (x : Sm) (k : Nat), Tx B P l w → Pk w → SmD w tt d v x → NmS x → k ≤ 140737488355328 → l.length + (smT k x).length ≤ 140737488355328 → Calls Tryd.prog 44 #[.pointer (some ⟨P, 0, none⟩), .int .i64 k, v] w (Wrote B P (l ++ smT k x) w)
def WBlkAt (B P d : Nat) : Prop := ∀ (w : World) (l : List UInt8) (A : Option Addr) (c : Nat) (xs : List Sm) (k : Nat), Tx B P l w → Pk w → SmsD w tt d A c xs → NmSs xs → l.length + (blkT k xs).length ≤ 140737488355328 → Calls Tryd.prog 24 #[.pointer (some ⟨P, 0, none⟩), .int .i64 k, .slice A xs.length c] w (Wrote B P (l ++ blkT k xs) w)
section
variable {w : World}
theorem SmD.shape {p : Nat → Prop} : ∀ {d : Nat} {v : Value} {kind line id len var callee : Int} {nm ty fn : List UInt8} {target args : List Ex} {body els : List Sm}, SmD w p d v (.mk kind line id nm ty len var target fn callee args body els) → ∃ A1 c1 A2 c2 A3 c3 A4 c4, v = .agg #[.int .i64 kind, .int .i64 line, .int .i64 id, .string ⟨nm.toArray⟩, .string ⟨ty.toArray⟩, .int .i64 len, .int .i64 var, .slice A1 target.length c1, .string ⟨fn.toArray⟩, .int .i64 callee, .slice A2 args.length c2, .slice A3 body.length c3, .slice A4 els.length c4]
  | 0, _, _, _, _, _, _, _, _, _, _, _, _, _, _, h => h.elim
  | _ + 1, _, _, _, _, _, _, _, _, _, _, _, _, _, _, h => by
    obtain ⟨A1, c1, A2, c2, A3, c3, A4, c4, rfl, _⟩ := h
    exact ⟨A1, c1, A2, c2, A3, c3, A4, c4, rfl⟩
/-- An element of a row of statements. -/
theorem SmsD.arg {p : Nat → Prop} {d : Nat} {A : Option Addr} {cap : Nat} {xs : List Sm} (h : SmsD w p d A cap xs) {k : Nat} {x : Sm} (hk : xs[k]? = some x) :
    ∃ (b : Nat) (kind line id len var callee : Int) (nm ty fn : List UInt8) (target args : List Ex) (body els : List Sm) (A1 : Option Addr) (c1 : Nat) (A2 : Option Addr) (c2 : Nat) (A3 : Option Addr) (c3 : Nat) (A4 : Option Addr) (c4 : Nat), A = some ⟨b, 0, none⟩ ∧ x = .mk kind line id nm ty len var target fn callee args body els ∧ SmD w p d (.agg #[.int .i64 kind, .int .i64 line, .int .i64 id, .string ⟨nm.toArray⟩, .string ⟨ty.toArray⟩, .int .i64 len, .int .i64 var, .slice A1 target.length c1, .string ⟨fn.toArray⟩, .int .i64 callee, .slice A2 args.length c2, .slice A3 body.length c3, .slice A4 els.length c4]) x ∧
      w.cell? ⟨b, k * 13, none⟩ = some (.int .i64 kind) ∧ w.cell? ⟨b, k * 13 + 1, none⟩ = some (.int .i64 line) ∧ w.cell? ⟨b, k * 13 + 2, none⟩ = some (.int .i64 id) ∧ w.cell? ⟨b, k * 13 + 3, none⟩ = some (.string ⟨nm.toArray⟩) ∧ w.cell? ⟨b, k * 13 + 4, none⟩ = some (.string ⟨ty.toArray⟩) ∧ w.cell? ⟨b, k * 13 + 5, none⟩ = some (.int .i64 len) ∧ w.cell? ⟨b, k * 13 + 6, none⟩ = some (.int .i64 var) ∧ w.cell? ⟨b, k * 13 + 7, none⟩ = some (.slice A1 target.length c1) ∧ w.cell? ⟨b, k * 13 + 8, none⟩ = some (.string ⟨fn.toArray⟩) ∧ w.cell? ⟨b, k * 13 + 9, none⟩ = some (.int .i64 callee) ∧ w.cell? ⟨b, k * 13 + 10, none⟩ = some (.slice A2 args.length c2) ∧ w.cell? ⟨b, k * 13 + 11, none⟩ = some (.slice A3 body.length c3) ∧ w.cell? ⟨b, k * 13 + 12, none⟩ = some (.slice A4 els.length c4) := by
  obtain ⟨h1, h2, h3⟩ := h
  obtain ⟨b, cur, fr, hA, hp, hb, hc⟩ := h3 (fun e => by rw [e] at hk; simp at hk)
  obtain ⟨vs, hl, hcell, hP⟩ := hc k x hk
  obtain ⟨kind, line, id, nm, ty, len, var, target, fn, callee, args, body, els⟩ := x
  obtain ⟨A1, c1, A2, c2, A3, c3, A4, c4, hv⟩ := SmD.shape hP
  have hvs : vs = [.int .i64 kind, .int .i64 line, .int .i64 id, .string ⟨nm.toArray⟩, .string ⟨ty.toArray⟩, .int .i64 len, .int .i64 var, .slice A1 target.length c1, .string ⟨fn.toArray⟩, .int .i64 callee, .slice A2 args.length c2, .slice A3 body.length c3, .slice A4 els.length c4] := by
    injection hv with hv
    simpa using congrArg Array.toList hv
  rw [hv] at hP
  subst hvs
  have hg : ∀ j u, j < 13 → ([.int .i64 kind, .int .i64 line, .int .i64 id, .string ⟨nm.toArray⟩, .string ⟨ty.toArray⟩, .int .i64 len, .int .i64 var, .slice A1 target.length c1, .string ⟨fn.toArray⟩, .int .i64 callee, .slice A2 args.length c2, .slice A3 body.length c3, .slice A4 els.length c4] : List Value)[j]? = some u → w.cell? ⟨b, k * 13 + j, none⟩ = some u := fun j u hj hu => by
    rw [cell_of_row w b _ _ _ _ hb, hcell j hj, hu]
  exact ⟨b, kind, line, id, len, var, callee, nm, ty, fn, target, args, body, els, A1, c1, A2, c2, A3, c3, A4, c4, hA, rfl, hP, hg 0 _ (by decide) rfl, hg 1 _ (by decide) rfl, hg 2 _ (by decide) rfl, hg 3 _ (by decide) rfl, hg 4 _ (by decide) rfl, hg 5 _ (by decide) rfl, hg 6 _ (by decide) rfl, hg 7 _ (by decide) rfl, hg 8 _ (by decide) rfl, hg 9 _ (by decide) rfl, hg 10 _ (by decide) rfl, hg 11 _ (by decide) rfl, hg 12 _ (by decide) rfl⟩
def lineT (k : Nat) (s : Sm) : List UInt8 := if s.kind = 10 then [] else tabsT k ++ (smT k s ++ [10])
theorem blkT_snoc (k : Nat) : ∀ (a : List Sm) (x : Sm), blkT k (a ++ [x]) = blkT k a ++ lineT k x
  | [], x => by simp [blkT, lineT]
  | y :: a, x => by rw [List.cons_append, blkT, blkT, blkT_snoc k a x, List.append_assoc]
theorem blkT_le (k : Nat) : ∀ (a b : List Sm), (blkT k a).length ≤ (blkT k (a ++ b)).length
  | a, [] => by simp
  | a, x :: b => by
    have h1 := blkT_le k (a ++ [x]) b
    have h2 := congrArg List.length (blkT_snoc k a x)
    rw [List.length_append] at h2
    rw [List.append_assoc] at h1
    have h3 : [x] ++ b = x :: b := rfl
    rw [h3] at h1
    omega
  termination_by _ b => b.length
end
set_option maxHeartbeats 8000000 in
set_option maxRecDepth 100000 in
theorem block_any {B P d : Nat} (HS1 : StAt B P d) (hgB : PkB B) : WBlkAt B P d := by
  intro w l A c xs k h hO hx hn hL
  have HLL := Lib.hid hL
  have H := Lib.hid h
  have HOO := Lib.hid hO
  have HXX := Lib.hid hx
  have HNN := Lib.hid hn
  have hcap : c ≤ 9223372036854775807 := by have := hx.2.1; unfold maxLen at this; omega
  have hlc : xs.length ≤ c := hx.1
  clear hL h hO hx hn
  go_enter Tryd.func24, Tryd.ntmps24
  go_wp2_with fail
  go_loopw [10] (fun i wr => ∃ j : Nat, i = .int .i64 j ∧ j ≤ xs.length ∧ Tx B P (l ++ blkT k (xs.take j)) wr ∧ Wr B w wr) (fun i _ => xs.length - (intOf i).toNat)
  case atStart => exact ⟨0, rfl, Nat.zero_le _, by simpa [blkT] using H.out, Wr.refl _ _⟩
  case round =>
    obtain ⟨j, rfl, hj, ht, hw⟩ := hrel
    by_cases hlt : j < xs.length
    · have hx' := HXX.out
      have hxk : xs[j]? = some xs[j] := List.getElem?_eq_getElem hlt
      obtain ⟨x, hx0⟩ : ∃ x, Hid (xs[j] = x) := ⟨_, Lib.hid rfl⟩
      rw [hx0.out] at hxk
      have htk := take_snoc_of hxk
      have HN := Lib.hid (NmSs.get HNN.out hxk)
      obtain ⟨b, kind, line, id, len, var, callee, nm, ty, fn, target, args, body, els, A1, c1, A2, c2, A3, c3, A4, c4, rfl, hxe, hxd, g0, g1, g2, g3, g4, g5, g6, g7, g8, g9, g10, g11, g12⟩ := (hx'.wr hw).arg hxk
      have hst : blkT k (xs.take (j + 1)) = blkT k (xs.take j) ++ lineT k x := by rw [htk, blkT_snoc]
      have hle := blkT_le k (xs.take (j + 1)) (xs.drop (j + 1))
      rw [List.take_append_drop, hst, List.length_append] at hle
      have HT := Lib.hid ht
      have HQ := Lib.hid hw
      have HO := Lib.hid (HOO.out.wr hgB hw)
      have HS := Lib.hid hst
      have hkd : x.kind = kind := by rw [hxe]; rfl
      have HL2 := HLL.out
      have HX := Lib.hid hxd
      have HL := Lib.hid (show (l ++ blkT k (xs.take j)).length + (lineT k x).length ≤ 140737488355328 by rw [List.length_append]; omega)
      obtain ⟨lk, hlk⟩ : ∃ s, Hid (l ++ blkT k (xs.take j) = s) := ⟨_, Lib.hid rfl⟩
      rw [hlk.out] at HT HL
      by_cases h10 : kind = 10
      · have hq : (kind != 10) = false := by rw [h10]; rfl
        have hln : lineT k x = [] := by rw [lineT, if_pos (hkd.trans h10)]
        rw [hln] at HS
        clear h10 hln
        by_cases hj0 : j = 0
        · subst hj0
          simp only [Nat.zero_mul, Nat.zero_add] at g0 g1 g2 g3 g4 g5 g6 g7 g8 g9 g10 g11 g12
          clear ht hw hx' hxk htk hst hle hkd HL2 hxe hxd hx0 HL
          go_wp2_with fail
          go_roundw
          case rel => exact ⟨0 + 1, by go_num, by omega, by rw [HS.out, List.append_nil, hlk.out]; exact HT.out.alloc _, HQ.out.alloc HT.out.base _⟩
          case measure => simp [intOf]; omega
        · have hj1 : 0 < j := by omega
          clear hj0
          clear ht hw hx' hxk htk hst hle hkd HL2 hxe hxd hx0 HL
          go_wp2_with fail
          go_roundw
          case rel => exact ⟨j + 1, by go_num, by omega, by rw [HS.out, List.append_nil, hlk.out]; exact HT.out.alloc _, HQ.out.alloc HT.out.base _⟩
          case measure => simp [intOf]; omega
      · have hq : (kind != 10) = true := by simpa using h10
        have hln : lineT k x = tabsT k ++ (smT k x ++ [10]) := by rw [lineT, if_neg (by rw [hkd]; exact h10)]
        rw [hln] at HS HL
        have HLL2 := HL.out
        simp only [List.length_append, List.length_cons, List.length_nil] at HLL2
        rw [show (tabsT k).length = k from List.length_replicate] at HLL2
        replace HL := Lib.hid HLL2
        have HK := Lib.hid (show (tabsT k).length = k from List.length_replicate)
        have hk47 : k ≤ 140737488355328 := by omega
        clear h10 hln HLL2
        by_cases hj0 : j = 0
        · subst hj0
          simp only [Nat.zero_mul, Nat.zero_add] at g0 g1 g2 g3 g4 g5 g6 g7 g8 g9 g10 g11 g12
          clear ht hw hx' hxk htk hst hle hkd HL2 hxe hxd hx0
          have t0 := HT.out.alloc (.cells #[.int .i64 kind, .int .i64 line, .int .i64 id, .string ⟨nm.toArray⟩, .string ⟨ty.toArray⟩, .int .i64 len, .int .i64 var, .slice A1 target.length c1, .string ⟨fn.toArray⟩, .int .i64 callee, .slice A2 args.length c2, .slice A3 body.length c3, .slice A4 els.length c4] 49)
          have q0 := HQ.out.alloc HT.out.base (.cells #[.int .i64 kind, .int .i64 line, .int .i64 id, .string ⟨nm.toArray⟩, .string ⟨ty.toArray⟩, .int .i64 len, .int .i64 var, .slice A1 target.length c1, .string ⟨fn.toArray⟩, .int .i64 callee, .slice A2 args.length c2, .slice A3 body.length c3, .slice A4 els.length c4] 49)
          have o0 := HO.out.wr hgB ((Wr.refl B wr).alloc HT.out.base (.cells #[.int .i64 kind, .int .i64 line, .int .i64 id, .string ⟨nm.toArray⟩, .string ⟨ty.toArray⟩, .int .i64 len, .int .i64 var, .slice A1 target.length c1, .string ⟨fn.toArray⟩, .int .i64 callee, .slice A2 args.length c2, .slice A3 body.length c3, .slice A4 els.length c4] 49))
          have e0 := heap_alloc_new wr (.cells #[.int .i64 kind, .int .i64 line, .int .i64 id, .string ⟨nm.toArray⟩, .string ⟨ty.toArray⟩, .int .i64 len, .int .i64 var, .slice A1 target.length c1, .string ⟨fn.toArray⟩, .int .i64 callee, .slice A2 args.length c2, .slice A3 body.length c3, .slice A4 els.length c4] 49)
          have X_0 := HX.out.wr ((Wr.refl B wr).alloc HT.out.base (.cells #[.int .i64 kind, .int .i64 line, .int .i64 id, .string ⟨nm.toArray⟩, .string ⟨ty.toArray⟩, .int .i64 len, .int .i64 var, .slice A1 target.length c1, .string ⟨fn.toArray⟩, .int .i64 callee, .slice A2 args.length c2, .slice A3 body.length c3, .slice A4 els.length c4] 49))
          obtain ⟨w0, HW0⟩ : ∃ U, Hid (wr.alloc (.cells #[.int .i64 kind, .int .i64 line, .int .i64 id, .string ⟨nm.toArray⟩, .string ⟨ty.toArray⟩, .int .i64 len, .int .i64 var, .slice A1 target.length c1, .string ⟨fn.toArray⟩, .int .i64 callee, .slice A2 args.length c2, .slice A3 body.length c3, .slice A4 els.length c4] 49) = U) := ⟨_, Lib.hid rfl⟩
          rw [HW0.out] at t0 q0 o0 e0 X_0
          have hz0 : w0.heap.size = wr.heap.size + 1 := by rw [← HW0.out]; exact World.size_alloc _ _
          have HZ0 := Lib.hid hz0
          have T0 := Lib.hid t0
          have Q0 := Lib.hid q0
          have O0 := Lib.hid o0
          have E0 := Lib.hid e0
          have X0 := Lib.hid X_0
          have hs0 : wr.heap.size < w0.heap.size := by omega
          clear hz0 t0 q0 o0 e0 X_0
          go_wp2_with fail
          rw [HW0.out]
          refine (tabs_any k T0.out (by have := HL.out; have := HK.out; (try simp only [List.length_append]); (try simp only [List.length_cons]); (try simp only [List.length_nil]); omega)).mono ?_
          rintro e w1 ⟨rfl, t1, q1⟩
          have hs1 : wr.heap.size < w1.heap.size := by have := q1.size; omega
          have T1 := Lib.hid t1
          have Q1 := Lib.hid (Q0.out.trans q1)
          have O1 := Lib.hid (O0.out.wr hgB q1)
          have E1 := Lib.hid (q1.other _ _ _ _ E0.out other_sm)
          have X1 := Lib.hid (X0.out.wr q1)
          clear t1 q1
          go_wp2_with (first | ((with_reducible show wpList _ _ _ (Oper.mk _ (Op.load 49 _) _ _ _ none :: _) _ _); refine wpList_load_all rfl 49 _ rfl wr.heap.size _ _ rfl E1.out Tryd.underlying49 rfl (by kernel_rfl) ?_))
          refine (HS1 w1 _ _ _ k T1.out O1.out X1.out HN.out hk47 (by have := HL.out; have := HK.out; (try simp only [List.length_append]); (try simp only [List.length_cons]); (try simp only [List.length_nil]); omega)).mono ?_
          rintro e w2 ⟨rfl, t2, q2⟩
          have hs2 : wr.heap.size < w2.heap.size := by have := q2.size; omega
          have T2 := Lib.hid t2
          have Q2 := Lib.hid (Q1.out.trans q2)
          have O2 := Lib.hid (O1.out.wr hgB q2)
          have E2 := Lib.hid (q2.other _ _ _ _ E1.out other_sm)
          have X2 := Lib.hid (X1.out.wr q2)
          clear t2 q2
          go_wp2_with fail
          refine (add1 _ [10] T2.out (by first | rfl | (have := HZ0.out; omega)) (by have := HL.out; have := HK.out; (try simp only [List.length_append]); (try simp only [List.length_cons]); (try simp only [List.length_nil]); omega)).mono ?_
          rintro e w3 ⟨rfl, t3, q3⟩
          have hs3 : wr.heap.size < w3.heap.size := by have := q3.size; omega
          have T3 := Lib.hid t3
          have Q3 := Lib.hid (Q2.out.trans q3)
          have O3 := Lib.hid (O2.out.wr hgB q3)
          have E3 := Lib.hid (q3.other _ _ _ _ E2.out other_sm)
          have X3 := Lib.hid (X2.out.wr q3)
          clear t3 q3
          go_wp2_with fail
          go_roundw
          case rel => exact ⟨0 + 1, by go_num, by omega, by have := T3.out; rw [HS.out, ← List.append_assoc, hlk.out]; simpa using this, Q3.out⟩
          case measure => simp [intOf]; omega
        · have hj1 : 0 < j := by omega
          clear hj0
          clear ht hw hx' hxk htk hst hle hkd HL2 hxe hxd hx0
          have t0 := HT.out.alloc (.cells #[.int .i64 kind, .int .i64 line, .int .i64 id, .string ⟨nm.toArray⟩, .string ⟨ty.toArray⟩, .int .i64 len, .int .i64 var, .slice A1 target.length c1, .string ⟨fn.toArray⟩, .int .i64 callee, .slice A2 args.length c2, .slice A3 body.length c3, .slice A4 els.length c4] 49)
          have q0 := HQ.out.alloc HT.out.base (.cells #[.int .i64 kind, .int .i64 line, .int .i64 id, .string ⟨nm.toArray⟩, .string ⟨ty.toArray⟩, .int .i64 len, .int .i64 var, .slice A1 target.length c1, .string ⟨fn.toArray⟩, .int .i64 callee, .slice A2 args.length c2, .slice A3 body.length c3, .slice A4 els.length c4] 49)
          have o0 := HO.out.wr hgB ((Wr.refl B wr).alloc HT.out.base (.cells #[.int .i64 kind, .int .i64 line, .int .i64 id, .string ⟨nm.toArray⟩, .string ⟨ty.toArray⟩, .int .i64 len, .int .i64 var, .slice A1 target.length c1, .string ⟨fn.toArray⟩, .int .i64 callee, .slice A2 args.length c2, .slice A3 body.length c3, .slice A4 els.length c4] 49))
          have e0 := heap_alloc_new wr (.cells #[.int .i64 kind, .int .i64 line, .int .i64 id, .string ⟨nm.toArray⟩, .string ⟨ty.toArray⟩, .int .i64 len, .int .i64 var, .slice A1 target.length c1, .string ⟨fn.toArray⟩, .int .i64 callee, .slice A2 args.length c2, .slice A3 body.length c3, .slice A4 els.length c4] 49)
          have X_0 := HX.out.wr ((Wr.refl B wr).alloc HT.out.base (.cells #[.int .i64 kind, .int .i64 line, .int .i64 id, .string ⟨nm.toArray⟩, .string ⟨ty.toArray⟩, .int .i64 len, .int .i64 var, .slice A1 target.length c1, .string ⟨fn.toArray⟩, .int .i64 callee, .slice A2 args.length c2, .slice A3 body.length c3, .slice A4 els.length c4] 49))
          obtain ⟨w0, HW0⟩ : ∃ U, Hid (wr.alloc (.cells #[.int .i64 kind, .int .i64 line, .int .i64 id, .string ⟨nm.toArray⟩, .string ⟨ty.toArray⟩, .int .i64 len, .int .i64 var, .slice A1 target.length c1, .string ⟨fn.toArray⟩, .int .i64 callee, .slice A2 args.length c2, .slice A3 body.length c3, .slice A4 els.length c4] 49) = U) := ⟨_, Lib.hid rfl⟩
          rw [HW0.out] at t0 q0 o0 e0 X_0
          have hz0 : w0.heap.size = wr.heap.size + 1 := by rw [← HW0.out]; exact World.size_alloc _ _
          have HZ0 := Lib.hid hz0
          have T0 := Lib.hid t0
          have Q0 := Lib.hid q0
          have O0 := Lib.hid o0
          have E0 := Lib.hid e0
          have X0 := Lib.hid X_0
          have hs0 : wr.heap.size < w0.heap.size := by omega
          clear hz0 t0 q0 o0 e0 X_0
          go_wp2_with fail
          rw [HW0.out]
          refine (tabs_any k T0.out (by have := HL.out; have := HK.out; (try simp only [List.length_append]); (try simp only [List.length_cons]); (try simp only [List.length_nil]); omega)).mono ?_
          rintro e w1 ⟨rfl, t1, q1⟩
          have hs1 : wr.heap.size < w1.heap.size := by have := q1.size; omega
          have T1 := Lib.hid t1
          have Q1 := Lib.hid (Q0.out.trans q1)
          have O1 := Lib.hid (O0.out.wr hgB q1)
          have E1 := Lib.hid (q1.other _ _ _ _ E0.out other_sm)
          have X1 := Lib.hid (X0.out.wr q1)
          clear t1 q1
          go_wp2_with (first | ((with_reducible show wpList _ _ _ (Oper.mk _ (Op.load 49 _) _ _ _ none :: _) _ _); refine wpList_load_all rfl 49 _ rfl wr.heap.size _ _ rfl E1.out Tryd.underlying49 rfl (by kernel_rfl) ?_))
          refine (HS1 w1 _ _ _ k T1.out O1.out X1.out HN.out hk47 (by have := HL.out; have := HK.out; (try simp only [List.length_append]); (try simp only [List.length_cons]); (try simp only [List.length_nil]); omega)).mono ?_
          rintro e w2 ⟨rfl, t2, q2⟩
          have hs2 : wr.heap.size < w2.heap.size := by have := q2.size; omega
          have T2 := Lib.hid t2
          have Q2 := Lib.hid (Q1.out.trans q2)
          have O2 := Lib.hid (O1.out.wr hgB q2)
          have E2 := Lib.hid (q2.other _ _ _ _ E1.out other_sm)
          have X2 := Lib.hid (X1.out.wr q2)
          clear t2 q2
          go_wp2_with fail
          refine (add1 _ [10] T2.out (by first | rfl | (have := HZ0.out; omega)) (by have := HL.out; have := HK.out; (try simp only [List.length_append]); (try simp only [List.length_cons]); (try simp only [List.length_nil]); omega)).mono ?_
          rintro e w3 ⟨rfl, t3, q3⟩
          have hs3 : wr.heap.size < w3.heap.size := by have := q3.size; omega
          have T3 := Lib.hid t3
          have Q3 := Lib.hid (Q2.out.trans q3)
          have O3 := Lib.hid (O2.out.wr hgB q3)
          have E3 := Lib.hid (q3.other _ _ _ _ E2.out other_sm)
          have X3 := Lib.hid (X2.out.wr q3)
          clear t3 q3
          go_wp2_with fail
          go_roundw
          case rel => exact ⟨j + 1, by go_num, by omega, by have := T3.out; rw [HS.out, ← List.append_assoc, hlk.out]; simpa using this, Q3.out⟩
          case measure => simp [intOf]; omega
    · obtain rfl : j = xs.length := by omega
      go_wp2_with fail
      go_end0
      exact ⟨rfl, by simpa using ht, hw⟩
set_option maxHeartbeats 2000000 in
set_option maxRecDepth 100000 in
theorem inner_any {B P d : Nat} (HB : WBlkAt B P d) (hgB : PkB B) {w : World} {l : List UInt8} (k : Nat) {A : Option Addr} {c : Nat} {xs : List Sm} (h : Tx B P l w) (hO : Pk w) (hx : SmsD w tt d A c xs) (hn : NmSs xs) (hL : l.length + (braces k (blkT (k + 1) xs)).length ≤ 140737488355328) :
    Calls Tryd.prog 66 #[.pointer (some ⟨P, 0, none⟩), .int .i64 k, .slice A xs.length c] w (Wrote B P (l ++ braces k (blkT (k + 1) xs)) w) := by
  have hE : braces k (blkT (k + 1) xs) = [123, 10] ++ (blkT (k + 1) xs ++ (tabsT k ++ [125])) := rfl
  rw [hE] at hL ⊢
  simp only [List.length_append, List.length_cons, List.length_nil] at hL
  rw [show (tabsT k).length = k from List.length_replicate] at hL
  have hk47 : k ≤ 140737488355328 := by omega
  obtain ⟨k1, hk1, HK1⟩ : ∃ k1 : Nat, (k : Int) + 1 = (k1 : Int) ∧ Hid (k + 1 = k1) := ⟨k + 1, by omega, Lib.hid rfl⟩
  rw [HK1.out] at hL ⊢
  have HL := Lib.hid hL
  clear hL hE
  have q0 := Wr.refl B w
  have T0 := Lib.hid h
  have Q0 := Lib.hid q0
  have O0 := Lib.hid hO
  have X0 := Lib.hid hx
  clear q0
  have HN := Lib.hid hn
  clear h hO hx hn
  go_enter Tryd.func66, Tryd.ntmps66
  go_wp2_with fail
  refine (add1 _ [123, 10] T0.out rfl (by have := HL.out; (try simp only [List.length_append]); (try simp only [List.length_cons]); (try simp only [List.length_nil]); (try simp only [tabsT, List.length_replicate]); omega)).mono ?_
  rintro e w1 ⟨rfl, t1, q1⟩
  have hs1 := q1.size
  have T1 := Lib.hid t1
  have Q1 := Lib.hid (Q0.out.trans q1)
  have O1 := Lib.hid (O0.out.wr hgB q1)
  have X1 := Lib.hid (X0.out.wr q1)
  clear t1 q1
  go_wp2_with fail
  refine (HB w1 _ _ _ _ k1 T1.out O1.out X1.out HN.out (by have := HL.out; (try simp only [List.length_append]); (try simp only [List.length_cons]); (try simp only [List.length_nil]); (try simp only [tabsT, List.length_replicate]); omega)).mono ?_
  rintro e w2 ⟨rfl, t2, q2⟩
  have hs2 := q2.size
  have T2 := Lib.hid t2
  have Q2 := Lib.hid (Q1.out.trans q2)
  have O2 := Lib.hid (O1.out.wr hgB q2)
  have X2 := Lib.hid (X1.out.wr q2)
  clear t2 q2
  go_wp2_with fail
  refine (tabs_any k T2.out (by have := HL.out; (try simp only [List.length_append]); (try simp only [List.length_cons]); (try simp only [List.length_nil]); (try simp only [tabsT, List.length_replicate]); omega)).mono ?_
  rintro e w3 ⟨rfl, t3, q3⟩
  have hs3 := q3.size
  have T3 := Lib.hid t3
  have Q3 := Lib.hid (Q2.out.trans q3)
  have O3 := Lib.hid (O2.out.wr hgB q3)
  have X3 := Lib.hid (X2.out.wr q3)
  clear t3 q3
  go_wp2_with fail
  refine (add1 _ [125] T3.out rfl (by have := HL.out; (try simp only [List.length_append]); (try simp only [List.length_cons]); (try simp only [List.length_nil]); (try simp only [tabsT, List.length_replicate]); omega)).mono ?_
  rintro e w4 ⟨rfl, t4, q4⟩
  have hs4 := q4.size
  have T4 := Lib.hid t4
  have Q4 := Lib.hid (Q3.out.trans q4)
  have O4 := Lib.hid (O3.out.wr hgB q4)
  have X4 := Lib.hid (X3.out.wr q4)
  clear t4 q4
  go_wp2_with fail
  go_end0
  exact ⟨rfl, by have := T4.out; simpa using this, Q4.out⟩
end Go.Proofs.YtpfefjfpnmchcaaDoor
namespace Go.Proofs.YtpfefjfpnmchcaaDoor
open Go.RowKit

set_option maxHeartbeats 4000000 in
set_option maxRecDepth 100000 in
theorem st_declare {B P d : Nat} (hgB : PkB B) {w : World} {l : List UInt8} (line id len var callee : Int) (nm ty fn : List UInt8) {A1 A2 A3 A4 : Option Addr} {c1 c2 c3 c4 : Nat} {target args : List Ex} {body els : List Sm} (k : Nat) (h : Tx B P l w) (hO : Pk w) (hh : (ItoaAt ∧ ExprAt B P d ∧ WBlkAt B P d) ∧ ExsD w tt d A1 c1 target ∧ ExsD w tt d A2 c2 args ∧ SmsD w tt d A3 c3 body ∧ SmsD w tt d A4 c4 els) (hn : InI len ∧ NmEs target ∧ NmEs args ∧ NmSs body ∧ NmSs els)  (hL : l.length + (smT k (Sm.mk 1 line id nm ty len var target fn callee args body els)).length ≤ 140737488355328) :
    Calls Tryd.prog 44 #[.pointer (some ⟨P, 0, none⟩), .int .i64 k, .agg #[.int .i64 1, .int .i64 line, .int .i64 id, .string ⟨nm.toArray⟩, .string ⟨ty.toArray⟩, .int .i64 len, .int .i64 var, .slice A1 target.length c1, .string ⟨fn.toArray⟩, .int .i64 callee, .slice A2 args.length c2, .slice A3 body.length c3, .slice A4 els.length c4]] w (Wrote B P (l ++ smT k (Sm.mk 1 line id nm ty len var target fn callee args body els)) w) := by
  obtain ⟨⟨hI, HE, HB⟩, hx1, hx2, hx3, hx4⟩ := hh
  have hE : smT k (Sm.mk 1 line id nm ty len var target fn callee args body els) = declT nm ty len := by simp [smT]
  rw [hE] at hL ⊢
  have HL := Lib.hid (show l.length + ((declT nm ty len).length) ≤ 140737488355328 by (try simp only [List.length_append] at hL); (try simp only [List.length_cons] at hL); (try simp only [List.length_nil] at hL); omega)
  clear hL hE
  have t0 := h.alloc (.cells #[.int .i64 1, .int .i64 line, .int .i64 id, .string ⟨nm.toArray⟩, .string ⟨ty.toArray⟩, .int .i64 len, .int .i64 var, .slice A1 target.length c1, .string ⟨fn.toArray⟩, .int .i64 callee, .slice A2 args.length c2, .slice A3 body.length c3, .slice A4 els.length c4] 49)
  have q0 := (Wr.refl B w).alloc h.base (.cells #[.int .i64 1, .int .i64 line, .int .i64 id, .string ⟨nm.toArray⟩, .string ⟨ty.toArray⟩, .int .i64 len, .int .i64 var, .slice A1 target.length c1, .string ⟨fn.toArray⟩, .int .i64 callee, .slice A2 args.length c2, .slice A3 body.length c3, .slice A4 els.length c4] 49)
  have o0 := hO.wr hgB q0
  have e0 := heap_alloc_new w (.cells #[.int .i64 1, .int .i64 line, .int .i64 id, .string ⟨nm.toArray⟩, .string ⟨ty.toArray⟩, .int .i64 len, .int .i64 var, .slice A1 target.length c1, .string ⟨fn.toArray⟩, .int .i64 callee, .slice A2 args.length c2, .slice A3 body.length c3, .slice A4 els.length c4] 49)
  obtain ⟨w0, HW0⟩ : ∃ U, Hid (w.alloc (.cells #[.int .i64 1, .int .i64 line, .int .i64 id, .string ⟨nm.toArray⟩, .string ⟨ty.toArray⟩, .int .i64 len, .int .i64 var, .slice A1 target.length c1, .string ⟨fn.toArray⟩, .int .i64 callee, .slice A2 args.length c2, .slice A3 body.length c3, .slice A4 els.length c4] 49) = U) := ⟨_, Lib.hid rfl⟩
  rw [HW0.out] at t0 q0 o0 e0
  have hz0 : w0.heap.size = w.heap.size + 1 := by rw [← HW0.out]; exact World.size_alloc _ _
  have HZ0 := Lib.hid hz0
  have T0 := Lib.hid t0
  have Q0 := Lib.hid q0
  have O0 := Lib.hid o0
  have E0 := Lib.hid e0
  have hs0 : w.heap.size < w0.heap.size := by omega
  clear hz0 t0 q0 o0 e0
  obtain ⟨n0, n1, n2, n3, n4⟩ := hn
  have HN0 := Lib.hid n0
  have HN1 := Lib.hid n1
  have HN2 := Lib.hid n2
  have HN3 := Lib.hid n3
  have HN4 := Lib.hid n4
  clear h hO hx1 hx2 hx3 hx4 n0 n1 n2 n3 n4
  go_enter Tryd.func44, Tryd.ntmps44
  go_wp2_with (first | ((with_reducible show wpList _ _ _ (Oper.mk _ (Op.load 49 _) _ _ _ none :: _) _ _); refine wpList_load_all rfl 49 _ rfl w.heap.size _ _ rfl E0.out Tryd.underlying49 rfl (by kernel_rfl) ?_))
  rw [HW0.out]
  refine (decl_any hgB 1 line id len var callee nm ty fn T0.out O0.out hI HN0.out (by have := HL.out; (try simp only [List.length_append]); (try simp only [List.length_cons]); (try simp only [List.length_nil]); omega)).mono ?_
  rintro e w1 ⟨rfl, t1, q1⟩
  have hs1 : w.heap.size < w1.heap.size := by have := q1.size; omega
  have T1 := Lib.hid t1
  have Q1 := Lib.hid (Q0.out.trans q1)
  have O1 := Lib.hid (O0.out.wr hgB q1)
  have E1 := Lib.hid (q1.other _ _ _ _ E0.out other_sm)
  clear t1 q1
  go_wp2_with fail
  go_end0
  exact ⟨rfl, by have := T1.out; simpa using this, Q1.out⟩
set_option maxHeartbeats 4000000 in
set_option maxRecDepth 100000 in
theorem st_assign_to {B P d : Nat} (hgB : PkB B) {w : World} {l : List UInt8} (line id len var callee : Int) (nm ty fn : List UInt8) {A1 A2 A3 A4 : Option Addr} {c1 c2 c3 c4 : Nat} {target args : List Ex} {body els : List Sm} (k : Nat) (h : Tx B P l w) (hO : Pk w) (hh : (ItoaAt ∧ ExprAt B P d ∧ WBlkAt B P d) ∧ ExsD w tt d A1 c1 target ∧ ExsD w tt d A2 c2 args ∧ SmsD w tt d A3 c3 body ∧ SmsD w tt d A4 c4 els) (hn : InI len ∧ NmEs target ∧ NmEs args ∧ NmSs body ∧ NmSs els) (ht : target ≠ []) (hL : l.length + (smT k (Sm.mk 2 line id nm ty len var target fn callee args body els)).length ≤ 140737488355328) :
    Calls Tryd.prog 44 #[.pointer (some ⟨P, 0, none⟩), .int .i64 k, .agg #[.int .i64 2, .int .i64 line, .int .i64 id, .string ⟨nm.toArray⟩, .string ⟨ty.toArray⟩, .int .i64 len, .int .i64 var, .slice A1 target.length c1, .string ⟨fn.toArray⟩, .int .i64 callee, .slice A2 args.length c2, .slice A3 body.length c3, .slice A4 els.length c4]] w (Wrote B P (l ++ smT k (Sm.mk 2 line id nm ty len var target fn callee args body els)) w) := by
  obtain ⟨⟨hI, HE, HB⟩, hx1, hx2, hx3, hx4⟩ := hh
  have hpos : 0 < target.length := by cases target with | nil => exact absurd rfl ht | cons a r => simp
  have hE : smT k (Sm.mk 2 line id nm ty len var target fn callee args body els) = commas (exsT target) ++ ([32, 61, 32] ++ (valT fn args)) := by simp [smT, ht]
  rw [hE] at hL ⊢
  have HL := Lib.hid (show l.length + ((commas (exsT target)).length + (3 + ((valT fn args).length))) ≤ 140737488355328 by (try simp only [List.length_append] at hL); (try simp only [List.length_cons] at hL); (try simp only [List.length_nil] at hL); omega)
  clear hL hE
  have t0 := h.alloc (.cells #[.int .i64 2, .int .i64 line, .int .i64 id, .string ⟨nm.toArray⟩, .string ⟨ty.toArray⟩, .int .i64 len, .int .i64 var, .slice A1 target.length c1, .string ⟨fn.toArray⟩, .int .i64 callee, .slice A2 args.length c2, .slice A3 body.length c3, .slice A4 els.length c4] 49)
  have q0 := (Wr.refl B w).alloc h.base (.cells #[.int .i64 2, .int .i64 line, .int .i64 id, .string ⟨nm.toArray⟩, .string ⟨ty.toArray⟩, .int .i64 len, .int .i64 var, .slice A1 target.length c1, .string ⟨fn.toArray⟩, .int .i64 callee, .slice A2 args.length c2, .slice A3 body.length c3, .slice A4 els.length c4] 49)
  have o0 := hO.wr hgB q0
  have e0 := heap_alloc_new w (.cells #[.int .i64 2, .int .i64 line, .int .i64 id, .string ⟨nm.toArray⟩, .string ⟨ty.toArray⟩, .int .i64 len, .int .i64 var, .slice A1 target.length c1, .string ⟨fn.toArray⟩, .int .i64 callee, .slice A2 args.length c2, .slice A3 body.length c3, .slice A4 els.length c4] 49)
  have X_0 := hx1.wr q0
  have Y_0 := hx2.wr q0
  obtain ⟨w0, HW0⟩ : ∃ U, Hid (w.alloc (.cells #[.int .i64 2, .int .i64 line, .int .i64 id, .string ⟨nm.toArray⟩, .string ⟨ty.toArray⟩, .int .i64 len, .int .i64 var, .slice A1 target.length c1, .string ⟨fn.toArray⟩, .int .i64 callee, .slice A2 args.length c2, .slice A3 body.length c3, .slice A4 els.length c4] 49) = U) := ⟨_, Lib.hid rfl⟩
  rw [HW0.out] at t0 q0 o0 e0 X_0 Y_0
  have hz0 : w0.heap.size = w.heap.size + 1 := by rw [← HW0.out]; exact World.size_alloc _ _
  have HZ0 := Lib.hid hz0
  have T0 := Lib.hid t0
  have Q0 := Lib.hid q0
  have O0 := Lib.hid o0
  have E0 := Lib.hid e0
  have X0 := Lib.hid X_0
  have Y0 := Lib.hid Y_0
  have hs0 : w.heap.size < w0.heap.size := by omega
  clear hz0 t0 q0 o0 e0 X_0 Y_0
  obtain ⟨n0, n1, n2, n3, n4⟩ := hn
  have HN0 := Lib.hid n0
  have HN1 := Lib.hid n1
  have HN2 := Lib.hid n2
  have HN3 := Lib.hid n3
  have HN4 := Lib.hid n4
  clear h hO hx1 hx2 hx3 hx4 n0 n1 n2 n3 n4
  go_enter Tryd.func44, Tryd.ntmps44
  go_wp2_with fail
  rw [HW0.out]
  refine (list_any HE hgB T0.out O0.out X0.out HN1.out (by have := HL.out; (try simp only [List.length_append]); (try simp only [List.length_cons]); (try simp only [List.length_nil]); omega)).mono ?_
  rintro e w1 ⟨rfl, t1, q1⟩
  have hs1 : w.heap.size < w1.heap.size := by have := q1.size; omega
  have T1 := Lib.hid t1
  have Q1 := Lib.hid (Q0.out.trans q1)
  have O1 := Lib.hid (O0.out.wr hgB q1)
  have E1 := Lib.hid (q1.other _ _ _ _ E0.out other_sm)
  have X1 := Lib.hid (X0.out.wr q1)
  have Y1 := Lib.hid (Y0.out.wr q1)
  clear t1 q1
  obtain ⟨z0, z3, z4, z5, z7, z8, z10, z11, z12⟩ := cells_sm E1.out
  go_wp2_with fail
  clear z0 z3 z4 z5 z7 z8 z10 z11 z12
  refine (add1 _ [32, 61, 32] T1.out (by first | rfl | (have := HZ0.out; omega)) (by have := HL.out; (try simp only [List.length_append]); (try simp only [List.length_cons]); (try simp only [List.length_nil]); omega)).mono ?_
  rintro e w2 ⟨rfl, t2, q2⟩
  have hs2 : w.heap.size < w2.heap.size := by have := q2.size; omega
  have T2 := Lib.hid t2
  have Q2 := Lib.hid (Q1.out.trans q2)
  have O2 := Lib.hid (O1.out.wr hgB q2)
  have E2 := Lib.hid (q2.other _ _ _ _ E1.out other_sm)
  have X2 := Lib.hid (X1.out.wr q2)
  have Y2 := Lib.hid (Y1.out.wr q2)
  clear t2 q2
  obtain ⟨z0, z3, z4, z5, z7, z8, z10, z11, z12⟩ := cells_sm E2.out
  go_wp2_with (first | ((with_reducible show wpList _ _ _ (Oper.mk _ (Op.load 49 _) _ _ _ none :: _) _ _); refine wpList_load_all rfl 49 _ rfl w.heap.size _ _ rfl E2.out Tryd.underlying49 rfl (by kernel_rfl) ?_))
  clear z0 z3 z4 z5 z7 z8 z10 z11 z12
  refine (wvalue_any HE hgB 2 line id len var callee nm ty fn T2.out O2.out Y2.out HN2.out (by have := HL.out; (try simp only [List.length_append]); (try simp only [List.length_cons]); (try simp only [List.length_nil]); omega)).mono ?_
  rintro e w3 ⟨rfl, t3, q3⟩
  have hs3 : w.heap.size < w3.heap.size := by have := q3.size; omega
  have T3 := Lib.hid t3
  have Q3 := Lib.hid (Q2.out.trans q3)
  have O3 := Lib.hid (O2.out.wr hgB q3)
  have E3 := Lib.hid (q3.other _ _ _ _ E2.out other_sm)
  have X3 := Lib.hid (X2.out.wr q3)
  have Y3 := Lib.hid (Y2.out.wr q3)
  clear t3 q3
  go_wp2_with fail
  go_end0
  exact ⟨rfl, by have := T3.out; simpa using this, Q3.out⟩
set_option maxHeartbeats 4000000 in
set_option maxRecDepth 100000 in
theorem st_assign_plain {B P d : Nat} (hgB : PkB B) {w : World} {l : List UInt8} (line id len var callee : Int) (nm ty fn : List UInt8) {A1 A2 A3 A4 : Option Addr} {c1 c2 c3 c4 : Nat} {args : List Ex} {body els : List Sm} (k : Nat) (h : Tx B P l w) (hO : Pk w) (hh : (ItoaAt ∧ ExprAt B P d ∧ WBlkAt B P d) ∧ ExsD w tt d A1 c1 [] ∧ ExsD w tt d A2 c2 args ∧ SmsD w tt d A3 c3 body ∧ SmsD w tt d A4 c4 els) (hn : InI len ∧ NmEs [] ∧ NmEs args ∧ NmSs body ∧ NmSs els)  (hL : l.length + (smT k (Sm.mk 2 line id nm ty len var [] fn callee args body els)).length ≤ 140737488355328) :
    Calls Tryd.prog 44 #[.pointer (some ⟨P, 0, none⟩), .int .i64 k, .agg #[.int .i64 2, .int .i64 line, .int .i64 id, .string ⟨nm.toArray⟩, .string ⟨ty.toArray⟩, .int .i64 len, .int .i64 var, .slice A1 0 c1, .string ⟨fn.toArray⟩, .int .i64 callee, .slice A2 args.length c2, .slice A3 body.length c3, .slice A4 els.length c4]] w (Wrote B P (l ++ smT k (Sm.mk 2 line id nm ty len var [] fn callee args body els)) w) := by
  obtain ⟨⟨hI, HE, HB⟩, hx1, hx2, hx3, hx4⟩ := hh
  have hE : smT k (Sm.mk 2 line id nm ty len var [] fn callee args body els) = valT fn args := by simp [smT]
  rw [hE] at hL ⊢
  have HL := Lib.hid (show l.length + ((valT fn args).length) ≤ 140737488355328 by (try simp only [List.length_append] at hL); (try simp only [List.length_cons] at hL); (try simp only [List.length_nil] at hL); omega)
  clear hL hE
  have t0 := h.alloc (.cells #[.int .i64 2, .int .i64 line, .int .i64 id, .string ⟨nm.toArray⟩, .string ⟨ty.toArray⟩, .int .i64 len, .int .i64 var, .slice A1 0 c1, .string ⟨fn.toArray⟩, .int .i64 callee, .slice A2 args.length c2, .slice A3 body.length c3, .slice A4 els.length c4] 49)
  have q0 := (Wr.refl B w).alloc h.base (.cells #[.int .i64 2, .int .i64 line, .int .i64 id, .string ⟨nm.toArray⟩, .string ⟨ty.toArray⟩, .int .i64 len, .int .i64 var, .slice A1 0 c1, .string ⟨fn.toArray⟩, .int .i64 callee, .slice A2 args.length c2, .slice A3 body.length c3, .slice A4 els.length c4] 49)
  have o0 := hO.wr hgB q0
  have e0 := heap_alloc_new w (.cells #[.int .i64 2, .int .i64 line, .int .i64 id, .string ⟨nm.toArray⟩, .string ⟨ty.toArray⟩, .int .i64 len, .int .i64 var, .slice A1 0 c1, .string ⟨fn.toArray⟩, .int .i64 callee, .slice A2 args.length c2, .slice A3 body.length c3, .slice A4 els.length c4] 49)
  have X_0 := hx1.wr q0
  have Y_0 := hx2.wr q0
  obtain ⟨w0, HW0⟩ : ∃ U, Hid (w.alloc (.cells #[.int .i64 2, .int .i64 line, .int .i64 id, .string ⟨nm.toArray⟩, .string ⟨ty.toArray⟩, .int .i64 len, .int .i64 var, .slice A1 0 c1, .string ⟨fn.toArray⟩, .int .i64 callee, .slice A2 args.length c2, .slice A3 body.length c3, .slice A4 els.length c4] 49) = U) := ⟨_, Lib.hid rfl⟩
  rw [HW0.out] at t0 q0 o0 e0 X_0 Y_0
  have hz0 : w0.heap.size = w.heap.size + 1 := by rw [← HW0.out]; exact World.size_alloc _ _
  have HZ0 := Lib.hid hz0
  have T0 := Lib.hid t0
  have Q0 := Lib.hid q0
  have O0 := Lib.hid o0
  have E0 := Lib.hid e0
  have X0 := Lib.hid X_0
  have Y0 := Lib.hid Y_0
  have hs0 : w.heap.size < w0.heap.size := by omega
  clear hz0 t0 q0 o0 e0 X_0 Y_0
  obtain ⟨n0, n1, n2, n3, n4⟩ := hn
  have HN0 := Lib.hid n0
  have HN1 := Lib.hid n1
  have HN2 := Lib.hid n2
  have HN3 := Lib.hid n3
  have HN4 := Lib.hid n4
  clear h hO hx1 hx2 hx3 hx4 n0 n1 n2 n3 n4
  go_enter Tryd.func44, Tryd.ntmps44
  go_wp2_with (first | ((with_reducible show wpList _ _ _ (Oper.mk _ (Op.load 49 _) _ _ _ none :: _) _ _); refine wpList_load_all rfl 49 _ rfl w.heap.size _ _ rfl E0.out Tryd.underlying49 rfl (by kernel_rfl) ?_))
  rw [HW0.out]
  refine (wvalue_any HE hgB 2 line id len var callee nm ty fn T0.out O0.out Y0.out HN2.out (by have := HL.out; (try simp only [List.length_append]); (try simp only [List.length_cons]); (try simp only [List.length_nil]); omega)).mono ?_
  rintro e w1 ⟨rfl, t1, q1⟩
  have hs1 : w.heap.size < w1.heap.size := by have := q1.size; omega
  have T1 := Lib.hid t1
  have Q1 := Lib.hid (Q0.out.trans q1)
  have O1 := Lib.hid (O0.out.wr hgB q1)
  have E1 := Lib.hid (q1.other _ _ _ _ E0.out other_sm)
  have X1 := Lib.hid (X0.out.wr q1)
  have Y1 := Lib.hid (Y0.out.wr q1)
  clear t1 q1
  go_wp2_with fail
  go_end0
  exact ⟨rfl, by have := T1.out; simpa using this, Q1.out⟩
set_option maxHeartbeats 4000000 in
set_option maxRecDepth 100000 in
theorem st_call_to {B P d : Nat} (hgB : PkB B) {w : World} {l : List UInt8} (line id len var callee : Int) (nm ty fn : List UInt8) {A1 A2 A3 A4 : Option Addr} {c1 c2 c3 c4 : Nat} {target args : List Ex} {body els : List Sm} (k : Nat) (h : Tx B P l w) (hO : Pk w) (hh : (ItoaAt ∧ ExprAt B P d ∧ WBlkAt B P d) ∧ ExsD w tt d A1 c1 target ∧ ExsD w tt d A2 c2 args ∧ SmsD w tt d A3 c3 body ∧ SmsD w tt d A4 c4 els) (hn : InI len ∧ NmEs target ∧ NmEs args ∧ NmSs body ∧ NmSs els) (ht : target ≠ []) (hL : l.length + (smT k (Sm.mk 3 line id nm ty len var target fn callee args body els)).length ≤ 140737488355328) :
    Calls Tryd.prog 44 #[.pointer (some ⟨P, 0, none⟩), .int .i64 k, .agg #[.int .i64 3, .int .i64 line, .int .i64 id, .string ⟨nm.toArray⟩, .string ⟨ty.toArray⟩, .int .i64 len, .int .i64 var, .slice A1 target.length c1, .string ⟨fn.toArray⟩, .int .i64 callee, .slice A2 args.length c2, .slice A3 body.length c3, .slice A4 els.length c4]] w (Wrote B P (l ++ smT k (Sm.mk 3 line id nm ty len var target fn callee args body els)) w) := by
  obtain ⟨⟨hI, HE, HB⟩, hx1, hx2, hx3, hx4⟩ := hh
  have hpos : 0 < target.length := by cases target with | nil => exact absurd rfl ht | cons a r => simp
  have hE : smT k (Sm.mk 3 line id nm ty len var target fn callee args body els) = commas (exsT target) ++ ([32, 61, 32] ++ (valT fn args)) := by simp [smT, ht]
  rw [hE] at hL ⊢
  have HL := Lib.hid (show l.length + ((commas (exsT target)).length + (3 + ((valT fn args).length))) ≤ 140737488355328 by (try simp only [List.length_append] at hL); (try simp only [List.length_cons] at hL); (try simp only [List.length_nil] at hL); omega)
  clear hL hE
  have t0 := h.alloc (.cells #[.int .i64 3, .int .i64 line, .int .i64 id, .string ⟨nm.toArray⟩, .string ⟨ty.toArray⟩, .int .i64 len, .int .i64 var, .slice A1 target.length c1, .string ⟨fn.toArray⟩, .int .i64 callee, .slice A2 args.length c2, .slice A3 body.length c3, .slice A4 els.length c4] 49)
  have q0 := (Wr.refl B w).alloc h.base (.cells #[.int .i64 3, .int .i64 line, .int .i64 id, .string ⟨nm.toArray⟩, .string ⟨ty.toArray⟩, .int .i64 len, .int .i64 var, .slice A1 target.length c1, .string ⟨fn.toArray⟩, .int .i64 callee, .slice A2 args.length c2, .slice A3 body.length c3, .slice A4 els.length c4] 49)
  have o0 := hO.wr hgB q0
  have e0 := heap_alloc_new w (.cells #[.int .i64 3, .int .i64 line, .int .i64 id, .string ⟨nm.toArray⟩, .string ⟨ty.toArray⟩, .int .i64 len, .int .i64 var, .slice A1 target.length c1, .string ⟨fn.toArray⟩, .int .i64 callee, .slice A2 args.length c2, .slice A3 body.length c3, .slice A4 els.length c4] 49)
  have X_0 := hx1.wr q0
  have Y_0 := hx2.wr q0
  obtain ⟨w0, HW0⟩ : ∃ U, Hid (w.alloc (.cells #[.int .i64 3, .int .i64 line, .int .i64 id, .string ⟨nm.toArray⟩, .string ⟨ty.toArray⟩, .int .i64 len, .int .i64 var, .slice A1 target.length c1, .string ⟨fn.toArray⟩, .int .i64 callee, .slice A2 args.length c2, .slice A3 body.length c3, .slice A4 els.length c4] 49) = U) := ⟨_, Lib.hid rfl⟩
  rw [HW0.out] at t0 q0 o0 e0 X_0 Y_0
  have hz0 : w0.heap.size = w.heap.size + 1 := by rw [← HW0.out]; exact World.size_alloc _ _
  have HZ0 := Lib.hid hz0
  have T0 := Lib.hid t0
  have Q0 := Lib.hid q0
  have O0 := Lib.hid o0
  have E0 := Lib.hid e0
  have X0 := Lib.hid X_0
  have Y0 := Lib.hid Y_0
  have hs0 : w.heap.size < w0.heap.size := by omega
  clear hz0 t0 q0 o0 e0 X_0 Y_0
  obtain ⟨n0, n1, n2, n3, n4⟩ := hn
  have HN0 := Lib.hid n0
  have HN1 := Lib.hid n1
  have HN2 := Lib.hid n2
  have HN3 := Lib.hid n3
  have HN4 := Lib.hid n4
  clear h hO hx1 hx2 hx3 hx4 n0 n1 n2 n3 n4
  go_enter Tryd.func44, Tryd.ntmps44
  go_wp2_with fail
  rw [HW0.out]
  refine (list_any HE hgB T0.out O0.out X0.out HN1.out (by have := HL.out; (try simp only [List.length_append]); (try simp only [List.length_cons]); (try simp only [List.length_nil]); omega)).mono ?_
  rintro e w1 ⟨rfl, t1, q1⟩
  have hs1 : w.heap.size < w1.heap.size := by have := q1.size; omega
  have T1 := Lib.hid t1
  have Q1 := Lib.hid (Q0.out.trans q1)
  have O1 := Lib.hid (O0.out.wr hgB q1)
  have E1 := Lib.hid (q1.other _ _ _ _ E0.out other_sm)
  have X1 := Lib.hid (X0.out.wr q1)
  have Y1 := Lib.hid (Y0.out.wr q1)
  clear t1 q1
  obtain ⟨z0, z3, z4, z5, z7, z8, z10, z11, z12⟩ := cells_sm E1.out
  go_wp2_with fail
  clear z0 z3 z4 z5 z7 z8 z10 z11 z12
  refine (add1 _ [32, 61, 32] T1.out (by first | rfl | (have := HZ0.out; omega)) (by have := HL.out; (try simp only [List.length_append]); (try simp only [List.length_cons]); (try simp only [List.length_nil]); omega)).mono ?_
  rintro e w2 ⟨rfl, t2, q2⟩
  have hs2 : w.heap.size < w2.heap.size := by have := q2.size; omega
  have T2 := Lib.hid t2
  have Q2 := Lib.hid (Q1.out.trans q2)
  have O2 := Lib.hid (O1.out.wr hgB q2)
  have E2 := Lib.hid (q2.other _ _ _ _ E1.out other_sm)
  have X2 := Lib.hid (X1.out.wr q2)
  have Y2 := Lib.hid (Y1.out.wr q2)
  clear t2 q2
  obtain ⟨z0, z3, z4, z5, z7, z8, z10, z11, z12⟩ := cells_sm E2.out
  go_wp2_with (first | ((with_reducible show wpList _ _ _ (Oper.mk _ (Op.load 49 _) _ _ _ none :: _) _ _); refine wpList_load_all rfl 49 _ rfl w.heap.size _ _ rfl E2.out Tryd.underlying49 rfl (by kernel_rfl) ?_))
  clear z0 z3 z4 z5 z7 z8 z10 z11 z12
  refine (wvalue_any HE hgB 3 line id len var callee nm ty fn T2.out O2.out Y2.out HN2.out (by have := HL.out; (try simp only [List.length_append]); (try simp only [List.length_cons]); (try simp only [List.length_nil]); omega)).mono ?_
  rintro e w3 ⟨rfl, t3, q3⟩
  have hs3 : w.heap.size < w3.heap.size := by have := q3.size; omega
  have T3 := Lib.hid t3
  have Q3 := Lib.hid (Q2.out.trans q3)
  have O3 := Lib.hid (O2.out.wr hgB q3)
  have E3 := Lib.hid (q3.other _ _ _ _ E2.out other_sm)
  have X3 := Lib.hid (X2.out.wr q3)
  have Y3 := Lib.hid (Y2.out.wr q3)
  clear t3 q3
  go_wp2_with fail
  go_end0
  exact ⟨rfl, by have := T3.out; simpa using this, Q3.out⟩
set_option maxHeartbeats 4000000 in
set_option maxRecDepth 100000 in
theorem st_call_plain {B P d : Nat} (hgB : PkB B) {w : World} {l : List UInt8} (line id len var callee : Int) (nm ty fn : List UInt8) {A1 A2 A3 A4 : Option Addr} {c1 c2 c3 c4 : Nat} {args : List Ex} {body els : List Sm} (k : Nat) (h : Tx B P l w) (hO : Pk w) (hh : (ItoaAt ∧ ExprAt B P d ∧ WBlkAt B P d) ∧ ExsD w tt d A1 c1 [] ∧ ExsD w tt d A2 c2 args ∧ SmsD w tt d A3 c3 body ∧ SmsD w tt d A4 c4 els) (hn : InI len ∧ NmEs [] ∧ NmEs args ∧ NmSs body ∧ NmSs els)  (hL : l.length + (smT k (Sm.mk 3 line id nm ty len var [] fn callee args body els)).length ≤ 140737488355328) :
    Calls Tryd.prog 44 #[.pointer (some ⟨P, 0, none⟩), .int .i64 k, .agg #[.int .i64 3, .int .i64 line, .int .i64 id, .string ⟨nm.toArray⟩, .string ⟨ty.toArray⟩, .int .i64 len, .int .i64 var, .slice A1 0 c1, .string ⟨fn.toArray⟩, .int .i64 callee, .slice A2 args.length c2, .slice A3 body.length c3, .slice A4 els.length c4]] w (Wrote B P (l ++ smT k (Sm.mk 3 line id nm ty len var [] fn callee args body els)) w) := by
  obtain ⟨⟨hI, HE, HB⟩, hx1, hx2, hx3, hx4⟩ := hh
  have hE : smT k (Sm.mk 3 line id nm ty len var [] fn callee args body els) = valT fn args := by simp [smT]
  rw [hE] at hL ⊢
  have HL := Lib.hid (show l.length + ((valT fn args).length) ≤ 140737488355328 by (try simp only [List.length_append] at hL); (try simp only [List.length_cons] at hL); (try simp only [List.length_nil] at hL); omega)
  clear hL hE
  have t0 := h.alloc (.cells #[.int .i64 3, .int .i64 line, .int .i64 id, .string ⟨nm.toArray⟩, .string ⟨ty.toArray⟩, .int .i64 len, .int .i64 var, .slice A1 0 c1, .string ⟨fn.toArray⟩, .int .i64 callee, .slice A2 args.length c2, .slice A3 body.length c3, .slice A4 els.length c4] 49)
  have q0 := (Wr.refl B w).alloc h.base (.cells #[.int .i64 3, .int .i64 line, .int .i64 id, .string ⟨nm.toArray⟩, .string ⟨ty.toArray⟩, .int .i64 len, .int .i64 var, .slice A1 0 c1, .string ⟨fn.toArray⟩, .int .i64 callee, .slice A2 args.length c2, .slice A3 body.length c3, .slice A4 els.length c4] 49)
  have o0 := hO.wr hgB q0
  have e0 := heap_alloc_new w (.cells #[.int .i64 3, .int .i64 line, .int .i64 id, .string ⟨nm.toArray⟩, .string ⟨ty.toArray⟩, .int .i64 len, .int .i64 var, .slice A1 0 c1, .string ⟨fn.toArray⟩, .int .i64 callee, .slice A2 args.length c2, .slice A3 body.length c3, .slice A4 els.length c4] 49)
  have X_0 := hx1.wr q0
  have Y_0 := hx2.wr q0
  obtain ⟨w0, HW0⟩ : ∃ U, Hid (w.alloc (.cells #[.int .i64 3, .int .i64 line, .int .i64 id, .string ⟨nm.toArray⟩, .string ⟨ty.toArray⟩, .int .i64 len, .int .i64 var, .slice A1 0 c1, .string ⟨fn.toArray⟩, .int .i64 callee, .slice A2 args.length c2, .slice A3 body.length c3, .slice A4 els.length c4] 49) = U) := ⟨_, Lib.hid rfl⟩
  rw [HW0.out] at t0 q0 o0 e0 X_0 Y_0
  have hz0 : w0.heap.size = w.heap.size + 1 := by rw [← HW0.out]; exact World.size_alloc _ _
  have HZ0 := Lib.hid hz0
  have T0 := Lib.hid t0
  have Q0 := Lib.hid q0
  have O0 := Lib.hid o0
  have E0 := Lib.hid e0
  have X0 := Lib.hid X_0
  have Y0 := Lib.hid Y_0
  have hs0 : w.heap.size < w0.heap.size := by omega
  clear hz0 t0 q0 o0 e0 X_0 Y_0
  obtain ⟨n0, n1, n2, n3, n4⟩ := hn
  have HN0 := Lib.hid n0
  have HN1 := Lib.hid n1
  have HN2 := Lib.hid n2
  have HN3 := Lib.hid n3
  have HN4 := Lib.hid n4
  clear h hO hx1 hx2 hx3 hx4 n0 n1 n2 n3 n4
  go_enter Tryd.func44, Tryd.ntmps44
  go_wp2_with (first | ((with_reducible show wpList _ _ _ (Oper.mk _ (Op.load 49 _) _ _ _ none :: _) _ _); refine wpList_load_all rfl 49 _ rfl w.heap.size _ _ rfl E0.out Tryd.underlying49 rfl (by kernel_rfl) ?_))
  rw [HW0.out]
  refine (wvalue_any HE hgB 3 line id len var callee nm ty fn T0.out O0.out Y0.out HN2.out (by have := HL.out; (try simp only [List.length_append]); (try simp only [List.length_cons]); (try simp only [List.length_nil]); omega)).mono ?_
  rintro e w1 ⟨rfl, t1, q1⟩
  have hs1 : w.heap.size < w1.heap.size := by have := q1.size; omega
  have T1 := Lib.hid t1
  have Q1 := Lib.hid (Q0.out.trans q1)
  have O1 := Lib.hid (O0.out.wr hgB q1)
  have E1 := Lib.hid (q1.other _ _ _ _ E0.out other_sm)
  have X1 := Lib.hid (X0.out.wr q1)
  have Y1 := Lib.hid (Y0.out.wr q1)
  clear t1 q1
  go_wp2_with fail
  go_end0
  exact ⟨rfl, by have := T1.out; simpa using this, Q1.out⟩
set_option maxHeartbeats 4000000 in
set_option maxRecDepth 100000 in
theorem st_return {B P d : Nat} (hgB : PkB B) {w : World} {l : List UInt8} (line id len var callee : Int) (nm ty fn : List UInt8) {A1 A2 A3 A4 : Option Addr} {c1 c2 c3 c4 : Nat} {target args : List Ex} {body els : List Sm} (k : Nat) (h : Tx B P l w) (hO : Pk w) (hh : (ItoaAt ∧ ExprAt B P d ∧ WBlkAt B P d) ∧ ExsD w tt d A1 c1 target ∧ ExsD w tt d A2 c2 args ∧ SmsD w tt d A3 c3 body ∧ SmsD w tt d A4 c4 els) (hn : InI len ∧ NmEs target ∧ NmEs args ∧ NmSs body ∧ NmSs els)  (hL : l.length + (smT k (Sm.mk 6 line id nm ty len var target fn callee args body els)).length ≤ 140737488355328) :
    Calls Tryd.prog 44 #[.pointer (some ⟨P, 0, none⟩), .int .i64 k, .agg #[.int .i64 6, .int .i64 line, .int .i64 id, .string ⟨nm.toArray⟩, .string ⟨ty.toArray⟩, .int .i64 len, .int .i64 var, .slice A1 target.length c1, .string ⟨fn.toArray⟩, .int .i64 callee, .slice A2 args.length c2, .slice A3 body.length c3, .slice A4 els.length c4]] w (Wrote B P (l ++ smT k (Sm.mk 6 line id nm ty len var target fn callee args body els)) w) := by
  obtain ⟨⟨hI, HE, HB⟩, hx1, hx2, hx3, hx4⟩ := hh
  have hE : smT k (Sm.mk 6 line id nm ty len var target fn callee args body els) = [114, 101, 116, 117, 114, 110, 32] ++ (valT fn args) := by simp [smT]
  rw [hE] at hL ⊢
  have HL := Lib.hid (show l.length + (7 + ((valT fn args).length)) ≤ 140737488355328 by (try simp only [List.length_append] at hL); (try simp only [List.length_cons] at hL); (try simp only [List.length_nil] at hL); omega)
  clear hL hE
  have t0 := h.alloc (.cells #[.int .i64 6, .int .i64 line, .int .i64 id, .string ⟨nm.toArray⟩, .string ⟨ty.toArray⟩, .int .i64 len, .int .i64 var, .slice A1 target.length c1, .string ⟨fn.toArray⟩, .int .i64 callee, .slice A2 args.length c2, .slice A3 body.length c3, .slice A4 els.length c4] 49)
  have q0 := (Wr.refl B w).alloc h.base (.cells #[.int .i64 6, .int .i64 line, .int .i64 id, .string ⟨nm.toArray⟩, .string ⟨ty.toArray⟩, .int .i64 len, .int .i64 var, .slice A1 target.length c1, .string ⟨fn.toArray⟩, .int .i64 callee, .slice A2 args.length c2, .slice A3 body.length c3, .slice A4 els.length c4] 49)
  have o0 := hO.wr hgB q0
  have e0 := heap_alloc_new w (.cells #[.int .i64 6, .int .i64 line, .int .i64 id, .string ⟨nm.toArray⟩, .string ⟨ty.toArray⟩, .int .i64 len, .int .i64 var, .slice A1 target.length c1, .string ⟨fn.toArray⟩, .int .i64 callee, .slice A2 args.length c2, .slice A3 body.length c3, .slice A4 els.length c4] 49)
  have Y_0 := hx2.wr q0
  obtain ⟨w0, HW0⟩ : ∃ U, Hid (w.alloc (.cells #[.int .i64 6, .int .i64 line, .int .i64 id, .string ⟨nm.toArray⟩, .string ⟨ty.toArray⟩, .int .i64 len, .int .i64 var, .slice A1 target.length c1, .string ⟨fn.toArray⟩, .int .i64 callee, .slice A2 args.length c2, .slice A3 body.length c3, .slice A4 els.length c4] 49) = U) := ⟨_, Lib.hid rfl⟩
  rw [HW0.out] at t0 q0 o0 e0 Y_0
  have hz0 : w0.heap.size = w.heap.size + 1 := by rw [← HW0.out]; exact World.size_alloc _ _
  have HZ0 := Lib.hid hz0
  have T0 := Lib.hid t0
  have Q0 := Lib.hid q0
  have O0 := Lib.hid o0
  have E0 := Lib.hid e0
  have Y0 := Lib.hid Y_0
  have hs0 : w.heap.size < w0.heap.size := by omega
  clear hz0 t0 q0 o0 e0 Y_0
  obtain ⟨n0, n1, n2, n3, n4⟩ := hn
  have HN0 := Lib.hid n0
  have HN1 := Lib.hid n1
  have HN2 := Lib.hid n2
  have HN3 := Lib.hid n3
  have HN4 := Lib.hid n4
  clear h hO hx1 hx2 hx3 hx4 n0 n1 n2 n3 n4
  go_enter Tryd.func44, Tryd.ntmps44
  go_wp2_with fail
  rw [HW0.out]
  refine (add1 _ [114, 101, 116, 117, 114, 110, 32] T0.out (by first | rfl | (have := HZ0.out; omega)) (by have := HL.out; (try simp only [List.length_append]); (try simp only [List.length_cons]); (try simp only [List.length_nil]); omega)).mono ?_
  rintro e w1 ⟨rfl, t1, q1⟩
  have hs1 : w.heap.size < w1.heap.size := by have := q1.size; omega
  have T1 := Lib.hid t1
  have Q1 := Lib.hid (Q0.out.trans q1)
  have O1 := Lib.hid (O0.out.wr hgB q1)
  have E1 := Lib.hid (q1.other _ _ _ _ E0.out other_sm)
  have Y1 := Lib.hid (Y0.out.wr q1)
  clear t1 q1
  obtain ⟨z0, z3, z4, z5, z7, z8, z10, z11, z12⟩ := cells_sm E1.out
  go_wp2_with (first | ((with_reducible show wpList _ _ _ (Oper.mk _ (Op.load 49 _) _ _ _ none :: _) _ _); refine wpList_load_all rfl 49 _ rfl w.heap.size _ _ rfl E1.out Tryd.underlying49 rfl (by kernel_rfl) ?_))
  clear z0 z3 z4 z5 z7 z8 z10 z11 z12
  refine (wvalue_any HE hgB 6 line id len var callee nm ty fn T1.out O1.out Y1.out HN2.out (by have := HL.out; (try simp only [List.length_append]); (try simp only [List.length_cons]); (try simp only [List.length_nil]); omega)).mono ?_
  rintro e w2 ⟨rfl, t2, q2⟩
  have hs2 : w.heap.size < w2.heap.size := by have := q2.size; omega
  have T2 := Lib.hid t2
  have Q2 := Lib.hid (Q1.out.trans q2)
  have O2 := Lib.hid (O1.out.wr hgB q2)
  have E2 := Lib.hid (q2.other _ _ _ _ E1.out other_sm)
  have Y2 := Lib.hid (Y1.out.wr q2)
  clear t2 q2
  go_wp2_with fail
  go_end0
  exact ⟨rfl, by have := T2.out; simpa using this, Q2.out⟩
set_option maxHeartbeats 4000000 in
set_option maxRecDepth 100000 in
theorem st_throw {B P d : Nat} (hgB : PkB B) {w : World} {l : List UInt8} (line id len var callee : Int) (nm ty fn : List UInt8) {A1 A2 A3 A4 : Option Addr} {c1 c2 c3 c4 : Nat} {target args : List Ex} {body els : List Sm} (k : Nat) (h : Tx B P l w) (hO : Pk w) (hh : (ItoaAt ∧ ExprAt B P d ∧ WBlkAt B P d) ∧ ExsD w tt d A1 c1 target ∧ ExsD w tt d A2 c2 args ∧ SmsD w tt d A3 c3 body ∧ SmsD w tt d A4 c4 els) (hn : InI len ∧ NmEs target ∧ NmEs args ∧ NmSs body ∧ NmSs els)  (hL : l.length + (smT k (Sm.mk 7 line id nm ty len var target fn callee args body els)).length ≤ 140737488355328) :
    Calls Tryd.prog 44 #[.pointer (some ⟨P, 0, none⟩), .int .i64 k, .agg #[.int .i64 7, .int .i64 line, .int .i64 id, .string ⟨nm.toArray⟩, .string ⟨ty.toArray⟩, .int .i64 len, .int .i64 var, .slice A1 target.length c1, .string ⟨fn.toArray⟩, .int .i64 callee, .slice A2 args.length c2, .slice A3 body.length c3, .slice A4 els.length c4]] w (Wrote B P (l ++ smT k (Sm.mk 7 line id nm ty len var target fn callee args body els)) w) := by
  obtain ⟨⟨hI, HE, HB⟩, hx1, hx2, hx3, hx4⟩ := hh
  have hE : smT k (Sm.mk 7 line id nm ty len var target fn callee args body els) = [116, 104, 114, 111, 119, 32] ++ (valT fn args) := by simp [smT]
  rw [hE] at hL ⊢
  have HL := Lib.hid (show l.length + (6 + ((valT fn args).length)) ≤ 140737488355328 by (try simp only [List.length_append] at hL); (try simp only [List.length_cons] at hL); (try simp only [List.length_nil] at hL); omega)
  clear hL hE
  have t0 := h.alloc (.cells #[.int .i64 7, .int .i64 line, .int .i64 id, .string ⟨nm.toArray⟩, .string ⟨ty.toArray⟩, .int .i64 len, .int .i64 var, .slice A1 target.length c1, .string ⟨fn.toArray⟩, .int .i64 callee, .slice A2 args.length c2, .slice A3 body.length c3, .slice A4 els.length c4] 49)
  have q0 := (Wr.refl B w).alloc h.base (.cells #[.int .i64 7, .int .i64 line, .int .i64 id, .string ⟨nm.toArray⟩, .string ⟨ty.toArray⟩, .int .i64 len, .int .i64 var, .slice A1 target.length c1, .string ⟨fn.toArray⟩, .int .i64 callee, .slice A2 args.length c2, .slice A3 body.length c3, .slice A4 els.length c4] 49)
  have o0 := hO.wr hgB q0
  have e0 := heap_alloc_new w (.cells #[.int .i64 7, .int .i64 line, .int .i64 id, .string ⟨nm.toArray⟩, .string ⟨ty.toArray⟩, .int .i64 len, .int .i64 var, .slice A1 target.length c1, .string ⟨fn.toArray⟩, .int .i64 callee, .slice A2 args.length c2, .slice A3 body.length c3, .slice A4 els.length c4] 49)
  have Y_0 := hx2.wr q0
  obtain ⟨w0, HW0⟩ : ∃ U, Hid (w.alloc (.cells #[.int .i64 7, .int .i64 line, .int .i64 id, .string ⟨nm.toArray⟩, .string ⟨ty.toArray⟩, .int .i64 len, .int .i64 var, .slice A1 target.length c1, .string ⟨fn.toArray⟩, .int .i64 callee, .slice A2 args.length c2, .slice A3 body.length c3, .slice A4 els.length c4] 49) = U) := ⟨_, Lib.hid rfl⟩
  rw [HW0.out] at t0 q0 o0 e0 Y_0
  have hz0 : w0.heap.size = w.heap.size + 1 := by rw [← HW0.out]; exact World.size_alloc _ _
  have HZ0 := Lib.hid hz0
  have T0 := Lib.hid t0
  have Q0 := Lib.hid q0
  have O0 := Lib.hid o0
  have E0 := Lib.hid e0
  have Y0 := Lib.hid Y_0
  have hs0 : w.heap.size < w0.heap.size := by omega
  clear hz0 t0 q0 o0 e0 Y_0
  obtain ⟨n0, n1, n2, n3, n4⟩ := hn
  have HN0 := Lib.hid n0
  have HN1 := Lib.hid n1
  have HN2 := Lib.hid n2
  have HN3 := Lib.hid n3
  have HN4 := Lib.hid n4
  clear h hO hx1 hx2 hx3 hx4 n0 n1 n2 n3 n4
  go_enter Tryd.func44, Tryd.ntmps44
  go_wp2_with fail
  rw [HW0.out]
  refine (add1 _ [116, 104, 114, 111, 119, 32] T0.out (by first | rfl | (have := HZ0.out; omega)) (by have := HL.out; (try simp only [List.length_append]); (try simp only [List.length_cons]); (try simp only [List.length_nil]); omega)).mono ?_
  rintro e w1 ⟨rfl, t1, q1⟩
  have hs1 : w.heap.size < w1.heap.size := by have := q1.size; omega
  have T1 := Lib.hid t1
  have Q1 := Lib.hid (Q0.out.trans q1)
  have O1 := Lib.hid (O0.out.wr hgB q1)
  have E1 := Lib.hid (q1.other _ _ _ _ E0.out other_sm)
  have Y1 := Lib.hid (Y0.out.wr q1)
  clear t1 q1
  obtain ⟨z0, z3, z4, z5, z7, z8, z10, z11, z12⟩ := cells_sm E1.out
  go_wp2_with (first | ((with_reducible show wpList _ _ _ (Oper.mk _ (Op.load 49 _) _ _ _ none :: _) _ _); refine wpList_load_all rfl 49 _ rfl w.heap.size _ _ rfl E1.out Tryd.underlying49 rfl (by kernel_rfl) ?_))
  clear z0 z3 z4 z5 z7 z8 z10 z11 z12
  refine (wvalue_any HE hgB 7 line id len var callee nm ty fn T1.out O1.out Y1.out HN2.out (by have := HL.out; (try simp only [List.length_append]); (try simp only [List.length_cons]); (try simp only [List.length_nil]); omega)).mono ?_
  rintro e w2 ⟨rfl, t2, q2⟩
  have hs2 : w.heap.size < w2.heap.size := by have := q2.size; omega
  have T2 := Lib.hid t2
  have Q2 := Lib.hid (Q1.out.trans q2)
  have O2 := Lib.hid (O1.out.wr hgB q2)
  have E2 := Lib.hid (q2.other _ _ _ _ E1.out other_sm)
  have Y2 := Lib.hid (Y1.out.wr q2)
  clear t2 q2
  go_wp2_with fail
  go_end0
  exact ⟨rfl, by have := T2.out; simpa using this, Q2.out⟩
set_option maxHeartbeats 4000000 in
set_option maxRecDepth 100000 in
theorem st_print {B P d : Nat} (hgB : PkB B) {w : World} {l : List UInt8} (line id len var callee : Int) (nm ty fn : List UInt8) {A1 A2 A3 A4 : Option Addr} {c1 c2 c3 c4 : Nat} {target args : List Ex} {body els : List Sm} (k : Nat) (h : Tx B P l w) (hO : Pk w) (hh : (ItoaAt ∧ ExprAt B P d ∧ WBlkAt B P d) ∧ ExsD w tt d A1 c1 target ∧ ExsD w tt d A2 c2 args ∧ SmsD w tt d A3 c3 body ∧ SmsD w tt d A4 c4 els) (hn : InI len ∧ NmEs target ∧ NmEs args ∧ NmSs body ∧ NmSs els)  (hL : l.length + (smT k (Sm.mk 9 line id nm ty len var target fn callee args body els)).length ≤ 140737488355328) :
    Calls Tryd.prog 44 #[.pointer (some ⟨P, 0, none⟩), .int .i64 k, .agg #[.int .i64 9, .int .i64 line, .int .i64 id, .string ⟨nm.toArray⟩, .string ⟨ty.toArray⟩, .int .i64 len, .int .i64 var, .slice A1 target.length c1, .string ⟨fn.toArray⟩, .int .i64 callee, .slice A2 args.length c2, .slice A3 body.length c3, .slice A4 els.length c4]] w (Wrote B P (l ++ smT k (Sm.mk 9 line id nm ty len var target fn callee args body els)) w) := by
  obtain ⟨⟨hI, HE, HB⟩, hx1, hx2, hx3, hx4⟩ := hh
  have hE : smT k (Sm.mk 9 line id nm ty len var target fn callee args body els) = [112, 114, 105, 110, 116, 32] ++ (valT fn args) := by simp [smT]
  rw [hE] at hL ⊢
  have HL := Lib.hid (show l.length + (6 + ((valT fn args).length)) ≤ 140737488355328 by (try simp only [List.length_append] at hL); (try simp only [List.length_cons] at hL); (try simp only [List.length_nil] at hL); omega)
  clear hL hE
  have t0 := h.alloc (.cells #[.int .i64 9, .int .i64 line, .int .i64 id, .string ⟨nm.toArray⟩, .string ⟨ty.toArray⟩, .int .i64 len, .int .i64 var, .slice A1 target.length c1, .string ⟨fn.toArray⟩, .int .i64 callee, .slice A2 args.length c2, .slice A3 body.length c3, .slice A4 els.length c4] 49)
  have q0 := (Wr.refl B w).alloc h.base (.cells #[.int .i64 9, .int .i64 line, .int .i64 id, .string ⟨nm.toArray⟩, .string ⟨ty.toArray⟩, .int .i64 len, .int .i64 var, .slice A1 target.length c1, .string ⟨fn.toArray⟩, .int .i64 callee, .slice A2 args.length c2, .slice A3 body.length c3, .slice A4 els.length c4] 49)
  have o0 := hO.wr hgB q0
  have e0 := heap_alloc_new w (.cells #[.int .i64 9, .int .i64 line, .int .i64 id, .string ⟨nm.toArray⟩, .string ⟨ty.toArray⟩, .int .i64 len, .int .i64 var, .slice A1 target.length c1, .string ⟨fn.toArray⟩, .int .i64 callee, .slice A2 args.length c2, .slice A3 body.length c3, .slice A4 els.length c4] 49)
  have Y_0 := hx2.wr q0
  obtain ⟨w0, HW0⟩ : ∃ U, Hid (w.alloc (.cells #[.int .i64 9, .int .i64 line, .int .i64 id, .string ⟨nm.toArray⟩, .string ⟨ty.toArray⟩, .int .i64 len, .int .i64 var, .slice A1 target.length c1, .string ⟨fn.toArray⟩, .int .i64 callee, .slice A2 args.length c2, .slice A3 body.length c3, .slice A4 els.length c4] 49) = U) := ⟨_, Lib.hid rfl⟩
  rw [HW0.out] at t0 q0 o0 e0 Y_0
  have hz0 : w0.heap.size = w.heap.size + 1 := by rw [← HW0.out]; exact World.size_alloc _ _
  have HZ0 := Lib.hid hz0
  have T0 := Lib.hid t0
  have Q0 := Lib.hid q0
  have O0 := Lib.hid o0
  have E0 := Lib.hid e0
  have Y0 := Lib.hid Y_0
  have hs0 : w.heap.size < w0.heap.size := by omega
  clear hz0 t0 q0 o0 e0 Y_0
  obtain ⟨n0, n1, n2, n3, n4⟩ := hn
  have HN0 := Lib.hid n0
  have HN1 := Lib.hid n1
  have HN2 := Lib.hid n2
  have HN3 := Lib.hid n3
  have HN4 := Lib.hid n4
  clear h hO hx1 hx2 hx3 hx4 n0 n1 n2 n3 n4
  go_enter Tryd.func44, Tryd.ntmps44
  go_wp2_with fail
  rw [HW0.out]
  refine (add1 _ [112, 114, 105, 110, 116, 32] T0.out (by first | rfl | (have := HZ0.out; omega)) (by have := HL.out; (try simp only [List.length_append]); (try simp only [List.length_cons]); (try simp only [List.length_nil]); omega)).mono ?_
  rintro e w1 ⟨rfl, t1, q1⟩
  have hs1 : w.heap.size < w1.heap.size := by have := q1.size; omega
  have T1 := Lib.hid t1
  have Q1 := Lib.hid (Q0.out.trans q1)
  have O1 := Lib.hid (O0.out.wr hgB q1)
  have E1 := Lib.hid (q1.other _ _ _ _ E0.out other_sm)
  have Y1 := Lib.hid (Y0.out.wr q1)
  clear t1 q1
  obtain ⟨z0, z3, z4, z5, z7, z8, z10, z11, z12⟩ := cells_sm E1.out
  go_wp2_with (first | ((with_reducible show wpList _ _ _ (Oper.mk _ (Op.load 49 _) _ _ _ none :: _) _ _); refine wpList_load_all rfl 49 _ rfl w.heap.size _ _ rfl E1.out Tryd.underlying49 rfl (by kernel_rfl) ?_))
  clear z0 z3 z4 z5 z7 z8 z10 z11 z12
  refine (wvalue_any HE hgB 9 line id len var callee nm ty fn T1.out O1.out Y1.out HN2.out (by have := HL.out; (try simp only [List.length_append]); (try simp only [List.length_cons]); (try simp only [List.length_nil]); omega)).mono ?_
  rintro e w2 ⟨rfl, t2, q2⟩
  have hs2 : w.heap.size < w2.heap.size := by have := q2.size; omega
  have T2 := Lib.hid t2
  have Q2 := Lib.hid (Q1.out.trans q2)
  have O2 := Lib.hid (O1.out.wr hgB q2)
  have E2 := Lib.hid (q2.other _ _ _ _ E1.out other_sm)
  have Y2 := Lib.hid (Y1.out.wr q2)
  clear t2 q2
  go_wp2_with fail
  go_end0
  exact ⟨rfl, by have := T2.out; simpa using this, Q2.out⟩
set_option maxHeartbeats 4000000 in
set_option maxRecDepth 100000 in
theorem st_if_else {B P d : Nat} (hgB : PkB B) {w : World} {l : List UInt8} (line id len var callee : Int) (nm ty fn : List UInt8) {A1 A2 A3 A4 : Option Addr} {c1 c2 c3 c4 : Nat} {target args : List Ex} {body els : List Sm} (k : Nat) (h : Tx B P l w) (hO : Pk w) (hh : (ItoaAt ∧ ExprAt B P d ∧ WBlkAt B P d) ∧ ExsD w tt d A1 c1 target ∧ ExsD w tt d A2 c2 args ∧ SmsD w tt d A3 c3 body ∧ SmsD w tt d A4 c4 els) (hn : InI len ∧ NmEs target ∧ NmEs args ∧ NmSs body ∧ NmSs els) (he : els ≠ []) (hL : l.length + (smT k (Sm.mk 4 line id nm ty len var target fn callee args body els)).length ≤ 140737488355328) :
    Calls Tryd.prog 44 #[.pointer (some ⟨P, 0, none⟩), .int .i64 k, .agg #[.int .i64 4, .int .i64 line, .int .i64 id, .string ⟨nm.toArray⟩, .string ⟨ty.toArray⟩, .int .i64 len, .int .i64 var, .slice A1 target.length c1, .string ⟨fn.toArray⟩, .int .i64 callee, .slice A2 args.length c2, .slice A3 body.length c3, .slice A4 els.length c4]] w (Wrote B P (l ++ smT k (Sm.mk 4 line id nm ty len var target fn callee args body els)) w) := by
  obtain ⟨⟨hI, HE, HB⟩, hx1, hx2, hx3, hx4⟩ := hh
  have hpos : 0 < els.length := by cases els with | nil => exact absurd rfl he | cons a r => simp
  have hE : smT k (Sm.mk 4 line id nm ty len var target fn callee args body els) = [105, 102, 32] ++ (commas (exsT args) ++ ([32] ++ (braces k (blkT (k + 1) body) ++ ([32, 101, 108, 115, 101, 32] ++ (braces k (blkT (k + 1) els)))))) := by simp [smT, he]
  rw [hE] at hL ⊢
  have HL := Lib.hid (show l.length + (3 + ((commas (exsT args)).length + (1 + ((braces k (blkT (k + 1) body)).length + (6 + ((braces k (blkT (k + 1) els)).length)))))) ≤ 140737488355328 by (try simp only [List.length_append] at hL); (try simp only [List.length_cons] at hL); (try simp only [List.length_nil] at hL); omega)
  clear hL hE
  have t0 := h.alloc (.cells #[.int .i64 4, .int .i64 line, .int .i64 id, .string ⟨nm.toArray⟩, .string ⟨ty.toArray⟩, .int .i64 len, .int .i64 var, .slice A1 target.length c1, .string ⟨fn.toArray⟩, .int .i64 callee, .slice A2 args.length c2, .slice A3 body.length c3, .slice A4 els.length c4] 49)
  have q0 := (Wr.refl B w).alloc h.base (.cells #[.int .i64 4, .int .i64 line, .int .i64 id, .string ⟨nm.toArray⟩, .string ⟨ty.toArray⟩, .int .i64 len, .int .i64 var, .slice A1 target.length c1, .string ⟨fn.toArray⟩, .int .i64 callee, .slice A2 args.length c2, .slice A3 body.length c3, .slice A4 els.length c4] 49)
  have o0 := hO.wr hgB q0
  have e0 := heap_alloc_new w (.cells #[.int .i64 4, .int .i64 line, .int .i64 id, .string ⟨nm.toArray⟩, .string ⟨ty.toArray⟩, .int .i64 len, .int .i64 var, .slice A1 target.length c1, .string ⟨fn.toArray⟩, .int .i64 callee, .slice A2 args.length c2, .slice A3 body.length c3, .slice A4 els.length c4] 49)
  have Y_0 := hx2.wr q0
  have U_0 := hx3.wr q0
  have V_0 := hx4.wr q0
  obtain ⟨w0, HW0⟩ : ∃ U, Hid (w.alloc (.cells #[.int .i64 4, .int .i64 line, .int .i64 id, .string ⟨nm.toArray⟩, .string ⟨ty.toArray⟩, .int .i64 len, .int .i64 var, .slice A1 target.length c1, .string ⟨fn.toArray⟩, .int .i64 callee, .slice A2 args.length c2, .slice A3 body.length c3, .slice A4 els.length c4] 49) = U) := ⟨_, Lib.hid rfl⟩
  rw [HW0.out] at t0 q0 o0 e0 Y_0 U_0 V_0
  have hz0 : w0.heap.size = w.heap.size + 1 := by rw [← HW0.out]; exact World.size_alloc _ _
  have HZ0 := Lib.hid hz0
  have T0 := Lib.hid t0
  have Q0 := Lib.hid q0
  have O0 := Lib.hid o0
  have E0 := Lib.hid e0
  have Y0 := Lib.hid Y_0
  have U0 := Lib.hid U_0
  have V0 := Lib.hid V_0
  have hs0 : w.heap.size < w0.heap.size := by omega
  clear hz0 t0 q0 o0 e0 Y_0 U_0 V_0
  obtain ⟨n0, n1, n2, n3, n4⟩ := hn
  have HN0 := Lib.hid n0
  have HN1 := Lib.hid n1
  have HN2 := Lib.hid n2
  have HN3 := Lib.hid n3
  have HN4 := Lib.hid n4
  clear h hO hx1 hx2 hx3 hx4 n0 n1 n2 n3 n4
  go_enter Tryd.func44, Tryd.ntmps44
  go_wp2_with fail
  rw [HW0.out]
  refine (add1 _ [105, 102, 32] T0.out (by first | rfl | (have := HZ0.out; omega)) (by have := HL.out; (try simp only [List.length_append]); (try simp only [List.length_cons]); (try simp only [List.length_nil]); omega)).mono ?_
  rintro e w1 ⟨rfl, t1, q1⟩
  have hs1 : w.heap.size < w1.heap.size := by have := q1.size; omega
  have T1 := Lib.hid t1
  have Q1 := Lib.hid (Q0.out.trans q1)
  have O1 := Lib.hid (O0.out.wr hgB q1)
  have E1 := Lib.hid (q1.other _ _ _ _ E0.out other_sm)
  have Y1 := Lib.hid (Y0.out.wr q1)
  have U1 := Lib.hid (U0.out.wr q1)
  have V1 := Lib.hid (V0.out.wr q1)
  clear t1 q1
  obtain ⟨z0, z3, z4, z5, z7, z8, z10, z11, z12⟩ := cells_sm E1.out
  go_wp2_with fail
  clear z0 z3 z4 z5 z7 z8 z10 z11 z12
  refine (list_any HE hgB T1.out O1.out Y1.out HN2.out (by have := HL.out; (try simp only [List.length_append]); (try simp only [List.length_cons]); (try simp only [List.length_nil]); omega)).mono ?_
  rintro e w2 ⟨rfl, t2, q2⟩
  have hs2 : w.heap.size < w2.heap.size := by have := q2.size; omega
  have T2 := Lib.hid t2
  have Q2 := Lib.hid (Q1.out.trans q2)
  have O2 := Lib.hid (O1.out.wr hgB q2)
  have E2 := Lib.hid (q2.other _ _ _ _ E1.out other_sm)
  have Y2 := Lib.hid (Y1.out.wr q2)
  have U2 := Lib.hid (U1.out.wr q2)
  have V2 := Lib.hid (V1.out.wr q2)
  clear t2 q2
  obtain ⟨z0, z3, z4, z5, z7, z8, z10, z11, z12⟩ := cells_sm E2.out
  go_wp2_with fail
  clear z0 z3 z4 z5 z7 z8 z10 z11 z12
  refine (add1 _ [32] T2.out (by first | rfl | (have := HZ0.out; omega)) (by have := HL.out; (try simp only [List.length_append]); (try simp only [List.length_cons]); (try simp only [List.length_nil]); omega)).mono ?_
  rintro e w3 ⟨rfl, t3, q3⟩
  have hs3 : w.heap.size < w3.heap.size := by have := q3.size; omega
  have T3 := Lib.hid t3
  have Q3 := Lib.hid (Q2.out.trans q3)
  have O3 := Lib.hid (O2.out.wr hgB q3)
  have E3 := Lib.hid (q3.other _ _ _ _ E2.out other_sm)
  have Y3 := Lib.hid (Y2.out.wr q3)
  have U3 := Lib.hid (U2.out.wr q3)
  have V3 := Lib.hid (V2.out.wr q3)
  clear t3 q3
  obtain ⟨z0, z3, z4, z5, z7, z8, z10, z11, z12⟩ := cells_sm E3.out
  go_wp2_with fail
  clear z0 z3 z4 z5 z7 z8 z10 z11 z12
  refine (inner_any HB hgB k T3.out O3.out U3.out HN3.out (by have := HL.out; (try simp only [List.length_append]); (try simp only [List.length_cons]); (try simp only [List.length_nil]); omega)).mono ?_
  rintro e w4 ⟨rfl, t4, q4⟩
  have hs4 : w.heap.size < w4.heap.size := by have := q4.size; omega
  have T4 := Lib.hid t4
  have Q4 := Lib.hid (Q3.out.trans q4)
  have O4 := Lib.hid (O3.out.wr hgB q4)
  have E4 := Lib.hid (q4.other _ _ _ _ E3.out other_sm)
  have Y4 := Lib.hid (Y3.out.wr q4)
  have U4 := Lib.hid (U3.out.wr q4)
  have V4 := Lib.hid (V3.out.wr q4)
  clear t4 q4
  obtain ⟨z0, z3, z4, z5, z7, z8, z10, z11, z12⟩ := cells_sm E4.out
  go_wp2_with fail
  clear z0 z3 z4 z5 z7 z8 z10 z11 z12
  refine (add1 _ [32, 101, 108, 115, 101, 32] T4.out (by first | rfl | (have := HZ0.out; omega)) (by have := HL.out; (try simp only [List.length_append]); (try simp only [List.length_cons]); (try simp only [List.length_nil]); omega)).mono ?_
  rintro e w5 ⟨rfl, t5, q5⟩
  have hs5 : w.heap.size < w5.heap.size := by have := q5.size; omega
  have T5 := Lib.hid t5
  have Q5 := Lib.hid (Q4.out.trans q5)
  have O5 := Lib.hid (O4.out.wr hgB q5)
  have E5 := Lib.hid (q5.other _ _ _ _ E4.out other_sm)
  have Y5 := Lib.hid (Y4.out.wr q5)
  have U5 := Lib.hid (U4.out.wr q5)
  have V5 := Lib.hid (V4.out.wr q5)
  clear t5 q5
  obtain ⟨z0, z3, z4, z5, z7, z8, z10, z11, z12⟩ := cells_sm E5.out
  go_wp2_with fail
  clear z0 z3 z4 z5 z7 z8 z10 z11 z12
  refine (inner_any HB hgB k T5.out O5.out V5.out HN4.out (by have := HL.out; (try simp only [List.length_append]); (try simp only [List.length_cons]); (try simp only [List.length_nil]); omega)).mono ?_
  rintro e w6 ⟨rfl, t6, q6⟩
  have hs6 : w.heap.size < w6.heap.size := by have := q6.size; omega
  have T6 := Lib.hid t6
  have Q6 := Lib.hid (Q5.out.trans q6)
  have O6 := Lib.hid (O5.out.wr hgB q6)
  have E6 := Lib.hid (q6.other _ _ _ _ E5.out other_sm)
  have Y6 := Lib.hid (Y5.out.wr q6)
  have U6 := Lib.hid (U5.out.wr q6)
  have V6 := Lib.hid (V5.out.wr q6)
  clear t6 q6
  go_wp2_with fail
  go_end0
  exact ⟨rfl, by have := T6.out; simpa using this, Q6.out⟩
set_option maxHeartbeats 4000000 in
set_option maxRecDepth 100000 in
theorem st_if {B P d : Nat} (hgB : PkB B) {w : World} {l : List UInt8} (line id len var callee : Int) (nm ty fn : List UInt8) {A1 A2 A3 A4 : Option Addr} {c1 c2 c3 c4 : Nat} {target args : List Ex} {body : List Sm} (k : Nat) (h : Tx B P l w) (hO : Pk w) (hh : (ItoaAt ∧ ExprAt B P d ∧ WBlkAt B P d) ∧ ExsD w tt d A1 c1 target ∧ ExsD w tt d A2 c2 args ∧ SmsD w tt d A3 c3 body ∧ SmsD w tt d A4 c4 []) (hn : InI len ∧ NmEs target ∧ NmEs args ∧ NmSs body ∧ NmSs [])  (hL : l.length + (smT k (Sm.mk 4 line id nm ty len var target fn callee args body [])).length ≤ 140737488355328) :
    Calls Tryd.prog 44 #[.pointer (some ⟨P, 0, none⟩), .int .i64 k, .agg #[.int .i64 4, .int .i64 line, .int .i64 id, .string ⟨nm.toArray⟩, .string ⟨ty.toArray⟩, .int .i64 len, .int .i64 var, .slice A1 target.length c1, .string ⟨fn.toArray⟩, .int .i64 callee, .slice A2 args.length c2, .slice A3 body.length c3, .slice A4 0 c4]] w (Wrote B P (l ++ smT k (Sm.mk 4 line id nm ty len var target fn callee args body [])) w) := by
  obtain ⟨⟨hI, HE, HB⟩, hx1, hx2, hx3, hx4⟩ := hh
  have hE : smT k (Sm.mk 4 line id nm ty len var target fn callee args body []) = [105, 102, 32] ++ (commas (exsT args) ++ ([32] ++ (braces k (blkT (k + 1) body)))) := by simp [smT]
  rw [hE] at hL ⊢
  have HL := Lib.hid (show l.length + (3 + ((commas (exsT args)).length + (1 + ((braces k (blkT (k + 1) body)).length)))) ≤ 140737488355328 by (try simp only [List.length_append] at hL); (try simp only [List.length_cons] at hL); (try simp only [List.length_nil] at hL); omega)
  clear hL hE
  have t0 := h.alloc (.cells #[.int .i64 4, .int .i64 line, .int .i64 id, .string ⟨nm.toArray⟩, .string ⟨ty.toArray⟩, .int .i64 len, .int .i64 var, .slice A1 target.length c1, .string ⟨fn.toArray⟩, .int .i64 callee, .slice A2 args.length c2, .slice A3 body.length c3, .slice A4 0 c4] 49)
  have q0 := (Wr.refl B w).alloc h.base (.cells #[.int .i64 4, .int .i64 line, .int .i64 id, .string ⟨nm.toArray⟩, .string ⟨ty.toArray⟩, .int .i64 len, .int .i64 var, .slice A1 target.length c1, .string ⟨fn.toArray⟩, .int .i64 callee, .slice A2 args.length c2, .slice A3 body.length c3, .slice A4 0 c4] 49)
  have o0 := hO.wr hgB q0
  have e0 := heap_alloc_new w (.cells #[.int .i64 4, .int .i64 line, .int .i64 id, .string ⟨nm.toArray⟩, .string ⟨ty.toArray⟩, .int .i64 len, .int .i64 var, .slice A1 target.length c1, .string ⟨fn.toArray⟩, .int .i64 callee, .slice A2 args.length c2, .slice A3 body.length c3, .slice A4 0 c4] 49)
  have Y_0 := hx2.wr q0
  have U_0 := hx3.wr q0
  obtain ⟨w0, HW0⟩ : ∃ U, Hid (w.alloc (.cells #[.int .i64 4, .int .i64 line, .int .i64 id, .string ⟨nm.toArray⟩, .string ⟨ty.toArray⟩, .int .i64 len, .int .i64 var, .slice A1 target.length c1, .string ⟨fn.toArray⟩, .int .i64 callee, .slice A2 args.length c2, .slice A3 body.length c3, .slice A4 0 c4] 49) = U) := ⟨_, Lib.hid rfl⟩
  rw [HW0.out] at t0 q0 o0 e0 Y_0 U_0
  have hz0 : w0.heap.size = w.heap.size + 1 := by rw [← HW0.out]; exact World.size_alloc _ _
  have HZ0 := Lib.hid hz0
  have T0 := Lib.hid t0
  have Q0 := Lib.hid q0
  have O0 := Lib.hid o0
  have E0 := Lib.hid e0
  have Y0 := Lib.hid Y_0
  have U0 := Lib.hid U_0
  have hs0 : w.heap.size < w0.heap.size := by omega
  clear hz0 t0 q0 o0 e0 Y_0 U_0
  obtain ⟨n0, n1, n2, n3, n4⟩ := hn
  have HN0 := Lib.hid n0
  have HN1 := Lib.hid n1
  have HN2 := Lib.hid n2
  have HN3 := Lib.hid n3
  have HN4 := Lib.hid n4
  clear h hO hx1 hx2 hx3 hx4 n0 n1 n2 n3 n4
  go_enter Tryd.func44, Tryd.ntmps44
  go_wp2_with fail
  rw [HW0.out]
  refine (add1 _ [105, 102, 32] T0.out (by first | rfl | (have := HZ0.out; omega)) (by have := HL.out; (try simp only [List.length_append]); (try simp only [List.length_cons]); (try simp only [List.length_nil]); omega)).mono ?_
  rintro e w1 ⟨rfl, t1, q1⟩
  have hs1 : w.heap.size < w1.heap.size := by have := q1.size; omega
  have T1 := Lib.hid t1
  have Q1 := Lib.hid (Q0.out.trans q1)
  have O1 := Lib.hid (O0.out.wr hgB q1)
  have E1 := Lib.hid (q1.other _ _ _ _ E0.out other_sm)
  have Y1 := Lib.hid (Y0.out.wr q1)
  have U1 := Lib.hid (U0.out.wr q1)
  clear t1 q1
  obtain ⟨z0, z3, z4, z5, z7, z8, z10, z11, z12⟩ := cells_sm E1.out
  go_wp2_with fail
  clear z0 z3 z4 z5 z7 z8 z10 z11 z12
  refine (list_any HE hgB T1.out O1.out Y1.out HN2.out (by have := HL.out; (try simp only [List.length_append]); (try simp only [List.length_cons]); (try simp only [List.length_nil]); omega)).mono ?_
  rintro e w2 ⟨rfl, t2, q2⟩
  have hs2 : w.heap.size < w2.heap.size := by have := q2.size; omega
  have T2 := Lib.hid t2
  have Q2 := Lib.hid (Q1.out.trans q2)
  have O2 := Lib.hid (O1.out.wr hgB q2)
  have E2 := Lib.hid (q2.other _ _ _ _ E1.out other_sm)
  have Y2 := Lib.hid (Y1.out.wr q2)
  have U2 := Lib.hid (U1.out.wr q2)
  clear t2 q2
  obtain ⟨z0, z3, z4, z5, z7, z8, z10, z11, z12⟩ := cells_sm E2.out
  go_wp2_with fail
  clear z0 z3 z4 z5 z7 z8 z10 z11 z12
  refine (add1 _ [32] T2.out (by first | rfl | (have := HZ0.out; omega)) (by have := HL.out; (try simp only [List.length_append]); (try simp only [List.length_cons]); (try simp only [List.length_nil]); omega)).mono ?_
  rintro e w3 ⟨rfl, t3, q3⟩
  have hs3 : w.heap.size < w3.heap.size := by have := q3.size; omega
  have T3 := Lib.hid t3
  have Q3 := Lib.hid (Q2.out.trans q3)
  have O3 := Lib.hid (O2.out.wr hgB q3)
  have E3 := Lib.hid (q3.other _ _ _ _ E2.out other_sm)
  have Y3 := Lib.hid (Y2.out.wr q3)
  have U3 := Lib.hid (U2.out.wr q3)
  clear t3 q3
  obtain ⟨z0, z3, z4, z5, z7, z8, z10, z11, z12⟩ := cells_sm E3.out
  go_wp2_with fail
  clear z0 z3 z4 z5 z7 z8 z10 z11 z12
  refine (inner_any HB hgB k T3.out O3.out U3.out HN3.out (by have := HL.out; (try simp only [List.length_append]); (try simp only [List.length_cons]); (try simp only [List.length_nil]); omega)).mono ?_
  rintro e w4 ⟨rfl, t4, q4⟩
  have hs4 : w.heap.size < w4.heap.size := by have := q4.size; omega
  have T4 := Lib.hid t4
  have Q4 := Lib.hid (Q3.out.trans q4)
  have O4 := Lib.hid (O3.out.wr hgB q4)
  have E4 := Lib.hid (q4.other _ _ _ _ E3.out other_sm)
  have Y4 := Lib.hid (Y3.out.wr q4)
  have U4 := Lib.hid (U3.out.wr q4)
  clear t4 q4
  obtain ⟨z0, z3, z4, z5, z7, z8, z10, z11, z12⟩ := cells_sm E4.out
  go_wp2_with fail
  go_end0
  exact ⟨rfl, by have := T4.out; simpa using this, Q4.out⟩
set_option maxHeartbeats 4000000 in
set_option maxRecDepth 100000 in
theorem st_while {B P d : Nat} (hgB : PkB B) {w : World} {l : List UInt8} (line id len var callee : Int) (nm ty fn : List UInt8) {A1 A2 A3 A4 : Option Addr} {c1 c2 c3 c4 : Nat} {target args : List Ex} {body els : List Sm} (k : Nat) (h : Tx B P l w) (hO : Pk w) (hh : (ItoaAt ∧ ExprAt B P d ∧ WBlkAt B P d) ∧ ExsD w tt d A1 c1 target ∧ ExsD w tt d A2 c2 args ∧ SmsD w tt d A3 c3 body ∧ SmsD w tt d A4 c4 els) (hn : InI len ∧ NmEs target ∧ NmEs args ∧ NmSs body ∧ NmSs els)  (hL : l.length + (smT k (Sm.mk 5 line id nm ty len var target fn callee args body els)).length ≤ 140737488355328) :
    Calls Tryd.prog 44 #[.pointer (some ⟨P, 0, none⟩), .int .i64 k, .agg #[.int .i64 5, .int .i64 line, .int .i64 id, .string ⟨nm.toArray⟩, .string ⟨ty.toArray⟩, .int .i64 len, .int .i64 var, .slice A1 target.length c1, .string ⟨fn.toArray⟩, .int .i64 callee, .slice A2 args.length c2, .slice A3 body.length c3, .slice A4 els.length c4]] w (Wrote B P (l ++ smT k (Sm.mk 5 line id nm ty len var target fn callee args body els)) w) := by
  obtain ⟨⟨hI, HE, HB⟩, hx1, hx2, hx3, hx4⟩ := hh
  have hE : smT k (Sm.mk 5 line id nm ty len var target fn callee args body els) = [119, 104, 105, 108, 101, 32] ++ (commas (exsT args) ++ ([32] ++ (braces k (blkT (k + 1) body)))) := by simp [smT]
  rw [hE] at hL ⊢
  have HL := Lib.hid (show l.length + (6 + ((commas (exsT args)).length + (1 + ((braces k (blkT (k + 1) body)).length)))) ≤ 140737488355328 by (try simp only [List.length_append] at hL); (try simp only [List.length_cons] at hL); (try simp only [List.length_nil] at hL); omega)
  clear hL hE
  have t0 := h.alloc (.cells #[.int .i64 5, .int .i64 line, .int .i64 id, .string ⟨nm.toArray⟩, .string ⟨ty.toArray⟩, .int .i64 len, .int .i64 var, .slice A1 target.length c1, .string ⟨fn.toArray⟩, .int .i64 callee, .slice A2 args.length c2, .slice A3 body.length c3, .slice A4 els.length c4] 49)
  have q0 := (Wr.refl B w).alloc h.base (.cells #[.int .i64 5, .int .i64 line, .int .i64 id, .string ⟨nm.toArray⟩, .string ⟨ty.toArray⟩, .int .i64 len, .int .i64 var, .slice A1 target.length c1, .string ⟨fn.toArray⟩, .int .i64 callee, .slice A2 args.length c2, .slice A3 body.length c3, .slice A4 els.length c4] 49)
  have o0 := hO.wr hgB q0
  have e0 := heap_alloc_new w (.cells #[.int .i64 5, .int .i64 line, .int .i64 id, .string ⟨nm.toArray⟩, .string ⟨ty.toArray⟩, .int .i64 len, .int .i64 var, .slice A1 target.length c1, .string ⟨fn.toArray⟩, .int .i64 callee, .slice A2 args.length c2, .slice A3 body.length c3, .slice A4 els.length c4] 49)
  have Y_0 := hx2.wr q0
  have U_0 := hx3.wr q0
  obtain ⟨w0, HW0⟩ : ∃ U, Hid (w.alloc (.cells #[.int .i64 5, .int .i64 line, .int .i64 id, .string ⟨nm.toArray⟩, .string ⟨ty.toArray⟩, .int .i64 len, .int .i64 var, .slice A1 target.length c1, .string ⟨fn.toArray⟩, .int .i64 callee, .slice A2 args.length c2, .slice A3 body.length c3, .slice A4 els.length c4] 49) = U) := ⟨_, Lib.hid rfl⟩
  rw [HW0.out] at t0 q0 o0 e0 Y_0 U_0
  have hz0 : w0.heap.size = w.heap.size + 1 := by rw [← HW0.out]; exact World.size_alloc _ _
  have HZ0 := Lib.hid hz0
  have T0 := Lib.hid t0
  have Q0 := Lib.hid q0
  have O0 := Lib.hid o0
  have E0 := Lib.hid e0
  have Y0 := Lib.hid Y_0
  have U0 := Lib.hid U_0
  have hs0 : w.heap.size < w0.heap.size := by omega
  clear hz0 t0 q0 o0 e0 Y_0 U_0
  obtain ⟨n0, n1, n2, n3, n4⟩ := hn
  have HN0 := Lib.hid n0
  have HN1 := Lib.hid n1
  have HN2 := Lib.hid n2
  have HN3 := Lib.hid n3
  have HN4 := Lib.hid n4
  clear h hO hx1 hx2 hx3 hx4 n0 n1 n2 n3 n4
  go_enter Tryd.func44, Tryd.ntmps44
  go_wp2_with fail
  rw [HW0.out]
  refine (add1 _ [119, 104, 105, 108, 101, 32] T0.out (by first | rfl | (have := HZ0.out; omega)) (by have := HL.out; (try simp only [List.length_append]); (try simp only [List.length_cons]); (try simp only [List.length_nil]); omega)).mono ?_
  rintro e w1 ⟨rfl, t1, q1⟩
  have hs1 : w.heap.size < w1.heap.size := by have := q1.size; omega
  have T1 := Lib.hid t1
  have Q1 := Lib.hid (Q0.out.trans q1)
  have O1 := Lib.hid (O0.out.wr hgB q1)
  have E1 := Lib.hid (q1.other _ _ _ _ E0.out other_sm)
  have Y1 := Lib.hid (Y0.out.wr q1)
  have U1 := Lib.hid (U0.out.wr q1)
  clear t1 q1
  obtain ⟨z0, z3, z4, z5, z7, z8, z10, z11, z12⟩ := cells_sm E1.out
  go_wp2_with fail
  clear z0 z3 z4 z5 z7 z8 z10 z11 z12
  refine (list_any HE hgB T1.out O1.out Y1.out HN2.out (by have := HL.out; (try simp only [List.length_append]); (try simp only [List.length_cons]); (try simp only [List.length_nil]); omega)).mono ?_
  rintro e w2 ⟨rfl, t2, q2⟩
  have hs2 : w.heap.size < w2.heap.size := by have := q2.size; omega
  have T2 := Lib.hid t2
  have Q2 := Lib.hid (Q1.out.trans q2)
  have O2 := Lib.hid (O1.out.wr hgB q2)
  have E2 := Lib.hid (q2.other _ _ _ _ E1.out other_sm)
  have Y2 := Lib.hid (Y1.out.wr q2)
  have U2 := Lib.hid (U1.out.wr q2)
  clear t2 q2
  obtain ⟨z0, z3, z4, z5, z7, z8, z10, z11, z12⟩ := cells_sm E2.out
  go_wp2_with fail
  clear z0 z3 z4 z5 z7 z8 z10 z11 z12
  refine (add1 _ [32] T2.out (by first | rfl | (have := HZ0.out; omega)) (by have := HL.out; (try simp only [List.length_append]); (try simp only [List.length_cons]); (try simp only [List.length_nil]); omega)).mono ?_
  rintro e w3 ⟨rfl, t3, q3⟩
  have hs3 : w.heap.size < w3.heap.size := by have := q3.size; omega
  have T3 := Lib.hid t3
  have Q3 := Lib.hid (Q2.out.trans q3)
  have O3 := Lib.hid (O2.out.wr hgB q3)
  have E3 := Lib.hid (q3.other _ _ _ _ E2.out other_sm)
  have Y3 := Lib.hid (Y2.out.wr q3)
  have U3 := Lib.hid (U2.out.wr q3)
  clear t3 q3
  obtain ⟨z0, z3, z4, z5, z7, z8, z10, z11, z12⟩ := cells_sm E3.out
  go_wp2_with fail
  clear z0 z3 z4 z5 z7 z8 z10 z11 z12
  refine (inner_any HB hgB k T3.out O3.out U3.out HN3.out (by have := HL.out; (try simp only [List.length_append]); (try simp only [List.length_cons]); (try simp only [List.length_nil]); omega)).mono ?_
  rintro e w4 ⟨rfl, t4, q4⟩
  have hs4 : w.heap.size < w4.heap.size := by have := q4.size; omega
  have T4 := Lib.hid t4
  have Q4 := Lib.hid (Q3.out.trans q4)
  have O4 := Lib.hid (O3.out.wr hgB q4)
  have E4 := Lib.hid (q4.other _ _ _ _ E3.out other_sm)
  have Y4 := Lib.hid (Y3.out.wr q4)
  have U4 := Lib.hid (U3.out.wr q4)
  clear t4 q4
  go_wp2_with fail
  go_end0
  exact ⟨rfl, by have := T4.out; simpa using this, Q4.out⟩
set_option maxHeartbeats 4000000 in
set_option maxRecDepth 100000 in
theorem st_try {B P d : Nat} (hgB : PkB B) {w : World} {l : List UInt8} (line id len var callee : Int) (nm ty fn : List UInt8) {A1 A2 A3 A4 : Option Addr} {c1 c2 c3 c4 : Nat} {target args : List Ex} {body els : List Sm} (k : Nat) (h : Tx B P l w) (hO : Pk w) (hh : (ItoaAt ∧ ExprAt B P d ∧ WBlkAt B P d) ∧ ExsD w tt d A1 c1 target ∧ ExsD w tt d A2 c2 args ∧ SmsD w tt d A3 c3 body ∧ SmsD w tt d A4 c4 els) (hn : InI len ∧ NmEs target ∧ NmEs args ∧ NmSs body ∧ NmSs els)  (hL : l.length + (smT k (Sm.mk 8 line id nm ty len var target fn callee args body els)).length ≤ 140737488355328) :
    Calls Tryd.prog 44 #[.pointer (some ⟨P, 0, none⟩), .int .i64 k, .agg #[.int .i64 8, .int .i64 line, .int .i64 id, .string ⟨nm.toArray⟩, .string ⟨ty.toArray⟩, .int .i64 len, .int .i64 var, .slice A1 target.length c1, .string ⟨fn.toArray⟩, .int .i64 callee, .slice A2 args.length c2, .slice A3 body.length c3, .slice A4 els.length c4]] w (Wrote B P (l ++ smT k (Sm.mk 8 line id nm ty len var target fn callee args body els)) w) := by
  obtain ⟨⟨hI, HE, HB⟩, hx1, hx2, hx3, hx4⟩ := hh
  have hE : smT k (Sm.mk 8 line id nm ty len var target fn callee args body els) = [116, 114, 121, 32] ++ (braces k (blkT (k + 1) body) ++ (([32, 99, 97, 116, 99, 104, 32] ++ (nm ++ [32])) ++ (braces k (blkT (k + 1) els)))) := by simp [smT]
  rw [hE] at hL ⊢
  have HL := Lib.hid (show l.length + (4 + ((braces k (blkT (k + 1) body)).length + ((7 + (nm.length + 1)) + ((braces k (blkT (k + 1) els)).length)))) ≤ 140737488355328 by (try simp only [List.length_append] at hL); (try simp only [List.length_cons] at hL); (try simp only [List.length_nil] at hL); omega)
  clear hL hE
  have t0 := h.alloc (.cells #[.int .i64 8, .int .i64 line, .int .i64 id, .string ⟨nm.toArray⟩, .string ⟨ty.toArray⟩, .int .i64 len, .int .i64 var, .slice A1 target.length c1, .string ⟨fn.toArray⟩, .int .i64 callee, .slice A2 args.length c2, .slice A3 body.length c3, .slice A4 els.length c4] 49)
  have q0 := (Wr.refl B w).alloc h.base (.cells #[.int .i64 8, .int .i64 line, .int .i64 id, .string ⟨nm.toArray⟩, .string ⟨ty.toArray⟩, .int .i64 len, .int .i64 var, .slice A1 target.length c1, .string ⟨fn.toArray⟩, .int .i64 callee, .slice A2 args.length c2, .slice A3 body.length c3, .slice A4 els.length c4] 49)
  have o0 := hO.wr hgB q0
  have e0 := heap_alloc_new w (.cells #[.int .i64 8, .int .i64 line, .int .i64 id, .string ⟨nm.toArray⟩, .string ⟨ty.toArray⟩, .int .i64 len, .int .i64 var, .slice A1 target.length c1, .string ⟨fn.toArray⟩, .int .i64 callee, .slice A2 args.length c2, .slice A3 body.length c3, .slice A4 els.length c4] 49)
  have U_0 := hx3.wr q0
  have V_0 := hx4.wr q0
  obtain ⟨w0, HW0⟩ : ∃ U, Hid (w.alloc (.cells #[.int .i64 8, .int .i64 line, .int .i64 id, .string ⟨nm.toArray⟩, .string ⟨ty.toArray⟩, .int .i64 len, .int .i64 var, .slice A1 target.length c1, .string ⟨fn.toArray⟩, .int .i64 callee, .slice A2 args.length c2, .slice A3 body.length c3, .slice A4 els.length c4] 49) = U) := ⟨_, Lib.hid rfl⟩
  rw [HW0.out] at t0 q0 o0 e0 U_0 V_0
  have hz0 : w0.heap.size = w.heap.size + 1 := by rw [← HW0.out]; exact World.size_alloc _ _
  have HZ0 := Lib.hid hz0
  have T0 := Lib.hid t0
  have Q0 := Lib.hid q0
  have O0 := Lib.hid o0
  have E0 := Lib.hid e0
  have U0 := Lib.hid U_0
  have V0 := Lib.hid V_0
  have hs0 : w.heap.size < w0.heap.size := by omega
  clear hz0 t0 q0 o0 e0 U_0 V_0
  obtain ⟨n0, n1, n2, n3, n4⟩ := hn
  have HN0 := Lib.hid n0
  have HN1 := Lib.hid n1
  have HN2 := Lib.hid n2
  have HN3 := Lib.hid n3
  have HN4 := Lib.hid n4
  clear h hO hx1 hx2 hx3 hx4 n0 n1 n2 n3 n4
  go_enter Tryd.func44, Tryd.ntmps44
  go_wp2_with fail
  rw [HW0.out]
  refine (add1 _ [116, 114, 121, 32] T0.out (by first | rfl | (have := HZ0.out; omega)) (by have := HL.out; (try simp only [List.length_append]); (try simp only [List.length_cons]); (try simp only [List.length_nil]); omega)).mono ?_
  rintro e w1 ⟨rfl, t1, q1⟩
  have hs1 : w.heap.size < w1.heap.size := by have := q1.size; omega
  have T1 := Lib.hid t1
  have Q1 := Lib.hid (Q0.out.trans q1)
  have O1 := Lib.hid (O0.out.wr hgB q1)
  have E1 := Lib.hid (q1.other _ _ _ _ E0.out other_sm)
  have U1 := Lib.hid (U0.out.wr q1)
  have V1 := Lib.hid (V0.out.wr q1)
  clear t1 q1
  obtain ⟨z0, z3, z4, z5, z7, z8, z10, z11, z12⟩ := cells_sm E1.out
  go_wp2_with fail
  clear z0 z3 z4 z5 z7 z8 z10 z11 z12
  refine (inner_any HB hgB k T1.out O1.out U1.out HN3.out (by have := HL.out; (try simp only [List.length_append]); (try simp only [List.length_cons]); (try simp only [List.length_nil]); omega)).mono ?_
  rintro e w2 ⟨rfl, t2, q2⟩
  have hs2 : w.heap.size < w2.heap.size := by have := q2.size; omega
  have T2 := Lib.hid t2
  have Q2 := Lib.hid (Q1.out.trans q2)
  have O2 := Lib.hid (O1.out.wr hgB q2)
  have E2 := Lib.hid (q2.other _ _ _ _ E1.out other_sm)
  have U2 := Lib.hid (U1.out.wr q2)
  have V2 := Lib.hid (V1.out.wr q2)
  clear t2 q2
  obtain ⟨z0, z3, z4, z5, z7, z8, z10, z11, z12⟩ := cells_sm E2.out
  go_wp2_with fail
  clear z0 z3 z4 z5 z7 z8 z10 z11 z12
  refine (add3 _ [32, 99, 97, 116, 99, 104, 32] nm [32] T2.out (by first | rfl | (have := HZ0.out; omega)) (by have := HL.out; (try simp only [List.length_append]); (try simp only [List.length_cons]); (try simp only [List.length_nil]); omega)).mono ?_
  rintro e w3 ⟨rfl, t3, q3⟩
  have hs3 : w.heap.size < w3.heap.size := by have := q3.size; omega
  have T3 := Lib.hid t3
  have Q3 := Lib.hid (Q2.out.trans q3)
  have O3 := Lib.hid (O2.out.wr hgB q3)
  have E3 := Lib.hid (q3.other _ _ _ _ E2.out other_sm)
  have U3 := Lib.hid (U2.out.wr q3)
  have V3 := Lib.hid (V2.out.wr q3)
  clear t3 q3
  obtain ⟨z0, z3, z4, z5, z7, z8, z10, z11, z12⟩ := cells_sm E3.out
  go_wp2_with fail
  clear z0 z3 z4 z5 z7 z8 z10 z11 z12
  refine (inner_any HB hgB k T3.out O3.out V3.out HN4.out (by have := HL.out; (try simp only [List.length_append]); (try simp only [List.length_cons]); (try simp only [List.length_nil]); omega)).mono ?_
  rintro e w4 ⟨rfl, t4, q4⟩
  have hs4 : w.heap.size < w4.heap.size := by have := q4.size; omega
  have T4 := Lib.hid t4
  have Q4 := Lib.hid (Q3.out.trans q4)
  have O4 := Lib.hid (O3.out.wr hgB q4)
  have E4 := Lib.hid (q4.other _ _ _ _ E3.out other_sm)
  have U4 := Lib.hid (U3.out.wr q4)
  have V4 := Lib.hid (V3.out.wr q4)
  clear t4 q4
  go_wp2_with fail
  go_end0
  exact ⟨rfl, by have := T4.out; simpa using this, Q4.out⟩
/-- Other kinds are not written. -/
theorem smT_other {k : Nat} {kind line id len var callee : Int} {nm ty fn : List UInt8} {target args : List Ex} {body els : List Sm} (hk : ∀ j : Int, j ∈ [1, 2, 3, 4, 5, 6, 7, 8, 9] → ¬ kind = j) : smT k (.mk kind line id nm ty len var target fn callee args body els) = [] := by
  rw [smT, if_neg (hk 1 (by decide)), if_neg (by have := hk 2 (by decide); have := hk 3 (by decide); omega), if_neg (hk 4 (by decide)), if_neg (hk 5 (by decide)), if_neg (hk 6 (by decide)), if_neg (hk 7 (by decide)), if_neg (hk 8 (by decide)), if_neg (hk 9 (by decide))]
set_option maxHeartbeats 4000000 in
set_option maxRecDepth 100000 in
theorem st_other {B P : Nat} {w : World} {l : List UInt8} (kind line id len var callee : Int) (nm ty fn : List UInt8) {A1 A2 A3 A4 : Option Addr} {c1 c2 c3 c4 : Nat} {target args : List Ex} {body els : List Sm} (k : Nat) (h : Tx B P l w) (hk : ∀ j : Int, j ∈ [1, 2, 3, 4, 5, 6, 7, 8, 9] → ¬ kind = j) :
    Calls Tryd.prog 44 #[.pointer (some ⟨P, 0, none⟩), .int .i64 k, .agg #[.int .i64 kind, .int .i64 line, .int .i64 id, .string ⟨nm.toArray⟩, .string ⟨ty.toArray⟩, .int .i64 len, .int .i64 var, .slice A1 target.length c1, .string ⟨fn.toArray⟩, .int .i64 callee, .slice A2 args.length c2, .slice A3 body.length c3, .slice A4 els.length c4]] w (Wrote B P (l ++ smT k (.mk kind line id nm ty len var target fn callee args body els)) w) := by
  rw [smT_other hk, List.append_nil]
  have z1 : (kind == 1) = false := by simpa using hk 1 (by decide)
  have z2 : (kind == 2) = false := by simpa using hk 2 (by decide)
  have z3 : (kind == 3) = false := by simpa using hk 3 (by decide)
  have z4 : (kind == 4) = false := by simpa using hk 4 (by decide)
  have z5 : (kind == 5) = false := by simpa using hk 5 (by decide)
  have z6 : (kind == 6) = false := by simpa using hk 6 (by decide)
  have z7 : (kind == 7) = false := by simpa using hk 7 (by decide)
  have z8 : (kind == 8) = false := by simpa using hk 8 (by decide)
  have z9 : (kind == 9) = false := by simpa using hk 9 (by decide)
  have H := Lib.hid h
  clear h hk
  go_enter Tryd.func44, Tryd.ntmps44
  go_wp2_with fail
  go_end0
  exact ⟨rfl, H.out.alloc _, (Wr.refl B w).alloc H.out.base _⟩
theorem st_all {B P : Nat} (hI : ItoaAt) (hgB : PkB B) : ∀ d, StAt B P d
  | 0 => fun _ _ _ _ _ _ _ hx => hx.elim
  | d + 1 => fun w l v x k h hO hx hn _ hL => by
    have HE := expr_all (P := P) hI hgB d
    have HB := block_any (st_all (P := P) hI hgB d) hgB
    obtain ⟨kind, line, id, nm, ty, len, var, target, fn, callee, args, body, els⟩ := x
    obtain ⟨A1, c1, A2, c2, A3, c3, A4, c4, rfl, r1, r2, r3, r4⟩ := hx
    unfold NmS at hn
    have hh : (ItoaAt ∧ ExprAt B P d ∧ WBlkAt B P d) ∧ ExsD w tt d A1 c1 target ∧ ExsD w tt d A2 c2 args ∧ SmsD w tt d A3 c3 body ∧ SmsD w tt d A4 c4 els := ⟨⟨hI, HE, HB⟩, r1, r2, r3, r4⟩
    by_cases h1 : kind = 1
    · subst h1; exact st_declare hgB line id len var callee nm ty fn k h hO hh hn hL
    by_cases h2 : kind = 2
    · subst h2
      by_cases ht : target = []
      · subst ht; exact st_assign_plain hgB line id len var callee nm ty fn k h hO hh hn hL
      · exact st_assign_to hgB line id len var callee nm ty fn k h hO hh hn ht hL
    by_cases h3 : kind = 3
    · subst h3
      by_cases ht : target = []
      · subst ht; exact st_call_plain hgB line id len var callee nm ty fn k h hO hh hn hL
      · exact st_call_to hgB line id len var callee nm ty fn k h hO hh hn ht hL
    by_cases h4 : kind = 4
    · subst h4
      by_cases he : els = []
      · subst he; exact st_if hgB line id len var callee nm ty fn k h hO hh hn hL
      · exact st_if_else hgB line id len var callee nm ty fn k h hO hh hn he hL
    by_cases h5 : kind = 5
    · subst h5; exact st_while hgB line id len var callee nm ty fn k h hO hh hn hL
    by_cases h6 : kind = 6
    · subst h6; exact st_return hgB line id len var callee nm ty fn k h hO hh hn hL
    by_cases h7 : kind = 7
    · subst h7; exact st_throw hgB line id len var callee nm ty fn k h hO hh hn hL
    by_cases h8 : kind = 8
    · subst h8; exact st_try hgB line id len var callee nm ty fn k h hO hh hn hL
    by_cases h9 : kind = 9
    · subst h9; exact st_print hgB line id len var callee nm ty fn k h hO hh hn hL
    exact st_other kind line id len var callee nm ty fn k h (fun j hj => by
      simp only [List.mem_cons, List.not_mem_nil, or_false] at hj
      rcases hj with rfl | rfl | rfl | rfl | rfl | rfl | rfl | rfl | rfl <;> assumption)
end Go.Proofs.YtpfefjfpnmchcaaDoor
