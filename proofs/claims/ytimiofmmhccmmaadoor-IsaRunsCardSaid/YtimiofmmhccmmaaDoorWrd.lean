/-
  What words makes of a list of instructions: their words. Condition: fields of 64 bits, at most 1000 instructions.
-/
import Derived.Test.YtimiofmmhccmmaaDoorNums
import Derived.WalkKit
import Derived.OwnWalk
import Derived.Laws.AppendOwn
namespace Go.Proofs.YtimiofmmhccmmaaDoor
open Go.RowKit

/-- The slice value '.slice A l.length c' reads as the instructions l. -/
structure Inss (w : World) (A : Option Addr) (c : Nat) (l : List Ins) : Prop where
  fits : ∀ i ∈ l, i.Fits
  at_ : l ≠ [] → ∃ b o, A = some ⟨b, o, none⟩ ∧ b < w.heap.size ∧ ∀ k (h : k < l.length), w.cell? ⟨b, o + k * 5, none⟩ = some (.int .i64 l[k].op) ∧ w.cell? ⟨b, o + k * 5 + 1, none⟩ = some (.int .i64 l[k].a) ∧ w.cell? ⟨b, o + k * 5 + 2, none⟩ = some (.int .i64 l[k].b) ∧ w.cell? ⟨b, o + k * 5 + 3, none⟩ = some (.int .i64 l[k].c) ∧ w.cell? ⟨b, o + k * 5 + 4, none⟩ = some (.int .i64 l[k].imm)
/-- Their words, as values. -/
def wordsV (l : List Ins) : List Value := l.map (fun i => Value.int .i64 (encW i))
theorem int_info : (Tryd.prog.info? 3).map (fun i => (i.zero, i.size, i.bytes)) = some (some (.int .i64 0), 1, 8) := by kernel_rfl
theorem own_below {w w' : World} {base size n : Nat} {e : TypeId} {v : Value} {xs : List Value} (h : w.ownsRow base e size v n xs) (hb : Below w.heap.size w w') : w'.ownsRow base e size v n xs :=
  h.kept (row := none) ⟨hb.os, hb.tape, hb.output, hb.size, fun k hk _ => hb.block k hk⟩ (by cases hv : v.ownBlock <;> simp)
theorem own_form {w : World} {base : Nat} {e : TypeId} {v : Value} {n : Nat} {xs : List Value} (h : w.ownsRow base e 1 v n xs) : ∃ A C, v = .slice A n C := by
  rcases h.2 with ⟨hv, hn⟩ | ⟨g, cap, cur, hv, _⟩
  · exact ⟨_, _, hn ▸ hv⟩
  · exact ⟨_, _, hv⟩
theorem cell_one (w : World) (x : Int) (t : TypeId) : ∀ (j : Nat) (u : Value), ([Value.int .i64 x])[j]? = some u → (w.alloc (.cells #[.int .i64 x] t)).cell? ((⟨w.heap.size, 0, none⟩ : Addr).add j) = some u := by
  intro j u hu
  cases j with
  | zero =>
    simp at hu
    subst hu
    rw [Addr.add_lit, World.cell?_alloc_at _ _ _ _ rfl]; rfl
  | succ j => simp at hu
/-- A row of the call's own reads as numbers. -/
theorem nums_of_own {w : World} {base : Nat} {A : Option Addr} {c : Nat} {l : List Int} {e : TypeId} (hf : ∀ k : Nat, I64 (l.getD k 0)) (h : w.ownsRow base e 1 (.slice A l.length c) l.length (l.map (Value.int .i64))) : Nums w A c l := by
  rcases h.2 with ⟨hv, hn⟩ | ⟨g, cap, cur, hv, hb, hg, hn, hm, hs, ht⟩
  · injection hv with h1 h2 h3
    subst h1 h3
    rw [List.length_eq_zero_iff] at hn
    subst hn
    exact nums_nil w
  · injection hv with h1 h2 h3
    subst h1 h3
    have hgs : g < w.heap.size := (Array.getElem?_eq_some_iff.1 hg).1
    refine ⟨hf, hn, hm, fun h => (by cases h), fun _ => ⟨g, 0, rfl, hgs, fun k hk => ?_⟩⟩
    rw [Nat.zero_add, cell_of_row w g k cur e _ hg]
    have h4 : (cur.toList.take (l.length * 1))[k]? = some (.int .i64 (l.getD k 0)) := by
      rw [ht, List.getElem?_map, List.getElem?_eq_getElem hk]
      simp [List.getD_eq_getElem?_getD, List.getElem?_eq_getElem hk]
    rw [List.getElem?_take, if_pos (by omega), Array.getElem?_toList] at h4
    exact h4

set_option maxRecDepth 100000 in
theorem words_any (A : Option Addr) (c : Nat) (ls : List Ins) (w : World) (hl : Inss w A c ls) (hn : ls.length ≤ 1000) :
    Calls Tryd.prog 26 #[.slice A ls.length c] w fun e w' => ∃ A' c', e = .returned (.slice A' ls.length c') ∧ w'.ownsRow w.heap.size 3 1 (.slice A' ls.length c') ls.length (wordsV ls) ∧ Below w.heap.size w w' := by
  obtain ⟨i0, hi, hz0, hz1, hz2⟩ := info_parts int_info
  go_enter Tryd.func26, Tryd.ntmps26
  go_wp2_with fail
  go_loopw [3, 10] (fun v i wr => ∃ (n : Nat) (B : Option Addr) (d : Nat), n ≤ ls.length ∧ i = .int .i64 n ∧ v = .slice B n d ∧ wr.ownsRow w.heap.size 3 1 (.slice B n d) n (wordsV (ls.take n)) ∧ Below w.heap.size w wr) (fun _ i _ => ls.length - (intOf i).toNat)
  case atStart => exact ⟨0, none, 0, by omega, rfl, rfl, World.ownsRow_nil _ _ _ _, Below.refl _ _⟩
  case round =>
    obtain ⟨n, B, d, hle, rfl, rfl, hown, hbel⟩ := hrel
    by_cases hlt : n < ls.length
    · obtain ⟨b, o, rfl, hb, hc⟩ := hl.at_ (by rintro rfl; simp at hlt)
      obtain ⟨c0, c1, c2, c3, c4⟩ := hc n hlt
      have hfit := hl.fits _ (List.getElem_mem hlt)
      have m0 := (hbel.cell (p := ⟨b, o + n * 5, none⟩) hb).trans c0
      have m1 := (hbel.cell (p := ⟨b, o + n * 5 + 1, none⟩) hb).trans c1
      have m2 := (hbel.cell (p := ⟨b, o + n * 5 + 2, none⟩) hb).trans c2
      have m3 := (hbel.cell (p := ⟨b, o + n * 5 + 3, none⟩) hb).trans c3
      have m4 := (hbel.cell (p := ⟨b, o + n * 5 + 4, none⟩) hb).trans c4
      have htake := Lib.hid (show wordsV (ls.take (n + 1)) = wordsV (ls.take n) ++ [.int .i64 (encW ls[n])] by
        rw [List.take_succ_eq_append_getElem hlt]
        simp only [wordsV, List.map_append, List.map_cons, List.map_nil])
      obtain ⟨x, hx⟩ : ∃ x, Hid (ls[n] = x) := ⟨_, Lib.hid rfl⟩
      rw [hx.out] at m0 m1 m2 m3 m4 hfit htake
      obtain ⟨x0, x1, x2, x3, x4⟩ := x
      have HO := Lib.hid hown
      have HB := Lib.hid hbel
      clear hown hbel hc c0 c1 c2 c3 c4 hx
      go_wp2_with fail
      refine (refEncode_any ⟨_, _, _, _, _⟩ hfit _).mono ?_
      rintro e w2 ⟨rfl, hb2⟩
      obtain ⟨W, hW⟩ : ∃ y, Hid (encW ⟨x0, x1, x2, x3, x4⟩ = y) := ⟨_, rfl⟩
      obtain ⟨E, hE⟩ : ∃ y, Hid (encE ⟨x0, x1, x2, x3, x4⟩ = y) := ⟨_, rfl⟩
      rw [hW.out] at htake ⊢
      rw [hE.out]
      have HO2 := Lib.hid (own_below (HO.out.alloc (.cells #[.int .i64 x0, .int .i64 x1, .int .i64 x2, .int .i64 x3, .int .i64 x4] 23)) hb2)
      have HB2 := Lib.hid ((HB.out.alloc HB.out.size (.cells #[.int .i64 x0, .int .i64 x1, .int .i64 x2, .int .i64 x3, .int .i64 x4] 23)).trans (hb2.mono (by have := HB.out.size; simp; omega)))
      clear HO HB hb2 hW hE m0 m1 m2 m3 m4 hfit
      go_wp2_with (at_builtin; refine wpList_append_own _ rfl _ _ 44 rfl w.heap.size 3 i0 (.int .i64 0) 1 8 Tryd.underlying44 hi hz0 hz1 hz2 rfl (by decide) _ n (wordsV (ls.take n)) rfl (HO2.out.alloc _) ⟨w2.heap.size, 0, none⟩ 1 1 [.int .i64 W] rfl rfl (cell_one _ _ _) (by simp [Value.oneCell']) (by unfold maxLen; omega) (by omega) (by have := HB2.out.size; simp; omega) ?_; intro v3 w3 hown3 hgrow3 _)
      have HB3 := Lib.hid ((HB2.out.alloc HB2.out.size (.cells #[.int .i64 W] 3)).grown hgrow3 (by have := HB2.out.size; simp; omega) (fun k hk => (HO2.out.lt k hk).1))
      rw [← htake.out] at hown3
      obtain ⟨B3, d3, rfl⟩ := own_form hown3
      clear hgrow3 HO2 HB2 htake
      go_roundw
      case rel => exact ⟨n + 1, B3, d3, by omega, by go_num, rfl, hown3, HB3.out⟩
      case measure => simp [intOf]; omega
    · obtain rfl : n = ls.length := by omega
      rw [List.take_length] at hown
      have HO := Lib.hid hown
      have HB := Lib.hid hbel
      clear hown hbel
      go_wp2
      go_ret
      exact ⟨B, d, rfl, HO.out, HB.out⟩
end Go.Proofs.YtimiofmmhccmmaaDoor
