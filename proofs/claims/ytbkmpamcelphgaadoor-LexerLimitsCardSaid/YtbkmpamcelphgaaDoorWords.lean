/-
  The walk of lexer.reservedWords: the map that it makes says of each text whether it is a reserved word. No condition.
-/
import Derived.Test.YtbkmpamcelphgaaDoorChar
import Derived.Maps.Own
import Derived.Maps.Views
namespace Go.Proofs.YtbkmpamcelphgaaDoor
open Go.RowKit
open Go.Maps (setOf IsMap isMap_empty atKey_put_same atKey_put_other)

theorem keyed : Go.Maps.Keyed Tryd.prog 9 := Go.Maps.string_keyed Tryd.underlying9
theorem zeroB (w : World) : (zeroValue 4).run Tryd.prog w = .ok (.bool false) w := by kernel_rfl
abbrev yes : DataW Unit := .lit (.bool true)

/-- Block b is a map that says of a text whether it is a reserved word. -/
def WordsAt (w : World) (b : Nat) : Prop := w.ownsMap (H := Unit) Tryd.prog 9 (plainElem Tryd.prog 4) b 12 (setOf yes (words.map Lit.string))

theorem WordsAt.keep {w w' : World} {b : Nat} (h : WordsAt w b) (hb : w'.heap[b]? = w.heap[b]?) : WordsAt w' b := by
  obtain ⟨es, clock, h1, h2⟩ := h
  exact ⟨es, clock, hb.trans h1, h2⟩
theorem WordsAt.lt {w : World} {b : Nat} (h : WordsAt w b) : b < w.heap.size := World.ownsMap.lt h
theorem WordsAt.below {w w' : World} {b B : Nat} (h : WordsAt w b) (hb : Below B w w') (hB : b < B) : WordsAt w' b := h.keep (hb.block b hB)

theorem atKey_fold (k : Lit) (hk : WideAt.IsKeyLit k) : ∀ (acc : List Lit) (m : DataW Unit), IsMap m → ∀ z, (k ∈ acc → (acc.foldl (fun m x => m.put x yes) m).atKey k z = yes) ∧ (k ∉ acc → (acc.foldl (fun m x => m.put x yes) m).atKey k z = m.atKey k z)
  | [], m, _, z => ⟨fun h => by simp at h, fun _ => rfl⟩
  | x :: acc, m, hm, z => by
    have ih := atKey_fold k hk acc _ (hm.put x yes) z
    rw [List.foldl_cons]
    refine ⟨fun h => ?_, fun h => ?_⟩
    · by_cases h1 : k ∈ acc
      · exact ih.1 h1
      · rw [ih.2 h1]
        obtain rfl : k = x := by
          rcases List.mem_cons.1 h with h | h
          · exact h
          · exact absurd h h1
        exact atKey_put_same hm hk _ _
    · rw [ih.2 (fun e => h (List.mem_cons_of_mem _ e))]
      exact atKey_put_other (fun e => h (by rw [e]; exact List.mem_cons_self)) _ _

theorem WordsAt.look {w : World} {b : Nat} (h : WordsAt w b) (s : ByteArray) (hs : s.size ≤ maxLen) (r : Bool) (hr : Hid (decide (s.data.toList ∈ words) = r)) :
    (Instr.lookup 50 (.map (some b)) (.string s) false).run Tryd.prog w = .ok (.bool r) w := by
  obtain ⟨v, ps, hrun, hv⟩ := World.ownsMap.lookup h keyed Tryd.underlying50 (zeroB w) (plainElem_bool Tryd.underlying4 false) (Go.WideMaps.keyOf_string_mk Tryd.underlying9 hs)
  have hk : WideAt.IsKeyLit (.string s.data.toList) := by simp [WideAt.IsKeyLit]
  have hat : (setOf yes (words.map Lit.string)).atKey (.string s.data.toList) (.lit (.bool false)) = (.lit (.bool r) : DataW Unit) := by
    unfold setOf
    have hf := atKey_fold _ hk (words.map Lit.string) _ isMap_empty (.lit (.bool false))
    have hmem : Lit.string s.data.toList ∈ words.map Lit.string ↔ s.data.toList ∈ words := by simp
    by_cases hin : s.data.toList ∈ words
    · rw [hf.1 (hmem.2 hin), ← hr.out, decide_eq_true hin]
    · rw [hf.2 (fun e => hin (hmem.1 e)), ← hr.out, decide_eq_false hin]; rfl
  rw [hat] at hv
  have hvb : v = .bool r := by
    unfold plainElem at hv
    rw [Tryd.underlying4] at hv
    cases v <;> simp at hv
    rw [hv.1]
  rw [hrun, hvb]

set_option maxRecDepth 100000 in
set_option maxHeartbeats 1600000 in
theorem reserved_any (w : World) : Calls Tryd.prog 22 #[] w fun e w' => ∃ b, e = .returned (.map (some b)) ∧ WordsAt w' b ∧ w.heap.size ≤ b ∧ Below w.heap.size w w' := by
  have hmm := @run_makeMap Tryd.prog
  have hm := Below.alloc (Below.refl w.heap.size w) (Nat.le_refl _) (.map #[] 0)
  have o0 := World.ownsMap_made (H := Unit) w Tryd.prog 9 (plainElem Tryd.prog 4)
  obtain ⟨w1, r1, o1, g1⟩ := o0.update keyed Tryd.underlying50 (by unfold maxLen; omega) (key := .string ⟨#[114, 101, 99, 111, 114, 100]⟩) (val := .bool true) (Go.WideMaps.keyOf_string_mk Tryd.underlying9 (by decide)) (plainElem_bool Tryd.underlying4 true)
  obtain ⟨w2, r2, o2, g2⟩ := o1.update keyed Tryd.underlying50 (by unfold maxLen; omega) (key := .string ⟨#[102, 117, 110, 99]⟩) (val := .bool true) (Go.WideMaps.keyOf_string_mk Tryd.underlying9 (by decide)) (plainElem_bool Tryd.underlying4 true)
  obtain ⟨w3, r3, o3, g3⟩ := o2.update keyed Tryd.underlying50 (by unfold maxLen; omega) (key := .string ⟨#[118, 97, 114]⟩) (val := .bool true) (Go.WideMaps.keyOf_string_mk Tryd.underlying9 (by decide)) (plainElem_bool Tryd.underlying4 true)
  obtain ⟨w4, r4, o4, g4⟩ := o3.update keyed Tryd.underlying50 (by unfold maxLen; omega) (key := .string ⟨#[105, 110, 116]⟩) (val := .bool true) (Go.WideMaps.keyOf_string_mk Tryd.underlying9 (by decide)) (plainElem_bool Tryd.underlying4 true)
  obtain ⟨w5, r5, o5, g5⟩ := o4.update keyed Tryd.underlying50 (by unfold maxLen; omega) (key := .string ⟨#[105, 102]⟩) (val := .bool true) (Go.WideMaps.keyOf_string_mk Tryd.underlying9 (by decide)) (plainElem_bool Tryd.underlying4 true)
  obtain ⟨w6, r6, o6, g6⟩ := o5.update keyed Tryd.underlying50 (by unfold maxLen; omega) (key := .string ⟨#[101, 108, 115, 101]⟩) (val := .bool true) (Go.WideMaps.keyOf_string_mk Tryd.underlying9 (by decide)) (plainElem_bool Tryd.underlying4 true)
  obtain ⟨w7, r7, o7, g7⟩ := o6.update keyed Tryd.underlying50 (by unfold maxLen; omega) (key := .string ⟨#[119, 104, 105, 108, 101]⟩) (val := .bool true) (Go.WideMaps.keyOf_string_mk Tryd.underlying9 (by decide)) (plainElem_bool Tryd.underlying4 true)
  obtain ⟨w8, r8, o8, g8⟩ := o7.update keyed Tryd.underlying50 (by unfold maxLen; omega) (key := .string ⟨#[114, 101, 116, 117, 114, 110]⟩) (val := .bool true) (Go.WideMaps.keyOf_string_mk Tryd.underlying9 (by decide)) (plainElem_bool Tryd.underlying4 true)
  obtain ⟨w9, r9, o9, g9⟩ := o8.update keyed Tryd.underlying50 (by unfold maxLen; omega) (key := .string ⟨#[116, 104, 114, 111, 119]⟩) (val := .bool true) (Go.WideMaps.keyOf_string_mk Tryd.underlying9 (by decide)) (plainElem_bool Tryd.underlying4 true)
  obtain ⟨w10, r10, o10, g10⟩ := o9.update keyed Tryd.underlying50 (by unfold maxLen; omega) (key := .string ⟨#[116, 114, 121]⟩) (val := .bool true) (Go.WideMaps.keyOf_string_mk Tryd.underlying9 (by decide)) (plainElem_bool Tryd.underlying4 true)
  obtain ⟨w11, r11, o11, g11⟩ := o10.update keyed Tryd.underlying50 (by unfold maxLen; omega) (key := .string ⟨#[99, 97, 116, 99, 104]⟩) (val := .bool true) (Go.WideMaps.keyOf_string_mk Tryd.underlying9 (by decide)) (plainElem_bool Tryd.underlying4 true)
  obtain ⟨w12, r12, o12, g12⟩ := o11.update keyed Tryd.underlying50 (by unfold maxLen; omega) (key := .string ⟨#[112, 114, 105, 110, 116]⟩) (val := .bool true) (Go.WideMaps.keyOf_string_mk Tryd.underlying9 (by decide)) (plainElem_bool Tryd.underlying4 true)
  have hb1 := hm.grown g1 (by simp) (by simp)
  have hb2 := hb1.grown g2 (hb1.size) (by simp)
  have hb3 := hb2.grown g3 (hb2.size) (by simp)
  have hb4 := hb3.grown g4 (hb3.size) (by simp)
  have hb5 := hb4.grown g5 (hb4.size) (by simp)
  have hb6 := hb5.grown g6 (hb5.size) (by simp)
  have hb7 := hb6.grown g7 (hb6.size) (by simp)
  have hb8 := hb7.grown g8 (hb7.size) (by simp)
  have hb9 := hb8.grown g9 (hb8.size) (by simp)
  have hb10 := hb9.grown g10 (hb9.size) (by simp)
  have hb11 := hb10.grown g11 (hb10.size) (by simp)
  have hb12 := hb11.grown g12 (hb11.size) (by simp)
  have HO : Hid (WordsAt w12 w.heap.size) := o12
  have HB := Lib.hid hb12
  clear o1 g1 hb1 o2 g2 hb2 o3 g3 hb3 o4 g4 hb4 o5 g5 hb5 o6 g6 hb6 o7 g7 hb7 o8 g8 hb8 o9 g9 hb9 o10 g10 hb10 o11 g11 hb11 o12 g12 hb12 o0 hm
  go_enter Tryd.func22, Tryd.ntmps22
  go_wp2
  go_ret
  exact ⟨_, rfl, HO.out, Nat.le_refl _, HB.out⟩
end Go.Proofs.YtbkmpamcelphgaaDoor
