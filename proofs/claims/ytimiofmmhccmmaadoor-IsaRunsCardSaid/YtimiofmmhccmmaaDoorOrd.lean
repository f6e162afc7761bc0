/-
  A region that draws its order and ends with stores: what is held of the world is held as long as its first operations have not all come up. No condition.
-/
import Derived.Deep.RegionHeld3
import Derived.WalkKit
import Derived.Lib.Hide
namespace Go.Proofs.YtimiofmmhccmmaaDoor
open Go.RowKit
section
variable {P : Program} {ops : Array Oper} {Q : Exit → Act → World → Prop} {md : Region.Mode} {S : World → Prop} {L : List Nat}
/-- Whatever comes up: behind the operations of L the world meets S. -/
def wpAnyU (P : Program) (md : Region.Mode) (ops : Array Oper) (Q : Exit → Act → World → Prop) (S : World → Prop) (L : List Nat) : Nat → Array Bool → Act → World → Prop
  | 0, listed, a, w => Region.ready md ops listed = [] ∧ Q .normal a w
  | n + 1, listed, a, w => (Region.ready md ops listed = [] → Q .normal a w) ∧
    ∀ j ∈ Region.ready md ops listed, wpOp P ops Q j (fun a' w' => (j ∈ L → S w') ∧ wpAnyU P md ops Q S L n (listed.setIfInBounds j true) a' w') a w
theorem wpAny_of_U : ∀ (n : Nat) (listed : Array Bool) (a : Act) (w : World), wpAnyU P md ops Q S L n listed a w → wpAny P md ops Q n listed a w
  | 0, _, _, _, h => h
  | n + 1, _, _, _, h => ⟨h.1, fun j hj => wpOp_mono (fun a' w' h' => wpAny_of_U n _ a' w' h'.2) (h.2 j hj)⟩
/-- Number k can't come up ahead of number i: it is i, or it has not come up and waits for i. -/
def Behind (md : Region.Mode) (ops : Array Oper) (listed : Array Bool) (i k : Nat) : Prop := k = i ∨ (listed.getD k false = false ∧ ∃ ok, ops[k]? = some ok ∧ ∃ e ∈ ok.after, Region.binds md e = true ∧ e.on = i)
/-- The same as a Bool. -/
def behind (md : Region.Mode) (ops : Array Oper) (listed : Array Bool) (i k : Nat) : Bool := k == i || (!(listed.getD k false) && match ops[k]? with
  | some ok => ok.after.any (fun e => Region.binds md e && e.on == i)
  | none => false)
theorem behind_spec {i k : Nat} {listed : Array Bool} (h : behind md ops listed i k = true) : Behind md ops listed i k := by
  unfold behind at h
  rw [Bool.or_eq_true, beq_iff_eq, Bool.and_eq_true] at h
  rcases h with h | ⟨h1, h2⟩
  · exact .inl h
  · refine .inr ⟨by simpa using h1, ?_⟩
    cases hk : ops[k]? with
    | none => rw [hk] at h2; cases h2
    | some ok =>
      rw [hk] at h2
      obtain ⟨e, he, hb⟩ := Array.any_eq_true'.1 h2
      rw [Bool.and_eq_true, beq_iff_eq] at hb
      exact ⟨ok, rfl, e, he, hb⟩
/-- Every operation outside L that has not come up waits for number i, or for one that waits for it. -/
def waits (md : Region.Mode) (ops : Array Oper) (L : List Nat) (listed : Array Bool) (i : Nat) : Bool :=
  (List.range ops.size).all fun j => L.contains j || listed.getD j true || match ops[j]? with
    | some oj => oj.after.any (fun e => Region.binds md e && behind md ops listed i e.on)
    | none => true
theorem waits_spec {i j : Nat} {oj : Oper} {listed : Array Bool} (h : waits md ops L listed i = true) (hj : ops[j]? = some oj) (hL : j ∉ L) (hun : listed.getD j true = false) : ∃ e ∈ oj.after, Region.binds md e = true ∧ Behind md ops listed i e.on := by
  unfold waits at h
  rw [List.all_eq_true] at h
  have h1 := h j (List.mem_range.2 (Array.getElem?_eq_some_iff.1 hj).1)
  rw [hj, hun] at h1
  simp only [Bool.or_eq_true, List.contains_eq_mem, decide_eq_true_eq, hL, false_or, Bool.false_eq_true] at h1
  obtain ⟨e, he, hb⟩ := Array.any_eq_true'.1 h1
  rw [Bool.and_eq_true] at hb
  exact ⟨e, he, hb.1, behind_spec hb.2⟩
theorem not_waiting {i j : Nat} {listed : Array Bool} (hi : i ∈ Region.ready md ops listed) (hj : j ∈ Region.ready md ops listed) : ∃ oj, ops[j]? = some oj ∧ ∀ e ∈ oj.after, Region.binds md e = true → e.on ≠ i := by
  obtain ⟨_, oj, hoj, hall⟩ := mem_ready.1 hj
  refine ⟨oj, hoj, fun e he hb heq => ?_⟩
  have h1 := hall e he hb
  have h0 := (mem_ready.1 hi).1
  rw [heq] at h1
  rcases Nat.lt_or_ge i listed.size with h' | h'
  · simp [h'] at h0 h1
    rw [h0] at h1
    cases h1
  · simp [Array.getElem?_eq_none h'] at h1
/-- An operation may be taken first: one of L that yields under S, and for which all outside L wait; or one outside L that yields in whatever world. -/
theorem wpAnyU_first {S' : World → Prop} {i : Nat} {oi : Oper} {v : Value} (hi : ops[i]? = some oi) (hsel : ∀ (j : Nat) (o : Oper) cs b, ops[j]? = some o → o.op ≠ .select cs b)
    (hQ : ∀ c a w, Q (.panic c) (a.put oi.dst v) w → Q (.panic c) a w)
    (hS' : (i ∈ L ∧ S' = S) ∨ (i ∉ L ∧ ∀ w, S' w)) :
    ∀ (n : Nat) (listed : Array Bool) (a : Act) (w : World),
      (∀ j oj, ops[j]? = some oj → j ≠ i → listed.getD j true = false → (∀ e ∈ oj.after, Region.binds md e = true → e.on ≠ i) → oi.apart ops oj = true) →
      (i ∈ L → ∀ j oj, ops[j]? = some oj → j ∉ L → listed.getD j true = false → ∃ e ∈ oj.after, Region.binds md e = true ∧ Behind md ops listed i e.on) →
      i ∈ Region.ready md ops listed → YieldsIf P ops S' oi v a → S' w →
      wpAnyU P md ops Q S L n (listed.setIfInBounds i true) (a.put oi.dst v) w → wpAnyU P md ops Q S L (n + 1) listed a w := by
  have own : ∀ w, S' w → (i ∈ L → S w) := fun w hw hL => by
    rcases hS' with ⟨_, e⟩ | ⟨h, _⟩
    · rw [← e]; exact hw
    · exact absurd hL h
  intro n
  induction n with
  | zero =>
    intro listed a w _ _ hr hy hS H
    refine ⟨fun h => (by rw [h] at hr; cases hr), fun j hj => ?_⟩
    by_cases hji : j = i
    · subst hji
      exact hy.wpOp hi hS ⟨own w hS, H⟩
    · have h0 := ready_mono hj hji
      rw [H.1] at h0
      cases h0
  | succ n ih =>
    intro listed a w hfree hwait hr hy hS H
    refine ⟨fun h => (by rw [h] at hr; cases hr), fun j hj => ?_⟩
    by_cases hji : j = i
    · subst hji
      exact hy.wpOp hi hS ⟨own w hS, H⟩
    · obtain ⟨oj, hoj, hnot⟩ := not_waiting hr hj
      have hjun := (mem_ready.1 hj).1
      have h2 := wpOp_putIf hoj (hfree j oj hoj hji hjun hnot) (fun cs b => hsel i oi cs b hi) (fun cs b => hsel j oj cs b hoj) hQ hy (H.2 j (ready_mono hj hji))
      have hnext : ∀ w', (j ∈ L → S w') → S' w' := fun w' hjL => by
        rcases hS' with ⟨hiL, e⟩ | ⟨_, h⟩
        · by_cases hL : j ∈ L
          · rw [e]; exact hjL hL
          · obtain ⟨e', he', hb, hon⟩ := hwait hiL j oj hoj hL hjun
            rcases hon with hon | ⟨hon, _⟩
            · exact absurd hon (hnot e' he' hb)
            · obtain ⟨_, oj', hoj', hall⟩ := mem_ready.1 hj
              rw [hoj] at hoj'
              injection hoj' with hoj'
              subst hoj'
              rw [hall e' he' hb] at hon
              cases hon
        · exact h w'
      have hkeep : ∀ k, (listed.setIfInBounds j true).getD k true = false → listed.getD k true = false := fun k hun => by
        by_cases hjk : j = k
        · subst hjk; exact hjun
        · rw [getD_set_ne true hjk] at hun; exact hun
      refine wpOp_mono (fun a' w' h3 => ⟨h3.2.1, ih (listed.setIfInBounds j true) a' w' (fun k ok hk hki hun hno => hfree k ok hk hki (hkeep k hun) hno) (fun hiL k ok hk hkL hun => by
        obtain ⟨e, he, hb, hon⟩ := hwait hiL k ok hk hkL (hkeep k hun)
        refine ⟨e, he, hb, hon.imp id (fun ⟨h1, ok', hok', e2, he2, hb2, hon2⟩ => ⟨?_, ok', hok', e2, he2, hb2, hon2⟩)⟩
        rw [getD_set_ne false]
        · exact h1
        · intro hje
          rw [← hje, hoj] at hok'
          injection hok' with hok'
          subst hok'
          exact hnot e2 he2 hb2 hon2) (ready_mono hr (Ne.symm hji)) h3.1 (hnext w' h3.2.1) ?_⟩) h2
      rw [Array.setIfInBounds_comm _ _ hji]
      exact h3.2.2
theorem wpAnyU_take {i : Nat} {oi : Oper} {v : Value} {n : Nat} {listed : Array Bool} {a : Act} {w : World} (hi : ops[i]? = some oi)
    (hs : Region.noSelect ops = true) (hf : Region.free md ops listed i = true) (hr : (Region.ready md ops listed).contains i = true) (hL : L.contains i = true) (hw : waits md ops L listed i = true)
    (hQ : ∀ c a w, Q (.panic c) (a.put oi.dst v) w → Q (.panic c) a w) (hy : YieldsIf P ops S oi v a) (hS : S w)
    (h : wpAnyU P md ops Q S L n (listed.setIfInBounds i true) (a.put oi.dst v) w) : wpAnyU P md ops Q S L (n + 1) listed a w :=
  wpAnyU_first (S' := S) hi (Region.noSelect_spec hs) hQ (.inl ⟨by simpa using hL, rfl⟩) n listed a w (Region.free_spec hi hf) (fun _ j oj hj hjL hun => waits_spec hw hj hjL hun) (by simpa using hr) hy hS h
theorem wpAnyU_late {i : Nat} {oi : Oper} {v : Value} {n : Nat} {listed : Array Bool} {a : Act} {w : World} (hi : ops[i]? = some oi)
    (hs : Region.noSelect ops = true) (hf : Region.free md ops listed i = true) (hr : (Region.ready md ops listed).contains i = true) (hL : L.contains i = false)
    (hQ : ∀ c a w, Q (.panic c) (a.put oi.dst v) w → Q (.panic c) a w) (hy : YieldsIf P ops (fun _ => True) oi v a)
    (h : wpAnyU P md ops Q S L n (listed.setIfInBounds i true) (a.put oi.dst v) w) : wpAnyU P md ops Q S L (n + 1) listed a w :=
  wpAnyU_first (S' := fun _ => True) hi (Region.noSelect_spec hs) hQ (.inr ⟨by simpa using hL, fun _ => trivial⟩) n listed a w (Region.free_spec hi hf) (fun hiL => absurd hiL (by simpa using hL)) (by simpa using hr) hy trivial h
/-- All that may come up, one by one; what follows is shut. -/
def AllU (P : Program) (md : Region.Mode) (ops : Array Oper) (Q : Exit → Act → World → Prop) (S : World → Prop) (L : List Nat) (n : Nat) (listed : Array Bool) (a : Act) (w : World) (rs : List Nat) : Prop :=
  ∀ j ∈ rs, wpOp P ops Q j (fun a' w' => (j ∈ L → S w') ∧ wpAnyU P md ops Q S L n (listed.setIfInBounds j true) a' w') a w
theorem AllU.nil {n : Nat} {listed : Array Bool} {a : Act} {w : World} : AllU P md ops Q S L n listed a w [] := fun _ hj => by cases hj
theorem AllU.cons {n : Nat} {listed : Array Bool} {a : Act} {w : World} {i : Nat} {o : Oper} {rs : List Nat} (ho : ops[i]? = some o)
    (h : ∀ K' : Act → World → Prop, Hid (∀ a w, (i ∈ L → S w) → wpAnyU P md ops Q S L n (listed.setIfInBounds i true) a w → K' a w) → if Region.wanted o (yielded ops a.tmps) = true then Oper.wp P o a w K' Q else K' (a.put o.dst undef) w)
    (hs : AllU P md ops Q S L n listed a w rs) : AllU P md ops Q S L n listed a w (i :: rs) := fun j hj => by
  rcases List.mem_cons.1 hj with rfl | hj
  · exact wpOp_step ho (fun K' hK => h K' (Lib.hid (fun a w h1 h2 => hK a w ⟨h1, h2⟩)))
  · exact hs j hj
theorem wpAnyU_ready {rs : List Nat} {n : Nat} {listed : Array Bool} {a : Act} {w : World} (hr : Region.ready md ops listed = rs) (hne : rs ≠ [])
    (h : AllU P md ops Q S L n listed a w rs) : wpAnyU P md ops Q S L (n + 1) listed a w :=
  ⟨fun h0 => absurd (hr ▸ h0) hne, hr ▸ h⟩
theorem wpAnyU_done {listed : Array Bool} {a : Act} {w : World} (hr : Region.ready md ops listed = []) (h : Q .normal a w) : ∀ n, wpAnyU P md ops Q S L n listed a w
  | 0 => ⟨hr, h⟩
  | _ + 1 => ⟨fun _ => h, by rw [hr]; simp⟩
theorem wp_region_U {id : Nat} {a : Act} {w : World} (hm : P.follows .mixedOrders = true) (h : wpAnyU P .any ops Q S L ops.size (Array.replicate ops.size false) a w.drew) : (Code.region id ops true).wp P Q a w :=
  wp_region_any hm (wpAny_of_U _ _ _ _ h)
end
end Go.Proofs.YtimiofmmhccmmaaDoor
