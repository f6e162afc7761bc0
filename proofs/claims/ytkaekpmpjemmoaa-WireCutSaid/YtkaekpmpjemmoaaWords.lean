/-
  Plain words on memory and bytes that the proofs over the wire layer share: a slice that reads as a list of bytes, a slice that the call itself has made. No condition.
-/
import Derived.WalkKit
import Derived.Lib.Hide
import Derived.Lib.AppendStr
import Derived.Laws.AppendOwnNone
import Derived.Deep.Draws
import Derived.Deep.AppendLies
namespace Go.Proofs.Ytkaekpmpjemmoaa
open Go.RowKit

/-- The world has moved on by draws alone. -/
def Drew (w w' : World) : Prop := ∃ n, w' = w.drewN n
theorem Drew.refl (w : World) : Drew w w := ⟨0, rfl⟩
theorem Drew.drewN {w w' : World} (h : Drew w w') (m : Nat) : Drew w (w'.drewN m) := by
  obtain ⟨n, rfl⟩ := h
  exact ⟨n + m, by rw [World.drewN_drewN]⟩
theorem Drew.trans {a b c : World} (h : Drew a b) (h' : Drew b c) : Drew a c := by
  obtain ⟨n, rfl⟩ := h'
  exact h.drewN n
theorem Drew.cell {w w' : World} (h : Drew w w') (p : Addr) : w'.cell? p = w.cell? p := by
  obtain ⟨n, rfl⟩ := h
  rfl
theorem Drew.frozen {w w' : World} (h : Drew w w') (p : Addr) : w'.frozen? p = w.frozen? p := by
  obtain ⟨n, rfl⟩ := h
  rfl
theorem Drew.size {w w' : World} (h : Drew w w') : w'.heap.size = w.heap.size := by
  obtain ⟨n, rfl⟩ := h
  rfl
theorem Drew.below {w w' : World} (h : Drew w w') (B : Nat) : Below B w w' := by
  obtain ⟨n, rfl⟩ := h
  exact ⟨rfl, rfl, rfl, Nat.le_refl _, fun _ _ => rfl⟩
/-- The values of a list of bytes. -/
def vals (l : List Int) : List Value := l.map (Value.int .u8)
/-- Each number of the list is a byte. -/
def Bytes (l : List Int) : Prop := ∀ k : Nat, 0 ≤ l[k]?.getD 0 ∧ l[k]?.getD 0 ≤ 255

theorem bytes_nil : Bytes [] := fun k => by simp
theorem bytes_cons {x : Int} {l : List Int} (hx : 0 ≤ x ∧ x ≤ 255) (h : Bytes l) : Bytes (x :: l) := fun k => by
  cases k with
  | zero => simpa using hx
  | succ k => simpa using h k
theorem bytes_append {l m : List Int} (h : Bytes l) (h' : Bytes m) : Bytes (l ++ m) := fun k => by
  by_cases hk : k < l.length
  · rw [List.getElem?_append_left hk]; exact h k
  · rw [List.getElem?_append_right (by omega)]; exact h' _
theorem bytes_mem {l : List Int} (h : ∀ x ∈ l, 0 ≤ x ∧ x ≤ 255) : Bytes l := fun k => by
  by_cases hk : k < l.length
  · rw [List.getElem?_eq_getElem hk]; exact h _ (List.getElem_mem hk)
  · rw [List.getElem?_eq_none (by omega)]; simp
theorem Bytes.mem {l : List Int} (h : Bytes l) : ∀ x ∈ l, 0 ≤ x ∧ x ≤ 255 := fun x hx => by
  obtain ⟨k, hk, rfl⟩ := List.getElem_of_mem hx
  have := h k
  rwa [List.getElem?_eq_getElem hk] at this
theorem bytes_take {l : List Int} (h : Bytes l) (n : Nat) : Bytes (l.take n) := bytes_mem fun x hx => h.mem x (List.mem_of_mem_take hx)
theorem bytes_drop {l : List Int} (h : Bytes l) (n : Nat) : Bytes (l.drop n) := bytes_mem fun x hx => h.mem x (List.mem_of_mem_drop hx)

/-- The slice value '.slice A l.length c' reads as the bytes l, in blocks below B. -/
structure Byt (w : World) (B : Nat) (A : Option Addr) (c : Nat) (l : List Int) : Prop where
  range : Bytes l
  len : l.length ≤ c
  cap : c ≤ maxLen
  bare : A = none → c = 0
  at_ : l ≠ [] → ∃ b o, A = some ⟨b, o, none⟩ ∧ b < B ∧ ∀ k, k < l.length → w.cell? ⟨b, o + k, none⟩ = some (.int .u8 (l[k]?.getD 0))

section
variable {w w' : World} {B : Nat} {A : Option Addr} {c : Nat} {l : List Int}

theorem Byt.keep {B' : Nat} (h : Byt w B A c l) (hB : B ≤ B') (hk : ∀ p : Addr, p.block < B → w'.cell? p = w.cell? p) : Byt w' B' A c l :=
  ⟨h.range, h.len, h.cap, h.bare, fun hl => by
    obtain ⟨b, o, e, hb, hc⟩ := h.at_ hl
    exact ⟨b, o, e, by omega, fun k hk' => (hk _ hb).trans (hc k hk')⟩⟩
theorem Byt.below {B' : Nat} (h : Byt w B A c l) (hb : Below B' w w') (hB : B ≤ B') (hs : B ≤ w'.heap.size := by first | omega | (simp; omega)) : Byt w' w'.heap.size A c l :=
  h.keep hs fun p hp => hb.cell (by omega)
theorem Byt.off {k : Nat} (h : Byt w B A c l) (hk : k < l.length) : ∃ b o, A = some ⟨b, o, none⟩ ∧ b < B ∧ ∀ k, k < l.length → w.cell? ⟨b, o + k, none⟩ = some (.int .u8 (l[k]?.getD 0)) :=
  h.at_ (by rintro rfl; simp at hk)

theorem byt_nil (w : World) (B : Nat) : Byt w B none 0 [] := ⟨bytes_nil, by simp, by simp [maxLen], fun _ => rfl, fun h => absurd rfl h⟩

/-- A row of the call's own reads as what it owns. -/
theorem Byt.own {base : Nat} {e : TypeId} (hr : Bytes l) (h : w.ownsRow base e 1 (.slice A l.length c) l.length (vals l)) : Byt w w.heap.size A c l := by
  have hlen := h.1
  rcases h.2 with ⟨hv, hn⟩ | ⟨g, cap, cur, hv, hb, hg, hnc, hcm, hs, ht⟩
  · injection hv with h1 h2 h3
    subst h1; subst h3
    have : l = [] := List.eq_nil_of_length_eq_zero hn
    subst this
    exact byt_nil _ _
  · injection hv with h1 h2 h3
    subst h1; subst h3
    refine ⟨hr, hnc, hcm, fun h => (by cases h), fun hl => ⟨g, 0, rfl, (Array.getElem?_eq_some_iff.1 hg).1, fun k hk => ?_⟩⟩
    have := h.cells (g := g) rfl k (.int .u8 (l[k]?.getD 0)) (by simp [vals, List.getElem?_map, List.getElem?_eq_getElem hk])
    rw [Addr.add_lit] at this
    exact this
theorem Byt.alloc (h : Byt w B A c l) (hB : B ≤ w.heap.size) (o : Obj) : Byt (w.alloc o) B A c l := h.keep (Nat.le_refl _) fun p hp => World.cell?_alloc_lt w o p (by omega)
theorem Byt.weak {B' : Nat} (h : Byt w B A c l) (hB : B ≤ B') : Byt w B' A c l := h.keep hB fun _ _ => rfl
theorem Byt.drew (h : Byt w B A c l) (hd : Drew w w') : Byt w' B A c l := h.keep (Nat.le_refl _) fun p _ => hd.cell p
theorem Byt.head (h : Byt w B A c l) (n : Nat) : Byt w B A c (l.take n) :=
  ⟨bytes_take h.range n, by have := h.len; simp; omega, h.cap, h.bare, fun hne => by
    obtain ⟨b, o, e, hb, hc⟩ := h.at_ (by rintro rfl; simp at hne)
    refine ⟨b, o, e, hb, fun k hk => ?_⟩
    have hk' : k < n ∧ k < l.length := by simp at hk; omega
    rw [hc k hk'.2, List.getElem?_take_of_lt hk'.1]⟩
/-- What is owned is a slice. -/
theorem own_form {base : Nat} {e : TypeId} {v : Value} {n : Nat} {xs : List Value} (h : w.ownsRow base e 1 v n xs) : ∃ A C, v = .slice A n C := by
  rcases h.2 with ⟨hv, hn⟩ | ⟨g, cap, cur, hv, _⟩
  · exact ⟨_, _, hn ▸ hv⟩
  · exact ⟨_, _, hv⟩
end
theorem vals_one (l : List Int) : ∀ u ∈ vals l, u.oneCell' = true := ints_oneCell .u8 l
theorem Byt.cells {w : World} {B c : Nat} {A : Option Addr} {l : List Int} (h : Byt w B A c l) : ∀ ad, A = some ad → ∀ j u, (vals l)[j]? = some u → w.cell? (ad.add j) = some u := by
  intro ad had j u hu
  have hj : j < l.length := by
    have := (List.getElem?_eq_some_iff.1 hu).1
    simpa [vals] using this
  obtain ⟨b, o, e, hb, hc⟩ := h.off hj
  rw [had] at e
  obtain rfl := Option.some.inj e
  rw [Addr.add_lit, hc j hj]
  simpa [vals, List.getElem?_map, List.getElem?_eq_getElem hj] using hu

theorem Byt.none_ {w : World} {B c : Nat} {A : Option Addr} {l : List Int} (h : Byt w B A c l) : A = none → l.length = 0 ∧ c = 0 := fun ha => by
  have := h.bare ha
  have := h.len
  omega

end Go.Proofs.Ytkaekpmpjemmoaa
