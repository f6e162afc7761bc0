/-
  What the specification's Text returns. Condition: fields of 64 bits.
-/
import Derived.Test.YtimiofmmhccmmaaDoorDg
import Derived.Test.YtimiofmmhccmmaaDoorEnc
import Derived.Test.YtimiofmmhccmmaaDoorVal
import Derived.WalkSpells
import Derived.Outline
namespace Go.Proofs.YtimiofmmhccmmaaDoor
open Go.RowKit

/-- A register's text. -/
def regT (n : Int) : List UInt8 := [32, 114] ++ Lib.itoa n
/-- The names of the instructions. -/
def nameT (op : Int) : List UInt8 :=
  if op = 1 then [110, 111, 112] else if op = 2 then [98, 114, 101, 97, 107] else if op = 3 then [99, 111, 110, 115, 116] else if op = 4 then [112, 111, 111, 108] else if op = 5 then [109, 111, 118, 101]
  else if op = 6 then [97, 100, 100] else if op = 7 then [115, 117, 98] else if op = 8 then [109, 117, 108] else if op = 9 then [100, 105, 118] else if op = 10 then [109, 111, 100] else if op = 11 then [97, 110, 100]
  else if op = 12 then [111, 114] else if op = 13 then [120, 111, 114] else if op = 14 then [108, 101, 115, 115] else if op = 15 then [108, 101, 115, 115, 101, 113] else if op = 16 then [101, 113, 117, 97, 108]
  else if op = 17 then [110, 111, 116, 101, 113, 117, 97, 108] else if op = 18 then [97, 100, 100, 105, 109, 109] else if op = 19 then [108, 111, 97, 100] else if op = 20 then [115, 116, 111, 114, 101] else if op = 21 then [106, 117, 109, 112]
  else if op = 22 then [122, 101, 114, 111] else if op = 23 then [99, 97, 108, 108] else if op = 24 then [114, 101, 116, 117, 114, 110] else [112, 114, 105, 110, 116]
/-- Which fields an instruction's text has: A, B, C, Imm. -/
def usesT (op : Int) : Bool × Bool × Bool × Bool :=
  if op = 3 ∨ op = 4 ∨ op = 22 then (true, false, false, true) else if op = 5 then (true, true, false, false) else if 6 ≤ op ∧ op ≤ 17 then (true, true, true, false)
  else if op = 18 ∨ op = 19 ∨ op = 20 then (true, true, false, true) else if op = 21 ∨ op = 23 then (false, false, false, true) else if op = 25 then (true, false, false, false) else (false, false, false, false)
/-- An instruction's text. -/
def textT (i : Ins) : List UInt8 :=
  if encE i ≠ 0 then [119, 111, 114, 100]
  else nameT i.op ++ (if (usesT i.op).1 then regT i.a else []) ++ (if (usesT i.op).2.1 then regT i.b else []) ++ (if (usesT i.op).2.2.1 then regT i.c else []) ++ (if (usesT i.op).2.2.2 then 32 :: Lib.itoa i.imm else [])
set_option maxRecDepth 100000 in
theorem refText_no (i : Ins) (hi : i.Fits) (h : encE i ≠ 0) (w : World) : Calls Tryd.prog 15 #[insV i] w (GivesT w (textT i)) := by
  have ht : textT i = [119, 111, 114, 100] := by unfold textT; rw [if_pos h]
  rw [ht]
  clear ht
  obtain ⟨op, a, b, c, imm⟩ := i
  have H := Lib.hid h
  clear h
  go_enter Tryd.func15, Tryd.ntmps15
  go_wp2_with fail
  refine (refEncode_any ⟨_, _, _, _, _⟩ hi _).mono ?_
  rintro e w1 ⟨rfl, hb1⟩
  obtain ⟨E, hE⟩ : ∃ E, Hid (encE ⟨op, a, b, c, imm⟩ = E) := ⟨_, rfl⟩
  have hne : ¬ E = 0 := by rw [← hE.out]; exact H.out
  rw [hE.out]
  have hnb : (E == 0) = false := by simpa using hne
  have hnb' : (E != 0) = true := by simpa using hne
  go_wp2_with fail
  go_ret
  exact ⟨rfl, ((Below.refl w.heap.size w).alloc (Nat.le_refl _) _).trans (hb1.mono (by simp))⟩
def namesC : Array Value := #[.string ⟨#[110, 111, 112]⟩, .string ⟨#[98, 114, 101, 97, 107]⟩, .string ⟨#[99, 111, 110, 115, 116]⟩, .string ⟨#[112, 111, 111, 108]⟩, .string ⟨#[109, 111, 118, 101]⟩, .string ⟨#[97, 100, 100]⟩, .string ⟨#[115, 117, 98]⟩, .string ⟨#[109, 117, 108]⟩, .string ⟨#[100, 105, 118]⟩, .string ⟨#[109, 111, 100]⟩, .string ⟨#[97, 110, 100]⟩, .string ⟨#[111, 114]⟩, .string ⟨#[120, 111, 114]⟩, .string ⟨#[108, 101, 115, 115]⟩, .string ⟨#[108, 101, 115, 115, 101, 113]⟩, .string ⟨#[101, 113, 117, 97, 108]⟩, .string ⟨#[110, 111, 116, 101, 113, 117, 97, 108]⟩, .string ⟨#[97, 100, 100, 105, 109, 109]⟩, .string ⟨#[108, 111, 97, 100]⟩, .string ⟨#[115, 116, 111, 114, 101]⟩, .string ⟨#[106, 117, 109, 112]⟩, .string ⟨#[122, 101, 114, 111]⟩, .string ⟨#[99, 97, 108, 108]⟩, .string ⟨#[114, 101, 116, 117, 114, 110]⟩, .string ⟨#[112, 114, 105, 110, 116]⟩]
def fieldsC : Array Value := #[.string ⟨#[]⟩, .string ⟨#[]⟩, .string ⟨#[97, 105]⟩, .string ⟨#[97, 105]⟩, .string ⟨#[97, 98]⟩, .string ⟨#[97, 98, 99]⟩, .string ⟨#[97, 98, 99]⟩, .string ⟨#[97, 98, 99]⟩, .string ⟨#[97, 98, 99]⟩, .string ⟨#[97, 98, 99]⟩, .string ⟨#[97, 98, 99]⟩, .string ⟨#[97, 98, 99]⟩, .string ⟨#[97, 98, 99]⟩, .string ⟨#[97, 98, 99]⟩, .string ⟨#[97, 98, 99]⟩, .string ⟨#[97, 98, 99]⟩, .string ⟨#[97, 98, 99]⟩, .string ⟨#[97, 98, 105]⟩, .string ⟨#[97, 98, 105]⟩, .string ⟨#[97, 98, 105]⟩, .string ⟨#[105]⟩, .string ⟨#[97, 105]⟩, .string ⟨#[105]⟩, .string ⟨#[]⟩, .string ⟨#[97]⟩]
/-- What names returns. -/
def NamesGiven (w : World) (e : Ending) (w' : World) : Prop := ∃ x y, e = .returned (.tuple #[.slice (some ⟨x, 0, none⟩) 25 25, .slice (some ⟨y, 0, none⟩) 25 25]) ∧ w.heap.size ≤ x ∧ w.heap.size ≤ y ∧ x < w'.heap.size ∧ y < w'.heap.size ∧ w'.heap[x]? = some (.cells namesC 9 (0, 0)) ∧ w'.heap[y]? = some (.cells fieldsC 9 (0, 0)) ∧ Below w.heap.size w w'
set_option maxRecDepth 100000 in
set_option maxHeartbeats 2000000 in
theorem names_any (w : World) : Calls Tryd.prog 33 #[] w (NamesGiven w) := by
  go_enter Tryd.func33, Tryd.ntmps33
  go_wp2
  go_ret2
  exact ⟨w.heap.size, w.heap.size + 1, rfl, by omega, by omega, by simp; omega, by simp, heap_alloc2_old _ _ _, heap_alloc2_new _ _ _, ((Below.refl w.heap.size w).alloc (Nat.le_refl _) _).alloc (by simp) _⟩
end Go.Proofs.YtimiofmmhccmmaaDoor
