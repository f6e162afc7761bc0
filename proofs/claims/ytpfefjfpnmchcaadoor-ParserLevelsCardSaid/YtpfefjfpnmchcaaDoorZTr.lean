/-
  Plain trees and the plain parser: what the text of chapter 3 says, as functions of a list of tokens with a number of steps. No condition. The plain parser comes to an end, with fewer tokens than it began with, if it has steps enough. No condition. Whatever the steps: what is read well leaves fewer tokens: statements and blocks. No condition. Trees in memory: values that read as expressions, statements, records, functions, programs; what keeps them so; rows that a call owns and appends to. No condition. Rows that a call owns, element by element; one element appended as one step. Conditions: as they say. The walk of parser.statementParsers: the map that it makes says of each word which method reads the statement. No condition. The parser in memory: the tokens that are not read yet, the blocks, the map of the statements' methods; what a method ends with. No condition. What the program says of the types of the rows that the parser makes. No condition. A struct's cells in a block of its own: stored, loaded, handed back as one step; a field of it stored. No condition. A region that draws its order and ends with stores: what is held of the world is held as long as its first operations have not all come up. No condition.
-/
import Derived.Test.YtpfefjfpnmchcaaDoorZLx
import Derived.Handy
import Derived.Laws.AppendOwn
import Derived.Laws.Rows
import Derived.Laws.Append
import Derived.Maps.AppendAt
import Derived.Test.YtpfefjfpnmchcaaDoorRows
import Derived.WalkKit
import Derived.WalkLawsBesides
import Derived.Lib.Hide
import Derived.Maps.Own
import Derived.Maps.Views
import Derived.Deep.MidRow
import Derived.Deep.RegionHeld3
namespace Go.Proofs.YtpfefjfpnmchcaaDoor

/-- An expression: its operator, its number, its variable, its name, its field, its arguments. -/
inductive Ex where
  | mk (op num var : Int) (name field : List UInt8) (args : List Ex)
/-- A statement, in the order of its fields. -/
inductive Sm where
  | mk (kind line id : Int) (name type : List UInt8) (len var : Int) (target : List Ex) (func : List UInt8) (callee : Int) (args : List Ex) (body els : List Sm)
structure Rec where
  name : List UInt8
  fields : List (List UInt8)
structure Fun where
  name : List UInt8
  line : Int
  params : List (List UInt8)
  body : List Sm
structure Prg where
  recs : List Rec
  funs : List Fun
def Sm.lined (ln : Int) : Sm → Sm | .mk k _ i a b c d e f g h x y => .mk k ln i a b c d e f g h x y
def Sm.aimed (t : List Ex) : Sm → Sm | .mk k l i a b c d _ f g h x y => .mk k l i a b c d t f g h x y

/-- What reading a part ends with: the part and the tokens behind it; a line and an error; no steps left. -/
inductive Res (α : Type) where
  | ok (v : α) (ts : List Tok)
  | err (line e : Nat)
  | out
def Res.bind {α β : Type} : Res α → (α → List Tok → Res β) → Res β
  | .ok v ts, f => f v ts
  | .err l e, _ => .err l e
  | .out, _ => .out

def hd (ts : List Tok) : Tok := ts.headD ⟨0, 0, [], 0⟩
def refuse {α : Type} (e : Nat) (ts : List Tok) : Res α := .err (hd ts).line e
def expectP (s : List UInt8) (ts : List Tok) : Res Unit := if (hd ts).text = s then .ok () ts.tail else refuse 7 ts
def nameP (ts : List Tok) : Res (List UInt8) := if (hd ts).kind = 1 then .ok (hd ts).text ts.tail else refuse 7 ts
def moreNames : Nat → List (List UInt8) → List Tok → Res (List (List UInt8))
  | 0, _, _ => .out
  | n + 1, acc, ts => if (hd ts).text = [44] then (nameP ts.tail).bind fun x ts => moreNames n (acc ++ [x]) ts else .ok acc ts
def namesP (n : Nat) (ts : List Tok) : Res (List (List UInt8)) := (nameP ts).bind fun x ts => moreNames n [x] ts

/-- The operators of two operands: sign and rank, from ExprAdd (6) on. -/
def opers : List (List UInt8 × Nat) := [([43], 3), ([45], 3), ([42], 4), ([47], 4), ([37], 4), ([38], 2), ([124], 2), ([94], 2), ([60], 1), ([60, 61], 1), ([61, 61], 1), ([33, 61], 1)]
def operAt : List (List UInt8 × Nat) → Nat → Nat → List UInt8 → Option Nat
  | [], _, _, _ => none
  | (s, r) :: l, k, rank, x => if r = rank ∧ x = s then some k else operAt l (k + 1) rank x
def begins (t : Tok) : Bool := decide (t.kind = 1 ∨ t.kind = 2 ∨ t.text = [45] ∨ t.text = [33] ∨ t.text = [40])

mutual
def operP : Nat → Nat → Nat → List Tok → Res Ex
  | 0, _, _, _ => .out
  | n + 1, rank, lev, ts => if rank = 5 then unaryP n lev ts else (operP n (rank + 1) lev ts).bind fun x ts => loopP n rank lev x ts
def loopP : Nat → Nat → Nat → Ex → List Tok → Res Ex
  | 0, _, _, _, _ => .out
  | n + 1, rank, lev, x, ts =>
    match operAt opers 6 rank (hd ts).text with
    | none => .ok x ts
    | some op => (operP n (rank + 1) lev ts.tail).bind fun y ts => if rank = 1 then .ok (.mk op 0 0 [] [] [x, y]) ts else loopP n rank lev (.mk op 0 0 [] [] [x, y]) ts
def unaryP : Nat → Nat → List Tok → Res Ex
  | 0, _, _ => .out
  | n + 1, lev, ts =>
    if begins (hd ts) = false then refuse 7 ts
    else if 8 < lev then refuse 5 ts
    else if (hd ts).kind = 1 then targetP n lev ts
    else if (hd ts).text = [45] then (unaryP n (lev + 1) ts.tail).bind fun x ts => .ok (.mk 4 0 0 [] [] [x]) ts
    else if (hd ts).text = [33] then (unaryP n (lev + 1) ts.tail).bind fun x ts => .ok (.mk 5 0 0 [] [] [x]) ts
    else if (hd ts).text = [40] then (operP n 1 (lev + 1) ts.tail).bind fun x ts => (expectP [41] ts).bind fun _ ts => .ok x ts
    else .ok (.mk 0 (hd ts).num 0 [] [] []) ts.tail
def targetP : Nat → Nat → List Tok → Res Ex
  | 0, _, _ => .out
  | n + 1, lev, ts => (nameP ts).bind fun s ts =>
    if (hd ts).text = [46] then (nameP ts.tail).bind fun f ts => .ok (.mk 2 0 0 s f []) ts
    else if (hd ts).text = [91] then (operP n 1 (lev + 1) ts.tail).bind fun x ts => (expectP [93] ts).bind fun _ ts => .ok (.mk 3 0 0 s [] [x]) ts
    else .ok (.mk 1 0 0 s [] []) ts
end

def moreArgs : Nat → List Ex → List Tok → Res (List Ex)
  | 0, _, _ => .out
  | n + 1, acc, ts => if (hd ts).text = [44] then (operP n 1 0 ts.tail).bind fun x ts => moreArgs n (acc ++ [x]) ts else .ok acc ts
def argsP (n : Nat) (ts : List Tok) : Res (List Ex) := (operP n 1 0 ts).bind fun x ts => moreArgs n [x] ts
def atCall (ts : List Tok) : Bool := decide ((hd ts).kind = 1 ∧ (hd ts.tail).text = [40])
/-- A statement of a kind that calls: from the name of the function on. -/
def callP (n kind : Nat) (ts : List Tok) : Res Sm := (nameP ts).bind fun f ts => (expectP [40] ts).bind fun _ ts =>
  (if (hd ts).text = [41] then .ok [] ts else argsP n ts).bind fun l ts => (expectP [41] ts).bind fun _ ts => (expectP [59] ts).bind fun _ ts => .ok (.mk kind 0 0 [] [] 0 0 [] f 0 l [] []) ts
/-- A statement of a kind that has a value: from the value on. -/
def valueP (n kind : Nat) (ts : List Tok) : Res Sm := (operP n 1 0 ts).bind fun x ts => (expectP [59] ts).bind fun _ ts => .ok (.mk kind 0 0 [] [] 0 0 [] [] 0 [x] [] []) ts
def lengthP (ts : List Tok) : Res Nat := if (hd ts).kind ≠ 2 then refuse 7 ts else if (hd ts).num < 1 ∨ 8 < (hd ts).num then refuse 5 ts else .ok (hd ts).num ts.tail
/-- A type: its name, its length. -/
def typeP (ts : List Tok) : Res (List UInt8 × Nat) :=
  if (hd ts).text = [105, 110, 116] then
    (if (hd ts.tail).text = [91] then (lengthP ts.tail.tail).bind fun k ts => (expectP [93] ts).bind fun _ ts => .ok ([], k) ts else .ok ([], 0) ts.tail)
  else (nameP ts).bind fun s ts => .ok (s, 0) ts
def declP (ts : List Tok) : Res Sm := (expectP [118, 97, 114] ts).bind fun _ ts => (nameP ts).bind fun s ts => (expectP [58] ts).bind fun _ ts => (typeP ts).bind fun p ts => (expectP [59] ts).bind fun _ ts => .ok (.mk 1 0 0 s p.1 p.2 0 [] [] 0 [] [] []) ts
def goalP (n : Nat) (ts : List Tok) : Res Sm :=
  if atCall ts = true then callP n 3 ts
  else (targetP n 0 ts).bind fun t ts => (expectP [61] ts).bind fun _ ts => (if atCall ts = true then callP n 3 ts else valueP n 2 ts).bind fun s ts => .ok (s.aimed [t]) ts
def returnP (n : Nat) (ts : List Tok) : Res Sm := (expectP [114, 101, 116, 117, 114, 110] ts).bind fun _ ts => if atCall ts = true then callP n 6 ts else valueP n 6 ts
def throwP (n : Nat) (ts : List Tok) : Res Sm := (expectP [116, 104, 114, 111, 119] ts).bind fun _ ts => valueP n 7 ts
def printP (n : Nat) (ts : List Tok) : Res Sm := (expectP [112, 114, 105, 110, 116] ts).bind fun _ ts => valueP n 9 ts
/-- What reads a block. -/
abbrev Blk := List Tok → Res (List Sm × Nat)
def ifP (n : Nat) (b : Blk) (ts : List Tok) : Res Sm := (expectP [105, 102] ts).bind fun _ ts => (operP n 1 0 ts).bind fun c ts => (b ts).bind fun x ts =>
  if (hd ts).text = [101, 108, 115, 101] then (b ts.tail).bind fun y ts => .ok (.mk 4 0 0 [] [] 0 0 [] [] 0 [c] x.1 y.1) ts
  else .ok (.mk 4 0 0 [] [] 0 0 [] [] 0 [c] x.1 []) ts
def whileP (n : Nat) (b : Blk) (ts : List Tok) : Res Sm := (expectP [119, 104, 105, 108, 101] ts).bind fun _ ts => (operP n 1 0 ts).bind fun c ts => (b ts).bind fun x ts => .ok (.mk 5 0 0 [] [] 0 0 [] [] 0 [c] x.1 []) ts
def tryP (b : Blk) (ts : List Tok) : Res Sm := (expectP [116, 114, 121] ts).bind fun _ ts => (b ts).bind fun x ts => (expectP [99, 97, 116, 99, 104] ts).bind fun _ ts => (nameP ts).bind fun s ts => (b ts).bind fun y ts => .ok (.mk 8 0 0 s [] 0 0 [] [] 0 [] x.1 y.1) ts
/-- The words that begin a statement. -/
def starts : List (List UInt8) := [[118, 97, 114], [105, 102], [119, 104, 105, 108, 101], [114, 101, 116, 117, 114, 110], [116, 104, 114, 111, 119], [116, 114, 121], [112, 114, 105, 110, 116]]
def partP (n : Nat) (b : Blk) (ts : List Tok) : Res Sm :=
  if (hd ts).kind = 1 then goalP n ts
  else if (hd ts).text = [118, 97, 114] then declP ts
  else if (hd ts).text = [105, 102] then ifP n b ts
  else if (hd ts).text = [119, 104, 105, 108, 101] then whileP n b ts
  else if (hd ts).text = [114, 101, 116, 117, 114, 110] then returnP n ts
  else if (hd ts).text = [116, 104, 114, 111, 119] then throwP n ts
  else if (hd ts).text = [116, 114, 121] then tryP b ts
  else printP n ts
def lineP (n : Nat) (b : Blk) (nest : Nat) (ts : List Tok) : Res Sm :=
  if (hd ts).kind ≠ 1 ∧ (hd ts).text ∉ starts then refuse 7 ts
  else if 8 < nest then refuse 5 ts
  else (partP n b ts).bind fun s ts' => .ok (s.lined (hd ts).line) ts'
mutual
/-- A block that lies in so many blocks. -/
def blockP : Nat → Nat → Blk
  | 0, _, _ => .out
  | n + 1, nest, ts => (expectP [123] ts).bind fun _ ts => stmtsP n (nest + 1) [] ts
def stmtsP : Nat → Nat → List Sm → Blk
  | 0, _, _, _ => .out
  | n + 1, nest, acc, ts => if (hd ts).text = [125] then .ok (acc, (hd ts).line) ts.tail else (lineP n (blockP n nest) nest ts).bind fun x ts => stmtsP n nest (acc ++ [x]) ts
end

def recP (n : Nat) (ts : List Tok) : Res Rec := (expectP [114, 101, 99, 111, 114, 100] ts).bind fun _ ts => (nameP ts).bind fun s ts => (expectP [123] ts).bind fun _ ts => (namesP n ts).bind fun l ts => (expectP [125] ts).bind fun _ ts => .ok ⟨s, l⟩ ts
def funP (n : Nat) (ts0 : List Tok) : Res Fun :=
  (expectP [102, 117, 110, 99] ts0).bind fun _ ts => (nameP ts).bind fun s ts => (expectP [40] ts).bind fun _ ts =>
  (if (hd ts).text = [41] then .ok [] ts else namesP n ts).bind fun l ts => (expectP [41] ts).bind fun _ ts => (blockP n 0 ts).bind fun b ts' =>
  .ok ⟨s, (hd ts0).line, l, b.1 ++ [.mk 10 b.2 0 [] [] 0 0 [] [] 0 [] [] []]⟩ ts'
def recsP : Nat → List Rec → List Tok → Res (List Rec)
  | 0, _, _ => .out
  | n + 1, acc, ts => if (hd ts).text = [114, 101, 99, 111, 114, 100] then (recP n ts).bind fun r ts => recsP n (acc ++ [r]) ts else .ok acc ts
def funsP : Nat → List Fun → List Tok → Res (List Fun)
  | 0, _, _ => .out
  | n + 1, acc, ts => if (hd ts).text = [102, 117, 110, 99] then (funP n ts).bind fun r ts => funsP n (acc ++ [r]) ts else .ok acc ts
def progP (n : Nat) (ts : List Tok) : Res Prg := (recsP n [] ts).bind fun r ts => (funsP n [] ts).bind fun f ts => if (hd ts).kind ≠ 0 then refuse 7 ts else .ok ⟨r, f⟩ ts
/-- What Parse answers: the program, or a line and an error. -/
def parseP (n : Nat) (s : List UInt8) : Res Prg := match scan s with
  | (_, l, e + 1) => .err l (e + 1)
  | (ts, _, 0) => progP n ts
def lineOf : Res Prg → Nat × Nat
  | .ok _ _ => (0, 0)
  | .err l e => (l, e)
  | .out => (0, 99)
theorem ex1 : lineOf (parseP 200 [102, 117, 110, 99, 32, 102, 40, 41, 32, 123, 10, 32, 118, 97, 114, 32, 116, 58, 32, 105, 110, 116, 91, 57, 93, 59, 32, 125]) = (2, 5) := by decide +kernel
theorem ex2 : lineOf (parseP 200 [102, 117, 110, 99, 32, 102, 40, 41, 32, 123, 10, 32, 120, 32, 61, 32, 49, 32, 43, 10, 59, 32, 125]) = (3, 7) := by decide +kernel

section
theorem Res.ok_bind {α β : Type} (v : α) (ts : List Tok) (f : α → List Tok → Res β) : (Res.ok v ts).bind f = f v ts := rfl
theorem Res.err_bind {α β : Type} (l e : Nat) (f : α → List Tok → Res β) : (Res.err l e : Res α).bind f = .err l e := rfl
end
end Go.Proofs.YtpfefjfpnmchcaaDoor
namespace Go.Proofs.YtpfefjfpnmchcaaDoor

/-- It has not run out of steps, and at most n tokens are left. -/
def Fin (n : Nat) {α : Type} : Res α → Prop
  | .ok _ ts => ts.length ≤ n
  | .err _ _ => True
  | .out => False
section
variable {α β : Type} {n k : Nat}
theorem Fin.bind {R : Res α} {f : α → List Tok → Res β} (h : Fin n R) (hf : ∀ v ts, ts.length ≤ n → Fin k (f v ts)) : Fin k (R.bind f) := by
  cases R with
  | ok v ts => exact hf v ts h
  | err l e => exact trivial
  | out => exact h.elim
theorem Fin.le {R : Res α} (h : Fin n R) (hk : n ≤ k) : Fin k R := by
  cases R with
  | ok v ts => exact Nat.le_trans h hk
  | err l e => exact trivial
  | out => exact h.elim
theorem Fin.ne {R : Res α} (h : Fin n R) : R ≠ .out := by
  rintro rfl
  exact h
end
theorem hd_nil_text : (hd []).text = [] := rfl

theorem len_pos {ts : List Tok} (h : (hd ts).kind ≠ 0 ∨ (hd ts).text ≠ []) : 1 ≤ ts.length := by
  cases ts with
  | nil => simp [hd] at h
  | cons t r => simp
theorem fin_expect (s : List UInt8) (ts : List Tok) : Fin (ts.length - 1) (expectP s ts) := by
  unfold expectP
  split
  · simp [Fin]
  · exact trivial
theorem fin_name (ts : List Tok) : Fin (ts.length - 1) (nameP ts) := by
  unfold nameP
  split
  · simp [Fin]
  · exact trivial
theorem fin_length (ts : List Tok) : Fin (ts.length - 1) (lengthP ts) := by
  unfold lengthP
  split
  · exact trivial
  · split
    · exact trivial
    · simp [Fin]
theorem fin_moreNames : ∀ (n : Nat) (acc : List (List UInt8)) (ts : List Tok), ts.length < n → Fin ts.length (moreNames n acc ts)
  | 0, _, _, h => absurd h (Nat.not_lt_zero _)
  | n + 1, acc, ts, h => by
    unfold moreNames
    split
    · rename_i hx
      have hp := len_pos (ts := ts) (.inr (by rw [hx]; simp))
      refine (fin_name ts.tail).bind fun x ts' hl => ?_
      simp only [List.length_tail] at hl
      exact (fin_moreNames n _ ts' (by omega)).le (by omega)
    · simp [Fin]
theorem fin_names (n : Nat) (ts : List Tok) (h : ts.length < n) : Fin (ts.length - 1) (namesP n ts) := by
  unfold namesP
  exact (fin_name ts).bind fun x ts' hl => (fin_moreNames n _ ts' (by omega)).le hl
theorem operAt_nil (rank : Nat) : operAt opers 6 rank [] = none := by simp [opers, operAt]
theorem begins_pos {ts : List Tok} (h : begins (hd ts) = true) : 1 ≤ ts.length := by
  cases ts with
  | nil => simp [hd, begins] at h
  | cons t r => simp

theorem fin_expr : ∀ n : Nat,
    (∀ rank lev ts, rank ≤ 5 → 8 * ts.length + 7 ≤ n + rank → Fin (ts.length - 1) (operP n rank lev ts)) ∧
    (∀ rank lev x ts, rank ≤ 5 → 8 * ts.length + 6 ≤ n + rank → Fin ts.length (loopP n rank lev x ts)) ∧
    (∀ lev ts, 8 * ts.length ≤ n → 1 ≤ n → Fin (ts.length - 1) (unaryP n lev ts)) ∧
    (∀ lev ts, 8 * ts.length ≤ n + 4 → 1 ≤ n → Fin (ts.length - 1) (targetP n lev ts)) := by
  intro n
  induction n with
  | zero => exact ⟨fun rank lev ts hr h => by omega, fun rank lev x ts hr h => by omega, fun lev ts _ h => by omega, fun lev ts _ h => by omega⟩
  | succ n ih =>
    obtain ⟨i1, i2, i3, i4⟩ := ih
    refine ⟨fun rank lev ts hr h => ?_, fun rank lev x ts hr h => ?_, fun lev ts h h0 => ?_, fun lev ts h h0 => ?_⟩
    · unfold operP
      split
      · rename_i h5
        subst h5
        exact i3 lev ts (by omega) (by omega)
      · refine (i1 (rank + 1) lev ts (by omega) (by omega)).bind fun x ts' hl => ?_
        by_cases hz : ts.length = 0
        · exact (i2 rank lev x ts' (by omega) (by omega)).le (by omega)
        · exact (i2 rank lev x ts' (by omega) (by omega)).le hl
    · unfold loopP
      split
      · simp [Fin]
      · rename_i op hop
        have hp : 1 ≤ ts.length := len_pos (.inr fun e => by rw [e, operAt_nil] at hop; cases hop)
        refine (i1 (rank + 1) lev ts.tail (by
          by_cases h6 : rank = 5
          · subst h6
            exfalso
            simp [opers, operAt] at hop
          · omega) (by simp only [List.length_tail]; omega)).bind fun y ts' hl => ?_
        simp only [List.length_tail] at hl
        split
        · show ts'.length ≤ _; omega
        · exact (i2 rank lev _ ts' hr (by omega)).le (by omega)
    · unfold unaryP
      split
      · exact trivial
      · rename_i hb
        have hp := begins_pos (ts := ts) (by simpa using hb)
        have ht : ts.tail.length = ts.length - 1 := List.length_tail
        split
        · exact trivial
        · split
          · exact i4 lev ts (by omega) (by omega)
          · split
            · exact (i3 (lev + 1) ts.tail (by omega) (by omega)).bind fun x ts' hl => (by show ts'.length ≤ _; omega)
            · split
              · exact (i3 (lev + 1) ts.tail (by omega) (by omega)).bind fun x ts' hl => (by show ts'.length ≤ _; omega)
              · split
                · exact (i1 1 (lev + 1) ts.tail (by omega) (by omega)).bind fun x ts' hl => (fin_expect _ ts').bind fun _ ts2 h2 => (by show ts2.length ≤ _; omega)
                · show ts.tail.length ≤ _; omega
    · unfold targetP
      refine (fin_name ts).bind fun s ts' hl => ?_
      have ht : ts'.tail.length = ts'.length - 1 := List.length_tail
      split
      · exact (fin_name ts'.tail).bind fun f ts2 h2 => (by show ts2.length ≤ _; omega)
      · split
        · rename_i hx
          have hp := len_pos (ts := ts') (.inr (by rw [hx]; simp))
          exact (i1 1 (lev + 1) ts'.tail (by omega) (by omega)).bind fun x ts2 h2 => (fin_expect _ ts2).bind fun _ ts3 h3 => (by show ts3.length ≤ _; omega)
        · show ts'.length ≤ _; omega
theorem fin_oper {n lev : Nat} {ts : List Tok} (h : 8 * ts.length + 6 ≤ n) : Fin (ts.length - 1) (operP n 1 lev ts) := (fin_expr n).1 1 lev ts (by omega) (by omega)
theorem fin_target {n lev : Nat} {ts : List Tok} (h : 8 * ts.length + 6 ≤ n) : Fin (ts.length - 1) (targetP n lev ts) := (fin_expr n).2.2.2 lev ts (by omega) (by omega)
theorem fin_moreArgs : ∀ (n : Nat) (acc : List Ex) (ts : List Tok), 8 * ts.length + 1 ≤ n → Fin ts.length (moreArgs n acc ts)
  | 0, _, _, h => by omega
  | n + 1, acc, ts, h => by
    unfold moreArgs
    split
    · rename_i hx
      have hp := len_pos (ts := ts) (.inr (by rw [hx]; simp))
      have ht : ts.tail.length = ts.length - 1 := List.length_tail
      exact (fin_oper (by omega)).bind fun x ts' hl => (fin_moreArgs n _ ts' (by omega)).le (by omega)
    · simp [Fin]
theorem fin_args {n : Nat} {ts : List Tok} (h : 8 * ts.length + 6 ≤ n) : Fin (ts.length - 1) (argsP n ts) := by
  unfold argsP
  exact (fin_oper h).bind fun x ts' hl => (fin_moreArgs n _ ts' (by omega)).le hl
theorem fin_call {n kind : Nat} {ts : List Tok} (h : 8 * ts.length + 6 ≤ n) : Fin (ts.length - 1) (callP n kind ts) := by
  unfold callP
  refine (fin_name ts).bind fun f t1 h1 => (fin_expect _ t1).bind fun _ t2 h2 => ?_
  refine Fin.bind (n := t2.length) ?_ fun l t3 h3 => (fin_expect _ t3).bind fun _ t4 h4 => (fin_expect _ t4).bind fun _ t5 h5 => (by show t5.length ≤ _; omega)
  split
  · exact Nat.le_refl _
  · exact (fin_args (by omega)).le (by omega)
theorem fin_value {n kind : Nat} {ts : List Tok} (h : 8 * ts.length + 6 ≤ n) : Fin (ts.length - 1) (valueP n kind ts) := by
  unfold valueP
  exact (fin_oper h).bind fun x t1 h1 => (fin_expect _ t1).bind fun _ t2 h2 => (by show t2.length ≤ _; omega)
theorem fin_type (ts : List Tok) : Fin ts.length (typeP ts) := by
  unfold typeP
  have h1 : ts.tail.length = ts.length - 1 := List.length_tail
  have h2 : ts.tail.tail.length = ts.tail.length - 1 := List.length_tail
  split
  · split
    · exact (fin_length _).bind fun k t1 g1 => (fin_expect _ t1).bind fun _ t2 g2 => (by show t2.length ≤ _; omega)
    · show ts.tail.length ≤ _; omega
  · exact (fin_name ts).bind fun s t1 g1 => (by show t1.length ≤ _; omega)
theorem fin_decl (ts : List Tok) : Fin (ts.length - 1) (declP ts) := by
  unfold declP
  exact (fin_expect _ ts).bind fun _ t1 h1 => (fin_name t1).bind fun s t2 h2 => (fin_expect _ t2).bind fun _ t3 h3 => (fin_type t3).bind fun p t4 h4 => (fin_expect _ t4).bind fun _ t5 h5 => (by show t5.length ≤ _; omega)
theorem fin_goal {n : Nat} {ts : List Tok} (h : 8 * ts.length + 6 ≤ n) : Fin (ts.length - 1) (goalP n ts) := by
  unfold goalP
  split
  · exact fin_call h
  · refine (fin_target h).bind fun t t1 h1 => (fin_expect _ t1).bind fun _ t2 h2 => ?_
    refine Fin.bind (n := t2.length) ?_ fun s t3 h3 => (by show t3.length ≤ _; omega)
    split
    · exact (fin_call (by omega)).le (by omega)
    · exact (fin_value (by omega)).le (by omega)
theorem fin_return {n : Nat} {ts : List Tok} (h : 8 * ts.length + 6 ≤ n) : Fin (ts.length - 1) (returnP n ts) := by
  unfold returnP
  refine (fin_expect _ ts).bind fun _ t1 h1 => ?_
  split
  · exact (fin_call (by omega)).le (by omega)
  · exact (fin_value (by omega)).le (by omega)
theorem fin_throw {n : Nat} {ts : List Tok} (h : 8 * ts.length + 6 ≤ n) : Fin (ts.length - 1) (throwP n ts) := by
  unfold throwP
  exact (fin_expect _ ts).bind fun _ t1 h1 => (fin_value (by omega)).le (by omega)
theorem fin_print {n : Nat} {ts : List Tok} (h : 8 * ts.length + 6 ≤ n) : Fin (ts.length - 1) (printP n ts) := by
  unfold printP
  exact (fin_expect _ ts).bind fun _ t1 h1 => (fin_value (by omega)).le (by omega)
/-- A reader of blocks that comes to an end for up to so many tokens. -/
def BlkFin (k : Nat) (b : Blk) : Prop := ∀ ts : List Tok, ts.length ≤ k → Fin (ts.length - 1) (b ts)
theorem fin_if {n : Nat} {b : Blk} {ts : List Tok} (h : 8 * ts.length + 6 ≤ n) (hb : BlkFin (ts.length - 1) b) : Fin (ts.length - 1) (ifP n b ts) := by
  unfold ifP
  refine (fin_expect _ ts).bind fun _ t1 h1 => (fin_oper (by omega)).bind fun c t2 h2 => (hb t2 (by omega)).bind fun x t3 h3 => ?_
  have ht : t3.tail.length = t3.length - 1 := List.length_tail
  split
  · exact (hb t3.tail (by omega)).bind fun y t4 h4 => (by show t4.length ≤ _; omega)
  · show t3.length ≤ _; omega
theorem fin_while {n : Nat} {b : Blk} {ts : List Tok} (h : 8 * ts.length + 6 ≤ n) (hb : BlkFin (ts.length - 1) b) : Fin (ts.length - 1) (whileP n b ts) := by
  unfold whileP
  exact (fin_expect _ ts).bind fun _ t1 h1 => (fin_oper (by omega)).bind fun c t2 h2 => (hb t2 (by omega)).bind fun x t3 h3 => (by show t3.length ≤ _; omega)
theorem fin_try {b : Blk} {ts : List Tok} (hb : BlkFin (ts.length - 1) b) : Fin (ts.length - 1) (tryP b ts) := by
  unfold tryP
  exact (fin_expect _ ts).bind fun _ t1 h1 => (hb t1 (by omega)).bind fun x t2 h2 => (fin_expect _ t2).bind fun _ t3 h3 => (fin_name t3).bind fun s t4 h4 => (hb t4 (by omega)).bind fun y t5 h5 => (by show t5.length ≤ _; omega)
theorem fin_part {n : Nat} {b : Blk} {ts : List Tok} (h : 8 * ts.length + 6 ≤ n) (hb : BlkFin (ts.length - 1) b) : Fin (ts.length - 1) (partP n b ts) := by
  unfold partP
  split
  · exact fin_goal h
  · split
    · exact fin_decl ts
    · split
      · exact fin_if h hb
      · split
        · exact fin_while h hb
        · split
          · exact fin_return h
          · split
            · exact fin_throw h
            · split
              · exact fin_try hb
              · exact fin_print h
theorem fin_line {n nest : Nat} {b : Blk} {ts : List Tok} (h : 8 * ts.length + 6 ≤ n) (hb : BlkFin (ts.length - 1) b) : Fin (ts.length - 1) (lineP n b nest ts) := by
  unfold lineP
  split
  · exact trivial
  · split
    · exact trivial
    · exact (fin_part h hb).bind fun s t1 h1 => h1
theorem line_pos {n nest : Nat} {b : Blk} {ts : List Tok} {x : Sm} {t1 : List Tok} (h : lineP n b nest ts = .ok x t1) : 1 ≤ ts.length := by
  cases ts with
  | nil => simp [lineP, hd, starts, refuse] at h
  | cons t r => simp
theorem fin_block : ∀ n : Nat, (∀ nest ts, 8 * ts.length + 9 ≤ n → Fin (ts.length - 1) (blockP n nest ts)) ∧ (∀ nest acc ts, 8 * ts.length + 10 ≤ n → Fin (ts.length - 1) (stmtsP n nest acc ts)) := by
  intro n
  induction n with
  | zero => exact ⟨fun nest ts h => by omega, fun nest acc ts h => by omega⟩
  | succ n ih =>
    obtain ⟨i1, i2⟩ := ih
    refine ⟨fun nest ts h => ?_, fun nest acc ts h => ?_⟩
    · unfold blockP
      have hx := fin_expect [123] ts
      cases hR : expectP [123] ts with
      | out => rw [hR] at hx; exact hx.elim
      | err l e => exact trivial
      | ok v t1 =>
        have hp : 1 ≤ ts.length := by
          cases ts with
          | nil => simp [expectP, hd, refuse] at hR
          | cons t r => simp
        rw [hR] at hx
        have hx' : t1.length ≤ ts.length - 1 := hx
        exact (i2 (nest + 1) [] t1 (by omega)).le (by omega)
    · unfold stmtsP
      split
      · simp [Fin]
      · have hx := fin_line (n := n) (nest := nest) (b := blockP n nest) (ts := ts) (by omega) (fun ts' h' => by
          by_cases hz : ts.length = 0
          · exact i1 nest ts' (by omega)
          · exact i1 nest ts' (by omega))
        cases hR : lineP n (blockP n nest) nest ts with
        | out => rw [hR] at hx; exact hx.elim
        | err l e => exact trivial
        | ok v t1 =>
          have hp := line_pos hR
          rw [hR] at hx
          have hx' : t1.length ≤ ts.length - 1 := hx
          exact (i2 nest _ t1 (by omega)).le (by omega)
theorem fin_rec {n : Nat} {ts : List Tok} (h : ts.length < n) : Fin (ts.length - 1) (recP n ts) := by
  unfold recP
  exact (fin_expect _ ts).bind fun _ t1 h1 => (fin_name t1).bind fun s t2 h2 => (fin_expect _ t2).bind fun _ t3 h3 => (fin_names n t3 (by omega)).bind fun l t4 h4 => (fin_expect _ t4).bind fun _ t5 h5 => (by show t5.length ≤ _; omega)
theorem fin_fun {n : Nat} {ts : List Tok} (h : 8 * ts.length + 10 ≤ n) : Fin (ts.length - 1) (funP n ts) := by
  unfold funP
  refine (fin_expect _ ts).bind fun _ t1 h1 => (fin_name t1).bind fun s t2 h2 => (fin_expect _ t2).bind fun _ t3 h3 => ?_
  refine Fin.bind (n := t3.length) ?_ fun l t4 h4 => (fin_expect _ t4).bind fun _ t5 h5 => ((fin_block n).1 0 t5 (by omega)).bind fun b t6 h6 => (by show t6.length ≤ _; omega)
  split
  · exact Nat.le_refl _
  · exact (fin_names n t3 (by omega)).le (by omega)
theorem fin_recs : ∀ (n : Nat) (acc : List Rec) (ts : List Tok), ts.length + 1 < n → Fin ts.length (recsP n acc ts)
  | 0, _, _, h => by omega
  | n + 1, acc, ts, h => by
    unfold recsP
    split
    · rename_i hx
      have hp := len_pos (ts := ts) (.inr (by rw [hx]; simp))
      exact (fin_rec (by omega)).bind fun r t1 h1 => (fin_recs n _ t1 (by omega)).le (by omega)
    · simp [Fin]
theorem fin_funs : ∀ (n : Nat) (acc : List Fun) (ts : List Tok), 8 * ts.length + 11 ≤ n → Fin ts.length (funsP n acc ts)
  | 0, _, _, h => by omega
  | n + 1, acc, ts, h => by
    unfold funsP
    split
    · rename_i hx
      have hp := len_pos (ts := ts) (.inr (by rw [hx]; simp))
      exact (fin_fun (by omega)).bind fun r t1 h1 => (fin_funs n _ t1 (by omega)).le (by omega)
    · simp [Fin]
/-- Whatever the steps: what is read well leaves fewer tokens. -/
def Less (n : Nat) {α : Type} : Res α → Prop
  | .ok _ ts => ts.length ≤ n
  | _ => True
theorem Less.bind {α β : Type} {n k : Nat} {R : Res α} {f : α → List Tok → Res β} (h : Less n R) (hf : ∀ v ts, ts.length ≤ n → Less k (f v ts)) : Less k (R.bind f) := by
  cases R with
  | ok v ts => exact hf v ts h
  | err l e => exact trivial
  | out => exact trivial
theorem Less.le {α : Type} {n k : Nat} {R : Res α} (h : Less n R) (hk : n ≤ k) : Less k R := by
  cases R with
  | ok v ts => exact Nat.le_trans h hk
  | err l e => exact trivial
  | out => exact trivial
theorem Fin.less {α : Type} {n : Nat} {R : Res α} (h : Fin n R) : Less n R := by
  cases R with
  | ok v ts => exact h
  | err l e => exact trivial
  | out => exact trivial
theorem less_expr : ∀ n : Nat,
    (∀ rank lev ts, Less (ts.length - 1) (operP n rank lev ts)) ∧ (∀ rank lev x ts, Less ts.length (loopP n rank lev x ts)) ∧
    (∀ lev ts, Less (ts.length - 1) (unaryP n lev ts)) ∧ (∀ lev ts, Less (ts.length - 1) (targetP n lev ts)) := by
  intro n
  induction n with
  | zero => exact ⟨fun _ _ _ => by unfold operP; exact trivial, fun _ _ _ _ => by unfold loopP; exact trivial, fun _ _ => by unfold unaryP; exact trivial, fun _ _ => by unfold targetP; exact trivial⟩
  | succ n ih =>
    obtain ⟨i1, i2, i3, i4⟩ := ih
    refine ⟨fun rank lev ts => ?_, fun rank lev x ts => ?_, fun lev ts => ?_, fun lev ts => ?_⟩
    · unfold operP
      split
      · exact i3 lev ts
      · exact (i1 (rank + 1) lev ts).bind fun x ts' hl => (i2 rank lev x ts').le hl
    · unfold loopP
      split
      · show ts.length ≤ _; omega
      · refine (i1 (rank + 1) lev ts.tail).bind fun y ts' hl => ?_
        simp only [List.length_tail] at hl
        split
        · show ts'.length ≤ _; omega
        · exact (i2 rank lev _ ts').le (by omega)
    · have ht : ts.tail.length = ts.length - 1 := List.length_tail
      unfold unaryP
      split
      · exact trivial
      · split
        · exact trivial
        · split
          · exact i4 lev ts
          · split
            · exact (i3 (lev + 1) ts.tail).bind fun x ts' hl => (by show ts'.length ≤ _; omega)
            · split
              · exact (i3 (lev + 1) ts.tail).bind fun x ts' hl => (by show ts'.length ≤ _; omega)
              · split
                · exact (i1 1 (lev + 1) ts.tail).bind fun x ts' hl => (fin_expect _ ts').less.bind fun _ ts2 h2 => (by show ts2.length ≤ _; omega)
                · show ts.tail.length ≤ _; omega
    · unfold targetP
      refine (fin_name ts).less.bind fun s ts' hl => ?_
      have ht : ts'.tail.length = ts'.length - 1 := List.length_tail
      split
      · exact (fin_name ts'.tail).less.bind fun f ts2 h2 => (by show ts2.length ≤ _; omega)
      · split
        · exact (i1 1 (lev + 1) ts'.tail).bind fun x ts2 h2 => (fin_expect _ ts2).less.bind fun _ ts3 h3 => (by show ts3.length ≤ _; omega)
        · show ts'.length ≤ _; omega
theorem oper_short {n rank lev : Nat} {ts ts' : List Tok} {x : Ex} (h : operP n rank lev ts = .ok x ts') : ts'.length ≤ ts.length - 1 := by
  have := (less_expr n).1 rank lev ts
  rw [h] at this
  exact this
/-- So many steps are enough for so many tokens. -/
theorem fin_prog {n : Nat} {ts : List Tok} (h : 8 * ts.length + 11 ≤ n) : progP n ts ≠ .out := by
  refine Fin.ne (n := ts.length) ?_
  unfold progP
  refine (fin_recs n [] ts (by omega)).bind fun r t1 h1 => (fin_funs n [] t1 (by omega)).bind fun f t2 h2 => ?_
  split
  · exact trivial
  · show t2.length ≤ _; omega
end Go.Proofs.YtpfefjfpnmchcaaDoor
namespace Go.Proofs.YtpfefjfpnmchcaaDoor

theorem less_oper (n rank lev : Nat) (ts : List Tok) : Less (ts.length - 1) (operP n rank lev ts) := (less_expr n).1 rank lev ts
theorem less_target (n lev : Nat) (ts : List Tok) : Less (ts.length - 1) (targetP n lev ts) := (less_expr n).2.2.2 lev ts
theorem less_moreArgs : ∀ (n : Nat) (acc : List Ex) (ts : List Tok), Less ts.length (moreArgs n acc ts)
  | 0, _, _ => by unfold moreArgs; exact trivial
  | n + 1, acc, ts => by
    have ht : ts.tail.length = ts.length - 1 := List.length_tail
    unfold moreArgs
    split
    · exact (less_oper n 1 0 ts.tail).bind fun x ts' hl => (less_moreArgs n _ ts').le (by omega)
    · show ts.length ≤ _; omega
theorem less_args (n : Nat) (ts : List Tok) : Less (ts.length - 1) (argsP n ts) := by
  unfold argsP
  exact (less_oper n 1 0 ts).bind fun x ts' hl => (less_moreArgs n _ ts').le hl
theorem less_call (n kind : Nat) (ts : List Tok) : Less (ts.length - 1) (callP n kind ts) := by
  unfold callP
  refine (fin_name ts).less.bind fun f t1 h1 => (fin_expect _ t1).less.bind fun _ t2 h2 => ?_
  refine Less.bind (n := t2.length) ?_ fun l t3 h3 => (fin_expect _ t3).less.bind fun _ t4 h4 => (fin_expect _ t4).less.bind fun _ t5 h5 => (by show t5.length ≤ _; omega)
  split
  · exact Nat.le_refl _
  · exact (less_args n t2).le (by omega)
theorem less_value (n kind : Nat) (ts : List Tok) : Less (ts.length - 1) (valueP n kind ts) := by
  unfold valueP
  exact (less_oper n 1 0 ts).bind fun x t1 h1 => (fin_expect _ t1).less.bind fun _ t2 h2 => (by show t2.length ≤ _; omega)
theorem less_goal (n : Nat) (ts : List Tok) : Less (ts.length - 1) (goalP n ts) := by
  unfold goalP
  split
  · exact less_call n 3 ts
  · refine (less_target n 0 ts).bind fun t t1 h1 => (fin_expect _ t1).less.bind fun _ t2 h2 => ?_
    refine Less.bind (n := t2.length) ?_ fun s t3 h3 => (by show t3.length ≤ _; omega)
    split
    · exact (less_call n 3 t2).le (by omega)
    · exact (less_value n 2 t2).le (by omega)
theorem less_return (n : Nat) (ts : List Tok) : Less (ts.length - 1) (returnP n ts) := by
  unfold returnP
  refine (fin_expect _ ts).less.bind fun _ t1 h1 => ?_
  split
  · exact (less_call n 6 t1).le (by omega)
  · exact (less_value n 6 t1).le (by omega)
theorem less_throw (n : Nat) (ts : List Tok) : Less (ts.length - 1) (throwP n ts) := by
  unfold throwP
  exact (fin_expect _ ts).less.bind fun _ t1 h1 => (less_value n 7 t1).le (by omega)
theorem less_print (n : Nat) (ts : List Tok) : Less (ts.length - 1) (printP n ts) := by
  unfold printP
  exact (fin_expect _ ts).less.bind fun _ t1 h1 => (less_value n 9 t1).le (by omega)
def BlkLess (b : Blk) : Prop := ∀ ts : List Tok, Less (ts.length - 1) (b ts)
theorem less_if (n : Nat) {b : Blk} (hb : BlkLess b) (ts : List Tok) : Less (ts.length - 1) (ifP n b ts) := by
  unfold ifP
  refine (fin_expect _ ts).less.bind fun _ t1 h1 => (less_oper n 1 0 t1).bind fun c t2 h2 => (hb t2).bind fun x t3 h3 => ?_
  have ht : t3.tail.length = t3.length - 1 := List.length_tail
  split
  · exact (hb t3.tail).bind fun y t4 h4 => (by show t4.length ≤ _; omega)
  · show t3.length ≤ _; omega
theorem less_while (n : Nat) {b : Blk} (hb : BlkLess b) (ts : List Tok) : Less (ts.length - 1) (whileP n b ts) := by
  unfold whileP
  exact (fin_expect _ ts).less.bind fun _ t1 h1 => (less_oper n 1 0 t1).bind fun c t2 h2 => (hb t2).bind fun x t3 h3 => (by show t3.length ≤ _; omega)
theorem less_try {b : Blk} (hb : BlkLess b) (ts : List Tok) : Less (ts.length - 1) (tryP b ts) := by
  unfold tryP
  exact (fin_expect _ ts).less.bind fun _ t1 h1 => (hb t1).bind fun x t2 h2 => (fin_expect _ t2).less.bind fun _ t3 h3 => (fin_name t3).less.bind fun s t4 h4 => (hb t4).bind fun y t5 h5 => (by show t5.length ≤ _; omega)
theorem less_part (n : Nat) {b : Blk} (hb : BlkLess b) (ts : List Tok) : Less (ts.length - 1) (partP n b ts) := by
  unfold partP
  split
  · exact less_goal n ts
  · split
    · exact (fin_decl ts).less
    · split
      · exact less_if n hb ts
      · split
        · exact less_while n hb ts
        · split
          · exact less_return n ts
          · split
            · exact less_throw n ts
            · split
              · exact less_try hb ts
              · exact less_print n ts
theorem less_line (n nest : Nat) {b : Blk} (hb : BlkLess b) (ts : List Tok) : Less (ts.length - 1) (lineP n b nest ts) := by
  unfold lineP
  split
  · exact trivial
  · split
    · exact trivial
    · exact (less_part n hb ts).bind fun s t1 h1 => h1
theorem less_block : ∀ n : Nat, (∀ nest, BlkLess (blockP n nest)) ∧ (∀ nest acc, BlkLess (stmtsP n nest acc)) := by
  intro n
  induction n with
  | zero => exact ⟨fun _ _ => by unfold blockP; exact trivial, fun _ _ _ => by unfold stmtsP; exact trivial⟩
  | succ n ih =>
    refine ⟨fun nest ts => ?_, fun nest acc ts => ?_⟩
    · unfold blockP
      exact (fin_expect _ ts).less.bind fun _ t1 h1 => (ih.2 (nest + 1) [] t1).le (by omega)
    · have ht : ts.tail.length = ts.length - 1 := List.length_tail
      unfold stmtsP
      split
      · show ts.tail.length ≤ _; omega
      · exact (less_line n nest (ih.1 nest) ts).bind fun x t1 h1 => (ih.2 nest _ t1).le (by omega)
theorem line_short {n k nest nest' : Nat} {ts ts' : List Tok} {x : Sm} (h : lineP n (blockP k nest') nest ts = .ok x ts') : ts'.length ≤ ts.length - 1 := by
  have := less_line n nest ((less_block k).1 nest') ts
  rw [h] at this
  exact this
theorem block_short {n nest : Nat} {ts ts' : List Tok} {x : List Sm × Nat} (h : blockP n nest ts = .ok x ts') : ts'.length ≤ ts.length - 1 := by
  have := (less_block n).1 nest ts
  rw [h] at this
  exact this
theorem less_moreNames : ∀ (n : Nat) (acc : List (List UInt8)) (ts : List Tok), Less ts.length (moreNames n acc ts)
  | 0, _, _ => by unfold moreNames; exact trivial
  | n + 1, acc, ts => by
    have ht : ts.tail.length = ts.length - 1 := List.length_tail
    unfold moreNames
    split
    · exact (fin_name ts.tail).less.bind fun x ts' hl => (less_moreNames n _ ts').le (by omega)
    · show ts.length ≤ _; omega
theorem less_names (n : Nat) (ts : List Tok) : Less (ts.length - 1) (namesP n ts) := by
  unfold namesP
  exact (fin_name ts).less.bind fun x ts' hl => (less_moreNames n _ ts').le hl
theorem rec_short {n : Nat} {ts ts' : List Tok} {x : Rec} (h : recP n ts = .ok x ts') : ts'.length ≤ ts.length - 1 := by
  have : Less (ts.length - 1) (recP n ts) := by
    unfold recP
    exact (fin_expect _ ts).less.bind fun _ t1 h1 => (fin_name t1).less.bind fun s t2 h2 => (fin_expect _ t2).less.bind fun _ t3 h3 => (less_names n t3).bind fun l t4 h4 => (fin_expect _ t4).less.bind fun _ t5 h5 => (by show t5.length ≤ _; omega)
  rw [h] at this
  exact this
theorem fun_short {n : Nat} {ts ts' : List Tok} {x : Fun} (h : funP n ts = .ok x ts') : ts'.length ≤ ts.length - 1 := by
  have : Less (ts.length - 1) (funP n ts) := by
    unfold funP
    refine (fin_expect _ ts).less.bind fun _ t1 h1 => (fin_name t1).less.bind fun s t2 h2 => (fin_expect _ t2).less.bind fun _ t3 h3 => ?_
    refine Less.bind (n := t3.length) ?_ fun l t4 h4 => (fin_expect _ t4).less.bind fun _ t5 h5 => ((less_block n).1 0 t5).bind fun b t6 h6 => (by show t6.length ≤ _; omega)
    split
    · exact Nat.le_refl _
    · exact (less_names n t3).le (by omega)
  rw [h] at this
  exact this
theorem stmts_many : ∀ (n nest : Nat) (acc : List Sm) (ts ts' : List Tok) (x : List Sm × Nat), stmtsP n nest acc ts = .ok x ts' → x.1.length ≤ acc.length + ts.length
  | 0, _, _, _, _, _, h => by unfold stmtsP at h; cases h
  | n + 1, nest, acc, ts, ts', x, h => by
    unfold stmtsP at h
    split at h
    · injection h with h1 h2
      rw [← h1]
      show acc.length ≤ _
      omega
    · cases hR : lineP n (blockP n nest) nest ts with
      | out => rw [hR] at h; cases h
      | err l e => rw [hR] at h; cases h
      | ok y t1 =>
        rw [hR] at h
        have h2 := stmts_many n nest (acc ++ [y]) t1 ts' x h
        have h3 := line_short hR
        have h4 := line_pos hR
        simp only [List.length_append, List.length_cons, List.length_nil] at h2
        omega
theorem block_many {n nest : Nat} {ts ts' : List Tok} {x : List Sm × Nat} (h : blockP n nest ts = .ok x ts') : x.1.length ≤ ts.length := by
  cases n with
  | zero => unfold blockP at h; cases h
  | succ n =>
    unfold blockP at h
    cases hR : expectP [123] ts with
    | out => rw [hR] at h; cases h
    | err l e => rw [hR] at h; cases h
    | ok y t1 =>
      have hf := fin_expect [123] ts
      rw [hR] at h hf
      have h2 := stmts_many n (nest + 1) [] t1 ts' x h
      have hf' : t1.length ≤ ts.length - 1 := hf
      simp only [List.length_nil] at h2
      omega
end Go.Proofs.YtpfefjfpnmchcaaDoor
namespace Go.Proofs.YtpfefjfpnmchcaaDoor
open Go.RowKit


/-- The row at A, of which cap elements have room, lies in a block of which p holds and reads, element by element, as xs. -/
def RowIs {α : Type} (P : Value → α → Prop) (p : Nat → Prop) (w : World) (e : TypeId) (size : Nat) (A : Option Addr) (cap : Nat) (xs : List α) : Prop :=
  xs.length ≤ cap ∧ cap ≤ maxLen ∧
  (xs ≠ [] → ∃ b cur fr, A = some ⟨b, 0, none⟩ ∧ p b ∧ w.heap[b]? = some (.cells cur e fr) ∧ ∀ k x, xs[k]? = some x → ∃ vs : List Value, vs.length = size ∧ (∀ j, j < size → cur[k * size + j]? = vs[j]?) ∧ P (.agg vs.toArray) x)
/-- A value of one cell: a text. -/
def StrIs (v : Value) (s : List UInt8) : Prop := v = .agg #[.string ⟨s.toArray⟩]
def NamesIs (p : Nat → Prop) (w : World) (A : Option Addr) (cap : Nat) (xs : List (List UInt8)) : Prop := RowIs StrIs p w 9 1 A cap xs

def ExD (w : World) (p : Nat → Prop) : Nat → Value → Ex → Prop
  | 0, _, _ => False
  | d + 1, v, .mk op num var nm fld args => ∃ A cap, v = .agg #[.int .i64 op, .int .i64 num, .int .i64 var, .string ⟨nm.toArray⟩, .string ⟨fld.toArray⟩, .slice A args.length cap] ∧ RowIs (ExD w p d) p w 51 6 A cap args
def ExsD (w : World) (p : Nat → Prop) (d : Nat) (A : Option Addr) (cap : Nat) (xs : List Ex) : Prop := RowIs (ExD w p d) p w 51 6 A cap xs
def SmD (w : World) (p : Nat → Prop) : Nat → Value → Sm → Prop
  | 0, _, _ => False
  | d + 1, v, .mk kind line id nm ty len var target fn callee args body els => ∃ A1 c1 A2 c2 A3 c3 A4 c4,
      v = .agg #[.int .i64 kind, .int .i64 line, .int .i64 id, .string ⟨nm.toArray⟩, .string ⟨ty.toArray⟩, .int .i64 len, .int .i64 var, .slice A1 target.length c1, .string ⟨fn.toArray⟩, .int .i64 callee, .slice A2 args.length c2, .slice A3 body.length c3, .slice A4 els.length c4] ∧
      ExsD w p d A1 c1 target ∧ ExsD w p d A2 c2 args ∧ RowIs (SmD w p d) p w 49 13 A3 c3 body ∧ RowIs (SmD w p d) p w 49 13 A4 c4 els
def SmsD (w : World) (p : Nat → Prop) (d : Nat) (A : Option Addr) (cap : Nat) (xs : List Sm) : Prop := RowIs (SmD w p d) p w 49 13 A cap xs
/-- Of whatever depth. -/
def ExIs (w : World) (p : Nat → Prop) (v : Value) (x : Ex) : Prop := ∃ d, ExD w p d v x
def ExsIs (w : World) (p : Nat → Prop) (A : Option Addr) (cap : Nat) (xs : List Ex) : Prop := RowIs (ExIs w p) p w 51 6 A cap xs
def SmIs (w : World) (p : Nat → Prop) (v : Value) (x : Sm) : Prop := ∃ d, SmD w p d v x
def SmsIs (w : World) (p : Nat → Prop) (A : Option Addr) (cap : Nat) (xs : List Sm) : Prop := RowIs (SmIs w p) p w 49 13 A cap xs
def RecIs (w : World) (p : Nat → Prop) (v : Value) (r : Rec) : Prop := ∃ A c, v = .agg #[.string ⟨r.name.toArray⟩, .slice A r.fields.length c] ∧ NamesIs p w A c r.fields
def FunIs (w : World) (p : Nat → Prop) (v : Value) (f : Fun) : Prop := ∃ A c A' c', v = .agg #[.string ⟨f.name.toArray⟩, .int .i64 f.line, .slice A f.params.length c, .slice A' f.body.length c'] ∧ NamesIs p w A c f.params ∧ SmsIs w p A' c' f.body
def PrgIs (w : World) (p : Nat → Prop) (v : Value) (g : Prg) : Prop := ∃ A c A' c', v = .agg #[.slice A g.recs.length c, .slice A' g.funs.length c'] ∧
  RowIs (RecIs w p) p w 55 2 A c g.recs ∧ RowIs (FunIs w p) p w 46 4 A' c' g.funs

section
variable {w w' : World} {p q : Nat → Prop} {α : Type}
/-- From one world to another: blocks of which p holds are of q, and are as they were. -/
def Stays (p q : Nat → Prop) (w w' : World) : Prop := ∀ b, b < w.heap.size → p b → q b ∧ w'.heap[b]? = w.heap[b]?
theorem RowIs.turn {P P' : Value → α → Prop} {e : TypeId} {size cap : Nat} {A : Option Addr} {xs : List α} (hs : Stays p q w w') (hP : ∀ v x, P v x → P' v x) (h : RowIs P p w e size A cap xs) : RowIs P' q w' e size A cap xs := by
  obtain ⟨h1, h2, h3⟩ := h
  refine ⟨h1, h2, fun hx => ?_⟩
  obtain ⟨b, cur, fr, hA, hp, hb, hc⟩ := h3 hx
  obtain ⟨hq, hk⟩ := hs b (Array.getElem?_eq_some_iff.1 hb).1 hp
  refine ⟨b, cur, fr, hA, hq, hk.trans hb, fun k x hkx => ?_⟩
  obtain ⟨vs, hl, hcell, hPx⟩ := hc k x hkx
  exact ⟨vs, hl, hcell, hP _ _ hPx⟩
theorem RowIs.imp {P P' : Value → α → Prop} {e : TypeId} {size cap : Nat} {A : Option Addr} {xs : List α} (hP : ∀ v x, P v x → P' v x) (h : RowIs P p w e size A cap xs) : RowIs P' p w e size A cap xs :=
  h.turn (fun _ _ hp => ⟨hp, rfl⟩) hP
theorem RowIs.nil (P : Value → α → Prop) (p : Nat → Prop) (w : World) (e : TypeId) (size : Nat) (A : Option Addr) (cap : Nat) (hc : cap ≤ maxLen) : RowIs P p w e size A cap [] := ⟨Nat.zero_le _, hc, fun h => absurd rfl h⟩
theorem ExD.turn (hs : Stays p q w w') : ∀ {d : Nat} {v : Value} {x : Ex}, ExD w p d v x → ExD w' q d v x
  | 0, _, _, h => h.elim
  | d + 1, v, .mk op num var nm fld args, h => by
    obtain ⟨A, cap, h1, h2⟩ := h
    exact ⟨A, cap, h1, h2.turn hs fun v x hv => ExD.turn hs hv⟩
theorem ExD.up : ∀ {d : Nat} {v : Value} {x : Ex}, ExD w p d v x → ExD w p (d + 1) v x
  | 0, _, _, h => h.elim
  | d + 1, v, .mk op num var nm fld args, h => by
    obtain ⟨A, cap, h1, h2⟩ := h
    exact ⟨A, cap, h1, h2.imp fun v x hv => ExD.up hv⟩
theorem ExD.le {d d' : Nat} {v : Value} {x : Ex} (h : ExD w p d v x) (hd : d ≤ d') : ExD w p d' v x := by
  induction hd with
  | refl => exact h
  | step _ ih => exact ih.up
theorem SmD.turn (hs : Stays p q w w') : ∀ {d : Nat} {v : Value} {x : Sm}, SmD w p d v x → SmD w' q d v x
  | 0, _, _, h => h.elim
  | d + 1, v, .mk kind line id nm ty len var target fn callee args body els, h => by
    obtain ⟨A1, c1, A2, c2, A3, c3, A4, c4, h1, r1, r2, r3, r4⟩ := h
    exact ⟨A1, c1, A2, c2, A3, c3, A4, c4, h1, r1.turn hs fun _ _ hv => hv.turn hs, r2.turn hs fun _ _ hv => hv.turn hs, r3.turn hs fun _ _ hv => SmD.turn hs hv, r4.turn hs fun _ _ hv => SmD.turn hs hv⟩
theorem SmD.up : ∀ {d : Nat} {v : Value} {x : Sm}, SmD w p d v x → SmD w p (d + 1) v x
  | 0, _, _, h => h.elim
  | d + 1, v, .mk kind line id nm ty len var target fn callee args body els, h => by
    obtain ⟨A1, c1, A2, c2, A3, c3, A4, c4, h1, r1, r2, r3, r4⟩ := h
    exact ⟨A1, c1, A2, c2, A3, c3, A4, c4, h1, r1.imp fun _ _ hv => hv.up, r2.imp fun _ _ hv => hv.up, r3.imp fun _ _ hv => SmD.up hv, r4.imp fun _ _ hv => SmD.up hv⟩
theorem SmD.le {d d' : Nat} {v : Value} {x : Sm} (h : SmD w p d v x) (hd : d ≤ d') : SmD w p d' v x := by
  induction hd with
  | refl => exact h
  | step _ ih => exact ih.up
theorem ExIs.turn {v : Value} {x : Ex} (h : ExIs w p v x) (hs : Stays p q w w') : ExIs w' q v x := ⟨h.choose, h.choose_spec.turn hs⟩
theorem SmIs.turn {v : Value} {x : Sm} (h : SmIs w p v x) (hs : Stays p q w w') : SmIs w' q v x := ⟨h.choose, h.choose_spec.turn hs⟩
theorem ExsIs.turn {A : Option Addr} {cap : Nat} {xs : List Ex} (h : ExsIs w p A cap xs) (hs : Stays p q w w') : ExsIs w' q A cap xs := RowIs.turn hs (fun _ _ hv => hv.turn hs) h
theorem SmsIs.turn {A : Option Addr} {cap : Nat} {xs : List Sm} (h : SmsIs w p A cap xs) (hs : Stays p q w w') : SmsIs w' q A cap xs := RowIs.turn hs (fun _ _ hv => hv.turn hs) h
theorem NamesIs.turn {A : Option Addr} {cap : Nat} {xs : List (List UInt8)} (h : NamesIs p w A cap xs) (hs : Stays p q w w') : NamesIs q w' A cap xs := RowIs.turn hs (fun _ _ hv => hv) h
theorem RecIs.turn {v : Value} {x : Rec} (h : RecIs w p v x) (hs : Stays p q w w') : RecIs w' q v x := by
  obtain ⟨A, c, h1, h2⟩ := h
  exact ⟨A, c, h1, h2.turn hs⟩
theorem FunIs.turn {v : Value} {x : Fun} (h : FunIs w p v x) (hs : Stays p q w w') : FunIs w' q v x := by
  obtain ⟨A, c, A', c', h1, h2, h3⟩ := h
  exact ⟨A, c, A', c', h1, h2.turn hs, h3.turn hs⟩

/-- One depth for all elements. -/
theorem RowIs.common {D : Nat → Value → α → Prop} (hup : ∀ d d' v x, d ≤ d' → D d v x → D d' v x) {e : TypeId} {size cap : Nat} {A : Option Addr} {xs : List α} (h : RowIs (fun v x => ∃ d, D d v x) p w e size A cap xs) : ∃ d, RowIs (D d) p w e size A cap xs := by
  obtain ⟨h1, h2, h3⟩ := h
  by_cases hx : xs = []
  · exact ⟨0, h1, h2, fun hne => absurd hx hne⟩
  · obtain ⟨b, cur, fr, hA, hp, hb, hc⟩ := h3 hx
    have hall : ∀ n, n ≤ xs.length → ∃ d, ∀ k x, k < n → xs[k]? = some x → ∃ vs : List Value, vs.length = size ∧ (∀ j, j < size → cur[k * size + j]? = vs[j]?) ∧ D d (.agg vs.toArray) x := by
      intro n
      induction n with
      | zero => exact fun _ => ⟨0, fun k x hk => absurd hk (Nat.not_lt_zero _)⟩
      | succ n ih =>
        intro hn
        obtain ⟨d, hd⟩ := ih (by omega)
        have hxn : xs[n]? = some xs[n] := List.getElem?_eq_getElem (by omega)
        obtain ⟨vs, hl, hcell, d', hP⟩ := hc n _ hxn
        refine ⟨max d d', fun k x hk hkx => ?_⟩
        by_cases hkn : k = n
        · subst hkn
          rw [hxn] at hkx
          injection hkx with hkx
          subst hkx
          exact ⟨vs, hl, hcell, hup _ _ _ _ (Nat.le_max_right _ _) hP⟩
        · obtain ⟨vs, hl, hcell, hP⟩ := hd k x (by omega) hkx
          exact ⟨vs, hl, hcell, hup _ _ _ _ (Nat.le_max_left _ _) hP⟩
    obtain ⟨d, hd⟩ := hall xs.length (Nat.le_refl _)
    exact ⟨d, h1, h2, fun _ => ⟨b, cur, fr, hA, hp, hb, fun k x hkx => hd k x (List.getElem?_eq_some_iff.1 hkx).1 hkx⟩⟩
theorem ExsIs.d {A : Option Addr} {cap : Nat} {xs : List Ex} (h : ExsIs w p A cap xs) : ∃ d, ExsD w p d A cap xs := RowIs.common (D := ExD w p) (fun _ _ _ _ hd hx => hx.le hd) h
theorem SmsIs.d {A : Option Addr} {cap : Nat} {xs : List Sm} (h : SmsIs w p A cap xs) : ∃ d, SmsD w p d A cap xs := RowIs.common (D := SmD w p) (fun _ _ _ _ hd hx => hx.le hd) h
theorem ExsD.le {d d' : Nat} {A : Option Addr} {cap : Nat} {xs : List Ex} (h : ExsD w p d A cap xs) (hd : d ≤ d') : ExsD w p d' A cap xs := RowIs.imp (fun _ _ hv => hv.le hd) h
theorem SmsD.le {d d' : Nat} {A : Option Addr} {cap : Nat} {xs : List Sm} (h : SmsD w p d A cap xs) (hd : d ≤ d') : SmsD w p d' A cap xs := RowIs.imp (fun _ _ hv => hv.le hd) h
theorem ExsD.is {d : Nat} {A : Option Addr} {cap : Nat} {xs : List Ex} (h : ExsD w p d A cap xs) : ExsIs w p A cap xs := RowIs.imp (fun _ _ hv => ⟨d, hv⟩) h
theorem SmsD.is {d : Nat} {A : Option Addr} {cap : Nat} {xs : List Sm} (h : SmsD w p d A cap xs) : SmsIs w p A cap xs := RowIs.imp (fun _ _ hv => ⟨d, hv⟩) h

/-- An expression out of its parts, and back. -/
theorem ExIs.mk {op num var : Int} {nm fld : List UInt8} {args : List Ex} {A : Option Addr} {cap : Nat} (h : ExsIs w p A cap args) : ExIs w p (.agg #[.int .i64 op, .int .i64 num, .int .i64 var, .string ⟨nm.toArray⟩, .string ⟨fld.toArray⟩, .slice A args.length cap]) (.mk op num var nm fld args) := by
  obtain ⟨d, hd⟩ := h.d
  exact ⟨d + 1, A, cap, rfl, hd⟩
theorem ExIs.parts {v : Value} {op num var : Int} {nm fld : List UInt8} {args : List Ex} (h : ExIs w p v (.mk op num var nm fld args)) : ∃ A cap, v = .agg #[.int .i64 op, .int .i64 num, .int .i64 var, .string ⟨nm.toArray⟩, .string ⟨fld.toArray⟩, .slice A args.length cap] ∧ ExsIs w p A cap args := by
  obtain ⟨d, hd⟩ := h
  cases d with
  | zero => exact hd.elim
  | succ d =>
    obtain ⟨A, cap, h1, h2⟩ := hd
    exact ⟨A, cap, h1, ExsD.is h2⟩
theorem SmIs.mk {kind line id len var callee : Int} {nm ty fn : List UInt8} {target args : List Ex} {body els : List Sm} {A1 A2 A3 A4 : Option Addr} {c1 c2 c3 c4 : Nat} (h1 : ExsIs w p A1 c1 target) (h2 : ExsIs w p A2 c2 args) (h3 : SmsIs w p A3 c3 body) (h4 : SmsIs w p A4 c4 els) :
    SmIs w p (.agg #[.int .i64 kind, .int .i64 line, .int .i64 id, .string ⟨nm.toArray⟩, .string ⟨ty.toArray⟩, .int .i64 len, .int .i64 var, .slice A1 target.length c1, .string ⟨fn.toArray⟩, .int .i64 callee, .slice A2 args.length c2, .slice A3 body.length c3, .slice A4 els.length c4]) (.mk kind line id nm ty len var target fn callee args body els) := by
  obtain ⟨d1, g1⟩ := h1.d
  obtain ⟨d2, g2⟩ := h2.d
  obtain ⟨d3, g3⟩ := h3.d
  obtain ⟨d4, g4⟩ := h4.d
  exact ⟨max (max d1 d2) (max d3 d4) + 1, A1, c1, A2, c2, A3, c3, A4, c4, rfl, g1.le (by omega), g2.le (by omega), g3.le (by omega), g4.le (by omega)⟩
theorem SmIs.parts {v : Value} {kind line id len var callee : Int} {nm ty fn : List UInt8} {target args : List Ex} {body els : List Sm} (h : SmIs w p v (.mk kind line id nm ty len var target fn callee args body els)) : ∃ A1 c1 A2 c2 A3 c3 A4 c4,
    v = .agg #[.int .i64 kind, .int .i64 line, .int .i64 id, .string ⟨nm.toArray⟩, .string ⟨ty.toArray⟩, .int .i64 len, .int .i64 var, .slice A1 target.length c1, .string ⟨fn.toArray⟩, .int .i64 callee, .slice A2 args.length c2, .slice A3 body.length c3, .slice A4 els.length c4] ∧
    ExsIs w p A1 c1 target ∧ ExsIs w p A2 c2 args ∧ SmsIs w p A3 c3 body ∧ SmsIs w p A4 c4 els := by
  obtain ⟨d, hd⟩ := h
  cases d with
  | zero => exact hd.elim
  | succ d =>
    obtain ⟨A1, c1, A2, c2, A3, c3, A4, c4, h1, r1, r2, r3, r4⟩ := hd
    exact ⟨A1, c1, A2, c2, A3, c3, A4, c4, h1, r1.is, r2.is, SmsD.is r3, SmsD.is r4⟩
theorem ExsIs.nil (w : World) (p : Nat → Prop) (A : Option Addr) (cap : Nat) (hc : cap ≤ maxLen) : ExsIs w p A cap [] := RowIs.nil _ _ _ _ _ _ _ hc
theorem SmsIs.nil (w : World) (p : Nat → Prop) (A : Option Addr) (cap : Nat) (hc : cap ≤ maxLen) : SmsIs w p A cap [] := RowIs.nil _ _ _ _ _ _ _ hc
/-- A row that a literal makes: one element, or two. -/
theorem RowIs.one {P : Value → α → Prop} {e : TypeId} {vs : List Value} {b : Nat} {fr : Nat × Nat} {cap : Nat} {x : α} (hb : w.heap[b]? = some (.cells vs.toArray e fr)) (hp : p b) (hcap : 1 ≤ cap) (hm : cap ≤ maxLen) (hx : P (.agg vs.toArray) x) : RowIs P p w e vs.length (some ⟨b, 0, none⟩) cap [x] := by
  refine ⟨by simpa using hcap, hm, fun _ => ⟨b, _, fr, rfl, hp, hb, fun k y hk => ?_⟩⟩
  have hk0 : k < 1 := by simpa using (List.getElem?_eq_some_iff.1 hk).1
  obtain rfl : k = 0 := by omega
  obtain rfl : x = y := by simpa using hk
  exact ⟨vs, rfl, fun j _ => by rw [Nat.zero_mul, Nat.zero_add]; simp, hx⟩
theorem RowIs.two {P : Value → α → Prop} {e : TypeId} {vs us : List Value} {b : Nat} {fr : Nat × Nat} {cap : Nat} {x y : α} (hl : us.length = vs.length) (hb : w.heap[b]? = some (.cells (vs ++ us).toArray e fr)) (hp : p b) (hcap : 2 ≤ cap) (hm : cap ≤ maxLen) (hx : P (.agg vs.toArray) x) (hy : P (.agg us.toArray) y) : RowIs P p w e vs.length (some ⟨b, 0, none⟩) cap [x, y] := by
  refine ⟨by simpa using hcap, hm, fun _ => ⟨b, _, fr, rfl, hp, hb, fun k z hk => ?_⟩⟩
  have hk0 : k < 2 := by simpa using (List.getElem?_eq_some_iff.1 hk).1
  obtain rfl | rfl : k = 0 ∨ k = 1 := by omega
  · obtain rfl : x = z := by simpa using hk
    exact ⟨vs, rfl, fun j hj => by rw [Nat.zero_mul, Nat.zero_add]; simp [List.getElem?_append_left hj], hx⟩
  · obtain rfl : y = z := by simpa using hk
    exact ⟨us, hl, fun j hj => by rw [Nat.one_mul]; simp [List.getElem?_append_right], hy⟩
end
end Go.Proofs.YtpfefjfpnmchcaaDoor
namespace Go.Proofs.YtpfefjfpnmchcaaDoor
open Go.RowKit

/-- The block of a row. -/
def blkOf (A : Option Addr) : Option Nat := A.map (·.block)
theorem own_blkOf (A : Option Addr) (l c : Nat) : Value.ownBlock (.slice A l c) = blkOf A := by cases A <;> rfl
/-- What holds of a value where it stands, holds of it wherever its blocks are as they were. -/
def Turns {α : Type} (P : World → (Nat → Prop) → Value → α → Prop) : Prop := ∀ w w' p q v x, Stays p q w w' → P w p v x → P w' q v x
theorem turns_str : Turns (fun _ _ => StrIs) := fun _ _ _ _ _ _ _ h => h
theorem turns_ex : Turns ExIs := fun _ _ _ _ _ _ hs h => h.turn hs
theorem turns_sm : Turns SmIs := fun _ _ _ _ _ _ hs h => h.turn hs
theorem turns_rec : Turns RecIs := fun _ _ _ _ _ _ hs h => h.turn hs
theorem turns_fun : Turns FunIs := fun _ _ _ _ _ _ hs h => h.turn hs
/-- A row of its own, from block N on; what its elements hold lies from N on, and not in the row itself. -/
def OwnIs {α : Type} (P : World → (Nat → Prop) → Value → α → Prop) (w : World) (N : Nat) (e : TypeId) (size : Nat) (A : Option Addr) (c : Nat) (xs : List α) : Prop :=
  ∃ cells : List Value, w.ownsRow N e size (.slice A xs.length c) xs.length cells ∧
    ∀ k x, xs[k]? = some x → ∃ vs : List Value, vs.length = size ∧ (∀ j, j < size → cells[k * size + j]? = vs[j]?) ∧ P w (fun b => N ≤ b ∧ some b ≠ blkOf A) (.agg vs.toArray) x
section
variable {α : Type} {P : World → (Nat → Prop) → Value → α → Prop} {w w' : World} {N size c : Nat} {e : TypeId} {A : Option Addr} {xs : List α}
theorem OwnIs.nil (P : World → (Nat → Prop) → Value → α → Prop) (w : World) (N : Nat) (e : TypeId) (size : Nat) : OwnIs P w N e size none 0 [] := ⟨[], World.ownsRow_nil w N e size, fun k x hk => by simp at hk⟩
theorem OwnIs.made (P : World → (Nat → Prop) → Value → α → Prop) (w : World) (N : Nat) (e : TypeId) (size : Nat) (hN : N ≤ w.heap.size) : OwnIs P (w.alloc (.cells #[] e)) N e size (some ⟨w.heap.size, 0, none⟩) 0 [] :=
  ⟨[], World.ownsRow_made w #[] 0 hN (Nat.zero_le _) (by simp), fun k x hk => by simp at hk⟩
theorem OwnIs.place (h : OwnIs P w N e size A c xs) : ∀ g, blkOf A = some g → N ≤ g ∧ g < w.heap.size := by
  obtain ⟨cells, h1, _⟩ := h
  intro g hg
  exact h1.lt g ((own_blkOf A _ c).trans hg)
theorem OwnIs.turn (hP : Turns P) (h : OwnIs P w N e size A c xs) (hk : ∀ b, N ≤ b → b < w.heap.size → w'.heap[b]? = w.heap[b]?) : OwnIs P w' N e size A c xs := by
  obtain ⟨cells, ⟨h1, h2⟩, h3⟩ := h
  refine ⟨cells, ⟨h1, ?_⟩, fun k x hkx => ?_⟩
  · rcases h2 with h2 | ⟨g, cap, cur, e1, hb, hg, hr⟩
    · exact .inl h2
    · exact .inr ⟨g, cap, cur, e1, hb, (hk g hb (Array.getElem?_eq_some_iff.1 hg).1).trans hg, hr⟩
  · obtain ⟨vs, hl, hc, hp⟩ := h3 k x hkx
    exact ⟨vs, hl, hc, hP _ _ _ _ _ _ (fun b hb hp => ⟨hp, hk b hp.1 hb⟩) hp⟩
theorem OwnIs.base (hP : Turns P) {N' : Nat} (h : OwnIs P w N e size A c xs) (hN : N' ≤ N) : OwnIs P w N' e size A c xs := by
  obtain ⟨cells, ⟨h1, h2⟩, h3⟩ := h
  refine ⟨cells, ⟨h1, ?_⟩, fun k x hkx => ?_⟩
  · rcases h2 with h2 | ⟨g, cap, cur, e1, hb, hg, hr⟩
    · exact .inl h2
    · exact .inr ⟨g, cap, cur, e1, Nat.le_trans hN hb, hg, hr⟩
  · obtain ⟨vs, hl, hc, hp⟩ := h3 k x hkx
    exact ⟨vs, hl, hc, hP _ _ _ _ _ _ (fun b hb hp => ⟨⟨Nat.le_trans hN hp.1, hp.2⟩, rfl⟩) hp⟩
theorem OwnIs.cap (h : OwnIs P w N e size A c xs) : xs.length ≤ c ∧ c ≤ maxLen := by
  obtain ⟨cells, ⟨h1, h2⟩, h3⟩ := h
  rcases h2 with ⟨e1, e0⟩ | ⟨g, cap, cur, e1, hb, hg, hr1, hr2, _⟩
  · injection e1 with e1 e2 e3
    rw [e3]
    exact ⟨by omega, by decide⟩
  · injection e1 with e1 e2 e3
    rw [e3]
    exact ⟨hr1, hr2⟩
theorem OwnIs.row (hP : Turns P) (h : OwnIs P w N e size A c xs) : RowIs (P w (fun b => N ≤ b)) (fun b => N ≤ b) w e size A c xs := by
  have hcap := h.cap
  obtain ⟨cells, ⟨h1, h2⟩, h3⟩ := h
  refine ⟨hcap.1, hcap.2, fun hne => ?_⟩
  rcases h2 with ⟨e1, e0⟩ | ⟨g, cap, cur, e1, hb, hg, hr1, hr2, hr3, hr4⟩
  · exact absurd (List.eq_nil_of_length_eq_zero e0) hne
  · injection e1 with e1 e2 e3
    refine ⟨g, cur, _, e1, hb, hg, fun k x hkx => ?_⟩
    obtain ⟨vs, hl, hc, hp⟩ := h3 k x hkx
    refine ⟨vs, hl, fun j hj => ?_, hP _ _ _ _ _ _ (fun b _ hp => ⟨hp.1, rfl⟩) hp⟩
    have hk : k < xs.length := (List.getElem?_eq_some_iff.1 hkx).1
    have hlt : k * size + j < xs.length * size := by
      have : (k + 1) * size ≤ xs.length * size := Nat.mul_le_mul_right _ hk
      rw [Nat.add_mul, Nat.one_mul] at this
      omega
    rw [← hc j hj, ← hr4, List.getElem?_take, if_pos hlt, Array.getElem?_toList]
/-- The cells of a new block. -/
theorem new_cell (w : World) (vs : List Value) (t : TypeId) (j : Nat) (u : Value) (h : vs[j]? = some u) : (w.alloc (.cells vs.toArray t)).cell? ⟨w.heap.size, j, none⟩ = some u := by
  rw [World.cell?_alloc_at _ _ _ _ rfl]
  simpa using h
/-- A row that a literal of one element makes. -/
theorem OwnIs.one {vs : List Value} {b : Nat} {x : α} (hb : w.heap[b]? = some (.cells vs.toArray e (0, 0))) (hN : N ≤ b) (hl : vs.length = size) (hx : P w (fun b' => N ≤ b' ∧ some b' ≠ some b) (.agg vs.toArray) x) : OwnIs P w N e size (some ⟨b, 0, none⟩) 1 [x] := by
  refine ⟨vs, ⟨by simpa using hl, .inr ⟨b, 1, vs.toArray, rfl, hN, hb, Nat.le_refl _, by decide, by simpa using hl, ?_⟩⟩, fun k y hk => ?_⟩
  · simp only [List.length_cons, List.length_nil, Nat.zero_add, Nat.one_mul]
    rw [← hl]
    exact List.take_length
  · have hk0 : k < 1 := by simpa using (List.getElem?_eq_some_iff.1 hk).1
    obtain rfl : k = 0 := by omega
    obtain rfl : x = y := by simpa using hk
    exact ⟨vs, hl, fun j _ => by rw [Nat.zero_mul, Nat.zero_add], hx⟩
/-- One element more. -/
theorem run_append_one (hP : Turns P) {Pr : Program} (w : World) (t ty : TypeId) (i : TypeInfo) (z : Value) (bytes : Nat) (ht : Pr.underlying t = some (.slice e)) (hi : Pr.info? e = some i) (hz : i.zero = some z)
    (hsize : i.size = size) (hby : i.bytes = bytes) (hzs : z.cells.size = size) (hsz : 0 < size) (hb1 : bytes ≤ 1000) (hown : OwnIs P w N e size A c xs) (Y c1 : Nat) (vs : List Value) (y : α) (hvl : vs.length = size) (hcell : ∀ j u, vs[j]? = some u → w.cell? ⟨Y, j, none⟩ = some u) (h1 : ∀ u ∈ vs, u.oneCell' = true)
    (hlen : xs.length < 100000) (hN : N ≤ w.heap.size) (hnew : P w (fun b => N ≤ b ∧ some b ≠ blkOf A) (.agg vs.toArray) y) :
    ∃ A' c' w', (Builtin.append_ #[t, t] ty #[.slice A xs.length c, .slice (some ⟨Y, 0, none⟩) 1 c1]).run Pr w = .ok (.slice A' (xs ++ [y]).length c') w' ∧ OwnIs P w' N e size A' c' (xs ++ [y]) ∧ w.grownBy w' (blkOf A) ∧ (blkOf A' = blkOf A ∨ blkOf A' = some w.heap.size) := by
  have hpl := hown.place
  obtain ⟨cells, hrow, h3⟩ := hown
  have hrl := hrow.1
  obtain ⟨v', w', hr, h2, hgr, _, hpv⟩ := run_append_own_at (P := Pr) w N t ty e i z size bytes ht hi hz hsize hby hzs hsz _ xs.length cells hrow ⟨Y, 0, none⟩ 1 c1 vs (by rw [hvl, Nat.one_mul]) (fun j u hu => by rw [Addr.add_lit, Nat.zero_add]; exact hcell j u hu) h1 (by unfold maxLen; omega) (by
    have : (xs.length + 1) * bytes ≤ 100000 * 1000 := Nat.mul_le_mul (by omega) hb1
    omega) hN
  have hv : ∃ A' c', v' = .slice A' (xs.length + 1) c' := by
    rcases h2.2 with ⟨_, e0⟩ | ⟨g, cap, cur, e, _⟩
    · exact absurd e0 (by omega)
    · exact ⟨_, _, e⟩
  obtain ⟨A', c', rfl⟩ := hv
  have hl : (xs ++ [y]).length = xs.length + 1 := by simp
  rw [own_blkOf] at hgr
  rw [own_blkOf, own_blkOf] at hpv
  refine ⟨A', c', w', by rw [hl]; exact hr, ⟨cells ++ vs, by rw [hl]; exact h2, fun k x hkx => ?_⟩, hgr, hpv⟩
  have hst : Stays (fun b => N ≤ b ∧ some b ≠ blkOf A) (fun b => N ≤ b ∧ some b ≠ blkOf A') w w' := fun b hb hp => ⟨⟨hp.1, fun e' => by
    rcases hpv with hpv | hpv
    · exact hp.2 (e'.trans hpv)
    · rw [hpv] at e'
      injection e' with e'
      omega⟩, hgr.block b hb hp.2⟩
  by_cases hkl : k < xs.length
  · rw [List.getElem?_append_left hkl] at hkx
    obtain ⟨us, hul, hc, hp⟩ := h3 k x hkx
    refine ⟨us, hul, fun j hj => ?_, hP _ _ _ _ _ _ hst hp⟩
    have hlt : k * size + j < xs.length * size := by
      have : (k + 1) * size ≤ xs.length * size := Nat.mul_le_mul_right _ hkl
      rw [Nat.add_mul, Nat.one_mul] at this
      omega
    rw [List.getElem?_append_left (by omega)]
    exact hc j hj
  · have hk : k = xs.length := by
      have := (List.getElem?_eq_some_iff.1 hkx).1
      omega
    subst hk
    obtain rfl : y = x := by simpa using hkx
    refine ⟨vs, hvl, fun j hj => ?_, hP _ _ _ _ _ _ hst hnew⟩
    rw [List.getElem?_append_right (by omega)]
    congr 1
    omega
theorem wp_append_one (hP : Turns P) {Pr : Program} {o : Oper} {a : Act} {K : Act → World → Prop} {Q : Exit → Act → World → Prop} (s x : Operand) (t : TypeId)
    (ho : o.op = .call { callee := .builtin .append, args := #[s, x], argTypes := #[t, t] }) (i : TypeInfo) (z : Value) (bytes : Nat) (ht : Pr.underlying t = some (.slice e)) (hi : Pr.info? e = some i) (hz : i.zero = some z)
    (hsize : i.size = size) (hby : i.bytes = bytes) (hzs : z.cells.size = size) (hsz : 0 < size) (hb1 : bytes ≤ 1000) (hown : OwnIs P w N e size A c xs) (hs : a.eval s = .slice A xs.length c) (Y c1 : Nat) (hx : a.eval x = .slice (some ⟨Y, 0, none⟩) 1 c1) (vs : List Value) (y : α) (hvl : vs.length = size) (hcell : ∀ j u, vs[j]? = some u → w.cell? ⟨Y, j, none⟩ = some u) (h1 : ∀ u ∈ vs, u.oneCell' = true)
    (hlen : xs.length < 100000) (hN : N ≤ w.heap.size) (hnew : P w (fun b => N ≤ b ∧ some b ≠ blkOf A) (.agg vs.toArray) y)
    (h : ∀ A' c' w', OwnIs P w' N e size A' c' (xs ++ [y]) → w.grownBy w' (blkOf A) → (blkOf A' = blkOf A ∨ blkOf A' = some w.heap.size) → K (a.put o.dst (.slice A' (xs ++ [y]).length c')) w') : o.wp Pr a w K Q := by
  obtain ⟨A', c', w', hr, g1, g2, g3⟩ := run_append_one (Pr := Pr) hP w t o.type i z bytes ht hi hz hsize hby hzs hsz hb1 hown Y c1 vs y hvl hcell h1 hlen hN hnew
  have hk := h A' c' w' g1 g2 g3
  unfold Oper.wp execOp
  rw [ho]
  simp only [resolve, invoke, builtin, Sem.run_bind, Sem.run_pure, Result.andThen_ok, List.map_toArray, List.map_cons, List.map_nil, hs, hx, hr]
  exact hk
theorem wpList_append_one (hP : Turns P) {Pr : Program} {ops : Array Oper} {rest : List Oper} {o : Oper} {a : Act} {Q : Exit → Act → World → Prop} (hgd : o.guard = none) (s x : Operand) (t : TypeId)
    (ho : o.op = .call { callee := .builtin .append, args := #[s, x], argTypes := #[t, t] }) (i : TypeInfo) (z : Value) (bytes : Nat) (ht : Pr.underlying t = some (.slice e)) (hi : Pr.info? e = some i) (hz : i.zero = some z)
    (hsize : i.size = size) (hby : i.bytes = bytes) (hzs : z.cells.size = size) (hsz : 0 < size) (hb1 : bytes ≤ 1000) (hown : OwnIs P w N e size A c xs) (hs : a.eval s = .slice A xs.length c) (Y c1 : Nat) (hx : a.eval x = .slice (some ⟨Y, 0, none⟩) 1 c1) (vs : List Value) (y : α) (hvl : vs.length = size) (hcell : ∀ j u, vs[j]? = some u → w.cell? ⟨Y, j, none⟩ = some u) (h1 : ∀ u ∈ vs, u.oneCell' = true)
    (hlen : xs.length < 100000) (hN : N ≤ w.heap.size) (hnew : P w (fun b => N ≤ b ∧ some b ≠ blkOf A) (.agg vs.toArray) y)
    (h : ∀ A' c' w', OwnIs P w' N e size A' c' (xs ++ [y]) → w.grownBy w' (blkOf A) → (blkOf A' = blkOf A ∨ blkOf A' = some w.heap.size) → wpList Pr ops Q rest (a.put o.dst (.slice A' (xs ++ [y]).length c')) w') : wpList Pr ops Q (o :: rest) a w :=
  wpList_plain hgd fun _ hK => wp_append_one hP s x t ho i z bytes ht hi hz hsize hby hzs hsz hb1 hown hs Y c1 hx vs y hvl hcell h1 hlen hN hnew fun A' c' w' g1 g2 g3 => hK _ _ (h A' c' w' g1 g2 g3)
end
end Go.Proofs.YtpfefjfpnmchcaaDoor
namespace Go.Proofs.YtpfefjfpnmchcaaDoor
open Go.RowKit
open Go.Maps (IsMap isMap_empty atKey_put_same atKey_put_other)

theorem keyedS : Go.Maps.Keyed Tryd.prog 9 := Go.Maps.string_keyed Tryd.underlying9
theorem zeroF (w : World) : (zeroValue 90).run Tryd.prog w = .ok .nilFunc w := by kernel_rfl
/-- How a function's value reads: by its number. -/
def fnElem : Value → Option (DataW Unit × List MemPlace)
  | .func (.func n) ⟨[]⟩ ⟨[]⟩ => some (.lit (.int .i64 n), [])
  | .nilFunc => some (.lit (.int .i64 (-1)), [])
  | _ => none
theorem fnElem_inv {v : Value} {n : Nat} {p : List MemPlace} (h : fnElem v = some (.lit (.int .i64 n), p)) : v = .func (.func n) #[] #[] := by
  unfold fnElem at h
  split at h
  · simp only [Option.some.injEq, Prod.mk.injEq, DataW.lit.injEq, Lit.int.injEq, true_and, Int.ofNat_inj] at h
    obtain ⟨rfl, _⟩ := h
    rfl
  · simp only [Option.some.injEq, Prod.mk.injEq, DataW.lit.injEq, Lit.int.injEq, true_and] at h
    omega
  · cases h
theorem fnElem_nil {v : Value} {p : List MemPlace} (h : fnElem v = some (.lit (.int .i64 (-1)), p)) : v = .nilFunc := by
  unfold fnElem at h
  split at h
  · simp only [Option.some.injEq, Prod.mk.injEq, DataW.lit.injEq, Lit.int.injEq, true_and] at h
    omega
  · rfl
  · cases h
/-- Which method reads the statement that begins with a word. -/
def methods : List (List UInt8 × Nat) := [([118, 97, 114], 30), ([105, 102], 31), ([119, 104, 105, 108, 101], 32), ([114, 101, 116, 117, 114, 110], 33), ([116, 104, 114, 111, 119], 34), ([116, 114, 121], 35), ([112, 114, 105, 110, 116], 36)]
def methodOf (s : List UInt8) : Option Nat := (methods.find? fun p => p.1 == s).map (·.2)
def fnsD : DataW Unit := methods.foldl (fun m p => m.put (.string p.1) (.lit (.int .i64 p.2))) (.map [])
/-- Block b is that map. -/
def FnsAt (w : World) (b : Nat) : Prop := w.ownsMap (H := Unit) Tryd.prog 9 fnElem b 7 fnsD
theorem FnsAt.keep {w w' : World} {b : Nat} (h : FnsAt w b) (hb : w'.heap[b]? = w.heap[b]?) : FnsAt w' b := by
  obtain ⟨es, clock, h1, h2⟩ := h
  exact ⟨es, clock, hb.trans h1, h2⟩
theorem FnsAt.lt {w : World} {b : Nat} (h : FnsAt w b) : b < w.heap.size := World.ownsMap.lt h
theorem atKey_puts (k : Lit) (hk : WideAt.IsKeyLit k) (z : DataW Unit) : ∀ (l : List (List UInt8 × Nat)) (m : DataW Unit), IsMap m → (∀ p ∈ l, k ≠ .string p.1) → (l.foldl (fun m p => m.put (.string p.1) (.lit (.int .i64 p.2))) m).atKey k z = m.atKey k z
  | [], m, _, _ => rfl
  | x :: l, m, hm, h => by
    rw [List.foldl_cons, atKey_puts k hk z l _ (hm.put _ _) (fun p hp => h p (List.mem_cons_of_mem _ hp))]
    exact atKey_put_other (h x List.mem_cons_self) _ _
theorem fns_at (s : List UInt8) (z : DataW Unit) (n : Nat) (h : methodOf s = some n) : fnsD.atKey (.string s) z = .lit (.int .i64 n) := by
  have hk : WideAt.IsKeyLit (.string s) := by simp [WideAt.IsKeyLit]
  have hstep : ∀ (a c : List (List UInt8 × Nat)) (x : List UInt8) (k : Nat), methods = a ++ (x, k) :: c → s = x → (∀ p ∈ c, x ≠ p.1) → fnsD.atKey (.string s) z = .lit (.int .i64 k) := by
    intro a c x k e hx hc
    subst hx
    unfold fnsD
    rw [e, List.foldl_append, List.foldl_cons, atKey_puts _ hk z c _ ?_ (fun p hp e => hc p hp (by simpa using e))]
    · refine atKey_put_same ?_ hk _ _
      have : ∀ (l : List (List UInt8 × Nat)) (m : DataW Unit), IsMap m → IsMap (l.foldl (fun m p => m.put (.string p.1) (.lit (.int .i64 p.2))) m) := by
        intro l
        induction l with
        | nil => exact fun m hm => hm
        | cons x l ih => exact fun m hm => ih _ (hm.put _ _)
      exact this a _ isMap_empty
    · refine IsMap.put ?_ _ _
      have : ∀ (l : List (List UInt8 × Nat)) (m : DataW Unit), IsMap m → IsMap (l.foldl (fun m p => m.put (.string p.1) (.lit (.int .i64 p.2))) m) := by
        intro l
        induction l with
        | nil => exact fun m hm => hm
        | cons x l ih => exact fun m hm => ih _ (hm.put _ _)
      exact this a _ isMap_empty
  simp only [methodOf, methods, List.find?_cons] at h
  by_cases h0 : s = [118, 97, 114]
  · subst h0
    simp at h
    subst h
    exact hstep (methods.take 0) (methods.drop 1) [118, 97, 114] 30 rfl rfl (by decide)
  by_cases h1 : s = [105, 102]
  · subst h1
    simp at h
    subst h
    exact hstep (methods.take 1) (methods.drop 2) [105, 102] 31 rfl rfl (by decide)
  by_cases h2 : s = [119, 104, 105, 108, 101]
  · subst h2
    simp at h
    subst h
    exact hstep (methods.take 2) (methods.drop 3) [119, 104, 105, 108, 101] 32 rfl rfl (by decide)
  by_cases h3 : s = [114, 101, 116, 117, 114, 110]
  · subst h3
    simp at h
    subst h
    exact hstep (methods.take 3) (methods.drop 4) [114, 101, 116, 117, 114, 110] 33 rfl rfl (by decide)
  by_cases h4 : s = [116, 104, 114, 111, 119]
  · subst h4
    simp at h
    subst h
    exact hstep (methods.take 4) (methods.drop 5) [116, 104, 114, 111, 119] 34 rfl rfl (by decide)
  by_cases h5 : s = [116, 114, 121]
  · subst h5
    simp at h
    subst h
    exact hstep (methods.take 5) (methods.drop 6) [116, 114, 121] 35 rfl rfl (by decide)
  by_cases h6 : s = [112, 114, 105, 110, 116]
  · subst h6
    simp at h
    subst h
    exact hstep (methods.take 6) (methods.drop 7) [112, 114, 105, 110, 116] 36 rfl rfl (by decide)
  exfalso
  have e : ∀ x : List UInt8, s ≠ x → (x == s) = false := fun x hx => by simpa using fun e => hx e.symm
  rw [e _ h0, e _ h1, e _ h2, e _ h3, e _ h4, e _ h5, e _ h6] at h
  simp at h
theorem fns_none (s : List UInt8) (z : DataW Unit) (h : methodOf s = none) : fnsD.atKey (.string s) z = z := by
  have hk : WideAt.IsKeyLit (.string s) := by simp [WideAt.IsKeyLit]
  unfold fnsD
  rw [atKey_puts _ hk z methods _ isMap_empty]
  · rfl
  · intro p hp e
    simp only [methodOf, Option.map_eq_none_iff, List.find?_eq_none] at h
    have := h p hp
    simp at this
    simp at e
    exact this e.symm
theorem FnsAt.look {w : World} {b : Nat} (h : FnsAt w b) (s : List UInt8) (hs : s.length ≤ maxLen) (n : Nat) (hn : methodOf s = some n) :
    (Instr.lookup 65 (.map (some b)) (.string ⟨s.toArray⟩) false).run Tryd.prog w = .ok (.func (.func n) #[] #[]) w := by
  obtain ⟨v, ps, hrun, hv⟩ := World.ownsMap.lookup h keyedS Tryd.underlying65 (zeroF w) (rfl : fnElem .nilFunc = some (.lit (.int .i64 (-1)), [])) (Go.WideMaps.keyOf_string_mk Tryd.underlying9 (s := ⟨s.toArray⟩) (by show s.toArray.size ≤ maxLen; simpa using hs))
  rw [show (⟨s.toArray⟩ : ByteArray).data.toList = s from by simp, fns_at s _ n hn] at hv
  rw [hrun, fnElem_inv hv]
theorem FnsAt.look_none {w : World} {b : Nat} (h : FnsAt w b) (s : List UInt8) (hs : s.length ≤ maxLen) (hn : methodOf s = none) :
    (Instr.lookup 65 (.map (some b)) (.string ⟨s.toArray⟩) false).run Tryd.prog w = .ok .nilFunc w := by
  obtain ⟨v, ps, hrun, hv⟩ := World.ownsMap.lookup h keyedS Tryd.underlying65 (zeroF w) (rfl : fnElem .nilFunc = some (.lit (.int .i64 (-1)), [])) (Go.WideMaps.keyOf_string_mk Tryd.underlying9 (s := ⟨s.toArray⟩) (by show s.toArray.size ≤ maxLen; simpa using hs))
  rw [show (⟨s.toArray⟩ : ByteArray).data.toList = s from by simp, fns_none s _ hn] at hv
  rw [hrun, fnElem_nil hv]

set_option maxRecDepth 100000 in
set_option maxHeartbeats 1600000 in
theorem fns_any (w : World) : Calls Tryd.prog 20 #[] w fun e w' => ∃ b, e = .returned (.map (some b)) ∧ FnsAt w' b ∧ w.heap.size ≤ b ∧ Below w.heap.size w w' := by
  have hmm := @run_makeMap Tryd.prog
  have hm := Below.alloc (Below.refl w.heap.size w) (Nat.le_refl _) (.map #[] 0)
  have o0 := World.ownsMap_made (H := Unit) w Tryd.prog 9 fnElem
  obtain ⟨w1, r1, o1, g1⟩ := o0.update keyedS Tryd.underlying65 (by unfold maxLen; omega) (key := .string ⟨#[118, 97, 114]⟩) (val := .func (.func 30) #[] #[]) (Go.WideMaps.keyOf_string_mk Tryd.underlying9 (by decide)) (rfl : fnElem (.func (.func 30) #[] #[]) = some (.lit (.int .i64 30), []))
  obtain ⟨w2, r2, o2, g2⟩ := o1.update keyedS Tryd.underlying65 (by unfold maxLen; omega) (key := .string ⟨#[105, 102]⟩) (val := .func (.func 31) #[] #[]) (Go.WideMaps.keyOf_string_mk Tryd.underlying9 (by decide)) (rfl : fnElem (.func (.func 31) #[] #[]) = some (.lit (.int .i64 31), []))
  obtain ⟨w3, r3, o3, g3⟩ := o2.update keyedS Tryd.underlying65 (by unfold maxLen; omega) (key := .string ⟨#[119, 104, 105, 108, 101]⟩) (val := .func (.func 32) #[] #[]) (Go.WideMaps.keyOf_string_mk Tryd.underlying9 (by decide)) (rfl : fnElem (.func (.func 32) #[] #[]) = some (.lit (.int .i64 32), []))
  obtain ⟨w4, r4, o4, g4⟩ := o3.update keyedS Tryd.underlying65 (by unfold maxLen; omega) (key := .string ⟨#[114, 101, 116, 117, 114, 110]⟩) (val := .func (.func 33) #[] #[]) (Go.WideMaps.keyOf_string_mk Tryd.underlying9 (by decide)) (rfl : fnElem (.func (.func 33) #[] #[]) = some (.lit (.int .i64 33), []))
  obtain ⟨w5, r5, o5, g5⟩ := o4.update keyedS Tryd.underlying65 (by unfold maxLen; omega) (key := .string ⟨#[116, 104, 114, 111, 119]⟩) (val := .func (.func 34) #[] #[]) (Go.WideMaps.keyOf_string_mk Tryd.underlying9 (by decide)) (rfl : fnElem (.func (.func 34) #[] #[]) = some (.lit (.int .i64 34), []))
  obtain ⟨w6, r6, o6, g6⟩ := o5.update keyedS Tryd.underlying65 (by unfold maxLen; omega) (key := .string ⟨#[116, 114, 121]⟩) (val := .func (.func 35) #[] #[]) (Go.WideMaps.keyOf_string_mk Tryd.underlying9 (by decide)) (rfl : fnElem (.func (.func 35) #[] #[]) = some (.lit (.int .i64 35), []))
  obtain ⟨w7, r7, o7, g7⟩ := o6.update keyedS Tryd.underlying65 (by unfold maxLen; omega) (key := .string ⟨#[112, 114, 105, 110, 116]⟩) (val := .func (.func 36) #[] #[]) (Go.WideMaps.keyOf_string_mk Tryd.underlying9 (by decide)) (rfl : fnElem (.func (.func 36) #[] #[]) = some (.lit (.int .i64 36), []))
  have hb1 := hm.grown g1 (by simp) (by simp)
  have hb2 := hb1.grown g2 (hb1.size) (by simp)
  have hb3 := hb2.grown g3 (hb2.size) (by simp)
  have hb4 := hb3.grown g4 (hb3.size) (by simp)
  have hb5 := hb4.grown g5 (hb4.size) (by simp)
  have hb6 := hb5.grown g6 (hb5.size) (by simp)
  have hb7 := hb6.grown g7 (hb6.size) (by simp)
  have HO : Hid (FnsAt w7 w.heap.size) := o7
  have HB := Lib.hid hb7
  clear o1 g1 hb1 o2 g2 hb2 o3 g3 hb3 o4 g4 hb4 o5 g5 hb5 o6 g6 hb6 o7 g7 hb7 o0 hm
  go_enter Tryd.func20, Tryd.ntmps20
  go_wp2
  go_ret
  exact ⟨_, rfl, HO.out, Nat.le_refl _, HB.out⟩
end Go.Proofs.YtpfefjfpnmchcaaDoor
namespace Go.Proofs.YtpfefjfpnmchcaaDoor
open Go.RowKit

/-- Tokens that end with the end, and not too many; their texts are short. -/
def Good (ts : List Tok) : Prop := (ts.length ≤ 2001 ∧ ∀ t ∈ ts, t.text.length ≤ 4000) ∧ ∃ L n, ts = L ++ [⟨0, n, [], 0⟩]
theorem Good.cons {ts : List Tok} (h : Good ts) : ∃ t rest, ts = t :: rest := by
  obtain ⟨_, L, n, rfl⟩ := h
  cases L with
  | nil => exact ⟨_, _, rfl⟩
  | cons t L => exact ⟨t, _, rfl⟩
theorem Good.tail {t : Tok} {rest : List Tok} (h : Good (t :: rest)) (ht : t.kind ≠ 0 ∨ t.text ≠ []) : Good rest := by
  obtain ⟨hl, L, n, e⟩ := h
  cases L with
  | nil =>
    simp only [List.nil_append, List.cons.injEq] at e
    rw [e.1] at ht
    simp at ht
  | cons x L =>
    simp only [List.cons_append, List.cons.injEq] at e
    exact ⟨⟨by have := hl.1; simp only [List.length_cons] at this; omega, fun t ht => hl.2 t (List.mem_cons_of_mem _ ht)⟩, L, n, e.2⟩

/-- Where the parser, the tokens and the map lie. -/
structure Pm where
  P : Nat
  T : Nat
  M : Nat
/-- The package's variable holds the operators, each with its rank. -/
def opersA : Array Value := #[.string ⟨#[43]⟩, .int .i64 3, .string ⟨#[45]⟩, .int .i64 3, .string ⟨#[42]⟩, .int .i64 4, .string ⟨#[47]⟩, .int .i64 4, .string ⟨#[37]⟩, .int .i64 4, .string ⟨#[38]⟩, .int .i64 2, .string ⟨#[124]⟩, .int .i64 2, .string ⟨#[94]⟩, .int .i64 2, .string ⟨#[60]⟩, .int .i64 1, .string ⟨#[60, 61]⟩, .int .i64 1, .string ⟨#[61, 61]⟩, .int .i64 1, .string ⟨#[33, 61]⟩, .int .i64 1]
def OpersAt (w : World) : Prop := ∃ t fr, w.heap[2]? = some (.cells opersA t fr)
structure PsAt (m : Pm) (w : World) (nest : Nat) (ts : List Tok) : Prop where
  at_ : ∃ o c, w.heap[m.P]? = some (.cells #[.slice (some ⟨m.T, o, none⟩) ts.length c, .int .i64 nest, .map (some m.M)] 68 (0, 0)) ∧ ts.length ≤ c ∧ c ≤ maxLen ∧
    ∀ k t, ts[k]? = some t → w.cell? ⟨m.T, o + k * 4, none⟩ = some (.int .i64 t.kind) ∧ w.cell? ⟨m.T, o + (k * 4 + 1), none⟩ = some (.int .i64 t.line) ∧ w.cell? ⟨m.T, o + (k * 4 + 2), none⟩ = some (.string ⟨t.text.toArray⟩) ∧ w.cell? ⟨m.T, o + (k * 4 + 3), none⟩ = some (.int .i64 t.num)
  tok : m.T < w.heap.size ∧ m.T ≠ m.P
  map : m.M < w.heap.size ∧ m.M ≠ m.P
  fns : FnsAt w m.M
  ops : OpersAt w
  above : 2 < m.P
  good : Good ts

/-- All blocks but one are as they were. -/
structure Keeps (P : Nat) (w w' : World) : Prop where
  os : w'.os = w.os
  tape : w'.tape = w.tape
  output : w'.output = w.output
  size : w.heap.size ≤ w'.heap.size
  block : ∀ b, b < w.heap.size → b ≠ P → w'.heap[b]? = w.heap[b]?
section
variable {P B nest : Nat} {w w' w'' : World} {m : Pm} {ts : List Tok}
theorem Keeps.refl (P : Nat) (w : World) : Keeps P w w := ⟨rfl, rfl, rfl, Nat.le_refl _, fun _ _ _ => rfl⟩
theorem Keeps.trans (h : Keeps P w w') (k : Keeps P w' w'') : Keeps P w w'' :=
  ⟨k.os.trans h.os, k.tape.trans h.tape, k.output.trans h.output, Nat.le_trans h.size k.size, fun b hb hP => (k.block b (Nat.lt_of_lt_of_le hb h.size) hP).trans (h.block b hb hP)⟩
theorem Keeps.held (h : Keeps P w w') {N : Nat} {o : Obj} (hN : N ≠ P) (hw : w.heap[N]? = some o) : w'.heap[N]? = some o := (h.block N (Array.getElem?_eq_some_iff.1 hw).1 hN).trans hw
theorem held_alloc {N : Nat} {o : Obj} (x : Obj) (hw : w.heap[N]? = some o) : (w.alloc x).heap[N]? = some o := (heap_alloc_old w x (Array.getElem?_eq_some_iff.1 hw).1).trans hw
theorem Keeps.below (h : Below w.heap.size w w') : Keeps P w w' := ⟨h.os, h.tape, h.output, h.size, fun b hb _ => h.block b hb⟩
theorem Keeps.cell (h : Keeps P w w') {b o : Nat} (hb : b < w.heap.size) (hP : b ≠ P) : w'.cell? ⟨b, o, none⟩ = w.cell? ⟨b, o, none⟩ := World.cell?_of_block (w := w) (h.block b hb hP)
theorem stays_alloc {p : Nat → Prop} (o : Obj) : Stays p p w (w.alloc o) := fun _ hb hp => ⟨hp, heap_alloc_old w o hb⟩
theorem Keeps.drew (h : Keeps P w w') : Keeps P w w'.drew := ⟨h.os, h.tape, h.output, h.size, h.block⟩
theorem Keeps.stays (h : Keeps P w w') (hP : P < B) : Stays (fun b => B ≤ b) (fun b => B ≤ b) w w' := fun b hb hp => ⟨hp, h.block b hb (by omega)⟩
theorem Keeps.stays_of {p : Nat → Prop} (h : Keeps P w w') (hp : ∀ b, p b → b ≠ P) : Stays p p w w' := fun b hb hpb => ⟨hpb, h.block b hb (hp b hpb)⟩
theorem Keeps.set (h : Keeps P w w') (o : Nat) (v : Value) : Keeps P w (w'.setCell ⟨P, o, none⟩ v) :=
  ⟨h.os, h.tape, h.output, by simp [World.setCell]; exact h.size, fun b hb hP => (heap_setCell_other w' ⟨P, o, none⟩ b _ (by show b ≠ P; exact hP)).trans (h.block b hb hP)⟩
/-- A block of its own is turned as well. -/
theorem Keeps.new (h : Keeps P w w') {N : Nat} (hN : w.heap.size ≤ N) (o : Nat) (v : Value) : Keeps P w (w'.setCell ⟨N, o, none⟩ v) :=
  ⟨h.os, h.tape, h.output, by simp [World.setCell]; exact h.size, fun b hb hP => (heap_setCell_other w' ⟨N, o, none⟩ b _ (by show b ≠ N; omega)).trans (h.block b hb hP)⟩
theorem Keeps.alloc (h : Keeps P w w') (o : Obj) : Keeps P w (w'.alloc o) :=
  ⟨h.os, h.tape, h.output, by rw [World.size_alloc]; have := h.size; omega, fun b hb hP => (heap_alloc_old w' o (Nat.lt_of_lt_of_le hb h.size)).trans (h.block b hb hP)⟩
theorem Keeps.grown (h : Keeps P w w') {row : Option Nat} (hg : w'.grownBy w'' row) (hrow : ∀ g, row = some g → w.heap.size ≤ g) : Keeps P w w'' :=
  ⟨hg.os.trans h.os, hg.tape.trans h.tape, hg.output.trans h.output, Nat.le_trans h.size hg.size, fun b hb hP => (hg.block b (Nat.lt_of_lt_of_le hb h.size) (fun e => by have := hrow b e.symm; omega)).trans (h.block b hb hP)⟩
theorem PsAt.lt (h : PsAt m w nest ts) : m.P < w.heap.size := by
  obtain ⟨o, c, hb, _⟩ := h.at_
  exact (Array.getElem?_eq_some_iff.1 hb).1
/-- Nothing of the parser's is touched. -/
theorem PsAt.kept (h : PsAt m w nest ts) (hs : w.heap.size ≤ w'.heap.size) (hk : ∀ b, b = m.P ∨ b = m.T ∨ b = m.M ∨ b = 2 → w'.heap[b]? = w.heap[b]?) : PsAt m w' nest ts := by
  obtain ⟨⟨o, c, hb, h1, h2, h3⟩, ht, hm, hf, ⟨ot, ofr, ho⟩, ha, hg⟩ := h
  refine ⟨⟨o, c, (hk _ (.inl rfl)).trans hb, h1, h2, fun k t hkt => ?_⟩, ⟨Nat.lt_of_lt_of_le ht.1 hs, ht.2⟩, ⟨Nat.lt_of_lt_of_le hm.1 hs, hm.2⟩, hf.keep (hk _ (.inr (.inr (.inl rfl)))), ⟨ot, ofr, (hk _ (.inr (.inr (.inr rfl)))).trans ho⟩, ha, hg⟩
  obtain ⟨a1, a2, a3, a4⟩ := h3 k t hkt
  have hc : ∀ x, w'.cell? ⟨m.T, x, none⟩ = w.cell? ⟨m.T, x, none⟩ := fun x => World.cell?_of_block (w := w) (hk _ (.inr (.inl rfl)))
  exact ⟨(hc _).trans a1, (hc _).trans a2, (hc _).trans a3, (hc _).trans a4⟩
theorem PsAt.below (h : PsAt m w nest ts) (hb : Below w.heap.size w w') : PsAt m w' nest ts := h.kept hb.size fun b hx => hb.block b (by
  rcases hx with rfl | rfl | rfl | rfl
  · exact h.lt
  · exact h.tok.1
  · exact h.map.1
  · exact Nat.lt_trans h.above h.lt)
theorem PsAt.alloc (h : PsAt m w nest ts) (o : Obj) : PsAt m (w.alloc o) nest ts := h.below ((Below.refl _ _).alloc (Nat.le_refl _) o)
theorem PsAt.new (h : PsAt m w nest ts) {N : Nat} (hN : m.P < N ∧ m.T < N ∧ m.M < N) (o : Nat) (v : Value) : PsAt m (w.setCell ⟨N, o, none⟩ v) nest ts :=
  h.kept (by simp [World.setCell]) fun b hx => heap_setCell_other w ⟨N, o, none⟩ b _ (by show b ≠ N; have := h.above; rcases hx with rfl | rfl | rfl | rfl <;> omega)
theorem PsAt.grown (h : PsAt m w nest ts) {row : Option Nat} (hg : w.grownBy w' row) (hrow : ∀ g, row = some g → m.P < g ∧ m.T < g ∧ m.M < g) : PsAt m w' nest ts :=
  h.kept hg.size fun b hx => hg.block b (by
    rcases hx with rfl | rfl | rfl | rfl
    · exact h.lt
    · exact h.tok.1
    · exact h.map.1
    · exact Nat.lt_trans h.above h.lt) (fun e => by have := hrow b e.symm; have := h.above; rcases hx with rfl | rfl | rfl | rfl <;> omega)
end

/-- The cells of the parser and of the next token. -/
structure HeadAt (m : Pm) (w : World) (nest : Nat) (t : Tok) (n o c : Nat) : Prop where
  p0 : w.cell? ⟨m.P, 0, none⟩ = some (.slice (some ⟨m.T, o, none⟩) (n + 1) c)
  p1 : w.cell? ⟨m.P, 1, none⟩ = some (.int .i64 nest)
  p2 : w.cell? ⟨m.P, 2, none⟩ = some (.map (some m.M))
  t0 : w.cell? ⟨m.T, o, none⟩ = some (.int .i64 t.kind)
  t1 : w.cell? ⟨m.T, o + 1, none⟩ = some (.int .i64 t.line)
  t2 : w.cell? ⟨m.T, o + 2, none⟩ = some (.string ⟨t.text.toArray⟩)
  t3 : w.cell? ⟨m.T, o + 3, none⟩ = some (.int .i64 t.num)
  len : n + 1 ≤ c
  cap : c ≤ maxLen
  f0 : w.frozen? ⟨m.P, 0, none⟩ = false
  f1 : w.frozen? ⟨m.P, 1, none⟩ = false
theorem PsAt.head {m : Pm} {w : World} {nest : Nat} {t : Tok} {rest : List Tok} (h : PsAt m w nest (t :: rest)) : ∃ o c, HeadAt m w nest t rest.length o c ∧
    (Good rest → PsAt m (w.setCell ⟨m.P, 0, none⟩ (.slice (some ⟨m.T, o + 4, none⟩) rest.length (c - 1))) nest rest) := by
  obtain ⟨⟨o, c, hb, h1, h2, h3⟩, ht, hm, hf, ⟨ot, ofr, ho⟩, ha, hg⟩ := h
  obtain ⟨a1, a2, a3, a4⟩ := h3 0 t rfl
  simp only [Nat.zero_mul, Nat.zero_add, Nat.add_zero] at a1 a2 a3 a4
  have hfz : ∀ x, w.frozen? ⟨m.P, x, none⟩ = false := fun x => by
    rw [World.frozen?]
    simp only [hb]
    simp
  refine ⟨o, c, ⟨by rw [cell_of_row w m.P 0 _ _ _ hb]; rfl, by rw [cell_of_row w m.P 1 _ _ _ hb]; rfl, by rw [cell_of_row w m.P 2 _ _ _ hb]; rfl, a1, a2, a3, a4, by simpa using h1, h2, hfz 0, hfz 1⟩, fun hgr => ?_⟩
  have hk : ∀ b, b ≠ m.P → (w.setCell ⟨m.P, 0, none⟩ (.slice (some ⟨m.T, o + 4, none⟩) rest.length (c - 1))).heap[b]? = w.heap[b]? := fun b hb' => heap_setCell_other w ⟨m.P, 0, none⟩ b _ hb'
  refine ⟨⟨o + 4, c - 1, heap_setCell_same w m.P 0 _ _ _ hb, by simp only [List.length_cons] at h1; omega, by omega, fun k u hku => ?_⟩, ⟨by simpa [World.setCell] using ht.1, ht.2⟩, ⟨by simpa [World.setCell] using hm.1, hm.2⟩, hf.keep (hk _ hm.2), ⟨ot, ofr, (hk _ (by omega)).trans ho⟩, ha, hgr⟩
  obtain ⟨b1, b2, b3, b4⟩ := h3 (k + 1) u (by simpa using hku)
  have hc : ∀ x, (w.setCell ⟨m.P, 0, none⟩ (.slice (some ⟨m.T, o + 4, none⟩) rest.length (c - 1))).cell? ⟨m.T, x, none⟩ = w.cell? ⟨m.T, x, none⟩ := fun x => World.cell?_of_block (w := w) (hk m.T ht.2)
  rw [hc, hc, hc, hc]
  have e : ∀ j, o + 4 + (k * 4 + j) = o + ((k + 1) * 4 + j) := fun j => by omega
  refine ⟨?_, ?_, ?_, ?_⟩
  · rw [← b1]; congr 2; omega
  · rw [e]; exact b2
  · rw [e]; exact b3
  · rw [e]; exact b4
theorem PsAt.head_two {m : Pm} {w : World} {nest : Nat} {t t' : Tok} {rest : List Tok} (h : PsAt m w nest (t :: t' :: rest)) : ∃ o c, HeadAt m w nest t (rest.length + 1) o c ∧ w.cell? ⟨m.T, o + 4, none⟩ = some (.int .i64 t'.kind) ∧ w.cell? ⟨m.T, o + 4 + 2, none⟩ = some (.string ⟨t'.text.toArray⟩) := by
  obtain ⟨o, c, hb, h1, h2, h3⟩ := h.at_
  obtain ⟨a1, a2, a3, a4⟩ := h3 0 t rfl
  obtain ⟨b1, b2, b3, b4⟩ := h3 1 t' rfl
  simp only [Nat.zero_mul, Nat.zero_add, Nat.add_zero, Nat.one_mul] at a1 a2 a3 a4 b1 b3
  have hfz : ∀ x, w.frozen? ⟨m.P, x, none⟩ = false := fun x => by
    rw [World.frozen?]
    simp only [hb]
    simp
  exact ⟨o, c, ⟨by rw [cell_of_row w m.P 0 _ _ _ hb]; rfl, by rw [cell_of_row w m.P 1 _ _ _ hb]; rfl, by rw [cell_of_row w m.P 2 _ _ _ hb]; rfl, a1, a2, a3, a4, by simpa using h1, h2, hfz 0, hfz 1⟩, b1, b3⟩
/-- The number of blocks is turned. -/
theorem PsAt.nested {m : Pm} {w : World} {nest : Nat} {ts : List Tok} (h : PsAt m w nest ts) (k : Nat) : PsAt m (w.setCell ⟨m.P, 1, none⟩ (.int .i64 k)) k ts := by
  obtain ⟨⟨o, c, hb, h1, h2, h3⟩, ht, hm, hf, ⟨ot, ofr, ho⟩, ha, hg⟩ := h
  have hk : ∀ b, b ≠ m.P → (w.setCell ⟨m.P, 1, none⟩ (.int .i64 k)).heap[b]? = w.heap[b]? := fun b hb' => heap_setCell_other w ⟨m.P, 1, none⟩ b _ hb'
  refine ⟨⟨o, c, heap_setCell_same w m.P 1 _ _ _ hb, h1, h2, fun j u hju => ?_⟩, ⟨by simpa [World.setCell] using ht.1, ht.2⟩, ⟨by simpa [World.setCell] using hm.1, hm.2⟩, hf.keep (hk _ hm.2), ⟨ot, ofr, (hk _ (by omega)).trans ho⟩, ha, hg⟩
  have hc : ∀ x, (w.setCell ⟨m.P, 1, none⟩ (.int .i64 k)).cell? ⟨m.T, x, none⟩ = w.cell? ⟨m.T, x, none⟩ := fun x => World.cell?_of_block (w := w) (hk m.T ht.2)
  rw [hc, hc, hc, hc]
  exact h3 j u hju

/-- What a row that is newer than the parser has grown by. -/
theorem PsAt.grew {m : Pm} {w0 w w' : World} {nest k : Nat} {ts ts0 : List Tok} (h : PsAt m w nest ts) (h0 : PsAt m w0 k ts0) {row : Option Nat} (hg : w.grownBy w' row) (hrow : ∀ g, row = some g → w0.heap.size ≤ g) : PsAt m w' nest ts :=
  h.grown hg fun g hgr => by
    have := hrow g hgr
    have h1 := h0.lt
    have h2 := h0.tok.1
    have h3 := h0.map.1
    omega

/-- What a method panics with. -/
def refusal (l k : Nat) : PanicEntry := { v := .iface 62 (.agg #[.int .i64 l, .int .i64 k]), recovered := false }
/-- What a method ends with, where the plain one ends with R. -/
def Out {α : Type} (m : Pm) (w : World) (nest : Nat) (V : World → Value → α → Prop) (R : Res α) (e : Ending) (w' : World) : Prop :=
  match R with
  | .ok x ts => ∃ v, e = .returned v ∧ V w' v x ∧ PsAt m w' nest ts ∧ Keeps m.P w w'
  | .err l k => e = .panicked [refusal l k] ∧ Keeps m.P w w'
  | .out => False
section
variable {α : Type} {m : Pm} {w w' : World} {nest : Nat} {V : World → Value → α → Prop} {R : Res α} {e : Ending}
theorem Out.go (h : Out m w nest V R e w') : (∃ l k, R = .err l k ∧ e = .panicked [refusal l k] ∧ Keeps m.P w w') ∨ (∃ x ts v, R = .ok x ts ∧ e = .returned v ∧ V w' v x ∧ PsAt m w' nest ts ∧ Keeps m.P w w') := by
  cases R with
  | ok x ts =>
    obtain ⟨v, h1, h2, h3, h4⟩ := h
    exact .inr ⟨x, ts, v, rfl, h1, h2, h3, h4⟩
  | err l k => exact .inl ⟨l, k, rfl, h.1, h.2⟩
  | out => exact h.elim
theorem Res.fails {β : Type} {R1 : Res β} {f : β → List Tok → Res α} {l k : Nat} (hb : R1.bind f = R) (h1 : R1 = .err l k) : R = .err l k := by rw [← hb, h1]; rfl
theorem Res.bind_assoc {β γ : Type} (R1 : Res β) (f : β → List Tok → Res γ) (g : γ → List Tok → Res α) : (R1.bind f).bind g = R1.bind (fun v ts => (f v ts).bind g) := by cases R1 <;> rfl
theorem Res.live {β : Type} {R1 : Res β} {f : β → List Tok → Res α} (hb : R1.bind f = R) (hne : R ≠ .out) : R1 ≠ .out := by
  rintro rfl
  exact hne hb.symm
theorem out_err {l k : Nat} (hR : R = .err l k) (hk : Keeps m.P w w') : Out m w nest V R (.panicked [refusal l k]) w' := by
  subst hR
  exact ⟨rfl, hk⟩
theorem out_ok {x : α} {ts : List Tok} {v : Value} (hR : R = .ok x ts) (hv : V w' v x) (h : PsAt m w' nest ts) (hk : Keeps m.P w w') : Out m w nest V R (.returned v) w' := by
  subst hR
  exact ⟨v, rfl, hv, h, hk⟩
/-- What has been read behind a part that is read well. -/
theorem Res.behind {β : Type} {R1 : Res β} {f : β → List Tok → Res α} {x : β} {ts : List Tok} (hb : R1.bind f = R) (h1 : R1 = .ok x ts) : f x ts = R := by rw [← hb, h1]; rfl
end
end Go.Proofs.YtpfefjfpnmchcaaDoor
namespace Go.Proofs.YtpfefjfpnmchcaaDoor

theorem info_of {P : Program} {t : TypeId} {z : Value} {size bytes : Nat} (h : (P.info? t).map (fun i => (i.zero, i.size, i.bytes)) = some (some z, size, bytes)) : ∃ i : TypeInfo, P.info? t = some i ∧ i.zero = some z ∧ i.size = size ∧ i.bytes = bytes := by
  cases hi : P.info? t with
  | none => rw [hi] at h; exact absurd h (by simp)
  | some i =>
    rw [hi] at h
    simp only [Option.map_some, Option.some.injEq, Prod.mk.injEq] at h
    exact ⟨i, rfl, h.1, h.2.1, h.2.2⟩
theorem info_str : ∃ i : TypeInfo, Tryd.prog.info? 9 = some i ∧ i.zero = some (.string ⟨#[]⟩) ∧ i.size = 1 ∧ i.bytes = 16 := info_of (by kernel_rfl)
theorem info_ex : ∃ i : TypeInfo, Tryd.prog.info? 51 = some i ∧ i.zero = some (.agg #[.int .i64 0, .int .i64 0, .int .i64 0, .string ⟨#[]⟩, .string ⟨#[]⟩, .slice none 0 0]) ∧ i.size = 6 ∧ i.bytes = 80 := info_of (by kernel_rfl)
theorem info_sm : ∃ i : TypeInfo, Tryd.prog.info? 49 = some i ∧ i.zero = some (.agg #[.int .i64 0, .int .i64 0, .int .i64 0, .string ⟨#[]⟩, .string ⟨#[]⟩, .int .i64 0, .int .i64 0, .slice none 0 0, .string ⟨#[]⟩, .int .i64 0, .slice none 0 0, .slice none 0 0, .slice none 0 0]) ∧ i.size = 13 ∧ i.bytes = 192 := info_of (by kernel_rfl)
theorem info_rec : ∃ i : TypeInfo, Tryd.prog.info? 55 = some i ∧ i.zero = some (.agg #[.string ⟨#[]⟩, .slice none 0 0]) ∧ i.size = 2 ∧ i.bytes = 40 := info_of (by kernel_rfl)
theorem info_fun : ∃ i : TypeInfo, Tryd.prog.info? 46 = some i ∧ i.zero = some (.agg #[.string ⟨#[]⟩, .int .i64 0, .slice none 0 0, .slice none 0 0]) ∧ i.size = 4 ∧ i.bytes = 72 := info_of (by kernel_rfl)
end Go.Proofs.YtpfefjfpnmchcaaDoor
namespace Go.Proofs.YtpfefjfpnmchcaaDoor
open Go.RowKit

/-- The cells vs written into an array from o on. -/
def putCs (cur : Array Value) : Nat → List Value → Array Value
  | _, [] => cur
  | o, v :: r => putCs (cur.setIfInBounds o v) (o + 1) r
theorem putCs_get : ∀ (vs : List Value) (cur : Array Value) (o j : Nat), o + vs.length ≤ cur.size → (putCs cur o vs)[j]? = if j < o then cur[j]? else if j < o + vs.length then vs[j - o]? else cur[j]?
  | [], cur, o, j, h => by
    unfold putCs
    split
    · rfl
    · rw [if_neg (by simp; omega)]
  | v :: r, cur, o, j, h => by
    simp only [List.length_cons] at h
    unfold putCs
    rw [putCs_get r (cur.setIfInBounds o v) (o + 1) j (by rw [Array.size_setIfInBounds]; omega)]
    have hc : (cur.setIfInBounds o v)[j]? = if j = o then some v else cur[j]? := by
      rw [Array.getElem?_setIfInBounds]
      by_cases hjo : j = o
      · subst hjo
        rw [if_pos rfl, if_pos (by omega), if_pos rfl]
      · rw [if_neg (fun e => hjo e.symm), if_neg hjo]
    rw [hc]
    simp only [List.length_cons]
    by_cases h1 : j < o
    · rw [if_pos (by omega), if_neg (by omega), if_pos h1]
    · rw [if_neg h1]
      by_cases h2 : j = o
      · subst h2
        rw [if_pos (by omega), if_pos rfl, if_pos (by omega)]
        simp
      · rw [if_neg (by omega), if_neg h2]
        by_cases h3 : j < o + (r.length + 1)
        · rw [if_pos (by omega), if_pos h3]
          obtain ⟨k, hk⟩ : ∃ k, j - o = k + 1 := ⟨j - o - 1, by omega⟩
          rw [hk, show j - (o + 1) = k by omega]
          rfl
        · rw [if_neg (by omega), if_neg h3]
theorem putCs_all (cur : Array Value) (vs : List Value) (h : vs.length = cur.size) : putCs cur 0 vs = vs.toArray := by
  apply Array.ext_getElem?
  intro j
  rw [putCs_get vs cur 0 j (by omega), if_neg (by omega)]
  simp only [Nat.zero_add, Nat.sub_zero, List.getElem?_toArray]
  split
  · rfl
  · rw [Array.getElem?_eq_none (by omega), List.getElem?_eq_none (by omega)]
theorem heap_setCs (b : Nat) : ∀ (vs : List Value) (o : Nat) (w : World) (cur : Array Value) (e : TypeId), w.heap[b]? = some (.cells cur e (0, 0)) → (w.setCells b o vs).heap[b]? = some (.cells (putCs cur o vs) e (0, 0))
  | [], _, _, _, _, h => h
  | v :: r, o, w, _, e, h => heap_setCs b r (o + 1) _ _ e (heap_setCell_same w b o _ _ v h)
theorem heap_setCs_other (b x : Nat) (hx : x ≠ b) : ∀ (vs : List Value) (o : Nat) (w : World), (w.setCells b o vs).heap[x]? = w.heap[x]?
  | [], _, _ => rfl
  | v :: r, o, w => (heap_setCs_other b x hx r (o + 1) _).trans (heap_setCell_other w ⟨b, o, none⟩ x v hx)
/-- The block N holds other cells, and nothing else is turned. -/
structure SetC (N : Nat) (cs : Array Value) (e : TypeId) (w U : World) : Prop where
  os : U.os = w.os
  tape : U.tape = w.tape
  output : U.output = w.output
  size : U.heap.size = w.heap.size
  at_ : U.heap[N]? = some (.cells cs e (0, 0))
  block : ∀ b, b ≠ N → U.heap[b]? = w.heap[b]?
theorem setCs_same (b : Nat) : ∀ (vs : List Value) (o : Nat) (w : World), (w.setCells b o vs).os = w.os ∧ (w.setCells b o vs).tape = w.tape ∧ (w.setCells b o vs).output = w.output ∧ (w.setCells b o vs).heap.size = w.heap.size
  | [], _, _ => ⟨rfl, rfl, rfl, rfl⟩
  | v :: r, o, w => by
    obtain ⟨h1, h2, h3, h4⟩ := setCs_same b r (o + 1) (w.setCell ⟨b, o, none⟩ v)
    exact ⟨h1, h2, h3, h4.trans (by simp [World.setCell])⟩
theorem setC_cells {w : World} {N : Nat} {old : Array Value} {e : TypeId} {vs : List Value} (h : w.heap[N]? = some (.cells old e (0, 0))) (hl : vs.length = old.size) : SetC N vs.toArray e w (w.setCells N 0 vs) := by
  obtain ⟨h1, h2, h3, h4⟩ := setCs_same N vs 0 w
  exact ⟨h1, h2, h3, h4, by rw [heap_setCs N vs 0 w old e h, putCs_all _ _ hl], fun b hb => heap_setCs_other N b hb vs 0 w⟩
theorem setC_cell {w : World} {N o : Nat} {old : Array Value} {e : TypeId} (v : Value) (h : w.heap[N]? = some (.cells old e (0, 0))) : SetC N (old.setIfInBounds o v) e w (w.setCell ⟨N, o, none⟩ v) :=
  ⟨rfl, rfl, rfl, by simp [World.setCell], heap_setCell_same w N o old _ v h, fun b hb => heap_setCell_other w ⟨N, o, none⟩ b v hb⟩
theorem there_b {w : World} {N : Nat} {old : Array Value} {e : TypeId} {n : Nat} (h : w.heap[N]? = some (.cells old e (0, 0))) (hn : n ≤ old.size) : w.there N 0 n := fun j hj => by
  constructor
  · rw [Nat.zero_add, cell_of_row w N j old e _ h, Array.getElem?_eq_getElem (by omega)]; rfl
  · rw [Nat.zero_add, World.frozen?]; simp only [h]; simp
theorem range_b {w : World} {N : Nat} {cs : Array Value} {e : TypeId} (h : w.heap[N]? = some (.cells cs e (0, 0))) : w.rangeAt N 0 cs.toList := fun j v hv => by
  rw [Nat.zero_add, cell_of_row w N j cs e _ h, ← Array.getElem?_toList]; exact hv

section
variable {P : Program} {ops : Array Oper} {rest : List Oper} {op : Oper} {a : Act} {w : World} {Q : Exit → Act → World → Prop} {K : Act → World → Prop}
/-- A struct is stored whole. -/
theorem wpList_store_all (hgd : op.guard = none) (hds : op.dst = none) (T : TypeId) (x y : Operand) (ho : op.op = .store T x y) {T' : TypeId} (N : Nat) (old cs : Array Value) (hx : a.eval x = .pointer (some ⟨N, 0, none⟩)) (hy : a.eval y = .agg cs)
    (hz : w.heap[N]? = some (.cells old T' (0, 0))) (hs : old.size = cs.size) (hi : (P.info? T).map (·.size) = some cs.size) (h1 : cs.all (·.oneCell') = true) (h : ∀ U, SetC N cs T' w U → wpList P ops Q rest a U) : wpList P ops Q (op :: rest) a w := by
  refine wpList_store_mid hgd T x y ho N 0 cs hx hy (there_b hz (by omega)) hi h1 ?_
  rw [hds]
  exact h _ (by simpa using setC_cells (vs := cs.toList) hz (by rw [Array.length_toList]; omega))
theorem wp_store_all (T : TypeId) (x y : Operand) (ho : op.op = .store T x y) {T' : TypeId} (N : Nat) (old cs : Array Value) (hx : a.eval x = .pointer (some ⟨N, 0, none⟩)) (hy : a.eval y = .agg cs)
    (hz : w.heap[N]? = some (.cells old T' (0, 0))) (hs : old.size = cs.size) (hi : (P.info? T).map (·.size) = some cs.size) (h1 : cs.all (·.oneCell') = true) (h : ∀ U, SetC N cs T' w U → K (a.put op.dst undef) U) : op.wp P a w K Q := by
  refine wp_store_mid T x y ho N 0 cs hx hy (there_b hz (by omega)) hi h1 ?_
  exact h _ (by simpa using setC_cells (vs := cs.toList) hz (by rw [Array.length_toList]; omega))
/-- A value of one cell is stored into a field. -/
theorem run_store_cell (N o : Nat) (ty : TypeId) {T' : TypeId} (cur : Array Value) (v : Value) (hz : w.heap[N]? = some (.cells cur T' (0, 0))) (hlt : o < cur.size) (hi : (P.info? ty).map (·.size) = some 1) (h1 : v.oneCell' = true) : (storeVar ty ⟨N, o, none⟩ v).run P w = .ok () (w.setCell ⟨N, o, none⟩ v) := by
  have hc : v.cells = #[v] := by cases v <;> first | rfl | cases h1
  have := run_storeCells_cells (P := P) N o [v] 0 w (fun j hj => by
    obtain rfl : j = 0 := by simpa using hj
    rw [show o + 0 + 0 = o from rfl, cell_of_row w N o cur T' _ hz, Array.getElem?_eq_getElem hlt]; rfl) (fun j hj => by
    rw [World.frozen?]; simp only [hz]; simp) (fun x hx => by simp at hx; subst hx; exact h1)
  cases hq : P.info? ty with
  | none => simp [hq] at hi
  | some i =>
    have hs : i.size = 1 := by simpa [hq] using hi
    simp only [Nat.add_zero] at this
    simp [storeVar, sizeOf, typeInfo, hq, hc, hs, this]
    rfl
theorem wp_store_cell (hds : op.dst = none) (ty : TypeId) (x y : Operand) (ho : op.op = .store ty x y) {T' : TypeId} (N o : Nat) (cur : Array Value) (v : Value) (hx : a.eval x = .pointer (some ⟨N, o, none⟩)) (hy : a.eval y = v)
    (hz : w.heap[N]? = some (.cells cur T' (0, 0))) (hlt : o < cur.size) (hi : (P.info? ty).map (·.size) = some 1) (h1 : v.oneCell' = true) (h : ∀ U, SetC N (cur.setIfInBounds o v) T' w U → K a U) : op.wp P a w K Q := by
  unfold Oper.wp execOp
  simp only [ho, hx, hy, Instr.storeAt, Instr.sureAddr, Sem.run_bind, Sem.run_pure, Result.andThen_ok, run_store_cell N o ty cur v hz hlt hi h1]
  show K (a.put op.dst undef) _
  rw [hds]
  exact h _ (setC_cell v hz)
theorem wpList_store_cell (hgd : op.guard = none) (hds : op.dst = none) (ty : TypeId) (x y : Operand) (ho : op.op = .store ty x y) {T' : TypeId} (N o : Nat) (cur : Array Value) (v : Value) (hx : a.eval x = .pointer (some ⟨N, o, none⟩)) (hy : a.eval y = v)
    (hz : w.heap[N]? = some (.cells cur T' (0, 0))) (hlt : o < cur.size) (hi : (P.info? ty).map (·.size) = some 1) (h1 : v.oneCell' = true) (h : ∀ U, SetC N (cur.setIfInBounds o v) T' w U → wpList P ops Q rest a U) : wpList P ops Q (op :: rest) a w :=
  wpList_plain hgd fun _ hK => by
    unfold Oper.wp execOp
    simp only [ho, hx, hy, Instr.storeAt, Instr.sureAddr, Sem.run_bind, Sem.run_pure, Result.andThen_ok, run_store_cell N o ty cur v hz hlt hi h1]
    refine hK _ _ ?_
    rw [hds]
    exact h _ (setC_cell v hz)
theorem exec_load_all (T : TypeId) (x : Operand) (ho : op.op = .load T x) {T' : TypeId} (N : Nat) (cs : Array Value) (d : TypeDesc) (hx : a.eval x = .pointer (some ⟨N, 0, none⟩))
    (hz : w.heap[N]? = some (.cells cs T' (0, 0))) (hu : P.underlying T = some d) (hd : d.isRow = true) (hi : (P.info? T).map (·.size) = some cs.size) : (execOp a.eval op).run P w = .ok (.value (.agg cs)) w := by
  have hl := run_loadVar_mid (P := P) w N 0 T cs.toList d (range_b hz) hu hd (by rw [hi, Array.length_toList])
  unfold execOp
  simp only [ho, hx, Instr.loadAt, Instr.sureAddr, Sem.run_bind, Sem.run_pure, Result.andThen_ok, hl]
/-- A struct is loaded whole. -/
theorem wpList_load_all (hgd : op.guard = none) (T : TypeId) (x : Operand) (ho : op.op = .load T x) {T' : TypeId} (N : Nat) (cs : Array Value) (d : TypeDesc) (hx : a.eval x = .pointer (some ⟨N, 0, none⟩))
    (hz : w.heap[N]? = some (.cells cs T' (0, 0))) (hu : P.underlying T = some d) (hd : d.isRow = true) (hi : (P.info? T).map (·.size) = some cs.size) (h : wpList P ops Q rest (a.put op.dst (.agg cs)) w) : wpList P ops Q (op :: rest) a w :=
  wpList_load_mid hgd T x ho N 0 hx cs.toList d (range_b hz) hu hd (by rw [hi, Array.length_toList]) h
theorem wp_load_all (T : TypeId) (x : Operand) (ho : op.op = .load T x) {T' : TypeId} (N : Nat) (cs : Array Value) (d : TypeDesc) (hx : a.eval x = .pointer (some ⟨N, 0, none⟩))
    (hz : w.heap[N]? = some (.cells cs T' (0, 0))) (hu : P.underlying T = some d) (hd : d.isRow = true) (hi : (P.info? T).map (·.size) = some cs.size) (h : K (a.put op.dst (.agg cs)) w) : op.wp P a w K Q :=
  wp_load_mid T x ho N 0 hx cs.toList d (range_b hz) hu hd (by rw [hi, Array.length_toList]) h
theorem ret_all (T : TypeId) {T' : TypeId} (N : Nat) (cs : Array Value) (d : TypeDesc) (hz : w.heap[N]? = some (.cells cs T' (0, 0))) (hu : P.underlying T = some d) (hd : d.isRow = true) (hi : (P.info? T).map (·.size) = some cs.size) : (loadVar T ⟨N, 0, none⟩).run P w = .ok (.agg cs) w := by
  have := run_loadVar_mid (P := P) w N 0 T cs.toList d (range_b hz) hu hd (by rw [hi, Array.length_toList])
  simpa using this
end
section
variable {w w' w0 U : World} {N P nest : Nat} {cs : Array Value} {T : TypeId} {m : Pm} {ts : List Tok}
theorem Keeps.setC (h : Keeps P w0 w) (hN : w0.heap.size ≤ N) (hU : SetC N cs T w U) : Keeps P w0 U :=
  ⟨hU.os.trans h.os, hU.tape.trans h.tape, hU.output.trans h.output, by rw [hU.size]; exact h.size, fun b hb hP => (hU.block b (by omega)).trans (h.block b hb hP)⟩
theorem PsAt.setC (h : PsAt m w nest ts) {w0 : World} {k : Nat} {ts0 : List Tok} (h0 : PsAt m w0 k ts0) (hN : w0.heap.size ≤ N) (hU : SetC N cs T w U) : PsAt m U nest ts := by
  have h1 := h0.lt
  have h2 := h0.tok.1
  have h3 := h0.map.1
  have h4 := h0.above
  exact h.kept (by rw [hU.size]; exact Nat.le_refl _) fun b hb => hU.block b (by rcases hb with rfl | rfl | rfl | rfl <;> omega)
theorem SetC.held (hU : SetC N cs T w U) {b : Nat} {o : Obj} (hb : b ≠ N) (hw : w.heap[b]? = some o) : U.heap[b]? = some o := (hU.block b hb).trans hw
theorem SetC.stays_of {p : Nat → Prop} (hU : SetC N cs T w U) (hp : ∀ b, p b → b ≠ N) : Stays p p w U := fun b _ hpb => ⟨hpb, hU.block b (hp b hpb)⟩
theorem SetC.stays (hU : SetC N cs T w U) {B : Nat} (hN : N < B) : Stays (fun b => B ≤ b) (fun b => B ≤ b) w U := fun b _ hb => ⟨hb, hU.block b (by omega)⟩
/-- The cells of a block of an expression. -/
theorem cells_six {w : World} {N : Nat} {a b c d e f : Value} {T : TypeId} (h : w.heap[N]? = some (.cells #[a, b, c, d, e, f] T (0, 0))) :
    (w.cell? ⟨N, 0, none⟩ = some a ∧ w.cell? ⟨N, 1, none⟩ = some b ∧ w.cell? ⟨N, 2, none⟩ = some c ∧ w.cell? ⟨N, 3, none⟩ = some d ∧ w.cell? ⟨N, 4, none⟩ = some e ∧ w.cell? ⟨N, 5, none⟩ = some f) ∧ (∀ j, w.frozen? ⟨N, j, none⟩ = false) :=
  ⟨⟨by rw [cell_of_row w N 0 _ _ _ h]; rfl, by rw [cell_of_row w N 1 _ _ _ h]; rfl, by rw [cell_of_row w N 2 _ _ _ h]; rfl, by rw [cell_of_row w N 3 _ _ _ h]; rfl, by rw [cell_of_row w N 4 _ _ _ h]; rfl, by rw [cell_of_row w N 5 _ _ _ h]; rfl⟩, fun j => by rw [World.frozen?]; simp only [h]; simp⟩
theorem cells_four {w : World} {N : Nat} {a b c d : Value} {T : TypeId} (h : w.heap[N]? = some (.cells #[a, b, c, d] T (0, 0))) :
    (w.cell? ⟨N, 0, none⟩ = some a ∧ w.cell? ⟨N, 1, none⟩ = some b ∧ w.cell? ⟨N, 2, none⟩ = some c ∧ w.cell? ⟨N, 3, none⟩ = some d) ∧ (∀ j, w.frozen? ⟨N, j, none⟩ = false) :=
  ⟨⟨by rw [cell_of_row w N 0 _ _ _ h]; rfl, by rw [cell_of_row w N 1 _ _ _ h]; rfl, by rw [cell_of_row w N 2 _ _ _ h]; rfl, by rw [cell_of_row w N 3 _ _ _ h]; rfl⟩, fun j => by rw [World.frozen?]; simp only [h]; simp⟩
end
end Go.Proofs.YtpfefjfpnmchcaaDoor
namespace Go.Proofs.YtpfefjfpnmchcaaDoor
open Go.RowKit
section
variable {P : Program} {ops : Array Oper} {Q : Exit → Act → World → Prop} {md : Region.Mode} {S : World → Prop} {L : List Nat}
/-- Whatever comes up: behind the operations of L the world meets S. -/
def wpAnyO (P : Program) (md : Region.Mode) (ops : Array Oper) (Q : Exit → Act → World → Prop) (S : World → Prop) (L : List Nat) : Nat → Array Bool → Act → World → Prop
  | 0, listed, a, w => Region.ready md ops listed = [] ∧ Q .normal a w
  | n + 1, listed, a, w => (Region.ready md ops listed = [] → Q .normal a w) ∧
    ∀ j ∈ Region.ready md ops listed, wpOp P ops Q j (fun a' w' => (j ∈ L → S w') ∧ wpAnyO P md ops Q S L n (listed.setIfInBounds j true) a' w') a w
theorem wpAny_of_O : ∀ (n : Nat) (listed : Array Bool) (a : Act) (w : World), wpAnyO P md ops Q S L n listed a w → wpAny P md ops Q n listed a w
  | 0, _, _, _, h => h
  | n + 1, _, _, _, h => ⟨h.1, fun j hj => wpOp_mono (fun a' w' h' => wpAny_of_O n _ a' w' h'.2) (h.2 j hj)⟩
/-- Number k can't come up ahead of number i: it is i, or it has not come up and waitsO for i. -/
def BehindO (md : Region.Mode) (ops : Array Oper) (listed : Array Bool) (i k : Nat) : Prop := k = i ∨ (listed.getD k false = false ∧ ∃ ok, ops[k]? = some ok ∧ ∃ e ∈ ok.after, Region.binds md e = true ∧ e.on = i)
/-- The same as a Bool. -/
def behindO (md : Region.Mode) (ops : Array Oper) (listed : Array Bool) (i k : Nat) : Bool := k == i || (!(listed.getD k false) && match ops[k]? with
  | some ok => ok.after.any (fun e => Region.binds md e && e.on == i)
  | none => false)
theorem behindO_spec {i k : Nat} {listed : Array Bool} (h : behindO md ops listed i k = true) : BehindO md ops listed i k := by
  unfold behindO at h
  rw [Bool.or_eq_true, beq_iff_eq, Bool.and_eq_true] at h
  rcases h with h | ⟨h1, h2⟩
  · exact .inl h
  · refine .inr ⟨by simpa using h1, ?_⟩
    cases hk : ops[k]? with
    | none => rw [hk] at h2; cases h2
    | some ok =>
      rw [hk] at h2
      obtain ⟨e, he, hb⟩ := Array.any_eq_true'.1 h2
      rw [Bool.and_eq_true, beq_iff_eq] at hb
      exact ⟨ok, rfl, e, he, hb⟩
/-- Every operation outside L that has not come up waitsO for number i, or for one that waitsO for it. -/
def waitsO (md : Region.Mode) (ops : Array Oper) (L : List Nat) (listed : Array Bool) (i : Nat) : Bool :=
  (List.range ops.size).all fun j => L.contains j || listed.getD j true || match ops[j]? with
    | some oj => oj.after.any (fun e => Region.binds md e && behindO md ops listed i e.on)
    | none => true
theorem waitsO_spec {i j : Nat} {oj : Oper} {listed : Array Bool} (h : waitsO md ops L listed i = true) (hj : ops[j]? = some oj) (hL : j ∉ L) (hun : listed.getD j true = false) : ∃ e ∈ oj.after, Region.binds md e = true ∧ BehindO md ops listed i e.on := by
  unfold waitsO at h
  rw [List.all_eq_true] at h
  have h1 := h j (List.mem_range.2 (Array.getElem?_eq_some_iff.1 hj).1)
  rw [hj, hun] at h1
  simp only [Bool.or_eq_true, List.contains_eq_mem, decide_eq_true_eq, hL, false_or, Bool.false_eq_true] at h1
  obtain ⟨e, he, hb⟩ := Array.any_eq_true'.1 h1
  rw [Bool.and_eq_true] at hb
  exact ⟨e, he, hb.1, behindO_spec hb.2⟩
theorem not_waitingO {i j : Nat} {listed : Array Bool} (hi : i ∈ Region.ready md ops listed) (hj : j ∈ Region.ready md ops listed) : ∃ oj, ops[j]? = some oj ∧ ∀ e ∈ oj.after, Region.binds md e = true → e.on ≠ i := by
  obtain ⟨_, oj, hoj, hall⟩ := mem_ready.1 hj
  refine ⟨oj, hoj, fun e he hb heq => ?_⟩
  have h1 := hall e he hb
  have h0 := (mem_ready.1 hi).1
  rw [heq] at h1
  rcases Nat.lt_or_ge i listed.size with h' | h'
  · simp [h'] at h0 h1
    rw [h0] at h1
    cases h1
  · simp [Array.getElem?_eq_none h'] at h1
/-- An operation may be taken first: one of L that yields under S, and for which all outside L wait; or one outside L that yields in whatever world. -/
theorem wpAnyO_first {S' : World → Prop} {i : Nat} {oi : Oper} {v : Value} (hi : ops[i]? = some oi) (hsel : ∀ (j : Nat) (o : Oper) cs b, ops[j]? = some o → o.op ≠ .select cs b)
    (hQ : ∀ c a w, Q (.panic c) (a.put oi.dst v) w → Q (.panic c) a w)
    (hS' : (i ∈ L ∧ S' = S) ∨ (i ∉ L ∧ ∀ w, S' w)) :
    ∀ (n : Nat) (listed : Array Bool) (a : Act) (w : World),
      (∀ j oj, ops[j]? = some oj → j ≠ i → listed.getD j true = false → (∀ e ∈ oj.after, Region.binds md e = true → e.on ≠ i) → oi.apart ops oj = true) →
      (i ∈ L → ∀ j oj, ops[j]? = some oj → j ∉ L → listed.getD j true = false → ∃ e ∈ oj.after, Region.binds md e = true ∧ BehindO md ops listed i e.on) →
      i ∈ Region.ready md ops listed → YieldsIf P ops S' oi v a → S' w →
      wpAnyO P md ops Q S L n (listed.setIfInBounds i true) (a.put oi.dst v) w → wpAnyO P md ops Q S L (n + 1) listed a w := by
  have own : ∀ w, S' w → (i ∈ L → S w) := fun w hw hL => by
    rcases hS' with ⟨_, e⟩ | ⟨h, _⟩
    · rw [← e]; exact hw
    · exact absurd hL h
  intro n
  induction n with
  | zero =>
    intro listed a w _ _ hr hy hS H
    refine ⟨fun h => (by rw [h] at hr; cases hr), fun j hj => ?_⟩
    by_cases hji : j = i
    · subst hji
      exact hy.wpOp hi hS ⟨own w hS, H⟩
    · have h0 := ready_mono hj hji
      rw [H.1] at h0
      cases h0
  | succ n ih =>
    intro listed a w hfree hwait hr hy hS H
    refine ⟨fun h => (by rw [h] at hr; cases hr), fun j hj => ?_⟩
    by_cases hji : j = i
    · subst hji
      exact hy.wpOp hi hS ⟨own w hS, H⟩
    · obtain ⟨oj, hoj, hnot⟩ := not_waitingO hr hj
      have hjun := (mem_ready.1 hj).1
      have h2 := wpOp_putIf hoj (hfree j oj hoj hji hjun hnot) (fun cs b => hsel i oi cs b hi) (fun cs b => hsel j oj cs b hoj) hQ hy (H.2 j (ready_mono hj hji))
      have hnext : ∀ w', (j ∈ L → S w') → S' w' := fun w' hjL => by
        rcases hS' with ⟨hiL, e⟩ | ⟨_, h⟩
        · by_cases hL : j ∈ L
          · rw [e]; exact hjL hL
          · obtain ⟨e', he', hb, hon⟩ := hwait hiL j oj hoj hL hjun
            rcases hon with hon | ⟨hon, _⟩
            · exact absurd hon (hnot e' he' hb)
            · obtain ⟨_, oj', hoj', hall⟩ := mem_ready.1 hj
              rw [hoj] at hoj'
              injection hoj' with hoj'
              subst hoj'
              rw [hall e' he' hb] at hon
              cases hon
        · exact h w'
      have hkeep : ∀ k, (listed.setIfInBounds j true).getD k true = false → listed.getD k true = false := fun k hun => by
        by_cases hjk : j = k
        · subst hjk; exact hjun
        · rw [getD_set_ne true hjk] at hun; exact hun
      refine wpOp_mono (fun a' w' h3 => ⟨h3.2.1, ih (listed.setIfInBounds j true) a' w' (fun k ok hk hki hun hno => hfree k ok hk hki (hkeep k hun) hno) (fun hiL k ok hk hkL hun => by
        obtain ⟨e, he, hb, hon⟩ := hwait hiL k ok hk hkL (hkeep k hun)
        refine ⟨e, he, hb, hon.imp id (fun ⟨h1, ok', hok', e2, he2, hb2, hon2⟩ => ⟨?_, ok', hok', e2, he2, hb2, hon2⟩)⟩
        rw [getD_set_ne false]
        · exact h1
        · intro hje
          rw [← hje, hoj] at hok'
          injection hok' with hok'
          subst hok'
          exact hnot e2 he2 hb2 hon2) (ready_mono hr (Ne.symm hji)) h3.1 (hnext w' h3.2.1) ?_⟩) h2
      rw [Array.setIfInBounds_comm _ _ hji]
      exact h3.2.2
theorem wpAnyO_take {i : Nat} {oi : Oper} {v : Value} {n : Nat} {listed : Array Bool} {a : Act} {w : World} (hi : ops[i]? = some oi)
    (hs : Region.noSelect ops = true) (hf : Region.free md ops listed i = true) (hr : (Region.ready md ops listed).contains i = true) (hL : L.contains i = true) (hw : waitsO md ops L listed i = true)
    (hQ : ∀ c a w, Q (.panic c) (a.put oi.dst v) w → Q (.panic c) a w) (hy : YieldsIf P ops S oi v a) (hS : S w)
    (h : wpAnyO P md ops Q S L n (listed.setIfInBounds i true) (a.put oi.dst v) w) : wpAnyO P md ops Q S L (n + 1) listed a w :=
  wpAnyO_first (S' := S) hi (Region.noSelect_spec hs) hQ (.inl ⟨by simpa using hL, rfl⟩) n listed a w (Region.free_spec hi hf) (fun _ j oj hj hjL hun => waitsO_spec hw hj hjL hun) (by simpa using hr) hy hS h
theorem wpAnyO_late {i : Nat} {oi : Oper} {v : Value} {n : Nat} {listed : Array Bool} {a : Act} {w : World} (hi : ops[i]? = some oi)
    (hs : Region.noSelect ops = true) (hf : Region.free md ops listed i = true) (hr : (Region.ready md ops listed).contains i = true) (hL : L.contains i = false)
    (hQ : ∀ c a w, Q (.panic c) (a.put oi.dst v) w → Q (.panic c) a w) (hy : YieldsIf P ops (fun _ => True) oi v a)
    (h : wpAnyO P md ops Q S L n (listed.setIfInBounds i true) (a.put oi.dst v) w) : wpAnyO P md ops Q S L (n + 1) listed a w :=
  wpAnyO_first (S' := fun _ => True) hi (Region.noSelect_spec hs) hQ (.inr ⟨by simpa using hL, fun _ => trivial⟩) n listed a w (Region.free_spec hi hf) (fun hiL => absurd hiL (by simpa using hL)) (by simpa using hr) hy trivial h
/-- All that may come up, one by one; what follows is shut. -/
def AllO (P : Program) (md : Region.Mode) (ops : Array Oper) (Q : Exit → Act → World → Prop) (S : World → Prop) (L : List Nat) (n : Nat) (listed : Array Bool) (a : Act) (w : World) (rs : List Nat) : Prop :=
  ∀ j ∈ rs, wpOp P ops Q j (fun a' w' => (j ∈ L → S w') ∧ wpAnyO P md ops Q S L n (listed.setIfInBounds j true) a' w') a w
theorem AllO.nil {n : Nat} {listed : Array Bool} {a : Act} {w : World} : AllO P md ops Q S L n listed a w [] := fun _ hj => by cases hj
theorem AllO.cons {n : Nat} {listed : Array Bool} {a : Act} {w : World} {i : Nat} {o : Oper} {rs : List Nat} (ho : ops[i]? = some o)
    (h : ∀ K' : Act → World → Prop, Hid (∀ a w, (i ∈ L → S w) → wpAnyO P md ops Q S L n (listed.setIfInBounds i true) a w → K' a w) → if Region.wanted o (yielded ops a.tmps) = true then Oper.wp P o a w K' Q else K' (a.put o.dst undef) w)
    (hs : AllO P md ops Q S L n listed a w rs) : AllO P md ops Q S L n listed a w (i :: rs) := fun j hj => by
  rcases List.mem_cons.1 hj with rfl | hj
  · exact wpOp_step ho (fun K' hK => h K' (Lib.hid (fun a w h1 h2 => hK a w ⟨h1, h2⟩)))
  · exact hs j hj
theorem wpAnyO_ready {rs : List Nat} {n : Nat} {listed : Array Bool} {a : Act} {w : World} (hr : Region.ready md ops listed = rs) (hne : rs ≠ [])
    (h : AllO P md ops Q S L n listed a w rs) : wpAnyO P md ops Q S L (n + 1) listed a w :=
  ⟨fun h0 => absurd (hr ▸ h0) hne, hr ▸ h⟩
theorem wpAnyO_done {listed : Array Bool} {a : Act} {w : World} (hr : Region.ready md ops listed = []) (h : Q .normal a w) : ∀ n, wpAnyO P md ops Q S L n listed a w
  | 0 => ⟨hr, h⟩
  | _ + 1 => ⟨fun _ => h, by rw [hr]; simp⟩
theorem wp_region_O {id : Nat} {a : Act} {w : World} (hm : P.follows .mixedOrders = true) (h : wpAnyO P .any ops Q S L ops.size (Array.replicate ops.size false) a w.drew) : (Code.region id ops true).wp P Q a w :=
  wp_region_any hm (wpAny_of_O _ _ _ _ h)
end
end Go.Proofs.YtpfefjfpnmchcaaDoor
