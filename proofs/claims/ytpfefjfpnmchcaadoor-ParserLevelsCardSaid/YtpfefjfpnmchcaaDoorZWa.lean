/-
  The plain printer: the text of a program, as chapter 3 gives it. No condition. What a printer leaves as it was: all blocks but its own and rows of bytes. Trees and names in memory stay what they are. No condition. The printer's builder, which is the only field of a struct: copyCheck, WriteString, WriteByte, String. No condition. The printer's add and tabs. Condition: the texts' sizes together are at most 2^47. The printer's operatorOf and rankOf. Condition: the package's variable holds the operators. What the walks of the printer's expressions share. No condition. The walk of the printer's operand. Conditions: the printer in memory, the texts' sizes together at most 2^47. The walks of the printer's list and prefixed. Conditions: the printer in memory, the texts' sizes together at most 2^47.
-/
import Derived.Test.YtpfefjfpnmchcaaDoorZTr
import Derived.Lib.ItoaNum
import Derived.Shelf.Strings.Builder1
import Derived.Tactics
import Derived.RegionTactic
import Derived.Deep.LoopGhost
import Derived.Test.YtpfefjfpnmchcaaDoorZPa
import Derived.WalkSmall
import Derived.Lib.LaidTab
import Derived.Shelf.Strconv.Itoa3
namespace Go.Proofs.YtpfefjfpnmchcaaDoor

/-- The digits of a number, by a number of steps: it evaluates in the kernel. -/
def digs : Nat → Nat → List UInt8
  | 0, u => [UInt8.ofNat (48 + u)]
  | f + 1, u => if u < 10 then [UInt8.ofNat (48 + u)] else digs f (u / 10) ++ [UInt8.ofNat (48 + u % 10)]
theorem digs_eq : ∀ (f u : Nat), u < 10 ^ (f + 1) → digs f u = Lib.decDigits u
  | 0, u, h => by
    rw [Lib.decDigits, dif_pos (by omega)]
    rfl
  | f + 1, u, h => by
    unfold digs
    rw [Lib.decDigits]
    by_cases h10 : u < 10
    · rw [if_pos h10, dif_pos h10]
    · rw [if_neg h10, dif_neg h10, digs_eq f (u / 10) (by rw [Nat.pow_succ] at h; omega)]
def numT (n : Int) : List UInt8 := if n < 0 then 45 :: digs 30 n.natAbs else digs 30 n.toNat
theorem numT_eq (n : Int) (h : n.natAbs < 10 ^ 31) : numT n = Lib.itoa n := by
  unfold numT Lib.itoa
  rw [digs_eq _ _ h, digs_eq _ _ (by omega)]

/-- An operation's sign and rank. -/
def signOf (op : Int) : Option (List UInt8 × Nat) := if 6 ≤ op ∧ op ≤ 17 then opers[(op - 6).toNat]? else none
def Ex.op : Ex → Int | .mk o _ _ _ _ _ => o
def rankEx (e : Ex) : Nat := match signOf e.op with
  | some (_, r) => r
  | none => 5
def paren (b : Bool) (t : List UInt8) : List UInt8 := if b then 40 :: (t ++ [41]) else t
def commas : List (List UInt8) → List UInt8
  | [] => []
  | [x] => x
  | x :: y :: l => x ++ 44 :: 32 :: commas (y :: l)
mutual
def exT : Ex → List UInt8
  | .mk op num _ name field args =>
    if op = 0 then numT num else if op = 1 then name else if op = 2 then name ++ 46 :: field
    else if op = 3 then name ++ 91 :: (commas (exsT args) ++ [93])
    else if op = 4 then 45 :: prefT args
    else if op = 5 then 33 :: prefT args
    else match signOf op with
      | none => []
      | some (s, r) => if args.length = 2 then sideT (max r 2) (r + 1) (32 :: (s ++ [32])) args else []
/-- The texts of a list. -/
def exsT : List Ex → List (List UInt8)
  | [] => []
  | a :: l => exT a :: exsT l
/-- Behind a prefix: in parentheses what is of a lower rank. -/
def prefT : List Ex → List UInt8
  | [] => []
  | a :: l => paren (decide (rankEx a < 5)) (exT a) ++ prefT l
/-- Two sides, the first of one rank at least, the second of another. -/
def sideT (p q : Nat) (s : List UInt8) : List Ex → List UInt8
  | [] => []
  | a :: l => paren (decide (rankEx a < p)) (exT a) ++ (s ++ sideT q q [] l)
end
def valT (func : List UInt8) (args : List Ex) : List UInt8 := if func = [] then commas (exsT args) ++ [59] else func ++ 40 :: (commas (exsT args) ++ [41, 59])
def declT (name type : List UInt8) (len : Int) : List UInt8 :=
  [118, 97, 114, 32] ++ (name ++ ([58, 32] ++ ((if type ≠ [] then type else if len ≠ 0 then [105, 110, 116, 91] ++ (numT len ++ [93]) else [105, 110, 116]) ++ [59])))
def tabsT (n : Nat) : List UInt8 := List.replicate n 9
def Sm.kind : Sm → Int | .mk k _ _ _ _ _ _ _ _ _ _ _ _ => k
def braces (k : Nat) (t : List UInt8) : List UInt8 := [123, 10] ++ (t ++ (tabsT k ++ [125]))
mutual
def smT (k : Nat) : Sm → List UInt8
  | .mk kind _ _ name type len _ target func _ args body els =>
    if kind = 1 then declT name type len
    else if kind = 2 ∨ kind = 3 then (if target = [] then [] else commas (exsT target) ++ [32, 61, 32]) ++ valT func args
    else if kind = 4 then [105, 102, 32] ++ (commas (exsT args) ++ ([32] ++ (braces k (blkT (k + 1) body) ++ (if els = [] then [] else [32, 101, 108, 115, 101, 32] ++ braces k (blkT (k + 1) els)))))
    else if kind = 5 then [119, 104, 105, 108, 101, 32] ++ (commas (exsT args) ++ ([32] ++ braces k (blkT (k + 1) body)))
    else if kind = 6 then [114, 101, 116, 117, 114, 110, 32] ++ valT func args
    else if kind = 7 then [116, 104, 114, 111, 119, 32] ++ valT func args
    else if kind = 8 then [116, 114, 121, 32] ++ (braces k (blkT (k + 1) body) ++ ([32, 99, 97, 116, 99, 104, 32] ++ (name ++ ([32] ++ braces k (blkT (k + 1) els)))))
    else if kind = 9 then [112, 114, 105, 110, 116, 32] ++ valT func args
    else []
def blkT (k : Nat) : List Sm → List UInt8
  | [] => []
  | s :: l => (if s.kind = 10 then [] else tabsT k ++ (smT k s ++ [10])) ++ blkT k l
end
def recT (r : Rec) : List UInt8 := [114, 101, 99, 111, 114, 100, 32] ++ (r.name ++ ([32, 123, 32] ++ (commas r.fields ++ [32, 125, 10])))
def funT (f : Fun) : List UInt8 := [102, 117, 110, 99, 32] ++ (f.name ++ ([40] ++ (commas f.params ++ ([41, 32, 123, 10] ++ (blkT 1 f.body ++ [125, 10])))))
def programT (p : Prg) : List UInt8 := (p.recs.map recT).flatten ++ (p.funs.map funT).flatten
def back : Res Prg → List UInt8
  | .ok p _ => programT p
  | _ => []
/-- known(): the text of func f(a){return (a+1)*2;} -/
theorem known_text : back (parseP 400 [102, 117, 110, 99, 32, 102, 40, 97, 41, 123, 114, 101, 116, 117, 114, 110, 32, 40, 97, 43, 49, 41, 42, 50, 59, 125]) = [102, 117, 110, 99, 32, 102, 40, 97, 41, 32, 123, 10, 9, 114, 101, 116, 117, 114, 110, 32, 40, 97, 32, 43, 32, 49, 41, 32, 42, 32, 50, 59, 10, 125, 10] := by decide +kernel
end Go.Proofs.YtpfefjfpnmchcaaDoor
namespace Go.Proofs.YtpfefjfpnmchcaaDoor
open Go.RowKit

theorem cells_two {w : World} {N : Nat} {a b : Value} {T : TypeId} (h : w.heap[N]? = some (.cells #[a, b] T (0, 0))) : w.cell? ⟨N, 0, none⟩ = some a ∧ w.cell? ⟨N, 1, none⟩ = some b :=
  ⟨by rw [cell_of_row w N 0 _ _ _ h]; rfl, by rw [cell_of_row w N 1 _ _ _ h]; rfl⟩
/-- Types whose rows a printer does not write: neither bytes nor a printer. -/
def Other (T : TypeId) : Prop := T ≠ 5 ∧ T ≠ 76
/-- From B on a printer and its bytes are written; all else is as it was. -/
structure Wr (B : Nat) (w w' : World) : Prop where
  below : Below B w w'
  other : ∀ (b : Nat) (cs : Array Value) (T : TypeId) (fr : Nat × Nat), w.heap[b]? = some (.cells cs T fr) → Other T → w'.heap[b]? = some (.cells cs T fr)
theorem Wr.refl (B : Nat) (w : World) : Wr B w w := ⟨Below.refl _ _, fun _ _ _ _ h _ => h⟩
theorem Wr.trans {B : Nat} {a b c : World} (h : Wr B a b) (k : Wr B b c) : Wr B a c := ⟨h.below.trans k.below, fun x cs T fr hx hT => k.other x cs T fr (h.other x cs T fr hx hT) hT⟩
theorem Wr.alloc {B : Nat} {a b : World} (h : Wr B a b) (hB : B ≤ b.heap.size) (o : Obj) : Wr B a (b.alloc o) :=
  ⟨h.below.alloc hB o, fun x cs T fr hx hT => by
    exact held_alloc o (h.other x cs T fr hx hT)⟩
theorem Wr.size {B : Nat} {a b : World} (h : Wr B a b) : a.heap.size ≤ b.heap.size := h.below.size
theorem Wr.drew {B : Nat} {a b : World} (h : Wr B a b) : Wr B a b.drew := ⟨h.below.drew, h.other⟩
theorem Wr.drewN {B : Nat} {a b : World} (h : Wr B a b) (n : Nat) : Wr B a (b.drewN n) := ⟨⟨h.below.os, h.below.tape, h.below.output, h.below.size, h.below.block⟩, h.other⟩
/-- A block of a printer's is written: a printer's struct. -/
theorem Wr.printer {B P : Nat} {w w' : World} (hB : B ≤ P) {v : Value} {o : Nat} {cs : Array Value} {fr : Nat × Nat} (h : Wr B w w') (hP : w'.heap[P]? = some (.cells cs 76 fr)) : Wr B w (w'.setCell ⟨P, o, none⟩ v) :=
  ⟨h.below.setCell (p := ⟨P, o, none⟩) hB v, fun x cs' T fr' hx hT => by
    have hx' := h.other x cs' T fr' hx hT
    rw [heap_setCell_other w' ⟨P, o, none⟩ x v (fun e => by
      rw [e, show (⟨P, o, none⟩ : Addr).block = P from rfl, hP] at hx'
      injection hx' with hx'
      injection hx' with _ hT' _
      exact hT.2 hT'.symm)]
    exact hx'⟩
theorem Wr.grown {B : Nat} {a w w' : World} {row : Option Nat} (h : Wr B a w) (hg : w.grownBy w' row) (hrow : ∀ k, row = some k → B ≤ k ∧ ∃ cs fr, w.heap[k]? = some (.cells cs 5 fr)) (hB : B ≤ w.heap.size) : Wr B a w' := by
  refine ⟨h.below.grown hg hB fun k hk => (hrow k hk).1, fun x cs T fr hx hT => ?_⟩
  have hx' := h.other x cs T fr hx hT
  rw [hg.block x (Array.getElem?_eq_some_iff.1 hx').1 (fun e => by
    obtain ⟨_, cs', fr', hr⟩ := hrow x e.symm
    rw [hx'] at hr
    injection hr with hr
    injection hr with _ hT' _
    exact hT.1 hT')]
  exact hx'
/-- The block of a row of bytes that is owned. -/
theorem own_bytes {w : World} {B : Nat} {e : TypeId} {size : Nat} {v : Value} {n : Nat} {xs : List Value} (h : w.ownsRow B e size v n xs) : ∀ k, v.ownBlock = some k → B ≤ k ∧ ∃ cs fr, w.heap[k]? = some (.cells cs e fr) := by
  intro k hk
  rcases h.2 with ⟨rfl, _⟩ | ⟨g, cap, cur, rfl, hb, hg, _⟩
  · simp [Value.ownBlock] at hk
  · simp [Value.ownBlock] at hk
    subst hk
    exact ⟨hb, _, _, hg⟩

section
variable {w w' : World} {p : Nat → Prop} {B : Nat} {α : Type}
/-- Whatever the places. -/
def tt : Nat → Prop := fun _ => True
theorem RowIs.wr {P P' : Value → α → Prop} {e : TypeId} {size cap : Nat} {A : Option Addr} {xs : List α} (hs : Wr B w w') (he : Other e) (hP : ∀ v x, P v x → P' v x) (h : RowIs P p w e size A cap xs) : RowIs P' tt w' e size A cap xs := by
  obtain ⟨h1, h2, h3⟩ := h
  refine ⟨h1, h2, fun hx => ?_⟩
  obtain ⟨b, cur, fr, hA, hp, hb, hc⟩ := h3 hx
  refine ⟨b, cur, fr, hA, trivial, hs.other b cur e fr hb he, fun k x hkx => ?_⟩
  obtain ⟨vs, hl, hcell, hPx⟩ := hc k x hkx
  exact ⟨vs, hl, hcell, hP _ _ hPx⟩
theorem other_ex : Other 51 := by unfold Other; decide
theorem other_sm : Other 49 := by unfold Other; decide
theorem other_str : Other 9 := by unfold Other; decide
theorem other_rec : Other 55 := by unfold Other; decide
theorem other_fun : Other 46 := by unfold Other; decide
theorem other_prg : Other 28 := by unfold Other; decide
theorem ExD.wr (hs : Wr B w w') : ∀ {d : Nat} {v : Value} {x : Ex}, ExD w p d v x → ExD w' tt d v x
  | 0, _, _, h => h.elim
  | d + 1, v, .mk op num var nm fld args, h => by
    obtain ⟨A, cap, h1, h2⟩ := h
    exact ⟨A, cap, h1, h2.wr hs other_ex fun v x hv => ExD.wr hs hv⟩
theorem ExsD.wr {d : Nat} {A : Option Addr} {cap : Nat} {xs : List Ex} (h : ExsD w p d A cap xs) (hs : Wr B w w') : ExsD w' tt d A cap xs := RowIs.wr hs other_ex (fun _ _ hv => hv.wr hs) h
theorem SmD.wr (hs : Wr B w w') : ∀ {d : Nat} {v : Value} {x : Sm}, SmD w p d v x → SmD w' tt d v x
  | 0, _, _, h => h.elim
  | d + 1, v, .mk kind line id nm ty len var target fn callee args body els, h => by
    obtain ⟨A1, c1, A2, c2, A3, c3, A4, c4, h1, r1, r2, r3, r4⟩ := h
    exact ⟨A1, c1, A2, c2, A3, c3, A4, c4, h1, RowIs.wr hs other_ex (fun _ _ hv => ExD.wr hs hv) r1, RowIs.wr hs other_ex (fun _ _ hv => ExD.wr hs hv) r2, RowIs.wr hs other_sm (fun _ _ hv => SmD.wr hs hv) r3, RowIs.wr hs other_sm (fun _ _ hv => SmD.wr hs hv) r4⟩
theorem SmsD.wr {d : Nat} {A : Option Addr} {cap : Nat} {xs : List Sm} (h : SmsD w p d A cap xs) (hs : Wr B w w') : SmsD w' tt d A cap xs := RowIs.wr hs other_sm (fun _ _ hv => hv.wr hs) h
theorem ExIs.wr {v : Value} {x : Ex} (h : ExIs w p v x) (hs : Wr B w w') : ExIs w' tt v x := ⟨h.choose, h.choose_spec.wr hs⟩
theorem SmIs.wr {v : Value} {x : Sm} (h : SmIs w p v x) (hs : Wr B w w') : SmIs w' tt v x := ⟨h.choose, h.choose_spec.wr hs⟩
theorem ExsIs.wr {A : Option Addr} {cap : Nat} {xs : List Ex} (h : ExsIs w p A cap xs) (hs : Wr B w w') : ExsIs w' tt A cap xs := RowIs.wr hs other_ex (fun _ _ hv => hv.wr hs) h
theorem SmsIs.wr {A : Option Addr} {cap : Nat} {xs : List Sm} (h : SmsIs w p A cap xs) (hs : Wr B w w') : SmsIs w' tt A cap xs := RowIs.wr hs other_sm (fun _ _ hv => hv.wr hs) h
theorem NamesIs.wr {A : Option Addr} {cap : Nat} {xs : List (List UInt8)} (h : NamesIs p w A cap xs) (hs : Wr B w w') : NamesIs tt w' A cap xs := RowIs.wr hs other_str (fun _ _ hv => hv) h
theorem RecIs.wr {v : Value} {x : Rec} (h : RecIs w p v x) (hs : Wr B w w') : RecIs w' tt v x := by
  obtain ⟨A, c, h1, h2⟩ := h
  exact ⟨A, c, h1, h2.wr hs⟩
theorem FunIs.wr {v : Value} {x : Fun} (h : FunIs w p v x) (hs : Wr B w w') : FunIs w' tt v x := by
  obtain ⟨A, c, A', c', h1, h2, h3⟩ := h
  exact ⟨A, c, A', c', h1, h2.wr hs, h3.wr hs⟩
theorem PrgIs.wr {v : Value} {x : Prg} (h : PrgIs w p v x) (hs : Wr B w w') : PrgIs w' tt v x := by
  obtain ⟨A, c, A', c', h1, h2, h3⟩ := h
  exact ⟨A, c, A', c', h1, h2.wr hs other_rec (fun _ _ hv => hv.wr hs), h3.wr hs other_fun (fun _ _ hv => hv.wr hs)⟩
end

/-- The printer at P has written the text l, in rows from B on. -/
def Tx (B P : Nat) (l : List UInt8) (w : World) : Prop := B ≤ P ∧ ∃ p v, w.heap[P]? = some (.cells #[p, v] 76 (0, 0)) ∧ (p = .pointer none ∨ p = .pointer (some ⟨P, 0, none⟩)) ∧ w.ownsRow B 5 1 v l.length (Lib.byteCells l) ∧ v.ownBlock ≠ some P
theorem Tx.lt {B P : Nat} {l : List UInt8} {w : World} (h : Tx B P l w) : P < w.heap.size := by
  obtain ⟨_, p, v, hb, _⟩ := h
  exact (Array.getElem?_eq_some_iff.1 hb).1
theorem Tx.base {B P : Nat} {l : List UInt8} {w : World} (h : Tx B P l w) : B ≤ w.heap.size := by have := h.lt; have := h.1; omega
theorem Tx.alloc {B P : Nat} {l : List UInt8} {w : World} (h : Tx B P l w) (o : Obj) : Tx B P l (w.alloc o) := by
  obtain ⟨hB, p, v, hb, hp, hown, hne⟩ := h
  exact ⟨hB, p, v, held_alloc o hb, hp, hown.alloc o, hne⟩
theorem Tx.drew {B P : Nat} {l : List UInt8} {w : World} (h : Tx B P l w) : Tx B P l w.drew := h
end Go.Proofs.YtpfefjfpnmchcaaDoor
namespace Go.Proofs.YtpfefjfpnmchcaaDoor
open Go.RowKit

set_option maxRecDepth 100000 in
theorem copy_fresh {w : World} (P : Nat) (v : Value) (h : w.heap[P]? = some (.cells #[.pointer none, v] 76 (0, 0))) :
    Calls Tryd.prog 60 #[.pointer (some ⟨P, 0, none⟩)] w fun e w' => e = .returned (.tuple #[]) ∧ w' = w.setCell ⟨P, 0, none⟩ (.pointer (some ⟨P, 0, none⟩)) := by
  obtain ⟨c0, c1⟩ := cells_two h
  obtain ⟨j, hj, hjs⟩ := Option.map_eq_some_iff.1 (by kernel_rfl : (Tryd.prog.info? 74).map (·.size) = some 2)
  have hsh : w.shape? P = some (76, 2) := by simp [World.shape?, h]
  have hfz : w.frozen? ⟨P, 0, none⟩ = false := by rw [World.frozen?]; simp only [h]; simp
  go_enter Tryd.func60, Tryd.ntmps60
  go_wp2
  rw [Lib.run_to_unsafe w ⟨P, 0, none⟩ Tryd.underlying71 Tryd.underlying122 hj (by rw [hjs]; decide) hsh (Nat.zero_lt_succ 1)]
  simp only [Result.andThen]
  rw [Oper.upon_value]
  go_wp2
  rw [run_callFunc_extern Tryd.func75 (by kernel_rfl) (by kernel_rfl) (by kernel_rfl) (e := Extern.AbiNoEscape.same) (by kernel_rfl)]
  rw [Lib.run_noEscape]
  simp only [Result.andThen]
  rw [Oper.upon_value]
  go_wp2
  rw [Lib.run_from_unsafe w ⟨P, 0, none⟩ Tryd.underlying122 Tryd.underlying71 hj hsh (by kernel_rfl)]
  simp only [Result.andThen]
  rw [Oper.upon_value]
  go_wp2
  go_end0
  exact ⟨rfl, rfl⟩
set_option maxRecDepth 100000 in
theorem copy_used {w : World} (P : Nat) (v : Value) (h : w.heap[P]? = some (.cells #[.pointer (some ⟨P, 0, none⟩), v] 76 (0, 0))) :
    Calls Tryd.prog 60 #[.pointer (some ⟨P, 0, none⟩)] w fun e w' => e = .returned (.tuple #[]) ∧ w' = w := by
  obtain ⟨c0, c1⟩ := cells_two h
  obtain ⟨j, hj, hjs⟩ := Option.map_eq_some_iff.1 (by kernel_rfl : (Tryd.prog.info? 74).map (·.size) = some 2)
  go_enter Tryd.func60, Tryd.ntmps60
  go_wp2
  rw [Lib.run_neq_ptr_same w _ Tryd.underlying71 hj]
  go_wp2
  go_end0
  exact ⟨rfl, rfl⟩
/-- The printer at P, used already. -/
def TxU (B P : Nat) (l : List UInt8) (w : World) : Prop := Lib.BuilderAt 76 5 B P (.pointer (some ⟨P, 0, none⟩)) (Lib.byteCells l) w
theorem TxU.tx {B P : Nat} {l : List UInt8} {w : World} (h : TxU B P l w) : Tx B P l w := by
  obtain ⟨hB, v, hb, hown, hne⟩ := h
  rw [Lib.byteCells_length] at hown
  exact ⟨hB, _, v, hb, .inr rfl, hown, hne⟩
theorem copy_any {w : World} {B P : Nat} {l : List UInt8} (h : Tx B P l w) :
    Calls Tryd.prog 60 #[.pointer (some ⟨P, 0, none⟩)] w fun e w' => e = .returned (.tuple #[]) ∧ TxU B P l w' ∧ Wr B w w' := by
  obtain ⟨hB, p, v, hb, hp, hown, hne⟩ := h
  rw [← Lib.byteCells_length l] at hown
  rcases hp with rfl | rfl
  · refine (copy_fresh P v hb).mono ?_
    rintro e w' ⟨rfl, rfl⟩
    exact ⟨rfl, Lib.BuilderAt.used ⟨hB, v, hb, hown, hne⟩ _, (Wr.refl B w).printer hB hb⟩
  · refine (copy_used P v hb).mono ?_
    rintro e w' ⟨rfl, rfl⟩
    exact ⟨rfl, ⟨hB, v, hb, hown, hne⟩, Wr.refl B _⟩
set_option maxHeartbeats 1000000 in
set_option maxRecDepth 100000 in
theorem write_string {w : World} {B P : Nat} {l : List UInt8} (s : List UInt8) (h : Tx B P l w) (hlen : l.length + s.length ≤ 140737488355328) :
    Calls Tryd.prog 41 #[.pointer (some ⟨P, 0, none⟩), .string ⟨s.toArray⟩] w fun e w' => e = .returned (.tuple #[.int .i64 s.length, .nilIface]) ∧ Tx B P (l ++ s) w' ∧ Wr B w w' := by
  obtain ⟨i0, hi, hz0, hz1, hz2⟩ := info_parts (by kernel_rfl : (Tryd.prog.info? 5).map (fun i => (i.zero, i.size, i.bytes)) = some (some (.int .u8 0), 1, 1))
  have H := Lib.hid h
  have hBw := h.base
  clear h
  go_enter Tryd.func41, Tryd.ntmps41
  go_wp2_with fail
  refine (copy_any H.out).mono ?_
  rintro e w1 ⟨rfl, h1, hw1⟩
  have hs1 := hw1.size
  obtain ⟨hB, v, hbk, hown, hne⟩ := h1
  rw [Lib.byteCells_length] at hown
  obtain ⟨c0, c1⟩ := cells_two hbk
  go_wp2_with (at_builtin; refine Lib.wpList_append_own_string _ rfl _ _ 72 9 rfl B 5 i0 Tryd.underlying72 Tryd.underlying9 hi hz0 hz1 hz2 _ _ _ rfl hown ⟨s.toArray⟩ rfl ?c3 ?c4 ?c5 ?_)
  case c3 => unfold maxLen; simp [ByteArray.size]; omega
  case c4 => simp [ByteArray.size]; omega
  case c5 => omega
  intro v' w2 hown' hgrow _
  have hlt := (Array.getElem?_eq_some_iff.1 hbk).1
  have hb2 := (hgrow.block P hlt (fun e => hne e.symm)).trans hbk
  obtain ⟨d0, d1⟩ := cells_two hb2
  have f1 : w2.frozen? ⟨P, 1, none⟩ = false := Lib.frozen_of_heap hb2 1
  obtain ⟨ao, n', cap, rfl⟩ : ∃ ao n' cap, v' = .slice ao n' cap := by
    rcases hown'.2 with ⟨hv, _⟩ | ⟨g, cap, cur, hv, _⟩
    · exact ⟨_, _, _, hv⟩
    · exact ⟨_, _, _, hv⟩
  go_wp2
  go_ret2
  refine ⟨by simp, ?_, ?_⟩
  · exact TxU.tx (Lib.BuilderAt.put hB hb2 (bs' := Lib.byteCells (l ++ s)) (by
      rw [Lib.byteCells_append, List.length_append, Lib.byteCells_length, Lib.byteCells_length]
      exact hown') (by decide))
  · exact (hw1.grown hgrow (own_bytes hown) (by omega)).printer hB hb2
set_option maxHeartbeats 1000000 in
set_option maxRecDepth 100000 in
theorem write_byte {w : World} {B P : Nat} {l : List UInt8} (c : UInt8) (h : Tx B P l w) (hlen : l.length + 1 ≤ 140737488355328) :
    Calls Tryd.prog 62 #[.pointer (some ⟨P, 0, none⟩), .int .u8 c.toNat] w fun e w' => e = .returned .nilIface ∧ Tx B P (l ++ [c]) w' ∧ Wr B w w' := by
  obtain ⟨i0, hi, hz0, hz1, hz2⟩ := info_parts (by kernel_rfl : (Tryd.prog.info? 5).map (fun i => (i.zero, i.size, i.bytes)) = some (some (.int .u8 0), 1, 1))
  have H := Lib.hid h
  have hBw := h.base
  clear h
  go_enter Tryd.func62, Tryd.ntmps62
  go_wp2_with fail
  refine (copy_any H.out).mono ?_
  rintro e w1 ⟨rfl, h1, hw1⟩
  have hs1 := hw1.size
  obtain ⟨hB, v, hbk, hown, hne⟩ := h1
  rw [Lib.byteCells_length] at hown
  obtain ⟨c0, c1⟩ := cells_two hbk
  go_wp2_with (at_builtin; refine wpList_append_own _ rfl _ _ 72 rfl B 5 i0 (.int .u8 0) 1 1 Tryd.underlying72 hi hz0 hz1 hz2 rfl (by decide) _ _ _ rfl (hown.alloc _) ⟨w1.heap.size, 0, none⟩ 1 1 [.int .u8 c.toNat] rfl rfl ?c1 ?c2 ?c3 ?c4 ?c5 ?_)
  case c1 =>
    intro k u hk
    match k, hk with
    | 0, hk => simp at hk; subst hk; simp [Addr.add]
  case c2 => intro u hu; simp at hu; subst hu; rfl
  case c3 => unfold maxLen; omega
  case c4 => omega
  case c5 => simp; omega
  intro v' w2 hown' hgrow _
  have hlt := (Array.getElem?_eq_some_iff.1 hbk).1
  have hb2 : w2.heap[P]? = some (.cells #[.pointer (some ⟨P, 0, none⟩), v] 76 (0, 0)) := by
    rw [hgrow.block P (by simp; omega) (fun e => hne e.symm)]
    exact held_alloc _ hbk
  obtain ⟨d0, d1⟩ := cells_two hb2
  have f1 : w2.frozen? ⟨P, 1, none⟩ = false := Lib.frozen_of_heap hb2 1
  obtain ⟨ao, n', cap, rfl⟩ : ∃ ao n' cap, v' = .slice ao n' cap := by
    rcases hown'.2 with ⟨hv, _⟩ | ⟨g, cap, cur, hv, _⟩
    · exact ⟨_, _, _, hv⟩
    · exact ⟨_, _, _, hv⟩
  go_wp2
  go_ret
  refine ⟨rfl, ?_, ?_⟩
  · exact TxU.tx (Lib.BuilderAt.put hB hb2 (bs' := Lib.byteCells (l ++ [c])) (by
      rw [Lib.byteCells_append]
      simpa [Lib.byteCells_length, Lib.byteCells] using hown') (by decide))
  · exact (((hw1.alloc (by omega) _).grown hgrow (own_bytes (hown.alloc _)) (by simp; omega))).printer hB hb2
set_option maxHeartbeats 1000000 in
set_option maxRecDepth 100000 in
theorem builder_text {w : World} {B P : Nat} (l : List UInt8) (h0 : l ≠ []) (h : Tx B P l w) :
    Calls Tryd.prog 25 #[.pointer (some ⟨P, 0, none⟩)] w fun e w' => e = .returned (.string ⟨l.toArray⟩) ∧ Below B w w' := by
  obtain ⟨hB, p, v, hbk, hp, hown, hne⟩ := h
  have hl0 : l.length ≠ 0 := by simpa using h0
  obtain ⟨g, cap, cur, rfl, hbg, hg, hnc, hcm, hcs, htake⟩ : ∃ g cap cur, v = .slice (some ⟨g, 0, none⟩) l.length cap ∧ B ≤ g ∧ w.heap[g]? = some (.cells cur 5 (0, 0)) ∧ l.length ≤ cap ∧ cap ≤ maxLen ∧ cur.size = cap * 1 ∧ cur.toList.take (l.length * 1) = Lib.byteCells l := by
    rcases hown.2 with ⟨_, hz⟩ | ⟨g, cap, cur, hv, r⟩
    · exact absurd hz hl0
    · exact ⟨g, cap, cur, hv, r⟩
  have c1 : w.drew.cell? ⟨P, 1, none⟩ = some (.slice (some ⟨g, 0, none⟩) l.length cap) := (cells_two hbk).2
  have hSD : (Builtin.unsafeSliceData_ #[72] 102 #[.slice (some ⟨g, 0, none⟩) l.length cap]).run Tryd.prog w.drew = .ok (.pointer (some ⟨g, 0, none⟩)) w.drew :=
    Lib.run_unsafeSliceData_row _ _ _ _ _ _ (by omega)
  have hUS : (Builtin.unsafeString_ #[102, 3] 9 #[.pointer (some ⟨g, 0, none⟩), .int .i64 l.length]).run Tryd.prog w.drew = .ok (.string ⟨l.toArray⟩) (w.drew.freeze ⟨g, 0, none⟩ l.length) := by
    refine Lib.run_unsafeString_row w.drew 102 3 9 5 Tryd.underlying102 (by kernel_rfl) g cur.size (by have hg' : w.drew.heap[g]? = some (.cells cur 5 (0, 0)) := hg; simp [World.shape?, hg']) l h0 (by omega) (by unfold maxLen at hcm; omega) ?_
    intro j x hx
    exact hown.cells (g := g) rfl j (.int .u8 x.toNat) (by simp [Lib.byteCells, hx])
  go_enter Tryd.func25, Tryd.ntmps25
  go_wp2
  go_region
  all_goals (go_wp2; go_ret; exact ⟨rfl, Lib.below_freeze (Below.drew (Below.refl B w)) (p := ⟨g, 0, none⟩) hbg _⟩)
end Go.Proofs.YtpfefjfpnmchcaaDoor
namespace Go.Proofs.YtpfefjfpnmchcaaDoor
open Go.RowKit

/-- A row of texts in a block. -/
def strs (parts : List (List UInt8)) : Array Value := (parts.map fun s => (.string ⟨s.toArray⟩ : Value)).toArray
theorem strs_get {parts : List (List UInt8)} {k : Nat} {s : List UInt8} (h : parts[k]? = some s) : (strs parts)[k]? = some (.string ⟨s.toArray⟩) := by
  simp [strs, h]
theorem take_flat {parts : List (List UInt8)} {k : Nat} {s : List UInt8} (h : parts[k]? = some s) : (parts.take (k + 1)).flatten = (parts.take k).flatten ++ s := by
  rw [List.take_add_one, h]
  simp
theorem flat_le (parts : List (List UInt8)) (k : Nat) : (parts.take k).flatten.length ≤ parts.flatten.length := by
  have h := congrArg (fun l : List (List UInt8) => l.flatten.length) (List.take_append_drop k parts)
  simp only [List.flatten_append, List.length_append] at h
  omega
/-- What a method of the printer ends with. -/
def Wrote (B P : Nat) (l : List UInt8) (w : World) (e : Ending) (w' : World) : Prop := e = .returned (.tuple #[]) ∧ Tx B P l w' ∧ Wr B w w'

set_option maxHeartbeats 1000000 in
set_option maxRecDepth 100000 in
theorem add_any {w : World} {B P : Nat} {l : List UInt8} (b c : Nat) (parts : List (List UInt8)) (h : Tx B P l w) (hb : w.heap[b]? = some (.cells (strs parts) 9 (0, 0))) (hc : parts.length ≤ c) (hcm : c ≤ 4096) (hL : l.length + parts.flatten.length ≤ 140737488355328) :
    Calls Tryd.prog 22 #[.pointer (some ⟨P, 0, none⟩), .slice (some ⟨b, 0, none⟩) parts.length c] w (Wrote B P (l ++ parts.flatten) w) := by
  have H := Lib.hid h
  have HB := Lib.hid hb
  clear h hb
  go_enter Tryd.func22, Tryd.ntmps22
  go_wp2_with fail
  go_loopw [8] (fun i wr => ∃ k : Nat, i = .int .i64 k ∧ k ≤ parts.length ∧ Tx B P (l ++ (parts.take k).flatten) wr ∧ Wr B w wr) (fun i _ => parts.length - (intOf i).toNat)
  case atStart => exact ⟨0, rfl, Nat.zero_le _, by simpa using H.out, Wr.refl _ _⟩
  case round =>
    obtain ⟨k, rfl, hk, ht, hw⟩ := hrel
    by_cases hlt : k < parts.length
    · have hks : parts[k]? = some parts[k] := List.getElem?_eq_getElem hlt
      obtain ⟨s, hs⟩ : ∃ s, Hid (parts[k] = s) := ⟨_, Lib.hid rfl⟩
      rw [hs.out] at hks
      have hfl := flat_le parts (k + 1)
      have htk := take_flat hks
      rw [htk, List.length_append] at hfl
      have hcell : wr.cell? ⟨b, k, none⟩ = some (.string ⟨s.toArray⟩) := by
        rw [cell_of_row wr b k _ _ _ (hw.other b _ _ _ HB.out other_str)]
        exact strs_get hks
      have HT := Lib.hid ht
      have HW := Lib.hid hw
      have HK := Lib.hid htk
      have hl2 : (l ++ (parts.take k).flatten).length + s.length ≤ 140737488355328 := by rw [List.length_append]; omega
      have HL := Lib.hid hl2
      clear ht hw hks hs htk hfl hl2
      go_wp2_with fail
      refine (write_string s HT.out HL.out).mono ?_
      rintro e w1 ⟨rfl, h1, hw1⟩
      go_wp2_with fail
      go_roundw
      case rel => exact ⟨k + 1, by go_num, hlt, by rw [HK.out, ← List.append_assoc]; exact h1, HW.out.trans hw1⟩
      case measure => simp [intOf]; omega
    · obtain rfl : k = parts.length := by omega
      go_wp2_with fail
      go_end0
      exact ⟨rfl, by simpa using ht, hw⟩

set_option maxHeartbeats 1000000 in
set_option maxRecDepth 100000 in
theorem tabs_any {w : World} {B P : Nat} {l : List UInt8} (n : Nat) (h : Tx B P l w) (hL : l.length + n ≤ 140737488355328) :
    Calls Tryd.prog 43 #[.pointer (some ⟨P, 0, none⟩), .int .i64 n] w (Wrote B P (l ++ tabsT n) w) := by
  have H := Lib.hid h
  clear h
  go_enter Tryd.func43, Tryd.ntmps43
  go_wp2_with fail
  go_loopw [5] (fun i wr => ∃ k : Nat, i = .int .i64 k ∧ k ≤ n ∧ Tx B P (l ++ tabsT k) wr ∧ Wr B w wr) (fun i _ => n - (intOf i).toNat)
  case atStart => exact ⟨0, rfl, Nat.zero_le _, by simpa [tabsT] using H.out, Wr.refl _ _⟩
  case round =>
    obtain ⟨k, rfl, hk, ht, hw⟩ := hrel
    by_cases hlt : k < n
    · have HT := Lib.hid ht
      have HW := Lib.hid hw
      have hl2 : (l ++ tabsT k).length + 1 ≤ 140737488355328 := by rw [List.length_append, tabsT, List.length_replicate]; omega
      have HL := Lib.hid hl2
      clear ht hw hl2
      go_wp2_with fail
      refine (write_byte 9 HT.out HL.out).mono ?_
      rintro e w1 ⟨rfl, h1, hw1⟩
      go_wp2_with fail
      go_roundw
      case rel => exact ⟨k + 1, by go_num, hlt, by rw [show tabsT (k + 1) = tabsT k ++ [9] from List.replicate_succ', ← List.append_assoc]; exact h1, HW.out.trans hw1⟩
      case measure => simp [intOf]; omega
    · obtain rfl : k = n := by omega
      go_wp2_with fail
      go_end0
      exact ⟨rfl, ht, hw⟩
end Go.Proofs.YtpfefjfpnmchcaaDoor
namespace Go.Proofs.YtpfefjfpnmchcaaDoor
open Go.RowKit

theorem OpersAt.wr {B : Nat} {w w' : World} (h : OpersAt w) (hg : 2 < B) (hw : Wr B w w') : OpersAt w' := by
  obtain ⟨t, fr, h⟩ := h
  exact ⟨t, fr, (hw.below.block _ hg).trans h⟩
/-- What leaves all old blocks as they are, leaves a printer as it is. -/
theorem Tx.still {B P : Nat} {l : List UInt8} {w w' : World} (h : Tx B P l w) (hb : Below w.heap.size w w') : Tx B P l w' := by
  have hlt := h.lt
  obtain ⟨hB, p, v, hk, hp, hown, hne⟩ := h
  refine ⟨hB, p, v, (hb.block P hlt).trans hk, hp, hown.kept (row := none) ⟨hb.os, hb.tape, hb.output, hb.size, fun k hk _ => hb.block k hk⟩ ?_, hne⟩
  cases v.ownBlock <;> simp
theorem Wr.still {B : Nat} {w w' : World} (hB : B ≤ w.heap.size) (hb : Below w.heap.size w w') : Wr B w w' :=
  ⟨hb.mono hB, fun b _ _ _ h _ => (hb.block b (Array.getElem?_eq_some_iff.1 h).1).trans h⟩

theorem oper_cells (k : Nat) (hk : k < 12) : opersA[k * 2]? = some (.string ⟨(operSign k).toArray⟩) ∧ opersA[k * 2 + 1]? = some (.int .i64 (operRank k)) := by
  match k, hk with
  | 0, _ => exact ⟨rfl, rfl⟩
  | 1, _ => exact ⟨rfl, rfl⟩
  | 2, _ => exact ⟨rfl, rfl⟩
  | 3, _ => exact ⟨rfl, rfl⟩
  | 4, _ => exact ⟨rfl, rfl⟩
  | 5, _ => exact ⟨rfl, rfl⟩
  | 6, _ => exact ⟨rfl, rfl⟩
  | 7, _ => exact ⟨rfl, rfl⟩
  | 8, _ => exact ⟨rfl, rfl⟩
  | 9, _ => exact ⟨rfl, rfl⟩
  | 10, _ => exact ⟨rfl, rfl⟩
  | 11, _ => exact ⟨rfl, rfl⟩
  | k + 12, h => exact absurd h (by omega)

set_option maxHeartbeats 1000000 in
set_option maxRecDepth 100000 in
theorem operatorOf_no {w : World} (op num var : Int) (nm fld : ByteArray) (A : Option Addr) (n c : Nat) (h : op < 6 ∨ 17 < op) :
    Calls Tryd.prog 90 #[.agg #[.int .i64 op, .int .i64 num, .int .i64 var, .string nm, .string fld, .slice A n c]] w fun e w' => e = .returned (.tuple #[.agg #[.string ⟨#[]⟩, .int .i64 0], .bool false]) ∧ Below w.heap.size w w' := by
  rcases h with h | h
  · go_enter Tryd.func90, Tryd.ntmps90
    go_wp2_with fail
    go_returns
    exact ⟨rfl, ((Below.refl _ _).alloc (Nat.le_refl _) _).alloc (by simp) _⟩
  · have h' : ¬ op < 6 := by omega
    go_enter Tryd.func90, Tryd.ntmps90
    go_wp2_with fail
    go_returns
    exact ⟨rfl, ((Below.refl _ _).alloc (Nat.le_refl _) _).alloc (by simp) _⟩

set_option maxHeartbeats 1000000 in
set_option maxRecDepth 100000 in
theorem operatorOf_yes {w : World} (k : Nat) (hk : k < 12) (num var : Int) (nm fld : ByteArray) (A : Option Addr) (n c : Nat) (hO : OpersAt w) :
    Calls Tryd.prog 90 #[.agg #[.int .i64 ((k : Int) + 6), .int .i64 num, .int .i64 var, .string nm, .string fld, .slice A n c]] w fun e w' => e = .returned (.tuple #[.agg #[.string ⟨(operSign k).toArray⟩, .int .i64 (operRank k)], .bool true]) ∧ Below w.heap.size w w' := by
  obtain ⟨q0, q1⟩ := oper_cells k hk
  obtain ⟨t, fr, hg⟩ := hO
  have hlt := (Array.getElem?_eq_some_iff.1 hg).1
  have c0 : w.cell? ⟨2, k * 2, none⟩ = some (.string ⟨(operSign k).toArray⟩) := by rw [cell_of_row w _ _ _ _ _ hg]; exact q0
  have c1 : w.cell? ⟨2, k * 2 + 1, none⟩ = some (.int .i64 (operRank k)) := by rw [cell_of_row w _ _ _ _ _ hg]; exact q1
  clear q0 q1 hg
  obtain ⟨sg, hsg⟩ : ∃ sg, Hid (operSign k = sg) := ⟨_, Lib.hid rfl⟩
  obtain ⟨rk, hrk⟩ : ∃ rk, Hid (operRank k = rk) := ⟨_, Lib.hid rfl⟩
  rw [hsg.out] at c0 ⊢
  rw [hrk.out] at c1 ⊢
  have h1 : ¬ ((k : Int) + 6 < 6) := by omega
  have h2 : ¬ (17 < (k : Int) + 6) := by omega
  go_enter Tryd.func90, Tryd.ntmps90
  go_wp2_with fail
  go_returns
  exact ⟨rfl, ((Below.refl _ _).alloc (Nat.le_refl _) _).alloc (by simp) _⟩
/-- The operator of an operation, or none. -/
def opOf (op : Int) : List UInt8 × Nat := (signOf op).getD ([], 0)
theorem signOf_yes (k : Nat) (hk : k < 12) : signOf ((k : Int) + 6) = some (operSign k, operRank k) := by
  match k, hk with
  | 0, _ => rfl
  | 1, _ => rfl
  | 2, _ => rfl
  | 3, _ => rfl
  | 4, _ => rfl
  | 5, _ => rfl
  | 6, _ => rfl
  | 7, _ => rfl
  | 8, _ => rfl
  | 9, _ => rfl
  | 10, _ => rfl
  | 11, _ => rfl
  | k + 12, h => exact absurd h (by omega)
theorem signOf_no (op : Int) (h : op < 6 ∨ 17 < op) : signOf op = none := if_neg (by omega)
theorem operatorOf_any {w : World} (op num var : Int) (nm fld : ByteArray) (A : Option Addr) (n c : Nat) (hO : OpersAt w) :
    Calls Tryd.prog 90 #[.agg #[.int .i64 op, .int .i64 num, .int .i64 var, .string nm, .string fld, .slice A n c]] w fun e w' => e = .returned (.tuple #[.agg #[.string ⟨(opOf op).1.toArray⟩, .int .i64 (opOf op).2], .bool (signOf op).isSome]) ∧ Below w.heap.size w w' := by
  by_cases h : op < 6 ∨ 17 < op
  · have := operatorOf_no (w := w) op num var nm fld A n c h
    rw [opOf, signOf_no op h]
    exact this
  · obtain ⟨k, rfl⟩ : ∃ k : Nat, op = (k : Int) + 6 := ⟨(op - 6).toNat, by omega⟩
    have := operatorOf_yes (w := w) k (by omega) num var nm fld A n c hO
    rw [opOf, signOf_yes k (by omega)]
    exact this
theorem rank_opOf (op num var : Int) (nm fld : List UInt8) (args : List Ex) : rankEx (.mk op num var nm fld args) = if (signOf op).isSome = true then (opOf op).2 else 5 := by
  unfold rankEx opOf
  show (match signOf op with | some (_, r) => r | none => 5) = _
  cases signOf op with
  | none => rfl
  | some p => rfl
set_option maxHeartbeats 1000000 in
set_option maxRecDepth 100000 in
theorem rankOf_any {w : World} (op num var : Int) (nm fld : List UInt8) (args : List Ex) (A : Option Addr) (n c : Nat) (hO : OpersAt w) (hg : 2 < w.heap.size) :
    Calls Tryd.prog 95 #[.agg #[.int .i64 op, .int .i64 num, .int .i64 var, .string ⟨nm.toArray⟩, .string ⟨fld.toArray⟩, .slice A n c]] w fun e w' => e = .returned (.int .i64 (rankEx (.mk op num var nm fld args))) ∧ Below w.heap.size w w' := by
  rw [rank_opOf]
  have HC := Lib.hid (operatorOf_any (w := w.alloc (.cells #[.int .i64 op, .int .i64 num, .int .i64 var, .string ⟨nm.toArray⟩, .string ⟨fld.toArray⟩, .slice A n c] 51)) op num var ⟨nm.toArray⟩ ⟨fld.toArray⟩ A n c (hO.wr hg ((Wr.refl _ w).alloc (Nat.le_refl _) _)))
  obtain ⟨⟨sg, rk⟩, hop⟩ : ∃ p, Hid (opOf op = p) := ⟨_, Lib.hid rfl⟩
  obtain ⟨ok, hok⟩ : ∃ b, Hid ((signOf op).isSome = b) := ⟨_, Lib.hid rfl⟩
  rw [hop.out, hok.out] at HC
  rw [hop.out, hok.out]
  clear hop hok hO
  cases ok with
  | true =>
    go_enter Tryd.func95, Tryd.ntmps95
    go_wp2_with fail
    refine HC.out.mono ?_
    rintro e w1 ⟨rfl, hb1⟩
    have hs1 := hb1.size
    simp only [World.size_alloc] at hs1
    have HB := Lib.hid (((Below.refl w.heap.size w).alloc (Nat.le_refl _) _).trans (hb1.mono (by simp)))
    clear hb1
    go_wp2_with fail
    go_ret
    exact ⟨rfl, HB.out.alloc (by omega) _⟩
  | false =>
    go_enter Tryd.func95, Tryd.ntmps95
    go_wp2_with fail
    refine HC.out.mono ?_
    rintro e w1 ⟨rfl, hb1⟩
    have hs1 := hb1.size
    simp only [World.size_alloc] at hs1
    have HB := Lib.hid (((Below.refl w.heap.size w).alloc (Nat.le_refl _) _).trans (hb1.mono (by simp)))
    clear hb1
    go_wp2_with fail
    go_ret
    exact ⟨rfl, HB.out.alloc (by omega) _⟩
end Go.Proofs.YtpfefjfpnmchcaaDoor
namespace Go.Proofs.YtpfefjfpnmchcaaDoor
open Go.RowKit

section
variable {w W : World} {B P : Nat} {l : List UInt8}
theorem add_new (b : Nat) (parts : List (List UInt8)) (h : Tx B P l W) (hb : b = W.heap.size) (hn : parts.length ≤ 4096) (hL : l.length + parts.flatten.length ≤ 140737488355328) :
    Calls Tryd.prog 22 #[.pointer (some ⟨P, 0, none⟩), .slice (some ⟨b, 0, none⟩) parts.length parts.length] (W.alloc (.cells (strs parts) 9)) (Wrote B P (l ++ parts.flatten) W) := by
  subst hb
  refine (add_any W.heap.size parts.length parts (h.alloc _) (heap_alloc_new W _) (Nat.le_refl _) hn hL).mono ?_
  rintro e w' ⟨rfl, t, q⟩
  exact ⟨rfl, t, ((Wr.refl B W).alloc h.base _).trans q⟩
theorem add1 (b : Nat) (s : List UInt8) (h : Tx B P l W) (hb : b = W.heap.size) (hL : l.length + s.length ≤ 140737488355328) :
    Calls Tryd.prog 22 #[.pointer (some ⟨P, 0, none⟩), .slice (some ⟨b, 0, none⟩) 1 1] (W.alloc (.cells #[.string ⟨s.toArray⟩] 9)) (Wrote B P (l ++ s) W) := by
  have := add_new b [s] h hb (by simp) (by simpa using hL)
  rw [show [s].flatten = s by simp] at this
  exact this
theorem add2 (b : Nat) (s1 s2 : List UInt8) (h : Tx B P l W) (hb : b = W.heap.size) (hL : l.length + (s1 ++ s2).length ≤ 140737488355328) :
    Calls Tryd.prog 22 #[.pointer (some ⟨P, 0, none⟩), .slice (some ⟨b, 0, none⟩) 2 2] (W.alloc (.cells #[.string ⟨s1.toArray⟩, .string ⟨s2.toArray⟩] 9)) (Wrote B P (l ++ (s1 ++ s2)) W) := by
  have hf : [s1, s2].flatten = s1 ++ s2 := by simp
  have := add_new b [s1, s2] h hb (by simp) (by rw [hf]; exact hL)
  rw [hf] at this
  exact this
theorem add3 (b : Nat) (s1 s2 s3 : List UInt8) (h : Tx B P l W) (hb : b = W.heap.size) (hL : l.length + (s1 ++ (s2 ++ s3)).length ≤ 140737488355328) :
    Calls Tryd.prog 22 #[.pointer (some ⟨P, 0, none⟩), .slice (some ⟨b, 0, none⟩) 3 3] (W.alloc (.cells #[.string ⟨s1.toArray⟩, .string ⟨s2.toArray⟩, .string ⟨s3.toArray⟩] 9)) (Wrote B P (l ++ (s1 ++ (s2 ++ s3))) W) := by
  have hf : [s1, s2, s3].flatten = s1 ++ (s2 ++ s3) := by simp
  have := add_new b [s1, s2, s3] h hb (by simp) (by rw [hf]; exact hL)
  rw [hf] at this
  exact this
theorem add5 (b : Nat) (s1 s2 s3 s4 s5 : List UInt8) (h : Tx B P l W) (hb : b = W.heap.size) (hL : l.length + (s1 ++ (s2 ++ (s3 ++ (s4 ++ s5)))).length ≤ 140737488355328) :
    Calls Tryd.prog 22 #[.pointer (some ⟨P, 0, none⟩), .slice (some ⟨b, 0, none⟩) 5 5] (W.alloc (.cells #[.string ⟨s1.toArray⟩, .string ⟨s2.toArray⟩, .string ⟨s3.toArray⟩, .string ⟨s4.toArray⟩, .string ⟨s5.toArray⟩] 9)) (Wrote B P (l ++ (s1 ++ (s2 ++ (s3 ++ (s4 ++ s5))))) W) := by
  have hf : [s1, s2, s3, s4, s5].flatten = s1 ++ (s2 ++ (s3 ++ (s4 ++ s5))) := by simp
  have := add_new b [s1, s2, s3, s4, s5] h hb (by simp) (by rw [hf]; exact hL)
  rw [hf] at this
  exact this
theorem other_oper : Other 131 := by unfold Other; decide
/-- A number of 64 bits. -/
def InI (x : Int) : Prop := -9223372036854775808 ≤ x ∧ x ≤ 9223372036854775807
mutual
/-- The numbers of an expression are numbers of 64 bits. -/
def NmE : Ex → Prop
  | .mk _ num _ _ _ args => InI num ∧ NmEs args
def NmEs : List Ex → Prop
  | [] => True
  | a :: l => NmE a ∧ NmEs l
end
theorem NmEs.get : ∀ {xs : List Ex} {k : Nat} {x : Ex}, NmEs xs → xs[k]? = some x → NmE x
  | [], _, _, _, h => by simp at h
  | a :: l, 0, x, hn, h => by
    unfold NmEs at hn
    simp at h
    subst h
    exact hn.1
  | a :: l, k + 1, x, hn, h => by
    unfold NmEs at hn
    exact NmEs.get hn.2 (by simpa using h)
/-- What the packages' variables hold: the operators, and strconv's powers of ten. -/
def Pk (w : World) : Prop := OpersAt w ∧ Lib.TabIs Tryd.prog w "internal/strconv.uint64pow10" .u64 Lib.pow10Tab
def PkB (B : Nat) : Prop := 2 < B ∧ 3 < B
theorem Pk.wr {B : Nat} {w w' : World} (h : Pk w) (hg : PkB B) (hw : Wr B w w') : Pk w' :=
  ⟨h.1.wr hg.1 hw, var?_below hw.below (by kernel_rfl) hg.2 h.2⟩
/-- The printer writes expressions of a depth as they should be. -/
def ExprAt (B P d : Nat) : Prop := ∀ (w : World) (l : List UInt8) (v : Value) (x : Ex), Tx B P l w → Pk w → ExD w tt d v x → NmE x → l.length + (exT x).length ≤ 140737488355328 → Calls Tryd.prog 78 #[.pointer (some ⟨P, 0, none⟩), v] w (Wrote B P (l ++ exT x) w)
theorem ExD.shape {p : Nat → Prop} : ∀ {d : Nat} {v : Value} {op num var : Int} {nm fld : List UInt8} {args : List Ex}, ExD w p d v (.mk op num var nm fld args) → ∃ A c, v = .agg #[.int .i64 op, .int .i64 num, .int .i64 var, .string ⟨nm.toArray⟩, .string ⟨fld.toArray⟩, .slice A args.length c]
  | 0, _, _, _, _, _, _, _, h => h.elim
  | _ + 1, _, _, _, _, _, _, _, h => by
    obtain ⟨A, c, rfl, _⟩ := h
    exact ⟨A, c, rfl⟩
/-- An element of a row of expressions. -/
theorem ExsD.arg {p : Nat → Prop} {d : Nat} {A : Option Addr} {cap : Nat} {xs : List Ex} (h : ExsD w p d A cap xs) {k : Nat} {x : Ex} (hk : xs[k]? = some x) :
    ∃ (b : Nat) (op num var : Int) (nm fld : List UInt8) (args : List Ex) (A' : Option Addr) (c' : Nat), A = some ⟨b, 0, none⟩ ∧ x = .mk op num var nm fld args ∧ ExD w p d (.agg #[.int .i64 op, .int .i64 num, .int .i64 var, .string ⟨nm.toArray⟩, .string ⟨fld.toArray⟩, .slice A' args.length c']) x ∧
      w.cell? ⟨b, k * 6, none⟩ = some (.int .i64 op) ∧ w.cell? ⟨b, k * 6 + 1, none⟩ = some (.int .i64 num) ∧ w.cell? ⟨b, k * 6 + 2, none⟩ = some (.int .i64 var) ∧ w.cell? ⟨b, k * 6 + 3, none⟩ = some (.string ⟨nm.toArray⟩) ∧ w.cell? ⟨b, k * 6 + 4, none⟩ = some (.string ⟨fld.toArray⟩) ∧ w.cell? ⟨b, k * 6 + 5, none⟩ = some (.slice A' args.length c') := by
  obtain ⟨h1, h2, h3⟩ := h
  obtain ⟨b, cur, fr, hA, hp, hb, hc⟩ := h3 (fun e => by rw [e] at hk; simp at hk)
  obtain ⟨vs, hl, hcell, hP⟩ := hc k x hk
  obtain ⟨op, num, var, nm, fld, args⟩ := x
  obtain ⟨A', c', hv⟩ := ExD.shape hP
  have hvs : vs = [.int .i64 op, .int .i64 num, .int .i64 var, .string ⟨nm.toArray⟩, .string ⟨fld.toArray⟩, .slice A' args.length c'] := by
    injection hv with hv
    simpa using congrArg Array.toList hv
  rw [hv] at hP
  subst hvs
  have hg : ∀ j u, j < 6 → ([.int .i64 op, .int .i64 num, .int .i64 var, .string ⟨nm.toArray⟩, .string ⟨fld.toArray⟩, .slice A' args.length c'] : List Value)[j]? = some u → w.cell? ⟨b, k * 6 + j, none⟩ = some u := fun j u hj hu => by
    rw [cell_of_row w b _ _ _ _ hb, hcell j hj, hu]
  exact ⟨b, op, num, var, nm, fld, args, A', c', hA, rfl, hP, hg 0 _ (by decide) rfl, hg 1 _ (by decide) rfl, hg 2 _ (by decide) rfl, hg 3 _ (by decide) rfl, hg 4 _ (by decide) rfl, hg 5 _ (by decide) rfl⟩
theorem exsT_append : ∀ (a b : List Ex), exsT (a ++ b) = exsT a ++ exsT b
  | [], _ => rfl
  | x :: a, b => by rw [List.cons_append, exsT, exsT, exsT_append a b, List.cons_append]
theorem exsT_ne {a : List Ex} (h : a ≠ []) : exsT a ≠ [] := by
  cases a with
  | nil => exact absurd rfl h
  | cons x a => rw [exsT]; simp
theorem commas_snoc : ∀ (a : List (List UInt8)) (x : List UInt8), commas (a ++ [x]) = commas a ++ (if a = [] then x else [44, 32] ++ x)
  | [], x => by simp [commas]
  | [y], x => by simp [commas]
  | y :: z :: a, x => by
    have := commas_snoc (z :: a) x
    rw [if_neg (by simp)] at this ⊢
    rw [List.cons_append, List.cons_append, commas, ← List.cons_append, this, commas]
    simp
theorem commas_le : ∀ (a b : List (List UInt8)), (commas a).length ≤ (commas (a ++ b)).length
  | a, [] => by simp
  | a, x :: b => by
    have h1 := commas_le (a ++ [x]) b
    have h2 := congrArg List.length (commas_snoc a x)
    rw [List.length_append] at h2
    rw [List.append_assoc] at h1
    have h3 : [x] ++ b = x :: b := rfl
    rw [h3] at h1
    omega
  termination_by _ b => b.length
theorem prefT_snoc : ∀ (a : List Ex) (x : Ex), prefT (a ++ [x]) = prefT a ++ paren (decide (rankEx x < 5)) (exT x)
  | [], x => by simp [prefT]
  | y :: a, x => by rw [List.cons_append, prefT, prefT, prefT_snoc a x, List.append_assoc]
theorem prefT_le : ∀ (a b : List Ex), (prefT a).length ≤ (prefT (a ++ b)).length
  | a, [] => by simp
  | a, x :: b => by
    have h1 := prefT_le (a ++ [x]) b
    have h2 := congrArg List.length (prefT_snoc a x)
    rw [List.length_append] at h2
    rw [List.append_assoc] at h1
    have h3 : [x] ++ b = x :: b := rfl
    rw [h3] at h1
    omega
  termination_by _ b => b.length
theorem take_snoc_of {α : Type} {xs : List α} {k : Nat} {x : α} (h : xs[k]? = some x) : xs.take (k + 1) = xs.take k ++ [x] := by
  rw [List.take_add_one, h]
  rfl
end
end Go.Proofs.YtpfefjfpnmchcaaDoor
namespace Go.Proofs.YtpfefjfpnmchcaaDoor
open Go.RowKit

set_option maxHeartbeats 2000000 in
set_option maxRecDepth 100000 in
theorem operand_any {B P d : Nat} (HE : ExprAt B P d) (hgB : PkB B) {w : World} {l : List UInt8} (least : Nat) {v : Value} {x : Ex} (h : Tx B P l w) (hO : Pk w) (hx : ExD w tt d v x) (hn : NmE x) (hL : l.length + (paren (decide (rankEx x < least)) (exT x)).length ≤ 140737488355328) :
    Calls Tryd.prog 89 #[.pointer (some ⟨P, 0, none⟩), .int .i64 least, v] w (Wrote B P (l ++ paren (decide (rankEx x < least)) (exT x)) w) := by
  obtain ⟨op, num, var, nm, fld, args⟩ := x
  obtain ⟨A, c, rfl⟩ := hx.shape
  have t0 := h.alloc (.cells #[.int .i64 op, .int .i64 num, .int .i64 var, .string ⟨nm.toArray⟩, .string ⟨fld.toArray⟩, .slice A args.length c] 51)
  have q0 := (Wr.refl B w).alloc h.base (.cells #[.int .i64 op, .int .i64 num, .int .i64 var, .string ⟨nm.toArray⟩, .string ⟨fld.toArray⟩, .slice A args.length c] 51)
  have o0 := hO.wr hgB q0
  have e0 := heap_alloc_new w (.cells #[.int .i64 op, .int .i64 num, .int .i64 var, .string ⟨nm.toArray⟩, .string ⟨fld.toArray⟩, .slice A args.length c] 51)
  have X_0 := hx.wr q0
  obtain ⟨w0, HW0⟩ : ∃ U, Hid (w.alloc (.cells #[.int .i64 op, .int .i64 num, .int .i64 var, .string ⟨nm.toArray⟩, .string ⟨fld.toArray⟩, .slice A args.length c] 51) = U) := ⟨_, Lib.hid rfl⟩
  rw [HW0.out] at t0 q0 o0 e0 X_0
  have hz0 : w0.heap.size = w.heap.size + 1 := by rw [← HW0.out]; exact World.size_alloc _ _
  have HZ0 := Lib.hid hz0
  have T0 := Lib.hid t0
  have Q0 := Lib.hid q0
  have O0 := Lib.hid o0
  have E0 := Lib.hid e0
  have X0 := Lib.hid X_0
  have hs0 : w.heap.size < w0.heap.size := by omega
  clear hz0 t0 q0 o0 e0 X_0
  have HR := Lib.hid (rankOf_any (w := w0) op num var nm fld args A args.length c O0.out.1 (by have := T0.out.base; have := hgB.1; omega))
  obtain ⟨rk, hrk⟩ : ∃ r, Hid (rankEx (.mk op num var nm fld args) = r) := ⟨_, Lib.hid rfl⟩
  rw [hrk.out] at HR hL ⊢
  have HN := Lib.hid hn
  clear h hO hx hn
  by_cases hlt : rk < least
  · rw [decide_eq_true hlt] at hL ⊢
    have HL := Lib.hid (show l.length + (1 + (exT (.mk op num var nm fld args)).length + 1) ≤ 140737488355328 by simp only [paren, if_true, List.length_cons, List.length_append, List.length_nil] at hL; omega)
    clear hL
    go_enter Tryd.func89, Tryd.ntmps89
    go_wp2_with fail
    rw [HW0.out]
    refine (HR.out).mono ?_
    rintro e w1 ⟨rfl, hb1⟩
    have t1 := T0.out.still hb1
    have q1 := Wr.still T0.out.base hb1
    clear hb1
    have hs1 : w.heap.size < w1.heap.size := by have := q1.size; omega
    have T1 := Lib.hid t1
    have Q1 := Lib.hid (Q0.out.trans q1)
    have O1 := Lib.hid (O0.out.wr hgB q1)
    have E1 := Lib.hid (q1.other _ _ _ _ E0.out other_ex)
    have X1 := Lib.hid (X0.out.wr q1)
    clear t1 q1
    go_wp2_with fail
    refine (add1 _ [40] T1.out (by first | rfl | (have := HZ0.out; omega)) (by have := HL.out; (try simp only [List.length_append]); (try simp only [List.length_cons]); (try simp only [List.length_nil]); omega)).mono ?_
    rintro e w2 ⟨rfl, t2, q2⟩
    have hs2 : w.heap.size < w2.heap.size := by have := q2.size; omega
    have T2 := Lib.hid t2
    have Q2 := Lib.hid (Q1.out.trans q2)
    have O2 := Lib.hid (O1.out.wr hgB q2)
    have E2 := Lib.hid (q2.other _ _ _ _ E1.out other_ex)
    have X2 := Lib.hid (X1.out.wr q2)
    clear t2 q2
    go_wp2_with (first | ((with_reducible show wpList _ _ _ (Oper.mk _ (Op.load 51 _) _ _ _ none :: _) _ _); refine wpList_load_all rfl 51 _ rfl w.heap.size _ _ rfl E2.out Tryd.underlying51 rfl (by kernel_rfl) ?_))
    refine (HE w2 _ _ _ T2.out O2.out X2.out HN.out (by have := HL.out; (try simp only [List.length_append]); (try simp only [List.length_cons]); (try simp only [List.length_nil]); omega)).mono ?_
    rintro e w3 ⟨rfl, t3, q3⟩
    have hs3 : w.heap.size < w3.heap.size := by have := q3.size; omega
    have T3 := Lib.hid t3
    have Q3 := Lib.hid (Q2.out.trans q3)
    have O3 := Lib.hid (O2.out.wr hgB q3)
    have E3 := Lib.hid (q3.other _ _ _ _ E2.out other_ex)
    have X3 := Lib.hid (X2.out.wr q3)
    clear t3 q3
    go_wp2_with fail
    refine (add1 _ [41] T3.out (by first | rfl | (have := HZ0.out; omega)) (by have := HL.out; (try simp only [List.length_append]); (try simp only [List.length_cons]); (try simp only [List.length_nil]); omega)).mono ?_
    rintro e w4 ⟨rfl, t4, q4⟩
    have hs4 : w.heap.size < w4.heap.size := by have := q4.size; omega
    have T4 := Lib.hid t4
    have Q4 := Lib.hid (Q3.out.trans q4)
    have O4 := Lib.hid (O3.out.wr hgB q4)
    have E4 := Lib.hid (q4.other _ _ _ _ E3.out other_ex)
    have X4 := Lib.hid (X3.out.wr q4)
    clear t4 q4
    go_wp2_with fail
    go_end0
    exact ⟨rfl, by have := T4.out; simpa [paren] using this, Q4.out⟩
  · rw [decide_eq_false hlt] at hL ⊢
    have HL := Lib.hid (show l.length + (exT (.mk op num var nm fld args)).length ≤ 140737488355328 by simpa [paren] using hL)
    clear hL
    go_enter Tryd.func89, Tryd.ntmps89
    go_wp2_with fail
    rw [HW0.out]
    refine (HR.out).mono ?_
    rintro e w1 ⟨rfl, hb1⟩
    have t1 := T0.out.still hb1
    have q1 := Wr.still T0.out.base hb1
    clear hb1
    have hs1 : w.heap.size < w1.heap.size := by have := q1.size; omega
    have T1 := Lib.hid t1
    have Q1 := Lib.hid (Q0.out.trans q1)
    have O1 := Lib.hid (O0.out.wr hgB q1)
    have E1 := Lib.hid (q1.other _ _ _ _ E0.out other_ex)
    have X1 := Lib.hid (X0.out.wr q1)
    clear t1 q1
    go_wp2_with (first | ((with_reducible show wpList _ _ _ (Oper.mk _ (Op.load 51 _) _ _ _ none :: _) _ _); refine wpList_load_all rfl 51 _ rfl w.heap.size _ _ rfl E1.out Tryd.underlying51 rfl (by kernel_rfl) ?_))
    refine (HE w1 _ _ _ T1.out O1.out X1.out HN.out (by have := HL.out; (try simp only [List.length_append]); (try simp only [List.length_cons]); (try simp only [List.length_nil]); omega)).mono ?_
    rintro e w2 ⟨rfl, t2, q2⟩
    have hs2 : w.heap.size < w2.heap.size := by have := q2.size; omega
    have T2 := Lib.hid t2
    have Q2 := Lib.hid (Q1.out.trans q2)
    have O2 := Lib.hid (O1.out.wr hgB q2)
    have E2 := Lib.hid (q2.other _ _ _ _ E1.out other_ex)
    have X2 := Lib.hid (X1.out.wr q2)
    clear t2 q2
    go_wp2_with fail
    go_end0
    exact ⟨rfl, by have := T2.out; simpa [paren] using this, Q2.out⟩
end Go.Proofs.YtpfefjfpnmchcaaDoor
namespace Go.Proofs.YtpfefjfpnmchcaaDoor
open Go.RowKit

theorem operand_five {B P d : Nat} (HE : ExprAt B P d) (hgB : PkB B) {w : World} {l : List UInt8} {v : Value} {x : Ex} (h : Tx B P l w) (hO : Pk w) (hx : ExD w tt d v x) (hn : NmE x) (hL : l.length + (paren (decide (rankEx x < 5)) (exT x)).length ≤ 140737488355328) :
    Calls Tryd.prog 89 #[.pointer (some ⟨P, 0, none⟩), .int .i64 5, v] w (Wrote B P (l ++ paren (decide (rankEx x < 5)) (exT x)) w) := operand_any HE hgB 5 h hO hx hn hL
set_option maxHeartbeats 2000000 in
set_option maxRecDepth 100000 in
theorem list_any {B P d : Nat} (HE : ExprAt B P d) (hgB : PkB B) {w : World} {l : List UInt8} {A : Option Addr} {c : Nat} {args : List Ex} (h : Tx B P l w) (hO : Pk w) (hx : ExsD w tt d A c args) (hn : NmEs args) (hL : l.length + (commas (exsT args)).length ≤ 140737488355328) :
    Calls Tryd.prog 64 #[.pointer (some ⟨P, 0, none⟩), .slice A args.length c] w (Wrote B P (l ++ commas (exsT args)) w) := by
  have HL := Lib.hid hL
  have H := Lib.hid h
  have HOO := Lib.hid hO
  have HXX := Lib.hid hx
  have HNN := Lib.hid hn
  have hcap : c ≤ 9223372036854775807 := by have := hx.2.1; unfold maxLen at this; omega
  have hlc : args.length ≤ c := hx.1
  clear hL h hO hx hn
  go_enter Tryd.func64, Tryd.ntmps64
  go_wp2_with fail
  go_loopw [8] (fun i wr => ∃ k : Nat, i = .int .i64 k ∧ k ≤ args.length ∧ Tx B P (l ++ commas (exsT (args.take k))) wr ∧ Wr B w wr) (fun i _ => args.length - (intOf i).toNat)
  case atStart => exact ⟨0, rfl, Nat.zero_le _, by simpa [exsT, commas] using H.out, Wr.refl _ _⟩
  case round =>
    obtain ⟨k, rfl, hk, ht, hw⟩ := hrel
    by_cases hlt : k < args.length
    · have hx' := HXX.out
      have hxk : args[k]? = some args[k] := List.getElem?_eq_getElem hlt
      obtain ⟨x, hx0⟩ : ∃ x, Hid (args[k] = x) := ⟨_, Lib.hid rfl⟩
      rw [hx0.out] at hxk
      have htk := take_snoc_of hxk
      have HN := Lib.hid (NmEs.get HNN.out hxk)
      obtain ⟨b, op, num, var, nm, fld, args', A', c', rfl, hxe, hxd, g0, g1, g2, g3, g4, g5⟩ := (hx'.wr hw).arg hxk
      have hst : commas (exsT (args.take (k + 1))) = commas (exsT (args.take k)) ++ (if k = 0 then exT x else [44, 32] ++ exT x) := by
        rw [htk, exsT_append, show exsT [x] = [exT x] from rfl, commas_snoc]
        congr 1
        by_cases hk0 : k = 0
        · subst hk0; simp [exsT]
        · rw [if_neg hk0, if_neg (exsT_ne (by intro e; have := congrArg List.length e; rw [List.length_take, List.length_nil] at this; omega))]
      have hle := commas_le (exsT (args.take (k + 1))) (exsT (args.drop (k + 1)))
      rw [← exsT_append, List.take_append_drop, hst, List.length_append] at hle
      have HT := Lib.hid ht
      have HQ := Lib.hid hw
      have HO := Lib.hid (HOO.out.wr hgB hw)
      have HS := Lib.hid hst
      subst hxe
      by_cases hk0 : k = 0
      · subst hk0
        rw [if_pos rfl] at hle HS
        have HL2 := HL.out
        replace HL := Lib.hid (show (l ++ commas (exsT (args.take 0))).length + (exT (.mk op num var nm fld args')).length ≤ 140737488355328 by rw [List.length_append]; omega)
        simp only [Nat.zero_mul, Nat.zero_add] at g0 g1 g2 g3 g4 g5
        have HX := Lib.hid hxd
        clear ht hw hx' hxk htk hst hle HL2 hxd hx0
        have t0 := HT.out.alloc (.cells #[.int .i64 op, .int .i64 num, .int .i64 var, .string ⟨nm.toArray⟩, .string ⟨fld.toArray⟩, .slice A' args'.length c'] 51)
        have q0 := HQ.out.alloc HT.out.base (.cells #[.int .i64 op, .int .i64 num, .int .i64 var, .string ⟨nm.toArray⟩, .string ⟨fld.toArray⟩, .slice A' args'.length c'] 51)
        have o0 := HO.out.wr hgB ((Wr.refl B wr).alloc HT.out.base (.cells #[.int .i64 op, .int .i64 num, .int .i64 var, .string ⟨nm.toArray⟩, .string ⟨fld.toArray⟩, .slice A' args'.length c'] 51))
        have e0 := heap_alloc_new wr (.cells #[.int .i64 op, .int .i64 num, .int .i64 var, .string ⟨nm.toArray⟩, .string ⟨fld.toArray⟩, .slice A' args'.length c'] 51)
        have X_0 := HX.out.wr ((Wr.refl B wr).alloc HT.out.base (.cells #[.int .i64 op, .int .i64 num, .int .i64 var, .string ⟨nm.toArray⟩, .string ⟨fld.toArray⟩, .slice A' args'.length c'] 51))
        obtain ⟨w0, HW0⟩ : ∃ U, Hid (wr.alloc (.cells #[.int .i64 op, .int .i64 num, .int .i64 var, .string ⟨nm.toArray⟩, .string ⟨fld.toArray⟩, .slice A' args'.length c'] 51) = U) := ⟨_, Lib.hid rfl⟩
        rw [HW0.out] at t0 q0 o0 e0 X_0
        have hz0 : w0.heap.size = wr.heap.size + 1 := by rw [← HW0.out]; exact World.size_alloc _ _
        have HZ0 := Lib.hid hz0
        have T0 := Lib.hid t0
        have Q0 := Lib.hid q0
        have O0 := Lib.hid o0
        have E0 := Lib.hid e0
        have X0 := Lib.hid X_0
        have hs0 : wr.heap.size < w0.heap.size := by omega
        clear hz0 t0 q0 o0 e0 X_0
        go_wp2_with fail
        rw [HW0.out]
        refine (HE w0 _ _ _ T0.out O0.out X0.out HN.out HL.out).mono ?_
        rintro e w1 ⟨rfl, t1, q1⟩
        have hs1 : wr.heap.size < w1.heap.size := by have := q1.size; omega
        have T1 := Lib.hid t1
        have Q1 := Lib.hid (Q0.out.trans q1)
        have O1 := Lib.hid (O0.out.wr hgB q1)
        have E1 := Lib.hid (q1.other _ _ _ _ E0.out other_ex)
        have X1 := Lib.hid (X0.out.wr q1)
        clear t1 q1
        go_wp2_with fail
        go_roundw
        case rel => exact ⟨0 + 1, by go_num, by omega, by have := T1.out; rw [List.append_assoc, ← HS.out] at this; exact this, Q1.out⟩
        case measure => simp [intOf]; omega
      · rw [if_neg hk0] at hle HS
        rw [List.length_append] at hle
        have HL2 := HL.out
        replace HL := Lib.hid (show (l ++ commas (exsT (args.take k))).length + (2 + (exT (.mk op num var nm fld args')).length) ≤ 140737488355328 by rw [List.length_append]; have : ([44, 32] : List UInt8).length = 2 := rfl; omega)
        obtain ⟨lk, hlk⟩ : ∃ s, Hid (l ++ commas (exsT (args.take k)) = s) := ⟨_, Lib.hid rfl⟩
        rw [hlk.out] at HT HL
        have hk1 : 0 < k := by omega
        have HX := Lib.hid hxd
        clear ht hw hx' hxk htk hst hle HL2 hxd hx0 hk0
        have t0 := HT.out.alloc (.cells #[.int .i64 op, .int .i64 num, .int .i64 var, .string ⟨nm.toArray⟩, .string ⟨fld.toArray⟩, .slice A' args'.length c'] 51)
        have q0 := HQ.out.alloc HT.out.base (.cells #[.int .i64 op, .int .i64 num, .int .i64 var, .string ⟨nm.toArray⟩, .string ⟨fld.toArray⟩, .slice A' args'.length c'] 51)
        have o0 := HO.out.wr hgB ((Wr.refl B wr).alloc HT.out.base (.cells #[.int .i64 op, .int .i64 num, .int .i64 var, .string ⟨nm.toArray⟩, .string ⟨fld.toArray⟩, .slice A' args'.length c'] 51))
        have e0 := heap_alloc_new wr (.cells #[.int .i64 op, .int .i64 num, .int .i64 var, .string ⟨nm.toArray⟩, .string ⟨fld.toArray⟩, .slice A' args'.length c'] 51)
        have X_0 := HX.out.wr ((Wr.refl B wr).alloc HT.out.base (.cells #[.int .i64 op, .int .i64 num, .int .i64 var, .string ⟨nm.toArray⟩, .string ⟨fld.toArray⟩, .slice A' args'.length c'] 51))
        obtain ⟨w0, HW0⟩ : ∃ U, Hid (wr.alloc (.cells #[.int .i64 op, .int .i64 num, .int .i64 var, .string ⟨nm.toArray⟩, .string ⟨fld.toArray⟩, .slice A' args'.length c'] 51) = U) := ⟨_, Lib.hid rfl⟩
        rw [HW0.out] at t0 q0 o0 e0 X_0
        have hz0 : w0.heap.size = wr.heap.size + 1 := by rw [← HW0.out]; exact World.size_alloc _ _
        have HZ0 := Lib.hid hz0
        have T0 := Lib.hid t0
        have Q0 := Lib.hid q0
        have O0 := Lib.hid o0
        have E0 := Lib.hid e0
        have X0 := Lib.hid X_0
        have hs0 : wr.heap.size < w0.heap.size := by omega
        clear hz0 t0 q0 o0 e0 X_0
        go_wp2_with fail
        rw [HW0.out]
        refine (add1 _ [44, 32] T0.out (by first | rfl | (have := HZ0.out; omega)) (by have := HL.out; (try simp only [List.length_append]); (try simp only [List.length_cons]); (try simp only [List.length_nil]); omega)).mono ?_
        rintro e w1 ⟨rfl, t1, q1⟩
        have hs1 : wr.heap.size < w1.heap.size := by have := q1.size; omega
        have T1 := Lib.hid t1
        have Q1 := Lib.hid (Q0.out.trans q1)
        have O1 := Lib.hid (O0.out.wr hgB q1)
        have E1 := Lib.hid (q1.other _ _ _ _ E0.out other_ex)
        have X1 := Lib.hid (X0.out.wr q1)
        clear t1 q1
        go_wp2_with (first | ((with_reducible show wpList _ _ _ (Oper.mk _ (Op.load 51 _) _ _ _ none :: _) _ _); refine wpList_load_all rfl 51 _ rfl wr.heap.size _ _ rfl E1.out Tryd.underlying51 rfl (by kernel_rfl) ?_))
        refine (HE w1 _ _ _ T1.out O1.out X1.out HN.out (by have := HL.out; (try simp only [List.length_append]); (try simp only [List.length_cons]); (try simp only [List.length_nil]); omega)).mono ?_
        rintro e w2 ⟨rfl, t2, q2⟩
        have hs2 : wr.heap.size < w2.heap.size := by have := q2.size; omega
        have T2 := Lib.hid t2
        have Q2 := Lib.hid (Q1.out.trans q2)
        have O2 := Lib.hid (O1.out.wr hgB q2)
        have E2 := Lib.hid (q2.other _ _ _ _ E1.out other_ex)
        have X2 := Lib.hid (X1.out.wr q2)
        clear t2 q2
        go_wp2_with fail
        go_roundw
        case rel => exact ⟨k + 1, by go_num, hlt, by have := T2.out; rw [← hlk.out, List.append_assoc, List.append_assoc, ← HS.out] at this; exact this, Q2.out⟩
        case measure => simp [intOf]; omega
    · obtain rfl : k = args.length := by omega
      go_wp2_with fail
      go_end0
      exact ⟨rfl, by simpa using ht, hw⟩
set_option maxHeartbeats 2000000 in
set_option maxRecDepth 100000 in
theorem prefixed_any {B P d : Nat} (HE : ExprAt B P d) (hgB : PkB B) {w : World} {l : List UInt8} (s : List UInt8) {A : Option Addr} {c : Nat} {args : List Ex} (h : Tx B P l w) (hO : Pk w) (hx : ExsD w tt d A c args) (hn : NmEs args) (hL : l.length + (s ++ prefT args).length ≤ 140737488355328) :
    Calls Tryd.prog 84 #[.pointer (some ⟨P, 0, none⟩), .string ⟨s.toArray⟩, .slice A args.length c] w (Wrote B P (l ++ (s ++ prefT args)) w) := by
  have HLL := Lib.hid hL
  have HOO := Lib.hid hO
  have HXX := Lib.hid hx
  have HNN := Lib.hid hn
  have HL := Lib.hid (show l.length + s.length ≤ 140737488355328 by simp only [List.length_append] at hL; omega)
  have hcap : c ≤ 9223372036854775807 := by have := hx.2.1; unfold maxLen at this; omega
  have hlc : args.length ≤ c := hx.1
  have q0 := Wr.refl B w
  have T0 := Lib.hid h
  have Q0 := Lib.hid q0
  have O0 := Lib.hid hO
  clear q0
  clear hL h hO hx hn
  go_enter Tryd.func84, Tryd.ntmps84
  go_wp2_with fail
  refine (add1 _ s T0.out rfl HL.out).mono ?_
  rintro e w1 ⟨rfl, t1, q1⟩
  have hs1 := q1.size
  have T1 := Lib.hid t1
  have Q1 := Lib.hid (Q0.out.trans q1)
  have O1 := Lib.hid (O0.out.wr hgB q1)
  clear t1 q1
  go_wp2_with fail
  go_loopw [14] (fun i wr => ∃ k : Nat, i = .int .i64 k ∧ k ≤ args.length ∧ Tx B P ((l ++ s) ++ prefT (args.take k)) wr ∧ Wr B w wr) (fun i _ => args.length - (intOf i).toNat)
  case atStart => exact ⟨0, rfl, Nat.zero_le _, by simpa [prefT] using T1.out, Q1.out⟩
  case round =>
    obtain ⟨k, rfl, hk, ht, hw⟩ := hrel
    by_cases hlt : k < args.length
    · have hx' := HXX.out
      have hxk : args[k]? = some args[k] := List.getElem?_eq_getElem hlt
      obtain ⟨x, hx0⟩ : ∃ x, Hid (args[k] = x) := ⟨_, Lib.hid rfl⟩
      rw [hx0.out] at hxk
      have htk := take_snoc_of hxk
      have HN := Lib.hid (NmEs.get HNN.out hxk)
      obtain ⟨b, op, num, var, nm, fld, args', A', c', rfl, hxe, hxd, g0, g1, g2, g3, g4, g5⟩ := (hx'.wr hw).arg hxk
      have hst : prefT (args.take (k + 1)) = prefT (args.take k) ++ paren (decide (rankEx x < 5)) (exT x) := by rw [htk, prefT_snoc]
      have hle := prefT_le (args.take (k + 1)) (args.drop (k + 1))
      rw [List.take_append_drop, hst, List.length_append] at hle
      have HT := Lib.hid ht
      have HQ := Lib.hid hw
      have HO := Lib.hid (HOO.out.wr hgB hw)
      have HS := Lib.hid hst
      subst hxe
      have HL2 := HLL.out
      have HX := Lib.hid hxd
      replace HL := Lib.hid (show ((l ++ s) ++ prefT (args.take k)).length + (paren (decide (rankEx (.mk op num var nm fld args') < 5)) (exT (.mk op num var nm fld args'))).length ≤ 140737488355328 by simp only [List.length_append] at HL2 ⊢; omega)
      by_cases hk0 : k = 0
      · subst hk0
        simp only [Nat.zero_mul, Nat.zero_add] at g0 g1 g2 g3 g4 g5
        clear ht hw hx' hxk htk hst hle HL2 hxd hx0 T0 Q0 O0 T1 Q1 O1
        have t0 := HT.out.alloc (.cells #[.int .i64 op, .int .i64 num, .int .i64 var, .string ⟨nm.toArray⟩, .string ⟨fld.toArray⟩, .slice A' args'.length c'] 51)
        have q0 := HQ.out.alloc HT.out.base (.cells #[.int .i64 op, .int .i64 num, .int .i64 var, .string ⟨nm.toArray⟩, .string ⟨fld.toArray⟩, .slice A' args'.length c'] 51)
        have o0 := HO.out.wr hgB ((Wr.refl B wr).alloc HT.out.base (.cells #[.int .i64 op, .int .i64 num, .int .i64 var, .string ⟨nm.toArray⟩, .string ⟨fld.toArray⟩, .slice A' args'.length c'] 51))
        have e0 := heap_alloc_new wr (.cells #[.int .i64 op, .int .i64 num, .int .i64 var, .string ⟨nm.toArray⟩, .string ⟨fld.toArray⟩, .slice A' args'.length c'] 51)
        have X_0 := HX.out.wr ((Wr.refl B wr).alloc HT.out.base (.cells #[.int .i64 op, .int .i64 num, .int .i64 var, .string ⟨nm.toArray⟩, .string ⟨fld.toArray⟩, .slice A' args'.length c'] 51))
        obtain ⟨w0, HW0⟩ : ∃ U, Hid (wr.alloc (.cells #[.int .i64 op, .int .i64 num, .int .i64 var, .string ⟨nm.toArray⟩, .string ⟨fld.toArray⟩, .slice A' args'.length c'] 51) = U) := ⟨_, Lib.hid rfl⟩
        rw [HW0.out] at t0 q0 o0 e0 X_0
        have hz0 : w0.heap.size = wr.heap.size + 1 := by rw [← HW0.out]; exact World.size_alloc _ _
        have HZ0 := Lib.hid hz0
        have T0 := Lib.hid t0
        have Q0 := Lib.hid q0
        have O0 := Lib.hid o0
        have E0 := Lib.hid e0
        have X0 := Lib.hid X_0
        have hs0 : wr.heap.size < w0.heap.size := by omega
        clear hz0 t0 q0 o0 e0 X_0
        go_wp2_with fail
        rw [HW0.out]
        refine (operand_five HE hgB T0.out O0.out X0.out HN.out HL.out).mono ?_
        rintro e w1 ⟨rfl, t1, q1⟩
        have hs1 : wr.heap.size < w1.heap.size := by have := q1.size; omega
        have T1 := Lib.hid t1
        have Q1 := Lib.hid (Q0.out.trans q1)
        have O1 := Lib.hid (O0.out.wr hgB q1)
        have E1 := Lib.hid (q1.other _ _ _ _ E0.out other_ex)
        have X1 := Lib.hid (X0.out.wr q1)
        clear t1 q1
        go_wp2_with fail
        go_roundw
        case rel => exact ⟨0 + 1, by go_num, by omega, by have := T1.out; rw [List.append_assoc, ← HS.out] at this; exact this, Q1.out⟩
        case measure => simp [intOf]; omega
      · have hk1 : 0 < k := by omega
        clear ht hw hx' hxk htk hst hle HL2 hxd hx0 hk0 T0 Q0 O0 T1 Q1 O1
        have t0 := HT.out.alloc (.cells #[.int .i64 op, .int .i64 num, .int .i64 var, .string ⟨nm.toArray⟩, .string ⟨fld.toArray⟩, .slice A' args'.length c'] 51)
        have q0 := HQ.out.alloc HT.out.base (.cells #[.int .i64 op, .int .i64 num, .int .i64 var, .string ⟨nm.toArray⟩, .string ⟨fld.toArray⟩, .slice A' args'.length c'] 51)
        have o0 := HO.out.wr hgB ((Wr.refl B wr).alloc HT.out.base (.cells #[.int .i64 op, .int .i64 num, .int .i64 var, .string ⟨nm.toArray⟩, .string ⟨fld.toArray⟩, .slice A' args'.length c'] 51))
        have e0 := heap_alloc_new wr (.cells #[.int .i64 op, .int .i64 num, .int .i64 var, .string ⟨nm.toArray⟩, .string ⟨fld.toArray⟩, .slice A' args'.length c'] 51)
        have X_0 := HX.out.wr ((Wr.refl B wr).alloc HT.out.base (.cells #[.int .i64 op, .int .i64 num, .int .i64 var, .string ⟨nm.toArray⟩, .string ⟨fld.toArray⟩, .slice A' args'.length c'] 51))
        obtain ⟨w0, HW0⟩ : ∃ U, Hid (wr.alloc (.cells #[.int .i64 op, .int .i64 num, .int .i64 var, .string ⟨nm.toArray⟩, .string ⟨fld.toArray⟩, .slice A' args'.length c'] 51) = U) := ⟨_, Lib.hid rfl⟩
        rw [HW0.out] at t0 q0 o0 e0 X_0
        have hz0 : w0.heap.size = wr.heap.size + 1 := by rw [← HW0.out]; exact World.size_alloc _ _
        have HZ0 := Lib.hid hz0
        have T0 := Lib.hid t0
        have Q0 := Lib.hid q0
        have O0 := Lib.hid o0
        have E0 := Lib.hid e0
        have X0 := Lib.hid X_0
        have hs0 : wr.heap.size < w0.heap.size := by omega
        clear hz0 t0 q0 o0 e0 X_0
        go_wp2_with fail
        rw [HW0.out]
        refine (operand_five HE hgB T0.out O0.out X0.out HN.out HL.out).mono ?_
        rintro e w1 ⟨rfl, t1, q1⟩
        have hs1 : wr.heap.size < w1.heap.size := by have := q1.size; omega
        have T1 := Lib.hid t1
        have Q1 := Lib.hid (Q0.out.trans q1)
        have O1 := Lib.hid (O0.out.wr hgB q1)
        have E1 := Lib.hid (q1.other _ _ _ _ E0.out other_ex)
        have X1 := Lib.hid (X0.out.wr q1)
        clear t1 q1
        go_wp2_with fail
        go_roundw
        case rel => exact ⟨k + 1, by go_num, by omega, by have := T1.out; rw [List.append_assoc, ← HS.out] at this; exact this, Q1.out⟩
        case measure => simp [intOf]; omega
    · obtain rfl : k = args.length := by omega
      go_wp2_with fail
      go_end0
      exact ⟨rfl, by simpa using ht, hw⟩
end Go.Proofs.YtpfefjfpnmchcaaDoor
