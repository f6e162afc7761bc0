/-
  From the row's condition (the packages' variables read as the program's text lays them) to what the walks ask; and a world that meets it. No condition.
-/
import Derived.Test.YtimiofmmhccmmaaDoorIVars
import Derived.Lib.LaidTab
import Derived.LaidLaws
import Derived.LaidSub
import Derived.ChangeSame
import Derived.ChangeVars
import Derived.RowKit
namespace Go.Proofs.YtimiofmmhccmmaaDoor
open Go.ChangeShapes Go.WideShapes Go.RowKit

def laidL : List (String × DataW Unit) := [("math/bits.deBruijn32tab", Rows.laid_math_bits_deBruijn32tab), ("math/bits.deBruijn64tab", Rows.laid_math_bits_deBruijn64tab), ("internal/strconv.uint64pow10", Rows.laid_internal_strconv_uint64pow10), ("debugger/isa.texts", Rows.laid_debugger_isa_texts)]
def textsL : List (List UInt8 × List UInt8) := [([110, 111, 112], []), ([98, 114, 101, 97, 107], []), ([99, 111, 110, 115, 116], [97, 110]), ([112, 111, 111, 108], [97, 110]), ([109, 111, 118, 101], [97, 98]), ([97, 100, 100], [97, 98, 99]), ([115, 117, 98], [97, 98, 99]), ([109, 117, 108], [97, 98, 99]), ([100, 105, 118], [97, 98, 99]), ([109, 111, 100], [97, 98, 99]), ([97, 110, 100], [97, 98, 99]), ([111, 114], [97, 98, 99]), ([120, 111, 114], [97, 98, 99]), ([108, 101, 115, 115], [97, 98, 99]), ([108, 101, 115, 115, 101, 113], [97, 98, 99]), ([101, 113, 117, 97, 108], [97, 98, 99]), ([110, 111, 116, 101, 113, 117, 97, 108], [97, 98, 99]), ([97, 100, 100, 105, 109, 109], [97, 98, 110]), ([108, 111, 97, 100], [97, 98, 110]), ([115, 116, 111, 114, 101], [97, 98, 110]), ([106, 117, 109, 112], [110]), ([122, 101, 114, 111], [97, 110]), ([99, 97, 108, 108], [110]), ([114, 101, 116, 117, 114, 110], []), ([112, 114, 105, 110, 116], [97])]
theorem global0 : Tryd.prog.globalNamed "debugger/isa.texts" = some 0 := by kernel_rfl
theorem global0T : (Tryd.prog.globals[0]?).map (·.type) = some 61 := by kernel_rfl
theorem global3 : Tryd.prog.globalNamed "internal/strconv.uint64pow10" = some 1 := by kernel_rfl
theorem cellsStr : Tryd.prog.cellsOf 9 = 1 := by kernel_rfl
theorem cellsArr : Tryd.prog.cellsOf 61 = 50 := by kernel_rfl
theorem cellsOne : Tryd.prog.cellsOf 60 = 2 := by kernel_rfl
theorem text_cells : ∀ i, i < 25 → textsA[i * 2]? = (textsL[i]?).map (fun x => Value.string ⟨x.1.toArray⟩) ∧ textsA[i * 2 + 1]? = (textsL[i]?).map (fun x => Value.string ⟨x.2.toArray⟩) := by
  intro i hi
  match i, hi with
  | 0, _ => exact ⟨rfl, rfl⟩
  | 1, _ => exact ⟨rfl, rfl⟩
  | 2, _ => exact ⟨rfl, rfl⟩
  | 3, _ => exact ⟨rfl, rfl⟩
  | 4, _ => exact ⟨rfl, rfl⟩
  | 5, _ => exact ⟨rfl, rfl⟩
  | 6, _ => exact ⟨rfl, rfl⟩
  | 7, _ => exact ⟨rfl, rfl⟩
  | 8, _ => exact ⟨rfl, rfl⟩
  | 9, _ => exact ⟨rfl, rfl⟩
  | 10, _ => exact ⟨rfl, rfl⟩
  | 11, _ => exact ⟨rfl, rfl⟩
  | 12, _ => exact ⟨rfl, rfl⟩
  | 13, _ => exact ⟨rfl, rfl⟩
  | 14, _ => exact ⟨rfl, rfl⟩
  | 15, _ => exact ⟨rfl, rfl⟩
  | 16, _ => exact ⟨rfl, rfl⟩
  | 17, _ => exact ⟨rfl, rfl⟩
  | 18, _ => exact ⟨rfl, rfl⟩
  | 19, _ => exact ⟨rfl, rfl⟩
  | 20, _ => exact ⟨rfl, rfl⟩
  | 21, _ => exact ⟨rfl, rfl⟩
  | 22, _ => exact ⟨rfl, rfl⟩
  | 23, _ => exact ⟨rfl, rfl⟩
  | 24, _ => exact ⟨rfl, rfl⟩
  | k + 25, h => omega
/-- The array of names that reads as given data holds them, cell for cell. -/
theorem cells_of_texts {H : Type} {enc : TypeId × Value → H} {w : World} {base : Nat} {sp : Nat → Bool} {held : Bool} {fuel : Nat} {cs : List Value} {p : List MemPlace}
    (h : DataW.trod enc Tryd.prog w base sp held fuel 61 cs = some (.agg (textsL.map fun x => .agg [.lit (.string x.1), .lit (.string x.2)]), p)) : cs.toArray = textsA := by
  cases fuel with
  | zero => simp [DataW.trod] at h
  | succ fuel =>
    simp only [DataW.trod, Tryd.underlying61, cellsOne, cellsArr] at h
    split at h
    · rename_i hl
      obtain ⟨ys, hm, hx⟩ := Option.map_eq_some_iff.1 h
      have hys : ys.map (·.1) = textsL.map fun x => (DataW.agg [.lit (.string x.1), .lit (.string x.2)] : DataW H) := by
        have := congrArg Prod.fst hx
        simpa using this
      have hall : ∀ i, i < 25 → cs[i * 2]? = textsA[i * 2]? ∧ cs[i * 2 + 1]? = textsA[i * 2 + 1]? := fun i hi => by
        obtain ⟨b, hb, hf⟩ := Lib.mapM_at hm i i (by simp [hi])
        obtain ⟨y0, y1, m, rfl, hlen, h0, h1⟩ := trod_struct2 Tryd.underlying60 hf
        dsimp only at h0 h1
        rw [cellsStr] at h0 h1
        obtain ⟨s, hc, rfl, _⟩ := DataW.trod_string Tryd.underlying9 h0
        obtain ⟨z, hd, rfl, _⟩ := DataW.trod_string Tryd.underlying9 h1
        have g0 : cs[i * 2]? = some (.string s) := by
          have := congrArg (·[0]?) hc
          simpa [List.getElem?_take, List.getElem?_drop] using this
        have g1 : cs[i * 2 + 1]? = some (.string z) := by
          have := congrArg (·[0]?) hd
          simpa [List.getElem?_take, List.getElem?_drop] using this
        have h2 : (ys.map (·.1))[i]? = some (DataW.agg [.lit (.string s.data.toList), .lit (.string z.data.toList)] : DataW H) := by simp [hb]
        rw [hys] at h2
        simp only [List.getElem?_map, Option.map_eq_some_iff] at h2
        obtain ⟨x, hx, hxe⟩ := h2
        injection hxe with hxe
        injection hxe with e1 e2
        injection e1 with e1
        injection e1 with e1
        injection e2 with e2 _
        injection e2 with e2
        injection e2 with e2
        obtain ⟨o0, o1⟩ := text_cells i hi
        refine ⟨?_, ?_⟩
        · rw [g0, o0, hx, Option.map_some, e1]
        · rw [g1, o1, hx, Option.map_some, e2]
      apply Array.ext_getElem?
      intro j
      rw [List.getElem?_toArray]
      by_cases hj : j < 50
      · rcases Nat.mod_two_eq_zero_or_one j with hm | hm
        · have := (hall (j / 2) (by omega)).1
          rw [show j / 2 * 2 = j by omega] at this
          exact this
        · have := (hall (j / 2) (by omega)).2
          rw [show j / 2 * 2 + 1 = j by omega] at this
          exact this
      · rw [List.getElem?_eq_none (by omega), Array.getElem?_eq_none (by show 50 ≤ j; omega)]
    · cases h
theorem var_block {W : World} {n : String} {g : Nat} {cs : Array Value} (hg : Tryd.prog.globalNamed n = some g) (hvar : W.var? Tryd.prog n = some cs) : ∃ t fr, W.heap[g]? = some (.cells cs t fr) := by
  simp only [World.var?, hg, Option.bind_some] at hvar
  split at hvar
  · rename_i c t fr hh
    obtain rfl := Option.some.inj hvar
    exact ⟨t, fr, hh⟩
  · cases hvar
theorem texts_of_laid {W : World} (h : laidMet Tryd.prog [("debugger/isa.texts", Rows.laid_debugger_isa_texts)] W) : TextsAt W := by
  obtain ⟨ps, ⟨g, t, cs, fuel, p, q, hg, ht, hvar, hd, _, _⟩, _⟩ := h
  obtain rfl := Option.some.inj (global0.symm.trans hg)
  obtain rfl := Option.some.inj (global0T.symm.trans ht)
  rw [show (Rows.laid_debugger_isa_texts : DataW Unit) = .agg (textsL.map fun x => .agg [.lit (.string x.1), .lit (.string x.2)]) from rfl] at hd
  have hcs := cells_of_texts hd
  rw [Array.toArray_toList] at hcs
  subst hcs
  exact var_block global0 hvar
theorem tab_of_laid {W : World} (h : laidMet Tryd.prog [("internal/strconv.uint64pow10", Rows.laid_internal_strconv_uint64pow10)] W) : Lib.TabIs Tryd.prog W "internal/strconv.uint64pow10" .u64 Lib.pow10Tab :=
  Lib.tabIs_of_head (P := Tryd.prog) (rest := []) (n := 20) global3 (t := 92) (by kernel_rfl) Tryd.underlying92 Tryd.underlying86 (by kernel_rfl) (by kernel_rfl) h
theorem vars_of_laid {W : World} (h : laidMet Tryd.prog laidL W) : VarsAt W := by
  have h1 := texts_of_laid (h.filter fun x => x.1 == "debugger/isa.texts")
  have h3 := tab_of_laid (h.filter fun x => x.1 == "internal/strconv.uint64pow10")
  refine ⟨h1, h3, ?_, ?_⟩
  · obtain ⟨t, fr, hb⟩ := h1
    exact (Array.getElem?_eq_some_iff.1 hb).1
  · obtain ⟨t, fr, hb⟩ := var_block global3 h3
    exact (Array.getElem?_eq_some_iff.1 hb).1
/-- Cells laid into a block. -/
def layCells (h : Array Obj) (b : Nat) (cs : Array Value) : Array Obj := h.modify b fun
  | .cells _ t frozen => .cells cs t frozen
  | o => o
def numsA (k : IntKind) (zs : List Int) : Array Value := (zs.map fun z => Value.int k z).toArray
def tab32 : List Int := [0, 1, 28, 2, 29, 14, 24, 3, 30, 22, 20, 15, 25, 17, 4, 8, 31, 27, 13, 23, 21, 19, 16, 7, 26, 12, 18, 6, 11, 5, 10, 9]
def tab64 : List Int := [0, 1, 56, 2, 57, 49, 28, 3, 61, 58, 42, 50, 38, 29, 17, 4, 62, 47, 59, 36, 45, 43, 51, 22, 53, 39, 33, 30, 24, 18, 12, 5, 63, 55, 48, 27, 60, 41, 37, 16, 46, 35, 44, 21, 52, 32, 23, 11, 54, 26, 40, 15, 34, 20, 31, 10, 25, 14, 19, 9, 13, 8, 7, 6]
/-- A world that meets the condition: the settled one, the variables' cells laid. -/
noncomputable def laidWorld (os : Os) : World :=
  { World.holding Tryd.prog os ⟨#[], #[], []⟩ with heap := layCells (layCells (layCells (layCells (World.holding Tryd.prog os ⟨#[], #[], []⟩).heap 0 textsA) 1 (numsA .u64 Lib.pow10Tab)) 2 (numsA .u8 tab32)) 3 (numsA .u8 tab64) }
theorem laidWorld_met (os : Os) (args : Array Value) : laidMet Tryd.prog laidL ((laidWorld os).forCall (fun _ _ => 0) ⟨#[], args, []⟩).memory :=
  laidMet_of_run' 8 (by kernel_rfl) (by kernel_rfl)
theorem i64_wf {n : Int} (h : (Lit.int .i64 n).wf = true) : -9223372036854775808 ≤ n ∧ n < 9223372036854775808 := by
  simp [Lit.wf, IntKind.min, IntKind.max, IntKind.signed, IntKind.bits] at h
  omega
end Go.Proofs.YtimiofmmhccmmaaDoor
