/-
  What the packages' variables hold: the instructions' names and fields, the powers of ten. No condition.
-/
import Derived.Test.YtimiofmmhccmmaaDoorIDec
import Derived.Test.YtimiofmmhccmmaaDoorShelf
import Derived.Test.YtimiofmmhccmmaaDoorTx
import Derived.Lib.LaidTab
import Derived.ChangeVars
namespace Go.Proofs.YtimiofmmhccmmaaDoor
open Go.RowKit

/-- The instructions' names and fields. -/
def textsA : Array Value := #[.string ⟨#[110, 111, 112]⟩, .string ⟨#[]⟩, .string ⟨#[98, 114, 101, 97, 107]⟩, .string ⟨#[]⟩, .string ⟨#[99, 111, 110, 115, 116]⟩, .string ⟨#[97, 110]⟩, .string ⟨#[112, 111, 111, 108]⟩, .string ⟨#[97, 110]⟩, .string ⟨#[109, 111, 118, 101]⟩, .string ⟨#[97, 98]⟩, .string ⟨#[97, 100, 100]⟩, .string ⟨#[97, 98, 99]⟩, .string ⟨#[115, 117, 98]⟩, .string ⟨#[97, 98, 99]⟩, .string ⟨#[109, 117, 108]⟩, .string ⟨#[97, 98, 99]⟩, .string ⟨#[100, 105, 118]⟩, .string ⟨#[97, 98, 99]⟩, .string ⟨#[109, 111, 100]⟩, .string ⟨#[97, 98, 99]⟩, .string ⟨#[97, 110, 100]⟩, .string ⟨#[97, 98, 99]⟩, .string ⟨#[111, 114]⟩, .string ⟨#[97, 98, 99]⟩, .string ⟨#[120, 111, 114]⟩, .string ⟨#[97, 98, 99]⟩, .string ⟨#[108, 101, 115, 115]⟩, .string ⟨#[97, 98, 99]⟩, .string ⟨#[108, 101, 115, 115, 101, 113]⟩, .string ⟨#[97, 98, 99]⟩, .string ⟨#[101, 113, 117, 97, 108]⟩, .string ⟨#[97, 98, 99]⟩, .string ⟨#[110, 111, 116, 101, 113, 117, 97, 108]⟩, .string ⟨#[97, 98, 99]⟩, .string ⟨#[97, 100, 100, 105, 109, 109]⟩, .string ⟨#[97, 98, 110]⟩, .string ⟨#[108, 111, 97, 100]⟩, .string ⟨#[97, 98, 110]⟩, .string ⟨#[115, 116, 111, 114, 101]⟩, .string ⟨#[97, 98, 110]⟩, .string ⟨#[106, 117, 109, 112]⟩, .string ⟨#[110]⟩, .string ⟨#[122, 101, 114, 111]⟩, .string ⟨#[97, 110]⟩, .string ⟨#[99, 97, 108, 108]⟩, .string ⟨#[110]⟩, .string ⟨#[114, 101, 116, 117, 114, 110]⟩, .string ⟨#[]⟩, .string ⟨#[112, 114, 105, 110, 116]⟩, .string ⟨#[97]⟩]
def TextsAt (w : World) : Prop := ∃ t fr, w.heap[0]? = some (.cells textsA t fr)
/-- The packages' variables. -/
structure VarsAt (w : World) : Prop where
  texts : TextsAt w
  tab : Lib.TabIs Tryd.prog w "internal/strconv.uint64pow10" .u64 Lib.pow10Tab
  lt0 : 0 < w.heap.size
  lt1 : 1 < w.heap.size
theorem var_same {w w' : World} {n : String} {g : Nat} {cs : Array Value} (hn : Tryd.prog.globalNamed n = some g) (hb : w'.heap[g]? = w.heap[g]?) (hv : w.var? Tryd.prog n = some cs) : w'.var? Tryd.prog n = some cs := by
  simp only [World.var?, hn, Option.bind_some] at hv ⊢
  rw [hb]
  exact hv
theorem VarsAt.below {w w' : World} (h : VarsAt w) (hb : Below w.heap.size w w') : VarsAt w' :=
  ⟨by
    obtain ⟨t, fr, e⟩ := h.texts
    exact ⟨t, fr, (hb.block _ h.lt0).trans e⟩, var_same (by kernel_rfl) (hb.block _ h.lt1) h.tab, Nat.lt_of_lt_of_le h.lt0 hb.size, Nat.lt_of_lt_of_le h.lt1 hb.size⟩
theorem itoa_any (n : Int) (hn : I64 n) (w : World) (hv : VarsAt w) : Calls Tryd.prog 42 #[.int .i64 n] w (GivesT w (Lib.itoa n)) := by
  refine (Tryd.strconv_Itoa n hn.1 (by have := hn.2; omega) w hv.tab).mono ?_
  rintro e w' ⟨rfl, k, os, rfl⟩
  exact ⟨rfl, ⟨rfl, rfl, rfl, by simp [Sort.grow], fun b hb => by simp [Sort.grow, Array.getElem?_append_left hb]⟩⟩
end Go.Proofs.YtimiofmmhccmmaaDoor
