/-
  The statements' own sanity check of the parser: known answers true. Condition: the packages' variables. From the row's condition (the packages' variables read as the program's text lays them) to what the walks ask; and a world that meets it. No condition.
-/
import Derived.Test.YtpfefjfpnmchcaaDoorZWm
import Derived.Test.YtpfefjfpnmchcaaDoorZPy
import Derived.Lib.LaidTab
import Derived.LaidLaws
import Derived.LaidSub
import Derived.ChangeSame
import Derived.ChangeVars
import Derived.RowKit
namespace Go.Proofs.YtpfefjfpnmchcaaDoor
open Go.RowKit

/-- What the packages' variables hold: signs, operators, powers of ten. -/
def VarsAt (w : World) : Prop := SignsAt w ∧ Pk w ∧ PkB w.heap.size
theorem VarsAt.below {w w' : World} (h : VarsAt w) (hb : Below w.heap.size w w') : VarsAt w' :=
  ⟨h.1.below hb h.1.lt, h.2.1.wr h.2.2 (Wr.still (Nat.le_refl _) hb), Nat.lt_of_lt_of_le h.2.2.1 hb.size, Nat.lt_of_lt_of_le h.2.2.2 hb.size⟩
theorem VarsAt.alloc {w : World} (h : VarsAt w) (o : Obj) : VarsAt (w.alloc o) := h.below ((Below.refl _ _).alloc (Nat.le_refl _) o)

def inIB (x : Int) : Bool := decide (-9223372036854775808 ≤ x ∧ x ≤ 9223372036854775807)
mutual
def nmEB : Ex → Bool
  | .mk _ num _ _ _ args => inIB num && nmEsB args
def nmEsB : List Ex → Bool
  | [] => true
  | a :: l => nmEB a && nmEsB l
end
mutual
def nmSB : Sm → Bool
  | .mk _ _ _ _ _ len _ target _ _ args body els => inIB len && (nmEsB target && (nmEsB args && (nmSsB body && nmSsB els)))
def nmSsB : List Sm → Bool
  | [] => true
  | s :: l => nmSB s && nmSsB l
end
mutual
theorem nmE_of : ∀ x : Ex, nmEB x = true → NmE x
  | .mk _ num _ _ _ args, h => by
    unfold nmEB at h
    rw [Bool.and_eq_true] at h
    unfold NmE
    exact ⟨by simpa [inIB, InI] using h.1, nmEs_of args h.2⟩
theorem nmEs_of : ∀ l : List Ex, nmEsB l = true → NmEs l
  | [], _ => by unfold NmEs; trivial
  | a :: l, h => by
    unfold nmEsB at h
    rw [Bool.and_eq_true] at h
    unfold NmEs
    exact ⟨nmE_of a h.1, nmEs_of l h.2⟩
end
mutual
theorem nmS_of : ∀ x : Sm, nmSB x = true → NmS x
  | .mk _ _ _ _ _ len _ target _ _ args body els, h => by
    unfold nmSB at h
    rw [Bool.and_eq_true, Bool.and_eq_true, Bool.and_eq_true, Bool.and_eq_true] at h
    unfold NmS
    exact ⟨by simpa [inIB, InI] using h.1, nmEs_of target h.2.1, nmEs_of args h.2.2.1, nmSs_of body h.2.2.2.1, nmSs_of els h.2.2.2.2⟩
theorem nmSs_of : ∀ l : List Sm, nmSsB l = true → NmSs l
  | [], _ => by unfold NmSs; trivial
  | a :: l, h => by
    unfold nmSsB at h
    rw [Bool.and_eq_true] at h
    unfold NmSs
    exact ⟨nmS_of a h.1, nmSs_of l h.2⟩
end
def nmPB (g : Prg) : Bool := g.funs.all fun f => nmSsB f.body
theorem nmP_of (g : Prg) (h : nmPB g = true) : NmP g := fun f hf => by
  unfold nmPB at h
  rw [List.all_eq_true] at h
  exact nmSs_of _ (h f hf)

def knownSrc : List UInt8 := [102, 117, 110, 99, 32, 102, 40, 97, 41, 123, 114, 101, 116, 117, 114, 110, 32, 40, 97, 43, 49, 41, 42, 50, 59, 125]
def knownOut : List UInt8 := [102, 117, 110, 99, 32, 102, 40, 97, 41, 32, 123, 10, 9, 114, 101, 116, 117, 114, 110, 32, 40, 97, 32, 43, 32, 49, 41, 32, 42, 32, 50, 59, 10, 125, 10]
def knownB : Res Prg → Bool
  | .ok g _ => decide (g.recs.length = 0) && (decide (g.funs.map (·.body.length) = [2]) && (decide (programT g = knownOut) && nmPB g))
  | _ => false
theorem known_parse : knownB (parseP 400 knownSrc) = true := by decide +kernel
theorem known_is : ∃ g rest, parseP 400 knownSrc = .ok g rest ∧ (∃ f, g.funs = [f] ∧ f.body.length = 2) ∧ programT g = knownOut ∧ NmP g := by
  have h := known_parse
  cases hR : parseP 400 knownSrc with
  | ok g rest =>
    rw [hR] at h
    unfold knownB at h
    rw [Bool.and_eq_true, Bool.and_eq_true, Bool.and_eq_true] at h
    obtain ⟨_, h2, h3, h4⟩ := h
    refine ⟨g, rest, rfl, ?_, by simpa using h3, nmP_of g h4⟩
    have h2 := of_decide_eq_true h2
    match hf : g.funs, h2 with
    | [f], h2 => exact ⟨f, rfl, by simpa using h2⟩
    | [], h2 => simp at h2
    | _ :: _ :: _, h2 => simp at h2
  | err l e => rw [hR] at h; cases h
  | out => rw [hR] at h; cases h

set_option maxHeartbeats 2000000 in
set_option maxRecDepth 100000 in
theorem known_any {w : World} (hV : VarsAt w) : Calls Tryd.prog 10 #[] w fun e w' => e = .returned (.bool true) ∧ Below w.heap.size w w' := by
  obtain ⟨g, rest, hp, ⟨f, hf, hbl⟩, hpt, hnm⟩ := known_is
  have HP := Lib.hid (parse_any ⟨knownSrc.toArray⟩ w hV.1 hV.2.1.1 (by simp [ByteArray.size]; decide) 400 (by omega) (.ok g rest) (Lib.hid hp) (fun e => by cases e))
  have hk0 : (knownOut == [102, 117, 110, 99, 32, 102, 40, 97, 41, 32, 123, 10, 9, 114, 101, 116, 117, 114, 110, 32, 40, 97, 32, 43, 32, 49, 41, 32, 42, 32, 50, 59, 10, 125, 10]) = true := by decide
  have HPT := Lib.hid hpt
  have HNM := Lib.hid hnm
  have HF := Lib.hid hf
  have HV := Lib.hid hV
  have hpk := hV.2.2
  clear hp hpt hnm hf hV
  go_enter Tryd.func10, Tryd.ntmps10
  go_wp2_with fail
  refine HP.out.mono ?_
  rintro e w1 ⟨v, rfl, hv, hb1⟩
  have HV1 := Lib.hid (HV.out.below hb1)
  have hs1 := hb1.size
  have HB1 := Lib.hid hb1
  have hvv := hv
  obtain ⟨A, c, A', c', rfl, hr, hfs⟩ := hv
  have hfk : g.funs[0]? = some f := by rw [HF.out]; rfl
  obtain ⟨b, A1, c1, A2, c2, rfl, hnm, hsm, g0, g1, g2, g3⟩ := fun_arg hfs hfk
  have hlen : g.funs.length = 1 := by rw [HF.out]; rfl
  simp only [Nat.zero_mul, Nat.zero_add] at g0 g1 g2 g3
  rw [hlen] at hvv ⊢
  rw [hbl] at g3
  have HP2 := Lib.hid (printed_any (w := w1.alloc (.cells #[.slice A g.recs.length c, .slice (some ⟨b, 0, none⟩) 1 c'] 28)) (p := tt) (v := .agg #[.slice A g.recs.length c, .slice (some ⟨b, 0, none⟩) 1 c']) (g := g) (HV1.out.alloc _).2.2 (HV1.out.alloc _).2.1 (hvv.wr (wr_alloc (Nat.le_refl _) _)) HNM.out (by rw [HPT.out]; decide) (by rw [HPT.out]; decide))
  rw [HPT.out] at HP2
  have hbl' := World.block_lt_of_cell? w1 _ g3
  dsimp only at hbl'
  have hc1 : 1 ≤ c' := by have := hfs.1; omega
  clear hvv hr hfs hfk hnm hsm hlen hb1 hbl HNM HPT
  go_wp2_with fail
  refine HP2.out.mono ?_
  rintro e w2 ⟨rfl, hb2⟩
  have HB2 := Lib.hid ((HB1.out.alloc hs1 _).trans (hb2.mono (by simp; omega)))
  clear hb2
  go_wp2_with fail
  go_ret
  exact ⟨rfl, HB2.out⟩
end Go.Proofs.YtpfefjfpnmchcaaDoor
namespace Go.Proofs.YtpfefjfpnmchcaaDoor
open Go.ChangeShapes Go.WideShapes Go.RowKit

def laidL : List (String × DataW Unit) := [("math/bits.deBruijn32tab", Rows.laid_math_bits_deBruijn32tab), ("math/bits.deBruijn64tab", Rows.laid_math_bits_deBruijn64tab), ("internal/strconv.uint64pow10", Rows.laid_internal_strconv_uint64pow10), ("debugger/lexer.signs", Rows.laid_debugger_lexer_signs), ("debugger/parser.operators", Rows.laid_debugger_parser_operators)]
theorem global0 : Tryd.prog.globalNamed "debugger/lexer.signs" = some 0 := by kernel_rfl
theorem global0T : (Tryd.prog.globals[0]?).map (·.type) = some 106 := by kernel_rfl
theorem global2 : Tryd.prog.globalNamed "debugger/parser.operators" = some 2 := by kernel_rfl
theorem global2T : (Tryd.prog.globals[2]?).map (·.type) = some 132 := by kernel_rfl
theorem global3 : Tryd.prog.globalNamed "internal/strconv.uint64pow10" = some 3 := by kernel_rfl
theorem cellsArr : Tryd.prog.cellsOf 106 = 24 := by kernel_rfl
theorem cellsStr : Tryd.prog.cellsOf 9 = 1 := by kernel_rfl
theorem cellsOpers : Tryd.prog.cellsOf 132 = 24 := by kernel_rfl
theorem cellsOper : Tryd.prog.cellsOf 131 = 2 := by kernel_rfl
theorem cellsInt : Tryd.prog.cellsOf 3 = 1 := by kernel_rfl

/-- An array of texts that reads as given data holds these texts, cell for cell. -/
theorem cells_of_strs {H : Type} {enc : TypeId × Value → H} {P : Program} {w : World} {base : Nat} {sp : Nat → Bool} {held : Bool} {fuel : Nat} {t e : TypeId} {n : Nat} {cs : List Value} {xs : List (List UInt8)} {p : List MemPlace}
    (ht : P.underlying t = some (.array n e)) (he : P.underlying e = some .string) (hce : P.cellsOf e = 1) (hct : P.cellsOf t = n)
    (h : DataW.trod enc P w base sp held fuel t cs = some (.agg (xs.map fun x => .lit (.string x)), p)) : cs = xs.map fun x => Value.string ⟨x.toArray⟩ := by
  cases fuel with
  | zero => simp [DataW.trod] at h
  | succ fuel =>
    simp only [DataW.trod, ht, hce, hct, Nat.mul_one] at h
    split at h
    · rename_i hl
      obtain ⟨ys, hm, hx⟩ := Option.map_eq_some_iff.1 h
      have hys : ys.map (·.1) = xs.map fun x => (DataW.lit (.string x) : DataW H) := by
        have := congrArg Prod.fst hx
        simpa using this
      have hyl : ys.length = n := by simpa using Lib.mapM_length hm
      have hxl : xs.length = n := by
        have := congrArg List.length hys
        simp at this
        omega
      apply List.ext_getElem?
      intro i
      by_cases hi : i < n
      · obtain ⟨b, hb, hf⟩ := Lib.mapM_at hm i i (by simp [hi])
        obtain ⟨s, hc, rfl, _⟩ := DataW.trod_string he hf
        have h1 : cs[i]? = some (.string s) := by
          have := congrArg (·[0]?) hc
          simpa [List.getElem?_take, List.getElem?_drop] using this
        have h2 : (ys.map (·.1))[i]? = some (DataW.lit (.string s.data.toList) : DataW H) := by simp [hb]
        rw [hys] at h2
        simp only [List.getElem?_map, Option.map_eq_some_iff, DataW.lit.injEq, Lit.string.injEq] at h2
        obtain ⟨x, hx, rfl⟩ := h2
        simp [h1, hx]
      · rw [List.getElem?_eq_none (by omega), List.getElem?_eq_none (by simp; omega)]
    · cases h
/-- The array of operators that reads as given data holds them, cell for cell. -/
theorem cells_of_opers {H : Type} {enc : TypeId × Value → H} {w : World} {base : Nat} {sp : Nat → Bool} {held : Bool} {fuel : Nat} {cs : List Value} {p : List MemPlace}
    (h : DataW.trod enc Tryd.prog w base sp held fuel 132 cs = some (.agg (opers.map fun x => .agg [.lit (.string x.1), .lit (.int .i64 x.2)]), p)) : cs.toArray = opersA := by
  cases fuel with
  | zero => simp [DataW.trod] at h
  | succ fuel =>
    simp only [DataW.trod, Tryd.underlying132, cellsOper, cellsOpers] at h
    split at h
    · rename_i hl
      obtain ⟨ys, hm, hx⟩ := Option.map_eq_some_iff.1 h
      have hys : ys.map (·.1) = opers.map fun x => (DataW.agg [.lit (.string x.1), .lit (.int .i64 x.2)] : DataW H) := by
        have := congrArg Prod.fst hx
        simpa using this
      have hall : ∀ i, i < 12 → cs[i * 2]? = opersA[i * 2]? ∧ cs[i * 2 + 1]? = opersA[i * 2 + 1]? := fun i hi => by
        obtain ⟨b, hb, hf⟩ := Lib.mapM_at hm i i (by simp [hi])
        obtain ⟨y0, y1, m, rfl, hlen, h0, h1⟩ := trod_struct2 Tryd.underlying131 hf
        dsimp only at h0 h1
        rw [cellsStr] at h0
        rw [cellsInt] at h1
        obtain ⟨s, hc, rfl, _⟩ := DataW.trod_string Tryd.underlying9 h0
        obtain ⟨z, hd, rfl, _⟩ := DataW.trod_int Tryd.underlying3 h1
        have g0 : cs[i * 2]? = some (.string s) := by
          have := congrArg (·[0]?) hc
          simpa [List.getElem?_take, List.getElem?_drop] using this
        have g1 : cs[i * 2 + 1]? = some (.int .i64 z) := by
          have := congrArg (·[0]?) hd
          simpa [List.getElem?_take, List.getElem?_drop] using this
        have h2 : (ys.map (·.1))[i]? = some (DataW.agg [.lit (.string s.data.toList), .lit (.int .i64 z)] : DataW H) := by simp [hb]
        rw [hys] at h2
        simp only [List.getElem?_map, Option.map_eq_some_iff] at h2
        obtain ⟨x, hx, hxe⟩ := h2
        injection hxe with hxe
        injection hxe with e1 e2
        injection e1 with e1
        injection e1 with e1
        injection e2 with e2 _
        injection e2 with e2
        injection e2 with _ e2
        have hos : operSign i = x.1 := by unfold operSign; rw [List.getD_eq_getElem?_getD, hx]; rfl
        have hor : operRank i = x.2 := by unfold operRank; rw [List.getD_eq_getElem?_getD, hx]; rfl
        obtain ⟨o0, o1⟩ := oper_cells i hi
        refine ⟨?_, ?_⟩
        · rw [g0, o0, hos, e1]
        · rw [g1, o1, hor, e2]
      apply Array.ext_getElem?
      intro j
      rw [List.getElem?_toArray]
      by_cases hj : j < 24
      · rcases Nat.mod_two_eq_zero_or_one j with hm | hm
        · have := (hall (j / 2) (by omega)).1
          rw [show j / 2 * 2 = j by omega] at this
          exact this
        · have := (hall (j / 2) (by omega)).2
          rw [show j / 2 * 2 + 1 = j by omega] at this
          exact this
      · rw [List.getElem?_eq_none (by omega), Array.getElem?_eq_none (by show 24 ≤ j; omega)]
    · cases h
theorem var_block {W : World} {n : String} {g : Nat} {cs : Array Value} (hg : Tryd.prog.globalNamed n = some g) (hvar : W.var? Tryd.prog n = some cs) : ∃ t fr, W.heap[g]? = some (.cells cs t fr) := by
  simp only [World.var?, hg, Option.bind_some] at hvar
  split at hvar
  · rename_i c t fr hh
    obtain rfl := Option.some.inj hvar
    exact ⟨t, fr, hh⟩
  · cases hvar
theorem signs_of_laid {W : World} (h : laidMet Tryd.prog [("debugger/lexer.signs", Rows.laid_debugger_lexer_signs)] W) : SignsAt W := by
  obtain ⟨ps, ⟨g, t, cs, fuel, p, q, hg, ht, hvar, hd, _, _⟩, _⟩ := h
  obtain rfl := Option.some.inj (global0.symm.trans hg)
  obtain rfl := Option.some.inj (global0T.symm.trans ht)
  rw [show (Rows.laid_debugger_lexer_signs : DataW Unit) = .agg (signs.map fun x => .lit (.string x)) from rfl] at hd
  have hcs := cells_of_strs Tryd.underlying106 Tryd.underlying9 cellsStr cellsArr hd
  have hcs2 : cs = signsA := by
    apply Array.ext'
    rw [hcs]
    rfl
  subst hcs2
  exact var_block global0 hvar
theorem opers_of_laid {W : World} (h : laidMet Tryd.prog [("debugger/parser.operators", Rows.laid_debugger_parser_operators)] W) : OpersAt W := by
  obtain ⟨ps, ⟨g, t, cs, fuel, p, q, hg, ht, hvar, hd, _, _⟩, _⟩ := h
  obtain rfl := Option.some.inj (global2.symm.trans hg)
  obtain rfl := Option.some.inj (global2T.symm.trans ht)
  rw [show (Rows.laid_debugger_parser_operators : DataW Unit) = .agg (opers.map fun x => .agg [.lit (.string x.1), .lit (.int .i64 x.2)]) from rfl] at hd
  have hcs := cells_of_opers hd
  rw [Array.toArray_toList] at hcs
  subst hcs
  exact var_block global2 hvar
theorem tab_of_laid {W : World} (h : laidMet Tryd.prog [("internal/strconv.uint64pow10", Rows.laid_internal_strconv_uint64pow10)] W) : Lib.TabIs Tryd.prog W "internal/strconv.uint64pow10" .u64 Lib.pow10Tab :=
  Lib.tabIs_of_head (P := Tryd.prog) (rest := []) (n := 20) global3 (t := 146) (by kernel_rfl) Tryd.underlying146 Tryd.underlying138 (by kernel_rfl) (by kernel_rfl) h
theorem vars_of_laid {W : World} (h : laidMet Tryd.prog laidL W) : VarsAt W := by
  have h1 := signs_of_laid (h.filter fun x => x.1 == "debugger/lexer.signs")
  have h2 := opers_of_laid (h.filter fun x => x.1 == "debugger/parser.operators")
  have h3 := tab_of_laid (h.filter fun x => x.1 == "internal/strconv.uint64pow10")
  refine ⟨h1, ⟨h2, h3⟩, ?_, ?_⟩
  · obtain ⟨t, fr, hb⟩ := h2
    exact (Array.getElem?_eq_some_iff.1 hb).1
  · obtain ⟨t, fr, hb⟩ := var_block global3 h3
    exact (Array.getElem?_eq_some_iff.1 hb).1
/-- Cells laid into a block. -/
def layCells (h : Array Obj) (b : Nat) (cs : Array Value) : Array Obj := h.modify b fun
  | .cells _ t frozen => .cells cs t frozen
  | o => o
def numsA (k : IntKind) (zs : List Int) : Array Value := (zs.map fun z => Value.int k z).toArray
def tab32 : List Int := [0, 1, 28, 2, 29, 14, 24, 3, 30, 22, 20, 15, 25, 17, 4, 8, 31, 27, 13, 23, 21, 19, 16, 7, 26, 12, 18, 6, 11, 5, 10, 9]
def tab64 : List Int := [0, 1, 56, 2, 57, 49, 28, 3, 61, 58, 42, 50, 38, 29, 17, 4, 62, 47, 59, 36, 45, 43, 51, 22, 53, 39, 33, 30, 24, 18, 12, 5, 63, 55, 48, 27, 60, 41, 37, 16, 46, 35, 44, 21, 52, 32, 23, 11, 54, 26, 40, 15, 34, 20, 31, 10, 25, 14, 19, 9, 13, 8, 7, 6]
/-- A world that meets the condition: the settled one, the variables' cells laid. -/
noncomputable def laidWorld (os : Os) : World :=
  { World.holding Tryd.prog os ⟨#[], #[], []⟩ with heap := layCells (layCells (layCells (layCells (layCells (World.holding Tryd.prog os ⟨#[], #[], []⟩).heap 0 signsA) 2 opersA) 3 (numsA .u64 Lib.pow10Tab)) 4 (numsA .u8 tab32)) 5 (numsA .u8 tab64) }
theorem laidWorld_met (os : Os) (args : Array Value) : laidMet Tryd.prog laidL ((laidWorld os).forCall (fun _ _ => 0) ⟨#[], args, []⟩).memory :=
  laidMet_of_run' 8 (by kernel_rfl) (by kernel_rfl)
theorem i64_wf {n : Int} (h : (Lit.int .i64 n).wf = true) : -9223372036854775808 ≤ n ∧ n < 9223372036854775808 := by
  simp [Lit.wf, IntKind.min, IntKind.max, IntKind.signed, IntKind.bits] at h
  omega
end Go.Proofs.YtpfefjfpnmchcaaDoor
