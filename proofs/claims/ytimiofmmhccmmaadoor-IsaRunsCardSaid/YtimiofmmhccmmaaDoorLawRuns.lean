/-
  The law IsaRuns, its parts: same.Outcome, a list of instructions that is made, both runs. Condition: numbers of 64 bits.
-/
import Derived.Test.YtimiofmmhccmmaaDoorRRun
import Derived.Test.YtimiofmmhccmmaaDoorKnown
import Derived.Test.YtimiofmmhccmmaaDoorNsame
import Derived.Test.YtimiofmmhccmmaaDoorLawBack
import Derived.Deep.DeepCutAuto
import Derived.Deep.CutBlock
namespace Go.Proofs.YtimiofmmhccmmaaDoor
open Go.RowKit

theorem outcome_same (o : Outc) (A : Option Addr) (c : Nat) (A' : Option Addr) (c' : Nat) (w : World) (h : Nums w A c o.output) (h' : Nums w A' c' o.output) :
    Calls Tryd.prog 23 #[.agg #[.int .i64 o.err, .bool o.thrown, .int .i64 o.value, .slice A o.output.length c], .agg #[.int .i64 o.err, .bool o.thrown, .int .i64 o.value, .slice A' o.output.length c']] w fun e w' => e = .returned (.bool true) ∧ Below w.heap.size w w' := by
  obtain ⟨er, th, va, out⟩ := o
  simp only at h h' ⊢
  have H := Lib.hid h
  have H' := Lib.hid h'
  clear h h'
  have B0 := Lib.hid (((Below.refl w.heap.size w).alloc (Nat.le_refl _) (.cells #[.int .i64 er, .bool th, .int .i64 va, .slice A out.length c] 48)).alloc (by simp) (.cells #[.int .i64 er, .bool th, .int .i64 va, .slice A' out.length c'] 48))
  go_enter Tryd.func23, Tryd.ntmps23
  go_wp2_with fail
  refine (nums_same A A' c c' out _ (H.out.below B0.out) (H'.out.below B0.out)).mono ?_
  rintro e w1 ⟨rfl, hb⟩
  have HB := Lib.hid (B0.out.trans (hb.mono (by simp; omega)))
  clear hb B0
  go_wp2_with fail
  go_ret
  exact ⟨rfl, HB.out⟩
/-- The instructions' cells. -/
def insCells : List Ins → List Value
  | [] => []
  | i :: l => .int .i64 i.op :: .int .i64 i.a :: .int .i64 i.b :: .int .i64 i.c :: .int .i64 i.imm :: insCells l
theorem insCells_append : ∀ (l m : List Ins), insCells (l ++ m) = insCells l ++ insCells m
  | [], _ => rfl
  | i :: l, m => by simp only [List.cons_append, insCells, insCells_append l m]
theorem insCells_at : ∀ (l : List Ins) (k : Nat) (h : k < l.length), (insCells l)[k * 5]? = some (.int .i64 l[k].op) ∧ (insCells l)[k * 5 + 1]? = some (.int .i64 l[k].a) ∧ (insCells l)[k * 5 + 2]? = some (.int .i64 l[k].b) ∧ (insCells l)[k * 5 + 3]? = some (.int .i64 l[k].c) ∧ (insCells l)[k * 5 + 4]? = some (.int .i64 l[k].imm)
  | i :: l, 0, _ => ⟨rfl, rfl, rfl, rfl, rfl⟩
  | i :: l, k + 1, h => by
    have := insCells_at l k (by simpa using h)
    rw [show (k + 1) * 5 = k * 5 + 5 by omega]
    exact this
theorem inst_info : (Tryd.prog.info? 23).map (fun i => (i.zero, i.size, i.bytes)) = some (some (.agg #[.int .i64 0, .int .i64 0, .int .i64 0, .int .i64 0, .int .i64 0]), 5, 40) := by kernel_rfl
theorem inss_of_own {w : World} {base : Nat} {A : Option Addr} {c : Nat} {l : List Ins} (hf : ∀ i ∈ l, i.Fits) (h : w.ownsRow base 23 5 (.slice A l.length c) l.length (insCells l)) : Inss w A c l := by
  rcases h.2 with ⟨hv, hn⟩ | ⟨g, cap, cur, hv, hb, hg, hn, hm, hs, ht⟩
  · refine ⟨hf, fun hne => absurd (List.eq_nil_of_length_eq_zero (by injection hv)) hne⟩
  · injection hv with h1 h2 h3
    subst h1 h3
    have hgs : g < w.heap.size := (Array.getElem?_eq_some_iff.1 hg).1
    refine ⟨hf, fun _ => ⟨g, 0, rfl, hgs, fun k hk => ?_⟩⟩
    obtain ⟨a0, a1, a2, a3, a4⟩ := insCells_at l k hk
    have hc : ∀ j v, (insCells l)[j]? = some v → w.cell? ⟨g, j, none⟩ = some v := fun j v hj => by
      rw [cell_of_row w g j cur _ _ hg]
      rw [← ht, List.getElem?_take] at hj
      split at hj
      · rw [Array.getElem?_toList] at hj
        exact hj
      · cases hj
    refine ⟨?_, ?_, ?_, ?_, ?_⟩ <;> (simp only [Nat.zero_add]; apply hc; assumption)
theorem cell_five (w : World) (a b c d e : Value) (t : TypeId) : ∀ (j : Nat) (u : Value), ([a, b, c, d, e] : List Value)[j]? = some u → (w.alloc (.cells #[a, b, c, d, e] t)).cell? ((⟨w.heap.size, 0, none⟩ : Addr).add j) = some u := by
  intro j u hu
  rw [Addr.add_lit, World.cell?_alloc_at _ _ _ _ rfl, Nat.zero_add]
  simpa using hu
theorem own_apart {w U : World} {base N size n : Nat} {e T : TypeId} {v : Value} {xs : List Value} {cs : Array Value} (h : w.ownsRow base e size v n xs) (hN : ∀ k, v.ownBlock = some k → k ≠ N) (hU : SetC N cs T w U) : U.ownsRow base e size v n xs := by
  refine ⟨h.1, ?_⟩
  rcases h.2 with hn | ⟨g, cap, cur, rfl, hb, hgg, rest⟩
  · exact .inl hn
  · exact .inr ⟨g, cap, cur, rfl, hb, (hU.block g (hN g rfl)).trans hgg, rest⟩
theorem own_form5 {w : World} {base : Nat} {e : TypeId} {v : Value} {n : Nat} {xs : List Value} (h : w.ownsRow base e 5 v n xs) : ∃ A C, v = .slice A n C := by
  rcases h.2 with ⟨hv, hn⟩ | ⟨g, cap, cur, hv, _⟩
  · exact ⟨_, _, hn ▸ hv⟩
  · exact ⟨_, _, hv⟩
theorem fits_snoc {xs : List Ins} {z : Ins} (h : ∀ x ∈ xs, x.Fits) (hz : z.Fits) : ∀ x ∈ xs ++ [z], x.Fits := by
  intro x hx
  rcases List.mem_append.1 hx with hx | hx
  · exact h x hx
  · rw [List.mem_singleton] at hx
    exact hx ▸ hz
theorem mod_fits {x k : Int} (h1 : 1 ≤ k) (h2 : k < 100000000000) : I64 (x % k) := by
  have := Int.emod_nonneg x (show k ≠ 0 by omega)
  have := Int.emod_lt_of_pos x (show 0 < k by omega)
  unfold I64
  omega
/-- What comes in. -/
structure RunIn (w : World) (A0 : Option Addr) (c0 : Nat) (raw : List Int) (A1 : Option Addr) (c1 : Nat) (ls : List Ins) (size entry : Int) (A4 : Option Addr) (c4 : Nat) (args : List Int) (steps : Int) : Prop where
  vars : VarsAt w
  raw : Nums w A0 c0 raw
  l : Inss w A1 c1 ls
  llen : ls.length ≤ c1
  lcap : c1 ≤ maxLen
  args : Nums w A4 c4 args
  size : I64 size
  entry : I64 entry
  steps : I64 steps
set_option maxRecDepth 100000 in
theorem runs_bad (A0 : Option Addr) (c0 : Nat) (raw : List Int) (A1 : Option Addr) (c1 : Nat) (ls : List Ins) (size entry : Int) (A4 : Option Addr) (c4 : Nat) (args : List Int) (steps : Int) (w : World) (hi : RunIn w A0 c0 raw A1 c1 ls size entry A4 c4 args steps) (h : 100 < raw.length ∨ 10 < args.length ∨ (2000 < steps ∧ steps ≤ 200000) ∨ (2000 < size ∧ size ≤ 16384)) : Calls Tryd.prog 6 #[.slice A0 raw.length c0, .slice A1 ls.length c1, .int .i64 size, .int .i64 entry, .slice A4 args.length c4, .int .i64 steps] w (Right w) := by
  have q1 : raw.length ≤ 9223372036854775807 := by have := Nat.le_trans hi.raw.len hi.raw.cap; unfold maxLen at this; omega
  have q2 : args.length ≤ 9223372036854775807 := by have := Nat.le_trans hi.args.len hi.args.cap; unfold maxLen at this; omega
  have hw := hi.vars
  clear hi
  by_cases h1 : 100 < raw.length
  · have d1 : decide ((100 : Int) < (raw.length : Int)) = true := by simp; omega
    clear h h1
    go_enter Tryd.func6, Tryd.ntmps6
    go_wp2_with (go_at_call 16; refine (known_any _ hw).mono ?_; rintro e w' ⟨rfl, hb⟩)
    go_ret
    exact ⟨rfl, hb⟩
  have d1 : decide ((100 : Int) < (raw.length : Int)) = false := by simp; omega
  by_cases h2 : 10 < args.length
  · have d2 : decide ((10 : Int) < (args.length : Int)) = true := by simp; omega
    clear h h1 h2
    go_enter Tryd.func6, Tryd.ntmps6
    go_wp2_with (go_at_call 16; refine (known_any _ hw).mono ?_; rintro e w' ⟨rfl, hb⟩)
    go_ret
    exact ⟨rfl, hb⟩
  have d2 : decide ((10 : Int) < (args.length : Int)) = false := by simp; omega
  by_cases h3 : 2000 < steps ∧ steps ≤ 200000
  · obtain ⟨h3, h4⟩ := h3
    clear h h1 h2
    go_enter Tryd.func6, Tryd.ntmps6
    go_wp2_with (go_at_call 16; refine (known_any _ hw).mono ?_; rintro e w' ⟨rfl, hb⟩)
    go_ret
    exact ⟨rfl, hb⟩
  obtain ⟨h4, h5⟩ : 2000 < size ∧ size ≤ 16384 := by omega
  clear h h1 h2
  by_cases h6 : 2000 < steps
  · have h7 : 200000 < steps := by omega
    clear h3
    go_enter Tryd.func6, Tryd.ntmps6
    go_wp2_with (go_at_call 16; refine (known_any _ hw).mono ?_; rintro e w' ⟨rfl, hb⟩)
    go_ret
    exact ⟨rfl, hb⟩
  · clear h3
    go_enter Tryd.func6, Tryd.ntmps6
    go_wp2_with (go_at_call 16; refine (known_any _ hw).mono ?_; rintro e w' ⟨rfl, hb⟩)
    go_ret
    exact ⟨rfl, hb⟩
set_option maxRecDepth 100000 in
set_option maxHeartbeats 8000000 in
theorem runs_good (A0 : Option Addr) (c0 : Nat) (raw : List Int) (A1 : Option Addr) (c1 : Nat) (ls : List Ins) (size entry : Int) (A4 : Option Addr) (c4 : Nat) (args : List Int) (steps : Int) (w : World) (hi : RunIn w A0 c0 raw A1 c1 ls size entry A4 c4 args steps) (h1 : raw.length ≤ 100) (h2 : args.length ≤ 10) (h3 : ¬ (2000 < steps ∧ steps ≤ 200000)) (h4 : ¬ (2000 < size ∧ size ≤ 16384)) : Calls Tryd.prog 6 #[.slice A0 raw.length c0, .slice A1 ls.length c1, .int .i64 size, .int .i64 entry, .slice A4 args.length c4, .int .i64 steps] w (Right w) := by
  have d1 : decide ((100 : Int) < (raw.length : Int)) = false := by simp; omega
  have d2 : decide ((10 : Int) < (args.length : Int)) = false := by simp; omega
  have q3 : ls.length ≤ 9223372036854775807 := by have := Nat.le_trans hi.llen hi.lcap; unfold maxLen at this; omega
  have q4 : ls.length ≤ c1 := hi.llen
  have HI := Lib.hid hi
  clear hi
  obtain ⟨i0, hi0, hz0, hz1, hz2⟩ := info_parts inst_info
  have I0 := Lib.hid hi0
  have IZ := Lib.hid hz0
  have I1 := Lib.hid hz1
  have I2 := Lib.hid hz2
  have H34 := Lib.hid (And.intro h3 h4)
  clear hi0 hz0 hz1 hz2 h3 h4
  go_enter Tryd.func6, Tryd.ntmps6
  go_upto_region 1 with fail
  go_cut [43] (fun s wx => s = .bool false ∧ w = wx)
  case first =>
    by_cases h5 : 2000 < steps
    · have h6 : 200000 < steps := by have := H34.out.1; omega
      have d6 : decide (steps ≤ 200000) = false := by simp; omega
      by_cases h7 : 2000 < size
      · have h8 : 16384 < size := by have := H34.out.2; omega
        have d8 : decide (size ≤ 16384) = false := by simp; omega
        go_wp2_with fail
        go_meet
        exact ⟨rfl, rfl⟩
      · go_wp2_with fail
        go_meet
        exact ⟨rfl, rfl⟩
    · by_cases h7 : 2000 < size
      · have h8 : 16384 < size := by have := H34.out.2; omega
        have d8 : decide (size ≤ 16384) = false := by simp; omega
        go_wp2_with fail
        go_meet
        exact ⟨rfl, rfl⟩
      · go_wp2_with fail
        go_meet
        exact ⟨rfl, rfl⟩
  case rest =>
    obtain ⟨rfl, rfl⟩ := hcut
    clear d1 d2
    go_upto_if 47 with fail
    go_cut [1] (fun s wx => s = .slice A1 (ls.take 60).length c1 ∧ w = wx)
    case first =>
      by_cases h5 : 60 < ls.length
      · have d5 : decide ((60 : Int) < (ls.length : Int)) = true := by simp; omega
        have h6 : 60 ≤ c1 := by omega
        have e6 : (ls.take 60).length = 60 := by simp; omega
        have E6 := Lib.hid e6
        clear e6
        go_wp2_with fail
        go_meet
        exact ⟨by rw [E6.out], rfl⟩
      · have d5 : decide ((60 : Int) < (ls.length : Int)) = false := by simp; omega
        have e6 : (ls.take 60).length = ls.length := by simp; omega
        have E6 := Lib.hid e6
        clear e6
        go_wp2_with fail
        go_meet
        exact ⟨by rw [E6.out], rfl⟩
    case rest =>
      obtain ⟨rfl, rfl⟩ := hcut
      obtain ⟨lt, hlt⟩ : ∃ l, Hid (ls.take 60 = l) := ⟨_, rfl⟩
      have HIN := Lib.hid (show Inss w A1 c1 lt by
        rw [← hlt.out]
        refine ⟨fun i hi => HI.out.l.fits i (List.mem_of_mem_take hi), fun hne => ?_⟩
        obtain ⟨b, o, e, hb, hc⟩ := HI.out.l.at_ (by rintro rfl; simp at hne)
        refine ⟨b, o, e, hb, fun k hk => ?_⟩
        have hk2 : k < ls.length := by rw [List.length_take] at hk; omega
        have := hc k hk2
        rw [List.getElem_take]
        exact this)
      have l60 : lt.length ≤ 60 := by rw [← hlt.out, List.length_take]; omega
      rw [hlt.out]
      clear hlt q3 q4
      go_wp2_with fail
      go_loopw [13, 52] (fun v s wr => ∃ (i : Nat) (B : Option Addr) (d : Nat) (xs : List Ins), i ≤ lt.length ∧ s = .int .i64 i ∧ v = .slice B i d ∧ xs.length = i ∧ (∀ x ∈ xs, x.Fits) ∧ wr.ownsRow w.heap.size 23 5 (.slice B i d) i (insCells xs) ∧ Below w.heap.size w wr) (fun _ s _ => lt.length - (intOf s).toNat)
      case atStart => exact ⟨0, none, 0, [], by omega, rfl, rfl, rfl, (fun _ h => by cases h), World.ownsRow_nil _ _ _ _, Below.refl _ _⟩
      case round =>
        obtain ⟨i, B, d, xs, hle, rfl, rfl, hxl, hxf, hown, hbel⟩ := hrel
        by_cases hlt : i < lt.length
        · obtain ⟨b, o, rfl, hb, hc⟩ := HIN.out.at_ (by rintro rfl; simp at hlt)
          obtain ⟨g0, g1, g2, g3, g4⟩ := hc i hlt
          have hfit := HIN.out.fits _ (List.getElem_mem hlt)
          have m0 := (hbel.cell (p := ⟨b, o + i * 5, none⟩) hb).trans g0
          have m1 := (hbel.cell (p := ⟨b, o + i * 5 + 1, none⟩) hb).trans g1
          have m2 := (hbel.cell (p := ⟨b, o + i * 5 + 2, none⟩) hb).trans g2
          have m3 := (hbel.cell (p := ⟨b, o + i * 5 + 3, none⟩) hb).trans g3
          have m4 := (hbel.cell (p := ⟨b, o + i * 5 + 4, none⟩) hb).trans g4
          obtain ⟨x, hx⟩ : ∃ x, Hid (lt[i] = x) := ⟨_, Lib.hid rfl⟩
          rw [hx.out] at m0 m1 m2 m3 m4 hfit
          obtain ⟨x0, x1, x2, x3, x4⟩ := x
          obtain ⟨y, hy⟩ : ∃ y, Hid (nearP ⟨x0, x1, x2, x3, x4⟩ = y) := ⟨_, rfl⟩
          have yo : y.Ok := hy.out ▸ nearP_ok _
          have KN := Lib.hid (show ∀ W : World, Calls Tryd.prog 17 #[insV ⟨x0, x1, x2, x3, x4⟩] W (fun e w' => e = .returned (insV y) ∧ Below W.heap.size W w') from fun W => by
            have := near_any ⟨x0, x1, x2, x3, x4⟩ hfit W
            rw [hy.out] at this
            exact this)
          have YF := Lib.hid yo.fits
          obtain ⟨y0, y1, y2, y3, y4⟩ := y
          obtain ⟨y0a, y0b⟩ := yo.op
          simp only at y0a y0b
          have x4b := hfit.imm.2
          simp only at x4b
          have HO := Lib.hid hown
          have HB := Lib.hid hbel
          have HXF := Lib.hid hxf
          have l61 : i < 60 := by omega
          clear hown hbel hxf hc g0 g1 g2 g3 g4 hx hy yo hfit
          go_wp2_with fail
          refine (KN.out _).mono ?_
          rintro e w2 ⟨rfl, hb2⟩
          have hz2 : wr.heap.size < w2.heap.size := by have := hb2.size; simp at this; omega
          have HO2 := Lib.hid (own_below (HO.out.alloc (.cells #[.int .i64 x0, .int .i64 x1, .int .i64 x2, .int .i64 x3, .int .i64 x4] 23)) hb2)
          have HB2 := Lib.hid ((HB.out.alloc HB.out.size (.cells #[.int .i64 x0, .int .i64 x1, .int .i64 x2, .int .i64 x3, .int .i64 x4] 23)).trans (hb2.mono (by have := HB.out.size; simp; omega)))
          have q4 : ∀ ob : Obj, (w2.alloc ob).cell? ⟨wr.heap.size, 4, none⟩ = some (.int .i64 x4) := fun ob => cell_of_row _ _ 4 _ _ _ ((Below.heap_alloc w2 ob _ hz2).trans ((hb2.block wr.heap.size (by simp)).trans (heap_alloc_new wr _)))
          have s2 : w.heap.size ≤ w2.heap.size := HB2.out.size
          clear hb2 KN HO HB m0 m1 m2 m3 m4
          by_cases hA : 21 ≤ y0 ∧ y0 ≤ 23
          · obtain ⟨hA1, hA2⟩ := hA
            obtain ⟨mv, hmv⟩ : ∃ y, Hid (x4 % ((lt.length : Int) + 2) = y) := ⟨_, rfl⟩
            have MF := Lib.hid (show I64 mv from hmv.out ▸ mod_fits (by omega) (by omega))
            have KM := Lib.hid (show ∀ W : World, Calls Tryd.prog 22 #[.int .i64 x4, .int .i64 ((lt.length : Int) + 2)] W (fun e w' => e = .returned (.int .i64 mv) ∧ w' = W) from fun W => by
              have := modq x4 ((lt.length : Int) + 2) W x4b (by omega) (by omega)
              rw [hmv.out] at this
              exact this)
            clear hmv
            go_wp2_with (first | (go_at_call 22; refine (KM.out _).mono ?_; rintro e w' ⟨rfl, rfl⟩) | ((with_reducible show wpList _ _ _ (Oper.mk none (Op.store 3 _ _) _ _ _ none :: _) _ _); refine wpList_store_cell rfl rfl 3 _ _ rfl w2.heap.size 4 #[.int .i64 y0, .int .i64 y1, .int .i64 y2, .int .i64 y3, .int .i64 y4] (.int .i64 mv) rfl rfl (heap_alloc_new _ _) (by simp) (by kernel_rfl) rfl ?_; intro U5 h5; have HO5 := Lib.hid (own_apart (HO2.out.alloc _) (fun k hk => Nat.ne_of_lt ((HO2.out.lt k hk).2)) h5); have HB5 := Lib.hid ((HB2.out.alloc s2 _).setC s2 h5); have e0 := cell_of_row _ _ 0 _ _ _ h5.at_; have e1 := cell_of_row _ _ 1 _ _ _ h5.at_; have e2 := cell_of_row _ _ 2 _ _ _ h5.at_; have e3 := cell_of_row _ _ 3 _ _ _ h5.at_; have e4 := cell_of_row _ _ 4 _ _ _ h5.at_; simp at e0 e1 e2 e3 e4) | (at_builtin; refine wpList_append_own _ rfl _ _ 36 rfl w.heap.size 23 i0 (.agg #[.int .i64 0, .int .i64 0, .int .i64 0, .int .i64 0, .int .i64 0]) 5 40 Tryd.underlying36 I0.out IZ.out I1.out I2.out rfl (by decide) (.slice B i d) i (insCells xs) rfl (HO5.out.alloc _) ⟨U5.heap.size, 0, none⟩ 1 1 [.int .i64 y0, .int .i64 y1, .int .i64 y2, .int .i64 y3, .int .i64 mv] rfl rfl (cell_five _ _ _ _ _ _ _) (by simp [Value.oneCell']) (by unfold maxLen; omega) (by omega) (by have := h5.size; simp at this ⊢; omega) ?_; intro v3 w3 hown3 hgrow3 _))
            have HB3 := Lib.hid ((HB5.out.alloc (by have := h5.size; simp at this ⊢; omega) (.cells #[.int .i64 y0, .int .i64 y1, .int .i64 y2, .int .i64 y3, .int .i64 mv] 23)).grown hgrow3 (by have := h5.size; simp at this ⊢; omega) (fun k hk => (HO5.out.lt k hk).1))
            have HO3 := Lib.hid (show w3.ownsRow w.heap.size 23 5 v3 (i + 1) (insCells (xs ++ [⟨y0, y1, y2, y3, mv⟩])) by rw [insCells_append]; exact hown3)
            obtain ⟨B3, d3, rfl⟩ := own_form5 HO3.out
            clear hown3 hgrow3
            go_roundw
            case rel => exact ⟨i + 1, B3, d3, xs ++ [⟨y0, y1, y2, y3, mv⟩], by omega, by go_num, rfl, by simp [hxl], fits_snoc HXF.out ⟨YF.out.op, YF.out.a, YF.out.b, YF.out.c, MF.out⟩, HO3.out, HB3.out⟩
            case measure => simp [intOf]; omega
          by_cases h4 : y0 = 4
          · subst h4
            clear hA
            obtain ⟨mv, hmv⟩ : ∃ y, Hid (x4 % 200 = y) := ⟨_, rfl⟩
            have MF := Lib.hid (show I64 mv from hmv.out ▸ mod_fits (by omega) (by omega))
            have KM := Lib.hid (show ∀ W : World, Calls Tryd.prog 22 #[.int .i64 x4, .int .i64 200] W (fun e w' => e = .returned (.int .i64 mv) ∧ w' = W) from fun W => by
              have := modq x4 200 W x4b (by omega) (by omega)
              rw [hmv.out] at this
              exact this)
            clear hmv
            go_wp2_with (first | (go_at_call 22; refine (KM.out _).mono ?_; rintro e w' ⟨rfl, rfl⟩) | ((with_reducible show wpList _ _ _ (Oper.mk none (Op.store 3 _ _) _ _ _ none :: _) _ _); refine wpList_store_cell rfl rfl 3 _ _ rfl w2.heap.size 4 #[.int .i64 4, .int .i64 y1, .int .i64 y2, .int .i64 y3, .int .i64 y4] (.int .i64 mv) rfl rfl (heap_alloc_new _ _) (by simp) (by kernel_rfl) rfl ?_; intro U5 h5; have HO5 := Lib.hid (own_apart (HO2.out.alloc _) (fun k hk => Nat.ne_of_lt ((HO2.out.lt k hk).2)) h5); have HB5 := Lib.hid ((HB2.out.alloc s2 _).setC s2 h5); have e0 := cell_of_row _ _ 0 _ _ _ h5.at_; have e1 := cell_of_row _ _ 1 _ _ _ h5.at_; have e2 := cell_of_row _ _ 2 _ _ _ h5.at_; have e3 := cell_of_row _ _ 3 _ _ _ h5.at_; have e4 := cell_of_row _ _ 4 _ _ _ h5.at_; simp at e0 e1 e2 e3 e4) | (at_builtin; refine wpList_append_own _ rfl _ _ 36 rfl w.heap.size 23 i0 (.agg #[.int .i64 0, .int .i64 0, .int .i64 0, .int .i64 0, .int .i64 0]) 5 40 Tryd.underlying36 I0.out IZ.out I1.out I2.out rfl (by decide) (.slice B i d) i (insCells xs) rfl (HO5.out.alloc _) ⟨U5.heap.size, 0, none⟩ 1 1 [.int .i64 4, .int .i64 y1, .int .i64 y2, .int .i64 y3, .int .i64 mv] rfl rfl (cell_five _ _ _ _ _ _ _) (by simp [Value.oneCell']) (by unfold maxLen; omega) (by omega) (by have := h5.size; simp at this ⊢; omega) ?_; intro v3 w3 hown3 hgrow3 _))
            have HB3 := Lib.hid ((HB5.out.alloc (by have := h5.size; simp at this ⊢; omega) (.cells #[.int .i64 4, .int .i64 y1, .int .i64 y2, .int .i64 y3, .int .i64 mv] 23)).grown hgrow3 (by have := h5.size; simp at this ⊢; omega) (fun k hk => (HO5.out.lt k hk).1))
            have HO3 := Lib.hid (show w3.ownsRow w.heap.size 23 5 v3 (i + 1) (insCells (xs ++ [⟨4, y1, y2, y3, mv⟩])) by rw [insCells_append]; exact hown3)
            obtain ⟨B3, d3, rfl⟩ := own_form5 HO3.out
            clear hown3 hgrow3
            go_roundw
            case rel => exact ⟨i + 1, B3, d3, xs ++ [⟨4, y1, y2, y3, mv⟩], by omega, by go_num, rfl, by simp [hxl], fits_snoc HXF.out ⟨YF.out.op, YF.out.a, YF.out.b, YF.out.c, MF.out⟩, HO3.out, HB3.out⟩
            case measure => simp [intOf]; omega
          by_cases h19 : y0 = 19
          · subst h19
            clear hA
            obtain ⟨mv, hmv⟩ : ∃ y, Hid (x4 % 200 = y) := ⟨_, rfl⟩
            have MF := Lib.hid (show I64 mv from hmv.out ▸ mod_fits (by omega) (by omega))
            have KM := Lib.hid (show ∀ W : World, Calls Tryd.prog 22 #[.int .i64 x4, .int .i64 200] W (fun e w' => e = .returned (.int .i64 mv) ∧ w' = W) from fun W => by
              have := modq x4 200 W x4b (by omega) (by omega)
              rw [hmv.out] at this
              exact this)
            clear hmv
            go_wp2_with (first | (go_at_call 22; refine (KM.out _).mono ?_; rintro e w' ⟨rfl, rfl⟩) | ((with_reducible show wpList _ _ _ (Oper.mk none (Op.store 3 _ _) _ _ _ none :: _) _ _); refine wpList_store_cell rfl rfl 3 _ _ rfl w2.heap.size 4 #[.int .i64 19, .int .i64 y1, .int .i64 y2, .int .i64 y3, .int .i64 y4] (.int .i64 mv) rfl rfl (heap_alloc_new _ _) (by simp) (by kernel_rfl) rfl ?_; intro U5 h5; have HO5 := Lib.hid (own_apart (HO2.out.alloc _) (fun k hk => Nat.ne_of_lt ((HO2.out.lt k hk).2)) h5); have HB5 := Lib.hid ((HB2.out.alloc s2 _).setC s2 h5); have e0 := cell_of_row _ _ 0 _ _ _ h5.at_; have e1 := cell_of_row _ _ 1 _ _ _ h5.at_; have e2 := cell_of_row _ _ 2 _ _ _ h5.at_; have e3 := cell_of_row _ _ 3 _ _ _ h5.at_; have e4 := cell_of_row _ _ 4 _ _ _ h5.at_; simp at e0 e1 e2 e3 e4) | (at_builtin; refine wpList_append_own _ rfl _ _ 36 rfl w.heap.size 23 i0 (.agg #[.int .i64 0, .int .i64 0, .int .i64 0, .int .i64 0, .int .i64 0]) 5 40 Tryd.underlying36 I0.out IZ.out I1.out I2.out rfl (by decide) (.slice B i d) i (insCells xs) rfl (HO5.out.alloc _) ⟨U5.heap.size, 0, none⟩ 1 1 [.int .i64 19, .int .i64 y1, .int .i64 y2, .int .i64 y3, .int .i64 mv] rfl rfl (cell_five _ _ _ _ _ _ _) (by simp [Value.oneCell']) (by unfold maxLen; omega) (by omega) (by have := h5.size; simp at this ⊢; omega) ?_; intro v3 w3 hown3 hgrow3 _))
            have HB3 := Lib.hid ((HB5.out.alloc (by have := h5.size; simp at this ⊢; omega) (.cells #[.int .i64 19, .int .i64 y1, .int .i64 y2, .int .i64 y3, .int .i64 mv] 23)).grown hgrow3 (by have := h5.size; simp at this ⊢; omega) (fun k hk => (HO5.out.lt k hk).1))
            have HO3 := Lib.hid (show w3.ownsRow w.heap.size 23 5 v3 (i + 1) (insCells (xs ++ [⟨19, y1, y2, y3, mv⟩])) by rw [insCells_append]; exact hown3)
            obtain ⟨B3, d3, rfl⟩ := own_form5 HO3.out
            clear hown3 hgrow3
            go_roundw
            case rel => exact ⟨i + 1, B3, d3, xs ++ [⟨19, y1, y2, y3, mv⟩], by omega, by go_num, rfl, by simp [hxl], fits_snoc HXF.out ⟨YF.out.op, YF.out.a, YF.out.b, YF.out.c, MF.out⟩, HO3.out, HB3.out⟩
            case measure => simp [intOf]; omega
          by_cases h20 : y0 = 20
          · subst h20
            clear hA
            obtain ⟨mv, hmv⟩ : ∃ y, Hid (x4 % 200 = y) := ⟨_, rfl⟩
            have MF := Lib.hid (show I64 mv from hmv.out ▸ mod_fits (by omega) (by omega))
            have KM := Lib.hid (show ∀ W : World, Calls Tryd.prog 22 #[.int .i64 x4, .int .i64 200] W (fun e w' => e = .returned (.int .i64 mv) ∧ w' = W) from fun W => by
              have := modq x4 200 W x4b (by omega) (by omega)
              rw [hmv.out] at this
              exact this)
            clear hmv
            go_wp2_with (first | (go_at_call 22; refine (KM.out _).mono ?_; rintro e w' ⟨rfl, rfl⟩) | ((with_reducible show wpList _ _ _ (Oper.mk none (Op.store 3 _ _) _ _ _ none :: _) _ _); refine wpList_store_cell rfl rfl 3 _ _ rfl w2.heap.size 4 #[.int .i64 20, .int .i64 y1, .int .i64 y2, .int .i64 y3, .int .i64 y4] (.int .i64 mv) rfl rfl (heap_alloc_new _ _) (by simp) (by kernel_rfl) rfl ?_; intro U5 h5; have HO5 := Lib.hid (own_apart (HO2.out.alloc _) (fun k hk => Nat.ne_of_lt ((HO2.out.lt k hk).2)) h5); have HB5 := Lib.hid ((HB2.out.alloc s2 _).setC s2 h5); have e0 := cell_of_row _ _ 0 _ _ _ h5.at_; have e1 := cell_of_row _ _ 1 _ _ _ h5.at_; have e2 := cell_of_row _ _ 2 _ _ _ h5.at_; have e3 := cell_of_row _ _ 3 _ _ _ h5.at_; have e4 := cell_of_row _ _ 4 _ _ _ h5.at_; simp at e0 e1 e2 e3 e4) | (at_builtin; refine wpList_append_own _ rfl _ _ 36 rfl w.heap.size 23 i0 (.agg #[.int .i64 0, .int .i64 0, .int .i64 0, .int .i64 0, .int .i64 0]) 5 40 Tryd.underlying36 I0.out IZ.out I1.out I2.out rfl (by decide) (.slice B i d) i (insCells xs) rfl (HO5.out.alloc _) ⟨U5.heap.size, 0, none⟩ 1 1 [.int .i64 20, .int .i64 y1, .int .i64 y2, .int .i64 y3, .int .i64 mv] rfl rfl (cell_five _ _ _ _ _ _ _) (by simp [Value.oneCell']) (by unfold maxLen; omega) (by omega) (by have := h5.size; simp at this ⊢; omega) ?_; intro v3 w3 hown3 hgrow3 _))
            have HB3 := Lib.hid ((HB5.out.alloc (by have := h5.size; simp at this ⊢; omega) (.cells #[.int .i64 20, .int .i64 y1, .int .i64 y2, .int .i64 y3, .int .i64 mv] 23)).grown hgrow3 (by have := h5.size; simp at this ⊢; omega) (fun k hk => (HO5.out.lt k hk).1))
            have HO3 := Lib.hid (show w3.ownsRow w.heap.size 23 5 v3 (i + 1) (insCells (xs ++ [⟨20, y1, y2, y3, mv⟩])) by rw [insCells_append]; exact hown3)
            obtain ⟨B3, d3, rfl⟩ := own_form5 HO3.out
            clear hown3 hgrow3
            go_roundw
            case rel => exact ⟨i + 1, B3, d3, xs ++ [⟨20, y1, y2, y3, mv⟩], by omega, by go_num, rfl, by simp [hxl], fits_snoc HXF.out ⟨YF.out.op, YF.out.a, YF.out.b, YF.out.c, MF.out⟩, HO3.out, HB3.out⟩
            case measure => simp [intOf]; omega
          by_cases hlow : y0 < 21
          · have n4 : (y0 == 4) = false := by simpa using h4
            have n19 : (y0 == 19) = false := by simpa using h19
            have n20 : (y0 == 20) = false := by simpa using h20
            clear hA h4 h19 h20
            go_wp2_with (first | (at_builtin; refine wpList_append_own _ rfl _ _ 36 rfl w.heap.size 23 i0 (.agg #[.int .i64 0, .int .i64 0, .int .i64 0, .int .i64 0, .int .i64 0]) 5 40 Tryd.underlying36 I0.out IZ.out I1.out I2.out rfl (by decide) (.slice B i d) i (insCells xs) rfl ((HO2.out.alloc _).alloc _) ⟨w2.heap.size + 1, 0, none⟩ 1 1 [.int .i64 y0, .int .i64 y1, .int .i64 y2, .int .i64 y3, .int .i64 y4] rfl rfl (by have := cell_five (w2.alloc (.cells #[.int .i64 y0, .int .i64 y1, .int .i64 y2, .int .i64 y3, .int .i64 y4] 23)) (.int .i64 y0) (.int .i64 y1) (.int .i64 y2) (.int .i64 y3) (.int .i64 y4) 23; rw [show (w2.alloc (.cells #[.int .i64 y0, .int .i64 y1, .int .i64 y2, .int .i64 y3, .int .i64 y4] 23)).heap.size = w2.heap.size + 1 by simp] at this; exact this) (by simp [Value.oneCell']) (by unfold maxLen; omega) (by omega) (by simp; omega) ?_; intro v3 w3 hown3 hgrow3 _))
            have HB3 := Lib.hid (((HB2.out.alloc s2 (.cells #[.int .i64 y0, .int .i64 y1, .int .i64 y2, .int .i64 y3, .int .i64 y4] 23)).alloc (by simp; omega) (.cells #[.int .i64 y0, .int .i64 y1, .int .i64 y2, .int .i64 y3, .int .i64 y4] 23)).grown hgrow3 (by simp; omega) (fun k hk => ((HO2.out.alloc (.cells #[.int .i64 y0, .int .i64 y1, .int .i64 y2, .int .i64 y3, .int .i64 y4] 23)).lt k hk).1))
            have HO3 := Lib.hid (show w3.ownsRow w.heap.size 23 5 v3 (i + 1) (insCells (xs ++ [⟨y0, y1, y2, y3, y4⟩])) by rw [insCells_append]; exact hown3)
            obtain ⟨B3, d3, rfl⟩ := own_form5 HO3.out
            clear hown3 hgrow3
            go_roundw
            case rel => exact ⟨i + 1, B3, d3, xs ++ [⟨y0, y1, y2, y3, y4⟩], by omega, by go_num, rfl, by simp [hxl], fits_snoc HXF.out YF.out, HO3.out, HB3.out⟩
            case measure => simp [intOf]; omega
          · have hhi : 23 < y0 := by omega
            have n4 : (y0 == 4) = false := by simpa using h4
            have n19 : (y0 == 19) = false := by simpa using h19
            have n20 : (y0 == 20) = false := by simpa using h20
            clear hA h4 h19 h20
            go_wp2_with (first | (at_builtin; refine wpList_append_own _ rfl _ _ 36 rfl w.heap.size 23 i0 (.agg #[.int .i64 0, .int .i64 0, .int .i64 0, .int .i64 0, .int .i64 0]) 5 40 Tryd.underlying36 I0.out IZ.out I1.out I2.out rfl (by decide) (.slice B i d) i (insCells xs) rfl ((HO2.out.alloc _).alloc _) ⟨w2.heap.size + 1, 0, none⟩ 1 1 [.int .i64 y0, .int .i64 y1, .int .i64 y2, .int .i64 y3, .int .i64 y4] rfl rfl (by have := cell_five (w2.alloc (.cells #[.int .i64 y0, .int .i64 y1, .int .i64 y2, .int .i64 y3, .int .i64 y4] 23)) (.int .i64 y0) (.int .i64 y1) (.int .i64 y2) (.int .i64 y3) (.int .i64 y4) 23; rw [show (w2.alloc (.cells #[.int .i64 y0, .int .i64 y1, .int .i64 y2, .int .i64 y3, .int .i64 y4] 23)).heap.size = w2.heap.size + 1 by simp] at this; exact this) (by simp [Value.oneCell']) (by unfold maxLen; omega) (by omega) (by simp; omega) ?_; intro v3 w3 hown3 hgrow3 _))
            have HB3 := Lib.hid (((HB2.out.alloc s2 (.cells #[.int .i64 y0, .int .i64 y1, .int .i64 y2, .int .i64 y3, .int .i64 y4] 23)).alloc (by simp; omega) (.cells #[.int .i64 y0, .int .i64 y1, .int .i64 y2, .int .i64 y3, .int .i64 y4] 23)).grown hgrow3 (by simp; omega) (fun k hk => ((HO2.out.alloc (.cells #[.int .i64 y0, .int .i64 y1, .int .i64 y2, .int .i64 y3, .int .i64 y4] 23)).lt k hk).1))
            have HO3 := Lib.hid (show w3.ownsRow w.heap.size 23 5 v3 (i + 1) (insCells (xs ++ [⟨y0, y1, y2, y3, y4⟩])) by rw [insCells_append]; exact hown3)
            obtain ⟨B3, d3, rfl⟩ := own_form5 HO3.out
            clear hown3 hgrow3
            go_roundw
            case rel => exact ⟨i + 1, B3, d3, xs ++ [⟨y0, y1, y2, y3, y4⟩], by omega, by go_num, rfl, by simp [hxl], fits_snoc HXF.out YF.out, HO3.out, HB3.out⟩
            case measure => simp [intOf]; omega
        · obtain rfl : i = lt.length := by omega
          have HX := Lib.hid (And.intro hxl hxf)
          have HO := Lib.hid hown
          have HB := Lib.hid hbel
          obtain ⟨L, hL⟩ : ∃ y, Hid (lt.length = y) := ⟨_, rfl⟩
          obtain ⟨nn, hnn⟩ : ∃ y, Hid (steps % 500 = y) := ⟨_, rfl⟩
          obtain ⟨o1, ho1⟩ : ∃ y, Hid (runO raw size entry args steps = y) := ⟨_, rfl⟩
          obtain ⟨o2, ho2⟩ : ∃ y, Hid (runO (xs.map encW) 200 0 [3, -1] nn = y) := ⟨_, rfl⟩
          have hwf : ∀ k : Nat, I64 ((xs.map encW).getD k 0) := fun k => by
            rw [List.getD_eq_getElem?_getD, List.getElem?_map]
            cases xs[k]? with
            | none => exact zero64
            | some x => exact encW_fits x
          have KM := Lib.hid (show ∀ W : World, Calls Tryd.prog 22 #[.int .i64 steps, .int .i64 500] W (fun e w' => e = .returned (.int .i64 nn) ∧ w' = W) from fun W => by
            have := modq steps 500 W HI.out.steps.2 (by decide) (by decide)
            rw [hnn.out] at this
            exact this)
          have KR1 := Lib.hid (show ∀ W : World, Below w.heap.size w W → Calls Tryd.prog 24 #[.slice A0 raw.length c0, .int .i64 size, .int .i64 entry, .slice A4 args.length c4, .int .i64 steps] W (RunOut W o1) from fun W hb => by
            rw [← ho1.out]
            exact run_any A0 c0 raw size entry A4 c4 args steps W (HI.out.raw.below hb) (HI.out.args.below hb) HI.out.entry (by omega))
          have KR2 := Lib.hid (show ∀ W : World, Below w.heap.size w W → Calls Tryd.prog 25 #[.slice A0 raw.length c0, .int .i64 size, .int .i64 entry, .slice A4 args.length c4, .int .i64 steps] W (RunOut W o1) from fun W hb => by
            rw [← ho1.out]
            exact refRun_src A0 c0 raw size entry A4 c4 args steps W (HI.out.raw.below hb).srcs (HI.out.args.below hb).srcs HI.out.entry (by omega))
          have KW := Lib.hid (show ∀ W : World, W.ownsRow w.heap.size 23 5 (.slice B L d) L (insCells xs) → Calls Tryd.prog 26 #[.slice B L d] W (fun e w' => ∃ A' c', e = .returned (.slice A' L c') ∧ Nums w' A' c' (xs.map encW) ∧ Below W.heap.size W w') from fun W ho => by
            have hl : xs.length = L := HX.out.1.trans hL.out
            rw [← hl] at ho ⊢
            refine (words_any B d xs W (inss_of_own HX.out.2 ho) (by have := HX.out.1; omega)).mono ?_
            rintro e w' ⟨A', c', rfl, hown, hb⟩
            exact ⟨A', c', rfl, nums_of_own hwf (by rw [List.length_map, List.map_map]; exact hown), hb⟩)
          have KX1 := Lib.hid (show ∀ (W : World) (A : Option Addr) (c : Nat) (D : Option Addr), Nums W A c (xs.map encW) → Nums W D 2 [3, -1] → Calls Tryd.prog 24 #[.slice A L c, .int .i64 200, .int .i64 0, .slice D 2 2, .int .i64 nn] W (RunOut W o2) from fun W A c D h h' => by
            have := run_any A c (xs.map encW) 200 0 D 2 [3, -1] nn W h h' ⟨by decide, by decide⟩ (by rw [List.length_map]; have := HX.out.1; omega)
            rw [List.length_map, HX.out.1, hL.out, ho2.out] at this
            exact this)
          have KX2 := Lib.hid (show ∀ (W : World) (A : Option Addr) (c : Nat) (D : Option Addr), Nums W A c (xs.map encW) → Nums W D 2 [3, -1] → Calls Tryd.prog 25 #[.slice A L c, .int .i64 200, .int .i64 0, .slice D 2 2, .int .i64 nn] W (RunOut W o2) from fun W A c D h h' => by
            have := refRun_src A c (xs.map encW) 200 0 D 2 [3, -1] nn W h.srcs h'.srcs ⟨by decide, by decide⟩ (by rw [List.length_map]; have := HX.out.1; omega)
            rw [List.length_map, HX.out.1, hL.out, ho2.out] at this
            exact this)
          rw [hL.out] at HO
          have HO1 := HO
          have HV := Lib.hid (fun (W : World) (h : Below w.heap.size w W) => HI.out.vars.below h)
          have LL := hL
          rw [hL.out]
          clear HO hown hbel hxl hxf hle hlt hwf hnn ho1 ho2 hL LL HX HI H34 l60 h1 h2 IZ I0 I1 I2 HIN
          go_wp2_with (go_at_call 22; refine (KM.out _).mono ?_; rintro e w' ⟨rfl, rfl⟩)
          refine (KR1.out _ HB.out).mono ?_
          rintro e w1 ⟨Aa, ca, rfl, hna, hb1⟩
          have NA := Lib.hid hna
          have HB1 := Lib.hid (HB.out.trans (hb1.mono HB.out.size))
          have HO2 := Lib.hid (own_below HO1.out hb1)
          clear hna hb1 HB HO1 KM KR1
          go_wp2_with fail
          refine (KR2.out _ HB1.out).mono ?_
          rintro e w2 ⟨Ab, cb, rfl, hnb, hb2⟩
          have NA2 := Lib.hid (NA.out.below hb2)
          have NB2 := Lib.hid hnb
          have HB2 := Lib.hid (HB1.out.trans (hb2.mono HB1.out.size))
          have HO3 := Lib.hid (own_below HO2.out hb2)
          clear hnb hb2 HB1 HO2 NA KR2
          go_wp2_with fail
          refine (outcome_same o1 Aa ca Ab cb _ NA2.out NB2.out).mono ?_
          rintro e w3 ⟨rfl, hb3⟩
          have HB3 := Lib.hid (HB2.out.trans (hb3.mono HB2.out.size))
          have HO4 := Lib.hid (own_below HO3.out hb3)
          clear hb3 HB2 HO3 NA2 NB2
          go_wp2_with fail
          refine (KW.out _ HO4.out).mono ?_
          rintro e w4 ⟨Ac, cc, rfl, hnc, hb4⟩
          have NC := Lib.hid hnc
          have HB4 := Lib.hid (HB3.out.trans (hb4.mono HB3.out.size))
          have HO5 := Lib.hid (own_below HO4.out hb4)
          clear hnc hb4 HB3 HO4
          go_wp2_with fail
          have b5 := (Below.refl w4.heap.size w4).alloc (Nat.le_refl _) (.cells #[.int .i64 3, .int .i64 (-1)] 3)
          refine (KX1.out _ Ac cc (some ⟨w4.heap.size, 0, none⟩) (NC.out.below b5) (nums_two w4 3 (-1) ⟨by decide, by decide⟩ ⟨by decide, by decide⟩ _)).mono ?_
          rintro e w5 ⟨Ad, cd, rfl, hnd, hb5⟩
          have ND := Lib.hid hnd
          have HB5 := Lib.hid ((HB4.out.alloc HB4.out.size (.cells #[.int .i64 3, .int .i64 (-1)] 3)).trans (hb5.mono (by have := HB4.out.size; simp; omega)))
          have HO6 := Lib.hid (own_below (HO5.out.alloc (.cells #[.int .i64 3, .int .i64 (-1)] 3)) hb5)
          clear hnd hb5 b5 HB4 HO5 NC KX1
          go_wp2_with fail
          refine (KW.out _ HO6.out).mono ?_
          rintro e w6 ⟨Ae, ce, rfl, hne, hb6⟩
          have NE := Lib.hid hne
          have ND2 := Lib.hid (ND.out.below hb6)
          have HB6 := Lib.hid (HB5.out.trans (hb6.mono HB5.out.size))
          clear hne hb6 HB5 HO6 ND KW
          go_wp2_with fail
          have b7 := (Below.refl w6.heap.size w6).alloc (Nat.le_refl _) (.cells #[.int .i64 3, .int .i64 (-1)] 3)
          refine (KX2.out _ Ae ce (some ⟨w6.heap.size, 0, none⟩) (NE.out.below b7) (nums_two w6 3 (-1) ⟨by decide, by decide⟩ ⟨by decide, by decide⟩ _)).mono ?_
          rintro e w7 ⟨Af, cf, rfl, hnf, hb7⟩
          have NF := Lib.hid hnf
          have ND3 := Lib.hid ((ND2.out.below b7).below hb7)
          have HB7 := Lib.hid ((HB6.out.alloc HB6.out.size (.cells #[.int .i64 3, .int .i64 (-1)] 3)).trans (hb7.mono (by have := HB6.out.size; simp; omega)))
          clear hnf hb7 b7 HB6 NE ND2 KX2
          go_wp2_with fail
          refine (outcome_same o2 Ad cd Af cf _ ND3.out NF.out).mono ?_
          rintro e w8 ⟨rfl, hb8⟩
          have HB8 := Lib.hid (HB7.out.trans (hb8.mono HB7.out.size))
          clear hb8 HB7 ND3 NF
          go_wp2_with (go_at_call 16; refine (known_any _ (HV.out _ HB8.out)).mono ?_; rintro e w9 ⟨rfl, hb9⟩)
          go_ret
          exact ⟨rfl, HB8.out.trans (hb9.mono HB8.out.size)⟩
theorem isaRuns_any (A0 : Option Addr) (c0 : Nat) (raw : List Int) (A1 : Option Addr) (c1 : Nat) (ls : List Ins) (size entry : Int) (A4 : Option Addr) (c4 : Nat) (args : List Int) (steps : Int) (w : World) (hi : RunIn w A0 c0 raw A1 c1 ls size entry A4 c4 args steps) : Calls Tryd.prog 6 #[.slice A0 raw.length c0, .slice A1 ls.length c1, .int .i64 size, .int .i64 entry, .slice A4 args.length c4, .int .i64 steps] w (Right w) := by
  by_cases h1 : 100 < raw.length
  · exact runs_bad A0 c0 raw A1 c1 ls size entry A4 c4 args steps w hi (.inl h1)
  by_cases h2 : 10 < args.length
  · exact runs_bad A0 c0 raw A1 c1 ls size entry A4 c4 args steps w hi (.inr (.inl h2))
  by_cases h3 : 2000 < steps ∧ steps ≤ 200000
  · exact runs_bad A0 c0 raw A1 c1 ls size entry A4 c4 args steps w hi (.inr (.inr (.inl h3)))
  by_cases h4 : 2000 < size ∧ size ≤ 16384
  · exact runs_bad A0 c0 raw A1 c1 ls size entry A4 c4 args steps w hi (.inr (.inr (.inr h4)))
  exact runs_good A0 c0 raw A1 c1 ls size entry A4 c4 args steps w hi (by omega) (by omega) h3 h4
end Go.Proofs.YtimiofmmhccmmaaDoor
