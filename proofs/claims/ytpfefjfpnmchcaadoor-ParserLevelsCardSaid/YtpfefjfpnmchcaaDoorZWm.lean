/-
  What the library's functions answer: strconv.Itoa, strings.Join. Condition: the table of the powers of ten. What strconv.Itoa and strings.Join answer, in the printer's words. Condition: the packages' variables. The walk of parser.Print. Conditions: the packages' variables; the text has at most 2^47 bytes, and at least one.
-/
import Derived.Shelf.Strings.Builder1
import Derived.Shelf.Strings.Builder2
import Derived.Shelf.Strings.OnBuilder
import Derived.Shelf.Strconv.Itoa0
import Derived.Shelf.Strconv.Itoa1
import Derived.Shelf.LaysM
import Derived.Shelf.Strconv.Itoa2
import Derived.Shelf.Strconv.Itoa3
import Derived.Test.YtpfefjfpnmchcaaDoorProg
import Derived.Test.YtpfefjfpnmchcaaDoorZWj
import Derived.Test.YtpfefjfpnmchcaaDoorZTr
namespace Go.Proofs
open Go.Shelf
def Tryd.lays156_ren : Go.Shelf.Ren := ⟨fun | 156 => 23 | 165 => 42 | 166 => 41 | 169 => 25 | 240 => 60 | 241 => 61 | 276 => 75 | 277 => 76 | n => n, fun | 31 => 43 | 9 => 9 | 3 => 3 | 4 => 4 | 0 => 0 | 20 => 20 | 72 => 74 | 76 => 98 | 70 => 71 | 37 => 72 | 75 => 97 | 127 => 102 | 164 => 122 | 5 => 5 | 80 => 80 | n => n, fun | n => n⟩
theorem Tryd.lays156 : Go.Proofs.Lays.n156 Tryd.prog Tryd.lays156_ren := {
  mixed := by kernel_rfl
  f156 := Tryd.func23.trans (congrArg some (by kernel_rfl))
  f165 := Tryd.func42.trans (congrArg some (by kernel_rfl))
  f166 := Tryd.func41.trans (congrArg some (by kernel_rfl))
  f169 := Tryd.func25.trans (congrArg some (by kernel_rfl))
  f240 := Tryd.func60.trans (congrArg some (by kernel_rfl))
  f241 := Tryd.func61.trans (congrArg some (by kernel_rfl))
  f276 := Tryd.func75.trans (congrArg some (by kernel_rfl))
  f277 := Tryd.func76.trans (congrArg some (by kernel_rfl))
  t0 := Tryd.underlying0
  a0 := Tryd.isAgg0
  z0 := Tryd.sizeOf0
  v0 := Tryd.zeroValue0
  t3 := Tryd.underlying3
  a3 := Tryd.isAgg3
  z3 := Tryd.sizeOf3
  v3 := Tryd.zeroValue3
  t4 := Tryd.underlying4
  a4 := Tryd.isAgg4
  z4 := Tryd.sizeOf4
  v4 := Tryd.zeroValue4
  t9 := Tryd.underlying9
  a9 := Tryd.isAgg9
  z9 := Tryd.sizeOf9
  v9 := Tryd.zeroValue9
  t20 := Tryd.underlying20
  a20 := Tryd.isAgg20
  z20 := Tryd.sizeOf20
  v20 := Tryd.zeroValue20
  t31 := Tryd.underlying43
  a31 := Tryd.isAgg43
  z31 := Tryd.sizeOf43
  v31 := Tryd.zeroValue43
  t37 := Tryd.underlying72
  a37 := Tryd.isAgg72
  z37 := Tryd.sizeOf72
  v37 := Tryd.zeroValue72
  t70 := Tryd.underlying71
  a70 := Tryd.isAgg71
  z70 := Tryd.sizeOf71
  v70 := Tryd.zeroValue71
  t72 := Tryd.underlying74
  a72 := Tryd.isAgg74
  z72 := Tryd.sizeOf74
  v72 := Tryd.zeroValue74
  t75 := Tryd.underlying97
  a75 := Tryd.isAgg97
  z75 := Tryd.sizeOf97
  v75 := Tryd.zeroValue97
  t76 := Tryd.underlying98
  a76 := Tryd.isAgg98
  z76 := Tryd.sizeOf98
  v76 := Tryd.zeroValue98
  t127 := Tryd.underlying102
  a127 := Tryd.isAgg102
  z127 := Tryd.sizeOf102
  v127 := Tryd.zeroValue102
  t164 := Tryd.underlying122
  a164 := Tryd.isAgg122
  z164 := Tryd.sizeOf122
  v164 := Tryd.zeroValue122 }
theorem Tryd.Builder_Extra_156 : Builder.Extra Tryd.prog Tryd.lays156_ren := {
  sizeBuilder := by kernel_rfl
  liesBuilder := by kernel_rfl
  t5 := Tryd.underlying5
  a5 := Tryd.isAgg5
  z5 := Tryd.sizeOf5
  v5 := Tryd.zeroValue5
  infoByte := by kernel_rfl
  cellsByte := by kernel_rfl
  sizeByte := by kernel_rfl
  neB5 := by decide }
open Go.RowKit in
theorem Tryd.strings_Join_none (a : Option Addr) (c : Nat) (sep : ByteArray) (w : World) :
    Calls Tryd.prog 23 #[.slice a 0 c, .string sep] w fun e w' => e = .returned (.string ⟨#[]⟩) ∧ w' = w := Any.strings_Join_none Tryd.lays156 Tryd.Builder_Extra_156 a c sep w
open Go.RowKit in
theorem Tryd.strings_Join (bk o c : Nat) (xs : List ByteArray) (sep : ByteArray) (w : World) (hcells : ∀ (j : Nat) x, xs[j]? = some x → w.cell? ⟨bk, o + j, none⟩ = some (.string x)) (hbk : bk < w.heap.size) (hN : xs.length ≤ 140737488355328) (hcap : xs.length ≤ c) (hlen : (Lib.join (xs.map (·.data.toList)) sep.data.toList).length ≤ 140737488355328) :
    Calls Tryd.prog 23 #[.slice (some ⟨bk, o, none⟩) xs.length c, .string sep] w fun e w' => e = .returned (.string ⟨(Lib.join (xs.map (·.data.toList)) sep.data.toList).toArray⟩) ∧ Below w.heap.size w w' := Any.strings_Join Tryd.lays156 Tryd.Builder_Extra_156 bk o c xs sep w hcells hbk hN hcap hlen
def Tryd.laysM171_ren : Go.Shelf.Ren := ⟨fun | 171 => 77 | 243 => 83 | 246 => 88 | 283 => 91 | 284 => 92 | 285 => 93 | 286 => 94 | 129 => 97 | 317 => 96 | 318 => 98 | 319 => 99 | 320 => 100 | 337 => 101 | 338 => 102 | n => n, fun | 3 => 3 | 9 => 9 | 2 => 2 | 4 => 4 | 171 => 137 | 0 => 0 | 53 => 138 | 37 => 72 | 5 => 5 | 173 => 141 | 212 => 146 | 51 => 147 | 20 => 20 | 213 => 148 | 46 => 150 | 232 => 153 | 233 => 154 | n => n, fun | 17 => 3 | 18 => 4 | 19 => 5 | n => n⟩
theorem Tryd.laysM171 : Go.Proofs.LaysM.n171 Tryd.prog Tryd.laysM171_ren := {
  mixed := by kernel_rfl
  f129 := Tryd.func97.trans (congrArg some (by kernel_rfl))
  f171 := Tryd.func77.trans (congrArg some (by kernel_rfl))
  f243 := Tryd.func83.trans (congrArg some (by kernel_rfl))
  f246 := Tryd.func88.trans (congrArg some (by kernel_rfl))
  f283 := Tryd.func91.trans (congrArg some (by kernel_rfl))
  f284 := Tryd.func92.trans (congrArg some (by kernel_rfl))
  f285 := Tryd.func93.trans (congrArg some (by kernel_rfl))
  f286 := Tryd.func94.trans (congrArg some (by kernel_rfl))
  f317 := Tryd.func96.trans (congrArg some (by kernel_rfl))
  f318 := Tryd.func98.trans (congrArg some (by kernel_rfl))
  f319 := Tryd.func99.trans (congrArg some (by kernel_rfl))
  f320 := Tryd.func100.trans (congrArg some (by kernel_rfl))
  f337 := Tryd.func101.trans (congrArg some (by kernel_rfl))
  f338 := Tryd.func102.trans (congrArg some (by kernel_rfl))
  t0 := Tryd.underlying0
  a0 := Tryd.isAgg0
  z0 := Tryd.sizeOf0
  v0 := Tryd.zeroValue0
  t2 := Tryd.underlying2
  a2 := Tryd.isAgg2
  z2 := Tryd.sizeOf2
  v2 := Tryd.zeroValue2
  t3 := Tryd.underlying3
  a3 := Tryd.isAgg3
  z3 := Tryd.sizeOf3
  v3 := Tryd.zeroValue3
  t4 := Tryd.underlying4
  a4 := Tryd.isAgg4
  z4 := Tryd.sizeOf4
  v4 := Tryd.zeroValue4
  t5 := Tryd.underlying5
  a5 := Tryd.isAgg5
  z5 := Tryd.sizeOf5
  v5 := Tryd.zeroValue5
  t9 := Tryd.underlying9
  a9 := Tryd.isAgg9
  z9 := Tryd.sizeOf9
  v9 := Tryd.zeroValue9
  t20 := Tryd.underlying20
  a20 := Tryd.isAgg20
  z20 := Tryd.sizeOf20
  v20 := Tryd.zeroValue20
  t37 := Tryd.underlying72
  a37 := Tryd.isAgg72
  z37 := Tryd.sizeOf72
  v37 := Tryd.zeroValue72
  t46 := Tryd.underlying150
  a46 := Tryd.isAgg150
  z46 := Tryd.sizeOf150
  v46 := Tryd.zeroValue150
  t51 := Tryd.underlying147
  a51 := Tryd.isAgg147
  z51 := Tryd.sizeOf147
  v51 := Tryd.zeroValue147
  t53 := Tryd.underlying138
  a53 := Tryd.isAgg138
  z53 := Tryd.sizeOf138
  v53 := Tryd.zeroValue138
  t171 := Tryd.underlying137
  a171 := Tryd.isAgg137
  z171 := Tryd.sizeOf137
  v171 := Tryd.zeroValue137
  t173 := Tryd.underlying141
  a173 := Tryd.isAgg141
  z173 := Tryd.sizeOf141
  v173 := Tryd.zeroValue141
  t212 := Tryd.underlying146
  a212 := Tryd.isAgg146
  z212 := Tryd.sizeOf146
  v212 := Tryd.zeroValue146
  t213 := Tryd.underlying148
  a213 := Tryd.isAgg148
  z213 := Tryd.sizeOf148
  t232 := Tryd.underlying153
  a232 := Tryd.isAgg153
  z232 := Tryd.sizeOf153
  v232 := Tryd.zeroValue153
  t233 := Tryd.underlying154
  a233 := Tryd.isAgg154
  z233 := Tryd.sizeOf154
  v233 := Tryd.zeroValue154
  g17 := by kernel_rfl
  g18 := by kernel_rfl
  g19 := by kernel_rfl
  i0 := by kernel_rfl
  i2 := by kernel_rfl
  i3 := by kernel_rfl
  i4 := by kernel_rfl
  i5 := by kernel_rfl
  i9 := by kernel_rfl
  i20 := by kernel_rfl
  i37 := by kernel_rfl
  i46 := by kernel_rfl
  i51 := by kernel_rfl
  i53 := by kernel_rfl
  i171 := by kernel_rfl
  i173 := by kernel_rfl
  i212 := by kernel_rfl
  i232 := by kernel_rfl
  i233 := by kernel_rfl
  m17 := by kernel_rfl
  m18 := by kernel_rfl
  m19 := by kernel_rfl }
open Go.RowKit Go.Sort Go.Lib in
theorem Tryd.strconv_Itoa (n : Int) (h0 : -9223372036854775808 ≤ n) (h1 : n ≤ 9223372036854775807) (w : World) (htab : Lib.TabIs Tryd.prog w "internal/strconv.uint64pow10" .u64 Lib.pow10Tab) :
    Calls Tryd.prog 77 #[.int .i64 n] w fun e w' => e = .returned (.string ⟨(Lib.itoa n).toArray⟩) ∧ ∃ k os, w' = grow (w.drewN k) os := Any.strconv_Itoa Tryd.laysM171 n h0 h1 w htab
end Go.Proofs
namespace Go.Proofs.YtpfefjfpnmchcaaDoor
open Go.RowKit

theorem itoa_at : ItoaAt := fun x w hx hw => by
  refine (Tryd.strconv_Itoa x hx.1 hx.2 w hw.2).mono ?_
  rintro e w' ⟨rfl, k, os, rfl⟩
  exact ⟨rfl, ⟨rfl, rfl, rfl, by simp [Sort.grow], fun b hb => by simp [Sort.grow, Array.getElem?_append_left hb]⟩⟩
theorem join_commas : ∀ (xs : List (List UInt8)), Lib.join xs [44, 32] = commas xs
  | [] => rfl
  | [x] => by simp [Lib.join, commas]
  | x :: y :: l => by
    have := join_commas (y :: l)
    rw [commas, ← this]
    simp [Lib.join]
theorem join_any {w : World} {p : Nat → Prop} {A : Option Addr} {c : Nat} {xs : List (List UInt8)} (h : NamesIs p w A c xs) (hn : xs.length ≤ 140737488355328) (hL : (commas xs).length ≤ 140737488355328) :
    Calls Tryd.prog 23 #[.slice A xs.length c, .string ⟨#[44, 32]⟩] w fun e w' => e = .returned (.string ⟨(commas xs).toArray⟩) ∧ Below w.heap.size w w' := by
  cases xs with
  | nil =>
    refine (Tryd.strings_Join_none A c ⟨#[44, 32]⟩ w).mono ?_
    rintro e w' ⟨rfl, rfl⟩
    exact ⟨rfl, Below.refl _ _⟩
  | cons x l =>
    obtain ⟨h1, h2, h3⟩ := h
    obtain ⟨b, cur, fr, rfl, hp, hb, hc⟩ := h3 (by simp)
    have hm : ((x :: l).map fun s => (⟨s.toArray⟩ : ByteArray)).map (·.data.toList) = x :: l := by
      rw [List.map_map]
      exact List.map_id _
    have hj : Lib.join (((x :: l).map fun s => (⟨s.toArray⟩ : ByteArray)).map (·.data.toList)) (⟨#[44, 32]⟩ : ByteArray).data.toList = commas (x :: l) := by rw [hm]; exact join_commas _
    have := Tryd.strings_Join b 0 c ((x :: l).map fun s => (⟨s.toArray⟩ : ByteArray)) ⟨#[44, 32]⟩ w (fun j s hs => by
      rw [List.getElem?_map, Option.map_eq_some_iff] at hs
      obtain ⟨y, hy, rfl⟩ := hs
      obtain ⟨vs, hl, hcell, hv⟩ := hc j y hy
      have hvs : vs = [.string ⟨y.toArray⟩] := by
        injection hv with hv
        simpa using congrArg Array.toList hv
      subst hvs
      have := hcell 0 (by decide)
      rw [Nat.zero_add, cell_of_row w b j _ _ _ hb]
      simpa using this) (Array.getElem?_eq_some_iff.1 hb).1 (by simpa using hn) (by simpa using h1) (by rw [hj]; exact hL)
    rw [hj, List.length_map] at this
    exact this
end Go.Proofs.YtpfefjfpnmchcaaDoor
namespace Go.Proofs.YtpfefjfpnmchcaaDoor
open Go.RowKit

/-- The numbers of a program are numbers of 64 bits. -/
def NmP (g : Prg) : Prop := ∀ f ∈ g.funs, NmSs f.body
theorem block_one {B P d : Nat} (HB : WBlkAt B P d) {w : World} {l : List UInt8} {A : Option Addr} {c : Nat} {xs : List Sm} (h : Tx B P l w) (hO : Pk w) (hx : SmsD w tt d A c xs) (hn : NmSs xs) (hL : l.length + (blkT 1 xs).length ≤ 140737488355328) :
    Calls Tryd.prog 24 #[.pointer (some ⟨P, 0, none⟩), .int .i64 1, .slice A xs.length c] w (Wrote B P (l ++ blkT 1 xs) w) := HB w l A c xs 1 h hO hx hn hL
theorem commas_many : ∀ (xs : List (List UInt8)), xs.length ≤ (commas xs).length + 1
  | [] => by simp
  | [x] => by simp
  | x :: y :: l => by
    have := commas_many (y :: l)
    simp only [List.length_cons] at this
    rw [commas]
    simp only [List.length_append, List.length_cons]
    omega
theorem map_take {α : Type} (f : α → List UInt8) {xs : List α} {k : Nat} {x : α} (h : xs[k]? = some x) : ((xs.take (k + 1)).map f).flatten = ((xs.take k).map f).flatten ++ f x := by
  rw [take_snoc_of h]
  simp
theorem map_le {α : Type} (f : α → List UInt8) (xs : List α) (k : Nat) : ((xs.take k).map f).flatten.length ≤ (xs.map f).flatten.length := by
  have h := congrArg (fun l : List α => (l.map f).flatten.length) (List.take_append_drop k xs)
  simp only [List.map_append, List.flatten_append, List.length_append] at h
  omega
/-- An element of a row of records. -/
theorem rec_arg {w : World} {p q : Nat → Prop} {A : Option Addr} {c : Nat} {xs : List Rec} (h : RowIs (RecIs w p) q w 55 2 A c xs) {k : Nat} {x : Rec} (hk : xs[k]? = some x) :
    ∃ (b : Nat) (A' : Option Addr) (c' : Nat), A = some ⟨b, 0, none⟩ ∧ NamesIs p w A' c' x.fields ∧ w.cell? ⟨b, k * 2, none⟩ = some (.string ⟨x.name.toArray⟩) ∧ w.cell? ⟨b, k * 2 + 1, none⟩ = some (.slice A' x.fields.length c') := by
  obtain ⟨h1, h2, h3⟩ := h
  obtain ⟨b, cur, fr, hA, hp, hb, hc⟩ := h3 (fun e => by rw [e] at hk; simp at hk)
  obtain ⟨vs, hl, hcell, A', c', hv, hn⟩ := hc k x hk
  have hvs : vs = [.string ⟨x.name.toArray⟩, .slice A' x.fields.length c'] := by
    injection hv with hv
    simpa using congrArg Array.toList hv
  subst hvs
  exact ⟨b, A', c', hA, hn, by rw [cell_of_row w b _ _ _ _ hb]; exact hcell 0 (by decide), by rw [cell_of_row w b _ _ _ _ hb]; exact hcell 1 (by decide)⟩
theorem fun_arg {w : World} {p q : Nat → Prop} {A : Option Addr} {c : Nat} {xs : List Fun} (h : RowIs (FunIs w p) q w 46 4 A c xs) {k : Nat} {x : Fun} (hk : xs[k]? = some x) :
    ∃ (b : Nat) (A1 : Option Addr) (c1 : Nat) (A2 : Option Addr) (c2 : Nat), A = some ⟨b, 0, none⟩ ∧ NamesIs p w A1 c1 x.params ∧ SmsIs w p A2 c2 x.body ∧ w.cell? ⟨b, k * 4, none⟩ = some (.string ⟨x.name.toArray⟩) ∧ w.cell? ⟨b, k * 4 + 1, none⟩ = some (.int .i64 x.line) ∧ w.cell? ⟨b, k * 4 + 2, none⟩ = some (.slice A1 x.params.length c1) ∧ w.cell? ⟨b, k * 4 + 3, none⟩ = some (.slice A2 x.body.length c2) := by
  obtain ⟨h1, h2, h3⟩ := h
  obtain ⟨b, cur, fr, hA, hp, hb, hc⟩ := h3 (fun e => by rw [e] at hk; simp at hk)
  obtain ⟨vs, hl, hcell, A1, c1, A2, c2, hv, hn, hs⟩ := hc k x hk
  have hvs : vs = [.string ⟨x.name.toArray⟩, .int .i64 x.line, .slice A1 x.params.length c1, .slice A2 x.body.length c2] := by
    injection hv with hv
    simpa using congrArg Array.toList hv
  subst hvs
  exact ⟨b, A1, c1, A2, c2, hA, hn, hs, by rw [cell_of_row w b _ _ _ _ hb]; exact hcell 0 (by decide), by rw [cell_of_row w b _ _ _ _ hb]; exact hcell 1 (by decide), by rw [cell_of_row w b _ _ _ _ hb]; exact hcell 2 (by decide), by rw [cell_of_row w b _ _ _ _ hb]; exact hcell 3 (by decide)⟩
/-- The printer that Print makes. -/
theorem tx_fresh (B : Nat) (w : World) (hB : B ≤ w.heap.size) : Tx B w.heap.size [] (w.alloc (.cells #[.pointer none, .slice none 0 0] 76)) :=
  ⟨hB, _, _, heap_alloc_new w _, .inl rfl, World.ownsRow_nil _ _ _ _, by simp [Value.ownBlock]⟩
theorem wr_alloc {B : Nat} {w : World} (hB : B ≤ w.heap.size) (o : Obj) : Wr B w (w.alloc o) := (Wr.refl B w).alloc hB o
set_option maxHeartbeats 8000000 in
set_option maxRecDepth 100000 in
theorem print_walk {B : Nat} {w : World} (hB : B ≤ w.heap.size) {p : Nat → Prop} {v : Value} {g : Prg} (hgB : PkB B) (hO : Pk w) (hx : PrgIs w p v g) (hn : NmP g) (hL : (programT g).length ≤ 140737488355328) (hne : programT g ≠ []) :
    Calls Tryd.prog 15 #[v] w fun e w' => e = .returned (.string ⟨(programT g).toArray⟩) ∧ Below B w w' := by
  obtain ⟨A, c, A', c', rfl, hr, hf⟩ := hx
  have h1 := tx_fresh B (w.alloc (.cells #[.slice A g.recs.length c, .slice A' g.funs.length c'] 28)) (by simp; omega)
  have q1 : Wr B w _ := ((wr_alloc hB (.cells #[.slice A g.recs.length c, .slice A' g.funs.length c'] 28)).alloc (by simp; omega) (.cells #[.pointer none, .slice none 0 0] 76))
  have e1 := held_alloc (.cells #[.pointer none, .slice none 0 0] 76) (heap_alloc_new w (.cells #[.slice A g.recs.length c, .slice A' g.funs.length c'] 28))
  rw [World.size_alloc] at h1
  obtain ⟨w1, HW1⟩ : ∃ U, Hid ((w.alloc (.cells #[.slice A g.recs.length c, .slice A' g.funs.length c'] 28)).alloc (.cells #[.pointer none, .slice none 0 0] 76) = U) := ⟨_, Lib.hid rfl⟩
  rw [HW1.out] at h1 q1 e1
  obtain ⟨vp, hvp⟩ : ∃ x : Array Value, Hid (#[.slice A g.recs.length c, .slice A' g.funs.length c'] = x) := ⟨_, Lib.hid rfl⟩
  rw [hvp.out] at e1
  have HT1 := Lib.hid h1
  have HQ1 := Lib.hid q1
  have HE1 := Lib.hid e1
  have HOO := Lib.hid hO
  have HR1 := Lib.hid hr
  have HF1 := Lib.hid hf
  have hz1 : w1.heap.size = w.heap.size + 1 + 1 := by rw [← HW1.out]; simp
  have HZ1 := Lib.hid hz1
  have hs1 : w.heap.size + 1 < w1.heap.size := by omega
  have hrc : c ≤ 9223372036854775807 := by have := hr.2.1; unfold maxLen at this; omega
  have hrl : g.recs.length ≤ c := hr.1
  have hfc : c' ≤ 9223372036854775807 := by have := hf.2.1; unfold maxLen at this; omega
  have hfl : g.funs.length ≤ c' := hf.1
  have HLEN := Lib.hid hL
  have HNE := Lib.hid hne
  have HNM := Lib.hid hn
  clear h1 q1 e1 hr hf hz1 hL hne hn hO
  go_enter Tryd.func15, Tryd.ntmps15
  go_wp2_with fail
  rw [HW1.out]
  go_loopw [13] (fun i wr => ∃ k : Nat, i = .int .i64 k ∧ k ≤ g.recs.length ∧ Tx B (w.heap.size + 1) ((g.recs.take k).map recT).flatten wr ∧ Wr B w wr ∧ wr.heap[w.heap.size]? = some (.cells vp 28 (0, 0))) (fun i _ => g.recs.length - (intOf i).toNat)
  case atStart => exact ⟨0, rfl, Nat.zero_le _, by simpa using HT1.out, HQ1.out, HE1.out⟩
  case round =>
    obtain ⟨k, rfl, hk, ht, hw, he⟩ := hrel
    by_cases hlt : k < g.recs.length
    · have hxk : g.recs[k]? = some g.recs[k] := List.getElem?_eq_getElem hlt
      obtain ⟨x, hx0⟩ : ∃ x, Hid (g.recs[k] = x) := ⟨_, Lib.hid rfl⟩
      rw [hx0.out] at hxk
      have hst := map_take recT hxk
      have hle := map_le recT g.recs (k + 1)
      rw [hst, List.length_append] at hle
      have HS := Lib.hid hst
      obtain ⟨b, A2, c2, hA, hnm, g0, g1⟩ := rec_arg (RowIs.wr hw other_rec (fun _ _ hv => RecIs.wr hv hw) HR1.out) hxk
      subst hA
      obtain ⟨rn, rf⟩ := x
      have hp := HLEN.out
      unfold programT at hp
      rw [List.length_append] at hp
      obtain ⟨lk, hlk⟩ : ∃ s, Hid (((g.recs.take k).map recT).flatten = s) := ⟨_, Lib.hid rfl⟩
      rw [hlk.out] at ht hle
      have HL := Lib.hid (show lk.length + (7 + (rn.length + (3 + ((commas rf).length + 3)))) ≤ 140737488355328 by simp only [recT, List.length_append, List.length_cons, List.length_nil] at hle; omega)
      have HK := Lib.hid (show True from trivial)
      have HT := Lib.hid ht
      have HQ := Lib.hid hw
      have HO := Lib.hid (HOO.out.wr hgB hw)
      have HX := Lib.hid hnm
      have HE := Lib.hid he
      dsimp only at g0 g1
      clear ht hw he hnm hxk hst hle hp hx0
      by_cases hk0 : k = 0
      · subst hk0
        simp only [Nat.zero_mul, Nat.zero_add] at g0 g1
        have t0 := HT.out.alloc (.cells #[.string ⟨rn.toArray⟩, .slice A2 rf.length c2] 55)
        have q0 := HQ.out.alloc HT.out.base (.cells #[.string ⟨rn.toArray⟩, .slice A2 rf.length c2] 55)
        have y0 := wr_alloc HT.out.base (.cells #[.string ⟨rn.toArray⟩, .slice A2 rf.length c2] 55)
        have o0 := HO.out.wr hgB y0
        have e0 := heap_alloc_new wr (.cells #[.string ⟨rn.toArray⟩, .slice A2 rf.length c2] 55)
        have f0 := held_alloc (.cells #[.string ⟨rn.toArray⟩, .slice A2 rf.length c2] 55) HE.out
        have X_0 := NamesIs.wr HX.out y0
        obtain ⟨w0, HW0⟩ : ∃ U, Hid (wr.alloc (.cells #[.string ⟨rn.toArray⟩, .slice A2 rf.length c2] 55) = U) := ⟨_, Lib.hid rfl⟩
        rw [HW0.out] at t0 q0 o0 e0 f0 X_0
        have hz0 : w0.heap.size = wr.heap.size + 1 := by rw [← HW0.out]; exact World.size_alloc _ _
        have HZ0 := Lib.hid hz0
        have T0 := Lib.hid t0
        have Q0 := Lib.hid q0
        have O0 := Lib.hid o0
        have E0 := Lib.hid e0
        have G0 := Lib.hid f0
        have X0 := Lib.hid X_0
        have hs0 : wr.heap.size < w0.heap.size := by omega
        clear hz0 y0 t0 q0 o0 e0 f0 X_0
        go_wp2_with fail
        rw [HW0.out]
        refine wp_region_O (S := fun w' => w'.cell? ⟨wr.heap.size, 0, none⟩ = some (.string ⟨rn.toArray⟩) ∧ w'.cell? ⟨wr.heap.size, 1, none⟩ = some (.slice A2 rf.length c2)) (L := [2, 4, 5]) (by kernel_rfl) ?_
        refine wpAnyO_late (i := 0) (v := ?_) rfl (by kernel_rfl) (by kernel_rfl) (by kernel_rfl) (by kernel_rfl) (fun _ _ _ h => h) (Or.inl ⟨by rfl, ?_⟩) ?_
        rotate_left 1
        · intro w hSw
          clear hSw
          (go_simp) <;> (with_reducible rfl)
        (try simp only [Act.put]); (try simp only [List.getElem_toArray]); (try simp only [List.getElem_cons_succ]); (try simp only [List.getElem_cons_zero]); (try simp only [List.setIfInBounds_toArray]); (try simp only [List.set_cons_succ]); (try simp only [List.set_cons_zero])
        refine wpAnyO_late (i := 1) (v := ?_) rfl (by kernel_rfl) (by kernel_rfl) (by kernel_rfl) (by kernel_rfl) (fun _ _ _ h => h) (Or.inl ⟨by rfl, ?_⟩) ?_
        rotate_left 1
        · intro w hSw
          clear hSw
          (go_simp) <;> (with_reducible rfl)
        (try simp only [Act.put]); (try simp only [List.getElem_toArray]); (try simp only [List.getElem_cons_succ]); (try simp only [List.getElem_cons_zero]); (try simp only [List.setIfInBounds_toArray]); (try simp only [List.set_cons_succ]); (try simp only [List.set_cons_zero])
        refine wpAnyO_late (i := 3) (v := ?_) rfl (by kernel_rfl) (by kernel_rfl) (by kernel_rfl) (by kernel_rfl) (fun _ _ _ h => h) (Or.inl ⟨by rfl, ?_⟩) ?_
        rotate_left 1
        · intro w hSw
          clear hSw
          (go_simp) <;> (with_reducible rfl)
        (try simp only [Act.put]); (try simp only [List.getElem_toArray]); (try simp only [List.getElem_cons_succ]); (try simp only [List.getElem_cons_zero]); (try simp only [List.setIfInBounds_toArray]); (try simp only [List.set_cons_succ]); (try simp only [List.set_cons_zero])
        refine wpAnyO_take (i := 2) (v := ?_) rfl (by kernel_rfl) (by kernel_rfl) (by kernel_rfl) (by kernel_rfl) (by kernel_rfl) (fun _ _ _ h => h) (Or.inl ⟨by rfl, ?_⟩) (show (w0.drew).cell? ⟨wr.heap.size, 0, none⟩ = some (.string ⟨rn.toArray⟩) ∧ (w0.drew).cell? ⟨wr.heap.size, 1, none⟩ = some (.slice A2 rf.length c2) from cells_two E0.out) ?_
        rotate_left 1
        · intro w' hSw
          (try dsimp only at hSw)
          obtain ⟨hs0, hs1⟩ := hSw
          (go_simp) <;> (with_reducible rfl)
        (try simp only [Act.put]); (try simp only [List.getElem_toArray]); (try simp only [List.getElem_cons_succ]); (try simp only [List.getElem_cons_zero]); (try simp only [List.setIfInBounds_toArray]); (try simp only [List.set_cons_succ]); (try simp only [List.set_cons_zero])
        refine wpAnyO_take (i := 4) (v := ?_) rfl (by kernel_rfl) (by kernel_rfl) (by kernel_rfl) (by kernel_rfl) (by kernel_rfl) (fun _ _ _ h => h) (Or.inl ⟨by rfl, ?_⟩) (show (w0.drew).cell? ⟨wr.heap.size, 0, none⟩ = some (.string ⟨rn.toArray⟩) ∧ (w0.drew).cell? ⟨wr.heap.size, 1, none⟩ = some (.slice A2 rf.length c2) from cells_two E0.out) ?_
        rotate_left 1
        · intro w' hSw
          (try dsimp only at hSw)
          obtain ⟨hs0, hs1⟩ := hSw
          (go_simp) <;> (with_reducible rfl)
        (try simp only [Act.put]); (try simp only [List.getElem_toArray]); (try simp only [List.getElem_cons_succ]); (try simp only [List.getElem_cons_zero]); (try simp only [List.setIfInBounds_toArray]); (try simp only [List.set_cons_succ]); (try simp only [List.set_cons_zero])
        have t1 := T0.out.drew
        have q1 := (Wr.refl B w0).drew
        have eE1 : w0.drew.heap[wr.heap.size]? = some (.cells #[.string ⟨rn.toArray⟩, .slice A2 rf.length c2] 55 (0, 0)) := E0.out
        have eG1 : w0.drew.heap[w.heap.size]? = some (.cells vp 28 (0, 0)) := G0.out
        obtain ⟨w1, HW1⟩ : ∃ U, Hid (w0.drew = U) := ⟨_, Lib.hid rfl⟩
        rw [HW1.out] at t1 q1 eE1 eG1
        have hs1 : wr.heap.size < w1.heap.size := by have := q1.size; omega
        have hnG1 : w.heap.size < w1.heap.size := (Array.getElem?_eq_some_iff.1 eG1).1
        have T1 := Lib.hid t1
        have Q1 := Lib.hid (Q0.out.trans q1)
        have O1 := Lib.hid (O0.out.wr hgB q1)
        have E1 := Lib.hid eE1
        have G1 := Lib.hid eG1
        have X1 := Lib.hid (X0.out.wr q1)
        clear t1 q1 eE1 eG1
        rw [HW1.out]
        refine wpAnyO_ready (rs := [5]) (by kernel_rfl) (by simp) (AllO.cons rfl (fun K hK => ?_) AllO.nil)
        go_simp
        refine (join_any X1.out (by have := commas_many rf; have := HL.out; have := HK.out; omega) (by have := HL.out; have := HK.out; omega)).mono ?_
        rintro e w2 ⟨rfl, hb2⟩
        have t2 := T1.out.still hb2
        have q2 := Wr.still T1.out.base hb2
        clear hb2
        have hs2 : wr.heap.size < w2.heap.size := by have := q2.size; omega
        have T2 := Lib.hid t2
        have Q2 := Lib.hid (Q1.out.trans q2)
        have O2 := Lib.hid (O1.out.wr hgB q2)
        have E2 := Lib.hid (q2.other _ _ _ _ E1.out other_rec)
        have G2 := Lib.hid (q2.other _ _ _ _ G1.out other_prg)
        have X2 := Lib.hid (X1.out.wr q2)
        clear t2 q2
        refine hK.out _ _ (fun _ => cells_two E2.out) ?_
        clear hK K
        (try dsimp only); (try simp only [List.getElem_toArray]); (try simp only [List.getElem_cons_succ]); (try simp only [List.getElem_cons_zero]); (try simp only [List.setIfInBounds_toArray]); (try simp only [List.set_cons_succ]); (try simp only [List.set_cons_zero])
        refine wpAnyO_ready (rs := [6]) (by kernel_rfl) (by simp) (AllO.cons rfl (fun K hK => ?_) AllO.nil)
        go_simp
        refine hK.out _ _ (fun hh => absurd hh (by decide)) ?_
        clear hK K
        (try dsimp only); (try simp only [List.getElem_toArray]); (try simp only [List.getElem_cons_succ]); (try simp only [List.getElem_cons_zero]); (try simp only [List.setIfInBounds_toArray]); (try simp only [List.set_cons_succ]); (try simp only [List.set_cons_zero])
        refine wpAnyO_ready (rs := [7]) (by kernel_rfl) (by simp) (AllO.cons rfl (fun K hK => ?_) AllO.nil)
        go_simp
        refine (add5 _ [114, 101, 99, 111, 114, 100, 32] rn [32, 123, 32] (commas rf) [32, 125, 10] T2.out rfl (by have := HL.out; have := HK.out; simp only [List.length_append, List.length_cons, List.length_nil]; omega)).mono ?_
        rintro e w3 ⟨rfl, t3, q3⟩
        have hs3 : wr.heap.size < w3.heap.size := by have := q3.size; omega
        have T3 := Lib.hid t3
        have Q3 := Lib.hid (Q2.out.trans q3)
        have O3 := Lib.hid (O2.out.wr hgB q3)
        have E3 := Lib.hid (q3.other _ _ _ _ E2.out other_rec)
        have G3 := Lib.hid (q3.other _ _ _ _ G2.out other_prg)
        have X3 := Lib.hid (X2.out.wr q3)
        clear t3 q3
        refine hK.out _ _ (fun hh => absurd hh (by decide)) ?_
        clear hK K
        refine wpAnyO_done (by kernel_rfl) ?_ _
        go_wp2_with fail
        go_roundw
        case rel => exact ⟨0 + 1, by go_num, by omega, by have := T3.out; rw [HS.out, hlk.out]; exact this, Q3.out, G3.out⟩
        case measure => simp [intOf]; omega
      · have hk1 : 0 < k := by omega
        clear hk0
        have t0 := HT.out.alloc (.cells #[.string ⟨rn.toArray⟩, .slice A2 rf.length c2] 55)
        have q0 := HQ.out.alloc HT.out.base (.cells #[.string ⟨rn.toArray⟩, .slice A2 rf.length c2] 55)
        have y0 := wr_alloc HT.out.base (.cells #[.string ⟨rn.toArray⟩, .slice A2 rf.length c2] 55)
        have o0 := HO.out.wr hgB y0
        have e0 := heap_alloc_new wr (.cells #[.string ⟨rn.toArray⟩, .slice A2 rf.length c2] 55)
        have f0 := held_alloc (.cells #[.string ⟨rn.toArray⟩, .slice A2 rf.length c2] 55) HE.out
        have X_0 := NamesIs.wr HX.out y0
        obtain ⟨w0, HW0⟩ : ∃ U, Hid (wr.alloc (.cells #[.string ⟨rn.toArray⟩, .slice A2 rf.length c2] 55) = U) := ⟨_, Lib.hid rfl⟩
        rw [HW0.out] at t0 q0 o0 e0 f0 X_0
        have hz0 : w0.heap.size = wr.heap.size + 1 := by rw [← HW0.out]; exact World.size_alloc _ _
        have HZ0 := Lib.hid hz0
        have T0 := Lib.hid t0
        have Q0 := Lib.hid q0
        have O0 := Lib.hid o0
        have E0 := Lib.hid e0
        have G0 := Lib.hid f0
        have X0 := Lib.hid X_0
        have hs0 : wr.heap.size < w0.heap.size := by omega
        clear hz0 y0 t0 q0 o0 e0 f0 X_0
        go_wp2_with fail
        rw [HW0.out]
        refine wp_region_O (S := fun w' => w'.cell? ⟨wr.heap.size, 0, none⟩ = some (.string ⟨rn.toArray⟩) ∧ w'.cell? ⟨wr.heap.size, 1, none⟩ = some (.slice A2 rf.length c2)) (L := [2, 4, 5]) (by kernel_rfl) ?_
        refine wpAnyO_late (i := 0) (v := ?_) rfl (by kernel_rfl) (by kernel_rfl) (by kernel_rfl) (by kernel_rfl) (fun _ _ _ h => h) (Or.inl ⟨by rfl, ?_⟩) ?_
        rotate_left 1
        · intro w hSw
          clear hSw
          (go_simp) <;> (with_reducible rfl)
        (try simp only [Act.put]); (try simp only [List.getElem_toArray]); (try simp only [List.getElem_cons_succ]); (try simp only [List.getElem_cons_zero]); (try simp only [List.setIfInBounds_toArray]); (try simp only [List.set_cons_succ]); (try simp only [List.set_cons_zero])
        refine wpAnyO_late (i := 1) (v := ?_) rfl (by kernel_rfl) (by kernel_rfl) (by kernel_rfl) (by kernel_rfl) (fun _ _ _ h => h) (Or.inl ⟨by rfl, ?_⟩) ?_
        rotate_left 1
        · intro w hSw
          clear hSw
          (go_simp) <;> (with_reducible rfl)
        (try simp only [Act.put]); (try simp only [List.getElem_toArray]); (try simp only [List.getElem_cons_succ]); (try simp only [List.getElem_cons_zero]); (try simp only [List.setIfInBounds_toArray]); (try simp only [List.set_cons_succ]); (try simp only [List.set_cons_zero])
        refine wpAnyO_late (i := 3) (v := ?_) rfl (by kernel_rfl) (by kernel_rfl) (by kernel_rfl) (by kernel_rfl) (fun _ _ _ h => h) (Or.inl ⟨by rfl, ?_⟩) ?_
        rotate_left 1
        · intro w hSw
          clear hSw
          (go_simp) <;> (with_reducible rfl)
        (try simp only [Act.put]); (try simp only [List.getElem_toArray]); (try simp only [List.getElem_cons_succ]); (try simp only [List.getElem_cons_zero]); (try simp only [List.setIfInBounds_toArray]); (try simp only [List.set_cons_succ]); (try simp only [List.set_cons_zero])
        refine wpAnyO_take (i := 2) (v := ?_) rfl (by kernel_rfl) (by kernel_rfl) (by kernel_rfl) (by kernel_rfl) (by kernel_rfl) (fun _ _ _ h => h) (Or.inl ⟨by rfl, ?_⟩) (show (w0.drew).cell? ⟨wr.heap.size, 0, none⟩ = some (.string ⟨rn.toArray⟩) ∧ (w0.drew).cell? ⟨wr.heap.size, 1, none⟩ = some (.slice A2 rf.length c2) from cells_two E0.out) ?_
        rotate_left 1
        · intro w' hSw
          (try dsimp only at hSw)
          obtain ⟨hs0, hs1⟩ := hSw
          (go_simp) <;> (with_reducible rfl)
        (try simp only [Act.put]); (try simp only [List.getElem_toArray]); (try simp only [List.getElem_cons_succ]); (try simp only [List.getElem_cons_zero]); (try simp only [List.setIfInBounds_toArray]); (try simp only [List.set_cons_succ]); (try simp only [List.set_cons_zero])
        refine wpAnyO_take (i := 4) (v := ?_) rfl (by kernel_rfl) (by kernel_rfl) (by kernel_rfl) (by kernel_rfl) (by kernel_rfl) (fun _ _ _ h => h) (Or.inl ⟨by rfl, ?_⟩) (show (w0.drew).cell? ⟨wr.heap.size, 0, none⟩ = some (.string ⟨rn.toArray⟩) ∧ (w0.drew).cell? ⟨wr.heap.size, 1, none⟩ = some (.slice A2 rf.length c2) from cells_two E0.out) ?_
        rotate_left 1
        · intro w' hSw
          (try dsimp only at hSw)
          obtain ⟨hs0, hs1⟩ := hSw
          (go_simp) <;> (with_reducible rfl)
        (try simp only [Act.put]); (try simp only [List.getElem_toArray]); (try simp only [List.getElem_cons_succ]); (try simp only [List.getElem_cons_zero]); (try simp only [List.setIfInBounds_toArray]); (try simp only [List.set_cons_succ]); (try simp only [List.set_cons_zero])
        have t1 := T0.out.drew
        have q1 := (Wr.refl B w0).drew
        have eE1 : w0.drew.heap[wr.heap.size]? = some (.cells #[.string ⟨rn.toArray⟩, .slice A2 rf.length c2] 55 (0, 0)) := E0.out
        have eG1 : w0.drew.heap[w.heap.size]? = some (.cells vp 28 (0, 0)) := G0.out
        obtain ⟨w1, HW1⟩ : ∃ U, Hid (w0.drew = U) := ⟨_, Lib.hid rfl⟩
        rw [HW1.out] at t1 q1 eE1 eG1
        have hs1 : wr.heap.size < w1.heap.size := by have := q1.size; omega
        have hnG1 : w.heap.size < w1.heap.size := (Array.getElem?_eq_some_iff.1 eG1).1
        have T1 := Lib.hid t1
        have Q1 := Lib.hid (Q0.out.trans q1)
        have O1 := Lib.hid (O0.out.wr hgB q1)
        have E1 := Lib.hid eE1
        have G1 := Lib.hid eG1
        have X1 := Lib.hid (X0.out.wr q1)
        clear t1 q1 eE1 eG1
        rw [HW1.out]
        refine wpAnyO_ready (rs := [5]) (by kernel_rfl) (by simp) (AllO.cons rfl (fun K hK => ?_) AllO.nil)
        go_simp
        refine (join_any X1.out (by have := commas_many rf; have := HL.out; have := HK.out; omega) (by have := HL.out; have := HK.out; omega)).mono ?_
        rintro e w2 ⟨rfl, hb2⟩
        have t2 := T1.out.still hb2
        have q2 := Wr.still T1.out.base hb2
        clear hb2
        have hs2 : wr.heap.size < w2.heap.size := by have := q2.size; omega
        have T2 := Lib.hid t2
        have Q2 := Lib.hid (Q1.out.trans q2)
        have O2 := Lib.hid (O1.out.wr hgB q2)
        have E2 := Lib.hid (q2.other _ _ _ _ E1.out other_rec)
        have G2 := Lib.hid (q2.other _ _ _ _ G1.out other_prg)
        have X2 := Lib.hid (X1.out.wr q2)
        clear t2 q2
        refine hK.out _ _ (fun _ => cells_two E2.out) ?_
        clear hK K
        (try dsimp only); (try simp only [List.getElem_toArray]); (try simp only [List.getElem_cons_succ]); (try simp only [List.getElem_cons_zero]); (try simp only [List.setIfInBounds_toArray]); (try simp only [List.set_cons_succ]); (try simp only [List.set_cons_zero])
        refine wpAnyO_ready (rs := [6]) (by kernel_rfl) (by simp) (AllO.cons rfl (fun K hK => ?_) AllO.nil)
        go_simp
        refine hK.out _ _ (fun hh => absurd hh (by decide)) ?_
        clear hK K
        (try dsimp only); (try simp only [List.getElem_toArray]); (try simp only [List.getElem_cons_succ]); (try simp only [List.getElem_cons_zero]); (try simp only [List.setIfInBounds_toArray]); (try simp only [List.set_cons_succ]); (try simp only [List.set_cons_zero])
        refine wpAnyO_ready (rs := [7]) (by kernel_rfl) (by simp) (AllO.cons rfl (fun K hK => ?_) AllO.nil)
        go_simp
        refine (add5 _ [114, 101, 99, 111, 114, 100, 32] rn [32, 123, 32] (commas rf) [32, 125, 10] T2.out rfl (by have := HL.out; have := HK.out; simp only [List.length_append, List.length_cons, List.length_nil]; omega)).mono ?_
        rintro e w3 ⟨rfl, t3, q3⟩
        have hs3 : wr.heap.size < w3.heap.size := by have := q3.size; omega
        have T3 := Lib.hid t3
        have Q3 := Lib.hid (Q2.out.trans q3)
        have O3 := Lib.hid (O2.out.wr hgB q3)
        have E3 := Lib.hid (q3.other _ _ _ _ E2.out other_rec)
        have G3 := Lib.hid (q3.other _ _ _ _ G2.out other_prg)
        have X3 := Lib.hid (X2.out.wr q3)
        clear t3 q3
        refine hK.out _ _ (fun hh => absurd hh (by decide)) ?_
        clear hK K
        refine wpAnyO_done (by kernel_rfl) ?_ _
        go_wp2_with fail
        go_roundw
        case rel => exact ⟨k + 1, by go_num, by omega, by have := T3.out; rw [HS.out, hlk.out]; exact this, Q3.out, G3.out⟩
        case measure => simp [intOf]; omega
    · obtain rfl : k = g.recs.length := by omega
      rw [List.take_length] at ht
      obtain ⟨lr, hlr⟩ : ∃ s, Hid ((g.recs.map recT).flatten = s) := ⟨_, Lib.hid rfl⟩
      rw [hlr.out] at ht
      obtain ⟨wf, hwf⟩ : ∃ x, x = wr := ⟨_, rfl⟩
      subst hwf
      have HT2 := Lib.hid ht
      have HQ2 := Lib.hid hw
      have HE2 := Lib.hid he
      rw [← hvp.out] at he
      obtain ⟨z0, z1⟩ := cells_two he
      clear ht hw he hlt hk
      go_wp2_with fail
      clear z0 z1
      go_loopw [29] (fun i wr => ∃ k : Nat, i = .int .i64 k ∧ k ≤ g.funs.length ∧ Tx B (w.heap.size + 1) (lr ++ ((g.funs.take k).map funT).flatten) wr ∧ Wr B w wr ∧ wr.heap[w.heap.size]? = some (.cells vp 28 (0, 0))) (fun i _ => g.funs.length - (intOf i).toNat)
      case atStart => exact ⟨0, rfl, Nat.zero_le _, by simpa using HT2.out, HQ2.out, HE2.out⟩
      case round =>
        obtain ⟨k, rfl, hk, ht, hw, he⟩ := hrel
        by_cases hlt : k < g.funs.length
        · have hxk : g.funs[k]? = some g.funs[k] := List.getElem?_eq_getElem hlt
          obtain ⟨x, hx0⟩ : ∃ x, Hid (g.funs[k] = x) := ⟨_, Lib.hid rfl⟩
          have hmem : g.funs[k] ∈ g.funs := List.getElem_mem hlt
          rw [hx0.out] at hxk hmem
          have HN := Lib.hid (HNM.out x hmem)
          have hst := map_take funT hxk
          have hle := map_le funT g.funs (k + 1)
          rw [hst, List.length_append] at hle
          have HS := Lib.hid hst
          obtain ⟨b, A2, c2, A3, c3, hA, hnm, hsm, g0, g1, g2, g3⟩ := fun_arg (RowIs.wr hw other_fun (fun _ _ hv => FunIs.wr hv hw) HF1.out) hxk
          subst hA
          obtain ⟨d, hsd⟩ := hsm.d
          obtain ⟨fn, ln, ps, bd⟩ := x
          have hp := HLEN.out
          unfold programT at hp
          rw [List.length_append, hlr.out] at hp
          obtain ⟨lk, hlk⟩ : ∃ s, Hid (lr ++ ((g.funs.take k).map funT).flatten = s) := ⟨_, Lib.hid rfl⟩
          have hlk2 : lk.length = lr.length + ((g.funs.take k).map funT).flatten.length := by rw [← hlk.out, List.length_append]
          rw [hlk.out] at ht
          have HL := Lib.hid (show lk.length + (5 + (fn.length + (1 + ((commas ps).length + (4 + ((blkT 1 bd).length + 2)))))) ≤ 140737488355328 by simp only [funT, List.length_append, List.length_cons, List.length_nil] at hle; omega)
          have HK := Lib.hid (show True from trivial)
          have HT := Lib.hid ht
          have HQ := Lib.hid hw
          have HO := Lib.hid (HOO.out.wr hgB hw)
          have HX := Lib.hid hnm
          have HY := Lib.hid hsd
          have HE := Lib.hid he
          dsimp only at g0 g1 g2 g3
          clear ht hw he hnm hsm hsd hxk hmem hst hle hp hx0 hlk2
          by_cases hk0 : k = 0
          · subst hk0
            simp only [Nat.zero_mul, Nat.zero_add] at g0 g1 g2 g3
            have t0 := HT.out.alloc (.cells #[.string ⟨fn.toArray⟩, .int .i64 ln, .slice A2 ps.length c2, .slice A3 bd.length c3] 46)
            have q0 := HQ.out.alloc HT.out.base (.cells #[.string ⟨fn.toArray⟩, .int .i64 ln, .slice A2 ps.length c2, .slice A3 bd.length c3] 46)
            have y0 := wr_alloc HT.out.base (.cells #[.string ⟨fn.toArray⟩, .int .i64 ln, .slice A2 ps.length c2, .slice A3 bd.length c3] 46)
            have o0 := HO.out.wr hgB y0
            have e0 := heap_alloc_new wr (.cells #[.string ⟨fn.toArray⟩, .int .i64 ln, .slice A2 ps.length c2, .slice A3 bd.length c3] 46)
            have f0 := held_alloc (.cells #[.string ⟨fn.toArray⟩, .int .i64 ln, .slice A2 ps.length c2, .slice A3 bd.length c3] 46) HE.out
            have X_0 := NamesIs.wr HX.out y0
            have Y_0 := SmsD.wr HY.out y0
            obtain ⟨w0, HW0⟩ : ∃ U, Hid (wr.alloc (.cells #[.string ⟨fn.toArray⟩, .int .i64 ln, .slice A2 ps.length c2, .slice A3 bd.length c3] 46) = U) := ⟨_, Lib.hid rfl⟩
            rw [HW0.out] at t0 q0 o0 e0 f0 X_0 Y_0
            have hz0 : w0.heap.size = wr.heap.size + 1 := by rw [← HW0.out]; exact World.size_alloc _ _
            have HZ0 := Lib.hid hz0
            have T0 := Lib.hid t0
            have Q0 := Lib.hid q0
            have O0 := Lib.hid o0
            have E0 := Lib.hid e0
            have G0 := Lib.hid f0
            have X0 := Lib.hid X_0
            have Y0 := Lib.hid Y_0
            have hs0 : wr.heap.size < w0.heap.size := by omega
            clear hz0 y0 t0 q0 o0 e0 f0 X_0 Y_0
            go_wp2_with fail
            rw [HW0.out]
            refine wp_region_O (S := fun w' => w'.cell? ⟨wr.heap.size, 0, none⟩ = some (.string ⟨fn.toArray⟩) ∧ w'.cell? ⟨wr.heap.size, 2, none⟩ = some (.slice A2 ps.length c2)) (L := [2, 4, 5]) (by kernel_rfl) ?_
            refine wpAnyO_late (i := 0) (v := ?_) rfl (by kernel_rfl) (by kernel_rfl) (by kernel_rfl) (by kernel_rfl) (fun _ _ _ h => h) (Or.inl ⟨by rfl, ?_⟩) ?_
            rotate_left 1
            · intro w hSw
              clear hSw
              (go_simp) <;> (with_reducible rfl)
            (try simp only [Act.put]); (try simp only [List.getElem_toArray]); (try simp only [List.getElem_cons_succ]); (try simp only [List.getElem_cons_zero]); (try simp only [List.setIfInBounds_toArray]); (try simp only [List.set_cons_succ]); (try simp only [List.set_cons_zero])
            refine wpAnyO_late (i := 1) (v := ?_) rfl (by kernel_rfl) (by kernel_rfl) (by kernel_rfl) (by kernel_rfl) (fun _ _ _ h => h) (Or.inl ⟨by rfl, ?_⟩) ?_
            rotate_left 1
            · intro w hSw
              clear hSw
              (go_simp) <;> (with_reducible rfl)
            (try simp only [Act.put]); (try simp only [List.getElem_toArray]); (try simp only [List.getElem_cons_succ]); (try simp only [List.getElem_cons_zero]); (try simp only [List.setIfInBounds_toArray]); (try simp only [List.set_cons_succ]); (try simp only [List.set_cons_zero])
            refine wpAnyO_late (i := 3) (v := ?_) rfl (by kernel_rfl) (by kernel_rfl) (by kernel_rfl) (by kernel_rfl) (fun _ _ _ h => h) (Or.inl ⟨by rfl, ?_⟩) ?_
            rotate_left 1
            · intro w hSw
              clear hSw
              (go_simp) <;> (with_reducible rfl)
            (try simp only [Act.put]); (try simp only [List.getElem_toArray]); (try simp only [List.getElem_cons_succ]); (try simp only [List.getElem_cons_zero]); (try simp only [List.setIfInBounds_toArray]); (try simp only [List.set_cons_succ]); (try simp only [List.set_cons_zero])
            refine wpAnyO_take (i := 2) (v := ?_) rfl (by kernel_rfl) (by kernel_rfl) (by kernel_rfl) (by kernel_rfl) (by kernel_rfl) (fun _ _ _ h => h) (Or.inl ⟨by rfl, ?_⟩) (show (w0.drew).cell? ⟨wr.heap.size, 0, none⟩ = some (.string ⟨fn.toArray⟩) ∧ (w0.drew).cell? ⟨wr.heap.size, 2, none⟩ = some (.slice A2 ps.length c2) from ⟨(cells_four E0.out).1.1, (cells_four E0.out).1.2.2.1⟩) ?_
            rotate_left 1
            · intro w' hSw
              (try dsimp only at hSw)
              obtain ⟨hs0, hs1⟩ := hSw
              (go_simp) <;> (with_reducible rfl)
            (try simp only [Act.put]); (try simp only [List.getElem_toArray]); (try simp only [List.getElem_cons_succ]); (try simp only [List.getElem_cons_zero]); (try simp only [List.setIfInBounds_toArray]); (try simp only [List.set_cons_succ]); (try simp only [List.set_cons_zero])
            refine wpAnyO_take (i := 4) (v := ?_) rfl (by kernel_rfl) (by kernel_rfl) (by kernel_rfl) (by kernel_rfl) (by kernel_rfl) (fun _ _ _ h => h) (Or.inl ⟨by rfl, ?_⟩) (show (w0.drew).cell? ⟨wr.heap.size, 0, none⟩ = some (.string ⟨fn.toArray⟩) ∧ (w0.drew).cell? ⟨wr.heap.size, 2, none⟩ = some (.slice A2 ps.length c2) from ⟨(cells_four E0.out).1.1, (cells_four E0.out).1.2.2.1⟩) ?_
            rotate_left 1
            · intro w' hSw
              (try dsimp only at hSw)
              obtain ⟨hs0, hs1⟩ := hSw
              (go_simp) <;> (with_reducible rfl)
            (try simp only [Act.put]); (try simp only [List.getElem_toArray]); (try simp only [List.getElem_cons_succ]); (try simp only [List.getElem_cons_zero]); (try simp only [List.setIfInBounds_toArray]); (try simp only [List.set_cons_succ]); (try simp only [List.set_cons_zero])
            have t1 := T0.out.drew
            have q1 := (Wr.refl B w0).drew
            have eE1 : w0.drew.heap[wr.heap.size]? = some (.cells #[.string ⟨fn.toArray⟩, .int .i64 ln, .slice A2 ps.length c2, .slice A3 bd.length c3] 46 (0, 0)) := E0.out
            have eG1 : w0.drew.heap[w.heap.size]? = some (.cells vp 28 (0, 0)) := G0.out
            obtain ⟨w1, HW1⟩ : ∃ U, Hid (w0.drew = U) := ⟨_, Lib.hid rfl⟩
            rw [HW1.out] at t1 q1 eE1 eG1
            have hs1 : wr.heap.size < w1.heap.size := by have := q1.size; omega
            have hnG1 : w.heap.size < w1.heap.size := (Array.getElem?_eq_some_iff.1 eG1).1
            have T1 := Lib.hid t1
            have Q1 := Lib.hid (Q0.out.trans q1)
            have O1 := Lib.hid (O0.out.wr hgB q1)
            have E1 := Lib.hid eE1
            have G1 := Lib.hid eG1
            have X1 := Lib.hid (X0.out.wr q1)
            have Y1 := Lib.hid (Y0.out.wr q1)
            clear t1 q1 eE1 eG1
            rw [HW1.out]
            refine wpAnyO_ready (rs := [5]) (by kernel_rfl) (by simp) (AllO.cons rfl (fun K hK => ?_) AllO.nil)
            go_simp
            refine (join_any X1.out (by have := commas_many ps; have := HL.out; have := HK.out; omega) (by have := HL.out; have := HK.out; omega)).mono ?_
            rintro e w2 ⟨rfl, hb2⟩
            have t2 := T1.out.still hb2
            have q2 := Wr.still T1.out.base hb2
            clear hb2
            have hs2 : wr.heap.size < w2.heap.size := by have := q2.size; omega
            have T2 := Lib.hid t2
            have Q2 := Lib.hid (Q1.out.trans q2)
            have O2 := Lib.hid (O1.out.wr hgB q2)
            have E2 := Lib.hid (q2.other _ _ _ _ E1.out other_fun)
            have G2 := Lib.hid (q2.other _ _ _ _ G1.out other_prg)
            have X2 := Lib.hid (X1.out.wr q2)
            have Y2 := Lib.hid (Y1.out.wr q2)
            clear t2 q2
            refine hK.out _ _ (fun _ => ⟨(cells_four E2.out).1.1, (cells_four E2.out).1.2.2.1⟩) ?_
            clear hK K
            (try dsimp only); (try simp only [List.getElem_toArray]); (try simp only [List.getElem_cons_succ]); (try simp only [List.getElem_cons_zero]); (try simp only [List.setIfInBounds_toArray]); (try simp only [List.set_cons_succ]); (try simp only [List.set_cons_zero])
            refine wpAnyO_ready (rs := [6]) (by kernel_rfl) (by simp) (AllO.cons rfl (fun K hK => ?_) AllO.nil)
            go_simp
            refine hK.out _ _ (fun hh => absurd hh (by decide)) ?_
            clear hK K
            (try dsimp only); (try simp only [List.getElem_toArray]); (try simp only [List.getElem_cons_succ]); (try simp only [List.getElem_cons_zero]); (try simp only [List.setIfInBounds_toArray]); (try simp only [List.set_cons_succ]); (try simp only [List.set_cons_zero])
            refine wpAnyO_ready (rs := [7]) (by kernel_rfl) (by simp) (AllO.cons rfl (fun K hK => ?_) AllO.nil)
            go_simp
            refine (add5 _ [102, 117, 110, 99, 32] fn [40] (commas ps) [41, 32, 123, 10] T2.out rfl (by have := HL.out; have := HK.out; simp only [List.length_append, List.length_cons, List.length_nil]; omega)).mono ?_
            rintro e w3 ⟨rfl, t3, q3⟩
            have hs3 : wr.heap.size < w3.heap.size := by have := q3.size; omega
            have T3 := Lib.hid t3
            have Q3 := Lib.hid (Q2.out.trans q3)
            have O3 := Lib.hid (O2.out.wr hgB q3)
            have E3 := Lib.hid (q3.other _ _ _ _ E2.out other_fun)
            have G3 := Lib.hid (q3.other _ _ _ _ G2.out other_prg)
            have X3 := Lib.hid (X2.out.wr q3)
            have Y3 := Lib.hid (Y2.out.wr q3)
            clear t3 q3
            refine hK.out _ _ (fun hh => absurd hh (by decide)) ?_
            clear hK K
            refine wpAnyO_done (by kernel_rfl) ?_ _
            obtain ⟨⟨z0, z1, z2, z3⟩, zf⟩ := cells_four E3.out
            clear zf
            go_wp2_with fail
            clear z0 z1 z2 z3
            refine (block_one (block_any (st_all itoa_at hgB d) hgB) T3.out O3.out Y3.out HN.out (by have := HL.out; simp only [List.length_append, List.length_cons, List.length_nil]; omega)).mono ?_
            rintro e w4 ⟨rfl, t4, q4⟩
            have hs4 : wr.heap.size < w4.heap.size := by have := q4.size; omega
            have T4 := Lib.hid t4
            have Q4 := Lib.hid (Q3.out.trans q4)
            have O4 := Lib.hid (O3.out.wr hgB q4)
            have E4 := Lib.hid (q4.other _ _ _ _ E3.out other_fun)
            have G4 := Lib.hid (q4.other _ _ _ _ G3.out other_prg)
            have X4 := Lib.hid (X3.out.wr q4)
            have Y4 := Lib.hid (Y3.out.wr q4)
            clear t4 q4
            go_wp2_with fail
            refine (add1 _ [125, 10] T4.out rfl (by have := HL.out; simp only [List.length_append, List.length_cons, List.length_nil]; omega)).mono ?_
            rintro e w5 ⟨rfl, t5, q5⟩
            have hs5 : wr.heap.size < w5.heap.size := by have := q5.size; omega
            have T5 := Lib.hid t5
            have Q5 := Lib.hid (Q4.out.trans q5)
            have O5 := Lib.hid (O4.out.wr hgB q5)
            have E5 := Lib.hid (q5.other _ _ _ _ E4.out other_fun)
            have G5 := Lib.hid (q5.other _ _ _ _ G4.out other_prg)
            have X5 := Lib.hid (X4.out.wr q5)
            have Y5 := Lib.hid (Y4.out.wr q5)
            clear t5 q5
            go_wp2_with fail
            go_roundw
            case rel => exact ⟨0 + 1, by go_num, by omega, by have := T5.out; rw [HS.out, ← List.append_assoc, hlk.out]; simpa [funT] using this, Q5.out, G5.out⟩
            case measure => simp [intOf]; omega
          · have hk1 : 0 < k := by omega
            clear hk0
            have t0 := HT.out.alloc (.cells #[.string ⟨fn.toArray⟩, .int .i64 ln, .slice A2 ps.length c2, .slice A3 bd.length c3] 46)
            have q0 := HQ.out.alloc HT.out.base (.cells #[.string ⟨fn.toArray⟩, .int .i64 ln, .slice A2 ps.length c2, .slice A3 bd.length c3] 46)
            have y0 := wr_alloc HT.out.base (.cells #[.string ⟨fn.toArray⟩, .int .i64 ln, .slice A2 ps.length c2, .slice A3 bd.length c3] 46)
            have o0 := HO.out.wr hgB y0
            have e0 := heap_alloc_new wr (.cells #[.string ⟨fn.toArray⟩, .int .i64 ln, .slice A2 ps.length c2, .slice A3 bd.length c3] 46)
            have f0 := held_alloc (.cells #[.string ⟨fn.toArray⟩, .int .i64 ln, .slice A2 ps.length c2, .slice A3 bd.length c3] 46) HE.out
            have X_0 := NamesIs.wr HX.out y0
            have Y_0 := SmsD.wr HY.out y0
            obtain ⟨w0, HW0⟩ : ∃ U, Hid (wr.alloc (.cells #[.string ⟨fn.toArray⟩, .int .i64 ln, .slice A2 ps.length c2, .slice A3 bd.length c3] 46) = U) := ⟨_, Lib.hid rfl⟩
            rw [HW0.out] at t0 q0 o0 e0 f0 X_0 Y_0
            have hz0 : w0.heap.size = wr.heap.size + 1 := by rw [← HW0.out]; exact World.size_alloc _ _
            have HZ0 := Lib.hid hz0
            have T0 := Lib.hid t0
            have Q0 := Lib.hid q0
            have O0 := Lib.hid o0
            have E0 := Lib.hid e0
            have G0 := Lib.hid f0
            have X0 := Lib.hid X_0
            have Y0 := Lib.hid Y_0
            have hs0 : wr.heap.size < w0.heap.size := by omega
            clear hz0 y0 t0 q0 o0 e0 f0 X_0 Y_0
            go_wp2_with fail
            rw [HW0.out]
            refine wp_region_O (S := fun w' => w'.cell? ⟨wr.heap.size, 0, none⟩ = some (.string ⟨fn.toArray⟩) ∧ w'.cell? ⟨wr.heap.size, 2, none⟩ = some (.slice A2 ps.length c2)) (L := [2, 4, 5]) (by kernel_rfl) ?_
            refine wpAnyO_late (i := 0) (v := ?_) rfl (by kernel_rfl) (by kernel_rfl) (by kernel_rfl) (by kernel_rfl) (fun _ _ _ h => h) (Or.inl ⟨by rfl, ?_⟩) ?_
            rotate_left 1
            · intro w hSw
              clear hSw
              (go_simp) <;> (with_reducible rfl)
            (try simp only [Act.put]); (try simp only [List.getElem_toArray]); (try simp only [List.getElem_cons_succ]); (try simp only [List.getElem_cons_zero]); (try simp only [List.setIfInBounds_toArray]); (try simp only [List.set_cons_succ]); (try simp only [List.set_cons_zero])
            refine wpAnyO_late (i := 1) (v := ?_) rfl (by kernel_rfl) (by kernel_rfl) (by kernel_rfl) (by kernel_rfl) (fun _ _ _ h => h) (Or.inl ⟨by rfl, ?_⟩) ?_
            rotate_left 1
            · intro w hSw
              clear hSw
              (go_simp) <;> (with_reducible rfl)
            (try simp only [Act.put]); (try simp only [List.getElem_toArray]); (try simp only [List.getElem_cons_succ]); (try simp only [List.getElem_cons_zero]); (try simp only [List.setIfInBounds_toArray]); (try simp only [List.set_cons_succ]); (try simp only [List.set_cons_zero])
            refine wpAnyO_late (i := 3) (v := ?_) rfl (by kernel_rfl) (by kernel_rfl) (by kernel_rfl) (by kernel_rfl) (fun _ _ _ h => h) (Or.inl ⟨by rfl, ?_⟩) ?_
            rotate_left 1
            · intro w hSw
              clear hSw
              (go_simp) <;> (with_reducible rfl)
            (try simp only [Act.put]); (try simp only [List.getElem_toArray]); (try simp only [List.getElem_cons_succ]); (try simp only [List.getElem_cons_zero]); (try simp only [List.setIfInBounds_toArray]); (try simp only [List.set_cons_succ]); (try simp only [List.set_cons_zero])
            refine wpAnyO_take (i := 2) (v := ?_) rfl (by kernel_rfl) (by kernel_rfl) (by kernel_rfl) (by kernel_rfl) (by kernel_rfl) (fun _ _ _ h => h) (Or.inl ⟨by rfl, ?_⟩) (show (w0.drew).cell? ⟨wr.heap.size, 0, none⟩ = some (.string ⟨fn.toArray⟩) ∧ (w0.drew).cell? ⟨wr.heap.size, 2, none⟩ = some (.slice A2 ps.length c2) from ⟨(cells_four E0.out).1.1, (cells_four E0.out).1.2.2.1⟩) ?_
            rotate_left 1
            · intro w' hSw
              (try dsimp only at hSw)
              obtain ⟨hs0, hs1⟩ := hSw
              (go_simp) <;> (with_reducible rfl)
            (try simp only [Act.put]); (try simp only [List.getElem_toArray]); (try simp only [List.getElem_cons_succ]); (try simp only [List.getElem_cons_zero]); (try simp only [List.setIfInBounds_toArray]); (try simp only [List.set_cons_succ]); (try simp only [List.set_cons_zero])
            refine wpAnyO_take (i := 4) (v := ?_) rfl (by kernel_rfl) (by kernel_rfl) (by kernel_rfl) (by kernel_rfl) (by kernel_rfl) (fun _ _ _ h => h) (Or.inl ⟨by rfl, ?_⟩) (show (w0.drew).cell? ⟨wr.heap.size, 0, none⟩ = some (.string ⟨fn.toArray⟩) ∧ (w0.drew).cell? ⟨wr.heap.size, 2, none⟩ = some (.slice A2 ps.length c2) from ⟨(cells_four E0.out).1.1, (cells_four E0.out).1.2.2.1⟩) ?_
            rotate_left 1
            · intro w' hSw
              (try dsimp only at hSw)
              obtain ⟨hs0, hs1⟩ := hSw
              (go_simp) <;> (with_reducible rfl)
            (try simp only [Act.put]); (try simp only [List.getElem_toArray]); (try simp only [List.getElem_cons_succ]); (try simp only [List.getElem_cons_zero]); (try simp only [List.setIfInBounds_toArray]); (try simp only [List.set_cons_succ]); (try simp only [List.set_cons_zero])
            have t1 := T0.out.drew
            have q1 := (Wr.refl B w0).drew
            have eE1 : w0.drew.heap[wr.heap.size]? = some (.cells #[.string ⟨fn.toArray⟩, .int .i64 ln, .slice A2 ps.length c2, .slice A3 bd.length c3] 46 (0, 0)) := E0.out
            have eG1 : w0.drew.heap[w.heap.size]? = some (.cells vp 28 (0, 0)) := G0.out
            obtain ⟨w1, HW1⟩ : ∃ U, Hid (w0.drew = U) := ⟨_, Lib.hid rfl⟩
            rw [HW1.out] at t1 q1 eE1 eG1
            have hs1 : wr.heap.size < w1.heap.size := by have := q1.size; omega
            have hnG1 : w.heap.size < w1.heap.size := (Array.getElem?_eq_some_iff.1 eG1).1
            have T1 := Lib.hid t1
            have Q1 := Lib.hid (Q0.out.trans q1)
            have O1 := Lib.hid (O0.out.wr hgB q1)
            have E1 := Lib.hid eE1
            have G1 := Lib.hid eG1
            have X1 := Lib.hid (X0.out.wr q1)
            have Y1 := Lib.hid (Y0.out.wr q1)
            clear t1 q1 eE1 eG1
            rw [HW1.out]
            refine wpAnyO_ready (rs := [5]) (by kernel_rfl) (by simp) (AllO.cons rfl (fun K hK => ?_) AllO.nil)
            go_simp
            refine (join_any X1.out (by have := commas_many ps; have := HL.out; have := HK.out; omega) (by have := HL.out; have := HK.out; omega)).mono ?_
            rintro e w2 ⟨rfl, hb2⟩
            have t2 := T1.out.still hb2
            have q2 := Wr.still T1.out.base hb2
            clear hb2
            have hs2 : wr.heap.size < w2.heap.size := by have := q2.size; omega
            have T2 := Lib.hid t2
            have Q2 := Lib.hid (Q1.out.trans q2)
            have O2 := Lib.hid (O1.out.wr hgB q2)
            have E2 := Lib.hid (q2.other _ _ _ _ E1.out other_fun)
            have G2 := Lib.hid (q2.other _ _ _ _ G1.out other_prg)
            have X2 := Lib.hid (X1.out.wr q2)
            have Y2 := Lib.hid (Y1.out.wr q2)
            clear t2 q2
            refine hK.out _ _ (fun _ => ⟨(cells_four E2.out).1.1, (cells_four E2.out).1.2.2.1⟩) ?_
            clear hK K
            (try dsimp only); (try simp only [List.getElem_toArray]); (try simp only [List.getElem_cons_succ]); (try simp only [List.getElem_cons_zero]); (try simp only [List.setIfInBounds_toArray]); (try simp only [List.set_cons_succ]); (try simp only [List.set_cons_zero])
            refine wpAnyO_ready (rs := [6]) (by kernel_rfl) (by simp) (AllO.cons rfl (fun K hK => ?_) AllO.nil)
            go_simp
            refine hK.out _ _ (fun hh => absurd hh (by decide)) ?_
            clear hK K
            (try dsimp only); (try simp only [List.getElem_toArray]); (try simp only [List.getElem_cons_succ]); (try simp only [List.getElem_cons_zero]); (try simp only [List.setIfInBounds_toArray]); (try simp only [List.set_cons_succ]); (try simp only [List.set_cons_zero])
            refine wpAnyO_ready (rs := [7]) (by kernel_rfl) (by simp) (AllO.cons rfl (fun K hK => ?_) AllO.nil)
            go_simp
            refine (add5 _ [102, 117, 110, 99, 32] fn [40] (commas ps) [41, 32, 123, 10] T2.out rfl (by have := HL.out; have := HK.out; simp only [List.length_append, List.length_cons, List.length_nil]; omega)).mono ?_
            rintro e w3 ⟨rfl, t3, q3⟩
            have hs3 : wr.heap.size < w3.heap.size := by have := q3.size; omega
            have T3 := Lib.hid t3
            have Q3 := Lib.hid (Q2.out.trans q3)
            have O3 := Lib.hid (O2.out.wr hgB q3)
            have E3 := Lib.hid (q3.other _ _ _ _ E2.out other_fun)
            have G3 := Lib.hid (q3.other _ _ _ _ G2.out other_prg)
            have X3 := Lib.hid (X2.out.wr q3)
            have Y3 := Lib.hid (Y2.out.wr q3)
            clear t3 q3
            refine hK.out _ _ (fun hh => absurd hh (by decide)) ?_
            clear hK K
            refine wpAnyO_done (by kernel_rfl) ?_ _
            obtain ⟨⟨z0, z1, z2, z3⟩, zf⟩ := cells_four E3.out
            clear zf
            go_wp2_with fail
            clear z0 z1 z2 z3
            refine (block_one (block_any (st_all itoa_at hgB d) hgB) T3.out O3.out Y3.out HN.out (by have := HL.out; simp only [List.length_append, List.length_cons, List.length_nil]; omega)).mono ?_
            rintro e w4 ⟨rfl, t4, q4⟩
            have hs4 : wr.heap.size < w4.heap.size := by have := q4.size; omega
            have T4 := Lib.hid t4
            have Q4 := Lib.hid (Q3.out.trans q4)
            have O4 := Lib.hid (O3.out.wr hgB q4)
            have E4 := Lib.hid (q4.other _ _ _ _ E3.out other_fun)
            have G4 := Lib.hid (q4.other _ _ _ _ G3.out other_prg)
            have X4 := Lib.hid (X3.out.wr q4)
            have Y4 := Lib.hid (Y3.out.wr q4)
            clear t4 q4
            go_wp2_with fail
            refine (add1 _ [125, 10] T4.out rfl (by have := HL.out; simp only [List.length_append, List.length_cons, List.length_nil]; omega)).mono ?_
            rintro e w5 ⟨rfl, t5, q5⟩
            have hs5 : wr.heap.size < w5.heap.size := by have := q5.size; omega
            have T5 := Lib.hid t5
            have Q5 := Lib.hid (Q4.out.trans q5)
            have O5 := Lib.hid (O4.out.wr hgB q5)
            have E5 := Lib.hid (q5.other _ _ _ _ E4.out other_fun)
            have G5 := Lib.hid (q5.other _ _ _ _ G4.out other_prg)
            have X5 := Lib.hid (X4.out.wr q5)
            have Y5 := Lib.hid (Y4.out.wr q5)
            clear t5 q5
            go_wp2_with fail
            go_roundw
            case rel => exact ⟨k + 1, by go_num, by omega, by have := T5.out; rw [HS.out, ← List.append_assoc, hlk.out]; simpa [funT] using this, Q5.out, G5.out⟩
            case measure => simp [intOf]; omega
        · obtain rfl : k = g.funs.length := by omega
          rw [List.take_length] at ht
          have hpt : lr ++ (g.funs.map funT).flatten = programT g := by rw [← hlr.out]; rfl
          rw [hpt] at ht
          have HT3 := Lib.hid ht
          have HQ3 := Lib.hid hw
          clear ht hw he hpt hlt hk
          go_wp2_with fail
          refine (builder_text (programT g) HNE.out HT3.out).mono ?_
          rintro e w9 ⟨rfl, hb9⟩
          go_wp2_with fail
          go_ret
          exact ⟨rfl, HQ3.out.below.trans hb9⟩
theorem printed_any {w : World} {p : Nat → Prop} {v : Value} {g : Prg} (hgB : PkB w.heap.size) (hO : Pk w) (hx : PrgIs w p v g) (hn : NmP g) (hL : (programT g).length ≤ 140737488355328) (hne : programT g ≠ []) :
    Calls Tryd.prog 15 #[v] w fun e w' => e = .returned (.string ⟨(programT g).toArray⟩) ∧ Below w.heap.size w w' := print_walk (Nat.le_refl _) hgB hO hx hn hL hne
end Go.Proofs.YtpfefjfpnmchcaaDoor
