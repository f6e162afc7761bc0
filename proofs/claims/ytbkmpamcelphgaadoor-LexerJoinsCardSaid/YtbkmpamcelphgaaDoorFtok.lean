/-
  The walk of lexer.firstToken: the token that a text begins with. Conditions: the text is not empty and no longer than a text may be; the package's variable holds the signs.
-/
import Derived.Test.YtbkmpamcelphgaaDoorFname
import Derived.Laws.Rows
namespace Go.Proofs.YtbkmpamcelphgaaDoor
open Go.RowKit

/-- The signs, in the order in which the code looks for them. -/
def signs : List (List UInt8) := [[60, 61], [61, 61], [33, 61], [40], [41], [123], [125], [91], [93], [44], [59], [58], [46], [43], [45], [42], [47], [37], [38], [124], [94], [60], [61], [33]]
def signsA : Array Value := #[.string ⟨#[60, 61]⟩, .string ⟨#[61, 61]⟩, .string ⟨#[33, 61]⟩, .string ⟨#[40]⟩, .string ⟨#[41]⟩, .string ⟨#[123]⟩, .string ⟨#[125]⟩, .string ⟨#[91]⟩, .string ⟨#[93]⟩, .string ⟨#[44]⟩, .string ⟨#[59]⟩, .string ⟨#[58]⟩, .string ⟨#[46]⟩, .string ⟨#[43]⟩, .string ⟨#[45]⟩, .string ⟨#[42]⟩, .string ⟨#[47]⟩, .string ⟨#[37]⟩, .string ⟨#[38]⟩, .string ⟨#[124]⟩, .string ⟨#[94]⟩, .string ⟨#[60]⟩, .string ⟨#[61]⟩, .string ⟨#[33]⟩]
/-- The package's variable holds the signs. -/
def SignsAt (w : World) : Prop := ∃ t fr, w.heap[0]? = some (.cells signsA t fr)
theorem SignsAt.lt {w : World} (h : SignsAt w) : 0 < w.heap.size := by
  obtain ⟨t, fr, h⟩ := h
  exact (Array.getElem?_eq_some_iff.1 h).1
theorem SignsAt.below {w w' : World} {B : Nat} (h : SignsAt w) (hb : Below B w w') (hB : 0 < B) : SignsAt w' := by
  obtain ⟨t, fr, h⟩ := h
  exact ⟨t, fr, (hb.block 0 hB).trans h⟩

theorem pre_iff {l p : List UInt8} : pre l p = true ↔ l.take p.length = p := by simp [pre]
theorem pre_not {l p : List UInt8} : pre l p = false ↔ l.take p.length ≠ p := by simp [pre]
theorem signs_one : ∀ k, k < 24 → 3 ≤ k → ∃ c ∈ ones, signs.getD k [] = [c] := by decide
theorem ones_sign : ∀ c ∈ ones, ∃ k, k < 24 ∧ 3 ≤ k ∧ signs.getD k [] = [c] := by decide
theorem twos_sign : ∀ x ∈ twos, ∃ k, k < 3 ∧ signs.getD k [] = x := by decide
theorem signs_two : ∀ k, k < 3 → signs.getD k [] ∈ twos ∧ (signs.getD k []).length = 2 := by decide
theorem signs_ne : ∀ k, k < 24 → signs.getD k [] ≠ [] := by decide
theorem sign_none {l : List UInt8} (h : ∀ j, j < 24 → pre l (signs.getD j []) = false) : sign l = [] := by
  unfold sign
  rw [if_neg, if_neg]
  · rintro ⟨c, hc, hone⟩
    obtain ⟨k, hk, _, hs⟩ := ones_sign c hone
    have h1 := h k hk
    rw [hs, pre_not] at h1
    apply h1
    match l, hc with
    | x :: l, hc => simpa using hc
  · intro ht
    obtain ⟨k, hk, hs⟩ := twos_sign _ ht
    have h1 := h k (by omega)
    rw [pre_not] at h1
    apply h1
    rw [(signs_two k hk).2, hs]
theorem sign_found {l : List UInt8} {k : Nat} (hk : k < 24) (h : ∀ j, j < k → pre l (signs.getD j []) = false) (hp : pre l (signs.getD k []) = true) : sign l = signs.getD k [] := by
  rw [pre_iff] at hp
  unfold sign
  by_cases h3 : k < 3
  · have ht := signs_two k h3
    rw [ht.2] at hp
    rw [hp, if_pos ht.1]
  · obtain ⟨c, hc, hs⟩ := signs_one k hk (by omega)
    rw [hs] at hp ⊢
    rw [if_neg, if_pos]
    · exact hp
    · match l, hp with
      | x :: l, hp =>
        have hx : x = c := by simpa using hp
        exact ⟨x, rfl, by rw [hx]; exact hc⟩
    · intro ht
      obtain ⟨j, hj, hs2⟩ := twos_sign _ ht
      have h1 := h j (by omega)
      rw [pre_not] at h1
      apply h1
      rw [(signs_two j hj).2, hs2]

theorem sign_index (w : World) : ∀ k : Nat, k < 24 → (Instr.index 81 (.agg signsA) (.int .i64 k)).run Tryd.prog w = .ok (.string ⟨(signs.getD k []).toArray⟩) w
  | 0, _ => by kernel_rfl
  | 1, _ => by kernel_rfl
  | 2, _ => by kernel_rfl
  | 3, _ => by kernel_rfl
  | 4, _ => by kernel_rfl
  | 5, _ => by kernel_rfl
  | 6, _ => by kernel_rfl
  | 7, _ => by kernel_rfl
  | 8, _ => by kernel_rfl
  | 9, _ => by kernel_rfl
  | 10, _ => by kernel_rfl
  | 11, _ => by kernel_rfl
  | 12, _ => by kernel_rfl
  | 13, _ => by kernel_rfl
  | 14, _ => by kernel_rfl
  | 15, _ => by kernel_rfl
  | 16, _ => by kernel_rfl
  | 17, _ => by kernel_rfl
  | 18, _ => by kernel_rfl
  | 19, _ => by kernel_rfl
  | 20, _ => by kernel_rfl
  | 21, _ => by kernel_rfl
  | 22, _ => by kernel_rfl
  | 23, _ => by kernel_rfl
  | k + 24, h => absurd h (by omega)

theorem ret_tok {a b : Nat} (h : a = b) (kd ln : Nat) (tx : List UInt8) (nm er : Nat) : fstV kd ln tx nm a er = fstV kd ln tx nm b er := by rw [h]

set_option maxHeartbeats 1600000 in
set_option maxRecDepth 100000 in
theorem ftok_sign (s : ByteArray) (b : Nat) (w : World) (hS : SignsAt w) (hz : 0 < s.size) (hd : Hid (isD (s[0]'hz).toNat = false)) (hl : Hid (isL (s[0]'hz).toNat = false)) (tx : List UInt8) (htx : Hid (sign s.data.toList = tx)) :
    Calls Tryd.prog 24 #[.string s, .map (some b)] w fun e w' => (tx = [] → e = fstV 0 0 [] 0 0 6) ∧ (tx ≠ [] → e = fstV 4 0 tx 0 tx.length 0) ∧ Below w.heap.size w w' := by
  have hlt := hS.lt
  obtain ⟨t, fr, hg⟩ := hS
  have hg1 : (w.alloc (.cells #[.int .i64 0, .int .i64 0, .string ⟨#[]⟩, .int .i64 0] 36)).heap[0]? = some (.cells signsA t fr) := by rw [heap_alloc_old _ _ hlt]; exact hg
  have HG := Lib.hid hg1
  clear hg hg1
  have hsz : (Tryd.prog.info? 81).map (·.size) = some signsA.size := by kernel_rfl
  have HS := Lib.hid hsz
  clear hsz
  have hu : (s[0]'hz).toNat < 256 := (s[0]'hz).toNat_lt
  go_enter Tryd.func24, Tryd.ntmps24
  go_wp2_with (first
    | (go_at_call 33; refine (isDigit_any (s[0]'hz).toNat (by omega) _ false hd).mono ?_; rintro e w2 ⟨rfl, rfl⟩)
    | (go_at_call 35; refine (isLetter_any (s[0]'hz).toNat (by omega) _ false hl).mono ?_; rintro e w2 ⟨rfl, rfl⟩)
    | (with_reducible refine wpList_load_row rfl 81 (.global 0) rfl 0 rfl t signsA fr _ HG.out Tryd.underlying81 rfl HS.out ?_))
  go_loop [31] (fun i => ∃ k : Nat, i = .int .i64 k ∧ k ≤ 24 ∧ ∀ j, j < k → pre s.data.toList (signs.getD j []) = false) (fun i => 24 - (intOf i).toNat)
  case atStart => exact ⟨0, rfl, by omega, fun j hj => by omega⟩
  case round =>
    obtain ⟨k, rfl, hk, hall⟩ := hrel
    have HA := Lib.hid hall
    clear hall
    by_cases hlt24 : k < 24
    · have hix : ∀ W, (Instr.index 81 (.agg signsA) (.int .i64 k)).run Tryd.prog W = .ok (.string ⟨(signs.getD k []).toArray⟩) W := fun W => sign_index W k hlt24
      obtain ⟨p, hp⟩ : ∃ p, Hid ((⟨(signs.getD k []).toArray⟩ : ByteArray) = p) := ⟨_, Lib.hid rfl⟩
      rw [hp.out] at hix
      have hpl : p.data.toList = signs.getD k [] := by rw [← hp.out]
      have HPL := Lib.hid hpl
      clear hpl
      by_cases hpre : pre s.data.toList (signs.getD k []) = true
      · have HP : Hid (pre s.data.toList p.data.toList = true) := by rw [HPL.out]; exact Lib.hid hpre
        have HF := Lib.hid (sign_found hlt24 HA.out hpre)
        clear hpre
        go_wp2_with (go_at_call 32; refine (hasPrefix_any s p _ true HP).mono ?_; rintro e w1 ⟨rfl, rfl⟩)
        have hk1 : signs.getD k [] = tx := HF.out.symm.trans htx.out
        have hx : p = ⟨tx.toArray⟩ := by rw [← hp.out, hk1]
        have hne : tx ≠ [] := by rw [← hk1]; exact signs_ne k hlt24
        refine bodyPost_ret (v := .tuple #[tokV 4 0 tx 0, .int .i64 tx.length, .int .i64 0]) ?_ rfl ⟨fun h => absurd h hne, fun _ => rfl, ?_⟩
        · simp [results, Tryd.results24, go_sem, hx]
        · exact (Below.refl _ _).alloc (Nat.le_refl _) _
      · have hpre : pre s.data.toList (signs.getD k []) = false := by simpa using hpre
        have HP : Hid (pre s.data.toList p.data.toList = false) := by rw [HPL.out]; exact Lib.hid hpre
        have HN : Hid (∀ j, j < k + 1 → pre s.data.toList (signs.getD j []) = false) := Lib.hid fun j hj => by
          by_cases hjk : j = k
          · rw [hjk]; exact hpre
          · exact HA.out j (by omega)
        clear hpre
        go_wp2_with (go_at_call 32; refine (hasPrefix_any s p _ false HP).mono ?_; rintro e w1 ⟨rfl, rfl⟩)
        go_round
        case rel => exact ⟨k + 1, by go_num, by omega, HN.out⟩
        case measure => simp [intOf]; omega
    · obtain rfl : k = 24 := by omega
      have hn := sign_none HA.out
      rw [htx.out] at hn
      subst hn
      go_wp2_with fail
      refine bodyPost_ret (v := .tuple #[tokV 0 0 [] 0, .int .i64 0, .int .i64 6]) ?_ rfl ⟨rfl, ?_⟩
      · simp [results, Tryd.results24, go_sem]
      · exact (Below.refl _ _).alloc (Nat.le_refl _) _

set_option maxHeartbeats 800000 in
theorem ftok_digit (s : ByteArray) (b : Nat) (w : World) (hz : 0 < s.size) (hd : Hid (isD (s[0]'hz).toNat = true)) (kd : Nat) (tx : List UInt8) (nm sz er : Nat)
    (hc0 : Hid (∀ W : World, Calls Tryd.prog 34 #[.string s] W fun e w' => e = fstV kd 0 tx nm sz er ∧ Below W.heap.size W w')) :
    Calls Tryd.prog 24 #[.string s, .map (some b)] w fun e w' => e = fstV kd 0 tx nm sz er ∧ Below w.heap.size w w' := by
  have hu : (s[0]'hz).toNat < 256 := (s[0]'hz).toNat_lt
  go_enter Tryd.func24, Tryd.ntmps24
  go_wp2_with (first
    | (go_at_call 33; refine (isDigit_any (s[0]'hz).toNat (by omega) _ true hd).mono ?_; rintro e w2 ⟨rfl, rfl⟩)
    | (go_at_call 34; refine (hc0.out _).mono ?_; rintro e w1 ⟨rfl, hb1⟩; obtain ⟨hc, hf⟩ := bcell hb1))
  refine bodyPost_ret (v := .tuple #[tokV kd 0 tx nm, .int .i64 sz, .int .i64 er]) ?_ rfl ⟨rfl, ?_⟩
  · simp [results, Tryd.results24, go_sem, hc]
  · exact fst_four (((Below.refl _ _).alloc (Nat.le_refl _) _).trans (hb1.mono (by simp))) (Nat.le_refl _) _ _ _ _

set_option maxHeartbeats 800000 in
theorem ftok_name (s : ByteArray) (b : Nat) (w : World) (hW : WordsAt w b) (hz : 0 < s.size) (hd : Hid (isD (s[0]'hz).toNat = false)) (hl : Hid (isL (s[0]'hz).toNat = true)) (kd : Nat) (tx : List UInt8) (nm sz er : Nat)
    (hc0 : Hid (∀ W : World, WordsAt W b → Calls Tryd.prog 36 #[.string s, .map (some b)] W fun e w' => e = fstV kd 0 tx nm sz er ∧ Below W.heap.size W w')) :
    Calls Tryd.prog 24 #[.string s, .map (some b)] w fun e w' => e = fstV kd 0 tx nm sz er ∧ Below w.heap.size w w' := by
  have hu : (s[0]'hz).toNat < 256 := (s[0]'hz).toNat_lt
  have HW := Lib.hid (hW.below ((Below.refl _ _).alloc (Nat.le_refl _) (.cells #[.int .i64 0, .int .i64 0, .string ⟨#[]⟩, .int .i64 0] 36)) hW.lt)
  clear hW
  go_enter Tryd.func24, Tryd.ntmps24
  go_wp2_with (first
    | (go_at_call 33; refine (isDigit_any (s[0]'hz).toNat (by omega) _ false hd).mono ?_; rintro e w2 ⟨rfl, rfl⟩)
    | (go_at_call 35; refine (isLetter_any (s[0]'hz).toNat (by omega) _ true hl).mono ?_; rintro e w2 ⟨rfl, rfl⟩)
    | (go_at_call 36; refine (hc0.out _ HW.out).mono ?_; rintro e w1 ⟨rfl, hb1⟩; obtain ⟨hc, hf⟩ := bcell hb1))
  refine bodyPost_ret (v := .tuple #[tokV kd 0 tx nm, .int .i64 sz, .int .i64 er]) ?_ rfl ⟨rfl, ?_⟩
  · simp [results, Tryd.results24, go_sem, hc]
  · exact fst_four (((Below.refl _ _).alloc (Nat.le_refl _) _).trans (hb1.mono (by simp))) (Nat.le_refl _) _ _ _ _
end Go.Proofs.YtbkmpamcelphgaaDoor
