/-
  The law ParserNest, walked: it answers true. Condition: the packages' variables.
-/
import Derived.Test.YtpbnelkbmlkdaaaDoorZNa
import Derived.Test.YtpbnelkbmlkdaaaDoorZNb
import Derived.Test.YtpbnelkbmlkdaaaDoorZNc
import Derived.Test.YtpbnelkbmlkdaaaDoorZNd
namespace Go.Proofs.YtpbnelkbmlkdaaaDoor
open Go.RowKit

theorem nest_any (n how : Int) (w : World) (hV : VarsAt w) (h1 : n < 9223372036854775808) (h2 : how < 9223372036854775808) :
    Calls Tryd.prog 5 #[.int .i64 n, .int .i64 how] w fun e w' => e = .returned (.bool true) ∧ Below w.heap.size w w' := by
  obtain ⟨km, hm⟩ : ∃ km : Nat, n % 11 = (km : Int) := ⟨(n % 11).toNat, by omega⟩
  obtain ⟨k, hkk⟩ : ∃ k : Nat, k = km + 1 := ⟨_, rfl⟩
  have hkm : (k : Int) - 1 = (km : Int) := by omega
  have hk : 1 ≤ k := by omega
  have hk2 : k ≤ 11 := by omega
  have hn : Hid (n % 11 = (k : Int) - 1) := Lib.hid (by omega)
  have hb := block_code k hk hk2
  unfold wantOf at hb
  have hh : how % 4 = 0 ∨ how % 4 = 1 ∨ how % 4 = 2 ∨ how % 4 = 3 := by omega
  by_cases hbk : 8 < k
  · rw [if_pos hbk] at hb
    rcases hh with hh | hh | hh | hh
    · exact nest_0_1_1 n how w hV h1 h2 k km hk hk2 hkm hn (Lib.hid hh) hbk ((nest_code 0 k (by decide) hk hk2).trans (by rw [show deepOf 0 k = k from rfl]; unfold wantOf; rw [if_pos hbk])) hb
    · exact nest_1_1_1 n how w hV h1 h2 k km hk hk2 hkm hn (Lib.hid hh) hbk ((nest_code 1 k (by decide) hk hk2).trans (by rw [show deepOf 1 k = k from rfl]; unfold wantOf; rw [if_pos hbk])) hb
    · exact nest_2_1_1 n how w hV h1 h2 k km hk hk2 hkm hn (Lib.hid hh) hbk ((nest_code 2 k (by decide) hk hk2).trans (by rw [show deepOf 2 k = k from rfl]; unfold wantOf; rw [if_pos hbk])) hb
    · exact nest_3_1_1 n how w hV h1 h2 k km hk hk2 hkm hn (Lib.hid hh) hbk (2 * k) rfl (by omega) ((nest_code 3 k (by decide) hk hk2).trans (by rw [show deepOf 3 k = 2 * k from rfl]; unfold wantOf; rw [if_pos (by omega)])) hb
  · rw [if_neg hbk] at hb
    rcases hh with hh | hh | hh | hh
    · exact nest_0_0_0 n how w hV h1 h2 k km hk hk2 hkm hn (Lib.hid hh) hbk ((nest_code 0 k (by decide) hk hk2).trans (by rw [show deepOf 0 k = k from rfl]; unfold wantOf; rw [if_neg hbk])) hb
    · exact nest_1_0_0 n how w hV h1 h2 k km hk hk2 hkm hn (Lib.hid hh) hbk ((nest_code 1 k (by decide) hk hk2).trans (by rw [show deepOf 1 k = k from rfl]; unfold wantOf; rw [if_neg hbk])) hb
    · exact nest_2_0_0 n how w hV h1 h2 k km hk hk2 hkm hn (Lib.hid hh) hbk ((nest_code 2 k (by decide) hk hk2).trans (by rw [show deepOf 2 k = k from rfl]; unfold wantOf; rw [if_neg hbk])) hb
    · by_cases hd : 8 < 2 * k
      · exact nest_3_1_0 n how w hV h1 h2 k km hk hk2 hkm hn (Lib.hid hh) hbk (2 * k) rfl hd ((nest_code 3 k (by decide) hk hk2).trans (by rw [show deepOf 3 k = 2 * k from rfl]; unfold wantOf; rw [if_pos hd])) hb
      · exact nest_3_0_0 n how w hV h1 h2 k km hk hk2 hkm hn (Lib.hid hh) hbk (2 * k) rfl hd ((nest_code 3 k (by decide) hk hk2).trans (by rw [show deepOf 3 k = 2 * k from rfl]; unfold wantOf; rw [if_neg hd])) hb
end Go.Proofs.YtpbnelkbmlkdaaaDoor
