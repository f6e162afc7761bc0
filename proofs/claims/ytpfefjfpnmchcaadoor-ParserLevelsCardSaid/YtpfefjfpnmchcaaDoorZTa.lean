/-
  The table of parentheses around operands, a part of it. No condition.
-/
import Derived.Test.YtpfefjfpnmchcaaDoorZMd
namespace Go.Proofs.YtpfefjfpnmchcaaDoor
theorem parens_0 : parensB 0 = true := by decide +kernel
theorem parens_1 : parensB 1 = true := by decide +kernel
theorem parens_2 : parensB 2 = true := by decide +kernel
theorem parens_3 : parensB 3 = true := by decide +kernel
end Go.Proofs.YtpfefjfpnmchcaaDoor
