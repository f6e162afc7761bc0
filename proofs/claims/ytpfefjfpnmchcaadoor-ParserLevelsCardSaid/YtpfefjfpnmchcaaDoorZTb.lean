/-
  The table of parentheses around operands, a part of it. No condition.
-/
import Derived.Test.YtpfefjfpnmchcaaDoorZMd
namespace Go.Proofs.YtpfefjfpnmchcaaDoor
theorem parens_4 : parensB 4 = true := by decide +kernel
theorem parens_5 : parensB 5 = true := by decide +kernel
theorem parens_6 : parensB 6 = true := by decide +kernel
theorem parens_7 : parensB 7 = true := by decide +kernel
end Go.Proofs.YtpfefjfpnmchcaaDoor
