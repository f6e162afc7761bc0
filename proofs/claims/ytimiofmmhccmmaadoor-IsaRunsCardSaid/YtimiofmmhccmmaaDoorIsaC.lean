/-
  The program's functions of layer 16, all together: encode_any, decode_any, reads_any, execute_any, run_any, text_any. No condition of its own.
-/
import Derived.Test.YtimiofmmhccmmaaDoorNear
import Derived.Test.YtimiofmmhccmmaaDoorReads
import Derived.Test.YtimiofmmhccmmaaDoorExAll
import Derived.Test.YtimiofmmhccmmaaDoorNames
import Derived.Test.YtimiofmmhccmmaaDoorNums
import Derived.Test.YtimiofmmhccmmaaDoorIRun
import Derived.Test.YtimiofmmhccmmaaDoorITx
