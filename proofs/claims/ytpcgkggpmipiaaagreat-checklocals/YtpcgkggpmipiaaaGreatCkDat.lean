/- check.texts, check.Data. -/
import Derived.Test.YtpcgkggpmipiaaaGreatG24
import Derived.Test.YtpcgkggpmipiaaaGreatCkChk
namespace Go.Proofs.YtpcgkggpmipiaaaGreat
open Go.RowKit
set_option linter.unusedVariables false
set_option maxRecDepth 100000
set_option maxHeartbeats 4000000
end Go.Proofs.YtpcgkggpmipiaaaGreat
