/- mem.read and mem.write at each width: contracts. -/
import Derived.Test.YtkpmhgkljedapaaMBase
namespace Go.Proofs.Ytkpmhgkljedapaa
open Go.RowKit
set_option linter.unusedVariables false

end Go.Proofs.Ytkpmhgkljedapaa
