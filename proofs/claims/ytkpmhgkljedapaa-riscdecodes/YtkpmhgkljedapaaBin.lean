/- bin and wakes (of the laws), at kinds that are no floats: contracts. -/
import Derived.Test.YtkpmhgkljedapaaBinI
namespace Go.Proofs.Ytkpmhgkljedapaa
open Go.RowKit
set_option linter.unusedVariables false

namespace Wd
/-- the word alone -/
def bv (op k x y : Int) : Int := (binI op k x y).1
end Wd

theorem binI_wakes : Wd.binI 1 6 200 100 = (44, 0) := by decide +kernel
theorem wid3 : Wd.wid 3 = 16 := by decide +kernel

end Go.Proofs.Ytkpmhgkljedapaa
