/- gantryref8: how deep nodes stand; the error that Encode tells. -/
import Derived.Test.YtljdjkiejppenaaPgNd
namespace Go.Proofs.Ytljdjkiejppenaa
open Go.RowKit
set_option linter.unusedVariables false

end Go.Proofs.Ytljdjkiejppenaa
