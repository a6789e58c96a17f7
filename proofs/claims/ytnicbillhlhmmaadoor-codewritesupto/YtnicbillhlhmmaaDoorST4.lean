/-
  script: linesOf, its walk.
-/
import Derived.Test.YtnicbillhlhmmaaDoorST3
namespace Go.Proofs.YtnicbillhlhmmaaDoor
open Go.RowKit
set_option linter.unusedVariables false
end Go.Proofs.YtnicbillhlhmmaaDoor
