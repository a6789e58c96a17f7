/-
  script: the reference's Show whole; ScriptShows walked (made by gensc12.py).
-/
import Derived.Test.YteimjilngabebaaDoorSC11
namespace Go.Proofs.YteimjilngabebaaDoor
open Go.RowKit
set_option linter.unusedVariables false
end Go.Proofs.YteimjilngabebaaDoor
