import Derived.Test.YteepnkhfeokenaaL5
namespace Go.Proofs.Yteepnkhfeokenaa
open Go.RowKit

def groupsD (l : Lay) (n : Int) : Int := if pw n 8 65536 = true ∧ validB l = true then n / 8 * l.g else -1
end Go.Proofs.Yteepnkhfeokenaa
