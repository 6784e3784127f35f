import Derived.Test.YtafmlbojmmdcdaaGridFns
import Derived.Deep.RegionHeld3
import Derived.Deep.DeepCutAuto
namespace Go.Proofs.Ytafmlbojmmdcdaa
open Go Go.RowKit

/-- what szValSS answers -/
def szA (left : Int) (xss : List (List V2)) : Int := if left < (xss.length : Int) + bulk xss then -1 else left - xss.length - bulk xss
end Go.Proofs.Ytafmlbojmmdcdaa
