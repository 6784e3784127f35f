/-
  WHAT A COUNT LEAVES, of no program.
-/
import Derived.Test.YtahanplikbdccaaDoorBase
namespace Go.Proofs.YtahanplikbdccaaDoor
def szr (left : Int) (t : Nat) : Int := if left < (t : Int) then -1 else left - (t : Int)
end Go.Proofs.YtahanplikbdccaaDoor
