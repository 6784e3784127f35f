import Derived.Test.YtahanplikbdccaaDoorBase
/-
  WHAT A COUNT LEAVES, of no program.
-/
namespace Go.Proofs.YtahanplikbdccaaDoor
def szr (left : Int) (t : Nat) : Int := if left < (t : Int) then -1 else left - (t : Int)
end Go.Proofs.YtahanplikbdccaaDoor
