import Derived.Test.YtkdeilhkobcglaaDoorBase
/-
  WHAT A COUNT LEAVES, of no program.
-/
namespace Go.Proofs.YtkdeilhkobcglaaDoor
def szr (left : Int) (t : Nat) : Int := if left < (t : Int) then -1 else left - (t : Int)
end Go.Proofs.YtkdeilhkobcglaaDoor
