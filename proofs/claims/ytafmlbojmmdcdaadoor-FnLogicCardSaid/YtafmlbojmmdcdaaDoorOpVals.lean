import Derived.Test.YtafmlbojmmdcdaaDoorBase
namespace Go.Proofs.YtafmlbojmmdcdaaDoor
open Go Go.RowKit

end Go.Proofs.YtafmlbojmmdcdaaDoor
