
/- awake of layer 2 answers true: the walk. -/
import Derived.Test.YtdjbdhfellofoaaPackU
namespace Go.Proofs.Ytdjbdhfellofoaa
open Go.RowKit

end Go.Proofs.Ytdjbdhfellofoaa
