/- The document's own answers for layer 2: Pseudo. -/
import Derived.Test.YtchkbdgoghcgcaaRf2
namespace Go.Proofs.Ytchkbdgoghcgcaa
open Go Go.RowKit

end Go.Proofs.Ytchkbdgoghcgcaa
