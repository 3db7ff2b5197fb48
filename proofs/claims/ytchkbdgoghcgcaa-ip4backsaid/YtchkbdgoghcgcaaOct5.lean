/- digit, Number, Digits of package octet. -/
import Derived.Test.YtchkbdgoghcgcaaOct4
import Derived.Lib.OthersKept
import Derived.Laws.RangeAny
namespace Go.Proofs.Ytchkbdgoghcgcaa
open Go Go.RowKit

end Go.Proofs.Ytchkbdgoghcgcaa
