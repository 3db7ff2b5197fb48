/- digit, Number, Digits of package octet. -/
import Derived.Test.YtljpndkgfjndbaaOct4
import Derived.Lib.OthersKept
import Derived.Laws.RangeAny
namespace Go.Proofs.Ytljpndkgfjndbaa
open Go Go.RowKit

end Go.Proofs.Ytljpndkgfjndbaa
