/- digit, Number, Digits of package octet. -/
import Derived.Test.YtfecgnhgkciebaaOct4
import Derived.Lib.OthersKept
import Derived.Laws.RangeAny
namespace Go.Proofs.Ytfecgnhgkciebaa
open Go Go.RowKit

end Go.Proofs.Ytfecgnhgkciebaa
