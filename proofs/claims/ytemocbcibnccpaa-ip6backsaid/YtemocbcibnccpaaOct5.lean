/- digit, Number, Digits of package octet. -/
import Derived.Test.YtemocbcibnccpaaOct4
import Derived.Lib.OthersKept
import Derived.Laws.RangeAny
namespace Go.Proofs.Ytemocbcibnccpaa
open Go Go.RowKit

end Go.Proofs.Ytemocbcibnccpaa
