/- Show, Multi and Plain of package dotted, and of the document. Proved: what each returns. -/
import Derived.Test.YteomoipbjkafgaaDoorDotM
import Derived.Test.YteomoipbjkafgaaDoorArr
import Derived.Test.YteomoipbjkafgaaDoorOct7
import Derived.Test.YteomoipbjkafgaaDoorAwake
import Derived.Test.YteomoipbjkafgaaDoorStr
import Derived.Test.YteomoipbjkafgaaDoorRef4
namespace Go.Proofs.YteomoipbjkafgaaDoor
open Go Go.RowKit

theorem arr4 : IsArr 59 4 := ⟨by kernel_rfl, Tryd.underlying59, by kernel_rfl⟩
end Go.Proofs.YteomoipbjkafgaaDoor
