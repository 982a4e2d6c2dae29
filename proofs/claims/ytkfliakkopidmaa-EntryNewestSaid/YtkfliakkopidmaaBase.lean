/- Regions of this program may be done in any order. No condition. -/
import Derived.Test.YtkfliakkopidmaaWe
import Derived.Test.YtkfliakkopidmaaProg
import Derived.KernelRfl
namespace Go.Proofs.Ytkfliakkopidmaa
open Go Go.Ev
theorem hmix : Try.prog.follows .mixedOrders = true := by kernel_rfl
end Go.Proofs.Ytkfliakkopidmaa
