/- Regions of this program may be done in any order. No condition. -/
import Derived.Test.YtckkoollolacoaaWe
import Derived.Test.YtckkoollolacoaaProg
import Derived.KernelRfl
namespace Go.Proofs.Ytckkoollolacoaa
open Go Go.Ev
theorem hmix : Try.prog.follows .mixedOrders = true := by kernel_rfl
end Go.Proofs.Ytckkoollolacoaa
