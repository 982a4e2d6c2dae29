/- Regions of this program may be done in any order. No condition. -/
import Derived.Test.YtiecpllnbekmoaaWe
import Derived.Test.YtiecpllnbekmoaaProg
import Derived.KernelRfl
namespace Go.Proofs.Ytiecpllnbekmoaa
open Go Go.Ev
theorem hmix : Try.prog.follows .mixedOrders = true := by kernel_rfl
open Go.Ev in
instance {nt : Nat} {t : F} {h : H} {K : X → F → H → Prop} {l : List CO} : St (Ok Try.prog nt (.draws l) t h K) (DO Try.prog l t h (K .normal)) := ⟨Ok.dw hmix⟩
end Go.Proofs.Ytiecpllnbekmoaa
