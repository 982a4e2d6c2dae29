/- Runs of the law DealLimits, by the quick evaluator, by their numbers. No condition. -/
import Derived.Test.YtiokhkainaodnaaGreatDoorEnADealLimits
set_option maxRecDepth 1000000
namespace Go.Proofs.YtiokhkainaodnaaGreatDoor.dealLimits
open Go Go.Ev
theorem run0 : rnR (runQ hs tbE Tryz.prog 3000 7) 20 0 = true := by kernel_rfl
theorem run1 : rnR (runQ hs tbE Tryz.prog 3000 7) 20 20 = true := by kernel_rfl
theorem run2 : rnR (runQ hs tbE Tryz.prog 3000 7) 20 40 = true := by kernel_rfl
end Go.Proofs.YtiokhkainaodnaaGreatDoor.dealLimits
