/- Runs of the law DealLimits, by the quick evaluator, by their numbers. No condition. -/
import Derived.Test.YtiokhkainaodnaaGreatDoorEnADealLimits
set_option maxRecDepth 1000000
namespace Go.Proofs.YtiokhkainaodnaaGreatDoor.dealLimits
open Go Go.Ev
theorem run3 : rnR (runQ hs tbE Tryz.prog 3000 7) 20 60 = true := by kernel_rfl
theorem run4 : rnR (runQ hs tbE Tryz.prog 3000 7) 20 80 = true := by kernel_rfl
theorem run5 : rnR (runQ hs tbE Tryz.prog 3000 7) 20 100 = true := by kernel_rfl
end Go.Proofs.YtiokhkainaodnaaGreatDoor.dealLimits
