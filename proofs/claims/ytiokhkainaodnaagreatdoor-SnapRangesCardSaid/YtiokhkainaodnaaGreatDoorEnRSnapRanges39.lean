/- Runs of the law SnapRanges, by the quick evaluator, by their numbers. No condition. -/
import Derived.Test.YtiokhkainaodnaaGreatDoorEnASnapRanges
set_option maxRecDepth 1000000
namespace Go.Proofs.YtiokhkainaodnaaGreatDoor.snapRanges
open Go Go.Ev
theorem run117 : rnR (runQ hs tbE Tryz.prog 3000 4) 23 2691 = true := by kernel_rfl
theorem run118 : rnR (runQ hs tbE Tryz.prog 3000 4) 23 2714 = true := by kernel_rfl
theorem run119 : rnR (runQ hs tbE Tryz.prog 3000 4) 23 2737 = true := by kernel_rfl
end Go.Proofs.YtiokhkainaodnaaGreatDoor.snapRanges
