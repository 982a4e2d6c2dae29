/- Runs of the law SnapRanges, by the quick evaluator, by their numbers. No condition. -/
import Derived.Test.YtiokhkainaodnaaGreatDoorEnASnapRanges
set_option maxRecDepth 1000000
namespace Go.Proofs.YtiokhkainaodnaaGreatDoor.snapRanges
open Go Go.Ev
theorem run108 : rnR (runQ hs tbE Tryz.prog 3000 4) 23 2484 = true := by kernel_rfl
theorem run109 : rnR (runQ hs tbE Tryz.prog 3000 4) 23 2507 = true := by kernel_rfl
theorem run110 : rnR (runQ hs tbE Tryz.prog 3000 4) 23 2530 = true := by kernel_rfl
end Go.Proofs.YtiokhkainaodnaaGreatDoor.snapRanges
