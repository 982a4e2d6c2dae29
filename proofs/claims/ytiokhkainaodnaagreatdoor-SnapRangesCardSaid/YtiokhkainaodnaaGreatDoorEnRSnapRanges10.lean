/- Runs of the law SnapRanges, by the quick evaluator, by their numbers. No condition. -/
import Derived.Test.YtiokhkainaodnaaGreatDoorEnASnapRanges
set_option maxRecDepth 1000000
namespace Go.Proofs.YtiokhkainaodnaaGreatDoor.snapRanges
open Go Go.Ev
theorem run30 : rnR (runQ hs tbE Tryz.prog 3000 4) 23 690 = true := by kernel_rfl
theorem run31 : rnR (runQ hs tbE Tryz.prog 3000 4) 23 713 = true := by kernel_rfl
theorem run32 : rnR (runQ hs tbE Tryz.prog 3000 4) 23 736 = true := by kernel_rfl
end Go.Proofs.YtiokhkainaodnaaGreatDoor.snapRanges
