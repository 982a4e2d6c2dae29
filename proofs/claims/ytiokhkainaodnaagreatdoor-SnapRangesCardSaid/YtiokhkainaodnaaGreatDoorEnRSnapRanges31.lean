/- Runs of the law SnapRanges, by the quick evaluator, by their numbers. No condition. -/
import Derived.Test.YtiokhkainaodnaaGreatDoorEnASnapRanges
set_option maxRecDepth 1000000
namespace Go.Proofs.YtiokhkainaodnaaGreatDoor.snapRanges
open Go Go.Ev
theorem run93 : rnR (runQ hs tbE Tryz.prog 3000 4) 23 2139 = true := by kernel_rfl
theorem run94 : rnR (runQ hs tbE Tryz.prog 3000 4) 23 2162 = true := by kernel_rfl
theorem run95 : rnR (runQ hs tbE Tryz.prog 3000 4) 23 2185 = true := by kernel_rfl
end Go.Proofs.YtiokhkainaodnaaGreatDoor.snapRanges
