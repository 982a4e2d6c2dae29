/- Runs of the law SnapRanges, by the quick evaluator, by their numbers. No condition. -/
import Derived.Test.YtiokhkainaodnaaGreatDoorEnASnapRanges
set_option maxRecDepth 1000000
namespace Go.Proofs.YtiokhkainaodnaaGreatDoor.snapRanges
open Go Go.Ev
theorem run120 : rnR (runQ hs tbE Tryz.prog 3000 4) 23 2760 = true := by kernel_rfl
theorem run121 : rnR (runQ hs tbE Tryz.prog 3000 4) 23 2783 = true := by kernel_rfl
theorem run122 : rnR (runQ hs tbE Tryz.prog 3000 4) 23 2806 = true := by kernel_rfl
end Go.Proofs.YtiokhkainaodnaaGreatDoor.snapRanges
