/- Runs of the law SnapRanges, by the quick evaluator, by their numbers. No condition. -/
import Derived.Test.YtiokhkainaodnaaGreatDoorEnASnapRanges
set_option maxRecDepth 1000000
namespace Go.Proofs.YtiokhkainaodnaaGreatDoor.snapRanges
open Go Go.Ev
theorem run0 : rnR (runQ hs tbE Tryz.prog 3000 4) 23 0 = true := by kernel_rfl
theorem run1 : rnR (runQ hs tbE Tryz.prog 3000 4) 23 23 = true := by kernel_rfl
theorem run2 : rnR (runQ hs tbE Tryz.prog 3000 4) 23 46 = true := by kernel_rfl
end Go.Proofs.YtiokhkainaodnaaGreatDoor.snapRanges
