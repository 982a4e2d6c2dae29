/- Runs of the law SnapRanges, by the quick evaluator, by their numbers. No condition. -/
import Derived.Test.YtiokhkainaodnaaGreatDoorEnASnapRanges
set_option maxRecDepth 1000000
namespace Go.Proofs.YtiokhkainaodnaaGreatDoor.snapRanges
open Go Go.Ev
theorem run69 : rnR (runQ hs tbE Tryz.prog 3000 4) 23 1587 = true := by kernel_rfl
theorem run70 : rnR (runQ hs tbE Tryz.prog 3000 4) 23 1610 = true := by kernel_rfl
theorem run71 : rnR (runQ hs tbE Tryz.prog 3000 4) 23 1633 = true := by kernel_rfl
end Go.Proofs.YtiokhkainaodnaaGreatDoor.snapRanges
