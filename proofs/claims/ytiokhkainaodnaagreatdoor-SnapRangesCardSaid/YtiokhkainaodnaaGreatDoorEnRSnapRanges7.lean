/- Runs of the law SnapRanges, by the quick evaluator, by their numbers. No condition. -/
import Derived.Test.YtiokhkainaodnaaGreatDoorEnASnapRanges
set_option maxRecDepth 1000000
namespace Go.Proofs.YtiokhkainaodnaaGreatDoor.snapRanges
open Go Go.Ev
theorem run21 : rnR (runQ hs tbE Tryz.prog 3000 4) 23 483 = true := by kernel_rfl
theorem run22 : rnR (runQ hs tbE Tryz.prog 3000 4) 23 506 = true := by kernel_rfl
theorem run23 : rnR (runQ hs tbE Tryz.prog 3000 4) 23 529 = true := by kernel_rfl
end Go.Proofs.YtiokhkainaodnaaGreatDoor.snapRanges
