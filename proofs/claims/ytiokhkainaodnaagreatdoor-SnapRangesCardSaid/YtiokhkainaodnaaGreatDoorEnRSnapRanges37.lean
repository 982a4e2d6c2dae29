/- Runs of the law SnapRanges, by the quick evaluator, by their numbers. No condition. -/
import Derived.Test.YtiokhkainaodnaaGreatDoorEnASnapRanges
set_option maxRecDepth 1000000
namespace Go.Proofs.YtiokhkainaodnaaGreatDoor.snapRanges
open Go Go.Ev
theorem run111 : rnR (runQ hs tbE Tryz.prog 3000 4) 23 2553 = true := by kernel_rfl
theorem run112 : rnR (runQ hs tbE Tryz.prog 3000 4) 23 2576 = true := by kernel_rfl
theorem run113 : rnR (runQ hs tbE Tryz.prog 3000 4) 23 2599 = true := by kernel_rfl
end Go.Proofs.YtiokhkainaodnaaGreatDoor.snapRanges
