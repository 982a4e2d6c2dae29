/- Runs of the law SnapRanges, by the quick evaluator, by their numbers. No condition. -/
import Derived.Test.YtiokhkainaodnaaGreatDoorEnASnapRanges
set_option maxRecDepth 1000000
namespace Go.Proofs.YtiokhkainaodnaaGreatDoor.snapRanges
open Go Go.Ev
theorem run27 : rnR (runQ hs tbE Tryz.prog 3000 4) 23 621 = true := by kernel_rfl
theorem run28 : rnR (runQ hs tbE Tryz.prog 3000 4) 23 644 = true := by kernel_rfl
theorem run29 : rnR (runQ hs tbE Tryz.prog 3000 4) 23 667 = true := by kernel_rfl
end Go.Proofs.YtiokhkainaodnaaGreatDoor.snapRanges
