/- Runs of the law SnapRanges, by the quick evaluator, by their numbers. No condition. -/
import Derived.Test.YtiokhkainaodnaaGreatDoorEnASnapRanges
set_option maxRecDepth 1000000
namespace Go.Proofs.YtiokhkainaodnaaGreatDoor.snapRanges
open Go Go.Ev
theorem run114 : rnR (runQ hs tbE Tryz.prog 3000 4) 23 2622 = true := by kernel_rfl
theorem run115 : rnR (runQ hs tbE Tryz.prog 3000 4) 23 2645 = true := by kernel_rfl
theorem run116 : rnR (runQ hs tbE Tryz.prog 3000 4) 23 2668 = true := by kernel_rfl
end Go.Proofs.YtiokhkainaodnaaGreatDoor.snapRanges
