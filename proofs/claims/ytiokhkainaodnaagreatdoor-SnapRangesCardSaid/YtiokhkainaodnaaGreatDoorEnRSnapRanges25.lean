/- Runs of the law SnapRanges, by the quick evaluator, by their numbers. No condition. -/
import Derived.Test.YtiokhkainaodnaaGreatDoorEnASnapRanges
set_option maxRecDepth 1000000
namespace Go.Proofs.YtiokhkainaodnaaGreatDoor.snapRanges
open Go Go.Ev
theorem run75 : rnR (runQ hs tbE Tryz.prog 3000 4) 23 1725 = true := by kernel_rfl
theorem run76 : rnR (runQ hs tbE Tryz.prog 3000 4) 23 1748 = true := by kernel_rfl
theorem run77 : rnR (runQ hs tbE Tryz.prog 3000 4) 23 1771 = true := by kernel_rfl
end Go.Proofs.YtiokhkainaodnaaGreatDoor.snapRanges
