/- Runs of the law SnapRanges, by the quick evaluator, by their numbers. No condition. -/
import Derived.Test.YtiokhkainaodnaaGreatDoorEnASnapRanges
set_option maxRecDepth 1000000
namespace Go.Proofs.YtiokhkainaodnaaGreatDoor.snapRanges
open Go Go.Ev
theorem run72 : rnR (runQ hs tbE Tryz.prog 3000 4) 23 1656 = true := by kernel_rfl
theorem run73 : rnR (runQ hs tbE Tryz.prog 3000 4) 23 1679 = true := by kernel_rfl
theorem run74 : rnR (runQ hs tbE Tryz.prog 3000 4) 23 1702 = true := by kernel_rfl
end Go.Proofs.YtiokhkainaodnaaGreatDoor.snapRanges
