/- Runs of the law SnapRanges, by the quick evaluator, by their numbers. No condition. -/
import Derived.Test.YtiokhkainaodnaaGreatDoorEnASnapRanges
set_option maxRecDepth 1000000
namespace Go.Proofs.YtiokhkainaodnaaGreatDoor.snapRanges
open Go Go.Ev
theorem run33 : rnR (runQ hs tbE Tryz.prog 3000 4) 23 759 = true := by kernel_rfl
theorem run34 : rnR (runQ hs tbE Tryz.prog 3000 4) 23 782 = true := by kernel_rfl
theorem run35 : rnR (runQ hs tbE Tryz.prog 3000 4) 23 805 = true := by kernel_rfl
end Go.Proofs.YtiokhkainaodnaaGreatDoor.snapRanges
