/- Runs of the law SnapRanges, by the quick evaluator, by their numbers. No condition. -/
import Derived.Test.YtiokhkainaodnaaGreatDoorEnASnapRanges
set_option maxRecDepth 1000000
namespace Go.Proofs.YtiokhkainaodnaaGreatDoor.snapRanges
open Go Go.Ev
theorem run126 : rnR (runQ hs tbE Tryz.prog 3000 4) 23 2898 = true := by kernel_rfl
theorem run127 : rnR (runQ hs tbE Tryz.prog 3000 4) 23 2921 = true := by kernel_rfl
theorem run128 : rnR (runQ hs tbE Tryz.prog 3000 4) 23 2944 = true := by kernel_rfl
end Go.Proofs.YtiokhkainaodnaaGreatDoor.snapRanges
