/- Runs of the law SnapRanges, by the quick evaluator, by their numbers. No condition. -/
import Derived.Test.YtiokhkainaodnaaGreatDoorEnASnapRanges
set_option maxRecDepth 1000000
namespace Go.Proofs.YtiokhkainaodnaaGreatDoor.snapRanges
open Go Go.Ev
theorem run42 : rnR (runQ hs tbE Tryz.prog 3000 4) 23 966 = true := by kernel_rfl
theorem run43 : rnR (runQ hs tbE Tryz.prog 3000 4) 23 989 = true := by kernel_rfl
theorem run44 : rnR (runQ hs tbE Tryz.prog 3000 4) 23 1012 = true := by kernel_rfl
end Go.Proofs.YtiokhkainaodnaaGreatDoor.snapRanges
