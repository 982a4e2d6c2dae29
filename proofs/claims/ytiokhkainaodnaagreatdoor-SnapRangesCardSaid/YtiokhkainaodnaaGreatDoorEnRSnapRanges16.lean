/- Runs of the law SnapRanges, by the quick evaluator, by their numbers. No condition. -/
import Derived.Test.YtiokhkainaodnaaGreatDoorEnASnapRanges
set_option maxRecDepth 1000000
namespace Go.Proofs.YtiokhkainaodnaaGreatDoor.snapRanges
open Go Go.Ev
theorem run48 : rnR (runQ hs tbE Tryz.prog 3000 4) 23 1104 = true := by kernel_rfl
theorem run49 : rnR (runQ hs tbE Tryz.prog 3000 4) 23 1127 = true := by kernel_rfl
theorem run50 : rnR (runQ hs tbE Tryz.prog 3000 4) 23 1150 = true := by kernel_rfl
end Go.Proofs.YtiokhkainaodnaaGreatDoor.snapRanges
