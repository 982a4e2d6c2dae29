/- Runs of the law SnapRanges, by the quick evaluator, by their numbers. No condition. -/
import Derived.Test.YtiokhkainaodnaaGreatDoorEnASnapRanges
set_option maxRecDepth 1000000
namespace Go.Proofs.YtiokhkainaodnaaGreatDoor.snapRanges
open Go Go.Ev
theorem run45 : rnR (runQ hs tbE Tryz.prog 3000 4) 23 1035 = true := by kernel_rfl
theorem run46 : rnR (runQ hs tbE Tryz.prog 3000 4) 23 1058 = true := by kernel_rfl
theorem run47 : rnR (runQ hs tbE Tryz.prog 3000 4) 23 1081 = true := by kernel_rfl
end Go.Proofs.YtiokhkainaodnaaGreatDoor.snapRanges
