/- Runs of the law SnapRanges, by the quick evaluator, by their numbers. No condition. -/
import Derived.Test.YtiokhkainaodnaaGreatDoorEnASnapRanges
set_option maxRecDepth 1000000
namespace Go.Proofs.YtiokhkainaodnaaGreatDoor.snapRanges
open Go Go.Ev
theorem run54 : rnR (runQ hs tbE Tryz.prog 3000 4) 23 1242 = true := by kernel_rfl
theorem run55 : rnR (runQ hs tbE Tryz.prog 3000 4) 23 1265 = true := by kernel_rfl
theorem run56 : rnR (runQ hs tbE Tryz.prog 3000 4) 23 1288 = true := by kernel_rfl
end Go.Proofs.YtiokhkainaodnaaGreatDoor.snapRanges
