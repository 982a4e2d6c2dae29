/- Runs of the law SnapRanges, by the quick evaluator, by their numbers. No condition. -/
import Derived.Test.YtiokhkainaodnaaGreatDoorEnASnapRanges
set_option maxRecDepth 1000000
namespace Go.Proofs.YtiokhkainaodnaaGreatDoor.snapRanges
open Go Go.Ev
theorem run9 : rnR (runQ hs tbE Tryz.prog 3000 4) 23 207 = true := by kernel_rfl
theorem run10 : rnR (runQ hs tbE Tryz.prog 3000 4) 23 230 = true := by kernel_rfl
theorem run11 : rnR (runQ hs tbE Tryz.prog 3000 4) 23 253 = true := by kernel_rfl
end Go.Proofs.YtiokhkainaodnaaGreatDoor.snapRanges
