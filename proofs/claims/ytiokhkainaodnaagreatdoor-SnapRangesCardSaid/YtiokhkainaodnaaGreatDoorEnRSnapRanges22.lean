/- Runs of the law SnapRanges, by the quick evaluator, by their numbers. No condition. -/
import Derived.Test.YtiokhkainaodnaaGreatDoorEnASnapRanges
set_option maxRecDepth 1000000
namespace Go.Proofs.YtiokhkainaodnaaGreatDoor.snapRanges
open Go Go.Ev
theorem run66 : rnR (runQ hs tbE Tryz.prog 3000 4) 23 1518 = true := by kernel_rfl
theorem run67 : rnR (runQ hs tbE Tryz.prog 3000 4) 23 1541 = true := by kernel_rfl
theorem run68 : rnR (runQ hs tbE Tryz.prog 3000 4) 23 1564 = true := by kernel_rfl
end Go.Proofs.YtiokhkainaodnaaGreatDoor.snapRanges
