/- Runs of the law SnapRanges, by the quick evaluator, by their numbers. No condition. -/
import Derived.Test.YtiokhkainaodnaaGreatDoorEnASnapRanges
set_option maxRecDepth 1000000
namespace Go.Proofs.YtiokhkainaodnaaGreatDoor.snapRanges
open Go Go.Ev
theorem run39 : rnR (runQ hs tbE Tryz.prog 3000 4) 23 897 = true := by kernel_rfl
theorem run40 : rnR (runQ hs tbE Tryz.prog 3000 4) 23 920 = true := by kernel_rfl
theorem run41 : rnR (runQ hs tbE Tryz.prog 3000 4) 23 943 = true := by kernel_rfl
end Go.Proofs.YtiokhkainaodnaaGreatDoor.snapRanges
