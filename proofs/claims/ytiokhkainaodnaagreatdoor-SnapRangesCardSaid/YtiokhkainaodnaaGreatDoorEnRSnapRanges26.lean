/- Runs of the law SnapRanges, by the quick evaluator, by their numbers. No condition. -/
import Derived.Test.YtiokhkainaodnaaGreatDoorEnASnapRanges
set_option maxRecDepth 1000000
namespace Go.Proofs.YtiokhkainaodnaaGreatDoor.snapRanges
open Go Go.Ev
theorem run78 : rnR (runQ hs tbE Tryz.prog 3000 4) 23 1794 = true := by kernel_rfl
theorem run79 : rnR (runQ hs tbE Tryz.prog 3000 4) 23 1817 = true := by kernel_rfl
theorem run80 : rnR (runQ hs tbE Tryz.prog 3000 4) 23 1840 = true := by kernel_rfl
end Go.Proofs.YtiokhkainaodnaaGreatDoor.snapRanges
