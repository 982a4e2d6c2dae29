/- Runs of the law SnapRanges, by the quick evaluator, by their numbers. No condition. -/
import Derived.Test.YtiokhkainaodnaaGreatDoorEnASnapRanges
set_option maxRecDepth 1000000
namespace Go.Proofs.YtiokhkainaodnaaGreatDoor.snapRanges
open Go Go.Ev
theorem run36 : rnR (runQ hs tbE Tryz.prog 3000 4) 23 828 = true := by kernel_rfl
theorem run37 : rnR (runQ hs tbE Tryz.prog 3000 4) 23 851 = true := by kernel_rfl
theorem run38 : rnR (runQ hs tbE Tryz.prog 3000 4) 23 874 = true := by kernel_rfl
end Go.Proofs.YtiokhkainaodnaaGreatDoor.snapRanges
