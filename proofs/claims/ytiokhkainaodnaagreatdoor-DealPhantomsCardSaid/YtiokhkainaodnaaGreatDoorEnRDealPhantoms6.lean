/- Runs of the law DealPhantoms, by the quick evaluator, by their numbers. No condition. -/
import Derived.Test.YtiokhkainaodnaaGreatDoorEnADealPhantoms
set_option maxRecDepth 1000000
namespace Go.Proofs.YtiokhkainaodnaaGreatDoor.dealPhantoms
open Go Go.Ev
theorem run30 : rnR RR 20 600 = true := by kernel_rfl
theorem run31 : rnR RR 20 620 = true := by kernel_rfl
theorem run32 : rnR RR 20 640 = true := by kernel_rfl
theorem run33 : rnR RR 20 660 = true := by kernel_rfl
theorem run34 : rnR RR 20 680 = true := by kernel_rfl
end Go.Proofs.YtiokhkainaodnaaGreatDoor.dealPhantoms
