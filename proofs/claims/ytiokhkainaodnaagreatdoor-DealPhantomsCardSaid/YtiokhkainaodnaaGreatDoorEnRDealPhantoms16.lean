/- Runs of the law DealPhantoms, by the quick evaluator, by their numbers. No condition. -/
import Derived.Test.YtiokhkainaodnaaGreatDoorEnADealPhantoms
set_option maxRecDepth 1000000
namespace Go.Proofs.YtiokhkainaodnaaGreatDoor.dealPhantoms
open Go Go.Ev
theorem run80 : rnR RR 20 1600 = true := by kernel_rfl
theorem run81 : rnR RR 20 1620 = true := by kernel_rfl
theorem run82 : rnR RR 20 1640 = true := by kernel_rfl
theorem run83 : rnR RR 20 1660 = true := by kernel_rfl
theorem run84 : rnR RR 20 1680 = true := by kernel_rfl
end Go.Proofs.YtiokhkainaodnaaGreatDoor.dealPhantoms
