/- Runs of the law DealPhantoms, by the quick evaluator, by their numbers. No condition. -/
import Derived.Test.YtiokhkainaodnaaGreatDoorEnADealPhantoms
set_option maxRecDepth 1000000
namespace Go.Proofs.YtiokhkainaodnaaGreatDoor.dealPhantoms
open Go Go.Ev
theorem run55 : rnR RR 20 1100 = true := by kernel_rfl
theorem run56 : rnR RR 20 1120 = true := by kernel_rfl
theorem run57 : rnR RR 20 1140 = true := by kernel_rfl
theorem run58 : rnR RR 20 1160 = true := by kernel_rfl
theorem run59 : rnR RR 20 1180 = true := by kernel_rfl
end Go.Proofs.YtiokhkainaodnaaGreatDoor.dealPhantoms
