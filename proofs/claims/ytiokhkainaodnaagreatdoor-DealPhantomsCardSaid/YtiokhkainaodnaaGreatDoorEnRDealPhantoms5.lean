/- Runs of the law DealPhantoms, by the quick evaluator, by their numbers. No condition. -/
import Derived.Test.YtiokhkainaodnaaGreatDoorEnADealPhantoms
set_option maxRecDepth 1000000
namespace Go.Proofs.YtiokhkainaodnaaGreatDoor.dealPhantoms
open Go Go.Ev
theorem run25 : rnR RR 20 500 = true := by kernel_rfl
theorem run26 : rnR RR 20 520 = true := by kernel_rfl
theorem run27 : rnR RR 20 540 = true := by kernel_rfl
theorem run28 : rnR RR 20 560 = true := by kernel_rfl
theorem run29 : rnR RR 20 580 = true := by kernel_rfl
end Go.Proofs.YtiokhkainaodnaaGreatDoor.dealPhantoms
