/- Runs of the law DealPhantoms, by the quick evaluator, by their numbers. No condition. -/
import Derived.Test.YtiokhkainaodnaaGreatDoorEnADealPhantoms
set_option maxRecDepth 1000000
namespace Go.Proofs.YtiokhkainaodnaaGreatDoor.dealPhantoms
open Go Go.Ev
theorem run75 : rnR RR 20 1500 = true := by kernel_rfl
theorem run76 : rnR RR 20 1520 = true := by kernel_rfl
theorem run77 : rnR RR 20 1540 = true := by kernel_rfl
theorem run78 : rnR RR 20 1560 = true := by kernel_rfl
theorem run79 : rnR RR 20 1580 = true := by kernel_rfl
end Go.Proofs.YtiokhkainaodnaaGreatDoor.dealPhantoms
