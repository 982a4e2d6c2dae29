/- Runs of the law DealPhantoms, by the quick evaluator, by their numbers. No condition. -/
import Derived.Test.YtiokhkainaodnaaGreatDoorEnADealPhantoms
set_option maxRecDepth 1000000
namespace Go.Proofs.YtiokhkainaodnaaGreatDoor.dealPhantoms
open Go Go.Ev
theorem run90 : rnR RR 20 1800 = true := by kernel_rfl
theorem run91 : rnR RR 20 1820 = true := by kernel_rfl
theorem run92 : rnR RR 20 1840 = true := by kernel_rfl
theorem run93 : rnR RR 20 1860 = true := by kernel_rfl
theorem run94 : rnR RR 20 1880 = true := by kernel_rfl
end Go.Proofs.YtiokhkainaodnaaGreatDoor.dealPhantoms
