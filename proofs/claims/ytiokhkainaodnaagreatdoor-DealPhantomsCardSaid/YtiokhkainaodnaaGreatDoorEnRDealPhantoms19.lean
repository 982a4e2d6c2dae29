/- Runs of the law DealPhantoms, by the quick evaluator, by their numbers. No condition. -/
import Derived.Test.YtiokhkainaodnaaGreatDoorEnADealPhantoms
set_option maxRecDepth 1000000
namespace Go.Proofs.YtiokhkainaodnaaGreatDoor.dealPhantoms
open Go Go.Ev
theorem run95 : rnR RR 20 1900 = true := by kernel_rfl
theorem run96 : rnR RR 20 1920 = true := by kernel_rfl
theorem run97 : rnR RR 20 1940 = true := by kernel_rfl
theorem run98 : rnR RR 20 1960 = true := by kernel_rfl
theorem run99 : rnR RR 20 1980 = true := by kernel_rfl
end Go.Proofs.YtiokhkainaodnaaGreatDoor.dealPhantoms
