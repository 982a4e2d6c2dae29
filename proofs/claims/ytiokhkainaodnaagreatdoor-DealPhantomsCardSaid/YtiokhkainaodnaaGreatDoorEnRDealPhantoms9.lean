/- Runs of the law DealPhantoms, by the quick evaluator, by their numbers. No condition. -/
import Derived.Test.YtiokhkainaodnaaGreatDoorEnADealPhantoms
set_option maxRecDepth 1000000
namespace Go.Proofs.YtiokhkainaodnaaGreatDoor.dealPhantoms
open Go Go.Ev
theorem run45 : rnR RR 20 900 = true := by kernel_rfl
theorem run46 : rnR RR 20 920 = true := by kernel_rfl
theorem run47 : rnR RR 20 940 = true := by kernel_rfl
theorem run48 : rnR RR 20 960 = true := by kernel_rfl
theorem run49 : rnR RR 20 980 = true := by kernel_rfl
end Go.Proofs.YtiokhkainaodnaaGreatDoor.dealPhantoms
