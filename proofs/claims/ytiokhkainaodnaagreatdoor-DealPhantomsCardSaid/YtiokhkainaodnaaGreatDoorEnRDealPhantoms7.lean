/- Runs of the law DealPhantoms, by the quick evaluator, by their numbers. No condition. -/
import Derived.Test.YtiokhkainaodnaaGreatDoorEnADealPhantoms
set_option maxRecDepth 1000000
namespace Go.Proofs.YtiokhkainaodnaaGreatDoor.dealPhantoms
open Go Go.Ev
theorem run35 : rnR RR 20 700 = true := by kernel_rfl
theorem run36 : rnR RR 20 720 = true := by kernel_rfl
theorem run37 : rnR RR 20 740 = true := by kernel_rfl
theorem run38 : rnR RR 20 760 = true := by kernel_rfl
theorem run39 : rnR RR 20 780 = true := by kernel_rfl
end Go.Proofs.YtiokhkainaodnaaGreatDoor.dealPhantoms
