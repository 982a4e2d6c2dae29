/- Runs of the law DealPhantoms, by the quick evaluator, by their numbers. No condition. -/
import Derived.Test.YtiokhkainaodnaaGreatDoorEnADealPhantoms
set_option maxRecDepth 1000000
namespace Go.Proofs.YtiokhkainaodnaaGreatDoor.dealPhantoms
open Go Go.Ev
theorem run60 : rnR RR 20 1200 = true := by kernel_rfl
theorem run61 : rnR RR 20 1220 = true := by kernel_rfl
theorem run62 : rnR RR 20 1240 = true := by kernel_rfl
theorem run63 : rnR RR 20 1260 = true := by kernel_rfl
theorem run64 : rnR RR 20 1280 = true := by kernel_rfl
end Go.Proofs.YtiokhkainaodnaaGreatDoor.dealPhantoms
