/- Runs of the law EngineNothing, by the evaluator, at the rests that are told. No condition. -/
import Derived.Test.YtbenlfapikobnaaGreatDoorPkEN5
set_option maxRecDepth 1000000
namespace Go.Proofs.YtbenlfapikobnaaGreatDoor.engineNothing
open Go Go.Ev
theorem run12t : runFn tbE Tryz.prog 3000 9 [.r .u8 20 12 255, .b true] = true := by kernel_rfl
theorem run13f : runFn tbE Tryz.prog 3000 9 [.r .u8 20 13 255, .b false] = true := by kernel_rfl
theorem run13t : runFn tbE Tryz.prog 3000 9 [.r .u8 20 13 255, .b true] = true := by kernel_rfl
theorem run14f : runFn tbE Tryz.prog 3000 9 [.r .u8 20 14 255, .b false] = true := by kernel_rfl
theorem run14t : runFn tbE Tryz.prog 3000 9 [.r .u8 20 14 255, .b true] = true := by kernel_rfl
end Go.Proofs.YtbenlfapikobnaaGreatDoor.engineNothing
