/- Runs of the law EngineNothing, by the evaluator, at the rests that are told. No condition. -/
import Derived.Test.YtbenlfapikobnaaGreatDoorPkEN5
set_option maxRecDepth 1000000
namespace Go.Proofs.YtbenlfapikobnaaGreatDoor.engineNothing
open Go Go.Ev
theorem run17t : runFn tbE Tryz.prog 3000 9 [.r .u8 20 17 255, .b true] = true := by kernel_rfl
theorem run18f : runFn tbE Tryz.prog 3000 9 [.r .u8 20 18 255, .b false] = true := by kernel_rfl
theorem run18t : runFn tbE Tryz.prog 3000 9 [.r .u8 20 18 255, .b true] = true := by kernel_rfl
theorem run19f : runFn tbE Tryz.prog 3000 9 [.r .u8 20 19 255, .b false] = true := by kernel_rfl
theorem run19t : runFn tbE Tryz.prog 3000 9 [.r .u8 20 19 255, .b true] = true := by kernel_rfl
end Go.Proofs.YtbenlfapikobnaaGreatDoor.engineNothing
