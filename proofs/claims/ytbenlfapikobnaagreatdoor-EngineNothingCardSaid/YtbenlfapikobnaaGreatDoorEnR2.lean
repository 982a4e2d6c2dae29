/- Runs of the law EngineNothing, by the evaluator, at the rests that are told. No condition. -/
import Derived.Test.YtbenlfapikobnaaGreatDoorPkEN5
set_option maxRecDepth 1000000
namespace Go.Proofs.YtbenlfapikobnaaGreatDoor.engineNothing
open Go Go.Ev
theorem run5f : runFn tbE Tryz.prog 3000 9 [.r .u8 20 5 255, .b false] = true := by kernel_rfl
theorem run5t : runFn tbE Tryz.prog 3000 9 [.r .u8 20 5 255, .b true] = true := by kernel_rfl
theorem run6f : runFn tbE Tryz.prog 3000 9 [.r .u8 20 6 255, .b false] = true := by kernel_rfl
theorem run6t : runFn tbE Tryz.prog 3000 9 [.r .u8 20 6 255, .b true] = true := by kernel_rfl
theorem run7f : runFn tbE Tryz.prog 3000 9 [.r .u8 20 7 255, .b false] = true := by kernel_rfl
end Go.Proofs.YtbenlfapikobnaaGreatDoor.engineNothing
