/- Runs of the law, by the evaluator, at the rests or numbers that are told. No condition. -/
import Derived.Test.YtlnigbjbnpkdhaaRows
import Derived.Test.YtlnigbjbnpkdhaaEvL
set_option maxRecDepth 1000000
namespace Go.Proofs.Ytlnigbjbnpkdhaa.planChains
open Go.Ev
theorem runx3x3x4 : (runFn (onlyTb 35) Try.prog 2000 12 [.r .u8 (5) 3 255, .r .u8 ((3+2)) 3 255, .r .u8 ((3+2)) 4 255]) = true := by kernel_rfl
theorem runx3x4x0 : (runFn (onlyTb 35) Try.prog 2000 12 [.r .u8 (5) 3 255, .r .u8 ((3+2)) 4 255, .r .u8 ((3+2)) 0 255]) = true := by kernel_rfl
theorem runx3x4x1 : (runFn (onlyTb 35) Try.prog 2000 12 [.r .u8 (5) 3 255, .r .u8 ((3+2)) 4 255, .r .u8 ((3+2)) 1 255]) = true := by kernel_rfl
theorem runx3x4x2 : (runFn (onlyTb 35) Try.prog 2000 12 [.r .u8 (5) 3 255, .r .u8 ((3+2)) 4 255, .r .u8 ((3+2)) 2 255]) = true := by kernel_rfl
theorem runx3x4x3 : (runFn (onlyTb 35) Try.prog 2000 12 [.r .u8 (5) 3 255, .r .u8 ((3+2)) 4 255, .r .u8 ((3+2)) 3 255]) = true := by kernel_rfl
theorem runx3x4x4 : (runFn (onlyTb 35) Try.prog 2000 12 [.r .u8 (5) 3 255, .r .u8 ((3+2)) 4 255, .r .u8 ((3+2)) 4 255]) = true := by kernel_rfl
theorem runx4x0x0 : (runFn (onlyTb 35) Try.prog 2000 12 [.r .u8 (5) 4 255, .r .u8 ((4+2)) 0 255, .r .u8 ((4+2)) 0 255]) = true := by kernel_rfl
theorem runx4x0x1 : (runFn (onlyTb 35) Try.prog 2000 12 [.r .u8 (5) 4 255, .r .u8 ((4+2)) 0 255, .r .u8 ((4+2)) 1 255]) = true := by kernel_rfl
end Go.Proofs.Ytlnigbjbnpkdhaa.planChains
