/- Runs of the law, by the evaluator, at the rests or numbers that are told. No condition. -/
import Derived.Test.YtlnigbjbnpkdhaaRows
import Derived.Test.YtlnigbjbnpkdhaaEvL
set_option maxRecDepth 1000000
namespace Go.Proofs.Ytlnigbjbnpkdhaa.planChains
open Go.Ev
theorem runx2x2x3 : (runFn (onlyTb 35) Try.prog 2000 12 [.r .u8 (5) 2 255, .r .u8 ((2+2)) 2 255, .r .u8 ((2+2)) 3 255]) = true := by kernel_rfl
theorem runx2x3x0 : (runFn (onlyTb 35) Try.prog 2000 12 [.r .u8 (5) 2 255, .r .u8 ((2+2)) 3 255, .r .u8 ((2+2)) 0 255]) = true := by kernel_rfl
theorem runx2x3x1 : (runFn (onlyTb 35) Try.prog 2000 12 [.r .u8 (5) 2 255, .r .u8 ((2+2)) 3 255, .r .u8 ((2+2)) 1 255]) = true := by kernel_rfl
theorem runx2x3x2 : (runFn (onlyTb 35) Try.prog 2000 12 [.r .u8 (5) 2 255, .r .u8 ((2+2)) 3 255, .r .u8 ((2+2)) 2 255]) = true := by kernel_rfl
theorem runx2x3x3 : (runFn (onlyTb 35) Try.prog 2000 12 [.r .u8 (5) 2 255, .r .u8 ((2+2)) 3 255, .r .u8 ((2+2)) 3 255]) = true := by kernel_rfl
theorem runx3x0x0 : (runFn (onlyTb 35) Try.prog 2000 12 [.r .u8 (5) 3 255, .r .u8 ((3+2)) 0 255, .r .u8 ((3+2)) 0 255]) = true := by kernel_rfl
theorem runx3x0x1 : (runFn (onlyTb 35) Try.prog 2000 12 [.r .u8 (5) 3 255, .r .u8 ((3+2)) 0 255, .r .u8 ((3+2)) 1 255]) = true := by kernel_rfl
theorem runx3x0x2 : (runFn (onlyTb 35) Try.prog 2000 12 [.r .u8 (5) 3 255, .r .u8 ((3+2)) 0 255, .r .u8 ((3+2)) 2 255]) = true := by kernel_rfl
end Go.Proofs.Ytlnigbjbnpkdhaa.planChains
