/- Runs of the law, by the evaluator, at the rests or numbers that are told. No condition. -/
import Derived.Test.YtlnigbjbnpkdhaaRows
import Derived.Test.YtlnigbjbnpkdhaaEvL
set_option maxRecDepth 1000000
namespace Go.Proofs.Ytlnigbjbnpkdhaa.planSpoilt
open Go.Ev
theorem runx0x0 : (runFn (onlyTb 35) Try.prog 2000 11 [.r .u8 (10) 0 255, .r .u8 (8) 0 255]) = true := by kernel_rfl
theorem runx0x1 : (runFn (onlyTb 35) Try.prog 2000 11 [.r .u8 (10) 0 255, .r .u8 (8) 1 255]) = true := by kernel_rfl
theorem runx0x2 : (runFn (onlyTb 35) Try.prog 2000 11 [.r .u8 (10) 0 255, .r .u8 (8) 2 255]) = true := by kernel_rfl
theorem runx0x3 : (runFn (onlyTb 35) Try.prog 2000 11 [.r .u8 (10) 0 255, .r .u8 (8) 3 255]) = true := by kernel_rfl
theorem runx0x4 : (runFn (onlyTb 35) Try.prog 2000 11 [.r .u8 (10) 0 255, .r .u8 (8) 4 255]) = true := by kernel_rfl
theorem runx0x5 : (runFn (onlyTb 35) Try.prog 2000 11 [.r .u8 (10) 0 255, .r .u8 (8) 5 255]) = true := by kernel_rfl
theorem runx0x6 : (runFn (onlyTb 35) Try.prog 2000 11 [.r .u8 (10) 0 255, .r .u8 (8) 6 255]) = true := by kernel_rfl
theorem runx0x7 : (runFn (onlyTb 35) Try.prog 2000 11 [.r .u8 (10) 0 255, .r .u8 (8) 7 255]) = true := by kernel_rfl
theorem runx1x0 : (runFn (onlyTb 35) Try.prog 2000 11 [.r .u8 (10) 1 255, .r .u8 (8) 0 255]) = true := by kernel_rfl
theorem runx1x1 : (runFn (onlyTb 35) Try.prog 2000 11 [.r .u8 (10) 1 255, .r .u8 (8) 1 255]) = true := by kernel_rfl
theorem runx1x2 : (runFn (onlyTb 35) Try.prog 2000 11 [.r .u8 (10) 1 255, .r .u8 (8) 2 255]) = true := by kernel_rfl
theorem runx1x3 : (runFn (onlyTb 35) Try.prog 2000 11 [.r .u8 (10) 1 255, .r .u8 (8) 3 255]) = true := by kernel_rfl
theorem runx1x4 : (runFn (onlyTb 35) Try.prog 2000 11 [.r .u8 (10) 1 255, .r .u8 (8) 4 255]) = true := by kernel_rfl
theorem runx1x5 : (runFn (onlyTb 35) Try.prog 2000 11 [.r .u8 (10) 1 255, .r .u8 (8) 5 255]) = true := by kernel_rfl
theorem runx1x6 : (runFn (onlyTb 35) Try.prog 2000 11 [.r .u8 (10) 1 255, .r .u8 (8) 6 255]) = true := by kernel_rfl
theorem runx1x7 : (runFn (onlyTb 35) Try.prog 2000 11 [.r .u8 (10) 1 255, .r .u8 (8) 7 255]) = true := by kernel_rfl
end Go.Proofs.Ytlnigbjbnpkdhaa.planSpoilt
