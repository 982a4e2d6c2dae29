/- Runs of the law, by the evaluator, at the rests or numbers that are told. No condition. -/
import Derived.Test.YtjmcfmnemmdlfaaRows
import Derived.Test.YtjmcfmnemmdlfaaEvL
set_option maxRecDepth 1000000
namespace Go.Proofs.Ytjmcfmnemmdlfaa.latticeChains
open Go.Ev
theorem runx2x2x1 : (runFn (onlyTb 9) Try.prog 1000 6 [.r .u8 (6) 2 255, .r .u8 (2+1) 2 255, .r .u8 (2+1) 1 255]) = true := by kernel_rfl
theorem runx2x2x2 : (runFn (onlyTb 9) Try.prog 1000 6 [.r .u8 (6) 2 255, .r .u8 (2+1) 2 255, .r .u8 (2+1) 2 255]) = true := by kernel_rfl
theorem runx3x0x0 : (runFn (onlyTb 9) Try.prog 1000 6 [.r .u8 (6) 3 255, .r .u8 (3+1) 0 255, .r .u8 (3+1) 0 255]) = true := by kernel_rfl
theorem runx3x0x1 : (runFn (onlyTb 9) Try.prog 1000 6 [.r .u8 (6) 3 255, .r .u8 (3+1) 0 255, .r .u8 (3+1) 1 255]) = true := by kernel_rfl
theorem runx3x0x2 : (runFn (onlyTb 9) Try.prog 1000 6 [.r .u8 (6) 3 255, .r .u8 (3+1) 0 255, .r .u8 (3+1) 2 255]) = true := by kernel_rfl
theorem runx3x0x3 : (runFn (onlyTb 9) Try.prog 1000 6 [.r .u8 (6) 3 255, .r .u8 (3+1) 0 255, .r .u8 (3+1) 3 255]) = true := by kernel_rfl
theorem runx3x1x0 : (runFn (onlyTb 9) Try.prog 1000 6 [.r .u8 (6) 3 255, .r .u8 (3+1) 1 255, .r .u8 (3+1) 0 255]) = true := by kernel_rfl
theorem runx3x1x1 : (runFn (onlyTb 9) Try.prog 1000 6 [.r .u8 (6) 3 255, .r .u8 (3+1) 1 255, .r .u8 (3+1) 1 255]) = true := by kernel_rfl
theorem runx3x1x2 : (runFn (onlyTb 9) Try.prog 1000 6 [.r .u8 (6) 3 255, .r .u8 (3+1) 1 255, .r .u8 (3+1) 2 255]) = true := by kernel_rfl
theorem runx3x1x3 : (runFn (onlyTb 9) Try.prog 1000 6 [.r .u8 (6) 3 255, .r .u8 (3+1) 1 255, .r .u8 (3+1) 3 255]) = true := by kernel_rfl
theorem runx3x2x0 : (runFn (onlyTb 9) Try.prog 1000 6 [.r .u8 (6) 3 255, .r .u8 (3+1) 2 255, .r .u8 (3+1) 0 255]) = true := by kernel_rfl
theorem runx3x2x1 : (runFn (onlyTb 9) Try.prog 1000 6 [.r .u8 (6) 3 255, .r .u8 (3+1) 2 255, .r .u8 (3+1) 1 255]) = true := by kernel_rfl
end Go.Proofs.Ytjmcfmnemmdlfaa.latticeChains
