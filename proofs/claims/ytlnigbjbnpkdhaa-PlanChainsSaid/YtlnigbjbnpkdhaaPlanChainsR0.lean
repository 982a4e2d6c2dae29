/- Runs of the law, by the evaluator, at the rests or numbers that are told. No condition. -/
import Derived.Test.YtlnigbjbnpkdhaaRows
import Derived.Test.YtlnigbjbnpkdhaaEvL
set_option maxRecDepth 1000000
namespace Go.Proofs.Ytlnigbjbnpkdhaa.planChains
open Go.Ev
theorem runx0x0x0 : (runFn (onlyTb 35) Try.prog 2000 12 [.r .u8 (5) 0 255, .r .u8 ((0+2)) 0 255, .r .u8 ((0+2)) 0 255]) = true := by kernel_rfl
theorem runx0x0x1 : (runFn (onlyTb 35) Try.prog 2000 12 [.r .u8 (5) 0 255, .r .u8 ((0+2)) 0 255, .r .u8 ((0+2)) 1 255]) = true := by kernel_rfl
theorem runx0x1x0 : (runFn (onlyTb 35) Try.prog 2000 12 [.r .u8 (5) 0 255, .r .u8 ((0+2)) 1 255, .r .u8 ((0+2)) 0 255]) = true := by kernel_rfl
theorem runx0x1x1 : (runFn (onlyTb 35) Try.prog 2000 12 [.r .u8 (5) 0 255, .r .u8 ((0+2)) 1 255, .r .u8 ((0+2)) 1 255]) = true := by kernel_rfl
theorem runx1x0x0 : (runFn (onlyTb 35) Try.prog 2000 12 [.r .u8 (5) 1 255, .r .u8 ((1+2)) 0 255, .r .u8 ((1+2)) 0 255]) = true := by kernel_rfl
theorem runx1x0x1 : (runFn (onlyTb 35) Try.prog 2000 12 [.r .u8 (5) 1 255, .r .u8 ((1+2)) 0 255, .r .u8 ((1+2)) 1 255]) = true := by kernel_rfl
theorem runx1x0x2 : (runFn (onlyTb 35) Try.prog 2000 12 [.r .u8 (5) 1 255, .r .u8 ((1+2)) 0 255, .r .u8 ((1+2)) 2 255]) = true := by kernel_rfl
theorem runx1x1x0 : (runFn (onlyTb 35) Try.prog 2000 12 [.r .u8 (5) 1 255, .r .u8 ((1+2)) 1 255, .r .u8 ((1+2)) 0 255]) = true := by kernel_rfl
end Go.Proofs.Ytlnigbjbnpkdhaa.planChains
