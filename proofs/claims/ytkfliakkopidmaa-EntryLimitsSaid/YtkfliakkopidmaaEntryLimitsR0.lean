/- Runs of the law, by the evaluator, at the rests or numbers that are told. No condition. -/
import Derived.Test.YtkfliakkopidmaaRows
import Derived.Test.YtkfliakkopidmaaEvL
set_option maxRecDepth 1000000
namespace Go.Proofs.Ytkfliakkopidmaa.entryLimits
open Go.Ev
theorem runx0x0 : ((List.range (3)).all fun i2 => ([false, true].all fun i3 => (runFn (onlyTb 39) Try.prog 1000 12 [.r .u8 (16) 0 255, .r .u8 (6) 0 255, .r .u8 (3) i2 255, .b i3]))) = true := by kernel_rfl
theorem runx0x1 : ((List.range (3)).all fun i2 => ([false, true].all fun i3 => (runFn (onlyTb 39) Try.prog 1000 12 [.r .u8 (16) 0 255, .r .u8 (6) 1 255, .r .u8 (3) i2 255, .b i3]))) = true := by kernel_rfl
theorem runx0x2 : ((List.range (3)).all fun i2 => ([false, true].all fun i3 => (runFn (onlyTb 39) Try.prog 1000 12 [.r .u8 (16) 0 255, .r .u8 (6) 2 255, .r .u8 (3) i2 255, .b i3]))) = true := by kernel_rfl
theorem runx0x3 : ((List.range (3)).all fun i2 => ([false, true].all fun i3 => (runFn (onlyTb 39) Try.prog 1000 12 [.r .u8 (16) 0 255, .r .u8 (6) 3 255, .r .u8 (3) i2 255, .b i3]))) = true := by kernel_rfl
theorem runx0x4 : ((List.range (3)).all fun i2 => ([false, true].all fun i3 => (runFn (onlyTb 39) Try.prog 1000 12 [.r .u8 (16) 0 255, .r .u8 (6) 4 255, .r .u8 (3) i2 255, .b i3]))) = true := by kernel_rfl
theorem runx0x5 : ((List.range (3)).all fun i2 => ([false, true].all fun i3 => (runFn (onlyTb 39) Try.prog 1000 12 [.r .u8 (16) 0 255, .r .u8 (6) 5 255, .r .u8 (3) i2 255, .b i3]))) = true := by kernel_rfl
theorem runx1x0 : ((List.range (3)).all fun i2 => ([false, true].all fun i3 => (runFn (onlyTb 39) Try.prog 1000 12 [.r .u8 (16) 1 255, .r .u8 (6) 0 255, .r .u8 (3) i2 255, .b i3]))) = true := by kernel_rfl
theorem runx1x1 : ((List.range (3)).all fun i2 => ([false, true].all fun i3 => (runFn (onlyTb 39) Try.prog 1000 12 [.r .u8 (16) 1 255, .r .u8 (6) 1 255, .r .u8 (3) i2 255, .b i3]))) = true := by kernel_rfl
theorem runx1x2 : ((List.range (3)).all fun i2 => ([false, true].all fun i3 => (runFn (onlyTb 39) Try.prog 1000 12 [.r .u8 (16) 1 255, .r .u8 (6) 2 255, .r .u8 (3) i2 255, .b i3]))) = true := by kernel_rfl
theorem runx1x3 : ((List.range (3)).all fun i2 => ([false, true].all fun i3 => (runFn (onlyTb 39) Try.prog 1000 12 [.r .u8 (16) 1 255, .r .u8 (6) 3 255, .r .u8 (3) i2 255, .b i3]))) = true := by kernel_rfl
theorem runx1x4 : ((List.range (3)).all fun i2 => ([false, true].all fun i3 => (runFn (onlyTb 39) Try.prog 1000 12 [.r .u8 (16) 1 255, .r .u8 (6) 4 255, .r .u8 (3) i2 255, .b i3]))) = true := by kernel_rfl
theorem runx1x5 : ((List.range (3)).all fun i2 => ([false, true].all fun i3 => (runFn (onlyTb 39) Try.prog 1000 12 [.r .u8 (16) 1 255, .r .u8 (6) 5 255, .r .u8 (3) i2 255, .b i3]))) = true := by kernel_rfl
theorem runx2x0 : ((List.range (3)).all fun i2 => ([false, true].all fun i3 => (runFn (onlyTb 39) Try.prog 1000 12 [.r .u8 (16) 2 255, .r .u8 (6) 0 255, .r .u8 (3) i2 255, .b i3]))) = true := by kernel_rfl
theorem runx2x1 : ((List.range (3)).all fun i2 => ([false, true].all fun i3 => (runFn (onlyTb 39) Try.prog 1000 12 [.r .u8 (16) 2 255, .r .u8 (6) 1 255, .r .u8 (3) i2 255, .b i3]))) = true := by kernel_rfl
theorem runx2x2 : ((List.range (3)).all fun i2 => ([false, true].all fun i3 => (runFn (onlyTb 39) Try.prog 1000 12 [.r .u8 (16) 2 255, .r .u8 (6) 2 255, .r .u8 (3) i2 255, .b i3]))) = true := by kernel_rfl
theorem runx2x3 : ((List.range (3)).all fun i2 => ([false, true].all fun i3 => (runFn (onlyTb 39) Try.prog 1000 12 [.r .u8 (16) 2 255, .r .u8 (6) 3 255, .r .u8 (3) i2 255, .b i3]))) = true := by kernel_rfl
theorem runx2x4 : ((List.range (3)).all fun i2 => ([false, true].all fun i3 => (runFn (onlyTb 39) Try.prog 1000 12 [.r .u8 (16) 2 255, .r .u8 (6) 4 255, .r .u8 (3) i2 255, .b i3]))) = true := by kernel_rfl
theorem runx2x5 : ((List.range (3)).all fun i2 => ([false, true].all fun i3 => (runFn (onlyTb 39) Try.prog 1000 12 [.r .u8 (16) 2 255, .r .u8 (6) 5 255, .r .u8 (3) i2 255, .b i3]))) = true := by kernel_rfl
theorem runx3x0 : ((List.range (3)).all fun i2 => ([false, true].all fun i3 => (runFn (onlyTb 39) Try.prog 1000 12 [.r .u8 (16) 3 255, .r .u8 (6) 0 255, .r .u8 (3) i2 255, .b i3]))) = true := by kernel_rfl
theorem runx3x1 : ((List.range (3)).all fun i2 => ([false, true].all fun i3 => (runFn (onlyTb 39) Try.prog 1000 12 [.r .u8 (16) 3 255, .r .u8 (6) 1 255, .r .u8 (3) i2 255, .b i3]))) = true := by kernel_rfl
theorem runx3x2 : ((List.range (3)).all fun i2 => ([false, true].all fun i3 => (runFn (onlyTb 39) Try.prog 1000 12 [.r .u8 (16) 3 255, .r .u8 (6) 2 255, .r .u8 (3) i2 255, .b i3]))) = true := by kernel_rfl
theorem runx3x3 : ((List.range (3)).all fun i2 => ([false, true].all fun i3 => (runFn (onlyTb 39) Try.prog 1000 12 [.r .u8 (16) 3 255, .r .u8 (6) 3 255, .r .u8 (3) i2 255, .b i3]))) = true := by kernel_rfl
theorem runx3x4 : ((List.range (3)).all fun i2 => ([false, true].all fun i3 => (runFn (onlyTb 39) Try.prog 1000 12 [.r .u8 (16) 3 255, .r .u8 (6) 4 255, .r .u8 (3) i2 255, .b i3]))) = true := by kernel_rfl
theorem runx3x5 : ((List.range (3)).all fun i2 => ([false, true].all fun i3 => (runFn (onlyTb 39) Try.prog 1000 12 [.r .u8 (16) 3 255, .r .u8 (6) 5 255, .r .u8 (3) i2 255, .b i3]))) = true := by kernel_rfl
end Go.Proofs.Ytkfliakkopidmaa.entryLimits
