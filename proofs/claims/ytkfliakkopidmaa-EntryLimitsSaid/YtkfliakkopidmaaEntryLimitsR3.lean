/- Runs of the law, by the evaluator, at the rests or numbers that are told. No condition. -/
import Derived.Test.YtkfliakkopidmaaRows
import Derived.Test.YtkfliakkopidmaaEvL
set_option maxRecDepth 1000000
namespace Go.Proofs.Ytkfliakkopidmaa.entryLimits
open Go.Ev
theorem runx12x0 : ((List.range (3)).all fun i2 => ([false, true].all fun i3 => (runFn (onlyTb 39) Try.prog 1000 12 [.r .u8 (16) 12 255, .r .u8 (6) 0 255, .r .u8 (3) i2 255, .b i3]))) = true := by kernel_rfl
theorem runx12x1 : ((List.range (3)).all fun i2 => ([false, true].all fun i3 => (runFn (onlyTb 39) Try.prog 1000 12 [.r .u8 (16) 12 255, .r .u8 (6) 1 255, .r .u8 (3) i2 255, .b i3]))) = true := by kernel_rfl
theorem runx12x2 : ((List.range (3)).all fun i2 => ([false, true].all fun i3 => (runFn (onlyTb 39) Try.prog 1000 12 [.r .u8 (16) 12 255, .r .u8 (6) 2 255, .r .u8 (3) i2 255, .b i3]))) = true := by kernel_rfl
theorem runx12x3 : ((List.range (3)).all fun i2 => ([false, true].all fun i3 => (runFn (onlyTb 39) Try.prog 1000 12 [.r .u8 (16) 12 255, .r .u8 (6) 3 255, .r .u8 (3) i2 255, .b i3]))) = true := by kernel_rfl
theorem runx12x4 : ((List.range (3)).all fun i2 => ([false, true].all fun i3 => (runFn (onlyTb 39) Try.prog 1000 12 [.r .u8 (16) 12 255, .r .u8 (6) 4 255, .r .u8 (3) i2 255, .b i3]))) = true := by kernel_rfl
theorem runx12x5 : ((List.range (3)).all fun i2 => ([false, true].all fun i3 => (runFn (onlyTb 39) Try.prog 1000 12 [.r .u8 (16) 12 255, .r .u8 (6) 5 255, .r .u8 (3) i2 255, .b i3]))) = true := by kernel_rfl
theorem runx13x0 : ((List.range (3)).all fun i2 => ([false, true].all fun i3 => (runFn (onlyTb 39) Try.prog 1000 12 [.r .u8 (16) 13 255, .r .u8 (6) 0 255, .r .u8 (3) i2 255, .b i3]))) = true := by kernel_rfl
theorem runx13x1 : ((List.range (3)).all fun i2 => ([false, true].all fun i3 => (runFn (onlyTb 39) Try.prog 1000 12 [.r .u8 (16) 13 255, .r .u8 (6) 1 255, .r .u8 (3) i2 255, .b i3]))) = true := by kernel_rfl
theorem runx13x2 : ((List.range (3)).all fun i2 => ([false, true].all fun i3 => (runFn (onlyTb 39) Try.prog 1000 12 [.r .u8 (16) 13 255, .r .u8 (6) 2 255, .r .u8 (3) i2 255, .b i3]))) = true := by kernel_rfl
theorem runx13x3 : ((List.range (3)).all fun i2 => ([false, true].all fun i3 => (runFn (onlyTb 39) Try.prog 1000 12 [.r .u8 (16) 13 255, .r .u8 (6) 3 255, .r .u8 (3) i2 255, .b i3]))) = true := by kernel_rfl
theorem runx13x4 : ((List.range (3)).all fun i2 => ([false, true].all fun i3 => (runFn (onlyTb 39) Try.prog 1000 12 [.r .u8 (16) 13 255, .r .u8 (6) 4 255, .r .u8 (3) i2 255, .b i3]))) = true := by kernel_rfl
theorem runx13x5 : ((List.range (3)).all fun i2 => ([false, true].all fun i3 => (runFn (onlyTb 39) Try.prog 1000 12 [.r .u8 (16) 13 255, .r .u8 (6) 5 255, .r .u8 (3) i2 255, .b i3]))) = true := by kernel_rfl
theorem runx14x0 : ((List.range (3)).all fun i2 => ([false, true].all fun i3 => (runFn (onlyTb 39) Try.prog 1000 12 [.r .u8 (16) 14 255, .r .u8 (6) 0 255, .r .u8 (3) i2 255, .b i3]))) = true := by kernel_rfl
theorem runx14x1 : ((List.range (3)).all fun i2 => ([false, true].all fun i3 => (runFn (onlyTb 39) Try.prog 1000 12 [.r .u8 (16) 14 255, .r .u8 (6) 1 255, .r .u8 (3) i2 255, .b i3]))) = true := by kernel_rfl
theorem runx14x2 : ((List.range (3)).all fun i2 => ([false, true].all fun i3 => (runFn (onlyTb 39) Try.prog 1000 12 [.r .u8 (16) 14 255, .r .u8 (6) 2 255, .r .u8 (3) i2 255, .b i3]))) = true := by kernel_rfl
theorem runx14x3 : ((List.range (3)).all fun i2 => ([false, true].all fun i3 => (runFn (onlyTb 39) Try.prog 1000 12 [.r .u8 (16) 14 255, .r .u8 (6) 3 255, .r .u8 (3) i2 255, .b i3]))) = true := by kernel_rfl
theorem runx14x4 : ((List.range (3)).all fun i2 => ([false, true].all fun i3 => (runFn (onlyTb 39) Try.prog 1000 12 [.r .u8 (16) 14 255, .r .u8 (6) 4 255, .r .u8 (3) i2 255, .b i3]))) = true := by kernel_rfl
theorem runx14x5 : ((List.range (3)).all fun i2 => ([false, true].all fun i3 => (runFn (onlyTb 39) Try.prog 1000 12 [.r .u8 (16) 14 255, .r .u8 (6) 5 255, .r .u8 (3) i2 255, .b i3]))) = true := by kernel_rfl
theorem runx15x0 : ((List.range (3)).all fun i2 => ([false, true].all fun i3 => (runFn (onlyTb 39) Try.prog 1000 12 [.r .u8 (16) 15 255, .r .u8 (6) 0 255, .r .u8 (3) i2 255, .b i3]))) = true := by kernel_rfl
theorem runx15x1 : ((List.range (3)).all fun i2 => ([false, true].all fun i3 => (runFn (onlyTb 39) Try.prog 1000 12 [.r .u8 (16) 15 255, .r .u8 (6) 1 255, .r .u8 (3) i2 255, .b i3]))) = true := by kernel_rfl
theorem runx15x2 : ((List.range (3)).all fun i2 => ([false, true].all fun i3 => (runFn (onlyTb 39) Try.prog 1000 12 [.r .u8 (16) 15 255, .r .u8 (6) 2 255, .r .u8 (3) i2 255, .b i3]))) = true := by kernel_rfl
theorem runx15x3 : ((List.range (3)).all fun i2 => ([false, true].all fun i3 => (runFn (onlyTb 39) Try.prog 1000 12 [.r .u8 (16) 15 255, .r .u8 (6) 3 255, .r .u8 (3) i2 255, .b i3]))) = true := by kernel_rfl
theorem runx15x4 : ((List.range (3)).all fun i2 => ([false, true].all fun i3 => (runFn (onlyTb 39) Try.prog 1000 12 [.r .u8 (16) 15 255, .r .u8 (6) 4 255, .r .u8 (3) i2 255, .b i3]))) = true := by kernel_rfl
theorem runx15x5 : ((List.range (3)).all fun i2 => ([false, true].all fun i3 => (runFn (onlyTb 39) Try.prog 1000 12 [.r .u8 (16) 15 255, .r .u8 (6) 5 255, .r .u8 (3) i2 255, .b i3]))) = true := by kernel_rfl
end Go.Proofs.Ytkfliakkopidmaa.entryLimits
