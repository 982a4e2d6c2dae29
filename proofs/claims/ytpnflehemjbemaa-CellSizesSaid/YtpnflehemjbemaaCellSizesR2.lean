/- Runs of the law, by the evaluator, at the rests or numbers that are told. No condition. -/
import Derived.Test.YtpnflehemjbemaaRows
import Derived.Test.YtpnflehemjbemaaEvL
set_option maxRecDepth 1000000
namespace Go.Proofs.Ytpnflehemjbemaa.cellSizes
open Go.Ev
theorem runx32x0 : (runFn (onlyTb 43) Try.prog 1000 10 [.r .u8 (63) 32 255, .b false]) = true := by kernel_rfl
theorem runx32x1 : (runFn (onlyTb 43) Try.prog 1000 10 [.r .u8 (63) 32 255, .b true]) = true := by kernel_rfl
theorem runx33x0 : (runFn (onlyTb 43) Try.prog 1000 10 [.r .u8 (63) 33 255, .b false]) = true := by kernel_rfl
theorem runx33x1 : (runFn (onlyTb 43) Try.prog 1000 10 [.r .u8 (63) 33 255, .b true]) = true := by kernel_rfl
theorem runx34x0 : (runFn (onlyTb 43) Try.prog 1000 10 [.r .u8 (63) 34 255, .b false]) = true := by kernel_rfl
theorem runx34x1 : (runFn (onlyTb 43) Try.prog 1000 10 [.r .u8 (63) 34 255, .b true]) = true := by kernel_rfl
theorem runx35x0 : (runFn (onlyTb 43) Try.prog 1000 10 [.r .u8 (63) 35 255, .b false]) = true := by kernel_rfl
theorem runx35x1 : (runFn (onlyTb 43) Try.prog 1000 10 [.r .u8 (63) 35 255, .b true]) = true := by kernel_rfl
theorem runx36x0 : (runFn (onlyTb 43) Try.prog 1000 10 [.r .u8 (63) 36 255, .b false]) = true := by kernel_rfl
theorem runx36x1 : (runFn (onlyTb 43) Try.prog 1000 10 [.r .u8 (63) 36 255, .b true]) = true := by kernel_rfl
theorem runx37x0 : (runFn (onlyTb 43) Try.prog 1000 10 [.r .u8 (63) 37 255, .b false]) = true := by kernel_rfl
theorem runx37x1 : (runFn (onlyTb 43) Try.prog 1000 10 [.r .u8 (63) 37 255, .b true]) = true := by kernel_rfl
theorem runx38x0 : (runFn (onlyTb 43) Try.prog 1000 10 [.r .u8 (63) 38 255, .b false]) = true := by kernel_rfl
theorem runx38x1 : (runFn (onlyTb 43) Try.prog 1000 10 [.r .u8 (63) 38 255, .b true]) = true := by kernel_rfl
theorem runx39x0 : (runFn (onlyTb 43) Try.prog 1000 10 [.r .u8 (63) 39 255, .b false]) = true := by kernel_rfl
theorem runx39x1 : (runFn (onlyTb 43) Try.prog 1000 10 [.r .u8 (63) 39 255, .b true]) = true := by kernel_rfl
theorem runx40x0 : (runFn (onlyTb 43) Try.prog 1000 10 [.r .u8 (63) 40 255, .b false]) = true := by kernel_rfl
theorem runx40x1 : (runFn (onlyTb 43) Try.prog 1000 10 [.r .u8 (63) 40 255, .b true]) = true := by kernel_rfl
theorem runx41x0 : (runFn (onlyTb 43) Try.prog 1000 10 [.r .u8 (63) 41 255, .b false]) = true := by kernel_rfl
theorem runx41x1 : (runFn (onlyTb 43) Try.prog 1000 10 [.r .u8 (63) 41 255, .b true]) = true := by kernel_rfl
theorem runx42x0 : (runFn (onlyTb 43) Try.prog 1000 10 [.r .u8 (63) 42 255, .b false]) = true := by kernel_rfl
theorem runx42x1 : (runFn (onlyTb 43) Try.prog 1000 10 [.r .u8 (63) 42 255, .b true]) = true := by kernel_rfl
theorem runx43x0 : (runFn (onlyTb 43) Try.prog 1000 10 [.r .u8 (63) 43 255, .b false]) = true := by kernel_rfl
theorem runx43x1 : (runFn (onlyTb 43) Try.prog 1000 10 [.r .u8 (63) 43 255, .b true]) = true := by kernel_rfl
theorem runx44x0 : (runFn (onlyTb 43) Try.prog 1000 10 [.r .u8 (63) 44 255, .b false]) = true := by kernel_rfl
theorem runx44x1 : (runFn (onlyTb 43) Try.prog 1000 10 [.r .u8 (63) 44 255, .b true]) = true := by kernel_rfl
theorem runx45x0 : (runFn (onlyTb 43) Try.prog 1000 10 [.r .u8 (63) 45 255, .b false]) = true := by kernel_rfl
theorem runx45x1 : (runFn (onlyTb 43) Try.prog 1000 10 [.r .u8 (63) 45 255, .b true]) = true := by kernel_rfl
theorem runx46x0 : (runFn (onlyTb 43) Try.prog 1000 10 [.r .u8 (63) 46 255, .b false]) = true := by kernel_rfl
theorem runx46x1 : (runFn (onlyTb 43) Try.prog 1000 10 [.r .u8 (63) 46 255, .b true]) = true := by kernel_rfl
theorem runx47x0 : (runFn (onlyTb 43) Try.prog 1000 10 [.r .u8 (63) 47 255, .b false]) = true := by kernel_rfl
theorem runx47x1 : (runFn (onlyTb 43) Try.prog 1000 10 [.r .u8 (63) 47 255, .b true]) = true := by kernel_rfl
end Go.Proofs.Ytpnflehemjbemaa.cellSizes
