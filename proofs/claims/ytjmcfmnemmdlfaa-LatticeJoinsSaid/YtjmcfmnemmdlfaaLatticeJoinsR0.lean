/- Runs of the law, by the evaluator, at the rests or numbers that are told. No condition. -/
import Derived.Test.YtjmcfmnemmdlfaaRows
import Derived.Test.YtjmcfmnemmdlfaaEvL
set_option maxRecDepth 1000000
namespace Go.Proofs.Ytjmcfmnemmdlfaa.latticeJoins
open Go.Ev
theorem run0 : ((List.range (4)).all fun i1 => runFn (onlyTb 9) Try.prog 1000 8 [.r .u8 (4) 0 255, .r .u8 (4) i1 255]) = true := by kernel_rfl
theorem run1 : ((List.range (4)).all fun i1 => runFn (onlyTb 9) Try.prog 1000 8 [.r .u8 (4) 1 255, .r .u8 (4) i1 255]) = true := by kernel_rfl
theorem run2 : ((List.range (4)).all fun i1 => runFn (onlyTb 9) Try.prog 1000 8 [.r .u8 (4) 2 255, .r .u8 (4) i1 255]) = true := by kernel_rfl
theorem run3 : ((List.range (4)).all fun i1 => runFn (onlyTb 9) Try.prog 1000 8 [.r .u8 (4) 3 255, .r .u8 (4) i1 255]) = true := by kernel_rfl
end Go.Proofs.Ytjmcfmnemmdlfaa.latticeJoins
