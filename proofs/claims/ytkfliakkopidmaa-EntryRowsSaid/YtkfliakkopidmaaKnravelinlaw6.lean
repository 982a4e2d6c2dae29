/- The function 'known' of the statements' package returns true: it has no parameters; the evaluator runs it. No condition. -/
import Derived.Test.YtkfliakkopidmaaRows
import Derived.Test.YtkfliakkopidmaaEvL
set_option maxRecDepth 1000000
namespace Go.Proofs.Ytkfliakkopidmaa.ravelinlaw6
open Go.Ev
theorem known_run : runFn noTb Try.prog 1000 39 [] = true := by kernel_rfl
theorem known_pure : PureTrue Try.prog 39 := pure_of (noTb_ok _) (Checked.mixed Try.checked) known_run
theorem known_tb : ∀ f, onlyTb 39 f = true → PureTrue Try.prog f := onlyTb_ok known_pure
end Go.Proofs.Ytkfliakkopidmaa.ravelinlaw6
