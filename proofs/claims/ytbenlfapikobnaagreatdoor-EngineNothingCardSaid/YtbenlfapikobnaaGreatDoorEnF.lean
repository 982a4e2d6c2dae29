/- Closed facts of the row, each by the kernel. No condition. -/
import Derived.Test.YtbenlfapikobnaaGreatDoorRows
import Derived.ProofKit
import Derived.OpenShut
import Derived.Deep.DeepHandedRow
namespace Go.Proofs.YtbenlfapikobnaaGreatDoor.engineNothing
open Go
theorem and_of {a b : Bool} (ha : a = true) (hb : b = true) : (a && b) = true := by rw [ha, hb]; rfl
set_option maxHeartbeats 0 in
theorem facts : joinedFacts Tryz.prog 9 Tryz.f9 (OpenSpec.ofChange Rows.engineNothingSpec).bare Rows.engineNothingRow = true := by
  unfold joinedFacts
  repeat' with_reducible refine and_of ?_ ?_
  all_goals as_aux_lemma => kernel_rfl
theorem inst : Tryz.f9.isInstance Tryz.prog Rows.engineNothingRow.origin Rows.engineNothingRow.targs := of_decide_eq_true (by kernel_rfl)
theorem wrap : Tryz.f9.isWrapper Tryz.prog Rows.engineNothingRow.wrapper Rows.engineNothingRow.mainSum := by unfold Func.isWrapper; first | (rw [if_pos (by decide +kernel)]; kernel_rfl) | (rw [if_neg (by decide +kernel)]; exact ⟨rfl, rfl⟩)
theorem fnd : Tryz.prog.funcNamed Rows.engineNothingRow.func = some 9 := by kernel_rfl
end Go.Proofs.YtbenlfapikobnaaGreatDoor.engineNothing
