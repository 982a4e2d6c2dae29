/- Closed facts of the row, each by the kernel. No condition. -/
import Derived.Test.YtiokhkainaodnaaGreatDoorRows
import Derived.ProofKit
import Derived.OpenShut
import Derived.Deep.DeepHandedRow
namespace Go.Proofs.YtiokhkainaodnaaGreatDoor.dealPhantoms
open Go
theorem and_of {a b : Bool} (ha : a = true) (hb : b = true) : (a && b) = true := by rw [ha, hb]; rfl
set_option maxHeartbeats 0 in
theorem facts : joinedFacts Tryz.prog 8 Tryz.f8 (OpenSpec.ofChange Rows.dealPhantomsSpec).bare Rows.dealPhantomsRow = true := by
  unfold joinedFacts
  repeat' with_reducible refine and_of ?_ ?_
  all_goals as_aux_lemma => kernel_rfl
theorem inst : Tryz.f8.isInstance Tryz.prog Rows.dealPhantomsRow.origin Rows.dealPhantomsRow.targs := of_decide_eq_true (by kernel_rfl)
theorem wrap : Tryz.f8.isWrapper Tryz.prog Rows.dealPhantomsRow.wrapper Rows.dealPhantomsRow.mainSum := by unfold Func.isWrapper; first | (rw [if_pos (by decide +kernel)]; kernel_rfl) | (rw [if_neg (by decide +kernel)]; exact ⟨rfl, rfl⟩)
theorem fnd : Tryz.prog.funcNamed Rows.dealPhantomsRow.func = some 8 := by kernel_rfl
end Go.Proofs.YtiokhkainaodnaaGreatDoor.dealPhantoms
