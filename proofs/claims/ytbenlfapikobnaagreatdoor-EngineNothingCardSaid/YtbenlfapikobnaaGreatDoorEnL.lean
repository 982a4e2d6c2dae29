/- The law EngineNothing returns true at every input, and leaves its arguments as they were: by runs of a verified evaluator in the kernel. No condition. -/
import Derived.Test.YtbenlfapikobnaaGreatDoorCards
import Derived.Test.YtbenlfapikobnaaGreatDoorTie
import Derived.WalkKit
import Derived.ProofKit
import Derived.OpenShut
import Derived.Deep.DeepHandedRow
import Derived.Lay
import Derived.Test.YtbenlfapikobnaaGreatDoorEnR0
import Derived.Test.YtbenlfapikobnaaGreatDoorEnR1
import Derived.Test.YtbenlfapikobnaaGreatDoorEnR2
import Derived.Test.YtbenlfapikobnaaGreatDoorEnR3
import Derived.Test.YtbenlfapikobnaaGreatDoorEnR4
import Derived.Test.YtbenlfapikobnaaGreatDoorEnR5
import Derived.Test.YtbenlfapikobnaaGreatDoorEnR6
import Derived.Test.YtbenlfapikobnaaGreatDoorEnR7
import Derived.Test.YtbenlfapikobnaaGreatDoorEnF
import Derived.Test.YtbenlfapikobnaaGreatDoorPkEN5
namespace Go.Proofs.YtbenlfapikobnaaGreatDoor.engineNothing
open Go Go.Ev Go.ChangeShapes Go.WideShapes Go.ChangeAt Go.RowKit
set_option linter.all false
theorem own : ownKnob Tryz.prog.godebug = none := by kernel_rfl
theorem hr : ∀ i b, i < 20 → runFn tbE Tryz.prog 3000 9 [.r .u8 20 i 255, .b b] = true := by
  intro i0 a1 h0
  match i0, h0 with
  | 0, _ => cases a1 with | false => exact run0f | true => exact run0t
  | 1, _ => cases a1 with | false => exact run1f | true => exact run1t
  | 2, _ => cases a1 with | false => exact run2f | true => exact run2t
  | 3, _ => cases a1 with | false => exact run3f | true => exact run3t
  | 4, _ => cases a1 with | false => exact run4f | true => exact run4t
  | 5, _ => cases a1 with | false => exact run5f | true => exact run5t
  | 6, _ => cases a1 with | false => exact run6f | true => exact run6t
  | 7, _ => cases a1 with | false => exact run7f | true => exact run7t
  | 8, _ => cases a1 with | false => exact run8f | true => exact run8t
  | 9, _ => cases a1 with | false => exact run9f | true => exact run9t
  | 10, _ => cases a1 with | false => exact run10f | true => exact run10t
  | 11, _ => cases a1 with | false => exact run11f | true => exact run11t
  | 12, _ => cases a1 with | false => exact run12f | true => exact run12t
  | 13, _ => cases a1 with | false => exact run13f | true => exact run13t
  | 14, _ => cases a1 with | false => exact run14f | true => exact run14t
  | 15, _ => cases a1 with | false => exact run15f | true => exact run15t
  | 16, _ => cases a1 with | false => exact run16f | true => exact run16t
  | 17, _ => cases a1 with | false => exact run17f | true => exact run17t
  | 18, _ => cases a1 with | false => exact run18f | true => exact run18t
  | 19, _ => cases a1 with | false => exact run19f | true => exact run19t
  | n + 20, h => exact absurd h (by omega)
/-- a world in which the listed variables hold what their texts lay -/
noncomputable def laidW (os : Os) : World := World.laidAll Tryz.prog os Rows.engineNothingRow.laid
theorem laid_met (os : Os) : laidMet Tryz.prog Rows.engineNothingRow.laid ((laidW os).forCall (fun _ _ => 0) ⟨#[], #[.int .u8 0, .bool false], []⟩).memory :=
  laidMet_laidAll _ (by kernel_rfl) (by kernel_rfl)
theorem reads (os : Os) {H : Type} (enc : TypeId × Value → H) : ∃ places, DataW.whole enc Tryz.prog ((laidW os).forCall (fun _ _ => 0) ⟨#[], #[.int .u8 0, .bool false], []⟩).memory Tryz.f9.params.toList Rows.engineNothingSpec.vars false #[Value.int .u8 0, .bool false].toList 8 = some ([.lit (.int .u8 0), .lit (.bool false)], [], places) :=
  ⟨[], by kernel_rfl⟩
set_option maxRecDepth 100000 in
theorem lifted (os : Os) (started : os.Started) (H : Type) (enc : TypeId × Value → H) (F : Stop.Interp) :
    ReturnsInHanded {} Tryz.checked os 9 .any ((OpenSpec.ofChange Rows.engineNothingSpec).preRow enc Tryz.prog Tryz.f9 Rows.engineNothingRow.domain false Rows.engineNothingRow.laid) (((OpenSpec.ofChange Rows.engineNothingSpec).at F).post enc Tryz.prog Tryz.f9 false true false false) := by
  obtain ⟨places, hx⟩ := reads os enc
  refine returnsInHanded_of_row (C := Tryz.checked) (s := OpenSpec.ofChange Rows.engineNothingSpec) own started (by kernel_rfl) Tryz.func9
    (witness_row_at (enc := enc) (C := Tryz.checked) false (laidW os) #[.int .u8 0, .bool false] rfl (by kernel_rfl) (by kernel_rfl) (by kernel_rfl)
      (OpenSpec.preRow_of_cond 8 hx (by kernel_rfl) (fun k hk => by cases hk) (by kernel_rfl) (laid_met os))) ?_
  intro W base args ds gs before hval hW _ _ _ hL _ _
  exact contractOf hr H enc W base args ds gs before hval hW
theorem said : Rows.EngineNothingSaid :=
  OpenClaim.holds_of_cond 9 Tryz.f9 rfl rfl rfl rfl rfl rfl rfl ⟨rfl, rfl, rfl, rfl, rfl⟩ rfl rfl rfl rfl rfl fnd Tryz.func9 facts
    inst wrap
    (fun os started H enc _ F => by rw [OpenClaim.pre_eq_preRow]; exact lifted os started H enc F)
/-- no parameter wants a stand-in; the program's own looks are off -/
theorem plain (f : FuncId) (fn : Func) (hf : Tryz.pinned.checked.prog.funcNamed "ravelin/ravelinlaw15.EngineNothing" = some f) (hfn : Tryz.pinned.checked.prog.funcs[f]? = some fn) :
    true = Tryz.pinned.checked.prog.looks [] ∧ ∀ (j : Nat) t, fn.params[j]? = some t → Tryz.pinned.checked.prog.wantsStandIn t = false := by
  obtain rfl : f = 9 := Option.some.inj ((show Tryz.prog.funcNamed "ravelin/ravelinlaw15.EngineNothing" = some 9 by kernel_rfl).symm.trans hf) |>.symm
  obtain rfl : fn = Tryz.f9 := (Option.some.inj (Tryz.func9.symm.trans hfn)).symm
  refine ⟨by kernel_rfl, fun j t ht => ?_⟩
  rw [Tryz.params9] at ht
  have h2 : t = 5 ∨ t = 4 := by simpa using Array.mem_of_getElem? ht
  rcases h2 with rfl | rfl
  · exact (show Tryz.prog.wantsStandIn 5 = false by kernel_rfl)
  · exact (show Tryz.prog.wantsStandIn 4 = false by kernel_rfl)
/-- the card -/
theorem proved : Rows.EngineNothingCardSaid :=
  Claim7.holds_tied_plain_at .later [] _ _ _ _ said (fun _ h => by cases h) (by kernel_rfl) (fun _ h => by cases h) engineNothing_row_tie rfl ⟨rfl, rfl⟩ (by kernel_rfl) rfl plain (by kernel_rfl)
end Go.Proofs.YtbenlfapikobnaaGreatDoor.engineNothing
