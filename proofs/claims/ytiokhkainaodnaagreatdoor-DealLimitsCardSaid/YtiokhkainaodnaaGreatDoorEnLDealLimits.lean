/- The law DealLimits returns true at every input, and leaves its arguments as they were: by runs of a verified evaluator in the kernel. No condition. -/
import Derived.Test.YtiokhkainaodnaaGreatDoorCards
import Derived.Test.YtiokhkainaodnaaGreatDoorTie
import Derived.WalkKit
import Derived.ProofKit
import Derived.OpenShut
import Derived.Deep.DeepHandedRow
import Derived.Lay
import Derived.Test.YtiokhkainaodnaaGreatDoorEnRDealLimits0
import Derived.Test.YtiokhkainaodnaaGreatDoorEnRDealLimits1
import Derived.Test.YtiokhkainaodnaaGreatDoorEnRDealLimits2
import Derived.Test.YtiokhkainaodnaaGreatDoorEnFDealLimits
import Derived.Test.YtiokhkainaodnaaGreatDoorPkDL6
set_option linter.all false
namespace Go.Proofs.YtiokhkainaodnaaGreatDoor.dealLimits
open Go Go.Ev Go.ChangeShapes Go.WideShapes Go.ChangeAt Go.RowKit
theorem own : ownKnob Tryz.prog.godebug = none := by kernel_rfl
theorem all (n : Nat) (h : n < 144) : runQ hs tbE Tryz.prog 3000 7 (A n) = true := by
  have key : ∀ c, c < 8 → ∀ k, k < 20 → 20 * c + k < 144 → runQ hs tbE Tryz.prog 3000 7 (A (20 * c + k)) = true := fun c hc => match c, hc with
    | 0, _ => fun k hk h2 => rnR_get run0 k (by omega)
    | 1, _ => fun k hk h2 => rnR_get run1 k (by omega)
    | 2, _ => fun k hk h2 => rnR_get run2 k (by omega)
    | 3, _ => fun k hk h2 => rnR_get run3 k (by omega)
    | 4, _ => fun k hk h2 => rnR_get run4 k (by omega)
    | 5, _ => fun k hk h2 => rnR_get run5 k (by omega)
    | 6, _ => fun k hk h2 => rnR_get run6 k (by omega)
    | 7, _ => fun k hk h2 => rnR_get run7 k (by omega)
    | m + 8, h => absurd h (by omega)
  have := key (n / 20) (by omega) (n % 20) (by omega) (by omega)
  rwa [show 20 * (n / 20) + n % 20 = n by omega] at this
theorem hr : ∀ (i0 : Nat) (i1 : Nat) (i2 : Nat), i0 < 3 → i1 < 16 → i2 < 3 → runQ hs tbE Tryz.prog 3000 7 [.r .u8 3 i0 255, .r .u8 16 i1 255, .r .u8 3 i2 255] = true := by
  intro i0 i1 i2 h0 h1 h2
  have h := all (i0 + 3 * (i1 + 16 * (i2))) (by omega)
  have e0 : Nat.mod (Nat.div (i0 + 3 * (i1 + 16 * (i2))) 1) 3 = i0 := by
    show (i0 + 3 * (i1 + 16 * (i2))) / 1 % 3 = _
    omega
  have e1 : Nat.mod (Nat.div (i0 + 3 * (i1 + 16 * (i2))) 3) 16 = i1 := by
    show (i0 + 3 * (i1 + 16 * (i2))) / 3 % 16 = _
    omega
  have e2 : Nat.mod (Nat.div (i0 + 3 * (i1 + 16 * (i2))) 48) 3 = i2 := by
    show (i0 + 3 * (i1 + 16 * (i2))) / 48 % 3 = _
    omega
  have ha : A (i0 + 3 * (i1 + 16 * (i2))) = [.r .u8 3 i0 255, .r .u8 16 i1 255, .r .u8 3 i2 255] := by
    unfold A
    rw [e0, e1, e2]
  rw [ha] at h
  exact h
/-- a world in which the listed variables hold what their texts lay -/
noncomputable def laidW (os : Os) : World := World.laidAll Tryz.prog os Rows.dealLimitsRow.laid
theorem laid_met (os : Os) : laidMet Tryz.prog Rows.dealLimitsRow.laid ((laidW os).forCall (fun _ _ => 0) ⟨#[], #[.int .u8 0, .int .u8 0, .int .u8 0], []⟩).memory :=
  laidMet_laidAll _ (by kernel_rfl) (by kernel_rfl)
theorem reads (os : Os) {H : Type} (enc : TypeId × Value → H) : ∃ places, DataW.whole enc Tryz.prog ((laidW os).forCall (fun _ _ => 0) ⟨#[], #[.int .u8 0, .int .u8 0, .int .u8 0], []⟩).memory Tryz.f7.params.toList Rows.dealLimitsSpec.vars false #[Value.int .u8 0, Value.int .u8 0, Value.int .u8 0].toList 8 = some ([.lit (.int .u8 0), .lit (.int .u8 0), .lit (.int .u8 0)], [], places) :=
  ⟨[], by kernel_rfl⟩
set_option maxRecDepth 100000 in
theorem lifted (os : Os) (started : os.Started) (H : Type) (enc : TypeId × Value → H) (F : Stop.Interp) :
    ReturnsInHanded {} Tryz.checked os 7 .any ((OpenSpec.ofChange Rows.dealLimitsSpec).preRow enc Tryz.prog Tryz.f7 Rows.dealLimitsRow.domain false Rows.dealLimitsRow.laid) (((OpenSpec.ofChange Rows.dealLimitsSpec).at F).post enc Tryz.prog Tryz.f7 false true false false) := by
  obtain ⟨places, hx⟩ := reads os enc
  refine returnsInHanded_of_row (C := Tryz.checked) (s := OpenSpec.ofChange Rows.dealLimitsSpec) own started (by kernel_rfl) Tryz.func7
    (witness_row_at (enc := enc) (C := Tryz.checked) false (laidW os) #[.int .u8 0, .int .u8 0, .int .u8 0] rfl (by kernel_rfl) (by kernel_rfl) (by kernel_rfl)
      (OpenSpec.preRow_of_cond 8 hx (by kernel_rfl) (fun k hk => by cases hk) (by kernel_rfl) (laid_met os))) ?_
  intro W base args ds gs before hval hW _ _ _ hL _ _
  exact contractOf hr H enc W base args ds gs before hval hW
theorem said : Rows.DealLimitsSaid :=
  OpenClaim.holds_of_cond 7 Tryz.f7 rfl rfl rfl rfl rfl rfl rfl ⟨rfl, rfl, rfl, rfl, rfl⟩ rfl rfl rfl rfl rfl fnd Tryz.func7 facts
    inst wrap
    (fun os started H enc _ F => by rw [OpenClaim.pre_eq_preRow]; exact lifted os started H enc F)
/-- no parameter wants a stand-in; the program's own looks are off -/
theorem plain (f : FuncId) (fn : Func) (hf : Tryz.pinned.checked.prog.funcNamed "ravelin/ravelinlaw17.DealLimits" = some f) (hfn : Tryz.pinned.checked.prog.funcs[f]? = some fn) :
    true = Tryz.pinned.checked.prog.looks [] ∧ ∀ (j : Nat) t, fn.params[j]? = some t → Tryz.pinned.checked.prog.wantsStandIn t = false := by
  obtain rfl : f = 7 := Option.some.inj ((show Tryz.prog.funcNamed "ravelin/ravelinlaw17.DealLimits" = some 7 by kernel_rfl).symm.trans hf) |>.symm
  obtain rfl : fn = Tryz.f7 := (Option.some.inj (Tryz.func7.symm.trans hfn)).symm
  refine ⟨by kernel_rfl, fun j t ht => ?_⟩
  rw [Tryz.params7] at ht
  have h2 : t = 5 := by have h3 := Array.mem_of_getElem? ht; first | (simpa using h3) | (simp at h3; omega)
  rcases h2 with rfl
  exact (show Tryz.prog.wantsStandIn 5 = false by kernel_rfl)
/-- the card -/
theorem proved : Rows.DealLimitsCardSaid :=
  Claim7.holds_tied_plain_at .later [] _ _ _ _ said (fun _ h => by cases h) (by kernel_rfl) (fun _ h => by cases h) dealLimits_row_tie rfl ⟨rfl, rfl⟩ (by kernel_rfl) rfl plain (by kernel_rfl)
end Go.Proofs.YtiokhkainaodnaaGreatDoor.dealLimits
