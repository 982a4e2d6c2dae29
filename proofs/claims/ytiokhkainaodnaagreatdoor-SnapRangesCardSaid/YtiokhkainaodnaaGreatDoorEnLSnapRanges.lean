/- The law SnapRanges returns true at every input, and leaves its arguments as they were: by runs of a verified evaluator in the kernel. No condition. -/
import Derived.Test.YtiokhkainaodnaaGreatDoorCards
import Derived.Test.YtiokhkainaodnaaGreatDoorTie
import Derived.WalkKit
import Derived.ProofKit
import Derived.OpenShut
import Derived.Deep.DeepHandedRow
import Derived.Lay
import Derived.Test.YtiokhkainaodnaaGreatDoorEnRSnapRanges0
import Derived.Test.YtiokhkainaodnaaGreatDoorEnRSnapRanges1
import Derived.Test.YtiokhkainaodnaaGreatDoorEnRSnapRanges2
import Derived.Test.YtiokhkainaodnaaGreatDoorEnRSnapRanges3
import Derived.Test.YtiokhkainaodnaaGreatDoorEnRSnapRanges4
import Derived.Test.YtiokhkainaodnaaGreatDoorEnRSnapRanges5
import Derived.Test.YtiokhkainaodnaaGreatDoorEnRSnapRanges6
import Derived.Test.YtiokhkainaodnaaGreatDoorEnRSnapRanges7
import Derived.Test.YtiokhkainaodnaaGreatDoorEnRSnapRanges8
import Derived.Test.YtiokhkainaodnaaGreatDoorEnRSnapRanges9
import Derived.Test.YtiokhkainaodnaaGreatDoorEnRSnapRanges10
import Derived.Test.YtiokhkainaodnaaGreatDoorEnRSnapRanges11
import Derived.Test.YtiokhkainaodnaaGreatDoorEnRSnapRanges12
import Derived.Test.YtiokhkainaodnaaGreatDoorEnRSnapRanges13
import Derived.Test.YtiokhkainaodnaaGreatDoorEnRSnapRanges14
import Derived.Test.YtiokhkainaodnaaGreatDoorEnRSnapRanges15
import Derived.Test.YtiokhkainaodnaaGreatDoorEnRSnapRanges16
import Derived.Test.YtiokhkainaodnaaGreatDoorEnRSnapRanges17
import Derived.Test.YtiokhkainaodnaaGreatDoorEnRSnapRanges18
import Derived.Test.YtiokhkainaodnaaGreatDoorEnRSnapRanges19
import Derived.Test.YtiokhkainaodnaaGreatDoorEnRSnapRanges20
import Derived.Test.YtiokhkainaodnaaGreatDoorEnRSnapRanges21
import Derived.Test.YtiokhkainaodnaaGreatDoorEnRSnapRanges22
import Derived.Test.YtiokhkainaodnaaGreatDoorEnRSnapRanges23
import Derived.Test.YtiokhkainaodnaaGreatDoorEnRSnapRanges24
import Derived.Test.YtiokhkainaodnaaGreatDoorEnRSnapRanges25
import Derived.Test.YtiokhkainaodnaaGreatDoorEnRSnapRanges26
import Derived.Test.YtiokhkainaodnaaGreatDoorEnRSnapRanges27
import Derived.Test.YtiokhkainaodnaaGreatDoorEnRSnapRanges28
import Derived.Test.YtiokhkainaodnaaGreatDoorEnRSnapRanges29
import Derived.Test.YtiokhkainaodnaaGreatDoorEnRSnapRanges30
import Derived.Test.YtiokhkainaodnaaGreatDoorEnRSnapRanges31
import Derived.Test.YtiokhkainaodnaaGreatDoorEnRSnapRanges32
import Derived.Test.YtiokhkainaodnaaGreatDoorEnRSnapRanges33
import Derived.Test.YtiokhkainaodnaaGreatDoorEnRSnapRanges34
import Derived.Test.YtiokhkainaodnaaGreatDoorEnRSnapRanges35
import Derived.Test.YtiokhkainaodnaaGreatDoorEnRSnapRanges36
import Derived.Test.YtiokhkainaodnaaGreatDoorEnRSnapRanges37
import Derived.Test.YtiokhkainaodnaaGreatDoorEnRSnapRanges38
import Derived.Test.YtiokhkainaodnaaGreatDoorEnRSnapRanges39
import Derived.Test.YtiokhkainaodnaaGreatDoorEnRSnapRanges40
import Derived.Test.YtiokhkainaodnaaGreatDoorEnRSnapRanges41
import Derived.Test.YtiokhkainaodnaaGreatDoorEnRSnapRanges42
import Derived.Test.YtiokhkainaodnaaGreatDoorEnRSnapRanges43
import Derived.Test.YtiokhkainaodnaaGreatDoorEnFSnapRanges
import Derived.Test.YtiokhkainaodnaaGreatDoorPkSR6
set_option linter.all false
namespace Go.Proofs.YtiokhkainaodnaaGreatDoor.snapRanges
open Go Go.Ev Go.ChangeShapes Go.WideShapes Go.ChangeAt Go.RowKit
theorem own : ownKnob Tryz.prog.godebug = none := by kernel_rfl
theorem all (n : Nat) (h : n < 3000) : runQ hs tbE Tryz.prog 3000 4 (A n) = true := by
  have key : ∀ c, c < 131 → ∀ k, k < 23 → 23 * c + k < 3000 → runQ hs tbE Tryz.prog 3000 4 (A (23 * c + k)) = true := fun c hc => match c, hc with
    | 0, _ => fun k hk h2 => rnR_get run0 k (by omega)
    | 1, _ => fun k hk h2 => rnR_get run1 k (by omega)
    | 2, _ => fun k hk h2 => rnR_get run2 k (by omega)
    | 3, _ => fun k hk h2 => rnR_get run3 k (by omega)
    | 4, _ => fun k hk h2 => rnR_get run4 k (by omega)
    | 5, _ => fun k hk h2 => rnR_get run5 k (by omega)
    | 6, _ => fun k hk h2 => rnR_get run6 k (by omega)
    | 7, _ => fun k hk h2 => rnR_get run7 k (by omega)
    | 8, _ => fun k hk h2 => rnR_get run8 k (by omega)
    | 9, _ => fun k hk h2 => rnR_get run9 k (by omega)
    | 10, _ => fun k hk h2 => rnR_get run10 k (by omega)
    | 11, _ => fun k hk h2 => rnR_get run11 k (by omega)
    | 12, _ => fun k hk h2 => rnR_get run12 k (by omega)
    | 13, _ => fun k hk h2 => rnR_get run13 k (by omega)
    | 14, _ => fun k hk h2 => rnR_get run14 k (by omega)
    | 15, _ => fun k hk h2 => rnR_get run15 k (by omega)
    | 16, _ => fun k hk h2 => rnR_get run16 k (by omega)
    | 17, _ => fun k hk h2 => rnR_get run17 k (by omega)
    | 18, _ => fun k hk h2 => rnR_get run18 k (by omega)
    | 19, _ => fun k hk h2 => rnR_get run19 k (by omega)
    | 20, _ => fun k hk h2 => rnR_get run20 k (by omega)
    | 21, _ => fun k hk h2 => rnR_get run21 k (by omega)
    | 22, _ => fun k hk h2 => rnR_get run22 k (by omega)
    | 23, _ => fun k hk h2 => rnR_get run23 k (by omega)
    | 24, _ => fun k hk h2 => rnR_get run24 k (by omega)
    | 25, _ => fun k hk h2 => rnR_get run25 k (by omega)
    | 26, _ => fun k hk h2 => rnR_get run26 k (by omega)
    | 27, _ => fun k hk h2 => rnR_get run27 k (by omega)
    | 28, _ => fun k hk h2 => rnR_get run28 k (by omega)
    | 29, _ => fun k hk h2 => rnR_get run29 k (by omega)
    | 30, _ => fun k hk h2 => rnR_get run30 k (by omega)
    | 31, _ => fun k hk h2 => rnR_get run31 k (by omega)
    | 32, _ => fun k hk h2 => rnR_get run32 k (by omega)
    | 33, _ => fun k hk h2 => rnR_get run33 k (by omega)
    | 34, _ => fun k hk h2 => rnR_get run34 k (by omega)
    | 35, _ => fun k hk h2 => rnR_get run35 k (by omega)
    | 36, _ => fun k hk h2 => rnR_get run36 k (by omega)
    | 37, _ => fun k hk h2 => rnR_get run37 k (by omega)
    | 38, _ => fun k hk h2 => rnR_get run38 k (by omega)
    | 39, _ => fun k hk h2 => rnR_get run39 k (by omega)
    | 40, _ => fun k hk h2 => rnR_get run40 k (by omega)
    | 41, _ => fun k hk h2 => rnR_get run41 k (by omega)
    | 42, _ => fun k hk h2 => rnR_get run42 k (by omega)
    | 43, _ => fun k hk h2 => rnR_get run43 k (by omega)
    | 44, _ => fun k hk h2 => rnR_get run44 k (by omega)
    | 45, _ => fun k hk h2 => rnR_get run45 k (by omega)
    | 46, _ => fun k hk h2 => rnR_get run46 k (by omega)
    | 47, _ => fun k hk h2 => rnR_get run47 k (by omega)
    | 48, _ => fun k hk h2 => rnR_get run48 k (by omega)
    | 49, _ => fun k hk h2 => rnR_get run49 k (by omega)
    | 50, _ => fun k hk h2 => rnR_get run50 k (by omega)
    | 51, _ => fun k hk h2 => rnR_get run51 k (by omega)
    | 52, _ => fun k hk h2 => rnR_get run52 k (by omega)
    | 53, _ => fun k hk h2 => rnR_get run53 k (by omega)
    | 54, _ => fun k hk h2 => rnR_get run54 k (by omega)
    | 55, _ => fun k hk h2 => rnR_get run55 k (by omega)
    | 56, _ => fun k hk h2 => rnR_get run56 k (by omega)
    | 57, _ => fun k hk h2 => rnR_get run57 k (by omega)
    | 58, _ => fun k hk h2 => rnR_get run58 k (by omega)
    | 59, _ => fun k hk h2 => rnR_get run59 k (by omega)
    | 60, _ => fun k hk h2 => rnR_get run60 k (by omega)
    | 61, _ => fun k hk h2 => rnR_get run61 k (by omega)
    | 62, _ => fun k hk h2 => rnR_get run62 k (by omega)
    | 63, _ => fun k hk h2 => rnR_get run63 k (by omega)
    | 64, _ => fun k hk h2 => rnR_get run64 k (by omega)
    | 65, _ => fun k hk h2 => rnR_get run65 k (by omega)
    | 66, _ => fun k hk h2 => rnR_get run66 k (by omega)
    | 67, _ => fun k hk h2 => rnR_get run67 k (by omega)
    | 68, _ => fun k hk h2 => rnR_get run68 k (by omega)
    | 69, _ => fun k hk h2 => rnR_get run69 k (by omega)
    | 70, _ => fun k hk h2 => rnR_get run70 k (by omega)
    | 71, _ => fun k hk h2 => rnR_get run71 k (by omega)
    | 72, _ => fun k hk h2 => rnR_get run72 k (by omega)
    | 73, _ => fun k hk h2 => rnR_get run73 k (by omega)
    | 74, _ => fun k hk h2 => rnR_get run74 k (by omega)
    | 75, _ => fun k hk h2 => rnR_get run75 k (by omega)
    | 76, _ => fun k hk h2 => rnR_get run76 k (by omega)
    | 77, _ => fun k hk h2 => rnR_get run77 k (by omega)
    | 78, _ => fun k hk h2 => rnR_get run78 k (by omega)
    | 79, _ => fun k hk h2 => rnR_get run79 k (by omega)
    | 80, _ => fun k hk h2 => rnR_get run80 k (by omega)
    | 81, _ => fun k hk h2 => rnR_get run81 k (by omega)
    | 82, _ => fun k hk h2 => rnR_get run82 k (by omega)
    | 83, _ => fun k hk h2 => rnR_get run83 k (by omega)
    | 84, _ => fun k hk h2 => rnR_get run84 k (by omega)
    | 85, _ => fun k hk h2 => rnR_get run85 k (by omega)
    | 86, _ => fun k hk h2 => rnR_get run86 k (by omega)
    | 87, _ => fun k hk h2 => rnR_get run87 k (by omega)
    | 88, _ => fun k hk h2 => rnR_get run88 k (by omega)
    | 89, _ => fun k hk h2 => rnR_get run89 k (by omega)
    | 90, _ => fun k hk h2 => rnR_get run90 k (by omega)
    | 91, _ => fun k hk h2 => rnR_get run91 k (by omega)
    | 92, _ => fun k hk h2 => rnR_get run92 k (by omega)
    | 93, _ => fun k hk h2 => rnR_get run93 k (by omega)
    | 94, _ => fun k hk h2 => rnR_get run94 k (by omega)
    | 95, _ => fun k hk h2 => rnR_get run95 k (by omega)
    | 96, _ => fun k hk h2 => rnR_get run96 k (by omega)
    | 97, _ => fun k hk h2 => rnR_get run97 k (by omega)
    | 98, _ => fun k hk h2 => rnR_get run98 k (by omega)
    | 99, _ => fun k hk h2 => rnR_get run99 k (by omega)
    | 100, _ => fun k hk h2 => rnR_get run100 k (by omega)
    | 101, _ => fun k hk h2 => rnR_get run101 k (by omega)
    | 102, _ => fun k hk h2 => rnR_get run102 k (by omega)
    | 103, _ => fun k hk h2 => rnR_get run103 k (by omega)
    | 104, _ => fun k hk h2 => rnR_get run104 k (by omega)
    | 105, _ => fun k hk h2 => rnR_get run105 k (by omega)
    | 106, _ => fun k hk h2 => rnR_get run106 k (by omega)
    | 107, _ => fun k hk h2 => rnR_get run107 k (by omega)
    | 108, _ => fun k hk h2 => rnR_get run108 k (by omega)
    | 109, _ => fun k hk h2 => rnR_get run109 k (by omega)
    | 110, _ => fun k hk h2 => rnR_get run110 k (by omega)
    | 111, _ => fun k hk h2 => rnR_get run111 k (by omega)
    | 112, _ => fun k hk h2 => rnR_get run112 k (by omega)
    | 113, _ => fun k hk h2 => rnR_get run113 k (by omega)
    | 114, _ => fun k hk h2 => rnR_get run114 k (by omega)
    | 115, _ => fun k hk h2 => rnR_get run115 k (by omega)
    | 116, _ => fun k hk h2 => rnR_get run116 k (by omega)
    | 117, _ => fun k hk h2 => rnR_get run117 k (by omega)
    | 118, _ => fun k hk h2 => rnR_get run118 k (by omega)
    | 119, _ => fun k hk h2 => rnR_get run119 k (by omega)
    | 120, _ => fun k hk h2 => rnR_get run120 k (by omega)
    | 121, _ => fun k hk h2 => rnR_get run121 k (by omega)
    | 122, _ => fun k hk h2 => rnR_get run122 k (by omega)
    | 123, _ => fun k hk h2 => rnR_get run123 k (by omega)
    | 124, _ => fun k hk h2 => rnR_get run124 k (by omega)
    | 125, _ => fun k hk h2 => rnR_get run125 k (by omega)
    | 126, _ => fun k hk h2 => rnR_get run126 k (by omega)
    | 127, _ => fun k hk h2 => rnR_get run127 k (by omega)
    | 128, _ => fun k hk h2 => rnR_get run128 k (by omega)
    | 129, _ => fun k hk h2 => rnR_get run129 k (by omega)
    | 130, _ => fun k hk h2 => rnR_get run130 k (by omega)
    | m + 131, h => absurd h (by omega)
  have := key (n / 23) (by omega) (n % 23) (by omega) (by omega)
  rwa [show 23 * (n / 23) + n % 23 = n by omega] at this
theorem hr : ∀ (i0 : Nat) (i1 : Nat) (i2 : Nat) (i3 : Bool) (i4 : Bool), i0 < 10 → i1 < 10 → i2 < 10 → runQ hs tbE Tryz.prog 3000 4 [.r .u8 10 i0 255, .r .u8 10 i1 255, .r .u8 10 i2 255, .b i3, (unB i3 i4)] = true := by
  intro i0 i1 i2 i3 i4 h0 h1 h2
  obtain ⟨v3, hv3, bv3, uv3⟩ : ∃ v, v < 3 ∧ Nat.beq v 0 = i3 ∧ uV v = unB i3 i4 := by
    cases i3 with
    | true => exact ⟨0, by omega, rfl, rfl⟩
    | false =>
      cases i4 with
      | false => exact ⟨1, by omega, rfl, rfl⟩
      | true => exact ⟨2, by omega, rfl, rfl⟩
  have h := all (i0 + 10 * (i1 + 10 * (i2 + 10 * (v3)))) (by omega)
  have e0 : Nat.mod (Nat.div (i0 + 10 * (i1 + 10 * (i2 + 10 * (v3)))) 1) 10 = i0 := by
    show (i0 + 10 * (i1 + 10 * (i2 + 10 * (v3)))) / 1 % 10 = _
    omega
  have e1 : Nat.mod (Nat.div (i0 + 10 * (i1 + 10 * (i2 + 10 * (v3)))) 10) 10 = i1 := by
    show (i0 + 10 * (i1 + 10 * (i2 + 10 * (v3)))) / 10 % 10 = _
    omega
  have e2 : Nat.mod (Nat.div (i0 + 10 * (i1 + 10 * (i2 + 10 * (v3)))) 100) 10 = i2 := by
    show (i0 + 10 * (i1 + 10 * (i2 + 10 * (v3)))) / 100 % 10 = _
    omega
  have e3 : Nat.mod (Nat.div (i0 + 10 * (i1 + 10 * (i2 + 10 * (v3)))) 1000) 3 = v3 := by
    show (i0 + 10 * (i1 + 10 * (i2 + 10 * (v3)))) / 1000 % 3 = _
    omega
  have ha : A (i0 + 10 * (i1 + 10 * (i2 + 10 * (v3)))) = [.r .u8 10 i0 255, .r .u8 10 i1 255, .r .u8 10 i2 255, .b i3, (unB i3 i4)] := by
    unfold A
    rw [e0, e1, e2, e3, bv3, uv3]
  rw [ha] at h
  exact h
/-- a world in which the listed variables hold what their texts lay -/
noncomputable def laidW (os : Os) : World := World.laidAll Tryz.prog os Rows.snapRangesRow.laid
theorem laid_met (os : Os) : laidMet Tryz.prog Rows.snapRangesRow.laid ((laidW os).forCall (fun _ _ => 0) ⟨#[], #[.int .u8 0, .int .u8 0, .int .u8 0, .bool false, .bool false], []⟩).memory :=
  laidMet_laidAll _ (by kernel_rfl) (by kernel_rfl)
theorem reads (os : Os) {H : Type} (enc : TypeId × Value → H) : ∃ places, DataW.whole enc Tryz.prog ((laidW os).forCall (fun _ _ => 0) ⟨#[], #[.int .u8 0, .int .u8 0, .int .u8 0, .bool false, .bool false], []⟩).memory Tryz.f4.params.toList Rows.snapRangesSpec.vars false #[Value.int .u8 0, Value.int .u8 0, Value.int .u8 0, Value.bool false, Value.bool false].toList 8 = some ([.lit (.int .u8 0), .lit (.int .u8 0), .lit (.int .u8 0), .lit (.bool false), .lit (.bool false)], [], places) :=
  ⟨[], by kernel_rfl⟩
set_option maxRecDepth 100000 in
theorem lifted (os : Os) (started : os.Started) (H : Type) (enc : TypeId × Value → H) (F : Stop.Interp) :
    ReturnsInHanded {} Tryz.checked os 4 .any ((OpenSpec.ofChange Rows.snapRangesSpec).preRow enc Tryz.prog Tryz.f4 Rows.snapRangesRow.domain false Rows.snapRangesRow.laid) (((OpenSpec.ofChange Rows.snapRangesSpec).at F).post enc Tryz.prog Tryz.f4 false true false false) := by
  obtain ⟨places, hx⟩ := reads os enc
  refine returnsInHanded_of_row (C := Tryz.checked) (s := OpenSpec.ofChange Rows.snapRangesSpec) own started (by kernel_rfl) Tryz.func4
    (witness_row_at (enc := enc) (C := Tryz.checked) false (laidW os) #[.int .u8 0, .int .u8 0, .int .u8 0, .bool false, .bool false] rfl (by kernel_rfl) (by kernel_rfl) (by kernel_rfl)
      (OpenSpec.preRow_of_cond 8 hx (by kernel_rfl) (fun k hk => by cases hk) (by kernel_rfl) (laid_met os))) ?_
  intro W base args ds gs before hval hW _ _ _ hL _ _
  exact contractOf hr H enc W base args ds gs before hval hW
theorem said : Rows.SnapRangesSaid :=
  OpenClaim.holds_of_cond 4 Tryz.f4 rfl rfl rfl rfl rfl rfl rfl ⟨rfl, rfl, rfl, rfl, rfl⟩ rfl rfl rfl rfl rfl fnd Tryz.func4 facts
    inst wrap
    (fun os started H enc _ F => by rw [OpenClaim.pre_eq_preRow]; exact lifted os started H enc F)
/-- no parameter wants a stand-in; the program's own looks are off -/
theorem plain (f : FuncId) (fn : Func) (hf : Tryz.pinned.checked.prog.funcNamed "ravelin/ravelinlaw16.SnapRanges" = some f) (hfn : Tryz.pinned.checked.prog.funcs[f]? = some fn) :
    true = Tryz.pinned.checked.prog.looks [] ∧ ∀ (j : Nat) t, fn.params[j]? = some t → Tryz.pinned.checked.prog.wantsStandIn t = false := by
  obtain rfl : f = 4 := Option.some.inj ((show Tryz.prog.funcNamed "ravelin/ravelinlaw16.SnapRanges" = some 4 by kernel_rfl).symm.trans hf) |>.symm
  obtain rfl : fn = Tryz.f4 := (Option.some.inj (Tryz.func4.symm.trans hfn)).symm
  refine ⟨by kernel_rfl, fun j t ht => ?_⟩
  rw [Tryz.params4] at ht
  have h2 : t = 5 ∨ t = 4 := by have h3 := Array.mem_of_getElem? ht; first | (simpa using h3) | (simp at h3; omega)
  rcases h2 with rfl | rfl
  · exact (show Tryz.prog.wantsStandIn 5 = false by kernel_rfl)
  · exact (show Tryz.prog.wantsStandIn 4 = false by kernel_rfl)
/-- the card -/
theorem proved : Rows.SnapRangesCardSaid :=
  Claim7.holds_tied_plain_at .later [] _ _ _ _ said (fun _ h => by cases h) (by kernel_rfl) (fun _ h => by cases h) snapRanges_row_tie rfl ⟨rfl, rfl⟩ (by kernel_rfl) rfl plain (by kernel_rfl)
end Go.Proofs.YtiokhkainaodnaaGreatDoor.snapRanges
