/- The law DealPhantoms returns true at every input, and leaves its arguments as they were: by 2000 runs of a verified evaluator. No condition. -/
import Derived.Test.YtiokhkainaodnaaGreatDoorCards
import Derived.Test.YtiokhkainaodnaaGreatDoorTie
import Derived.Lay
import Derived.Test.YtiokhkainaodnaaGreatDoorEnRDealPhantoms0
import Derived.Test.YtiokhkainaodnaaGreatDoorEnRDealPhantoms1
import Derived.Test.YtiokhkainaodnaaGreatDoorEnRDealPhantoms2
import Derived.Test.YtiokhkainaodnaaGreatDoorEnRDealPhantoms3
import Derived.Test.YtiokhkainaodnaaGreatDoorEnRDealPhantoms4
import Derived.Test.YtiokhkainaodnaaGreatDoorEnRDealPhantoms5
import Derived.Test.YtiokhkainaodnaaGreatDoorEnRDealPhantoms6
import Derived.Test.YtiokhkainaodnaaGreatDoorEnRDealPhantoms7
import Derived.Test.YtiokhkainaodnaaGreatDoorEnRDealPhantoms8
import Derived.Test.YtiokhkainaodnaaGreatDoorEnRDealPhantoms9
import Derived.Test.YtiokhkainaodnaaGreatDoorEnRDealPhantoms10
import Derived.Test.YtiokhkainaodnaaGreatDoorEnRDealPhantoms11
import Derived.Test.YtiokhkainaodnaaGreatDoorEnRDealPhantoms12
import Derived.Test.YtiokhkainaodnaaGreatDoorEnRDealPhantoms13
import Derived.Test.YtiokhkainaodnaaGreatDoorEnRDealPhantoms14
import Derived.Test.YtiokhkainaodnaaGreatDoorEnRDealPhantoms15
import Derived.Test.YtiokhkainaodnaaGreatDoorEnRDealPhantoms16
import Derived.Test.YtiokhkainaodnaaGreatDoorEnRDealPhantoms17
import Derived.Test.YtiokhkainaodnaaGreatDoorEnRDealPhantoms18
import Derived.Test.YtiokhkainaodnaaGreatDoorEnRDealPhantoms19
import Derived.Test.YtiokhkainaodnaaGreatDoorEnFDealPhantoms
namespace Go.Proofs.YtiokhkainaodnaaGreatDoor.dealPhantoms
open Go Go.Ev Go.ChangeShapes Go.WideShapes Go.ChangeAt Go.RowKit
theorem own : ownKnob Tryz.prog.godebug = none := by kernel_rfl
theorem key : ∀ c, c < 100 → ∀ k, k < 20 → RR (A (20 * c + k)) = true := fun c hc => match c, hc with
|0,_=>G run0
|1,_=>G run1
|2,_=>G run2
|3,_=>G run3
|4,_=>G run4
|5,_=>G run5
|6,_=>G run6
|7,_=>G run7
|8,_=>G run8
|9,_=>G run9
|10,_=>G run10
|11,_=>G run11
|12,_=>G run12
|13,_=>G run13
|14,_=>G run14
|15,_=>G run15
|16,_=>G run16
|17,_=>G run17
|18,_=>G run18
|19,_=>G run19
|20,_=>G run20
|21,_=>G run21
|22,_=>G run22
|23,_=>G run23
|24,_=>G run24
|25,_=>G run25
|26,_=>G run26
|27,_=>G run27
|28,_=>G run28
|29,_=>G run29
|30,_=>G run30
|31,_=>G run31
|32,_=>G run32
|33,_=>G run33
|34,_=>G run34
|35,_=>G run35
|36,_=>G run36
|37,_=>G run37
|38,_=>G run38
|39,_=>G run39
|40,_=>G run40
|41,_=>G run41
|42,_=>G run42
|43,_=>G run43
|44,_=>G run44
|45,_=>G run45
|46,_=>G run46
|47,_=>G run47
|48,_=>G run48
|49,_=>G run49
|50,_=>G run50
|51,_=>G run51
|52,_=>G run52
|53,_=>G run53
|54,_=>G run54
|55,_=>G run55
|56,_=>G run56
|57,_=>G run57
|58,_=>G run58
|59,_=>G run59
|60,_=>G run60
|61,_=>G run61
|62,_=>G run62
|63,_=>G run63
|64,_=>G run64
|65,_=>G run65
|66,_=>G run66
|67,_=>G run67
|68,_=>G run68
|69,_=>G run69
|70,_=>G run70
|71,_=>G run71
|72,_=>G run72
|73,_=>G run73
|74,_=>G run74
|75,_=>G run75
|76,_=>G run76
|77,_=>G run77
|78,_=>G run78
|79,_=>G run79
|80,_=>G run80
|81,_=>G run81
|82,_=>G run82
|83,_=>G run83
|84,_=>G run84
|85,_=>G run85
|86,_=>G run86
|87,_=>G run87
|88,_=>G run88
|89,_=>G run89
|90,_=>G run90
|91,_=>G run91
|92,_=>G run92
|93,_=>G run93
|94,_=>G run94
|95,_=>G run95
|96,_=>G run96
|97,_=>G run97
|98,_=>G run98
|99,_=>G run99
|m+100,h=>absurd h (by omega)
theorem all (n : Nat) (h : n < 2000) : RR (A n) = true := by
  have := key (n / 20) (by omega) (n % 20) (by omega)
  rwa [show 20 * (n / 20) + n % 20 = n by omega] at this
theorem hr (i0 i1 i2 : Nat) (i3 : Bool) (_ : i0 < 10) (_ : i1 < 10) (_ : i2 < 10) : RR [.r .u8 10 i0 255, .r .u8 10 i1 255, .r .u8 10 i2 255, .b i3] = true := by
 obtain ⟨w, _, b⟩ : ∃ v, v < 2 ∧ Nat.beq v 1 = i3 := by
  cases i3
  exact ⟨0, by omega, rfl⟩
  exact ⟨1, by omega, rfl⟩
 obtain ⟨n, hn⟩ : ∃ n, n = i0 + 10 * (i1 + 10 * (i2 + 10 * w)) := ⟨_, rfl⟩
 have h := all n (by omega)
 have a : Nat.mod (Nat.div n 1) 10 = i0 := by show n / 1 % 10 = _; omega
 have c : Nat.mod (Nat.div n 10) 10 = i1 := by show n / 10 % 10 = _; omega
 have d : Nat.mod (Nat.div n 100) 10 = i2 := by show n / 100 % 10 = _; omega
 have e : Nat.mod (Nat.div n 1000) 2 = w := by show n / 1000 % 2 = _; omega
 have f : A n = [.r .u8 10 i0 255, .r .u8 10 i1 255, .r .u8 10 i2 255, .b i3] := by
  unfold A
  rw [a, c, d, e, b]
 rw [f] at h
 exact h
noncomputable def lw (os : Os) : World := World.laidAll Tryz.prog os Rows.dealPhantomsRow.laid
theorem lm (os : Os) : laidMet Tryz.prog Rows.dealPhantomsRow.laid ((lw os).forCall (fun _ _ => 0) ⟨#[], #[.int .u8 0, .int .u8 0, .int .u8 0, .bool false], []⟩).memory :=
  laidMet_laidAll _ (by kernel_rfl) (by kernel_rfl)
theorem rd (os : Os) {H : Type} (enc : TypeId × Value → H) : ∃ z, DataW.whole enc Tryz.prog ((lw os).forCall (fun _ _ => 0) ⟨#[], #[.int .u8 0, .int .u8 0, .int .u8 0, .bool false], []⟩).memory Tryz.f8.params.toList Rows.dealPhantomsSpec.vars false #[Value.int .u8 0, Value.int .u8 0, Value.int .u8 0, Value.bool false].toList 8 = some ([.lit (.int .u8 0), .lit (.int .u8 0), .lit (.int .u8 0), .lit (.bool false)], [], z) :=
  ⟨[], by kernel_rfl⟩
set_option maxRecDepth 100000 in
theorem lf (os : Os) (started : os.Started) (H : Type) (enc : TypeId × Value → H) (F : Stop.Interp) :
  ReturnsInHanded {} Tryz.checked os 8 .any ((OpenSpec.ofChange Rows.dealPhantomsSpec).preRow enc Tryz.prog Tryz.f8 Rows.dealPhantomsRow.domain false Rows.dealPhantomsRow.laid) (((OpenSpec.ofChange Rows.dealPhantomsSpec).at F).post enc Tryz.prog Tryz.f8 false true false false) := by
  obtain ⟨z, hx⟩ := rd os enc
  refine returnsInHanded_of_row (C := Tryz.checked) (s := OpenSpec.ofChange Rows.dealPhantomsSpec) own started (by kernel_rfl) Tryz.func8
   (witness_row_at (enc := enc) (C := Tryz.checked) false (lw os) #[.int .u8 0, .int .u8 0, .int .u8 0, .bool false] rfl (by kernel_rfl) (by kernel_rfl) (by kernel_rfl)
    (OpenSpec.preRow_of_cond 8 hx (by kernel_rfl) (fun k hk => by cases hk) (by kernel_rfl) (lm os))) ?_
  intro W base args ds gs before hval hW _ _ _ hL _ _
  exact contractOf hr H enc W base args ds gs before hval hW
theorem said : Rows.DealPhantomsSaid :=
  OpenClaim.holds_of_cond 8 Tryz.f8 rfl rfl rfl rfl rfl rfl rfl ⟨rfl, rfl, rfl, rfl, rfl⟩ rfl rfl rfl rfl rfl fnd Tryz.func8 facts
  inst wrap
  (fun os started H enc _ F => by rw [OpenClaim.pre_eq_preRow]; exact lf os started H enc F)
theorem plain (f : FuncId) (fn : Func) (hf : Tryz.pinned.checked.prog.funcNamed "ravelin/ravelinlaw17.DealPhantoms" = some f) (hfn : Tryz.pinned.checked.prog.funcs[f]? = some fn) :
  true = Tryz.pinned.checked.prog.looks [] ∧ ∀ (j : Nat) t, fn.params[j]? = some t → Tryz.pinned.checked.prog.wantsStandIn t = false := by
  obtain rfl : f = 8 := Option.some.inj ((show Tryz.prog.funcNamed "ravelin/ravelinlaw17.DealPhantoms" = some 8 by kernel_rfl).symm.trans hf) |>.symm
  obtain rfl : fn = Tryz.f8 := (Option.some.inj (Tryz.func8.symm.trans hfn)).symm
  refine ⟨by kernel_rfl, fun j t ht => ?_⟩
  rw [Tryz.params8] at ht
  have h2 : t = 5 ∨ t = 4 := by have h3 := Array.mem_of_getElem? ht; first | (simpa using h3) | (simp at h3; omega)
  rcases h2 with rfl | rfl
  · exact (show Tryz.prog.wantsStandIn 5 = false by kernel_rfl)
  · exact (show Tryz.prog.wantsStandIn 4 = false by kernel_rfl)
theorem proved : Rows.DealPhantomsCardSaid :=
  Claim7.holds_tied_plain_at .later [] _ _ _ _ said (fun _ h => by cases h) (by kernel_rfl) (fun _ h => by cases h) dealPhantoms_row_tie rfl ⟨rfl, rfl⟩ (by kernel_rfl) rfl plain (by kernel_rfl)
end Go.Proofs.YtiokhkainaodnaaGreatDoor.dealPhantoms
