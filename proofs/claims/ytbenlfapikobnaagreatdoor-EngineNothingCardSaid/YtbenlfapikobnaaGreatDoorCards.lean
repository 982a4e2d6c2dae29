/-
  DERIVED. GIVEN WITH THE SEED: THE CARDS: each row of YtbenlfapikobnaaGreatDoorRows.lean that lists a variable, with what it lists TIED to the program's text (the seventh form; the later family's looks); each row that meets fmt, with fmt's text TOLD by the authors' own Lean function (tested against real Go, not proved from fmt's source: count such statements apart). THE CARD IS WHAT COUNTS. Prove the row's statement (the work); the ties are given (YtbenlfapikobnaaGreatDoorTie.lean); close each card by the builder's one call (the guide's Derived/Test/ToyasCard.lean, 'card_holds'). Laid BY PROGRAM, IN A SANDBOX (cutbox-door.mjs). By AI agents, Wed Nov 11 2026. No macro, syntax, notation, axiom, sorry.
-/
import Derived.Test.YtbenlfapikobnaaGreatDoorRows
import GoSem.ClaimSeven
namespace Go.Proofs.YtbenlfapikobnaaGreatDoor
namespace Rows

/-- THE TIED CARD OF 'ravelinlaw15.EnginePlays'. -/
def enginePlaysCard : Claim7 := { stood := { row := enginePlaysRow, standIns := [], harness := (true, "c1fe202a8f21523603da828ed087027009dd1b41a7c4e20578e1a90e77c3567e"), looks := true }, kinds := [], alts := [], laidByText := true, laidKinds := [.data, .data, .data, .sentinel, .sentinel], laidTests := true, laidLooks := .later }
def EnginePlaysCardSaid : Prop := Claim7.holds Tryz.pinned (.plain (OpenSpec.ofChange enginePlaysSpec)) enginePlaysCard

/-- THE TIED CARD OF 'ravelinlaw15.EngineCrashes'. -/
def engineCrashesCard : Claim7 := { stood := { row := engineCrashesRow, standIns := [], harness := (true, "c1fe202a8f21523603da828ed087027009dd1b41a7c4e20578e1a90e77c3567e"), looks := true }, kinds := [], alts := [], laidByText := true, laidKinds := [.data, .data, .data, .sentinel, .sentinel], laidTests := true, laidLooks := .later }
def EngineCrashesCardSaid : Prop := Claim7.holds Tryz.pinned (.plain (OpenSpec.ofChange engineCrashesSpec)) engineCrashesCard

/-- THE TIED CARD OF 'ravelinlaw15.EngineFull'. -/
def engineFullCard : Claim7 := { stood := { row := engineFullRow, standIns := [], harness := (true, "c1fe202a8f21523603da828ed087027009dd1b41a7c4e20578e1a90e77c3567e"), looks := true }, kinds := [], alts := [], laidByText := true, laidKinds := [.data, .data, .data, .sentinel, .sentinel], laidTests := true, laidLooks := .later }
def EngineFullCardSaid : Prop := Claim7.holds Tryz.pinned (.plain (OpenSpec.ofChange engineFullSpec)) engineFullCard

/-- THE TIED CARD OF 'ravelinlaw15.EngineMany'. -/
def engineManyCard : Claim7 := { stood := { row := engineManyRow, standIns := [], harness := (true, "c1fe202a8f21523603da828ed087027009dd1b41a7c4e20578e1a90e77c3567e"), looks := true }, kinds := [], alts := [], laidByText := true, laidKinds := [.data, .data, .data, .sentinel, .sentinel], laidTests := true, laidLooks := .later }
def EngineManyCardSaid : Prop := Claim7.holds Tryz.pinned (.plain (OpenSpec.ofChange engineManySpec)) engineManyCard

/-- THE TIED CARD OF 'ravelinlaw15.EngineHolds'. -/
def engineHoldsCard : Claim7 := { stood := { row := engineHoldsRow, standIns := [], harness := (true, "c1fe202a8f21523603da828ed087027009dd1b41a7c4e20578e1a90e77c3567e"), looks := true }, kinds := [], alts := [], laidByText := true, laidKinds := [.data, .data, .data, .sentinel, .sentinel], laidTests := true, laidLooks := .later }
def EngineHoldsCardSaid : Prop := Claim7.holds Tryz.pinned (.plain (OpenSpec.ofChange engineHoldsSpec)) engineHoldsCard

/-- THE TIED CARD OF 'ravelinlaw15.EngineAgain'. -/
def engineAgainCard : Claim7 := { stood := { row := engineAgainRow, standIns := [], harness := (true, "c1fe202a8f21523603da828ed087027009dd1b41a7c4e20578e1a90e77c3567e"), looks := true }, kinds := [], alts := [], laidByText := true, laidKinds := [.data, .data, .data, .sentinel, .sentinel], laidTests := true, laidLooks := .later }
def EngineAgainCardSaid : Prop := Claim7.holds Tryz.pinned (.plain (OpenSpec.ofChange engineAgainSpec)) engineAgainCard

/-- THE TIED CARD OF 'ravelinlaw15.EngineNothing'. -/
def engineNothingCard : Claim7 := { stood := { row := engineNothingRow, standIns := [], harness := (true, "c1fe202a8f21523603da828ed087027009dd1b41a7c4e20578e1a90e77c3567e"), looks := true }, kinds := [], alts := [], laidByText := true, laidKinds := [.data, .data, .data, .sentinel, .sentinel], laidTests := true, laidLooks := .later }
def EngineNothingCardSaid : Prop := Claim7.holds Tryz.pinned (.plain (OpenSpec.ofChange engineNothingSpec)) engineNothingCard

/-- THE TIED CARD OF 'ravelinlaw15.EngineTail'. -/
def engineTailCard : Claim7 := { stood := { row := engineTailRow, standIns := [], harness := (true, "c1fe202a8f21523603da828ed087027009dd1b41a7c4e20578e1a90e77c3567e"), looks := true }, kinds := [], alts := [], laidByText := true, laidKinds := [.data, .data, .data, .sentinel, .sentinel], laidTests := true, laidLooks := .later }
def EngineTailCardSaid : Prop := Claim7.holds Tryz.pinned (.plain (OpenSpec.ofChange engineTailSpec)) engineTailCard

/-- THE SECOND FORM's CARD OF 'ravelinlaw15.EnginePlays'. -/
def enginePlaysUptoCard : Claim7 := { stood := { row := enginePlaysUptoRow, standIns := [], harness := (true, "c1fe202a8f21523603da828ed087027009dd1b41a7c4e20578e1a90e77c3567e"), looks := true }, kinds := [], alts := [], laidByText := true, laidKinds := [.data, .data, .data, .sentinel, .sentinel], laidTests := true, laidLooks := .later }
def EnginePlaysUptoCardSaid : Prop := Claim7.holds Tryz.pinned (.plain (OpenSpec.upto enginePlaysSpec)) enginePlaysUptoCard

/-- THE SECOND FORM's CARD OF 'ravelinlaw15.EngineCrashes'. -/
def engineCrashesUptoCard : Claim7 := { stood := { row := engineCrashesUptoRow, standIns := [], harness := (true, "c1fe202a8f21523603da828ed087027009dd1b41a7c4e20578e1a90e77c3567e"), looks := true }, kinds := [], alts := [], laidByText := true, laidKinds := [.data, .data, .data, .sentinel, .sentinel], laidTests := true, laidLooks := .later }
def EngineCrashesUptoCardSaid : Prop := Claim7.holds Tryz.pinned (.plain (OpenSpec.upto engineCrashesSpec)) engineCrashesUptoCard

/-- THE SECOND FORM's CARD OF 'ravelinlaw15.EngineFull'. -/
def engineFullUptoCard : Claim7 := { stood := { row := engineFullUptoRow, standIns := [], harness := (true, "c1fe202a8f21523603da828ed087027009dd1b41a7c4e20578e1a90e77c3567e"), looks := true }, kinds := [], alts := [], laidByText := true, laidKinds := [.data, .data, .data, .sentinel, .sentinel], laidTests := true, laidLooks := .later }
def EngineFullUptoCardSaid : Prop := Claim7.holds Tryz.pinned (.plain (OpenSpec.upto engineFullSpec)) engineFullUptoCard

/-- THE SECOND FORM's CARD OF 'ravelinlaw15.EngineMany'. -/
def engineManyUptoCard : Claim7 := { stood := { row := engineManyUptoRow, standIns := [], harness := (true, "c1fe202a8f21523603da828ed087027009dd1b41a7c4e20578e1a90e77c3567e"), looks := true }, kinds := [], alts := [], laidByText := true, laidKinds := [.data, .data, .data, .sentinel, .sentinel], laidTests := true, laidLooks := .later }
def EngineManyUptoCardSaid : Prop := Claim7.holds Tryz.pinned (.plain (OpenSpec.upto engineManySpec)) engineManyUptoCard

/-- THE SECOND FORM's CARD OF 'ravelinlaw15.EngineHolds'. -/
def engineHoldsUptoCard : Claim7 := { stood := { row := engineHoldsUptoRow, standIns := [], harness := (true, "c1fe202a8f21523603da828ed087027009dd1b41a7c4e20578e1a90e77c3567e"), looks := true }, kinds := [], alts := [], laidByText := true, laidKinds := [.data, .data, .data, .sentinel, .sentinel], laidTests := true, laidLooks := .later }
def EngineHoldsUptoCardSaid : Prop := Claim7.holds Tryz.pinned (.plain (OpenSpec.upto engineHoldsSpec)) engineHoldsUptoCard

/-- THE SECOND FORM's CARD OF 'ravelinlaw15.EngineAgain'. -/
def engineAgainUptoCard : Claim7 := { stood := { row := engineAgainUptoRow, standIns := [], harness := (true, "c1fe202a8f21523603da828ed087027009dd1b41a7c4e20578e1a90e77c3567e"), looks := true }, kinds := [], alts := [], laidByText := true, laidKinds := [.data, .data, .data, .sentinel, .sentinel], laidTests := true, laidLooks := .later }
def EngineAgainUptoCardSaid : Prop := Claim7.holds Tryz.pinned (.plain (OpenSpec.upto engineAgainSpec)) engineAgainUptoCard

/-- THE SECOND FORM's CARD OF 'ravelinlaw15.EngineNothing'. -/
def engineNothingUptoCard : Claim7 := { stood := { row := engineNothingUptoRow, standIns := [], harness := (true, "c1fe202a8f21523603da828ed087027009dd1b41a7c4e20578e1a90e77c3567e"), looks := true }, kinds := [], alts := [], laidByText := true, laidKinds := [.data, .data, .data, .sentinel, .sentinel], laidTests := true, laidLooks := .later }
def EngineNothingUptoCardSaid : Prop := Claim7.holds Tryz.pinned (.plain (OpenSpec.upto engineNothingSpec)) engineNothingUptoCard

/-- THE SECOND FORM's CARD OF 'ravelinlaw15.EngineTail'. -/
def engineTailUptoCard : Claim7 := { stood := { row := engineTailUptoRow, standIns := [], harness := (true, "c1fe202a8f21523603da828ed087027009dd1b41a7c4e20578e1a90e77c3567e"), looks := true }, kinds := [], alts := [], laidByText := true, laidKinds := [.data, .data, .data, .sentinel, .sentinel], laidTests := true, laidLooks := .later }
def EngineTailUptoCardSaid : Prop := Claim7.holds Tryz.pinned (.plain (OpenSpec.upto engineTailSpec)) engineTailUptoCard
end Rows
end Go.Proofs.YtbenlfapikobnaaGreatDoor
