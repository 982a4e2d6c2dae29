/-
  DERIVED. GIVEN WITH THE SEED: THE CARDS: each row of YtiokhkainaodnaaGreatDoorRows.lean that lists a variable, with what it lists TIED to the program's text (the seventh form; the later family's looks); each row that meets fmt, with fmt's text TOLD by the authors' own Lean function (tested against real Go, not proved from fmt's source: count such statements apart). THE CARD IS WHAT COUNTS. Prove the row's statement (the work); the ties are given (YtiokhkainaodnaaGreatDoorTie.lean); close each card by the builder's one call (the guide's Derived/Test/ToyasCard.lean, 'card_holds'). Laid BY PROGRAM, IN A SANDBOX (cutbox-door.mjs). By AI agents, Wed Nov 11 2026. No macro, syntax, notation, axiom, sorry.
-/
import Derived.Test.YtiokhkainaodnaaGreatDoorRows
import GoSem.ClaimSeven
namespace Go.Proofs.YtiokhkainaodnaaGreatDoor
namespace Rows

/-- THE TIED CARD OF 'ravelinlaw15.EngineHolds'. -/
def engineHoldsCard : Claim7 := { stood := { row := engineHoldsRow, standIns := [], harness := (true, "eed23693f42b73588f308f62f446bbaaa20ce6b0e2229f78f5ffaf34f64b4ba6"), looks := true }, kinds := [], alts := [], laidByText := true, laidKinds := [.data, .data, .data, .sentinel, .sentinel], laidTests := true, laidLooks := .later }
def EngineHoldsCardSaid : Prop := Claim7.holds Tryz.pinned (.plain (OpenSpec.ofChange engineHoldsSpec)) engineHoldsCard

/-- THE TIED CARD OF 'ravelinlaw16.SnapRanges'. -/
def snapRangesCard : Claim7 := { stood := { row := snapRangesRow, standIns := [], harness := (true, "eed23693f42b73588f308f62f446bbaaa20ce6b0e2229f78f5ffaf34f64b4ba6"), looks := true }, kinds := [], alts := [], laidByText := true, laidKinds := [.data, .data, .data, .sentinel, .sentinel], laidTests := true, laidLooks := .later }
def SnapRangesCardSaid : Prop := Claim7.holds Tryz.pinned (.plain (OpenSpec.ofChange snapRangesSpec)) snapRangesCard

/-- THE TIED CARD OF 'ravelinlaw17.DealPlays'. -/
def dealPlaysCard : Claim7 := { stood := { row := dealPlaysRow, standIns := [], harness := (true, "eed23693f42b73588f308f62f446bbaaa20ce6b0e2229f78f5ffaf34f64b4ba6"), looks := true }, kinds := [], alts := [], laidByText := true, laidKinds := [.data, .data, .data, .sentinel, .sentinel], laidTests := true, laidLooks := .later }
def DealPlaysCardSaid : Prop := Claim7.holds Tryz.pinned (.plain (OpenSpec.ofChange dealPlaysSpec)) dealPlaysCard

/-- THE TIED CARD OF 'ravelinlaw17.DealSerial'. -/
def dealSerialCard : Claim7 := { stood := { row := dealSerialRow, standIns := [], harness := (true, "eed23693f42b73588f308f62f446bbaaa20ce6b0e2229f78f5ffaf34f64b4ba6"), looks := true }, kinds := [], alts := [], laidByText := true, laidKinds := [.data, .data, .data, .sentinel, .sentinel], laidTests := true, laidLooks := .later }
def DealSerialCardSaid : Prop := Claim7.holds Tryz.pinned (.plain (OpenSpec.ofChange dealSerialSpec)) dealSerialCard

/-- THE TIED CARD OF 'ravelinlaw17.DealLimits'. -/
def dealLimitsCard : Claim7 := { stood := { row := dealLimitsRow, standIns := [], harness := (true, "eed23693f42b73588f308f62f446bbaaa20ce6b0e2229f78f5ffaf34f64b4ba6"), looks := true }, kinds := [], alts := [], laidByText := true, laidKinds := [.data, .data, .data, .sentinel, .sentinel], laidTests := true, laidLooks := .later }
def DealLimitsCardSaid : Prop := Claim7.holds Tryz.pinned (.plain (OpenSpec.ofChange dealLimitsSpec)) dealLimitsCard

/-- THE TIED CARD OF 'ravelinlaw17.DealPhantoms'. -/
def dealPhantomsCard : Claim7 := { stood := { row := dealPhantomsRow, standIns := [], harness := (true, "eed23693f42b73588f308f62f446bbaaa20ce6b0e2229f78f5ffaf34f64b4ba6"), looks := true }, kinds := [], alts := [], laidByText := true, laidKinds := [.data, .data, .data, .sentinel, .sentinel], laidTests := true, laidLooks := .later }
def DealPhantomsCardSaid : Prop := Claim7.holds Tryz.pinned (.plain (OpenSpec.ofChange dealPhantomsSpec)) dealPhantomsCard

/-- THE TIED CARD OF 'ravelinlaw17.DealOwn'. -/
def dealOwnCard : Claim7 := { stood := { row := dealOwnRow, standIns := [], harness := (true, "eed23693f42b73588f308f62f446bbaaa20ce6b0e2229f78f5ffaf34f64b4ba6"), looks := true }, kinds := [], alts := [], laidByText := true, laidKinds := [.data, .data, .data, .sentinel, .sentinel], laidTests := true, laidLooks := .later }
def DealOwnCardSaid : Prop := Claim7.holds Tryz.pinned (.plain (OpenSpec.ofChange dealOwnSpec)) dealOwnCard

/-- THE SECOND FORM's CARD OF 'ravelinlaw15.EngineHolds'. -/
def engineHoldsUptoCard : Claim7 := { stood := { row := engineHoldsUptoRow, standIns := [], harness := (true, "eed23693f42b73588f308f62f446bbaaa20ce6b0e2229f78f5ffaf34f64b4ba6"), looks := true }, kinds := [], alts := [], laidByText := true, laidKinds := [.data, .data, .data, .sentinel, .sentinel], laidTests := true, laidLooks := .later }
def EngineHoldsUptoCardSaid : Prop := Claim7.holds Tryz.pinned (.plain (OpenSpec.upto engineHoldsSpec)) engineHoldsUptoCard

/-- THE SECOND FORM's CARD OF 'ravelinlaw16.SnapRanges'. -/
def snapRangesUptoCard : Claim7 := { stood := { row := snapRangesUptoRow, standIns := [], harness := (true, "eed23693f42b73588f308f62f446bbaaa20ce6b0e2229f78f5ffaf34f64b4ba6"), looks := true }, kinds := [], alts := [], laidByText := true, laidKinds := [.data, .data, .data, .sentinel, .sentinel], laidTests := true, laidLooks := .later }
def SnapRangesUptoCardSaid : Prop := Claim7.holds Tryz.pinned (.plain (OpenSpec.upto snapRangesSpec)) snapRangesUptoCard

/-- THE SECOND FORM's CARD OF 'ravelinlaw17.DealPlays'. -/
def dealPlaysUptoCard : Claim7 := { stood := { row := dealPlaysUptoRow, standIns := [], harness := (true, "eed23693f42b73588f308f62f446bbaaa20ce6b0e2229f78f5ffaf34f64b4ba6"), looks := true }, kinds := [], alts := [], laidByText := true, laidKinds := [.data, .data, .data, .sentinel, .sentinel], laidTests := true, laidLooks := .later }
def DealPlaysUptoCardSaid : Prop := Claim7.holds Tryz.pinned (.plain (OpenSpec.upto dealPlaysSpec)) dealPlaysUptoCard

/-- THE SECOND FORM's CARD OF 'ravelinlaw17.DealSerial'. -/
def dealSerialUptoCard : Claim7 := { stood := { row := dealSerialUptoRow, standIns := [], harness := (true, "eed23693f42b73588f308f62f446bbaaa20ce6b0e2229f78f5ffaf34f64b4ba6"), looks := true }, kinds := [], alts := [], laidByText := true, laidKinds := [.data, .data, .data, .sentinel, .sentinel], laidTests := true, laidLooks := .later }
def DealSerialUptoCardSaid : Prop := Claim7.holds Tryz.pinned (.plain (OpenSpec.upto dealSerialSpec)) dealSerialUptoCard

/-- THE SECOND FORM's CARD OF 'ravelinlaw17.DealLimits'. -/
def dealLimitsUptoCard : Claim7 := { stood := { row := dealLimitsUptoRow, standIns := [], harness := (true, "eed23693f42b73588f308f62f446bbaaa20ce6b0e2229f78f5ffaf34f64b4ba6"), looks := true }, kinds := [], alts := [], laidByText := true, laidKinds := [.data, .data, .data, .sentinel, .sentinel], laidTests := true, laidLooks := .later }
def DealLimitsUptoCardSaid : Prop := Claim7.holds Tryz.pinned (.plain (OpenSpec.upto dealLimitsSpec)) dealLimitsUptoCard

/-- THE SECOND FORM's CARD OF 'ravelinlaw17.DealPhantoms'. -/
def dealPhantomsUptoCard : Claim7 := { stood := { row := dealPhantomsUptoRow, standIns := [], harness := (true, "eed23693f42b73588f308f62f446bbaaa20ce6b0e2229f78f5ffaf34f64b4ba6"), looks := true }, kinds := [], alts := [], laidByText := true, laidKinds := [.data, .data, .data, .sentinel, .sentinel], laidTests := true, laidLooks := .later }
def DealPhantomsUptoCardSaid : Prop := Claim7.holds Tryz.pinned (.plain (OpenSpec.upto dealPhantomsSpec)) dealPhantomsUptoCard

/-- THE SECOND FORM's CARD OF 'ravelinlaw17.DealOwn'. -/
def dealOwnUptoCard : Claim7 := { stood := { row := dealOwnUptoRow, standIns := [], harness := (true, "eed23693f42b73588f308f62f446bbaaa20ce6b0e2229f78f5ffaf34f64b4ba6"), looks := true }, kinds := [], alts := [], laidByText := true, laidKinds := [.data, .data, .data, .sentinel, .sentinel], laidTests := true, laidLooks := .later }
def DealOwnUptoCardSaid : Prop := Claim7.holds Tryz.pinned (.plain (OpenSpec.upto dealOwnSpec)) dealOwnUptoCard
end Rows
end Go.Proofs.YtiokhkainaodnaaGreatDoor
