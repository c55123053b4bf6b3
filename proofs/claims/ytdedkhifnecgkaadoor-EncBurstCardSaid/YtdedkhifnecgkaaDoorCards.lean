/-
  DERIVED. GIVEN WITH THE SEED: THE CARDS: each row of YtdedkhifnecgkaaDoorRows.lean that lists a variable, with what it lists TIED to the program's text (the seventh form; the later family's looks); each row that meets fmt, with fmt's text TOLD by the authors' own Lean function (tested against real Go, not proved from fmt's source: count such statements apart). THE CARD IS WHAT COUNTS. Prove the row's statement (the work); the ties are given (YtdedkhifnecgkaaDoorTie.lean); close each card by the builder's one call (the guide's Derived/Test/ToyasCard.lean, 'card_holds'). Laid BY PROGRAM, IN A SANDBOX (cutbox-door.mjs). By AI agents, Wed Nov 11 2026. No macro, syntax, notation, axiom, sorry.
-/
import Derived.Test.YtdedkhifnecgkaaDoorRows
import GoSem.ClaimSeven
namespace Go.Proofs.YtdedkhifnecgkaaDoor
namespace Rows

/-- THE TIED CARD OF 'almanaclaw02.EncUints'. -/
def encUintsCard : Claim7 := { stood := { row := encUintsRow, standIns := [], harness := (true, "062f127ccd5f8ecee66df632ea1045d3e580e50b522ddba7c089be4da71f389b"), looks := false }, kinds := [], alts := [], laidByText := true, laidKinds := [.data], laidTests := true, laidLooks := .later }
def EncUintsCardSaid : Prop := Claim7.holds Tryd.pinned (.plain (OpenSpec.ofChange encUintsSpec)) encUintsCard

/-- THE TIED CARD OF 'almanaclaw02.EncInts'. -/
def encIntsCard : Claim7 := { stood := { row := encIntsRow, standIns := [], harness := (true, "062f127ccd5f8ecee66df632ea1045d3e580e50b522ddba7c089be4da71f389b"), looks := false }, kinds := [], alts := [], laidByText := true, laidKinds := [.data], laidTests := true, laidLooks := .later }
def EncIntsCardSaid : Prop := Claim7.holds Tryd.pinned (.plain (OpenSpec.ofChange encIntsSpec)) encIntsCard

/-- THE TIED CARD OF 'almanaclaw02.EncTexts'. -/
def encTextsCard : Claim7 := { stood := { row := encTextsRow, standIns := [], harness := (true, "062f127ccd5f8ecee66df632ea1045d3e580e50b522ddba7c089be4da71f389b"), looks := false }, kinds := [], alts := [], laidByText := true, laidKinds := [.data], laidTests := true, laidLooks := .later }
def EncTextsCardSaid : Prop := Claim7.holds Tryd.pinned (.plain (OpenSpec.ofChange encTextsSpec)) encTextsCard

/-- THE TIED CARD OF 'almanaclaw02.EncSums'. -/
def encSumsCard : Claim7 := { stood := { row := encSumsRow, standIns := [], harness := (true, "062f127ccd5f8ecee66df632ea1045d3e580e50b522ddba7c089be4da71f389b"), looks := false }, kinds := [], alts := [], laidByText := true, laidKinds := [.data], laidTests := true, laidLooks := .later }
def EncSumsCardSaid : Prop := Claim7.holds Tryd.pinned (.plain (OpenSpec.ofChange encSumsSpec)) encSumsCard

/-- THE TIED CARD OF 'almanaclaw02.EncFrames'. -/
def encFramesCard : Claim7 := { stood := { row := encFramesRow, standIns := [], harness := (true, "062f127ccd5f8ecee66df632ea1045d3e580e50b522ddba7c089be4da71f389b"), looks := false }, kinds := [], alts := [], laidByText := true, laidKinds := [.data], laidTests := true, laidLooks := .later }
def EncFramesCardSaid : Prop := Claim7.holds Tryd.pinned (.plain (OpenSpec.ofChange encFramesSpec)) encFramesCard

/-- THE TIED CARD OF 'almanaclaw02.EncSeals'. -/
def encSealsCard : Claim7 := { stood := { row := encSealsRow, standIns := [], harness := (true, "062f127ccd5f8ecee66df632ea1045d3e580e50b522ddba7c089be4da71f389b"), looks := false }, kinds := [], alts := [], laidByText := true, laidKinds := [.data], laidTests := true, laidLooks := .later }
def EncSealsCardSaid : Prop := Claim7.holds Tryd.pinned (.plain (OpenSpec.ofChange encSealsSpec)) encSealsCard

/-- THE TIED CARD OF 'almanaclaw02.EncBack'. -/
def encBackCard : Claim7 := { stood := { row := encBackRow, standIns := [], harness := (true, "062f127ccd5f8ecee66df632ea1045d3e580e50b522ddba7c089be4da71f389b"), looks := false }, kinds := [], alts := [], laidByText := true, laidKinds := [.data], laidTests := true, laidLooks := .later }
def EncBackCardSaid : Prop := Claim7.holds Tryd.pinned (.plain (OpenSpec.ofChange encBackSpec)) encBackCard

/-- THE TIED CARD OF 'almanaclaw02.EncOne'. -/
def encOneCard : Claim7 := { stood := { row := encOneRow, standIns := [], harness := (true, "062f127ccd5f8ecee66df632ea1045d3e580e50b522ddba7c089be4da71f389b"), looks := false }, kinds := [], alts := [], laidByText := true, laidKinds := [.data], laidTests := true, laidLooks := .later }
def EncOneCardSaid : Prop := Claim7.holds Tryd.pinned (.plain (OpenSpec.ofChange encOneSpec)) encOneCard

/-- THE TIED CARD OF 'almanaclaw02.EncBurst'. -/
def encBurstCard : Claim7 := { stood := { row := encBurstRow, standIns := [], harness := (true, "062f127ccd5f8ecee66df632ea1045d3e580e50b522ddba7c089be4da71f389b"), looks := false }, kinds := [], alts := [], laidByText := true, laidKinds := [.data], laidTests := true, laidLooks := .later }
def EncBurstCardSaid : Prop := Claim7.holds Tryd.pinned (.plain (OpenSpec.ofChange encBurstSpec)) encBurstCard

/-- THE SECOND FORM's CARD OF 'almanaclaw02.EncUints'. -/
def encUintsUptoCard : Claim7 := { stood := { row := encUintsUptoRow, standIns := [], harness := (true, "062f127ccd5f8ecee66df632ea1045d3e580e50b522ddba7c089be4da71f389b"), looks := false }, kinds := [], alts := [], laidByText := true, laidKinds := [.data], laidTests := true, laidLooks := .later }
def EncUintsUptoCardSaid : Prop := Claim7.holds Tryd.pinned (.plain (OpenSpec.upto encUintsSpec)) encUintsUptoCard

/-- THE SECOND FORM's CARD OF 'almanaclaw02.EncInts'. -/
def encIntsUptoCard : Claim7 := { stood := { row := encIntsUptoRow, standIns := [], harness := (true, "062f127ccd5f8ecee66df632ea1045d3e580e50b522ddba7c089be4da71f389b"), looks := false }, kinds := [], alts := [], laidByText := true, laidKinds := [.data], laidTests := true, laidLooks := .later }
def EncIntsUptoCardSaid : Prop := Claim7.holds Tryd.pinned (.plain (OpenSpec.upto encIntsSpec)) encIntsUptoCard

/-- THE SECOND FORM's CARD OF 'almanaclaw02.EncTexts'. -/
def encTextsUptoCard : Claim7 := { stood := { row := encTextsUptoRow, standIns := [], harness := (true, "062f127ccd5f8ecee66df632ea1045d3e580e50b522ddba7c089be4da71f389b"), looks := false }, kinds := [], alts := [], laidByText := true, laidKinds := [.data], laidTests := true, laidLooks := .later }
def EncTextsUptoCardSaid : Prop := Claim7.holds Tryd.pinned (.plain (OpenSpec.upto encTextsSpec)) encTextsUptoCard

/-- THE SECOND FORM's CARD OF 'almanaclaw02.EncSums'. -/
def encSumsUptoCard : Claim7 := { stood := { row := encSumsUptoRow, standIns := [], harness := (true, "062f127ccd5f8ecee66df632ea1045d3e580e50b522ddba7c089be4da71f389b"), looks := false }, kinds := [], alts := [], laidByText := true, laidKinds := [.data], laidTests := true, laidLooks := .later }
def EncSumsUptoCardSaid : Prop := Claim7.holds Tryd.pinned (.plain (OpenSpec.upto encSumsSpec)) encSumsUptoCard

/-- THE SECOND FORM's CARD OF 'almanaclaw02.EncFrames'. -/
def encFramesUptoCard : Claim7 := { stood := { row := encFramesUptoRow, standIns := [], harness := (true, "062f127ccd5f8ecee66df632ea1045d3e580e50b522ddba7c089be4da71f389b"), looks := false }, kinds := [], alts := [], laidByText := true, laidKinds := [.data], laidTests := true, laidLooks := .later }
def EncFramesUptoCardSaid : Prop := Claim7.holds Tryd.pinned (.plain (OpenSpec.upto encFramesSpec)) encFramesUptoCard

/-- THE SECOND FORM's CARD OF 'almanaclaw02.EncSeals'. -/
def encSealsUptoCard : Claim7 := { stood := { row := encSealsUptoRow, standIns := [], harness := (true, "062f127ccd5f8ecee66df632ea1045d3e580e50b522ddba7c089be4da71f389b"), looks := false }, kinds := [], alts := [], laidByText := true, laidKinds := [.data], laidTests := true, laidLooks := .later }
def EncSealsUptoCardSaid : Prop := Claim7.holds Tryd.pinned (.plain (OpenSpec.upto encSealsSpec)) encSealsUptoCard

/-- THE SECOND FORM's CARD OF 'almanaclaw02.EncBack'. -/
def encBackUptoCard : Claim7 := { stood := { row := encBackUptoRow, standIns := [], harness := (true, "062f127ccd5f8ecee66df632ea1045d3e580e50b522ddba7c089be4da71f389b"), looks := false }, kinds := [], alts := [], laidByText := true, laidKinds := [.data], laidTests := true, laidLooks := .later }
def EncBackUptoCardSaid : Prop := Claim7.holds Tryd.pinned (.plain (OpenSpec.upto encBackSpec)) encBackUptoCard

/-- THE SECOND FORM's CARD OF 'almanaclaw02.EncOne'. -/
def encOneUptoCard : Claim7 := { stood := { row := encOneUptoRow, standIns := [], harness := (true, "062f127ccd5f8ecee66df632ea1045d3e580e50b522ddba7c089be4da71f389b"), looks := false }, kinds := [], alts := [], laidByText := true, laidKinds := [.data], laidTests := true, laidLooks := .later }
def EncOneUptoCardSaid : Prop := Claim7.holds Tryd.pinned (.plain (OpenSpec.upto encOneSpec)) encOneUptoCard

/-- THE SECOND FORM's CARD OF 'almanaclaw02.EncBurst'. -/
def encBurstUptoCard : Claim7 := { stood := { row := encBurstUptoRow, standIns := [], harness := (true, "062f127ccd5f8ecee66df632ea1045d3e580e50b522ddba7c089be4da71f389b"), looks := false }, kinds := [], alts := [], laidByText := true, laidKinds := [.data], laidTests := true, laidLooks := .later }
def EncBurstUptoCardSaid : Prop := Claim7.holds Tryd.pinned (.plain (OpenSpec.upto encBurstSpec)) encBurstUptoCard
end Rows
end Go.Proofs.YtdedkhifnecgkaaDoor
