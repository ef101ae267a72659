/-
  DERIVED. GIVEN WITH THE SEED: THE CARDS: each row of YtkppliljlcihmaaGreatDoorRows.lean that lists a variable, with what it lists TIED to the program's text (the seventh form; the later family's looks); each row that meets fmt, with fmt's text TOLD by the authors' own Lean function (tested against real Go, not proved from fmt's source: count such statements apart). THE CARD IS WHAT COUNTS. Prove the row's statement (the work); the ties are given (YtkppliljlcihmaaGreatDoorTie.lean); close each card by the builder's one call (the guide's Derived/Test/ToyasCard.lean, 'card_holds'). Laid BY PROGRAM, IN A SANDBOX (cutbox-door.mjs). By AI agents, Wed Nov 11 2026. No macro, syntax, notation, axiom, sorry.
-/
import Derived.Test.YtkppliljlcihmaaGreatDoorRows
import GoSem.ClaimSeven
namespace Go.Proofs.YtkppliljlcihmaaGreatDoor
namespace Rows

/-- THE TIED CARD OF 'hassocklaw08.SeglogPlays'. -/
def seglogPlaysCard : Claim7 := { stood := { row := seglogPlaysRow, standIns := [], harness := (true, "7b56590f2c67fe6e0cd1b57a906558b2a20ad0881b5ab4a6ef46fd28c3801e43"), looks := true }, kinds := [], alts := [], laidByText := true, laidKinds := [.data, .data, .data], laidTests := true, laidLooks := .later }
def SeglogPlaysCardSaid : Prop := Claim7.holds Tryz.pinned (.plain (OpenSpec.ofChange seglogPlaysSpec)) seglogPlaysCard

/-- THE TIED CARD OF 'hassocklaw08.SeglogRotates'. -/
def seglogRotatesCard : Claim7 := { stood := { row := seglogRotatesRow, standIns := [], harness := (true, "7b56590f2c67fe6e0cd1b57a906558b2a20ad0881b5ab4a6ef46fd28c3801e43"), looks := true }, kinds := [], alts := [], laidByText := true, laidKinds := [.data, .data, .data], laidTests := true, laidLooks := .later }
def SeglogRotatesCardSaid : Prop := Claim7.holds Tryz.pinned (.plain (OpenSpec.ofChange seglogRotatesSpec)) seglogRotatesCard

/-- THE SECOND FORM's CARD OF 'hassocklaw08.SeglogPlays'. -/
def seglogPlaysUptoCard : Claim7 := { stood := { row := seglogPlaysUptoRow, standIns := [], harness := (true, "7b56590f2c67fe6e0cd1b57a906558b2a20ad0881b5ab4a6ef46fd28c3801e43"), looks := true }, kinds := [], alts := [], laidByText := true, laidKinds := [.data, .data, .data], laidTests := true, laidLooks := .later }
def SeglogPlaysUptoCardSaid : Prop := Claim7.holds Tryz.pinned (.plain (OpenSpec.upto seglogPlaysSpec)) seglogPlaysUptoCard

/-- THE SECOND FORM's CARD OF 'hassocklaw08.SeglogRotates'. -/
def seglogRotatesUptoCard : Claim7 := { stood := { row := seglogRotatesUptoRow, standIns := [], harness := (true, "7b56590f2c67fe6e0cd1b57a906558b2a20ad0881b5ab4a6ef46fd28c3801e43"), looks := true }, kinds := [], alts := [], laidByText := true, laidKinds := [.data, .data, .data], laidTests := true, laidLooks := .later }
def SeglogRotatesUptoCardSaid : Prop := Claim7.holds Tryz.pinned (.plain (OpenSpec.upto seglogRotatesSpec)) seglogRotatesUptoCard
end Rows
end Go.Proofs.YtkppliljlcihmaaGreatDoor
