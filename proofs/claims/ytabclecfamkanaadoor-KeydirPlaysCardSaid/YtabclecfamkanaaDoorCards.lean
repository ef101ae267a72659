/-
  DERIVED. GIVEN WITH THE SEED: THE CARDS: each row of YtabclecfamkanaaDoorRows.lean that lists a variable, with what it lists TIED to the program's text (the seventh form; the later family's looks); each row that meets fmt, with fmt's text TOLD by the authors' own Lean function (tested against real Go, not proved from fmt's source: count such statements apart). THE CARD IS WHAT COUNTS. Prove the row's statement (the work); the ties are given (YtabclecfamkanaaDoorTie.lean); close each card by the builder's one call (the guide's Derived/Test/ToyasCard.lean, 'card_holds'). Laid BY PROGRAM, IN A SANDBOX (cutbox-door.mjs). By AI agents, Wed Nov 11 2026. No macro, syntax, notation, axiom, sorry.
-/
import Derived.Test.YtabclecfamkanaaDoorRows
import GoSem.ClaimSeven
namespace Go.Proofs.YtabclecfamkanaaDoor
namespace Rows

/-- THE TIED CARD OF 'hassocklaw09.KeydirPlays'. -/
def keydirPlaysCard : Claim7 := { stood := { row := keydirPlaysRow, standIns := [], harness := (true, "d25c9378cc12e95a9b259facd0631f18af1cda7f5406b6460461d84e8e71b194"), looks := false }, kinds := [], alts := [], laidByText := true, laidKinds := [.data, .data, .data], laidTests := true, laidLooks := .later }
def KeydirPlaysCardSaid : Prop := Claim7.holds Tryd.pinned (.plain (OpenSpec.ofChange keydirPlaysSpec)) keydirPlaysCard

/-- THE TIED CARD OF 'hassocklaw09.KeydirKeeps'. -/
def keydirKeepsCard : Claim7 := { stood := { row := keydirKeepsRow, standIns := [], harness := (true, "d25c9378cc12e95a9b259facd0631f18af1cda7f5406b6460461d84e8e71b194"), looks := false }, kinds := [], alts := [], laidByText := true, laidKinds := [.data, .data, .data], laidTests := true, laidLooks := .later }
def KeydirKeepsCardSaid : Prop := Claim7.holds Tryd.pinned (.plain (OpenSpec.ofChange keydirKeepsSpec)) keydirKeepsCard

/-- THE SECOND FORM's CARD OF 'hassocklaw09.KeydirPlays'. -/
def keydirPlaysUptoCard : Claim7 := { stood := { row := keydirPlaysUptoRow, standIns := [], harness := (true, "d25c9378cc12e95a9b259facd0631f18af1cda7f5406b6460461d84e8e71b194"), looks := false }, kinds := [], alts := [], laidByText := true, laidKinds := [.data, .data, .data], laidTests := true, laidLooks := .later }
def KeydirPlaysUptoCardSaid : Prop := Claim7.holds Tryd.pinned (.plain (OpenSpec.upto keydirPlaysSpec)) keydirPlaysUptoCard

/-- THE SECOND FORM's CARD OF 'hassocklaw09.KeydirKeeps'. -/
def keydirKeepsUptoCard : Claim7 := { stood := { row := keydirKeepsUptoRow, standIns := [], harness := (true, "d25c9378cc12e95a9b259facd0631f18af1cda7f5406b6460461d84e8e71b194"), looks := false }, kinds := [], alts := [], laidByText := true, laidKinds := [.data, .data, .data], laidTests := true, laidLooks := .later }
def KeydirKeepsUptoCardSaid : Prop := Claim7.holds Tryd.pinned (.plain (OpenSpec.upto keydirKeepsSpec)) keydirKeepsUptoCard
end Rows
end Go.Proofs.YtabclecfamkanaaDoor
