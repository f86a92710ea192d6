/-
  DERIVED. GIVEN WITH THE SEED: THE CARDS: each row of YtmgbmphheagdmaaGreatDoorRows.lean that lists a variable, with what it lists TIED to the program's text (the seventh form; the later family's looks); each row that meets fmt, with fmt's text TOLD by the authors' own Lean function (tested against real Go, not proved from fmt's source: count such statements apart). THE CARD IS WHAT COUNTS. Prove the row's statement (the work); the ties are given (YtmgbmphheagdmaaGreatDoorTie.lean); close each card by the builder's one call (the guide's Derived/Test/ToyasCard.lean, 'card_holds'). Laid BY PROGRAM, IN A SANDBOX (cutbox-door.mjs). By AI agents, Wed Nov 11 2026. No macro, syntax, notation, axiom, sorry.
-/
import Derived.Test.YtmgbmphheagdmaaGreatDoorRows
import GoSem.ClaimSeven
namespace Go.Proofs.YtmgbmphheagdmaaGreatDoor
namespace Rows

/-- THE TIED CARD OF 'exchequerlaw08.ShotPlays'. -/
def shotPlaysCard : Claim7 := { stood := { row := shotPlaysRow, standIns := [], harness := (true, "98d802447f988376e9664c6fe659b694b87cd6a106a04b873482aa0fa1cd193d"), looks := false }, kinds := [], alts := [], laidByText := true, laidKinds := [.data, .data, .data], laidTests := true, laidLooks := .later }
def ShotPlaysCardSaid : Prop := Claim7.holds Tryz.pinned (.plain (OpenSpec.ofChange shotPlaysSpec)) shotPlaysCard

/-- THE TIED CARD OF 'exchequerlaw08.ShotCrash'. -/
def shotCrashCard : Claim7 := { stood := { row := shotCrashRow, standIns := [], harness := (true, "98d802447f988376e9664c6fe659b694b87cd6a106a04b873482aa0fa1cd193d"), looks := false }, kinds := [], alts := [], laidByText := true, laidKinds := [.data, .data, .data], laidTests := true, laidLooks := .later }
def ShotCrashCardSaid : Prop := Claim7.holds Tryz.pinned (.plain (OpenSpec.ofChange shotCrashSpec)) shotCrashCard

/-- THE TIED CARD OF 'exchequerlaw08.ShotLast'. -/
def shotLastCard : Claim7 := { stood := { row := shotLastRow, standIns := [], harness := (true, "98d802447f988376e9664c6fe659b694b87cd6a106a04b873482aa0fa1cd193d"), looks := false }, kinds := [], alts := [], laidByText := true, laidKinds := [.data, .data, .data], laidTests := true, laidLooks := .later }
def ShotLastCardSaid : Prop := Claim7.holds Tryz.pinned (.plain (OpenSpec.ofChange shotLastSpec)) shotLastCard

/-- THE TIED CARD OF 'exchequerlaw08.ShotTorn'. -/
def shotTornCard : Claim7 := { stood := { row := shotTornRow, standIns := [], harness := (true, "98d802447f988376e9664c6fe659b694b87cd6a106a04b873482aa0fa1cd193d"), looks := false }, kinds := [], alts := [], laidByText := true, laidKinds := [.data, .data, .data], laidTests := true, laidLooks := .later }
def ShotTornCardSaid : Prop := Claim7.holds Tryz.pinned (.plain (OpenSpec.ofChange shotTornSpec)) shotTornCard

/-- THE TIED CARD OF 'exchequerlaw08.ShotNone'. -/
def shotNoneCard : Claim7 := { stood := { row := shotNoneRow, standIns := [], harness := (true, "98d802447f988376e9664c6fe659b694b87cd6a106a04b873482aa0fa1cd193d"), looks := false }, kinds := [], alts := [], laidByText := true, laidKinds := [.data, .data, .data], laidTests := true, laidLooks := .later }
def ShotNoneCardSaid : Prop := Claim7.holds Tryz.pinned (.plain (OpenSpec.ofChange shotNoneSpec)) shotNoneCard

/-- THE SECOND FORM's CARD OF 'exchequerlaw08.ShotPlays'. -/
def shotPlaysUptoCard : Claim7 := { stood := { row := shotPlaysUptoRow, standIns := [], harness := (true, "98d802447f988376e9664c6fe659b694b87cd6a106a04b873482aa0fa1cd193d"), looks := false }, kinds := [], alts := [], laidByText := true, laidKinds := [.data, .data, .data], laidTests := true, laidLooks := .later }
def ShotPlaysUptoCardSaid : Prop := Claim7.holds Tryz.pinned (.plain (OpenSpec.upto shotPlaysSpec)) shotPlaysUptoCard

/-- THE SECOND FORM's CARD OF 'exchequerlaw08.ShotCrash'. -/
def shotCrashUptoCard : Claim7 := { stood := { row := shotCrashUptoRow, standIns := [], harness := (true, "98d802447f988376e9664c6fe659b694b87cd6a106a04b873482aa0fa1cd193d"), looks := false }, kinds := [], alts := [], laidByText := true, laidKinds := [.data, .data, .data], laidTests := true, laidLooks := .later }
def ShotCrashUptoCardSaid : Prop := Claim7.holds Tryz.pinned (.plain (OpenSpec.upto shotCrashSpec)) shotCrashUptoCard

/-- THE SECOND FORM's CARD OF 'exchequerlaw08.ShotLast'. -/
def shotLastUptoCard : Claim7 := { stood := { row := shotLastUptoRow, standIns := [], harness := (true, "98d802447f988376e9664c6fe659b694b87cd6a106a04b873482aa0fa1cd193d"), looks := false }, kinds := [], alts := [], laidByText := true, laidKinds := [.data, .data, .data], laidTests := true, laidLooks := .later }
def ShotLastUptoCardSaid : Prop := Claim7.holds Tryz.pinned (.plain (OpenSpec.upto shotLastSpec)) shotLastUptoCard

/-- THE SECOND FORM's CARD OF 'exchequerlaw08.ShotTorn'. -/
def shotTornUptoCard : Claim7 := { stood := { row := shotTornUptoRow, standIns := [], harness := (true, "98d802447f988376e9664c6fe659b694b87cd6a106a04b873482aa0fa1cd193d"), looks := false }, kinds := [], alts := [], laidByText := true, laidKinds := [.data, .data, .data], laidTests := true, laidLooks := .later }
def ShotTornUptoCardSaid : Prop := Claim7.holds Tryz.pinned (.plain (OpenSpec.upto shotTornSpec)) shotTornUptoCard

/-- THE SECOND FORM's CARD OF 'exchequerlaw08.ShotNone'. -/
def shotNoneUptoCard : Claim7 := { stood := { row := shotNoneUptoRow, standIns := [], harness := (true, "98d802447f988376e9664c6fe659b694b87cd6a106a04b873482aa0fa1cd193d"), looks := false }, kinds := [], alts := [], laidByText := true, laidKinds := [.data, .data, .data], laidTests := true, laidLooks := .later }
def ShotNoneUptoCardSaid : Prop := Claim7.holds Tryz.pinned (.plain (OpenSpec.upto shotNoneSpec)) shotNoneUptoCard
end Rows
end Go.Proofs.YtmgbmphheagdmaaGreatDoor
