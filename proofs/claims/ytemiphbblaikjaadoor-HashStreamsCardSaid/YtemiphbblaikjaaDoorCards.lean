/-
  DERIVED. GIVEN WITH THE SEED: THE CARDS: each row of YtemiphbblaikjaaDoorRows.lean that lists a variable, with what it lists TIED to the program's text (the seventh form; the later family's looks); each row that meets fmt, with fmt's text TOLD by the authors' own Lean function (tested against real Go, not proved from fmt's source: count such statements apart). THE CARD IS WHAT COUNTS. Prove the row's statement (the work); the ties are given (YtemiphbblaikjaaDoorTie.lean); close each card by the builder's one call (the guide's Derived/Test/ToyasCard.lean, 'card_holds'). Laid BY PROGRAM, IN A SANDBOX (cutbox-door.mjs). By AI agents, Wed Nov 11 2026. No macro, syntax, notation, axiom, sorry.
-/
import Derived.Test.YtemiphbblaikjaaDoorRows
import GoSem.ClaimSeven
namespace Go.Proofs.YtemiphbblaikjaaDoor
namespace Rows

/-- THE TIED CARD OF 'exchequerlaw02.HashSums'. -/
def hashSumsCard : Claim7 := { stood := { row := hashSumsRow, standIns := [], harness := (true, "a0fe807821e79ecb86ba2a0b2e97a101a22b06d9f5a33cf88c4e72582e8af61d"), looks := false }, kinds := [], alts := [], laidByText := true, laidKinds := [.data, .data], laidTests := true, laidLooks := .later }
def HashSumsCardSaid : Prop := Claim7.holds Tryd.pinned (.plain (OpenSpec.ofChange hashSumsSpec)) hashSumsCard

/-- THE TIED CARD OF 'exchequerlaw02.HashParts'. -/
def hashPartsCard : Claim7 := { stood := { row := hashPartsRow, standIns := [], harness := (true, "a0fe807821e79ecb86ba2a0b2e97a101a22b06d9f5a33cf88c4e72582e8af61d"), looks := false }, kinds := [], alts := [], laidByText := true, laidKinds := [.data, .data], laidTests := true, laidLooks := .later }
def HashPartsCardSaid : Prop := Claim7.holds Tryd.pinned (.plain (OpenSpec.ofChange hashPartsSpec)) hashPartsCard

/-- THE TIED CARD OF 'exchequerlaw02.HashMacs'. -/
def hashMacsCard : Claim7 := { stood := { row := hashMacsRow, standIns := [], harness := (true, "a0fe807821e79ecb86ba2a0b2e97a101a22b06d9f5a33cf88c4e72582e8af61d"), looks := false }, kinds := [], alts := [], laidByText := true, laidKinds := [.data, .data], laidTests := true, laidLooks := .later }
def HashMacsCardSaid : Prop := Claim7.holds Tryd.pinned (.plain (OpenSpec.ofChange hashMacsSpec)) hashMacsCard

/-- THE TIED CARD OF 'exchequerlaw02.HashStreams'. -/
def hashStreamsCard : Claim7 := { stood := { row := hashStreamsRow, standIns := [], harness := (true, "a0fe807821e79ecb86ba2a0b2e97a101a22b06d9f5a33cf88c4e72582e8af61d"), looks := false }, kinds := [], alts := [], laidByText := true, laidKinds := [.data, .data], laidTests := true, laidLooks := .later }
def HashStreamsCardSaid : Prop := Claim7.holds Tryd.pinned (.plain (OpenSpec.ofChange hashStreamsSpec)) hashStreamsCard

/-- THE TIED CARD OF 'exchequerlaw02.HashDigits'. -/
def hashDigitsCard : Claim7 := { stood := { row := hashDigitsRow, standIns := [], harness := (true, "a0fe807821e79ecb86ba2a0b2e97a101a22b06d9f5a33cf88c4e72582e8af61d"), looks := false }, kinds := [], alts := [], laidByText := true, laidKinds := [.data, .data], laidTests := true, laidLooks := .later }
def HashDigitsCardSaid : Prop := Claim7.holds Tryd.pinned (.plain (OpenSpec.ofChange hashDigitsSpec)) hashDigitsCard

/-- THE TIED CARD OF 'exchequerlaw02.HashKeys'. -/
def hashKeysCard : Claim7 := { stood := { row := hashKeysRow, standIns := [], harness := (true, "a0fe807821e79ecb86ba2a0b2e97a101a22b06d9f5a33cf88c4e72582e8af61d"), looks := false }, kinds := [], alts := [], laidByText := true, laidKinds := [.data, .data], laidTests := true, laidLooks := .later }
def HashKeysCardSaid : Prop := Claim7.holds Tryd.pinned (.plain (OpenSpec.ofChange hashKeysSpec)) hashKeysCard

/-- THE SECOND FORM's CARD OF 'exchequerlaw02.HashSums'. -/
def hashSumsUptoCard : Claim7 := { stood := { row := hashSumsUptoRow, standIns := [], harness := (true, "a0fe807821e79ecb86ba2a0b2e97a101a22b06d9f5a33cf88c4e72582e8af61d"), looks := false }, kinds := [], alts := [], laidByText := true, laidKinds := [.data, .data], laidTests := true, laidLooks := .later }
def HashSumsUptoCardSaid : Prop := Claim7.holds Tryd.pinned (.plain (OpenSpec.upto hashSumsSpec)) hashSumsUptoCard

/-- THE SECOND FORM's CARD OF 'exchequerlaw02.HashParts'. -/
def hashPartsUptoCard : Claim7 := { stood := { row := hashPartsUptoRow, standIns := [], harness := (true, "a0fe807821e79ecb86ba2a0b2e97a101a22b06d9f5a33cf88c4e72582e8af61d"), looks := false }, kinds := [], alts := [], laidByText := true, laidKinds := [.data, .data], laidTests := true, laidLooks := .later }
def HashPartsUptoCardSaid : Prop := Claim7.holds Tryd.pinned (.plain (OpenSpec.upto hashPartsSpec)) hashPartsUptoCard

/-- THE SECOND FORM's CARD OF 'exchequerlaw02.HashMacs'. -/
def hashMacsUptoCard : Claim7 := { stood := { row := hashMacsUptoRow, standIns := [], harness := (true, "a0fe807821e79ecb86ba2a0b2e97a101a22b06d9f5a33cf88c4e72582e8af61d"), looks := false }, kinds := [], alts := [], laidByText := true, laidKinds := [.data, .data], laidTests := true, laidLooks := .later }
def HashMacsUptoCardSaid : Prop := Claim7.holds Tryd.pinned (.plain (OpenSpec.upto hashMacsSpec)) hashMacsUptoCard

/-- THE SECOND FORM's CARD OF 'exchequerlaw02.HashStreams'. -/
def hashStreamsUptoCard : Claim7 := { stood := { row := hashStreamsUptoRow, standIns := [], harness := (true, "a0fe807821e79ecb86ba2a0b2e97a101a22b06d9f5a33cf88c4e72582e8af61d"), looks := false }, kinds := [], alts := [], laidByText := true, laidKinds := [.data, .data], laidTests := true, laidLooks := .later }
def HashStreamsUptoCardSaid : Prop := Claim7.holds Tryd.pinned (.plain (OpenSpec.upto hashStreamsSpec)) hashStreamsUptoCard

/-- THE SECOND FORM's CARD OF 'exchequerlaw02.HashDigits'. -/
def hashDigitsUptoCard : Claim7 := { stood := { row := hashDigitsUptoRow, standIns := [], harness := (true, "a0fe807821e79ecb86ba2a0b2e97a101a22b06d9f5a33cf88c4e72582e8af61d"), looks := false }, kinds := [], alts := [], laidByText := true, laidKinds := [.data, .data], laidTests := true, laidLooks := .later }
def HashDigitsUptoCardSaid : Prop := Claim7.holds Tryd.pinned (.plain (OpenSpec.upto hashDigitsSpec)) hashDigitsUptoCard

/-- THE SECOND FORM's CARD OF 'exchequerlaw02.HashKeys'. -/
def hashKeysUptoCard : Claim7 := { stood := { row := hashKeysUptoRow, standIns := [], harness := (true, "a0fe807821e79ecb86ba2a0b2e97a101a22b06d9f5a33cf88c4e72582e8af61d"), looks := false }, kinds := [], alts := [], laidByText := true, laidKinds := [.data, .data], laidTests := true, laidLooks := .later }
def HashKeysUptoCardSaid : Prop := Claim7.holds Tryd.pinned (.plain (OpenSpec.upto hashKeysSpec)) hashKeysUptoCard
end Rows
end Go.Proofs.YtemiphbblaikjaaDoor
