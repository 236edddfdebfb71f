/-
  DERIVED. GIVEN WITH THE SEED: THE CARDS: each row of YtddnnhfffmhpmaaGreatDoorRows.lean that lists a variable, with what it lists TIED to the program's text (the seventh form; the later family's looks); each row that meets fmt, with fmt's text TOLD by the authors' own Lean function (tested against real Go, not proved from fmt's source: count such statements apart). THE CARD IS WHAT COUNTS. Prove the row's statement (the work); the ties are given (YtddnnhfffmhpmaaGreatDoorTie.lean); close each card by the builder's one call (the guide's Derived/Test/ToyasCard.lean, 'card_holds'). Laid BY PROGRAM, IN A SANDBOX (cutbox-door.mjs). By AI agents, Wed Nov 11 2026. No macro, syntax, notation, axiom, sorry.
-/
import Derived.Test.YtddnnhfffmhpmaaGreatDoorRows
import GoSem.ClaimSeven
namespace Go.Proofs.YtddnnhfffmhpmaaGreatDoor
namespace Rows

/-- THE TIED CARD OF 'rankloftlaw11.StorePlays'. -/
def storePlaysCard : Claim7 := { stood := { row := storePlaysRow, standIns := [], harness := (true, "de978c80a7ba07988070887de0cda7d3d4306336121ea5da419d147a673edc8e"), looks := false }, kinds := [], alts := [], laidByText := true, laidKinds := [.data, .data, .data, .data, .pinned], laidTests := true, laidLooks := .later }
def StorePlaysCardSaid : Prop := Claim7.holds Tryz.pinned (.plain (OpenSpec.ofChange storePlaysSpec)) storePlaysCard

/-- THE TIED CARD OF 'rankloftlaw11.StoreCuts'. -/
def storeCutsCard : Claim7 := { stood := { row := storeCutsRow, standIns := [], harness := (true, "de978c80a7ba07988070887de0cda7d3d4306336121ea5da419d147a673edc8e"), looks := false }, kinds := [], alts := [], laidByText := true, laidKinds := [.data, .data, .data, .data, .pinned], laidTests := true, laidLooks := .later }
def StoreCutsCardSaid : Prop := Claim7.holds Tryz.pinned (.plain (OpenSpec.ofChange storeCutsSpec)) storeCutsCard

/-- THE TIED CARD OF 'rankloftlaw11.StoreQuiet'. -/
def storeQuietCard : Claim7 := { stood := { row := storeQuietRow, standIns := [], harness := (true, "de978c80a7ba07988070887de0cda7d3d4306336121ea5da419d147a673edc8e"), looks := false }, kinds := [], alts := [], laidByText := true, laidKinds := [.data, .data, .data, .data, .pinned], laidTests := true, laidLooks := .later }
def StoreQuietCardSaid : Prop := Claim7.holds Tryz.pinned (.plain (OpenSpec.ofChange storeQuietSpec)) storeQuietCard

/-- THE SECOND FORM's CARD OF 'rankloftlaw11.StorePlays'. -/
def storePlaysUptoCard : Claim7 := { stood := { row := storePlaysUptoRow, standIns := [], harness := (true, "de978c80a7ba07988070887de0cda7d3d4306336121ea5da419d147a673edc8e"), looks := false }, kinds := [], alts := [], laidByText := true, laidKinds := [.data, .data, .data, .data, .pinned], laidTests := true, laidLooks := .later }
def StorePlaysUptoCardSaid : Prop := Claim7.holds Tryz.pinned (.plain (OpenSpec.upto storePlaysSpec)) storePlaysUptoCard

/-- THE SECOND FORM's CARD OF 'rankloftlaw11.StoreCuts'. -/
def storeCutsUptoCard : Claim7 := { stood := { row := storeCutsUptoRow, standIns := [], harness := (true, "de978c80a7ba07988070887de0cda7d3d4306336121ea5da419d147a673edc8e"), looks := false }, kinds := [], alts := [], laidByText := true, laidKinds := [.data, .data, .data, .data, .pinned], laidTests := true, laidLooks := .later }
def StoreCutsUptoCardSaid : Prop := Claim7.holds Tryz.pinned (.plain (OpenSpec.upto storeCutsSpec)) storeCutsUptoCard

/-- THE SECOND FORM's CARD OF 'rankloftlaw11.StoreQuiet'. -/
def storeQuietUptoCard : Claim7 := { stood := { row := storeQuietUptoRow, standIns := [], harness := (true, "de978c80a7ba07988070887de0cda7d3d4306336121ea5da419d147a673edc8e"), looks := false }, kinds := [], alts := [], laidByText := true, laidKinds := [.data, .data, .data, .data, .pinned], laidTests := true, laidLooks := .later }
def StoreQuietUptoCardSaid : Prop := Claim7.holds Tryz.pinned (.plain (OpenSpec.upto storeQuietSpec)) storeQuietUptoCard
end Rows
end Go.Proofs.YtddnnhfffmhpmaaGreatDoor
