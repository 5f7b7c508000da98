/-
  DERIVED. GIVEN WITH THE SEED: THE CARDS: each row of YtekpifafjbkmiaaDoorRows.lean that lists a variable, with what it lists TIED to the program's text (the seventh form; the later family's looks); each row that meets fmt, with fmt's text TOLD by the authors' own Lean function (tested against real Go, not proved from fmt's source: count such statements apart). THE CARD IS WHAT COUNTS. Prove the row's statement (the work); the ties are given (YtekpifafjbkmiaaDoorTie.lean); close each card by the builder's one call (the guide's Derived/Test/ToyasCard.lean, 'card_holds'). Laid BY PROGRAM, IN A SANDBOX (cutbox-door.mjs). By AI agents, Wed Nov 11 2026. No macro, syntax, notation, axiom, sorry.
-/
import Derived.Test.YtekpifafjbkmiaaDoorRows
import GoSem.ClaimSeven
namespace Go.Proofs.YtekpifafjbkmiaaDoor
namespace Rows

/-- THE TIED CARD OF 'cleaverlaw08.FsqfParts'. -/
def fsqfPartsCard : Claim7 := { stood := { row := fsqfPartsRow, standIns := [], harness := (true, "31569feceb329077a1538e35e0eddb87ff596f36115eca96318917e68cdd2d82"), looks := false }, kinds := [], alts := [], laidByText := true, laidKinds := [.data], laidTests := true, laidLooks := .later }
def FsqfPartsCardSaid : Prop := Claim7.holds Tryd.pinned (.plain (OpenSpec.ofChange fsqfPartsSpec)) fsqfPartsCard

/-- THE TIED CARD OF 'cleaverlaw08.FsqfProduct'. -/
def fsqfProductCard : Claim7 := { stood := { row := fsqfProductRow, standIns := [], harness := (true, "31569feceb329077a1538e35e0eddb87ff596f36115eca96318917e68cdd2d82"), looks := false }, kinds := [], alts := [], laidByText := true, laidKinds := [.data], laidTests := true, laidLooks := .later }
def FsqfProductCardSaid : Prop := Claim7.holds Tryd.pinned (.plain (OpenSpec.ofChange fsqfProductSpec)) fsqfProductCard

/-- THE TIED CARD OF 'cleaverlaw08.FsqfApart'. -/
def fsqfApartCard : Claim7 := { stood := { row := fsqfApartRow, standIns := [], harness := (true, "31569feceb329077a1538e35e0eddb87ff596f36115eca96318917e68cdd2d82"), looks := false }, kinds := [], alts := [], laidByText := true, laidKinds := [.data], laidTests := true, laidLooks := .later }
def FsqfApartCardSaid : Prop := Claim7.holds Tryd.pinned (.plain (OpenSpec.ofChange fsqfApartSpec)) fsqfApartCard

/-- THE TIED CARD OF 'cleaverlaw08.FsqfPowers'. -/
def fsqfPowersCard : Claim7 := { stood := { row := fsqfPowersRow, standIns := [], harness := (true, "31569feceb329077a1538e35e0eddb87ff596f36115eca96318917e68cdd2d82"), looks := false }, kinds := [], alts := [], laidByText := true, laidKinds := [.data], laidTests := true, laidLooks := .later }
def FsqfPowersCardSaid : Prop := Claim7.holds Tryd.pinned (.plain (OpenSpec.ofChange fsqfPowersSpec)) fsqfPowersCard

/-- THE TIED CARD OF 'cleaverlaw08.FsqfRadical'. -/
def fsqfRadicalCard : Claim7 := { stood := { row := fsqfRadicalRow, standIns := [], harness := (true, "31569feceb329077a1538e35e0eddb87ff596f36115eca96318917e68cdd2d82"), looks := false }, kinds := [], alts := [], laidByText := true, laidKinds := [.data], laidTests := true, laidLooks := .later }
def FsqfRadicalCardSaid : Prop := Claim7.holds Tryd.pinned (.plain (OpenSpec.ofChange fsqfRadicalSpec)) fsqfRadicalCard

/-- THE SECOND FORM's CARD OF 'cleaverlaw08.FsqfParts'. -/
def fsqfPartsUptoCard : Claim7 := { stood := { row := fsqfPartsUptoRow, standIns := [], harness := (true, "31569feceb329077a1538e35e0eddb87ff596f36115eca96318917e68cdd2d82"), looks := false }, kinds := [], alts := [], laidByText := true, laidKinds := [.data], laidTests := true, laidLooks := .later }
def FsqfPartsUptoCardSaid : Prop := Claim7.holds Tryd.pinned (.plain (OpenSpec.upto fsqfPartsSpec)) fsqfPartsUptoCard

/-- THE SECOND FORM's CARD OF 'cleaverlaw08.FsqfProduct'. -/
def fsqfProductUptoCard : Claim7 := { stood := { row := fsqfProductUptoRow, standIns := [], harness := (true, "31569feceb329077a1538e35e0eddb87ff596f36115eca96318917e68cdd2d82"), looks := false }, kinds := [], alts := [], laidByText := true, laidKinds := [.data], laidTests := true, laidLooks := .later }
def FsqfProductUptoCardSaid : Prop := Claim7.holds Tryd.pinned (.plain (OpenSpec.upto fsqfProductSpec)) fsqfProductUptoCard

/-- THE SECOND FORM's CARD OF 'cleaverlaw08.FsqfApart'. -/
def fsqfApartUptoCard : Claim7 := { stood := { row := fsqfApartUptoRow, standIns := [], harness := (true, "31569feceb329077a1538e35e0eddb87ff596f36115eca96318917e68cdd2d82"), looks := false }, kinds := [], alts := [], laidByText := true, laidKinds := [.data], laidTests := true, laidLooks := .later }
def FsqfApartUptoCardSaid : Prop := Claim7.holds Tryd.pinned (.plain (OpenSpec.upto fsqfApartSpec)) fsqfApartUptoCard

/-- THE SECOND FORM's CARD OF 'cleaverlaw08.FsqfPowers'. -/
def fsqfPowersUptoCard : Claim7 := { stood := { row := fsqfPowersUptoRow, standIns := [], harness := (true, "31569feceb329077a1538e35e0eddb87ff596f36115eca96318917e68cdd2d82"), looks := false }, kinds := [], alts := [], laidByText := true, laidKinds := [.data], laidTests := true, laidLooks := .later }
def FsqfPowersUptoCardSaid : Prop := Claim7.holds Tryd.pinned (.plain (OpenSpec.upto fsqfPowersSpec)) fsqfPowersUptoCard

/-- THE SECOND FORM's CARD OF 'cleaverlaw08.FsqfRadical'. -/
def fsqfRadicalUptoCard : Claim7 := { stood := { row := fsqfRadicalUptoRow, standIns := [], harness := (true, "31569feceb329077a1538e35e0eddb87ff596f36115eca96318917e68cdd2d82"), looks := false }, kinds := [], alts := [], laidByText := true, laidKinds := [.data], laidTests := true, laidLooks := .later }
def FsqfRadicalUptoCardSaid : Prop := Claim7.holds Tryd.pinned (.plain (OpenSpec.upto fsqfRadicalSpec)) fsqfRadicalUptoCard
end Rows
end Go.Proofs.YtekpifafjbkmiaaDoor
