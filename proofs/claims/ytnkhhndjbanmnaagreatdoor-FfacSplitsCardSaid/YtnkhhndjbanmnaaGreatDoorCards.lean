/-
  DERIVED. GIVEN WITH THE SEED: THE CARDS: each row of YtnkhhndjbanmnaaGreatDoorRows.lean that lists a variable, with what it lists TIED to the program's text (the seventh form; the later family's looks); each row that meets fmt, with fmt's text TOLD by the authors' own Lean function (tested against real Go, not proved from fmt's source: count such statements apart). THE CARD IS WHAT COUNTS. Prove the row's statement (the work); the ties are given (YtnkhhndjbanmnaaGreatDoorTie.lean); close each card by the builder's one call (the guide's Derived/Test/ToyasCard.lean, 'card_holds'). Laid BY PROGRAM, IN A SANDBOX (cutbox-door.mjs). By AI agents, Wed Nov 11 2026. No macro, syntax, notation, axiom, sorry.
-/
import Derived.Test.YtnkhhndjbanmnaaGreatDoorRows
import GoSem.ClaimSeven
namespace Go.Proofs.YtnkhhndjbanmnaaGreatDoor
namespace Rows

/-- THE TIED CARD OF 'cleaverlaw09.FfacAll'. -/
def ffacAllCard : Claim7 := { stood := { row := ffacAllRow, standIns := [], harness := (true, "626bad9fc7c898473bb3304815123a2e27694b8c62166742dace749adae8683e"), looks := false }, kinds := [], alts := [], laidByText := true, laidKinds := [.data], laidTests := true, laidLooks := .later }
def FfacAllCardSaid : Prop := Claim7.holds Tryz.pinned (.plain (OpenSpec.ofChange ffacAllSpec)) ffacAllCard

/-- THE TIED CARD OF 'cleaverlaw09.FfacOrder'. -/
def ffacOrderCard : Claim7 := { stood := { row := ffacOrderRow, standIns := [], harness := (true, "626bad9fc7c898473bb3304815123a2e27694b8c62166742dace749adae8683e"), looks := false }, kinds := [], alts := [], laidByText := true, laidKinds := [.data], laidTests := true, laidLooks := .later }
def FfacOrderCardSaid : Prop := Claim7.holds Tryz.pinned (.plain (OpenSpec.ofChange ffacOrderSpec)) ffacOrderCard

/-- THE TIED CARD OF 'cleaverlaw09.FfacSplits'. -/
def ffacSplitsCard : Claim7 := { stood := { row := ffacSplitsRow, standIns := [], harness := (true, "626bad9fc7c898473bb3304815123a2e27694b8c62166742dace749adae8683e"), looks := false }, kinds := [], alts := [], laidByText := true, laidKinds := [.data], laidTests := true, laidLooks := .later }
def FfacSplitsCardSaid : Prop := Claim7.holds Tryz.pinned (.plain (OpenSpec.ofChange ffacSplitsSpec)) ffacSplitsCard

/-- THE TIED CARD OF 'cleaverlaw09.FfacProduct'. -/
def ffacProductCard : Claim7 := { stood := { row := ffacProductRow, standIns := [], harness := (true, "626bad9fc7c898473bb3304815123a2e27694b8c62166742dace749adae8683e"), looks := false }, kinds := [], alts := [], laidByText := true, laidKinds := [.data], laidTests := true, laidLooks := .later }
def FfacProductCardSaid : Prop := Claim7.holds Tryz.pinned (.plain (OpenSpec.ofChange ffacProductSpec)) ffacProductCard

/-- THE TIED CARD OF 'cleaverlaw09.FfacDraws'. -/
def ffacDrawsCard : Claim7 := { stood := { row := ffacDrawsRow, standIns := [], harness := (true, "626bad9fc7c898473bb3304815123a2e27694b8c62166742dace749adae8683e"), looks := false }, kinds := [], alts := [], laidByText := true, laidKinds := [.data], laidTests := true, laidLooks := .later }
def FfacDrawsCardSaid : Prop := Claim7.holds Tryz.pinned (.plain (OpenSpec.ofChange ffacDrawsSpec)) ffacDrawsCard

/-- THE TIED CARD OF 'cleaverlaw09.FfacBoth'. -/
def ffacBothCard : Claim7 := { stood := { row := ffacBothRow, standIns := [], harness := (true, "626bad9fc7c898473bb3304815123a2e27694b8c62166742dace749adae8683e"), looks := false }, kinds := [], alts := [], laidByText := true, laidKinds := [.data], laidTests := true, laidLooks := .later }
def FfacBothCardSaid : Prop := Claim7.holds Tryz.pinned (.plain (OpenSpec.ofChange ffacBothSpec)) ffacBothCard

/-- THE TIED CARD OF 'cleaverlaw09.FfacField'. -/
def ffacFieldCard : Claim7 := { stood := { row := ffacFieldRow, standIns := [], harness := (true, "626bad9fc7c898473bb3304815123a2e27694b8c62166742dace749adae8683e"), looks := false }, kinds := [], alts := [], laidByText := true, laidKinds := [.data], laidTests := true, laidLooks := .later }
def FfacFieldCardSaid : Prop := Claim7.holds Tryz.pinned (.plain (OpenSpec.ofChange ffacFieldSpec)) ffacFieldCard

/-- THE SECOND FORM's CARD OF 'cleaverlaw09.FfacAll'. -/
def ffacAllUptoCard : Claim7 := { stood := { row := ffacAllUptoRow, standIns := [], harness := (true, "626bad9fc7c898473bb3304815123a2e27694b8c62166742dace749adae8683e"), looks := false }, kinds := [], alts := [], laidByText := true, laidKinds := [.data], laidTests := true, laidLooks := .later }
def FfacAllUptoCardSaid : Prop := Claim7.holds Tryz.pinned (.plain (OpenSpec.upto ffacAllSpec)) ffacAllUptoCard

/-- THE SECOND FORM's CARD OF 'cleaverlaw09.FfacOrder'. -/
def ffacOrderUptoCard : Claim7 := { stood := { row := ffacOrderUptoRow, standIns := [], harness := (true, "626bad9fc7c898473bb3304815123a2e27694b8c62166742dace749adae8683e"), looks := false }, kinds := [], alts := [], laidByText := true, laidKinds := [.data], laidTests := true, laidLooks := .later }
def FfacOrderUptoCardSaid : Prop := Claim7.holds Tryz.pinned (.plain (OpenSpec.upto ffacOrderSpec)) ffacOrderUptoCard

/-- THE SECOND FORM's CARD OF 'cleaverlaw09.FfacSplits'. -/
def ffacSplitsUptoCard : Claim7 := { stood := { row := ffacSplitsUptoRow, standIns := [], harness := (true, "626bad9fc7c898473bb3304815123a2e27694b8c62166742dace749adae8683e"), looks := false }, kinds := [], alts := [], laidByText := true, laidKinds := [.data], laidTests := true, laidLooks := .later }
def FfacSplitsUptoCardSaid : Prop := Claim7.holds Tryz.pinned (.plain (OpenSpec.upto ffacSplitsSpec)) ffacSplitsUptoCard

/-- THE SECOND FORM's CARD OF 'cleaverlaw09.FfacProduct'. -/
def ffacProductUptoCard : Claim7 := { stood := { row := ffacProductUptoRow, standIns := [], harness := (true, "626bad9fc7c898473bb3304815123a2e27694b8c62166742dace749adae8683e"), looks := false }, kinds := [], alts := [], laidByText := true, laidKinds := [.data], laidTests := true, laidLooks := .later }
def FfacProductUptoCardSaid : Prop := Claim7.holds Tryz.pinned (.plain (OpenSpec.upto ffacProductSpec)) ffacProductUptoCard

/-- THE SECOND FORM's CARD OF 'cleaverlaw09.FfacDraws'. -/
def ffacDrawsUptoCard : Claim7 := { stood := { row := ffacDrawsUptoRow, standIns := [], harness := (true, "626bad9fc7c898473bb3304815123a2e27694b8c62166742dace749adae8683e"), looks := false }, kinds := [], alts := [], laidByText := true, laidKinds := [.data], laidTests := true, laidLooks := .later }
def FfacDrawsUptoCardSaid : Prop := Claim7.holds Tryz.pinned (.plain (OpenSpec.upto ffacDrawsSpec)) ffacDrawsUptoCard

/-- THE SECOND FORM's CARD OF 'cleaverlaw09.FfacBoth'. -/
def ffacBothUptoCard : Claim7 := { stood := { row := ffacBothUptoRow, standIns := [], harness := (true, "626bad9fc7c898473bb3304815123a2e27694b8c62166742dace749adae8683e"), looks := false }, kinds := [], alts := [], laidByText := true, laidKinds := [.data], laidTests := true, laidLooks := .later }
def FfacBothUptoCardSaid : Prop := Claim7.holds Tryz.pinned (.plain (OpenSpec.upto ffacBothSpec)) ffacBothUptoCard

/-- THE SECOND FORM's CARD OF 'cleaverlaw09.FfacField'. -/
def ffacFieldUptoCard : Claim7 := { stood := { row := ffacFieldUptoRow, standIns := [], harness := (true, "626bad9fc7c898473bb3304815123a2e27694b8c62166742dace749adae8683e"), looks := false }, kinds := [], alts := [], laidByText := true, laidKinds := [.data], laidTests := true, laidLooks := .later }
def FfacFieldUptoCardSaid : Prop := Claim7.holds Tryz.pinned (.plain (OpenSpec.upto ffacFieldSpec)) ffacFieldUptoCard
end Rows
end Go.Proofs.YtnkhhndjbanmnaaGreatDoor
