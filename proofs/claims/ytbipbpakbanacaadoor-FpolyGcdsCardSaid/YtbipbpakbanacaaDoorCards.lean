/-
  DERIVED. GIVEN WITH THE SEED: THE CARDS: each row of YtbipbpakbanacaaDoorRows.lean that lists a variable, with what it lists TIED to the program's text (the seventh form; the later family's looks); each row that meets fmt, with fmt's text TOLD by the authors' own Lean function (tested against real Go, not proved from fmt's source: count such statements apart). THE CARD IS WHAT COUNTS. Prove the row's statement (the work); the ties are given (YtbipbpakbanacaaDoorTie.lean); close each card by the builder's one call (the guide's Derived/Test/ToyasCard.lean, 'card_holds'). Laid BY PROGRAM, IN A SANDBOX (cutbox-door.mjs). By AI agents, Wed Nov 11 2026. No macro, syntax, notation, axiom, sorry.
-/
import Derived.Test.YtbipbpakbanacaaDoorRows
import GoSem.ClaimSeven
namespace Go.Proofs.YtbipbpakbanacaaDoor
namespace Rows

/-- THE TIED CARD OF 'cleaverlaw06.FpolyAdds'. -/
def fpolyAddsCard : Claim7 := { stood := { row := fpolyAddsRow, standIns := [], harness := (true, "d2482387ba394df978a3c8adf046fc8f80fd9c8f3c6dea76f5506079b9bed8fc"), looks := false }, kinds := [], alts := [], laidByText := true, laidKinds := [.data], laidTests := true, laidLooks := .later }
def FpolyAddsCardSaid : Prop := Claim7.holds Tryd.pinned (.plain (OpenSpec.ofChange fpolyAddsSpec)) fpolyAddsCard

/-- THE TIED CARD OF 'cleaverlaw06.FpolyDivides'. -/
def fpolyDividesCard : Claim7 := { stood := { row := fpolyDividesRow, standIns := [], harness := (true, "d2482387ba394df978a3c8adf046fc8f80fd9c8f3c6dea76f5506079b9bed8fc"), looks := false }, kinds := [], alts := [], laidByText := true, laidKinds := [.data], laidTests := true, laidLooks := .later }
def FpolyDividesCardSaid : Prop := Claim7.holds Tryd.pinned (.plain (OpenSpec.ofChange fpolyDividesSpec)) fpolyDividesCard

/-- THE TIED CARD OF 'cleaverlaw06.FpolyGcds'. -/
def fpolyGcdsCard : Claim7 := { stood := { row := fpolyGcdsRow, standIns := [], harness := (true, "d2482387ba394df978a3c8adf046fc8f80fd9c8f3c6dea76f5506079b9bed8fc"), looks := false }, kinds := [], alts := [], laidByText := true, laidKinds := [.data], laidTests := true, laidLooks := .later }
def FpolyGcdsCardSaid : Prop := Claim7.holds Tryd.pinned (.plain (OpenSpec.ofChange fpolyGcdsSpec)) fpolyGcdsCard

/-- THE TIED CARD OF 'cleaverlaw06.FpolyPowers'. -/
def fpolyPowersCard : Claim7 := { stood := { row := fpolyPowersRow, standIns := [], harness := (true, "d2482387ba394df978a3c8adf046fc8f80fd9c8f3c6dea76f5506079b9bed8fc"), looks := false }, kinds := [], alts := [], laidByText := true, laidKinds := [.data], laidTests := true, laidLooks := .later }
def FpolyPowersCardSaid : Prop := Claim7.holds Tryd.pinned (.plain (OpenSpec.ofChange fpolyPowersSpec)) fpolyPowersCard

/-- THE TIED CARD OF 'cleaverlaw06.FpolyRing'. -/
def fpolyRingCard : Claim7 := { stood := { row := fpolyRingRow, standIns := [], harness := (true, "d2482387ba394df978a3c8adf046fc8f80fd9c8f3c6dea76f5506079b9bed8fc"), looks := false }, kinds := [], alts := [], laidByText := true, laidKinds := [.data], laidTests := true, laidLooks := .later }
def FpolyRingCardSaid : Prop := Claim7.holds Tryd.pinned (.plain (OpenSpec.ofChange fpolyRingSpec)) fpolyRingCard

/-- THE TIED CARD OF 'cleaverlaw06.FpolyRest'. -/
def fpolyRestCard : Claim7 := { stood := { row := fpolyRestRow, standIns := [], harness := (true, "d2482387ba394df978a3c8adf046fc8f80fd9c8f3c6dea76f5506079b9bed8fc"), looks := false }, kinds := [], alts := [], laidByText := true, laidKinds := [.data], laidTests := true, laidLooks := .later }
def FpolyRestCardSaid : Prop := Claim7.holds Tryd.pinned (.plain (OpenSpec.ofChange fpolyRestSpec)) fpolyRestCard

/-- THE TIED CARD OF 'cleaverlaw06.FpolyDivisor'. -/
def fpolyDivisorCard : Claim7 := { stood := { row := fpolyDivisorRow, standIns := [], harness := (true, "d2482387ba394df978a3c8adf046fc8f80fd9c8f3c6dea76f5506079b9bed8fc"), looks := false }, kinds := [], alts := [], laidByText := true, laidKinds := [.data], laidTests := true, laidLooks := .later }
def FpolyDivisorCardSaid : Prop := Claim7.holds Tryd.pinned (.plain (OpenSpec.ofChange fpolyDivisorSpec)) fpolyDivisorCard

/-- THE TIED CARD OF 'cleaverlaw06.FpolyLeibniz'. -/
def fpolyLeibnizCard : Claim7 := { stood := { row := fpolyLeibnizRow, standIns := [], harness := (true, "d2482387ba394df978a3c8adf046fc8f80fd9c8f3c6dea76f5506079b9bed8fc"), looks := false }, kinds := [], alts := [], laidByText := true, laidKinds := [.data], laidTests := true, laidLooks := .later }
def FpolyLeibnizCardSaid : Prop := Claim7.holds Tryd.pinned (.plain (OpenSpec.ofChange fpolyLeibnizSpec)) fpolyLeibnizCard

/-- THE TIED CARD OF 'cleaverlaw06.FpolyFrobenius'. -/
def fpolyFrobeniusCard : Claim7 := { stood := { row := fpolyFrobeniusRow, standIns := [], harness := (true, "d2482387ba394df978a3c8adf046fc8f80fd9c8f3c6dea76f5506079b9bed8fc"), looks := false }, kinds := [], alts := [], laidByText := true, laidKinds := [.data], laidTests := true, laidLooks := .later }
def FpolyFrobeniusCardSaid : Prop := Claim7.holds Tryd.pinned (.plain (OpenSpec.ofChange fpolyFrobeniusSpec)) fpolyFrobeniusCard

/-- THE SECOND FORM's CARD OF 'cleaverlaw06.FpolyAdds'. -/
def fpolyAddsUptoCard : Claim7 := { stood := { row := fpolyAddsUptoRow, standIns := [], harness := (true, "d2482387ba394df978a3c8adf046fc8f80fd9c8f3c6dea76f5506079b9bed8fc"), looks := false }, kinds := [], alts := [], laidByText := true, laidKinds := [.data], laidTests := true, laidLooks := .later }
def FpolyAddsUptoCardSaid : Prop := Claim7.holds Tryd.pinned (.plain (OpenSpec.upto fpolyAddsSpec)) fpolyAddsUptoCard

/-- THE SECOND FORM's CARD OF 'cleaverlaw06.FpolyDivides'. -/
def fpolyDividesUptoCard : Claim7 := { stood := { row := fpolyDividesUptoRow, standIns := [], harness := (true, "d2482387ba394df978a3c8adf046fc8f80fd9c8f3c6dea76f5506079b9bed8fc"), looks := false }, kinds := [], alts := [], laidByText := true, laidKinds := [.data], laidTests := true, laidLooks := .later }
def FpolyDividesUptoCardSaid : Prop := Claim7.holds Tryd.pinned (.plain (OpenSpec.upto fpolyDividesSpec)) fpolyDividesUptoCard

/-- THE SECOND FORM's CARD OF 'cleaverlaw06.FpolyGcds'. -/
def fpolyGcdsUptoCard : Claim7 := { stood := { row := fpolyGcdsUptoRow, standIns := [], harness := (true, "d2482387ba394df978a3c8adf046fc8f80fd9c8f3c6dea76f5506079b9bed8fc"), looks := false }, kinds := [], alts := [], laidByText := true, laidKinds := [.data], laidTests := true, laidLooks := .later }
def FpolyGcdsUptoCardSaid : Prop := Claim7.holds Tryd.pinned (.plain (OpenSpec.upto fpolyGcdsSpec)) fpolyGcdsUptoCard

/-- THE SECOND FORM's CARD OF 'cleaverlaw06.FpolyPowers'. -/
def fpolyPowersUptoCard : Claim7 := { stood := { row := fpolyPowersUptoRow, standIns := [], harness := (true, "d2482387ba394df978a3c8adf046fc8f80fd9c8f3c6dea76f5506079b9bed8fc"), looks := false }, kinds := [], alts := [], laidByText := true, laidKinds := [.data], laidTests := true, laidLooks := .later }
def FpolyPowersUptoCardSaid : Prop := Claim7.holds Tryd.pinned (.plain (OpenSpec.upto fpolyPowersSpec)) fpolyPowersUptoCard

/-- THE SECOND FORM's CARD OF 'cleaverlaw06.FpolyRing'. -/
def fpolyRingUptoCard : Claim7 := { stood := { row := fpolyRingUptoRow, standIns := [], harness := (true, "d2482387ba394df978a3c8adf046fc8f80fd9c8f3c6dea76f5506079b9bed8fc"), looks := false }, kinds := [], alts := [], laidByText := true, laidKinds := [.data], laidTests := true, laidLooks := .later }
def FpolyRingUptoCardSaid : Prop := Claim7.holds Tryd.pinned (.plain (OpenSpec.upto fpolyRingSpec)) fpolyRingUptoCard

/-- THE SECOND FORM's CARD OF 'cleaverlaw06.FpolyRest'. -/
def fpolyRestUptoCard : Claim7 := { stood := { row := fpolyRestUptoRow, standIns := [], harness := (true, "d2482387ba394df978a3c8adf046fc8f80fd9c8f3c6dea76f5506079b9bed8fc"), looks := false }, kinds := [], alts := [], laidByText := true, laidKinds := [.data], laidTests := true, laidLooks := .later }
def FpolyRestUptoCardSaid : Prop := Claim7.holds Tryd.pinned (.plain (OpenSpec.upto fpolyRestSpec)) fpolyRestUptoCard

/-- THE SECOND FORM's CARD OF 'cleaverlaw06.FpolyDivisor'. -/
def fpolyDivisorUptoCard : Claim7 := { stood := { row := fpolyDivisorUptoRow, standIns := [], harness := (true, "d2482387ba394df978a3c8adf046fc8f80fd9c8f3c6dea76f5506079b9bed8fc"), looks := false }, kinds := [], alts := [], laidByText := true, laidKinds := [.data], laidTests := true, laidLooks := .later }
def FpolyDivisorUptoCardSaid : Prop := Claim7.holds Tryd.pinned (.plain (OpenSpec.upto fpolyDivisorSpec)) fpolyDivisorUptoCard

/-- THE SECOND FORM's CARD OF 'cleaverlaw06.FpolyLeibniz'. -/
def fpolyLeibnizUptoCard : Claim7 := { stood := { row := fpolyLeibnizUptoRow, standIns := [], harness := (true, "d2482387ba394df978a3c8adf046fc8f80fd9c8f3c6dea76f5506079b9bed8fc"), looks := false }, kinds := [], alts := [], laidByText := true, laidKinds := [.data], laidTests := true, laidLooks := .later }
def FpolyLeibnizUptoCardSaid : Prop := Claim7.holds Tryd.pinned (.plain (OpenSpec.upto fpolyLeibnizSpec)) fpolyLeibnizUptoCard

/-- THE SECOND FORM's CARD OF 'cleaverlaw06.FpolyFrobenius'. -/
def fpolyFrobeniusUptoCard : Claim7 := { stood := { row := fpolyFrobeniusUptoRow, standIns := [], harness := (true, "d2482387ba394df978a3c8adf046fc8f80fd9c8f3c6dea76f5506079b9bed8fc"), looks := false }, kinds := [], alts := [], laidByText := true, laidKinds := [.data], laidTests := true, laidLooks := .later }
def FpolyFrobeniusUptoCardSaid : Prop := Claim7.holds Tryd.pinned (.plain (OpenSpec.upto fpolyFrobeniusSpec)) fpolyFrobeniusUptoCard
end Rows
end Go.Proofs.YtbipbpakbanacaaDoor
