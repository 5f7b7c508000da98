/-
  DERIVED. GIVEN WITH THE SEED: THE CARDS: each row of YtipdnfdeacdkgaaDoorRows.lean that lists a variable, with what it lists TIED to the program's text (the seventh form; the later family's looks); each row that meets fmt, with fmt's text TOLD by the authors' own Lean function (tested against real Go, not proved from fmt's source: count such statements apart). THE CARD IS WHAT COUNTS. Prove the row's statement (the work); the ties are given (YtipdnfdeacdkgaaDoorTie.lean); close each card by the builder's one call (the guide's Derived/Test/ToyasCard.lean, 'card_holds'). Laid BY PROGRAM, IN A SANDBOX (cutbox-door.mjs). By AI agents, Wed Nov 11 2026. No macro, syntax, notation, axiom, sorry.
-/
import Derived.Test.YtipdnfdeacdkgaaDoorRows
import GoSem.ClaimSeven
namespace Go.Proofs.YtipdnfdeacdkgaaDoor
namespace Rows

/-- THE TIED CARD OF 'cleaverlaw07.FlinRows'. -/
def flinRowsCard : Claim7 := { stood := { row := flinRowsRow, standIns := [], harness := (true, "c91d2f877f108f511a3fa7d107fd3ee36fabac5fa9cf42bfd02d39d5ab5ba34b"), looks := false }, kinds := [], alts := [], laidByText := true, laidKinds := [.data], laidTests := true, laidLooks := .later }
def FlinRowsCardSaid : Prop := Claim7.holds Tryd.pinned (.plain (OpenSpec.ofChange flinRowsSpec)) flinRowsCard

/-- THE TIED CARD OF 'cleaverlaw07.FlinNulls'. -/
def flinNullsCard : Claim7 := { stood := { row := flinNullsRow, standIns := [], harness := (true, "c91d2f877f108f511a3fa7d107fd3ee36fabac5fa9cf42bfd02d39d5ab5ba34b"), looks := false }, kinds := [], alts := [], laidByText := true, laidKinds := [.data], laidTests := true, laidLooks := .later }
def FlinNullsCardSaid : Prop := Claim7.holds Tryd.pinned (.plain (OpenSpec.ofChange flinNullsSpec)) flinNullsCard

/-- THE TIED CARD OF 'cleaverlaw07.FlinApplies'. -/
def flinAppliesCard : Claim7 := { stood := { row := flinAppliesRow, standIns := [], harness := (true, "c91d2f877f108f511a3fa7d107fd3ee36fabac5fa9cf42bfd02d39d5ab5ba34b"), looks := false }, kinds := [], alts := [], laidByText := true, laidKinds := [.data], laidTests := true, laidLooks := .later }
def FlinAppliesCardSaid : Prop := Claim7.holds Tryd.pinned (.plain (OpenSpec.ofChange flinAppliesSpec)) flinAppliesCard

/-- THE TIED CARD OF 'cleaverlaw07.FlinPlain'. -/
def flinPlainCard : Claim7 := { stood := { row := flinPlainRow, standIns := [], harness := (true, "c91d2f877f108f511a3fa7d107fd3ee36fabac5fa9cf42bfd02d39d5ab5ba34b"), looks := false }, kinds := [], alts := [], laidByText := true, laidKinds := [.data], laidTests := true, laidLooks := .later }
def FlinPlainCardSaid : Prop := Claim7.holds Tryd.pinned (.plain (OpenSpec.ofChange flinPlainSpec)) flinPlainCard

/-- THE TIED CARD OF 'cleaverlaw07.FlinCounts'. -/
def flinCountsCard : Claim7 := { stood := { row := flinCountsRow, standIns := [], harness := (true, "c91d2f877f108f511a3fa7d107fd3ee36fabac5fa9cf42bfd02d39d5ab5ba34b"), looks := false }, kinds := [], alts := [], laidByText := true, laidKinds := [.data], laidTests := true, laidLooks := .later }
def FlinCountsCardSaid : Prop := Claim7.holds Tryd.pinned (.plain (OpenSpec.ofChange flinCountsSpec)) flinCountsCard

/-- THE TIED CARD OF 'cleaverlaw07.FlinLinear'. -/
def flinLinearCard : Claim7 := { stood := { row := flinLinearRow, standIns := [], harness := (true, "c91d2f877f108f511a3fa7d107fd3ee36fabac5fa9cf42bfd02d39d5ab5ba34b"), looks := false }, kinds := [], alts := [], laidByText := true, laidKinds := [.data], laidTests := true, laidLooks := .later }
def FlinLinearCardSaid : Prop := Claim7.holds Tryd.pinned (.plain (OpenSpec.ofChange flinLinearSpec)) flinLinearCard

/-- THE SECOND FORM's CARD OF 'cleaverlaw07.FlinRows'. -/
def flinRowsUptoCard : Claim7 := { stood := { row := flinRowsUptoRow, standIns := [], harness := (true, "c91d2f877f108f511a3fa7d107fd3ee36fabac5fa9cf42bfd02d39d5ab5ba34b"), looks := false }, kinds := [], alts := [], laidByText := true, laidKinds := [.data], laidTests := true, laidLooks := .later }
def FlinRowsUptoCardSaid : Prop := Claim7.holds Tryd.pinned (.plain (OpenSpec.upto flinRowsSpec)) flinRowsUptoCard

/-- THE SECOND FORM's CARD OF 'cleaverlaw07.FlinNulls'. -/
def flinNullsUptoCard : Claim7 := { stood := { row := flinNullsUptoRow, standIns := [], harness := (true, "c91d2f877f108f511a3fa7d107fd3ee36fabac5fa9cf42bfd02d39d5ab5ba34b"), looks := false }, kinds := [], alts := [], laidByText := true, laidKinds := [.data], laidTests := true, laidLooks := .later }
def FlinNullsUptoCardSaid : Prop := Claim7.holds Tryd.pinned (.plain (OpenSpec.upto flinNullsSpec)) flinNullsUptoCard

/-- THE SECOND FORM's CARD OF 'cleaverlaw07.FlinApplies'. -/
def flinAppliesUptoCard : Claim7 := { stood := { row := flinAppliesUptoRow, standIns := [], harness := (true, "c91d2f877f108f511a3fa7d107fd3ee36fabac5fa9cf42bfd02d39d5ab5ba34b"), looks := false }, kinds := [], alts := [], laidByText := true, laidKinds := [.data], laidTests := true, laidLooks := .later }
def FlinAppliesUptoCardSaid : Prop := Claim7.holds Tryd.pinned (.plain (OpenSpec.upto flinAppliesSpec)) flinAppliesUptoCard

/-- THE SECOND FORM's CARD OF 'cleaverlaw07.FlinPlain'. -/
def flinPlainUptoCard : Claim7 := { stood := { row := flinPlainUptoRow, standIns := [], harness := (true, "c91d2f877f108f511a3fa7d107fd3ee36fabac5fa9cf42bfd02d39d5ab5ba34b"), looks := false }, kinds := [], alts := [], laidByText := true, laidKinds := [.data], laidTests := true, laidLooks := .later }
def FlinPlainUptoCardSaid : Prop := Claim7.holds Tryd.pinned (.plain (OpenSpec.upto flinPlainSpec)) flinPlainUptoCard

/-- THE SECOND FORM's CARD OF 'cleaverlaw07.FlinCounts'. -/
def flinCountsUptoCard : Claim7 := { stood := { row := flinCountsUptoRow, standIns := [], harness := (true, "c91d2f877f108f511a3fa7d107fd3ee36fabac5fa9cf42bfd02d39d5ab5ba34b"), looks := false }, kinds := [], alts := [], laidByText := true, laidKinds := [.data], laidTests := true, laidLooks := .later }
def FlinCountsUptoCardSaid : Prop := Claim7.holds Tryd.pinned (.plain (OpenSpec.upto flinCountsSpec)) flinCountsUptoCard

/-- THE SECOND FORM's CARD OF 'cleaverlaw07.FlinLinear'. -/
def flinLinearUptoCard : Claim7 := { stood := { row := flinLinearUptoRow, standIns := [], harness := (true, "c91d2f877f108f511a3fa7d107fd3ee36fabac5fa9cf42bfd02d39d5ab5ba34b"), looks := false }, kinds := [], alts := [], laidByText := true, laidKinds := [.data], laidTests := true, laidLooks := .later }
def FlinLinearUptoCardSaid : Prop := Claim7.holds Tryd.pinned (.plain (OpenSpec.upto flinLinearSpec)) flinLinearUptoCard
end Rows
end Go.Proofs.YtipdnfdeacdkgaaDoor
