/-
  DERIVED. GIVEN WITH THE SEED: THE CARDS: each row of YtfgldmfdopagjaaDoorRows.lean that lists a variable, with what it lists TIED to the program's text (the seventh form; the later family's looks); each row that meets fmt, with fmt's text TOLD by the authors' own Lean function (tested against real Go, not proved from fmt's source: count such statements apart). THE CARD IS WHAT COUNTS. Prove the row's statement (the work); the ties are given (YtfgldmfdopagjaaDoorTie.lean); close each card by the builder's one call (the guide's Derived/Test/ToyasCard.lean, 'card_holds'). Laid BY PROGRAM, IN A SANDBOX (cutbox-door.mjs). By AI agents, Wed Nov 11 2026. No macro, syntax, notation, axiom, sorry.
-/
import Derived.Test.YtfgldmfdopagjaaDoorRows
import GoSem.ClaimSeven
namespace Go.Proofs.YtfgldmfdopagjaaDoor
namespace Rows

/-- THE TIED CARD OF 'cleaverlaw05.FpAdds'. -/
def fpAddsCard : Claim7 := { stood := { row := fpAddsRow, standIns := [], harness := (true, "884a8048101aea6efdf70a47defabe19a17c3e6b0e099663259e31620a677488"), looks := false }, kinds := [], alts := [], laidByText := true, laidKinds := [.data], laidTests := true, laidLooks := .later }
def FpAddsCardSaid : Prop := Claim7.holds Tryd.pinned (.plain (OpenSpec.ofChange fpAddsSpec)) fpAddsCard

/-- THE TIED CARD OF 'cleaverlaw05.FpDivides'. -/
def fpDividesCard : Claim7 := { stood := { row := fpDividesRow, standIns := [], harness := (true, "884a8048101aea6efdf70a47defabe19a17c3e6b0e099663259e31620a677488"), looks := false }, kinds := [], alts := [], laidByText := true, laidKinds := [.data], laidTests := true, laidLooks := .later }
def FpDividesCardSaid : Prop := Claim7.holds Tryd.pinned (.plain (OpenSpec.ofChange fpDividesSpec)) fpDividesCard

/-- THE TIED CARD OF 'cleaverlaw05.FpField'. -/
def fpFieldCard : Claim7 := { stood := { row := fpFieldRow, standIns := [], harness := (true, "884a8048101aea6efdf70a47defabe19a17c3e6b0e099663259e31620a677488"), looks := false }, kinds := [], alts := [], laidByText := true, laidKinds := [.data], laidTests := true, laidLooks := .later }
def FpFieldCardSaid : Prop := Claim7.holds Tryd.pinned (.plain (OpenSpec.ofChange fpFieldSpec)) fpFieldCard

/-- THE TIED CARD OF 'cleaverlaw05.FpPowers'. -/
def fpPowersCard : Claim7 := { stood := { row := fpPowersRow, standIns := [], harness := (true, "884a8048101aea6efdf70a47defabe19a17c3e6b0e099663259e31620a677488"), looks := false }, kinds := [], alts := [], laidByText := true, laidKinds := [.data], laidTests := true, laidLooks := .later }
def FpPowersCardSaid : Prop := Claim7.holds Tryd.pinned (.plain (OpenSpec.ofChange fpPowersSpec)) fpPowersCard

/-- THE TIED CARD OF 'cleaverlaw05.FpRest'. -/
def fpRestCard : Claim7 := { stood := { row := fpRestRow, standIns := [], harness := (true, "884a8048101aea6efdf70a47defabe19a17c3e6b0e099663259e31620a677488"), looks := false }, kinds := [], alts := [], laidByText := true, laidKinds := [.data], laidTests := true, laidLooks := .later }
def FpRestCardSaid : Prop := Claim7.holds Tryd.pinned (.plain (OpenSpec.ofChange fpRestSpec)) fpRestCard

/-- THE SECOND FORM's CARD OF 'cleaverlaw05.FpAdds'. -/
def fpAddsUptoCard : Claim7 := { stood := { row := fpAddsUptoRow, standIns := [], harness := (true, "884a8048101aea6efdf70a47defabe19a17c3e6b0e099663259e31620a677488"), looks := false }, kinds := [], alts := [], laidByText := true, laidKinds := [.data], laidTests := true, laidLooks := .later }
def FpAddsUptoCardSaid : Prop := Claim7.holds Tryd.pinned (.plain (OpenSpec.upto fpAddsSpec)) fpAddsUptoCard

/-- THE SECOND FORM's CARD OF 'cleaverlaw05.FpDivides'. -/
def fpDividesUptoCard : Claim7 := { stood := { row := fpDividesUptoRow, standIns := [], harness := (true, "884a8048101aea6efdf70a47defabe19a17c3e6b0e099663259e31620a677488"), looks := false }, kinds := [], alts := [], laidByText := true, laidKinds := [.data], laidTests := true, laidLooks := .later }
def FpDividesUptoCardSaid : Prop := Claim7.holds Tryd.pinned (.plain (OpenSpec.upto fpDividesSpec)) fpDividesUptoCard

/-- THE SECOND FORM's CARD OF 'cleaverlaw05.FpField'. -/
def fpFieldUptoCard : Claim7 := { stood := { row := fpFieldUptoRow, standIns := [], harness := (true, "884a8048101aea6efdf70a47defabe19a17c3e6b0e099663259e31620a677488"), looks := false }, kinds := [], alts := [], laidByText := true, laidKinds := [.data], laidTests := true, laidLooks := .later }
def FpFieldUptoCardSaid : Prop := Claim7.holds Tryd.pinned (.plain (OpenSpec.upto fpFieldSpec)) fpFieldUptoCard

/-- THE SECOND FORM's CARD OF 'cleaverlaw05.FpPowers'. -/
def fpPowersUptoCard : Claim7 := { stood := { row := fpPowersUptoRow, standIns := [], harness := (true, "884a8048101aea6efdf70a47defabe19a17c3e6b0e099663259e31620a677488"), looks := false }, kinds := [], alts := [], laidByText := true, laidKinds := [.data], laidTests := true, laidLooks := .later }
def FpPowersUptoCardSaid : Prop := Claim7.holds Tryd.pinned (.plain (OpenSpec.upto fpPowersSpec)) fpPowersUptoCard

/-- THE SECOND FORM's CARD OF 'cleaverlaw05.FpRest'. -/
def fpRestUptoCard : Claim7 := { stood := { row := fpRestUptoRow, standIns := [], harness := (true, "884a8048101aea6efdf70a47defabe19a17c3e6b0e099663259e31620a677488"), looks := false }, kinds := [], alts := [], laidByText := true, laidKinds := [.data], laidTests := true, laidLooks := .later }
def FpRestUptoCardSaid : Prop := Claim7.holds Tryd.pinned (.plain (OpenSpec.upto fpRestSpec)) fpRestUptoCard
end Rows
end Go.Proofs.YtfgldmfdopagjaaDoor
