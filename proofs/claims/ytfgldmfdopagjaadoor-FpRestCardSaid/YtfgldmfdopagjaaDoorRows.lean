/-
  NARROWER THAN 'FOR EVERY INPUT', by the rows' own cells (each row's printed sentence says how): FpAdds: laid · FpDivides: laid · FpField: laid · FpPowers: laid · FpRest: laid.
  DERIVED. THE GIVEN ROWS OF THIS SEAT. 5 by the template 'for every input the law returns true; each argument reads behind the call as it read before'; 0 by the template 'total and deterministic' (their statements: YtfgldmfdopagjaaDoorTotals.lean).
  GIVEN WITH THE SEED: the statements are not yours to turn. If you find one false, say at which input.
  Laid BY PROGRAM, IN A SANDBOX (cutbox-rows.mjs): the forced cells as the released guide's own fill.sh prints them over the translation 9bb776ff5eda8f0f… (all of the seat's roots in one cut). By AI agents, Wed Nov 11 2026. No macro, syntax, notation, axiom, sorry.
-/
import Derived.Test.YtfgldmfdopagjaaDoorChecked
import GoSem.Claim
import GoSem.ClaimJoined
import GoSem.ClaimMapViews
import Derived.JoinedTies
import Derived.KernelRfl
namespace Go.Proofs.YtfgldmfdopagjaaDoor
/- THE CELL 'sum', in the pinned program and in every row, IS THE sha256 OF THE DUMP (.gsa) THAT YtfgldmfdopagjaaDoorProg.lean LOADS. Nothing in Lean hashes anything: it is a label: what it is worth is what the hold of that sum in a sandbox is worth. -/
noncomputable def Tryd.pinned : Pinned := { name := "ytfgldmfdopagjaadoor", sum := "9bb776ff5eda8f0f3ce1efb9598fc864cbaa18d491610198a75c6aa747367e50", checked := Tryd.checked }
namespace Rows
def none {H : Type} : Left H := { results := [], args := [] }

/- WHAT THE LISTED PACKAGE-LEVEL VARIABLES READ AS WHEN THE CALL BEGINS. Each datum BY PROGRAM (the guide's laid-datum.mjs) off the statement by which the dump's own 'gosem.cut.vars' lays the variable. In a bare row this is a premise. The card (YtfgldmfdopagjaaDoorCards.lean) ties it to the program's text. -/
def laid_cleaver_prime_divisors {H : Type} : DataW H := .agg [.lit (.int .u8 2), .lit (.int .u8 3), .lit (.int .u8 5), .lit (.int .u8 7), .lit (.int .u8 11), .lit (.int .u8 13), .lit (.int .u8 17), .lit (.int .u8 19), .lit (.int .u8 23), .lit (.int .u8 29), .lit (.int .u8 31), .lit (.int .u8 37), .lit (.int .u8 41), .lit (.int .u8 43), .lit (.int .u8 47), .lit (.int .u8 53), .lit (.int .u8 59), .lit (.int .u8 61), .lit (.int .u8 67), .lit (.int .u8 71), .lit (.int .u8 73), .lit (.int .u8 79), .lit (.int .u8 83), .lit (.int .u8 89), .lit (.int .u8 97), .lit (.int .u8 101), .lit (.int .u8 103), .lit (.int .u8 107), .lit (.int .u8 109), .lit (.int .u8 113), .lit (.int .u8 127), .lit (.int .u8 131), .lit (.int .u8 137), .lit (.int .u8 139), .lit (.int .u8 149), .lit (.int .u8 151), .lit (.int .u8 157), .lit (.int .u8 163), .lit (.int .u8 167), .lit (.int .u8 173), .lit (.int .u8 179), .lit (.int .u8 181), .lit (.int .u8 191), .lit (.int .u8 193), .lit (.int .u8 197), .lit (.int .u8 199), .lit (.int .u8 211), .lit (.int .u8 223), .lit (.int .u8 227), .lit (.int .u8 229), .lit (.int .u8 233), .lit (.int .u8 239), .lit (.int .u8 241), .lit (.int .u8 251)]

/-- 'cleaverlaw05.FpAdds': WHATEVER THE INPUT: true; the input reads as it did. -/
def fpAddsSpec : ChangeSpec := { name := "fpAdds", fn := fun _ => fun
  | [d1, d2, d3] => { results := [.lit (.bool true)], args := [d1, d2, d3] }
  | _ => none }
def fpAddsRow : OpenClaim := { program := "ytfgldmfdopagjaadoor", sum := "9bb776ff5eda8f0f3ce1efb9598fc864cbaa18d491610198a75c6aa747367e50", func := "cleaver/cleaverlaw05.FpAdds", spec := "fpAdds", named := ["cleaver/prime.divisors"], apart := false, laid := [("cleaver/prime.divisors", laid_cleaver_prime_divisors)] }
def FpAddsSaid : Prop := fpAddsRow.holds Tryd.pinned (OpenSpec.ofChange fpAddsSpec)

/-- ITS FALSE NEIGHBOUR: 'it returns false'. Refute it at one input. -/
def fpAddsWrong : ChangeSpec := { name := "fpAdds", fn := fun _ => fun
  | [d1, d2, d3] => { results := [.lit (.bool false)], args := [d1, d2, d3] }
  | _ => none }
def FpAddsWrongFalsely : Prop := fpAddsRow.holds Tryd.pinned (OpenSpec.ofChange fpAddsWrong)

/-- 'cleaverlaw05.FpDivides': WHATEVER THE INPUT: true; the input reads as it did. -/
def fpDividesSpec : ChangeSpec := { name := "fpDivides", fn := fun _ => fun
  | [d1, d2, d3, d4] => { results := [.lit (.bool true)], args := [d1, d2, d3, d4] }
  | _ => none }
def fpDividesRow : OpenClaim := { program := "ytfgldmfdopagjaadoor", sum := "9bb776ff5eda8f0f3ce1efb9598fc864cbaa18d491610198a75c6aa747367e50", func := "cleaver/cleaverlaw05.FpDivides", spec := "fpDivides", named := ["cleaver/prime.divisors"], apart := false, laid := [("cleaver/prime.divisors", laid_cleaver_prime_divisors)] }
def FpDividesSaid : Prop := fpDividesRow.holds Tryd.pinned (OpenSpec.ofChange fpDividesSpec)

/-- ITS FALSE NEIGHBOUR: 'it returns false'. Refute it at one input. -/
def fpDividesWrong : ChangeSpec := { name := "fpDivides", fn := fun _ => fun
  | [d1, d2, d3, d4] => { results := [.lit (.bool false)], args := [d1, d2, d3, d4] }
  | _ => none }
def FpDividesWrongFalsely : Prop := fpDividesRow.holds Tryd.pinned (OpenSpec.ofChange fpDividesWrong)

/-- 'cleaverlaw05.FpField': WHATEVER THE INPUT: true; the input reads as it did. -/
def fpFieldSpec : ChangeSpec := { name := "fpField", fn := fun _ => fun
  | [d1, d2, d3, d4] => { results := [.lit (.bool true)], args := [d1, d2, d3, d4] }
  | _ => none }
def fpFieldRow : OpenClaim := { program := "ytfgldmfdopagjaadoor", sum := "9bb776ff5eda8f0f3ce1efb9598fc864cbaa18d491610198a75c6aa747367e50", func := "cleaver/cleaverlaw05.FpField", spec := "fpField", named := ["cleaver/prime.divisors"], apart := false, laid := [("cleaver/prime.divisors", laid_cleaver_prime_divisors)] }
def FpFieldSaid : Prop := fpFieldRow.holds Tryd.pinned (OpenSpec.ofChange fpFieldSpec)

/-- ITS FALSE NEIGHBOUR: 'it returns false'. Refute it at one input. -/
def fpFieldWrong : ChangeSpec := { name := "fpField", fn := fun _ => fun
  | [d1, d2, d3, d4] => { results := [.lit (.bool false)], args := [d1, d2, d3, d4] }
  | _ => none }
def FpFieldWrongFalsely : Prop := fpFieldRow.holds Tryd.pinned (OpenSpec.ofChange fpFieldWrong)

/-- 'cleaverlaw05.FpPowers': WHATEVER THE INPUT: true; the input reads as it did. -/
def fpPowersSpec : ChangeSpec := { name := "fpPowers", fn := fun _ => fun
  | [d1, d2, d3, d4] => { results := [.lit (.bool true)], args := [d1, d2, d3, d4] }
  | _ => none }
def fpPowersRow : OpenClaim := { program := "ytfgldmfdopagjaadoor", sum := "9bb776ff5eda8f0f3ce1efb9598fc864cbaa18d491610198a75c6aa747367e50", func := "cleaver/cleaverlaw05.FpPowers", spec := "fpPowers", named := ["cleaver/prime.divisors"], apart := false, laid := [("cleaver/prime.divisors", laid_cleaver_prime_divisors)] }
def FpPowersSaid : Prop := fpPowersRow.holds Tryd.pinned (OpenSpec.ofChange fpPowersSpec)

/-- ITS FALSE NEIGHBOUR: 'it returns false'. Refute it at one input. -/
def fpPowersWrong : ChangeSpec := { name := "fpPowers", fn := fun _ => fun
  | [d1, d2, d3, d4] => { results := [.lit (.bool false)], args := [d1, d2, d3, d4] }
  | _ => none }
def FpPowersWrongFalsely : Prop := fpPowersRow.holds Tryd.pinned (OpenSpec.ofChange fpPowersWrong)

/-- 'cleaverlaw05.FpRest': WHATEVER THE INPUT: true; the input reads as it did. -/
def fpRestSpec : ChangeSpec := { name := "fpRest", fn := fun _ => fun
  | [d1, d2] => { results := [.lit (.bool true)], args := [d1, d2] }
  | _ => none }
def fpRestRow : OpenClaim := { program := "ytfgldmfdopagjaadoor", sum := "9bb776ff5eda8f0f3ce1efb9598fc864cbaa18d491610198a75c6aa747367e50", func := "cleaver/cleaverlaw05.FpRest", spec := "fpRest", named := ["cleaver/prime.divisors"], apart := false, laid := [("cleaver/prime.divisors", laid_cleaver_prime_divisors)] }
def FpRestSaid : Prop := fpRestRow.holds Tryd.pinned (OpenSpec.ofChange fpRestSpec)

/-- ITS FALSE NEIGHBOUR: 'it returns false'. Refute it at one input. -/
def fpRestWrong : ChangeSpec := { name := "fpRest", fn := fun _ => fun
  | [d1, d2] => { results := [.lit (.bool false)], args := [d1, d2] }
  | _ => none }
def FpRestWrongFalsely : Prop := fpRestRow.holds Tryd.pinned (OpenSpec.ofChange fpRestWrong)

/- THE SECOND FORM. 'bulk': how many values and letters a reading holds, each counted each time it is reached (what is shared counts as often as it is met; a slice's spare places count too). A statement '..UptoSaid' is the law's where the arguments, and the package variables that the reading takes, are together of bulk at most 1048576: NARROWER than '..Said'. Prove '..Said' where nothing that the law and all that it calls make is longer than what came in: it says more and counts as full. Else prove '..UptoSaid'. A law counts once. -/
mutual
def uptoBulk {H : Type} : DataW H → Nat
  | .lit (.string bytes) => bytes.length + 1
  | .lit _ => 1
  | .nil => 1
  | .ptr d => uptoBulk d + 1
  | .slice elems spare => uptoBulkAll elems + uptoBulkAll spare + 1
  | .agg parts => uptoBulkAll parts + 1
  | .iface _ d => uptoBulk d + 1
  | .map entries => uptoBulkEntries entries + 1
  | .held _ => 1
def uptoBulkAll {H : Type} : List (DataW H) → Nat
  | [] => 0
  | d :: r => uptoBulk d + uptoBulkAll r
def uptoBulkEntries {H : Type} : List (Lit × DataW H) → Nat
  | [] => 0
  | x :: r => uptoBulkEntry x + uptoBulkEntries r
def uptoBulkEntry {H : Type} : Lit × DataW H → Nat
  | (.string bytes, d) => bytes.length + uptoBulk d + 1
  | (_, d) => uptoBulk d + 1
 end
def uptoSmall : (H : Type) → List (DataW H) → Bool := fun _ ds => decide (uptoBulkAll ds ≤ 1048576)
def OpenSpec.upto (s : _root_.Go.ChangeSpec) : _root_.Go.OpenSpec := { _root_.Go.OpenSpec.ofChange s with cond := some uptoSmall }

/-- 'cleaverlaw05.FpAdds', WHERE WHAT IT READS IS OF BULK AT MOST 1048576: true; the input reads as it did. -/
def fpAddsUptoRow : OpenClaim := { program := "ytfgldmfdopagjaadoor", sum := "9bb776ff5eda8f0f3ce1efb9598fc864cbaa18d491610198a75c6aa747367e50", func := "cleaver/cleaverlaw05.FpAdds", spec := "fpAdds", named := ["cleaver/prime.divisors"], apart := false, laid := [("cleaver/prime.divisors", laid_cleaver_prime_divisors)], narrowed := true }
def FpAddsUptoSaid : Prop := fpAddsUptoRow.holds Tryd.pinned (OpenSpec.upto fpAddsSpec)

/-- 'cleaverlaw05.FpDivides', WHERE WHAT IT READS IS OF BULK AT MOST 1048576: true; the input reads as it did. -/
def fpDividesUptoRow : OpenClaim := { program := "ytfgldmfdopagjaadoor", sum := "9bb776ff5eda8f0f3ce1efb9598fc864cbaa18d491610198a75c6aa747367e50", func := "cleaver/cleaverlaw05.FpDivides", spec := "fpDivides", named := ["cleaver/prime.divisors"], apart := false, laid := [("cleaver/prime.divisors", laid_cleaver_prime_divisors)], narrowed := true }
def FpDividesUptoSaid : Prop := fpDividesUptoRow.holds Tryd.pinned (OpenSpec.upto fpDividesSpec)

/-- 'cleaverlaw05.FpField', WHERE WHAT IT READS IS OF BULK AT MOST 1048576: true; the input reads as it did. -/
def fpFieldUptoRow : OpenClaim := { program := "ytfgldmfdopagjaadoor", sum := "9bb776ff5eda8f0f3ce1efb9598fc864cbaa18d491610198a75c6aa747367e50", func := "cleaver/cleaverlaw05.FpField", spec := "fpField", named := ["cleaver/prime.divisors"], apart := false, laid := [("cleaver/prime.divisors", laid_cleaver_prime_divisors)], narrowed := true }
def FpFieldUptoSaid : Prop := fpFieldUptoRow.holds Tryd.pinned (OpenSpec.upto fpFieldSpec)

/-- 'cleaverlaw05.FpPowers', WHERE WHAT IT READS IS OF BULK AT MOST 1048576: true; the input reads as it did. -/
def fpPowersUptoRow : OpenClaim := { program := "ytfgldmfdopagjaadoor", sum := "9bb776ff5eda8f0f3ce1efb9598fc864cbaa18d491610198a75c6aa747367e50", func := "cleaver/cleaverlaw05.FpPowers", spec := "fpPowers", named := ["cleaver/prime.divisors"], apart := false, laid := [("cleaver/prime.divisors", laid_cleaver_prime_divisors)], narrowed := true }
def FpPowersUptoSaid : Prop := fpPowersUptoRow.holds Tryd.pinned (OpenSpec.upto fpPowersSpec)

/-- 'cleaverlaw05.FpRest', WHERE WHAT IT READS IS OF BULK AT MOST 1048576: true; the input reads as it did. -/
def fpRestUptoRow : OpenClaim := { program := "ytfgldmfdopagjaadoor", sum := "9bb776ff5eda8f0f3ce1efb9598fc864cbaa18d491610198a75c6aa747367e50", func := "cleaver/cleaverlaw05.FpRest", spec := "fpRest", named := ["cleaver/prime.divisors"], apart := false, laid := [("cleaver/prime.divisors", laid_cleaver_prime_divisors)], narrowed := true }
def FpRestUptoSaid : Prop := fpRestUptoRow.holds Tryd.pinned (OpenSpec.upto fpRestSpec)

end Rows
end Go.Proofs.YtfgldmfdopagjaaDoor
