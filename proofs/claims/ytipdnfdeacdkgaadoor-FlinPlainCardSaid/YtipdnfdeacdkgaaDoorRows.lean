/-
  NARROWER THAN 'FOR EVERY INPUT', by the rows' own cells (each row's printed sentence says how): FlinRows: laid · FlinNulls: laid · FlinApplies: laid · FlinPlain: laid · FlinCounts: laid · FlinLinear: laid.
  DERIVED. THE GIVEN ROWS OF THIS SEAT. 6 by the template 'for every input the law returns true; each argument reads behind the call as it read before'; 0 by the template 'total and deterministic' (their statements: YtipdnfdeacdkgaaDoorTotals.lean).
  GIVEN WITH THE SEED: the statements are not yours to turn. If you find one false, say at which input.
  Laid BY PROGRAM, IN A SANDBOX (cutbox-rows.mjs): the forced cells as the released guide's own fill.sh prints them over the translation 55e09b1cf1544633… (all of the seat's roots in one cut). By AI agents, Wed Nov 11 2026. No macro, syntax, notation, axiom, sorry.
-/
import Derived.Test.YtipdnfdeacdkgaaDoorChecked
import GoSem.Claim
import GoSem.ClaimJoined
import GoSem.ClaimMapViews
import Derived.JoinedTies
import Derived.KernelRfl
namespace Go.Proofs.YtipdnfdeacdkgaaDoor
/- THE CELL 'sum', in the pinned program and in every row, IS THE sha256 OF THE DUMP (.gsa) THAT YtipdnfdeacdkgaaDoorProg.lean LOADS. Nothing in Lean hashes anything: it is a label: what it is worth is what the hold of that sum in a sandbox is worth. -/
noncomputable def Tryd.pinned : Pinned := { name := "ytipdnfdeacdkgaadoor", sum := "55e09b1cf1544633834db1ab5eedebc04647f5da7f333caff5c68f0bc8036c1a", checked := Tryd.checked }
namespace Rows
def none {H : Type} : Left H := { results := [], args := [] }

/- WHAT THE LISTED PACKAGE-LEVEL VARIABLES READ AS WHEN THE CALL BEGINS. Each datum BY PROGRAM (the guide's laid-datum.mjs) off the statement by which the dump's own 'gosem.cut.vars' lays the variable. In a bare row this is a premise. The card (YtipdnfdeacdkgaaDoorCards.lean) ties it to the program's text. -/
def laid_cleaver_prime_divisors {H : Type} : DataW H := .agg [.lit (.int .u8 2), .lit (.int .u8 3), .lit (.int .u8 5), .lit (.int .u8 7), .lit (.int .u8 11), .lit (.int .u8 13), .lit (.int .u8 17), .lit (.int .u8 19), .lit (.int .u8 23), .lit (.int .u8 29), .lit (.int .u8 31), .lit (.int .u8 37), .lit (.int .u8 41), .lit (.int .u8 43), .lit (.int .u8 47), .lit (.int .u8 53), .lit (.int .u8 59), .lit (.int .u8 61), .lit (.int .u8 67), .lit (.int .u8 71), .lit (.int .u8 73), .lit (.int .u8 79), .lit (.int .u8 83), .lit (.int .u8 89), .lit (.int .u8 97), .lit (.int .u8 101), .lit (.int .u8 103), .lit (.int .u8 107), .lit (.int .u8 109), .lit (.int .u8 113), .lit (.int .u8 127), .lit (.int .u8 131), .lit (.int .u8 137), .lit (.int .u8 139), .lit (.int .u8 149), .lit (.int .u8 151), .lit (.int .u8 157), .lit (.int .u8 163), .lit (.int .u8 167), .lit (.int .u8 173), .lit (.int .u8 179), .lit (.int .u8 181), .lit (.int .u8 191), .lit (.int .u8 193), .lit (.int .u8 197), .lit (.int .u8 199), .lit (.int .u8 211), .lit (.int .u8 223), .lit (.int .u8 227), .lit (.int .u8 229), .lit (.int .u8 233), .lit (.int .u8 239), .lit (.int .u8 241), .lit (.int .u8 251)]

/-- 'cleaverlaw07.FlinRows': WHATEVER THE INPUT: true; the input reads as it did. -/
def flinRowsSpec : ChangeSpec := { name := "flinRows", fn := fun _ => fun
  | [d1, d2] => { results := [.lit (.bool true)], args := [d1, d2] }
  | _ => none }
def flinRowsRow : OpenClaim := { program := "ytipdnfdeacdkgaadoor", sum := "55e09b1cf1544633834db1ab5eedebc04647f5da7f333caff5c68f0bc8036c1a", func := "cleaver/cleaverlaw07.FlinRows", spec := "flinRows", inPlace := ["slices.overlaps[cleaver/flin.row]"], unfollowed := true, recurses := true, named := ["cleaver/prime.divisors"], apart := false, laid := [("cleaver/prime.divisors", laid_cleaver_prime_divisors)] }
def FlinRowsSaid : Prop := flinRowsRow.holds Tryd.pinned (OpenSpec.ofChange flinRowsSpec)

/-- ITS FALSE NEIGHBOUR: 'it returns false'. Refute it at one input. -/
def flinRowsWrong : ChangeSpec := { name := "flinRows", fn := fun _ => fun
  | [d1, d2] => { results := [.lit (.bool false)], args := [d1, d2] }
  | _ => none }
def FlinRowsWrongFalsely : Prop := flinRowsRow.holds Tryd.pinned (OpenSpec.ofChange flinRowsWrong)

/-- 'cleaverlaw07.FlinNulls': WHATEVER THE INPUT: true; the input reads as it did. -/
def flinNullsSpec : ChangeSpec := { name := "flinNulls", fn := fun _ => fun
  | [d1, d2, d3] => { results := [.lit (.bool true)], args := [d1, d2, d3] }
  | _ => none }
def flinNullsRow : OpenClaim := { program := "ytipdnfdeacdkgaadoor", sum := "55e09b1cf1544633834db1ab5eedebc04647f5da7f333caff5c68f0bc8036c1a", func := "cleaver/cleaverlaw07.FlinNulls", spec := "flinNulls", inPlace := ["slices.overlaps[cleaver/flin.row]"], unfollowed := true, recurses := true, named := ["cleaver/prime.divisors"], apart := false, laid := [("cleaver/prime.divisors", laid_cleaver_prime_divisors)] }
def FlinNullsSaid : Prop := flinNullsRow.holds Tryd.pinned (OpenSpec.ofChange flinNullsSpec)

/-- ITS FALSE NEIGHBOUR: 'it returns false'. Refute it at one input. -/
def flinNullsWrong : ChangeSpec := { name := "flinNulls", fn := fun _ => fun
  | [d1, d2, d3] => { results := [.lit (.bool false)], args := [d1, d2, d3] }
  | _ => none }
def FlinNullsWrongFalsely : Prop := flinNullsRow.holds Tryd.pinned (OpenSpec.ofChange flinNullsWrong)

/-- 'cleaverlaw07.FlinApplies': WHATEVER THE INPUT: true; the input reads as it did. -/
def flinAppliesSpec : ChangeSpec := { name := "flinApplies", fn := fun _ => fun
  | [d1, d2, d3] => { results := [.lit (.bool true)], args := [d1, d2, d3] }
  | _ => none }
def flinAppliesRow : OpenClaim := { program := "ytipdnfdeacdkgaadoor", sum := "55e09b1cf1544633834db1ab5eedebc04647f5da7f333caff5c68f0bc8036c1a", func := "cleaver/cleaverlaw07.FlinApplies", spec := "flinApplies", inPlace := ["slices.overlaps[cleaver/flin.row]"], unfollowed := true, recurses := true, named := ["cleaver/prime.divisors"], apart := false, laid := [("cleaver/prime.divisors", laid_cleaver_prime_divisors)] }
def FlinAppliesSaid : Prop := flinAppliesRow.holds Tryd.pinned (OpenSpec.ofChange flinAppliesSpec)

/-- ITS FALSE NEIGHBOUR: 'it returns false'. Refute it at one input. -/
def flinAppliesWrong : ChangeSpec := { name := "flinApplies", fn := fun _ => fun
  | [d1, d2, d3] => { results := [.lit (.bool false)], args := [d1, d2, d3] }
  | _ => none }
def FlinAppliesWrongFalsely : Prop := flinAppliesRow.holds Tryd.pinned (OpenSpec.ofChange flinAppliesWrong)

/-- 'cleaverlaw07.FlinPlain': WHATEVER THE INPUT: true; the input reads as it did. -/
def flinPlainSpec : ChangeSpec := { name := "flinPlain", fn := fun _ => fun
  | [d1, d2] => { results := [.lit (.bool true)], args := [d1, d2] }
  | _ => none }
def flinPlainRow : OpenClaim := { program := "ytipdnfdeacdkgaadoor", sum := "55e09b1cf1544633834db1ab5eedebc04647f5da7f333caff5c68f0bc8036c1a", func := "cleaver/cleaverlaw07.FlinPlain", spec := "flinPlain", inPlace := ["slices.overlaps[cleaver/flin.row]"], unfollowed := true, recurses := true, named := ["cleaver/prime.divisors"], apart := false, laid := [("cleaver/prime.divisors", laid_cleaver_prime_divisors)] }
def FlinPlainSaid : Prop := flinPlainRow.holds Tryd.pinned (OpenSpec.ofChange flinPlainSpec)

/-- ITS FALSE NEIGHBOUR: 'it returns false'. Refute it at one input. -/
def flinPlainWrong : ChangeSpec := { name := "flinPlain", fn := fun _ => fun
  | [d1, d2] => { results := [.lit (.bool false)], args := [d1, d2] }
  | _ => none }
def FlinPlainWrongFalsely : Prop := flinPlainRow.holds Tryd.pinned (OpenSpec.ofChange flinPlainWrong)

/-- 'cleaverlaw07.FlinCounts': WHATEVER THE INPUT: true; the input reads as it did. -/
def flinCountsSpec : ChangeSpec := { name := "flinCounts", fn := fun _ => fun
  | [d1, d2, d3] => { results := [.lit (.bool true)], args := [d1, d2, d3] }
  | _ => none }
def flinCountsRow : OpenClaim := { program := "ytipdnfdeacdkgaadoor", sum := "55e09b1cf1544633834db1ab5eedebc04647f5da7f333caff5c68f0bc8036c1a", func := "cleaver/cleaverlaw07.FlinCounts", spec := "flinCounts", inPlace := ["slices.overlaps[cleaver/flin.row]"], unfollowed := true, recurses := true, named := ["cleaver/prime.divisors"], apart := false, laid := [("cleaver/prime.divisors", laid_cleaver_prime_divisors)] }
def FlinCountsSaid : Prop := flinCountsRow.holds Tryd.pinned (OpenSpec.ofChange flinCountsSpec)

/-- ITS FALSE NEIGHBOUR: 'it returns false'. Refute it at one input. -/
def flinCountsWrong : ChangeSpec := { name := "flinCounts", fn := fun _ => fun
  | [d1, d2, d3] => { results := [.lit (.bool false)], args := [d1, d2, d3] }
  | _ => none }
def FlinCountsWrongFalsely : Prop := flinCountsRow.holds Tryd.pinned (OpenSpec.ofChange flinCountsWrong)

/-- 'cleaverlaw07.FlinLinear': WHATEVER THE INPUT: true; the input reads as it did. -/
def flinLinearSpec : ChangeSpec := { name := "flinLinear", fn := fun _ => fun
  | [d1, d2, d3, d4, d5] => { results := [.lit (.bool true)], args := [d1, d2, d3, d4, d5] }
  | _ => none }
def flinLinearRow : OpenClaim := { program := "ytipdnfdeacdkgaadoor", sum := "55e09b1cf1544633834db1ab5eedebc04647f5da7f333caff5c68f0bc8036c1a", func := "cleaver/cleaverlaw07.FlinLinear", spec := "flinLinear", inPlace := ["slices.overlaps[cleaver/flin.row]"], unfollowed := true, recurses := true, named := ["cleaver/prime.divisors"], apart := false, laid := [("cleaver/prime.divisors", laid_cleaver_prime_divisors)] }
def FlinLinearSaid : Prop := flinLinearRow.holds Tryd.pinned (OpenSpec.ofChange flinLinearSpec)

/-- ITS FALSE NEIGHBOUR: 'it returns false'. Refute it at one input. -/
def flinLinearWrong : ChangeSpec := { name := "flinLinear", fn := fun _ => fun
  | [d1, d2, d3, d4, d5] => { results := [.lit (.bool false)], args := [d1, d2, d3, d4, d5] }
  | _ => none }
def FlinLinearWrongFalsely : Prop := flinLinearRow.holds Tryd.pinned (OpenSpec.ofChange flinLinearWrong)

/- THE SECOND FORM. 'bulk': how many values and letters a reading holds, each counted each time it is reached (what is shared counts as often as it is met; a slice's spare places count too). A statement '..UptoSaid' is the law's where the arguments, and the package variables that the reading takes, are together of bulk at most 1048576: NARROWER than '..Said'. Prove '..Said' where nothing that the law and all that it calls make is longer than what came in: it says more and counts as full. Else prove '..UptoSaid'. A law counts once. -/
mutual
def uptoBulk {H : Type} : DataW H → Nat
  | .lit (.string bytes) => bytes.length + 1
  | .lit _ => 1
  | .nil => 1
  | .ptr d => uptoBulk d + 1
  | .slice elems spare => uptoBulkAll elems + uptoBulkAll spare + 1
  | .agg parts => uptoBulkAll parts + 1
  | .iface _ d => uptoBulk d + 1
  | .map entries => uptoBulkEntries entries + 1
  | .held _ => 1
def uptoBulkAll {H : Type} : List (DataW H) → Nat
  | [] => 0
  | d :: r => uptoBulk d + uptoBulkAll r
def uptoBulkEntries {H : Type} : List (Lit × DataW H) → Nat
  | [] => 0
  | x :: r => uptoBulkEntry x + uptoBulkEntries r
def uptoBulkEntry {H : Type} : Lit × DataW H → Nat
  | (.string bytes, d) => bytes.length + uptoBulk d + 1
  | (_, d) => uptoBulk d + 1
 end
def uptoSmall : (H : Type) → List (DataW H) → Bool := fun _ ds => decide (uptoBulkAll ds ≤ 1048576)
def OpenSpec.upto (s : _root_.Go.ChangeSpec) : _root_.Go.OpenSpec := { _root_.Go.OpenSpec.ofChange s with cond := some uptoSmall }

/-- 'cleaverlaw07.FlinRows', WHERE WHAT IT READS IS OF BULK AT MOST 1048576: true; the input reads as it did. -/
def flinRowsUptoRow : OpenClaim := { program := "ytipdnfdeacdkgaadoor", sum := "55e09b1cf1544633834db1ab5eedebc04647f5da7f333caff5c68f0bc8036c1a", func := "cleaver/cleaverlaw07.FlinRows", spec := "flinRows", inPlace := ["slices.overlaps[cleaver/flin.row]"], unfollowed := true, recurses := true, named := ["cleaver/prime.divisors"], apart := false, laid := [("cleaver/prime.divisors", laid_cleaver_prime_divisors)], narrowed := true }
def FlinRowsUptoSaid : Prop := flinRowsUptoRow.holds Tryd.pinned (OpenSpec.upto flinRowsSpec)

/-- 'cleaverlaw07.FlinNulls', WHERE WHAT IT READS IS OF BULK AT MOST 1048576: true; the input reads as it did. -/
def flinNullsUptoRow : OpenClaim := { program := "ytipdnfdeacdkgaadoor", sum := "55e09b1cf1544633834db1ab5eedebc04647f5da7f333caff5c68f0bc8036c1a", func := "cleaver/cleaverlaw07.FlinNulls", spec := "flinNulls", inPlace := ["slices.overlaps[cleaver/flin.row]"], unfollowed := true, recurses := true, named := ["cleaver/prime.divisors"], apart := false, laid := [("cleaver/prime.divisors", laid_cleaver_prime_divisors)], narrowed := true }
def FlinNullsUptoSaid : Prop := flinNullsUptoRow.holds Tryd.pinned (OpenSpec.upto flinNullsSpec)

/-- 'cleaverlaw07.FlinApplies', WHERE WHAT IT READS IS OF BULK AT MOST 1048576: true; the input reads as it did. -/
def flinAppliesUptoRow : OpenClaim := { program := "ytipdnfdeacdkgaadoor", sum := "55e09b1cf1544633834db1ab5eedebc04647f5da7f333caff5c68f0bc8036c1a", func := "cleaver/cleaverlaw07.FlinApplies", spec := "flinApplies", inPlace := ["slices.overlaps[cleaver/flin.row]"], unfollowed := true, recurses := true, named := ["cleaver/prime.divisors"], apart := false, laid := [("cleaver/prime.divisors", laid_cleaver_prime_divisors)], narrowed := true }
def FlinAppliesUptoSaid : Prop := flinAppliesUptoRow.holds Tryd.pinned (OpenSpec.upto flinAppliesSpec)

/-- 'cleaverlaw07.FlinPlain', WHERE WHAT IT READS IS OF BULK AT MOST 1048576: true; the input reads as it did. -/
def flinPlainUptoRow : OpenClaim := { program := "ytipdnfdeacdkgaadoor", sum := "55e09b1cf1544633834db1ab5eedebc04647f5da7f333caff5c68f0bc8036c1a", func := "cleaver/cleaverlaw07.FlinPlain", spec := "flinPlain", inPlace := ["slices.overlaps[cleaver/flin.row]"], unfollowed := true, recurses := true, named := ["cleaver/prime.divisors"], apart := false, laid := [("cleaver/prime.divisors", laid_cleaver_prime_divisors)], narrowed := true }
def FlinPlainUptoSaid : Prop := flinPlainUptoRow.holds Tryd.pinned (OpenSpec.upto flinPlainSpec)

/-- 'cleaverlaw07.FlinCounts', WHERE WHAT IT READS IS OF BULK AT MOST 1048576: true; the input reads as it did. -/
def flinCountsUptoRow : OpenClaim := { program := "ytipdnfdeacdkgaadoor", sum := "55e09b1cf1544633834db1ab5eedebc04647f5da7f333caff5c68f0bc8036c1a", func := "cleaver/cleaverlaw07.FlinCounts", spec := "flinCounts", inPlace := ["slices.overlaps[cleaver/flin.row]"], unfollowed := true, recurses := true, named := ["cleaver/prime.divisors"], apart := false, laid := [("cleaver/prime.divisors", laid_cleaver_prime_divisors)], narrowed := true }
def FlinCountsUptoSaid : Prop := flinCountsUptoRow.holds Tryd.pinned (OpenSpec.upto flinCountsSpec)

/-- 'cleaverlaw07.FlinLinear', WHERE WHAT IT READS IS OF BULK AT MOST 1048576: true; the input reads as it did. -/
def flinLinearUptoRow : OpenClaim := { program := "ytipdnfdeacdkgaadoor", sum := "55e09b1cf1544633834db1ab5eedebc04647f5da7f333caff5c68f0bc8036c1a", func := "cleaver/cleaverlaw07.FlinLinear", spec := "flinLinear", inPlace := ["slices.overlaps[cleaver/flin.row]"], unfollowed := true, recurses := true, named := ["cleaver/prime.divisors"], apart := false, laid := [("cleaver/prime.divisors", laid_cleaver_prime_divisors)], narrowed := true }
def FlinLinearUptoSaid : Prop := flinLinearUptoRow.holds Tryd.pinned (OpenSpec.upto flinLinearSpec)

end Rows
end Go.Proofs.YtipdnfdeacdkgaaDoor
