/-
  NARROWER THAN 'FOR EVERY INPUT', by the rows' own cells (each row's printed sentence says how): FpolyAdds: laid · FpolyDivides: laid · FpolyGcds: laid · FpolyPowers: laid · FpolyRing: laid · FpolyRest: laid · FpolyDivisor: laid · FpolyLeibniz: laid · FpolyFrobenius: laid.
  DERIVED. THE GIVEN ROWS OF THIS SEAT. 9 by the template 'for every input the law returns true; each argument reads behind the call as it read before'; 0 by the template 'total and deterministic' (their statements: YtbipbpakbanacaaDoorTotals.lean).
  GIVEN WITH THE SEED: the statements are not yours to turn. If you find one false, say at which input.
  Laid BY PROGRAM, IN A SANDBOX (cutbox-rows.mjs): the forced cells as the released guide's own fill.sh prints them over the translation 19df2d9a14490651… (all of the seat's roots in one cut). By AI agents, Wed Nov 11 2026. No macro, syntax, notation, axiom, sorry.
-/
import Derived.Test.YtbipbpakbanacaaDoorChecked
import GoSem.Claim
import GoSem.ClaimJoined
import GoSem.ClaimMapViews
import Derived.JoinedTies
import Derived.KernelRfl
namespace Go.Proofs.YtbipbpakbanacaaDoor
/- THE CELL 'sum', in the pinned program and in every row, IS THE sha256 OF THE DUMP (.gsa) THAT YtbipbpakbanacaaDoorProg.lean LOADS. Nothing in Lean hashes anything: it is a label: what it is worth is what the hold of that sum in a sandbox is worth. -/
noncomputable def Tryd.pinned : Pinned := { name := "ytbipbpakbanacaadoor", sum := "19df2d9a1449065117942cad901dd33c8b1a4f847bd9e696f8a403bd1ffff282", checked := Tryd.checked }
namespace Rows
def none {H : Type} : Left H := { results := [], args := [] }

/- WHAT THE LISTED PACKAGE-LEVEL VARIABLES READ AS WHEN THE CALL BEGINS. Each datum BY PROGRAM (the guide's laid-datum.mjs) off the statement by which the dump's own 'gosem.cut.vars' lays the variable. In a bare row this is a premise. The card (YtbipbpakbanacaaDoorCards.lean) ties it to the program's text. -/
def laid_cleaver_prime_divisors {H : Type} : DataW H := .agg [.lit (.int .u8 2), .lit (.int .u8 3), .lit (.int .u8 5), .lit (.int .u8 7), .lit (.int .u8 11), .lit (.int .u8 13), .lit (.int .u8 17), .lit (.int .u8 19), .lit (.int .u8 23), .lit (.int .u8 29), .lit (.int .u8 31), .lit (.int .u8 37), .lit (.int .u8 41), .lit (.int .u8 43), .lit (.int .u8 47), .lit (.int .u8 53), .lit (.int .u8 59), .lit (.int .u8 61), .lit (.int .u8 67), .lit (.int .u8 71), .lit (.int .u8 73), .lit (.int .u8 79), .lit (.int .u8 83), .lit (.int .u8 89), .lit (.int .u8 97), .lit (.int .u8 101), .lit (.int .u8 103), .lit (.int .u8 107), .lit (.int .u8 109), .lit (.int .u8 113), .lit (.int .u8 127), .lit (.int .u8 131), .lit (.int .u8 137), .lit (.int .u8 139), .lit (.int .u8 149), .lit (.int .u8 151), .lit (.int .u8 157), .lit (.int .u8 163), .lit (.int .u8 167), .lit (.int .u8 173), .lit (.int .u8 179), .lit (.int .u8 181), .lit (.int .u8 191), .lit (.int .u8 193), .lit (.int .u8 197), .lit (.int .u8 199), .lit (.int .u8 211), .lit (.int .u8 223), .lit (.int .u8 227), .lit (.int .u8 229), .lit (.int .u8 233), .lit (.int .u8 239), .lit (.int .u8 241), .lit (.int .u8 251)]

/-- 'cleaverlaw06.FpolyAdds': WHATEVER THE INPUT: true; the input reads as it did. -/
def fpolyAddsSpec : ChangeSpec := { name := "fpolyAdds", fn := fun _ => fun
  | [d1, d2, d3] => { results := [.lit (.bool true)], args := [d1, d2, d3] }
  | _ => none }
def fpolyAddsRow : OpenClaim := { program := "ytbipbpakbanacaadoor", sum := "19df2d9a1449065117942cad901dd33c8b1a4f847bd9e696f8a403bd1ffff282", func := "cleaver/cleaverlaw06.FpolyAdds", spec := "fpolyAdds", unfollowed := true, recurses := true, named := ["cleaver/prime.divisors"], apart := false, laid := [("cleaver/prime.divisors", laid_cleaver_prime_divisors)] }
def FpolyAddsSaid : Prop := fpolyAddsRow.holds Tryd.pinned (OpenSpec.ofChange fpolyAddsSpec)

/-- ITS FALSE NEIGHBOUR: 'it returns false'. Refute it at one input. -/
def fpolyAddsWrong : ChangeSpec := { name := "fpolyAdds", fn := fun _ => fun
  | [d1, d2, d3] => { results := [.lit (.bool false)], args := [d1, d2, d3] }
  | _ => none }
def FpolyAddsWrongFalsely : Prop := fpolyAddsRow.holds Tryd.pinned (OpenSpec.ofChange fpolyAddsWrong)

/-- 'cleaverlaw06.FpolyDivides': WHATEVER THE INPUT: true; the input reads as it did. -/
def fpolyDividesSpec : ChangeSpec := { name := "fpolyDivides", fn := fun _ => fun
  | [d1, d2, d3, d4] => { results := [.lit (.bool true)], args := [d1, d2, d3, d4] }
  | _ => none }
def fpolyDividesRow : OpenClaim := { program := "ytbipbpakbanacaadoor", sum := "19df2d9a1449065117942cad901dd33c8b1a4f847bd9e696f8a403bd1ffff282", func := "cleaver/cleaverlaw06.FpolyDivides", spec := "fpolyDivides", unfollowed := true, recurses := true, named := ["cleaver/prime.divisors"], apart := false, laid := [("cleaver/prime.divisors", laid_cleaver_prime_divisors)] }
def FpolyDividesSaid : Prop := fpolyDividesRow.holds Tryd.pinned (OpenSpec.ofChange fpolyDividesSpec)

/-- ITS FALSE NEIGHBOUR: 'it returns false'. Refute it at one input. -/
def fpolyDividesWrong : ChangeSpec := { name := "fpolyDivides", fn := fun _ => fun
  | [d1, d2, d3, d4] => { results := [.lit (.bool false)], args := [d1, d2, d3, d4] }
  | _ => none }
def FpolyDividesWrongFalsely : Prop := fpolyDividesRow.holds Tryd.pinned (OpenSpec.ofChange fpolyDividesWrong)

/-- 'cleaverlaw06.FpolyGcds': WHATEVER THE INPUT: true; the input reads as it did. -/
def fpolyGcdsSpec : ChangeSpec := { name := "fpolyGcds", fn := fun _ => fun
  | [d1, d2, d3] => { results := [.lit (.bool true)], args := [d1, d2, d3] }
  | _ => none }
def fpolyGcdsRow : OpenClaim := { program := "ytbipbpakbanacaadoor", sum := "19df2d9a1449065117942cad901dd33c8b1a4f847bd9e696f8a403bd1ffff282", func := "cleaver/cleaverlaw06.FpolyGcds", spec := "fpolyGcds", unfollowed := true, recurses := true, named := ["cleaver/prime.divisors"], apart := false, laid := [("cleaver/prime.divisors", laid_cleaver_prime_divisors)] }
def FpolyGcdsSaid : Prop := fpolyGcdsRow.holds Tryd.pinned (OpenSpec.ofChange fpolyGcdsSpec)

/-- ITS FALSE NEIGHBOUR: 'it returns false'. Refute it at one input. -/
def fpolyGcdsWrong : ChangeSpec := { name := "fpolyGcds", fn := fun _ => fun
  | [d1, d2, d3] => { results := [.lit (.bool false)], args := [d1, d2, d3] }
  | _ => none }
def FpolyGcdsWrongFalsely : Prop := fpolyGcdsRow.holds Tryd.pinned (OpenSpec.ofChange fpolyGcdsWrong)

/-- 'cleaverlaw06.FpolyPowers': WHATEVER THE INPUT: true; the input reads as it did. -/
def fpolyPowersSpec : ChangeSpec := { name := "fpolyPowers", fn := fun _ => fun
  | [d1, d2, d3, d4] => { results := [.lit (.bool true)], args := [d1, d2, d3, d4] }
  | _ => none }
def fpolyPowersRow : OpenClaim := { program := "ytbipbpakbanacaadoor", sum := "19df2d9a1449065117942cad901dd33c8b1a4f847bd9e696f8a403bd1ffff282", func := "cleaver/cleaverlaw06.FpolyPowers", spec := "fpolyPowers", unfollowed := true, recurses := true, named := ["cleaver/prime.divisors"], apart := false, laid := [("cleaver/prime.divisors", laid_cleaver_prime_divisors)] }
def FpolyPowersSaid : Prop := fpolyPowersRow.holds Tryd.pinned (OpenSpec.ofChange fpolyPowersSpec)

/-- ITS FALSE NEIGHBOUR: 'it returns false'. Refute it at one input. -/
def fpolyPowersWrong : ChangeSpec := { name := "fpolyPowers", fn := fun _ => fun
  | [d1, d2, d3, d4] => { results := [.lit (.bool false)], args := [d1, d2, d3, d4] }
  | _ => none }
def FpolyPowersWrongFalsely : Prop := fpolyPowersRow.holds Tryd.pinned (OpenSpec.ofChange fpolyPowersWrong)

/-- 'cleaverlaw06.FpolyRing': WHATEVER THE INPUT: true; the input reads as it did. -/
def fpolyRingSpec : ChangeSpec := { name := "fpolyRing", fn := fun _ => fun
  | [d1, d2, d3, d4] => { results := [.lit (.bool true)], args := [d1, d2, d3, d4] }
  | _ => none }
def fpolyRingRow : OpenClaim := { program := "ytbipbpakbanacaadoor", sum := "19df2d9a1449065117942cad901dd33c8b1a4f847bd9e696f8a403bd1ffff282", func := "cleaver/cleaverlaw06.FpolyRing", spec := "fpolyRing", unfollowed := true, recurses := true, named := ["cleaver/prime.divisors"], apart := false, laid := [("cleaver/prime.divisors", laid_cleaver_prime_divisors)] }
def FpolyRingSaid : Prop := fpolyRingRow.holds Tryd.pinned (OpenSpec.ofChange fpolyRingSpec)

/-- ITS FALSE NEIGHBOUR: 'it returns false'. Refute it at one input. -/
def fpolyRingWrong : ChangeSpec := { name := "fpolyRing", fn := fun _ => fun
  | [d1, d2, d3, d4] => { results := [.lit (.bool false)], args := [d1, d2, d3, d4] }
  | _ => none }
def FpolyRingWrongFalsely : Prop := fpolyRingRow.holds Tryd.pinned (OpenSpec.ofChange fpolyRingWrong)

/-- 'cleaverlaw06.FpolyRest': WHATEVER THE INPUT: true; the input reads as it did. -/
def fpolyRestSpec : ChangeSpec := { name := "fpolyRest", fn := fun _ => fun
  | [d1, d2, d3] => { results := [.lit (.bool true)], args := [d1, d2, d3] }
  | _ => none }
def fpolyRestRow : OpenClaim := { program := "ytbipbpakbanacaadoor", sum := "19df2d9a1449065117942cad901dd33c8b1a4f847bd9e696f8a403bd1ffff282", func := "cleaver/cleaverlaw06.FpolyRest", spec := "fpolyRest", unfollowed := true, recurses := true, named := ["cleaver/prime.divisors"], apart := false, laid := [("cleaver/prime.divisors", laid_cleaver_prime_divisors)] }
def FpolyRestSaid : Prop := fpolyRestRow.holds Tryd.pinned (OpenSpec.ofChange fpolyRestSpec)

/-- ITS FALSE NEIGHBOUR: 'it returns false'. Refute it at one input. -/
def fpolyRestWrong : ChangeSpec := { name := "fpolyRest", fn := fun _ => fun
  | [d1, d2, d3] => { results := [.lit (.bool false)], args := [d1, d2, d3] }
  | _ => none }
def FpolyRestWrongFalsely : Prop := fpolyRestRow.holds Tryd.pinned (OpenSpec.ofChange fpolyRestWrong)

/-- 'cleaverlaw06.FpolyDivisor': WHATEVER THE INPUT: true; the input reads as it did. -/
def fpolyDivisorSpec : ChangeSpec := { name := "fpolyDivisor", fn := fun _ => fun
  | [d1, d2, d3, d4] => { results := [.lit (.bool true)], args := [d1, d2, d3, d4] }
  | _ => none }
def fpolyDivisorRow : OpenClaim := { program := "ytbipbpakbanacaadoor", sum := "19df2d9a1449065117942cad901dd33c8b1a4f847bd9e696f8a403bd1ffff282", func := "cleaver/cleaverlaw06.FpolyDivisor", spec := "fpolyDivisor", unfollowed := true, recurses := true, named := ["cleaver/prime.divisors"], apart := false, laid := [("cleaver/prime.divisors", laid_cleaver_prime_divisors)] }
def FpolyDivisorSaid : Prop := fpolyDivisorRow.holds Tryd.pinned (OpenSpec.ofChange fpolyDivisorSpec)

/-- ITS FALSE NEIGHBOUR: 'it returns false'. Refute it at one input. -/
def fpolyDivisorWrong : ChangeSpec := { name := "fpolyDivisor", fn := fun _ => fun
  | [d1, d2, d3, d4] => { results := [.lit (.bool false)], args := [d1, d2, d3, d4] }
  | _ => none }
def FpolyDivisorWrongFalsely : Prop := fpolyDivisorRow.holds Tryd.pinned (OpenSpec.ofChange fpolyDivisorWrong)

/-- 'cleaverlaw06.FpolyLeibniz': WHATEVER THE INPUT: true; the input reads as it did. -/
def fpolyLeibnizSpec : ChangeSpec := { name := "fpolyLeibniz", fn := fun _ => fun
  | [d1, d2, d3, d4] => { results := [.lit (.bool true)], args := [d1, d2, d3, d4] }
  | _ => none }
def fpolyLeibnizRow : OpenClaim := { program := "ytbipbpakbanacaadoor", sum := "19df2d9a1449065117942cad901dd33c8b1a4f847bd9e696f8a403bd1ffff282", func := "cleaver/cleaverlaw06.FpolyLeibniz", spec := "fpolyLeibniz", unfollowed := true, recurses := true, named := ["cleaver/prime.divisors"], apart := false, laid := [("cleaver/prime.divisors", laid_cleaver_prime_divisors)] }
def FpolyLeibnizSaid : Prop := fpolyLeibnizRow.holds Tryd.pinned (OpenSpec.ofChange fpolyLeibnizSpec)

/-- ITS FALSE NEIGHBOUR: 'it returns false'. Refute it at one input. -/
def fpolyLeibnizWrong : ChangeSpec := { name := "fpolyLeibniz", fn := fun _ => fun
  | [d1, d2, d3, d4] => { results := [.lit (.bool false)], args := [d1, d2, d3, d4] }
  | _ => none }
def FpolyLeibnizWrongFalsely : Prop := fpolyLeibnizRow.holds Tryd.pinned (OpenSpec.ofChange fpolyLeibnizWrong)

/-- 'cleaverlaw06.FpolyFrobenius': WHATEVER THE INPUT: true; the input reads as it did. -/
def fpolyFrobeniusSpec : ChangeSpec := { name := "fpolyFrobenius", fn := fun _ => fun
  | [d1, d2, d3, d4, d5, d6] => { results := [.lit (.bool true)], args := [d1, d2, d3, d4, d5, d6] }
  | _ => none }
def fpolyFrobeniusRow : OpenClaim := { program := "ytbipbpakbanacaadoor", sum := "19df2d9a1449065117942cad901dd33c8b1a4f847bd9e696f8a403bd1ffff282", func := "cleaver/cleaverlaw06.FpolyFrobenius", spec := "fpolyFrobenius", unfollowed := true, recurses := true, named := ["cleaver/prime.divisors"], apart := false, laid := [("cleaver/prime.divisors", laid_cleaver_prime_divisors)] }
def FpolyFrobeniusSaid : Prop := fpolyFrobeniusRow.holds Tryd.pinned (OpenSpec.ofChange fpolyFrobeniusSpec)

/-- ITS FALSE NEIGHBOUR: 'it returns false'. Refute it at one input. -/
def fpolyFrobeniusWrong : ChangeSpec := { name := "fpolyFrobenius", fn := fun _ => fun
  | [d1, d2, d3, d4, d5, d6] => { results := [.lit (.bool false)], args := [d1, d2, d3, d4, d5, d6] }
  | _ => none }
def FpolyFrobeniusWrongFalsely : Prop := fpolyFrobeniusRow.holds Tryd.pinned (OpenSpec.ofChange fpolyFrobeniusWrong)

/- THE SECOND FORM. 'bulk': how many values and letters a reading holds, each counted each time it is reached (what is shared counts as often as it is met; a slice's spare places count too). A statement '..UptoSaid' is the law's where the arguments, and the package variables that the reading takes, are together of bulk at most 1048576: NARROWER than '..Said'. Prove '..Said' where nothing that the law and all that it calls make is longer than what came in: it says more and counts as full. Else prove '..UptoSaid'. A law counts once. -/
mutual
def uptoBulk {H : Type} : DataW H → Nat
  | .lit (.string bytes) => bytes.length + 1
  | .lit _ => 1
  | .nil => 1
  | .ptr d => uptoBulk d + 1
  | .slice elems spare => uptoBulkAll elems + uptoBulkAll spare + 1
  | .agg parts => uptoBulkAll parts + 1
  | .iface _ d => uptoBulk d + 1
  | .map entries => uptoBulkEntries entries + 1
  | .held _ => 1
def uptoBulkAll {H : Type} : List (DataW H) → Nat
  | [] => 0
  | d :: r => uptoBulk d + uptoBulkAll r
def uptoBulkEntries {H : Type} : List (Lit × DataW H) → Nat
  | [] => 0
  | x :: r => uptoBulkEntry x + uptoBulkEntries r
def uptoBulkEntry {H : Type} : Lit × DataW H → Nat
  | (.string bytes, d) => bytes.length + uptoBulk d + 1
  | (_, d) => uptoBulk d + 1
 end
def uptoSmall : (H : Type) → List (DataW H) → Bool := fun _ ds => decide (uptoBulkAll ds ≤ 1048576)
def OpenSpec.upto (s : _root_.Go.ChangeSpec) : _root_.Go.OpenSpec := { _root_.Go.OpenSpec.ofChange s with cond := some uptoSmall }

/-- 'cleaverlaw06.FpolyAdds', WHERE WHAT IT READS IS OF BULK AT MOST 1048576: true; the input reads as it did. -/
def fpolyAddsUptoRow : OpenClaim := { program := "ytbipbpakbanacaadoor", sum := "19df2d9a1449065117942cad901dd33c8b1a4f847bd9e696f8a403bd1ffff282", func := "cleaver/cleaverlaw06.FpolyAdds", spec := "fpolyAdds", unfollowed := true, recurses := true, named := ["cleaver/prime.divisors"], apart := false, laid := [("cleaver/prime.divisors", laid_cleaver_prime_divisors)], narrowed := true }
def FpolyAddsUptoSaid : Prop := fpolyAddsUptoRow.holds Tryd.pinned (OpenSpec.upto fpolyAddsSpec)

/-- 'cleaverlaw06.FpolyDivides', WHERE WHAT IT READS IS OF BULK AT MOST 1048576: true; the input reads as it did. -/
def fpolyDividesUptoRow : OpenClaim := { program := "ytbipbpakbanacaadoor", sum := "19df2d9a1449065117942cad901dd33c8b1a4f847bd9e696f8a403bd1ffff282", func := "cleaver/cleaverlaw06.FpolyDivides", spec := "fpolyDivides", unfollowed := true, recurses := true, named := ["cleaver/prime.divisors"], apart := false, laid := [("cleaver/prime.divisors", laid_cleaver_prime_divisors)], narrowed := true }
def FpolyDividesUptoSaid : Prop := fpolyDividesUptoRow.holds Tryd.pinned (OpenSpec.upto fpolyDividesSpec)

/-- 'cleaverlaw06.FpolyGcds', WHERE WHAT IT READS IS OF BULK AT MOST 1048576: true; the input reads as it did. -/
def fpolyGcdsUptoRow : OpenClaim := { program := "ytbipbpakbanacaadoor", sum := "19df2d9a1449065117942cad901dd33c8b1a4f847bd9e696f8a403bd1ffff282", func := "cleaver/cleaverlaw06.FpolyGcds", spec := "fpolyGcds", unfollowed := true, recurses := true, named := ["cleaver/prime.divisors"], apart := false, laid := [("cleaver/prime.divisors", laid_cleaver_prime_divisors)], narrowed := true }
def FpolyGcdsUptoSaid : Prop := fpolyGcdsUptoRow.holds Tryd.pinned (OpenSpec.upto fpolyGcdsSpec)

/-- 'cleaverlaw06.FpolyPowers', WHERE WHAT IT READS IS OF BULK AT MOST 1048576: true; the input reads as it did. -/
def fpolyPowersUptoRow : OpenClaim := { program := "ytbipbpakbanacaadoor", sum := "19df2d9a1449065117942cad901dd33c8b1a4f847bd9e696f8a403bd1ffff282", func := "cleaver/cleaverlaw06.FpolyPowers", spec := "fpolyPowers", unfollowed := true, recurses := true, named := ["cleaver/prime.divisors"], apart := false, laid := [("cleaver/prime.divisors", laid_cleaver_prime_divisors)], narrowed := true }
def FpolyPowersUptoSaid : Prop := fpolyPowersUptoRow.holds Tryd.pinned (OpenSpec.upto fpolyPowersSpec)

/-- 'cleaverlaw06.FpolyRing', WHERE WHAT IT READS IS OF BULK AT MOST 1048576: true; the input reads as it did. -/
def fpolyRingUptoRow : OpenClaim := { program := "ytbipbpakbanacaadoor", sum := "19df2d9a1449065117942cad901dd33c8b1a4f847bd9e696f8a403bd1ffff282", func := "cleaver/cleaverlaw06.FpolyRing", spec := "fpolyRing", unfollowed := true, recurses := true, named := ["cleaver/prime.divisors"], apart := false, laid := [("cleaver/prime.divisors", laid_cleaver_prime_divisors)], narrowed := true }
def FpolyRingUptoSaid : Prop := fpolyRingUptoRow.holds Tryd.pinned (OpenSpec.upto fpolyRingSpec)

/-- 'cleaverlaw06.FpolyRest', WHERE WHAT IT READS IS OF BULK AT MOST 1048576: true; the input reads as it did. -/
def fpolyRestUptoRow : OpenClaim := { program := "ytbipbpakbanacaadoor", sum := "19df2d9a1449065117942cad901dd33c8b1a4f847bd9e696f8a403bd1ffff282", func := "cleaver/cleaverlaw06.FpolyRest", spec := "fpolyRest", unfollowed := true, recurses := true, named := ["cleaver/prime.divisors"], apart := false, laid := [("cleaver/prime.divisors", laid_cleaver_prime_divisors)], narrowed := true }
def FpolyRestUptoSaid : Prop := fpolyRestUptoRow.holds Tryd.pinned (OpenSpec.upto fpolyRestSpec)

/-- 'cleaverlaw06.FpolyDivisor', WHERE WHAT IT READS IS OF BULK AT MOST 1048576: true; the input reads as it did. -/
def fpolyDivisorUptoRow : OpenClaim := { program := "ytbipbpakbanacaadoor", sum := "19df2d9a1449065117942cad901dd33c8b1a4f847bd9e696f8a403bd1ffff282", func := "cleaver/cleaverlaw06.FpolyDivisor", spec := "fpolyDivisor", unfollowed := true, recurses := true, named := ["cleaver/prime.divisors"], apart := false, laid := [("cleaver/prime.divisors", laid_cleaver_prime_divisors)], narrowed := true }
def FpolyDivisorUptoSaid : Prop := fpolyDivisorUptoRow.holds Tryd.pinned (OpenSpec.upto fpolyDivisorSpec)

/-- 'cleaverlaw06.FpolyLeibniz', WHERE WHAT IT READS IS OF BULK AT MOST 1048576: true; the input reads as it did. -/
def fpolyLeibnizUptoRow : OpenClaim := { program := "ytbipbpakbanacaadoor", sum := "19df2d9a1449065117942cad901dd33c8b1a4f847bd9e696f8a403bd1ffff282", func := "cleaver/cleaverlaw06.FpolyLeibniz", spec := "fpolyLeibniz", unfollowed := true, recurses := true, named := ["cleaver/prime.divisors"], apart := false, laid := [("cleaver/prime.divisors", laid_cleaver_prime_divisors)], narrowed := true }
def FpolyLeibnizUptoSaid : Prop := fpolyLeibnizUptoRow.holds Tryd.pinned (OpenSpec.upto fpolyLeibnizSpec)

/-- 'cleaverlaw06.FpolyFrobenius', WHERE WHAT IT READS IS OF BULK AT MOST 1048576: true; the input reads as it did. -/
def fpolyFrobeniusUptoRow : OpenClaim := { program := "ytbipbpakbanacaadoor", sum := "19df2d9a1449065117942cad901dd33c8b1a4f847bd9e696f8a403bd1ffff282", func := "cleaver/cleaverlaw06.FpolyFrobenius", spec := "fpolyFrobenius", unfollowed := true, recurses := true, named := ["cleaver/prime.divisors"], apart := false, laid := [("cleaver/prime.divisors", laid_cleaver_prime_divisors)], narrowed := true }
def FpolyFrobeniusUptoSaid : Prop := fpolyFrobeniusUptoRow.holds Tryd.pinned (OpenSpec.upto fpolyFrobeniusSpec)

end Rows
end Go.Proofs.YtbipbpakbanacaaDoor
