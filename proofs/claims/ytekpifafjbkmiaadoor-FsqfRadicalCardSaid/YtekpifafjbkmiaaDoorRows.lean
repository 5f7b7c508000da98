/-
  NARROWER THAN 'FOR EVERY INPUT', by the rows' own cells (each row's printed sentence says how): FsqfParts: laid · FsqfProduct: laid · FsqfApart: laid · FsqfPowers: laid · FsqfRadical: laid.
  DERIVED. THE GIVEN ROWS OF THIS SEAT. 5 by the template 'for every input the law returns true; each argument reads behind the call as it read before'; 0 by the template 'total and deterministic' (their statements: YtekpifafjbkmiaaDoorTotals.lean).
  GIVEN WITH THE SEED: the statements are not yours to turn. If you find one false, say at which input.
  Laid BY PROGRAM, IN A SANDBOX (cutbox-rows.mjs): the forced cells as the released guide's own fill.sh prints them over the translation 76ec5ebe98b32e65… (all of the seat's roots in one cut). By AI agents, Wed Nov 11 2026. No macro, syntax, notation, axiom, sorry.
-/
import Derived.Test.YtekpifafjbkmiaaDoorChecked
import GoSem.Claim
import GoSem.ClaimJoined
import GoSem.ClaimMapViews
import Derived.JoinedTies
import Derived.KernelRfl
namespace Go.Proofs.YtekpifafjbkmiaaDoor
/- THE CELL 'sum', in the pinned program and in every row, IS THE sha256 OF THE DUMP (.gsa) THAT YtekpifafjbkmiaaDoorProg.lean LOADS. Nothing in Lean hashes anything: it is a label: what it is worth is what the hold of that sum in a sandbox is worth. -/
noncomputable def Tryd.pinned : Pinned := { name := "ytekpifafjbkmiaadoor", sum := "76ec5ebe98b32e6521910e877e4e251cb9cb5220f62438e25cc1de6c73c16121", checked := Tryd.checked }
namespace Rows
def none {H : Type} : Left H := { results := [], args := [] }

/- WHAT THE LISTED PACKAGE-LEVEL VARIABLES READ AS WHEN THE CALL BEGINS. Each datum BY PROGRAM (the guide's laid-datum.mjs) off the statement by which the dump's own 'gosem.cut.vars' lays the variable. In a bare row this is a premise. The card (YtekpifafjbkmiaaDoorCards.lean) ties it to the program's text. -/
def laid_cleaver_prime_divisors {H : Type} : DataW H := .agg [.lit (.int .u8 2), .lit (.int .u8 3), .lit (.int .u8 5), .lit (.int .u8 7), .lit (.int .u8 11), .lit (.int .u8 13), .lit (.int .u8 17), .lit (.int .u8 19), .lit (.int .u8 23), .lit (.int .u8 29), .lit (.int .u8 31), .lit (.int .u8 37), .lit (.int .u8 41), .lit (.int .u8 43), .lit (.int .u8 47), .lit (.int .u8 53), .lit (.int .u8 59), .lit (.int .u8 61), .lit (.int .u8 67), .lit (.int .u8 71), .lit (.int .u8 73), .lit (.int .u8 79), .lit (.int .u8 83), .lit (.int .u8 89), .lit (.int .u8 97), .lit (.int .u8 101), .lit (.int .u8 103), .lit (.int .u8 107), .lit (.int .u8 109), .lit (.int .u8 113), .lit (.int .u8 127), .lit (.int .u8 131), .lit (.int .u8 137), .lit (.int .u8 139), .lit (.int .u8 149), .lit (.int .u8 151), .lit (.int .u8 157), .lit (.int .u8 163), .lit (.int .u8 167), .lit (.int .u8 173), .lit (.int .u8 179), .lit (.int .u8 181), .lit (.int .u8 191), .lit (.int .u8 193), .lit (.int .u8 197), .lit (.int .u8 199), .lit (.int .u8 211), .lit (.int .u8 223), .lit (.int .u8 227), .lit (.int .u8 229), .lit (.int .u8 233), .lit (.int .u8 239), .lit (.int .u8 241), .lit (.int .u8 251)]

/-- 'cleaverlaw08.FsqfParts': WHATEVER THE INPUT: true; the input reads as it did. -/
def fsqfPartsSpec : ChangeSpec := { name := "fsqfParts", fn := fun _ => fun
  | [d1, d2] => { results := [.lit (.bool true)], args := [d1, d2] }
  | _ => none }
def fsqfPartsRow : OpenClaim := { program := "ytekpifafjbkmiaadoor", sum := "76ec5ebe98b32e6521910e877e4e251cb9cb5220f62438e25cc1de6c73c16121", func := "cleaver/cleaverlaw08.FsqfParts", spec := "fsqfParts", unfollowed := true, recurses := true, named := ["cleaver/prime.divisors"], apart := false, laid := [("cleaver/prime.divisors", laid_cleaver_prime_divisors)] }
def FsqfPartsSaid : Prop := fsqfPartsRow.holds Tryd.pinned (OpenSpec.ofChange fsqfPartsSpec)

/-- ITS FALSE NEIGHBOUR: 'it returns false'. Refute it at one input. -/
def fsqfPartsWrong : ChangeSpec := { name := "fsqfParts", fn := fun _ => fun
  | [d1, d2] => { results := [.lit (.bool false)], args := [d1, d2] }
  | _ => none }
def FsqfPartsWrongFalsely : Prop := fsqfPartsRow.holds Tryd.pinned (OpenSpec.ofChange fsqfPartsWrong)

/-- 'cleaverlaw08.FsqfProduct': WHATEVER THE INPUT: true; the input reads as it did. -/
def fsqfProductSpec : ChangeSpec := { name := "fsqfProduct", fn := fun _ => fun
  | [d1, d2] => { results := [.lit (.bool true)], args := [d1, d2] }
  | _ => none }
def fsqfProductRow : OpenClaim := { program := "ytekpifafjbkmiaadoor", sum := "76ec5ebe98b32e6521910e877e4e251cb9cb5220f62438e25cc1de6c73c16121", func := "cleaver/cleaverlaw08.FsqfProduct", spec := "fsqfProduct", unfollowed := true, recurses := true, named := ["cleaver/prime.divisors"], apart := false, laid := [("cleaver/prime.divisors", laid_cleaver_prime_divisors)] }
def FsqfProductSaid : Prop := fsqfProductRow.holds Tryd.pinned (OpenSpec.ofChange fsqfProductSpec)

/-- ITS FALSE NEIGHBOUR: 'it returns false'. Refute it at one input. -/
def fsqfProductWrong : ChangeSpec := { name := "fsqfProduct", fn := fun _ => fun
  | [d1, d2] => { results := [.lit (.bool false)], args := [d1, d2] }
  | _ => none }
def FsqfProductWrongFalsely : Prop := fsqfProductRow.holds Tryd.pinned (OpenSpec.ofChange fsqfProductWrong)

/-- 'cleaverlaw08.FsqfApart': WHATEVER THE INPUT: true; the input reads as it did. -/
def fsqfApartSpec : ChangeSpec := { name := "fsqfApart", fn := fun _ => fun
  | [d1, d2] => { results := [.lit (.bool true)], args := [d1, d2] }
  | _ => none }
def fsqfApartRow : OpenClaim := { program := "ytekpifafjbkmiaadoor", sum := "76ec5ebe98b32e6521910e877e4e251cb9cb5220f62438e25cc1de6c73c16121", func := "cleaver/cleaverlaw08.FsqfApart", spec := "fsqfApart", unfollowed := true, recurses := true, named := ["cleaver/prime.divisors"], apart := false, laid := [("cleaver/prime.divisors", laid_cleaver_prime_divisors)] }
def FsqfApartSaid : Prop := fsqfApartRow.holds Tryd.pinned (OpenSpec.ofChange fsqfApartSpec)

/-- ITS FALSE NEIGHBOUR: 'it returns false'. Refute it at one input. -/
def fsqfApartWrong : ChangeSpec := { name := "fsqfApart", fn := fun _ => fun
  | [d1, d2] => { results := [.lit (.bool false)], args := [d1, d2] }
  | _ => none }
def FsqfApartWrongFalsely : Prop := fsqfApartRow.holds Tryd.pinned (OpenSpec.ofChange fsqfApartWrong)

/-- 'cleaverlaw08.FsqfPowers': WHATEVER THE INPUT: true; the input reads as it did. -/
def fsqfPowersSpec : ChangeSpec := { name := "fsqfPowers", fn := fun _ => fun
  | [d1, d2, d3] => { results := [.lit (.bool true)], args := [d1, d2, d3] }
  | _ => none }
def fsqfPowersRow : OpenClaim := { program := "ytekpifafjbkmiaadoor", sum := "76ec5ebe98b32e6521910e877e4e251cb9cb5220f62438e25cc1de6c73c16121", func := "cleaver/cleaverlaw08.FsqfPowers", spec := "fsqfPowers", unfollowed := true, recurses := true, named := ["cleaver/prime.divisors"], apart := false, laid := [("cleaver/prime.divisors", laid_cleaver_prime_divisors)] }
def FsqfPowersSaid : Prop := fsqfPowersRow.holds Tryd.pinned (OpenSpec.ofChange fsqfPowersSpec)

/-- ITS FALSE NEIGHBOUR: 'it returns false'. Refute it at one input. -/
def fsqfPowersWrong : ChangeSpec := { name := "fsqfPowers", fn := fun _ => fun
  | [d1, d2, d3] => { results := [.lit (.bool false)], args := [d1, d2, d3] }
  | _ => none }
def FsqfPowersWrongFalsely : Prop := fsqfPowersRow.holds Tryd.pinned (OpenSpec.ofChange fsqfPowersWrong)

/-- 'cleaverlaw08.FsqfRadical': WHATEVER THE INPUT: true; the input reads as it did. -/
def fsqfRadicalSpec : ChangeSpec := { name := "fsqfRadical", fn := fun _ => fun
  | [d1, d2, d3] => { results := [.lit (.bool true)], args := [d1, d2, d3] }
  | _ => none }
def fsqfRadicalRow : OpenClaim := { program := "ytekpifafjbkmiaadoor", sum := "76ec5ebe98b32e6521910e877e4e251cb9cb5220f62438e25cc1de6c73c16121", func := "cleaver/cleaverlaw08.FsqfRadical", spec := "fsqfRadical", unfollowed := true, recurses := true, named := ["cleaver/prime.divisors"], apart := false, laid := [("cleaver/prime.divisors", laid_cleaver_prime_divisors)] }
def FsqfRadicalSaid : Prop := fsqfRadicalRow.holds Tryd.pinned (OpenSpec.ofChange fsqfRadicalSpec)

/-- ITS FALSE NEIGHBOUR: 'it returns false'. Refute it at one input. -/
def fsqfRadicalWrong : ChangeSpec := { name := "fsqfRadical", fn := fun _ => fun
  | [d1, d2, d3] => { results := [.lit (.bool false)], args := [d1, d2, d3] }
  | _ => none }
def FsqfRadicalWrongFalsely : Prop := fsqfRadicalRow.holds Tryd.pinned (OpenSpec.ofChange fsqfRadicalWrong)

/- THE SECOND FORM. 'bulk': how many values and letters a reading holds, each counted each time it is reached (what is shared counts as often as it is met; a slice's spare places count too). A statement '..UptoSaid' is the law's where the arguments, and the package variables that the reading takes, are together of bulk at most 1048576: NARROWER than '..Said'. Prove '..Said' where nothing that the law and all that it calls make is longer than what came in: it says more and counts as full. Else prove '..UptoSaid'. A law counts once. -/
mutual
def uptoBulk {H : Type} : DataW H → Nat
  | .lit (.string bytes) => bytes.length + 1
  | .lit _ => 1
  | .nil => 1
  | .ptr d => uptoBulk d + 1
  | .slice elems spare => uptoBulkAll elems + uptoBulkAll spare + 1
  | .agg parts => uptoBulkAll parts + 1
  | .iface _ d => uptoBulk d + 1
  | .map entries => uptoBulkEntries entries + 1
  | .held _ => 1
def uptoBulkAll {H : Type} : List (DataW H) → Nat
  | [] => 0
  | d :: r => uptoBulk d + uptoBulkAll r
def uptoBulkEntries {H : Type} : List (Lit × DataW H) → Nat
  | [] => 0
  | x :: r => uptoBulkEntry x + uptoBulkEntries r
def uptoBulkEntry {H : Type} : Lit × DataW H → Nat
  | (.string bytes, d) => bytes.length + uptoBulk d + 1
  | (_, d) => uptoBulk d + 1
 end
def uptoSmall : (H : Type) → List (DataW H) → Bool := fun _ ds => decide (uptoBulkAll ds ≤ 1048576)
def OpenSpec.upto (s : _root_.Go.ChangeSpec) : _root_.Go.OpenSpec := { _root_.Go.OpenSpec.ofChange s with cond := some uptoSmall }

/-- 'cleaverlaw08.FsqfParts', WHERE WHAT IT READS IS OF BULK AT MOST 1048576: true; the input reads as it did. -/
def fsqfPartsUptoRow : OpenClaim := { program := "ytekpifafjbkmiaadoor", sum := "76ec5ebe98b32e6521910e877e4e251cb9cb5220f62438e25cc1de6c73c16121", func := "cleaver/cleaverlaw08.FsqfParts", spec := "fsqfParts", unfollowed := true, recurses := true, named := ["cleaver/prime.divisors"], apart := false, laid := [("cleaver/prime.divisors", laid_cleaver_prime_divisors)], narrowed := true }
def FsqfPartsUptoSaid : Prop := fsqfPartsUptoRow.holds Tryd.pinned (OpenSpec.upto fsqfPartsSpec)

/-- 'cleaverlaw08.FsqfProduct', WHERE WHAT IT READS IS OF BULK AT MOST 1048576: true; the input reads as it did. -/
def fsqfProductUptoRow : OpenClaim := { program := "ytekpifafjbkmiaadoor", sum := "76ec5ebe98b32e6521910e877e4e251cb9cb5220f62438e25cc1de6c73c16121", func := "cleaver/cleaverlaw08.FsqfProduct", spec := "fsqfProduct", unfollowed := true, recurses := true, named := ["cleaver/prime.divisors"], apart := false, laid := [("cleaver/prime.divisors", laid_cleaver_prime_divisors)], narrowed := true }
def FsqfProductUptoSaid : Prop := fsqfProductUptoRow.holds Tryd.pinned (OpenSpec.upto fsqfProductSpec)

/-- 'cleaverlaw08.FsqfApart', WHERE WHAT IT READS IS OF BULK AT MOST 1048576: true; the input reads as it did. -/
def fsqfApartUptoRow : OpenClaim := { program := "ytekpifafjbkmiaadoor", sum := "76ec5ebe98b32e6521910e877e4e251cb9cb5220f62438e25cc1de6c73c16121", func := "cleaver/cleaverlaw08.FsqfApart", spec := "fsqfApart", unfollowed := true, recurses := true, named := ["cleaver/prime.divisors"], apart := false, laid := [("cleaver/prime.divisors", laid_cleaver_prime_divisors)], narrowed := true }
def FsqfApartUptoSaid : Prop := fsqfApartUptoRow.holds Tryd.pinned (OpenSpec.upto fsqfApartSpec)

/-- 'cleaverlaw08.FsqfPowers', WHERE WHAT IT READS IS OF BULK AT MOST 1048576: true; the input reads as it did. -/
def fsqfPowersUptoRow : OpenClaim := { program := "ytekpifafjbkmiaadoor", sum := "76ec5ebe98b32e6521910e877e4e251cb9cb5220f62438e25cc1de6c73c16121", func := "cleaver/cleaverlaw08.FsqfPowers", spec := "fsqfPowers", unfollowed := true, recurses := true, named := ["cleaver/prime.divisors"], apart := false, laid := [("cleaver/prime.divisors", laid_cleaver_prime_divisors)], narrowed := true }
def FsqfPowersUptoSaid : Prop := fsqfPowersUptoRow.holds Tryd.pinned (OpenSpec.upto fsqfPowersSpec)

/-- 'cleaverlaw08.FsqfRadical', WHERE WHAT IT READS IS OF BULK AT MOST 1048576: true; the input reads as it did. -/
def fsqfRadicalUptoRow : OpenClaim := { program := "ytekpifafjbkmiaadoor", sum := "76ec5ebe98b32e6521910e877e4e251cb9cb5220f62438e25cc1de6c73c16121", func := "cleaver/cleaverlaw08.FsqfRadical", spec := "fsqfRadical", unfollowed := true, recurses := true, named := ["cleaver/prime.divisors"], apart := false, laid := [("cleaver/prime.divisors", laid_cleaver_prime_divisors)], narrowed := true }
def FsqfRadicalUptoSaid : Prop := fsqfRadicalUptoRow.holds Tryd.pinned (OpenSpec.upto fsqfRadicalSpec)

end Rows
end Go.Proofs.YtekpifafjbkmiaaDoor
