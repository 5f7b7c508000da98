/-
  NARROWER THAN 'FOR EVERY INPUT', by the rows' own cells (each row's printed sentence says how): FfacAll: laid · FfacOrder: laid · FfacSplits: laid · FfacProduct: laid · FfacDraws: laid · FfacBoth: laid · FfacField: laid.
  DERIVED. THE GIVEN ROWS OF THIS SEAT. 7 by the template 'for every input the law returns true; each argument reads behind the call as it read before'; 0 by the template 'total and deterministic' (their statements: YtnkhhndjbanmnaaGreatDoorTotals.lean).
  GIVEN WITH THE SEED: the statements are not yours to turn. If you find one false, say at which input.
  Laid BY PROGRAM, IN A SANDBOX (cutbox-rows.mjs): the forced cells as the released guide's own fill.sh prints them over the translation b7a8510edc5d2a1f… (all of the seat's roots in one cut). By AI agents, Wed Nov 11 2026. No macro, syntax, notation, axiom, sorry.
-/
import Derived.Test.YtnkhhndjbanmnaaGreatDoorChecked
import GoSem.Claim
import GoSem.ClaimJoined
import GoSem.ClaimMapViews
import Derived.JoinedTies
import Derived.KernelRfl
namespace Go.Proofs.YtnkhhndjbanmnaaGreatDoor
/- THE CELL 'sum', in the pinned program and in every row, IS THE sha256 OF THE DUMP (.gsa) THAT YtnkhhndjbanmnaaGreatDoorProg.lean LOADS. Nothing in Lean hashes anything: it is a label: what it is worth is what the hold of that sum in a sandbox is worth. -/
noncomputable def Tryz.pinned : Pinned := { name := "ytnkhhndjbanmnaagreatdoor", sum := "b7a8510edc5d2a1fd94af343b4be94edb7bda487cc2c30daf6d633528d5e8be8", checked := Tryz.checked }
namespace Rows
def none {H : Type} : Left H := { results := [], args := [] }

/- WHAT THE LISTED PACKAGE-LEVEL VARIABLES READ AS WHEN THE CALL BEGINS. Each datum BY PROGRAM (the guide's laid-datum.mjs) off the statement by which the dump's own 'gosem.cut.vars' lays the variable. In a bare row this is a premise. The card (YtnkhhndjbanmnaaGreatDoorCards.lean) ties it to the program's text. -/
def laid_cleaver_prime_divisors {H : Type} : DataW H := .agg [.lit (.int .u8 2), .lit (.int .u8 3), .lit (.int .u8 5), .lit (.int .u8 7), .lit (.int .u8 11), .lit (.int .u8 13), .lit (.int .u8 17), .lit (.int .u8 19), .lit (.int .u8 23), .lit (.int .u8 29), .lit (.int .u8 31), .lit (.int .u8 37), .lit (.int .u8 41), .lit (.int .u8 43), .lit (.int .u8 47), .lit (.int .u8 53), .lit (.int .u8 59), .lit (.int .u8 61), .lit (.int .u8 67), .lit (.int .u8 71), .lit (.int .u8 73), .lit (.int .u8 79), .lit (.int .u8 83), .lit (.int .u8 89), .lit (.int .u8 97), .lit (.int .u8 101), .lit (.int .u8 103), .lit (.int .u8 107), .lit (.int .u8 109), .lit (.int .u8 113), .lit (.int .u8 127), .lit (.int .u8 131), .lit (.int .u8 137), .lit (.int .u8 139), .lit (.int .u8 149), .lit (.int .u8 151), .lit (.int .u8 157), .lit (.int .u8 163), .lit (.int .u8 167), .lit (.int .u8 173), .lit (.int .u8 179), .lit (.int .u8 181), .lit (.int .u8 191), .lit (.int .u8 193), .lit (.int .u8 197), .lit (.int .u8 199), .lit (.int .u8 211), .lit (.int .u8 223), .lit (.int .u8 227), .lit (.int .u8 229), .lit (.int .u8 233), .lit (.int .u8 239), .lit (.int .u8 241), .lit (.int .u8 251)]

/-- 'cleaverlaw09.FfacAll': WHATEVER THE INPUT: true; the input reads as it did. -/
def ffacAllSpec : ChangeSpec := { name := "ffacAll", fn := fun _ => fun
  | [d1, d2, d3] => { results := [.lit (.bool true)], args := [d1, d2, d3] }
  | _ => none }
def ffacAllRow : OpenClaim := { program := "ytnkhhndjbanmnaagreatdoor", sum := "b7a8510edc5d2a1fd94af343b4be94edb7bda487cc2c30daf6d633528d5e8be8", func := "cleaver/cleaverlaw09.FfacAll", spec := "ffacAll", inPlace := ["slices.overlaps[cleaver/flin.row]"], unfollowed := true, recurses := true, named := ["cleaver/prime.divisors"], apart := false, laid := [("cleaver/prime.divisors", laid_cleaver_prime_divisors)] }
def FfacAllSaid : Prop := ffacAllRow.holds Tryz.pinned (OpenSpec.ofChange ffacAllSpec)

/-- ITS FALSE NEIGHBOUR: 'it returns false'. Refute it at one input. -/
def ffacAllWrong : ChangeSpec := { name := "ffacAll", fn := fun _ => fun
  | [d1, d2, d3] => { results := [.lit (.bool false)], args := [d1, d2, d3] }
  | _ => none }
def FfacAllWrongFalsely : Prop := ffacAllRow.holds Tryz.pinned (OpenSpec.ofChange ffacAllWrong)

/-- 'cleaverlaw09.FfacOrder': WHATEVER THE INPUT: true; the input reads as it did. -/
def ffacOrderSpec : ChangeSpec := { name := "ffacOrder", fn := fun _ => fun
  | [d1, d2] => { results := [.lit (.bool true)], args := [d1, d2] }
  | _ => none }
def ffacOrderRow : OpenClaim := { program := "ytnkhhndjbanmnaagreatdoor", sum := "b7a8510edc5d2a1fd94af343b4be94edb7bda487cc2c30daf6d633528d5e8be8", func := "cleaver/cleaverlaw09.FfacOrder", spec := "ffacOrder", inPlace := ["slices.overlaps[cleaver/flin.row]"], unfollowed := true, recurses := true, named := ["cleaver/prime.divisors"], apart := false, laid := [("cleaver/prime.divisors", laid_cleaver_prime_divisors)] }
def FfacOrderSaid : Prop := ffacOrderRow.holds Tryz.pinned (OpenSpec.ofChange ffacOrderSpec)

/-- ITS FALSE NEIGHBOUR: 'it returns false'. Refute it at one input. -/
def ffacOrderWrong : ChangeSpec := { name := "ffacOrder", fn := fun _ => fun
  | [d1, d2] => { results := [.lit (.bool false)], args := [d1, d2] }
  | _ => none }
def FfacOrderWrongFalsely : Prop := ffacOrderRow.holds Tryz.pinned (OpenSpec.ofChange ffacOrderWrong)

/-- 'cleaverlaw09.FfacSplits': WHATEVER THE INPUT: true; the input reads as it did. -/
def ffacSplitsSpec : ChangeSpec := { name := "ffacSplits", fn := fun _ => fun
  | [d1, d2, d3] => { results := [.lit (.bool true)], args := [d1, d2, d3] }
  | _ => none }
def ffacSplitsRow : OpenClaim := { program := "ytnkhhndjbanmnaagreatdoor", sum := "b7a8510edc5d2a1fd94af343b4be94edb7bda487cc2c30daf6d633528d5e8be8", func := "cleaver/cleaverlaw09.FfacSplits", spec := "ffacSplits", inPlace := ["slices.overlaps[cleaver/flin.row]"], unfollowed := true, recurses := true, named := ["cleaver/prime.divisors"], apart := false, laid := [("cleaver/prime.divisors", laid_cleaver_prime_divisors)] }
def FfacSplitsSaid : Prop := ffacSplitsRow.holds Tryz.pinned (OpenSpec.ofChange ffacSplitsSpec)

/-- ITS FALSE NEIGHBOUR: 'it returns false'. Refute it at one input. -/
def ffacSplitsWrong : ChangeSpec := { name := "ffacSplits", fn := fun _ => fun
  | [d1, d2, d3] => { results := [.lit (.bool false)], args := [d1, d2, d3] }
  | _ => none }
def FfacSplitsWrongFalsely : Prop := ffacSplitsRow.holds Tryz.pinned (OpenSpec.ofChange ffacSplitsWrong)

/-- 'cleaverlaw09.FfacProduct': WHATEVER THE INPUT: true; the input reads as it did. -/
def ffacProductSpec : ChangeSpec := { name := "ffacProduct", fn := fun _ => fun
  | [d1, d2, d3] => { results := [.lit (.bool true)], args := [d1, d2, d3] }
  | _ => none }
def ffacProductRow : OpenClaim := { program := "ytnkhhndjbanmnaagreatdoor", sum := "b7a8510edc5d2a1fd94af343b4be94edb7bda487cc2c30daf6d633528d5e8be8", func := "cleaver/cleaverlaw09.FfacProduct", spec := "ffacProduct", inPlace := ["slices.overlaps[cleaver/flin.row]"], unfollowed := true, recurses := true, named := ["cleaver/prime.divisors"], apart := false, laid := [("cleaver/prime.divisors", laid_cleaver_prime_divisors)] }
def FfacProductSaid : Prop := ffacProductRow.holds Tryz.pinned (OpenSpec.ofChange ffacProductSpec)

/-- ITS FALSE NEIGHBOUR: 'it returns false'. Refute it at one input. -/
def ffacProductWrong : ChangeSpec := { name := "ffacProduct", fn := fun _ => fun
  | [d1, d2, d3] => { results := [.lit (.bool false)], args := [d1, d2, d3] }
  | _ => none }
def FfacProductWrongFalsely : Prop := ffacProductRow.holds Tryz.pinned (OpenSpec.ofChange ffacProductWrong)

/-- 'cleaverlaw09.FfacDraws': WHATEVER THE INPUT: true; the input reads as it did. -/
def ffacDrawsSpec : ChangeSpec := { name := "ffacDraws", fn := fun _ => fun
  | [d1, d2, d3, d4] => { results := [.lit (.bool true)], args := [d1, d2, d3, d4] }
  | _ => none }
def ffacDrawsRow : OpenClaim := { program := "ytnkhhndjbanmnaagreatdoor", sum := "b7a8510edc5d2a1fd94af343b4be94edb7bda487cc2c30daf6d633528d5e8be8", func := "cleaver/cleaverlaw09.FfacDraws", spec := "ffacDraws", inPlace := ["slices.overlaps[cleaver/flin.row]"], unfollowed := true, recurses := true, named := ["cleaver/prime.divisors"], apart := false, laid := [("cleaver/prime.divisors", laid_cleaver_prime_divisors)] }
def FfacDrawsSaid : Prop := ffacDrawsRow.holds Tryz.pinned (OpenSpec.ofChange ffacDrawsSpec)

/-- ITS FALSE NEIGHBOUR: 'it returns false'. Refute it at one input. -/
def ffacDrawsWrong : ChangeSpec := { name := "ffacDraws", fn := fun _ => fun
  | [d1, d2, d3, d4] => { results := [.lit (.bool false)], args := [d1, d2, d3, d4] }
  | _ => none }
def FfacDrawsWrongFalsely : Prop := ffacDrawsRow.holds Tryz.pinned (OpenSpec.ofChange ffacDrawsWrong)

/-- 'cleaverlaw09.FfacBoth': WHATEVER THE INPUT: true; the input reads as it did. -/
def ffacBothSpec : ChangeSpec := { name := "ffacBoth", fn := fun _ => fun
  | [d1, d2, d3] => { results := [.lit (.bool true)], args := [d1, d2, d3] }
  | _ => none }
def ffacBothRow : OpenClaim := { program := "ytnkhhndjbanmnaagreatdoor", sum := "b7a8510edc5d2a1fd94af343b4be94edb7bda487cc2c30daf6d633528d5e8be8", func := "cleaver/cleaverlaw09.FfacBoth", spec := "ffacBoth", inPlace := ["slices.overlaps[cleaver/flin.row]"], unfollowed := true, recurses := true, named := ["cleaver/prime.divisors"], apart := false, laid := [("cleaver/prime.divisors", laid_cleaver_prime_divisors)] }
def FfacBothSaid : Prop := ffacBothRow.holds Tryz.pinned (OpenSpec.ofChange ffacBothSpec)

/-- ITS FALSE NEIGHBOUR: 'it returns false'. Refute it at one input. -/
def ffacBothWrong : ChangeSpec := { name := "ffacBoth", fn := fun _ => fun
  | [d1, d2, d3] => { results := [.lit (.bool false)], args := [d1, d2, d3] }
  | _ => none }
def FfacBothWrongFalsely : Prop := ffacBothRow.holds Tryz.pinned (OpenSpec.ofChange ffacBothWrong)

/-- 'cleaverlaw09.FfacField': WHATEVER THE INPUT: true; the input reads as it did. -/
def ffacFieldSpec : ChangeSpec := { name := "ffacField", fn := fun _ => fun
  | [d1, d2] => { results := [.lit (.bool true)], args := [d1, d2] }
  | _ => none }
def ffacFieldRow : OpenClaim := { program := "ytnkhhndjbanmnaagreatdoor", sum := "b7a8510edc5d2a1fd94af343b4be94edb7bda487cc2c30daf6d633528d5e8be8", func := "cleaver/cleaverlaw09.FfacField", spec := "ffacField", inPlace := ["slices.overlaps[cleaver/flin.row]"], unfollowed := true, recurses := true, named := ["cleaver/prime.divisors"], apart := false, laid := [("cleaver/prime.divisors", laid_cleaver_prime_divisors)] }
def FfacFieldSaid : Prop := ffacFieldRow.holds Tryz.pinned (OpenSpec.ofChange ffacFieldSpec)

/-- ITS FALSE NEIGHBOUR: 'it returns false'. Refute it at one input. -/
def ffacFieldWrong : ChangeSpec := { name := "ffacField", fn := fun _ => fun
  | [d1, d2] => { results := [.lit (.bool false)], args := [d1, d2] }
  | _ => none }
def FfacFieldWrongFalsely : Prop := ffacFieldRow.holds Tryz.pinned (OpenSpec.ofChange ffacFieldWrong)

/- THE SECOND FORM. 'bulk': how many values and letters a reading holds, each counted each time it is reached (what is shared counts as often as it is met; a slice's spare places count too). A statement '..UptoSaid' is the law's where the arguments, and the package variables that the reading takes, are together of bulk at most 1048576: NARROWER than '..Said'. Prove '..Said' where nothing that the law and all that it calls make is longer than what came in: it says more and counts as full. Else prove '..UptoSaid'. A law counts once. -/
mutual
def uptoBulk {H : Type} : DataW H → Nat
  | .lit (.string bytes) => bytes.length + 1
  | .lit _ => 1
  | .nil => 1
  | .ptr d => uptoBulk d + 1
  | .slice elems spare => uptoBulkAll elems + uptoBulkAll spare + 1
  | .agg parts => uptoBulkAll parts + 1
  | .iface _ d => uptoBulk d + 1
  | .map entries => uptoBulkEntries entries + 1
  | .held _ => 1
def uptoBulkAll {H : Type} : List (DataW H) → Nat
  | [] => 0
  | d :: r => uptoBulk d + uptoBulkAll r
def uptoBulkEntries {H : Type} : List (Lit × DataW H) → Nat
  | [] => 0
  | x :: r => uptoBulkEntry x + uptoBulkEntries r
def uptoBulkEntry {H : Type} : Lit × DataW H → Nat
  | (.string bytes, d) => bytes.length + uptoBulk d + 1
  | (_, d) => uptoBulk d + 1
 end
def uptoSmall : (H : Type) → List (DataW H) → Bool := fun _ ds => decide (uptoBulkAll ds ≤ 1048576)
def OpenSpec.upto (s : _root_.Go.ChangeSpec) : _root_.Go.OpenSpec := { _root_.Go.OpenSpec.ofChange s with cond := some uptoSmall }

/-- 'cleaverlaw09.FfacAll', WHERE WHAT IT READS IS OF BULK AT MOST 1048576: true; the input reads as it did. -/
def ffacAllUptoRow : OpenClaim := { program := "ytnkhhndjbanmnaagreatdoor", sum := "b7a8510edc5d2a1fd94af343b4be94edb7bda487cc2c30daf6d633528d5e8be8", func := "cleaver/cleaverlaw09.FfacAll", spec := "ffacAll", inPlace := ["slices.overlaps[cleaver/flin.row]"], unfollowed := true, recurses := true, named := ["cleaver/prime.divisors"], apart := false, laid := [("cleaver/prime.divisors", laid_cleaver_prime_divisors)], narrowed := true }
def FfacAllUptoSaid : Prop := ffacAllUptoRow.holds Tryz.pinned (OpenSpec.upto ffacAllSpec)

/-- 'cleaverlaw09.FfacOrder', WHERE WHAT IT READS IS OF BULK AT MOST 1048576: true; the input reads as it did. -/
def ffacOrderUptoRow : OpenClaim := { program := "ytnkhhndjbanmnaagreatdoor", sum := "b7a8510edc5d2a1fd94af343b4be94edb7bda487cc2c30daf6d633528d5e8be8", func := "cleaver/cleaverlaw09.FfacOrder", spec := "ffacOrder", inPlace := ["slices.overlaps[cleaver/flin.row]"], unfollowed := true, recurses := true, named := ["cleaver/prime.divisors"], apart := false, laid := [("cleaver/prime.divisors", laid_cleaver_prime_divisors)], narrowed := true }
def FfacOrderUptoSaid : Prop := ffacOrderUptoRow.holds Tryz.pinned (OpenSpec.upto ffacOrderSpec)

/-- 'cleaverlaw09.FfacSplits', WHERE WHAT IT READS IS OF BULK AT MOST 1048576: true; the input reads as it did. -/
def ffacSplitsUptoRow : OpenClaim := { program := "ytnkhhndjbanmnaagreatdoor", sum := "b7a8510edc5d2a1fd94af343b4be94edb7bda487cc2c30daf6d633528d5e8be8", func := "cleaver/cleaverlaw09.FfacSplits", spec := "ffacSplits", inPlace := ["slices.overlaps[cleaver/flin.row]"], unfollowed := true, recurses := true, named := ["cleaver/prime.divisors"], apart := false, laid := [("cleaver/prime.divisors", laid_cleaver_prime_divisors)], narrowed := true }
def FfacSplitsUptoSaid : Prop := ffacSplitsUptoRow.holds Tryz.pinned (OpenSpec.upto ffacSplitsSpec)

/-- 'cleaverlaw09.FfacProduct', WHERE WHAT IT READS IS OF BULK AT MOST 1048576: true; the input reads as it did. -/
def ffacProductUptoRow : OpenClaim := { program := "ytnkhhndjbanmnaagreatdoor", sum := "b7a8510edc5d2a1fd94af343b4be94edb7bda487cc2c30daf6d633528d5e8be8", func := "cleaver/cleaverlaw09.FfacProduct", spec := "ffacProduct", inPlace := ["slices.overlaps[cleaver/flin.row]"], unfollowed := true, recurses := true, named := ["cleaver/prime.divisors"], apart := false, laid := [("cleaver/prime.divisors", laid_cleaver_prime_divisors)], narrowed := true }
def FfacProductUptoSaid : Prop := ffacProductUptoRow.holds Tryz.pinned (OpenSpec.upto ffacProductSpec)

/-- 'cleaverlaw09.FfacDraws', WHERE WHAT IT READS IS OF BULK AT MOST 1048576: true; the input reads as it did. -/
def ffacDrawsUptoRow : OpenClaim := { program := "ytnkhhndjbanmnaagreatdoor", sum := "b7a8510edc5d2a1fd94af343b4be94edb7bda487cc2c30daf6d633528d5e8be8", func := "cleaver/cleaverlaw09.FfacDraws", spec := "ffacDraws", inPlace := ["slices.overlaps[cleaver/flin.row]"], unfollowed := true, recurses := true, named := ["cleaver/prime.divisors"], apart := false, laid := [("cleaver/prime.divisors", laid_cleaver_prime_divisors)], narrowed := true }
def FfacDrawsUptoSaid : Prop := ffacDrawsUptoRow.holds Tryz.pinned (OpenSpec.upto ffacDrawsSpec)

/-- 'cleaverlaw09.FfacBoth', WHERE WHAT IT READS IS OF BULK AT MOST 1048576: true; the input reads as it did. -/
def ffacBothUptoRow : OpenClaim := { program := "ytnkhhndjbanmnaagreatdoor", sum := "b7a8510edc5d2a1fd94af343b4be94edb7bda487cc2c30daf6d633528d5e8be8", func := "cleaver/cleaverlaw09.FfacBoth", spec := "ffacBoth", inPlace := ["slices.overlaps[cleaver/flin.row]"], unfollowed := true, recurses := true, named := ["cleaver/prime.divisors"], apart := false, laid := [("cleaver/prime.divisors", laid_cleaver_prime_divisors)], narrowed := true }
def FfacBothUptoSaid : Prop := ffacBothUptoRow.holds Tryz.pinned (OpenSpec.upto ffacBothSpec)

/-- 'cleaverlaw09.FfacField', WHERE WHAT IT READS IS OF BULK AT MOST 1048576: true; the input reads as it did. -/
def ffacFieldUptoRow : OpenClaim := { program := "ytnkhhndjbanmnaagreatdoor", sum := "b7a8510edc5d2a1fd94af343b4be94edb7bda487cc2c30daf6d633528d5e8be8", func := "cleaver/cleaverlaw09.FfacField", spec := "ffacField", inPlace := ["slices.overlaps[cleaver/flin.row]"], unfollowed := true, recurses := true, named := ["cleaver/prime.divisors"], apart := false, laid := [("cleaver/prime.divisors", laid_cleaver_prime_divisors)], narrowed := true }
def FfacFieldUptoSaid : Prop := ffacFieldUptoRow.holds Tryz.pinned (OpenSpec.upto ffacFieldSpec)

end Rows
end Go.Proofs.YtnkhhndjbanmnaaGreatDoor
