/- Texts joined, in their order: IntOpen, LstOpen, TabOpen. -/
import Derived.Test.YtnkhhndjbanmnaaGreatDoorRows
import Derived.ProofKit
import Derived.OpenShut
import Derived.SizedLaws
import Derived.WalkKit
import Derived.Lib.Hide
import Derived.Lib.LaidTab
import Derived.MakeChecks
import Derived.Test.YtnkhhndjbanmnaaGreatDoorMp3
import Derived.Test.YtnkhhndjbanmnaaGreatDoorMp5

/- What every law's frame wants at a seat: the knob, the layout; an int's bounds. -/
namespace Go.Proofs.YtnkhhndjbanmnaaGreatDoor
open Go.ChangeShapes Go.WideShapes Go.ChangeAt Go.RowKit

theorem own0 : ownKnob Tryz.prog.godebug = none := by kernel_rfl
theorem laidOut0 : laidOutB Tryz.prog = true := by kernel_rfl
theorem int_wf {k : Int} (hk : (Lit.int .i64 k).wf = true) : -9223372036854775808 ≤ k ∧ k ≤ 9223372036854775807 := by
  have h2 : IntKind.i64.min = -9223372036854775808 := rfl
  have h3 : IntKind.i64.max = 9223372036854775807 := rfl
  simp only [Lit.wf, Bool.and_eq_true, decide_eq_true_eq] at hk
  omega
end Go.Proofs.YtnkhhndjbanmnaaGreatDoor

/- An argument that is a slice of ints, opened: it reads as ints, and is no longer than memory. -/
namespace Go.Proofs.YtnkhhndjbanmnaaGreatDoor
open Go.ChangeShapes Go.WideShapes Go.ChangeAt Go.RowKit

theorem bytesI : Tryz.prog.bytesOf 3 = 8 := by kernel_rfl
theorem cellsI : Tryz.prog.cellsOf 3 = 1 := by kernel_rfl

theorem isl_open {H : Type} {enc : TypeId × Value → H} {W : World} {a : Option Addr} {len cap : Nat} {d : DataW H} {p : List MemPlace} {ts : List TypeId} {ds : List (DataW H)}
    (h : DataW.Trod enc Tryz.prog W 0 (fun _ => true) true 22 (.slice a len cap) d p) (hsz : (DataW.weightsEach Tryz.prog ts ds).all (· ≤ reachBytes) = true) (j : Nat) (ht : ts[j]? = some 22) (hd : ds[j]? = some d) :
    ∃ xs, ISl W a len cap xs ∧ len ≤ 17592186044416 := by
  obtain ⟨fuel, hf⟩ := h
  rcases open_ints Tryz.underlying22 Tryz.underlying3 cellsI hf with ⟨hcs, _⟩ | ⟨x, l, c, zs, hcs, _, hl, hm, hz, hx, hcell, hwz⟩
  · simp [Value.cells] at hcs
    obtain ⟨rfl, rfl, rfl⟩ := hcs
    exact ⟨[], ⟨rfl, Nat.le_refl _, by decide, fun _ => rfl, IRd.nil _ _⟩, by decide⟩
  · simp [Value.cells] at hcs
    obtain ⟨rfl, rfl, rfl⟩ := hcs
    have hz' : zs.length = cap := by simpa using hz
    have hdd : d = .slice (lits .i64 (zs.take len)) (lits .i64 (zs.drop len)) := by
      have := congrArg Prod.fst hx
      simpa using this
    have hs := sized_slice hsz (j := j) (t := 22) (e := 3) ht (by rw [hd, hdd]) Tryz.underlying22
    rw [bytesI] at hs
    simp only [lits, List.length_map, List.length_take, List.length_drop, reachBytes] at hs
    have hwf : ∀ n ∈ zs, In64 n := by
      intro n hn
      have h1 := hwz n hn
      have h2 : IntKind.i64.min = -9223372036854775808 := rfl
      have h3 : IntKind.i64.max = 9223372036854775807 := rfl
      simp only [Lit.wf, Bool.and_eq_true, decide_eq_true_eq] at h1
      unfold In64; omega
    have hfit : Fi (zs.take len) := fun y hy => hwf y (List.mem_of_mem_take hy)
    have hlen : (zs.take len).length = len := by simp; omega
    refine ⟨zs.take len, ⟨hlen.symm, hl, by unfold maxLen at hm; omega, (fun e => by cases e), hfit, ?_⟩, by omega⟩
    by_cases h0 : len = 0
    · left
      apply List.eq_nil_of_length_eq_zero
      rw [hlen, h0]
    · right
      obtain ⟨b, off, spot⟩ := x
      have hc := hcell 0 (by omega)
      have hspot : spot = none := by simpa [Addr.add] using World.cell?_spot hc
      subst hspot
      refine ⟨b, off, rfl, World.block_lt_of_cell? W _ (by simpa [Addr.add] using hc), fun k hk => ?_⟩
      rw [hlen] at hk
      have h1 := hcell k (by omega)
      rw [iadd_add _ k b off rfl] at h1
      rw [h1]
      have e : zs.getD k 0 = zs[k] := by rw [List.getD_eq_getElem?_getD, List.getElem?_eq_getElem (by omega)]; rfl
      rw [e]
      simp only [List.getElem_take]
end Go.Proofs.YtnkhhndjbanmnaaGreatDoor

/- From the row's condition on the table of small primes to the words that the walks use. -/
namespace Go.Proofs.YtnkhhndjbanmnaaGreatDoor
open Go.RowKit

theorem tab_is : (Rows.laid_cleaver_prime_divisors : DataW Unit) = Lib.tabData .u8 (tblL.map fun n : Nat => (n : Int)) := rfl
theorem tab_of_laid {W : World} (h : laidMetH Tryz.prog [("cleaver/prime.divisors", Rows.laid_cleaver_prime_divisors)] W) : TabAt W := by
  rw [MakeChecks.laidMetH_plain _ _ _ (by kernel_rfl), tab_is] at h
  have hg : Tryz.prog.globalNamed "cleaver/prime.divisors" = some 0 := by kernel_rfl
  have hT := Lib.tabIs_of_head hg (t := 149) (e := 5) (n := 54) (by kernel_rfl) (by kernel_rfl) (by kernel_rfl) (by kernel_rfl) (by kernel_rfl) h
  have hc : ∀ i, i < 54 → W.cell? ⟨0, i, none⟩ = some (.int .u8 (tbl i : Int)) := fun i hi => by
    rw [hT.cell hg i (by simpa [tblL] using hi)]
    unfold tbl
    rw [List.getD_eq_getElem?_getD, List.getD_eq_getElem?_getD, List.getElem?_map]
    cases tblL[i]? <;> rfl
  refine ⟨?_, hc⟩
  have h0 := hc 0 (by decide)
  refine Classical.byContradiction fun hn => ?_
  simp only [World.cell?] at h0
  rw [Array.getElem?_eq_none (by omega)] at h0
  simp at h0
end Go.Proofs.YtnkhhndjbanmnaaGreatDoor
