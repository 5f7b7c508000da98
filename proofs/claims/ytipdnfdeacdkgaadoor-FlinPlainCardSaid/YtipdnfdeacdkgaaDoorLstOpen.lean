/- An argument that is a slice of ints, opened: it reads as ints, and is no longer than memory. -/
import Derived.Test.YtipdnfdeacdkgaaDoorIntOpen
import Derived.Test.YtipdnfdeacdkgaaDoorIntWords
import Derived.SizedLaws
namespace Go.Proofs.YtipdnfdeacdkgaaDoor
open Go.ChangeShapes Go.WideShapes Go.ChangeAt Go.RowKit

theorem bytesI : Tryd.prog.bytesOf 3 = 8 := by kernel_rfl
theorem cellsI : Tryd.prog.cellsOf 3 = 1 := by kernel_rfl

theorem isl_open {H : Type} {enc : TypeId × Value → H} {W : World} {a : Option Addr} {len cap : Nat} {d : DataW H} {p : List MemPlace} {ts : List TypeId} {ds : List (DataW H)}
    (h : DataW.Trod enc Tryd.prog W 0 (fun _ => true) true 31 (.slice a len cap) d p) (hsz : (DataW.weightsEach Tryd.prog ts ds).all (· ≤ reachBytes) = true) (j : Nat) (ht : ts[j]? = some 31) (hd : ds[j]? = some d) :
    ∃ xs, ISl W a len cap xs ∧ len ≤ 17592186044416 := by
  obtain ⟨fuel, hf⟩ := h
  rcases open_ints Tryd.underlying31 Tryd.underlying3 cellsI hf with ⟨hcs, _⟩ | ⟨x, l, c, zs, hcs, _, hl, hm, hz, hx, hcell, hwz⟩
  · simp [Value.cells] at hcs
    obtain ⟨rfl, rfl, rfl⟩ := hcs
    exact ⟨[], ⟨rfl, Nat.le_refl _, by decide, fun _ => rfl, IRd.nil _ _⟩, by decide⟩
  · simp [Value.cells] at hcs
    obtain ⟨rfl, rfl, rfl⟩ := hcs
    have hz' : zs.length = cap := by simpa using hz
    have hdd : d = .slice (lits .i64 (zs.take len)) (lits .i64 (zs.drop len)) := by
      have := congrArg Prod.fst hx
      simpa using this
    have hs := sized_slice hsz (j := j) (t := 31) (e := 3) ht (by rw [hd, hdd]) Tryd.underlying31
    rw [bytesI] at hs
    simp only [lits, List.length_map, List.length_take, List.length_drop, reachBytes] at hs
    have hwf : ∀ n ∈ zs, In64 n := by
      intro n hn
      have h1 := hwz n hn
      have h2 : IntKind.i64.min = -9223372036854775808 := rfl
      have h3 : IntKind.i64.max = 9223372036854775807 := rfl
      simp only [Lit.wf, Bool.and_eq_true, decide_eq_true_eq] at h1
      unfold In64; omega
    have hfit : Fi (zs.take len) := fun y hy => hwf y (List.mem_of_mem_take hy)
    have hlen : (zs.take len).length = len := by simp; omega
    refine ⟨zs.take len, ⟨hlen.symm, hl, by unfold maxLen at hm; omega, (fun e => by cases e), hfit, ?_⟩, by omega⟩
    by_cases h0 : len = 0
    · left
      apply List.eq_nil_of_length_eq_zero
      rw [hlen, h0]
    · right
      obtain ⟨b, off, spot⟩ := x
      have hc := hcell 0 (by omega)
      have hspot : spot = none := by simpa [Addr.add] using World.cell?_spot hc
      subst hspot
      refine ⟨b, off, rfl, World.block_lt_of_cell? W _ (by simpa [Addr.add] using hc), fun k hk => ?_⟩
      rw [hlen] at hk
      have h1 := hcell k (by omega)
      rw [iadd_add _ k b off rfl] at h1
      rw [h1]
      have e : zs.getD k 0 = zs[k] := by rw [List.getD_eq_getElem?_getD, List.getElem?_eq_getElem (by omega)]; rfl
      rw [e]
      simp only [List.getElem_take]
end Go.Proofs.YtipdnfdeacdkgaaDoor
