/- A small modulus; a row's rests. Mathematics, and the words for memory. -/
import Derived.Test.YtipdnfdeacdkgaaDoorIntWords
import Derived.Test.YtipdnfdeacdkgaaDoorPol
namespace Go.Proofs.YtipdnfdeacdkgaaDoor

/-- A small modulus. -/
def Md (p : Int) : Prop := 1 ≤ p ∧ p ≤ 65521
theorem Pr.md {p : Int} (h : Pr p) : Md p := ⟨by have := h.1; omega, h.2.1⟩
theorem Md.in64 {p : Int} (h : Md p) : In64 p := by obtain ⟨h1, h2⟩ := h; unfold In64; omega
theorem Rs.fi {p : Int} {xs : List Int} (h : Rs p xs) (hp : Md p) : Fi xs := fun x hx => by
  have := h x hx
  obtain ⟨h1, h2⟩ := hp
  unfold In64; omega
theorem Pol.rs {p : Int} {xs : List Int} {f : Ser} (h : Pol p xs f) : Rs p xs := h.1.1

/-- All by their rests. -/
def rst (p : Int) (xs : List Int) : List Int := xs.map (· % p)
theorem rst_length (p : Int) (xs : List Int) : (rst p xs).length = xs.length := List.length_map ..
theorem rst_rs (p : Int) (hp : Md p) (xs : List Int) : Rs p (rst p xs) := fun y hy => by
  obtain ⟨x, _, rfl⟩ := List.mem_map.1 hy
  have := hp.1
  exact ⟨Int.emod_nonneg _ (by omega), Int.emod_lt_of_pos _ (by omega)⟩
theorem cf_rst (p : Int) (xs : List Int) (i : Nat) : cf (rst p xs) i = cf xs i % p := cf_map (· % p) (by simp) xs i
theorem rst_snoc (p : Int) (xs : List Int) (k : Nat) (hk : k < xs.length) : rst p (xs.take (k + 1)) = rst p (xs.take k) ++ [cf xs k % p] := by
  rw [List.take_succ_eq_append_getElem hk, cf_at hk]
  simp only [rst, List.map_append, List.map_cons, List.map_nil]
end Go.Proofs.YtipdnfdeacdkgaaDoor
