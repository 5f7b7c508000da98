/- Texts joined, in their order: BerI, IntOpen, LstOpen, TabOpen. -/
import Derived.Test.YtnkhhndjbanmnaaGreatDoorRows
import Derived.ProofKit
import Derived.OpenShut
import Derived.SizedLaws
import Derived.WalkKit
import Derived.Lib.Hide
import Derived.Lib.LaidTab
import Derived.MakeChecks
import Derived.Test.YtnkhhndjbanmnaaGreatDoorMn3
import Derived.Test.YtnkhhndjbanmnaaGreatDoorMn5
import Derived.Test.YtnkhhndjbanmnaaGreatDoorMn41

/- A product as it grows: a coefficient times monic ones. Mathematics alone. -/
namespace Go.Proofs.YtnkhhndjbanmnaaGreatDoor
open Ser (Bd)

/-- The row is c times a monic one that is divided as v says. -/
def Grw (p c : Int) (v : Ser → Nat) (out : List Int) : Prop := ∃ g, Mn p g ∧ Pol p out (Ser.sc c (cf g)) ∧ ∀ q, Irr p q → V p (cf g) q = v q
theorem grw_start {p c : Int} (hp : Pr p) (h1 : 1 ≤ c) (h2 : c < p) : Grw p c (fun _ => 0) [c] := by
  refine ⟨[1], mn_one hp, ⟨⟨fun x hx => ?_, .inr ?_⟩, fun i => ?_⟩, fun q hq => V_one hp hq⟩
  · simp at hx; omega
  · show c ≠ 0; omega
  · show cf [c] i % p = (c * cf [1] i) % p
    match i with
    | 0 => show c % p = c * 1 % p; rw [Int.mul_one]
    | i + 1 => rw [cf_over (by simp), cf_over (by simp)]; simp
theorem Grw.next {p c : Int} {v : Ser → Nat} {out q : List Int} (hp : Pr p) (h : Grw p c v out) (hq : Mn p q) : Grw p c (fun r => v r + V p (cf q) r) (polL p (Ser.mul (cf out) (cf q))) := by
  obtain ⟨g, g1, g2, g3⟩ := h
  obtain ⟨m1, _, m3⟩ := mn_mul hp g1 hq
  refine ⟨_, m1, ?_, fun r hr => by rw [m3 r hr, g3 r hr]⟩
  have hf : Fini p (Ser.mul (cf out) (cf q)) := (fini_cf p out).mul (fini_cf p q)
  refine (polL_pol hp hf).eq ?_
  refine (g2.2.mul (Ser.Eq.refl _ _)).trans ?_
  rw [Ser.sc_mul]
  exact Ser.Eq.sc rfl (polL_pol hp ((fini_cf p g).mul (fini_cf p q))).2.symm
theorem Grw.congr {p c : Int} {v v' : Ser → Nat} {out : List Int} (h : Grw p c v out) (e : ∀ q, Irr p q → v q = v' q) : Grw p c v' out := by
  obtain ⟨g, g1, g2, g3⟩ := h
  exact ⟨g, g1, g2, fun q hq => (g3 q hq).trans (e q hq)⟩
theorem last_sc {p c : Int} {f : Ser} {m : Nat} (hp : Pr p) (hc : c % p ≠ 0) (h : Last p f m) : Last p (Ser.sc c f) m :=
  ⟨fun i hi => by show c * f i % p = 0; rw [Int.mul_emod, h.1 i hi]; simp, mul_nz hp hc h.2⟩
theorem Grw.len {p c : Int} {v : Ser → Nat} {out m : List Int} (hp : Pr p) (hc : c % p ≠ 0) (hm : Mn p m) (h : Grw p c v out) (e : ∀ q, Irr p q → v q ≤ V p (cf m) q) : out.length ≤ m.length := by
  obtain ⟨g, g1, g2, g3⟩ := h
  have h1 := g1.len_le hp hm fun q hq => by rw [g3 q hq]; exact e q hq
  have hl := last_sc hp hc g1.last
  have := pol_len (by have := hp.1; omega) g2 hl.1 hl.2
  have := g1.pos
  omega
theorem cf_mem {L : List Int} {m : Nat} (h : m < L.length) : cf L m ∈ L := by
  unfold cf
  rw [List.getD_eq_getElem?_getD, List.getElem?_eq_getElem h]
  exact List.getElem_mem _
/-- The last coefficient of what is asked about. -/
theorem last_cf9 {p : Int} {xs : List Int} (hp : Pr p) (hb : ¬ Bd p (cf xs) 0) : ∃ m, Last p (cf xs) m ∧ (polL p (cf xs)).length = m + 1 ∧ cf (polL p (cf xs)) m % p = cf xs m % p ∧ 1 ≤ cf (polL p (cf xs)) m ∧ cf (polL p (cf xs)) m < p := by
  obtain ⟨m, hm⟩ := last_of hb (fini_cf p xs)
  have hP := polL_pol hp (fini_cf p xs)
  have hl := pol_len (by have := hp.1; omega) hP hm.1 hm.2
  have e := hP.2 m
  have hr := hP.1.1 (cf (polL p (cf xs)) m) (cf_mem (by omega))
  refine ⟨m, hm, hl, e, ?_, hr.2⟩
  have : cf (polL p (cf xs)) m ≠ 0 := fun k => hm.2 (by rw [← e, k]; simp)
  have := hr.1
  omega
theorem Grw.done {p : Int} {v : Ser → Nat} {out xs : List Int} (hp : Pr p) {m : Nat} (hm : Last p (cf xs) m) {c : Int} (hc : c % p = cf xs m % p) (h : Grw p c v out) (e : ∀ q, Irr p q → v q = V p (cf (monL p (cf xs))) q) : out = polL p (cf xs) := by
  obtain ⟨g, g1, g2, g3⟩ := h
  obtain ⟨m1, m2, m3, m4⟩ := mn_mon hp hm
  have hg : g = monL p (cf xs) := g1.ext hp m1 fun q hq => (g3 q hq).trans (e q hq)
  subst hg
  refine (polL_is hp (g2.eq ?_)).symm
  refine (Ser.Eq.sc hc m3).trans fun i => ?_
  show cf xs m * (finv (cf xs m) p * cf xs i) % p = cf xs i % p
  rw [← Int.mul_assoc, Int.mul_emod, (finv_spec hp hm.2).2.2, Int.one_mul, Int.emod_emod_of_dvd _ (Int.dvd_refl p)]
/-- The first j of them. -/
theorem vn_take {p : Int} {q : Ser} {L : PL} {j : Nat} (hj : j < L.length) : vn p q (L.take (j + 1)) = vn p q (L.take j) + L[j].2 * V p (cf L[j].1) q := by
  rw [List.take_succ_eq_append_getElem hj, vn_append, vn, vn, Nat.add_zero]
theorem vn_take_le {p : Int} {q : Ser} (L : PL) (j : Nat) : vn p q (L.take j) ≤ vn p q L := by
  conv => rhs; rw [← List.take_append_drop j L]
  rw [vn_append]; omega
end Go.Proofs.YtnkhhndjbanmnaaGreatDoor

/- What every law's frame wants at a seat: the knob, the layout; an int's bounds. -/
namespace Go.Proofs.YtnkhhndjbanmnaaGreatDoor
open Go.ChangeShapes Go.WideShapes Go.ChangeAt Go.RowKit

theorem own0 : ownKnob Tryz.prog.godebug = none := by kernel_rfl
theorem laidOut0 : laidOutB Tryz.prog = true := by kernel_rfl
theorem int_wf {k : Int} (hk : (Lit.int .i64 k).wf = true) : -9223372036854775808 ≤ k ∧ k ≤ 9223372036854775807 := by
  have h2 : IntKind.i64.min = -9223372036854775808 := rfl
  have h3 : IntKind.i64.max = 9223372036854775807 := rfl
  simp only [Lit.wf, Bool.and_eq_true, decide_eq_true_eq] at hk
  omega
end Go.Proofs.YtnkhhndjbanmnaaGreatDoor

/- An argument that is a slice of ints, opened: it reads as ints, and is no longer than memory. -/
namespace Go.Proofs.YtnkhhndjbanmnaaGreatDoor
open Go.ChangeShapes Go.WideShapes Go.ChangeAt Go.RowKit

theorem bytesI : Tryz.prog.bytesOf 3 = 8 := by kernel_rfl
theorem cellsI : Tryz.prog.cellsOf 3 = 1 := by kernel_rfl

theorem isl_open {H : Type} {enc : TypeId × Value → H} {W : World} {a : Option Addr} {len cap : Nat} {d : DataW H} {p : List MemPlace} {ts : List TypeId} {ds : List (DataW H)}
    (h : DataW.Trod enc Tryz.prog W 0 (fun _ => true) true 22 (.slice a len cap) d p) (hsz : (DataW.weightsEach Tryz.prog ts ds).all (· ≤ reachBytes) = true) (j : Nat) (ht : ts[j]? = some 22) (hd : ds[j]? = some d) :
    ∃ xs, ISl W a len cap xs ∧ len ≤ 17592186044416 := by
  obtain ⟨fuel, hf⟩ := h
  rcases open_ints Tryz.underlying22 Tryz.underlying3 cellsI hf with ⟨hcs, _⟩ | ⟨x, l, c, zs, hcs, _, hl, hm, hz, hx, hcell, hwz⟩
  · simp [Value.cells] at hcs
    obtain ⟨rfl, rfl, rfl⟩ := hcs
    exact ⟨[], ⟨rfl, Nat.le_refl _, by decide, fun _ => rfl, IRd.nil _ _⟩, by decide⟩
  · simp [Value.cells] at hcs
    obtain ⟨rfl, rfl, rfl⟩ := hcs
    have hz' : zs.length = cap := by simpa using hz
    have hdd : d = .slice (lits .i64 (zs.take len)) (lits .i64 (zs.drop len)) := by
      have := congrArg Prod.fst hx
      simpa using this
    have hs := sized_slice hsz (j := j) (t := 22) (e := 3) ht (by rw [hd, hdd]) Tryz.underlying22
    rw [bytesI] at hs
    simp only [lits, List.length_map, List.length_take, List.length_drop, reachBytes] at hs
    have hwf : ∀ n ∈ zs, In64 n := by
      intro n hn
      have h1 := hwz n hn
      have h2 : IntKind.i64.min = -9223372036854775808 := rfl
      have h3 : IntKind.i64.max = 9223372036854775807 := rfl
      simp only [Lit.wf, Bool.and_eq_true, decide_eq_true_eq] at h1
      unfold In64; omega
    have hfit : Fi (zs.take len) := fun y hy => hwf y (List.mem_of_mem_take hy)
    have hlen : (zs.take len).length = len := by simp; omega
    refine ⟨zs.take len, ⟨hlen.symm, hl, by unfold maxLen at hm; omega, (fun e => by cases e), hfit, ?_⟩, by omega⟩
    by_cases h0 : len = 0
    · left
      apply List.eq_nil_of_length_eq_zero
      rw [hlen, h0]
    · right
      obtain ⟨b, off, spot⟩ := x
      have hc := hcell 0 (by omega)
      have hspot : spot = none := by simpa [Addr.add] using World.cell?_spot hc
      subst hspot
      refine ⟨b, off, rfl, World.block_lt_of_cell? W _ (by simpa [Addr.add] using hc), fun k hk => ?_⟩
      rw [hlen] at hk
      have h1 := hcell k (by omega)
      rw [iadd_add _ k b off rfl] at h1
      rw [h1]
      have e : zs.getD k 0 = zs[k] := by rw [List.getD_eq_getElem?_getD, List.getElem?_eq_getElem (by omega)]; rfl
      rw [e]
      simp only [List.getElem_take]
end Go.Proofs.YtnkhhndjbanmnaaGreatDoor

/- From the row's condition on the table of small primes to the words that the walks use. -/
namespace Go.Proofs.YtnkhhndjbanmnaaGreatDoor
open Go.RowKit

theorem tab_is : (Rows.laid_cleaver_prime_divisors : DataW Unit) = Lib.tabData .u8 (tblL.map fun n : Nat => (n : Int)) := rfl
theorem tab_of_laid {W : World} (h : laidMetH Tryz.prog [("cleaver/prime.divisors", Rows.laid_cleaver_prime_divisors)] W) : TabAt W := by
  rw [MakeChecks.laidMetH_plain _ _ _ (by kernel_rfl), tab_is] at h
  have hg : Tryz.prog.globalNamed "cleaver/prime.divisors" = some 0 := by kernel_rfl
  have hT := Lib.tabIs_of_head hg (t := 149) (e := 5) (n := 54) (by kernel_rfl) (by kernel_rfl) (by kernel_rfl) (by kernel_rfl) (by kernel_rfl) h
  have hc : ∀ i, i < 54 → W.cell? ⟨0, i, none⟩ = some (.int .u8 (tbl i : Int)) := fun i hi => by
    rw [hT.cell hg i (by simpa [tblL] using hi)]
    unfold tbl
    rw [List.getD_eq_getElem?_getD, List.getD_eq_getElem?_getD, List.getElem?_map]
    cases tblL[i]? <;> rfl
  refine ⟨?_, hc⟩
  have h0 := hc 0 (by decide)
  refine Classical.byContradiction fun hn => ?_
  simp only [World.cell?] at h0
  rw [Array.getElem?_eq_none (by omega)] at h0
  simp at h0
end Go.Proofs.YtnkhhndjbanmnaaGreatDoor
