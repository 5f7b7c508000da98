/- The law FsqfPowers: its walk and its card. -/
import Derived.Test.YtekpifafjbkmiaaDoorMh27
import Derived.Test.YtekpifafjbkmiaaDoorMh7
import Derived.Test.YtekpifafjbkmiaaDoorTie
import Derived.Test.YtekpifafjbkmiaaDoorCards
import Derived.ChangeOld
import Derived.ChangeMaps5
import Derived.Lay
import Derived.LaidMore
import Derived.SevenTiedAt
import Derived.Stop.Joined
import Derived.Below

/- The radical's mathematics: it divides, a power of it is divided, a product's is made of both. -/
namespace Go.Proofs.YtekpifafjbkmiaaDoor
open Ser (Bd)

theorem mnr_gcd {p : Int} {xs : List Int} (hp : Pr p) (h : Mn p xs) (hs : Sqf p xs) : esq p (cf xs) = 0 ∧ sqB p (cf xs) = true :=
  ⟨esq_yes hp h.last.some, sqB_is (esq_yes hp h.last.some) (by rw [mon_self hp h]; exact ⟨fun _ => hs, fun _ => rfl⟩)⟩
/-- What a radical is to its polynomial. -/
structure RdF (p : Int) (xs r : List Int) : Prop where
  m : Mn p r
  v : ∀ q, Irr p q → V p (cf r) q = min 1 (V p (cf xs) q)
  len : r.length ≤ xs.length
  rem : remL p (cf xs) (cf r) = []
  e : ediv p (cf r) = 0
  b : sqB p (cf r) = true
  s : esq p (cf r) = 0
theorem rdf_of {p : Int} {xs r : List Int} (hp : Pr p) (hb : ¬ Bd p (cf xs) 0) (h : IsRad p (monL p (cf xs)) r) : RdF p xs r := by
  obtain ⟨m, hm, hl⟩ := last_cf hb
  obtain ⟨m1, m2, m3⟩ := mn_monL hp hb
  have hv : ∀ q, Irr p q → V p (cf r) q = min 1 (V p (cf xs) q) := fun q hq => by rw [h.2 q hq, m3 q hq]
  have hs : Sqf p r := fun q hq => by rw [hv q hq]; omega
  obtain ⟨s1, s2⟩ := mnr_gcd hp h.1 hs
  refine ⟨h.1, hv, ?_, ?_, ediv_yes hp h.1.last.some, s2, s1⟩
  · have := Mn.len_le hp h.1 m1 fun q hq => by rw [h.2 q hq]; omega
    omega
  · exact rem_mult hp h.1.last (mult_of_V hp _ _ _ _ h.1.last hm fun q hq => by rw [hv q hq]; omega)
/-- The product of two. -/
theorem mul_some {p : Int} {xs ys : List Int} (hp : Pr p) (ha : ¬ Bd p (cf xs) 0) (hb : ¬ Bd p (cf ys) 0) :
    ¬ Bd p (cf (polL p (Ser.mul (cf xs) (cf ys)))) 0 ∧ ∀ q, Irr p q → V p (cf (polL p (Ser.mul (cf xs) (cf ys)))) q = V p (cf xs) q + V p (cf ys) q := by
  obtain ⟨m, hm, _⟩ := last_cf ha
  obtain ⟨m', hm', _⟩ := last_cf hb
  have hP := polL_pol (f := Ser.mul (cf xs) (cf ys)) hp ((fini_cf p xs).mul (fini_cf p ys))
  exact ⟨((hm.mul hp hm').eq hP.2.symm).some, fun q hq => by rw [V_congr hP.2, V_mul hp hq hm hm']⟩
theorem mul_none {p : Int} {xs ys : List Int} (hp : Pr p) (h : Bd p (cf xs) 0 ∨ Bd p (cf ys) 0) : Bd p (cf (polL p (Ser.mul (cf xs) (cf ys)))) 0 := by
  have hP := polL_pol (f := Ser.mul (cf xs) (cf ys)) hp ((fini_cf p xs).mul (fini_cf p ys))
  refine Bd.eq ?_ hP.2.symm
  rcases h with h | h
  · obtain ⟨k, hk⟩ := fini_cf p ys
    have e : Ser.Eq p (Ser.mul (cf xs) (cf ys)) (Ser.mul Ser.zer (cf ys)) := Ser.Eq.mul (fun i => by rw [h i (Nat.zero_le _)]; simp [Ser.zer]) (Ser.Eq.refl _ _)
    refine Bd.eq (fun i _ => ?_) e.symm
    rw [Ser.zer_mul]; simp [Ser.zer]
  · have e : Ser.Eq p (Ser.mul (cf xs) (cf ys)) (Ser.mul (cf xs) Ser.zer) := Ser.Eq.mul (Ser.Eq.refl _ _) (fun i => by rw [h i (Nat.zero_le _)]; simp [Ser.zer])
    refine Bd.eq (fun i _ => ?_) e.symm
    rw [Ser.mul_comm, Ser.zer_mul]; simp [Ser.zer]
/-- A product's radical: both, but what is common once. -/
structure RdP (p : Int) (r s t : List Int) : Prop where
  q : quoL p (cf (polL p (Ser.mul (cf r) (cf s)))) (cf (bezG p (cf r) (cf s))) = t
  e : ediv p (cf (bezG p (cf r) (cf s))) = 0
  l : (bezG p (cf r) (cf s)).length ≤ r.length
theorem rdp_of {p : Int} {xs ys r s t : List Int} (hp : Pr p) (ha : ¬ Bd p (cf xs) 0) (hb : ¬ Bd p (cf ys) 0) (hr : RdF p xs r) (hs : RdF p ys s) (ht : RdF p (polL p (Ser.mul (cf xs) (cf ys))) t) : RdP p r s t := by
  obtain ⟨_, v⟩ := mul_some hp ha hb
  obtain ⟨u1, _, u3⟩ := mn_mul hp hr.m hs.m
  obtain ⟨g1, g2, g3⟩ := mn_gcd hp hr.m hs.m
  obtain ⟨q1, _, q3⟩ := mn_quo hp u1 g1 fun q hq => by rw [g3 q hq, u3 q hq]; omega
  refine ⟨q1.ext hp ht.m fun q hq => ?_, ediv_yes hp g1.last.some, g2⟩
  rw [q3 q hq, u3 q hq, g3 q hq, ht.v q hq, v q hq, hr.v q hq, hs.v q hq]
  omega
/-- Powers of it. -/
structure PwR (p : Int) (r : List Int) (k : Nat) (w : List Int) : Prop where
  m : Mn p w
  len : w.length ≤ k * 13 + 1
  v : ∀ q, Irr p q → V p (cf w) q = k * V p (cf r) q
theorem pwr_start {p : Int} (hp : Pr p) (r : List Int) : PwR p r 0 [1] := ⟨mn_one hp, by decide, fun q hq => by rw [V_one hp hq, Nat.zero_mul]⟩
theorem PwR.next {p : Int} {r w : List Int} {k : Nat} (hp : Pr p) (hr : Mn p r) (hl : r.length ≤ 14) (h : PwR p r k w) : PwR p r (k + 1) (polL p (Ser.mul (cf w) (cf r))) := by
  obtain ⟨u1, u2, u3⟩ := mn_mul hp h.m hr
  have := h.len
  exact ⟨u1, by omega, fun q hq => by rw [u3 q hq, h.v q hq, Nat.succ_mul]⟩
theorem PwR.done {p : Int} {xs r w : List Int} (hp : Pr p) (hb : ¬ Bd p (cf xs) 0) (hl : xs.length ≤ 14) (hr : RdF p xs r) (h : PwR p r 14 w) : remL p (cf w) (cf xs) = [] ∧ ediv p (cf xs) = 0 := by
  obtain ⟨m, hm, hml⟩ := last_cf hb
  refine ⟨rem_mult hp hm (mult_of_V hp _ _ _ _ hm h.m.last fun q hq => ?_), ediv_yes hp hb⟩
  have := V_le_deg hp hq hm
  rw [h.v q hq, hr.v q hq]
  omega
theorem rad_bad {p : Int} {xs ys : List Int} (h : ¬ (Pr p ∧ ¬ Bd p (cf xs) 0 ∧ ¬ Bd p (cf ys) 0)) :
    (esq p (cf xs) = 1 ∧ esq p (cf ys) = 1 ∧ esq p (cf (polL p (Ser.mul (cf xs) (cf ys)))) = 1) ∨ (esq p (cf xs) = 8 ∧ esq p (cf ys) = 8 ∧ esq p (cf (polL p (Ser.mul (cf xs) (cf ys)))) = 8) ∨
    (esq p (cf xs) = 8 ∧ esq p (cf ys) = 0 ∧ esq p (cf (polL p (Ser.mul (cf xs) (cf ys)))) = 8) ∨ (esq p (cf xs) = 0 ∧ esq p (cf ys) = 8 ∧ esq p (cf (polL p (Ser.mul (cf xs) (cf ys)))) = 8) := by
  rcases Classical.em (Pr p) with hp | hp
  · rcases Classical.em (Bd p (cf xs) 0) with ha | ha <;> rcases Classical.em (Bd p (cf ys) 0) with hb | hb
    · exact .inr (.inl ⟨esq_zero hp ha, esq_zero hp hb, esq_zero hp (mul_none hp (.inl ha))⟩)
    · exact .inr (.inr (.inl ⟨esq_zero hp ha, esq_yes hp hb, esq_zero hp (mul_none hp (.inl ha))⟩))
    · exact .inr (.inr (.inr ⟨esq_yes hp ha, esq_zero hp hb, esq_zero hp (mul_none hp (.inr hb))⟩))
    · exact absurd ⟨hp, ha, hb⟩ h
  · exact .inl ⟨esq_no hp, esq_no hp, esq_no hp⟩
end Go.Proofs.YtekpifafjbkmiaaDoor

/- Powers of a polynomial: their parts and their radical. -/
namespace Go.Proofs.YtekpifafjbkmiaaDoor
open Ser (Bd)

theorem min_times {v k : Nat} (hk : 1 ≤ k) : min 1 (k * v) = min 1 v := by
  rcases Nat.eq_zero_or_pos v with h | h
  · subst h; rw [Nat.mul_zero]
  · have := Nat.mul_pos hk h; omega
structure PwP (p : Int) (xs : List Int) (i : Nat) (b : List Int) : Prop where
  v : Pr p → ¬ Bd p (cf xs) 0 → ¬ Bd p (cf b) 0 ∧ ∀ q, Irr p q → V p (cf b) q = i * V p (cf xs) q
  z : Pr p → Bd p (cf xs) 0 → 1 ≤ i → Bd p (cf b) 0
theorem pwp_start (p : Int) (xs : List Int) : PwP p xs 0 [1] := ⟨fun hp _ => ⟨(mn_one hp).last.some, fun q hq => by rw [V_one hp hq, Nat.zero_mul]⟩, fun _ _ h => absurd h (by omega)⟩
theorem PwP.next {p : Int} {xs b : List Int} {i : Nat} (h : PwP p xs i b) : PwP p xs (i + 1) (polL p (Ser.mul (cf b) (cf xs))) := by
  refine ⟨fun hp ha => ?_, fun hp ha _ => mul_none hp (.inr ha)⟩
  obtain ⟨h1, h2⟩ := h.v hp ha
  obtain ⟨g1, g2⟩ := mul_some hp h1 ha
  exact ⟨g1, fun q hq => by rw [g2 q hq, h2 q hq, Nat.succ_mul]⟩
theorem parts_pow {p : Int} {m m' : List Int} {L : PL} {k : Nat} (hk : 1 ≤ k) (e : ∀ q, Irr p q → V p (cf m') q = k * V p (cf m) q) (h : IsParts p m L) : IsParts p m' (L.map fun x => (x.1, k * x.2)) := by
  refine ⟨?_, fun y hy => ?_, fun q hq h1 => ?_⟩
  · have e1 : (L.map fun x => (x.1, k * x.2)).map (·.2) = (L.map (·.2)).map (k * ·) := by rw [List.map_map, List.map_map]; rfl
    rw [e1]
    exact List.Pairwise.map _ (fun a b hab => Nat.mul_lt_mul_of_pos_left hab hk) h.up
  · obtain ⟨x, hx, rfl⟩ := List.mem_map.1 hy
    obtain ⟨h1, h2, h3⟩ := h.own x hx
    refine ⟨Nat.mul_pos hk h1, ⟨h2.1, fun q hq => ?_⟩, h3⟩
    rw [h2.2 q hq, e q hq]
    by_cases hv : V p (cf m) q = x.2
    · rw [if_pos hv, if_pos (by rw [hv])]
    · rw [if_neg hv, if_neg fun hc => hv (Nat.eq_of_mul_eq_mul_left hk hc)]
  · rw [e q hq] at h1
    have hv : 1 ≤ V p (cf m) q := by
      rcases Nat.eq_zero_or_pos (V p (cf m) q) with h0 | h0
      · rw [h0, Nat.mul_zero] at h1; omega
      · exact h0
    obtain ⟨x, hx, hx2⟩ := h.all q hq hv
    exact ⟨_, List.mem_map.2 ⟨x, hx, rfl⟩, by rw [e q hq, ← hx2]⟩
theorem pow_V {p : Int} {xs b : List Int} {k : Nat} (hp : Pr p) (ha : ¬ Bd p (cf xs) 0) (h : PwP p xs k b) (q : Ser) (hq : Irr p q) : V p (cf (monL p (cf b))) q = k * V p (cf (monL p (cf xs))) q := by
  obtain ⟨h1, h2⟩ := h.v hp ha
  rw [(mn_monL hp h1).2.2 q hq, (mn_monL hp ha).2.2 q hq, h2 q hq]
theorem pow_parts {p : Int} {xs b : List Int} {k : Nat} {L L' : PL} (hp : Pr p) (ha : ¬ Bd p (cf xs) 0) (hk : 1 ≤ k) (h : PwP p xs k b) (hL : IsParts p (monL p (cf xs)) L) (hL' : IsParts p (monL p (cf b)) L') : L' = L.map fun x => (x.1, k * x.2) :=
  hL'.uniq hp (parts_pow hk (pow_V hp ha h) hL)
theorem pow_rad {p : Int} {xs b r s : List Int} {k : Nat} (hp : Pr p) (ha : ¬ Bd p (cf xs) 0) (hk : 1 ≤ k) (h : PwP p xs k b) (hr : IsRad p (monL p (cf xs)) r) (hs : IsRad p (monL p (cf b)) s) : s = r :=
  hs.1.ext hp hr.1 fun q hq => by rw [hs.2 q hq, hr.2 q hq, pow_V hp ha h q hq, min_times hk]
theorem pow_row {Z Z' : List Pt} {k : Nat} (e : pls Z' = (pls Z).map fun x => (x.1, k * x.2)) : Z'.length = Z.length ∧ ∀ i (h1 : i < Z.length) (h2 : i < Z'.length), Z'[i].xs = Z[i].xs ∧ Z'[i].N = k * Z[i].N := by
  have hl : Z'.length = Z.length := by rw [← pls_length Z', e, List.length_map, pls_length]
  refine ⟨hl, fun i h1 h2 => ?_⟩
  have e1 : (pls Z')[i]? = ((pls Z).map fun x => (x.1, k * x.2))[i]? := by rw [e]
  unfold pls at e1
  rw [List.getElem?_map, List.getElem?_map, List.getElem?_map, List.getElem?_eq_getElem h1, List.getElem?_eq_getElem h2] at e1
  simp only [Option.map_some, Option.some.injEq, Pt.pl, Prod.mk.injEq] at e1
  exact e1
theorem pow_bad {p : Int} {xs b : List Int} {k : Nat} (hk : 1 ≤ k) (h : PwP p xs k b) (hn : ¬ (Pr p ∧ ¬ Bd p (cf xs) 0)) : (esq p (cf xs) = 1 ∧ esq p (cf b) = 1) ∨ (esq p (cf xs) = 8 ∧ esq p (cf b) = 8) := by
  rcases Classical.em (Pr p) with hp | hp
  · rcases Classical.em (Bd p (cf xs) 0) with ha | ha
    · exact .inr ⟨esq_zero hp ha, esq_zero hp (h.z hp ha hk)⟩
    · exact absurd ⟨hp, ha⟩ hn
  · exact .inl ⟨esq_no hp, esq_no hp⟩
theorem parts_small {p : Int} {xs : List Int} {L : PL} (hp : Pr p) (ha : ¬ Bd p (cf xs) 0) (h : IsParts p (monL p (cf xs)) L) {x : List Int × Nat} (hx : x ∈ L) : x.2 ≤ xs.length := by
  obtain ⟨m1, m2, _⟩ := mn_monL hp ha
  obtain ⟨_, ho, hne⟩ := h.own x hx
  obtain ⟨q, hq, hv⟩ := own_some hp ho hne
  have := m1.V_lt hp hq
  omega
end Go.Proofs.YtekpifafjbkmiaaDoor

/- The law FsqfPowers, walked. -/
namespace Go.Proofs.YtekpifafjbkmiaaDoor
open Go.RowKit

theorem wstep8 {w w1 w2 : World} (h : Hid (Below w.heap.size w w1)) (k : Below w1.heap.size w1 w2) : Hid (Below w.heap.size w w2) := Lib.hid (h.out.trans (k.mono h.out.size))
theorem and_7 (n : Int) : bits .and .i64 n 7 = n % 8 := and_ones n 3 (by decide)

set_option maxRecDepth 100000 in
set_option maxHeartbeats 8000000 in
theorem walkFsqfPowers (A : Option Addr) (n c : Nat) (xs : List Int) (ex p : Int) (w : World) (hT : TabAt w) (sm : ISl w A n c xs) (_ : n ≤ 17592186044416) (_ : (Lit.int .i64 ex).wf = true) (wp : (Lit.int .i64 p).wf = true) :
    Calls Tryd.prog 6 #[.slice A n c, .int .i64 ex, .int .i64 p] w fun e w' => e = .returned (.bool true) ∧ Below w.heap.size w w' := by
  have ip : In64 p := int_wf wp
  have AW := Lib.hid (awake08 w hT)
  by_cases hn : n ≤ 12
  · have hn2 : ¬ (12 : Int) < (n : Int) := by omega
    obtain ⟨kv, hkv⟩ : ∃ kv : Nat, ex % 8 = (kv : Int) := ⟨(ex % 8).toNat, by have := Int.emod_nonneg ex (b := 8) (by decide); omega⟩
    have kv7 : kv ≤ 7 := by have := Int.emod_lt_of_pos ex (b := 8) (by decide); omega
    have hand : bits .and .i64 ex 7 = (kv : Int) := by rw [and_7, hkv]
    obtain ⟨K, hK⟩ : ∃ K : Nat, K = 1 + kv := ⟨_, rfl⟩
    have hadd : IntKind.i64.wrap (1 + (kv : Int)) = (K : Int) := by rw [IntKind.wrap_i64]; omega
    have k81 : 1 ≤ K := by omega
    have k88 : K ≤ 8 := by omega
    have HT := Lib.hid hT
    have IP := Lib.hid ip
    have SA := Lib.hid sm
    clear hT sm hkv
    go_enter Tryd.func6, Tryd.ntmps6
    go_wp2_with (go_at_call 8; (with_reducible refine AW.out.mono ?_); rintro e w0 ⟨rfl, hb0⟩; have HB0 := Lib.hid hb0; clear hb0)
    rw [show (1 + (kv : Int)) = (K : Int) from by omega]
    clear hand hadd hK kv7
    have HBa := Lib.hid (bel_al w0 (.cells #[.int .i64 1] 3))
    have IZo := Lib.hid ((iblk_list w0 [1] (fi_one (by unfold In64; omega))).sl (by simp))
    go_loopw [9, 10] (fun vo vi wr => ∃ (i : Nat) (Co : Option Addr) (mv dv : Nat) (b : List Int), vi = .int .i64 (i : Int) ∧ i ≤ K ∧ vo = .slice Co mv dv ∧ mv ≤ 1 + 12 * i ∧ Hid (PwP p xs i b) ∧ Hid (ISl wr Co mv dv b) ∧ Hid (Below w0.heap.size w0 wr)) (fun _ vi _ => K - (intOf vi).toNat)
    case atStart => exact ⟨0, _, _, _, [1], rfl, Nat.zero_le _, rfl, by simp, Lib.hid (pwp_start p xs), IZo, HBa⟩
    case round =>
      obtain ⟨i, Co, mv, dv, b, rfl, hi, rfl, hmv, PW, IW, BB⟩ := hrel
      clear HBa IZo
      have BX := Lib.hid (show Below w.heap.size w wr from below_to HB0.out BB.out)
      by_cases hlt : i < K
      · have j1 : (i : Int) < (K : Int) := by omega
        have MU := Lib.hid (lTimes8 Co A mv dv n c b xs p wr (HT.out.below BX.out) IW.out (SA.out.below BX.out) IP.out (by omega) (by omega))
        go_wp2_with (go_at_call 19; (with_reducible refine MU.out.mono ?_); rintro e w7 ⟨C7, m7, d7, rfl, hg⟩; have G7 := Lib.hid hg.isl; have B7 := Lib.hid (below_to BB.out hg.bel); have m79 : m7 ≤ 1 + 12 * (i + 1) := (by have := hg.2.1; omega); clear hg)
        go_roundw
        case rel => exact ⟨i + 1, C7, m7, d7, _, by go_num, by omega, rfl, m79, Lib.hid PW.out.next, G7, B7⟩
        case measure => simp [intOf]; omega
      · have j1 : ¬ (i : Int) < (K : Int) := by omega
        have PK : Hid (PwP p xs K b) := Lib.hid (by have := PW.out; rwa [show i = K by omega] at this)
        have mv9 : mv ≤ 100 := by omega
        rcases Classical.em (Pr p ∧ ¬ Ser.Bd p (cf xs) 0) with ⟨hp, ha⟩ | hbad
        · have NB := Lib.hid (PK.out.v hp ha).1
          have PR := Lib.hid hp
          have NA := Lib.hid ha
          have E1 := Lib.hid (fPartsOk A n c xs p wr (HT.out.below BX.out) (SA.out.below BX.out) IP.out (by omega) hp ha)
          have E2 := Lib.hid (fun W (hb : Below wr.heap.size wr W) => fPartsOk Co mv dv b p W (HT.out.below (below_to BX.out hb)) (IW.out.below hb) IP.out (by omega) PR.out NB.out)
          have E3 := Lib.hid (fun W (hb : Below wr.heap.size wr W) => fRadOk A n c xs p W (HT.out.below (below_to BX.out hb)) (SA.out.below (below_to BX.out hb)) IP.out (by omega) PR.out NA.out)
          have E4 := Lib.hid (fun W (hb : Below wr.heap.size wr W) => fRadOk Co mv dv b p W (HT.out.below (below_to BX.out hb)) (IW.out.below hb) IP.out (by omega) PR.out NB.out)
          clear hp ha
          go_wp2_with (first
            | (go_at_call 9; (with_reducible refine E1.out.mono ?_); clear E1; rintro e w2 ⟨A2, k2, c2, Z1, rfl, hR, hP, hb⟩; have B2 := Lib.hid hb; have R2 := Lib.hid hR; have P2 := Lib.hid hP; clear hR hP hb)
            | (go_at_call 9; (with_reducible refine (E2.out _ B2.out).mono ?_); clear E2; rintro e w3 ⟨A3, k3, c3, Z2, rfl, hR, hP, hb⟩; have B3 := Lib.hid (below_to B2.out hb); have EQ := Lib.hid (pow_row (pow_parts PR.out NA.out k81 PK.out P2.out hP)); have ZS := Lib.hid (fun x (hx : x ∈ pls Z1) => Nat.le_trans (parts_small PR.out NA.out P2.out hx) (show xs.length ≤ 12 by have := SA.out.len; omega)); obtain rfl : k3 = k2 := (by have h1 := hR.len; have h2 := R2.out.len; have h3 := EQ.out.1; omega); have R23 := Lib.hid (R2.out.below hb); have R3 := Lib.hid hR; clear hR hP hb)
            | (go_at_call 11; (with_reducible refine (E3.out _ B3.out).mono ?_); clear E3; rintro e w4 ⟨C4, m4, d4, rfl, ⟨r, hr, hi4⟩, hb⟩; have B4 := Lib.hid (below_to B3.out hb); have I4 := Lib.hid hi4; have IR := Lib.hid hr; have R24 := Lib.hid (R23.out.below hb); have R34 := Lib.hid (R3.out.below hb); clear hr hi4 hb)
            | (go_at_call 11; (with_reducible refine (E4.out _ B4.out).mono ?_); clear E4; rintro e w5 ⟨C5, m5, d5, rfl, ⟨s, hs, hi5⟩, hb⟩; have B5 := Lib.hid (below_to B4.out hb); obtain rfl : s = r := pow_rad PR.out NA.out k81 PK.out IR.out hs; have I5 := Lib.hid hi5; have I45 := Lib.hid (I4.out.below hb); have R25 := Lib.hid (R24.out.below hb); have R35 := Lib.hid (R34.out.below hb); clear hs hi5 hb))
          have kle := R25.out.le
          have kmx := R25.out.max
          have kle' := R35.out.le
          have kmx' := R35.out.max
          have ZL := Lib.hid R25.out.len
          have ZL' := Lib.hid R35.out.len
          have HB5 := Lib.hid (show Below w.heap.size w w5 from below_to BX.out B5.out)
          clear R2 R3 R23 R24 R34 PK PW P2
          go_loopw [19] (fun vi wr => ∃ i q : Nat, i ≤ k3 ∧ vi = .int .i64 i ∧ wr = w5.drewN q) (fun vi _ => k3 - (intOf vi).toNat)
          case atStart => exact ⟨0, 0, Nat.zero_le _, rfl, rfl⟩
          case round =>
            obtain ⟨i, q, hi2, rfl, hw⟩ := hrel
            have HW := Lib.hid hw
            have hbw : Below w5.heap.size w5 wr := hw ▸ ibelow_drewN (Below.refl _ _) q
            by_cases hl2 : i < k3
            · have k1 : i < Z1.length := by rw [← ZL.out]; exact hl2
              have k2 : i < Z2.length := by rw [← ZL'.out]; exact hl2
              obtain ⟨b1, o1, rfl, hb1, hca⟩ := R25.out.open_ (by omega)
              obtain ⟨b2, o2, rfl, hb2, hcb⟩ := R35.out.open_ (by omega)
              obtain ⟨h1, h3⟩ := hca i k1
              obtain ⟨h2, h4⟩ := hcb i k2
              have z1 := R25.out.in_ _ (List.getElem_mem k1)
              have z2 := R35.out.in_ _ (List.getElem_mem k2)
              have zs := ZS.out Z1[i].pl (List.mem_map.2 ⟨_, List.getElem_mem k1, rfl⟩)
              obtain ⟨e1, e2⟩ := EQ.out.2 i k1 k2
              obtain ⟨z, hz⟩ : ∃ z, Z1[i] = z := ⟨_, rfl⟩
              obtain ⟨z', hz'⟩ : ∃ z, Z2[i] = z := ⟨_, rfl⟩
              rw [hz] at h1 h3 z1 e1 e2 zs
              rw [hz'] at h2 h4 z2 e1 e2
              obtain ⟨zA, zn, zc, zx, zN⟩ := z
              obtain ⟨yA, yn, yc, yx, yN⟩ := z'
              have e1' : zx = yx := e1.symm
              have e2' : yN = K * zN := e2
              have zs' : zN ≤ 12 := zs
              subst e1'
              have ym : K * zN ≤ 8 * 12 := Nat.mul_le_mul k88 zs'
              have yI : (K : Int) * (zN : Int) = (yN : Int) := by rw [e2']; exact (Int.natCast_mul _ _).symm
              have hmul : IntKind.i64.wrap ((K : Int) * (zN : Int)) = (yN : Int) := by rw [yI, IntKind.wrap_i64]; omega
              simp only [Pt.sl, Pt.nv] at h1 h2 h3 h4
              have g1 : wr.cell? ⟨b1, o1 + i * 2, none⟩ = some (.slice zA zn zc) := by rw [hw]; exact h1
              have g2 : wr.cell? ⟨b2, o2 + i * 2, none⟩ = some (.slice yA yn yc) := by rw [hw]; exact h2
              have g3 : wr.cell? ⟨b1, o1 + i * 2 + 1, none⟩ = some (.int .i64 (zN : Int)) := by rw [hw]; exact h3
              have g4 : wr.cell? ⟨b2, o2 + i * 2 + 1, none⟩ = some (.int .i64 (yN : Int)) := by rw [hw]; exact h4
              have S1 := Lib.hid (fun r => quietD (rSameQ zA yA zn zc yn yc zx zx (wr.drewN r) (ISl.below (show ISl w5 zA zn zc zx from z1) (ibelow_drewN hbw r)) (ISl.below (show ISl w5 yA yn yc zx from z2) (ibelow_drewN hbw r)) rfl))
              have i1 : (0 : Int) ≤ (i : Int) := by omega
              have i2 : (i : Int) < (k3 : Int) := by omega
              clear hca hcb z1 z2 e1 e2 e2' ym yI zs zs' hz hz' k1 k2 h1 h2 h3 h4 hw hbw
              go_wp2_with fail
              go_quiet ((go_at_call 17; with_reducible exact S1.out _))
              go_wp2_with fail
              go_roundw
              case rel => exact ⟨i + 1, _, by omega, by go_num, by rw [HW.out, World.drewN_drewN]⟩
              case measure => simp [intOf]; omega
            · have j2 : ¬ (i : Int) < (k3 : Int) := by omega
              have HBR := Lib.hid (show Below w.heap.size w wr from below_to HB5.out hbw)
              have SM := Lib.hid (polSame C4 C5 m4 d4 m5 d5 _ _ wr (I45.out.below hbw) (I5.out.below hbw) rfl)
              clear hw hbw
              go_wp2_with (go_at_call 17; (with_reducible refine SM.out.mono ?_); rintro e w9 ⟨rfl, hb9⟩; have HB9 := wstep8 HBR hb9; clear hb9)
              go_ret
              exact ⟨rfl, HB9.out⟩
        · obtain ⟨h1, h2⟩ | ⟨h1, h2⟩ := pow_bad k81 PK.out hbad <;> (
            have E1 := Lib.hid (fPartsTop A n c xs p wr (HT.out.below BX.out) (SA.out.below BX.out) IP.out (by omega))
            have E2 := Lib.hid (fun W (hb : Below wr.heap.size wr W) => fPartsTop Co mv dv b p W (HT.out.below (below_to BX.out hb)) (IW.out.below hb) IP.out (by omega))
            have E3 := Lib.hid (fun W (hb : Below wr.heap.size wr W) => fRadTop A n c xs p W (HT.out.below (below_to BX.out hb)) (SA.out.below (below_to BX.out hb)) IP.out (by omega))
            have E4 := Lib.hid (fun W (hb : Below wr.heap.size wr W) => fRadTop Co mv dv b p W (HT.out.below (below_to BX.out hb)) (IW.out.below hb) IP.out (by omega))
            rw [h1] at E1 E3
            rw [h2] at E2 E4
            clear h1 h2 hbad PK PW
            go_wp2_with (first
              | (go_at_call 9; (with_reducible refine E1.out.mono ?_); clear E1; rintro e w2 ⟨A2, k2, c2, Z1, rfl, hR, -, hb⟩; have B2 := Lib.hid hb; clear hR hb)
              | (go_at_call 9; (with_reducible refine (E2.out _ B2.out).mono ?_); clear E2; rintro e w3 ⟨A3, k3, c3, Z2, rfl, hR, -, hb⟩; have B3 := Lib.hid (below_to B2.out hb); clear hR hb)
              | (go_at_call 11; (with_reducible refine (E3.out _ B3.out).mono ?_); clear E3; rintro e w4 ⟨C4, m4, d4, rfl, -, hb⟩; have B4 := Lib.hid (below_to B3.out hb); clear hb)
              | (go_at_call 11; (with_reducible refine (E4.out _ B4.out).mono ?_); clear E4; rintro e w5 ⟨C5, m5, d5, rfl, -, hb⟩; have HB5 := Lib.hid (show Below w.heap.size w w5 from below_to BX.out (below_to B4.out hb)); clear hb))
            go_ret
            exact ⟨rfl, HB5.out⟩)
  · have hn2 : (12 : Int) < (n : Int) := by omega
    clear hT sm
    go_enter Tryd.func6, Tryd.ntmps6
    go_wp2_with (go_at_call 8; (with_reducible refine AW.out.mono ?_); rintro e w0 ⟨rfl, hb0⟩; have HB0 := Lib.hid hb0; clear hb0)
    go_ret
    exact ⟨rfl, HB0.out⟩
end Go.Proofs.YtekpifafjbkmiaaDoor

/- The statement 'FsqfPowers', a tied card: for every input the law's function returns true and leaves its arguments as they were; the package-level tables that the row lists are laid as the program's text lays them. No conditions but the form's own. -/
namespace Go.Proofs.YtekpifafjbkmiaaDoor.lawFsqfPowersCard
open Go.ChangeShapes Go.WideShapes Go.ChangeAt Go.RowKit Go.ChangeMaps
set_option maxRecDepth 100000 in
theorem lifted (os : Os) (started : os.Started) (H : Type) (enc : TypeId × Value → H) :
    ReturnsInHanded {} Tryd.checked os 6 .any (fun w args => (Rows.fsqfPowersSpec.pre enc Tryd.prog Tryd.f6 Rows.fsqfPowersRow.domain false w args ∧ laidMetH Tryd.prog Rows.fsqfPowersRow.laid w) ∧ sizedMet enc Tryd.prog Tryd.f6 (OpenSpec.ofChange Rows.fsqfPowersSpec) false w args)
      (Rows.fsqfPowersSpec.post enc Tryd.prog Tryd.f6 false true false false) := by
  refine returnsInHanded_of_change_and (C := Tryd.checked) (X := fun w _ => laidMetH Tryd.prog Rows.fsqfPowersRow.laid w) (fun _ _ _ hh h => h.of_heap hh) own0 started (by kernel_rfl) Tryd.func6
    (ChangeSpec.witness_shaped (enc := enc) (C := Tryd.checked) (os := os) (X := fun w _ => laidMetH Tryd.prog Rows.fsqfPowersRow.laid w) false (World.laidAll Tryd.prog os Rows.fsqfPowersRow.laid) #[.slice none 0 0, .int .i64 0, .int .i64 0] 8 (World.laidAll_os _ _ _)
      (World.shaped_of_ZipB (by kernel_rfl) (by kernel_rfl)) (by kernel_rfl) (by kernel_rfl) (by kernel_rfl)
      (by rw [MakeChecks.laidMetH_plain _ _ _ (by kernel_rfl)]; exact laidMet_laidAll _ (by kernel_rfl) (by kernel_rfl))) ?_
  intro W base args ds gs before hval0 hW hcnd hsz0 hL hholds
  have hval : ∀ (j : Nat) t v, Tryd.f6.params[j]? = some t → args[j]? = some v → Value.okWide Tryd.prog W .any base t v := hval0
  have hW' := hW
  obtain ⟨p, q, hA0, hV, rfl, hfz, hnd⟩ := hW
  have hA : DataW.TrodAll enc Tryd.prog W 0 (fun _ => true) true Tryd.f6.params.toList args.toList ds p := hA0
  have hsz : (DataW.weightsEach Tryd.prog (Tryd.f6.params.toList ++ Rows.fsqfPowersSpec.plain.varTypes Tryd.prog) (ds ++ gs)).all (· ≤ reachBytes) = true := hsz0
  rw [Tryd.params6] at hA hval hsz
  obtain ⟨v0, vs0, d0, ds0, p0, q0, hargs, rfl, rfl, h0, r0⟩ := trodAll_cons hA
  obtain ⟨v1, vs1, d1, ds1, p1, q1, rfl, rfl, rfl, h1, r1⟩ := trodAll_cons r0
  obtain ⟨v2, vs2, d2, ds2, p2, q2, rfl, rfl, rfl, h2, r2⟩ := trodAll_cons r1
  obtain ⟨rfl, rfl, rfl⟩ := trodAll_nil r2
  obtain rfl : args = #[v0, v1, v2] := by cases args; simp_all
  obtain ⟨rfl, rfl⟩ := trodVars_none hV
  obtain ⟨a0, len0, cap0, rfl⟩ := okWide_slice Tryd.underlying22 (hval 0 22 v0 rfl rfl)
  have k0 := h0
  have lt0 : ∀ x ∈ p0, x.block < W.heap.size := by obtain ⟨m, hm⟩ := k0; exact DataW.trod_lt m _ _ _ hm
  obtain ⟨x0, s0, b0⟩ := isl_open h0 hsz 0 rfl rfl
  obtain ⟨a1, rfl, rfl, rfl, w1⟩ := open_int Tryd.underlying3 (hval 1 3 v1 rfl rfl) h1
  obtain ⟨a2, rfl, rfl, rfl, w2⟩ := open_int Tryd.underlying3 (hval 2 3 v2 rfl rfl) h2
  clear hA0 hval0 hsz0 hsz
  refine (walkFsqfPowers a0 len0 cap0 x0 a1 a2 W (tab_of_laid hL) s0 b0 w1 w2).mono fun e W' ⟨he, bel⟩ => ?_
  subst he
  exact ⟨_, rfl, _, _, _, [], _, [], hW', trodAll_mk1 (shut_bool Tryd.underlying4 _), (trodAll_cons_mk (Below.trod laidOut0 (by kernel_rfl) (of_decide_eq_true (by kernel_rfl)) k0 bel lt0) (trodAll_cons_mk (shut_int Tryd.underlying3 w1) (trodAll_cons_mk (shut_int Tryd.underlying3 w2) trodAll_mk0))), rfl, bel.frame _, fun h => by cases h⟩
theorem over : Rows.fsqfPowersRow.holds Tryd.pinned (OpenSpec.ofChange Rows.fsqfPowersSpec) :=
  OpenClaim.holds_of_wide 6 Tryd.f6 rfl rfl rfl rfl rfl rfl rfl ⟨rfl, rfl, rfl, rfl, rfl⟩ rfl rfl rfl rfl rfl (by kernel_rfl) Tryd.func6 (by kernel_rfl)
    (of_decide_eq_true (by kernel_rfl)) (by unfold Func.isWrapper; first | (rw [if_pos (by decide +kernel)]; kernel_rfl) | (rw [if_neg (by decide +kernel)]; exact ⟨rfl, rfl⟩))
    (fun os started H enc _ => lifted os started H enc)
/-- The statement: the tied card. -/
theorem proved : Rows.FsqfPowersCardSaid :=
  Claim7.holds_tied_plain_at .later [] [.data] true Rows.fsqfPowersCard.stood.harness false over (fun _ h => by cases h) (by kernel_rfl) (fun _ h => by cases h) fsqfPowers_row_tie rfl ⟨rfl, rfl⟩ (by kernel_rfl) rfl
    (fun f fn hf hfn => by
      obtain rfl : f = 6 := Option.some.inj ((show Tryd.prog.funcNamed "cleaver/cleaverlaw08.FsqfPowers" = some 6 by kernel_rfl).symm.trans hf) |>.symm
      obtain rfl : fn = Tryd.f6 := (Option.some.inj (Tryd.func6.symm.trans hfn)).symm
      exact ⟨by kernel_rfl, fun j t ht => by
        rw [Tryd.params6] at ht
        have hm : t ∈ [22, 3, 3] := by simpa using Array.mem_of_getElem? ht
        have hall : ([22, 3, 3].all fun u => !Tryd.prog.wantsStandIn u) = true := by kernel_rfl
        exact (show Tryd.prog.wantsStandIn t = false by simpa using List.all_eq_true.1 hall t hm)⟩)
    (by kernel_rfl)
end Go.Proofs.YtekpifafjbkmiaaDoor.lawFsqfPowersCard
