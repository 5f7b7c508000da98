/- Texts joined, in their order: LinOut, LinPut, FlnM. -/
import Derived.Test.YtnkhhndjbanmnaaGreatDoorMp3
import Derived.Test.YtnkhhndjbanmnaaGreatDoorMp5
import Derived.Test.YtnkhhndjbanmnaaGreatDoorMp25
import Derived.Test.YtnkhhndjbanmnaaGreatDoorMp26

/- The rows that cleaverref07.Echelon gathers, as they lie in memory; a row scaled in its place; a row less the new one. -/
namespace Go.Proofs.YtnkhhndjbanmnaaGreatDoor
open Go.RowKit

theorem VOw.belowE {w w' : World} {B : Nat} {v : Value} {xs : List Value} (h : VOw w B v xs) (hb : Below w.heap.size w w') : VOw w' B v xs := by
  obtain ⟨⟨hl, h2⟩, hf⟩ := h
  refine ⟨⟨hl, ?_⟩, hf⟩
  rcases h2 with h2 | ⟨g, cap, cur, e, h3, hh, h4⟩
  · exact .inl h2
  · exact .inr ⟨g, cap, cur, e, h3, (hb.block g (Array.getElem?_eq_some_iff.1 hh).1).trans hh, h4⟩

theorem ech_nil (p : Int) (n : Nat) : EchP p n [] :=
  ⟨List.Pairwise.nil, fun _ h => (List.not_mem_nil h).elim, fun _ h => (List.not_mem_nil h).elim, fun _ h => (List.not_mem_nil h).elim, fun _ h => (List.not_mem_nil h).elim, fun _ h => (List.not_mem_nil h).elim, fun _ h => (List.not_mem_nil h).elim⟩
def prow (P : List (Nat × List Int)) (i : Nat) : List Int := (P.getD i (0, [])).2
def OutAt (w : World) (B nc : Nat) (v : Value) (vs : List Value) (P : List (Nat × List Int)) : Prop :=
  VOw w B v vs ∧ vs.length = P.length ∧ ∀ i, i < P.length → ∃ C d, vs.getD i nilv = .slice C nc d ∧ ISl w C nc d (prow P i) ∧ ApO C (prow P i) v.ownBlock
theorem OutAt.below {w w' : World} {B nc : Nat} {v : Value} {vs : List Value} {P : List (Nat × List Int)} (h : OutAt w B nc v vs P) (hb : Below w.heap.size w w') : OutAt w' B nc v vs P := by
  obtain ⟨h1, h2, h3⟩ := h
  refine ⟨h1.belowE hb, h2, fun i hi => ?_⟩
  obtain ⟨C, d, e, k1, k2⟩ := h3 i hi
  exact ⟨C, d, e, k1.below hb, k2⟩

theorem prow_at {P : List (Nat × List Int)} {i : Nat} (h : i < P.length) : prow P i = (P[i]).2 := by
  unfold prow
  rw [List.getD_eq_getElem?_getD, List.getElem?_eq_getElem h]
  rfl
theorem EchP.fst {p : Int} {n : Nat} {P : List (Nat × List Int)} (h : EchP p n P) {i : Nat} (hi : i < P.length) : fsi (prow P i) = ((P[i]).1 : Int) := by
  have hm : P[i] ∈ P := List.getElem_mem hi
  rw [prow_at hi]
  exact fsi_is ⟨by rw [h.len _ hm]; exact h.lt _ hm, by rw [h.one _ hm]; decide, h.low _ hm⟩
theorem Thaw.set_ {w : World} {C : Option Addr} (h : Thaw w C) (a : Addr) (u : Value) : Thaw (w.setCell a u) C := fun b o s e i => by
  rw [World.frozen?_setCell]
  exact h b o s e i
def sclL (p x : Int) (r : List Int) (q : Nat) : List Int := (r.take q).map (fun y => y * x % p) ++ r.drop q
theorem sclL_len (p x : Int) (r : List Int) (q : Nat) : (sclL p x r q).length = r.length := by
  rw [sclL, List.length_append, List.length_map, List.length_take, List.length_drop]; omega
theorem sclL_all {p x : Int} {r : List Int} {q : Nat} (hq : r.length ≤ q) : sclL p x r q = r.map fun y => y * x % p := by
  unfold sclL
  rw [List.take_of_length_le hq, List.drop_of_length_le hq, List.append_nil]

theorem scl_facts {p y u : Int} {r : List Int} {x : Nat} (hp : 2 ≤ p) (_ : Rs p r) (_ : IsFst r x) (hy : cf r x = y) (hu : y * u % p = 1) :
    Rs p (sclL p u r r.length) ∧ cf (sclL p u r r.length) x = 1 ∧ (∀ j, cf r j = 0 → cf (sclL p u r r.length) j = 0) ∧ Ser.Eq p (cf (sclL p u r r.length)) (Ser.sc u (cf r)) ∧ Ser.Eq p (cf r) (Ser.sc y (cf (sclL p u r r.length))) := by
  rw [sclL_all (Nat.le_refl _)]
  have hc : ∀ i, cf (r.map fun y => y * u % p) i = cf r i * u % p := cf_map (fun y => y * u % p) (by simp) r
  refine ⟨fun z hz => ?_, ?_, fun j hj => ?_, fun i => ?_, fun i => ?_⟩
  · obtain ⟨w, _, rfl⟩ := List.mem_map.1 hz
    exact ⟨Int.emod_nonneg _ (by omega), Int.emod_lt_of_pos _ (by omega)⟩
  · rw [hc, hy, hu]
  · rw [hc, hj]; simp
  · rw [hc, Int.emod_emod_of_dvd _ (Int.dvd_refl p)]
    show _ = u * cf r i % p
    rw [Int.mul_comm]
  · show _ = y * cf (r.map fun y => y * u % p) i % p
    rw [hc, Int.mul_emod y, Int.emod_emod_of_dvd _ (Int.dvd_refl p), ← Int.mul_emod, Int.mul_comm (cf r i), ← Int.mul_assoc, Int.mul_emod, hu, Int.one_mul, Int.emod_emod_of_dvd _ (Int.dvd_refl p)]
def mixP (p : Int) (x : Nat) (w : List Int) (P : List (Nat × List Int)) (q : Nat) : List (Nat × List Int) := (lessP p x w P).take q ++ P.drop q
theorem lessP_len (p : Int) (x : Nat) (w : List Int) (P : List (Nat × List Int)) : (lessP p x w P).length = P.length := by simp [lessP]
theorem mixP_len (p : Int) (x : Nat) (w : List Int) (P : List (Nat × List Int)) (q : Nat) (hq : q ≤ P.length) : (mixP p x w P q).length = P.length := by
  rw [mixP, List.length_append, List.length_take, List.length_drop, lessP_len]; omega
theorem mixP_zero (p : Int) (x : Nat) (w : List Int) (P : List (Nat × List Int)) : mixP p x w P 0 = P := by simp [mixP]
theorem mixP_all (p : Int) (x : Nat) (w : List Int) (P : List (Nat × List Int)) : mixP p x w P P.length = lessP p x w P := by
  rw [mixP, List.drop_of_length_le (Nat.le_refl _), List.append_nil, List.take_of_length_le (by rw [lessP_len]; exact Nat.le_refl _)]
theorem mixP_at {p : Int} {x : Nat} {w : List Int} {P : List (Nat × List Int)} {q : Nat} (hq : q < P.length) : prow (mixP p x w P q) q = prow P q := by
  unfold prow mixP
  rw [List.getD_eq_getElem?_getD, List.getD_eq_getElem?_getD, List.getElem?_append_right (by simp [lessP]; omega), List.length_take, lessP_len, Nat.min_eq_left (Nat.le_of_lt hq), Nat.sub_self, List.getElem?_drop]
  simp
theorem mixP_set {p : Int} {x : Nat} {w : List Int} {P : List (Nat × List Int)} {q : Nat} (hq : q < P.length) : (mixP p x w P q).set q ((P[q]).1, lessL p (P[q]).2 w (cf (P[q]).2 x)) = mixP p x w P (q + 1) := by
  unfold mixP
  have hl : ((lessP p x w P).take q).length = q := by rw [List.length_take, lessP_len]; omega
  rw [List.set_append_right (h := by rw [hl]; exact Nat.le_refl _), hl, Nat.sub_self]
  have h2 : (lessP p x w P).take (q + 1) = (lessP p x w P).take q ++ [((P[q]).1, lessL p (P[q]).2 w (cf (P[q]).2 x))] := by
    rw [List.take_succ_eq_append_getElem (by rw [lessP_len]; exact hq)]
    simp [lessP]
  rw [h2, List.append_assoc]
  conv => lhs; rw [List.drop_eq_getElem_cons hq]
  rfl
theorem OutAt.block {w : World} {B nc : Nat} {v : Value} {vs : List Value} {P : List (Nat × List Int)} (h : OutAt w B nc v vs P) (h0 : 0 < P.length) : ∃ b c, v = .slice (some ⟨b, 0, none⟩) P.length c ∧ B ≤ b ∧ b < w.heap.size ∧ (∀ i, w.frozen? ⟨b, i, none⟩ = false) := by
  obtain ⟨⟨⟨_, h1⟩, _⟩, h2, _⟩ := h
  rw [h2] at h1
  rcases h1 with ⟨_, e⟩ | ⟨g, cap, cur, e, hb, hh, _⟩
  · omega
  · exact ⟨g, cap, e, hb, (Array.getElem?_eq_some_iff.1 hh).1, fun i => by simp [World.frozen?, hh]⟩
theorem grown_set (w : World) (g j : Nat) (u : Value) : w.grownBy (w.setCell ⟨g, j, none⟩ u) (some g) :=
  ⟨rfl, rfl, rfl, by simp [World.setCell], fun k _ hk => Below.heap_setCell w ⟨g, j, none⟩ u k (fun e => hk (by rw [e]))⟩
theorem ISl.farS {w : World} {g o n c : Nat} {xs : List Int} (h : ISl w (some ⟨g, o, none⟩) n c xs) {p : Addr} (hp : g ≠ p.block) (u : Value) : ISl (w.setCell p u) (some ⟨g, o, none⟩) n c xs := by
  refine ⟨h.1, h.2.1, h.2.2.1, h.2.2.2.1, h.rd.1, ?_⟩
  rcases h.rd.2 with h0 | ⟨b, o', e, hlt, hc⟩
  · exact .inl h0
  · simp only [Option.some.injEq, Addr.mk.injEq, and_true] at e
    obtain ⟨rfl, rfl⟩ := e
    exact .inr ⟨g, o, rfl, by simpa [World.setCell] using hlt, fun j hj => (World.cell?_of_block (w := w) (Below.heap_setCell w p u g hp)).trans (hc j hj)⟩
theorem OutAt.open_ {w : World} {B nc : Nat} {v : Value} {vs : List Value} {P : List (Nat × List Int)} (h : OutAt w B nc v vs P) : ∃ A c, v = .slice A P.length c ∧ P.length ≤ c ∧ c ≤ 9223372036854775807 ∧
    (0 < P.length → ∃ b o, o = 0 ∧ A = some ⟨b, o, none⟩ ∧ B ≤ b ∧ b < w.heap.size) := by
  obtain ⟨A, c, e, hs, _⟩ := h.1.sl
  rw [h.2.1] at e hs
  refine ⟨A, c, e, hs.le, hs.max, fun h0 => ?_⟩
  obtain ⟨b, c', e', hB, hb, _⟩ := h.block h0
  rw [e] at e'
  simp only [Value.slice.injEq] at e'
  exact ⟨b, 0, rfl, e'.1, hB, hb⟩
theorem OutAt.cells {w : World} {B nc b o n c : Nat} {vs : List Value} {P : List (Nat × List Int)} (h : OutAt w B nc (.slice (some ⟨b, o, none⟩) n c) vs P) {i : Nat} (hi : i < P.length) : b < w.heap.size ∧ w.frozen? ⟨b, o + i, none⟩ = false ∧ ∃ C d, w.cell? ⟨b, o + i, none⟩ = some (.slice C nc d) ∧ ISl w C nc d (prow P i) ∧ ApO C (prow P i) (some b) := by
  obtain ⟨g, c', e, _, hg, hf⟩ := h.block (by omega)
  simp only [Value.slice.injEq, Option.some.injEq, Addr.mk.injEq, and_true] at e
  obtain ⟨⟨rfl, rfl⟩, rfl, rfl⟩ := e
  obtain ⟨h1, h2, h3⟩ := h
  obtain ⟨A, c2, e2, hs, _⟩ := h1.sl
  simp only [Value.slice.injEq] at e2
  obtain ⟨b', o', e3, _, hc⟩ := hs.at_ (by rw [h2]; omega)
  rw [← e2.1] at e3
  simp only [Option.some.injEq, Addr.mk.injEq, and_true] at e3
  obtain ⟨rfl, rfl⟩ := e3
  obtain ⟨C, d, k1, k2, k3⟩ := h3 i hi
  exact ⟨hg, hf _, C, d, by rw [hc i (by rw [h2]; exact hi), k1], k2, k3⟩
theorem OutAt.store {w : World} {B nc b n c : Nat} {vs : List Value} {P : List (Nat × List Int)} (h : OutAt w B nc (.slice (some ⟨b, 0, none⟩) n c) vs P) (hn : n = P.length) {q : Nat} (hq : q < P.length) {C : Option Addr} {d : Nat} {L : List Int} (hL : ISl w C nc d L) (ha : ApO C L (some b)) (l : Nat) :
    OutAt (w.setCell ⟨b, q, none⟩ (.slice C nc d)) B nc (.slice (some ⟨b, 0, none⟩) n c) (vs.set q (.slice C nc d)) (P.set q (l, L)) := by
  obtain ⟨h1, h2, h3⟩ := h
  have hs : n = vs.length := by rw [hn, h2]
  have h4 := h1.1
  rw [← hs] at h4
  obtain ⟨s1, s2⟩ := h4.stored q (.slice C nc d)
  have hfit : Sv (vs.set q (.slice C nc d)) := fun x hx => by
    rcases List.mem_or_eq_of_mem_set hx with hx | rfl
    · exact h1.2 x hx
    · exact ⟨C, nc, d, rfl⟩
  refine ⟨⟨by rw [List.length_set, ← hs]; exact s1, hfit⟩, by rw [List.length_set, List.length_set, h2], fun i hi => ?_⟩
  rw [List.length_set] at hi
  by_cases e : i = q
  · subst e
    refine ⟨C, d, ?_, ?_, ?_⟩
    · rw [List.getD_eq_getElem?_getD, List.getElem?_set_self (by rw [h2]; exact hi)]; rfl
    · have : prow (P.set i (l, L)) i = L := by
        unfold prow
        rw [List.getD_eq_getElem?_getD, List.getElem?_set_self hi]; rfl
      rw [this]
      exact hL.grownO s2 ha
    · have : prow (P.set i (l, L)) i = L := by
        unfold prow
        rw [List.getD_eq_getElem?_getD, List.getElem?_set_self hi]; rfl
      rw [this]
      exact ha
  · obtain ⟨C', d', k1, k2, k3⟩ := h3 i hi
    have hpr : prow (P.set q (l, L)) i = prow P i := by
      unfold prow
      rw [List.getD_eq_getElem?_getD, List.getD_eq_getElem?_getD, List.getElem?_set_ne (by omega)]
    rw [hpr]
    refine ⟨C', d', ?_, k2.grownO s2 k3, k3⟩
    rw [List.getD_eq_getElem?_getD, List.getElem?_set_ne (by omega), ← List.getD_eq_getElem?_getD]
    exact k1
end Go.Proofs.YtnkhhndjbanmnaaGreatDoor

/- The new row among the others, as they lie in memory. -/
namespace Go.Proofs.YtnkhhndjbanmnaaGreatDoor
open Go.RowKit

theorem VOw.lower {w : World} {B B' : Nat} {v : Value} {xs : List Value} (h : VOw w B v xs) (hB : B' ≤ B) : VOw w B' v xs := by
  obtain ⟨⟨hl, h2⟩, hf⟩ := h
  refine ⟨⟨hl, ?_⟩, hf⟩
  rcases h2 with h2 | ⟨g, cap, cur, e, h3, hh, h4⟩
  · exact .inl h2
  · exact .inr ⟨g, cap, cur, e, Nat.le_trans hB h3, hh, h4⟩
theorem ISl.apOw {w w' : World} {A : Option Addr} {n c : Nat} {L : List Int} {v : Value} {xs : List Value} (h : ISl w A n c L) (k : VOw w' w.heap.size v xs) : ApO A L v.ownBlock := by
  rcases h.rd.2 with e | ⟨b, o, e, hlt, _⟩
  · exact .inl e
  · refine .inr fun b' o' s' e' e2 => ?_
    rw [e] at e'
    simp only [Option.some.injEq, Addr.mk.injEq] at e'
    have := k.lt b' e2.symm
    omega
theorem getD_ins {α : Type} (xs : List α) (a d : α) (m i : Nat) (hm : m ≤ xs.length) : (xs.take m ++ a :: xs.drop m).getD i d = if i < m then xs.getD i d else if i = m then a else xs.getD (i - 1) d := by
  have hl : (xs.take m).length = m := by rw [List.length_take]; omega
  rw [List.getD_eq_getElem?_getD]
  by_cases h1 : i < m
  · rw [if_pos h1, List.getElem?_append_left (by rw [hl]; exact h1), List.getElem?_take, if_pos h1, List.getD_eq_getElem?_getD]
  · rw [if_neg h1, List.getElem?_append_right (by rw [hl]; omega), hl]
    by_cases h2 : i = m
    · rw [if_pos h2, h2, Nat.sub_self]; rfl
    · rw [if_neg h2, show i - m = (i - 1 - m) + 1 by omega, List.getElem?_cons_succ, List.getElem?_drop, List.getD_eq_getElem?_getD, show m + (i - 1 - m) = i - 1 by omega]
theorem OutAt.put {wr wc : World} {B nc : Nat} {v vc : Value} {vs : List Value} {P : List (Nat × List Int)} {p : Int} {x m : Nat} {nw : List Int} {C : Option Addr} {d : Nat}
    (h : OutAt wr B nc v vs (lessP p x nw P)) (hm : m ≤ P.length) (hnw : ISl wr C nc d nw) (hb : Below wr.heap.size wr wc) (hB : B ≤ wr.heap.size)
    (hov : VOw wc wr.heap.size vc (vs.take m ++ .slice C nc d :: vs.drop m)) : OutAt wc B nc vc (vs.take m ++ .slice C nc d :: vs.drop m) (putP p x nw m P) := by
  obtain ⟨h1, h2, h3⟩ := h
  rw [lessP_len] at h2 h3
  have hpl : (putP p x nw m P).length = P.length + 1 := by
    rw [putP, List.length_append, List.length_cons, List.length_take, List.length_drop, lessP_len]; omega
  refine ⟨hov.lower hB, ?_, fun i hi => ?_⟩
  · rw [hpl, List.length_append, List.length_cons, List.length_take, List.length_drop]; omega
  · rw [hpl] at hi
    have hpr : prow (putP p x nw m P) i = if i < m then prow (lessP p x nw P) i else if i = m then nw else prow (lessP p x nw P) (i - 1) := by
      unfold prow putP
      rw [getD_ins _ _ _ _ _ (by rw [lessP_len]; exact hm)]
      by_cases e1 : i < m
      · rw [if_pos e1, if_pos e1]
      · rw [if_neg e1, if_neg e1]
        by_cases e2 : i = m
        · rw [if_pos e2, if_pos e2]
        · rw [if_neg e2, if_neg e2]
    rw [getD_ins _ _ _ _ _ (by rw [h2]; exact hm), hpr]
    by_cases e1 : i < m
    · rw [if_pos e1, if_pos e1]
      obtain ⟨C', d', k1, k2, _⟩ := h3 i (by omega)
      exact ⟨C', d', k1, k2.below hb, k2.apOw hov⟩
    · rw [if_neg e1, if_neg e1]
      by_cases e2 : i = m
      · rw [if_pos e2, if_pos e2]
        exact ⟨C, d, rfl, hnw.below hb, hnw.apOw hov⟩
      · rw [if_neg e2, if_neg e2]
        obtain ⟨C', d', k1, k2, _⟩ := h3 (i - 1) (by omega)
        exact ⟨C', d', k1, k2.below hb, k2.apOw hov⟩
theorem putP_len (p : Int) (x : Nat) (w : List Int) (m : Nat) (P : List (Nat × List Int)) : (putP p x w m P).length = P.length + 1 := by
  rw [putP, List.length_append, List.length_cons, List.length_take, List.length_drop, lessP_len]; omega
end Go.Proofs.YtnkhhndjbanmnaaGreatDoor

/- A row less so many times each plain row, all in one sum; rows told place by place. Mathematics alone. -/
namespace Go.Proofs.YtnkhhndjbanmnaaGreatDoor

def tld (p : Int) (n : Nat) (f : Ser) : List Int := (List.range n).map fun i => f i % p
theorem tld_len (p : Int) (n : Nat) (f : Ser) : (tld p n f).length = n := by simp [tld]
theorem cf_tld {p : Int} {n : Nat} {f : Ser} {i : Nat} (h : i < n) : cf (tld p n f) i = f i % p := by
  rw [cf_at (by rw [tld_len]; exact h)]
  simp [tld]
theorem tld_rs {p : Int} (hp : 1 ≤ p) (n : Nat) (f : Ser) : Rs p (tld p n f) := fun x hx => by
  simp only [tld, List.mem_map] at hx
  obtain ⟨i, _, rfl⟩ := hx
  exact ⟨Int.emod_nonneg _ (by omega), Int.emod_lt_of_pos _ (by omega)⟩
theorem MdIn.tld {p : Int} {f : Ser} {n : Nat} {L : List Int} (h : MdIn p f n n L) : L = tld p n f := by
  refine cf_ext (by rw [tld_len, h.1]) fun i => ?_
  rw [h.2.2 i]
  by_cases e : i < n
  · rw [if_pos e, cf_tld e]
  · rw [if_neg e, cf_over (by rw [tld_len]; omega)]
theorem tld_rst {p : Int} {n : Nat} {xs : List Int} (h : n = xs.length) : tld p n (cf xs) = rst p xs := by
  subst h
  refine cf_ext (by rw [tld_len, rst_length]) fun i => ?_
  rw [cf_rst]
  by_cases e : i < xs.length
  · rw [cf_tld e]
  · rw [cf_over (by rw [tld_len]; omega), cf_over (by omega)]; simp

theorem rcS_append (f : Ser) (P Q : List (Nat × List Int)) : rcS f (P ++ Q) = Ser.add (rcS f P) (rcS f Q) := by
  induction P with
  | nil => funext i; exact (Int.zero_add _).symm
  | cons a P ih =>
    funext i
    show f a.1 * cf a.2 i + rcS f (P ++ Q) i = f a.1 * cf a.2 i + rcS f P i + rcS f Q i
    rw [ih, Int.add_assoc]; rfl
theorem rcS_snoc {f : Ser} {P : List (Nat × List Int)} {q : Nat} (hq : q < P.length) (i : Nat) : rcS f (P.take (q + 1)) i = rcS f (P.take q) i + f (P[q]).1 * cf (P[q]).2 i := by
  rw [List.take_succ_eq_append_getElem hq, rcS_append]
  show rcS f (P.take q) i + (f (P[q]).1 * cf (P[q]).2 i + 0) = _
  rw [Int.add_zero]
theorem rcS_off {f : Ser} {x : Nat} {P : List (Nat × List Int)} (h : ∀ b ∈ P, cf b.2 x = 0) : rcS f P x = 0 := by
  induction P with
  | nil => rfl
  | cons a P ih =>
    show f a.1 * cf a.2 x + rcS f P x = 0
    rw [h a List.mem_cons_self, ih fun b hb => h b (List.mem_cons_of_mem _ hb), Int.mul_zero]; rfl
theorem rcS_pick {f : Ser} {x : Nat} : ∀ P : List (Nat × List Int), P.Pairwise (fun a b => a.1 < b.1) → (∀ b ∈ P, b.1 = x → cf b.2 x = 1) → (∀ b ∈ P, b.1 ≠ x → cf b.2 x = 0) → (∃ a ∈ P, a.1 = x) → rcS f P x = f x := by
  intro P
  induction P with
  | nil => rintro _ _ _ ⟨a, ha, _⟩; cases ha
  | cons b P ih =>
    intro hi h1 h0 hex
    obtain ⟨i1, i2⟩ := List.pairwise_cons.1 hi
    show f b.1 * cf b.2 x + rcS f P x = f x
    by_cases e : b.1 = x
    · rw [h1 b List.mem_cons_self e, e, rcS_off fun c hc => h0 c (List.mem_cons_of_mem _ hc) (by have := i1 c hc; omega)]; omega
    · have hex' : ∃ a ∈ P, a.1 = x := by
        obtain ⟨a, ha, hax⟩ := hex
        rcases List.mem_cons.1 ha with rfl | ha
        · exact absurd hax e
        · exact ⟨a, ha, hax⟩
      rw [h0 b List.mem_cons_self e, ih i2 (fun c hc => h1 c (List.mem_cons_of_mem _ hc)) (fun c hc => h0 c (List.mem_cons_of_mem _ hc)) hex', Int.mul_zero, Int.zero_add]
theorem EchP.rcS_at {p : Int} {n : Nat} {P : List (Nat × List Int)} (h : EchP p n P) {a : Nat × List Int} (ha : a ∈ P) (f : Ser) : rcS f P a.1 = f a.1 :=
  rcS_pick P h.inc (fun b hb e => by rw [inc_same h.inc b hb a ha e]; exact h.one a ha) (fun b hb e => h.other a ha b hb e) ⟨a, ha, rfl⟩
theorem rcS_sp {p : Int} (f : Ser) (P : List (Nat × List Int)) : Sp p (rowsOf P) (rcS f P) := by
  induction P with
  | nil => exact .zer
  | cons a P ih =>
    have h1 : Sp p (rowsOf (a :: P)) (Ser.sc (f a.1) (cf a.2)) := .sc _ (.row (rowsOf_mem.2 ⟨a, List.mem_cons_self, rfl⟩))
    have h2 : Sp p (rowsOf (a :: P)) (rcS f P) := ih.more fun r hr => by
      obtain ⟨b, hb, rfl⟩ := rowsOf_mem.1 hr
      exact rowsOf_mem.2 ⟨b, List.mem_cons_of_mem _ hb, rfl⟩
    exact .add h1 h2
theorem rcS_bd {p : Int} {f : Ser} {P : List (Nat × List Int)} (hp : p ≤ 65521) (hf : ∀ i, 0 ≤ f i ∧ f i < p) (hP : ∀ b ∈ P, ∀ i, 0 ≤ cf b.2 i ∧ cf b.2 i < p) (i : Nat) : 0 ≤ rcS f P i ∧ rcS f P i ≤ 4292870400 * (P.length : Int) := by
  induction P with
  | nil => exact ⟨Int.le_refl _, by show (0 : Int) ≤ _; simp⟩
  | cons a P ih =>
    have h1 := ih fun b hb => hP b (List.mem_cons_of_mem _ hb)
    have h2 := mul_bdM (hf a.1) (hP a List.mem_cons_self i) hp
    show 0 ≤ f a.1 * cf a.2 i + rcS f P i ∧ f a.1 * cf a.2 i + rcS f P i ≤ _
    rw [List.length_cons]
    generalize f a.1 * cf a.2 i = z at *
    omega

def lessA (p : Int) (a : List Int) (P : List (Nat × List Int)) : List Int := tld p a.length fun i => cf a i - rcS (cf a) P i
theorem lessA_len (p : Int) (a : List Int) (P : List (Nat × List Int)) : (lessA p a P).length = a.length := tld_len _ _ _
theorem cf_lessA {p : Int} {a : List Int} {P : List (Nat × List Int)} {i : Nat} (h : i < a.length) : cf (lessA p a P) i = (cf a i - rcS (cf a) P i) % p := cf_tld (f := fun i => cf a i - rcS (cf a) P i) h
theorem lessA_one (p : Int) (a : List Int) (x : Nat) (w : List Int) : lessA p a [(x, w)] = lessL p a w (cf a x) := by
  unfold lessA lessL tld
  refine List.map_congr_left fun i _ => ?_
  show (cf a i - (cf a x * cf w i + 0)) % p = _
  rw [Int.add_zero]
theorem RedIn.all {p : Int} {n : Nat} {P : List (Nat × List Int)} {m : List Int} (hp : 1 ≤ p) (h : EchP p n P) (hl : m.length = n) : RedIn p n P P.length m (lessA p (rst p m) P) := by
  have hrl : (rst p m).length = n := by rw [rst_length, hl]
  refine ⟨by rw [lessA_len, hrl], tld_rs hp _ _, fun a ha => ?_, ?_⟩
  · have haP := List.mem_of_mem_take ha
    rw [cf_lessA (by rw [hrl]; exact h.lt a haP), h.rcS_at haP, Int.sub_self]; simp
  · refine Sp.eq (rcS_sp (cf (rst p m)) P) fun i => ?_
    show _ = (cf m i + -1 * cf (lessA p (rst p m) P) i) % p
    by_cases hi : i < n
    · rw [cf_lessA (by rw [hrl]; exact hi), cf_rst]
      obtain ⟨S, hS⟩ : ∃ S, rcS (cf (rst p m)) P i = S := ⟨_, rfl⟩
      obtain ⟨M, hM⟩ : ∃ M, cf m i = M := ⟨_, rfl⟩
      rw [hS, hM, show M + -1 * ((M % p - S) % p) = M - (M % p - S) % p from by omega, Int.sub_emod, Int.emod_emod_of_dvd _ (Int.dvd_refl p), ← Int.sub_emod]
      have e := Int.emod_add_mul_ediv M p
      rw [show M - (M % p - S) = S + p * (M / p) from by omega, Int.add_mul_emod_self_left]
    · rw [rcS_off fun b hb => cf_over (by rw [h.len b hb]; omega), cf_over (by omega), cf_over (by rw [lessA_len, hrl]; omega)]; simp
theorem tld_scl {p u : Int} {r : List Int} {n : Nat} (h : n = r.length) (f : Ser) (hf : ∀ i, f i = u * cf r i) : tld p n f = r.map fun y => y * u % p := by
  subst h
  refine cf_ext (by simp [tld]) fun i => ?_
  rw [cf_map (fun y => y * u % p) (by simp)]
  by_cases e : i < r.length
  · rw [cf_tld e, hf, Int.mul_comm]
  · rw [cf_over (by rw [tld_len]; omega), cf_over (by omega)]; simp
end Go.Proofs.YtnkhhndjbanmnaaGreatDoor
