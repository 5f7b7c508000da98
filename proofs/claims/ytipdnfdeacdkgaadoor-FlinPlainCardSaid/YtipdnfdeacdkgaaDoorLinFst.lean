/- cleaverref07.first and less, by their contracts. -/
import Derived.Test.YtipdnfdeacdkgaaDoorEchS
import Derived.Test.YtipdnfdeacdkgaaDoorIntWords
import Derived.Test.YtipdnfdeacdkgaaDoorRefIs
import Derived.Deep.QuietTactic
import Derived.BigQuiet
namespace Go.Proofs.YtipdnfdeacdkgaaDoor
open Go.RowKit

/-- The place of a row's first residue that isn't 0. -/
def IsFst (xs : List Int) (k : Nat) : Prop := k < xs.length ∧ cf xs k ≠ 0 ∧ ∀ j, j < k → cf xs j = 0
theorem IsFst.uniq {xs : List Int} {k l : Nat} (h : IsFst xs k) (h' : IsFst xs l) : k = l := by
  rcases Nat.lt_trichotomy k l with e | e | e
  · exact absurd (h'.2.2 k e) h.2.1
  · exact e
  · exact absurd (h.2.2 l e) h'.2.1
noncomputable def fsi (xs : List Int) : Int := @dite _ (∃ k, IsFst xs k) (Classical.propDecidable _) (fun h => ((Classical.choose h : Nat) : Int)) (fun _ => -1)
theorem fsi_is {xs : List Int} {k : Nat} (h : IsFst xs k) : fsi xs = k := by
  unfold fsi
  rw [dif_pos ⟨k, h⟩]
  have := Classical.choose_spec (⟨k, h⟩ : ∃ k, IsFst xs k)
  rw [this.uniq h]
theorem fsi_none {xs : List Int} (h : ∀ j, j < xs.length → cf xs j = 0) : fsi xs = -1 := by
  unfold fsi
  rw [dif_neg]
  rintro ⟨k, hk⟩
  exact hk.2.1 (h k hk.1)
theorem fsi_cases (xs : List Int) : (∃ k : Nat, fsi xs = k ∧ IsFst xs k) ∨ (fsi xs = -1 ∧ ∀ j, cf xs j = 0) := by
  rcases Classical.em (∃ k, IsFst xs k) with ⟨k, h⟩ | h
  · exact .inl ⟨k, fsi_is h, h⟩
  · right
    have hz : ∀ j, cf xs j = 0 := by
      intro j
      induction j using Nat.strongRecOn with
      | ind j ih =>
        refine Classical.byContradiction fun hj => h ⟨j, ?_, hj, ih⟩
        rcases Nat.lt_or_ge j xs.length with h1 | h1
        · exact h1
        · exact absurd (cf_over h1) hj
    exact ⟨fsi_none fun j _ => hz j, hz⟩

theorem ISl.cfs {w : World} {A : Option Addr} {n c : Nat} {xs : List Int} (h : ISl w A n c xs) (hn : 0 < n) : ∃ b o, A = some ⟨b, o, none⟩ ∧ b < w.heap.size ∧ ∀ j, j < n → w.cell? ⟨b, o + j, none⟩ = some (iv (cf xs j)) := h.at_ hn

set_option maxHeartbeats 1000000 in
theorem first_any (A : Option Addr) (n c : Nat) (xs : List Int) (w : World) (h : ISl w A n c xs) :
    Calls Tryd.prog 23 #[.slice A n c] w fun e w' => e = .returned (.int .i64 (fsi xs)) ∧ w = w' := by
  have hcl := h.le
  have hcm := h.max
  have H := Lib.hid h
  have IS := Lib.hid (fun k (hk : IsFst xs k) => fsi_is hk)
  have NO := Lib.hid (@fsi_none xs)
  generalize fsi xs = r at *
  clear h
  go_enter Tryd.func23, Tryd.ntmps23
  go_wp2_with fail
  go_loop [3] (fun i => ∃ k : Nat, k ≤ n ∧ i = .int .i64 (k : Int) ∧ Hid (∀ j, j < k → cf xs j = 0)) (fun i => n - (intOf i).toNat)
  case atStart => exact ⟨0, Nat.zero_le _, rfl, Lib.hid (fun j hj => absurd hj (Nat.not_lt_zero _))⟩
  case round =>
    obtain ⟨k, hk, rfl, hz⟩ := hrel
    by_cases hlt : k < n
    · obtain ⟨b, o, rfl, hbl, hc⟩ := H.out.cfs (by omega)
      have hx := hc k hlt
      have hkl : k < xs.length := by rw [← H.out.len]; exact hlt
      have HKL := Lib.hid hkl
      by_cases h0 : cf xs k = 0
      · have H0 := Lib.hid h0
        rw [h0] at hx
        clear hc h0 hkl
        go_wp2_with fail
        go_round
        case rel => exact ⟨k + 1, by omega, by go_num, Lib.hid (fun j hj => by
          by_cases e : j = k
          · rw [e]; exact H0.out
          · exact hz.out j (by omega))⟩
        case measure => simp [intOf]; omega
      · have e := IS.out k ⟨hkl, h0, hz.out⟩
        subst e
        obtain ⟨y, hy⟩ : ∃ y, cf xs k = y := ⟨_, rfl⟩
        rw [hy] at hx h0
        have h0b : (y == 0) = false := by simpa using h0
        clear hc hy hkl NO IS
        go_wp2_with fail
        go_ret
        exact ⟨rfl, rfl⟩
    · obtain rfl : k = n := by omega
      have e := NO.out (fun j hj => hz.out j (by rw [H.out.len]; exact hj))
      subst e
      clear NO IS
      go_wp2_with fail
      go_ret
      exact ⟨rfl, rfl⟩

theorem lessL_take (p : Int) (a b : List Int) (k : Int) (i : Nat) (hi : i < a.length) : (lessL p a b k).take (i + 1) = (lessL p a b k).take i ++ [(cf a i - k * cf b i) % p] := by
  rw [List.take_succ_eq_append_getElem (by rw [lessL_len]; exact hi)]
  congr 1
  simp [lessL]
/-- A slice whose cells may be written. -/
def Thaw (w : World) (C : Option Addr) : Prop := ∀ b o s, C = some ⟨b, o, s⟩ → ∀ i, w.frozen? ⟨b, i, none⟩ = false
theorem IOw.thaw {w : World} {B : Nat} {C : Option Addr} {n c : Nat} {xs : List Int} (h : IOw w B (.slice C n c) xs) : Thaw w C := by
  intro b o s e i
  obtain ⟨⟨_, h2⟩, _⟩ := h
  rcases h2 with ⟨e2, _⟩ | ⟨g, cap, cur, e2, _, hh, _⟩
  · simp only [Value.slice.injEq] at e2
    rw [e2.1] at e; cases e
  · simp only [Value.slice.injEq] at e2
    rw [e2.1] at e
    simp only [Option.some.injEq, Addr.mk.injEq] at e
    rw [← e.1]
    simp [World.frozen?, hh]
/-- What less answers: new memory, to be written on. -/
def NewRow (w : World) (C : Option Addr) (m d : Nat) (L : List Int) (w' : World) : Prop := ISl w' C m d L ∧ Thaw w' C ∧ (∀ b o s, C = some ⟨b, o, s⟩ → w.heap.size ≤ b) ∧ Below w.heap.size w w'

set_option maxHeartbeats 2000000 in
theorem less_any (A B : Option Addr) (n c n' c' : Nat) (xs ys : List Int) (k p : Int) (w : World) (h : ISl w A n c xs) (h' : ISl w B n' c' ys) (hl : ys.length = xs.length) (hp : 1 ≤ p ∧ p ≤ 65521) (hk : 0 ≤ k ∧ k < p) (hx : Rs p xs) (hy : Rs p ys) (hn : n ≤ 1000) :
    Calls Tryd.prog 22 #[.slice A n c, .slice B n' c', .int .i64 k, .int .i64 p] w fun e w' => ∃ C d, e = .returned (.slice C n d) ∧ NewRow w C n d (lessL p xs ys k) w' := by
  have hcl := h.le
  have hcm := h.max
  have hcl' := h'.le
  have hcm' := h'.max
  have H := Lib.hid h
  have H' := Lib.hid h'
  have HX := Lib.hid hx
  have HY := Lib.hid hy
  obtain ⟨hp1, hp2⟩ := hp
  obtain ⟨hk1, hk2⟩ := hk
  have hnn : n' = n := by rw [h.len, h'.len, hl]
  subst hnn
  have HXL := Lib.hid (show n' = xs.length from h.len)
  have RED := Lib.hid (fun (a : Int) (w : World) => refRed_any a p w (by omega) (by omega))
  clear h h' hx hy hl
  go_enter Tryd.func22, Tryd.ntmps22
  go_wp2_with fail
  go_loopw [10, 9] (fun i v wr => ∃ j : Nat, j ≤ n' ∧ i = .int .i64 (j : Int) ∧ IOw wr w.heap.size v ((lessL p xs ys k).take j) ∧ Below w.heap.size w wr) (fun i _ _ => n' - (intOf i).toNat)
  case atStart => exact ⟨0, Nat.zero_le _, rfl, IOw.nil _ _, Below.refl _ _⟩
  case round =>
    obtain ⟨j, hj, rfl, hown, hbel⟩ := hrel
    by_cases hlt : j < n'
    · obtain ⟨b, o, rfl, hbl, hc⟩ := H.out.cfs (by omega)
      obtain ⟨b', o', rfl, hbl', hc'⟩ := H'.out.cfs (by omega)
      have hx := hc j hlt
      have hy := hc' j hlt
      rw [← hbel.cell (p := ⟨b, o + j, none⟩) hbl] at hx
      rw [← hbel.cell (p := ⟨b', o' + j, none⟩) hbl'] at hy
      have hsn := lessL_take p xs ys k j (by rw [← HXL.out]; exact hlt)
      have bx := HX.out.at hp1 j
      have by_ := HY.out.at hp1 j
      obtain ⟨x, hx0⟩ : ∃ x, cf xs j = x := ⟨_, rfl⟩
      obtain ⟨y, hy0⟩ : ∃ y, cf ys j = y := ⟨_, rfl⟩
      rw [hx0] at hx hsn bx
      rw [hy0] at hy hsn by_
      have bm := mul_bd ⟨hk1, hk2⟩ by_ hp2
      obtain ⟨P, hP⟩ : ∃ P, k * y = P := ⟨_, rfl⟩
      rw [hP] at bm hsn
      obtain ⟨D, hD⟩ : ∃ D, x - P = D := ⟨_, rfl⟩
      rw [hD] at hsn
      have hDb : -9223372036854775808 ≤ D ∧ D ≤ 9223372036854775807 := by omega
      have hR := RED.out D
      rw [red_pos hp1] at hR
      obtain ⟨z, hz⟩ : ∃ z, D % p = z := ⟨_, rfl⟩
      have bz : 0 ≤ z ∧ z < p := by rw [← hz]; exact ⟨Int.emod_nonneg _ (by omega), Int.emod_lt_of_pos _ (by omega)⟩
      rw [hz] at hsn hR
      have HR : Hid (∀ w : World, Calls Tryd.prog 21 #[.int .i64 D, .int .i64 p] w fun e w' => e = .returned (.int .i64 z) ∧ w = w') := Lib.hid hR
      have hN := (iblk_list wr.drew [z] (fi_one (by unfold In64; omega))).sl (by simp)
      have HN := Lib.hid hN
      have HO := Lib.hid hown
      have HBB := Lib.hid hbel
      have HS := Lib.hid hsn
      have HL : Hid (((lessL p xs ys k).take j).length = j) := Lib.hid (by rw [List.length_take, lessL_len, ← HXL.out]; omega)
      have hsz := hbel.size
      have i1 : (0 : Int) ≤ (j : Int) := by omega
      have i2 : (j : Int) < (n' : Int) := by omega
      have hw1 : IntKind.i64.wrap P = P := by rw [IntKind.wrap_i64]; omega
      have hw2 : IntKind.i64.wrap D = D := by rw [IntKind.wrap_i64]; omega
      have hbw := Nat.lt_of_lt_of_le hbl hsz
      have hbw' := Nat.lt_of_lt_of_le hbl' hsz
      clear hc hc' hN hown hbel hsn hx0 hy0 hR hz
      go_wp2_with fail
      go_region_held3 (fun W => W.cell? ⟨b, o + j, none⟩ = some (iv x) ∧ W.cell? ⟨b', o' + j, none⟩ = some (iv y))
        (first
          | go_keep
          | exact ⟨by rw [hb1.cell (by exact hbl)]; first | assumption | go_keep, by rw [hb1.cell (by exact hbl')]; first | assumption | go_keep⟩)
        (first
          | (go_at_call 21; (with_reducible refine (HR.out _).mono ?_); rintro e w0 ⟨rfl, rfl⟩)
          | (refine istep_app _ (by rfl) (.tmp 17) (.tmp 31) (by rfl) w.heap.size _ _ (by rfl) (HO.out.drew.alloc _) (some ⟨wr.heap.size, 0, none⟩) 1 1 (by rfl) [z] HN.out (by rw [HL.out]; omega) (Nat.le_trans hsz (by simp)) ?_; intro v1 w3 ho1 hb1)
          | fail)
      have hb4 : Below w.heap.size w w3 := (HBB.out.drew.alloc hsz _).trans hb1
      clear hb1
      rw [← HS.out] at ho1
      go_wp2_with fail
      go_roundw
      case rel => exact ⟨j + 1, by omega, by go_num, ho1, hb4⟩
      case measure => simp [intOf]; omega
    · obtain rfl : j = n' := by omega
      have hall : (lessL p xs ys k).take j = lessL p xs ys k := List.take_of_length_le (by rw [lessL_len, ← HXL.out]; exact Nat.le_refl _)
      rw [hall] at hown
      obtain ⟨C, d, rfl, hs, hnew⟩ := hown.sl
      have ht := hown.thaw
      rw [lessL_len, ← HXL.out] at hs ⊢
      have HS := Lib.hid hs
      have HT := Lib.hid ht
      have HNW := Lib.hid hnew
      have HBB := Lib.hid hbel
      clear hs ht hnew hbel hown hall
      go_wp2_with fail
      go_ret
      exact ⟨C, d, rfl, HS.out, HT.out, HNW.out, HBB.out⟩
end Go.Proofs.YtipdnfdeacdkgaaDoor
