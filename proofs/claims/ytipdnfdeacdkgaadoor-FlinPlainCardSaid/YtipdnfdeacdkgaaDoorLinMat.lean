/- A matrix as it lies in memory; cleaverref07.right, by its contract. -/
import Derived.Test.YtipdnfdeacdkgaaDoorLinFst
import Derived.Test.YtipdnfdeacdkgaaDoorRowWords
namespace Go.Proofs.YtipdnfdeacdkgaaDoor
open Go.RowKit

/-- Rows that are read. -/
def MatAt (w : World) (A : Option Addr) (n c : Nat) (M : List (List Int)) : Prop :=
  ∃ vs, VSl w A n c vs ∧ n = M.length ∧ ∀ i, i < n → ∃ C k d, vs.getD i nilv = .slice C k d ∧ ISl w C k d (M.getD i [])
theorem MatAt.len {w : World} {A : Option Addr} {n c : Nat} {M : List (List Int)} (h : MatAt w A n c M) : n = M.length := by
  obtain ⟨_, _, h, _⟩ := h
  exact h
theorem MatAt.le {w : World} {A : Option Addr} {n c : Nat} {M : List (List Int)} (h : MatAt w A n c M) : n ≤ c := by
  obtain ⟨_, h, _⟩ := h
  exact h.le
theorem MatAt.max {w : World} {A : Option Addr} {n c : Nat} {M : List (List Int)} (h : MatAt w A n c M) : c ≤ 9223372036854775807 := by
  obtain ⟨_, h, _⟩ := h
  exact h.max
theorem MatAt.below {w w' : World} {A : Option Addr} {n c : Nat} {M : List (List Int)} (h : MatAt w A n c M) (hb : Below w.heap.size w w') : MatAt w' A n c M := by
  obtain ⟨vs, h1, h2, h3⟩ := h
  refine ⟨vs, h1.below hb, h2, fun i hi => ?_⟩
  obtain ⟨C, k, d, e, k1⟩ := h3 i hi
  exact ⟨C, k, d, e, k1.below hb⟩
/-- Row i, laid open. -/
theorem MatAt.open_ {w : World} {A : Option Addr} {n c : Nat} {M : List (List Int)} (h : MatAt w A n c M) (hn : 0 < n) : ∃ b o, A = some ⟨b, o, none⟩ ∧ b < w.heap.size ∧
    ∀ i, i < n → ∃ C k d, w.cell? ⟨b, o + i, none⟩ = some (.slice C k d) ∧ ISl w C k d (M.getD i []) := by
  obtain ⟨vs, h1, h2, h3⟩ := h
  obtain ⟨b, o, rfl, hlt, hc⟩ := h1.at_ hn
  refine ⟨b, o, rfl, hlt, fun i hi => ?_⟩
  obtain ⟨C, k, d, e, k1⟩ := h3 i hi
  exact ⟨C, k, d, by rw [hc i hi, e], k1⟩

/-- A matrix, over a field. -/
def Right (p : Int) (M : List (List Int)) : Prop := Pr p ∧ M.length ≤ 64 ∧ ∀ i, i < M.length → (M.getD i []).length ≤ 64 ∧ (M.getD i []).length = (M.getD 0 []).length
noncomputable def rightB (p : Int) (M : List (List Int)) : Bool := @decide (Right p M) (Classical.propDecidable _)
theorem rightB_yes {p : Int} {M : List (List Int)} (h : Right p M) : rightB p M = true := @decide_eq_true _ (Classical.propDecidable _) h
theorem rightB_no {p : Int} {M : List (List Int)} (h : ¬ Right p M) : rightB p M = false := @decide_eq_false _ (Classical.propDecidable _) h

set_option maxHeartbeats 2000000 in
theorem right_any (A : Option Addr) (n c : Nat) (M : List (List Int)) (p : Int) (w : World) (h : MatAt w A n c M) (ip : In64 p) :
    Calls Tryd.prog 20 #[.slice A n c, .int .i64 p] w fun e w' => e = .returned (.bool (rightB p M)) ∧ Below w.heap.size w w' := by
  have hcl := h.le
  have hcm := h.max
  have hnl := h.len
  have C := refCheck_any p w ip.1 ip.2
  rcases Classical.em (Pr p) with hp | hp
  · rw [chk_yes (primB_yes hp)] at C
    have CC := Lib.hid C
    by_cases h64 : n ≤ 64
    · have H := Lib.hid h
      have HNL := Lib.hid hnl
      have YES := Lib.hid (fun hr : (∀ i, i < M.length → (M.getD i []).length ≤ 64 ∧ (M.getD i []).length = (M.getD 0 []).length) => rightB_yes (p := p) ⟨hp, by omega, hr⟩)
      have NO := Lib.hid (fun i (hi : i < M.length) (hr : ¬ ((M.getD i []).length ≤ 64 ∧ (M.getD i []).length = (M.getD 0 []).length)) => rightB_no (p := p) (fun k => hr (k.2.2 i hi)))
      generalize rightB p M = r at *
      clear h C hp ip hnl
      go_enter Tryd.func20, Tryd.ntmps20
      go_wp2_with (go_at_call 36; (with_reducible refine CC.out.mono ?_); rintro e w' ⟨rfl, rfl⟩)
      go_loopw [5] (fun i wr => ∃ k : Nat, k ≤ n ∧ i = .int .i64 (k : Int) ∧ Hid (∀ j, j < k → (M.getD j []).length ≤ 64 ∧ (M.getD j []).length = (M.getD 0 []).length) ∧ Below w.heap.size w wr) (fun i _ => n - (intOf i).toNat)
      case atStart => exact ⟨0, Nat.zero_le _, rfl, Lib.hid (fun j hj => absurd hj (Nat.not_lt_zero _)), Below.refl _ _⟩
      case round =>
        obtain ⟨k, hk, rfl, hz, hbel⟩ := hrel
        by_cases hlt : k < n
        · obtain ⟨b, o, rfl, hbl, hc⟩ := H.out.open_ (by omega)
          obtain ⟨C0, k0, d0, hc0, hi0⟩ := hc 0 (by omega)
          obtain ⟨C1, k1, d1, hc1, hi1⟩ := hc k hlt
          rw [Nat.add_zero, ← hbel.cell (p := ⟨b, o, none⟩) hbl] at hc0
          rw [← hbel.cell (p := ⟨b, o + k, none⟩) hbl] at hc1
          have HL0 := Lib.hid hi0.len
          have HL1 := Lib.hid hi1.len
          have hm0 := Nat.le_trans hi0.le hi0.max
          have hm1 := Nat.le_trans hi1.le hi1.max
          have HB := Lib.hid hbel
          have i1 : (0 : Int) ≤ (k : Int) := by omega
          have i2 : (k : Int) < (n : Int) := by omega
          have i3 : 0 < n := by omega
          clear hc hi0 hi1 hbel
          by_cases hk1 : k1 ≤ 64
          · have j1 : ¬ (64 : Int) < (k1 : Int) := by omega
            by_cases he : k1 = k0
            · subst he
              go_wp2_with fail
              go_quiet (fail)
              go_wp2_with fail
              go_roundw
              case rel => exact ⟨k + 1, by omega, by go_num, Lib.hid (fun j hj => by
                by_cases e : j = k
                · rw [e, ← HL1.out, ← HL0.out]; exact ⟨hk1, rfl⟩
                · exact hz.out j (by omega)), ibelow_drewN HB.out _⟩
              case measure => simp [intOf]; omega
            · have e := NO.out k (by rw [← HNL.out]; exact hlt) (by rw [← HL1.out, ← HL0.out]; omega)
              subst e
              have j2 : ((k1 : Int) != (k0 : Int)) = true := by simp; omega
              clear he
              go_wp2_with fail
              go_quiet (fail)
              go_wp2_with fail
              go_ret
              exact ⟨rfl, ibelow_drewN HB.out _⟩
          · have e := NO.out k (by rw [← HNL.out]; exact hlt) (by rw [← HL1.out]; omega)
            subst e
            have j1 : (64 : Int) < (k1 : Int) := by omega
            go_wp2_with fail
            go_quiet (fail)
            go_wp2_with fail
            go_ret
            exact ⟨rfl, ibelow_drewN HB.out _⟩
        · obtain rfl : k = n := by omega
          have e := YES.out (fun j hj => hz.out j (by rw [HNL.out]; exact hj))
          subst e
          go_wp2_with fail
          go_ret
          exact ⟨rfl, hbel⟩
    · rw [rightB_no (fun k => h64 (by rw [hnl]; exact k.2.1))]
      clear h C hp ip hnl
      go_enter Tryd.func20, Tryd.ntmps20
      go_wp2_with (go_at_call 36; (with_reducible refine CC.out.mono ?_); rintro e w' ⟨rfl, rfl⟩)
      go_ret
      exact ⟨rfl, Below.refl _ _⟩
  · rw [chk_no (primB_no hp)] at C
    have CC := Lib.hid C
    rw [rightB_no (fun k => hp k.1)]
    clear h C hp ip hnl
    go_enter Tryd.func20, Tryd.ntmps20
    go_wp2_with (go_at_call 36; (with_reducible refine CC.out.mono ?_); rintro e w' ⟨rfl, rfl⟩)
    go_ret
    exact ⟨rfl, Below.refl _ _⟩
end Go.Proofs.YtipdnfdeacdkgaaDoor
