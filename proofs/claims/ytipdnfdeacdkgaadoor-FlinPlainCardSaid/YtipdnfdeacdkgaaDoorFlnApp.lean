/- flin.isMatrix, check, sumOfProducts and Apply, by their contracts. -/
import Derived.Test.YtipdnfdeacdkgaaDoorFlnRow
import Derived.Test.YtipdnfdeacdkgaaDoorLinAns
import Derived.BigQuiet
namespace Go.Proofs.YtipdnfdeacdkgaaDoor
open Go.RowKit Go.Shelf

/-- Rows few enough, short enough, of one length. -/
def IsM (M : List (List Int)) : Prop := M.length ≤ 64 ∧ ∀ i, i < M.length → (M.getD i []).length ≤ 64 ∧ (M.getD i []).length = (M.getD 0 []).length
noncomputable def ismB (M : List (List Int)) : Bool := @decide (IsM M) (Classical.propDecidable _)
theorem ismB_yes {M : List (List Int)} (h : IsM M) : ismB M = true := @decide_eq_true _ (Classical.propDecidable _) h
theorem ismB_no {M : List (List Int)} (h : ¬ IsM M) : ismB M = false := @decide_eq_false _ (Classical.propDecidable _) h

set_option maxHeartbeats 2000000 in
theorem fIsM_any (A : Option Addr) (n c : Nat) (M : List (List Int)) (w : World) (h : MatAt w A n c M) :
    Calls Tryd.prog 28 #[.slice A n c] w fun e w' => e = .returned (.bool (ismB M)) ∧ Below w.heap.size w w' := by
  have hcl := h.le
  have hcm := h.max
  have hnl := h.len
  by_cases h64 : n ≤ 64
  · have H := Lib.hid h
    have HNL := Lib.hid hnl
    have YES := Lib.hid (fun hr : (∀ i, i < M.length → (M.getD i []).length ≤ 64 ∧ (M.getD i []).length = (M.getD 0 []).length) => ismB_yes (M := M) ⟨by omega, hr⟩)
    have NO := Lib.hid (fun i (hi : i < M.length) (hr : ¬ ((M.getD i []).length ≤ 64 ∧ (M.getD i []).length = (M.getD 0 []).length)) => ismB_no (M := M) (fun k => hr (k.2 i hi)))
    generalize ismB M = r at *
    clear h hnl
    go_enter Tryd.func28, Tryd.ntmps28
    go_wp2_with fail
    go_loopw [10] (fun i wr => ∃ k : Nat, k ≤ n ∧ i = .int .i64 (k : Int) ∧ Hid (∀ j, j < k → (M.getD j []).length ≤ 64 ∧ (M.getD j []).length = (M.getD 0 []).length) ∧ Below w.heap.size w wr) (fun i _ => n - (intOf i).toNat)
    case atStart => exact ⟨0, Nat.zero_le _, rfl, Lib.hid (fun j hj => absurd hj (Nat.not_lt_zero _)), Below.refl _ _⟩
    case round =>
      obtain ⟨k, hk, rfl, hz, hbel⟩ := hrel
      by_cases hlt : k < n
      · obtain ⟨b, o, rfl, hbl, hc⟩ := H.out.open_ (by omega)
        obtain ⟨C0, k0, d0, hc0, hi0⟩ := hc 0 (by omega)
        obtain ⟨C1, k1, d1, hc1, hi1⟩ := hc k hlt
        rw [Nat.add_zero, ← hbel.cell (p := ⟨b, o, none⟩) hbl] at hc0
        rw [← hbel.cell (p := ⟨b, o + k, none⟩) hbl] at hc1
        have HL0 := Lib.hid hi0.len
        have HL1 := Lib.hid hi1.len
        have hm0 := Nat.le_trans hi0.le hi0.max
        have hm1 := Nat.le_trans hi1.le hi1.max
        have HB := Lib.hid hbel
        have i1 : (0 : Int) ≤ (k : Int) := by omega
        have i2 : (k : Int) < (n : Int) := by omega
        have i3 : 0 < n := by omega
        clear hc hi0 hi1 hbel
        by_cases hk1 : k1 ≤ 64
        · have j1 : ¬ (64 : Int) < (k1 : Int) := by omega
          by_cases he : k1 = k0
          · subst he
            go_wp2_with fail
            go_roundw
            case rel => exact ⟨k + 1, by omega, by go_num, Lib.hid (fun j hj => by
              by_cases e : j = k
              · rw [e, ← HL1.out, ← HL0.out]; exact ⟨hk1, rfl⟩
              · exact hz.out j (by omega)), HB.out⟩
            case measure => simp [intOf]; omega
          · have e := NO.out k (by rw [← HNL.out]; exact hlt) (by rw [← HL1.out, ← HL0.out]; omega)
            subst e
            have j2 : ((k1 : Int) != (k0 : Int)) = true := by simp; omega
            clear he
            go_wp2_with fail
            go_ret
            exact ⟨rfl, HB.out⟩
        · have e := NO.out k (by rw [← HNL.out]; exact hlt) (by rw [← HL1.out]; omega)
          subst e
          have j1 : (64 : Int) < (k1 : Int) := by omega
          go_wp2_with fail
          go_ret
          exact ⟨rfl, HB.out⟩
      · obtain rfl : k = n := by omega
        have e := YES.out (fun j hj => hz.out j (by rw [HNL.out]; exact hj))
        subst e
        go_wp2_with fail
        go_ret
        exact ⟨rfl, hbel⟩
  · rw [ismB_no (fun k => h64 (by rw [hnl]; exact k.1))]
    clear h hnl
    go_enter Tryd.func28, Tryd.ntmps28
    go_wp2_with fail
    go_ret
    exact ⟨rfl, Below.refl _ _⟩

set_option maxHeartbeats 1000000 in
theorem fCheck_any (A : Option Addr) (n c : Nat) (M : List (List Int)) (p : Int) (w : World) (hT : TabAt w) (h : MatAt w A n c M) (ip : In64 p) :
    Calls Tryd.prog 18 #[.slice A n c, .int .i64 p] w fun e w' => e = .returned (.int .i64 (codeB (rightB p M))) ∧ Below w.heap.size w w' := by
  have C := pCheck_any p w ip.1 ip.2 hT
  have D := fIsM_any A n c M w h
  rcases Classical.em (Pr p) with hp | hp
  · rw [chk_yes (primB_yes hp)] at C
    rcases Classical.em (IsM M) with hm | hm
    · rw [ismB_yes hm] at D
      have e : codeB (rightB p M) = 0 := by rw [rightB_yes ⟨hp, hm.1, hm.2⟩]; rfl
      rw [e]
      have CC := Lib.hid C
      have DD := Lib.hid D
      clear C D h ip hp hm hT e
      go_enter Tryd.func18, Tryd.ntmps18
      go_wp2_with (first
        | (go_at_call 27; (with_reducible refine CC.out.mono ?_); rintro e w' ⟨rfl, rfl⟩)
        | (go_at_call 28; (with_reducible refine DD.out.mono ?_); rintro e w' ⟨rfl, hb⟩))
      go_ret
      exact ⟨rfl, hb⟩
    · rw [ismB_no hm] at D
      have e : codeB (rightB p M) = 1 := by rw [rightB_no (fun k => hm ⟨k.2.1, k.2.2⟩)]; rfl
      rw [e]
      have CC := Lib.hid C
      have DD := Lib.hid D
      clear C D h ip hp hm hT e
      go_enter Tryd.func18, Tryd.ntmps18
      go_wp2_with (first
        | (go_at_call 27; (with_reducible refine CC.out.mono ?_); rintro e w' ⟨rfl, rfl⟩)
        | (go_at_call 28; (with_reducible refine DD.out.mono ?_); rintro e w' ⟨rfl, hb⟩))
      go_ret
      exact ⟨rfl, hb⟩
  · rw [chk_no (primB_no hp)] at C
    have e : codeB (rightB p M) = 1 := by rw [rightB_no (fun k => hp k.1)]; rfl
    rw [e]
    have CC := Lib.hid C
    clear C D h ip hp hT e
    go_enter Tryd.func18, Tryd.ntmps18
    go_wp2_with (go_at_call 27; (with_reducible refine CC.out.mono ?_); rintro e w' ⟨rfl, rfl⟩)
    go_ret
    exact ⟨rfl, Below.refl _ _⟩

theorem quietW {P : Program} {f : FuncId} {args : Array Value} {w : World} {n : Nat} {v : Value} (h : Calls P f args (w.drewN n) fun e w' => e = .returned v ∧ w.drewN n = w') :
    Calls P f args (w.drewN n) fun e w'' => e = .returned v ∧ ∃ m, w'' = w.drewN m := h.mono fun _ _ ⟨he, hw⟩ => ⟨he, n, hw.symm⟩
theorem smN_bd {t : Nat → Int} (h : ∀ j, 0 ≤ t j ∧ t j ≤ 4292870400) (n : Nat) : 0 ≤ smN t n ∧ smN t n ≤ 4292870400 * (n : Int) := by
  induction n with
  | zero => exact ⟨Int.le_refl _, by show (0 : Int) ≤ _; simp⟩
  | succ n ih =>
    have := h n
    show 0 ≤ smN t n + t n ∧ smN t n + t n ≤ _
    omega
/-- The sum of products of rests. -/
def rdot (p : Int) (a b : List Int) : Nat → Int := smN fun j => cf a j % p * (cf b j % p)
theorem rdot_mod (p : Int) (a b : List Int) (n : Nat) : rdot p a b n % p = dot (cf a) (cf b) n % p := smN_mod fun j _ => by rw [← Int.mul_emod]
theorem rdot_bd {p : Int} (hp : Md p) (a b : List Int) (n : Nat) : 0 ≤ rdot p a b n ∧ rdot p a b n ≤ 4292870400 * (n : Int) := by
  have h1 := hp.1
  exact smN_bd (fun j => mul_bdM ⟨Int.emod_nonneg _ (by omega), Int.emod_lt_of_pos _ (by omega)⟩ ⟨Int.emod_nonneg _ (by omega), Int.emod_lt_of_pos _ (by omega)⟩ hp.2) n
theorem rdot_succ (p : Int) (a b : List Int) (n : Nat) : rdot p a b (n + 1) = rdot p a b n + cf a n % p * (cf b n % p) := rfl

set_option maxHeartbeats 2000000 in
theorem fDot_any (A B : Option Addr) (n c n' c' : Nat) (xs ys : List Int) (p : Int) (w : World) (h : ISl w A n c xs) (h' : ISl w B n' c' ys) (hp : Md p) (hl : n' = n) (hn : n ≤ 1000) :
    Calls Tryd.prog 26 #[.slice A n c, .slice B n' c', .int .i64 p] w fun e w' => e = .returned (.int .i64 (dot (cf xs) (cf ys) n % p)) ∧ Below w.heap.size w w' := by
  subst hl
  have hp1 := hp.1
  have hp2 := hp.2
  have hcl := h.le
  have hcm := h.max
  have hcl' := h'.le
  have hcm' := h'.max
  have H := Lib.hid h
  have H' := Lib.hid h'
  have RED := Lib.hid (fun (a : Int) (w : World) => pRed_md a p hp w)
  rw [← rdot_mod]
  have BD := Lib.hid (fun k => rdot_bd hp xs ys k)
  have SC := Lib.hid (fun k => rdot_succ p xs ys k)
  have Z0 := Lib.hid (show rdot p xs ys 0 = 0 from rfl)
  generalize rdot p xs ys = S at *
  clear h h' hp
  go_enter Tryd.func26, Tryd.ntmps26
  go_wp2_with fail
  go_loopw [12, 7] (fun i v wr => ∃ k : Nat, k ≤ n' ∧ i = .int .i64 (k : Int) ∧ v = .int .i64 (S k) ∧ Below w.heap.size w wr) (fun i _ _ => n' - (intOf i).toNat)
  case atStart => exact ⟨0, Nat.zero_le _, rfl, by rw [Z0.out], Below.refl _ _⟩
  case round =>
    obtain ⟨k, hk, rfl, rfl, hbel⟩ := hrel
    by_cases hlt : k < n'
    · obtain ⟨b, o, rfl, hbl, hc⟩ := H.out.cfs (by omega)
      obtain ⟨b', o', rfl, hbl', hc'⟩ := H'.out.cfs (by omega)
      have hx := hc k hlt
      have hy := hc' k hlt
      rw [← hbel.cell (p := ⟨b, o + k, none⟩) hbl] at hx
      rw [← hbel.cell (p := ⟨b', o' + k, none⟩) hbl'] at hy
      have hs := SC.out k
      have bs := BD.out k
      have R1 := RED.out (cf xs k)
      have R2 := RED.out (cf ys k)
      have b1 : 0 ≤ cf xs k % p ∧ cf xs k % p < p := ⟨Int.emod_nonneg _ (by omega), Int.emod_lt_of_pos _ (by omega)⟩
      have b2 : 0 ≤ cf ys k % p ∧ cf ys k % p < p := ⟨Int.emod_nonneg _ (by omega), Int.emod_lt_of_pos _ (by omega)⟩
      generalize cf xs k % p = u at *
      generalize cf ys k % p = v at *
      generalize cf xs k = x at *
      generalize cf ys k = y at *
      have bm := mul_bdM b1 b2 hp2
      obtain ⟨G, hG⟩ : ∃ G, u * v = G := ⟨_, rfl⟩
      rw [hG] at bm hs
      have HR1 := Lib.hid R1
      have HR2 := Lib.hid R2
      have HS := Lib.hid hs
      generalize S k = s at *
      have m1 : IntKind.i64.wrap (u * v) = G := by rw [hG, IntKind.wrap_i64]; omega
      have m2 : IntKind.i64.wrap (s + G) = s + G := by rw [IntKind.wrap_i64]; omega
      have HB := Lib.hid hbel
      have i1 : (0 : Int) ≤ (k : Int) := by omega
      have i2 : (k : Int) < (n' : Int) := by omega
      have bm1 := bm.1
      have bm2 := bm.2
      clear hc hc' R1 R2 hs bs hG bm hbel b1 b2
      go_wp2_with fail
      go_quiet (first
        | (go_at_call 37; with_reducible exact quietW (HR1.out _))
        | (go_at_call 37; with_reducible exact quietW (HR2.out _)))
      go_wp2_with fail
      go_roundw
      case rel => exact ⟨k + 1, by omega, by go_num, by rw [HS.out], ibelow_drewN HB.out _⟩
      case measure => simp [intOf]; omega
    · obtain rfl : k = n' := by omega
      have R := RED.out (S k) wr
      have HR := Lib.hid R
      clear R
      go_wp2_with (go_at_call 37; (with_reducible refine HR.out.mono ?_); rintro e w' ⟨rfl, rfl⟩)
      go_ret
      exact ⟨rfl, hbel⟩
end Go.Proofs.YtipdnfdeacdkgaaDoor
