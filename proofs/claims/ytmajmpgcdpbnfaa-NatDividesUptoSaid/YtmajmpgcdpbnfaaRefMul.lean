/- cleaverref01.Mul, by its contract. -/
import Derived.Test.YtmajmpgcdpbnfaaRefLim
namespace Go.Proofs.Ytmajmpgcdpbnfaa
open Go.RowKit

theorem val32_set (L : List Nat) (j u : Nat) (hj : j < L.length) : val32 (L.set j u) + 4294967296 ^ j * L.getD j 0 = val32 L + 4294967296 ^ j * u := by
  induction L generalizing j with
  | nil => simp at hj
  | cons x xs ih =>
    cases j with
    | zero => simp [val32]; omega
    | succ j =>
      have := ih j (by simpa using hj)
      simp only [List.set_cons_succ, val32_cons, List.getD_cons_succ, Nat.pow_succ]
      grind
theorem fit32_set {L : List Nat} (h : Fit32 L) (j u : Nat) (hu : u < 4294967296) : Fit32 (L.set j u) := by
  intro x hx
  rcases List.mem_or_eq_of_mem_set hx with hx | rfl
  · exact h x hx
  · exact hu
theorem val32_take_getD (xs : List Nat) (k : Nat) : val32 (xs.take (k + 1)) = val32 (xs.take k) + 4294967296 ^ k * xs.getD k 0 := by
  rw [List.getD_eq_getElem?_getD]
  by_cases h : k < xs.length
  · rw [List.take_succ_eq_append_getElem h, val32_append, val32_cons, val32_nil, List.length_take, Nat.min_eq_left (by omega), List.getElem?_eq_getElem h]
    simp
  · rw [List.take_of_length_le (by omega), List.take_of_length_le (by omega), List.getElem?_eq_none (by omega)]; simp
theorem getD_set_ne (L : List Nat) (j u i : Nat) (h : i ≠ j) : (L.set j u).getD i 0 = L.getD i 0 := by
  rw [List.getD_eq_getElem?_getD, List.getD_eq_getElem?_getD, List.getElem?_set_ne (Ne.symm h)]

/-- The relation of the inner loop. -/
def MulIn (N m i V xi : Nat) (ys L : List Nat) (k c : Nat) : Prop :=
  L.length = N ∧ Fit32 L ∧ c < 4294967296 ∧ val32 L + 4294967296 ^ (i + k) * c = V + xi * 4294967296 ^ i * val32 (ys.take k) ∧ ∀ j, i + m ≤ j → L.getD j 0 = 0
theorem mulIn_step {N m i V xi : Nat} {ys L : List Nat} {k c : Nat} (h : MulIn N m i V xi ys L k c) (hx : xi < 4294967296) (hy : Fit32 ys) (hk : k < m) (hN : i + m ≤ N) :
    MulIn N m i V xi ys (L.set (i + k) ((xi * ys.getD k 0 + L.getD (i + k) 0 + c) % 4294967296)) (k + 1) ((xi * ys.getD k 0 + L.getD (i + k) 0 + c) / 4294967296) := by
  obtain ⟨h1, h2, h3, h4, h5⟩ := h
  have hyk := fit32_getD hy k
  have hlk := fit32_getD h2 (i + k)
  have hb : xi * ys.getD k 0 ≤ 4294967295 * 4294967295 := Nat.mul_le_mul (by omega) (by omega)
  refine ⟨by rw [List.length_set, h1], fit32_set h2 _ _ (Nat.mod_lt _ (by decide)), by omega, ?_, fun j hj => by rw [getD_set_ne _ _ _ _ (by omega)]; exact h5 j hj⟩
  have hs := val32_set L (i + k) ((xi * ys.getD k 0 + L.getD (i + k) 0 + c) % 4294967296) (by omega)
  rw [val32_take_getD]
  generalize ys.getD k 0 = y at *
  generalize L.getD (i + k) 0 = d at *
  generalize hS : xi * y + d + c = S at *
  have hdm : S % 4294967296 + 4294967296 * (S / 4294967296) = S := Nat.mod_add_div S 4294967296
  have e1 : 4294967296 ^ (i + (k + 1)) = 4294967296 ^ (i + k) * 4294967296 := by rw [← Nat.pow_succ]; rfl
  have e2 : 4294967296 ^ (i + k) = 4294967296 ^ i * 4294967296 ^ k := Nat.pow_add ..
  rw [e1]
  generalize S % 4294967296 = r at *
  generalize S / 4294967296 = q at *
  generalize val32 (L.set (i + k) r) = V1 at *
  generalize val32 L = V0 at *
  generalize val32 (ys.take k) = Y at *
  rw [e2] at hs h4 ⊢
  generalize 4294967296 ^ i = p at *
  generalize 4294967296 ^ k = t at *
  have e3 : p * t * (r + 4294967296 * q) = p * t * (xi * y + d + c) := by rw [hdm, hS]
  grind
theorem mulIn_start {N m i V xi : Nat} {ys L : List Nat} (h1 : L.length = N) (h2 : Fit32 L) (h3 : val32 L = V) (h4 : ∀ j, i + m ≤ j → L.getD j 0 = 0) : MulIn N m i V xi ys L 0 0 :=
  ⟨h1, h2, by decide, by simp [h3, val32], h4⟩
theorem mulIn_end {N m i xi : Nat} {xs ys L : List Nat} {c : Nat} (h : MulIn N m i (val32 (xs.take i) * val32 ys) xi ys L m c) (hm : ys.length = m) (hxi : xi = xs.getD i 0) (hN : i + m < N) :
    (L.set (i + m) c).length = N ∧ Fit32 (L.set (i + m) c) ∧ val32 (L.set (i + m) c) = val32 (xs.take (i + 1)) * val32 ys ∧ ∀ j, i + 1 + m ≤ j → (L.set (i + m) c).getD j 0 = 0 := by
  obtain ⟨h1, h2, h3, h4, h5⟩ := h
  refine ⟨by rw [List.length_set, h1], fit32_set h2 _ _ h3, ?_, fun j hj => by rw [getD_set_ne _ _ _ _ (by omega)]; exact h5 j (by omega)⟩
  have hs := val32_set L (i + m) c (by omega)
  rw [h5 (i + m) (Nat.le_refl _), Nat.mul_zero, Nat.add_zero] at hs
  have e : ys.take m = ys := List.take_of_length_le (by omega)
  rw [hs, h4, e, val32_take_getD, ← hxi, Nat.add_mul]
  congr 1
  rw [Nat.mul_comm xi]

theorem Blk.cellD {w : World} {g : Nat} {L : List Nat} (h : Blk w g L) (i : Nat) (hi : i < L.length) : w.cell? ⟨g, i, none⟩ = some (u64v (L.getD i 0)) := by
  rw [h.cell i hi, List.getD_eq_getElem?_getD, List.getElem?_eq_getElem hi]
  rfl
theorem val32_zeros (n : Nat) : val32 (List.replicate n 0) = 0 := by
  induction n with
  | zero => rfl
  | succ n ih => rw [List.replicate_succ, val32_cons, ih]

set_option maxHeartbeats 4000000 in
theorem refMul_any (A B : Option Addr) (n c n' c' : Nat) (xs ys : List Nat) (w : World) (h : Sl w A n c xs) (h' : Sl w B n' c' ys) (hn : n ≤ 1099511627776) (hn' : n' ≤ 1099511627776) :
    Calls Try.prog 22 #[.slice A n c, .slice B n' c'] w fun e w' =>
      ∃ C m d, e = .returned (.slice C m d) ∧ Sl w' C m d (nrm (val xs * val ys)) ∧ Below w.heap.size w w' := by
  have H := Lib.hid h
  have H' := Lib.hid h'
  clear h h'
  go_enter Try.func22, Try.ntmps22
  go_wp2_with fail
  refine (digits_any A n c xs w H.out (by omega)).mono ?_
  rintro e w1 ⟨X, p, d1, rfl, hX, hp, hb1⟩
  go_wp2_with fail
  refine (digits_any B n' c' ys w1 (H'.out.below hb1) (by omega)).mono ?_
  rintro e w2 ⟨Y, q, d2, rfl, hY, hq, hb2⟩
  have hX2 := hX.below hb2
  have hb12 : Below w.heap.size w w2 := hb1.trans (hb2.mono hb1.size)
  have hfx := fit32_d32 (val xs)
  have hfy := fit32_d32 (val ys)
  have hvx := val32_d32 (val xs)
  have hvy := val32_d32 (val ys)
  generalize d32 (val xs) = dx at *
  generalize d32 (val ys) = dy at *
  have HVX := Lib.hid hvx
  have HVY := Lib.hid hvy
  have HX := Lib.hid hX2
  have HY := Lib.hid hY
  have HFX := Lib.hid hfx
  have HFY := Lib.hid hfy
  have hszw := hb12.size
  clear hX hX2 hY hfx hfy hvx hvy hb1 hb2
  obtain ⟨N, hNe⟩ : ∃ N, N = p + q := ⟨_, rfl⟩
  have hN1 : p + q ≤ N := by omega
  have hN2 : N ≤ p + q := by omega
  have HNE := Lib.hid hNe
  clear hNe
  go_wp2_with (at_make; refine wpList_make_limbs _ rfl _ _ rfl _ _ _ _ N rfl rfl (by rw [HNE.out]; omega) (by rw [HNE.out]; omega) (by omega) ?_; intro w3 hk3 hb3)
  have HK3 := Lib.hid hk3
  clear hk3
  go_loopw [8] (fun i wr => ∃ t : Nat, t ≤ p ∧ i = .int .i64 t ∧ ∃ L, Blk wr w2.heap.size L ∧ (L.length = N ∧ Fit32 L ∧ val32 L = val32 (dx.take t) * val32 dy ∧ ∀ j, t + q ≤ j → L.getD j 0 = 0) ∧ Below w2.heap.size w2 wr) (fun i _ => p - (intOf i).toNat)
  case atStart => exact ⟨0, Nat.zero_le _, rfl, _, HK3.out, ⟨by simp, fun x hx => by rw [List.eq_of_mem_replicate hx]; decide, by rw [val32_zeros]; simp [val32], fun j _ => by rw [List.getD_eq_getElem?_getD]; by_cases hj : j < N <;> simp [hj]⟩, hb3⟩
  case round =>
    obtain ⟨t, ht, rfl, L, hL, hLp, hbel⟩ := hrel
    clear HK3 hb3
    by_cases hlt : t < p
    · have HL := Lib.hid hL
      have HLP := Lib.hid hLp
      have HB := Lib.hid hbel
      clear hL hLp hbel
      go_wp2_with fail
      go_loopw [10, 9] (fun k cr wq => ∃ u cc : Nat, u ≤ q ∧ k = .int .i64 u ∧ cr = u64v cc ∧ ∃ M, Blk wq w2.heap.size M ∧ MulIn N q t (val32 (dx.take t) * val32 dy) (dx.getD t 0) dy M u cc ∧ Below w2.heap.size w2 wq) (fun k _ _ => q - (intOf k).toNat)
      case atStart => exact ⟨0, 0, Nat.zero_le _, rfl, rfl, L, HL.out, mulIn_start HLP.out.1 HLP.out.2.1 HLP.out.2.2.1 HLP.out.2.2.2, HB.out⟩
      case round =>
        obtain ⟨u, cc, hu, rfl, rfl, M, hM, hIn, hbel⟩ := hrel
        by_cases hlt2 : u < q
        · obtain ⟨b, o, rfl, hbl, hcx⟩ := HX.out.at_ (by omega)
          obtain ⟨b', o', rfl, hbl', hcy⟩ := HY.out.at_ (by omega)
          have h1 := hcx t hlt
          have h2 := hcy u hlt2
          rw [← hbel.cell (p := ⟨b, o + t, none⟩) hbl] at h1
          rw [← hbel.cell (p := ⟨b', o' + u, none⟩) hbl'] at h2
          have h3 := hM.cellD (t + u) (by rw [hIn.1]; omega)
          have h3f := hM.frozen (t + u)
          have hstep := mulIn_step hIn (fit32_getD HFX.out t) HFY.out hlt2 (by omega)
          have hset := hM.set_ (t + u) ((dx.getD t 0 * dy.getD u 0 + M.getD (t + u) 0 + cc) % 4294967296) (by omega)
          have f1 := fit32_getD HFX.out t
          have f2 := fit32_getD HFY.out u
          have f3 := fit32_getD hIn.2.1 (t + u)
          have f4 := hIn.2.2.1
          have fb : dx.getD t 0 * dy.getD u 0 ≤ 4294967295 * 4294967295 := Nat.mul_le_mul (by omega) (by omega)
          obtain ⟨P, hP⟩ : ∃ P, P = dx.getD t 0 * dy.getD u 0 := ⟨_, rfl⟩
          rw [← hP] at hstep hset fb
          obtain ⟨xt, hxt⟩ : ∃ xt, xt = dx.getD t 0 := ⟨_, rfl⟩
          obtain ⟨yu, hyu⟩ : ∃ yu, yu = dy.getD u 0 := ⟨_, rfl⟩
          obtain ⟨dd, hdd⟩ : ∃ dd, dd = M.getD (t + u) 0 := ⟨_, rfl⟩
          rw [← hxt] at h1 hP f1
          rw [← hyu] at h2 hP f2
          rw [← hdd] at h3 hstep hset f3
          have hmul : IntKind.u64.wrap ((xt : Int) * (yu : Int)) = (P : Int) := by
            rw [hP, IntKind.wrap_u64, ← Int.natCast_mul, ← hP]; omega
          have hadd : IntKind.u64.wrap ((P : Int) + (dd : Int)) = (P : Int) + (dd : Int) := by rw [IntKind.wrap_u64]; omega
          have hadd2 : IntKind.u64.wrap ((P : Int) + (dd : Int) + (cc : Int)) = (P : Int) + (dd : Int) + (cc : Int) := by rw [IntKind.wrap_u64]; omega
          have hsum : IntKind.i64.wrap ((t : Int) + (u : Int)) = (t : Int) + (u : Int) := by rw [IntKind.wrap_i64]; omega
          have hand : bits .and .u64 ((P : Int) + (dd : Int) + (cc : Int)) 4294967295 = (((P + dd + cc) % 4294967296 : Nat) : Int) := by
            have := and32 (P + dd + cc) (by omega)
            rw [← this]; rfl
          have i1 : (0 : Int) ≤ (t : Int) := by omega
          have i2 : (t : Int) < (p : Int) := by omega
          have i3 : (0 : Int) ≤ (u : Int) := by omega
          have i4 : (u : Int) < (q : Int) := by omega
          have i5 : (0 : Int) ≤ (t : Int) + (u : Int) := by omega
          have i6 : (t : Int) + (u : Int) < (N : Int) := by omega
          have i7 : ((t : Int) + (u : Int)).toNat = t + u := by omega
          have HST := Lib.hid hstep
          have HSE := Lib.hid hset
          have HB2 := Lib.hid hbel
          have HXT := Lib.hid hxt
          clear hcx hcy hstep hset hbel hP hxt hyu hdd hM hIn fb f1 f2 f3 f4
          go_wp2_with fail
          go_quiet (fail)
          go_wp2_with fail
          go_roundw
          case rel => exact ⟨u + 1, (P + dd + cc) / 4294967296, by omega, by go_num, rfl, _, HSE.out, HST.out, (below_drewN HB2.out _).setCell (p := ⟨w2.heap.size, t + u, none⟩) (Nat.le_refl _) _⟩
          case measure => simp [intOf]; omega
        · obtain rfl : u = q := by omega
          have hyl : dy.length = u := HY.out.len.symm
          have hend := mulIn_end hIn hyl rfl (by omega)
          have h3 := hM.cellD (t + u) (by rw [hIn.1]; omega)
          have h3f := hM.frozen (t + u)
          have hset := hM.set_ (t + u) cc (by have := hIn.2.2.1; omega)
          have HSE := Lib.hid hset
          have HEN := Lib.hid hend
          have HB2 := Lib.hid hbel
          clear hset hend hbel hM hIn hyl
          have i1 : (0 : Int) ≤ (t : Int) := by omega
          have i6 : (t : Int) + (u : Int) < (N : Int) := by omega
          go_wp2_with fail
          go_roundw
          case rel => exact ⟨t + 1, by omega, by go_num, _, HSE.out, HEN.out, HB2.out.setCell (p := ⟨w2.heap.size, t + u, none⟩) (Nat.le_refl _) _⟩
          case measure => simp [intOf]; omega
    · obtain rfl : t = p := by omega
      have hv := hLp.2.2.1
      rw [List.take_of_length_le (by rw [← HX.out.len]; exact Nat.le_refl _), HVX.out, HVY.out] at hv
      have hs := hL.sl (by rw [hLp.1]; omega)
      have T := limbs_any _ _ _ L wr hs hLp.2.1 (by rw [hLp.1]; omega)
      rw [hLp.1, hv] at T
      have TT := Lib.hid T
      clear T hs hv hL hLp
      go_wp2_with (go_at_call 33; refine TT.out.mono ?_; rintro e w5 ⟨C, m, d, rfl, hs, hb⟩)
      go_ret
      exact ⟨C, m, d, rfl, hs, hb12.trans ((hbel.mono hszw).trans (hb.mono (Nat.le_trans hszw hbel.size)))⟩
end Go.Proofs.Ytmajmpgcdpbnfaa
