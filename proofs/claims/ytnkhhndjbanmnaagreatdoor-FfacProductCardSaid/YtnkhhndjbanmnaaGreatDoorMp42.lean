/- Texts joined, in their order: FaRef, BerJ, BerL, FaStep, FaCost, FaGr, BerI. -/
import Derived.StillTailTactics
import Derived.Test.YtnkhhndjbanmnaaGreatDoorMp41

/- The document's small functions of layer 9 by contract: Less, Wrong. -/
namespace Go.Proofs.YtnkhhndjbanmnaaGreatDoor
open Go.RowKit Go.Shelf Go.Lib

def ltB (xs ys : List Int) : Bool := decide (ordI xs ys < 0)
theorem ltB_iff {xs ys : List Int} : ltB xs ys = true ↔ Ahd xs ys := by
  unfold ltB
  rw [decide_eq_true_iff]
  exact ahd_lt.symm
theorem ltB_len {xs ys : List Int} (h : xs.length ≠ ys.length) : ltB xs ys = decide (xs.length < ys.length) := by
  unfold ltB ordI
  rw [if_neg h]
  have := cmpZ_cases (xs.length : Int) (ys.length : Int)
  by_cases e : xs.length < ys.length
  · rw [decide_eq_true e, decide_eq_true (by omega)]
  · rw [decide_eq_false e, decide_eq_false (by omega)]
theorem ltB_at {xs ys : List Int} (h : xs.length = ys.length) {i : Nat} (hi : i < xs.length) (he : ∀ j, i < j → j < xs.length → cf xs j = cf ys j) (hne : cf xs i ≠ cf ys i) : ltB xs ys = decide (cf xs i < cf ys i) := by
  unfold ltB ordI
  rw [if_pos h, ordN_at xs.length hi he hne]
  have := cmpZ_cases (cf xs i) (cf ys i)
  by_cases e : cf xs i < cf ys i
  · rw [decide_eq_true e, decide_eq_true (by omega)]
  · rw [decide_eq_false e, decide_eq_false (by omega)]
theorem ltB_same {xs ys : List Int} (h : xs.length = ys.length) (he : ∀ j, j < xs.length → cf xs j = cf ys j) : ltB xs ys = false := by
  unfold ltB ordI
  rw [if_pos h, ordN_all he]
  decide
set_option maxRecDepth 100000 in
set_option maxHeartbeats 1000000 in
theorem rLess9 (A B : Option Addr) (n c n' c' : Nat) (xs ys : List Int) (w : World) (h : ISl w A n c xs) (h' : ISl w B n' c' ys) (hn : n ≤ 17592186044416) :
    Calls Tryz.prog 21 #[.slice A n c, .slice B n' c'] w fun e w' => e = .returned (.bool (ltB xs ys)) ∧ Below w.heap.size w w' := by
  have hle := h.le
  have hmx := h.max
  have hle' := h'.le
  have hmx' := h'.max
  have H := Lib.hid h
  have H' := Lib.hid h'
  have LX := Lib.hid h.len
  have LY := Lib.hid h'.len
  clear h h'
  by_cases hnm : n = n'
  · subst hnm
    have hne : ((n : Int) != (n : Int)) = false := by simp
    go_enter Tryz.func21, Tryz.ntmps21
    go_wp2
    go_loopw [5] (fun i wr => ∃ k q : Nat, k ≤ n ∧ i = .int .i64 ((k : Int) - 1) ∧ wr = w.drewN q ∧ Hid (∀ j, k ≤ j → j < n → cf xs j = cf ys j)) (fun i _ => (intOf i + 1).toNat)
    case atStart => exact ⟨n, 0, Nat.le_refl _, rfl, rfl, Lib.hid fun j h1 h2 => by omega⟩
    case round =>
      obtain ⟨k, q, hk, rfl, rfl, HE⟩ := hrel
      rcases Nat.eq_zero_or_pos k with rfl | hk0
      · have E0 := Lib.hid (ltB_same (xs := xs) (ys := ys) (by rw [← LX.out, ← LY.out]) fun j hj => HE.out j (Nat.zero_le _) (by rw [LX.out]; exact hj))
        rw [show ((0 : Nat) : Int) - 1 = -1 by decide]
        go_wp2
        go_ret
        exact ⟨by rw [E0.out]; rfl, ibelow_drewN (Below.refl _ _) q⟩
      · obtain ⟨t, rfl⟩ : ∃ t, k = t + 1 := ⟨k - 1, by omega⟩
        obtain ⟨b, o, rfl, hl1, hca⟩ := H.out.cf_ (by omega)
        obtain ⟨b', o', rfl, hl2, hcb⟩ := H'.out.cf_ (by omega)
        have h1 := hca t (by omega)
        have h2 := hcb t (by omega)
        rw [show ((t + 1 : Nat) : Int) - 1 = (t : Int) by omega]
        have i1 : (0 : Int) ≤ (t : Int) := by omega
        have i2 : (t : Int) < (n : Int) := by omega
        have AT := Lib.hid (fun hne => ltB_at (xs := xs) (ys := ys) (i := t) (by rw [← LX.out, ← LY.out]) (by rw [← LX.out]; omega) (fun j h3 h4 => HE.out j (by omega) (by rw [LX.out]; exact h4)) hne)
        have HJ := Lib.hid (fun e j (e2 : j = t) => (show cf xs j = cf ys j by rw [e2]; exact e))
        by_cases hxy : cf xs t = cf ys t
        · have HJ2 := Lib.hid (HJ.out hxy)
          have hne2 : (cf xs t != cf ys t) = false := by simp [hxy]
          clear AT HJ hxy hca hcb
          generalize cf xs t = x at *
          generalize cf ys t = y at *
          go_wp2
          go_quiet (fail)
          go_wp2
          go_roundw
          case rel => exact ⟨t, _, by omega, by go_num, rfl, Lib.hid fun j h3 h4 => by
            by_cases e : j = t
            · exact HJ2.out j e
            · exact HE.out j (by omega) h4⟩
          case measure => simp [intOf]
        · have E1 := Lib.hid (AT.out hxy)
          have hne2 : (cf xs t != cf ys t) = true := by simp [hxy]
          clear AT HJ hxy hca hcb
          generalize cf xs t = x at *
          generalize cf ys t = y at *
          go_wp2
          go_quiet (fail)
          go_wp2
          go_quiet (fail)
          go_wp2
          go_ret
          exact ⟨by rw [E1.out]; rfl, ibelow_drewN (ibelow_drewN (ibelow_drewN (Below.refl _ _) _) _) _⟩
  · have hne : ((n : Int) != (n' : Int)) = true := by simp; omega
    have E := Lib.hid (ltB_len (xs := xs) (ys := ys) (by rw [← LX.out, ← LY.out]; exact hnm))
    rw [E.out, ← LX.out, ← LY.out]
    clear E LX LY
    go_enter Tryz.func21, Tryz.ntmps21
    go_wp2
    go_ret
    exact ⟨rfl, Below.refl _ _⟩

theorem pol_mon_len {p : Int} {xs ys : List Int} (hp : Pr p) (hb : ¬ Ser.Bd p (cf xs) 0) (h : Pol p ys (cf xs)) : ys.length = (monL p (cf xs)).length ∧ 1 ≤ ys.length := by
  obtain ⟨m, hm⟩ := last_of hb (fini_cf p xs)
  have h1 := (mn_mon hp hm).2.1
  have h2 := pol_len (by have := hp.1; omega) h hm.1 hm.2
  omega
set_option maxRecDepth 100000 in
set_option maxHeartbeats 1000000 in
theorem rWrong9 (A : Option Addr) (n c : Nat) (xs : List Int) (p : Int) (w : World) (h : ISl w A n c xs) (ip : In64 p) (hn : n ≤ 17592186044416) :
    Calls Tryz.prog 11 #[.slice A n c, .int .i64 p] w fun e w' => e = .returned (.int .i64 (eff p (cf xs))) ∧ Below w.heap.size w w' := by
  have C := refCheck_any p w ip.1 ip.2
  rcases eff_cases p (cf xs) with ⟨hp, hb, hl, he⟩ | ⟨he, hp⟩ | ⟨he, hp, hb⟩ | ⟨he, hp, hb, hl⟩
  · rw [chk_yes (primB_yes hp)] at C
    have CC := Lib.hid C
    have PL := Lib.hid (plain_big A n c xs p w h hp.md (by omega))
    have NZ := Lib.hid (fun ys (k : Pol p ys (cf xs)) => (show ys.length ≠ 0 ∧ ys.length ≤ 65 by have := pol_mon_len hp hb k; omega))
    rw [he]
    clear C h ip hp hb hl he
    go_enter Tryz.func11, Tryz.ntmps11
    go_wp2_with (first
      | (go_at_call 30; (with_reducible refine CC.out.mono ?_); rintro e w1 ⟨rfl, rfl⟩)
      | (go_at_call 23; (with_reducible refine PL.out.mono ?_); rintro e w2 ⟨v, rfl, C2, m2, d2, ys, rfl, hi, hpl, -, -, hb2⟩; have hm : ((m2 : Int) == 0) = false := (by { have h1 := hi.len; have h2 := (NZ.out ys hpl).1; simp; omega }); have hm2 : ¬ (65 : Int) < (m2 : Int) := (by { have h1 := hi.len; have h2 := (NZ.out ys hpl).2; omega }); have HB := Lib.hid hb2; clear hi hpl hb2))
    go_ret
    exact ⟨rfl, HB.out⟩
  · rw [chk_no (primB_no hp)] at C
    have CC := Lib.hid C
    rw [he]
    clear C h ip hp he
    go_enter Tryz.func11, Tryz.ntmps11
    go_wp2_with (go_at_call 30; (with_reducible refine CC.out.mono ?_); rintro e w1 ⟨rfl, rfl⟩)
    go_ret
    exact ⟨rfl, Below.refl _ _⟩
  · rw [chk_yes (primB_yes hp)] at C
    have CC := Lib.hid C
    have PL := Lib.hid (plain_big A n c xs p w h hp.md (by omega))
    have NZ := Lib.hid (fun ys (k : Pol p ys (cf xs)) => (k.nought (by have := hp.1; omega)).2 hb)
    rw [he]
    clear C h ip hp hb he
    go_enter Tryz.func11, Tryz.ntmps11
    go_wp2_with (first
      | (go_at_call 30; (with_reducible refine CC.out.mono ?_); rintro e w1 ⟨rfl, rfl⟩)
      | (go_at_call 23; (with_reducible refine PL.out.mono ?_); rintro e w2 ⟨v, rfl, C2, m2, d2, ys, rfl, hi, hpl, -, -, hb2⟩; obtain rfl : m2 = 0 := by { have := hi.len; rw [NZ.out ys hpl] at this; exact this }; have HB := Lib.hid hb2; clear hi hpl hb2))
    go_ret
    exact ⟨rfl, HB.out⟩
  · rw [chk_yes (primB_yes hp)] at C
    have CC := Lib.hid C
    have PL := Lib.hid (plain_big A n c xs p w h hp.md (by omega))
    have NZ := Lib.hid (fun ys (k : Pol p ys (cf xs)) => (show ¬ ys.length ≤ 65 by have := pol_mon_len hp hb k; omega))
    rw [he]
    clear C h ip hp hb hl he
    go_enter Tryz.func11, Tryz.ntmps11
    go_wp2_with (first
      | (go_at_call 30; (with_reducible refine CC.out.mono ?_); rintro e w1 ⟨rfl, rfl⟩)
      | (go_at_call 23; (with_reducible refine PL.out.mono ?_); rintro e w2 ⟨v, rfl, C2, m2, d2, ys, rfl, hi, hpl, -, -, hb2⟩; have hm : ((m2 : Int) == 0) = false := (by { have h1 := hi.len; have h2 := NZ.out ys hpl; simp; omega }); have hm2 : (65 : Int) < (m2 : Int) := (by { have h1 := hi.len; have h2 := NZ.out ys hpl; omega }); have HB := Lib.hid hb2; clear hi hpl hb2))
    go_ret
    exact ⟨rfl, HB.out⟩
end Go.Proofs.YtnkhhndjbanmnaaGreatDoor

/- A factor more among factors in order. Mathematics alone. -/
namespace Go.Proofs.YtnkhhndjbanmnaaGreatDoor
open Ser (Bd)

theorem vn_cons (p : Int) (q : Ser) (x : List Int × Nat) (L : PL) : vn p q (x :: L) = x.2 * V p (cf x.1) q + vn p q L := rfl
theorem put_same {p : Int} {T D : PL} {f : List Int} {N : Nat} (h : Fct p (T ++ (f, N) :: D)) : Fct p (T ++ (f, N + 1) :: D) ∧ ∀ q, vn p q (T ++ (f, N + 1) :: D) = vn p q (T ++ (f, N) :: D) + V p (cf f) q := by
  refine ⟨⟨fun x hx => ?_, ?_⟩, fun q => ?_⟩
  · rcases List.mem_append.1 hx with hx | hx
    · exact h.own x (List.mem_append.2 (.inl hx))
    · rcases List.mem_cons.1 hx with rfl | hx
      · obtain ⟨a1, a2, a3, _⟩ := h.own (f, N) (List.mem_append.2 (.inr (List.mem_cons_self ..)))
        exact ⟨a1, a2, a3, Nat.le_add_left 1 N⟩
      · exact h.own x (List.mem_append.2 (.inr (List.mem_cons_of_mem _ hx)))
  · have hu := h.up
    rw [List.pairwise_append, List.pairwise_cons] at hu ⊢
    obtain ⟨u1, ⟨u2, u3⟩, u4⟩ := hu
    refine ⟨u1, ⟨u2, u3⟩, fun a ha b hb => ?_⟩
    rcases List.mem_cons.1 hb with rfl | hb
    · exact u4 a ha (f, N) (List.mem_cons_self ..)
    · exact u4 a ha b (List.mem_cons_of_mem _ hb)
  · rw [vn_append, vn_append, vn_cons, vn_cons]
    show vn p q T + ((N + 1) * V p (cf f) q + vn p q D) = vn p q T + (N * V p (cf f) q + vn p q D) + V p (cf f) q
    rw [Nat.succ_mul]
    omega
theorem put_new {p : Int} {T D : PL} {f : List Int} (h : Fct p (T ++ D)) (h1 : Mn p f) (h2 : 2 ≤ f.length) (h3 : Irr p (cf f)) (hT : ∀ x ∈ T, Ahd x.1 f) (hD : ∀ y D', D = y :: D' → ¬ Ahd y.1 f ∧ y.1 ≠ f) : Fct p (T ++ [(f, 1)] ++ D) ∧ ∀ q, vn p q (T ++ [(f, 1)] ++ D) = vn p q (T ++ D) + V p (cf f) q := by
  have hu := h.up
  rw [List.pairwise_append] at hu
  obtain ⟨u1, u2, u4⟩ := hu
  have hf : ∀ y ∈ D, Ahd f y.1 := by
    cases D with
    | nil => exact fun y hy => (List.not_mem_nil hy).elim
    | cons z D' =>
      obtain ⟨e1, e2⟩ := hD z D' rfl
      have hz : Ahd f z.1 := by
        rcases ahd_tri f z.1 with k | k | k
        · exact k
        · exact absurd k.symm e2
        · exact absurd k e1
      intro y hy
      rcases List.mem_cons.1 hy with rfl | hy
      · exact hz
      · rw [List.pairwise_cons] at u2
        exact ordI_trans hz (u2.1 y hy)
  refine ⟨⟨fun x hx => ?_, ?_⟩, fun q => ?_⟩
  · rcases List.mem_append.1 hx with hx | hx
    · rcases List.mem_append.1 hx with hx | hx
      · exact h.own x (List.mem_append.2 (.inl hx))
      · rw [List.mem_singleton.1 hx]
        exact ⟨h1, h2, h3, Nat.le_refl _⟩
    · exact h.own x (List.mem_append.2 (.inr hx))
  · rw [List.append_assoc, List.pairwise_append]
    refine ⟨u1, ?_, fun a ha b hb => ?_⟩
    · show List.Pairwise _ ((f, 1) :: D)
      rw [List.pairwise_cons]
      exact ⟨hf, u2⟩
    · rcases List.mem_cons.1 (show b ∈ (f, 1) :: D from hb) with rfl | hb
      · exact hT a ha
      · exact u4 a ha b hb
  · rw [vn_append, vn_append, vn_append, vn_cons]
    show vn p q T + (1 * V p (cf f) q + 0) + vn p q D = _
    omega
end Go.Proofs.YtnkhhndjbanmnaaGreatDoor

/- All rows of residues of a length, one behind the other. Mathematics alone. -/
namespace Go.Proofs.YtnkhhndjbanmnaaGreatDoor

def num (p : Int) : List Int → Int
  | [] => 0
  | x :: xs => x + p * num p xs
def inc (p : Int) : List Int → List Int × Bool
  | [] => ([], false)
  | x :: xs => if x + 1 < p then ((x + 1) :: xs, true) else (0 :: (inc p xs).1, (inc p xs).2)
def Dig (p : Int) (xs : List Int) : Prop := ∀ x ∈ xs, 0 ≤ x ∧ x < p
theorem inc_len (p : Int) : ∀ xs : List Int, (inc p xs).1.length = xs.length
  | [] => rfl
  | x :: xs => by
    unfold inc
    split
    · rfl
    · simp [inc_len p xs]
theorem inc_dig {p : Int} (hp : 1 ≤ p) : ∀ {xs : List Int}, Dig p xs → Dig p (inc p xs).1
  | [], _ => fun _ h => (List.not_mem_nil h).elim
  | x :: xs, h => by
    have hx := h x (List.mem_cons_self ..)
    have hs : Dig p xs := fun y hy => h y (List.mem_cons_of_mem _ hy)
    unfold inc
    split
    · intro y hy
      rcases List.mem_cons.1 hy with rfl | hy
      · omega
      · exact hs y hy
    · intro y hy
      rcases List.mem_cons.1 hy with rfl | hy
      · omega
      · exact inc_dig hp hs y hy
theorem num_nonneg {p : Int} (hp : 1 ≤ p) : ∀ {xs : List Int}, Dig p xs → 0 ≤ num p xs
  | [], _ => Int.le_refl _
  | x :: xs, h => by
    have hx := h x (List.mem_cons_self ..)
    have hs := num_nonneg hp (xs := xs) fun y hy => h y (List.mem_cons_of_mem _ hy)
    have := Int.mul_nonneg (show (0 : Int) ≤ p by omega) hs
    unfold num
    omega
theorem inc_num {p : Int} (hp : 1 ≤ p) : ∀ {xs : List Int}, Dig p xs → (inc p xs).2 = true → num p (inc p xs).1 = num p xs + 1
  | [], _, h => by cases h
  | x :: xs, h, hb => by
    have hx := h x (List.mem_cons_self ..)
    have hs : Dig p xs := fun y hy => h y (List.mem_cons_of_mem _ hy)
    unfold inc at hb ⊢
    split at hb
    · rename_i hlt
      rw [if_pos hlt]
      show x + 1 + p * num p xs = x + p * num p xs + 1
      omega
    · rename_i hlt
      rw [if_neg hlt]
      show 0 + p * num p (inc p xs).1 = x + p * num p xs + 1
      rw [inc_num hp hs hb, Int.mul_add]
      omega
theorem inc_last {p : Int} (hp : 1 ≤ p) : ∀ {xs : List Int}, Dig p xs → (inc p xs).2 = false → ∀ ys : List Int, ys.length = xs.length → Dig p ys → num p ys ≤ num p xs
  | [], _, _, ys, hl, _ => by
    rw [List.eq_nil_of_length_eq_zero hl]
    exact Int.le_refl _
  | x :: xs, h, hb, ys, hl, hd => by
    have hx := h x (List.mem_cons_self ..)
    have hs : Dig p xs := fun y hy => h y (List.mem_cons_of_mem _ hy)
    cases ys with
    | nil => simp at hl
    | cons y ys =>
      have hy := hd y (List.mem_cons_self ..)
      have hys : Dig p ys := fun z hz => hd z (List.mem_cons_of_mem _ hz)
      unfold inc at hb
      split at hb
      · cases hb
      · have := inc_last hp hs hb ys (by simpa using hl) hys
        have := Int.mul_le_mul_of_nonneg_left this (show (0 : Int) ≤ p by omega)
        show y + p * num p ys ≤ x + p * num p xs
        omega
theorem num_inj {p : Int} (hp : 1 ≤ p) : ∀ {xs ys : List Int}, xs.length = ys.length → Dig p xs → Dig p ys → num p xs = num p ys → xs = ys
  | [], [], _, _, _, _ => rfl
  | [], _ :: _, h, _, _, _ => by simp at h
  | _ :: _, [], h, _, _, _ => by simp at h
  | x :: xs, y :: ys, hl, h, k, e => by
    have hx := h x (List.mem_cons_self ..)
    have hy := k y (List.mem_cons_self ..)
    have e : x + p * num p xs = y + p * num p ys := e
    have e1 : x = y := by
      have h1 := congrArg (· % p) e
      simp only [Int.add_mul_emod_self_left] at h1
      rwa [Int.emod_eq_of_lt hx.1 hx.2, Int.emod_eq_of_lt hy.1 hy.2] at h1
    subst e1
    have e2 : num p xs = num p ys := Int.eq_of_mul_eq_mul_left (a := p) (by omega) (by omega)
    rw [num_inj hp (by simpa using hl) (fun z hz => h z (List.mem_cons_of_mem _ hz)) (fun z hz => k z (List.mem_cons_of_mem _ hz)) e2]
theorem num_zero (p : Int) : ∀ n, num p (List.replicate n 0) = 0
  | 0 => rfl
  | n + 1 => by
    rw [List.replicate_succ]
    show 0 + p * num p (List.replicate n 0) = 0
    rw [num_zero p n]; simp
end Go.Proofs.YtnkhhndjbanmnaaGreatDoor

/- The document's step of layer 9 by contract: the next row of residues. -/
namespace Go.Proofs.YtnkhhndjbanmnaaGreatDoor
open Go.RowKit Go.Shelf Go.Lib

structure Stp (p : Int) (ds : List Int) (j : Nat) (rs : List Int) : Prop where
  len : j + rs.length = ds.length
  eq : inc p ds = (List.replicate j 0 ++ (inc p rs).1, (inc p rs).2)
  dig : Dig p rs
theorem stp_next {p : Int} {ds rs : List Int} {j : Nat} {x : Int} (h : Stp p ds j (x :: rs)) (hx : ¬ x + 1 < p) : Stp p ds (j + 1) rs := by
  have he := h.eq
  unfold inc at he
  rw [if_neg hx] at he
  refine ⟨by have := h.len; rw [List.length_cons] at this; omega, ?_, fun y hy => h.dig y (List.mem_cons_of_mem _ hy)⟩
  rw [show inc p ds = _ from (show inc p ds = _ from by conv => lhs; unfold inc) ▸ he]
  rw [List.replicate_succ', List.append_assoc]; rfl
set_option maxRecDepth 100000 in
set_option maxHeartbeats 1000000 in
theorem rStep (g n : Nat) (p : Int) (ds : List Int) (w : World) (hb : IBlk w g (ds ++ [1])) (hn : n = ds.length + 1) (hd : Dig p ds) (hp : 1 ≤ p) (hp2 : p ≤ 65521) (hn2 : n ≤ 1000) :
    Calls Tryz.prog 45 #[.slice (some ⟨g, 0, none⟩) n n, .int .i64 p] w fun e w' => e = .returned (.bool (inc p ds).2) ∧ IBlk w' g ((inc p ds).1 ++ [1]) ∧ w.grownBy w' (some g) := by
  have HB := Lib.hid hb
  have HN := Lib.hid hn
  have HD := Lib.hid hd
  clear hb hd hn
  go_enter Tryz.func45, Tryz.ntmps45
  go_wp2_with fail
  go_loopw [5] (fun i wr => ∃ (j : Nat) (rs : List Int), j < n ∧ i = .int .i64 (j : Int) ∧ Hid (Stp p ds j rs) ∧ Hid (IBlk wr g (List.replicate j 0 ++ (rs ++ [1]))) ∧ Hid (w.grownBy wr (some g))) (fun i _ => n - (intOf i).toNat)
  case atStart => exact ⟨0, ds, by have := HN.out; omega, rfl, Lib.hid ⟨by simp, rfl, HD.out⟩, HB, Lib.hid ⟨rfl, rfl, rfl, Nat.le_refl _, fun _ _ _ => rfl⟩⟩
  case round =>
    obtain ⟨j, rs, hj, rfl, ST, IB, GR⟩ := hrel
    obtain ⟨wo, rfl⟩ : ∃ wo, wo = wr := ⟨wr, rfl⟩
    cases rs with
    | nil =>
      have hlast : ¬ (j : Int) + 1 < (n : Int) := by have := ST.out.len; have := HN.out; rw [List.length_nil] at *; omega
      have EQ := Lib.hid ST.out.eq
      go_wp2_with fail
      go_ret
      refine ⟨by rw [EQ.out]; rfl, ?_, GR.out⟩
      have := IB.out
      rw [EQ.out]
      simpa [inc] using this
    | cons x xs =>
      have hmore : (j : Int) + 1 < (n : Int) := by have := ST.out.len; have := HN.out; rw [List.length_cons] at *; omega
      have hx := ST.out.dig x (List.mem_cons_self ..)
      have hset : ∀ u : Int, (List.replicate j (0 : Int) ++ ((x :: xs) ++ [1])).set j u = List.replicate j 0 ++ ((u :: xs) ++ [1]) := fun u => by
        rw [List.set_append_right _ _ (by simp)]; simp
      have hset2 : ∀ u y : Int, (List.replicate j (0 : Int) ++ ((y :: xs) ++ [1])).set j u = List.replicate j 0 ++ ((u :: xs) ++ [1]) := fun u y => by
        rw [List.set_append_right _ _ (by simp)]; simp
      have c0 : wo.cell? ⟨g, j, none⟩ = some (.int .i64 x) := by
        have := IB.out.cellD j (by simp)
        simpa using this
      have f0 := IB.out.frozen j
      have k1 := IB.out.set_ j (x + 1) (by unfold In64; omega)
      rw [hset] at k1
      have c1 : (wo.setCell ⟨g, j, none⟩ (.int .i64 (x + 1))).cell? ⟨g, j, none⟩ = some (.int .i64 (x + 1)) := by
        have := k1.cellD j (by simp)
        simpa using this
      have f1 := k1.frozen j
      have k2 := k1.set_ j 0 (by unfold In64; omega)
      rw [hset2] at k2
      have K1 := Lib.hid k1
      have K2 := Lib.hid k2
      have G1 := Lib.hid (grown_set wo g j (.int .i64 (x + 1)))
      have G2 := Lib.hid (grown_set (wo.setCell ⟨g, j, none⟩ (.int .i64 (x + 1))) g j (.int .i64 0))
      have hg := IB.out.lt
      have i1 : (0 : Int) ≤ (j : Int) := by omega
      have i2 : (j : Int) < (n : Int) := by omega
      have hw : IntKind.i64.wrap (x + 1) = x + 1 := by rw [IntKind.wrap_i64]; omega
      clear k1 k2 hset hset2
      by_cases hlt : x + 1 < p
      · have EQ := Lib.hid ST.out.eq
        have E2 : Hid (inc p (x :: xs) = ((x + 1) :: xs, true)) := Lib.hid (by unfold inc; rw [if_pos hlt])
        go_wp2_with fail
        first
          | go_ret
          | (simp only [Exit.jump]; go_ret)
          | (rw [Exit.noGoto_ret]; go_ret)
        refine ⟨by rw [EQ.out, E2.out]; rfl, ?_, ?_⟩
        · rw [EQ.out, E2.out, List.append_assoc]; exact K1.out
        · exact GR.out.trans G1.out
      · have NX := Lib.hid (stp_next ST.out hlt)
        go_wp2_with fail
        go_roundw
        case rel => exact ⟨j + 1, xs, by omega, by go_num, NX, Lib.hid (by have := K2.out; rw [List.replicate_succ', List.append_assoc]; exact this), Lib.hid ((GR.out.trans G1.out).trans G2.out)⟩
        case measure => simp [intOf]; omega
end Go.Proofs.YtnkhhndjbanmnaaGreatDoor

/- The law's cheap of layer 9 by contract: that it answers, and how long a row it takes. -/
namespace Go.Proofs.YtnkhhndjbanmnaaGreatDoor
open Go.RowKit Go.Shelf Go.Lib

set_option maxRecDepth 100000 in
set_option maxHeartbeats 1000000 in
theorem rCost (A : Option Addr) (n c : Nat) (p : Int) (w : World) (hp : 2 ≤ p) (hp2 : p ≤ 65521) (hn : n ≤ 1000) :
    Calls Tryz.prog 42 #[.slice A n c, .int .i64 p, .int .i64 1500] w fun e w' => (∃ z, e = .returned (.int .i64 z)) ∧ Below w.heap.size w w' := by
  go_enter Tryz.func42, Tryz.ntmps42
  go_wp2_with fail
  go_loopw [7, 8] (fun u v wr => ∃ (z : Int) (d : Nat), u = .int .i64 z ∧ v = .int .i64 (d : Int) ∧ (1 ≤ z ∧ z ≤ 1500) ∧ (1 ≤ d ∧ d ≤ n + 1) ∧ wr = w) (fun _ v _ => n + 1 - (intOf v).toNat)
  case atStart => exact ⟨1, 1, rfl, rfl, by omega, by omega, rfl⟩
  case round =>
    obtain ⟨z, d, rfl, rfl, hz, hd, rfl⟩ := hrel
    have w1 : IntKind.i64.wrap (2 * (d : Int)) = 2 * (d : Int) := by rw [IntKind.wrap_i64]; omega
    have hm0 : 0 ≤ z * p := Int.mul_nonneg (by omega) (by omega)
    have hm1 : z * p ≤ 1500 * 65521 := Int.mul_le_mul hz.2 hp2 (by omega) (by decide)
    have hm2 : 1 * 1 ≤ z * p := Int.mul_le_mul hz.1 (by omega) (by decide) (by omega)
    have w2 : IntKind.i64.wrap (z * p) = z * p := by rw [IntKind.wrap_i64]; omega
    have w3 : IntKind.i64.wrap (2 * z) = 2 * z := by rw [IntKind.wrap_i64]; omega
    by_cases h1 : 2 * (d : Int) < (n : Int)
    · by_cases h2 : (1500 : Int) < z * p
      · go_wp2_with fail
        go_ret
        exact ⟨⟨_, rfl⟩, Below.refl _ _⟩
      · go_wp2_with fail
        go_roundw
        case rel => exact ⟨z * p, d + 1, rfl, by go_num, by omega, by omega, trivial⟩
        case measure => simp [intOf]; omega
    · go_wp2_with fail
      go_ret
      exact ⟨⟨_, rfl⟩, Below.refl _ _⟩
set_option maxRecDepth 100000 in
set_option maxHeartbeats 1000000 in
theorem lCheap (A : Option Addr) (n c : Nat) (p : Int) (w : World) (hp : 2 ≤ p) (hp2 : p ≤ 65521) :
    Calls Tryz.prog 16 #[.slice A n c, .int .i64 p] w fun e w' => (∃ b : Bool, e = .returned (.bool b) ∧ (b = true → n ≤ 30)) ∧ Below w.heap.size w w' := by
  by_cases hn : n ≤ 30
  · have CC := Lib.hid (rCost A n c p w hp hp2 (by omega))
    have hn2 : (n : Int) ≤ 30 := by omega
    go_enter Tryz.func16, Tryz.ntmps16
    go_wp2_with (go_at_call 42; (with_reducible refine CC.out.mono ?_); rintro e w' ⟨⟨z, rfl⟩, hb⟩; have HB := Lib.hid hb; clear hb)
    go_ret
    exact ⟨⟨_, rfl, fun _ => hn⟩, HB.out⟩
  · have hn2 : ¬ (n : Int) ≤ 30 := by omega
    go_enter Tryz.func16, Tryz.ntmps16
    go_wp2_with fail
    go_ret
    exact ⟨rfl, Below.refl _ _⟩
end Go.Proofs.YtnkhhndjbanmnaaGreatDoor

/- The law's own great of layer 9 by contract. -/
namespace Go.Proofs.YtnkhhndjbanmnaaGreatDoor
open Go.RowKit Go.Shelf Go.Lib

theorem hstep9 {w w1 w2 : World} (h : Hid (Below w.heap.size w w1)) (k : Below w1.heap.size w1 w2) : Hid (Below w.heap.size w w2) := Lib.hid (h.out.trans (k.mono h.out.size))
def grB (n : Nat) (e : Int) : Bool := decide (17 < n) || e != 0
theorem grB_no {n : Nat} {e : Int} (h : grB n e = false) : n ≤ 17 ∧ e = 0 := by
  unfold grB at h
  rw [Bool.or_eq_false_iff] at h
  refine ⟨by have := of_decide_eq_false h.1; omega, ?_⟩
  have := h.2
  simpa using this
set_option maxRecDepth 100000 in
set_option maxHeartbeats 1000000 in
theorem lGreat (A : Option Addr) (n c : Nat) (xs : List Int) (p : Int) (w : World) (h : ISl w A n c xs) (ip : In64 p) :
    Calls Tryz.prog 26 #[.slice A n c, .int .i64 p] w fun e w' => e = .returned (.bool (grB n (eff p (cf xs)))) ∧ Below w.heap.size w w' := by
  have hle := h.le
  have hmx := h.max
  by_cases hn : n ≤ 17
  · have CC := Lib.hid (rWrong9 A n c xs p w h ip (by omega))
    have e0 : grB n (eff p (cf xs)) = (eff p (cf xs) != 0) := by
      unfold grB
      rw [decide_eq_false (by omega)]; rfl
    rw [e0]
    have hn2 : ¬ (17 : Int) < (n : Int) := by omega
    generalize eff p (cf xs) = u at *
    clear h ip e0
    go_enter Tryz.func26, Tryz.ntmps26
    go_wp2_with (go_at_call 11; (with_reducible refine CC.out.mono ?_); rintro e w' ⟨rfl, hb⟩; have HB := Lib.hid hb; clear hb)
    go_ret
    exact ⟨rfl, HB.out⟩
  · have e0 : grB n (eff p (cf xs)) = true := by
      unfold grB
      rw [decide_eq_true (by omega)]; rfl
    rw [e0]
    have hn2 : (17 : Int) < (n : Int) := by omega
    clear h ip e0
    go_enter Tryz.func26, Tryz.ntmps26
    go_wp2_with fail
    go_ret
    exact ⟨rfl, Below.refl _ _⟩
end Go.Proofs.YtnkhhndjbanmnaaGreatDoor

/- A product as it grows: a coefficient times monic ones. Mathematics alone. -/
namespace Go.Proofs.YtnkhhndjbanmnaaGreatDoor
open Ser (Bd)

def Grw (p c : Int) (v : Ser → Nat) (out : List Int) : Prop := ∃ g, Mn p g ∧ Pol p out (Ser.sc c (cf g)) ∧ ∀ q, Irr p q → V p (cf g) q = v q
theorem grw_start {p c : Int} (hp : Pr p) (h1 : 1 ≤ c) (h2 : c < p) : Grw p c (fun _ => 0) [c] := by
  refine ⟨[1], mn_one hp, ⟨⟨fun x hx => ?_, .inr ?_⟩, fun i => ?_⟩, fun q hq => V_one hp hq⟩
  · simp at hx; omega
  · show c ≠ 0; omega
  · show cf [c] i % p = (c * cf [1] i) % p
    match i with
    | 0 => show c % p = c * 1 % p; rw [Int.mul_one]
    | i + 1 => rw [cf_over (by simp), cf_over (by simp)]; simp
theorem Grw.next {p c : Int} {v : Ser → Nat} {out q : List Int} (hp : Pr p) (h : Grw p c v out) (hq : Mn p q) : Grw p c (fun r => v r + V p (cf q) r) (polL p (Ser.mul (cf out) (cf q))) := by
  obtain ⟨g, g1, g2, g3⟩ := h
  obtain ⟨m1, _, m3⟩ := mn_mul hp g1 hq
  refine ⟨_, m1, ?_, fun r hr => by rw [m3 r hr, g3 r hr]⟩
  have hf : Fini p (Ser.mul (cf out) (cf q)) := (fini_cf p out).mul (fini_cf p q)
  refine (polL_pol hp hf).eq ?_
  refine (g2.2.mul (Ser.Eq.refl _ _)).trans ?_
  rw [Ser.sc_mul]
  exact Ser.Eq.sc rfl (polL_pol hp ((fini_cf p g).mul (fini_cf p q))).2.symm
theorem Grw.congr {p c : Int} {v v' : Ser → Nat} {out : List Int} (h : Grw p c v out) (e : ∀ q, Irr p q → v q = v' q) : Grw p c v' out := by
  obtain ⟨g, g1, g2, g3⟩ := h
  exact ⟨g, g1, g2, fun q hq => (g3 q hq).trans (e q hq)⟩
theorem last_sc {p c : Int} {f : Ser} {m : Nat} (hp : Pr p) (hc : c % p ≠ 0) (h : Last p f m) : Last p (Ser.sc c f) m :=
  ⟨fun i hi => by show c * f i % p = 0; rw [Int.mul_emod, h.1 i hi]; simp, mul_nz hp hc h.2⟩
theorem Grw.len {p c : Int} {v : Ser → Nat} {out m : List Int} (hp : Pr p) (hc : c % p ≠ 0) (hm : Mn p m) (h : Grw p c v out) (e : ∀ q, Irr p q → v q ≤ V p (cf m) q) : out.length ≤ m.length := by
  obtain ⟨g, g1, g2, g3⟩ := h
  have h1 := g1.len_le hp hm fun q hq => by rw [g3 q hq]; exact e q hq
  have hl := last_sc hp hc g1.last
  have := pol_len (by have := hp.1; omega) g2 hl.1 hl.2
  have := g1.pos
  omega
theorem cf_mem {L : List Int} {m : Nat} (h : m < L.length) : cf L m ∈ L := by
  unfold cf
  rw [List.getD_eq_getElem?_getD, List.getElem?_eq_getElem h]
  exact List.getElem_mem _
theorem last_cf9 {p : Int} {xs : List Int} (hp : Pr p) (hb : ¬ Bd p (cf xs) 0) : ∃ m, Last p (cf xs) m ∧ (polL p (cf xs)).length = m + 1 ∧ cf (polL p (cf xs)) m % p = cf xs m % p ∧ 1 ≤ cf (polL p (cf xs)) m ∧ cf (polL p (cf xs)) m < p := by
  obtain ⟨m, hm⟩ := last_of hb (fini_cf p xs)
  have hP := polL_pol hp (fini_cf p xs)
  have hl := pol_len (by have := hp.1; omega) hP hm.1 hm.2
  have e := hP.2 m
  have hr := hP.1.1 (cf (polL p (cf xs)) m) (cf_mem (by omega))
  refine ⟨m, hm, hl, e, ?_, hr.2⟩
  have : cf (polL p (cf xs)) m ≠ 0 := fun k => hm.2 (by rw [← e, k]; simp)
  have := hr.1
  omega
theorem Grw.done {p : Int} {v : Ser → Nat} {out xs : List Int} (hp : Pr p) {m : Nat} (hm : Last p (cf xs) m) {c : Int} (hc : c % p = cf xs m % p) (h : Grw p c v out) (e : ∀ q, Irr p q → v q = V p (cf (monL p (cf xs))) q) : out = polL p (cf xs) := by
  obtain ⟨g, g1, g2, g3⟩ := h
  obtain ⟨m1, m2, m3, m4⟩ := mn_mon hp hm
  have hg : g = monL p (cf xs) := g1.ext hp m1 fun q hq => (g3 q hq).trans (e q hq)
  subst hg
  refine (polL_is hp (g2.eq ?_)).symm
  refine (Ser.Eq.sc hc m3).trans fun i => ?_
  show cf xs m * (finv (cf xs m) p * cf xs i) % p = cf xs i % p
  rw [← Int.mul_assoc, Int.mul_emod, (finv_spec hp hm.2).2.2, Int.one_mul, Int.emod_emod_of_dvd _ (Int.dvd_refl p)]
theorem vn_take {p : Int} {q : Ser} {L : PL} {j : Nat} (hj : j < L.length) : vn p q (L.take (j + 1)) = vn p q (L.take j) + L[j].2 * V p (cf L[j].1) q := by
  rw [List.take_succ_eq_append_getElem hj, vn_append, vn, vn, Nat.add_zero]
theorem vn_take_le {p : Int} {q : Ser} (L : PL) (j : Nat) : vn p q (L.take j) ≤ vn p q L := by
  conv => rhs; rw [← List.take_append_drop j L]
  rw [vn_append]; omega
end Go.Proofs.YtnkhhndjbanmnaaGreatDoor
