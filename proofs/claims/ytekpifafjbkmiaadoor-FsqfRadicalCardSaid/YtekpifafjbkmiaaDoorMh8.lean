/- Texts joined, in their order: PolSame, PolDer, PrgArith. -/
import Derived.Test.YtekpifafjbkmiaaDoorMh7

/- cleaverref06.Same where both are the same; Monic, Deriv, Eval, by their contracts. -/
namespace Go.Proofs.YtekpifafjbkmiaaDoor
open Go.RowKit

set_option maxRecDepth 100000 in
set_option maxHeartbeats 1000000 in
theorem polSame (A B : Option Addr) (n c n' c' : Nat) (xs ys : List Int) (w : World) (h : ISl w A n c xs) (h' : ISl w B n' c' ys) (e : xs = ys) :
    Calls Tryd.prog 17 #[.slice A n c, .slice B n' c'] w fun e w' => e = .returned (.bool true) ∧ Below w.heap.size w w' := by
  subst e
  have hnn : n' = n := by rw [h.len, h'.len]
  subst hnn
  have hle := h.le
  have hmx := h.max
  have H := Lib.hid h
  have H' := Lib.hid h'
  clear h h'
  go_enter Tryd.func17, Tryd.ntmps17
  go_wp2
  go_loopw [5] (fun i wr => ∃ k : Nat, k ≤ n' ∧ i = .int .i64 k ∧ Below w.heap.size w wr) (fun i _ => n' - (intOf i).toNat)
  case atStart => exact ⟨0, Nat.zero_le _, rfl, Below.refl _ _⟩
  case round =>
    obtain ⟨k, hk, rfl, hb⟩ := hrel
    by_cases hlt : k < n'
    · obtain ⟨b, o, rfl, hl1, hca⟩ := H.out.cf_ (by omega)
      obtain ⟨b', o', rfl, hl2, hcb⟩ := H'.out.cf_ (by omega)
      have h1 := hca k hlt
      have h2 := hcb k hlt
      rw [← hb.cell (p := ⟨b, o + k, none⟩) hl1] at h1
      rw [← hb.cell (p := ⟨b', o' + k, none⟩) hl2] at h2
      generalize cf xs k = x at *
      have i1 : (0 : Int) ≤ (k : Int) := by omega
      have i2 : (k : Int) < (n' : Int) := by omega
      have HB := Lib.hid hb
      clear hca hcb hb
      go_wp2
      go_quiet (fail)
      go_wp2
      go_roundw
      case rel => exact ⟨k + 1, by omega, by go_num, ibelow_drewN HB.out _⟩
      case measure => simp [intOf]; omega
    · obtain rfl : k = n' := by omega
      go_wp2
      go_ret
      exact ⟨rfl, hb⟩

/-- What Monic makes of a series. -/
def IsMon (p : Int) (f g : Ser) : Prop := (Ser.Bd p f 0 ∧ Ser.Bd p g 0) ∨ ∃ m, Ser.Bd p f (m + 1) ∧ f m % p ≠ 0 ∧ Ser.Eq p g (Ser.sc (finv (f m) p) f)
theorem finv_congr {a b p : Int} (h : Pr p) (e : a % p = b % p) : finv a p = finv b p := by
  rcases Classical.em (a % p = 0) with h0 | h0
  · rw [finv_zero h0, finv_zero (by rw [← e]; exact h0)]
  · have hs := finv_spec h h0
    refine (finv_eq h ⟨by omega, hs.2.1, ?_⟩).symm
    rw [Int.mul_emod, ← e, ← Int.mul_emod]
    exact hs.2.2
theorem top_uniq {p : Int} {f f' : Ser} {m m' : Nat} (e : Ser.Eq p f f') (h : Ser.Bd p f (m + 1)) (h2 : f m % p ≠ 0) (k : Ser.Bd p f' (m' + 1)) (k2 : f' m' % p ≠ 0) : m = m' := by
  rcases Nat.lt_trichotomy m m' with hl | hl | hl
  · exact absurd ((e m').symm.trans (h m' (by omega))) k2
  · exact hl
  · exact absurd ((e m).trans (k m (by omega))) h2
theorem IsMon.uniq {p : Int} {f f' g g' : Ser} (hp : Pr p) (e : Ser.Eq p f f') (h : IsMon p f g) (k : IsMon p f' g') : Ser.Eq p g g' := by
  rcases h with ⟨h1, h2⟩ | ⟨m, h1, h2, h3⟩
  · rcases k with ⟨k1, k2⟩ | ⟨m', k1, k2, k3⟩
    · exact fun i => by rw [h2 i (Nat.zero_le _), k2 i (Nat.zero_le _)]
    · exact absurd ((e m').symm.trans (h1 m' (Nat.zero_le _))) k2
  · rcases k with ⟨k1, k2⟩ | ⟨m', k1, k2, k3⟩
    · exact absurd ((e m).trans (k1 m (Nat.zero_le _))) h2
    · obtain rfl := top_uniq e h1 h2 k1 k2
      refine h3.trans (Ser.Eq.trans (Ser.Eq.sc ?_ e) k3.symm)
      rw [finv_congr hp (e m)]

set_option maxRecDepth 100000 in
set_option maxHeartbeats 400000 in
theorem refMonic_not (A : Option Addr) (n c : Nat) (p : Int) (w : World) (h0 : In64 p) (hp : ¬ Pr p) :
    Calls Tryd.prog 26 #[.slice A n c, .int .i64 p] w fun e w' => e = .returned (.tuple #[.slice none 0 0, .int .i64 1]) ∧ w = w' := by
  have C := refCheck_any p w h0.1 h0.2
  rw [chk_no (primB_no hp)] at C
  have CC := Lib.hid C
  clear C hp h0
  go_enter Tryd.func26, Tryd.ntmps26
  go_wp2_with (go_at_call 48; (with_reducible refine CC.out.mono ?_); rintro e w' ⟨rfl, rfl⟩)
  go_ret2
  exact ⟨rfl, rfl⟩

/-- Monic's answer. -/
def MonOut (p : Int) (f : Ser) (n : Nat) (w : World) (v : Value) (w' : World) : Prop := ∃ g, IsMon p f g ∧ PolOut p g n w v w'

theorem cf_one (t : Int) : cf [t] = Ser.con t := by
  funext i
  cases i with
  | zero => rw [cf_cons_zero]; rfl
  | succ i => rw [cf_cons_succ, cf_nil]; rfl

set_option maxRecDepth 100000 in
set_option maxHeartbeats 1000000 in
theorem refMonic_any (A : Option Addr) (n c : Nat) (xs : List Int) (p : Int) (w : World) (h : ISl w A n c xs) (hp : Pr p) (hn : n ≤ 400000000000) :
    Calls Tryd.prog 26 #[.slice A n c, .int .i64 p] w fun e w' => ∃ v, e = .returned (.tuple #[v, .int .i64 0]) ∧ MonOut p (cf xs) (n + 1) w v w' := by
  have H := Lib.hid h
  have PR := Lib.hid hp
  have MD := Lib.hid hp.md
  have hp1 := hp.1
  have hp2 := hp.2.1
  have hpos : 1 ≤ p := by omega
  have C := refCheck_any p w (by omega) (by omega)
  rw [chk_yes (primB_yes hp)] at C
  have CC := Lib.hid C
  clear h C hp
  go_enter Tryd.func26, Tryd.ntmps26
  go_wp2_with (go_at_call 48; (with_reducible refine CC.out.mono ?_); rintro e w' ⟨rfl, rfl⟩)
  refine (plain_any A n c xs p w H.out MD.out (by omega)).mono ?_
  rintro e w1 ⟨v1, rfl, X, m', d', fx, rfl, hX, px, hmn', hf1, hb1⟩
  by_cases hm0 : m' = 0
  · subst hm0
    have hnil : fx = [] := List.eq_nil_of_length_eq_zero hX.len.symm
    have hb0 := (px.nought hpos).1 hnil
    have HB := Lib.hid hb1
    have HB0 := Lib.hid hb0
    clear hX px hnil hb0 hb1
    go_wp2_with fail
    go_ret2
    refine ⟨_, rfl, Ser.zer, .inl ⟨HB0.out, fun i _ => by simp [Ser.zer]⟩, none, 0, 0, [], rfl, ⟨rfl, Nat.le_refl _, by decide, fun _ => rfl, IRd.nil _ _⟩, ⟨Pln.nil p, fun i => by rw [cf_nil]; rfl⟩, Nat.zero_le _, (fun b o s e => by cases e), HB.out⟩
  · obtain ⟨m, rfl⟩ : ∃ m, m' = m + 1 := ⟨m' - 1, by omega⟩
    have hT : cf fx m % p ≠ 0 := by
      have := px.1.top (by intro e; have := hX.len; rw [e] at this; simp at this) hpos
      rwa [← hX.len, Nat.add_sub_cancel] at this
    have HT := Lib.hid hT
    have PX := Lib.hid px
    have HXL := Lib.hid hX.len
    have HB := Lib.hid hb1
    have hXle := hX.le
    have hXmx := hX.max
    obtain ⟨b, o, e, hbl, hc⟩ := hX.cf_ (by omega)
    subst e
    have hx := hc m (by omega)
    have INV := Lib.hid (fun w => inverse_any (cf fx m) p w PR.out HT.out)
    have hs := finv_spec PR.out HT.out
    obtain ⟨t, ht⟩ : ∃ t, finv (cf fx m) p = t := ⟨_, rfl⟩
    rw [ht] at hs
    have HTI := Lib.hid ht
    have INV : Hid (∀ w : World, Calls Tryd.prog 51 #[.int .i64 (cf fx m), .int .i64 p] w fun e w' => e = .returned (.int .i64 t) ∧ w = w') := Lib.hid (by
      intro w
      have := INV.out w
      rwa [HTI.out] at this)
    have ht1 := hs.1
    have ht2 := hs.2.1
    have hN := (iblk_list w1 [t] (fi_one (by unfold In64; omega))).sl (by simp)
    have TM := times_any (some ⟨b, o, none⟩) (some ⟨w1.heap.size, 0, none⟩) (m + 1) d' 1 1 fx [t] p (w1.alloc (.cells #[iv t] 3)) (hX.below ((Below.refl _ _).alloc (Nat.le_refl _) _)) hN MD.out (by omega) (by omega)
    have TT := Lib.hid TM
    have hsz := hb1.size
    have HSZ := Lib.hid hsz
    clear hX px hc hs ht hT hN TM hf1 hb1
    go_wp2_with (first
      | (go_at_call 51; (with_reducible refine (INV.out _).mono ?_); rintro e w' ⟨rfl, rfl⟩)
      | (go_at_call 50; (with_reducible refine TT.out.mono ?_); rintro e w5 ⟨v5, rfl, hout⟩))
    go_ret2
    have hbd : Ser.Bd p (cf xs) (m + 1) := Ser.Bd.eq (by rw [HXL.out]; exact bd_len p fx) PX.out.2
    have htop : cf xs m % p ≠ 0 := by rw [← PX.out.2 m]; exact HT.out
    refine ⟨_, rfl, Ser.sc t (cf xs), .inr ⟨m, hbd, htop, ?_⟩, (hout.eq ?_).after (HB.out.trans (((Below.refl _ _).alloc (Nat.le_refl _) _).mono HSZ.out)) (by omega)⟩
    · rw [← finv_congr PR.out (PX.out.2 m), HTI.out]
      exact Ser.Eq.refl p _
    · rw [cf_one, Ser.mul_comm, Ser.con_mul]
      exact Ser.Eq.sc rfl PX.out.2
end Go.Proofs.YtekpifafjbkmiaaDoor

/- cleaverref06.Deriv and Eval, by their contracts. -/
namespace Go.Proofs.YtekpifafjbkmiaaDoor
open Go.RowKit

theorem ISl.drew {w : World} {A : Option Addr} {n c : Nat} {xs : List Int} (h : ISl w A n c xs) : ISl w.drew A n c xs := h
theorem quietL {P : Program} {f : FuncId} {args : Array Value} {w : World} {n : Nat} {v : Value}
    (h : Calls P f args (w.drewN n) fun e w' => e = .returned v ∧ w.drewN n = w') : Calls P f args (w.drewN n) fun e w'' => e = .returned v ∧ ∃ m, w'' = w.drewN m :=
  h.mono fun _ _ ⟨he, hm⟩ => ⟨he, n, hm.symm⟩

/-- The derivative. -/
def Ser.der (f : Ser) : Ser := fun i => ((i : Int) + 1) * f (i + 1)
theorem Ser.Eq.der {p : Int} {f g : Ser} (h : Ser.Eq p f g) : Ser.Eq p (Ser.der f) (Ser.der g) := fun i => by
  show ((i : Int) + 1) * f (i + 1) % p = ((i : Int) + 1) * g (i + 1) % p
  rw [Int.mul_emod, h (i + 1), ← Int.mul_emod]
def derL (p : Int) (X : List Int) (k : Nat) : List Int := (List.range k).map fun (i : Nat) => ((i : Int) + 1) % p * cf X (i + 1) % p
theorem derL_length (p : Int) (X : List Int) (k : Nat) : (derL p X k).length = k := by simp [derL]
theorem derL_snoc (p : Int) (X : List Int) (k : Nat) : derL p X (k + 1) = derL p X k ++ [((k : Int) + 1) % p * cf X (k + 1) % p] := by simp [derL, List.range_succ]
theorem cf_derL {p : Int} (X : List Int) (k : Nat) (hk : X.length ≤ k + 1) : Ser.Eq p (cf (derL p X k)) (Ser.der (cf X)) := by
  intro i
  show cf (derL p X k) i % p = ((i : Int) + 1) * cf X (i + 1) % p
  by_cases h : i < k
  · rw [cf_at (by rw [derL_length]; exact h)]
    simp only [derL, List.getElem_map, List.getElem_range]
    rw [Int.emod_emod_of_dvd _ (Int.dvd_refl p), Int.mul_emod, Int.emod_emod_of_dvd _ (Int.dvd_refl p), ← Int.mul_emod]
  · rw [cf_over (by rw [derL_length]; omega), cf_over (xs := X) (by omega)]
    simp

set_option maxRecDepth 100000 in
set_option maxHeartbeats 400000 in
theorem refDeriv_not (A : Option Addr) (n c : Nat) (p : Int) (w : World) (h0 : In64 p) (hp : ¬ Pr p) :
    Calls Tryd.prog 52 #[.slice A n c, .int .i64 p] w fun e w' => e = .returned (.tuple #[.slice none 0 0, .int .i64 1]) ∧ w = w' := by
  have C := refCheck_any p w h0.1 h0.2
  rw [chk_no (primB_no hp)] at C
  have CC := Lib.hid C
  clear C hp h0
  go_enter Tryd.func52, Tryd.ntmps52
  go_wp2_with (go_at_call 48; (with_reducible refine CC.out.mono ?_); rintro e w' ⟨rfl, rfl⟩)
  go_ret2
  exact ⟨rfl, rfl⟩

set_option maxRecDepth 100000 in
set_option maxHeartbeats 2000000 in
theorem refDeriv_any (A : Option Addr) (n c : Nat) (xs : List Int) (p : Int) (w : World) (h : ISl w A n c xs) (hp : Pr p) (hn : n ≤ 400000000000) :
    Calls Tryd.prog 52 #[.slice A n c, .int .i64 p] w fun e w' => ∃ v, e = .returned (.tuple #[v, .int .i64 0]) ∧ PolOut p (Ser.der (cf xs)) n w v w' := by
  have H := Lib.hid h
  have MD := Lib.hid hp.md
  have hp1 := hp.1
  have hp2 := hp.2.1
  have hpos : 1 ≤ p := by omega
  have C := refCheck_any p w (by omega) (by omega)
  rw [chk_yes (primB_yes hp)] at C
  have CC := Lib.hid C
  clear h C hp
  go_enter Tryd.func52, Tryd.ntmps52
  go_wp2_with (go_at_call 48; (with_reducible refine CC.out.mono ?_); rintro e w' ⟨rfl, rfl⟩)
  refine (plain_any A n c xs p w H.out MD.out (by omega)).mono ?_
  rintro e w1 ⟨v1, rfl, X, m, d, fx, rfl, hX, px, hmn, -, hb1⟩
  have PX := Lib.hid px
  have RX := Lib.hid px.rs
  have HX := Lib.hid hX
  have HB := Lib.hid hb1
  have hXle := hX.le
  have hXmx := hX.max
  have hszw := hb1.size
  clear hX px hb1
  go_wp2_with fail
  go_loopw [8, 7] (fun i v wr => ∃ k : Nat, (k = 0 ∨ k + 1 ≤ m) ∧ i = .int .i64 ((k : Int) + 1) ∧ IOw wr w1.heap.size v (derL p fx k) ∧ Below w1.heap.size w1 wr) (fun i _ _ => (m + 1) - (intOf i).toNat)
  case atStart => exact ⟨0, .inl rfl, rfl, IOw.nil _ _, Below.refl _ _⟩
  case round =>
    obtain ⟨k, hk, rfl, hown, hbel⟩ := hrel
    by_cases hlt : k + 1 < m
    · obtain ⟨b, o, rfl, hbl, hc⟩ := HX.out.cf_ (by omega)
      have hx := hc (k + 1) hlt
      rw [← hbel.cell (p := ⟨b, o + (k + 1), none⟩) hbl] at hx
      have hsn := derL_snoc p fx k
      have hl := derL_length p fx k
      have bx := RX.out.at hpos (k + 1)
      obtain ⟨x, hx0⟩ : ∃ x, cf fx (k + 1) = x := ⟨_, rfl⟩
      rw [hx0] at hx hsn bx
      obtain ⟨q, hq⟩ : ∃ q, ((k : Int) + 1) % p = q := ⟨_, rfl⟩
      have bq : 0 ≤ q ∧ q < p := by rw [← hq]; exact ⟨Int.emod_nonneg _ (by omega), Int.emod_lt_of_pos _ (by omega)⟩
      rw [hq] at hsn
      have bm := mul_bd bq bx hp2
      obtain ⟨P, hP⟩ : ∃ P, q * x = P := ⟨_, rfl⟩
      rw [hP] at hsn bm
      obtain ⟨z, hz⟩ : ∃ z, P % p = z := ⟨_, rfl⟩
      have bz : 0 ≤ z ∧ z < p := by rw [← hz]; exact ⟨Int.emod_nonneg _ (by omega), Int.emod_lt_of_pos _ (by omega)⟩
      rw [hz] at hsn
      have hN := (iblk_list wr [z] (fi_one (by unfold In64; omega))).sl (by simp)
      have HN := Lib.hid hN
      have HO := Lib.hid hown
      have HBB := Lib.hid hbel
      have HS := Lib.hid hsn
      have HL := Lib.hid hl
      have hsz := hbel.size
      have hp0 : (p == 0) = false := by simp; omega
      have hp00 : ¬ p = 0 := by omega
      have t1 : ((k : Int) + 1).tmod p = q := by rw [Int.tmod_eq_emod_of_nonneg (by omega)]; exact hq
      have t2 : P.tmod p = z := by rw [Int.tmod_eq_emod_of_nonneg (by omega)]; exact hz
      have i1 : (0 : Int) ≤ (k : Int) + 1 := by omega
      have i2 : (k : Int) + 1 < (m : Int) := by omega
      have i3 : ((k : Int) + 1).toNat = k + 1 := by omega
      have hmul : IntKind.i64.wrap P = P := by rw [IntKind.wrap_i64]; omega
      clear hc hN hown hbel hsn hl hx0
      go_wp2_with fail
      go_region_held3 (fun W => W.cell? ⟨b, o + (k + 1), none⟩ = some (iv x))
        (first
          | go_keep
          | (rw [hb1.cell (by exact hbl)]; first | assumption | go_keep))
        ((refine istep_app _ (by rfl) (.tmp 21) (.tmp 32) (by rfl) w1.heap.size _ _ (by rfl) (HO.out.alloc _).drew (some ⟨wr.heap.size, 0, none⟩) 1 1 (by rfl) [z] HN.out.drew (by rw [HL.out]; omega) (by simp; omega) ?_; intro v1 w3 ho1 hb1))
      have hb4 : Below w1.heap.size w1 w3 := (HBB.out.alloc hsz _).drew.trans hb1
      clear hb1
      rw [← HS.out] at ho1
      go_wp2_with fail
      go_roundw
      case rel => exact ⟨k + 1, by omega, by go_num, ho1, hb4⟩
      case measure => simp [intOf]; omega
    · obtain ⟨A', d2, rfl, hs, _⟩ := hown.sl
      have hl := derL_length p fx k
      have hcd := cf_derL (p := p) fx k (by rw [← HX.out.len]; omega)
      have T := plain_any A' _ d2 _ p wr hs MD.out (by rw [hl]; omega)
      rw [hl] at T
      rw [hl]
      have TT := Lib.hid T
      have HBB := Lib.hid hbel
      have HCD := Lib.hid hcd
      clear T hs hown hl hbel hcd
      go_wp2_with (go_at_call 49; (with_reducible refine TT.out.mono ?_); rintro e w5 ⟨v5, rfl, hout⟩)
      go_ret2
      exact ⟨_, rfl, (hout.eq (HCD.out.trans PX.out.2.der)).after (HB.out.trans (HBB.out.mono hszw)) (by omega)⟩

/-- Values. -/
def evL (x : Int) : List Int → Int
  | [] => 0
  | a :: l => a + x * evL x l
noncomputable def evP (x p : Int) (xs : List Int) : Int := if primB p = true then evL x xs % p else 0
theorem evL_drop (x : Int) (xs : List Int) (k : Nat) (hk : k < xs.length) : evL x (xs.drop k) = cf xs k + x * evL x (xs.drop (k + 1)) := by
  rw [List.drop_eq_getElem_cons hk, evL, cf_at hk]
theorem ev_step {x p : Int} {xs : List Int} {k : Nat} {out : Int} (hk : k < xs.length) (h : out = evL x (xs.drop (k + 1)) % p) :
    (out * (x % p) + cf xs k % p) % p = evL x (xs.drop k) % p := by
  rw [evL_drop x xs k hk, h]
  generalize evL x (xs.drop (k + 1)) = e
  rw [← Int.add_emod_emod, Int.emod_emod_of_dvd _ (Int.dvd_refl p), Int.add_emod_emod, Int.add_emod, ← Int.mul_emod, ← Int.add_emod, Int.mul_comm, Int.add_comm]

end Go.Proofs.YtekpifafjbkmiaaDoor

/- fpoly's plain, times, product, withTimes, less and Deriv's rows, by their contracts: each told place by place. -/
namespace Go.Proofs.YtekpifafjbkmiaaDoor
open Go.RowKit Go.Shelf

/-- Block B holds v alone. -/
def Bx (w : World) (B : Nat) (v : Value) : Prop := B < w.heap.size ∧ w.cell? ⟨B, 0, none⟩ = some v
theorem Bx.below {w W : World} {B : Nat} {v : Value} (h : Bx w B v) (hb : Below w.heap.size w W) : Bx W B v := ⟨Nat.lt_of_lt_of_le h.1 hb.size, (hb.cell (p := ⟨B, 0, none⟩) h.1).trans h.2⟩
theorem Bx.new (w : World) (v : Value) (T : TypeId) : Bx (w.alloc (.cells #[v] T)) w.heap.size v := by
  constructor <;> simp
theorem Bx.alloc {w : World} {B : Nat} {v : Value} (h : Bx w B v) (o : Obj) : Bx (w.alloc o) B v := h.below ((Below.refl _ _).alloc (Nat.le_refl _) _)
theorem quietD {P : Program} {f : FuncId} {args : Array Value} {w : World} {n : Nat} {v : Value}
    (h : Calls P f args (w.drewN n) fun e w' => e = .returned v ∧ ∃ q, w' = (w.drewN n).drewN q) : Calls P f args (w.drewN n) fun e w'' => e = .returned v ∧ ∃ m, w'' = w.drewN m :=
  h.mono fun _ _ ⟨he, q, hq⟩ => ⟨he, n + q, by rw [hq, World.drewN_drewN]⟩
theorem below_al (w : World) (o : Obj) : Below w.heap.size w (w.alloc o) := (Below.refl _ _).alloc (Nat.le_refl _) _
theorem isl_al {w : World} {A : Option Addr} {n c : Nat} {xs : List Int} (h : ISl w A n c xs) (o : Obj) : ISl (w.alloc o) A n c xs := h.below (below_al w o)
theorem pRed_md (a p : Int) (hp : Md p) (w : World) : Calls Tryd.prog 60 #[.int .i64 a, .int .i64 p] w fun e w' => e = .returned (.int .i64 (a % p)) ∧ w = w' := by
  have := pRed_any a p w (by have := hp.1; omega) (by have := hp.2; omega)
  rwa [red_pos hp.1] at this

set_option maxRecDepth 100000 in
set_option maxHeartbeats 400000 in
theorem tells_plain (A : Option Addr) (n c B : Nat) (xs : List Int) (w : World) (hB : Bx w B (.slice A n c)) (h : ISl w A n c xs) :
    Tells 58 #[.pointer (some ⟨B, 0, none⟩)] (cf xs) n w := by
  intro W t ht hbel
  show Calls _ _ #[.int .i64 (t : Int), .pointer (some ⟨B, 0, none⟩)] W _
  have h2 := h.below hbel
  have hcl := h.le
  have hcm := h.max
  obtain ⟨b, o, rfl, hbl, hc⟩ := h2.cf_ (by omega)
  have hc1 := (hB.below hbel).2
  have hc2 := hc t ht
  generalize cf xs t = x at *
  clear hc h2 h hB hbel
  go_enter Tryd.func58, Tryd.ntmps58
  go_wp2_with fail
  go_ret
  exact ⟨rfl, Below.refl _ _⟩

set_option maxRecDepth 100000 in
set_option maxHeartbeats 1000000 in
theorem pPlain_any (A : Option Addr) (n c : Nat) (xs : List Int) (p : Int) (w : World) (h : ISl w A n c xs) (hp : Md p) (hn : n ≤ 35184372088832) :
    Calls Tryd.prog 34 #[.slice A n c, .int .i64 p] w fun e w' => ∃ v, e = .returned v ∧ PolOut p (cf xs) n w v w' := by
  have M := pMade_any 58 _ (enters_of Tryd.func58 (by kernel_rfl) rfl) (cf xs) n p _ hp (tells_plain A n c w.heap.size xs _ (Bx.new w _ 22) (isl_al h _)) hn
  have MM := Lib.hid M
  have EQ := Lib.hid (fst_bd (p := p) (f := cf xs) (n := n) (by rw [h.len]; exact bd_len p xs))
  have hcl := h.le
  have hcm := h.max
  have hmf : ∀ (fn : Fn) (first cap : Array Value) (w : World), (Instr.makeFunc fn first cap).run Tryd.prog w = .ok (.func fn first cap) w := fun _ _ _ _ => rfl
  clear M h hp
  go_enter Tryd.func34, Tryd.ntmps34
  go_wp2_with (go_at_call 36; (with_reducible refine MM.out.mono ?_); rintro e w5 ⟨v, rfl, ho⟩; have HO := Lib.hid ho; clear ho)
  go_ret
  exact ⟨_, rfl, (HO.out.eq EQ.out).after (below_al _ _) (Nat.le_refl _)⟩

set_option maxRecDepth 100000 in
set_option maxHeartbeats 1000000 in
theorem tells_times (A : Option Addr) (n c B1 B2 : Nat) (u : Int) (xs : List Int) (p : Int) (w : World) (h1 : Bx w B1 (.int .i64 u)) (h2 : Bx w B2 (.slice A n c)) (h : ISl w A n c xs) (hp : Md p) (hu : 0 ≤ u ∧ u < p) (hx : Rs p xs) :
    Tells 79 #[.pointer (some ⟨B1, 0, none⟩), .pointer (some ⟨B2, 0, none⟩)] (Ser.sc u (cf xs)) n w := by
  intro W t ht hbel
  show Calls _ _ #[.int .i64 (t : Int), .pointer (some ⟨B1, 0, none⟩), .pointer (some ⟨B2, 0, none⟩)] W fun e w' => e = .returned (.int .i64 (u * cf xs t)) ∧ Below W.heap.size W w'
  have h3 := h.below hbel
  have hcl := h.le
  have hcm := h.max
  obtain ⟨b, o, rfl, hbl, hc⟩ := h3.cf_ (by omega)
  have hc1 := (h1.below hbel).2
  have hc2 := (h2.below hbel).2
  have hc3 := hc t ht
  have bm := mul_bdM hu (hx.at hp.1 t) hp.2
  obtain ⟨P, hP⟩ : ∃ P, u * cf xs t = P := ⟨_, rfl⟩
  generalize cf xs t = x at *
  rw [hP] at bm ⊢
  have bm1 := bm.1
  have bm2 := bm.2
  have hm : IntKind.i64.wrap (u * x) = P := by rw [hP, IntKind.wrap_i64]; omega
  have i1 : (0 : Int) ≤ (t : Int) := by omega
  have i2 : (t : Int) < (n : Int) := by omega
  clear hc h3 h hbel h1 h2 hx hP bm hp hu
  go_enter Tryd.func79, Tryd.ntmps79
  go_wp2_with fail
  go_quiet (fail)
  go_wp2_with fail
  go_ret
  exact ⟨rfl, pbelow_drewN _ _⟩

set_option maxRecDepth 100000 in
set_option maxHeartbeats 1000000 in
theorem pTimes_any (A : Option Addr) (n c : Nat) (u : Int) (xs : List Int) (p : Int) (w : World) (h : ISl w A n c xs) (hp : Md p) (hu : 0 ≤ u ∧ u < p) (hx : Rs p xs) (hn : n ≤ 35184372088832) :
    Calls Tryd.prog 63 #[.int .i64 u, .slice A n c, .int .i64 p] w fun e w' => ∃ v, e = .returned v ∧ PolOut p (Ser.sc u (cf xs)) n w v w' := by
  have M := pMade_any 79 _ (enters_of Tryd.func79 (by kernel_rfl) rfl) (Ser.sc u (cf xs)) n p _ hp
    (tells_times A n c w.heap.size (w.heap.size + 1) u xs p ((w.alloc (.cells #[.int .i64 u] 3)).alloc (.cells #[.slice A n c] 22)) ((Bx.new w _ _).alloc _) (by have := Bx.new (w.alloc (.cells #[.int .i64 u] 3)) (.slice A n c) 22; simpa using this) (isl_al (isl_al h _) _) hp hu hx) hn
  have MM := Lib.hid M
  have EQ := Lib.hid (fst_bd (p := p) (f := Ser.sc u (cf xs)) (n := n) (by
    intro i hi
    show u * cf xs i % p = 0
    rw [cf_over (by rw [← h.len]; exact hi)]; simp))
  have BB := Lib.hid ((below_al w (.cells #[.int .i64 u] 3)).trans ((below_al (w.alloc (.cells #[.int .i64 u] 3)) (.cells #[.slice A n c] 22)).mono (below_al w _).size))
  have hcl := h.le
  have hcm := h.max
  have hmf : ∀ (fn : Fn) (first cap : Array Value) (w : World), (Instr.makeFunc fn first cap).run Tryd.prog w = .ok (.func fn first cap) w := fun _ _ _ _ => rfl
  clear M h hp hu hx
  go_enter Tryd.func63, Tryd.ntmps63
  go_wp2_with (go_at_call 36; (with_reducible refine MM.out.mono ?_); rintro e w5 ⟨v, rfl, ho⟩; have HO := Lib.hid ho; clear ho)
  go_ret
  exact ⟨_, rfl, (HO.out.eq EQ.out).after BB.out (Nat.le_refl _)⟩

set_option maxRecDepth 100000 in
set_option maxHeartbeats 1000000 in
theorem tells_product (A B : Option Addr) (n c n' c' B1 B2 : Nat) (xs ys : List Int) (p : Int) (w : World) (h1 : Bx w B1 (.slice A n c)) (h2 : Bx w B2 (.slice B n' c')) (h : ISl w A n c xs) (h' : ISl w B n' c' ys) (hp : Md p) (hx : Rs p xs) (hy : Rs p ys) (hn : n ≤ 100000000) (hn' : n' ≤ 100000000) :
    Tells 77 #[.pointer (some ⟨B1, 0, none⟩), .pointer (some ⟨B2, 0, none⟩)] (Ser.mul (cf xs) (cf ys)) (n + n') w := by
  intro W t ht hbel
  show Calls _ _ #[.int .i64 (t : Int), .pointer (some ⟨B1, 0, none⟩), .pointer (some ⟨B2, 0, none⟩)] W _
  have hc1 := (h1.below hbel).2
  have hc2 := (h2.below hbel).2
  have S := Lib.hid (pSumAt_any A B n c n' c' xs ys t p W (h.below hbel) (h'.below hbel) hp hx hy (by omega) (by omega) (by omega))
  generalize Ser.mul (cf xs) (cf ys) t = r at *
  clear h h' hbel h1 h2 hx hy hp
  go_enter Tryd.func77, Tryd.ntmps77
  go_wp2_with (go_at_call 65; (with_reducible refine S.out.mono ?_); rintro e w5 ⟨rfl, q, rfl⟩)
  go_ret
  exact ⟨rfl, pbelow_drewN _ _⟩

theorem bd_mulcf (p : Int) (xs ys : List Int) : Ser.Bd p (Ser.mul (cf xs) (cf ys)) (xs.length + ys.length) := by
  intro i hi
  rw [← psum_end (f := cf xs) (g := cf ys) (k := i) (i := xs.length) (fun j hj => cf_over hj) (by omega), psum_low (f := cf xs) (g := cf ys) (fun j hj => cf_over (by omega))]
  simp

set_option maxRecDepth 100000 in
set_option maxHeartbeats 1000000 in
theorem pProd_any (A B : Option Addr) (n c n' c' : Nat) (xs ys : List Int) (p : Int) (w : World) (h : ISl w A n c xs) (h' : ISl w B n' c' ys) (hp : Md p) (hx : Rs p xs) (hy : Rs p ys) (hn : n ≤ 100000000) (hn' : n' ≤ 100000000) :
    Calls Tryd.prog 59 #[.slice A n c, .slice B n' c', .int .i64 p] w fun e w' => ∃ v, e = .returned v ∧ PolOut p (Ser.mul (cf xs) (cf ys)) (n + n') w v w' := by
  have M := pMade_any 77 _ (enters_of Tryd.func77 (by kernel_rfl) rfl) (Ser.mul (cf xs) (cf ys)) (n + n') p _ hp
    (tells_product A B n c n' c' w.heap.size (w.heap.size + 1) xs ys p ((w.alloc (.cells #[.slice A n c] 22)).alloc (.cells #[.slice B n' c'] 22)) ((Bx.new w _ _).alloc _) (by have := Bx.new (w.alloc (.cells #[.slice A n c] 22)) (.slice B n' c') 22; simpa using this) (isl_al (isl_al h _) _) (isl_al (isl_al h' _) _) hp hx hy hn hn') (by omega)
  rw [show ((n + n' : Nat) : Int) = (n : Int) + (n' : Int) from by omega] at M
  have MM := Lib.hid M
  have EQ := Lib.hid (fst_bd (p := p) (f := Ser.mul (cf xs) (cf ys)) (n := n + n') (by rw [h.len, h'.len]; exact bd_mulcf p xs ys))
  have BB := Lib.hid ((below_al w (.cells #[.slice A n c] 22)).trans ((below_al (w.alloc (.cells #[.slice A n c] 22)) (.cells #[.slice B n' c'] 22)).mono (below_al w _).size))
  have hcl := h.le
  have hcm := h.max
  have hcl' := h'.le
  have hcm' := h'.max
  have hmf : ∀ (fn : Fn) (first cap : Array Value) (w : World), (Instr.makeFunc fn first cap).run Tryd.prog w = .ok (.func fn first cap) w := fun _ _ _ _ => rfl
  clear M h h' hp hx hy
  go_enter Tryd.func59, Tryd.ntmps59
  go_wp2_with (go_at_call 36; (with_reducible refine MM.out.mono ?_); rintro e w5 ⟨v, rfl, ho⟩; have HO := Lib.hid ho; clear ho)
  go_ret
  exact ⟨_, rfl, (HO.out.eq EQ.out).after BB.out (Nat.le_refl _)⟩

set_option maxRecDepth 100000 in
set_option maxHeartbeats 1000000 in
theorem tells_less (A B D : Option Addr) (n c n' c' m d B1 B2 B3 N : Nat) (xs ys zs : List Int) (p : Int) (w : World) (h1 : Bx w B1 (.slice A n c)) (h2 : Bx w B2 (.slice B n' c')) (h3 : Bx w B3 (.slice D m d)) (h : ISl w A n c xs) (h' : ISl w B n' c' ys) (h'' : ISl w D m d zs) (hp : Md p) (hx : Rs p xs) (hy : Rs p ys) (hz : Rs p zs) (hn' : n' ≤ 1000000000) (hm : m ≤ 1000000000) (hN : N ≤ 1000000000000) :
    Tells 81 #[.pointer (some ⟨B1, 0, none⟩), .pointer (some ⟨B2, 0, none⟩), .pointer (some ⟨B3, 0, none⟩)] (fun i => cf xs i - Ser.mul (cf ys) (cf zs) i) N w := by
  intro W t ht hbel
  show Calls _ _ #[.int .i64 (t : Int), .pointer (some ⟨B1, 0, none⟩), .pointer (some ⟨B2, 0, none⟩), .pointer (some ⟨B3, 0, none⟩)] W fun e w' => e = .returned (.int .i64 (cf xs t - Ser.mul (cf ys) (cf zs) t)) ∧ Below W.heap.size W w'
  have hc1 := (h1.below hbel).2
  have hc2 := (h2.below hbel).2
  have hc3 := (h3.below hbel).2
  have C1 := Lib.hid (fun q => quietL (pCoef_any A n c xs t (W.drewN q) ((h.below hbel).below (pbelow_drewN W q)) (by omega)))
  have S1 := Lib.hid (fun q => quietD (pSumAt_any B D n' c' m d ys zs t p (W.drewN q) ((h'.below hbel).below (pbelow_drewN W q)) ((h''.below hbel).below (pbelow_drewN W q)) hp hy hz (by omega) hn' (by omega)))
  have bx := hx.at hp.1 t
  have bs := mul_bdS hp.2 (hy.at hp.1) (hz.at hp.1) (n := n') (fun j hj => cf_over (by rw [← h'.len]; exact hj)) t
  have hp2 := hp.2
  generalize cf xs t = x at *
  generalize Ser.mul (cf ys) (cf zs) t = s at *
  have b1 := bs.1
  have b2 := bs.2
  have b3 := bx.1
  have b4 := bx.2
  have m2 : IntKind.i64.wrap (x - s) = x - s := by rw [IntKind.wrap_i64]; omega
  clear h h' h'' hbel h1 h2 h3 hp hx hy hz bs bx
  go_enter Tryd.func81, Tryd.ntmps81
  go_wp2_with fail
  go_quiet (first
    | (go_at_call 38; with_reducible exact C1.out _)
    | (go_at_call 65; with_reducible exact S1.out _))
  go_wp2_with fail
  go_ret
  exact ⟨rfl, pbelow_drewN _ _⟩

set_option maxRecDepth 100000 in
set_option maxHeartbeats 1000000 in
theorem pLess_any (A B D : Option Addr) (n c n' c' m d N : Nat) (xs ys zs : List Int) (p : Int) (w : World) (h : ISl w A n c xs) (h' : ISl w B n' c' ys) (h'' : ISl w D m d zs) (hp : Md p) (hx : Rs p xs) (hy : Rs p ys) (hz : Rs p zs) (hn' : n' ≤ 1000000000) (hm : m ≤ 1000000000) (hN : N ≤ 1000000000000) :
    Calls Tryd.prog 66 #[.int .i64 (N : Int), .slice A n c, .slice B n' c', .slice D m d, .int .i64 p] w fun e w' => ∃ v, e = .returned v ∧ PolOut p (fst N (fun i => cf xs i - Ser.mul (cf ys) (cf zs) i)) N w v w' := by
  obtain ⟨w1, hw1⟩ : ∃ w1, w1 = w.alloc (.cells #[.slice A n c] 22) := ⟨_, rfl⟩
  obtain ⟨w2, hw2⟩ : ∃ w2, w2 = w1.alloc (.cells #[.slice B n' c'] 22) := ⟨_, rfl⟩
  obtain ⟨w3, hw3⟩ : ∃ w3, w3 = w2.alloc (.cells #[.slice D m d] 22) := ⟨_, rfl⟩
  have s1 : w1.heap.size = w.heap.size + 1 := by rw [hw1]; simp
  have s2 : w2.heap.size = w.heap.size + 2 := by rw [hw2]; simp [s1]
  have k1 : Bx w3 w.heap.size (.slice A n c) := by rw [hw3, hw2, hw1]; exact ((Bx.new w _ _).alloc _).alloc _
  have k2 : Bx w3 (w.heap.size + 1) (.slice B n' c') := by rw [hw3, hw2, ← s1]; exact (Bx.new w1 _ _).alloc _
  have k3 : Bx w3 (w.heap.size + 2) (.slice D m d) := by rw [hw3, ← s2]; exact Bx.new w2 _ _
  have bb : Below w.heap.size w w3 := by rw [hw3, hw2, hw1]; exact (((Below.refl _ w).alloc (Nat.le_refl _) _).alloc (by simp) _).alloc (by simp; omega) _
  have M := pMade_any 81 _ (enters_of Tryd.func81 (by kernel_rfl) rfl) (fun i => cf xs i - Ser.mul (cf ys) (cf zs) i) N p w3 hp
    (tells_less A B D n c n' c' m d w.heap.size (w.heap.size + 1) (w.heap.size + 2) N xs ys zs p w3 k1 k2 k3 (h.below bb) (h'.below bb) (h''.below bb) hp hx hy hz hn' hm hN) (by omega)
  rw [hw3, hw2, hw1] at M
  have BB : Hid (Below w.heap.size w (((w.alloc (.cells #[.slice A n c] 22)).alloc (.cells #[.slice B n' c'] 22)).alloc (.cells #[.slice D m d] 22))) := Lib.hid (by rw [hw3, hw2, hw1] at bb; exact bb)
  have MM := Lib.hid M
  have hmf : ∀ (fn : Fn) (first cap : Array Value) (w : World), (Instr.makeFunc fn first cap).run Tryd.prog w = .ok (.func fn first cap) w := fun _ _ _ _ => rfl
  clear k1 k2 k3 hw3 hw2 hw1 s1 s2 bb M
  clear h h' h'' hp hx hy hz w3 w2 w1
  go_enter Tryd.func66, Tryd.ntmps66
  go_wp2_with (go_at_call 36; (with_reducible refine MM.out.mono ?_); rintro e w5 ⟨v, rfl, ho⟩; have HO := Lib.hid ho; clear ho)
  go_ret
  exact ⟨_, rfl, HO.out.after BB.out (Nat.le_refl _)⟩

set_option maxRecDepth 100000 in
set_option maxHeartbeats 1000000 in
theorem tells_der (A : Option Addr) (n c B1 : Nat) (xs : List Int) (p : Int) (w : World) (h1 : Bx w B1 (.slice A n c)) (h : ISl w A n c xs) (hp : Md p) (hx : Rs p xs) (hn : n ≤ 1000000000000) :
    Tells 37 #[.pointer (some ⟨B1, 0, none⟩)] (Ser.der (cf xs)) n w := by
  intro W t ht hbel
  show Calls _ _ #[.int .i64 (t : Int), .pointer (some ⟨B1, 0, none⟩)] W fun e w' => e = .returned (.int .i64 (((t : Int) + 1) * cf xs (t + 1))) ∧ Below W.heap.size W w'
  have hc1 := (h1.below hbel).2
  have C := pCoef_any A n c xs (t + 1) W (h.below hbel) (by omega)
  rw [show ((t + 1 : Nat) : Int) = (t : Int) + 1 from by omega] at C
  have C1 := Lib.hid C
  have bx := hx.at hp.1 (t + 1)
  have hp2 := hp.2
  generalize cf xs (t + 1) = x at *
  have hb : 0 ≤ ((t : Int) + 1) * x ∧ ((t : Int) + 1) * x ≤ 100000000000000000 := by
    refine ⟨Int.mul_nonneg (by omega) bx.1, ?_⟩
    have h1 : ((t : Int) + 1) * x ≤ ((t : Int) + 1) * 65521 := Int.mul_le_mul_of_nonneg_left (by omega) (by omega)
    omega
  obtain ⟨P, hP⟩ : ∃ P, ((t : Int) + 1) * x = P := ⟨_, rfl⟩
  rw [hP] at hb ⊢
  have b1 := hb.1
  have b2 := hb.2
  have m1 : IntKind.i64.wrap (((t : Int) + 1) * x) = P := by rw [hP, IntKind.wrap_i64]; omega
  clear h hbel h1 hp hx C hP hb
  go_enter Tryd.func37, Tryd.ntmps37
  go_wp2_with (go_at_call 38; (with_reducible refine C1.out.mono ?_); rintro e w5 ⟨rfl, rfl⟩)
  go_ret
  exact ⟨rfl, Below.refl _ _⟩
end Go.Proofs.YtekpifafjbkmiaaDoor
