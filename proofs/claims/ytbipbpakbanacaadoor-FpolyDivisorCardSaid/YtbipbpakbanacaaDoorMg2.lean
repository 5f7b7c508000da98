/- Texts joined, in their order: PolDer, PrgArith, PrgInv. -/
import Derived.StillTailTactics
import Derived.Test.YtbipbpakbanacaaDoorMg1

/- cleaverref06.Deriv and Eval, by their contracts. -/
namespace Go.Proofs.YtbipbpakbanacaaDoor
open Go.RowKit

theorem ISl.drew {w : World} {A : Option Addr} {n c : Nat} {xs : List Int} (h : ISl w A n c xs) : ISl w.drew A n c xs := h
theorem quietL {P : Program} {f : FuncId} {args : Array Value} {w : World} {n : Nat} {v : Value}
    (h : Calls P f args (w.drewN n) fun e w' => e = .returned v ∧ w.drewN n = w') : Calls P f args (w.drewN n) fun e w'' => e = .returned v ∧ ∃ m, w'' = w.drewN m :=
  h.mono fun _ _ ⟨he, hm⟩ => ⟨he, n, hm.symm⟩

/-- The derivative. -/
def Ser.der (f : Ser) : Ser := fun i => ((i : Int) + 1) * f (i + 1)
theorem Ser.Eq.der {p : Int} {f g : Ser} (h : Ser.Eq p f g) : Ser.Eq p (Ser.der f) (Ser.der g) := fun i => by
  show ((i : Int) + 1) * f (i + 1) % p = ((i : Int) + 1) * g (i + 1) % p
  rw [Int.mul_emod, h (i + 1), ← Int.mul_emod]
def derL (p : Int) (X : List Int) (k : Nat) : List Int := (List.range k).map fun (i : Nat) => ((i : Int) + 1) % p * cf X (i + 1) % p
theorem derL_length (p : Int) (X : List Int) (k : Nat) : (derL p X k).length = k := by simp [derL]
theorem derL_snoc (p : Int) (X : List Int) (k : Nat) : derL p X (k + 1) = derL p X k ++ [((k : Int) + 1) % p * cf X (k + 1) % p] := by simp [derL, List.range_succ]
theorem cf_derL {p : Int} (X : List Int) (k : Nat) (hk : X.length ≤ k + 1) : Ser.Eq p (cf (derL p X k)) (Ser.der (cf X)) := by
  intro i
  show cf (derL p X k) i % p = ((i : Int) + 1) * cf X (i + 1) % p
  by_cases h : i < k
  · rw [cf_at (by rw [derL_length]; exact h)]
    simp only [derL, List.getElem_map, List.getElem_range]
    rw [Int.emod_emod_of_dvd _ (Int.dvd_refl p), Int.mul_emod, Int.emod_emod_of_dvd _ (Int.dvd_refl p), ← Int.mul_emod]
  · rw [cf_over (by rw [derL_length]; omega), cf_over (xs := X) (by omega)]
    simp

set_option maxHeartbeats 400000 in
theorem refDeriv_not (A : Option Addr) (n c : Nat) (p : Int) (w : World) (h0 : In64 p) (hp : ¬ Pr p) :
    Calls Tryd.prog 28 #[.slice A n c, .int .i64 p] w fun e w' => e = .returned (.tuple #[.slice none 0 0, .int .i64 1]) ∧ w = w' := by
  have C := refCheck_any p w h0.1 h0.2
  rw [chk_no (primB_no hp)] at C
  have CC := Lib.hid C
  clear C hp h0
  go_enter Tryd.func28, Tryd.ntmps28
  go_wp2_with (go_at_call 43; (with_reducible refine CC.out.mono ?_); rintro e w' ⟨rfl, rfl⟩)
  go_ret2
  exact ⟨rfl, rfl⟩

set_option maxHeartbeats 2000000 in
theorem refDeriv_any (A : Option Addr) (n c : Nat) (xs : List Int) (p : Int) (w : World) (h : ISl w A n c xs) (hp : Pr p) (hn : n ≤ 400000000000) :
    Calls Tryd.prog 28 #[.slice A n c, .int .i64 p] w fun e w' => ∃ v, e = .returned (.tuple #[v, .int .i64 0]) ∧ PolOut p (Ser.der (cf xs)) n w v w' := by
  have H := Lib.hid h
  have MD := Lib.hid hp.md
  have hp1 := hp.1
  have hp2 := hp.2.1
  have hpos : 1 ≤ p := by omega
  have C := refCheck_any p w (by omega) (by omega)
  rw [chk_yes (primB_yes hp)] at C
  have CC := Lib.hid C
  clear h C hp
  go_enter Tryd.func28, Tryd.ntmps28
  go_wp2_with (go_at_call 43; (with_reducible refine CC.out.mono ?_); rintro e w' ⟨rfl, rfl⟩)
  refine (plain_any A n c xs p w H.out MD.out (by omega)).mono ?_
  rintro e w1 ⟨v1, rfl, X, m, d, fx, rfl, hX, px, hmn, -, hb1⟩
  have PX := Lib.hid px
  have RX := Lib.hid px.rs
  have HX := Lib.hid hX
  have HB := Lib.hid hb1
  have hXle := hX.le
  have hXmx := hX.max
  have hszw := hb1.size
  clear hX px hb1
  go_wp2_with fail
  go_loopw [8, 7] (fun i v wr => ∃ k : Nat, (k = 0 ∨ k + 1 ≤ m) ∧ i = .int .i64 ((k : Int) + 1) ∧ IOw wr w1.heap.size v (derL p fx k) ∧ Below w1.heap.size w1 wr) (fun i _ _ => (m + 1) - (intOf i).toNat)
  case atStart => exact ⟨0, .inl rfl, rfl, IOw.nil _ _, Below.refl _ _⟩
  case round =>
    obtain ⟨k, hk, rfl, hown, hbel⟩ := hrel
    by_cases hlt : k + 1 < m
    · obtain ⟨b, o, rfl, hbl, hc⟩ := HX.out.cf_ (by omega)
      have hx := hc (k + 1) hlt
      rw [← hbel.cell (p := ⟨b, o + (k + 1), none⟩) hbl] at hx
      have hsn := derL_snoc p fx k
      have hl := derL_length p fx k
      have bx := RX.out.at hpos (k + 1)
      obtain ⟨x, hx0⟩ : ∃ x, cf fx (k + 1) = x := ⟨_, rfl⟩
      rw [hx0] at hx hsn bx
      obtain ⟨q, hq⟩ : ∃ q, ((k : Int) + 1) % p = q := ⟨_, rfl⟩
      have bq : 0 ≤ q ∧ q < p := by rw [← hq]; exact ⟨Int.emod_nonneg _ (by omega), Int.emod_lt_of_pos _ (by omega)⟩
      rw [hq] at hsn
      have bm := mul_bd bq bx hp2
      obtain ⟨P, hP⟩ : ∃ P, q * x = P := ⟨_, rfl⟩
      rw [hP] at hsn bm
      obtain ⟨z, hz⟩ : ∃ z, P % p = z := ⟨_, rfl⟩
      have bz : 0 ≤ z ∧ z < p := by rw [← hz]; exact ⟨Int.emod_nonneg _ (by omega), Int.emod_lt_of_pos _ (by omega)⟩
      rw [hz] at hsn
      have hN := (iblk_list wr [z] (fi_one (by unfold In64; omega))).sl (by simp)
      have HN := Lib.hid hN
      have HO := Lib.hid hown
      have HBB := Lib.hid hbel
      have HS := Lib.hid hsn
      have HL := Lib.hid hl
      have hsz := hbel.size
      have hp0 : (p == 0) = false := by simp; omega
      have hp00 : ¬ p = 0 := by omega
      have t1 : ((k : Int) + 1).tmod p = q := by rw [Int.tmod_eq_emod_of_nonneg (by omega)]; exact hq
      have t2 : P.tmod p = z := by rw [Int.tmod_eq_emod_of_nonneg (by omega)]; exact hz
      have i1 : (0 : Int) ≤ (k : Int) + 1 := by omega
      have i2 : (k : Int) + 1 < (m : Int) := by omega
      have i3 : ((k : Int) + 1).toNat = k + 1 := by omega
      have hmul : IntKind.i64.wrap P = P := by rw [IntKind.wrap_i64]; omega
      clear hc hN hown hbel hsn hl hx0
      go_wp2_with fail
      go_region_held3 (fun W => W.cell? ⟨b, o + (k + 1), none⟩ = some (iv x))
        (first
          | go_keep
          | (rw [hb1.cell (by exact hbl)]; first | assumption | go_keep))
        ((refine istep_app _ (by rfl) (.tmp 21) (.tmp 32) (by rfl) w1.heap.size _ _ (by rfl) (HO.out.alloc _).drew (some ⟨wr.heap.size, 0, none⟩) 1 1 (by rfl) [z] HN.out.drew (by rw [HL.out]; omega) (by simp; omega) ?_; intro v1 w3 ho1 hb1))
      have hb4 : Below w1.heap.size w1 w3 := (HBB.out.alloc hsz _).drew.trans hb1
      clear hb1
      rw [← HS.out] at ho1
      go_wp2_with fail
      go_roundw
      case rel => exact ⟨k + 1, by omega, by go_num, ho1, hb4⟩
      case measure => simp [intOf]; omega
    · obtain ⟨A', d2, rfl, hs, _⟩ := hown.sl
      have hl := derL_length p fx k
      have hcd := cf_derL (p := p) fx k (by rw [← HX.out.len]; omega)
      have T := plain_any A' _ d2 _ p wr hs MD.out (by rw [hl]; omega)
      rw [hl] at T
      rw [hl]
      have TT := Lib.hid T
      have HBB := Lib.hid hbel
      have HCD := Lib.hid hcd
      clear T hs hown hl hbel hcd
      go_wp2_with (go_at_call 48; (with_reducible refine TT.out.mono ?_); rintro e w5 ⟨v5, rfl, hout⟩)
      go_ret2
      exact ⟨_, rfl, (hout.eq (HCD.out.trans PX.out.2.der)).after (HB.out.trans (HBB.out.mono hszw)) (by omega)⟩

/-- Values. -/
def evL (x : Int) : List Int → Int
  | [] => 0
  | a :: l => a + x * evL x l
noncomputable def evP (x p : Int) (xs : List Int) : Int := if primB p = true then evL x xs % p else 0
theorem evL_drop (x : Int) (xs : List Int) (k : Nat) (hk : k < xs.length) : evL x (xs.drop k) = cf xs k + x * evL x (xs.drop (k + 1)) := by
  rw [List.drop_eq_getElem_cons hk, evL, cf_at hk]
theorem ev_step {x p : Int} {xs : List Int} {k : Nat} {out : Int} (hk : k < xs.length) (h : out = evL x (xs.drop (k + 1)) % p) :
    (out * (x % p) + cf xs k % p) % p = evL x (xs.drop k) % p := by
  rw [evL_drop x xs k hk, h]
  generalize evL x (xs.drop (k + 1)) = e
  rw [← Int.add_emod_emod, Int.emod_emod_of_dvd _ (Int.dvd_refl p), Int.add_emod_emod, Int.add_emod, ← Int.mul_emod, ← Int.add_emod, Int.mul_comm, Int.add_comm]

set_option maxHeartbeats 400000 in
theorem refEval_not (A : Option Addr) (n c : Nat) (x p : Int) (w : World) (h0 : In64 p) (hp : ¬ Pr p) :
    Calls Tryd.prog 30 #[.slice A n c, .int .i64 x, .int .i64 p] w fun e w' => e = .returned (.tuple #[.int .i64 0, .int .i64 1]) ∧ w = w' := by
  have C := refCheck_any p w h0.1 h0.2
  rw [chk_no (primB_no hp)] at C
  have CC := Lib.hid C
  clear C hp h0
  go_enter Tryd.func30, Tryd.ntmps30
  go_wp2_with (go_at_call 43; (with_reducible refine CC.out.mono ?_); rintro e w' ⟨rfl, rfl⟩)
  go_ret2
  exact ⟨rfl, rfl⟩

set_option maxHeartbeats 2000000 in
theorem refEval_any (A : Option Addr) (n c : Nat) (xs : List Int) (x p : Int) (w : World) (h : ISl w A n c xs) (hp : Pr p) (hn : n ≤ 400000000000) :
    Calls Tryd.prog 30 #[.slice A n c, .int .i64 x, .int .i64 p] w fun e w' => e = .returned (.tuple #[.int .i64 (evL x xs % p), .int .i64 0]) ∧ Below w.heap.size w w' := by
  have H := Lib.hid h
  have hp1 := hp.1
  have hp2 := hp.2.1
  have hpos : 1 ≤ p := by omega
  have C := refCheck_any p w (by omega) (by omega)
  rw [chk_yes (primB_yes hp)] at C
  have CC := Lib.hid C
  have RED := Lib.hid (fun (a : Int) (w : World) => refRed_any a p w (by omega) (by omega))
  obtain ⟨res, hres⟩ : ∃ res, evL x xs % p = res := ⟨_, rfl⟩
  rw [hres]
  have HRES := Lib.hid hres
  have hcl := h.le
  have hcm := h.max
  clear h C hp hres
  go_enter Tryd.func30, Tryd.ntmps30
  go_wp2_with (go_at_call 43; (with_reducible refine CC.out.mono ?_); rintro e w' ⟨rfl, rfl⟩)
  go_loopw [9, 8] (fun i v wr => ∃ (k : Nat) (out : Int), k ≤ n ∧ i = .int .i64 ((k : Int) - 1) ∧ v = .int .i64 out ∧ 0 ≤ out ∧ out < p ∧ Hid (out = evL x (xs.drop k) % p) ∧ Below w.heap.size w wr) (fun i _ _ => ((intOf i) + 1).toNat)
  case atStart => exact ⟨n, 0, Nat.le_refl _, rfl, rfl, by omega, by omega, Lib.hid (by rw [List.drop_of_length_le (by rw [← H.out.len]; exact Nat.le_refl _)]; simp [evL]), Below.refl _ _⟩
  case round =>
    obtain ⟨k, out, hk, rfl, rfl, ho0, ho1, hO, hbel⟩ := hrel
    by_cases hk0 : k = 0
    · subst hk0
      have hr : out = res := by
        rw [hO.out, ← HRES.out, List.drop_zero]
      subst hr
      go_wp2_with fail
      go_ret2
      exact ⟨rfl, hbel⟩
    · obtain ⟨j, rfl⟩ : ∃ j, k = j + 1 := ⟨k - 1, by omega⟩
      obtain ⟨b, o, rfl, hbl, hc⟩ := H.out.cf_ (by omega)
      have hx := hc j (by omega)
      rw [← hbel.cell (p := ⟨b, o + j, none⟩) hbl] at hx
      have hst := ev_step (x := x) (p := p) (xs := xs) (k := j) (by rw [← H.out.len]; omega) hO.out
      have hRa : ∀ W : World, _ := RED.out (cf xs j)
      have hRx : ∀ W : World, _ := RED.out x
      rw [red_pos hpos] at hRa hRx
      have bx : 0 ≤ x % p ∧ x % p < p := ⟨Int.emod_nonneg _ (by omega), Int.emod_lt_of_pos _ (by omega)⟩
      have ba : 0 ≤ cf xs j % p ∧ cf xs j % p < p := ⟨Int.emod_nonneg _ (by omega), Int.emod_lt_of_pos _ (by omega)⟩
      generalize cf xs j % p = ra at *
      generalize x % p = rx at *
      generalize cf xs j = a at *
      have bm := mul_bd ⟨ho0, ho1⟩ bx hp2
      obtain ⟨P, hP⟩ : ∃ P, out * rx = P := ⟨_, rfl⟩
      rw [hP] at hst bm
      obtain ⟨z, hz⟩ : ∃ z, (P + ra) % p = z := ⟨_, rfl⟩
      have bz : 0 ≤ z ∧ z < p := by rw [← hz]; exact ⟨Int.emod_nonneg _ (by omega), Int.emod_lt_of_pos _ (by omega)⟩
      rw [hz] at hst
      have HST := Lib.hid hst
      have HA := Lib.hid hRa
      have HX := Lib.hid hRx
      have HB := Lib.hid hbel
      have hp0 : (p == 0) = false := by simp; omega
      have hp00 : ¬ p = 0 := by omega
      have t1 : (P + ra).tmod p = z := by rw [Int.tmod_eq_emod_of_nonneg (by omega)]; exact hz
      have hmul : IntKind.i64.wrap (out * rx) = P := by rw [hP, IntKind.wrap_i64]; omega
      have hadd : IntKind.i64.wrap (P + ra) = P + ra := by rw [IntKind.wrap_i64]; omega
      have i1 : (0 : Int) ≤ (j : Int) := by omega
      have i2 : (j : Int) < (n : Int) := by omega
      clear hc hst hRa hRx hbel hO
      go_wp2_with fail
      go_quiet (first | (go_at_call 58; with_reducible exact quietL (HX.out _)) | (go_at_call 58; with_reducible exact quietL (HA.out _)))
      go_wp2_with fail
      go_roundw
      case rel => exact ⟨j, z, by omega, by go_num, rfl, bz.1, bz.2, HST, ibelow_drewN HB.out _⟩
      case measure => simp [intOf]
end Go.Proofs.YtbipbpakbanacaaDoor

/- fpoly's plain, times, product, withTimes, less and Deriv's rows, by their contracts: each told place by place. -/
namespace Go.Proofs.YtbipbpakbanacaaDoor
open Go.RowKit Go.Shelf

/-- Block B holds v alone. -/
def Bx (w : World) (B : Nat) (v : Value) : Prop := B < w.heap.size ∧ w.cell? ⟨B, 0, none⟩ = some v
theorem Bx.below {w W : World} {B : Nat} {v : Value} (h : Bx w B v) (hb : Below w.heap.size w W) : Bx W B v := ⟨Nat.lt_of_lt_of_le h.1 hb.size, (hb.cell (p := ⟨B, 0, none⟩) h.1).trans h.2⟩
theorem Bx.new (w : World) (v : Value) (T : TypeId) : Bx (w.alloc (.cells #[v] T)) w.heap.size v := by
  constructor <;> simp
theorem Bx.alloc {w : World} {B : Nat} {v : Value} (h : Bx w B v) (o : Obj) : Bx (w.alloc o) B v := h.below ((Below.refl _ _).alloc (Nat.le_refl _) _)
theorem quietD {P : Program} {f : FuncId} {args : Array Value} {w : World} {n : Nat} {v : Value}
    (h : Calls P f args (w.drewN n) fun e w' => e = .returned v ∧ ∃ q, w' = (w.drewN n).drewN q) : Calls P f args (w.drewN n) fun e w'' => e = .returned v ∧ ∃ m, w'' = w.drewN m :=
  h.mono fun _ _ ⟨he, q, hq⟩ => ⟨he, n + q, by rw [hq, World.drewN_drewN]⟩
theorem below_al (w : World) (o : Obj) : Below w.heap.size w (w.alloc o) := (Below.refl _ _).alloc (Nat.le_refl _) _
theorem isl_al {w : World} {A : Option Addr} {n c : Nat} {xs : List Int} (h : ISl w A n c xs) (o : Obj) : ISl (w.alloc o) A n c xs := h.below (below_al w o)
theorem pRed_md (a p : Int) (hp : Md p) (w : World) : Calls Tryd.prog 56 #[.int .i64 a, .int .i64 p] w fun e w' => e = .returned (.int .i64 (a % p)) ∧ w = w' := by
  have := pRed_any a p w (by have := hp.1; omega) (by have := hp.2; omega)
  rwa [red_pos hp.1] at this

set_option maxHeartbeats 400000 in
theorem tells_plain (A : Option Addr) (n c B : Nat) (xs : List Int) (w : World) (hB : Bx w B (.slice A n c)) (h : ISl w A n c xs) :
    Tells 76 #[.pointer (some ⟨B, 0, none⟩)] (cf xs) n w := by
  intro W t ht hbel
  show Calls _ _ #[.int .i64 (t : Int), .pointer (some ⟨B, 0, none⟩)] W _
  have h2 := h.below hbel
  have hcl := h.le
  have hcm := h.max
  obtain ⟨b, o, rfl, hbl, hc⟩ := h2.cf_ (by omega)
  have hc1 := (hB.below hbel).2
  have hc2 := hc t ht
  generalize cf xs t = x at *
  clear hc h2 h hB hbel
  go_enter Tryd.func76, Tryd.ntmps76
  go_wp2_with fail
  go_ret
  exact ⟨rfl, Below.refl _ _⟩

set_option maxHeartbeats 1000000 in
theorem pPlain_any (A : Option Addr) (n c : Nat) (xs : List Int) (p : Int) (w : World) (h : ISl w A n c xs) (hp : Md p) (hn : n ≤ 35184372088832) :
    Calls Tryd.prog 46 #[.slice A n c, .int .i64 p] w fun e w' => ∃ v, e = .returned v ∧ PolOut p (cf xs) n w v w' := by
  have M := pMade_any 76 _ (enters_of Tryd.func76 (by kernel_rfl) rfl) (cf xs) n p _ hp (tells_plain A n c w.heap.size xs _ (Bx.new w _ 22) (isl_al h _)) hn
  have MM := Lib.hid M
  have EQ := Lib.hid (fst_bd (p := p) (f := cf xs) (n := n) (by rw [h.len]; exact bd_len p xs))
  have hcl := h.le
  have hcm := h.max
  have hmf : ∀ (fn : Fn) (first cap : Array Value) (w : World), (Instr.makeFunc fn first cap).run Tryd.prog w = .ok (.func fn first cap) w := fun _ _ _ _ => rfl
  clear M h hp
  go_enter Tryd.func46, Tryd.ntmps46
  go_wp2_with (go_at_call 53; (with_reducible refine MM.out.mono ?_); rintro e w5 ⟨v, rfl, ho⟩; have HO := Lib.hid ho; clear ho)
  go_ret
  exact ⟨_, rfl, (HO.out.eq EQ.out).after (below_al _ _) (Nat.le_refl _)⟩

set_option maxHeartbeats 1000000 in
theorem tells_times (A : Option Addr) (n c B1 B2 : Nat) (u : Int) (xs : List Int) (p : Int) (w : World) (h1 : Bx w B1 (.int .i64 u)) (h2 : Bx w B2 (.slice A n c)) (h : ISl w A n c xs) (hp : Md p) (hu : 0 ≤ u ∧ u < p) (hx : Rs p xs) :
    Tells 84 #[.pointer (some ⟨B1, 0, none⟩), .pointer (some ⟨B2, 0, none⟩)] (Ser.sc u (cf xs)) n w := by
  intro W t ht hbel
  show Calls _ _ #[.int .i64 (t : Int), .pointer (some ⟨B1, 0, none⟩), .pointer (some ⟨B2, 0, none⟩)] W fun e w' => e = .returned (.int .i64 (u * cf xs t)) ∧ Below W.heap.size W w'
  have h3 := h.below hbel
  have hcl := h.le
  have hcm := h.max
  obtain ⟨b, o, rfl, hbl, hc⟩ := h3.cf_ (by omega)
  have hc1 := (h1.below hbel).2
  have hc2 := (h2.below hbel).2
  have hc3 := hc t ht
  have bm := mul_bdM hu (hx.at hp.1 t) hp.2
  obtain ⟨P, hP⟩ : ∃ P, u * cf xs t = P := ⟨_, rfl⟩
  generalize cf xs t = x at *
  rw [hP] at bm ⊢
  have bm1 := bm.1
  have bm2 := bm.2
  have hm : IntKind.i64.wrap (u * x) = P := by rw [hP, IntKind.wrap_i64]; omega
  have i1 : (0 : Int) ≤ (t : Int) := by omega
  have i2 : (t : Int) < (n : Int) := by omega
  clear hc h3 h hbel h1 h2 hx hP bm hp hu
  go_enter Tryd.func84, Tryd.ntmps84
  go_wp2_with fail
  go_quiet (fail)
  go_wp2_with fail
  go_ret
  exact ⟨rfl, pbelow_drewN _ _⟩

set_option maxHeartbeats 1000000 in
theorem pTimes_any (A : Option Addr) (n c : Nat) (u : Int) (xs : List Int) (p : Int) (w : World) (h : ISl w A n c xs) (hp : Md p) (hu : 0 ≤ u ∧ u < p) (hx : Rs p xs) (hn : n ≤ 35184372088832) :
    Calls Tryd.prog 61 #[.int .i64 u, .slice A n c, .int .i64 p] w fun e w' => ∃ v, e = .returned v ∧ PolOut p (Ser.sc u (cf xs)) n w v w' := by
  have M := pMade_any 84 _ (enters_of Tryd.func84 (by kernel_rfl) rfl) (Ser.sc u (cf xs)) n p _ hp
    (tells_times A n c w.heap.size (w.heap.size + 1) u xs p ((w.alloc (.cells #[.int .i64 u] 3)).alloc (.cells #[.slice A n c] 22)) ((Bx.new w _ _).alloc _) (by have := Bx.new (w.alloc (.cells #[.int .i64 u] 3)) (.slice A n c) 22; simpa using this) (isl_al (isl_al h _) _) hp hu hx) hn
  have MM := Lib.hid M
  have EQ := Lib.hid (fst_bd (p := p) (f := Ser.sc u (cf xs)) (n := n) (by
    intro i hi
    show u * cf xs i % p = 0
    rw [cf_over (by rw [← h.len]; exact hi)]; simp))
  have BB := Lib.hid ((below_al w (.cells #[.int .i64 u] 3)).trans ((below_al (w.alloc (.cells #[.int .i64 u] 3)) (.cells #[.slice A n c] 22)).mono (below_al w _).size))
  have hcl := h.le
  have hcm := h.max
  have hmf : ∀ (fn : Fn) (first cap : Array Value) (w : World), (Instr.makeFunc fn first cap).run Tryd.prog w = .ok (.func fn first cap) w := fun _ _ _ _ => rfl
  clear M h hp hu hx
  go_enter Tryd.func61, Tryd.ntmps61
  go_wp2_with (go_at_call 53; (with_reducible refine MM.out.mono ?_); rintro e w5 ⟨v, rfl, ho⟩; have HO := Lib.hid ho; clear ho)
  go_ret
  exact ⟨_, rfl, (HO.out.eq EQ.out).after BB.out (Nat.le_refl _)⟩

set_option maxHeartbeats 1000000 in
theorem tells_product (A B : Option Addr) (n c n' c' B1 B2 : Nat) (xs ys : List Int) (p : Int) (w : World) (h1 : Bx w B1 (.slice A n c)) (h2 : Bx w B2 (.slice B n' c')) (h : ISl w A n c xs) (h' : ISl w B n' c' ys) (hp : Md p) (hx : Rs p xs) (hy : Rs p ys) (hn : n ≤ 100000000) (hn' : n' ≤ 100000000) :
    Tells 74 #[.pointer (some ⟨B1, 0, none⟩), .pointer (some ⟨B2, 0, none⟩)] (Ser.mul (cf xs) (cf ys)) (n + n') w := by
  intro W t ht hbel
  show Calls _ _ #[.int .i64 (t : Int), .pointer (some ⟨B1, 0, none⟩), .pointer (some ⟨B2, 0, none⟩)] W _
  have hc1 := (h1.below hbel).2
  have hc2 := (h2.below hbel).2
  have S := Lib.hid (pSumAt_any A B n c n' c' xs ys t p W (h.below hbel) (h'.below hbel) hp hx hy (by omega) (by omega) (by omega))
  generalize Ser.mul (cf xs) (cf ys) t = r at *
  clear h h' hbel h1 h2 hx hy hp
  go_enter Tryd.func74, Tryd.ntmps74
  go_wp2_with (go_at_call 75; (with_reducible refine S.out.mono ?_); rintro e w5 ⟨rfl, q, rfl⟩)
  go_ret
  exact ⟨rfl, pbelow_drewN _ _⟩

theorem bd_mulcf (p : Int) (xs ys : List Int) : Ser.Bd p (Ser.mul (cf xs) (cf ys)) (xs.length + ys.length) := by
  intro i hi
  rw [← psum_end (f := cf xs) (g := cf ys) (k := i) (i := xs.length) (fun j hj => cf_over hj) (by omega), psum_low (f := cf xs) (g := cf ys) (fun j hj => cf_over (by omega))]
  simp

set_option maxHeartbeats 1000000 in
theorem pProd_any (A B : Option Addr) (n c n' c' : Nat) (xs ys : List Int) (p : Int) (w : World) (h : ISl w A n c xs) (h' : ISl w B n' c' ys) (hp : Md p) (hx : Rs p xs) (hy : Rs p ys) (hn : n ≤ 100000000) (hn' : n' ≤ 100000000) :
    Calls Tryd.prog 45 #[.slice A n c, .slice B n' c', .int .i64 p] w fun e w' => ∃ v, e = .returned v ∧ PolOut p (Ser.mul (cf xs) (cf ys)) (n + n') w v w' := by
  have M := pMade_any 74 _ (enters_of Tryd.func74 (by kernel_rfl) rfl) (Ser.mul (cf xs) (cf ys)) (n + n') p _ hp
    (tells_product A B n c n' c' w.heap.size (w.heap.size + 1) xs ys p ((w.alloc (.cells #[.slice A n c] 22)).alloc (.cells #[.slice B n' c'] 22)) ((Bx.new w _ _).alloc _) (by have := Bx.new (w.alloc (.cells #[.slice A n c] 22)) (.slice B n' c') 22; simpa using this) (isl_al (isl_al h _) _) (isl_al (isl_al h' _) _) hp hx hy hn hn') (by omega)
  rw [show ((n + n' : Nat) : Int) = (n : Int) + (n' : Int) from by omega] at M
  have MM := Lib.hid M
  have EQ := Lib.hid (fst_bd (p := p) (f := Ser.mul (cf xs) (cf ys)) (n := n + n') (by rw [h.len, h'.len]; exact bd_mulcf p xs ys))
  have BB := Lib.hid ((below_al w (.cells #[.slice A n c] 22)).trans ((below_al (w.alloc (.cells #[.slice A n c] 22)) (.cells #[.slice B n' c'] 22)).mono (below_al w _).size))
  have hcl := h.le
  have hcm := h.max
  have hcl' := h'.le
  have hcm' := h'.max
  have hmf : ∀ (fn : Fn) (first cap : Array Value) (w : World), (Instr.makeFunc fn first cap).run Tryd.prog w = .ok (.func fn first cap) w := fun _ _ _ _ => rfl
  clear M h h' hp hx hy
  go_enter Tryd.func45, Tryd.ntmps45
  go_wp2_with (go_at_call 53; (with_reducible refine MM.out.mono ?_); rintro e w5 ⟨v, rfl, ho⟩; have HO := Lib.hid ho; clear ho)
  go_ret
  exact ⟨_, rfl, (HO.out.eq EQ.out).after BB.out (Nat.le_refl _)⟩

set_option maxHeartbeats 1000000 in
theorem tells_with (A B : Option Addr) (n c n' c' B1 B2 B3 B4 N : Nat) (u : Int) (xs ys : List Int) (p : Int) (w : World) (h1 : Bx w B1 (.slice A n c)) (h2 : Bx w B2 (.int .i64 p)) (h3 : Bx w B3 (.int .i64 u)) (h4 : Bx w B4 (.slice B n' c')) (h : ISl w A n c xs) (h' : ISl w B n' c' ys) (hp : Md p) (hu : -1 ≤ u ∧ u ≤ 1) (hN : N ≤ 35184372088832) :
    Tells 71 #[.pointer (some ⟨B1, 0, none⟩), .pointer (some ⟨B2, 0, none⟩), .pointer (some ⟨B3, 0, none⟩), .pointer (some ⟨B4, 0, none⟩)] (fun i => cf xs i % p + u * (cf ys i % p)) N w := by
  intro W t ht hbel
  show Calls _ _ #[.int .i64 (t : Int), .pointer (some ⟨B1, 0, none⟩), .pointer (some ⟨B2, 0, none⟩), .pointer (some ⟨B3, 0, none⟩), .pointer (some ⟨B4, 0, none⟩)] W fun e w' => e = .returned (.int .i64 (cf xs t % p + u * (cf ys t % p))) ∧ Below W.heap.size W w'
  have hc1 := (h1.below hbel).2
  have hc2 := (h2.below hbel).2
  have hc3 := (h3.below hbel).2
  have hc4 := (h4.below hbel).2
  have hp1 := hp.1
  have hp2 := hp.2
  have C1 := Lib.hid (fun q => quietL (pCoef_any A n c xs t (W.drewN q) ((h.below hbel).below (pbelow_drewN W q)) (by omega)))
  have C2 := Lib.hid (fun q => quietL (pCoef_any B n' c' ys t (W.drewN q) ((h'.below hbel).below (pbelow_drewN W q)) (by omega)))
  have R1 := Lib.hid (fun q => quietL (pRed_md (cf xs t) p hp (W.drewN q)))
  have R2 := Lib.hid (fun q => quietL (pRed_md (cf ys t) p hp (W.drewN q)))
  have q1 := Int.emod_nonneg (cf xs t) (b := p) (by omega)
  have q2 := Int.emod_lt_of_pos (cf xs t) (b := p) (by omega)
  have q3 := Int.emod_nonneg (cf ys t) (b := p) (by omega)
  have q4 := Int.emod_lt_of_pos (cf ys t) (b := p) (by omega)
  generalize cf xs t % p = x at *
  generalize cf ys t % p = y at *
  generalize cf xs t = x0 at *
  generalize cf ys t = y0 at *
  have hub : -65521 ≤ u * y ∧ u * y ≤ 65521 := by
    have : u = -1 ∨ u = 0 ∨ u = 1 := by omega
    rcases this with rfl | rfl | rfl <;> omega
  obtain ⟨P, hP⟩ : ∃ P, u * y = P := ⟨_, rfl⟩
  rw [hP] at hub ⊢
  have u1 := hub.1
  have u2 := hub.2
  have m1 : IntKind.i64.wrap (u * y) = P := by rw [hP, IntKind.wrap_i64]; omega
  have m2 : IntKind.i64.wrap (x + P) = x + P := by rw [IntKind.wrap_i64]; omega
  clear h h' hbel h1 h2 h3 h4 hp hu hP hub
  go_enter Tryd.func71, Tryd.ntmps71
  go_wp2_with fail
  go_quiet (first
    | (go_at_call 55; with_reducible exact C1.out _)
    | (go_at_call 55; with_reducible exact C2.out _)
    | (go_at_call 56; with_reducible exact R1.out _)
    | (go_at_call 56; with_reducible exact R2.out _))
  go_wp2_with fail
  go_ret
  exact ⟨rfl, pbelow_drewN _ _⟩

set_option maxHeartbeats 1000000 in
theorem pWith_any (A B : Option Addr) (n c n' c' : Nat) (u : Int) (xs ys : List Int) (p : Int) (w : World) (h : ISl w A n c xs) (h' : ISl w B n' c' ys) (hp : Md p) (hu : -1 ≤ u ∧ u ≤ 1) (hn : n ≤ 35184372088832) (hn' : n' ≤ 35184372088832) :
    Calls Tryd.prog 42 #[.slice A n c, .int .i64 u, .slice B n' c', .int .i64 p] w fun e w' => ∃ v, e = .returned v ∧ PolOut p (Ser.add (cf xs) (Ser.sc u (cf ys))) (max n n') w v w' := by
  obtain ⟨N, hN⟩ : ∃ N, N = max n n' := ⟨_, rfl⟩
  obtain ⟨w1, hw1⟩ : ∃ w1, w1 = w.alloc (.cells #[.slice A n c] 22) := ⟨_, rfl⟩
  obtain ⟨w2, hw2⟩ : ∃ w2, w2 = w1.alloc (.cells #[.int .i64 u] 3) := ⟨_, rfl⟩
  obtain ⟨w3, hw3⟩ : ∃ w3, w3 = w2.alloc (.cells #[.slice B n' c'] 22) := ⟨_, rfl⟩
  obtain ⟨w4, hw4⟩ : ∃ w4, w4 = w3.alloc (.cells #[.int .i64 p] 3) := ⟨_, rfl⟩
  have s1 : w1.heap.size = w.heap.size + 1 := by rw [hw1]; simp
  have s2 : w2.heap.size = w.heap.size + 2 := by rw [hw2]; simp [s1]
  have s3 : w3.heap.size = w.heap.size + 3 := by rw [hw3]; simp [s2]
  have k1 : Bx w4 w.heap.size (.slice A n c) := by rw [hw4, hw3, hw2, hw1]; exact (((Bx.new w _ _).alloc _).alloc _).alloc _
  have k2 : Bx w4 (w.heap.size + 1) (.int .i64 u) := by rw [hw4, hw3, hw2, ← s1]; exact ((Bx.new w1 _ _).alloc _).alloc _
  have k3 : Bx w4 (w.heap.size + 2) (.slice B n' c') := by rw [hw4, hw3, ← s2]; exact (Bx.new w2 _ _).alloc _
  have k4 : Bx w4 (w.heap.size + 3) (.int .i64 p) := by rw [hw4, ← s3]; exact Bx.new w3 _ _
  have bb : Below w.heap.size w w4 := by rw [hw4, hw3, hw2, hw1]; exact ((((Below.refl _ w).alloc (Nat.le_refl _) _).alloc (by simp) _).alloc (by simp; omega) _).alloc (by simp; omega) _
  have M := pMade_any 71 _ (enters_of Tryd.func71 (by kernel_rfl) rfl) (fun i => cf xs i % p + u * (cf ys i % p)) N p w4 hp
    (tells_with A B n c n' c' w.heap.size (w.heap.size + 3) (w.heap.size + 1) (w.heap.size + 2) N u xs ys p w4 k1 k4 k2 k3 (h.below bb) (h'.below bb) hp hu (by omega)) (by omega)
  rw [hw4, hw3, hw2, hw1] at M
  have BB : Hid (Below w.heap.size w ((((w.alloc (.cells #[.slice A n c] 22)).alloc (.cells #[.int .i64 u] 3)).alloc (.cells #[.slice B n' c'] 22)).alloc (.cells #[.int .i64 p] 3))) := Lib.hid (by rw [hw4, hw3, hw2, hw1] at bb; exact bb)
  have MM := Lib.hid M
  have EQ : Hid (Ser.Eq p (fst N (fun i => cf xs i % p + u * (cf ys i % p))) (Ser.add (cf xs) (Ser.sc u (cf ys)))) := Lib.hid (by
    have e1 : Ser.Eq p (fun i => cf xs i % p + u * (cf ys i % p)) (Ser.add (cf xs) (Ser.sc u (cf ys))) := fun i => by
      show (cf xs i % p + u * (cf ys i % p)) % p = (cf xs i + u * cf ys i) % p
      rw [Int.add_emod, Int.emod_emod_of_dvd _ (Int.dvd_refl p), Int.mul_emod u, Int.emod_emod_of_dvd _ (Int.dvd_refl p), ← Int.mul_emod, ← Int.add_emod]
    refine (fst_eq e1).trans (fst_bd ?_)
    intro i hi
    show (cf xs i + u * cf ys i) % p = 0
    rw [cf_over (by rw [← h.len]; omega), cf_over (by rw [← h'.len]; omega)]; simp)
  have hcl := h.le
  have hcm := h.max
  have hcl' := h'.le
  have hcm' := h'.max
  have hmf : ∀ (fn : Fn) (first cap : Array Value) (w : World), (Instr.makeFunc fn first cap).run Tryd.prog w = .ok (.func fn first cap) w := fun _ _ _ _ => rfl
  clear k1 k2 k3 k4 hw4 hw3 hw2 hw1 s1 s2 s3 bb M
  clear h h' hp hu w4 w3 w2 w1
  by_cases hlt : n < n'
  · obtain rfl : N = n' := by omega
    have hlt1 : (n : Int) < (N : Int) := by omega
    clear hN
    go_enter Tryd.func42, Tryd.ntmps42
    go_wp2_with (go_at_call 53; (with_reducible refine MM.out.mono ?_); rintro e w5 ⟨v, rfl, ho⟩; have HO := Lib.hid ho; clear ho)
    go_ret
    exact ⟨_, rfl, (HO.out.eq EQ.out).after BB.out (by omega)⟩
  · obtain rfl : N = n := by omega
    have hlt1 : ¬ (N : Int) < (n' : Int) := by omega
    clear hN
    go_enter Tryd.func42, Tryd.ntmps42
    go_wp2_with (go_at_call 53; (with_reducible refine MM.out.mono ?_); rintro e w5 ⟨v, rfl, ho⟩; have HO := Lib.hid ho; clear ho)
    go_ret
    exact ⟨_, rfl, (HO.out.eq EQ.out).after BB.out (by omega)⟩

set_option maxHeartbeats 1000000 in
theorem tells_less (A B D : Option Addr) (n c n' c' m d B1 B2 B3 N : Nat) (xs ys zs : List Int) (p : Int) (w : World) (h1 : Bx w B1 (.slice A n c)) (h2 : Bx w B2 (.slice B n' c')) (h3 : Bx w B3 (.slice D m d)) (h : ISl w A n c xs) (h' : ISl w B n' c' ys) (h'' : ISl w D m d zs) (hp : Md p) (hx : Rs p xs) (hy : Rs p ys) (hz : Rs p zs) (hn' : n' ≤ 1000000000) (hm : m ≤ 1000000000) (hN : N ≤ 1000000000000) :
    Tells 91 #[.pointer (some ⟨B1, 0, none⟩), .pointer (some ⟨B2, 0, none⟩), .pointer (some ⟨B3, 0, none⟩)] (fun i => cf xs i - Ser.mul (cf ys) (cf zs) i) N w := by
  intro W t ht hbel
  show Calls _ _ #[.int .i64 (t : Int), .pointer (some ⟨B1, 0, none⟩), .pointer (some ⟨B2, 0, none⟩), .pointer (some ⟨B3, 0, none⟩)] W fun e w' => e = .returned (.int .i64 (cf xs t - Ser.mul (cf ys) (cf zs) t)) ∧ Below W.heap.size W w'
  have hc1 := (h1.below hbel).2
  have hc2 := (h2.below hbel).2
  have hc3 := (h3.below hbel).2
  have C1 := Lib.hid (fun q => quietL (pCoef_any A n c xs t (W.drewN q) ((h.below hbel).below (pbelow_drewN W q)) (by omega)))
  have S1 := Lib.hid (fun q => quietD (pSumAt_any B D n' c' m d ys zs t p (W.drewN q) ((h'.below hbel).below (pbelow_drewN W q)) ((h''.below hbel).below (pbelow_drewN W q)) hp hy hz (by omega) hn' (by omega)))
  have bx := hx.at hp.1 t
  have bs := mul_bdS hp.2 (hy.at hp.1) (hz.at hp.1) (n := n') (fun j hj => cf_over (by rw [← h'.len]; exact hj)) t
  have hp2 := hp.2
  generalize cf xs t = x at *
  generalize Ser.mul (cf ys) (cf zs) t = s at *
  have b1 := bs.1
  have b2 := bs.2
  have b3 := bx.1
  have b4 := bx.2
  have m2 : IntKind.i64.wrap (x - s) = x - s := by rw [IntKind.wrap_i64]; omega
  clear h h' h'' hbel h1 h2 h3 hp hx hy hz bs bx
  go_enter Tryd.func91, Tryd.ntmps91
  go_wp2_with fail
  go_quiet (first
    | (go_at_call 55; with_reducible exact C1.out _)
    | (go_at_call 75; with_reducible exact S1.out _))
  go_wp2_with fail
  go_ret
  exact ⟨rfl, pbelow_drewN _ _⟩

set_option maxHeartbeats 1000000 in
theorem pLess_any (A B D : Option Addr) (n c n' c' m d N : Nat) (xs ys zs : List Int) (p : Int) (w : World) (h : ISl w A n c xs) (h' : ISl w B n' c' ys) (h'' : ISl w D m d zs) (hp : Md p) (hx : Rs p xs) (hy : Rs p ys) (hz : Rs p zs) (hn' : n' ≤ 1000000000) (hm : m ≤ 1000000000) (hN : N ≤ 1000000000000) :
    Calls Tryd.prog 77 #[.int .i64 (N : Int), .slice A n c, .slice B n' c', .slice D m d, .int .i64 p] w fun e w' => ∃ v, e = .returned v ∧ PolOut p (fst N (fun i => cf xs i - Ser.mul (cf ys) (cf zs) i)) N w v w' := by
  obtain ⟨w1, hw1⟩ : ∃ w1, w1 = w.alloc (.cells #[.slice A n c] 22) := ⟨_, rfl⟩
  obtain ⟨w2, hw2⟩ : ∃ w2, w2 = w1.alloc (.cells #[.slice B n' c'] 22) := ⟨_, rfl⟩
  obtain ⟨w3, hw3⟩ : ∃ w3, w3 = w2.alloc (.cells #[.slice D m d] 22) := ⟨_, rfl⟩
  have s1 : w1.heap.size = w.heap.size + 1 := by rw [hw1]; simp
  have s2 : w2.heap.size = w.heap.size + 2 := by rw [hw2]; simp [s1]
  have k1 : Bx w3 w.heap.size (.slice A n c) := by rw [hw3, hw2, hw1]; exact ((Bx.new w _ _).alloc _).alloc _
  have k2 : Bx w3 (w.heap.size + 1) (.slice B n' c') := by rw [hw3, hw2, ← s1]; exact (Bx.new w1 _ _).alloc _
  have k3 : Bx w3 (w.heap.size + 2) (.slice D m d) := by rw [hw3, ← s2]; exact Bx.new w2 _ _
  have bb : Below w.heap.size w w3 := by rw [hw3, hw2, hw1]; exact (((Below.refl _ w).alloc (Nat.le_refl _) _).alloc (by simp) _).alloc (by simp; omega) _
  have M := pMade_any 91 _ (enters_of Tryd.func91 (by kernel_rfl) rfl) (fun i => cf xs i - Ser.mul (cf ys) (cf zs) i) N p w3 hp
    (tells_less A B D n c n' c' m d w.heap.size (w.heap.size + 1) (w.heap.size + 2) N xs ys zs p w3 k1 k2 k3 (h.below bb) (h'.below bb) (h''.below bb) hp hx hy hz hn' hm hN) (by omega)
  rw [hw3, hw2, hw1] at M
  have BB : Hid (Below w.heap.size w (((w.alloc (.cells #[.slice A n c] 22)).alloc (.cells #[.slice B n' c'] 22)).alloc (.cells #[.slice D m d] 22))) := Lib.hid (by rw [hw3, hw2, hw1] at bb; exact bb)
  have MM := Lib.hid M
  have hmf : ∀ (fn : Fn) (first cap : Array Value) (w : World), (Instr.makeFunc fn first cap).run Tryd.prog w = .ok (.func fn first cap) w := fun _ _ _ _ => rfl
  clear k1 k2 k3 hw3 hw2 hw1 s1 s2 bb M
  clear h h' h'' hp hx hy hz w3 w2 w1
  go_enter Tryd.func77, Tryd.ntmps77
  go_wp2_with (go_at_call 53; (with_reducible refine MM.out.mono ?_); rintro e w5 ⟨v, rfl, ho⟩; have HO := Lib.hid ho; clear ho)
  go_ret
  exact ⟨_, rfl, HO.out.after BB.out (Nat.le_refl _)⟩

set_option maxHeartbeats 1000000 in
theorem tells_der (A : Option Addr) (n c B1 : Nat) (xs : List Int) (p : Int) (w : World) (h1 : Bx w B1 (.slice A n c)) (h : ISl w A n c xs) (hp : Md p) (hx : Rs p xs) (hn : n ≤ 1000000000000) :
    Tells 54 #[.pointer (some ⟨B1, 0, none⟩)] (Ser.der (cf xs)) n w := by
  intro W t ht hbel
  show Calls _ _ #[.int .i64 (t : Int), .pointer (some ⟨B1, 0, none⟩)] W fun e w' => e = .returned (.int .i64 (((t : Int) + 1) * cf xs (t + 1))) ∧ Below W.heap.size W w'
  have hc1 := (h1.below hbel).2
  have C := pCoef_any A n c xs (t + 1) W (h.below hbel) (by omega)
  rw [show ((t + 1 : Nat) : Int) = (t : Int) + 1 from by omega] at C
  have C1 := Lib.hid C
  have bx := hx.at hp.1 (t + 1)
  have hp2 := hp.2
  generalize cf xs (t + 1) = x at *
  have hb : 0 ≤ ((t : Int) + 1) * x ∧ ((t : Int) + 1) * x ≤ 100000000000000000 := by
    refine ⟨Int.mul_nonneg (by omega) bx.1, ?_⟩
    have h1 : ((t : Int) + 1) * x ≤ ((t : Int) + 1) * 65521 := Int.mul_le_mul_of_nonneg_left (by omega) (by omega)
    omega
  obtain ⟨P, hP⟩ : ∃ P, ((t : Int) + 1) * x = P := ⟨_, rfl⟩
  rw [hP] at hb ⊢
  have b1 := hb.1
  have b2 := hb.2
  have m1 : IntKind.i64.wrap (((t : Int) + 1) * x) = P := by rw [hP, IntKind.wrap_i64]; omega
  clear h hbel h1 hp hx C hP hb
  go_enter Tryd.func54, Tryd.ntmps54
  go_wp2_with (go_at_call 55; (with_reducible refine C1.out.mono ?_); rintro e w5 ⟨rfl, rfl⟩)
  go_ret
  exact ⟨rfl, Below.refl _ _⟩
end Go.Proofs.YtbipbpakbanacaaDoor

/- fp.Inv and Div, by their contracts: an inverse is sought by halving and taking away. -/
namespace Go.Proofs.YtbipbpakbanacaaDoor
open Go.RowKit

/-- Half of a factor. -/
def hf (a p : Int) : Int := if a % 2 = 0 then a / 2 else (a + p) / 2
theorem hf_even {a p : Int} (h : a % 2 = 0) : hf a p = a / 2 := if_pos h
theorem hf_odd {a p : Int} (h : a % 2 = 1) : hf a p = (a + p) / 2 := if_neg (by omega)
theorem hf_bd {a p : Int} (h0 : 0 ≤ a) (h1 : a < p) : 0 ≤ hf a p ∧ hf a p < p := by
  unfold hf
  split <;> omega

/-- What the search keeps: no common divisor; each factor times r has its number's rest. -/
def Ev (r p u v a b : Int) : Prop :=
  (∀ d : Nat, 2 ≤ d → (d : Int) ∣ u → ¬ (d : Int) ∣ v) ∧ (∃ k, a * r = u + p * k) ∧ (∃ k, b * r = v + p * k) ∧ (u = 1 ∨ p % 2 = 1)
theorem ev_start {r p : Int} (h : Pr p) (h1 : 1 ≤ r) (h2 : r < p) : Ev r p r p 1 0 := by
  obtain ⟨hp2, _, hp⟩ := h
  have np : ∀ d : Nat, 2 ≤ d → (d : Int) < p → ¬ (d : Int) ∣ p := by
    intro d hd hlt hdv
    refine hp.2 d hd (by omega) (Int.natCast_dvd_natCast.1 ?_)
    rw [Int.toNat_of_nonneg (by omega)]
    exact hdv
  refine ⟨fun d hd hu => np d hd ?_, ⟨0, by omega⟩, ⟨-1, by omega⟩, ?_⟩
  · have := Int.le_of_dvd (by omega) hu
    omega
  · by_cases hr : r = 1
    · exact .inl hr
    · right
      have := np 2 (by omega) (by omega)
      omega
theorem ev_half {r p u v a b : Int} (h : Ev r p u v a b) (hu : u % 2 = 0) : Ev r p (u / 2) v (hf a p) b := by
  obtain ⟨h1, ⟨k, hk⟩, h3, h4⟩ := h
  have hp : p % 2 = 1 := by omega
  refine ⟨fun d hd hdv => h1 d hd ?_, ?_, h3, .inr hp⟩
  · have e : u = u / 2 * 2 := by omega
    rw [e]
    exact Int.dvd_mul_of_dvd_left hdv
  · obtain ⟨m, hm⟩ : ∃ m, 2 * (hf a p * r) = u + p * m := by
      rcases Int.emod_two_eq a with e | e
      · have e2 : 2 * hf a p = a := by rw [hf_even e]; omega
        exact ⟨k, by rw [← Int.mul_assoc, e2, hk]⟩
      · have e2 : 2 * hf a p = a + p := by rw [hf_odd e]; omega
        exact ⟨k + r, by rw [← Int.mul_assoc, e2, Int.add_mul, hk, Int.mul_add, Int.add_assoc]⟩
    have hm2 : m % 2 = 0 := by
      have e1 : p * m % 2 = 0 := by omega
      rw [Int.mul_emod, hp] at e1
      omega
    obtain ⟨n, hn⟩ : ∃ n, m = 2 * n := ⟨m / 2, by omega⟩
    refine ⟨n, ?_⟩
    have e3 : p * m = 2 * (p * n) := by rw [hn]; exact Int.mul_left_comm _ _ _
    omega
theorem ev_swap {r p u v a b : Int} (h : Ev r p u v a b) (hu : u ≠ 1) : Ev r p v u b a := by
  obtain ⟨h1, h2, h3, h4⟩ := h
  exact ⟨fun d hd hv hu => h1 d hd hu hv, h3, h2, .inr (by omega)⟩
theorem ev_sub {r p u v a b : Int} (h : Ev r p u v a b) (hp : p % 2 = 1) : Ev r p (u - v) v (lft (a - b) p) b := by
  obtain ⟨h1, ⟨k, hk⟩, ⟨m, hm⟩, _⟩ := h
  refine ⟨fun d hd hs hv => h1 d hd ?_ hv, ?_, ⟨m, hm⟩, .inr hp⟩
  · have e : u = u - v + v := by omega
    rw [e]
    exact Int.dvd_add hs hv
  · rcases Int.lt_or_le (a - b) 0 with e | e
    · rw [lft_low e]
      exact ⟨k - m + r, by rw [Int.add_mul, Int.sub_mul, hk, hm, Int.mul_add, Int.mul_sub]; omega⟩
    · rw [lft_pos e]
      exact ⟨k - m, by rw [Int.sub_mul, hk, hm, Int.mul_sub]; omega⟩
theorem ev_odd {r p u v a b : Int} (h : Ev r p u v a b) (hu : u ≠ 1) : p % 2 = 1 := by
  obtain ⟨_, _, _, h4⟩ := h
  omega
theorem ev_ne {r p u v a b : Int} (h : Ev r p u v a b) (h0 : 1 ≤ u) (hu : u ≠ 1) : u ≠ v := by
  rintro rfl
  have e : ((u.toNat : Nat) : Int) = u := Int.toNat_of_nonneg (by omega)
  exact h.1 u.toNat (by omega) (by rw [e]; exact Int.dvd_refl _) (by rw [e]; exact Int.dvd_refl _)
theorem ev_end {x p r v a b : Int} (hp : Pr p) (hx : x % p = r) (h : Ev r p 1 v a b) (h0 : 0 ≤ a) (h1 : a < p) : finv x p = a := by
  have hp2 := hp.1
  obtain ⟨_, ⟨k, hk⟩, _, _⟩ := h
  refine finv_eq hp ⟨h0, h1, ?_⟩
  rw [Int.mul_emod, hx, Int.emod_eq_of_lt h0 h1, Int.mul_comm, hk, Int.add_mul_emod_self_left]
  exact Int.emod_eq_of_lt (by omega) (by omega)

set_option maxHeartbeats 1000000 in
theorem pHalf_any (n f p : Int) (w : World) (hn : 0 ≤ n ∧ n ≤ 65521) (hf0 : 0 ≤ f ∧ f < p) (hp : p ≤ 65521) :
    Calls Tryd.prog 95 #[.agg #[.int .i64 n, .int .i64 f], .int .i64 p] w fun e w' => e = .returned (.agg #[.int .i64 (n / 2), .int .i64 (hf f p)]) ∧ Below w.heap.size w w' := by
  rcases Int.emod_two_eq f with e | e
  · rw [hf_even e]
    have e1 : (f % 2 != 0) = false := by simp; omega
    go_enter Tryd.func95, Tryd.ntmps95
    go_wp2_with fail
    exact bodyPost_ret (v := .agg #[.int .i64 (n / 2), .int .i64 (f / 2)]) (by simp [results, Tryd.results95, go_sem]) rfl ⟨rfl, ((Below.refl _ _).alloc (Nat.le_refl _) _).alloc (by simp) _⟩
  · rw [hf_odd e]
    have e1 : (f % 2 != 0) = true := by simp; omega
    go_enter Tryd.func95, Tryd.ntmps95
    go_wp2_with fail
    exact bodyPost_ret (v := .agg #[.int .i64 (n / 2), .int .i64 ((f + p) / 2)]) (by simp [results, Tryd.results95, go_sem]) rfl ⟨rfl, ((Below.refl _ _).alloc (Nat.le_refl _) _).alloc (by simp) _⟩

/-- Two rows in the call's own memory. -/
structure Two (B : Nat) (W : World) (u v a b : Int) : Prop where
  u0 : W.cell? ⟨B, 0, none⟩ = some (.int .i64 u)
  u1 : W.cell? ⟨B, 1, none⟩ = some (.int .i64 a)
  v0 : W.cell? ⟨B + 1, 0, none⟩ = some (.int .i64 v)
  v1 : W.cell? ⟨B + 1, 1, none⟩ = some (.int .i64 b)
  f0 : W.frozen? ⟨B, 0, none⟩ = false
  f1 : W.frozen? ⟨B, 1, none⟩ = false
  f2 : W.frozen? ⟨B + 1, 0, none⟩ = false
  f3 : W.frozen? ⟨B + 1, 1, none⟩ = false
  sz : B + 2 ≤ W.heap.size
theorem Two.below {B : Nat} {W W' : World} {u v a b : Int} (h : Two B W u v a b) (hb : Below W.heap.size W W') : Two B W' u v a b := by
  have hs := h.sz
  have hc : ∀ k o, k < B + 2 → W'.cell? ⟨k, o, none⟩ = W.cell? ⟨k, o, none⟩ := fun k o hk => hb.cell (p := ⟨k, o, none⟩) (by simp only; omega)
  have hf : ∀ k o, k < B + 2 → W'.frozen? ⟨k, o, none⟩ = W.frozen? ⟨k, o, none⟩ := fun k o hk => hb.frozen (p := ⟨k, o, none⟩) (by simp only; omega)
  exact ⟨by rw [hc _ _ (by omega)]; exact h.u0, by rw [hc _ _ (by omega)]; exact h.u1, by rw [hc _ _ (by omega)]; exact h.v0, by rw [hc _ _ (by omega)]; exact h.v1,
    by rw [hf _ _ (by omega)]; exact h.f0, by rw [hf _ _ (by omega)]; exact h.f1, by rw [hf _ _ (by omega)]; exact h.f2, by rw [hf _ _ (by omega)]; exact h.f3, Nat.le_trans hs hb.size⟩
theorem Two.new (w : World) (u v a b : Int) : Two w.heap.size ((w.alloc (.cells #[.int .i64 u, .int .i64 a] 89)).alloc (.cells #[.int .i64 v, .int .i64 b] 89)) u v a b := by
  constructor <;> simp
theorem sc_same {W : World} {a : Addr} {u v : Value} (h : W.cell? a = some u) : (W.setCell a v).cell? a = some v := by
  apply World.cell?_setCell_same
  exact h
theorem sc_other {W : World} {a b : Addr} {v : Value} (h : a ≠ b) : (W.setCell a v).cell? b = W.cell? b := by
  apply World.cell?_setCell_other
  exact h
theorem Two.put {B : Nat} {W : World} {u v a b : Int} (h : Two B W u v a b) (u' a' : Int) : Two B ((W.setCell ⟨B, 0, none⟩ (.int .i64 u')).setCell ⟨B, 1, none⟩ (.int .i64 a')) u' v a' b := by
  obtain ⟨c1, c2, c3, c4, f1, f2, f3, f4, hsz⟩ := h
  refine ⟨?_, ?_, ?_, ?_, by simpa using f1, by simpa using f2, by simpa using f3, by simpa using f4, by simpa using hsz⟩
  · rw [sc_other (by simp)]
    exact sc_same c1
  · exact sc_same (u := .int .i64 a) (by rw [sc_other (by simp)]; exact c2)
  · rw [sc_other (by simp), sc_other (by simp)]
    exact c3
  · rw [sc_other (by simp), sc_other (by simp)]
    exact c4
theorem Two.put' {B : Nat} {W : World} {u v a b : Int} (h : Two B W u v a b) (v' b' : Int) : Two B ((W.setCell ⟨B + 1, 0, none⟩ (.int .i64 v')).setCell ⟨B + 1, 1, none⟩ (.int .i64 b')) u v' a b' := by
  obtain ⟨c1, c2, c3, c4, f1, f2, f3, f4, hsz⟩ := h
  refine ⟨?_, ?_, ?_, ?_, by simpa using f1, by simpa using f2, by simpa using f3, by simpa using f4, by simpa using hsz⟩
  · rw [sc_other (by simp), sc_other (by simp)]
    exact c1
  · rw [sc_other (by simp), sc_other (by simp)]
    exact c2
  · rw [sc_other (by simp)]
    exact sc_same c3
  · exact sc_same (u := .int .i64 b) (by rw [sc_other (by simp)]; exact c4)
theorem Two.drew {B : Nat} {W : World} {u v a b : Int} (h : Two B W u v a b) : Two B W.drew u v a b := ⟨h.u0, h.u1, h.v0, h.v1, h.f0, h.f1, h.f2, h.f3, h.sz⟩
/-- The two numbers together. -/
def rowSum (B : Nat) (W : World) : Nat := (intOf ((W.cell? ⟨B, 0, none⟩).getD (.int .i64 0))).toNat + (intOf ((W.cell? ⟨B + 1, 0, none⟩).getD (.int .i64 0))).toNat
theorem Two.sum {B : Nat} {W : World} {u v a b : Int} (h : Two B W u v a b) : rowSum B W = u.toNat + v.toNat := by
  unfold rowSum
  rw [h.u0, h.v0]
  rfl

set_option maxRecDepth 100000 in
set_option maxHeartbeats 1000000 in
theorem pInverse_any (x p r : Int) (w : World) (hp : Pr p) (hx : x % p = r) (hr0 : 1 ≤ r) (hr1 : r < p) :
    Calls Tryd.prog 92 #[.int .i64 r, .int .i64 p] w fun e w' => e = .returned (.int .i64 (finv x p)) ∧ Below w.heap.size w w' := by
  have ST := Lib.hid (ev_start hp hr0 hr1)
  have END := Lib.hid (fun v a b => @ev_end x p r v a b hp hx)
  have HALF := Lib.hid (fun u v a b => @ev_half r p u v a b)
  have SWAP := Lib.hid (fun u v a b => @ev_swap r p u v a b)
  have SUB := Lib.hid (fun u v a b => @ev_sub r p u v a b)
  have ODD := Lib.hid (fun u v a b => @ev_odd r p u v a b)
  have NE := Lib.hid (fun u v a b => @ev_ne r p u v a b)
  have hp9 := hp.2.1
  have hp2 := hp.1
  have HH := Lib.hid (fun n f W hn hf0 => pHalf_any n f p W hn hf0 hp9)
  have LF := Lib.hid (fun a W h => pLifted_any a p W (by omega) h (by omega))
  have TW := Lib.hid (Two.new w r p 1 0)
  have HBL := Lib.hid (((Below.refl w.heap.size w).alloc (Nat.le_refl _) (.cells #[.int .i64 r, .int .i64 1] 89)).alloc (by simp) (.cells #[.int .i64 p, .int .i64 0] 89))
  generalize Ev r p = EV at *
  generalize finv x p = res at *
  clear hp hx
  go_enter Tryd.func92, Tryd.ntmps92
  go_wp2_with fail
  go_step3
  go_wp2_with fail
  go_step3
  go_wp2_with fail
  go_loopw [] (fun wr => ∃ u v a b : Int, 1 ≤ u ∧ u ≤ p ∧ 1 ≤ v ∧ v ≤ p ∧ 0 ≤ a ∧ a < p ∧ 0 ≤ b ∧ b < p ∧ Hid (EV u v a b) ∧ Hid (Two w.heap.size wr u v a b) ∧ Hid (Below w.heap.size w wr)) (fun wr => rowSum w.heap.size wr)
  case atStart => exact ⟨r, p, 1, 0, hr0, by omega, by omega, by omega, by omega, by omega, by omega, by omega, ST, TW, HBL⟩
  case round =>
    rename_i wr
    obtain ⟨u0, v0, a0, b0, hu1, hu2, hv1, hv2, ha1, ha2, hb1, hb2, hE, hT, hB⟩ := hrel
    have hsum := hT.out.sum
    have HSUM := Lib.hid hsum
    obtain ⟨c1, c2, c3, c4, f1, f2, f3, f4, hsz⟩ := hT.out
    clear hsum TW HBL ST
    go_wp2_with fail
    go_loopw [] (fun wq => ∃ u v a b : Int, 1 ≤ u ∧ u ≤ p ∧ 1 ≤ v ∧ v ≤ p ∧ 0 ≤ a ∧ a < p ∧ 0 ≤ b ∧ b < p ∧ u + v ≤ u0 + v0 ∧ Hid (EV u v a b) ∧ Hid (Two w.heap.size wq u v a b) ∧ Hid (Below w.heap.size w wq)) (fun wq => rowSum w.heap.size wq)
    case atStart => exact ⟨u0, v0, a0, b0, hu1, hu2, hv1, hv2, ha1, ha2, hb1, hb2, by omega, hE, hT, hB⟩
    case round =>
      clear c1 c2 c3 c4 f1 f2 f3 f4 hsz hT hB hE
      obtain ⟨u, v, a, b, gu1, gu2, gv1, gv2, ga1, ga2, gb1, gb2, hle, hE, hT, hB⟩ := hrel
      have HSQ := Lib.hid hT.out.sum
      obtain ⟨c1, c2, c3, c4, f1, f2, f3, f4, hsz⟩ := hT.out
      by_cases hev : u % 2 = 0
      · have hev1 : (u % 2 == 0) = true := by simp; omega
        have HE2 := Lib.hid (HALF.out u v a b hE.out hev)
        have H1 := Lib.hid (HH.out u a wr ⟨by omega, by omega⟩ ⟨ga1, ga2⟩)
        have hh := hf_bd (a := a) (p := p) ga1 ga2
        generalize hf a p = ha at *
        go_wp2_with (go_at_call 95; with_reducible refine H1.out.mono ?_; rintro e w1 ⟨rfl, hb⟩; have hT1 := hT.out.below hb; have HB1 := Lib.hid (hB.out.trans (hb.mono (by omega))); have HT1 := Lib.hid hT1; clear hb c1 c2 c3 c4 f1 f2 f3 f4 hsz; obtain ⟨c1, c2, c3, c4, f1, f2, f3, f4, hsz⟩ := hT1)
        go_roundw
        case rel => exact ⟨u / 2, v, ha, b, by omega, by omega, gv1, gv2, hh.1, hh.2, gb1, gb2, by omega, HE2, Lib.hid (HT1.out.put _ _), Lib.hid ((HB1.out.setCell (p := ⟨w.heap.size, 0, none⟩) (Nat.le_refl _) _).setCell (p := ⟨w.heap.size, 1, none⟩) (Nat.le_refl _) _)⟩
        case measure => rw [(HT1.out.put _ _).sum, HSQ.out]; omega
      · have hev1 : (u % 2 == 0) = false := by simp; omega
        by_cases hone : u = 1
        · subst hone
          have hres := END.out v a b hE.out ga1 ga2
          subst hres
          go_wp2_with fail
          try rw [Exit.noGoto_ret]
          go_ret
          exact ⟨rfl, hB.out⟩
        · have hone1 : (u == 1) = false := by simpa using hone
          have hp1 := ODD.out u v a b hE.out hone
          have hne := NE.out u v a b hE.out gu1 hone
          by_cases hlt : u < v
          · have HE2 := Lib.hid (SUB.out v u b a (SWAP.out u v a b hE.out hone) hp1)
            go_wp2_with fail
            have hT5 := (hT.out.put v b).put' u a
            have hB5 := (((hB.out.setCell (p := ⟨w.heap.size, 0, none⟩) (Nat.le_refl _) (.int .i64 v)).setCell (p := ⟨w.heap.size, 1, none⟩) (Nat.le_refl _) (.int .i64 b)).setCell (p := ⟨w.heap.size + 1, 0, none⟩) (by simp) (.int .i64 u)).setCell (p := ⟨w.heap.size + 1, 1, none⟩) (by simp) (.int .i64 a)
            clear c1 c2 c3 c4 f1 f2 f3 f4 hsz hT hB hE HSQ
            generalize ((((wr.setCell ⟨w.heap.size, 0, none⟩ (.int .i64 v)).setCell ⟨w.heap.size, 1, none⟩ (.int .i64 b)).setCell ⟨w.heap.size + 1, 0, none⟩ (.int .i64 u)).setCell ⟨w.heap.size + 1, 1, none⟩ (.int .i64 a)) = w5 at *
            have L := (LF.out (b - a) (World.drew w5) (by omega)).mono (fun _ _ h => (⟨h.1, h.2.symm⟩ : _ ∧ _ = World.drew w5))
            have hlb : 0 ≤ lft (b - a) p ∧ lft (b - a) p < p := by unfold lft; split <;> omega
            generalize lft (b - a) p = l at *
            have HT6 := Lib.hid hT5.drew
            have HB6 := Lib.hid hB5.drew
            obtain ⟨c1, c2, c3, c4, f1, f2, f3, f4, hsz⟩ := hT5
            have e1 : IntKind.i64.wrap (v - u) = v - u := by rw [IntKind.wrap_i64]; omega
            have e2 : IntKind.i64.wrap (b - a) = b - a := by rw [IntKind.wrap_i64]; omega
            clear hB5
            go_still_tail 13, (by kernel_rfl)
            still_call L
            still_step
            refine wpStill_nil ?_
            change wpList _ _ _ _ _ (World.drew w5)
            clear c1 c2 c3 c4 f1 f2 f3 f4 hsz e1 e2 L
            generalize World.drew w5 = w6 at *
            obtain ⟨c1, c2, c3, c4, f1, f2, f3, f4, hsz⟩ := HT6.out
            go_wp2_with fail
            go_roundw
            case rel => exact ⟨v - u, u, l, a, by omega, by omega, by omega, by omega, hlb.1, hlb.2, by omega, by omega, HE2, Lib.hid (HT6.out.put _ _), Lib.hid ((HB6.out.setCell (p := ⟨w.heap.size, 0, none⟩) (Nat.le_refl _) _).setCell (p := ⟨w.heap.size, 1, none⟩) (Nat.le_refl _) _)⟩
            case measure => rw [(HT6.out.put _ _).sum, HSUM.out]; omega
          · have HE2 := Lib.hid (SUB.out u v a b hE.out hp1)
            go_wp2_with fail
            have hT5 := hT.out
            have hB5 := hB.out
            clear c1 c2 c3 c4 f1 f2 f3 f4 hsz hT hB hE HSQ
            generalize wr = w5 at *
            have L := (LF.out (a - b) (World.drew w5) (by omega)).mono (fun _ _ h => (⟨h.1, h.2.symm⟩ : _ ∧ _ = World.drew w5))
            have hlb : 0 ≤ lft (a - b) p ∧ lft (a - b) p < p := by unfold lft; split <;> omega
            generalize lft (a - b) p = l at *
            have HT6 := Lib.hid hT5.drew
            have HB6 := Lib.hid hB5.drew
            obtain ⟨c1, c2, c3, c4, f1, f2, f3, f4, hsz⟩ := hT5
            have e1 : IntKind.i64.wrap (u - v) = u - v := by rw [IntKind.wrap_i64]; omega
            have e2 : IntKind.i64.wrap (a - b) = a - b := by rw [IntKind.wrap_i64]; omega
            clear hB5
            go_still_tail 13, (by kernel_rfl)
            still_call L
            still_step
            refine wpStill_nil ?_
            change wpList _ _ _ _ _ (World.drew w5)
            clear c1 c2 c3 c4 f1 f2 f3 f4 hsz e1 e2 L
            generalize World.drew w5 = w6 at *
            obtain ⟨c1, c2, c3, c4, f1, f2, f3, f4, hsz⟩ := HT6.out
            go_wp2_with fail
            go_roundw
            case rel => exact ⟨u - v, v, l, b, by omega, by omega, by omega, by omega, hlb.1, hlb.2, by omega, by omega, HE2, Lib.hid (HT6.out.put _ _), Lib.hid ((HB6.out.setCell (p := ⟨w.heap.size, 0, none⟩) (Nat.le_refl _) _).setCell (p := ⟨w.heap.size, 1, none⟩) (Nat.le_refl _) _)⟩
            case measure => rw [(HT6.out.put _ _).sum, HSUM.out]; omega

set_option maxHeartbeats 1000000 in
theorem pInv_any (a p : Int) (w : World) (h2 : -9223372036854775808 ≤ p) (h3 : p ≤ 9223372036854775807) (hT : TabAt w) :
    Calls Tryd.prog 83 #[.int .i64 a, .int .i64 p] w fun e w' => e = .returned (.tuple #[.int .i64 (finv a p), .int .i64 (einv a p)]) ∧ Below w.heap.size w w' := by
  have C := pCheck_any p w h2 h3 hT
  clear hT
  have R1 := pRed_any a p w h2 h3
  rcases primB_or p with ⟨hb, hpr⟩ | ⟨hb, hpr⟩
  · rw [chk_yes hb] at C
    rw [(red_pr hpr).1] at R1
    have hx := (red_pr (a := a) hpr).2
    by_cases h0 : a % p = 0
    · rw [finv_zero h0, einv_zero hb h0]
      rw [h0] at R1
      have CC := Lib.hid C
      have RR := Lib.hid R1
      clear C R1 hx h0 hb hpr
      go_enter Tryd.func83, Tryd.ntmps83
      go_wp2_with (first
        | (go_at_call 36; with_reducible refine CC.out.mono ?_; rintro e w' ⟨rfl, rfl⟩)
        | (go_at_call 56; with_reducible refine RR.out.mono ?_; rintro e w' ⟨rfl, rfl⟩))
      go_ret2
      exact ⟨rfl, Below.refl _ _⟩
    · rw [einv_yes hb h0]
      have I := pInverse_any a p (a % p) w hpr rfl (by omega) hx.2
      have hr0 : ((a % p) == 0) = false := by simpa using h0
      generalize finv a p = v at *
      generalize a % p = r at *
      have II := Lib.hid I
      have CC := Lib.hid C
      have RR := Lib.hid R1
      clear C R1 I hx h0 hb hpr
      go_enter Tryd.func83, Tryd.ntmps83
      go_wp2_with (first
        | (go_at_call 36; with_reducible refine CC.out.mono ?_; rintro e w' ⟨rfl, rfl⟩)
        | (go_at_call 56; with_reducible refine RR.out.mono ?_; rintro e w' ⟨rfl, rfl⟩)
        | (go_at_call 92; with_reducible refine II.out.mono ?_; rintro e w1 ⟨rfl, hb⟩; have HB := Lib.hid hb; clear hb))
      go_ret2
      exact ⟨rfl, HB.out⟩
  · rw [chk_no hb] at C
    rw [einv_no hb, finv_no hpr]
    have CC := Lib.hid C
    clear C R1 hb hpr
    go_enter Tryd.func83, Tryd.ntmps83
    go_wp2_with (go_at_call 36; with_reducible refine CC.out.mono ?_; rintro e w' ⟨rfl, rfl⟩)
    go_ret2
    exact ⟨rfl, Below.refl _ _⟩

end Go.Proofs.YtbipbpakbanacaaDoor
