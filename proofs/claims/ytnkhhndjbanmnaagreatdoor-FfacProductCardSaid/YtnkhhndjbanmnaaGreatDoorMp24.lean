/- Texts joined, in their order: PrgPowM, BerA, EchM. -/
import Derived.Test.YtnkhhndjbanmnaaGreatDoorMp2
import Derived.Test.YtnkhhndjbanmnaaGreatDoorMp14
import Derived.Test.YtnkhhndjbanmnaaGreatDoorMp18
import Derived.Test.YtnkhhndjbanmnaaGreatDoorMp23

/- fpoly.PowMod, in the one form that the laws' walks take. -/
namespace Go.Proofs.YtnkhhndjbanmnaaGreatDoor
open Go.RowKit Go.Shelf

set_option maxRecDepth 100000 in
theorem field_abs (b : Bool) (G : Option Addr) (g q : Nat) (W : World) : (Instr.field 125 (.agg #[.bool b, .slice G g q]) 1).run Tryz.prog W = .ok (.slice G g q) W := by
  first
    | rfl
    | kernel_rfl
    | simp [Instr.field, go_sem]

set_option maxRecDepth 100000 in
set_option maxRecDepth 100000 in
set_option maxHeartbeats 4000000 in
theorem cPowMod (A B E : Option Addr) (n c n' c' k d : Nat) (xs ys : List Int) (neg : Bool) (es : List Nat) (p : Int) (w : World) (hT : TabAt w) (h : ISl w A n c xs) (h' : ISl w B n' c' ys) (hE : Sl w E k d es) (ip : In64 p) (hn : n ≤ 1000000) (hn' : n' ≤ 1000000) (hk : k ≤ 1000000) :
    Calls Tryz.prog 136 #[.slice A n c, .agg #[.bool neg, .slice E k d], .slice B n' c', .int .i64 p] w fun e w' => ∃ C m d, e = .returned (.tuple #[.slice C m d, .int .i64 (epw p (zsg neg (val es)) (cf ys))]) ∧ Got w C m d (powL p (zsg neg (val es)) (val es) (cf xs) (cf ys)) n' w' := by
  obtain ⟨w0, hw0⟩ : ∃ w0, w0 = w.alloc (.cells #[.bool neg, .slice E k d] 125) := ⟨_, rfl⟩
  have hb0 : Below w.heap.size w w0 := by rw [hw0]; exact below_al _ _
  have hs0 : w0.heap.size = w.heap.size + 1 := by rw [hw0]; simp
  have C := pCheck_any p w0 ip.1 ip.2 (hT.below hb0)
  rcases Classical.em (Pr p) with hp | hp
  · rw [chk_yes (primB_yes hp)] at C
    have S := pSign_any neg E k d es w0 (hE.below hb0) (by omega)
    by_cases hz : zsg neg (val es) < 0
    · have he := epw_neg (p := p) (b := cf ys) hz
      have hpl := powL_no (V := val es) (f := cf xs) (show epw p (zsg neg (val es)) (cf ys) ≠ 0 by rw [he]; decide)
      rw [he, hpl]
      obtain ⟨z, hz0⟩ : ∃ z, zsg neg (val es) = z := ⟨_, rfl⟩
      rw [hz0] at S hz
      rw [hw0] at C S
      have CC := Lib.hid C
      have SS := Lib.hid S
      have HB := Lib.hid (below_al w (.cells #[.bool neg, .slice E k d] 125))
      clear C S h h' hE hT ip hp hb0 hs0 hw0 he hpl hz0 w0
      go_enter Tryz.func136, Tryz.ntmps136
      go_wp2_with (first
        | (go_at_call 48; (with_reducible refine CC.out.mono ?_); rintro e w1 ⟨rfl, rfl⟩)
        | (go_at_call 170; (with_reducible refine SS.out.mono ?_); rintro e w1 ⟨rfl, hb1⟩; have HB1 := Lib.hid hb1; clear hb1))
      go_ret2
      exact ⟨none, 0, 0, rfl, got_nil (HB.out.trans (HB1.out.mono HB.out.size)) rfl⟩
    · have hz0 : 0 ≤ zsg neg (val es) := by omega
      have c0 : w0.cell? ⟨w.heap.size, 0, none⟩ = some (.bool neg) := by rw [hw0]; simp
      have c1 : w0.cell? ⟨w.heap.size, 1, none⟩ = some (.slice E k d) := by rw [hw0]; simp
      have P2 := Lib.hid (fun W (hb : Below w0.heap.size w0 W) => pPlain_any B n' c' ys p W ((h'.below hb0).below hb) hp.md (by omega))
      have P1 := Lib.hid (fun W (hb : Below w0.heap.size w0 W) => pPlain_any A n c xs p W ((h.below hb0).below hb) hp.md (by omega))
      have ZN := Lib.hid (fun W (hb : Below w0.heap.size w0 W) => pZNorm_any neg E k d es W ((hE.below hb0).below hb) (by omega))
      have HT0 := Lib.hid (hT.below hb0)
      have PR := Lib.hid hp
      have HB0 := Lib.hid hb0
      have HS0 := Lib.hid hs0
      have CC := Lib.hid C
      have SS := Lib.hid S
      have HZ0 := Lib.hid hz0
      obtain ⟨sg, hsg⟩ : ∃ sg, zsg neg (val es) = sg := ⟨_, rfl⟩
      rw [hsg] at SS HZ0 hz
      rw [hsg]
      have C0 := Lib.hid c0
      have C1 := Lib.hid c1
      have HW0 := Lib.hid hw0
      obtain ⟨V, hV⟩ : ∃ V, val es = V := ⟨_, rfl⟩
      rw [hV]
      have HV := Lib.hid hV
      clear C S h h' hE hT ip hp hb0 hs0 hz0 c0 c1 hV hsg
      go_enter Tryz.func136, Tryz.ntmps136
      rw [hw0] at CC SS
      go_wp2_with (first
        | (go_at_call 48; (with_reducible refine CC.out.mono ?_); rintro e w1 ⟨rfl, rfl⟩)
        | (go_at_call 170; (with_reducible refine SS.out.mono ?_); rintro e w1 ⟨rfl, hb1⟩; rw [← HW0.out] at hb1; have HB1 := Lib.hid hb1; clear hb1))
      have c0w : w1.cell? ⟨w.heap.size, 0, none⟩ = some (.bool neg) := (HB1.out.cell (p := ⟨w.heap.size, 0, none⟩) (by rw [HS0.out]; show w.heap.size < _; omega)).trans C0.out
      have c1w : w1.cell? ⟨w.heap.size, 1, none⟩ = some (.slice E k d) := (HB1.out.cell (p := ⟨w.heap.size, 1, none⟩) (by rw [HS0.out]; show w.heap.size < _; omega)).trans C1.out
      have C0W := Lib.hid c0w
      have C1W := Lib.hid c1w
      have hs1 : w.heap.size + 1 ≤ w1.heap.size := by rw [← HS0.out]; exact HB1.out.size
      clear c0w c1w CC SS C0 C1 hw0
      refine (P2.out _ HB1.out).mono ?_
      rintro e w2 ⟨v2, rfl, Y, m2, d2, fy, rfl, hY, py, hm2, -, hb2⟩
      have c0 : w2.cell? ⟨w.heap.size, 0, none⟩ = some (.bool neg) := (hb2.cell (p := ⟨w.heap.size, 0, none⟩) (show w.heap.size < w1.heap.size by omega)).trans C0W.out
      have c1 : w2.cell? ⟨w.heap.size, 1, none⟩ = some (.slice E k d) := (hb2.cell (p := ⟨w.heap.size, 1, none⟩) (show w.heap.size < w1.heap.size by omega)).trans C1W.out
      have hs2 : w.heap.size + 1 ≤ w2.heap.size := Nat.le_trans hs1 hb2.size
      have hY9 := hY.le
      have hY8 := hY.max
      have HY := Lib.hid hY
      have PY := Lib.hid py
      have HYL := Lib.hid hY.len
      have HB2 := Lib.hid (HB1.out.trans (hb2.mono HB1.out.size))
      have HBW2 := Lib.hid (HB0.out.trans (HB2.out.mono HB0.out.size))
      clear hY py hb2 P2 C0W C1W hs1
      by_cases h0 : m2 = 0
      · subst h0
        have hb0 : Ser.Bd p (cf ys) 0 := ((PY.out).nought (by have := PR.out.1; omega)).1 (List.eq_nil_of_length_eq_zero HYL.out.symm)
        have he := epw_zero PR.out HZ0.out hb0
        have EP := Lib.hid he
        have PL := Lib.hid (powL_no (V := V) (f := cf xs) (show epw p sg (cf ys) ≠ 0 by rw [he]; decide))
        clear hb0 he c0 c1
        go_wp2_with fail
        go_ret2
        exact ⟨none, 0, 0, (by rw [EP.out] <;> rfl), got_nil HBW2.out PL.out⟩
      · obtain ⟨m, rfl⟩ : ∃ m, m2 = m + 1 := ⟨m2 - 1, by omega⟩
        have hl := last_plain PR.out PY.out HYL.out.symm
        have EP := Lib.hid (epw_yes PR.out HZ0.out hl.some)
        have LA := Lib.hid hl
        have hpos : ((m : Int) + 1 == 0) = false := by simp; omega
        have PWR := Lib.hid (fun (X G : Option Addr) (a b g q : Nat) (fx : List Int) (gs : List Nat) (W : World) (hb : Below w2.heap.size w2 W) (hX : ISl W X a b fx) (hG : Sl W G g q gs) (hx : Pln p fx) (ha : a ≤ 100000000) (hg : g ≤ 100000000) => pPower_any X Y G a b (m + 1) d2 g q m fx fy gs p W ((HT0.out.below HB2.out).below hb) hX (HY.out.below hb) hG PR.out hx PY.out.1 rfl ha (by omega) hg)
        have P1' := Lib.hid (fun W (hb : Below w2.heap.size w2 W) => P1.out W (HB2.out.trans (hb.mono HB2.out.size)))
        have ZN' := Lib.hid (fun W (hb : Below w2.heap.size w2 W) => ZN.out W (HB2.out.trans (hb.mono HB2.out.size)))
        clear hl h0 P1 ZN
        have hfld := field_abs
        go_wp2_with fail
        go_region_held3 (fun W => W.cell? ⟨w.heap.size, 0, none⟩ = some (.bool neg) ∧ W.cell? ⟨w.heap.size, 1, none⟩ = some (.slice E k d))
          (first
            | go_keep
            | (constructor <;> (first | (rw [HB7.out.cell (show w.heap.size < w2.heap.size by omega)]; assumption)))
            | (constructor <;> (first | (rw [HB6.out.cell (show w.heap.size < w2.heap.size by omega)]; assumption)))
            | (constructor <;> (first | (rw [HB5.out.cell (show w.heap.size < w2.heap.size by omega)]; assumption))))
          (first
            | (go_at_call 49; refine (P1'.out _ ((Below.refl _ _).drew)).mono ?_; rintro e5 w5 ⟨v5, rfl, X, a, b, fx, rfl, hX, px, ha, -, hb5⟩; have HX := Lib.hid hX; have PX := Lib.hid px; have HA := Lib.hid ha; have HB5 : Hid (Below w2.heap.size w2 w5) := Lib.hid (((Below.refl _ _).drew).trans hb5); clear hX px ha hb5)
            | (go_at_call 172; refine (ZN'.out _ HB5.out).mono ?_; rintro e6 w6 ⟨bb, G, g, q, rfl, hG, hg, hb6⟩; have HG := Lib.hid hG; have HGL := Lib.hid hg; have HB6 : Hid (Below w2.heap.size w2 w6) := Lib.hid (HB5.out.trans (hb6.mono HB5.out.size)); have HX6 := Lib.hid (HX.out.below hb6); clear hG hg hb6)
            | (go_at_call 171; refine Calls.mono (PWR.out _ _ _ _ _ _ _ _ _ HB6.out HX6.out HG.out PX.out.1 (Nat.le_trans HA.out (by omega)) (Nat.le_trans HGL.out (by omega))) ?_; rintro e7 w7 ⟨v7, rfl, hri, hb7⟩; have HRI := Lib.hid hri; have HB7 : Hid (Below w2.heap.size w2 w7) := Lib.hid (HB6.out.trans (hb7.mono HB6.out.size)); clear hri hb7)
            | fail)
        go_wp2_with fail
        go_ret2
        obtain ⟨C, k1, d1, rs, rfl, hs, hpl, hro, hk1⟩ := HRI.out
        rw [val_nrm, HV.out] at hro
        have hro2 : RestOf p m (Ser.pw (cf xs) V) (cf ys) (cf rs) := (hro.eq (PX.out.2.pw V)).eqB PY.out.2
        have hpw := powL_is PR.out HZ0.out LA.out hro2 (Pol.self hpl)
        exact ⟨C, k1, d1, (by rw [EP.out] <;> rfl), by rw [hpw]; exact hs, by omega, HBW2.out.trans (HB7.out.mono HBW2.out.size)⟩
  · have he := epw_no (sg := zsg neg (val es)) (b := cf ys) hp
    have hpl := powL_no (V := val es) (f := cf xs) (show epw p (zsg neg (val es)) (cf ys) ≠ 0 by rw [he]; decide)
    rw [chk_no (primB_no hp)] at C
    rw [he, hpl]
    rw [hw0] at C
    have CC := Lib.hid C
    have HB := Lib.hid (below_al w (.cells #[.bool neg, .slice E k d] 125))
    clear C h h' hE hT ip hp hb0 hs0 hw0 he hpl w0
    go_enter Tryz.func136, Tryz.ntmps136
    go_wp2_with (go_at_call 48; (with_reducible refine CC.out.mono ?_); rintro e w1 ⟨rfl, rfl⟩)
    go_ret2
    exact ⟨none, 0, 0, rfl, got_nil HB.out rfl⟩
end Go.Proofs.YtnkhhndjbanmnaaGreatDoor

/- The p-th power of a polynomial, less it, is the product of it less each residue; what is its own p-th power by what can't be parted is a residue there. Mathematics alone. -/
namespace Go.Proofs.YtnkhhndjbanmnaaGreatDoor
open Ser (Bd)

def lin (y : Ser) (c : Int) : Ser := Ser.add y (Ser.con (-c))
def prodS (y : Ser) : Nat → Ser
  | 0 => Ser.con 1
  | n + 1 => Ser.mul (prodS y n) (lin y n)
def stir : Nat → Nat → Int
  | 0, 0 => 1
  | 0, _ + 1 => 0
  | n + 1, 0 => -(n : Int) * stir n 0
  | n + 1, k + 1 => stir n k + -(n : Int) * stir n (k + 1)
theorem stir_over (n : Nat) : ∀ k, n < k → stir n k = 0 := by
  induction n with
  | zero => intro k hk; obtain ⟨j, rfl⟩ : ∃ j, k = j + 1 := ⟨k - 1, by omega⟩; rfl
  | succ n ih =>
    intro k hk
    obtain ⟨j, rfl⟩ : ∃ j, k = j + 1 := ⟨k - 1, by omega⟩
    rw [stir, ih j (by omega), ih (j + 1) (by omega), Int.mul_zero, Int.zero_add]
theorem sumS_sc (c : Int) (F : Nat → Ser) (n : Nat) : Ser.sumS (fun k => Ser.sc c (F k)) n = Ser.sc c (Ser.sumS F n) := by
  induction n with
  | zero => funext i; show (0 : Int) = c * 0; rw [Int.mul_zero]
  | succ n ih =>
    rw [Ser.sumS, ih, Ser.sumS]
    funext i
    show c * Ser.sumS F n i + c * F n i = c * (Ser.sumS F n i + F n i)
    rw [Int.mul_add]
theorem sumS_eq {p : Int} (F G : Nat → Ser) (n : Nat) (h : ∀ k, k < n → Ser.Eq p (F k) (G k)) : Ser.Eq p (Ser.sumS F n) (Ser.sumS G n) := by
  induction n with
  | zero => exact Ser.Eq.refl _ _
  | succ n ih => exact (ih fun k hk => h k (by omega)).add (h n (by omega))
theorem sumS_at (F : Nat → Ser) (n i : Nat) : Ser.sumS F (n + 1) i = Ser.sumS F n i + F n i := rfl
theorem sumS_one (G : Nat → Ser) (a n : Nat) : Ser.sumS (fun k => Ser.sc (if k = a then 1 else 0) (G k)) n = if a < n then G a else Ser.zer := by
  induction n with
  | zero => rw [if_neg (by omega)]; rfl
  | succ n ih =>
    rw [Ser.sumS, ih]
    funext i
    by_cases h1 : a < n
    · rw [if_pos h1, if_neg (show ¬ n = a by omega), if_pos (show a < n + 1 by omega)]
      show G a i + 0 * G n i = G a i
      omega
    · rw [if_neg h1]
      by_cases h2 : n = a
      · subst h2
        rw [if_pos rfl, if_pos (show n < n + 1 by omega)]
        show (0 : Int) + 1 * G n i = G n i
        omega
      · rw [if_neg h2, if_neg (show ¬ a < n + 1 by omega)]
        show (0 : Int) + 0 * G n i = 0
        omega
theorem sumS_mono (a : Nat → Int) (n i : Nat) : Ser.sumS (fun k => Ser.sc (a k) (Ser.mono 1 k)) n i = if i < n then a i else 0 := by
  induction n with
  | zero => rw [if_neg (by omega)]; rfl
  | succ n ih =>
    rw [sumS_at, ih]
    show (if i < n then a i else 0) + a n * (if i = n then 1 else 0) = _
    by_cases h : i = n
    · subst h; rw [if_neg (by omega), if_pos rfl, if_pos (by omega)]; omega
    · rw [if_neg h]
      by_cases h2 : i < n
      · rw [if_pos h2, if_pos (by omega)]; omega
      · rw [if_neg h2, if_neg (by omega)]; omega
theorem prodS_sum (y : Ser) (n : Nat) : prodS y n = Ser.sumS (fun k => Ser.sc (stir n k) (Ser.pw y k)) (n + 1) := by
  induction n with
  | zero => funext i; show Ser.con 1 i = 0 + 1 * Ser.con 1 i; omega
  | succ n ih =>
    have e1 : prodS y (n + 1) = Ser.add (Ser.mul (prodS y n) y) (Ser.sc (-(n : Int)) (prodS y n)) := by
      rw [prodS, lin, Ser.mul_add, Ser.mul_comm (prodS y n) (Ser.con _), Ser.con_mul]
    have e2 : Ser.mul (prodS y n) y = Ser.sumS (fun k => Ser.sc (stir n k) (Ser.pw y (k + 1))) (n + 1) := by
      rw [ih, Ser.mul_sumS]
      exact Ser.sumS_congr _ _ _ fun k _ => by rw [Ser.sc_mul, Ser.pw_succ]
    have e3 : Ser.sc (-(n : Int)) (prodS y n) = Ser.add (Ser.sc (-(n : Int)) (Ser.sc (stir n 0) (Ser.pw y 0))) (Ser.sumS (fun k => Ser.sc (-(n : Int)) (Ser.sc (stir n (k + 1)) (Ser.pw y (k + 1)))) (n + 1)) := by
      have e4 : prodS y n = Ser.sumS (fun k => Ser.sc (stir n k) (Ser.pw y k)) (n + 1 + 1) := by
        rw [Ser.sumS, ← ih, stir_over n (n + 1) (by omega)]
        funext i
        show _ = prodS y n i + 0 * _
        omega
      rw [e4, Ser.sumS_shift, sumS_sc (-(n : Int)) (fun k => Ser.sc (stir n (k + 1)) (Ser.pw y (k + 1)))]
      funext i
      exact Int.mul_add ..
    rw [e1, e2, e3, Ser.sumS_shift (fun k => Ser.sc (stir (n + 1) k) (Ser.pw y k)) (n + 1)]
    have e5 : Ser.sumS (fun k => Ser.sc (stir (n + 1) (k + 1)) (Ser.pw y (k + 1))) (n + 1) = Ser.add (Ser.sumS (fun k => Ser.sc (stir n k) (Ser.pw y (k + 1))) (n + 1)) (Ser.sumS (fun k => Ser.sc (-(n : Int)) (Ser.sc (stir n (k + 1)) (Ser.pw y (k + 1)))) (n + 1)) := by
      rw [← Ser.sumS_add]
      refine Ser.sumS_congr _ _ _ fun k _ => ?_
      funext i
      show stir (n + 1) (k + 1) * _ = stir n k * _ + -(n : Int) * (stir n (k + 1) * _)
      rw [stir, Int.add_mul, Int.mul_assoc]
    rw [e5]
    funext i
    show _ + (-(n : Int) * (stir n 0 * Ser.pw y 0 i) + _) = stir (n + 1) 0 * Ser.pw y 0 i + (_ + _)
    rw [stir, Int.mul_assoc]
    omega

/-! What divides. -/
theorem lin_fini {p : Int} {y : Ser} (h : Fini p y) (c : Int) : Fini p (lin y c) := h.add (fini_con p _)
def frobS (p : Int) (y : Ser) : Ser := Ser.add (Ser.pw y p.toNat) (Ser.sc (-1) y)
theorem frobS_fini {p : Int} {y : Ser} (h : Fini p y) : Fini p (frobS p y) := (fini_pw h _).add h.sc
theorem frobS_add {p : Int} (hp : Pr p) (y z : Ser) : Ser.Eq p (frobS p (Ser.add y z)) (Ser.add (frobS p y) (frobS p z)) := by
  refine ((Ser.frob hp y z).add (Ser.Eq.refl _ _)).trans (Ser.Eq.of ?_)
  funext i
  show Ser.pw y _ i + Ser.pw z _ i + -1 * (y i + z i) = Ser.pw y _ i + -1 * y i + (Ser.pw z _ i + -1 * z i)
  omega
theorem frobS_con {p : Int} (hp : Pr p) (c : Int) : Ser.Eq p (frobS p (Ser.con c)) Ser.zer := fun i => by
  show (Ser.pw (Ser.con c) p.toNat i + -1 * Ser.con c i) % p = 0 % p
  rw [pw_con]
  show ((if i = 0 then c ^ p.toNat else 0) + -1 * (if i = 0 then c else 0)) % p = 0 % p
  by_cases h : i = 0
  · rw [if_pos h, if_pos h]
    have := Int.emod_eq_emod_iff_emod_sub_eq_zero.1 (fermatZ hp c)
    rw [show c ^ p.toNat + -1 * c = c ^ p.toNat - c from by omega, this]; simp
  · rw [if_neg h, if_neg h]; simp
theorem pw_multS {p : Int} {y : Ser} (h : Fini p y) {n : Nat} (hn : 1 ≤ n) : Mult p y (Ser.pw y n) := by
  obtain ⟨k, rfl⟩ : ∃ k, n = k + 1 := ⟨n - 1, by omega⟩
  rw [Ser.pw_succ]
  exact (Mult.refl p y).byL (fini_pw h k)
theorem pr_nat {p : Int} (hp : Pr p) : 2 ≤ p.toNat := by have := hp.1; omega
theorem frobS_dvd {p : Int} (hp : Pr p) {y : Ser} (h : Fini p y) : Mult p y (frobS p y) := (pw_multS h (by have := pr_nat hp; omega)).add (Mult.refl p y).sc
theorem lin_dvd {p : Int} (hp : Pr p) {y : Ser} (h : Fini p y) (c : Int) : Mult p (lin y c) (frobS p y) := by
  refine (frobS_dvd hp (lin_fini h c)).eqR ((frobS_add hp y (Ser.con (-c))).trans ?_)
  refine ((Ser.Eq.refl p (frobS p y)).add (frobS_con hp (-c))).trans (Ser.Eq.of ?_)
  exact Ser.add_zer _
theorem irr_prodS {p : Int} (hp : Pr p) {q y : Ser} (hq : Irr p q) (hy : Fini p y) : ∀ n, Mult p q (prodS y n) → ∃ c : Nat, c < n ∧ Mult p q (lin y c) := by
  have hf : ∀ n, Fini p (prodS y n) := fun n => by
    induction n with
    | zero => exact fini_con p 1
    | succ n ih => exact ih.mul (lin_fini hy _)
  intro n
  induction n with
  | zero => exact fun h => absurd h (hq.not_unit hp (last_one hp))
  | succ n ih =>
    intro h
    rcases irr_mul hp hq (hf n) (lin_fini hy _) h with h | h
    · obtain ⟨c, h1, h2⟩ := ih h; exact ⟨c, by omega, h2⟩
    · exact ⟨n, by omega, h⟩
theorem lin_uniq {p : Int} (hp : Pr p) {q y : Ser} (hq : Irr p q) {c d : Int} (h : Mult p q (lin y c)) (k : Mult p q (lin y d)) : c % p = d % p := by
  refine Classical.byContradiction fun hn => ?_
  have hc : (c - d) % p ≠ 0 := fun e => hn (Int.emod_eq_emod_iff_emod_sub_eq_zero.2 e)
  refine hq.not_unit hp (last_con hc) ((k.add (h.sc (c := -1))).eqR (Ser.Eq.of ?_))
  funext i
  show y i + (if i = 0 then -d else 0) + -1 * (y i + (if i = 0 then -c else 0)) = if i = 0 then c - d else 0
  by_cases e : i = 0
  · rw [if_pos e, if_pos e, if_pos e]; omega
  · rw [if_neg e, if_neg e, if_neg e]; omega
theorem lin_of {p : Int} {q y : Ser} {c d : Int} (h : Mult p q (lin y c)) (e : c % p = d % p) : Mult p q (lin y d) := by
  refine h.eqR fun i => ?_
  show (y i + (if i = 0 then -c else 0)) % p = (y i + (if i = 0 then -d else 0)) % p
  by_cases k : i = 0
  · rw [if_pos k, if_pos k]
    refine Int.emod_eq_emod_iff_emod_sub_eq_zero.2 ?_
    have := Int.emod_eq_emod_iff_emod_sub_eq_zero.1 e.symm
    rwa [show y i + -c - (y i + -d) = d - c from by omega]
  · rw [if_neg k, if_neg k]
def Xs : Ser := Ser.mono 1 1
theorem xs_fini (p : Int) : Fini p Xs := ⟨2, fun i hi => by show (if i = 1 then (1 : Int) else 0) % p = 0; rw [if_neg (by omega)]; simp⟩
theorem mo_linX {p : Int} (hp : Pr p) (c : Int) : Mo p (lin Xs c) 1 := by
  refine ⟨fun i hi => ?_, ?_⟩
  · show ((if i = 1 then (1 : Int) else 0) + (if i = 0 then -c else 0)) % p = 0
    rw [if_neg (by omega), if_neg (by omega)]; simp
  · show ((if 1 = 1 then (1 : Int) else 0) + (if 1 = 0 then -c else 0)) % p = 1
    rw [if_pos rfl, if_neg (by omega)]
    exact pr_one hp
theorem irr_linear {p : Int} (hp : Pr p) {q : Ser} (h : Mo p q 1) : Irr p q := ⟨1, by omega, h, fun d k hd hm => by have := mult_le hp h.last hd hm; omega⟩
theorem irr_linX {p : Int} (hp : Pr p) (c : Int) : Irr p (lin Xs c) := irr_linear hp (mo_linX hp c)
theorem linX_apart {p : Int} (hp : Pr p) {c d : Int} (h : Mult p (lin Xs c) (lin Xs d)) : c % p = d % p := lin_uniq hp (irr_linX hp c) (Mult.refl p _) h
theorem mo_prodX {p : Int} (hp : Pr p) : ∀ n, Mo p (prodS Xs n) n := fun n => by
  induction n with
  | zero => exact mo_one hp
  | succ n ih => exact ih.mul hp (mo_linX hp _)
theorem mo_frobX {p : Int} (hp : Pr p) : Mo p (frobS p Xs) p.toNat := by
  have h2 := pr_nat hp
  have e : ∀ i, frobS p Xs i = (if i = p.toNat then 1 else 0) + -1 * (if i = 1 then 1 else 0) := fun i => by
    show Ser.pw (Ser.mono 1 1) p.toNat i + _ = _
    rw [pw_mono]; rfl
  refine ⟨fun i hi => ?_, ?_⟩
  · rw [e, if_neg (by omega), if_neg (by omega)]; simp
  · rw [e, if_pos rfl, if_neg (by omega)]; exact pr_one hp
theorem frobX_prod {p : Int} (hp : Pr p) : Ser.Eq p (frobS p Xs) (prodS Xs p.toNat) := by
  have key : ∀ j, j ≤ p.toNat → Mult p (prodS Xs j) (frobS p Xs) := by
    intro j
    induction j with
    | zero => exact fun _ => Mult.unit hp (last_one hp) (frobS_fini (xs_fini p))
    | succ j ih =>
      intro hj
      obtain ⟨u, fu, hu⟩ := ih (by omega)
      have hq := irr_linX hp (j : Int)
      have hd := (lin_dvd hp (xs_fini p) (j : Int)).eqR hu
      rcases irr_mul hp hq fu (mo_prodX hp j).last.fini hd with h | h
      · obtain ⟨v, fv, hv⟩ := h
        refine ⟨v, fv, hu.trans ((hv.mulL _).trans (Ser.Eq.of ?_))⟩
        rw [prodS, Ser.mul_assoc, Ser.mul_comm (lin Xs _)]
      · obtain ⟨c, hc, h⟩ := irr_prodS hp hq (xs_fini p) j h
        have := linX_apart hp h
        have h2 := hp.1
        rw [Int.emod_eq_of_lt (by omega) (by omega), Int.emod_eq_of_lt (by omega) (by omega)] at this
        omega
  have h := key _ (Nat.le_refl _)
  exact (mo_eq hp (mo_prodX hp _) (mo_frobX hp) h (mult_swap hp (mo_prodX hp _).last (mo_frobX hp).last h)).symm
theorem frobS_prod {p : Int} (hp : Pr p) (y : Ser) : Ser.Eq p (frobS p y) (prodS y p.toNat) := by
  have h2 := pr_nat hp
  have hs : ∀ i, i < p.toNat + 1 → stir p.toNat i % p = ((if i = p.toNat then 1 else 0) + -1 * (if i = 1 then 1 else 0)) % p := fun i hi => by
    have h := frobX_prod hp i
    rw [prodS_sum] at h
    have e1 : Ser.sumS (fun k => Ser.sc (stir p.toNat k) (Ser.pw Xs k)) (p.toNat + 1) i = stir p.toNat i := by
      rw [Ser.sumS_congr _ (fun k => Ser.sc (stir p.toNat k) (Ser.mono 1 k)) _ fun k _ => by rw [Xs, pw_mono], sumS_mono, if_pos hi]
    rw [e1] at h
    rw [← h]
    show (Ser.pw (Ser.mono 1 1) p.toNat i + -1 * Ser.mono 1 1 i) % p = _
    rw [pw_mono]; rfl
  rw [prodS_sum]
  refine Ser.Eq.trans (Ser.Eq.of ?_) (sumS_eq (fun k => Ser.sc ((if k = p.toNat then 1 else 0) + -1 * (if k = 1 then 1 else 0)) (Ser.pw y k)) _ _ fun k hk => Ser.Eq.sc (hs k hk).symm (Ser.Eq.refl _ _))
  have e : (fun k => Ser.sc ((if k = p.toNat then (1 : Int) else 0) + -1 * (if k = 1 then 1 else 0)) (Ser.pw y k)) = fun k => Ser.add (Ser.sc (if k = p.toNat then 1 else 0) (Ser.pw y k)) (Ser.sc (-1) (Ser.sc (if k = 1 then 1 else 0) (Ser.pw y k))) := by
    funext k i
    show (_ + _) * _ = _ * _ + -1 * (_ * _)
    rw [Int.add_mul, Int.mul_assoc]
  rw [e, Ser.sumS_add, sumS_sc, sumS_one, sumS_one, if_pos (by omega), if_pos (by omega), pw_one]
  rfl
theorem own_at {p : Int} (hp : Pr p) {q y : Ser} (hq : Irr p q) (hy : Fini p y) (h : Mult p q (frobS p y)) : ∃ c : Int, 0 ≤ c ∧ c < p ∧ Mult p q (lin y c) := by
  obtain ⟨c, h1, h2⟩ := irr_prodS hp hq hy _ (h.eqR (frobS_prod hp y))
  have := hp.1
  exact ⟨c, by omega, by omega, h2⟩
end Go.Proofs.YtnkhhndjbanmnaaGreatDoor

/- Plain rows of a matrix by a small prime: what rows span; the plain rows of what is spanned, told but once; a row put among them. Mathematics alone. -/
namespace Go.Proofs.YtnkhhndjbanmnaaGreatDoor

inductive Sp (p : Int) (E : List (List Int)) : Ser → Prop
  | row {r : List Int} : r ∈ E → Sp p E (cf r)
  | zer : Sp p E Ser.zer
  | add {f g : Ser} : Sp p E f → Sp p E g → Sp p E (Ser.add f g)
  | sc {f : Ser} (c : Int) : Sp p E f → Sp p E (Ser.sc c f)
  | eq {f g : Ser} : Sp p E f → Ser.Eq p f g → Sp p E g
theorem Sp.sub {p : Int} {E E' : List (List Int)} (h : ∀ r ∈ E, Sp p E' (cf r)) {f : Ser} (k : Sp p E f) : Sp p E' f := by
  induction k with
  | row hr => exact h _ hr
  | zer => exact .zer
  | add _ _ a b => exact .add a b
  | sc c _ a => exact .sc c a
  | eq _ e a => exact .eq a e
theorem Sp.more {p : Int} {E E' : List (List Int)} (h : ∀ r ∈ E, r ∈ E') {f : Ser} (k : Sp p E f) : Sp p E' f := k.sub fun r hr => .row (h r hr)

structure EchP (p : Int) (n : Nat) (P : List (Nat × List Int)) : Prop where
  inc : P.Pairwise fun a b => a.1 < b.1
  lt : ∀ a ∈ P, a.1 < n
  len : ∀ a ∈ P, a.2.length = n
  rs : ∀ a ∈ P, Rs p a.2
  one : ∀ a ∈ P, cf a.2 a.1 = 1
  low : ∀ a ∈ P, ∀ j, j < a.1 → cf a.2 j = 0
  other : ∀ a ∈ P, ∀ b ∈ P, b.1 ≠ a.1 → cf b.2 a.1 = 0
def rowsOf (P : List (Nat × List Int)) : List (List Int) := P.map (·.2)
theorem rowsOf_mem {P : List (Nat × List Int)} {r : List Int} : r ∈ rowsOf P ↔ ∃ a ∈ P, a.2 = r := by simp [rowsOf]

theorem inc_same {P : List (Nat × List Int)} (h : P.Pairwise fun a b => a.1 < b.1) : ∀ a ∈ P, ∀ b ∈ P, a.1 = b.1 → a = b := by
  induction P with
  | nil => intro a ha; cases ha
  | cons c P ih =>
    obtain ⟨h1, h2⟩ := List.pairwise_cons.1 h
    intro a ha b hb e
    rcases List.mem_cons.1 ha with e1 | ha'
    · rcases List.mem_cons.1 hb with e2 | hb'
      · rw [e1, e2]
      · have := h1 b hb'
        rw [← e1] at this; omega
    · rcases List.mem_cons.1 hb with e2 | hb'
      · have := h1 a ha'
        rw [← e2] at this; omega
      · exact ih h2 a ha' b hb' e

def rcS (f : Ser) : List (Nat × List Int) → Ser
  | [] => Ser.zer
  | a :: P => Ser.add (Ser.sc (f a.1) (cf a.2)) (rcS f P)
theorem rcS_none {f : Ser} {p : Int} {P : List (Nat × List Int)} (h : ∀ a ∈ P, f a.1 % p = 0) : Ser.Eq p (rcS f P) Ser.zer := by
  induction P with
  | nil => exact Ser.Eq.refl _ _
  | cons a P ih =>
    intro i
    have h1 := ih (fun b hb => h b (List.mem_cons_of_mem _ hb)) i
    show (f a.1 * cf a.2 i + rcS f P i) % p = Ser.zer i % p
    rw [Int.add_emod, Int.mul_emod, h a List.mem_cons_self, h1]
    simp [Ser.zer]
theorem rcS_congr {f g : Ser} {p : Int} (e : Ser.Eq p f g) (P : List (Nat × List Int)) : Ser.Eq p (rcS f P) (rcS g P) := by
  induction P with
  | nil => exact Ser.Eq.refl _ _
  | cons a P ih => exact (Ser.Eq.sc (e a.1) (Ser.Eq.refl _ _)).add ih
theorem rcS_add (f g : Ser) (P : List (Nat × List Int)) : rcS (Ser.add f g) P = Ser.add (rcS f P) (rcS g P) := by
  induction P with
  | nil => funext i; rfl
  | cons a P ih =>
    funext i
    show (f a.1 + g a.1) * cf a.2 i + rcS (Ser.add f g) P i = f a.1 * cf a.2 i + rcS f P i + (g a.1 * cf a.2 i + rcS g P i)
    rw [ih, Int.add_mul]
    show _ + (rcS f P i + rcS g P i) = _
    omega
theorem rcS_sc (c : Int) (f : Ser) (P : List (Nat × List Int)) : rcS (Ser.sc c f) P = Ser.sc c (rcS f P) := by
  induction P with
  | nil => funext i; exact (Int.mul_zero c).symm
  | cons a P ih =>
    funext i
    show c * f a.1 * cf a.2 i + rcS (Ser.sc c f) P i = c * (f a.1 * cf a.2 i + rcS f P i)
    rw [ih, Int.mul_add, Int.mul_assoc]
    rfl
theorem rcS_row {p : Int} {f : Ser} {x : Nat} (hx : f x = 1) : ∀ P : List (Nat × List Int), P.Pairwise (fun a b => a.1 < b.1) → (∀ b ∈ P, b.1 ≠ x → f b.1 = 0) → (∃ a ∈ P, a.1 = x) → (∀ a ∈ P, a.1 = x → cf a.2 = f) → Ser.Eq p (rcS f P) f := by
  intro P
  induction P with
  | nil => rintro _ _ ⟨a, ha, _⟩; cases ha
  | cons b P ih =>
    intro hi h0 hex hr
    obtain ⟨h1, h2⟩ := List.pairwise_cons.1 hi
    by_cases e : b.1 = x
    · have hz := rcS_none (p := p) (f := f) (P := P) (fun a ha => by
        rw [h0 a (List.mem_cons_of_mem _ ha) (by have := h1 a ha; omega)]; simp)
      intro i
      show (f b.1 * cf b.2 i + rcS f P i) % p = f i % p
      rw [e, hx, hr b List.mem_cons_self e, Int.one_mul, Int.add_emod, hz i]
      simp [Ser.zer]
    · have hex' : ∃ a ∈ P, a.1 = x := by
        obtain ⟨a, ha, hax⟩ := hex
        rcases List.mem_cons.1 ha with rfl | ha
        · exact absurd hax e
        · exact ⟨a, ha, hax⟩
      have hh := ih h2 (fun a ha => h0 a (List.mem_cons_of_mem _ ha)) hex' (fun a ha => hr a (List.mem_cons_of_mem _ ha))
      intro i
      show (f b.1 * cf b.2 i + rcS f P i) % p = f i % p
      rw [h0 b List.mem_cons_self e, Int.zero_mul, Int.zero_add]
      exact hh i
theorem EchP.recon {p : Int} {n : Nat} {P : List (Nat × List Int)} (h : EchP p n P) {f : Ser} (k : Sp p (rowsOf P) f) : Ser.Eq p (rcS f P) f := by
  induction k with
  | @row r hr =>
    obtain ⟨a, ha, rfl⟩ := rowsOf_mem.1 hr
    exact rcS_row (h.one a ha) P h.inc (fun b hb hne => h.other b hb a ha (fun e => hne e.symm)) ⟨a, ha, rfl⟩ (fun b hb e => by rw [inc_same h.inc b hb a ha e])
  | zer => exact rcS_none (fun _ _ => by simp [Ser.zer])
  | add _ _ a b =>
    rw [rcS_add]
    exact a.add b
  | sc c _ a =>
    rw [rcS_sc]
    exact Ser.Eq.sc rfl a
  | eq _ e a => exact (rcS_congr e P).symm.trans (a.trans e)
theorem EchP.nought {p : Int} {n : Nat} {P : List (Nat × List Int)} (h : EchP p n P) {f : Ser} (k : Sp p (rowsOf P) f) (hz : ∀ a ∈ P, f a.1 % p = 0) : Ser.Eq p f Ser.zer := (h.recon k).symm.trans (rcS_none hz)
theorem rcS_low {p : Int} {f : Ser} {x : Nat} {P : List (Nat × List Int)} (h : ∀ a ∈ P, a.1 ≤ x → f a.1 % p = 0) (hl : ∀ a ∈ P, ∀ j, j < a.1 → cf a.2 j = 0) : rcS f P x % p = 0 := by
  induction P with
  | nil => simp [rcS, Ser.zer]
  | cons a P ih =>
    have h1 := ih (fun b hb => h b (List.mem_cons_of_mem _ hb)) (fun b hb => hl b (List.mem_cons_of_mem _ hb))
    show (f a.1 * cf a.2 x + rcS f P x) % p = 0
    rw [Int.add_emod, h1]
    by_cases e : a.1 ≤ x
    · rw [Int.mul_emod, h a List.mem_cons_self e]; simp
    · rw [hl a List.mem_cons_self x (by omega)]; simp
theorem EchP.lead {p : Int} {n : Nat} {P : List (Nat × List Int)} (h : EchP p n P) {f : Ser} (k : Sp p (rowsOf P) f) {x : Nat} (hx : f x % p ≠ 0) (hb : ∀ j, j < x → f j % p = 0) : ∃ a ∈ P, a.1 = x := by
  refine Classical.byContradiction fun hn => hx ?_
  rw [← h.recon k x]
  refine rcS_low (fun a ha hle => ?_) h.low
  rcases Nat.lt_or_ge a.1 x with hlt | hge
  · exact hb a.1 hlt
  · exact absurd ⟨a, ha, by omega⟩ hn

theorem inc_mem_eq {α : Type} : ∀ (P Q : List (Nat × α)), P.Pairwise (fun a b => a.1 < b.1) → Q.Pairwise (fun a b => a.1 < b.1) → (∀ a, a ∈ P ↔ a ∈ Q) → P = Q := by
  intro P
  induction P with
  | nil =>
    intro Q _ _ h
    cases Q with
    | nil => rfl
    | cons b Q => exact absurd ((h b).2 List.mem_cons_self) (by simp)
  | cons a P ih =>
    intro Q hP hQ h
    cases Q with
    | nil => exact absurd ((h a).1 List.mem_cons_self) (by simp)
    | cons b Q =>
      obtain ⟨p1, p2⟩ := List.pairwise_cons.1 hP
      obtain ⟨q1, q2⟩ := List.pairwise_cons.1 hQ
      have hab : a = b := by
        rcases List.mem_cons.1 ((h a).1 List.mem_cons_self) with e | e
        · exact e
        · rcases List.mem_cons.1 ((h b).2 List.mem_cons_self) with e2 | e2
          · exact e2.symm
          · have := q1 a e
            have := p1 b e2
            omega
      subst hab
      rw [ih Q p2 q2 fun c => ?_]
      constructor
      · intro hc
        rcases List.mem_cons.1 ((h c).1 (List.mem_cons_of_mem _ hc)) with e | e
        · subst e; have := p1 c hc; omega
        · exact e
      · intro hc
        rcases List.mem_cons.1 ((h c).2 (List.mem_cons_of_mem _ hc)) with e | e
        · subst e; have := q1 c hc; omega
        · exact e
theorem EchP.uniq {p : Int} {n : Nat} (hp : 2 ≤ p) {P Q : List (Nat × List Int)} (h : EchP p n P) (k : EchP p n Q) (hPQ : ∀ r ∈ rowsOf P, Sp p (rowsOf Q) (cf r)) (hQP : ∀ r ∈ rowsOf Q, Sp p (rowsOf P) (cf r)) : P = Q := by
  have lead1 : ∀ {P Q : List (Nat × List Int)}, EchP p n P → EchP p n Q → (∀ r ∈ rowsOf P, Sp p (rowsOf Q) (cf r)) → ∀ a ∈ P, ∃ b ∈ Q, b.1 = a.1 := by
    intro P Q h k hs a ha
    refine k.lead (hs a.2 (rowsOf_mem.2 ⟨a, ha, rfl⟩)) ?_ (fun j hj => by rw [h.low a ha j hj]; simp)
    rw [h.one a ha, Int.emod_eq_of_lt (by decide) (by omega)]
    decide
  have rows : ∀ {P Q : List (Nat × List Int)}, EchP p n P → EchP p n Q → (∀ r ∈ rowsOf P, Sp p (rowsOf Q) (cf r)) → (∀ r ∈ rowsOf Q, Sp p (rowsOf P) (cf r)) → ∀ a ∈ P, a ∈ Q := by
    intro P Q h k hs hs' a ha
    obtain ⟨b, hb, hba⟩ := lead1 h k hs a ha
    have hd : Sp p (rowsOf Q) (Ser.add (cf a.2) (Ser.sc (-1) (cf b.2))) := .add (hs a.2 (rowsOf_mem.2 ⟨a, ha, rfl⟩)) (.sc _ (.row (rowsOf_mem.2 ⟨b, hb, rfl⟩)))
    have hz := k.nought hd (fun c hc => by
      show (cf a.2 c.1 + -1 * cf b.2 c.1) % p = 0
      by_cases e : c.1 = a.1
      · rw [e, h.one a ha, ← hba, k.one b hb]; simp
      · obtain ⟨d, hd, hdc⟩ := lead1 k h hs' c hc
        have h1 : cf a.2 c.1 = 0 := by
          rw [← hdc]
          exact h.other d hd a ha (by omega)
        rw [h1, k.other c hc b hb (by omega)]; simp)
    have e : a.2 = b.2 := by
      refine cf_ext (by rw [h.len a ha, k.len b hb]) fun i => ?_
      have h1 := (h.rs a ha).at (by omega) i
      have h2 := (k.rs b hb).at (by omega) i
      have h3 := hz i
      have h4 : (cf a.2 i + -1 * cf b.2 i) % p = 0 := by
        have : Ser.zer i % p = 0 := by simp [Ser.zer]
        rw [this] at h3
        exact h3
      have h5 := Int.emod_eq_emod_iff_emod_sub_eq_zero.2 (show (cf a.2 i - cf b.2 i) % p = 0 by rw [show cf a.2 i - cf b.2 i = cf a.2 i + -1 * cf b.2 i from by omega]; exact h4)
      rwa [Int.emod_eq_of_lt h1.1 h1.2, Int.emod_eq_of_lt h2.1 h2.2] at h5
    have : a = b := Prod.ext hba.symm e
    rw [this]; exact hb
  exact inc_mem_eq P Q h.inc k.inc fun a => ⟨rows h k hPQ hQP a, rows k h hQP hPQ a⟩
end Go.Proofs.YtnkhhndjbanmnaaGreatDoor
