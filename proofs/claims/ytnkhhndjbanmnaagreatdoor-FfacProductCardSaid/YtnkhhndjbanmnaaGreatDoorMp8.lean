/- Texts joined, in their order: PrgInv, NatMath, PolRest. -/
import Derived.StillTailTactics
import Derived.WalkKit
import Derived.Test.YtnkhhndjbanmnaaGreatDoorMp2
import Derived.Test.YtnkhhndjbanmnaaGreatDoorMp6

/- fp.Inv and Div, by their contracts: an inverse is sought by halving and taking away. -/
namespace Go.Proofs.YtnkhhndjbanmnaaGreatDoor
open Go.RowKit

def hf (a p : Int) : Int := if a % 2 = 0 then a / 2 else (a + p) / 2
theorem hf_even {a p : Int} (h : a % 2 = 0) : hf a p = a / 2 := if_pos h
theorem hf_odd {a p : Int} (h : a % 2 = 1) : hf a p = (a + p) / 2 := if_neg (by omega)
theorem hf_bd {a p : Int} (h0 : 0 ≤ a) (h1 : a < p) : 0 ≤ hf a p ∧ hf a p < p := by
  unfold hf
  split <;> omega

def Ev (r p u v a b : Int) : Prop :=
  (∀ d : Nat, 2 ≤ d → (d : Int) ∣ u → ¬ (d : Int) ∣ v) ∧ (∃ k, a * r = u + p * k) ∧ (∃ k, b * r = v + p * k) ∧ (u = 1 ∨ p % 2 = 1)
theorem ev_start {r p : Int} (h : Pr p) (h1 : 1 ≤ r) (h2 : r < p) : Ev r p r p 1 0 := by
  obtain ⟨hp2, _, hp⟩ := h
  have np : ∀ d : Nat, 2 ≤ d → (d : Int) < p → ¬ (d : Int) ∣ p := by
    intro d hd hlt hdv
    refine hp.2 d hd (by omega) (Int.natCast_dvd_natCast.1 ?_)
    rw [Int.toNat_of_nonneg (by omega)]
    exact hdv
  refine ⟨fun d hd hu => np d hd ?_, ⟨0, by omega⟩, ⟨-1, by omega⟩, ?_⟩
  · have := Int.le_of_dvd (by omega) hu
    omega
  · by_cases hr : r = 1
    · exact .inl hr
    · right
      have := np 2 (by omega) (by omega)
      omega
theorem ev_half {r p u v a b : Int} (h : Ev r p u v a b) (hu : u % 2 = 0) : Ev r p (u / 2) v (hf a p) b := by
  obtain ⟨h1, ⟨k, hk⟩, h3, h4⟩ := h
  have hp : p % 2 = 1 := by omega
  refine ⟨fun d hd hdv => h1 d hd ?_, ?_, h3, .inr hp⟩
  · have e : u = u / 2 * 2 := by omega
    rw [e]
    exact Int.dvd_mul_of_dvd_left hdv
  · obtain ⟨m, hm⟩ : ∃ m, 2 * (hf a p * r) = u + p * m := by
      rcases Int.emod_two_eq a with e | e
      · have e2 : 2 * hf a p = a := by rw [hf_even e]; omega
        exact ⟨k, by rw [← Int.mul_assoc, e2, hk]⟩
      · have e2 : 2 * hf a p = a + p := by rw [hf_odd e]; omega
        exact ⟨k + r, by rw [← Int.mul_assoc, e2, Int.add_mul, hk, Int.mul_add, Int.add_assoc]⟩
    have hm2 : m % 2 = 0 := by
      have e1 : p * m % 2 = 0 := by omega
      rw [Int.mul_emod, hp] at e1
      omega
    obtain ⟨n, hn⟩ : ∃ n, m = 2 * n := ⟨m / 2, by omega⟩
    refine ⟨n, ?_⟩
    have e3 : p * m = 2 * (p * n) := by rw [hn]; exact Int.mul_left_comm _ _ _
    omega
theorem ev_swap {r p u v a b : Int} (h : Ev r p u v a b) (hu : u ≠ 1) : Ev r p v u b a := by
  obtain ⟨h1, h2, h3, h4⟩ := h
  exact ⟨fun d hd hv hu => h1 d hd hu hv, h3, h2, .inr (by omega)⟩
theorem ev_sub {r p u v a b : Int} (h : Ev r p u v a b) (hp : p % 2 = 1) : Ev r p (u - v) v (lft (a - b) p) b := by
  obtain ⟨h1, ⟨k, hk⟩, ⟨m, hm⟩, _⟩ := h
  refine ⟨fun d hd hs hv => h1 d hd ?_ hv, ?_, ⟨m, hm⟩, .inr hp⟩
  · have e : u = u - v + v := by omega
    rw [e]
    exact Int.dvd_add hs hv
  · rcases Int.lt_or_le (a - b) 0 with e | e
    · rw [lft_low e]
      exact ⟨k - m + r, by rw [Int.add_mul, Int.sub_mul, hk, hm, Int.mul_add, Int.mul_sub]; omega⟩
    · rw [lft_pos e]
      exact ⟨k - m, by rw [Int.sub_mul, hk, hm, Int.mul_sub]; omega⟩
theorem ev_odd {r p u v a b : Int} (h : Ev r p u v a b) (hu : u ≠ 1) : p % 2 = 1 := by
  obtain ⟨_, _, _, h4⟩ := h
  omega
theorem ev_ne {r p u v a b : Int} (h : Ev r p u v a b) (h0 : 1 ≤ u) (hu : u ≠ 1) : u ≠ v := by
  rintro rfl
  have e : ((u.toNat : Nat) : Int) = u := Int.toNat_of_nonneg (by omega)
  exact h.1 u.toNat (by omega) (by rw [e]; exact Int.dvd_refl _) (by rw [e]; exact Int.dvd_refl _)
theorem ev_end {x p r v a b : Int} (hp : Pr p) (hx : x % p = r) (h : Ev r p 1 v a b) (h0 : 0 ≤ a) (h1 : a < p) : finv x p = a := by
  have hp2 := hp.1
  obtain ⟨_, ⟨k, hk⟩, _, _⟩ := h
  refine finv_eq hp ⟨h0, h1, ?_⟩
  rw [Int.mul_emod, hx, Int.emod_eq_of_lt h0 h1, Int.mul_comm, hk, Int.add_mul_emod_self_left]
  exact Int.emod_eq_of_lt (by omega) (by omega)

set_option maxRecDepth 100000 in
set_option maxHeartbeats 1000000 in
theorem pHalf_any (n f p : Int) (w : World) (hn : 0 ≤ n ∧ n ≤ 65521) (hf0 : 0 ≤ f ∧ f < p) (hp : p ≤ 65521) :
    Calls Tryz.prog 198 #[.agg #[.int .i64 n, .int .i64 f], .int .i64 p] w fun e w' => e = .returned (.agg #[.int .i64 (n / 2), .int .i64 (hf f p)]) ∧ Below w.heap.size w w' := by
  rcases Int.emod_two_eq f with e | e
  · rw [hf_even e]
    have e1 : (f % 2 != 0) = false := by simp; omega
    go_enter Tryz.func198, Tryz.ntmps198
    go_wp2_with fail
    exact bodyPost_ret (v := .agg #[.int .i64 (n / 2), .int .i64 (f / 2)]) (by simp [results, Tryz.results198, go_sem]) rfl ⟨rfl, ((Below.refl _ _).alloc (Nat.le_refl _) _).alloc (by simp) _⟩
  · rw [hf_odd e]
    have e1 : (f % 2 != 0) = true := by simp; omega
    go_enter Tryz.func198, Tryz.ntmps198
    go_wp2_with fail
    exact bodyPost_ret (v := .agg #[.int .i64 (n / 2), .int .i64 ((f + p) / 2)]) (by simp [results, Tryz.results198, go_sem]) rfl ⟨rfl, ((Below.refl _ _).alloc (Nat.le_refl _) _).alloc (by simp) _⟩

structure Two (B : Nat) (W : World) (u v a b : Int) : Prop where
  u0 : W.cell? ⟨B, 0, none⟩ = some (.int .i64 u)
  u1 : W.cell? ⟨B, 1, none⟩ = some (.int .i64 a)
  v0 : W.cell? ⟨B + 1, 0, none⟩ = some (.int .i64 v)
  v1 : W.cell? ⟨B + 1, 1, none⟩ = some (.int .i64 b)
  f0 : W.frozen? ⟨B, 0, none⟩ = false
  f1 : W.frozen? ⟨B, 1, none⟩ = false
  f2 : W.frozen? ⟨B + 1, 0, none⟩ = false
  f3 : W.frozen? ⟨B + 1, 1, none⟩ = false
  sz : B + 2 ≤ W.heap.size
theorem Two.below {B : Nat} {W W' : World} {u v a b : Int} (h : Two B W u v a b) (hb : Below W.heap.size W W') : Two B W' u v a b := by
  have hs := h.sz
  have hc : ∀ k o, k < B + 2 → W'.cell? ⟨k, o, none⟩ = W.cell? ⟨k, o, none⟩ := fun k o hk => hb.cell (p := ⟨k, o, none⟩) (by simp only; omega)
  have hf : ∀ k o, k < B + 2 → W'.frozen? ⟨k, o, none⟩ = W.frozen? ⟨k, o, none⟩ := fun k o hk => hb.frozen (p := ⟨k, o, none⟩) (by simp only; omega)
  exact ⟨by rw [hc _ _ (by omega)]; exact h.u0, by rw [hc _ _ (by omega)]; exact h.u1, by rw [hc _ _ (by omega)]; exact h.v0, by rw [hc _ _ (by omega)]; exact h.v1,
    by rw [hf _ _ (by omega)]; exact h.f0, by rw [hf _ _ (by omega)]; exact h.f1, by rw [hf _ _ (by omega)]; exact h.f2, by rw [hf _ _ (by omega)]; exact h.f3, Nat.le_trans hs hb.size⟩
theorem Two.new (w : World) (u v a b : Int) : Two w.heap.size ((w.alloc (.cells #[.int .i64 u, .int .i64 a] 178)).alloc (.cells #[.int .i64 v, .int .i64 b] 178)) u v a b := by
  constructor <;> simp
theorem sc_same {W : World} {a : Addr} {u v : Value} (h : W.cell? a = some u) : (W.setCell a v).cell? a = some v := by
  apply World.cell?_setCell_same
  exact h
theorem sc_other {W : World} {a b : Addr} {v : Value} (h : a ≠ b) : (W.setCell a v).cell? b = W.cell? b := by
  apply World.cell?_setCell_other
  exact h
theorem Two.put {B : Nat} {W : World} {u v a b : Int} (h : Two B W u v a b) (u' a' : Int) : Two B ((W.setCell ⟨B, 0, none⟩ (.int .i64 u')).setCell ⟨B, 1, none⟩ (.int .i64 a')) u' v a' b := by
  obtain ⟨c1, c2, c3, c4, f1, f2, f3, f4, hsz⟩ := h
  refine ⟨?_, ?_, ?_, ?_, by simpa using f1, by simpa using f2, by simpa using f3, by simpa using f4, by simpa using hsz⟩
  · rw [sc_other (by simp)]
    exact sc_same c1
  · exact sc_same (u := .int .i64 a) (by rw [sc_other (by simp)]; exact c2)
  · rw [sc_other (by simp), sc_other (by simp)]
    exact c3
  · rw [sc_other (by simp), sc_other (by simp)]
    exact c4
theorem Two.put' {B : Nat} {W : World} {u v a b : Int} (h : Two B W u v a b) (v' b' : Int) : Two B ((W.setCell ⟨B + 1, 0, none⟩ (.int .i64 v')).setCell ⟨B + 1, 1, none⟩ (.int .i64 b')) u v' a b' := by
  obtain ⟨c1, c2, c3, c4, f1, f2, f3, f4, hsz⟩ := h
  refine ⟨?_, ?_, ?_, ?_, by simpa using f1, by simpa using f2, by simpa using f3, by simpa using f4, by simpa using hsz⟩
  · rw [sc_other (by simp), sc_other (by simp)]
    exact c1
  · rw [sc_other (by simp), sc_other (by simp)]
    exact c2
  · rw [sc_other (by simp)]
    exact sc_same c3
  · exact sc_same (u := .int .i64 b) (by rw [sc_other (by simp)]; exact c4)
theorem Two.drew {B : Nat} {W : World} {u v a b : Int} (h : Two B W u v a b) : Two B W.drew u v a b := ⟨h.u0, h.u1, h.v0, h.v1, h.f0, h.f1, h.f2, h.f3, h.sz⟩
def rowSum (B : Nat) (W : World) : Nat := (intOf ((W.cell? ⟨B, 0, none⟩).getD (.int .i64 0))).toNat + (intOf ((W.cell? ⟨B + 1, 0, none⟩).getD (.int .i64 0))).toNat
theorem Two.sum {B : Nat} {W : World} {u v a b : Int} (h : Two B W u v a b) : rowSum B W = u.toNat + v.toNat := by
  unfold rowSum
  rw [h.u0, h.v0]
  rfl

set_option maxRecDepth 100000 in
set_option maxRecDepth 100000 in
set_option maxHeartbeats 1000000 in
theorem pInverse_any (x p r : Int) (w : World) (hp : Pr p) (hx : x % p = r) (hr0 : 1 ≤ r) (hr1 : r < p) :
    Calls Tryz.prog 189 #[.int .i64 r, .int .i64 p] w fun e w' => e = .returned (.int .i64 (finv x p)) ∧ Below w.heap.size w w' := by
  have ST := Lib.hid (ev_start hp hr0 hr1)
  have END := Lib.hid (fun v a b => @ev_end x p r v a b hp hx)
  have HALF := Lib.hid (fun u v a b => @ev_half r p u v a b)
  have SWAP := Lib.hid (fun u v a b => @ev_swap r p u v a b)
  have SUB := Lib.hid (fun u v a b => @ev_sub r p u v a b)
  have ODD := Lib.hid (fun u v a b => @ev_odd r p u v a b)
  have NE := Lib.hid (fun u v a b => @ev_ne r p u v a b)
  have hp9 := hp.2.1
  have hp2 := hp.1
  have HH := Lib.hid (fun n f W hn hf0 => pHalf_any n f p W hn hf0 hp9)
  have LF := Lib.hid (fun a W h => pLifted_any a p W (by omega) h (by omega))
  have TW := Lib.hid (Two.new w r p 1 0)
  have HBL := Lib.hid (((Below.refl w.heap.size w).alloc (Nat.le_refl _) (.cells #[.int .i64 r, .int .i64 1] 178)).alloc (by simp) (.cells #[.int .i64 p, .int .i64 0] 178))
  generalize Ev r p = EV at *
  generalize finv x p = res at *
  clear hp hx
  go_enter Tryz.func189, Tryz.ntmps189
  go_wp2_with fail
  go_step3
  go_wp2_with fail
  go_step3
  go_wp2_with fail
  go_loopw [] (fun wr => ∃ u v a b : Int, 1 ≤ u ∧ u ≤ p ∧ 1 ≤ v ∧ v ≤ p ∧ 0 ≤ a ∧ a < p ∧ 0 ≤ b ∧ b < p ∧ Hid (EV u v a b) ∧ Hid (Two w.heap.size wr u v a b) ∧ Hid (Below w.heap.size w wr)) (fun wr => rowSum w.heap.size wr)
  case atStart => exact ⟨r, p, 1, 0, hr0, by omega, by omega, by omega, by omega, by omega, by omega, by omega, ST, TW, HBL⟩
  case round =>
    rename_i wr
    obtain ⟨u0, v0, a0, b0, hu1, hu2, hv1, hv2, ha1, ha2, hb1, hb2, hE, hT, hB⟩ := hrel
    have hsum := hT.out.sum
    have HSUM := Lib.hid hsum
    obtain ⟨c1, c2, c3, c4, f1, f2, f3, f4, hsz⟩ := hT.out
    clear hsum TW HBL ST
    go_wp2_with fail
    go_loopw [] (fun wq => ∃ u v a b : Int, 1 ≤ u ∧ u ≤ p ∧ 1 ≤ v ∧ v ≤ p ∧ 0 ≤ a ∧ a < p ∧ 0 ≤ b ∧ b < p ∧ u + v ≤ u0 + v0 ∧ Hid (EV u v a b) ∧ Hid (Two w.heap.size wq u v a b) ∧ Hid (Below w.heap.size w wq)) (fun wq => rowSum w.heap.size wq)
    case atStart => exact ⟨u0, v0, a0, b0, hu1, hu2, hv1, hv2, ha1, ha2, hb1, hb2, by omega, hE, hT, hB⟩
    case round =>
      clear c1 c2 c3 c4 f1 f2 f3 f4 hsz hT hB hE
      obtain ⟨u, v, a, b, gu1, gu2, gv1, gv2, ga1, ga2, gb1, gb2, hle, hE, hT, hB⟩ := hrel
      have HSQ := Lib.hid hT.out.sum
      obtain ⟨c1, c2, c3, c4, f1, f2, f3, f4, hsz⟩ := hT.out
      by_cases hev : u % 2 = 0
      · have hev1 : (u % 2 == 0) = true := by simp; omega
        have HE2 := Lib.hid (HALF.out u v a b hE.out hev)
        have H1 := Lib.hid (HH.out u a wr ⟨by omega, by omega⟩ ⟨ga1, ga2⟩)
        have hh := hf_bd (a := a) (p := p) ga1 ga2
        generalize hf a p = ha at *
        go_wp2_with (go_at_call 198; with_reducible refine H1.out.mono ?_; rintro e w1 ⟨rfl, hb⟩; have hT1 := hT.out.below hb; have HB1 := Lib.hid (hB.out.trans (hb.mono (by omega))); have HT1 := Lib.hid hT1; clear hb c1 c2 c3 c4 f1 f2 f3 f4 hsz; obtain ⟨c1, c2, c3, c4, f1, f2, f3, f4, hsz⟩ := hT1)
        go_roundw
        case rel => exact ⟨u / 2, v, ha, b, by omega, by omega, gv1, gv2, hh.1, hh.2, gb1, gb2, by omega, HE2, Lib.hid (HT1.out.put _ _), Lib.hid ((HB1.out.setCell (p := ⟨w.heap.size, 0, none⟩) (Nat.le_refl _) _).setCell (p := ⟨w.heap.size, 1, none⟩) (Nat.le_refl _) _)⟩
        case measure => rw [(HT1.out.put _ _).sum, HSQ.out]; omega
      · have hev1 : (u % 2 == 0) = false := by simp; omega
        by_cases hone : u = 1
        · subst hone
          have hres := END.out v a b hE.out ga1 ga2
          subst hres
          go_wp2_with fail
          try rw [Exit.noGoto_ret]
          go_ret
          exact ⟨rfl, hB.out⟩
        · have hone1 : (u == 1) = false := by simpa using hone
          have hp1 := ODD.out u v a b hE.out hone
          have hne := NE.out u v a b hE.out gu1 hone
          by_cases hlt : u < v
          · have HE2 := Lib.hid (SUB.out v u b a (SWAP.out u v a b hE.out hone) hp1)
            go_wp2_with fail
            have hT5 := (hT.out.put v b).put' u a
            have hB5 := (((hB.out.setCell (p := ⟨w.heap.size, 0, none⟩) (Nat.le_refl _) (.int .i64 v)).setCell (p := ⟨w.heap.size, 1, none⟩) (Nat.le_refl _) (.int .i64 b)).setCell (p := ⟨w.heap.size + 1, 0, none⟩) (by simp) (.int .i64 u)).setCell (p := ⟨w.heap.size + 1, 1, none⟩) (by simp) (.int .i64 a)
            clear c1 c2 c3 c4 f1 f2 f3 f4 hsz hT hB hE HSQ
            generalize ((((wr.setCell ⟨w.heap.size, 0, none⟩ (.int .i64 v)).setCell ⟨w.heap.size, 1, none⟩ (.int .i64 b)).setCell ⟨w.heap.size + 1, 0, none⟩ (.int .i64 u)).setCell ⟨w.heap.size + 1, 1, none⟩ (.int .i64 a)) = w5 at *
            have L := (LF.out (b - a) (World.drew w5) (by omega)).mono (fun _ _ h => (⟨h.1, h.2.symm⟩ : _ ∧ _ = World.drew w5))
            have hlb : 0 ≤ lft (b - a) p ∧ lft (b - a) p < p := by unfold lft; split <;> omega
            generalize lft (b - a) p = l at *
            have HT6 := Lib.hid hT5.drew
            have HB6 := Lib.hid hB5.drew
            obtain ⟨c1, c2, c3, c4, f1, f2, f3, f4, hsz⟩ := hT5
            have e1 : IntKind.i64.wrap (v - u) = v - u := by rw [IntKind.wrap_i64]; omega
            have e2 : IntKind.i64.wrap (b - a) = b - a := by rw [IntKind.wrap_i64]; omega
            clear hB5
            go_still_tail 13, (by kernel_rfl)
            still_call L
            still_step
            refine wpStill_nil ?_
            change wpList _ _ _ _ _ (World.drew w5)
            clear c1 c2 c3 c4 f1 f2 f3 f4 hsz e1 e2 L
            generalize World.drew w5 = w6 at *
            obtain ⟨c1, c2, c3, c4, f1, f2, f3, f4, hsz⟩ := HT6.out
            go_wp2_with fail
            go_roundw
            case rel => exact ⟨v - u, u, l, a, by omega, by omega, by omega, by omega, hlb.1, hlb.2, by omega, by omega, HE2, Lib.hid (HT6.out.put _ _), Lib.hid ((HB6.out.setCell (p := ⟨w.heap.size, 0, none⟩) (Nat.le_refl _) _).setCell (p := ⟨w.heap.size, 1, none⟩) (Nat.le_refl _) _)⟩
            case measure => rw [(HT6.out.put _ _).sum, HSUM.out]; omega
          · have HE2 := Lib.hid (SUB.out u v a b hE.out hp1)
            go_wp2_with fail
            have hT5 := hT.out
            have hB5 := hB.out
            clear c1 c2 c3 c4 f1 f2 f3 f4 hsz hT hB hE HSQ
            generalize wr = w5 at *
            have L := (LF.out (a - b) (World.drew w5) (by omega)).mono (fun _ _ h => (⟨h.1, h.2.symm⟩ : _ ∧ _ = World.drew w5))
            have hlb : 0 ≤ lft (a - b) p ∧ lft (a - b) p < p := by unfold lft; split <;> omega
            generalize lft (a - b) p = l at *
            have HT6 := Lib.hid hT5.drew
            have HB6 := Lib.hid hB5.drew
            obtain ⟨c1, c2, c3, c4, f1, f2, f3, f4, hsz⟩ := hT5
            have e1 : IntKind.i64.wrap (u - v) = u - v := by rw [IntKind.wrap_i64]; omega
            have e2 : IntKind.i64.wrap (a - b) = a - b := by rw [IntKind.wrap_i64]; omega
            clear hB5
            go_still_tail 13, (by kernel_rfl)
            still_call L
            still_step
            refine wpStill_nil ?_
            change wpList _ _ _ _ _ (World.drew w5)
            clear c1 c2 c3 c4 f1 f2 f3 f4 hsz e1 e2 L
            generalize World.drew w5 = w6 at *
            obtain ⟨c1, c2, c3, c4, f1, f2, f3, f4, hsz⟩ := HT6.out
            go_wp2_with fail
            go_roundw
            case rel => exact ⟨u - v, v, l, b, by omega, by omega, by omega, by omega, hlb.1, hlb.2, by omega, by omega, HE2, Lib.hid (HT6.out.put _ _), Lib.hid ((HB6.out.setCell (p := ⟨w.heap.size, 0, none⟩) (Nat.le_refl _) _).setCell (p := ⟨w.heap.size, 1, none⟩) (Nat.le_refl _) _)⟩
            case measure => rw [(HT6.out.put _ _).sum, HSUM.out]; omega

set_option maxRecDepth 100000 in
set_option maxHeartbeats 1000000 in
theorem pInv_any (a p : Int) (w : World) (h2 : -9223372036854775808 ≤ p) (h3 : p ≤ 9223372036854775807) (hT : TabAt w) :
    Calls Tryz.prog 160 #[.int .i64 a, .int .i64 p] w fun e w' => e = .returned (.tuple #[.int .i64 (finv a p), .int .i64 (einv a p)]) ∧ Below w.heap.size w w' := by
  have C := pCheck_any p w h2 h3 hT
  clear hT
  have R1 := pRed_any a p w h2 h3
  rcases primB_or p with ⟨hb, hpr⟩ | ⟨hb, hpr⟩
  · rw [chk_yes hb] at C
    rw [(red_pr hpr).1] at R1
    have hx := (red_pr (a := a) hpr).2
    by_cases h0 : a % p = 0
    · rw [finv_zero h0, einv_zero hb h0]
      rw [h0] at R1
      have CC := Lib.hid C
      have RR := Lib.hid R1
      clear C R1 hx h0 hb hpr
      go_enter Tryz.func160, Tryz.ntmps160
      go_wp2_with (first
        | (go_at_call 48; with_reducible refine CC.out.mono ?_; rintro e w' ⟨rfl, rfl⟩)
        | (go_at_call 90; with_reducible refine RR.out.mono ?_; rintro e w' ⟨rfl, rfl⟩))
      go_ret2
      exact ⟨rfl, Below.refl _ _⟩
    · rw [einv_yes hb h0]
      have I := pInverse_any a p (a % p) w hpr rfl (by omega) hx.2
      have hr0 : ((a % p) == 0) = false := by simpa using h0
      generalize finv a p = v at *
      generalize a % p = r at *
      have II := Lib.hid I
      have CC := Lib.hid C
      have RR := Lib.hid R1
      clear C R1 I hx h0 hb hpr
      go_enter Tryz.func160, Tryz.ntmps160
      go_wp2_with (first
        | (go_at_call 48; with_reducible refine CC.out.mono ?_; rintro e w' ⟨rfl, rfl⟩)
        | (go_at_call 90; with_reducible refine RR.out.mono ?_; rintro e w' ⟨rfl, rfl⟩)
        | (go_at_call 189; with_reducible refine II.out.mono ?_; rintro e w1 ⟨rfl, hb⟩; have HB := Lib.hid hb; clear hb))
      go_ret2
      exact ⟨rfl, HB.out⟩
  · rw [chk_no hb] at C
    rw [einv_no hb, finv_no hpr]
    have CC := Lib.hid C
    clear C R1 hb hpr
    go_enter Tryz.func160, Tryz.ntmps160
    go_wp2_with (go_at_call 48; with_reducible refine CC.out.mono ?_; rintro e w' ⟨rfl, rfl⟩)
    go_ret2
    exact ⟨rfl, Below.refl _ _⟩

end Go.Proofs.YtnkhhndjbanmnaaGreatDoor

/- Plain mathematics on lists of limbs: the value of a list of base-2^64 digits, and the plain list of digits of a number. No program text. -/
namespace Go.Proofs.YtnkhhndjbanmnaaGreatDoor
abbrev Wd : Nat := 18446744073709551616

def val : List Nat → Nat
  | [] => 0
  | x :: xs => x + 18446744073709551616 * val xs

def Fit (xs : List Nat) : Prop := ∀ x ∈ xs, x < 18446744073709551616

def nrmF : Nat → Nat → List Nat
  | 0, _ => []
  | f + 1, v => if v = 0 then [] else v % 18446744073709551616 :: nrmF f (v / 18446744073709551616)
def nrm (v : Nat) : List Nat := nrmF v v

theorem nrmF_eq (f g v : Nat) (hf : v ≤ f) (hg : v ≤ g) : nrmF f v = nrmF g v := by
  induction f generalizing g v with
  | zero =>
    have : v = 0 := by omega
    subst this
    cases g <;> simp [nrmF]
  | succ f ih =>
    cases g with
    | zero =>
      have : v = 0 := by omega
      subst this
      simp [nrmF]
    | succ g =>
      by_cases h : v = 0
      · simp [nrmF, h]
      · simp only [nrmF, h, if_false]
        rw [ih g _ (by omega) (by omega)]

theorem nrm_zero : nrm 0 = [] := rfl
theorem nrm_pos (v : Nat) (h : v ≠ 0) : nrm v = v % 18446744073709551616 :: nrm (v / 18446744073709551616) := by
  obtain ⟨u, rfl⟩ : ∃ u, v = u + 1 := ⟨v - 1, by omega⟩
  show nrmF (u + 1) (u + 1) = _
  rw [nrmF, if_neg h]
  unfold nrm
  rw [nrmF_eq u ((u + 1) / 18446744073709551616) _ (by omega) (by omega)]

theorem fit_nil : Fit [] := fun _ h => by cases h
theorem fit_cons {x : Nat} {xs : List Nat} (hx : x < 18446744073709551616) (h : Fit xs) : Fit (x :: xs) := by
  intro y hy
  rcases List.mem_cons.1 hy with rfl | hy
  · exact hx
  · exact h _ hy
theorem fit_head {x : Nat} {xs : List Nat} (h : Fit (x :: xs)) : x < 18446744073709551616 := h x (by simp)
theorem fit_tail {x : Nat} {xs : List Nat} (h : Fit (x :: xs)) : Fit xs := fun y hy => h y (by simp [hy])
theorem fit_take {xs : List Nat} (h : Fit xs) (k : Nat) : Fit (xs.take k) := fun y hy => h y (List.mem_of_mem_take hy)
theorem fit_drop {xs : List Nat} (h : Fit xs) (k : Nat) : Fit (xs.drop k) := fun y hy => h y (List.mem_of_mem_drop hy)
theorem fit_append {xs ys : List Nat} (h : Fit xs) (k : Fit ys) : Fit (xs ++ ys) := fun y hy => by
  rcases List.mem_append.1 hy with hy | hy
  · exact h _ hy
  · exact k _ hy
theorem fit_get {xs : List Nat} (h : Fit xs) (j : Nat) (hj : j < xs.length) : xs[j] < 18446744073709551616 := h _ (List.getElem_mem hj)
theorem fit_getD {xs : List Nat} (h : Fit xs) (j : Nat) : xs.getD j 0 < 18446744073709551616 := by
  rw [List.getD_eq_getElem?_getD]
  by_cases hj : j < xs.length
  · rw [List.getElem?_eq_getElem hj]; exact fit_get h j hj
  · rw [List.getElem?_eq_none (by omega)]; decide

theorem val_nil : val [] = 0 := rfl
theorem val_cons (x : Nat) (xs : List Nat) : val (x :: xs) = x + 18446744073709551616 * val xs := rfl
theorem val_append (xs ys : List Nat) : val (xs ++ ys) = val xs + 18446744073709551616 ^ xs.length * val ys := by
  induction xs with
  | nil => simp [val]
  | cons x xs ih =>
    simp only [List.cons_append, val_cons, ih, List.length_cons, Nat.pow_succ]
    rw [Nat.mul_add, Nat.add_assoc, ← Nat.mul_assoc, Nat.mul_comm 18446744073709551616 (18446744073709551616 ^ xs.length)]
theorem val_lt {xs : List Nat} (h : Fit xs) : val xs < 18446744073709551616 ^ xs.length := by
  induction xs with
  | nil => simp [val]
  | cons x xs ih =>
    have h1 := ih (fit_tail h)
    have h2 := fit_head h
    rw [val_cons, List.length_cons, Nat.pow_succ, Nat.mul_comm _ 18446744073709551616]
    have : 18446744073709551616 * (val xs + 1) ≤ 18446744073709551616 * 18446744073709551616 ^ xs.length := Nat.mul_le_mul_left _ h1
    omega
theorem val_nrm (v : Nat) : val (nrm v) = v := by
  induction v using Nat.strongRecOn with
  | ind v ih =>
    by_cases h : v = 0
    · subst h; rfl
    · rw [nrm_pos v h, val_cons, ih (v / 18446744073709551616) (by omega)]
      omega
theorem fit_nrm (v : Nat) : Fit (nrm v) := by
  induction v using Nat.strongRecOn with
  | ind v ih =>
    by_cases h : v = 0
    · subst h; exact fit_nil
    · rw [nrm_pos v h]
      exact fit_cons (by omega) (ih _ (by omega))
theorem nrm_nil_iff (v : Nat) : nrm v = [] ↔ v = 0 := ⟨fun h => by rw [← val_nrm v, h]; rfl, fun h => by rw [h]; rfl⟩

theorem nrm_val_of_last {xs : List Nat} (h : Fit xs) (hl : ∀ (hne : xs ≠ []), xs.getLast hne ≠ 0) : nrm (val xs) = xs := by
  induction xs with
  | nil => rfl
  | cons x xs ih =>
    have hx := fit_head h
    have ih' : nrm (val xs) = xs := ih (fit_tail h) (fun hne => by
      have := hl (by simp)
      rwa [List.getLast_cons hne] at this)
    have hpos : val (x :: xs) ≠ 0 := by
      intro h0
      rw [val_cons] at h0
      have hx0 : x = 0 := by omega
      have hv0 : val xs = 0 := by omega
      rw [hv0] at ih'
      have hxs : xs = [] := ih'.symm
      subst hxs
      exact hl (by simp) (by simpa using hx0)
    rw [nrm_pos _ hpos, val_cons]
    have e1 : (x + 18446744073709551616 * val xs) % 18446744073709551616 = x := by omega
    have e2 : (x + 18446744073709551616 * val xs) / 18446744073709551616 = val xs := by omega
    rw [e1, e2, ih']

theorem val_take_succ (xs : List Nat) (k : Nat) (hk : k < xs.length) : val (xs.take (k + 1)) = val (xs.take k) + 18446744073709551616 ^ k * xs[k] := by
  rw [List.take_succ_eq_append_getElem hk, val_append, val_cons, val_nil, List.length_take, Nat.min_eq_left (by omega)]
  simp
theorem nrm_length_le {xs : List Nat} (h : Fit xs) : (nrm (val xs)).length ≤ xs.length := by
  induction xs with
  | nil => simp [val, nrm, nrmF]
  | cons x xs ih =>
    by_cases h0 : val (x :: xs) = 0
    · rw [h0]; simp [nrm, nrmF]
    · have hx := fit_head h
      rw [nrm_pos _ h0, val_cons]
      have e2 : (x + 18446744073709551616 * val xs) / 18446744073709551616 = val xs := by omega
      rw [e2]
      simp only [List.length_cons]
      have := ih (fit_tail h)
      omega

theorem take_nrm {xs : List Nat} (h : Fit xs) : xs.take (nrm (val xs)).length = nrm (val xs) := by
  induction xs with
  | nil => simp [val, nrm, nrmF]
  | cons x xs ih =>
    by_cases h0 : val (x :: xs) = 0
    · rw [h0]; simp [nrm, nrmF]
    · have hx := fit_head h
      rw [nrm_pos _ h0, val_cons]
      have e1 : (x + 18446744073709551616 * val xs) % 18446744073709551616 = x := by omega
      have e2 : (x + 18446744073709551616 * val xs) / 18446744073709551616 = val xs := by omega
      rw [e1, e2]
      simp only [List.length_cons, List.take_succ_cons]
      rw [ih (fit_tail h)]

theorem val_take_zero_last (xs : List Nat) (k : Nat) (hk : k < xs.length) (h0 : xs[k] = 0) : val (xs.take k) = val (xs.take (k + 1)) := by
  rw [val_take_succ xs k hk, h0]; simp
theorem trim_done {xs : List Nat} (h : Fit xs) (k : Nat) (hk : k ≤ xs.length) (hv : val (xs.take k) = val xs) (hz : k = 0 ∨ ∃ hj : k - 1 < xs.length, xs[k - 1] ≠ 0) : (nrm (val xs)).length = k := by
  rw [← hv]
  rcases hz with rfl | ⟨hj, hz⟩
  · simp [val, nrm, nrmF]
  · by_cases hk0 : k = 0
    · subst hk0; simp [val, nrm, nrmF]
    · rw [nrm_val_of_last (fit_take h k) (fun hne => ?_), List.length_take, Nat.min_eq_left hk]
      rw [List.getLast_eq_getElem]
      simp only [List.length_take, Nat.min_eq_left hk, List.getElem_take]
      exact hz

def dig : Nat → Nat → List Nat
  | 0, _ => []
  | n + 1, v => v % 18446744073709551616 :: dig n (v / 18446744073709551616)
end Go.Proofs.YtnkhhndjbanmnaaGreatDoor

/- Rests of polynomials by another one, powers' rests, a number's bits. Mathematics alone. -/
namespace Go.Proofs.YtnkhhndjbanmnaaGreatDoor

def Fini (p : Int) (f : Ser) : Prop := ∃ N, Ser.Bd p f N
theorem fini_cf (p : Int) (xs : List Int) : Fini p (cf xs) := ⟨xs.length, bd_len p xs⟩
theorem Fini.eq {p : Int} {f g : Ser} (h : Fini p f) (e : Ser.Eq p f g) : Fini p g := h.imp fun _ h => h.eq e
theorem Fini.add {p : Int} {f g : Ser} (h : Fini p f) (k : Fini p g) : Fini p (Ser.add f g) := by
  obtain ⟨N, hN⟩ := h
  obtain ⟨M, hM⟩ := k
  exact ⟨max N M, (hN.mono (by omega)).add (hM.mono (by omega))⟩
theorem Fini.mul {p : Int} {f g : Ser} (h : Fini p f) (k : Fini p g) : Fini p (Ser.mul f g) := by
  obtain ⟨N, hN⟩ := h
  obtain ⟨M, hM⟩ := k
  exact ⟨N + M + 1, (Ser.mul_top (hN.mono (by omega : N ≤ N + 1)) (hM.mono (by omega : M ≤ M + 1))).2⟩
theorem Fini.sc {p c : Int} {f : Ser} (h : Fini p f) : Fini p (Ser.sc c f) := by
  obtain ⟨N, hN⟩ := h
  exact ⟨N, fun i hi => by show c * f i % p = 0; rw [Int.mul_emod, hN i hi]; simp⟩

def RestOf (p : Int) (m : Nat) (f b r : Ser) : Prop := ∃ q, Fini p q ∧ IsDiv p m f b q r
theorem RestOf.uniq {p : Int} {m : Nat} {f f' b r r' : Ser} (hp : Pr p) (hb : Ser.Bd p b (m + 1)) (ht : b m % p ≠ 0) (h : RestOf p m f b r) (k : RestOf p m f' b r') (e : Ser.Eq p f f') : Ser.Eq p r r' := by
  obtain ⟨q, ⟨N, hN⟩, h1, h2⟩ := h
  obtain ⟨q', ⟨M, hM⟩, k1, k2⟩ := k
  exact (IsDiv.uniq (N := max N M) hp hb ht (hN.mono (by omega)) (hM.mono (by omega)) ⟨h1, h2⟩ ⟨e.trans k1, k2⟩).2
theorem RestOf.eq {p : Int} {m : Nat} {f f' b r : Ser} (h : RestOf p m f b r) (e : Ser.Eq p f f') : RestOf p m f' b r := by
  obtain ⟨q, hq, h1, h2⟩ := h
  exact ⟨q, hq, e.symm.trans h1, h2⟩
theorem RestOf.fini {p : Int} {m : Nat} {f b r : Ser} (h : RestOf p m f b r) : Fini p r := by
  obtain ⟨_, _, _, h2⟩ := h
  exact ⟨m, h2⟩
theorem RestOf.eqR {p : Int} {m : Nat} {f b r r' : Ser} (h : RestOf p m f b r) (e : Ser.Eq p r r') : RestOf p m f b r' := by
  obtain ⟨q, hq, h1, h2⟩ := h
  exact ⟨q, hq, h1.trans ((Ser.Eq.refl p _).add e), h2.eq e⟩
theorem RestOf.eqB {p : Int} {m : Nat} {f b b' r : Ser} (h : RestOf p m f b r) (e : Ser.Eq p b b') : RestOf p m f b' r := by
  obtain ⟨q, hq, h1, h2⟩ := h
  exact ⟨q, hq, h1.trans (((Ser.Eq.refl p _).mul e).add (Ser.Eq.refl p _)), h2⟩
theorem RestOf.mulR {p : Int} {m : Nat} {f g b r1 r : Ser} (h : RestOf p m f b r1) (hg : Fini p g) (k : RestOf p m (Ser.mul r1 g) b r) : RestOf p m (Ser.mul f g) b r := by
  obtain ⟨q1, f1, h1, h2⟩ := h
  obtain ⟨q2, f2, k1, k2⟩ := k
  refine ⟨Ser.add (Ser.mul q1 g) q2, (f1.mul hg).add f2, ?_, k2⟩
  refine (h1.mulL g).trans ?_
  rw [Ser.add_mul, Ser.mul_assoc, Ser.mul_comm b g, ← Ser.mul_assoc, Ser.add_mul, Ser.add_assoc]
  exact (Ser.Eq.refl p _).add k1
theorem RestOf.sq {p : Int} {m : Nat} {f b r1 r : Ser} (h : RestOf p m f b r1) (hf : Fini p f) (k : RestOf p m (Ser.mul r1 r1) b r) : RestOf p m (Ser.mul f f) b r := by
  have h1 : RestOf p m (Ser.mul f r1) b r := h.mulR h.fini k
  rw [Ser.mul_comm] at h1
  exact h.mulR hf h1
theorem fini_pw {p : Int} {f : Ser} (h : Fini p f) (n : Nat) : Fini p (Ser.pw f n) := by
  induction n with
  | zero => exact ⟨1, fun i hi => by show (if i = 0 then (1 : Int) else 0) % p = 0; rw [if_neg (by omega)]; simp⟩
  | succ n ih => exact ih.mul h

theorem pw_bit (f : Ser) (V k : Nat) : Ser.pw f (V / 2 ^ k) = if V / 2 ^ k % 2 = 1 then Ser.mul (Ser.mul (Ser.pw f (V / 2 ^ (k + 1))) (Ser.pw f (V / 2 ^ (k + 1)))) f else Ser.mul (Ser.pw f (V / 2 ^ (k + 1))) (Ser.pw f (V / 2 ^ (k + 1))) := by
  have h1 : V / 2 ^ (k + 1) = V / 2 ^ k / 2 := by rw [Nat.pow_succ, ← Nat.div_div_eq_div_mul]
  rw [h1]
  generalize V / 2 ^ k = u
  by_cases h : u % 2 = 1
  · rw [if_pos h, ← Ser.pw_add, ← Ser.pw_succ]
    congr 1; omega
  · rw [if_neg h, ← Ser.pw_add]
    congr 1; omega
end Go.Proofs.YtnkhhndjbanmnaaGreatDoor
