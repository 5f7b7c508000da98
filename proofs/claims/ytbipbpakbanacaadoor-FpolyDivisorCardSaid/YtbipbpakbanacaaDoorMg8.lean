/- Texts joined, in their order: PolShort, IntOpen, PolEqs, PolEx, PolVal, PolLaw, LstOpen, ZArgOpen, TabOpen. -/
import Derived.Test.YtbipbpakbanacaaDoorRows
import Derived.ProofKit
import Derived.OpenShut
import Derived.SizedLaws
import Derived.WalkKit
import Derived.Lib.Hide
import Derived.Lib.SmallJoins
import Derived.Lib.LaidTab
import Derived.MakeChecks
import Derived.Test.YtbipbpakbanacaaDoorMg1
import Derived.Test.YtbipbpakbanacaaDoorMg3
import Derived.Test.YtbipbpakbanacaaDoorMg4
import Derived.Test.YtbipbpakbanacaaDoorMg5
import Derived.Test.YtbipbpakbanacaaDoorMg6
import Derived.Test.YtbipbpakbanacaaDoorMg7

/- cleaverlaw06.short and same, by their contracts. -/
namespace Go.Proofs.YtbipbpakbanacaaDoor
open Go.RowKit

def shB (N : Nat) (vs : List Value) : Bool := vs.all fun v => decide (slLen v ≤ N)
theorem shB_no {N : Nat} {vs : List Value} {k : Nat} (hk : k < vs.length) (h : N < slLen (vs.getD k nilv)) : shB N vs = false := by
  unfold shB
  rw [List.all_eq_false]
  refine ⟨vs[k], List.getElem_mem hk, ?_⟩
  rw [List.getD_eq_getElem?_getD, List.getElem?_eq_getElem hk, Option.getD_some] at h
  simp; omega
theorem shB_yes {N : Nat} {vs : List Value} (h : ∀ k, k < vs.length → slLen (vs.getD k nilv) ≤ N) : shB N vs = true := by
  unfold shB
  rw [List.all_eq_true]
  intro v hv
  obtain ⟨k, hk, rfl⟩ := List.getElem_of_mem hv
  have := h k hk
  rw [List.getD_eq_getElem?_getD, List.getElem?_eq_getElem hk, Option.getD_some] at this
  simpa using this

set_option maxHeartbeats 1000000 in
theorem short_any (N : Nat) (A : Option Addr) (n c : Nat) (vs : List Value) (w : World) (h : VSl w A n c vs) :
    Calls Tryd.prog 13 #[.int .i64 (N : Int), .slice A n c] w fun e w' => e = .returned (.bool (shB N vs)) ∧ w = w' := by
  have hcl := h.le
  have hcm := h.max
  have H := Lib.hid h
  have NO := Lib.hid (fun k => @shB_no N vs k)
  have YES := Lib.hid (@shB_yes N vs)
  obtain ⟨r, hr⟩ : ∃ r, shB N vs = r := ⟨_, rfl⟩
  rw [hr] at NO YES ⊢
  clear h hr
  go_enter Tryd.func13, Tryd.ntmps13
  go_wp2_with fail
  go_loop [5] (fun i => ∃ k : Nat, k ≤ n ∧ i = .int .i64 (k : Int) ∧ Hid (∀ j, j < k → slLen (vs.getD j nilv) ≤ N)) (fun i => n - (intOf i).toNat)
  case atStart => exact ⟨0, Nat.zero_le _, rfl, Lib.hid (fun j hj => absurd hj (Nat.not_lt_zero _))⟩
  case round =>
    obtain ⟨k, hk, rfl, hall⟩ := hrel
    by_cases hlt : k < n
    · obtain ⟨b, o, rfl, hbl, hc⟩ := H.out.at_ (by omega)
      have hx := hc k hlt
      have hkl : k < vs.length := by rw [← H.out.len]; exact hlt
      obtain ⟨A1, n1, c1, hv⟩ := H.out.fit (vs.getD k nilv) (by
        rw [List.getD_eq_getElem?_getD, List.getElem?_eq_getElem hkl, Option.getD_some]
        exact List.getElem_mem hkl)
      rw [hv] at hx
      have hsl : slLen (vs.getD k nilv) = n1 := by rw [hv]; rfl
      have HSL := Lib.hid hsl
      have HKL := Lib.hid hkl
      clear hc hv hsl hkl
      by_cases hle : n1 ≤ N
      · go_wp2_with fail
        go_round
        case rel => exact ⟨k + 1, by omega, by go_num, Lib.hid (fun j hj => by
          by_cases e : j = k
          · rw [e, HSL.out]; exact hle
          · exact hall.out j (by omega))⟩
        case measure => simp [intOf]; omega
      · have hb := NO.out k HKL.out (by rw [HSL.out]; omega)
        subst hb
        go_wp2_with fail
        go_ret
        exact ⟨rfl, rfl⟩
    · obtain rfl : k = n := by omega
      have hb := YES.out (fun j hj => hall.out j (by rw [H.out.len]; exact hj))
      subst hb
      go_wp2_with fail
      go_ret
      exact ⟨rfl, rfl⟩

set_option maxHeartbeats 400000 in
theorem same6_true (A B : Option Addr) (n c n' c' : Nat) (xs ys : List Int) (w : World) (h : ISl w A n c xs) (h' : ISl w B n' c' ys) (e : xs = ys) :
    Calls Tryd.prog 22 #[.slice A n c, .slice B n' c'] w fun e w' => e = .returned (.bool true) ∧ Below w.heap.size w w' := by
  have HC := Lib.hid (polSame A B n c n' c' xs ys w h h' e)
  clear h h' e
  go_enter Tryd.func22, Tryd.ntmps22
  go_wp2_with (go_at_call 49; (with_reducible refine HC.out.mono ?_); rintro e w1 ⟨rfl, hb⟩)
  go_ret
  exact ⟨rfl, hb⟩
end Go.Proofs.YtbipbpakbanacaaDoor

/- What every law's frame wants at a seat: the knob, the layout; an int's bounds. -/
namespace Go.Proofs.YtbipbpakbanacaaDoor
open Go.ChangeShapes Go.WideShapes Go.ChangeAt Go.RowKit

theorem own0 : ownKnob Tryd.prog.godebug = none := by kernel_rfl
theorem laidOut0 : laidOutB Tryd.prog = true := by kernel_rfl
theorem int_wf {k : Int} (hk : (Lit.int .i64 k).wf = true) : -9223372036854775808 ≤ k ∧ k ≤ 9223372036854775807 := by
  have h2 : IntKind.i64.min = -9223372036854775808 := rfl
  have h3 : IntKind.i64.max = 9223372036854775807 := rfl
  simp only [Lit.wf, Bool.and_eq_true, decide_eq_true_eq] at hk
  omega
end Go.Proofs.YtbipbpakbanacaaDoor

/- The equalities and lengths that layer 6's laws without the document's answers want. Mathematics alone. -/
namespace Go.Proofs.YtbipbpakbanacaaDoor

theorem pol_len {p : Int} {ys : List Int} {f : Ser} {k : Nat} (hp : 1 ≤ p) (h : Pol p ys f) (hb : Ser.Bd p f (k + 1)) (ht : f k % p ≠ 0) : ys.length = k + 1 := by
  have h1 := h.1.len_le hp (hb.eq h.2.symm)
  rcases Nat.lt_or_ge k ys.length with h2 | h2
  · omega
  · exact absurd (by rw [← h.2 k, cf_over h2]; simp) ht
theorem pol_last {p : Int} {ys : List Int} {f : Ser} (hp : 1 ≤ p) (h : Pol p ys f) (hn : ys ≠ []) : Last p f (ys.length - 1) := by
  have hl : 0 < ys.length := List.length_pos_iff.2 hn
  refine ⟨Ser.Bd.eq ?_ h.2, ?_⟩
  · rw [Nat.sub_add_cancel hl]
    exact bd_len p ys
  · rw [← h.2]
    exact h.1.top hn hp
theorem polL_nil {p : Int} {f : Ser} (h : Ser.Bd p f 0) : polL p f = [] := by
  rcases Classical.em (Pr p) with hp | hp
  · exact polL_is hp ⟨Pln.nil p, fun i => by rw [cf_nil, h i (Nat.zero_le _)]; simp⟩
  · exact polL_no hp
theorem polL_zero {p : Int} {f : Ser} (hp : Pr p) (hf : Fini p f) : polL p f = [] ↔ Ser.Bd p f 0 := (polL_pol hp hf).nought (by have := hp.1; omega)
theorem len_mul {p : Int} (hp : Pr p) {f g : Ser} (hf : Fini p f) (hg : Fini p g) :
    ((polL p f).length = 0 ∧ (polL p (Ser.mul f g)).length = 0) ∨ ((polL p f).length ≠ 0 ∧ (polL p g).length = 0 ∧ (polL p (Ser.mul f g)).length = 0) ∨
      ((polL p f).length ≠ 0 ∧ (polL p g).length ≠ 0 ∧ (polL p (Ser.mul f g)).length + 1 = (polL p f).length + (polL p g).length) := by
  have h1 : 1 ≤ p := by have := hp.1; omega
  by_cases hx : polL p f = []
  · refine .inl ⟨by rw [hx]; rfl, ?_⟩
    rw [polL_nil (fun i _ => Ser.mul_nought g ((polL_zero hp hf).1 hx) i)]; rfl
  · by_cases hy : polL p g = []
    · refine .inr (.inl ⟨fun e => hx (List.eq_nil_of_length_eq_zero e), by rw [hy]; rfl, ?_⟩)
      rw [polL_nil (fun i _ => by rw [Ser.mul_comm]; exact Ser.mul_nought f ((polL_zero hp hg).1 hy) i)]; rfl
    · have l1 := pol_last h1 (polL_pol hp hf) hx
      have l2 := pol_last h1 (polL_pol hp hg) hy
      have ht := Ser.mul_top l1.1 l2.1
      have hl := pol_len h1 (polL_pol hp (hf.mul hg)) ht.2 (by rw [ht.1]; exact mul_nz hp l1.2 l2.2)
      have p1 : 0 < (polL p f).length := List.length_pos_iff.2 hx
      have p2 : 0 < (polL p g).length := List.length_pos_iff.2 hy
      exact .inr (.inr ⟨by omega, by omega, by omega⟩)

theorem sc_one (f : Ser) : Ser.sc 1 f = f := funext fun _ => Int.one_mul _
theorem eq_swap (p : Int) (f g : Ser) : polL p (Ser.add f (Ser.sc 1 g)) = polL p (Ser.add g (Ser.sc 1 f)) := by rw [sc_one, sc_one, Ser.add_comm]
theorem eq_turn (p : Int) (f g : Ser) : polL p (Ser.mul f g) = polL p (Ser.mul g f) := by rw [Ser.mul_comm]
theorem fini_add1 {p : Int} {f g : Ser} (hf : Fini p f) (hg : Fini p g) : Fini p (Ser.add f (Ser.sc 1 g)) := hf.add hg.sc
theorem eq_assoc {p : Int} (hp : Pr p) {f g h : Ser} (hf : Fini p f) (hg : Fini p g) (hh : Fini p h) :
    polL p (Ser.add (cf (polL p (Ser.add f (Ser.sc 1 g)))) (Ser.sc 1 h)) = polL p (Ser.add f (Ser.sc 1 (cf (polL p (Ser.add g (Ser.sc 1 h)))))) := by
  have e1 := cf_polL hp (fini_add1 hf hg)
  have e2 := cf_polL hp (fini_add1 hg hh)
  simp only [sc_one] at e1 e2 ⊢
  exact polL_congr ((e1.add (Ser.Eq.refl _ _)).trans ((Ser.Eq.of (Ser.add_assoc f g h)).trans ((Ser.Eq.refl _ _).add e2.symm)))
theorem eq_massoc {p : Int} (hp : Pr p) {f g h : Ser} (hf : Fini p f) (hg : Fini p g) (hh : Fini p h) :
    polL p (Ser.mul (cf (polL p (Ser.mul f g))) h) = polL p (Ser.mul f (cf (polL p (Ser.mul g h)))) := by
  have e1 := cf_polL hp (hf.mul hg)
  have e2 := cf_polL hp (hg.mul hh)
  exact polL_congr ((e1.mulL h).trans ((Ser.Eq.of (Ser.mul_assoc f g h)).trans ((Ser.Eq.refl _ _).mul e2.symm)))
theorem eq_distr {p : Int} (hp : Pr p) {f g h : Ser} (hf : Fini p f) (hg : Fini p g) (hh : Fini p h) :
    polL p (Ser.mul f (cf (polL p (Ser.add g (Ser.sc 1 h))))) = polL p (Ser.add (cf (polL p (Ser.mul f g))) (Ser.sc 1 (cf (polL p (Ser.mul f h))))) := by
  have e1 := cf_polL hp (fini_add1 hg hh)
  have e2 := cf_polL hp (hf.mul hg)
  have e3 := cf_polL hp (hf.mul hh)
  simp only [sc_one] at e1 ⊢
  exact polL_congr (((Ser.Eq.refl _ _).mul e1).trans ((Ser.Eq.of (Ser.mul_add f g h)).trans (e2.symm.add e3.symm)))
theorem eq_back {p : Int} (hp : Pr p) {f g : Ser} (hf : Fini p f) (hg : Fini p g) : polL p (Ser.add (cf (polL p (Ser.add f (Ser.sc 1 g)))) (Ser.sc (-1) g)) = polL p f := by
  refine polL_congr (((cf_polL hp (fini_add1 hf hg)).add (Ser.Eq.refl _ _)).trans (Ser.Eq.of ?_))
  funext i
  show f i + 1 * g i + -1 * g i = f i
  omega
end Go.Proofs.YtbipbpakbanacaaDoor

/- Quotients, rests, common divisors, powers' rests of polynomials by a prime: that there are such, so that the names stand for them; what layer 6's laws say of them. Mathematics alone. -/
namespace Go.Proofs.YtbipbpakbanacaaDoor

theorem div_ex {p : Int} {b : Ser} {m : Nat} (hp : Pr p) (hl : Last p b m) : ∀ (N : Nat) (a : Ser), Ser.Bd p a N → ∃ q r, Fini p q ∧ IsDiv p m a b q r := by
  intro N
  induction N with
  | zero =>
    intro a ha
    refine ⟨Ser.zer, a, ⟨0, fun i _ => by simp [Ser.zer]⟩, ?_, ha.mono (Nat.zero_le _)⟩
    rw [Ser.zer_mul, Ser.zer_add]
    exact Ser.Eq.refl _ _
  | succ N ih =>
    intro a ha
    by_cases hN : N + 1 ≤ m
    · refine ⟨Ser.zer, a, ⟨0, fun i _ => by simp [Ser.zer]⟩, ?_, ha.mono hN⟩
      rw [Ser.zer_mul, Ser.zer_add]
      exact Ser.Eq.refl _ _
    · have hs := finv_spec hp hl.2
      obtain ⟨q, r, ⟨M, hq⟩, h1, h2⟩ := ih (less a (Ser.mono (a N * finv (b m) p) (N - m)) b) (by
        intro i hi
        show (a i + -1 * Ser.mul (Ser.mono (a N * finv (b m) p) (N - m)) b i) % p = 0
        rw [Ser.mono_mul_at, if_pos (by omega)]
        by_cases e : i = N
        · subst e
          rw [show i - (i - m) = m from by omega]
          generalize a i = A at *
          generalize b m = B at *
          generalize finv B p = B' at *
          have e1 : A * B' * B % p = A % p := by
            rw [Int.mul_assoc, Int.mul_comm B' B, Int.mul_emod, hs.2.2, Int.mul_one, Int.emod_emod_of_dvd _ (Int.dvd_refl p)]
          have e2 := Int.emod_eq_emod_iff_emod_sub_eq_zero.1 e1.symm
          rw [show A + -1 * (A * B' * B) = A - A * B' * B from by omega]
          exact e2
        · rw [Int.add_emod, ha i (by omega), Int.mul_emod (-1), Int.mul_emod (a N * finv (b m) p), hl.1 (i - (N - m)) (by omega)]
          simp)
      refine ⟨Ser.add (Ser.mono (a N * finv (b m) p) (N - m)) q, r, ⟨max (N + 1) M, ?_⟩, ?_, h2⟩
      · refine Ser.Bd.add (fun i hi => ?_) (hq.mono (by omega))
        show (if i = N - m then _ else (0 : Int)) % p = 0
        rw [if_neg (by omega)]; simp
      · rw [Ser.add_mul, Ser.add_assoc]
        refine (Ser.Eq.of (less_back a (Ser.mono (a N * finv (b m) p) (N - m)) b)).trans ?_
        exact (Ser.Eq.refl _ _).add h1
/-- What the names of quotient and rest stand for. -/
theorem quo_rem {p : Int} {a b : Ser} {m : Nat} (hp : Pr p) (hl : Last p b m) (ha : Fini p a) : ∃ q r, Fini p q ∧ IsDiv p m a b q r ∧ Pol p (quoL p a b) q ∧ Pol p (remL p a b) r := by
  obtain ⟨N, hN⟩ := ha
  obtain ⟨q, r, hq, hd⟩ := div_ex hp hl N a hN
  have h1 := polL_pol hp hq
  have h2 := polL_pol (f := r) hp ⟨m, hd.2⟩
  refine ⟨q, r, hq, hd, ?_, ?_⟩
  · rw [quoL_is hp hl hq hd h1]; exact h1
  · rw [remL_is hp hl ⟨q, hq, hd⟩ h2]; exact h2
theorem rest_back {p : Int} {a b : Ser} {m : Nat} (hp : Pr p) (hl : Last p b m) (ha : Fini p a) (hb : Fini p b) :
    polL p (Ser.add (cf (polL p (Ser.mul (cf (quoL p a b)) b))) (Ser.sc 1 (cf (remL p a b)))) = polL p a := by
  obtain ⟨q, r, hq, hd, h1, h2⟩ := quo_rem hp hl ha
  have e1 := cf_polL (f := Ser.mul (cf (quoL p a b)) b) hp ((fini_cf p _).mul hb)
  rw [sc_one]
  exact polL_congr ((e1.add (Ser.Eq.refl _ _)).trans (((h1.2.mulL b).add h2.2).trans hd.1.symm))
theorem rest_len {p : Int} {a b : Ser} {m : Nat} (hp : Pr p) (hl : Last p b m) (ha : Fini p a) (hb : Fini p b) : (remL p a b).length < (polL p b).length := by
  have h1 : 1 ≤ p := by have := hp.1; omega
  obtain ⟨q, r, hq, hd, _, h2⟩ := quo_rem hp hl ha
  have := h2.1.len_le h1 (hd.2.eq h2.2.symm)
  rw [pol_len h1 (polL_pol hp hb) hl.1 hl.2]
  omega
theorem quo_of_mul {p : Int} {a b : Ser} {m : Nat} (hp : Pr p) (hl : Last p b m) (ha : Fini p a) (hb : Fini p b) :
    quoL p (cf (polL p (Ser.mul a b))) b = polL p a ∧ remL p (cf (polL p (Ser.mul a b))) b = [] := by
  have e := cf_polL (f := Ser.mul a b) hp (ha.mul hb)
  have hd : IsDiv p m (cf (polL p (Ser.mul a b))) b a Ser.zer := ⟨by rw [Ser.add_zer]; exact e, fun i _ => by simp [Ser.zer]⟩
  exact ⟨quoL_is hp hl ha hd (polL_pol hp ha), remL_is hp hl ⟨a, ha, hd⟩ ⟨Pln.nil p, fun i => by rw [cf_nil]; rfl⟩⟩
/-- What is a multiple leaves no rest. -/
theorem rem_mult {p : Int} {a b : Ser} {m : Nat} (hp : Pr p) (hl : Last p b m) (h : Mult p b a) : remL p a b = [] := by
  obtain ⟨u, hu, he⟩ := h
  have hd : IsDiv p m a b u Ser.zer := ⟨by rw [Ser.add_zer]; exact he, fun i _ => by simp [Ser.zer]⟩
  exact remL_is hp hl ⟨u, hu, hd⟩ ⟨Pln.nil p, fun i => by rw [cf_nil]; rfl⟩

def ERow.Fin (p : Int) (x : ERow) : Prop := Fini p x.g ∧ Fini p x.s ∧ Fini p x.t
theorem fini_less {p : Int} {f q g : Ser} (hf : Fini p f) (hq : Fini p q) (hg : Fini p g) : Fini p (less f q g) := hf.add (hq.mul hg).sc
theorem eu_ex {p : Int} (hp : Pr p) : ∀ (N : Nat) (x y : ERow), x.Fin p → y.Fin p → Ser.Bd p y.g N → ∃ o, EuRun p x y o ∧ o.Fin p := by
  intro N
  induction N using Nat.strongRecOn with
  | ind N ih =>
    intro x y hx hy hb
    rcases Classical.em (Ser.Bd p y.g 0) with h0 | h0
    · exact ⟨x, .stop h0, hx⟩
    · obtain ⟨m, hl⟩ := last_of h0 hy.1
      have hm : m < N := by
        rcases Nat.lt_or_ge m N with h | h
        · exact h
        · exact absurd (hb m h) hl.2
      obtain ⟨K, hK⟩ := hx.1
      obtain ⟨q, r, hq, hd⟩ := div_ex hp hl K x.g hK
      have hz : Ser.Bd p (x.less q y).g m := hd.2.eq (less_of hd.1)
      obtain ⟨o, ho, hf⟩ := ih m hm y (x.less q y) hy ⟨fini_less hx.1 hq hy.1, fini_less hx.2.1 hq hy.2.1, fini_less hx.2.2 hq hy.2.2⟩ hz
      exact ⟨o, .step m q hl.1 hl.2 hq hz (ERow.Same.refl _ _) ho, hf⟩
theorem fini_con (p c : Int) : Fini p (Ser.con c) := ⟨1, fun i hi => by show (if i = 0 then c else 0) % p = 0; rw [if_neg (by omega)]; simp⟩
theorem fini_zer (p : Int) : Fini p Ser.zer := ⟨0, fun i _ => by simp [Ser.zer]⟩
theorem bez_ex {p : Int} (hp : Pr p) {a b : Ser} (ha : Fini p a) (hb : Fini p b) : ∃ g s t, IsBez p a b g s t ∧ Pol p (bezG p a b) g ∧ Pol p (bezS p a b) s ∧ Pol p (bezT p a b) t ∧ Fini p g := by
  obtain ⟨N, hN⟩ := hb
  obtain ⟨o, ho, hf⟩ := eu_ex hp N ⟨a, Ser.con 1, Ser.zer⟩ ⟨b, Ser.zer, Ser.con 1⟩ ⟨ha, fini_con p 1, fini_zer p⟩ ⟨⟨N, hN⟩, fini_zer p, fini_con p 1⟩ hN
  have key : ∀ g s t, IsBez p a b g s t → Fini p g → Fini p s → Fini p t → ∃ g s t, IsBez p a b g s t ∧ Pol p (bezG p a b) g ∧ Pol p (bezS p a b) s ∧ Pol p (bezT p a b) t ∧ Fini p g := by
    intro g s t h fg fs ft
    have h1 := polL_pol hp fg
    have h2 := polL_pol hp fs
    have h3 := polL_pol hp ft
    exact ⟨g, s, t, h, by rw [bezG_is hp h h1]; exact h1, by rw [bezS_is hp h h2]; exact h2, by rw [bezT_is hp h h3]; exact h3, fg⟩
  rcases Classical.em (Ser.Bd p o.g 0) with h0 | h0
  · exact key Ser.zer (Ser.con 1) Ser.zer ⟨o, ho, .inl ⟨h0, fun i _ => by simp [Ser.zer], Ser.Eq.refl _ _, fun i _ => by simp [Ser.zer]⟩⟩ (fini_zer p) (fini_con p 1) (fini_zer p)
  · obtain ⟨m, hl⟩ := last_of h0 hf.1
    exact key _ _ _ ⟨o, ho, .inr ⟨m, hl.1, hl.2, Ser.Eq.refl _ _, Ser.Eq.refl _ _, Ser.Eq.refl _ _⟩⟩ hf.1.sc hf.2.1.sc hf.2.2.sc
/-- Bezout's row is made of both. -/
theorem bez_made {p : Int} (hp : Pr p) {a b : Ser} (ha : Fini p a) (hb : Fini p b) :
    polL p (Ser.add (cf (polL p (Ser.mul (cf (bezS p a b)) a))) (Ser.sc 1 (cf (polL p (Ser.mul (cf (bezT p a b)) b))))) = bezG p a b := by
  obtain ⟨g, s, t, h, h1, h2, h3, hf⟩ := bez_ex hp ha hb
  have e1 := cf_polL (f := Ser.mul (cf (bezS p a b)) a) hp ((fini_cf p _).mul ha)
  have e2 := cf_polL (f := Ser.mul (cf (bezT p a b)) b) hp ((fini_cf p _).mul hb)
  rw [sc_one]
  refine polL_is hp (h1.eq ?_)
  exact (((e1.trans (h2.2.mulL a)).add (e2.trans (h3.2.mulL b))).trans h.made).symm
theorem bez_zero {p : Int} (hp : Pr p) {a b : Ser} (ha : Fini p a) (hb : Fini p b) (h0 : bezG p a b = []) : polL p a = [] ∧ polL p b = [] := by
  obtain ⟨g, s, t, h, h1, _⟩ := bez_ex hp ha hb
  have := (h1.nought (by have := hp.1; omega)).1 h0
  have := (h.nought hp).1 this
  exact ⟨polL_nil this.1, polL_nil this.2⟩
theorem bez_some {p : Int} (hp : Pr p) {a b : Ser} (ha : Fini p a) (hb : Fini p b) (h0 : bezG p a b ≠ []) :
    cf (bezG p a b) ((bezG p a b).length - 1) = 1 ∧ Last p (cf (bezG p a b)) ((bezG p a b).length - 1) ∧ remL p a (cf (bezG p a b)) = [] ∧ remL p b (cf (bezG p a b)) = [] := by
  have hp1 : 1 ≤ p := by have := hp.1; omega
  obtain ⟨g, s, t, h, h1, _⟩ := bez_ex hp ha hb
  have hn : ¬ Ser.Bd p g 0 := fun k => h0 ((h1.nought hp1).2 k)
  obtain ⟨m, hm, ht⟩ := h.monic hp hn
  have hlen := pol_len hp1 h1 hm (by rw [ht]; decide)
  have hl : Last p (cf (bezG p a b)) ((bezG p a b).length - 1) := pol_last hp1 (Pol.self h1.1) h0
  have hd := h.divides hp
  have hm' : ∀ f, Mult p g f → Mult p (cf (bezG p a b)) f := by
    rintro f ⟨u, fu, hu⟩
    exact ⟨u, fu, hu.trans ((Ser.Eq.refl _ _).mul h1.2.symm)⟩
  refine ⟨?_, hl, rem_mult hp hl (hm' _ hd.1), rem_mult hp hl (hm' _ hd.2)⟩
  have e := h1.2 m
  rw [ht, h1.1.1.emod hp1] at e
  rw [hlen, Nat.add_sub_cancel]
  exact e
theorem bez_more {p : Int} (hp : Pr p) {a b c : Ser} (ha : Fini p a) (hb : Fini p b) (hc : Fini p c) :
    bezG p (cf (polL p (Ser.mul a c))) (cf (polL p (Ser.mul b c))) = monL p (cf (polL p (Ser.mul (cf (bezG p a b)) c))) := by
  have hp1 : 1 ≤ p := by have := hp.1; omega
  obtain ⟨g, s, t, h, h1, _⟩ := bez_ex hp ha hb
  obtain ⟨g', s', t', h', h1', _⟩ := bez_ex (a := cf (polL p (Ser.mul a c))) (b := cf (polL p (Ser.mul b c))) hp (fini_cf p _) (fini_cf p _)
  obtain ⟨g2, s2, t2, k, k1, k2, k3, _⟩ := bez_ex (a := Ser.mul a c) (b := Ser.mul b c) hp (ha.mul hc) (hb.mul hc)
  have e := h'.uniq hp k (cf_polL hp (ha.mul hc)) (cf_polL hp (hb.mul hc))
  have hm : IsMon p (Ser.mul g c) g' := h.more hp hc (s' := s2) (t' := t2) (by
    obtain ⟨o, r, w⟩ := k
    refine ⟨o, r, ?_⟩
    rcases w with ⟨w1, w2, w3, w4⟩ | ⟨m, w1, w2, w3, w4, w5⟩
    · exact .inl ⟨w1, w2.eq e.1.symm, w3, w4⟩
    · exact .inr ⟨m, w1, w2, e.1.trans w3, w4, w5⟩)
  have e2 : Ser.Eq p (cf (polL p (Ser.mul (cf (bezG p a b)) c))) (Ser.mul g c) := (cf_polL hp ((fini_cf p _).mul hc)).trans (h1.2.mulL c)
  have hm2 : ∃ g3, IsMon p (cf (polL p (Ser.mul (cf (bezG p a b)) c))) g3 ∧ Ser.Eq p g3 g' := by
    rcases hm with ⟨m1, m2⟩ | ⟨m, m1, m2, m3⟩
    · exact ⟨g', .inl ⟨m1.eq e2.symm, m2⟩, Ser.Eq.refl _ _⟩
    · exact ⟨g', .inr ⟨m, m1.eq e2.symm, by rw [e2 m]; exact m2, by rw [finv_congr hp (e2 m)]; exact m3.trans (Ser.Eq.sc rfl e2.symm)⟩, Ser.Eq.refl _ _⟩
  obtain ⟨g3, m3, e3⟩ := hm2
  exact (monL_is hp m3 (h1'.eq e3.symm)).symm
end Go.Proofs.YtbipbpakbanacaaDoor

/- Derivatives of products, values of sums and products, powers' rests: what layer 6's laws say of them. Mathematics alone. -/
namespace Go.Proofs.YtbipbpakbanacaaDoor

theorem der_mul_at (g : Ser) (n : Nat) : ∀ f : Ser, ((n : Int) + 1) * Ser.mul f g (n + 1) = Ser.mul (Ser.der f) g n + Ser.mul f (Ser.der g) n := by
  induction n with
  | zero =>
    intro f
    rw [Ser.mul_succ, Ser.mul_zero_at, Ser.mul_zero_at, Ser.mul_zero_at]
    show ((0 : Nat) + 1 : Int) * (f 0 * g 1 + f 1 * g 0) = ((0 : Nat) + 1 : Int) * f 1 * g 0 + f 0 * (((0 : Nat) + 1 : Int) * g 1)
    simp only [Int.ofNat_zero, Int.zero_add, Int.one_mul]
    omega
  | succ n ih =>
    intro f
    have e : Ser.tl (Ser.der f) = Ser.add (Ser.der (Ser.tl f)) (Ser.tl (Ser.tl f)) := by
      funext i
      show ((i + 1 : Nat) + 1 : Int) * f (i + 1 + 1) = ((i : Int) + 1) * f (i + 1 + 1) + f (i + 1 + 1)
      generalize f (i + 1 + 1) = z
      rw [show ((i + 1 : Nat) + 1 : Int) = ((i : Int) + 1) + 1 from by omega, Int.add_mul, Int.one_mul]
    have h := ih (Ser.tl f)
    rw [Ser.mul_succ f g (n + 1), Ser.mul_succ (Ser.der f) g n, Ser.mul_succ f (Ser.der g) n, e, Ser.add_mul_at]
    have h2 := Ser.mul_succ (Ser.tl f) g n
    have hd : Ser.der f 0 = Ser.tl f 0 := by show ((0 : Nat) + 1 : Int) * f 1 = f 1; simp
    have hg : Ser.der g (n + 1) = ((n + 1 : Nat) + 1 : Int) * g (n + 1 + 1) := rfl
    rw [hd, hg, Int.mul_add, show ((n + 1 : Nat) + 1 : Int) = ((n : Int) + 1) + 1 from by omega, Int.add_mul ((n : Int) + 1) 1 (Ser.mul (Ser.tl f) g (n + 1)), h, Int.one_mul]
    rw [show f 0 * (((n : Int) + 1 + 1) * g (n + 1 + 1)) = ((n : Int) + 1 + 1) * (f 0 * g (n + 1 + 1)) from by rw [Int.mul_left_comm]]
    omega
theorem der_mul (f g : Ser) : Ser.der (Ser.mul f g) = Ser.add (Ser.mul (Ser.der f) g) (Ser.mul f (Ser.der g)) := funext fun n => der_mul_at g n f
theorem fini_der {p : Int} {f : Ser} (h : Fini p f) : Fini p (Ser.der f) := by
  obtain ⟨N, hN⟩ := h
  exact ⟨N, fun i hi => by show ((i : Int) + 1) * f (i + 1) % p = 0; rw [Int.mul_emod, hN (i + 1) (by omega)]; simp⟩
theorem eq_leibniz {p : Int} (hp : Pr p) {f g : Ser} (hf : Fini p f) (hg : Fini p g) :
    polL p (Ser.der (cf (polL p (Ser.mul f g)))) = polL p (Ser.add (cf (polL p (Ser.mul (cf (polL p (Ser.der f))) g))) (Ser.sc 1 (cf (polL p (Ser.mul f (cf (polL p (Ser.der g)))))))) := by
  have e1 := (cf_polL hp (hf.mul hg)).der
  have e2 := cf_polL hp (fini_der hf)
  have e3 := cf_polL hp (fini_der hg)
  have e4 := cf_polL (f := Ser.mul (cf (polL p (Ser.der f))) g) hp ((fini_cf p _).mul hg)
  have e5 := cf_polL (f := Ser.mul f (cf (polL p (Ser.der g)))) hp (hf.mul (fini_cf p _))
  rw [sc_one]
  refine polL_congr (e1.trans ?_)
  rw [der_mul]
  exact ((e4.trans (e2.mulL g)).add (e5.trans ((Ser.Eq.refl _ _).mul e3))).symm

/-- Values. -/
theorem evL_zero (x p : Int) : ∀ xs : List Int, Ser.Bd p (cf xs) 0 → evL x xs % p = 0 := by
  intro xs
  induction xs with
  | nil => intro _; simp [evL]
  | cons a l ih =>
    intro h
    have h0 : a % p = 0 := by have := h 0 (Nat.le_refl _); rwa [cf_cons_zero] at this
    have h1 : Ser.Bd p (cf l) 0 := fun i _ => by have := h (i + 1) (Nat.zero_le _); rwa [cf_cons_succ] at this
    show (a + x * evL x l) % p = 0
    rw [Int.add_emod, h0, Int.mul_emod, ih h1]
    simp
theorem evL_congr (x p : Int) : ∀ xs ys : List Int, Ser.Eq p (cf xs) (cf ys) → evL x xs % p = evL x ys % p := by
  intro xs
  induction xs with
  | nil =>
    intro ys h
    rw [evL_zero x p ys (fun i _ => by rw [← h i, cf_nil]; simp)]
    simp [evL]
  | cons a l ih =>
    intro ys h
    cases ys with
    | nil =>
      rw [evL_zero x p (a :: l) (fun i _ => by rw [h i, cf_nil]; simp)]
      simp [evL]
    | cons b k =>
      have h0 : a % p = b % p := by have := h 0; rwa [cf_cons_zero, cf_cons_zero] at this
      have h1 : Ser.Eq p (cf l) (cf k) := fun i => by have := h (i + 1); rwa [cf_cons_succ, cf_cons_succ] at this
      show (a + x * evL x l) % p = (b + x * evL x k) % p
      rw [Int.add_emod, h0, Int.mul_emod, ih k h1, ← Int.mul_emod, ← Int.add_emod]
theorem ev_sum (x : Int) : ∀ xs ys : List Int, ∃ zs, cf zs = Ser.add (cf xs) (cf ys) ∧ evL x zs = evL x xs + evL x ys := by
  intro xs
  induction xs with
  | nil => exact fun ys => ⟨ys, by funext i; show cf ys i = cf [] i + cf ys i; rw [cf_nil, Int.zero_add], by simp [evL]⟩
  | cons a l ih =>
    intro ys
    cases ys with
    | nil => exact ⟨a :: l, by funext i; show cf (a :: l) i = cf (a :: l) i + cf [] i; rw [cf_nil, Int.add_zero], by simp [evL]⟩
    | cons b k =>
      obtain ⟨zs, h1, h2⟩ := ih k
      refine ⟨(a + b) :: zs, ?_, ?_⟩
      · funext i
        cases i with
        | zero => show cf ((a + b) :: zs) 0 = cf (a :: l) 0 + cf (b :: k) 0; rw [cf_cons_zero, cf_cons_zero, cf_cons_zero]
        | succ i => show cf ((a + b) :: zs) (i + 1) = cf (a :: l) (i + 1) + cf (b :: k) (i + 1); rw [cf_cons_succ, cf_cons_succ, cf_cons_succ, h1]; rfl
      · show a + b + x * evL x zs = a + x * evL x l + (b + x * evL x k)
        rw [h2, Int.mul_add]
        omega
theorem ev_sc (x c : Int) (ys : List Int) : cf (ys.map (c * ·)) = Ser.sc c (cf ys) ∧ evL x (ys.map (c * ·)) = c * evL x ys := by
  refine ⟨funext fun i => cf_map (c * ·) (by simp) ys i, ?_⟩
  induction ys with
  | nil => simp [evL]
  | cons b k ih =>
    show c * b + x * evL x (k.map (c * ·)) = c * (b + x * evL x k)
    rw [ih, Int.mul_add, Int.mul_left_comm]
theorem ev_mul (x : Int) : ∀ xs ys : List Int, ∃ zs, cf zs = Ser.mul (cf xs) (cf ys) ∧ evL x zs = evL x xs * evL x ys := by
  intro xs
  induction xs with
  | nil =>
    intro ys
    refine ⟨[], ?_, by simp [evL]⟩
    have : cf [] = Ser.zer := funext fun i => cf_nil i
    rw [this, Ser.zer_mul]
  | cons a l ih =>
    intro ys
    obtain ⟨zs, h1, h2⟩ := ih ys
    obtain ⟨ws, k1, k2⟩ := ev_sum x (ys.map (a * ·)) (0 :: zs)
    refine ⟨ws, ?_, ?_⟩
    · rw [k1, (ev_sc x a ys).1]
      have ht : Ser.tl (cf (a :: l)) = cf l := funext fun i => cf_cons_succ a l i
      funext i
      show a * cf ys i + cf (0 :: zs) i = _
      cases i with
      | zero => rw [Ser.mul_zero_at, cf_cons_zero, cf_cons_zero, Int.add_zero]
      | succ i => rw [Ser.mul_succ, ht, cf_cons_succ, cf_cons_zero, h1]
    · rw [k2, (ev_sc x a ys).2]
      show a * evL x ys + (0 + x * evL x zs) = (a + x * evL x l) * evL x ys
      rw [h2, Int.add_mul, Int.zero_add, Int.mul_assoc]
theorem ev_of_sum {p : Int} (hp : Pr p) (x : Int) (xs ys : List Int) : evP' x p (polL p (Ser.add (cf xs) (Ser.sc 1 (cf ys)))) = fadd (evP' x p xs) (evP' x p ys) p := by
  have hb := primB_yes hp
  obtain ⟨zs, h1, h2⟩ := ev_sum x xs ys
  rw [sc_one, fadd_yes hb]
  unfold evP'
  rw [if_pos hb, if_pos hb, if_pos hb, evL_congr x p _ zs ((cf_polL hp ((fini_cf p _).add (fini_cf p _))).trans (Ser.Eq.of h1.symm)), h2, ← Int.add_emod]
theorem ev_of_mul {p : Int} (hp : Pr p) (x : Int) (xs ys : List Int) : evP' x p (polL p (Ser.mul (cf xs) (cf ys))) = fmul (evP' x p xs) (evP' x p ys) p := by
  have hb := primB_yes hp
  obtain ⟨zs, h1, h2⟩ := ev_mul x xs ys
  rw [fmul_yes hb]
  unfold evP'
  rw [if_pos hb, if_pos hb, if_pos hb, evL_congr x p _ zs ((cf_polL hp ((fini_cf p _).mul (fini_cf p _))).trans (Ser.Eq.of h1.symm)), h2, ← Int.mul_emod]

/-- Powers' rests. -/
theorem pow_rest {p : Int} {f b : Ser} {m : Nat} (hp : Pr p) (hl : Last p b m) (hf : Fini p f) (V : Nat) : RestOf p m (Ser.pw f V) b (cf (powL p 1 V f b)) := by
  obtain ⟨N, hN⟩ := fini_pw hf V
  obtain ⟨q, r, hq, hd⟩ := div_ex hp hl N _ hN
  have h := polL_pol (f := r) hp ⟨m, hd.2⟩
  rw [powL_is hp (by decide) hl ⟨q, hq, hd⟩ h]
  exact RestOf.eqR ⟨q, hq, hd⟩ h.2.symm
theorem pow_is {p : Int} {f b r : Ser} {m V : Nat} (hp : Pr p) (hl : Last p b m) (h : RestOf p m (Ser.pw f V) b r) : powL p 1 V f b = polL p r := by
  exact powL_is hp (by decide) hl h (polL_pol hp h.fini)
theorem pow_adds {p : Int} {f b : Ser} {m : Nat} (hp : Pr p) (hl : Last p b m) (hf : Fini p f) (i j : Nat) :
    remL p (cf (polL p (Ser.mul (cf (powL p 1 i f b)) (cf (powL p 1 j f b))))) b = powL p 1 (i + j) f b := by
  have hi := pow_rest hp hl hf i
  have hj := pow_rest hp hl hf j
  have hm := cf_polL (f := Ser.mul (cf (powL p 1 i f b)) (cf (powL p 1 j f b))) hp ((fini_cf p _).mul (fini_cf p _))
  obtain ⟨q, r, hq, hd, _, h2⟩ := quo_rem (a := cf (polL p (Ser.mul (cf (powL p 1 i f b)) (cf (powL p 1 j f b))))) hp hl (fini_cf p _)
  have h1 : RestOf p m (Ser.mul (cf (powL p 1 i f b)) (cf (powL p 1 j f b))) b r := RestOf.eq ⟨q, hq, hd⟩ hm
  have h3 : RestOf p m (Ser.mul (Ser.pw f i) (cf (powL p 1 j f b))) b r := hi.mulR (fini_cf p _) h1
  have h4 : RestOf p m (Ser.mul (Ser.pw f j) (Ser.pw f i)) b r := hj.mulR (fini_pw hf i) (by rw [Ser.mul_comm]; exact h3)
  have h5 : RestOf p m (Ser.pw f (i + j)) b r := by rw [Ser.pw_add, Ser.mul_comm]; exact h4
  rw [pow_is hp hl h5]
  exact (polL_is hp h2).symm
theorem pow_frob {p : Int} {f g b : Ser} {m : Nat} (hp : Pr p) (hl : Last p b m) (hf : Fini p f) (hg : Fini p g) :
    powL p 1 p.toNat (cf (polL p (Ser.add f (Ser.sc 1 g)))) b = polL p (Ser.add (cf (powL p 1 p.toNat f b)) (Ser.sc 1 (cf (powL p 1 p.toNat g b)))) := by
  have e := (cf_polL hp (fini_add1 hf hg)).pw p.toNat
  rw [sc_one] at e ⊢
  rw [sc_one]
  obtain ⟨q1, n1, d1⟩ := pow_rest hp hl hf p.toNat
  obtain ⟨q2, n2, d2⟩ := pow_rest hp hl hg p.toNat
  refine pow_is hp hl ⟨Ser.add q1 q2, n1.add n2, ?_, d1.2.add d2.2⟩
  refine e.trans ((Ser.frob hp f g).trans ((d1.1.add d2.1).trans (Ser.Eq.of ?_)))
  rw [Ser.add_mul]
  funext i
  show Ser.mul q1 b i + _ + (Ser.mul q2 b i + _) = Ser.mul q1 b i + Ser.mul q2 b i + (_ + _)
  omega
end Go.Proofs.YtbipbpakbanacaaDoor

/- What the walks of layer 6's laws share: the slices that live, the law's own helpers, its example. -/
namespace Go.Proofs.YtbipbpakbanacaaDoor
open Go.RowKit

theorem bel_alloc (w : World) (o : Obj) : Below w.heap.size w (w.alloc o) := (Below.refl _ _).alloc (Nat.le_refl _) _
/-- Slices that live. -/
def Liv (w : World) : List (Option Addr × Nat × Nat × List Int) → Prop
  | [] => True
  | q :: l => ISl w q.1 q.2.1 q.2.2.1 q.2.2.2 ∧ Liv w l
theorem Liv.get {w : World} {l : List (Option Addr × Nat × Nat × List Int)} {A : Option Addr} {n c : Nat} {xs : List Int} (h : Liv w l) (hm : (A, n, c, xs) ∈ l) : ISl w A n c xs := by
  induction l with
  | nil => cases hm
  | cons q l ih =>
    cases hm with
    | head => exact h.1
    | tail _ hm => exact ih h.2 hm
theorem Liv.below {w w' : World} {l : List (Option Addr × Nat × Nat × List Int)} (h : Liv w l) (hb : Below w.heap.size w w') : Liv w' l := by
  induction l with
  | nil => trivial
  | cons q l ih => exact ⟨h.1.below hb, ih h.2⟩
theorem Liv.got {w w' : World} {l : List (Option Addr × Nat × Nat × List Int)} {C : Option Addr} {m d : Nat} {L : List Int} {N : Nat} (h : Liv w l) (g : Got w C m d L N w') : Liv w' ((C, m, d, L) :: l) := ⟨g.1, h.below g.2.2⟩
theorem Liv.more {w : World} {l : List (Option Addr × Nat × Nat × List Int)} {C : Option Addr} {m d : Nat} {L : List Int} (h : Liv w l) (g : ISl w C m d L) : Liv w ((C, m, d, L) :: l) := ⟨g, h⟩
theorem Got.len {W w' : World} {C : Option Addr} {m d : Nat} {L : List Int} {N : Nat} (g : Got W C m d L N w') : m = L.length := g.1.len
theorem Got.le {W w' : World} {C : Option Addr} {m d : Nat} {L : List Int} {N : Nat} (g : Got W C m d L N w') : m ≤ N := g.2.1
theorem Got.bel {W w' : World} {C : Option Addr} {m d : Nat} {L : List Int} {N : Nat} (g : Got W C m d L N w') : Below W.heap.size W w' := g.2.2
theorem hstep {w w1 w2 : World} (h : Hid (Below w.heap.size w w1)) (k : Below w1.heap.size w1 w2) : Hid (Below w.heap.size w w2) := Lib.hid (h.out.trans (k.mono h.out.size))

/-- The law's own bound on lengths. -/
theorem lShort2_yes (N : Nat) (K : Int) (hK : K = (N : Int)) (w : World) (A : Option Addr) (n c : Nat) (B : Option Addr) (n' c' : Nat) (h : n ≤ N ∧ n' ≤ N) :
    Calls Tryd.prog 13 #[.int .i64 K, .slice (some ⟨w.heap.size, 0, none⟩) 2 2] (w.alloc (.cells #[.slice A n c, .slice B n' c'] 22)) fun e w' => e = .returned (.bool true) ∧ Below (w.alloc (.cells #[.slice A n c, .slice B n' c'] 22)).heap.size (w.alloc (.cells #[.slice A n c, .slice B n' c'] 22)) w' := by
  subst hK
  refine (short_any N _ 2 2 _ _ ((vblk_list w [.slice A n c, .slice B n' c'] (sv_cons (sv_one _ _ _))).sl (by simp))).mono ?_
  rintro e w' ⟨rfl, hw⟩
  exact ⟨by simp [shB, slLen, h.1, h.2], below_eq hw⟩
theorem lShort2_no (N : Nat) (K : Int) (hK : K = (N : Int)) (w : World) (A : Option Addr) (n c : Nat) (B : Option Addr) (n' c' : Nat) (h : ¬ (n ≤ N ∧ n' ≤ N)) :
    Calls Tryd.prog 13 #[.int .i64 K, .slice (some ⟨w.heap.size, 0, none⟩) 2 2] (w.alloc (.cells #[.slice A n c, .slice B n' c'] 22)) fun e w' => e = .returned (.bool false) ∧ Below (w.alloc (.cells #[.slice A n c, .slice B n' c'] 22)).heap.size (w.alloc (.cells #[.slice A n c, .slice B n' c'] 22)) w' := by
  subst hK
  refine (short_any N _ 2 2 _ _ ((vblk_list w [.slice A n c, .slice B n' c'] (sv_cons (sv_one _ _ _))).sl (by simp))).mono ?_
  rintro e w' ⟨rfl, hw⟩
  refine ⟨?_, below_eq hw⟩
  congr 2
  by_cases h1 : n ≤ N
  · have h2 : ¬ n' ≤ N := fun k => h ⟨h1, k⟩
    simp [shB, slLen, h2]
  · simp [shB, slLen, h1]
theorem lShort3_yes (N : Nat) (K : Int) (hK : K = (N : Int)) (w : World) (A : Option Addr) (n c : Nat) (B : Option Addr) (n' c' : Nat) (D : Option Addr) (m d : Nat) (h : n ≤ N ∧ n' ≤ N ∧ m ≤ N) :
    Calls Tryd.prog 13 #[.int .i64 K, .slice (some ⟨w.heap.size, 0, none⟩) 3 3] (w.alloc (.cells #[.slice A n c, .slice B n' c', .slice D m d] 22)) fun e w' => e = .returned (.bool true) ∧ Below (w.alloc (.cells #[.slice A n c, .slice B n' c', .slice D m d] 22)).heap.size (w.alloc (.cells #[.slice A n c, .slice B n' c', .slice D m d] 22)) w' := by
  subst hK
  refine (short_any N _ 3 3 _ _ ((vblk_list w [.slice A n c, .slice B n' c', .slice D m d] (sv_cons (sv_cons (sv_one _ _ _)))).sl (by simp))).mono ?_
  rintro e w' ⟨rfl, hw⟩
  exact ⟨by simp [shB, slLen, h.1, h.2.1, h.2.2], below_eq hw⟩
theorem lShort3_no (N : Nat) (K : Int) (hK : K = (N : Int)) (w : World) (A : Option Addr) (n c : Nat) (B : Option Addr) (n' c' : Nat) (D : Option Addr) (m d : Nat) (h : ¬ (n ≤ N ∧ n' ≤ N ∧ m ≤ N)) :
    Calls Tryd.prog 13 #[.int .i64 K, .slice (some ⟨w.heap.size, 0, none⟩) 3 3] (w.alloc (.cells #[.slice A n c, .slice B n' c', .slice D m d] 22)) fun e w' => e = .returned (.bool false) ∧ Below (w.alloc (.cells #[.slice A n c, .slice B n' c', .slice D m d] 22)).heap.size (w.alloc (.cells #[.slice A n c, .slice B n' c', .slice D m d] 22)) w' := by
  subst hK
  refine (short_any N _ 3 3 _ _ ((vblk_list w [.slice A n c, .slice B n' c', .slice D m d] (sv_cons (sv_cons (sv_one _ _ _)))).sl (by simp))).mono ?_
  rintro e w' ⟨rfl, hw⟩
  refine ⟨?_, below_eq hw⟩
  congr 2
  by_cases h1 : n ≤ N
  · by_cases h2 : n' ≤ N
    · have h3 : ¬ m ≤ N := fun k => h ⟨h1, h2, k⟩
      simp [shB, slLen, h3]
    · simp [shB, slLen, h2]
  · simp [shB, slLen, h1]

set_option maxHeartbeats 400000 in
theorem lSum (A B : Option Addr) (n c n' c' : Nat) (xs ys : List Int) (p : Int) (w : World) (hT : TabAt w) (h : ISl w A n c xs) (h' : ISl w B n' c' ys) (ip : In64 p) (hn : n ≤ 100000000) (hn' : n' ≤ 100000000) :
    Calls Tryd.prog 38 #[.slice A n c, .slice B n' c', .int .i64 p] w fun e w' => ∃ C m d, e = .returned (.slice C m d) ∧ Got w C m d (polL p (Ser.add (cf xs) (Ser.sc 1 (cf ys)))) (max n n') w' := by
  have CC := Lib.hid (cAdd A B n c n' c' xs ys p w hT h h' ip hn hn')
  clear h h' ip hn hn' hT
  go_enter Tryd.func38, Tryd.ntmps38
  go_wp2_with (go_at_call 14; (with_reducible refine CC.out.mono ?_); rintro e w' ⟨C, m, d, rfl, hg⟩)
  go_ret
  exact ⟨C, m, d, rfl, hg⟩
set_option maxHeartbeats 400000 in
theorem lTimes (A B : Option Addr) (n c n' c' : Nat) (xs ys : List Int) (p : Int) (w : World) (hT : TabAt w) (h : ISl w A n c xs) (h' : ISl w B n' c' ys) (ip : In64 p) (hn : n ≤ 100000000) (hn' : n' ≤ 100000000) :
    Calls Tryd.prog 37 #[.slice A n c, .slice B n' c', .int .i64 p] w fun e w' => ∃ C m d, e = .returned (.slice C m d) ∧ Got w C m d (polL p (Ser.mul (cf xs) (cf ys))) (n + n') w' := by
  have CC := Lib.hid (cMul A B n c n' c' xs ys p w hT h h' ip hn hn')
  clear h h' ip hn hn' hT
  go_enter Tryd.func37, Tryd.ntmps37
  go_wp2_with (go_at_call 18; (with_reducible refine CC.out.mono ?_); rintro e w' ⟨C, m, d, rfl, hg⟩)
  go_ret
  exact ⟨C, m, d, rfl, hg⟩

/-- The same, where the length is known by a letter. -/
theorem cNorm_fix (A : Option Addr) (n c : Nat) (xs : List Int) (p : Int) (w : World) (hT : TabAt w) (l : Nat) (h : ISl w A n c xs) (ip : In64 p) (hn : n ≤ 17592186044416) (hl : (polL p (cf xs)).length = l) :
    Calls Tryd.prog 20 #[.slice A n c, .int .i64 p] w fun e w' => ∃ C d, e = .returned (.tuple #[.slice C l d, .int .i64 (chk p)]) ∧ Got w C l d (polL p (cf xs)) n w' := by
  refine (cNorm A n c xs p w hT h ip hn).mono ?_
  rintro e w' ⟨C, m, d, rfl, hg⟩
  obtain rfl : m = l := hg.len.trans hl
  exact ⟨C, d, rfl, hg⟩
theorem lTimes_fix (A B : Option Addr) (n c n' c' : Nat) (xs ys : List Int) (p : Int) (w : World) (hT : TabAt w) (l : Nat) (h : ISl w A n c xs) (h' : ISl w B n' c' ys) (ip : In64 p) (hn : n ≤ 100000000) (hn' : n' ≤ 100000000) (hl : (polL p (Ser.mul (cf xs) (cf ys))).length = l) :
    Calls Tryd.prog 37 #[.slice A n c, .slice B n' c', .int .i64 p] w fun e w' => ∃ C d, e = .returned (.slice C l d) ∧ Got w C l d (polL p (Ser.mul (cf xs) (cf ys))) (n + n') w' := by
  refine (lTimes A B n c n' c' xs ys p w hT h h' ip hn hn').mono ?_
  rintro e w' ⟨C, m, d, rfl, hg⟩
  obtain rfl : m = l := hg.len.trans hl
  exact ⟨C, d, rfl, hg⟩

theorem cDiv_zero (A B : Option Addr) (n c n' c' : Nat) (xs ys : List Int) (p : Int) (w : World) (hT : TabAt w) (h : ISl w A n c xs) (h' : ISl w B n' c' ys) (ip : In64 p) (hp : Pr p) (hb : Ser.Bd p (cf ys) 0) (hn : n ≤ 100000000) (hn' : n' ≤ 100000000) :
    Calls Tryd.prog 23 #[.slice A n c, .slice B n' c', .int .i64 p] w fun e w' => ∃ C m d C2 m2 d2, e = .returned (.tuple #[.slice C m d, .slice C2 m2 d2, .int .i64 3]) ∧ Got w C m d (quoL p (cf xs) (cf ys)) (n + 1) w' ∧ Got w C2 m2 d2 (remL p (cf xs) (cf ys)) n w' := by
  have h := cDiv A B n c n' c' xs ys p w hT h h' ip hn hn'
  rwa [ediv_zero hp hb] at h
theorem cDiv_ok (A B : Option Addr) (n c n' c' : Nat) (xs ys : List Int) (p : Int) (w : World) (hT : TabAt w) (h : ISl w A n c xs) (h' : ISl w B n' c' ys) (ip : In64 p) (hp : Pr p) (hb : ¬ Ser.Bd p (cf ys) 0) (hn : n ≤ 100000000) (hn' : n' ≤ 100000000) :
    Calls Tryd.prog 23 #[.slice A n c, .slice B n' c', .int .i64 p] w fun e w' => ∃ C m d C2 m2 d2, e = .returned (.tuple #[.slice C m d, .slice C2 m2 d2, .int .i64 0]) ∧ Got w C m d (quoL p (cf xs) (cf ys)) (n + 1) w' ∧ Got w C2 m2 d2 (remL p (cf xs) (cf ys)) n w' := by
  have h := cDiv A B n c n' c' xs ys p w hT h h' ip hn hn'
  rwa [ediv_yes hp hb] at h
theorem cDiv_fix (A B : Option Addr) (n c n' c' : Nat) (xs ys : List Int) (p : Int) (w : World) (hT : TabAt w) (l : Nat) (h : ISl w A n c xs) (h' : ISl w B n' c' ys) (ip : In64 p) (hp : Pr p) (hb : ¬ Ser.Bd p (cf ys) 0) (hn : n ≤ 100000000) (hn' : n' ≤ 100000000) (hl : (remL p (cf xs) (cf ys)).length = l) :
    Calls Tryd.prog 23 #[.slice A n c, .slice B n' c', .int .i64 p] w fun e w' => ∃ C m d C2 d2, e = .returned (.tuple #[.slice C m d, .slice C2 l d2, .int .i64 0]) ∧ Got w C m d (quoL p (cf xs) (cf ys)) (n + 1) w' ∧ Got w C2 l d2 (remL p (cf xs) (cf ys)) n w' := by
  refine (cDiv_ok A B n c n' c' xs ys p w hT h h' ip hp hb hn hn').mono ?_
  rintro e w' ⟨C, m, d, C2, m2, d2, rfl, hg, hg2⟩
  obtain rfl : m2 = l := hg2.len.trans hl
  exact ⟨C, m, d, C2, d2, rfl, hg, hg2⟩
theorem cMonic_ok (A : Option Addr) (n c : Nat) (xs : List Int) (p : Int) (w : World) (hT : TabAt w) (h : ISl w A n c xs) (ip : In64 p) (hp : Pr p) (hn : n ≤ 100000000) :
    Calls Tryd.prog 25 #[.slice A n c, .int .i64 p] w fun e w' => ∃ C m d, e = .returned (.tuple #[.slice C m d, .int .i64 0]) ∧ Got w C m d (monL p (cf xs)) (n + 1) w' := by
  have h := cMonic A n c xs p w hT h ip hn
  rwa [chk_yes (primB_yes hp)] at h
theorem cDeriv_ok (A : Option Addr) (n c : Nat) (xs : List Int) (p : Int) (w : World) (hT : TabAt w) (h : ISl w A n c xs) (ip : In64 p) (hp : Pr p) (hn : n ≤ 100000000) :
    Calls Tryd.prog 27 #[.slice A n c, .int .i64 p] w fun e w' => ∃ C m d, e = .returned (.tuple #[.slice C m d, .int .i64 0]) ∧ Got w C m d (polL p (Ser.der (cf xs))) n w' := by
  have h := cDeriv A n c xs p w hT h ip hn
  rwa [chk_yes (primB_yes hp)] at h
theorem cEval_ok (A : Option Addr) (n c : Nat) (xs : List Int) (x p : Int) (w : World) (hT : TabAt w) (h : ISl w A n c xs) (ip : In64 p) (hp : Pr p) (hn : n ≤ 100000000) :
    Calls Tryd.prog 29 #[.slice A n c, .int .i64 x, .int .i64 p] w fun e w' => e = .returned (.tuple #[.int .i64 (evP' x p xs), .int .i64 0]) ∧ Below w.heap.size w w' := by
  have h := cEval A n c xs x p w hT h ip hn
  rwa [chk_yes (primB_yes hp)] at h
theorem cfAdd_ok (a b p : Int) (ip : In64 p) (hp : Pr p) (w : World) (hT : TabAt w) : Calls Tryd.prog 39 #[.int .i64 a, .int .i64 b, .int .i64 p] w fun e w' => e = .returned (.tuple #[.int .i64 (fadd a b p), .int .i64 0]) ∧ Below w.heap.size w w' := by
  have h := cfAdd a b p ip w hT
  rwa [chk_yes (primB_yes hp)] at h
theorem cfMul_ok (a b p : Int) (ip : In64 p) (hp : Pr p) (w : World) (hT : TabAt w) : Calls Tryd.prog 40 #[.int .i64 a, .int .i64 b, .int .i64 p] w fun e w' => e = .returned (.tuple #[.int .i64 (fmul a b p), .int .i64 0]) ∧ Below w.heap.size w w' := by
  have h := cfMul a b p ip w hT
  rwa [chk_yes (primB_yes hp)] at h
theorem ISl.cell_ {w : World} {b o n c : Nat} {xs : List Int} (h : ISl w (some ⟨b, o, none⟩) n c xs) (k : Nat) (hk : k < n) : w.cell? ⟨b, o + k, none⟩ = some (iv (cf xs k)) := by
  obtain ⟨b', o', e, _, hc⟩ := h.cf_ (by omega)
  simp only [Option.some.injEq, Addr.mk.injEq, and_true] at e
  obtain ⟨rfl, rfl⟩ := e
  exact hc k hk

theorem powL_sg {p sg : Int} {V : Nat} {f b : Ser} (h : 0 ≤ sg) : powL p sg V f b = powL p 1 V f b := the_congr fun _ => ⟨fun k => ⟨k.1, by decide, k.2.2⟩, fun k => ⟨k.1, h, k.2.2⟩⟩
theorem zsg_false (v : Nat) : 0 ≤ zsg false v := by
  unfold zsg
  split <;> decide
theorem cPow_ok (A B E : Option Addr) (n c n' c' k d : Nat) (xs ys : List Int) (es : List Nat) (V : Nat) (p : Int) (w : World) (hT : TabAt w) (h : ISl w A n c xs) (h' : ISl w B n' c' ys) (hE : Sl w E k d es) (hv : val es = V) (ip : In64 p) (hp : Pr p) (hb : ¬ Ser.Bd p (cf ys) 0) (hn : n ≤ 1000000) (hn' : n' ≤ 1000000) (hk : k ≤ 1000000) :
    Calls Tryd.prog 34 #[.slice A n c, .agg #[.bool false, .slice E k d], .slice B n' c', .int .i64 p] w fun e w' => ∃ C m d, e = .returned (.tuple #[.slice C m d, .int .i64 0]) ∧ Got w C m d (powL p 1 V (cf xs) (cf ys)) n' w' := by
  have h := cPowMod A B E n c n' c' k d xs ys false es p w hT h h' hE ip hn hn' hk
  rwa [epw_yes hp (zsg_false _) hb, powL_sg (zsg_false _), hv] at h
theorem zOfI (K : Int) (h0 : 0 ≤ K) (h1 : K ≤ 9223372036854775807) (w : World) :
    Calls Tryd.prog 41 #[.int .i64 K] w fun e w' => ∃ E m d es, e = .returned (.agg #[.bool false, .slice E m d]) ∧ Sl w' E m d es ∧ val es = K.toNat ∧ m ≤ 1 ∧ Below w.heap.size w w' := by
  obtain ⟨k, rfl⟩ := Int.eq_ofNat_of_zero_le h0
  exact zOf k (by omega) w

/-- An integer's own cells, as they were boxed. -/
theorem zcell0 {w W : World} {neg : Bool} {E : Option Addr} {k d : Nat} (h : Below (w.alloc (.cells #[.bool neg, .slice E k d] 40)).heap.size (w.alloc (.cells #[.bool neg, .slice E k d] 40)) W) : W.cell? ⟨w.heap.size, 0, none⟩ = some (.bool neg) := by
  rw [below_cell h (by simp)]
  simp
theorem zcell1 {w W : World} {neg : Bool} {E : Option Addr} {k d : Nat} (h : Below (w.alloc (.cells #[.bool neg, .slice E k d] 40)).heap.size (w.alloc (.cells #[.bool neg, .slice E k d] 40)) W) : W.cell? ⟨w.heap.size, 1, none⟩ = some (.slice E k d) := by
  rw [below_cell h (by simp)]
  simp

theorem bel_box {w W : World} {o : Obj} (h : Below (w.alloc o).heap.size (w.alloc o) W) : Below w.heap.size w W := (bel_alloc w o).trans (h.mono (by simp))

theorem pr7 : Pr 7 := pr_trial (n := 7) (by decide) (by decide) 3 (by decide) (fun e h2 h3 => by
  obtain rfl : e = 2 := by omega
  decide)
theorem fi_lit {xs : List Int} (h : xs.all (fun x => decide (-9223372036854775808 ≤ x ∧ x ≤ 9223372036854775807)) = true) : Fi xs := fun x hx => by
  have := List.all_eq_true.1 h x hx
  exact (of_decide_eq_true this : -9223372036854775808 ≤ x ∧ x ≤ 9223372036854775807)
/-- Two finite rows are the same by a modulus, if they are at all places. -/
theorem eq_upto {p : Int} {f g : Ser} (N : Nat) (hf : Ser.Bd p f N) (hg : Ser.Bd p g N) (h : ∀ i, i < N → f i % p = g i % p) : Ser.Eq p f g := fun i => by
  rcases Nat.lt_or_ge i N with hi | hi
  · exact h i hi
  · rw [hf i hi, hg i hi]
theorem isl_new (w : World) (xs : List Int) (g n : Nat) (hg : g = w.heap.size) (hn : n = xs.length) (hf : Fi xs) (hl : xs.length ≤ 1000) : ISl (w.alloc (.cells (xs.map iv).toArray 3)) (some ⟨g, 0, none⟩) n n xs := by
  subst hg; subst hn
  exact (iblk_list w xs hf).sl (by omega)
theorem mono_pw (n : Nat) : Ser.pw (Ser.mono 1 1) n = Ser.mono 1 n := by
  induction n with
  | zero => rfl
  | succ n ih =>
    rw [Ser.pw_succ, ih]
    funext i
    rw [Ser.mono_mul_at]
    show _ = if i = n + 1 then (1 : Int) else 0
    by_cases h : n ≤ i
    · rw [if_pos h]
      show 1 * (if i - n = 1 then (1 : Int) else 0) = _
      by_cases h2 : i = n + 1
      · rw [if_pos h2, if_pos (by omega)]; rfl
      · rw [if_neg h2, if_neg (by omega)]; rfl
    · rw [if_neg h, if_neg (by omega)]
theorem lit_pol {ys : List Int} (hr : ys.all (fun x => decide (0 ≤ x ∧ x < 7)) = true) (ht : ys = [] ∨ cf ys (ys.length - 1) ≠ 0) : Pol 7 ys (cf ys) :=
  Pol.self ⟨fun x hx => of_decide_eq_true (List.all_eq_true.1 hr x hx), ht⟩
theorem cf_var : cf [0, 1] = Ser.mono 1 1 := by
  funext i
  match i with
  | 0 => rfl
  | 1 => rfl
  | i + 2 => exact cf_over (by simp)
theorem ex_div : IsDiv 7 1 (cf [1, 0, 0, 1]) (cf [1, 2]) (cf [1, 5, 4]) (cf []) := by
  refine ⟨eq_upto 4 (bd_len 7 [1, 0, 0, 1]) ?_ ?_, bd_len 7 []|>.mono (by decide)⟩
  · have h := (Ser.mul_top (p := 7) (f := cf [1, 5, 4]) (g := cf [1, 2]) (m := 2) (n := 1) (bd_len 7 [1, 5, 4]) (bd_len 7 [1, 2])).2
    exact h.add ((bd_len 7 []).mono (by decide))
  · intro i hi
    match i, hi with
    | 0, _ => decide
    | 1, _ => decide
    | 2, _ => decide
    | 3, _ => decide
theorem ex_pow : RestOf 7 2 (Ser.pw (cf [0, 1]) 7) (cf [1, 0, 1]) (cf [0, 6]) := by
  refine ⟨cf [0, 1, 0, 6, 0, 1], fini_cf 7 _, eq_upto 8 ?_ ?_ ?_, bd_len 7 [0, 6]⟩
  · rw [cf_var, mono_pw]
    intro i hi
    show (if i = 7 then (1 : Int) else 0) % 7 = 0
    rw [if_neg (by omega)]; rfl
  · have h := (Ser.mul_top (p := 7) (f := cf [0, 1, 0, 6, 0, 1]) (g := cf [1, 0, 1]) (m := 5) (n := 2) (bd_len 7 [0, 1, 0, 6, 0, 1]) (bd_len 7 [1, 0, 1])).2
    exact h.add ((bd_len 7 [0, 6]).mono (by decide))
  · intro i hi
    rw [cf_var, mono_pw]
    match i, hi with
    | 0, _ => decide
    | 1, _ => decide
    | 2, _ => decide
    | 3, _ => decide
    | 4, _ => decide
    | 5, _ => decide
    | 6, _ => decide
    | 7, _ => decide
theorem last_ex1 : Last 7 (cf [1, 2]) 1 := ⟨bd_len 7 [1, 2], by decide⟩
theorem last_ex2 : Last 7 (cf [1, 0, 1]) 2 := ⟨bd_len 7 [1, 0, 1], by decide⟩
theorem in64_7 : In64 7 := by unfold In64; decide
theorem aDiv (A B : Option Addr) (c c' : Nat) (W : World) (hT : TabAt W) (h : ISl W A 4 c [1, 0, 0, 1]) (h' : ISl W B 2 c' [1, 2]) :
    Calls Tryd.prog 23 #[.slice A 4 c, .slice B 2 c', .int .i64 7] W fun e w' => ∃ C d C' d', e = .returned (.tuple #[.slice C 3 d, .slice C' 0 d', .int .i64 0]) ∧ ISl w' C 3 d [1, 5, 4] ∧ Below W.heap.size W w' := by
  refine (cDiv A B 4 c 2 c' _ _ 7 W hT h h' in64_7 (by omega) (by omega)).mono ?_
  rintro e w' ⟨C, m, d, C', m', d', rfl, hg, hg'⟩
  rw [quoL_is pr7 last_ex1 (fini_cf 7 _) ex_div (lit_pol (by decide) (.inr (by decide)))] at hg
  rw [remL_is pr7 last_ex1 ⟨_, fini_cf 7 _, ex_div⟩ (lit_pol (by decide) (.inl rfl))] at hg'
  rw [ediv_yes pr7 last_ex1.some]
  obtain rfl : m = 3 := hg.len
  obtain rfl : m' = 0 := hg'.len
  exact ⟨C, d, C', d', rfl, hg.1, hg.bel⟩
theorem aPow (A B E : Option Addr) (c c' k d : Nat) (es : List Nat) (W : World) (hT : TabAt W) (h : ISl W A 2 c [0, 1]) (h' : ISl W B 3 c' [1, 0, 1]) (hE : Sl W E k d es) (hk : k ≤ 1) (hv : val es = 7) :
    Calls Tryd.prog 34 #[.slice A 2 c, .agg #[.bool false, .slice E k d], .slice B 3 c', .int .i64 7] W fun e w' => ∃ C d, e = .returned (.tuple #[.slice C 2 d, .int .i64 0]) ∧ ISl w' C 2 d [0, 6] ∧ Below W.heap.size W w' := by
  refine (cPowMod A B E 2 c 3 c' k d _ _ false es 7 W hT h h' hE in64_7 (by omega) (by omega) (by omega)).mono ?_
  rintro e w' ⟨C, m, d, rfl, hg⟩
  have hz : zsg false (val es) = 1 := by rw [hv]; rfl
  rw [hz, hv, powL_is pr7 (by decide) last_ex2 ex_pow (lit_pol (by decide) (.inr (by decide)))] at hg
  rw [hz, epw_yes pr7 (by decide) last_ex2.some]
  obtain rfl : m = 2 := hg.len
  exact ⟨C, d, rfl, hg.1, hg.bel⟩

theorem fi_ex {xs : List Int} (h : xs.all (fun x => decide (0 ≤ x ∧ x < 7)) = true) : Fi xs := fun x hx => by
  have : 0 ≤ x ∧ x < 7 := of_decide_eq_true (List.all_eq_true.1 h x hx)
  unfold In64; omega

set_option maxHeartbeats 2000000 in
theorem awake06 (w : World) (hT : TabAt w) : Calls Tryd.prog 12 #[] w fun e w' => e = .returned (.bool true) ∧ Below w.heap.size w w' := by
  have HT := Lib.hid hT
  clear hT
  have hA := Lib.hid (isl_new w [1, 0, 0, 1] w.heap.size 4 rfl rfl (fi_ex (by decide)) (by decide))
  have hB := Lib.hid (isl_new (w.alloc (.cells #[iv 1, iv 0, iv 0, iv 1] 3)) [1, 2] (w.heap.size + 1) 2 (by simp) rfl (fi_ex (by decide)) (by decide))
  have hal := Lib.hid ((bel_alloc w (.cells #[iv 1, iv 0, iv 0, iv 1] 3)).trans ((bel_alloc (w.alloc (.cells #[iv 1, iv 0, iv 0, iv 1] 3)) (.cells #[iv 1, iv 2] 3)).mono (by simp)))
  go_enter Tryd.func12, Tryd.ntmps12
  go_wp2_with fail
  refine (aDiv _ _ 4 2 _ (HT.out.below hal.out) (hA.out.below (bel_alloc _ _)) hB.out).mono ?_
  rintro e w1 ⟨Cq, dq, Cr, dr, rfl, hq, hb1⟩
  have HB1 := Lib.hid (hal.out.trans (hb1.mono hal.out.size))
  have HQ := Lib.hid hq
  clear hA hB hal hq hb1
  have hC := Lib.hid (isl_new w1 [0, 1] w1.heap.size 2 rfl rfl (fi_ex (by decide)) (by decide))
  go_wp2_with fail
  refine (zOf 7 (by omega) _).mono ?_
  rintro e w2 ⟨E, m, d, es, rfl, hE, hv, hm, hb2⟩
  have hb2' : Below w1.heap.size w1 w2 := (bel_alloc w1 _).trans (hb2.mono (by simp))
  have HB2 := Lib.hid (HB1.out.trans (hb2'.mono HB1.out.size))
  have HQ2 := Lib.hid (HQ.out.below hb2')
  have HC2 := Lib.hid (hC.out.below hb2)
  have HE := Lib.hid hE
  have HV := Lib.hid hv
  clear HB1 HQ hC hE hv hb2 hb2'
  have hD := Lib.hid (isl_new w2 [1, 0, 1] w2.heap.size 3 rfl rfl (fi_ex (by decide)) (by decide))
  go_wp2_with fail
  refine (aPow _ _ E 2 3 m d es _ (HT.out.below (HB2.out.trans ((bel_alloc _ _).mono HB2.out.size))) (HC2.out.below (bel_alloc _ _)) hD.out (HE.out.below (bel_alloc _ _)) hm HV.out).mono ?_
  rintro e w3 ⟨Cx, dx, rfl, hx, hb3⟩
  have hb3' : Below w2.heap.size w2 w3 := (bel_alloc w2 _).trans (hb3.mono (by simp))
  have HB3 := Lib.hid (HB2.out.trans (hb3'.mono HB2.out.size))
  have HQ3 := Lib.hid (HQ2.out.below hb3')
  have HX := Lib.hid hx
  clear HB2 HQ2 HC2 HE HV hD hx hb3 hb3' hm
  have hF := Lib.hid (isl_new w3 [1, 5, 4] w3.heap.size 3 rfl rfl (fi_ex (by decide)) (by decide))
  go_wp2_with fail
  refine (same6_true _ _ 3 dq 3 3 _ _ _ (HQ3.out.below (bel_alloc _ _)) hF.out rfl).mono ?_
  rintro e w4 ⟨rfl, hb4⟩
  have hb4' : Below w3.heap.size w3 w4 := (bel_alloc w3 _).trans (hb4.mono (by simp))
  have HB4 := Lib.hid (HB3.out.trans (hb4'.mono HB3.out.size))
  have HX4 := Lib.hid (HX.out.below hb4')
  clear HB3 HQ3 HX hF hb4 hb4'
  have hG := Lib.hid (isl_new w4 [0, 6] w4.heap.size 2 rfl rfl (fi_ex (by decide)) (by decide))
  go_wp2_with fail
  refine (same6_true _ _ 2 dx 2 2 _ _ _ (HX4.out.below (bel_alloc _ _)) hG.out rfl).mono ?_
  rintro e w5 ⟨rfl, hb5⟩
  have HB5 := Lib.hid (HB4.out.trans (((bel_alloc w4 _).trans (hb5.mono (by simp))).mono HB4.out.size))
  clear HB4 HX4 hG hb5
  go_wp2_with fail
  go_ret
  exact ⟨rfl, HB5.out⟩
end Go.Proofs.YtbipbpakbanacaaDoor

/- An argument that is a slice of ints, opened: it reads as ints, and is no longer than memory. -/
namespace Go.Proofs.YtbipbpakbanacaaDoor
open Go.ChangeShapes Go.WideShapes Go.ChangeAt Go.RowKit

theorem bytesI : Tryd.prog.bytesOf 3 = 8 := by kernel_rfl
theorem cellsI : Tryd.prog.cellsOf 3 = 1 := by kernel_rfl

theorem isl_open {H : Type} {enc : TypeId × Value → H} {W : World} {a : Option Addr} {len cap : Nat} {d : DataW H} {p : List MemPlace} {ts : List TypeId} {ds : List (DataW H)}
    (h : DataW.Trod enc Tryd.prog W 0 (fun _ => true) true 22 (.slice a len cap) d p) (hsz : (DataW.weightsEach Tryd.prog ts ds).all (· ≤ reachBytes) = true) (j : Nat) (ht : ts[j]? = some 22) (hd : ds[j]? = some d) :
    ∃ xs, ISl W a len cap xs ∧ len ≤ 17592186044416 := by
  obtain ⟨fuel, hf⟩ := h
  rcases open_ints Tryd.underlying22 Tryd.underlying3 cellsI hf with ⟨hcs, _⟩ | ⟨x, l, c, zs, hcs, _, hl, hm, hz, hx, hcell, hwz⟩
  · simp [Value.cells] at hcs
    obtain ⟨rfl, rfl, rfl⟩ := hcs
    exact ⟨[], ⟨rfl, Nat.le_refl _, by decide, fun _ => rfl, IRd.nil _ _⟩, by decide⟩
  · simp [Value.cells] at hcs
    obtain ⟨rfl, rfl, rfl⟩ := hcs
    have hz' : zs.length = cap := by simpa using hz
    have hdd : d = .slice (lits .i64 (zs.take len)) (lits .i64 (zs.drop len)) := by
      have := congrArg Prod.fst hx
      simpa using this
    have hs := sized_slice hsz (j := j) (t := 22) (e := 3) ht (by rw [hd, hdd]) Tryd.underlying22
    rw [bytesI] at hs
    simp only [lits, List.length_map, List.length_take, List.length_drop, reachBytes] at hs
    have hwf : ∀ n ∈ zs, In64 n := by
      intro n hn
      have h1 := hwz n hn
      have h2 : IntKind.i64.min = -9223372036854775808 := rfl
      have h3 : IntKind.i64.max = 9223372036854775807 := rfl
      simp only [Lit.wf, Bool.and_eq_true, decide_eq_true_eq] at h1
      unfold In64; omega
    have hfit : Fi (zs.take len) := fun y hy => hwf y (List.mem_of_mem_take hy)
    have hlen : (zs.take len).length = len := by simp; omega
    refine ⟨zs.take len, ⟨hlen.symm, hl, by unfold maxLen at hm; omega, (fun e => by cases e), hfit, ?_⟩, by omega⟩
    by_cases h0 : len = 0
    · left
      apply List.eq_nil_of_length_eq_zero
      rw [hlen, h0]
    · right
      obtain ⟨b, off, spot⟩ := x
      have hc := hcell 0 (by omega)
      have hspot : spot = none := by simpa [Addr.add] using World.cell?_spot hc
      subst hspot
      refine ⟨b, off, rfl, World.block_lt_of_cell? W _ (by simpa [Addr.add] using hc), fun k hk => ?_⟩
      rw [hlen] at hk
      have h1 := hcell k (by omega)
      rw [iadd_add _ k b off rfl] at h1
      rw [h1]
      have e : zs.getD k 0 = zs[k] := by rw [List.getD_eq_getElem?_getD, List.getElem?_eq_getElem (by omega)]; rfl
      rw [e]
      simp only [List.getElem_take]
end Go.Proofs.YtbipbpakbanacaaDoor

/- An argument that is an api.Int, by value, opened: a sign, and limbs. -/
namespace Go.Proofs.YtbipbpakbanacaaDoor
open Go.ChangeShapes Go.WideShapes Go.ChangeAt Go.RowKit Go.Joins

theorem cellsU : Tryd.prog.cellsOf 70 = 1 := by kernel_rfl
theorem cellsZ : Tryd.prog.cellsOf 40 = 2 := by kernel_rfl
theorem limbs_open {H : Type} {enc : TypeId × Value → H} {W : World} {fuel : Nat} {v : Value} {y : DataW H × List MemPlace} (hf : DataW.trod enc Tryd.prog W 0 (fun _ => true) true fuel 38 [v] = some y) :
    ∃ a len cap xs, v = .slice a len cap ∧ Sl W a len cap xs := by
  rcases open_ints Tryd.underlying38 Tryd.underlying70 cellsU hf with ⟨hcs, _⟩ | ⟨x, len, cap, zs, hcs, _, hl, hm, hz, hx, hcell, hwz⟩
  · simp at hcs
    subst hcs
    exact ⟨none, 0, 0, [], rfl, rfl, Nat.le_refl _, by decide, fun _ => rfl, Rd.nil _ _⟩
  · simp at hcs
    subst hcs
    have hz' : zs.length = cap := by simpa using hz
    have hwf : ∀ n ∈ zs, 0 ≤ n ∧ n < 18446744073709551616 := by
      intro n hn
      have h1 := hwz n hn
      have h2 : IntKind.u64.min = 0 := rfl
      have h3 : IntKind.u64.max = 18446744073709551615 := rfl
      simp only [Lit.wf, Bool.and_eq_true, decide_eq_true_eq] at h1
      omega
    have hfit : Fit ((zs.take len).map Int.toNat) := by
      intro y hy
      obtain ⟨n, hn, rfl⟩ := List.mem_map.1 hy
      have := hwf n (List.mem_of_mem_take hn)
      omega
    have hlen : ((zs.take len).map Int.toNat).length = len := by simp; omega
    refine ⟨some x, len, cap, (zs.take len).map Int.toNat, rfl, hlen.symm, hl, by unfold maxLen at hm; omega, (fun e => by cases e), hfit, ?_⟩
    by_cases h0 : len = 0
    · left
      apply List.eq_nil_of_length_eq_zero
      rw [hlen, h0]
    · right
      obtain ⟨b, off, spot⟩ := x
      have hc := hcell 0 (by omega)
      have hspot : spot = none := by simpa [Addr.add] using World.cell?_spot hc
      subst hspot
      refine ⟨b, off, rfl, World.block_lt_of_cell? W _ (by simpa [Addr.add] using hc), fun k hk => ?_⟩
      rw [hlen] at hk
      have h1 := hcell k (by omega)
      rw [add_add _ k b off rfl] at h1
      rw [h1]
      have h2 := hwf zs[k] (List.getElem_mem _)
      have e : zs.getD k 0 = zs[k] := by rw [List.getD_eq_getElem?_getD, List.getElem?_eq_getElem (by omega)]; rfl
      rw [e]
      simp only [List.getElem_map, List.getElem_take]
      show some (Value.int .u64 zs[k]) = some (Value.int .u64 ((zs[k].toNat : Nat) : Int))
      rw [Int.toNat_of_nonneg h2.1]
theorem zarg_open {H : Type} {enc : TypeId × Value → H} {W : World} {r : Reach} {b0 : Nat} {v : Value} {d : DataW H} {p : List MemPlace}
    (hv : Value.okWide Tryd.prog W r b0 40 v) (h : DataW.Trod enc Tryd.prog W 0 (fun _ => true) true 40 v d p) :
    ∃ neg a len cap xs, v = .agg #[.bool neg, .slice a len cap] ∧ Sl W a len cap xs := by
  obtain ⟨v0, v1, y0, y1, n, rfl, _, _, h0, h1⟩ := open_agg2 Tryd.underlying40 (by kernel_rfl) cellsZ hv h
  obtain ⟨neg, e0, _⟩ := DataW.trod_bool Tryd.underlying4 h0
  simp at e0
  subst e0
  obtain ⟨a, len, cap, xs, rfl, hs⟩ := limbs_open h1
  exact ⟨neg, a, len, cap, xs, rfl, hs⟩
end Go.Proofs.YtbipbpakbanacaaDoor

/- From the row's condition on the table of small primes to the words that the walks use. -/
namespace Go.Proofs.YtbipbpakbanacaaDoor
open Go.RowKit

theorem tab_is : (Rows.laid_cleaver_prime_divisors : DataW Unit) = Lib.tabData .u8 (tblL.map fun n : Nat => (n : Int)) := rfl
theorem tab_of_laid {W : World} (h : laidMetH Tryd.prog [("cleaver/prime.divisors", Rows.laid_cleaver_prime_divisors)] W) : TabAt W := by
  rw [MakeChecks.laidMetH_plain _ _ _ (by kernel_rfl), tab_is] at h
  have hg : Tryd.prog.globalNamed "cleaver/prime.divisors" = some 0 := by kernel_rfl
  have hT := Lib.tabIs_of_head hg (t := 87) (e := 5) (n := 54) (by kernel_rfl) (by kernel_rfl) (by kernel_rfl) (by kernel_rfl) (by kernel_rfl) h
  have hc : ∀ i, i < 54 → W.cell? ⟨0, i, none⟩ = some (.int .u8 (tbl i : Int)) := fun i hi => by
    rw [hT.cell hg i (by simpa [tblL] using hi)]
    unfold tbl
    rw [List.getD_eq_getElem?_getD, List.getD_eq_getElem?_getD, List.getElem?_map]
    cases tblL[i]? <;> rfl
  refine ⟨?_, hc⟩
  have h0 := hc 0 (by decide)
  refine Classical.byContradiction fun hn => ?_
  simp only [World.cell?] at h0
  rw [Array.getElem?_eq_none (by omega)] at h0
  simp at h0
end Go.Proofs.YtbipbpakbanacaaDoor
