/- Texts joined, in their order: RefSqP, SqfThe. -/
import Derived.Test.YtekpifafjbkmiaaDoorMh25

/- The document's calls of layer 8 by contract, named as the program's are; whether polynomials, and parts, are the same; the program's parts as the document's. -/
namespace Go.Proofs.YtekpifafjbkmiaaDoor
open Go.RowKit

theorem cf_inj {xs ys : List Int} (hl : xs.length = ys.length) (h : ∀ j, j < xs.length → cf xs j = cf ys j) : xs = ys := by
  refine cf_ext hl fun i => ?_
  rcases Nat.lt_or_ge i xs.length with hi | hi
  · exact h i hi
  · rw [cf_over hi, cf_over (by omega)]
set_option maxRecDepth 100000 in
set_option maxHeartbeats 2000000 in
theorem rSame (A B : Option Addr) (n c n' c' : Nat) (xs ys : List Int) (w : World) (h : ISl w A n c xs) (h' : ISl w B n' c' ys) :
    Calls Tryd.prog 17 #[.slice A n c, .slice B n' c'] w fun e w' => e = .returned (.bool (decide (xs = ys))) ∧ Below w.heap.size w w' := by
  have hle := h.le
  have hmx := h.max
  have hle' := h'.le
  have hmx' := h'.max
  have H := Lib.hid h
  have H' := Lib.hid h'
  have XL := Lib.hid h.len
  have YL := Lib.hid h'.len
  by_cases hn : n = n'
  · subst hn
    have EQ := Lib.hid (fun (hj : ∀ j, j < n → cf xs j = cf ys j) => decide_eq_true (p := xs = ys) (cf_inj (by rw [← XL.out, ← YL.out]) (fun j hj2 => hj j (by rw [XL.out]; exact hj2))))
    have NE := Lib.hid (fun (k : Nat) (hk : cf xs k ≠ cf ys k) => decide_eq_false (p := xs = ys) (fun e => hk (by rw [e])))
    generalize decide (xs = ys) = bb at *
    clear h h'
    go_enter Tryd.func17, Tryd.ntmps17
    go_wp2
    go_loopw [5] (fun i wr => ∃ k : Nat, k ≤ n ∧ i = .int .i64 k ∧ Hid (∀ j, j < k → cf xs j = cf ys j) ∧ Below w.heap.size w wr) (fun i _ => n - (intOf i).toNat)
    case atStart => exact ⟨0, Nat.zero_le _, rfl, Lib.hid (fun j hj => absurd hj (Nat.not_lt_zero _)), Below.refl _ _⟩
    case round =>
      obtain ⟨k, hk, rfl, hz, hb⟩ := hrel
      by_cases hlt : k < n
      · obtain ⟨b, o, rfl, hl1, hca⟩ := H.out.cf_ (by omega)
        obtain ⟨b', o', rfl, hl2, hcb⟩ := H'.out.cf_ (by omega)
        have h1 := hca k hlt
        have h2 := hcb k hlt
        rw [← hb.cell (p := ⟨b, o + k, none⟩) hl1] at h1
        rw [← hb.cell (p := ⟨b', o' + k, none⟩) hl2] at h2
        by_cases he : cf xs k = cf ys k
        · have HE := Lib.hid he
          rw [← he] at h2
          clear he
          obtain ⟨x, hx⟩ : ∃ x, cf xs k = x := ⟨_, rfl⟩
          rw [hx] at h1 h2
          have i1 : (0 : Int) ≤ (k : Int) := by omega
          have i2 : (k : Int) < (n : Int) := by omega
          have HB := Lib.hid hb
          clear hca hcb hb hx
          go_wp2
          go_quiet (fail)
          go_wp2
          go_roundw
          case rel => exact ⟨k + 1, by omega, by go_num, Lib.hid (fun j hj => by
            by_cases e : j = k
            · rw [e]; exact HE.out
            · exact hz.out j (by omega)), ibelow_drewN HB.out _⟩
          case measure => simp [intOf]; omega
        · have HF := Lib.hid (NE.out k he)
          obtain ⟨x, hx⟩ : ∃ x, cf xs k = x := ⟨_, rfl⟩
          obtain ⟨y, hy⟩ : ∃ y, cf ys k = y := ⟨_, rfl⟩
          rw [hx] at h1 he
          rw [hy] at h2 he
          have i1 : (0 : Int) ≤ (k : Int) := by omega
          have i2 : (k : Int) < (n : Int) := by omega
          have hxy : (x == y) = false := by simpa using he
          have hxn : (x != y) = true := by simpa using he
          have HB := Lib.hid hb
          clear hca hcb hb hx hy
          go_wp2
          go_quiet (fail)
          go_wp2
          go_ret
          exact ⟨by rw [HF.out]; rfl, ibelow_drewN HB.out _⟩
      · obtain rfl : k = n := by omega
        have HT := Lib.hid (EQ.out hz.out)
        go_wp2
        go_ret
        exact ⟨by rw [HT.out]; rfl, hb⟩
  · have NE : decide (xs = ys) = false := decide_eq_false (fun e => hn (by rw [XL.out, YL.out, e]))
    rw [NE]
    have hnn : ((n : Int) == (n' : Int)) = false := by simp; omega
    have hnx : ((n : Int) != (n' : Int)) = true := by simp; omega
    clear h h'
    go_enter Tryd.func17, Tryd.ntmps17
    go_wp2
    go_ret
    exact ⟨rfl, Below.refl _ _⟩

set_option maxRecDepth 100000 in
set_option maxHeartbeats 2000000 in
theorem rSameQ (A B : Option Addr) (n c n' c' : Nat) (xs ys : List Int) (w : World) (h : ISl w A n c xs) (h' : ISl w B n' c' ys) (e : xs = ys) :
    Calls Tryd.prog 17 #[.slice A n c, .slice B n' c'] w fun e w' => e = .returned (.bool true) ∧ ∃ q, w' = w.drewN q := by
  subst e
  have hnn : n' = n := by rw [h.len, h'.len]
  subst hnn
  have hle := h.le
  have hmx := h.max
  have H := Lib.hid h
  have H' := Lib.hid h'
  clear h h'
  go_enter Tryd.func17, Tryd.ntmps17
  go_wp2
  go_loopw [5] (fun i wr => ∃ k q : Nat, k ≤ n' ∧ i = .int .i64 k ∧ wr = w.drewN q) (fun i _ => n' - (intOf i).toNat)
  case atStart => exact ⟨0, 0, Nat.zero_le _, rfl, rfl⟩
  case round =>
    obtain ⟨k, q, hk, rfl, rfl⟩ := hrel
    by_cases hlt : k < n'
    · obtain ⟨b, o, rfl, hl1, hca⟩ := H.out.cf_ (by omega)
      obtain ⟨b', o', rfl, hl2, hcb⟩ := H'.out.cf_ (by omega)
      have h1 := hca k hlt
      have h2 := hcb k hlt
      generalize cf xs k = x at *
      have i1 : (0 : Int) ≤ (k : Int) := by omega
      have i2 : (k : Int) < (n' : Int) := by omega
      clear hca hcb
      go_wp2
      go_quiet (fail)
      go_wp2
      go_roundw
      case rel => exact ⟨k + 1, _, by omega, by go_num, rfl⟩
      case measure => simp [intOf]; omega
    · obtain rfl : k = n' := by omega
      go_wp2
      go_ret
      exact ⟨rfl, q, rfl⟩
theorem PIn.drewN {w : World} {Z : List Pt} (h : PIn w Z) (n : Nat) : PIn (w.drewN n) Z := fun z hz => (h z hz).below (ibelow_drewN (Below.refl _ _) n)

set_option maxRecDepth 100000 in
set_option maxHeartbeats 4000000 in
theorem rSamePts (A B : Option Addr) (n c n' c' : Nat) (Z Z' : List Pt) (w : World) (h : PRd w A n c Z) (h' : PRd w B n' c' Z') (e : pls Z = pls Z') :
    Calls Tryd.prog 15 #[.slice A n c, .slice B n' c'] w fun e w' => e = .returned (.bool true) ∧ Below w.heap.size w w' := by
  have hll : Z.length = Z'.length := by rw [← pls_length Z, e, pls_length]
  have hnn : n' = n := by rw [h.len, h'.len, hll]
  subst hnn
  have hle := h.le
  have hmx := h.max
  have hle' := h'.le
  have hmx' := h'.max
  have H := Lib.hid h
  have H' := Lib.hid h'
  have ZL := Lib.hid h.len
  have ZL' := Lib.hid h'.len
  have EE : Hid (∀ k (h1 : k < Z.length) (h2 : k < Z'.length), Z[k].xs = Z'[k].xs ∧ Z[k].N = Z'[k].N) := Lib.hid (fun k h1 h2 => by
    have e1 : (pls Z)[k]? = (pls Z')[k]? := by rw [e]
    unfold pls at e1
    rw [List.getElem?_map, List.getElem?_map, List.getElem?_eq_getElem h1, List.getElem?_eq_getElem h2] at e1
    simp only [Option.map_some, Option.some.injEq, Pt.pl, Prod.mk.injEq] at e1
    exact e1)
  clear h h' e hll
  go_enter Tryd.func15, Tryd.ntmps15
  go_wp2
  go_loopw [5] (fun i wr => ∃ k q : Nat, k ≤ n' ∧ i = .int .i64 k ∧ wr = w.drewN q) (fun i _ => n' - (intOf i).toNat)
  case atStart => exact ⟨0, 0, Nat.zero_le _, rfl, rfl⟩
  case round =>
    obtain ⟨k, q, hk, rfl, hw⟩ := hrel
    have HW := Lib.hid hw
    by_cases hlt : k < n'
    · have k1 : k < Z.length := by rw [← ZL.out]; exact hlt
      have k2 : k < Z'.length := by rw [← ZL'.out]; exact hlt
      obtain ⟨b, o, rfl, hl1, hca⟩ := H.out.open_ (by omega)
      obtain ⟨b', o', rfl, hl2, hcb⟩ := H'.out.open_ (by omega)
      obtain ⟨h1, h3⟩ := hca k k1
      obtain ⟨h2, h4⟩ := hcb k k2
      have z1 := H.out.in_ _ (List.getElem_mem k1)
      have z2 := H'.out.in_ _ (List.getElem_mem k2)
      obtain ⟨e1, e2⟩ := EE.out k k1 k2
      obtain ⟨z, hz⟩ : ∃ z, Z[k] = z := ⟨_, rfl⟩
      obtain ⟨z', hz'⟩ : ∃ z, Z'[k] = z := ⟨_, rfl⟩
      rw [hz] at h1 h3 z1 e1 e2
      rw [hz'] at h2 h4 z2 e1 e2
      obtain ⟨zA, zn, zc, zx, zN⟩ := z
      obtain ⟨yA, yn, yc, yx, yN⟩ := z'
      have e1' : zx = yx := e1
      have e2' : zN = yN := e2
      subst e1' e2'
      simp only [Pt.sl, Pt.nv] at h1 h2 h3 h4
      have g1 : wr.cell? ⟨b, o + k * 2, none⟩ = some (.slice zA zn zc) := by rw [hw]; exact h1
      have g2 : wr.cell? ⟨b', o' + k * 2, none⟩ = some (.slice yA yn yc) := by rw [hw]; exact h2
      have g3 : wr.cell? ⟨b, o + k * 2 + 1, none⟩ = some (.int .i64 (zN : Int)) := by rw [hw]; exact h3
      have g4 : wr.cell? ⟨b', o' + k * 2 + 1, none⟩ = some (.int .i64 (zN : Int)) := by rw [hw]; exact h4
      have hbw : Below w.heap.size w wr := hw ▸ ibelow_drewN (Below.refl _ _) q
      have S1 := Lib.hid (fun r => quietD (rSameQ zA yA zn zc yn yc zx zx (wr.drewN r) (ISl.below (show ISl w zA zn zc zx from z1) (ibelow_drewN hbw r)) (ISl.below (show ISl w yA yn yc zx from z2) (ibelow_drewN hbw r)) rfl))
      have i1 : (0 : Int) ≤ (k : Int) := by omega
      have i2 : (k : Int) < (n' : Int) := by omega
      clear hca hcb z1 z2 e1 e2 hz hz' k1 k2 h1 h2 h3 h4 hw hbw
      go_wp2
      go_quiet ((go_at_call 17; with_reducible exact S1.out _))
      go_wp2
      go_roundw
      case rel => exact ⟨k + 1, _, by omega, by go_num, by rw [HW.out, World.drewN_drewN]⟩
      case measure => simp [intOf]; omega
    · obtain rfl : k = n' := by omega
      have HB : Hid (Below w.heap.size w wr) := Lib.hid (by rw [hw]; exact ibelow_drewN (Below.refl _ _) q)
      clear hw
      go_wp2
      go_ret
      exact ⟨rfl, HB.out⟩

set_option maxRecDepth 100000 in
set_option maxHeartbeats 1000000 in
theorem rRadTop (A : Option Addr) (n c : Nat) (xs : List Int) (p : Int) (w : World) (h : ISl w A n c xs) (ip : In64 p) (hn : n ≤ 800) :
    Calls Tryd.prog 12 #[.slice A n c, .int .i64 p] w fun e w' => ∃ C m d, e = .returned (.tuple #[.slice C m d, .int .i64 (esq p (cf xs))]) ∧ ISl w' C m d (radL p (cf xs)) ∧ Below w.heap.size w w' := by
  have CM := rWrong A n c xs p w h ip (by omega)
  rcases esq_cases p (cf xs) with ⟨hp, hb, he⟩ | he | he
  · have CC := Lib.hid CM
    have RI := Lib.hid (fun r => radL_is (r := r) hp hb)
    have RD := Lib.hid (fun (W : World) (hW : Below w.heap.size w W) => rRad _ A n c xs p W (h.below hW) ip hp hb hn (Nat.le_refl _))
    rw [he] at CC ⊢
    clear CM h ip hp hb he
    go_enter Tryd.func12, Tryd.ntmps12
    go_wp2_with (first
      | (go_at_call 25; (with_reducible refine CC.out.mono ?_); rintro e w1 ⟨rfl, hb⟩; have HB := Lib.hid hb; clear hb)
      | (go_at_call 27; (with_reducible refine (RD.out _ HB.out).mono ?_); rintro e w2 ⟨C, m, d, rfl, ho⟩; have OO := Lib.hid ho; clear ho))
    go_ret2
    obtain ⟨⟨r, hr, hi⟩, hb⟩ := OO.out
    exact ⟨C, m, d, rfl, by rw [RI.out r hr]; exact hi, below_to HB.out hb⟩
  · have CC := Lib.hid CM
    have E := Lib.hid (radL_no (f := cf xs) (p := p) (by rw [he]; decide))
    rw [he] at CC ⊢
    rw [E.out]
    clear CM h ip he
    go_enter Tryd.func12, Tryd.ntmps12
    go_wp2_with (go_at_call 25; (with_reducible refine CC.out.mono ?_); rintro e w1 ⟨rfl, hb⟩; have HB := Lib.hid hb; clear hb)
    go_ret2
    exact ⟨none, 0, 0, rfl, isl_nil _, HB.out⟩
  · have CC := Lib.hid CM
    have E := Lib.hid (radL_no (f := cf xs) (p := p) (by rw [he]; decide))
    rw [he] at CC ⊢
    rw [E.out]
    clear CM h ip he
    go_enter Tryd.func12, Tryd.ntmps12
    go_wp2_with (go_at_call 25; (with_reducible refine CC.out.mono ?_); rintro e w1 ⟨rfl, hb⟩; have HB := Lib.hid hb; clear hb)
    go_ret2
    exact ⟨none, 0, 0, rfl, isl_nil _, HB.out⟩

set_option maxRecDepth 100000 in
set_option maxHeartbeats 1000000 in
theorem rIsTop (A : Option Addr) (n c : Nat) (xs : List Int) (p : Int) (w : World) (h : ISl w A n c xs) (ip : In64 p) (hn : n ≤ 800) :
    Calls Tryd.prog 14 #[.slice A n c, .int .i64 p] w fun e w' => e = .returned (.tuple #[.bool (sqB p (cf xs)), .int .i64 (esq p (cf xs))]) ∧ Below w.heap.size w w' := by
  have CM := rWrong A n c xs p w h ip (by omega)
  rcases esq_cases p (cf xs) with ⟨hp, hb, he⟩ | he | he
  · have CC := Lib.hid CM
    have SQ := Lib.hid (fun r (hr : IsRad p (monL p (cf xs)) r) => sqB_is (b := decide (monL p (cf xs) = r)) he (by
      rw [decide_eq_true_iff]
      exact sqf_rad hp (mn_monL hp hb).1 hr))
    have MO := Lib.hid (fun (W : World) (hW : Below w.heap.size w W) => rMonic A n c xs p W (h.below hW) ip (by omega))
    rw [chk_yes (primB_yes hp)] at MO
    have RD := Lib.hid (fun (W : World) (hW : Below w.heap.size w W) => rRad _ A n c xs p W (h.below hW) ip hp hb hn (Nat.le_refl _))
    rw [he] at CC ⊢
    clear CM h ip hp hb he
    go_enter Tryd.func14, Tryd.ntmps14
    go_wp2_with (first
      | (go_at_call 25; (with_reducible refine CC.out.mono ?_); rintro e w1 ⟨rfl, hb⟩; have HB := Lib.hid hb; clear hb)
      | (go_at_call 26; (with_reducible refine (MO.out _ HB.out).mono ?_); rintro e w2 ⟨C, m, d, rfl, hg⟩; have GI := Lib.hid hg.isl; have HB2 := Lib.hid (below_to HB.out hg.bel); clear hg)
      | (go_at_call 27; (with_reducible refine (RD.out _ HB2.out).mono ?_); rintro e w3 ⟨C3, m3, d3, rfl, ho⟩; obtain ⟨⟨r, hr, hi⟩, hb⟩ := ho; have HB3 := Lib.hid (below_to HB2.out hb); have S1 := Lib.hid (SQ.out r hr); have SM := Lib.hid (rSame C C3 m d m3 d3 _ r w3 (GI.out.below hb) hi); rw [← S1.out] at SM; clear hr hi hb)
      | (go_at_call 17; (with_reducible refine SM.out.mono ?_); rintro e w4 ⟨rfl, hb⟩; have HB4 := Lib.hid (below_to HB3.out hb); clear hb))
    go_ret2
    exact ⟨rfl, HB4.out⟩
  · have CC := Lib.hid CM
    have E := Lib.hid (sqB_no (f := cf xs) (p := p) (by rw [he]; decide))
    rw [he] at CC ⊢
    rw [E.out]
    clear CM h ip he
    go_enter Tryd.func14, Tryd.ntmps14
    go_wp2_with (go_at_call 25; (with_reducible refine CC.out.mono ?_); rintro e w1 ⟨rfl, hb⟩; have HB := Lib.hid hb; clear hb)
    go_ret2
    exact ⟨rfl, HB.out⟩
  · have CC := Lib.hid CM
    have E := Lib.hid (sqB_no (f := cf xs) (p := p) (by rw [he]; decide))
    rw [he] at CC ⊢
    rw [E.out]
    clear CM h ip he
    go_enter Tryd.func14, Tryd.ntmps14
    go_wp2_with (go_at_call 25; (with_reducible refine CC.out.mono ?_); rintro e w1 ⟨rfl, hb⟩; have HB := Lib.hid hb; clear hb)
    go_ret2
    exact ⟨rfl, HB.out⟩

/-- What the document's loop goes with, in memory. -/
structure DI (p : Int) (mo : List Int) (w wr : World) (k : Nat) (vo : Value) (Z : List Pt) (Cl : Option Addr) (ml dl : Nat) (left : List Int) : Prop where
  ds : DS p mo k left
  told : DTold p mo k (pls Z)
  own : POw 47 wr w.heap.size vo Z
  il : ISl wr Cl ml dl left
  k1 : 1 ≤ k
  zl : Z.length ≤ k
  be : Below w.heap.size w wr
theorem apO_of {T : TypeId} {w : World} {B : Nat} {v : Value} {Z : List Pt} {A : Option Addr} {xs : List Int} (h : POw T w B v Z) (hf : FreshA w A) : ApO A xs v.ownBlock := h.apart fun b o s e => .inl (hf b o s e)

set_option maxRecDepth 100000 in
set_option maxHeartbeats 8000000 in
theorem rPartsTop (A : Option Addr) (n c : Nat) (xs : List Int) (p : Int) (w : World) (h : ISl w A n c xs) (ip : In64 p) (hn : n ≤ 800) :
    Calls Tryd.prog 10 #[.slice A n c, .int .i64 p] w fun e w' => ∃ A' k c' Z, e = .returned (.tuple #[.slice A' k c', .int .i64 (esq p (cf xs))]) ∧ PRd w' A' k c' Z ∧ pls Z = partsL p (cf xs) ∧ Below w.heap.size w w' := by
  have CM := rWrong A n c xs p w h ip (by omega)
  rcases esq_cases p (cf xs) with ⟨hp, hb, he⟩ | he | he
  · have CC := Lib.hid CM
    obtain ⟨m1, m2, _⟩ := mn_monL hp hb
    have PI := Lib.hid (fun L => partsL_is (L := L) hp hb)
    have MO := Lib.hid (fun (W : World) (hW : Below w.heap.size w W) => rMonic A n c xs p W (h.below hW) ip (by omega))
    rw [chk_yes (primB_yes hp)] at MO
    have PR := Lib.hid hp
    have IP := Lib.hid ip
    have M9 := Lib.hid (show (monL p (cf xs)).length ≤ 800 by have := h.len; omega)
    have HM := Lib.hid m1
    rw [he] at CC ⊢
    clear CM h ip hp hb m1 m2 he
    generalize monL p (cf xs) = mo at *
    have RD := Lib.hid (fun (C : Option Addr) (m d : Nat) (zs : List Int) (W : World) (hi : ISl W C m d zs) (hz : Mn p zs) (hm : m ≤ 800) => rRad _ C m d zs p W hi IP.out PR.out hz.nz hm (Nat.le_refl _))
    go_enter Tryd.func10, Tryd.ntmps10
    go_wp2_with (first
      | (go_at_call 25; (with_reducible refine CC.out.mono ?_); rintro e w1 ⟨rfl, hb⟩; have HB := Lib.hid hb; clear hb)
      | (go_at_call 26; (with_reducible refine (MO.out _ HB.out).mono ?_); rintro e w2 ⟨C, m, d, rfl, hg⟩; have GI := Lib.hid hg.isl; have HB2 := Lib.hid (below_to HB.out hg.bel); clear hg))
    go_loopw [7, 8, 10] (fun vo vl vn wr => ∃ (k : Nat) (Z : List Pt) (Cl : Option Addr) (ml dl : Nat) (left : List Int), vn = .int .i64 (k : Int) ∧ vl = .slice Cl ml dl ∧ Hid (DI p mo w wr k vo Z Cl ml dl left)) (fun _ _ i _ => mo.length - (intOf i).toNat)
    case atStart => exact ⟨1, [], C, m, d, mo, rfl, rfl, Lib.hid ⟨ds_start HM.out, dtold_start p mo, POw.nil _ _ _, GI.out, Nat.le_refl _, Nat.zero_le _, HB2.out⟩⟩
    case round =>
      obtain ⟨k, Z, Cl, ml, dl, left, rfl, rfl, TT⟩ := hrel
      have ll := TT.out.il.len
      have lp := TT.out.ds.mn.pos
      by_cases h1 : ml = 1
      · obtain ⟨A', c', rfl, hrd, _⟩ := TT.out.own.rd
        have RDZ := Lib.hid hrd
        have i1 : ¬ (1 : Int) < (ml : Int) := by omega
        have PT := Lib.hid (TT.out.ds.whole PR.out TT.out.told (by rw [← ll]; exact h1) TT.out.k1)
        clear hrd ll lp
        go_wp2_with fail
        go_ret2
        exact ⟨A', _, c', rfl, Z, RDZ.out, (PI.out _ PT.out).symm, TT.out.be⟩
      · have i1 : (1 : Int) < (ml : Int) := by omega
        have hk := TT.out.ds.lt PR.out HM.out (by rw [← ll]; exact h1)
        have m9 := M9.out
        have l9 : ml ≤ 800 := by have := TT.out.ds.l; omega
        have k9 : (k : Int) ≤ 800 := by omega
        have HK := Lib.hid hk
        have R1 := Lib.hid (RD.out Cl ml dl left wr TT.out.il TT.out.ds.mn l9)
        clear ll lp h1 hk m9
        go_wp2_with (first
          | (go_at_call 27; (with_reducible refine R1.out.mono ?_); rintro e w3 ⟨C3, m3, d3, rfl, ho⟩; obtain ⟨⟨r, hr, hi⟩, hb⟩ := ho; have HR := Lib.hid (show IsRad p left r by { rw [monL_self PR.out TT.out.ds.mn] at hr; exact hr }); have RL := Lib.hid (Mn.len_le PR.out HR.out.1 TT.out.ds.mn (fun q hq => by rw [HR.out.2 q hq]; omega)); have m39 : m3 ≤ 800 := (by have := hi.len; have := RL.out; have := TT.out.il.len; omega); have I3 := Lib.hid hi; have B3 := Lib.hid hb; have Q1 := Lib.hid (rBy Cl C3 ml dl m3 d3 left r p w3 (TT.out.il.below hb) hi IP.out (by omega) (by omega)); clear hr hi hb)
          | (go_at_call 28; (with_reducible refine Q1.out.mono ?_); rintro e w4 ⟨C4, m4, d4, rfl, hg, hf⟩; have I4 := Lib.hid hg.isl; have B4 := Lib.hid hg.bel; have F4 := Lib.hid hf; have DN := Lib.hid (TT.out.ds.next PR.out TT.out.k1 HR.out); have m49 : m4 ≤ 800 := (by have := hg.isl.len; have := DN.out.l; have := M9.out; omega); have R2 := Lib.hid (RD.out C4 m4 d4 _ w4 I4.out DN.out.mn m49); clear hg hf)
          | (go_at_call 27; (with_reducible refine R2.out.mono ?_); rintro e w5 ⟨C5, m5, d5, rfl, ho⟩; obtain ⟨⟨r5, hr, hi⟩, hb⟩ := ho; have HR5 := Lib.hid (show IsRad p (quoL p (cf left) (cf r)) r5 by { rw [monL_self PR.out DN.out.mn] at hr; exact hr }); have m59 : m5 ≤ 800 := (by have h8 := Mn.len_le PR.out HR5.out.1 DN.out.mn (fun q hq => by rw [HR5.out.2 q hq]; omega); have := hi.len; have := I4.out.len; omega); have I5 := Lib.hid hi; have B5 := Lib.hid hb; have I53 := Lib.hid ((I3.out.below B4.out).below hb); have OWN := Lib.hid (TT.out.ds.own PR.out TT.out.k1 HR.out HR5.out); have Q2 := Lib.hid (rBy C3 C5 m3 d3 m5 d5 r r5 p w5 I53.out hi IP.out (by omega) (by omega)); clear hr hi hb)
          | (go_at_call 28; (with_reducible refine Q2.out.mono ?_); rintro e w6 ⟨C6, m6, d6, rfl, hg, hf⟩; have I6 := Lib.hid hg.isl; have B6 := Lib.hid hg.bel; have F6 := Lib.hid hf; clear hg hf)
          | (at_builtin; refine pwpList_new ptyR w6 w6.heap.size rfl 47 ⟨C6, m6, d6, quoL p (cf r) (cf r5), k⟩ rfl (.tmp 46) (.tmp 50) rfl w.heap.size _ Z rfl (TT.out.own.below (below_to B3.out (below_to B4.out (below_to B5.out B6.out)))) rfl I6.out (apO_of (TT.out.own.below (below_to B3.out (below_to B4.out B5.out))) F6.out) (by have := TT.out.zl; omega) (below_to TT.out.be (below_to B3.out (below_to B4.out (below_to B5.out B6.out)))).size ?_; intro v7 w7 ho7 hb7 hk7; have OW := Lib.hid ho7; have B7 := Lib.hid ((below_to TT.out.be (below_to B3.out (below_to B4.out (below_to B5.out B6.out)))).trans hb7); have I7 := Lib.hid (hk7.isl _ _ _ _ ((I4.out.below B5.out).below B6.out) (apO_of (TT.out.own.below B3.out) F4.out)).1; have BIG := Lib.hid (show 1 < m6 by omega); clear ho7 hb7 hk7))
        · have NE := Lib.hid (show quoL p (cf r) (cf r5) ≠ [1] from fun e => by have h1 := I6.out.len; rw [e] at h1; have := BIG.out; simp at h1; omega)
          go_roundw
          case rel => exact ⟨k + 1, _, C4, m4, d4, _, by go_num, rfl, Lib.hid ⟨DN.out, by rw [pls_append]; exact TT.out.told.snoc TT.out.k1 OWN.out.1 NE.out, OW.out, I7.out, by have := TT.out.k1; omega, by have := TT.out.zl; simp; omega, B7.out⟩⟩
          case measure => simp [intOf]; have := HK.out; omega
        · rename_i hle6
          have L6 := Lib.hid (show m6 = 1 by have h1 := OWN.out.1.1.pos; have h2 := I6.out.len; omega)
          go_roundw
          case rel => exact ⟨k + 1, Z, C4, m4, d4, _, by go_num, rfl, Lib.hid ⟨DN.out, TT.out.told.skip PR.out (by have h1 := OWN.out.1; rw [(h1.1.one_iff PR.out).1 (by rw [← I6.out.len]; exact L6.out)] at h1; exact h1), TT.out.own.below (below_to B3.out (below_to B4.out (below_to B5.out B6.out))), (I4.out.below B5.out).below B6.out, by have := TT.out.k1; omega, by have := TT.out.zl; omega, below_to TT.out.be (below_to B3.out (below_to B4.out (below_to B5.out B6.out)))⟩⟩
          case measure => simp [intOf]; have := HK.out; omega
  · have CC := Lib.hid CM
    have E := Lib.hid (partsL_no (f := cf xs) (p := p) (by rw [he]; decide))
    rw [he] at CC ⊢
    clear CM h ip he
    go_enter Tryd.func10, Tryd.ntmps10
    go_wp2_with (go_at_call 25; (with_reducible refine CC.out.mono ?_); rintro e w1 ⟨rfl, hb⟩; have HB := Lib.hid hb; clear hb)
    go_ret2
    exact ⟨none, 0, 0, [], rfl, PRd.nil _, E.out.symm, HB.out⟩
  · have CC := Lib.hid CM
    have E := Lib.hid (partsL_no (f := cf xs) (p := p) (by rw [he]; decide))
    rw [he] at CC ⊢
    clear CM h ip he
    go_enter Tryd.func10, Tryd.ntmps10
    go_wp2_with (go_at_call 25; (with_reducible refine CC.out.mono ?_); rintro e w1 ⟨rfl, hb⟩; have HB := Lib.hid hb; clear hb)
    go_ret2
    exact ⟨none, 0, 0, [], rfl, PRd.nil _, E.out.symm, HB.out⟩
end Go.Proofs.YtekpifafjbkmiaaDoor

/- The law's own small functions of layer 8 by contract: the program's parts as the document's, products. -/
namespace Go.Proofs.YtekpifafjbkmiaaDoor
open Go.RowKit

theorem POw.old {T : TypeId} {w wr : World} {v : Value} {Z : List Pt} {A : Option Addr} {n c : Nat} {xs : List Int} (h : POw T wr w.heap.size v Z) (hi : ISl w A n c xs) : ApO A xs v.ownBlock := by
  rcases hi.rd.2 with e | ⟨b, o, rfl, hlt, _⟩
  · exact .inl e
  · exact h.apart fun b' o' s' e => .inr (by
      simp only [Option.some.injEq, Addr.mk.injEq] at e
      omega)

set_option maxRecDepth 100000 in
set_option maxHeartbeats 8000000 in
theorem lTheirs (A : Option Addr) (n c : Nat) (Z : List Pt) (w : World) (h : PRd w A n c Z) (hn : n ≤ 2000) :
    Calls Tryd.prog 16 #[.slice A n c] w fun e w' => ∃ A' c', e = .returned (.slice A' n c') ∧ PRd w' A' n c' Z ∧ Below w.heap.size w w' := by
  have hle := h.le
  have hmx := h.max
  have H := Lib.hid h
  have ZL := Lib.hid h.len
  clear h
  go_enter Tryd.func16, Tryd.ntmps16
  go_wp2_with fail
  go_loopw [3, 4] (fun v i wr => ∃ j : Nat, j ≤ n ∧ i = .int .i64 (j : Int) ∧ Hid (POw 47 wr w.heap.size v (Z.take j)) ∧ Hid (Below w.heap.size w wr)) (fun _ i _ => n - (intOf i).toNat)
  case atStart => exact ⟨0, Nat.zero_le _, rfl, Lib.hid (by rw [List.take_zero]; exact POw.nil _ _ _), Lib.hid (Below.refl _ _)⟩
  case round =>
    obtain ⟨j, hj, rfl, hO, hb⟩ := hrel
    by_cases hlt : j < n
    · have hlz : j < Z.length := by rw [← ZL.out]; exact hlt
      obtain ⟨b, o, rfl, hbl, hc⟩ := (H.out.below hb.out).open_ (by omega)
      obtain ⟨c0, c1⟩ := hc j hlz
      have zin0 := H.out.in_ _ (List.getElem_mem hlz)
      have zin := zin0.below hb.out
      have zap := hO.out.old zin0
      have TK := Lib.hid (List.take_succ_eq_append_getElem hlz)
      have LT : (Z.take j).length ≤ 1000000 := by rw [List.length_take]; omega
      obtain ⟨z, hz⟩ : ∃ z, Z[j] = z := ⟨_, rfl⟩
      rw [hz] at c0 c1 zin zap TK
      obtain ⟨zA, zn, zc, zx, zN⟩ := z
      simp only [Pt.sl, Pt.nv] at c0 c1
      have hsz := hb.out.size
      have HOa := Lib.hid (show POw 47 ((wr.alloc (.cells #[.slice zA zn zc, .int .i64 (zN : Int)] 47)).drew) w.heap.size u3 (Z.take j) from (hO.out.alloc _).below (Below.drew (Below.refl _ _)))
      have HOb := Lib.hid (show POw 47 (wr.drew.alloc (.cells #[.slice zA zn zc, .int .i64 (zN : Int)] 47)) w.heap.size u3 (Z.take j) from (hO.out.below (Below.drew (Below.refl _ _))).alloc _)
      have HIa := Lib.hid (show ISl ((wr.alloc (.cells #[.slice zA zn zc, .int .i64 (zN : Int)] 47)).drew) zA zn zc zx from (isl_alloc zin _).below (Below.drew (Below.refl _ _)))
      have HIb := Lib.hid (show ISl (wr.drew.alloc (.cells #[.slice zA zn zc, .int .i64 (zN : Int)] 47)) zA zn zc zx from isl_alloc (ISl.below (show ISl wr zA zn zc zx from zin) (Below.drew (Below.refl _ _))) _)
      have HBa := Lib.hid (show Below w.heap.size w ((wr.alloc (.cells #[.slice zA zn zc, .int .i64 (zN : Int)] 47)).drew) from (hb.out.alloc hsz _).drew)
      have HBb := Lib.hid (show Below w.heap.size w (wr.drew.alloc (.cells #[.slice zA zn zc, .int .i64 (zN : Int)] 47)) from (hb.out.drew.alloc hsz _))
      have ZAP := Lib.hid zap
      have i1 : (0 : Int) ≤ (j : Int) := by omega
      have i2 : (j : Int) < (n : Int) := by omega
      clear hc zin zin0 zap hz hlz
      go_wp2_with fail
      go_region_law (first
        | (refine pstep_app ptyR _ (by rfl) (.tmp 11) (.tmp 23) (by rfl) w.heap.size _ _ (by rfl) HOa.out wr.heap.size 1 (by rfl) ⟨zA, zn, zc, zx, zN⟩ (two_cell0 wr _ _ _) (two_cell1 wr _ _ _) HIa.out ZAP.out LT HBa.out.size ?_; intro v9 w9 ho9 hb9 _; have HB9 := Lib.hid (HBa.out.trans hb9))
        | (refine pstep_app ptyR _ (by rfl) (.tmp 11) (.tmp 23) (by rfl) w.heap.size _ _ (by rfl) HOb.out wr.heap.size 1 (by rfl) ⟨zA, zn, zc, zx, zN⟩ (two_cell0 wr.drew _ _ _) (two_cell1 wr.drew _ _ _) HIb.out ZAP.out LT HBb.out.size ?_; intro v9 w9 ho9 hb9 _; have HB9 := Lib.hid (HBb.out.trans hb9))
        | fail)
      all_goals
        rw [← TK.out] at ho9
        have HO9 := Lib.hid ho9
        clear ho9 hb9
        go_wp2_with fail
        exact ⟨⟨j + 1, by omega, by go_num, HO9, HB9⟩, by simp [intOf]; omega⟩
    · obtain rfl : j = n := by omega
      have hO2 := hO.out
      rw [List.take_of_length_le (by rw [ZL.out]; exact Nat.le_refl _)] at hO2
      obtain ⟨A', c', rfl, hrd, _⟩ := hO2.rd
      rw [← ZL.out] at hrd ⊢
      have RD := Lib.hid hrd
      clear hO2 hrd
      go_wp2_with fail
      go_ret
      exact ⟨A', c', rfl, RD.out, hb.out⟩
end Go.Proofs.YtekpifafjbkmiaaDoor
