/- nat.Text, by its contract. -/
import Derived.Test.YtmajmpgcdpbnfaaDoorTxtMem
import Derived.Test.YtmajmpgcdpbnfaaDoorShelf
import Derived.Test.YtmajmpgcdpbnfaaDoorNatOpen
namespace Go.Proofs.YtmajmpgcdpbnfaaDoor
open Go.RowKit

theorem nrm_len_pos' {v : Nat} (h : v ≠ 0) : 0 < (nrm v).length := by
  rcases Nat.eq_zero_or_pos (nrm v).length with e | e
  · exact absurd ((nrm_nil_iff v).1 (List.eq_nil_of_length_eq_zero e)) h
  · exact e
theorem nrm_dig' (v : Nat) : nrm v = dig (nrm v).length v := dig_of (fit_nrm v) _ _ rfl (val_nrm v)

set_option maxHeartbeats 1000000 in
theorem text_zero (A : Option Addr) (n c : Nat) (xs : List Nat) (w : World) (h : Sl w A n c xs) (hn : n ≤ 4096) (h0 : val xs = 0) :
    Calls Tryd.prog 8 #[.slice A n c] w fun e w' => e = .returned (.string ⟨(txt (val xs)).toArray⟩) ∧ Below w.heap.size w w' := by
  have T := norm_any A n c xs w h (by omega)
  rw [h0, nrm_zero] at T
  rw [h0]
  have TT := Lib.hid T
  clear T h h0
  go_enter Tryd.func8, Tryd.ntmps8
  go_wp2_with fail
  refine TT.out.mono ?_
  rintro e w1 ⟨rfl, hb, hbel⟩
  go_wp2_with fail
  go_ret
  exact ⟨rfl, hbel⟩

def sliceLen : Value → Nat
  | .slice _ n _ => n
  | _ => 0
theorem Ow.lenOf {w : World} {B : Nat} {v : Value} {xs : List Nat} (h : Ow w B v xs) : sliceLen v = xs.length := by
  obtain ⟨A, c, rfl, _, _⟩ := h.sl
  rfl
theorem Blk.part {w : World} {g K V : Nat} (h : Blk w g (dig K V)) (n c : Nat) (hn : n ≤ K) (hc : n ≤ c) (hm : c ≤ 9223372036854775807) : Sl w (some ⟨g, 0, none⟩) n c (dig n V) := by
  have h1 := h.rd 0 n
  rw [dig_part K 0 n V (by omega), Nat.pow_zero, Nat.div_one] at h1
  exact ⟨(dig_length n V).symm, hc, hm, (fun e => by cases e), h1⟩

theorem lay_all (m v : Nat) (D : List UInt8) : layL (List.replicate (19 * (m + 1)) 0 ++ D) (19 * m) 19 v 0 = List.replicate (19 * m) 0 ++ (decN 19 v ++ D) := by
  unfold layL
  rw [Nat.add_zero, Nat.sub_zero, List.take_append_of_le_length (by simp; omega), List.take_replicate, List.drop_append_of_le_length (by simp; omega), List.drop_replicate, show min (19 * m) (19 * (m + 1)) = 19 * m by omega, show 19 * (m + 1) - (19 * m + 19) = 0 by omega, List.replicate_zero, List.nil_append, List.append_assoc]

set_option maxHeartbeats 4000000 in
theorem text_pos (A : Option Addr) (n c : Nat) (xs : List Nat) (w : World) (h : Sl w A n c xs) (hn : n ≤ 4096) (h0 : val xs ≠ 0) :
    Calls Tryd.prog 8 #[.slice A n c] w fun e w' => e = .returned (.string ⟨(txt (val xs)).toArray⟩) ∧ Below w.heap.size w w' := by
  have T := norm_any A n c xs w h (by omega)
  have hpn : (nrm (val xs)).length ≤ n := by rw [h.len]; exact nrm_length_le h.fit
  obtain ⟨V, hV⟩ : ∃ V, V = val xs := ⟨_, rfl⟩
  rw [← hV] at T hpn h0 ⊢
  have hp0 := nrm_len_pos' h0
  have hdg := nrm_dig' V
  have hVl := nrm_lt V
  obtain ⟨p, hp⟩ : ∃ p, p = (nrm V).length := ⟨_, rfl⟩
  rw [← hp] at T hpn hp0 hdg hVl
  rw [hdg] at T
  have TT := Lib.hid T
  have HP := Lib.hid hp
  have HVL := Lib.hid hVl
  have H0 := Lib.hid h0
  clear T h h0 hp hdg hVl hV
  go_enter Tryd.func8, Tryd.ntmps8
  go_wp2_with fail
  refine TT.out.mono ?_
  rintro e w1 ⟨rfl, hb1, hbel1⟩
  have hp1 : ((p : Int) == 0) = false := by simp; omega
  have HB1 := Lib.hid hb1
  have HBEL1 := Lib.hid hbel1
  have hgl := hb1.lt
  clear hb1 hbel1
  go_wp2_with fail
  go_loopw [3, 4] (fun lf bv wr => ∃ j q d : Nat, lf = .slice (some ⟨w.heap.size, 0, none⟩) q d ∧ q = (nrm (V / 10000000000000000000 ^ j)).length ∧ Blk wr w.heap.size (dig p (V / 10000000000000000000 ^ j)) ∧ Ow wr w1.heap.size bv (uL V j) ∧ (j = 0 ∨ 10000000000000000000 ^ (j - 1) ≤ V) ∧ Below w.heap.size w wr ∧ w1.heap.size ≤ wr.heap.size ∧ d = p) (fun _ bv _ => 2 * p + 1 - sliceLen bv)
  case atStart => exact ⟨0, p, p, rfl, by rw [Nat.pow_zero, Nat.div_one]; exact HP.out, by rw [Nat.pow_zero, Nat.div_one]; exact HB1.out, Ow.nil _ _, .inl rfl, HBEL1.out, Nat.le_refl _, rfl⟩
  case round =>
    obtain ⟨j, q, d, rfl, hq, hb, hown, hj, hbw, hsz, rfl⟩ := hrel
    obtain ⟨X, hX⟩ : ∃ X, X = V / 10000000000000000000 ^ j := ⟨_, rfl⟩
    rw [← hX] at hq hb
    by_cases hq0 : 0 < q
    · have hX0 : X ≠ 0 := by
        intro e
        rw [e, nrm_zero] at hq
        rw [hq] at hq0
        exact absurd hq0 (by decide)
      have hXV : X ≤ V := by rw [hX]; exact Nat.div_le_self _ _
      have hqd : q ≤ d := by
        have := len_le_of_le hXV
        rw [← hq, ← HP.out] at this
        exact this
      have hXl : X < 18446744073709551616 ^ q := by rw [hq]; exact nrm_lt X
      have DL := divLimb_le w.heap.size q d d X 10000000000000000000 wr hb hqd (by omega) hXl (by decide) (by decide)
      obtain ⟨r, hr⟩ : ∃ r, r = X % 10000000000000000000 := ⟨_, rfl⟩
      have hrb : r < 10000000000000000000 := by rw [hr]; exact Nat.mod_lt _ (by decide)
      have huS := uL_succ V j
      rw [← hX, ← hr] at huS
      rw [← hr] at DL
      have hX2 : X / 10000000000000000000 = V / 10000000000000000000 ^ (j + 1) := by rw [hX, Nat.div_div_eq_div_mul, Nat.pow_succ]
      have hj2 : 10000000000000000000 ^ j ≤ V := by
        rcases Nat.lt_or_ge V (10000000000000000000 ^ j) with h | h
        · exact absurd (by rw [hX]; exact Nat.div_eq_of_lt h) hX0
        · exact h
      have hjle := blocks_le V (j + 1) d HVL.out (.inr hj2)
      have hlen := uL_length V j
      have q1 : (0 : Int) < (q : Int) := by omega
      have HDL := Lib.hid DL
      have HUS := Lib.hid huS
      have HX2 := Lib.hid hX2
      have HJ2 := Lib.hid hj2
      have HQ := Lib.hid hq
      have HOWN := Lib.hid hown
      have HBW := Lib.hid hbw
      have HLEN := Lib.hid hlen
      have HX := Lib.hid hX
      have HXL := Lib.hid hXl
      have hsl := hown.lenOf
      rw [hlen] at hsl
      have HSL := Lib.hid hsl
      clear hsl DL huS hX2 hj2 hq hown hbw hb hX hr hXV hj hlen HB1 hXl hX0
      go_wp2_with fail
      refine HDL.out.mono ?_
      rintro e w2 ⟨rfl, hb2, hg2⟩
      have hown2 := HOWN.out.grown hg2 hgl
      have hbw2 := HBW.out.trans (below_of_grown hg2 HBW.out.size (Nat.le_refl _))
      have hlit := (blk_list w2 [r] (fit_cons (by omega) fit_nil)).sl (by simp)
      have HO2 := Lib.hid (hown2.alloc (.cells #[u64v r] 32))
      have HB2 := Lib.hid hb2
      have HL := Lib.hid hlit
      have HS := Lib.hid hbw2.size
      have HBW2 := Lib.hid (hbw2.alloc hbw2.size (.cells #[u64v r] 32))
      have hs2 : w1.heap.size ≤ w2.heap.size := Nat.le_trans hsz hg2.size
      clear hown2 hb2 hg2 hbw2 hlit
      go_wp2_with (at_builtin; refine wpList_app _ rfl (.tmp 17) (.tmp 20) rfl w1.heap.size _ (uL V j) rfl HO2.out (some ⟨w2.heap.size, 0, none⟩) 1 1 rfl [r] HL.out (by rw [HLEN.out]; omega) (by simp; omega) ?_; intro v1 w3 ho1 hb3)
      have hb3' : Blk w3 w.heap.size (dig d (X / 10000000000000000000)) := ⟨(hb3.block _ hgl).trans (HB2.out.alloc _).1, HB2.out.2⟩
      have hX3 : X / 10000000000000000000 < 18446744073709551616 ^ q := Nat.lt_of_le_of_lt (Nat.div_le_self _ _) HXL.out
      have T := trim_any _ q d _ w3 (hb3'.part q d hqd hqd (by omega))
      rw [val_dig_of_lt hX3, HX2.out] at T
      rw [HX2.out] at hb3'
      rw [← HUS.out] at ho1
      obtain ⟨q2, hq2⟩ : ∃ q2, q2 = (nrm (V / 10000000000000000000 ^ (j + 1))).length := ⟨_, rfl⟩
      rw [← hq2] at T
      have hms := ho1.lenOf
      rw [uL_length] at hms
      have TT := Lib.hid T
      have HB3 := Lib.hid hb3'
      have HO3 := Lib.hid ho1
      have HQ2 := Lib.hid hq2
      have HMS := Lib.hid hms
      have HBW3 := Lib.hid (HBW2.out.trans (hb3.mono (Nat.le_of_lt hgl)))
      have hs3 : w1.heap.size ≤ w3.heap.size := Nat.le_trans (Nat.le_trans hs2 (by simp)) hb3.size
      clear T hb3' ho1 hq2 hms hb3 hX3
      go_wp2_with fail
      refine TT.out.mono ?_
      rintro e w' ⟨rfl, rfl⟩
      go_wp2_with fail
      exact ⟨⟨j + 1, q2, d, rfl, HQ2.out, HB3.out, HO3.out, .inr HJ2.out, HBW3.out, hs3, rfl⟩, by rw [HMS.out, HSL.out]; omega⟩
    · have hX0 : X = 0 := by
        rcases Nat.eq_zero_or_pos X with e | e
        · exact e
        · exact absurd (nrm_len_pos' (v := X) (by omega)) (by omega)
      have hVj : V < 10 ^ (19 * j) := by
        rw [← unit_pow]
        rcases Nat.lt_or_ge V (10000000000000000000 ^ j) with h | h
        · exact h
        · have : 1 ≤ V / 10000000000000000000 ^ j := (Nat.le_div_iff_mul_le (Nat.pow_pos (by decide))).2 (by omega)
          omega
      have hjle := blocks_le V j d HVL.out hj
      have hj0 : 0 < j := by
        rcases Nat.eq_zero_or_pos j with e | e
        · subst e
          have := H0.out
          simp at hVj
          exact absurd hVj this
        · exact e
      obtain ⟨A2, c2, hv, hs, hge⟩ := hown.sl
      rw [uL_length] at hv hs
      obtain ⟨b, o, rfl, hbl, hcell⟩ := hs.at_ hj0
      have hle2 := hs.le
      have hmx2 := hs.max
      obtain ⟨K, hK⟩ : ∃ K, K = 19 * j := ⟨_, rfl⟩
      subst hv
      have HS := Lib.hid hs
      have HVJ := Lib.hid hVj
      have HBW := Lib.hid hbw
      have HK := Lib.hid hK
      have k1 : (j : Int) * 19 = (K : Int) := by omega
      have hKb : K ≤ 200000 := by omega
      have hq0' : ¬ (0 : Int) < (q : Int) := by omega
      have HQ := Lib.hid hq
      clear hb hown hs hVj hbw hj hge hX hX0 hK hq HB1
      go_wp2_with (at_make; refine wpList_make_bytes _ rfl _ _ rfl _ _ _ _ K rfl rfl (by omega) (by omega) (by omega) ?_; intro w4 hb4 hbel4)
      obtain ⟨gD, hgD⟩ : ∃ gD, gD = wr.heap.size := ⟨_, rfl⟩
      have hs4 := HS.out.below hbel4
      have hbw4 := HBW.out.trans (hbel4.mono HBW.out.size)
      rw [← hgD] at hb4 hbl ⊢
      have hwg : w.heap.size ≤ gD := by rw [hgD]; exact HBW.out.size
      have hst : List.replicate K (0 : UInt8) = List.replicate (19 * (j - 0)) 0 ++ decN (19 * 0) V := by rw [HK.out]; simp [decN]
      rw [hst] at hb4
      have HB4 := Lib.hid hb4
      have HS4 := Lib.hid hs4
      have HBW4 := Lib.hid hbw4
      clear hb4 hs4 hbw4 hbel4 hst hgD hcell HS HBW
      go_loopw [30] (fun iv wx => ∃ i : Nat, i ≤ j ∧ iv = .int .i64 i ∧ BBlk wx gD (List.replicate (19 * (j - i)) 0 ++ decN (19 * i) V) ∧ Sl wx (some ⟨b, o, none⟩) j c2 (uL V j) ∧ Below w.heap.size w wx) (fun iv _ => j - (intOf iv).toNat)
      case atStart => exact ⟨0, Nat.zero_le _, rfl, HB4.out, HS4.out, HBW4.out⟩
      case round =>
        obtain ⟨i, hi, rfl, hbb, hss, hbx⟩ := hrel
        clear HB4 HS4 HBW4
        by_cases hij : i < j
        · obtain ⟨m, hm⟩ : ∃ m, m = j - (i + 1) := ⟨_, rfl⟩
          have e1 : j - i = m + 1 := by omega
          rw [e1] at hbb
          obtain ⟨x, hx⟩ : ∃ x, x = V / 10000000000000000000 ^ i % 10000000000000000000 := ⟨_, rfl⟩
          have hxb : x < 10000000000000000000 := by rw [hx]; exact Nat.mod_lt _ (by decide)
          obtain ⟨b', o', hbo, _, hcell⟩ := hss.at_ (by omega)
          obtain ⟨rfl, rfl⟩ : b = b' ∧ o = o' := by simpa using hbo
          have hc := hcell i hij
          rw [uL_get V j i hij, ← hx] at hc
          have LB := fun wz (hz : BBlk wz gD (List.replicate (19 * (m + 1)) 0 ++ decN (19 * i) V)) => layBlock_any gD (19 * m) 19 (K - 19 * m) (List.replicate (19 * (m + 1)) 0 ++ decN (19 * i) V) x wz hz (by simp [decN_length]; omega) (by omega) (by omega)
          rw [lay_all, hx, block_digits, ← hx] at LB
          obtain ⟨E, hE⟩ : ∃ E, E = 19 * (m + 1) := ⟨_, rfl⟩
          obtain ⟨E1, hE1⟩ : ∃ E1, E1 = 19 * m := ⟨_, rfl⟩
          rw [← hE1] at LB
          have hK := HK.out
          have k2 : (K : Int) - (i : Int) * 19 = (E : Int) := by omega
          have k3 : (E : Int) - 19 = (E1 : Int) := by omega
          have k4 : E ≤ K := by omega
          have k5 : E1 ≤ E := by omega
          have k6 : E - E1 = 19 := by omega
          have k7 : (i : Int) < (j : Int) := by omega
          have HLB := Lib.hid LB
          have HBB := Lib.hid hbb
          have HSS := Lib.hid hss
          have HBX := Lib.hid hbx
          have K6 := Lib.hid k6
          have HM := Lib.hid hm
          have HE1 := Lib.hid hE1
          clear LB hbb hss hbx hcell hbo hx hm e1 hE hE1 hK k6
          go_wp2_with fail
          rw [K6.out]
          refine (HLB.out wr HBB.out).mono ?_
          rintro e w6 ⟨rfl, hb6, hg6⟩
          rw [HE1.out] at hb6
          have hs6 : Sl w6 (some ⟨b, o, none⟩) j c2 (uL V j) := by
            obtain ⟨a1, a2, a3, a4, a5⟩ := HSS.out
            exact ⟨a1, a2, a3, a4, Rd.grown a5 hg6 (by intro b2 o2 s2 e; simp only [Option.some.injEq, Addr.mk.injEq] at e; omega)⟩
          have hbx6 := HBX.out.trans (below_of_grown hg6 HBX.out.size hwg)
          have hmm := HM.out
          have hrel6 : BBlk w6 gD (List.replicate (19 * (j - (i + 1))) 0 ++ decN (19 * (i + 1)) V) := by rw [← hmm]; exact hb6
          have HB6 := Lib.hid hrel6
          have HS6 := Lib.hid hs6
          have HBX6 := Lib.hid hbx6
          clear hb6 hg6 hs6 hbx6 hmm hrel6
          go_wp2_with fail
          go_roundw
          case rel => exact ⟨i + 1, by omega, rfl, HB6.out, HS6.out, HBX6.out⟩
          case measure => simp [intOf]; omega
        · obtain rfl : i = j := by omega
          rw [Nat.sub_self, Nat.mul_zero, List.replicate_zero, List.nil_append, ← HK.out] at hbb
          have hlenK : (decN K V).length = K := decN_length K V
          have hstr := hbb.str K
          rw [hlenK] at hstr
          have hVK := HVJ.out
          rw [← HK.out] at hVK
          have htr := trim_decN K V hVK H0.out
          have TL := fun wz => Tryd.strings_TrimLeft_one ⟨(decN K V).toArray⟩ 48 (by decide) wz
          have ed : (⟨(decN K V).toArray⟩ : ByteArray).data.toList = decN K V := rfl
          rw [ed, htr] at TL
          obtain ⟨D, hD⟩ : ∃ D : ByteArray, D = ⟨(decN K V).toArray⟩ := ⟨_, rfl⟩
          rw [← hD] at TL hstr
          have HTL := Lib.hid TL
          have HBX := Lib.hid hbx
          clear TL hbb hss hbx hlenK hVK htr ed hD
          go_wp2_with fail
          refine (HTL.out wr).mono ?_
          rintro e w7 ⟨rfl, hw7⟩
          subst hw7
          go_wp2_with fail
          go_ret
          exact ⟨rfl, HBX.out⟩

theorem text_at (A : Option Addr) (n c : Nat) (xs : List Nat) (w : World) (h : Sl w A n c xs) (hn : n ≤ 4096) :
    Calls Tryd.prog 8 #[.slice A n c] w fun e w' => e = .returned (.string ⟨(txt (val xs)).toArray⟩) ∧ Below w.heap.size w w' := by
  by_cases h0 : val xs = 0
  · exact text_zero A n c xs w h hn h0
  · exact text_pos A n c xs w h hn h0
end Go.Proofs.YtmajmpgcdpbnfaaDoor
