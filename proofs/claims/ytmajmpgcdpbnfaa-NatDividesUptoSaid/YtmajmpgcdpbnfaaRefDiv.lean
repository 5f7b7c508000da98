/- cleaverref01.Div, by its contract. -/
import Derived.Test.YtmajmpgcdpbnfaaRefDivM
import Derived.Test.YtmajmpgcdpbnfaaNatShr
import Derived.Laws.BitsAllLaws
import Derived.Deep.QuietTactic
namespace Go.Proofs.Ytmajmpgcdpbnfaa
open Go.RowKit

set_option maxHeartbeats 1000000 in
theorem refDiv_zero (A B : Option Addr) (n c n' c' : Nat) (ys : List Nat) (w : World) (h' : Sl w B n' c' ys) (hn' : n' ≤ 4398046511104) (h0 : val ys = 0) :
    Calls Try.prog 24 #[.slice A n c, .slice B n' c'] w fun e w' => e = .returned (.tuple #[.slice none 0 0, .slice none 0 0, .int .i64 3]) ∧ Below w.heap.size w w' := by
  have T := digits_any B n' c' ys w h' hn'
  rw [h0, d32_zero] at T
  have TT := Lib.hid T
  clear T h0 h'
  go_enter Try.func24, Try.ntmps24
  go_wp2_with fail
  refine TT.out.mono ?_
  rintro e w1 ⟨Y, q, d2, rfl, hY, hq, hb1⟩
  obtain rfl : q = 0 := hY.len
  clear hY
  go_wp2_with fail
  go_ret3
  exact ⟨rfl, hb1⟩

/-- One bit of a digit, as the program takes it. -/
theorem bit_and (x j : Nat) (hx : x < 4294967296) : bits .and .u64 ((x : Int) / 2 ^ (j % 32)) 1 = ((x / 2 ^ (j % 32) % 2 : Nat) : Int) := by
  have e : ((x : Int) / 2 ^ (j % 32)) = ((x / 2 ^ (j % 32) : Nat) : Int) := by simp
  have hlt : x / 2 ^ (j % 32) < 18446744073709551616 := Nat.lt_of_le_of_lt (Nat.div_le_self _ _) (by omega)
  rw [e]
  have h2 := u64_and_nat (x / 2 ^ (j % 32)) 1 hlt (by decide)
  rw [Nat.and_one_is_mod] at h2
  exact h2

theorem sl_set {w : World} {A : Option Addr} {n c : Nat} {xs : List Nat} {p : Addr} {u : Value} (h : Sl w A n c xs) (ha : ∀ b o s, A = some ⟨b, o, s⟩ → p.block < b) : Sl (w.setCell p u).drew A n c xs := by
  refine ⟨h.len, h.le, h.max, h.2.2.2.1, h.fit, ?_⟩
  rcases h.rd.2 with e | ⟨b, o, rfl, hlt, hc⟩
  · exact .inl e
  · refine .inr ⟨b, o, rfl, by simpa [World.setCell] using hlt, fun j hj => ?_⟩
    have := ha b o none rfl
    show (w.setCell p u).cell? _ = _
    rw [World.cell?_setCell_other _ _ _ _ (by intro e; have h9 := congrArg Addr.block e; simp only at h9; omega)]
    exact hc j hj

set_option maxHeartbeats 4000000 in
theorem refDiv_any (A B : Option Addr) (n c n' c' : Nat) (xs ys : List Nat) (w : World) (h : Sl w A n c xs) (h' : Sl w B n' c' ys) (hn : n ≤ 1099511627776) (hn' : n' ≤ 1099511627776) (hy0 : val ys ≠ 0) :
    Calls Try.prog 24 #[.slice A n c, .slice B n' c'] w fun e w' =>
      ∃ C1 m1 e1 C2 m2 e2, e = .returned (.tuple #[.slice C1 m1 e1, .slice C2 m2 e2, .int .i64 0]) ∧ Sl w' C1 m1 e1 (nrm (val xs / val ys)) ∧ Sl w' C2 m2 e2 (nrm (val xs % val ys)) ∧ Below w.heap.size w w' := by
  obtain ⟨X, hX⟩ : ∃ X, X = val xs := ⟨_, rfl⟩
  obtain ⟨Y, hY⟩ : ∃ Y, Y = val ys := ⟨_, rfl⟩
  rw [← hX, ← hY]
  rw [← hY] at hy0
  have TX := Lib.hid (fun w (h : Sl w A n c xs) => digits_any A n c xs w h (by omega))
  have TY := Lib.hid (digits_any B n' c' ys w h' (by omega))
  rw [← hX] at TX
  rw [← hY] at TY
  have H := Lib.hid h
  clear h h' hX hY
  have hq0 : (d32 Y).length ≠ 0 := by rw [d32_pos Y hy0]; simp
  have hfx := fit32_d32 X
  have hfy := fit32_d32 Y
  have hvx := val32_d32 X
  have hvy := val32_d32 Y
  have hxlt := d32_lt X
  go_enter Try.func24, Try.ntmps24
  go_wp2_with fail
  refine TY.out.mono ?_
  rintro e w1 ⟨Ya, q, d2, rfl, hsY, hq, hb1⟩
  have hql : q ≠ 0 := by rw [hsY.len]; exact hq0
  have hq1 : ((q : Int) == 0) = false := by simp; omega
  have HQL := Lib.hid hql
  clear hq0 hql
  go_wp2_with fail
  refine (TX.out w1 (H.out.below hb1)).mono ?_
  rintro e w2 ⟨Xa, p, d1, rfl, hsX, hp, hb2⟩
  have hsY2 := hsY.below hb2
  have hb12 : Below w.heap.size w w2 := hb1.trans (hb2.mono hb1.size)
  have hpl := hsX.len
  rw [← hpl] at hxlt
  have HQY := Lib.hid hsY2.len
  generalize hdx : d32 X = dx at *
  have HDY : Hid (∀ v, v < Y → (d32 v).length ≤ q) := Lib.hid (fun v hv => by rw [HQY.out]; exact d32_len_le (by omega))
  have HQYS : Hid (∀ v, Y ≤ v → q ≤ (d32 v).length) := Lib.hid (fun v hv => by rw [HQY.out]; exact d32_len_le hv)
  generalize hdy : d32 Y = dy at *
  have HX := Lib.hid hsX
  have HY := Lib.hid hsY2
  have HFX := Lib.hid hfx
  have HFY := Lib.hid hfy
  have HVX := Lib.hid hvx
  have HVY := Lib.hid hvy
  have HXLT := Lib.hid hxlt
  have HY0 : Hid (0 < Y) := Lib.hid (by omega)
  have hszw := hb12.size
  clear hsY hsX hsY2 hb1 hb2 hpl hfx hfy hvx hvy hxlt hdx hdy hy0 TX TY
  go_wp2_with (at_make; refine wpList_make_limbs _ rfl _ _ rfl _ _ _ _ p rfl rfl rfl rfl (by omega) ?_; intro w3 hk3 hb3)
  have HK3 := Lib.hid hk3
  have hp9 : p ≤ 2199023255552 := by omega
  clear hk3
  go_loopw [11, 10] (fun i r wr => ∃ k : Nat, ∃ (A' : Option Addr) (m d : Nat) (L : List Nat), k ≤ 32 * p ∧ i = .int .i64 ((k : Int) - 1) ∧ r = .slice A' m d ∧ Sl wr A' m d (d32 (X / 2 ^ k % Y)) ∧ (∀ b o s, A' = some ⟨b, o, s⟩ → w2.heap.size < b) ∧
      Blk wr w2.heap.size L ∧ (L.length = p ∧ Fit32 L ∧ val32 L = X / 2 ^ k / Y * 2 ^ k) ∧ Below w2.heap.size w2 wr) (fun i _ _ => (intOf i + 1).toNat)
  case atStart =>
    have hx0 : X / 2 ^ (32 * p) = 0 := by
      apply Nat.div_eq_of_lt
      have := HXLT.out
      rwa [show (4294967296 : Nat) = 2 ^ 32 by decide, ← Nat.pow_mul] at this
    refine ⟨32 * p, none, 0, 0, _, Nat.le_refl _, by go_num, rfl, ?_, (fun b o s e => by cases e), HK3.out, ⟨by simp, fun x hx => by rw [List.eq_of_mem_replicate hx]; decide, ?_⟩, hb3⟩
    · rw [hx0, Nat.zero_mod]
      exact ⟨rfl, Nat.le_refl _, by decide, fun _ => rfl, Rd.nil _ _⟩
    · rw [hx0, Nat.zero_div, Nat.zero_mul, val32_zeros]
  case round =>
    obtain ⟨k, A', m, d, L, hk, rfl, rfl, hr, hap, hL, hLp, hbel⟩ := hrel
    clear HK3 hb3
    by_cases hk0 : 0 < k
    · obtain ⟨j, hj⟩ : ∃ j, j = k - 1 := ⟨_, rfl⟩
      have hkj : (k : Int) - 1 = (j : Int) := by omega
      have hkj2 : k = j + 1 := by omega
      rw [hkj2] at hr hLp
      have hdb := div_bit X Y j HY0.out
      have hbit := bit_of dx j HFX.out
      rw [HVX.out] at hbit
      obtain ⟨b, o, rfl, hbl, hcx⟩ := HX.out.at_ (by omega)
      have hxc := hcx (j / 32) (by omega)
      rw [← hbel.cell (p := ⟨b, o + j / 32, none⟩) hbl] at hxc
      have hxf := fit32_getD HFX.out (j / 32)
      obtain ⟨x, hxe⟩ : ∃ x, x = dx.getD (j / 32) 0 := ⟨_, rfl⟩
      rw [← hxe] at hxc hxf hbit
      have hband := bit_and x j hxf
      rw [hbit] at hband
      simp only at hdb
      obtain ⟨bt, hbt⟩ : ∃ bt, bt = X / 2 ^ j % 2 := ⟨_, rfl⟩
      obtain ⟨R, hR⟩ : ∃ R, R = X / 2 ^ (j + 1) % Y := ⟨_, rfl⟩
      have hbt2 : bt < 2 := by rw [hbt]; exact Nat.mod_lt _ (by decide)
      have hRY : R < Y := by rw [hR]; exact Nat.mod_lt _ HY0.out
      rw [← hbt] at hband hdb
      rw [← hR] at hr hdb
      have HDB := Lib.hid hdb
      have HLP := Lib.hid hLp
      have HL := Lib.hid hL
      have HB := Lib.hid hbel
      have HRS := Lib.hid hr
      have HAP := Lib.hid hap
      have HKJ := Lib.hid hkj2
      have hsz2 := hbel.size
      have hgl := hL.lt
      rw [hkj]
      have i1 : (0 : Int) ≤ (j : Int) := by omega
      have i2 : (j : Int) / 32 < (p : Int) := by omega
      have hjk : j < 32 * p := by omega
      have hmle := hr.le
      have hmmx := hr.max
      clear hr hap hL hLp hbel hdb hbit hcx hxe hbt hR hj hkj hkj2
      have hmq : m ≤ 2199023255552 := by rw [HRS.out.len]; exact Nat.le_trans (HDY.out R hRY) (by omega)
      rename World => wo
      go_wp2_with fail
      go_loopw [14, 12, 13] (fun i v cr wq => ∃ u cc : Nat, u ≤ m ∧ i = .int .i64 u ∧ cr = u64v cc ∧ ∃ T, Ow wq wo.heap.size v T ∧ TwIn (d32 R) T bt u cc ∧ Below wo.heap.size wo wq) (fun i _ _ _ => m - (intOf i).toNat)
      case atStart => exact ⟨0, bt, Nat.zero_le _, rfl, rfl, [], Ow.nil _ _, ⟨rfl, fit32_nil, by omega, by simp [val32]⟩, Below.refl _ _⟩
      case round =>
        obtain ⟨u, cc, hu, rfl, rfl, T, hT, hIn, hbel2⟩ := hrel
        by_cases hlt : u < m
        · obtain ⟨b2, o2, rfl, hbl2, hcr⟩ := HRS.out.at_ (by omega)
          have hrc := hcr u hlt
          have hc0 := hcr u hlt
          rw [← hbel2.cell (p := ⟨b2, o2 + u, none⟩) hbl2] at hrc
          have hst := twIn_step hIn (fit32_d32 R)
          have f1 := fit32_getD (fit32_d32 R) u
          have f3 := hIn.2.2.1
          have hll : T.length = u := hIn.1
          generalize (d32 R).getD u 0 = y at *
          have hand : bits .and .u64 ((y : Int) * 2 + (cc : Int)) 4294967295 = (((y * 2 + cc) % 4294967296 : Nat) : Int) := by
            have := and32 (y * 2 + cc) (by omega)
            rw [← this]; rfl
          have hN := (blk_list wr [(y * 2 + cc) % 4294967296] (fit_cons (by omega) fit_nil)).sl (by simp)
          have HN := Lib.hid hN
          have HO := Lib.hid hT
          have HST := Lib.hid hst
          have HB2 := Lib.hid hbel2
          have hsz3 := hbel2.size
          have HLL := Lib.hid hll
          have HC0 := Lib.hid hc0
          clear hN hT hst hbel2 hIn hll hcr hc0
          have j1 : (0 : Int) ≤ (u : Int) := by omega
          have j2 : (u : Int) < (m : Int) := by omega
          go_wp2_with (at_builtin; refine wpList_app _ rfl (.tmp 48) (.tmp 57) rfl _ _ _ rfl (HO.out.alloc _) (some ⟨wr.heap.size, 0, none⟩) 1 1 rfl [(y * 2 + cc) % 4294967296] HN.out (by rw [HLL.out]; omega) (by simp; omega) ?_; intro v1 w4 ho1 hb4; have hb5 := (HB2.out.alloc hsz3 _).trans hb4; have hrc2 := (hb5.cell (p := ⟨b2, o2 + u, none⟩) hbl2); rw [HC0.out] at hrc2)
          go_roundw
          case rel => exact ⟨u + 1, y / 2147483648, by omega, by go_num, rfl, _, ho1, HST.out, hb5⟩
          case measure => simp [intOf]; omega
        · obtain rfl : u = m := by omega
          have hmR := HRS.out.len
          have hend := twIn_end (by rw [← hmR]; exact hIn)
          rw [val32_d32] at hend
          have hcc := hIn.2.2.1
          have hll : T.length = u := hIn.1
          obtain ⟨S, hS⟩ : ∃ S, S = 2 * R + bt := ⟨_, rfl⟩
          rw [← hS] at hend
          have hdb := HDB.out
          rw [← hS] at hdb
          have HDB2 := Lib.hid hdb
          have HEN := Lib.hid hend
          have hN := (blk_list wr [cc] (fit_cons (by omega) fit_nil)).sl (by simp)
          have HN := Lib.hid hN
          have HO := Lib.hid hT
          have HB2 := Lib.hid hbel2
          have hsz3 := hbel2.size
          have HLL := Lib.hid hll
          have hS2 : S < 2 * Y := by omega
          clear hN hT hend hbel2 hIn hll hmR hdb HDB hS
          go_wp2_with (at_builtin; refine wpList_app _ rfl (.tmp 64) (.tmp 66) rfl _ _ _ rfl (HO.out.alloc _) (some ⟨wr.heap.size, 0, none⟩) 1 1 rfl [cc] HN.out (by rw [HLL.out]; omega) (by simp; omega) ?_; intro v1 w5 ho1 hb4; have hb5 := (HB2.out.alloc hsz3 _).trans hb4; obtain ⟨A5, n5, d5, rfl, hs5, hap5⟩ := ho1.sl_n)
          have hpl5 := hs5.plain
          have T5 := cut_any A5 n5 d5 _ w5 hs5
          have e5 : nrm (val (T ++ [cc])) = d32 S := by rw [nrm_val_eq_tz hs5.fit, tz_eq_d32 HEN.out.1, HEN.out.2]
          have hm6 : (d32 S).length ≤ u + 1 := by
            have := nrm_length_le hs5.fit
            rw [e5, List.length_append, HLL.out] at this
            exact this
          rw [e5] at T5 hpl5
          obtain ⟨m6, hm6e⟩ : ∃ m6, m6 = (d32 S).length := ⟨_, rfl⟩
          rw [← hm6e] at T5 hpl5 hm6
          with_reducible refine T5.mono ?_
          rintro e w' ⟨rfl, rfl⟩
          have hbw5 : Below w2.heap.size w2 w5 := HB.out.trans (hb5.mono hsz2)
          have hYs := HY.out.below hbw5
          have TC := compare_any A5 Ya m6 d5 q d2 _ dy w5 hpl5 hYs (fit32_d32 S) HFY.out
          rw [val32_d32, HVY.out] at TC
          have hcase := cmpN_eq S Y
          generalize cmpN S Y = rc at *
          have TCC := Lib.hid TC
          have HP5 := Lib.hid hpl5
          have HY5 := Lib.hid hYs
          have HBW5 := Lib.hid hbw5
          have HB5 := Lib.hid hb5
          have hszo : wo.heap.size ≤ w5.heap.size := hb5.size
          have hap6 : ∀ b o s, A5 = some ⟨b, o, s⟩ → w2.heap.size < b := fun b o s e => by have := hap5 b o s e; omega
          have HAP6 := Lib.hid hap6
          have HM6 := Lib.hid hm6e
          clear T5 hpl5 e5 hs5 hap5 ho1 hb4 TC hYs hbw5 hb5 hap6 hm6e
          rcases hcase with ⟨hr, hlt2⟩ | ⟨hr, hge⟩
          · subst hr
            have hnew := HDB2.out.1 hlt2
            have HNEW := Lib.hid hnew
            clear hnew hlt2
            go_wp2_with (go_at_call 32; refine TCC.out.mono ?_; rintro e w' ⟨rfl, rfl⟩)
            go_roundw
            case rel => exact ⟨j, A5, m6, d5, L, by omega, rfl, rfl, by rw [HNEW.out.1]; exact HP5.out, HAP6.out, HL.out.below HB5.out, ⟨HLP.out.1, HLP.out.2.1, by rw [HNEW.out.2]; exact HLP.out.2.2⟩, HBW5.out⟩
            case measure => simp [intOf]
          · have hnew := HDB2.out.2 hge
            have HNEW := Lib.hid hnew
            have TL := less_any A5 Ya m6 d5 q d2 _ dy w5 HP5.out HY5.out (fit32_d32 S) HFY.out (by omega) (by rw [HP5.out.len]; exact HQYS.out S hge) (by rw [val32_d32, HVY.out]; exact hge)
            rw [val32_d32, HVY.out] at TL
            have TLL := Lib.hid TL
            clear hnew TL
            go_wp2_with (first
              | (go_at_call 32; refine TCC.out.mono ?_; rintro e w' ⟨rfl, rfl⟩)
              | (go_at_call 34; refine TLL.out.mono ?_; rintro e w6 ⟨C7, m7, d7, rfl, hs7, hm7, hap7, hb6⟩))
            have hL6 := (HL.out.below HB5.out).below hb6
            have hjl : j / 32 < L.length := by rw [HLP.out.1]; omega
            obtain ⟨hor, hsv⟩ := set_bit L j _ HLP.out.2.1 hjl HLP.out.2.2
            have hset := hL6.set_ (j / 32) _ (by omega : (L.getD (j / 32) 0 ||| 2 ^ (j % 32)) < 18446744073709551616)
            have hz := hL6.cellD (j / 32) hjl
            have hzf := hL6.frozen (j / 32)
            have hf32 := fit32_set HLP.out.2.1 (j / 32) _ hor
            have hzl := fit32_getD HLP.out.2.1 (j / 32)
            obtain ⟨z, hze⟩ : ∃ z, z = L.getD (j / 32) 0 := ⟨_, rfl⟩
            rw [← hze] at hor hsv hset hz hf32 hzl
            obtain ⟨a, ha⟩ : ∃ a, a = j / 32 := ⟨_, rfl⟩
            obtain ⟨r, hr2⟩ : ∃ r, r = j % 32 := ⟨_, rfl⟩
            have e1 : (j : Int) / 32 = (a : Int) := by omega
            have e2 : (j : Int).tdiv 32 = (a : Int) := by rw [Int.tdiv_eq_ediv_of_nonneg (by omega)]; omega
            have e3 : (j : Int).tmod 32 = (r : Int) := by rw [Int.tmod_eq_emod_of_nonneg (by omega)]; omega
            have e4 : (j : Int) % 32 = (r : Int) := by omega
            have hr3 : r < 32 := by omega
            have e5 : min r 64 = r := by omega
            have e6 := shl_one r (by omega)
            have e7 : IntKind.i64.wrap (a : Int) = (a : Int) := by rw [IntKind.wrap_i64]; omega
            have e8 : IntKind.i64.wrap (r : Int) = (r : Int) := by rw [IntKind.wrap_i64]; omega
            have i3 : (0 : Int) ≤ (a : Int) := by omega
            have i4 : (a : Int) < (p : Int) := by omega
            have i5 : (0 : Int) ≤ (r : Int) := by omega
            rw [← ha] at hset hz hzf hsv hf32
            rw [← hr2] at hset hsv hor hf32
            have HA := Lib.hid ha
            have HR2 := Lib.hid hr2
            have hpw := pow_lt64 r (by omega)
            have HPW := Lib.hid hpw
            clear ha hr2 hpw
            have hapC : ∀ b o s, C7 = some ⟨b, o, s⟩ → w2.heap.size < b := fun b o s e => by have := hap7 b o s e; omega
            have HAPC := Lib.hid hapC
            clear hapC
            have HST2 := Lib.hid hset
            have HSV := Lib.hid hsv
            have HF32 := Lib.hid hf32
            have HHAP := Lib.hid hap7
            have HS7 := Lib.hid hs7
            have hb6' := Lib.hid hb6
            clear hset hsv hf32 hap7 hs7 hL6 hze hb6
            go_region
            all_goals
              go_wp2_with fail
              have eor : bits .or .u64 (z : Int) ((2 : Int) ^ r) = ((z ||| 2 ^ r : Nat) : Int) := by
                have e : ((2 : Int) ^ r) = ((2 ^ r : Nat) : Int) := by simp
                rw [e, u64_or_nat _ _ (by omega) HPW.out]
              rw [eor]
              go_roundw
              case rel => exact ⟨j, C7, m7, d7, _, by omega, rfl, rfl, by rw [HNEW.out.1]; exact sl_set (p := ⟨w2.heap.size, a, none⟩) HS7.out HAPC.out, HAPC.out, HST2.out, ⟨by rw [List.length_set]; exact HLP.out.1, by rw [HA.out, HR2.out] at *; exact HF32.out, by rw [HSV.out, HNEW.out.2, HLP.out.2.2]⟩, ((HBW5.out.trans (hb6'.out.mono (Nat.le_trans (Nat.le_of_lt hgl) (Nat.le_trans hszo (Nat.le_refl _))))).setCell (p := ⟨w2.heap.size, a, none⟩) (Nat.le_refl _) _).drew⟩
              case measure => simp [intOf]
    · obtain rfl : k = 0 := by omega
      simp only [Nat.pow_zero, Nat.div_one, Nat.mul_one] at hr hLp
      have hsL : Sl wr (some ⟨w2.heap.size, 0, none⟩) p p L := by
        have := hL.sl (by rw [hLp.1]; omega)
        rwa [hLp.1] at this
      have hm : m ≤ 2199023255552 := by
        rw [hr.len]; exact Nat.le_trans (HDY.out _ (Nat.mod_lt _ HY0.out)) (by omega)
      have T1 := limbs_any _ _ _ L wr hsL hLp.2.1 (by omega)
      rw [hLp.2.2] at T1
      have TT1 := Lib.hid T1
      have HR := Lib.hid hr
      have HB := Lib.hid (hb12.trans (hbel.mono hszw))
      have hm2 : Hid (m ≤ 8796093022208) := Lib.hid (by omega)
      clear T1 hr hbel hsL hL hLp hap hm
      go_wp2_with fail
      with_reducible refine TT1.out.mono ?_
      rintro e s1 ⟨C1, m1, e1, rfl, hs1, hbs1⟩
      have T2 := limbs_any _ _ _ _ s1 (HR.out.below hbs1) (fit32_d32 _) hm2.out
      rw [val32_d32] at T2
      have TT2 := Lib.hid T2
      have HS1 := Lib.hid hs1
      have HB1 := Lib.hid hbs1
      clear T2 hs1 hbs1
      go_wp2_with fail
      with_reducible refine TT2.out.mono ?_
      rintro e s2 ⟨C2, m2, e2, rfl, hs2, hbs2⟩
      go_wp2_with fail
      go_ret3
      exact ⟨C1, m1, e1, C2, m2, e2, rfl, HS1.out.below hbs2, hs2, HB.out.trans ((HB1.out.trans (hbs2.mono HB1.out.size)).mono HB.out.size)⟩
end Go.Proofs.Ytmajmpgcdpbnfaa
