/- Texts joined, in their order: FaFac, FacDg, BerH. -/
import Derived.Test.YtnkhhndjbanmnaaGreatDoorMp40
import Derived.Test.YtnkhhndjbanmnaaGreatDoorMp41
import Derived.Test.YtnkhhndjbanmnaaGreatDoorMp44

/- The document's Factors of layer 9 by contract: trial division. -/
namespace Go.Proofs.YtnkhhndjbanmnaaGreatDoor
open Go.RowKit Go.Shelf Go.Lib

def rowW (w : World) (g : Nat) : List Int := match w.heap[g]? with
  | some (.cells vs _ _) => vs.toList.map intOf
  | _ => []
theorem rowW_is {w : World} {g : Nat} {L : List Int} (h : IBlk w g L) : rowW w g = L := by
  unfold rowW
  rw [h.1]
  simp only [List.map_map]
  conv => rhs; rw [← List.map_id L]
  exact List.map_congr_left fun x _ => rfl
theorem num_lt {p : Int} (hp : 1 ≤ p) : ∀ {xs : List Int}, Dig p xs → num p xs + 1 ≤ p ^ xs.length
  | [], _ => by simp [num]
  | x :: xs, h => by
    have hx := h x (List.mem_cons_self ..)
    have ih := Int.mul_le_mul_of_nonneg_left (num_lt hp (xs := xs) fun y hy => h y (List.mem_cons_of_mem _ hy)) (show (0 : Int) ≤ p by omega)
    rw [List.length_cons, Int.pow_succ, Int.mul_comm (p ^ xs.length)]
    show x + p * num p xs + 1 ≤ _
    rw [Int.mul_add] at ih
    omega
def toGo (p : Int) (d : Nat) (row : List Int) : Nat := (2 * p ^ d - num p row).toNat
theorem toGo_inc {p : Int} {ds : List Int} {d : Nat} (hp : 1 ≤ p) (hl : ds.length = d) (hd : Dig p ds) (hb : (inc p ds).2 = true) : toGo p d ((inc p ds).1 ++ [1]) < toGo p d (ds ++ [1]) := by
  have h1 := inc_num hp hd hb
  have h2 := num_lt hp hd
  have h3 := num_lt hp (inc_dig hp hd)
  unfold toGo
  rw [num_snoc, num_snoc, inc_len, h1]
  rw [inc_len] at h3
  rw [hl] at *
  omega
theorem num_next {p : Int} {ds : List Int} (hp : 1 ≤ p) (hd : Dig p ds) (hb : (inc p ds).2 = true) : num p ((inc p ds).1 ++ [1]) = num p (ds ++ [1]) + 1 := by
  rw [num_snoc, num_snoc, inc_num hp hd hb, inc_len]
  omega
theorem digs_zero {p : Int} (hp : 1 ≤ p) (d : Nat) : Dig p (List.replicate d 0) := fun x hx => by
  rw [List.eq_of_mem_replicate hx]; omega
theorem row_zero (d : Nat) : (List.replicate (d + 1) (0 : Int)).set d 1 = List.replicate d 0 ++ [1] := by
  rw [List.replicate_succ', List.set_append_right _ _ (by simp)]
  simp
/-! Append, told by what it leaves; what an empty literal is. -/
theorem iow_mt {W : World} {g B : Nat} (hg : W.heap[g]? = some (.cells #[] 3 (0, 0))) (hB : B ≤ g) : IOw W B (.slice (some ⟨g, 0, none⟩) 0 0) [] :=
  ⟨⟨rfl, .inr ⟨g, 0, #[], rfl, hB, hg, Nat.le_refl _, by decide, rfl, rfl⟩⟩, fi_nil⟩
theorem S9.found {w0 w5 w9 w' : World} {g : Nat} {qs : List Int} {v v' : Value} {Z : List Pt} {L A9 : Option Addr} {nl cl m9 c9 k : Nat} {left : List Int} {o : Obj} (h : S9 w0 w5 g qs v Z L nl cl left) (hb : Below w5.heap.size w5 w9) (hA : ∀ b o s, A9 = some ⟨b, o, s⟩ → w5.heap.size ≤ b)
    (ho : POw 42 w' w0.heap.size v' (Z ++ [⟨A9, m9, c9, qs, k⟩])) (hg : (w9.alloc o).grownBy w' v.ownBlock) (h5 : v'.ownBlock = v.ownBlock ∨ v'.ownBlock = some (w9.alloc o).heap.size) : S9 w0 w' g qs v' (Z ++ [⟨A9, m9, c9, qs, k⟩]) L nl cl left :=
  ((h.below hb).below (bel_al w9 o)).app (ISl.fresh (fun b o s e => hA b o s e) fun k hk => by simp only [Option.some.injEq] at hk; have := h.q.lt; omega) ho hg h5 ho.ltz
theorem Inn.zero {p : Int} {left q cur : List Int} (hp : Pr p) (hl : Mn p left) (h : Inn p left q cur 0) : cur = left :=
  h.mn.ext hp hl fun r hr => by have := h.v r hr; omega
theorem Inn.long {p : Int} {left q cur : List Int} {k : Nat} (hp : Pr p) (hq : Mn p q) (h : Inn p left q cur k) (hr : remL p (cf cur) (cf q) = []) : (quoL p (cf cur) (cf q)).length + q.length = cur.length + 1 ∧ 1 ≤ (quoL p (cf cur) (cf q)).length := by
  obtain ⟨m1, m2, _⟩ := mn_quo hp h.mn hq fun r hi => V_le hp hi hq.last h.mn.last (rem_no hp hq hr)
  exact ⟨m2, m1.pos⟩
theorem Trl.often {p : Int} {m left : List Int} {out : PL} {d : Nat} {N : Int} (hp : Pr p) (hm : Mn p m) (h : Trl p m left out d N) {x : List Int × Nat} (hx : x ∈ out) : x.2 ≤ m.length := by
  have h3 := (h.fct.own x hx).2.2.1
  have e := h.fct.at_ hp hx
  have v := h.vv _ h3
  have := V_le_deg hp h3 hm.last
  omega
theorem Trl.tried {p : Int} {m left ds cur : List Int} {out : PL} {d k : Nat} (hp : Pr p) (h : Trl p m left out d (num p (ds ++ [1]))) (hl : ds.length = d) (hD : Dig p ds) (hd : 1 ≤ d) (hI : Inn p left (ds ++ [1]) cur k) (hr : remL p (cf cur) (cf (ds ++ [1])) ≠ []) :
    (k = 0 → Trl p m cur out d (num p (ds ++ [1]) + 1)) ∧ (1 ≤ k → Trl p m cur (out ++ [(ds ++ [1], k)]) d (num p (ds ++ [1]) + 1)) := by
  have hq := mn_row hp hD
  have hlen : (ds ++ [(1 : Int)]).length = d + 1 := by simp [hl]
  refine ⟨fun e => ?_, fun e => h.yes hp hq hlen hd e hI hr⟩
  subst e
  have := hI.zero hp h.lft
  subst this
  exact h.not_ hp hq hlen hr
theorem Trl.go {p : Int} {m left ds : List Int} {out : PL} {d : Nat} (hp : Pr p) (h : Trl p m left out d (num p (ds ++ [1]) + 1)) (hl : ds.length = d) (hD : Dig p ds) :
    ((inc p ds).2 = true → Trl p m left out d (num p ((inc p ds).1 ++ [1]))) ∧ ((inc p ds).2 = false → Trl p m left out (d + 1) 0) :=
  ⟨fun e => by rw [num_next (by have := hp.1; omega) hD e]; exact h, fun e => h.last hp hl hD e⟩
set_option maxRecDepth 100000 in
set_option maxHeartbeats 8000000 in
theorem rFacs (A : Option Addr) (n c : Nat) (xs : List Int) (p : Int) (w : World) (h : ISl w A n c xs) (ip : In64 p) (hn : n ≤ 1000) (h0 : eff p (cf xs) = 0) :
    Calls Tryz.prog 17 #[.slice A n c, .int .i64 p] w fun e w' => ∃ A' k c' Z, e = .returned (.tuple #[.slice A' k c', .int .i64 0]) ∧ PRd w' A' k c' Z ∧ FacN p (monL p (cf xs)) (pls Z) ∧ Below w.heap.size w w' := by
  obtain ⟨hp, hnz, hm, hl⟩ := eff_mn h0
  have CW0 := rWrong9 A n c xs p w h ip (by omega)
  rw [h0] at CW0
  have CW := Lib.hid CW0
  have MO := Lib.hid (fun (W : World) (hW : Below w.heap.size w W) => rMonic A n c xs p W (h.below hW) ip (by omega))
  rw [chk_yes (primB_yes hp)] at MO
  have HM := Lib.hid hm
  have PR := Lib.hid hp
  have M9 := Lib.hid hl
  have DV := Lib.hid (fun (C B : Option Addr) (m d n' c' : Nat) (cur q : List Int) (W : World) (hi : ISl W C m d cur) (hq : ISl W B n' c' q) (hQ : Mn p q) (hm : m ≤ 1000) (hn' : n' ≤ 1000) => by
    have := rDiv_new C B m d n' c' cur q p W hi hq ip (by omega) (by omega)
    rw [ediv_yes hp hQ.nz] at this
    exact this)
  have hp2 : 2 ≤ p := hp.1
  have hp3 := hp.2.1
  clear CW0 h ip h0 hnz hm hl
  generalize monL p (cf xs) = mo at *
  go_enter Tryz.func17, Tryz.ntmps17
  go_wp2_with (first
    | (go_at_call 11; (with_reducible refine CW.out.mono ?_); rintro e w1 ⟨rfl, hb⟩; have HB := Lib.hid hb; clear hb)
    | (go_at_call 43; (with_reducible refine (MO.out _ HB.out).mono ?_); rintro e w2 ⟨C, m, d, rfl, hg⟩; have GI := Lib.hid hg.isl; have HB2 := Lib.hid (below_to HB.out hg.bel); clear hg))
  go_loopw [7, 9, 10] (fun vl vo vd wr => ∃ (d : Nat) (Z : List Pt) (L : Option Addr) (nl cl : Nat) (left : List Int), vd = .int .i64 (d : Int) ∧ vl = .slice L nl cl ∧ 1 ≤ d ∧ d ≤ 34 ∧ Hid (S8 w wr vo Z L nl cl left) ∧ Hid (Trl p mo left (pls Z) d 0) ∧ Hid (∀ z ∈ Z, z.n ≤ 66)) (fun _ _ vd _ => 100 - (intOf vd).toNat)
  case atStart => exact ⟨1, [], C, m, d, mo, rfl, rfl, by omega, by omega, Lib.hid ⟨POw.nil _ _ _, fun k e => (by cases e), GI.out, by first | exact .inr fun b o s _ e => (by cases e), HB2.out⟩, Lib.hid (trl_start PR.out HM.out), Lib.hid fun z hz => (by cases hz)⟩
  case round =>
    obtain ⟨d, Z, L, nl, cl, left, rfl, rfl, hd1, hd2, SS, TT, ZZ⟩ := hrel
    clear GI
    obtain ⟨wo, rfl⟩ : ∃ wo, wo = wr := ⟨wr, rfl⟩
    have nll : nl ≤ 65 := by
      have h1 := TT.out.few PR.out HM.out
      have h2 := SS.out.l.len
      have := M9.out
      omega
    have hle := SS.out.l.le
    have hmx := SS.out.l.max
    have hw0 : IntKind.i64.wrap (2 * (d : Int)) = 2 * (d : Int) := by rw [IntKind.wrap_i64]; omega
    by_cases hlt : 2 * (d : Int) < (nl : Int)
    · have e1 : IntKind.i64.wrap ((d : Int) + 1) = (d : Int) + 1 := by rw [IntKind.wrap_i64]; omega
      go_wp2_with (at_make; refine wpList_make_ints _ rfl _ _ rfl _ _ _ _ (d + 1) rfl rfl (by first | exact e1 | (rw [e1]; simp) | omega) (by first | exact e1 | (rw [e1]; simp) | omega) (by omega) ?_; intro w3 hk3 hb3; have hc3 := hk3.cellD d (by simp); have hf3 := hk3.frozen d; have HK3 := Lib.hid hk3; have HB3 := Lib.hid hb3; clear hk3 hb3)
      have HW3 := Lib.hid (show S9 w (w3.setCell ⟨wo.heap.size, d, none⟩ (.int .i64 1)) wo.heap.size (List.replicate d 0 ++ [1]) u9 Z L nl cl left from by
        refine (SS.out.new HB3.out HK3.out).step (grown_set w3 wo.heap.size d _) ?_
        have := HK3.out.set_ d 1 (by unfold In64; decide)
        rw [row_zero] at this
        exact this)
      have TF := Lib.hid (TT.out.first PR.out)
      obtain ⟨g, hg⟩ : ∃ g, wo.heap.size = g := ⟨_, rfl⟩
      rw [hg] at HW3 ⊢
      clear SS TT HB3 HK3 hc3 hf3 hg
      go_loopw [7, 9] (fun vl vo wr => ∃ (ds : List Int) (Z : List Pt) (L : Option Addr) (nl cl : Nat) (left : List Int), vl = .slice L nl cl ∧ Hid (S9 w wr g (ds ++ [1]) vo Z L nl cl left) ∧ Hid (Trl p mo left (pls Z) d (num p (ds ++ [1]))) ∧ Hid (ds.length = d ∧ Dig p ds) ∧ Hid (∀ z ∈ Z, z.n ≤ 66)) (fun _ _ wr => toGo p d (rowW wr g))
      case atStart => exact ⟨List.replicate d 0, Z, L, nl, cl, left, rfl, HW3, TF, Lib.hid ⟨by simp, digs_zero (by omega) d⟩, ZZ⟩
      case round =>
        clear HW3 TF ZZ
        obtain ⟨ds, Z, L, nl, cl, left, rfl, S, TT, DD, ZZ⟩ := hrel
        have RW := Lib.hid (rowW_is S.out.q)
        go_wp2_with fail
        go_loopw [7, 12] (fun vl vn wr => ∃ (k : Nat) (L : Option Addr) (nl cl : Nat) (cur : List Int), vn = .int .i64 (k : Int) ∧ vl = .slice L nl cl ∧ Hid (S9 w wr g (ds ++ [1]) u9 Z L nl cl cur) ∧ Hid (Inn p left (ds ++ [1]) cur k)) (fun vl _ _ => slLen vl)
        case atStart => exact ⟨0, L, nl, cl, left, rfl, rfl, S, Lib.hid (inn_start TT.out.lft)⟩
        case round =>
          obtain ⟨k, L, nl, cl, cur, rfl, rfl, SI, II⟩ := hrel
          clear S
          have hQ := mn_row PR.out DD.out.2
          have hQl : (ds ++ [(1 : Int)]).length = d + 1 := by simp [DD.out.1]
          have ll := SI.out.s.l.len
          have hle3 := SI.out.s.l.le
          have hmx3 := SI.out.s.l.max
          have fw := TT.out.few PR.out HM.out
          have il := II.out.len
          have m9 := M9.out
          have nl9 : nl ≤ 65 := by omega
          have k9 : (k : Int) ≤ 65 := by omega
          have z9 : (pls Z).length ≤ 65 := by omega
          rw [pls_length] at z9
          have QS := SI.out.q.sl (by rw [hQl]; omega)
          rw [hQl] at QS
          have DVV := DV.out L (some ⟨g, 0, none⟩) nl cl (d + 1) (d + 1) cur (ds ++ [1]) wr SI.out.s.l QS hQ (by omega) (by omega)
          by_cases hr : remL p (cf cur) (cf (ds ++ [1])) = []
          · have NX := Lib.hid (II.out.next PR.out hQ (by omega) hr)
            have LG := II.out.long PR.out hQ hr
            rw [hQl] at LG
            rw [hr] at DVV
            have D5 := Lib.hid DVV
            have i1 : ¬ (nl : Int) ≤ (d : Int) := by omega
            have LL := Lib.hid (show (quoL p (cf cur) (cf (ds ++ [1]))).length < nl by omega)
            clear DVV QS hQ hQl ll fw il m9 LG hr II
            go_wp2_with (go_at_call 44; (with_reducible refine D5.out.mono ?_); rintro e w5 ⟨C5, m5, d5, C6, m6, d6, rfl, hg5, hg6, hf5⟩; obtain rfl : m6 = 0 := hg6.isl.len; have S5 := Lib.hid (SI.out.left hg5.bel hg5.isl hf5); have ML := Lib.hid (show m5 < nl by have := hg5.isl.len; have := LL.out; omega); clear hg5 hg6 hf5)
            go_roundw
            case rel => exact ⟨k + 1, C5, m5, d5, _, by go_num, rfl, S5, NX⟩
            case measure => simp [slLen]; exact ML.out
          · have TR := Lib.hid (TT.out.tried PR.out DD.out.1 DD.out.2 hd1 II.out hr)
            have D5 := Lib.hid DVV
            have RN := Lib.hid (show 1 ≤ (remL p (cf cur) (cf (ds ++ [1]))).length from List.length_pos_iff.2 hr)
            have SP := Lib.hid (fun (W : World) (hb : IBlk W g (ds ++ [1])) => rStep g (d + 1) p ds W hb (by rw [DD.out.1]) DD.out.2 (by omega) hp3 (by omega))
            clear DVV QS hQ hQl ll fw il m9 hr II
            rcases Nat.eq_zero_or_pos k with rfl | hk
            · have TG := Lib.hid ((TR.out.1 rfl).go PR.out DD.out.1 DD.out.2)
              have GI := Lib.hid (fun hb => toGo_inc (by omega) DD.out.1 DD.out.2 hb)
              cases hb : (inc p ds).2 with
              | true =>
                rw [hb] at SP
                have HB9 := Lib.hid hb
                clear hb TR
                go_wp2_with (first
                  | (go_at_call 44; (with_reducible refine D5.out.mono ?_); rintro e w5 ⟨C5, m5, d5, C6, m6, d6, rfl, hg5, hg6, hf5⟩; have i1 : (0 : Int) < (m6 : Int) := (by have := hg6.isl.len; have := RN.out; omega); have S5 := Lib.hid (SI.out.below hg5.bel); have S6 := Lib.hid (SP.out w5 S5.out.q); clear hg5 hg6 hf5)
                  | (go_at_call 45; (with_reducible refine S6.out.mono ?_); rintro e w6 ⟨rfl, hb6, hg6⟩; have S7 := Lib.hid (S5.out.step hg6 hb6); clear hb6 hg6)
                  | fail)
                exact ⟨⟨(inc p ds).1, _, L, nl, cl, cur, rfl, S7, Lib.hid (TG.out.1 HB9.out), Lib.hid ⟨by rw [inc_len]; exact DD.out.1, inc_dig (by omega) DD.out.2⟩, ZZ⟩, by rw [RW.out, rowW_is S7.out.q]; exact GI.out HB9.out⟩
              | false =>
                rw [hb] at SP
                have HB9 := Lib.hid hb
                clear hb TR
                go_wp2_with (first
                  | (go_at_call 44; (with_reducible refine D5.out.mono ?_); rintro e w5 ⟨C5, m5, d5, C6, m6, d6, rfl, hg5, hg6, hf5⟩; have i1 : (0 : Int) < (m6 : Int) := (by have := hg6.isl.len; have := RN.out; omega); have S5 := Lib.hid (SI.out.below hg5.bel); have S6 := Lib.hid (SP.out w5 S5.out.q); clear hg5 hg6 hf5)
                  | (go_at_call 45; (with_reducible refine S6.out.mono ?_); rintro e w6 ⟨rfl, hb6, hg6⟩; have S7 := Lib.hid (S5.out.step hg6 hb6); clear hb6 hg6)
                  | fail)
                exact ⟨⟨d + 1, _, L, nl, cl, cur, by go_num, rfl, by omega, by omega, Lib.hid S7.out.s, Lib.hid (TG.out.2 HB9.out), ZZ⟩, by simp [intOf]; omega⟩
            · have hk2 : (0 : Int) < (k : Int) := by omega
              have TK := Lib.hid (TR.out.2 hk)
              have TG := Lib.hid ((TR.out.2 hk).go PR.out DD.out.1 DD.out.2)
              have GI := Lib.hid (fun hb => toGo_inc (by omega) DD.out.1 DD.out.2 hb)
              have Z6 : (ds ++ [(1 : Int)]).length = d + 1 := by simp [DD.out.1]
              have Z7 := Lib.hid z9
              clear TR
              cases hb : (inc p ds).2 with
              | true =>
                rw [hb] at SP
                have HB9 := Lib.hid hb
                clear hb
                go_wp2_with (first
                  | (go_at_call 44; (with_reducible refine D5.out.mono ?_); rintro e w5 ⟨C5, m5, d5, C6, m6, d6, rfl, hg5, hg6, hf5⟩; have i1 : (0 : Int) < (m6 : Int) := (by have := hg6.isl.len; have := RN.out; omega); have S5 := Lib.hid (SI.out.below hg5.bel); have QS5 := Lib.hid (show ISl w5 (some ⟨g, 0, none⟩) (d + 1) (d + 1) (ds ++ [1]) from by { have := S5.out.q.sl (by rw [Z6]; omega); rwa [Z6] at this }); clear hg5 hg6 hf5)
                  | (at_builtin; refine iwpList_app _ rfl (.tmp 64) (.tmp 65) rfl w5.heap.size _ [] rfl (iow_mt (heap_at rfl) (Nat.le_refl _)) _ _ _ rfl (ds ++ [1]) (QS5.out.below (by (repeat (first | exact Below.refl _ _ | refine Below.drew ?_ | refine Below.alloc ?_ (by (first | exact Nat.le_refl _ | assumption | (simp <;> omega) | omega)) _)))) (by simp <;> omega) (by (first | exact Nat.le_refl _ | assumption | (simp <;> omega) | omega)) ?_; intro v9 w9 ho9 hb9; have hB9 : Below w5.heap.size w5 w9 := Below.trans (by (repeat (first | exact Below.refl _ _ | refine Below.drew ?_ | refine Below.alloc ?_ (by (first | exact Nat.le_refl _ | assumption | (simp <;> omega) | omega)) _))) hb9; have hs9 := hB9.size; obtain ⟨A9, c9, e9, hi9, ha9⟩ := ho9.sl; rw [List.nil_append, Z6] at e9 hi9; subst e9)
                  | (at_builtin; refine pwpList_g ptyRF _ rfl (.tmp 63) (.tmp 69) rfl w.heap.size _ Z rfl ((S5.out.below hB9).s.ow.alloc _) w9.heap.size 1 rfl ⟨A9, d + 1, c9, ds ++ [1], k⟩ (two_cell0 w9 _ _ _) (two_cell1 w9 _ _ _) (isl_alloc hi9 _) (ISl.fresh ha9 S5.out.s.vl) (by have := Z7.out; omega) (Nat.le_trans (S5.out.below hB9).s.b.size (bel_al w9 _).size) ?_; intro v10 w10 ho10 hg10 h510; have S10 := Lib.hid (S5.out.found hB9 ha9 ho10 hg10 h510); have S6 := Lib.hid (SP.out w10 S10.out.q); clear ho10 hg10 h510 ho9 hb9)
                  | (go_at_call 45; (with_reducible refine S6.out.mono ?_); rintro e w6 ⟨rfl, hb6, hg6⟩; have S7 := Lib.hid (S10.out.step hg6 hb6); clear hb6 hg6)
                  | fail)
                exact ⟨⟨(inc p ds).1, _, L, nl, cl, cur, rfl, S7, Lib.hid (by rw [pls_append]; exact TG.out.1 HB9.out), Lib.hid ⟨by rw [inc_len]; exact DD.out.1, inc_dig (by omega) DD.out.2⟩, Lib.hid fun z hz => by { rcases List.mem_append.1 hz with hz | hz; exact ZZ.out z hz; rw [List.mem_singleton.1 hz]; show d + 1 ≤ 66; omega }⟩, by rw [RW.out, rowW_is S7.out.q]; exact GI.out HB9.out⟩
              | false =>
                rw [hb] at SP
                have HB9 := Lib.hid hb
                clear hb
                go_wp2_with (first
                  | (go_at_call 44; (with_reducible refine D5.out.mono ?_); rintro e w5 ⟨C5, m5, d5, C6, m6, d6, rfl, hg5, hg6, hf5⟩; have i1 : (0 : Int) < (m6 : Int) := (by have := hg6.isl.len; have := RN.out; omega); have S5 := Lib.hid (SI.out.below hg5.bel); have QS5 := Lib.hid (show ISl w5 (some ⟨g, 0, none⟩) (d + 1) (d + 1) (ds ++ [1]) from by { have := S5.out.q.sl (by rw [Z6]; omega); rwa [Z6] at this }); clear hg5 hg6 hf5)
                  | (at_builtin; refine iwpList_app _ rfl (.tmp 64) (.tmp 65) rfl w5.heap.size _ [] rfl (iow_mt (heap_at rfl) (Nat.le_refl _)) _ _ _ rfl (ds ++ [1]) (QS5.out.below (by (repeat (first | exact Below.refl _ _ | refine Below.drew ?_ | refine Below.alloc ?_ (by (first | exact Nat.le_refl _ | assumption | (simp <;> omega) | omega)) _)))) (by simp <;> omega) (by (first | exact Nat.le_refl _ | assumption | (simp <;> omega) | omega)) ?_; intro v9 w9 ho9 hb9; have hB9 : Below w5.heap.size w5 w9 := Below.trans (by (repeat (first | exact Below.refl _ _ | refine Below.drew ?_ | refine Below.alloc ?_ (by (first | exact Nat.le_refl _ | assumption | (simp <;> omega) | omega)) _))) hb9; have hs9 := hB9.size; obtain ⟨A9, c9, e9, hi9, ha9⟩ := ho9.sl; rw [List.nil_append, Z6] at e9 hi9; subst e9)
                  | (at_builtin; refine pwpList_g ptyRF _ rfl (.tmp 63) (.tmp 69) rfl w.heap.size _ Z rfl ((S5.out.below hB9).s.ow.alloc _) w9.heap.size 1 rfl ⟨A9, d + 1, c9, ds ++ [1], k⟩ (two_cell0 w9 _ _ _) (two_cell1 w9 _ _ _) (isl_alloc hi9 _) (ISl.fresh ha9 S5.out.s.vl) (by have := Z7.out; omega) (Nat.le_trans (S5.out.below hB9).s.b.size (bel_al w9 _).size) ?_; intro v10 w10 ho10 hg10 h510; have S10 := Lib.hid (S5.out.found hB9 ha9 ho10 hg10 h510); have S6 := Lib.hid (SP.out w10 S10.out.q); clear ho10 hg10 h510 ho9 hb9)
                  | (go_at_call 45; (with_reducible refine S6.out.mono ?_); rintro e w6 ⟨rfl, hb6, hg6⟩; have S7 := Lib.hid (S10.out.step hg6 hb6); clear hb6 hg6)
                  | fail)
                exact ⟨⟨d + 1, _, L, nl, cl, cur, by go_num, rfl, by omega, by omega, Lib.hid S7.out.s, Lib.hid (by rw [pls_append]; exact TG.out.2 HB9.out), Lib.hid fun z hz => by { rcases List.mem_append.1 hz with hz | hz; exact ZZ.out z hz; rw [List.mem_singleton.1 hz]; show d + 1 ≤ 66; omega }⟩, by simp [intOf]; omega⟩
    · have z9 := TT.out.few PR.out HM.out
      have lp := TT.out.lft.pos
      have ll := SS.out.l.len
      have m9 := M9.out
      rw [pls_length] at z9
      obtain ⟨A', c', hv, hrd, _⟩ := SS.out.ow.rd
      by_cases h1 : nl = 1
      · have FN := Lib.hid (TT.out.none_ PR.out (by omega))
        have RD := Lib.hid hrd
        have i1 : ¬ (1 : Int) < (nl : Int) := by omega
        subst hv
        clear hrd z9 lp ll m9
        go_wp2_with fail
        go_ret2
        exact ⟨A', _, c', rfl, Z, RD.out, FN.out, SS.out.b⟩
      · have i1 : (1 : Int) < (nl : Int) := by omega
        have IR := Lib.hid (TT.out.rest PR.out (by omega) (by omega))
        have sh2 : A' = none ∧ c' = 0 ∨ ∃ b, A' = some ⟨b, 0, none⟩ := by have hs := SS.out.ow; rw [hv] at hs; exact POw.shape hs
        have PU : ∃ _ : Nat, Calls Tryz.prog 29 #[.slice A' Z.length c', .slice L nl cl] wo fun e w' => ∃ b' n' c' Z' k, e = .returned (.slice (some ⟨b', 0, none⟩) n' c') ∧ PRd w' (some ⟨b', 0, none⟩) n' c' Z' ∧ PutOut Z left k (pls Z') ∧ Below wo.heap.size wo w' := by
          have hZ : ∀ z ∈ Z, z.n ≤ 1000 ∧ z.N ≤ 1000 := fun z hz => ⟨by have := ZZ.out z hz; omega, by have := TT.out.often PR.out HM.out (x := z.pl) (List.mem_map.2 ⟨z, hz, rfl⟩); have e : z.pl.2 = z.N := rfl; omega⟩
          rcases sh2 with h | ⟨b, h⟩
          · exact ⟨0, rPut 0 0 A' L Z.length c' nl cl Z left wo (.inl h) hrd SS.out.l (by omega) hZ⟩
          · exact ⟨b, rPut b 0 A' L Z.length c' nl cl Z left wo (.inr h) hrd SS.out.l (by omega) hZ⟩
        obtain ⟨_, PU⟩ := PU
        have PU2 := Lib.hid PU
        have DN := Lib.hid (fun k P (hP : PutOut Z left k P) => put_fct TT.out.fct TT.out.lft (show 2 ≤ left.length by omega) IR.out hP)
        have LL := Lib.hid ll
        subst hv
        clear hrd sh2 z9 lp ll m9 PU
        go_wp2_with (go_at_call 29; (with_reducible refine PU2.out.mono ?_); rintro e w9 ⟨b9, n9, c9, Z9, k9, rfl, hr9, hp9, hb9⟩; have RD9 := Lib.hid hr9; have PP9 := Lib.hid hp9; have BB9 := Lib.hid (below_to SS.out.b hb9); clear hr9 hp9 hb9)
        go_ret2
        obtain ⟨f1, f2⟩ := DN.out _ _ PP9.out
        exact ⟨_, n9, c9, Z9, rfl, RD9.out, f1.facN PR.out fun q hq => by rw [f2 q, TT.out.vv q hq], BB9.out⟩
end Go.Proofs.YtnkhhndjbanmnaaGreatDoor

/- ffac.Degrees by contract, where it refuses. -/
namespace Go.Proofs.YtnkhhndjbanmnaaGreatDoor
open Go.RowKit Go.Shelf Go.Lib

set_option maxRecDepth 100000 in
set_option maxHeartbeats 1000000 in
theorem gDegNo (A : Option Addr) (n c : Nat) (xs : List Int) (p : Int) (w : World) (hT : TabAt w) (h : ISl w A n c xs) (ip : In64 p) (hn : n ≤ 17592186044416) (h0 : esf p (cf xs) ≠ 0) :
    Calls Tryz.prog 15 #[.slice A n c, .int .i64 p] w fun e w' => e = .returned (.tuple #[nilv, .int .i64 (esf p (cf xs))]) ∧ Below w.heap.size w w' := by
  have CC := Lib.hid (gSqNo A n c xs p w hT h ip hn h0)
  have H0 : Hid ((esf p (cf xs) == 0) = false) := Lib.hid (by simpa using h0)
  generalize esf p (cf xs) = u at *
  clear hT h ip hn
  go_enter Tryz.func15, Tryz.ntmps15
  go_wp2_with (go_at_call 39; (with_reducible refine CC.out.mono ?_); rintro e w1 ⟨rfl, hb⟩; have HB := Lib.hid hb; clear hb)
  go_ret2
  exact ⟨rfl, HB.out⟩
end Go.Proofs.YtnkhhndjbanmnaaGreatDoor

/- x to the p-th less x: all that are x less a residue, each once. Mathematics alone. -/
namespace Go.Proofs.YtnkhhndjbanmnaaGreatDoor
open Ser (Bd)

theorem prs {P : Nat} (h : P ∈ [2, 3, 5, 7, 11, 13, 31, 61]) : Pr (P : Int) := by
  simp only [List.mem_cons, List.not_mem_nil, or_false] at h
  rcases h with rfl | rfl | rfl | rfl | rfl | rfl | rfl | rfl
  · exact pr_trial (n := 2) (by decide) (by decide) 2 (by decide) (fun e h2 h3 => (by decide : ∀ e, e < 2 → 2 ≤ e → ¬ e ∣ 2) e h3 h2)
  · exact pr_trial (n := 3) (by decide) (by decide) 2 (by decide) (fun e h2 h3 => (by decide : ∀ e, e < 2 → 2 ≤ e → ¬ e ∣ 3) e h3 h2)
  · exact pr_trial (n := 5) (by decide) (by decide) 3 (by decide) (fun e h2 h3 => (by decide : ∀ e, e < 3 → 2 ≤ e → ¬ e ∣ 5) e h3 h2)
  · exact pr_trial (n := 7) (by decide) (by decide) 3 (by decide) (fun e h2 h3 => (by decide : ∀ e, e < 3 → 2 ≤ e → ¬ e ∣ 7) e h3 h2)
  · exact pr_trial (n := 11) (by decide) (by decide) 4 (by decide) (fun e h2 h3 => (by decide : ∀ e, e < 4 → 2 ≤ e → ¬ e ∣ 11) e h3 h2)
  · exact pr_trial (n := 13) (by decide) (by decide) 4 (by decide) (fun e h2 h3 => (by decide : ∀ e, e < 4 → 2 ≤ e → ¬ e ∣ 13) e h3 h2)
  · exact pr_trial (n := 31) (by decide) (by decide) 6 (by decide) (fun e h2 h3 => (by decide : ∀ e, e < 6 → 2 ≤ e → ¬ e ∣ 31) e h3 h2)
  · exact pr_trial (n := 61) (by decide) (by decide) 8 (by decide) (fun e h2 h3 => (by decide : ∀ e, e < 8 → 2 ≤ e → ¬ e ∣ 61) e h3 h2)

def fldL (P : Nat) : List Int := ((List.replicate (P + 1) 0).set 1 (-1)).set P 1
theorem fldL_len (P : Nat) : (fldL P).length = P + 1 := by simp [fldL]
theorem cf_fldL {P : Nat} (h2 : 2 ≤ P) (i : Nat) : cf (fldL P) i = if i = P then 1 else if i = 1 then -1 else 0 := by
  unfold fldL cf
  rw [List.getD_eq_getElem?_getD, List.getElem?_set, List.getElem?_set, List.getElem?_replicate]
  by_cases h : P = i
  · subst h; simp
  · rw [if_neg h, if_neg (Ne.symm h)]
    by_cases k : 1 = i
    · subst k
      have h3 : 0 < P := by omega
      simp [h3]
    · rw [if_neg k, if_neg (Ne.symm k)]
      split <;> simp
theorem fld_frob {P : Nat} (h2 : 2 ≤ P) : cf (fldL P) = frobS (P : Int) Xs := by
  funext i
  rw [cf_fldL h2]
  unfold frobS
  rw [show (P : Int).toNat = P from rfl, Xs, pw_mono]
  show _ = (if i = P then (1 : Int) else 0) + -1 * (if i = 1 then (1 : Int) else 0)
  by_cases h : i = P
  · rw [if_pos h, if_pos h, if_neg (by omega)]; rfl
  · rw [if_neg h, if_neg h]
    by_cases k : i = 1
    · rw [if_pos k, if_pos k]; rfl
    · rw [if_neg k, if_neg k]; rfl
theorem fld_last {P : Nat} (hp : Pr (P : Int)) (h2 : 2 ≤ P) : Last (P : Int) (cf (fldL P)) P := by
  refine ⟨?_, ?_⟩
  · have := bd_len (P : Int) (fldL P)
    rwa [fldL_len] at this
  · rw [cf_fldL h2, if_pos rfl, pr_one hp]; decide
theorem lin_cf (c : Int) : cf [c, 1] = lin Xs (-c) := by
  funext i
  show _ = (if i = 1 then (1 : Int) else 0) + (if i = 0 then -(-c) else 0)
  match i with
  | 0 => show c = _; simp
  | 1 => rfl
  | i + 2 => rw [cf_over (by simp), if_neg (by omega), if_neg (by omega)]; rfl
theorem V_prodX {p : Int} (hp : Pr p) {q : Ser} (hq : Irr p q) : ∀ n, 1 ≤ V p (prodS Xs n) q → ∃ j : Nat, j < n ∧ Ser.Eq p q (lin Xs j) := by
  intro n
  induction n with
  | zero =>
    intro h
    have : V p (prodS Xs 0) q = 0 := V_unit hp hq (mo_one hp).last
    omega
  | succ n ih =>
    intro h
    have e : V p (prodS Xs (n + 1)) q = V p (prodS Xs n) q + V p (lin Xs n) q := V_mul hp hq (mo_prodX hp n).last (mo_linX hp n).last
    by_cases k : 1 ≤ V p (lin Xs n) q
    · exact ⟨n, by omega, irr_dvd hp hq (irr_linX hp n) ((V_pos hp hq (mo_linX hp n).last).2 k)⟩
    · obtain ⟨j, h1, h2⟩ := ih (by omega)
      exact ⟨j, by omega, h2⟩
theorem lin_sameX {p : Int} {c d : Int} (h : c % p = d % p) : Ser.Eq p (lin Xs c) (lin Xs d) := fun i => by
  show ((if i = 1 then (1 : Int) else 0) + (if i = 0 then -c else 0)) % p = ((if i = 1 then (1 : Int) else 0) + (if i = 0 then -d else 0)) % p
  by_cases k : i = 0
  · rw [if_pos k, if_pos k, if_neg (by omega), Int.zero_add, Int.zero_add]
    rw [← Int.zero_sub, ← Int.zero_sub d, Int.sub_emod, h, ← Int.sub_emod]
  · rw [if_neg k, if_neg k]
theorem V_prodX_one {p : Int} (hp : Pr p) (c : Nat) (hc : (c : Int) < p) : ∀ n : Nat, (n : Int) ≤ p → V p (prodS Xs n) (lin Xs c) = if c < n then 1 else 0 := by
  intro n
  induction n with
  | zero => exact fun _ => V_unit hp (irr_linX hp c) (mo_one hp).last
  | succ n ih =>
    intro hn
    have e : V p (prodS Xs (n + 1)) (lin Xs c) = V p (prodS Xs n) (lin Xs c) + V p (lin Xs n) (lin Xs c) := V_mul hp (irr_linX hp c) (mo_prodX hp n).last (mo_linX hp n).last
    rw [e, ih (by omega)]
    by_cases k : c = n
    · subst k
      rw [V_self hp (irr_linX hp c), if_neg (by omega), if_pos (by omega)]
    · rw [V_other hp (irr_linX hp c) (irr_linX hp n) fun e2 => k ?_]
      · by_cases k2 : c < n
        · rw [if_pos k2, if_pos (by omega)]
        · rw [if_neg k2, if_neg (by omega)]
      · have := linX_apart hp ((Mult.refl p _).eqR e2)
        rw [Int.emod_eq_of_lt (a := (n : Int)) (by omega) (by omega), Int.emod_eq_of_lt (by omega) hc] at this
        omega
def linsL (P : Nat) : PL := (List.range P).map fun (i : Nat) => ([(i : Int), 1], 1)
theorem linsL_len (P : Nat) : (linsL P).length = P := by simp [linsL]
theorem linsL_at {P i : Nat} (h : i < (linsL P).length) : (linsL P)[i] = ([(i : Int), 1], 1) := by simp [linsL]
theorem lin_res {P : Nat} (hp : Pr (P : Int)) (j : Nat) (hj : j < P) : ∃ i : Nat, i < P ∧ (-(i : Int)) % P = (j : Int) % P ∧ ∀ k : Nat, k < P → (-(k : Int)) % P = (j : Int) % P → k = i := by
  have h2 := hp.1
  have hP : 0 < P := by omega
  rcases Nat.eq_zero_or_pos j with rfl | h0
  · refine ⟨0, hP, by simp, fun k hk h => ?_⟩
    rcases Nat.eq_zero_or_pos k with k0 | k0
    · exact k0
    · exfalso
      have e : (-(k : Int)) % P = (P : Int) - k := by
        rw [show (-(k : Int)) = ((P : Int) - k) + (P : Int) * (-1) by omega, Int.add_mul_emod_self_left, Int.emod_eq_of_lt (by omega) (by omega)]
      rw [e] at h
      simp at h
      omega
  · have e : ∀ k : Nat, 0 < k → k < P → (-(k : Int)) % P = (P : Int) - k := fun k k0 hk => by
      rw [show (-(k : Int)) = ((P : Int) - k) + (P : Int) * (-1) by omega, Int.add_mul_emod_self_left, Int.emod_eq_of_lt (by omega) (by omega)]
    have ej : (j : Int) % P = j := Int.emod_eq_of_lt (by omega) (by omega)
    refine ⟨P - j, by omega, by rw [e (P - j) (by omega) (by omega), ej]; omega, fun k hk h => ?_⟩
    rcases Nat.eq_zero_or_pos k with rfl | k0
    · exfalso
      rw [ej] at h
      simp at h
      omega
    · rw [e k k0 hk, ej] at h
      omega
theorem neg_res {P : Nat} (hp : Pr (P : Int)) (i : Nat) : ∃ j : Nat, j < P ∧ (-(i : Int)) % P = (j : Int) % P := by
  have h2 := hp.1
  have h0 := Int.emod_nonneg (-(i : Int)) (b := (P : Int)) (by omega)
  have h1 := Int.emod_lt_of_pos (-(i : Int)) (b := (P : Int)) (by omega)
  refine ⟨((-(i : Int)) % P).toNat, by omega, ?_⟩
  rw [Int.toNat_of_nonneg h0, Int.emod_emod_of_dvd _ (Int.dvd_refl _)]
theorem fld_facs {P : Nat} (hp : Pr (P : Int)) : FacN P (monL P (cf (fldL P))) (linsL P) := by
  have h2 : 2 ≤ P := by have := hp.1; omega
  have hl := fld_last hp h2
  obtain ⟨m1, _, _, m4⟩ := mn_mon hp hl
  have eV : ∀ q, Irr (P : Int) q → V P (cf (monL P (cf (fldL P)))) q = V P (prodS Xs P) q := fun q hq => by
    rw [m4 q hq, fld_frob h2]
    exact V_congr (frobX_prod hp)
  have mo : ∀ i : Nat, Mo (P : Int) (cf [(i : Int), 1]) 1 := fun i => by rw [lin_cf]; exact mo_linX hp _
  have ir : ∀ i : Nat, Irr (P : Int) (cf [(i : Int), 1]) := fun i => irr_linear hp (mo i)
  refine ⟨fun x hx => ?_, fun q hq hv => ?_, ?_⟩
  · obtain ⟨i, hi, rfl⟩ := List.mem_map.1 hx
    have hi := List.mem_range.1 hi
    refine ⟨⟨⟨fun y hy => ?_, .inr (by show (1 : Int) ≠ 0; decide)⟩, by simp, mo i⟩, by simp, ir i, Nat.le_refl _, ?_⟩
    · simp only [List.mem_cons, List.not_mem_nil, or_false] at hy
      have := hp.1
      rcases hy with rfl | rfl <;> omega
    · rw [eV _ (ir i)]
      obtain ⟨j, hj, e⟩ := neg_res hp i
      show V P (prodS Xs P) (cf [(i : Int), 1]) = 1
      rw [V_congrQ hp (ir i) (mo_prodX hp P).last (r := lin Xs j) (by rw [lin_cf]; exact lin_sameX e), V_prodX_one hp j (by omega) P (Int.le_refl _), if_pos hj]
  · rw [eV q hq] at hv
    obtain ⟨j, hj, e⟩ := V_prodX hp hq P hv
    obtain ⟨i, hi, e2, _⟩ := lin_res hp j hj
    refine ⟨_, List.mem_map.2 ⟨i, List.mem_range.2 hi, rfl⟩, ?_⟩
    rw [show cf ([(i : Int), 1], 1).1 = lin Xs (-i) from lin_cf _]
    exact e.trans (lin_sameX e2.symm)
  · unfold linsL
    rw [List.pairwise_map]
    refine List.Pairwise.imp_of_mem (R := (· < ·)) (fun {a b} _ _ h => ?_) List.pairwise_lt_range
    show ordI [(a : Int), 1] [(b : Int), 1] = -1
    unfold ordI
    rw [if_pos (show [(a : Int), 1].length = [(b : Int), 1].length from rfl)]
    show ordN [(a : Int), 1] [(b : Int), 1] 2 = -1
    rw [ordN_same (show cf [(a : Int), 1] 1 = cf [(b : Int), 1] 1 from rfl), ordN_diff (show cf [(a : Int), 1] 0 ≠ cf [(b : Int), 1] 0 by show (a : Int) ≠ b; omega)]
    have := cmpZ_cases (a : Int) (b : Int)
    show cmpZ (a : Int) (b : Int) = -1
    omega
end Go.Proofs.YtnkhhndjbanmnaaGreatDoor
