/- The document's example of layer 7; two matrices that are the same. -/
import Derived.Test.YtipdnfdeacdkgaaDoorFlnNull
import Derived.Test.YtipdnfdeacdkgaaDoorFlnApl
import Derived.Test.YtipdnfdeacdkgaaDoorLinNul
import Derived.Test.YtipdnfdeacdkgaaDoorLinApl
import Derived.Test.YtipdnfdeacdkgaaDoorLinSame
import Derived.Test.YtipdnfdeacdkgaaDoorLinSm
namespace Go.Proofs.YtipdnfdeacdkgaaDoor
open Go.RowKit Go.Shelf

theorem mat_blk {w : World} {g : Nat} {vs : List Value} {M : List (List Int)} (h : VBlk w g vs) (hl : vs.length = M.length) (hm : vs.length ≤ 1000) (h2 : ∀ i, i < M.length → ∃ C k d, vs.getD i nilv = .slice C k d ∧ ISl w C k d (M.getD i [])) : MatAt w (some ⟨g, 0, none⟩) vs.length vs.length M :=
  ⟨vs, h.sl (by omega), hl, fun i hi => h2 i (by rw [← hl]; exact hi)⟩
theorem pr5 : Pr 5 := pr_trial (n := 5) (by decide) (by decide) 3 (by decide) (fun e h2 h3 => by
  have : e = 2 := by omega
  subst this; decide)
abbrev exM : List (List Int) := [[1, 2], [2, 4], [0, 3]]
abbrev exP : List (Nat × List Int) := [(0, [1, 0]), (1, [0, 1])]
theorem exM_right : Right 5 exM := ⟨pr5, by decide, by decide⟩
theorem exEq {p : Int} {f g : Ser} (h0 : f 0 % p = g 0 % p) (h1 : f 1 % p = g 1 % p) (h : ∀ i, f (i + 2) % p = g (i + 2) % p) : Ser.Eq p f g := fun i => by
  match i with
  | 0 => exact h0
  | 1 => exact h1
  | i + 2 => exact h i
theorem ex_ech : EchOf 5 2 exM exP := by
  refine ⟨⟨by decide, by decide, by decide, ?_, by decide, ?_, ?_⟩, ?_, ?_⟩
  · intro a ha
    simp only [List.mem_cons, List.not_mem_nil, or_false] at ha
    rcases ha with rfl | rfl
    · intro x hx; simp at hx; rcases hx with rfl | rfl <;> decide
    · intro x hx; simp at hx; rcases hx with rfl | rfl <;> decide
  · intro a ha j hj
    simp only [List.mem_cons, List.not_mem_nil, or_false] at ha
    rcases ha with rfl | rfl
    · exact absurd hj (Nat.not_lt_zero _)
    · have : j = 0 := by simp at hj; exact hj
      subst this; rfl
  · intro a ha b hb hne
    simp only [List.mem_cons, List.not_mem_nil, or_false] at ha hb
    rcases ha with rfl | rfl <;> rcases hb with rfl | rfl
    · exact absurd rfl hne
    · rfl
    · rfl
    · exact absurd rfl hne
  · intro r hr
    simp only [rowsOf, List.map_cons, List.map_nil, List.mem_cons, List.not_mem_nil, or_false] at hr
    rcases hr with rfl | rfl
    · exact Sp.eq (.add (.row (r := [1, 2]) (by decide)) (.row (r := [0, 3]) (by decide))) (exEq (by decide) (by decide) (fun i => rfl))
    · exact Sp.eq (.sc 2 (.row (r := [0, 3]) (by decide))) (exEq (by decide) (by decide) (fun i => rfl))
  · intro r hr
    simp only [List.mem_cons, List.not_mem_nil, or_false] at hr
    have q0 : Sp 5 (rowsOf exP) (cf [1, 0]) := .row (by decide)
    have q1 : Sp 5 (rowsOf exP) (cf [0, 1]) := .row (by decide)
    rcases hr with rfl | rfl | rfl
    · exact Sp.eq (.add q0 (.sc 2 q1)) (exEq (by decide) (by decide) (fun i => rfl))
    · exact Sp.eq (.add (.sc 2 q0) (.sc 4 q1)) (exEq (by decide) (by decide) (fun i => rfl))
    · exact Sp.eq (.sc 3 q1) (exEq (by decide) (by decide) (fun i => rfl))
theorem ex_echV : echV 5 exM = [[1, 0], [0, 1]] := by
  unfold echV
  rw [ansB_yes exM_right, show cols exM = 2 from rfl, echP_eq (by decide) ex_ech]
  rfl
abbrev exN : List (List Int) := [[1, 2, 3]]
theorem exN_ok : NulOk 5 exN 3 := ⟨⟨pr5, by decide, by decide⟩, by decide, by decide, fun _ => rfl⟩
theorem exN_ech : EchOf 5 3 exN [(0, [1, 2, 3])] := by
  refine ⟨⟨by decide, by decide, by decide, ?_, by decide, ?_, ?_⟩, fun r hr => .row hr, fun r hr => .row hr⟩
  · intro a ha
    simp only [List.mem_cons, List.not_mem_nil, or_false] at ha
    subst ha
    intro x hx; simp at hx; rcases hx with rfl | rfl | rfl <;> decide
  · intro a ha j hj
    simp only [List.mem_cons, List.not_mem_nil, or_false] at ha
    subst ha
    exact absurd hj (Nat.not_lt_zero _)
  · intro a ha b hb hne
    simp only [List.mem_cons, List.not_mem_nil, or_false] at ha hb
    subst ha; subst hb
    exact absurd rfl hne
theorem ex_nulV : nulV' 5 exN 3 = [[3, 1, 0], [2, 0, 1]] := by
  unfold nulV'
  rw [ansB_yes exN_ok, show (3 : Int).toNat = 3 from rfl, echP_eq (by decide) exN_ech]
  decide

theorem fi_dec {L : List Int} (h : ∀ x ∈ L, (-9223372036854775808 ≤ x ∧ x ≤ 9223372036854775807)) : Fi L := fun x hx => h x hx
theorem al4 (w : World) (a b c d : Obj) : Below w.heap.size w ((((w.alloc a).alloc b).alloc c).alloc d) := (below_al _ _).trans (((below_al _ _).trans (((below_al _ _).trans ((below_al _ _).mono (by simp))).mono (by simp))).mono (by simp))
theorem mat3 (w : World) : MatAt ((((w.alloc (.cells #[.int .i64 1, .int .i64 2] 3)).alloc (.cells #[.int .i64 2, .int .i64 4] 3)).alloc (.cells #[.int .i64 0, .int .i64 3] 3)).alloc (.cells #[.slice (some ⟨w.heap.size, 0, none⟩) 2 2, .slice (some ⟨w.heap.size + 1, 0, none⟩) 2 2, .slice (some ⟨w.heap.size + 2, 0, none⟩) 2 2] 31)) (some ⟨w.heap.size + 3, 0, none⟩) 3 3 exM := by
  have h0 := (iblk_list w [1, 2] (fi_dec (by decide)))
  have h1 := (iblk_list (w.alloc (.cells #[.int .i64 1, .int .i64 2] 3)) [2, 4] (fi_dec (by decide)))
  have h2 := (iblk_list ((w.alloc (.cells #[.int .i64 1, .int .i64 2] 3)).alloc (.cells #[.int .i64 2, .int .i64 4] 3)) [0, 3] (fi_dec (by decide)))
  have h3 := vblk_list (((w.alloc (.cells #[.int .i64 1, .int .i64 2] 3)).alloc (.cells #[.int .i64 2, .int .i64 4] 3)).alloc (.cells #[.int .i64 0, .int .i64 3] 3)) [.slice (some ⟨w.heap.size, 0, none⟩) 2 2, .slice (some ⟨w.heap.size + 1, 0, none⟩) 2 2, .slice (some ⟨w.heap.size + 2, 0, none⟩) 2 2] (sv_cons (sv_cons (sv_one _ _ _)))
  have s1 : (w.alloc (.cells #[.int .i64 1, .int .i64 2] 3)).heap.size = w.heap.size + 1 := by simp
  have s2 : ((w.alloc (.cells #[.int .i64 1, .int .i64 2] 3)).alloc (.cells #[.int .i64 2, .int .i64 4] 3)).heap.size = w.heap.size + 2 := by simp
  have s3 : (((w.alloc (.cells #[.int .i64 1, .int .i64 2] 3)).alloc (.cells #[.int .i64 2, .int .i64 4] 3)).alloc (.cells #[.int .i64 0, .int .i64 3] 3)).heap.size = w.heap.size + 3 := by simp
  rw [s1] at h1
  rw [s2] at h2
  rw [s3] at h3
  have k0 := ((((h0.alloc (.cells #[.int .i64 2, .int .i64 4] 3)).alloc (.cells #[.int .i64 0, .int .i64 3] 3)).alloc (.cells #[.slice (some ⟨w.heap.size, 0, none⟩) 2 2, .slice (some ⟨w.heap.size + 1, 0, none⟩) 2 2, .slice (some ⟨w.heap.size + 2, 0, none⟩) 2 2] 31)).sl (by decide))
  have k1 := (((h1.alloc (.cells #[.int .i64 0, .int .i64 3] 3)).alloc (.cells #[.slice (some ⟨w.heap.size, 0, none⟩) 2 2, .slice (some ⟨w.heap.size + 1, 0, none⟩) 2 2, .slice (some ⟨w.heap.size + 2, 0, none⟩) 2 2] 31)).sl (by decide))
  have k2 := ((h2.alloc (.cells #[.slice (some ⟨w.heap.size, 0, none⟩) 2 2, .slice (some ⟨w.heap.size + 1, 0, none⟩) 2 2, .slice (some ⟨w.heap.size + 2, 0, none⟩) 2 2] 31)).sl (by decide))
  refine mat_blk h3 rfl (by simp) fun i hi => ?_
  match i, hi with
  | 0, _ => exact ⟨_, _, _, rfl, k0⟩
  | 1, _ => exact ⟨_, _, _, rfl, k1⟩
  | 2, _ => exact ⟨_, _, _, rfl, k2⟩
theorem mat2 (w : World) (L0 L1 : List Int) (f0 : Fi L0) (f1 : Fi L1) (k : Nat) (l0 : L0.length = k) (l1 : L1.length = k) (hk : k ≤ 1000) :
    MatAt (((w.alloc (.cells (L0.map iv).toArray 3)).alloc (.cells (L1.map iv).toArray 3)).alloc (.cells #[.slice (some ⟨w.heap.size, 0, none⟩) k k, .slice (some ⟨w.heap.size + 1, 0, none⟩) k k] 31)) (some ⟨w.heap.size + 2, 0, none⟩) 2 2 [L0, L1] := by
  have h0 := iblk_list w L0 f0
  have h1 := iblk_list (w.alloc (.cells (L0.map iv).toArray 3)) L1 f1
  have h3 := vblk_list ((w.alloc (.cells (L0.map iv).toArray 3)).alloc (.cells (L1.map iv).toArray 3)) [.slice (some ⟨w.heap.size, 0, none⟩) k k, .slice (some ⟨w.heap.size + 1, 0, none⟩) k k] (sv_cons (sv_one _ _ _))
  have s1 : (w.alloc (.cells (L0.map iv).toArray 3)).heap.size = w.heap.size + 1 := by simp
  have s2 : ((w.alloc (.cells (L0.map iv).toArray 3)).alloc (.cells (L1.map iv).toArray 3)).heap.size = w.heap.size + 2 := by simp
  rw [s1] at h1
  rw [s2] at h3
  have k0 := (((h0.alloc (.cells (L1.map iv).toArray 3)).alloc (.cells #[.slice (some ⟨w.heap.size, 0, none⟩) k k, .slice (some ⟨w.heap.size + 1, 0, none⟩) k k] 31)).sl (by omega))
  have k1 := ((h1.alloc (.cells #[.slice (some ⟨w.heap.size, 0, none⟩) k k, .slice (some ⟨w.heap.size + 1, 0, none⟩) k k] 31)).sl (by omega))
  rw [l0] at k0
  rw [l1] at k1
  refine mat_blk h3 rfl (by simp) fun i hi => ?_
  match i, hi with
  | 0, _ => exact ⟨_, _, _, rfl, k0⟩
  | 1, _ => exact ⟨_, _, _, rfl, k1⟩
theorem mat1 (w : World) : MatAt ((w.alloc (.cells #[.int .i64 1, .int .i64 2, .int .i64 3] 3)).alloc (.cells #[.slice (some ⟨w.heap.size, 0, none⟩) 3 3] 31)) (some ⟨w.heap.size + 1, 0, none⟩) 1 1 exN := by
  have h0 := iblk_list w [1, 2, 3] (fi_dec (by decide))
  have h3 := vblk_list (w.alloc (.cells #[.int .i64 1, .int .i64 2, .int .i64 3] 3)) [.slice (some ⟨w.heap.size, 0, none⟩) 3 3] (sv_one _ _ _)
  have s1 : (w.alloc (.cells #[.int .i64 1, .int .i64 2, .int .i64 3] 3)).heap.size = w.heap.size + 1 := by simp
  rw [s1] at h3
  have k0 := (h0.alloc (.cells #[.slice (some ⟨w.heap.size, 0, none⟩) 3 3] 31)).sl (by decide)
  refine mat_blk h3 rfl (by simp) fun i hi => ?_
  match i, hi with
  | 0, _ => exact ⟨_, _, _, rfl, k0⟩
theorem al3 (w : World) (a b c : Obj) : Below w.heap.size w (((w.alloc a).alloc b).alloc c) := (below_al _ _).trans (((below_al _ _).trans ((below_al _ _).mono (by simp))).mono (by simp))
theorem al2 (w : World) (a b : Obj) : Below w.heap.size w ((w.alloc a).alloc b) := (below_al _ _).trans ((below_al _ _).mono (by simp))

set_option maxHeartbeats 2000000 in
theorem awake07 (w : World) (hT : TabAt w) : Calls Tryd.prog 9 #[] w fun e w' => e = .returned (.bool true) ∧ Below w.heap.size w w' := by
  have in5 : In64 5 := by unfold In64; decide
  have E0 := fEchelon_any (some ⟨w.heap.size + 3, 0, none⟩) 3 3 exM 5 _ (hT.below (al4 w _ _ _ _)) (mat3 w) in5
  rw [codeP_yes exM_right, ex_echV] at E0
  have E1 := Lib.hid E0
  have N1 := Lib.hid (fun (W : World) (hT : TabAt W) => (by
    have := fNull_any (some ⟨W.heap.size + 1, 0, none⟩) 1 1 exN 3 5 _ (hT.below (al2 W _ _)) (mat1 W) in5
    rw [codeP_yes exN_ok, ex_nulV] at this
    exact this :
      Calls Tryd.prog 13 #[.slice (some ⟨W.heap.size + 1, 0, none⟩) 1 1, .int .i64 3, .int .i64 5] ((W.alloc (.cells #[.int .i64 1, .int .i64 2, .int .i64 3] 3)).alloc (.cells #[.slice (some ⟨W.heap.size, 0, none⟩) 3 3] 31)) fun e w' => RowsOut ((W.alloc (.cells #[.int .i64 1, .int .i64 2, .int .i64 3] 3)).alloc (.cells #[.slice (some ⟨W.heap.size, 0, none⟩) 3 3] 31)) [[3, 1, 0], [2, 0, 1]] 0 e w'))
  have S1 := Lib.hid (fun (W : World) (A : Option Addr) (m c : Nat) (h : MatAt W A m c [[1, 0], [0, 1]]) => (by
    have := msame_any A m c _ (some ⟨W.heap.size + 2, 0, none⟩) 2 2 _ _ (h.below (al3 W _ _ _)) (mat2 W [1, 0] [0, 1] (fi_dec (by decide)) (fi_dec (by decide)) 2 rfl rfl (by decide))
    rw [meqB_self] at this
    exact this :
      Calls Tryd.prog 12 #[.slice A m c, .slice (some ⟨W.heap.size + 2, 0, none⟩) 2 2] (((W.alloc (.cells #[.int .i64 1, .int .i64 0] 3)).alloc (.cells #[.int .i64 0, .int .i64 1] 3)).alloc (.cells #[.slice (some ⟨W.heap.size, 0, none⟩) 2 2, .slice (some ⟨W.heap.size + 1, 0, none⟩) 2 2] 31)) fun e w' => e = .returned (.bool true) ∧ Below (((W.alloc (.cells #[.int .i64 1, .int .i64 0] 3)).alloc (.cells #[.int .i64 0, .int .i64 1] 3)).alloc (.cells #[.slice (some ⟨W.heap.size, 0, none⟩) 2 2, .slice (some ⟨W.heap.size + 1, 0, none⟩) 2 2] 31)).heap.size (((W.alloc (.cells #[.int .i64 1, .int .i64 0] 3)).alloc (.cells #[.int .i64 0, .int .i64 1] 3)).alloc (.cells #[.slice (some ⟨W.heap.size, 0, none⟩) 2 2, .slice (some ⟨W.heap.size + 1, 0, none⟩) 2 2] 31)) w'))
  have S2 := Lib.hid (fun (W : World) (A : Option Addr) (m c : Nat) (h : MatAt W A m c [[3, 1, 0], [2, 0, 1]]) => (by
    have := msame_any A m c _ (some ⟨W.heap.size + 2, 0, none⟩) 2 2 _ _ (h.below (al3 W _ _ _)) (mat2 W [3, 1, 0] [2, 0, 1] (fi_dec (by decide)) (fi_dec (by decide)) 3 rfl rfl (by decide))
    rw [meqB_self] at this
    exact this :
      Calls Tryd.prog 12 #[.slice A m c, .slice (some ⟨W.heap.size + 2, 0, none⟩) 2 2] (((W.alloc (.cells #[.int .i64 3, .int .i64 1, .int .i64 0] 3)).alloc (.cells #[.int .i64 2, .int .i64 0, .int .i64 1] 3)).alloc (.cells #[.slice (some ⟨W.heap.size, 0, none⟩) 3 3, .slice (some ⟨W.heap.size + 1, 0, none⟩) 3 3] 31)) fun e w' => e = .returned (.bool true) ∧ Below (((W.alloc (.cells #[.int .i64 3, .int .i64 1, .int .i64 0] 3)).alloc (.cells #[.int .i64 2, .int .i64 0, .int .i64 1] 3)).alloc (.cells #[.slice (some ⟨W.heap.size, 0, none⟩) 3 3, .slice (some ⟨W.heap.size + 1, 0, none⟩) 3 3] 31)).heap.size (((W.alloc (.cells #[.int .i64 3, .int .i64 1, .int .i64 0] 3)).alloc (.cells #[.int .i64 2, .int .i64 0, .int .i64 1] 3)).alloc (.cells #[.slice (some ⟨W.heap.size, 0, none⟩) 3 3, .slice (some ⟨W.heap.size + 1, 0, none⟩) 3 3] 31)) w'))
  have HT := Lib.hid hT
  have B0 := Lib.hid (al4 w (.cells #[.int .i64 1, .int .i64 2] 3) (.cells #[.int .i64 2, .int .i64 4] 3) (.cells #[.int .i64 0, .int .i64 3] 3) (.cells #[.slice (some ⟨w.heap.size, 0, none⟩) 2 2, .slice (some ⟨w.heap.size + 1, 0, none⟩) 2 2, .slice (some ⟨w.heap.size + 2, 0, none⟩) 2 2] 31))
  clear E0 hT
  go_enter Tryd.func9, Tryd.ntmps9
  go_wp2_with (first
    | (go_at_call 10; (with_reducible refine E1.out.mono ?_); rintro e w1 ⟨A1, m1, c1, rfl, hM1, hb1⟩; have HM1 := Lib.hid hM1; have HB1 := Lib.hid (B0.out.trans (hb1.mono B0.out.size)); clear hM1 hb1)
    | (go_at_call 13; (with_reducible refine (N1.out _ (HT.out.below HB1.out)).mono ?_); rintro e w2 ⟨A2, m2, c2, rfl, hM2, hb2⟩; have HM2 := Lib.hid hM2; have hb2' := (al2 w1 _ _).trans (hb2.mono (al2 w1 _ _).size); have HB2 := Lib.hid (HB1.out.trans (hb2'.mono HB1.out.size)); have HM3 := Lib.hid (HM1.out.below hb2'); clear hM2 hb2 hb2')
    | (go_at_call 12; (with_reducible refine (S1.out _ _ _ _ HM3.out).mono ?_); rintro e w3 ⟨rfl, hb3⟩; have hb3' := (al3 w2 _ _ _).trans (hb3.mono (al3 w2 _ _ _).size); have HB3 := Lib.hid (HB2.out.trans (hb3'.mono HB2.out.size)); have HM4 := Lib.hid (HM2.out.below hb3'); clear hb3 hb3')
    | (go_at_call 12; (with_reducible refine (S2.out _ _ _ _ HM4.out).mono ?_); rintro e w4 ⟨rfl, hb4⟩; have hb4' := (al3 w3 _ _ _).trans (hb4.mono (al3 w3 _ _ _).size); have HB4 := Lib.hid (HB3.out.trans (hb4'.mono HB3.out.size)); clear hb4 hb4'))
  go_ret
  exact ⟨rfl, HB4.out⟩
end Go.Proofs.YtipdnfdeacdkgaaDoor
